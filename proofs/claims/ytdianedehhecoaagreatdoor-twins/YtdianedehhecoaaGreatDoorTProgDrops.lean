/- The program's drop: the closures, IndexFunc. -/
import Derived.Test.YtdianedehhecoaaGreatDoorTProgReads
import Derived.Lib.SliceRun
set_option linter.unusedVariables false
set_option linter.unusedSimpArgs false
set_option maxHeartbeats 4000000
set_option maxRecDepth 100000
namespace Go.Proofs.YtdianedehhecoaaGreatDoor
open Go.RowKit
def TellsAt (w:World)(g q:Nat)(caps:List Value)(ub:Nat)(r:Bool):Prop :=
 ∀ W:World,Keep (fun k=>k=g) w W→Calls Pz.prog q (.pointer (some ⟨ub,0,none⟩) :: caps).toArray W fun e w'=>e=.returned (.bool r)∧∃ m,w'=W.drewN m
theorem drop1Give_any {w W : World} {g B ub : Nat} {cap : Value} {r : Bool} (T : TypeId) (hm : ∀ W, (method 449 T (.pointer (some ⟨ub, 0, none⟩)) "garrison/rules.common").run Pz.prog W = .ok (250, .pointer (some ⟨ub, 0, none⟩)) W)
    (hK:Keep (fun k=>k=g) w W)(hB:W.cell? ⟨B,0,none⟩=some (.func (.func 185) #[] #[cap]))(hT:TellsAt w g 185 [cap] ub r) :
    Calls Pz.prog 145 #[.iface T (.pointer (some ⟨ub,0,none⟩)),.pointer (some ⟨B,0,none⟩)] W fun e w'=>e=.returned (.bool r)∧∃ m,w'=W.drewN m:=by
  have H1:∀ n,Calls Pz.prog 185 #[.pointer (some ⟨ub,0,none⟩),cap] (W.drewN n) fun e w'=>e=.returned (.bool r)∧∃ m,w'=(W.drewN n).drewN m:=fun n=>hT (W.drewN n) (hK.drewN n)
  have HH:=(show Hid _ from H1)
  clear H1 hT
  go_enter Pz.func145,Tryz.ntmps145
  go_wp2
  go_quiet (first|(go_at_call 250;exact Calls.quiet_of_same (common_any _ _))|exact Calls.quiet_of (HH.out _))
  go_wp2
  go_ret
  exact ⟨rfl,_,rfl⟩
theorem drop1Bury_any {w W : World} {g B ub : Nat} {r : Bool} (T : TypeId) (hm : ∀ W, (method 449 T (.pointer (some ⟨ub, 0, none⟩)) "garrison/rules.common").run Pz.prog W = .ok (250, .pointer (some ⟨ub, 0, none⟩)) W)
    (hK:Keep (fun k=>k=g) w W)(hB:W.cell? ⟨B,0,none⟩=some (.func (.func 263) #[] #[]))(hT:TellsAt w g 263 [] ub r) :
    Calls Pz.prog 145 #[.iface T (.pointer (some ⟨ub,0,none⟩)),.pointer (some ⟨B,0,none⟩)] W fun e w'=>e=.returned (.bool r)∧∃ m,w'=W.drewN m:=by
  have H1:∀ n,Calls Pz.prog 263 #[.pointer (some ⟨ub,0,none⟩)] (W.drewN n) fun e w'=>e=.returned (.bool r)∧∃ m,w'=(W.drewN n).drewN m:=fun n=>hT (W.drewN n) (hK.drewN n)
  have HH:=(show Hid _ from H1)
  clear H1 hT
  go_enter Pz.func145,Tryz.ntmps145
  go_wp2
  go_quiet (first|(go_at_call 250;exact Calls.quiet_of_same (common_any _ _))|exact Calls.quiet_of (HH.out _))
  go_wp2
  go_ret
  exact ⟨rfl,_,rfl⟩
theorem drop1Out_any {w W : World} {g B ub : Nat} {cap : Value} {r : Bool} (T : TypeId) (hm : ∀ W, (method 449 T (.pointer (some ⟨ub, 0, none⟩)) "garrison/rules.common").run Pz.prog W = .ok (250, .pointer (some ⟨ub, 0, none⟩)) W)
    (hK:Keep (fun k=>k=g) w W)(hB:W.cell? ⟨B,0,none⟩=some (.func (.func 82) #[] #[cap]))(hT:TellsAt w g 82 [cap] ub r) :
    Calls Pz.prog 145 #[.iface T (.pointer (some ⟨ub,0,none⟩)),.pointer (some ⟨B,0,none⟩)] W fun e w'=>e=.returned (.bool r)∧∃ m,w'=W.drewN m:=by
  have H1:∀ n,Calls Pz.prog 82 #[.pointer (some ⟨ub,0,none⟩),cap] (W.drewN n) fun e w'=>e=.returned (.bool r)∧∃ m,w'=(W.drewN n).drewN m:=fun n=>hT (W.drewN n) (hK.drewN n)
  have HH:=(show Hid _ from H1)
  clear H1 hT
  go_enter Pz.func145,Tryz.ntmps145
  go_wp2
  go_quiet (first|(go_at_call 250;exact Calls.quiet_of_same (common_any _ _))|exact Calls.quiet_of (HH.out _))
  go_wp2
  go_ret
  exact ⟨rfl,_,rfl⟩
theorem tellsBury {w:World}{g ub:Nat}{hp:Int}(hne:ub≠g)(hlt:ub<w.heap.size)(c5:w.cell? ⟨ub,5,none⟩=some (.int .i64 hp)):TellsAt w g 263 [] ub (decide (hp≤0)):=by
 intro W hK
 have d5:=(World.cell?_of_block (w:=w) (w':=W) (a:=⟨ub,5,none⟩) (hK.block ub hlt hne)).trans c5
 show Calls Pz.prog 263 #[.pointer (some ⟨ub,0,none⟩)] W _
 clear hK c5
 go_enter Pz.func263,Tryz.ntmps263
 go_wp2
 go_ret
 exact ⟨rfl,0,rfl⟩
theorem tellsGive {w:World}{g ub P:Nat}{own kd p:Int}(hne:ub≠g)(hlt:ub<w.heap.size)(hnp:P≠g)(hpl:P<w.heap.size)(c1:w.cell? ⟨ub,1,none⟩=some (.int .i64 own))(c2:w.cell? ⟨ub,2,none⟩=some (.int .i64 kd))(cp:w.cell? ⟨P,0,none⟩=some (.int .i64 p)) :
  TellsAt w g 185 [.pointer (some ⟨P,0,none⟩)] ub ((own == p) && (kd == 1)):=by
 intro W hK
 have d1:=(World.cell?_of_block (w:=w) (w':=W) (a:=⟨ub,1,none⟩) (hK.block ub hlt hne)).trans c1
 have d2:=(World.cell?_of_block (w:=w) (w':=W) (a:=⟨ub,2,none⟩) (hK.block ub hlt hne)).trans c2
 have dp:=(World.cell?_of_block (w:=w) (w':=W) (a:=⟨P,0,none⟩) (hK.block P hpl hnp)).trans cp
 show Calls Pz.prog 185 #[.pointer (some ⟨ub,0,none⟩),.pointer (some ⟨P,0,none⟩)] W _
 clear hK c1 c2 cp
 cases ho:(own == p)
 ·go_enter Pz.func185,Tryz.ntmps185
  go_wp2
  go_quiet (fail)
  go_wp2
  go_ret
  exact ⟨rfl,_,rfl⟩
 ·go_enter Pz.func185,Tryz.ntmps185
  go_wp2
  go_quiet (fail)
  go_wp2
  go_ret
  exact ⟨by simp,_,rfl⟩
end Go.Proofs.YtdianedehhecoaaGreatDoor
/- The library's IndexFunc and DeleteFunc over the program's units. -/
namespace Go.Proofs.YtdianedehhecoaaGreatDoor
open Go.RowKit
def Asks (w:World)(g B:Nat)(xs:List Value)(r:Nat→Bool):Prop :=
 ∀ i,i<xs.length→∀ W:World,Keep (fun k=>k=g) w W →
  Calls Pz.prog 145 #[xs.getD i .nilIface,.pointer (some ⟨B,0,none⟩)] W fun e w'=>e=.returned (.bool (r i))∧∃ m,w'=W.drewN m
def firstI (r:Nat→Bool):Nat→Nat→Int
 | 0,_=>-1
 | n+1,i=>if r i then i else firstI r n (i+1)
theorem firstI_hit (r:Nat→Bool)(n i k:Nat)(hk:k<n)(hno:∀ j,j<k→r (i+j)=false)(hy:r (i+k)=true):firstI r n i=((i+k:Nat):Int):=by
 induction n generalizing i k with
 | zero=>omega
 | succ n ih =>
  simp only[firstI]
  cases k with
  | zero=>rw[if_pos (by simpa using hy)];simp
  | succ k =>
   rw[if_neg (by rw[show r i=false from by simpa using hno 0 (by omega)];simp)]
   rw[ih (i+1) k (by omega) (fun j hj=>by have:=hno (j+1) (by omega);rwa [show i+(j+1)=i+1+j from by omega]at this) (by rwa [show i+(k+1)=i+1+k from by omega]at hy)]
   congr 1;omega
theorem firstI_miss (r:Nat→Bool)(n i:Nat)(hno:∀ j,j<n→r (i+j)=false):firstI r n i=-1:=by
 induction n generalizing i with
 | zero=>rfl
 | succ n ih =>
  simp only[firstI]
  rw[if_neg (by rw[show r i=false from by simpa using hno 0 (by omega)];simp)]
  exact ih (i+1) (fun j hj=>by have:=hno (j+1) (by omega);rwa [show i+(j+1)=i+1+j from by omega]at this)
theorem IndexFunc_any {w:World}{g cap B:Nat}{xs:List Value}{r:Nat→Bool}(hn:xs.length≤1000)(hc:∀ i,i<xs.length→w.cell? ⟨g,i,none⟩=some (xs.getD i .nilIface))(hx:∀ i,i<xs.length→∃ T p,xs.getD i .nilIface=.iface T p)(hA:Asks w g B xs r) :
  Calls Pz.prog 187 #[.slice (some ⟨g,0,none⟩) xs.length cap,.func (.func 145) #[] #[.pointer (some ⟨B,0,none⟩)]] w fun e w'=>e=.returned (.int .i64 (firstI r xs.length 0))∧∃ m,w'=w.drewN m:=by
 have HC:=(show Hid _ from hc)
 have HX:=(show Hid _ from hx)
 have HA:=(show Hid _ from hA)
 clear hc hx hA
 go_enter Pz.func187,Tryz.ntmps187
 go_wp2
 go_loopw [8] (fun i wr=>∃ k m:Nat,k≤xs.length∧i=.int .i64 k∧Hid (∀ j,j<k→r (0+j)=false)∧wr=w.drewN m) (fun i _=>xs.length-(intOf i).toNat)
 case atStart=>exact ⟨0,0,Nat.zero_le _,rfl,fun j hj=>by omega,rfl⟩
 case round =>
  obtain ⟨k,m,hk,rfl,hno,rfl⟩:=hrel
  by_cases hlt:k<xs.length
  ·have hcell:(w.drewN m).cell? ⟨g,k,none⟩=some (xs.getD k .nilIface):=HC.out k hlt
   obtain ⟨T,p,hv⟩:=HX.out k hlt
   have hcall:=HA.out k hlt (w.drewN m) ((Keep.refl _ _).drewN m)
   rw[hv]at hcell hcall
   have Hcall:=(show Hid _ from hcall)
   have Hhit:=(show Hid _ from firstI_hit r xs.length 0 k hlt hno.out)
   have Hno:=hno
   clear hcall hv hno
   cases hr:r k with
   | true =>
    rw[hr]at Hcall
    have HR:Hid (r (0+k)=true):=by unfold Hid;rw[Nat.zero_add];exact hr
    clear hr
    go_wp2_with fail
    refine Calls.mono Hcall.out ?_
    rintro e w1 ⟨rfl,m1,rfl⟩
    go_wp2
    go_ret
    refine ⟨ret_int ?_,m+m1,rfl⟩
    rw[Hhit.out HR.out,Nat.zero_add]
   | false =>
    rw[hr]at Hcall
    have HR:Hid (r (0+k)=false):=by unfold Hid;rw[Nat.zero_add];exact hr
    clear hr
    go_wp2_with fail
    refine Calls.mono Hcall.out ?_
    rintro e w1 ⟨rfl,m1,rfl⟩
    go_wp2
    go_roundw
    case rel =>
     go_light
     refine ⟨k+1,m+m1,by omega,by go_num,fun j hj=>?_,rfl⟩
     by_cases e:j=k
     ·rw[e];exact HR.out
     ·exact Hno.out j (by omega)
    case measure=>simp[intOf];omega
  ·have Hmiss:=(show Hid _ from firstI_miss r xs.length 0 (fun j hj=>hno.out j (by omega)))
   go_wp2
   go_ret
   exact ⟨by rw[Hmiss.out];rfl,m,rfl⟩
end Go.Proofs.YtdianedehhecoaaGreatDoor
/- The library's DeleteFunc over the program's units. -/
namespace Go.Proofs.YtdianedehhecoaaGreatDoor
open Go.RowKit
def keptL (xs:List Value)(r:Nat→Bool):Nat→List Value
 | 0=>[]
 | j+1=>if r j then keptL xs r j else keptL xs r j++[xs.getD j .nilIface]
theorem keptL_none (xs:List Value)(r:Nat→Bool)(j:Nat)(hj:j≤xs.length)(h:∀ i,i<j→r (0+i)=false):keptL xs r j=xs.take j:=by
 induction j with
 | zero=>simp[keptL]
 | succ j ih =>
  simp only[keptL]
  rw[show r j=false from by simpa using h j (by omega),ih (by omega) (fun i hi=>h i (by omega)),List.take_succ_eq_append_getElem (show j<xs.length by omega)]
  simp[List.getD,List.getElem?_eq_getElem (show j<xs.length by omega)]
theorem firstI_spec (r:Nat→Bool)(n i:Nat):(firstI r n i=-1∧∀ j,j<n→r (i+j)=false)∨∃ k,k<n∧firstI r n i=((i+k:Nat):Int)∧(∀ j,j<k→r (i+j)=false)∧r (i+k)=true:=by
 by_cases h:∀ j,j<n→r (i+j)=false
 ·exact .inl ⟨firstI_miss r n i h,h⟩
 ·have hex:∃ k,k<n∧r (i+k)=true:=by
   apply Classical.byContradiction
   intro hn
   apply h
   intro j hj
   cases e:r (i+j)
   ·rfl
   ·exact absurd ⟨j,hj,e⟩ hn
  have hmin:∀ m,(∃ k,k<m∧k<n∧r (i+k)=true)→∃ k,k<n∧r (i+k)=true∧∀ j,j<k→r (i+j)=false:=by
   intro m
   induction m with
   | zero=>rintro ⟨k,hk,_⟩;omega
   | succ m ih =>
    rintro ⟨k,hk,hkn,hr⟩
    by_cases hl:∃ j,j<k∧r (i+j)=true
    ·obtain ⟨j,hj,hrj⟩:=hl
     exact ih ⟨j,by omega,by omega,hrj⟩
    ·refine ⟨k,hkn,hr,fun j hj=>?_⟩
     cases e:r (i+j)
     ·rfl
     ·exact absurd ⟨j,hj,e⟩ hl
  obtain ⟨k,hk,hr⟩:=hex
  obtain ⟨k,hk,hr,hno⟩:=hmin (k+1) ⟨k,by omega,hk,hr⟩
  exact .inr ⟨k,hk,firstI_hit r n i k hk hno hr,hno,hr⟩
theorem BlkAt.setCells {g:Nat}{e:TypeId}(vs:List Value):∀ (w:World)(X:List Value)(o:Nat),BlkAt w g X e→∃ X',BlkAt (w.setCells g o vs) g X' e∧X'.length=X.length∧X'.take o=X.take o∧Keep (fun k=>k=g) w (w.setCells g o vs):=by
 induction vs with
 | nil=>intro w X o h;exact ⟨X,h,rfl,rfl,Keep.refl _ _⟩
 | cons v vs ih =>
  intro w X o h
  obtain ⟨X',h1,h2,h3,h4⟩:=ih (w.setCell ⟨g,o,none⟩ v) (X.set o v) (o+1) (h.set o v)
  refine ⟨X',h1,by simpa using h2,?_,(Keep.set (O:=fun k=>k=g) (Keep.refl _ w) (.inl rfl)).trans h4 (fun j hj=>.inl hj)⟩
  have h5:=congrArg (List.take o) h3
  rw[List.take_take,List.take_take,Nat.min_eq_left (by omega)]at h5
  rw[h5,List.take_set_of_le (by omega)]
theorem unitZero (W:World):(zeroValue 165).run Pz.prog W=.ok .nilIface W:=by kernel_rfl
theorem run_clear_run {W:World}{g K n cap:Nat}{X:List Value}(hb:BlkAt W g X 165)(hK:K<n)(hn:n≤X.length)(ty:TypeId) :
  (Builtin.clear_ #[151] ty #[.slice (some ⟨g,K,none⟩) (n-K) (cap-K)]).run Pz.prog W=.ok (.tuple #[]) (W.setCells g K (List.replicate (n-K) .nilIface)) :=
 Lib.run_clear_slice W 151 165 ty .nilIface ((Pz.gUnderlying 151).trans Tryz.underlying151) unitZero rfl rfl g K (n-K) (cap-K) (by omega)
  (fun j hj=>by rw[hb.cell (i:=K+j) (List.getElem?_eq_getElem (by omega))];rfl) (fun j hj=>hb.free _)
theorem DeleteFunc_any {w:World}{g cap B:Nat}{xs X:List Value}{r:Nat→Bool}(hn:xs.length≤1000)(hcap:X.length=cap)(hcm:cap≤maxLen)(hX:X.take xs.length=xs)(hle:xs.length≤cap)(hb:BlkAt w g X 165)
  (hx:∀ i,i<xs.length→∃ T p,xs.getD i .nilIface=.iface T p)(hA:Asks w g B xs r) :
  Calls Pz.prog 144 #[.slice (some ⟨g,0,none⟩) xs.length cap,.func (.func 145) #[] #[.pointer (some ⟨B,0,none⟩)]] w fun e w' =>
   e=.returned (.slice (some ⟨g,0,none⟩) (keptL xs r xs.length).length cap)∧(∃ X',BlkAt w' g X' 165∧X'.length=cap∧X'.take (keptL xs r xs.length).length=keptL xs r xs.length)∧Keep (fun k=>k=g) w w':=by
 have hxg:∀ i,i<xs.length→X[i]? = some (xs.getD i .nilIface):=fun i hi=>by
  have h1:(X.take xs.length)[i]? = some (xs.getD i .nilIface):=by rw[hX];simp[List.getD,List.getElem?_eq_getElem hi]
  rw[List.getElem?_take,if_pos hi]at h1
  exact h1
 have HI:=(show Hid _ from @IndexFunc_any w g cap B xs r hn (fun i hi=>hb.cell (hxg i hi)) hx hA)
 have HXg:=(show Hid _ from hxg)
 have HX:=(show Hid _ from hx)
 have HA:=(show Hid _ from hA)
 have Hb:=(show Hid _ from hb)
 have HXt:=(show Hid _ from hX)
 unfold maxLen at hcm
 clear hxg hx hA hb hX
 go_enter Pz.func144,Tryz.ntmps144
 go_wp2_with fail
 refine Calls.mono HI.out ?_
 rintro e w1 ⟨rfl,m1,rfl⟩
 rcases firstI_spec r xs.length 0 with ⟨e1,hno⟩|⟨k,hk,e1,hno,hyes⟩
 ·rw[e1]
  have HK:Hid (keptL xs r xs.length=xs):=by unfold Hid;rw[keptL_none xs r xs.length (Nat.le_refl _) hno];simp
  clear e1 hno
  go_wp2
  go_ret
  refine ⟨by rw[HK.out];rfl,⟨X,Hb.out,hcap,by rw[HK.out];exact HXt.out⟩,(Keep.refl _ _).drewN m1⟩
 ·rw[e1,Nat.zero_add]
  have hke:(((k:Nat):Int) == -1)=false:=by rw[beq_eq_false_iff_ne];omega
  have HK1:Hid (keptL xs r (k+1)=xs.take k):=by
   unfold Hid
   simp only[keptL]
   rw[if_pos (by simpa using hyes),keptL_none xs r k (by omega) hno]
  clear e1 hno hyes
  go_wp2
  go_loopw [5,6] (fun iv jv wr=>∃ (j:Nat) (X':List Value),j≤xs.length∧(keptL xs r j).length<j∧iv=.int .i64 ((keptL xs r j).length:Nat)∧jv=.int .i64 j∧BlkAt wr g X' 165∧X'.length=cap∧X'.take (keptL xs r j).length=keptL xs r j∧(∀ t,j≤t→X'[t]? = X[t]?)∧Keep (fun k=>k=g) w wr) (fun _ jv _=>xs.length-(intOf jv).toNat)
  case atStart =>
   have hl:(keptL xs r (k+1)).length=k:=by rw[HK1.out];simp;omega
   refine ⟨k+1,X,by omega,by omega,by rw[hl],by go_num,Hb.out,hcap,?_,fun t _=>rfl,(Keep.refl _ _).drewN m1⟩
   rw[hl,HK1.out]
   have:=congrArg (List.take k) HXt.out
   rw[List.take_take,Nat.min_eq_left (by omega)]at this
   exact this
  case round =>
   clear HK1 hke
   obtain ⟨j,X',hj,hij,rfl,rfl,hbk,hXl,htk,hdr,hkp⟩:=hrel
   have HKn:Hid (keptL xs r (j+1)=if r j then keptL xs r j else keptL xs r j++[xs.getD j .nilIface]):=rfl
   have Htk:=(show Hid _ from htk)
   have Hdr:=(show Hid _ from hdr)
   have Hbk:=(show Hid _ from hbk)
   have Hkp:=(show Hid _ from hkp)
   by_cases hlt:j<xs.length
   ·obtain ⟨T,p,hv⟩:=HX.out j hlt
    have hcell:wr.cell? ⟨g,j,none⟩=some (.iface T p):=hbk.cell (by rw[hdr j (Nat.le_refl _),HXg.out j hlt,hv])
    have hcall:=HA.out j hlt wr hkp
    rw[hv]at hcall HKn
    have Hcall:=(show Hid _ from hcall)
    have fz:=hbk.free (keptL xs r j).length
    obtain ⟨zv,cz⟩:∃ zv,wr.cell? ⟨g,(keptL xs r j).length,none⟩=some zv:=⟨X'[(keptL xs r j).length]'(by omega),hbk.cell (List.getElem?_eq_getElem (by omega))⟩
    clear hcall hv htk hdr hbk hkp
    generalize keptL xs r j=K at *
    cases hr:r j with
    | true =>
     rw[hr]at Hcall HKn
     rw[if_pos rfl]at HKn
     clear hr
     go_wp2_with fail
     refine Calls.mono Hcall.out ?_
     rintro e w2 ⟨rfl,m2,rfl⟩
     go_wp2
     go_roundw
     case rel =>
      go_light
      refine ⟨j+1,X',by omega,by rw[HKn.out];omega,by rw[HKn.out],by go_num,Hbk.out,hXl,by rw[HKn.out];exact Htk.out,fun t ht=>Hdr.out t (by omega),Hkp.out.drewN m2⟩
     case measure=>simp[intOf];omega
    | false =>
     rw[hr]at Hcall HKn
     rw[if_neg (by simp)]at HKn
     clear hr
     go_wp2_with fail
     refine Calls.mono Hcall.out ?_
     rintro e w2 ⟨rfl,m2,rfl⟩
     go_wp2
     go_light
     have hKl:(K++[Value.iface T p]).length=K.length+1:=by simp
     refine ⟨⟨j+1,X'.set K.length (.iface T p),by omega,by rw[HKn.out,hKl];omega,by rw[HKn.out,hKl];go_num,by go_num,BlkAt.set (w:=wr.drewN m2) Hbk.out _ _,by simpa using hXl,?_,fun t ht=>?_,(Hkp.out.drewN m2).set (.inl rfl)⟩,by simp[intOf];omega⟩
     ·rw[HKn.out,hKl,List.take_succ_eq_append_getElem (show K.length<(X'.set K.length (.iface T p)).length by simp;omega),List.take_set_of_le (Nat.le_refl _),Htk.out]
      simp
     ·rw[List.getElem?_set_ne (by omega)]
      exact Hdr.out t (by omega)
   ·have hjn:j=xs.length:=by omega
    have HJ:Hid (keptL xs r xs.length=keptL xs r j):=by rw[hjn];rfl
    have hlen:(keptL xs r j).length<xs.length:=by omega
    clear hjn htk hdr hbk hkp
    generalize keptL xs r j=K at *
    have hz:=run_clear_run (W:=wr) (K:=K.length) (n:=xs.length) (cap:=cap) Hbk.out hlen (by omega)
    obtain ⟨X2,hb2,hl2,ht2,hk2⟩:=BlkAt.setCells (List.replicate (xs.length-K.length) .nilIface) wr X' K.length Hbk.out
    have Hf:Hid (BlkAt (wr.setCells g K.length (List.replicate (xs.length-K.length) .nilIface)) g X2 165∧X2.length=X'.length∧X2.take K.length=X'.take K.length∧Keep (fun k=>k=g) wr (wr.setCells g K.length (List.replicate (xs.length-K.length) .nilIface))):=⟨hb2,hl2,ht2,hk2⟩
    clear hb2 hl2 ht2 hk2
    go_wp2
    go_ret
    go_light
    obtain ⟨hb2,hl2,ht2,hk2⟩:=Hf.out
    rw[HJ.out]
    exact ⟨rfl,⟨X2,hb2,by omega,by rw[ht2];exact Htk.out⟩,Hkp.out.trans hk2 (fun j hj=>.inl hj)⟩
end Go.Proofs.YtdianedehhecoaaGreatDoor
/- Units and their blocks, some taken out. No walk. -/
namespace Go.Proofs.YtdianedehhecoaaGreatDoor
open Go.RowKit
def fU (p:PU→Bool):List PU→List Nat→List PU
 | u :: us,b :: bs=>if p u then fU p us bs else u :: fU p us bs
 | _,_=>[]
def fB (p:PU→Bool):List PU→List Nat→List Nat
 | u :: us,b :: bs=>if p u then fB p us bs else b :: fB p us bs
 | _,_=>[]
theorem fU_filter (p:PU→Bool)(us:List PU)(bs:List Nat)(h:bs.length=us.length):fU p us bs=us.filter (fun u=>!p u):=by
 induction us generalizing bs with
 | nil=>simp[fU]
 | cons u us ih =>
  cases bs with
  | nil=>simp at h
  | cons b bs =>
   have:=ih bs (by simpa using h)
   simp only[fU,List.filter_cons]
   cases p u<;>simp[this]
theorem fUB_len (p:PU→Bool)(us:List PU)(bs:List Nat):(fB p us bs).length=(fU p us bs).length:=by
 induction us generalizing bs with
 | nil=>simp[fU,fB]
 | cons u us ih =>
  cases bs with
  | nil=>simp[fU,fB]
  | cons b bs=>simp only[fU,fB];cases p u<;>simp[ih bs]
theorem fB_sub (p:PU→Bool)(us:List PU)(bs:List Nat):(fB p us bs).Sublist bs:=by
 induction us generalizing bs with
 | nil=>simp[fB]
 | cons u us ih =>
  cases bs with
  | nil=>simp[fB]
  | cons b bs =>
   simp only[fB]
   cases p u
   ·simpa using ih bs
   ·exact (ih bs).cons b
theorem fUB_at (p:PU→Bool)(us:List PU)(bs:List Nat)(hl:bs.length=us.length)(i:Nat)(hi:i<(fU p us bs).length) :
  ∃ j,j<us.length∧(fU p us bs).getD i pu0=us.getD j pu0∧(fB p us bs).getD i 0=bs.getD j 0:=by
 induction us generalizing bs i with
 | nil=>simp[fU]at hi
 | cons u us ih =>
  cases bs with
  | nil=>simp at hl
  | cons b bs =>
   simp only[fU,fB]at hi ⊢
   cases hp:p u
   ·rw[hp]at hi
    simp only[Bool.false_eq_true,if_false]at hi ⊢
    cases i with
    | zero=>exact ⟨0,by simp,by simp,by simp⟩
    | succ i =>
     obtain ⟨j,h1,h2,h3⟩:=ih bs (by simpa using hl) i (by simpa using hi)
     exact ⟨j+1,by simpa using h1,by simpa using h2,by simpa using h3⟩
   ·rw[hp]at hi
    simp only[if_true]at hi ⊢
    obtain ⟨j,h1,h2,h3⟩:=ih bs (by simpa using hl) i hi
    exact ⟨j+1,by simpa using h1,by simpa using h2,by simpa using h3⟩
theorem keptL_cons (x:Value)(xs:List Value)(r:Nat→Bool)(n:Nat):keptL (x :: xs) r (n+1)=(if r 0 then [] else [x])++keptL xs (fun i=>r (i+1)) n:=by
 induction n with
 | zero=>simp only[keptL];cases r 0<;>simp
 | succ n ih =>
  rw[keptL,ih]
  simp only[keptL]
  by_cases h:r (n+1)=true
  ·simp[h]
  ·simp[h]
theorem keptL_uVals (p:PU→Bool)(us:List PU)(bs:List Nat)(hl:bs.length=us.length):keptL (uVals us bs) (fun i=>p (us.getD i pu0)) us.length=uVals (fU p us bs) (fB p us bs):=by
 induction us generalizing bs with
 | nil=>simp[keptL,fU,fB,uVals]
 | cons u us ih =>
  cases bs with
  | nil=>simp at hl
  | cons b bs =>
   have:=ih bs (by simpa using hl)
   have e:uVals (u :: us) (b :: bs)=uVal u b :: uVals us bs:=rfl
   rw[e,List.length_cons,keptL_cons]
   have e2:(fun i=>p ((u :: us).getD (i+1) pu0))=fun i=>p (us.getD i pu0):=by funext i;simp
   rw[e2,this]
   simp only[fU,fB,List.getD_cons_zero]
   cases p u<;>simp[uVals]
theorem uVals_len (us:List PU)(bs:List Nat)(hl:bs.length=us.length):(uVals us bs).length=us.length:=by
 unfold uVals;simp;omega
theorem uVals_getD (us:List PU)(bs:List Nat)(hl:bs.length=us.length)(i:Nat)(hi:i<us.length):(uVals us bs).getD i .nilIface=uVal (us.getD i pu0) (bs.getD i 0):=by
 unfold uVals
 simp[List.getD,List.getElem?_zipWith,List.getElem?_eq_getElem hi,List.getElem?_eq_getElem (show i<bs.length by omega)]
theorem PAt.thin {w w':World}{O:Nat→Prop}{b g cap:Nat}{S:PS}{gv uv:Value}{bs:List Nat}{X':List Value}(p:PU→Bool)(h:PAt w O b S gv uv bs)(hob:uv.ownBlock=some g)(hk:Keep (fun k=>k=g) w w')
  (hb:BlkAt w' g X' 165)(hXl:X'.length=cap)(hcm:cap≤maxLen)(hmc:(fU p S.units bs).length≤cap)(hX:X'.take (fU p S.units bs).length=uVals (fU p S.units bs) (fB p S.units bs)) :
  PAt (w'.setCell ⟨b,67,none⟩ (.slice (some ⟨g,0,none⟩) (fU p S.units bs).length cap)) O b { S with units:=fU p S.units bs } gv (.slice (some ⟨g,0,none⟩) (fU p S.units bs).length cap) (fB p S.units bs):=by
 have hou:=h.ou g hob
 have hl:=h.ore
 have hgb:g≠b:=hou.2.1
 have hst:=h.st.same (hk.block b h.st.lt (fun e=>hgb e.symm))
 have hne:∀ k,k<w.heap.size→k≠g→w'.heap[k]? = w.heap[k]?:=fun k h1 h2=>hk.block k h1 h2
 refine ⟨h.ore,fUB_len p S.units bs,?_,?_,?_,fun i hi=>?_,fun i hi=>?_,(fB_sub p S.units bs).nodup h.nodup,h.ob,h.og,fun k e=>?_,fun k e=>?_⟩
 ·have h1:=hst.set 67 (.slice (some ⟨g,0,none⟩) (fU p S.units bs).length cap)
  have e:(pCells S gv uv).set 67 (.slice (some ⟨g,0,none⟩) (fU p S.units bs).length cap)=pCells { S with units:=fU p S.units bs } gv (.slice (some ⟨g,0,none⟩) (fU p S.units bs).length cap):=by
   unfold pCells
   rw[List.set_append_right _ _ (by simp;omega)]
   simp[hl]
  rw[e]at h1
  exact h1
 ·exact (h.gold.same fun k e=>hne k (h.gold.lt e) (fun e2=>hou.2.2 (by rw[e,e2]))).other (fun e=>(h.og b e).2 rfl)
 ·refine RowAt.other ⟨?_,.inr ⟨g,cap,X'.toArray,rfl,Nat.zero_le _,hb,hmc,hcm,by simpa using hXl,by simpa using hX⟩⟩ (fun e=>hgb (by injection e))
  have:=uVals_len (fU p S.units bs) (fB p S.units bs) (fUB_len p S.units bs)
  simpa using this
 ·obtain ⟨j,h1,h2,h3⟩:=fUB_at p S.units bs h.blen i hi
  have hbj:bs.getD j 0∈bs:=by
   have:=h.blen
   simp[List.getD,List.getElem?_eq_getElem (show j<bs.length by omega)]
  have ho:=h.oe _ hbj
  have he:=h.each j h1
  show BlkAt _ ((fB p S.units bs).getD i 0) ((fU p S.units bs).getD i pu0).cells (strT ((fU p S.units bs).getD i pu0).kind)
  rw[h2,h3]
  exact (he.same (hne _ he.lt (fun e=>ho.2.2.2 (by rw[hob,e])))).other ho.2.1
 ·obtain ⟨j,h1,h2,h3⟩:=fUB_at p S.units bs h.blen i hi
  show ((fU p S.units bs).getD i pu0).kind=1∨((fU p S.units bs).getD i pu0).kind=2∨((fU p S.units bs).getD i pu0).kind=3
  rw[h2]
  exact h.kinds j h1
 ·have:k=g:=by injection e with e;exact e.symm
  subst this
  exact hou
 ·have hm:=(fB_sub p S.units bs).subset e
  have ho:=h.oe k hm
  exact ⟨ho.1,ho.2.1,ho.2.2.1,fun e2=>ho.2.2.2 (by rw[hob];exact e2)⟩
end Go.Proofs.YtdianedehhecoaaGreatDoor
/- The program's drop, at each of its closures. -/
namespace Go.Proofs.YtdianedehhecoaaGreatDoor
open Go.RowKit
theorem dropGive_any {w:World}{O:Nat→Prop}{b g:Nat}{S:PS}{gv uv:Value}{bs:List Nat}{cap:Value}(p:PU→Bool)(h:PAt w O b S gv uv bs)(hn:S.units.length≤1000)(hob:uv.ownBlock=some g)
  (hT:∀ i,i<S.units.length→TellsAt (w.alloc (.cells #[.func (.func 185) #[] #[cap]] 174)) g 185 [cap] (bs.getD i 0) (p (S.units.getD i pu0))) :
  Calls Pz.prog 81 #[.pointer (some ⟨b,0,none⟩),.func (.func 185) #[] #[cap]] w fun e w'=>e=.returned (.tuple #[])∧(∃ uv',uv'.ownBlock=some g∧PAt w' O b { S with units:=fU p S.units bs } gv uv' (fB p S.units bs))∧Keep (fun k=>k=g∨k=b) w w':=by
 obtain ⟨cap0,hv,-,hc⟩:=h.unit hob
 subst hv
 have hu:=h.cUnits
 have hbb:=h.st.lt
 have hgl:=h.units.lt hob
 have hgb:=(h.ou g hob).2.1
 have hul:=uVals_len S.units bs h.blen
 obtain ⟨X,hXb,hXl,hXt,hcm,hle⟩:∃ X,BlkAt w g X 165∧X.length=cap0∧X.take S.units.length=uVals S.units bs∧cap0≤maxLen∧S.units.length≤cap0:=by
  rcases h.units.2 with ⟨h1,h2⟩|⟨g',c',cur,h1,_,h3,h4,h5,h6,h7⟩
  ·cases h1
  ·injection h1 with e1 e2 e3
   injection e1 with e1
   injection e1 with e1
   subst e1 e3
   exact ⟨cur.toList,by unfold BlkAt;simpa using h3,by simpa using h6,by simpa using h7,h5,h4⟩
 have HD:=(show Hid _ from @DeleteFunc_any (w.alloc (.cells #[.func (.func 185) #[] #[cap]] 174)) g cap0 w.heap.size (uVals S.units bs) X (fun i=>p (S.units.getD i pu0)) (by rw[hul];exact hn) hXl hcm (by rw[hul];exact hXt) (by rw[hul];exact hle) (hXb.alloc _)
  (fun i hi=>by rw[hul]at hi;exact ⟨_,_,uVals_getD S.units bs h.blen i hi⟩)
  (fun i hi W hK=>by
   rw[hul]at hi
   rw[uVals_getD S.units bs h.blen i hi]
   refine drop1Give_any (ptrT (S.units.getD i pu0).kind) (fun W=>meth_any _ (h.kinds i hi) _ W) hK ?_ (hT i hi)
   rw[World.cell?_of_block (w:=w.alloc (.cells #[.func (.func 185) #[] #[cap]] 174)) (w':=W) (a:=⟨w.heap.size,0,none⟩) (hK.block w.heap.size (by simp) (by omega))]
   simp))
 rw[hul]at HD
 have HK:=(show Hid _ from keptL_uVals p S.units bs h.blen)
 have HH:=(show Hid _ from h)
 have hfl:(fU p S.units bs).length≤S.units.length:=by rw[fU_filter p S.units bs h.blen];exact List.length_filter_le _ _
 have hvl:=uVals_len (fU p S.units bs) (fB p S.units bs) (fUB_len p S.units bs)
 clear h hc hT hXb hXt
 go_enter Pz.func81,Tryz.ntmps81
 go_wp2_with fail
 refine Calls.mono HD.out ?_
 rw[HK.out,hvl]
 rintro e w1 ⟨rfl,⟨X',hb1,hl1,ht1⟩,hk1⟩
 have hk0:Keep (fun k=>k=g) w w1:=((Keep.refl _ _).alloc _).trans hk1 (fun j hj=>.inl hj)
 have hst1:=HH.out.st.same (hk0.block b hbb (fun e=>hgb e.symm))
 have c1:w1.cell? ⟨b,67,none⟩=_:=(World.cell?_of_block (w:=w) (w':=w1) (a:=⟨b,67,none⟩) (hk0.block b hbb (fun e=>hgb e.symm))).trans hu
 have f1:=hst1.free 67
 have hfin:=PAt.thin p HH.out hob hk0 hb1 hl1 hcm (by omega) ht1
 have Hfin:=(show Hid _ from hfin)
 have Hk0:=(show Hid _ from hk0)
 clear hfin hk0 hst1 hb1 ht1 hk1 HD HK hu
 go_wp2
 go_end0
 exact ⟨rfl,⟨_,rfl,Hfin.out⟩,(Hk0.out.mono (fun j hj=>.inl (.inl hj))).set (.inl (.inr rfl))⟩
theorem dropBury_any {w:World}{O:Nat→Prop}{b g:Nat}{S:PS}{gv uv:Value}{bs:List Nat}(p:PU→Bool)(h:PAt w O b S gv uv bs)(hn:S.units.length≤1000)(hob:uv.ownBlock=some g)
  (hT:∀ i,i<S.units.length→TellsAt (w.alloc (.cells #[.func (.func 263) #[] #[]] 174)) g 263 [] (bs.getD i 0) (p (S.units.getD i pu0))) :
  Calls Pz.prog 81 #[.pointer (some ⟨b,0,none⟩),.func (.func 263) #[] #[]] w fun e w'=>e=.returned (.tuple #[])∧(∃ uv',uv'.ownBlock=some g∧PAt w' O b { S with units:=fU p S.units bs } gv uv' (fB p S.units bs))∧Keep (fun k=>k=g∨k=b) w w':=by
 obtain ⟨cap0,hv,-,hc⟩:=h.unit hob
 subst hv
 have hu:=h.cUnits
 have hbb:=h.st.lt
 have hgl:=h.units.lt hob
 have hgb:=(h.ou g hob).2.1
 have hul:=uVals_len S.units bs h.blen
 obtain ⟨X,hXb,hXl,hXt,hcm,hle⟩:∃ X,BlkAt w g X 165∧X.length=cap0∧X.take S.units.length=uVals S.units bs∧cap0≤maxLen∧S.units.length≤cap0:=by
  rcases h.units.2 with ⟨h1,h2⟩|⟨g',c',cur,h1,_,h3,h4,h5,h6,h7⟩
  ·cases h1
  ·injection h1 with e1 e2 e3
   injection e1 with e1
   injection e1 with e1
   subst e1 e3
   exact ⟨cur.toList,by unfold BlkAt;simpa using h3,by simpa using h6,by simpa using h7,h5,h4⟩
 have HD:=(show Hid _ from @DeleteFunc_any (w.alloc (.cells #[.func (.func 263) #[] #[]] 174)) g cap0 w.heap.size (uVals S.units bs) X (fun i=>p (S.units.getD i pu0)) (by rw[hul];exact hn) hXl hcm (by rw[hul];exact hXt) (by rw[hul];exact hle) (hXb.alloc _)
  (fun i hi=>by rw[hul]at hi;exact ⟨_,_,uVals_getD S.units bs h.blen i hi⟩)
  (fun i hi W hK=>by
   rw[hul]at hi
   rw[uVals_getD S.units bs h.blen i hi]
   refine drop1Bury_any (ptrT (S.units.getD i pu0).kind) (fun W=>meth_any _ (h.kinds i hi) _ W) hK ?_ (hT i hi)
   rw[World.cell?_of_block (w:=w.alloc (.cells #[.func (.func 263) #[] #[]] 174)) (w':=W) (a:=⟨w.heap.size,0,none⟩) (hK.block w.heap.size (by simp) (by omega))]
   simp))
 rw[hul]at HD
 have HK:=(show Hid _ from keptL_uVals p S.units bs h.blen)
 have HH:=(show Hid _ from h)
 have hfl:(fU p S.units bs).length≤S.units.length:=by rw[fU_filter p S.units bs h.blen];exact List.length_filter_le _ _
 have hvl:=uVals_len (fU p S.units bs) (fB p S.units bs) (fUB_len p S.units bs)
 clear h hc hT hXb hXt
 go_enter Pz.func81,Tryz.ntmps81
 go_wp2_with fail
 refine Calls.mono HD.out ?_
 rw[HK.out,hvl]
 rintro e w1 ⟨rfl,⟨X',hb1,hl1,ht1⟩,hk1⟩
 have hk0:Keep (fun k=>k=g) w w1:=((Keep.refl _ _).alloc _).trans hk1 (fun j hj=>.inl hj)
 have hst1:=HH.out.st.same (hk0.block b hbb (fun e=>hgb e.symm))
 have c1:w1.cell? ⟨b,67,none⟩=_:=(World.cell?_of_block (w:=w) (w':=w1) (a:=⟨b,67,none⟩) (hk0.block b hbb (fun e=>hgb e.symm))).trans hu
 have f1:=hst1.free 67
 have hfin:=PAt.thin p HH.out hob hk0 hb1 hl1 hcm (by omega) ht1
 have Hfin:=(show Hid _ from hfin)
 have Hk0:=(show Hid _ from hk0)
 clear hfin hk0 hst1 hb1 ht1 hk1 HD HK hu
 go_wp2
 go_end0
 exact ⟨rfl,⟨_,rfl,Hfin.out⟩,(Hk0.out.mono (fun j hj=>.inl (.inl hj))).set (.inl (.inr rfl))⟩
theorem dropOut_any {w:World}{O:Nat→Prop}{b g:Nat}{S:PS}{gv uv:Value}{bs:List Nat}{cap:Value}(p:PU→Bool)(h:PAt w O b S gv uv bs)(hn:S.units.length≤1000)(hob:uv.ownBlock=some g)
  (hT:∀ i,i<S.units.length→TellsAt (w.alloc (.cells #[.func (.func 82) #[] #[cap]] 174)) g 82 [cap] (bs.getD i 0) (p (S.units.getD i pu0))) :
  Calls Pz.prog 81 #[.pointer (some ⟨b,0,none⟩),.func (.func 82) #[] #[cap]] w fun e w'=>e=.returned (.tuple #[])∧(∃ uv',uv'.ownBlock=some g∧PAt w' O b { S with units:=fU p S.units bs } gv uv' (fB p S.units bs))∧Keep (fun k=>k=g∨k=b) w w':=by
 obtain ⟨cap0,hv,-,hc⟩:=h.unit hob
 subst hv
 have hu:=h.cUnits
 have hbb:=h.st.lt
 have hgl:=h.units.lt hob
 have hgb:=(h.ou g hob).2.1
 have hul:=uVals_len S.units bs h.blen
 obtain ⟨X,hXb,hXl,hXt,hcm,hle⟩:∃ X,BlkAt w g X 165∧X.length=cap0∧X.take S.units.length=uVals S.units bs∧cap0≤maxLen∧S.units.length≤cap0:=by
  rcases h.units.2 with ⟨h1,h2⟩|⟨g',c',cur,h1,_,h3,h4,h5,h6,h7⟩
  ·cases h1
  ·injection h1 with e1 e2 e3
   injection e1 with e1
   injection e1 with e1
   subst e1 e3
   exact ⟨cur.toList,by unfold BlkAt;simpa using h3,by simpa using h6,by simpa using h7,h5,h4⟩
 have HD:=(show Hid _ from @DeleteFunc_any (w.alloc (.cells #[.func (.func 82) #[] #[cap]] 174)) g cap0 w.heap.size (uVals S.units bs) X (fun i=>p (S.units.getD i pu0)) (by rw[hul];exact hn) hXl hcm (by rw[hul];exact hXt) (by rw[hul];exact hle) (hXb.alloc _)
  (fun i hi=>by rw[hul]at hi;exact ⟨_,_,uVals_getD S.units bs h.blen i hi⟩)
  (fun i hi W hK=>by
   rw[hul]at hi
   rw[uVals_getD S.units bs h.blen i hi]
   refine drop1Out_any (ptrT (S.units.getD i pu0).kind) (fun W=>meth_any _ (h.kinds i hi) _ W) hK ?_ (hT i hi)
   rw[World.cell?_of_block (w:=w.alloc (.cells #[.func (.func 82) #[] #[cap]] 174)) (w':=W) (a:=⟨w.heap.size,0,none⟩) (hK.block w.heap.size (by simp) (by omega))]
   simp))
 rw[hul]at HD
 have HK:=(show Hid _ from keptL_uVals p S.units bs h.blen)
 have HH:=(show Hid _ from h)
 have hfl:(fU p S.units bs).length≤S.units.length:=by rw[fU_filter p S.units bs h.blen];exact List.length_filter_le _ _
 have hvl:=uVals_len (fU p S.units bs) (fB p S.units bs) (fUB_len p S.units bs)
 clear h hc hT hXb hXt
 go_enter Pz.func81,Tryz.ntmps81
 go_wp2_with fail
 refine Calls.mono HD.out ?_
 rw[HK.out,hvl]
 rintro e w1 ⟨rfl,⟨X',hb1,hl1,ht1⟩,hk1⟩
 have hk0:Keep (fun k=>k=g) w w1:=((Keep.refl _ _).alloc _).trans hk1 (fun j hj=>.inl hj)
 have hst1:=HH.out.st.same (hk0.block b hbb (fun e=>hgb e.symm))
 have c1:w1.cell? ⟨b,67,none⟩=_:=(World.cell?_of_block (w:=w) (w':=w1) (a:=⟨b,67,none⟩) (hk0.block b hbb (fun e=>hgb e.symm))).trans hu
 have f1:=hst1.free 67
 have hfin:=PAt.thin p HH.out hob hk0 hb1 hl1 hcm (by omega) ht1
 have Hfin:=(show Hid _ from hfin)
 have Hk0:=(show Hid _ from hk0)
 clear hfin hk0 hst1 hb1 ht1 hk1 HD HK hu
 go_wp2
 go_end0
 exact ⟨rfl,⟨_,rfl,Hfin.out⟩,(Hk0.out.mono (fun j hj=>.inl (.inl hj))).set (.inl (.inr rfl))⟩
end Go.Proofs.YtdianedehhecoaaGreatDoor
/- The program's giveUp and buryDead. -/
namespace Go.Proofs.YtdianedehhecoaaGreatDoor
open Go.RowKit
def Thinned (O:Nat→Prop)(w:World)(b g:Nat)(S:PS)(gv:Value)(bs:List Nat)(p:PU→Bool)(w':World):Prop :=
 (∃ uv',uv'.ownBlock=some g∧PAt w' O b { S with units:=fU p S.units bs } gv uv' (fB p S.units bs))∧Keep (fun k=>k=g∨k=b) w w'
theorem PAt.ubFacts {w:World}{O:Nat→Prop}{b g:Nat}{S:PS}{gv uv:Value}{bs:List Nat}(h:PAt w O b S gv uv bs)(hob:uv.ownBlock=some g)(i:Nat)(hi:i<S.units.length) :
  bs.getD i 0≠g∧bs.getD i 0<w.heap.size∧bs.getD i 0≠b:=by
 have hm:bs.getD i 0∈bs:=by
  have:=h.blen
  simp[List.getD,List.getElem?_eq_getElem (show i<bs.length by omega)]
 have ho:=h.oe _ hm
 exact ⟨fun e=>ho.2.2.2 (by rw[hob,e]),(h.each i hi).lt,ho.2.1⟩
theorem giveUp_any {w:World}{O:Nat→Prop}{b g:Nat}{S:PS}{gv uv:Value}{bs:List Nat}(pl:Int)(h:PAt w O b S gv uv bs)(hob:uv.ownBlock=some g)(hn:S.units.length≤1000) :
  Calls Pz.prog 139 #[.pointer (some ⟨b,0,none⟩),.int .i64 pl] w fun e w'=>e=.returned (.tuple #[])∧Thinned O w b g S gv bs (fun u=>(u.own == pl) && (u.kind == 1)) w':=by
 have hgl:=h.units.lt hob
 have HH:=(show Hid _ from h)
 clear h
 go_enter Pz.func139,Tryz.ntmps139
 go_wp2_with fail
 have h1:PAt (w.alloc (.cells #[.int .i64 pl] 3)) O b S gv uv bs:=HH.out.below ((Below.refl _ _).alloc (Nat.le_refl _) _)
 refine (dropGive_any (cap:=.pointer (some ⟨w.heap.size,0,none⟩)) (fun u=>(u.own == pl) && (u.kind == 1)) h1 hn hob (fun i hi=>?_)).mono ?_
 ·have hf:=h1.ubFacts hob i hi
  have he:=(h1.each i hi).alloc (.cells #[.func (.func 185) #[] #[.pointer (some ⟨w.heap.size,0,none⟩)]] 174)
  exact tellsGive (P:=w.heap.size) hf.1 he.lt (by omega) (by simp;omega) (he.cell rfl) (he.cell rfl) (by simp)
 rintro e w1 ⟨rfl,hp,hk⟩
 have Hp:=(show Hid _ from hp)
 have Hk:=(show Hid _ from hk)
 clear hp hk h1
 go_wp2
 go_end0
 exact ⟨rfl,Hp.out,((Keep.refl _ _).alloc _).trans Hk.out (fun j hj=>.inl hj)⟩
theorem buryDead_any {w:World}{O:Nat→Prop}{b g:Nat}{S:PS}{gv uv:Value}{bs:List Nat}(h:PAt w O b S gv uv bs)(hob:uv.ownBlock=some g)(hn:S.units.length≤1000) :
  Calls Pz.prog 249 #[.pointer (some ⟨b,0,none⟩)] w fun e w'=>e=.returned (.tuple #[])∧Thinned O w b g S gv bs (fun u=>decide (u.hp≤0)) w':=by
 have HH:=(show Hid _ from h)
 clear h
 go_enter Pz.func249,Tryz.ntmps249
 go_wp2_with fail
 refine (dropBury_any (fun u=>decide (u.hp≤0)) HH.out hn hob (fun i hi=>?_)).mono ?_
 ·have hf:=HH.out.ubFacts hob i hi
  have he:=(HH.out.each i hi).alloc (.cells #[.func (.func 263) #[] #[]] 174)
  exact tellsBury hf.1 he.lt (he.cell rfl)
 rintro e w1 ⟨rfl,hp,hk⟩
 have Hp:=(show Hid _ from hp)
 have Hk:=(show Hid _ from hk)
 clear hp hk
 go_wp2
 go_end0
 exact ⟨rfl,Hp.out,Hk.out⟩
end Go.Proofs.YtdianedehhecoaaGreatDoor
/- The program's move: a unit's cells are written. -/
namespace Go.Proofs.YtdianedehhecoaaGreatDoor
open Go.RowKit
theorem getD_set_pu (l:List PU)(k i:Nat)(u:PU):(l.set k u).getD i pu0=if i=k∧k<l.length then u else l.getD i pu0:=by
 simp only[List.getD,List.getElem?_set]
 by_cases h:k=i
 ·subst h
  by_cases h2:k<l.length
  ·simp[h2]
  ·simp[h2,List.getElem?_eq_none (show l.length≤k by omega)]
 ·have:¬ i=k:=fun e=>h e.symm
  simp[h,this]
theorem uVals_set (us:List PU)(bs:List Nat)(k:Nat)(u:PU)(hk:k<us.length)(hl:bs.length=us.length)(hkd:u.kind=(us.getD k pu0).kind):uVals (us.set k u) bs=uVals us bs:=by
 unfold uVals
 apply List.ext_getElem?
 intro i
 rw[List.getElem?_zipWith,List.getElem?_zipWith,List.getElem?_set]
 by_cases h:k=i
 ·subst h
  have e:us[k]? = some (us.getD k pu0):=by simp[List.getD,List.getElem?_eq_getElem hk]
  have eb:bs[k]? = some (bs.getD k 0):=by simp[List.getD,List.getElem?_eq_getElem (show k<bs.length by omega)]
  rw[if_pos rfl,if_pos hk,e,eb]
  simp only[uVal]
  rw[hkd]
 ·rw[if_neg h]
theorem PAt.setU {w:World}{O:Nat→Prop}{b k f:Nat}{S:PS}{gv uv v:Value}{bs:List Nat}(h:PAt w O b S gv uv bs)(hk:k<S.units.length)(u':PU)(hu:(S.units.getD k pu0).cells.set f v=u'.cells)(hkd:u'.kind=(S.units.getD k pu0).kind) :
  PAt (w.setCell ⟨bs.getD k 0,f,none⟩ v) O b { S with units:=S.units.set k u' } gv uv bs:=by
 have hl:=h.blen
 have hm:bs.getD k 0∈bs:=by simp[List.getD,List.getElem?_eq_getElem (show k<bs.length by omega)]
 have ho:=h.oe _ hm
 refine ⟨h.ore,by simpa using h.blen,?_,h.gold.other ho.2.2.1,?_,fun i hi=>?_,fun i hi=>?_,h.nodup,h.ob,h.og,h.ou,h.oe⟩
 ·exact h.st.other (fun e=>ho.2.1 e.symm)
 ·have:=h.units.other (c:=bs.getD k 0) (i:=f) (u:=v) ho.2.2.2
  show RowAt _ _ _ _ (S.units.set k u').length (uVals (S.units.set k u') bs)
  rw[List.length_set,uVals_set S.units bs k u' hk hl hkd]
  exact this
 ·have hi':i<S.units.length:=by simpa using hi
  show BlkAt _ (bs.getD i 0) ((S.units.set k u').getD i pu0).cells (strT ((S.units.set k u').getD i pu0).kind)
  rw[getD_set_pu]
  by_cases e:i=k
  ·subst e
   rw[if_pos ⟨rfl,hk⟩,← hu,hkd]
   exact (h.each i hi').set f v
  ·rw[if_neg (fun q=>e q.1)]
   refine (h.each i hi').other (fun q=>e ?_)
   have n1:bs.getD i 0=bs[i]'(by omega):=by simp[List.getD,List.getElem?_eq_getElem (show i<bs.length by omega)]
   have n2:bs.getD k 0=bs[k]'(by omega):=by simp[List.getD,List.getElem?_eq_getElem (show k<bs.length by omega)]
   rw[n1,n2]at q
   have hnd:=List.pairwise_iff_getElem.1 h.nodup
   rcases Nat.lt_trichotomy i k with hlt|heq|hgt
   ·exact absurd q (hnd i k (by omega) (by omega) hlt)
   ·exact heq
   ·exact absurd q.symm (hnd k i (by omega) (by omega) hgt)
 ·have hi':i<S.units.length:=by simpa using hi
  show ((S.units.set k u').getD i pu0).kind=1∨((S.units.set k u').getD i pu0).kind=2∨((S.units.set k u').getD i pu0).kind=3
  rw[getD_set_pu]
  split
  ·rw[hkd];exact h.kinds k hk
  ·exact h.kinds i hi'
def moveF (S:PS)(bs:List Nat)(k:Nat)(x y:Int):PS × Bool :=
 match findU (onP x y) S.units bs with
 | some _=>(S,false)
 | none=>({ S with units:=S.units.set k { S.units.getD k pu0 with x:=x,y:=y } },true)
theorem move_any {w:World}{O:Nat→Prop}{b g k:Nat}{S:PS}{gv uv:Value}{bs:List Nat}(x y:Int)(h:PAt w O b S gv uv bs)(hob:uv.ownBlock=some g)(hn:S.units.length≤1000)(hk:k<S.units.length) :
  Calls Pz.prog 253 #[.pointer (some ⟨bs.getD k 0,0,none⟩),.pointer (some ⟨b,0,none⟩),.agg #[.int .i64 x,.int .i64 y]] w fun e w'=>e=.returned (.bool (moveF S bs k x y).2)∧PAt w' O b (moveF S bs k x y).1 gv uv bs∧Keep O w w':=by
 have HH:=(show Hid _ from h)
 have hbb:=h.st.lt
 have hul:=(h.each k hk).lt
 have hOk:O (bs.getD k 0):=by
  have hl:=h.blen
  exact (h.oe _ (by simp[List.getD,List.getElem?_eq_getElem (show k<bs.length by omega)])).1
 clear h
 have ha:Below w.heap.size w (w.alloc (.cells #[.int .i64 x,.int .i64 y] 157)):=(Below.refl _ _).alloc (Nat.le_refl _) _
 go_enter Pz.func253,Tryz.ntmps253
 go_wp2_with fail
 refine (unitOn_any x y (HH.out.below ha) hob hn).mono ?_
 rintro e w1 ⟨rfl,hb1⟩
 have hb01:Below w.heap.size w w1:=ha.trans (hb1.mono (by simp))
 have h1:=HH.out.below hb01
 have bx:w1.cell? ⟨w.heap.size,0,none⟩=some (.int .i64 x):=by rw[hb1.cell (p:=⟨w.heap.size,0,none⟩) (by simp)];simp
 have by_:w1.cell? ⟨w.heap.size,1,none⟩=some (.int .i64 y):=by rw[hb1.cell (p:=⟨w.heap.size,1,none⟩) (by simp)];simp
 cases hf:findU (onP x y) S.units bs with
 | some q =>
  obtain ⟨qu,qb⟩:=q
  have hp:ptrOf (some (qu,qb))=.pointer (some ⟨qb,0,none⟩):=rfl
  rw[hp]
  have HM:Hid (moveF S bs k x y=(S,false)):=by unfold Hid moveF;rw[hf]
  clear hp hf
  go_wp2
  go_ret
  rw[HM.out]
  exact ⟨rfl,h1,(Keep.ofBelow hb01).mono (fun j hj=>.inr hj)⟩
 | none =>
  have hp:ptrOf none=.pointer none:=rfl
  rw[hp]
  have HM:Hid (moveF S bs k x y=({ S with units:=S.units.set k { S.units.getD k pu0 with x:=x,y:=y } },true)):=by unfold Hid moveF;rw[hf]
  have c3:w1.cell? ⟨bs.getD k 0,3,none⟩=_:=(h1.each k hk).cell (i:=3) rfl
  have c4:w1.cell? ⟨bs.getD k 0,4,none⟩=_:=(h1.each k hk).cell (i:=4) rfl
  have f3:=(h1.each k hk).free 3
  have f4:=(h1.each k hk).free 4
  have H1:=(show Hid _ from h1)
  have Hb01:=(show Hid _ from hb01)
  clear hp hf h1 hb01 hb1
  generalize hub:bs.getD k 0=ub at *
  have HU:Hid (bs.getD k 0=ub):=hub
  clear hub
  go_wp2
  go_ret
  go_light
  rw[HM.out]
  have hU:=HU.out
  have g1:=H1.out.setU (f:=3) (v:=.int .i64 x) hk { S.units.getD k pu0 with x:=x } rfl rfl
  have g2:=g1.setU (k:=k) (f:=4) (v:=.int .i64 y) (by simpa using hk) { S.units.getD k pu0 with x:=x,y:=y } (by simp only[getD_set_pu];rw[if_pos ⟨trivial,hk⟩];rfl) (by simp only[getD_set_pu];rw[if_pos ⟨trivial,hk⟩])
  simp only[List.set_set]at g2
  rw[hU]at g2
  exact ⟨rfl,g2,((Keep.ofBelow Hb01.out).mono (O':=O) (fun j hj=>.inr hj) |>.set (.inl hOk)).set (.inl hOk)⟩
end Go.Proofs.YtdianedehhecoaaGreatDoor
/- The program's strike. -/
namespace Go.Proofs.YtdianedehhecoaaGreatDoor
open Go.RowKit
theorem findU_idx (p:PU→Bool)(us:List PU)(bs:List Nat)(hl:bs.length=us.length) :
  findU p us bs=if us.findIdx p<us.length then some (us.getD (us.findIdx p) pu0,bs.getD (us.findIdx p) 0) else none:=by
 induction us generalizing bs with
 | nil=>simp[findU]
 | cons u us ih =>
  cases bs with
  | nil=>simp at hl
  | cons b bs =>
   have:=ih bs (by simpa using hl)
   simp only[findU,List.findIdx_cons,List.length_cons]
   cases hp:p u
   ·simp only[Bool.false_eq_true,if_false,cond_false,this]
    by_cases h:us.findIdx p<us.length
    ·rw[if_pos h,if_pos (by omega)];simp
    ·rw[if_neg h,if_neg (by omega)]
   ·simp
def deadP (u:PU):Bool:=decide (u.hp≤0)
def hurtS (S:PS)(j:Nat)(blow:Int):PS:={ S with units:=S.units.set j { S.units.getD j pu0 with hp:=(S.units.getD j pu0).hp-blow } }
def strikeF (S:PS)(bs:List Nat)(k:Nat)(x y blow:Int):PS × List Nat × Bool :=
 let j:=S.units.findIdx (onP x y)
 if j<S.units.length∧(S.units.getD j pu0).own≠(S.units.getD k pu0).own then
  ({ hurtS S j blow with units:=fU deadP (hurtS S j blow).units bs },fB deadP (hurtS S j blow).units bs,true)
 else (S,bs,false)
theorem Keep.orOf {O:Nat→Prop}{w w':World}{g b:Nat}(h:Keep (fun k=>k=g∨k=b) w w')(hg:O g)(hb:O b):Keep O w w' :=
 h.mono (fun j hj=>.inl (by rcases hj with rfl|rfl;exact hg;exact hb))
theorem strike_any {w:World}{O:Nat→Prop}{b g k:Nat}{S:PS}{gv uv:Value}{bs:List Nat}(x y blow:Int)(h:PAt w O b S gv uv bs)(hob:uv.ownBlock=some g)(hn:S.units.length≤1000)(hk:k<S.units.length)(b0:0≤blow)(b1:blow≤3)
  (hhp:∀ i,i<S.units.length→-100≤(S.units.getD i pu0).hp∧(S.units.getD i pu0).hp≤100) :
  Calls Pz.prog 261 #[.pointer (some ⟨bs.getD k 0,0,none⟩),.pointer (some ⟨b,0,none⟩),.agg #[.int .i64 x,.int .i64 y],.int .i64 blow] w fun e w' =>
   e=.returned (.bool (strikeF S bs k x y blow).2.2)∧(∃ uv',uv'.ownBlock=some g∧PAt w' O b (strikeF S bs k x y blow).1 gv uv' (strikeF S bs k x y blow).2.1)∧Keep O w w':=by
 generalize hub:bs.getD k 0=bk
 have HU:Hid (bs.getD k 0=bk):=hub
 clear hub
 have HH:=(show Hid _ from h)
 have hbb:=h.st.lt
 have hOg:=(h.ou g hob).1
 have hObb:=h.ob
 have hOj:∀ j,j<S.units.length→O (bs.getD j 0):=fun j hj=>by
  have hl:=h.blen
  exact (h.oe _ (by simp[List.getD,List.getElem?_eq_getElem (show j<bs.length by omega)])).1
 have HOj:=(show Hid _ from hOj)
 have Hhp:=(show Hid _ from hhp)
 have hfi:=findU_idx (onP x y) S.units bs h.blen
 have HS:Hid (strikeF S bs k x y blow=if S.units.findIdx (onP x y)<S.units.length∧(S.units.getD (S.units.findIdx (onP x y)) pu0).own≠(S.units.getD k pu0).own then
  ({ hurtS S (S.units.findIdx (onP x y)) blow with units:=fU deadP (hurtS S (S.units.findIdx (onP x y)) blow).units bs },fB deadP (hurtS S (S.units.findIdx (onP x y)) blow).units bs,true) else (S,bs,false)):=rfl
 clear h hOj hhp
 have ha:Below w.heap.size w (w.alloc (.cells #[.int .i64 x,.int .i64 y] 157)):=(Below.refl _ _).alloc (Nat.le_refl _) _
 generalize S.units.findIdx (onP x y)=j at *
 have Hfi:=(show Hid _ from hfi)
 clear hfi
 go_enter Pz.func261,Tryz.ntmps261
 go_wp2_with fail
 refine (unitOn_any x y (HH.out.below ha) hob hn).mono ?_
 rw[Hfi.out]
 rintro e w1 ⟨rfl,hb1⟩
 have hb01:Below w.heap.size w w1:=ha.trans (hb1.mono (by simp))
 have h1:=HH.out.below hb01
 have hkb:Keep O w w1:=(Keep.ofBelow hb01).mono (fun j hj=>.inr hj)
 have H1:=(show Hid _ from h1)
 have Hkb:=(show Hid _ from hkb)
 by_cases hj:j<S.units.length
 ·rw[if_pos hj]
  have hp:ptrOf (some (S.units.getD j pu0,bs.getD j 0))=.pointer (some ⟨bs.getD j 0,0,none⟩):=rfl
  rw[hp]
  have c1:w1.cell? ⟨bs.getD j 0,1,none⟩=some (.int .i64 (S.units.getD j pu0).own):=(h1.each j hj).cell rfl
  have d1:w1.cell? ⟨bk,1,none⟩=some (.int .i64 (S.units.getD k pu0).own):=by rw[← HU.out];exact (h1.each k hk).cell rfl
  have c5:w1.cell? ⟨bs.getD j 0,5,none⟩=some (.int .i64 (S.units.getD j pu0).hp):=(h1.each j hj).cell rfl
  have f5:=(h1.each j hj).free 5
  obtain ⟨hp0,hp1⟩:=Hhp.out j hj
  have hset:=h1.setU (f:=5) (v:=.int .i64 ((S.units.getD j pu0).hp-blow)) hj { S.units.getD j pu0 with hp:=(S.units.getD j pu0).hp-blow } rfl rfl
  have Hset:Hid (PAt (w1.setCell ⟨bs.getD j 0,5,none⟩ (.int .i64 ((S.units.getD j pu0).hp-blow))) O b (hurtS S j blow) gv uv bs):=hset
  have hOj:=HOj.out j hj
  clear hp h1 hkb hset ha hb1 hb01
  by_cases ho:(S.units.getD j pu0).own=(S.units.getD k pu0).own
  ·have HS2:Hid (strikeF S bs k x y blow=(S,bs,false)):=by unfold Hid;rw[HS.out,if_neg (fun q=>q.2 ho)]
   have hbe:((S.units.getD j pu0).own == (S.units.getD k pu0).own)=true:=beq_iff_eq.2 ho
   clear ho HS
   generalize (S.units.getD j pu0).own=oj at *
   generalize (S.units.getD k pu0).own=ok at *
   generalize (S.units.getD j pu0).hp=hpj at *
   generalize bs.getD j 0=bj at *
   go_wp2
   go_quiet (fail)
   go_wp2
   go_ret
   rw[HS2.out]
   exact ⟨rfl,⟨_,hob,H1.out.below (bel_drewN (Below.refl _ _) _)⟩,Hkb.out.drewN _⟩
  ·have HS2:Hid (strikeF S bs k x y blow=({ hurtS S j blow with units:=fU deadP (hurtS S j blow).units bs },fB deadP (hurtS S j blow).units bs,true)):=by unfold Hid;rw[HS.out,if_pos ⟨hj,ho⟩]
   have hbe:((S.units.getD j pu0).own == (S.units.getD k pu0).own)=false:=beq_eq_false_iff_ne.2 ho
   have hlen:Hid ((hurtS S j blow).units.length≤1000):=by unfold Hid hurtS;simpa using hn
   clear ho HS
   generalize (S.units.getD j pu0).own=oj at *
   generalize (S.units.getD k pu0).own=ok at *
   generalize hhj:(S.units.getD j pu0).hp=hpj at *
   have HP:Hid ((S.units.getD j pu0).hp=hpj):=hhj
   generalize hbj:bs.getD j 0=bj at *
   have HB:Hid (bs.getD j 0=bj):=hbj
   clear hbj hhj
   go_wp2
   go_quiet (fail)
   go_wp2_with fail
   have g2:PAt ((w1.drewN nq).setCell ⟨bs.getD j 0,5,none⟩ (.int .i64 ((S.units.getD j pu0).hp-blow))) O b (hurtS S j blow) gv uv bs :=
    (H1.out.below (bel_drewN (Below.refl _ _) _)).setU (f:=5) hj { S.units.getD j pu0 with hp:=(S.units.getD j pu0).hp-blow } rfl rfl
   rw[HP.out,HB.out]at g2
   refine (buryDead_any g2 hob hlen.out).mono ?_
   rintro e w2 ⟨rfl,hT⟩
   have HT:=(show Hid _ from hT)
   clear hT g2
   go_wp2
   go_ret
   rw[HS2.out]
   obtain ⟨hex,hkp⟩:=HT.out
   exact ⟨rfl,hex,((Hkb.out.drewN _).set (.inl hOj)).trans (hkp.orOf hOg hObb) (fun _ q=>.inl q)⟩
 ·rw[if_neg hj]
  have HS2:Hid (strikeF S bs k x y blow=(S,bs,false)):=by unfold Hid;rw[HS.out,if_neg (fun q=>hj q.1)]
  have hp:ptrOf none=.pointer none:=rfl
  rw[hp]
  clear hp HS
  go_wp2
  go_quiet (fail)
  go_wp2
  go_ret
  rw[HS2.out]
  exact ⟨rfl,⟨_,hob,H1.out.below (bel_drewN (Below.refl _ _) _)⟩,Hkb.out.drewN _⟩
end Go.Proofs.YtdianedehhecoaaGreatDoor