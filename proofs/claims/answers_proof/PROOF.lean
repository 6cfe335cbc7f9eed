import PyProof.Rows.All
import Wide.All
import OpenK.AllK
import Wide.FinOn
import PyProof.EqAt
import PyProof.EqKinds
import PyProof.TupleCall
import KE.BitLaws
import PyProof.ZipIter
import PyProof.WalksMore
import PySem.SetOps
import PyProof.SetScanFacts
import PyProof.TupleKey
import PyProof.SetKind
import PyProof.IsRules
import PyProof.DictKinds
import PyProof.Rows.SetFrom
import Open.SpecLaws
import KE.OsHead
import KE.OsGo
import PySem.Challenge.RW_couponhouse_s01_answers
set_option Elab.async false
set_option linter.all false
set_option maxRecDepth 100000
set_option maxHeartbeats 4000000
noncomputable section
open PySem.W renaming instObj→cR,methodObj→fu,Frag→ab,lookIn→fj,plainGet→cJ,hasDictIn→cP,findIn→aA,plainGet_of→eY,isFn→fc,plainOver→di,emptyDict→ck,keepIn→cw,fnOf→cK,codeIn→dQ,nsIn→ae,mg_of→dq,mg_none_of→bV
open PySem renaming Within→fE,mem_of_lookup→bf,boot_len→aI
open Nat renaming lt_of_lt_of_le→aZ,lt_irrefl→cu,ne_of_lt→aS,le_trans→bh,ne_of_gt→bA,le_refl→ai,zero_le→aK,le_of_eq→fF,lt_succ_self→eR,le_of_succ_le→eF,lt_succ_of_lt→dj,le_add_right→cY,lt_add_right→dS,lt_or_ge→aX,mod_lt→eS,succ_pos→fG,sub_self→dD,min_eq_left→eX,le_of_ble_eq_true→aN
open List renaming range→aQ,mem_filter→dc,mem_range→aM,filterMap_cons→bj,mem_cons_self→az,mem_cons_of_mem→ag,mem_cons→aB,mem_append→bE,mem_append_left→dO,getElem?_eq_some_iff→aO,getElem?_set_self→cv,getElem?_set_ne→eV,mem_filterMap→ee,mem_append_right→bN,length_cons→aw,lookup→dP,map_cons→aG,length_map→aa,append_nil→bW,nodup_cons→bF,length→fJ,length_take→bp,getElem?_append_right→bQ,getElem?_append_left→cH,getElem?_map→ah,take_sublist→dI,mem_of_getElem?→ax,length_append→ay,length_drop→cW,size_toArray→aT,all_cons→cb,any_cons→cT,length_singleton→ba,take_of_length_le→eD,getD_eq_getElem?_getD→aU,any_map→fe,all_map→eE,forIn_nil→fk,lookup_cons→cX,getElem?_eq_none→bc,mem_map→bB,all_eq_true→aL,find?_cons→de,nodup_nil→cN,take_succ_cons→eZ,drop_eq_getElem_cons→bw,zipIdx_cons→fB,mem_singleton→dB,any_eq_true→cZ,pairwise_cons→fo,mem_iff_getElem?→c9,getElem?_take→dC,range_succ→dH,filter_append→dE,getElem?_eq_getElem→aE,filter_cons→cc,filterMap_map→fq,filter_sublist→e6,map_append→bP,foldl_append→fA,ext_getElem?→bR,getElem?_range→dv,sum_cons→cM,drop_drop→eI,eq_nil_of_length_eq_zero→dA,getD_cons_zero→bO,not_mem_nil→bX,contains_iff_mem→bq,getD_cons_succ→cB,getElem?_of_mem→aR,getElem?_set→dJ,length_modify→bU,nodup_append→eJ,length_mapIdx→dF,mem_map_of_mem→fb,length_range→dM,getElem?_modify→bT,getElem?_mapIdx→bD,set_set→ff,take_length→bg,filterMap_append→eP,getElem?_zip_eq_some→cI,contains_eq_any_beq→dW,length_zip→df,append_assoc→cz,drop_length→dy,mapIdx_cons→fC,flatMap_append→cj,flatMap_singleton→cg,Nodup→fI,nodup_range→fD,set_getElem_self→eQ,map_map→fi,length_filter_le→da,flatMap_cons→dN,map_congr_left→cD,length_zipIdx→ej
open Array renaming length_toList→dU,mem_toList_iff→eW,getElem?_toList→aW,getD_eq_getD_getElem?→bC,getElem?_eq_getElem→bx,getElem?_eq_none→cy
open Bool renaming false_ne_true→aH,false_and→dw,eq_iff_iff→dY,and_eq_true→aj,and_false→eC,false_eq_true→bJ,true_and→br,eq_false_iff→bH,and_true→aY,noConfusion→bG
open Int renaming toNat_natCast→fw,toNat→cC
open Option renaming isSome_map→fz,map_map→cn
open Or renaming inl→ak,inr→au
open PyVbahah renaming whole→eG,shape→bz,answers_asked→eO,calls→ft
open PyFlat renaming rows→cO,call→fK,calls→cq,told→dn,played→eU
open Vbahah renaming putT→cU,setAll→bK,step→aq,Status→aJ,code→dR,numberOf→ao,worth→dG,ended→fh,right→bo,ticketOf→bt,couponOf→aF,withCoupon→cQ,Call→eA,issuable→dg,useArrow→dZ,onWay→fH,isGone→eT,inOrder→eK,ofFlight→bu,allCoupons→bS,leaves→dX,falls→eM,live→cE,countOf→cA,runsOut→eN,formAt→du,distinct→dh,distinctPairs→a9,creditsFit→dk,draw→cV,worths→aD,drawnSum→cF,giveBack→cG,ok→eB,oldOf→bI,stepRows→aV,start→cS
open PySem.F renaming plainAttrs_list→aP,slot_list_append→bL,type_list_append→bM,slot_list_extend→bY,type_list_extend→bZ
section
namespace L2
open PySem PySem.Spec PyProof.Rows
abbrev Key:=Sum Int Str
def FE:Key→Value→Bool
 |.inl k,v=>Value.isInt k v
 |.inr x,v=>Value.isStrOf x v
def aae (w:World):Key→Int
 |.inl k=>hashInt k
 |.inr x=>hashStr w x
theorem jH:∀{k:Key}{v:Value},FE k v=true→(∃i t,k=Sum.inl i∧v=Value.int i t)∨(∃x t,k=Sum.inr x∧v=Value.str x t)
 |.inl i,v,h=>by
  obtain ⟨t,e⟩:=Value.isInt_shape (k:=i) (v:=v) h
  exact .inl ⟨i,t,rfl,e⟩
 |.inr x,v,h=>by
  obtain ⟨t,e⟩:=Value.isStrOf_shape (x:=x) (v:=v) h
  exact .inr ⟨x,t,rfl,e⟩
theorem OF (i:Int) (t:Tok):FE (.inl i) (.int i t)=true:=by simp [FE,Value.isInt]
theorem OG (x:Str) (t:Tok):FE (.inr x) (.str x t)=true:=by simp [FE,Value.isStrOf]
theorem Vz (a b:Int):decide ((Sum.inl a:Key)=Sum.inl b)=(a==b):=by
 by_cases e:a=b
 ·subst e;simp
 ·have h:¬(Sum.inl a:Key)=Sum.inl b:=λq=>e (Sum.inl.inj q)
  rw [decide_eq_false h]
  exact (beq_eq_false_iff_ne.mpr e).symm
theorem VA (a b:Str):decide ((Sum.inr a:Key)=Sum.inr b)=decide (a=b):=by
 by_cases e:a=b
 ·subst e;simp
 ·have h:¬(Sum.inr a:Key)=Sum.inr b:=λq=>e (Sum.inr.inj q)
  rw [decide_eq_false h,decide_eq_false e]
theorem VB (a:Int) (b:Str):decide ((Sum.inl a:Key)=Sum.inr b)=false:=decide_eq_false (λq=>nomatch q)
theorem VC (a:Str) (b:Int):decide ((Sum.inr a:Key)=Sum.inl b)=false:=decide_eq_false (λq=>nomatch q)
def jm (prog:Program) (w:World):PySem.KeyKind prog w Key where
 is:=FE
 hash:=aae w
 inj:=λv a b ha hb=>by
  rcases jH ha with ⟨i,t,rfl,rfl⟩|⟨x,t,rfl,rfl⟩
  ·rcases jH hb with ⟨j,u,rfl,e⟩|⟨y,u,rfl,e⟩
   ·injection e with e1 _;rw [e1]
   ·exact nomatch e
  ·rcases jH hb with ⟨j,u,rfl,e⟩|⟨y,u,rfl,e⟩
   ·exact nomatch e
   ·injection e with e1 _;rw [e1]
 byValue:=λk v h=>by
  rcases jH h with ⟨i,t,rfl,rfl⟩|⟨x,t,rfl,rfl⟩<;>rfl
 pyHash:=λhv h=>by
  rcases jH hv with ⟨i,t,rfl,rfl⟩|⟨x,t,rfl,rfl⟩
  ·exact wpAny_pyHash_int h
  ·exact wpAny_pyHash_str h
 eqBool:=λhu hv h=>by
  rcases jH hu with ⟨i,t,rfl,rfl⟩|⟨x,t,rfl,rfl⟩
  ·rcases jH hv with ⟨j,u,rfl,rfl⟩|⟨y,u,rfl,rfl⟩
   ·rw [Vz] at h;exact wpAny_eqBool_int h
   ·rw [VB] at h;exact SeqAt.EqAt.int_str i t y u _ _ _ _ h
  ·rcases jH hv with ⟨j,u,rfl,rfl⟩|⟨y,u,rfl,rfl⟩
   ·rw [VC] at h;exact SeqAt.EqAt.str_int x t j u _ _ _ _ h
   ·rw [VA] at h;exact wpAny_eqBool_str h
 «strs»:=λk x t v h=>by
  rcases jH h with ⟨i,u,rfl,e⟩|⟨y,u,rfl,e⟩
  ·exact nomatch e
  ·injection e with e1 _
   subst e1
   cases v<;>rfl
theorem sI (prog:Program) (w:World) (i:Int) (t:Tok):(jm prog w).is (.inl i) (.int i t)=true:=OF i t
theorem sJ (prog:Program) (w:World) (x:Str) (t:Tok):(jm prog w).is (.inr x) (.str x t)=true:=OG x t
end L2
namespace L2
open PySem PySem.Spec PyProof.Rows
inductive V where
 |mH | bl (b:Bool) | int (i:Int) | str (x:Str) | LQ (b:Array UInt8) | flt (b:UInt64) | ref (a:Addr) | ty (n:String)
 deriving DecidableEq
def RelV:V→Value→Prop
 |.mH,u=>u=Value.none
 |.bl b,u=>u=Value.bool b
 |.int i,u=>∃t,u=Value.int i t
 |.str x,u=>∃t,u=Value.str x t
 |.LQ b,u=>∃t,u=Value.bytes b t
 |.flt b,u=>∃t,u=Value.float b t
 |.ref a,u=>u=Value.ref a
 |.ty n,u=>u=Value.type n
abbrev Vals:List V→List Value→Prop:=Paired RelV
theorem Vals.length {xs:List V}{us:List Value}(r:Vals xs us):xs.length=us.length:=Paired.length r
theorem Vals.get:∀{xs:List V}{us:List Value}{i:Nat}{x:V},Vals xs us→xs[i]?=some x→∃u,us[i]?=some u∧RelV x u
 |_,_,_,_,.nil,e=>by simp at e
 |_,_,0,_,.cons r _,e=>by simp at e;subst e;exact ⟨_,rfl,r⟩
 |_,_,i+1,x,.cons _ t,e=>by
  obtain ⟨u,h1,h2⟩:=Vals.get (i:=i) (x:=x) t (by simpa using e)
  exact ⟨u,by simpa using h1,h2⟩
theorem Vals.append:∀{xs ys:List V}{us ws:List Value},Vals xs us→Vals ys ws→Vals (xs++ys) (us++ws)
 |_,_,_,_,.nil,s=>s
 |_,_,_,_,.cons r t,s=>.cons r (Vals.append t s)
theorem Vals.take:∀{xs:List V}{us:List Value}(n:Nat),Vals xs us→Vals (xs.take n) (us.take n)
 |_,_,0,_=>.nil
 |_,_,_+1,.nil=>.nil
 |_,_,n+1,.cons r t=>.cons r (Vals.take n t)
theorem Vals.drop:∀{xs:List V}{us:List Value}(n:Nat),Vals xs us→Vals (xs.drop n) (us.drop n)
 |_,_,0,r=>r
 |_,_,_+1,.nil=>.nil
 |_,_,n+1,.cons _ t=>Vals.drop n t
theorem Vals.none_of:∀{xs:List V}{us:List Value}{i:Nat},Vals xs us→xs[i]?=none→us[i]?=none:=λ{xs us i} r e=>by
 have h1:=r.length
 have h2:xs.length≤i:=List.getElem?_eq_none_iff.mp e
 exact List.getElem?_eq_none_iff.mpr (by omega)
def qV:Option V→Option Value→Prop
 |some v,some u=>RelV v u
 |none,none=>True
 |_,_=>False
def KV {κ:Type}:List (κ×V)→List (κ×Value)→Prop:=Paired fun (p:κ×V) (q:κ×Value)=>p.1=q.1∧RelV p.2 q.2
def kV:Key→V
 |.inl i=>.int i
 |.inr x=>.str x
inductive HO where
 |lst (xs:List V)
 |tup (xs:List V)
 |dK (hZ:List (Key×V)) | dT (hZ:List (List Key×V))
 |set (S:Int→Bool) (n:Nat)
 |ins (C dx:Addr) (fs:List (Str×V))
 |own (x:Addr)
 |xd (fs:List (Str×V))
 |met (f x:Addr)
 |Jw (lo hi:Int)
 |GJ (o:Obj) (u:HO)
 |VD (ps:Array Value)
 |ext (φ:Heap→Prop)
abbrev Hp:=Addr→Option HO
def upd (H:Hp) (a:Addr) (o:HO):Hp:=λb=>if b=a then some o else H b
theorem fN {H:Hp}{a:Addr}{o:HO}:upd H a o a=some o:=by unfold upd;rw [if_pos rfl]
theorem fZ {H:Hp}{a b:Addr}{o:HO}(h:b≠a):upd H a o b=H b:=by unfold upd;rw [if_neg h]
theorem ir {H:Hp}{a:Addr}{o u:HO}:upd (upd H a o) a u=upd H a u:=by
 funext b;unfold upd;split<;>rfl
theorem uW {H:Hp}{a b:Addr}{o u:HO}(h:H a=some o) (h':H b=some u) (d:o≠u):a≠b:=by
 intro e;subst e;rw [h] at h';exact d (Option.some.inj h')
theorem f6 {H:Hp}{a b:Addr}{o:HO}(h:H a=some o) (h':H b=none):a≠b:=by
 intro e;subst e;rw [h] at h';cases h'
section
variable (P:Program) (w:World)
def j5 (H:Hp) (h:Heap) (a:Addr):HO→Prop
 |.lst xs=>xs.length≤sizeLine∧∃(hU:List Value) (n:Nat),Vals xs hU∧h.get? a=some { cls:=.type "list",data:=.seq hU.toArray n }
 |.tup xs=>xs.length≤sizeLine∧∃hU:List Value,Vals xs hU∧IsTup h a hU.toArray
 |.dK hZ=>hZ.length≤sizeLine∧(a==sysModules)=false∧∃vs,KV hZ vs∧h.DictOf (jm P w) a vs
 |.dT hZ=>hZ.length≤sizeLine∧(a==sysModules)=false∧∃xs:List (List Key×Addr×Value),
   Paired (λ(p:List Key×V) (q:List Key×Addr×Value)=>p.1=q.1∧H q.2.1=some (.tup (p.1.map kV))∧RelV p.2 q.2.2) hZ xs∧
   ∃o es ep,h.get? a=some o∧o.ExactDict∧o.data=.dict es ep∧es.toList=xs.map (entryOfKey (tupleKind (jm P w)))∧(xs.map (·.1)).Nodup
 |.set S n=>h.SetOf (intKind P w) a S n
 |.ins C dx fs=>H dx=some (.own a)∧fs.length≤1000∧dx≠a∧h.get? a=some (cR C dx)∧
   ∃mA,h.Ns1 dx mA∧(∀f,qV (fs.lookup f) (mA f))∧fE mA (fs.map (·.1))
 |.own _=>∃o,h.get? a=some o
 |.xd fs=>∃mA,h.Ns1 a mA∧∀f,qV (fs.lookup f) (mA f)
 |.Jw lo hi=>∃t u v,h.get? a=some { cls:=.type "range",data:=.fields #[.int lo t,.int hi u,.int 1 v] }
 |.GJ o u=>h.get? a=some o∧j5 H h a u
 |.VD ps=>h.get? a=some { cls:=.none,data:=.fields ps }
 |.met f x=>h.get? a=some (fu (.ref f) (.ref x))
 |.ext φ=>φ h∧(∃o,h.get? a=some o)∧∀h1 h2:Heap,φ h1→(∀o,h1.get? a=some o→h2.get? a=some o)→φ h2
def sL (H:Hp) (h:Heap):Prop:=∀a o,H a=some o→j5 P w H h a o
end
section
variable {P:Program}{w:World}{H H':Hp}{h h':Heap}{a:Addr}{o:HO}
theorem j5.lt (x:j5 P w H h a o):a<h.objs.size:=by
 cases o with
 |lst xs=>obtain ⟨_,_,_,_,e⟩:=x;exact Heap.lt_size e
 |tup xs=>obtain ⟨_,_,_,p⟩:=x;exact p.lt
 |dK hZ=>obtain ⟨_,_,_,_,o,_,_,e,_⟩:=x;exact Heap.lt_size e
 |dT hZ=>obtain ⟨_,_,_,_,o,_,_,e,_⟩:=x;exact Heap.lt_size e
 |set S n=>obtain ⟨o,_,_,_,e,_⟩:=x;exact Heap.lt_size e
 |ins C dx fs=>obtain ⟨_,_,_,e,_⟩:=x;exact Heap.lt_size e
 |own y=>obtain ⟨_,e⟩:=x;exact Heap.lt_size e
 |xd fs=>obtain ⟨_,⟨_,_,_,e,_⟩,_⟩:=x;exact Heap.lt_size e
 |Jw lo hi=>obtain ⟨_,_,_,e⟩:=x;exact Heap.lt_size e
 |GJ ob u=>obtain ⟨e,_⟩:=x;exact Heap.lt_size e
 |VD ps=>exact Heap.lt_size (show h.get? a=some _ from x)
 |met f y=>exact Heap.lt_size (show h.get? a=some _ from x)
 |ext φ=>obtain ⟨_,⟨_,e⟩,_⟩:=x;exact Heap.lt_size e
theorem Paired.VE {α β:Type}{F G:α→β→Prop}:∀{l₁:List α}{l₂:List β},Paired F l₁ l₂→(∀a b,F a b→G a b)→Paired G l₁ l₂
 |_,_,.nil,_=>.nil
 |_,_,.cons r t,f=>.cons (f _ _ r) (Paired.VE t f)
theorem j5.LX (x:j5 P w H h a o) (k:∀b u,(b=a∨H b=some (.own a))→h.get? b=some u→h'.get? b=some u)
  (ho:∀b,H b=some (.own a)→H' b=some (.own a)) (ht:∀b xs,H b=some (.tup xs)→H' b=some (.tup xs)):j5 P w H' h' a o:=by
 induction o with
 |lst xs=>obtain ⟨z,hU,n,r,e⟩:=x;exact ⟨z,hU,n,r,k _ _ (.inl rfl) e⟩
 |tup xs=>obtain ⟨z,hU,r,ob,e,c⟩:=x;exact ⟨z,hU,r,ob,k _ _ (.inl rfl) e,c⟩
 |dK hZ=>obtain ⟨z,y,vs,r,ob,es,ep,e,c⟩:=x;exact ⟨z,y,vs,r,ob,es,ep,k _ _ (.inl rfl) e,c⟩
 |dT hZ=>
  obtain ⟨z,y,xs,r,ob,es,ep,e,c⟩:=x
  exact ⟨z,y,xs,Paired.VE r fun p q z=>⟨z.1,ht _ _ z.2.1,z.2.2⟩,ob,es,ep,k _ _ (.inl rfl) e,c⟩
 |set S n=>obtain ⟨ob,es,ep,t,e,c⟩:=x;exact ⟨ob,es,ep,t,k _ _ (.inl rfl) e,c⟩
 |ins C dx fs=>
  obtain ⟨d,z,ne,e,mA,⟨od,es,ep,e2,c⟩,r⟩:=x
  exact ⟨ho _ d,z,ne,k _ _ (.inl rfl) e,mA,⟨od,es,ep,k _ _ (.inr d) e2,c⟩,r⟩
 |own y=>obtain ⟨ob,e⟩:=x;exact ⟨ob,k _ _ (.inl rfl) e⟩
 |xd fs=>obtain ⟨mA,⟨od,es,ep,e,c⟩,r⟩:=x;exact ⟨mA,⟨od,es,ep,k _ _ (.inl rfl) e,c⟩,r⟩
 |Jw lo hi=>obtain ⟨t,u,v,e⟩:=x;exact ⟨t,u,v,k _ _ (.inl rfl) e⟩
 |GJ ob u ih=>obtain ⟨e,q⟩:=x;exact ⟨k _ _ (.inl rfl) e,ih q⟩
 |VD ps=>
  have e:h.get? a=some { cls:=.none,data:=.fields ps }:=x
  show h'.get? a=some { cls:=.none,data:=.fields ps }
  exact k a _ (.inl rfl) e
 |met f y=>
  have e:h.get? a=some (fu (.ref f) (.ref y)):=x
  show h'.get? a=some (fu (.ref f) (.ref y))
  exact k a _ (.inl rfl) e
 |ext φ=>obtain ⟨p,⟨o,e⟩,st⟩:=x;exact ⟨st _ _ p fun o q=>k _ _ (.inl rfl) q,⟨o,k _ _ (.inl rfl) e⟩,st⟩
theorem sL.lt (x:sL P w H h) (e:H a=some o):a<h.objs.size:=(x a o e).lt
theorem sL.fresh (x:sL P w H h) (e:h.objs.size≤a):H a=none:=by
 cases q:H a with
 |none=>rfl
 |some u=>exact absurd (aZ (x.lt q) e) (cu _)
theorem sL.kept (x:sL P w H h) (k:∀b u,h.get? b=some u→h'.get? b=some u):sL P w H h':=λa o e=>
 (x a o e).LX (λb u _ q=>k b u q) (λ_ q=>q) fun _ _ q=>q
theorem sL.laid (x:sL P w H h) (k:∀b u,h.get? b=some u→h'.get? b=some u) (hp:h.objs.size≤a) (new:j5 P w (upd H a o) h' a o):sL P w (upd H a o) h':=λb u e=>by
 have hn:=x.fresh hp
 by_cases hb:b=a
 ·subst hb;rw [fN] at e;cases e;exact new
 ·rw [fZ hb] at e
  exact (x b u e).LX (λc v _ q=>k c v q) (λc q=>by rw [fZ (f6 q hn)];exact q) fun c xs q=>by rw [fZ (f6 q hn)];exact q
end
def Rd (H:Hp) (a:Addr) (u:HO):Prop:=H a=some u∨∃o,H a=some (.GJ o u)
theorem Rd.ok {P:Program}{w:World}{H:Hp}{h:Heap}{a:Addr}{u:HO}(r:Rd H a u) (x:sL P w H h):j5 P w H h a u:=by
 rcases r with r|⟨o,r⟩
 ·exact x a u r
 ·obtain ⟨_,q⟩:=x a _ r
  exact q
def Yj:Option HO→Prop
 |some (.lst _)=>True
 |some (.dK _)=>True
 |some (.dT _)=>True
 |some (.set _ _)=>True
 |some (.ins _ _ _)=>True
 |some (.ext _)=>True
 |_=>False
section
variable {P:Program}{w:World}{H:Hp}{h h':Heap}{x e:Addr}{o':HO}
theorem sL.write (ok:sL P w H h) (mu:Yj (H x)) (he:e=x∨H e=some (.own x)) (k:∀b u,b≠e→h.get? b=some u→h'.get? b=some u) (XS:∃u,h'.get? e=some u)
  (new:j5 P w (upd H x o') h' x o'):sL P w (upd H x o') h':=λb u q=>by
 have Yk:∀c y,H c=some (.own y)→c≠x:=λc y r z=>by subst z;rw [r] at mu;exact mu
 have aaf:∀c xs,H c=some (.tup xs)→c≠x:=λc xs r z=>by subst z;rw [r] at mu;exact mu
 by_cases hb:b=x
 ·subst hb;rw [fN] at q;cases q;exact new
 ·rw [fZ hb] at q
  by_cases VF:b=e
  ·have q':H b=some (.own x):=by
    rcases he with z|z
    ·exact absurd (VF.trans z) hb
    ·rw [VF];exact z
   rw [q] at q';cases q'
   obtain ⟨v,hv⟩:=XS
   exact ⟨v,by rw [VF];exact hv⟩
  ·refine (ok b u q).LX (λc v hc r=>k c v ?_ r) (λc r=>by rw [fZ (Yk c b r)];exact r) fun c xs r=>by rw [fZ (aaf c xs r)];exact r
   rcases hc with rfl|hc
   ·exact VF
   ·rintro rfl
    rcases he with z|z
    ·exact Yk c b hc z
    ·rw [hc] at z;cases z;exact hb rfl
end
structure Un (fs ex:List Addr) (H H':Hp) (h h':Heap):Prop where
 keep:∀b o,h.get? b=some o→H b=none→b∉fs→b∉ex→h'.get? b=some o
 slot:∀b o,h.get? b=some o→H b=none→b∈fs→b∉ex→∃sl,h'.get? b=some { o with slots:=sl }
 free:∀b o,h.get? b=some o→H b=none→b∉ex→H' b=none
 there:∀b o,h.get? b=some o→b∉ex→∃o',h'.get? b=some o'
 JB:∀b xs,H b=some (.tup xs)→H' b=some (.tup xs)
 GK:∀b o u,H b=some (.GJ o u)→H' b=some (.GJ o u)
 JC:∀b ps,H b=some (.VD ps)→∃more,H' b=some (.VD (ps++more))
section
variable {fs fs' ex ex':List Addr}{H H1 H2:Hp}{h h1 h2 h':Heap}{a x e:Addr}{o:HO}
theorem Un.any (u:Un fs ex H H1 h h1) {b:Addr}{ob:Obj}(q:h.get? b=some ob) (n:H b=none) (hx:b∉ex):∃sl,h1.get? b=some { ob with slots:=sl }:=by
 by_cases hb:b∈fs
 ·exact u.slot b ob q n hb hx
 ·exact ⟨ob.slots,u.keep b ob q n hb hx⟩
theorem Un.kept (k:∀b u,h.get? b=some u→h'.get? b=some u):Un fs ex H H h h':=
 ⟨λb ob q _ _ _=>k b ob q,λb ob q _ _ _=>⟨ob.slots,k b ob q⟩,λ_ _ _ n _=>n,λb ob q _=>⟨ob,k b ob q⟩,λ_ _ q=>q,λ_ _ _ q=>q,λ_ ps q=>⟨#[],by rw [q];simp⟩⟩
theorem Un.refl:Un fs ex H H h h:=Un.kept fun _ _ q=>q
theorem Un.laid (k:∀b u,h.get? b=some u→h'.get? b=some u) (hp:h.objs.size≤a) (hn:H a=none):Un fs ex H (upd H a o) h h' where
 keep:=λb u q _ _ _=>k b u q
 slot:=λb u q _ _ _=>⟨u.slots,k b u q⟩
 free:=λb u q n _=>by rw [fZ (aS (aZ (Heap.lt_size q) hp))];exact n
 there:=λb u q _=>⟨u,k b u q⟩
 JB:=λb xs q=>by rw [fZ (f6 q hn)];exact q
 GK:=λb u xs q=>by rw [fZ (f6 q hn)];exact q
 JC:=λb ps q=>⟨#[],by rw [fZ (f6 q hn),q];simp⟩
theorem Un.write (mu:Yj (H x)) (he:e=x∨H e=some (.own x)) (k:∀b u,b≠e→h.get? b=some u→h'.get? b=some u) (XS:∃u,h'.get? e=some u):Un fs ex H (upd H x o) h h':=by
 have hx:∀b,H b=none→b≠x:=λb n z=>by subst z;rw [n] at mu;exact mu
 have hb:∀b,H b=none→b≠e:=λb n z=>by
  subst z
  rcases he with r|r
  ·exact hx b n r
  ·rw [n] at r;cases r
 have hm:∀b u,H b=some u→¬Yj (some u)→b≠x:=λb u q nm z=>by subst z;rw [q] at mu;exact nm mu
 refine ⟨λb u q n _ _=>k b u (hb b n) q,λb u q n _ _=>⟨u.slots,k b u (hb b n) q⟩,λb u q n _=>by rw [fZ (hx b n)];exact n,λb u q _=>?_,
  λb xs q=>by rw [fZ (hm b _ q fun z=>z)];exact q,λb u xs q=>by rw [fZ (hm b _ q fun z=>z)];exact q,λb ps q=>⟨#[],by rw [fZ (hm b _ q fun z=>z),q];simp⟩⟩
 by_cases VF:b=e
 ·subst VF;exact XS
 ·exact ⟨u,k b u VF q⟩
end
def trk (h:Heap) (H:Hp):List Addr:=(aQ h.objs.size).filter fun a=>(H a).isSome
def GL (h:Heap) (H:Hp):Heap:=PySem.W.hideAll h (trk h H)
theorem OH (h:Heap) (H:Hp):(GL h H).objs.size=h.objs.size:=PySem.W.hideAll_size _ _
theorem Ql {h:Heap}{H:Hp}{b:Addr}{o:Obj}(e:h.get? b=some o) (n:H b=none):(GL h H).get? b=some o:=
 PySem.W.hideAll_get _ e fun hm=>by
  have q:(H b).isSome=true:=(dc.mp hm).2
  rw [n] at q;simp at q
theorem Te {h:Heap}{H:Hp}{b:Addr}{o:Obj}(e:(GL h H).get? b=some o):h.get? b=some o∧H b=none:=by
 have e':h.get? b=some o:=PySem.W.of_hideAll (trk h H) e
 refine ⟨e',?_⟩
 cases q:H b with
 |none=>rfl
 |some x=>
  have hm:b∈trk h H:=dc.mpr ⟨aM.mpr (Heap.lt_size e'),by simp [q]⟩
  have z:(GL h H).get? b=none:=PySem.W.hideAll_none (trk h H) hm
  rw [z] at e;cases e
def Tf (g h:Heap) (L:Addr):List (Addr×Obj):=(aQ h.objs.size).filterMap fun a=>if a=L∨(g.get? a).isSome=true then none else (h.get? a).map fun o=>(a,o)
def rest (g h:Heap) (L d:Addr):List (Addr×Obj):=(Tf g h L).filter fun p=>decide (p.1≠d)
end L2
namespace L2
open PySem PySem.Spec PyProof.Rows
structure Mod (K:ab) (mg:Str→Option Value) (base:Heap):Prop where
 kin:K.In base
 glob:base.Ns mainGlobals mg
 blt:∃mb,base.Ns builtinsNs mb∧∀x:Str,x≠"__name__"→mb x=bootBuiltins x
 nolimit:base.NoLimit
structure Cx where
 prog:Program
 w:World
 K:ab
 mg:Str→Option Value
 base:Heap
 A:Around
 N:List Str
 FF:Shared
 Yl:Hp
 env:Env
 outer:List Env
 stack:List Env
 ex:List Addr
 fn:Str→Bool
 calm:Bool
 pn:List (Addr×Obj)
 xe:Value→Shared→Prop
def Qm (l:List Env):List Addr:=l.filterMap (·.frame)
abbrev Cx.fs (X:Cx):List Addr:=Qm X.outer
def Ym (sc:Scope) (x:Str):Prop:=sc.names.lookup x=some .local∨sc.names.lookup x=some .cell∨sc.names.lookup x=some .free
def Loc (sc:Scope) (x:Str):Prop:=sc.names.lookup x=some .local∨sc.names.lookup x=some .cell
def Look (env:Env) (h:Heap) (m:Str→Option Value) (x:Str) (u:Value):Prop:=
 (env.kindOf x=some .local∧m x=some u)∨((env.kindOf x=some .cell∨env.kindOf x=some .free)∧∃c,env.cells.lookup x=some c∧h.IsCell c (some u))
structure Cx.Ok (X:Cx):Prop where
 mod:Mod X.K X.mg X.base
 kind:X.env.scope.kind=.function
 glob:X.env.globals=mainGlobals
 blt:X.env.builtins=builtinsNs
 above:X.FF.heap.objs.size≤X.env.locals
 inj:∀x y c,X.env.cells.lookup x=some c→X.env.cells.lookup y=some c→x=y
 has:∀x,(X.env.kindOf x=some .cell∨X.env.kindOf x=some .free)→∃c,X.env.cells.lookup x=some c
 Yn:∀x c,X.fn x=true→X.env.cells.lookup x=some c→X.FF.heap.objs.size≤c
 hd:X.calm=true→X.A.handled=none
 frames:X.A.frames=some X.stack
 stk:X.stack=X.outer∨(X.stack=X.env::X.outer∧X.env.frame=some X.env.locals)
 exf:∀b∈X.ex,b≠X.env.locals∧∀x c,X.env.cells.lookup x=some c→c≠b
 bs:∀b o,X.base.get? b=some o→X.FF.heap.get? b=some o∧X.Yl b=none
 Tg:X.base.objs.size≤X.FF.heap.objs.size
 Qn:∀b o,X.base.get? b=some o→b∉X.ex
 Qo:∀b∈X.ex,b∉X.fs
 zL:X.FF.heap.FunFrames X.base X.outer
 VG:∀b∈X.fs,X.Yl b=none
structure Inv (X:Cx) (pins:List (Addr×Obj)) (σ:List (Option V)) (H:Hp) (s:Shared):Prop where
 ok:X.Ok
 os:s.os=X.FF.os
 bare:AllBare s.gens
 base:Un X.fs X.ex X.Yl H X.FF.heap s.heap
 loc:∃m,s.heap.Ns X.env.locals m∧∀(i:Nat) (x:Str) (v:V),X.N[i]?=some x→σ[i]?=some (some v)→Ym X.env.scope x→∃u,RelV v u∧Look X.env s.heap m x u
 cell:∀x c,X.env.cells.lookup x=some c→∃v,s.heap.IsCell c v
 free:H X.env.locals=none
 sM:∀x c,X.env.cells.lookup x=some c→H c=none
 pin:∀p∈X.pn++pins,s.heap.get? p.1=some p.2∧H p.1=none∧p.1≠X.env.locals∧p.1∉X.fs∧∀v,p.2.data≠.cell v
 iR:sL X.prog X.w H s.heap
 len:σ.length=X.N.length
section
variable {X:Cx}{pins:List (Addr×Obj)}{σ:List (Option V)}{H H':Hp}{s:Shared}{h':Heap}
theorem Cx.Ok.aag (ok:X.Ok) {b:Addr}{o:Obj}(e:X.base.get? b=some o):b∉X.fs:=λhb=>by
 have:=(ok.zL.mem hb).1
 rw [e] at this;cases this
theorem Inv.bs (I:Inv X pins σ H s):∀b o,X.base.get? b=some o→s.heap.get? b=some o∧H b=none:=λb o e=>
 ⟨I.base.keep b o (I.ok.bs b o e).1 (I.ok.bs b o e).2 (I.ok.aag e) (I.ok.Qn b o e),I.base.free b o (I.ok.bs b o e).1 (I.ok.bs b o e).2 (I.ok.Qn b o e)⟩
theorem Inv.bk (I:Inv X pins σ H s):∀b o,X.base.get? b=some o→s.heap.get? b=some o:=λb o e=>(I.bs b o e).1
theorem Inv.mod (I:Inv X pins σ H s):Mod X.K X.mg X.base:=I.ok.mod
theorem Inv.LY (I:Inv X pins σ H s):X.K.In s.heap:=I.ok.mod.kin.keeps I.bk
theorem Inv.nolimit (I:Inv X pins σ H s):s.heap.NoLimit:=I.ok.mod.nolimit.keeps I.bk
theorem Inv.lt (I:Inv X pins σ H s):X.env.locals<s.heap.objs.size:=let ⟨_,hn,_⟩:=I.loc;hn.lt
theorem Inv.sz (I:Inv X pins σ H s):X.FF.heap.objs.size≤s.heap.objs.size:=bh I.ok.above (Nat.le_of_lt I.lt)
theorem Inv.aah (I:Inv X pins σ H s) {a:Addr}(h:s.heap.objs.size≤a):a∉X.fs:=λhb=>by
 obtain ⟨_,o,ho,_⟩:=I.ok.zL.mem hb
 exact absurd (aZ (Heap.lt_size ho) (bh I.sz h)) (cu _)
theorem Inv.VH (I:Inv X pins σ H s):∀x c,X.env.cells.lookup x=some c→c≠X.env.locals:=λx c e z=>by
 obtain ⟨v,o,ho,hd⟩:=I.cell x c e
 obtain ⟨m,⟨o',es,ep,Qa,XT,_⟩,_⟩:=I.loc
 rw [z,Qa] at ho;cases ho;rw [XT] at hd;cases hd
theorem Inv.zL (I:Inv X pins σ H s):s.heap.FunFrames X.base X.outer:=by
 have all:∀(l:List Env),(∀b∈Qm l,b∈X.fs)→X.FF.heap.FunFrames X.base l→s.heap.FunFrames X.base l:=by
  intro l
  induction l with
  |nil=>intro _ _;trivial
  |cons env r ih=>
   intro hs hl
   obtain ⟨hk,⟨L,o,hf,hn,ho,hd⟩,hr⟩:=hl
   have hL:L∈X.fs:=hs L (by unfold Qm;rw [bj,hf];exact az)
   obtain ⟨sl,e⟩:=I.base.slot L o ho (I.ok.VG L hL) hL fun z=>I.ok.Qo L z hL
   exact ⟨hk,⟨L,_,hf,hn,e,hd⟩,ih (λb hb=>hs b (by unfold Qm;rw [bj,hf];exact ag _ hb)) hr⟩
 exact all X.outer (λ_ hb=>hb) I.ok.zL
theorem Inv.stack (I:Inv X pins σ H s):s.heap.FunFrames X.base X.stack:=by
 rcases I.ok.stk with e|⟨e,hf⟩
 ·rw [e];exact I.zL
 ·rw [e]
  obtain ⟨m,hn,_⟩:=I.loc
  refine .cons (by rw [I.ok.kind];decide) hf hn ?_ I.zL
  exact Heap.get?_none_of_le (bh I.ok.Tg I.ok.above)
theorem Inv.LZ (I:Inv X pins σ H s):∀b∈Qm X.stack,b∈X.env.locals::X.fs:=λb hb=>by
 rcases I.ok.stk with e|⟨e,hf⟩
 ·rw [e] at hb;exact ag _ hb
 ·rw [e] at hb
  unfold Qm at hb
  rw [bj,hf] at hb
  exact hb
theorem Inv.NA (I:Inv X pins σ H s):∀b∈Qm X.stack,H b=none:=λb hb=>by
 rcases aB.mp (I.LZ b hb) with e|hb
 ·rw [e];exact I.free
 ·obtain ⟨_,o,ho,_⟩:=I.ok.zL.mem hb
  exact I.base.free b o ho (I.ok.VG b hb) fun z=>I.ok.Qo b z hb
theorem Inv.step {g':Array GenState}{t':Nat}{d':Drawn}{ch:List Addr}(I:Inv X pins σ H s)
  (S4:∀b∈ch,(b∈X.ex∨X.FF.heap.objs.size≤b)∧b≠X.env.locals∧(∀x c,X.env.cells.lookup x=some c→c≠b)∧∀p∈X.pn++pins,p.1≠b)
  (keep:∀b o,b≠X.env.locals→b∉X.fs→b∉ch→s.heap.get? b=some o→H b=none→h'.get? b=some o)
  (slot:∀b o,b≠X.env.locals→b∈X.fs→b∉ch→s.heap.get? b=some o→H b=none→∃sl,h'.get? b=some { o with slots:=sl }) (free:∀b o,b∉ch→s.heap.get? b=some o→H b=none→H' b=none)
  (there:∀b o,b∉ch→s.heap.get? b=some o→∃o',h'.get? b=some o')
  (JB:∀b xs,H b=some (.tup xs)→H' b=some (.tup xs)) (GK:∀b o u,H b=some (.GJ o u)→H' b=some (.GJ o u)) (JC:∀b ps,H b=some (.VD ps)→∃more,H' b=some (.VD (ps++more)))
  (ns:∀m,s.heap.Ns X.env.locals m→h'.Ns X.env.locals m) (iR:sL X.prog X.w H' h') (hg:AllBare g') :
  Inv X pins σ H' { s with heap:=h',gens:=g',drawn:=d',toks:=t' }:=by
 have neL:∀b o,X.FF.heap.get? b=some o→b≠X.env.locals:=λb o e=>aS (aZ (Heap.lt_size e) I.ok.above)
 have neC:∀b o,X.FF.heap.get? b=some o→b∉X.ex→b∉ch:=λb o e hx hb=>by
  rcases (S4 b hb).1 with z|z
  ·exact hx z
  ·exact absurd (aZ (Heap.lt_size e) z) (cu _)
 have cellK:∀x c,X.env.cells.lookup x=some c→∀v,s.heap.IsCell c v→h'.IsCell c v:=λx c e v ⟨o,ho,hd⟩=>by
  have Yo:c∉ch:=λz=>(S4 c z).2.2.1 x c e rfl
  by_cases hc:c∈X.fs
  ·obtain ⟨sl,q⟩:=slot c o (I.VH x c e) hc Yo ho (I.sM x c e)
   exact ⟨_,q,hd⟩
  ·exact ⟨o,keep c o (I.VH x c e) hc Yo ho (I.sM x c e),hd⟩
 refine ⟨I.ok,I.os,hg,⟨λb o e n hb hx=>?_,λb o e n hb hx=>?_,λb o e n hx=>?_,λb o e hx=>?_,λb xs e=>JB b xs (I.base.JB b xs e),λb o xs e=>GK b o xs (I.base.GK b o xs e),λb ps e=>?_⟩,?_,λx c e=>?_,?_,λx c e=>?_,λp hp=>?_,iR,I.len⟩
 ·exact keep b o (neL b o e) hb (neC b o e hx) (I.base.keep b o e n hb hx) (I.base.free b o e n hx)
 ·obtain ⟨sl,e1⟩:=I.base.slot b o e n hb hx
  obtain ⟨sl',e2⟩:=slot b _ (neL b o e) hb (neC b o e hx) e1 (I.base.free b o e n hx)
  exact ⟨sl',e2⟩
 ·obtain ⟨o',e1⟩:=I.base.there b o e hx
  exact free b o' (neC b o e hx) e1 (I.base.free b o e n hx)
 ·obtain ⟨o',e1⟩:=I.base.there b o e hx
  exact there b o' (neC b o e hx) e1
 ·obtain ⟨m1,e1⟩:=I.base.JC b ps e
  obtain ⟨m2,e2⟩:=JC b _ e1
  exact ⟨m1++m2,by rw [e2,Array.append_assoc]⟩
 ·obtain ⟨m,hn,hl⟩:=I.loc
  refine ⟨m,ns m hn,λi x v e1 e2 e3=>?_⟩
  obtain ⟨u,r,l⟩:=hl i x v e1 e2 e3
  refine ⟨u,r,?_⟩
  rcases l with l|⟨k,c,e,z⟩
  ·exact .inl l
  ·exact .inr ⟨k,c,e,cellK x c e _ z⟩
 ·obtain ⟨v,z⟩:=I.cell x c e
  exact ⟨v,cellK x c e v z⟩
 ·obtain ⟨m,⟨o,_,_,ho,_⟩,_⟩:=I.loc
  exact free _ o (λz=>(S4 _ z).2.1 rfl) ho I.free
 ·obtain ⟨v,o,ho,hd⟩:=I.cell x c e
  exact free c o (λz=>(S4 c z).2.2.1 x c e rfl) ho (I.sM x c e)
 ·obtain ⟨e,n,ne,nf,d⟩:=I.pin p hp
  have Yo:p.1∉ch:=λz=>(S4 p.1 z).2.2.2 p hp rfl
  exact ⟨keep p.1 p.2 ne nf Yo e n,free p.1 p.2 Yo e n,ne,nf,d⟩
theorem Inv.un {t':Nat}(I:Inv X pins σ H s) (u:Un X.fs [] H H' s.heap h') (iR:sL X.prog X.w H' h'):Inv X pins σ H' { s with heap:=h',toks:=t' }:=by
 obtain ⟨m,⟨o,es,ep,ho,r⟩,_⟩:=id I.loc
 obtain ⟨sl,hL⟩:=u.any ho I.free (by simp)
 exact I.step (g':=s.gens) (d':=s.drawn) (ch:=[]) (λ_ z=>nomatch z) (λb o _ hb _ e n=>u.keep b o e n hb (by simp)) (λb o _ hb _ e n=>u.slot b o e n hb (by simp)) (λb o _ e n=>u.free b o e n (by simp)) (λb o _ e=>u.there b o e (by simp)) u.JB u.GK u.JC (λm' hm=>by
  obtain ⟨o',es',ep',Qa,r'⟩:=hm
  rw [ho] at Qa;cases Qa
  exact ⟨_,es',ep',hL,r'⟩) iR I.bare
theorem Inv.call {g':Array GenState}{t':Nat}{d':Drawn}{ch:List Addr}(I:Inv X pins σ H s) (u:Un (Qm X.stack) ch H H' s.heap h') (iR:sL X.prog X.w H' h') (hg:AllBare g')
  (S4:∀b∈ch,(b∈X.ex∨X.FF.heap.objs.size≤b)∧b≠X.env.locals∧(∀x c,X.env.cells.lookup x=some c→c≠b)∧∀p∈X.pn++pins,p.1≠b) :
  Inv X pins σ H' { s with heap:=h',gens:=g',drawn:=d',toks:=t' }:=by
 obtain ⟨m,⟨o,es,ep,ho,r⟩,_⟩:=id I.loc
 obtain ⟨sl,hL⟩:=u.any ho I.free fun z=>(S4 _ z).2.1 rfl
 exact I.step (ch:=ch) S4 (λb o hL hb hc e n=>u.keep b o e n (λz=>(aB.mp (I.LZ b z)).elim hL hb) hc) (λb o _ _ hc e n=>u.any e n hc) (λb o hc e n=>u.free b o e n hc) (λb o hc e=>u.there b o e hc) u.JB u.GK u.JC (λm' hm=>by
  obtain ⟨o',es',ep',Qa,r'⟩:=hm
  rw [ho] at Qa;cases Qa
  exact ⟨_,es',ep',hL,r'⟩) iR hg
theorem Inv.turned {t':Nat}{it:Addr}(I:Inv X pins σ H s) (k:∀b o,b≠it→s.heap.get? b=some o→h'.get? b=some o) (hn:H it=none) (hL:it≠X.env.locals)
  (h1:it∈X.ex∨X.FF.heap.objs.size≤it) (h2:∀x c,X.env.cells.lookup x=some c→c≠it) (h3:∀p∈X.pn++pins,p.1≠it):Inv X pins σ H { s with heap:=h',toks:=t' }:=by
 have U7:∀b u,H b=some u→b≠it:=λb u e z=>by rw [z,hn] at e;cases e
 refine I.step (g':=s.gens) (d':=s.drawn) (ch:=[it]) (λb hb=>?_) (λb o _ _ hc e _=>k b o (λz=>hc (by simp [z])) e) (λb o _ _ hc e _=>⟨o.slots,k b o (λz=>hc (by simp [z])) e⟩) (λ_ _ _ _ n=>n)
  (λb o hc e=>⟨o,k b o (λz=>hc (by simp [z])) e⟩) (λ_ _ e=>e) (λ_ _ _ e=>e) (λb ps e=>⟨#[],by rw [e];simp⟩) (λm hm=>?_) (λb u e=>?_) I.bare
 ·have e:b=it:=by simpa using hb
  subst e
  exact ⟨h1,hL,h2,h3⟩
 ·obtain ⟨o,es,ep,ho,r⟩:=hm
  exact ⟨o,es,ep,k _ o (Ne.symm hL) ho,r⟩
 ·refine (I.iR b u e).LX (λc v hc q=>k c v ?_ q) (λ_ q=>q) fun _ _ q=>q
  rcases hc with z|z
  ·rw [z];exact U7 b u e
  ·exact U7 c _ z
theorem Inv.tok (I:Inv X pins σ H s) (t:Nat):Inv X pins σ H { s with toks:=t }:=I.un (h':=s.heap) (t':=t) Un.refl I.iR
theorem Inv.kept {t':Nat}(I:Inv X pins σ H s) (k:∀b u,s.heap.get? b=some u→h'.get? b=some u):Inv X pins σ H { s with heap:=h',toks:=t' }:=I.un (Un.kept k) (I.iR.kept k)
theorem Inv.laid {a:Addr}{o:HO}{t':Nat}(I:Inv X pins σ H s) (k:∀b u,s.heap.get? b=some u→h'.get? b=some u) (hp:s.heap.objs.size≤a) (new:j5 X.prog X.w (upd H a o) h' a o) :
  Inv X pins σ (upd H a o) { s with heap:=h',toks:=t' }:=I.un (Un.laid k hp (I.iR.fresh hp)) (I.iR.laid k hp new)
theorem Inv.write {x e:Addr}{o:HO}{t':Nat}(I:Inv X pins σ H s) (mu:Yj (H x)) (he:e=x∨H e=some (.own x)) (k:∀b u,b≠e→s.heap.get? b=some u→h'.get? b=some u) (XS:∃u,h'.get? e=some u)
  (new:j5 X.prog X.w (upd H x o) h' x o):Inv X pins σ (upd H x o) { s with heap:=h',toks:=t' }:=I.un (Un.write mu he k XS) (I.iR.write mu he k XS new)
theorem Inv.weak {σ':List (Option V)}(I:Inv X pins σ H s) (hl:σ'.length=σ.length) (w:∀(i:Nat) v,σ'[i]?=some (some v)→σ[i]?=some (some v)):Inv X pins σ' H s:=
 ⟨I.ok,I.os,I.bare,I.base,let ⟨m,hn,hl'⟩:=I.loc;⟨m,hn,λi x v e1 e2 e3=>hl' i x v e1 (w i v e2) e3⟩,I.cell,I.free,I.sM,I.pin,I.iR,hl.trans I.len⟩
theorem Inv.NB {U8:List (Addr×Obj)}(I:Inv X pins σ H s) (h:∀p∈U8,s.heap.get? p.1=some p.2∧H p.1=none∧p.1≠X.env.locals∧p.1∉X.fs∧∀v,p.2.data≠.cell v):Inv X U8 σ H s:=
 ⟨I.ok,I.os,I.bare,I.base,I.loc,I.cell,I.free,I.sM,λp hp=>(bE.mp hp).elim (λz=>I.pin p (dO _ z)) (h p),I.iR,I.len⟩
theorem AV {N:List Str}(hN:N.Nodup) {i j:Nat}{x:Str}(a:N[i]?=some x) (b:N[j]?=some x):i=j:=by
 obtain ⟨h1,e1⟩:=aO.mp a
 obtain ⟨h2,e2⟩:=aO.mp b
 exact (List.getElem_inj hN).mp (e1.trans e2.symm)
theorem FH {M:Model}{A:Around}{E:Value→Shared→Prop}{i:Nat}{x:Str}{v:V}{u:Value}{Q:Unit→Shared→Prop}(I:Inv X pins σ H s) (hN:X.N.Nodup) (hi:X.N[i]?=some x) (hx:Loc X.env.scope x) (r:RelV v u)
  (h:∀s',Inv X pins (σ.set i (some v)) H s'→(∃a,Heap.SameBut a s.heap s'.heap∧(a=X.env.locals∨X.env.cells.lookup x=some a))→Q () s') (hf:X.fn x=true∨X.env.scope.names.lookup x=some .local:=by first|exact .inl rfl|exact .inr rfl|assumption):wpAny M A (storeName X.env x u) Q E s:=by
 obtain ⟨m,hn,hl⟩:=id I.loc
 have aai:(X.env.scope.kind==.class||(X.env.scope.kind==.module&&X.env.locals != X.env.globals))=false:=by rw [I.ok.kind];rfl
 have hiσ:i<σ.length:=by rw [I.len];exact (aO.mp hi).1
 have VH:=I.VH
 have tracked:∀{a:Addr} {h':Heap},(∃o,s.heap.get? a=some o∧H a=none)→Heap.SameBut a s.heap h'→sL X.prog X.w H h':=λ{a h'} ha hs b ob e=>by
  obtain ⟨_,_,FI⟩:=ha
  refine (I.iR b ob e).LX (λc w' hc q=>(hs.2 c ?_).trans q) (λ_ q=>q) fun _ _ q=>q
  rintro rfl
  rcases hc with rfl|hc
  ·rw [FI] at e;cases e
  ·rw [FI] at hc;cases hc
 rcases hx with hk|hk
 ·refine wpAny_storeName_local hk hn (λh' hn' hs=>?_) aai
  obtain ⟨oL,_,_,hoL,_⟩:=id hn
  refine h _ ⟨I.ok,I.os,I.bare,⟨λb o e n hb hx=>?_,λb o e n hb hx=>?_,I.base.free,λb o e hx=>?_,I.base.JB,I.base.GK,I.base.JC⟩,⟨_,hn',λj y v' e1 e2 e3=>?_⟩,λy c e=>?_,I.free,I.sM,λp hp=>?_,tracked ⟨oL,hoL,I.free⟩ hs,by simpa using I.len⟩ ⟨_,hs,.inl rfl⟩
  ·exact (hs.2 b (aS (aZ (Heap.lt_size e) I.ok.above))).trans (I.base.keep b o e n hb hx)
  ·obtain ⟨sl,e1⟩:=I.base.slot b o e n hb hx
   exact ⟨sl,(hs.2 b (aS (aZ (Heap.lt_size e) I.ok.above))).trans e1⟩
  ·obtain ⟨o',e1⟩:=I.base.there b o e hx
   exact ⟨o',(hs.2 b (aS (aZ (Heap.lt_size e) I.ok.above))).trans e1⟩
  ·by_cases hj:j=i
   ·subst hj
    rw [hi] at e1;cases e1
    rw [cv hiσ] at e2
    cases e2
    exact ⟨u,r,.inl ⟨hk,by simp⟩⟩
   ·rw [eV (Ne.symm hj)] at e2
    obtain ⟨u',r',q⟩:=hl j y v' e1 e2 e3
    refine ⟨u',r',?_⟩
    rcases q with ⟨k,e⟩|⟨k,c,e,z⟩
    ·refine .inl ⟨k,?_⟩
     have:y≠x:=λe=>hj (AV hN e1 (e▸hi))
     simp [this,e]
    ·exact .inr ⟨k,c,e,z.sameBut hs (VH y c e)⟩
  ·obtain ⟨w',z⟩:=I.cell y c e
   exact ⟨w',z.sameBut hs (VH y c e)⟩
  ·obtain ⟨e,n,ne,nf,d⟩:=I.pin p hp
   exact ⟨(hs.2 p.1 ne).trans e,n,ne,nf,d⟩
 ·have hfn:X.fn x=true:=by
   rcases hf with z|z
   ·exact z
   ·rw [z] at hk;cases hk
  obtain ⟨c,hc⟩:=I.ok.has x (.inl hk)
  obtain ⟨w',z⟩:=I.cell x c hc
  refine wpAny_storeName_cell I.ok.kind hk hc z (λh' XU hs=>?_)
  obtain ⟨oc,hoc,aaj⟩:=id z
  refine h { s with heap:=h' } ⟨I.ok,I.os,I.bare,⟨λb o e n hb hx=>?_,λb o e n hb hx=>?_,I.base.free,λb o e hx=>?_,I.base.JB,I.base.GK,I.base.JC⟩,⟨m,hn.sameBut hs (Ne.symm (VH x c hc)),λj y v' e1 e2 e3=>?_⟩,λy c' e=>?_,I.free,I.sM,λp hp=>?_,tracked ⟨oc,hoc,I.sM x c hc⟩ hs,by simpa using I.len⟩ ⟨c,hs,.inr hc⟩
  ·exact (hs.2 b (aS (aZ (Heap.lt_size e) (I.ok.Yn x c hfn hc)))).trans (I.base.keep b o e n hb hx)
  ·obtain ⟨sl,e1⟩:=I.base.slot b o e n hb hx
   exact ⟨sl,(hs.2 b (aS (aZ (Heap.lt_size e) (I.ok.Yn x c hfn hc)))).trans e1⟩
  ·obtain ⟨o',e1⟩:=I.base.there b o e hx
   exact ⟨o',(hs.2 b (aS (aZ (Heap.lt_size e) (I.ok.Yn x c hfn hc)))).trans e1⟩
  ·by_cases hj:j=i
   ·subst hj
    rw [hi] at e1;cases e1
    rw [cv hiσ] at e2
    cases e2
    exact ⟨u,r,.inr ⟨.inl hk,c,hc,XU⟩⟩
   ·rw [eV (Ne.symm hj)] at e2
    obtain ⟨u',r',q⟩:=hl j y v' e1 e2 e3
    refine ⟨u',r',?_⟩
    rcases q with q|⟨k,c',e,z'⟩
    ·exact .inl q
    ·refine .inr ⟨k,c',e,z'.sameBut hs ?_⟩
     rintro rfl
     exact hj (AV hN e1 (I.ok.inj _ _ _ e hc▸hi))
  ·by_cases JD:c'=c
   ·subst JD;exact ⟨_,XU⟩
   ·obtain ⟨w2,z2⟩:=I.cell y c' e
    exact ⟨w2,z2.sameBut hs JD⟩
  ·obtain ⟨e,n,ne,nf,d⟩:=I.pin p hp
   refine ⟨(hs.2 p.1 ?_).trans e,n,ne,nf,d⟩
   intro q
   rw [q,hoc] at e
   have q':oc=p.2:=Option.some.inj e
   exact d w' (by rw [←q'];exact aaj)
theorem JE {M:Model}{A:Around}{E:Value→Shared→Prop}{i:Nat}{x:Str}{v:V}{u:Value}{Q:Unit→Shared→Prop}(I:Inv X pins σ H s) (hN:X.N.Nodup) (hi:X.N[i]?=some x) (hx:Loc X.env.scope x) (r:RelV v u)
  (h:∀s',Inv X pins (σ.set i (some v)) H s'→Q () s') (hf:X.fn x=true∨X.env.scope.names.lookup x=some .local:=by first|exact .inl rfl|exact .inr rfl|assumption):wpAny M A (storeName X.env x u) Q E s:=
 FH I hN hi hx r (λs' I' _=>h s' I') hf
theorem Inv.Yp {s':Shared}{ch:List Addr}(I:Inv X pins σ H s) (ho:s'.os=s.os) (u:Un (Qm X.stack) ch H H' s.heap s'.heap) (iR:sL X.prog X.w H' s'.heap) (hg:AllBare s'.gens)
  (S4:∀b∈ch,(b∈X.ex∨X.FF.heap.objs.size≤b)∧b≠X.env.locals∧(∀x c,X.env.cells.lookup x=some c→c≠b)∧∀p∈X.pn++pins,p.1≠b):Inv X pins σ H' s':=by
 obtain ⟨h',g',d',t',o'⟩:=s'
 have e:o'=s.os:=ho
 subst e
 exact I.call (g':=g') (t':=t') (d':=d') u iR hg S4
end
abbrev XK:=Value→Option Addr→Hp→Prop
abbrev St:=List (Option V)
abbrev VK:=V→Hp→Prop
abbrev TE:=St→Hp→VK→Prop
abbrev TT:=St→Hp→(Bool→Hp→Prop)→Prop
abbrev TA:=St→Hp→(List V→Hp→Prop)→Prop
structure Ends where
 nx:St→Hp→Prop
 rt:VK
 bk:St→Hp→Prop:=λ_ _=>False
 ct:St→Hp→Prop:=λ_ _=>False
abbrev TS:=Ends→St→Hp→Prop
def EP (X:Cx) (pins:List (Addr×Obj)) (σ:St) (Q:VK) (u:Value) (s':Shared):Prop:=∃v H',Inv X pins σ H' s'∧RelV v u∧Q v H'
def TP (X:Cx) (pins:List (Addr×Obj)) (σ:St) (Q:Bool→Hp→Prop) (b:Bool) (s':Shared):Prop:=∃H',Inv X pins σ H' s'∧Q b H'
def AP (X:Cx) (pins:List (Addr×Obj)) (σ:St) (Q:List V→Hp→Prop) (us:List Value) (s':Shared):Prop:=∃vs H',Inv X pins σ H' s'∧Vals vs us∧Q vs H'
def SP (X:Cx) (pins:List (Addr×Obj)) (D:Ends) (f:Flow) (s':Shared):Prop:=
 match f with
 |.next=>∃σ' H',Inv X pins σ' H' s'∧D.nx σ' H'
 |.brk=>∃σ' H',Inv X pins σ' H' s'∧D.bk σ' H'
 |.cont=>∃σ' H',Inv X pins σ' H' s'∧D.ct σ' H'
 |.ret u=>∃v σ' H',Inv X pins σ' H' s'∧RelV v u∧D.rt v H'
def PE (X:Cx) (e:Expr) (t:TE):Prop:=
 ∀(pins:List (Addr×Obj)) (s:Shared) (σ:St) (H:Hp) (Q:VK),Inv X pins σ H s→t σ H Q→wpAny (model X.prog X.w) X.A (eval e X.env) (EP X pins σ Q) X.xe s
def PT (X:Cx) (e:Expr) (t:TT):Prop:=
 ∀(pins:List (Addr×Obj)) (s:Shared) (σ:St) (H:Hp) (Q:Bool→Hp→Prop),Inv X pins σ H s→t σ H Q→wpAny (model X.prog X.w) X.A (isTrue e X.env (eval e X.env)) (TP X pins σ Q) X.xe s
def PW (X:Cx) (e:Expr) (t:TT):Prop:=
 ∀(whole:Sem Value) (pins:List (Addr×Obj)) (s:Shared) (σ:St) (H:Hp) (Q:Bool→Hp→Prop),Inv X pins σ H s→t σ H Q→wpAny (model X.prog X.w) X.A (isTrue e X.env whole) (TP X pins σ Q) X.xe s
theorem PW.pt {X:Cx}{e:Expr}{t:TT}(h:PW X e t):PT X e t:=h _
def PA (X:Cx) (es:List Expr) (t:TA):Prop:=
 ∀(pos:Pos) (pins:List (Addr×Obj)) (s:Shared) (σ:St) (H:Hp) (Q:List V→Hp→Prop),Inv X pins σ H s→t σ H Q→wpAny (model X.prog X.w) X.A (spliced (backTo pos (starEach es X.env))) (AP X pins σ Q) X.xe s
def PS (X:Cx) (st:Stmt) (t:TS):Prop:=
 ∀(pins:List (Addr×Obj)) (s:Shared) (σ:St) (H:Hp) (D:Ends),Inv X pins σ H s→t D σ H→wpAny (model X.prog X.w) X.A (exec st X.env) (SP X pins D) X.xe s
def NC (X:Cx) (st:List Stmt) (t:TS):Prop:=
 ∀(pins:List (Addr×Obj)) (s:Shared) (σ:St) (H:Hp) (D:Ends),Inv X pins σ H s→t D σ H→wpAny (model X.prog X.w) X.A (execs st X.env) (SP X pins D) X.xe s
theorem kj {α:Type}{t:Sem α}{Q Q':α→Shared→Prop}{M:Model}{A:Around}{E:Value→Shared→Prop}{s:Shared}(h:wpAny M A t Q E s) (hQ:∀a s,Q a s→Q' a s):wpAny M A t Q' E s:=wpAny_mono h hQ fun _ _ x=>x
end L2
namespace L2
open PySem PySem.Spec PyProof.Rows
section
variable {X:Cx}
def fV (i:Nat):TE:=fun σ H Q=>∃v,σ[i]?=some (some v)∧Q v H
def tC (v:V):TE:=λ_ H Q=>Q v H
theorem VI {i:Nat}{x:Str}{pos:Pos}(hN:X.N[i]?=some x) (hv:Ym X.env.scope x) (hd:(x==("__debug__":Str))=false:=by decide) (S5:(x==("__classdict__":Str))=false:=by decide):PE X (.Name x pos) (fV i):=by
 intro pins s σ H Q I h
 obtain ⟨v,e,h⟩:=h
 obtain ⟨m,hn,hl⟩:=I.loc
 obtain ⟨u,r,l⟩:=hl i x v hN e hv
 have fin:EP X pins σ Q u s:=⟨v,H,I,r,h⟩
 rcases l with ⟨hk,hm⟩|⟨hk,c,hc,U9⟩
 ·exact wpAny_Name (wpAny_loadName_local I.ok.kind hk hn hm fin) hd
 ·rcases hk with hk|hk
  ·exact wpAny_Name (wpAny_loadName_cell I.ok.kind hk hc U9 fin) hd
  ·exact wpAny_Name (wpAny_loadName_free I.ok.kind hk hc U9 fin S5) hd
theorem gb {i j pos}:PE X (.Constant (.int i) j pos) (tC (.int i)):=λ_ _ _ H _ I h=>wpAny_Constant_int ⟨.int i,H,I.tok _,⟨_,rfl⟩,h⟩
theorem mY {b j pos}:PE X (.Constant (.bool b) j pos) (tC (.bl b)):=λ_ _ _ H _ I h=>Constant_bool ⟨.bl b,H,I,rfl,h⟩
def Gl (X:Cx) (x:Str):Prop:=X.env.kindOf x=some .globalImplicit
theorem Aw {E:Value→Shared→Prop}{pins:List (Addr×Obj)}{s:Shared}{σ:St}{H:Hp}{x:Str}{u:Value}{pos:Pos}{Q:Value→Shared→Prop}(I:Inv X pins σ H s) (hg:Gl X x) (hm:X.mg x=some u) (h:Q u s)
  (hd:(x==("__debug__":Str))=false:=by decide):wpAny (model X.prog X.w) X.A (eval (.Name x pos) X.env) Q E s:=
 Calls.Name_function_global I.ok.kind hg (Calls.loadGlobal_global (by rw [I.ok.glob];exact I.mod.glob.keeps I.bk) hm h) hd
theorem AW {E:Value→Shared→Prop}{pins:List (Addr×Obj)}{s:Shared}{σ:St}{H:Hp}{x:Str}{u:Value}{pos:Pos}{Q:Value→Shared→Prop}(I:Inv X pins σ H s) (hg:Gl X x) (hm:X.mg x=none) (hv:bootBuiltins x=some u) (h:Q u s)
  (hn:x≠"__name__":=by decide) (hd:(x==("__debug__":Str))=false:=by decide):wpAny (model X.prog X.w) X.A (eval (.Name x pos) X.env) Q E s:=by
 obtain ⟨mb,h1,h2⟩:=I.mod.blt
 exact Calls.Name_function_global I.ok.kind hg (Calls.loadGlobal_builtin (by rw [I.ok.glob];exact I.mod.glob.keeps I.bk) hm (by rw [I.ok.blt];exact h1.keeps I.bk) ((h2 x hn).trans hv) h) hd
theorem ND {x:Str}{v:V}{u:Value}{pos:Pos}(hg:Gl X x) (hm:X.mg x=some u) (r:RelV v u) (hd:(x==("__debug__":Str))=false:=by decide):PE X (.Name x pos) (tC v):=
 λ_ _ _ H _ I h=>Aw I hg hm ⟨v,H,I,r,h⟩ hd
variable {a b:Expr}{ta tb:TE}{pos:Pos}
def PC (X:Cx) (op:CmpOp) (a b:Expr) (t:TE):Prop:=
 ∀(pins:List (Addr×Obj)) (s:Shared) (σ:St) (H:Hp) (Q:VK),Inv X pins σ H s→t σ H Q→
  wpAny (model X.prog X.w) X.A (eval a X.env) (λv s₁=>wpAny (model X.prog X.w) X.A (eval b X.env) (λu s₂=>wpAny (model X.prog X.w) X.A (compareOp op v u) (EP X pins σ Q) X.xe s₂) X.xe s₁) X.xe s
theorem JF (b:Expr) {op:CmpOp}(h:op≠.In) (h2:op≠.NotIn):behindInMarks op b=false:=by
 have e1:(op==CmpOp.In)=false:=by cases op<;>first|rfl|exact absurd rfl h
 have e2:(op==CmpOp.NotIn)=false:=by cases op<;>first|rfl|exact absurd rfl h2
 cases b<;>simp [behindInMarks,e1,e2]
def tB (t:TE):TT:=fun σ H Q=>t σ H fun x H1=>∃c,x=.bl c∧Q c H1
theorem VJ {op:CmpOp}{t:TE}(h:PC X op a b t) (h1:behindInMarks op b=false:=by first|exact JF _ (by decide) (by decide)|rfl):PE X (.Compare a [op] [b] pos) t:=λpins s σ H Q I hw=>wpAny_Compare1 (h pins s σ H Q I hw) h1
theorem L3 {op:CmpOp}{t:TE}(h:PC X op a b t) (h1:behindInMarks op b=false:=by first|exact JF _ (by decide) (by decide)|rfl):PT X (.Compare a [op] [b] pos) (tB t):=by
 intro pins s σ H Q I hw
 refine wpAny_isTrue_Compare1 (kj (h pins s σ H _ I hw) fun v s1 h1=>kj h1 fun u s2 h2=>kj h2 fun c s3 ⟨x,H1,I1,r1,q1⟩=>?_) h1
 obtain ⟨d,rfl,q⟩:=q1
 cases r1
 exact wpAny_truthy_bool ⟨H1,I1,q⟩
theorem jn {e:Expr}{t:TE}(h:PE X e t) (he:∀whole,isTrue e X.env whole=(do let v ←whole;standAt e.pos;holding [v] (truthy v)):=by intro _;rfl):PT X e (tB t):=by
 intro pins s σ H Q I hw
 refine isTrue_plain (kj (h pins s σ H _ I hw) fun v s1 ⟨x,H1,I1,r1,q1⟩=>?_) (he _)
 obtain ⟨d,rfl,q⟩:=q1
 cases r1
 exact wpAny_truthy_bool ⟨H1,I1,q⟩
variable {tA tB':TT}{rest:List Expr}
def VL (t u:TT):TT:=fun σ H Q=>t σ H fun c H1=>if c=true then u σ H1 Q else Q false H1
def tOr (t u:TT):TT:=fun σ H Q=>t σ H fun c H1=>if c=true then Q true H1 else u σ H1 Q
def OI (t:TT):TT:=fun σ H Q=>t σ H fun c H1=>Q (!c) H1
theorem Ax (ha:PT X a tA):PW X (.BoolOp .And [a] pos) tA:=by
 intro wh pins s σ H Q I h
 refine isTrue_and (kj (ha pins s σ H Q I h) fun c s1 e=>?_)
 cases c with
 |true=>exact isTrue_and_nil e
 |false=>exact e
theorem GN (ha:PT X a tA):PW X (.BoolOp .Or [a] pos) tA:=by
 intro wh pins s σ H Q I h
 refine isTrue_or (kj (ha pins s σ H Q I h) fun c s1 e=>?_)
 cases c with
 |false=>exact isTrue_or_nil e
 |true=>exact e
theorem AX (ha:PT X a tA) (hb:PW X (.BoolOp .And (b::rest) pos) tB'):PW X (.BoolOp .And (a::b::rest) pos) (VL tA tB'):=by
 intro wh pins s σ H Q I h
 refine isTrue_and (kj (ha pins s σ H _ I h) fun c s1 ⟨H1,I1,q1⟩=>?_)
 cases c with
 |true=>exact hb wh pins s1 σ H1 Q I1 q1
 |false=>exact ⟨H1,I1,q1⟩
theorem NF (ha:PT X a tA) (hb:PW X (.BoolOp .Or (b::rest) pos) tB'):PW X (.BoolOp .Or (a::b::rest) pos) (tOr tA tB'):=by
 intro wh pins s σ H Q I h
 refine isTrue_or (kj (ha pins s σ H _ I h) fun c s1 ⟨H1,I1,q1⟩=>?_)
 cases c with
 |true=>exact ⟨H1,I1,q1⟩
 |false=>exact hb wh pins s1 σ H1 Q I1 q1
theorem oT (ha:PT X a tA):PT X (.UnaryOp .Not a pos) (OI tA):=by
 intro pins s σ H Q I h
 exact isTrue_not (ha pins s σ H (λc H1=>Q (!c) H1) I h)
def NG (ta tb:TE):TE:=fun σ H Q=>ta σ H fun x H1=>∃c,x=.bl c∧if c=true then tb σ H1 Q else Q (.bl false) H1
def Yq (ta tb:TE):TE:=fun σ H Q=>ta σ H fun x H1=>∃c,x=.bl c∧if c=true then Q (.bl true) H1 else tb σ H1 Q
def Yr (ta:TE):TE:=fun σ H Q=>ta σ H fun x H1=>∃c,x=.bl c∧Q (.bl (!c)) H1
theorem sN {op}{t:TE}(h:PE X a t):PE X (.BoolOp op [a] pos) t:=λpins s σ H Q I hw=>BoolOp_one (h pins s σ H Q I hw)
theorem yx (ha:PE X a ta) (hb:PE X (.BoolOp .And (b::rest) pos) tb):PE X (.BoolOp .And (a::b::rest) pos) (NG ta tb):=by
 intro pins s σ H Q I h
 refine BoolOp_and (kj (ha pins s σ H _ I h) fun v s1 ⟨x,H1,I1,r1,q1⟩=>?_)
 obtain ⟨c,rfl,q1⟩:=q1
 cases r1
 refine wpAny_truthy_bool ?_
 cases c with
 |true=>exact hb pins s1 σ H1 Q I1 q1
 |false=>exact ⟨.bl false,H1,I1,rfl,q1⟩
theorem Va (ha:PE X a ta) (hb:PE X (.BoolOp .Or (b::rest) pos) tb):PE X (.BoolOp .Or (a::b::rest) pos) (Yq ta tb):=by
 intro pins s σ H Q I h
 refine BoolOp_or (kj (ha pins s σ H _ I h) fun v s1 ⟨x,H1,I1,r1,q1⟩=>?_)
 obtain ⟨c,rfl,q1⟩:=q1
 cases r1
 refine wpAny_truthy_bool ?_
 cases c with
 |false=>exact hb pins s1 σ H1 Q I1 q1
 |true=>exact ⟨.bl true,H1,I1,rfl,q1⟩
theorem VM (ha:PE X a ta):PE X (.UnaryOp .Not a pos) (Yr ta):=by
 intro pins s σ H Q I h
 refine UnaryOp_ (kj (ha pins s σ H _ I h) fun v s1 ⟨x,H1,I1,r1,q1⟩=>?_)
 obtain ⟨c,rfl,q1⟩:=q1
 cases r1
 exact not_of (wpAny_truthy_bool ⟨.bl (!c),H1,I1,rfl,q1⟩)
def tIf (t:TT) (ta tb:TE):TE:=fun σ H Q=>t σ H fun c H1=>if c=true then ta σ H1 Q else tb σ H1 Q
theorem sO {c:Expr}(hc:PT X c tA) (ha:PE X a ta) (hb:PE X b tb):PE X (.IfExp c a b pos) (tIf tA ta tb):=by
 intro pins s σ H Q I h
 refine wpAny_IfExp (kj (hc pins s σ H _ I h) fun d s1 ⟨H1,I1,q1⟩=>?_)
 cases d with
 |true=>exact ha pins s1 σ H1 Q I1 q1
 |false=>exact hb pins s1 σ H1 Q I1 q1
end
end L2
namespace L2
open PySem PySem.Spec PyProof.Rows
def gE (K:ab) (H:Hp) (a:Addr) (xs:List V):Prop:=
 Rd H a (.lst xs)∨
  ∃(o:Obj) (hU:Array Value) (n:Nat),K.lookup a=some o∧o.cls=.type "list"∧o.dict=none∧o.data=.seq hU n∧hU.size≤sizeLine∧Vals xs hU.toList
def mZ (K:ab) (H:Hp) (a:Addr) (xs:List V):Prop:=
 Rd H a (.tup xs)∨
  ∃(o:Obj) (hU:Array Value) (n:Nat),K.lookup a=some o∧o.cls=.type "tuple"∧o.data=.seq hU n∧hU.size≤sizeLine∧Vals xs hU.toList
def aak:Value→Option V
 |.none=>some .mH
 |.bool b=>some (.bl b)
 |.int i _=>some (.int i)
 |.str x _=>some (.str x)
 |.bytes b _=>some (.LQ b)
 |.float b _=>some (.flt b)
 |.ref a=>some (.ref a)
 |.type n=>some (.ty n)
 |_=>none
theorem RelV.abs {x:V}{u:Value}(r:RelV x u):aak u=some x:=by
 cases x with
 |mH=>cases r;rfl
 |bl _=>cases r;rfl
 |int _=>obtain ⟨t,rfl⟩:=r;rfl
 |str _=>obtain ⟨t,rfl⟩:=r;rfl
 |LQ _=>obtain ⟨t,rfl⟩:=r;rfl
 |flt _=>obtain ⟨t,rfl⟩:=r;rfl
 |ref _=>cases r;rfl
 |ty _=>cases r;rfl
theorem RelV.inj {x y:V}{u:Value}(r:RelV x u) (q:RelV y u):x=y:=Option.some.inj (r.abs.symm.trans q.abs)
theorem Vals.inj:∀{xs ys:List V}{us:List Value},Vals xs us→Vals ys us→xs=ys
 |_,_,_,.nil,.nil=>rfl
 |_,_,_,.cons r t,.cons r' t'=>by rw [r.inj r',Vals.inj t t']
section
variable {X:Cx}{pins:List (Addr×Obj)}{σ:St}{H:Hp}{s:Shared}{a:Addr}{xs ys:List V}
theorem gE.of {K:ab}(h:H a=some (.lst xs)):gE K H a xs:=.inl (.inl h)
theorem mZ.of {K:ab}(h:H a=some (.tup xs)):mZ K H a xs:=.inl (.inl h)
theorem Inv.list (I:Inv X pins σ H s) (h:gE X.K H a xs):∃hU:List Value,Vals xs hU∧PlainL s.heap a hU.toArray∧xs.length≤sizeLine:=by
 rcases h with h|⟨o,hU,n,hk,hc,hd,hs,hz,r⟩
 ·obtain ⟨z,hU,n,r,e⟩:=h.ok I.iR
  exact ⟨hU,r,⟨_,n,e,rfl,rfl,rfl⟩,z⟩
 ·refine ⟨hU.toList,r,⟨o,n,I.LY a o hk,hc,hd,by simpa using hs⟩,?_⟩
  have e:=r.length
  simp only [dU] at e
  omega
theorem Inv.tuple (I:Inv X pins σ H s) (h:mZ X.K H a xs):∃hU:List Value,Vals xs hU∧IsTup s.heap a hU.toArray∧xs.length≤sizeLine:=by
 rcases h with h|⟨o,hU,n,hk,hc,hs,hz,r⟩
 ·obtain ⟨z,hU,r,p⟩:=h.ok I.iR
  exact ⟨hU,r,p,z⟩
 ·refine ⟨hU.toList,r,⟨o,I.LY a o hk,hc,n,by simpa using hs⟩,?_⟩
  have e:=r.length
  simp only [dU] at e
  omega
theorem Inv.AY (I:Inv X pins σ H s) (h:gE X.K H a xs) (h':gE X.K H a ys):xs=ys:=by
 obtain ⟨hU,r,⟨o,n,e,_,_,d⟩,_⟩:=I.list h
 obtain ⟨its',r',⟨o',n',e',_,_,d'⟩,_⟩:=I.list h'
 rw [e] at e';cases e'
 rw [d] at d'
 injection d' with d1 _
 have:hU=its':=by simpa using congrArg Array.toList d1
 subst this
 exact r.inj r'
theorem Inv.OJ (I:Inv X pins σ H s) (h:mZ X.K H a xs) (h':mZ X.K H a ys):xs=ys:=by
 obtain ⟨hU,r,⟨o,e,_,n,d⟩,_⟩:=I.tuple h
 obtain ⟨its',r',⟨o',e',_,n',d'⟩,_⟩:=I.tuple h'
 rw [e] at e';cases e'
 rw [d] at d'
 injection d' with d1 _
 have:hU=its':=by simpa using congrArg Array.toList d1
 subst this
 exact r.inj r'
end
abbrev Cx.Dn (X:Cx) (E:Value→Shared→Prop):Cx:={ X with xe:=E }
abbrev Cx.Ys (X:Cx):Cx:=X.Dn fun _ _=>False
theorem Cx.Ok.Dn {X:Cx}(ok:X.Ok) (E:Value→Shared→Prop):(X.Dn E).Ok:=
 ⟨ok.mod,ok.kind,ok.glob,ok.blt,ok.above,ok.inj,ok.has,ok.Yn,ok.hd,ok.frames,ok.stk,ok.exf,ok.bs,ok.Tg,ok.Qn,ok.Qo,ok.zL,ok.VG⟩
theorem Cx.Ok.sP {X:Cx}{E:Value→Shared→Prop}(ok:(X.Dn E).Ok):X.Ok:=
 ⟨ok.mod,ok.kind,ok.glob,ok.blt,ok.above,ok.inj,ok.has,ok.Yn,ok.hd,ok.frames,ok.stk,ok.exf,ok.bs,ok.Tg,ok.Qn,ok.Qo,ok.zL,ok.VG⟩
section
variable {X:Cx}{pins:List (Addr×Obj)}{σ:St}{H:Hp}{s:Shared}{E:Value→Shared→Prop}
theorem Inv.Dn (I:Inv X pins σ H s) (E:Value→Shared→Prop):Inv (X.Dn E) pins σ H s:=⟨I.ok.Dn E,I.os,I.bare,I.base,I.loc,I.cell,I.free,I.sM,I.pin,I.iR,I.len⟩
theorem Inv.sP (I:Inv (X.Dn E) pins σ H s):Inv X pins σ H s:=⟨I.ok.sP,I.os,I.bare,I.base,I.loc,I.cell,I.free,I.sM,I.pin,I.iR,I.len⟩
theorem SP.sP {D:Ends}{f:Flow}{s':Shared}(h:SP (X.Dn E) pins D f s'):SP X pins D f s':=by
 cases f with
 |next=>obtain ⟨σ',H',I,q⟩:=h;exact ⟨σ',H',I.sP,q⟩
 |brk=>obtain ⟨σ',H',I,q⟩:=h;exact ⟨σ',H',I.sP,q⟩
 |cont=>obtain ⟨σ',H',I,q⟩:=h;exact ⟨σ',H',I.sP,q⟩
 |ret u=>obtain ⟨v,σ',H',I,r,q⟩:=h;exact ⟨v,σ',H',I.sP,r,q⟩
theorem NC.Ys {st:List Stmt}{t:TS}(h:NC X.Ys st t):NC X st t:=λpins s σ H D I hw=>
 wpAny_mono (h pins s σ H D (I.Dn _) hw) (λ_ _ q=>q.sP) fun _ _ z=>False.elim z
end
section
variable {X:Cx}{st:Stmt}{rest:List Stmt}{t u:TS}{e:Expr}{te:TE}{pos:Pos}
def lD:TS:=λD σ H=>D.nx σ H
def g6 (t u:TS):TS:=λD σ H=>t { D with nx:=u D } σ H
theorem gd:NC X [] lD:=λ_ _ σ H _ I h=>wpAny_execs_nil ⟨σ,H,I,h⟩
theorem fL (h1:PS X st t) (h2:NC X rest u):NC X (st::rest) (g6 t u):=by
 intro pins s σ H D I h
 refine wpAny_execs_cons (kj (h1 pins s σ H { D with nx:=u D } I h) fun f s1 q=>?_)
 cases f with
 |next=>
  obtain ⟨σ',H',I',q⟩:=q
  exact h2 pins s1 σ' H' D I' q
 |ret v=>exact q
 |brk=>exact q
 |cont=>exact q
theorem fO (h1:PS X st t):NC X [st] t:=by
 intro pins s σ H D I h
 refine wpAny_execs_cons (kj (h1 pins s σ H D I h) fun f s1 q=>?_)
 cases f with
 |next=>exact wpAny_execs_nil q
 |ret v=>exact q
 |brk=>exact q
 |cont=>exact q
def VN:TS:=λD σ H=>D.bk σ H
theorem Qp:PS X (.Break pos) VN:=λ_ _ σ H _ I h=>wpAny_Break ⟨σ,H,I,h⟩
theorem Inv.quiet {pins:List (Addr×Obj)}{σ:St}{H:Hp}{s:Shared}(I:Inv X pins σ H s):interactive X.env=false:=by simp [interactive,I.ok.kind]
def AZ (te:TE):TS:=λD σ H=>te σ H fun _ H1=>D.nx σ H1
theorem jo (he:PE X e te) (hs:swapsWith e none pos.line X.env=pure false:=by rfl):PS X (.Expr e pos) (AZ te):=by
 intro pins s σ H D I h
 exact wpAny_Expr_any (kj (he pins s σ H _ I h) fun v s1 ⟨x,H1,I1,r1,q1⟩=>⟨σ,H1,I1,q1⟩) I.quiet hs
def jZ (te:TE):TS:=λD σ H=>te σ H D.rt
theorem fW (he:PE X e te):PS X (.Return (some e) pos) (jZ te):=by
 intro pins s σ H D I h
 exact wpAny_Return_some (kj (he pins s σ H _ I h) fun v s1 ⟨x,H1,I1,r1,q1⟩=>⟨x,σ,H1,I1,r1,q1⟩)
def pC (c:TT) (t u:TS):TS:=λD σ H=>c σ H fun b H1=>if b=true then t D σ H1 else u D σ H1
theorem gJ {c:Expr}{a b:List Stmt}{tc:TT}(hc:PT X c tc) (ha:NC X a t) (hb:NC X b u):PS X (.If c a b pos) (pC tc t u):=by
 intro pins s σ H D I h
 refine wpAny_If (kj (hc pins s σ H _ I h) fun d s1 ⟨H1,I1,q1⟩=>?_)
 cases d with
 |true=>exact ha pins s1 σ H1 D I1 q1
 |false=>exact hb pins s1 σ H1 D I1 q1
end
abbrev TG:=V→St→Hp→(St→Hp→Prop)→Prop
abbrev VO:=List V→St→Hp→(St→Hp→Prop)→Prop
def PG (X:Cx) (target:Expr) (t:TG):Prop:=
 ∀(pins:List (Addr×Obj)) (s:Shared) (σ:St) (H:Hp) (v:V) (u:Value) (Q:St→Hp→Prop),Inv X pins σ H s→RelV v u→t v σ H Q→
  wpAny (model X.prog X.w) X.A (assign target X.env u) (λ_ s'=>∃σ' H',Inv X pins σ' H' s'∧Q σ' H') X.xe s
def PGs (X:Cx) (ts:List Expr) (t:VO):Prop:=
 ∀(pins:List (Addr×Obj)) (s:Shared) (σ:St) (H:Hp) (vs:List V) (us:List Value) (Q:St→Hp→Prop),Inv X pins σ H s→Vals vs us→t vs σ H Q→
  wpAny (model X.prog X.w) X.A (assignInOrder ((assignEach ts X.env).map (·.2)) us) (λ_ s'=>∃σ' H',Inv X pins σ' H' s'∧Q σ' H') X.xe s
section
variable {X:Cx}{pos:Pos}
def gr (i:Nat):TG:=λv σ H Q=>Q (σ.set i (some v)) H
theorem gk {i:Nat}{x:Str}(hN:X.N.Nodup) (hi:X.N[i]?=some x) (hx:Loc X.env.scope x) (hf:X.fn x=true∨X.env.scope.names.lookup x=some .local:=by first|exact .inl rfl|exact .inr rfl|assumption):PG X (.Name x pos) (gr i):=by
 intro pins s σ H v u Q I r h
 exact wpAny_assign_Name (JE I hN hi hx r (λs' I'=>⟨_,H,I',h⟩) hf)
def wQ:VO:=λvs σ H Q=>vs=[]∧Q σ H
def jP (t:TG) (u:VO):VO:=λvs σ H Q=>∃v r,vs=v::r∧t v σ H fun σ' H'=>u r σ' H' Q
theorem kW:PGs X [] wQ:=by
 intro pins s σ H vs us Q I r h
 obtain ⟨e,h⟩:=h
 subst e
 cases r
 exact assignInOrder_nil ⟨σ,H,I,h⟩
theorem hX {e:Expr}{es:List Expr}{t:TG}{u:VO}(h1:PG X e t) (h2:PGs X es u)
  (hs:(assignEach (e::es) X.env).map (·.2)=assign e X.env::(assignEach es X.env).map (·.2):=by rfl):PGs X (e::es) (jP t u):=by
 intro pins s σ H vs us Q I r h
 obtain ⟨v,vr,e1,h⟩:=h
 subst e1
 cases r with
 |cons r rr=>
  rw [hs]
  refine assignInOrder_cons (kj (h1 pins s σ H _ _ _ I r h) fun _ s1 ⟨σ1,H1,I1,q1⟩=>?_)
  exact h2 pins s1 σ1 H1 _ _ Q I1 rr q1
def wR (K:ab) (n:Nat) (t:VO):TG:=λv σ H Q=>∃a xs,v=.ref a∧mZ K H a xs∧xs.length=n∧t xs σ H Q
theorem mK {es:List Expr}{k:Nat}{t:VO}{n:Nat}(hc:X.calm=true) (h:PGs X es t)
  (hn:(assignEach es X.env).length=n:=by rfl) (zr:(assignEach es X.env).findIdx? (·.1)=none:=by rfl):PG X (.Tuple es k pos) (wR X.K n t):=by
 intro pins s σ H v u Q I r hw
 obtain ⟨a,xs,e1,hq,hl,hw⟩:=hw
 subst e1
 cases r
 obtain ⟨hU,rv,ht,hz⟩:=I.tuple hq
 refine assign_Tuple_tuple (I.ok.hd hc) ht (by simp [hn,←hl,rv.length]) zr fun h' hx=>?_
 have I1:Inv X pins σ H { s with heap:=h' }:=I.kept (t':=s.toks) fun b o e=>hx b o (aS (Heap.lt_size e)) e
 exact h pins _ σ H xs _ Q I1 (by simpa using rv) hw
def jw (te:TE) (g:TG):TS:=λD σ H=>te σ H fun x H1=>g x σ H1 D.nx
theorem gj {i:Nat}{x:Str}{e:Expr}{te:TE}{pos':Pos}(hN:X.N.Nodup) (hi:X.N[i]?=some x) (hx:Loc X.env.scope x) (he:PE X e te) (hs:swapsWith e (some (.Name x pos')) pos.line X.env=pure false:=by rfl) (hf:X.fn x=true∨X.env.scope.names.lookup x=some .local:=by first|exact .inl rfl|exact .inr rfl|assumption) :
  PS X (.Assign [.Name x pos'] e pos) (jw te (gr i)):=by
 intro pins s σ H D I h
 refine wpAny_Assign_Name (kj (he pins s σ H _ I h) fun v s1 ⟨y,H1,I1,r1,q1⟩=>?_) hs
 exact JE I1 hN hi hx r1 (λs2 I2=>⟨_,H1,I2,q1⟩) hf
end
section
variable {X:Cx}{pos:Pos}
def Qq (c:TT) (tb:TS):TS:=λD σ H=>∃W:Nat→St→Hp→Prop,(∃m,W m σ H)∧∀m σ H,W m σ H→
 c σ H fun b H1=>if b=true then ∃N:St→Hp→Prop,(∀σ' H',N σ' H'→∃m',m'<m∧W m' σ' H')∧tb { D with nx:=N,ct:=N,bk:=D.nx } σ H1 else D.nx σ H1
theorem JG {c:Expr}{body:List Stmt}{tc:TT}{tb:TS}(hp:PassesOwn (model X.prog X.w) X.A X.env X.xe) (hc:PT X c tc) (hb:NC X body tb):PS X (.While c body [] pos) (Qq tc tb):=by
 intro pins s σ H D I h
 obtain ⟨W,⟨m0,w0⟩,turn⟩:=h
 refine wpAny_While (codeAny_whileLoop (λn s'=>∃σ' H',Inv X pins σ' H' s'∧W n σ' H') ?_ m0 ⟨σ,H,I,w0⟩)
 rintro n s1 ⟨σ1,H1,I1,w1⟩
 refine wpAny_passesOwn hp (kj (hc pins s1 σ1 H1 _ I1 (turn n σ1 H1 w1)) fun b s2 ⟨H2,I2,q2⟩=>?_)
 cases b with
 |true=>
  obtain ⟨N,hN,q2⟩:=q2
  rw [if_pos rfl]
  refine wpAny_passesOwn hp (kj (hb pins s2 σ1 H2 _ I2 q2) fun f s3 q3=>?_)
  cases f with
  |next=>
   obtain ⟨σ3,H3,I3,n3⟩:=q3
   obtain ⟨m',hm,w3⟩:=hN σ3 H3 n3
   exact ⟨m',hm,σ3,H3,I3,w3⟩
  |cont=>
   obtain ⟨σ3,H3,I3,n3⟩:=q3
   obtain ⟨m',hm,w3⟩:=hN σ3 H3 n3
   exact ⟨m',hm,σ3,H3,I3,w3⟩
  |brk=>exact q3
  |ret v=>exact q3
 |false=>
  rw [if_neg aH]
  exact wpAny_execs_nil ⟨σ1,H2,I2,q2⟩
end
structure It where
 go:Nat→Hp→Prop
 A0:Nat→Hp→V→Hp→Prop
 stop:Nat→Hp→Prop
def zM (X:Cx) (pins:List (Addr×Obj)) (H:Hp) (b:Addr):Prop:=
 H b=none∧b≠X.env.locals∧b∉X.fs∧(b∈X.ex∨X.FF.heap.objs.size≤b)∧(∀x c,X.env.cells.lookup x=some c→c≠b)∧∀p∈X.pn++pins,p.1≠b
theorem Inv.Qr {X:Cx}{pins:List (Addr×Obj)}{σ:St}{H H':Hp}{s:Shared}{b:Addr}(I:Inv X pins σ H s) (hb:s.heap.objs.size≤b) (hn:H' b=none):zM X pins H' b:=by
 refine ⟨hn,bA (aZ I.lt hb),I.aah hb,.inr (bh I.sz hb),λx c e z=>?_,λp hp z=>?_⟩
 ·obtain ⟨v,q⟩:=I.cell x c e
  exact absurd (aZ q.lt (by rw [z];exact hb)) (cu _)
 ·exact absurd (aZ (Heap.lt_size (I.pin p hp).1) (by rw [z];exact hb)) (cu _)
structure Turn (P:Program) (w:World) (K:ab) (tg:Expr) (J:It) (fp:List Addr) (it:Addr) (tn:Nat→Heap→Prop):Prop where
 mem:it∈fp
 obj:∀i h,tn i h→∀b∈fp,∃o,h.get? b=some o∧∀v,o.data≠.cell v
 keep:∀i h h',tn i h→(∀b∈fp,∀o,h.get? b=some o→h'.get? b=some o)→tn i h'
 item:∀(X:Cx),X.prog=P→X.w=w→X.K=K→X.calm=true→∀(i:Nat) (pins:List (Addr×Obj)) (s:Shared) (σ:St) (H:Hp) (E:Value→Shared→Prop),Inv X pins σ H s→(∀b∈fp,zM X pins H b)→tn i s.heap→J.go i H→
  wpAny (model P w) X.A (pyNext (.ref it)) (λr s1=>∃u,r=some u∧
   wpAny (model P w) X.A (letOwnedTupleGo tg (.ref it) u) (λ_ s2=>∃x H',Inv X pins σ H' s2∧RelV x u∧J.A0 i H x H'∧tn (i+1) s2.heap∧∀b∈fp,H' b=none) E s1) E s
 done:∀(X:Cx),X.prog=P→X.w=w→X.K=K→X.calm=true→∀(i:Nat) (pins:List (Addr×Obj)) (s:Shared) (σ:St) (H:Hp) (E:Value→Shared→Prop),Inv X pins σ H s→(∀b∈fp,zM X pins H b)→tn i s.heap→J.stop i H→
  wpAny (model P w) X.A (pyNext (.ref it)) (λr s1=>r=none∧Inv X pins σ H s1) E s
 self:∀(A:Around) (i:Nat) (s:Shared) (Q:Value→Shared→Prop) (E:Value→Shared→Prop),tn i s.heap→Q (.ref it) s→wpAny (model P w) A (pyIter (.ref it)) Q E s
abbrev TI:=St→Hp→(It→Hp→Prop)→Prop
def PIE (X:Cx) (pins:List (Addr×Obj)) (σ:St) (tg:Expr) (R:It→Hp→Prop) (itv:Value) (s2:Shared):Prop:=
 ∃(it:Addr) (fp:List Addr) (tn:Nat→Heap→Prop) (J:It) (H':Hp),itv=.ref it∧Inv X pins σ H' s2∧Turn X.prog X.w X.K tg J fp it tn∧tn 0 s2.heap∧(∀b∈fp,zM X pins H' b)∧R J H'
def PI (X:Cx) (tg iter:Expr) (wi:TI):Prop:=
 ∀(pins:List (Addr×Obj)) (s:Shared) (σ:St) (H:Hp) (R:It→Hp→Prop),Inv X pins σ H s→wi σ H R→
  wpAny (model X.prog X.w) X.A (eval iter X.env) (λv s1=>wpAny (model X.prog X.w) X.A (pyIter v) (PIE X pins σ tg R) X.xe s1) X.xe s
theorem Vb {M:Model}{A:Around}{E:Value→Shared→Prop}{s:Shared}{tg:Expr}{it:Addr}{u:Value}{o:Obj}{n:String}{vs:Array Value}{Q:Unit→Shared→Prop}(ho:s.heap.get? it=some o) (hc:o.cls=.type n) (hd:o.data=.fields vs)
  (hn:["enumerate","zip","dict_itemiterator","dict_reverseitemiterator","odict_iterator","itertools.zip_longest","itertools.pairwise"].contains n=false) (hQ:Q () s):wpAny M A (letOwnedTupleGo tg (.ref it) u) Q E s:=by
 unfold letOwnedTupleGo
 cases tg<;>first
  |exact wpAny_pure hQ
  |(cases u<;>first
    |exact wpAny_pure hQ
    |(refine wpAny_bind (wpAny_load ho ?_)
      rw [hc,hd]
      show wpAny M A (if (["enumerate","zip","dict_itemiterator","dict_reverseitemiterator","odict_iterator","itertools.zip_longest","itertools.pairwise"].contains n&&vs[0]?==some (rawInt _))=true then _ else _) Q E s
      rw [if_neg (by intro h;rw [hn,dw] at h;cases h)]
      exact wpAny_pure hQ))
def sQ (K:ab) (a:Addr):It:=
 ⟨λi H=>∃xs x,gE K H a xs∧xs[i]?=some x,λi H x H'=>H'=H∧∀xs,gE K H a xs→xs[i]?=some x,λi H=>∃xs,gE K H a xs∧xs.length≤i⟩
theorem OK {P:Program}{w:World}{K:ab}{tg:Expr}(a it:Addr):Turn P w K tg (sQ K a) [it] it (λi h=>h.IsListIter it a i) where
 mem:=by simp
 obj:=λi h st b hb=>by
  have e:b=it:=by simpa using hb
  subst e
  obtain ⟨o,e,c,d⟩:=st
  exact ⟨o,e,λv z=>by rw [d] at z;cases z⟩
 keep:=λi h h' st k=>st.at fun o e=>k it (by simp) o e
 item:=by
  intro X hP hw hK hc i pins s σ H E I hf st hg
  subst hP hw hK
  obtain ⟨xs,x,hq,hx⟩:=hg
  obtain ⟨hU,rv,p,hz⟩:=I.list hq
  obtain ⟨u,hu,ru⟩:=rv.get hx
  obtain ⟨f0,f1,f2,f3,f4,f5⟩:=hf it (by simp)
  refine wpAny_pyNext_list_item st p.isList (x:=u) (by simpa using hu) fun h' Yt sb=>?_
  have I1:Inv X pins σ H { s with heap:=h' }:=I.turned (t':=s.toks) (λb o hb e=>(sb.2 b hb).trans e) f0 f1 f3 f4 f5
  obtain ⟨o,e,c,d⟩:=id Yt
  exact ⟨u,rfl,Vb (s:={ s with heap:=h' }) e c d (by decide) ⟨x,H,I1,ru,⟨rfl,λys hy=>by rw [I.AY hy hq];exact hx⟩,Yt,λb hb=>(hf b hb).1⟩⟩
 done:=by
  intro X hP hw hK hc i pins s σ H E I hf st hg
  subst hP hw hK
  obtain ⟨xs,hq,hx⟩:=hg
  obtain ⟨hU,rv,p,hz⟩:=I.list hq
  obtain ⟨f0,f1,f2,f3,f4,f5⟩:=hf it (by simp)
  have hl:=rv.length
  exact wpAny_pyNext_list_end (I.ok.hd hc) st p.isList (by simp;omega) fun h' eb=>⟨rfl,I.turned (t':=s.toks) (λb o hb e=>eb b o hb e) f0 f1 f3 f4 f5⟩
 self:=λ_ _ _ _ _ st h=>wpAny_pyIter_listiter st h
end L2
namespace L2
open PySem PySem.Spec PyProof.Rows
section
variable {X:Cx}{tg:Expr}
def jy (K:ab) (tl:TE):TI:=fun σ H R=>tl σ H fun x H1=>∃a,x=.ref a∧(∃xs,gE K H1 a xs)∧R (sQ K a) H1
theorem gC {l:Expr}{tl:TE}(hl:PE X l tl):PI X tg l (jy X.K tl):=by
 intro pins s σ H R I h
 refine kj (hl pins s σ H _ I h) fun v s1 ⟨x,H1,I1,r1,q1⟩=>?_
 obtain ⟨a,e,⟨xs,hq⟩,q⟩:=q1
 subst e
 cases r1
 obtain ⟨hU,rv,p,hz⟩:=I1.list hq
 refine wpAny_pyIter_list p.isList ?_
 refine ⟨s1.heap.objs.size,[s1.heap.objs.size],_,_,H1,rfl,I1.kept (t':=s1.toks) fun b o e=>Heap.get?_push_of_some _ e,OK a _,⟨_,Heap.get?_push_size _ rfl,rfl,rfl⟩,λb hb=>?_,q⟩
 have e:b=s1.heap.objs.size:=by simpa using hb
 subst e
 exact I1.Qr (ai _) (I1.iR.fresh (ai _))
def A3 (wi:TI) (g:TG) (tb:TS):TS:=λD σ H=>wi σ H fun J H1=>∃W:Nat→Nat→St→Hp→Prop,(∃m,W 0 m σ H1)∧∀i m σ H,W i m σ H→
 (J.stop i H∧D.nx σ H)∨(J.go i H∧∃N:St→Hp→Prop,(∀σ' H',N σ' H'→∃m',m'<m∧W (i+1) m' σ' H')∧∀x H',J.A0 i H x H'→g x σ H' fun σ2 H2=>tb { D with nx:=N,ct:=N,bk:=D.nx } σ2 H2)
def A4 (fp:List Addr) (h:Heap):List (Addr×Obj):=fp.filterMap fun b=>(h.get? b).map fun o=>(b,o)
theorem vB {fp:List Addr}{h:Heap}{b:Addr}{o:Obj}(hb:b∈fp) (e:h.get? b=some o):(b,o)∈A4 fp h:=ee.mpr ⟨b,hb,by rw [e];rfl⟩
theorem OL {fp:List Addr}{h:Heap}{p:Addr×Obj}(hp:p∈A4 fp h):p.1∈fp∧h.get? p.1=some p.2:=by
 obtain ⟨b,hb,e⟩:=ee.mp hp
 cases q:h.get? b with
 |none=>rw [q] at e;cases e
 |some o=>
  rw [q] at e
  have e':(b,o)=p:=Option.some.inj e
  subst e'
  exact ⟨hb,q⟩
theorem Inv.pinned {pins:List (Addr×Obj)}{σ:St}{H:Hp}{s:Shared}{fp:List Addr}(I:Inv X pins σ H s) (hf:∀b∈fp,zM X pins H b) (ho:∀b∈fp,∃o,s.heap.get? b=some o∧∀v,o.data≠.cell v):Inv X (pins++A4 fp s.heap) σ H s:=
 I.NB fun p hp=>(bE.mp hp).elim (λz=>I.pin p (bN _ z)) fun z=>by
  obtain ⟨hb,e⟩:=OL z
  obtain ⟨f0,f1,f2,_⟩:=hf p.1 hb
  obtain ⟨o,e',d⟩:=ho p.1 hb
  rw [e] at e';cases e'
  exact ⟨e,f0,f1,f2,d⟩
theorem Inv.wU {pins pl:List (Addr×Obj)}{σ:St}{H:Hp}{s:Shared}(I:Inv X (pins++pl) σ H s):Inv X pins σ H s:=I.NB fun p hp=>I.pin p (bN _ (dO _ hp))
theorem jz {iter:Expr}{body:List Stmt}{wi:TI}{g:TG}{tb:TS}{pos:Pos}(hp:PassesOwn (model X.prog X.w) X.A X.env X.xe) (hc:X.calm=true) (hi:PI X tg iter wi) (hg:PG X tg g) (hb:NC X body tb)
  (hs:∀x,foldedSetIterable iter X.env x=pure x:=by intro _;rfl):PS X (.For tg iter body [] pos) (A3 wi g tb):=by
 intro pins s σ H D I h
 refine wpAny_For (kj (hi pins s σ H _ I h) fun v s1 h1=>kj h1 fun itv s2 h2=>?_) hs
 obtain ⟨it,fp,tn,J,H2,e,I2,T,XW,f2,W,⟨m0,w0⟩,turn⟩:=h2
 subst e
 have L5:∀{H':Hp},(∀b∈fp,H' b=none)→∀b∈fp,zM X pins H' b:=λhn b hb=>⟨hn b hb,(f2 b hb).2⟩
 refine codeAny_forLoop_any (λn s'=>∃i σ' H',Inv X pins σ' H' s'∧tn i s'.heap∧(∀b∈fp,H' b=none)∧W i n σ' H') ?_ m0 ⟨0,σ,H2,I2,XW,λb hb=>(f2 b hb).1,w0⟩
 rintro n s3 ⟨i,σ3,H3,I3,st3,fr3,w3⟩
 rcases turn i n σ3 H3 w3 with ⟨stop,qn⟩|⟨go,N,hN,step⟩
 ·refine wpAny_passesOwn hp (kj (T.done X rfl rfl rfl hc i pins s3 σ3 H3 X.xe I3 (L5 fr3) st3 stop) fun r s4 ⟨hr,I4⟩=>?_)
  subst hr
  exact wpAny_execs_nil ⟨σ3,H3,I4,qn⟩
 ·refine wpAny_passesOwn hp (kj (T.item X rfl rfl rfl hc i pins s3 σ3 H3 X.xe I3 (L5 fr3) st3 go) fun r s4 ⟨u,hr,h4⟩=>?_)
  subst hr
  refine wpAny_passesOwn hp (kj h4 fun _ s5 ⟨x,H5,I5,r5,y5,XX,fr5⟩=>?_)
  have I5':=I5.pinned (L5 fr5) (T.obj _ _ XX)
  refine wpAny_passesOwn hp (kj (hg _ s5 σ3 H5 x u _ I5' r5 (step x H5 y5)) fun _ s6 ⟨σ6,H6,I6,q6⟩=>?_)
  refine wpAny_passesOwn hp (kj (hb _ s6 σ6 H6 _ I6 q6) fun f s7 q7=>?_)
  have again:∀{σ7:St} {H7:Hp},Inv X (pins++A4 fp s5.heap) σ7 H7 s7→N σ7 H7→∃m,m<n∧∃i σ' H',Inv X pins σ' H' s7∧tn i s7.heap∧(∀b∈fp,H' b=none)∧W i m σ' H':=λ{σ7 H7} I7 n7=>by
   obtain ⟨m',hm,w7⟩:=hN σ7 H7 n7
   refine ⟨m',hm,i+1,σ7,H7,I7.wU,T.keep _ _ _ XX fun b hb o e=>(I7.pin (b,o) (bN _ (bN _ (vB hb e)))).1,λb hb=>?_,w7⟩
   obtain ⟨o,e,d⟩:=T.obj _ _ XX b hb
   exact (I7.pin (b,o) (bN _ (bN _ (vB hb e)))).2.1
  cases f with
  |next=>obtain ⟨σ7,H7,I7,n7⟩:=q7;exact again I7 n7
  |cont=>obtain ⟨σ7,H7,I7,n7⟩:=q7;exact again I7 n7
  |brk=>obtain ⟨σ7,H7,I7,q7⟩:=q7;exact ⟨σ7,H7,I7.wU,q7⟩
  |ret v=>obtain ⟨x7,σ7,H7,I7,r7,q7⟩:=q7;exact ⟨x7,σ7,H7,I7.wU,r7,q7⟩
end
theorem jg {K:ab}{a:Addr}{xs:List V}{g:TG}{tb:TS}{D:Ends}{σ:St}{H:Hp}(Pv:Nat→St→Hp→Prop) (h0:Pv 0 σ H) (hl:∀i σ H,i≤xs.length→Pv i σ H→gE K H a xs)
  (hs:∀i x σ H,xs[i]?=some x→Pv i σ H→g x σ H fun σ2 H2=>tb { D with nx:=Pv (i+1),ct:=Pv (i+1),bk:=D.nx } σ2 H2) (hd:∀σ H,Pv xs.length σ H→D.nx σ H) :
  ∃W:Nat→Nat→St→Hp→Prop,(∃m,W 0 m σ H)∧∀i m σ H,W i m σ H→
   ((sQ K a).stop i H∧D.nx σ H)∨((sQ K a).go i H∧∃N:St→Hp→Prop,(∀σ' H',N σ' H'→∃m',m'<m∧W (i+1) m' σ' H')∧∀x H',(sQ K a).A0 i H x H'→g x σ H' fun σ2 H2=>tb { D with nx:=N,ct:=N,bk:=D.nx } σ2 H2):=by
 refine ⟨λi m σ H=>m=xs.length - i∧i≤xs.length∧Pv i σ H,⟨xs.length,by simp,aK _,h0⟩,?_⟩
 rintro i m σ H ⟨rfl,hi,p⟩
 have q:=hl i σ H hi p
 by_cases yr:i<xs.length
 ·refine .inr ⟨⟨xs,xs[i],q,by simp [yr]⟩,Pv (i+1),fun σ' H' p'=>⟨xs.length - (i+1),by omega,rfl,yr,p'⟩,λx H' y=>?_⟩
  obtain ⟨e,y⟩:=y
  subst e
  exact hs i x σ _ (y xs q) p
 ·have e:i=xs.length:=by omega
  subst e
  exact .inl ⟨⟨xs,q,ai _⟩,hd σ H p⟩
end L2
namespace L2
open PySem PySem.Spec PyProof.Rows
abbrev R2:=V→V→Hp→VK→Prop
def Ay (X:Cx) (f:Value→Value→Sem Value) (r:R2):Prop:=
 ∀(pins:List (Addr×Obj)) (s:Shared) (σ:St) (H:Hp) (x y:V) (v u:Value) (Q:VK),Inv X pins σ H s→RelV x v→RelV y u→r x y H Q→
  wpAny (model X.prog X.w) X.A (f v u) (EP X pins σ Q) X.xe s
def UnR (X:Cx) (f:Value→Sem Value) (r:V→Hp→VK→Prop):Prop:=
 ∀(pins:List (Addr×Obj)) (s:Shared) (σ:St) (H:Hp) (x:V) (v:Value) (Q:VK),Inv X pins σ H s→RelV x v→r x H Q→
  wpAny (model X.prog X.w) X.A (f v) (EP X pins σ Q) X.xe s
def qB (X:Cx) (f:Value) (r:List V→Hp→VK→Prop):Prop:=
 ∀(pins:List (Addr×Obj)) (s:Shared) (σ:St) (H:Hp) (xs:List V) (us:List Value) (Q:VK),Inv X pins σ H s→Vals xs us→r xs H Q→
  wpAny (model X.prog X.w) X.A (call f us) (EP X pins σ Q) X.xe s
def km (r:R2) (ta tb:TE):TE:=fun σ H Q=>ta σ H fun x H1=>tb σ H1 fun y H2=>r x y H2 Q
def tUn (r:V→Hp→VK→Prop) (ta:TE):TE:=fun σ H Q=>ta σ H fun x H1=>r x H1 Q
def rI (C:Int→Int→Prop) (g:Int→Int→V):R2:=λx y H Q=>∃i j,x=.int i∧y=.int j∧C i j∧Q (g i j) H
def NH (g:Int→Int→V):R2:=λx y H Q=>∃i j,x=.int i∧y=.int j∧Q (g i j) H
def rU (g:Int→V):V→Hp→VK→Prop:=λx H Q=>∃i,x=.int i∧Q (g i) H
section
variable {X:Cx}{a b c:Expr}{ta tb tc:TE}{pos:Pos}
theorem VP (ha:PE X a ta) (hb:PE X b tb) {pins:List (Addr×Obj)}{s:Shared}{σ:St}{H:Hp}{R:V→V→Hp→Prop}(I:Inv X pins σ H s)
  (h:ta σ H fun x H1=>tb σ H1 fun y H2=>R x y H2) {Q:Value→Shared→Prop}{f:Value→Value→Sem Value}
  (hf:∀v u s2 x y H2,Inv X pins σ H2 s2→RelV x v→RelV y u→R x y H2→wpAny (model X.prog X.w) X.A (f v u) Q X.xe s2) :
  wpAny (model X.prog X.w) X.A (eval a X.env) (λv s₁=>wpAny (model X.prog X.w) X.A (eval b X.env) (λu s₂=>wpAny (model X.prog X.w) X.A (f v u) Q X.xe s₂) X.xe s₁) X.xe s:=by
 refine kj (ha pins s σ H _ I h) fun v s1 ⟨x,H1,I1,r1,q1⟩=>?_
 refine kj (hb pins s1 σ H1 _ I1 q1) fun u s2 ⟨y,H2,I2,r2,q2⟩=>?_
 exact hf v u s2 x y H2 I2 r1 r2 q2
theorem g9 {op:Operator}{r:R2}(ho:Ay X (binaryOp op) r) (ha:PE X a ta) (hb:PE X b tb):PE X (.BinOp a op b pos) (km r ta tb):=by
 intro pins s σ H Q I h
 exact wpAny_BinOp (VP ha hb I h fun v u s2 x y H2 I2 rx ry q=>ho pins s2 σ H2 x y v u Q I2 rx ry q)
theorem Yu {op:UnaryOp}{r:V→Hp→VK→Prop}(ho:UnR X (unaryOp op) r) (ha:PE X a ta):PE X (.UnaryOp op a pos) (tUn r ta):=by
 intro pins s σ H Q I h
 exact UnaryOp_ (kj (ha pins s σ H _ I h) fun v s1 ⟨x,H1,I1,r1,q1⟩=>ho pins s1 σ H1 x v Q I1 r1 q1)
theorem opI {f:Value→Value→Sem Value}{C:Int→Int→Prop}{g:Int→Int→Int}
  (rule:∀(i j:Int) (t u:Tok) (s:Shared) (Q:Value→Shared→Prop) (E:Value→Shared→Prop),C i j→Q (.int (g i j) s.toks) { s with toks:=s.toks+1 }→wpAny (model X.prog X.w) X.A (f (.int i t) (.int j u)) Q E s) :
  Ay X f (rI C fun i j=>.int (g i j)):=by
 intro pins s σ H x y v u Q I rx ry h
 obtain ⟨i,j,rfl,rfl,hc,q⟩:=h
 obtain ⟨t,rfl⟩:=rx
 obtain ⟨t',rfl⟩:=ry
 exact rule i j t t' s _ _ hc ⟨.int (g i j),H,I.tok _,⟨_,rfl⟩,q⟩
theorem Yv {f:Value→Value→Sem Value}{g:Int→Int→Int}
  (rule:∀(i j:Int) (t u:Tok) (s:Shared) (Q:Value→Shared→Prop) (E:Value→Shared→Prop),Q (.int (g i j) s.toks) { s with toks:=s.toks+1 }→wpAny (model X.prog X.w) X.A (f (.int i t) (.int j u)) Q E s) :
  Ay X f (NH fun i j=>.int (g i j)):=by
 intro pins s σ H x y v u Q I rx ry h
 obtain ⟨i,j,rfl,rfl,q⟩:=h
 obtain ⟨t,rfl⟩:=rx
 obtain ⟨t',rfl⟩:=ry
 exact rule i j t t' s _ _ ⟨.int (g i j),H,I.tok _,⟨_,rfl⟩,q⟩
theorem Th {f:Value→Value→Sem Value}{g:Int→Int→Bool}
  (rule:∀(i j:Int) (t u:Tok) (s:Shared) (Q:Value→Shared→Prop) (E:Value→Shared→Prop),Q (.bool (g i j)) s→wpAny (model X.prog X.w) X.A (f (.int i t) (.int j u)) Q E s) :
  Ay X f (NH fun i j=>.bl (g i j)):=by
 intro pins s σ H x y v u Q I rx ry h
 obtain ⟨i,j,rfl,rfl,q⟩:=h
 obtain ⟨t,rfl⟩:=rx
 obtain ⟨t',rfl⟩:=ry
 exact rule i j t t' s _ _ ⟨.bl (g i j),H,I,rfl,q⟩
def aal (i j:Int):Prop:=0<j∧j<1073741824
def VQ (i j:Int):Prop:=(-(2 ^ 64)<i∧i<2 ^ 64)∨(-(2 ^ 64)<j∧j<2 ^ 64)
theorem VQ.ok {i j:Int}(h:VQ i j):IntMulOk i j:=by
 rcases h with ⟨h1,h2⟩|⟨h1,h2⟩
 ·exact .of_left (intBits_le_64 h1 h2)
 ·exact .of_right (intBits_le_64 h1 h2)
theorem ip:Ay X (binaryOp .Add) (NH fun i j=>.int (i+j)):=Yv fun _ _ _ _ _ _ _ q=>add_int q
theorem mL:Ay X (binaryOp .Sub) (NH fun i j=>.int (i - j)):=Yv fun _ _ _ _ _ _ _ q=>sub_int q
theorem VR:Ay X (binaryOp .Mult) (rI VQ fun i j=>.int (i * j)):=opI fun _ _ _ _ _ _ _ hc q=>mul_int q hc.ok
theorem Ti:Ay X (binaryOp .FloorDiv) (rI aal fun i j=>.int (i / j)):=opI fun i j _ _ _ _ _ hc q=>by
 have h1:(0:Int)<j:=hc.1
 have h2:j<1073741824:=hc.2
 exact floordiv_int (by omega) (by rw [Int.fdiv_eq_ediv_of_nonneg i (by omega)];exact q) (.inl (PyProof.noPylong_small (by omega)))
theorem L6:Ay X (binaryOp .Mod) (rI (λ_ j=>0<j) fun i j=>.int (i % j)):=opI fun i j _ _ _ _ _ hc q=>by
 have h1:(0:Int)<j:=hc
 exact mod_int' (by omega) (by rw [Int.fmod_eq_emod_of_nonneg i (by omega)];exact q)
theorem unI {f:Value→Sem Value}{g:Int→Int}
  (rule:∀(i:Int) (t:Tok) (s:Shared) (Q:Value→Shared→Prop) (E:Value→Shared→Prop),Q (.int (g i) s.toks) { s with toks:=s.toks+1 }→wpAny (model X.prog X.w) X.A (f (.int i t)) Q E s) :
  UnR X f (rU fun i=>.int (g i)):=by
 intro pins s σ H x v Q I rx h
 obtain ⟨i,rfl,q⟩:=h
 obtain ⟨t,rfl⟩:=rx
 exact rule i t s _ _ ⟨.int (g i),H,I.tok _,⟨_,rfl⟩,q⟩
theorem VS:UnR X (unaryOp .USub) (rU fun i=>.int (-i)):=unI fun _ _ _ _ _ q=>neg_int q
end
def Yw:V→V→Bool
 |.mH,.mH=>true | .mH,.int _=>true | .int _,.mH=>true | .mH,.bl _=>true | .bl _,.mH=>true | .mH,.str _=>true | .str _,.mH=>true
 |.int _,.int _=>true | .bl _,.bl _=>true | .str _,.str _=>true | .LQ _,.LQ _=>true
 |.int _,.str _=>true | .str _,.int _=>true | .bl _,.str _=>true | .str _,.bl _=>true
 |_,_=>false
def Tj:R2:=λx y H Q=>Yw x y=true∧Q (.bl (decide (x=y))) H
def Vc:R2:=λx y H Q=>Yw x y=true∧Q (.bl (!decide (x=y))) H
theorem GO {i j:Int}:decide (V.int i=V.int j)=(i==j):=by
 rw [dY]
 simp
theorem Qs {i j:Bool}:decide (V.bl i=V.bl j)=(i==j):=by
 rw [dY]
 simp
theorem NI {i j:Str}:decide (V.str i=V.str j)=(i==j):=by
 rw [dY]
 simp
theorem NJ {i j:Array UInt8}:decide (V.LQ i=V.LQ j)=(i.toList==j.toList):=by
 rw [dY]
 cases i
 cases j
 simp
section
variable {X:Cx}{a b c:Expr}{ta tb tc:TE}{pos:Pos}
theorem iK {pins:List (Addr×Obj)}{σ:St}{H:Hp}{s:Shared}{Q:VK}{k k':Bool}(I:Inv X pins σ H s) (q:Q (.bl k) H) (e:k=k'):EP X pins σ Q (.bool k') s:=by
 subst e
 exact ⟨.bl k,H,I,rfl,q⟩
theorem iY:Ay X (compareOp .Eq) Tj:=by
 intro pins s σ H x y v u Q I rx ry h
 obtain ⟨hs,q⟩:=h
 cases x with
 |mH=>
  cases rx
  cases y with
  |mH=>cases ry;exact PySem.EqNone.eq_none_none (iK I q (by simp))
  |bl j=>cases ry;exact PySem.EqNone.eq_none_bool (iK I q (by simp))
  |int j=>obtain ⟨t',rfl⟩:=ry;exact PySem.EqNone.eq_none_int (iK I q (by simp))
  |str j=>obtain ⟨t',rfl⟩:=ry;exact PySem.EqNone.eq_none_str (iK I q (by simp))
  |_=>exact absurd (show false=true from hs) aH
 |bl i=>
  cases rx
  cases y with
  |mH=>cases ry;exact PySem.EqNone.eq_bool_none (iK I q (by simp))
  |bl j=>cases ry;exact eq_bool (iK I q Qs)
  |str j=>obtain ⟨t',rfl⟩:=ry;exact PySem.EqMixed.eq_bool_str (iK I q (by simp))
  |_=>exact absurd (show false=true from hs) aH
 |int i=>
  obtain ⟨t,rfl⟩:=rx
  cases y with
  |mH=>cases ry;exact PySem.EqNone.eq_int_none (iK I q (by simp))
  |int j=>obtain ⟨t',rfl⟩:=ry;exact eq_int (iK I q GO)
  |str j=>obtain ⟨t',rfl⟩:=ry;exact PySem.EqMixed.eq_int_str (iK I q (by simp))
  |_=>exact absurd (show false=true from hs) aH
 |str i=>
  obtain ⟨t,rfl⟩:=rx
  cases y with
  |mH=>cases ry;exact PySem.EqNone.eq_str_none (iK I q (by simp))
  |bl j=>cases ry;exact PySem.EqMixed.eq_str_bool (iK I q (by simp))
  |int j=>obtain ⟨t',rfl⟩:=ry;exact PySem.EqMixed.eq_str_int (iK I q (by simp))
  |str j=>obtain ⟨t',rfl⟩:=ry;exact eq_str (iK I q NI)
  |_=>exact absurd (show false=true from hs) aH
 |LQ i=>
  obtain ⟨t,rfl⟩:=rx
  cases y with
  |LQ j=>obtain ⟨t',rfl⟩:=ry;exact PySem.W.eq_bytes (iK I q NJ)
  |_=>exact absurd (show false=true from hs) aH
 |_=>cases y<;>exact absurd (show false=true from hs) aH
theorem kn:Ay X (compareOp .NotEq) Vc:=by
 intro pins s σ H x y v u Q I rx ry h
 obtain ⟨hs,q⟩:=h
 cases x with
 |mH=>
  cases rx
  cases y with
  |mH=>cases ry;exact PySem.EqNone.ne_none_none (iK I q (by simp))
  |bl j=>cases ry;exact PySem.EqNone.ne_none_bool (iK I q (by simp))
  |int j=>obtain ⟨t',rfl⟩:=ry;exact PySem.EqNone.ne_none_int (iK I q (by simp))
  |str j=>obtain ⟨t',rfl⟩:=ry;exact PySem.EqNone.ne_none_str (iK I q (by simp))
  |_=>exact absurd (show false=true from hs) aH
 |bl i=>
  cases rx
  cases y with
  |mH=>cases ry;exact PySem.EqNone.ne_bool_none (iK I q (by simp))
  |bl j=>cases ry;exact ne_bool (iK I q (congrArg not Qs))
  |str j=>obtain ⟨t',rfl⟩:=ry;exact PySem.EqMixed.ne_bool_str (iK I q (by simp))
  |_=>exact absurd (show false=true from hs) aH
 |int i=>
  obtain ⟨t,rfl⟩:=rx
  cases y with
  |mH=>cases ry;exact PySem.EqNone.ne_int_none (iK I q (by simp))
  |int j=>obtain ⟨t',rfl⟩:=ry;exact ne_int (iK I q (congrArg not GO))
  |str j=>obtain ⟨t',rfl⟩:=ry;exact PySem.EqMixed.ne_int_str (iK I q (by simp))
  |_=>exact absurd (show false=true from hs) aH
 |str i=>
  obtain ⟨t,rfl⟩:=rx
  cases y with
  |mH=>cases ry;exact PySem.EqNone.ne_str_none (iK I q (by simp))
  |bl j=>cases ry;exact PySem.EqMixed.ne_str_bool (iK I q (by simp))
  |int j=>obtain ⟨t',rfl⟩:=ry;exact PySem.EqMixed.ne_str_int (iK I q (by simp))
  |str j=>obtain ⟨t',rfl⟩:=ry;exact ne_str (iK I q (congrArg not NI))
  |_=>exact absurd (show false=true from hs) aH
 |LQ i=>
  obtain ⟨t,rfl⟩:=rx
  cases y with
  |LQ j=>obtain ⟨t',rfl⟩:=ry;exact PySem.W.ne_bytes (iK I q (congrArg not NJ))
  |_=>exact absurd (show false=true from hs) aH
 |_=>cases y<;>exact absurd (show false=true from hs) aH
theorem FJ:Ay X (compareOp .Lt) (NH fun i j=>.bl (decide (i<j))):=Th fun _ _ _ _ _ _ _ q=>lt_int q
theorem zt:Ay X (compareOp .LtE) (NH fun i j=>.bl (decide (i≤j))):=Th fun _ _ _ _ _ _ _ q=>le_int q
theorem JH:Ay X (compareOp .Gt) (NH fun i j=>.bl (decide (j<i))):=Th fun _ _ _ _ _ _ _ q=>gt_int q
theorem FK:Ay X (compareOp .GtE) (NH fun i j=>.bl (decide (j≤i))):=Th fun _ _ _ _ _ _ _ q=>ge_int q
theorem gm (b:Expr) {op:CmpOp}(h:op≠.In:=by decide) (h2:op≠.NotIn:=by decide):behindInMarks op b=false:=by
 have e1:(op==CmpOp.In)=false:=by cases op<;>first|rfl|exact absurd rfl h
 have e2:(op==CmpOp.NotIn)=false:=by cases op<;>first|rfl|exact absurd rfl h2
 cases b<;>simp [behindInMarks,e1,e2]
theorem jO {op:CmpOp}{r:R2}(ho:Ay X (compareOp op) r) (ha:PE X a ta) (hb:PE X b tb) (hm:behindInMarks op b=false):PE X (.Compare a [op] [b] pos) (km r ta tb):=by
 intro pins s σ H Q I h
 exact wpAny_Compare1 (VP ha hb I h fun v u s2 x y H2 I2 rx ry q=>ho pins s2 σ H2 x y v u Q I2 rx ry q) hm
def kH (t:TE):TT:=fun σ H Q=>t σ H fun x H'=>∃k,x=.bl k∧Q k H'
theorem gg {op:CmpOp}{r:R2}(ho:Ay X (compareOp op) r) (ha:PE X a ta) (hb:PE X b tb) (hm:behindInMarks op b=false):PT X (.Compare a [op] [b] pos) (kH (km r ta tb)):=by
 intro pins s σ H Q I h
 refine wpAny_isTrue_Compare1 (kj (ha pins s σ H _ I h) fun v s1 ⟨x,H1,I1,r1,q1⟩=>kj (hb pins s1 σ H1 _ I1 q1) fun u s2 ⟨y,H2,I2,r2,q2⟩=>
  kj (ho pins s2 σ H2 x y v u _ I2 r1 r2 q2) fun c s3 ⟨z,H3,I3,r3,k,e,q3⟩=>?_) hm
 subst e
 cases r3
 exact wpAny_truthy_bool ⟨H3,I3,q3⟩
def VT (r r':R2) (ta tb tc:TE):TE:=fun σ H Q=>ta σ H fun x H1=>tb σ H1 fun y H2=>r x y H2 fun z H3=>∃k,z=.bl k∧
 (if k=true then tc σ H3 fun w' H4=>r' y w' H4 Q else Q (.bl false) H3)
theorem JI {op op':CmpOp}{r r':R2}(ho:Ay X (compareOp op) r) (Qa:Ay X (compareOp op') r') (ha:PE X a ta) (hb:PE X b tb) (hc:PE X c tc)
  (hm:lastMarks [op,op'] [b,c]=false:=by with_unfolding_all rfl):PE X (.Compare a [op,op'] [b,c] pos) (VT r r' ta tb tc):=by
 intro pins s σ H Q I h
 refine Compare_chain (kj (ha pins s σ H _ I h) fun v s1 ⟨x,H1,I1,r1,q1⟩=>chain_link (kj (hb pins s1 σ H1 _ I1 q1) fun u s2 ⟨y,H2,I2,r2,q2⟩=>
  kj (ho pins s2 σ H2 x y v u _ I2 r1 r2 q2) fun d s3 ⟨z,H3,I3,r3,k,e,q3⟩=>?_)) hm
 subst e
 cases r3
 refine wpAny_truthy_bool ?_
 cases k with
 |false=>exact ite_ff ⟨.bl false,H3,I3,rfl,q3⟩
 |true=>exact ite_tt (chain_last (kj (hc pins s3 σ H3 _ I3 q3) fun w' s4 ⟨z',H4,I4,r4,q4⟩=>Qa pins s4 σ H4 y z' u w' Q I4 r2 r4 q4))
theorem L7:(sizeLine:Nat)<2 ^ 63:=by rw [sizeLine_eq];decide
theorem vals1 {x:V}{us:List Value}(r:Vals [x] us):∃u,us=[u]∧RelV x u:=by
 cases r with
 |cons r1 r2=>cases r2;exact ⟨_,rfl,r1⟩
theorem vals2 {x y:V}{us:List Value}(r:Vals [x,y] us):∃u w',us=[u,w']∧RelV x u∧RelV y w':=by
 cases r with
 |cons r1 r2=>
  cases r2 with
  |cons r3 r4=>cases r4;exact ⟨_,_,rfl,r1,r3⟩
theorem FL (hc:X.calm=true):qB X (.builtin "max") (λxs H Q=>∃i j,xs=[.int i,.int j]∧Q (.int (if j > i then j else i)) H):=by
 intro pins s σ H xs us Q I r h
 obtain ⟨i,j,rfl,q⟩:=h
 obtain ⟨u,w',rfl,⟨t,rfl⟩,⟨t',rfl⟩⟩:=vals2 r
 refine max_two_ints (I.ok.hd hc) fun h' tk k=>⟨_,H,I.kept k,?_,q⟩
 by_cases hj:j > i
 ·rw [if_pos hj,if_pos hj];exact ⟨_,rfl⟩
 ·rw [if_neg hj,if_neg hj];exact ⟨_,rfl⟩
theorem yy (hc:X.calm=true):qB X (.builtin "min") (λxs H Q=>∃i j,xs=[.int i,.int j]∧Q (.int (if j<i then j else i)) H):=by
 intro pins s σ H xs us Q I r h
 obtain ⟨i,j,rfl,q⟩:=h
 obtain ⟨u,w',rfl,⟨t,rfl⟩,⟨t',rfl⟩⟩:=vals2 r
 refine min_two_ints (I.ok.hd hc) fun h' tk k=>⟨_,H,I.kept k,?_,q⟩
 by_cases hj:j<i
 ·rw [if_pos hj,if_pos hj];exact ⟨_,rfl⟩
 ·rw [if_neg hj,if_neg hj];exact ⟨_,rfl⟩
end
end L2
namespace L2
open PySem PySem.Spec PyProof.Rows
structure L8 (h:Heap) (x dx C:Addr) (mA:Str→Option Value):Prop where
 obj:h.get? x=some (cR C dx)
 ns:h.Ns1 dx mA
 ne:dx≠x
theorem OM {h:Heap}{dx:Addr}{mA:Str→Option Value}(n:h.Ns1 dx mA):∃od,h.get? dx=some od∧∀name,fj name od=some (mA name):=by
 obtain ⟨o,es,ep,ho,hd,hk,_,hm⟩:=n
 refine ⟨o,ho,λname=>?_⟩
 have e:=hm name
 unfold nsFind findBy at e
 rw [←Array.find?_toList] at e
 unfold fj
 rw [hd]
 dsimp only
 split
 ·rename_i y q
  rw [q] at e
  exact congrArg some e
 ·rename_i q
  rw [q] at e
  have a:es.toList.any (·.refKey)=false:=by
   rw [List.any_eq_false]
   intro y hy
   obtain ⟨z,t,aam⟩:=hk y (eW.mp hy)
   simp [DictEntry.refKey,aam]
  have a':¬es.toList.any (·.refKey)=true:=by rw [a];exact aH
  rw [if_neg a']
  exact congrArg some e
theorem L8.look {h:Heap}{x dx C:Addr}{mA:Str→Option Value}(I:L8 h x dx C mA):∃od,PySem.W.InstAt h x (cR C dx) C (some od)∧∀name,fj name od=some (mA name):=
 let ⟨od,ho,hl⟩:=OM I.ns
 ⟨od,⟨I.obj,rfl,rfl,ho⟩,hl⟩
section
variable {prog:Program}{w:World}{A:Around}{E:Value→Shared→Prop}{s:Shared}{K:ab}{x dx C f:Addr}{mA:Str→Option Value}{name:Str}{v:Value}
theorem get_map {expr:Bool}{Q:Value→Shared→Prop}(X:K.In s.heap) (I:L8 s.heap x dx C mA) (hg:cJ K C name=true) (hh:cP K C=true)
  (ha:aA K (.ref C) name=some none) (hv:mA name=some v) (hv':PySem.W.handedIn v=true) (h:Q v { s with toks:=s.toks+1 }) :
  wpAny (model prog w) A (getAttr (.ref x) name expr) Q E s:=by
 obtain ⟨od,J,hl⟩:=I.look
 exact PySem.W.get_value X J (eY hg).1 (PySem.W.findObj_own hh ha rfl (by rw [hl,hv])) hv' h
theorem Qt {pl:Sem Bool}{Q:Value×List Value→Shared→Prop}(X:K.In s.heap) (I:L8 s.heap x dx C mA) (hg:cJ K C name=true)
  (hf:aA K (.ref C) name=some (some (.ref f))) (ht:fc K (.ref f)=true) (hv:mA name=none) (h:Q (.ref f,[.ref x]) s) :
  wpAny (model prog w) A (getMethod (.ref x) name pl) Q E s:=by
 obtain ⟨od,J,hl⟩:=I.look
 exact PySem.W.method_fn X J (eY hg).1 (eY hg).2 hf (beq_iff_eq.mp ht) (by show (fj name od).map (·.isSome)=some false;rw [hl,hv];rfl) h
theorem Tn {ns:List Str}{Q:Unit→Shared→Prop}(X:K.In s.heap) (I:L8 s.heap x dx C mA)
  (hs:aA K (.ref C) "__setattr__"=some (some (.builtin "object.__setattr__"))) (hp:di K C=true) (ht:PySem.W.takerIn K C name=some none) (hh:cP K C=true)
  (hw:fE mA ns) (hsz:ns.length≤sizeLine)
  (h:∀h',L8 h' x dx C (λy=>if y=name then some v else mA y)→Heap.SameBut dx s.heap h'→Q () { s with heap:=h',toks:=s.toks+2 }) :
  wpAny (model prog w) A (setAttr (.ref x) name v) Q E s:=by
 obtain ⟨od,J,hl⟩:=I.look
 refine PySem.W.set_plain X J hs (PySem.W.osa_open (s:={ s with toks:=s.toks+1 }) (r:=none) X J hp ht fun b=>?_)
 obtain ⟨cd,hc,XT⟩:=PySem.W.any_some hh
 have hx:s.heap.get? x=some ⟨.ref C,some dx,.plain,#[]⟩:=I.obj
 refine wpAny_bind (wpAny_pure (wpAny_bind (wpAny_bind (wpAny_loadPart hx (wpAny_bind (PySem.W.Looks.here (s:={ s with toks:=s.toks+1 }) (PySem.W.looks_clsIn X hc) ?_))))))
 rw [XT]
 refine wpAny_pure (a:=some dx) (wpAny_bind (wpAny_pure (wpAny_bind ?_)))
 refine wpAny_nsSet1 (s:={ s with toks:=s.toks+1 }) I.ns fun h' Yx S6=>?_
 obtain ⟨oD,esD,epD,hoD,hdD,hcD⟩:=Yx.count (fE.cons name v hw)
 refine wpAny_bind (wpAny_lookBehind hoD (by rw [hdD];exact pastItsLine_dict (bh hcD (by rw [aw];omega))) ?_)
 exact wpAny_pure (h _ ⟨(S6.2 _ (Ne.symm I.ne)).trans I.obj,Yx,I.ne⟩ S6)
theorem Qu {R:Result→Shared→Prop}{vs:List Value}{kw:List (Str×Value)}(X:K.In s.heap) (hm:PySem.W.makesIn K C=true)
  (hi:aA K (.ref C) "__init__"=some (some (.ref f))) (hf:PySem.W.typeIn K (.ref f)=some (.type "function"))
  (h:codeAny (model prog w) (A.under (.builtin "type.__call__" ⟨.ref C::vs,kw⟩)) (.call (.ref f) ⟨.ref (s.heap.objs.size+1)::vs,kw⟩) (PySem.W.InitBack (s.heap.objs.size+1) R)
   { s with heap:=(s.heap.push ck).push (cR C s.heap.objs.size) }) :
  codeAny (model prog w) A (.call (.ref C) ⟨vs,kw⟩) R s:=by
 obtain ⟨hh,g,d,t,os⟩:=s
 exact PySem.W.make_core (PySem.W.makes_of X hm) (PySem.W.looks_findIn X hi) (λself=>PySem.W.bind_fn X self hf) (.inl rfl) h
end
def gh (f:Str) (v:V):List (Str×V)→List (Str×V)
 |[]=>[(f,v)]
 |(g,x)::r=>if g=f then (g,v)::r else (g,x)::gh f v r
theorem zu (f g:Str) (v:V):∀fs:List (Str×V),(gh f v fs).lookup g=if g=f then some v else fs.lookup g
 |[]=>by
  show dP g [(f,v)]=_
  by_cases h:g=f
  ·have hb:(g==f)=true:=beq_iff_eq.mpr h
   simp only [dP,hb,if_pos h]
  ·have hb:(g==f)=false:=beq_eq_false_iff_ne.mpr h
   simp only [dP,hb,if_neg h]
 |(k,x)::r=>by
  have ih:=zu f g v r
  rw [show gh f v ((k,x)::r)=(if k=f then (k,v)::r else (k,x)::gh f v r) from rfl]
  by_cases hk:k=f
  ·rw [if_pos hk]
   by_cases h:g=k
   ·have hb:(g==k)=true:=beq_iff_eq.mpr h
    simp only [dP,hb,if_pos (h.trans hk)]
   ·have hb:(g==k)=false:=beq_eq_false_iff_ne.mpr h
    simp only [dP,hb,if_neg (λe:g=f=>h (e.trans hk.symm))]
  ·rw [if_neg hk]
   by_cases h:g=k
   ·have hb:(g==k)=true:=beq_iff_eq.mpr h
    simp only [dP,hb,if_neg (λe:g=f=>hk (h.symm.trans e))]
   ·have hb:(g==k)=false:=beq_eq_false_iff_ne.mpr h
    simp only [dP,hb]
    exact ih
theorem yz (f:Str) (v:V):∀fs:List (Str×V),f∈(gh f v fs).map (·.1)∧∀g,g∈fs.map (·.1)→g∈(gh f v fs).map (·.1)
 |[]=>⟨by simp [gh],λg h=>by simp at h⟩
 |(k,x)::r=>by
  obtain ⟨i1,i2⟩:=yz f v r
  rw [show gh f v ((k,x)::r)=(if k=f then (k,v)::r else (k,x)::gh f v r) from rfl]
  by_cases hk:k=f
  ·rw [if_pos hk]
   subst hk
   exact ⟨by simp,λg h=>by simpa using h⟩
  ·rw [if_neg hk]
   refine ⟨?_,λg h=>?_⟩
   ·rw [aG]
    exact ag _ i1
   ·rw [aG] at h ⊢
    rcases aB.mp h with e|e
    ·exact aB.mpr (.inl e)
    ·exact ag _ (i2 g e)
theorem zv (f:Str) (v:V):∀fs:List (Str×V),(gh f v fs).length≤fs.length+1
 |[]=>by simp [gh]
 |(k,x)::r=>by
  have ih:=zv f v r
  rw [show gh f v ((k,x)::r)=(if k=f then (k,v)::r else (k,x)::gh f v r) from rfl]
  by_cases hk:k=f
  ·rw [if_pos hk,aw,aw];omega
  ·rw [if_neg hk,aw,aw];omega
theorem qV.some_of {v:V}{o:Option Value}(r:qV (some v) o):∃u,o=some u∧RelV v u:=by
 cases o with
 |none=>exact (show False from r).elim
 |some u=>exact ⟨u,rfl,r⟩
theorem qV.none_of {o:Option Value}(r:qV none o):o=none:=by
 cases o with
 |none=>rfl
 |some u=>exact (show False from r).elim
theorem ON {v:V}{u:Value}(r:RelV v u):PySem.W.handedIn u=true:=by
 cases v with
 |mH=>cases (show u=Value.none from r);rfl
 |bl b=>cases (show u=Value.bool b from r);rfl
 |int i=>obtain ⟨t,e⟩:=(show ∃t,u=Value.int i t from r);cases e;rfl
 |str x=>obtain ⟨t,e⟩:=(show ∃t,u=Value.str x t from r);cases e;rfl
 |LQ b=>obtain ⟨t,e⟩:=(show ∃t,u=Value.bytes b t from r);cases e;rfl
 |flt b=>obtain ⟨t,e⟩:=(show ∃t,u=Value.float b t from r);cases e;rfl
 |ref a=>cases (show u=Value.ref a from r);rfl
 |ty n=>cases (show u=Value.type n from r);rfl
section
variable {P:Program}{w:World}{H H':Hp}{h h':Heap}{a C dx:Addr}{fs fs':List (Str×V)}
theorem qW (iR:sL P w H h) (e:H a=some (.ins C dx fs)):∃mA,L8 h a dx C mA∧(∀f,qV (fs.lookup f) (mA f))∧fE mA (fs.map (·.1))∧fs.length≤1000∧H dx=some (.own a):=by
 obtain ⟨d,z,ne,ob,mA,n,r,q⟩:=(show j5 P w H h a (.ins C dx fs) from iR a _ e)
 exact ⟨mA,⟨ob,n,ne⟩,r,q,z,d⟩
end
structure OO (K:ab) (C:Addr):Prop where
 pg:cJ K C Str.empty=true
 hd:cP K C=true
 po:di K C=true
 sa:aA K (.ref C) "__setattr__"=some (some (.builtin "object.__setattr__"))
theorem OO.get {K:ab}{C:Addr}(c:OO K C) (f:Str):cJ K C f=true:=c.pg
def iw (K:ab) (C:Addr) (f:Str):Prop:=aA K (.ref C) f=some none
theorem iw.Yy {K:ab}{C:Addr}{f:Str}(n:iw K C f):PySem.W.takerIn K C f=some none:=by
 unfold PySem.W.takerIn
 rw [show aA K (.ref C) f=some none from n]
 rfl
structure Meth (K:ab) (C:Addr) (m:Str) (f:Addr):Prop where
 at_:aA K (.ref C) m=some (some (.ref f))
 fn:fc K (.ref f)=true
 kp:cw K (.ref f)=true
section
variable {X:Cx}{pins:List (Addr×Obj)}{σ:St}{H:Hp}{s:Shared}{a C dx:Addr}{fs:List (Str×V)}{f:Str}{v:V}{A:Around}{E:Value→Shared→Prop}
theorem L9 {b:Bool}{Q:Value→Shared→Prop}(I:Inv X pins σ H s) (e:H a=some (.ins C dx fs)) (c:OO X.K C) (n:iw X.K C f) (l:fs.lookup f=some v)
  (h:∀u s',Inv X pins σ H s'→RelV v u→Q u s'):wpAny (model X.prog X.w) A (getAttr (.ref a) f b) Q E s:=by
 obtain ⟨mA,O,r,_,_,_⟩:=qW I.iR e
 obtain ⟨u,hu,ru⟩:=qV.some_of (v:=v) (o:=mA f) (by rw [←l];exact r f)
 exact get_map I.LY O (c.get f) c.hd n hu (ON ru) (h u _ (I.tok _) ru)
theorem Ma {m:Str}{g:Addr}{pl:Sem Bool}{Q:Value×List Value→Shared→Prop}(I:Inv X pins σ H s) (e:H a=some (.ins C dx fs)) (c:OO X.K C) (k:Meth X.K C m g) (l:fs.lookup m=none)
  (h:Q (.ref g,[.ref a]) s):wpAny (model X.prog X.w) A (getMethod (.ref a) m pl) Q E s:=by
 obtain ⟨mA,O,r,_,_,_⟩:=qW I.iR e
 have hn:mA m=none:=qV.none_of (by rw [←l];exact r m)
 exact Qt I.LY O (c.get m) k.at_ k.fn hn h
theorem Mb {y:V}{u:Value}{Q:Unit→Shared→Prop}(I:Inv X pins σ H s) (e:H a=some (.ins C dx fs)) (c:OO X.K C) (n:iw X.K C f) (hl:fs.length<1000) (ry:RelV y u)
  (h:∀s',Inv X pins σ (upd H a (.ins C dx (gh f y fs))) s'→Q () s'):wpAny (model X.prog X.w) A (setAttr (.ref a) f u) Q E s:=by
 obtain ⟨mA,O,r,wi,_,ho⟩:=qW I.iR e
 have hz:(fs.map (·.1)).length≤sizeLine:=by rw [aa,sizeLine_eq];omega
 refine Tn I.LY O c.sa c.po n.Yy c.hd wi hz fun h' O' sb=>h _ ?_
 have hd:∃o,h'.get? dx=some o:=let ⟨o,_,_,e',_⟩:=O'.ns;⟨o,e'⟩
 refine I.write (x:=a) (e:=dx) (by rw [e];exact True.intro) (.inr ho) (λb q hb z=>(sb.2 b hb).trans z) hd ?_
 refine ⟨by rw [fZ O.ne];exact ho,?_,O.ne,O'.obj,_,O'.ns,λg=>?_,λg hg=>?_⟩
 ·have:=zv f y fs;omega
 ·show qV ((gh f y fs).lookup g) (if g=f then some u else mA g)
  rw [zu]
  by_cases q:g=f
  ·rw [if_pos q,if_pos q];exact ry
  ·rw [if_neg q,if_neg q];exact r g
 ·by_cases q:g=f
  ·rw [q];exact (yz f y fs).1
  ·refine (yz f y fs).2 g (wi g fun z=>hg ?_)
   show (if g=f then some u else mA g)=none
   rw [if_neg q];exact z
theorem Inv.made (I:Inv X pins σ H s):Inv X pins σ (upd (upd H s.heap.objs.size (.own (s.heap.objs.size+1))) (s.heap.objs.size+1) (.ins C s.heap.objs.size []))
  { s with heap:=(s.heap.push ck).push (cR C s.heap.objs.size) }:=by
 have e1:(s.heap.push ck).get? s.heap.objs.size=some ck:=Heap.get?_push_size s.heap rfl
 have e2:((s.heap.push ck).push (cR C s.heap.objs.size)).get? (s.heap.objs.size+1)=some (cR C s.heap.objs.size):=by
  have:=Heap.get?_push_size (s.heap.push ck) (o:=cR C s.heap.objs.size) rfl
  rwa [Heap.size_push] at this
 have e3:(s.heap.push ck).Ns s.heap.objs.size (λ_=>none):=⟨ck,#[],_,e1,rfl,(λe he=>absurd he (by simp)),λ_=>rfl⟩
 have I1:=I.laid (a:=s.heap.objs.size) (o:=.own (s.heap.objs.size+1)) (h':=s.heap.push ck) (t':=s.toks) (λb u q=>Heap.get?_push_of_some _ q) (ai _) ⟨_,e1⟩
 refine I1.laid (a:=s.heap.objs.size+1) (o:=.ins C s.heap.objs.size []) (t':=s.toks) (λb u q=>Heap.get?_push_of_some _ q) (fF (Heap.size_push _ _)) ?_
 have ne:s.heap.objs.size≠s.heap.objs.size+1:=aS (eR _)
 refine ⟨by rw [fZ ne,fN],aK _,ne,e2,λ_=>none,(Heap.Ns1.of_empty e3).at fun o q=>Heap.get?_push_of_some _ q,λ_=>True.intro,λy hy=>absurd rfl hy⟩
theorem To {prog:Program}{w:World}{env:Env}{e:Expr}{f:Str}{pos:Pos}{s:Shared}{Q:Value→Shared→Prop}(hb:attributeBase e f env (eval e env)=eval e env)
  (h:wpAny (model prog w) A (eval e env) (λo s₁=>wpAny (model prog w) A (getAttr o f true) Q E s₁) E s):wpAny (model prog w) A (eval (.Attribute e f pos) env) Q E s:=
 Attribute_any_ h (by rw [arm_eval_Attribute,hb])
end
end L2
namespace L2
open PySem PySem.Spec PyProof.Rows
structure lV (k:Nat) (A:Around):Prop where
 hd:A.handled=none
 dp:A.depth+3 * k+5<recursionLimit
 un:A.units+16 * k+200<cLine
theorem lV.mono {j k:Nat}{A:Around}(r:lV k A) (h:j≤k):lV j A:=⟨r.hd,by have:=r.dp;omega,by have:=r.un;omega⟩
theorem lV.deeper {k:Nat}{A:Around}(r:lV (k+1) A) (env:Env):lV k (A.deeper env):=
 ⟨r.hd,by have:=r.dp;show A.depth+1+3 * k+5<_;omega,by have:=r.un;show A.units+3+16 * k+200<_;omega⟩
theorem Mc {A:Around}{C:Addr}{us:List Value}{kw:List (Str×Value)}:(A.under (.builtin "type.__call__" ⟨.ref C::us,kw⟩)).depth=A.depth+1:=by
 first|rfl|simp [Around.under,Code.weight,Code.isCreation,Code.isGuard,Code.isCaller,Code.frames,Code.isFrame,guardIds]
theorem Me {A:Around}{C:Addr}{us:List Value}{kw:List (Str×Value)}:(A.under (.builtin "type.__call__" ⟨.ref C::us,kw⟩)).units=A.units+1:=by
 first|rfl|simp [Around.under,Code.cUnits,Code.frames,Code.isFrame]
theorem lV.make {k:Nat}{A:Around}(r:lV (k+1) A) (C:Addr) (us:List Value) (kw:List (Str×Value)):lV k (A.under (.builtin "type.__call__" ⟨.ref C::us,kw⟩)):=
 ⟨r.hd,by have:=r.dp;rw [Mc];omega,by have:=r.un;rw [Me];omega⟩
theorem lV.depth {k:Nat}{A:Around}(r:lV k A):A.depth<recursionLimit:=by have:=r.dp;omega
theorem lV.units {k:Nat}{A:Around}(r:lV k A):A.units+64<cLine:=by have:=r.un;omega
def gF:TA:=λ_ H Q=>Q [] H
def fT (ta:TE) (tr:TA):TA:=fun σ H Q=>ta σ H fun x H1=>tr σ H1 fun xs H2=>Q (x::xs) H2
section
variable {X:Cx}{e:Expr}{es:List Expr}{te:TE}{t:TA}{pos:Pos}
theorem fM:PA X [] gF:=λ_ _ _ _ H Q I h=>Calls.spliced_nil ⟨[],H,I,.nil,h⟩
theorem Tp (ha:PE X e te) (hr:PA X es t) (hs:starEach (e::es) X.env=(false,eval e X.env)::starEach es X.env:=by rfl):PA X (e::es) (fT te t):=by
 intro pos pins s σ H Q I h
 rw [hs]
 show wpAny _ _ (spliced ((false,eval e X.env)::backTo pos (starEach es X.env))) _ _ s
 refine Calls.spliced_cons (kj (ha pins s σ H _ I h) fun u s1 ⟨x,H1,I1,r1,q1⟩=>?_)
 exact kj (hr pos pins s1 σ H1 _ I1 q1) fun us s2 ⟨xs,H2,I2,r2,q2⟩=>⟨x::xs,H2,I2,.cons r1 r2,q2⟩
def A5 (t:TA):TE:=fun σ H Q=>t σ H fun xs H1=>xs.length≤sizeLine∧∀p,H1 p=none→Q (.ref p) (upd H1 p (.tup xs))
def pD (t:TA):TE:=fun σ H Q=>t σ H fun xs H1=>xs.length≤sizeLine∧∀p,H1 p=none→Q (.ref p) (upd H1 p (.lst xs))
theorem i6 {x1}(h:PA X es t):PE X (.Tuple es x1 pos) (A5 t):=by
 intro pins s σ H Q I hq
 refine wpAny_Tuple_spliced (kj (h pos pins s σ H _ I hq) fun us s1 ⟨xs,H1,I1,r,z,q⟩=>⟨by rw [←r.length];exact z,?_⟩)
 have hf:H1 s1.heap.objs.size=none:=I1.iR.fresh (ai _)
 refine ⟨.ref s1.heap.objs.size,upd H1 s1.heap.objs.size (.tup xs),I1.laid (t':=s1.toks) (λb u e=>Heap.get?_push_of_some _ e) (ai _) ?_,rfl,q _ hf⟩
 exact ⟨z,us,r,⟨_,Heap.get?_push_size _ rfl,rfl,_,rfl⟩⟩
theorem gG (h:PA X es t):PE X (.List es pos) (pD t):=by
 intro pins s σ H Q I hq
 refine wpAny_List_spliced (kj (h pos pins s σ H _ I hq) fun us s1 ⟨xs,H1,I1,r,z,q⟩=>⟨by rw [←r.length];exact z,?_⟩)
 have hf:H1 s1.heap.objs.size=none:=I1.iR.fresh (ai _)
 refine ⟨.ref s1.heap.objs.size,upd H1 s1.heap.objs.size (.lst xs),I1.laid (t':=s1.toks) (λb u e=>Heap.get?_push_of_some _ e) (ai _) ?_,rfl,q _ hf⟩
 exact ⟨z,us,0,r,Heap.get?_push_size _ rfl⟩
end
abbrev Sp:=List V→Hp→VK→XK→Prop
abbrev Qc:=List Env→Hp→Shared→XK→Value→Shared→Prop
structure Mf (P:Program) (w:World) (K:ab) (mg:Str→Option Value) (base:Heap) (A:Around) (outer:List Env) (s:Shared) (H:Hp):Prop where
 frames:A.frames=some outer
 mod:Mod K mg base
 bs:∀b o,base.get? b=some o→s.heap.get? b=some o∧H b=none
 Tg:base.objs.size≤s.heap.objs.size
 zL:s.heap.FunFrames base outer
 VG:∀b∈Qm outer,H b=none
 iR:sL P w H s.heap
 bare:AllBare s.gens
def CE (outer:List Env) (P:Program) (w:World) (H:Hp) (s:Shared) (Q:VK) (u:Value) (s':Shared):Prop:=
 ∃v H',s'.os=s.os∧AllBare s'.gens∧Un (Qm outer) [] H H' s.heap s'.heap∧sL P w H' s'.heap∧RelV v u∧Q v H'
def CR (CX:Qc) (outer:List Env) (P:Program) (w:World) (H:Hp) (s:Shared) (Q:VK) (E:XK) (r:Result) (s':Shared):Prop:=
 match r with
 |.ok (.ret u)=>CE outer P w H s Q u s'
 |.ok _=>False
 |.error e=>CX outer H s E e s'
structure uv (P:Program) (w:World) (K:ab) (mg:Str→Option Value) (base:Heap) (CX:Qc) (k:Nat) (f:Addr) (fd:FuncData) (ps:List Str) (sp:Sp):Prop where
 len:∀vs H Q E,sp vs H Q E→vs.length=ps.length
 run:∀(A:Around) (outer:List Env) (s:Shared) (H:Hp) (args:Args) (us:List Value) (vs:List V) (Q:VK) (E:XK),lV k A→Mf P w K mg base A outer s H→BindsTo s fd args (ps.zip us)→Vals vs us→sp vs H Q E→
  codeAny (model P w) A (.call (.ref f) args) (CR CX outer P w H s Q E) s
theorem Mf.make {P:Program}{w:World}{K:ab}{mg:Str→Option Value}{base:Heap}{A:Around}{outer:List Env}{s:Shared}{H:Hp}(e:Mf P w K mg base A outer s H) (C:Addr) (us:List Value) (kw:List (Str×Value)) :
  Mf P w K mg base (A.under (.builtin "type.__call__" ⟨.ref C::us,kw⟩)) outer s H:=⟨by first|exact e.frames|(simpa [Around.under,Code.envs,Code.isFrame,pushEnvs] using e.frames),e.mod,e.bs,e.Tg,e.zL,e.VG,e.iR,e.bare⟩
section
variable {X:Cx}{pins:List (Addr×Obj)}{σ:St}{H:Hp}{s s':Shared}
theorem Inv.Yz (I:Inv X pins σ H s):Mf X.prog X.w X.K X.mg X.base X.A X.stack s H:=
 ⟨I.ok.frames,I.ok.mod,I.bs,bh I.ok.Tg I.sz,I.stack,I.NA,I.iR,I.bare⟩
theorem Inv.after {Q:VK}{u:Value}(I:Inv X pins σ H s) (h:CE X.stack X.prog X.w H s Q u s'):EP X pins σ Q u s':=by
 obtain ⟨v,H',os,bare,un,iR,r,q⟩:=h
 obtain ⟨hh,g,d,t,os'⟩:=s'
 obtain rfl:os'=s.os:=os
 exact ⟨v,H',I.call (h':=hh) (g':=g) (d':=d) (t':=t) (ch:=[]) un iR bare (λb z=>absurd z (by simp)),r,q⟩
end
def iA (sp:Sp) (Dq:List V) (E:XK) (t:TA):TE:=fun σ H Q=>t σ H fun vs H1=>sp (vs++Dq) H1 Q E
def JJ (C:Addr) (m:Str) (sp:Sp) (Dq:List V) (E:XK) (ta:TE) (t:TA):TE:=fun σ H Q=>ta σ H fun x H1=>∃a dx fs,x=.ref a∧H1 a=some (.ins C dx fs)∧fs.lookup m=none∧
 t σ H1 fun vs H2=>sp (x::(vs++Dq)) H2 Q E
def A6 (C:Addr) (sp:Sp) (Dq:List V) (E:XK) (t:TA):TE:=fun σ H Q=>t σ H fun vs H1=>∀x dx,H1 x=none→H1 dx=none→dx≠x→
 sp (.ref x::(vs++Dq)) (upd (upd H1 dx (.own x)) x (.ins C dx [])) (λv H2=>v=.mH∧Q (.ref x) H2) E
def Binds (K:ab) (fd:FuncData) (ps:List Str) (ds:List Value):Prop:=
 ∀(s:Shared) (us:List Value),K.In s.heap→(us++ds).length=ps.length→BindsTo s fd ⟨us,[]⟩ (ps.zip (us++ds))
theorem Binds.all {K:ab}{fd:FuncData}{ps:List Str}(h:∀us:List Value,us.length=ps.length→bindArgs fd ⟨us,[]⟩=pure (ps.zip us)):Binds K fd ps []:=λs us _ hl=>by
 rw [bW] at hl ⊢
 exact .of_eq (h us hl)
def Passes (CX:Qc) (X:Cx) (E:XK):Prop:=∀(pins:List (Addr×Obj)) (σ:St) (H:Hp) (s:Shared) (e:Value) (s':Shared),Inv X pins σ H s→CX X.stack H s E e s'→X.xe e s'
section
variable {X:Cx}{CX:Qc}{k:Nat}{f C:Addr}{fd:FuncData}{ps:List Str}{sp:Sp}{Dq:List V}{ds:List Value}{E:XK}{x m:Str}{p pos apos:Pos}{e o:Expr}{es:List Expr}{ta:TE}{t:TA}
theorem Qv {pins:List (Addr×Obj)}{σ:St}{H:Hp}{s:Shared}{Q:VK}{us:List Value}{vs:List V}(F:uv X.prog X.w X.K X.mg X.base CX k f fd ps sp) (hr:lV k X.A) (hb:Binds X.K fd ps ds) (hd:Vals Dq ds) (hx:Passes CX X E)
  (I:Inv X pins σ H s) (r:Vals vs us) (h:sp (vs++Dq) H Q E):wpAny (model X.prog X.w) X.A (call (.ref f) us) (EP X pins σ Q) X.xe s:=by
 have r2:Vals (vs++Dq) (us++ds):=r.append hd
 have hl:(us++ds).length=ps.length:=by rw [←r2.length];exact F.len _ _ _ _ h
 refine wpAny_call (codeAny_mono (F.run X.A X.stack s H ⟨us,[]⟩ (us++ds) (vs++Dq) Q E hr I.Yz (hb s us I.LY hl) r2 h) fun r s' hq=>?_)
 cases r with
 |error e=>exact hx pins σ H s e s' I hq
 |ok fl=>
  cases fl with
  |ret u=>exact I.after hq
  |next=>exact False.elim hq
  |brk=>exact False.elim hq
  |cont=>exact False.elim hq
theorem Tq (F:uv X.prog X.w X.K X.mg X.base CX k f fd ps sp) (hr:lV k X.A) (hg:Gl X x) (hm:X.mg x=some (.ref f)) (hk:cw X.K (.ref f)=true) (hb:Binds X.K fd ps ds) (hd:Vals Dq ds) (hx:Passes CX X E)
  (ha:PA X (e::es) t) (Mg:(x==("__debug__":Str))=false:=by decide) (he:starEach (e::es) X.env=(false,eval e X.env)::starEach es X.env:=by rfl) (zN:(backTo pos (starEach es X.env)).any (·.1)=false:=by rfl) :
  PE X (.Call (.Name x p) (e::es) [] pos) (iA sp Dq E t):=by
 intro pins s σ H Q I h
 refine wpAny_Call_Name_kw (Aw I hg hm ?_ Mg)
 refine PySem.W.callWith_K (h₀:=X.base) I.ok.mod.kin hk (kj (ha pos pins s σ H _ I h) fun us s1 ⟨vs,H1,I1,r,q⟩=>⟨I1.LY,?_⟩) he zN
 exact Qv F hr hb hd hx I1 r q
theorem Qw {pl:Sem Bool}(he:PE X o ta) (c:OO X.K C) (hm:Meth X.K C m f) (F:uv X.prog X.w X.K X.mg X.base CX k f fd ps sp) (hr:lV k X.A) (hb:Binds X.K fd ps ds) (hd:Vals Dq ds) (hx:Passes CX X E)
  (ht:eval (.Call (.Attribute o m apos) [] [] pos) X.env=(do
   let ov ←eval o X.env
   standAt apos.atName
   let (f,first) ←holding [ov] (getMethod ov m pl)
   callWith pos f first (backTo pos (starEach [] X.env)) (backToKw pos (keywordEach [] X.env))):=by rfl) :
  PE X (.Call (.Attribute o m apos) [] [] pos) (JJ C m sp Dq E ta gF):=by
 intro pins s σ H Q I h
 refine PySem.W.methodCall_KW (pl:=pl) (kj (he pins s σ H _ I h) fun u s1 ⟨x,H1,I1,rx,a,dx,fs,ex,ea,l,q⟩=>?_) ht
 subst ex
 obtain rfl:u=Value.ref a:=rx
 refine Ma I1 ea c hm l ?_
 exact PySem.W.callWith_K0 (first:=[.ref a]) I1.LY hm.kp (Qv (us:=[.ref a]) (vs:=[.ref a]) F hr hb hd hx I1 (.cons rfl .nil) q)
structure Mk (K:ab) (C f:Addr):Prop where
 makes:PySem.W.makesIn K C=true
 init:aA K (.ref C) "__init__"=some (some (.ref f))
 fn:fc K (.ref f)=true
 kp:cw K (.ref C)=true
theorem JK {pins:List (Addr×Obj)}{σ:St}{H:Hp}{s:Shared}{Q:VK}{us:List Value}{vs:List V}(M:Mk X.K C f) (F:uv X.prog X.w X.K X.mg X.base CX k f fd ps sp) (hr:lV (k+1) X.A) (hb:Binds X.K fd ps ds) (hd:Vals Dq ds)
  (hx:Passes CX X E) (I:Inv X pins σ H s) (r:Vals vs us)
  (h:∀x dx,H x=none→H dx=none→dx≠x→sp (.ref x::(vs++Dq)) (upd (upd H dx (.own x)) x (.ins C dx [])) (λv H2=>v=.mH∧Q (.ref x) H2) E) :
  wpAny (model X.prog X.w) X.A (call (.ref C) us) (EP X pins σ Q) X.xe s:=by
 have hq:=h (s.heap.objs.size+1) s.heap.objs.size (I.iR.fresh (Nat.le_succ _)) (I.iR.fresh (ai _)) (aS (eR _))
 have I2:=Inv.made (C:=C) I
 have r2:Vals (V.ref (s.heap.objs.size+1)::(vs++Dq)) (Value.ref (s.heap.objs.size+1)::(us++ds)):=.cons rfl (r.append hd)
 have hl:(Value.ref (s.heap.objs.size+1)::us++ds).length=ps.length:=by
  have e:=r2.length
  rw [F.len _ _ _ _ hq] at e
  exact e.symm
 refine wpAny_call (Qu (f:=f) I.LY M.makes M.init (beq_iff_eq.mp M.fn) (codeAny_mono (F.run _ X.stack _ _ ⟨Value.ref (s.heap.objs.size+1)::us,[]⟩ (Value.ref (s.heap.objs.size+1)::(us++ds)) _ _ E (hr.make C us [])
  (I2.Yz.make C us []) (hb _ (Value.ref (s.heap.objs.size+1)::us) I2.LY hl) r2 hq) fun r s' Vd=>?_))
 cases r with
 |error e=>exact hx pins σ _ _ e s' I2 Vd
 |ok fl=>
  cases fl with
  |ret u=>
   obtain ⟨v,H',I3,rv,ev,q3⟩:=I2.after Vd
   subst ev
   exact ⟨rv,⟨V.ref (s.heap.objs.size+1),H',I3,rfl,q3⟩⟩
  |next=>exact False.elim Vd
  |brk=>exact False.elim Vd
  |cont=>exact False.elim Vd
theorem Tr (M:Mk X.K C f) (F:uv X.prog X.w X.K X.mg X.base CX k f fd ps sp) (hr:lV (k+1) X.A) (hg:Gl X x) (hm:X.mg x=some (.ref C)) (hb:Binds X.K fd ps ds) (hd:Vals Dq ds) (hx:Passes CX X E)
  (ha:PA X (e::es) t) (Mg:(x==("__debug__":Str))=false:=by decide) (he:starEach (e::es) X.env=(false,eval e X.env)::starEach es X.env:=by rfl) (zN:(backTo pos (starEach es X.env)).any (·.1)=false:=by rfl) :
  PE X (.Call (.Name x p) (e::es) [] pos) (A6 C sp Dq E t):=by
 intro pins s σ H Q I h
 refine wpAny_Call_Name_kw (Aw I hg hm ?_ Mg)
 refine PySem.W.callWith_K (h₀:=X.base) I.ok.mod.kin M.kp (kj (ha pos pins s σ H _ I h) fun us s1 ⟨vs,H1,I1,r,q⟩=>⟨I1.LY,?_⟩) he zN
 exact JK M F hr hb hd hx I1 r q
theorem Qx (M:Mk X.K C f) (F:uv X.prog X.w X.K X.mg X.base CX k f fd ps sp) (hr:lV (k+1) X.A) (hg:Gl X x) (hm:X.mg x=some (.ref C)) (hb:Binds X.K fd ps ds) (hd:Vals Dq ds) (hx:Passes CX X E)
  (Mg:(x==("__debug__":Str))=false:=by decide):PE X (.Call (.Name x p) [] [] pos) (A6 C sp Dq E gF):=by
 intro pins s σ H Q I h
 refine wpAny_Call_Name_kw (Aw I hg hm ?_ Mg)
 exact PySem.W.callWith_K0 I.LY M.kp (JK (us:=[]) M F hr hb hd hx I .nil h)
end
section
variable {X:Cx}{CX:Qc}{k:Nat}{f C:Addr}{fd:FuncData}{ps ks:List Str}{sp:Sp}{E:XK}{x m:Str}{p pos apos aaY:Pos}{e o:Expr}{es:List Expr}{kws:List Keyword}{te ta:TE}{t tk:TA}{nm:Option Str}
variable {g:List Value→List Value→List Value}{gV:List V→List V→List V}
end
structure gf (N P:List Str) (sc:Scope):Prop where
 kind:sc.kind=.function
 co:sc.isCoroutine=false
 gen:sc.isGenerator=false
 nd:N.Nodup
 pre:N.take P.length=P
 par:∀x∈P,sc.names.lookup x=some .local∨sc.names.lookup x=some .cell
 VU:∀y∈sc.names,y.2≠.free
theorem FN {kindOf:Str→Option NameKind}{x:Str}:∀{binds:List (Str×Value)}{m:Str→Option Value},(∀v,(x,v)∉binds)→bindL kindOf binds m x=m x
 |[],_,_=>rfl
 |(n,v)::r,m,h=>by
  unfold bindL
  rw [FN fun w hw=>h w (ag _ hw)]
  split
  ·have:x≠n:=by rintro rfl;exact h v az
   simp [this]
  ·rfl
theorem FO {kindOf:Str→Option NameKind}{x:Str}:∀{binds:List (Str×Value)}{m:Str→Option Value},(∀v,(x,v)∉binds)→bindC kindOf binds m x=m x
 |[],_,_=>rfl
 |(n,v)::r,m,h=>by
  unfold bindC
  rw [FO fun w hw=>h w (ag _ hw)]
  split
  ·rfl
  ·have:x≠n:=by rintro rfl;exact h v az
   simp [this]
theorem FP {kindOf:Str→Option NameKind}{x:Str}{v:Value}:∀{P:List Str}{vs:List Value}{i:Nat}{m:Str→Option Value},P.Nodup→P[i]?=some x→vs[i]?=some v→kindOf x=some .local→
  bindL kindOf (P.zip vs) m x=some v
 |[],_,_,_,_,h,_,_=>by simp at h
 |_::_,[],_,_,_,_,h,_=>by simp at h
 |p::P,w::vs,0,m,nd,h1,h2,hk=>by
  simp at h1 h2;subst h1;subst h2
  show bindL kindOf ((p,w)::P.zip vs) m p=_
  unfold bindL
  rw [FN fun v hv=>(bF.mp nd).1 (List.of_mem_zip hv).1,if_pos hk]
  simp
 |p::P,w::vs,i+1,m,nd,h1,h2,hk=>by
  show bindL kindOf ((p,w)::P.zip vs) m x=_
  unfold bindL
  exact FP (i:=i) (bF.mp nd).2 (by simpa using h1) (by simpa using h2) hk
theorem FQ {kindOf:Str→Option NameKind}{x:Str}{v:Value}:∀{P:List Str}{vs:List Value}{i:Nat}{m:Str→Option Value},P.Nodup→P[i]?=some x→vs[i]?=some v→kindOf x≠some .local→
  bindC kindOf (P.zip vs) m x=some v
 |[],_,_,_,_,h,_,_=>by simp at h
 |_::_,[],_,_,_,_,h,_=>by simp at h
 |p::P,w::vs,0,m,nd,h1,h2,hk=>by
  simp at h1 h2;subst h1;subst h2
  show bindC kindOf ((p,w)::P.zip vs) m p=_
  unfold bindC
  rw [FO fun v hv=>(bF.mp nd).1 (List.of_mem_zip hv).1,if_neg hk]
  simp
 |p::P,w::vs,i+1,m,nd,h1,h2,hk=>by
  show bindC kindOf ((p,w)::P.zip vs) m x=_
  unfold bindC
  exact FQ (i:=i) (bF.mp nd).2 (by simpa using h1) (by simpa using h2) hk
def start (N:List Str) (vs:List V):St:=vs.map some++List.replicate (N.length - vs.length) none
def Mh (CX:Qc) (P:Program) (w:World) (K:ab) (mg:Str→Option Value) (base:Heap) (N:List Str) (qual:Str) (scope:Scope) (f:Addr) (cd:Value) (A:Around) (outer:List Env) (s:Shared) (H:Hp) (E:XK):Cx where
 prog:=P
 w:=w
 K:=K
 mg:=mg
 base:=base
 A:=A.deeper (envOfC qual scope s.heap.objs.size f cd)
 N:=N
 FF:=s
 Yl:=H
 env:=envOfC qual scope s.heap.objs.size f cd
 outer:=outer
 stack:=envOfC qual scope s.heap.objs.size f cd::outer
 ex:=[]
 calm:=true
 fn:=λ_=>true
 pn:=[]
 xe:=λe s'=>wpAny (model P w) (A.deeper (envOfC qual scope s.heap.objs.size f cd)) (leaving (envOfC qual scope s.heap.objs.size f cd) e) (λ_ s''=>CX outer H s E e s'') (λe' s''=>CX outer H s E e' s'') s'
theorem JL {sc:Scope}{n:Nat}{x:Str}(h:sc.names.lookup x=some .cell):∃c,(cellsFrom n sc.names []).lookup x=some c:=by
 have q:=PySem.W.cellsFrom_some sc.names n [] (.inl h)
 exact Option.isSome_iff_exists.mp q
theorem OP {CX:Qc}{P:Program}{w:World}{K:ab}{mg:Str→Option Value}{base:Heap}{N ps:List Str}{qual:Str}{scope:Scope}{f:Addr}{cd:Value}{A:Around}{outer:List Env}{s s1:Shared}{H:Hp}{E:XK}{us:List Value}{vs:List V}
  (S:gf N ps scope) (hd:A.handled=none) (e0:Mf P w K mg base A outer s H) (hl:vs.length=ps.length) (r:Vals vs us)
  (x:InCallC s s.heap.objs.size (bindL (envOfC qual scope s.heap.objs.size f cd).kindOf (ps.zip us) fun _=>none) (cellsFrom (s.heap.objs.size+1) scope.names []) (bindC (envOfC qual scope s.heap.objs.size f cd).kindOf (ps.zip us) fun _=>none) s1) :
  Inv (Mh CX P w K mg base N qual scope f cd A outer s H E) [] (start N vs) H s1:=by
 have zN:ps.length≤N.length:=by have:=congrArg fJ S.pre;rw [bp] at this;omega
 obtain ⟨h1,tk,rfl,hk⟩:=x.done
 have XY:∀b:Addr,b∉(Mh CX P w K mg base N qual scope f cd A outer s H E).ex:=λb z=>absurd (show b∈([]:List Addr) from z) (by simp)
 refine ⟨⟨e0.mod,S.kind,rfl,rfl,ai _,λy z c h1 h2=>?_,λy hy=>?_,λy c _ h=>?_,λ_=>hd,Around.frames_deeper e0.frames,.inr ⟨rfl,rfl⟩,λb z=>absurd z (XY b),e0.bs,e0.Tg,λb _ _=>XY b,λb z=>absurd z (XY b),e0.zL,e0.VG⟩,
  rfl,e0.bare,Un.kept hk,⟨_,x.toInCall.ns,λi y v h1 h2 h3=>?_⟩,λy c h=>⟨_,x.cell y c h⟩,e0.iR.fresh (ai _),λy c h=>?_,λp hp=>absurd (show p∈([]:List (Addr×Obj)) from hp) (by simp),e0.iR.kept hk,?_⟩
 ·exact name_of_addr x.apart (bf h1) (bf h2)
 ·have hy:scope.names.lookup y=some .cell∨scope.names.lookup y=some .free:=hy
  rcases hy with hy|hy
  ·exact JL hy
  ·exact absurd rfl (S.VU _ (bf hy))
 ·exact Nat.le_of_lt (x.above y c (bf h))
 ·have hi:i<vs.length:=by
   unfold start at h2
   by_cases hi:i<vs.length
   ·exact hi
   ·rw [bQ (by simpa using hi)] at h2
    rw [List.getElem?_replicate] at h2
    split at h2<;>cases h2
  have ha:vs[i]?=some v:=by
   unfold start at h2
   rw [cH (by simpa using hi),ah] at h2
   cases e:vs[i]? with
   |none=>rw [e] at h2;cases h2
   |some a=>rw [e] at h2;cases h2;rfl
  obtain ⟨u,hu,rv⟩:=r.get ha
  have hp:ps[i]?=some y:=by
   rw [←S.pre,List.getElem?_take_of_lt (by omega)];exact h1
  have ndP:ps.Nodup:=by rw [←S.pre];exact S.nd.sublist (dI _ _)
  refine ⟨u,rv,?_⟩
  rcases S.par y (ax hp) with k|k
  ·exact .inl ⟨k,FP ndP hp hu k⟩
  ·obtain ⟨c,e⟩:=JL (n:=s.heap.objs.size+1) k
   refine .inr ⟨.inl k,c,e,?_⟩
   have q:=x.cell y c e
   rw [FQ ndP hp hu (by show scope.names.lookup y≠_;rw [k];decide)] at q
   exact q
 ·exact e0.iR.fresh (Nat.le_of_lt (x.above y c (bf h)))
 ·unfold start
  show _=N.length
  rw [ay,aa,List.length_replicate]
  omega
theorem YA {CX:Qc}{P:Program}{w:World}{K:ab}{mg:Str→Option Value}{base:Heap}{k:Nat}{f:Addr}{name qual:Str}{params:Arguments}{body:List Stmt}{scope:Scope}{dV kV doc pm si ct oc:Value}{an od:Option Addr}
  {Mi:Array (Option Value)}{N ps:List Str}{sp:Sp}(lk:K.lookup f=some ⟨oc,od,.func (cK name qual params body scope dV kV doc pm an si ct),Mi⟩) (S5:dQ K si qual=true) (S:gf N ps scope)
  (len:∀vs H Q E,sp vs H Q E→vs.length=ps.length)
  (QA:∀(A:Around) (outer:List Env) (s:Shared) (H:Hp) (vs:List V) (Q:VK) (E:XK),lV k (A.deeper (envOfC qual scope s.heap.objs.size f si))→sp vs H Q E→
   ∃t,NC (Mh CX P w K mg base N qual scope f si A outer s H E) body t∧t { nx:=λ_ H'=>Q .mH H',rt:=Q } (start N vs) H) :
  uv P w K mg base CX (k+1) f (cK name qual params body scope dV kV doc pm an si ct) ps sp:=by
 refine ⟨len,λA outer s H args us vs Q E hr e0 hb r Qe=>?_⟩
 have hl:=len _ _ _ _ Qe
 have KX:K.In s.heap:=e0.mod.kin.keeps fun b o e=>(e0.bs b o e).1
 have lim:s.heap.NoLimit:=e0.mod.nolimit.keeps fun b o e=>(e0.bs b o e).1
 have YB:∀y∈ps.zip us,scope.names.lookup y.1=some .local∨(scope.names.lookup y.1=some .cell∧((cellsFrom (s.heap.objs.size+1) scope.names []).lookup y.1).isSome=true):=λ⟨n,v⟩ hy=>by
  rcases S.par n (List.of_mem_zip hy).1 with q|q
  ·exact .inl q
  ·exact .inr ⟨q,PySem.W.cellsFrom_some _ _ _ (.inl q)⟩
 refine codeAny_call_function hr.depth (KX _ _ lk) rfl S.co S.gen rfl (PySem.W.codeRec_of KX S5) (hb _ _ _ _ ?_)
 refine wpAny_newFunctionEnv_cells S.kind YB fun env he s1 x=>?_
 subst he
 refine ⟨lim.keeps x.toInCall.keep,codeAny_func ?_⟩
 obtain ⟨t,ht,hq⟩:=QA A outer s H vs Q E (hr.deeper _) Qe
 have I:Inv (Mh CX P w K mg base N qual scope f si A outer s H E) [] (start N vs) H s1:=OP S hr.hd e0 hl r x
 refine wpAny_mono (ht [] s1 (start N vs) H _ I hq) (λfl s' hs=>?_) fun e s' hs=>hs
 have fin:∀{σ':St} {H':Hp} {v:V} {u:Value},Inv (Mh CX P w K mg base N qual scope f si A outer s H E) [] σ' H' s'→RelV v u→Q v H'→CE outer P w H s Q u s':=
  λ{σ' H' v u} J rv q=>⟨v,H',J.os,J.bare,J.base,J.iR,rv,q⟩
 cases fl with
 |ret u=>
  obtain ⟨v,σ',H',J,rv,q⟩:=hs
  exact fin J rv q
 |next=>
  obtain ⟨σ',H',J,q⟩:=hs
  exact fin (v:=V.mH) (u:=Value.none) J rfl q
 |brk=>
  obtain ⟨_,_,_,q⟩:=hs
  exact False.elim q
 |cont=>
  obtain ⟨_,_,_,q⟩:=hs
  exact False.elim q
end L2
namespace L2
open PySem PySem.Spec PyProof.Rows
section
variable {X:Cx}{x:Str}{p pos:Pos}{e:Expr}{es:List Expr}{t:TA}{id T:String}{r:List V→Hp→VK→Prop}
def vC (r:List V→Hp→VK→Prop) (t:TA):TE:=fun σ H Q=>t σ H fun vs H1=>r vs H1 Q
theorem gp (hc:qB X (.builtin id) r) (hg:Gl X x) (hm:X.mg x=none) (hv:bootBuiltins x=some (.builtin id)) (ha:PA X (e::es) t) (hn:x≠"__name__":=by decide) (Mg:(x==("__debug__":Str))=false:=by decide)
  (he:starEach (e::es) X.env=(false,eval e X.env)::starEach es X.env:=by rfl) (zN:(backTo pos (starEach es X.env)).any (·.1)=false:=by rfl):PE X (.Call (.Name x p) (e::es) [] pos) (vC r t):=by
 intro pins s σ H Q I h
 refine wpAny_Call_Name_kw (AW I hg hm hv ?_ hn Mg)
 exact PyProof.Rows.callWith_builtin1 (kj (ha pos pins s σ H _ I h) fun us s1 ⟨vs,H1,I1,r1,q1⟩=>hc pins s1 σ H1 vs us Q I1 r1 q1) he zN
theorem yA (hc:qB X (.type T) r) (hg:Gl X x) (hm:X.mg x=none) (hv:bootBuiltins x=some (.type T)) (ha:PA X (e::es) t) (hn:x≠"__name__":=by decide) (Mg:(x==("__debug__":Str))=false:=by decide)
  (he:starEach (e::es) X.env=(false,eval e X.env)::starEach es X.env:=by rfl) (zN:(backTo pos (starEach es X.env)).any (·.1)=false:=by rfl):PE X (.Call (.Name x p) (e::es) [] pos) (vC r t):=by
 intro pins s σ H Q I h
 refine wpAny_Call_Name_kw (AW I hg hm hv ?_ hn Mg)
 exact PyProof.Rows.callWith_type1 (kj (ha pos pins s σ H _ I h) fun us s1 ⟨vs,H1,I1,r1,q1⟩=>hc pins s1 σ H1 vs us Q I1 r1 q1) he zN
end
end L2
namespace HT
open PySem PyProof.Rows
section
open PySem.SeqAt
open PySem.AutoSeq1 (wpAny_loadPart')
open PySem.MeetsSeq PySem.MeetsSeq2 PySem.MeetsSeq3
end
section
variable {prog:Program}{w:World}{A:Around}{E:Value→Shared→Prop}{s:Shared}
def Jx (n d:Nat):Option Int→Nat
 |none=>d
 |some v=>if v<0 then (v+(n:Int)).toNat else min v.toNat n
theorem JM (n d:Nat):Jx n d none=d:=rfl
theorem ub (n d k:Nat):Jx n d (some (k:Int))=min k n:=by
 show (if (k:Int)<0 then ((k:Int)+(n:Int)).toNat else min (k:Int).toNat n)=min k n
 rw [if_neg (by omega),fw]
end
end HT
namespace L2
open PySem PySem.Spec PyProof.Rows
abbrev TO:=St→Hp→(Option Int→Hp→Prop)→Prop
def PO (X:Cx) (e:Option Expr) (t:TO):Prop:=
 ∀(pins:List (Addr×Obj)) (s:Shared) (σ:St) (H:Hp) (Q:Option Int→Hp→Prop),Inv X pins σ H s→t σ H Q→
  wpAny (model X.prog X.w) X.A (evalPart e X.env) (λu s'=>∃o H',Inv X pins σ H' s'∧IsPart u o∧Q o H') X.xe s
def Ts:TO:=λ_ H Q=>Q none H
def QB (t:TE):TO:=fun σ H Q=>t σ H fun x H1=>∃i,x=.int i∧Q (some i) H1
section
variable {X:Cx}{e:Expr}{te:TE}{lo hi:Option Expr}{tl th:TO}{pos p2:Pos}
theorem NK:PO X none Ts:=by
 intro pins s σ H Q I h
 rw [evalPart_none]
 exact wpAny_pure ⟨none,H,I,.none,h⟩
theorem uc (h:PE X e te):PO X (some e) (QB te):=by
 intro pins s σ H Q I hw
 rw [evalPart_some]
 refine kj (h pins s σ H _ I hw) fun u s1 ⟨x,H1,I1,r1,q1⟩=>?_
 obtain ⟨i,rfl,q⟩:=q1
 obtain ⟨t,rfl⟩:=r1
 exact ⟨some i,H1,I1,.int i t,q⟩
def SlR (X:Cx) (r:V→Option Int→Option Int→Hp→VK→Prop):Prop:=
 ∀(pins:List (Addr×Obj)) (s:Shared) (σ:St) (H:Hp) (x:V) (v vl vu:Value) (lo hi:Option Int) (sl:Addr) (Q:VK),Inv X pins σ H s→RelV x v→s.heap.IsSliceOf sl vl vu .none→IsPart vl lo→IsPart vu hi→r x lo hi H Q→
  ∃T id,typeLookup (.type T) "__getitem__"=pure (some (.builtin id))∧s.TypeIs v T∧wpAny (model X.prog X.w) X.A (getItem v (.ref sl)) (EP X pins σ Q) X.xe s
def tSl (r:V→Option Int→Option Int→Hp→VK→Prop) (te:TE) (tl th:TO):TE:=fun σ H Q=>te σ H fun x H1=>tl σ H1 fun l H2=>th σ H2 fun u H3=>r x l u H3 Q
theorem wV {r:V→Option Int→Option Int→Hp→VK→Prop}(hr:SlR X r) (he:PE X e te) (hl:PO X lo tl) (hu:PO X hi th):PE X (.Subscript e (.Slice lo hi none p2) pos) (tSl r te tl th):=by
 intro pins s σ H Q I h
 refine Subscript_ (kj (he pins s σ H _ I h) fun v s1 ⟨x,H1,I1,r1,q1⟩=>?_)
 refine wpAny_Slice (kj (hl pins s1 σ H1 _ I1 q1) fun vl s2 ⟨l,H2,I2,pl,q2⟩=>kj (hu pins s2 σ H2 _ I2 q2) fun vu s3 ⟨u,H3,I3,pu,q3⟩=>?_)
 rw [evalPart_none]
 refine wpAny_pure ?_
 have I4:Inv X pins σ H3 { s3 with heap:=s3.heap.push { cls:=.type "slice",data:=.fields #[vl,vu,.none] } }:=I3.kept (t':=s3.toks) fun b ob q=>Heap.get?_push_of_some _ q
 obtain ⟨T,id,hT,ht,hg⟩:=hr pins { s3 with heap:=s3.heap.push { cls:=.type "slice",data:=.fields #[vl,vu,.none] } } σ H3 x v vl vu l u s3.heap.objs.size Q I4 r1 (Heap.IsSliceOf.new ..) pl pu q3
 show wpAny (model X.prog X.w) X.A (subscriptTail e (.Slice lo hi none p2) v (.ref s3.heap.objs.size)) (EP X pins σ Q) X.xe { s3 with heap:=s3.heap.push { cls:=.type "slice",data:=.fields #[vl,vu,.none] } }
 exact tail_any (ops:=[.ref s3.heap.objs.size,v]) ht hT hg (by with_unfolding_all rfl)
def qC (xs:List V) (lo hi:Option Int):List V:=(xs.drop (HT.Jx xs.length 0 lo)).take (HT.Jx xs.length xs.length hi - HT.Jx xs.length 0 lo)
theorem JN (xs:List V) (lo hi:Option Int):(qC xs lo hi).length≤xs.length:=by
 unfold qC
 rw [bp,cW]
 omega
end
end L2
namespace L2
open PySem PySem.Spec PyProof.Rows
def XZ (n:Nat) (i:Int):Option Nat:=if 0≤i then (if i<n then some i.toNat else none) else if -(n:Int)≤i then some (i+n).toNat else none
def VV {α:Type}(xs:List α) (i:Int):Option α:=(XZ xs.length i).bind fun j=>xs[j]?
theorem Tt {n:Nat}{i:Int}{j:Nat}(h:XZ n i=some j):seqIndex? i n=some j∧j<n∧-(n:Int)≤i∧i<n:=by
 unfold XZ at h
 by_cases h0:0≤i
 ·rw [if_pos h0] at h
  by_cases h1:i<n
  ·rw [if_pos h1] at h
   have e:i.toNat=j:=Option.some.inj h
   exact ⟨by rw [seqIndex_of h0 h1,e],by omega,by omega,h1⟩
  ·rw [if_neg h1] at h;cases h
 ·rw [if_neg h0] at h
  by_cases h1:-(n:Int)≤i
  ·rw [if_pos h1] at h
   have e:(i+n).toNat=j:=Option.some.inj h
   exact ⟨by rw [seqIndex_neg (by omega) h1,e],by omega,h1,by omega⟩
  ·rw [if_neg h1] at h;cases h
theorem NL {α:Type}{xs:List α}{i:Int}{v:α}(h:VV xs i=some v):∃j,seqIndex? i xs.length=some j∧xs[j]?=some v∧j<xs.length∧-(xs.length:Int)≤i∧i<xs.length:=by
 unfold VV at h
 cases e:XZ xs.length i with
 |none=>rw [e] at h;cases h
 |some j=>
  rw [e] at h
  obtain ⟨h1,h2,h3,h4⟩:=Tt e
  exact ⟨j,h1,h,h2,h3,h4⟩
theorem kI {α:Type}{xs:List α}{j:Nat}{v:α}(h:xs[j]?=some v):VV xs (j:Int)=some v:=by
 have hj:j<xs.length:=(aO.mp h).1
 have e:XZ xs.length (j:Int)=some j:=by
  unfold XZ
  rw [if_pos (by omega),if_pos (by omega)];simp
 unfold VV;rw [e];exact h
def Tu (b:Expr):Prop:=∀o i,subscripted b false o i=operate [o,i] (getItem o i)
def IxR (X:Cx) (r:R2):Prop:=
 ∀(value slice:Expr) (pins:List (Addr×Obj)) (s:Shared) (σ:St) (H:Hp) (x y:V) (v u:Value) (Q:VK),Inv X pins σ H s→RelV x v→RelV y u→r x y H Q→
  subscripted slice false v u=operate [v,u] (getItem v u)→wpAny (model X.prog X.w) X.A (subscriptTail value slice v u) (EP X pins σ Q) X.xe s
def MtR (X:Cx) (id:String) (r:V→List V→Hp→VK→Prop):Prop:=
 ∀(pins:List (Addr×Obj)) (s:Shared) (σ:St) (H:Hp) (x:V) (xs:List V) (v:Value) (us:List Value) (Q:VK),Inv X pins σ H s→RelV x v→Vals xs us→r x xs H Q→
  wpAny (model X.prog X.w) X.A (call (.builtin id) (v::us)) (EP X pins σ Q) X.xe s
section
variable {X:Cx}{a b:Expr}{ta tb:TE}{pos:Pos}
theorem gP {r:R2}(hr:IxR X r) (ha:PE X a ta) (hb:PE X b tb) (hs:Tu b):PE X (.Subscript a b pos) (km r ta tb):=by
 intro pins s σ H Q I h
 exact Subscript_ (VP ha hb I h fun v u s2 x y H2 I2 rx ry q=>hr a b pins s2 σ H2 x y v u Q I2 rx ry q (hs _ _))
def Mj (K:ab):R2:=λx y H Q=>∃p xs i v,x=.ref p∧y=.int i∧gE K H p xs∧VV xs i=some v∧Q v H
def Ml (K:ab):R2:=λx y H Q=>∃p xs i v,x=.ref p∧y=.int i∧mZ K H p xs∧VV xs i=some v∧Q v H
theorem gv:IxR X (Mj X.K):=by
 intro value slice pins s σ H x y v u Q I rx ry h hs
 obtain ⟨p,xs,i,z,rfl,rfl,hq,he,q⟩:=h
 cases rx
 obtain ⟨t,rfl⟩:=ry
 obtain ⟨hU,r,pl,hz⟩:=I.list hq
 obtain ⟨j,h1,h2,h3,h4,h5⟩:=NL he
 obtain ⟨w,ew,QC⟩:=r.get h2
 have hl:=r.length
 have hn:=L7
 have fin:EP X pins σ Q w s:=⟨z,H,I,QC,q⟩
 by_cases h0:0≤i
 ·have hj:i.toNat=j:=by
   rw [seqIndex_of h0 h5] at h1
   exact Option.some.inj h1
  exact item_listR pl.isList h0 (by omega) (by rw [hj];simpa using ew) fin hs
 ·have hj:(i+(hU.toArray.size:Int)).toNat=j:=by
   rw [seqIndex_neg (by omega) h4] at h1
   rw [aT,←hl]
   exact Option.some.inj h1
  exact subscriptTail_builtinR (x:=w) pl.isList.typeIs slot_list_getitem.lookup
   (wpAny_getItem_list_neg (Q:=λr s'=>r=w∧EP X pins σ Q r s') pl.isList (by omega) (by rw [aT]<;>omega) (by omega) (by rw [hj];simpa using ew) ⟨rfl,fin⟩) hs
theorem pY:IxR X (Ml X.K):=by
 intro value slice pins s σ H x y v u Q I rx ry h hs
 obtain ⟨p,xs,i,z,rfl,rfl,hq,he,q⟩:=h
 cases rx
 obtain ⟨t,rfl⟩:=ry
 obtain ⟨hU,r,pl,hz⟩:=I.tuple hq
 obtain ⟨j,h1,h2,h3,h4,h5⟩:=NL he
 obtain ⟨w,ew,QC⟩:=r.get h2
 have hl:=r.length
 have hn:=L7
 have fin:EP X pins σ Q w s:=⟨z,H,I,QC,q⟩
 exact subscriptTail_builtinR (x:=w) pl.typeIs slot_tuple_getitem.lookup
  (getItem_tuple (j:=j) (Q:=λr s'=>r=w∧EP X pins σ Q r s') pl (by omega) (by omega) (by rw [aT,←hl];exact h1) (by simpa using ew) ⟨rfl,fin⟩) hs
theorem GP (lo hi:Option Int) (n:Nat):(sliceBounds lo hi none n).1=((HT.Jx n 0 lo:Nat):Int)∧(sliceBounds lo hi none n).2.1=((HT.Jx n n hi:Nat):Int)∧(sliceBounds lo hi none n).2.2=1:=by
 refine ⟨?_,?_,rfl⟩
 ·cases lo with
  |none=>simp [sliceBounds,HT.Jx]
  |some i=>
   simp only [sliceBounds,HT.Jx,Option.getD_none,show (1:Int) > 0 by decide,if_true]
   by_cases h:i<0
   ·simp only [h,if_true]<;>omega
   ·simp only [h,if_false]<;>omega
 ·cases hi with
  |none=>simp [sliceBounds,HT.Jx]
  |some i=>
   simp only [sliceBounds,HT.Jx,Option.getD_none,show (1:Int) > 0 by decide,if_true]
   by_cases h:i<0
   ·simp only [h,if_true]<;>omega
   ·simp only [h,if_false]<;>omega
theorem Dr (hU:List Value) (lo hi:Option Int):slicePick hU.toArray lo hi none=((hU.drop (HT.Jx hU.length 0 lo)).take (HT.Jx hU.length hU.length hi - HT.Jx hU.length 0 lo)).toArray:=by
 obtain ⟨h1,h2,h3⟩:=GP lo hi hU.toArray.size
 unfold slicePick
 rw [h1,h2,h3]
 simp only [sliceRange_one,pick_run,aT]<;>rfl
def YC (K:ab):V→Option Int→Option Int→Hp→VK→Prop:=λx lo hi H Q=>∃a xs,x=.ref a∧gE K H a xs∧∀p,H p=none→Q (.ref p) (upd H p (.lst (qC xs lo hi)))
theorem Az:SlR X (YC X.K):=by
 intro pins s σ H x v vl vu lo hi sl Q I rx hs pl pu h
 obtain ⟨a,xs,rfl,hx,q⟩:=h
 cases rx
 obtain ⟨hU,r,ht,hz⟩:=I.list hx
 have hlen:=r.length
 refine ⟨"list",_,slot_list_getitem.lookup,ht.isList.typeIs,?_⟩
 refine wpAny_getItem_list_slice ht.isList hs pl pu .none (by simp) ?_ (by rw [aT]<;>omega)
 rw [Dr,←hlen]
 refine ⟨.ref s.heap.objs.size,_,I.laid (t':=s.toks) (o:=.lst (qC xs lo hi)) (λb ob q=>Heap.get?_push_of_some _ q) (ai _) ?_,rfl,q _ (I.iR.fresh (ai _))⟩
 exact ⟨bh (JN xs lo hi) hz,_,0,(r.drop (HT.Jx xs.length 0 lo)).take (HT.Jx xs.length xs.length hi - HT.Jx xs.length 0 lo),Heap.get?_push_size _ rfl⟩
def uX:V→Bool
 |.mH=>true
 |.bl _=>true
 |.int _=>true
 |.str _=>true
 |_=>false
def Tv:V→V→Bool
 |.mH,.mH=>true
 |.bl a,.bl b=>a==b
 |.bl a,.int b=>(if a then 1 else 0)==b
 |.int a,.bl b=>a==(if b then 1 else 0)
 |.int a,.int b=>a==b
 |.str a,.str b=>a==b
 |_,_=>false
theorem VW {A:Around}{s:Shared}{y x:V}{u v:Value}(ry:RelV y u) (rx:RelV x v) (fy:uX y=true) (fx:uX x=true):SeqAt.EqAt A s u v (Tv y x):=by
 cases y with
 |mH=>
  cases ry
  cases x with
  |mH=>cases rx;exact SeqAt.EqAt.same _
  |bl b=>cases rx;exact SeqAt.EqAt.none_bool b
  |int b=>obtain ⟨t,rfl⟩:=rx;exact SeqAt.EqAt.none_int b t
  |str b=>obtain ⟨t,rfl⟩:=rx;exact SeqAt.EqAt.none_str b t
  |_=>exact absurd (show false=true from fx) aH
 |bl a=>
  cases ry
  cases x with
  |mH=>cases rx;exact SeqAt.EqAt.bool_none a
  |bl b=>cases rx;exact SeqAt.EqAt.bool_bool a b
  |int b=>obtain ⟨t,rfl⟩:=rx;exact SeqAt.EqAt.bool_int a b t
  |str b=>obtain ⟨t,rfl⟩:=rx;exact SeqAt.EqAt.bool_str a b t
  |_=>exact absurd (show false=true from fx) aH
 |int a=>
  obtain ⟨t',rfl⟩:=ry
  cases x with
  |mH=>cases rx;exact SeqAt.EqAt.int_none a t'
  |bl b=>cases rx;exact SeqAt.EqAt.int_bool a t' b
  |int b=>obtain ⟨t,rfl⟩:=rx;exact SeqAt.EqAt.int_int a t' b t
  |str b=>obtain ⟨t,rfl⟩:=rx;exact SeqAt.EqAt.int_str a t' b t
  |_=>exact absurd (show false=true from fx) aH
 |str a=>
  obtain ⟨t',rfl⟩:=ry
  cases x with
  |mH=>cases rx;exact SeqAt.EqAt.str_none a t'
  |bl b=>cases rx;exact SeqAt.EqAt.str_bool a t' b
  |int b=>obtain ⟨t,rfl⟩:=rx;exact SeqAt.EqAt.str_int a t' b t
  |str b=>obtain ⟨t,rfl⟩:=rx;exact SeqAt.EqAt.str_str a t' b t
  |_=>exact absurd (show false=true from fx) aH
 |_=>exact absurd (show false=true from fy) aH
def Mm (x:V) (u:Value):Bool:=match u with
 |.none=>Tv .mH x
 |.bool b=>Tv (.bl b) x
 |.int i _=>Tv (.int i) x
 |.str z _=>Tv (.str z) x
 |_=>false
theorem QD {x y:V}{u:Value}(r:RelV y u) (f:uX y=true):Mm x u=Tv y x:=by
 cases y with
 |mH=>cases r;rfl
 |bl b=>cases r;rfl
 |int i=>obtain ⟨t,rfl⟩:=r;rfl
 |str z=>obtain ⟨t,rfl⟩:=r;rfl
 |_=>exact absurd (show false=true from f) aH
theorem wW {x:V}:∀{xs:List V}{us:List Value},Vals xs us→xs.all uX=true→us.any (Mm x)=xs.any fun y=>Tv y x
 |_,_,.nil,_=>rfl
 |y::xs,u::us,.cons r t,f=>by
  rw [cb,aj] at f
  rw [cT,cT,QD r f.1,wW t f.2]
theorem sR {A:Around}{s:Shared}{x:V}{v:Value}(rx:RelV x v) (fx:uX x=true):∀{xs:List V}{us:List Value},Vals xs us→xs.all uX=true→∀u∈us,SeqAt.EqAt A s u v (Mm x u)
 |_,_,.nil,_=>λu hu=>by cases hu
 |y::xs,u::us,.cons r t,f=>λu' hu=>by
  rw [cb,aj] at f
  rcases aB.mp hu with rfl|hu
  ·rw [QD r f.1];exact VW r rx f.1 fx
  ·exact sR rx fx t f.2 u' hu
def LR (x:V) (xs:List V):Bool:=xs.any fun y=>Tv y x
def X0 (K:ab) (neg:Bool):R2:=λx y H Q=>∃p xs,y=.ref p∧(gE K H p xs∨mZ K H p xs)∧uX x=true∧xs.all uX=true∧Q (.bl (if neg then !LR x xs else LR x xs)) H
theorem qD:Ay X (compareOp .In) (X0 X.K false):=by
 intro pins s σ H x y v u Q I rx ry h
 obtain ⟨p,xs,rfl,hq,fx,fs,q⟩:=h
 cases ry
 rcases hq with hq|hq
 ·obtain ⟨hU,r,pl,hz⟩:=I.list hq
  refine SeqAt.in_listAt (Mm x) pl.isList (λw hw=>sR rx fx r fs w (by simpa using hw)) ⟨.bl _,H,I,rfl,?_⟩
  rw [show hU.toArray.any (Mm x)=hU.any (Mm x) by simp,wW r fs]
  exact q
 ·obtain ⟨hU,r,pl,hz⟩:=I.tuple hq
  refine SeqAt.in_tupleAt (Mm x) pl (λw hw=>sR rx fx r fs w (by simpa using hw)) ⟨.bl _,H,I,rfl,?_⟩
  rw [show hU.toArray.any (Mm x)=hU.any (Mm x) by simp,wW r fs]
  exact q
theorem GQ:Ay X (compareOp .NotIn) (X0 X.K true):=by
 intro pins s σ H x y v u Q I rx ry h
 obtain ⟨p,xs,rfl,hq,fx,fs,q⟩:=h
 cases ry
 rcases hq with hq|hq
 ·obtain ⟨hU,r,pl,hz⟩:=I.list hq
  refine SeqAt.notIn_listAt (Mm x) pl.isList (λw hw=>sR rx fx r fs w (by simpa using hw)) ⟨.bl _,H,I,rfl,?_⟩
  rw [show hU.toArray.any (Mm x)=hU.any (Mm x) by simp,wW r fs]
  exact q
 ·obtain ⟨hU,r,pl,hz⟩:=I.tuple hq
  refine SeqAt.notIn_tupleAt (Mm x) pl (λw hw=>sR rx fx r fs w (by simpa using hw)) ⟨.bl _,H,I,rfl,?_⟩
  rw [show hU.toArray.any (Mm x)=hU.any (Mm x) by simp,wW r fs]
  exact q
theorem gz:qB X (.builtin "len") (λxs H Q=>∃p ys,xs=[.ref p]∧(gE X.K H p ys∨mZ X.K H p ys)∧Q (.int ys.length) H):=by
 intro pins s σ H xs us Q I r h
 obtain ⟨p,ys,rfl,hq,q⟩:=h
 obtain ⟨u,rfl,rx⟩:=vals1 r
 cases rx
 have hn:=L7
 rcases hq with hq|hq
 ·obtain ⟨hU,r',pl,hz⟩:=I.list hq
  have hlen:=r'.length
  exact Calls.call_len_list pl.isList (by simp only [aT]<;>omega) ⟨.int ys.length,H,I.tok _,⟨s.toks+1,by rw [aT,hlen]⟩,q⟩
 ·obtain ⟨hU,r',pl,hz⟩:=I.tuple hq
  have hlen:=r'.length
  exact len_tuple pl (by simp only [aT]<;>omega) ⟨.int ys.length,H,I.tok _,⟨s.toks+1,by rw [aT,hlen]⟩,q⟩
def tyV (K:ab) (T:String) (x:V) (H:Hp):Prop:=match x with
 |.str _=>T="str"
 |.int _=>T="int"
 |.ref p=>(T="list"∧∃xs,gE K H p xs)∨(T="tuple"∧∃o,K.lookup p=some o∧o.cls=.type "tuple"∧o.dict=none)∨
   (T="dict"∧((∃hZ,H p=some (.dK hZ))∨∃hZ,H p=some (.dT hZ)))∨(T="set"∧∃S n,H p=some (.set S n))
 |_=>False
theorem VX {pins:List (Addr×Obj)}{σ:St}{H:Hp}{s:Shared}{T:String}{x:V}{v:Value}(I:Inv X pins σ H s) (r:RelV x v) (ty:tyV X.K T x H) :
  s.TypeIs v T∧∀a,v=.ref a→∃ob,s.heap.get? a=some ob∧ob.dict=none:=by
 cases x with
 |str z=>
  obtain ⟨t,rfl⟩:=r
  cases (show T="str" from ty)
  exact ⟨typeIs_str s z t,λ_ e=>nomatch e⟩
 |int i=>
  obtain ⟨t,rfl⟩:=r
  cases (show T="int" from ty)
  exact ⟨typeIs_int s i t,λ_ e=>nomatch e⟩
 |ref p=>
  cases r
  rcases ty with ⟨rfl,xs,hq⟩|⟨rfl,o,hk,hc,hd⟩|⟨rfl,hk⟩|⟨rfl,S,n,hk⟩
  ·obtain ⟨hU,_,pl,_⟩:=I.list hq
   refine ⟨pl.isList.typeIs,λa e=>?_⟩
   cases e
   obtain ⟨o,n,e,c,hd,_⟩:=pl
   exact ⟨o,e,hd⟩
  ·refine ⟨⟨o,I.LY p o hk,hc⟩,λa e=>?_⟩
   cases e
   exact ⟨o,I.LY _ o hk,hd⟩
  ·have z:∃o,s.heap.get? p=some o∧o.ExactDict:=by
    rcases hk with ⟨hZ,hk⟩|⟨hZ,hk⟩
    ·obtain ⟨_,_,_,_,o,_,_,e,ex,_⟩:=I.iR p _ hk
     exact ⟨o,e,ex⟩
    ·obtain ⟨_,_,_,_,o,_,_,e,ex,_⟩:=I.iR p _ hk
     exact ⟨o,e,ex⟩
   obtain ⟨o,e,ex⟩:=z
   refine ⟨⟨o,e,ex.1⟩,λa e2=>?_⟩
   cases e2
   exact ⟨o,e,ex.2.1⟩
  ·obtain ⟨o,_,_,_,e,ex,_⟩:=I.iR p _ hk
   refine ⟨⟨o,e,ex.1⟩,λa e2=>?_⟩
   cases e2
   exact ⟨o,e,ex.2.1⟩
 |_=>exact False.elim ty
def tBM (K:ab) (T:String) (r:V→List V→Hp→VK→Prop) (to:TE) (t:TA):TE:=fun σ H Q=>to σ H fun x H1=>tyV K T x H1∧t σ H1 fun xs H2=>r x xs H2 Q
variable {o e:Expr}{es:List Expr}{to:TE}{t:TA}{name:Str}{apos yB:Pos}{T id:String}{r:V→List V→Hp→VK→Prop}
theorem oU (pa:PlainAttrs T) (slot:Slot T name id) (hty:typeOf (.builtin id)=pure (.type "method_descriptor")) (hm:MtR X id r) (ho:PE X o to) (ha:PA X (e::es) t)
  (QE:attributeBase o name X.env (eval o X.env)=eval o X.env:=by rfl)
  (VY:((backTo yB (starEach (e::es) X.env)).all (λx=>!x.1)&&(backToKw yB (keywordEach [] X.env)).all (λx=>x.1.isSome)
   &&decide ((e::es).length+([]:List Keyword).length+(if ([]:List Keyword).isEmpty then 0 else 1)<30))=true:=by rfl)
  (QF:(apos.endLine==yB.line)=true:=by rfl) (hs:starEach (e::es) X.env=(false,eval e X.env)::starEach es X.env:=by rfl) (VZ:(backTo yB (starEach es X.env)).any (·.1)=false:=by rfl) :
  PE X (.Call (.Attribute o name apos) (e::es) [] yB) (tBM X.K T r to t):=by
 intro pins s σ H Q I h
 refine wpAny_Call_method_late QE VY QF rfl (kj (ho pins s σ H _ I h) fun v s1 ⟨x,H1,I1,r1,ty,q1⟩=>?_)
 obtain ⟨h1,h2⟩:=VX I1 r1 ty
 refine ⟨T,id,pa,slot,hty,h1,h2,?_⟩
 have hA:=ha yB pins s1 σ H1 _ I1 q1
 rw [hs] at hA ⊢
 refine Calls.callWith_builtin (by show (false||(backTo yB (starEach es X.env)).any (·.1))=false;rw [VZ]<;>rfl) (Calls.evalArgs_plain ?_)
 exact kj hA fun us s2 ⟨vs,H2,I2,r2,q2⟩=>hm pins s2 σ H2 x vs v us Q I2 r1 r2 q2
end
end L2
namespace L2
open PySem PySem.Spec PyProof.Rows
def MtM (X:Cx) (id:String) (r:V→List V→Hp→VK→Prop):Prop:=
 ∀(pins:List (Addr×Obj)) (s:Shared) (σ:St) (H:Hp) (x:V) (xs:List V) (v:Value) (us:List Value) (Q:VK),Inv X pins σ H s→RelV x v→Vals xs us→r x xs H Q→
  wpAny (model X.prog X.w) X.A (call (.builtin id) (v::us)) (EP X pins σ Q) X.xe s
theorem Vals.one:∀{x:V}{us:List Value},Vals [x] us→∃u,us=[u]∧RelV x u
 |_,_,.cons r .nil=>⟨_,rfl,r⟩
section
variable {X:Cx}{pins:List (Addr×Obj)}{σ:St}{H:Hp}{s:Shared}{l b:Addr}{xs ys zs:List V}
theorem Inv.YD {hU its':List Value}{n:Nat}{f:Array Value→Array Value}{t':Nat}(I:Inv X pins σ H s) (hH:H l=some (.lst xs))
  (e:s.heap.get? l=some { cls:=.type "list",data:=.seq hU.toArray n }) (hf:f hU.toArray=its'.toArray) (hv:Vals ys its') (hz:ys.length≤sizeLine) :
  Inv X pins σ (upd H l (.lst ys)) { s with heap:=s.heap.update l (Obj.mapSeq f),toks:=t' }:=by
 have q:=PySem.IsL.update e f
 rw [hf] at q
 refine I.write (x:=l) (e:=l) (by rw [hH];exact trivial) (.inl rfl) (λb' u hb hu=>(Heap.get?_update_other s.heap (Obj.mapSeq f) (Ne.symm hb)).trans hu) ⟨_,q⟩ ?_
 exact ⟨hz,its',_,hv,q⟩
theorem Inv.aan {hU:List Value}{t':Nat}(I:Inv X pins σ H s) (hv:Vals ys hU) (hz:ys.length≤sizeLine) :
  Inv X pins σ (upd H s.heap.objs.size (.lst ys)) { s with heap:=s.heap.push { cls:=.type "list",data:=.seq hU.toArray },toks:=t' }:=
 I.laid (λ_ _ q=>Heap.get?_push_of_some _ q) (ai _) ⟨hz,hU,0,hv,Heap.get?_push_size _ rfl⟩
theorem Inv.fresh (I:Inv X pins σ H s):H s.heap.objs.size=none:=I.iR.fresh (ai _)
theorem Inv.QG (I:Inv X pins σ H s) (hH:H l=some (.lst xs)):xs.length≤sizeLine∧∃(hU:List Value) (n:Nat),Vals xs hU∧xs.length=hU.length∧s.heap.get? l=some { cls:=.type "list",data:=.seq hU.toArray n }:=by
 obtain ⟨z,hU,n,r,e⟩:=I.iR l _ hH
 exact ⟨z,hU,n,r,r.length,e⟩
theorem QH {n:Nat}(h:n≤sizeLine):Builtin.List.listTooLong n=false:=by
 unfold Builtin.List.listTooLong
 exact decide_eq_false (by omega)
end
section
variable {X:Cx}
def GR:V→List V→Hp→VK→Prop:=λx vs H Q=>∃l xs y,x=.ref l∧vs=[y]∧H l=some (.lst xs)∧xs.length<sizeLine∧Q .mH (upd H l (.lst (xs++[y])))
theorem l6:MtM X "list.append" GR:=by
 intro pins s σ H x vs v us Q I rx rv h
 obtain ⟨l,xs,y,rfl,rfl,hH,hz,q⟩:=h
 cases rx
 obtain ⟨u,rfl,ru⟩:=rv.one
 obtain ⟨z,hU,n,r,hl,e⟩:=I.QG hH
 refine call_meets F.slot_list_append ⟨_,e,rfl⟩ F.entry_list_append (F.args_list_append_2 _ _) (PySem.list_append l hU.toArray n u (by rw [aT];omega)) ⟨e,?_⟩
 refine ⟨.mH,_,I.YD (its':=hU++[u]) hH e (by simp) (r.append (.cons ru .nil)) ?_,rfl,q⟩
 rw [ay,ba]
 omega
def NM:V→List V→Hp→VK→Prop:=λx vs H Q=>∃l b xs zs,x=.ref l∧vs=[.ref b]∧H l=some (.lst xs)∧H b=some (.lst zs)∧xs.length+zs.length≤sizeLine∧Q .mH (upd H l (.lst (xs++zs)))
theorem mM:MtM X "list.extend" NM:=by
 intro pins s σ H x vs v us Q I rx rv h
 obtain ⟨l,b,xs,zs,rfl,rfl,hH,hB,hz,q⟩:=h
 cases rx
 obtain ⟨u,rfl,ru⟩:=rv.one
 cases ru
 obtain ⟨z,hU,n,r,hl,e⟩:=I.QG hH
 obtain ⟨z2,sS,n2,r2,V0,e2⟩:=I.QG hB
 have hsz:hU.toArray.size+sS.toArray.size≤sizeLine:=by rw [aT,aT];omega
 have YE:¬(!hU.toArray.isEmpty&&Builtin.List.listTooLong (hU.toArray.size+sS.toArray.size))=true:=by
  rw [QH hsz,eC]
  exact aH
 refine call_meets F.slot_list_extend ⟨_,e,rfl⟩ F.entry_list_extend (F.args_list_extend_2 _ _)
  (AutoSeq1.list_extend_list_list_0 l hU.toArray n b sS.toArray n2 YE (by rw [aT];omega) (by omega)) ⟨e,e2,?_⟩
 refine ⟨.mH,_,I.YD (its':=hU++sS) hH e (by simp) (r.append r2) ?_,rfl,q⟩
 rw [ay]
 omega
def V1:R2:=λx y H Q=>∃l b xs zs,x=.ref l∧y=.ref b∧H l=some (.lst xs)∧H b=some (.lst zs)∧xs.length+zs.length≤sizeLine∧∀p,H p=none→Q (.ref p) (upd H p (.lst (xs++zs)))
theorem QI:Ay X (binaryOp .Add) V1:=by
 intro pins s σ H x y v u Q I rx ry h
 obtain ⟨l,b,xs,zs,rfl,rfl,hH,hB,hz,q⟩:=h
 cases rx
 cases ry
 obtain ⟨z,hU,n,r,hl,e⟩:=I.QG hH
 obtain ⟨z2,sS,n2,r2,V0,e2⟩:=I.QG hB
 refine PySem.P.add_list e e2 ?_ (by rw [aT,aT];omega)
 have ea:hU.toArray++sS.toArray=(hU++sS).toArray:=by simp
 rw [ea]
 exact ⟨.ref _,_,I.aan (t':=s.toks) (r.append r2) (by rw [ay];omega),rfl,q _ I.fresh⟩
end
section
variable {prog:Program}{w:World}{A:Around}{E:Value→Shared→Prop}{s:Shared}
set_option maxRecDepth 100000 in
end
end L2
namespace L2
open PySem PySem.Spec PyProof.Rows
theorem Vals.ints:∀{ns:List Int}{us:List Value},Vals (ns.map V.int) us→IntsAre us ns
 |[],us,h=>by
  rw [List.map_nil] at h
  cases h
  exact IntsAre.nil
 |n::ns,us,h=>by
  rw [aG] at h
  cases h with
  |cons r t=>
   obtain ⟨k,rfl⟩:=r
   exact IntsAre.cons n k (Vals.ints t)
theorem Vals.bls:∀{bs:List Bool}{us:List Value},Vals (bs.map V.bl) us→us=bs.map Value.bool
 |[],us,h=>by
  rw [List.map_nil] at h
  cases h
  rfl
 |b::bs,us,h=>by
  rw [aG] at h
  cases h with
  |cons r t=>
   cases r
   rw [Vals.bls t,aG]
theorem Vals.V2 {a:Addr}{us:List Value}(r:Vals [V.ref a] us):us=[Value.ref a]:=by
 cases r with
 |cons r t=>
  cases t
  cases r
  rfl
section
variable {prog:Program}{w:World}{A:Around}{E:Value→Shared→Prop}{s:Shared}{l:Addr}{hU:List Value}{ns:List Int}{Q:Value→Shared→Prop}
theorem Tw (hh:A.handled=none) (hl:s.heap.IsList l hU.toArray) (hi:IntsAre hU ns)
  (h:∀h' tk t',(∀b o,s.heap.get? b=some o→h'.get? b=some o)→Q (.int ns.sum t') { s with heap:=h',toks:=tk }):wpAny (model prog w) A (call (.builtin "sum") [.ref l]) Q E s:=by
 obtain ⟨xs,e⟩:=hi.allInts.items
 have hn:numsOf (intItems xs).toList=ns:=by rw [←e];exact hi.numsOf
 rw [nums_intItems] at hn
 rw [e] at hl
 refine PySem.sum_intListG hh hl fun h' tk t' hk=>?_
 have:=h h' tk t' hk
 rw [preSum_eq,eD (by simp),hn];exact this
end
section
variable {X:Cx}
def OQ (K:ab):List V→Hp→VK→Prop:=λvs H Q=>∃(a:Addr) (ns:List Int),vs=[V.ref a]∧gE K H a (ns.map V.int)∧Q (.int ns.sum) H
theorem pZ (hc:X.calm=true):qB X (.builtin "sum") (OQ X.K):=by
 intro pins s σ H vs us Q I r h
 obtain ⟨a,ns,rfl,hs,q⟩:=h
 obtain ⟨hU,rv,hl,_⟩:=I.list hs
 rw [Vals.V2 r]
 exact Tw (I.ok.hd hc) hl.isList rv.ints fun h' tk t' hk=>⟨.int _,H,I.kept hk,⟨_,rfl⟩,q⟩
end
theorem JO {prog:Program}{w:World}{A:Around}{E:Value→Shared→Prop}{s:Shared}{l:Addr}{items:Array Value}{Q:Value→Shared→Prop}(hl:s.heap.IsList l items)
  (h:∀s₂:Shared,s₂={ s with heap:=s.heap.push { cls:=.type "list_iterator",data:=.fields #[.ref l,.int 0 0] } }→
   (s₂.heap.IsListIter s.heap.objs.size l 0∧s₂.heap.IsList l items)→l≠s.heap.objs.size→Q (.ref s.heap.objs.size) s₂):wpAny (model prog w) A (pyIter (.ref l)) Q E s:=by
 have yr:l<s.heap.objs.size:=by obtain ⟨_,e,_⟩:=hl;exact Heap.lt_size e
 exact wpAny_pyIter_list hl (h _ rfl ⟨⟨_,Heap.get?_push_size _ rfl,rfl,rfl⟩,hl.push _⟩ (aS yr))
theorem zw {prog:Program}{w:World}{A:Around}{bs:List Bool}{hU:List Value}(e:hU=bs.map Value.bool) :
  TruthOf prog w A (λi v=>hU.toArray[i]?=some v) (λi=>bs.getD i false):=λi v s Q E hv hq=>by
 have hv':hU[i]?=some v:=by simpa using hv
 rw [e,ah] at hv'
 obtain ⟨b,hb,rfl⟩:=Option.map_eq_some_iff.mp hv'
 have hg:bs.getD i false=b:=by rw [aU,hb]<;>rfl
 have Vd:Q (bs.getD i false) s:=hq
 rw [hg] at Vd
 exact wpAny_truthy_bool Vd
theorem any_range:∀bs:List Bool,(aQ bs.length).any (λi=>bs.getD i false)=bs.any id
 |[]=>rfl
 |b::bs=>by
  rw [aw,List.range_succ_eq_map,cT,fe,cT,←any_range bs]
  all_goals rfl
theorem all_range:∀bs:List Bool,(aQ bs.length).all (λi=>bs.getD i false)=bs.all id
 |[]=>rfl
 |b::bs=>by
  rw [aw,List.range_succ_eq_map,cb,eE,cb,←all_range bs]
  all_goals rfl
section
variable {X:Cx}
def YF (K:ab):List V→Hp→VK→Prop:=λvs H Q=>∃(a:Addr) (bs:List Bool),vs=[V.ref a]∧gE K H a (bs.map V.bl)∧Q (.bl (bs.any id)) H
def JP (K:ab):List V→Hp→VK→Prop:=λvs H Q=>∃(a:Addr) (bs:List Bool),vs=[V.ref a]∧gE K H a (bs.map V.bl)∧Q (.bl (bs.all id)) H
theorem V3 (hc:X.calm=true):qB X (.builtin "any") (YF X.K):=by
 intro pins s σ H vs us Q I r h
 obtain ⟨a,bs,rfl,hs,q⟩:=h
 obtain ⟨hU,rv,hl,_⟩:=I.list hs
 rw [Vals.V2 r]
 have hb:=rv.bls
 refine call_any_walk (JO hl.isList fun s₂ e2 st GS=>?_)
 subst e2
 refine ⟨_,_,_,_,_,_,_,rfl,Walks.list (A:=X.A.in1) (I.ok.hd hc) _ a GS hU.toArray,st,zw hb,λh' tk hk=>?_⟩
 refine ⟨.bl _,H,I.kept fun b o eo=>hk b o (λMn=>?_) (Heap.get?_push_of_some _ eo),?_,q⟩
 ·rcases aB.mp Mn with e1|Mn
  ·exact absurd (e1▸Heap.lt_size eo) (cu _)
  ·cases Mn
 ·show Value.bool _=Value.bool _
  rw [←any_range,hb,aT,aa]
theorem qX (hc:X.calm=true):qB X (.builtin "all") (JP X.K):=by
 intro pins s σ H vs us Q I r h
 obtain ⟨a,bs,rfl,hs,q⟩:=h
 obtain ⟨hU,rv,hl,_⟩:=I.list hs
 rw [Vals.V2 r]
 have hb:=rv.bls
 refine call_all_walk (JO hl.isList fun s₂ e2 st GS=>?_)
 subst e2
 refine ⟨_,_,_,_,_,_,_,rfl,Walks.list (A:=X.A.in1) (I.ok.hd hc) _ a GS hU.toArray,st,zw hb,λh' tk hk=>?_⟩
 refine ⟨.bl _,H,I.kept fun b o eo=>hk b o (λMn=>?_) (Heap.get?_push_of_some _ eo),?_,q⟩
 ·rcases aB.mp Mn with e1|Mn
  ·exact absurd (e1▸Heap.lt_size eo) (cu _)
  ·cases Mn
 ·show Value.bool _=Value.bool _
  rw [←all_range,hb,aT,aa]
end
mutual
inductive Dp (K:ab) (H:Hp):V→PyData→Prop
 |mH:Dp K H .mH .none
 |bl (b:Bool):Dp K H (.bl b) (.bool b)
 |int (i:Int):Dp K H (.int i) (.int i)
 |str (x:Str):Dp K H (.str x) (.str x)
 |lst {a:Addr} {xs:List V} {ds:List PyData}:gE K H a xs→FR K H xs ds→Dp K H (.ref a) (.list ds)
 |tup {a:Addr} {xs:List V} {ds:List PyData}:mZ K H a xs→FR K H xs ds→Dp K H (.ref a) (.tuple ds)
inductive FR (K:ab) (H:Hp):List V→List PyData→Prop
 |nil:FR K H [] []
 |cons {v:V} {vs:List V} {d:PyData} {ds:List PyData}:Dp K H v d→FR K H vs ds→FR K H (v::vs) (d::ds)
end
section
variable {X:Cx}{pins:List (Addr×Obj)}{σ:St}{H:Hp}{s:Shared}
mutual
theorem Dp.reads (I:Inv X pins σ H s):∀(d:PyData) (v:V) (u:Value),Dp X.K H v d→RelV v u→∃as,Reads s.heap u d as
 |.none,_,_,h,r=>by
  cases h
  cases r
  exact ⟨_,Reads.none⟩
 |.bool b,_,_,h,r=>by
  cases h
  cases r
  exact ⟨_,Reads.bool b⟩
 |.int i,_,_,h,r=>by
  cases h
  obtain ⟨t,rfl⟩:=r
  exact ⟨_,Reads.int i t⟩
 |.str x,_,_,h,r=>by
  cases h
  obtain ⟨t,rfl⟩:=r
  exact ⟨_,Reads.str x t⟩
 |.list ds,_,_,h,r=>by
  cases h with
  |lst hs ha=>
   cases r
   obtain ⟨hU,rv,⟨o,n,ho,hc,_,hd⟩,_⟩:=I.list hs
   obtain ⟨as,hr⟩:=Dp.readsAll I ds _ hU ha rv
   exact ⟨_,Reads.list ho hc hd hr⟩
 |.tuple ds,_,_,h,r=>by
  cases h with
  |tup hs ha=>
   cases r
   obtain ⟨hU,rv,⟨o,ho,hc,n,hd⟩,_⟩:=I.tuple hs
   obtain ⟨as,hr⟩:=Dp.readsAll I ds _ hU ha rv
   exact ⟨_,Reads.tuple ho hc hd hr⟩
 |.dict _,_,_,h,_=>by cases h
theorem Dp.readsAll (I:Inv X pins σ H s):∀(ds:List PyData) (vs:List V) (us:List Value),FR X.K H vs ds→Vals vs us→∃as,ReadsAll s.heap us ds as
 |[],_,_,h,r=>by
  cases h
  cases r
  exact ⟨_,ReadsAll.nil⟩
 |d::ds,_,_,h,r=>by
  cases h with
  |cons h1 h2=>
   cases r with
   |cons r1 r2=>
    obtain ⟨as,q1⟩:=Dp.reads I d _ _ h1 r1
    obtain ⟨bs,q2⟩:=Dp.readsAll I ds _ _ h2 r2
    exact ⟨_,ReadsAll.cons q1 q2⟩
end
end
section
variable {X:Cx}
def aao (K:ab):R2:=λx y H Q=>∃d e,Dp K H x d∧Dp K H y e∧SeqAt.shaped d=true∧SeqAt.shaped e=true∧Q (.bl (PyData.eqv d e)) H
def aap (K:ab):R2:=λx y H Q=>∃d e,Dp K H x d∧Dp K H y e∧SeqAt.shaped d=true∧SeqAt.shaped e=true∧Q (.bl (!PyData.eqv d e)) H
theorem QJ (hu:X.A.units+64<cLine):Ay X (compareOp .Eq) (aao X.K):=by
 intro pins s σ H x y v u Q I rx ry h
 obtain ⟨d,e,hd,he,sd,se,q⟩:=h
 obtain ⟨as,r1⟩:=Dp.reads I d x v hd rx
 obtain ⟨bs,r2⟩:=Dp.reads I e y u he ry
 exact SeqAt.compareEq_shaped r1 r2 sd se hu ⟨.bl _,H,I,rfl,q⟩
theorem V4 (hu:X.A.units+64<cLine):Ay X (compareOp .NotEq) (aap X.K):=by
 intro pins s σ H x y v u Q I rx ry h
 obtain ⟨d,e,hd,he,sd,se,q⟩:=h
 obtain ⟨as,r1⟩:=Dp.reads I d x v hd rx
 obtain ⟨bs,r2⟩:=Dp.reads I e y u he ry
 exact SeqAt.compareNe_shaped r1 r2 sd se hu ⟨.bl _,H,I,rfl,q⟩
end
end L2
namespace L2
open PySem PySem.Spec PyProof.Rows
abbrev QK (h:Heap) (c:Addr) (v:Option Value):Prop:=h.IsCell c v
def aaq (scope sc:Scope):Scope:=
 { scope with names:=scope.names.map fun (n,k)=>if (k==.free&&sc.kind==.function&&sc.names.lookup n==some .cell) then (n,.cell) else (n,k) }
def i0 (cells:List (Str×Addr)):List (Str×NameKind)→List (Str×Addr)→List (Str×Addr)
 |[],acc=>acc
 |(n,k)::r,acc=>if k==.free then i0 cells r ((n,(cells.lookup n).getD 0)::acc) else i0 cells r acc
theorem wX (env:Env) (f:Str×NameKind→List (Str×Addr)→Sem (ForInStep (List (Str×Addr))))
  (hf:∀n k c,f (n,k) c=if k==.free then (do let a ←cellOf env n;pure (.yield ((n,a)::c))) else pure (.yield c)) :
  ∀(names:List (Str×NameKind)) (acc:List (Str×Addr)),(∀y∈names,y.2=.free→∃c,env.cells.lookup y.1=some c)→forIn names acc f=pure (i0 env.cells names acc)
 |[],acc,_=>by rw [fk];rfl
 |(n,k)::r,acc,h=>by
  rw [List.forIn_cons,hf]
  have ih:=λacc=>wX env f hf r acc fun y hy=>h y (ag _ hy)
  unfold i0
  by_cases hk:(k==NameKind.free)=true
  ·rw [if_pos hk,if_pos hk]
   obtain ⟨c,hc⟩:=h (n,k) az (by simpa using hk)
   have e:cellOf env n=pure c:=by unfold cellOf;rw [hc]
   rw [e]
   have e2:(env.cells.lookup n).getD 0=c:=by rw [hc];rfl
   rw [e2]
   exact ih _
  ·rw [if_neg hk,if_neg hk]
   exact ih _
theorem Mo {scope:Scope}{env:Env}(h:∀y∈scope.names,y.2=.free→∃c,env.cells.lookup y.1=some c):closureFor scope env=pure (i0 env.cells scope.names []):=by
 simp only [closureFor]
 rw [wX env _ (λn k c=>rfl) scope.names [] h]
 rfl
theorem mem_lookup {α:Type}:∀{l:List (Str×α)}{n:Str}{c:α},(n,c)∈l→∃c',l.lookup n=some c'
 |(k,v)::r,n,c,h=>by
  rw [cX]
  cases hb:n==k with
  |true=>exact ⟨_,rfl⟩
  |false=>
   rcases aB.mp h with e|h
   ·cases e;simp at hb
   ·exact mem_lookup h
theorem pI {cells:List (Str×Addr)}:∀{names:List (Str×NameKind)}{acc:List (Str×Addr)}{n:Str}{c:Addr},(n,c)∈i0 cells names acc→(n,c)∈acc∨((n,.free)∈names∧c=(cells.lookup n).getD 0)
 |[],_,_,_,h=>.inl h
 |(m,k)::r,acc,n,c,h=>by
  unfold i0 at h
  split at h
  ·rename_i hk
   have hk:k=.free:=by simpa using hk
   rcases pI h with h|⟨h1,h2⟩
   ·rcases aB.mp h with e|h
    ·cases e;exact .inr ⟨hk▸az,rfl⟩
    ·exact .inl h
   ·exact .inr ⟨ag _ h1,h2⟩
  ·rcases pI h with h|⟨h1,h2⟩
   ·exact .inl h
   ·exact .inr ⟨ag _ h1,h2⟩
theorem sU {cells:List (Str×Addr)}:∀{names:List (Str×NameKind)}{acc:List (Str×Addr)}{p:Str×Addr},p∈acc→p∈i0 cells names acc
 |[],_,_,h=>h
 |(m,k)::r,acc,p,h=>by
  unfold i0
  split
  ·exact sU (ag _ h)
  ·exact sU h
theorem sV {cells:List (Str×Addr)}:∀{names:List (Str×NameKind)}{acc:List (Str×Addr)}{n:Str},(n,.free)∈names→(n,(cells.lookup n).getD 0)∈i0 cells names acc
 |(m,k)::r,acc,n,h=>by
  unfold i0
  rcases aB.mp h with e|h
  ·cases e
   exact sU az
  ·split
   ·exact sV h
   ·exact sV h
theorem qE:∀{names:List (Str×NameKind)}{h:Heap}{acc:List (Str×Addr)}{x:Str}{c:Addr},(x,c)∈cellsFrom h.objs.size names acc→
  (x,c)∈acc∨((x,.cell)∈names∧h.objs.size≤c∧QK (pushCells h names) c none)
 |[],_,_,_,_,h=>.inl h
 |(n,k)::r,h,acc,x,c,hm=>by
  unfold cellsFrom at hm
  unfold pushCells
  split at hm
  ·rename_i hk
   rw [if_pos hk]
   have hk:k=.cell:=by simpa using hk
   rw [←Heap.size_push h { cls:=.type "cell",data:=.cell none }] at hm
   rcases qE hm with hm|⟨h1,h2,h3⟩
   ·rcases aB.mp hm with e|hm
    ·cases e
     exact .inr ⟨hk▸az,ai _,_,pushCells_keeps r _ _ _ (Heap.get?_push_size _ rfl),rfl⟩
    ·exact .inl hm
   ·rw [Heap.size_push] at h2
    exact .inr ⟨ag _ h1,eF h2,h3⟩
  ·rename_i hk
   rw [if_neg hk]
   rcases qE hm with hm|⟨h1,h2,h3⟩
   ·exact .inl hm
   ·exact .inr ⟨ag _ h1,h2,h3⟩
theorem ud:∀{names:List (Str×NameKind)}{n:Nat}{acc:List (Str×Addr)}{p:Str×Addr},p∈acc→p∈cellsFrom n names acc
 |[],_,_,_,h=>h
 |(m,k)::r,n,acc,p,h=>by
  unfold cellsFrom
  split
  ·exact ud (ag _ h)
  ·exact ud h
theorem yC:∀{names:List (Str×NameKind)}{n:Nat}{acc:List (Str×Addr)}{x:Str},(x,.cell)∈names→∃c,(x,c)∈cellsFrom n names acc
 |(m,k)::r,n,acc,x,h=>by
  unfold cellsFrom
  rcases aB.mp h with e|h
  ·cases e
   exact ⟨n,ud az⟩
  ·split
   ·exact yC h
   ·exact yC h
theorem yD:∀{names:List (Str×NameKind)}{h:Heap}{acc:List (Str×Addr)}{x y:Str}{c:Addr},(∀p∈acc,p.2<h.objs.size)→(∀x y c,(x,c)∈acc→(y,c)∈acc→x=y)→
  (x,c)∈cellsFrom h.objs.size names acc→(y,c)∈cellsFrom h.objs.size names acc→x=y
 |[],_,_,_,_,_,_,hi,h1,h2=>hi _ _ _ h1 h2
 |(n,k)::r,h,acc,x,y,c,hl,hi,h1,h2=>by
  unfold cellsFrom at h1 h2
  split at h1
  ·rename_i hk
   rw [if_pos hk] at h2
   rw [←Heap.size_push h { cls:=.type "cell",data:=.cell none }] at h1 h2
   refine yD (h:=h.push _) (λp hp=>?_) (λx y c a b=>?_) h1 h2
   ·rw [Heap.size_push]
    rcases aB.mp hp with rfl|hp
    ·exact eR _
    ·exact dj (hl p hp)
   ·rcases aB.mp a with e|a<;>rcases aB.mp b with e'|b
    ·cases e;cases e';rfl
    ·cases e;exact absurd (hl _ b) (cu _)
    ·cases e';exact absurd (hl _ a) (cu _)
    ·exact hi _ _ _ a b
  ·rename_i hk
   rw [if_neg hk] at h2
   exact yD hl hi h1 h2
theorem JQ {M:Model}{A:Around}{E:Value→Shared→Prop}{s:Shared}{scope:Scope}{globals:Addr}{closure:List (Str×Addr)}{qual:Str}{func:Option Addr}{code:Value}{around:Env}{builtins:Addr}{Q:Env→Shared→Prop}
  (h:Q (newEnv scope s.heap.objs.size globals (cellsFrom (s.heap.objs.size+1) scope.names closure) qual func code (some around) builtins)
   { s with heap:=pushCells (s.heap.push { cls:=.type "dict",data:=.dict #[] }) scope.names }) :
  wpAny M A (newFunctionEnv scope globals closure [] qual func code (some around) builtins) Q E s:=by
 simp only [newFunctionEnv,Option.isSome_some,if_true]
 refine wpAny_bind (wpAny_alloc ?_)
 refine wpAny_bind (wpAny_layCells _ (λn k c=>rfl) scope.names closure _ _ ?_)
 rw [show ({ s with heap:=s.heap.push { cls:=.type "dict",data:=.dict #[] } }:Shared).heap.objs.size=s.heap.objs.size+1 from Heap.size_push ..]
 rw [fk]
 exact wpAny_bind (wpAny_pure (wpAny_pure h))
theorem sW {sc:Scope}:∀{names:List (Str×NameKind)}{x:Str}{k:NameKind},
  (names.map fun (n,k)=>if (k==NameKind.free&&sc.kind==.function&&sc.names.lookup n==some .cell) then (n,NameKind.cell) else (n,k)).lookup x=some k→
  ∃k',names.lookup x=some k'∧(k=k'∨(k'=.free∧k=.cell))
 |[],_,_,h=>by simp at h
 |(n,k₀)::r,x,k,h=>by
  have ih:=@sW sc r x k
  have h':dP x ((if (k₀==NameKind.free&&sc.kind==.function&&sc.names.lookup n==some .cell)=true then (n,NameKind.cell) else (n,k₀))::(r.map _))=some k:=h
  cases hx:x==n with
  |true=>
   simp only [cX,hx]
   by_cases hc:(k₀==NameKind.free&&sc.kind==.function&&sc.names.lookup n==some .cell)=true
   ·rw [if_pos hc] at h'
    simp only [cX,hx] at h'
    cases h'
    simp only [aj,beq_iff_eq] at hc
    exact ⟨k₀,rfl,.inr ⟨hc.1.1,rfl⟩⟩
   ·rw [if_neg hc] at h'
    simp only [cX,hx] at h'
    cases h'
    exact ⟨_,rfl,.inl rfl⟩
  |false=>
   simp only [cX,hx]
   by_cases hc:(k₀==NameKind.free&&sc.kind==.function&&sc.names.lookup n==some .cell)=true
   ·rw [if_pos hc] at h'
    simp only [cX,hx] at h'
    exact ih h'
   ·rw [if_neg hc] at h'
    simp only [cX,hx] at h'
    exact ih h'
structure JR (N:List Str) (sc scope:Scope) (own:List (Str×Nat)):Prop where
 kind:scope.kind=.function
 uniq:∀y∈scope.names,scope.names.lookup y.1=some y.2
 ix:∀p∈own,N[p.2]?=some p.1
 free:∀y∈scope.names,y.2=.free→sc.names.lookup y.1=some .cell∨sc.names.lookup y.1=some .free
 own:∀y∈scope.names,y.2=.local∨y.2=.cell→y.1∈own.map (·.1)∨y.1∉N
def wipe (σ:St):List Nat→St
 |[]=>σ
 |v::vs=>(wipe σ vs).set v none
theorem l9 (σ:St):∀vs:List Nat,(wipe σ vs).length=σ.length
 |[]=>rfl
 |v::vs=>by unfold wipe;rw [List.length_set,l9 σ vs]
theorem yE {σ:St}{i:Nat}{x:V}:∀{vs:List Nat},(wipe σ vs)[i]?=some (some x)→σ[i]?=some (some x)∧i∉vs
 |[],h=>⟨h,by simp⟩
 |v::vs,h=>by
  unfold wipe at h
  by_cases hi:v=i
  ·subst hi
   by_cases hv:v<(wipe σ vs).length
   ·rw [cv hv] at h;cases h
   ·rw [bc (by simpa using hv)] at h;cases h
  ·rw [eV hi] at h
   obtain ⟨h1,h2⟩:=yE h
   exact ⟨h1,by simp only [aB,not_or];exact ⟨λe=>hi e.symm,h2⟩⟩
abbrev Cx.GU (X:Cx) (s:Shared) (H:Hp) (scope:Scope) (mh:Env) (fp:List Addr):Cx:={ X with FF:=s,Yl:=H,env:=mh,outer:=X.stack,ex:=fp,fn:=λx=>scope.names.lookup x==some .cell,pn:=[],xe:=λ_ _=>False }
section
variable {X:Cx}{pins:List (Addr×Obj)}{σ:St}{H:Hp}{s:Shared}
theorem JS {scope:Scope}{own:List (Str×Nat)}{fp:List Addr}(I:Inv X pins σ H s) (ok:JR X.N X.env.scope scope own) (hN:X.N.Nodup) (X1:∀b∈fp,zM X pins H b∧b<s.heap.objs.size) :
  Inv (X.GU s H scope (compEnvC scope (cellsFrom (s.heap.objs.size+1) scope.names (i0 X.env.cells scope.names [])) s.heap.objs.size X.env) fp) [] (wipe σ (own.map (·.2))) H { s with heap:=pushCells (s.heap.push { cls:=.type "dict",data:=.dict #[] }) scope.names }:=by
 have FI:∀y∈scope.names,y.2=.free→∃c,X.env.cells.lookup y.1=some c:=λy hy e=>by
  rcases ok.free y hy e with k|k
  ·exact I.ok.has _ (.inl k)
  ·exact I.ok.has _ (.inr k)
 generalize JT:compEnvC scope (cellsFrom (s.heap.objs.size+1) scope.names (i0 X.env.cells scope.names [])) s.heap.objs.size X.env=mh
 have kp:∀b o,s.heap.get? b=some o→(pushCells (s.heap.push { cls:=.type "dict",data:=.dict #[] }) scope.names).get? b=some o:=λb o e=>pushCells_keeps _ _ _ _ (Heap.get?_push_of_some _ e)
 have hL:mh.locals=s.heap.objs.size:=by rw [←JT];rfl
 have FT:mh.cells=cellsFrom (s.heap.objs.size+1) scope.names (i0 X.env.cells scope.names []):=by rw [←JT];rfl
 have hsc:mh.scope=aaq scope X.env.scope:=by rw [←JT];rfl
 rw [←Heap.size_push s.heap { cls:=.type "dict",data:=.dict #[] }] at FT
 have cm:∀{y c},(y,c)∈i0 X.env.cells scope.names []→X.env.cells.lookup y=some c∧c<s.heap.objs.size:=λ{y c} hm=>by
  rcases pI hm with hm|⟨h1,rfl⟩
  ·cases hm
  ·obtain ⟨c,hc⟩:=FI _ h1 rfl
   rw [hc]
   obtain ⟨w,z⟩:=I.cell _ _ hc
   exact ⟨rfl,z.lt⟩
 have mem:∀{y c},mh.cells.lookup y=some c→(X.env.cells.lookup y=some c∧c<s.heap.objs.size)∨(s.heap.objs.size+1≤c∧QK (pushCells (s.heap.push { cls:=.type "dict",data:=.dict #[] }) scope.names) c none):=λ{y c} e=>by
  rw [FT] at e
  rcases qE (bf e) with hm|⟨_,h2,h3⟩
  ·exact .inl (cm hm)
  ·rw [Heap.size_push] at h2;exact .inr ⟨h2,h3⟩
 have look:∀{y},scope.names.lookup y=some .free→∃c,mh.cells.lookup y=some c∧X.env.cells.lookup y=some c:=λ{y} hl=>by
  have hy:(y,NameKind.free)∈scope.names:=bf hl
  obtain ⟨c',e'⟩:=mem_lookup (ud (names:=scope.names) (n:=(s.heap.push { cls:=.type "dict",data:=.dict #[] }).objs.size) (sV (cells:=X.env.cells) (acc:=[]) hy))
  rw [←FT] at e'
  refine ⟨c',e',?_⟩
  rw [FT] at e'
  rcases qE (bf e') with hm|⟨h1,_,_⟩
  ·exact (cm hm).1
  ·have:=ok.uniq _ h1
   rw [hl] at this;cases this
 have okB:(X.GU s H scope mh fp).Ok:=by
  refine ⟨I.ok.mod,by show mh.scope.kind=_;rw [hsc];exact ok.kind,by show mh.globals=_;rw [←JT];exact I.ok.glob,by show mh.builtins=_;rw [←JT];exact I.ok.blt,by show s.heap.objs.size≤mh.locals;rw [hL];exact ai _,
   λy z c e1 e2=>?_,λy hy=>?_,λy c z e=>?_,I.ok.hd,I.ok.frames,.inl rfl,λb hb=>⟨?_,λy c e z=>?_⟩,I.bs,bh I.ok.Tg I.sz,λb o e hb=>?_,λb hb z=>?_,I.stack,I.NA⟩
  ·have e1:mh.cells.lookup y=some c:=e1
   have e2:mh.cells.lookup z=some c:=e2
   rw [FT] at e1 e2
   refine yD (λp hp=>?_) (λy z c a b=>I.ok.inj y z c (cm a).1 (cm b).1) (bf e1) (bf e2)
   rw [Heap.size_push]
   exact dj (cm (y:=p.1) (c:=p.2) hp).2
  ·show ∃c,mh.cells.lookup y=some c
   have key:∀k,mh.kindOf y=some k→(k=.cell∨k=.free)→∃c,mh.cells.lookup y=some c:=λk hk QL=>by
    unfold Env.kindOf at hk
    rw [hsc] at hk
    obtain ⟨k',e,r⟩:=sW hk
    have:k'=.cell∨k'=.free:=by
     rcases r with rfl|⟨rfl,_⟩
     ·exact QL
     ·exact .inr rfl
    rcases this with rfl|rfl
    ·obtain ⟨c,hm⟩:=yC (n:=(s.heap.push { cls:=.type "dict",data:=.dict #[] }).objs.size) (acc:=i0 X.env.cells scope.names []) (bf e)
     obtain ⟨c',e'⟩:=mem_lookup hm
     exact ⟨c',by rw [FT];exact e'⟩
    ·obtain ⟨c,h1,_⟩:=look e
     exact ⟨c,h1⟩
   rcases hy with hy|hy
   ·exact key _ hy (.inl rfl)
   ·exact key _ hy (.inr rfl)
  ·have z:(scope.names.lookup y==some NameKind.cell)=true:=z
   have z:scope.names.lookup y=some .cell:=by simpa using z
   have e:mh.cells.lookup y=some c:=e
   rw [FT] at e
   rcases qE (bf e) with hm|⟨_,h2,_⟩
   ·rcases pI hm with hm|⟨h1,_⟩
    ·cases hm
    ·have q:=ok.uniq _ h1
     rw [z] at q;cases q
   ·rw [Heap.size_push] at h2
    exact eF h2
  ·show b≠mh.locals
   rw [hL];exact aS (X1 b hb).2
  ·have e:mh.cells.lookup y=some c:=e
   rcases mem e with ⟨h1,_⟩|⟨h1,_⟩
   ·exact (X1 b hb).1.2.2.2.2.1 y c h1 z
   ·have h2:s.heap.objs.size+1≤b:=by rw [←z];exact h1
    exact absurd (aZ (X1 b hb).2 (eF h2)) (cu _)
  ·rcases (X1 b hb).1.2.2.2.1 with z|z
   ·exact I.ok.Qn b o e z
   ·exact absurd (aZ (Heap.lt_size e) (bh I.ok.Tg z)) (cu _)
  ·rcases aB.mp (I.LZ b z) with z|z
   ·exact (X1 b hb).1.2.1 z
   ·exact (X1 b hb).1.2.2.1 z
 refine ⟨okB,rfl,I.bare,Un.kept kp,⟨λ_=>none,?_,λi y av e1 e2 e3=>?_⟩,λy c e=>?_,?_,λy c e=>?_,λp hp=>?_,I.iR.kept kp,by rw [l9];exact I.len⟩
 ·show Heap.Ns _ mh.locals _
  rw [hL]
  exact Heap.Ns.keeps (Heap.Ns.new ..) fun b o e=>pushCells_keeps _ _ _ _ e
 ·obtain ⟨e2,GS⟩:=yE e2
  have V5:scope.names.lookup y=some .free∧(mh.kindOf y=some .cell∨mh.kindOf y=some .free):=by
   have key:∀k,mh.scope.names.lookup y=some k→k=.local∨k=.cell∨k=.free→scope.names.lookup y=some .free∧(mh.kindOf y=some .cell∨mh.kindOf y=some .free):=λk hk QL=>by
    have hk0:=hk
    rw [hsc] at hk
    obtain ⟨k',e,r⟩:=sW hk
    have no:¬(k'=.local∨k'=.cell):=λhh=>by
     rcases ok.own _ (bf e) hh with e'|e'
     ·obtain ⟨p,hp,hpy⟩:=bB.mp e'
      have e3:=ok.ix p hp
      have:p.1=y:=hpy
      rw [this] at e3
      exact GS (bB.mpr ⟨p,hp,AV hN e3 e1⟩)
     ·exact e' (ax e1)
    rcases r with rfl|⟨rfl,rfl⟩
    ·rcases QL with rfl|rfl|rfl
     ·exact absurd (.inl rfl) no
     ·exact absurd (.inr rfl) no
     ·exact ⟨e,.inr hk0⟩
    ·exact ⟨e,.inl hk0⟩
   have e3:Ym mh.scope y:=e3
   rcases e3 with e3|e3|e3
   ·exact key _ e3 (.inl rfl)
   ·exact key _ e3 (.inr (.inl rfl))
   ·exact key _ e3 (.inr (.inr rfl))
  obtain ⟨m,hn,hl⟩:=I.loc
  have aar:Ym X.env.scope y:=(ok.free _ (bf V5.1) rfl).elim (λk=>.inr (.inl k)) (λk=>.inr (.inr k))
  obtain ⟨w,r,q⟩:=hl i y av e1 e2 aar
  refine ⟨w,r,.inr ⟨V5.2,?_⟩⟩
  obtain ⟨c,h1,h2⟩:=look V5.1
  rcases q with ⟨k,_⟩|⟨_,c',e',z⟩
  ·have k:X.env.scope.names.lookup y=some .local:=k
   rcases ok.free _ (bf V5.1) rfl with k'|k'<;>rw [show X.env.scope.names.lookup y=_ from k'] at k<;>cases k
  ·rw [h2] at e';cases e'
   exact ⟨c,h1,z.keeps kp⟩
 ·have e:mh.cells.lookup y=some c:=e
  rcases mem e with ⟨h1,_⟩|⟨_,z⟩
  ·obtain ⟨w,z⟩:=I.cell y c h1
   exact ⟨w,z.keeps kp⟩
  ·exact ⟨_,z⟩
 ·show H mh.locals=none
  rw [hL];exact I.iR.fresh (ai _)
 ·have e:mh.cells.lookup y=some c:=e
  rcases mem e with ⟨h1,_⟩|⟨h1,_⟩
  ·exact I.sM y c h1
  ·exact I.iR.fresh (eF h1)
 ·exact absurd (show p∈([]:List (Addr×Obj))++[] from hp) (by simp)
theorem V6 {E:Value→Shared→Prop}{D:Addr}{xs:List V}{y:V}{v:Value}{Q:Value→Shared→Prop}(I:Inv X pins σ H s) (hD:H D=some (.lst xs)) (hz:xs.length<sizeLine) (r:RelV y v)
  (h:∀s',Inv X pins σ (upd H D (.lst (xs++[y]))) s'→Q .none s'):wpAny (model X.prog X.w) X.A (call (.builtin "list.append") [.ref D,v]) Q E s:=by
 obtain ⟨hz',hU,n,ri,e⟩:=I.iR D _ hD
 have hl:=ri.length
 refine append_at (hsz:=by rw [aT];omega) e fun h' sb Qa=>?_
 refine h { s with heap:=h' } (I.write (t':=s.toks) (by rw [hD];trivial) (.inl rfl) (λb u hb q=>(sb.2 b hb).trans q) ⟨_,Qa⟩ ⟨by rw [ay];exact hz,hU++[v],n+1,ri.append (.cons r .nil),?_⟩)
 rw [Qa]
 simp
def YG (X:Cx) (ifs:List Expr) (t:TT):Prop:=
 ∀(pins:List (Addr×Obj)) (s:Shared) (σ:St) (H:Hp) (Q:Bool→Hp→Prop),Inv X pins σ H s→t σ H Q→
  wpAny (model X.prog X.w) X.A (forIn ifs true fun c r=>if r=true then do let ok ←isTrue c X.env (eval c X.env);pure (ForInStep.yield ok) else pure (ForInStep.yield r)) (TP X pins σ Q) X.xe s
def mI:TT:=λ_ H Q=>Q true H
theorem iJ:YG X [] mI:=λ_ _ _ H _ I h=>wpAny_tests_nil ⟨H,I,h⟩
theorem pJ {c:Expr}{t:TT}(h:PT X c t):YG X [c] t:=λpins s σ H Q I hw=>wpAny_tests_one (h pins s σ H Q I hw)
end
theorem OR {α:Type}{t:Sem α}{Q Q':α→Shared→Prop}{M:Model}{A:Around}{E:Value→Shared→Prop}{s:Shared}(h:wpAny M A t Q (λ_ _=>False) s) (hQ:∀a s,Q a s→Q' a s):wpAny M A t Q' E s:=wpAny_mono h hQ fun _ _ z=>False.elim z
theorem GV {prog:Program}{w:World}{A:Around}{R:Result→Shared→Prop}{s:Shared}{elt target iter:Expr}{ifs:List Expr}{scope:Scope}{pos:Pos}{it acc:Value}{env:Env}(I:Nat→Shared→Prop)
  (turn:∀n s,I n s→wpAny (model prog w) A (pyNext it) (λr s₁=>match r with
   |none=>R (.ok .next) s₁
   |some v=>wpAny (model prog w) A (letOwnedTupleGo target it v) (λ_ s₁'=>wpAny (model prog w) A (assign target env v) (λ_ s₂=>
     wpAny (model prog w) A (forIn ifs true fun c r=>if r=true then do let ok ←isTrue c env (eval c env);pure (ForInStep.yield ok) else pure (ForInStep.yield r)) (λok s₃=>
      if ok=true then wpAny (model prog w) A (eval elt env) (λx s₄=>
       wpAny (model prog w) A (call (.builtin "list.append") [acc,x]) (λ_ s₅=>∃m,m<n∧I m s₅) (notedBy (model prog w) A env fun e s'=>R (.error e) s') s₄) (notedBy (model prog w) A env fun e s'=>R (.error e) s') s₃
      else ∃m,m<n∧I m s₃) (notedBy (model prog w) A env fun e s'=>R (.error e) s') s₂) (notedBy (model prog w) A env fun e s'=>R (.error e) s') s₁') (notedBy (model prog w) A env fun e s'=>R (.error e) s') s₁) (notedBy (model prog w) A env fun e s'=>R (.error e) s') s)
  (n:Nat) (h:I n s) :
  codeAny (model prog w) A (.compLoop (.ListComp elt [⟨target,iter,ifs,0⟩] scope pos) 0 it acc env) R s:=by
 refine codeAny_loop rfl I (λn s hI=>?_) n h
 show wpAny _ A ((compTurn (.ListComp elt [⟨target,iter,ifs,0⟩] scope pos) 0 it acc env).onRaise (λx=>do noteFrame x env;theTreesLotGoes x)) _ _ s
 refine wpAny_noted ?_
 rw [compTurn_list]
 refine wpAny_bind (wpAny_standAt (wpAny_bind (wpAny_mono (turn n s hI) (λr s₁ h₁=>?_) fun _ _ h'=>h')))
 cases r with
 |none=>exact wpAny_pure h₁
 |some v=>
  refine wpAny_bind (wpAny_mono h₁ (λ_ s₁' h₁'=>?_) fun _ _ h'=>h')
  refine wpAny_bind (wpAny_mono h₁' (λ_ s₂ h₂=>wpAny_bind (wpAny_mono h₂ (λok s₃ h₃=>?_) fun _ _ h'=>h')) fun _ _ h'=>h')
  cases ok with
  |false=>exact wpAny_pure ⟨rfl,h₃⟩
  |true=>
   exact wpAny_bind (wpAny_bind (wpAny_mono h₃ (λx s₄ h₄=>wpAny_bind (wpAny_mono h₄ (λ_ s₅ h₅=>wpAny_pure (wpAny_pure ⟨rfl,h₅⟩)) fun _ _ h'=>h')) fun _ _ h'=>h'))
section
variable {X:Cx}
def yt (wi:TI) (g:TG) (tt:TT) (te:TE) (vs:List Nat):TE:=fun σ H Q=>wi σ H fun J H1=>∀D,H1 D=none→∃W:Nat→Nat→Hp→Prop,(∃m,W 0 m (upd H1 D (.lst [])))∧∀i m H,W i m H→
 (J.stop i H∧Q (.ref D) H)∨(J.go i H∧∃Nx:Hp→Prop,(∀H',Nx H'→∃m',m'<m∧W (i+1) m' H')∧∀x H',J.A0 i H x H'→g x (wipe σ vs) H' fun σ2 H2=>wipe σ2 vs=wipe σ vs∧tt σ2 H2 fun b H3=>
  if b=true then te σ2 H3 fun y H4=>∃acc,H4 D=some (.lst acc)∧acc.length<sizeLine∧Nx (upd H4 D (.lst (acc++[y]))) else Nx H3)
theorem NN {pins:List (Addr×Obj)}{s:Shared}{σ:St}{H:Hp}{Q:VK}{elt tg iter:Expr}{ifs:List Expr}{scope:Scope}{own:List (Str×Nat)}{pos pos':Pos}{wi:TI}{g:TG}{tt:TT}{te:TE}{use:Option (Value→Sem Unit)}{Qf:Value→Shared→Prop}
  (hc:X.calm=true) (hN:X.N.Nodup) (I:Inv X pins σ H s) (hi:PI X tg iter wi) (ok:JR X.N X.env.scope scope own)
  (hg:∀(s:Shared) (H:Hp) (C:Addr) (cl:List (Str×Addr)) (fp:List Addr),PG (X.GU s H scope (compEnvC scope cl C X.env) fp) tg g) (ht:∀(s:Shared) (H:Hp) (C:Addr) (cl:List (Str×Addr)) (fp:List Addr),YG (X.GU s H scope (compEnvC scope cl C X.env) fp) ifs tt)
  (he:∀(s:Shared) (H:Hp) (C:Addr) (cl:List (Str×Addr)) (fp:List Addr),PE (X.GU s H scope (compEnvC scope cl C X.env) fp) elt te) (hs:∀x,foldedSetIterable iter X.env x=pure x)
  (h:yt wi g tt te (own.map (·.2)) σ H Q)
  (hRR:∀D C s' m H',Inv X pins σ H' s'→Q (.ref D) H'→s'.heap.Ns C m→zM X pins H' C→compPost (model X.prog X.w) X.A X.xe use Qf (.ref D) C (.ok .next) s') :
  wpAny (model X.prog X.w) X.A (comprehension (.ListComp elt [⟨tg,iter,ifs,0⟩] scope pos) scope X.env pos' (newList []) false (eval iter X.env) use) Qf X.xe s:=by
 have FI:∀y∈scope.names,y.2=.free→∃c,X.env.cells.lookup y.1=some c:=λy hy e=>by
  rcases ok.free y hy e with k|k
  ·exact I.ok.has _ (.inl k)
  ·exact I.ok.has _ (.inr k)
 refine wpAny_comprehension_free (use:=use) rfl hs (Mo FI) ok.kind (λy hy e=>by rw [ok.uniq y hy,e])
  (kj (hi pins s σ H _ I h) fun xv s1 hx=>kj hx fun itv s2 h2=>?_)
 obtain ⟨it,fp,tn,J,H2,e,I2,T,XW,f2,q⟩:=h2
 subst e
 refine wpAny_newObj_type (JQ ?_) (by show 0≤sizeLine;decide)
 generalize hD:s2.heap.objs.size=D
 have hDn:H2 D=none:=I2.iR.fresh (fF hD)
 obtain ⟨W,⟨m0,w0⟩,turn⟩:=q D hDn
 generalize hs3:({ s2 with heap:=s2.heap.push { cls:=.type "list",data:=.seq ([]:List Value).toArray } }:Shared)=s3
 have I3:Inv X pins σ (upd H2 D (.lst [])) s3:=by
  rw [←hs3]
  refine I2.laid (t':=s2.toks) (λb o e=>Heap.get?_push_of_some _ e) (fF hD) ⟨aK _,[],0,.nil,?_⟩
  rw [←hD]
  exact Heap.get?_push_size _ rfl
 have h3:s3.heap=s2.heap.push { cls:=.type "list",data:=.seq ([]:List Value).toArray }:=by rw [←hs3]
 have sz:∀b∈fp,b<s2.heap.objs.size:=λb hb=>by
  obtain ⟨o,e,_⟩:=T.obj _ _ XW b hb
  exact Heap.lt_size e
 have f3:∀b∈fp,zM X pins (upd H2 D (.lst [])) b∧b<s3.heap.objs.size:=λb hb=>by
  have yr:=sz b hb
  refine ⟨⟨?_,(f2 b hb).2⟩,by rw [h3,Heap.size_push];exact dj yr⟩
  rw [fZ (by rw [←hD];exact aS yr)]
  exact (f2 b hb).1
 have st3:tn 0 s3.heap:=T.keep _ _ _ XW fun b _ o e=>by rw [h3];exact Heap.get?_push_of_some _ e
 have I4:=JS I3 ok hN f3
 have pg:=hg s3 (upd H2 D (.lst [])) s3.heap.objs.size (cellsFrom (s3.heap.objs.size+1) scope.names (i0 X.env.cells scope.names [])) fp
 have pt:=ht s3 (upd H2 D (.lst [])) s3.heap.objs.size (cellsFrom (s3.heap.objs.size+1) scope.names (i0 X.env.cells scope.names [])) fp
 have pe:=he s3 (upd H2 D (.lst [])) s3.heap.objs.size (cellsFrom (s3.heap.objs.size+1) scope.names (i0 X.env.cells scope.names [])) fp
 show codeAny _ _ (.compStart (.ListComp elt [⟨tg,iter,ifs,0⟩] scope pos) 0 (.ref it) (.ref D) (compEnvC scope (cellsFrom (s3.heap.objs.size+1) scope.names (i0 X.env.cells scope.names [])) s3.heap.objs.size X.env)) (compPost (model X.prog X.w) X.A X.xe use Qf (.ref D) s3.heap.objs.size) { s3 with heap:=pushCells (s3.heap.push { cls:=.type "dict",data:=.dict #[] }) scope.names }
 have nfp:∀b∈fp,(upd H2 D (.lst [])) b=none:=λb hb=>(f3 b hb).1.1
 generalize V7:compEnvC scope (cellsFrom (s3.heap.objs.size+1) scope.names (i0 X.env.cells scope.names [])) s3.heap.objs.size X.env=ce at I4 pg pt pe ⊢
 have cL:ce.locals=s3.heap.objs.size:=by subst V7;rfl
 generalize hH3:upd H2 D (.lst [])=H3 at I3 I4 pg pt pe w0 nfp f3
 generalize hs4:({ s3 with heap:=pushCells (s3.heap.push { cls:=.type "dict",data:=.dict #[] }) scope.names }:Shared)=s4 at I4 ⊢
 have st4:tn 0 s4.heap:=T.keep _ _ _ st3 fun b _ o e=>by rw [←hs4];exact pushCells_keeps _ _ _ _ (Heap.get?_push_of_some _ e)
 have L5:∀{σ':St} {H':Hp} {s':Shared},Inv (X.GU s3 H3 scope ce fp) [] σ' H' s'→(∀b∈fp,H' b=none)→∀b∈fp,zM (X.GU s3 H3 scope ce fp) [] H' b:=λ{σ' H' s'} I' hn b hb=>
  ⟨hn b hb,(I'.ok.exf b hb).1,I'.ok.Qo b hb,.inl hb,λx c e=>(I'.ok.exf b hb).2 x c e,λp hp=>absurd (show p∈([]:List (Addr×Obj))++[] from hp) (by simp)⟩
 have loop:codeAny (model X.prog X.w) X.A (.compLoop (.ListComp elt [⟨tg,iter,ifs,0⟩] scope pos) 0 (.ref it) (.ref D) ce) (compPost (model X.prog X.w) X.A X.xe use Qf (.ref D) s3.heap.objs.size) s4:=by
  refine GV (λn s'=>∃i H',Inv (X.GU s3 H3 scope ce fp) [] (wipe σ (own.map (·.2))) H' s'∧tn i s'.heap∧(∀b∈fp,H' b=none)∧W i n H') ?_ m0 ⟨0,H3,I4,st4,nfp,w0⟩
  rintro n s5 ⟨i,H5,I5,XX,n5,w5⟩
  rcases turn i n H5 w5 with ⟨stop,qq⟩|⟨go,Nx,hNx,step⟩
  ·have td:=T.done (X.GU s3 H3 scope ce fp) rfl rfl rfl hc i [] s5 _ H5 (λ_ _=>False) I5 (L5 I5 n5) XX stop
   refine OR td fun r s6 ⟨hr,I6⟩=>?_
   subst hr
   have I7:Inv X pins σ H5 s6:=I3.Yp (ch:=fp) I6.os I6.base I6.iR I6.bare fun b hb=>⟨(f3 b hb).1.2.2.2.1,(f3 b hb).1.2.1,(f3 b hb).1.2.2.2.2.1,(f3 b hb).1.2.2.2.2.2⟩
   have nC:H5 s3.heap.objs.size=none:=by
    have z:H5 ce.locals=none:=I6.free
    rw [cL] at z
    exact z
   obtain ⟨m,hn,_⟩:=I6.loc
   have hn:s6.heap.Ns ce.locals m:=hn
   rw [cL] at hn
   exact hRR D s3.heap.objs.size s6 m H5 I7 qq hn (I3.Qr (ai _) nC)
  ·have ti:=T.item (X.GU s3 H3 scope ce fp) rfl rfl rfl hc i [] s5 _ H5 (λ_ _=>False) I5 (L5 I5 n5) XX go
   refine OR ti fun r s6 ⟨u,hr,h6⟩=>?_
   subst hr
   refine OR h6 fun _ s7 ⟨x,H7,I7,r7,y7,st7,n7⟩=>?_
   have I7':=I7.pinned (L5 I7 n7) (T.obj _ _ st7)
   refine OR (pg _ s7 _ H7 x u _ I7' r7 (step x H7 y7)) fun _ s8 ⟨σ8,H8,I8,hw8,q8⟩=>?_
   refine OR (pt _ s8 σ8 H8 _ I8 q8) fun b s9 ⟨H9,I9,q9⟩=>?_
   have fin:∀{s':Shared} {H':Hp},Inv (X.GU s3 H3 scope ce fp) ([]++A4 fp s7.heap) σ8 H' s'→Nx H'→∃m,m<n∧∃i H',Inv (X.GU s3 H3 scope ce fp) [] (wipe σ (own.map (·.2))) H' s'∧tn i s'.heap∧(∀b∈fp,H' b=none)∧W i m H':=λ{s' H'} I' nx=>by
    obtain ⟨m',hm,w'⟩:=hNx H' nx
    have YH:∀b∈fp,∀o,s7.heap.get? b=some o→s'.heap.get? b=some o∧H' b=none:=λb hb o e=>
     let z:=I'.pin (b,o) (bN _ (bN _ (vB hb e)))
     ⟨z.1,z.2.1⟩
    have hl:(wipe σ (own.map (·.2))).length=σ8.length:=by rw [←hw8,l9]
    refine ⟨m',hm,i+1,H',(I'.wU (pins:=[])).weak hl (λj v e=>?_),T.keep _ _ _ st7 fun b hb o e=>(YH b hb o e).1,λb hb=>?_,w'⟩
    ·rw [←hw8] at e
     exact (yE e).1
    ·obtain ⟨o,e,_⟩:=T.obj _ _ st7 b hb
     exact (YH b hb o e).2
   cases b with
   |false=>
    simp only [bJ,if_false] at q9 ⊢
    exact fin I9 q9
   |true=>
    simp only [if_true] at q9 ⊢
    refine OR (pe _ s9 σ8 H9 _ I9 q9) fun z YI ⟨yv,X2,I10,r10,acc,aas,aat,nx⟩=>?_
    exact V6 (X:=X.GU s3 H3 scope ce fp) I10 aas aat r10 fun S7 I11=>fin I11 nx
 exact codeAny_compStart_list loop (T.self X.A 0 _ _ _ st4 loop)
theorem ko {elt tg iter:Expr}{ifs:List Expr}{scope:Scope}{own:List (Str×Nat)}{pos:Pos}{wi:TI}{g:TG}{tt:TT}{te:TE}(hc:X.calm=true) (hN:X.N.Nodup) (hi:PI X tg iter wi) (ok:JR X.N X.env.scope scope own)
  (hg:∀(s:Shared) (H:Hp) (C:Addr) (cl:List (Str×Addr)) (fp:List Addr),PG (X.GU s H scope (compEnvC scope cl C X.env) fp) tg g) (ht:∀(s:Shared) (H:Hp) (C:Addr) (cl:List (Str×Addr)) (fp:List Addr),YG (X.GU s H scope (compEnvC scope cl C X.env) fp) ifs tt)
  (he:∀(s:Shared) (H:Hp) (C:Addr) (cl:List (Str×Addr)) (fp:List Addr),PE (X.GU s H scope (compEnvC scope cl C X.env) fp) elt te) (hs:∀x,foldedSetIterable iter X.env x=pure x:=by intro _;rfl) :
  PE X (.ListComp elt [⟨tg,iter,ifs,0⟩] scope pos) (yt wi g tt te (own.map (·.2))):=by
 intro pins s σ H Q I h
 rw [eval_ListComp]
 refine NN hc hN I hi ok hg ht he hs h fun D C s' m H' I' q hn f=>⟨m,hn,λVe sb=>?_⟩
 obtain ⟨f0,f1,f2,f3,f4,f5⟩:=f
 exact ⟨.ref D,H',I'.turned (t':=s'.toks) (λb o hb e=>(sb.2 b hb).trans e) f0 f1 f3 f4 f5,rfl,q⟩
theorem oV {i:Nat}{y:Str}{py:Pos}{elt tg iter:Expr}{ifs:List Expr}{scope:Scope}{own:List (Str×Nat)}{pos YJ:Pos}{wi:TI}{g:TG}{tt:TT}{te:TE}(hc:X.calm=true) (hN:X.N.Nodup) (hy:X.N[i]?=some y) (hyl:X.env.scope.names.lookup y=some .local)
  (hsw:swapsWith (.ListComp elt [⟨tg,iter,ifs,0⟩] scope pos) (some (.Name y py)) YJ.line X.env=pure true) (hi:PI X tg iter wi) (ok:JR X.N X.env.scope scope own)
  (hg:∀(s:Shared) (H:Hp) (C:Addr) (cl:List (Str×Addr)) (fp:List Addr),PG (X.GU s H scope (compEnvC scope cl C X.env) fp) tg g) (ht:∀(s:Shared) (H:Hp) (C:Addr) (cl:List (Str×Addr)) (fp:List Addr),YG (X.GU s H scope (compEnvC scope cl C X.env) fp) ifs tt)
  (he:∀(s:Shared) (H:Hp) (C:Addr) (cl:List (Str×Addr)) (fp:List Addr),PE (X.GU s H scope (compEnvC scope cl C X.env) fp) elt te) (hs:∀x,foldedSetIterable iter X.env x=pure x:=by intro _;rfl) :
  PS X (.Assign [.Name y py] (.ListComp elt [⟨tg,iter,ifs,0⟩] scope pos) YJ) (jw (yt wi g tt te (own.map (·.2))) (gr i)):=by
 intro pins s σ H D I h
 rw [exec_Assign_Name_used _ _ _ _ hsw]
 refine wpAny_bind (wpAny_standAt (wpAny_bind ?_))
 show wpAny _ X.A (do let _ ←comprehension (.ListComp elt [⟨tg,iter,ifs,0⟩] scope pos) scope X.env (firstIterPos [⟨tg,iter,ifs,0⟩] pos) (newList []) false (eval iter X.env) (some (assign (.Name y py) X.env))) _ _ s
 have h:yt wi g tt te (own.map (·.2)) σ H (λx H1=>gr i x σ H1 D.nx):=h
 refine wpAny_bind (kj (NN (Qf:=λ_ s'=>SP X pins D .next s') hc hN I hi ok hg ht he hs h fun L C s' m H' I' q hn f=>?_) fun _ s' hq=>wpAny_pure (wpAny_pure hq))
 show wpAny _ _ (assign (.Name y py) X.env (.ref L)) _ _ _
 refine wpAny_assign_Name (FH (v:=V.ref L) I' hN hy (.inl hyl) rfl (λs2 I2 ⟨a,sb,ha⟩=>?_) (.inr hyl))
 obtain ⟨f0,f1,f2,f3,f4,f5⟩:=f
 have haC:C≠a:=by
  rcases ha with z|z
  ·rw [z];exact f1
  ·exact fun e=>f4 y a z e.symm
 refine ⟨m,hn.sameBut sb haC,λh3 sb3=>?_⟩
 exact ⟨_,H',I2.turned (t':=s2.toks) (λb o hb e=>(sb3.2 b hb).trans e) f0 f1 f3 f4 f5,q⟩
theorem qY {elt:Expr}{gs:List Comprehension}{scope:Scope}{pos py:Pos}{y:Str}{l:Nat}{env:Env}(hk:env.scope.kind=.function) (hy:env.scope.names.lookup y=some .local) (hl:(py.line==pos.line)=true)
  (ha:(scope.names.any fun (n,k)=>n==y&&(k==.local||k==.cell))=false):swapsWith (.ListComp elt gs scope pos) (some (.Name y py)) l env=pure true:=by
 have ky:env.kindOf y=some .local:=hy
 have hb:env.blockKind=.function:=by unfold Env.blockKind;rw [hk];rfl
 unfold swapsWith
 have p:(Expr.ListComp elt gs scope pos).pos=pos:=rfl
 simp only [hb,ky,ha,p,hl]
 rfl
end
theorem GW {K:ab}{a:Addr}{xs:List V}{g:TG}{tt:TT}{te:TE}{vs:List Nat}{σ:St}{H1:Hp}{D:Addr}{Qd:Hp→Prop}(Pv:Nat→Hp→Prop) (h0:Pv 0 (upd H1 D (.lst []))) (hl:∀i H,i≤xs.length→Pv i H→gE K H a xs)
  (hs:∀i x H,xs[i]?=some x→Pv i H→g x (wipe σ vs) H fun σ2 H2=>wipe σ2 vs=wipe σ vs∧tt σ2 H2 fun b H3=>
   if b=true then te σ2 H3 fun y H4=>∃acc,H4 D=some (.lst acc)∧acc.length<sizeLine∧Pv (i+1) (upd H4 D (.lst (acc++[y]))) else Pv (i+1) H3) (hd:∀H,Pv xs.length H→Qd H) :
  ∃W:Nat→Nat→Hp→Prop,(∃m,W 0 m (upd H1 D (.lst [])))∧∀i m H,W i m H→
   ((sQ K a).stop i H∧Qd H)∨((sQ K a).go i H∧∃Nx:Hp→Prop,(∀H',Nx H'→∃m',m'<m∧W (i+1) m' H')∧∀x H',(sQ K a).A0 i H x H'→g x (wipe σ vs) H' fun σ2 H2=>wipe σ2 vs=wipe σ vs∧tt σ2 H2 fun b H3=>
    if b=true then te σ2 H3 fun y H4=>∃acc,H4 D=some (.lst acc)∧acc.length<sizeLine∧Nx (upd H4 D (.lst (acc++[y]))) else Nx H3):=by
 refine ⟨λi m H=>m=xs.length - i∧i≤xs.length∧Pv i H,⟨xs.length,by simp,aK _,h0⟩,?_⟩
 rintro i m H ⟨rfl,hi,p⟩
 have q:=hl i H hi p
 by_cases yr:i<xs.length
 ·refine .inr ⟨⟨xs,xs[i],q,by simp [yr]⟩,Pv (i+1),λH' p'=>⟨xs.length - (i+1),by omega,rfl,yr,p'⟩,λx H' y=>?_⟩
  obtain ⟨e,y⟩:=y
  subst e
  exact hs i x _ (y xs q) p
 ·have e:i=xs.length:=by omega
  subst e
  exact .inl ⟨⟨xs,q,ai _⟩,hd H p⟩
def kX (N:List Str) (sc scope:Scope) (own:List (Str×Nat)):Bool:=
 (match scope.kind with | .function=>true | _=>false)&&(scope.names.all fun y=>decide (scope.names.lookup y.1=some y.2))&&(own.all fun p=>decide (N[p.2]?=some p.1))&&
  (scope.names.all fun y=>match y.2 with
   |.free=>(match sc.names.lookup y.1 with | some .cell=>true | some .free=>true | _=>false)
   |.local=>decide (y.1∈own.map (·.1))||decide (y.1∉N)
   |.cell=>decide (y.1∈own.map (·.1))||decide (y.1∉N)
   |_=>true)
theorem gS {N:List Str}{sc scope:Scope}{own:List (Str×Nat)}(h:kX N sc scope own=true):JR N sc scope own:=by
 unfold kX at h
 simp only [aj,aL,decide_eq_true_eq] at h
 obtain ⟨⟨⟨h1,h2⟩,h3⟩,h4⟩:=h
 refine ⟨?_,h2,h3,λy hy e=>?_,λy hy e=>?_⟩
 ·split at h1
  ·assumption
  ·cases h1
 ·have q:=h4 y hy
  simp only [e] at q
  split at q<;>first|exact .inl (by assumption)|exact .inr (by assumption)|cases q
 ·have q:=h4 y hy
  rcases e with e|e<;>(simp only [e,Bool.or_eq_true,decide_eq_true_eq] at q;exact q)
end L2
namespace L2
open PySem PySem.Spec PyProof.Rows
section
variable {κ:Type} [DecidableEq κ]
def oo (hZ:List (κ×V)) (k:κ):Option V:=(hZ.find? fun kv=>decide (kv.1=k)).map (·.2)
def putK (hZ:List (κ×V)) (k:κ) (v:V):List (κ×V):=
 if (hZ.any fun kv=>decide (kv.1=k))=true then hZ.map (λkv=>if kv.1=k then (kv.1,v) else kv) else hZ++[(k,v)]
theorem wY {p:κ×V}{r:List (κ×V)}{k:κ}(e:p.1=k):oo (p::r) k=some p.2:=by simp [oo,de,e]
theorem oW {p:κ×V}{r:List (κ×V)}{k:κ}(e:¬p.1=k):oo (p::r) k=oo r k:=by simp [oo,de,e]
theorem wZ (k:κ):∀hZ:List (κ×V),(hZ.any fun kv=>decide (kv.1=k))=(oo hZ k).isSome
 |[]=>rfl
 |p::r=>by
  rw [cT]
  by_cases e:p.1=k
  ·simp only [wY e,decide_eq_true e,Bool.true_or,Option.isSome_some]
  ·rw [oW e,decide_eq_false e,Bool.false_or];exact wZ k r
theorem zx (hZ:List (κ×V)) (k:κ) (v:V):(putK hZ k v).length≤hZ.length+1:=by
 unfold putK
 split
 ·rw [aa];omega
 ·rw [ay,aw,List.length_nil];omega
theorem A7 {hZ:List (κ×V)}{k:κ}(v:V) (h:oo hZ k=none):putK hZ k v=hZ++[(k,v)]:=by
 unfold putK
 rw [wZ,h]
 exact if_neg (by decide)
theorem qV.qF {o:Option V}{u:Option Value}(r:qV o u):o.isSome=u.isSome:=by
 cases o with
 |none=>cases u with
  |none=>rfl
  |some _=>exact (show False from r).elim
 |some _=>cases u with
  |none=>exact (show False from r).elim
  |some _=>rfl
theorem qV.getD {o:Option V}{u:Option Value}{d:V}{d':Value}(r:qV o u) (rd:RelV d d'):RelV (o.getD d) (u.getD d'):=by
 cases o with
 |none=>cases u with
  |none=>exact rd
  |some _=>exact (show False from r).elim
 |some _=>cases u with
  |none=>exact (show False from r).elim
  |some _=>exact r
theorem KV.val {hZ:List (κ×V)}{vs:List (κ×Value)}(r:KV hZ vs) (k:κ):qV (oo hZ k) (valueAt vs k):=by
 unfold KV at r
 induction r with
 |nil=>exact True.intro
 |@cons p q ps qs h t ih=>
  obtain ⟨h1,h2⟩:=h
  by_cases e:p.1=k
  ·have e':q.1=k:=h1.symm.trans e
   have b:valueAt (q::qs) k=some q.2:=by simp [valueAt,de,e']
   rw [wY e,b];exact h2
  ·have e':¬q.1=k:=λz=>e (h1.trans z)
   have b:valueAt (q::qs) k=valueAt qs k:=by simp [valueAt,de,e']
   rw [oW e,b];exact ih
theorem KV.any {hZ:List (κ×V)}{vs:List (κ×Value)}(r:KV hZ vs) (k:κ):(hZ.any fun kv=>decide (kv.1=k))=vs.any fun kv=>decide (kv.1=k):=by
 unfold KV at r
 induction r with
 |nil=>rfl
 |cons h t ih=>rw [cT,cT,ih,h.1]
theorem KV.V8 {hZ:List (κ×V)}{vs:List (κ×Value)}(r:KV hZ vs) (k:κ) {y:V}{u:Value}(ry:RelV y u) :
  KV (hZ.map fun kv=>if kv.1=k then (kv.1,y) else kv) (vs.map fun kv=>if kv.1=k then (kv.1,u) else kv):=by
 unfold KV at r ⊢
 induction r with
 |nil=>exact .nil
 |@cons p q ps qs h t ih=>
  rw [aG,aG]
  refine .cons ?_ ih
  obtain ⟨h1,h2⟩:=h
  by_cases e:p.1=k
  ·rw [if_pos e,if_pos (h1.symm.trans e)];exact ⟨h1,ry⟩
  ·rw [if_neg e,if_neg (λz=>e (h1.trans z))];exact ⟨h1,h2⟩
theorem KV.put {hZ:List (κ×V)}{vs:List (κ×Value)}(r:KV hZ vs) (k:κ) {y:V}{u:Value}(ry:RelV y u):KV (putK hZ k y) (stored vs k u):=by
 unfold putK stored
 rw [r.any k]
 by_cases e:(vs.any fun kv=>decide (kv.1=k))=true
 ·rw [if_pos e,if_pos e];exact r.V8 k ry
 ·rw [if_neg e,if_neg e];exact Paired.snoc r ⟨rfl,ry⟩
theorem KV.length {hZ:List (κ×V)}{vs:List (κ×Value)}(r:KV hZ vs):hZ.length=vs.length:=Paired.length r
end
theorem A8 {P:Program}{w:World}{k:Key}{u:Value}(r:RelV (kV k) u):(jm P w).is k u=true:=by
 cases k with
 |inl i=>obtain ⟨t,e⟩:=(show ∃t,u=Value.int i t from r);subst e;exact sI P w i t
 |inr x=>obtain ⟨t,e⟩:=(show ∃t,u=Value.str x t from r);subst e;exact sJ P w x t
theorem FU {P:Program}{w:World}:∀{ks:List Key}{us:List Value},Vals (ks.map kV) us→ItemsAre (jm P w) ks us
 |[],_,r=>by rw [List.map_nil] at r;cases r;exact .nil
 |k::ks,_,r=>by
  rw [aG] at r
  cases r with
  |cons h t=>exact .cons (A8 h) (FU t)
abbrev KT (H:Hp):List (List Key×V)→List (List Key×Addr×Value)→Prop:=Paired fun p q=>p.1=q.1∧H q.2.1=some (.tup (p.1.map kV))∧RelV p.2 q.2.2
theorem KT.val {H:Hp}{hZ:List (List Key×V)}{xs:List (List Key×Addr×Value)}(r:KT H hZ xs) (k:List Key):qV (oo hZ k) ((atKey xs k).map (·.2)):=by
 induction r with
 |nil=>exact True.intro
 |@cons p q ps qs h t ih=>
  obtain ⟨h1,_,h2⟩:=h
  by_cases e:p.1=k
  ·have e':q.1=k:=h1.symm.trans e
   have b:atKey (q::qs) k=some q.2:=by simp [atKey,de,e']
   rw [wY e,b];exact h2
  ·have e':¬q.1=k:=λz=>e (h1.trans z)
   have b:atKey (q::qs) k=atKey qs k:=by simp [atKey,de,e']
   rw [oW e,b];exact ih
theorem KT.V8 {H:Hp}{hZ:List (List Key×V)}{xs:List (List Key×Addr×Value)}(r:KT H hZ xs) (k:List Key) {y:V}{u:Value}(ry:RelV y u) :
  KT H (hZ.map fun kv=>if kv.1=k then (kv.1,y) else kv) (xs.map (putAt k u)):=by
 induction r with
 |nil=>exact .nil
 |@cons p q ps qs h t ih=>
  rw [aG,aG]
  refine .cons ?_ ih
  obtain ⟨h1,h2,h3⟩:=h
  unfold putAt
  by_cases e:p.1=k
  ·rw [if_pos e,if_pos (h1.symm.trans e)];exact ⟨h1,h2,ry⟩
  ·rw [if_neg e,if_neg (λz=>e (h1.trans z))];exact ⟨h1,h2,h3⟩
theorem KT.put {H:Hp}{hZ:List (List Key×V)}{xs:List (List Key×Addr×Value)}(r:KT H hZ xs) (k:List Key) {b:Addr}{y:V}{u:Value}(hb:H b=some (.tup (k.map kV))) (ry:RelV y u) :
  KT H (putK hZ k y) (storedH xs k b u):=by
 have e:(hZ.any fun kv=>decide (kv.1=k))=(atKey xs k).isSome:=by
  rw [wZ,(r.val k).qF,fz]
 unfold putK storedH
 rw [e]
 by_cases q:(atKey xs k).isSome=true
 ·rw [if_pos q,if_pos q];exact r.V8 k ry
 ·rw [if_neg q,if_neg q];exact Paired.snoc r ⟨rfl,hb,ry⟩
theorem KT.keeps {H H':Hp}{hZ:List (List Key×V)}{xs:List (List Key×Addr×Value)}(r:KT H hZ xs) (ht:∀b ys,H b=some (.tup ys)→H' b=some (.tup ys)):KT H' hZ xs:=
 Paired.VE r fun _ _ z=>⟨z.1,ht _ _ z.2.1,z.2.2⟩
section
variable {P:Program}{w:World}{H:Hp}{h:Heap}{a:Addr}
theorem Vf {u:HO}(ok:sL P w H h) (e:Rd H a u):j5 P w H h a u:=e.ok ok
theorem JU {hZ:List (Key×V)}(ok:sL P w H h) (e:Rd H a (.dK hZ)):hZ.length≤sizeLine∧(a==sysModules)=false∧∃vs,KV hZ vs∧h.DictOf (jm P w) a vs:=
 show j5 P w H h a (.dK hZ) from Vf ok e
theorem YK {hZ:List (Key×V)}(ok:sL P w H h) (e:H a=some (.dK hZ)):hZ.length≤sizeLine∧(a==sysModules)=false∧∃vs,KV hZ vs∧h.DictOf (jm P w) a vs:=JU ok (.inl e)
theorem A9 {ks:List Key}(ok:sL P w H h) (e:H a=some (.tup (ks.map kV))):(tupleKind (jm P w)).is h ks a:=by
 obtain ⟨_,hU,r,o,h1,h2,n,h3⟩:=(show j5 P w H h a (.tup (ks.map kV)) from ok a _ e)
 exact ⟨o,hU.toArray,n,h1,h2,h3,by simpa using FU r⟩
theorem JV {hZ:List (List Key×V)}(ok:sL P w H h) (e:Rd H a (.dT hZ)):hZ.length≤sizeLine∧(a==sysModules)=false∧
  ∃xs,KT H hZ xs∧h.DictOfH (tupleKind (jm P w)) a xs:=by
 obtain ⟨z,y,xs,r,o,es,ep,h1,h2,h3,h4,h5⟩:=(show j5 P w H h a (.dT hZ) from Vf ok e)
 refine ⟨z,y,xs,r,o,es,ep,h1,h2,h3,h4,λx hx=>?_,h5⟩
 have all:∀{l:List (List Key×V)} {m:List (List Key×Addr×Value)},KT H l m→∀x∈m,(tupleKind (jm P w)).is h x.1 x.2.1:=by
  intro l m q
  induction q with
  |nil=>intro x hx;exact nomatch hx
  |@cons p q ps qs hq t ih=>
   intro x hx
   rcases aB.mp hx with e|hx
   ·subst e
    exact A9 ok (by rw [←hq.1];exact hq.2.1)
   ·exact ih x hx
 exact all r x hx
theorem Vg {hZ:List (List Key×V)}(ok:sL P w H h) (e:H a=some (.dT hZ)):hZ.length≤sizeLine∧(a==sysModules)=false∧
  ∃xs,KT H hZ xs∧h.DictOfH (tupleKind (jm P w)) a xs:=JV ok (.inl e)
end
def sD (H:Hp) (a:Addr) (y:V) (r:Option V):Prop:=
 (∃hZ k,Rd H a (.dK hZ)∧y=kV k∧r=oo hZ k)∨∃hZ k b,Rd H a (.dT hZ)∧y=.ref b∧H b=some (.tup (k.map kV))∧r=oo hZ k
def GX (H:Hp) (a:Addr) (y v:V) (H':Hp):Prop:=
 (∃hZ k,H a=some (.dK hZ)∧y=kV k∧hZ.length<sizeLine∧H'=upd H a (.dK (putK hZ k v)))∨
 ∃hZ k b,H a=some (.dT hZ)∧y=.ref b∧H b=some (.tup (k.map kV))∧hZ.length<sizeLine∧H'=upd H a (.dT (putK hZ k v))
theorem sD.k {H:Hp}{a:Addr}{hZ:List (Key×V)}{k:Key}(e:H a=some (.dK hZ)):sD H a (kV k) (oo hZ k):=.inl ⟨hZ,k,.inl e,rfl,rfl⟩
theorem sD.t {H:Hp}{a b:Addr}{hZ:List (List Key×V)}{k:List Key}(e:H a=some (.dT hZ)) (eb:H b=some (.tup (k.map kV))):sD H a (.ref b) (oo hZ k):=.inr ⟨hZ,k,b,.inl e,rfl,eb,rfl⟩
theorem GX.k {H:Hp}{a:Addr}{hZ:List (Key×V)}{k:Key}{v:V}(e:H a=some (.dK hZ)) (hl:hZ.length<sizeLine):GX H a (kV k) v (upd H a (.dK (putK hZ k v))):=.inl ⟨hZ,k,e,rfl,hl,rfl⟩
theorem GX.t {H:Hp}{a b:Addr}{hZ:List (List Key×V)}{k:List Key}{v:V}(e:H a=some (.dT hZ)) (eb:H b=some (.tup (k.map kV))) (hl:hZ.length<sizeLine) :
  GX H a (.ref b) v (upd H a (.dT (putK hZ k v))):=.inr ⟨hZ,k,b,e,rfl,eb,hl,rfl⟩
section
variable {X:Cx}{pins:List (Addr×Obj)}{σ:St}{H:Hp}{s:Shared}{a:Addr}{y v:V}{u r:Value}{o:Option V}{A:Around}{E:Value→Shared→Prop}
theorem Inv.big (I:Inv X pins σ H s):sysModules<s.heap.objs.size:=by
 have h:mainGlobals<s.heap.objs.size:=(I.mod.glob.keeps I.bk).lt
 exact Nat.lt_trans (by decide) h
theorem OS {Q:Value→Shared→Prop}(hu:A.units+1<cLine) (I:Inv X pins σ H s) (g:sD H a y (some v)) (ry:RelV y u) (h:∀w' s',Inv X pins σ H s'→RelV v w'→Q w' s') :
  wpAny (model X.prog X.w) A (getItem (.ref a) u) Q E s:=by
 rcases g with ⟨hZ,k,e,ey,l⟩|⟨hZ,k,b,e,ey,eb,l⟩
 ·subst ey
  obtain ⟨z,hd,vs,rel,dd⟩:=JU I.iR e
  obtain ⟨w',hw,QC⟩:=qV.some_of (v:=v) (o:=valueAt vs k) (by rw [l];exact rel.val k)
  exact wpAny_getItem_of (A8 ry) dd.mapOf hw (h w' _ (I.tok _) QC)
 ·subst ey
  cases (show u=Value.ref b from ry)
  obtain ⟨z,hd,xs,rel,dd⟩:=JV I.iR e
  obtain ⟨w',hw,QC⟩:=qV.some_of (v:=v) (o:=(atKey xs k).map (·.2)) (by rw [l];exact rel.val k)
  obtain ⟨p,hp,yu⟩:=Option.map_eq_some_iff.mp hw
  refine wpAny_getItem_heap (tupleKind_room_in1 hu) (A9 I.iR eb) dd hp ?_
  rw [yu]
  exact h w' _ (I.tok _) QC
theorem aau {Q:Value→Shared→Prop}(hu:A.units+1<cLine) (I:Inv X pins σ H s) (g:sD H a y o) (ry:RelV y u) (h:∀s',Inv X pins σ H s'→Q (.bool o.isSome) s') :
  wpAny (model X.prog X.w) A (compareOp .In u (.ref a)) Q E s:=by
 rcases g with ⟨hZ,k,e,ey,l⟩|⟨hZ,k,b,e,ey,eb,l⟩
 ·subst ey
  obtain ⟨z,hd,vs,rel,dd⟩:=JU I.iR e
  refine wpAny_in_of (A8 ry) hd dd.mapOf ?_
  rw [←(rel.val k).qF,←l]
  exact h _ (I.tok _)
 ·subst ey
  cases (show u=Value.ref b from ry)
  obtain ⟨z,hd,xs,rel,dd⟩:=JV I.iR e
  refine wpAny_in_heap (tupleKind_room_in1 hu) (A9 I.iR eb) hd dd ?_
  have q:=(rel.val k).qF
  rw [fz] at q
  rw [←q,←l]
  exact h _ (I.tok _)
theorem Tx {Q:Value→Shared→Prop}(hu:A.units+1<cLine) (I:Inv X pins σ H s) (g:sD H a y o) (ry:RelV y u) (h:∀s',Inv X pins σ H s'→Q (.bool (!o.isSome)) s') :
  wpAny (model X.prog X.w) A (compareOp .NotIn u (.ref a)) Q E s:=by
 rcases g with ⟨hZ,k,e,ey,l⟩|⟨hZ,k,b,e,ey,eb,l⟩
 ·subst ey
  obtain ⟨z,hd,vs,rel,dd⟩:=JU I.iR e
  refine wpAny_notIn_of (A8 ry) hd dd.mapOf ?_
  rw [←(rel.val k).qF,←l]
  exact h _ (I.tok _)
 ·subst ey
  cases (show u=Value.ref b from ry)
  obtain ⟨z,hd,xs,rel,dd⟩:=JV I.iR e
  refine wpAny_notIn_heap (tupleKind_room_in1 hu) (A9 I.iR eb) hd dd ?_
  have q:=(rel.val k).qF
  rw [fz] at q
  rw [←q,←l]
  exact h _ (I.tok _)
theorem NO {h':Heap}{t':Nat}{ob:HO}(I:Inv X pins σ H s) (mu:Yj (H a)) (hs:Heap.SameBut a s.heap h') (he:∃q,h'.get? a=some q) (new:j5 X.prog X.w (upd H a ob) h' a ob) :
  Inv X pins σ (upd H a ob) { s with heap:=h',toks:=t' }:=
 I.write (x:=a) (e:=a) mu (.inl rfl) (λb q hb z=>(hs.2 b hb).trans z) he new
theorem V9 {P:Program}{w:World}{H':Hp}{h':Heap}{hZ:List (Key×V)}{vs:List (Key×Value)}(z:hZ.length≤sizeLine) (hd:(a==sysModules)=false) (rel:KV hZ vs) (dd:h'.DictOf (jm P w) a vs) :
  j5 P w H' h' a (.dK hZ):=⟨z,hd,vs,rel,dd⟩
theorem OT {H':Hp}{Q:Unit→Shared→Prop}(hu:A.units+1<cLine) (I:Inv X pins σ H s) (g:GX H a y v H') (ry:RelV y u) (rv:RelV v r) (h:∀s',Inv X pins σ H' s'→Q () s') :
  wpAny (model X.prog X.w) A (setItem (.ref a) u r) Q E s:=by
 rcases g with ⟨hZ,k,e,ey,l,eH⟩|⟨hZ,k,b,e,ey,eb,l,eH⟩
 ·subst ey eH
  obtain ⟨z,hd,vs,rel,dd⟩:=YK I.iR e
  have hz:vs.length≤sizeLine:=by rw [←rel.length];exact z
  have hl:(putK hZ k v).length≤sizeLine:=by have:=zx hZ k v;omega
  refine wpAny_setItem_pairs (hsz:=hz) (A8 ry) dd fun h' dd' hs=>h _ ?_
  have he:∃q,h'.get? a=some q:=let ⟨q,_,_,hq,_⟩:=dd';⟨q,hq⟩
  exact NO I (by rw [e];exact True.intro) hs he (V9 hl hd (rel.put k rv) dd')
 ·subst ey eH
  cases (show u=Value.ref b from ry)
  obtain ⟨z,hd,xs,rel,dd⟩:=Vg I.iR e
  have hz:xs.length≤sizeLine:=by rw [←Paired.length rel];exact z
  have hl:(putK hZ k v).length≤sizeLine:=by have:=zx hZ k v;omega
  refine wpAny_setItem_heap (hsz:=hz) (tupleKind_room_in1 hu) (A9 I.iR eb) dd fun h' dd' hs=>h _ ?_
  obtain ⟨q,es,ep,hq,h2,h3,h4,_,h5⟩:=dd'
  refine NO I (by rw [e];exact True.intro) hs ⟨q,hq⟩ ⟨hl,hd,_,(rel.put k eb rv).keeps fun c ys ec=>?_,q,es,ep,hq,h2,h3,h4,h5⟩
  rw [fZ (uW ec e (λz=>nomatch z))]
  exact ec
end
def Wa (i:Expr):Prop:=∀ov iv,subscripted i false ov iv=operate [ov,iv] (getItem ov iv)
theorem NP {prog:Program}{w:World}{A:Around}{E:Value→Shared→Prop}{s:Shared}{env:Env}{value slice:Expr}{pos:Pos}{T id:String}{Q:Value→Shared→Prop}
  (hl:typeLookup (.type T) "__getitem__"=pure (some (.builtin id))) (hs:Wa slice)
  (h:wpAny (model prog w) A (eval value env) (λo s₁=>wpAny (model prog w) A (eval slice env) (λi s₂=>s₂.TypeIs o T∧wpAny (model prog w) A (getItem o i) Q E s₂) E s₁) E s) :
  wpAny (model prog w) A (eval (.Subscript value slice pos) env) Q E s:=by
 refine Subscript_ (wpAny_mono h (λo s₁ h₁=>wpAny_mono h₁ (λi s₂ h₂=>?_) fun _ _ x=>x) fun _ _ x=>x)
 obtain ⟨hT,h₂⟩:=h₂
 unfold subscriptTail
 refine wpAny_bind ?_
 rw [getitemInPython_of_ne hT.not_modules]
 refine wpAny_bind (wpAny_specialOf hT hl ?_)
 have fin:wpAny (model prog w) A (subscripted slice false o i) (λr s₃=>wpAny (model prog w) A (letTemporaryGo value o r >>= fun _=>pure r) Q E s₃) E s₂:=by
  rw [hs o i]
  exact wpAny_operating (wpAny_mono h₂ (λr s₃ h₃=>wpAny_bind (wpAny_letTemporaryGo (wpAny_pure h₃))) fun _ _ x=>x)
 first
  |exact wpAny_pure (wpAny_bind fin)
  |exact wpAny_bind (wpAny_pure (wpAny_bind fin))
  |exact wpAny_bind fin
theorem JW {X:Cx}{pins:List (Addr×Obj)}{σ:St}{H:Hp}{s:Shared}{a:Addr}{y:V}{o:Option V}(I:Inv X pins σ H s) (g:sD H a y o):s.TypeIs (.ref a) "dict":=by
 rcases g with ⟨hZ,k,e,_,_⟩|⟨hZ,k,b,e,_,_,_⟩
 ·obtain ⟨_,_,vs,_,dd⟩:=JU I.iR e
  exact dd.typeIs
 ·obtain ⟨_,_,xs,_,dd⟩:=JV I.iR e
  exact dd.typeIs
def NQ (td ty:TE):TE:=fun σ H Q=>td σ H fun x H1=>ty σ H1 fun y H2=>∃a v,x=.ref a∧sD H2 a y (some v)∧Q v H2
def aav (ty td:TE):TE:=fun σ H Q=>ty σ H fun y H1=>td σ H1 fun x H2=>∃a o,x=.ref a∧sD H2 a y o∧Q (.bl o.isSome) H2
def Tz (ty td:TE):TE:=fun σ H Q=>ty σ H fun y H1=>td σ H1 fun x H2=>∃a o,x=.ref a∧sD H2 a y o∧Q (.bl (!o.isSome)) H2
def YL (td ty tv:TE):TS:=λD σ H=>tv σ H fun v H1=>td σ H1 fun x H2=>ty σ H2 fun y H3=>∃a H4,x=.ref a∧GX H3 a y v H4∧D.nx σ H4
section
variable {X:Cx}{o i e value:Expr}{pos pos' JX:Pos}{td ty tv:TE}
theorem oq (hu:X.A.units+1<cLine) (ho:PE X o td) (hi:PE X i ty) (hs:Wa i):PE X (.Subscript o i pos) (NQ td ty):=by
 intro pins s σ H Q I h
 refine NP PySem.F.slot_dict_getitem.lookup hs (kj (ho pins s σ H _ I h) fun u s1 ⟨x,H1,I1,rx,q1⟩=>kj (hi pins s1 σ H1 _ I1 q1) fun iv s2 ⟨y,H2,I2,ry,a,v,ex,g,q2⟩=>?_)
 subst ex
 obtain rfl:u=Value.ref a:=rx
 exact ⟨JW I2 g,OS hu I2 g ry fun w' s3 I3 QC=>⟨v,H2,I3,QC,q2⟩⟩
theorem QM (hu:X.A.units+1<cLine) (hi:PE X i ty) (ho:PE X o td):PC X .In i o (aav ty td):=by
 intro pins s σ H Q I h
 refine kj (hi pins s σ H _ I h) fun iv s1 ⟨y,H1,I1,ry,q1⟩=>kj (ho pins s1 σ H1 _ I1 q1) fun u s2 ⟨x,H2,I2,rx,a,ov,ex,g,q2⟩=>?_
 subst ex
 obtain rfl:u=Value.ref a:=rx
 exact aau hu I2 g ry fun s3 I3=>⟨.bl ov.isSome,H2,I3,rfl,q2⟩
theorem FV (hu:X.A.units+1<cLine) (hi:PE X i ty) (ho:PE X o td):PC X .NotIn i o (Tz ty td):=by
 intro pins s σ H Q I h
 refine kj (hi pins s σ H _ I h) fun iv s1 ⟨y,H1,I1,ry,q1⟩=>kj (ho pins s1 σ H1 _ I1 q1) fun u s2 ⟨x,H2,I2,rx,a,ov,ex,g,q2⟩=>?_
 subst ex
 obtain rfl:u=Value.ref a:=rx
 exact Tx hu I2 g ry fun s3 I3=>⟨.bl (!ov.isSome),H2,I3,rfl,q2⟩
theorem GY (hu:X.A.units+1<cLine) (ho:PE X o td) (hi:PE X i ty) (hv:PE X value tv) (hs:swapsWith value (some (.Subscript o i pos')) pos.line X.env=pure false) :
  PS X (.Assign [.Subscript o i pos'] value pos) (YL td ty tv):=by
 intro pins s σ H D I h
 refine wpAny_Assign_Subscript (kj (hv pins s σ H _ I h) fun r s1 ⟨v,H1,I1,rv,q1⟩=>kj (ho pins s1 σ H1 _ I1 q1) fun u s2 ⟨x,H2,I2,rx,q2⟩=>kj (hi pins s2 σ H2 _ I2 q2) fun iv s3 ⟨y,H3,I3,ry,a,H4,ex,g,q3⟩=>?_) hs
 subst ex
 obtain rfl:u=Value.ref a:=rx
 exact OT hu I3 g ry rv fun s4 I4=>⟨σ,H4,I4,q3⟩
end
theorem QN {P:Program}{w:World}{H:Hp}(h:Heap) (hb:sysModules<h.objs.size):j5 P w H (h.push { cls:=.type "dict",data:=.dict #[] }) h.objs.size (.dK []):=
 ⟨aK _,beq_eq_false_iff_ne.mpr (Ne.symm (aS hb)),[],.nil,Heap.DictOf.new h⟩
theorem QO {P:Program}{w:World}{H:Hp}(h:Heap) (hb:sysModules<h.objs.size):j5 P w H (h.push { cls:=.type "dict",data:=.dict #[] }) h.objs.size (.dT []):=
 ⟨aK _,beq_eq_false_iff_ne.mpr (Ne.symm (aS hb)),[],.nil,_,#[],0,Heap.get?_push_size _ rfl,⟨rfl,rfl,rfl⟩,rfl,rfl,cN⟩
def Wb:TE:=λ_ H Q=>∀p,H p=none→Q (.ref p) (upd H p (.dK []))
def Wc:TE:=λ_ H Q=>∀p,H p=none→Q (.ref p) (upd H p (.dT []))
section
variable {X:Cx}{pos:Pos}
theorem QP:PE X (.Dict [] [] pos) Wb:=λpins s σ H Q I h=>
 wpAny_Dict_empty ⟨.ref s.heap.objs.size,_,I.laid (a:=s.heap.objs.size) (o:=.dK []) (t':=s.toks) (λ_ _ q=>Heap.get?_push_of_some _ q) (ai _) (QN s.heap I.big),rfl,h _ (I.iR.fresh (ai _))⟩
theorem QQ:PE X (.Dict [] [] pos) Wc:=λpins s σ H Q I h=>
 wpAny_Dict_empty ⟨.ref s.heap.objs.size,_,I.laid (a:=s.heap.objs.size) (o:=.dT []) (t':=s.toks) (λ_ _ q=>Heap.get?_push_of_some _ q) (ai _) (QO s.heap I.big),rfl,h _ (I.iR.fresh (ai _))⟩
end
end L2
namespace L2
open PySem PySem.Spec PyProof.Rows
section
variable {X:Cx}{pins:List (Addr×Obj)}{σ:St}{H:Hp}{s:Shared}{h':Heap}
theorem Inv.TB {t':Nat}{ch:List Addr}(I:Inv X pins σ H s) (k:∀b o,b∉ch→s.heap.get? b=some o→h'.get? b=some o) (hf:∀b∈ch,zM X pins H b):Inv X pins σ H { s with heap:=h',toks:=t' }:=by
 have U7:∀b u,H b=some u→b∉ch:=λb u e z=>by
  have q:=(hf b z).1
  rw [q] at e;cases e
 refine I.step (g':=s.gens) (d':=s.drawn) (ch:=ch) (λb hb=>⟨(hf b hb).2.2.2.1,(hf b hb).2.1,(hf b hb).2.2.2.2.1,(hf b hb).2.2.2.2.2⟩) (λb o _ _ hc e _=>k b o hc e) (λb o _ _ hc e _=>⟨o.slots,k b o hc e⟩)
  (λ_ _ _ _ n=>n) (λb o hc e=>⟨o,k b o hc e⟩) (λ_ _ e=>e) (λ_ _ _ e=>e) (λb ps e=>⟨#[],by rw [e];simp⟩) (λm hm=>?_) (λb u e=>?_) I.bare
 ·obtain ⟨o,es,ep,ho,r⟩:=hm
  exact ⟨o,es,ep,k _ o (λz=>(hf _ z).2.1 rfl) ho,r⟩
 ·refine (I.iR b u e).LX (λc v hc q=>k c v ?_ q) (λ_ q=>q) fun _ _ q=>q
  rcases hc with z|z
  ·rw [z];exact U7 b u e
  ·exact U7 c _ z
theorem Inv.FW {t':Nat}{ch:List Addr}{T:Addr}{ob:HO}(I:Inv X pins σ H s) (k:∀b o,b∉ch→s.heap.get? b=some o→h'.get? b=some o) (hf:∀b∈ch,zM X pins H b) (hT:s.heap.objs.size≤T)
  (new:j5 X.prog X.w (upd H T ob) h' T ob):Inv X pins σ (upd H T ob) { s with heap:=h',toks:=t' }:=by
 have hn:H T=none:=I.iR.fresh hT
 have U7:∀b u,H b=some u→b∉ch:=λb u e z=>by
  have q:=(hf b z).1
  rw [q] at e;cases e
 refine I.step (g':=s.gens) (d':=s.drawn) (ch:=ch) (λb hb=>⟨(hf b hb).2.2.2.1,(hf b hb).2.1,(hf b hb).2.2.2.2.1,(hf b hb).2.2.2.2.2⟩) (λb o _ _ hc e _=>k b o hc e) (λb o _ _ hc e _=>⟨o.slots,k b o hc e⟩)
  (λb o _ e n=>?_) (λb o hc e=>⟨o,k b o hc e⟩) (λb xs e=>?_) (λb o u e=>?_) (λb ps e=>⟨#[],?_⟩) (λm hm=>?_) (λb u e=>?_) I.bare
 ·rw [fZ (aS (aZ (Heap.lt_size e) hT))];exact n
 ·rw [fZ (f6 e hn)];exact e
 ·rw [fZ (f6 e hn)];exact e
 ·rw [fZ (f6 e hn),e];simp
 ·obtain ⟨o,es,ep,ho,r⟩:=hm
  exact ⟨o,es,ep,k _ o (λz=>(hf _ z).2.1 rfl) ho,r⟩
 ·by_cases hb:b=T
  ·subst hb
   rw [fN] at e
   cases e
   exact new
  ·rw [fZ hb] at e
   refine (I.iR b u e).LX (λc v hc q=>k c v ?_ q) (λc q=>by rw [fZ (f6 q hn)];exact q) fun c xs q=>by rw [fZ (f6 q hn)];exact q
   rcases hc with z|z
   ·rw [z];exact U7 b u e
   ·exact U7 c _ z
end
section
variable {X:Cx}
theorem Wd {tg:Expr}{pins:List (Addr×Obj)}{σ:St}{H:Hp}{s:Shared}{R:It→Hp→Prop}{J:It}{tn:Nat→Heap→Prop}{tk:Nat}(I:Inv X pins σ H s) (o:Obj)
  (T:Turn X.prog X.w X.K tg J [s.heap.objs.size] s.heap.objs.size tn) (st:tn 0 (s.heap.push o)) (q:R J H):PIE X pins σ tg R (.ref s.heap.objs.size) { s with heap:=s.heap.push o,toks:=tk }:=by
 refine ⟨s.heap.objs.size,[s.heap.objs.size],tn,J,H,rfl,I.kept fun b ob e=>Heap.get?_push_of_some _ e,T,st,λb hb=>?_,q⟩
 have e:b=s.heap.objs.size:=by simpa using hb
 subst e
 exact I.Qr (ai _) (I.iR.fresh (ai _))
end
def YM (lo c:Int) (n:Nat):It:=⟨λi _=>i<n,λi H x H'=>H'=H∧x=.int (lo+(i:Nat) * c),λi _=>n≤i⟩
theorem JY {P:Program}{w:World}{K:ab}{tg:Expr}(it:Addr) (lo c:Int) (n:Nat):Turn P w K tg (YM lo c n) [it] it (λi h=>IsRangeIter h it (lo+(i:Nat) * c) ((n:Int) - (i:Nat)) c) where
 mem:=by simp
 obj:=λi h st b hb=>by
  have e:b=it:=by simpa using hb
  subst e
  exact ⟨_,st,λv z=>nomatch z⟩
 keep:=λi h h' st k=>k it (by simp) _ st
 item:=by
  intro X hP hw hK hc i pins s σ H E I hf st hg
  subst hP hw hK
  obtain ⟨f0,f1,f2,f3,f4,f5⟩:=hf it (by simp)
  have W:=Walks.range (prog:=X.prog) (w:=X.w) (I.ok.hd hc) it lo c n
  refine W.item i s _ _ hg st fun v h' tk hv Yt kk=>?_
  obtain ⟨t,rfl⟩:=hv
  have I1:Inv X pins σ H { s with heap:=h',toks:=tk }:=I.turned (λb o hb e=>kk b o (by simpa using hb) e) f0 f1 f3 f4 f5
  exact ⟨_,rfl,Vb (s:={ s with heap:=h',toks:=tk }) (n:="range_iterator") Yt rfl rfl (by decide) ⟨.int (lo+(i:Nat) * c),H,I1,⟨t,rfl⟩,⟨rfl,rfl⟩,Yt,λb hb=>(hf b hb).1⟩⟩
 done:=by
  intro X hP hw hK hc i pins s σ H E I hf st hg
  subst hP hw hK
  obtain ⟨f0,f1,f2,f3,f4,f5⟩:=hf it (by simp)
  exact wpAny_pyNext_range_end (I.ok.hd hc) st (by have:n≤i:=hg;omega) fun h' eb=>⟨rfl,I.turned (t':=s.toks) (λb o hb e=>eb b o hb e) f0 f1 f3 f4 f5⟩
 self:=λA i s Q E st h=>wpAny_pyIter_rangeiter st h
def RgC (i j c:Int) (n:Nat):Prop:=c≠0∧c.natAbs<1073741824∧Builtin.Range.small i j c=true∧Builtin.Range.rangeSize i j c=n
def Vh (ta:TA):TI:=fun σ H R=>ta σ H fun vs H1=>∃(i j c:Int) (n:Nat),vs=[.int i,.int j,.int c]∧RgC i j c n∧R (YM i c n) H1
section
variable {X:Cx}{tg:Expr}
theorem FX {a b c:Expr}{ta:TA}{p pos:Pos}(hg:Gl X "range") (hm:X.mg "range"=none) (ha:PA X [a,b,c] ta)
  (hs:starEach [a,b,c] X.env=(false,eval a X.env)::starEach [b,c] X.env:=by rfl) (zN:(backTo pos (starEach [b,c] X.env)).any (·.1)=false:=by rfl) :
  PI X tg (.Call (.Name "range" p) [a,b,c] [] pos) (Vh ta):=by
 intro pins s σ H R I h
 refine Call_ (AW I hg hm boot_range (PyProof.Rows.callWith_type1 (kj (ha pos pins s σ H _ I h) fun us s1 ⟨vs,H1,I1,r1,q1⟩=>?_) hs zN))
 obtain ⟨i,j,k,n,e,⟨c0,c1,c2,c3⟩,q⟩:=q1
 subst e
 cases r1 with
 |cons r rr=>
  cases rr with
  |cons r' rr=>
   cases rr with
   |cons r'' rr=>
    cases rr
    obtain ⟨t,rfl⟩:=r
    obtain ⟨t',rfl⟩:=r'
    obtain ⟨t'',rfl⟩:=r''
    refine call_range_3 c0 ?_ (.inl (PyProof.noPylong_small c1))
    refine wpAny_pyIter_range (IsRange.new ..) c2 ?_
    have I2:Inv X pins σ H1 { s1 with heap:=s1.heap.push { cls:=.type "range",data:=.fields #[.int i t,.int j t',.int k t''] } }:=I1.kept (t':=s1.toks) fun b o e=>Heap.get?_push_of_some _ e
    refine Wd (tk:=s1.toks) I2 _ (JY _ i k n) ?_ q
    have e1:i+((0:Nat):Int) * k=i:=by simp
    have e2:(n:Int) - ((0:Nat):Int)=Builtin.Range.rangeSize i j k:=by rw [c3];simp
    show IsRangeIter _ _ (i+((0:Nat):Int) * k) ((n:Int) - ((0:Nat):Int)) k
    rw [e1,e2]
    exact Heap.get?_push_size _ rfl
end
theorem Mp {lo c:Int}{n:Nat}{g:TG}{tb:TS}{D:Ends}{σ:St}{H:Hp}(Pv:Nat→St→Hp→Prop) (h0:Pv 0 σ H)
  (hs:∀i σ H,i<n→Pv i σ H→g (.int (lo+(i:Nat) * c)) σ H fun σ2 H2=>tb { D with nx:=Pv (i+1),ct:=Pv (i+1),bk:=D.nx } σ2 H2) (hd:∀σ H,Pv n σ H→D.nx σ H) :
  ∃W:Nat→Nat→St→Hp→Prop,(∃m,W 0 m σ H)∧∀i m σ H,W i m σ H→
   ((YM lo c n).stop i H∧D.nx σ H)∨((YM lo c n).go i H∧∃N:St→Hp→Prop,(∀σ' H',N σ' H'→∃m',m'<m∧W (i+1) m' σ' H')∧∀x H',(YM lo c n).A0 i H x H'→g x σ H' fun σ2 H2=>tb { D with nx:=N,ct:=N,bk:=D.nx } σ2 H2):=by
 refine ⟨λi m σ H=>m=n - i∧i≤n∧Pv i σ H,⟨n,by simp,aK _,h0⟩,?_⟩
 rintro i m σ H ⟨rfl,hi,p⟩
 by_cases yr:i<n
 ·refine .inr ⟨yr,Pv (i+1),fun σ' H' p'=>⟨n - (i+1),by omega,rfl,yr,p'⟩,λx H' y=>?_⟩
  obtain ⟨e,y⟩:=y
  subst e y
  exact hs i σ _ yr p
 ·have e:i=n:=by omega
  subst e
  exact .inl ⟨ai _,hd σ H p⟩
def YN (K:ab) (a:Addr):It:=
 ⟨λi H=>∃(xs:List V) (x:V),gE K H a xs∧xs[i]?=some x,λi H v H'=>∃T x,v=.ref T∧H T=none∧H'=upd H T (.tup [.int (i:Nat),x])∧∀xs,gE K H a xs→xs[i]?=some x,λi H=>∃xs:List V,gE K H a xs∧xs.length≤i⟩
theorem OU {P:Program}{w:World}{K:ab}{elts:List Expr}{kk:Nat}{JX:Pos}(a e it:Addr) :
  Turn P w K (.Tuple elts kk JX) (YN K a) [e,it] e (λi h=>(∃old,IsEnum h e it ((i:Nat):Int) old)∧h.IsListIter it a i∧e≠it) where
 mem:=by simp
 obj:=λi h st b hb=>by
  obtain ⟨⟨old,he⟩,⟨o,ho,hc,hd⟩,_⟩:=st
  have e':b=e∨b=it:=by simpa using hb
  rcases e' with z|z
  ·rw [z];exact ⟨_,he,λv q=>nomatch q⟩
  ·rw [z];exact ⟨o,ho,λv q=>by rw [hd] at q;cases q⟩
 keep:=λi h h' st k=>let ⟨⟨old,he⟩,hi,GS⟩:=st;⟨⟨old,k e (by simp) _ he⟩,hi.at fun o q=>k it (by simp) o q,GS⟩
 item:=by
  intro X hP hw hK hc i pins s σ H E I hf st hg
  subst hP hw hK
  obtain ⟨⟨old,he⟩,hit,GS⟩:=st
  obtain ⟨xs,x,hq,hx⟩:=hg
  obtain ⟨hU,rv,p,hz⟩:=I.list hq
  obtain ⟨u,hu,ru⟩:=rv.get hx
  have hel:e<s.heap.objs.size:=Heap.lt_size he
  have hil:it<s.heap.objs.size:=by obtain ⟨_,q,_⟩:=hit;exact Heap.lt_size q
  refine wpAny_pyNext_enum_item he hit p.isList (x:=u) (by simpa using hu) GS fun h' ho aaw hT hsz hk=>?_
  refine ⟨_,rfl,wpAny_letOwnedTupleGo_enum (s:={ s with heap:=h',toks:=s.toks+1 }) ho fun Ve he' sb=>?_⟩
  have X3:Ve.get? s.heap.objs.size=some { cls:=.type "tuple",data:=.seq #[.int i s.toks,u] }:=(sb.2 _ (bA hel)).trans hT
  have new:j5 X.prog X.w (upd H s.heap.objs.size (.tup [.int (i:Nat),x])) Ve s.heap.objs.size (.tup [.int (i:Nat),x]):=
   ⟨by show 2≤sizeLine;decide,[.int i s.toks,u],.cons ⟨_,rfl⟩ (.cons ru .nil),⟨_,X3,rfl,_,rfl⟩⟩
  have I1:Inv X pins σ (upd H s.heap.objs.size (.tup [.int (i:Nat),x])) { s with heap:=Ve,toks:=s.toks+1 }:=
   I.FW (ch:=[e,it]) (λb ob hb q=>(sb.2 b (λz=>hb (by simp [z]))).trans (hk b ob (λz=>hb (by simp [z])) (λz=>hb (by simp [z])) q)) hf (ai _) new
  refine ⟨.ref s.heap.objs.size,_,I1,rfl,⟨_,x,rfl,I.iR.fresh (ai _),rfl,λys hy=>by rw [I.AY hy hq];exact hx⟩,⟨⟨u,?_⟩,aaw.at fun o q=>(sb.2 it (Ne.symm GS)).trans q,GS⟩,λb hb=>?_⟩
  ·have e1:((i+1:Nat):Int)=(i:Int)+1:=by omega
   rw [e1];exact he'
  ·have hb':b<s.heap.objs.size:=by
    have e':b=e∨b=it:=by simpa using hb
    rcases e' with z|z
    ·rw [z];exact hel
    ·rw [z];exact hil
   rw [fZ (aS hb')]
   exact (hf b hb).1
 done:=by
  intro X hP hw hK hc i pins s σ H E I hf st hg
  subst hP hw hK
  obtain ⟨⟨old,he⟩,hit,GS⟩:=st
  obtain ⟨xs,hq,hx⟩:=hg
  obtain ⟨hU,rv,p,hz⟩:=I.list hq
  obtain ⟨f0,f1,f2,f3,f4,f5⟩:=hf it (by simp)
  have hl:=rv.length
  exact wpAny_pyNext_enum_end (I.ok.hd hc) he hit p.isList (by simp;omega) fun h' eb=>⟨rfl,I.turned (t':=s.toks) (λb o hb q=>eb b o hb q) f0 f1 f3 f4 f5⟩
 self:=λA i s Q E st h=>let ⟨⟨_,he⟩,_⟩:=st;wpAny_pyIter_enum he h
def Vi (K:ab) (ta:TA):TI:=fun σ H R=>ta σ H fun vs H1=>∃a xs,vs=[.ref a]∧gE K H1 a xs∧R (YN K a) H1
theorem NR {X:Cx}{e:Expr}{ta:TA}{p pos JX:Pos}{elts:List Expr}{kk:Nat}(hg:Gl X "enumerate") (hm:X.mg "enumerate"=none) (ha:PA X [e] ta) (hs:starEach [e] X.env=[(false,eval e X.env)]:=by rfl) :
  PI X (.Tuple elts kk JX) (.Call (.Name "enumerate" p) [e] [] pos) (Vi X.K ta):=by
 intro pins s σ H R I h
 refine Call_ (AW I hg hm boot_enumerate (PyProof.Rows.callWith_type1 (kj (ha pos pins s σ H _ I h) fun us s1 ⟨vs,H1,I1,r1,q1⟩=>?_) hs rfl))
 obtain ⟨a,xs,ex,hq,q⟩:=q1
 subst ex
 cases r1 with
 |cons r rr=>
  cases rr
  cases r
  obtain ⟨hU,rv,p',hz⟩:=I1.list hq
  refine call_enumerate_list p'.isList fun h' he hit hsz hk=>wpAny_pyIter_enum he ?_
  have I2:Inv X pins σ H1 { s1 with heap:=h' }:=I1.kept (t':=s1.toks) hk
  refine ⟨s1.heap.objs.size+1,[s1.heap.objs.size+1,s1.heap.objs.size],_,_,H1,rfl,I2,OU a (s1.heap.objs.size+1) s1.heap.objs.size,⟨⟨.none,he⟩,hit,Nat.succ_ne_self _⟩,λb hb=>?_,q⟩
  have e':b=s1.heap.objs.size+1∨b=s1.heap.objs.size:=by simpa using hb
  have hle:s1.heap.objs.size≤b:=by
   rcases e' with z|z
   ·rw [z];exact cY _ _
   ·rw [z];exact ai _
  exact I1.Qr hle (I1.iR.fresh hle)
theorem OV:bootBuiltins "zip"=some (.type "zip"):=by decide +kernel
end L2
section
namespace TL
open PySem PySem.Builtin PySem.Builtin.Str PySem.StrLaws
abbrev tl (x:Str):List Nat:=x.cps.toList
def pre (S l:List Nat):Bool:=l.take S.length==S
def par (S:List Nat):List Nat→List Nat→Option (List Nat×List Nat)
 |_,[]=>none
 |acc,c::r=>if pre S (c::r)=true then some (acc,(c::r).drop S.length) else par S (acc++[c]) r
theorem JZ {s c:Nat}(S r:List Nat) (h:c≠s):pre (s::S) (c::r)=false:=by
 cases hp:pre (s::S) (c::r) with
 |false=>rfl
 |true=>
  have e:(c::r).take (s::S).length=s::S:=eq_of_beq hp
  rw [aw,eZ] at e
  injection e with e1 e2
  exact absurd e1 h
theorem GZ {s:Nat}{S p q:List Nat}(h:s∉p):∀i,i<p.length→pre (s::S) ((p++q).drop i)=false:=λi hi=>by
 have yr:i<(p++q).length:=by rw [ay];omega
 have e:(p++q).drop i=(p++q)[i]::(p++q).drop (i+1):=bw yr
 rw [e]
 refine JZ _ _ fun z=>h ?_
 have e1:(p++q)[i]=p[i]:=List.getElem_append_left hi
 rw [←z,e1]
 exact List.getElem_mem hi
end TL
end
namespace L2
open PySem PySem.Spec PyProof.Rows
def inClass (s:Stmt) (j:Nat):Stmt:=match s with
 |.ClassDef _ _ _ body _ _ _ _ _ _ _=>body.getD j (.Pass ⟨0,0,0,0⟩)
 |_=>.Pass ⟨0,0,0,0⟩
def ou (s:Stmt):Arguments:=match s with
 |.FunctionDef _ a _ _ _ _ _ _ _ _=>a
 |_=>{ posonlyargs:=[],args:=[],vararg:=none,kwonlyargs:=[],kw_defaults:=[],kwarg:=none,defaults:=[] }
def mj (s:Stmt):List Stmt:=match s with
 |.FunctionDef _ _ b _ _ _ _ _ _ _=>b
 |_=>[]
def fS (s:Stmt):Scope:=match s with
 |.FunctionDef _ _ _ _ _ _ sc _ _ _=>sc
 |_=>{ kind:=.function,names:=[],isGenerator:=false,isCoroutine:=false }
abbrev S8:Qc:=λ_ _ _ _ _ _=>False
abbrev E0:XK:=λ_ _ _=>False
theorem NS {X:Cx}:Passes S8 X E0:=λ_ _ _ _ _ _ _ h=>h.elim
structure TC (K:ab) (x qual:Str) (st:Stmt) (f:Addr) (fd:FuncData):Prop where
 ex:∃(oc:Value) (od:Option Addr) (kV doc pm:Value) (an:Option Addr) (si ct:Value) (Mi:Array (Option Value)),
  fd=cK x qual (ou st) (mj st) (fS st) .none kV doc pm an si ct∧K.lookup f=some ⟨oc,od,.func fd,Mi⟩∧dQ K si qual=true
 kp:cw K (.ref f)=true
section
variable {P:Program}{w:World}{K:ab}{mg:Str→Option Value}{base:Heap}
theorem TC.ok {x qual:Str}{st:Stmt}{f:Addr}{fd:FuncData}{N ps:List Str}{k:Nat}{sp:Sp}(F:TC K x qual st f fd) (S:gf N ps (fS st)) (len:∀vs H Q E,sp vs H Q E→vs.length=ps.length)
  (QA:∀(si:Value) (A:Around) (outer:List Env) (s:Shared) (H:Hp) (vs:List V) (Q:VK) (E:XK),lV k (A.deeper (envOfC qual (fS st) s.heap.objs.size f si))→sp vs H Q E→
   ∃t,NC (Mh S8 P w K mg base N qual (fS st) f si A outer s H E).Ys (mj st) t∧t { nx:=λ_ H'=>Q .mH H',rt:=Q } (start N vs) H):uv P w K mg base S8 (k+1) f fd ps sp:=by
 obtain ⟨oc,od,kV,doc,pm,an,si,ct,Mi,rfl,lk,S5⟩:=F.ex
 refine YA lk S5 S len fun A outer s H vs Q E hr Qe=>?_
 obtain ⟨t,h,q⟩:=QA si A outer s H vs Q E hr Qe
 exact ⟨t,h.Ys,q⟩
theorem TC.binds {x qual:Str}{st:Stmt}{f:Addr}{fd:FuncData}{ps:List Str}(F:TC K x qual st f fd)
  (h:∀(kV doc pm:Value) (an:Option Addr) (si ct:Value) (us:List Value),us.length=ps.length→bindArgs (cK x qual (ou st) (mj st) (fS st) .none kV doc pm an si ct) ⟨us,[]⟩=pure (ps.zip us)):Binds K fd ps []:=by
 obtain ⟨oc,od,kV,doc,pm,an,si,ct,Mi,rfl,lk,S5⟩:=F.ex
 exact .all (h kV doc pm an si ct)
theorem Mq {x qual:Str}{st:Stmt}{f:Addr}{oc:Value}{od an:Option Addr}{Mi:Array (Option Value)}{kV doc pm si ct:Value}(l:K.lookup f=some ⟨oc,od,.func (cK x qual (ou st) (mj st) (fS st) .none kV doc pm an si ct),Mi⟩)
  (c:dQ K si qual=true) (k:cw K (.ref f)=true):TC K x qual st f (cK x qual (ou st) (mj st) (fS st) .none kV doc pm an si ct):=⟨⟨oc,od,kV,doc,pm,an,si,ct,Mi,rfl,l,c⟩,k⟩
end
theorem oi {A:Around}{k:Nat}(hr:lV k A):A.units+1<cLine:=Nat.lt_of_le_of_lt (Nat.add_le_add_left (by decide:1≤64) _) hr.units
section
variable {X:Cx}
theorem pv (i:Nat) {x:Str}{pos:Pos}(hN:X.N[i]?=some x:=by rfl) (hv:Ym X.env.scope x:=by first|exact ak rfl|exact au (ak rfl)|exact au (au rfl)) (hd:(x==("__debug__":Str))=false:=by decide)
  (S5:(x==("__classdict__":Str))=false:=by decide):PE X (.Name x pos) (fV i):=VI hN hv hd S5
end
theorem f7 {A B:Prop}(h:B):if false=true then A else B:=by
 rw [if_neg aH]
 exact h
theorem gR {A B:Prop}(h:A):if true=true then A else B:=by
 rw [if_pos rfl]
 exact h
theorem qG {c A B:Prop} [Decidable c] (h1:c→A) (h2:¬c→B):if c then A else B:=by
 by_cases h:c
 ·rw [if_pos h]
  exact h1 h
 ·rw [if_neg h]
  exact h2 h
def gi (H H':Hp):Prop:=∀b o,H b=some o→H' b=some o
theorem gi.refl (H:Hp):gi H H:=λ_ _ h=>h
theorem gi.trans {H H1 H2:Hp}(a:gi H H1) (b:gi H1 H2):gi H H2:=λc o h=>b c o (a c o h)
theorem gi.free {H H':Hp}(e:gi H H') {l:Addr}(h:H' l=Option.none):H l=Option.none:=by
 cases q:H l with
 |none=>rfl
 |some o=>
  rw [e l o q] at h
  cases h
theorem gi.seq {K:ab}{H H':Hp}{a:Addr}{xs:List V}(e:gi H H') (h:gE K H a xs):gE K H' a xs:=by
 rcases h with (h|⟨o,h⟩)|h
 ·exact .inl (.inl (e _ _ h))
 ·exact .inl (.inr ⟨o,e _ _ h⟩)
 ·exact .inr h
theorem J0 {α:Type}{l:List α}(hN:l.Nodup) {i j:Nat}{x:α}(a:l[i]?=some x) (b:l[j]?=some x):i=j:=by
 obtain ⟨h1,e1⟩:=aO.mp a
 obtain ⟨h2,e2⟩:=aO.mp b
 exact (List.getElem_inj hN).mp (e1.trans e2.symm)
end L2
end
section
namespace L2
open PySem
structure FY (prog:Program) (w:World) (A:Around) (it:Addr) (fp:List Addr) (St:Nat→Heap→Prop) (at_:Nat→Option Value):Prop where
 mem:it∈fp
 keep:∀(i:Nat) (h h':Heap),St i h→(∀b∈fp,∀o,h.get? b=some o→h'.get? b=some o)→St i h'
 item:∀(i:Nat) (x:Value) (s:Shared) (Q:Value→Shared→Prop) (E:Value→Shared→Prop),St i s.heap→at_ i=some x→(∀h',St (i+1) h'→Heap.SameBut it s.heap h'→Q x { s with heap:=h' })→
  wpAny (model prog w) A (Builtin.SmallTypes.nextOf (.ref it)) Q E s
 done:∀(i:Nat) (s:Shared) (Q:Value→Shared→Prop) (E:Value→Shared→Prop),St i s.heap→at_ i=none→
  (∀h' e,Heap.ExtBut it s.heap h'→(∃o,h'.get? e=some o∧o.cls=.type "StopIteration")→E (.ref e) { s with heap:=h' })→
  wpAny (model prog w) A (Builtin.SmallTypes.nextOf (.ref it)) Q E s
section
variable {prog:Program}{w:World}{A:Around}
theorem FY.list (hh:A.handled=none) {it l:Addr}(GS:l≠it) (xs:Array Value):FY prog w A it [it,l] (λi h=>h.IsListIter it l i∧h.IsList l xs) (λi=>xs[i]?) where
 mem:=by simp
 keep:=λi h h' st k=>⟨st.1.at fun o e=>k it (by simp) o e,st.2.at fun o e=>k l (by simp) o e⟩
 item:=λi x s Q E st hx hq=>wpAny_nextOf_list_item st.1 st.2 hx fun h' j sb=>hq h' ⟨j,st.2.extBut sb.extBut GS⟩ sb
 done:=λi s Q E st hx hq=>wpAny_nextOf_list_end hh st.1 st.2 hx hq
theorem QR {s:Shared}{E:Value→Shared→Prop}{j t:Addr}{n:Nat}{hU:Array Value}{y:Value}{Q:Value→Shared→Prop}(a:s.heap.IsTupleIter j t n) (b:s.heap.IsTuple t hU) (c:hU[n]?=some y)
  (k:∀h',h'.IsTupleIter j t (n+1)→Heap.SameBut j s.heap h'→Q y { s with heap:=h' }):wpAny (model prog w) A (Builtin.SmallTypes.nextOf (.ref j)) Q E s:=by
 obtain ⟨ob,g1,g2,g3⟩:=id a
 obtain ⟨ot,g4,_,m,g5⟩:=b
 simp only [Builtin.SmallTypes.nextOf]
 refine wpAny_bind (wpAny_callSpecial?_slot (name:=Str.ofString "__next__") a.typeIs F.slot_tuple_iterator_next (wpAny_call_entry F.slot_tuple_iterator_next a.typeIs F.entry_tuple_iterator_next ?_ (F.args_tuple_iterator_next_1 _)))
 show wpAny _ _ (field (.ref j) 0 >>= _) _ _ s
 refine wpAny_bind (wpAny_field g1 g3 (x:=.ref t) rfl ?_)
 show wpAny _ _ (if (Value.ref t==Value.none)=true then _ else _) _ _ s;rw [if_neg (show ¬((Value.ref t==Value.none)=true) from aH)]
 show wpAny _ _ (field (.ref j) 1 >>= _) _ _ s
 refine wpAny_bind (wpAny_field g1 g3 (x:=.int n 0) rfl ?_)
 show wpAny _ _ (seqItems? (.ref t) >>= _) _ _ s;refine wpAny_bind (wpAny_seqItems g4 g5 ?_)
 simp only [fw,c]
 refine wpAny_bind (wpAny_setField g1 g3 (by simp) (wpAny_pure ⟨y,rfl,wpAny_pure (k _ ?_ (Heap.SameBut.update ..))⟩))
 refine ⟨_,Heap.get?_update_self _ g1 (Obj.isFreed_of_fields (Obj.data_mapFields g3 _)),(Obj.cls_mapFields ..).trans g2,?_⟩
 rw [Obj.data_mapFields g3]
 simp [rawInt]
theorem TF {s:Shared}{E:Value→Shared→Prop}{j t:Addr}{n:Nat}{hU:Array Value}{Q:Value→Shared→Prop}(hh:A.handled=none) (a:s.heap.IsTupleIter j t n) (b:s.heap.IsTuple t hU) (c:hU[n]?=none)
  (k:∀h' e,Heap.ExtBut j s.heap h'→(∃o,h'.get? e=some o∧o.cls=.type "StopIteration")→E (.ref e) { s with heap:=h' }):wpAny (model prog w) A (Builtin.SmallTypes.nextOf (.ref j)) Q E s:=by
 obtain ⟨ob,g1,g2,g3⟩:=id a
 obtain ⟨ot,g4,_,m,g5⟩:=b
 simp only [Builtin.SmallTypes.nextOf]
 refine wpAny_bind (wpAny_callSpecial?_slot (name:=Str.ofString "__next__") a.typeIs F.slot_tuple_iterator_next (wpAny_call_entry F.slot_tuple_iterator_next a.typeIs F.entry_tuple_iterator_next ?_ (F.args_tuple_iterator_next_1 _)))
 show wpAny _ _ (field (.ref j) 0 >>= _) _ _ s
 refine wpAny_bind (wpAny_field g1 g3 (x:=.ref t) rfl ?_)
 show wpAny _ _ (if (Value.ref t==Value.none)=true then _ else _) _ _ s;rw [if_neg (show ¬((Value.ref t==Value.none)=true) from aH)]
 show wpAny _ _ (field (.ref j) 1 >>= _) _ _ s
 refine wpAny_bind (wpAny_field g1 g3 (x:=.int n 0) rfl ?_)
 show wpAny _ _ (seqItems? (.ref t) >>= _) _ _ s;refine wpAny_bind (wpAny_seqItems g4 g5 ?_)
 simp only [fw,c]
 refine wpAny_bind (wpAny_rule (wpAny_bind (wpAny_setField g1 g3 (by simp) ?_)))
 show wpAny _ _ (newExc (.type "StopIteration") [] >>= _) _ _ _;refine wpAny_bind ?_
 simp only [newExc,newTuple];refine wpAny_bind (wpAny_newObj_type ?_ (by size_fits))
 refine wpAny_bind (m:=firstArgMember _ _) (wpAny_of_eq (a:=Value.none) (by simp only [firstArgMember];rfl) ?_)
 refine wpAny_newObj_type ?_ (by size_fits);simp only [raiseNew]
 refine wpAny_bind (wpAny_handled ?_);rw [show A.in1.handled=none from hh]
 refine wpAny_bind (wpAny_pure (wpAny_throw ?_))
 exact k _ _ (((Heap.SameBut.update ..).extBut.push _).push _) ⟨_,Heap.get?_push_size _ rfl,rfl⟩
theorem FY.tuple (hh:A.handled=none) {it l:Addr}(GS:l≠it) (xs:Array Value):FY prog w A it [it,l] (λi h=>h.IsTupleIter it l i∧h.IsTuple l xs) (λi=>xs[i]?) where
 mem:=by simp
 keep:=λi h h' st k=>⟨st.1.at fun o e=>k it (by simp) o e,st.2.at fun o e=>k l (by simp) o e⟩
 item:=λi x s Q E st hx hq=>QR st.1 st.2 hx fun h' j sb=>hq h' ⟨j,st.2.extBut sb.extBut GS⟩ sb
 done:=λi s Q E st hx hq=>TF hh st.1 st.2 hx hq
structure ZA (z TI TO:Addr) (i1 i2:Addr) (f1 f2:List Addr):Prop where
 TIz:TI≠z
 TOz:TO≠z
 TITO:TI≠TO
 i12:i1≠i2
 TIi1:TI≠i1
 TIi2:TI≠i2
 z1:z∉f1
 z2:z∉f2
 o1:TO∉f1
 o2:TO∉f2
 c1:i2∉f1
 c2:i1∉f2
variable {z TI TO i1 i2:Addr}{f1 f2:List Addr}{S1 S2:Nat→Heap→Prop}{a1 a2:Nat→Option Value}
theorem QS {s:Shared}{E:Value→Shared→Prop}{k1 k2:Nat}{x y u v:Value}{Q:Value→Shared→Prop}(D:ZA z TI TO i1 i2 f1 f2) (N1:FY prog w A i1 f1 S1 a1) (N2:FY prog w A i2 f2 S2 a2)
  (hz:IsZip s.heap z TI TO .none) (hI:IsPair s.heap TI (.ref i1) (.ref i2)) (hO:IsPair s.heap TO u v) (h1:S1 k1 s.heap) (h2:S2 k2 s.heap) (hx:a1 k1=some x) (hy:a2 k2=some y)
  (hQ:∀h',IsZip h' z TI TO (rawInt s.heap.objs.size)→IsPair h' TO x y→S1 (k1+1) h'→S2 (k2+1) h'→IsPair h' s.heap.objs.size x y→h'.objs.size=s.heap.objs.size+1→
   (∀c o,c≠z→c≠TO→c≠i1→c≠i2→s.heap.get? c=some o→h'.get? c=some o)→Q (.ref s.heap.objs.size) { s with heap:=h' }) :
  wpAny (model prog w) A (Builtin.«zip.__next__» ⟨[.ref z],[]⟩) (λfin s'=>∃v,fin=.done (.ret v)∧Q v s') E s:=by
 have ne1:∀{b c:Addr} {l:List Addr},b∈l→c∉l→b≠c:=λm n e=>n (e▸m)
 have i1z:i1≠z:=ne1 N1.mem D.z1
 have i2z:i2≠z:=ne1 N2.mem D.z2
 have i1O:i1≠TO:=ne1 N1.mem D.o1
 have i2O:i2≠TO:=ne1 N2.mem D.o2
 show wpAny _ _ (field (.ref z) 2 >>= _) _ _ _;refine wpAny_bind (wpAny_field hz rfl (x:=.bool false) rfl ?_)
 show wpAny _ _ (field (.ref z) 3 >>= _) _ _ _;refine wpAny_bind (wpAny_field hz rfl (x:=.ref TI) rfl ?_)
 refine wpAny_bind (wpAny_seqItems hI rfl ?_)
 show wpAny _ _ (Builtin.SmallTypes.ownedTupleIsFree (.ref z) >>= _) _ _ _;refine wpAny_bind ?_
 simp only [Builtin.SmallTypes.ownedTupleIsFree]
 refine wpAny_bind (wpAny_field hz rfl (x:=.none) rfl (wpAny_pure ?_));simp only [if_true]
 refine wpAny_bind (wpAny_rule ?_)
 refine wpAny_bind (wpAny_field hz rfl (x:=.ref TO) rfl ?_)
 refine wpAny_bind (wpAny_setField_rec hz (by simp) fun g1 z1 e1=>?_)
 replace z1:IsZip g1 z TI TO .ellipsis:=z1
 refine wpAny_bind ?_
 simp only [fB,List.zipIdx_nil,List.forIn_cons,fk]
 refine wpAny_bind (wpAny_bind (wpAny_onRaise ?_))
 show wpAny _ _ (Builtin.SmallTypes.nextOf (.ref i1) >>= _) _ _ _
 have t1:S1 k1 g1:=N1.keep _ _ _ h1 fun b hb o q=>e1.extBut b o (ne1 hb D.z1) q
 refine wpAny_bind (N1.item k1 x _ _ _ t1 hx fun g2 t2 e2=>wpAny_pure ?_)
 have O2:IsPair g2 TO u v:=e2.extBut _ _ i1O.symm (e1.extBut _ _ D.TOz hO)
 refine wpAny_bind (wpAny_seqItems O2 rfl ?_)
 refine wpAny_bind (wpAny_updateSeq_pair O2 fun g3 O3 e3=>?_)
 replace O3:IsPair g3 TO x v:=O3
 refine wpAny_bind (wpAny_letGo (wpAny_pure ?_));refine wpAny_bind (wpAny_bind (wpAny_onRaise ?_))
 show wpAny _ _ (Builtin.SmallTypes.nextOf (.ref i2) >>= _) _ _ _
 have r3:S2 k2 g3:=N2.keep _ _ _ h2 fun b hb o q=>e3.extBut b o (ne1 hb D.o2) (e2.extBut b o (ne1 hb D.c2) (e1.extBut b o (ne1 hb D.z2) q))
 refine wpAny_bind (N2.item k2 y _ _ _ r3 hy fun g4 r4 e4=>wpAny_pure ?_)
 have O4:IsPair g4 TO x v:=e4.extBut _ _ i2O.symm O3
 refine wpAny_bind (wpAny_seqItems O4 rfl ?_)
 refine wpAny_bind (wpAny_updateSeq_pair O4 fun g5 O5 e5=>?_)
 replace O5:IsPair g5 TO x y:=O5
 refine wpAny_bind (wpAny_letGo (wpAny_pure (wpAny_pure ?_)))
 refine wpAny_bind (wpAny_seqItems O5 rfl ?_);refine wpAny_bind (wpAny_newTuple ?_)
 have sz:g5.objs.size=s.heap.objs.size:=by rw [e5.1,e4.1,e3.1,e2.1,e1.1]
 have z5:IsZip g5 z TI TO .ellipsis:=e5.extBut _ _ D.TOz.symm (e4.extBut _ _ i2z.symm (e3.extBut _ _ D.TOz.symm (e2.extBut _ _ i1z.symm z1)))
 have k5:∀c o,c≠z→c≠TO→c≠i1→c≠i2→s.heap.get? c=some o→g5.get? c=some o:=λc o c1 c2 c3 c4 q=>
  e5.extBut _ _ c2 (e4.extBut _ _ c4 (e3.extBut _ _ c2 (e2.extBut _ _ c3 (e1.extBut _ _ c1 q))))
 have t5:S1 (k1+1) g5:=N1.keep _ _ _ t2 fun b hb o q=>e5.extBut b o (ne1 hb D.o1) (e4.extBut b o (ne1 hb D.c1) (e3.extBut b o (ne1 hb D.o1) q))
 have r5:S2 (k2+1) g5:=N2.keep _ _ _ r4 fun b hb o q=>e5.extBut b o (ne1 hb D.o2) q
 have zl:z<g5.objs.size:=Heap.lt_size z5
 show wpAny _ _ (Builtin.SmallTypes.ownedTupleHandOut (.ref z) (.ref g5.objs.size) >>= _) _ _ _
 refine wpAny_bind ?_
 simp only [Builtin.SmallTypes.ownedTupleHandOut]
 have z6:IsZip (g5.push { cls:=.type "tuple",data:=.seq #[x,y] }) z TI TO .ellipsis:=Heap.get?_push_of_some _ z5
 refine wpAny_bind (wpAny_setField_rec z6 (by simp) fun g7 z7 e7=>?_)
 replace z7:IsZip g7 z TI TO (rawInt g5.objs.size):=z7
 refine wpAny_setField_rec z7 (by simp) fun g8 z8 e8=>?_
 replace z8:IsZip g8 z TI TO (rawInt g5.objs.size):=z8
 have up:∀c o,c≠z→g5.get? c=some o→g8.get? c=some o:=λc o c1 q=>e8.extBut _ _ c1 (e7.extBut _ _ c1 (Heap.get?_push_of_some _ q))
 have p8:IsPair g8 g5.objs.size x y:=e8.extBut _ _ (bA zl) (e7.extBut _ _ (bA zl) (Heap.get?_push_size _ rfl))
 have s8:g8.objs.size=g5.objs.size+1:=by rw [e8.1,e7.1,Heap.size_push]
 rw [sz] at z8 p8 s8
 refine wpAny_pure ⟨_,rfl,?_⟩
 show Q (.ref g5.objs.size) _
 rw [sz]
 exact hQ g8 z8 (up _ _ D.TOz O5) (N1.keep _ _ _ t5 fun b hb o q=>up b o (ne1 hb D.z1) q) (N2.keep _ _ _ r5 fun b hb o q=>up b o (ne1 hb D.z2) q) p8 s8 fun c o c1 c2 c3 c4 q=>up c o c1 (k5 c o c1 c2 c3 c4 q)
theorem QT {s:Shared}{E:Value→Shared→Prop}{k1 k2:Nat}{u v:Value}{Q:Fin→Shared→Prop}(D:ZA z TI TO i1 i2 f1 f2) (N1:FY prog w A i1 f1 S1 a1) (N2:FY prog w A i2 f2 S2 a2)
  (hz:IsZip s.heap z TI TO .none) (hI:IsPair s.heap TI (.ref i1) (.ref i2)) (hO:IsPair s.heap TO u v) (h1:S1 k1 s.heap) (h2:S2 k2 s.heap) (QU:a1 k1=none∨a2 k2=none)
  (hE:∀h' e,(∀c o,c≠z→c≠TO→c≠i1→c≠i2→s.heap.get? c=some o→h'.get? c=some o)→(∃o,h'.get? e=some o∧o.cls=.type "StopIteration")→E (.ref e) { s with heap:=h' }) :
  wpAny (model prog w) A (Builtin.«zip.__next__» ⟨[.ref z],[]⟩) Q E s:=by
 have ne1:∀{b c:Addr} {l:List Addr},b∈l→c∉l→b≠c:=λm n e=>n (e▸m)
 have i1z:i1≠z:=ne1 N1.mem D.z1
 have i2z:i2≠z:=ne1 N2.mem D.z2
 have i1O:i1≠TO:=ne1 N1.mem D.o1
 have i2O:i2≠TO:=ne1 N2.mem D.o2
 show wpAny _ _ (field (.ref z) 2 >>= _) _ _ _;refine wpAny_bind (wpAny_field hz rfl (x:=.bool false) rfl ?_)
 show wpAny _ _ (field (.ref z) 3 >>= _) _ _ _;refine wpAny_bind (wpAny_field hz rfl (x:=.ref TI) rfl ?_)
 refine wpAny_bind (wpAny_seqItems hI rfl ?_)
 show wpAny _ _ (Builtin.SmallTypes.ownedTupleIsFree (.ref z) >>= _) _ _ _;refine wpAny_bind ?_
 simp only [Builtin.SmallTypes.ownedTupleIsFree]
 refine wpAny_bind (wpAny_field hz rfl (x:=.none) rfl (wpAny_pure ?_));simp only [if_true]
 refine wpAny_bind (wpAny_rule ?_)
 refine wpAny_bind (wpAny_field hz rfl (x:=.ref TO) rfl ?_)
 refine wpAny_bind (wpAny_setField_rec hz (by simp) fun g1 z1 e1=>?_)
 replace z1:IsZip g1 z TI TO .ellipsis:=z1
 refine wpAny_bind ?_
 simp only [fB,List.zipIdx_nil,List.forIn_cons,fk]
 refine wpAny_bind (wpAny_bind (wpAny_onRaise ?_))
 show wpAny _ _ (Builtin.SmallTypes.nextOf (.ref i1) >>= _) _ _ _
 have t1:S1 k1 g1:=N1.keep _ _ _ h1 fun b hb o q=>e1.extBut b o (ne1 hb D.z1) q
 cases hx:a1 k1 with
 |none=>
  refine wpAny_bind (N1.done k1 _ _ _ t1 hx fun g2 e e2 he=>?_)
  obtain ⟨oe,We,V7⟩:=he
  have z2:IsZip g2 z TI TO .ellipsis:=e2 _ _ i1z.symm z1
  have ez:e≠z:=λq=>by subst q;rw [z2] at We;cases We;simp at V7
  exact wpAny_setField_rec z2 (by simp) fun g3 _ e3=>hE g3 e (λc o c1 _ c3 _ q=>e3.extBut _ _ c1 (e2 _ _ c3 (e1.extBut _ _ c1 q))) ⟨oe,e3.extBut _ _ ez We,V7⟩
 |some x=>
  have hy:a2 k2=none:=by
   rcases QU with q|q
   ·rw [hx] at q
    cases q
   ·exact q
  refine wpAny_bind (N1.item k1 x _ _ _ t1 hx fun g2 t2 e2=>wpAny_pure ?_)
  have O2:IsPair g2 TO u v:=e2.extBut _ _ i1O.symm (e1.extBut _ _ D.TOz hO)
  refine wpAny_bind (wpAny_seqItems O2 rfl ?_)
  refine wpAny_bind (wpAny_updateSeq_pair O2 fun g3 O3 e3=>?_)
  refine wpAny_bind (wpAny_letGo (wpAny_pure ?_));refine wpAny_bind (wpAny_bind (wpAny_onRaise ?_))
  show wpAny _ _ (Builtin.SmallTypes.nextOf (.ref i2) >>= _) _ _ _
  have r3:S2 k2 g3:=N2.keep _ _ _ h2 fun b hb o q=>e3.extBut b o (ne1 hb D.o2) (e2.extBut b o (ne1 hb D.c2) (e1.extBut b o (ne1 hb D.z2) q))
  refine wpAny_bind (N2.done k2 _ _ _ r3 hy fun g4 e e4 he=>?_)
  obtain ⟨oe,We,V7⟩:=he
  have z4:IsZip g4 z TI TO .ellipsis:=e4 _ _ i2z.symm (e3.extBut _ _ D.TOz.symm (e2.extBut _ _ i1z.symm z1))
  have ez:e≠z:=λq=>by subst q;rw [z4] at We;cases We;simp at V7
  exact wpAny_setField_rec z4 (by simp) fun g5 _ e5=>hE g5 e (λc o c1 c2 c3 c4 q=>e5.extBut _ _ c1 (e4 _ _ c4 (e3.extBut _ _ c2 (e2.extBut _ _ c3 (e1.extBut _ _ c1 q))))) ⟨oe,e5.extBut _ _ ez We,V7⟩
end
section
variable {prog:Program}{w:World}{A:Around}{E:Value→Shared→Prop}{s:Shared}{z TI TO i1 i2:Addr}{f1 f2:List Addr}{S1 S2:Nat→Heap→Prop}{a1 a2:Nat→Option Value}
theorem Ds {k1 k2:Nat}{x y u v:Value}{Q:Option Value→Shared→Prop}(D:ZA z TI TO i1 i2 f1 f2) (N1:FY prog w A.in1 i1 f1 S1 a1) (N2:FY prog w A.in1 i2 f2 S2 a2)
  (hz:IsZip s.heap z TI TO .none) (hI:IsPair s.heap TI (.ref i1) (.ref i2)) (hO:IsPair s.heap TO u v) (h1:S1 k1 s.heap) (h2:S2 k2 s.heap) (hx:a1 k1=some x) (hy:a2 k2=some y)
  (hQ:∀h',IsZip h' z TI TO (rawInt s.heap.objs.size)→IsPair h' TO x y→S1 (k1+1) h'→S2 (k2+1) h'→IsPair h' s.heap.objs.size x y→h'.objs.size=s.heap.objs.size+1→
   (∀c o,c≠z→c≠TO→c≠i1→c≠i2→s.heap.get? c=some o→h'.get? c=some o)→Q (some (.ref s.heap.objs.size)) { s with heap:=h' }) :
  wpAny (model prog w) A (pyNext (.ref z)) Q E s:=by
 have ty:s.TypeIs (.ref z) "zip":=⟨_,hz,rfl⟩
 simp only [pyNext]
 exact wpAny_bind (wpAny_attempt (wpAny_callSpecial?_slot (name:=Str.ofString "__next__") ty F.slot_zip_next (wpAny_call_entry F.slot_zip_next ty F.entry_zip_next
   (QS D N1 N2 hz hI hO h1 h2 hx hy fun h' b1 b2 b3 b4 b5 b6 b7=>wpAny_pure (hQ h' b1 b2 b3 b4 b5 b6 b7)) (F.args_zip_next_1 _))))
theorem Dt {k1 k2:Nat}{u v:Value}{Q:Option Value→Shared→Prop}(D:ZA z TI TO i1 i2 f1 f2) (N1:FY prog w A.in1 i1 f1 S1 a1) (N2:FY prog w A.in1 i2 f2 S2 a2)
  (hz:IsZip s.heap z TI TO .none) (hI:IsPair s.heap TI (.ref i1) (.ref i2)) (hO:IsPair s.heap TO u v) (h1:S1 k1 s.heap) (h2:S2 k2 s.heap) (QU:a1 k1=none∨a2 k2=none)
  (hQ:∀h',(∀c o,c≠z→c≠TO→c≠i1→c≠i2→s.heap.get? c=some o→h'.get? c=some o)→Q none { s with heap:=h' }):wpAny (model prog w) A (pyNext (.ref z)) Q E s:=by
 have ty:s.TypeIs (.ref z) "zip":=⟨_,hz,rfl⟩
 simp only [pyNext]
 refine wpAny_bind (wpAny_attempt (wpAny_callSpecial?_slot (name:=Str.ofString "__next__") ty F.slot_zip_next (wpAny_call_entry F.slot_zip_next ty F.entry_zip_next (QT D N1 N2 hz hI hO h1 h2 QU fun h' e hk he=>?_) (F.args_zip_next_1 _))))
 obtain ⟨o,ho,hc⟩:=he
 refine wpAny_bind (wpAny_isInstance (T:="StopIteration") (b:=true) ⟨o,ho,hc⟩ isSubtype_stop ?_)
 exact wpAny_pure (hQ _ hk)
end
abbrev zg1 (h:Heap) (a:Addr):Heap:=h.push { cls:=.type "tuple_iterator",data:=.fields #[.ref a,.int 0 0] }
abbrev zg2 (h:Heap) (a b:Addr):Heap:=(zg1 h a).push { cls:=.type "list_iterator",data:=.fields #[.ref b,.int 0 0] }
abbrev zg3 (h:Heap) (a b:Addr):Heap:=(zg2 h a b).push { cls:=.type "tuple",data:=.seq #[.ref h.objs.size,.ref (zg1 h a).objs.size] }
abbrev zg4 (h:Heap) (a b:Addr):Heap:=(zg3 h a b).push { cls:=.type "tuple",data:=.seq #[.none,.none] }
abbrev Wf (h:Heap) (a b:Addr):Heap:=(zg4 h a b).push { cls:=.type "zip",data:=.fields #[.none,.bool false,.bool false,.ref (zg2 h a b).objs.size,.ref (zg3 h a b).objs.size] }
theorem J1 (a b:Addr) (xs ys:Array Value) :
  Meets (Builtin.«zip.__new__» ⟨[.type "zip",.ref a,.ref b],[]⟩) (λ_ R s=>s.heap.IsTuple a xs∧s.heap.IsList b ys∧R (.ok (.ret (.ref (zg4 s.heap a b).objs.size))) { s with heap:=Wf s.heap a b }):=
 .of_wp fun prog w A R s h=>by
  obtain ⟨hp,g,d,tk,os⟩:=s;obtain ⟨h1,h2,h⟩:=h
  have aaZ:=sub_zip
  have L1:Heap.IsTuple (Shared.heap ⟨hp,g,d,tk,os⟩) a xs:=h1
  have L2:Heap.IsList (Shared.heap ⟨hp.push { cls:=.type "tuple_iterator",data:=.fields #[.ref a,.int 0 0] },g,d,tk,os⟩) b ys:=Heap.IsList.push h2 _
  wp_walk using wpAny_pyIter_tuple L1,wpAny_pyIter_list L2
  exact ⟨_,rfl,h⟩
section
variable {prog:Program}{w:World}{A:Around}{E:Value→Shared→Prop}{s:Shared}
theorem Mr {a b:Addr}{xs ys:Array Value}{Q:Value→Shared→Prop}(h1:s.heap.IsTuple a xs) (h2:s.heap.IsList b ys)
  (h:∀h',IsZip h' (s.heap.objs.size+4) (s.heap.objs.size+2) (s.heap.objs.size+3) .none→IsPair h' (s.heap.objs.size+2) (.ref s.heap.objs.size) (.ref (s.heap.objs.size+1))→
   IsPair h' (s.heap.objs.size+3) .none .none→h'.IsTupleIter s.heap.objs.size a 0→h'.IsListIter (s.heap.objs.size+1) b 0→h'.objs.size=s.heap.objs.size+5→
   (∀c o,s.heap.get? c=some o→h'.get? c=some o)→Q (.ref (s.heap.objs.size+4)) { s with heap:=h' }) :
  wpAny (model prog w) A (call (.type "zip") [.ref a,.ref b]) Q E s:=by
 refine callType_new F.called_zip (by decide) (F.typeCall_zip_2 _ _) (F.newCall_zip_2 _ _) (λobj=>F.args_object_init_3 obj _ _) F.entry_zip_new (J1 a b xs ys) ⟨h1,h2,?_⟩
 have n1:(zg1 s.heap a).objs.size=s.heap.objs.size+1:=Heap.size_push ..
 have n2:(zg2 s.heap a b).objs.size=s.heap.objs.size+2:=by rw [Heap.size_push,n1]
 have n3:(zg3 s.heap a b).objs.size=s.heap.objs.size+3:=by rw [Heap.size_push,n2]
 have n4:(zg4 s.heap a b).objs.size=s.heap.objs.size+4:=by rw [Heap.size_push,n3]
 have n5:(Wf s.heap a b).objs.size=s.heap.objs.size+5:=by rw [Heap.size_push,n4]
 have g5:(Wf s.heap a b).get? (zg4 s.heap a b).objs.size=some _:=Heap.get?_push_size _ rfl
 have g4:(Wf s.heap a b).get? (zg3 s.heap a b).objs.size=some _:=Heap.get?_push_of_some _ (Heap.get?_push_size _ rfl)
 have g3:(Wf s.heap a b).get? (zg2 s.heap a b).objs.size=some _:=Heap.get?_push_of_some _ (Heap.get?_push_of_some _ (Heap.get?_push_size _ rfl))
 have g2:(Wf s.heap a b).get? (zg1 s.heap a).objs.size=some _:=Heap.get?_push_of_some _ (Heap.get?_push_of_some _ (Heap.get?_push_of_some _ (Heap.get?_push_size _ rfl)))
 have g1:(Wf s.heap a b).get? s.heap.objs.size=some _:=Heap.get?_push_of_some _ (Heap.get?_push_of_some _ (Heap.get?_push_of_some _ (Heap.get?_push_of_some _ (Heap.get?_push_size _ rfl))))
 show _∧_
 rw [n2,n3,n4] at g5
 rw [n1,n2] at g3
 rw [n3] at g4
 rw [n1] at g2
 rw [n4]
 exact ⟨⟨_,g5,rfl⟩,h _ g5 g3 g4 ⟨_,g1,rfl,rfl⟩ ⟨_,g2,rfl,rfl⟩ n5 fun c o q=>Heap.get?_push_of_some _ (Heap.get?_push_of_some _ (Heap.get?_push_of_some _ (Heap.get?_push_of_some _ (Heap.get?_push_of_some _ q))))⟩
end
end L2
end
section
namespace L2
open PySem PySem.Spec PyProof.Rows
def noStar:Expr→Bool
 |.Starred _ _=>false
 |_=>true
theorem ue {e:Expr}{es:List Expr}{env:Env}(h:noStar e=true):starEach (e::es) env=(false,eval e env)::starEach es env:=by
 cases e<;>first|rfl|cases h
theorem Ba {env:Env}{pos:Pos}:∀{es:List Expr},es.all noStar=true→(backTo pos (starEach es env)).any (·.1)=false
 |[],_=>rfl
 |e::es,h=>by
  rw [cb,aj] at h
  rw [ue h.1]
  exact Ba (es:=es) h.2
section
variable {X:Cx}{e o:Expr}{es:List Expr}{te ta tv:TE}{t:TA}{pos p apos pos':Pos}
theorem fY (ha:PE X e te) (hr:PA X es t) (h:noStar e=true:=by rfl):PA X (e::es) (fT te t):=Tp ha hr (ue h)
theorem fR {x:Str}{i:Int}(hm:∃t,X.mg x=some (.int i t)) (hg:Gl X x:=by rfl) (hd:(x==("__debug__":Str))=false:=by decide):PE X (.Name x pos) (tC (.int i)):=by
 obtain ⟨t,hm⟩:=hm
 exact ND hg hm ⟨t,rfl⟩ hd
theorem qZ {x:Str}{a:Addr}(hm:X.mg x=some (.ref a)) (hg:Gl X x:=by rfl) (hd:(x==("__debug__":Str))=false:=by decide):PE X (.Name x pos) (tC (.ref a)):=ND hg hm rfl hd
def tF (C:Addr) (ta:TE) (f:Str):TE:=fun σ H Q=>ta σ H fun x H1=>∃a dx fs v,x=.ref a∧H1 a=some (.ins C dx fs)∧fs.lookup f=some v∧Q v H1
def sF (C:Addr) (ta tv:TE) (f:Str):TS:=λD σ H=>tv σ H fun y H1=>ta σ H1 fun x H2=>∃a dx fs,x=.ref a∧H2 a=some (.ins C dx fs)∧fs.length<1000∧D.nx σ (upd H2 a (.ins C dx (gh f y fs)))
theorem gw {C:Addr}{f:Str}(c:OO X.K C) (n:iw X.K C f) (he:PE X e ta) (hb:attributeBase e f X.env (eval e X.env)=eval e X.env:=by rfl):PE X (.Attribute e f pos) (tF C ta f):=by
 intro pins s σ H Q I h
 refine To hb (kj (he pins s σ H _ I h) fun u s1 ⟨x,H1,I1,rx,a,dx,fs,v,ex,ea,l,q⟩=>?_)
 subst ex
 obtain rfl:u=Value.ref a:=rx
 exact L9 I1 ea c n l fun u' s2 I2 ru=>⟨v,H1,I2,ru,q⟩
theorem iT {C:Addr}{f:Str}{value:Expr}(c:OO X.K C) (n:iw X.K C f) (ha:PE X o ta) (hv:PE X value tv) (hs:swapsWith value (some (.Attribute o f pos')) pos.line X.env=pure false:=by rfl):PS X (.Assign [.Attribute o f pos'] value pos) (sF C ta tv f):=by
 intro pins s σ H D I h
 refine plainObj_wpAny_Assign_Attribute (kj (hv pins s σ H _ I h) fun u s1 ⟨y,H1,I1,ry,q⟩=>kj (ha pins s1 σ H1 _ I1 q) fun ov s2 ⟨x,H2,I2,rx,a,dx,fs,ex,ea,l,q2⟩=>?_) hs
 subst ex
 obtain rfl:ov=Value.ref a:=rx
 exact Mb I2 ea c n l ry fun s3 I3=>⟨σ,_,I3,q2⟩
end
structure Fd (P:Program) (w:World) (K:ab) (mg:Str→Option Value) (base:Heap) (k:Nat) (x:Str) (ps:List Str) (sp:Sp):Prop where
 ex:∃(f:Addr) (fd:FuncData),uv P w K mg base S8 k f fd ps sp∧mg x=some (.ref f)∧cw K (.ref f)=true∧Binds K fd ps []
structure Md (P:Program) (w:World) (K:ab) (mg:Str→Option Value) (base:Heap) (k:Nat) (C:Addr) (m:Str) (ps:List Str) (sp:Sp):Prop where
 ex:∃(f:Addr) (fd:FuncData),uv P w K mg base S8 k f fd ps sp∧Meth K C m f∧Binds K fd ps []
structure Cd (P:Program) (w:World) (K:ab) (mg:Str→Option Value) (base:Heap) (k:Nat) (C:Addr) (x:Str) (ps:List Str) (sp:Sp):Prop where
 ex:∃(f:Addr) (fd:FuncData),uv P w K mg base S8 k f fd ps sp∧Mk K C f∧mg x=some (.ref C)∧Binds K fd ps []
section
variable {X:Cx}{e o:Expr}{es:List Expr}{ta:TE}{t:TA}{pos p apos:Pos}{k:Nat}{x m:Str}{ps:List Str}{sp:Sp}{C:Addr}
theorem fU (F:Fd X.prog X.w X.K X.mg X.base k x ps sp) (hr:lV k X.A) (hg:Gl X x) (ha:PA X (e::es) t) (zr:(e::es).all noStar=true:=by rfl) (Mg:(x==("__debug__":Str))=false:=by decide) :
  PE X (.Call (.Name x p) (e::es) [] pos) (iA sp [] E0 t):=by
 obtain ⟨f,fd,h1,h2,h3,h4⟩:=F.ex
 rw [cb,aj] at zr
 exact Tq h1 hr hg h2 h3 h4 .nil NS ha Mg (ue zr.1) (Ba zr.2)
theorem kC {pl:Sem Bool}(c:OO X.K C) (F:Md X.prog X.w X.K X.mg X.base k C m ps sp) (hr:lV k X.A) (he:PE X o ta)
  (ht:eval (.Call (.Attribute o m apos) [] [] pos) X.env=(do
   let ov ←eval o X.env
   standAt apos.atName
   let (f,first) ←holding [ov] (getMethod ov m pl)
   callWith pos f first (backTo pos (starEach [] X.env)) (backToKw pos (keywordEach [] X.env))):=by rfl) :
  PE X (.Call (.Attribute o m apos) [] [] pos) (JJ C m sp [] E0 ta gF):=by
 obtain ⟨f,fd,h1,h2,h3⟩:=F.ex
 exact Qw he c h2 h1 hr h3 .nil NS ht
theorem sX (F:Cd X.prog X.w X.K X.mg X.base k C x ps sp) (hr:lV (k+1) X.A) (hg:Gl X x) (ha:PA X (e::es) t) (zr:(e::es).all noStar=true:=by rfl) (Mg:(x==("__debug__":Str))=false:=by decide) :
  PE X (.Call (.Name x p) (e::es) [] pos) (A6 C sp [] E0 t):=by
 obtain ⟨f,fd,h1,h2,h3,h4⟩:=F.ex
 rw [cb,aj] at zr
 exact Tr h2 h1 hr hg h3 h4 .nil NS ha Mg (ue zr.1) (Ba zr.2)
theorem OW (F:Cd X.prog X.w X.K X.mg X.base k C x ps sp) (hr:lV (k+1) X.A) (hg:Gl X x) (Mg:(x==("__debug__":Str))=false:=by decide) :
  PE X (.Call (.Name x p) [] [] pos) (A6 C sp [] E0 gF):=by
 obtain ⟨f,fd,h1,h2,h3,h4⟩:=F.ex
 exact Qx h2 h1 hr hg h3 h4 .nil NS Mg
end
abbrev ml:R2:=NH fun i j=>.int (i+j)
abbrev zy:R2:=NH fun i j=>.int (i - j)
abbrev YO:R2:=rI (λ_ j=>0<j) fun i j=>.int (i % j)
abbrev TH:R2:=NH fun i j=>.bl (decide (i<j))
abbrev YQ:R2:=NH fun i j=>.bl (decide (i≤j))
abbrev TJ:R2:=NH fun i j=>.bl (decide (j<i))
abbrev Wg:R2:=NH fun i j=>.bl (decide (j≤i))
abbrev sY (K:ab):List V→Hp→VK→Prop:=λxs H Q=>∃p ys,xs=[.ref p]∧(gE K H p ys∨mZ K H p ys)∧Q (.int ys.length) H
abbrev YR:List V→Hp→VK→Prop:=λxs H Q=>∃i j,xs=[.int i,.int j]∧Q (.int (if j<i then j else i)) H
abbrev NU:List V→Hp→VK→Prop:=λxs H Q=>∃i j,xs=[.int i,.int j]∧Q (.int (if j > i then j else i)) H
structure MD (P:Program) (w:World) (K:ab) (a:Addr) (hZ:List (Key×V)):Prop where
 nm:(a==sysModules)=false
 ex:∃(o:Obj) (vs:List (Key×Value)),K.lookup a=some o∧o.IsDictOf (jm P w) vs∧KV hZ vs
theorem MD.at {X:Cx}{pins:List (Addr×Obj)}{σ:St}{H:Hp}{s:Shared}{a:Addr}{hZ:List (Key×V)}(M:MD X.prog X.w X.K a hZ) (I:Inv X pins σ H s):∃vs,KV hZ vs∧s.heap.DictOf (jm X.prog X.w) a vs:=by
 obtain ⟨o,vs,e,d,r⟩:=M.ex
 exact ⟨vs,r,Heap.dictOf_iff.mpr ⟨o,I.LY a o e,d⟩⟩
def QV (a:Addr) (hZ:List (Key×V)) (td ty:TE):TE:=fun σ H Q=>td σ H fun x H1=>ty σ H1 fun y H2=>∃k v,x=.ref a∧y=kV k∧oo hZ k=some v∧Q v H2
def Ms (a:Addr) (hZ:List (Key×V)) (td ty tx:TE):TE:=fun σ H Q=>td σ H fun x H1=>x=.ref a∧ty σ H1 fun y H2=>tx σ H2 fun z H3=>∃k,y=kV k∧Q ((oo hZ k).getD z) H3
section
variable {X:Cx}{o i e f:Expr}{pos apos yB:Pos}{td ty tx:TE}{a:Addr}{hZ:List (Key×V)}
theorem G0 (M:MD X.prog X.w X.K a hZ) (ho:PE X o td) (hi:PE X i ty) (hs:Wa i):PE X (.Subscript o i pos) (QV a hZ td ty):=by
 intro pins s σ H Q I h
 refine NP PySem.F.slot_dict_getitem.lookup hs (kj (ho pins s σ H _ I h) fun u s1 ⟨x,H1,I1,rx,q1⟩=>kj (hi pins s1 σ H1 _ I1 q1) fun iv s2 ⟨y,H2,I2,ry,k,v,ex,ey,l,q2⟩=>?_)
 subst ex
 subst ey
 obtain rfl:u=Value.ref a:=rx
 obtain ⟨vs,rel,dd⟩:=M.at I2
 obtain ⟨w',hw,QC⟩:=qV.some_of (v:=v) (o:=valueAt vs k) (by rw [←l];exact rel.val k)
 exact ⟨dd.typeIs,wpAny_getItem_of (A8 ry) dd.mapOf hw ⟨v,H2,I2.tok _,QC,q2⟩⟩
theorem J2 (M:MD X.prog X.w X.K a hZ) (ho:PE X o td) (he:PE X e ty) (hf:PE X f tx)
  (QE:attributeBase o "get" X.env (eval o X.env)=eval o X.env:=by rfl)
  (VY:((backTo yB (starEach [e,f] X.env)).all (λx=>!x.1)&&(backToKw yB (keywordEach [] X.env)).all (λx=>x.1.isSome)
   &&decide (([e,f]:List Expr).length+([]:List Keyword).length+(if ([]:List Keyword).isEmpty then 0 else 1)<30))=true:=by rfl)
  (QF:(apos.endLine==yB.line)=true:=by rfl) (htr:backTo yB (starEach [e,f] X.env)=[(false,eval e X.env),(false,eval f X.env)]:=by rfl) :
  PE X (.Call (.Attribute o "get" apos) [e,f] [] yB) (Ms a hZ td ty tx):=by
 intro pins s σ H Q I h
 refine wpAny_Call_method QE VY QF PySem.F.plainAttrs_dict PySem.F.slot_dict_get PySem.F.type_dict_get (kj (ho pins s σ H _ I h) fun u s1 ⟨x,H1,I1,rx,ex,q1⟩=>?_)
 subst ex
 obtain rfl:u=Value.ref a:=rx
 obtain ⟨vs,rel,dd⟩:=M.at I1
 refine ⟨dd.typeIs,dd.mapOf.noDict,?_⟩
 rw [htr]
 refine Calls.callWith_builtin rfl (Calls.evalArgs_plain (Calls.spliced_cons (kj (he pins s1 σ H1 _ I1 q1) fun iv s2 ⟨y,H2,I2,ry,q2⟩=>
  Calls.spliced_cons (kj (hf pins s2 σ H2 _ I2 q2) fun fv s3 ⟨z,H3,I3,rz,k,ey,q3⟩=>Calls.spliced_nil ?_))))
 subst ey
 obtain ⟨vs3,aax,dd3⟩:=M.at I3
 refine call_meetsIn PySem.F.slot_dict_get dd3.typeIs PySem.F.entry_dict_get (PySem.F.args_dict_get_3 _ _ _) (meets_dict_get_default (jm X.prog X.w) a (A8 ry) M.nm fv) ⟨_,dd3.mapOf,?_⟩
 exact ⟨_,H3,I3.tok _,(aax.val k).getD rz,q3⟩
end
theorem Du {prog:Program}{w:World}{a:Addr}(hd:(a==sysModules)=false) :
  MeetsIn prog w (Builtin.«dict.__len__» ⟨[.ref a],[]⟩) (λ_ R s=>∃o es ep,s.heap.get? a=some o∧o.data=.dict es ep∧R (.ok (.ret (.int es.size s.toks))) { s with toks:=s.toks+1 }):=
 .of_wp fun A R s ⟨o,es,ep,ho,QW,h⟩=>by
  show wpAny _ _ (dictSize a >>= _) _ _ s
  unfold dictSize
  refine wpAny_bind (wpAny_bind (wpAny_dictEntries ho QW (wpAny_pure ?_)))
  show wpAny _ _ (Builtin.Dict.pendingCount a >>= _) _ _ s
  refine wpAny_bind (wpAny_pendingCount_other hd ?_)
  refine wpAny_ret_mkInt ?_
  rw [Nat.add_zero]
  exact h
theorem TK {prog:Program}{w:World}{A:Around}{E:Value→Shared→Prop}{s:Shared}{a:Addr}{o:Obj}{es:Array DictEntry}{ep:Nat}{Q:Value→Shared→Prop}(hd:(a==sysModules)=false) (ho:s.heap.get? a=some o) (hx:o.ExactDict)
  (QW:o.data=.dict es ep) (aa0:(es.size:Int)<2 ^ 63) (h:Q (.int es.size (s.toks+1)) { s with toks:=s.toks+1+1 }):wpAny (model prog w) A (call (.builtin "len") [.ref a]) Q E s:=by
 have ty:s.TypeIs (.ref a) "dict":=⟨o,ho,hx.1⟩
 refine Calls.call_function_entry kind_len plain_len entry_len (args_len1 _) ?_
 unfold Builtin.«len»
 refine wpAny_bind (m:=oneArg "len" _) (wpAny_pure ?_)
 refine wpAny_bind (m:=callSpecial? (.ref a) (Str.ofString "__len__")) (wpAny_callSpecial?_slot (name:=Str.ofString "__len__") ty PySem.F.slot_dict_len
  (call_meetsIn PySem.F.slot_dict_len ty PySem.F.entry_dict_len (PySem.F.args_dict_len_1 _) (Du hd) ⟨o,es,ep,ho,QW,?_⟩))
 show wpAny _ _ _ _ _ { s with toks:=s.toks+1 }
 refine wpAny_bind (wpAny_holding (wpAny_pure ?_))
 refine wpAny_bind (wpAny_letGo ?_)
 show wpAny _ _ (if ((es.size:Nat):Int)<0 then _ else _) _ _ _
 rw [if_neg (by omega)]
 show wpAny _ _ (if ((es.size:Nat):Int)≥2 ^ 63 then _ else _) _ _ _
 rw [if_neg (by omega)]
 exact wpAny_bind (wpAny_mkInt (wpAny_pure ⟨_,rfl,h⟩))
abbrev YS:List V→Hp→VK→Prop:=λxs H Q=>∃a hZ,xs=[V.ref a]∧H a=some (.dT hZ)∧Q (.int hZ.length) H
theorem OX {X:Cx}:qB X (.builtin "len") YS:=by
 intro pins s σ H xs us Q I r h
 obtain ⟨a,hZ,rfl,ha,q⟩:=h
 obtain ⟨u,rfl,ru⟩:=vals1 r
 cases ru
 obtain ⟨z,hd,ys,rel,dd⟩:=Vg I.iR ha
 obtain ⟨o,es,ep,ho,hx,QW,hes,_,_⟩:=dd
 have e1:es.size=hZ.length:=by
  have e2:=congrArg fJ hes
  rw [aa] at e2
  rw [dU] at e2
  rw [e2]
  exact (Paired.length rel).symm
 refine TK hd ho hx QW (by rw [e1];rw [sizeLine_eq] at z;omega) ?_
 rw [e1]
 exact ⟨.int hZ.length,H,I.tok _,⟨_,rfl⟩,q⟩
abbrev Wh (K:ab):List V→Hp→VK→Prop:=λxs H Q=>∃(a:Addr) (ns:List Int),xs=[.ref a]∧gE K H a (ns.map V.int)∧ns.length≤1000∧
 ∀p,H p=none→Q (.ref p) (upd H p (.set (λk=>(firstMet (λi=>ns.getD i 0) ns.length).any (·==k)) (firstMet (λi=>ns.getD i 0) ns.length).length))
theorem FZ {X:Cx}(hc:X.calm=true):qB X (.type "set") (Wh X.K):=by
 intro pins s σ H xs us Q I r h
 obtain ⟨a,ns,rfl,hs,hn,q⟩:=h
 obtain ⟨u,rfl,ru⟩:=vals1 r
 cases ru
 obtain ⟨hU,rv,pl,hz⟩:=I.list hs
 have hl:hU.length=ns.length:=by
  rw [←rv.length,aa]
 refine call_set_list (I.ok.hd hc) pl.isList (ns:=ns) (by simpa using rv.ints) (by simp [hl,scanBound];omega) fun h' tk hS hk=>?_
 have e:hU.toArray.size=ns.length:=by simp [hl]
 rw [e] at hS
 have hf:H s.heap.objs.size=none:=I.iR.fresh (ai _)
 exact ⟨.ref s.heap.objs.size,_,I.laid (o:=.set _ _) (λb u e=>hk b u (Heap.lt_size e) e) (ai _) hS,rfl,q _ hf⟩
abbrev TM:List V→Hp→VK→Prop:=λxs H Q=>∃a S n,xs=[V.ref a]∧H a=some (.set S n)∧n≤1000∧Q (.int n) H
theorem uY {X:Cx}:qB X (.builtin "len") TM:=by
 intro pins s σ H xs us Q I r h
 obtain ⟨a,S,n,rfl,ha,hn,q⟩:=h
 obtain ⟨u,rfl,ru⟩:=vals1 r
 cases ru
 obtain ⟨o,es,ep,t,ho,hex,hd,h1,h2,hb,hf,hm⟩:=I.iR a _ ha
 subst hm
 exact call_len_set ho hex hd hf (by omega) ⟨.int _,H,I.tok _,⟨_,rfl⟩,q⟩
end L2
end
section
namespace L2
open PySem PySem.Spec PyProof.Rows
def QX (K:ab) (a b:Addr):It:=
 ⟨λi H=>∃(xs ys:List V) (x y:V),mZ K H a xs∧gE K H b ys∧xs[i]?=some x∧ys[i]?=some y,
  λi H v H'=>∃T x y,v=.ref T∧H T=none∧H'=upd H T (.tup [x,y])∧(∀xs,mZ K H a xs→xs[i]?=some x)∧∀ys,gE K H b ys→ys[i]?=some y,
  λi H=>∃xs ys:List V,mZ K H a xs∧gE K H b ys∧(xs.length≤i∨ys.length≤i)⟩
theorem Mt {P:Program}{w:World}{K:ab}{elts:List Expr}{kk:Nat}{JX:Pos}{a b z TI TO i1 i2:Addr}(D:ZA z TI TO i1 i2 [i1,a] [i2,b]) (n1:a≠i1) (n2:b≠i2) :
  Turn P w K (.Tuple elts kk JX) (QX K a b) [z,TI,TO,i1,i2] z (λi h=>IsZip h z TI TO .none∧IsPair h TI (.ref i1) (.ref i2)∧(∃x y,IsPair h TO x y)∧h.IsTupleIter i1 a i∧h.IsListIter i2 b i) where
 mem:=by simp
 obj:=λi h st c hc=>by
  obtain ⟨hz,QY,⟨x,y,S9⟩,⟨o1,e1,_,d1⟩,⟨o2,e2,_,d2⟩⟩:=st
  have e':c=z∨c=TI∨c=TO∨c=i1∨c=i2:=by simpa using hc
  rcases e' with q|q|q|q|q
  ·rw [q];exact ⟨_,hz,λv q=>nomatch q⟩
  ·rw [q];exact ⟨_,QY,λv q=>nomatch q⟩
  ·rw [q];exact ⟨_,S9,λv q=>nomatch q⟩
  ·rw [q];exact ⟨o1,e1,λv q=>by rw [d1] at q;cases q⟩
  ·rw [q];exact ⟨o2,e2,λv q=>by rw [d2] at q;cases q⟩
 keep:=λi h h' st k=>by
  obtain ⟨hz,QY,⟨x,y,S9⟩,h1,h2⟩:=st
  exact ⟨k z (by simp) _ hz,k TI (by simp) _ QY,⟨x,y,k TO (by simp) _ S9⟩,h1.at fun o q=>k i1 (by simp) o q,h2.at fun o q=>k i2 (by simp) o q⟩
 item:=by
  intro X hP hw hK hc i pins s σ H E I hf st hg
  subst hP hw hK
  obtain ⟨hz,QY,⟨x0,y0,S9⟩,h1,h2⟩:=st
  obtain ⟨xs,ys,x,y,X4,X5,hx,hy⟩:=hg
  obtain ⟨hU,rv,p,_⟩:=I.tuple X4
  obtain ⟨sS,rv2,p2,_⟩:=I.list X5
  obtain ⟨u,hu,ru⟩:=rv.get hx
  obtain ⟨u2,hu2,ru2⟩:=rv2.get hy
  have hzl:z<s.heap.objs.size:=Heap.lt_size hz
  have TN:X.A.in1.handled=none:=I.ok.hd hc
  have N1:FY X.prog X.w X.A.in1 i1 [i1,a] (λi h=>h.IsTupleIter i1 a i∧h.IsTuple a hU.toArray) (λi=>hU.toArray[i]?):=FY.tuple TN n1 hU.toArray
  have N2:FY X.prog X.w X.A.in1 i2 [i2,b] (λi h=>h.IsListIter i2 b i∧h.IsList b sS.toArray) (λi=>sS.toArray[i]?):=FY.list TN n2 sS.toArray
  refine Ds D N1 N2 hz QY S9 (k1:=i) (k2:=i) ⟨h1,p⟩ ⟨h2,p2.isList⟩ (x:=u) (y:=u2) (by simpa using hu) (by simpa using hu2) fun h' z' TO' h1' h2' hT hsz hk=>?_
  refine ⟨_,rfl,wpAny_letOwnedTupleGo_zip (s:={ s with heap:=h' }) z' fun Ve z'' sb=>?_⟩
  have X3:Ve.get? s.heap.objs.size=some { cls:=.type "tuple",data:=.seq #[u,u2] }:=(sb.2 _ (bA hzl)).trans hT
  have new:j5 X.prog X.w (upd H s.heap.objs.size (.tup [x,y])) Ve s.heap.objs.size (.tup [x,y]):=
   ⟨by show 2≤sizeLine;decide,[u,u2],.cons ru (.cons ru2 .nil),⟨_,X3,rfl,_,rfl⟩⟩
  have I1:Inv X pins σ (upd H s.heap.objs.size (.tup [x,y])) { s with heap:=Ve }:=
   I.FW (t':=s.toks) (ch:=[z,TI,TO,i1,i2]) (λc o hb q=>(sb.2 c (λq'=>hb (by simp [q']))).trans (hk c o (λq'=>hb (by simp [q'])) (λq'=>hb (by simp [q'])) (λq'=>hb (by simp [q'])) (λq'=>hb (by simp [q'])) q)) hf (ai _) new
  have i1z:i1≠z:=λq=>D.z1 (by simp [q])
  have i2z:i2≠z:=λq=>D.z2 (by simp [q])
  refine ⟨.ref s.heap.objs.size,_,I1,rfl,⟨_,x,y,rfl,I.iR.fresh (ai _),rfl,λl hl=>by rw [I.OJ hl X4];exact hx,λl hl=>by rw [I.AY hl X5];exact hy⟩,⟨z'',?_,⟨u,u2,?_⟩,?_,?_⟩,λc hcm=>?_⟩
  ·exact (sb.2 _ D.TIz).trans (hk _ _ D.TIz D.TITO D.TIi1 D.TIi2 QY)
  ·exact (sb.2 _ D.TOz).trans TO'
  ·exact h1'.1.at fun o q=>(sb.2 _ i1z).trans q
  ·exact h2'.1.at fun o q=>(sb.2 _ i2z).trans q
  ·have yr:c<s.heap.objs.size:=by
    have e':c=z∨c=TI∨c=TO∨c=i1∨c=i2:=by simpa using hcm
    rcases e' with q|q|q|q|q
    ·rw [q];exact hzl
    ·rw [q];exact Heap.lt_size QY
    ·rw [q];exact Heap.lt_size S9
    ·rw [q];obtain ⟨_,e1,_⟩:=h1;exact Heap.lt_size e1
    ·rw [q];obtain ⟨_,e2,_⟩:=h2;exact Heap.lt_size e2
   rw [fZ (aS yr)]
   exact (hf c hcm).1
 done:=by
  intro X hP hw hK hc i pins s σ H E I hf st hg
  subst hP hw hK
  obtain ⟨hz,QY,⟨x0,y0,S9⟩,h1,h2⟩:=st
  obtain ⟨xs,ys,X4,X5,QU⟩:=hg
  obtain ⟨hU,rv,p,_⟩:=I.tuple X4
  obtain ⟨sS,rv2,p2,_⟩:=I.list X5
  have l1:=rv.length
  have l2:=rv2.length
  have he:hU.toArray[i]?=none∨sS.toArray[i]?=none:=by
   rcases QU with q|q
   ·exact .inl (by simp;omega)
   ·exact .inr (by simp;omega)
  have TN:X.A.in1.handled=none:=I.ok.hd hc
  have N1:FY X.prog X.w X.A.in1 i1 [i1,a] (λi h=>h.IsTupleIter i1 a i∧h.IsTuple a hU.toArray) (λi=>hU.toArray[i]?):=FY.tuple TN n1 hU.toArray
  have N2:FY X.prog X.w X.A.in1 i2 [i2,b] (λi h=>h.IsListIter i2 b i∧h.IsList b sS.toArray) (λi=>sS.toArray[i]?):=FY.list TN n2 sS.toArray
  exact Dt D N1 N2 hz QY S9 (k1:=i) (k2:=i) ⟨h1,p⟩ ⟨h2,p2.isList⟩ he fun h' hk=>⟨rfl,I.TB (t':=s.toks) (ch:=[z,TI,TO,i1,i2]) (λc o hb q=>
   hk c o (λq'=>hb (by simp [q'])) (λq'=>hb (by simp [q'])) (λq'=>hb (by simp [q'])) (λq'=>hb (by simp [q'])) q) hf⟩
 self:=λA i s Q E st h=>wpAny_pyIter_zip st.1 h
def Mu (K:ab) (ta:TA):TI:=fun σ H R=>ta σ H fun vs H1=>∃a b xs ys,vs=[.ref a,.ref b]∧mZ K H1 a xs∧gE K H1 b ys∧R (QX K a b) H1
theorem J3 {X:Cx}{e e2:Expr}{ta:TA}{p pos JX:Pos}{elts:List Expr}{kk:Nat}(hg:Gl X "zip") (hm:X.mg "zip"=none) (ha:PA X [e,e2] ta)
  (hs:starEach [e,e2] X.env=(false,eval e X.env)::starEach [e2] X.env:=by rfl) (zN:(backTo pos (starEach [e2] X.env)).any (·.1)=false:=by rfl) :
  PI X (.Tuple elts kk JX) (.Call (.Name "zip" p) [e,e2] [] pos) (Mu X.K ta):=by
 intro pins s σ H R I h
 refine Call_ (AW I hg hm OV (PyProof.Rows.callWith_type1 (kj (ha pos pins s σ H _ I h) fun us s1 ⟨vs,H1,I1,r1,q1⟩=>?_) hs zN))
 obtain ⟨a,b,xs,ys,ex,X4,X5,q⟩:=q1
 subst ex
 cases r1 with
 |cons r rr=>
  cases rr with
  |cons r' rr=>
   cases rr
   cases r
   cases r'
   obtain ⟨hU,rv,p1,_⟩:=I1.tuple X4
   obtain ⟨sS,rv2,p2,_⟩:=I1.list X5
   have la:a<s1.heap.objs.size:=by obtain ⟨o,e,_⟩:=id p1;exact Heap.lt_size e
   have lb:b<s1.heap.objs.size:=p2.lt
   refine Mr (a:=a) (b:=b) p1 p2.isList fun h' hz QY S9 h1 h2 hsz hk=>wpAny_pyIter_zip hz ?_
   have I2:Inv X pins σ H1 { s1 with heap:=h' }:=I1.kept (t':=s1.toks) hk
   have D:ZA (s1.heap.objs.size+4) (s1.heap.objs.size+2) (s1.heap.objs.size+3) s1.heap.objs.size (s1.heap.objs.size+1) [s1.heap.objs.size,a] [s1.heap.objs.size+1,b]:=by
    have ne:∀{m n:Nat},m<n→n≠m:=λh=>bA h
    have two:∀{x y z:Addr},x≠y→x≠z→x∉[y,z]:=λh1 h2 m=>by
     rcases aB.mp m with q|q
     ·exact h1 q
     ·exact h2 (dB.mp q)
    exact ⟨aS (by omega),aS (by omega),aS (by omega),aS (by omega),bA (by omega),bA (by omega),two (bA (by omega)) (bA (dS 4 la)),two (bA (by omega)) (bA (dS 4 lb)),
     two (bA (by omega)) (bA (dS 3 la)),two (bA (by omega)) (bA (dS 3 lb)),two (bA (by omega)) (bA (dS 1 la)),two (aS (by omega)) (bA lb)⟩
   refine ⟨s1.heap.objs.size+4,[s1.heap.objs.size+4,s1.heap.objs.size+2,s1.heap.objs.size+3,s1.heap.objs.size,s1.heap.objs.size+1],_,_,H1,rfl,I2,Mt D (aS la) (aS (dj lb)),⟨hz,QY,⟨_,_,S9⟩,h1,h2⟩,λc hcm=>?_,q⟩
   have e':c=s1.heap.objs.size+4∨c=s1.heap.objs.size+2∨c=s1.heap.objs.size+3∨c=s1.heap.objs.size∨c=s1.heap.objs.size+1:=by simpa using hcm
   have hle:s1.heap.objs.size≤c:=by
    rcases e' with z|z|z|z|z
    ·rw [z];exact cY _ _
    ·rw [z];exact cY _ _
    ·rw [z];exact cY _ _
    ·rw [z];exact ai _
    ·rw [z];exact cY _ _
   exact I1.Qr hle (I1.iR.fresh hle)
theorem QZ {J:It}{n:Nat}{g:TG}{tt:TT}{te:TE}{vs:List Nat}{σ:St}{H1:Hp}{D:Addr}{Qd:Hp→Prop}(Pv:Nat→Hp→Prop) (h0:Pv 0 (upd H1 D (.lst []))) (YT:∀i H,i<n→Pv i H→J.go i H) (zr:∀H,Pv n H→J.stop n H)
  (hs:∀i H x H',i<n→Pv i H→J.A0 i H x H'→g x (wipe σ vs) H' fun σ2 H2=>wipe σ2 vs=wipe σ vs∧tt σ2 H2 fun b H3=>
   if b=true then te σ2 H3 fun y H4=>∃acc,H4 D=some (.lst acc)∧acc.length<sizeLine∧Pv (i+1) (upd H4 D (.lst (acc++[y]))) else Pv (i+1) H3) (hd:∀H,Pv n H→Qd H) :
  ∃W:Nat→Nat→Hp→Prop,(∃m,W 0 m (upd H1 D (.lst [])))∧∀i m H,W i m H→
   (J.stop i H∧Qd H)∨(J.go i H∧∃Nx:Hp→Prop,(∀H',Nx H'→∃m',m'<m∧W (i+1) m' H')∧∀x H',J.A0 i H x H'→g x (wipe σ vs) H' fun σ2 H2=>wipe σ2 vs=wipe σ vs∧tt σ2 H2 fun b H3=>
    if b=true then te σ2 H3 fun y H4=>∃acc,H4 D=some (.lst acc)∧acc.length<sizeLine∧Nx (upd H4 D (.lst (acc++[y]))) else Nx H3):=by
 refine ⟨λi m H=>i≤n∧m=n - i∧Pv i H,⟨n - 0,aK _,rfl,h0⟩,λi m H ⟨hi,hm,hp⟩=>?_⟩
 rcases aX i n with q|q
 ·refine .inr ⟨YT i H q hp,Pv (i+1),λH' OY=>⟨n - (i+1),by omega,q,rfl,OY⟩,λx H' hy=>hs i H x H' q hp hy⟩
 ·have e:i=n:=Nat.le_antisymm hi q
  subst e
  exact .inl ⟨zr H hp,hd H hp⟩
end L2
end
section
namespace My
open PySem PySem.SetTable
def Ta (m:Nat) (p:Probe):Probe:=if p.more > 0 then { p with j:=p.j+1,more:=p.more - 1 } else
 { p with j:=(leap m p.i p.perturb).1,more:=runEnd m (leap m p.i p.perturb).1 - (leap m p.i p.perturb).1,i:=(leap m p.i p.perturb).1,perturb:=(leap m p.i p.perturb).2 }
def Wi (m i q:Nat):Probe:={ j:=i,more:=runEnd m i - i,i:=i,perturb:=q,dummy:=none }
def way (m:Nat) (h:Int):Nat→Probe
 |0=>Wi m (bits h % (m+1)) (bits h)
 |k+1=>Ta m (way m h k)
def lp (m:Nat) (h:Int):Nat→Nat×Nat
 |0=>(bits h % (m+1),bits h)
 |n+1=>leap m (lp m h n).1 (lp m h n).2
theorem G1 (m:Nat) (h:Int) (k:Nat):∀r:Nat,r≤(way m h k).more→way m h (k+r)={ way m h k with j:=(way m h k).j+r,more:=(way m h k).more - r }
 |0,_=>by simp
 |r+1,hr=>by
  have ih:=G1 m h k r (by omega)
  show Ta m (way m h (k+r))=_
  rw [ih]
  unfold Ta
  dsimp only
  rw [if_pos (by omega)]
  congr 1
theorem F0 (m i:Nat):i≤runEnd m i∧runEnd m i - i≤9:=by
 unfold runEnd
 split<;>omega
def p6 (m:Nat) (h:Int):Nat→Nat
 |0=>0
 |n+1=>p6 m h n+(runEnd m (lp m h n).1 - (lp m h n).1)+1
theorem Bb (m:Nat) (h:Int):∀n,way m h (p6 m h n)=Wi m (lp m h n).1 (lp m h n).2
 |0=>rfl
 |n+1=>by
  have ih:=Bb m h n
  show Ta m (way m h (p6 m h n+(runEnd m (lp m h n).1 - (lp m h n).1)))=_
  rw [G1 m h (p6 m h n) _ (by rw [ih];exact ai _),ih]
  unfold Ta Wi
  dsimp only
  rw [if_neg (by omega)]
  rfl
theorem NV (m:Nat) (h:Int):∀n,p6 m h n≤10 * n
 |0=>ai _
 |n+1=>by
  have ih:=NV m h n
  have:=(F0 m (lp m h n).1).2
  show p6 m h n+(runEnd m (lp m h n).1 - (lp m h n).1)+1≤_
  omega
theorem G2 (m:Nat) (h:Int) (n r:Nat) (hr:r≤runEnd m (lp m h n).1 - (lp m h n).1):(way m h (p6 m h n+r)).j=(lp m h n).1+r:=by
 rw [G1 m h (p6 m h n) r (by rw [Bb];exact hr),Bb]
 rfl
theorem F1 (m:Nat) (h:Int):∀k,(way m h k).dummy=none
 |0=>rfl
 |k+1=>by
  have ih:=F1 m h k
  show (Ta m (way m h k)).dummy=none
  unfold Ta
  split<;>exact ih
theorem YU (m:Nat) (h:Int):∀n,(lp m h n).1<m+1
 |0=>eS _ (fG _)
 |n+1=>eS _ (fG _)
theorem NW (m:Nat) (h:Int):∀n,(lp m h n).2=bits h / 32 ^ n
 |0=>by simp [lp]
 |n+1=>by
  show (lp m h n).2 / 32=_
  rw [NW m h n,Nat.div_div_eq_div_mul,Nat.pow_succ]
theorem TQ (h:Int):bits h<2 ^ 64:=by
 unfold bits
 have h1:(0:Int)<2 ^ 64:=by decide
 have h2:=Int.emod_nonneg h (show (2 ^ 64:Int)≠0 by decide)
 have h3:=Int.emod_lt_of_pos h h1
 omega
theorem Q0 (m:Nat) (h:Int) (n:Nat):(lp m h (13+n)).2=0:=by
 rw [NW]
 apply Nat.div_eq_of_lt
 have h1:=TQ h
 have h2:2 ^ 64≤32 ^ 13:=by decide
 have h3:32 ^ 13≤32 ^ (13+n):=Nat.pow_le_pow_right (by decide) (by omega)
 omega
def YV (m i:Nat):Nat→Nat
 |0=>i
 |n+1=>(YV m i n * 5+1) % (m+1)
theorem Q1 (m:Nat) (h:Int):∀n,(lp m h (13+n)).1=YV m (lp m h 13).1 n
 |0=>rfl
 |n+1=>by
  show (leap m (lp m h (13+n)).1 (lp m h (13+n)).2).1=_
  unfold leap
  dsimp only
  rw [Q0,Q1 m h n]
  rfl
def Mk (m:Nat):Prop:=m=7∨m=31
theorem TR {m i j:Nat}(hm:Mk m) (hi:i<m+1) (hj:j<m+1):∃n,n≤m∧YV m i n=j:=by
 rcases hm with rfl|rfl
 ·have all:(aQ 8).all (λi=>(aQ 8).all fun j=>(aQ 8).any fun n=>YV 7 i n==j)=true:=by decide +kernel
  have a1:=aL.mp (aL.mp all i (aM.mpr hi)) j (aM.mpr hj)
  obtain ⟨n,h1,h2⟩:=cZ.mp a1
  exact ⟨n,by have:=aM.mp h1;omega,by simpa using h2⟩
 ·have all:(aQ 32).all (λi=>(aQ 32).all fun j=>(aQ 32).any fun n=>YV 31 i n==j)=true:=by decide +kernel
  have a1:=aL.mp (aL.mp all i (aM.mpr hi)) j (aM.mpr hj)
  obtain ⟨n,h1,h2⟩:=cZ.mp a1
  exact ⟨n,by have:=aM.mp h1;omega,by simpa using h2⟩
theorem Q2 {m j:Nat}(hm:Mk m) (h:Int) (hj:j<m+1):∃n,n≤13+m∧(lp m h n).1=j:=by
 obtain ⟨n,h1,h2⟩:=TR hm (YU m h 13) hj
 exact ⟨13+n,by omega,by rw [Q1];exact h2⟩
theorem TU {m j:Nat}(hm:Mk m) (h:Int) (hj:j<m+1):∃k,k≤10 * (13+m)∧(way m h k).j=j:=by
 obtain ⟨n,h1,h2⟩:=Q2 hm h hj
 refine ⟨p6 m h n,?_,?_⟩
 ·have:=NV m h n
  omega
 ·rw [Bb]
  exact h2
theorem least {p:Nat→Prop} [DecidablePred p]:∀{n:Nat},p n→∃m,m≤n∧p m∧∀k,k<m→¬p k
 |0,h=>⟨0,ai _,h,λk hk=>by omega⟩
 |n+1,h=>by
  by_cases e:∃k,k≤n∧p k
  ·obtain ⟨k,h1,h2⟩:=e
   have:∀j,j≤k→p j→∃m,m≤j∧p m∧∀i,i<m→¬p i:=λj=>by
    induction j using Nat.strongRecOn with
    |ind j ih=>
     intro hj hp
     by_cases e2:∃i,i<j∧p i
     ·obtain ⟨i,i1,i2⟩:=e2
      obtain ⟨m,m1,m2,m3⟩:=ih i i1 (by omega) i2
      exact ⟨m,by omega,m2,m3⟩
     ·exact ⟨j,ai _,hp,λi hi q=>e2 ⟨i,hi,q⟩⟩
   obtain ⟨m,m1,m2,m3⟩:=this k (ai _) h2
   exact ⟨m,by omega,m2,m3⟩
  ·exact ⟨n+1,ai _,h,λk hk q=>e ⟨k,by omega,q⟩⟩
theorem GZ:∀(l:List Nat) (a m:Nat),l.Pairwise (·<·)→(∀x∈l,a≤x∧x≤m)→l.length+a≤m→∃j,a≤j∧j≤m∧j∉l
 |[],a,m,_,_,h=>⟨a,ai _,by simpa using h,by simp⟩
 |x::r,a,m,hp,hb,h=>by
  obtain ⟨h1,h2⟩:=fo.mp hp
  have hx:=hb x az
  by_cases e:x=a
  ·subst e
   obtain ⟨j,j1,j2,j3⟩:=GZ r (x+1) m h2 (λy hy=>⟨h1 y hy,(hb y (ag _ hy)).2⟩) (by simp only [aw] at h;omega)
   refine ⟨j,by omega,j2,λq=>?_⟩
   rcases aB.mp q with q|q
   ·omega
   ·exact j3 q
  ·refine ⟨a,ai _,by omega,λq=>?_⟩
   rcases aB.mp q with q|q
   ·exact e q.symm
   ·have:=h1 a q
    omega
theorem vD {xs:Array Nat}{j:Nat}(hs:xs.toList.Pairwise (·<·)):∀(fuel lo hi:Nat),hi - lo≤fuel→lo≤hi→hi≤xs.size→(∀i x,i<lo→xs[i]?=some x→x<j)→(∀i x,hi≤i→xs[i]?=some x→j≤x)→
  ∃r,below.go xs j fuel lo hi=r∧r≤xs.size∧(∀i x,i<r→xs[i]?=some x→x<j)∧(∀i x,r≤i→xs[i]?=some x→j≤x)
 |0,lo,hi,hf,hl,hh,h1,h2=>⟨lo,rfl,by omega,h1,λi x YW hx=>h2 i x (by omega) hx⟩
 |fuel+1,lo,hi,hf,hl,hh,h1,h2=>by
  unfold below.go
  have mono:∀(a b:Nat) (x y:Nat),a<b→xs[a]?=some x→xs[b]?=some y→x<y:=λa b x y hab ha hb=>by
   rw [←aW] at ha hb
   obtain ⟨la,ea⟩:=aO.mp ha
   obtain ⟨lb,eb⟩:=aO.mp hb
   have:=List.pairwise_iff_getElem.mp hs a b la lb hab
   rw [ea,eb] at this
   exact this
  by_cases yr:lo<hi
  ·rw [if_pos yr]
   dsimp only
   have hm:(lo+hi) / 2<hi:=by omega
   have hm2:lo≤(lo+hi) / 2:=by omega
   have hg:xs[(lo+hi) / 2]?=some (xs.getD ((lo+hi) / 2) j):=by
    rw [bC,bx (by omega)]
    rfl
   by_cases hc:xs.getD ((lo+hi) / 2) j<j
   ·rw [if_pos hc]
    refine vD hs fuel _ hi (by omega) (by omega) hh (λi x YW hx=>?_) h2
    by_cases e:i=(lo+hi) / 2
    ·subst e
     rw [hg] at hx
     have:=Option.some.inj hx
     omega
    ·have:=mono i ((lo+hi) / 2) x _ (by omega) hx hg
     omega
   ·rw [if_neg hc]
    refine vD hs fuel lo _ (by omega) (by omega) (by omega) h1 (λi x YW hx=>?_)
    by_cases e:i=(lo+hi) / 2
    ·subst e
     rw [hg] at hx
     have:=Option.some.inj hx
     omega
    ·have:=mono ((lo+hi) / 2) i _ x (by omega) hg hx
     omega
  ·rw [if_neg yr]
   exact ⟨lo,rfl,by omega,h1,λi x YW hx=>h2 i x (by omega) hx⟩
theorem J4 {xs:Array Nat}(hs:xs.toList.Pairwise (·<·)) (j:Nat):below xs j≤xs.size∧(∀i x,i<below xs j→xs[i]?=some x→x<j)∧(∀i x,below xs j≤i→xs[i]?=some x→j≤x):=by
 obtain ⟨r,e,h1,h2,h3⟩:=vD (j:=j) hs xs.size 0 xs.size (by omega) (by omega) (ai _) (λi x hi _=>by omega) (λi x hi hx=>by
  rw [cy hi] at hx
  cases hx)
 have e:below xs j=r:=e
 rw [e]
 exact ⟨h1,h2,h3⟩
theorem below_at {xs:Array Nat}(hs:xs.toList.Pairwise (·<·)) {i j:Nat}(h:xs[i]?=some j):below xs j=i:=by
 obtain ⟨h1,h2,h3⟩:=J4 hs j
 rcases Nat.lt_trichotomy (below xs j) i with q|q|q
 ·have hl:below xs j<xs.size:=by
   have:i<xs.size:=by
    rcases aX i xs.size with z|z
    ·exact z
    ·rw [cy z] at h
     cases h
   omega
  have e:=h3 (below xs j) _ (ai _) (bx hl)
  rw [←aW] at h
  obtain ⟨la,ea⟩:=aO.mp h
  have:=List.pairwise_iff_getElem.mp hs (below xs j) i (by simpa using hl) la q
  rw [ea] at this
  simp at this
  omega
 ·exact q
 ·have:=h2 i j q h
  omega
end My
end
section
namespace My
open PySem PySem.SetTable
structure AA (t:SetTable) (es:Array (Int×Value)):Prop where
 X6:Mk t.mask
 dm:t.dummies=#[]
 sz:t.place.size=es.size
 LS:es.size≤t.mask
 Vj:t.place.toList.Pairwise (·<·)
 le:∀i j:Nat,t.place[i]?=some j→j≤t.mask
 on:∀(i j:Nat) (e:Int×Value),t.place[i]?=some j→es[i]?=some e→∃k,(way t.mask e.1 k).j=j∧∀k',k'<k→(way t.mask e.1 k').j∈t.place.toList
section
variable {t:SetTable}{es:Array (Int×Value)}
theorem Bc {xs:Array Nat}{j:Nat}:j∈xs.toList↔∃i:Nat,xs[i]?=some j:=by
 rw [c9]
 constructor
 ·rintro ⟨i,h⟩
  exact ⟨i,by rw [←aW];exact h⟩
 ·rintro ⟨i,h⟩
  exact ⟨i,by rw [aW];exact h⟩
theorem AA.live (T:AA t es) {i j:Nat}(h:t.place[i]?=some j):t.slot j=.live i:=by
 unfold SetTable.slot
 dsimp only
 rw [below_at T.Vj h,h]
 simp
theorem AA.empty (T:AA t es) {j:Nat}(h:j∉t.place.toList):t.slot j=.empty:=by
 unfold SetTable.slot
 dsimp only
 rw [if_neg,if_neg]
 ·rw [T.dm]
  simp [has]
 ·intro q
  exact h (Bc.mpr ⟨_,by simpa using q⟩)
theorem AA.fits (T:AA t es):t.fits es.size=true:=by
 unfold SetTable.fits SetTable.fill
 rw [T.dm,T.sz]
 have:=T.LS
 simp
 omega
theorem AA.free (T:AA t es) (h:Int):∃m,m≤10 * (13+t.mask)∧(way t.mask h m).j∉t.place.toList∧∀k,k<m→(way t.mask h k).j∈t.place.toList:=by
 obtain ⟨j,_,j2,j3⟩:=GZ t.place.toList 0 t.mask T.Vj (λx hx=>by
  obtain ⟨i,hi⟩:=Bc.mp hx
  exact ⟨aK _,T.le i x hi⟩) (by
  have:=T.LS
  have:=T.sz
  simp
  omega)
 obtain ⟨k,k1,k2⟩:=TU T.X6 h (show j<t.mask+1 by omega)
 obtain ⟨m,m1,m2,m3⟩:=least (p:=λk=>(way t.mask h k).j∉t.place.toList) (n:=k) (by rw [k2];exact j3)
 exact ⟨m,by omega,m2,λk hk=>by
  have:=m3 k hk
  exact Decidable.of_not_not this⟩
inductive Q3 (t:SetTable) (ha:Nat→Int) (h:Int) (m k:Nat):Option Met→Prop
 |free (no:∀k' i:Nat,k≤k'→k'<m→t.place[i]?=some (way t.mask h k').j→ha i≠h):Q3 t ha h m k (some (.empty (way t.mask h m).j none))
 |TV (k' i:Nat) (h1:k≤k') (h2:k'<m) (h3:t.place[i]?=some (way t.mask h k').j) (h4:ha i=h) (no:∀Bd i:Nat,k≤Bd→Bd<k'→t.place[i]?=some (way t.mask h Bd).j→ha i≠h) :
   Q3 t ha h m k (some (.candidate (way t.mask h k').j i (way t.mask h (k'+1))))
theorem AA.go (T:AA t es) {ha:Nat→Int}{h:Int}{m:Nat}(hm:(way t.mask h m).j∉t.place.toList) (hl:∀k,k<m→(way t.mask h k).j∈t.place.toList):∀(fuel k:Nat),k≤m→m - k<fuel→Q3 t ha h m k (probe.go t ha h fuel (way t.mask h k))
 |0,k,_,hf=>by omega
 |fuel+1,k,hk,hf=>by
  unfold probe.go
  by_cases e:k=m
  ·subst e
   rw [T.empty hm]
   dsimp only
   rw [F1]
   exact .free fun k' i h1 h2=>by omega
  ·obtain ⟨i,hi⟩:=Bc.mp (hl k (by omega))
   rw [T.live hi]
   dsimp only
   by_cases q:(ha i==h)=true
   ·rw [if_pos q]
    have e2:t.advance (way t.mask h k)=way t.mask h (k+1):=rfl
    rw [e2]
    exact .TV k i (ai _) (by omega) hi (by simpa using q) fun Bd i h1 h2=>by omega
   ·rw [if_neg q]
    have e2:t.advance (way t.mask h k)=way t.mask h (k+1):=rfl
    rw [e2]
    have ih:=AA.go T (ha:=ha) (h:=h) hm hl fuel (k+1) (by omega) (by omega)
    have no:∀Bd i',k≤Bd→Bd<k+1→t.place[i']?=some (way t.mask h Bd).j→ha i'≠h:=λBd i' h1 h2 h3=>by
     have ek:Bd=k:=by omega
     subst ek
     have:i'=i:=(below_at T.Vj h3).symm.trans (below_at T.Vj hi)
     subst this
     intro z
     exact q (by simpa using z)
    generalize probe.go t ha h fuel (way t.mask h (k+1))=R at ih ⊢
    cases ih with
    |free no'=>
     refine .free fun k' i' h1 h2 h3=>?_
     ·rcases aX k' (k+1) with z|z
      ·exact no k' i' h1 z h3
      ·exact no' k' i' z h2 h3
    |TV k' i' h1 h2 h3 h4 no'=>
     refine .TV k' i' (by omega) h2 h3 h4 fun Bd i'' g1 g2 g3=>?_
     ·rcases aX Bd (k+1) with z|z
      ·exact no Bd i'' g1 z g3
      ·exact no' Bd i'' z g2 g3
theorem AA.probe (T:AA t es) {ha:Nat→Int}{h:Int}{m k:Nat}(hm:(way t.mask h m).j∉t.place.toList) (hl:∀k,k<m→(way t.mask h k).j∈t.place.toList) (hb:m≤10 * (13+t.mask)) (hk:k≤m):Q3 t ha h m k (t.probe ha h (way t.mask h k)):=
 T.go hm hl _ k hk (by unfold turns;omega)
theorem AA.met (T:AA t es) {h:Int}{m:Nat}(hm:(way t.mask h m).j∉t.place.toList) {i:Nat}{v:Value}(he:es[i]?=some (h,v)):∃k,k<m∧t.place[i]?=some (way t.mask h k).j:=by
 have hl:i<es.size:=by
  rcases aX i es.size with z|z
  ·exact z
  ·rw [cy z] at he
   cases he
 have hp:t.place[i]?=some (t.place[i]'(by rw [T.sz];exact hl)):=bx _
 obtain ⟨k,k1,k2⟩:=T.on i _ (h,v) hp he
 refine ⟨k,?_,by rw [k1];exact hp⟩
 rcases aX k m with z|z
 ·exact z
 ·exfalso
  rcases aX m k with y|y
  ·exact hm (k2 m y)
  ·have e:k=m:=by omega
   subst e
   dsimp only at k1
   rw [k1] at hm
   exact hm (Bc.mpr ⟨i,hp⟩)
theorem qW {α:Type}(xs:Array α) (p:Nat) (x:α) (hp:p≤xs.size) (i:Nat):(insertAt xs p x)[i]?=if i<p then xs[i]? else if i=p then some x else xs[i - 1]?:=by
 rw [←aW,toList_insertAt,List.getElem?_append]
 have hl:(xs.toList.take p).length=p:=by
  rw [bp]
  simp
  omega
 rw [hl]
 by_cases h1:i<p
 ·rw [if_pos h1,if_pos h1,dC,if_pos h1,aW]
 ·rw [if_neg h1,if_neg h1]
  by_cases h2:i=p
  ·subst h2
   rw [if_pos rfl,dD]
   rfl
  ·rw [if_neg h2,show i - p=(i - p - 1)+1 by omega,List.getElem?_cons_succ,List.getElem?_drop,aW]
   congr 1
   omega
theorem w4 {α:Type}(xs:Array α) (p:Nat) (x:α) (hp:p≤xs.size):(insertAt xs p x).size=xs.size+1:=by
 have:=(insertAt_perm xs p x).length_eq
 simpa using this
theorem G3 {l:List Nat}{p j:Nat}(hs:l.Pairwise (·<·)) (h1:∀x∈l.take p,x<j) (h2:∀x∈l.drop p,j<x):(l.take p++j::l.drop p).Pairwise (·<·):=by
 rw [List.pairwise_append]
 refine ⟨hs.sublist (dI _ _),?_,λa ha b hb=>?_⟩
 ·rw [fo]
  exact ⟨h2,hs.sublist (List.drop_sublist _ _)⟩
 ·rcases aB.mp hb with q|q
  ·rw [q]
   exact h1 a ha
  ·have:=h1 a ha
   have:=h2 b q
   omega
theorem AA.put (T:AA t es) {h:Int}{v:Value}{m:Nat}(hm:(way t.mask h m).j∉t.place.toList) (hl:∀k,k<m→(way t.mask h k).j∈t.place.toList) (hj:(way t.mask h m).j≤t.mask) (hr:es.size+1≤t.mask) :
  (t.put (way t.mask h m).j).2=below t.place (way t.mask h m).j∧AA (t.put (way t.mask h m).j).1 (insertAt es (below t.place (way t.mask h m).j) (h,v))∧(t.put (way t.mask h m).j).1.mask=t.mask∧below t.place (way t.mask h m).j≤es.size:=by
 obtain ⟨b1,b2,b3⟩:=J4 T.Vj (way t.mask h m).j
 have bs:below t.place (way t.mask h m).j≤es.size:=by rw [←T.sz];exact b1
 have old:∀x,x∈t.place.toList→x∈(insertAt t.place (below t.place (way t.mask h m).j) (way t.mask h m).j).toList:=λx hx=>by
  rw [(insertAt_perm _ _ _).mem_iff]
  simp at hx ⊢
  exact .inl hx
 refine ⟨rfl,?_,rfl,bs⟩
 refine ⟨T.X6,?_,?_,?_,?_,?_,?_⟩
 ·show (if has t.dummies _ then _ else t.dummies)=#[]
  rw [T.dm]
  rfl
 ·show (insertAt t.place _ _).size=(insertAt es _ _).size
  rw [w4 _ _ _ b1,w4 _ _ _ bs,T.sz]
 ·rw [w4 _ _ _ bs]
  exact hr
 ·show (insertAt t.place _ _).toList.Pairwise (·<·)
  rw [toList_insertAt]
  refine G3 T.Vj (λx hx=>?_) (λx hx=>?_)
  ·obtain ⟨i,hi⟩:=c9.mp hx
   rw [dC] at hi
   by_cases q:i<below t.place (way t.mask h m).j
   ·rw [if_pos q,aW] at hi
    exact b2 i x q hi
   ·rw [if_neg q] at hi
    cases hi
  ·obtain ⟨i,hi⟩:=c9.mp hx
   rw [List.getElem?_drop,aW] at hi
   have:=b3 _ x (by omega) hi
   rcases aX (way t.mask h m).j x with z|z
   ·exact z
   ·exact absurd (Bc.mpr ⟨_,hi⟩) (by rw [show x=(way t.mask h m).j by omega];exact hm)
 ·intro i j hi
  have hi:(insertAt t.place (below t.place (way t.mask h m).j) (way t.mask h m).j)[i]?=some j:=hi
  rw [qW _ _ _ b1] at hi
  by_cases q:i<below t.place (way t.mask h m).j
  ·rw [if_pos q] at hi
   exact T.le i j hi
  ·rw [if_neg q] at hi
   by_cases q2:i=below t.place (way t.mask h m).j
   ·rw [if_pos q2] at hi
    rw [←Option.some.inj hi]
    exact hj
   ·rw [if_neg q2] at hi
    exact T.le _ j hi
 ·intro i j e hi he
  have hi:(insertAt t.place (below t.place (way t.mask h m).j) (way t.mask h m).j)[i]?=some j:=hi
  rw [qW _ _ _ b1] at hi
  rw [qW _ _ _ bs] at he
  show ∃k,(way t.mask e.1 k).j=j∧∀k',k'<k→(way t.mask e.1 k').j∈(insertAt t.place (below t.place (way t.mask h m).j) (way t.mask h m).j).toList
  by_cases q:i<below t.place (way t.mask h m).j
  ·rw [if_pos q] at hi he
   obtain ⟨k,k1,k2⟩:=T.on i j e hi he
   exact ⟨k,k1,λk' z=>old _ (k2 k' z)⟩
  ·rw [if_neg q] at hi he
   by_cases q2:i=below t.place (way t.mask h m).j
   ·rw [if_pos q2] at hi he
    have e1:=Option.some.inj hi
    have e2:=Option.some.inj he
    subst e2
    subst e1
    exact ⟨m,rfl,λk' z=>old _ (hl k' z)⟩
   ·rw [if_neg q2] at hi he
    obtain ⟨k,k1,k2⟩:=T.on _ j e hi he
    exact ⟨k,k1,λk' z=>old _ (k2 k' z)⟩
theorem Mv (m:Nat) (h:Int):∀k,(way m h k).j+(way m h k).more≤m
 |0=>by
  show bits h % (m+1)+(runEnd m (bits h % (m+1)) - bits h % (m+1))≤m
  have:bits h % (m+1)<m+1:=eS _ (fG _)
  unfold runEnd
  split<;>omega
 |k+1=>by
  have ih:=Mv m h k
  show (Ta m (way m h k)).j+(Ta m (way m h k)).more≤m
  unfold Ta
  split
  ·dsimp only
   omega
  ·dsimp only
   have:(leap m (way m h k).i (way m h k).perturb).1<m+1:=eS _ (fG _)
   unfold runEnd
   split<;>omega
end
end My
end
section
namespace My
open PySem PySem.SetTable
theorem Mw {n:Nat}{p:Nat→Bool}:(∃k,(aQ n).find? p=some k∧k<n∧p k=true∧∀k',k'<k→p k'=false)∨((aQ n).find? p=none∧∀k,k<n→p k=false):=by
 cases e:(aQ n).find? p with
 |none=>
  refine .inr ⟨rfl,λk hk=>?_⟩
  have:=List.find?_eq_none.mp e k (aM.mpr hk)
  simpa using this
 |some k=>
  refine .inl ⟨k,rfl,?_⟩
  obtain ⟨h1,h2,h3⟩:=List.find?_range_eq_some.mp e
  exact ⟨aM.mp h2,h1,λk' QL=>by simpa using h3 k' QL⟩
def Own (ow:Array (Option Nat)) (j:Nat):Prop:=∃x,ow[j]?=some (some x)
theorem Q4 {ow:Array (Option Nat)}{j:Nat}(hj:j<ow.size) (h:(ow.getD j (some 0)).isNone=false):Own ow j:=by
 rw [bC,bx hj] at h
 unfold Own
 rw [bx hj]
 cases e:ow[j] with
 |none=>
  rw [e] at h
  cases h
 |some x=>exact ⟨x,rfl⟩
theorem G4 {ow:Array (Option Nat)}{j:Nat}(hj:j<ow.size) (h:(ow.getD j (some 0)).isNone=true):ow[j]?=some none:=by
 rw [bC,bx hj] at h
 rw [bx hj]
 cases e:ow[j] with
 |none=>rfl
 |some x=>
  rw [e] at h
  cases h
theorem F2 {m:Nat}{ow:Array (Option Nat)}{h:Int}(hs:ow.size=m+1) {n0:Nat}(h0:¬Own ow (lp m h n0).1):∀(fuel n:Nat),n≤n0→n0 - n<fuel→(∀k,k<p6 m h n→Own ow (way m h k).j)→
  ∃j k,layClean.free m ow fuel (lp m h n).1 (lp m h n).2=some j∧(way m h k).j=j∧ow[j]?=some none∧∀k',k'<k→Own ow (way m h k').j
 |0,n,_,hf,_=>by omega
 |fuel+1,n,hn,hf,hb=>by
  unfold layClean.free
  have hle:(lp m h n).1+(runEnd m (lp m h n).1 - (lp m h n).1)≤m:=by
   have:=Mv m h (p6 m h n)
   rw [Bb] at this
   exact this
  have hr:=(F0 m (lp m h n).1).1
  rcases Mw (n:=runEnd m (lp m h n).1+1 - (lp m h n).1) (p:=λk=>(ow.getD ((lp m h n).1+k) (some 0)).isNone) with ⟨k,e,k1,k2,k3⟩|⟨e,k1⟩
  ·rw [e]
   refine ⟨_,p6 m h n+k,rfl,G2 m h n k (by omega),G4 (by omega) k2,λk' QL=>?_⟩
   rcases aX k' (p6 m h n) with z|z
   ·exact hb k' z
   ·have e2:=G2 m h n (k' - p6 m h n) (by omega)
    rw [show p6 m h n+(k' - p6 m h n)=k' by omega] at e2
    rw [e2]
    exact Q4 (by omega) (k3 _ (by omega))
  ·rw [e]
   have jQ:∀r,r≤runEnd m (lp m h n).1 - (lp m h n).1→Own ow ((lp m h n).1+r):=λr hr'=>Q4 (by omega) (k1 r (by omega))
   have GS:n≠n0:=λq=>by
    subst q
    exact h0 (by have:=jQ 0 (by omega);simpa using this)
   refine F2 hs h0 fuel (n+1) (by omega) (by omega) fun k' QL=>?_
   have QL:k'<p6 m h n+(runEnd m (lp m h n).1 - (lp m h n).1)+1:=QL
   rcases aX k' (p6 m h n) with z|z
   ·exact hb k' z
   ·have e2:=G2 m h n (k' - p6 m h n) (by omega)
    rw [show p6 m h n+(k' - p6 m h n)=k' by omega] at e2
    rw [e2]
    exact jQ _ (by omega)
theorem Q5:∀(m:Nat) (l:List Nat),l.length<m→∃j,j<m∧j∉l
 |0,l,h=>by omega
 |m+1,l,h=>by
  by_cases e:m∈l
  ·have hl:=List.length_erase_of_mem e
   have:=List.length_pos_of_mem e
   obtain ⟨j,j1,j2⟩:=Q5 m (l.erase m) (by omega)
   refine ⟨j,by omega,λq=>j2 ?_⟩
   exact (List.mem_erase_of_ne (by omega)).mpr q
  ·exact ⟨m,by omega,e⟩
theorem count_set {f g:Nat→Bool}{j:Nat}(hf:f j=false) (hg:g j=true) (he:∀i,i≠j→g i=f i):∀n,((aQ n).filter g).length=((aQ n).filter f).length+if j<n then 1 else 0
 |0=>rfl
 |n+1=>by
  rw [dH,dE,dE,ay,ay,count_set hf hg he n]
  by_cases e:n=j
  ·subst e
   simp [List.filter,hf,hg]
  ·have:=he n e
   simp only [List.filter,this]
   by_cases q:j<n
   ·rw [if_pos q,if_pos (by omega)]
    omega
   ·rw [if_neg q,if_neg (by omega)]
    omega
def G5 (ow:Array (Option Nat)) (j:Nat):Bool:=(ow.getD j none).isSome
theorem w6 {ow:Array (Option Nat)}{j:Nat}:G5 ow j=true↔Own ow j:=by
 unfold G5 Own
 rw [bC]
 cases e:ow[j]? with
 |none=>simp
 |some x=>
  cases x with
  |none=>simp
  |some y=>simp
structure Wj (m:Nat) (hs:List Int) (ow:Array (Option Nat)) (k:Nat):Prop where
 sz:ow.size=m+1
 on:∀(j x:Nat),ow[j]?=some (some x)→x<k∧∃h s,hs[x]?=some h∧(way m h s).j=j∧∀k',k'<s→Own ow (way m h k').j
 all:∀x:Nat,x<k→∃j:Nat,ow[j]?=some (some x)
 cnt:((aQ (m+1)).filter (G5 ow)).length=k
theorem Wj.step {m:Nat}(hm:Mk m) {hs:List Int}{ow:Array (Option Nat)}{k:Nat}(L:Wj m hs ow k) {h:Int}(hh:hs[k]?=some h) (hk:k≤m) :
  ∃j,layClean.free m ow (turns m) (bits h % (m+1)) (bits h)=some j∧Wj m hs (ow.setIfInBounds j (some k)) (k+1):=by
 obtain ⟨j0,j1,j2⟩:=Q5 (m+1) ((aQ (m+1)).filter (G5 ow)) (by rw [L.cnt];omega)
 obtain ⟨n0,n1,n2⟩:=Q2 hm h j1
 have TX:¬Own ow (lp m h n0).1:=λq=>j2 (by
  rw [dc]
  exact ⟨aM.mpr j1,w6.mpr (by rw [←n2];exact q)⟩)
 obtain ⟨j,s,e1,e2,e3,e4⟩:=F2 L.sz TX (turns m) 0 (aK _) (by unfold turns;omega) (λk hk=>by cases hk)
 have hj:j<ow.size:=by
  rcases aX j ow.size with z|z
  ·exact z
  ·rw [cy z] at e3
   cases e3
 have get:∀i:Nat,(ow.setIfInBounds j (some k))[i]?=if i=j then some (some k) else ow[i]?:=λi=>by
  rw [Array.getElem?_setIfInBounds]
  by_cases q:j=i
  ·subst q
   simp [hj]
  ·have q2:¬i=j:=λz=>q z.symm
   simp [q,q2]
 have mono:∀i,Own ow i→Own (ow.setIfInBounds j (some k)) i:=λi ⟨x,hx⟩=>by
  by_cases q:i=j
  ·exact ⟨k,by rw [get,if_pos q]⟩
  ·exact ⟨x,by rw [get,if_neg q];exact hx⟩
 refine ⟨j,e1,?_⟩
 refine ⟨by rw [Array.size_setIfInBounds];exact L.sz,λi x hx=>?_,λx hx=>?_,?_⟩
 ·rw [get] at hx
  by_cases q:i=j
  ·rw [if_pos q] at hx
   have ex:=Option.some.inj (Option.some.inj hx)
   subst ex
   exact ⟨by omega,h,s,hh,by rw [q];exact e2,λk' z=>mono _ (e4 k' z)⟩
  ·rw [if_neg q] at hx
   obtain ⟨x1,h',s',x2,x3,x4⟩:=L.on i x hx
   exact ⟨by omega,h',s',x2,x3,λk' z=>mono _ (x4 k' z)⟩
 ·by_cases q:x=k
  ·subst q
   exact ⟨j,by rw [get,if_pos rfl]⟩
  ·obtain ⟨i,hi⟩:=L.all x (by omega)
   refine ⟨i,?_⟩
   rw [get,if_neg (λz=>by subst z;rw [e3] at hi;cases hi)]
   exact hi
 ·rw [count_set (f:=G5 ow) (j:=j),L.cnt,if_pos (by rw [←L.sz];exact hj)]
  ·cases z:G5 ow j with
   |false=>rfl
   |true=>
    obtain ⟨x,hx⟩:=w6.mp z
    rw [e3] at hx
    cases hx
  ·exact w6.mpr ⟨k,by rw [get,if_pos rfl]⟩
  ·intro i hi
   unfold G5
   rw [bC,bC,get,if_neg hi]
theorem J5 {m:Nat}(hm:Mk m) {hs:List Int}:∀(rest:List Int) (ow:Array (Option Nat)) (k:Nat),Wj m hs ow k→hs.drop k=rest→hs.length≤m+1→
  ∃ow',(rest.foldl (λacc h=>acc.bind fun x=>(layClean.free m x.1 (turns m) (bits h % (m+1)) (bits h)).bind fun j=>some (x.1.setIfInBounds j (some x.2),x.2+1)) (some (ow,k)))=some (ow',k+rest.length)∧Wj m hs ow' (k+rest.length)
 |[],ow,k,L,_,_=>⟨ow,rfl,L⟩
 |h::r,ow,k,L,hd,hl=>by
  have hk:k<hs.length:=by
   rcases aX k hs.length with z|z
   ·exact z
   ·rw [List.drop_eq_nil_of_le z] at hd
    cases hd
  rw [bw hk] at hd
  injection hd with d1 d2
  obtain ⟨j,e1,L'⟩:=L.step hm (h:=h) (by rw [aE hk,d1]) (by omega)
  obtain ⟨ow',e2,L2⟩:=J5 hm r _ _ L' d2 hl
  refine ⟨ow',?_,?_⟩
  ·rw [List.foldl_cons]
   show List.foldl _ (Option.bind (layClean.free m ow (turns m) (bits h % (m+1)) (bits h)) _) r=_
   rw [e1]
   show List.foldl _ (some (ow.setIfInBounds j (some k),k+1)) r=_
   rw [e2]
   simp only [aw]
   congr 2
   omega
  ·rw [aw,show k+(r.length+1)=k+1+r.length by omega]
   exact L2
theorem J6 {m:Nat}(hm:Mk m) (hs:Array Int) (hl:hs.size≤m+1):∃ow,layClean m hs=some ow∧Wj m hs.toList ow hs.size:=by
 have h0:Wj m hs.toList (Array.replicate (m+1) none) 0:=by
  refine ⟨by simp,λj x hx=>?_,λx hx=>by omega,?_⟩
  ·rw [Array.getElem?_replicate] at hx
   split at hx
   ·cases hx
   ·cases hx
  ·rw [List.length_eq_zero_iff,List.filter_eq_nil_iff]
   intro j hj q
   obtain ⟨x,hx⟩:=w6.mp q
   rw [Array.getElem?_replicate] at hx
   split at hx
   ·cases hx
   ·cases hx
 obtain ⟨ow,e,L⟩:=J5 hm hs.toList _ 0 h0 rfl (by simpa using hl)
 refine ⟨ow,?_,by simpa using L⟩
 unfold layClean
 rw [←Array.foldl_toList]
 have e2:=congrArg (Option.map (·.1)) e
 exact e2
theorem TY {t:SetTable}{es:Array (Int×Value)}{m:Nat}(hm:Mk m) (hl:es.size≤m) {f v:Nat}{a b:Bool}:∃t' order,laid m f v a b (es.map (·.1))=some (t',order)∧(order.filterMap (es[·]?)).size=es.size∧AA t' (order.filterMap (es[·]?))∧t'.mask=m∧∀e,e∈(order.filterMap (es[·]?)).toList↔e∈es.toList:=by
 obtain ⟨ow,e1,L⟩:=J6 hm (es.map (·.1)) (by simp;omega)
 have hz:(es.map (·.1)).size=es.size:=by simp
 rw [hz] at L
 unfold laid
 rw [e1]
 refine ⟨_,_,rfl,?_⟩
 generalize hlv:(aQ (m+1)).filterMap (λj=>(ow.getD j none).map (Prod.mk j))=live
 have lvm:∀j x:Nat,(j,x)∈live↔ow[j]?=some (some x):=λj x=>by
  rw [←hlv,ee]
  constructor
  ·rintro ⟨i,i1,i2⟩
   rw [bC] at i2
   cases e:ow[i]? with
   |none=>
    rw [e] at i2
    cases i2
   |some y=>
    rw [e] at i2
    cases y with
    |none=>cases i2
    |some z=>
     have i2:some (i,z)=some (j,x):=i2
     injection i2 with i2
     injection i2 with i3 i4
     subst i3 i4
     exact e
  ·intro hx
   refine ⟨j,aM.mpr ?_,?_⟩
   ·rw [←L.sz]
    rcases aX j ow.size with z|z
    ·exact z
    ·rw [cy z] at hx
     cases hx
   ·rw [bC,hx]
    rfl
 have lv1:live.map (·.1)=(aQ (m+1)).filter (G5 ow):=by
  rw [←hlv,List.map_filterMap]
  induction aQ (m+1) with
  |nil=>rfl
  |cons i r ih=>
   rw [bj,cc,ih]
   unfold G5
   cases ow.getD i none<;>rfl
 have lvl:live.length=es.size:=by
  have:=L.cnt
  rw [←lv1,aa] at this
  exact this
 have ord:((live.map (·.2)).toArray.filterMap (es[·]?)).toList=live.filterMap (λx=>es[x.2]?):=by
  rw [Array.toList_filterMap]
  show (live.map (·.2)).filterMap _=_
  rw [fq]
  rfl
 have lt2:∀x∈live,x.2<es.size:=λx hx=>(L.on x.1 x.2 ((lvm x.1 x.2).mp hx)).1
 have fm:∀(l:List (Nat×Nat)),(∀x∈l,x.2<es.size)→(l.filterMap (λx=>es[x.2]?)).length=l.length∧∀i:Nat,(l.filterMap (λx=>es[x.2]?))[i]?=l[i]?.bind fun x=>es[x.2]?:=λl=>by
  induction l with
  |nil=>
   intro _
   exact ⟨rfl,λi=>rfl⟩
  |cons x r ih=>
   intro hx
   obtain ⟨i1,i2⟩:=ih fun y hy=>hx y (ag _ hy)
   have hx':=hx x az
   rw [bj,bx hx']
   dsimp only
   refine ⟨by rw [aw,aw,i1],λi=>?_⟩
   cases i with
   |zero=>
    show some _=es[x.2]?
    rw [bx hx']
   |succ i=>exact i2 i
 obtain ⟨f1,f2⟩:=fm live lt2
 have YX:∀j,Own ow j→j∈live.map (·.1):=λj ⟨x,hx⟩=>bB.mpr ⟨(j,x),(lvm j x).mpr hx,rfl⟩
 have hsz:((live.map (·.2)).toArray.filterMap (es[·]?)).size=es.size:=by
  rw [←dU,ord,f1,lvl]
 refine ⟨hsz,⟨hm,rfl,?_,by rw [hsz];exact hl,?_,?_,?_⟩,rfl,?_⟩
 ·show (live.map (·.1)).toArray.size=_
  rw [hsz]
  simp [lvl]
 ·show (live.map (·.1)).Pairwise (·<·)
  rw [lv1]
  exact List.Pairwise.sublist e6 List.pairwise_lt_range
 ·intro i j hi
  have hi:(live.map (·.1)).toArray[i]?=some j:=hi
  have:j∈live.map (·.1):=ax (by simpa using hi)
  rw [lv1,dc,aM] at this
  show j≤m
  omega
 ·intro i j e hi he
  have hi:(live.map (·.1)).toArray[i]?=some j:=hi
  have hi:(live.map (·.1))[i]?=some j:=by simpa using hi
  rw [←aW,ord,f2] at he
  rw [ah] at hi
  cases q:live[i]? with
  |none=>
   rw [q] at hi
   cases hi
  |some x=>
   rw [q] at hi he
   have e1:x.1=j:=Option.some.inj hi
   have he:es[x.2]?=some e:=he
   obtain ⟨x1,h,s,x2,x3,x4⟩:=L.on x.1 x.2 ((lvm x.1 x.2).mp (ax q))
   have eh:h=e.1:=by
    rw [aW,Array.getElem?_map,he] at x2
    exact (Option.some.inj x2).symm
   subst eh
   exact ⟨s,by rw [←e1];exact x3,λk' z=>YX _ (x4 k' z)⟩
 ·intro e
  rw [ord,ee]
  constructor
  ·rintro ⟨x,_,hx⟩
   rw [←aW] at hx
   exact ax hx
  ·intro he
   obtain ⟨x,hx⟩:=c9.mp he
   rw [aW] at hx
   have hxl:x<es.size:=by
    rcases aX x es.size with z|z
    ·exact z
    ·rw [cy z] at hx
     cases hx
   obtain ⟨j,hj⟩:=L.all x hxl
   exact ⟨(j,x),(lvm j x).mpr hj,hx⟩
end My
end
section
namespace My
open PySem PySem.SetTable
section
variable {prog:Program}{w:World}{A:Around}{E:Value→Shared→Prop}{s:Shared}
theorem J7 (n:Nat) {v:Value}(h:carriedByValue v=true):ofAClassStatement n v=pure false:=by
 cases v with
 |ref a=>cases h
 |_=>cases n<;>rfl
theorem Mx (n:Nat) {v:Value}{k:Int}(h:(intKind prog w).is k v=true):hashByValue n v=pure true:=by
 cases v with
 |int i t=>cases n<;>rfl
 |_=>cases h
theorem NX {ks:List Int}{b:Addr}{Q:Bool→Shared→Prop}(hk:IsTupleKey (intKind prog w) s.heap ks b) (h:Q false s):wpAny (model prog w) A (ofAClassStatement 8 (.ref b)) Q E s:=by
 have hT:=hk.typeIs
 obtain ⟨o,items,n,ho,_,hd,hi⟩:=hk
 unfold ofAClassStatement
 refine wpAny_bind (wpAny_typeOf hT ?_)
 try dsimp only
 refine wpAny_bind (wpAny_pure ?_)
 try dsimp only
 refine wpAny_bind (wpAny_seqItems ho hd ?_)
 dsimp only
 refine wpAny_bind ?_
 rw [←Array.forIn_toList]
 refine wpAny_forIn_list _ (λrest r s'=>r.1=none∧s'=s∧∀v∈rest,carriedByValue v=true) _ ?_ ?_ _ _ ⟨rfl,rfl,hi.byValue⟩
 ·rintro v rest r s' ⟨hr,rfl,jQ⟩
  rw [J7 _ (jQ v az)]
  refine wpAny_bind (wpAny_pure ?_)
  exact wpAny_pure ⟨rfl,rfl,λu hu'=>jQ u (ag _ hu')⟩
 ·rintro ⟨r1,r2⟩ s' ⟨hr,rfl,_⟩
  simp only at hr
  subst hr
  exact wpAny_pure h
theorem OZ {ks:List Int}{b:Addr}{Q:Bool→Shared→Prop}(hk:IsTupleKey (intKind prog w) s.heap ks b) (h:Q true s):wpAny (model prog w) A (hashByValue 8 (.ref b)) Q E s:=by
 have hT:=hk.typeIs
 obtain ⟨o,items,n,ho,_,hd,hi⟩:=hk
 unfold hashByValue
 refine wpAny_bind (wpAny_specialOf hT F.slot_tuple_hash.lookup ?_)
 dsimp only
 refine wpAny_bind (wpAny_seqItems ho hd ?_)
 dsimp only [Option.getD]
 refine wpAny_bind ?_
 rw [←Array.forIn_toList]
 refine wpAny_forIn_list _ (λrest r s'=>r.1=none∧s'=s∧∃l,ItemsAre (intKind prog w) l rest) _ ?_ ?_ _ _ ⟨rfl,rfl,ks,hi⟩
 ·rintro v rest r s' ⟨hr,rfl,l,jQ⟩
  cases jQ with
  |cons h1 h2=>
   rw [Mx _ h1]
   refine wpAny_bind (wpAny_pure ?_)
   exact wpAny_pure ⟨rfl,rfl,_,h2⟩
 ·rintro ⟨r1,r2⟩ s' ⟨hr,rfl,_⟩
  simp only at hr
  subst hr
  exact wpAny_pure h
theorem TZ {x:Addr}{K:List Int}{l:List Value}{Q:Bool→Shared→Prop}(hx:IsTupleKey (intKind prog w) s.heap K x) (hl:∀v∈l,∃b k,v=.ref b∧IsTupleKey (intKind prog w) s.heap k b) (h:Q false s) :
  wpAny (model prog w) A (searchCouldBeSeen (.ref x) l) Q E s:=by
 unfold searchCouldBeSeen
 refine wpAny_bind ?_
 refine wpAny_forIn_list _ (λrest r s'=>r.1=none∧s'=s∧∀v∈rest,∃b k,v=.ref b∧IsTupleKey (intKind prog w) s.heap k b) _ ?_ ?_ _ _ ⟨rfl,rfl,hl⟩
 ·rintro v rest r s' ⟨hr,rfl,jQ⟩
  obtain ⟨b,k,rfl,hb⟩:=jQ v az
  have next:∀u∈rest,∃b k,u=.ref b∧IsTupleKey (intKind prog w) s'.heap k b:=λu hu'=>jQ u (ag _ hu')
  dsimp only
  split
  ·exact wpAny_pure ⟨rfl,rfl,next⟩
  ·refine wpAny_bind (wpAny_eqIsQuiet_tuple hx ?_)
   simp only [Bool.not_true,bJ,if_false]
   refine wpAny_bind (wpAny_eqIsQuiet_tuple hb ?_)
   simp only [Bool.not_true,bJ,if_false]
   refine wpAny_bind (NX hx ?_)
   simp only [bJ,if_false]
   refine wpAny_bind (NX hb ?_)
   simp only [bJ,if_false]
   exact wpAny_pure ⟨rfl,rfl,next⟩
 ·rintro ⟨r1,r2⟩ s' ⟨hr,rfl,_⟩
  simp only at hr
  subst hr
  exact wpAny_pure h
def Ent (prog:Program) (w:World) (h:Heap) (e:Int×Value) (k:List Int):Prop:=e.1=tupleKeyHash (intKind prog w) k∧∃b,e.2=.ref b∧IsTupleKey (intKind prog w) h k b
theorem F3 {a x:Addr}{o:Obj}{es:Array (Int×Value)}{ep:Nat}{t:SetTable}{K:List Int}{ks:List (List Int)}{m:Nat}{Q:SetFound→Shared→Prop}(hu:A.units<cLine)
  (ho:s.heap.get? a=some o) (hd:o.data=.set es ep t) (T:AA t es) (h1:∀e∈es.toList,∃k∈ks,Ent prog w s.heap e k) (h2:∀k∈ks,∃e∈es.toList,Ent prog w s.heap e k) (hx:IsTupleKey (intKind prog w) s.heap K x)
  (hm:(way t.mask (tupleKeyHash (intKind prog w) K) m).j∉t.place.toList) (hl:∀k,k<m→(way t.mask (tupleKeyHash (intKind prog w) K) k).j∈t.place.toList) (hb:m≤10 * (13+t.mask))
  (qin:K∈ks→Q (.there none) s) (YY:K∉ks→Q (.free (way t.mask (tupleKeyHash (intKind prog w) K) m).j false) s) :
  ∀(fuel k:Nat) (st:Option Probe),k≤m→m - k<fuel→st.getD (t.probeStart (tupleKeyHash (intKind prog w) K))=way t.mask (tupleKeyHash (intKind prog w) K) k→
   (∀(k' i:Nat) (e:Int×Value),k'<k→t.place[i]?=some (way t.mask (tupleKeyHash (intKind prog w) K) k').j→es[i]?=some e→¬Ent prog w s.heap e K)→
   wpAny (model prog w) A (setSearchFrom a (.ref x) (tupleKeyHash (intKind prog w) K) true fuel st) Q E s
 |0,k,st,_,hf,_,_=>by omega
 |fuel+1,k,st,hk,hf,zr,TX=>by
  have P:=T.probe (ha:=λi=>(es[i]?.map (·.1)).getD 0) hm hl hb hk
  unfold setSearchFrom
  refine wpAny_bind (wpAny_setState_of ho hd T.fits ?_)
  dsimp only
  have hg:t.gaveWay=false:=by
   unfold SetTable.gaveWay
   rcases T.X6 with q|q<;>rw [q]<;>rfl
  rw [hg,zr]
  simp only [bJ,if_false]
  have uniq:∀{i i' j:Nat},t.place[i]?=some j→t.place[i']?=some j→i=i':=λh h'=>(below_at T.Vj h).symm.trans (below_at T.Vj h')
  have ent:∀{i:Nat} {e:Int×Value},es[i]?=some e→e∈es.toList:=λh=>ax (by rw [aW];exact h)
  split
  ·rename_i met YZ
   have P2:Q3 t (λi=>(es[i]?.map (·.1)).getD 0) (tupleKeyHash (intKind prog w) K) m k (some met):=by
    have e:t.probe (λi=>(es[i]?.map (·.1)).getD 0) (tupleKeyHash (intKind prog w) K) (way t.mask (tupleKeyHash (intKind prog w) K) k)=some met:=YZ
    rw [e] at P
    exact P
   clear YZ P
   cases P2 with
   |free no=>
    dsimp only
    refine wpAny_pure (YY fun TN=>?_)
    obtain ⟨e,he,hE⟩:=h2 K TN
    obtain ⟨i,hi⟩:=c9.mp he
    rw [aW] at hi
    have Q6:es[i]?=some (tupleKeyHash (intKind prog w) K,e.2):=by
     rw [hi,←hE.1]
    obtain ⟨k',k1,k2⟩:=T.met hm Q6
    rcases aX k' k with z|z
    ·exact TX k' i e z k2 hi hE
    ·refine no k' i z k1 k2 ?_
     try dsimp only
     rw [Q6]
     rfl
   |TV k' i c1 c2 c3 c4 no=>
    dsimp only
    obtain ⟨e,he⟩:∃e,es[i]?=some e:=by
     cases q:es[i]? with
     |some e=>exact ⟨e,rfl⟩
     |none=>
      exfalso
      have z1:=Array.getElem?_eq_none_iff.mp q
      have z2:=Array.getElem?_eq_some_iff.mp c3
      obtain ⟨z2,_⟩:=z2
      have:=T.sz
      omega
    obtain ⟨kk,hkk,hE⟩:=h1 e (ent he)
    obtain ⟨e1,b,e2,hb'⟩:=hE
    obtain ⟨eh,ev⟩:=e
    dsimp only at e1 e2
    subst e2
    have ext:¬kk=K→∀(Bd i':Nat) (e:Int×Value),Bd<k'+1→t.place[i']?=some (way t.mask (tupleKeyHash (intKind prog w) K) Bd).j→es[i']?=some e→¬Ent prog w s.heap e K:=λne Bd i' e y1 y2 y3 y4=>by
     rcases aX Bd k with z|z
     ·exact TX Bd i' e z y2 y3 y4
     ·rcases aX Bd k' with z2|z2
      ·refine no Bd i' z z2 y2 ?_
       try dsimp only
       rw [y3]
       exact y4.1
      ·have ek:Bd=k':=by omega
       subst ek
       have ei:=uniq y2 c3
       subst ei
       rw [he] at y3
       have ey:=Option.some.inj y3
       subst ey
       obtain ⟨_,b2,q1,q2⟩:=y4
       injection q1 with q1
       subst q1
       exact ne (hb'.inj q2)
    have rest:wpAny (model prog w) A (do
      let equal ←holding [Value.ref b] (eqBool (Value.ref b) (Value.ref x))
      let z ←setState a
      if (true&&equal)=true then pure (SetFound.there none)
      else match z.2.snd.sameMemory t.moves t.mask with
       |some same=>
        match if same=true then z.2.snd.slot (way t.mask (tupleKeyHash (intKind prog w) K) k').j else Slot.empty with
        |Slot.live i'=>
         match z.fst[i']? with
         |some (_,y')=>do
          let same ←isSame y' (Value.ref b)
          let still ←pure (if same=true then some i' else none)
          match still with
          |none=>do
           rule "set.search.anew"
           setSearchFrom a (Value.ref x) (tupleKeyHash (intKind prog w) K) true fuel none
          |some i'=>if equal=true then pure (SetFound.there (some i')) else setSearchFrom a (Value.ref x) (tupleKeyHash (intKind prog w) K) true fuel (some (way t.mask (tupleKeyHash (intKind prog w) K) (k'+1)))
         |none=>do
          let still ←pure none
          match still with
          |none=>do
           rule "set.search.anew"
           setSearchFrom a (Value.ref x) (tupleKeyHash (intKind prog w) K) true fuel none
          |some i'=>if equal=true then pure (SetFound.there (some i')) else setSearchFrom a (Value.ref x) (tupleKeyHash (intKind prog w) K) true fuel (some (way t.mask (tupleKeyHash (intKind prog w) K) (k'+1)))
        |_=>do
         let still ←pure none
         match still with
         |none=>do
          rule "set.search.anew"
          setSearchFrom a (Value.ref x) (tupleKeyHash (intKind prog w) K) true fuel none
         |some i'=>if equal=true then pure (SetFound.there (some i')) else setSearchFrom a (Value.ref x) (tupleKeyHash (intKind prog w) K) true fuel (some (way t.mask (tupleKeyHash (intKind prog w) K) (k'+1)))
       |_=>unsupported "set.changed-during-lookup:is-the-new-block-at-the-old-address") Q E s:=by
     refine wpAny_bind (wpAny_holding (wpAny_eqBool_tuple hu hb' hx ?_))
     refine wpAny_bind (wpAny_setState_of ho hd T.fits ?_)
     by_cases ek:kk=K
     ·rw [decide_eq_true ek]
      simp only [Bool.and_self,if_true]
      exact wpAny_pure (qin (ek▸hkk))
     ·rw [decide_eq_false ek]
      simp only [eC,bJ,if_false]
      have sm:t.sameMemory t.moves t.mask=some true:=by
       unfold SetTable.sameMemory
       simp
      rw [sm]
      simp only [if_true]
      rw [T.live c3]
      dsimp only
      rw [he]
      dsimp only
      refine wpAny_bind (wpAny_isSame_ref_self ?_)
      simp only [if_true]
      refine wpAny_bind (wpAny_pure ?_)
      dsimp only
      exact F3 hu ho hd T h1 h2 hx hm hl hb qin YY fuel (k'+1) (some _) (by omega) (by omega) rfl (ext ek)
    rw [he]
    dsimp only
    cases t.led with
    |true=>
     simp only [Bool.not_true,bJ,if_false]
     exact rest
    |false=>
     simp only [Bool.not_false,if_true]
     refine wpAny_bind (TZ hx (λv hv=>?_) ?_)
     ·obtain ⟨e,e1,rfl⟩:=bB.mp hv
      have e1:e∈es.toList:=by
       have:=(Array.mem_filter.mp (eW.mp e1)).1
       exact eW.mpr this
      obtain ⟨k2,_,hE2⟩:=h1 e e1
      obtain ⟨_,b2,q1,q2⟩:=hE2
      exact ⟨b2,k2,q1,q2⟩
     ·simp only [bJ,if_false]
      exact rest
  ·rename_i GS
   exfalso
   cases q:t.probe (λi=>(es[i]?.map (·.1)).getD 0) (tupleKeyHash (intKind prog w) K) (way t.mask (tupleKeyHash (intKind prog w) K) k) with
   |none=>
    rw [q] at P
    cases P
   |some met=>exact GS met q
end
end My
end
section
namespace My
open PySem PySem.SetTable
section
variable {prog:Program}{w:World}{A:Around}{E:Value→Shared→Prop}{s:Shared}
structure aay (prog:Program) (w:World) (h:Heap) (a:Addr) (ks:List (List Int)) (o:Obj) (es:Array (Int×Value)) (ep:Nat) (t:SetTable):Prop where
 ho:h.get? a=some o
 ex:o.ExactSet
 hd:o.data=.set es ep t
 T:AA t es
 m7:t.mask=7→es.size≤4
 n:es.size=ks.length
 h1:∀e∈es.toList,∃k∈ks,Ent prog w h e k
 h2:∀k∈ks,∃e∈es.toList,Ent prog w h e k
def sZ (prog:Program) (w:World) (h:Heap) (a:Addr) (ks:List (List Int)):Prop:=∃o es ep t,aay prog w h a ks o es ep t
def pE (ks:List (List Int)) (K:List Int):List (List Int):=if K∈ks then ks else ks++[K]
theorem uf {h h':Heap}{ks:List Int}{b d:Addr}{o:Obj}{es:Array (Int×Value)}{ep:Nat}{t:SetTable}(x:IsTupleKey (intKind prog w) h ks b) (ho:h.get? d=some o) (hd:o.data=.set es ep t) (hs:Heap.SameBut d h h'):IsTupleKey (intKind prog w) h' ks b:=by
 obtain ⟨u,items,n,hu,hc,hdu,hi⟩:=x
 have ne:b≠d:=λq=>by
  subst q
  obtain rfl:=Option.some.inj (hu.symm.trans ho)
  rw [hd] at hdu
  cases hdu
 exact ⟨u,items,n,(hs.2 b ne).trans hu,hc,hdu,hi⟩
theorem ug {h h':Heap}{e:Int×Value}{ks:List Int}{d:Addr}{o:Obj}{es:Array (Int×Value)}{ep:Nat}{t:SetTable}(x:Ent prog w h e ks) (ho:h.get? d=some o) (hd:o.data=.set es ep t) (hs:Heap.SameBut d h h'):Ent prog w h' e ks:=
 let ⟨q1,b,q2,q3⟩:=x
 ⟨q1,b,q2,uf q3 ho hd hs⟩
theorem stored {h:Heap}{a:Addr}{o:Obj}{es es':Array (Int×Value)}{ep:Nat}{t t':SetTable}(ho:h.get? a=some o) (ex:o.ExactSet) (hd:o.data=.set es ep t) :
  (h.update a (Obj.putSet es' t')).get? a=some { o with data:=.set es' (ep+1) t' }∧({ o with data:=.set es' (ep+1) t' }:Obj).ExactSet:=by
 refine ⟨?_,ex⟩
 have q:=Heap.get?_update_self (Obj.putSet es' t') ho (by rw [putSet_of es' t' hd];rfl)
 rw [putSet_of es' t' hd] at q
 exact q
theorem Q7 {a:Addr}{ks:List (List Int)}{o:Obj}{es:Array (Int×Value)}{ep:Nat}{t:SetTable}{Q:Unit→Shared→Prop}(ho:s.heap.get? a=some o) (ex:o.ExactSet) (hd:o.data=.set es ep t) (T:AA t es) (hn:es.size=ks.length) (h5:es.size≤8)
  (h1:∀e∈es.toList,∃k∈ks,Ent prog w s.heap e k) (h2:∀k∈ks,∃e∈es.toList,Ent prog w s.heap e k) (h:∀h',Heap.SameBut a s.heap h'→sZ prog w h' a ks→Q () { s with heap:=h' }) :
  wpAny (model prog w) A (setRelay a 20) Q E s:=by
 obtain ⟨t',order,e1,e2,T',e3,e4⟩:=TY (t:=t) (es:=es) (m:=31) (.inr rfl) (by omega) (f:=t.finger) (v:=t.movedTo 31) (a:=t.led) (b:=t.plain)
 unfold setRelay
 refine wpAny_bind (wpAny_setState_of ho hd T.fits ?_)
 dsimp only
 rw [if_neg (by rw [sizeLine_eq];decide)]
 have er:t.relaid (es.map (·.1)) 20=some (t',order):=e1
 rw [er]
 refine wpAny_bind (wpAny_of_eq (a:=(order.filterMap (es[·]?),t')) ?_ ?_)
 ·show (if ((order.filterMap (es[·]?)).size != es.size)=true then _ else pure _)=_
  rw [if_neg (by rw [e2];simp)]
 ·dsimp only
  refine wpAny_storeSet_of ho hd ?_ (by rw [e2,sizeLine_eq];omega)
  obtain ⟨g1,g2⟩:=stored (es':=order.filterMap (es[·]?)) (t':=t') ho ex hd
  have sb:=Heap.SameBut.update s.heap a (Obj.putSet (order.filterMap (es[·]?)) t')
  refine h _ sb ⟨_,_,_,_,g1,g2,rfl,T',(λq=>by rw [e3] at q;cases q),(by rw [e2];exact hn),λe he=>?_,λk hk=>?_⟩
  ·obtain ⟨k,k1,k2⟩:=h1 e ((e4 e).mp he)
   exact ⟨k,k1,ug k2 ho hd sb⟩
  ·obtain ⟨e,k1,k2⟩:=h2 k hk
   exact ⟨e,(e4 e).mpr k1,ug k2 ho hd sb⟩
theorem Wk {a x:Addr}{K:List Int}{ks:List (List Int)}{Q:Bool→Shared→Prop}(hu:A.units<cLine) (hS:sZ prog w s.heap a ks) (hx:IsTupleKey (intKind prog w) s.heap K x) (hn:ks.length≤7)
  (h:∀b h',Heap.SameBut a s.heap h'→sZ prog w h' a (pE ks K)→Q b { s with heap:=h' }):wpAny (model prog w) A (setAddHashed a (.ref x) (tupleKeyHash (intKind prog w) K)) Q E s:=by
 obtain ⟨o,es,ep,t,S⟩:=hS
 obtain ⟨ho,ex,hd,T,m7,n,h1,h2⟩:=S
 obtain ⟨m,m1,m2,m3⟩:=T.free (tupleKeyHash (intKind prog w) K)
 unfold setAddHashed setAddHashedIn
 refine wpAny_holding (wpAny_bind (wpAny_setState_of ho hd T.fits ?_))
 dsimp only
 have bs:byScan (.ref x) es=false:=rfl
 rw [bs]
 simp only [bJ,if_false]
 unfold setSearch
 refine wpAny_bind (F3 hu ho hd T h1 h2 hx m2 m3 m1 (λTN=>?_) (λWl=>?_) 100000 0 none (aK _) ?_ rfl (λk' i e hk=>by omega))
 ·refine wpAny_pure ?_
  have q:=h false s.heap (Heap.SameBut.refl a s.heap)
  unfold pE at q
  rw [if_pos TN] at q
  exact q ⟨o,es,ep,t,ho,ex,hd,T,m7,n,h1,h2⟩
 ·dsimp only
  refine wpAny_bind (wpAny_setState_of ho hd T.fits ?_)
  dsimp only
  have hle:es.size+1≤t.mask:=by
   rcases T.X6 with q|q
   ·have:=m7 q
    omega
   ·omega
  have hjm:(way t.mask (tupleKeyHash (intKind prog w) K) m).j≤t.mask:=by
   have:=Mv t.mask (tupleKeyHash (intKind prog w) K) m
   omega
  obtain ⟨p1,p2,p3,p4⟩:=T.put (v:=.ref x) m2 m3 hjm hle
  generalize hp:t.put (way t.mask (tupleKeyHash (intKind prog w) K) m).j=pt at p1 p2 p3 ⊢
  obtain ⟨t1,p⟩:=pt
  dsimp only at p1 p2 p3 ⊢
  subst p1
  have fin:∀t2:SetTable,AA t2 (insertAt es (below t.place (way t.mask (tupleKeyHash (intKind prog w) K) m).j) (tupleKeyHash (intKind prog w) K,.ref x))→t2.mask=t.mask→wpAny (model prog w) A (do
    storeSet a (insertAt es (below t.place (way t.mask (tupleKeyHash (intKind prog w) K) m).j) (tupleKeyHash (intKind prog w) K,.ref x)) t2
    if (!false&&t2.tooFull)=true then do
     setRelay a (SetTable.grown (es.size+1))
     pure true
    else pure true) Q E s:=λt2 T2 hm2=>by
   have sz2:=w4 es (below t.place (way t.mask (tupleKeyHash (intKind prog w) K) m).j) (tupleKeyHash (intKind prog w) K,Value.ref x) p4
   generalize hes:insertAt es (below t.place (way t.mask (tupleKeyHash (intKind prog w) K) m).j) (tupleKeyHash (intKind prog w) K,Value.ref x)=T1 at T2 sz2 ⊢
   have mem:∀e,e∈T1.toList↔e∈es.toList∨e=(tupleKeyHash (intKind prog w) K,Value.ref x):=λe=>by
    rw [←hes,(insertAt_perm _ _ _).mem_iff]
    simp
   refine wpAny_bind (wpAny_storeSet_of ho hd ?_ (by rw [sizeLine_eq];omega))
   obtain ⟨g1,g2⟩:=stored (es':=T1) (t':=t2) ho ex hd
   have sb:=Heap.SameBut.update s.heap a (Obj.putSet T1 t2)
   have j1:∀e∈T1.toList,∃k∈pE ks K,Ent prog w (s.heap.update a (Obj.putSet T1 t2)) e k:=λe he=>by
    unfold pE
    rw [if_neg Wl]
    rcases (mem e).mp he with q|q
    ·obtain ⟨k,k1,k2⟩:=h1 e q
     exact ⟨k,dO _ k1,ug k2 ho hd sb⟩
    ·subst q
     exact ⟨K,bN _ az,rfl,x,rfl,uf hx ho hd sb⟩
   have j2:∀k∈pE ks K,∃e∈T1.toList,Ent prog w (s.heap.update a (Obj.putSet T1 t2)) e k:=λk hk=>by
    unfold pE at hk
    rw [if_neg Wl] at hk
    rcases bE.mp hk with q|q
    ·obtain ⟨e,k1,k2⟩:=h2 k q
     exact ⟨e,(mem e).mpr (.inl k1),ug k2 ho hd sb⟩
    ·have ek:k=K:=by simpa using q
     subst ek
     exact ⟨_,(mem _).mpr (.inr rfl),rfl,x,rfl,uf hx ho hd sb⟩
   have nk:T1.size=(pE ks K).length:=by
    unfold pE
    rw [if_neg Wl,ay,ba,sz2,n]
   have tf:t2.tooFull=decide ((es.size+1) * 5≥t.mask * 3):=by
    unfold SetTable.tooFull SetTable.fill
    rw [T2.dm,T2.sz,hm2,sz2]
    rfl
   rw [tf]
   by_cases q:(es.size+1) * 5≥t.mask * 3
   ·rw [decide_eq_true q]
    have e5:es.size+1=5:=by
     rcases T.X6 with z|z
     ·have:=m7 z
      omega
     ·omega
    rw [e5]
    simp only [Bool.not_false,Bool.and_self,if_true]
    show wpAny _ _ (setRelay a 20 >>= _) _ _ _
    refine wpAny_bind (Q7 (s:={ s with heap:=s.heap.update a (Obj.putSet T1 t2) }) g1 g2 rfl T2 nk (by omega) j1 j2 fun h' sb2 S2=>wpAny_pure ?_)
    exact h true h' (sb.trans sb2) S2
   ·rw [decide_eq_false q]
    simp only [eC,bJ,if_false]
    refine wpAny_pure (h true _ sb ⟨_,_,_,_,g1,g2,rfl,T2,λz=>?_,nk,j1,j2⟩)
    rw [hm2] at z
    rw [sz2]
    omega
  split
  ·refine wpAny_bind (OZ hx ?_)
   simp only [if_true]
   exact fin t1 p2 p3
  ·refine wpAny_bind (wpAny_pure ?_)
   simp only [if_true]
   exact fin t1 p2 p3
 ·have:=T.X6
  rcases this with q|q
  ·rw [q] at m1
   omega
  ·rw [q] at m1
   omega
end
end My
end
section
namespace My
open PySem PySem.SetTable
def zO (kk:Nat→List Int) (i:Nat):List (List Int):=((aQ i).map kk).foldl pE []
theorem F4 (kk:Nat→List Int) (i:Nat):zO kk (i+1)=pE (zO kk i) (kk i):=by
 unfold zO
 rw [dH,bP,fA]
 rfl
theorem NY (kk:Nat→List Int):∀i,(zO kk i).length≤i
 |0=>ai _
 |i+1=>by
  have ih:=NY kk i
  rw [F4]
  unfold pE
  split
  ·omega
  ·rw [ay,ba]
   omega
theorem sZ.at {prog:Program}{w:World}{h h':Heap}{a:Addr}{ks:List (List Int)}(S:sZ prog w h a ks) (ha:∀o,h.get? a=some o→h'.get? a=some o) (hk:∀k b,k∈ks→IsTupleKey (intKind prog w) h k b→IsTupleKey (intKind prog w) h' k b):sZ prog w h' a ks:=by
 obtain ⟨o,es,ep,t,ho,ex,hd,T,m7,n,h1,h2⟩:=S
 have en:∀e k,k∈ks→Ent prog w h e k→Ent prog w h' e k:=λe k hm ⟨q1,b,q2,q3⟩=>⟨q1,b,q2,hk k b hm q3⟩
 refine ⟨o,es,ep,t,ha o ho,ex,hd,T,m7,n,λe he=>?_,λk hm=>?_⟩
 ·obtain ⟨k,k1,k2⟩:=h1 e he
  exact ⟨k,k1,en e k k1 k2⟩
 ·obtain ⟨e,k1,k2⟩:=h2 k hm
  exact ⟨e,k1,en e k hm k2⟩
section
variable {prog:Program}{w:World}{A:Around}{R:Result→Shared→Prop}{I:Addr}{fp wr:List Addr}{G:Array GenState→Array GenState→Prop}{n:Nat}{P:Nat→Value→Prop}{St:Nat→Shared→Prop}
theorem Mz {h h':Heap}{ks:List Int}{b:Addr}(x:IsTupleKey (intKind prog w) h ks b) (hk:∀o,h.get? b=some o→h'.get? b=some o):IsTupleKey (intKind prog w) h' ks b:=by
 obtain ⟨u,hU,m,hu,r⟩:=x
 exact ⟨u,hU,m,hk u hu,r⟩
theorem Y0 (W:WalksS prog w A.in1 I fp wr G n P St) (S:Addr) (hS0:S∉fp) (bs:Nat→Addr) (kk:Nat→List Int) (hv:∀i v,P i v→v=.ref (bs i)) (hn:n≤8) (hu:A.units+1<cLine) (Stw:∀i s,St i s→∀b∈wr,∃o,s.heap.get? b=some o∧∀items m,o.data≠.seq items m) :
  ∀(k i:Nat) (s:Shared),n - i=k→i≤n→St i s→(∀j,j<n→IsTupleKey (intKind prog w) s.heap (kk j) (bs j))→sZ prog w s.heap S (zO kk i)→
   (∀s',Moved (S::wr) G s s'→sZ prog w s'.heap S (zO kk n)→R (.ok (.ret .none)) s')→codeAny (model prog w) A (.builtin "set.update.loop" ⟨[.ref S,.ref I],[]⟩) R s:=by
 have hS1:S∉wr:=λq=>hS0 (W.sub _ q)
 have up:∀b∈wr,b∈S::wr:=λb q=>ag _ q
 have kw:∀{i:Nat} {s:Shared} {k:List Int} {b:Addr},St i s→IsTupleKey (intKind prog w) s.heap k b→b∉wr:=λ{i s k b} st x q=>by
  obtain ⟨o,h1,h2⟩:=Stw i s st b q
  obtain ⟨u,hU,m,g1,_,g3,_⟩:=x
  rw [h1] at g1
  obtain rfl:=Option.some.inj g1
  exact h2 _ _ g3
 intro k
 induction k with
 |zero=>
  intro i s hk hi st hK hT hR
  have ei:i=n:=by omega
  subst ei
  refine codeAny_builtin (R:=R) PyProof.Rows.F.entry_set_update_loop ?_
  rw [Around.under_plainId PyProof.Rows.F.plain_set_update_loop (A:=A)]
  show wpAny (model prog w) A.in1 (pyNext (.ref I) >>= _) _ _ s
  refine wpAny_bind (W.done s _ _ st fun s2 mv=>?_)
  show wpAny (model prog w) A.in1 (ret Value.none) _ _ s2
  refine wpAny_pure (hR s2 (mv.mono up) (hT.at (λo e=>mv.heap S o hS1 e) fun k b _ x=>Mz x fun o e=>mv.heap b o (kw st x) e))
 |succ k ih=>
  intro i s hk hi st hK hT hR
  have lt:i<n:=by omega
  refine codeAny_builtin (R:=R) PyProof.Rows.F.entry_set_update_loop ?_
  rw [Around.under_plainId PyProof.Rows.F.plain_set_update_loop (A:=A)]
  show wpAny (model prog w) A.in1 (pyNext (.ref I) >>= _) _ _ s
  refine wpAny_bind (W.item i s _ _ lt st fun v s2 hP XW mv=>?_)
  obtain rfl:=hv i v hP
  have kp:∀{k:List Int} {b:Addr},IsTupleKey (intKind prog w) s.heap k b→IsTupleKey (intKind prog w) s2.heap k b:=λ{k b} x=>Mz x fun o e=>mv.heap b o (kw st x) e
  have X3:sZ prog w s2.heap S (zO kk i):=hT.at (λo e=>mv.heap S o hS1 e) fun k b _ x=>kp x
  show wpAny (model prog w) A.in1 (holding [Value.ref (bs i)] (setAdd S (.ref (bs i))) >>= _) _ _ s2
  refine wpAny_bind (wpAny_holding ?_)
  unfold setAdd
  refine wpAny_holding (wpAny_bind (wpAny_pyHash_tuple (A:=A.in1) (knd:=intKind prog w) hu (kp (hK i lt)) ?_))
  have l7:(zO kk i).length≤7:=by
   have:=NY kk i
   omega
  refine Wk (s:={ s2 with toks:=s2.toks+((kk i).length+1) }) (A:=A.in1) hu X3 (kp (hK i lt)) l7 fun b h' sb hT3=>?_
  rw [←F4] at hT3
  obtain ⟨oS,esS,epS,tS,SS⟩:=X3
  refine wpAny_pure ⟨plainId_quiet PyProof.Rows.F.plain_set_update_loop _,ih (i+1) _ (by omega) lt (W.frame _ s2 _ _ XW (cY _ _) fun b hb o e=>?_) (λj hj=>uf (kp (hK j hj)) SS.ho SS.hd sb) hT3 fun s3 mv3 hT4=>?_⟩
  ·rw [sb.2 b fun q=>hS0 (q▸hb)]
   exact e
  ·refine hR s3 (Moved.trans W.gtrans ((mv.mono up).then_heap (cY _ _) fun b o hb e=>?_) mv3) hT4
   rw [sb.2 b fun q=>hb (q▸az)]
   exact e
end
section
variable {prog:Program}{w:World}{A:Around}{E:Value→Shared→Prop}{s:Shared}
theorem O0 (a b:Nat) (led:Bool):AA (.fresh a b led) #[]:=
 ⟨.inl rfl,rfl,rfl,aK _,List.Pairwise.nil,λi j h=>(by simp [SetTable.fresh] at h),λi j e h=>(by simp [SetTable.fresh] at h)⟩
theorem O1 {l:Addr}{items:Array Value}{Q:Value→Shared→Prop}(hh:A.handled=none) (hu:A.units+8<cLine) (hl:s.heap.IsList l items) (bs:Nat→Addr) (kk:Nat→List Int) (hi:∀(i:Nat) (v:Value),items[i]?=some v→v=.ref (bs i)) (hk:∀j,j<items.size→IsTupleKey (intKind prog w) s.heap (kk j) (bs j)) (hn:items.size≤8)
  (h:∀(h':Heap) (tk:Nat),sZ prog w h' s.heap.objs.size (zO kk items.size)→(∀b o,b<s.heap.objs.size→s.heap.get? b=some o→h'.get? b=some o)→Q (.ref s.heap.objs.size) { s with heap:=h',toks:=tk }) :
  wpAny (model prog w) A (call (.type "set") [.ref l]) Q E s:=by
 obtain ⟨c,tl,mro⟩:=F.called_set.mro
 have made:=F.called_set.made
 have sub:=F.called_set.sub
 refine wpAny_call (codeAny_of_tree ?_)
 show wpAny (model prog w) _ (callAny (.type "set") _) _ _ _
 refine wpAny_pure ⟨Code.quiet_builtin _ (by decide +kernel),codeAny_builtin (R:=_) F.entry_type_call ?_⟩
 rw [Around.under_plain (weight_type_call_type "set" [.ref l] []) (rfl)]
 have n1:=F.called_set.notType
 have n2:=F.called_set.canCreate
 have n3:=F.typeCall_set_1 (.ref l)
 repeat (any_goals (first|assumption|wp_step))
 refine codeAny_mono (code_set_new_1 (.ref l) (E:=E) (Q₁:=λob s1=>∃led:Bool,ob=.ref s.heap.objs.size∧s1={ s with heap:=s.heap.push { cls:=.type "set",dict:=none,data:=.set #[] 0 (.fresh 0 0 led) } }) (λled=>⟨led,rfl,rfl⟩)) fun r s1 hr=>?_
 cases r with
 |error e=>exact hr
 |ok fl=>
  cases fl with
  |ret ob=>
   obtain ⟨led,rfl,rfl⟩:=hr
   have hS9:(s.heap.push { cls:=.type "set",dict:=none,data:=.set #[] 0 (.fresh 0 0 led) }).get? s.heap.objs.size=some { cls:=.type "set",dict:=none,data:=.set #[] 0 (.fresh 0 0 led) }:=Heap.get?_push_size _ (rfl)
   have hT:Shared.TypeIs { s with heap:=s.heap.push { cls:=.type "set",dict:=none,data:=.set #[] 0 (.fresh 0 0 led) } } (.ref s.heap.objs.size) "set":=⟨_,hS9,rfl⟩
   have li:=F.called_set.init.lookup
   have bi:=F.called_set.init.bind (.ref s.heap.objs.size)
   repeat (any_goals (first|assumption|wp_step))
   refine codeAny_mono (codeAny_call_builtin (R:=wants (λr s2=>r=.none∧∃h' tk,s2={ s with heap:=h',toks:=tk }∧sZ prog w h' s.heap.objs.size (zO kk items.size)∧∀b o,b<s.heap.objs.size→s.heap.get? b=some o→h'.get? b=some o) E) F.called_set.init.plain F.entry_set_init (check_set_init_1 hT ?_)) fun r2 s2 T3=>?_
   ·obtain ⟨ol,hol,FT,nl,hdl⟩:=hl
    obtain ⟨oc,od,oda,Mi⟩:=ol
    simp only at FT hdl
    subst FT
    subst hdl
    have aaz:(s.heap.push { cls:=.type "set",dict:=none,data:=.set #[] 0 (.fresh 0 0 led) }).get? l=some { cls:=.type "list",dict:=od,data:=.seq items nl,slots:=Mi }:=Heap.get?_push_of_some _ hol
    have q1:=F.sub_list_set
    have q2:=F.sub_list_frozenset
    have q3:(Value.type "list"==Value.type "dict")=false:=by decide
    have Qg:(s.heap.push { cls:=.type "set",dict:=none,data:=.set #[] 0 (.fresh 0 0 led) }).IsList l items:=⟨_,aaz,rfl,nl,rfl⟩
    unfold Builtin.«set.__init__» noKeywords Builtin.Frozenset.updateFrom
    generalize hPI:pyIter=PI
    wp_walk
    subst hPI
    refine wpAny_pyIter_list Qg ?_
    refine wpAny_bind (m:=runValue _) (wpAny_runValue ?_)
    have lS:l<s.heap.objs.size:=Heap.lt_size hol
    have hh3:A.in1.in1.in1.handled=none:=by simp [hh]
    have neI:l≠(s.heap.push { cls:=.type "set",dict:=none,data:=.set #[] 0 (.fresh 0 0 led) }).objs.size:=by
     rw [Heap.size_push]
     exact aS (dj lS)
    have Sf:s.heap.objs.size∉[(s.heap.push { cls:=.type "set",dict:=none,data:=.set #[] 0 (.fresh 0 0 led) }).objs.size,l]:=by
     rw [Heap.size_push]
     intro q
     rcases aB.mp q with z|z
     ·exact absurd z (aS (eR _))
     ·exact absurd (dB.mp z) (bA lS)
    refine Y0 ((Walks.list hh3 _ l neI items).toS) s.heap.objs.size Sf bs kk hi hn (by show A.units+2+1<cLine;omega) (λi s' st b hb=>?_) (items.size - 0) 0 _ (by omega) (aK _) ⟨⟨_,Heap.get?_push_size _ rfl,rfl,rfl⟩,(Qg.push _)⟩ (λj hj=>?_) ?_ ?_
    ·have eb:b=(s.heap.push { cls:=.type "set",dict:=none,data:=.set #[] 0 (.fresh 0 0 led) }).objs.size:=by simpa using hb
     subst eb
     obtain ⟨⟨oI,e1,e2,e3⟩,_⟩:=st
     exact ⟨oI,e1,λhU m q=>by rw [e3] at q;cases q⟩
    ·exact Mz (hk j hj) fun o e=>Heap.get?_push_of_some _ (Heap.get?_push_of_some _ e)
    ·exact ⟨_,#[],0,_,Heap.get?_push_of_some _ hS9,⟨rfl,rfl,rfl⟩,rfl,O0 0 0 led,λ_=>aK _,rfl,λe he=>by simp at he,λk hk=>by cases hk⟩
    ·intro s' hm hS'
     obtain ⟨h',g',d',tk',os'⟩:=s'
     have eg:g'=s.gens:=hm.gens
     have ed:d'=s.drawn:=hm.drawn
     have eo:os'=s.os:=hm.os
     subst eg ed eo
     show wpAny (model prog w) _ _ _ _ _
     refine wpAny_pure ?_
     show wpAny (model prog w) _ (ret Value.none) _ _ _
     refine wpAny_pure ⟨rfl,h',tk',rfl,hS',λb o hb e=>?_⟩
     refine hm.heap b o (λq=>?_) (Heap.get?_push_of_some _ (Heap.get?_push_of_some _ e))
     rcases aB.mp q with z|z
     ·exact absurd z (aS hb)
     ·have z:=dB.mp z
      rw [Heap.size_push] at z
      exact absurd z (aS (dj hb))
   ·cases r2 with
    |error e=>exact T3
    |ok fl2=>
     cases fl2 with
     |ret r=>
      obtain ⟨rfl,h',tk,rfl,hS',QL⟩:=T3
      repeat (any_goals (first|assumption|wp_step))
      exact h h' tk hS' QL
     |_=>exact T3.elim
  |_=>exact hr.elim
end
end My
end
section
namespace L2
open PySem PySem.Spec PyProof.Rows
def G6 (a:Addr) (n:Nat) (h:Heap):Prop:=∃o es ep t,h.get? a=some o∧o.ExactSet∧o.data=.set es ep t∧t.fits es.size=true∧es.size=n
abbrev Y1 (K:ab):List V→Hp→VK→Prop:=λxs H Q=>∃(a:Addr) (bs:List Addr) (kk:List (List Int)),xs=[.ref a]∧gE K H a (bs.map V.ref)∧Paired (λb k=>H b=some (.tup (k.map V.int))) bs kk∧kk.length≤8∧
 ∀p,H p=none→Q (.ref p) (upd H p (.ext (G6 p (kk.foldl My.pE []).length)))
theorem NZ {P:Program}{w:World}:∀{ks:List Int}{us:List Value},Vals (ks.map V.int) us→ItemsAre (intKind P w) ks us
 |[],_,h=>by
  cases h
  exact .nil
 |k::r,_,h=>by
  cases h with
  |cons h1 h2=>
   obtain ⟨t,rfl⟩:=h1
   exact .cons (intKind_is _ _ _ _) (NZ h2)
theorem O6 {α β:Type}{F:α→β→Prop}{l1:List α}{l2:List β}(h:Paired F l1 l2) {i:Nat}{b:β}(hb:l2[i]?=some b):∃a,l1[i]?=some a∧F a b:=by
 induction h generalizing i with
 |nil=>cases hb
 |cons f _ ih=>
  cases i with
  |zero=>
   cases hb
   exact ⟨_,rfl,f⟩
  |succ i=>exact ih hb
theorem Q8 (kk:List (List Int)):My.zO (λi=>kk.getD i []) kk.length=kk.foldl My.pE []:=by
 unfold My.zO
 congr 1
 apply bR
 intro i
 rw [ah]
 rcases aX i kk.length with h|h
 ·rw [dv h,aE h]
  show some (kk.getD i [])=_
  rw [aU,aE h]
  rfl
 ·rw [bc (by simpa using h),bc h]
  rfl
theorem J8 {X:Cx}(hc:X.calm=true) (hu:X.A.units+64<cLine):qB X (.type "set") (Y1 X.K):=by
 intro pins s σ H xs us Q I r h
 obtain ⟨a,bs,kk,rfl,hs,hp,hn,q⟩:=h
 obtain ⟨u,rfl,ru⟩:=vals1 r
 cases ru
 obtain ⟨hU,rv,pl,hz⟩:=I.list hs
 have hb:bs.length=kk.length:=Paired.length hp
 have hl:hU.length=kk.length:=by
  rw [←rv.length,aa,hb]
 have hsz:hU.toArray.size=kk.length:=by simp [hl]
 refine My.O1 (I.ok.hd hc) (by omega) pl.isList (λi=>bs.getD i 0) (λi=>kk.getD i []) (λi v hv=>?_) (λj hj=>?_) (by rw [hsz];exact hn) fun h' tk hS hk=>?_
 ·have hv:hU[i]?=some v:=by simpa using hv
  have hi:i<bs.length:=by
   have:=(aO.mp hv).1
   omega
  obtain ⟨u,hu1,hu2⟩:=rv.get (i:=i) (x:=V.ref bs[i]) (by rw [ah,aE hi];rfl)
  rw [hv] at hu1
  obtain rfl:=Option.some.inj hu1
  obtain rfl:v=Value.ref bs[i]:=hu2
  rw [aU,aE hi]
  rfl
 ·rw [hsz] at hj
  obtain ⟨b,b1,b2⟩:=O6 hp (i:=j) (b:=kk[j]) (aE hj)
  have e1:bs.getD j 0=b:=by
   rw [aU,b1]
   rfl
  have e2:kk.getD j []=kk[j]:=by
   rw [aU,aE hj]
   rfl
  show IsTupleKey _ _ (kk.getD j []) (bs.getD j 0)
  rw [e1,e2]
  obtain ⟨_,us,ru,o,o1,o2,n,o3⟩:=I.iR b _ b2
  exact ⟨o,us.toArray,n,o1,o2,o3,NZ (by simpa using ru)⟩
 ·rw [hsz,Q8] at hS
  have hf:H s.heap.objs.size=none:=I.iR.fresh (ai _)
  obtain ⟨o,es,ep,t,S⟩:=hS
  refine ⟨.ref s.heap.objs.size,_,I.laid (o:=.ext (G6 s.heap.objs.size (kk.foldl My.pE []).length)) (λb u e=>hk b u (Heap.lt_size e) e) (ai _) ⟨⟨o,es,ep,t,S.ho,S.ex,S.hd,S.T.fits,S.n⟩,⟨o,S.ho⟩,?_⟩,rfl,q _ hf⟩
  rintro h1 h2 ⟨o,es,ep,t,q1,q2⟩ k
  exact ⟨o,es,ep,t,k o q1,q2⟩
abbrev Y2:List V→Hp→VK→Prop:=λxs H Q=>∃a n,xs=[V.ref a]∧H a=some (.ext (G6 a n))∧n≤1000∧Q (.int n) H
theorem Dv {X:Cx}:qB X (.builtin "len") Y2:=by
 intro pins s σ H xs us Q I r h
 obtain ⟨a,n,rfl,ha,hn,q⟩:=h
 obtain ⟨u,rfl,ru⟩:=vals1 r
 cases ru
 obtain ⟨⟨o,es,ep,t,ho,hex,hd,hf,rfl⟩,_,_⟩:=I.iR a _ ha
 exact call_len_set ho hex hd hf (by omega) ⟨.int _,H,I.tok _,⟨_,rfl⟩,q⟩
end L2
end
section
namespace My
open Vbahah
theorem Q9 (c:List (List Int)):eG c=c:=by
 rcases c with _|⟨_|⟨a,r⟩,s⟩
 ·rfl
 ·rfl
 rcases a with n|n
 ·rcases n with _|_|_|_|_|_|_|_|_|_|_|_|_|_|_|_|_|_|n<;>first|rfl|(rcases r with _|⟨_,_|⟨_,_|⟨_,_|⟨_,_|⟨_,_⟩⟩⟩⟩⟩<;>first|rfl|(rcases s with _|⟨_,_|⟨_,_|⟨_,_⟩⟩⟩<;>rfl))
 ·rfl
theorem O7 (cs:List (List (List Int))):cs.map eG=cs:=by
 have e:eG=id:=by
  funext c
  exact Q9 c
 rw [e,List.map_id]
theorem F5 {r t:List Int}{xs:List (List Int)}(h:cO 0 r=some (xs,t)):xs=[]∧t=r:=by
 unfold cO at h
 cases h
 exact ⟨rfl,rfl⟩
theorem F6 {k:Nat}{r t:List Int}{xs:List (List Int)}(h:cO (k+1) r=some (xs,t)) :
  ∃(n:Nat) (r':List Int) (ys:List (List Int)),r=(n:Int)::r'∧n≤r'.length∧xs=r'.take n::ys∧cO k (r'.drop n)=some (ys,t):=by
 unfold cO at h
 cases r with
 |nil=>simp [PyFlat.row] at h
 |cons z r'=>
  by_cases hz:0≤z∧z.toNat≤r'.length
  ·have e:PyFlat.row (z::r')=some (r'.take z.toNat,r'.drop z.toNat):=if_pos hz
   rw [e] at h
   dsimp only at h
   cases hr:cO k (r'.drop z.toNat) with
   |none=>
    rw [hr] at h
    cases h
   |some p=>
    obtain ⟨ys,t'⟩:=p
    rw [hr] at h
    dsimp only at h
    cases h
    refine ⟨z.toNat,r',ys,?_,hz.2,rfl,hr⟩
    rw [Int.toNat_of_nonneg hz.1]
  ·have e:PyFlat.row (z::r')=none:=if_neg hz
   rw [e] at h
   cases h
def kY (xs:List (List Int)):Nat:=(xs.map fun x=>1+x.length).sum
theorem F7:∀{k:Nat}{r t:List Int}{xs:List (List Int)},cO k r=some (xs,t)→t=r.drop (kY xs)∧xs.length=k∧kY xs≤r.length
 |0,r,t,xs,h=>by
  obtain ⟨rfl,rfl⟩:=F5 h
  exact ⟨rfl,rfl,aK _⟩
 |k+1,r,t,xs,h=>by
  obtain ⟨n,r',ys,rfl,hn,rfl,h'⟩:=F6 h
  obtain ⟨e,l,b⟩:=F7 h'
  have el:(r'.take n).length=n:=by rw [bp];omega
  have es:kY (r'.take n::ys)=n+1+kY ys:=by
   unfold kY
   rw [aG,cM,el]
   omega
  refine ⟨?_,by rw [aw,l],?_⟩
  ·rw [e,es,eI,show n+1+kY ys=(n+kY ys)+1 by omega,List.drop_succ_cons]
  ·rw [es,aw]
   rw [cW] at b
   omega
theorem O8 {p:Int}{r t:List Int}{c:List (List Int)}(h:fK bz (p::r)=some (c,t)) :
  ∃(n k:Nat) (xs:List (List Int)),bz p=some (n,k)∧n≤r.length∧cO k (r.drop n)=some (xs,t)∧c=(p::r.take n)::xs:=by
 unfold fK at h
 dsimp only at h
 cases hs:bz p with
 |none=>
  rw [hs] at h
  cases h
 |some q=>
  obtain ⟨n,k⟩:=q
  rw [hs] at h
  dsimp only at h
  by_cases hn:r.length<n
  ·rw [if_pos hn] at h
   cases h
  ·rw [if_neg hn] at h
   cases hr:cO k (r.drop n) with
   |none=>
    rw [hr] at h
    cases h
   |some q=>
    obtain ⟨xs,t'⟩:=q
    rw [hr] at h
    dsimp only at h
    cases h
    exact ⟨n,k,xs,rfl,by omega,hr,rfl⟩
theorem MA {f:Nat}{p:Int}{r:List Int}{cs:List (List (List Int))}(h:cq bz f (p::r)=some cs) :
  ∃(f':Nat) (c:List (List Int)) (t:List Int) (Vk:List (List (List Int))),fK bz (p::r)=some (c,t)∧cq bz f' t=some Vk∧cs=c::Vk:=by
 cases f with
 |zero=>
  unfold cq at h
  cases h
 |succ f=>
  unfold cq at h
  cases hc:fK bz (p::r) with
  |none=>
   rw [hc] at h
   cases h
  |some q=>
   obtain ⟨c,t⟩:=q
   rw [hc] at h
   dsimp only at h
   cases hr:cq bz f t with
   |none=>
    rw [hr] at h
    cases h
   |some Vk=>
    rw [hr] at h
    dsimp only at h
    cases h
    exact ⟨f,c,t,Vk,rfl,hr,rfl⟩
theorem O9 {f:Nat}{cs:List (List (List Int))}(h:cq bz f []=some cs):cs=[]:=by
 unfold cq at h
 cases h
 rfl
def N0:List Nat:=[1,2,2,1,4,3,3,4,3,3,2,1,1,0,1,3,1,0]
def N3:List Nat:=[0,0,2,0,0,0,0,0,0,2,1,0,0,0,0,0,0,0]
theorem MB {p:Int}{n k:Nat}(h:bz p=some (n,k)):∃j:Nat,p=(j:Int)∧j<18∧N0[j]?=some n∧N3[j]?=some k:=by
 unfold bz at h
 by_cases h0:p=0
 ·rw [if_pos h0] at h
  cases h
  exact ⟨0,h0,by decide,rfl,rfl⟩
 rw [if_neg h0] at h
 by_cases h1:p=1
 ·rw [if_pos h1] at h
  cases h
  exact ⟨1,h1,by decide,rfl,rfl⟩
 rw [if_neg h1] at h
 by_cases h2:p=2
 ·rw [if_pos h2] at h
  cases h
  exact ⟨2,h2,by decide,rfl,rfl⟩
 rw [if_neg h2] at h
 by_cases h3:p=3
 ·rw [if_pos h3] at h
  cases h
  exact ⟨3,h3,by decide,rfl,rfl⟩
 rw [if_neg h3] at h
 by_cases h4:p=4
 ·rw [if_pos h4] at h
  cases h
  exact ⟨4,h4,by decide,rfl,rfl⟩
 rw [if_neg h4] at h
 by_cases h5:p=5
 ·rw [if_pos h5] at h
  cases h
  exact ⟨5,h5,by decide,rfl,rfl⟩
 rw [if_neg h5] at h
 by_cases h6:p=6
 ·rw [if_pos h6] at h
  cases h
  exact ⟨6,h6,by decide,rfl,rfl⟩
 rw [if_neg h6] at h
 by_cases h7:p=7
 ·rw [if_pos h7] at h
  cases h
  exact ⟨7,h7,by decide,rfl,rfl⟩
 rw [if_neg h7] at h
 by_cases h8:p=8
 ·rw [if_pos h8] at h
  cases h
  exact ⟨8,h8,by decide,rfl,rfl⟩
 rw [if_neg h8] at h
 by_cases h9:p=9
 ·rw [if_pos h9] at h
  cases h
  exact ⟨9,h9,by decide,rfl,rfl⟩
 rw [if_neg h9] at h
 by_cases Wm:p=10
 ·rw [if_pos Wm] at h
  cases h
  exact ⟨10,Wm,by decide,rfl,rfl⟩
 rw [if_neg Wm] at h
 by_cases h11:p=11
 ·rw [if_pos h11] at h
  cases h
  exact ⟨11,h11,by decide,rfl,rfl⟩
 rw [if_neg h11] at h
 by_cases h12:p=12
 ·rw [if_pos h12] at h
  cases h
  exact ⟨12,h12,by decide,rfl,rfl⟩
 rw [if_neg h12] at h
 by_cases h13:p=13
 ·rw [if_pos h13] at h
  cases h
  exact ⟨13,h13,by decide,rfl,rfl⟩
 rw [if_neg h13] at h
 by_cases h14:p=14
 ·rw [if_pos h14] at h
  cases h
  exact ⟨14,h14,by decide,rfl,rfl⟩
 rw [if_neg h14] at h
 by_cases h15:p=15
 ·rw [if_pos h15] at h
  cases h
  exact ⟨15,h15,by decide,rfl,rfl⟩
 rw [if_neg h15] at h
 by_cases h16:p=16
 ·rw [if_pos h16] at h
  cases h
  exact ⟨16,h16,by decide,rfl,rfl⟩
 rw [if_neg h16] at h
 by_cases h17:p=17
 ·rw [if_pos h17] at h
  cases h
  exact ⟨17,h17,by decide,rfl,rfl⟩
 rw [if_neg h17] at h
 cases h
end My
end
section
namespace My
open Vbahah
def gT (b:Int×Int) (z:Int):Bool:=decide (b.1≤z)&&decide (z≤b.2)
theorem gU (lo hi:Nat) (z:Int):within lo hi z=if gT ((lo:Int),(hi:Int)) z=true then some z.toNat else none:=by
 unfold within gT
 by_cases h:(lo:Int)≤z∧z≤(hi:Int)
 ·rw [if_pos h,if_pos (by simp [h.1,h.2])]
 ·rw [if_neg h,if_neg]
  intro q
  simp at q
  exact h q
abbrev j4:Int×Int:=(0,36524)
abbrev qH:Int×Int:=(1,999999999)
abbrev Pa:Int×Int:=(1,1000000000)
abbrev gQ:Int×Int:=(10,9999999999)
abbrev F8:Int×Int:=(1,6)
abbrev mi:Int×Int:=(0,675)
abbrev je:Int×Int:=(0,3)
abbrev nG:Int×Int:=(1,9999)
abbrev uh:Int×Int:=(0,1)
abbrev kb:Int×Int:=(0,1000000000)
abbrev F9:Int×Int:=(0,2)
abbrev tj:Int×Int:=(1,64)
abbrev G7:Int×Int:=(0,17575)
noncomputable def Vl:List (List (Int×Int)):=
 [[j4],[qH,qH],[Pa,j4],[gQ],[F8,mi,gQ,je],[mi,nG,j4],[mi,nG,j4],[gQ,je,nG,j4],[gQ,je,uh],[kb,F9,j4],
  [gQ,kb],[tj],[gQ],[],[mi],[mi,nG,j4],[gQ],[]]
def iu (p:Nat) (a:List Int):Bool:=((Vl.getD p []).zip a).all fun x=>gT x.1 x.2
def Vm:List (List Nat):=[[],[],[0,2],[],[],[],[],[],[],[1,0],[3],[],[],[],[],[],[],[]]
noncomputable def gY (k:Nat):List Int:=[[7,14,21,28],[2,4,6,8,10,12,14,16],[0,1,2,3,4],[1,2,3,4]].getD k []
def lJ (k:Nat):List (Int×Int):=[[mi,nG,j4,G7,G7,kb,kb],[gQ,je],[tj],[je]].getD k []
def kq (B:List (Int×Int)) (i:Nat) (l:List Int):Bool:=(l.zipIdx i).all fun x=>gT (B.getD (x.2 % B.length) (0,0)) x.1
def ie (k:Nat) (l:List Int):Bool:=(gY k).contains (l.length:Int)&&kq (lJ k) 0 l
def jA (p:Nat) (rs:List (List Int)):Bool:=((Vm.getD p []).zip rs).all fun x=>ie x.1 x.2
theorem kr (B:List (Int×Int)) (i:Nat) (x:Int) (l:List Int):kq B i (x::l)=(gT (B.getD (i % B.length) (0,0)) x&&kq B (i+1) l):=by
 unfold kq
 rw [fB,cb]
theorem G8 (B:List (Int×Int)):∀(l:List Int) (i:Nat),kq B (i+B.length) l=kq B i l
 |[],i=>rfl
 |x::l,i=>by
  rw [kr,kr,Nat.add_mod_right,show i+B.length+1=(i+1)+B.length by omega,G8 B l (i+1)]
def ia:List Int→List Coupon
 |a::b::d::f::t::v::x::r=>
  { carrier:=a.toNat,num:=b.toNat,day:=d.toNat,from_:=f.toNat,to_:=t.toNat,value:=v.toNat,tax:=x.toNat,status:=.open_,free:=false }::ia r
 |_=>[]
theorem w9:∀(n:Nat) (l:List Int),l.length=7 * n→couponsOf l=if kq (lJ 0) 0 l=true then some (ia l) else none
 |0,l,h=>by
  have e:l=[]:=dA (by omega)
  subst e
  rfl
 |n+1,l,h=>by
  match l,h with
  |a::b::d::f::t::v::x::r,h=>
   have hr:r.length=7 * n:=by
    simp only [aw] at h
    omega
   have ih:=w9 n r hr
   have e7:kq (lJ 0) 7 r=kq (lJ 0) 0 r:=G8 (lJ 0) r 0
   have e:kq (lJ 0) 0 (a::b::d::f::t::v::x::r)=(gT mi a&&(gT nG b&&(gT j4 d&&(gT G7 f&&(gT G7 t&&(gT kb v&&(gT kb x&&kq (lJ 0) 0 r))))))):=by
    rw [kr,kr,kr,kr,kr,kr,kr,e7]
    rfl
   rw [e]
   unfold couponsOf carrierOf numOf dayOf airportOf moneyOf
   rw [gU,gU,gU,gU,gU,gU,gU,ih]
   show (if gT mi a=true then some a.toNat else none).bind _=_
   cases gT mi a with
   |false=>rfl
   |true=>
   show (if gT nG b=true then some b.toNat else none).bind _=_
   cases gT nG b with
   |false=>rfl
   |true=>
   show (if gT j4 d=true then some d.toNat else none).bind _=_
   cases gT j4 d with
   |false=>rfl
   |true=>
   show (if gT G7 f=true then some f.toNat else none).bind _=_
   cases gT G7 f with
   |false=>rfl
   |true=>
   show (if gT G7 t=true then some t.toNat else none).bind _=_
   cases gT G7 t with
   |false=>rfl
   |true=>
   show (if gT kb v=true then some v.toNat else none).bind _=_
   cases gT kb v with
   |false=>rfl
   |true=>
   show (if gT kb x=true then some x.toNat else none).bind _=_
   cases gT kb x with
   |false=>rfl
   |true=>
   show (if kq (lJ 0) 0 r=true then some (ia r) else none).bind _=_
   cases kq (lJ 0) 0 r<;>rfl
theorem uZ:∀(n:Nat) (l:List Int),l.length≤n→¬l.length % 7=0→couponsOf l=none
 |0,l,h,h7=>by
  exfalso
  apply h7
  rw [show l.length=0 by omega]
 |n+1,l,h,h7=>by
  match l,h,h7 with
  |[],_,h7=>exact absurd rfl h7
  |[_],_,_=>rfl
  |[_,_],_,_=>rfl
  |[_,_,_],_,_=>rfl
  |[_,_,_,_],_,_=>rfl
  |[_,_,_,_,_],_,_=>rfl
  |[_,_,_,_,_,_],_,_=>rfl
  |a::b::d::f::t::v::x::r,h,h7=>
   have ih:=uZ n r (by simp only [aw] at h;omega) (by simp only [aw] at h7;omega)
   unfold couponsOf
   rw [ih]
   cases carrierOf a<;>try rfl
   cases numOf b<;>try rfl
   cases dayOf d<;>try rfl
   cases airportOf f<;>try rfl
   cases airportOf t<;>try rfl
   cases moneyOf v<;>try rfl
   cases moneyOf x<;>rfl
theorem p7 (l:List Int):newCoupons l=if ie 0 l=true then some (ia l) else none:=by
 unfold newCoupons ie
 by_cases h7:l.length % 7=0
 ·obtain ⟨n,hn⟩:∃n,l.length=7 * n:=⟨l.length / 7,by omega⟩
  rw [w9 n l hn]
  by_cases hl:l.length<7∨28<l.length
  ·rw [if_pos hl]
   have e:(gY 0).contains (l.length:Int)=false:=by
    have:¬(l.length:Int)∈gY 0:=by
     simp only [gY,bO,aB,bX,or_false]
     omega
    simpa [bq] using this
   rw [e]
   rfl
  ·rw [if_neg hl]
   have e:(gY 0).contains (l.length:Int)=true:=by
    have:(l.length:Int)∈gY 0:=by
     simp only [gY,bO,aB,bX,or_false]
     omega
    simpa [bq] using this
   rw [e,br]
 ·rw [uZ l.length l (ai _) h7]
  have e:(gY 0).contains (l.length:Int)=false:=by
   have:¬(l.length:Int)∈gY 0:=by
    simp only [gY,bO,aB,bX,or_false]
    omega
   simpa [bq] using this
  rw [e]
  simp
def mkPairs:List Int→List (Nat×Nat)
 |a::b::r=>(a.toNat,b.toNat)::mkPairs r
 |_=>[]
theorem Be:∀(n:Nat) (l:List Int),l.length=2 * n→pairsOf l=if kq (lJ 1) 0 l=true then some (mkPairs l) else none
 |0,l,h=>by
  have e:l=[]:=dA (by omega)
  subst e
  rfl
 |n+1,l,h=>by
  match l,h with
  |a::b::r,h=>
   have hr:r.length=2 * n:=by
    simp only [aw] at h
    omega
   have ih:=Be n r hr
   have e7:kq (lJ 1) 2 r=kq (lJ 1) 0 r:=G8 (lJ 1) r 0
   have e:kq (lJ 1) 0 (a::b::r)=(gT gQ a&&(gT je b&&kq (lJ 1) 0 r)):=by
    rw [kr,kr,e7]
    rfl
   rw [e]
   unfold pairsOf numberIn placeOf
   rw [gU,gU,ih]
   show (if gT gQ a=true then some a.toNat else none).bind _=_
   cases gT gQ a with
   |false=>rfl
   |true=>
   show (if gT je b=true then some b.toNat else none).bind _=_
   cases gT je b with
   |false=>rfl
   |true=>
   show (if kq (lJ 1) 0 r=true then some (mkPairs r) else none).bind _=_
   cases kq (lJ 1) 0 r<;>rfl
theorem zA:∀(n:Nat) (l:List Int),l.length≤n→¬l.length % 2=0→pairsOf l=none
 |0,l,h,h7=>by
  exfalso
  apply h7
  rw [show l.length=0 by omega]
 |n+1,l,h,h7=>by
  match l,h,h7 with
  |[],_,h7=>exact absurd rfl h7
  |[_],_,_=>rfl
  |a::b::r,h,h7=>
   have ih:=zA n r (by simp only [aw] at h;omega) (by simp only [aw] at h7;omega)
   unfold pairsOf
   rw [ih]
   cases numberIn a<;>try rfl
   cases placeOf b<;>rfl
theorem u9 (l:List Int):oldCoupons l=if ie 1 l=true then some (mkPairs l) else none:=by
 unfold oldCoupons ie
 by_cases h7:l.length % 2=0
 ·obtain ⟨n,hn⟩:∃n,l.length=2 * n:=⟨l.length / 2,by omega⟩
  rw [Be n l hn]
  by_cases hl:l.length<2∨16<l.length
  ·rw [if_pos hl]
   have e:(gY 1).contains (l.length:Int)=false:=by
    have:¬(l.length:Int)∈gY 1:=by
     simp only [gY,bO,cB,aB,bX,or_false]
     omega
    simpa [bq] using this
   rw [e]
   rfl
  ·rw [if_neg hl]
   have e:(gY 1).contains (l.length:Int)=true:=by
    have:(l.length:Int)∈gY 1:=by
     simp only [gY,bO,cB,aB,bX,or_false]
     omega
    simpa [bq] using this
   rw [e,br]
 ·rw [zA l.length l (ai _) h7]
  have e:(gY 1).contains (l.length:Int)=false:=by
   have:¬(l.length:Int)∈gY 1:=by
    simp only [gY,bO,cB,aB,bX,or_false]
    omega
   simpa [bq] using this
  rw [e]
  simp
theorem Ra (b:Int×Int):∀(l:List Int) (i:Nat),kq [b] i l=l.all (gT b)
 |[],_=>rfl
 |x::l,i=>by
  rw [kr,Ra b l (i+1),cb]
  have e:i % [b].length=0:=Nat.mod_one i
  rw [e]
  rfl
theorem tm (lo hi:Nat):∀l:List Int,(l.mapM fun k=>within lo hi k)=if l.all (gT ((lo:Int),(hi:Int)))=true then some (l.map cC) else none
 |[]=>rfl
 |x::l=>by
  rw [List.mapM_cons,tm lo hi l,gU,cb]
  show (if gT ((lo:Int),(hi:Int)) x=true then some x.toNat else none).bind _=_
  cases gT ((lo:Int),(hi:Int)) x with
  |false=>rfl
  |true=>
   show (if l.all (gT ((lo:Int),(hi:Int)))=true then some (l.map cC) else none).bind _=_
   cases l.all (gT ((lo:Int),(hi:Int)))<;>rfl
theorem Bf (l:List Int):(if l.length≤4 then l.mapM fun k=>within 1 64 k else none)=if ie 2 l=true then some (l.map cC) else none:=by
 unfold ie
 have ec:kq (lJ 2) 0 l=l.all (gT tj):=Ra tj l 0
 rw [ec]
 by_cases h:l.length≤4
 ·rw [if_pos h,tm]
  have e:(gY 2).contains (l.length:Int)=true:=by
   have:(l.length:Int)∈gY 2:=by
    simp only [gY,bO,cB,aB,bX,or_false]
    omega
   simpa [bq] using this
  rw [e,br]
  rfl
 ·rw [if_neg h]
  have e:(gY 2).contains (l.length:Int)=false:=by
   have:¬(l.length:Int)∈gY 2:=by
    simp only [gY,bO,cB,aB,bX,or_false]
    omega
   simpa [bq] using this
  rw [e]
  rfl
theorem places_eq (l:List Int):(if 1≤l.length∧l.length≤4 then l.mapM placeOf else none)=if ie 3 l=true then some (l.map cC) else none:=by
 unfold ie
 have ec:kq (lJ 3) 0 l=l.all (gT je):=Ra je l 0
 rw [ec]
 by_cases h:1≤l.length∧l.length≤4
 ·rw [if_pos h]
  have em:l.mapM placeOf=(l.mapM fun k=>within 0 3 k):=rfl
  rw [em,tm]
  have e:(gY 3).contains (l.length:Int)=true:=by
   have:(l.length:Int)∈gY 3:=by
    simp only [gY,bO,cB,aB,bX,or_false]
    omega
   simpa [bq] using this
  rw [e,br]
  rfl
 ·rw [if_neg h]
  have e:(gY 3).contains (l.length:Int)=false:=by
   have:¬(l.length:Int)∈gY 3:=by
    simp only [gY,bO,cB,aB,bX,or_false]
    omega
   simpa [bq] using this
  rw [e]
  rfl
noncomputable def yF:Nat→List Int→List (List Int)→Call
 |0,[d],_=>.clock d.toNat
 |1,[a,b],_=>.stock a.toNat b.toNat
 |2,[p,l],[cs,ks]=>.issue p.toNat l.toNat (ia cs) (ks.map cC)
 |3,[t],_=>.void t.toNat
 |4,[v,c,t,n],_=>.use v.toNat c.toNat t.toNat n.toNat
 |5,[c,n,d],_=>.depart c.toNat n.toNat d.toNat
 |6,[c,n,d],_=>.cancel c.toNat n.toNat d.toNat
 |7,[t,n,f,d],_=>.revalidate t.toNat n.toNat f.toNat d.toNat
 |8,[t,n,s],_=>.suspend t.toNat n.toNat s.toNat
 |9,[p,m,l],[old,cs]=>.exchange p.toNat m.toNat l.toNat (mkPairs old) (ia cs)
 |10,[t,p],[ns]=>.refund t.toNat p.toNat (ns.map cC)
 |11,[k],_=>.credit k.toNat
 |12,[t],_=>.ticket t.toNat
 |14,[c],_=>.lifted c.toNat
 |15,[c,n,d],_=>.on_ c.toNat n.toNat d.toNat
 |16,[t],_=>.valid t.toNat
 |17,_,_=>.tickets
 |_,_,_=>.heaps
theorem len0 {α:Type}{l:List α}(h:l.length=0):l=[]:=dA h
theorem pF {α:Type}{l:List α}(h:l.length=1):∃a,l=[a]:=by
 match l,h with
 |[a],_=>exact ⟨a,rfl⟩
theorem tp {α:Type}{l:List α}(h:l.length=2):∃a b,l=[a,b]:=by
 match l,h with
 |[a,b],_=>exact ⟨a,b,rfl⟩
theorem vE {α:Type}{l:List α}(h:l.length=3):∃a b c,l=[a,b,c]:=by
 match l,h with
 |[a,b,c],_=>exact ⟨a,b,c,rfl⟩
theorem Pb {α:Type}{l:List α}(h:l.length=4):∃a b c d,l=[a,b,c,d]:=by
 match l,h with
 |[a,b,c,d],_=>exact ⟨a,b,c,d,rfl⟩
def told (p:Nat) (a:List Int) (rs:List (List Int)):Reading:=if (iu p a&&jA p rs)=true then .call (yF p a rs) else .range
theorem Wn (a:Int):read [[(0:Int),a]]=told 0 [a] []:=by
 show ranged _=_
 simp only [dayOf,gU]
 have e:iu 0 [a]=(gT j4 a&&true):=rfl
 unfold told
 rw [e,show jA 0 []=true from rfl]
 show ranged ((if gT j4 a=true then some a.toNat else none).bind _)=_
 cases gT j4 a with
 |false=>rfl
 |true=>
 rfl
theorem Wo (a b:Int):read [[(1:Int),a,b]]=told 1 [a,b] []:=by
 show ranged _=_
 simp only [gU]
 have e:iu 1 [a,b]=(gT qH a&&(gT qH b&&true)):=rfl
 unfold told
 rw [e,show jA 1 []=true from rfl]
 show ranged ((if gT qH a=true then some a.toNat else none).bind _)=_
 cases gT qH a with
 |false=>rfl
 |true=>
 show ranged ((if gT qH b=true then some b.toNat else none).bind _)=_
 cases gT qH b with
 |false=>rfl
 |true=>
 rfl
theorem Wq (a:Int):read [[(3:Int),a]]=told 3 [a] []:=by
 show ranged _=_
 simp only [numberIn,gU]
 have e:iu 3 [a]=(gT gQ a&&true):=rfl
 unfold told
 rw [e,show jA 3 []=true from rfl]
 show ranged ((if gT gQ a=true then some a.toNat else none).bind _)=_
 cases gT gQ a with
 |false=>rfl
 |true=>
 rfl
theorem Wr (a b c d:Int):read [[(4:Int),a,b,c,d]]=told 4 [a,b,c,d] []:=by
 show ranged _=_
 simp only [carrierOf,numberIn,placeOf,gU]
 have e:iu 4 [a,b,c,d]=(gT F8 a&&(gT mi b&&(gT gQ c&&(gT je d&&true)))):=rfl
 unfold told
 rw [e,show jA 4 []=true from rfl]
 show ranged ((if gT F8 a=true then some a.toNat else none).bind _)=_
 cases gT F8 a with
 |false=>rfl
 |true=>
 show ranged ((if gT mi b=true then some b.toNat else none).bind _)=_
 cases gT mi b with
 |false=>rfl
 |true=>
 show ranged ((if gT gQ c=true then some c.toNat else none).bind _)=_
 cases gT gQ c with
 |false=>rfl
 |true=>
 show ranged ((if gT je d=true then some d.toNat else none).bind _)=_
 cases gT je d with
 |false=>rfl
 |true=>
 rfl
theorem Ws (a b c:Int):read [[(5:Int),a,b,c]]=told 5 [a,b,c] []:=by
 show ranged _=_
 simp only [carrierOf,dayOf,numOf,gU]
 have e:iu 5 [a,b,c]=(gT mi a&&(gT nG b&&(gT j4 c&&true))):=rfl
 unfold told
 rw [e,show jA 5 []=true from rfl]
 show ranged ((if gT mi a=true then some a.toNat else none).bind _)=_
 cases gT mi a with
 |false=>rfl
 |true=>
 show ranged ((if gT nG b=true then some b.toNat else none).bind _)=_
 cases gT nG b with
 |false=>rfl
 |true=>
 show ranged ((if gT j4 c=true then some c.toNat else none).bind _)=_
 cases gT j4 c with
 |false=>rfl
 |true=>
 rfl
theorem Wt (a b c:Int):read [[(6:Int),a,b,c]]=told 6 [a,b,c] []:=by
 show ranged _=_
 simp only [carrierOf,dayOf,numOf,gU]
 have e:iu 6 [a,b,c]=(gT mi a&&(gT nG b&&(gT j4 c&&true))):=rfl
 unfold told
 rw [e,show jA 6 []=true from rfl]
 show ranged ((if gT mi a=true then some a.toNat else none).bind _)=_
 cases gT mi a with
 |false=>rfl
 |true=>
 show ranged ((if gT nG b=true then some b.toNat else none).bind _)=_
 cases gT nG b with
 |false=>rfl
 |true=>
 show ranged ((if gT j4 c=true then some c.toNat else none).bind _)=_
 cases gT j4 c with
 |false=>rfl
 |true=>
 rfl
theorem Wu (a b c d:Int):read [[(7:Int),a,b,c,d]]=told 7 [a,b,c,d] []:=by
 show ranged _=_
 simp only [dayOf,numOf,numberIn,placeOf,gU]
 have e:iu 7 [a,b,c,d]=(gT gQ a&&(gT je b&&(gT nG c&&(gT j4 d&&true)))):=rfl
 unfold told
 rw [e,show jA 7 []=true from rfl]
 show ranged ((if gT gQ a=true then some a.toNat else none).bind _)=_
 cases gT gQ a with
 |false=>rfl
 |true=>
 show ranged ((if gT je b=true then some b.toNat else none).bind _)=_
 cases gT je b with
 |false=>rfl
 |true=>
 show ranged ((if gT nG c=true then some c.toNat else none).bind _)=_
 cases gT nG c with
 |false=>rfl
 |true=>
 show ranged ((if gT j4 d=true then some d.toNat else none).bind _)=_
 cases gT j4 d with
 |false=>rfl
 |true=>
 rfl
theorem Wv (a b c:Int):read [[(8:Int),a,b,c]]=told 8 [a,b,c] []:=by
 show ranged _=_
 simp only [numberIn,placeOf,gU]
 have e:iu 8 [a,b,c]=(gT gQ a&&(gT je b&&(gT uh c&&true))):=rfl
 unfold told
 rw [e,show jA 8 []=true from rfl]
 show ranged ((if gT gQ a=true then some a.toNat else none).bind _)=_
 cases gT gQ a with
 |false=>rfl
 |true=>
 show ranged ((if gT je b=true then some b.toNat else none).bind _)=_
 cases gT je b with
 |false=>rfl
 |true=>
 show ranged ((if gT uh c=true then some c.toNat else none).bind _)=_
 cases gT uh c with
 |false=>rfl
 |true=>
 rfl
theorem T4 (a:Int):read [[(11:Int),a]]=told 11 [a] []:=by
 show ranged _=_
 simp only [gU]
 have e:iu 11 [a]=(gT tj a&&true):=rfl
 unfold told
 rw [e,show jA 11 []=true from rfl]
 show ranged ((if gT tj a=true then some a.toNat else none).bind _)=_
 cases gT tj a with
 |false=>rfl
 |true=>
 rfl
theorem T5 (a:Int):read [[(12:Int),a]]=told 12 [a] []:=by
 show ranged _=_
 simp only [numberIn,gU]
 have e:iu 12 [a]=(gT gQ a&&true):=rfl
 unfold told
 rw [e,show jA 12 []=true from rfl]
 show ranged ((if gT gQ a=true then some a.toNat else none).bind _)=_
 cases gT gQ a with
 |false=>rfl
 |true=>
 rfl
theorem T6 (a:Int):read [[(14:Int),a]]=told 14 [a] []:=by
 show ranged _=_
 simp only [carrierOf,gU]
 have e:iu 14 [a]=(gT mi a&&true):=rfl
 unfold told
 rw [e,show jA 14 []=true from rfl]
 show ranged ((if gT mi a=true then some a.toNat else none).bind _)=_
 cases gT mi a with
 |false=>rfl
 |true=>
 rfl
theorem T7 (a b c:Int):read [[(15:Int),a,b,c]]=told 15 [a,b,c] []:=by
 show ranged _=_
 simp only [carrierOf,dayOf,numOf,gU]
 have e:iu 15 [a,b,c]=(gT mi a&&(gT nG b&&(gT j4 c&&true))):=rfl
 unfold told
 rw [e,show jA 15 []=true from rfl]
 show ranged ((if gT mi a=true then some a.toNat else none).bind _)=_
 cases gT mi a with
 |false=>rfl
 |true=>
 show ranged ((if gT nG b=true then some b.toNat else none).bind _)=_
 cases gT nG b with
 |false=>rfl
 |true=>
 show ranged ((if gT j4 c=true then some c.toNat else none).bind _)=_
 cases gT j4 c with
 |false=>rfl
 |true=>
 rfl
theorem T8 (a:Int):read [[(16:Int),a]]=told 16 [a] []:=by
 show ranged _=_
 simp only [numberIn,gU]
 have e:iu 16 [a]=(gT gQ a&&true):=rfl
 unfold told
 rw [e,show jA 16 []=true from rfl]
 show ranged ((if gT gQ a=true then some a.toNat else none).bind _)=_
 cases gT gQ a with
 |false=>rfl
 |true=>
 rfl
theorem T9:read [[(13:Int)]]=told 13 [] []:=rfl
theorem Ua:read [[(17:Int)]]=told 17 [] []:=rfl
theorem Ww (a b:Int) (r q:List Int):read [[(2:Int),a,b],r,q]=told 2 [a,b] [r,q]:=by
 show ranged _=_
 have ek:=Bf q
 have ek2:(if q.length≤4 then (q.mapM fun k=>within 1 64 k).bind (λks=>some (Call.issue a.toNat b.toNat (ia r) ks)) else Option.none.bind (λks=>some (Call.issue a.toNat b.toNat (ia r) ks)))=(if ie 2 q=true then some (q.map cC) else none).bind (λks=>some (Call.issue a.toNat b.toNat (ia r) ks)):=by
  rw [←ek]
  by_cases hq:q.length≤4
  ·rw [if_pos hq,if_pos hq]
  ·rw [if_neg hq,if_neg hq]
 simp only [personOf,dayOf,p7]
 rw [gU 1 1000000000 a,gU 0 LASTDAY b]
 have e:iu 2 [a,b]=(gT Pa a&&(gT j4 b&&true)):=rfl
 have e2:jA 2 [r,q]=(ie 0 r&&(ie 2 q&&true)):=rfl
 unfold told
 rw [e,e2]
 show ranged ((if gT Pa a=true then some a.toNat else none).bind _)=_
 cases gT Pa a with
 |false=>rfl
 |true=>
 show ranged ((if gT j4 b=true then some b.toNat else none).bind _)=_
 cases gT j4 b with
 |false=>rfl
 |true=>
 show ranged ((if ie 0 r=true then some (ia r) else none).bind _)=_
 cases ie 0 r with
 |false=>rfl
 |true=>
 refine (congrArg ranged (show _=_ from ek2)).trans ?_
 cases ie 2 q with
 |false=>rfl
 |true=>rfl
theorem Wx (a b c:Int) (r q:List Int):read [[(9:Int),a,b,c],r,q]=told 9 [a,b,c] [r,q]:=by
 show ranged _=_
 simp only [moneyOf,dayOf,gU,p7,u9]
 have e:iu 9 [a,b,c]=(gT kb a&&(gT F9 b&&(gT j4 c&&true))):=rfl
 have e2:jA 9 [r,q]=(ie 1 r&&(ie 0 q&&true)):=rfl
 unfold told
 rw [e,e2]
 show ranged ((if gT kb a=true then some a.toNat else none).bind _)=_
 cases gT kb a with
 |false=>rfl
 |true=>
 show ranged ((if gT F9 b=true then some b.toNat else none).bind _)=_
 cases gT F9 b with
 |false=>rfl
 |true=>
 show ranged ((if gT j4 c=true then some c.toNat else none).bind _)=_
 cases gT j4 c with
 |false=>rfl
 |true=>
 show ranged ((if ie 1 r=true then some (mkPairs r) else none).bind _)=_
 cases ie 1 r with
 |false=>rfl
 |true=>
 show ranged ((if ie 0 q=true then some (ia q) else none).bind _)=_
 cases ie 0 q with
 |false=>rfl
 |true=>rfl
theorem Ub (a b:Int) (r:List Int):read [[(10:Int),a,b],r]=told 10 [a,b] [r]:=by
 show ranged _=_
 have ek:=places_eq r
 have ek2:(if 1≤r.length∧r.length≤4 then (r.mapM placeOf).bind (λns=>some (Call.refund a.toNat b.toNat ns)) else Option.none.bind (λns=>some (Call.refund a.toNat b.toNat ns)))=(if ie 3 r=true then some (r.map cC) else none).bind (λns=>some (Call.refund a.toNat b.toNat ns)):=by
  rw [←ek]
  by_cases hq:1≤r.length∧r.length≤4
  ·rw [if_pos hq,if_pos hq]
  ·rw [if_neg hq,if_neg hq]
 simp only [moneyOf,numberIn,gU]
 have e:iu 10 [a,b]=(gT gQ a&&(gT kb b&&true)):=rfl
 have e2:jA 10 [r]=(ie 3 r&&true):=rfl
 unfold told
 rw [e,e2]
 show ranged ((if gT gQ a=true then some a.toNat else none).bind _)=_
 cases gT gQ a with
 |false=>rfl
 |true=>
 show ranged ((if gT kb b=true then some b.toNat else none).bind _)=_
 cases gT kb b with
 |false=>rfl
 |true=>
 refine (congrArg ranged (show _=_ from ek2)).trans ?_
 cases ie 3 r with
 |false=>rfl
 |true=>rfl
theorem J9 {p:Nat}{a:List Int}{rs:List (List Int)}(hp:p<18) (ha:N0[p]?=some a.length) (hr:N3[p]?=some rs.length):read (((p:Int)::a)::rs)=told p a rs:=by
 match p,hp with
 |0,_=>
  have ha:a.length=1:=(Option.some.inj ha).symm
  have hr:rs.length=0:=(Option.some.inj hr).symm
  obtain ⟨a0,rfl⟩:=pF ha
  obtain rfl:=len0 hr
  exact Wn a0
 |1,_=>
  have ha:a.length=2:=(Option.some.inj ha).symm
  have hr:rs.length=0:=(Option.some.inj hr).symm
  obtain ⟨a0,b,rfl⟩:=tp ha
  obtain rfl:=len0 hr
  exact Wo a0 b
 |2,_=>
  have ha:a.length=2:=(Option.some.inj ha).symm
  have hr:rs.length=2:=(Option.some.inj hr).symm
  obtain ⟨a0,b,rfl⟩:=tp ha
  obtain ⟨r0,q0,rfl⟩:=tp hr
  exact Ww a0 b r0 q0
 |3,_=>
  have ha:a.length=1:=(Option.some.inj ha).symm
  have hr:rs.length=0:=(Option.some.inj hr).symm
  obtain ⟨a0,rfl⟩:=pF ha
  obtain rfl:=len0 hr
  exact Wq a0
 |4,_=>
  have ha:a.length=4:=(Option.some.inj ha).symm
  have hr:rs.length=0:=(Option.some.inj hr).symm
  obtain ⟨a0,b,c,d,rfl⟩:=Pb ha
  obtain rfl:=len0 hr
  exact Wr a0 b c d
 |5,_=>
  have ha:a.length=3:=(Option.some.inj ha).symm
  have hr:rs.length=0:=(Option.some.inj hr).symm
  obtain ⟨a0,b,c,rfl⟩:=vE ha
  obtain rfl:=len0 hr
  exact Ws a0 b c
 |6,_=>
  have ha:a.length=3:=(Option.some.inj ha).symm
  have hr:rs.length=0:=(Option.some.inj hr).symm
  obtain ⟨a0,b,c,rfl⟩:=vE ha
  obtain rfl:=len0 hr
  exact Wt a0 b c
 |7,_=>
  have ha:a.length=4:=(Option.some.inj ha).symm
  have hr:rs.length=0:=(Option.some.inj hr).symm
  obtain ⟨a0,b,c,d,rfl⟩:=Pb ha
  obtain rfl:=len0 hr
  exact Wu a0 b c d
 |8,_=>
  have ha:a.length=3:=(Option.some.inj ha).symm
  have hr:rs.length=0:=(Option.some.inj hr).symm
  obtain ⟨a0,b,c,rfl⟩:=vE ha
  obtain rfl:=len0 hr
  exact Wv a0 b c
 |9,_=>
  have ha:a.length=3:=(Option.some.inj ha).symm
  have hr:rs.length=2:=(Option.some.inj hr).symm
  obtain ⟨a0,b,c,rfl⟩:=vE ha
  obtain ⟨r0,q0,rfl⟩:=tp hr
  exact Wx a0 b c r0 q0
 |10,_=>
  have ha:a.length=2:=(Option.some.inj ha).symm
  have hr:rs.length=1:=(Option.some.inj hr).symm
  obtain ⟨a0,b,rfl⟩:=tp ha
  obtain ⟨r0,rfl⟩:=pF hr
  exact Ub a0 b r0
 |11,_=>
  have ha:a.length=1:=(Option.some.inj ha).symm
  have hr:rs.length=0:=(Option.some.inj hr).symm
  obtain ⟨a0,rfl⟩:=pF ha
  obtain rfl:=len0 hr
  exact T4 a0
 |12,_=>
  have ha:a.length=1:=(Option.some.inj ha).symm
  have hr:rs.length=0:=(Option.some.inj hr).symm
  obtain ⟨a0,rfl⟩:=pF ha
  obtain rfl:=len0 hr
  exact T5 a0
 |13,_=>
  have ha:a.length=0:=(Option.some.inj ha).symm
  have hr:rs.length=0:=(Option.some.inj hr).symm
  obtain rfl:=len0 ha
  obtain rfl:=len0 hr
  exact T9
 |14,_=>
  have ha:a.length=1:=(Option.some.inj ha).symm
  have hr:rs.length=0:=(Option.some.inj hr).symm
  obtain ⟨a0,rfl⟩:=pF ha
  obtain rfl:=len0 hr
  exact T6 a0
 |15,_=>
  have ha:a.length=3:=(Option.some.inj ha).symm
  have hr:rs.length=0:=(Option.some.inj hr).symm
  obtain ⟨a0,b,c,rfl⟩:=vE ha
  obtain rfl:=len0 hr
  exact T7 a0 b c
 |16,_=>
  have ha:a.length=1:=(Option.some.inj ha).symm
  have hr:rs.length=0:=(Option.some.inj hr).symm
  obtain ⟨a0,rfl⟩:=pF ha
  obtain rfl:=len0 hr
  exact T8 a0
 |17,_=>
  have ha:a.length=0:=(Option.some.inj ha).symm
  have hr:rs.length=0:=(Option.some.inj hr).symm
  obtain rfl:=len0 ha
  obtain rfl:=len0 hr
  exact Ua
end My
end
section
namespace My
open Vbahah
def total (st:List (Nat×Nat)):Nat:=(st.map fun x=>x.2+1 - x.1).sum
theorem Pc:total []=0:=rfl
theorem Bg (x:Nat×Nat) (r:List (Nat×Nat)):total (x::r)=(x.2+1 - x.1)+total r:=by
 unfold total
 rw [aG,cM]
theorem m6:∀{st:List (Nat×Nat)}{k:Nat},formAt st k=none↔total st≤k
 |[],k=>by
  constructor
  ·intro _
   rw [Pc]
   exact aK _
  ·intro _
   rfl
 |(lo,hi)::r,k=>by
  unfold formAt
  rw [Bg]
  by_cases h:k<hi+1 - lo
  ·rw [if_pos h]
   constructor
   ·intro e
    cases e
   ·intro e
    dsimp only at e
    omega
  ·rw [if_neg h,m6 (st:=r)]
   dsimp only
   omega
theorem Bh {st:List (Nat×Nat)}{k f:Nat}(h:formAt st k=some f):k<total st:=by
 rcases aX k (total st) with q|q
 ·exact q
 ·rw [m6.mpr q] at h
  cases h
theorem q5 {st:List (Nat×Nat)}{k:Nat}(h:k<total st):∃f,formAt st k=some f:=by
 cases e:formAt st k with
 |none=>
  have:=m6.mp e
  omega
 |some f=>exact ⟨f,rfl⟩
theorem vF:∀{st:List (Nat×Nat)}{k f:Nat},formAt st k=some f→∃x,x∈st∧x.1≤f∧f≤x.2
 |[],k,f,h=>by
  cases h
 |(lo,hi)::r,k,f,h=>by
  unfold formAt at h
  by_cases q:k<hi+1 - lo
  ·rw [if_pos q] at h
   cases h
   exact ⟨(lo,hi),az,by dsimp only;omega,by dsimp only;omega⟩
  ·rw [if_neg q] at h
   obtain ⟨x,m,b⟩:=vF h
   exact ⟨x,ag _ m,b⟩
theorem va:∀{st r:List (Nat×Nat)}{k f:Nat},formAt st k=some f→formAt (st++r) k=some f
 |[],r,k,f,h=>by
  cases h
 |(lo,hi)::q,r,k,f,h=>by
  show formAt ((lo,hi)::(q++r)) k=some f
  unfold formAt at h ⊢
  by_cases z:k<hi+1 - lo
  ·rw [if_pos z] at h ⊢
   exact h
  ·rw [if_neg z] at h ⊢
   exact va h
def Apart (x y:Nat×Nat):Prop:=x.2<y.1∨y.2<x.1
theorem vG:∀{st:List (Nat×Nat)}{i j f:Nat},st.Pairwise Apart→formAt st i=some f→formAt st j=some f→i=j
 |[],i,j,f,_,h,_=>by
  cases h
 |(lo,hi)::r,i,j,f,hp,h1,h2=>by
  obtain ⟨ha,hr⟩:=fo.mp hp
  unfold formAt at h1 h2
  by_cases q1:i<hi+1 - lo
  ·rw [if_pos q1] at h1
   have e1:lo+i=f:=Option.some.inj h1
   by_cases q2:j<hi+1 - lo
   ·rw [if_pos q2] at h2
    have e2:lo+j=f:=Option.some.inj h2
    omega
   ·rw [if_neg q2] at h2
    obtain ⟨x,m,b1,b2⟩:=vF h2
    have:=ha x m
    unfold Apart at this
    dsimp only at this
    omega
  ·rw [if_neg q1] at h1
   by_cases q2:j<hi+1 - lo
   ·rw [if_pos q2] at h2
    have e2:lo+j=f:=Option.some.inj h2
    obtain ⟨x,m,b1,b2⟩:=vF h1
    have:=ha x m
    unfold Apart at this
    dsimp only at this
    omega
   ·rw [if_neg q2] at h2
    have:=vG hr h1 h2
    omega
structure gN (s:State):Prop where
 Jw:∀x∈s.stock,1≤x.1∧x.1≤x.2∧x.2≤999999999
 N4:s.stock.Pairwise Apart
 LS:s.stock.length≤8
 AB:s.tickets.length≤64
 Ga:∀i t,s.tickets[i]?=some t→formAt s.stock i=some t.form
 cps:∀t∈s.tickets,1≤t.coupons.length∧t.coupons.length≤4
 N5:∀t∈s.tickets,∀d∈t.drawn,d.1<s.credits.length
 N6:s.credits.length≤64
 Qh:s.gone.length≤64
 Qi:s.gone.Nodup
theorem Pd:gN start:=
 ⟨λx h=>(by cases h),List.Pairwise.nil,aK _,aK _,λi t h=>(by cases h),λt h=>(by cases h),λt h=>(by cases h),aK _,aK _,cN⟩
theorem gN.Ka {s:State}(I:gN s) {i j:Nat}{t u:Ticket}(hi:s.tickets[i]?=some t) (hj:s.tickets[j]?=some u) (h:t.form=u.form):i=j:=
 vG I.N4 (I.Ga i t hi) (by rw [h];exact I.Ga j u hj)
theorem gN.Uc {s:State}(I:gN s) {t u:Ticket}(ht:t∈s.tickets) (hu:u∈s.tickets) (h:t.form=u.form):t=u:=by
 obtain ⟨i,hi⟩:=aR ht
 obtain ⟨j,hj⟩:=aR hu
 have e:=I.Ka hi hj h
 subst e
 exact Option.some.inj (hi.symm.trans hj)
theorem gN.Rb {s:State}(I:gN s) {g:Ticket→Ticket}(hg:∀t∈s.tickets,(g t).form=t.form∧(g t).coupons.length=t.coupons.length∧(g t).drawn=t.drawn):gN { s with tickets:=s.tickets.map g } where
 Jw:=I.Jw
 N4:=I.N4
 LS:=I.LS
 AB:=by
  show (s.tickets.map g).length≤64
  rw [aa]
  exact I.AB
 Ga:=λi u h=>by
  have h:(s.tickets.map g)[i]?=some u:=h
  rw [ah] at h
  cases e:s.tickets[i]? with
  |none=>
   rw [e] at h
   cases h
  |some t=>
   rw [e] at h
   have e2:g t=u:=Option.some.inj h
   subst e2
   rw [(hg t (ax e)).1]
   exact I.Ga i t e
 cps:=λu h=>by
  have h:u∈s.tickets.map g:=h
  obtain ⟨t,m,rfl⟩:=bB.mp h
  rw [(hg t m).2.1]
  exact I.cps t m
 N5:=λu h d hd=>by
  have h:u∈s.tickets.map g:=h
  obtain ⟨t,m,rfl⟩:=bB.mp h
  rw [(hg t m).2.2] at hd
  exact I.N5 t m d hd
 N6:=I.N6
 Qh:=I.Qh
 Qi:=I.Qi
theorem Kb {s:State}(I:gN s) {i:Nat}{t u:Ticket}(hi:s.tickets[i]?=some t) (hf:u.form=t.form):putT s u={ s with tickets:=s.tickets.set i u }:=by
 unfold putT
 congr 1
 apply bR
 intro j
 rw [ah,dJ]
 by_cases hj:i=j
 ·subst hj
  rw [if_pos rfl,hi]
  have hl:i<s.tickets.length:=(aO.mp hi).1
  rw [if_pos hl]
  show some (if t.form=u.form then u else t)=some u
  rw [if_pos hf.symm]
 ·rw [if_neg hj]
  cases e:s.tickets[j]? with
  |none=>rfl
  |some v=>
   show some (if v.form=u.form then u else v)=some v
   rw [if_neg]
   intro q
   exact hj (I.Ka hi e (by rw [←hf,q]))
theorem gN.putT {s:State}(I:gN s) {t u:Ticket}(ht:t∈s.tickets) (hf:u.form=t.form) (hc:u.coupons.length=t.coupons.length) (hd:u.drawn=t.drawn):gN (putT s u):=by
 refine I.Rb fun v hv=>?_
 by_cases q:v.form=u.form
 ·rw [if_pos q]
  have e:v=t:=I.Uc hv ht (q.trans hf)
  subst e
  exact ⟨hf,hc,hd⟩
 ·rw [if_neg q]
  exact ⟨rfl,rfl,rfl⟩
theorem gN.as {s s':State}(I:gN s) (e1:s'.stock=s.stock) (e2:s'.tickets=s.tickets) (e3:s'.credits.length=s.credits.length) (e4:s'.gone=s.gone):gN s':=
 ⟨by rw [e1];exact I.Jw,by rw [e1];exact I.N4,by rw [e1];exact I.LS,by rw [e2];exact I.AB,by rw [e1,e2];exact I.Ga,by rw [e2];exact I.cps,by rw [e2,e3];exact I.N5,by rw [e3];exact I.N6,by rw [e4];exact I.Qh,by rw [e4];exact I.Qi⟩
theorem gN.Y3 {s:State}(I:gN s) (d a b c:Nat):gN { s with today:=d,cashIn:=a,cashOut:=b,kept:=c }:=
 ⟨I.Jw,I.N4,I.LS,I.AB,I.Ga,I.cps,I.N5,I.N6,I.Qh,I.Qi⟩
theorem gN.Y4 {s:State}(I:gN s) {cs:List Credit}(h:cs.length=s.credits.length):gN { s with credits:=cs }:=
 ⟨I.Jw,I.N4,I.LS,I.AB,I.Ga,I.cps,λt m d hd=>by rw [h];exact I.N5 t m d hd,by rw [h];exact I.N6,I.Qh,I.Qi⟩
theorem rh:∀(ds:List (Nat×Nat)) (cs:List Credit),(giveBack cs ds).length=cs.length
 |[],cs=>rfl
 |(k,x)::r,cs=>by
  unfold giveBack
  rw [rh r,bU]
theorem m8:∀(ks:List Nat) (cs:List Credit) (want:Nat),(draw cs ks want).1.length=cs.length
 |[],cs,want=>rfl
 |k::r,cs,want=>by
  unfold draw
  dsimp only
  rw [m8 r,bU]
theorem ui:∀(ks:List Nat) (cs:List Credit) (want:Nat),(draw cs ks want).2.map (·.1)=ks
 |[],cs,want=>rfl
 |k::r,cs,want=>by
  unfold draw
  dsimp only
  rw [aG,ui r]
theorem N7:∀(ks:List Nat) (cs:List Credit) (want:Nat),drawnSum (draw cs ks want).2≤want
 |[],cs,want=>aK _
 |k::r,cs,want=>by
  unfold draw
  dsimp only
  have ih:=N7 r (cs.modify k fun c=>{ c with amount:=c.amount - min ((cs[k]?.map fun c=>c.amount).getD 0) want }) (want - min ((cs[k]?.map fun c=>c.amount).getD 0) want)
  unfold drawnSum at ih ⊢
  rw [aG,cM]
  dsimp only
  have:=Nat.min_le_right ((cs[k]?.map fun c=>c.amount).getD 0) want
  omega
theorem Bi (a b c:Nat):∀(l:List Coupon) (back:Bool),(leaves a b c back l).length=l.length
 |[],_=>rfl
 |x::r,back=>by
  unfold leaves
  repeat' split
  all_goals rw [aw,aw,Bi a b c r]
theorem Gb (a b c:Nat):∀(l:List Coupon) (back:Bool),(falls a b c back l).length=l.length
 |[],_=>rfl
 |x::r,back=>by
  unfold falls
  repeat' split
  all_goals rw [aw,aw,Gb a b c r]
theorem gN.gone {s:State}(I:gN s) {x:Nat×Nat×Nat}(h1:s.gone.contains x=false) (h2:¬GONE≤s.gone.length):gN { s with gone:=s.gone++[x] } where
 Jw:=I.Jw
 N4:=I.N4
 LS:=I.LS
 AB:=I.AB
 Ga:=I.Ga
 cps:=I.cps
 N5:=I.N5
 N6:=I.N6
 Qh:=by
  show (s.gone++[x]).length≤64
  rw [ay]
  have:¬64≤s.gone.length:=h2
  simp
  omega
 Qi:=by
  show (s.gone++[x]).Nodup
  rw [eJ]
  refine ⟨I.Qi,by simp,λa ha b hb e=>?_⟩
  have e2:b=x:=by simpa using hb
  subst e2
  subst e
  have:s.gone.contains a=true:=bq.mpr ha
  rw [h1] at this
  cases this
theorem gN.jR {s:State}(I:gN s) {t:Ticket}(hn:¬TICKETS≤s.tickets.length) (hf:formAt s.stock s.tickets.length=some t.form) (hc:1≤t.coupons.length∧t.coupons.length≤4) (hd:∀d∈t.drawn,d.1<s.credits.length) :
  gN { s with tickets:=s.tickets++[t] } where
 Jw:=I.Jw
 N4:=I.N4
 LS:=I.LS
 AB:=by
  show (s.tickets++[t]).length≤64
  rw [ay]
  have:¬64≤s.tickets.length:=hn
  simp
  omega
 Ga:=λi u h=>by
  have h:(s.tickets++[t])[i]?=some u:=h
  rw [List.getElem?_append] at h
  by_cases q:i<s.tickets.length
  ·rw [if_pos q] at h
   exact I.Ga i u h
  ·rw [if_neg q] at h
   have hi:i - s.tickets.length=0:=by
    rcases Nat.eq_zero_or_pos (i - s.tickets.length) with z|z
    ·exact z
    ·rw [bc (by simp;omega)] at h
     cases h
   rw [hi] at h
   have e:t=u:=by simpa using h
   subst e
   have e2:i=s.tickets.length:=by omega
   rw [e2]
   exact hf
 cps:=λu h=>by
  have h:u∈s.tickets++[t]:=h
  rcases bE.mp h with q|q
  ·exact I.cps u q
  ·have e:u=t:=by simpa using q
   subst e
   exact hc
 N5:=λu h d XT=>by
  have h:u∈s.tickets++[t]:=h
  rcases bE.mp h with q|q
  ·exact I.N5 u q d XT
  ·have e:u=t:=by simpa using q
   subst e
   exact hd d XT
 N6:=I.N6
 Qh:=I.Qh
 Qi:=I.Qi
theorem gN.vH {s:State}(I:gN s) {c:Credit}(hn:¬CREDITS≤s.credits.length):gN { s with credits:=s.credits++[c] }:=
 ⟨I.Jw,I.N4,I.LS,I.AB,I.Ga,I.cps,λt m d hd=>by
   show d.1<(s.credits++[c]).length
   rw [ay]
   have:=I.N5 t m d hd
   omega,by
   show (s.credits++[c]).length≤64
   rw [ay]
   have:¬64≤s.credits.length:=hn
   simp
   omega,I.Qh,I.Qi⟩
theorem gN.yG {s:State}(I:gN s) {lo hi:Nat}(h1:1≤lo) (h2:hi≤999999999) (h3:¬hi<lo) (h4:¬(s.stock.any fun x=>decide (x.1≤hi)&&decide (lo≤x.2))=true) (h5:¬RANGES≤s.stock.length):gN { s with stock:=s.stock++[(lo,hi)] } where
 Jw:=λx m=>by
  have m:x∈s.stock++[(lo,hi)]:=m
  rcases bE.mp m with q|q
  ·exact I.Jw x q
  ·have e:x=(lo,hi):=by simpa using q
   subst e
   dsimp only
   omega
 N4:=by
  show (s.stock++[(lo,hi)]).Pairwise Apart
  rw [List.pairwise_append]
  refine ⟨I.N4,List.pairwise_singleton _ _,λa ha b hb=>?_⟩
  have e:b=(lo,hi):=by simpa using hb
  subst e
  have q:¬(a.1≤hi∧lo≤a.2):=λz=>h4 (cZ.mpr ⟨a,ha,by simp [z.1,z.2]⟩)
  unfold Apart
  dsimp only
  omega
 LS:=by
  show (s.stock++[(lo,hi)]).length≤8
  rw [ay]
  have:¬8≤s.stock.length:=h5
  simp
  omega
 AB:=I.AB
 Ga:=λi t h=>va (I.Ga i t h)
 cps:=I.cps
 N5:=I.N5
 N6:=I.N6
 Qh:=I.Qh
 Qi:=I.Qi
theorem kZ {s:State}{number:Nat}{t:Ticket}(h:ticketOf s number=.ok t):t∈s.tickets∧t.form=number / 10∧right number=true:=by
 unfold ticketOf at h
 by_cases hr:right number=false
 ·rw [if_pos hr] at h
  cases h
 ·rw [if_neg hr] at h
  cases e:s.tickets.find? fun t=>t.form==number / 10 with
  |none=>
   rw [e] at h
   cases h
  |some u=>
   rw [e] at h
   have e2:u=t:=Except.ok.inj h
   subst e2
   exact ⟨List.mem_of_find?_eq_some e,by simpa using List.find?_some e,by simpa using hr⟩
theorem k6 {s:State}{number n:Nat}{x:Ticket×Coupon}(h:couponOf s number n=.ok x):x.1∈s.tickets∧x.1.coupons[n]?=some x.2∧ticketOf s number=.ok x.1:=by
 unfold couponOf at h
 cases e:ticketOf s number with
 |error z=>
  rw [e] at h
  cases h
 |ok t=>
  rw [e] at h
  dsimp only at h
  cases e2:t.coupons[n]? with
  |none=>
   rw [e2] at h
   cases h
  |some c=>
   rw [e2] at h
   have e3:(t,c)=x:=Except.ok.inj h
   subst e3
   exact ⟨(kZ e).1,e2,rfl⟩
theorem Bj (t:Ticket) (n:Nat) (f:Coupon→Coupon):(withCoupon t n f).coupons.length=t.coupons.length:=by
 unfold withCoupon
 dsimp only
 rw [dF]
theorem gN.Pe {s:State}(I:gN s) {number n:Nat}{x:Ticket×Coupon}(h:couponOf s number n=.ok x) (f:Coupon→Coupon):gN (cU s (withCoupon x.1 n f)):=
 I.putT (k6 h).1 rfl (Bj _ _ _) rfl
theorem gN.setAll {st:Status}:∀{ps:List (Nat×Nat)}{s:State},gN s→gN (setAll s st ps)
 |[],s,I=>I
 |(t,n)::r,s,I=>by
  unfold bK
  refine gN.setAll ?_
  cases e:couponOf s t n with
  |error z=>exact I
  |ok x=>exact I.Pe e _
theorem oy {st:Status}:∀(ps:List (Nat×Nat)) (s:State),(setAll s st ps).stock=s.stock∧(setAll s st ps).tickets.length=s.tickets.length∧(setAll s st ps).credits=s.credits∧(setAll s st ps).gone=s.gone∧(setAll s st ps).today=s.today∧
  (setAll s st ps).cashIn=s.cashIn∧(setAll s st ps).cashOut=s.cashOut∧(setAll s st ps).kept=s.kept
 |[],s=>⟨rfl,rfl,rfl,rfl,rfl,rfl,rfl,rfl⟩
 |(t,n)::r,s=>by
  unfold bK
  cases e:couponOf s t n with
  |error z=>
   dsimp only
   exact oy r s
  |ok x=>
   dsimp only
   have ih:=oy (st:=st) r (cU s (withCoupon x.1 n fun c=>{ c with status:=st }))
   unfold cU at ih
   dsimp only at ih
   rw [aa] at ih
   exact ih
def Good:Call→Prop
 |.stock lo hi=>1≤lo∧hi≤999999999
 |.issue _ _ cs _=>1≤cs.length∧cs.length≤4
 |.exchange _ _ _ _ cs=>1≤cs.length∧cs.length≤4
 |_=>True
theorem vb {s:State}{p:Nat}{ks:List Nat}(h:¬creditsFit s p ks=false):∀k∈ks,k - 1<s.credits.length:=λk hk=>by
 have h:creditsFit s p ks=true:=by simpa using h
 unfold creditsFit at h
 rw [aj,aL] at h
 have q:=h.2 k hk
 cases e:s.credits[k - 1]? with
 |none=>
  rw [e] at q
  cases q
 |some c=>exact (aO.mp e).1
theorem gN.step {s:State}(I:gN s) {c:Call}(g:Good c):gN (aq s c).1:=by
 cases c with
 |clock day=>
  unfold aq
  dsimp only
  split
  ·exact I
  ·refine gN.as (gN.Rb I (g:=λt=>{ t with coupons:=t.coupons.map fun c=>if runsOut day t c=true then { c with status:=.runOut } else c }) fun t m=>⟨rfl,?_,rfl⟩) rfl rfl ?_ rfl
   ·dsimp only
    rw [aa]
   ·dsimp only
    rw [aa]
 |stock lo hi=>
  unfold aq
  dsimp only
  split
  ·exact I
  ·split
   ·exact I
   ·split
    ·exact I
    ·rename_i h1 h2 h3
     exact I.yG g.1 g.2 h1 h2 h3
 |issue passenger last cs ks=>
  unfold aq
  dsimp only
  split
  ·exact I
  ·split
   ·exact I
   ·split
    ·exact I
    ·rename_i h1 h2 h3
     split
     ·exact I
     ·rename_i form hf
      unfold addTicket
      refine gN.jR (s:={ s with credits:=(draw s.credits (ks.map fun k=>k - 1) (worths cs)).1,cashIn:=_ }) (gN.as I rfl rfl (m8 _ _ _) rfl) h3 hf g fun d hd=>?_
      ·dsimp only at hd ⊢
       rw [m8]
       have m:d.1∈(draw s.credits (ks.map fun k=>k - 1) (worths cs)).2.map (·.1):=fb hd
       rw [ui] at m
       obtain ⟨k,hk,e⟩:=bB.mp m
       rw [←e]
       exact vb h2 k hk
 |void number=>
  unfold aq
  dsimp only
  cases e:ticketOf s number with
  |error z=>exact I
  |ok t=>
   dsimp only
   split
   ·exact I
   ·refine gN.putT (s:={ s with credits:=giveBack s.credits t.drawn,cashOut:=_ }) (t:=t) (gN.as I rfl rfl (rh _ _) rfl) (kZ e).1 rfl ?_ rfl
    dsimp only
    rw [aa]
 |use aa1 carrier number n=>
  unfold aq
  dsimp only
  cases e:couponOf s number n with
  |error z=>exact I
  |ok x=>
   dsimp only
   split
   ·exact I
   ·split
    ·exact I
    ·split
     ·exact I
     ·split
      ·exact I
      ·split
       ·exact I
       ·exact I.Pe e _
 |depart carrier num day=>
  unfold aq
  dsimp only
  split
  ·exact I
  ·split
   ·exact I
   ·rename_i h1 h2
    exact gN.gone (s:={ s with tickets:=_ }) (gN.Rb I (g:=λt=>{ t with coupons:=leaves carrier num day false t.coupons }) fun t m=>⟨rfl,Bi _ _ _ _ _,rfl⟩) (by simpa [isGone] using h1) h2
 |cancel carrier num day=>
  unfold aq
  dsimp only
  split
  ·exact I
  ·split
   ·exact I
   ·rename_i h1 h2
    exact gN.gone (s:={ s with tickets:=_ }) (gN.Rb I (g:=λt=>{ t with coupons:=falls carrier num day false t.coupons }) fun t m=>⟨rfl,Gb _ _ _ _ _,rfl⟩) (by simpa [isGone] using h1) h2
 |revalidate number n num day=>
  unfold aq
  dsimp only
  cases e:couponOf s number n with
  |error z=>exact I
  |ok x=>
   dsimp only
   split
   ·exact I
   ·split
    ·exact I
    ·exact I.Pe e _
 |suspend number n b=>
  unfold aq
  dsimp only
  cases e:couponOf s number n with
  |error z=>exact I
  |ok x=>
   dsimp only
   by_cases hb:b=1
   ·rw [if_pos hb]
    dsimp only
    split
    ·exact I
    ·exact I.Pe e _
   ·rw [if_neg hb]
    dsimp only
    split
    ·exact I
    ·exact I.Pe e _
 |exchange N8 mode last old cs=>
  unfold aq
  dsimp only
  cases e:oldOf s old with
  |error z=>exact I
  |ok l=>
   dsimp only
   generalize (if (l.all fun x=>x.2.free)=true then 0 else N8)=lI
   generalize worths (l.map fun x=>x.2) - (worths cs+lI)=rest
   generalize worths cs+lI - worths (l.map fun x=>x.2)=more
   generalize (l.head?.map fun x=>x.1.passenger).getD 0=p
   by_cases h1:distinctPairs old=false∨(l.all fun x=>x.1.passenger==p)=false
   ·rw [if_pos h1]
    exact I
   rw [if_neg h1]
   by_cases h2:last<s.today∨(cs.all fun c=>issuable s last c)=false
   ·rw [if_pos h2]
    exact I
   rw [if_neg h2]
   by_cases h3:TICKETS≤s.tickets.length
   ·rw [if_pos h3]
    exact I
   rw [if_neg h3]
   by_cases h4:mode=0∧0<rest∧CREDITS≤s.credits.length
   ·rw [if_pos h4]
    exact I
   rw [if_neg h4]
   cases hf:formAt s.stock s.tickets.length with
   |none=>exact I
   |some form=>
    dsimp only
    have A:gN (bK s .exchanged old):=I.setAll
    have B:=oy (st:=.exchanged) old s
    by_cases h5:mode=0∧0<rest
    ·rw [if_pos h5]
     have A1:=A.vH (c:={ passenger:=p,amount:=rest,last:=min (s.today+365) LASTDAY }) (by
      rw [B.2.2.1]
      intro q
      exact h4 ⟨h5.1,h5.2,q⟩)
     have A2:=A1.jR (t:={ form:=form,passenger:=p,issued:=(bK s .exchanged old).today,last:=last,cash:=more,drawn:=[],swapped:=true,coupons:=cs })
      (by dsimp only;rw [B.2.1];exact h3) (by dsimp only;rw [B.1,B.2.1];exact hf) g (λd hd=>by cases hd)
     exact A2.as rfl rfl rfl rfl
    ·rw [if_neg h5]
     have A2:=A.jR (t:={ form:=form,passenger:=p,issued:=(bK s .exchanged old).today,last:=last,cash:=more,drawn:=[],swapped:=true,coupons:=cs })
      (by rw [B.2.1];exact h3) (by rw [B.1,B.2.1];exact hf) g (λd hd=>by cases hd)
     exact A2.as rfl rfl rfl rfl
 |refund number N8 ns=>
  unfold aq
  dsimp only
  cases e:oldOf s (ns.map fun n=>(number,n)) with
  |error z=>exact I
  |ok l=>
   dsimp only
   split
   ·exact I
   ·exact gN.as (gN.setAll I) rfl rfl rfl rfl
 |credit id=>
  unfold aq
  dsimp only
  split<;>exact I
 |ticket number=>
  unfold aq
  dsimp only
  split<;>exact I
 |heaps=>exact I
 |lifted carrier=>exact I
 |on_ carrier num day=>exact I
 |valid number=>exact I
 |tickets=>exact I
end My
end
section
namespace My
open PySem PySem.Spec PyProof.Rows L2
structure Ad where
 fQ:Addr
 fX:Addr
 gq:Addr
 fP:Addr
 p9:Addr
 tq:Addr
 rj:Addr
 jq:Addr
 jI:Addr
 pl:List Addr
 rw:List Addr
 rn:List Addr
 rl:List Addr
 rf:List Addr
inductive Nm where
 |hs | rg | tk | tf | ct | gn
 |rt (i:Nat)
 |tc (i:Nat)
 |cl (i:Nat)
 |dl (i:Nat)
 |cp (i j:Nat)
 |dt (i j:Nat)
 |cr (k:Nat)
 deriving DecidableEq
structure Ly where
 a:Nm→Addr
 x:Nm→Addr
abbrev gL:=Vbahah.Coupon
abbrev iF:=Vbahah.Ticket
abbrev pK:=Vbahah.Credit
abbrev gA:=Vbahah.State
def vN (n:Nat):V:=.int (n:Int)
def mJ (x:aJ):V:=.int (dR x:Nat)
noncomputable def cf (c:gL):List (Str×V):=[("carrier",vN c.carrier),("num",vN c.num),("day",vN c.day),("origin",vN c.from_),("goal",vN c.to_),("value",vN c.value),("tax",vN c.tax),("status",mJ c.status),("free",.bl c.free)]
noncomputable def Rc (L:Ly) (i:Nat) (t:iF):List (Str×V):=[("number",vN (ao t.form)),("passenger",vN t.passenger),("issued",vN t.issued),("last",vN t.last),("coupons",.ref (L.a (.cl i))),("cash",vN t.cash),("drawn",.ref (L.a (.dl i))),("in_exchange",.bl t.swapped)]
def zB (c:pK):List (Str×V):=[("passenger",vN c.passenger),("amount",vN c.amount),("last",vN c.last)]
noncomputable def wO (L:Ly) (s:gA):List (Str×V):=[("today",vN s.today),("ranges",.ref (L.a .rg)),("tickets",.ref (L.a .tk)),("ticket_of",.ref (L.a .tf)),("credit_table",.ref (L.a .ct)),("gone",.ref (L.a .gn)),("cash_in",vN s.cashIn),("cash_out",vN s.cashOut),("kept",vN s.kept)]
def tu (L:Ly) (s:gA):List (Key×V):=s.tickets.mapIdx fun i t=>(Sum.inl (ao t.form:Int),.ref (L.a (.tc i)))
def N9 (g:Nat×Nat×Nat):List Key:=[Sum.inl (g.1:Int),Sum.inl (g.2.1:Int),Sum.inl (g.2.2:Int)]
def uw (s:gA):List (List Key×V):=s.gone.map fun g=>(N9 g,.bl true)
def refs (L:Ly) (n:Nat) (f:Nat→Nm):List V:=(aQ n).map fun i=>.ref (L.a (f i))
noncomputable def obj (d:Ad) (L:Ly) (s:gA):Nm→Option HO
 |.hs=>some (.ins d.fP (L.x .hs) (wO L s))
 |.rg=>some (.lst (refs L s.stock.length .rt))
 |.tk=>some (.lst (refs L s.tickets.length .tc))
 |.tf=>some (.dK (tu L s))
 |.ct=>some (.lst (refs L s.credits.length .cr))
 |.gn=>some (.dT (uw s))
 |.rt i=>s.stock[i]?.map fun r=>.tup [vN r.1,vN r.2]
 |.tc i=>s.tickets[i]?.map fun t=>.ins d.fX (L.x (.tc i)) (Rc L i t)
 |.cl i=>s.tickets[i]?.map fun t=>.lst (refs L t.coupons.length (.cp i))
 |.dl i=>s.tickets[i]?.map fun t=>.lst (refs L t.drawn.length (.dt i))
 |.cp i j=>s.tickets[i]?.bind fun t=>t.coupons[j]?.map fun c=>.ins d.fQ (L.x (.cp i j)) (cf c)
 |.dt i j=>s.tickets[i]?.bind fun t=>t.drawn[j]?.map fun p=>.tup [.ref (L.a (.cr p.1)),vN p.2]
 |.cr k=>s.credits[k]?.map fun c=>.ins d.gq (L.x (.cr k)) (zB c)
structure Rep (d:Ad) (H:Hp) (L:Ly) (s:gA):Prop where
 at_:∀n o,obj d L s n=some o→H (L.a n)=some o
 inj:∀n m o p,obj d L s n=some o→obj d L s m=some p→L.a n=L.a m→n=m
def Out (d:Ad) (L:Ly) (s:gA) (b:Addr):Prop:=∀n o,obj d L s n=some o→L.a n≠b
def gy (d:Ad) (H:Hp) (L:Ly) (s:gA) (H':Hp) (L':Ly) (s':gA):Prop:=∀b o,H b=some o→Out d L s b→H' b=some o∧Out d L' s' b
theorem gy.trans {d:Ad}{H H1 H2:Hp}{L L1 L2:Ly}{s s1 s2:gA}(a:gy d H L s H1 L1 s1) (b:gy d H1 L1 s1 H2 L2 s2):gy d H L s H2 L2 s2:=λc o h n=>
 let ⟨p,q⟩:=a c o h n
 b c o p q
theorem gy.same {d:Ad}{H H':Hp}{L:Ly}{s:gA}(h:gi H H'):gy d H L s H' L s:=λb o e n=>⟨h b o e,n⟩
section
variable {d:Ad}{H H':Hp}{L:Ly}{s s':gA}
theorem Rep.same (R:Rep d H L s) (h:gi H H'):Rep d H' L s:=⟨λn o e=>h _ _ (R.at_ n o e),R.inj⟩
theorem f9 {p:Addr}{o:HO}(h:H p=Option.none):gi H (upd H p o):=λb u e=>by
 rw [fZ (f6 e h)]
 exact e
theorem iG {p:Addr}{o:HO}(g:gi H H') (h:H p=Option.none):gi H (upd H' p o):=λb u e=>by
 rw [fZ (f6 e h)]
 exact g b u e
theorem Rep.put (R:Rep d H L s) {n0:Nm}{o0 o1:HO}(h0:obj d L s n0=some o0) (h1:obj d L s' n0=some o1) (h:∀n,n≠n0→obj d L s' n=obj d L s n):Rep d (upd H (L.a n0) o1) L s':=by
 refine ⟨λn o e=>?_,λn m o p e f q=>?_⟩
 ·by_cases hn:n=n0
  ·subst hn
   rw [h1] at e
   cases e
   exact fN
  ·rw [h n hn] at e
   rw [fZ fun q=>hn (R.inj n n0 o o0 e h0 q)]
   exact R.at_ n o e
 ·have A:∀k u,obj d L s' k=some u→∃u',obj d L s k=some u':=λk u e=>by
   by_cases hk:k=n0
   ·subst hk
    exact ⟨o0,h0⟩
   ·rw [h k hk] at e
    exact ⟨u,e⟩
  obtain ⟨o',e'⟩:=A n o e
  obtain ⟨p',f'⟩:=A m p f
  exact R.inj n m o' p' e' f' q
theorem gy.put (R:Rep d H L s) {n0:Nm}{o0 o1:HO}(h0:obj d L s n0=some o0) (h1:obj d L s' n0=some o1) (h:∀n,n≠n0→obj d L s' n=obj d L s n):gy d H L s (upd H (L.a n0) o1) L s':=λb o e hb=>by
 refine ⟨?_,λn u e'=>?_⟩
 ·rw [fZ fun q=>hb n0 o0 h0 q.symm]
  exact e
 ·by_cases hn:n=n0
  ·subst hn
   exact hb n o0 h0
  ·rw [h n hn] at e'
   exact hb n u e'
theorem Rep.hs (R:Rep d H L s):H (L.a .hs)=some (.ins d.fP (L.x .hs) (wO L s)):=R.at_ .hs _ rfl
theorem Rep.rg (R:Rep d H L s):H (L.a .rg)=some (.lst (refs L s.stock.length .rt)):=R.at_ .rg _ rfl
theorem Rep.tk (R:Rep d H L s):H (L.a .tk)=some (.lst (refs L s.tickets.length .tc)):=R.at_ .tk _ rfl
theorem Rep.tf (R:Rep d H L s):H (L.a .tf)=some (.dK (tu L s)):=R.at_ .tf _ rfl
theorem Rep.ct (R:Rep d H L s):H (L.a .ct)=some (.lst (refs L s.credits.length .cr)):=R.at_ .ct _ rfl
theorem Rep.gn (R:Rep d H L s):H (L.a .gn)=some (.dT (uw s)):=R.at_ .gn _ rfl
theorem Rep.rt (R:Rep d H L s) {i:Nat}{r:Nat×Nat}(h:s.stock[i]?=some r):H (L.a (.rt i))=some (.tup [vN r.1,vN r.2]):=R.at_ (.rt i) _ (by show s.stock[i]?.map _=_;rw [h];rfl)
theorem Rep.tc (R:Rep d H L s) {i:Nat}{t:iF}(h:s.tickets[i]?=some t):H (L.a (.tc i))=some (.ins d.fX (L.x (.tc i)) (Rc L i t)):=R.at_ (.tc i) _ (by show s.tickets[i]?.map _=_;rw [h];rfl)
theorem Rep.cl (R:Rep d H L s) {i:Nat}{t:iF}(h:s.tickets[i]?=some t):H (L.a (.cl i))=some (.lst (refs L t.coupons.length (.cp i))):=R.at_ (.cl i) _ (by show s.tickets[i]?.map _=_;rw [h];rfl)
theorem Rep.dl (R:Rep d H L s) {i:Nat}{t:iF}(h:s.tickets[i]?=some t):H (L.a (.dl i))=some (.lst (refs L t.drawn.length (.dt i))):=R.at_ (.dl i) _ (by show s.tickets[i]?.map _=_;rw [h];rfl)
theorem G9 {i j:Nat}{t:iF}{c:gL}(h:s.tickets[i]?=some t) (hc:t.coupons[j]?=some c):obj d L s (.cp i j)=some (.ins d.fQ (L.x (.cp i j)) (cf c)):=by
 show s.tickets[i]?.bind _=_
 rw [h]
 show t.coupons[j]?.map _=_
 rw [hc]
 all_goals rfl
theorem Rep.cp (R:Rep d H L s) {i j:Nat}{t:iF}{c:gL}(h:s.tickets[i]?=some t) (hc:t.coupons[j]?=some c):H (L.a (.cp i j))=some (.ins d.fQ (L.x (.cp i j)) (cf c)):=R.at_ _ _ (G9 h hc)
theorem Rep.dt (R:Rep d H L s) {i j:Nat}{t:iF}{p:Nat×Nat}(h:s.tickets[i]?=some t) (hc:t.drawn[j]?=some p):H (L.a (.dt i j))=some (.tup [.ref (L.a (.cr p.1)),vN p.2]):=R.at_ (.dt i j) _ (by
 show s.tickets[i]?.bind _=_
 rw [h]
 show t.drawn[j]?.map _=_
 rw [hc]
 all_goals rfl)
theorem tw {k:Nat}{c:pK}(h:s.credits[k]?=some c):obj d L s (.cr k)=some (.ins d.gq (L.x (.cr k)) (zB c)):=by
 show s.credits[k]?.map _=_
 rw [h]
 all_goals rfl
theorem Rep.cr (R:Rep d H L s) {k:Nat}{c:pK}(h:s.credits[k]?=some c):H (L.a (.cr k))=some (.ins d.gq (L.x (.cr k)) (zB c)):=R.at_ _ _ (tw h)
theorem kM {L:Ly}{n i:Nat}{f:Nat→Nm}(h:i<n):(refs L n f)[i]?=some (.ref (L.a (f i))):=by
 unfold refs
 rw [ah,dv h]
 rfl
theorem gH {L:Ly}{n:Nat}{f:Nat→Nm}:(refs L n f).length=n:=by
 unfold refs
 rw [aa,dM]
theorem iQ {L:Ly}{n i:Nat}{f:Nat→Nm}{v:V}(h:(refs L n f)[i]?=some v):i<n∧v=.ref (L.a (f i)):=by
 have hi:i<n:=by
  have:=(aO.mp h).1
  rw [gH] at this
  exact this
 rw [kM hi] at h
 exact ⟨hi,(Option.some.inj h).symm⟩
theorem qI {L:Ly}{n:Nat}{f:Nat→Nm}:refs L (n+1) f=refs L n f++[.ref (L.a (f n))]:=by
 unfold refs
 rw [dH,bP]
 rfl
end
def jF (s:gA) (i j:Nat) (f:gL→gL):gA:={ s with tickets:=s.tickets.modify i fun t=>{ t with coupons:=t.coupons.modify j f } }
section
variable {d:Ad}{H H':Hp}{L:Ly}{s s':gA}
theorem lP (s:gA) (i j i':Nat) (f:gL→gL):(jF s i j f).tickets[i']?=s.tickets[i']?.map fun t=>if i=i' then { t with coupons:=t.coupons.modify j f } else t:=by
 show (s.tickets.modify i _)[i']?=_
 rw [bT]
 by_cases h:i=i'
 ·simp [h]
 ·simp [h]
theorem Kc {i j:Nat}{f:gL→gL}{n:Nm}(h:n≠.cp i j):obj d L (jF s i j f) n=obj d L s n:=by
 cases n with
 |hs=>rfl
 |rg=>rfl
 |tk=>
  show some (HO.lst (refs L (s.tickets.modify i _).length .tc))=_
  rw [bU]
  rfl
 |tf=>
  show some (HO.dK (tu L (jF s i j f)))=some (HO.dK (tu L s))
  congr 2
  unfold tu
  apply bR
  intro m
  rw [bD,bD,lP,cn]
  cases s.tickets[m]? with
  |none=>rfl
  |some t=>
   show some _=some _
   dsimp only [Function.comp]
   split<;>rfl
 |ct=>rfl
 |gn=>rfl
 |rt m=>rfl
 |tc m=>
  show (jF s i j f).tickets[m]?.map _=s.tickets[m]?.map _
  rw [lP,cn]
  cases s.tickets[m]? with
  |none=>rfl
  |some t=>
   show some _=some _
   dsimp only [Function.comp]
   split<;>rfl
 |cl m=>
  show (jF s i j f).tickets[m]?.map _=s.tickets[m]?.map _
  rw [lP,cn]
  cases s.tickets[m]? with
  |none=>rfl
  |some t=>
   show some _=some _
   dsimp only [Function.comp]
   split
   ·dsimp only
    rw [bU]
   ·rfl
 |dl m=>
  show (jF s i j f).tickets[m]?.map _=s.tickets[m]?.map _
  rw [lP,cn]
  cases s.tickets[m]? with
  |none=>rfl
  |some t=>
   show some _=some _
   dsimp only [Function.comp]
   split<;>rfl
 |cp m k=>
  show (jF s i j f).tickets[m]?.bind _=s.tickets[m]?.bind _
  rw [lP]
  cases s.tickets[m]? with
  |none=>rfl
  |some t=>
   show (if i=m then _ else t).coupons[k]?.map _=t.coupons[k]?.map _
   by_cases hm:i=m
   ·subst hm
    rw [if_pos rfl]
    dsimp only
    rw [bT]
    have hk:¬j=k:=λe=>h (by rw [e])
    simp [hk]
   ·rw [if_neg hm]
 |dt m k=>
  show (jF s i j f).tickets[m]?.bind _=s.tickets[m]?.bind _
  rw [lP]
  cases s.tickets[m]? with
  |none=>rfl
  |some t=>
   show (if i=m then _ else t).drawn[k]?.map _=t.drawn[k]?.map _
   by_cases hm:i=m
   ·rw [if_pos hm]
   ·rw [if_neg hm]
 |cr m=>rfl
theorem Oa {i j:Nat}{f:gL→gL}{t:iF}{c:gL}(h:s.tickets[i]?=some t) (hc:t.coupons[j]?=some c):obj d L (jF s i j f) (.cp i j)=some (.ins d.fQ (L.x (.cp i j)) (cf (f c))):=by
 show (jF s i j f).tickets[i]?.bind _=_
 rw [lP,h]
 show (if i=i then _ else t).coupons[j]?.map _=_
 rw [if_pos rfl]
 dsimp only
 rw [bT,hc]
 simp
theorem Rep.jF (R:Rep d H L s) {i j:Nat}{f:gL→gL}{t:iF}{c:gL}(h:s.tickets[i]?=some t) (hc:t.coupons[j]?=some c):Rep d (upd H (L.a (.cp i j)) (.ins d.fQ (L.x (.cp i j)) (cf (f c)))) L (jF s i j f):=
 R.put (G9 h hc) (Oa h hc) fun n hn=>Kc hn
theorem gy.jF (R:Rep d H L s) {i j:Nat}{f:gL→gL}{t:iF}{c:gL}(h:s.tickets[i]?=some t) (hc:t.coupons[j]?=some c):gy d H L s (upd H (L.a (.cp i j)) (.ins d.fQ (L.x (.cp i j)) (cf (f c)))) L (My.jF s i j f):=
 gy.put R (G9 h hc) (Oa h hc) fun n hn=>Kc hn
theorem Rep.lK (R:Rep d H L s) {a b c e:Nat}:Rep d (upd H (L.a .hs) (.ins d.fP (L.x .hs) (wO L { s with today:=a,cashIn:=b,cashOut:=c,kept:=e }))) L { s with today:=a,cashIn:=b,cashOut:=c,kept:=e }:=
 R.put (n0:=.hs) rfl rfl fun n hn=>by
  cases n<;>first|rfl|exact absurd rfl hn
theorem gy.lK (R:Rep d H L s) {a b c e:Nat}:gy d H L s (upd H (L.a .hs) (.ins d.fP (L.x .hs) (wO L { s with today:=a,cashIn:=b,cashOut:=c,kept:=e }))) L { s with today:=a,cashIn:=b,cashOut:=c,kept:=e }:=
 gy.put R (n0:=.hs) rfl rfl fun n hn=>by
  cases n<;>first|rfl|exact absurd rfl hn
end
theorem Wy {a b:Str}(h:(a==b)=false):¬a=b:=λe=>by
 subst e
 simp at h
theorem oX (c:gL):(cf c).lookup ("carrier":Str)=some (vN c.carrier):=rfl
theorem Rf (c:gL):(cf c).lookup ("num":Str)=some (vN c.num):=rfl
theorem MC (c:gL):(cf c).lookup ("day":Str)=some (vN c.day):=rfl
theorem yH (c:gL):(cf c).lookup ("origin":Str)=some (vN c.from_):=rfl
theorem Ha (c:gL):(cf c).lookup ("goal":Str)=some (vN c.to_):=rfl
theorem xa (c:gL):(cf c).lookup ("value":Str)=some (vN c.value):=rfl
theorem Hb (c:gL):(cf c).lookup ("tax":Str)=some (vN c.tax):=rfl
theorem iy (c:gL):(cf c).lookup ("status":Str)=some (mJ c.status):=rfl
theorem Hc (c:gL):(cf c).lookup ("free":Str)=some (.bl c.free):=rfl
theorem rk (L:Ly) (i:Nat) (t:iF):(Rc L i t).lookup ("number":Str)=some (vN (ao t.form)):=rfl
theorem vc (L:Ly) (i:Nat) (t:iF):(Rc L i t).lookup ("passenger":Str)=some (vN t.passenger):=rfl
theorem Bk (L:Ly) (i:Nat) (t:iF):(Rc L i t).lookup ("issued":Str)=some (vN t.issued):=rfl
theorem Bl (L:Ly) (i:Nat) (t:iF):(Rc L i t).lookup ("last":Str)=some (vN t.last):=rfl
theorem iB (L:Ly) (i:Nat) (t:iF):(Rc L i t).lookup ("coupons":Str)=some (.ref (L.a (.cl i))):=rfl
theorem Kd (L:Ly) (i:Nat) (t:iF):(Rc L i t).lookup ("cash":Str)=some (vN t.cash):=rfl
theorem Gd (L:Ly) (i:Nat) (t:iF):(Rc L i t).lookup ("drawn":Str)=some (.ref (L.a (.dl i))):=rfl
theorem zP (L:Ly) (i:Nat) (t:iF):(Rc L i t).lookup ("in_exchange":Str)=some (.bl t.swapped):=rfl
theorem vd (c:pK):(zB c).lookup ("passenger":Str)=some (vN c.passenger):=rfl
theorem lW (c:pK):(zB c).lookup ("amount":Str)=some (vN c.amount):=rfl
theorem Ke (c:pK):(zB c).lookup ("last":Str)=some (vN c.last):=rfl
theorem lh (L:Ly) (s:gA):(wO L s).lookup ("today":Str)=some (vN s.today):=rfl
theorem oY (L:Ly) (s:gA):(wO L s).lookup ("ranges":Str)=some (.ref (L.a .rg)):=rfl
theorem i7 (L:Ly) (s:gA):(wO L s).lookup ("tickets":Str)=some (.ref (L.a .tk)):=rfl
theorem iC (L:Ly) (s:gA):(wO L s).lookup ("ticket_of":Str)=some (.ref (L.a .tf)):=rfl
theorem ik (L:Ly) (s:gA):(wO L s).lookup ("credit_table":Str)=some (.ref (L.a .ct)):=rfl
theorem qJ (L:Ly) (s:gA):(wO L s).lookup ("gone":Str)=some (.ref (L.a .gn)):=rfl
theorem tD (L:Ly) (s:gA):(wO L s).lookup ("cash_in":Str)=some (vN s.cashIn):=rfl
theorem oA (L:Ly) (s:gA):(wO L s).lookup ("cash_out":Str)=some (vN s.cashOut):=rfl
theorem tE (L:Ly) (s:gA):(wO L s).lookup ("kept":Str)=some (vN s.kept):=rfl
theorem ve (c:gL):(cf c).lookup ("worth":Str)=Option.none∧(cf c).lookup ("flight":Str)=Option.none∧(cf c).lookup ("has_ended":Str)=Option.none:=⟨rfl,rfl,rfl⟩
theorem ME (c:gL) (x:aJ):gh "status" (mJ x) (cf c)=cf { c with status:=x }:=rfl
theorem Rg (c:gL) (b:Bool):gh "free" (.bl b) (cf c)=cf { c with free:=b }:=rfl
theorem Bm (c:pK) (b:Nat):gh "amount" (vN b) (zB c)=zB { c with amount:=b }:=rfl
theorem Pf (L:Ly) (s:gA) (b:Nat):gh "today" (vN b) (wO L s)=wO L { s with today:=b }:=rfl
theorem Kf (L:Ly) (s:gA) (b:Nat):gh "cash_in" (vN b) (wO L s)=wO L { s with cashIn:=b }:=rfl
theorem rm (L:Ly) (s:gA) (b:Nat):gh "cash_out" (vN b) (wO L s)=wO L { s with cashOut:=b }:=rfl
theorem Bn (L:Ly) (s:gA) (b:Nat):gh "kept" (vN b) (wO L s)=wO L { s with kept:=b }:=rfl
end My
end
section
namespace My
open PySem PySem.Spec PyProof.Rows L2
def top (i:Nat):Stmt:=PySem.Challenge.pw_couponhouse_s01_answers.main.body.getD i (.Pass ⟨0,0,0,0⟩)
def vJ (K:ab) (a:Addr) (xs:List V):Prop:=∃(o:Obj) (hU:Array Value) (n:Nat),K.lookup a=some o∧o.cls=.type "tuple"∧o.data=.seq hU n∧hU.size≤sizeLine∧Vals xs hU.toList
theorem vJ.sq {K:ab}{H:Hp}{a:Addr}{xs:List V}(h:vJ K a xs):mZ K H a xs:=.inr h
noncomputable def Bo:List (List V):=[[.str "day"],[.str "form",.str "form"],[.str "passenger",.str "day"],[.str "number"],[.str "verb",.str "carrier",.str "number",.str "place"],[.str "carrier",.str "num",.str "day"],[.str "carrier",.str "num",.str "day"],[.str "number",.str "place",.str "num",.str "day"],[.str "number",.str "place",.str "switch"],[.str "amount",.str "mode",.str "day"],[.str "number",.str "amount"],[.str "credit"],[.str "number"],[],[.str "carrier"],[.str "carrier",.str "num",.str "day"],[.str "number"],[]]
def xb (d:Ad):List (Key×V):=[((Sum.inl (2:Int):Key),V.ref (d.rw.getD 0 0)),((Sum.inl (9:Int):Key),V.ref (d.rw.getD 1 0)),((Sum.inl (10:Int):Key),V.ref (d.rw.getD 2 0))]
def Ob:List (List V):=[[.str "new coupons",.str "credits"],[.str "old coupons",.str "new coupons"],[.str "places"]]
noncomputable def Ge (d:Ad):List (Key×V):=[((Sum.inr ("amount":Str):Key),V.ref (d.rn.getD 0 0)),((Sum.inr ("airport":Str):Key),V.ref (d.rn.getD 1 0)),((Sum.inr ("carrier":Str):Key),V.ref (d.rn.getD 2 0)),((Sum.inr ("credit":Str):Key),V.ref (d.rn.getD 3 0)),((Sum.inr ("day":Str):Key),V.ref (d.rn.getD 4 0)),((Sum.inr ("form":Str):Key),V.ref (d.rn.getD 5 0)),((Sum.inr ("mode":Str):Key),V.ref (d.rn.getD 6 0)),((Sum.inr ("num":Str):Key),V.ref (d.rn.getD 7 0)),((Sum.inr ("number":Str):Key),V.ref (d.rn.getD 8 0)),((Sum.inr ("passenger":Str):Key),V.ref (d.rn.getD 9 0)),((Sum.inr ("place":Str):Key),V.ref (d.rn.getD 10 0)),((Sum.inr ("switch":Str):Key),V.ref (d.rn.getD 11 0)),((Sum.inr ("verb":Str):Key),V.ref (d.rn.getD 12 0))]
noncomputable def Gf:List (List V):=[[.int 0,.int 1000000000],[.int 0,.int 17575],[.int 0,.int 675],[.int 1,.int 64],[.int 0,.int 36524],[.int 1,.int 999999999],[.int 0,.int 2],[.int 1,.int 9999],[.int 10,.int 9999999999],[.int 1,.int 1000000000],[.int 0,.int 3],[.int 0,.int 1],[.int 1,.int 6]]
def oZ (d:Ad):List (Key×V):=[((Sum.inr ("new coupons":Str):Key),V.ref (d.rl.getD 0 0)),((Sum.inr ("old coupons":Str):Key),V.ref (d.rl.getD 1 0)),((Sum.inr ("credits":Str):Key),V.ref (d.rl.getD 2 0)),((Sum.inr ("places":Str):Key),V.ref (d.rl.getD 3 0))]
noncomputable def tG:List (List V):=[[.int 7,.int 14,.int 21,.int 28],[.int 2,.int 4,.int 6,.int 8,.int 10,.int 12,.int 14,.int 16],[.int 0,.int 1,.int 2,.int 3,.int 4],[.int 1,.int 2,.int 3,.int 4]]
def qa (d:Ad):List (Key×V):=[((Sum.inr ("new coupons":Str):Key),V.ref (d.rf.getD 0 0)),((Sum.inr ("old coupons":Str):Key),V.ref (d.rf.getD 1 0)),((Sum.inr ("credits":Str):Key),V.ref (d.rf.getD 2 0)),((Sum.inr ("places":Str):Key),V.ref (d.rf.getD 3 0))]
def vf:List (List V):=[[.str "carrier",.str "num",.str "day",.str "airport",.str "airport",.str "amount",.str "amount"],[.str "number",.str "place"],[.str "credit"],[.str "place"]]
structure Txt (P:Program) (w:World) (K:ab) (mg:Str→Option Value) (d:Ad):Prop where
 fQ:OO K d.fQ
 iD:iw K d.fQ "carrier"
 kN:iw K d.fQ "num"
 j6:iw K d.fQ "day"
 jB:iw K d.fQ "origin"
 ke:iw K d.fQ "goal"
 js:iw K d.fQ "value"
 j7:iw K d.fQ "tax"
 gc:iw K d.fQ "status"
 jr:iw K d.fQ "free"
 fX:OO K d.fX
 iL:iw K d.fX "number"
 i9:iw K d.fX "passenger"
 jS:iw K d.fX "issued"
 kf:iw K d.fX "last"
 gD:iw K d.fX "coupons"
 lj:iw K d.fX "cash"
 kD:iw K d.fX "drawn"
 jh:iw K d.fX "in_exchange"
 gq:OO K d.gq
 ja:iw K d.gq "passenger"
 gZ:iw K d.gq "amount"
 lq:iw K d.gq "last"
 fP:OO K d.fP
 iq:iw K d.fP "today"
 i5:iw K d.fP "ranges"
 gW:iw K d.fP "tickets"
 gM:iw K d.fP "ticket_of"
 gB:iw K d.fP "credit_table"
 jt:iw K d.fP "gone"
 iM:iw K d.fP "cash_in"
 ig:iw K d.fP "cash_out"
 iH:iw K d.fP "kept"
 AD:∃t,mg "CLOCK"=some (.int 0 t)
 AE:∃t,mg "STOCK"=some (.int 1 t)
 AF:∃t,mg "ISSUE"=some (.int 2 t)
 oB:∃t,mg "VOID_calls"=some (.int 3 t)
 Oc:∃t,mg "USE"=some (.int 4 t)
 xc:∃t,mg "DEPART"=some (.int 5 t)
 xf:∃t,mg "CANCEL"=some (.int 6 t)
 oE:∃t,mg "REVALIDATE"=some (.int 7 t)
 uj:∃t,mg "SUSPEND"=some (.int 8 t)
 ro:∃t,mg "EXCHANGE"=some (.int 9 t)
 xg:∃t,mg "REFUND"=some (.int 10 t)
 xh:∃t,mg "CREDIT"=some (.int 11 t)
 xi:∃t,mg "TICKET"=some (.int 12 t)
 AG:∃t,mg "HEAPS"=some (.int 13 t)
 xj:∃t,mg "LIFTED"=some (.int 14 t)
 Ud:∃t,mg "ON"=some (.int 15 t)
 AH:∃t,mg "VALID"=some (.int 16 t)
 Hd:mg "PLAIN"=some (.ref d.p9)
 AI:d.pl.length=18
 Od:∀(i:Nat) (a:Addr) (xs:List V),d.pl[i]?=some a→Bo[i]?=some xs→vJ K a xs
 He:vJ K d.p9 (d.pl.map V.ref)
 MF:mg "ROWS"=some (.ref d.tq)
 Hf:d.rw.length=3
 Hg:∀(i:Nat) (a:Addr) (xs:List V),d.rw[i]?=some a→Ob[i]?=some xs→vJ K a xs
 MH:MD P w K d.tq (xb d)
 Kg:mg "RANGES"=some (.ref d.rj)
 xk:d.rn.length=13
 jJ:∀(i:Nat) (a:Addr) (xs:List V),d.rn[i]?=some a→Gf[i]?=some xs→vJ K a xs
 Kh:MD P w K d.rj (Ge d)
 vg:mg "ROW_LENGTHS"=some (.ref d.jq)
 mV:d.rl.length=4
 lL:∀(i:Nat) (a:Addr) (xs:List V),d.rl[i]?=some a→tG[i]?=some xs→vJ K a xs
 vh:MD P w K d.jq (oZ d)
 xl:mg "ROW_FIELDS"=some (.ref d.jI)
 oF:d.rf.length=4
 mm:∀(i:Nat) (a:Addr) (xs:List V),d.rf[i]?=some a→vf[i]?=some xs→vJ K a xs
 xo:MD P w K d.jI (qa d)
 lX:∃t,mg "OPEN"=some (.int 0 t)
 iO:∃t,mg "CONTROLLED"=some (.int 1 t)
 iz:∃t,mg "CHECKED_IN"=some (.int 2 t)
 ma:∃t,mg "BOARDED"=some (.int 3 t)
 oG:∃t,mg "FLOWN"=some (.int 4 t)
 m9:∃t,mg "EXCHANGED"=some (.int 5 t)
 o4:∃t,mg "REFUNDED"=some (.int 6 t)
 kO:∃t,mg "VOID_records"=some (.int 7 t)
 oP:∃t,mg "RUN_OUT"=some (.int 8 t)
 j8:∃t,mg "SUSPENDED"=some (.int 9 t)
 gx:∃t,mg "GRANTED"=some (.int 0 t)
 mn:∃t,mg "OUT_OF_RANGE"=some (.int (-2) t)
 mq:∃t,mg "WRONG_NUMBER"=some (.int (-3) t)
 pL:∃t,mg "NO_TICKET"=some (.int (-4) t)
 pM:∃t,mg "NO_COUPON"=some (.int (-5) t)
 jK:∃t,mg "TABLE_FULL"=some (.int (-6) t)
 jT:∃t,mg "NOT_ISSUABLE"=some (.int (-7) t)
 kP:∃t,mg "WRONG_CREDIT"=some (.int (-8) t)
 ju:∃t,mg "NOT_ALLOWED"=some (.int (-9) t)
 lQ:∃t,mg "OTHER_CARRIER"=some (.int (-10) t)
 lM:∃t,mg "FLIGHT_GONE"=some (.int (-11) t)
 mr:∃t,mg "OUT_OF_ORDER"=some (.int (-12) t)
 lR:∃t,mg "DAY_GOES_BACK"=some (.int (-13) t)
 kE:∃t,mg "WRONG_FORMS"=some (.int (-14) t)
 jL:∃t,mg "TWICE_OR_UNLIKE"=some (.int (-15) t)
 rp:∃t,mg "CHECK_IN"=some (.int 3 t)
 rq:∃t,mg "TAKE_OFF"=some (.int 4 t)
 AJ:∃t,mg "BOARD"=some (.int 5 t)
 pN:∃t,mg "MOST_GONE"=some (.int 64 t)
 mW:∃t,mg "MOST_RANGES"=some (.int 8 t)
 kQ:∃t,mg "MOST_TICKETS"=some (.int 64 t)
 lT:∃t,mg "COUPON_FIELDS"=some (.int 7 t)
 mw:∃t,mg "MOST_CREDITS"=some (.int 64 t)
 mX:∃t,mg "CREDIT_DAYS"=some (.int 365 t)
 mx:∃t,mg "LAST_OF_DAYS"=some (.int 36524 t)
 pO:∃t,mg "TO_CREDIT"=some (.int 0 t)
 uk:∃t,mg "TO_CASH"=some (.int 1 t)
 um:∃t,mg "TO_KEEP"=some (.int 2 t)
 jb:mg "len"=none
 qK:mg "sum"=none
 sj:mg "all"=none
 Oe:mg "any"=none
 Gg:mg "min"=none
 Ki:mg "max"=none
 xq:mg "range"=none
 Kj:mg "zip"=none
 nh:mg "enumerate"=none
 Gh:mg "set"=none
end My
end
section
namespace My
open PySem PySem.Spec PyProof.Rows L2
abbrev Wz (x qual:Str) (st:Stmt) (ps:List Str):Prop:=∀(kV doc pm:Value) (an:Option Addr) (si ct:Value) (us:List Value),us.length=ps.length→bindArgs (cK x qual (ou st) (mj st) (fS st) .none kV doc pm an si ct) ⟨us,[]⟩=pure (ps.zip us)
structure FG (K:ab) (mg:Str→Option Value) (x:Str) (st:Stmt):Prop where
 ex:∃(f:Addr) (fd:FuncData),TC K x x st f fd∧mg x=some (.ref f)
structure MG (K:ab) (C:Addr) (m qual:Str) (st:Stmt):Prop where
 ex:∃(f:Addr) (fd:FuncData),TC K m qual st f fd∧Meth K C m f
structure CG (K:ab) (mg:Str→Option Value) (C:Addr) (x qual:Str) (st:Stmt):Prop where
 ex:∃(f:Addr) (fd:FuncData),TC K "__init__" qual st f fd∧L2.Mk K C f∧mg x=some (.ref C)
section
variable {K:ab}{mg:Str→Option Value}{h:Heap}{x m qual:Str}{st:Stmt}{f C:Addr}{oc:Value}{od an:Option Addr}{Mi:Array (Option Value)}{kV doc pm si ct:Value}{Z:Prop}
theorem gX (X:K.In h) (G:h.Ns mainGlobals mg) (a:ae K mainGlobals x=some (some (.ref f))) (l:K.lookup f=some ⟨oc,od,.func (cK x x (ou st) (mj st) (fS st) .none kV doc pm an si ct),Mi⟩)
  (c:dQ K si x=true) (k:cw K (.ref f)=true) (z:FG K mg x st→Z):Z:=z ⟨f,_,Mq l c k,dq X G a⟩
theorem Rh (X:K.In h) (aC:ae K mainGlobals x=some (some (.ref C))) (a:aA K (.ref C) m=some (some (.ref f))) (i:fc K (.ref f)=true) (l:K.lookup f=some ⟨oc,od,.func (cK m qual (ou st) (mj st) (fS st) .none kV doc pm an si ct),Mi⟩)
  (c:dQ K si qual=true) (k:cw K (.ref f)=true) (z:MG K C m qual st→Z):Z:=z ⟨f,_,Mq l c k,⟨a,i,k⟩⟩
theorem Of (X:K.In h) (G:h.Ns mainGlobals mg) (aC:ae K mainGlobals x=some (some (.ref C))) (a:aA K (.ref C) "__init__"=some (some (.ref f))) (i:fc K (.ref f)=true) (l:K.lookup f=some ⟨oc,od,.func (cK "__init__" qual (ou st) (mj st) (fS st) .none kV doc pm an si ct),Mi⟩)
  (c:dQ K si qual=true) (k:cw K (.ref f)=true) (mk:PySem.W.makesIn K C=true) (kc:cw K (.ref C)=true) (z:CG K mg C x qual st→Z):Z:=z ⟨f,_,Mq l c k,⟨mk,a,i,kc⟩,dq X G aC⟩
end
theorem lu {N ps:List Str}{sc:Scope}(a:sc.kind=.function:=by rfl) (b:sc.isCoroutine=false:=by rfl) (c:sc.isGenerator=false:=by rfl) (d:N.Nodup:=by decide +kernel) (e:N.take ps.length=ps:=by rfl) (f:∀x∈ps,sc.names.lookup x=some .local∨sc.names.lookup x=some .cell:=by decide +kernel) (g:∀y∈sc.names,y.2≠.free:=by decide +kernel):gf N ps sc:=⟨a,b,c,d,e,f,g⟩
theorem bn {n}{p:List Value→Prop}(h:∀a us,us.length=n→p (a::us)):∀us,us.length=n+1→p us
 |a::us,e=>h a us (Nat.succ.inj e)
theorem Dl {p:List Value→Prop}(h:∀a,p [a]):∀us:List Value,us.length=1→p us
 |[a],_=>h a
theorem MI {p:List Value→Prop}(h:∀a b,p [a,b]):∀us:List Value,us.length=2→p us:=bn fun a=>Dl (h a)
theorem Pg {p:List Value→Prop}(h:∀a b c,p [a,b,c]):∀us:List Value,us.length=3→p us:=bn fun a=>MI (h a)
theorem Vn {p:List Value→Prop}(h:∀a b c d,p [a,b,c,d]):∀us:List Value,us.length=4→p us:=bn fun a=>Pg (h a)
theorem WA {p:List Value→Prop}(h:∀a b c d e,p [a,b,c,d,e]):∀us:List Value,us.length=5→p us:=bn fun a=>Vn (h a)
theorem ar6 {p:List Value→Prop}(h:∀a b c d e f,p [a,b,c,d,e,f]):∀us:List Value,us.length=6→p us:=bn fun a=>WA (h a)
theorem ar8 {p:List Value→Prop}(h:∀a b c d e f g i,p [a,b,c,d,e,f,g,i]):∀us:List Value,us.length=8→p us:=bn fun a=>bn fun b=>ar6 (h a b)
theorem ar9 {p:List Value→Prop}(h:∀a b c d e f g i j,p [a,b,c,d,e,f,g,i,j]):∀us:List Value,us.length=9→p us:=bn fun a=>ar8 (h a)
theorem bd {i:Nat}{p j:Int}{t u:TS}{D σ H}(h:σ[i]?=some (some (.int p))) (n:decide (V.int p=V.int j)=false) (r:u D σ H):g6 (pC (kH (km Tj (fV i) (tC (.int j)))) t lD) u D σ H:=⟨_,h,rfl,_,rfl,by rw [n];exact f7 r⟩
theorem be {i:Nat}{p j:Int}{t u:TS}{D σ H}(h:σ[i]?=some (some (.int p))) (n:decide (V.int p=V.int j)=true) (r:t { D with nx:=u D } σ H):g6 (pC (kH (km Tj (fV i) (tC (.int j)))) t lD) u D σ H:=⟨_,h,rfl,_,rfl,by rw [n];exact gR r⟩
theorem bm {K:ab}{j:Nat}{i:Int}{a σ H xs v}{Q:VK}(h:σ[j]?=some (some (.ref a))) (g:gE K H a xs) (e:VV xs i=some v) (q:Q v H):km (Mj K) (fV j) (tC (.int i)) σ H Q:=⟨_,h,a,_,i,_,rfl,rfl,g,e,q⟩
theorem U {i:Nat}{σ:L2.St}{v:V}{Q:V→Prop}(h:σ[i]?=some (some v)) (q:Q v):∃u,σ[i]?=some (some u)∧Q u:=⟨v,h,q⟩
theorem ac {b:Bool}{Q:Bool→Prop}(q:Q b):∃k,V.bl b=.bl k∧Q k:=⟨b,rfl,q⟩
theorem ad {a b:Int}{Q:Int→Int→Prop}(q:Q a b):∃i j,V.int a=.int i∧V.int b=.int j∧Q i j:=⟨a,b,rfl,rfl,q⟩
section
variable {P:Program}{w:World}{K:ab}{mg:Str→Option Value}{base:Heap}{x m qual:Str}{C:Addr}{st:Stmt}{N ps:List Str}{k:Nat}{sp:Sp}
abbrev Bdy (P:Program) (w:World) (K:ab) (mg:Str→Option Value) (base:Heap) (qual:Str) (st:Stmt) (N:List Str) (k:Nat) (sp:Sp):Prop:=∀(f:Addr) (si:Value) (A:Around) (outer:List Env) (s:Shared) (H:Hp) (vs:List V) (Q:VK) (E:XK),lV k (A.deeper (envOfC qual (fS st) s.heap.objs.size f si))→sp vs H Q E→
 ∃t,NC (Mh S8 P w K mg base N qual (fS st) f si A outer s H E).Ys (mj st) t∧t { nx:=λ_ H'=>Q .mH H',rt:=Q } (start N vs) H
theorem FG.fd (G:FG K mg x st) (S:gf N ps (fS st)) (B:Wz x x st ps) (b:Bdy P w K mg base x st N k sp) (len:∀vs H Q E,sp vs H Q E→vs.length=ps.length:=by intro _ _ _ _ h;repeat (first|(obtain ⟨e,_⟩:=h;subst e;rfl)|(obtain ⟨_,h⟩:=h))):Fd P w K mg base (k+1) x ps sp:=by
 obtain ⟨f,fd,F,m⟩:=G.ex
 exact ⟨f,fd,F.ok S len (b f),m,F.kp,F.binds B⟩
theorem MG.md (G:MG K C m qual st) (S:gf N ps (fS st)) (B:Wz m qual st ps) (b:Bdy P w K mg base qual st N k sp) (len:∀vs H Q E,sp vs H Q E→vs.length=ps.length:=by intro _ _ _ _ h;repeat (first|(obtain ⟨e,_⟩:=h;subst e;rfl)|(obtain ⟨_,h⟩:=h))):Md P w K mg base (k+1) C m ps sp:=by
 obtain ⟨f,fd,F,m⟩:=G.ex
 exact ⟨f,fd,F.ok S len (b f),m,F.binds B⟩
theorem CG.cd (G:CG K mg C x qual st) (S:gf N ps (fS st)) (B:Wz "__init__" qual st ps) (b:Bdy P w K mg base qual st N k sp) (len:∀vs H Q E,sp vs H Q E→vs.length=ps.length:=by intro _ _ _ _ h;repeat (first|(obtain ⟨e,_⟩:=h;subst e;rfl)|(obtain ⟨_,h⟩:=h))):Cd P w K mg base (k+1) C x ps sp:=by
 obtain ⟨f,fd,F,mk,m⟩:=G.ex
 exact ⟨f,fd,F.ok S len (b f),mk,m,F.binds B⟩
end
end My
end
section
namespace My
open PySem PySem.Spec PyProof.Rows L2
theorem oH (σ:L2.St) (k:Nat) (v:Option V):((σ.set k none).set k v).set k none=σ.set k none:=by
 rw [ff,ff]
theorem take_snoc {α:Type}{l:List α}{i:Nat}{x:α}(h:l[i]?=some x):l.take (i+1)=l.take i++[x]:=by
 rw [List.take_succ,h]
 rfl
theorem iZ {α:Type}{l:List α}{i:Nat}{x:α}(h:l[i]?=some x):i<l.length:=(aO.mp h).1
theorem gu {α:Type}{l:List α}{i:Nat}(h:i<l.length):∃x,l[i]?=some x:=⟨l[i],aE h⟩
theorem ni {α:Type}{l:List α}{i n:Nat}{x:α}(h:l[i]?=some x) (hn:l.length≤n):(l.take i).length<n:=by
 have:=iZ h
 rw [bp]
 omega
theorem Ri {α:Type}:∀(l:List (Option α)),(l.filterMap id).length≤l.length
 |[]=>ai _
 |none::r=>by
  have:=Ri r
  show (r.filterMap id).length≤r.length+1
  omega
 |some a::r=>by
  have:=Ri r
  show (r.filterMap id).length+1≤r.length+1
  omega
theorem Bp {σ:L2.St}{H:Hp}{A B:Hp→Prop}(h:A H):mI σ H fun b H3=>if b=true then A H3 else B H3:=by
 show if true=true then A H else B H
 exact gR h
section
variable {K:ab}{a b D:Addr}{xs ys:List V}{σ:L2.St}{H1:Hp}
theorem acc_step {H H2 H4:Hp}{D:Addr}{l:List V}{y:V}{n:Nat}(hD:H1 D=Option.none) (h1:gi H1 H2) (hl:H2 D=some (.lst l)) (h4:gi H2 H4) (hz:l.length<sizeLine) (P:Hp→Prop) (hP:∀H5,gi H1 H5→H5 D=some (.lst (l++[y]))→P H5) :
  ∃acc,H4 D=some (.lst acc)∧acc.length<sizeLine∧P (upd H4 D (.lst (acc++[y]))):=
 ⟨l,h4 _ _ hl,hz,hP _ (iG (h1.trans h4) hD) fN⟩
theorem Vo {k:Nat}{te:TE}{ys:List V}(hS:gE K H1 a xs) (hn:xs.length≤sizeLine) (hl:ys.length=xs.length)
  (hs:∀(i:Nat) (x y:V) (H2:Hp) (Qy:VK),xs[i]?=some x→ys[i]?=some y→gi H1 H2→(∀H3,gi H2 H3→Qy y H3)→te ((wipe σ [k]).set k (some x)) H2 Qy)
  {Qd:Hp→Prop}(hD:H1 D=Option.none) (hd:∀H',gi H1 H'→H' D=some (.lst ys)→Qd H') :
  ∃W:Nat→Nat→Hp→Prop,(∃m,W 0 m (upd H1 D (.lst [])))∧∀i m H,W i m H→
   ((sQ K a).stop i H∧Qd H)∨((sQ K a).go i H∧∃Nx:Hp→Prop,(∀H',Nx H'→∃m',m'<m∧W (i+1) m' H')∧∀x H',(sQ K a).A0 i H x H'→gr k x (wipe σ [k]) H' fun σ2 H2=>wipe σ2 [k]=wipe σ [k]∧mI σ2 H2 fun b H3=>
    if b=true then te σ2 H3 fun y H4=>∃acc,H4 D=some (.lst acc)∧acc.length<sizeLine∧Nx (upd H4 D (.lst (acc++[y]))) else Nx H3):=by
 refine GW (xs:=xs) (λi H=>gi H1 H∧H D=some (.lst (ys.take i))) ⟨f9 hD,fN⟩ (λi H _ hp=>hp.1.seq hS) (λi x H hx hp=>?_) (λH hp=>?_)
 ·refine ⟨oH _ _ _,Bp ?_⟩
  obtain ⟨y,hy⟩:∃y,ys[i]?=some y:=gu (by rw [hl];exact iZ hx)
  refine hs i x y H _ hx hy hp.1 fun H3 h3=>acc_step (n:=i) (H:=H) hD hp.1 hp.2 h3 (ni hy (by rw [hl];exact hn)) (λH5=>gi H1 H5∧H5 D=some (.lst (ys.take (i+1)))) fun H5 a5 b5=>⟨a5,?_⟩
  rw [take_snoc hy]
  exact b5
 ·refine hd H hp.1 ?_
  have e:=hp.2
  rw [←hl,bg] at e
  exact e
theorem lcF {k:Nat}{tt:TT}{te:TE}{zs:List (Option V)}(hS:gE K H1 a xs) (hn:xs.length≤sizeLine) (hl:zs.length=xs.length)
  (hs:∀(i:Nat) (x:V) (z:Option V) (H2:Hp) (Qz:Option V→Hp→Prop),xs[i]?=some x→zs[i]?=some z→gi H1 H2→(∀H3,gi H2 H3→Qz z H3)→tt ((wipe σ [k]).set k (some x)) H2 fun b H3=>if b=true then te ((wipe σ [k]).set k (some x)) H3 fun y H4=>Qz (some y) H4 else Qz Option.none H3)
  {Qd:Hp→Prop}(hD:H1 D=Option.none) (hd:∀H',gi H1 H'→H' D=some (.lst (zs.filterMap id))→Qd H') :
  ∃W:Nat→Nat→Hp→Prop,(∃m,W 0 m (upd H1 D (.lst [])))∧∀i m H,W i m H→
   ((sQ K a).stop i H∧Qd H)∨((sQ K a).go i H∧∃Nx:Hp→Prop,(∀H',Nx H'→∃m',m'<m∧W (i+1) m' H')∧∀x H',(sQ K a).A0 i H x H'→gr k x (wipe σ [k]) H' fun σ2 H2=>wipe σ2 [k]=wipe σ [k]∧tt σ2 H2 fun b H3=>
    if b=true then te σ2 H3 fun y H4=>∃acc,H4 D=some (.lst acc)∧acc.length<sizeLine∧Nx (upd H4 D (.lst (acc++[y]))) else Nx H3):=by
 refine GW (xs:=xs) (λi H=>gi H1 H∧H D=some (.lst ((zs.take i).filterMap id))) ⟨f9 hD,fN⟩ (λi H _ hp=>hp.1.seq hS) (λi x H hx hp=>?_) (λH hp=>?_)
 ·refine ⟨oH _ _ _,?_⟩
  obtain ⟨z,hz⟩:∃z,zs[i]?=some z:=gu (by rw [hl];exact iZ hx)
  have hlen:((zs.take i).filterMap id).length<sizeLine:=Nat.lt_of_le_of_lt (Ri _) (ni hz (by rw [hl];exact hn))
  refine hs i x z H (λz' H4=>match z' with
   |some y=>∃acc,H4 D=some (.lst acc)∧acc.length<sizeLine∧(gi H1 (upd H4 D (.lst (acc++[y])))∧upd H4 D (.lst (acc++[y])) D=some (.lst ((zs.take (i+1)).filterMap id)))
   |none=>gi H1 H4∧H4 D=some (.lst ((zs.take (i+1)).filterMap id))) hx hz hp.1 fun H3 h3=>?_
  rw [take_snoc hz,eP]
  cases z with
  |none=>
   refine ⟨hp.1.trans h3,?_⟩
   show H3 D=some (.lst ((zs.take i).filterMap id++[]))
   rw [bW]
   exact h3 _ _ hp.2
  |some y=>
   refine ⟨_,h3 _ _ hp.2,hlen,iG (hp.1.trans h3) hD,?_⟩
   rw [fN]
   rfl
 ·refine hd H hp.1 ?_
  have e:=hp.2
  rw [←hl,bg] at e
  exact e
theorem lcP {k m:Nat}{te:TE}{ys:List V}(hS:gE K H1 a xs) (hn:xs.length≤sizeLine) (hl:ys.length=xs.length) (hw:∀u v,wipe (((wipe σ [k,m]).set k u).set m v) [k,m]=wipe σ [k,m])
  (hs:∀(i:Nat) (x y:V) (H2:Hp) (Qy:VK),xs[i]?=some x→ys[i]?=some y→gi H1 H2→(∀H3,gi H2 H3→Qy y H3)→∃t u v,x=.ref t∧mZ K H2 t [u,v]∧te (((wipe σ [k,m]).set k (some u)).set m (some v)) H2 Qy)
  {Qd:Hp→Prop}(hD:H1 D=Option.none) (hd:∀H',gi H1 H'→H' D=some (.lst ys)→Qd H') :
  ∃W:Nat→Nat→Hp→Prop,(∃m,W 0 m (upd H1 D (.lst [])))∧∀i n H,W i n H→
   ((sQ K a).stop i H∧Qd H)∨((sQ K a).go i H∧∃Nx:Hp→Prop,(∀H',Nx H'→∃m',m'<n∧W (i+1) m' H')∧∀x H',(sQ K a).A0 i H x H'→wR K 2 (jP (gr k) (jP (gr m) wQ)) x (wipe σ [k,m]) H' fun σ2 H2=>wipe σ2 [k,m]=wipe σ [k,m]∧mI σ2 H2 fun b H3=>
    if b=true then te σ2 H3 fun y H4=>∃acc,H4 D=some (.lst acc)∧acc.length<sizeLine∧Nx (upd H4 D (.lst (acc++[y]))) else Nx H3):=by
 refine GW (xs:=xs) (λi H=>gi H1 H∧H D=some (.lst (ys.take i))) ⟨f9 hD,fN⟩ (λi H _ hp=>hp.1.seq hS) (λi x H hx hp=>?_) (λH hp=>?_)
 ·obtain ⟨y,hy⟩:∃y,ys[i]?=some y:=gu (by rw [hl];exact iZ hx)
  obtain ⟨t,u,v,ex,ht,hq⟩:=hs i x y H (λy H4=>∃acc,H4 D=some (.lst acc)∧acc.length<sizeLine∧(gi H1 (upd H4 D (.lst (acc++[y])))∧upd H4 D (.lst (acc++[y])) D=some (.lst (ys.take (i+1))))) hx hy hp.1 fun H3 h3=>acc_step (n:=i) (H:=H) hD hp.1 hp.2 h3 (ni hy (by rw [hl];exact hn)) (λH5=>gi H1 H5∧H5 D=some (.lst (ys.take (i+1)))) fun H5 a5 b5=>⟨a5,by rw [take_snoc hy];exact b5⟩
  exact ⟨t,_,ex,ht,rfl,_,_,rfl,_,_,rfl,rfl,hw _ _,Bp hq⟩
 ·refine hd H hp.1 ?_
  have e:=hp.2
  rw [←hl,bg] at e
  exact e
theorem lcZ {k m:Nat}{te:TE}{us vs ys:List V}(h1:mZ K H1 a us) (h2:gE K H1 b vs) (hlu:us.length=ys.length) (hlv:vs.length=ys.length) (hn:ys.length≤sizeLine) (hw:∀u v,wipe (((wipe σ [k,m]).set k u).set m v) [k,m]=wipe σ [k,m])
  (ht:∀H,gi H1 H→mZ K H a us)
  (hs:∀(i:Nat) (u v y:V) (H2:Hp) (Qy:VK),us[i]?=some u→vs[i]?=some v→ys[i]?=some y→gi H1 H2→(∀H3,gi H2 H3→Qy y H3)→te (((wipe σ [k,m]).set k (some u)).set m (some v)) H2 Qy)
  {Qd:Hp→Prop}(hD:H1 D=Option.none) (hd:∀H',gi H1 H'→H' D=some (.lst ys)→Qd H') :
  ∃W:Nat→Nat→Hp→Prop,(∃m,W 0 m (upd H1 D (.lst [])))∧∀i n H,W i n H→
   ((QX K a b).stop i H∧Qd H)∨((QX K a b).go i H∧∃Nx:Hp→Prop,(∀H',Nx H'→∃m',m'<n∧W (i+1) m' H')∧∀x H',(QX K a b).A0 i H x H'→wR K 2 (jP (gr k) (jP (gr m) wQ)) x (wipe σ [k,m]) H' fun σ2 H2=>wipe σ2 [k,m]=wipe σ [k,m]∧mI σ2 H2 fun b H3=>
    if b=true then te σ2 H3 fun y H4=>∃acc,H4 D=some (.lst acc)∧acc.length<sizeLine∧Nx (upd H4 D (.lst (acc++[y]))) else Nx H3):=by
 refine QZ (n:=ys.length) (λi H=>gi H1 H∧H D=some (.lst (ys.take i))) ⟨f9 hD,fN⟩ (λi H hi hp=>?_) (λH hp=>⟨us,vs,ht H hp.1,hp.1.seq h2,.inl (by omega)⟩) (λi H x H' hi hp hy=>?_) (λH hp=>?_)
 ·obtain ⟨u,hu⟩:=gu (l:=us) (i:=i) (by omega)
  obtain ⟨v,hv⟩:=gu (l:=vs) (i:=i) (by omega)
  exact ⟨us,vs,u,v,ht H hp.1,hp.1.seq h2,hu,hv⟩
 ·obtain ⟨T,u,v,rfl,hT,rfl,hu,hv⟩:=hy
  have hu:=hu us (ht H hp.1)
  have hv:=hv vs (hp.1.seq h2)
  obtain ⟨y,hy⟩:=gu (l:=ys) (i:=i) hi
  have sT:gi H (upd H T (.tup [u,v])):=f9 hT
  refine ⟨T,_,rfl,mZ.of fN,rfl,_,_,rfl,_,_,rfl,rfl,hw _ _,Bp ?_⟩
  exact hs i u v y _ _ hu hv hy (hp.1.trans sT) fun H3 h3=>acc_step (n:=i) (H:=H) hD (hp.1.trans sT) (sT _ _ hp.2) h3 (ni hy hn) (λH5=>gi H1 H5∧H5 D=some (.lst (ys.take (i+1)))) fun H5 a5 b5=>⟨a5,by rw [take_snoc hy];exact b5⟩
 ·refine hd H hp.1 ?_
  have e:=hp.2
  rw [bg] at e
  exact e
theorem lcE {k m:Nat}{te:TE}{ys:List V}(h2:gE K H1 a xs) (hl:ys.length=xs.length) (hn:xs.length≤sizeLine) (hw:∀u v,wipe (((wipe σ [k,m]).set k u).set m v) [k,m]=wipe σ [k,m])
  (hs:∀(i:Nat) (x y:V) (H2:Hp) (Qy:VK),xs[i]?=some x→ys[i]?=some y→gi H1 H2→(∀H3,gi H2 H3→Qy y H3)→te (((wipe σ [k,m]).set k (some (.int (i:Nat)))).set m (some x)) H2 Qy)
  {Qd:Hp→Prop}(hD:H1 D=Option.none) (hd:∀H',gi H1 H'→H' D=some (.lst ys)→Qd H') :
  ∃W:Nat→Nat→Hp→Prop,(∃m,W 0 m (upd H1 D (.lst [])))∧∀i n H,W i n H→
   ((YN K a).stop i H∧Qd H)∨((YN K a).go i H∧∃Nx:Hp→Prop,(∀H',Nx H'→∃m',m'<n∧W (i+1) m' H')∧∀x H',(YN K a).A0 i H x H'→wR K 2 (jP (gr k) (jP (gr m) wQ)) x (wipe σ [k,m]) H' fun σ2 H2=>wipe σ2 [k,m]=wipe σ [k,m]∧mI σ2 H2 fun b H3=>
    if b=true then te σ2 H3 fun y H4=>∃acc,H4 D=some (.lst acc)∧acc.length<sizeLine∧Nx (upd H4 D (.lst (acc++[y]))) else Nx H3):=by
 refine QZ (n:=xs.length) (λi H=>gi H1 H∧H D=some (.lst (ys.take i))) ⟨f9 hD,fN⟩ (λi H hi hp=>?_) (λH hp=>⟨xs,hp.1.seq h2,ai _⟩) (λi H x H' hi hp hy=>?_) (λH hp=>?_)
 ·obtain ⟨x,hx⟩:=gu hi
  exact ⟨xs,x,hp.1.seq h2,hx⟩
 ·obtain ⟨T,x,rfl,hT,rfl,hx⟩:=hy
  have hx:=hx xs (hp.1.seq h2)
  obtain ⟨y,hy⟩:=gu (l:=ys) (i:=i) (by rw [hl];exact hi)
  have sT:gi H (upd H T (.tup [.int (i:Nat),x])):=f9 hT
  refine ⟨T,_,rfl,mZ.of fN,rfl,_,_,rfl,_,_,rfl,rfl,hw _ _,Bp ?_⟩
  exact hs i x y _ _ hx hy (hp.1.trans sT) fun H3 h3=>acc_step (n:=i) (H:=H) hD (hp.1.trans sT) (sT _ _ hp.2) h3 (ni hy (by rw [hl];exact hn)) (λH5=>gi H1 H5∧H5 D=some (.lst (ys.take (i+1)))) fun H5 a5 b5=>⟨a5,by rw [take_snoc hy];exact b5⟩
 ·refine hd H hp.1 ?_
  have e:=hp.2
  rw [←hl,bg] at e
  exact e
end
theorem gi.WB {K:ab}{H H':Hp}{a:Addr}{xs:List V}(e:L2.gi H H') (h:mZ K H a xs):mZ K H' a xs:=by
 rcases h with (h|⟨o,h⟩)|h
 ·exact .inl (.inl (e _ _ h))
 ·exact .inl (.inr ⟨o,e _ _ h⟩)
 ·exact .inr h
end My
end
section
namespace My
open PySem PySem.Spec PyProof.Rows L2
variable {P:Program}{w:World}{K:ab}{mg:Str→Option Value}{base:Heap}{d:Ad}{vs:List V}{H:Hp}{Q:VK}{E:XK}
abbrev vI (l:List Int):List V:=l.map V.int
abbrev ends (Q:VK):Ends:={ nx:=λ_ H'=>Q .mH H',rt:=Q }
def vK (d:Ad) (H:Hp) (v:V) (c:gL):Prop:=∃a dx,v=.ref a∧H a=some (.ins d.fQ dx (cf c))
theorem vK.same {d:Ad}{H H':Hp}{v:V}{c:gL}(h:vK d H v c) (e:gi H H'):vK d H' v c:=let ⟨a,dx,e1,e2⟩:=h;⟨a,dx,e1,e _ _ e2⟩
def Bq (d:Ad):Sp:=λvs H Q _=>∃x dx a b c f t v y,vs=[.ref x,vN a,vN b,vN c,vN f,vN t,vN v,vN y]∧H x=some (.ins d.fQ dx [])∧
 Q .mH (upd H x (.ins d.fQ dx (cf { carrier:=a,num:=b,day:=c,from_:=f,to_:=t,value:=v,tax:=y,status:=.open_,free:=false })))
def zQ (d:Ad):Sp:=λvs H Q _=>∃v c,vs=[v]∧vK d H v c∧Q (vN (dG c)) H
abbrev Gi (g:Nat×Nat×Nat):List V:=[vN g.1,vN g.2.1,vN g.2.2]
abbrev Rj (c:gL):Nat×Nat×Nat:=(c.carrier,c.num,c.day)
def yI (d:Ad):Sp:=λvs H Q _=>∃v c,vs=[v]∧vK d H v c∧∀p,H p=Option.none→Q (.ref p) (upd H p (.tup (Gi (Rj c))))
def il (d:Ad):Sp:=λvs H Q _=>∃v c,vs=[v]∧vK d H v c∧∀H',gi H H'→Q (.bl (fh c.status)) H'
def Br:Sp:=λvs H Q _=>∃z,vs=[.int z]∧Q (.int (z % 7)) H
def Kk:Sp:=λvs H Q _=>∃m:Nat,vs=[vN m]∧Q (.bl (bo m)) H
abbrev qb (P w K mg base) (d:Ad):=Cd P w K mg base 1 d.fQ "Coupon" ["self","carrier","num","day","origin","goal","value","tax"] (Bq d)
theorem Bs (T:Txt P w K mg d) (G:CG K mg d.fQ "Coupon" "Coupon.__init__" (inClass (top 39) 0)):qb P w K mg base d:=by
 have S:gf ["self","carrier","num","day","origin","goal","value","tax"] ["self","carrier","num","day","origin","goal","value","tax"] (fS (inClass (top 39) 0)):=lu
 refine G.cd S (λ_ _ _ _ _ _=>ar8 fun _ _ _ _ _ _ _ _=>rfl) fun _ _ _ _ _ H vs Q E hr h=>⟨_,(fL (iT T.fQ T.iD (pv 0) (pv 1)) (fL (iT T.fQ T.kN (pv 0) (pv 2)) (fL (iT T.fQ T.j6 (pv 0) (pv 3)) (fL (iT T.fQ T.jB (pv 0) (pv 4)) (fL (iT T.fQ T.ke (pv 0) (pv 5)) (fL (iT T.fQ T.js (pv 0) (pv 6)) (fL (iT T.fQ T.j7 (pv 0) (pv 7)) (fL (iT T.fQ T.gc (pv 0) (fR T.lX)) (fO (iT T.fQ T.jr (pv 0) mY)))))))))),?_⟩
 obtain ⟨x,dx,a,b,c,f,t,v,y,rfl,hx,q⟩:=h
 refine (U rfl (U rfl ⟨x,dx,_,rfl,hx,(by show 0<1000;decide),?_⟩))
 refine (U rfl (U rfl ⟨x,dx,_,rfl,fN,(by show 1<1000;decide),?_⟩))
 refine (U rfl (U rfl ⟨x,dx,_,rfl,fN,(by show 2<1000;decide),?_⟩))
 refine (U rfl (U rfl ⟨x,dx,_,rfl,fN,(by show 3<1000;decide),?_⟩))
 refine (U rfl (U rfl ⟨x,dx,_,rfl,fN,(by show 4<1000;decide),?_⟩))
 refine (U rfl (U rfl ⟨x,dx,_,rfl,fN,(by show 5<1000;decide),?_⟩))
 refine (U rfl (U rfl ⟨x,dx,_,rfl,fN,(by show 6<1000;decide),?_⟩))
 refine (U rfl ⟨x,dx,_,rfl,fN,(by show 7<1000;decide),?_⟩)
 refine (U rfl ⟨x,dx,_,rfl,fN,(by show 8<1000;decide),?_⟩)
 rw [ir,ir,ir,ir,ir,ir,ir,ir]
 exact q
abbrev tH (P w K mg base) (d:Ad):=Md P w K mg base 1 d.fQ "worth" ["self"] (zQ d)
theorem zR (T:Txt P w K mg d) (G:MG K d.fQ "worth" "Coupon.worth" (inClass (top 39) 1)):tH P w K mg base d:=by
 have S:gf ["self"] ["self"] (fS (inClass (top 39) 1)):=lu
 refine G.md S (λ_ _ _ _ _ _=>Dl fun _=>rfl) fun _ _ _ _ _ H vs Q E hr h=>⟨_,(fO (fW (g9 ip (gw T.fQ T.js (pv 0)) (gw T.fQ T.j7 (pv 0))))),?_⟩
 obtain ⟨v,c,rfl,⟨a,dx,rfl,ha⟩,q⟩:=h
 exact (U rfl ⟨a,dx,_,_,rfl,ha,xa c,U rfl ⟨a,dx,_,_,rfl,ha,Hb c,ad q⟩⟩)
abbrev jG (P w K mg base) (d:Ad):=Md P w K mg base 1 d.fQ "flight" ["self"] (yI d)
theorem yJ (T:Txt P w K mg d) (G:MG K d.fQ "flight" "Coupon.flight" (inClass (top 39) 2)):jG P w K mg base d:=by
 have S:gf ["self"] ["self"] (fS (inClass (top 39) 2)):=lu
 refine G.md S (λ_ _ _ _ _ _=>Dl fun _=>rfl) fun _ _ _ _ _ H vs Q E hr h=>⟨_,(fO (fW (i6 (fY (gw T.fQ T.iD (pv 0)) (fY (gw T.fQ T.kN (pv 0)) (fY (gw T.fQ T.j6 (pv 0)) fM)))))),?_⟩
 obtain ⟨v,c,rfl,⟨a,dx,rfl,ha⟩,q⟩:=h
 exact (U rfl ⟨a,dx,_,_,rfl,ha,oX c,U rfl ⟨a,dx,_,_,rfl,ha,Rf c,U rfl ⟨a,dx,_,_,rfl,ha,MC c,(by show 3≤sizeLine;decide),q⟩⟩⟩)
theorem Rk (x:aJ):LR (mJ x) [.int 4,.int 5,.int 6,.int 7,.int 8]=fh x:=by cases x<;>rfl
abbrev kg (P w K mg base) (d:Ad):=Md P w K mg base 1 d.fQ "has_ended" ["self"] (il d)
theorem ux (T:Txt P w K mg d) (G:MG K d.fQ "has_ended" "Coupon.has_ended" (inClass (top 39) 3)):kg P w K mg base d:=by
 have S:gf ["self"] ["self"] (fS (inClass (top 39) 3)):=lu
 refine G.md S (λ_ _ _ _ _ _=>Dl fun _=>rfl) fun _ _ _ _ _ H vs Q E hr h=>⟨_,(fO (fW (jO qD (gw T.fQ T.gc (pv 0)) (i6 (fY (fR T.oG) (fY (fR T.m9) (fY (fR T.o4) (fY (fR T.kO) (fY (fR T.oP) fM)))))) (by with_unfolding_all rfl)))),?_⟩
 obtain ⟨v,c,rfl,⟨a,dx,rfl,ha⟩,q⟩:=h
 refine (U rfl ⟨a,dx,_,_,rfl,ha,iy c,(by show 5≤sizeLine;decide),λp hp=>⟨p,_,rfl,.inr (mZ.of fN),rfl,rfl,?_⟩⟩)
 show Q (.bl (LR (mJ c.status) [.int 4,.int 5,.int 6,.int 7,.int 8])) _
 rw [Rk]
 exact q _ (f9 hp)
abbrev qc (P w K mg base) (d:Ad):=Fd P w K mg base 1 "check_digit" ["form"] Br
theorem Bt (T:Txt P w K mg d) (G:FG K mg "check_digit" (top 66)):qc P w K mg base d:=by
 have S:gf ["form"] ["form"] (fS (top 66)):=lu
 refine G.fd S (λ_ _ _ _ _ _=>Dl fun _=>rfl) fun _ _ _ _ _ H vs Q E hr h=>⟨_,(fO (fW (g9 L6 (pv 0) gb))),?_⟩
 obtain ⟨z,rfl,q⟩:=h
 exact (U rfl (ad ⟨(by show (0:Int)<7;decide),q⟩))
theorem Ph (m:Nat):decide (V.int ((m:Int) % 10)=V.int ((m:Int) / 10 % 7))=bo m:=by
 unfold bo
 rw [GO]
 have e1:((m:Int) % 10)=((m % 10:Nat):Int):=by omega
 have e2:((m:Int) / 10 % 7)=((m / 10 % 7:Nat):Int):=by omega
 rw [e1,e2]
 by_cases h:m % 10=m / 10 % 7
 ·rw [h]
  simp
 ·have h2:¬((m % 10:Nat):Int)=((m / 10 % 7:Nat):Int):=by omega
  rw [beq_false_of_ne h2,beq_false_of_ne h]
abbrev vL (P w K mg base) (d:Ad):=Fd P w K mg base 2 "is_right" ["number"] Kk
theorem Kl (T:Txt P w K mg d) (qd:qc P w K mg base d) (G:FG K mg "is_right" (top 67)):vL P w K mg base d:=by
 have S:gf ["number"] ["number"] (fS (top 67)):=lu
 refine G.fd S (λ_ _ _ _ _ _=>Dl fun _=>rfl) fun _ _ _ _ _ H vs Q E hr h=>⟨_,(fO (fW (jO iY (g9 L6 (pv 0) gb) (fU qd (hr.mono (by decide)) rfl (fY (g9 Ti (pv 0) gb) fM)) (gm _)))),?_⟩
 obtain ⟨m,rfl,q⟩:=h
 refine (U rfl (ad ⟨(by show (0:Int)<10;decide),_,rfl,_,_,rfl,rfl,⟨by decide,by decide⟩,_,rfl,rfl,?_⟩))
 rw [Ph]
 exact q
noncomputable def WC:List (Str×(Int×Int)):=[("amount",kb),("airport",G7),("carrier",mi),("credit",tj),("day",j4),("form",qH),("mode",F9),("num",nG),("number",gQ),("passenger",Pa),("place",je),("switch",uh),("verb",F8)]
def jC:Sp:=λvs H Q _=>∃nm b z,vs=[.str nm,.int z]∧(nm,b)∈WC∧Q (.bl (gT b z)) H
def rkN:List Str:=["new coupons","old coupons","credits","places"]
def kJ (K:ab):Sp:=λvs H Q _=>∃k nm r l,vs=[.str nm,.ref r]∧rkN[(k:Nat)]?=some nm∧gE K H r (vI l)∧l.length≤40∧∀H',gi H H'→Q (.bl (ie k l)) H'
def mz (N:Addr→Prop) (H:Hp):List V→List (List Int)→Prop:=Paired fun v r=>∃a,v=.ref a∧N a∧H a=some (.lst (vI r))
def zS (K:ab):Sp:=λvs H Q _=>∃(p:Nat) (a b:Addr) (plain:List Int) (ws:List V) (rows:List (List Int)),vs=[vN p,.ref a,.ref b]∧p<18∧N0[p]?=some plain.length∧N3[p]?=some rows.length∧H a=some (.lst (vI plain))∧H b=some (.lst ws)∧mz (λ_=>True) H ws rows∧(∀r∈rows,r.length≤40)∧
 ∀H',gi H H'→Q (.bl (iu p plain&&jA p rows)) H'
theorem getD_at {l:List Addr}{i:Nat}(h:i<l.length):l[i]?=some (l.getD i 0):=by
 rw [aU,aE h]
 rfl
theorem WD (T:Txt P w K mg d) {nm:Str}{b:Int×Int}(h:(nm,b)∈WC):∃a,oo (Ge d) (Sum.inr nm)=some (.ref a)∧vJ K a [.int b.1,.int b.2]:=by
 simp only [WC,aB,bX,or_false,Prod.mk.injEq] at h
 have l:=T.xk
 rcases h with ⟨rfl,rfl⟩|⟨rfl,rfl⟩|⟨rfl,rfl⟩|⟨rfl,rfl⟩|⟨rfl,rfl⟩|⟨rfl,rfl⟩|⟨rfl,rfl⟩|⟨rfl,rfl⟩|⟨rfl,rfl⟩|⟨rfl,rfl⟩|⟨rfl,rfl⟩|⟨rfl,rfl⟩|⟨rfl,rfl⟩
 ·exact ⟨d.rn.getD 0 0,rfl,T.jJ 0 _ _ (getD_at (by omega)) rfl⟩
 ·exact ⟨d.rn.getD 1 0,rfl,T.jJ 1 _ _ (getD_at (by omega)) rfl⟩
 ·exact ⟨d.rn.getD 2 0,rfl,T.jJ 2 _ _ (getD_at (by omega)) rfl⟩
 ·exact ⟨d.rn.getD 3 0,rfl,T.jJ 3 _ _ (getD_at (by omega)) rfl⟩
 ·exact ⟨d.rn.getD 4 0,rfl,T.jJ 4 _ _ (getD_at (by omega)) rfl⟩
 ·exact ⟨d.rn.getD 5 0,rfl,T.jJ 5 _ _ (getD_at (by omega)) rfl⟩
 ·exact ⟨d.rn.getD 6 0,rfl,T.jJ 6 _ _ (getD_at (by omega)) rfl⟩
 ·exact ⟨d.rn.getD 7 0,rfl,T.jJ 7 _ _ (getD_at (by omega)) rfl⟩
 ·exact ⟨d.rn.getD 8 0,rfl,T.jJ 8 _ _ (getD_at (by omega)) rfl⟩
 ·exact ⟨d.rn.getD 9 0,rfl,T.jJ 9 _ _ (getD_at (by omega)) rfl⟩
 ·exact ⟨d.rn.getD 10 0,rfl,T.jJ 10 _ _ (getD_at (by omega)) rfl⟩
 ·exact ⟨d.rn.getD 11 0,rfl,T.jJ 11 _ _ (getD_at (by omega)) rfl⟩
 ·exact ⟨d.rn.getD 12 0,rfl,T.jJ 12 _ _ (getD_at (by omega)) rfl⟩
abbrev qe (P w K mg base) (d:Ad):=Fd P w K mg base 1 "is_in_range" ["name","number"] jC
theorem Bu (T:Txt P w K mg d) (G:FG K mg "is_in_range" (top 27)):qe P w K mg base d:=by
 have S:gf ["name","number","bounds"] ["name","number"] (fS (top 27)):=lu
 refine G.fd S (λ_ _ _ _ _ _=>MI fun _ _=>rfl) fun _ _ _ _ _ H vs Q E hr h=>⟨_,(fL (gj (i:=2) S.nd rfl (by first|exact ak rfl|exact au rfl) (G0 T.Kh (qZ T.Kg) (pv 0) (λ_ _=>rfl))) (fO (fW (JI zt zt (gP pY (pv 2) gb (λ_ _=>rfl)) (pv 1) (gP pY (pv 2) gb (λ_ _=>rfl)))))),?_⟩
 obtain ⟨nm,b,z,rfl,hb,q⟩:=h
 obtain ⟨a,ha,ht⟩:=WD T hb
 refine (U rfl ⟨Sum.inr nm,_,rfl,rfl,ha,?_⟩)
 refine (U rfl ⟨a,_,0,_,rfl,rfl,ht.sq,rfl,U rfl (ad (ac (qG (λh1=>?_) (λh1=>?_))))⟩)
 ·refine (U rfl ⟨a,_,1,_,rfl,rfl,ht.sq,rfl,ad ?_⟩)
  have e:gT b z=decide (z≤b.2):=by
   unfold gT
   rw [h1,br]
  show Q (.bl (decide (z≤b.2))) H
  rw [←e]
  exact q
 ·have e:gT b z=false:=by
   unfold gT
   rw [bH.mpr h1]
   rfl
  show Q (.bl false) H
  rw [←e]
  exact q
def Ue (k:Nat):List Str:=([["carrier","num","day","airport","airport","amount","amount"],["number","place"],["credit"],["place"]]:List (List Str)).getD k []
theorem WE (T:Txt P w K mg d) {k:Nat}{nm:Str}(h:rkN[k]?=some nm):(∃a,oo (oZ d) (Sum.inr nm)=some (.ref a)∧vJ K a (vI (gY k)))∧(∃a,oo (qa d) (Sum.inr nm)=some (.ref a)∧vJ K a ((Ue k).map V.str))∧k<4:=by
 have l1:=T.mV
 have l2:=T.oF
 match k,h with
 |0,h=>
  cases h
  exact ⟨⟨d.rl.getD 0 0,rfl,T.lL 0 _ _ (getD_at (by omega)) rfl⟩,⟨d.rf.getD 0 0,rfl,T.mm 0 _ _ (getD_at (by omega)) rfl⟩,by decide⟩
 |1,h=>
  cases h
  exact ⟨⟨d.rl.getD 1 0,rfl,T.lL 1 _ _ (getD_at (by omega)) rfl⟩,⟨d.rf.getD 1 0,rfl,T.mm 1 _ _ (getD_at (by omega)) rfl⟩,by decide⟩
 |2,h=>
  cases h
  exact ⟨⟨d.rl.getD 2 0,rfl,T.lL 2 _ _ (getD_at (by omega)) rfl⟩,⟨d.rf.getD 2 0,rfl,T.mm 2 _ _ (getD_at (by omega)) rfl⟩,by decide⟩
 |3,h=>
  cases h
  exact ⟨⟨d.rl.getD 3 0,rfl,T.lL 3 _ _ (getD_at (by omega)) rfl⟩,⟨d.rf.getD 3 0,rfl,T.mm 3 _ _ (getD_at (by omega)) rfl⟩,by decide⟩
 |n+4,h=>cases h
theorem WG {k:Nat}(h:k<4):(Ue k).length=(lJ k).length∧0<(lJ k).length:=by
 match k,h with
 |0,_=>exact ⟨rfl,by decide⟩
 |1,_=>exact ⟨rfl,by decide⟩
 |2,_=>exact ⟨rfl,by decide⟩
 |3,_=>exact ⟨rfl,by decide⟩
theorem WH {k i:Nat}{nm:Str}{b:Int×Int}(h:k<4) (h1:(Ue k)[i]?=some nm) (h2:(lJ k)[i]?=some b):(nm,b)∈WC:=by
 have all:((Ue k).zip (lJ k)).all (λx=>decide (x∈WC))=true:=by
  match k,h with
  |0,_=>decide +kernel
  |1,_=>decide +kernel
  |2,_=>decide +kernel
  |3,_=>decide +kernel
 have m:(nm,b)∈(Ue k).zip (lJ k):=ax (i:=i) (by rw [cI];exact ⟨h1,h2⟩)
 exact of_decide_eq_true (aL.mp all _ m)
theorem Km (z:Int) (l:List Int):LR (.int z) (vI l)=l.contains z:=by
 unfold LR vI
 rw [fe,dW]
 congr 1
 funext y
 show (y==z)=(z==y)
 by_cases h:y=z
 ·rw [h]
 ·rw [beq_false_of_ne h,beq_false_of_ne fun q=>h q.symm]
theorem Pj (l:List Int):(vI l).all uX=true:=by
 rw [aL]
 intro v m
 obtain ⟨z,_,rfl⟩:=bB.mp m
 rfl
theorem jU {l:List Int}{i:Nat}{v:V}(h:(vI l)[i]?=some v):∃z,l[i]?=some z∧v=.int z:=by
 rw [ah] at h
 cases e:l[i]? with
 |none=>
  rw [e] at h
  cases h
 |some z=>
  rw [e] at h
  exact ⟨z,rfl,(Option.some.inj h).symm⟩
theorem ji {α:Type}{f:α→V}{l:List α}{i:Nat}{v:V}(h:(l.map f)[i]?=some v):∃z,l[i]?=some z∧v=f z:=by
 rw [ah] at h
 cases e:l[i]? with
 |none=>
  rw [e] at h
  cases h
 |some z=>
  rw [e] at h
  exact ⟨z,rfl,(Option.some.inj h).symm⟩
def MJ (B:List (Int×Int)) (l:List Int):List Bool:=l.mapIdx fun i z=>gT (B.getD (i % B.length) (0,0)) z
theorem Rl (B:List (Int×Int)) (l:List Int):(MJ B l).all id=kq B 0 l:=by
 unfold MJ kq
 rw [List.mapIdx_eq_zipIdx_map,eE]
 rfl
abbrev qL (P w K mg base) (d:Ad):=Fd P w K mg base 2 "is_row_as_told" ["name","row"] (kJ K)
def xu (K:ab) (d:Ad) (jC:Sp):TS:=(g6 (pC (kH (km (X0 K true) (vC (sY K) (fT (fV 1) gF)) (QV d.jq (oZ d) (tC (.ref d.jq)) (fV 0)))) (jZ (tC (.bl false))) lD) (g6 (jw (QV d.jI (qa d) (tC (.ref d.jI)) (fV 0)) (gr 2)) (jZ (vC (JP K) (fT (yt (Vi K (fT (fV 1) gF)) (wR K 2 (jP (gr 3) (jP (gr 4) wQ))) mI (iA jC [] E0 (fT (km (Ml K) (fV 2) (km YO (fV 3) (vC (sY K) (fT (fV 2) gF)))) (fT (fV 4) gF))) [3,4]) gF)))))
theorem xx (T:Txt P w K mg d) (qf:qe P w K mg base d) (G:FG K mg "is_row_as_told" (top 26)):qL P w K mg base d:=by
 have S:gf ["name","row","fields","k","number"] ["name","row"] (fS (top 26)):=lu
 refine G.fd S (λ_ _ _ _ _ _=>MI fun _ _=>rfl) fun _ _ _ _ _ H vs Q E hr h=>⟨xu K d jC,(fL (gJ (gg GQ (gp gz rfl T.jb aI (fY (pv 1) fM)) (G0 T.vh (qZ T.vg) (pv 0) (λ_ _=>rfl)) (by with_unfolding_all rfl)) (fO (fW mY)) gd) (fL (gj (i:=2) S.nd rfl (by first|exact ak rfl|exact au rfl) (G0 T.xo (qZ T.xl) (pv 0) (λ_ _=>rfl))) (fO (fW (gp (qX rfl) rfl T.sj boot_all (fY (ko rfl S.nd (NR (by rfl) T.nh (fY (pv 1) fM)) (gS (own:=[("k",3),("number",4)]) (by show kX ["name","row","fields","k","number"] (fS (top 26)) _ _=true;decide +kernel)) (λ_ _ _ _ _=>(mK rfl (hX (gk (i:=3) S.nd rfl (by first|exact ak rfl|exact au rfl)) (hX (gk (i:=4) S.nd rfl (by first|exact ak rfl|exact au rfl)) kW)))) (λ_ _ _ _ _=>iJ) (λ_ _ _ _ _=>(fU qf (hr.mono (by decide)) rfl (fY (gP pY (pv 2) (g9 L6 (pv 3) (gp gz rfl T.jb aI (fY (pv 2) fM))) (λ_ _=>rfl)) (fY (pv 4) fM))))) fM)))))),?_⟩
 obtain ⟨k,nm,r,l,rfl,hk,hr,hn,q⟩:=h
 obtain ⟨⟨a1,e1,t1⟩,⟨a2,e2,t2⟩,k4⟩:=WE T hk
 obtain ⟨kl,kp⟩:=WG k4
 have hnl:(vI l).length=l.length:=aa ..
 refine (U rfl ⟨r,_,rfl,.inl hr,_,rfl,Sum.inr nm,_,rfl,rfl,e1,a1,_,rfl,.inr t1.sq,rfl,Pj _,_,rfl,qG (λh1=>?_) (λh1=>?_)⟩)
 ·show Q (.bl false) H
  have e:ie k l=false:=by
   unfold ie
   have h1:(!LR (.int ((vI l).length:Nat)) (vI (gY k)))=true:=h1
   rw [Km,hnl] at h1
   have h2:(gY k).contains (l.length:Int)=false:=by simpa using h1
   rw [h2]
   rfl
  rw [←e]
  exact q H (gi.refl H)
 ·have ec:(gY k).contains (l.length:Int)=true:=by
   have h1:¬(!LR (.int ((vI l).length:Nat)) (vI (gY k)))=true:=h1
   rw [Km,hnl] at h1
   simpa using h1
  refine (U rfl ⟨Sum.inr nm,_,rfl,rfl,e2,?_⟩)
  refine (U rfl ⟨r,_,rfl,hr,λD hD=>lcE (ys:=(MJ (lJ k) l).map V.bl) hr (by unfold MJ;simp) (by rw [hnl];exact bh hn (by decide)) (λu v=>rfl) (λi x y H2 Qy hx hy h2 kk=>?_) hD fun H' s' Hh=>?_⟩)
  ·obtain ⟨z,hz,rfl⟩:=jU hx
   obtain ⟨b,hb,rfl⟩:=ji hy
   have hi:i % (lJ k).length<(lJ k).length:=eS _ kp
   obtain ⟨n2,Yx⟩:=gu (l:=Ue k) (i:=i % (lJ k).length) (by omega)
   obtain ⟨b2,Y5⟩:=gu hi
   have el:((Ue k).map V.str).length=(lJ k).length:=by rw [aa,kl]
   refine (U rfl (U rfl (U rfl ⟨a2,_,rfl,.inr t2.sq,_,_,rfl,rfl,?_,a2,_,((i % (lJ k).length:Nat):Int),.str n2,rfl,?_,t2.sq,?_,_,rfl,n2,b2,z,rfl,WH k4 Yx Y5,?_⟩)))
   ·show (0:Int)<(((Ue k).map V.str).length:Nat)
    rw [el]
    omega
   ·show V.int ((i:Int) % (((Ue k).map V.str).length:Nat))=_
    rw [el,Int.natCast_emod]
   ·refine kI ?_
    rw [ah,Yx]
    rfl
   ·have eb:gT b2 z=b:=by
     unfold MJ at hb
     rw [bD,hz] at hb
     have hb:=Option.some.inj hb
     rw [←hb,aU,Y5]
     rfl
    rw [eb]
    exact kk H2 (gi.refl H2)
  ·refine ⟨D,MJ (lJ k) l,rfl,gE.of Hh,?_⟩
   have e:ie k l=(MJ (lJ k) l).all id:=by
    unfold ie
    rw [ec,br,Rl]
   show Q (.bl _) H'
   rw [←e]
   exact q H' s'
noncomputable def Jy:List (List Str):=[["day"],["form","form"],["passenger","day"],["number"],["verb","carrier","number","place"],["carrier","num","day"],["carrier","num","day"],["number","place","num","day"],["number","place","switch"],["amount","mode","day"],
 ["number","amount"],["credit"],["number"],[],["carrier"],["carrier","num","day"],["number"],[]]
theorem Y6:Bo=Jy.map fun l=>l.map V.str:=rfl
theorem Rm (T:Txt P w K mg d) {p:Nat}(h:p<18):∃a,d.pl[p]?=some a∧vJ K a ((Jy.getD p []).map V.str):=by
 obtain ⟨a,ha⟩:=gu (l:=d.pl) (i:=p) (by rw [T.AI];exact h)
 refine ⟨a,ha,T.Od p a _ ha ?_⟩
 rw [Y6,ah,aU,aE (show p<Jy.length from h)]
 rfl
theorem Rn {p:Nat}(h:p<18):(Jy.getD p []).length=N0.getD p 0∧(Vl.getD p []).length=N0.getD p 0:=by
 have all:(aQ 18).all (λp=>decide ((Jy.getD p []).length=N0.getD p 0∧(Vl.getD p []).length=N0.getD p 0))=true:=by decide +kernel
 exact of_decide_eq_true (aL.mp all p (aM.mpr h))
theorem WI {p i:Nat}{nm:Str}{b:Int×Int}(h:p<18) (h1:(Jy.getD p [])[i]?=some nm) (h2:(Vl.getD p [])[i]?=some b):(nm,b)∈WC:=by
 have all:(aQ 18).all (λp=>((Jy.getD p []).zip (Vl.getD p [])).all (λx=>decide (x∈WC)))=true:=by decide +kernel
 have m:(nm,b)∈(Jy.getD p []).zip (Vl.getD p []):=ax (i:=i) (by rw [cI];exact ⟨h1,h2⟩)
 exact of_decide_eq_true (aL.mp (aL.mp all p (aM.mpr h)) _ m)
def Vp (p:Nat):List Str:=if p=2 then ["new coupons","credits"] else if p=9 then ["old coupons","new coupons"] else if p=10 then ["places"] else []
theorem Ro (T:Txt P w K mg d) {H:Hp}{z:Addr}(hz:H z=some (.tup [])) {p:Nat}(h:p<18):∃a,(oo (xb d) (Sum.inl (p:Int))).getD (.ref z)=.ref a∧mZ K H a ((Vp p).map V.str):=by
 have l:=T.Hf
 by_cases h2:p=2
 ·subst h2
  exact ⟨d.rw.getD 0 0,rfl,(T.Hg 0 _ _ (getD_at (by omega)) rfl).sq⟩
 ·by_cases h9:p=9
  ·subst h9
   exact ⟨d.rw.getD 1 0,rfl,(T.Hg 1 _ _ (getD_at (by omega)) rfl).sq⟩
  ·by_cases Wm:p=10
   ·subst Wm
    exact ⟨d.rw.getD 2 0,rfl,(T.Hg 2 _ _ (getD_at (by omega)) rfl).sq⟩
   ·refine ⟨z,?_,?_⟩
    ·have n2:¬(Sum.inl (2:Int):Key)=Sum.inl (p:Int):=λq=>h2 (by have:=Sum.inl.inj q;omega)
     have n9:¬(Sum.inl (9:Int):Key)=Sum.inl (p:Int):=λq=>h9 (by have:=Sum.inl.inj q;omega)
     have n10:¬(Sum.inl (10:Int):Key)=Sum.inl (p:Int):=λq=>Wm (by have:=Sum.inl.inj q;omega)
     unfold xb
     rw [oW n2,oW n9,oW n10]
     rfl
    ·unfold Vp
     rw [if_neg h2,if_neg h9,if_neg Wm]
     exact mZ.of hz
theorem Rp {p:Nat}(h:p<18):(Vp p).length=N3.getD p 0∧(Vm.getD p []).length=N3.getD p 0:=by
 have all:(aQ 18).all (λp=>decide ((Vp p).length=N3.getD p 0∧(Vm.getD p []).length=N3.getD p 0))=true:=by decide +kernel
 exact of_decide_eq_true (aL.mp all p (aM.mpr h))
theorem WJ {p i k:Nat}{nm:Str}(h:p<18) (h1:(Vp p)[i]?=some nm) (h2:(Vm.getD p [])[i]?=some k):rkN[k]?=some nm:=by
 have all:(aQ 18).all (λp=>((Vp p).zip (Vm.getD p [])).all (λx=>decide (rkN[x.2]?=some x.1)))=true:=by decide +kernel
 have m:(nm,k)∈(Vp p).zip (Vm.getD p []):=ax (i:=i) (by rw [cI];exact ⟨h1,h2⟩)
 exact of_decide_eq_true (aL.mp (aL.mp all p (aM.mpr h)) _ m)
theorem rA {α:Type}{l:List α}{i:Nat}{x y:α}(h:l[i]?=some x):l.getD i y=x:=by
 rw [aU,h]
 rfl
theorem Gj {α β:Type}{F:α→β→Prop}{l1:List α}{l2:List β}(h:Paired F l1 l2) {i:Nat}{b:β}(hb:l2[i]?=some b):∃a,l1[i]?=some a∧F a b:=by
 induction h generalizing i with
 |nil=>cases hb
 |cons f _ ih=>
  cases i with
  |zero=>
   cases hb
   exact ⟨_,rfl,f⟩
  |succ i=>exact ih hb
theorem gK {α β:Type}{F:α→β→Prop}{l1:List α}{l2:List β}(h:Paired F l1 l2) {i:Nat}{a:α}(ha:l1[i]?=some a):∃b,l2[i]?=some b∧F a b:=by
 induction h generalizing i with
 |nil=>cases ha
 |cons f _ ih=>
  cases i with
  |zero=>
   cases ha
   exact ⟨_,rfl,f⟩
  |succ i=>exact ih ha
theorem jf {α β:Type}{F G:α→β→Prop}(k:∀a b,F a b→G a b) {l1:List α}{l2:List β}(h:Paired F l1 l2):Paired G l1 l2:=by
 induction h with
 |nil=>exact .nil
 |cons f _ ih=>exact .cons (k _ _ f) ih
theorem Y7 (f:α→β→Bool):∀(l1:List α) (l2:List β),((l1.zip l2).map fun x=>f x.1 x.2).all id=(l1.zip l2).all fun x=>f x.1 x.2:=λl1 l2=>by
 rw [eE]
 rfl
theorem Rq {α β:Type}{f:α→β→Bool}{l1:List α}{l2:List β}{i:Nat}{a:α}{b:β}{c:Bool}(h1:l1[i]?=some a) (h2:l2[i]?=some b) (h:((l1.zip l2).map fun x=>f x.1 x.2)[i]?=some c):f a b=c:=by
 rw [ah,(cI (z:=(a,b))).mpr ⟨h1,h2⟩] at h
 exact Option.some.inj h
abbrev tI (P w K mg base) (d:Ad):=Fd P w K mg base 3 "is_in_ranges" ["place","plain","rows"] (zS K)
def zT (K:ab) (d:Ad) (jC kJ:Sp):TS:=(g6 (pC (OI (tB (vC (JP K) (fT (yt (Mu K (fT (km (Ml K) (tC (.ref d.p9)) (fV 0)) (fT (fV 1) gF))) (wR K 2 (jP (gr 3) (jP (gr 4) wQ))) mI (iA jC [] E0 (fT (fV 3) (fT (fV 4) gF))) [3,4]) gF)))) (jZ (tC (.bl false))) lD) (jZ (vC (JP K) (fT (yt (Mu K (fT (Ms d.tq (xb d) (tC (.ref d.tq)) (fV 0) (A5 gF)) (fT (fV 2) gF))) (wR K 2 (jP (gr 3) (jP (gr 5) wQ))) mI (iA kJ [] E0 (fT (fV 3) (fT (fV 5) gF))) [3,5]) gF))))
theorem zU (T:Txt P w K mg d) (qf:qe P w K mg base d) (yK:qL P w K mg base d) (G:FG K mg "is_in_ranges" (top 25)):tI P w K mg base d:=by
 have S:gf ["place","plain","rows","name","number","row"] ["place","plain","rows"] (fS (top 25)):=lu
 refine G.fd S (λ_ _ _ _ _ _=>Pg fun _ _ _=>rfl) fun _ _ _ _ _ H vs Q E hr h=>⟨zT K d jC (kJ K),(fL (gJ (oT (jn (gp (qX rfl) rfl T.sj boot_all (fY (ko rfl S.nd (J3 (by rfl) T.Kj (fY (gP pY (qZ T.Hd) (pv 0) (λ_ _=>rfl)) (fY (pv 1) fM))) (gS (own:=[("name",3),("number",4)]) (by show kX ["place","plain","rows","name","number","row"] (fS (top 25)) _ _=true;decide +kernel)) (λ_ _ _ _ _=>(mK rfl (hX (gk (i:=3) S.nd rfl (by first|exact ak rfl|exact au rfl)) (hX (gk (i:=4) S.nd rfl (by first|exact ak rfl|exact au rfl)) kW)))) (λ_ _ _ _ _=>iJ) (λ_ _ _ _ _=>(fU qf (hr.mono (by decide)) rfl (fY (pv 3) (fY (pv 4) fM))))) fM)))) (fO (fW mY)) gd) (fO (fW (gp (qX rfl) rfl T.sj boot_all (fY (ko rfl S.nd (J3 (by rfl) T.Kj (fY (J2 T.MH (qZ T.MF) (pv 0) (i6 fM)) (fY (pv 2) fM))) (gS (own:=[("name",3),("row",5)]) (by show kX ["place","plain","rows","name","number","row"] (fS (top 25)) _ _=true;decide +kernel)) (λ_ _ _ _ _=>(mK rfl (hX (gk (i:=3) S.nd rfl (by first|exact ak rfl|exact au rfl)) (hX (gk (i:=5) S.nd rfl (by first|exact ak rfl|exact au rfl)) kW)))) (λ_ _ _ _ _=>iJ) (λ_ _ _ _ _=>(fU yK (hr.mono (by decide)) rfl (fY (pv 3) (fY (pv 5) fM))))) fM))))),?_⟩
 obtain ⟨p,a,b,plain,ws,rows,rfl,hp,h1,h2,ha,hb,hr,hm,q⟩:=h
 obtain ⟨ap,e1,t1⟩:=Rm T hp
 obtain ⟨l1,l2⟩:=Rn hp
 obtain ⟨l3,l4⟩:=Rp hp
 rw [rA h1] at l1 l2
 rw [rA h2] at l3 l4
 have lw:ws.length=rows.length:=Paired.length hr
 have sl4:4≤sizeLine:=by decide
 have hs4:plain.length≤4:=by
  have all:(aQ 18).all (λp=>decide (N0.getD p 0≤4))=true:=by decide +kernel
  have:=of_decide_eq_true (aL.mp all p (aM.mpr hp))
  rw [rA h1] at this
  exact this
 have S6:rows.length≤4:=by
  have all:(aQ 18).all (λp=>decide (N3.getD p 0≤4))=true:=by decide +kernel
  have:=of_decide_eq_true (aL.mp all p (aM.mpr hp))
  rw [rA h2] at this
  exact this
 refine ⟨_,rfl,d.p9,_,(p:Int),.ref ap,rfl,rfl,T.He.sq,kI (by rw [ah,e1];rfl),_,rfl,ap,a,_,_,rfl,t1.sq,gE.of ha,λD hD=>
  lcZ (ys:=((((Vl.getD p []).zip plain)).map fun x=>gT x.1 x.2).map V.bl) t1.sq (gE.of ha) (by simp only [aa,df];omega) (by simp only [aa,df];omega) (by simp only [aa,df];omega) (λu v=>rfl) (λH' _=>t1.sq) (λi u v y H2 Qy hu hv hy h2' kk=>?_) hD fun H' s' Hh=>?_⟩
 ·obtain ⟨nm,hnm,rfl⟩:=ji hu
  obtain ⟨z,hz,rfl⟩:=jU hv
  obtain ⟨c,hc,rfl⟩:=ji hy
  obtain ⟨bb,hbb⟩:=gu (l:=Vl.getD p []) (i:=i) (by have:=iZ hz;omega)
  have e:gT bb z=c:=Rq (f:=λx y=>gT x y) hbb hz hc
  refine (U rfl (U rfl ⟨nm,bb,z,rfl,WI hp hnm hbb,?_⟩))
  rw [e]
  exact kk H2 (gi.refl H2)
 ·refine ⟨D,_,rfl,gE.of Hh,_,rfl,?_⟩
  rw [Y7]
  refine qG (λhq=>?_) (λhq=>?_)
  ·have e:iu p plain=false:=by
    have hq:(!(iu p plain))=true:=hq
    simpa using hq
   have q2:=q H' s'
   rw [e] at q2
   exact q2
  ·have e:iu p plain=true:=by
    have hq:¬(!(iu p plain))=true:=hq
    simpa using hq
   refine ⟨rfl,_,rfl,by show 0≤sizeLine;decide,λz hz=>⟨Sum.inl (p:Int),rfl,?_⟩⟩
   obtain ⟨ar,er,tr⟩:=Ro T (H:=upd H' z (.tup [])) (z:=z) fN hp
   have sz:gi H' (upd H' z (.tup [])):=f9 hz
   have Y5:upd H' z (.tup []) b=some (.lst ws):=sz _ _ (s' _ _ hb)
   rw [er]
   refine ⟨_,rfl,ar,b,_,_,rfl,tr,gE.of Y5,λD2 LU=>
    lcZ (ys:=((((Vm.getD p []).zip rows)).map fun x=>ie x.1 x.2).map V.bl) tr (gE.of Y5) (by simp only [aa,df];omega) (by simp only [aa,df];omega) (by simp only [aa,df];omega) (λu v=>rfl) (λH3 h3=>gi.WB h3 tr) (λi u v y H2 Qy hu hv hy h2' kk=>?_) LU fun H3 s3 Y8=>?_⟩
   ·obtain ⟨nm,hnm,rfl⟩:=ji hu
    obtain ⟨c,hc,rfl⟩:=ji hy
    obtain ⟨row,Hi,⟨ra,rfl,_,hra⟩⟩:=gK hr hv
    obtain ⟨kd,hkd⟩:=gu (l:=Vm.getD p []) (i:=i) (by have:=iZ Hi;omega)
    have e2:ie kd row=c:=Rq (f:=λx y=>ie x y) hkd Hi hc
    refine (U rfl (U rfl ⟨kd,nm,ra,row,rfl,WJ hp hnm hkd,gE.of (h2' _ _ (sz _ _ (s' _ _ hra))),hm row (ax Hi),λH5 s5=>?_⟩))
    rw [e2]
    exact kk H5 s5
   ·refine ⟨D2,_,rfl,gE.of Y8,?_⟩
    rw [Y7]
    have q2:=q H3 ((s'.trans sz).trans s3)
    rw [e,br] at q2
    exact q2
def oJ (K:ab):Sp:=λvs H Q _=>∃(a:Addr) (l:List Int) (at_ k:Nat) (xs:List (List Int)) (t:List Int),vs=[.ref a,vN at_,vN k]∧gE K H a (vI l)∧cO k (l.drop at_)=some (xs,t)∧k≤2∧
 ∀H' p ws,gi H H'→H p=Option.none→H' p=some (.lst ws)→mz (λb=>H b=Option.none) H' ws xs→Q (.ref p) H'
theorem mz.same {N:Addr→Prop}{H H':Hp}(e:gi H H') {vs:List V}{rs:List (List Int)}(h:mz N H vs rs):mz N H' vs rs:=jf (λv r ⟨a,e1,e2,e3⟩=>⟨a,e1,e2,e _ _ e3⟩) h
theorem ub {n dflt i:Nat}(h:i≤n):HT.Jx n dflt (some (i:Int))=i:=by
 rw [HT.ub]
 exact eX h
theorem Og {xs:List V}{i j:Nat}(hi:i≤xs.length) (hj:j≤xs.length):qC xs (some (i:Int)) (some (j:Int))=(xs.drop i).take (j - i):=by
 unfold qC
 rw [ub hi,ub hj]
theorem drop_cons {l r:List Int}{i:Nat}{z:Int}(h:l.drop i=z::r):l[i]?=some z∧l.drop (i+1)=r∧i<l.length:=by
 have hl:i<l.length:=by
  rcases aX i l.length with q|q
  ·exact q
  ·rw [List.drop_eq_nil_of_le q] at h
   cases h
 rw [bw hl] at h
 injection h with h1 h2
 exact ⟨by rw [aE hl,h1],h2,hl⟩
abbrev zC (P w K mg base) (d:Ad):=Fd P w K mg base 1 "read_rows" ["numbers","at","many"] (oJ K)
theorem Hj (T:Txt P w K mg d) (G:FG K mg "read_rows" (top 24)):zC P w K mg base d:=by
 have S:gf ["numbers","at","many","rows","behind"] ["numbers","at","many"] (fS (top 24)):=lu
 refine G.fd S (λ_ _ _ _ _ _=>Pg fun _ _ _=>rfl) fun _ _ _ _ _ H vs Q E hr h=>⟨_,(fL (gj (i:=3) S.nd rfl (by first|exact ak rfl|exact au rfl) (gG fM)) (fL (JG PassesOwn.never (gg FJ (gp gz rfl T.jb aI (fY (pv 3) fM)) (pv 2) (gm _)) (fL (gj (i:=4) S.nd rfl (by first|exact ak rfl|exact au rfl) (g9 ip (g9 ip (pv 1) gb) (gP gv (pv 0) (pv 1) (λ_ _=>rfl)))) (fL (jo (oU aP bL bM l6 (pv 3) (fY (wV Az (pv 0) (uc (g9 ip (pv 1) gb)) (uc (pv 4))) fM))) (fO (gj (i:=1) S.nd rfl (by first|exact ak rfl|exact au rfl) (pv 4)))))) (fO (fW (pv 3))))),?_⟩
 obtain ⟨a,l,at0,k,xs,t,rfl,hS,hr,hk,q⟩:=h
 have s2:2<sizeLine:=by decide
 refine ⟨aK _,λp hp=>?_⟩
 have sp:gi H (upd H p (.lst [])):=f9 hp
 refine ⟨λm σ H'=>∃(kL:Nat) (uy ys:List (List Int)) (ws:List V) (v4:Option V),σ=[some (.ref a),some (vN kL),some (vN k),some (.ref p),v4]∧xs=uy++ys∧cO (k - uy.length) (l.drop kL)=some (ys,t)∧uy.length≤k∧m=k - uy.length∧
  gi H H'∧H' p=some (.lst ws)∧mz (λb=>H b=Option.none∧b≠p) H' ws uy,⟨k,at0,[],xs,[],none,rfl,rfl,hr,aK _,rfl,sp,fN,.nil⟩,?_⟩
 rintro m σ H' ⟨kL,uy,ys,ws,v4,rfl,ex,hy,hd,rfl,sH,OY,hW⟩
 have lw:ws.length=uy.length:=Paired.length hW
 refine (U rfl ⟨p,ws,rfl,.inl (gE.of OY),_,rfl,_,_,rfl,rfl,_,rfl,qG (λhc=>?_) (λhc=>?_)⟩)
 ·have yr:uy.length<k:=by
   have:=of_decide_eq_true hc
   omega
  obtain ⟨n,r',ys',e1,hn,rfl,hy'⟩:=F6 (k:=k - uy.length - 1) (by rw [show k - uy.length - 1+1=k - uy.length by omega];exact hy)
  obtain ⟨g1,g2,g3⟩:=drop_cons e1
  have lr:r'.length=l.length - (kL+1):=by rw [←g2,cW]
  have hV:(vI l).length=l.length:=aa ..
  refine ⟨fun σ' Rr=>∃(kL:Nat) (xy ys:List (List Int)) (ws:List V) (v4:Option V),σ'=[some (.ref a),some (vN kL),some (vN k),some (.ref p),v4]∧xs=xy++ys∧cO (k - xy.length) (l.drop kL)=some (ys,t)∧xy.length≤k∧xy.length=uy.length+1∧
   gi H Rr∧Rr p=some (.lst ws)∧mz (λb=>H b=Option.none∧b≠p) Rr ws xy,?_,?_⟩
  ·rintro σ' Rr ⟨at2,xy,ys2,ws2,v2,b1,b2,b3,b4,b5,b6,b7,b8⟩
   exact ⟨k - xy.length,by omega,at2,xy,ys2,ws2,v2,b1,b2,b3,b4,rfl,b6,b7,b8⟩
  ·refine (U rfl ⟨_,_,rfl,rfl,_,rfl,_,rfl,a,_,(kL:Int),.int (n:Int),rfl,rfl,sH.seq hS,kI (by rw [ah,g1];rfl),_,_,rfl,rfl,?_⟩)
   refine (U rfl ⟨.inl ⟨rfl,_,gE.of OY⟩,_,rfl,_,rfl,_,_,rfl,rfl,_,rfl,_,rfl,_,rfl,a,_,rfl,sH.seq hS,λg hg=>?_⟩)
   have ng:p≠g:=f6 OY hg
   have e2:qC (vI l) (some ((kL:Int)+1)) (some ((kL:Int)+1+(n:Int)))=vI (r'.take n):=by
    have c:=Og (xs:=vI l) (i:=kL+1) (j:=kL+1+n) (by omega) (by omega)
    have z1:((kL+1:Nat):Int)=(kL:Int)+1:=by omega
    have z2:((kL+1+n:Nat):Int)=(kL:Int)+1+(n:Int):=by omega
    rw [z1,z2] at c
    rw [c,show kL+1+n - (kL+1)=n by omega]
    show (l.map V.int |>.drop (kL+1)).take n=(r'.take n).map V.int
    rw [←List.map_drop,g2,List.map_take]
   refine ⟨p,ws,_,rfl,rfl,by rw [fZ ng];exact OY,by omega,?_⟩
   have sg:gi H' (upd H' g (.lst (qC (vI l) (some ((kL:Int)+1)) (some ((kL:Int)+1+(n:Int)))))):=f9 hg
   have hg0:H g=Option.none:=sH.free hg
   refine (U rfl ⟨kL+1+n,uy++[r'.take n],ys',ws++[.ref g],some (.int ((kL:Int)+1+(n:Int))),?_,by rw [ex,cz];rfl,?_,?_,?_,?_,fN,?_⟩)
   ·have z2:vN (kL+1+n)=.int ((kL:Int)+1+(n:Int)):=by
     unfold vN
     congr 1
    rw [z2]
    rfl
   ·rw [ay,ba,show k - (uy.length+1)=k - uy.length - 1 by omega,←eI,g2]
    exact hy'
   ·rw [ay,ba]
    omega
   ·rw [ay,ba]
   ·exact iG (sH.trans sg) hp
   ·refine Paired.snoc (jf (λv r ⟨b,f1,f2,f3⟩=>⟨b,f1,f2,?_⟩) hW) ⟨g,rfl,⟨hg0,ng.symm⟩,?_⟩
    ·rw [fZ ng.symm,fN,e2]
    ·have nb:b≠p:=f2.2
     rw [fZ nb]
     exact sg _ _ f3
 ·have Y9:uy.length=k:=by
   have hc:¬((ws.length:Nat):Int)<(k:Int):=λz=>hc (decide_eq_true z)
   omega
  rw [Y9,dD] at hy
  obtain ⟨rfl,_⟩:=F5 hy
  rw [bW] at ex
  subst ex
  exact (U rfl (q H' p ws sH hp OY (jf (λv r ⟨b,f1,f2,f3⟩=>⟨b,f1,f2.1,f3⟩) hW)))
structure Za (N:Addr→Prop) (H:Hp) (t a b:Addr) (j:Nat) (plain:List Int) (ws:List V) (rows:List (List Int)):Prop where
 nt:N t
 na:N a
 nb:N b
 ht:H t=some (.tup [vN j,.ref a,.ref b])
 ha:H a=some (.lst (vI plain))
 hb:H b=some (.lst ws)
 hw:mz N H ws rows
 hj:j<18
 hp:N0[j]?=some plain.length
 hr:N3[j]?=some rows.length
def vM (N:Addr→Prop) (H:Hp) (v:V) (c:List (List Int)):Prop:=∃(t a b:Addr) (j:Nat) (plain:List Int) (ws:List V) (rows:List (List Int)),v=.ref t∧c=((j:Int)::plain)::rows∧Za N H t a b j plain ws rows
theorem vM.imp {N N':Addr→Prop}{H H':Hp}(k:∀b o,H b=some o→N b→H' b=some o∧N' b) {v:V}{c:List (List Int)}(h:vM N H v c):vM N' H' v c:=by
 obtain ⟨t,a,b,j,plain,ws,rows,e1,e2,W⟩:=h
 exact ⟨t,a,b,j,plain,ws,rows,e1,e2,(k _ _ W.ht W.nt).2,(k _ _ W.ha W.na).2,(k _ _ W.hb W.nb).2,(k _ _ W.ht W.nt).1,(k _ _ W.ha W.na).1,(k _ _ W.hb W.nb).1,
  jf (λv r ⟨x,q1,q2,q3⟩=>⟨x,q1,(k _ _ q3 q2).2,(k _ _ q3 q2).1⟩) W.hw,W.hj,W.hp,W.hr⟩
def Dx (K:ab):Sp:=λvs H Q _=>∃(a:Addr) (l:List Int) (cs:List (List (List Int))),vs=[.ref a]∧gE K H a (vI l)∧l.length≤24000∧cq bz l.length l=some cs∧
 ∀H' p ws,gi H H'→H p=Option.none→H' p=some (.lst ws)→Paired (vM (λb=>H b=Option.none∧b≠p) H') ws cs→Q (.ref p) H'
theorem sum_rows (xs:List (List Int)):(xs.map fun r=>(1:Int)+(r.length:Nat)).sum=(kY xs:Nat):=by
 unfold kY
 induction xs with
 |nil=>rfl
 |cons x r ih=>
  rw [aG,cM,aG,cM,ih]
  omega
abbrev xA (P w K mg base) (d:Ad):=Fd P w K mg base 2 "read_calls" ["numbers"] (Dx K)
def Dy (K:ab) (d:Ad) (oJ:Sp):TS:=(g6 (jw (pD gF) (gr 1)) (g6 (jw (tC (.int 0)) (gr 2)) (g6 (Qq (kH (km TH (fV 2) (vC (sY K) (fT (fV 0) gF)))) (g6 (jw (km (Mj K) (fV 0) (fV 2)) (gr 3)) (g6 (jw (km ml (km ml (fV 2) (tC (.int 1))) (vC (sY K) (fT (km (Ml K) (tC (.ref d.p9)) (fV 3)) gF))) (gr 4)) (g6 (jw (tSl (YC K) (fV 0) (QB (km ml (fV 2) (tC (.int 1)))) (QB (fV 4))) (gr 5)) (g6 (jw (iA oJ [] E0 (fT (fV 0) (fT (fV 4) (fT (vC (sY K) (fT (Ms d.tq (xb d) (tC (.ref d.tq)) (fV 3) (A5 gF)) gF)) gF)))) (gr 6)) (g6 (AZ (tBM K "list" GR (fV 1) (fT (A5 (fT (fV 3) (fT (fV 5) (fT (fV 6) gF)))) gF))) (jw (km ml (fV 4) (vC (OQ K) (fT (yt (jy K (fV 6)) (gr 7) mI (km ml (tC (.int 1)) (vC (sY K) (fT (fV 7) gF))) [7]) gF))) (gr 2)))))))) (jZ (fV 1)))))
theorem Dz (T:Txt P w K mg d) (Kn:zC P w K mg base d) (G:FG K mg "read_calls" (top 23)):xA P w K mg base d:=by
 have S:gf ["numbers","found","at","place","rows_at","plain","rows","row"] ["numbers"] (fS (top 23)):=lu
 refine G.fd S (λ_ _ _ _ _ _=>Dl fun _=>rfl) fun _ _ _ _ _ H vs Q E hr h=>⟨Dy K d (oJ K),(fL (gj (i:=1) S.nd rfl (by first|exact ak rfl|exact au rfl) (gG fM)) (fL (gj (i:=2) S.nd rfl (by first|exact ak rfl|exact au rfl) gb) (fL (JG PassesOwn.never (gg FJ (pv 2) (gp gz rfl T.jb aI (fY (pv 0) fM)) (gm _)) (fL (gj (i:=3) S.nd rfl (by first|exact ak rfl|exact au rfl) (gP gv (pv 0) (pv 2) (λ_ _=>rfl))) (fL (gj (i:=4) S.nd rfl (by first|exact ak rfl|exact au rfl) (g9 ip (g9 ip (pv 2) gb) (gp gz rfl T.jb aI (fY (gP pY (qZ T.Hd) (pv 3) (λ_ _=>rfl)) fM)))) (fL (gj (i:=5) S.nd rfl (by first|exact ak rfl|exact au rfl) (wV Az (pv 0) (uc (g9 ip (pv 2) gb)) (uc (pv 4)))) (fL (gj (i:=6) S.nd rfl (by first|exact ak rfl|exact au rfl) (fU Kn (hr.mono (by decide)) rfl (fY (pv 0) (fY (pv 4) (fY (gp gz rfl T.jb aI (fY (J2 T.MH (qZ T.MF) (pv 3) (i6 fM)) fM)) fM))))) (fL (jo (oU aP bL bM l6 (pv 1) (fY (i6 (fY (pv 3) (fY (pv 5) (fY (pv 6) fM)))) fM))) (fO (gj (i:=2) S.nd rfl (by first|exact ak rfl|exact au rfl) (g9 ip (pv 4) (gp (pZ rfl) rfl T.qK boot_sum (fY (ko rfl S.nd (gC (pv 6)) (gS (own:=[("row",7)]) (by show kX ["numbers","found","at","place","rows_at","plain","rows","row"] (fS (top 23)) _ _=true;decide +kernel)) (λ_ _ _ _ _=>(gk (i:=7) S.nd rfl (by first|exact ak rfl|exact au rfl))) (λ_ _ _ _ _=>iJ) (λ_ _ _ _ _=>(g9 ip gb (gp gz rfl T.jb aI (fY (pv 7) fM))))) fM))))))))))) (fO (fW (pv 1)))))),?_⟩
 obtain ⟨a,l,cs,rfl,hS,hl,hr,q⟩:=h
 have s2:24000<sizeLine:=by decide
 have hV:(vI l).length=l.length:=aa ..
 refine ⟨aK _,λp hp=>?_⟩
 have sp:gi H (upd H p (.lst [])):=f9 hp
 refine ⟨λm σ H'=>∃(kL f:Nat) (uy ys:List (List (List Int))) (ws:List V) (v3 v4 v5 v6 v7:Option V),σ=[some (.ref a),some (.ref p),some (vN kL),v3,v4,v5,v6,v7]∧cs=uy++ys∧cq bz f (l.drop kL)=some ys∧uy.length≤kL∧kL≤l.length∧m=l.length - kL∧
  gi H H'∧H' p=some (.lst ws)∧Paired (vM (λb=>H b=Option.none∧b≠p) H') ws uy,⟨l.length,0,l.length,[],cs,[],none,none,none,none,none,rfl,rfl,hr,ai _,aK _,rfl,sp,fN,.nil⟩,?_⟩
 rintro m σ H' ⟨kL,f,uy,ys,ws,v3,v4,v5,v6,v7,rfl,ex,hy,hd,ha1,rfl,sH,OY,hW⟩
 have lw:ws.length=uy.length:=Paired.length hW
 refine (U rfl (U rfl ⟨a,_,rfl,.inl (sH.seq hS),_,_,rfl,rfl,_,rfl,qG (λhc=>?_) (λhc=>?_)⟩))
 ·have yr:kL<l.length:=by
   have:=of_decide_eq_true hc
   rw [hV] at this
   omega
  obtain ⟨z,r,e0⟩:∃z r,l.drop kL=z::r:=⟨l[kL],l.drop (kL+1),bw yr⟩
  obtain ⟨g1,g2,_⟩:=drop_cons e0
  rw [e0] at hy
  obtain ⟨f',c,t,ys',Rt,hc2,rfl⟩:=MA hy
  obtain ⟨n,k,xs,hsh,hn,Hi,rfl⟩:=O8 Rt
  obtain ⟨j,rfl,hj,hjn,hjk⟩:=MB hsh
  obtain ⟨ht,hxl,hxb⟩:=F7 Hi
  have lr:r.length=l.length - (kL+1):=by rw [←g2,cW]
  obtain ⟨ap,e1,t1⟩:=Rm T hj
  have pln:((Jy.getD j []).map V.str).length=n:=by
   rw [aa,(Rn hj).1,rA hjn]
  have rwn:((Vp j).map V.str).length=k:=by
   rw [aa,(Rp hj).1,rA hjk]
  have hk2:k≤2:=by
   have all:(aQ 18).all (λp=>decide (N3.getD p 0≤2))=true:=by decide +kernel
   have:=of_decide_eq_true (aL.mp all j (aM.mpr hj))
   rw [rA hjk] at this
   exact this
  refine ⟨fun σ' Rr=>∃(at2 f:Nat) (xy ys:List (List (List Int))) (ws:List V) (v3 v4 v5 v6 v7:Option V),σ'=[some (.ref a),some (.ref p),some (vN at2),v3,v4,v5,v6,v7]∧cs=xy++ys∧cq bz f (l.drop at2)=some ys∧xy.length≤at2∧at2≤l.length∧kL<at2∧
   gi H Rr∧Rr p=some (.lst ws)∧Paired (vM (λb=>H b=Option.none∧b≠p) Rr) ws xy,?_,?_⟩
  ·rintro σ' Rr ⟨at2,f2,xy,ys2,ws2,u3,u4,u5,u6,u7,b1,b2,b3,b4,b5,b6,b7,b8,b9⟩
   exact ⟨l.length - at2,by omega,at2,f2,xy,ys2,ws2,u3,u4,u5,u6,u7,b1,b2,b3,b4,b5,rfl,b7,b8,b9⟩
  ·
   refine (U rfl (U rfl ⟨a,_,(kL:Int),.int (j:Int),rfl,rfl,sH.seq hS,kI (by rw [ah,g1];rfl),?_⟩))
   refine (U rfl ⟨_,_,rfl,rfl,_,rfl,d.p9,_,(j:Int),.ref ap,rfl,rfl,T.He.sq,kI (by rw [ah,e1];rfl),ap,_,rfl,.inr t1.sq,_,_,rfl,rfl,?_⟩)
   have ea:(V.int ((kL:Int)+1+((((Jy.getD j []).map V.str).length:Nat):Int)))=vN (kL+1+n):=by
    rw [pln]
    unfold vN
    congr 1
   refine (U rfl (U rfl ⟨_,_,rfl,rfl,_,rfl,_,rfl,_,rfl,a,_,rfl,sH.seq hS,λg hg=>?_⟩))
   have e2:qC (vI l) (some ((kL:Int)+1)) (some ((kL:Int)+1+((((Jy.getD j []).map V.str).length:Nat):Int)))=vI (r.take n):=by
    have c:=Og (xs:=vI l) (i:=kL+1) (j:=kL+1+n) (by omega) (by omega)
    have z1:((kL+1:Nat):Int)=(kL:Int)+1:=by omega
    have z2:((kL+1+n:Nat):Int)=(kL:Int)+1+((((Jy.getD j []).map V.str).length:Nat):Int):=by
     rw [pln]
     omega
    rw [z1,z2] at c
    rw [c,show kL+1+n - (kL+1)=n by omega]
    show (l.map V.int |>.drop (kL+1)).take n=(r.take n).map V.int
    rw [←List.map_drop,g2,List.map_take]
   have sg:=f9 (o:=HO.lst (qC (vI l) (some ((kL:Int)+1)) (some ((kL:Int)+1+((((Jy.getD j []).map V.str).length:Nat):Int))))) hg
   have ng:g≠p:=(f6 OY hg).symm
   refine (U rfl (U rfl ⟨rfl,_,rfl,by show 0≤sizeLine;decide,λz hz=>⟨Sum.inl (j:Int),rfl,?_⟩⟩))
   have sz:=f9 (o:=HO.tup []) hz
   obtain ⟨ar,er,tr⟩:=Ro T (z:=z) (p:=j) fN hj
   rw [er]
   refine ⟨ar,_,rfl,.inr tr,?_⟩
   have sH2:=(sH.trans sg).trans sz
   have Vq:=sz _ _ (fN (H:=H') (a:=g) (o:=HO.lst (qC (vI l) (some ((kL:Int)+1)) (some ((kL:Int)+1+((((Jy.getD j []).map V.str).length:Nat):Int))))))
   refine ⟨a,l,kL+1+n,k,xs,t,?_,sH2.seq hS,?_,hk2,λH3 pr wr s3 WK yL hwr=>?_⟩
   ·show [V.ref a,V.int _,V.int _]=_
    rw [ea,rwn]
    rfl
   ·rw [show kL+1+n=(kL+1)+n from rfl,←eI,g2]
    exact Hi
   have Zb:pr≠p:=λe=>by
    subst e
    rw [sz _ _ (sg _ _ OY)] at WK
    cases WK
   have Vr:=s3 _ _ (sz _ _ (sg _ _ OY))
   refine (U rfl ⟨.inl ⟨rfl,_,gE.of Vr⟩,_,rfl,_,rfl,_,rfl,by show 3≤sizeLine;decide,λtt htt=>⟨p,ws,_,rfl,rfl,?_,by omega,?_⟩⟩)
   ·rw [fZ (f6 Vr htt)]
    exact Vr
   have Zc:=f9 (o:=HO.tup [vN j,.ref g,.ref pr]) htt
   have ntt:tt≠p:=(f6 Vr htt).symm
   have hf:∀{b:Addr},upd (upd H' g (HO.lst (qC (vI l) (some ((kL:Int)+1)) (some ((kL:Int)+1+((((Jy.getD j []).map V.str).length:Nat):Int)))))) z (HO.tup []) b=Option.none→H b=Option.none:=λh=>sH2.free h
   have WL:upd (upd H3 tt (HO.tup [vN j,.ref g,.ref pr])) p (HO.lst (ws++[.ref tt])) pr=some (.lst wr):=by
    rw [fZ Zb]
    exact Zc _ _ yL
   have Zd:mz (λb=>H b=Option.none∧b≠p) (upd (upd H3 tt (HO.tup [vN j,.ref g,.ref pr])) p (HO.lst (ws++[.ref tt]))) wr xs:=jf (λv r ⟨b,q1,q2,q3⟩=>by
    dsimp only at q2
    have nb:b≠p:=λe=>by
     subst e
     rw [sz _ _ (sg _ _ OY)] at q2
     cases q2
    refine ⟨b,q1,⟨hf q2,nb⟩,?_⟩
    rw [fZ nb]
    exact Zc _ _ q3) hwr
   have lwr:wr.length=xs.length:=Paired.length hwr
   refine (U rfl (U rfl ⟨pr,rfl,⟨_,gE.of WL⟩,λD hD=>Vo (ys:=vI (xs.map fun r=>(1:Int)+(r.length:Nat))) (gE.of WL) (by rw [lwr,hxl];omega) (by rw [aa,aa,lwr]) (λi x y H5 Qy hx hy' h5 kk=>?_) hD fun H5 s5 hD5=>?_⟩))
   ·obtain ⟨row,hrw,b,rfl,_,q3⟩:=gK Zd hx
    obtain ⟨zz,hzz,rfl⟩:=jU hy'
    rw [ah,hrw] at hzz
    have hzz:(1:Int)+(row.length:Nat)=zz:=Option.some.inj hzz
    refine (U rfl ⟨b,_,rfl,.inl (gE.of (h5 _ _ q3)),_,_,rfl,rfl,?_⟩)
    show Qy (.int (1+(((vI row).length:Nat):Int))) H5
    rw [aa,hzz]
    exact kk H5 (gi.refl H5)
   ·refine ⟨D,_,rfl,gE.of hD5,_,_,rfl,rfl,?_⟩
    have s4:gi H (upd (upd H3 tt (HO.tup [vN j,.ref g,.ref pr])) p (HO.lst (ws++[.ref tt]))):=iG ((sH2.trans s3).trans Zc) hp
    have up:∀b o,H' b=some o→b≠p→H5 b=some o:=λb o e nb=>s5 _ _ (by
     rw [fZ nb]
     exact Zc _ _ (s3 _ _ (sz _ _ (sg _ _ e))))
    refine ⟨kL+1+n+kY xs,f',uy++[((j:Int)::r.take n)::xs],ys',ws++[.ref tt],some (vN j),some (vN (kL+1+n)),some (.ref g),some (.ref pr),v7,?_,by rw [ex,cz];rfl,?_,?_,?_,?_,s4.trans s5,?_,?_⟩
    ·have z3:V.int (((kL:Int)+1+((((Jy.getD j []).map V.str).length:Nat):Int))+(xs.map fun r=>(1:Int)+(r.length:Nat)).sum)=vN (kL+1+n+kY xs):=by
      rw [sum_rows,pln]
      unfold vN
      congr 1
     show [some (V.ref a),some (V.ref p),some (V.int (((kL:Int)+1+((((Jy.getD j []).map V.str).length:Nat):Int))+(xs.map fun r=>(1:Int)+(r.length:Nat)).sum)),some (vN j),some (V.int ((kL:Int)+1+((((Jy.getD j []).map V.str).length:Nat):Int))),some (V.ref g),some (V.ref pr),v7]=_
     rw [z3,ea]
    ·rw [show kL+1+n+kY xs=(kL+1+n)+kY xs from rfl,←eI,show kL+1+n=(kL+1)+n from rfl,←eI,g2,←ht]
     exact hc2
    ·rw [ay,ba]
     omega
    ·rw [cW] at hxb
     omega
    ·omega
    ·exact s5 _ _ fN
    ·refine Paired.snoc (jf (λv c Ug=>vM.imp (λb o e nb=>⟨up b o e nb.2,nb⟩) Ug) hW) ⟨tt,g,pr,j,r.take n,wr,xs,rfl,rfl,?_⟩
     refine ⟨⟨hf (s3.free htt),ntt⟩,⟨sH.free hg,ng⟩,⟨hf WK,Zb⟩,s5 _ _ (by rw [fZ ntt];exact fN),?_,s5 _ _ WL,mz.same s5 Zd,hj,?_,?_⟩
     ·refine s5 _ _ ?_
      rw [fZ ng]
      have:=Zc _ _ (s3 _ _ Vq)
      rw [e2] at this
      exact this
     ·rw [bp,eX hn]
      exact hjn
     ·rw [hxl]
      exact hjk
 ·have Y9:kL=l.length:=by
   have hc:¬(kL:Int)<(((vI l).length:Nat):Int):=λz=>hc (decide_eq_true z)
   rw [hV] at hc
   omega
  rw [Y9,dy] at hy
  have:=O9 hy
  subst this
  rw [bW] at ex
  subst ex
  exact (U rfl (q H' p ws sH hp OY hW))
theorem Oh {m f:Nat}(h:bo m=true):ao f=m↔f=m / 10:=by
 unfold bo at h
 have h:m % 10=m / 10 % 7:=by simpa using h
 unfold ao
 constructor
 ·intro e
  omega
 ·intro e
  subst e
  omega
theorem Oi {m:Nat}(h:bo m=true):∀(ts:List iF) (g:Nat→V),oo (ts.mapIdx fun i t=>((Sum.inl (ao t.form:Int):Key),g i)) (Sum.inl (m:Int))=(ts.findIdx? fun t=>t.form==m / 10).map g
 |[],g=>rfl
 |t::r,g=>by
  rw [fC,List.findIdx?_cons]
  by_cases e:t.form=m / 10
  ·have e2:(Sum.inl (ao t.form:Int):Key)=Sum.inl (m:Int):=by rw [(Oh h).mpr e]
   rw [wY e2,if_pos (by simpa using e)]
   rfl
  ·have e2:¬(Sum.inl (ao t.form:Int):Key)=Sum.inl (m:Int):=λq=>e ((Oh h).mp (by have:=Sum.inl.inj q;omega))
   rw [oW e2,if_neg (by simpa using e),Oi h r fun i=>g (i+1),cn]
   rfl
theorem Ko {α:Type}(p:α→Bool):∀l:List α,l.find? p=(l.findIdx? p).bind fun i=>l[i]?
 |[]=>rfl
 |a::r=>by
  rw [de,List.findIdx?_cons]
  cases p a with
  |true=>rfl
  |false=>
   dsimp only
   rw [Ko p r]
   cases r.findIdx? p<;>rfl
def nH (s:gA) (m:Nat):Option Nat:=s.tickets.findIdx? fun t=>t.form==m / 10
theorem Hk {L:Ly}{s:gA}{m:Nat}(h:bo m=true):oo (tu L s) (Sum.inl (m:Int))=(nH s m).map fun i=>.ref (L.a (.tc i)):=Oi h s.tickets fun i=>.ref (L.a (.tc i))
theorem mB {s:gA}{m:Nat}(h:bo m=true):bt s m=match (nH s m).bind fun i=>s.tickets[i]? with
  |none=>.error (-4)
  |some t=>.ok t:=by
 unfold bt
 rw [if_neg (by rw [h];decide),Ko]
 rfl
theorem Oj {s:gA}{m i:Nat}(h:nH s m=some i):∃t,s.tickets[i]?=some t:=by
 unfold nH at h
 have:=(List.findIdx?_eq_some_iff_findIdx_eq.mp h).1
 exact ⟨s.tickets[i],aE this⟩
theorem nj {s:gA}{m:Nat}{t:iF}(h:bt s m=.ok t):∃i,nH s m=some i∧s.tickets[i]?=some t∧bo m=true:=by
 have hr:=(kZ h).2.2
 rw [mB hr] at h
 cases e:nH s m with
 |none=>
  rw [e] at h
  cases h
 |some i=>
  obtain ⟨u,hu⟩:=Oj e
  rw [e] at h
  change (match s.tickets[i]? with | none=>Except.error (-4) | some t=>Except.ok t)=_ at h
  rw [hu] at h
  have e2:u=t:=Except.ok.inj h
  subst e2
  exact ⟨i,rfl,hu,hr⟩
def qM (s:gA) (m:Nat):Int:=match bt s m with
 |.error z=>z
 |.ok _=>0
def pP (s:gA) (m n:Nat):Int:=match aF s m n with
 |.error z=>z
 |.ok _=>0
theorem jV (s:gA) (m:Nat):bt s m=.error (-3)∧bo m=false∨bt s m=.error (-4)∧bo m=true∧nH s m=none∨∃t,bt s m=.ok t:=by
 cases hr:bo m with
 |false=>
  refine .inl ⟨?_,rfl⟩
  unfold bt
  rw [if_pos hr]
 |true=>
  cases e:nH s m with
  |none=>
   refine .inr (.inl ⟨?_,rfl,rfl⟩)
   rw [mB hr,e]
   rfl
  |some i=>
   obtain ⟨u,hu⟩:=Oj e
   refine .inr (.inr ⟨u,?_⟩)
   rw [mB hr,e]
   change (match s.tickets[i]? with | none=>Except.error (-4) | some t=>Except.ok t)=_
   rw [hu]
theorem DA {α:Type}(l:List α) (n:Nat) (f:α→α):(l.mapIdx fun k c=>if k=n then f c else c)=l.modify n f:=by
 apply bR
 intro j
 rw [bD,bT]
 cases l[j]? with
 |none=>rfl
 |some c=>
  show some _=some _
  by_cases h:j=n
  ·simp [h]
  ·have h':¬n=j:=λq=>h q.symm
   simp [h,h']
theorem MK {α:Type}{l:List α}{i:Nat}{t:α}(h:l[i]?=some t) (g:α→α):l.set i (g t)=l.modify i g:=by
 apply bR
 intro j
 rw [dJ,bT]
 by_cases e:i=j
 ·subst e
  rw [if_pos rfl,if_pos (iZ h),h]
  simp
 ·rw [if_neg e]
  cases l[j]? with
  |none=>rfl
  |some c=>simp [e]
theorem tJ {s:gA}(I:gN s) {m n i:Nat}{x:iF×gL}(h:s.tickets[i]?=some x.1) (f:gL→gL):cU s (cQ x.1 n f)=jF s i n f:=by
 rw [Kb (u:=cQ x.1 n f) I h rfl]
 unfold jF
 congr 1
 rw [←MK h]
 congr 1
 unfold cQ
 rw [DA]
theorem iI {s:gA}{m n:Nat}{x:iF×gL}(h:aF s m n=.ok x):∃i,nH s m=some i∧s.tickets[i]?=some x.1∧x.1.coupons[n]?=some x.2∧bo m=true:=by
 obtain ⟨_,h2,h3⟩:=k6 h
 obtain ⟨i,e1,e2,e3⟩:=nj h3
 exact ⟨i,e1,e2,h2,e3⟩
theorem rB (x y:aJ):decide (mJ x=mJ y)=decide (x=y):=by cases x<;>cases y<;>rfl
theorem kh (a b:Nat):decide (vN a=vN b)=decide (a=b):=by
 unfold vN
 by_cases h:a=b
 ·subst h
  simp
 ·have h2:¬V.int (a:Int)=V.int (b:Int):=λq=>h (by injection q with q;omega)
  rw [decide_eq_false h,decide_eq_false h2]
def DB (d:Ad) (H:Hp) (L:Ly) (s:gA) (c:eA) (Q:VK):Prop:=∀H' L' p,L'.a .hs=L.a .hs→Rep d H' L' (aq s c).1→gy d H L s H' L' (aq s c).1→(∀b o,H b=some o→Out d L s b→b≠p)→H' p=some (.lst (vI (aq s c).2))→Q (.ref p) H'
section
variable {d:Ad}{H H1 H2:Hp}{L L2:Ly}{s s2:gA}{c:eA}{Q:VK}
theorem DB.done (A:DB d H L s c Q) {l:List Int}(e:aq s c=(s2,l)) (R2:Rep d H2 L2 s2) (k:gy d H L s H2 L2 s2) {p:Addr}(hp:H2 p=Option.none) (hL:L2.a .hs=L.a .hs:=by rfl):Q (.ref p) (upd H2 p (.lst (vI l))):=by
 have sp:=f9 (o:=HO.lst (vI l)) hp
 refine A _ L2 p hL ?_ ?_ (λb o hb ho=>f6 (k b o hb ho).1 hp) ?_
 ·rw [e]
  exact R2.same sp
 ·rw [e]
  exact k.trans (gy.same sp)
 ·rw [e,fN]
theorem DB.ref (A:DB d H L s c Q) {z:Int}(e:aq s c=(s,[z])) (R:Rep d H L s) (h1:gi H H1) {p:Addr}(hp:H1 p=Option.none):Q (.ref p) (upd H1 p (.lst [.int z])):=A.done e (R.same h1) (gy.same h1) hp
end
def kK (d:Ad):Sp:=λvs H Q _=>∃L s m,vs=[.ref (L.a .hs),vN m]∧Rep d H L s∧Q (.int (qM s m)) H
def xB (d:Ad):Sp:=λvs H Q _=>∃L s m n,vs=[.ref (L.a .hs),vN m,vN n]∧Rep d H L s∧Q (.int (pP s m n)) H
def yM (d:Ad):Sp:=λvs H Q _=>∃L s v c last,vs=[.ref (L.a .hs),v,vN last]∧Rep d H L s∧vK d H v c∧∀H',gi H H'→Q (.bl (dg s last c)) H'
def Hl:Sp:=λvs H Q _=>∃(v:Nat) (a:aJ×aJ),vs=[vN v]∧dZ v=some a∧∀H' p,gi H H'→H p=Option.none→H' p=some (.tup [mJ a.1,mJ a.2])→Q (.ref p) H'
def Hm (d:Ad) (H:Hp):List V→List gL→Prop:=Paired (vK d H)
def Ru (v:Nat) (es ls:List gL):Bool:=if v=3 then es.all fun c=>fH c.status else if v=4 then ls.all fun c=>c.status != .checked else if v=5 then es.all fun c=>fh c.status else true
def Bv (d:Ad):Sp:=λvs H Q _=>∃(v:Nat) (e l:Addr) (ev lv:List V) (es ls:List gL),vs=[vN v,.ref e,.ref l]∧H e=some (.lst ev)∧H l=some (.lst lv)∧Hm d H ev es∧Hm d H lv ls∧es.length≤4∧ls.length≤4∧∀H',gi H H'→Q (.bl (Ru v es ls)) H'
theorem Hm.same {d:Ad}{H H':Hp}(e:gi H H') {vs:List V}{cs:List gL}(h:Hm d H vs cs):Hm d H' vs cs:=jf (λv c k=>k.same e) h
abbrev lx (P w K mg base) (d:Ad):=Fd P w K mg base 3 "ticket_refusal" ["house","number"] (kK d)
theorem xC (T:Txt P w K mg d) (vO:vL P w K mg base d) (G:FG K mg "ticket_refusal" (top 68)):lx P w K mg base d:=by
 have S:gf ["house","number"] ["house","number"] (fS (top 68)):=lu
 refine G.fd S (λ_ _ _ _ _ _=>MI fun _ _=>rfl) fun _ _ _ _ _ H vs Q E hr h=>⟨_,(fL (gJ (oT (jn (fU vO (hr.mono (by decide)) rfl (fY (pv 1) fM)))) (fO (fW (fR T.mq))) gd) (fL (gJ (L3 (FV (oi hr) (pv 1) (gw T.fP T.gM (pv 0))) (by with_unfolding_all rfl)) (fO (fW (fR T.pL))) gd) (fO (fW (fR T.gx))))),?_⟩
 obtain ⟨L,s,m,rfl,R,q⟩:=h
 unfold qM at q
 refine (U rfl ⟨m,rfl,_,rfl,qG (λh=>?_) (λh=>?_)⟩)
 ·rcases jV s m with ⟨e,_⟩|⟨_,e,_⟩|⟨t,e⟩
  ·rw [e] at q
   exact q
  ·rw [e] at h
   cases h
  ·rw [(kZ e).2.2] at h
   cases h
 ·have hr:bo m=true:=by simpa using h
  refine (U rfl (U rfl ⟨_,_,_,_,rfl,R.hs,iC L s,_,_,rfl,sD.k (k:=Sum.inl (m:Int)) R.tf,_,rfl,?_⟩))
  rw [Hk hr]
  rcases jV s m with ⟨_,e⟩|⟨e,_,e2⟩|⟨t,e⟩
  ·rw [e] at hr
   cases hr
  ·rw [e2]
   rw [e] at q
   exact gR q
  ·obtain ⟨i,e1,_,_⟩:=nj e
   rw [e1]
   rw [e] at q
   exact f7 q
abbrev jW (P w K mg base) (d:Ad):=Fd P w K mg base 4 "coupon_refusal" ["house","number","n"] (xB d)
theorem xD (T:Txt P w K mg d) (jX:lx P w K mg base d) (G:FG K mg "coupon_refusal" (top 69)):jW P w K mg base d:=by
 have S:gf ["house","number","n","refused"] ["house","number","n"] (fS (top 69)):=lu
 refine G.fd S (λ_ _ _ _ _ _=>Pg fun _ _ _=>rfl) fun _ _ _ _ _ H vs Q E hr h=>⟨_,(fL (gj (i:=3) S.nd rfl (by first|exact ak rfl|exact au rfl) (fU jX (hr.mono (by decide)) rfl (fY (pv 0) (fY (pv 1) fM)))) (fL (gJ (gg kn (pv 3) (fR T.gx) (gm _)) (fO (fW (pv 3))) gd) (fL (gJ (gg FK (pv 2) (gp gz rfl T.jb aI (fY (gw T.fX T.gD (oq (oi hr) (gw T.fP T.gM (pv 0)) (pv 1) (λ_ _=>rfl))) fM)) (gm _)) (fO (fW (fR T.pM))) gd) (fO (fW (fR T.gx)))))),?_⟩
 obtain ⟨L,s,m,n,rfl,R,q⟩:=h
 unfold pP at q
 refine (U rfl (U rfl ⟨L,s,m,rfl,R,?_⟩))
 refine (U rfl ⟨rfl,ac ?_⟩)
 unfold qM
 unfold aF at q
 rcases jV s m with ⟨e,_⟩|⟨e,_,e2⟩|⟨t,e⟩
 ·rw [e] at q
  rw [e]
  exact gR (U rfl q)
 ·rw [e] at q
  rw [e]
  exact gR (U rfl q)
 ·rw [e] at q
  obtain ⟨i,e1,e2,hr⟩:=nj e
  rw [e]
  refine f7 ?_
  refine ⟨_,rfl,_,rfl,_,_,_,_,rfl,R.hs,iC L s,_,rfl,_,_,rfl,(by
   have g:=sD.k (k:=Sum.inl (m:Int)) R.tf
   rw [Hk hr,e1] at g
   exact g),_,_,_,_,rfl,R.tc e2,iB L i t,_,_,rfl,.inl (gE.of (R.cl e2)),_,_,rfl,rfl,_,rfl,qG (λh=>?_) (λh=>?_)⟩
  ·have h:decide (((refs L t.coupons.length (.cp i)).length:Int)≤(n:Int))=true:=h
   rw [gH] at h
   have h:=of_decide_eq_true h
   have e3:t.coupons[n]?=none:=bc (by omega)
   dsimp only at q
   rw [e3] at q
   exact q
  ·have h:¬decide (((refs L t.coupons.length (.cp i)).length:Int)≤(n:Int))=true:=h
   rw [gH] at h
   have h:=of_decide_eq_false (bH.mpr h)
   obtain ⟨c,hc⟩:=gu (l:=t.coupons) (i:=n) (by omega)
   dsimp only at q
   rw [hc] at q
   exact q
theorem xE (s:gA) (g:Nat×Nat×Nat):(oo (uw s) (N9 g)).isSome=s.gone.contains g:=by
 unfold uw
 rw [←wZ,fe,dW]
 congr 1
 funext x
 show decide (N9 x=N9 g)=(g==x)
 by_cases h:x=g
 ·subst h
  simp
 ·have h2:¬N9 x=N9 g:=λq=>h (by
   unfold N9 at q
   injection q with q1 q
   injection q with q2 q
   injection q with q3 q
   have q1:=Sum.inl.inj q1
   have q2:=Sum.inl.inj q2
   have q3:=Sum.inl.inj q3
   obtain ⟨x1,x2,x3⟩:=x
   obtain ⟨g1,g2,g3⟩:=g
   dsimp only at q1 q2 q3
   have a1:x1=g1:=by omega
   have a2:x2=g2:=by omega
   have a3:x3=g3:=by omega
   rw [a1,a2,a3])
  rw [decide_eq_false h2,beq_false_of_ne fun q=>h q.symm]
abbrev nI (P w K mg base) (d:Ad):=Fd P w K mg base 2 "may_be_issued" ["house","coupon","last"] (yM d)
theorem yN (T:Txt P w K mg d) (iE:jG P w K mg base d) (G:FG K mg "may_be_issued" (top 71)):nI P w K mg base d:=by
 have S:gf ["house","coupon","last"] ["house","coupon","last"] (fS (top 71)):=lu
 refine G.fd S (λ_ _ _ _ _ _=>Pg fun _ _ _=>rfl) fun _ _ _ _ _ H vs Q E hr h=>⟨_,(fL (gJ (gg iY (gw T.fQ T.jB (pv 1)) (gw T.fQ T.ke (pv 1)) (gm _)) (fO (fW mY)) gd) (fO (fW (yx (JI zt zt (gw T.fP T.iq (pv 0)) (gw T.fQ T.j6 (pv 1)) (pv 2)) (sN (VJ (FV (oi hr) (kC T.fQ iE (hr.mono (by decide)) (pv 1)) (gw T.fP T.jt (pv 0))) (by with_unfolding_all rfl))))))),?_⟩
 obtain ⟨L,s,v,c,last,rfl,R,⟨a,dx,rfl,ha⟩,q⟩:=h
 unfold dg at q
 refine (U rfl ⟨_,_,_,_,rfl,ha,yH c,U rfl ⟨_,_,_,_,rfl,ha,Ha c,rfl,ac ?_⟩⟩)
 rw [kh]
 by_cases h1:c.from_=c.to_
 ·rw [decide_eq_true h1]
  refine gR ?_
  have q:=q H (gi.refl H)
  rw [h1,bne_self_eq_false] at q
  exact q
 ·rw [decide_eq_false h1]
  refine f7 ?_
  have b1:(c.from_ != c.to_)=true:=by simpa using h1
  rw [b1,br] at q
  refine (U rfl ⟨_,_,_,_,rfl,R.hs,lh L s,U rfl ⟨_,_,_,_,rfl,ha,MC c,ad (ac (qG (λh2=>?_) (λh2=>?_)))⟩⟩)
  ·have h2:s.today≤c.day:=by
    have:=of_decide_eq_true h2
    omega
   rw [decide_eq_true h2,br] at q
   refine (U rfl (ad (ac (qG (λh3=>?_) (λh3=>?_)))))
   ·have h3:c.day≤last:=by
     have:=of_decide_eq_true h3
     omega
    rw [decide_eq_true h3,br] at q
    refine (U rfl ⟨a,dx,_,rfl,ha,(ve c).2.1,_,c,rfl,⟨a,dx,rfl,ha⟩,λp hp=>?_⟩)
    have sp:=f9 (o:=HO.tup (Gi (Rj c))) hp
    refine (U rfl ⟨_,_,_,_,rfl,sp _ _ R.hs,qJ L s,_,_,rfl,sD.t (k:=N9 (Rj c)) (sp _ _ R.gn) fN,?_⟩)
    rw [xE]
    exact q _ sp
   ·have h3:¬c.day≤last:=λz=>h3 (decide_eq_true (by omega))
    rw [decide_eq_false h3,dw] at q
    exact q H (gi.refl H)
  ·have h2:¬s.today≤c.day:=λz=>h2 (decide_eq_true (by omega))
   rw [decide_eq_false h2,dw] at q
   exact ⟨_,rfl,f7 (q H (gi.refl H))⟩
theorem Rv {v:Nat}{a:aJ×aJ}(h:dZ v=some a):∃k:Nat,v=k+1∧[(aJ.open_,aJ.controlled),(.controlled,.open_),(.controlled,.checked),(.checked,.controlled),(.checked,.boarded),(.boarded,.checked)][k]?=some a:=by
 match v,h with
 |1,h=>exact ⟨0,rfl,h⟩
 |2,h=>exact ⟨1,rfl,h⟩
 |3,h=>exact ⟨2,rfl,h⟩
 |4,h=>exact ⟨3,rfl,h⟩
 |5,h=>exact ⟨4,rfl,h⟩
 |6,h=>exact ⟨5,rfl,h⟩
abbrev tK (P w K mg base) (d:Ad):=Fd P w K mg base 1 "change_by" ["verb"] Hl
theorem Hn (T:Txt P w K mg d) (G:FG K mg "change_by" (top 77)):tK P w K mg base d:=by
 have S:gf ["verb","changes"] ["verb"] (fS (top 77)):=lu
 refine G.fd S (λ_ _ _ _ _ _=>Dl fun _=>rfl) fun _ _ _ _ _ H vs Q E hr h=>⟨_,(fL (gj (i:=1) S.nd rfl (by first|exact ak rfl|exact au rfl) (i6 (fY (i6 (fY (fR T.lX) (fY (fR T.iO) fM))) (fY (i6 (fY (fR T.iO) (fY (fR T.lX) fM))) (fY (i6 (fY (fR T.iO) (fY (fR T.iz) fM))) (fY (i6 (fY (fR T.iz) (fY (fR T.iO) fM))) (fY (i6 (fY (fR T.iz) (fY (fR T.ma) fM))) (fY (i6 (fY (fR T.ma) (fY (fR T.iz) fM))) fM)))))))) (fO (fW (gP pY (pv 1) (g9 mL (pv 0) gb) (λ_ _=>rfl))))),?_⟩
 obtain ⟨v,a,rfl,ha,q⟩:=h
 obtain ⟨k,rfl,hk⟩:=Rv ha
 have two:2≤sizeLine:=by decide
 refine ⟨two,λp0 h0=>⟨two,λp1 h1=>⟨two,λp2 h2=>⟨two,λp3 h3=>⟨two,λp4 h4=>⟨two,λp5 h5=>⟨by show 6≤sizeLine;decide,λp h6=>?_⟩⟩⟩⟩⟩⟩⟩
 have s0:=f9 (o:=HO.tup [.int 0,.int 1]) h0
 have s1:=f9 (o:=HO.tup [.int 1,.int 0]) h1
 have s2:=f9 (o:=HO.tup [.int 1,.int 2]) h2
 have s3:=f9 (o:=HO.tup [.int 2,.int 1]) h3
 have s4:=f9 (o:=HO.tup [.int 2,.int 3]) h4
 have s5:=f9 (o:=HO.tup [.int 3,.int 2]) h5
 have s6:=f9 (o:=HO.tup [.ref p0,.ref p1,.ref p2,.ref p3,.ref p4,.ref p5]) h6
 have ek:((k+1:Nat):Int) - 1=(k:Int):=by omega
 have fin:∀pk (hpk:([p0,p1,p2,p3,p4,p5]:List Addr)[k]?=some pk) (hf:H pk=Option.none) (hh:upd (upd (upd (upd (upd (upd (upd H p0 (.tup [.int 0,.int 1])) p1 (.tup [.int 1,.int 0])) p2 (.tup [.int 1,.int 2])) p3 (.tup [.int 2,.int 1])) p4 (.tup [.int 2,.int 3])) p5 (.tup [.int 3,.int 2])) p (.tup [.ref p0,.ref p1,.ref p2,.ref p3,.ref p4,.ref p5]) pk=some (.tup [mJ a.1,mJ a.2])),
   jZ (km (Ml K) (fV 1) (km zy (fV 0) (tC (.int 1)))) (ends Q) ((start ["verb","changes"] [vN (k+1)]).set 1 (some (.ref p))) (upd (upd (upd (upd (upd (upd (upd H p0 (.tup [.int 0,.int 1])) p1 (.tup [.int 1,.int 0])) p2 (.tup [.int 1,.int 2])) p3 (.tup [.int 2,.int 1])) p4 (.tup [.int 2,.int 3])) p5 (.tup [.int 3,.int 2])) p (.tup [.ref p0,.ref p1,.ref p2,.ref p3,.ref p4,.ref p5])):=λpk hpk hf hh=>by
  refine (U rfl (U rfl (ad ⟨p,_,(k:Int),.ref pk,rfl,?_,mZ.of fN,kI ?_,?_⟩)))
  ·show V.int (((k+1:Nat):Int) - 1)=_
   rw [ek]
  ·have:([.ref p0,.ref p1,.ref p2,.ref p3,.ref p4,.ref p5]:List V)=([p0,p1,p2,p3,p4,p5]:List Addr).map V.ref:=rfl
   rw [this,ah,hpk]
   rfl
  ·exact q _ pk ((((((s0.trans s1).trans s2).trans s3).trans s4).trans s5).trans s6) hf hh
 match k,hk with
 |0,hk=>
  cases hk
  exact fin p0 rfl h0 (s6 _ _ (s5 _ _ (s4 _ _ (s3 _ _ (s2 _ _ (s1 _ _ fN))))))
 |1,hk=>
  cases hk
  exact fin p1 rfl (s0.free h1) (s6 _ _ (s5 _ _ (s4 _ _ (s3 _ _ (s2 _ _ fN)))))
 |2,hk=>
  cases hk
  exact fin p2 rfl ((s0.trans s1).free h2) (s6 _ _ (s5 _ _ (s4 _ _ (s3 _ _ fN))))
 |3,hk=>
  cases hk
  exact fin p3 rfl (((s0.trans s1).trans s2).free h3) (s6 _ _ (s5 _ _ (s4 _ _ fN)))
 |4,hk=>
  cases hk
  exact fin p4 rfl ((((s0.trans s1).trans s2).trans s3).free h4) (s6 _ _ (s5 _ _ fN))
 |5,hk=>
  cases hk
  exact fin p5 rfl (((((s0.trans s1).trans s2).trans s3).trans s4).free h5) (s6 _ _ fN)
def Kp (s:gA) (t:iF) (n v carrier:Nat) (c:gL) (a:aJ×aJ):Int:=
 if c.carrier≠carrier then -10 else if eT s c.carrier c.num c.day=true then -11 else if c.status≠a.1 then -9 else if eK t n v=false then -12 else 0
def Bw (d:Ad):Sp:=λvs H Q _=>∃(L:Ly) (s:gA) (v carrier i n:Nat) (t:iF) (c:gL) (a:aJ×aJ),vs=[.ref (L.a .hs),vN v,vN carrier,.ref (L.a (.cl i)),vN n]∧Rep d H L s∧gN s∧s.tickets[i]?=some t∧t.coupons[n]?=some c∧dZ v=some a∧
 ∀H',gi H H'→Q (.int (Kp s t n v carrier c a)) H'
def WM (d:Ad):Sp:=λvs H Q _=>∃(L:Ly) (s:gA) (v carrier m n:Nat),vs=[.ref (L.a .hs),vN v,vN carrier,vN m,vN n]∧Rep d H L s∧gN s∧1≤v∧v≤6∧DB d H L s (.use v carrier m n) Q
def DC (d:Ad):Sp:=λvs H Q _=>∃(L:Ly) (s:gA) (m n f y:Nat),vs=[.ref (L.a .hs),vN m,vN n,vN f,vN y]∧Rep d H L s∧gN s∧DB d H L s (.revalidate m n f y) Q
def ML (d:Ad):Sp:=λvs H Q _=>∃(L:Ly) (s:gA) (m n b:Nat),vs=[.ref (L.a .hs),vN m,vN n,vN b]∧Rep d H L s∧gN s∧DB d H L s (.suspend m n b) Q
theorem Bx {α:Type}(l:List α) (f:α→Bool):(l.map f).all id=l.all f:=by
 rw [eE]
 rfl
theorem Kq (x:aJ):(LR (mJ x) [.int 2,.int 3]||fh x)=fH x:=by cases x<;>rfl
theorem Ho (v:Nat) (k:Nat):decide (V.int (v:Int)=V.int (k:Int))=decide (v=k):=kh v k
theorem xF {k:Nat}{te:TE}{σ:L2.St}{H:Hp}{a:Addr}{ev:List V}{es:List gL}{f:gL→Bool}{Q:Bool→Hp→Prop}(ha:H a=some (.lst ev)) (hc:Hm d H ev es) (h4:es.length≤4)
  (hs:∀(x:V) (c:gL) (H2:Hp) (Qy:VK),vK d H2 x c→gi H H2→(∀H3,gi H2 H3→Qy (.bl (f c)) H3)→te ((wipe σ [k]).set k (some x)) H2 Qy) (hd:∀H',gi H H'→Q (es.all f) H') (D:Addr) (hD:H D=Option.none) :
  ∃W:Nat→Nat→Hp→Prop,(∃m,W 0 m (upd H D (.lst [])))∧∀i m H,W i m H→
   ((sQ K a).stop i H∧∃(a':Addr) (bs:List Bool),[V.ref D]=[V.ref a']∧gE K H a' (bs.map V.bl)∧Q (bs.all id) H)∨((sQ K a).go i H∧∃Nx:Hp→Prop,(∀H',Nx H'→∃m',m'<m∧W (i+1) m' H')∧∀x H',(sQ K a).A0 i H x H'→gr k x (wipe σ [k]) H' fun σ2 H2=>wipe σ2 [k]=wipe σ [k]∧mI σ2 H2 fun b H3=>
    if b=true then te σ2 H3 fun y H4=>∃acc,H4 D=some (.lst acc)∧acc.length<sizeLine∧Nx (upd H4 D (.lst (acc++[y]))) else Nx H3):=by
 have le:ev.length=es.length:=Paired.length hc
 have s4:4≤sizeLine:=by decide
 refine Vo (ys:=(es.map f).map V.bl) (gE.of ha) (by omega) (by rw [aa,aa,le]) (λi x y H2 Qy hx hy h2 kk=>?_) hD fun H' s' Hh=>⟨D,_,rfl,gE.of Hh,?_⟩
 ·obtain ⟨c,JD,Ug⟩:=gK hc hx
  obtain ⟨b,hb,rfl⟩:=ji hy
  rw [ah,JD] at hb
  have hb:f c=b:=Option.some.inj hb
  subst hb
  exact hs x c H2 Qy (Ug.same h2) h2 kk
 ·rw [Bx]
  exact hd H' s'
abbrev vi (P w K mg base) (d:Ad):=Fd P w K mg base 2 "is_in_order" ["verb","earlier","later"] (Bv d)
def By (K:ab) (d:Ad) (il:Sp):TS:=(g6 (pC (kH (km Tj (fV 0) (tC (.int 3)))) (jZ (vC (JP K) (fT (yt (jy K (fV 1)) (gr 3) mI (Yq (km (X0 K false) (tF d.fQ (fV 3) "status") (A5 (fT (tC (.int 2)) (fT (tC (.int 3)) gF)))) (JJ d.fQ "has_ended" il [] E0 (fV 3) gF)) [3]) gF))) lD) (g6 (pC (kH (km Tj (fV 0) (tC (.int 4)))) (jZ (vC (JP K) (fT (yt (jy K (fV 2)) (gr 3) mI (km Vc (tF d.fQ (fV 3) "status") (tC (.int 2))) [3]) gF))) lD) (g6 (pC (kH (km Tj (fV 0) (tC (.int 5)))) (jZ (vC (JP K) (fT (yt (jy K (fV 1)) (gr 3) mI (JJ d.fQ "has_ended" il [] E0 (fV 3) gF) [3]) gF))) lD) (jZ (tC (.bl true))))))
theorem Bz (T:Txt P w K mg d) (iU:kg P w K mg base d) (G:FG K mg "is_in_order" (top 79)):vi P w K mg base d:=by
 have S:gf ["verb","earlier","later","coupon"] ["verb","earlier","later"] (fS (top 79)):=lu
 refine G.fd S (λ_ _ _ _ _ _=>Pg fun _ _ _=>rfl) fun _ _ _ _ _ H vs Q E hr h=>⟨By K d (il d),(fL (gJ (gg iY (pv 0) (fR T.rp) (gm _)) (fO (fW (gp (qX rfl) rfl T.sj boot_all (fY (ko rfl S.nd (gC (pv 1)) (gS (own:=[("coupon",3)]) (by show kX ["verb","earlier","later","coupon"] (fS (top 79)) _ _=true;decide +kernel)) (λ_ _ _ _ _=>(gk (i:=3) S.nd rfl (by first|exact ak rfl|exact au rfl))) (λ_ _ _ _ _=>iJ) (λ_ _ _ _ _=>(Va (jO qD (gw T.fQ T.gc (pv 3)) (i6 (fY (fR T.iz) (fY (fR T.ma) fM))) (by with_unfolding_all rfl)) (sN (kC T.fQ iU (hr.mono (by decide)) (pv 3)))))) fM)))) gd) (fL (gJ (gg iY (pv 0) (fR T.rq) (gm _)) (fO (fW (gp (qX rfl) rfl T.sj boot_all (fY (ko rfl S.nd (gC (pv 2)) (gS (own:=[("coupon",3)]) (by show kX ["verb","earlier","later","coupon"] (fS (top 79)) _ _=true;decide +kernel)) (λ_ _ _ _ _=>(gk (i:=3) S.nd rfl (by first|exact ak rfl|exact au rfl))) (λ_ _ _ _ _=>iJ) (λ_ _ _ _ _=>(jO kn (gw T.fQ T.gc (pv 3)) (fR T.iz) (gm _)))) fM)))) gd) (fL (gJ (gg iY (pv 0) (fR T.AJ) (gm _)) (fO (fW (gp (qX rfl) rfl T.sj boot_all (fY (ko rfl S.nd (gC (pv 1)) (gS (own:=[("coupon",3)]) (by show kX ["verb","earlier","later","coupon"] (fS (top 79)) _ _=true;decide +kernel)) (λ_ _ _ _ _=>(gk (i:=3) S.nd rfl (by first|exact ak rfl|exact au rfl))) (λ_ _ _ _ _=>iJ) (λ_ _ _ _ _=>(kC T.fQ iU (hr.mono (by decide)) (pv 3)))) fM)))) gd) (fO (fW mY))))),?_⟩
 obtain ⟨v,e,l,ev,lv,es,ls,rfl,he,hl,hE,hL,n1,n2,q⟩:=h
 unfold Ru at q
 refine (U rfl ⟨rfl,ac ?_⟩)
 change if decide (V.int (v:Int)=V.int ((3:Nat):Int))=true then _ else _
 rw [Ho]
 by_cases h3:v=3
 ·rw [decide_eq_true h3]
  rw [if_pos h3] at q
  refine gR (U rfl ⟨e,rfl,⟨_,gE.of he⟩,xF (Q:=λb H=>Q (.bl b) H) he hE n1 (λx c H2 Qy hx h2 kk=>?_) q⟩)
  obtain ⟨a,dx,rfl,ha⟩:=hx
  refine (U rfl ⟨a,dx,_,_,rfl,ha,iy c,by show 2≤sizeLine;decide,λp hp=>⟨p,_,rfl,.inr (mZ.of fN),rfl,rfl,_,rfl,qG (λh=>?_) (λh=>?_)⟩⟩)
  ·have h:LR (mJ c.status) [.int 2,.int 3]=true:=h
   have e:fH c.status=true:=by rw [←Kq,h];rfl
   rw [e] at kk
   exact kk _ (f9 hp)
  ·have h:LR (mJ c.status) [.int 2,.int 3]=false:=bH.mpr h
   have e:fH c.status=fh c.status:=by rw [←Kq,h,Bool.false_or]
   have sp:=f9 (o:=HO.tup [.int 2,.int 3]) hp
   refine (U rfl ⟨a,dx,_,rfl,sp _ _ ha,(ve c).2.2,_,c,rfl,⟨a,dx,rfl,sp _ _ ha⟩,λH' s'=>?_⟩)
   rw [←e]
   exact kk _ (sp.trans s')
 ·rw [decide_eq_false h3]
  rw [if_neg h3] at q
  refine f7 ?_
  refine (U rfl ⟨rfl,ac ?_⟩)
  change if decide (V.int (v:Int)=V.int ((4:Nat):Int))=true then _ else _
  rw [Ho]
  by_cases h4:v=4
  ·rw [decide_eq_true h4]
   rw [if_pos h4] at q
   refine gR (U rfl ⟨l,rfl,⟨_,gE.of hl⟩,xF (Q:=λb H=>Q (.bl b) H) hl hL n2 (λx c H2 Qy hx h2 kk=>?_) q⟩)
   obtain ⟨a,dx,rfl,ha⟩:=hx
   refine (U rfl ⟨a,dx,_,_,rfl,ha,iy c,rfl,?_⟩)
   have e:(!decide (mJ c.status=mJ .checked))=(c.status != .checked):=by
    rw [rB]
    cases c.status<;>rfl
   change Qy (.bl (!decide (mJ c.status=mJ .checked))) H2
   rw [e]
   exact kk _ (gi.refl _)
  ·rw [decide_eq_false h4]
   rw [if_neg h4] at q
   refine f7 ?_
   refine (U rfl ⟨rfl,ac ?_⟩)
   change if decide (V.int (v:Int)=V.int ((5:Nat):Int))=true then _ else _
   rw [Ho]
   by_cases h5:v=5
   ·rw [decide_eq_true h5]
    rw [if_pos h5] at q
    refine gR (U rfl ⟨e,rfl,⟨_,gE.of he⟩,xF (Q:=λb H=>Q (.bl b) H) he hE n1 (λx c H2 Qy hx h2 kk=>?_) q⟩)
    obtain ⟨a,dx,rfl,ha⟩:=hx
    exact (U rfl ⟨a,dx,_,rfl,ha,(ve c).2.2,_,c,rfl,⟨a,dx,rfl,ha⟩,kk⟩)
   ·rw [decide_eq_false h5]
    rw [if_neg h5] at q
    exact f7 (q H (gi.refl H))
theorem Rep.cps {L:Ly}{s:gA}{i:Nat}{t:iF}(R:Rep d H L s) (ht:s.tickets[i]?=some t):Hm d H (refs L t.coupons.length (.cp i)) t.coupons:=by
 have go:∀n,n≤t.coupons.length→Hm d H (refs L n (.cp i)) (t.coupons.take n):=λn=>by
  induction n with
  |zero=>exact fun _=>.nil
  |succ n ih=>
   intro hn
   obtain ⟨c,hc⟩:=gu (l:=t.coupons) (i:=n) (by omega)
   rw [qI,take_snoc hc]
   exact Paired.snoc (ih (by omega)) ⟨_,_,rfl,R.cp ht hc⟩
 have:=go t.coupons.length (ai _)
 rw [bg] at this
 exact this
theorem zD {α β:Type}{F:α→β→Prop}:∀{l1:List α}{l2:List β}(n:Nat),Paired F l1 l2→Paired F (l1.take n) (l2.take n)
 |_,_,0,_=>by
  rw [List.take_zero,List.take_zero]
  exact .nil
 |_,_,n+1,.nil=>.nil
 |_,_,n+1,.cons f r=>.cons f (zD n r)
theorem zE {α β:Type}{F:α→β→Prop}:∀{l1:List α}{l2:List β}(n:Nat),Paired F l1 l2→Paired F (l1.drop n) (l2.drop n)
 |_,_,0,h=>h
 |_,_,n+1,.nil=>.nil
 |_,_,n+1,.cons f r=>zE n r
theorem WN {xs:List V}{n:Nat}(h:n≤xs.length):qC xs none (some (n:Int))=xs.take n:=by
 unfold qC
 rw [HT.JM,HT.ub,eX h]
 rfl
theorem Rw {xs:List V}{n:Nat}(h:n≤xs.length):qC xs (some (n:Int)) none=xs.drop n:=by
 unfold qC
 rw [HT.JM,HT.ub,eX h]
 exact eD (by rw [cW];exact ai _)
theorem MM (t:iF) (n v:Nat):eK t n v=Ru v (t.coupons.take n) (t.coupons.drop (n+1)):=rfl
abbrev vj (P w K mg base) (d:Ad):=Fd P w K mg base 3 "use_refusal" ["house","verb","carrier","coupons","n"] (Bw d)
theorem BA (T:Txt P w K mg d) (tL:tK P w K mg base d) (DD:vi P w K mg base d) (iE:jG P w K mg base d) (G:FG K mg "use_refusal" (top 78)):vj P w K mg base d:=by
 have S:gf ["house","verb","carrier","coupons","n","coupon"] ["house","verb","carrier","coupons","n"] (fS (top 78)):=lu
 refine G.fd S (λ_ _ _ _ _ _=>WA fun _ _ _ _ _=>rfl) fun _ _ _ _ _ H vs Q E hr h=>⟨_,(fL (gj (i:=5) S.nd rfl (by first|exact ak rfl|exact au rfl) (gP gv (pv 3) (pv 4) (λ_ _=>rfl))) (fL (gJ (gg kn (gw T.fQ T.iD (pv 5)) (pv 2) (gm _)) (fO (fW (fR T.lQ))) gd) (fL (gJ (L3 (QM (oi hr) (kC T.fQ iE (hr.mono (by decide)) (pv 5)) (gw T.fP T.jt (pv 0))) (by with_unfolding_all rfl)) (fO (fW (fR T.lM))) gd) (fL (gJ (gg kn (gw T.fQ T.gc (pv 5)) (gP pY (fU tL (hr.mono (by decide)) rfl (fY (pv 1) fM)) gb (λ_ _=>rfl)) (gm _)) (fO (fW (fR T.ju))) gd) (fL (gJ (oT (jn (fU DD (hr.mono (by decide)) rfl (fY (pv 1) (fY (wV Az (pv 3) NK (uc (pv 4))) (fY (wV Az (pv 3) (uc (g9 ip (pv 4) gb)) NK) fM)))))) (fO (fW (fR T.mr))) gd) (fO (fW (fR T.gx)))))))),?_⟩
 obtain ⟨L,s,v,carrier,i,n,t,c,a,rfl,R,I,ht,hc,ha,q⟩:=h
 unfold Kp at q
 have hn:n<t.coupons.length:=iZ hc
 have h14:=(I.cps t (ax ht)).2
 have hC:=R.cp ht hc
 refine (U rfl (U rfl ⟨_,_,(n:Int),_,rfl,rfl,gE.of (R.cl ht),kI (kM hn),?_⟩))
 refine (U rfl ⟨_,_,_,_,rfl,hC,oX c,U rfl ⟨rfl,ac ?_⟩⟩)
 rw [kh]
 by_cases h1:c.carrier=carrier
 ·rw [decide_eq_true h1]
  rw [if_neg (λz=>z h1)] at q
  refine f7 ?_
  refine (U rfl ⟨_,_,_,rfl,hC,(ve c).2.1,_,c,rfl,⟨_,_,rfl,hC⟩,λp hp=>?_⟩)
  have sp:=f9 (o:=HO.tup (Gi (Rj c))) hp
  refine (U rfl ⟨_,_,_,_,rfl,sp _ _ R.hs,qJ L s,_,_,rfl,sD.t (k:=N9 (Rj c)) (sp _ _ R.gn) fN,_,rfl,?_⟩)
  rw [xE]
  refine qG (λh2=>?_) (λh2=>?_)
  ·have h2:eT s c.carrier c.num c.day=true:=h2
   rw [if_pos h2] at q
   exact q _ sp
  ·have h2:¬eT s c.carrier c.num c.day=true:=h2
   rw [if_neg h2] at q
   refine (U rfl ⟨_,_,_,_,rfl,sp _ _ hC,iy c,U rfl ⟨v,a,rfl,ha,λH2 p2 s2 n2 yu=>?_⟩⟩)
   have Hq:=sp.trans s2
   refine ⟨p2,_,0,_,rfl,rfl,mZ.of yu,rfl,rfl,ac ?_⟩
   rw [rB]
   by_cases h3:c.status=a.1
   ·rw [decide_eq_true h3]
    rw [if_neg (λz=>z h3)] at q
    refine f7 ?_
    have V0:=Hq _ _ (R.cl ht)
    have hR2:=R.same Hq
    refine ⟨_,rfl,_,rfl,_,rfl,_,rfl,_,_,rfl,gE.of V0,λp3 h3'=>?_⟩
    have e3:qC (refs L t.coupons.length (.cp i)) none (some (n:Int))=(refs L t.coupons.length (.cp i)).take n:=WN (by rw [gH];omega)
    have s3:=f9 (o:=HO.lst (qC (refs L t.coupons.length (.cp i)) none (some (n:Int)))) h3'
    refine (U rfl (U rfl ⟨_,_,rfl,rfl,_,rfl,_,_,rfl,gE.of (s3 _ _ V0),λp4 h4'=>?_⟩))
    have e4:qC (refs L t.coupons.length (.cp i)) (some ((n:Int)+1)) none=(refs L t.coupons.length (.cp i)).drop (n+1):=Rw (n:=n+1) (by rw [gH];omega)
    have s4:=f9 (o:=HO.lst (qC (refs L t.coupons.length (.cp i)) (some ((n:Int)+1)) none)) h4'
    have cp4:=Hm.same (s3.trans s4) (hR2.cps ht)
    refine ⟨v,p3,p4,_,_,t.coupons.take n,t.coupons.drop (n+1),rfl,s4 _ _ fN,fN,?_,?_,?_,?_,λH5 s5=>⟨_,rfl,?_⟩⟩
    ·have z:=zD n cp4
     rw [←e3] at z
     exact z
    ·have z:=zE (n+1) cp4
     rw [←e4] at z
     exact z
    ·rw [bp]
     omega
    ·rw [cW]
     omega
    ·rw [←MM]
     cases hio:eK t n v with
     |true=>
      rw [hio] at q
      exact f7 (q _ (((Hq.trans s3).trans s4).trans s5))
     |false=>
      rw [hio] at q
      exact gR (q _ (((Hq.trans s3).trans s4).trans s5))
   ·rw [decide_eq_false h3]
    rw [if_pos h3] at q
    exact gR (q _ Hq)
 ·rw [decide_eq_false h1]
  rw [if_pos h1] at q
  exact gR (q H (gi.refl H))
theorem tM {s:gA}{m n:Nat}(h:pP s m n=0):∃x,aF s m n=.ok x:=by
 unfold pP at h
 cases e:aF s m n with
 |ok x=>exact ⟨x,rfl⟩
 |error z=>
  rw [e] at h
  exfalso
  have h:z=0:=h
  subst h
  unfold aF at e
  rcases jV s m with ⟨e1,_⟩|⟨e1,_⟩|⟨t,e1⟩
  ·rw [e1] at e
   cases e
  ·rw [e1] at e
   cases e
  ·rw [e1] at e
   dsimp only at e
   cases e2:t.coupons[n]? with
   |none=>
    rw [e2] at e
    cases e
   |some c=>
    rw [e2] at e
    cases e
theorem uo {s:gA}{m n:Nat}(h:¬pP s m n=0):aF s m n=.error (pP s m n):=by
 unfold pP at h ⊢
 cases e:aF s m n with
 |ok x=>
  rw [e] at h
  exact absurd rfl h
 |error z=>rfl
theorem jY (z:Int):decide (V.int z=V.int 0)=decide (z=0):=by
 by_cases h:z=0
 ·subst h
  rfl
 ·have h2:¬V.int z=V.int 0:=λq=>h (by injection q)
  rw [decide_eq_false h,decide_eq_false h2]
theorem pQ {L:Ly}{s:gA}{m i:Nat}(R:Rep d H L s) (hr:bo m=true) (e1:nH s m=some i):sD H (L.a .tf) (vN m) (some (.ref (L.a (.tc i)))):=by
 have g:=sD.k (k:=Sum.inl (m:Int)) R.tf
 rw [Hk hr,e1] at g
 exact g
theorem mN (c:gL):(cf c).length<1000:=by show 9<1000;decide
abbrev Vs (P w K mg base) (d:Ad):=Fd P w K mg base 5 "use" ["house","verb","carrier","number","n"] (WM d)
theorem WO (T:Txt P w K mg d) (tL:tK P w K mg base d) (iV:jW P w K mg base d) (DF:vj P w K mg base d) (G:FG K mg "use" (top 76)):Vs P w K mg base d:=by
 have S:gf ["house","verb","carrier","number","n","refused","coupons","coupon"] ["house","verb","carrier","number","n"] (fS (top 76)):=lu
 refine G.fd S (λ_ _ _ _ _ _=>WA fun _ _ _ _ _=>rfl) fun _ _ _ _ _ H vs Q E hr h=>⟨_,(fL (gj (i:=5) S.nd rfl (by first|exact ak rfl|exact au rfl) (fU iV (hr.mono (by decide)) rfl (fY (pv 0) (fY (pv 3) (fY (pv 4) fM))))) (fL (gJ (gg kn (pv 5) (fR T.gx) (gm _)) (fO (fW (gG (fY (pv 5) fM)))) gd) (fL (gj (i:=6) S.nd rfl (by first|exact ak rfl|exact au rfl) (gw T.fX T.gD (oq (oi hr) (gw T.fP T.gM (pv 0)) (pv 3) (λ_ _=>rfl)))) (fL (gj (i:=5) S.nd rfl (by first|exact ak rfl|exact au rfl) (fU DF (hr.mono (by decide)) rfl (fY (pv 0) (fY (pv 1) (fY (pv 2) (fY (pv 6) (fY (pv 4) fM))))))) (fL (gJ (gg kn (pv 5) (fR T.gx) (gm _)) (fO (fW (gG (fY (pv 5) fM)))) gd) (fL (gj (i:=7) S.nd rfl (by first|exact ak rfl|exact au rfl) (gP gv (pv 6) (pv 4) (λ_ _=>rfl))) (fL (iT T.fQ T.gc (pv 7) (gP pY (fU tL (hr.mono (by decide)) rfl (fY (pv 1) fM)) gb (λ_ _=>rfl))) (fO (fW (gG (fY (fR T.gx) fM))))))))))),?_⟩
 obtain ⟨L,s,v,carrier,m,n,rfl,R,I,v1,v6,q⟩:=h
 have hs:aq s (.use v carrier m n)=(match aF s m n with
  |.error z=>(s,[z])
  |.ok x=>if x.2.carrier≠carrier then (s,[-10]) else if eT s x.2.carrier x.2.num x.2.day=true then (s,[-11]) else match dZ v with
   |none=>(s,[-9])
   |some a=>if x.2.status≠a.1 then (s,[-9]) else if eK x.1 n v=false then (s,[-12]) else (cU s (cQ x.1 n fun c=>{ c with status:=a.2 }),[0])):=rfl
 refine (U rfl (U rfl (U rfl ⟨L,s,m,n,rfl,R,?_⟩)))
 refine (U rfl ⟨rfl,ac ?_⟩)
 rw [jY]
 by_cases h0:pP s m n=0
 ·rw [decide_eq_true h0]
  refine f7 ?_
  obtain ⟨x,hx⟩:=tM h0
  obtain ⟨i,e1,e2,e3,hr⟩:=iI hx
  rw [hx] at hs
  dsimp only at hs
  obtain ⟨a,ha⟩:∃a,dZ v=some a:=by
   match v,v1,v6 with
   |1,_,_=>exact ⟨_,rfl⟩
   |2,_,_=>exact ⟨_,rfl⟩
   |3,_,_=>exact ⟨_,rfl⟩
   |4,_,_=>exact ⟨_,rfl⟩
   |5,_,_=>exact ⟨_,rfl⟩
   |6,_,_=>exact ⟨_,rfl⟩
  rw [ha] at hs
  dsimp only at hs
  refine (U rfl ⟨_,_,_,_,rfl,R.hs,iC L s,U rfl ⟨_,_,rfl,pQ R hr e1,_,_,_,_,rfl,R.tc e2,iB L i x.1,?_⟩⟩)
  refine (U rfl (U rfl (U rfl (U rfl (U rfl ⟨L,s,v,carrier,i,n,x.1,x.2,a,rfl,R,I,e2,e3,ha,λH1 s1=>?_⟩)))))
  refine (U rfl ⟨rfl,ac ?_⟩)
  rw [jY]
  have R1:=R.same s1
  by_cases h1:Kp s x.1 n v carrier x.2 a=0
  ·rw [decide_eq_true h1]
   refine f7 ?_
   unfold Kp at h1
   have c1:¬x.2.carrier≠carrier:=λz=>by rw [if_pos z] at h1;cases h1
   rw [if_neg c1] at h1 hs
   have c2:¬eT s x.2.carrier x.2.num x.2.day=true:=λz=>by rw [if_pos z] at h1;cases h1
   rw [if_neg c2] at h1 hs
   have c3:¬x.2.status≠a.1:=λz=>by rw [if_pos z] at h1;cases h1
   rw [if_neg c3] at h1 hs
   have c4:¬eK x.1 n v=false:=λz=>by rw [if_pos z] at h1;cases h1
   rw [if_neg c4] at h1 hs
   rw [tJ I (m:=m) e2] at hs
   refine (U rfl (U rfl ⟨_,_,(n:Int),_,rfl,rfl,gE.of (R1.cl e2),kI (kM (iZ e3)),?_⟩))
   refine (U rfl ⟨v,a,rfl,ha,λH2 p2 s2 n2 yu=>?_⟩)
   have R2:=R1.same s2
   refine ⟨p2,_,1,_,rfl,rfl,mZ.of yu,rfl,U rfl ⟨_,_,_,rfl,R2.cp e2 e3,mN _,?_⟩⟩
   rw [ME]
   refine ⟨by show 1≤sizeLine;decide,λp hp=>?_⟩
   exact q.done hs (R2.jF (f:=λc=>{ c with status:=a.2 }) e2 e3) ((gy.same (s1.trans s2)).trans (gy.jF R2 (f:=λc=>{ c with status:=a.2 }) e2 e3)) hp
  ·rw [decide_eq_false h1]
   refine gR (U rfl ⟨by show 1≤sizeLine;decide,λp hp=>?_⟩)
   refine q.ref (hs.trans ?_) R s1 hp
   unfold Kp at h1 ⊢
   split
   ·rfl
   ·split
    ·rfl
    ·split
     ·rfl
     ·split
      ·rfl
      ·rename_i c1 c2 c3 c4
       rw [if_neg c1,if_neg c2,if_neg c3,if_neg c4] at h1
       exact absurd rfl h1
 ·rw [decide_eq_false h0]
  refine gR (U rfl ⟨by show 1≤sizeLine;decide,λp hp=>?_⟩)
  refine q.ref (hs.trans ?_) R (gi.refl H) hp
  rw [uo h0]
abbrev Gk (P w K mg base) (d:Ad):=Fd P w K mg base 5 "suspend" ["house","number","n","switch"] (ML d)
theorem MN (T:Txt P w K mg d) (iV:jW P w K mg base d) (G:FG K mg "suspend" (top 81)):Gk P w K mg base d:=by
 have S:gf ["house","number","n","switch","refused","coupon","wanted"] ["house","number","n","switch"] (fS (top 81)):=lu
 refine G.fd S (λ_ _ _ _ _ _=>Vn fun _ _ _ _=>rfl) fun _ _ _ _ _ H vs Q E hr h=>⟨_,(fL (gj (i:=4) S.nd rfl (by first|exact ak rfl|exact au rfl) (fU iV (hr.mono (by decide)) rfl (fY (pv 0) (fY (pv 1) (fY (pv 2) fM))))) (fL (gJ (gg kn (pv 4) (fR T.gx) (gm _)) (fO (fW (gG (fY (pv 4) fM)))) gd) (fL (gj (i:=5) S.nd rfl (by first|exact ak rfl|exact au rfl) (gP gv (gw T.fX T.gD (oq (oi hr) (gw T.fP T.gM (pv 0)) (pv 1) (λ_ _=>rfl))) (pv 2) (λ_ _=>rfl))) (fL (gj (i:=6) S.nd rfl (by first|exact ak rfl|exact au rfl) (sO (gg iY (pv 3) gb (gm _)) (fR T.lX) (fR T.j8))) (fL (gJ (gg kn (gw T.fQ T.gc (pv 5)) (pv 6) (gm _)) (fO (fW (gG (fY (fR T.ju) fM)))) gd) (fL (iT T.fQ T.gc (pv 5) (sO (gg iY (pv 3) gb (gm _)) (fR T.j8) (fR T.lX))) (fO (fW (gG (fY (fR T.gx) fM)))))))))),?_⟩
 obtain ⟨L,s,m,n,b,rfl,R,I,q⟩:=h
 have hs:aq s (.suspend m n b)=(match aF s m n with
  |.error z=>(s,[z])
  |.ok x=>if x.2.status≠(if b=1 then (aJ.open_,aJ.suspended) else (.suspended,.open_)).1 then (s,[-9]) else (cU s (cQ x.1 n fun c=>{ c with status:=(if b=1 then (aJ.open_,aJ.suspended) else (.suspended,.open_)).2 }),[0])):=rfl
 refine (U rfl (U rfl (U rfl ⟨L,s,m,n,rfl,R,?_⟩)))
 refine (U rfl ⟨rfl,ac ?_⟩)
 rw [jY]
 by_cases h0:pP s m n=0
 ·rw [decide_eq_true h0]
  refine f7 ?_
  obtain ⟨x,hx⟩:=tM h0
  obtain ⟨i,e1,e2,e3,hr⟩:=iI hx
  rw [hx] at hs
  dsimp only at hs
  refine (U rfl ⟨_,_,_,_,rfl,R.hs,iC L s,U rfl ⟨_,_,rfl,pQ R hr e1,_,_,_,_,rfl,R.tc e2,iB L i x.1,_,rfl,_,_,(n:Int),_,rfl,rfl,gE.of (R.cl e2),kI (kM (iZ e3)),?_⟩⟩)
  refine (U rfl ⟨rfl,ac ?_⟩)
  change if decide (vN b=vN 1)=true then _ else _
  rw [kh]
  by_cases hb:b=1
  ·rw [decide_eq_true hb]
   rw [if_pos hb] at hs
   refine gR ?_
   refine (U rfl ⟨_,_,_,_,rfl,R.cp e2 e3,iy x.2,U rfl ⟨rfl,ac ?_⟩⟩)
   change if (!decide (mJ x.2.status=mJ .open_))=true then _ else _
   rw [rB]
   by_cases h1:x.2.status=.open_
   ·rw [decide_eq_true h1]
    rw [if_neg (λz=>z h1),tJ I (m:=m) e2] at hs
    refine f7 ?_
    refine (U rfl ⟨rfl,ac ?_⟩)
    change if decide (vN b=vN 1)=true then _ else _
    rw [kh,decide_eq_true hb]
    refine gR (U rfl ⟨_,_,_,rfl,R.cp e2 e3,mN _,?_⟩)
    rw [show gh "status" (V.int 9) (cf x.2)=cf { x.2 with status:=.suspended } from rfl]
    exact ⟨by show 1≤sizeLine;decide,λp hp=>q.done hs (R.jF (f:=λc=>{ c with status:=.suspended }) e2 e3) (gy.jF R (f:=λc=>{ c with status:=.suspended }) e2 e3) hp⟩
   ·rw [decide_eq_false h1]
    rw [if_pos h1] at hs
    exact gR ⟨by show 1≤sizeLine;decide,λp hp=>q.ref hs R (gi.refl H) hp⟩
  ·rw [decide_eq_false hb]
   rw [if_neg hb] at hs
   refine f7 ?_
   refine (U rfl ⟨_,_,_,_,rfl,R.cp e2 e3,iy x.2,U rfl ⟨rfl,ac ?_⟩⟩)
   change if (!decide (mJ x.2.status=mJ .suspended))=true then _ else _
   rw [rB]
   by_cases h1:x.2.status=.suspended
   ·rw [decide_eq_true h1]
    rw [if_neg (λz=>z h1),tJ I (m:=m) e2] at hs
    refine f7 ?_
    refine (U rfl ⟨rfl,ac ?_⟩)
    change if decide (vN b=vN 1)=true then _ else _
    rw [kh,decide_eq_false hb]
    refine f7 (U rfl ⟨_,_,_,rfl,R.cp e2 e3,mN _,?_⟩)
    rw [show gh "status" (V.int 0) (cf x.2)=cf { x.2 with status:=.open_ } from rfl]
    exact ⟨by show 1≤sizeLine;decide,λp hp=>q.done hs (R.jF (f:=λc=>{ c with status:=.open_ }) e2 e3) (gy.jF R (f:=λc=>{ c with status:=.open_ }) e2 e3) hp⟩
   ·rw [decide_eq_false h1]
    rw [if_pos h1] at hs
    exact gR ⟨by show 1≤sizeLine;decide,λp hp=>q.ref hs R (gi.refl H) hp⟩
 ·rw [decide_eq_false h0]
  refine gR (U rfl ⟨by show 1≤sizeLine;decide,λp hp=>?_⟩)
  refine q.ref (hs.trans ?_) R (gi.refl H) hp
  rw [uo h0]
abbrev xG (P w K mg base) (d:Ad):=Fd P w K mg base 5 "revalidate" ["house","number","n","num","day"] (DC d)
theorem DG (T:Txt P w K mg d) (iV:jW P w K mg base d) (nJ:nI P w K mg base d) (BB:qb P w K mg base d) (G:FG K mg "revalidate" (top 80)):xG P w K mg base d:=by
 have S:gf ["house","number","n","num","day","refused","ticket","coupon","moved"] ["house","number","n","num","day"] (fS (top 80)):=lu
 refine G.fd S (λ_ _ _ _ _ _=>WA fun _ _ _ _ _=>rfl) fun _ _ _ _ _ H vs Q E hr h=>⟨_,(fL (gj (i:=5) S.nd rfl (by first|exact ak rfl|exact au rfl) (fU iV (hr.mono (by decide)) rfl (fY (pv 0) (fY (pv 1) (fY (pv 2) fM))))) (fL (gJ (gg kn (pv 5) (fR T.gx) (gm _)) (fO (fW (gG (fY (pv 5) fM)))) gd) (fL (gj (i:=6) S.nd rfl (by first|exact ak rfl|exact au rfl) (oq (oi hr) (gw T.fP T.gM (pv 0)) (pv 1) (λ_ _=>rfl))) (fL (gj (i:=7) S.nd rfl (by first|exact ak rfl|exact au rfl) (gP gv (gw T.fX T.gD (pv 6)) (pv 2) (λ_ _=>rfl))) (fL (gJ (gg kn (gw T.fQ T.gc (pv 7)) (fR T.lX) (gm _)) (fO (fW (gG (fY (fR T.ju) fM)))) gd) (fL (gj (i:=8) S.nd rfl (by first|exact ak rfl|exact au rfl) (sX BB (hr.mono (by decide)) rfl (fY (gw T.fQ T.iD (pv 7)) (fY (pv 3) (fY (pv 4) (fY (gw T.fQ T.jB (pv 7)) (fY (gw T.fQ T.ke (pv 7)) (fY (gw T.fQ T.js (pv 7)) (fY (gw T.fQ T.j7 (pv 7)) fM))))))))) (fL (gJ (oT (jn (fU nJ (hr.mono (by decide)) rfl (fY (pv 0) (fY (pv 8) (fY (gw T.fX T.kf (pv 6)) fM)))))) (fO (fW (gG (fY (fR T.jT) fM)))) gd) (fL (iT T.fQ T.kN (pv 7) (pv 3)) (fL (iT T.fQ T.j6 (pv 7) (pv 4)) (fL (iT T.fQ T.jr (pv 7) mY) (fO (fW (gG (fY (fR T.gx) fM)))))))))))))),?_⟩
 obtain ⟨L,s,m,n,f,y,rfl,R,I,q⟩:=h
 have hs:aq s (.revalidate m n f y)=(match aF s m n with
  |.error z=>(s,[z])
  |.ok x=>if x.2.status≠.open_ then (s,[-9]) else if dg s x.1.last { x.2 with num:=f,day:=y }=false then (s,[-7]) else (cU s (cQ x.1 n fun c=>{ c with num:=f,day:=y,free:=false }),[0])):=rfl
 refine (U rfl (U rfl (U rfl ⟨L,s,m,n,rfl,R,?_⟩)))
 refine (U rfl ⟨rfl,ac ?_⟩)
 rw [jY]
 by_cases h0:pP s m n=0
 ·rw [decide_eq_true h0]
  refine f7 ?_
  obtain ⟨x,hx⟩:=tM h0
  obtain ⟨i,e1,e2,e3,hr⟩:=iI hx
  rw [hx] at hs
  dsimp only at hs
  have hC:=R.cp e2 e3
  refine (U rfl ⟨_,_,_,_,rfl,R.hs,iC L s,U rfl ⟨_,_,rfl,pQ R hr e1,?_⟩⟩)
  refine (U rfl ⟨_,_,_,_,rfl,R.tc e2,iB L i x.1,U rfl ⟨_,_,(n:Int),_,rfl,rfl,gE.of (R.cl e2),kI (kM (iZ e3)),?_⟩⟩)
  refine (U rfl ⟨_,_,_,_,rfl,hC,iy x.2,rfl,ac ?_⟩)
  change if (!decide (mJ x.2.status=mJ .open_))=true then _ else _
  rw [rB]
  by_cases h1:x.2.status=.open_
  ·rw [decide_eq_true h1]
   rw [if_neg (λz=>z h1)] at hs
   refine f7 ?_
   refine (U rfl ⟨_,_,_,_,rfl,hC,oX x.2,U rfl (U rfl (U rfl ⟨_,_,_,_,rfl,hC,yH x.2,U rfl ⟨_,_,_,_,rfl,hC,Ha x.2,U rfl ⟨_,_,_,_,rfl,hC,xa x.2,U rfl ⟨_,_,_,_,rfl,hC,Hb x.2,λz dz nz Ze nez=>?_⟩⟩⟩⟩))⟩)
   refine ⟨z,dz,_,_,_,_,_,_,_,rfl,fN,rfl,?_⟩
   rw [ir]
   have s1:gi H (upd (upd H dz (.own z)) z (.ins d.fQ dz (cf { carrier:=x.2.carrier,num:=f,day:=y,from_:=x.2.from_,to_:=x.2.to_,value:=x.2.value,tax:=x.2.tax,status:=.open_,free:=false }))):=iG (f9 Ze) nz
   refine (U rfl (U rfl (U rfl ⟨_,_,_,_,rfl,s1 _ _ (R.tc e2),Bl L i x.1,L,s,_,_,x.1.last,rfl,R.same s1,⟨z,dz,rfl,fN⟩,λH2 s2=>⟨_,rfl,?_⟩⟩)))
   have Hq:=s1.trans s2
   have R2:=R.same Hq
   change if (!Vbahah.issuable s x.1.last { x.2 with num:=f,day:=y })=true then _ else _
   cases hi:dg s x.1.last { x.2 with num:=f,day:=y } with
   |false=>
    rw [hi] at hs
    exact gR ⟨by show 1≤sizeLine;decide,λp hp=>q.ref hs R Hq hp⟩
   |true=>
    rw [hi] at hs
    rw [if_neg (by decide),tJ I (m:=m) e2] at hs
    refine f7 ?_
    refine (U rfl (U rfl ⟨_,_,_,rfl,R2.cp e2 e3,mN _,?_⟩))
    refine (U rfl (U rfl ⟨_,_,_,rfl,fN,(by show 9<1000;decide),?_⟩))
    refine (U rfl ⟨_,_,_,rfl,fN,(by show 9<1000;decide),?_⟩)
    rw [ir,ir]
    rw [show gh "free" (V.bl false) (gh "day" (vN y) (gh "num" (vN f) (cf x.2)))=cf { x.2 with num:=f,day:=y,free:=false } from rfl]
    exact ⟨by show 1≤sizeLine;decide,λp hp=>q.done hs (R2.jF (f:=λc=>{ c with num:=f,day:=y,free:=false }) e2 e3) ((gy.same Hq).trans (gy.jF R2 (f:=λc=>{ c with num:=f,day:=y,free:=false }) e2 e3)) hp⟩
  ·rw [decide_eq_false h1]
   rw [if_pos h1] at hs
   exact gR ⟨by show 1≤sizeLine;decide,λp hp=>q.ref hs R (gi.refl H) hp⟩
 ·rw [decide_eq_false h0]
  refine gR (U rfl ⟨by show 1≤sizeLine;decide,λp hp=>?_⟩)
  refine q.ref (hs.trans ?_) R (gi.refl H) hp
  rw [uo h0]
def iP (s:gA) (i j:Nat):Option gL:=s.tickets[i]?.bind fun t=>t.coupons[j]?
def bare (t:iF):iF:={ t with coupons:=[] }
structure Alike (s s':gA):Prop where
 tk:∀i:Nat,s.tickets[i]?.map bare=s'.tickets[i]?.map bare
 td:s.today=s'.today
 sk:s.stock=s'.stock
 cr:s.credits=s'.credits
 gn:s.gone=s'.gone
 ci:s.cashIn=s'.cashIn
 co:s.cashOut=s'.cashOut
 kp:s.kept=s'.kept
theorem Alike.refl (s:gA):Alike s s:=⟨λ_=>rfl,rfl,rfl,rfl,rfl,rfl,rfl,rfl⟩
theorem Alike.trans {s s1 s2:gA}(a:Alike s s1) (b:Alike s1 s2):Alike s s2:=
 ⟨λi=>(a.tk i).trans (b.tk i),a.td.trans b.td,a.sk.trans b.sk,a.cr.trans b.cr,a.gn.trans b.gn,a.ci.trans b.ci,a.co.trans b.co,a.kp.trans b.kp⟩
theorem Alike.symm {s s1:gA}(a:Alike s s1):Alike s1 s:=⟨λi=>(a.tk i).symm,a.td.symm,a.sk.symm,a.cr.symm,a.gn.symm,a.ci.symm,a.co.symm,a.kp.symm⟩
theorem Alike.eq {s s':gA}(a:Alike s s') (h:∀i j,iP s i j=iP s' i j):s=s':=by
 have et:s.tickets=s'.tickets:=by
  apply bR
  intro i
  have e:=a.tk i
  have h:=h i
  unfold iP at h
  cases e1:s.tickets[i]? with
  |none=>
   cases e2:s'.tickets[i]? with
   |none=>rfl
   |some t=>
    rw [e1,e2] at e
    cases e
  |some t=>
   cases e2:s'.tickets[i]? with
   |none=>
    rw [e1,e2] at e
    cases e
   |some t'=>
    rw [e1,e2] at e
    rw [e1,e2] at h
    have ec:t.coupons=t'.coupons:=bR h
    have eb:bare t=bare t':=Option.some.inj e
    obtain ⟨f,p,iss,l,c,dr,sw,cs⟩:=t
    obtain ⟨f',p',aa2,l',c',dr',sw',Vk⟩:=t'
    unfold bare at eb
    dsimp only at ec eb
    injection eb with b1 b2 b3 b4 b5 b6 b7 b8
    subst b1 b2 b3 b4 b5 b6 b7 ec
    rfl
 obtain ⟨a1,a2,a3,a4,a5,a6,a7,a8⟩:=s
 obtain ⟨c1,c2,c3,c4,c5,c6,c7,c8⟩:=s'
 have h1:=a.td
 have h2:=a.sk
 have h3:=a.cr
 have h4:=a.gn
 have h5:=a.ci
 have h6:=a.co
 have h7:=a.kp
 dsimp only at h1 h2 h3 h4 h5 h6 h7 et
 subst h1 h2 h3 h4 h5 h6 h7 et
 rfl
theorem vP (s:gA) (i j:Nat) (f:gL→gL):Alike (jF s i j f) s:=by
 refine ⟨λi'=>?_,rfl,rfl,rfl,rfl,rfl,rfl,rfl⟩
 rw [lP,cn]
 cases s.tickets[i']? with
 |none=>rfl
 |some t=>
  show some _=some _
  dsimp only [Function.comp]
  split<;>rfl
theorem BC (s:gA) (i j i' j':Nat) (f:gL→gL):iP (jF s i j f) i' j'=if i=i'∧j=j' then (iP s i' j').map f else iP s i' j':=by
 unfold iP
 rw [lP]
 cases s.tickets[i']? with
 |none=>
  show none=_
  split<;>rfl
 |some t=>
  show (if i=i' then ({ t with coupons:=t.coupons.modify j f }:iF) else t).coupons[j']?=if i=i'∧j=j' then t.coupons[j']?.map f else t.coupons[j']?
  by_cases hi:i=i'
  ·rw [if_pos hi]
   dsimp only
   rw [bT]
   by_cases hj:j=j'
   ·rw [if_pos ⟨hi,hj⟩]
    simp [hj]
   ·rw [if_neg fun z=>hj z.2]
    simp [hj]
  ·rw [if_neg hi,if_neg fun z=>hi z.1]
def jj (s:gA) (ps:List (Nat×Nat)) (f:gL→gL):gA:=ps.foldl (λs ij=>jF s ij.1 ij.2 f) s
theorem rC (s:gA) (ps:List (Nat×Nat)) (p:Nat×Nat) (f:gL→gL):jj s (ps++[p]) f=jF (jj s ps f) p.1 p.2 f:=by
 unfold jj
 rw [fA]
 rfl
theorem me (f:gL→gL):∀(ps:List (Nat×Nat)) (s:gA),Alike (jj s ps f) s
 |[],s=>Alike.refl s
 |p::r,s=>(me f r (jF s p.1 p.2 f)).trans (vP s p.1 p.2 f)
theorem oQ (f:gL→gL):∀(ps:List (Nat×Nat)) (s:gA) (i j:Nat),ps.Nodup→iP (jj s ps f) i j=if (i,j)∈ps then (iP s i j).map f else iP s i j
 |[],s,i,j,_=>rfl
 |p::r,s,i,j,hn=>by
  obtain ⟨h1,h2⟩:=bF.mp hn
  show iP (jj (jF s p.1 p.2 f) r f) i j=_
  rw [oQ f r _ i j h2,BC]
  by_cases hp:p=(i,j)
  ·subst hp
   rw [if_neg h1,if_pos ⟨rfl,rfl⟩,if_pos az]
  ·have hq:¬(p.1=i∧p.2=j):=λz=>hp (by rw [←z.1,←z.2])
   rw [if_neg hq]
   by_cases hr:(i,j)∈r
   ·rw [if_pos hr,if_pos (ag _ hr)]
   ·rw [if_neg hr,if_neg fun z=>by
     rcases aB.mp z with q|q
     ·exact hp q.symm
     ·exact hr q]
def jD (s:gA) (G:iF→Nat→gL→gL):gA:={ s with tickets:=s.tickets.map fun t=>{ t with coupons:=t.coupons.mapIdx (G t) } }
theorem rD (s:gA) (G:iF→Nat→gL→gL):Alike (jD s G) s:=by
 refine ⟨λi=>?_,rfl,rfl,rfl,rfl,rfl,rfl,rfl⟩
 show (s.tickets.map _)[i]?.map bare=_
 rw [ah,cn]
 cases s.tickets[i]?<;>rfl
theorem qN (s:gA) (G:iF→Nat→gL→gL) (i j:Nat):iP (jD s G) i j=s.tickets[i]?.bind fun t=>t.coupons[j]?.map (G t j):=by
 unfold iP jD
 rw [ah]
 cases s.tickets[i]? with
 |none=>rfl
 |some t=>
  show (t.coupons.mapIdx (G t))[j]?=_
  rw [bD]
  rfl
def Kr (p:iF→gL→Bool) (i:Nat) (t:iF):List (Nat×Nat):=((aQ t.coupons.length).filter fun j=>(t.coupons[j]?.map (p t)).getD false).map fun j=>(i,j)
def sE (s:gA) (p:iF→gL→Bool) (n:Nat):List (Nat×Nat):=(aQ n).flatMap fun i=>(s.tickets[i]?.map (Kr p i)).getD []
theorem lN {s:gA}{p:iF→gL→Bool}{n:Nat}{t:iF}(h:s.tickets[n]?=some t):sE s p (n+1)=sE s p n++Kr p n t:=by
 unfold sE
 rw [dH,cj]
 congr 1
 rw [cg,h]
 rfl
theorem AK {p:iF→gL→Bool}{i:Nat}{t:iF}{x:Nat×Nat}:x∈Kr p i t↔x.1=i∧∃c,t.coupons[x.2]?=some c∧p t c=true:=by
 unfold Kr
 rw [bB]
 constructor
 ·rintro ⟨j,hj,rfl⟩
  rw [dc] at hj
  refine ⟨rfl,?_⟩
  cases e:t.coupons[j]? with
  |none=>
   rw [e] at hj
   cases hj.2
  |some c=>
   rw [e] at hj
   exact ⟨c,rfl,hj.2⟩
 ·rintro ⟨h1,c,h2,h3⟩
  refine ⟨x.2,?_,by rw [←h1]⟩
  rw [dc,h2]
  exact ⟨aM.mpr (iZ h2),h3⟩
theorem Hr {s:gA}{p:iF→gL→Bool}{n:Nat}{x:Nat×Nat}:x∈sE s p n↔x.1<n∧∃t c,s.tickets[x.1]?=some t∧t.coupons[x.2]?=some c∧p t c=true:=by
 unfold sE
 rw [List.mem_flatMap]
 constructor
 ·rintro ⟨i,hi,hx⟩
  cases e:s.tickets[i]? with
  |none=>
   rw [e] at hx
   cases hx
  |some t=>
   rw [e] at hx
   obtain ⟨h1,c,h2,h3⟩:=AK.mp (show x∈Kr p i t from hx)
   subst h1
   exact ⟨aM.mp hi,t,c,e,h2,h3⟩
 ·rintro ⟨h1,t,c,h2,h3,h4⟩
  refine ⟨x.1,aM.mpr h1,?_⟩
  rw [h2]
  exact AK.mpr ⟨rfl,c,h3,h4⟩
theorem kF {α β:Type}{f:α→β}(hf:∀a b,f a=f b→a=b):∀{l:List α},l.Nodup→(l.map f).Nodup
 |[],_=>cN
 |a::r,h=>by
  obtain ⟨h1,h2⟩:=bF.mp h
  rw [aG,bF]
  refine ⟨λm=>?_,kF hf h2⟩
  obtain ⟨b,hb,e⟩:=bB.mp m
  rw [hf b a e] at hb
  exact h1 hb
theorem WQ (p:iF→gL→Bool) (i:Nat) (t:iF):(Kr p i t).Nodup:=by
 unfold Kr
 exact kF (λa b e=>by injection e) (fI.sublist e6 fD)
theorem vQ (s:gA) (p:iF→gL→Bool):∀n,(sE s p n).Nodup
 |0=>cN
 |n+1=>by
  cases e:s.tickets[n]? with
  |none=>
   have z:sE s p (n+1)=sE s p n:=by
    unfold sE
    rw [dH,cj,cg,e]
    exact bW _
   rw [z]
   exact vQ s p n
  |some t=>
   rw [lN e,eJ]
   refine ⟨vQ s p n,WQ p n t,λa ha b hb q=>?_⟩
   subst q
   have h1:=(Hr.mp ha).1
   have h2:=(AK.mp hb).1
   omega
theorem Ol {s:gA}{p:iF→gL→Bool}{i j:Nat}{t:iF}{c:gL}(h:s.tickets[i]?=some t) (hc:t.coupons[j]?=some c):(i,j)∈sE s p s.tickets.length↔p t c=true:=by
 rw [Hr]
 constructor
 ·rintro ⟨_,t',c',h1,h2,h3⟩
  have e:t=t':=Option.some.inj (h.symm.trans h1)
  subst e
  have e:c=c':=Option.some.inj (hc.symm.trans h2)
  subst e
  exact h3
 ·intro h3
  exact ⟨iZ h,t,c,h,hc,h3⟩
theorem rE (s:gA) (G:iF→Nat→gL→gL) (p:iF→gL→Bool) (f:gL→gL):jj (jD s G) (sE s p s.tickets.length) f=jD s fun t j c=>if p t c=true then f (G t j c) else G t j c:=by
 refine Alike.eq ((me f _ _).trans ((rD s G).trans (rD s _).symm)) fun i j=>?_
 rw [oQ f _ _ i j (vQ s p _),qN,qN]
 cases e:s.tickets[i]? with
 |none=>split<;>rfl
 |some t=>
  show (if _ then (t.coupons[j]?.map _).map f else t.coupons[j]?.map _)=t.coupons[j]?.map _
  cases e2:t.coupons[j]? with
  |none=>split<;>rfl
  |some c=>
   by_cases hp:p t c=true
   ·rw [if_pos ((Ol e e2).mpr hp)]
    show some _=some _
    dsimp only
    rw [if_pos hp]
   ·rw [if_neg fun z=>hp ((Ol e e2).mp z)]
    show some _=some _
    dsimp only
    rw [if_neg hp]
theorem Uh (s:gA):jD s (λ_ _ c=>c)=s:=by
 refine Alike.eq (rD s _) fun i j=>?_
 rw [qN]
 unfold iP
 cases s.tickets[i]? with
 |none=>rfl
 |some t=>
  show t.coupons[j]?.map _=t.coupons[j]?
  cases t.coupons[j]?<;>rfl
section
variable {d:Ad}{H:Hp}{L:Ly}{s:gA}{Q:VK}{E:XK}{K:ab}
theorem jx {i j:Nat}{c:gL}(h:iP s i j=some c):∃t,s.tickets[i]?=some t∧t.coupons[j]?=some c:=by
 unfold iP at h
 cases e:s.tickets[i]? with
 |none=>
  rw [e] at h
  cases h
 |some t=>
  rw [e] at h
  exact ⟨t,rfl,h⟩
def o5 (L:Ly) (x:Nat×Nat):V:=.ref (L.a (.cp x.1 x.2))
theorem Alike.part {s s':gA}(a:Alike s s') (hg:∀i j,(iP s i j).isSome=(iP s' i j).isSome) {n:Nm}{o:HO}(h:obj d L s n=some o):∃o',obj d L s' n=some o':=by
 have tk:∀{i:Nat} {t:iF},s.tickets[i]?=some t→∃t',s'.tickets[i]?=some t'∧bare t=bare t':=λ{i t} e=>by
  have z:=a.tk i
  rw [e] at z
  cases e2:s'.tickets[i]? with
  |none=>
   rw [e2] at z
   cases z
  |some t'=>
   rw [e2] at z
   exact ⟨t',rfl,Option.some.inj z⟩
 cases n with
 |hs=>exact ⟨_,rfl⟩
 |rg=>exact ⟨_,rfl⟩
 |tk=>exact ⟨_,rfl⟩
 |tf=>exact ⟨_,rfl⟩
 |ct=>exact ⟨_,rfl⟩
 |gn=>exact ⟨_,rfl⟩
 |rt i=>
  have h:s.stock[i]?.map _=some o:=h
  rw [a.sk] at h
  exact ⟨o,h⟩
 |tc i=>
  have h:s.tickets[i]?.map _=some o:=h
  cases e:s.tickets[i]? with
  |none=>
   rw [e] at h
   cases h
  |some t=>
   obtain ⟨t',e',_⟩:=tk e
   exact ⟨_,by show s'.tickets[i]?.map _=_;rw [e'];rfl⟩
 |cl i=>
  have h:s.tickets[i]?.map _=some o:=h
  cases e:s.tickets[i]? with
  |none=>
   rw [e] at h
   cases h
  |some t=>
   obtain ⟨t',e',_⟩:=tk e
   exact ⟨_,by show s'.tickets[i]?.map _=_;rw [e'];rfl⟩
 |dl i=>
  have h:s.tickets[i]?.map _=some o:=h
  cases e:s.tickets[i]? with
  |none=>
   rw [e] at h
   cases h
  |some t=>
   obtain ⟨t',e',_⟩:=tk e
   exact ⟨_,by show s'.tickets[i]?.map _=_;rw [e'];rfl⟩
 |cp i j=>
  have h:s.tickets[i]?.bind _=some o:=h
  have hs:(iP s i j).isSome=true:=by
   unfold iP
   cases e:s.tickets[i]? with
   |none=>
    rw [e] at h
    cases h
   |some t=>
    rw [e] at h
    have h:t.coupons[j]?.map _=some o:=h
    show t.coupons[j]?.isSome=true
    cases e2:t.coupons[j]? with
    |none=>
     rw [e2] at h
     cases h
    |some c=>rfl
  rw [hg i j] at hs
  obtain ⟨c,hc⟩:=Option.isSome_iff_exists.mp hs
  obtain ⟨t',e1,e2⟩:=jx hc
  exact ⟨_,G9 e1 e2⟩
 |dt i j=>
  have h:s.tickets[i]?.bind _=some o:=h
  cases e:s.tickets[i]? with
  |none=>
   rw [e] at h
   cases h
  |some t=>
   rw [e] at h
   have h:t.drawn[j]?.map _=some o:=h
   obtain ⟨t',e',eb⟩:=tk e
   have ed:(bare t).drawn=(bare t').drawn:=by rw [eb]
   have ed:t.drawn=t'.drawn:=ed
   rw [ed] at h
   exact ⟨o,by show s'.tickets[i]?.bind _=_;rw [e'];exact h⟩
 |cr k=>
  have h:s.credits[k]?.map _=some o:=h
  rw [a.cr] at h
  exact ⟨o,h⟩
theorem uq {k m:Nat}{a:Addr}{ps:List (Nat×Nat)}{f:gL→gL}{tb:TS}{D:Ends}{σ:L2.St}(hk:σ[k]?=some (some (.ref a))) (hm:m<σ.length) (R:Rep d H L s) (ha:H a=some (.lst (ps.map (o5 L)))) (ho:Out d L s a)
  (hp:∀x∈ps,∃c,iP s x.1 x.2=some c) (hn:ps.Nodup)
  (hb:∀(x:Nat×Nat) (c:gL) (s1:gA) (H1:Hp) (N:L2.St→Hp→Prop),x∈ps→Rep d H1 L s1→iP s1 x.1 x.2=some c→iP s x.1 x.2=some c→(∀H2,H2=upd H1 (L.a (.cp x.1 x.2)) (.ins d.fQ (L.x (.cp x.1 x.2)) (cf (f c)))→N (σ.set m (some (o5 L x))) H2)→tb { D with nx:=N,ct:=N,bk:=D.nx } (σ.set m (some (o5 L x))) H1)
  (hd:∀σ' H',(∃v,σ'=σ.set m v)→Rep d H' L (jj s ps f)→gy d H L s H' L (jj s ps f)→D.nx σ' H'):A3 (jy K (fV k)) (gr m) tb D σ H:=by
 refine ⟨_,hk,a,rfl,⟨_,gE.of ha⟩,jg (K:=K) (a:=a) (xs:=ps.map (o5 L)) (λi σ' H'=>(∃v,σ'=σ.set m v)∧Rep d H' L (jj s (ps.take i) f)∧gy d H L s H' L (jj s (ps.take i) f)) ?_ ?_ ?_ ?_⟩
 ·refine ⟨⟨σ[m],?_⟩,R,gy.same (gi.refl H)⟩
  exact (eQ hm).symm
 ·rintro i σ' H' _ ⟨_,_,kp⟩
  exact gE.of (kp a _ ha ho).1
 ·rintro i x σ' H' hx ⟨⟨v,rfl⟩,R1,k1⟩
  obtain ⟨y,hy,rfl⟩:=ji hx
  have my:=ax hy
  obtain ⟨c,hc⟩:=hp y my
  have ny:y∉ps.take i:=λz=>by
   obtain ⟨j,hj⟩:=aR z
   have Zf:=iZ hj
   rw [bp] at Zf
   rw [dC] at hj
   have Zg:j<i:=by omega
   rw [if_pos Zg] at hj
   have:=J0 hn hj hy
   omega
  have Rt:iP (jj s (ps.take i) f) y.1 y.2=some c:=by
   rw [oQ f _ s y.1 y.2 (fI.sublist (dI _ _) hn),if_neg ny]
   exact hc
  have aaA:=Rt
  obtain ⟨t1,g1,g2⟩:=jx aaA
  show tb _ ((σ.set m v).set m (some (o5 L y))) H'
  rw [ff]
  refine hb y c _ H' _ my R1 Rt hc fun H2 e2=>⟨⟨_,rfl⟩,?_,?_⟩
  ·rw [take_snoc hy,rC,e2]
   exact R1.jF g1 g2
  ·rw [take_snoc hy,rC,e2]
   exact k1.trans (gy.jF R1 g1 g2)
 ·rintro σ' H' ⟨hv,R1,k1⟩
  rw [aa,bg] at R1 k1
  exact hd σ' H' hv R1 k1
end
def qO (g:Nat×Nat×Nat) (c:gL):Bool:=bu g.1 g.2.1 g.2.2 c
def ic (g:Nat×Nat×Nat) (o6:List aJ) (c:gL):Bool:=qO g c&&o6.contains c.status
def zF (s:gA) (g:Nat×Nat×Nat):Int:=if s.gone.contains g=true then -11 else if 64≤s.gone.length then -6 else 0
def yO (d:Ad):Sp:=λvs H Q _=>∃L s g f,vs=[.ref (L.a .hs),.ref f]∧Rep d H L s∧H f=some (.tup (Gi g))∧Q (.int (zF s g)) H
def Rx (K:ab) (d:Ad):Sp:=λvs H Q _=>∃v c f st g o6,vs=[v,.ref f,.ref st]∧vK d H v c∧H f=some (.tup (Gi g))∧mZ K H st (o6.map mJ)∧∀H',gi H H'→Q (.bl (ic g o6 c)) H'
def DH (K:ab) (d:Ad):Sp:=λvs H Q _=>∃L s g f st o6,vs=[.ref (L.a .hs),.ref f,.ref st]∧Rep d H L s∧gN s∧H f=some (.tup (Gi g))∧mZ K H st (o6.map mJ)∧
 ∀H' p,gi H H'→H p=Option.none→H' p=some (.lst ((sE s (λ_ c=>ic g o6 c) s.tickets.length).map (o5 L)))→Q (.ref p) H'
def ly (g:Nat×Nat×Nat) (o6:List aJ) (t:iF) (j:Nat) (c:gL):gL:=
 if ic g o6 c=true then c else if ((t.coupons.take j).any (ic g o6)&&(decide (c.status=.checked)&&!qO g c))=true then { c with status:=.controlled } else c
def yP (d:Ad):Sp:=λvs H Q _=>∃L s g f st o6,vs=[.ref (L.a .hs),.ref f,.ref st]∧Rep d H L s∧gN s∧H f=some (.tup (Gi g))∧H st=some (.tup (o6.map mJ))∧Out d L s f∧Out d L s st∧
 ∀H',Rep d H' L (jD s (ly g o6))→gy d H L s H' L (jD s (ly g o6))→Q .mH H'
abbrev nL (P w K mg base) (d:Ad):=Fd P w K mg base 1 "leave_refusal" ["house","flight"] (yO d)
theorem yQ (T:Txt P w K mg d) (G:FG K mg "leave_refusal" (top 86)):nL P w K mg base d:=by
 have S:gf ["house","flight"] ["house","flight"] (fS (top 86)):=lu
 refine G.fd S (λ_ _ _ _ _ _=>MI fun _ _=>rfl) fun _ _ _ _ _ H vs Q E hr h=>⟨_,(fL (gJ (L3 (QM (oi hr) (pv 1) (gw T.fP T.jt (pv 0))) (by with_unfolding_all rfl)) (fO (fW (fR T.lM))) gd) (fL (gJ (gg FK (gp OX rfl T.jb aI (fY (gw T.fP T.jt (pv 0)) fM)) (fR T.pN) (gm _)) (fO (fW (fR T.jK))) gd) (fO (fW (fR T.gx))))),?_⟩
 obtain ⟨L,s,g,f,rfl,R,hf,q⟩:=h
 unfold zF at q
 refine (U rfl (U rfl ⟨_,_,_,_,rfl,R.hs,qJ L s,_,_,rfl,sD.t (k:=N9 g) R.gn hf,_,rfl,?_⟩))
 rw [xE]
 refine qG (λh=>?_) (λh=>?_)
 ·rw [if_pos h] at q
  exact q
 ·rw [if_neg h] at q
  refine (U rfl ⟨_,_,_,_,rfl,R.hs,qJ L s,_,_,rfl,R.gn,_,_,rfl,rfl,_,rfl,qG (λh2=>?_) (λh2=>?_)⟩)
  ·have h2:=of_decide_eq_true h2
   unfold uw at h2
   rw [aa] at h2
   rw [if_pos (by omega)] at q
   exact q
  ·have h2:=of_decide_eq_false (bH.mpr h2)
   unfold uw at h2
   rw [aa] at h2
   rw [if_neg (by omega)] at q
   exact q
theorem WR (x y:aJ):Tv (mJ y) (mJ x)=(x==y):=by cases x<;>cases y<;>rfl
theorem WS (x:aJ) (o6:List aJ):LR (mJ x) (o6.map mJ)=o6.contains x:=by
 unfold LR
 rw [fe,dW]
 congr 1
 funext y
 exact WR x y
theorem Ui (o6:List aJ):(o6.map mJ).all uX=true:=by
 rw [aL]
 intro v m
 obtain ⟨z,_,rfl⟩:=bB.mp m
 rfl
theorem Gm {H:Hp}{a:Addr}{g:Nat×Nat×Nat}(h:H a=some (.tup (Gi g))):Dp K H (.ref a) (.tuple [.int (g.1:Int),.int (g.2.1:Int),.int (g.2.2:Int)]):=
 .tup (mZ.of h) (.cons (.int _) (.cons (.int _) (.cons (.int _) .nil)))
theorem Hs (a b:Nat):((a:Int)==(b:Int))=(a==b):=by
 by_cases h:a=b
 ·subst h
  simp
 ·have h2:¬(a:Int)=(b:Int):=by omega
  rw [beq_false_of_ne h2,beq_false_of_ne h]
theorem MO (c:gL) (g:Nat×Nat×Nat):PyData.eqv (.tuple [.int (c.carrier:Int),.int (c.num:Int),.int (c.day:Int)]) (.tuple [.int (g.1:Int),.int (g.2.1:Int),.int (g.2.2:Int)])=qO g c:=by
 unfold qO bu
 rw [←Hs,←Hs,←Hs]
 simp only [PyData.eqv,PyData.eqvAll,aY]
theorem oR (a b c:Int):SeqAt.shaped (.tuple [.int a,.int b,.int c])=true:=rfl
abbrev Ht (P w K mg base) (d:Ad):=Fd P w K mg base 2 "is_on" ["coupon","flight","statuses"] (Rx K d)
theorem Ry (T:Txt P w K mg d) (iE:jG P w K mg base d) (G:FG K mg "is_on" (top 88)):Ht P w K mg base d:=by
 have S:gf ["coupon","flight","statuses"] ["coupon","flight","statuses"] (fS (top 88)):=lu
 refine G.fd S (λ_ _ _ _ _ _=>Pg fun _ _ _=>rfl) fun _ _ _ _ _ H vs Q E hr h=>⟨_,(fO (fW (yx (jO (QJ hr.units) (kC T.fQ iE (hr.mono (by decide)) (pv 0)) (pv 1) (gm _)) (sN (jO qD (gw T.fQ T.gc (pv 0)) (pv 2) (by with_unfolding_all rfl)))))),?_⟩
 obtain ⟨v,c,f,st,g,o6,rfl,⟨a,dx,rfl,ha⟩,hf,hs,q⟩:=h
 unfold ic at q
 refine (U rfl ⟨a,dx,_,rfl,ha,(ve c).2.1,_,c,rfl,⟨a,dx,rfl,ha⟩,λp hp=>?_⟩)
 have sp:=f9 (o:=HO.tup (Gi (Rj c))) hp
 refine (U rfl ⟨_,_,Gm (g:=Rj c) fN,Gm (sp _ _ hf),oR _ _ _,oR _ _ _,_,rfl,?_⟩)
 rw [MO]
 refine qG (λh=>?_) (λh=>?_)
 ·rw [h,br] at q
  refine (U rfl ⟨a,dx,_,_,rfl,sp _ _ ha,iy c,U rfl ⟨st,_,rfl,.inr (gi.WB sp hs),rfl,Ui o6,?_⟩⟩)
  have q2:=q _ sp
  rw [←WS] at q2
  exact q2
 ·rw [bH.mpr h,dw] at q
  exact q _ sp
theorem WT (L:Ly) (p:iF→gL→Bool) (i:Nat) (t:iF):(Kr p i t).map (o5 L)=(((aQ t.coupons.length).map fun j=>if (t.coupons[j]?.map (p t)).getD false=true then some (V.ref (L.a (.cp i j))) else none).filterMap id):=by
 unfold Kr
 rw [fi,fq]
 induction aQ t.coupons.length with
 |nil=>rfl
 |cons j r ih=>
  rw [cc,bj]
  by_cases h:(t.coupons[j]?.map (p t)).getD false=true
  ·rw [if_pos h,aG,ih]
   dsimp only [Function.comp,id]
   rw [if_pos h]
   rfl
  ·rw [if_neg h,ih]
   dsimp only [Function.comp,id]
   rw [if_neg h]
theorem BD {s:gA}(I:gN s) (p:iF→gL→Bool):∀n,n≤s.tickets.length→(sE s p n).length≤4 * n
 |0,_=>ai _
 |n+1,hn=>by
  obtain ⟨t,ht⟩:=gu (l:=s.tickets) (i:=n) (by omega)
  rw [lN ht,ay]
  have ih:=BD I p n (by omega)
  have h4:=(I.cps t (ax ht)).2
  have:(Kr p n t).length≤t.coupons.length:=by
   unfold Kr
   rw [aa]
   exact bh (da _ _) (by rw [dM];exact ai _)
  omega
theorem Ks {k:Nat}{tt:TT}{σ:L2.St}{H:Hp}{L:Ly}{s:gA}{i:Nat}{t:iF}{p:iF→gL→Bool}(R:Rep d H L s) (I:gN s) (ht:s.tickets[i]?=some t) (hk:k<σ.length)
  (hs:∀(x:V) (c:gL) (H2:Hp) (Qb:Bool→Hp→Prop),vK d H2 x c→gi H H2→(∀H3,gi H2 H3→Qb (p t c) H3)→tt ((wipe σ [k]).set k (some x)) H2 Qb)
  {Qd:Hp→Prop}{D:Addr}(hD:H D=Option.none) (hd:∀H',gi H H'→H' D=some (.lst ((Kr p i t).map (o5 L)))→Qd H') :
  ∃W:Nat→Nat→Hp→Prop,(∃m,W 0 m (upd H D (.lst [])))∧∀n m H,W n m H→
   ((sQ K (L.a (.cl i))).stop n H∧Qd H)∨((sQ K (L.a (.cl i))).go n H∧∃Nx:Hp→Prop,(∀H',Nx H'→∃m',m'<m∧W (n+1) m' H')∧∀x H',(sQ K (L.a (.cl i))).A0 n H x H'→gr k x (wipe σ [k]) H' fun σ2 H2=>wipe σ2 [k]=wipe σ [k]∧tt σ2 H2 fun b H3=>
    if b=true then fV k σ2 H3 fun y H4=>∃acc,H4 D=some (.lst acc)∧acc.length<sizeLine∧Nx (upd H4 D (.lst (acc++[y]))) else Nx H3):=by
 have h4:=(I.cps t (ax ht)).2
 have s4:4≤sizeLine:=by decide
 rw [WT] at hd
 refine lcF (gE.of (R.cl ht)) (by rw [gH];omega) (by rw [aa,dM,gH]) (λj x z H2 Qz hx hz h2 kk=>?_) hD hd
 obtain ⟨hj,rfl⟩:=iQ hx
 obtain ⟨c,hc⟩:=gu (l:=t.coupons) (i:=j) hj
 have hz:(if (t.coupons[j]?.map (p t)).getD false=true then some (V.ref (L.a (.cp i j))) else none)=z:=by
  rw [ah,dv hj] at hz
  exact Option.some.inj hz
 rw [hc] at hz
 have hz:(if p t c=true then some (V.ref (L.a (.cp i j))) else none)=z:=hz
 refine hs _ c H2 _ ⟨_,_,rfl,h2 _ _ (R.cp ht hc)⟩ h2 fun H3 h3=>?_
 refine qG (λhp=>?_) (λhp=>?_)
 ·rw [if_pos hp] at hz
  subst hz
  refine ⟨.ref (L.a (.cp i j)),?_,kk H3 h3⟩
  exact cv (by rw [l9];exact hk)
 ·rw [if_neg hp] at hz
  subst hz
  exact kk H3 h3
abbrev rF (P w K mg base) (d:Ad):=Fd P w K mg base 3 "coupons_on" ["house","flight","statuses"] (DH K d)
theorem DI (T:Txt P w K mg d) (Hu:Ht P w K mg base d) (G:FG K mg "coupons_on" (top 87)):rF P w K mg base d:=by
 have S:gf ["house","flight","statuses","found","ticket","coupon"] ["house","flight","statuses"] (fS (top 87)):=lu
 refine G.fd S (λ_ _ _ _ _ _=>Pg fun _ _ _=>rfl) fun _ _ _ _ _ H vs Q E hr h=>⟨_,(fL (gj (i:=3) S.nd rfl (by first|exact ak rfl|exact au rfl) (gG fM)) (fL (jz PassesOwn.never rfl (gC (gw T.fP T.gW (pv 0))) (gk (i:=4) S.nd rfl (by first|exact ak rfl|exact au rfl)) (fO (jo (oU aP bY bZ mM (pv 3) (fY (ko rfl S.nd (gC (gw T.fX T.gD (pv 4))) (gS (own:=[("coupon",5)]) (by show kX ["house","flight","statuses","found","ticket","coupon"] (fS (top 87)) _ _=true;decide +kernel)) (λ_ _ _ _ _=>(gk (i:=5) S.nd rfl (by first|exact ak rfl|exact au rfl))) (λ_ _ _ _ _=>(pJ (jn (fU Hu (hr.mono (by decide)) rfl (fY (pv 5) (fY (pv 1) (fY (pv 2) fM))))))) (λ_ _ _ _ _=>(pv 5))) fM))))) (fO (fW (pv 3))))),?_⟩
 obtain ⟨L,s,g,f,st,o6,rfl,R,I,hf,hs,q⟩:=h
 have Zh:256≤sizeLine:=by decide
 refine ⟨aK _,λp hp=>?_⟩
 have sp:=f9 (o:=HO.lst []) hp
 refine ⟨_,rfl,_,_,_,_,rfl,sp _ _ R.hs,i7 L s,_,rfl,⟨_,gE.of (sp _ _ R.tk)⟩,jg (K:=K) (a:=L.a .tk) (xs:=refs L s.tickets.length .tc) (λi σ H'=>∃v4 v5:Option V,σ=[some (.ref (L.a .hs)),some (.ref f),some (.ref st),some (.ref p),v4,v5]∧gi H H'∧
  H' p=some (.lst ((sE s (λ_ c=>ic g o6 c) i).map (o5 L)))) ⟨none,none,rfl,sp,fN⟩ (λi σ H' _ ⟨_,_,_,s1,_⟩=>gE.of (s1 _ _ R.tk)) ?_ ?_⟩
 ·rintro i x σ H' hx ⟨v4,v5,rfl,s1,pG⟩
  obtain ⟨hi,rfl⟩:=iQ hx
  obtain ⟨t,ht⟩:=gu hi
  have R1:=R.same s1
  refine (U rfl ⟨.inl ⟨rfl,_,gE.of pG⟩,_,rfl,_,_,_,_,rfl,R1.tc ht,iB L i t,_,rfl,⟨_,gE.of (R1.cl ht)⟩,λD hD=>Ks (p:=λ_ c=>ic g o6 c) R1 I ht (by show 5<6;decide) (λx c H2 Qb hc h2 kk=>?_) hD fun H2 s2 LU=>?_⟩)
  ·exact (U rfl (U rfl (U rfl ⟨x,c,f,st,g,o6,rfl,hc,h2 _ _ (s1 _ _ hf),gi.WB (s1.trans h2) hs,λH3 h3=>⟨_,rfl,kk H3 h3⟩⟩)))
  ·have np:p≠D:=f6 pG hD
   have Qg:=BD I (λ_ c=>ic g o6 c) (i+1) hi
   rw [lN ht,ay] at Qg
   have h64:=I.AB
   refine ⟨p,D,_,_,rfl,rfl,s2 _ _ pG,LU,by rw [aa,aa];omega,?_⟩
   refine ⟨_,_,rfl,iG (s1.trans s2) hp,?_⟩
   rw [fN,lN ht,bP]
 ·rintro σ H' ⟨v4,v5,rfl,s1,pG⟩
  rw [gH] at pG
  exact (U rfl (q H' p s1 hp pG))
def part (s:gA) (G:iF→Nat→gL→gL) (i j:Nat):gA:={ s with tickets:=s.tickets.mapIdx fun i' t=>{ t with coupons:=t.coupons.mapIdx fun j' c=>if i'<i∨i'=i∧j'<j then G t j' c else c } }
theorem mO (s:gA) (G:iF→Nat→gL→gL) (i j:Nat):Alike (part s G i j) s:=by
 refine ⟨λm=>?_,rfl,rfl,rfl,rfl,rfl,rfl,rfl⟩
 show (s.tickets.mapIdx _)[m]?.map bare=_
 rw [bD,cn]
 cases s.tickets[m]?<;>rfl
theorem o7 (s:gA) (G:iF→Nat→gL→gL) (i j m n:Nat):iP (part s G i j) m n=s.tickets[m]?.bind fun t=>t.coupons[n]?.map fun c=>if m<i∨m=i∧n<j then G t n c else c:=by
 unfold iP part
 rw [bD]
 cases s.tickets[m]? with
 |none=>rfl
 |some t=>
  show (t.coupons.mapIdx _)[n]?=_
  rw [bD]
  rfl
theorem BE (s:gA) (G:iF→Nat→gL→gL):part s G 0 0=s:=by
 refine Alike.eq (mO s G 0 0) fun m n=>?_
 rw [o7]
 unfold iP
 cases s.tickets[m]? with
 |none=>rfl
 |some t=>
  show t.coupons[n]?.map _=t.coupons[n]?
  cases t.coupons[n]? with
  |none=>rfl
  |some c=>
   show some _=some _
   try dsimp only
   rw [if_neg (by omega)]
theorem Rz (s:gA) (G:iF→Nat→gL→gL):part s G s.tickets.length 0=jD s G:=by
 refine Alike.eq ((mO s G _ 0).trans (rD s G).symm) fun m n=>?_
 rw [o7,qN]
 cases e:s.tickets[m]? with
 |none=>rfl
 |some t=>
  show t.coupons[n]?.map _=t.coupons[n]?.map _
  cases t.coupons[n]? with
  |none=>rfl
  |some c=>
   show some _=some _
   try dsimp only
   rw [if_pos (ak (iZ e))]
theorem Pk {s:gA}{G:iF→Nat→gL→gL}{i:Nat}{t:iF}(h:s.tickets[i]?=some t):part s G i t.coupons.length=part s G (i+1) 0:=by
 refine Alike.eq ((mO s G _ _).trans (mO s G _ _).symm) fun m n=>?_
 rw [o7,o7]
 cases e:s.tickets[m]? with
 |none=>rfl
 |some u=>
  show u.coupons[n]?.map _=u.coupons[n]?.map _
  cases e2:u.coupons[n]? with
  |none=>rfl
  |some c=>
   show some _=some _
   try dsimp only
   by_cases hm:m=i
   ·subst hm
    have eu:u=t:=Option.some.inj (e.symm.trans h)
    subst eu
    rw [if_pos (au ⟨rfl,iZ e2⟩),if_pos (ak (by omega))]
   ·by_cases hl:m<i
    ·rw [if_pos (ak hl),if_pos (ak (by omega))]
    ·rw [if_neg (by omega),if_neg (by omega)]
theorem Gn {s:gA}{G:iF→Nat→gL→gL}{i j:Nat}{t:iF}{c:gL}(h:s.tickets[i]?=some t) (hc:t.coupons[j]?=some c) (f:gL→gL) (hf:f c=G t j c):part s G i (j+1)=jF (part s G i j) i j f:=by
 refine Alike.eq ((mO s G _ _).trans ((mO s G _ _).symm.trans (vP _ _ _ _).symm)) fun m n=>?_
 rw [BC,o7,o7]
 cases e:s.tickets[m]? with
 |none=>
  by_cases z:i=m∧j=n
  ·rw [if_pos z]
   rfl
  ·rw [if_neg z]
   rfl
 |some u=>
  show u.coupons[n]?.map _=if _ then (u.coupons[n]?.map _).map f else u.coupons[n]?.map _
  cases e2:u.coupons[n]? with
  |none=>
   by_cases z:i=m∧j=n
   ·rw [if_pos z]
    rfl
   ·rw [if_neg z]
    rfl
  |some c'=>
   by_cases hm:i=m∧j=n
   ·obtain ⟨rfl,rfl⟩:=hm
    rw [if_pos ⟨rfl,rfl⟩]
    show some _=some _
    try dsimp only
    have eu:u=t:=Option.some.inj (e.symm.trans h)
    subst eu
    have ec:c'=c:=Option.some.inj (e2.symm.trans hc)
    subst ec
    rw [if_pos (by omega),if_neg (by omega),hf]
   ·rw [if_neg hm]
    show some _=some _
    try dsimp only
    by_cases z:m<i∨m=i∧n<j
    ·rw [if_pos z,if_pos (by omega)]
    ·rw [if_neg z,if_neg (by omega)]
theorem Gp {s:gA}{G:iF→Nat→gL→gL}{i j:Nat}{t:iF}{c:gL}(h:s.tickets[i]?=some t) (hc:t.coupons[j]?=some c) (hf:G t j c=c):part s G i (j+1)=part s G i j:=by
 rw [Gn h hc id hf.symm]
 refine Alike.eq (vP _ _ _ _) fun m n=>?_
 rw [BC]
 split
 ·cases iP (part s G i j) m n<;>rfl
 ·rfl
theorem Uj {s:gA}{G:iF→Nat→gL→gL}{i j:Nat}{t:iF}{c:gL}(h:s.tickets[i]?=some t) (hc:t.coupons[j]?=some c):iP (part s G i j) i j=some c:=by
 rw [o7,h]
 show t.coupons[j]?.map _=_
 rw [hc]
 show some _=some _
 try dsimp only
 rw [if_neg (by omega)]
theorem Om {s:gA}{G:iF→Nat→gL→gL}{i j m:Nat}{t:iF}(h:s.tickets[m]?=some t):∃t',(part s G i j).tickets[m]?=some t'∧t'.coupons.length=t.coupons.length∧bare t'=bare t:=by
 refine ⟨{ t with coupons:=t.coupons.mapIdx fun j' c=>if m<i∨m=i∧j'<j then G t j' c else c },by show (s.tickets.mapIdx _)[m]?=_;rw [bD,h];rfl,?_,rfl⟩
 dsimp only
 rw [dF]
theorem RA {α:Type}{l:List α}{j:Nat}{c:α}(h:l[j]?=some c) (f:α→Bool):(l.take (j+1)).any f=((l.take j).any f||f c):=by
 rw [take_snoc h,List.any_append]
 simp
abbrev nM (P w K mg base) (d:Ad):=Fd P w K mg base 3 "release_later" ["house","flight","statuses"] (yP d)
theorem yR (T:Txt P w K mg d) (Hu:Ht P w K mg base d) (iE:jG P w K mg base d) (G:FG K mg "release_later" (top 89)):nM P w K mg base d:=by
 have S:gf ["house","flight","statuses","ticket","behind","coupon"] ["house","flight","statuses"] (fS (top 89)):=lu
 refine G.fd S (λ_ _ _ _ _ _=>Pg fun _ _ _=>rfl) fun _ _ _ _ _ H vs Q E hr h=>⟨_,(fO (jz PassesOwn.never rfl (gC (gw T.fP T.gW (pv 0))) (gk (i:=3) S.nd rfl (by first|exact ak rfl|exact au rfl)) (fL (gj (i:=4) S.nd rfl (by first|exact ak rfl|exact au rfl) mY) (fO (jz PassesOwn.never rfl (gC (gw T.fX T.gD (pv 3))) (gk (i:=5) S.nd rfl (by first|exact ak rfl|exact au rfl)) (fO (gJ (jn (fU Hu (hr.mono (by decide)) rfl (fY (pv 5) (fY (pv 1) (fY (pv 2) fM))))) (fO (gj (i:=4) S.nd rfl (by first|exact ak rfl|exact au rfl) mY)) (fO (gJ (PW.pt (AX (jn (pv 4)) (AX (gg iY (gw T.fQ T.gc (pv 5)) (fR T.iz) (gm _)) (Ax (gg (V4 hr.units) (kC T.fQ iE (hr.mono (by decide)) (pv 5)) (pv 1) (gm _)))))) (fO (iT T.fQ T.gc (pv 5) (fR T.iO))) gd))))))))),?_⟩
 obtain ⟨L,s,g,f,st,o6,rfl,R,I,hf,hs,of,os,q⟩:=h
 refine ⟨_,rfl,_,_,_,_,rfl,R.hs,i7 L s,_,rfl,⟨_,gE.of R.tk⟩,jg (K:=K) (a:=L.a .tk) (xs:=refs L s.tickets.length .tc) (λi σ H'=>∃v3 v4 v5:Option V,σ=[some (.ref (L.a .hs)),some (.ref f),some (.ref st),v3,v4,v5]∧
  Rep d H' L (part s (ly g o6) i 0)∧gy d H L s H' L (part s (ly g o6) i 0)) ⟨none,none,none,rfl,by rw [BE];exact R,by rw [BE];exact gy.same (gi.refl H)⟩ ?_ ?_ ?_⟩
 ·rintro i σ H' hi ⟨_,_,_,_,R1,_⟩
  have:=R1.tk
  unfold part at this
  dsimp only at this
  rw [dF] at this
  exact gE.of this
 ·rintro i x σ H' hx ⟨v3,v4,v5,rfl,R1,k1⟩
  obtain ⟨hi,rfl⟩:=iQ hx
  obtain ⟨t,ht⟩:=gu hi
  obtain ⟨t1,ht1,Qg,hb1⟩:=Om (G:=ly g o6) (i:=i) (j:=0) ht
  have FT:H' (L.a (.cl i))=some (.lst (refs L t.coupons.length (.cp i))):=by rw [←Qg];exact R1.cl ht1
  have n1:L.a .hs=L.a .hs:=rfl
  refine ⟨_,rfl,_,_,_,_,rfl,R1.tc ht1,iB L i t1,_,rfl,⟨_,gE.of FT⟩,jg (K:=K) (a:=L.a (.cl i)) (xs:=refs L t.coupons.length (.cp i)) (λj σ H'=>∃v5:Option V,σ=[some (.ref (L.a .hs)),some (.ref f),some (.ref st),some (.ref (L.a (.tc i))),some (.bl ((t.coupons.take j).any (ic g o6))),v5]∧
   Rep d H' L (part s (ly g o6) i j)∧gy d H L s H' L (part s (ly g o6) i j)) ⟨v5,rfl,R1,k1⟩ ?_ ?_ ?_⟩
  ·rintro j σ H2 hj ⟨_,_,R2,_⟩
   obtain ⟨t2,X7,V0,_⟩:=Om (G:=ly g o6) (i:=i) (j:=j) ht
   have:=R2.cl X7
   rw [V0] at this
   exact gE.of this
  ·rintro j x σ H2 hx2 ⟨v5',rfl,R2,k2⟩
   obtain ⟨hj,rfl⟩:=iQ hx2
   obtain ⟨c,hc⟩:=gu hj
   obtain ⟨t2,g1,g2⟩:=jx (Uj (G:=ly g o6) ht hc)
   have hC:=R2.cp g1 g2
   have Qj:=(k2 _ _ hf of).1
   have S6:=mZ.of (K:=K) (k2 _ _ hs os).1
   have ea:=RA hc (ic g o6)
   refine (U rfl (U rfl (U rfl ⟨_,c,f,st,g,o6,rfl,⟨_,_,rfl,hC⟩,Qj,S6,λH3 s3=>⟨_,rfl,qG (λhb=>?_) (λhb=>?_)⟩⟩)))
   ·have e:ly g o6 t j c=c:=by
     unfold ly
     rw [if_pos hb]
    refine ⟨some (.ref (L.a (.cp i j))),?_,?_⟩
    ·rw [ea,hb,Bool.or_true]
     rfl
    ·rw [Gp ht hc e]
     exact ⟨R2.same s3,k2.trans (gy.same s3)⟩
   ·have hb:ic g o6 c=false:=bH.mpr hb
    have ea2:(t.coupons.take (j+1)).any (ic g o6)=(t.coupons.take j).any (ic g o6):=by rw [ea,hb,Bool.or_false]
    have same:∀H5,gi H2 H5→ly g o6 t j c=c→∃v5:Option V,[some (V.ref (L.a .hs)),some (.ref f),some (.ref st),some (.ref (L.a (.tc i))),some (.bl ((t.coupons.take j).any (ic g o6))),some (.ref (L.a (.cp i j)))]=[some (V.ref (L.a .hs)),some (.ref f),some (.ref st),some (.ref (L.a (.tc i))),some (.bl ((t.coupons.take (j+1)).any (ic g o6))),v5]∧
      Rep d H5 L (part s (ly g o6) i (j+1))∧gy d H L s H5 L (part s (ly g o6) i (j+1)):=λH5 s5 e=>by
     refine ⟨some (.ref (L.a (.cp i j))),by rw [ea2],?_⟩
     rw [Gp ht hc e]
     exact ⟨R2.same s5,k2.trans (gy.same s5)⟩
    refine ⟨_,rfl,_,rfl,qG (λh1=>?_) (λh1=>?_)⟩
    ·refine (U rfl ⟨_,_,_,_,rfl,s3 _ _ hC,iy c,rfl,ac ?_⟩)
     change if decide (mJ c.status=mJ .checked)=true then _ else _
     rw [rB]
     by_cases h2:c.status=.checked
     ·rw [decide_eq_true h2]
      refine gR (U rfl ⟨_,_,_,rfl,s3 _ _ hC,(ve c).2.1,_,c,rfl,⟨_,_,rfl,s3 _ _ hC⟩,λp hp=>?_⟩)
      have sp:=f9 (o:=HO.tup (Gi (Rj c))) hp
      refine (U rfl ⟨_,_,Gm (g:=Rj c) fN,Gm (sp _ _ (s3 _ _ Qj)),oR _ _ _,oR _ _ _,_,rfl,?_⟩)
      rw [MO]
      refine qG (λh3=>?_) (λh3=>?_)
      ·have e:ly g o6 t j c={ c with status:=.controlled }:=by
        unfold ly
        rw [if_neg (by rw [hb];decide),if_pos]
        rw [h1,h3,decide_eq_true h2]
        rfl
       have LV:=s3.trans sp
       refine (U rfl ⟨_,_,_,rfl,LV _ _ hC,mN c,?_⟩)
       refine ⟨some (.ref (L.a (.cp i j))),by rw [ea2];rfl,?_⟩
       rw [show gh "status" (V.int 1) (cf c)=cf { c with status:=.controlled } from rfl,Gn ht hc (λc=>{ c with status:=.controlled }) e.symm]
       exact ⟨(R2.same LV).jF (f:=λc=>{ c with status:=.controlled }) g1 g2,(k2.trans (gy.same LV)).trans (gy.jF (R2.same LV) (f:=λc=>{ c with status:=.controlled }) g1 g2)⟩
      ·refine same _ (s3.trans sp) ?_
       unfold ly
       have h3:qO g c=true:=by simpa using h3
       rw [if_neg (by rw [hb];decide),if_neg]
       rw [h3]
       simp
     ·rw [decide_eq_false h2]
      refine f7 ?_
      refine f7 (same _ s3 ?_)
      unfold ly
      rw [if_neg (by rw [hb];decide),if_neg]
      rw [decide_eq_false h2]
      simp
    ·refine f7 (same _ s3 ?_)
     unfold ly
     rw [if_neg (by rw [hb];decide),if_neg]
     rw [bH.mpr h1]
     simp
  ·rintro σ H2 ⟨v5',rfl,R2,k2⟩
   rw [gH,Pk ht] at R2 k2
   exact ⟨_,_,_,rfl,R2,k2⟩
 ·rintro σ H2 ⟨v3,v4,v5,rfl,R2,k2⟩
  rw [gH,Rz] at R2 k2
  exact q H2 R2 k2
def Dm (s:gA) (ps:List (Nat×Nat)):List gL:=ps.filterMap fun x=>iP s x.1 x.2
theorem BF {s:gA}{x:Nat×Nat}{r:List (Nat×Nat)}{c:gL}(h:iP s x.1 x.2=some c):Dm s (x::r)=c::Dm s r:=by
 unfold Dm
 rw [bj,h]
theorem pR {s:gA}:∀{ps:List (Nat×Nat)},(∀x∈ps,∃c,iP s x.1 x.2=some c)→(Dm s ps).length=ps.length
 |[],_=>rfl
 |x::r,h=>by
  obtain ⟨c,hc⟩:=h x az
  rw [BF hc,aw,aw,pR fun y hy=>h y (ag _ hy)]
theorem tN {d:Ad}{H:Hp}{L:Ly}{s:gA}(R:Rep d H L s):∀{ps:List (Nat×Nat)},(∀x∈ps,∃c,iP s x.1 x.2=some c)→Hm d H (ps.map (o5 L)) (Dm s ps)
 |[],_=>.nil
 |x::r,h=>by
  obtain ⟨c,hc⟩:=h x az
  obtain ⟨t,g1,g2⟩:=jx hc
  rw [BF hc,aG]
  exact .cons ⟨_,_,rfl,R.cp g1 g2⟩ (tN R fun y hy=>h y (ag _ hy))
theorem AL {β:Type}{s s':gA}{f:gL→β}:∀{ps:List (Nat×Nat)},(∀x∈ps,(iP s' x.1 x.2).map f=(iP s x.1 x.2).map f)→(Dm s' ps).map f=(Dm s ps).map f
 |[],_=>rfl
 |x::r,h=>by
  have hx:=h x az
  have ih:=AL (s:=s) (s':=s') (f:=f) (ps:=r) fun y hy=>h y (ag _ hy)
  unfold Dm at ih ⊢
  rw [bj,bj]
  cases e1:iP s' x.1 x.2 with
  |none=>
   cases e2:iP s x.1 x.2 with
   |none=>exact ih
   |some c=>
    rw [e1,e2] at hx
    cases hx
  |some c'=>
   cases e2:iP s x.1 x.2 with
   |none=>
    rw [e1,e2] at hx
    cases hx
   |some c=>
    rw [e1,e2] at hx
    have hx:f c'=f c:=Option.some.inj hx
    show f c'::_=f c::_
    rw [hx]
    congr 1
theorem vR {α:Type}(l:List α) (p:α→Bool):∀n,n≤l.length→((aQ n).filter fun j=>(l[j]?.map p).getD false).filterMap (λj=>l[j]?)=(l.take n).filter p
 |0,_=>rfl
 |n+1,h=>by
  obtain ⟨x,hx⟩:=gu (l:=l) (i:=n) (by omega)
  rw [dH,dE,eP,vR l p n (by omega),take_snoc hx,dE]
  congr 1
  rw [cc,cc,hx]
  show (if p x=true then _ else _:List Nat).filterMap _=_
  cases p x with
  |true=>
   show [n].filterMap (λj=>l[j]?)=[x]
   rw [bj,hx]
   rfl
  |false=>rfl
theorem WU {s:gA}{p:iF→gL→Bool}{i:Nat}{t:iF}(h:s.tickets[i]?=some t):Dm s (Kr p i t)=t.coupons.filter (p t):=by
 unfold Dm Kr
 rw [fq]
 have e:=vR t.coupons (p t) t.coupons.length (ai _)
 rw [bg] at e
 rw [←e]
 congr 1
 funext j
 show iP s i j=_
 unfold iP
 rw [h]
 rfl
theorem RB {s:gA}{p:iF→gL→Bool}:∀n,n≤s.tickets.length→Dm s (sE s p n)=(s.tickets.take n).flatMap fun t=>t.coupons.filter (p t)
 |0,_=>rfl
 |n+1,h=>by
  obtain ⟨t,ht⟩:=gu (l:=s.tickets) (i:=n) (by omega)
  rw [lN ht,take_snoc ht,cj,←RB n (by omega),cg,←WU ht]
  unfold Dm
  rw [eP]
theorem Kt (s:gA) (p:iF→gL→Bool):Dm s (sE s p s.tickets.length)=s.tickets.flatMap fun t=>t.coupons.filter (p t):=by
 have e:=RB (s:=s) (p:=p) s.tickets.length (ai _)
 rw [bg] at e
 exact e
theorem ku {s:gA}{p:iF→gL→Bool}{n:Nat}:∀x∈sE s p n,∃c,iP s x.1 x.2=some c:=λx hx=>by
 obtain ⟨_,t,c,h1,h2,_⟩:=Hr.mp hx
 exact ⟨c,by unfold iP;rw [h1];exact h2⟩
theorem zG {α β:Type}(f:α→List β) (p:β→Bool):∀l:List α,(l.flatMap f).filter p=l.flatMap fun t=>(f t).filter p
 |[]=>rfl
 |a::r=>by
  rw [dN,dN,dE,zG f p r]
theorem yS (s:gA) (p:gL→Bool):Dm s (sE s (λ_=>p) s.tickets.length)=(bS s).filter p:=by
 rw [Kt]
 unfold bS
 rw [zG]
theorem qP {s:gA}{G:iF→Nat→gL→gL}{x:Nat×Nat}{c:gL}(h:iP s x.1 x.2=some c):∃c',iP (jD s G) x.1 x.2=some c':=by
 obtain ⟨t,h1,h2⟩:=jx h
 exact ⟨G t x.2 c,by rw [qN,h1];show t.coupons[x.2]?.map _=_;rw [h2];rfl⟩
theorem yT {β:Type}{s:gA}{G:iF→Nat→gL→gL}{f:gL→β}(hf:∀t j c,f (G t j c)=f c) (i j:Nat):(iP (jD s G) i j).map f=(iP s i j).map f:=by
 rw [qN]
 unfold iP
 cases s.tickets[i]? with
 |none=>rfl
 |some t=>
  show (t.coupons[j]?.map _).map f=t.coupons[j]?.map f
  cases t.coupons[j]? with
  |none=>rfl
  |some c=>exact congrArg some (hf t j c)
theorem tO {α:Type}(f:α→Nat):∀l:List α,(l.map fun x=>((f x:Nat):Int)).sum=(((l.map f).sum:Nat):Int)
 |[]=>rfl
 |a::r=>by
  rw [aG,cM,aG,cM,tO f r]
  omega
def Hv (d:Ad) (f:gL→Nat):Sp:=λvs H Q _=>∃a ev es,vs=[.ref a]∧H a=some (.lst ev)∧Hm d H ev es∧es.length≤1000∧∀H',gi H H'→Q (vN (es.map f).sum) H'
def ki (d:Ad):Sp:=Hv d (·.value)
def pS (d:Ad):Sp:=Hv d (·.tax)
def hJ (d:Ad):Sp:=Hv d dG
theorem Hw {k:Nat}{te:TE}{σ:L2.St}{H:Hp}{a:Addr}{ev:List V}{es:List gL}{f:gL→Nat}{Q:V→Hp→Prop}(ha:H a=some (.lst ev)) (hc:Hm d H ev es) (h4:es.length≤1000)
  (hs:∀(x:V) (c:gL) (H2:Hp) (Qy:VK),vK d H2 x c→gi H H2→(∀H3,gi H2 H3→Qy (vN (f c)) H3)→te ((wipe σ [k]).set k (some x)) H2 Qy) (hd:∀H',gi H H'→Q (vN (es.map f).sum) H') (D:Addr) (hD:H D=Option.none) :
  ∃W:Nat→Nat→Hp→Prop,(∃m,W 0 m (upd H D (.lst [])))∧∀i m H,W i m H→
   ((sQ K a).stop i H∧∃(a':Addr) (ns:List Int),[V.ref D]=[V.ref a']∧gE K H a' (ns.map V.int)∧Q (.int ns.sum) H)∨((sQ K a).go i H∧∃Nx:Hp→Prop,(∀H',Nx H'→∃m',m'<m∧W (i+1) m' H')∧∀x H',(sQ K a).A0 i H x H'→gr k x (wipe σ [k]) H' fun σ2 H2=>wipe σ2 [k]=wipe σ [k]∧mI σ2 H2 fun b H3=>
    if b=true then te σ2 H3 fun y H4=>∃acc,H4 D=some (.lst acc)∧acc.length<sizeLine∧Nx (upd H4 D (.lst (acc++[y]))) else Nx H3):=by
 have le:ev.length=es.length:=Paired.length hc
 have s4:1000≤sizeLine:=by decide
 refine Vo (ys:=vI (es.map fun c=>((f c:Nat):Int))) (gE.of ha) (by omega) (by rw [aa,aa,le]) (λi x y H2 Qy hx hy h2 kk=>?_) hD fun H' s' Hh=>⟨D,_,rfl,gE.of Hh,?_⟩
 ·obtain ⟨c,JD,Ug⟩:=gK hc hx
  obtain ⟨b,hb,rfl⟩:=jU hy
  rw [ah,JD] at hb
  have hb:((f c:Nat):Int)=b:=Option.some.inj hb
  subst hb
  exact hs x c H2 Qy (Ug.same h2) h2 kk
 ·rw [tO]
  exact hd H' s'
abbrev mf (P w K mg base) (d:Ad):=Fd P w K mg base 1 "values_of" ["coupons"] (ki d)
theorem Hx (T:Txt P w K mg d) (G:FG K mg "values_of" (top 40)):mf P w K mg base d:=by
 have S:gf ["coupons","coupon"] ["coupons"] (fS (top 40)):=lu
 refine G.fd S (λ_ _ _ _ _ _=>Dl fun _=>rfl) fun _ _ _ _ _ H vs Q E hr h=>⟨_,(fO (fW (gp (pZ rfl) rfl T.qK boot_sum (fY (ko rfl S.nd (gC (pv 0)) (gS (own:=[("coupon",1)]) (by show kX ["coupons","coupon"] (fS (top 40)) _ _=true;decide +kernel)) (λ_ _ _ _ _=>(gk (i:=1) S.nd rfl (by first|exact ak rfl|exact au rfl))) (λ_ _ _ _ _=>iJ) (λ_ _ _ _ _=>(gw T.fQ T.js (pv 1)))) fM)))),?_⟩
 obtain ⟨a,ev,es,rfl,ha,hc,hn,q⟩:=h
 refine (U rfl ⟨a,rfl,⟨_,gE.of ha⟩,Hw ha hc hn (λx c H2 Qy hx h2 kk=>?_) q⟩)
 obtain ⟨b,dx,rfl,hb⟩:=hx
 exact (U rfl ⟨b,dx,_,_,rfl,hb,xa c,kk _ (gi.refl _)⟩)
abbrev rG (P w K mg base) (d:Ad):=Fd P w K mg base 1 "taxes_of" ["coupons"] (pS d)
theorem Ku (T:Txt P w K mg d) (G:FG K mg "taxes_of" (top 41)):rG P w K mg base d:=by
 have S:gf ["coupons","coupon"] ["coupons"] (fS (top 41)):=lu
 refine G.fd S (λ_ _ _ _ _ _=>Dl fun _=>rfl) fun _ _ _ _ _ H vs Q E hr h=>⟨_,(fO (fW (gp (pZ rfl) rfl T.qK boot_sum (fY (ko rfl S.nd (gC (pv 0)) (gS (own:=[("coupon",1)]) (by show kX ["coupons","coupon"] (fS (top 41)) _ _=true;decide +kernel)) (λ_ _ _ _ _=>(gk (i:=1) S.nd rfl (by first|exact ak rfl|exact au rfl))) (λ_ _ _ _ _=>iJ) (λ_ _ _ _ _=>(gw T.fQ T.j7 (pv 1)))) fM)))),?_⟩
 obtain ⟨a,ev,es,rfl,ha,hc,hn,q⟩:=h
 refine (U rfl ⟨a,rfl,⟨_,gE.of ha⟩,Hw ha hc hn (λx c H2 Qy hx h2 kk=>?_) q⟩)
 obtain ⟨b,dx,rfl,hb⟩:=hx
 exact (U rfl ⟨b,dx,_,_,rfl,hb,Hb c,kk _ (gi.refl _)⟩)
abbrev nq (P w K mg base) (d:Ad):=Fd P w K mg base 2 "worths_of" ["coupons"] (hJ d)
theorem Hy (T:Txt P w K mg d) (BG:tH P w K mg base d) (G:FG K mg "worths_of" (top 42)):nq P w K mg base d:=by
 have S:gf ["coupons","coupon"] ["coupons"] (fS (top 42)):=lu
 refine G.fd S (λ_ _ _ _ _ _=>Dl fun _=>rfl) fun _ _ _ _ _ H vs Q E hr h=>⟨_,(fO (fW (gp (pZ rfl) rfl T.qK boot_sum (fY (ko rfl S.nd (gC (pv 0)) (gS (own:=[("coupon",1)]) (by show kX ["coupons","coupon"] (fS (top 42)) _ _=true;decide +kernel)) (λ_ _ _ _ _=>(gk (i:=1) S.nd rfl (by first|exact ak rfl|exact au rfl))) (λ_ _ _ _ _=>iJ) (λ_ _ _ _ _=>(kC T.fQ BG (hr.mono (by decide)) (pv 1)))) fM)))),?_⟩
 obtain ⟨a,ev,es,rfl,ha,hc,hn,q⟩:=h
 refine (U rfl ⟨a,rfl,⟨_,gE.of ha⟩,Hw ha hc hn (λx c H2 Qy hx h2 kk=>?_) q⟩)
 obtain ⟨b,dx,rfl,hb⟩:=hx
 exact (U rfl ⟨b,dx,_,rfl,hb,(ve c).1,_,c,rfl,⟨b,dx,rfl,hb⟩,kk _ (gi.refl _)⟩)
def jc (s:gA) (g:Nat×Nat×Nat):gA:={ s with gone:=s.gone++[g] }
section
variable {d:Ad}{H H':Hp}{L:Ly}{s s':gA}
theorem Rep.jc (R:Rep d H L s) {g:Nat×Nat×Nat}:Rep d (upd H (L.a .gn) (.dT (uw (jc s g)))) L (My.jc s g):=
 R.put (n0:=.gn) rfl rfl fun n hn=>by
  cases n<;>first|rfl|exact absurd rfl hn
theorem gy.jc (R:Rep d H L s) {g:Nat×Nat×Nat}:gy d H L s (upd H (L.a .gn) (.dT (uw (jc s g)))) L (My.jc s g):=
 gy.put R (n0:=.gn) rfl rfl fun n hn=>by
  cases n<;>first|rfl|exact absurd rfl hn
theorem Kv {g:Nat×Nat×Nat}(h:s.gone.contains g=false):putK (uw s) (N9 g) (.bl true)=uw (jc s g):=by
 rw [A7]
 ·unfold uw jc
  rw [bP]
  rfl
 ·rw [←xE] at h
  cases e:oo (uw s) (N9 g) with
  |none=>rfl
  |some v=>
   rw [e] at h
   cases h
theorem Rep.out (R:Rep d H L s) {b:Addr}(h:H b=Option.none):Out d L s b:=λn o e q=>by
 have:=R.at_ n o e
 rw [q,h] at this
 cases this
end
abbrev Hz:List aJ:=[.checked,.controlled]
abbrev Jz:List aJ:=[.open_,.controlled,.checked,.boarded,.suspended]
def WV (g:Nat×Nat×Nat) (b:Bool) (c:gL):gL:=
 if ic g Hz c=true then { c with status:=.open_ } else if ic g [.boarded] c=true then { c with status:=.flown } else if (b&&(decide (c.status=.checked)&&!qO g c))=true then { c with status:=.controlled } else c
def X8 (g:Nat×Nat×Nat) (b:Bool) (c:gL):gL:=
 if ic g Jz c=true then (if c.status=.suspended then { c with free:=true } else { c with free:=true,status:=.open_ }) else if (b&&(decide (c.status=.checked)&&!qO g c))=true then { c with status:=.controlled } else c
theorem xH {α β:Type}(f:Nat→α→β) (a:α) (r:List α):(a::r).mapIdx f=f 0 a::r.mapIdx fun i=>f (i+1):=fC
theorem Kw (g:Nat×Nat×Nat) (back:Bool) (c:gL) (r:List gL):dX g.1 g.2.1 g.2.2 back (c::r)=WV g back c::dX g.1 g.2.1 g.2.2 (back||ic g Hz c) r:=by
 conv=>lhs;unfold dX
 unfold WV ic qO
 cases hf:bu g.1 g.2.1 g.2.2 c with
 |true=>
  obtain ⟨c1,c2,c3,c4,c5,c6,c7,st,fr⟩:=c
  cases st<;>cases back<;>rfl
 |false=>
  obtain ⟨c1,c2,c3,c4,c5,c6,c7,st,fr⟩:=c
  cases st<;>cases back<;>rfl
theorem MP (g:Nat×Nat×Nat) (back:Bool) (c:gL) (r:List gL):eM g.1 g.2.1 g.2.2 back (c::r)=X8 g back c::eM g.1 g.2.1 g.2.2 (back||ic g Jz c) r:=by
 conv=>lhs;unfold eM
 unfold X8 ic qO cE
 cases hf:bu g.1 g.2.1 g.2.2 c with
 |true=>
  obtain ⟨c1,c2,c3,c4,c5,c6,c7,st,fr⟩:=c
  cases st<;>cases back<;>rfl
 |false=>
  obtain ⟨c1,c2,c3,c4,c5,c6,c7,st,fr⟩:=c
  cases st<;>cases back<;>rfl
theorem Gq (g:Nat×Nat×Nat):∀(l:List gL) (back:Bool),dX g.1 g.2.1 g.2.2 back l=l.mapIdx fun j c=>WV g (back||(l.take j).any (ic g Hz)) c
 |[],_=>rfl
 |c::r,back=>by
  rw [Kw,Gq g r,xH]
  congr 1
  ·simp
  ·congr 1
   funext j x
   rw [eZ,cT,Bool.or_assoc]
theorem Kx (g:Nat×Nat×Nat):∀(l:List gL) (back:Bool),eM g.1 g.2.1 g.2.2 back l=l.mapIdx fun j c=>X8 g (back||(l.take j).any (ic g Jz)) c
 |[],_=>rfl
 |c::r,back=>by
  rw [MP,Kx g r,xH]
  congr 1
  ·simp
  ·congr 1
   funext j x
   rw [eZ,cT,Bool.or_assoc]
theorem WW (g:Nat×Nat×Nat) (t:iF) (j:Nat) (c:gL):(if ic g Hz c=true then { (if ic g [.boarded] c=true then { ly g Hz t j c with status:=.flown } else ly g Hz t j c) with status:=.open_ } else (if ic g [.boarded] c=true then { ly g Hz t j c with status:=.flown } else ly g Hz t j c))=WV g ((t.coupons.take j).any (ic g Hz)) c:=by
 unfold WV ly ic
 obtain ⟨c1,c2,c3,c4,c5,c6,c7,st,fr⟩:=c
 generalize (List.take j t.coupons).any _=b
 generalize hF:qO g _=F
 have hF2:∀st fr,qO g { carrier:=c1,num:=c2,day:=c3,from_:=c4,to_:=c5,value:=c6,tax:=c7,status:=st,free:=fr }=F:=λst fr=>hF
 cases st<;>cases F<;>cases b<;>rfl
theorem WX (g:Nat×Nat×Nat) (t:iF) (j:Nat) (c:gL):(if ic g Jz c=true then (if (ly g Jz t j c).status=.suspended then { ly g Jz t j c with free:=true } else { ly g Jz t j c with free:=true,status:=.open_ }) else ly g Jz t j c)=X8 g ((t.coupons.take j).any (ic g Jz)) c:=by
 unfold X8 ly ic
 obtain ⟨c1,c2,c3,c4,c5,c6,c7,st,fr⟩:=c
 generalize (List.take j t.coupons).any _=b
 generalize hF:qO g _=F
 cases st<;>cases F<;>cases b<;>rfl
def Vt (g:Nat×Nat×Nat) (t:iF) (j:Nat) (c:gL):gL:=WV g ((t.coupons.take j).any (ic g Hz)) c
def faT (g:Nat×Nat×Nat) (t:iF) (j:Nat) (c:gL):gL:=X8 g ((t.coupons.take j).any (ic g Jz)) c
theorem Ky (g:Nat×Nat×Nat) (t:iF) (j:Nat) (c:gL):(Vt g t j c).value=c.value∧(Vt g t j c).tax=c.tax:=by
 unfold Vt WV
 split
 ·exact ⟨rfl,rfl⟩
 ·split
  ·exact ⟨rfl,rfl⟩
  ·split<;>exact ⟨rfl,rfl⟩
theorem BH (g:Nat×Nat×Nat):ic g [.boarded]=λc=>bu g.1 g.2.1 g.2.2 c&&c.status==.boarded:=by
 funext c
 unfold ic qO
 cases c.status<;>rfl
theorem Uk (g:Nat×Nat×Nat):ic g Hz=λc=>bu g.1 g.2.1 g.2.2 c&&(c.status==.checked||c.status==.controlled):=by
 funext c
 unfold ic qO
 cases c.status<;>rfl
theorem Ul (g:Nat×Nat×Nat):ic g Jz=λc=>bu g.1 g.2.1 g.2.2 c&&cE c:=by
 funext c
 unfold ic qO cE
 cases c.status<;>rfl
theorem MQ (s:gA) (p:gL→Bool):(sE s (λ_=>p) s.tickets.length).length=cA s p:=by
 rw [←pR (s:=s) ku,yS]
 rfl
theorem Oo {s:gA}(I:gN s) (p:iF→gL→Bool):(sE s p s.tickets.length).length≤256:=by
 have h1:=BD I p s.tickets.length (ai _)
 have h2:=I.AB
 omega
def Pl (d:Ad):Sp:=λvs H Q _=>∃(L:Ly) (s:gA) (a b c:Nat),vs=[.ref (L.a .hs),vN a,vN b,vN c]∧Rep d H L s∧gN s∧DB d H L s (.depart a b c) Q
def Pn (d:Ad):Sp:=λvs H Q _=>∃(L:Ly) (s:gA) (a b c:Nat),vs=[.ref (L.a .hs),vN a,vN b,vN c]∧Rep d H L s∧gN s∧DB d H L s (.cancel a b c) Q
theorem Kz {s:gA}(I:gN s):(uw s).length<sizeLine:=by
 unfold uw
 rw [aa]
 have h1:=I.Qh
 have h2:64<sizeLine:=by decide
 omega
abbrev KA (P w K mg base) (d:Ad):=Fd P w K mg base 4 "depart" ["house","carrier","num","day"] (Pl d)
theorem Po (T:Txt P w K mg d) (oK:rF P w K mg base d) (nN:nL P w K mg base d) (nO:nM P w K mg base d) (o8:rG P w K mg base d) (jM:mf P w K mg base d) (G:FG K mg "depart" (top 84)):KA P w K mg base d:=by
 have S:gf ["house","carrier","num","day","flight","refused","flown","left_behind","coupon"] ["house","carrier","num","day"] (fS (top 84)):=lu
 refine G.fd S (λ_ _ _ _ _ _=>Vn fun _ _ _ _=>rfl) fun _ _ _ _ _ H vs Q E hr h=>⟨_,(fL (gj (i:=4) S.nd rfl (by first|exact ak rfl|exact au rfl) (i6 (fY (pv 1) (fY (pv 2) (fY (pv 3) fM))))) (fL (gj (i:=5) S.nd rfl (by first|exact ak rfl|exact au rfl) (fU nN (hr.mono (by decide)) rfl (fY (pv 0) (fY (pv 4) fM)))) (fL (gJ (gg kn (pv 5) (fR T.gx) (gm _)) (fO (fW (gG (fY (pv 5) fM)))) gd) (fL (GY (oi hr) (gw T.fP T.jt (pv 0)) (pv 4) mY rfl) (fL (gj (i:=6) S.nd rfl (by first|exact ak rfl|exact au rfl) (fU oK (hr.mono (by decide)) rfl (fY (pv 0) (fY (pv 4) (fY (i6 (fY (fR T.ma) fM)) fM))))) (fL (gj (i:=7) S.nd rfl (by first|exact ak rfl|exact au rfl) (fU oK (hr.mono (by decide)) rfl (fY (pv 0) (fY (pv 4) (fY (i6 (fY (fR T.iz) (fY (fR T.iO) fM))) fM))))) (fL (jo (fU nO (hr.mono (by decide)) rfl (fY (pv 0) (fY (pv 4) (fY (i6 (fY (fR T.iz) (fY (fR T.iO) fM))) fM))))) (fL (jz PassesOwn.never rfl (gC (pv 6)) (gk (i:=8) S.nd rfl (by first|exact ak rfl|exact au rfl)) (fO (iT T.fQ T.gc (pv 8) (fR T.oG)))) (fL (jz PassesOwn.never rfl (gC (pv 7)) (gk (i:=8) S.nd rfl (by first|exact ak rfl|exact au rfl)) (fO (iT T.fQ T.gc (pv 8) (fR T.lX)))) (fO (fW (gG (fY (fR T.gx) (fY (gp gz rfl T.jb aI (fY (pv 6) fM)) (fY (fU jM (hr.mono (by decide)) rfl (fY (pv 6) fM)) (fY (fU o8 (hr.mono (by decide)) rfl (fY (pv 6) fM)) (fY (gp gz rfl T.jb aI (fY (pv 7) fM)) fM))))))))))))))))),?_⟩
 obtain ⟨L,s,a,b,c,rfl,R,I,q⟩:=h
 have hs:aq s (.depart a b c)=if s.gone.contains (a,b,c)=true then (s,[-11]) else if 64≤s.gone.length then (s,[-6]) else
   ({ s with gone:=s.gone++[(a,b,c)],tickets:=s.tickets.map fun t=>{ t with coupons:=dX a b c false t.coupons } },
    [0,((cA s fun x=>bu a b c x&&x.status==.boarded:Nat):Int),((Vbahah.sumOf s (λx=>bu a b c x&&x.status==.boarded) (λx=>x.value):Nat):Int),((Vbahah.sumOf s (λx=>bu a b c x&&x.status==.boarded) (λx=>x.tax):Nat):Int),((cA s fun x=>bu a b c x&&(x.status==.checked||x.status==.controlled):Nat):Int)]):=rfl
 refine (U rfl (U rfl (U rfl ⟨(by show 3≤sizeLine;decide),λf hf=>?_⟩)))
 have sf:=f9 (o:=HO.tup (Gi (a,b,c))) hf
 have R1:=R.same sf
 refine (U rfl (U rfl ⟨L,s,(a,b,c),f,rfl,R1,fN,?_⟩))
 refine (U rfl ⟨rfl,ac ?_⟩)
 rw [jY]
 by_cases h1:s.gone.contains (a,b,c)=true
 ·rw [if_pos h1] at hs
  rw [show zF s (a,b,c)=-11 from if_pos h1]
  exact gR (U rfl ⟨by show 1≤sizeLine;decide,λp hp=>q.ref hs R sf hp⟩)
 rw [if_neg h1] at hs
 by_cases h2:64≤s.gone.length
 ·rw [if_pos h2] at hs
  rw [show zF s (a,b,c)=-6 from (if_neg h1).trans (if_pos h2)]
  exact gR (U rfl ⟨by show 1≤sizeLine;decide,λp hp=>q.ref hs R sf hp⟩)
 rw [if_neg h2] at hs
 rw [show zF s (a,b,c)=0 from (if_neg h1).trans (if_neg h2)]
 refine f7 ?_
 have h1:s.gone.contains (a,b,c)=false:=bH.mpr h1
 refine (U rfl ⟨_,_,_,_,rfl,R1.hs,qJ L s,U rfl ⟨_,_,rfl,GX.t (k:=N9 (a,b,c)) R1.gn fN (Kz I),?_⟩⟩)
 rw [Kv h1]
 have R2:=R1.jc (g:=(a,b,c))
 have k2:=gy.jc R1 (g:=(a,b,c))
 have I2:gN (jc s (a,b,c)):=I.gone h1 h2
 obtain ⟨Qj,of2⟩:=k2 f _ fN (R.out hf)
 have k02:=(gy.same (d:=d) (L:=L) (s:=s) sf).trans k2
 generalize upd (upd H f (HO.tup (Gi (a,b,c)))) (L.a .gn) (.dT (uw (jc s (a,b,c))))=H2 at *
 generalize X9:jc s (a,b,c)=s1 at *
 refine (U rfl (U rfl ⟨(by show 1≤sizeLine;decide),λq1 hq1=>?_⟩))
 have s3:=f9 (o:=HO.tup [.int 3]) hq1
 refine ⟨L,s1,(a,b,c),f,q1,[.boarded],rfl,R2.same s3,I2,s3 _ _ Qj,mZ.of fN,λH4 p1 s4 np1 pG=>?_⟩
 have o1:Out d L s1 p1:=(R2.same s3).out np1
 have s24:=s3.trans s4
 have R4:=R2.same s24
 refine (U rfl (U rfl ⟨(by show 2≤sizeLine;decide),λq2 hq2=>?_⟩))
 have s5:=f9 (o:=HO.tup [.int 2,.int 1]) hq2
 refine ⟨L,s1,(a,b,c),f,q2,Hz,rfl,R4.same s5,I2,s5 _ _ (s24 _ _ Qj),mZ.of fN,λH6 p2 s6 np2 yu=>?_⟩
 have o2:Out d L s1 p2:=(R4.same s5).out np2
 have LW:=s5.trans s6
 have R6:=R4.same LW
 refine (U rfl (U rfl ⟨(by show 2≤sizeLine;decide),λq3 hq3=>?_⟩))
 have s7:=f9 (o:=HO.tup [.int 2,.int 1]) hq3
 refine ⟨L,s1,(a,b,c),f,q3,Hz,rfl,R6.same s7,I2,s7 _ _ (LW _ _ (s24 _ _ Qj)),fN,of2,R6.out hq3,λH8 R8 k8=>?_⟩
 have k28:gy d H2 L s1 H8 L (jD s1 (ly (a,b,c) Hz)):=(gy.same ((s24.trans LW).trans s7)).trans k8
 obtain ⟨l1,o1⟩:=k8 p1 _ (s7 _ _ (LW _ _ pG)) o1
 obtain ⟨l2,o2⟩:=k8 p2 _ (s7 _ _ yu) o2
 refine uq (f:=λx=>{ x with status:=.flown }) rfl (by show 8<9;decide) R8 l1 o1 (λx hx=>let ⟨y,hy⟩:=ku x hx;qP hy) (vQ _ _ _) (λx y s9 H9 N hx R9 hc WY kk=>?_) fun σ' H9 hv R9 k9=>?_
 ·obtain ⟨t,g1,g2⟩:=jx hc
  exact (U rfl ⟨_,_,_,rfl,R9.cp g1 g2,mN y,kk _ rfl⟩)
 obtain ⟨v,rfl⟩:=hv
 obtain ⟨l1,o1⟩:=k9 p1 _ l1 o1
 obtain ⟨l2,o2⟩:=k9 p2 _ l2 o2
 rw [rE] at R9 k9 o1 o2
 refine uq (f:=λx=>{ x with status:=.open_ }) rfl (by show 8<9;decide) R9 l2 o2 (λx hx=>let ⟨y,hy⟩:=ku x hx;qP hy) (vQ _ _ _) (λx y s9 H9 N hx R9 hc WY kk=>?_) fun σ' X2 hv Ya k10=>?_
 ·obtain ⟨t,g1,g2⟩:=jx hc
  exact (U rfl ⟨_,_,_,rfl,R9.cp g1 g2,mN y,kk _ rfl⟩)
 obtain ⟨v,rfl⟩:=hv
 obtain ⟨l1,o1⟩:=k10 p1 _ l1 o1
 obtain ⟨l2,o2⟩:=k10 p2 _ l2 o2
 have em:=(rE s1 (λt j x=>if ic (a,b,c) [.boarded] x=true then { ly (a,b,c) Hz t j x with status:=.flown } else ly (a,b,c) Hz t j x) (λ_ x=>ic (a,b,c) Hz x) (λx=>{ x with status:=.open_ })).trans (congrArg (jD s1) (funext fun t=>funext fun j=>funext fun x=>WW (a,b,c) t j x:_=Vt (a,b,c)))
 rw [em] at Ya k10
 have k:=((k02.trans k28).trans k9).trans k10
 have es:jD s1 (Vt (a,b,c))={ s with gone:=s.gone++[(a,b,c)],tickets:=s.tickets.map fun t=>{ t with coupons:=dX a b c false t.coupons } }:=by
  subst X9
  unfold jD jc
  congr 1
  apply cD
  intro t _
  have e:=Gq (a,b,c) t.coupons false
  dsimp only at e ⊢
  rw [e]
  rfl
 have Vu:∀x∈sE s1 (λ_ x=>ic (a,b,c) [.boarded] x) s1.tickets.length,∃y,iP (jD s1 (Vt (a,b,c))) x.1 x.2=some y:=λx hx=>let ⟨y,hy⟩:=ku x hx;qP hy
 have cps:=tN Ya Vu
 have n1:=Oo I2 (λ_ x=>ic (a,b,c) [.boarded] x)
 have an:=pR Vu
 have al:bS s1=bS s:=by subst X9;rfl
 have ev:∀f:gL→Nat,(∀t j x,f (Vt (a,b,c) t j x)=f x)→((Dm (jD s1 (Vt (a,b,c))) (sE s1 (λ_ x=>ic (a,b,c) [.boarded] x) s1.tickets.length)).map f).sum=Vbahah.sumOf s (λx=>bu a b c x&&x.status==.boarded) f:=λf hf=>by
  rw [AL (s:=s1) fun x hx=>yT hf x.1 x.2,yS,al,BH]
  rfl
 refine (U rfl ⟨p1,_,rfl,.inl (gE.of l1),_,rfl,p1,_,_,rfl,l1,cps,by omega,λZi S7=>?_⟩)
 refine (U rfl ⟨p1,_,_,rfl,S7 _ _ l1,cps.same S7,by omega,λH12 Um=>?_⟩)
 refine (U rfl ⟨p2,_,rfl,.inl (gE.of (Um _ _ (S7 _ _ l2))),by show 5≤sizeLine;decide,λp hp=>?_⟩)
 have c1:(sE s1 (λ_ x=>ic (a,b,c) [.boarded] x) s1.tickets.length).length=cA s fun x=>bu a b c x&&x.status==.boarded:=by
  rw [MQ s1 (ic (a,b,c) [.boarded]),BH]
  unfold cA
  rw [al]
 have c2:(sE s1 (λ_ x=>ic (a,b,c) Hz x) s1.tickets.length).length=cA s fun x=>bu a b c x&&(x.status==.checked||x.status==.controlled):=by
  rw [MQ s1 (ic (a,b,c) Hz),Uk]
  unfold cA
  rw [al]
 have fin:=q.done hs (by rw [←es];exact (Ya.same S7).same Um) (by rw [←es];exact (k.trans (gy.same S7)).trans (gy.same Um)) hp
 rw [←c1,←c2,←ev (λx=>x.value) fun t j x=>(Ky (a,b,c) t j x).1,←ev (λx=>x.tax) fun t j x=>(Ky (a,b,c) t j x).2] at fin
 rw [aa,aa]
 exact fin
abbrev KC (P w K mg base) (d:Ad):=Fd P w K mg base 4 "cancel" ["house","carrier","num","day"] (Pn d)
theorem Pp (T:Txt P w K mg d) (oK:rF P w K mg base d) (nN:nL P w K mg base d) (nO:nM P w K mg base d) (G:FG K mg "cancel" (top 85)):KC P w K mg base d:=by
 have S:gf ["house","carrier","num","day","flight","refused","living","lived","coupon"] ["house","carrier","num","day"] (fS (top 85)):=lu
 refine G.fd S (λ_ _ _ _ _ _=>Vn fun _ _ _ _=>rfl) fun _ _ _ _ _ H vs Q E hr h=>⟨_,(fL (gj (i:=4) S.nd rfl (by first|exact ak rfl|exact au rfl) (i6 (fY (pv 1) (fY (pv 2) (fY (pv 3) fM))))) (fL (gj (i:=5) S.nd rfl (by first|exact ak rfl|exact au rfl) (fU nN (hr.mono (by decide)) rfl (fY (pv 0) (fY (pv 4) fM)))) (fL (gJ (gg kn (pv 5) (fR T.gx) (gm _)) (fO (fW (gG (fY (pv 5) fM)))) gd) (fL (GY (oi hr) (gw T.fP T.jt (pv 0)) (pv 4) mY rfl) (fL (gj (i:=6) S.nd rfl (by first|exact ak rfl|exact au rfl) (i6 (fY (fR T.lX) (fY (fR T.iO) (fY (fR T.iz) (fY (fR T.ma) (fY (fR T.j8) fM))))))) (fL (gj (i:=7) S.nd rfl (by first|exact ak rfl|exact au rfl) (fU oK (hr.mono (by decide)) rfl (fY (pv 0) (fY (pv 4) (fY (pv 6) fM))))) (fL (jo (fU nO (hr.mono (by decide)) rfl (fY (pv 0) (fY (pv 4) (fY (pv 6) fM))))) (fL (jz PassesOwn.never rfl (gC (pv 7)) (gk (i:=8) S.nd rfl (by first|exact ak rfl|exact au rfl)) (fL (iT T.fQ T.jr (pv 8) mY) (fO (gJ (gg kn (gw T.fQ T.gc (pv 8)) (fR T.j8) (gm _)) (fO (iT T.fQ T.gc (pv 8) (fR T.lX))) gd)))) (fO (fW (gG (fY (fR T.gx) (fY (gp gz rfl T.jb aI (fY (pv 7) fM)) fM))))))))))))),?_⟩
 obtain ⟨L,s,a,b,c,rfl,R,I,q⟩:=h
 have hs:aq s (.cancel a b c)=if s.gone.contains (a,b,c)=true then (s,[-11]) else if 64≤s.gone.length then (s,[-6]) else
   ({ s with gone:=s.gone++[(a,b,c)],tickets:=s.tickets.map fun t=>{ t with coupons:=eM a b c false t.coupons } },[0,((cA s fun x=>bu a b c x&&cE x:Nat):Int)]):=rfl
 refine (U rfl (U rfl (U rfl ⟨(by show 3≤sizeLine;decide),λf hf=>?_⟩)))
 have sf:=f9 (o:=HO.tup (Gi (a,b,c))) hf
 have R1:=R.same sf
 refine (U rfl (U rfl ⟨L,s,(a,b,c),f,rfl,R1,fN,?_⟩))
 refine (U rfl ⟨rfl,ac ?_⟩)
 rw [jY]
 by_cases h1:s.gone.contains (a,b,c)=true
 ·rw [if_pos h1] at hs
  rw [show zF s (a,b,c)=-11 from if_pos h1]
  exact gR (U rfl ⟨by show 1≤sizeLine;decide,λp hp=>q.ref hs R sf hp⟩)
 rw [if_neg h1] at hs
 by_cases h2:64≤s.gone.length
 ·rw [if_pos h2] at hs
  rw [show zF s (a,b,c)=-6 from (if_neg h1).trans (if_pos h2)]
  exact gR (U rfl ⟨by show 1≤sizeLine;decide,λp hp=>q.ref hs R sf hp⟩)
 rw [if_neg h2] at hs
 rw [show zF s (a,b,c)=0 from (if_neg h1).trans (if_neg h2)]
 refine f7 ?_
 have h1:s.gone.contains (a,b,c)=false:=bH.mpr h1
 refine (U rfl ⟨_,_,_,_,rfl,R1.hs,qJ L s,U rfl ⟨_,_,rfl,GX.t (k:=N9 (a,b,c)) R1.gn fN (Kz I),?_⟩⟩)
 rw [Kv h1]
 have R2:=R1.jc (g:=(a,b,c))
 have k2:=gy.jc R1 (g:=(a,b,c))
 have I2:gN (jc s (a,b,c)):=I.gone h1 h2
 obtain ⟨Qj,of2⟩:=k2 f _ fN (R.out hf)
 have k02:=(gy.same (d:=d) (L:=L) (s:=s) sf).trans k2
 generalize upd (upd H f (HO.tup (Gi (a,b,c)))) (L.a .gn) (.dT (uw (jc s (a,b,c))))=H2 at *
 generalize X9:jc s (a,b,c)=s1 at *
 refine ⟨(by show 5≤sizeLine;decide),λq1 hq1=>?_⟩
 have s3:=f9 (o:=HO.tup [.int 0,.int 1,.int 2,.int 3,.int 9]) hq1
 have R3:=R2.same s3
 refine (U rfl (U rfl (U rfl ⟨L,s1,(a,b,c),f,q1,Jz,rfl,R3,I2,s3 _ _ Qj,mZ.of fN,λH4 p1 s4 np1 pG=>?_⟩)))
 have o1:Out d L s1 p1:=R3.out np1
 have R4:=R3.same s4
 refine (U rfl (U rfl (U rfl ⟨L,s1,(a,b,c),f,q1,Jz,rfl,R4,I2,s4 _ _ (s3 _ _ Qj),s4 _ _ fN,of2,R2.out hq1,λH8 R8 k8=>?_⟩)))
 have k28:gy d H2 L s1 H8 L (jD s1 (ly (a,b,c) Jz)):=(gy.same (s3.trans s4)).trans k8
 obtain ⟨l1,o1⟩:=k8 p1 _ pG o1
 refine uq (f:=λx=>if x.status=.suspended then { x with free:=true } else { x with free:=true,status:=.open_ }) rfl (by show 8<9;decide) R8 l1 o1 (λx hx=>let ⟨y,hy⟩:=ku x hx;qP hy) (vQ _ _ _) (λx y s9 H9 N hx R9 hc WY kk=>?_) fun σ' H9 hv R9 k9=>?_
 ·obtain ⟨t,g1,g2⟩:=jx hc
  refine (U rfl ⟨_,_,_,rfl,R9.cp g1 g2,mN y,?_⟩)
  rw [Rg]
  refine (U rfl ⟨_,_,_,_,rfl,fN,iy _,rfl,ac ?_⟩)
  change if (!decide (mJ y.status=mJ .suspended))=true then _ else _
  rw [rB]
  by_cases h3:y.status=.suspended
  ·rw [decide_eq_true h3]
   refine f7 (kk _ ?_)
   rw [if_pos h3]
  ·rw [decide_eq_false h3]
   refine gR (U rfl ⟨_,_,_,rfl,fN,mN _,kk _ ?_⟩)
   rw [ir]
   rw [if_neg h3]
   rfl
 obtain ⟨v,rfl⟩:=hv
 obtain ⟨l1,o1⟩:=k9 p1 _ l1 o1
 have em:=(rE s1 (ly (a,b,c) Jz) (λ_ x=>ic (a,b,c) Jz x) (λx=>if x.status=.suspended then { x with free:=true } else { x with free:=true,status:=.open_ })).trans (congrArg (jD s1) (funext fun t=>funext fun j=>funext fun x=>WX (a,b,c) t j x:_=faT (a,b,c)))
 rw [em] at R9 k9
 have k:=(k02.trans k28).trans k9
 have es:jD s1 (faT (a,b,c))={ s with gone:=s.gone++[(a,b,c)],tickets:=s.tickets.map fun t=>{ t with coupons:=eM a b c false t.coupons } }:=by
  subst X9
  unfold jD jc
  congr 1
  apply cD
  intro t _
  have e:=Kx (a,b,c) t.coupons false
  dsimp only at e ⊢
  rw [e]
  rfl
 have al:bS s1=bS s:=by subst X9;rfl
 refine (U rfl ⟨p1,_,rfl,.inl (gE.of l1),by show 2≤sizeLine;decide,λp hp=>?_⟩)
 have c1:(sE s1 (λ_ x=>ic (a,b,c) Jz x) s1.tickets.length).length=cA s fun x=>bu a b c x&&cE x:=by
  rw [MQ s1 (ic (a,b,c) Jz),Ul]
  unfold cA
  rw [al]
 have fin:=q.done hs (by rw [←es];exact R9) (by rw [←es];exact k) hp
 rw [←c1] at fin
 rw [aa]
 exact fin
def uz (s:gA) (k:Nat) (f:pK→pK):gA:={ s with credits:=s.credits.modify k f }
section
variable {d:Ad}{H H':Hp}{L:Ly}{s s':gA}
theorem KD {k:Nat}{f:pK→pK}{n:Nm}(h:n≠.cr k):obj d L (uz s k f) n=obj d L s n:=by
 cases n with
 |ct=>
  show some (HO.lst (refs L (s.credits.modify k f).length .cr))=_
  rw [bU]
  rfl
 |cr m=>
  show (s.credits.modify k f)[m]?.map _=s.credits[m]?.map _
  have hk:¬k=m:=λe=>h (by rw [e])
  rw [bT]
  simp [hk]
 |_=>rfl
theorem Oq {k:Nat}{f:pK→pK}{c:pK}(hc:s.credits[k]?=some c):obj d L (uz s k f) (.cr k)=some (.ins d.gq (L.x (.cr k)) (zB (f c))):=by
 show (s.credits.modify k f)[k]?.map _=_
 rw [bT,hc]
 simp
theorem Rep.uz (R:Rep d H L s) {k:Nat}{f:pK→pK}{c:pK}(hc:s.credits[k]?=some c):Rep d (upd H (L.a (.cr k)) (.ins d.gq (L.x (.cr k)) (zB (f c)))) L (My.uz s k f):=
 R.put (tw hc) (Oq hc) fun n hn=>KD hn
theorem gy.uz (R:Rep d H L s) {k:Nat}{f:pK→pK}{c:pK}(hc:s.credits[k]?=some c):gy d H L s (upd H (L.a (.cr k)) (.ins d.gq (L.x (.cr k)) (zB (f c)))) L (My.uz s k f):=
 gy.put R (tw hc) (Oq hc) fun n hn=>KD hn
end
def pT (s:gA) (ks:List Nat) (f:pK→pK):gA:=ks.foldl (λs k=>uz s k f) s
theorem BI (s:gA) (ks:List Nat) (k:Nat) (f:pK→pK):pT s (ks++[k]) f=uz (pT s ks f) k f:=by
 unfold pT
 rw [fA]
 rfl
theorem KG (f:pK→pK):∀(ks:List Nat) (s:gA),pT s ks f={ s with credits:=(pT s ks f).credits }
 |[],s=>rfl
 |k::r,s=>by
  show pT (uz s k f) r f=_
  rw [KG f r]
  rfl
theorem yU (f:pK→pK):∀(ks:List Nat) (s:gA) (m:Nat),ks.Nodup→(pT s ks f).credits[m]?=if m∈ks then s.credits[m]?.map f else s.credits[m]?
 |[],s,m,_=>rfl
 |k::r,s,m,hn=>by
  obtain ⟨h1,h2⟩:=bF.mp hn
  show (pT (uz s k f) r f).credits[m]?=_
  rw [yU f r _ m h2]
  show (if m∈r then ((s.credits.modify k f)[m]?).map f else (s.credits.modify k f)[m]?)=_
  rw [bT]
  by_cases hk:k=m
  ·subst hk
   rw [if_neg h1,if_pos az]
   simp
  ·have hk2:¬m=k:=λq=>hk q.symm
   by_cases hr:m∈r
   ·rw [if_pos hr,if_pos (ag _ hr)]
    simp [hk]
   ·rw [if_neg hr,if_neg (λz=>by
     rcases aB.mp z with q|q
     ·exact hk2 q
     ·exact hr q)]
    simp [hk]
def KH (L:Ly) (k:Nat):V:=.ref (L.a (.cr k))
def Tb (s:gA) (p:pK→Bool):List Nat:=(aQ s.credits.length).filter fun k=>(s.credits[k]?.map p).getD false
theorem RC (s:gA) (p:pK→Bool):(Tb s p).Nodup:=fI.sublist e6 fD
theorem HA {s:gA}{p:pK→Bool}{k:Nat}:k∈Tb s p↔∃c,s.credits[k]?=some c∧p c=true:=by
 unfold Tb
 rw [dc,aM]
 constructor
 ·rintro ⟨h1,h2⟩
  obtain ⟨c,hc⟩:=gu h1
  rw [hc] at h2
  exact ⟨c,hc,h2⟩
 ·rintro ⟨c,h1,h2⟩
  exact ⟨iZ h1,by rw [h1];exact h2⟩
theorem WZ (s:gA) (p:pK→Bool):(Tb s p).filterMap (λk=>s.credits[k]?)=s.credits.filter p:=by
 have e:=vR s.credits p s.credits.length (ai _)
 rw [bg] at e
 exact e
theorem KI {α:Type}(q:Nat→Bool) (g:Nat→α):∀l:List Nat,((l.map fun j=>if q j=true then some (g j) else none).filterMap id)=(l.filter q).map g
 |[]=>rfl
 |j::r=>by
  rw [aG,bj,cc,KI q g r]
  by_cases h:q j=true
  ·rw [if_pos h,if_pos h]
   rfl
  ·rw [if_neg h,if_neg h]
   rfl
theorem Ot {α:Type}{f:Nat→Option α}:∀{l:List Nat},(∀k∈l,∃c,f k=some c)→(l.filterMap f).length=l.length∧∀i:Nat,(l.filterMap f)[i]?=l[i]?.bind f
 |[],_=>⟨rfl,λi=>rfl⟩
 |k::r,h=>by
  obtain ⟨c,hc⟩:=h k az
  obtain ⟨i1,i2⟩:=Ot (l:=r) fun y hy=>h y (ag _ hy)
  rw [bj,hc]
  refine ⟨by rw [aw,aw,i1],λi=>?_⟩
  cases i with
  |zero=>exact hc.symm
  |succ i=>exact i2 i
section
variable {d:Ad}{H:Hp}{L:Ly}{s:gA}{Q:VK}{E:XK}{K:ab}
theorem RD {k m:Nat}{a:Addr}{ks:List Nat}{f:pK→pK}{tb:TS}{D:Ends}{σ:L2.St}(hk:σ[k]?=some (some (.ref a))) (hm:m<σ.length) (R:Rep d H L s) (ha:H a=some (.lst (ks.map (KH L)))) (ho:Out d L s a)
  (hp:∀x∈ks,∃c,s.credits[x]?=some c) (hn:ks.Nodup)
  (hb:∀(x:Nat) (c:pK) (s1:gA) (H1:Hp) (N:L2.St→Hp→Prop),x∈ks→Rep d H1 L s1→s1.credits[x]?=some c→s.credits[x]?=some c→(∀H2,H2=upd H1 (L.a (.cr x)) (.ins d.gq (L.x (.cr x)) (zB (f c)))→N (σ.set m (some (KH L x))) H2)→tb { D with nx:=N,ct:=N,bk:=D.nx } (σ.set m (some (KH L x))) H1)
  (hd:∀σ' H',(∃v,σ'=σ.set m v)→Rep d H' L (pT s ks f)→gy d H L s H' L (pT s ks f)→D.nx σ' H'):A3 (jy K (fV k)) (gr m) tb D σ H:=by
 refine ⟨_,hk,a,rfl,⟨_,gE.of ha⟩,jg (K:=K) (a:=a) (xs:=ks.map (KH L)) (λi σ' H'=>(∃v,σ'=σ.set m v)∧Rep d H' L (pT s (ks.take i) f)∧gy d H L s H' L (pT s (ks.take i) f)) ?_ ?_ ?_ ?_⟩
 ·refine ⟨⟨σ[m],?_⟩,R,gy.same (gi.refl H)⟩
  exact (eQ hm).symm
 ·rintro i σ' H' _ ⟨_,_,kp⟩
  exact gE.of (kp a _ ha ho).1
 ·rintro i x σ' H' hx ⟨⟨v,rfl⟩,R1,k1⟩
  obtain ⟨y,hy,rfl⟩:=ji hx
  have my:=ax hy
  obtain ⟨c,hc⟩:=hp y my
  have ny:y∉ks.take i:=λz=>by
   obtain ⟨j,hj⟩:=aR z
   have Zf:=iZ hj
   rw [bp] at Zf
   rw [dC] at hj
   have Zg:j<i:=by omega
   rw [if_pos Zg] at hj
   have:=J0 hn hj hy
   omega
  have Rt:(pT s (ks.take i) f).credits[y]?=some c:=by
   rw [yU f _ s y (fI.sublist (dI _ _) hn),if_neg ny]
   exact hc
  show tb _ ((σ.set m v).set m (some (KH L y))) H'
  rw [ff]
  refine hb y c _ H' _ my R1 Rt hc fun H2 e2=>⟨⟨_,rfl⟩,?_,?_⟩
  ·rw [take_snoc hy,BI,e2]
   exact R1.uz Rt
  ·rw [take_snoc hy,BI,e2]
   exact k1.trans (gy.uz R1 Rt)
 ·rintro σ' H' ⟨hv,R1,k1⟩
  rw [aa,bg] at R1 k1
  exact hd σ' H' hv R1 k1
end
def JA (s:gA) (t:iF) (c:gL):Bool:=eN s.today t c
def yw (s:gA) (t:iF) (_:Nat) (c:gL):gL:=if JA s t c=true then { c with status:=.runOut } else c
def nr (s:gA) (c:pK):Bool:=decide (c.last<s.today)&&decide (0<c.amount)
def nu (s:gA):gA:={ s with credits:=s.credits.map fun c=>if c.last<s.today then { c with amount:=0 } else c }
def vS (d:Ad):Sp:=λvs H Q _=>∃(L:Ly) (s:gA),vs=[.ref (L.a .hs)]∧Rep d H L s∧gN s∧
 ∀H' p,Rep d H' L (jD s (yw s))→gy d H L s H' L (jD s (yw s))→H' p=some (.lst ((sE s (JA s) s.tickets.length).map (o5 L)))→Out d L (jD s (yw s)) p→Q (.ref p) H'
def vT (d:Ad):Sp:=λvs H Q _=>∃(L:Ly) (s:gA),vs=[.ref (L.a .hs)]∧Rep d H L s∧gN s∧
 ∀H' p,Rep d H' L (nu s)→gy d H L s H' L (nu s)→H' p=some (.lst (vI ((s.credits.filter (nr s)).map fun c=>((c.amount:Nat):Int))))→Out d L (nu s) p→Q (.ref p) H'
def RE (d:Ad):Sp:=λvs H Q _=>∃(L:Ly) (s:gA) (y:Nat),vs=[.ref (L.a .hs),vN y]∧Rep d H L s∧gN s∧DB d H L s (.clock y) Q
theorem RF {p:iF→gL→Bool}{i:Nat}{t:iF}(h:∀c,p t c=false):Kr p i t=[]:=by
 apply List.eq_nil_iff_forall_not_mem.mpr
 intro x hx
 obtain ⟨_,c,_,h3⟩:=AK.mp hx
 rw [h c] at h3
 cases h3
theorem Zj (x:aJ):LR (mJ x) [.int 0,.int 9]=(x==.open_||x==.suspended):=by cases x<;>rfl
abbrev pU (P w K mg base) (d:Ad):=Fd P w K mg base 1 "run_out_coupons" ["house"] (vS d)
def vU (K:ab) (d:Ad):TS:=(g6 (jw (pD gF) (gr 1)) (g6 (A3 (jy K (tF d.fP (fV 0) "tickets")) (gr 2) (pC (kH (km TH (tF d.fX (fV 2) "last") (tF d.fP (fV 0) "today"))) (AZ (tBM K "list" NM (fV 1) (fT (yt (jy K (tF d.fX (fV 2) "coupons")) (gr 3) (kH (km (X0 K false) (tF d.fQ (fV 3) "status") (A5 (fT (tC (.int 0)) (fT (tC (.int 9)) gF))))) (fV 3) [3]) gF))) lD)) (g6 (A3 (jy K (fV 1)) (gr 3) (sF d.fQ (fV 3) (tC (.int 8)) "status")) (jZ (fV 1)))))
theorem vV (T:Txt P w K mg d) (G:FG K mg "run_out_coupons" (top 63)):pU P w K mg base d:=by
 have S:gf ["house","ended","ticket","coupon"] ["house"] (fS (top 63)):=lu
 refine G.fd S (λ_ _ _ _ _ _=>Dl fun _=>rfl) fun _ _ _ _ _ H vs Q E hr h=>⟨vU K d ,(fL (gj (i:=1) S.nd rfl (by first|exact ak rfl|exact au rfl) (gG fM)) (fL (jz PassesOwn.never rfl (gC (gw T.fP T.gW (pv 0))) (gk (i:=2) S.nd rfl (by first|exact ak rfl|exact au rfl)) (fO (gJ (gg FJ (gw T.fX T.kf (pv 2)) (gw T.fP T.iq (pv 0)) (gm _)) (fO (jo (oU aP bY bZ mM (pv 1) (fY (ko rfl S.nd (gC (gw T.fX T.gD (pv 2))) (gS (own:=[("coupon",3)]) (by show kX ["house","ended","ticket","coupon"] (fS (top 63)) _ _=true;decide +kernel)) (λ_ _ _ _ _=>(gk (i:=3) S.nd rfl (by first|exact ak rfl|exact au rfl))) (λ_ _ _ _ _=>(pJ (gg qD (gw T.fQ T.gc (pv 3)) (i6 (fY (fR T.lX) (fY (fR T.j8) fM))) (by with_unfolding_all rfl)))) (λ_ _ _ _ _=>(pv 3))) fM)))) gd))) (fL (jz PassesOwn.never rfl (gC (pv 1)) (gk (i:=3) S.nd rfl (by first|exact ak rfl|exact au rfl)) (fO (iT T.fQ T.gc (pv 3) (fR T.oP)))) (fO (fW (pv 1)))))),?_⟩
 obtain ⟨L,s,rfl,R,I,q⟩:=h
 have Zh:256≤sizeLine:=by decide
 refine ⟨aK _,λp hp=>?_⟩
 have sp:=f9 (o:=HO.lst []) hp
 refine ⟨_,rfl,_,_,_,_,rfl,sp _ _ R.hs,i7 L s,_,rfl,⟨_,gE.of (sp _ _ R.tk)⟩,jg (K:=K) (a:=L.a .tk) (xs:=refs L s.tickets.length .tc) (λi σ H'=>∃v2 v3:Option V,σ=[some (.ref (L.a .hs)),some (.ref p),v2,v3]∧gi H H'∧
  H' p=some (.lst ((sE s (JA s) i).map (o5 L)))) ⟨none,none,rfl,sp,fN⟩ (λi σ H' _ ⟨_,_,_,s1,_⟩=>gE.of (s1 _ _ R.tk)) ?_ ?_⟩
 ·rintro i x σ H' hx ⟨v2,v3,rfl,s1,pG⟩
  obtain ⟨hi,rfl⟩:=iQ hx
  obtain ⟨t,ht⟩:=gu hi
  have R1:=R.same s1
  refine (U rfl ⟨_,_,_,_,rfl,R1.tc ht,Bl L i t,U rfl ⟨_,_,_,_,rfl,R1.hs,lh L s,ad (ac (qG (λhl=>?_) (λhl=>?_)))⟩⟩)
  ·have hl:t.last<s.today:=by
    have:=of_decide_eq_true hl
    omega
   refine (U rfl ⟨.inl ⟨rfl,_,gE.of pG⟩,_,rfl,_,_,_,_,rfl,R1.tc ht,iB L i t,_,rfl,⟨_,gE.of (R1.cl ht)⟩,λD hD=>Ks (p:=JA s) R1 I ht (by show 3<4;decide) (λx c H2 Qb hc h2 kk=>?_) hD fun H2 s2 LU=>?_⟩)
   ·obtain ⟨b,dx,rfl,hb⟩:=hc
    refine (U rfl ⟨b,dx,_,_,rfl,hb,iy c,by show 2≤sizeLine;decide,λg hg=>⟨g,_,rfl,.inr (mZ.of fN),rfl,rfl,_,rfl,?_⟩⟩)
    have e:JA s t c=LR (mJ c.status) [.int 0,.int 9]:=by
     unfold JA eN
     rw [decide_eq_true hl,br,Zj]
    have:=kk _ (f9 (o:=HO.tup [.int 0,.int 9]) hg)
    rw [e] at this
    exact this
   ·have np:p≠D:=f6 pG hD
    have Qg:=BD I (JA s) (i+1) hi
    rw [lN ht,ay] at Qg
    have h64:=I.AB
    refine ⟨p,D,_,_,rfl,rfl,s2 _ _ pG,LU,by rw [aa,aa];omega,?_⟩
    refine ⟨_,_,rfl,iG (s1.trans s2) hp,?_⟩
    rw [fN,lN ht,bP]
  ·have hl:¬t.last<s.today:=λz=>hl (decide_eq_true (by omega))
   refine ⟨_,_,rfl,s1,?_⟩
   rw [lN ht,RF (λc=>by unfold JA eN;rw [decide_eq_false hl];rfl),bW]
   exact pG
 ·rintro σ H' ⟨v2,v3,rfl,s1,pG⟩
  rw [gH] at pG
  have R1:=R.same s1
  refine uq (f:=λc=>{ c with status:=.runOut }) rfl (by show 3<4;decide) R1 pG (R.out hp) ku (vQ _ _ _) (λx y s9 H9 N hx R9 hc WY kk=>?_) fun σ' H9 hv R9 k9=>?_
  ·obtain ⟨t,g1,g2⟩:=jx hc
   exact (U rfl ⟨_,_,_,rfl,R9.cp g1 g2,mN y,kk _ rfl⟩)
  ·obtain ⟨v,rfl⟩:=hv
   have e:jj s (sE s (JA s) s.tickets.length) (λc=>{ c with status:=.runOut })=jD s (yw s):=by
    have z:=rE s (λ_ _ c=>c) (JA s) (λc=>{ c with status:=.runOut })
    rw [Uh] at z
    exact z
   obtain ⟨l1,o1⟩:=k9 p _ pG (R.out hp)
   rw [e] at R9 k9 o1
   exact (U rfl (q H9 p R9 ((gy.same s1).trans k9) l1 o1))
theorem Uo (s:gA):pT s (Tb s (nr s)) (λc=>{ c with amount:=0 })=nu s:=by
 rw [KG]
 unfold nu
 congr 1
 apply bR
 intro m
 rw [yU _ _ _ _ (RC _ _),ah]
 cases e:s.credits[m]? with
 |none=>
  split<;>rfl
 |some c=>
  by_cases h:m∈Tb s (nr s)
  ·rw [if_pos h]
   obtain ⟨c',h1,h2⟩:=HA.mp h
   have ec:c=c':=Option.some.inj (e.symm.trans h1)
   subst ec
   unfold nr at h2
   rw [aj] at h2
   show some _=some _
   dsimp only
   rw [if_pos (of_decide_eq_true h2.1)]
  ·rw [if_neg h]
   show some c=some _
   dsimp only
   by_cases hl:c.last<s.today
   ·rw [if_pos hl]
    have ha:¬0<c.amount:=λz=>h (HA.mpr ⟨c,e,by unfold nr;rw [decide_eq_true hl,decide_eq_true z];rfl⟩)
    have ha:c.amount=0:=by omega
    obtain ⟨c1,c2,c3⟩:=c
    dsimp only at ha
    subst ha
    rfl
   ·rw [if_neg hl]
theorem HB (c:pK):(zB c).length<1000:=by show 3<1000;decide
abbrev pV (P w K mg base) (d:Ad):=Fd P w K mg base 1 "run_out_credits" ["house"] (vT d)
def vW (K:ab) (d:Ad):TS:=(g6 (jw (yt (jy K (tF d.fP (fV 0) "credit_table")) (gr 1) (VL (kH (km TH (tF d.gq (fV 1) "last") (tF d.fP (fV 0) "today"))) (kH (km TJ (tF d.gq (fV 1) "amount") (tC (.int 0))))) (fV 1) [1]) (gr 2)) (g6 (jw (yt (jy K (fV 2)) (gr 1) mI (tF d.gq (fV 1) "amount") [1]) (gr 3)) (g6 (A3 (jy K (fV 2)) (gr 1) (sF d.gq (fV 1) (tC (.int 0)) "amount")) (jZ (fV 3)))))
theorem vX (T:Txt P w K mg d) (G:FG K mg "run_out_credits" (top 64)):pV P w K mg base d:=by
 have S:gf ["house","credit","old","lost"] ["house"] (fS (top 64)):=lu
 refine G.fd S (λ_ _ _ _ _ _=>Dl fun _=>rfl) fun _ _ _ _ _ H vs Q E hr h=>⟨vW K d ,(fL (oV rfl S.nd rfl rfl (qY rfl rfl rfl rfl) (gC (gw T.fP T.gB (pv 0))) (gS (own:=[("credit",1)]) (by show kX ["house","credit","old","lost"] (fS (top 64)) _ _=true;decide +kernel)) (λ_ _ _ _ _=>(gk (i:=1) S.nd rfl (by first|exact ak rfl|exact au rfl))) (λ_ _ _ _ _=>(pJ (PW.pt (AX (gg FJ (gw T.gq T.lq (pv 1)) (gw T.fP T.iq (pv 0)) (gm _)) (Ax (gg JH (gw T.gq T.gZ (pv 1)) gb (gm _))))))) (λ_ _ _ _ _=>(pv 1))) (fL (oV rfl S.nd rfl rfl (qY rfl rfl rfl rfl) (gC (pv 2)) (gS (own:=[("credit",1)]) (by show kX ["house","credit","old","lost"] (fS (top 64)) _ _=true;decide +kernel)) (λ_ _ _ _ _=>(gk (i:=1) S.nd rfl (by first|exact ak rfl|exact au rfl))) (λ_ _ _ _ _=>iJ) (λ_ _ _ _ _=>(gw T.gq T.gZ (pv 1)))) (fL (jz PassesOwn.never rfl (gC (pv 2)) (gk (i:=1) S.nd rfl (by first|exact ak rfl|exact au rfl)) (fO (iT T.gq T.gZ (pv 1) gb))) (fO (fW (pv 3)))))),?_⟩
 obtain ⟨L,s,rfl,R,I,q⟩:=h
 have s64:64≤sizeLine:=by decide
 have c64:=I.N6
 refine (U rfl ⟨_,_,_,_,rfl,R.hs,ik L s,_,rfl,⟨_,gE.of R.ct⟩,λD hD=>lcF (zs:=(aQ s.credits.length).map fun k=>if (s.credits[k]?.map (nr s)).getD false=true then some (KH L k) else none) (gE.of R.ct) (by rw [gH];omega) (by rw [aa,dM,gH]) (λk x z H2 Qz hx hz h2 kk=>?_) hD fun H1 s1 HC=>?_⟩)
 ·obtain ⟨hk,rfl⟩:=iQ hx
  obtain ⟨c,hc⟩:=gu hk
  have hz:(if nr s c=true then some (KH L k) else none)=z:=by
   rw [ah,dv hk] at hz
   have hz:=Option.some.inj hz
   dsimp only at hz
   rw [hc] at hz
   exact hz
  have hC:=h2 _ _ (R.cr hc)
  refine (U rfl ⟨_,_,_,_,rfl,hC,Ke c,U rfl ⟨_,_,_,_,rfl,h2 _ _ R.hs,lh L s,ad (ac ?_)⟩⟩)
  unfold nr at hz
  by_cases h1:c.last<s.today
  ·rw [show decide ((c.last:Int)<(s.today:Int))=true from decide_eq_true (by omega)]
   rw [decide_eq_true h1,br] at hz
   refine gR (U rfl ⟨_,_,_,_,rfl,hC,lW c,ad (ac ?_)⟩)
   by_cases h3:0<c.amount
   ·rw [show decide ((0:Int)<(c.amount:Int))=true from decide_eq_true (by omega)]
    rw [decide_eq_true h3,if_pos rfl] at hz
    subst hz
    exact gR (U rfl (kk _ (gi.refl _)))
   ·rw [show decide ((0:Int)<(c.amount:Int))=false from decide_eq_false (by omega)]
    rw [decide_eq_false h3] at hz
    have hz:none=z:=hz
    subst hz
    exact f7 (kk _ (gi.refl _))
  ·rw [show decide ((c.last:Int)<(s.today:Int))=false from decide_eq_false (by omega)]
   rw [decide_eq_false h1,dw] at hz
   have hz:none=z:=hz
   subst hz
   exact f7 (f7 (kk _ (gi.refl _)))
 ·rw [KI] at HC
  have HC:H1 D=some (.lst ((Tb s (nr s)).map (KH L))):=HC
  have R1:=R.same s1
  have RG:∀k∈Tb s (nr s),∃c,s.credits[k]?=some c:=λk hk=>let ⟨c,h1,_⟩:=HA.mp hk;⟨c,h1⟩
  have lk:(Tb s (nr s)).length≤s.credits.length:=by
   unfold Tb
   exact bh (da _ _) (by rw [dM];exact ai _)
  obtain ⟨fl,fg⟩:=Ot (f:=λk=>s.credits[k]?) RG
  rw [WZ] at fl fg
  refine (U rfl ⟨D,rfl,⟨_,gE.of HC⟩,λD2 LU=>Vo (ys:=vI ((s.credits.filter (nr s)).map fun c=>((c.amount:Nat):Int))) (gE.of HC) (by rw [aa];omega) (by rw [aa,aa,aa,fl]) (λi x y H2 Qy hx hy h2 kk=>?_) LU fun H3 s3 Y8=>?_⟩)
  ·obtain ⟨k,hk,rfl⟩:=ji hx
   obtain ⟨b,hb,rfl⟩:=jU hy
   obtain ⟨c,hc⟩:=RG k (ax hk)
   rw [ah,fg,hk] at hb
   have hb:(s.credits[k]?).map _=some b:=hb
   rw [hc] at hb
   have hb:((c.amount:Nat):Int)=b:=Option.some.inj hb
   subst hb
   exact (U rfl ⟨_,_,_,_,rfl,h2 _ _ (R1.cr hc),lW c,kk _ (gi.refl _)⟩)
  ·have aaB:=s3 _ _ HC
   have o3:Out d L s D2:=R1.out LU
   refine RD (f:=λc=>{ c with amount:=0 }) rfl (by show 1<4;decide) (R1.same s3) aaB (R.out hD) RG (RC _ _) (λx c s9 H9 N hx R9 hc WY kk=>?_) fun σ' H9 hv R9 k9=>?_
   ·exact (U rfl ⟨_,_,_,rfl,R9.cr hc,HB c,kk _ rfl⟩)
   ·obtain ⟨v,rfl⟩:=hv
    obtain ⟨l1,o1⟩:=k9 D2 _ Y8 o3
    rw [Uo] at R9 k9 o1
    exact (U rfl (q H9 D2 R9 ((gy.same (s1.trans s3)).trans k9) l1 o1))
def tP (s:gA) (y:Nat):gA:={ s with today:=y }
def xI (s:gA):List gL:=Dm s (sE s (JA s) s.tickets.length)
def vk (s:gA):List pK:=s.credits.filter (nr s)
def tQ (s:gA) (n:Nat):gA:={ s with kept:=n }
theorem xJ {α β:Type}(f:α→β):∀l:List α,(l.mapIdx fun _ a=>f a)=l.map f
 |[]=>rfl
 |a::r=>by
  rw [fC,aG,xJ f r]
theorem RH (s:gA) (y:Nat):aq s (.clock y)=if y<s.today then (s,[(-13:Int)]) else
  (tQ (nu (jD (tP s y) (yw (tP s y)))) (s.kept+((xI (tP s y)).map (·.value)).sum+((vk (tP s y)).map (·.amount)).sum),
   [(0:Int),((xI (tP s y)).length:Nat),(((xI (tP s y)).map (·.value)).sum:Nat),(((xI (tP s y)).map (·.tax)).sum:Nat),((vk (tP s y)).length:Nat),(((vk (tP s y)).map (·.amount)).sum:Nat)]):=by
 unfold xI
 rw [Kt]
 unfold aq
 by_cases h:y<s.today
 ·rw [if_pos h]
  dsimp only
  rw [if_pos h]
 ·rw [if_neg h]
  dsimp only
  rw [if_neg h]
  have e:jD (tP s y) (yw (tP s y))={ s with today:=y,tickets:=s.tickets.map fun t=>{ t with coupons:=t.coupons.map fun c=>if eN y t c=true then { c with status:=.runOut } else c } }:=by
   unfold jD tP
   dsimp only
   congr 1
   apply cD
   intro t _
   congr 1
   exact xJ (λc=>if eN y t c=true then { c with status:=.runOut } else c) t.coupons
  rw [e]
  rfl
abbrev Ou (P w K mg base) (d:Ad):=Fd P w K mg base 2 "clock" ["house","day"] (RE d)
theorem RI (T:Txt P w K mg d) (xK:pU P w K mg base d) (xM:pV P w K mg base d) (o8:rG P w K mg base d) (jM:mf P w K mg base d) (G:FG K mg "clock" (top 62)):Ou P w K mg base d:=by
 have S:gf ["house","day","coupons","values","lost"] ["house","day"] (fS (top 62)):=lu
 refine G.fd S (λ_ _ _ _ _ _=>MI fun _ _=>rfl) fun _ _ _ _ _ H vs Q E hr h=>⟨_,(fL (gJ (gg FJ (pv 1) (gw T.fP T.iq (pv 0)) (gm _)) (fO (fW (gG (fY (fR T.lR) fM)))) gd) (fL (iT T.fP T.iq (pv 0) (pv 1)) (fL (gj (i:=2) S.nd rfl (by first|exact ak rfl|exact au rfl) (fU xK (hr.mono (by decide)) rfl (fY (pv 0) fM))) (fL (gj (i:=3) S.nd rfl (by first|exact ak rfl|exact au rfl) (fU jM (hr.mono (by decide)) rfl (fY (pv 2) fM))) (fL (gj (i:=4) S.nd rfl (by first|exact ak rfl|exact au rfl) (fU xM (hr.mono (by decide)) rfl (fY (pv 0) fM))) (fL (iT T.fP T.iH (pv 0) (g9 ip (g9 ip (gw T.fP T.iH (pv 0)) (pv 3)) (gp (pZ rfl) rfl T.qK boot_sum (fY (pv 4) fM)))) (fO (fW (gG (fY (fR T.gx) (fY (gp gz rfl T.jb aI (fY (pv 2) fM)) (fY (pv 3) (fY (fU o8 (hr.mono (by decide)) rfl (fY (pv 2) fM)) (fY (gp gz rfl T.jb aI (fY (pv 4) fM)) (fY (gp (pZ rfl) rfl T.qK boot_sum (fY (pv 4) fM)) fM))))))))))))))),?_⟩
 obtain ⟨L,s,y,rfl,R,I,q⟩:=h
 have hs:=RH s y
 refine (U rfl (U rfl ⟨_,_,_,_,rfl,R.hs,lh L s,ad (ac ?_)⟩))
 by_cases h1:y<s.today
 ·rw [if_pos h1] at hs
  rw [show decide ((y:Int)<(s.today:Int))=true from decide_eq_true (by omega)]
  exact gR ⟨by show 1≤sizeLine;decide,λp hp=>q.ref hs R (gi.refl H) hp⟩
 rw [if_neg h1] at hs
 rw [show decide ((y:Int)<(s.today:Int))=false from decide_eq_false (by omega)]
 refine f7 ?_
 refine (U rfl (U rfl ⟨_,_,_,rfl,R.hs,(by show 9<1000;decide),?_⟩))
 rw [Pf]
 have R1:Rep d _ L (tP s y):=R.lK (a:=y) (b:=s.cashIn) (c:=s.cashOut) (e:=s.kept)
 have k1:gy d H L s _ L (tP s y):=gy.lK R (a:=y) (b:=s.cashIn) (c:=s.cashOut) (e:=s.kept)
 have I1:gN (tP s y):=I.Y3 y s.cashIn s.cashOut s.kept
 have hk1:s.kept=(tP s y).kept:=rfl
 rw [hk1] at hs
 change _ at hs
 generalize upd H (L.a .hs) _=H1 at R1 k1 ⊢
 generalize X9:tP s y=s1 at *
 refine (U rfl ⟨L,s1,rfl,R1,I1,λH2 p R2 k2 hp op=>?_⟩)
 have sm:∀x∈sE s1 (JA s1) s1.tickets.length,∃c,iP (jD s1 (yw s1)) x.1 x.2=some c:=λx hx=>let ⟨y,hy⟩:=ku x hx;qP hy
 have n1:=Oo I1 (JA s1)
 have an:=pR sm
 have kv:∀t j x,(yw s1 t j x).value=x.value∧(yw s1 t j x).tax=x.tax:=λt j x=>by
  unfold yw
  split<;>exact ⟨rfl,rfl⟩
 refine (U rfl ⟨p,_,_,rfl,hp,tN R2 sm,by omega,λH3 s3=>?_⟩)
 have I2:gN (jD s1 (yw s1)):=I1.Rb fun t _=>⟨rfl,dF,rfl⟩
 refine (U rfl ⟨L,jD s1 (yw s1),rfl,R2.same s3,I2,λH4 p2 R4 k4 yu op2=>?_⟩)
 obtain ⟨hp4,op4⟩:=k4 p _ (s3 _ _ hp) op
 have e2:nr (jD s1 (yw s1))=nr s1:=rfl
 have e3:(jD s1 (yw s1)).credits=s1.credits:=rfl
 rw [e2,e3] at yu
 have k04:=((k1.trans k2).trans (gy.same s3)).trans k4
 refine (U rfl ⟨_,_,_,_,rfl,R4.hs,tE L _,_,rfl,_,_,rfl,rfl,_,rfl,p2,_,rfl,gE.of yu,_,_,rfl,rfl,_,rfl,_,_,_,rfl,R4.hs,(by show 9<1000;decide),?_⟩)
 have el:(((s1.credits.filter (nr s1)).map fun c=>((c.amount:Nat):Int))).sum=(((vk s1).map (·.amount)).sum:Nat):=tO _ _
 have ev:((Dm (jD s1 (yw s1)) (sE s1 (JA s1) s1.tickets.length)).map (·.value)).sum=((xI s1).map (·.value)).sum:=by
  rw [AL (s:=s1) fun x hx=>yT (λt j x=>(kv t j x).1) x.1 x.2]
  rfl
 have et:((Dm (jD s1 (yw s1)) (sE s1 (JA s1) s1.tickets.length)).map (·.tax)).sum=((xI s1).map (·.tax)).sum:=by
  rw [AL (s:=s1) fun x hx=>yT (λt j x=>(kv t j x).2) x.1 x.2]
  rfl
 have ek:V.int (((nu (jD s1 (yw s1))).kept:Int)+((((Dm (jD s1 (yw s1)) (sE s1 (JA s1) s1.tickets.length)).map (·.value)).sum:Nat):Int)+(((s1.credits.filter (nr s1)).map fun c=>((c.amount:Nat):Int))).sum)=vN (s1.kept+((xI s1).map (·.value)).sum+((vk s1).map (·.amount)).sum):=by
  rw [el,ev]
  show V.int ((s1.kept:Int)+_+_)=V.int _
  congr 1
 dsimp only
 rw [ek,Bn]
 have R5:Rep d _ L (tQ (nu (jD s1 (yw s1))) (s1.kept+((xI s1).map (·.value)).sum+((vk s1).map (·.amount)).sum)):=R4.lK (a:=(nu (jD s1 (yw s1))).today) (b:=(nu (jD s1 (yw s1))).cashIn) (c:=(nu (jD s1 (yw s1))).cashOut) (e:=s1.kept+((xI s1).map (·.value)).sum+((vk s1).map (·.amount)).sum)
 have k5:gy d H4 L (nu (jD s1 (yw s1))) _ L (tQ (nu (jD s1 (yw s1))) (s1.kept+((xI s1).map (·.value)).sum+((vk s1).map (·.amount)).sum)):=gy.lK R4 (a:=(nu (jD s1 (yw s1))).today) (b:=(nu (jD s1 (yw s1))).cashIn) (c:=(nu (jD s1 (yw s1))).cashOut) (e:=s1.kept+((xI s1).map (·.value)).sum+((vk s1).map (·.amount)).sum)
 generalize upd H4 (L.a .hs) _=H5 at R5 k5 ⊢
 obtain ⟨Zk,op5⟩:=k5 p _ hp4 op4
 obtain ⟨Zl,aa3⟩:=k5 p2 _ yu op2
 have sm5:∀x∈sE s1 (JA s1) s1.tickets.length,∃c,iP (tQ (nu (jD s1 (yw s1))) (s1.kept+((xI s1).map (·.value)).sum+((vk s1).map (·.amount)).sum)) x.1 x.2=some c:=sm
 have aaC:=tN R5 sm5
 refine (U rfl ⟨p,_,rfl,.inl (gE.of Zk),_,rfl,_,rfl,p,_,_,rfl,Zk,aaC,by rw [pR sm5];omega,λH6 s6=>?_⟩)
 refine (U rfl ⟨p2,_,rfl,.inl (gE.of (s6 _ _ Zl)),_,rfl,p2,_,rfl,gE.of (s6 _ _ Zl),by show 6≤sizeLine;decide,λpp Tc=>?_⟩)
 have fin:=q.done hs (R5.same s6) ((k04.trans k5).trans (gy.same s6)) Tc
 have c1:(sE s1 (JA s1) s1.tickets.length).length=(xI s1).length:=(pR ku).symm
 rw [←el,←c1,←et] at fin
 rw [aa,aa,aa,ev]
 exact fin
section
variable {d:Ad}{H0 H1 H2:Hp}{L L1 L2:Ly}{s s1 s2:gA}
structure MR (d:Ad) (H1 H2:Hp) (L1 L2:Ly) (s1 s2:gA) (N:Nm→Prop):Prop where
 old:∀m o,obj d L2 s2 m=some o→¬N m→L2.a m=L1.a m∧∃o0,obj d L1 s1 m=some o0
 at_:∀m o,obj d L2 s2 m=some o→H2 (L2.a m)=some o
 out:∀m o,obj d L2 s2 m=some o→N m→Out d L1 s1 (L2.a m)
 one:∀m m' o o',obj d L2 s2 m=some o→obj d L2 s2 m'=some o'→N m→N m'→L2.a m=L2.a m'→m=m'
theorem MR.rep {N:Nm→Prop}(G:MR d H1 H2 L1 L2 s1 s2 N) (R:Rep d H1 L1 s1):Rep d H2 L2 s2:=by
 refine ⟨G.at_,λn m o p e f q=>?_⟩
 by_cases hn:N n
 ·by_cases hm:N m
  ·exact G.one n m o p e f hn hm q
  ·obtain ⟨f1,o0,f2⟩:=G.old m p f hm
   exact absurd (by rw [←f1,q]) (G.out n o e hn m o0 f2)
 ·obtain ⟨e1,o0,e2⟩:=G.old n o e hn
  by_cases hm:N m
  ·exact absurd (by rw [←e1,q]) (G.out m p f hm n o0 e2)
  ·obtain ⟨f1,p0,f2⟩:=G.old m p f hm
   exact R.inj n m o0 p0 e2 f2 (by rw [←e1,←f1,q])
theorem MR.keep {N:Nm→Prop}(G:MR d H1 H2 L1 L2 s1 s2 N) (k:gy d H0 L s H1 L1 s1) (hk:∀b o,H1 b=some o→Out d L1 s1 b→(∀m o,obj d L2 s2 m=some o→N m→L2.a m≠b)→H2 b=some o) (fr:∀m o,obj d L2 s2 m=some o→N m→H0 (L2.a m)=Option.none):gy d H0 L s H2 L2 s2:=λb o e hb=>by
 obtain ⟨e1,ob⟩:=k b o e hb
 have nw:∀m o',obj d L2 s2 m=some o'→N m→L2.a m≠b:=λm o' f hm q=>by
  have:=fr m o' f hm
  rw [q,e] at this
  cases this
 refine ⟨hk b o e1 ob nw,λm o' f=>?_⟩
 by_cases hm:N m
 ·exact nw m o' f hm
 ·obtain ⟨f1,o0,f2⟩:=G.old m o' f hm
  rw [f1]
  exact ob m o0 f2
end
def Ly.yG (L:Ly) (n:Nat) (t:Addr):Ly:={ L with a:=λm=>match m with
 |.rt i=>if i=n then t else L.a (.rt i)
 |m=>L.a m }
theorem o9 {L L':Ly}{n:Nat}{f:Nat→Nm}(h:∀i,i<n→L'.a (f i)=L.a (f i)):refs L' n f=refs L n f:=by
 unfold refs
 apply cD
 intro i hi
 rw [h i (aM.mp hi)]
section
variable {d:Ad}{H0 H1:Hp}{L:Ly}{s:gA}{t:Addr}{lo hi:Nat}
def nv (s:gA) (lo hi:Nat):gA:={ s with stock:=s.stock++[(lo,hi)] }
theorem Pq:refs (L.yG s.stock.length t) (s.stock.length+1) .rt=refs L s.stock.length .rt++[.ref t]:=by
 rw [qI,o9 (L':=L.yG s.stock.length t) (L:=L) fun i hi=>by show (if i=s.stock.length then t else L.a (.rt i))=_;rw [if_neg (by omega)]]
 congr 2
 show V.ref (if s.stock.length=s.stock.length then t else _)=_
 rw [if_pos rfl]
theorem Gr (R:Rep d H1 L s) (ht:H1 t=some (.tup [vN lo,vN hi])) (ot:Out d L s t):MR d H1 (upd H1 (L.a .rg) (.lst (refs L s.stock.length .rt++[.ref t]))) L (L.yG s.stock.length t) s (nv s lo hi) (λm=>m=.rt s.stock.length):=by
 have ne:t≠L.a .rg:=λq=>ot .rg _ rfl q.symm
 have rest:∀m o,m≠.rg→m≠.rt s.stock.length→obj d (L.yG s.stock.length t) (nv s lo hi) m=some o→(L.yG s.stock.length t).a m=L.a m∧obj d L s m=some o:=λm o h1 h2 e=>by
  cases m with
  |rg=>exact absurd rfl h1
  |rt i=>
   have hni:i≠s.stock.length:=λq=>h2 (by rw [q])
   refine ⟨by show (if i=s.stock.length then t else _)=_;rw [if_neg hni],?_⟩
   have e:(s.stock++[(lo,hi)])[i]?.map _=some o:=e
   show s.stock[i]?.map _=some o
   rcases aX i s.stock.length with z|z
   ·rw [cH z] at e
    exact e
   ·rw [bc (by simp;omega)] at e
    cases e
  |_=>exact ⟨rfl,e⟩
 have new:obj d (L.yG s.stock.length t) (nv s lo hi) (.rt s.stock.length)=some (.tup [vN lo,vN hi]):=by
  show (s.stock++[(lo,hi)])[s.stock.length]?.map _=_
  rw [bQ (ai _),dD]
  rfl
 have RJ:(L.yG s.stock.length t).a (.rt s.stock.length)=t:=by
  show (if s.stock.length=s.stock.length then t else _)=t
  rw [if_pos rfl]
 refine ⟨λm o e hm=>?_,λm o e=>?_,λm o e hm=>?_,λm m' o o' _ _ hm Yb _=>hm.trans Yb.symm⟩
 ·by_cases h1:m=.rg
  ·subst h1
   exact ⟨rfl,_,rfl⟩
  ·obtain ⟨a,b⟩:=rest m o h1 hm e
   exact ⟨a,o,b⟩
 ·by_cases h1:m=.rg
  ·subst h1
   have e:some (HO.lst (refs (L.yG s.stock.length t) (s.stock++[(lo,hi)]).length .rt))=some o:=e
   rw [ay,ba,Pq] at e
   show upd H1 (L.a .rg) _ (L.a .rg)=some o
   rw [fN]
   exact e
  ·by_cases h2:m=.rt s.stock.length
   ·subst h2
    rw [new] at e
    rw [RJ,fZ ne]
    rw [←e]
    exact ht
   ·obtain ⟨a,b⟩:=rest m o h1 h2 e
    rw [a,fZ fun q=>h1 (R.inj m .rg o _ b rfl q)]
    exact R.at_ m o b
 ·subst hm
  rw [RJ]
  exact ot
theorem Pr {L0:Ly}{s0:gA}(R:Rep d H1 L s) (ht:H1 t=some (.tup [vN lo,vN hi])) (ot:Out d L s t) (k:gy d H0 L0 s0 H1 L s) (fr:H0 t=Option.none):gy d H0 L0 s0 (upd H1 (L.a .rg) (.lst (refs L s.stock.length .rt++[.ref t]))) (L.yG s.stock.length t) (nv s lo hi):=by
 refine (Gr R ht ot).keep k (λb o e ob _=>?_) fun m o e hm=>?_
 ·rw [fZ fun q=>ob .rg _ rfl q.symm]
  exact e
 ·subst hm
  show H0 (if s.stock.length=s.stock.length then t else _)=_
  rw [if_pos rfl]
  exact fr
end
theorem Zm {s:gA}(I:gN s):s.tickets.length≤total s.stock:=by
 rcases Nat.eq_zero_or_pos s.tickets.length with h|h
 ·omega
 ·obtain ⟨t,ht⟩:=gu (l:=s.tickets) (i:=s.tickets.length - 1) (by omega)
  have:=Bh (I.Ga _ t ht)
  omega
def kG (d:Ad):Sp:=λvs H Q _=>∃(L:Ly) (s:gA),vs=[.ref (L.a .hs)]∧Rep d H L s∧gN s∧∀H',gi H H'→Q (vN (total s.stock - s.tickets.length)) H'
def hG (d:Ad):Sp:=λvs H Q _=>∃(L:Ly) (s:gA) (f:Nat),vs=[.ref (L.a .hs)]∧Rep d H L s∧gN s∧du s.stock s.tickets.length=some f∧Q (vN (ao f)) H
def RK (d:Ad):Sp:=λvs H Q _=>∃(L:Ly) (s:gA) (lo hi:Nat),vs=[.ref (L.a .hs),vN lo,vN hi]∧Rep d H L s∧gN s∧1≤lo∧hi≤999999999∧DB d H L s (.stock lo hi) Q
theorem Gs:∀(st:List (Nat×Nat)),(∀x∈st,x.1≤x.2)→(st.map fun r=>(r.2:Int) - (r.1:Int)+1).sum=(total st:Nat)
 |[],_=>rfl
 |x::r,h=>by
  have h1:=h x az
  rw [aG,cM,Gs r fun y hy=>h y (ag _ hy),Bg]
  omega
abbrev oM (P w K mg base) (d:Ad):=Fd P w K mg base 1 "forms_left" ["house"] (kG d)
def DJ (K:ab) (d:Ad):TS:=(jZ (km zy (vC (OQ K) (fT (yt (jy K (tF d.fP (fV 0) "ranges")) (wR K 2 (jP (gr 1) (jP (gr 2) wQ))) mI (km ml (km zy (fV 2) (fV 1)) (tC (.int 1))) [1,2]) gF)) (vC (sY K) (fT (tF d.fP (fV 0) "tickets") gF))))
theorem DK (T:Txt P w K mg d) (G:FG K mg "forms_left" (top 104)):oM P w K mg base d:=by
 have S:gf ["house","lo","hi"] ["house"] (fS (top 104)):=lu
 refine G.fd S (λ_ _ _ _ _ _=>Dl fun _=>rfl) fun _ _ _ _ _ H vs Q E hr h=>⟨DJ K d ,(fO (fW (g9 mL (gp (pZ rfl) rfl T.qK boot_sum (fY (ko rfl S.nd (gC (gw T.fP T.i5 (pv 0))) (gS (own:=[("lo",1),("hi",2)]) (by show kX ["house","lo","hi"] (fS (top 104)) _ _=true;decide +kernel)) (λ_ _ _ _ _=>(mK rfl (hX (gk (i:=1) S.nd rfl (by first|exact ak rfl|exact au rfl)) (hX (gk (i:=2) S.nd rfl (by first|exact ak rfl|exact au rfl)) kW)))) (λ_ _ _ _ _=>iJ) (λ_ _ _ _ _=>(g9 ip (g9 mL (pv 2) (pv 1)) gb))) fM)) (gp gz rfl T.jb aI (fY (gw T.fP T.gW (pv 0)) fM))))),?_⟩
 obtain ⟨L,s,rfl,R,I,q⟩:=h
 have s8:8≤sizeLine:=by decide
 have f8:=I.LS
 refine (U rfl ⟨_,_,_,_,rfl,R.hs,oY L s,_,rfl,⟨_,gE.of R.rg⟩,λD hD=>lcP (ys:=vI (s.stock.map fun r=>(r.2:Int) - (r.1:Int)+1)) (gE.of R.rg) (by rw [gH];omega) (by rw [aa,aa,gH]) (λu v=>rfl) (λi x y H2 Qy hx hy h2 kk=>?_) hD fun H' s' Hh=>?_⟩)
 ·obtain ⟨hi,rfl⟩:=iQ hx
  obtain ⟨r,hr⟩:=gu hi
  obtain ⟨b,hb,rfl⟩:=jU hy
  rw [ah,hr] at hb
  have hb:=Option.some.inj hb
  subst hb
  exact ⟨_,_,_,rfl,mZ.of (h2 _ _ (R.rt hr)),_,rfl,_,rfl,_,_,rfl,rfl,_,_,rfl,rfl,kk _ (gi.refl _)⟩
 ·refine ⟨D,_,rfl,gE.of Hh,_,rfl,_,_,_,_,rfl,s' _ _ R.hs,i7 L s,_,_,rfl,.inl (gE.of (s' _ _ R.tk)),_,_,rfl,rfl,?_⟩
  have e:V.int ((s.stock.map fun r=>(r.2:Int) - (r.1:Int)+1).sum - (((refs L s.tickets.length Nm.tc).length:Nat):Int))=vN (total s.stock - s.tickets.length):=by
   rw [Gs _ fun x hx=>(I.Jw x hx).2.1,gH]
   have:=Zm I
   unfold vN
   congr 1
   omega
  have q:=q H' s'
  rw [←e] at q
  exact q
abbrev kR (P w K mg base) (d:Ad):=Fd P w K mg base 2 "next_ticket_number" ["house"] (hG d)
theorem sG (T:Txt P w K mg d) (qd:qc P w K mg base d) (G:FG K mg "next_ticket_number" (top 105)):kR P w K mg base d:=by
 have S:gf ["house","ahead","form","lo","hi"] ["house"] (fS (top 105)):=lu
 refine G.fd S (λ_ _ _ _ _ _=>Dl fun _=>rfl) fun _ _ _ _ _ H vs Q E hr h=>⟨_,(fL (gj (i:=1) S.nd rfl (by first|exact ak rfl|exact au rfl) (gp gz rfl T.jb aI (fY (gw T.fP T.gW (pv 0)) fM))) (fL (gj (i:=2) S.nd rfl (by first|exact ak rfl|exact au rfl) gb) (fL (jz PassesOwn.never rfl (gC (gw T.fP T.i5 (pv 0))) (mK rfl (hX (gk (i:=3) S.nd rfl (by first|exact ak rfl|exact au rfl)) (hX (gk (i:=4) S.nd rfl (by first|exact ak rfl|exact au rfl)) kW))) (fL (gJ (gg zt (g9 ip (pv 3) (pv 1)) (pv 4) (gm _)) (fL (gj (i:=2) S.nd rfl (by first|exact ak rfl|exact au rfl) (g9 ip (pv 3) (pv 1))) (fO Qp)) gd) (fO (gj (i:=1) S.nd rfl (by first|exact ak rfl|exact au rfl) (g9 mL (pv 1) (g9 ip (g9 mL (pv 4) (pv 3)) gb)))))) (fO (fW (g9 ip (g9 VR gb (pv 2)) (fU qd (hr.mono (by decide)) rfl (fY (pv 2) fM)))))))),?_⟩
 obtain ⟨L,s,f,rfl,R,I,hf,q⟩:=h
 refine (U rfl ⟨_,_,_,_,rfl,R.hs,i7 L s,_,_,rfl,.inl (gE.of R.tk),?_⟩)
 refine (U rfl ⟨_,_,_,_,rfl,R.hs,oY L s,_,rfl,⟨_,gE.of R.rg⟩,jg (K:=K) (a:=L.a .rg) (xs:=refs L s.stock.length .rt) (λi σ H'=>∃(k:Nat) (v3 v4:Option V),σ=[some (.ref (L.a .hs)),some (vN k),some (.int 0),v3,v4]∧H'=H∧du (s.stock.drop i) k=some f) ⟨s.tickets.length,none,none,?_,rfl,hf⟩ (λi σ H' _ ⟨_,_,_,_,e,_⟩=>by rw [e];exact gE.of R.rg) ?_ ?_⟩)
 ·rw [gH]
  rfl
 ·rintro i x σ H' hx ⟨k,v3,v4,rfl,rfl,hk⟩
  obtain ⟨hi,rfl⟩:=iQ hx
  obtain ⟨r,hr⟩:=gu hi
  have hd:s.stock.drop i=r::s.stock.drop (i+1):=by
   rw [bw hi]
   congr 1
   rw [aE hi] at hr
   exact Option.some.inj hr
  rw [hd] at hk
  obtain ⟨lo,Q6⟩:=r
  have rb:=I.Jw (lo,Q6) (ax hr)
  dsimp only at rb
  unfold du at hk
  refine ⟨_,_,rfl,mZ.of (R.rt hr),rfl,_,_,rfl,_,_,rfl,rfl,_,rfl,_,rfl,_,_,rfl,rfl,_,rfl,_,_,rfl,rfl,_,rfl,?_⟩
  by_cases hc:k<Q6+1 - lo
  ·rw [if_pos hc] at hk
   have ef:lo+k=f:=Option.some.inj hk
   rw [show decide ((lo:Int)+(k:Int)≤(Q6:Int))=true from decide_eq_true (by omega)]
   refine gR (U rfl (U rfl ⟨_,_,rfl,rfl,_,rfl,_,_,rfl,rfl,.inl ⟨by decide,by decide⟩,_,rfl,_,rfl,_,_,rfl,rfl,?_⟩))
   have e:V.int (10 * ((lo:Int)+(k:Int))+((lo:Int)+(k:Int)) % 7)=vN (ao f):=by
    subst ef
    unfold vN ao
    congr 1
   rw [←e] at q
   exact q
  ·rw [if_neg hc] at hk
   rw [show decide ((lo:Int)+(k:Int)≤(Q6:Int))=false from decide_eq_false (by omega)]
   refine f7 (U rfl (U rfl (U rfl (ad (ad (ad ⟨k - (Q6+1 - lo),some (vN lo),some (vN Q6),?_,rfl,hk⟩))))))
   have e:V.int ((k:Int) - ((Q6:Int) - (lo:Int)+1))=vN (k - (Q6+1 - lo)):=by
    unfold vN
    congr 1
    omega
   rw [←e]
   rfl
 ·rintro σ H' ⟨k,v3,v4,rfl,rfl,hk⟩
  rw [gH,dy] at hk
  cases hk
abbrev Ov (P w K mg base) (d:Ad):=Fd P w K mg base 2 "stock" ["house","lo","hi"] (RK d)
def RL (K:ab) (d:Ad) (kG:Sp):TS:=(g6 (pC (tOr (kH (km TH (fV 2) (fV 1))) (tB (vC (YF K) (fT (yt (jy K (tF d.fP (fV 0) "ranges")) (gr 3) mI (NG (km YQ (fV 1) (km (Ml K) (fV 3) (tC (.int 1)))) (km YQ (km (Ml K) (fV 3) (tC (.int 0))) (fV 2))) [3]) gF)))) (jZ (pD (fT (tC (.int (-14))) gF))) lD) (g6 (pC (kH (km Wg (vC (sY K) (fT (tF d.fP (fV 0) "ranges") gF)) (tC (.int 8)))) (jZ (pD (fT (tC (.int (-6))) gF))) lD) (g6 (AZ (tBM K "list" GR (tF d.fP (fV 0) "ranges") (fT (A5 (fT (fV 1) (fT (fV 2) gF))) gF))) (jZ (pD (fT (tC (.int 0)) (fT (iA kG [] E0 (fT (fV 0) gF)) gF)))))))
theorem RM (T:Txt P w K mg d) (mC:oM P w K mg base d) (G:FG K mg "stock" (top 103)):Ov P w K mg base d:=by
 have S:gf ["house","lo","hi","old"] ["house","lo","hi"] (fS (top 103)):=lu
 refine G.fd S (λ_ _ _ _ _ _=>Pg fun _ _ _=>rfl) fun _ _ _ _ _ H vs Q E hr h=>⟨RL K d (kG d),(fL (gJ (PW.pt (NF (gg FJ (pv 2) (pv 1) (gm _)) (GN (jn (gp (V3 rfl) rfl T.Oe boot_any (fY (ko rfl S.nd (gC (gw T.fP T.i5 (pv 0))) (gS (own:=[("old",3)]) (by show kX ["house","lo","hi","old"] (fS (top 103)) _ _=true;decide +kernel)) (λ_ _ _ _ _=>(gk (i:=3) S.nd rfl (by first|exact ak rfl|exact au rfl))) (λ_ _ _ _ _=>iJ) (λ_ _ _ _ _=>(yx (jO zt (pv 1) (gP pY (pv 3) gb (λ_ _=>rfl)) (gm _)) (sN (jO zt (gP pY (pv 3) gb (λ_ _=>rfl)) (pv 2) (gm _)))))) fM)))))) (fO (fW (gG (fY (fR T.kE) fM)))) gd) (fL (gJ (gg FK (gp gz rfl T.jb aI (fY (gw T.fP T.i5 (pv 0)) fM)) (fR T.mW) (gm _)) (fO (fW (gG (fY (fR T.jK) fM)))) gd) (fL (jo (oU aP bL bM l6 (gw T.fP T.i5 (pv 0)) (fY (i6 (fY (pv 1) (fY (pv 2) fM))) fM))) (fO (fW (gG (fY (fR T.gx) (fY (fU mC (hr.mono (by decide)) rfl (fY (pv 0) fM)) fM)))))))),?_⟩
 obtain ⟨L,s,lo,hi,rfl,R,I,l1,h9,q⟩:=h
 have hs:aq s (.stock lo hi)=if hi<lo then (s,[-14]) else if (s.stock.any fun x=>decide (x.1≤hi)&&decide (lo≤x.2))=true then (s,[-14]) else if 8≤s.stock.length then (s,[-6]) else (nv s lo hi,[0,((total (nv s lo hi).stock - s.tickets.length:Nat):Int)]):=rfl
 have s8:8<sizeLine:=by decide
 have f8:=I.LS
 refine (U rfl (U rfl (ad (ac ?_))))
 by_cases h1:hi<lo
 ·rw [if_pos h1] at hs
  rw [show decide ((hi:Int)<(lo:Int))=true from decide_eq_true (by omega)]
  exact gR (gR ⟨by show 1≤sizeLine;decide,λp hp=>q.ref hs R (gi.refl H) hp⟩)
 rw [if_neg h1] at hs
 rw [show decide ((hi:Int)<(lo:Int))=false from decide_eq_false (by omega)]
 refine f7 ?_
 refine (U rfl ⟨_,_,_,_,rfl,R.hs,oY L s,_,rfl,⟨_,gE.of R.rg⟩,λD hD=>Vo (ys:=(s.stock.map fun x=>decide (x.1≤hi)&&decide (lo≤x.2)).map V.bl) (gE.of R.rg) (by rw [gH];omega) (by rw [aa,aa,gH]) (λi x y H2 Qy hx hy h2 kk=>?_) hD fun H1 s1 HC=>?_⟩)
 ·obtain ⟨YW,rfl⟩:=iQ hx
  obtain ⟨r,hr⟩:=gu YW
  obtain ⟨b,hb,rfl⟩:=ji hy
  rw [ah,hr] at hb
  have hb:(decide (r.1≤hi)&&decide (lo≤r.2))=b:=Option.some.inj hb
  have hT:=h2 _ _ (R.rt hr)
  refine (U rfl (U rfl ⟨_,_,1,_,rfl,rfl,mZ.of hT,rfl,ad (ac ?_)⟩))
  by_cases h3:lo≤r.2
  ·rw [show decide ((lo:Int)≤(r.2:Int))=true from decide_eq_true (by omega)]
   refine gR (U rfl ⟨_,_,0,_,rfl,rfl,mZ.of hT,rfl,U rfl (ad ?_)⟩)
   have e:decide ((r.1:Int)≤(hi:Int))=b:=by
    rw [←hb,decide_eq_true h3,aY]
    by_cases z:r.1≤hi
    ·rw [decide_eq_true z,decide_eq_true (by omega)]
    ·rw [decide_eq_false z,decide_eq_false (by omega)]
   show Qy (.bl (decide ((r.1:Int)≤(hi:Int)))) H2
   rw [e]
   exact kk _ (gi.refl _)
  ·rw [show decide ((lo:Int)≤(r.2:Int))=false from decide_eq_false (by omega)]
   rw [decide_eq_false h3,eC] at hb
   subst hb
   exact f7 (kk _ (gi.refl _))
 refine ⟨D,_,rfl,gE.of HC,_,rfl,?_⟩
 have ea:((s.stock.map fun x=>decide (x.1≤hi)&&decide (lo≤x.2)).any id)=s.stock.any fun x=>decide (x.1≤hi)&&decide (lo≤x.2):=by
  rw [fe]
  rfl
 rw [ea]
 by_cases h2:(s.stock.any fun x=>decide (x.1≤hi)&&decide (lo≤x.2))=true
 ·rw [if_pos h2] at hs
  rw [h2]
  exact gR ⟨by show 1≤sizeLine;decide,λp hp=>q.ref hs R s1 hp⟩
 rw [if_neg h2] at hs
 rw [bH.mpr h2]
 refine f7 ?_
 have R1:=R.same s1
 refine (U rfl ⟨_,_,_,_,rfl,R1.hs,oY L s,_,_,rfl,.inl (gE.of R1.rg),_,_,rfl,rfl,_,rfl,?_⟩)
 rw [gH]
 by_cases h3:8≤s.stock.length
 ·rw [if_pos h3] at hs
  rw [show decide ((8:Int)≤(s.stock.length:Int))=true from decide_eq_true (by omega)]
  exact gR ⟨by show 1≤sizeLine;decide,λp hp=>q.ref hs R s1 hp⟩
 rw [if_neg h3] at hs
 rw [show decide ((8:Int)≤(s.stock.length:Int))=false from decide_eq_false (by omega)]
 refine f7 ?_
 refine (U rfl ⟨_,_,_,_,rfl,R1.hs,oY L s,.inl ⟨rfl,_,gE.of R1.rg⟩,_,rfl,_,rfl,by show 2≤sizeLine;decide,λt ht=>?_⟩)
 have st:=f9 (o:=HO.tup [vN lo,vN hi]) ht
 have R2:=R1.same st
 refine ⟨_,_,_,rfl,rfl,R2.rg,by rw [gH];omega,?_⟩
 have ot:=R1.out ht
 have G:=Gr (lo:=lo) (hi:=hi) R2 fN ot
 have R3:=G.rep R2
 have k3:=Pr (lo:=lo) (hi:=hi) R2 fN ot (gy.same (d:=d) (L:=L) (s:=s) (s1.trans st)) (s1.free ht)
 have I3:gN (nv s lo hi):=I.yG l1 h9 h1 h2 h3
 refine (U rfl ⟨L.yG s.stock.length t,nv s lo hi,rfl,R3,I3,λH4 s4=>⟨by show 2≤sizeLine;decide,λp hp=>?_⟩⟩)
 exact q.done hs (R3.same s4) (k3.trans (gy.same s4)) hp
theorem jN {lo hi:Nat}{z:Int}{n:Nat}(h:Vbahah.within lo hi z=some n):z=(n:Int):=by
 unfold Vbahah.within at h
 split at h
 ·have:=Option.some.inj h
  omega
 ·cases h
structure CIx (l:List Int) (i:Nat) (c:gL):Prop where
 a:l[7 * i]?=some (c.carrier:Int)
 b:l[7 * i+1]?=some (c.num:Int)
 d:l[7 * i+2]?=some (c.day:Int)
 f:l[7 * i+3]?=some (c.from_:Int)
 t:l[7 * i+4]?=some (c.to_:Int)
 v:l[7 * i+5]?=some (c.value:Int)
 x:l[7 * i+6]?=some (c.tax:Int)
 e:c={ carrier:=c.carrier,num:=c.num,day:=c.day,from_:=c.from_,to_:=c.to_,value:=c.value,tax:=c.tax,status:=.open_,free:=false }
theorem xN:∀(n:Nat) (l:List Int) (cs:List gL),l.length≤n→Vbahah.couponsOf l=some cs→l.length=7 * cs.length∧∀i c,cs[i]?=some c→CIx l i c
 |n,[],cs,_,h=>by
  have e:cs=[]:=(Option.some.inj h).symm
  subst e
  exact ⟨rfl,λi c hc=>by cases hc⟩
 |0,a::r,cs,hn,h=>by simp at hn
 |n+1,[a],cs,_,h=>by cases h
 |n+1,[a,b],cs,_,h=>by cases h
 |n+1,[a,b,d],cs,_,h=>by cases h
 |n+1,[a,b,d,f],cs,_,h=>by cases h
 |n+1,[a,b,d,f,t],cs,_,h=>by cases h
 |n+1,[a,b,d,f,t,v],cs,_,h=>by cases h
 |n+1,a::b::d::f::t::v::x::r,cs,hn,h=>by
  unfold Vbahah.couponsOf at h
  simp only [Option.bind_eq_bind,Option.bind_eq_some_iff] at h
  obtain ⟨a',ha,b',hb,d',hd,f',hf,t',ht,v',hv,x',hx,Vk,Zn,e⟩:=h
  have e:=Option.some.inj e
  subst e
  obtain ⟨i1,i2⟩:=xN n r Vk (by simp only [aw] at hn;omega) Zn
  refine ⟨by simp only [aw,i1];omega,λi c hc=>?_⟩
  cases i with
  |zero=>
   have hc:=Option.some.inj hc
   subst hc
   exact ⟨congrArg some (jN ha),congrArg some (jN hb),congrArg some (jN hd),congrArg some (jN hf),congrArg some (jN ht),congrArg some (jN hv),congrArg some (jN hx),rfl⟩
  |succ i=>
   have hc:Vk[i]?=some c:=hc
   have X:=i2 i c hc
   have sh:∀k,(a::b::d::f::t::v::x::r)[7 * (i+1)+k]?=r[7 * i+k]?:=λk=>by
    rw [show 7 * (i+1)+k=7 * i+k+1+1+1+1+1+1+1 by omega]
    rfl
   exact ⟨(sh 0).trans X.a,(sh 1).trans X.b,(sh 2).trans X.d,(sh 3).trans X.f,(sh 4).trans X.t,(sh 5).trans X.v,(sh 6).trans X.x,X.e⟩
theorem nA {l:List Int}(h:ie 0 l=true):∃n,n=(ia l).length∧l.length=7 * n∧1≤n∧n≤4∧∀i c,(ia l)[i]?=some c→CIx l i c:=by
 have e:=p7 l
 rw [if_pos h] at e
 unfold Vbahah.newCoupons at e
 split at e
 ·cases e
 ·rename_i hl
  obtain ⟨h1,h2⟩:=xN l.length l _ (ai _) e
  exact ⟨_,rfl,h1,by omega,by omega,h2⟩
theorem tR {α:Type} [DecidableEq α] (add:List α→α→List α) (ha:∀l x,add l x=if x∈l then l else l++[x]):∀(l acc:List α),(l.foldl add acc).length≤acc.length+l.length∧((l.foldl add acc).length=acc.length+l.length↔l.Nodup∧∀x∈l,x∉acc)
 |[],acc=>by simp
 |x::r,acc=>by
  rw [List.foldl_cons,ha]
  by_cases h:x∈acc
  ·rw [if_pos h]
   obtain ⟨i1,i2⟩:=tR add ha r acc
   refine ⟨by rw [aw];omega,⟨λe=>?_,λe=>?_⟩⟩
   ·rw [aw] at e
    omega
   ·exact absurd h (e.2 x az)
  ·rw [if_neg h]
   obtain ⟨i1,i2⟩:=tR add ha r (acc++[x])
   rw [ay,ba] at i1 i2
   refine ⟨by rw [aw];omega,?_⟩
   rw [aw,show acc.length+(r.length+1)=acc.length+1+r.length by omega,i2,bF]
   constructor
   ·rintro ⟨h1,h2⟩
    refine ⟨⟨λq=>h2 x q (by simp),h1⟩,λy hy q=>?_⟩
    rcases aB.mp hy with z|z
    ·subst z
     exact h q
    ·exact h2 y z (dO _ q)
   ·rintro ⟨⟨h1,h2⟩,h3⟩
    refine ⟨h2,λy hy q=>?_⟩
    rcases bE.mp q with z|z
    ·exact h3 y (ag _ hy) z
    ·have e:y=x:=by simpa using z
     subst e
     exact h1 hy
theorem oN:∀l:List Nat,dh l=true↔l.Nodup
 |[]=>by simp [dh]
 |x::r=>by
  unfold dh
  rw [aj,oN r,bF]
  simp
theorem jd:∀l:List (Nat×Nat),a9 l=true↔l.Nodup
 |[]=>by simp [a9]
 |x::r=>by
  unfold a9
  rw [aj,jd r,bF]
  simp
theorem range_getD {α:Type}(l:List α) (x:α):(aQ l.length).map (λi=>l.getD i x)=l:=by
 apply bR
 intro i
 rw [ah]
 rcases aX i l.length with h|h
 ·rw [dv h,aE h]
  show some (l.getD i x)=_
  rw [aU,aE h]
  rfl
 ·rw [bc (by simpa using h),bc h]
  rfl
def iN (ks:List Nat):List Int:=ks.map fun k:Nat=>(k:Int)
theorem ur {α β:Type}{f:α→β}:∀{l:List α},(l.map f).Nodup→l.Nodup
 |[],_=>cN
 |a::r,h=>by
  rw [aG,bF] at h
  rw [bF]
  exact ⟨λq=>h.1 (fb q),ur h.2⟩
theorem Vv {ks:List Nat}:(iN ks).Nodup↔ks.Nodup:=by
 constructor
 ·intro h
  exact ur h
 ·intro h
  exact kF (λa b e=>by omega) h
theorem Up (ks:List Nat):decide ((firstMet (λi=>(iN ks).getD i 0) (iN ks).length).length=(iN ks).length)=dh ks:=by
 have h:=(tR step_dedup (λl x=>by
  unfold step_dedup
  by_cases q:x∈l
  ·rw [if_pos q,if_pos (cZ.mpr ⟨x,q,by simp⟩)]
  ·rw [if_neg q,if_neg]
   intro z
   obtain ⟨y,y1,y2⟩:=cZ.mp z
   have e:y=x:=by simpa using y2
   subst e
   exact q y1) (iN ks) []).2
 unfold firstMet
 rw [range_getD]
 rw [List.length_nil,Nat.zero_add] at h
 by_cases q:ks.Nodup
 ·rw [(oN ks).mpr q]
  exact decide_eq_true (h.mpr ⟨Vv.mpr q,λ_ _ z=>by cases z⟩)
 ·have e:dh ks=false:=bH.mpr fun z=>q ((oN ks).mp z)
  rw [e]
  exact decide_eq_false fun z=>q (Vv.mp (h.mp z).1)
theorem mD {α β:Type}{F G:α→β→Prop}{l1:List α}{l2:List β}(h:Paired F l1 l2) (k:∀a b,a∈l1→F a b→G a b):Paired G l1 l2:=by
 induction h with
 |nil=>exact .nil
 |cons f _ ih=>exact .cons (k _ _ az f) (ih fun a b ha=>k a b (ag _ ha))
def i8 (d:Ad):Sp:=λvs H Q _=>∃x dx a b c e f g h i,vs=[.ref x,a,b,c,e,f,g,h,i]∧H x=some (.ins d.fX dx [])∧Q .mH (upd H x (.ins d.fX dx [("number",a),("passenger",b),("issued",c),("last",e),("coupons",f),("cash",g),("drawn",h),("in_exchange",i)]))
def BJ (d:Ad):Sp:=λvs H Q _=>∃x dx a b c,vs=[.ref x,a,b,c]∧H x=some (.ins d.gq dx [])∧Q .mH (upd H x (.ins d.gq dx [("passenger",a),("amount",b),("last",c)]))
def RN (d:Ad) (H H':Hp):List Addr→List gL→Prop:=Paired fun a c=>H a=Option.none∧∃dx,H' a=some (.ins d.fQ dx (cf c))
def jE (d:Ad):Sp:=λvs H Q _=>∃(a:Addr) (l:List Int),vs=[.ref a]∧H a=some (.lst (vI l))∧ie 0 l=true∧
 ∀H' p (as:List Addr),gi H H'→H p=Option.none→H' p=some (.lst (as.map V.ref))→RN d H H' as (ia l)→as.Nodup→Q (.ref p) H'
def mP (s:gA) (last:Nat) (cs:List gL):Bool:=decide (s.today≤last)&&cs.all fun c=>dg s last c
def nB (d:Ad):Sp:=λvs H Q _=>∃(L:Ly) (s:gA) (a:Addr) (ev:List V) (cs:List gL) (last:Nat),vs=[.ref (L.a .hs),.ref a,vN last]∧Rep d H L s∧H a=some (.lst ev)∧Hm d H ev cs∧cs.length≤4∧∀H',gi H H'→Q (.bl (mP s last cs)) H'
def xO (d:Ad):Sp:=λvs H Q _=>∃(L:Ly) (s:gA) (p:Nat) (a:Addr) (ks:List Nat),vs=[.ref (L.a .hs),vN p,.ref a]∧Rep d H L s∧H a=some (.lst (vI (iN ks)))∧ks.length≤4∧(∀k∈ks,1≤k)∧∀H',gi H H'→Q (.bl (dk s p ks)) H'
def isRef (s:gA) (p last:Nat) (cs:List gL) (ks:List Nat):Int:=if mP s last cs=false then -7 else if dk s p ks=false then -8 else if 64≤s.tickets.length then -6 else if total s.stock≤s.tickets.length then -14 else 0
def lA (d:Ad):Sp:=λvs H Q _=>∃(L:Ly) (s:gA) (p last:Nat) (a b:Addr) (ev:List V) (cs:List gL) (ks:List Nat),vs=[.ref (L.a .hs),vN p,vN last,.ref a,.ref b]∧Rep d H L s∧gN s∧H a=some (.lst ev)∧Hm d H ev cs∧cs.length≤4∧H b=some (.lst (vI (iN ks)))∧ks.length≤4∧(∀k∈ks,1≤k)∧
 ∀H',gi H H'→Q (.int (isRef s p last cs ks)) H'
def jv (d:Ad):Sp:=λvs H Q _=>∃(L:Ly) (s:gA) (t dx:Addr) (fs:List (Str×V)) (m:Nat),vs=[.ref (L.a .hs),.ref t]∧Rep d H L s∧gN s∧Out d L s t∧H t=some (.ins d.fX dx fs)∧fs.lookup ("number":Str)=some (vN m)∧
 Q .mH (upd (upd H (L.a .tk) (.lst (refs L s.tickets.length .tc++[.ref t]))) (L.a .tf) (.dK (putK (tu L s) (Sum.inl (m:Int)) (.ref t))))
abbrev qg (P w K mg base) (d:Ad):=Cd P w K mg base 1 d.fX "Ticket" ["self","number","passenger","issued","last","coupons","cash","drawn","in_exchange"] (i8 d)
theorem BK (T:Txt P w K mg d) (G:CG K mg d.fX "Ticket" "Ticket.__init__" (inClass (top 43) 0)):qg P w K mg base d:=by
 have S:gf ["self","number","passenger","issued","last","coupons","cash","drawn","in_exchange"] ["self","number","passenger","issued","last","coupons","cash","drawn","in_exchange"] (fS (inClass (top 43) 0)):=lu
 refine G.cd S (λ_ _ _ _ _ _=>ar9 fun _ _ _ _ _ _ _ _ _=>rfl) fun _ _ _ _ _ H vs Q E hr h=>⟨_,(fL (iT T.fX T.iL (pv 0) (pv 1)) (fL (iT T.fX T.i9 (pv 0) (pv 2)) (fL (iT T.fX T.jS (pv 0) (pv 3)) (fL (iT T.fX T.kf (pv 0) (pv 4)) (fL (iT T.fX T.gD (pv 0) (pv 5)) (fL (iT T.fX T.lj (pv 0) (pv 6)) (fL (iT T.fX T.kD (pv 0) (pv 7)) (fO (iT T.fX T.jh (pv 0) (pv 8)))))))))),?_⟩
 obtain ⟨x,dx,a,b,c,e,f,g,h,i,rfl,hx,q⟩:=h
 refine (U rfl (U rfl ⟨x,dx,_,rfl,hx,(by show 0<1000;decide),?_⟩))
 refine (U rfl (U rfl ⟨x,dx,_,rfl,fN,(by show 1<1000;decide),?_⟩))
 refine (U rfl (U rfl ⟨x,dx,_,rfl,fN,(by show 2<1000;decide),?_⟩))
 refine (U rfl (U rfl ⟨x,dx,_,rfl,fN,(by show 3<1000;decide),?_⟩))
 refine (U rfl (U rfl ⟨x,dx,_,rfl,fN,(by show 4<1000;decide),?_⟩))
 refine (U rfl (U rfl ⟨x,dx,_,rfl,fN,(by show 5<1000;decide),?_⟩))
 refine (U rfl (U rfl ⟨x,dx,_,rfl,fN,(by show 6<1000;decide),?_⟩))
 refine (U rfl (U rfl ⟨x,dx,_,rfl,fN,(by show 7<1000;decide),?_⟩))
 rw [ir,ir,ir,ir,ir,ir,ir]
 exact q
abbrev vm (P w K mg base) (d:Ad):=Cd P w K mg base 1 d.gq "Credit" ["self","passenger","amount","last"] (BJ d)
theorem BL (T:Txt P w K mg d) (G:CG K mg d.gq "Credit" "Credit.__init__" (inClass (top 44) 0)):vm P w K mg base d:=by
 have S:gf ["self","passenger","amount","last"] ["self","passenger","amount","last"] (fS (inClass (top 44) 0)):=lu
 refine G.cd S (λ_ _ _ _ _ _=>Vn fun _ _ _ _=>rfl) fun _ _ _ _ _ H vs Q E hr h=>⟨_,(fL (iT T.gq T.ja (pv 0) (pv 1)) (fL (iT T.gq T.gZ (pv 0) (pv 2)) (fO (iT T.gq T.lq (pv 0) (pv 3))))),?_⟩
 obtain ⟨x,dx,a,b,c,rfl,hx,q⟩:=h
 refine (U rfl (U rfl ⟨x,dx,_,rfl,hx,(by show 0<1000;decide),?_⟩))
 refine (U rfl (U rfl ⟨x,dx,_,rfl,fN,(by show 1<1000;decide),?_⟩))
 refine (U rfl (U rfl ⟨x,dx,_,rfl,fN,(by show 2<1000;decide),?_⟩))
 rw [ir,ir]
 exact q
theorem rg7 {n:Nat}(h:n≤4):RgC 0 ((7 * n:Nat):Int) 7 n:=by
 match n,h with
 |0,_=>exact ⟨by decide,by decide,by decide,by decide⟩
 |1,_=>exact ⟨by decide,by decide,by decide,by decide⟩
 |2,_=>exact ⟨by decide,by decide,by decide,by decide⟩
 |3,_=>exact ⟨by decide,by decide,by decide,by decide⟩
 |4,_=>exact ⟨by decide,by decide,by decide,by decide⟩
theorem nP {xs:List V}{z:Int}{j:Nat}{v:V}(hz:z=(j:Int)) (h:xs[j]?=some v):VV xs z=some v:=by
 rw [hz]
 exact kI h
theorem vn {l:List Int}{j:Nat}{z:Int}(h:l[j]?=some z):(vI l)[j]?=some (.int z):=by
 rw [ah,h]
 rfl
abbrev qh (P w K mg base) (d:Ad):=Fd P w K mg base 3 "new_coupons" ["row"] (jE d)
theorem BM (T:Txt P w K mg d) (BB:qb P w K mg base d) (G:FG K mg "new_coupons" (top 110)):qh P w K mg base d:=by
 have S:gf ["row","coupons","at","coupon"] ["row"] (fS (top 110)):=lu
 refine G.fd S (λ_ _ _ _ _ _=>Dl fun _=>rfl) fun _ _ _ _ _ H vs Q E hr h=>⟨_,(fL (gj (i:=1) S.nd rfl (by first|exact ak rfl|exact au rfl) (gG fM)) (fL (jz PassesOwn.never rfl (FX (by rfl) T.xq (fY gb (fY (gp gz rfl T.jb aI (fY (pv 0) fM)) (fY (fR T.lT) fM)))) (gk (i:=2) S.nd rfl (by first|exact ak rfl|exact au rfl)) (fL (gj (i:=3) S.nd rfl (by first|exact ak rfl|exact au rfl) (sX BB (hr.mono (by decide)) rfl (fY (gP gv (pv 0) (pv 2) (λ_ _=>rfl)) (fY (gP gv (pv 0) (g9 ip (pv 2) gb) (λ_ _=>rfl)) (fY (gP gv (pv 0) (g9 ip (pv 2) gb) (λ_ _=>rfl)) (fY (gP gv (pv 0) (g9 ip (pv 2) gb) (λ_ _=>rfl)) (fY (gP gv (pv 0) (g9 ip (pv 2) gb) (λ_ _=>rfl)) (fY (gP gv (pv 0) (g9 ip (pv 2) gb) (λ_ _=>rfl)) (fY (gP gv (pv 0) (g9 ip (pv 2) gb) (λ_ _=>rfl)) fM))))))))) (fO (jo (oU aP bL bM l6 (pv 1) (fY (pv 3) fM)))))) (fO (fW (pv 1))))),?_⟩
 obtain ⟨a,l,rfl,ha,hr,q⟩:=h
 obtain ⟨n,en,hl,n1,n4,hix⟩:=nA hr
 have s4:4<sizeLine:=by decide
 refine ⟨aK _,λp hp=>?_⟩
 have sp:=f9 (o:=HO.lst []) hp
 refine (U rfl ⟨a,_,rfl,.inl (gE.of (sp _ _ ha)),0,((7 * n:Nat):Int),7,n,?_,rg7 n4,Mp (λi σ H'=>∃(v2 v3:Option V) (as:List Addr),σ=[some (.ref a),some (.ref p),v2,v3]∧gi H H'∧H' p=some (.lst (as.map V.ref))∧RN d H H' as ((ia l).take i)∧as.Nodup∧(∀b∈as,b≠p)) ⟨none,none,[],rfl,sp,fN,.nil,cN,λb hb=>by cases hb⟩ ?_ ?_⟩)
 ·show [V.int 0,V.int (((vI l).length:Nat):Int),V.int 7]=_
  rw [aa,hl]
 ·rintro i σ H' hi ⟨v2,v3,as,rfl,s1,pG,hN,nd,np⟩
  obtain ⟨c,hc⟩:=gu (l:=ia l) (i:=i) (by omega)
  have X:=hix i c hc
  have hA:=gE.of (K:=K) (s1 _ _ ha)
  have la:as.length=i:=by
   have:=Paired.length hN
   rw [bp] at this
   omega
  refine ⟨_,rfl,_,rfl,a,_,_,_,rfl,rfl,hA,nP (j:=7 * i) (by omega) (vn X.a),
   _,rfl,_,rfl,_,_,rfl,rfl,a,_,_,_,rfl,rfl,hA,nP (j:=7 * i+1) (by omega) (vn X.b),
   _,rfl,_,rfl,_,_,rfl,rfl,a,_,_,_,rfl,rfl,hA,nP (j:=7 * i+2) (by omega) (vn X.d),
   _,rfl,_,rfl,_,_,rfl,rfl,a,_,_,_,rfl,rfl,hA,nP (j:=7 * i+3) (by omega) (vn X.f),
   _,rfl,_,rfl,_,_,rfl,rfl,a,_,_,_,rfl,rfl,hA,nP (j:=7 * i+4) (by omega) (vn X.t),
   _,rfl,_,rfl,_,_,rfl,rfl,a,_,_,_,rfl,rfl,hA,nP (j:=7 * i+5) (by omega) (vn X.v),
   _,rfl,_,rfl,_,_,rfl,rfl,a,_,_,_,rfl,rfl,hA,nP (j:=7 * i+6) (by omega) (vn X.x),λz dz nz Ze nez=>?_⟩
  refine ⟨z,dz,c.carrier,c.num,c.day,c.from_,c.to_,c.value,c.tax,rfl,fN,rfl,?_⟩
  rw [ir,←X.e]
  have s2:gi H' (upd (upd H' dz (.own z)) z (.ins d.fQ dz (cf c))):=iG (f9 Ze) nz
  have yu:=s2 _ _ pG
  refine (U rfl ⟨.inl ⟨rfl,_,gE.of yu⟩,_,rfl,p,_,_,rfl,rfl,yu,by rw [aa];omega,?_⟩)
  have nzp:z≠p:=λe=>by
   subst e
   rw [pG] at nz
   cases nz
  refine ⟨_,_,as++[z],rfl,iG (s1.trans s2) hp,?_,?_,?_,?_⟩
  ·rw [fN,bP]
   rfl
  ·rw [take_snoc hc]
   refine Paired.snoc (mD hN fun b c hb ⟨e1,dx,e2⟩=>⟨e1,dx,?_⟩) ⟨s1.free nz,dz,?_⟩
   ·rw [fZ (np b hb)]
    exact s2 _ _ e2
   ·rw [fZ nzp]
    exact fN
  ·rw [eJ]
   refine ⟨nd,by simp,λb hb y hy e=>?_⟩
   have ey:y=z:=by simpa using hy
   subst ey
   subst e
   obtain ⟨j,hj⟩:=aR hb
   obtain ⟨c',_,_,dx,e2⟩:=gK hN hj
   rw [e2] at nz
   cases nz
  ·intro b hb
   rcases bE.mp hb with z1|z1
   ·exact np b z1
   ·have:b=z:=by simpa using z1
    rw [this]
    exact nzp
 ·rintro σ H' ⟨v2,v3,as,rfl,s1,pG,hN,nd,np⟩
  rw [en,bg] at hN
  exact (U rfl (q H' p as s1 hp pG hN nd))
abbrev lF (P w K mg base) (d:Ad):=Fd P w K mg base 3 "may_all_be_issued" ["house","coupons","last"] (nB d)
theorem tT (T:Txt P w K mg d) (nJ:nI P w K mg base d) (G:FG K mg "may_all_be_issued" (top 70)):lF P w K mg base d:=by
 have S:gf ["house","coupons","last","coupon"] ["house","coupons","last"] (fS (top 70)):=lu
 refine G.fd S (λ_ _ _ _ _ _=>Pg fun _ _ _=>rfl) fun _ _ _ _ _ H vs Q E hr h=>⟨_,(fO (fW (yx (jO zt (gw T.fP T.iq (pv 0)) (pv 2) (gm _)) (sN (gp (qX rfl) rfl T.sj boot_all (fY (ko rfl S.nd (gC (pv 1)) (gS (own:=[("coupon",3)]) (by show kX ["house","coupons","last","coupon"] (fS (top 70)) _ _=true;decide +kernel)) (λ_ _ _ _ _=>(gk (i:=3) S.nd rfl (by first|exact ak rfl|exact au rfl))) (λ_ _ _ _ _=>iJ) (λ_ _ _ _ _=>(fU nJ (hr.mono (by decide)) rfl (fY (pv 0) (fY (pv 3) (fY (pv 2) fM)))))) fM)))))),?_⟩
 obtain ⟨L,s,a,ev,cs,last,rfl,R,ha,hc,h4,q⟩:=h
 unfold mP at q
 refine (U rfl ⟨_,_,_,_,rfl,R.hs,lh L s,U rfl (ad (ac ?_))⟩)
 by_cases h1:s.today≤last
 ·rw [show decide ((s.today:Int)≤(last:Int))=true from decide_eq_true (by omega)]
  rw [decide_eq_true h1,br] at q
  refine gR (U rfl ⟨a,rfl,⟨_,gE.of ha⟩,xF (Q:=λb H=>Q (.bl b) H) ha hc h4 (λx c H2 Qy hx h2 kk=>?_) q⟩)
  exact (U rfl (U rfl (U rfl ⟨L,s,x,c,last,rfl,R.same h2,hx,kk⟩)))
 ·rw [show decide ((s.today:Int)≤(last:Int))=false from decide_eq_false (by omega)]
  rw [decide_eq_false h1,dw] at q
  exact f7 (q H (gi.refl H))
theorem KJ (a b:Int):decide (V.int a=V.int b)=decide (a=b):=by
 by_cases h:a=b
 ·rw [h]
  simp
 ·have h2:¬V.int a=V.int b:=λq=>h (by injection q)
  rw [decide_eq_false h,decide_eq_false h2]
abbrev qQ (P w K mg base) (d:Ad):=Fd P w K mg base 1 "are_credits_of" ["house","passenger","credit_ids"] (xO d)
theorem xP (T:Txt P w K mg d) (G:FG K mg "are_credits_of" (top 112)):qQ P w K mg base d:=by
 have S:gf ["house","passenger","credit_ids","credit_id"] ["house","passenger","credit_ids"] (fS (top 112)):=lu
 refine G.fd S (λ_ _ _ _ _ _=>Pg fun _ _ _=>rfl) fun _ _ _ _ _ H vs Q E hr h=>⟨_,(fL (gJ (gg kn (gp uY rfl T.jb aI (fY (yA (FZ rfl) rfl T.Gh boot_set (fY (pv 2) fM)) fM)) (gp gz rfl T.jb aI (fY (pv 2) fM)) (gm _)) (fO (fW mY)) gd) (fL (jz PassesOwn.never rfl (gC (pv 2)) (gk (i:=3) S.nd rfl (by first|exact ak rfl|exact au rfl)) (fO (gJ (PW.pt (NF (gg JH (pv 3) (gp gz rfl T.jb aI (fY (gw T.fP T.gB (pv 0)) fM)) (gm _)) (GN (gg kn (gw T.gq T.ja (gP gv (gw T.fP T.gB (pv 0)) (g9 mL (pv 3) gb) (λ_ _=>rfl))) (pv 1) (gm _))))) (fO (fW mY)) gd))) (fO (fW mY)))),?_⟩
 obtain ⟨L,s,p,a,ks,rfl,R,ha,h4,h1,q⟩:=h
 have hl:(iN ks).length=ks.length:=aa ..
 have hV:(vI (iN ks)).length=ks.length:=by rw [aa,hl]
 have hm:=firstMet_length_le (λi=>(iN ks).getD i 0) (iN ks).length
 refine (U rfl ⟨a,iN ks,rfl,gE.of ha,by omega,λg hg=>⟨g,_,_,rfl,fN,by omega,?_⟩⟩)
 have sg:=f9 (o:=HO.set (λk=>(firstMet (λi=>(iN ks).getD i 0) (iN ks).length).any (·==k)) (firstMet (λi=>(iN ks).getD i 0) (iN ks).length).length) hg
 have hA:=sg _ _ ha
 have R1:=R.same sg
 generalize upd H g _=H1 at sg hA R1 ⊢
 refine (U rfl ⟨a,_,rfl,.inl (gE.of hA),rfl,_,rfl,?_⟩)
 have e:(!decide (V.int (((firstMet (λi=>(iN ks).getD i 0) (iN ks).length).length:Nat):Int)=V.int (((vI (iN ks)).length:Nat):Int)))=!Vbahah.distinct ks:=by
  rw [KJ,hV,←Up,hl]
  congr 1
  by_cases z:(firstMet (λi=>(iN ks).getD i 0) ks.length).length=ks.length
  ·rw [decide_eq_true z,decide_eq_true (by omega)]
  ·rw [decide_eq_false z,decide_eq_false (by omega)]
 rw [e]
 unfold dk at q
 cases hd:dh ks with
 |false=>
  rw [hd,dw] at q
  exact gR (q _ sg)
 |true=>
  rw [hd,br] at q
  refine f7 ?_
  refine (U rfl ⟨a,rfl,⟨_,gE.of hA⟩,jg (K:=K) (a:=a) (xs:=vI (iN ks)) (λi σ H'=>∃v3:Option V,σ=[some (.ref (L.a .hs)),some (vN p),some (.ref a),v3]∧H'=H1∧((ks.take i).all fun k=>(s.credits[k - 1]?.map fun c=>c.passenger)==some p)=true) ⟨none,rfl,rfl,rfl⟩ (λi σ H' _ ⟨_,_,e,_⟩=>by rw [e];exact gE.of hA) ?_ ?_⟩)
  ·rintro i x σ H' hx ⟨v3,rfl,rfl,jQ⟩
   obtain ⟨z,hz,rfl⟩:=jU hx
   unfold iN at hz
   rw [ah] at hz
   cases hk:ks[i]? with
   |none=>
    rw [hk] at hz
    cases hz
   |some k=>
    rw [hk] at hz
    have hz:(k:Int)=z:=Option.some.inj hz
    subst hz
    have k1:=h1 k (ax hk)
    have bad:((s.credits[k - 1]?.map fun c=>c.passenger)==some p)=false→(ks.all fun k=>(s.credits[k - 1]?.map fun c=>c.passenger)==some p)=false:=λhb=>by
     rw [List.all_eq_false]
     exact ⟨k,ax hk,by rw [hb];decide⟩
    have good:((s.credits[k - 1]?.map fun c=>c.passenger)==some p)=true→∃v3:Option V,[some (V.ref (L.a .hs)),some (vN p),some (.ref a),some (.int (k:Int))]=[some (V.ref (L.a .hs)),some (vN p),some (.ref a),v3]∧H'=H'∧((ks.take (i+1)).all fun k=>(s.credits[k - 1]?.map fun c=>c.passenger)==some p)=true:=λhg=>by
     refine ⟨_,rfl,rfl,?_⟩
     rw [take_snoc hk,List.all_append,jQ]
     simp only [cb,List.all_nil,hg,Bool.and_self]
    refine (U rfl (U rfl ⟨_,_,_,_,rfl,R1.hs,ik L s,_,_,rfl,.inl (gE.of R1.ct),_,_,rfl,rfl,_,rfl,?_⟩))
    rw [gH]
    by_cases h2:s.credits.length<k
    ·rw [show decide (((s.credits.length:Nat):Int)<(k:Int))=true from decide_eq_true (by omega)]
     refine gR (gR ?_)
     have hb:=bad (by rw [bc (by omega)];rfl)
     rw [hb] at q
     exact q _ sg
    ·rw [show decide (((s.credits.length:Nat):Int)<(k:Int))=false from decide_eq_false (by omega)]
     refine f7 ?_
     obtain ⟨c,hc⟩:=gu (l:=s.credits) (i:=k - 1) (by omega)
     refine (U rfl ⟨_,_,_,_,rfl,R1.hs,ik L s,U rfl (ad ⟨_,_,_,_,rfl,rfl,gE.of R1.ct,nP (j:=k - 1) (by omega) (kM (by omega)),_,_,_,_,rfl,R1.cr hc,vd c,U rfl ⟨rfl,ac ?_⟩⟩)⟩)
     rw [kh]
     by_cases h3:c.passenger=p
     ·rw [decide_eq_true h3]
      refine f7 (good ?_)
      rw [hc]
      show (some c.passenger==some p)=true
      rw [h3]
      simp
     ·rw [decide_eq_false h3]
      refine gR ?_
      have hb:=bad (by rw [hc];show (some c.passenger==some p)=false;simpa using h3)
      rw [hb] at q
      exact q _ sg
  ·rintro σ H' ⟨v3,rfl,rfl,jQ⟩
   rw [hV,bg] at jQ
   rw [jQ] at q
   exact q _ sg
abbrev so (P w K mg base) (d:Ad):=Fd P w K mg base 4 "issue_refusal" ["house","passenger","last","coupons","credit_ids"] (lA d)
theorem yV (T:Txt P w K mg d) (yW:qQ P w K mg base d) (mC:oM P w K mg base d) (lG:lF P w K mg base d) (G:FG K mg "issue_refusal" (top 111)):so P w K mg base d:=by
 have S:gf ["house","passenger","last","coupons","credit_ids"] ["house","passenger","last","coupons","credit_ids"] (fS (top 111)):=lu
 refine G.fd S (λ_ _ _ _ _ _=>WA fun _ _ _ _ _=>rfl) fun _ _ _ _ _ H vs Q E hr h=>⟨_,(fL (gJ (oT (jn (fU lG (hr.mono (by decide)) rfl (fY (pv 0) (fY (pv 3) (fY (pv 2) fM)))))) (fO (fW (fR T.jT))) gd) (fL (gJ (oT (jn (fU yW (hr.mono (by decide)) rfl (fY (pv 0) (fY (pv 1) (fY (pv 4) fM)))))) (fO (fW (fR T.kP))) gd) (fL (gJ (gg FK (gp gz rfl T.jb aI (fY (gw T.fP T.gW (pv 0)) fM)) (fR T.kQ) (gm _)) (fO (fW (fR T.jK))) gd) (fL (gJ (gg iY (fU mC (hr.mono (by decide)) rfl (fY (pv 0) fM)) gb (gm _)) (fO (fW (fR T.kE))) gd) (fO (fW (fR T.gx))))))),?_⟩
 obtain ⟨L,s,p,last,a,b,ev,cs,ks,rfl,R,I,ha,hc,c4,hb,k4,k1,q⟩:=h
 unfold isRef at q
 refine (U rfl (U rfl (U rfl ⟨L,s,a,ev,cs,last,rfl,R,ha,hc,c4,λH1 s1=>⟨_,rfl,?_⟩⟩)))
 cases e1:mP s last cs with
 |false=>
  rw [e1] at q
  exact gR (q _ s1)
 |true=>
  rw [e1,if_neg (by decide)] at q
  refine f7 ?_
  refine (U rfl (U rfl (U rfl ⟨L,s,p,b,ks,rfl,R.same s1,s1 _ _ hb,k4,k1,λH2 s2=>⟨_,rfl,?_⟩⟩)))
  cases e2:dk s p ks with
  |false=>
   rw [e2] at q
   exact gR (q _ (s1.trans s2))
  |true=>
   rw [e2,if_neg (by decide)] at q
   refine f7 ?_
   have R2:=R.same (s1.trans s2)
   refine (U rfl ⟨_,_,_,_,rfl,R2.hs,i7 L s,_,_,rfl,.inl (gE.of R2.tk),_,_,rfl,rfl,_,rfl,?_⟩)
   rw [gH]
   by_cases h3:64≤s.tickets.length
   ·rw [if_pos h3] at q
    rw [show decide ((64:Int)≤((s.tickets.length:Nat):Int))=true from decide_eq_true (by omega)]
    exact gR (q _ (s1.trans s2))
   ·rw [if_neg h3] at q
    rw [show decide ((64:Int)≤((s.tickets.length:Nat):Int))=false from decide_eq_false (by omega)]
    refine f7 ?_
    refine (U rfl ⟨L,s,rfl,R2,I,λH3 s3=>⟨rfl,ac ?_⟩⟩)
    change if decide (vN (total s.stock - s.tickets.length)=vN 0)=true then _ else _
    rw [kh]
    by_cases h4:total s.stock≤s.tickets.length
    ·rw [if_pos h4] at q
     rw [decide_eq_true (show total s.stock - s.tickets.length=0 by omega)]
     exact gR (q _ ((s1.trans s2).trans s3))
    ·rw [if_neg h4] at q
     rw [decide_eq_false (show ¬total s.stock - s.tickets.length=0 by omega)]
     exact f7 (q _ ((s1.trans s2).trans s3))
theorem RO {s:gA}(I:gN s) (L:Ly):(tu L s).length<sizeLine:=by
 unfold tu
 rw [dF]
 have h1:=I.AB
 have h2:64<sizeLine:=by decide
 omega
abbrev rH (P w K mg base) (d:Ad):=Fd P w K mg base 1 "add_ticket" ["house","ticket"] (jv d)
theorem DL (T:Txt P w K mg d) (G:FG K mg "add_ticket" (top 114)):rH P w K mg base d:=by
 have S:gf ["house","ticket"] ["house","ticket"] (fS (top 114)):=lu
 refine G.fd S (λ_ _ _ _ _ _=>MI fun _ _=>rfl) fun _ _ _ _ _ H vs Q E hr h=>⟨_,(fL (jo (oU aP bL bM l6 (gw T.fP T.gW (pv 0)) (fY (pv 1) fM))) (fO (GY (oi hr) (gw T.fP T.gM (pv 0)) (gw T.fX T.iL (pv 1)) (pv 1) rfl))),?_⟩
 obtain ⟨L,s,t,dx,fs,m,rfl,R,I,ot,ht,hn,q⟩:=h
 have s64:64<sizeLine:=by decide
 have t64:=I.AB
 have n1:L.a .hs≠L.a .tk:=λe=>by cases R.inj .hs .tk _ _ rfl rfl e
 have n2:L.a .tf≠L.a .tk:=λe=>by cases R.inj .tf .tk _ _ rfl rfl e
 have n3:t≠L.a .tk:=λe=>ot .tk _ rfl e.symm
 refine (U rfl ⟨_,_,_,_,rfl,R.hs,i7 L s,.inl ⟨rfl,_,gE.of R.tk⟩,_,rfl,_,_,_,rfl,rfl,R.tk,by rw [gH];omega,?_⟩)
 refine (U rfl (U rfl ⟨_,_,_,_,rfl,(by rw [fZ n1];exact R.hs),iC L s,U rfl ⟨_,_,_,_,rfl,(by rw [fZ n3];exact ht),hn,_,_,rfl,GX.k (k:=Sum.inl (m:Int)) (by rw [fZ n2];exact R.tf) (RO I L),q⟩⟩))
def jk (s:gA) (ks:List Nat) (want:Nat):gA:={ s with credits:=(cV s.credits (ks.map (· - 1)) want).1 }
def lE (s:gA) (ks:List Nat) (want:Nat):List (Nat×Nat):=(cV s.credits (ks.map (· - 1)) want).2
def RP (L:Ly) (H H':Hp):List Addr→List (Nat×Nat)→Prop:=Paired fun a x=>H a=Option.none∧H' a=some (.tup [.ref (L.a (.cr x.1)),vN x.2])
def AM (d:Ad):Sp:=λvs H Q _=>∃(L:Ly) (s:gA) (a:Addr) (ks:List Nat) (want:Nat),vs=[.ref (L.a .hs),.ref a,vN want]∧Rep d H L s∧H a=some (.lst (vI (iN ks)))∧Out d L s a∧ks.length≤4∧(∀k∈ks,1≤k∧k - 1<s.credits.length)∧
 ∀H' p (as:List Addr),Rep d H' L (jk s ks want)→gy d H L s H' L (jk s ks want)→H p=Option.none→H' p=some (.lst (as.map V.ref))→RP L H H' as (lE s ks want)→as.Nodup→Q (.ref p) H'
theorem tU {d:Ad}{L:Ly}{s:gA}{cs:List pK}(hl:cs.length=s.credits.length) {b:Addr}(h:Out d L s b):Out d L { s with credits:=cs } b:=λn o e=>by
 cases n with
 |cr k=>
  have e:cs[k]?.map _=some o:=e
  cases q:cs[k]? with
  |none=>
   rw [q] at e
   cases e
  |some c=>
   obtain ⟨c',XU⟩:=gu (l:=s.credits) (i:=k) (by rw [←hl];exact iZ q)
   exact h (.cr k) _ (tw XU)
 |ct=>exact h .ct _ rfl
 |hs=>exact h .hs _ rfl
 |rg=>exact h .rg _ rfl
 |tk=>exact h .tk _ rfl
 |tf=>exact h .tf _ rfl
 |gn=>exact h .gn _ rfl
 |rt i=>exact h (.rt i) o e
 |tc i=>exact h (.tc i) o e
 |cl i=>exact h (.cl i) o e
 |dl i=>exact h (.dl i) o e
 |cp i j=>exact h (.cp i j) o e
 |dt i j=>exact h (.dt i j) o e
section
variable {d:Ad}{H H1:Hp}{L L1:Ly}{s s1:gA}{p t:Addr}{o:HO}
theorem gy.own (k:gy d H L s H1 L1 s1) (h:H p=Option.none):gy d H L s (upd H1 p o) L1 s1:=λb u e ob=>by
 obtain ⟨e1,e2⟩:=k b u e ob
 exact ⟨by rw [fZ (f6 e h)];exact e1,e2⟩
theorem Rep.own (R:Rep d H L s) (h:Out d L s p):Rep d (upd H p o) L s:=⟨λn u e=>by
 rw [fZ (h n u e)]
 exact R.at_ n u e,R.inj⟩
theorem gy.free (R:Rep d H L s) (R1:Rep d H1 L1 s1) (k:gy d H L s H1 L1 s1) (hp:∀n o,obj d L s n=some o→∃o',obj d L1 s1 n=some o'∧L1.a n=L.a n) (h:H1 t=Option.none):H t=Option.none:=by
 cases e:H t with
 |none=>rfl
 |some u=>
  exfalso
  by_cases ot:Out d L s t
  ·have:=(k t u e ot).1
   rw [h] at this
   cases this
  ·apply ot
   intro n o hn q
   obtain ⟨o',h1,h2⟩:=hp n o hn
   have:=R1.at_ n o' h1
   rw [h2,q,h] at this
   cases this
theorem BN {cs:List pK}(hl:cs.length=s.credits.length):∀n o,obj d L s n=some o→∃o',obj d L { s with credits:=cs } n=some o'∧L.a n=L.a n:=λn o e=>by
 cases n with
 |cr k=>
  have e:s.credits[k]?.map _=some o:=e
  cases q:s.credits[k]? with
  |none=>
   rw [q] at e
   cases e
  |some c=>
   obtain ⟨c',XU⟩:=gu (l:=cs) (i:=k) (by rw [hl];exact iZ q)
   exact ⟨_,tw (s:={ s with credits:=cs }) XU,rfl⟩
 |hs=>exact ⟨_,rfl,rfl⟩
 |rg=>exact ⟨_,rfl,rfl⟩
 |tk=>exact ⟨_,rfl,rfl⟩
 |tf=>exact ⟨_,rfl,rfl⟩
 |ct=>exact ⟨_,rfl,rfl⟩
 |gn=>exact ⟨_,rfl,rfl⟩
 |rt i=>exact ⟨o,e,rfl⟩
 |tc i=>exact ⟨o,e,rfl⟩
 |cl i=>exact ⟨o,e,rfl⟩
 |dl i=>exact ⟨o,e,rfl⟩
 |cp i j=>exact ⟨o,e,rfl⟩
 |dt i j=>exact ⟨o,e,rfl⟩
end
abbrev RQ (P w K mg base) (d:Ad):=Fd P w K mg base 1 "draw" ["house","credit_ids","price"] (AM d)
theorem Uq (T:Txt P w K mg d) (G:FG K mg "draw" (top 113)):RQ P w K mg base d:=by
 have S:gf ["house","credit_ids","price","drawn","unpaid","credit_id","credit","part"] ["house","credit_ids","price"] (fS (top 113)):=lu
 refine G.fd S (λ_ _ _ _ _ _=>Pg fun _ _ _=>rfl) fun _ _ _ _ _ H vs Q E hr h=>⟨_,(fL (gj (i:=3) S.nd rfl (by first|exact ak rfl|exact au rfl) (gG fM)) (fL (gj (i:=4) S.nd rfl (by first|exact ak rfl|exact au rfl) (pv 2)) (fL (jz PassesOwn.never rfl (gC (pv 1)) (gk (i:=5) S.nd rfl (by first|exact ak rfl|exact au rfl)) (fL (gj (i:=6) S.nd rfl (by first|exact ak rfl|exact au rfl) (gP gv (gw T.fP T.gB (pv 0)) (g9 mL (pv 5) gb) (λ_ _=>rfl))) (fL (gj (i:=7) S.nd rfl (by first|exact ak rfl|exact au rfl) (gp (yy rfl) rfl T.Gg boot_min (fY (gw T.gq T.gZ (pv 6)) (fY (pv 4) fM)))) (fL (iT T.gq T.gZ (pv 6) (g9 mL (gw T.gq T.gZ (pv 6)) (pv 7))) (fL (gj (i:=4) S.nd rfl (by first|exact ak rfl|exact au rfl) (g9 mL (pv 4) (pv 7))) (fO (jo (oU aP bL bM l6 (pv 3) (fY (i6 (fY (pv 6) (fY (pv 7) fM))) fM))))))))) (fO (fW (pv 3)))))),?_⟩
 obtain ⟨L,s,a,ks,want,rfl,R,ha,oa,k4,hk,q⟩:=h
 have s4:4<sizeLine:=by decide
 have hl:(iN ks).length=ks.length:=aa ..
 have hV:(vI (iN ks)).length=ks.length:=by rw [aa,hl]
 refine ⟨aK _,λp hp=>?_⟩
 have sp:=f9 (o:=HO.lst []) hp
 have op:=R.out hp
 refine (U rfl ?_)
 refine ⟨_,rfl,a,rfl,⟨_,gE.of (sp _ _ ha)⟩,jg (K:=K) (a:=a) (xs:=vI (iN ks)) (λi σ H'=>∃(v5 v6 v7:Option V) (as:List Addr) (cs:List pK) (uy:List (Nat×Nat)) (wt:Nat),σ=[some (.ref (L.a .hs)),some (.ref a),some (vN want),some (.ref p),some (vN wt),v5,v6,v7]∧
  cs.length=s.credits.length∧cV s.credits (ks.map (· - 1)) want=((cV cs ((ks.drop i).map (· - 1)) wt).1,uy++(cV cs ((ks.drop i).map (· - 1)) wt).2)∧Rep d H' L { s with credits:=cs }∧gy d H L s H' L { s with credits:=cs }∧
  H' p=some (.lst (as.map V.ref))∧RP L H H' as uy∧as.Nodup∧as.length=i∧∀b∈as,b≠p∧Out d L { s with credits:=cs } b)
  ⟨none,none,none,[],s.credits,[],want,rfl,rfl,rfl,R.same sp,gy.same sp,fN,.nil,cN,rfl,λb hb=>by cases hb⟩ ?_ ?_ ?_⟩
 ·rintro i σ H' _ ⟨v5,v6,v7,as,cs,uy,wt,_,_,_,_,k1,_⟩
  exact gE.of (k1 a _ ha oa).1
 ·rintro i x σ H' hx ⟨v5,v6,v7,as,cs,uy,wt,rfl,FT,RR,R1,k1,pG,hN,nd,la,nb⟩
  obtain ⟨z,hz,rfl⟩:=jU hx
  unfold iN at hz
  rw [ah] at hz
  cases Yc:ks[i]? with
  |none=>
   rw [Yc] at hz
   cases hz
  |some k=>
   rw [Yc] at hz
   have hz:(k:Int)=z:=Option.some.inj hz
   subst hz
   obtain ⟨kk1,kk2⟩:=hk k (ax Yc)
   have hi:i<ks.length:=iZ Yc
   have hd:ks.drop i=k::ks.drop (i+1):=by
    rw [bw hi]
    congr 1
    rw [aE hi] at Yc
    exact Option.some.inj Yc
   obtain ⟨c,hc⟩:=gu (l:=cs) (i:=k - 1) (by omega)
   have hC:H' (L.a (.cr (k - 1)))=_:=R1.cr hc
   refine (U rfl ⟨_,_,_,_,rfl,R1.hs,ik L _,U rfl (ad ⟨_,_,_,_,rfl,rfl,gE.of R1.ct,nP (j:=k - 1) (by omega) (kM (by show k - 1<cs.length;omega)),?_⟩)⟩)
   refine (U rfl ⟨_,_,_,_,rfl,hC,lW c,U rfl ⟨_,_,rfl,?_⟩⟩)
   have em:V.int (if (wt:Int)<(c.amount:Int) then (wt:Int) else (c.amount:Int))=vN (min c.amount wt):=by
    unfold vN
    congr 1
    split<;>omega
   rw [em]
   have es:V.int ((c.amount:Int) - ((min c.amount wt:Nat):Int))=vN (c.amount - min c.amount wt):=by
    unfold vN
    congr 1
    omega
   have ew:V.int ((wt:Int) - ((min c.amount wt:Nat):Int))=vN (wt - min c.amount wt):=by
    unfold vN
    congr 1
    omega
   refine (U rfl ⟨_,_,_,_,rfl,hC,lW c,_,rfl,_,_,rfl,rfl,_,rfl,_,_,_,rfl,hC,HB c,?_⟩)
   dsimp only
   rw [es,Bm]
   have R2:Rep d _ L { s with credits:=cs.modify (k - 1) fun c'=>{ c' with amount:=c'.amount - min c.amount wt } }:=R1.uz (f:=λc'=>{ c' with amount:=c'.amount - min c.amount wt }) hc
   have k2:gy d H L s _ L { s with credits:=cs.modify (k - 1) fun c'=>{ c' with amount:=c'.amount - min c.amount wt } }:=k1.trans (gy.uz R1 (f:=λc'=>{ c' with amount:=c'.amount - min c.amount wt }) hc)
   have op1:Out d L { s with credits:=cs } p:=tU FT op
   have yu:upd H' (L.a (.cr (k - 1))) (.ins d.gq (L.x (.cr (k - 1))) (zB { c with amount:=c.amount - min c.amount wt })) p=some (.lst (as.map V.ref)):=by
    rw [fZ fun z=>op1 (.cr (k - 1)) _ (tw hc) z.symm]
    exact pG
   have hN2:Paired (λb x=>H b=Option.none∧upd H' (L.a (.cr (k - 1))) (.ins d.gq (L.x (.cr (k - 1))) (zB { c with amount:=c.amount - min c.amount wt })) b=some (.tup [.ref (L.a (.cr x.1)),vN x.2])) as uy:=mD hN fun b x hb ⟨e1,e2⟩=>⟨e1,by
    rw [fZ fun z=>(nb b hb).2 (.cr (k - 1)) _ (tw hc) z.symm]
    exact e2⟩
   generalize upd H' (L.a (.cr (k - 1))) (.ins d.gq (L.x (.cr (k - 1))) (zB { c with amount:=c.amount - min c.amount wt }))=H2 at R2 k2 yu hN2 ⊢
   have Ur:(cs.modify (k - 1) fun c'=>{ c' with amount:=c'.amount - min c.amount wt }).length=s.credits.length:=by rw [bU];exact FT
   refine (U rfl (U rfl (ad ?_)))
   dsimp only
   rw [ew]
   refine (U rfl ⟨.inl ⟨rfl,_,gE.of yu⟩,_,rfl,_,rfl,by show 2≤sizeLine;decide,λt ht=>?_⟩)
   have st:=f9 (o:=HO.tup [.ref (L.a (.cr (k - 1))),vN (min c.amount wt)]) ht
   have ht0:H t=Option.none:=gy.free R R2 k2 (BN Ur) ht
   have ot:=R2.out ht
   have ntp:t≠p:=λe=>by
    rw [e,yu] at ht
    cases ht
   refine ⟨p,_,_,rfl,rfl,st _ _ yu,by rw [aa];omega,?_⟩
   have ed:cV cs ((k - 1)::(ks.drop (i+1)).map (· - 1)) wt=((cV (cs.modify (k - 1) fun c'=>{ c' with amount:=c'.amount - min c.amount wt }) ((ks.drop (i+1)).map (· - 1)) (wt - min c.amount wt)).1,(k - 1,min c.amount wt)::(cV (cs.modify (k - 1) fun c'=>{ c' with amount:=c'.amount - min c.amount wt }) ((ks.drop (i+1)).map (· - 1)) (wt - min c.amount wt)).2):=by
    conv=>lhs;unfold cV
    rw [hc]
    rfl
   rw [hd,aG,ed] at RR
   refine ⟨some (.int (k:Int)),some (.ref (L.a (.cr (k - 1)))),some (vN (min c.amount wt)),as++[t],_,uy++[(k - 1,min c.amount wt)],wt - min c.amount wt,rfl,Ur,?_,(R2.same st).own (tU Ur op),(k2.trans (gy.same st)).own hp,?_,?_,?_,?_,?_⟩
   ·rw [RR,cz]
    rfl
   ·rw [fN,bP]
    rfl
   ·refine Paired.snoc (mD hN2 fun b x hb ⟨e1,e2⟩=>⟨e1,?_⟩) ⟨ht0,?_⟩
    ·rw [fZ (nb b hb).1]
     exact st _ _ e2
    ·rw [fZ ntp]
     exact fN
   ·rw [eJ]
    refine ⟨nd,by simp,λb hb y hy e=>?_⟩
    have ey:y=t:=by simpa using hy
    subst ey
    subst e
    obtain ⟨j,hj⟩:=aR hb
    obtain ⟨x,_,_,e2⟩:=gK hN2 hj
    rw [e2] at ht
    cases ht
   ·rw [ay,ba,la]
   ·intro b hb
    rcases bE.mp hb with z1|z1
    ·refine ⟨(nb b z1).1,?_⟩
     obtain ⟨j,hj⟩:=aR z1
     obtain ⟨x,_,e1,_⟩:=gK hN hj
     exact tU Ur (R.out e1)
    ·have:b=t:=by simpa using z1
     subst this
     exact ⟨ntp,ot⟩
 ·rintro σ H' ⟨v5,v6,v7,as,cs,uy,wt,rfl,FT,RR,R1,k1,pG,hN,nd,la,nb⟩
  rw [hV,dy] at RR
  have RR:cV s.credits (ks.map (· - 1)) want=(cs,uy++[]):=RR
  rw [bW] at RR
  have e1:jk s ks want={ s with credits:=cs }:=by
   unfold jk
   rw [RR]
  have e2:lE s ks want=uy:=by
   unfold lE
   rw [RR]
  rw [e1,e2] at q
  exact (U rfl (q H' p as R1 k1 hp pG hN nd))
structure NT where
 tk:Addr
 xt:Addr
 cl:Addr
 dl:Addr
 cp:Nat→Addr
 cx:Nat→Addr
 dt:Nat→Addr
def Ly.jR (L:Ly) (n:Nat) (a:NT):Ly where
 a:=λm=>match m with
  |.tc i=>if i=n then a.tk else L.a (.tc i)
  |.cl i=>if i=n then a.cl else L.a (.cl i)
  |.dl i=>if i=n then a.dl else L.a (.dl i)
  |.cp i j=>if i=n then a.cp j else L.a (.cp i j)
  |.dt i j=>if i=n then a.dt j else L.a (.dt i j)
  |m=>L.a m
 x:=λm=>match m with
  |.tc i=>if i=n then a.xt else L.x (.tc i)
  |.cp i j=>if i=n then a.cx j else L.x (.cp i j)
  |m=>L.x m
def isNew (n:Nat):Nm→Prop
 |.tc i=>i=n
 |.cl i=>i=n
 |.dl i=>i=n
 |.cp i _=>i=n
 |.dt i _=>i=n
 |_=>False
instance (n:Nat) (m:Nm):Decidable (isNew n m):=by
 cases m<;>unfold isNew<;>infer_instance
def j9 (s:gA) (t:iF):gA:={ s with tickets:=s.tickets++[t] }
def KL (n:Nat) (f:Nat→Addr):List V:=(aQ n).map fun j=>.ref (f j)
def aaD (a:NT) (t:iF):List (Str×V):=[("number",vN (ao t.form)),("passenger",vN t.passenger),("issued",vN t.issued),("last",vN t.last),("coupons",.ref a.cl),("cash",vN t.cash),("drawn",.ref a.dl),("in_exchange",.bl t.swapped)]
structure Us (d:Ad) (H:Hp) (L:Ly) (s:gA) (t:iF) (a:NT):Prop where
 tk:H a.tk=some (.ins d.fX a.xt (aaD a t))
 cl:H a.cl=some (.lst (KL t.coupons.length a.cp))
 dl:H a.dl=some (.lst (KL t.drawn.length a.dt))
 cp:∀j c,t.coupons[j]?=some c→H (a.cp j)=some (.ins d.fQ (a.cx j) (cf c))
 dt:∀(j:Nat) (p:Nat×Nat),t.drawn[j]?=some p→H (a.dt j)=some (.tup [.ref (L.a (.cr p.1)),vN p.2])
 otk:Out d L s a.tk
 ocl:Out d L s a.cl
 odl:Out d L s a.dl
 ocp:∀j,j<t.coupons.length→Out d L s (a.cp j)
 odt:∀j,j<t.drawn.length→Out d L s (a.dt j)
 ncd:a.cl≠a.dl
 icp:∀i j,i<t.coupons.length→j<t.coupons.length→a.cp i=a.cp j→i=j
 idt:∀i j,i<t.drawn.length→j<t.drawn.length→a.dt i=a.dt j→i=j
section
variable {d:Ad}{H0 H:Hp}{L L0:Ly}{s s0:gA}{t:iF}{a:NT}
def vY (H:Hp) (L:Ly) (s:gA) (t:iF) (a:NT):Hp:=upd (upd H (L.a .tk) (.lst (refs L s.tickets.length .tc++[.ref a.tk]))) (L.a .tf) (.dK (tu L s++[(Sum.inl (ao t.form:Int),.ref a.tk)]))
theorem Ut:refs (L.jR s.tickets.length a) (s.tickets++[t]).length .tc=refs L s.tickets.length .tc++[.ref a.tk]:=by
 rw [ay,ba,qI,o9 (L':=L.jR s.tickets.length a) (L:=L) fun i hi=>by show (if i=s.tickets.length then a.tk else L.a (.tc i))=_;rw [if_neg (by omega)]]
 congr 2
 show V.ref (if s.tickets.length=s.tickets.length then a.tk else _)=_
 rw [if_pos rfl]
theorem Uu:tu (L.jR s.tickets.length a) (j9 s t)=tu L s++[(Sum.inl (ao t.form:Int),.ref a.tk)]:=by
 unfold tu j9
 dsimp only
 rw [List.mapIdx_append]
 congr 1
 ·apply bR
  intro i
  rw [bD,bD]
  cases e:s.tickets[i]? with
  |none=>rfl
  |some u=>
   have:=iZ e
   show some (_,V.ref (if i=s.tickets.length then a.tk else L.a (.tc i)))=_
   rw [if_neg (by omega)]
   rfl
 ·show [(_,V.ref (if 0+s.tickets.length=s.tickets.length then a.tk else _))]=_
  rw [if_pos (by omega)]
theorem KN {m:Nm}{o:HO}(h1:m≠.tk) (h2:m≠.tf) (h3:¬isNew s.tickets.length m) (e:obj d (L.jR s.tickets.length a) (j9 s t) m=some o):(L.jR s.tickets.length a).a m=L.a m∧obj d L s m=some o:=by
 have tt:∀{i:Nat} {u:iF},¬i=s.tickets.length→(s.tickets++[t])[i]?=some u→s.tickets[i]?=some u:=λ{i u} hi hu=>by
  rcases aX i s.tickets.length with z|z
  ·rw [cH z] at hu
   exact hu
  ·rw [bc (by simp;omega)] at hu
   cases hu
 cases m with
 |tk=>exact absurd rfl h1
 |tf=>exact absurd rfl h2
 |hs=>exact ⟨rfl,e⟩
 |rg=>exact ⟨rfl,e⟩
 |ct=>exact ⟨rfl,e⟩
 |gn=>exact ⟨rfl,e⟩
 |rt i=>exact ⟨rfl,e⟩
 |cr k=>exact ⟨rfl,e⟩
 |tc i=>
  have h3:¬i=s.tickets.length:=h3
  refine ⟨if_neg h3,?_⟩
  have e:(s.tickets++[t])[i]?.map (λu=>HO.ins d.fX (if i=s.tickets.length then a.xt else L.x (.tc i)) [("number",vN (ao u.form)),("passenger",vN u.passenger),("issued",vN u.issued),("last",vN u.last),("coupons",.ref (if i=s.tickets.length then a.cl else L.a (.cl i))),("cash",vN u.cash),("drawn",.ref (if i=s.tickets.length then a.dl else L.a (.dl i))),("in_exchange",.bl u.swapped)])=some o:=e
  rw [if_neg h3,if_neg h3,if_neg h3] at e
  cases q:(s.tickets++[t])[i]? with
  |none=>
   rw [q] at e
   cases e
  |some u=>
   rw [q] at e
   show s.tickets[i]?.map _=some o
   rw [tt h3 q]
   exact e
 |cl i=>
  have h3:¬i=s.tickets.length:=h3
  refine ⟨if_neg h3,?_⟩
  have e:(s.tickets++[t])[i]?.map (λu=>HO.lst (refs (L.jR s.tickets.length a) u.coupons.length (.cp i)))=some o:=e
  cases q:(s.tickets++[t])[i]? with
  |none=>
   rw [q] at e
   cases e
  |some u=>
   rw [q] at e
   show s.tickets[i]?.map _=some o
   rw [tt h3 q,←e]
   show some (HO.lst _)=some (HO.lst _)
   rw [o9 (L':=L.jR s.tickets.length a) (L:=L) (f:=.cp i) fun j _=>if_neg h3]
 |dl i=>
  have h3:¬i=s.tickets.length:=h3
  refine ⟨if_neg h3,?_⟩
  have e:(s.tickets++[t])[i]?.map (λu=>HO.lst (refs (L.jR s.tickets.length a) u.drawn.length (.dt i)))=some o:=e
  cases q:(s.tickets++[t])[i]? with
  |none=>
   rw [q] at e
   cases e
  |some u=>
   rw [q] at e
   show s.tickets[i]?.map _=some o
   rw [tt h3 q,←e]
   show some (HO.lst _)=some (HO.lst _)
   rw [o9 (L':=L.jR s.tickets.length a) (L:=L) (f:=.dt i) fun j _=>if_neg h3]
 |cp i j=>
  have h3:¬i=s.tickets.length:=h3
  refine ⟨if_neg h3,?_⟩
  have e:(s.tickets++[t])[i]?.bind (λu=>u.coupons[j]?.map fun c=>HO.ins d.fQ (if i=s.tickets.length then a.cx j else L.x (.cp i j)) (cf c))=some o:=e
  rw [if_neg h3] at e
  cases q:(s.tickets++[t])[i]? with
  |none=>
   rw [q] at e
   cases e
  |some u=>
   rw [q] at e
   show s.tickets[i]?.bind _=some o
   rw [tt h3 q]
   exact e
 |dt i j=>
  have h3:¬i=s.tickets.length:=h3
  refine ⟨if_neg h3,?_⟩
  have e:(s.tickets++[t])[i]?.bind (λu=>u.drawn[j]?.map fun p=>HO.tup [.ref (L.a (.cr p.1)),vN p.2])=some o:=e
  cases q:(s.tickets++[t])[i]? with
  |none=>
   rw [q] at e
   cases e
  |some u=>
   rw [q] at e
   show s.tickets[i]?.bind _=some o
   rw [tt h3 q]
   exact e
theorem xQ (N:Us d H L s t a) {m:Nm}{o:HO}(h:isNew s.tickets.length m) (e:obj d (L.jR s.tickets.length a) (j9 s t) m=some o):H ((L.jR s.tickets.length a).a m)=some o∧Out d L s ((L.jR s.tickets.length a).a m):=by
 have last:(s.tickets++[t])[s.tickets.length]?=some t:=by
  rw [bQ (ai _),dD]
  rfl
 cases m with
 |tc i=>
  obtain rfl:i=s.tickets.length:=h
  have e:(s.tickets++[t])[s.tickets.length]?.map (λu=>HO.ins d.fX (if s.tickets.length=s.tickets.length then a.xt else L.x (.tc s.tickets.length)) [("number",vN (ao u.form)),("passenger",vN u.passenger),("issued",vN u.issued),("last",vN u.last),("coupons",.ref (if s.tickets.length=s.tickets.length then a.cl else L.a (.cl s.tickets.length))),("cash",vN u.cash),("drawn",.ref (if s.tickets.length=s.tickets.length then a.dl else L.a (.dl s.tickets.length))),("in_exchange",.bl u.swapped)])=some o:=e
  rw [last,if_pos rfl,if_pos rfl,if_pos rfl] at e
  show H (if s.tickets.length=s.tickets.length then a.tk else _)=_∧Out d L s (if s.tickets.length=s.tickets.length then a.tk else _)
  rw [if_pos rfl]
  exact ⟨N.tk.trans e,N.otk⟩
 |cl i=>
  obtain rfl:i=s.tickets.length:=h
  have e:(s.tickets++[t])[s.tickets.length]?.map (λu=>HO.lst (refs (L.jR s.tickets.length a) u.coupons.length (.cp s.tickets.length)))=some o:=e
  rw [last] at e
  have e2:refs (L.jR s.tickets.length a) t.coupons.length (.cp s.tickets.length)=KL t.coupons.length a.cp:=by
   unfold refs KL
   apply cD
   intro j _
   exact congrArg V.ref (if_pos rfl)
  show H (if s.tickets.length=s.tickets.length then a.cl else _)=_∧Out d L s (if s.tickets.length=s.tickets.length then a.cl else _)
  rw [if_pos rfl,←e]
  show H a.cl=some (HO.lst _)∧_
  rw [e2]
  exact ⟨N.cl,N.ocl⟩
 |dl i=>
  obtain rfl:i=s.tickets.length:=h
  have e:(s.tickets++[t])[s.tickets.length]?.map (λu=>HO.lst (refs (L.jR s.tickets.length a) u.drawn.length (.dt s.tickets.length)))=some o:=e
  rw [last] at e
  have e2:refs (L.jR s.tickets.length a) t.drawn.length (.dt s.tickets.length)=KL t.drawn.length a.dt:=by
   unfold refs KL
   apply cD
   intro j _
   exact congrArg V.ref (if_pos rfl)
  show H (if s.tickets.length=s.tickets.length then a.dl else _)=_∧Out d L s (if s.tickets.length=s.tickets.length then a.dl else _)
  rw [if_pos rfl,←e]
  show H a.dl=some (HO.lst _)∧_
  rw [e2]
  exact ⟨N.dl,N.odl⟩
 |cp i j=>
  obtain rfl:i=s.tickets.length:=h
  have e:(s.tickets++[t])[s.tickets.length]?.bind (λu=>u.coupons[j]?.map fun c=>HO.ins d.fQ (if s.tickets.length=s.tickets.length then a.cx j else L.x (.cp s.tickets.length j)) (cf c))=some o:=e
  rw [last,if_pos rfl] at e
  have e:t.coupons[j]?.map (λc=>HO.ins d.fQ (a.cx j) (cf c))=some o:=e
  show H (if s.tickets.length=s.tickets.length then a.cp j else _)=_∧Out d L s (if s.tickets.length=s.tickets.length then a.cp j else _)
  rw [if_pos rfl]
  cases q:t.coupons[j]? with
  |none=>
   rw [q] at e
   cases e
  |some c=>
   rw [q] at e
   exact ⟨(N.cp j c q).trans e,N.ocp j (iZ q)⟩
 |dt i j=>
  obtain rfl:i=s.tickets.length:=h
  have e:(s.tickets++[t])[s.tickets.length]?.bind (λu=>u.drawn[j]?.map fun p=>HO.tup [.ref (L.a (.cr p.1)),vN p.2])=some o:=e
  rw [last] at e
  have e:t.drawn[j]?.map (λp=>HO.tup [.ref (L.a (.cr p.1)),vN p.2])=some o:=e
  show H (if s.tickets.length=s.tickets.length then a.dt j else _)=_∧Out d L s (if s.tickets.length=s.tickets.length then a.dt j else _)
  rw [if_pos rfl]
  cases q:t.drawn[j]? with
  |none=>
   rw [q] at e
   cases e
  |some p=>
   rw [q] at e
   exact ⟨(N.dt j p q).trans e,N.odt j (iZ q)⟩
 |_=>exact h.elim
theorem HD {m:Nm}{o:HO}(e:obj d (L.jR s.tickets.length a) (j9 s t) m=some o):(∀j,m=.cp s.tickets.length j→j<t.coupons.length)∧∀j,m=.dt s.tickets.length j→j<t.drawn.length:=by
 have last:(s.tickets++[t])[s.tickets.length]?=some t:=by
  rw [bQ (ai _),dD]
  rfl
 constructor
 ·intro j hj
  subst hj
  have e:(s.tickets++[t])[s.tickets.length]?.bind (λu=>u.coupons[j]?.map _)=some o:=e
  rw [last] at e
  have e:t.coupons[j]?.map _=some o:=e
  cases q:t.coupons[j]? with
  |none=>
   rw [q] at e
   cases e
  |some c=>exact iZ q
 ·intro j hj
  subst hj
  have e:(s.tickets++[t])[s.tickets.length]?.bind (λu=>u.drawn[j]?.map _)=some o:=e
  rw [last] at e
  have e:t.drawn[j]?.map _=some o:=e
  cases q:t.drawn[j]? with
  |none=>
   rw [q] at e
   cases e
  |some c=>exact iZ q
theorem yX (R:Rep d H L s) (N:Us d H L s t a):MR d H (vY H L s t a) L (L.jR s.tickets.length a) s (j9 s t) (isNew s.tickets.length):=by
 have nf:L.a .tf≠L.a .tk:=λe=>by cases R.inj .tf .tk _ _ rfl rfl e
 have far:∀b,b≠L.a .tk→b≠L.a .tf→vY H L s t a b=H b:=λb h1 h2=>by
  unfold vY
  rw [fZ h2,fZ h1]
 refine ⟨λm o e hm=>?_,λm o e=>?_,λm o e hm=>(xQ N hm e).2,λm m' o o' e e' hm Yb q=>?_⟩
 ·by_cases h1:m=.tk
  ·subst h1
   exact ⟨rfl,_,rfl⟩
  ·by_cases h2:m=.tf
   ·subst h2
    exact ⟨rfl,_,rfl⟩
   ·obtain ⟨x,y⟩:=KN h1 h2 hm e
    exact ⟨x,o,y⟩
 ·by_cases h1:m=.tk
  ·subst h1
   have e:some (HO.lst (refs (L.jR s.tickets.length a) (s.tickets++[t]).length .tc))=some o:=e
   rw [Ut] at e
   show vY H L s t a (L.a .tk)=some o
   unfold vY
   rw [fZ nf.symm,fN]
   exact e
  ·by_cases h2:m=.tf
   ·subst h2
    have e:some (HO.dK (tu (L.jR s.tickets.length a) (j9 s t)))=some o:=e
    rw [Uu] at e
    show vY H L s t a (L.a .tf)=some o
    unfold vY
    rw [fN]
    exact e
   ·by_cases hm:isNew s.tickets.length m
    ·obtain ⟨x,y⟩:=xQ N hm e
     rw [far _ (λz=>y .tk _ rfl z.symm) (λz=>y .tf _ rfl z.symm)]
     exact x
    ·obtain ⟨x,y⟩:=KN h1 h2 hm e
     rw [x,far _ (λz=>h1 (R.inj m .tk o _ y rfl z)) (λz=>h2 (R.inj m .tf o _ y rfl z))]
     exact R.at_ m o y
 ·have E1:=(xQ N hm e).1
  have E2:=(xQ N Yb e').1
  have eo:o=o':=by
   rw [q,E2] at E1
   exact (Option.some.inj E1).symm
  have l1:=HD e
  have l2:=HD e'
  have rd:∀{c:Prop} [Decidable c] {x y:Addr},c→(if c then x else y)=x:=λh=>if_pos h
  have nm:∀k,isNew s.tickets.length k→k=.tc s.tickets.length∨k=.cl s.tickets.length∨k=.dl s.tickets.length∨(∃j,k=.cp s.tickets.length j)∨∃j,k=.dt s.tickets.length j:=λk hk=>by
   cases k with
   |tc i=>exact .inl (congrArg Nm.tc hk)
   |cl i=>exact .inr (.inl (congrArg Nm.cl hk))
   |dl i=>exact .inr (.inr (.inl (congrArg Nm.dl hk)))
   |cp i j=>exact .inr (.inr (.inr (.inl ⟨j,congrArg (λz=>Nm.cp z j) hk⟩)))
   |dt i j=>exact .inr (.inr (.inr (.inr ⟨j,congrArg (λz=>Nm.dt z j) hk⟩)))
   |_=>exact hk.elim
  have atc:(L.jR s.tickets.length a).a (.tc s.tickets.length)=a.tk:=if_pos rfl
  have acl:(L.jR s.tickets.length a).a (.cl s.tickets.length)=a.cl:=if_pos rfl
  have adl:(L.jR s.tickets.length a).a (.dl s.tickets.length)=a.dl:=if_pos rfl
  have acp:∀j,(L.jR s.tickets.length a).a (.cp s.tickets.length j)=a.cp j:=λj=>if_pos rfl
  have adt:∀j,(L.jR s.tickets.length a).a (.dt s.tickets.length j)=a.dt j:=λj=>if_pos rfl
  have kc:∀j,j<t.coupons.length→∃x fs,H (a.cp j)=some (.ins d.fQ x fs)∧fs.head?.map (·.1)=some ("carrier":Str):=λj hj=>by
   obtain ⟨c,hc⟩:=gu hj
   exact ⟨_,_,N.cp j c hc,rfl⟩
  have kd:∀j,j<t.drawn.length→∃l,H (a.dt j)=some (.tup l):=λj hj=>by
   obtain ⟨c,hc⟩:=gu hj
   exact ⟨_,N.dt j c hc⟩
  have d1:a.tk≠a.cl:=uW N.tk N.cl (by intro z;cases z)
  have d2:a.tk≠a.dl:=uW N.tk N.dl (by intro z;cases z)
  have d3:∀j,j<t.coupons.length→a.tk≠a.cp j:=λj hj=>by
   obtain ⟨x,fs,h1,h2⟩:=kc j hj
   refine uW N.tk h1 fun z=>?_
   injection z with _ _ z3
   subst z3
   have h2:some ("number":Str)=some ("carrier":Str):=h2
   exact absurd (Option.some.inj h2) (Wy (by decide))
  have d4:∀j,j<t.drawn.length→a.tk≠a.dt j:=λj hj=>by
   obtain ⟨l,h1⟩:=kd j hj
   exact uW N.tk h1 (by intro z;cases z)
  have d5:∀j,j<t.coupons.length→a.cl≠a.cp j:=λj hj=>by
   obtain ⟨x,fs,h1,h2⟩:=kc j hj
   exact uW N.cl h1 (by intro z;cases z)
  have d6:∀j,j<t.drawn.length→a.cl≠a.dt j:=λj hj=>by
   obtain ⟨l,h1⟩:=kd j hj
   exact uW N.cl h1 (by intro z;cases z)
  have d7:∀j,j<t.coupons.length→a.dl≠a.cp j:=λj hj=>by
   obtain ⟨x,fs,h1,h2⟩:=kc j hj
   exact uW N.dl h1 (by intro z;cases z)
  have d8:∀j,j<t.drawn.length→a.dl≠a.dt j:=λj hj=>by
   obtain ⟨l,h1⟩:=kd j hj
   exact uW N.dl h1 (by intro z;cases z)
  have d9:∀i j,i<t.coupons.length→j<t.drawn.length→a.cp i≠a.dt j:=λi j hi hj=>by
   obtain ⟨x,fs,h1,h2⟩:=kc i hi
   obtain ⟨l,h3⟩:=kd j hj
   exact uW h1 h3 (by intro z;cases z)
  rcases nm m hm with rfl|rfl|rfl|⟨j,rfl⟩|⟨j,rfl⟩<;>rcases nm m' Yb with rfl|rfl|rfl|⟨j',rfl⟩|⟨j',rfl⟩<;>simp only [atc,acl,adl,acp,adt] at q
  ·rfl
  ·exact absurd q d1
  ·exact absurd q d2
  ·exact absurd q (d3 j' (l2.1 j' rfl))
  ·exact absurd q (d4 j' (l2.2 j' rfl))
  ·exact absurd q.symm d1
  ·rfl
  ·exact absurd q N.ncd
  ·exact absurd q (d5 j' (l2.1 j' rfl))
  ·exact absurd q (d6 j' (l2.2 j' rfl))
  ·exact absurd q.symm d2
  ·exact absurd q.symm N.ncd
  ·rfl
  ·exact absurd q (d7 j' (l2.1 j' rfl))
  ·exact absurd q (d8 j' (l2.2 j' rfl))
  ·exact absurd q.symm (d3 j (l1.1 j rfl))
  ·exact absurd q.symm (d5 j (l1.1 j rfl))
  ·exact absurd q.symm (d7 j (l1.1 j rfl))
  ·rw [N.icp j j' (l1.1 j rfl) (l2.1 j' rfl) q]
  ·exact absurd q (d9 j j' (l1.1 j rfl) (l2.2 j' rfl))
  ·exact absurd q.symm (d4 j (l1.2 j rfl))
  ·exact absurd q.symm (d6 j (l1.2 j rfl))
  ·exact absurd q.symm (d8 j (l1.2 j rfl))
  ·exact absurd q.symm (d9 j' j (l2.1 j' rfl) (l1.2 j rfl))
  ·rw [N.idt j j' (l1.2 j rfl) (l2.2 j' rfl) q]
structure W0 (H0:Hp) (t:iF) (a:NT):Prop where
 tk:H0 a.tk=Option.none
 cl:H0 a.cl=Option.none
 dl:H0 a.dl=Option.none
 cp:∀j,j<t.coupons.length→H0 (a.cp j)=Option.none
 dt:∀j,j<t.drawn.length→H0 (a.dt j)=Option.none
theorem Gu (R:Rep d H L s) (N:Us d H L s t a) (k:gy d H0 L0 s0 H L s) (F:W0 H0 t a):gy d H0 L0 s0 (vY H L s t a) (L.jR s.tickets.length a) (j9 s t):=by
 refine (yX R N).keep k (λb o e ob _=>?_) fun m o e hm=>?_
 ·unfold vY
  rw [fZ fun z=>ob .tf _ rfl z.symm,fZ fun z=>ob .tk _ rfl z.symm]
  exact e
 ·have l1:=HD e
  cases m with
  |tc i=>
   show H0 (if i=s.tickets.length then a.tk else _)=_
   rw [if_pos (show i=s.tickets.length from hm)]
   exact F.tk
  |cl i=>
   show H0 (if i=s.tickets.length then a.cl else _)=_
   rw [if_pos (show i=s.tickets.length from hm)]
   exact F.cl
  |dl i=>
   show H0 (if i=s.tickets.length then a.dl else _)=_
   rw [if_pos (show i=s.tickets.length from hm)]
   exact F.dl
  |cp i j=>
   show H0 (if i=s.tickets.length then a.cp j else _)=_
   rw [if_pos (show i=s.tickets.length from hm)]
   have hm:i=s.tickets.length:=hm
   exact F.cp j (l1.1 j (by rw [hm]))
  |dt i j=>
   show H0 (if i=s.tickets.length then a.dt j else _)=_
   rw [if_pos (show i=s.tickets.length from hm)]
   have hm:i=s.tickets.length:=hm
   exact F.dt j (l1.2 j (by rw [hm]))
  |_=>exact hm.elim
end
theorem getD_mem {l:List Addr}{j:Nat}(h:j<l.length):l[j]?=some (l.getD j 0):=getD_at h
theorem KO (l:List Addr) {n:Nat}(h:l.length=n):KL n (λj=>l.getD j 0)=l.map V.ref:=by
 subst h
 unfold KL
 have e:=congrArg (List.map V.ref) (range_getD l 0)
 rw [fi] at e
 exact e
theorem Zo {d:Ad}{H:Hp}{L:Ly}{s:gA}{t:iF}{x dx pc pd:Addr}{as ds:List Addr}
  (hx:H x=some (.ins d.fX dx [("number",vN (ao t.form)),("passenger",vN t.passenger),("issued",vN t.issued),("last",vN t.last),("coupons",.ref pc),("cash",vN t.cash),("drawn",.ref pd),("in_exchange",.bl t.swapped)]))
  (hc:H pc=some (.lst (as.map V.ref))) (hd:H pd=some (.lst (ds.map V.ref))) (hC:Paired (λa c=>∃dx,H a=some (.ins d.fQ dx (cf c))) as t.coupons) (hD:Paired (λa p=>H a=some (.tup [.ref (L.a (.cr p.1)),vN p.2])) ds t.drawn)
  (nc:as.Nodup) (nd:ds.Nodup) (ncd:pc≠pd) (ox:Out d L s x) (oc:Out d L s pc) (od:Out d L s pd) (oC:∀a∈as,Out d L s a) (oD:∀a∈ds,Out d L s a) :
  ∃a:NT,Us d H L s t a∧a.tk=x∧a.cl=pc∧a.dl=pd∧(∀j,j<t.coupons.length→a.cp j∈as)∧∀j,j<t.drawn.length→a.dt j∈ds:=by
 have la:as.length=t.coupons.length:=Paired.length hC
 have ld:ds.length=t.drawn.length:=Paired.length hD
 have m1:∀j,j<t.coupons.length→as.getD j 0∈as:=λj hj=>ax (getD_mem (by omega))
 have m2:∀j,j<t.drawn.length→ds.getD j 0∈ds:=λj hj=>ax (getD_mem (by omega))
 refine ⟨{ tk:=x,xt:=dx,cl:=pc,dl:=pd,cp:=λj=>as.getD j 0,dt:=λj=>ds.getD j 0,cx:=λj=>match H (as.getD j 0) with
  |some (.ins _ y _)=>y
  |_=>0 },⟨hx,?_,?_,λj c hc=>?_,λj p hp=>?_,ox,oc,od,λj hj=>oC _ (m1 j hj),λj hj=>oD _ (m2 j hj),ncd,λi j hi hj e=>?_,λi j hi hj e=>?_⟩,rfl,rfl,rfl,m1,m2⟩
 ·rw [KO as la]
  exact hc
 ·rw [KO ds ld]
  exact hd
 ·obtain ⟨a,ha,y,hy⟩:=Gj hC hc
  have e:as.getD j 0=a:=by
   rw [aU,ha]
   rfl
  dsimp only
  rw [e,hy]
 ·obtain ⟨a,ha,hy⟩:=Gj hD hp
  have e:ds.getD j 0=a:=by
   rw [aU,ha]
   rfl
  dsimp only
  rw [e,hy]
 ·exact J0 nc (getD_mem (by omega)) (by have e:as.getD i 0=as.getD j 0:=e;rw [e];exact getD_mem (by omega))
 ·exact J0 nd (getD_mem (by omega)) (by have e:ds.getD i 0=ds.getD j 0:=e;rw [e];exact getD_mem (by omega))
theorem Gv {s:gA}(I:gN s) {f:Nat}(hf:du s.stock s.tickets.length=some f) (L:Ly):oo (tu L s) (Sum.inl (ao f:Int))=none:=by
 have hr:bo (ao f)=true:=by
  unfold bo ao
  have h7:f % 7<7:=eS _ (by decide)
  have e1:(10 * f+f % 7) % 10=f % 7:=by omega
  have e2:(10 * f+f % 7) / 10=f:=by omega
  rw [e1,e2]
  simp
 rw [Hk hr]
 have e:nH s (ao f)=none:=by
  unfold nH
  rw [List.findIdx?_eq_none_iff]
  intro t ht
  have e2:ao f / 10=f:=by
   unfold ao
   have h7:f % 7<7:=eS _ (by decide)
   omega
  rw [e2]
  refine beq_false_of_ne fun q=>?_
  obtain ⟨i,hi⟩:=aR ht
  have:=vG I.N4 (I.Ga i t hi) (by rw [q];exact hf)
  have:=iZ hi
  omega
 rw [e]
 rfl
theorem rJ (s:gA) (last:Nat) (cs:List gL):mP s last cs=false↔last<s.today∨(cs.all fun c=>dg s last c)=false:=by
 unfold mP
 by_cases h:s.today≤last
 ·rw [decide_eq_true h,br]
  constructor
  ·exact .inr
  ·rintro (q|q)
   ·omega
   ·exact q
 ·rw [decide_eq_false h]
  constructor
  ·intro _
   exact .inl (by omega)
  ·intro _
   rfl
def RS (d:Ad):Sp:=λvs H Q _=>∃(L:Ly) (s:gA) (p last:Nat) (a b:Addr) (l:List Int) (ks:List Nat),vs=[.ref (L.a .hs),vN p,vN last,.ref a,.ref b]∧Rep d H L s∧gN s∧H a=some (.lst (vI l))∧ie 0 l=true∧H b=some (.lst (vI (iN ks)))∧Out d L s b∧ks.length≤4∧(∀k∈ks,1≤k)∧DB d H L s (.issue p last (ia l) ks) Q
def oj (s:gA) (f p last cash:Nat) (dr:List (Nat×Nat)) (sw:Bool) (cs:List gL):iF:={ form:=f,passenger:=p,issued:=s.today,last:=last,cash:=cash,drawn:=dr,swapped:=sw,coupons:=cs }
theorem RT (s:gA) (p last:Nat) (cs:List gL) (ks:List Nat):aq s (.issue p last cs ks)=if mP s last cs=false then (s,[-7]) else if dk s p ks=false then (s,[-8]) else if 64≤s.tickets.length then (s,[-6]) else match du s.stock s.tickets.length with
  |none=>(s,[-14])
  |some f=>({ j9 (jk s ks (aD cs)) (oj s f p last (aD cs - cF (lE s ks (aD cs))) (lE s ks (aD cs)) false cs) with cashIn:=s.cashIn+(aD cs - cF (lE s ks (aD cs))) },[0,((ao f:Nat):Int),((aD cs - cF (lE s ks (aD cs)):Nat):Int)]):=by
 unfold aq
 by_cases h:mP s last cs=false
 ·rw [if_pos h]
  dsimp only
  rw [if_pos ((rJ s last cs).mp h)]
 ·rw [if_neg h]
  dsimp only
  rw [if_neg fun q=>h ((rJ s last cs).mpr q)]
  rfl
theorem Gw {H H':Hp}{as:List Addr}{cs:List gL}(h:RN d H H' as cs):Hm d H' (as.map V.ref) cs:=by
 induction h with
 |nil=>exact .nil
 |cons f _ ih=>
  obtain ⟨_,dx,e⟩:=f
  exact .cons ⟨_,dx,rfl,e⟩ ih
theorem KP {L:Ly}{H H':Hp}{ds:List Addr}{dr:List (Nat×Nat)}(h:RP L H H' ds dr):Paired (λv (x:Nat×Nat)=>∃t,v=.ref t∧H' t=some (.tup [.ref (L.a (.cr x.1)),vN x.2])) (ds.map V.ref) dr:=by
 induction h with
 |nil=>exact .nil
 |cons z _ ih=>exact .cons ⟨_,rfl,z.2⟩ ih
theorem Gx {k m:Nat}{σ:L2.St}{H:Hp}{a:Addr}{xs:List V}{L:Ly}{dr:List (Nat×Nat)}{Q:V→Hp→Prop}(ha:H a=some (.lst xs)) (hc:Paired (λv (x:Nat×Nat)=>∃t,v=.ref t∧H t=some (.tup [.ref (L.a (.cr x.1)),vN x.2])) xs dr) (h4:dr.length≤1000)
  (hw:∀u v,wipe (((wipe σ [k,m]).set k u).set m v) [k,m]=wipe σ [k,m]) (hm:m<σ.length) (hd:∀H',gi H H'→Q (vN (cF dr)) H') (D:Addr) (hD:H D=Option.none) :
  ∃W:Nat→Nat→Hp→Prop,(∃m,W 0 m (upd H D (.lst [])))∧∀i n H,W i n H→
   ((sQ K a).stop i H∧∃(a':Addr) (ns:List Int),[V.ref D]=[V.ref a']∧gE K H a' (ns.map V.int)∧Q (.int ns.sum) H)∨((sQ K a).go i H∧∃Nx:Hp→Prop,(∀H',Nx H'→∃m',m'<n∧W (i+1) m' H')∧∀x H',(sQ K a).A0 i H x H'→wR K 2 (jP (gr k) (jP (gr m) wQ)) x (wipe σ [k,m]) H' fun σ2 H2=>wipe σ2 [k,m]=wipe σ [k,m]∧mI σ2 H2 fun b H3=>
    if b=true then fV m σ2 H3 fun y H4=>∃acc,H4 D=some (.lst acc)∧acc.length<sizeLine∧Nx (upd H4 D (.lst (acc++[y]))) else Nx H3):=by
 have le:xs.length=dr.length:=Paired.length hc
 have s4:1000≤sizeLine:=by decide
 refine lcP (ys:=vI (dr.map fun x=>((x.2:Nat):Int))) (gE.of ha) (by omega) (by rw [aa,aa,le]) hw (λi x y H2 Qy hx hy h2 kk=>?_) hD fun H' s' Hh=>⟨D,_,rfl,gE.of Hh,?_⟩
 ·obtain ⟨c,JD,t,rfl,ht⟩:=gK hc hx
  obtain ⟨b,hb,rfl⟩:=jU hy
  rw [ah,JD] at hb
  have hb:((c.2:Nat):Int)=b:=Option.some.inj hb
  subst hb
  refine ⟨t,_,_,rfl,mZ.of (h2 _ _ ht),_,?_,kk _ (gi.refl _)⟩
  exact cv (by rw [List.length_set,l9];exact hm)
 ·rw [tO]
  exact hd H' s'
abbrev Ow (P w K mg base) (d:Ad):=Fd P w K mg base 5 "issue" ["house","passenger","last","row","credit_ids"] (RS d)
def RU (K:ab) (d:Ad) (jv AM lA jE hG hJ i8:Sp):TS:=(g6 (jw (iA jE [] E0 (fT (fV 3) gF)) (gr 5)) (g6 (jw (iA lA [] E0 (fT (fV 0) (fT (fV 1) (fT (fV 2) (fT (fV 5) (fT (fV 4) gF)))))) (gr 6)) (g6 (pC (kH (km Vc (fV 6) (tC (.int 0)))) (jZ (pD (fT (fV 6) gF))) lD) (g6 (jw (iA hJ [] E0 (fT (fV 5) gF)) (gr 7)) (g6 (jw (iA AM [] E0 (fT (fV 0) (fT (fV 4) (fT (fV 7) gF)))) (gr 8)) (g6 (jw (km zy (fV 7) (vC (OQ K) (fT (yt (jy K (fV 8)) (wR K 2 (jP (gr 9) (jP (gr 10) wQ))) mI (fV 10) [9,10]) gF))) (gr 11)) (g6 (jw (A6 d.fX i8 [] E0 (fT (iA hG [] E0 (fT (fV 0) gF)) (fT (fV 1) (fT (tF d.fP (fV 0) "today") (fT (fV 2) (fT (fV 5) (fT (fV 11) (fT (fV 8) (fT (tC (.bl false)) gF))))))))) (gr 12)) (g6 (AZ (iA jv [] E0 (fT (fV 0) (fT (fV 12) gF)))) (g6 (sF d.fP (fV 0) (km ml (tF d.fP (fV 0) "cash_in") (fV 11)) "cash_in") (jZ (pD (fT (tC (.int 0)) (fT (tF d.fX (fV 12) "number") (fT (fV 11) gF))))))))))))))
theorem RV (T:Txt P w K mg d) (rK:rH P w K mg base d) (W2:RQ P w K mg base d) (zV:so P w K mg base d) (qi:qh P w K mg base d) (kS:kR P w K mg base d) (ka:nq P w K mg base d) (BO:qg P w K mg base d) (G:FG K mg "issue" (top 109)):Ow P w K mg base d:=by
 have S:gf ["house","passenger","last","row","credit_ids","coupons","refused","price","drawn","credit","part","cash","ticket"] ["house","passenger","last","row","credit_ids"] (fS (top 109)):=lu
 refine G.fd S (λ_ _ _ _ _ _=>WA fun _ _ _ _ _=>rfl) fun _ _ _ _ _ H vs Q E hr h=>⟨RU K d (jv d) (AM d) (lA d) (jE d) (hG d) (hJ d) (i8 d),(fL (gj (i:=5) S.nd rfl (by first|exact ak rfl|exact au rfl) (fU qi (hr.mono (by decide)) rfl (fY (pv 3) fM))) (fL (gj (i:=6) S.nd rfl (by first|exact ak rfl|exact au rfl) (fU zV (hr.mono (by decide)) rfl (fY (pv 0) (fY (pv 1) (fY (pv 2) (fY (pv 5) (fY (pv 4) fM))))))) (fL (gJ (gg kn (pv 6) (fR T.gx) (gm _)) (fO (fW (gG (fY (pv 6) fM)))) gd) (fL (gj (i:=7) S.nd rfl (by first|exact ak rfl|exact au rfl) (fU ka (hr.mono (by decide)) rfl (fY (pv 5) fM))) (fL (gj (i:=8) S.nd rfl (by first|exact ak rfl|exact au rfl) (fU W2 (hr.mono (by decide)) rfl (fY (pv 0) (fY (pv 4) (fY (pv 7) fM))))) (fL (gj (i:=11) S.nd rfl (by first|exact ak rfl|exact au rfl) (g9 mL (pv 7) (gp (pZ rfl) rfl T.qK boot_sum (fY (ko rfl S.nd (gC (pv 8)) (gS (own:=[("credit",9),("part",10)]) (by show kX ["house","passenger","last","row","credit_ids","coupons","refused","price","drawn","credit","part","cash","ticket"] (fS (top 109)) _ _=true;decide +kernel)) (λ_ _ _ _ _=>(mK rfl (hX (gk (i:=9) S.nd rfl (by first|exact ak rfl|exact au rfl)) (hX (gk (i:=10) S.nd rfl (by first|exact ak rfl|exact au rfl)) kW)))) (λ_ _ _ _ _=>iJ) (λ_ _ _ _ _=>(pv 10))) fM)))) (fL (gj (i:=12) S.nd rfl (by first|exact ak rfl|exact au rfl) (sX BO (hr.mono (by decide)) rfl (fY (fU kS (hr.mono (by decide)) rfl (fY (pv 0) fM)) (fY (pv 1) (fY (gw T.fP T.iq (pv 0)) (fY (pv 2) (fY (pv 5) (fY (pv 11) (fY (pv 8) (fY mY fM)))))))))) (fL (jo (fU rK (hr.mono (by decide)) rfl (fY (pv 0) (fY (pv 12) fM)))) (fL (iT T.fP T.iM (pv 0) (g9 ip (gw T.fP T.iM (pv 0)) (pv 11))) (fO (fW (gG (fY (fR T.gx) (fY (gw T.fX T.iL (pv 12)) (fY (pv 11) fM))))))))))))))),?_⟩
 obtain ⟨L,s,p,last,a,b,l,ks,rfl,R,I,ha,Hi,hb,ob,k4,k1,q⟩:=h
 obtain ⟨n,en,hl,n1,n4,hix⟩:=nA Hi
 have hs:=RT s p last (ia l) ks
 generalize Zn:ia l=cs at *
 refine (U rfl ⟨a,l,rfl,ha,Hi,λH1 pc as s1 W3 MS hN nas=>?_⟩)
 rw [Zn] at hN
 have Zp:=Gw hN
 refine (U rfl (U rfl (U rfl (U rfl (U rfl ⟨L,s,p,last,pc,b,_,cs,ks,rfl,R.same s1,I,MS,Zp,by omega,s1 _ _ hb,k4,k1,λH2 s2=>?_⟩)))))
 refine (U rfl ⟨rfl,ac ?_⟩)
 rw [jY]
 have Um:=s1.trans s2
 unfold isRef
 by_cases e1:mP s last cs=false
 ·rw [if_pos e1] at hs
  rw [if_pos e1]
  exact gR (U rfl ⟨by show 1≤sizeLine;decide,λz hz=>q.ref hs R Um hz⟩)
 rw [if_neg e1] at hs
 rw [if_neg e1]
 by_cases e2:dk s p ks=false
 ·rw [if_pos e2] at hs
  rw [if_pos e2]
  exact gR (U rfl ⟨by show 1≤sizeLine;decide,λz hz=>q.ref hs R Um hz⟩)
 rw [if_neg e2] at hs
 rw [if_neg e2]
 by_cases e3:64≤s.tickets.length
 ·rw [if_pos e3] at hs
  rw [if_pos e3]
  exact gR (U rfl ⟨by show 1≤sizeLine;decide,λz hz=>q.ref hs R Um hz⟩)
 rw [if_neg e3] at hs
 rw [if_neg e3]
 by_cases e4:total s.stock≤s.tickets.length
 ·rw [m6.mpr e4] at hs
  rw [if_pos e4]
  exact gR (U rfl ⟨by show 1≤sizeLine;decide,λz hz=>q.ref hs R Um hz⟩)
 rw [if_neg e4]
 obtain ⟨f,hf⟩:=q5 (st:=s.stock) (k:=s.tickets.length) (by omega)
 rw [hf] at hs
 dsimp only at hs
 refine f7 ?_
 refine (U rfl ⟨pc,_,cs,rfl,s2 _ _ MS,Zp.same s2,by omega,λH3 s3=>?_⟩)
 have ew:(cs.map dG).sum=aD cs:=rfl
 rw [ew]
 generalize hw:aD cs=wt at *
 have Yd:=Um.trans s3
 have R3:=R.same Yd
 refine (U rfl (U rfl (U rfl ⟨L,s,b,ks,wt,rfl,R3,Yd _ _ hb,ob,k4,λk hk=>⟨k1 k hk,vb e2 k hk⟩,λH4 pd ds R4 Ye npd Vw hD nds=>?_⟩)))
 have ks0:=Ye
 have dl:(jk s ks wt).credits.length=s.credits.length:=m8 _ _ _
 have k04:=(gy.same (d:=d) (L:=L) (s:=s) Yd).trans Ye
 have od:Out d L (jk s ks wt) pd:=tU (m8 _ _ _) (R3.out npd)
 have hDs:Paired (λv (x:Nat×Nat)=>∃t,v=.ref t∧H4 t=some (.tup [.ref (L.a (.cr x.1)),vN x.2])) (ds.map V.ref) (lE s ks wt):=KP hD
 have l4:(lE s ks wt).length≤4:=by
  have:=ui (ks.map (· - 1)) s.credits wt
  have:=congrArg fJ this
  rw [aa,aa] at this
  unfold lE
  omega
 refine (U rfl (U rfl ⟨pd,rfl,⟨_,gE.of Vw⟩,Gx (k:=9) (m:=10) (Q:=λy H2=>zy (vN wt) y H2 _) (L:=L) Vw hDs (by omega) (λu v=>rfl) ?_ fun H5 s5=>?_⟩))
 ·show 10<13
  decide
 have ec:V.int ((wt:Int) - ((cF (lE s ks wt):Nat):Int))=vN (wt - cF (lE s ks wt)):=by
  have:=N7 (ks.map (· - 1)) s.credits wt
  unfold vN
  congr 1
  unfold lE
  omega
 refine (ad ?_)
 dsimp only
 rw [ec]
 generalize Zq:wt - cF (lE s ks wt)=cash at *
 have R5:=R4.same s5
 have I5:gN (jk s ks wt):=I.Y4 (m8 _ _ _)
 refine (U rfl ⟨L,jk s ks wt,f,rfl,R5,I5,hf,_,rfl,_,rfl,_,_,_,_,rfl,R5.hs,lh L _,_,rfl,_,rfl,_,rfl,_,rfl,λx dx nx Zr nex=>?_⟩)
 refine ⟨x,dx,_,_,_,_,_,_,_,_,rfl,fN,rfl,?_⟩
 rw [ir]
 have s6:gi H5 (upd (upd H5 dx (.own x)) x (.ins d.fX dx [("number",vN (ao f)),("passenger",vN p),("issued",vN (jk s ks wt).today),("last",vN last),("coupons",.ref pc),("cash",vN cash),("drawn",.ref pd),("in_exchange",.bl false)])):=iG (f9 Zr) nx
 have hx6:upd (upd H5 dx (.own x)) x (.ins d.fX dx [("number",vN (ao f)),("passenger",vN p),("issued",vN (jk s ks wt).today),("last",vN last),("coupons",.ref pc),("cash",vN cash),("drawn",.ref pd),("in_exchange",.bl false)]) x=some (.ins d.fX dx [("number",vN (ao f)),("passenger",vN p),("issued",vN (jk s ks wt).today),("last",vN last),("coupons",.ref pc),("cash",vN cash),("drawn",.ref pd),("in_exchange",.bl false)]):=fN
 generalize upd (upd H5 dx (.own x)) x (.ins d.fX dx [("number",vN (ao f)),("passenger",vN p),("issued",vN (jk s ks wt).today),("last",vN last),("coupons",.ref pc),("cash",vN cash),("drawn",.ref pd),("in_exchange",.bl false)])=H6 at s6 hx6 ⊢
 have LW:=s5.trans s6
 have R6:=R4.same LW
 have k06:=k04.trans (gy.same LW)
 have ox:Out d L (jk s ks wt) x:=R5.out nx
 have hC6:Paired (λa c=>∃dx,H6 a=some (.ins d.fQ dx (cf c))) as cs:=jf (λa c ⟨e,dx,e'⟩=>⟨dx,LW _ _ (Ye a _ (s3 _ _ (s2 _ _ e')) (R.out e)).1⟩) hN
 have oC6:∀y∈as,Out d L (jk s ks wt) y:=λy hy=>by
  obtain ⟨j,hj⟩:=aR hy
  obtain ⟨c,_,e,dx,e'⟩:=gK hN hj
  exact (Ye y _ (s3 _ _ (s2 _ _ e')) (R.out e)).2
 obtain ⟨aaE,opc⟩:=Ye pc _ (s3 _ _ (s2 _ _ MS)) (R.out W3)
 obtain ⟨nt,N,t1,t2,t3,t4,t5⟩:=Zo (t:=oj s f p last cash (lE s ks wt) false cs) hx6 (LW _ _ aaE) (LW _ _ Vw) hC6 (jf (λa x e=>LW _ _ e.2) hD) nas nds (f6 (s3 _ _ (s2 _ _ MS)) npd) ox opc od oC6 (λy hy=>by
  obtain ⟨j,hj⟩:=aR hy
  obtain ⟨c,_,e,_⟩:=gK hD hj
  exact tU (m8 _ _ _) (R3.out e))
 have nx0:H x=Option.none:=by
  refine Yd.free (gy.free R3 R4 Ye (BN (m8 _ _ _)) ?_)
  exact s5.free nx
 have F:W0 H (oj s f p last cash (lE s ks wt) false cs) nt:=by
  refine ⟨by rw [t1];exact nx0,by rw [t2];exact W3,by rw [t3];exact Yd.free npd,λj hj=>?_,λj hj=>?_⟩
  ·obtain ⟨i,hi⟩:=aR (t4 j hj)
   obtain ⟨c,_,e,_⟩:=gK hN hi
   exact e
  ·obtain ⟨i,hi⟩:=aR (t5 j hj)
   obtain ⟨c,_,e,_⟩:=gK hD hi
   exact Yd.free e
 have R7:=(yX R6 N).rep R6
 have k7:=Gu R6 N k06 F
 refine (U rfl (U rfl ⟨L,jk s ks wt,x,dx,_,ao f,rfl,R6,I5,ox,hx6,rfl,?_⟩))
 rw [A7 _ (Gv I5 hf L)]
 have eH:upd (upd H6 (L.a .tk) (.lst (refs L (jk s ks wt).tickets.length .tc++[.ref x]))) (L.a .tf) (.dK (tu L (jk s ks wt)++[(Sum.inl (ao f:Int),.ref x)]))=vY H6 L (jk s ks wt) (oj s f p last cash (lE s ks wt) false cs) nt:=by
  unfold vY
  rw [t1]
  rfl
 rw [eH]
 generalize vY H6 L (jk s ks wt) (oj s f p last cash (lE s ks wt) false cs) nt=H7 at R7 k7 ⊢
 have eL:L.a .hs=(L.jR (jk s ks wt).tickets.length nt).a .hs:=rfl
 refine (U rfl ⟨_,_,_,_,rfl,R7.hs,tD _ _,_,rfl,_,_,rfl,rfl,_,rfl,_,_,_,rfl,R7.hs,(by show 9<1000;decide),?_⟩)
 dsimp only
 have ei:V.int (((j9 (jk s ks wt) (oj s f p last cash (lE s ks wt) false cs)).cashIn:Int)+(cash:Int))=vN (s.cashIn+cash):=by
  show V.int ((s.cashIn:Int)+(cash:Int))=V.int ((s.cashIn+cash:Nat):Int)
  congr 1
 rw [ei,Kf]
 have R8:=R7.lK (a:=s.today) (b:=s.cashIn+cash) (c:=s.cashOut) (e:=s.kept)
 have k8:=k7.trans (gy.lK R7 (a:=s.today) (b:=s.cashIn+cash) (c:=s.cashOut) (e:=s.kept))
 have ht8:upd H7 ((L.jR (jk s ks wt).tickets.length nt).a .hs) (.ins d.fP ((L.jR (jk s ks wt).tickets.length nt).x .hs) (wO (L.jR (jk s ks wt).tickets.length nt) { j9 (jk s ks wt) (oj s f p last cash (lE s ks wt) false cs) with today:=s.today,cashIn:=s.cashIn+cash,cashOut:=s.cashOut,kept:=s.kept })) x=some (.ins d.fX ((L.jR (jk s ks wt).tickets.length nt).x (.tc (jk s ks wt).tickets.length)) (Rc (L.jR (jk s ks wt).tickets.length nt) (jk s ks wt).tickets.length (oj s f p last cash (lE s ks wt) false cs))):=by
  have z:=R8.tc (i:=(jk s ks wt).tickets.length) (t:=oj s f p last cash (lE s ks wt) false cs) (by
   show (s.tickets++[_])[s.tickets.length]?=_
   rw [bQ (ai _),dD]
   rfl)
  have e9:(L.jR (jk s ks wt).tickets.length nt).a (.tc (jk s ks wt).tickets.length)=x:=(if_pos rfl).trans t1
  rw [e9] at z
  exact z
 refine (U rfl ⟨_,_,_,_,rfl,ht8,rk _ _ _,U rfl ⟨by show 3≤sizeLine;decide,λz hz=>?_⟩⟩)
 exact q.done hs R8 k8 hz
section
variable {d:Ad}{H:Hp}{L:Ly}{s:gA}{Q:VK}{E:XK}{K:ab}
theorem RW {m:Nat}{a:Addr}{ps:List (Nat×Nat)}{f:gL→gL}{tb:TS}{D:Ends}{σ:L2.St}(hm:m<σ.length) (R:Rep d H L s) (hl:∀(k:Nat) (H':Hp),Rep d H' L (jj s (ps.take k) f)→gy d H L s H' L (jj s (ps.take k) f)→H' a=some (.lst (ps.map (o5 L))))
  (hp:∀x∈ps,∃c,iP s x.1 x.2=some c) (hn:ps.Nodup)
  (hb:∀(x:Nat×Nat) (c:gL) (s1:gA) (H1:Hp) (N:L2.St→Hp→Prop),x∈ps→Rep d H1 L s1→iP s1 x.1 x.2=some c→iP s x.1 x.2=some c→(∀H2,H2=upd H1 (L.a (.cp x.1 x.2)) (.ins d.fQ (L.x (.cp x.1 x.2)) (cf (f c)))→N (σ.set m (some (o5 L x))) H2)→tb { D with nx:=N,ct:=N,bk:=D.nx } (σ.set m (some (o5 L x))) H1)
  (hd:∀σ' H',(∃v,σ'=σ.set m v)→Rep d H' L (jj s ps f)→gy d H L s H' L (jj s ps f)→D.nx σ' H') :
  ∃W:Nat→Nat→L2.St→Hp→Prop,(∃m,W 0 m σ H)∧∀i n σ H,W i n σ H→
   ((sQ K a).stop i H∧D.nx σ H)∨((sQ K a).go i H∧∃N:L2.St→Hp→Prop,(∀σ' H',N σ' H'→∃m',m'<n∧W (i+1) m' σ' H')∧∀x H',(sQ K a).A0 i H x H'→gr m x σ H' fun σ2 H2=>tb { D with nx:=N,ct:=N,bk:=D.nx } σ2 H2):=by
 refine jg (K:=K) (a:=a) (xs:=ps.map (o5 L)) (λi σ' H'=>(∃v,σ'=σ.set m v)∧Rep d H' L (jj s (ps.take i) f)∧gy d H L s H' L (jj s (ps.take i) f)) ?_ ?_ ?_ ?_
 ·refine ⟨⟨σ[m],?_⟩,R,gy.same (gi.refl H)⟩
  exact (eQ hm).symm
 ·rintro i σ' H' _ ⟨_,R1,kp⟩
  exact gE.of (hl i H' R1 kp)
 ·rintro i x σ' H' hx ⟨⟨v,rfl⟩,R1,k1⟩
  obtain ⟨y,hy,rfl⟩:=ji hx
  have my:=ax hy
  obtain ⟨c,hc⟩:=hp y my
  have ny:y∉ps.take i:=λz=>by
   obtain ⟨j,hj⟩:=aR z
   have Zf:=iZ hj
   rw [bp] at Zf
   rw [dC] at hj
   have Zg:j<i:=by omega
   rw [if_pos Zg] at hj
   have:=J0 hn hj hy
   omega
  have Rt:iP (jj s (ps.take i) f) y.1 y.2=some c:=by
   rw [oQ f _ s y.1 y.2 (fI.sublist (dI _ _) hn),if_neg ny]
   exact hc
  obtain ⟨t1,g1,g2⟩:=jx Rt
  show tb _ ((σ.set m v).set m (some (o5 L y))) H'
  rw [ff]
  refine hb y c _ H' _ my R1 Rt hc fun H2 e2=>⟨⟨_,rfl⟩,?_,?_⟩
  ·rw [take_snoc hy,rC,e2]
   exact R1.jF g1 g2
  ·rw [take_snoc hy,rC,e2]
   exact k1.trans (gy.jF R1 g1 g2)
 ·rintro σ' H' ⟨hv,R1,k1⟩
  rw [aa,bg] at R1 k1
  exact hd σ' H' hv R1 k1
end
theorem BP (f:gL→gL):∀(ps:List (Nat×Nat)) {s:gA}{i:Nat}{t:iF},s.tickets[i]?=some t→∃t',(jj s ps f).tickets[i]?=some t'∧bare t'=bare t∧t'.coupons.length=t.coupons.length
 |[],s,i,t,h=>⟨t,h,rfl,rfl⟩
 |p::r,s,i,t,h=>by
  have e:(jF s p.1 p.2 f).tickets[i]?=some (if p.1=i then { t with coupons:=t.coupons.modify p.2 f } else t):=by
   rw [lP,h]
   rfl
  obtain ⟨t',h1,h2,h3⟩:=BP f r e
  refine ⟨t',h1,?_,?_⟩
  ·rw [h2]
   split<;>rfl
  ·rw [h3]
   split
   ·dsimp only
    rw [bU]
   ·rfl
def DM (i:Nat) (t:iF):List (Nat×Nat):=(aQ t.coupons.length).map fun j=>(i,j)
theorem yY (L:Ly) (i:Nat) (t:iF):(DM i t).map (o5 L)=refs L t.coupons.length (.cp i):=by
 unfold DM refs
 rw [fi]
 rfl
theorem Ox (i:Nat) (t:iF):(DM i t).Nodup:=kF (λa b e=>by injection e) fD
theorem xR {i:Nat}{t:iF}{x:Nat×Nat}:x∈DM i t↔x.1=i∧x.2<t.coupons.length:=by
 unfold DM
 rw [bB]
 constructor
 ·rintro ⟨j,h1,rfl⟩
  exact ⟨rfl,aM.mp h1⟩
 ·rintro ⟨h1,h2⟩
  exact ⟨x.2,aM.mpr h2,by rw [←h1]⟩
theorem RX {s:gA}{i:Nat}{t:iF}(h:s.tickets[i]?=some t) (f:gL→gL):jj s (DM i t) f={ s with tickets:=s.tickets.set i { t with coupons:=t.coupons.map f } }:=by
 refine Alike.eq ((me f _ s).trans ?_) fun i' j'=>?_
 ·refine ⟨λm=>?_,rfl,rfl,rfl,rfl,rfl,rfl,rfl⟩
  dsimp only
  rw [dJ]
  by_cases e:i=m
  ·subst e
   rw [if_pos rfl,if_pos (iZ h),h]
   rfl
  ·rw [if_neg e]
 ·rw [oQ f _ s i' j' (Ox i t)]
  unfold iP
  dsimp only
  rw [dJ]
  by_cases e:i=i'
  ·subst e
   rw [if_pos rfl,if_pos (iZ h),h]
   show (if _ then (t.coupons[j']?).map f else t.coupons[j']?)=(t.coupons.map f)[j']?
   rw [ah]
   by_cases hj:j'<t.coupons.length
   ·rw [if_pos (xR (x:=(i,j')).mpr ⟨rfl,hj⟩)]
   ·rw [if_neg fun z=>hj (xR (x:=(i,j')).mp z).2,bc (by omega)]
    rfl
  ·rw [if_neg e,if_neg fun z=>e (xR (x:=(i',j')).mp z).1.symm]
def rL (s:gA):Prop:=∀t∈s.tickets,t.drawn.length≤4
def MT (s:gA) (t:iF):Bool:=decide (t.issued=s.today)&&(!t.swapped&&t.coupons.all fun c=>c.status==.open_)
def lB (d:Ad):Sp:=λvs H Q _=>∃(L:Ly) (s:gA) (i:Nat) (t:iF),vs=[.ref (L.a .hs),.ref (L.a (.tc i))]∧Rep d H L s∧gN s∧s.tickets[i]?=some t∧∀H',gi H H'→Q (.bl (MT s t)) H'
def Uv (d:Ad):Sp:=λvs H Q _=>∃(L:Ly) (s:gA) (m:Nat),vs=[.ref (L.a .hs),vN m]∧Rep d H L s∧gN s∧rL s∧DB d H L s (.void m) Q
theorem Uw (s:gA) (m:Nat):aq s (.void m)=match bt s m with
  |.error z=>(s,[z])
  |.ok t=>if MT s t=false then (s,[-9]) else (cU { s with credits:=cG s.credits t.drawn,cashOut:=s.cashOut+t.cash } { t with coupons:=t.coupons.map fun c=>{ c with status:=.void } },[0,((t.cash:Nat):Int),((cF t.drawn:Nat):Int)]):=by
 have h0:aq s (.void m)=match bt s m with
  |.error z=>(s,[z])
  |.ok t=>if t.issued≠s.today∨t.swapped=true∨(t.coupons.all fun c=>c.status==.open_)=false then (s,[-9]) else (cU { s with credits:=cG s.credits t.drawn,cashOut:=s.cashOut+t.cash } { t with coupons:=t.coupons.map fun c=>{ c with status:=.void } },[0,((t.cash:Nat):Int),((cF t.drawn:Nat):Int)]):=rfl
 rw [h0]
 cases e:bt s m with
 |error z=>rfl
 |ok t=>
  dsimp only
  have hm:MT s t=false↔t.issued≠s.today∨t.swapped=true∨(t.coupons.all fun c=>c.status==.open_)=false:=by
   unfold MT
   by_cases h1:t.issued=s.today
   ·rw [decide_eq_true h1,br]
    cases h2:t.swapped<;>cases h3:(t.coupons.all fun c=>c.status==.open_)<;>simp [h1]
   ·rw [decide_eq_false h1]
    simp [h1]
  by_cases h:MT s t=false
  ·rw [if_pos h,if_pos (hm.mp h)]
  ·rw [if_neg h,if_neg fun q=>h (hm.mpr q)]
abbrev sr (P w K mg base) (d:Ad):=Fd P w K mg base 1 "may_be_voided" ["house","ticket"] (lB d)
theorem yZ (T:Txt P w K mg d) (G:FG K mg "may_be_voided" (top 116)):sr P w K mg base d:=by
 have S:gf ["house","ticket","coupon"] ["house","ticket"] (fS (top 116)):=lu
 refine G.fd S (λ_ _ _ _ _ _=>MI fun _ _=>rfl) fun _ _ _ _ _ H vs Q E hr h=>⟨_,(fL (gJ (PW.pt (NF (gg kn (gw T.fX T.jS (pv 1)) (gw T.fP T.iq (pv 0)) (gm _)) (GN (jn (gw T.fX T.jh (pv 1)))))) (fO (fW mY)) gd) (fO (fW (gp (qX rfl) rfl T.sj boot_all (fY (ko rfl S.nd (gC (gw T.fX T.gD (pv 1))) (gS (own:=[("coupon",2)]) (by show kX ["house","ticket","coupon"] (fS (top 116)) _ _=true;decide +kernel)) (λ_ _ _ _ _=>(gk (i:=2) S.nd rfl (by first|exact ak rfl|exact au rfl))) (λ_ _ _ _ _=>iJ) (λ_ _ _ _ _=>(jO iY (gw T.fQ T.gc (pv 2)) (fR T.lX) (gm _)))) fM))))),?_⟩
 obtain ⟨L,s,i,t,rfl,R,I,ht,q⟩:=h
 unfold MT at q
 have h4:=(I.cps t (ax ht)).2
 have hT:=R.tc ht
 refine (U rfl ⟨_,_,_,_,rfl,hT,Bk L i t,U rfl ⟨_,_,_,_,rfl,R.hs,lh L s,rfl,ac ?_⟩⟩)
 rw [kh]
 by_cases h1:t.issued=s.today
 ·rw [decide_eq_true h1] at q ⊢
  rw [br] at q
  refine f7 ?_
  refine (U rfl ⟨_,_,_,_,rfl,hT,zP L i t,_,rfl,?_⟩)
  cases h2:t.swapped with
  |true=>
   rw [h2] at q
   exact gR (q H (gi.refl H))
  |false=>
   rw [h2] at q
   refine f7 ?_
   refine (U rfl ⟨_,_,_,_,rfl,hT,iB L i t,_,rfl,⟨_,gE.of (R.cl ht)⟩,xF (Q:=λb H=>Q (.bl b) H) (R.cl ht) (R.cps ht) h4 (λx c H2 Qy hx h2 kk=>?_) q⟩)
   obtain ⟨b,dx,rfl,hb⟩:=hx
   refine (U rfl ⟨b,dx,_,_,rfl,hb,iy c,rfl,?_⟩)
   have e:decide (mJ c.status=mJ .open_)=(c.status==.open_):=by
    rw [rB]
    cases c.status<;>rfl
   change Qy (.bl (decide (mJ c.status=mJ .open_))) H2
   rw [e]
   exact kk _ (gi.refl _)
 ·rw [decide_eq_false h1] at q ⊢
  exact gR (gR (q H (gi.refl H)))
theorem KQ {s:gA}{m:Nat}(h:qM s m=0):∃t,bt s m=.ok t:=by
 unfold qM at h
 rcases jV s m with ⟨e,_⟩|⟨e,_⟩|⟨t,e⟩
 ·rw [e] at h
  cases h
 ·rw [e] at h
  cases h
 ·exact ⟨t,e⟩
theorem Gy {s:gA}{m:Nat}(h:¬qM s m=0):bt s m=.error (qM s m):=by
 unfold qM at h ⊢
 rcases jV s m with ⟨e,_⟩|⟨e,_⟩|⟨t,e⟩
 ·rw [e]
 ·rw [e]
 ·rw [e] at h
  exact absurd rfl h
theorem Rep.dts {L:Ly}{s:gA}{i:Nat}{t:iF}(R:Rep d H L s) (ht:s.tickets[i]?=some t):Paired (λv (x:Nat×Nat)=>∃t,v=.ref t∧H t=some (.tup [.ref (L.a (.cr x.1)),vN x.2])) (refs L t.drawn.length (.dt i)) t.drawn:=by
 have go:∀n,n≤t.drawn.length→Paired (λv (x:Nat×Nat)=>∃t,v=.ref t∧H t=some (.tup [.ref (L.a (.cr x.1)),vN x.2])) (refs L n (.dt i)) (t.drawn.take n):=λn=>by
  induction n with
  |zero=>exact fun _=>.nil
  |succ n ih=>
   intro hn
   obtain ⟨c,hc⟩:=gu (l:=t.drawn) (i:=n) (by omega)
   rw [qI,take_snoc hc]
   exact Paired.snoc (ih (by omega)) ⟨_,rfl,R.dt ht hc⟩
 have:=go t.drawn.length (ai _)
 rw [bg] at this
 exact this
abbrev RY (P w K mg base) (d:Ad):=Fd P w K mg base 4 "void" ["house","number"] (Uv d)
def Ux (K:ab) (d:Ad) (lB kK:Sp):TS:=(g6 (jw (iA kK [] E0 (fT (fV 0) (fT (fV 1) gF))) (gr 2)) (g6 (pC (kH (km Vc (fV 2) (tC (.int 0)))) (jZ (pD (fT (fV 2) gF))) lD) (g6 (jw (NQ (tF d.fP (fV 0) "ticket_of") (fV 1)) (gr 3)) (g6 (pC (OI (tB (iA lB [] E0 (fT (fV 0) (fT (fV 3) gF))))) (jZ (pD (fT (tC (.int (-9))) gF))) lD) (g6 (A3 (jy K (tF d.fX (fV 3) "coupons")) (gr 4) (sF d.fQ (fV 4) (tC (.int 7)) "status")) (g6 (A3 (jy K (tF d.fX (fV 3) "drawn")) (wR K 2 (jP (gr 5) (jP (gr 6) wQ))) (sF d.gq (fV 5) (km ml (tF d.gq (fV 5) "amount") (fV 6)) "amount")) (g6 (sF d.fP (fV 0) (km ml (tF d.fP (fV 0) "cash_out") (tF d.fX (fV 3) "cash")) "cash_out") (jZ (pD (fT (tC (.int 0)) (fT (tF d.fX (fV 3) "cash") (fT (vC (OQ K) (fT (yt (jy K (tF d.fX (fV 3) "drawn")) (wR K 2 (jP (gr 5) (jP (gr 6) wQ))) mI (fV 6) [5,6]) gF)) gF))))))))))))
theorem Uy (T:Txt P w K mg d) (zW:sr P w K mg base d) (jX:lx P w K mg base d) (G:FG K mg "void" (top 115)):RY P w K mg base d:=by
 have S:gf ["house","number","refused","ticket","coupon","credit","part"] ["house","number"] (fS (top 115)):=lu
 refine G.fd S (λ_ _ _ _ _ _=>MI fun _ _=>rfl) fun _ _ _ _ _ H vs Q E hr h=>⟨Ux K d (lB d) (kK d),(fL (gj (i:=2) S.nd rfl (by first|exact ak rfl|exact au rfl) (fU jX (hr.mono (by decide)) rfl (fY (pv 0) (fY (pv 1) fM)))) (fL (gJ (gg kn (pv 2) (fR T.gx) (gm _)) (fO (fW (gG (fY (pv 2) fM)))) gd) (fL (gj (i:=3) S.nd rfl (by first|exact ak rfl|exact au rfl) (oq (oi hr) (gw T.fP T.gM (pv 0)) (pv 1) (λ_ _=>rfl))) (fL (gJ (oT (jn (fU zW (hr.mono (by decide)) rfl (fY (pv 0) (fY (pv 3) fM))))) (fO (fW (gG (fY (fR T.ju) fM)))) gd) (fL (jz PassesOwn.never rfl (gC (gw T.fX T.gD (pv 3))) (gk (i:=4) S.nd rfl (by first|exact ak rfl|exact au rfl)) (fO (iT T.fQ T.gc (pv 4) (fR T.kO)))) (fL (jz PassesOwn.never rfl (gC (gw T.fX T.kD (pv 3))) (mK rfl (hX (gk (i:=5) S.nd rfl (by first|exact ak rfl|exact au rfl)) (hX (gk (i:=6) S.nd rfl (by first|exact ak rfl|exact au rfl)) kW))) (fO (iT T.gq T.gZ (pv 5) (g9 ip (gw T.gq T.gZ (pv 5)) (pv 6))))) (fL (iT T.fP T.ig (pv 0) (g9 ip (gw T.fP T.ig (pv 0)) (gw T.fX T.lj (pv 3)))) (fO (fW (gG (fY (fR T.gx) (fY (gw T.fX T.lj (pv 3)) (fY (gp (pZ rfl) rfl T.qK boot_sum (fY (ko rfl S.nd (gC (gw T.fX T.kD (pv 3))) (gS (own:=[("credit",5),("part",6)]) (by show kX ["house","number","refused","ticket","coupon","credit","part"] (fS (top 115)) _ _=true;decide +kernel)) (λ_ _ _ _ _=>(mK rfl (hX (gk (i:=5) S.nd rfl (by first|exact ak rfl|exact au rfl)) (hX (gk (i:=6) S.nd rfl (by first|exact ak rfl|exact au rfl)) kW)))) (λ_ _ _ _ _=>iJ) (λ_ _ _ _ _=>(pv 6))) fM)) fM))))))))))))),?_⟩
 obtain ⟨L,s,m,rfl,R,I,RR,q⟩:=h
 have hs:=Uw s m
 refine (U rfl (U rfl ⟨L,s,m,rfl,R,?_⟩))
 refine (U rfl ⟨rfl,ac ?_⟩)
 rw [jY]
 by_cases h0:qM s m=0
 ·rw [decide_eq_true h0]
  refine f7 ?_
  obtain ⟨t,hx⟩:=KQ h0
  obtain ⟨i,e1,e2,hr⟩:=nj hx
  rw [hx] at hs
  dsimp only at hs
  refine (U rfl ⟨_,_,_,_,rfl,R.hs,iC L s,U rfl ⟨_,_,rfl,pQ R hr e1,?_⟩⟩)
  refine (U rfl (U rfl ⟨L,s,i,t,rfl,R,I,e2,λH1 s1=>⟨_,rfl,?_⟩⟩))
  cases hm:MT s t with
  |false=>
   rw [hm] at hs
   exact gR ⟨by show 1≤sizeLine;decide,λp hp=>q.ref hs R s1 hp⟩
  |true=>
   rw [hm,if_neg (by decide)] at hs
   refine f7 ?_
   have R1:=R.same s1
   refine (U rfl ⟨_,_,_,_,rfl,R1.tc e2,iB L i t,_,rfl,⟨_,gE.of (R1.cl e2)⟩,RW (ps:=DM i t) (f:=λc=>{ c with status:=.void }) (by show 4<7;decide) R1 (λk H' R' _=>?_) (λx hx=>?_) (Ox i t) (λx y s9 H9 N hx R9 hc WY kk=>?_) fun σ' H2 hv R2 k2=>?_⟩)
   ·obtain ⟨t',g1,g2,g3⟩:=BP (λc=>{ c with status:=.void }) ((DM i t).take k) e2
    rw [yY,←g3]
    exact R'.cl g1
   ·obtain ⟨h1,h2⟩:=xR.mp hx
    obtain ⟨c,hc⟩:=gu h2
    exact ⟨c,by unfold iP;rw [h1,e2];exact hc⟩
   ·obtain ⟨t,g1,g2⟩:=jx hc
    exact (U rfl ⟨_,_,_,rfl,R9.cp g1 g2,mN y,kk _ rfl⟩)
   obtain ⟨v,rfl⟩:=hv
   rw [RX e2] at R2 k2
   have hl:i<s.tickets.length:=iZ e2
   have e3:(s.tickets.set i { t with coupons:=t.coupons.map fun c=>{ c with status:=.void } })[i]?=some { t with coupons:=t.coupons.map fun c=>{ c with status:=.void } }:=by
    rw [dJ,if_pos rfl,if_pos hl]
   generalize S6:({ s with tickets:=s.tickets.set i { t with coupons:=t.coupons.map fun c=>{ c with status:=.void } } }:gA)=s2 at R2 k2
   have e4:s2.tickets[i]?=some { t with coupons:=t.coupons.map fun c=>{ c with status:=.void } }:=by subst S6;exact e3
   have ec:s2.credits=s.credits:=by subst S6;rfl
   have dr:∀x∈t.drawn,x.1<s.credits.length:=I.N5 t (ax e2)
   refine (U rfl ⟨_,_,_,_,rfl,R2.tc e4,Gd L i _,_,rfl,⟨_,gE.of (R2.dl e4)⟩,jg (K:=K) (a:=L.a (.dl i)) (xs:=refs L t.drawn.length (.dt i)) (λk σ' H'=>∃(v4 v5 v6:Option V) (cs:List pK),σ'=[some (.ref (L.a .hs)),some (vN m),some (.int 0),some (.ref (L.a (.tc i))),v4,v5,v6]∧cs.length=s.credits.length∧cG s.credits t.drawn=cG cs (t.drawn.drop k)∧Rep d H' L { s2 with credits:=cs }∧gy d H2 L s2 H' L { s2 with credits:=cs }) ⟨v,none,none,s.credits,?_,rfl,rfl,?_,?_⟩ ?_ ?_ ?_⟩)
   ·rw [h0]
    rfl
   ·rw [←ec]
    exact R2
   ·rw [←ec]
    exact gy.same (gi.refl H2)
   ·rintro k σ' H' _ ⟨v4,v5,v6,cs,_,_,_,R3,_⟩
    have z:=R3.dl (s:={ s2 with credits:=cs }) e4
    exact gE.of z
   ·rintro k x σ' H' hx ⟨v4,v5,v6,cs,rfl,FT,hg,R3,k3⟩
    obtain ⟨hk,rfl⟩:=iQ hx
    obtain ⟨pr,yL⟩:=gu hk
    have Zs:t.drawn.drop k=pr::t.drawn.drop (k+1):=by
     rw [bw hk]
     congr 1
     rw [aE hk] at yL
     exact Option.some.inj yL
    obtain ⟨c,hc⟩:=gu (l:=cs) (i:=pr.1) (by rw [FT];exact dr pr (ax yL))
    have hC:H' (L.a (.cr pr.1))=_:=R3.cr (s:={ s2 with credits:=cs }) hc
    refine ⟨_,_,rfl,mZ.of (R3.dt (s:={ s2 with credits:=cs }) e4 yL),rfl,_,_,rfl,_,_,rfl,rfl,_,rfl,_,_,_,_,rfl,hC,lW c,_,rfl,_,_,rfl,rfl,_,rfl,_,_,_,rfl,hC,HB c,?_⟩
    have ea:V.int ((c.amount:Int)+(pr.2:Int))=vN (c.amount+pr.2):=by
     unfold vN
     congr 1
    dsimp only
    rw [ea,Bm]
    refine ⟨v4,_,_,cs.modify pr.1 fun c=>{ c with amount:=c.amount+pr.2 },rfl,by rw [bU];exact FT,?_,R3.uz (s:={ s2 with credits:=cs }) (f:=λc=>{ c with amount:=c.amount+pr.2 }) hc,k3.trans (gy.uz R3 (s:={ s2 with credits:=cs }) (f:=λc=>{ c with amount:=c.amount+pr.2 }) hc)⟩
    rw [hg,Zs]
    obtain ⟨p1,p2⟩:=pr
    rfl
   ·rintro σ' H3 ⟨v4,v5,v6,cs,rfl,FT,hg,R3,k3⟩
    rw [gH,dy] at hg
    have hg:cG s.credits t.drawn=cs:=hg
    have k03:=((gy.same (d:=d) (L:=L) (s:=s) s1).trans k2).trans k3
    refine (U rfl ⟨_,_,_,_,rfl,R3.hs,oA L _,_,rfl,_,_,_,_,rfl,R3.tc (s:={ s2 with credits:=cs }) e4,Kd L i _,_,_,rfl,rfl,_,rfl,_,_,_,rfl,R3.hs,(by show 9<1000;decide),?_⟩)
    dsimp only
    have ea:V.int ((s2.cashOut:Int)+(t.cash:Int))=vN (s.cashOut+t.cash):=by
     have:s2.cashOut=s.cashOut:=by subst S6;rfl
     rw [this]
     unfold vN
     congr 1
    rw [ea,rm]
    have R4:=R3.lK (a:=s2.today) (b:=s2.cashIn) (c:=s.cashOut+t.cash) (e:=s2.kept)
    have k4:=k03.trans (gy.lK R3 (a:=s2.today) (b:=s2.cashIn) (c:=s.cashOut+t.cash) (e:=s2.kept))
    dsimp only at R4 k4
    generalize hH4:upd H3 (L.a .hs) (.ins d.fP (L.x .hs) (wO L { s2 with credits:=cs,cashOut:=s.cashOut+t.cash }))=H4
    have R4:Rep d H4 L { s2 with credits:=cs,cashOut:=s.cashOut+t.cash }:=by rw [←hH4];exact R4
    have k4:gy d H L s H4 L { s2 with credits:=cs,cashOut:=s.cashOut+t.cash }:=by rw [←hH4];exact k4
    have hT:=R4.tc (s:={ s2 with credits:=cs,cashOut:=s.cashOut+t.cash }) e4
    refine ⟨_,rfl,_,_,_,_,rfl,hT,Kd L i _,_,rfl,_,_,_,_,rfl,hT,Gd L i _,_,rfl,⟨_,gE.of (R4.dl (s:={ s2 with credits:=cs,cashOut:=s.cashOut+t.cash }) e4)⟩,Gx (k:=5) (m:=6) (L:=L) (Q:=λy H2=>[V.int 0,vN t.cash,y].length≤sizeLine∧∀p,H2 p=Option.none→Q (.ref p) (upd H2 p (.lst [.int 0,vN t.cash,y]))) (R4.dl (s:={ s2 with credits:=cs,cashOut:=s.cashOut+t.cash }) e4) (R4.dts (s:={ s2 with credits:=cs,cashOut:=s.cashOut+t.cash }) e4) (bh (RR t (ax e2)) (by decide)) (λu v=>rfl) ?_ fun H5 s5=>⟨by show 3≤sizeLine;decide,λp hp=>?_⟩⟩
    ·show 6<7
     decide
    have es:cU { s with credits:=cG s.credits t.drawn,cashOut:=s.cashOut+t.cash } { t with coupons:=t.coupons.map fun c=>{ c with status:=.void } }={ s2 with credits:=cs,cashOut:=s.cashOut+t.cash }:=by
     have I':gN { s with credits:=cG s.credits t.drawn,cashOut:=s.cashOut+t.cash }:=I.as rfl rfl (rh _ _) rfl
     rw [Kb (s:={ s with credits:=cG s.credits t.drawn,cashOut:=s.cashOut+t.cash }) I' (u:={ t with coupons:=t.coupons.map fun c=>{ c with status:=.void } }) e2 rfl,hg]
     subst S6
     rfl
    rw [es] at hs
    exact q.done hs (R4.same s5) (k4.trans (gy.same s5)) hp
 ·rw [decide_eq_false h0]
  refine gR (U rfl ⟨by show 1≤sizeLine;decide,λp hp=>?_⟩)
  refine q.ref (hs.trans ?_) R (gi.refl H) hp
  rw [Gy h0]
theorem W4 {J:It}{n:Nat}{g:TG}{tb:TS}{D:Ends}{σ:L2.St}{H:Hp}(Pv:Nat→L2.St→Hp→Prop) (h0:Pv 0 σ H) (YT:∀i σ H,i<n→Pv i σ H→J.go i H) (zr:∀σ H,Pv n σ H→J.stop n H)
  (hs:∀i σ H x H',i<n→Pv i σ H→J.A0 i H x H'→g x σ H' fun σ2 H2=>tb { D with nx:=Pv (i+1),ct:=Pv (i+1),bk:=D.nx } σ2 H2) (hd:∀σ H,Pv n σ H→D.nx σ H) :
  ∃W:Nat→Nat→L2.St→Hp→Prop,(∃m,W 0 m σ H)∧∀i m σ H,W i m σ H→
   (J.stop i H∧D.nx σ H)∨(J.go i H∧∃N:L2.St→Hp→Prop,(∀σ' H',N σ' H'→∃m',m'<m∧W (i+1) m' σ' H')∧∀x H',J.A0 i H x H'→g x σ H' fun σ2 H2=>tb { D with nx:=N,ct:=N,bk:=D.nx } σ2 H2):=by
 refine ⟨λi m σ H=>m=n - i∧i≤n∧Pv i σ H,⟨n,by simp,aK _,h0⟩,?_⟩
 rintro i m σ H ⟨rfl,hi,p⟩
 rcases aX i n with yr|Y9
 ·exact .inr ⟨YT i σ H yr p,Pv (i+1),fun σ' H' p'=>⟨n - (i+1),by omega,rfl,yr,p'⟩,λx H' y=>hs i σ H x H' yr p y⟩
 ·have e:i=n:=Nat.le_antisymm hi Y9
  subst e
  exact .inl ⟨zr σ H p,hd σ H p⟩
theorem DB.rd {d:Ad}{H H1:Hp}{L:Ly}{s:gA}{c:eA}{Q:VK}{l:List Int}{p:Addr}(A:DB d H L s c Q) (e:aq s c=(s,l)) (R:Rep d H L s) (h1:gi H H1) (hp:H p=Option.none) (hl:H1 p=some (.lst (vI l))):Q (.ref p) H1:=by
 refine A H1 L p rfl ?_ ?_ (λb o hb _=>f6 hb hp) ?_
 ·rw [e]
  exact R.same h1
 ·rw [e]
  exact gy.same h1
 ·rw [e]
  exact hl
def zX (d:Ad):Sp:=λvs H Q _=>∃v c ca,vs=[v,vN ca]∧vK d H v c∧Q (.bl (c.status==.flown&&c.carrier==ca)) H
def zY (d:Ad):Sp:=λvs H Q _=>∃v c,vs=[v]∧vK d H v c∧∀H',gi H H'→Q (.bl (cE c||c.status==.flown)) H'
def MU (s:gA):List (Nat×Nat):=sE s (λ_ _=>true) s.tickets.length
def mE (d:Ad):Sp:=λvs H Q _=>∃(L:Ly) (s:gA),vs=[.ref (L.a .hs)]∧Rep d H L s∧gN s∧∀H' p,gi H H'→H p=Option.none→H' p=some (.lst ((MU s).map (o5 L)))→Q (.ref p) H'
def Yf (d:Ad) (vs:List V) (H:Hp) (Q:VK) (as:List Nat) (c:eA):Prop:=∃(L:Ly) (s:gA),vs=.ref (L.a .hs)::as.map vN∧Rep d H L s∧gN s∧DB d H L s c Q
def BQ (d:Ad):Sp:=λvs H Q _=>∃k,1≤k∧Yf d vs H Q [k] (.credit k)
def BR (d:Ad):Sp:=λvs H Q _=>∃m,Yf d vs H Q [m] (.ticket m)
def DN (d:Ad):Sp:=λvs H Q _=>Yf d vs H Q [] .heaps
def BS (d:Ad):Sp:=λvs H Q _=>∃c,Yf d vs H Q [c] (.lifted c)
def MV (d:Ad):Sp:=λvs H Q _=>∃a b c,Yf d vs H Q [a,b,c] (.on_ a b c)
def zZ (d:Ad):Sp:=λvs H Q _=>Yf d vs H Q [] .tickets
def DO (d:Ad):Sp:=λvs H Q _=>∃(L:Ly) (s:gA) (m:Nat),vs=[vN m]∧Rep d H L s∧DB d H L s (.valid m) Q
theorem KR (i:Nat) (t:iF):Kr (λ_ _=>true) i t=DM i t:=by
 unfold Kr DM
 congr 1
 rw [List.filter_eq_self]
 intro j hj
 obtain ⟨c,hc⟩:=gu (l:=t.coupons) (i:=j) (aM.mp hj)
 rw [hc]
 rfl
theorem KS {α:Type}(l:List α):l.filter (λ_=>true)=l:=by
 rw [List.filter_eq_self]
 intro _ _
 rfl
theorem AN (s:gA):Dm s (MU s)=bS s:=by
 unfold MU
 rw [yS s (λ_=>true),KS]
theorem y6 (x:aJ):decide (mJ x=mJ .flown)=(x==.flown):=by cases x<;>rfl
abbrev tV (P w K mg base) (d:Ad):=Fd P w K mg base 1 "is_lifted_by" ["coupon","carrier"] (zX d)
theorem Aa (T:Txt P w K mg d) (G:FG K mg "is_lifted_by" (top 95)):tV P w K mg base d:=by
 have S:gf ["coupon","carrier"] ["coupon","carrier"] (fS (top 95)):=lu
 refine G.fd S (λ_ _ _ _ _ _=>MI fun _ _=>rfl) fun _ _ _ _ _ H vs Q E hr h=>⟨_,(fO (fW (yx (jO iY (gw T.fQ T.iD (pv 0)) (pv 1) (gm _)) (sN (jO iY (gw T.fQ T.gc (pv 0)) (fR T.oG) (gm _)))))),?_⟩
 obtain ⟨v,c,ca,rfl,⟨a,dx,rfl,ha⟩,q⟩:=h
 refine (U rfl ⟨a,dx,_,_,rfl,ha,oX c,U rfl ⟨rfl,ac ?_⟩⟩)
 rw [kh]
 by_cases h1:c.carrier=ca
 ·rw [decide_eq_true h1]
  refine gR (U rfl ⟨a,dx,_,_,rfl,ha,iy c,rfl,?_⟩)
  change Q (.bl (decide (mJ c.status=mJ .flown))) H
  rw [y6]
  have e:(c.carrier==ca)=true:=by simpa using h1
  rw [e,aY] at q
  exact q
 ·rw [decide_eq_false h1]
  have e:(c.carrier==ca)=false:=beq_false_of_ne h1
  rw [e,eC] at q
  exact f7 q
abbrev tW (P w K mg base) (d:Ad):=Fd P w K mg base 2 "is_or_was_on" ["coupon"] (zY d)
theorem Ab (T:Txt P w K mg d) (iU:kg P w K mg base d) (G:FG K mg "is_or_was_on" (top 98)):tW P w K mg base d:=by
 have S:gf ["coupon"] ["coupon"] (fS (top 98)):=lu
 refine G.fd S (λ_ _ _ _ _ _=>Dl fun _=>rfl) fun _ _ _ _ _ H vs Q E hr h=>⟨_,(fO (fW (Va (jO iY (gw T.fQ T.gc (pv 0)) (fR T.oG) (gm _)) (sN (VM (kC T.fQ iU (hr.mono (by decide)) (pv 0))))))),?_⟩
 obtain ⟨v,c,rfl,⟨a,dx,rfl,ha⟩,q⟩:=h
 refine (U rfl ⟨a,dx,_,_,rfl,ha,iy c,rfl,ac ?_⟩)
 change if decide (mJ c.status=mJ .flown)=true then _ else _
 rw [y6]
 cases h1:(c.status==aJ.flown) with
 |true=>
  rw [h1,Bool.or_true] at q
  exact gR (q H (gi.refl H))
 |false=>
  rw [h1,Bool.or_false] at q
  exact f7 (U rfl ⟨a,dx,_,rfl,ha,(ve c).2.2,_,c,rfl,⟨a,dx,rfl,ha⟩,λH' s'=>⟨_,rfl,q H' s'⟩⟩)
abbrev qj (P w K mg base) (d:Ad):=Fd P w K mg base 1 "all_coupons" ["house"] (mE d)
theorem BU (T:Txt P w K mg d) (G:FG K mg "all_coupons" (top 96)):qj P w K mg base d:=by
 have S:gf ["house","found","ticket"] ["house"] (fS (top 96)):=lu
 refine G.fd S (λ_ _ _ _ _ _=>Dl fun _=>rfl) fun _ _ _ _ _ H vs Q E hr h=>⟨_,(fL (gj (i:=1) S.nd rfl (by first|exact ak rfl|exact au rfl) (gG fM)) (fL (jz PassesOwn.never rfl (gC (gw T.fP T.gW (pv 0))) (gk (i:=2) S.nd rfl (by first|exact ak rfl|exact au rfl)) (fO (jo (oU aP bY bZ mM (pv 1) (fY (gw T.fX T.gD (pv 2)) fM))))) (fO (fW (pv 1))))),?_⟩
 obtain ⟨L,s,rfl,R,I,q⟩:=h
 have Zh:256≤sizeLine:=by decide
 refine ⟨aK _,λp hp=>?_⟩
 have sp:=f9 (o:=HO.lst []) hp
 refine (U rfl ⟨_,_,_,_,rfl,sp _ _ R.hs,i7 L s,_,rfl,⟨_,gE.of (sp _ _ R.tk)⟩,jg (K:=K) (a:=L.a .tk) (xs:=refs L s.tickets.length .tc) (λi σ H'=>∃v2:Option V,σ=[some (.ref (L.a .hs)),some (.ref p),v2]∧gi H H'∧H' p=some (.lst ((sE s (λ_ _=>true) i).map (o5 L)))) ⟨none,rfl,sp,fN⟩ (λi σ H' _ ⟨_,_,s1,_⟩=>gE.of (s1 _ _ R.tk)) ?_ ?_⟩)
 ·rintro i x σ H' hx ⟨v2,rfl,s1,pG⟩
  obtain ⟨hi,rfl⟩:=iQ hx
  obtain ⟨t,ht⟩:=gu hi
  have R1:=R.same s1
  have Qg:=BD I (λ_ _=>true) (i+1) hi
  have h64:=I.AB
  rw [lN ht,ay,KR] at Qg
  refine (U rfl ⟨.inl ⟨rfl,_,gE.of pG⟩,_,rfl,_,_,_,_,rfl,R1.tc ht,iB L i t,p,_,_,_,rfl,rfl,pG,R1.cl ht,?_,?_⟩)
  ·rw [←yY,aa,aa]
   omega
  ·refine ⟨_,rfl,iG s1 hp,?_⟩
   rw [fN,lN ht,KR,bP,yY]
 ·rintro σ H' ⟨v2,rfl,s1,pG⟩
  rw [gH] at pG
  exact (U rfl (q H' p s1 hp pG))
theorem KU {F:V→gL→Prop}(f:gL→Bool) {ev:List V}{es:List gL}(h:Paired F ev es):Paired F (((ev.zip es).map fun x=>if f x.2=true then some x.1 else none).filterMap id) (es.filter f):=by
 induction h with
 |nil=>exact .nil
 |cons z _ ih=>
  rename_i a b l1 l2 _
  rw [List.zip_cons_cons,aG,bj,cc]
  by_cases hf:f b=true
  ·rw [if_pos hf,if_pos hf]
   exact .cons z ih
  ·rw [if_neg hf,if_neg hf]
   exact ih
theorem qR {k:Nat}{tt:TT}{σ:L2.St}{H:Hp}{a:Addr}{ev:List V}{es:List gL}{f:gL→Bool}(ha:H a=some (.lst ev)) (hc:Hm d H ev es) (h4:es.length≤1000) (hk:k<σ.length)
  (hs:∀(x:V) (c:gL) (H2:Hp) (Qb:Bool→Hp→Prop),vK d H2 x c→gi H H2→(∀H3,gi H2 H3→Qb (f c) H3)→tt ((wipe σ [k]).set k (some x)) H2 Qb)
  {Qd:Hp→Prop}{D:Addr}(hD:H D=Option.none) (hd:∀H' ev',gi H H'→H' D=some (.lst ev')→Hm d H' ev' (es.filter f)→Qd H') :
  ∃W:Nat→Nat→Hp→Prop,(∃m,W 0 m (upd H D (.lst [])))∧∀n m H,W n m H→
   ((sQ K a).stop n H∧Qd H)∨((sQ K a).go n H∧∃Nx:Hp→Prop,(∀H',Nx H'→∃m',m'<m∧W (n+1) m' H')∧∀x H',(sQ K a).A0 n H x H'→gr k x (wipe σ [k]) H' fun σ2 H2=>wipe σ2 [k]=wipe σ [k]∧tt σ2 H2 fun b H3=>
    if b=true then fV k σ2 H3 fun y H4=>∃acc,H4 D=some (.lst acc)∧acc.length<sizeLine∧Nx (upd H4 D (.lst (acc++[y]))) else Nx H3):=by
 have le:ev.length=es.length:=Paired.length hc
 have s4:1000≤sizeLine:=by decide
 refine lcF (zs:=(ev.zip es).map fun x:V×gL=>if f x.2=true then some x.1 else Option.none) (gE.of ha) (by omega) (by rw [aa,df];omega) (λj x z H2 Qz hx hz h2 kk=>?_) hD fun H' s' Hh=>hd H' _ s' Hh (KU f (Hm.same s' hc))
 obtain ⟨c,JD,Ug⟩:=gK hc hx
 rw [ah,(cI (z:=(x,c))).mpr ⟨hx,JD⟩] at hz
 have hz:(if f c=true then some x else none)=z:=Option.some.inj hz
 refine hs x c H2 _ (Ug.same h2) h2 fun H3 h3=>?_
 refine qG (λhp=>?_) (λhp=>?_)
 ·rw [if_pos hp] at hz
  subst hz
  refine ⟨x,?_,kk H3 h3⟩
  exact cv (by rw [l9];exact hk)
 ·rw [if_neg hp] at hz
  subst hz
  exact kk H3 h3
abbrev xS (P w K mg base) (d:Ad):=Fd P w K mg base 3 "tell_valid" ["number"] (DO d)
theorem DP (T:Txt P w K mg d) (vO:vL P w K mg base d) (G:FG K mg "tell_valid" (top 99)):xS P w K mg base d:=by
 have S:gf ["number"] ["number"] (fS (top 99)):=lu
 refine G.fd S (λ_ _ _ _ _ _=>Dl fun _=>rfl) fun _ _ _ _ _ H vs Q E hr h=>⟨_,(fO (fW (gG (fY (fR T.gx) (fY (sO (jn (fU vO (hr.mono (by decide)) rfl (fY (pv 0) fM))) gb gb) fM))))),?_⟩
 obtain ⟨L,s,m,rfl,R,q⟩:=h
 have hs:aq s (.valid m)=(s,[0,((if bo m=true then 1 else 0:Nat):Int)]):=rfl
 refine (U rfl ⟨m,rfl,_,rfl,?_⟩)
 cases e:bo m with
 |true=>
  rw [e] at hs
  exact gR ⟨by show 2≤sizeLine;decide,λp hp=>q.done hs R (gy.same (gi.refl H)) hp⟩
 |false=>
  rw [e] at hs
  exact f7 ⟨by show 2≤sizeLine;decide,λp hp=>q.done hs R (gy.same (gi.refl H)) hp⟩
abbrev vo (P w K mg base) (d:Ad):=Fd P w K mg base 1 "tell_credit" ["house","credit_id"] (BQ d)
theorem BV (T:Txt P w K mg d) (G:FG K mg "tell_credit" (top 91)):vo P w K mg base d:=by
 have S:gf ["house","credit_id","credit"] ["house","credit_id"] (fS (top 91)):=lu
 refine G.fd S (λ_ _ _ _ _ _=>MI fun _ _=>rfl) fun _ _ _ _ _ H vs Q E hr h=>⟨_,(fL (gJ (gg JH (pv 1) (gp gz rfl T.jb aI (fY (gw T.fP T.gB (pv 0)) fM)) (gm _)) (fO (fW (gG (fY (fR T.kP) fM)))) gd) (fL (gj (i:=2) S.nd rfl (by first|exact ak rfl|exact au rfl) (gP gv (gw T.fP T.gB (pv 0)) (g9 mL (pv 1) gb) (λ_ _=>rfl))) (fO (fW (gG (fY (fR T.gx) (fY (gw T.gq T.ja (pv 2)) (fY (gw T.gq T.gZ (pv 2)) (fY (gw T.gq T.lq (pv 2)) fM))))))))),?_⟩
 obtain ⟨k,k1,L,s,rfl,R,I,q⟩:=h
 have hs:aq s (.credit k)=match s.credits[k - 1]? with
  |none=>(s,[-8])
  |some c=>(s,[0,((c.passenger:Nat):Int),((c.amount:Nat):Int),((c.last:Nat):Int)]):=by
  show (match s.credits[k - 1]? with | none=>_ | some c=>_)=_
  cases s.credits[k - 1]?<;>rfl
 refine (U rfl (U rfl ⟨_,_,_,_,rfl,R.hs,ik L s,_,_,rfl,.inl (gE.of R.ct),_,_,rfl,rfl,_,rfl,?_⟩))
 rw [gH]
 by_cases h2:s.credits.length<k
 ·rw [show decide (((s.credits.length:Nat):Int)<(k:Int))=true from decide_eq_true (by omega)]
  rw [bc (by omega)] at hs
  exact gR ⟨by show 1≤sizeLine;decide,λp hp=>q.ref hs R (gi.refl H) hp⟩
 ·rw [show decide (((s.credits.length:Nat):Int)<(k:Int))=false from decide_eq_false (by omega)]
  obtain ⟨c,hc⟩:=gu (l:=s.credits) (i:=k - 1) (by omega)
  rw [hc] at hs
  refine f7 ?_
  have hC:=R.cr hc
  refine (U rfl ⟨_,_,_,_,rfl,R.hs,ik L s,U rfl (ad ⟨_,_,_,_,rfl,rfl,gE.of R.ct,nP (j:=k - 1) (by omega) (kM (by omega)),?_⟩)⟩)
  exact (U rfl ⟨_,_,_,_,rfl,hC,vd c,U rfl ⟨_,_,_,_,rfl,hC,lW c,U rfl ⟨_,_,_,_,rfl,hC,Ke c,by show 4≤sizeLine;decide,λp hp=>q.done hs R (gy.same (gi.refl H)) hp⟩⟩⟩)
abbrev tX (P w K mg base) (d:Ad):=Fd P w K mg base 1 "tell_tickets" ["house"] (zZ d)
theorem Ac (T:Txt P w K mg d) (G:FG K mg "tell_tickets" (top 100)):tX P w K mg base d:=by
 have S:gf ["house","ticket"] ["house"] (fS (top 100)):=lu
 refine G.fd S (λ_ _ _ _ _ _=>Dl fun _=>rfl) fun _ _ _ _ _ H vs Q E hr h=>⟨_,(fO (fW (g9 QI (gG (fY (fR T.gx) fM)) (ko rfl S.nd (gC (gw T.fP T.gW (pv 0))) (gS (own:=[("ticket",1)]) (by show kX ["house","ticket"] (fS (top 100)) _ _=true;decide +kernel)) (λ_ _ _ _ _=>(gk (i:=1) S.nd rfl (by first|exact ak rfl|exact au rfl))) (λ_ _ _ _ _=>iJ) (λ_ _ _ _ _=>(gw T.fX T.iL (pv 1))))))),?_⟩
 obtain ⟨L,s,rfl,R,I,q⟩:=h
 have hs:aq s .tickets=(s,0::s.tickets.map fun t=>((ao t.form:Nat):Int)):=by
  show (s,eB (s.tickets.map fun t=>ao t.form))=_
  unfold eB Vbahah.ints
  rw [fi]
  rfl
 have s64:65≤sizeLine:=by decide
 have t64:=I.AB
 refine ⟨by show 1≤sizeLine;decide,λp0 Zt=>?_⟩
 have s0:=f9 (o:=HO.lst [.int 0]) Zt
 have R0:=R.same s0
 refine (U rfl ⟨_,_,_,_,rfl,R0.hs,i7 L s,_,rfl,⟨_,gE.of R0.tk⟩,λD hD=>Vo (ys:=vI (s.tickets.map fun t=>((ao t.form:Nat):Int))) (gE.of R0.tk) (by rw [gH];omega) (by rw [aa,aa,gH]) (λi x y H2 Qy hx hy h2 kk=>?_) hD fun H1 s1 HC=>?_⟩)
 ·obtain ⟨hi,rfl⟩:=iQ hx
  obtain ⟨t,ht⟩:=gu hi
  obtain ⟨b,hb,rfl⟩:=jU hy
  rw [ah,ht] at hb
  have hb:=Option.some.inj hb
  subst hb
  exact (U rfl ⟨_,_,_,_,rfl,h2 _ _ (R0.tc ht),rk L i t,kk _ (gi.refl _)⟩)
 ·refine ⟨p0,D,_,_,rfl,rfl,s1 _ _ fN,HC,by rw [aa,aa];show 1+s.tickets.length≤sizeLine;omega,λp hp=>?_⟩
  exact q.done hs (R0.same s1) (gy.same (s0.trans s1)) hp
abbrev vp (P w K mg base) (d:Ad):=Fd P w K mg base 2 "tell_lifted" ["house","carrier"] (BS d)
theorem BW (T:Txt P w K mg d) (qk:qj P w K mg base d) (BX:tV P w K mg base d) (jM:mf P w K mg base d) (G:FG K mg "tell_lifted" (top 94)):vp P w K mg base d:=by
 have S:gf ["house","carrier","coupons","coupon"] ["house","carrier"] (fS (top 94)):=lu
 refine G.fd S (λ_ _ _ _ _ _=>MI fun _ _=>rfl) fun _ _ _ _ _ H vs Q E hr h=>⟨_,(fL (gj (i:=2) S.nd rfl (by first|exact ak rfl|exact au rfl) (fU qk (hr.mono (by decide)) rfl (fY (pv 0) fM))) (fO (fW (gG (fY (fR T.gx) (fY (fU jM (hr.mono (by decide)) rfl (fY (ko rfl S.nd (gC (pv 2)) (gS (own:=[("coupon",3)]) (by show kX ["house","carrier","coupons","coupon"] (fS (top 94)) _ _=true;decide +kernel)) (λ_ _ _ _ _=>(gk (i:=3) S.nd rfl (by first|exact ak rfl|exact au rfl))) (λ_ _ _ _ _=>(pJ (jn (fU BX (hr.mono (by decide)) rfl (fY (pv 3) (fY (pv 1) fM)))))) (λ_ _ _ _ _=>(pv 3))) fM)) fM)))))),?_⟩
 obtain ⟨ca,L,s,rfl,R,I,q⟩:=h
 have hs:aq s (.lifted ca)=(s,[0,((Vbahah.liftedBy s ca:Nat):Int)]):=rfl
 refine (U rfl ⟨L,s,rfl,R,I,λH1 p s1 np hp=>?_⟩)
 have R1:=R.same s1
 have cps:=tN R1 (ps:=MU s) ku
 rw [AN] at cps
 have n1:(bS s).length≤1000:=by
  rw [←AN]
  unfold MU
  rw [pR ku]
  have:=Oo I (λ_ _=>true)
  omega
 refine (U rfl ⟨p,rfl,⟨_,gE.of hp⟩,λD hD=>qR (f:=λc=>c.status==.flown&&c.carrier==ca) hp cps n1 (by show 3<4;decide) (λx c H2 Qb hx h2 kk=>?_) hD fun H2 ev s2 LU hc2=>?_⟩)
 ·exact (U rfl (U rfl ⟨x,c,ca,rfl,hx,_,rfl,kk _ (gi.refl _)⟩))
 ·refine ⟨D,_,_,rfl,LU,hc2,bh (da _ _) n1,λH3 s3=>⟨by show 2≤sizeLine;decide,λpp Tc=>?_⟩⟩
  exact q.done hs (R1.same (s2.trans s3)) (gy.same ((s1.trans s2).trans s3)) Tc
theorem RZ (a b:List Nat):vI (iN (a++b))=vI (iN a)++vI (iN b):=by
 unfold iN
 rw [bP]
 exact bP
theorem nD {α β:Type}{f:α→List β}{n:Nat}:∀{l:List α},(∀a∈l,(f a).length≤n)→(l.flatMap f).length≤n * l.length
 |[],_=>aK _
 |a::r,h=>by
  have h1:=h a az
  have h2:=nD (l:=r) fun b hb=>h b (ag _ hb)
  rw [dN,ay,aw,Nat.mul_succ]
  omega
theorem W5 {s:gA}(I:gN s):(bS s).length≤1000:=by
 rw [←AN]
 unfold MU
 rw [pR ku]
 have:=Oo I (λ_ _=>true)
 omega
theorem W6 (x:aJ):LR (mJ x) [.int 4,.int 8]=(x==.flown||x==.runOut):=by cases x<;>rfl
abbrev xT (P w K mg base) (d:Ad):=Fd P w K mg base 3 "tell_heaps" ["house"] (DN d)
def DQ (K:ab) (d:Ad) (mE pS ki hJ il:Sp):TS:=(g6 (jw (iA mE [] E0 (fT (fV 0) gF)) (gr 1)) (g6 (jw (yt (jy K (fV 1)) (gr 2) (kH (km Tj (tF d.fQ (fV 2) "status") (tC (.int 4)))) (fV 2) [2]) (gr 3)) (g6 (jw (yt (jy K (fV 1)) (gr 2) (kH (km (X0 K false) (tF d.fQ (fV 2) "status") (A5 (fT (tC (.int 4)) (fT (tC (.int 8)) gF))))) (fV 2) [2]) (gr 4)) (g6 (jw (yt (jy K (fV 1)) (gr 2) (OI (tB (JJ d.fQ "has_ended" il [] E0 (fV 2) gF))) (fV 2) [2]) (gr 5)) (g6 (jw (km ml (iA hJ [] E0 (fT (fV 5) gF)) (vC (OQ K) (fT (yt (jy K (tF d.fP (fV 0) "credit_table")) (gr 6) mI (tF d.gq (fV 6) "amount") [6]) gF))) (gr 7)) (jZ (pD (fT (tC (.int 0)) (fT (tF d.fP (fV 0) "cash_in") (fT (tF d.fP (fV 0) "cash_out") (fT (iA ki [] E0 (fT (fV 3) gF)) (fT (tF d.fP (fV 0) "kept") (fT (iA pS [] E0 (fT (fV 4) gF)) (fT (fV 7) gF))))))))))))))
theorem DR (T:Txt P w K mg d) (qk:qj P w K mg base d) (o8:rG P w K mg base d) (jM:mf P w K mg base d) (ka:nq P w K mg base d) (iU:kg P w K mg base d) (G:FG K mg "tell_heaps" (top 93)):xT P w K mg base d:=by
 have S:gf ["house","coupons","coupon","flown","taxed","living","credit","owed"] ["house"] (fS (top 93)):=lu
 refine G.fd S (λ_ _ _ _ _ _=>Dl fun _=>rfl) fun _ _ _ _ _ H vs Q E hr h=>⟨DQ K d (mE d) (pS d) (ki d) (hJ d) (il d),(fL (gj (i:=1) S.nd rfl (by first|exact ak rfl|exact au rfl) (fU qk (hr.mono (by decide)) rfl (fY (pv 0) fM))) (fL (oV rfl S.nd rfl rfl (qY rfl rfl rfl rfl) (gC (pv 1)) (gS (own:=[("coupon",2)]) (by show kX ["house","coupons","coupon","flown","taxed","living","credit","owed"] (fS (top 93)) _ _=true;decide +kernel)) (λ_ _ _ _ _=>(gk (i:=2) S.nd rfl (by first|exact ak rfl|exact au rfl))) (λ_ _ _ _ _=>(pJ (gg iY (gw T.fQ T.gc (pv 2)) (fR T.oG) (gm _)))) (λ_ _ _ _ _=>(pv 2))) (fL (oV rfl S.nd rfl rfl (qY rfl rfl rfl rfl) (gC (pv 1)) (gS (own:=[("coupon",2)]) (by show kX ["house","coupons","coupon","flown","taxed","living","credit","owed"] (fS (top 93)) _ _=true;decide +kernel)) (λ_ _ _ _ _=>(gk (i:=2) S.nd rfl (by first|exact ak rfl|exact au rfl))) (λ_ _ _ _ _=>(pJ (gg qD (gw T.fQ T.gc (pv 2)) (i6 (fY (fR T.oG) (fY (fR T.oP) fM))) (by with_unfolding_all rfl)))) (λ_ _ _ _ _=>(pv 2))) (fL (oV rfl S.nd rfl rfl (qY rfl rfl rfl rfl) (gC (pv 1)) (gS (own:=[("coupon",2)]) (by show kX ["house","coupons","coupon","flown","taxed","living","credit","owed"] (fS (top 93)) _ _=true;decide +kernel)) (λ_ _ _ _ _=>(gk (i:=2) S.nd rfl (by first|exact ak rfl|exact au rfl))) (λ_ _ _ _ _=>(pJ (oT (jn (kC T.fQ iU (hr.mono (by decide)) (pv 2)))))) (λ_ _ _ _ _=>(pv 2))) (fL (gj (i:=7) S.nd rfl (by first|exact ak rfl|exact au rfl) (g9 ip (fU ka (hr.mono (by decide)) rfl (fY (pv 5) fM)) (gp (pZ rfl) rfl T.qK boot_sum (fY (ko rfl S.nd (gC (gw T.fP T.gB (pv 0))) (gS (own:=[("credit",6)]) (by show kX ["house","coupons","coupon","flown","taxed","living","credit","owed"] (fS (top 93)) _ _=true;decide +kernel)) (λ_ _ _ _ _=>(gk (i:=6) S.nd rfl (by first|exact ak rfl|exact au rfl))) (λ_ _ _ _ _=>iJ) (λ_ _ _ _ _=>(gw T.gq T.gZ (pv 6)))) fM)))) (fO (fW (gG (fY (fR T.gx) (fY (gw T.fP T.iM (pv 0)) (fY (gw T.fP T.ig (pv 0)) (fY (fU jM (hr.mono (by decide)) rfl (fY (pv 3) fM)) (fY (gw T.fP T.iH (pv 0)) (fY (fU o8 (hr.mono (by decide)) rfl (fY (pv 4) fM)) (fY (pv 7) fM))))))))))))))),?_⟩
 obtain ⟨L,s,rfl,R,I,q⟩:=h
 have hs:aq s .heaps=(s,[0,((s.cashIn:Nat):Int),((s.cashOut:Nat):Int),((Vbahah.lifted s:Nat):Int),((s.kept:Nat):Int),((Vbahah.due s:Nat):Int),((Vbahah.owed s:Nat):Int)]):=rfl
 have s64:64≤sizeLine:=by decide
 have c64:=I.N6
 have n1:=W5 I
 have fl:∀f:gL→Bool,((bS s).filter f).length≤1000:=λf=>bh (da _ _) n1
 refine (U rfl ⟨L,s,rfl,R,I,λH1 p s1 np hp=>?_⟩)
 have R1:=R.same s1
 have cps:=tN R1 (ps:=MU s) ku
 rw [AN] at cps
 refine (U rfl ⟨p,rfl,⟨_,gE.of hp⟩,λD hD=>qR (f:=λc=>c.status==.flown) hp cps n1 (by show 2<8;decide) (λx c H2 Qb hx h2 kk=>?_) hD fun H2 e3 s2 LU c3=>?_⟩)
 ·obtain ⟨a,dx,rfl,ha⟩:=hx
  refine (U rfl ⟨a,dx,_,_,rfl,ha,iy c,rfl,ac ?_⟩)
  rw [←y6] at kk
  exact kk _ (gi.refl _)
 refine (U rfl ⟨p,rfl,⟨_,gE.of (s2 _ _ hp)⟩,λD' Hh=>qR (f:=λc=>c.status==.flown||c.status==.runOut) (s2 _ _ hp) (cps.same s2) n1 (by show 2<8;decide) (λx c H3 Qb hx h3 kk=>?_) Hh fun H3 e4 s3 Y8 c4=>?_⟩)
 ·obtain ⟨a,dx,rfl,ha⟩:=hx
  refine (U rfl ⟨a,dx,_,_,rfl,ha,iy c,by show 2≤sizeLine;decide,λg hg=>⟨g,_,rfl,.inr (mZ.of fN),rfl,rfl,_,rfl,?_⟩⟩)
  have:=kk _ (f9 (o:=HO.tup [.int 4,.int 8]) hg)
  rw [←W6] at this
  exact this
 have LV:=s2.trans s3
 refine (U rfl ⟨p,rfl,⟨_,gE.of (LV _ _ hp)⟩,λD2 aaF=>qR (f:=cE) (LV _ _ hp) (cps.same LV) n1 (by show 2<8;decide) (λx c H4 Qb hx h4 kk=>?_) aaF fun H4 e5 s4 Zu c5=>?_⟩)
 ·obtain ⟨a,dx,rfl,ha⟩:=hx
  exact (U rfl ⟨a,dx,_,rfl,ha,(ve c).2.2,_,c,rfl,⟨a,dx,rfl,ha⟩,λH5 s5=>⟨_,rfl,kk H5 s5⟩⟩)
 refine (U rfl ⟨D2,_,_,rfl,Zu,c5,fl _,λH5 s5=>?_⟩)
 have s15:=((s1.trans LV).trans s4).trans s5
 have R5:=R.same s15
 refine (U rfl ⟨_,_,_,_,rfl,R5.hs,ik L s,_,rfl,⟨_,gE.of R5.ct⟩,λD3 aaG=>Vo (ys:=vI (s.credits.map fun c=>((c.amount:Nat):Int))) (gE.of R5.ct) (by rw [gH];omega) (by rw [aa,aa,gH]) (λi x y H6 Qy hx hy h6 kk=>?_) aaG fun H6 s6 hD6=>?_⟩)
 ·obtain ⟨hi,rfl⟩:=iQ hx
  obtain ⟨c,hc⟩:=gu hi
  obtain ⟨b,hb,rfl⟩:=jU hy
  rw [ah,hc] at hb
  have hb:=Option.some.inj hb
  subst hb
  exact (U rfl ⟨_,_,_,_,rfl,h6 _ _ (R5.cr hc),lW c,kk _ (gi.refl _)⟩)
 refine ⟨D3,_,rfl,gE.of hD6,_,_,rfl,rfl,?_⟩
 have eo:V.int (((((bS s).filter cE).map dG).sum:Nat)+(s.credits.map fun c=>((c.amount:Nat):Int)).sum)=vN (Vbahah.owed s):=by
  rw [tO]
  unfold vN Vbahah.owed aD
  congr 1
 dsimp only
 rw [eo]
 have R6:=R5.same s6
 have LW:=s4.trans (s5.trans s6)
 refine (U rfl ⟨_,_,_,_,rfl,R6.hs,tD L s,U rfl ⟨_,_,_,_,rfl,R6.hs,oA L s,U rfl ⟨D,_,_,rfl,LW _ _ (s3 _ _ LU),c3.same (s3.trans LW),fl _,λH7 s7=>?_⟩⟩⟩)
 refine (U rfl ⟨_,_,_,_,rfl,s7 _ _ R6.hs,tE L s,U rfl ⟨D',_,_,rfl,s7 _ _ (LW _ _ Y8),c4.same (LW.trans s7),fl _,λH8 s8=>?_⟩⟩)
 refine (U rfl ⟨by show 7≤sizeLine;decide,λpp Tc=>?_⟩)
 exact q.done hs (R6.same (s7.trans s8)) (gy.same ((s15.trans s6).trans (s7.trans s8))) Tc
def Pt (c:gL):List Nat:=[c.carrier,c.num,c.day,c.from_,c.to_,c.value,c.tax,dR c.status,if c.free=true then 1 else 0]
abbrev vq (P w K mg base) (d:Ad):=Fd P w K mg base 4 "tell_ticket" ["house","number"] (BR d)
theorem BY (T:Txt P w K mg d) (jX:lx P w K mg base d) (G:FG K mg "tell_ticket" (top 92)):vq P w K mg base d:=by
 have S:gf ["house","number","refused","ticket","told","coupon"] ["house","number"] (fS (top 92)):=lu
 refine G.fd S (λ_ _ _ _ _ _=>MI fun _ _=>rfl) fun _ _ _ _ _ H vs Q E hr h=>⟨_,(fL (gj (i:=2) S.nd rfl (by first|exact ak rfl|exact au rfl) (fU jX (hr.mono (by decide)) rfl (fY (pv 0) (fY (pv 1) fM)))) (fL (gJ (gg kn (pv 2) (fR T.gx) (gm _)) (fO (fW (gG (fY (pv 2) fM)))) gd) (fL (gj (i:=3) S.nd rfl (by first|exact ak rfl|exact au rfl) (oq (oi hr) (gw T.fP T.gM (pv 0)) (pv 1) (λ_ _=>rfl))) (fL (gj (i:=4) S.nd rfl (by first|exact ak rfl|exact au rfl) (gG (fY (fR T.gx) (fY (gw T.fX T.i9 (pv 3)) (fY (gw T.fX T.jS (pv 3)) (fY (gw T.fX T.kf (pv 3)) fM)))))) (fL (jz PassesOwn.never rfl (gC (gw T.fX T.gD (pv 3))) (gk (i:=5) S.nd rfl (by first|exact ak rfl|exact au rfl)) (fL (jo (oU aP bY bZ mM (pv 4) (fY (gG (fY (gw T.fQ T.iD (pv 5)) (fY (gw T.fQ T.kN (pv 5)) (fY (gw T.fQ T.j6 (pv 5)) (fY (gw T.fQ T.jB (pv 5)) (fY (gw T.fQ T.ke (pv 5)) fM)))))) fM))) (fO (jo (oU aP bY bZ mM (pv 4) (fY (gG (fY (gw T.fQ T.js (pv 5)) (fY (gw T.fQ T.j7 (pv 5)) (fY (gw T.fQ T.gc (pv 5)) (fY (sO (jn (gw T.fQ T.jr (pv 5))) gb gb) fM))))) fM)))))) (fO (fW (pv 4)))))))),?_⟩
 obtain ⟨m,L,s,rfl,R,I,q⟩:=h
 have hs:aq s (.ticket m)=match bt s m with
  |.error z=>(s,[z])
  |.ok t=>(s,iN ([0,t.passenger,t.issued,t.last]++t.coupons.flatMap Pt)):=by
  show (match bt s m with | .error z=>_ | .ok t=>_)=_
  cases bt s m<;>rfl
 refine (U rfl (U rfl ⟨L,s,m,rfl,R,?_⟩))
 refine (U rfl ⟨rfl,ac ?_⟩)
 rw [jY]
 by_cases h0:qM s m=0
 ·rw [decide_eq_true h0]
  refine f7 ?_
  obtain ⟨t,hx⟩:=KQ h0
  obtain ⟨i,e1,e2,hr⟩:=nj hx
  rw [hx] at hs
  dsimp only at hs
  have h4:=(I.cps t (ax e2)).2
  have s40:100≤sizeLine:=by decide
  have hT:=R.tc e2
  refine (U rfl ⟨_,_,_,_,rfl,R.hs,iC L s,U rfl ⟨_,_,rfl,pQ R hr e1,?_⟩⟩)
  refine (U rfl ⟨_,_,_,_,rfl,hT,vc L i t,U rfl ⟨_,_,_,_,rfl,hT,Bk L i t,U rfl ⟨_,_,_,_,rfl,hT,Bl L i t,by show 4≤sizeLine;decide,λp hp=>?_⟩⟩⟩)
  have sp:=f9 (o:=HO.lst [.int 0,vN t.passenger,vN t.issued,vN t.last]) hp
  refine (U rfl ⟨_,_,_,_,rfl,sp _ _ hT,iB L i t,_,rfl,⟨_,gE.of (sp _ _ (R.cl e2))⟩,jg (K:=K) (a:=L.a (.cl i)) (xs:=refs L t.coupons.length (.cp i)) (λj σ H'=>∃v5:Option V,σ=[some (.ref (L.a .hs)),some (vN m),some (.int (qM s m)),some (.ref (L.a (.tc i))),some (.ref p),v5]∧gi H H'∧H' p=some (.lst (vI (iN ([0,t.passenger,t.issued,t.last]++(t.coupons.take j).flatMap Pt))))) ⟨none,rfl,sp,fN⟩ (λj σ H' _ ⟨_,_,s1,_⟩=>gE.of (s1 _ _ (R.cl e2))) ?_ ?_⟩)
  ·rintro j x σ H' hx ⟨v5,rfl,s1,pG⟩
   obtain ⟨hj,rfl⟩:=iQ hx
   obtain ⟨c,hc⟩:=gu hj
   have hC:=s1 _ _ (R.cp e2 hc)
   have ln:([0,t.passenger,t.issued,t.last]++(t.coupons.take j).flatMap Pt).length≤40:=by
    have:=nD (f:=Pt) (n:=9) (l:=t.coupons.take j) fun a _=>by show 9≤9;decide
    rw [bp] at this
    rw [ay]
    show 4+_≤40
    omega
   have ln2:(vI (iN ([0,t.passenger,t.issued,t.last]++(t.coupons.take j).flatMap Pt))).length≤40:=by
    rw [aa]
    unfold iN
    rw [aa]
    exact ln
   refine (U rfl ⟨.inl ⟨rfl,_,gE.of pG⟩,_,rfl,_,_,_,_,rfl,hC,oX c,_,rfl,_,_,_,_,rfl,hC,Rf c,_,rfl,_,_,_,_,rfl,hC,MC c,_,rfl,_,_,_,_,rfl,hC,yH c,_,rfl,_,_,_,_,rfl,hC,Ha c,by show 5≤sizeLine;decide,λg hg=>?_⟩)
   have sg:=f9 (o:=HO.lst [vN c.carrier,vN c.num,vN c.day,vN c.from_,vN c.to_]) hg
   refine ⟨p,g,_,_,rfl,rfl,sg _ _ pG,fN,by show _+5≤sizeLine;omega,?_⟩
   have s2:=iG (o:=HO.lst (vI (iN ([0,t.passenger,t.issued,t.last]++(t.coupons.take j).flatMap Pt))++[vN c.carrier,vN c.num,vN c.day,vN c.from_,vN c.to_])) (s1.trans sg) hp
   have Zv:=s2 _ _ (R.cp e2 hc)
   have yu:upd (upd H' g (.lst [vN c.carrier,vN c.num,vN c.day,vN c.from_,vN c.to_])) p (.lst (vI (iN ([0,t.passenger,t.issued,t.last]++(t.coupons.take j).flatMap Pt))++[vN c.carrier,vN c.num,vN c.day,vN c.from_,vN c.to_])) p=some (.lst (vI (iN ([0,t.passenger,t.issued,t.last]++(t.coupons.take j).flatMap Pt))++[vN c.carrier,vN c.num,vN c.day,vN c.from_,vN c.to_])):=fN
   generalize upd (upd H' g (.lst [vN c.carrier,vN c.num,vN c.day,vN c.from_,vN c.to_])) p (.lst (vI (iN ([0,t.passenger,t.issued,t.last]++(t.coupons.take j).flatMap Pt))++[vN c.carrier,vN c.num,vN c.day,vN c.from_,vN c.to_]))=H2 at s2 Zv yu ⊢
   refine (U rfl ⟨.inl ⟨rfl,_,gE.of yu⟩,_,rfl,_,_,_,_,rfl,Zv,xa c,_,rfl,_,_,_,_,rfl,Zv,Hb c,_,rfl,_,_,_,_,rfl,Zv,iy c,_,rfl,_,_,_,_,rfl,Zv,Hc c,_,rfl,?_⟩)
   have fin:∀z:Nat,(if c.free=true then 1 else 0)=z→[vN c.value,vN c.tax,mJ c.status,vN z].length≤sizeLine∧∀Zw,H2 Zw=Option.none→∃l b xs zs,V.ref p=.ref l∧[V.ref Zw]=[.ref b]∧upd H2 Zw (.lst [vN c.value,vN c.tax,mJ c.status,vN z]) l=some (.lst xs)∧upd H2 Zw (.lst [vN c.value,vN c.tax,mJ c.status,vN z]) b=some (.lst zs)∧xs.length+zs.length≤sizeLine∧
     (λ(_:V) H'=>∃v5:Option V,[some (V.ref (L.a .hs)),some (vN m),some (.int (qM s m)),some (.ref (L.a (.tc i))),some (.ref p),some (.ref (L.a (.cp i j)))]=[some (V.ref (L.a .hs)),some (vN m),some (.int (qM s m)),some (.ref (L.a (.tc i))),some (.ref p),v5]∧gi H H'∧H' p=some (.lst (vI (iN ([0,t.passenger,t.issued,t.last]++(t.coupons.take (j+1)).flatMap Pt))))) .mH (upd (upd H2 Zw (.lst [vN c.value,vN c.tax,mJ c.status,vN z])) l (.lst (xs++zs))):=λz hz=>by
    refine ⟨by show 4≤sizeLine;decide,λg2 Vq=>?_⟩
    have Zx:=f9 (o:=HO.lst [vN c.value,vN c.tax,mJ c.status,vN z]) Vq
    refine ⟨p,g2,_,_,rfl,rfl,Zx _ _ yu,fN,by rw [ay];show _+5+4≤sizeLine;omega,_,rfl,iG (s2.trans Zx) hp,?_⟩
    rw [fN,take_snoc hc,cj,cg]
    rw [←cz,RZ _ (Pt c),cz,←hz]
    rfl
   cases hf:c.free with
   |true=>
    rw [hf] at fin
    exact gR (fin 1 rfl)
   |false=>
    rw [hf] at fin
    exact f7 (fin 0 rfl)
  ·rintro σ H' ⟨v5,rfl,s1,pG⟩
   rw [gH,bg] at pG
   exact (U rfl (q.rd hs R s1 hp pG))
 ·rw [decide_eq_false h0]
  refine gR (U rfl ⟨by show 1≤sizeLine;decide,λp hp=>?_⟩)
  refine q.ref (hs.trans ?_) R (gi.refl H) hp
  rw [Gy h0]
def AO (g:Nat×Nat×Nat) (t:iF) (x:gL×Nat):List Nat:=if (qO g x.1&&(cE x.1||x.1.status==.flown))=true then [ao t.form,x.2,dR x.1.status] else []
theorem BZ (g:Nat×Nat×Nat) (t:iF):∀l:List (gL×Nat),(l.filter fun x=>qO g x.1&&(cE x.1||x.1.status==.flown)).flatMap (λx=>[ao t.form,x.2,dR x.1.status])=l.flatMap (AO g t)
 |[]=>rfl
 |x::r=>by
  rw [cc,dN,←BZ g t r]
  unfold AO
  split
  ·rw [dN]
  ·rfl
theorem MW (g:Nat×Nat×Nat) (t:iF) (x:gL×Nat):(AO g t x).length≤3:=by
 unfold AO
 split
 ·exact ai _
 ·exact aK _
abbrev Gz (P w K mg base) (d:Ad):=Fd P w K mg base 3 "tell_on" ["house","carrier","num","day"] (MV d)
theorem MX (T:Txt P w K mg d) (B0:tW P w K mg base d) (iE:jG P w K mg base d) (G:FG K mg "tell_on" (top 97)):Gz P w K mg base d:=by
 have S:gf ["house","carrier","num","day","flight","told","ticket","n","coupon"] ["house","carrier","num","day"] (fS (top 97)):=lu
 refine G.fd S (λ_ _ _ _ _ _=>Vn fun _ _ _ _=>rfl) fun _ _ _ _ _ H vs Q E hr h=>⟨_,(fL (gj (i:=4) S.nd rfl (by first|exact ak rfl|exact au rfl) (i6 (fY (pv 1) (fY (pv 2) (fY (pv 3) fM))))) (fL (gj (i:=5) S.nd rfl (by first|exact ak rfl|exact au rfl) (gG (fY (fR T.gx) fM))) (fL (jz PassesOwn.never rfl (gC (gw T.fP T.gW (pv 0))) (gk (i:=6) S.nd rfl (by first|exact ak rfl|exact au rfl)) (fO (jz PassesOwn.never rfl (NR (by rfl) T.nh (fY (gw T.fX T.gD (pv 6)) fM)) (mK rfl (hX (gk (i:=7) S.nd rfl (by first|exact ak rfl|exact au rfl)) (hX (gk (i:=8) S.nd rfl (by first|exact ak rfl|exact au rfl)) kW))) (fO (gJ (PW.pt (AX (gg (QJ hr.units) (kC T.fQ iE (hr.mono (by decide)) (pv 8)) (pv 4) (gm _)) (Ax (jn (fU B0 (hr.mono (by decide)) rfl (fY (pv 8) fM)))))) (fO (jo (oU aP bY bZ mM (pv 5) (fY (gG (fY (gw T.fX T.iL (pv 6)) (fY (pv 7) (fY (gw T.fQ T.gc (pv 8)) fM)))) fM)))) gd))))) (fO (fW (pv 5)))))),?_⟩
 obtain ⟨a,b,c,L,s,rfl,R,I,q⟩:=h
 have hs:aq s (.on_ a b c)=(s,iN (0::s.tickets.flatMap fun t=>t.coupons.zipIdx.flatMap (AO (a,b,c) t))):=by
  show (s,iN (0::s.tickets.flatMap fun t=>(t.coupons.zipIdx.filter fun x=>qO (a,b,c) x.1&&(cE x.1||x.1.status==.flown)).flatMap fun x=>[ao t.form,x.2,dR x.1.status]))=_
  simp only [BZ]
 have aa4:900≤sizeLine:=by decide
 have t64:=I.AB
 refine (U rfl (U rfl (U rfl ⟨by show 3≤sizeLine;decide,λf hf=>?_⟩)))
 have sf:=f9 (o:=HO.tup (Gi (a,b,c))) hf
 refine ⟨by show 1≤sizeLine;decide,λp hp=>?_⟩
 have Zt:=sf.free hp
 have sp:=f9 (o:=HO.lst [.int 0]) hp
 have s0:=sf.trans sp
 have tl:∀t∈s.tickets,(t.coupons.zipIdx.flatMap (AO (a,b,c) t)).length≤12:=λt ht=>by
  have h1:=nD (f:=AO (a,b,c) t) (n:=3) (l:=t.coupons.zipIdx) fun x _=>MW _ _ x
  have h2:=(I.cps t ht).2
  rw [ej] at h1
  omega
 have ol:∀i,((s.tickets.take i).flatMap fun t=>t.coupons.zipIdx.flatMap (AO (a,b,c) t)).length≤12 * 64:=λi=>by
  have h1:=nD (f:=λt:iF=>t.coupons.zipIdx.flatMap (AO (a,b,c) t)) (n:=12) (l:=s.tickets.take i) fun t ht=>tl t (List.mem_of_mem_take ht)
  rw [bp] at h1
  refine bh h1 ?_
  omega
 refine (U rfl ⟨_,_,_,_,rfl,s0 _ _ R.hs,i7 L s,_,rfl,⟨_,gE.of (s0 _ _ R.tk)⟩,jg (K:=K) (a:=L.a .tk) (xs:=refs L s.tickets.length .tc) (λi σ H'=>∃v6 v7 v8:Option V,σ=[some (.ref (L.a .hs)),some (vN a),some (vN b),some (vN c),some (.ref f),some (.ref p),v6,v7,v8]∧gi (upd H f (.tup (Gi (a,b,c)))) H'∧H' p=some (.lst (vI (iN (0::(s.tickets.take i).flatMap fun t=>t.coupons.zipIdx.flatMap (AO (a,b,c) t)))))) ⟨none,none,none,rfl,sp,fN⟩ (λi σ H' _ ⟨_,_,_,_,s1,_⟩=>gE.of (s1 _ _ (sf _ _ R.tk))) ?_ ?_⟩)
 ·rintro i x σ H' hx ⟨v6,v7,v8,rfl,s1,pG⟩
  obtain ⟨hi,rfl⟩:=iQ hx
  obtain ⟨t,ht⟩:=gu hi
  have R1:=R.same (sf.trans s1)
  have h4:=(I.cps t (ax ht)).2
  refine (U rfl ⟨_,_,_,_,rfl,R1.tc ht,iB L i t,_,_,rfl,gE.of (R1.cl ht),W4 (n:=t.coupons.length) (λj σ H'=>∃v7 v8:Option V,σ=[some (.ref (L.a .hs)),some (vN a),some (vN b),some (vN c),some (.ref f),some (.ref p),some (.ref (L.a (.tc i))),v7,v8]∧gi (upd H f (.tup (Gi (a,b,c)))) H'∧H' p=some (.lst (vI (iN (0::(((s.tickets.take i).flatMap fun t=>t.coupons.zipIdx.flatMap (AO (a,b,c) t))++(t.coupons.zipIdx.take j).flatMap (AO (a,b,c) t))))))) ⟨v7,v8,rfl,s1,?_⟩ ?_ ?_ ?_ ?_⟩)
  ·rw [List.take_zero,List.flatMap_nil,bW]
   exact pG
  ·rintro j σ H2 hj ⟨_,_,_,s2,_⟩
   exact ⟨_,_,gE.of ((R.same (sf.trans s2)).cl ht),kM hj⟩
  ·rintro σ H2 ⟨_,_,_,s2,_⟩
   exact ⟨_,gE.of ((R.same (sf.trans s2)).cl ht),by rw [gH];exact ai _⟩
  ·rintro j σ H2 x H3 hj ⟨w7,w8,rfl,s2,yu⟩ ⟨T,y,rfl,hT,rfl,hy⟩
   have R2:=R.same (sf.trans s2)
   have hy:=hy _ (gE.of (R2.cl ht))
   obtain ⟨_,rfl⟩:=iQ hy
   obtain ⟨y,hc⟩:=gu hj
   have sT:=f9 (o:=HO.tup [.int (j:Nat),.ref (L.a (.cp i j))]) hT
   have hz:t.coupons.zipIdx[j]?=some (y,j):=by
    rw [List.getElem?_zipIdx,hc]
    simp
   have hC:=sT _ _ (R2.cp ht hc)
   refine ⟨T,_,rfl,mZ.of fN,rfl,_,_,rfl,_,_,rfl,rfl,?_⟩
   have Qj:=sT _ _ (s2 _ _ (fN (H:=H) (a:=f) (o:=HO.tup (Gi (a,b,c)))))
   have Vr:=sT _ _ yu
   have R3:=R2.same sT
   have s3:=s2.trans sT
   generalize upd H2 T (.tup [.int (j:Nat),.ref (L.a (.cp i j))])=H3 at hC Qj Vr R3 s3 ⊢
   have skip:∀H5,gi H3 H5→AO (a,b,c) t (y,j)=[]→∃v7 v8:Option V,[some (V.ref (L.a .hs)),some (vN a),some (vN b),some (vN c),some (.ref f),some (.ref p),some (.ref (L.a (.tc i))),some (.int (j:Nat)),some (.ref (L.a (.cp i j)))]=[some (V.ref (L.a .hs)),some (vN a),some (vN b),some (vN c),some (.ref f),some (.ref p),some (.ref (L.a (.tc i))),v7,v8]∧gi (upd H f (.tup (Gi (a,b,c)))) H5∧H5 p=some (.lst (vI (iN (0::(((s.tickets.take i).flatMap fun t=>t.coupons.zipIdx.flatMap (AO (a,b,c) t))++(t.coupons.zipIdx.take (j+1)).flatMap (AO (a,b,c) t)))))):=λH5 s5 e=>by
    refine ⟨_,_,rfl,s3.trans s5,?_⟩
    rw [take_snoc hz,cj,cg,e,bW]
    exact s5 _ _ Vr
   refine (U rfl ⟨_,_,_,rfl,hC,(ve y).2.1,_,y,rfl,⟨_,_,rfl,hC⟩,λg hg=>?_⟩)
   have sg:=f9 (o:=HO.tup (Gi (Rj y))) hg
   refine (U rfl ⟨_,_,Gm (g:=Rj y) fN,Gm (sg _ _ Qj),oR _ _ _,oR _ _ _,_,rfl,?_⟩)
   rw [MO]
   cases h1:qO (a,b,c) y with
   |false=>
    refine f7 (f7 (skip _ sg ?_))
    unfold AO
    rw [h1]
    rfl
   |true=>
    refine gR (U rfl ⟨_,y,rfl,⟨_,_,rfl,sg _ _ hC⟩,λH5 s5=>⟨_,rfl,?_⟩⟩)
    have sg5:=sg.trans s5
    cases h2:(cE y||y.status==.flown) with
    |false=>
     refine f7 (skip _ sg5 ?_)
     unfold AO
     rw [h1,h2]
     rfl
    |true=>
     have e:AO (a,b,c) t (y,j)=[ao t.form,j,dR y.status]:=by
      unfold AO
      rw [h1,h2]
      rfl
     have R5:=R3.same sg5
     have Zk:=sg5 _ _ Vr
     have lz:(t.coupons.zipIdx.take j).length≤4:=by
      rw [bp,ej]
      omega
     have l1:=nD (f:=AO (a,b,c) t) (n:=3) (l:=t.coupons.zipIdx.take j) fun x _=>MW _ _ x
     have l2:=ol i
     have l3:(vI (iN (0::(((s.tickets.take i).flatMap fun t=>t.coupons.zipIdx.flatMap (AO (a,b,c) t))++(t.coupons.zipIdx.take j).flatMap (AO (a,b,c) t))))).length≤800:=by
      unfold iN
      rw [aa,aa,aw,ay]
      omega
     refine gR (U rfl ⟨.inl ⟨rfl,_,gE.of Zk⟩,_,rfl,_,_,_,_,rfl,R5.tc ht,rk L i t,_,rfl,_,rfl,_,_,_,_,rfl,R5.cp ht hc,iy y,by show 3≤sizeLine;decide,λg2 Vq=>?_⟩)
     have Zx:=f9 (o:=HO.lst [vN (ao t.form),.int (j:Nat),mJ y.status]) Vq
     refine ⟨p,g2,_,_,rfl,rfl,Zx _ _ Zk,fN,by show _+3≤sizeLine;omega,_,_,rfl,?_,?_⟩
     ·refine iG ((s3.trans sg5).trans Zx) ?_
      exact hp
     ·rw [fN,take_snoc hz,cj,cg,e,←cz]
      exact congrArg (λz=>some (HO.lst z)) (RZ (0::(_++_)) [ao t.form,j,dR y.status]).symm
  ·rintro σ H2 ⟨w7,w8,rfl,s2,yu⟩
   refine ⟨_,_,_,rfl,s2,?_⟩
   have e:t.coupons.zipIdx.take t.coupons.length=t.coupons.zipIdx:=eD (by rw [ej];exact ai _)
   rw [e] at yu
   rw [take_snoc ht,cj,cg]
   exact yu
 ·rintro σ H' ⟨v6,v7,v8,rfl,s1,pG⟩
  rw [gH,bg] at pG
  exact (U rfl (q.rd hs R (sf.trans s1) Zt pG))
abbrev prV (x:Nat×Nat):List V:=[vN x.1,vN x.2]
def vZ (H:Hp) (bs:List Addr) (ps:List (Nat×Nat)):Prop:=Paired (λb x=>H b=some (.tup (prV x))) bs ps
theorem vZ.imp {H H':Hp}{bs:List Addr}{ps:List (Nat×Nat)}(h:vZ H bs ps) (k:∀b o,b∈bs→H b=some o→H' b=some o):vZ H' bs ps:=mD h fun b x hb e=>k b _ hb e
theorem vZ.same {H H':Hp}{bs:List Addr}{ps:List (Nat×Nat)}(h:vZ H bs ps) (s:gi H H'):vZ H' bs ps:=h.imp fun b o _ e=>s b o e
theorem lcT {J:It}{ps:List (Nat×Nat)}{g:TG}{ta tb:TE}{vs:List Nat}{σ:L2.St}{H1:Hp}{D:Addr}{Qd:Hp→Prop}(hl:ps.length≤1000) (hD:H1 D=Option.none) (YT:∀i H,i<ps.length→gi H1 H→J.go i H) (zr:∀H,gi H1 H→J.stop ps.length H)
  (hs:∀i H x H' pr,ps[i]?=some pr→gi H1 H→J.A0 i H x H'→H'=H∧∃σ2,(∀C:L2.St→Hp→Prop,C σ2 H→g x (wipe σ vs) H C)∧wipe σ2 vs=wipe σ vs∧(∀Q:VK,Q (vN pr.1) H→ta σ2 H Q)∧∀Q:VK,Q (vN pr.2) H→tb σ2 H Q)
  (hd:∀H (bs:List Addr),gi H1 H→H D=some (.lst (bs.map V.ref))→vZ H bs ps→(∀b∈bs,H1 b=Option.none)→Qd H) :
  ∃W:Nat→Nat→Hp→Prop,(∃m,W 0 m (upd H1 D (.lst [])))∧∀i m H,W i m H→
   (J.stop i H∧Qd H)∨(J.go i H∧∃Nx:Hp→Prop,(∀H',Nx H'→∃m',m'<m∧W (i+1) m' H')∧∀x H',J.A0 i H x H'→g x (wipe σ vs) H' fun σ2 H2=>wipe σ2 vs=wipe σ vs∧mI σ2 H2 fun b H3=>
    if b=true then A5 (fT ta (fT tb gF)) σ2 H3 fun y H4=>∃acc,H4 D=some (.lst acc)∧acc.length<sizeLine∧Nx (upd H4 D (.lst (acc++[y]))) else Nx H3):=by
 have s4:1000<sizeLine:=by decide
 refine QZ (n:=ps.length) (λi H=>∃bs:List Addr,gi H1 H∧H D=some (.lst (bs.map V.ref))∧vZ H bs (ps.take i)∧∀b∈bs,H1 b=Option.none∧b≠D) ⟨[],f9 hD,fN,.nil,λb hb=>by cases hb⟩ (λi H hi ⟨_,h1,_⟩=>YT i H hi h1) (λH ⟨_,h1,_⟩=>zr H h1) (λi H x H' hi hp hy=>?_) (λH ⟨bs,h1,h2,h3,h4⟩=>?_)
 ·obtain ⟨bs,h1,h2,h3,h4⟩:=hp
  obtain ⟨pr,yL⟩:=gu hi
  obtain ⟨rfl,σ2,e1,e2,e3,e4⟩:=hs i H x H' pr yL h1 hy
  have lb:bs.length=i:=by
   have:=Paired.length h3
   rw [bp] at this
   omega
  refine e1 _ ⟨e2,Bp ?_⟩
  refine e3 _ (e4 _ ⟨by show 2≤sizeLine;decide,λt ht=>?_⟩)
  have st:=f9 (o:=HO.tup [vN pr.1,vN pr.2]) ht
  have nt:t≠D:=λe=>by
   rw [e,h2] at ht
   cases ht
  refine ⟨_,st _ _ h2,by rw [aa];omega,bs++[t],iG (h1.trans st) hD,?_,?_,?_⟩
  ·rw [fN,bP]
   rfl
  ·rw [take_snoc yL]
   refine Paired.snoc (h3.imp fun b o hb e=>?_) ?_
   ·rw [fZ (h4 b hb).2]
    exact st _ _ e
   ·rw [fZ nt]
    exact fN
  ·intro b hb
   rcases bE.mp hb with z|z
   ·exact h4 b z
   ·have:b=t:=by simpa using z
    subst this
    exact ⟨h1.free ht,nt⟩
 ·rw [bg] at h3
  exact hd H bs h1 h2 h3 fun b hb=>(h4 b hb).1
def pb (s:gA) (ps:List (Nat×Nat)):Int:=match bI s ps with
 |.error z=>z
 |.ok _=>0
theorem B1 (s:gA) (x:Nat×Nat) (r:List (Nat×Nat)):pb s (x::r)=match aF s x.1 x.2 with
  |.error z=>z
  |.ok y=>if y.2.status≠.open_ then -9 else pb s r:=by
 obtain ⟨m,n⟩:=x
 unfold pb
 conv=>lhs;unfold bI
 cases aF s m n with
 |error z=>rfl
 |ok y=>
  dsimp only
  by_cases h:y.2.status≠.open_
  ·rw [if_pos h,if_pos h]
  ·rw [if_neg h,if_neg h]
   cases bI s r<;>rfl
theorem qS {s:gA}:∀{ps:List (Nat×Nat)}{l:List (iF×gL)},bI s ps=.ok l→Paired (λx y=>aF s x.1 x.2=.ok y∧y.2.status=.open_) ps l
 |[],l,h=>by
  have:l=[]:=(Except.ok.inj h).symm
  subst this
  exact .nil
 |(m,n)::r,l,h=>by
  unfold bI at h
  cases e:aF s m n with
  |error z=>
   rw [e] at h
   cases h
  |ok y=>
   rw [e] at h
   dsimp only at h
   by_cases ho:y.2.status≠.open_
   ·rw [if_pos ho] at h
    cases h
   ·rw [if_neg ho] at h
    cases e2:bI s r with
    |error z=>
     rw [e2] at h
     cases h
    |ok l'=>
     rw [e2] at h
     have:=(Except.ok.inj h).symm
     subst this
     exact .cons ⟨e,by simpa using ho⟩ (qS e2)
theorem Sa {s:gA}{m n:Nat}{z:Int}(h:aF s m n=.error z):z≠0:=λq=>by
 subst q
 have e:pP s m n=0:=by
  unfold pP
  rw [h]
 obtain ⟨x,hx⟩:=tM e
 rw [hx] at h
 cases h
theorem B2:∀{ps:List (Nat×Nat)}{s:gA},pb s ps=0→∃l,bI s ps=.ok l
 |[],s,_=>⟨[],rfl⟩
 |x::r,s,h=>by
  rw [B1] at h
  cases e:aF s x.1 x.2 with
  |error z=>
   rw [e] at h
   exact absurd h (Sa e)
  |ok y=>
   rw [e] at h
   dsimp only at h
   by_cases ho:y.2.status≠.open_
   ·rw [if_pos ho] at h
    cases h
   ·rw [if_neg ho] at h
    obtain ⟨l,hl⟩:=B2 h
    obtain ⟨m,n⟩:=x
    refine ⟨y::l,?_⟩
    unfold bI
    dsimp only at e
    rw [e]
    dsimp only
    rw [if_neg ho,hl]
theorem GA {s:gA}{ps:List (Nat×Nat)}(h:¬pb s ps=0):bI s ps=.error (pb s ps):=by
 unfold pb at h ⊢
 cases e:bI s ps with
 |ok l=>
  rw [e] at h
  exact absurd rfl h
 |error z=>rfl
def pH (s:gA) (ps:List (Nat×Nat)):List (Nat×Nat):=ps.map fun x=>((nH s x.1).getD 0,x.2)
def iS (s:gA) (m:Nat):Nat:=(((nH s m).bind fun i=>s.tickets[i]?).map (·.passenger)).getD 0
def AQ (s:gA) (ps:List (Nat×Nat)):Prop:=∀x∈ps,∃i t,nH s x.1=some i∧s.tickets[i]?=some t∧bo x.1=true
def iW (d:Ad):Sp:=λvs H Q _=>∃(L:Ly) (s:gA) (a:Addr) (bs:List Addr) (ps:List (Nat×Nat)),vs=[.ref (L.a .hs),.ref a]∧Rep d H L s∧H a=some (.lst (bs.map V.ref))∧vZ H bs ps∧Q (.int (pb s ps)) H
def iX (d:Ad):Sp:=λvs H Q _=>∃(L:Ly) (s:gA) (a:Addr) (bs:List Addr) (ps:List (Nat×Nat)) (l:List (iF×gL)),vs=[.ref (L.a .hs),.ref a]∧Rep d H L s∧H a=some (.lst (bs.map V.ref))∧vZ H bs ps∧ps.length≤8∧bI s ps=.ok l∧
 ∀H' p,gi H H'→H p=Option.none→H' p=some (.lst ((pH s ps).map (o5 L)))→Q (.ref p) H'
def lO (d:Ad):Sp:=λvs H Q _=>∃(L:Ly) (s:gA) (a:Addr) (bs:List Addr) (ps:List (Nat×Nat)),vs=[.ref (L.a .hs),.ref a]∧Rep d H L s∧H a=some (.lst (bs.map V.ref))∧vZ H bs ps∧ps.length≤8∧AQ s ps∧
 ∀H' p,gi H H'→H p=Option.none→H' p=some (.lst (vI (iN (ps.map fun x=>iS s x.1))))→Q (.ref p) H'
def lU:Sp:=λvs H Q _=>∃(a:Addr) (bs:List Addr) (ps:List (Nat×Nat)),vs=[.ref a]∧H a=some (.lst (bs.map V.ref))∧vZ H bs ps∧ps.length≤8∧∀H',gi H H'→Q (.bl (!Vbahah.distinctPairs ps)) H'
abbrev nQ (P w K mg base) (d:Ad):=Fd P w K mg base 5 "named_refusal" ["house","named"] (iW d)
theorem y8 (T:Txt P w K mg d) (iV:jW P w K mg base d) (G:FG K mg "named_refusal" (top 128)):nQ P w K mg base d:=by
 have S:gf ["house","named","number","n","refused"] ["house","named"] (fS (top 128)):=lu
 refine G.fd S (λ_ _ _ _ _ _=>MI fun _ _=>rfl) fun _ _ _ _ _ H vs Q E hr h=>⟨_,(fL (jz PassesOwn.never rfl (gC (pv 1)) (mK rfl (hX (gk (i:=2) S.nd rfl (by first|exact ak rfl|exact au rfl)) (hX (gk (i:=3) S.nd rfl (by first|exact ak rfl|exact au rfl)) kW))) (fL (gj (i:=4) S.nd rfl (by first|exact ak rfl|exact au rfl) (fU iV (hr.mono (by decide)) rfl (fY (pv 0) (fY (pv 2) (fY (pv 3) fM))))) (fL (gJ (gg kn (pv 4) (fR T.gx) (gm _)) (fO (fW (pv 4))) gd) (fO (gJ (gg kn (gw T.fQ T.gc (gP gv (gw T.fX T.gD (oq (oi hr) (gw T.fP T.gM (pv 0)) (pv 2) (λ_ _=>rfl))) (pv 3) (λ_ _=>rfl))) (fR T.lX) (gm _)) (fO (fW (fR T.ju))) gd))))) (fO (fW (fR T.gx)))),?_⟩
 obtain ⟨L,s,a,bs,ps,rfl,R,ha,hN,q⟩:=h
 have lb:bs.length=ps.length:=Paired.length hN
 refine (U rfl ⟨a,rfl,⟨_,gE.of ha⟩,jg (K:=K) (a:=a) (xs:=bs.map V.ref) (λi σ H'=>∃v2 v3 v4:Option V,σ=[some (.ref (L.a .hs)),some (.ref a),v2,v3,v4]∧H'=H∧pb s (ps.drop i)=pb s ps) ⟨none,none,none,rfl,rfl,rfl⟩ (λi σ H' _ ⟨_,_,_,_,e,_⟩=>by rw [e];exact gE.of ha) ?_ ?_⟩)
 ·rintro i x σ H' hx ⟨v2,v3,v4,rfl,rfl,hr⟩
  obtain ⟨b,hb,rfl⟩:=ji hx
  obtain ⟨pr,yL,hB⟩:=gK hN hb
  have hi:=iZ yL
  have hd:ps.drop i=pr::ps.drop (i+1):=by
   rw [bw hi]
   congr 1
   rw [aE hi] at yL
   exact Option.some.inj yL
  rw [hd,B1] at hr
  refine ⟨_,_,rfl,mZ.of hB,rfl,_,_,rfl,_,_,rfl,rfl,?_⟩
  refine (U rfl (U rfl (U rfl ⟨L,s,pr.1,pr.2,rfl,R,?_⟩)))
  refine (U rfl ⟨rfl,ac ?_⟩)
  rw [jY]
  by_cases h0:pP s pr.1 pr.2=0
  ·rw [decide_eq_true h0]
   refine f7 ?_
   obtain ⟨y,hy⟩:=tM h0
   obtain ⟨j,e1,e2,e3,Zy⟩:=iI hy
   rw [hy] at hr
   dsimp only at hr
   refine (U rfl ⟨_,_,_,_,rfl,R.hs,iC L s,U rfl ⟨_,_,rfl,pQ R Zy e1,_,_,_,_,rfl,R.tc e2,iB L j y.1,_,rfl,_,_,(pr.2:Int),_,rfl,rfl,gE.of (R.cl e2),kI (kM (iZ e3)),_,_,_,_,rfl,R.cp e2 e3,iy y.2,rfl,_,rfl,?_⟩⟩)
   change if (!decide (mJ y.2.status=mJ .open_))=true then _ else _
   rw [rB]
   by_cases h1:y.2.status=.open_
   ·rw [decide_eq_true h1]
    rw [if_neg fun z=>z h1] at hr
    exact f7 ⟨_,_,_,rfl,rfl,hr⟩
   ·rw [decide_eq_false h1]
    rw [if_pos h1] at hr
    rw [←hr] at q
    exact gR q
  ·rw [decide_eq_false h0]
   rw [uo h0] at hr
   have hr:pP s pr.1 pr.2=pb s ps:=hr
   rw [←hr] at q
   exact gR (U rfl q)
 ·rintro σ H' ⟨v2,v3,v4,rfl,rfl,hr⟩
  rw [aa,lb,dy] at hr
  rw [←hr] at q
  exact q
abbrev nR (P w K mg base) (d:Ad):=Fd P w K mg base 1 "named_coupons" ["house","named"] (iX d)
def y9 (K:ab) (d:Ad):TS:=(jZ (yt (jy K (fV 1)) (wR K 2 (jP (gr 2) (jP (gr 3) wQ))) mI (km (Mj K) (tF d.fX (NQ (tF d.fP (fV 0) "ticket_of") (fV 2)) "coupons") (fV 3)) [2,3]))
theorem za (T:Txt P w K mg d) (G:FG K mg "named_coupons" (top 129)):nR P w K mg base d:=by
 have S:gf ["house","named","number","n"] ["house","named"] (fS (top 129)):=lu
 refine G.fd S (λ_ _ _ _ _ _=>MI fun _ _=>rfl) fun _ _ _ _ _ H vs Q E hr h=>⟨y9 K d ,(fO (fW (ko rfl S.nd (gC (pv 1)) (gS (own:=[("number",2),("n",3)]) (by show kX ["house","named","number","n"] (fS (top 129)) _ _=true;decide +kernel)) (λ_ _ _ _ _=>(mK rfl (hX (gk (i:=2) S.nd rfl (by first|exact ak rfl|exact au rfl)) (hX (gk (i:=3) S.nd rfl (by first|exact ak rfl|exact au rfl)) kW)))) (λ_ _ _ _ _=>iJ) (λ_ _ _ _ _=>(gP gv (gw T.fX T.gD (oq (oi hr) (gw T.fP T.gM (pv 0)) (pv 2) (λ_ _=>rfl))) (pv 3) (λ_ _=>rfl)))))),?_⟩
 obtain ⟨L,s,a,bs,ps,l,rfl,R,ha,hN,l8,ho,q⟩:=h
 have lb:bs.length=ps.length:=Paired.length hN
 have s8:8≤sizeLine:=by decide
 refine (U rfl ⟨a,rfl,⟨_,gE.of ha⟩,λD hD=>lcP (ys:=(pH s ps).map (o5 L)) (gE.of ha) (by rw [aa];omega) (by unfold pH;rw [aa,aa,aa,lb]) (λu v=>rfl) (λi x y H2 Qy hx hy h2 kk=>?_) hD fun H' s' Hh=>q H' D s' hD Hh⟩)
 obtain ⟨b,hb,rfl⟩:=ji hx
 obtain ⟨pr,yL,hB⟩:=gK hN hb
 obtain ⟨z,_,hc,_⟩:=gK (qS ho) yL
 obtain ⟨j,e1,e2,e3,Zy⟩:=iI hc
 obtain ⟨w,hw,rfl⟩:=ji hy
 have ew:(j,pr.2)=w:=by
  unfold pH at hw
  rw [ah,yL] at hw
  have:=Option.some.inj hw
  rw [←this]
  dsimp only
  rw [e1]
  rfl
 subst ew
 have R2:=R.same h2
 exact ⟨b,_,_,rfl,mZ.of (h2 _ _ hB),_,rfl,_,_,_,_,rfl,R2.hs,iC L s,_,rfl,_,_,rfl,pQ R2 Zy e1,_,_,_,_,rfl,R2.tc e2,iB L j z.1,_,rfl,_,_,(pr.2:Int),_,rfl,rfl,gE.of (R2.cl e2),kI (kM (iZ e3)),kk _ (gi.refl _)⟩
abbrev rM (P w K mg base) (d:Ad):=Fd P w K mg base 1 "passengers" ["house","named"] (lO d)
def DS (K:ab) (d:Ad):TS:=(jZ (yt (jy K (fV 1)) (wR K 2 (jP (gr 2) (jP (gr 3) wQ))) mI (tF d.fX (NQ (tF d.fP (fV 0) "ticket_of") (fV 2)) "passenger") [2,3]))
theorem DT (T:Txt P w K mg d) (G:FG K mg "passengers" (top 130)):rM P w K mg base d:=by
 have S:gf ["house","named","number","n"] ["house","named"] (fS (top 130)):=lu
 refine G.fd S (λ_ _ _ _ _ _=>MI fun _ _=>rfl) fun _ _ _ _ _ H vs Q E hr h=>⟨DS K d ,(fO (fW (ko rfl S.nd (gC (pv 1)) (gS (own:=[("number",2),("n",3)]) (by show kX ["house","named","number","n"] (fS (top 130)) _ _=true;decide +kernel)) (λ_ _ _ _ _=>(mK rfl (hX (gk (i:=2) S.nd rfl (by first|exact ak rfl|exact au rfl)) (hX (gk (i:=3) S.nd rfl (by first|exact ak rfl|exact au rfl)) kW)))) (λ_ _ _ _ _=>iJ) (λ_ _ _ _ _=>(gw T.fX T.i9 (oq (oi hr) (gw T.fP T.gM (pv 0)) (pv 2) (λ_ _=>rfl))))))),?_⟩
 obtain ⟨L,s,a,bs,ps,rfl,R,ha,hN,l8,ht,q⟩:=h
 have lb:bs.length=ps.length:=Paired.length hN
 have s8:8≤sizeLine:=by decide
 refine (U rfl ⟨a,rfl,⟨_,gE.of ha⟩,λD hD=>lcP (ys:=vI (iN (ps.map fun x=>iS s x.1))) (gE.of ha) (by rw [aa];omega) (by unfold iN;rw [aa,aa,aa,aa,lb]) (λu v=>rfl) (λi x y H2 Qy hx hy h2 kk=>?_) hD fun H' s' Hh=>q H' D s' hD Hh⟩)
 obtain ⟨b,hb,rfl⟩:=ji hx
 obtain ⟨pr,yL,hB⟩:=gK hN hb
 obtain ⟨j,t,e1,e2,Zy⟩:=ht pr (ax yL)
 obtain ⟨z,hz,rfl⟩:=jU hy
 have ez:((t.passenger:Nat):Int)=z:=by
  unfold iN at hz
  rw [ah,ah,yL] at hz
  have:=Option.some.inj hz
  rw [←this]
  show _=((iS s pr.1:Nat):Int)
  unfold iS
  rw [e1]
  show _=((((s.tickets[j]?).map (·.passenger)).getD 0:Nat):Int)
  rw [e2]
  rfl
 subst ez
 have R2:=R.same h2
 exact ⟨b,_,_,rfl,mZ.of (h2 _ _ hB),_,rfl,_,_,_,_,rfl,R2.hs,iC L s,_,rfl,_,_,rfl,pQ R2 Zy e1,_,_,_,_,rfl,R2.tc e2,vc L j t,kk _ (gi.refl _)⟩
def Qk (x:Nat×Nat):List Int:=[(x.1:Int),(x.2:Int)]
theorem twice_len (ps:List (Nat×Nat)):decide (((ps.map Qk).foldl pE []).length=ps.length)=a9 ps:=by
 have h:=(tR pE (λl x=>by unfold pE;by_cases h:x∈l<;>simp [h]) (ps.map Qk) []).2
 rw [List.length_nil,Nat.zero_add,aa] at h
 have inj:∀a b,Qk a=Qk b→a=b:=λa b e=>by
  unfold Qk at e
  injection e with e1 e2
  injection e2 with e2 _
  obtain ⟨a1,a2⟩:=a
  obtain ⟨b1,b2⟩:=b
  dsimp only at e1 e2
  have z1:a1=b1:=by omega
  have z2:a2=b2:=by omega
  rw [z1,z2]
 by_cases q:ps.Nodup
 ·rw [(jd ps).mpr q]
  exact decide_eq_true (h.mpr ⟨kF inj q,λ_ _ z=>by cases z⟩)
 ·have e:a9 ps=false:=bH.mpr fun z=>q ((jd ps).mp z)
  rw [e]
  exact decide_eq_false fun z=>q (ur (h.mp z).1)
abbrev pf (P w K mg base) (d:Ad):=Fd P w K mg base 1 "is_any_twice" ["named"] lU
theorem Ae (T:Txt P w K mg d) (G:FG K mg "is_any_twice" (top 131)):pf P w K mg base d:=by
 have S:gf ["named"] ["named"] (fS (top 131)):=lu
 refine G.fd S (λ_ _ _ _ _ _=>Dl fun _=>rfl) fun _ _ _ _ _ H vs Q E hr h=>⟨_,(fO (fW (jO kn (gp Dv rfl T.jb aI (fY (yA (J8 rfl hr.units) rfl T.Gh boot_set (fY (pv 0) fM)) fM)) (gp gz rfl T.jb aI (fY (pv 0) fM)) (gm _)))),?_⟩
 obtain ⟨a,bs,ps,rfl,ha,hN,l8,q⟩:=h
 have lb:bs.length=ps.length:=Paired.length hN
 have hK:Paired (λb k=>H b=some (.tup (k.map V.int))) bs (ps.map Qk):=by
  have go:∀{bs:List Addr} {ps:List (Nat×Nat)},vZ H bs ps→Paired (λb k=>H b=some (.tup (k.map V.int))) bs (ps.map Qk):=λh=>by
   induction h with
   |nil=>exact .nil
   |cons z _ ih=>exact .cons z ih
  exact go hN
 have le:=(tR pE (λl x=>by unfold pE;by_cases h:x∈l<;>simp [h]) (ps.map Qk) []).1
 rw [aa] at le
 refine (U rfl ⟨a,bs,ps.map Qk,rfl,gE.of ha,hK,by rw [aa];exact l8,λp hp=>⟨p,_,rfl,fN,by simp at le;omega,?_⟩⟩)
 have sp:=f9 (o:=HO.ext (G6 p ((ps.map Qk).foldl pE []).length)) hp
 refine (U rfl ⟨a,_,rfl,.inl (gE.of (sp _ _ ha)),rfl,?_⟩)
 have e:(!decide (V.int ((((ps.map Qk).foldl pE []).length:Nat):Int)=V.int (((bs.map V.ref).length:Nat):Int)))=!Vbahah.distinctPairs ps:=by
  rw [KJ,aa,lb,←twice_len]
  congr 1
  by_cases z:((ps.map Qk).foldl pE []).length=ps.length
  ·rw [decide_eq_true z,decide_eq_true (by omega)]
  ·rw [decide_eq_false z,decide_eq_false (by omega)]
 have q:=q _ sp
 rw [←e] at q
 exact q
theorem Uz (l:List Int) (k:Int):(firstMet (λi=>l.getD i 0) l.length).any (·==k)=l.any (·==k):=by
 rw [firstMet_any,range_getD]
theorem KW (x:Int):∀r:List Int,(∀y∈r,y=x)→r.foldl step_dedup [x]=[x]
 |[],_=>rfl
 |y::r,h=>by
  have e:=h y az
  subst e
  rw [List.foldl_cons]
  have e2:step_dedup [y] y=[y]:=by
   unfold step_dedup
   simp
  rw [e2]
  exact KW y r fun z hz=>h z (ag _ hz)
theorem UA (x:Nat) (r:List Nat):decide ((1:Int)<((firstMet (λi=>(iN (x::r)).getD i 0) (iN (x::r)).length).length:Nat))=!((x::r).all (·==x)):=by
 cases ha:(x::r).all (·==x) with
 |true=>
  have jQ:=aL.mp ha
  have e:firstMet (λi=>(iN (x::r)).getD i 0) (iN (x::r)).length=[(x:Int)]:=by
   unfold firstMet
   rw [range_getD]
   show (iN r).foldl step_dedup (step_dedup [] (x:Int))=_
   refine KW (x:Int) (iN r) fun y hy=>?_
   obtain ⟨z,hz,rfl⟩:=bB.mp hy
   have:=jQ z (ag _ hz)
   have:z=x:=by simpa using this
   rw [this]
  rw [e]
  rfl
 |false=>
  obtain ⟨y,y1,y2⟩:=List.all_eq_false.mp ha
  have hm:=Uz (iN (x::r))
  generalize firstMet (λi=>(iN (x::r)).getD i 0) (iN (x::r)).length=m at hm
  have mem:∀k:Nat,k∈x::r→((k:Nat):Int)∈m:=λk hk=>by
   have:=hm (k:Int)
   rw [cZ.mpr ⟨(k:Int),(show (k:Int)∈iN (x::r) from fb (f:=λk:Nat=>(k:Int)) hk),by simp⟩] at this
   obtain ⟨z,z1,z2⟩:=cZ.mp this
   have:z=(k:Int):=by simpa using z2
   rw [←this]
   exact z1
  have h1:=mem x az
  have h2:=mem y y1
  have ne:¬(y:Int)=(x:Int):=λq=>y2 (by
   have:y=x:=by omega
   simp [this])
  show _=true
  refine decide_eq_true ?_
  match m,h1,h2 with
  |[],h1,_=>cases h1
  |[z],h1,h2=>
   have e1:(x:Int)=z:=by simpa using h1
   have e2:(y:Int)=z:=by simpa using h2
   exact absurd (e2.trans e1.symm) ne
  |z::w::q,_,_=>
   simp only [aw]
   omega
def uu (s:gA) (ps:List (Nat×Nat)):Bool:=match ps with
 |[]=>true
 |x::r=>(x::r).all fun y=>iS s y.1==iS s x.1
def xU (s:gA) (ps:List (Nat×Nat)) (cs:List gL) (last:Nat) (mk:Bool):Int:=
 if a9 ps=false∨uu s ps=false then -15 else if mP s last cs=false then -7 else if 64≤s.tickets.length then -6 else if mk=true∧64≤s.credits.length then -6 else if total s.stock≤s.tickets.length then -14 else 0
def jl (d:Ad):Sp:=λvs H Q _=>∃(L:Ly) (s:gA) (a pc:Addr) (bs:List Addr) (ps:List (Nat×Nat)) (ev:List V) (cs:List gL) (last:Nat) (mk:Bool),vs=[.ref (L.a .hs),.ref a,.ref pc,vN last,.bl mk]∧Rep d H L s∧gN s∧H a=some (.lst (bs.map V.ref))∧vZ H bs ps∧1≤ps.length∧ps.length≤8∧AQ s ps∧H pc=some (.lst ev)∧Hm d H ev cs∧cs.length≤4∧
 ∀H',gi H H'→Q (.int (xU s ps cs last mk)) H'
abbrev ph (P w K mg base) (d:Ad):=Fd P w K mg base 4 "exchange_refusal" ["house","named","new","last","makes_credit"] (jl d)
theorem uA (T:Txt P w K mg d) (mC:oM P w K mg base d) (pj:pf P w K mg base d) (lG:lF P w K mg base d) (rN:rM P w K mg base d) (G:FG K mg "exchange_refusal" (top 125)):ph P w K mg base d:=by
 have S:gf ["house","named","new","last","makes_credit"] ["house","named","new","last","makes_credit"] (fS (top 125)):=lu
 refine G.fd S (λ_ _ _ _ _ _=>WA fun _ _ _ _ _=>rfl) fun _ _ _ _ _ H vs Q E hr h=>⟨_,(fL (gJ (PW.pt (NF (jn (fU pj (hr.mono (by decide)) rfl (fY (pv 1) fM))) (GN (gg JH (gp uY rfl T.jb aI (fY (yA (FZ rfl) rfl T.Gh boot_set (fY (fU rN (hr.mono (by decide)) rfl (fY (pv 0) (fY (pv 1) fM))) fM)) fM)) gb (gm _))))) (fO (fW (fR T.jL))) gd) (fL (gJ (oT (jn (fU lG (hr.mono (by decide)) rfl (fY (pv 0) (fY (pv 2) (fY (pv 3) fM)))))) (fO (fW (fR T.jT))) gd) (fL (gJ (gg FK (gp gz rfl T.jb aI (fY (gw T.fP T.gW (pv 0)) fM)) (fR T.kQ) (gm _)) (fO (fW (fR T.jK))) gd) (fL (gJ (PW.pt (AX (jn (pv 4)) (Ax (gg FK (gp gz rfl T.jb aI (fY (gw T.fP T.gB (pv 0)) fM)) (fR T.mw) (gm _))))) (fO (fW (fR T.jK))) gd) (fL (gJ (gg iY (fU mC (hr.mono (by decide)) rfl (fY (pv 0) fM)) gb (gm _)) (fO (fW (fR T.kE))) gd) (fO (fW (fR T.gx)))))))),?_⟩
 obtain ⟨L,s,a,pc,bs,ps,ev,cs,last,mk,rfl,R,I,ha,hN,p1,p8,ht,MS,hc,c4,q⟩:=h
 unfold xU at q
 refine (U rfl ⟨a,bs,ps,rfl,ha,hN,p8,λH1 s1=>⟨_,rfl,?_⟩⟩)
 have rest:∀H2,gi H H2→¬(a9 ps=false∨uu s ps=false)→g6 (pC (OI (tB (iA (nB d) [] E0 (fT (fV 0) (fT (fV 2) (fT (fV 3) gF)))))) (jZ (tC (.int (-7)))) lD)
  (g6 (pC (kH (km Wg (vC (sY K) (fT (tF d.fP (fV 0) "tickets") gF)) (tC (.int 64)))) (jZ (tC (.int (-6)))) lD)
  (g6 (pC (VL (tB (fV 4)) (kH (km Wg (vC (sY K) (fT (tF d.fP (fV 0) "credit_table") gF)) (tC (.int 64))))) (jZ (tC (.int (-6)))) lD)
  (g6 (pC (kH (km Tj (iA (kG d) [] E0 (fT (fV 0) gF)) (tC (.int 0)))) (jZ (tC (.int (-14)))) lD)
  (jZ (tC (.int 0)))))) (ends Q) [some (.ref (L.a .hs)),some (.ref a),some (.ref pc),some (vN last),some (.bl mk)] H2:=λH2 s2 TX=>by
  rw [if_neg TX] at q
  refine (U rfl (U rfl (U rfl ⟨L,s,pc,ev,cs,last,rfl,R.same s2,s2 _ _ MS,hc.same s2,c4,λH3 s3=>⟨_,rfl,?_⟩⟩)))
  have LV:=s2.trans s3
  cases e1:mP s last cs with
  |false=>
   rw [e1] at q
   exact gR (q _ LV)
  |true=>
   rw [e1,if_neg (by decide)] at q
   refine f7 ?_
   have R3:=R.same LV
   refine (U rfl ⟨_,_,_,_,rfl,R3.hs,i7 L s,_,_,rfl,.inl (gE.of R3.tk),_,_,rfl,rfl,_,rfl,?_⟩)
   rw [gH]
   by_cases h3:64≤s.tickets.length
   ·rw [if_pos h3] at q
    rw [show decide ((64:Int)≤((s.tickets.length:Nat):Int))=true from decide_eq_true (by omega)]
    exact gR (q _ LV)
   rw [if_neg h3] at q
   rw [show decide ((64:Int)≤((s.tickets.length:Nat):Int))=false from decide_eq_false (by omega)]
   refine f7 ?_
   have last:∀(TX:¬(mk=true∧64≤s.credits.length)),g6 (pC (kH (km Tj (iA (kG d) [] E0 (fT (fV 0) gF)) (tC (.int 0)))) (jZ (tC (.int (-14)))) lD)
     (jZ (tC (.int 0))) (ends Q) [some (.ref (L.a .hs)),some (.ref a),some (.ref pc),some (vN last),some (.bl mk)] H3:=λTX=>by
    rw [if_neg TX] at q
    refine (U rfl ⟨L,s,rfl,R3,I,λH4 s4=>⟨rfl,ac ?_⟩⟩)
    change if decide (vN (total s.stock - s.tickets.length)=vN 0)=true then _ else _
    rw [kh]
    by_cases h4:total s.stock≤s.tickets.length
    ·rw [if_pos h4] at q
     rw [decide_eq_true (show total s.stock - s.tickets.length=0 by omega)]
     exact gR (q _ (LV.trans s4))
    ·rw [if_neg h4] at q
     rw [decide_eq_false (show ¬total s.stock - s.tickets.length=0 by omega)]
     exact f7 (q _ (LV.trans s4))
   refine ⟨_,rfl,_,rfl,?_⟩
   cases hmk:mk with
   |false=>
    rw [hmk] at last
    exact f7 (f7 (last (λz=>by cases z.1)))
   |true=>
    refine gR (U rfl ⟨_,_,_,_,rfl,R3.hs,ik L s,_,_,rfl,.inl (gE.of R3.ct),_,_,rfl,rfl,_,rfl,?_⟩)
    rw [gH]
    by_cases h5:64≤s.credits.length
    ·rw [if_pos ⟨hmk,h5⟩] at q
     rw [show decide ((64:Int)≤((s.credits.length:Nat):Int))=true from decide_eq_true (by omega)]
     exact gR (q _ LV)
    ·rw [show decide ((64:Int)≤((s.credits.length:Nat):Int))=false from decide_eq_false (by omega)]
     rw [hmk] at last
     exact f7 (last fun z=>h5 z.2)
 cases hd:a9 ps with
 |false=>
  rw [if_pos (.inl hd)] at q
  exact gR (gR (q _ s1))
 |true=>
  refine f7 ?_
  refine (U rfl (U rfl ⟨L,s,a,bs,ps,rfl,R.same s1,s1 _ _ ha,hN.same s1,p8,ht,λH2 pp s2 npp Tc=>?_⟩))
  obtain ⟨x,r,rfl⟩:∃x r,ps=x::r:=by
   cases ps with
   |nil=>simp at p1
   |cons x r=>exact ⟨x,r,rfl⟩
  have e0:(x::r).map (λx=>iS s x.1)=iS s x.1::r.map fun x=>iS s x.1:=rfl
  rw [e0] at Tc
  have le:=firstMet_length_le (λi=>(iN (iS s x.1::r.map fun x=>iS s x.1)).getD i 0) (iN (iS s x.1::r.map fun x=>iS s x.1)).length
  have ll:(iN (iS s x.1::r.map fun x=>iS s x.1)).length≤8:=by
   unfold iN
   simpa using p8
  refine ⟨pp,iN (iS s x.1::r.map fun x=>iS s x.1),rfl,gE.of Tc,by omega,λg hg=>⟨g,_,_,rfl,fN,by omega,_,_,rfl,rfl,_,rfl,?_⟩⟩
  rw [UA]
  have sg:gi H2 (upd H2 g (.set (λk=>(firstMet (λi=>(iN (iS s x.1::r.map fun x=>iS s x.1)).getD i 0) (iN (iS s x.1::r.map fun x=>iS s x.1)).length).any (·==k)) (firstMet (λi=>(iN (iS s x.1::r.map fun x=>iS s x.1)).getD i 0) (iN (iS s x.1::r.map fun x=>iS s x.1)).length).length)):=f9 hg
  have sH:=(s1.trans s2).trans sg
  have es:(iS s x.1::r.map fun x=>iS s x.1).all (·==iS s x.1)=uu s (x::r):=by
   rw [←e0,eE]
   rfl
  rw [es]
  cases hp:uu s (x::r) with
  |false=>
   rw [if_pos (.inr hp)] at q
   exact gR (q _ sH)
  |true=>exact f7 (rest _ sH fun z=>by
   rcases z with z|z
   ·rw [hd] at z
    cases z
   ·rw [hp] at z
    cases z)
def Ly.vH (L:Ly) (n:Nat) (a x:Addr):Ly where
 a:=λm=>match m with
  |.cr i=>if i=n then a else L.a (.cr i)
  |m=>L.a m
 x:=λm=>match m with
  |.cr i=>if i=n then x else L.x (.cr i)
  |m=>L.x m
def xV (s:gA) (c:pK):gA:={ s with credits:=s.credits++[c] }
section
variable {d:Ad}{H0 H:Hp}{L L0:Ly}{s s0:gA}{c:pK}{a x:Addr}
theorem Pu:refs (L.vH s.credits.length a x) (s.credits++[c]).length .cr=refs L s.credits.length .cr++[.ref a]:=by
 rw [ay,ba,qI,o9 (L':=L.vH s.credits.length a x) (L:=L) fun i hi=>by show (if i=s.credits.length then a else L.a (.cr i))=_;rw [if_neg (by omega)]]
 congr 2
 show V.ref (if s.credits.length=s.credits.length then a else _)=_
 rw [if_pos rfl]
theorem GB (R:Rep d H L s) (I:gN s) (hc:H a=some (.ins d.gq x (zB c))) (oa:Out d L s a):MR d H (upd H (L.a .ct) (.lst (refs L s.credits.length .cr++[.ref a]))) L (L.vH s.credits.length a x) s (xV s c) (λm=>m=.cr s.credits.length):=by
 have ne:a≠L.a .ct:=λq=>oa .ct _ rfl q.symm
 have RJ:(L.vH s.credits.length a x).a (.cr s.credits.length)=a:=if_pos rfl
 have new:obj d (L.vH s.credits.length a x) (xV s c) (.cr s.credits.length)=some (.ins d.gq x (zB c)):=by
  show (s.credits++[c])[s.credits.length]?.map (λc=>HO.ins d.gq (if s.credits.length=s.credits.length then x else _) (zB c))=_
  rw [bQ (ai _),dD,if_pos rfl]
  rfl
 have rest:∀m o,m≠.ct→m≠.cr s.credits.length→obj d (L.vH s.credits.length a x) (xV s c) m=some o→(L.vH s.credits.length a x).a m=L.a m∧obj d L s m=some o:=λm o h1 h2 e=>by
  cases m with
  |ct=>exact absurd rfl h1
  |cr i=>
   have hi:¬i=s.credits.length:=λq=>h2 (by rw [q])
   refine ⟨if_neg hi,?_⟩
   have e:(s.credits++[c])[i]?.map (λc=>HO.ins d.gq (if i=s.credits.length then x else L.x (.cr i)) (zB c))=some o:=e
   rw [if_neg hi] at e
   show s.credits[i]?.map _=some o
   rcases aX i s.credits.length with z|z
   ·rw [cH z] at e
    exact e
   ·rw [bc (by simp;omega)] at e
    cases e
  |dt i j=>
   refine ⟨rfl,?_⟩
   have e:s.tickets[i]?.bind (λt=>t.drawn[j]?.map fun p=>HO.tup [.ref (if p.1=s.credits.length then a else L.a (.cr p.1)),vN p.2])=some o:=e
   show s.tickets[i]?.bind (λt=>t.drawn[j]?.map fun p=>HO.tup [.ref (L.a (.cr p.1)),vN p.2])=some o
   cases q:s.tickets[i]? with
   |none=>
    rw [q] at e
    cases e
   |some t=>
    rw [q] at e
    have e:t.drawn[j]?.map (λp=>HO.tup [.ref (if p.1=s.credits.length then a else L.a (.cr p.1)),vN p.2])=some o:=e
    show t.drawn[j]?.map (λp=>HO.tup [.ref (L.a (.cr p.1)),vN p.2])=some o
    cases q2:t.drawn[j]? with
    |none=>
     rw [q2] at e
     cases e
    |some p=>
     rw [q2] at e
     have hp:=I.N5 t (ax q) p (ax q2)
     have e:some (HO.tup [.ref (if p.1=s.credits.length then a else L.a (.cr p.1)),vN p.2])=some o:=e
     rw [if_neg (by omega)] at e
     exact e
  |_=>exact ⟨rfl,e⟩
 refine ⟨λm o e hm=>?_,λm o e=>?_,λm o e hm=>?_,λm m' o o' _ _ hm Yb _=>hm.trans Yb.symm⟩
 ·by_cases h1:m=.ct
  ·subst h1
   exact ⟨rfl,_,rfl⟩
  ·obtain ⟨y,z⟩:=rest m o h1 hm e
   exact ⟨y,o,z⟩
 ·by_cases h1:m=.ct
  ·subst h1
   have e:some (HO.lst (refs (L.vH s.credits.length a x) (s.credits++[c]).length .cr))=some o:=e
   rw [Pu] at e
   show upd H (L.a .ct) _ (L.a .ct)=some o
   rw [fN]
   exact e
  ·by_cases h2:m=.cr s.credits.length
   ·subst h2
    rw [new] at e
    rw [RJ,fZ ne,←e]
    exact hc
   ·obtain ⟨y,z⟩:=rest m o h1 h2 e
    rw [y,fZ fun q=>h1 (R.inj m .ct o _ z rfl q)]
    exact R.at_ m o z
 ·subst hm
  rw [RJ]
  exact oa
theorem MY:∀n o,obj d L s n=some o→∃o',obj d (L.vH s.credits.length a x) (xV s c) n=some o'∧(L.vH s.credits.length a x).a n=L.a n:=λn o e=>by
 cases n with
 |cr i=>
  have e:s.credits[i]?.map _=some o:=e
  have hi:i<s.credits.length:=by
   rcases aX i s.credits.length with z|z
   ·exact z
   ·rw [bc z] at e
    cases e
  obtain ⟨y,hy⟩:=gu hi
  refine ⟨_,tw (s:=xV s c) (c:=y) ?_,if_neg (by omega)⟩
  show (s.credits++[c])[i]?=some y
  rw [cH hi]
  exact hy
 |dt i j=>
  have e:s.tickets[i]?.bind (λt=>t.drawn[j]?.map _)=some o:=e
  cases q:s.tickets[i]? with
  |none=>
   rw [q] at e
   cases e
  |some t=>
   rw [q] at e
   have e:t.drawn[j]?.map _=some o:=e
   cases q2:t.drawn[j]? with
   |none=>
    rw [q2] at e
    cases e
   |some p=>
    refine ⟨HO.tup [.ref ((L.vH s.credits.length a x).a (.cr p.1)),vN p.2],?_,rfl⟩
    show s.tickets[i]?.bind _=_
    rw [q]
    show t.drawn[j]?.map _=_
    rw [q2]
    rfl
 |hs=>exact ⟨_,rfl,rfl⟩
 |rg=>exact ⟨_,rfl,rfl⟩
 |tk=>exact ⟨_,rfl,rfl⟩
 |tf=>exact ⟨_,rfl,rfl⟩
 |ct=>exact ⟨_,rfl,rfl⟩
 |gn=>exact ⟨_,rfl,rfl⟩
 |rt i=>exact ⟨o,e,rfl⟩
 |tc i=>exact ⟨o,e,rfl⟩
 |cl i=>exact ⟨o,e,rfl⟩
 |dl i=>exact ⟨o,e,rfl⟩
 |cp i j=>exact ⟨o,e,rfl⟩
theorem Pw (R:Rep d H L s) (I:gN s) (hc:H a=some (.ins d.gq x (zB c))) (oa:Out d L s a) (k:gy d H0 L0 s0 H L s) (fr:H0 a=Option.none):gy d H0 L0 s0 (upd H (L.a .ct) (.lst (refs L s.credits.length .cr++[.ref a]))) (L.vH s.credits.length a x) (xV s c):=by
 refine (GB R I hc oa).keep k (λb o e ob _=>?_) fun m o e hm=>?_
 ·rw [fZ fun q=>ob .ct _ rfl q.symm]
  exact e
 ·subst hm
  show H0 (if s.credits.length=s.credits.length then a else _)=_
  rw [if_pos rfl]
  exact fr
end
def MZ (s:gA) (p mode rest:Nat):gA:=if mode=1 then { s with cashOut:=s.cashOut+rest } else if mode=2 then { s with kept:=s.kept+rest } else if rest=0 then s else xV s { passenger:=p,amount:=rest,last:=min (s.today+365) 36524 }
def B3 (s:gA) (mode rest ch:Nat):List Int:=if mode=1 then [(rest:Int),0,0,(ch:Int)] else if mode=2 then [0,0,0,((ch+rest:Nat):Int)] else if rest=0 then [0,0,0,(ch:Int)] else [0,((s.credits.length+1:Nat):Int),(rest:Int),(ch:Int)]
def kT (d:Ad):Sp:=λvs H Q _=>∃(L:Ly) (s:gA) (p mode rest ch:Nat),vs=[.ref (L.a .hs),vN p,vN mode,vN rest,vN ch]∧Rep d H L s∧gN s∧
 ∀H' L' g,L'.a .hs=L.a .hs→Rep d H' L' (MZ s p mode rest)→gy d H L s H' L' (MZ s p mode rest)→H g=Option.none→H' g=some (.lst (vI (B3 s mode rest ch)))→Out d L' (MZ s p mode rest) g→Q (.ref g) H'
abbrev vt (P w K mg base) (d:Ad):=Fd P w K mg base 3 "settle_rest" ["house","passenger","mode","rest","charged"] (kT d)
theorem B4 (T:Txt P w K mg d) (Sb:vm P w K mg base d) (G:FG K mg "settle_rest" (top 126)):vt P w K mg base d:=by
 have S:gf ["house","passenger","mode","rest","charged"] ["house","passenger","mode","rest","charged"] (fS (top 126)):=lu
 refine G.fd S (λ_ _ _ _ _ _=>WA fun _ _ _ _ _=>rfl) fun _ _ _ _ _ H vs Q E hr h=>⟨_,(fL (gJ (gg iY (pv 2) (fR T.uk) (gm _)) (fL (iT T.fP T.ig (pv 0) (g9 ip (gw T.fP T.ig (pv 0)) (pv 3))) (fO (fW (gG (fY (pv 3) (fY gb (fY gb (fY (pv 4) fM)))))))) gd) (fL (gJ (gg iY (pv 2) (fR T.um) (gm _)) (fL (iT T.fP T.iH (pv 0) (g9 ip (gw T.fP T.iH (pv 0)) (pv 3))) (fO (fW (gG (fY gb (fY gb (fY gb (fY (g9 ip (pv 4) (pv 3)) fM)))))))) gd) (fL (gJ (gg iY (pv 3) gb (gm _)) (fO (fW (gG (fY gb (fY gb (fY gb (fY (pv 4) fM))))))) gd) (fL (jo (oU aP bL bM l6 (gw T.fP T.gB (pv 0)) (fY (sX Sb (hr.mono (by decide)) rfl (fY (pv 1) (fY (pv 3) (fY (gp (yy rfl) rfl T.Gg boot_min (fY (g9 ip (gw T.fP T.iq (pv 0)) (fR T.mX)) (fY (fR T.mx) fM))) fM)))) fM))) (fO (fW (gG (fY gb (fY (gp gz rfl T.jb aI (fY (gw T.fP T.gB (pv 0)) fM)) (fY (pv 3) (fY (pv 4) fM))))))))))),?_⟩
 obtain ⟨L,s,p,mode,rest,ch,rfl,R,I,q⟩:=h
 unfold MZ B3 at q
 have s4:4≤sizeLine:=by decide
 have s64:64<sizeLine:=by decide
 have c64:=I.N6
 refine (U rfl ⟨rfl,ac ?_⟩)
 change if decide (vN mode=vN 1)=true then _ else _
 rw [kh]
 by_cases h1:mode=1
 ·rw [decide_eq_true h1]
  rw [if_pos h1,if_pos h1] at q
  refine gR (U rfl ⟨_,_,_,_,rfl,R.hs,oA L s,_,rfl,_,_,rfl,rfl,_,rfl,_,_,_,rfl,R.hs,(by show 9<1000;decide),?_⟩)
  have e:V.int ((s.cashOut:Int)+(rest:Int))=vN (s.cashOut+rest):=by
   unfold vN
   congr 1
  dsimp only
  rw [e,rm]
  have R1:=R.lK (a:=s.today) (b:=s.cashIn) (c:=s.cashOut+rest) (e:=s.kept)
  have k1:=gy.lK R (a:=s.today) (b:=s.cashIn) (c:=s.cashOut+rest) (e:=s.kept)
  refine (U rfl (U rfl ⟨s4,λg hg=>?_⟩))
  have sg:=f9 (o:=HO.lst (vI [(rest:Int),0,0,(ch:Int)])) hg
  refine q _ L g rfl (R1.same sg) (k1.trans (gy.same sg)) ?_ fN (R1.out hg)
  refine gy.free R R1 k1 (λn o e=>?_) hg
  cases n with
  |hs=>exact ⟨_,rfl,rfl⟩
  |_=>exact ⟨o,e,rfl⟩
 rw [decide_eq_false h1]
 rw [if_neg h1,if_neg h1] at q
 refine f7 ?_
 refine (U rfl ⟨rfl,ac ?_⟩)
 change if decide (vN mode=vN 2)=true then _ else _
 rw [kh]
 by_cases h2:mode=2
 ·rw [decide_eq_true h2]
  rw [if_pos h2,if_pos h2] at q
  refine gR (U rfl ⟨_,_,_,_,rfl,R.hs,tE L s,_,rfl,_,_,rfl,rfl,_,rfl,_,_,_,rfl,R.hs,(by show 9<1000;decide),?_⟩)
  have e:V.int ((s.kept:Int)+(rest:Int))=vN (s.kept+rest):=by
   unfold vN
   congr 1
  dsimp only
  rw [e,Bn]
  have R1:=R.lK (a:=s.today) (b:=s.cashIn) (c:=s.cashOut) (e:=s.kept+rest)
  have k1:=gy.lK R (a:=s.today) (b:=s.cashIn) (c:=s.cashOut) (e:=s.kept+rest)
  refine (U rfl (U rfl (ad ⟨s4,λg hg=>?_⟩)))
  have e2:(.lst [.int 0,.int 0,.int 0,.int ((ch:Int)+(rest:Int))]:HO)=.lst (vI [0,0,0,((ch+rest:Nat):Int)]):=by
   show HO.lst [.int 0,.int 0,.int 0,.int ((ch:Int)+(rest:Int))]=HO.lst [.int 0,.int 0,.int 0,.int ((ch+rest:Nat):Int)]
   congr 5
  have sg:=f9 (o:=HO.lst (vI [0,0,0,((ch+rest:Nat):Int)])) hg
  have fin:=q _ L g rfl (R1.same sg) (k1.trans (gy.same sg)) (gy.free R R1 k1 (λn o e=>by
   cases n with
   |hs=>exact ⟨_,rfl,rfl⟩
   |_=>exact ⟨o,e,rfl⟩) hg) fN (R1.out hg)
  rw [←e2] at fin
  exact fin
 rw [decide_eq_false h2]
 rw [if_neg h2,if_neg h2] at q
 refine f7 ?_
 refine (U rfl ⟨rfl,ac ?_⟩)
 change if decide (vN rest=vN 0)=true then _ else _
 rw [kh]
 by_cases h3:rest=0
 ·rw [decide_eq_true h3]
  rw [if_pos h3,if_pos h3] at q
  refine gR (U rfl ⟨s4,λg hg=>?_⟩)
  have sg:=f9 (o:=HO.lst (vI [0,0,0,(ch:Int)])) hg
  exact q _ L g rfl (R.same sg) (gy.same sg) hg fN (R.out hg)
 rw [decide_eq_false h3]
 rw [if_neg h3,if_neg h3] at q
 refine f7 ?_
 refine (U rfl ⟨_,_,_,_,rfl,R.hs,ik L s,.inl ⟨rfl,_,gE.of R.ct⟩,_,rfl,_,rfl,_,rfl,_,_,_,_,rfl,R.hs,lh L s,_,_,rfl,rfl,_,_,rfl,λz dz nz Ze nez=>?_⟩)
 refine ⟨z,dz,_,_,_,rfl,fN,rfl,?_⟩
 rw [ir]
 have em:V.int (if (36524:Int)<(s.today:Int)+365 then 36524 else (s.today:Int)+365)=vN (min (s.today+365) 36524):=by
  unfold vN
  congr 1
  split<;>omega
 have em2:((λi j=>V.int (if j<i then j else i)) ((s.today:Int)+365) 36524:V)=vN (min (s.today+365) 36524):=em
 dsimp only
 rw [em]
 have s1:gi H (upd (upd H dz (.own z)) z (.ins d.gq dz (zB { passenger:=p,amount:=rest,last:=min (s.today+365) 36524 }))):=iG (f9 Ze) nz
 have hz1:upd (upd H dz (.own z)) z (.ins d.gq dz (zB { passenger:=p,amount:=rest,last:=min (s.today+365) 36524 })) z=some (.ins d.gq dz (zB { passenger:=p,amount:=rest,last:=min (s.today+365) 36524 })):=fN
 change gF _ (upd (upd H dz (.own z)) z (.ins d.gq dz (zB { passenger:=p,amount:=rest,last:=min (s.today+365) 36524 }))) _
 generalize upd (upd H dz (.own z)) z (.ins d.gq dz (zB { passenger:=p,amount:=rest,last:=min (s.today+365) 36524 }))=H1 at s1 hz1 ⊢
 have R1:=R.same s1
 have oz:=R.out nz
 refine ⟨_,_,_,rfl,rfl,R1.ct,by rw [gH];omega,?_⟩
 have R2:=(GB R1 I hz1 oz).rep R1
 have k2:=Pw R1 I hz1 oz (gy.same (d:=d) (L:=L) (s:=s) s1) nz
 generalize upd H1 (L.a .ct) (.lst (refs L s.credits.length .cr++[.ref z]))=H2 at R2 k2 ⊢
 refine (U rfl ⟨_,_,_,_,rfl,R2.hs,ik _ _,_,_,rfl,.inl (gE.of R2.ct),_,rfl,_,rfl,s4,λg hg=>?_⟩)
 rw [gH]
 have el:(xV s { passenger:=p,amount:=rest,last:=min (s.today+365) 36524 }).credits.length=s.credits.length+1:=by
  show (s.credits++[_]).length=_
  rw [ay,ba]
 rw [el]
 have sg:=f9 (o:=HO.lst (vI [0,((s.credits.length+1:Nat):Int),(rest:Int),(ch:Int)])) hg
 exact q _ (L.vH s.credits.length z dz) g rfl (R2.same sg) (k2.trans (gy.same sg)) (gy.free R R2 k2 MY hg) fN (R2.out hg)
theorem v9 (s:gA) (i j:Nat) (f:gL→gL):(jF s i j f).tickets.map (·.form)=s.tickets.map (·.form):=by
 apply bR
 intro k
 rw [ah,ah,lP,cn]
 cases s.tickets[k]? with
 |none=>rfl
 |some t=>
  show some _=some _
  dsimp only [Function.comp]
  split<;>rfl
theorem rO {s s':gA}(h:s'.tickets.map (·.form)=s.tickets.map (·.form)) (m:Nat):nH s' m=nH s m:=by
 have e:∀s:gA,nH s m=(s.tickets.map (·.form)).findIdx? (·==m / 10):=λs=>by
  rw [List.findIdx?_map]
  rfl
 rw [e,e,h]
theorem Zz {s:gA}{m n i:Nat}{t:iF}{c:gL}(hr:bo m=true) (h1:nH s m=some i) (h2:s.tickets[i]?=some t) (h3:t.coupons[n]?=some c):aF s m n=.ok (t,c):=by
 unfold aF
 rw [mB hr,h1]
 show (match (match s.tickets[i]? with | none=>Except.error (-4) | some t=>Except.ok t) with | .error z=>_ | .ok t=>_)=_
 rw [h2]
 dsimp only
 rw [h3]
theorem UB {s:gA}{i j:Nat}{f:gL→gL}{m n:Nat}{y:iF×gL}(h:aF s m n=.ok y):∃y',aF (jF s i j f) m n=.ok y':=by
 obtain ⟨k,e1,e2,e3,hr⟩:=iI h
 have t1:nH (jF s i j f) m=some k:=by rw [rO (v9 s i j f)];exact e1
 have t2:(jF s i j f).tickets[k]?=some (if i=k then { y.1 with coupons:=y.1.coupons.modify j f } else y.1):=by
  rw [lP,e2]
  rfl
 obtain ⟨c,hc⟩:=gu (l:=(if i=k then { y.1 with coupons:=y.1.coupons.modify j f } else y.1).coupons) (i:=n) (by
  have:=iZ e3
  split
  ·dsimp only
   rw [bU]
   exact this
  ·exact this)
 exact ⟨_,Zz hr t1 t2 hc⟩
theorem wa {st:aJ}:∀(ps:List (Nat×Nat)) {s:gA},gN s→(∀x∈ps,∃y,aF s x.1 x.2=.ok y)→bK s st ps=jj s (pH s ps) fun c=>{ c with status:=st }
 |[],s,_,_=>rfl
 |(m,n)::r,s,I,h=>by
  obtain ⟨y,hy⟩:=h (m,n) az
  dsimp only at hy
  obtain ⟨i,e1,e2,e3,hr⟩:=iI hy
  conv=>lhs;unfold bK
  rw [hy]
  dsimp only
  have I':=I.Pe hy fun c=>{ c with status:=st }
  rw [tJ I (m:=m) e2] at I' ⊢
  rw [wa r I' fun x hx=>by
   obtain ⟨z,hz⟩:=h x (ag _ hx)
   exact UB hz]
  have ep:pH (jF s i n fun c=>{ c with status:=st }) r=pH s r:=by
   unfold pH
   apply cD
   intro x _
   rw [rO (v9 s i n _)]
  rw [ep]
  show _=jj s (((nH s m).getD 0,n)::pH s r) _
  rw [e1]
  rfl
theorem pos_at {s:gA}{ps:List (Nat×Nat)}{l:List (iF×gL)}(h:Paired (λx y=>aF s x.1 x.2=.ok y∧y.2.status=.open_) ps l):Dm s (pH s ps)=l.map (·.2):=by
 induction h with
 |nil=>rfl
 |cons z _ ih=>
  obtain ⟨i,e1,e2,e3,hr⟩:=iI z.1
  show Dm s (((nH s _).getD 0,_)::pH s _)=_
  rw [e1,BF (c:=_) (by unfold iP;show s.tickets[i]?.bind _=_;rw [e2];exact e3),ih]
  rfl
theorem KY {s:gA}{ps:List (Nat×Nat)}(h:∀x∈ps,∃y,aF s x.1 x.2=.ok y):∀x∈pH s ps,∃c,iP s x.1 x.2=some c:=λx hx=>by
 obtain ⟨y,hy,rfl⟩:=bB.mp hx
 obtain ⟨z,hz⟩:=h y hy
 obtain ⟨i,e1,e2,e3,hr⟩:=iI hz
 refine ⟨z.2,?_⟩
 dsimp only
 rw [e1]
 show s.tickets[i]?.bind _=_
 rw [e2]
 exact e3
theorem nodup_map_on {α β:Type}{f:α→β}:∀{l:List α},(∀a∈l,∀b∈l,f a=f b→a=b)→l.Nodup→(l.map f).Nodup
 |[],_,_=>cN
 |a::r,hf,h=>by
  obtain ⟨h1,h2⟩:=bF.mp h
  rw [aG,bF]
  refine ⟨λm=>?_,nodup_map_on (λx hx y hy=>hf x (ag _ hx) y (ag _ hy)) h2⟩
  obtain ⟨b,hb,e⟩:=bB.mp m
  rw [hf b (ag _ hb) a az e] at hb
  exact h1 hb
theorem GC {s:gA}{m i:Nat}{t:iF}(h:nH s m=some i) (ht:s.tickets[i]?=some t):t.form=m / 10:=by
 unfold nH at h
 have:=List.findIdx?_eq_some_iff_getElem.mp h
 obtain ⟨h1,h2,_⟩:=this
 rw [aE h1] at ht
 have e:=Option.some.inj ht
 rw [e] at h2
 simpa using h2
theorem Sd {s:gA}{ps:List (Nat×Nat)}(h:∀x∈ps,∃y,aF s x.1 x.2=.ok y) (hn:ps.Nodup):(pH s ps).Nodup:=by
 refine nodup_map_on (λa ha b hb e=>?_) hn
 obtain ⟨y,hy⟩:=h a ha
 obtain ⟨z,hz⟩:=h b hb
 obtain ⟨i,e1,e2,e3,hr⟩:=iI hy
 obtain ⟨j,f1,f2,f3,T3⟩:=iI hz
 rw [e1,f1] at e
 injection e with g1 g2
 have g1:i=j:=g1
 subst g1
 have ey:=GC e1 e2
 have ez:=GC f1 f2
 have et:y.1=z.1:=Option.some.inj (e2.symm.trans f2)
 have e10:a.1 / 10=b.1 / 10:=by rw [←ey,←ez,et]
 unfold bo at hr T3
 have r1:a.1 % 10=a.1 / 10 % 7:=by simpa using hr
 have r2:b.1 % 10=b.1 / 10 % 7:=by simpa using T3
 obtain ⟨a1,a2⟩:=a
 obtain ⟨b1,b2⟩:=b
 dsimp only at *
 have:a1=b1:=by omega
 rw [this,g2]
theorem Px (f:gL→gL) (ps:List (Nat×Nat)) (s:gA):(jj s ps f).tickets.length=s.tickets.length:=by
 have h:∀(ps:List (Nat×Nat)) (s:gA),(jj s ps f).tickets.length=s.tickets.length:=λps=>by
  induction ps with
  |nil=>intro s;rfl
  |cons p r ih=>
   intro s
   show (jj (jF s p.1 p.2 f) r f).tickets.length=_
   rw [ih]
   exact bU ..
 exact h ps s
theorem Se (f:gL→Bool):∀l:List gL,((l.filter f).map (·.value)).sum≤aD l
 |[]=>ai _
 |c::r=>by
  have ih:=Se f r
  unfold aD at ih ⊢
  rw [cc,aG,cM]
  unfold dG at ih ⊢
  split
  ·rw [aG,cM]
   omega
  ·omega
theorem wb (f:gL→Bool):∀l:List (iF×gL),(l.filter fun x=>f x.2).map (·.2)=(l.map (·.2)).filter f
 |[]=>rfl
 |x::r=>by
  rw [cc,aG,cc]
  split
  ·rw [aG,wb f r]
  ·exact wb f r
theorem B5 (m:Nat) (ns:List Nat):a9 (ns.map fun n=>(m,n))=dh ns:=by
 rw [dY,jd,oN]
 constructor
 ·exact ur
 ·exact kF fun a b e=>by injection e
def Py (d:Ad):Sp:=λvs H Q _=>∃(L:Ly) (s:gA) (m lI:Nat) (a:Addr) (ns:List Nat),vs=[.ref (L.a .hs),vN m,vN lI,.ref a]∧Rep d H L s∧gN s∧H a=some (.lst (vI (iN ns)))∧ns.length≤4∧DB d H L s (.refund m lI ns) Q
theorem ZC {ks:List Nat}{i:Nat}{v:V}(h:(vI (iN ks))[i]?=some v):∃k,ks[i]?=some k∧v=vN k:=by
 obtain ⟨z,hz,rfl⟩:=jU h
 unfold iN at hz
 rw [ah] at hz
 cases e:ks[i]? with
 |none=>
  rw [e] at hz
  cases hz
 |some k=>
  rw [e] at hz
  have hz:(k:Int)=z:=Option.some.inj hz
  subst hz
  exact ⟨k,rfl,rfl⟩
theorem Pz (s:gA) (m lI:Nat) (ns:List Nat):aq s (.refund m lI ns)=match bI s (ns.map fun n=>(m,n)) with
  |.error z=>(s,[z])
  |.ok l=>if a9 (ns.map fun n=>(m,n))=false then (s,[-15]) else
   ({ bK s .refunded (ns.map fun n=>(m,n)) with cashOut:=(bK s .refunded (ns.map fun n=>(m,n))).cashOut+(aD (l.map (·.2)) - min lI ((((l.map (·.2)).filter fun c=>!c.free).map (·.value)).sum)),kept:=(bK s .refunded (ns.map fun n=>(m,n))).kept+min lI ((((l.map (·.2)).filter fun c=>!c.free).map (·.value)).sum) },
    [0,((aD (l.map (·.2)) - min lI ((((l.map (·.2)).filter fun c=>!c.free).map (·.value)).sum):Nat):Int),((min lI ((((l.map (·.2)).filter fun c=>!c.free).map (·.value)).sum):Nat):Int)]):=by
 rw [B5]
 show (match bI s (ns.map fun n=>(m,n)) with | .error z=>_ | .ok l=>_)=_
 cases bI s (ns.map fun n=>(m,n)) with
 |error z=>rfl
 |ok l=>
  dsimp only
  rw [←wb (λc=>!c.free) l,fi]
  rfl
abbrev KZ (P w K mg base) (d:Ad):=Fd P w K mg base 6 "refund" ["house","number","penalty","places"] (Py d)
def PB (K:ab) (d:Ad) (lU iX iW ki hJ:Sp):TS:=(g6 (jw (yt (jy K (fV 3)) (gr 4) mI (A5 (fT (fV 1) (fT (fV 4) gF))) [4]) (gr 5)) (g6 (jw (iA iW [] E0 (fT (fV 0) (fT (fV 5) gF))) (gr 6)) (g6 (pC (kH (km Vc (fV 6) (tC (.int 0)))) (jZ (pD (fT (fV 6) gF))) lD) (g6 (pC (tB (iA lU [] E0 (fT (fV 5) gF))) (jZ (pD (fT (tC (.int (-15))) gF))) lD) (g6 (jw (iA iX [] E0 (fT (fV 0) (fT (fV 5) gF))) (gr 7)) (g6 (jw (vC YR (fT (fV 2) (fT (iA ki [] E0 (fT (yt (jy K (fV 7)) (gr 8) (OI (tB (tF d.fQ (fV 8) "free"))) (fV 8) [8]) gF)) gF))) (gr 9)) (g6 (jw (km zy (iA hJ [] E0 (fT (fV 7) gF)) (fV 9)) (gr 10)) (g6 (A3 (jy K (fV 7)) (gr 8) (sF d.fQ (fV 8) (tC (.int 6)) "status")) (g6 (sF d.fP (fV 0) (km ml (tF d.fP (fV 0) "kept") (fV 9)) "kept") (g6 (sF d.fP (fV 0) (km ml (tF d.fP (fV 0) "cash_out") (fV 10)) "cash_out") (jZ (pD (fT (tC (.int 0)) (fT (fV 10) (fT (fV 9) gF)))))))))))))))
theorem PD (T:Txt P w K mg d) (pj:pf P w K mg base d) (nS:nR P w K mg base d) (nT:nQ P w K mg base d) (jM:mf P w K mg base d) (ka:nq P w K mg base d) (G:FG K mg "refund" (top 127)):KZ P w K mg base d:=by
 have S:gf ["house","number","penalty","places","n","named","refused","coupons","coupon","kept","cash"] ["house","number","penalty","places"] (fS (top 127)):=lu
 refine G.fd S (λ_ _ _ _ _ _=>Vn fun _ _ _ _=>rfl) fun _ _ _ _ _ H vs Q E hr h=>⟨PB K d lU (iX d) (iW d) (ki d) (hJ d),(fL (oV rfl S.nd rfl rfl (qY rfl rfl rfl rfl) (gC (pv 3)) (gS (own:=[("n",4)]) (by show kX ["house","number","penalty","places","n","named","refused","coupons","coupon","kept","cash"] (fS (top 127)) _ _=true;decide +kernel)) (λ_ _ _ _ _=>(gk (i:=4) S.nd rfl (by first|exact ak rfl|exact au rfl))) (λ_ _ _ _ _=>iJ) (λ_ _ _ _ _=>(i6 (fY (pv 1) (fY (pv 4) fM))))) (fL (gj (i:=6) S.nd rfl (by first|exact ak rfl|exact au rfl) (fU nT (hr.mono (by decide)) rfl (fY (pv 0) (fY (pv 5) fM)))) (fL (gJ (gg kn (pv 6) (fR T.gx) (gm _)) (fO (fW (gG (fY (pv 6) fM)))) gd) (fL (gJ (jn (fU pj (hr.mono (by decide)) rfl (fY (pv 5) fM))) (fO (fW (gG (fY (fR T.jL) fM)))) gd) (fL (gj (i:=7) S.nd rfl (by first|exact ak rfl|exact au rfl) (fU nS (hr.mono (by decide)) rfl (fY (pv 0) (fY (pv 5) fM)))) (fL (gj (i:=9) S.nd rfl (by first|exact ak rfl|exact au rfl) (gp (yy rfl) rfl T.Gg boot_min (fY (pv 2) (fY (fU jM (hr.mono (by decide)) rfl (fY (ko rfl S.nd (gC (pv 7)) (gS (own:=[("coupon",8)]) (by show kX ["house","number","penalty","places","n","named","refused","coupons","coupon","kept","cash"] (fS (top 127)) _ _=true;decide +kernel)) (λ_ _ _ _ _=>(gk (i:=8) S.nd rfl (by first|exact ak rfl|exact au rfl))) (λ_ _ _ _ _=>(pJ (oT (jn (gw T.fQ T.jr (pv 8)))))) (λ_ _ _ _ _=>(pv 8))) fM)) fM)))) (fL (gj (i:=10) S.nd rfl (by first|exact ak rfl|exact au rfl) (g9 mL (fU ka (hr.mono (by decide)) rfl (fY (pv 7) fM)) (pv 9))) (fL (jz PassesOwn.never rfl (gC (pv 7)) (gk (i:=8) S.nd rfl (by first|exact ak rfl|exact au rfl)) (fO (iT T.fQ T.gc (pv 8) (fR T.o4)))) (fL (iT T.fP T.iH (pv 0) (g9 ip (gw T.fP T.iH (pv 0)) (pv 9))) (fL (iT T.fP T.ig (pv 0) (g9 ip (gw T.fP T.ig (pv 0)) (pv 10))) (fO (fW (gG (fY (fR T.gx) (fY (pv 10) (fY (pv 9) fM)))))))))))))))),?_⟩
 obtain ⟨L,s,m,lI,a,ns,rfl,R,I,ha,n4,q⟩:=h
 have hs:=Pz s m lI ns
 have hVl:(vI (iN ns)).length=ns.length:=by
  unfold iN
  rw [aa,aa]
 generalize ZD:ns.map (λn=>(m,n))=ps at hs
 have zN:ps.length=ns.length:=by rw [←ZD,aa]
 refine (U rfl ⟨a,rfl,⟨_,gE.of ha⟩,λD hD=>lcT (ps:=ps) (by omega) hD (λi H' hi s'=>?_) (λH' s'=>?_) (λi H' x Rr pr yL s' hy=>?_) fun H1 bs s1 HC hN fr=>?_⟩)
 ·obtain ⟨n,hn⟩:=gu (l:=ns) (i:=i) (by omega)
  exact ⟨_,_,gE.of (s' _ _ ha),vn (by unfold iN;rw [ah,hn];rfl)⟩
 ·exact ⟨_,gE.of (s' _ _ ha),by rw [hVl,zN];exact ai _⟩
 ·obtain ⟨e,hx⟩:=hy
  have hx:=hx _ (gE.of (s' _ _ ha))
  obtain ⟨n,hn,rfl⟩:=ZC hx
  have ep:(m,n)=pr:=by
   rw [←ZD,ah,hn] at yL
   exact Option.some.inj yL
  subst ep
  exact ⟨e,_,λC hC=>hC,oH _ _ _,λQ' hq=>(U rfl hq),λQ' hq=>(U rfl hq)⟩
 have R1:=R.same s1
 refine (U rfl (U rfl ⟨L,s,D,bs,ps,rfl,R1,HC,hN,?_⟩))
 refine (U rfl ⟨rfl,ac ?_⟩)
 rw [jY]
 by_cases h0:pb s ps=0
 ·rw [decide_eq_true h0]
  refine f7 ?_
  obtain ⟨l,hl⟩:=B2 h0
  rw [hl] at hs
  dsimp only at hs
  generalize hlc:(l.map (·.2):List gL)=lc at hs
  have jQ:=qS hl
  have iR:∀x∈ps,∃y,aF s x.1 x.2=.ok y:=λx hx=>by
   obtain ⟨i,hi⟩:=aR hx
   obtain ⟨y,_,hy,_⟩:=gK jQ hi
   exact ⟨y,hy⟩
  refine (U rfl ⟨D,bs,ps,rfl,HC,hN,by omega,λH2 s2=>⟨_,rfl,?_⟩⟩)
  cases ZE:a9 ps with
  |false=>
   rw [ZE] at hs
   exact gR ⟨by show 1≤sizeLine;decide,λp hp=>q.ref hs R (s1.trans s2) hp⟩
  |true=>
   rw [ZE,if_neg (by decide)] at hs
   refine f7 ?_
   have Hq:=s1.trans s2
   refine (U rfl (U rfl ⟨L,s,D,bs,ps,l,rfl,R.same Hq,s2 _ _ HC,hN.same s2,by omega,hl,λH3 pc s3 W3 MS=>?_⟩))
   have ZF:=Hq.trans s3
   have R3:=R.same ZF
   have ZG:=KY iR
   have cps:=tN R3 ZG
   rw [(pos_at jQ).trans hlc] at cps
   have ll:lc.length≤4:=by
    rw [←hlc,aa,←Paired.length jQ]
    omega
   refine (U rfl (U rfl ⟨pc,rfl,⟨_,gE.of MS⟩,λD2 LU=>qR (f:=λc=>!c.free) MS cps (by omega) (by show 8<11;decide) (λx c H4 Qb hx h4 kk=>?_) LU fun H4 ev s4 Zu c4=>?_⟩))
   ·obtain ⟨b,dx,rfl,hb⟩:=hx
    exact (U rfl ⟨b,dx,_,_,rfl,hb,Hc c,_,rfl,kk _ (gi.refl _)⟩)
   refine ⟨D2,_,_,rfl,Zu,c4,bh (da _ _) (by omega),λH5 s5=>⟨_,_,rfl,?_⟩⟩
   have s35:=s4.trans s5
   have em:V.int (if ((((lc.filter fun c=>!c.free).map (·.value)).sum:Nat):Int)<(lI:Int) then ((((lc.filter fun c=>!c.free).map (·.value)).sum:Nat):Int) else (lI:Int))=vN (min lI (((lc.filter fun c=>!c.free).map (·.value)).sum)):=by
    unfold vN
    congr 1
    split<;>omega
   rw [em]
   have hle:=Se (λc=>!c.free) lc
   generalize hk:min lI (((lc.filter fun c=>!c.free).map (·.value)).sum)=kp at hs
   have kle:kp≤aD lc:=by omega
   refine (U rfl ⟨pc,_,_,rfl,s35 _ _ MS,cps.same s35,by omega,λH6 s6=>(U rfl (ad ?_))⟩)
   have ec:V.int (((lc.map dG).sum:Nat) - (kp:Int))=vN (aD lc - kp):=by
    unfold vN
    congr 1
    unfold aD at kle ⊢
    omega
   dsimp only
   rw [ec]
   have Td:=s35.trans s6
   have R6:=R3.same Td
   have aaH:=Td _ _ MS
   generalize Zq:aD lc - kp=cash at hs
   refine uq (f:=λc=>{ c with status:=.refunded }) rfl (by show 8<11;decide) R6 aaH ((R.same Hq).out W3) ZG (Sd iR ((jd ps).mp ZE)) (λx y s9 H9 N hx R9 hc WY kk=>?_) fun σ' H7 hv R7 k7=>?_
   ·obtain ⟨t,g1,g2⟩:=jx hc
    exact (U rfl ⟨_,_,_,rfl,R9.cp g1 g2,mN y,kk _ rfl⟩)
   obtain ⟨v,rfl⟩:=hv
   have esa:=wa (st:=.refunded) ps I iR
   rw [←esa] at R7 k7
   have k07:=(gy.same (d:=d) (L:=L) (s:=s) (ZF.trans Td)).trans k7
   generalize bK s .refunded ps=s7 at hs R7 k07
   refine (U rfl ⟨_,_,_,_,rfl,R7.hs,tE L s7,_,rfl,_,_,rfl,rfl,_,rfl,_,_,_,rfl,R7.hs,(by show 9<1000;decide),?_⟩)
   have e8:V.int ((s7.kept:Int)+(kp:Int))=vN (s7.kept+kp):=by
    unfold vN
    congr 1
   dsimp only
   rw [e8,Bn]
   have R8:=R7.lK (a:=s7.today) (b:=s7.cashIn) (c:=s7.cashOut) (e:=s7.kept+kp)
   have k8:=k07.trans (gy.lK R7 (a:=s7.today) (b:=s7.cashIn) (c:=s7.cashOut) (e:=s7.kept+kp))
   generalize hH8:upd H7 (L.a .hs) (.ins d.fP (L.x .hs) (wO L { s7 with kept:=s7.kept+kp }))=H8
   have R8:Rep d H8 L { s7 with kept:=s7.kept+kp }:=by rw [←hH8];exact R8
   have k8:gy d H L s H8 L { s7 with kept:=s7.kept+kp }:=by rw [←hH8];exact k8
   refine (U rfl ⟨_,_,_,_,rfl,R8.hs,oA L _,_,rfl,_,_,rfl,rfl,_,rfl,_,_,_,rfl,R8.hs,(by show 9<1000;decide),?_⟩)
   have e9:V.int ((s7.cashOut:Int)+(cash:Int))=vN (s7.cashOut+cash):=by
    unfold vN
    congr 1
   dsimp only
   rw [e9,rm]
   have R9:=R8.lK (a:=s7.today) (b:=s7.cashIn) (c:=s7.cashOut+cash) (e:=s7.kept+kp)
   have k9:=k8.trans (gy.lK R8 (a:=s7.today) (b:=s7.cashIn) (c:=s7.cashOut+cash) (e:=s7.kept+kp))
   exact (U rfl (U rfl ⟨by show 3≤sizeLine;decide,λp hp=>q.done hs R9 k9 hp⟩))
 ·rw [decide_eq_false h0]
  refine gR (U rfl ⟨by show 1≤sizeLine;decide,λp hp=>?_⟩)
  refine q.ref (hs.trans ?_) R s1 hp
  rw [GA h0]
theorem B6:∀(n:Nat) (l:List Int) (ps:List (Nat×Nat)),l.length≤n→Vbahah.pairsOf l=some ps→l.length=2 * ps.length∧∀(i:Nat) (x:Nat×Nat),ps[i]?=some x→l[2 * i]?=some (x.1:Int)∧l[2 * i+1]?=some (x.2:Int)
 |n,[],ps,_,h=>by
  have e:ps=[]:=(Option.some.inj h).symm
  subst e
  exact ⟨rfl,λi c hc=>by cases hc⟩
 |0,a::r,ps,hn,h=>by simp at hn
 |n+1,[a],ps,_,h=>by cases h
 |n+1,a::b::r,ps,hn,h=>by
  unfold Vbahah.pairsOf at h
  simp only [Option.bind_eq_bind,Option.bind_eq_some_iff] at h
  obtain ⟨a',ha,b',hb,ps',ZD,e⟩:=h
  have e:=Option.some.inj e
  subst e
  obtain ⟨i1,i2⟩:=B6 n r ps' (by simp only [aw] at hn;omega) ZD
  refine ⟨by simp only [aw,i1];omega,λi x hx=>?_⟩
  cases i with
  |zero=>
   have hx:=Option.some.inj hx
   subst hx
   exact ⟨congrArg some (jN ha),congrArg some (jN hb)⟩
  |succ i=>
   have X:=i2 i x hx
   have sh:∀k,(a::b::r)[2 * (i+1)+k]?=r[2 * i+k]?:=λk=>by
    rw [show 2 * (i+1)+k=2 * i+k+1+1 by omega]
    rfl
   exact ⟨(sh 0).trans X.1,(sh 1).trans X.2⟩
theorem PF {l:List Int}(h:ie 1 l=true):∃n,n=(mkPairs l).length∧l.length=2 * n∧1≤n∧n≤8∧∀(i:Nat) (x:Nat×Nat),(mkPairs l)[i]?=some x→l[2 * i]?=some (x.1:Int)∧l[2 * i+1]?=some (x.2:Int):=by
 have e:=u9 l
 rw [if_pos h] at e
 unfold Vbahah.oldCoupons at e
 split at e
 ·cases e
 ·rename_i hl
  obtain ⟨h1,h2⟩:=B6 l.length l _ (ai _) e
  exact ⟨_,rfl,h1,by omega,by omega,h2⟩
theorem rg2 {n:Nat}(h:n≤8):RgC 0 ((2 * n:Nat):Int) 2 n:=by
 match n,h with
 |0,_=>exact ⟨by decide,by decide,by decide,by decide⟩
 |1,_=>exact ⟨by decide,by decide,by decide,by decide⟩
 |2,_=>exact ⟨by decide,by decide,by decide,by decide⟩
 |3,_=>exact ⟨by decide,by decide,by decide,by decide⟩
 |4,_=>exact ⟨by decide,by decide,by decide,by decide⟩
 |5,_=>exact ⟨by decide,by decide,by decide,by decide⟩
 |6,_=>exact ⟨by decide,by decide,by decide,by decide⟩
 |7,_=>exact ⟨by decide,by decide,by decide,by decide⟩
 |8,_=>exact ⟨by decide,by decide,by decide,by decide⟩
theorem M0 {s:gA}{m n:Nat}{y:iF×gL}(h:aF s m n=.ok y):iS s m=y.1.passenger:=by
 obtain ⟨i,e1,e2,e3,hr⟩:=iI h
 unfold iS
 rw [e1]
 show ((s.tickets[i]?).map _).getD 0=_
 rw [e2]
 rfl
theorem Sg {s:gA}{ps:List (Nat×Nat)}{l:List (iF×gL)}(h:Paired (λx y=>aF s x.1 x.2=.ok y∧y.2.status=.open_) ps l):uu s ps=l.all fun y=>y.1.passenger==(l.head?.map fun x=>x.1.passenger).getD 0:=by
 have go:∀{ps:List (Nat×Nat)} {l:List (iF×gL)} (v:Nat),Paired (λx y=>aF s x.1 x.2=.ok y∧y.2.status=.open_) ps l→(ps.all fun y=>iS s y.1==v)=l.all fun y=>y.1.passenger==v:=λv h=>by
  induction h with
  |nil=>rfl
  |cons z _ ih=>rw [cb,cb,ih,M0 z.1]
 cases h with
 |nil=>rfl
 |cons z r=>
  rename_i a b l1 l2
  show (List.all (a::l1) fun y=>iS s y.1==iS s a.1)=_
  rw [go _ (.cons z r),M0 z.1]
  rfl
structure Ex where
 p:Nat
 w:Nat
 pn:Nat
 more:Nat
 rest:Nat
def oO (lI:Nat) (l:List (iF×gL)) (cs:List gL):Ex:=
 { p:=(l.head?.map fun x=>x.1.passenger).getD 0,w:=aD (l.map fun x=>x.2),pn:=if (l.all fun x=>x.2.free)=true then 0 else lI,more:=aD cs+(if (l.all fun x=>x.2.free)=true then 0 else lI) - aD (l.map fun x=>x.2),rest:=aD (l.map fun x=>x.2) - (aD cs+if (l.all fun x=>x.2.free)=true then 0 else lI) }
def exS (s1:gA) (e:Ex) (mode last f:Nat) (cs:List gL):gA:=MZ { j9 s1 (oj s1 f e.p last e.more [] true cs) with cashIn:=s1.cashIn+e.more,kept:=s1.kept+e.pn } e.p mode e.rest
theorem ZH (s:gA) (lI mode last:Nat) (ps:List (Nat×Nat)) (cs:List gL) (hm:mode≤2):aq s (.exchange lI mode last ps cs)=match bI s ps with
  |.error z=>(s,[z])
  |.ok l=>if xU s ps cs last (decide (mode=0)&&decide (0<(oO lI l cs).rest))≠0 then (s,[xU s ps cs last (decide (mode=0)&&decide (0<(oO lI l cs).rest))]) else match du s.stock s.tickets.length with
   |none=>(s,[-14])
   |some f=>(exS (bK s .exchanged ps) (oO lI l cs) mode last f cs,[0,((ao f:Nat):Int),(((oO lI l cs).more:Nat):Int)]++B3 s mode (oO lI l cs).rest (oO lI l cs).pn):=by
 show (match bI s ps with | .error z=>_ | .ok l=>_)=_
 cases ho:bI s ps with
 |error z=>rfl
 |ok l=>
  have Qe:=Sg (qS ho)
  dsimp only
  unfold xU
  rw [Qe]
  by_cases h1:a9 ps=false∨(l.all fun y=>y.1.passenger==(l.head?.map fun x=>x.1.passenger).getD 0)=false
  ·rw [if_pos h1,if_pos h1]
   rfl
  rw [if_neg h1,if_neg h1]
  by_cases h2:mP s last cs=false
  ·rw [if_pos h2,if_pos ((rJ s last cs).mp h2)]
   rfl
  rw [if_neg h2,if_neg fun z=>h2 ((rJ s last cs).mpr z)]
  by_cases h3:64≤s.tickets.length
  ·rw [if_pos h3,if_pos (show Vbahah.TICKETS≤s.tickets.length from h3)]
   rfl
  rw [if_neg h3,if_neg (show ¬Vbahah.TICKETS≤s.tickets.length from h3)]
  have er:aD (l.map fun x=>x.2) - (aD cs+(oO lI l cs).pn)=(oO lI l cs).rest:=rfl
  have em:aD cs+(oO lI l cs).pn - aD (l.map fun x=>x.2)=(oO lI l cs).more:=rfl
  have en:(if (l.all fun x=>x.2.free)=true then 0 else lI)=(oO lI l cs).pn:=rfl
  have ep:(l.head?.map fun x=>x.1.passenger).getD 0=(oO lI l cs).p:=rfl
  simp only [en,ep]
  simp only [er,em]
  generalize oO lI l cs=X
  by_cases h4:mode=0∧0<X.rest∧64≤s.credits.length
  ·rw [if_pos (show mode=0∧0<X.rest∧Vbahah.CREDITS≤s.credits.length from h4),if_pos (show (decide (mode=0)&&decide (0<X.rest))=true∧64≤s.credits.length from ⟨by rw [decide_eq_true h4.1,decide_eq_true h4.2.1];rfl,h4.2.2⟩)]
   rfl
  rw [if_neg (show ¬(mode=0∧0<X.rest∧Vbahah.CREDITS≤s.credits.length) from h4),if_neg (show ¬((decide (mode=0)&&decide (0<X.rest))=true∧64≤s.credits.length) from fun z=>h4 (by
   have z1:=z.1
   rw [aj] at z1
   exact ⟨of_decide_eq_true z1.1,of_decide_eq_true z1.2,z.2⟩))]
  by_cases h5:total s.stock≤s.tickets.length
  ·rw [if_pos h5,m6.mpr h5]
   rfl
  rw [if_neg h5]
  obtain ⟨f,hf⟩:=q5 (st:=s.stock) (k:=s.tickets.length) (by omega)
  rw [hf]
  dsimp only
  rw [if_neg (show ¬((0:Int)≠0) from fun z=>z rfl)]
  obtain ⟨b1,b2,b3,b4,b5,b6,b7,b8⟩:=oy (st:=.exchanged) ps s
  unfold exS MZ B3 Vbahah.addTicket j9 oj xV eB Vbahah.ints
  generalize bK s .exchanged ps=s1 at *
  obtain ⟨xp,xw,xn,xm,xr⟩:=X
  dsimp only at *
  match mode,hm with
  |0,_=>
   by_cases hr:xr=0
   ·subst hr
    simp
   ·have h0:0<xr:=by omega
    simp [h0,hr,b3,b5,Vbahah.LASTDAY]
  |1,_=>simp
  |2,_=>simp [Nat.add_assoc]
def K0 (d:Ad):Sp:=λvs H Q _=>∃(L:Ly) (s:gA) (lI mode last:Nat) (a b:Addr) (l1 l2:List Int),vs=[.ref (L.a .hs),vN lI,vN mode,vN last,.ref a,.ref b]∧Rep d H L s∧gN s∧mode≤2∧H a=some (.lst (vI l1))∧ie 1 l1=true∧H b=some (.lst (vI l2))∧ie 0 l2=true∧DB d H L s (.exchange lI mode last (mkPairs l1) (ia l2)) Q
theorem PH {s s':gA}(h:s'.tickets.map (·.form)=s.tickets.map (·.form)) (hp:∀i:Nat,s'.tickets[i]?.map (·.passenger)=s.tickets[i]?.map (·.passenger)) (m:Nat):iS s' m=iS s m:=by
 unfold iS
 rw [rO h]
 cases nH s m with
 |none=>rfl
 |some i=>
  show ((s'.tickets[i]?).map _).getD 0=((s.tickets[i]?).map _).getD 0
  rw [hp i]
theorem zH (f:gL→gL):∀(ps:List (Nat×Nat)) (s:gA),(jj s ps f).tickets.map (·.form)=s.tickets.map (·.form)
 |[],s=>rfl
 |p::r,s=>(zH f r (jF s p.1 p.2 f)).trans (v9 s p.1 p.2 f)
theorem PJ (f:gL→gL) (ps:List (Nat×Nat)) (s:gA) (i:Nat):(jj s ps f).tickets[i]?.map (·.passenger)=s.tickets[i]?.map (·.passenger):=by
 have h:=(me f ps s).tk i
 have h2:=congrArg (Option.map fun t:iF=>t.passenger) h
 rw [cn,cn] at h2
 exact h2
def HE (s:gA) (n:Nat):gA:={ s with cashIn:=n }
theorem Rep.cin {d:Ad}{H:Hp}{L:Ly}{s:gA}(R:Rep d H L s) (n:Nat):Rep d (upd H (L.a .hs) (.ins d.fP (L.x .hs) (gh "cash_in" (vN n) (wO L s)))) L (HE s n):=R.lK (a:=s.today) (b:=n) (c:=s.cashOut) (e:=s.kept)
theorem gy.cin {d:Ad}{H:Hp}{L:Ly}{s:gA}(R:Rep d H L s) (n:Nat):gy d H L s (upd H (L.a .hs) (.ins d.fP (L.x .hs) (gh "cash_in" (vN n) (wO L s)))) L (HE s n):=gy.lK R (a:=s.today) (b:=n) (c:=s.cashOut) (e:=s.kept)
theorem Rep.kep {d:Ad}{H:Hp}{L:Ly}{s:gA}(R:Rep d H L s) (n:Nat):Rep d (upd H (L.a .hs) (.ins d.fP (L.x .hs) (gh "kept" (vN n) (wO L s)))) L (tQ s n):=R.lK (a:=s.today) (b:=s.cashIn) (c:=s.cashOut) (e:=n)
theorem gy.kep {d:Ad}{H:Hp}{L:Ly}{s:gA}(R:Rep d H L s) (n:Nat):gy d H L s (upd H (L.a .hs) (.ins d.fP (L.x .hs) (gh "kept" (vN n) (wO L s)))) L (tQ s n):=gy.lK R (a:=s.today) (b:=s.cashIn) (c:=s.cashOut) (e:=n)
theorem UC {k:Nat}{σ:L2.St}{H:Hp}{C:VK}{mode rest:Nat}(hk:σ[k]?=some (some (vN rest))) (h:C (.bl (decide (mode=0)&&decide (0<rest))) H):if decide (V.int (mode:Int)=V.int 0)=true then km TJ (fV k) (tC (.int 0)) σ H C else C (.bl false) H:=by
 have e:decide (V.int (mode:Int)=V.int 0)=decide (mode=0):=kh mode 0
 rw [e]
 by_cases h1:mode=0
 ·rw [decide_eq_true h1] at h ⊢
  rw [br] at h
  refine gR ⟨_,hk,_,_,rfl,rfl,?_⟩
  have e2:decide ((0:Int)<(rest:Int))=decide (0<rest):=by
   by_cases z:0<rest
   ·rw [decide_eq_true z,decide_eq_true (by omega)]
   ·rw [decide_eq_false z,decide_eq_false (by omega)]
  rw [←e2] at h
  exact h
 ·rw [decide_eq_false h1] at h ⊢
  exact f7 h
theorem Sh {s:gA}{ps:List (Nat×Nat)}{cs:List gL}{last:Nat}{mk:Bool}(h:xU s ps cs last mk=0):a9 ps=true∧s.tickets.length<64∧¬(mk=true∧64≤s.credits.length)∧s.tickets.length<total s.stock:=by
 unfold xU at h
 by_cases h1:a9 ps=false∨uu s ps=false
 ·rw [if_pos h1] at h
  cases h
 rw [if_neg h1] at h
 by_cases h2:mP s last cs=false
 ·rw [if_pos h2] at h
  cases h
 rw [if_neg h2] at h
 by_cases h3:64≤s.tickets.length
 ·rw [if_pos h3] at h
  cases h
 rw [if_neg h3] at h
 by_cases h4:mk=true∧64≤s.credits.length
 ·rw [if_pos h4] at h
  cases h
 rw [if_neg h4] at h
 by_cases h5:total s.stock≤s.tickets.length
 ·rw [if_pos h5] at h
  cases h
 exact ⟨by simpa using fun z=>h1 (.inl z),by omega,h4,by omega⟩
theorem K1 {L:Ly}{s:gA}{ps:List (Nat×Nat)}{f:gL→gL}(hn:ps.Nodup):∀n o,obj d L s n=some o→∃o',obj d L (jj s ps f) n=some o'∧L.a n=L.a n:=λn o e=>by
 obtain ⟨o',h⟩:=(me f ps s).symm.part (λi j=>by
  rw [oQ f ps s i j hn]
  split
  ·cases iP s i j<;>rfl
  ·rfl) e
 exact ⟨o',h,rfl⟩
abbrev B7 (P w K mg base) (d:Ad):=Fd P w K mg base 6 "exchange" ["house","penalty","mode","last","old_row","new_row"] (K0 d)
def K2 (K:ab) (d:Ad) (jv jl iX iW jE hG lO kT hJ i8:Sp):TS:=(g6 (jw (yt (Vh (fT (tC (.int 0)) (fT (vC (sY K) (fT (fV 4) gF)) (fT (tC (.int 2)) gF)))) (gr 6) mI (A5 (fT (km (Mj K) (fV 4) (fV 6)) (fT (km (Mj K) (fV 4) (km ml (fV 6) (tC (.int 1)))) gF))) [6]) (gr 7)) (g6 (jw (iA iW [] E0 (fT (fV 0) (fT (fV 7) gF))) (gr 8)) (g6 (pC (kH (km Vc (fV 8) (tC (.int 0)))) (jZ (pD (fT (fV 8) gF))) lD) (g6 (jw (iA iX [] E0 (fT (fV 0) (fT (fV 7) gF))) (gr 9)) (g6 (jw (iA jE [] E0 (fT (fV 5) gF)) (gr 10)) (g6 (jw (tIf (tB (vC (JP K) (fT (yt (jy K (fV 9)) (gr 11) mI (tF d.fQ (fV 11) "free") [11]) gF))) (tC (.int 0)) (fV 1)) (gr 12)) (g6 (jw (km zy (km ml (iA hJ [] E0 (fT (fV 10) gF)) (fV 12)) (iA hJ [] E0 (fT (fV 9) gF))) (gr 13)) (g6 (jw (vC NU (fT (fV 13) (fT (tC (.int 0)) gF))) (gr 14)) (g6 (jw (vC NU (fT (tUn (rU fun i=>.int (-i)) (fV 13)) (fT (tC (.int 0)) gF))) (gr 15)) (g6 (jw (iA jl [] E0 (fT (fV 0) (fT (fV 7) (fT (fV 10) (fT (fV 3) (fT (NG (km Tj (fV 2) (tC (.int 0))) (km TJ (fV 15) (tC (.int 0)))) gF)))))) (gr 8)) (g6 (pC (kH (km Vc (fV 8) (tC (.int 0)))) (jZ (pD (fT (fV 8) gF))) lD) (g6 (A3 (jy K (fV 9)) (gr 11) (sF d.fQ (fV 11) (tC (.int 5)) "status")) (g6 (jw (km (Mj K) (iA lO [] E0 (fT (fV 0) (fT (fV 7) gF))) (tC (.int 0))) (gr 16)) (g6 (jw (A6 d.fX i8 [] E0 (fT (iA hG [] E0 (fT (fV 0) gF)) (fT (fV 16) (fT (tF d.fP (fV 0) "today") (fT (fV 3) (fT (fV 10) (fT (fV 14) (fT (pD gF) (fT (tC (.bl true)) gF))))))))) (gr 17)) (g6 (AZ (iA jv [] E0 (fT (fV 0) (fT (fV 17) gF)))) (g6 (sF d.fP (fV 0) (km ml (tF d.fP (fV 0) "cash_in") (fV 14)) "cash_in") (g6 (sF d.fP (fV 0) (km ml (tF d.fP (fV 0) "kept") (fV 12)) "kept") (jZ (km V1 (pD (fT (tC (.int 0)) (fT (tF d.fX (fV 17) "number") (fT (fV 14) gF)))) (iA kT [] E0 (fT (fV 0) (fT (fV 16) (fT (fV 2) (fT (fV 15) (fT (fV 12) gF)))))))))))))))))))))))))
theorem K3 (T:Txt P w K mg d) (rK:rH P w K mg base d) (wc:ph P w K mg base d) (nS:nR P w K mg base d) (nT:nQ P w K mg base d) (qi:qh P w K mg base d) (kS:kR P w K mg base d) (rN:rM P w K mg base d) (DU:vt P w K mg base d) (ka:nq P w K mg base d) (BO:qg P w K mg base d) (G:FG K mg "exchange" (top 124)):B7 P w K mg base d:=by
 have S:gf ["house","penalty","mode","last","old_row","new_row","at","named","refused","old","new","coupon","charged","unpaid","cash","rest","passenger","ticket"] ["house","penalty","mode","last","old_row","new_row"] (fS (top 124)):=lu
 refine G.fd S (λ_ _ _ _ _ _=>ar6 fun _ _ _ _ _ _=>rfl) fun _ _ _ _ _ H vs Q E hr h=>⟨K2 K d (jv d) (jl d) (iX d) (iW d) (jE d) (hG d) (lO d) (kT d) (hJ d) (i8 d),(fL (oV rfl S.nd rfl rfl (qY rfl rfl rfl rfl) (FX (by rfl) T.xq (fY gb (fY (gp gz (by rfl) T.jb aI (fY (pv 4) fM)) (fY gb fM)))) (gS (own:=[("at",6)]) (by show kX ["house","penalty","mode","last","old_row","new_row","at","named","refused","old","new","coupon","charged","unpaid","cash","rest","passenger","ticket"] (fS (top 124)) _ _=true;decide +kernel)) (λ_ _ _ _ _=>(gk (i:=6) S.nd rfl (by first|exact ak rfl|exact au rfl))) (λ_ _ _ _ _=>iJ) (λ_ _ _ _ _=>(i6 (fY (gP gv (pv 4) (pv 6) (λ_ _=>rfl)) (fY (gP gv (pv 4) (g9 ip (pv 6) gb) (λ_ _=>rfl)) fM))))) (fL (gj (i:=8) S.nd rfl (by first|exact ak rfl|exact au rfl) (fU nT (hr.mono (by decide)) rfl (fY (pv 0) (fY (pv 7) fM)))) (fL (gJ (gg kn (pv 8) (fR T.gx) (gm _)) (fO (fW (gG (fY (pv 8) fM)))) gd) (fL (gj (i:=9) S.nd rfl (by first|exact ak rfl|exact au rfl) (fU nS (hr.mono (by decide)) rfl (fY (pv 0) (fY (pv 7) fM)))) (fL (gj (i:=10) S.nd rfl (by first|exact ak rfl|exact au rfl) (fU qi (hr.mono (by decide)) rfl (fY (pv 5) fM))) (fL (gj (i:=12) S.nd rfl (by first|exact ak rfl|exact au rfl) (sO (jn (gp (qX rfl) rfl T.sj boot_all (fY (ko rfl S.nd (gC (pv 9)) (gS (own:=[("coupon",11)]) (by show kX ["house","penalty","mode","last","old_row","new_row","at","named","refused","old","new","coupon","charged","unpaid","cash","rest","passenger","ticket"] (fS (top 124)) _ _=true;decide +kernel)) (λ_ _ _ _ _=>(gk (i:=11) S.nd rfl (by first|exact ak rfl|exact au rfl))) (λ_ _ _ _ _=>iJ) (λ_ _ _ _ _=>(gw T.fQ T.jr (pv 11)))) fM))) gb (pv 1))) (fL (gj (i:=13) S.nd rfl (by first|exact ak rfl|exact au rfl) (g9 mL (g9 ip (fU ka (hr.mono (by decide)) rfl (fY (pv 10) fM)) (pv 12)) (fU ka (hr.mono (by decide)) rfl (fY (pv 9) fM)))) (fL (gj (i:=14) S.nd rfl (by first|exact ak rfl|exact au rfl) (gp (FL rfl) rfl T.Ki boot_max (fY (pv 13) (fY gb fM)))) (fL (gj (i:=15) S.nd rfl (by first|exact ak rfl|exact au rfl) (gp (FL rfl) rfl T.Ki boot_max (fY (Yu VS (pv 13)) (fY gb fM)))) (fL (gj (i:=8) S.nd rfl (by first|exact ak rfl|exact au rfl) (fU wc (hr.mono (by decide)) rfl (fY (pv 0) (fY (pv 7) (fY (pv 10) (fY (pv 3) (fY (yx (jO iY (pv 2) (fR T.pO) (gm _)) (sN (jO JH (pv 15) gb (gm _)))) fM))))))) (fL (gJ (gg kn (pv 8) (fR T.gx) (gm _)) (fO (fW (gG (fY (pv 8) fM)))) gd) (fL (jz PassesOwn.never rfl (gC (pv 9)) (gk (i:=11) S.nd rfl (by first|exact ak rfl|exact au rfl)) (fO (iT T.fQ T.gc (pv 11) (fR T.m9)))) (fL (gj (i:=16) S.nd rfl (by first|exact ak rfl|exact au rfl) (gP gv (fU rN (hr.mono (by decide)) rfl (fY (pv 0) (fY (pv 7) fM))) gb (λ_ _=>rfl))) (fL (gj (i:=17) S.nd rfl (by first|exact ak rfl|exact au rfl) (sX BO (hr.mono (by decide)) rfl (fY (fU kS (hr.mono (by decide)) rfl (fY (pv 0) fM)) (fY (pv 16) (fY (gw T.fP T.iq (pv 0)) (fY (pv 3) (fY (pv 10) (fY (pv 14) (fY (gG fM) (fY mY fM)))))))))) (fL (jo (fU rK (hr.mono (by decide)) rfl (fY (pv 0) (fY (pv 17) fM)))) (fL (iT T.fP T.iM (pv 0) (g9 ip (gw T.fP T.iM (pv 0)) (pv 14))) (fL (iT T.fP T.iH (pv 0) (g9 ip (gw T.fP T.iH (pv 0)) (pv 12))) (fO (fW (g9 QI (gG (fY (fR T.gx) (fY (gw T.fX T.iL (pv 17)) (fY (pv 14) fM)))) (fU DU (hr.mono (by decide)) rfl (fY (pv 0) (fY (pv 16) (fY (pv 2) (fY (pv 15) (fY (pv 12) fM)))))))))))))))))))))))))),?_⟩
 obtain ⟨L,s,lI,mode,last,a,b,l1,l2,rfl,R,I,hm,ha,hr1,hb,T3,q⟩:=h
 obtain ⟨n,en,Qg,n1,n8,hix⟩:=PF hr1
 obtain ⟨n',en',V0,n1',n4',aa5⟩:=nA T3
 have hs:=ZH s lI mode last (mkPairs l1) (ia l2) hm
 generalize ZD:mkPairs l1=ps at *
 generalize Zn:ia l2=cs at *
 have hV:(vI l1).length=2 * n:=by rw [aa,Qg]
 refine (U rfl ⟨a,_,rfl,.inl (gE.of ha),0,((2 * n:Nat):Int),2,n,?_,rg2 n8,λD hD=>lcT (ps:=ps) (by omega) hD (λi H' hi s'=>?_) (λH' s'=>?_) (λi H' x Rr pr yL s' hy=>?_) fun H1 bs s1 HC hN fr=>?_⟩)
 ·show [V.int 0,V.int (((vI l1).length:Nat):Int),V.int 2]=_
  rw [hV]
 ·show i<n
  omega
 ·show n≤ps.length
  omega
 ·obtain ⟨e,rfl⟩:=hy
  obtain ⟨x1,x2⟩:=hix i pr yL
  have hA:=gE.of (K:=K) (s' _ _ ha)
  refine ⟨e,_,λC hC=>hC,oH _ _ _,λQ' hq=>(U rfl (U rfl ⟨a,_,_,_,rfl,rfl,hA,nP (j:=2 * i) (by omega) (vn x1),hq⟩)),λQ' hq=>(U rfl (U rfl (ad ⟨a,_,_,_,rfl,rfl,hA,nP (j:=2 * i+1) (by omega) (vn x2),hq⟩)))⟩
 have R1:=R.same s1
 refine (U rfl (U rfl ⟨L,s,D,bs,ps,rfl,R1,HC,hN,?_⟩))
 refine (U rfl ⟨rfl,ac ?_⟩)
 rw [jY]
 by_cases h0:¬pb s ps=0
 ·rw [decide_eq_false h0]
  refine gR (U rfl ⟨by show 1≤sizeLine;decide,λp hp=>?_⟩)
  refine q.ref (hs.trans ?_) R s1 hp
  rw [GA h0]
 have h0:pb s ps=0:=Decidable.of_not_not h0
 rw [decide_eq_true h0]
 refine f7 ?_
 obtain ⟨l,hl⟩:=B2 h0
 rw [hl] at hs
 dsimp only at hs
 have jQ:=qS hl
 have iR:∀x∈ps,∃y,aF s x.1 x.2=.ok y:=λx hx=>by
  obtain ⟨i,hi⟩:=aR hx
  obtain ⟨y,_,hy,_⟩:=gK jQ hi
  exact ⟨y,hy⟩
 have hth:AQ s ps:=λx hx=>by
  obtain ⟨y,hy⟩:=iR x hx
  obtain ⟨i,e1,e2,e3,hr⟩:=iI hy
  exact ⟨i,_,e1,e2,hr⟩
 have ZG:=KY iR
 have ll:l.length≤8:=by
  rw [←Paired.length jQ]
  omega
 refine (U rfl (U rfl ⟨L,s,D,bs,ps,l,rfl,R1,HC,hN,by omega,hl,λH2 po s2 npo hpo=>?_⟩))
 have Hq:=s1.trans s2
 have R2:=R.same Hq
 have cps:=tN R2 ZG
 rw [pos_at jQ] at cps
 refine (U rfl ⟨b,l2,rfl,Hq _ _ hb,T3,λH3 pc as s3 W3 MS hC nas=>?_⟩)
 rw [Zn] at hC
 have ZF:=Hq.trans s3
 have ZI:=Gw hC
 have hlm:(l.map (λx:iF×gL=>x.2)).length≤8:=by rw [aa];exact ll
 have efr:((l.map (λx:iF×gL=>x.2)).all fun c=>c.free)=l.all fun x=>x.2.free:=by
  rw [eE]
  rfl
 have after:∀H4,gi H3 H4→g6 (jw (km zy (km ml (iA (hJ d) [] E0 (fT (fV 10) gF)) (fV 12)) (iA (hJ d) [] E0 (fT (fV 9) gF))) (gr 13))
  (g6 (jw (vC NU (fT (fV 13) (fT (tC (.int 0)) gF))) (gr 14))
  (g6 (jw (vC NU (fT (tUn (rU fun i=>.int (-i)) (fV 13)) (fT (tC (.int 0)) gF))) (gr 15))
  (g6 (jw (iA (jl d) [] E0 (fT (fV 0) (fT (fV 7) (fT (fV 10) (fT (fV 3) (fT (NG (km Tj (fV 2) (tC (.int 0))) (km TJ (fV 15) (tC (.int 0)))) gF)))))) (gr 8))
  (g6 (pC (kH (km Vc (fV 8) (tC (.int 0)))) (jZ (pD (fT (fV 8) gF))) lD)
  (g6 (A3 (jy K (fV 9)) (gr 11) (sF d.fQ (fV 11) (tC (.int 5)) "status"))
  (g6 (jw (km (Mj K) (iA (lO d) [] E0 (fT (fV 0) (fT (fV 7) gF))) (tC (.int 0))) (gr 16))
  (g6 (jw (A6 d.fX (i8 d) [] E0 (fT (iA (hG d) [] E0 (fT (fV 0) gF)) (fT (fV 16) (fT (tF d.fP (fV 0) "today") (fT (fV 3) (fT (fV 10) (fT (fV 14) (fT (pD gF) (fT (tC (.bl true)) gF))))))))) (gr 17))
  (g6 (AZ (iA (jv d) [] E0 (fT (fV 0) (fT (fV 17) gF))))
  (g6 (sF d.fP (fV 0) (km ml (tF d.fP (fV 0) "cash_in") (fV 14)) "cash_in")
  (g6 (sF d.fP (fV 0) (km ml (tF d.fP (fV 0) "kept") (fV 12)) "kept")
  (jZ (km V1 (pD (fT (tC (.int 0)) (fT (tF d.fX (fV 17) "number") (fT (fV 14) gF)))) (iA (kT d) [] E0 (fT (fV 0) (fT (fV 16) (fT (fV 2) (fT (fV 15) (fT (fV 12) gF))))))))))))))))))
   (ends Q) [some (.ref (L.a .hs)),some (vN lI),some (vN mode),some (vN last),some (.ref a),some (.ref b),none,some (.ref D),some (.int (pb s ps)),some (.ref po),some (.ref pc),none,some (vN (oO lI l cs).pn),none,none,none,none,none] H4:=λH4 s4=>by
  have ew:(oO lI l cs).w=((l.map (λx:iF×gL=>x.2)).map dG).sum:=rfl
  have ecs:aD cs=(cs.map dG).sum:=rfl
  have ZJ:(oO lI l cs).more=aD cs+(oO lI l cs).pn - (oO lI l cs).w:=rfl
  have ZK:(oO lI l cs).rest=(oO lI l cs).w - (aD cs+(oO lI l cs).pn):=rfl
  have epp:(oO lI l cs).p=(l.head?.map fun x=>x.1.passenger).getD 0:=rfl
  generalize oO lI l cs=X at *
  have s04:=ZF.trans s4
  refine (U rfl ⟨pc,_,_,rfl,s4 _ _ MS,ZI.same s4,by omega,λH5 s5=>⟨_,rfl,_,_,rfl,rfl,_,rfl,po,_,_,rfl,s5 _ _ (s4 _ _ (s3 _ _ hpo)),cps.same ((s3.trans s4).trans s5),by omega,λH6 s6=>⟨_,_,rfl,rfl,?_⟩⟩⟩)
  rw [←ew,←ecs]
  have Td:=(s4.trans s5).trans s6
  have s06:=ZF.trans Td
  refine (U rfl ⟨_,_,rfl,?_⟩)
  have ec:V.int (if (0:Int) > ((aD cs:Nat):Int)+(X.pn:Int) - (X.w:Int) then 0 else ((aD cs:Nat):Int)+(X.pn:Int) - (X.w:Int))=vN X.more:=by
   rw [ZJ]
   unfold vN
   congr 1
   split<;>omega
  refine ⟨_,rfl,_,rfl,_,_,rfl,?_⟩
  have er:V.int (if (0:Int) > -(((aD cs:Nat):Int)+(X.pn:Int) - (X.w:Int)) then 0 else -(((aD cs:Nat):Int)+(X.pn:Int) - (X.w:Int)))=vN X.rest:=by
   rw [ZK]
   unfold vN
   congr 1
   split<;>omega
  rw [ec,er]
  refine (U rfl (U rfl (U rfl (U rfl (U rfl ⟨rfl,ac (UC rfl ?_)⟩)))))
  generalize hmk:(decide (mode=0)&&decide (0<X.rest))=mk at hs
  refine ⟨L,s,D,pc,bs,ps,_,cs,last,mk,rfl,R.same s06,I,Td _ _ (s3 _ _ (s2 _ _ HC)),hN.same ((s2.trans s3).trans Td),by omega,by omega,hth,Td _ _ MS,ZI.same Td,by omega,λH7 s7=>?_⟩
  have ZL:=s06.trans s7
  refine (U rfl ⟨rfl,ac ?_⟩)
  rw [jY]
  by_cases hx:¬xU s ps cs last mk=0
  ·rw [decide_eq_false hx]
   rw [if_pos hx] at hs
   exact gR (U rfl ⟨by show 1≤sizeLine;decide,λp hp=>q.ref hs R ZL hp⟩)
  have hx:xU s ps cs last mk=0:=Decidable.of_not_not hx
  rw [decide_eq_true hx]
  rw [if_neg (λz=>z hx)] at hs
  obtain ⟨ZE,t64,hcr,hft⟩:=Sh hx
  obtain ⟨f,hf⟩:=q5 hft
  rw [hf] at hs
  dsimp only at hs
  refine f7 ?_
  have Yg:=Td.trans s7
  have R7:=R.same ZL
  have pnd:=Sd iR ((jd ps).mp ZE)
  refine uq (f:=λc=>{ c with status:=.exchanged }) rfl (by show 11<18;decide) R7 (Yg _ _ (s3 _ _ hpo)) (R1.out npo) ZG pnd (λx y s9 H9 N hx R9 hc WY kk=>?_) fun σ' H8 hv R8 UD=>?_
  ·obtain ⟨t,g1,g2⟩:=jx hc
   exact (U rfl ⟨_,_,_,rfl,R9.cp g1 g2,mN y,kk _ rfl⟩)
  obtain ⟨v,rfl⟩:=hv
  have esa:=wa (st:=.exchanged) ps I iR
  have I8:gN (jj s (pH s ps) fun c=>{ c with status:=.exchanged }):=by rw [←esa];exact I.setAll
  have al:=me (λc=>{ c with status:=.exchanged }) (pH s ps) s
  have tl:=Px (λc=>{ c with status:=.exchanged }) (pH s ps) s
  have Ga:=zH (λc=>{ c with status:=.exchanged }) (pH s ps) s
  have pas:=PJ (λc=>{ c with status:=.exchanged }) (pH s ps) s
  have prt:=K1 (d:=d) (L:=L) (s:=s) (f:=λc=>{ c with status:=.exchanged }) pnd
  have AB:∀i t,s.tickets[i]?=some t→∃t',(jj s (pH s ps) fun c=>{ c with status:=.exchanged }).tickets[i]?=some t':=λi t ht=>by
   obtain ⟨t',g1,_⟩:=BP (λc=>{ c with status:=.exchanged }) (pH s ps) ht
   exact ⟨t',g1⟩
  rw [esa] at hs
  generalize jj s (pH s ps) (λc=>{ c with status:=.exchanged })=s8 at hs R8 UD I8 al tl Ga pas prt AB
  have k08:=(gy.same (d:=d) (L:=L) (s:=s) ZL).trans UD
  obtain ⟨hD8,oD8⟩:=UD D _ (Yg _ _ (s3 _ _ (s2 _ _ HC))) (R.out hD)
  have hN8:vZ H8 bs ps:=(hN.same ((s2.trans s3).trans Yg)).imp fun y o hy e=>(UD y o e (R.out (fr y hy))).1
  have aaI:AQ s8 ps:=λx hx=>by
   obtain ⟨i,t,e1,e2,hr⟩:=hth x hx
   obtain ⟨t',g1⟩:=AB i t e2
   exact ⟨i,t',by rw [rO Ga];exact e1,g1,hr⟩
  refine (U rfl (U rfl ⟨L,s8,D,bs,ps,rfl,R8,hD8,hN8,by omega,aaI,λH9 pp s9 npp Tc=>?_⟩))
  obtain ⟨x0,r0,hx0⟩:∃x r,ps=x::r:=by
   cases ps with
   |nil=>
    simp at en
    omega
   |cons x r=>exact ⟨x,r,rfl⟩
  have ep:iS s8 x0.1=X.p:=by
   rw [PH Ga pas,epp]
   rw [hx0] at jQ
   cases jQ with
   |cons z _=>exact M0 z.1
  have Zt:(vI (iN (ps.map fun x=>iS s8 x.1)))[0]?=some (vN X.p):=by
   rw [hx0,←ep]
   rfl
  refine ⟨pp,_,0,_,rfl,rfl,gE.of Tc,kI (j:=0) Zt,?_⟩
  have R9:=R8.same s9
  have hf8:du s8.stock s8.tickets.length=some f:=by
   rw [al.sk,tl]
   exact hf
  refine (U rfl ⟨L,s8,f,rfl,R9,I8,hf8,_,rfl,_,rfl,_,_,_,_,rfl,R9.hs,lh L _,_,rfl,_,rfl,_,rfl,aK _,λpd Vw=>?_⟩)
  have YI:=f9 (o:=HO.lst []) Vw
  have Ya:=R9.same YI
  have Vx:upd H9 pd (.lst []) pd=some (.lst (([]:List Addr).map V.ref)):=fN
  have od:=R9.out Vw
  have aaJ:H pd=Option.none:=ZL.free (gy.free R7 R8 UD prt (s9.free Vw))
  generalize upd H9 pd (.lst [])=X2 at YI Ya Vx ⊢
  intro x dx nx Zr nex
  refine ⟨x,dx,_,_,_,_,_,_,_,_,rfl,fN,rfl,?_⟩
  rw [ir]
  have S7:gi X2 (upd (upd X2 dx (.own x)) x (.ins d.fX dx [("number",vN (ao f)),("passenger",vN X.p),("issued",vN s8.today),("last",vN last),("coupons",.ref pc),("cash",vN X.more),("drawn",.ref pd),("in_exchange",.bl true)])):=iG (f9 Zr) nx
  have W7:upd (upd X2 dx (.own x)) x (.ins d.fX dx [("number",vN (ao f)),("passenger",vN X.p),("issued",vN s8.today),("last",vN last),("coupons",.ref pc),("cash",vN X.more),("drawn",.ref pd),("in_exchange",.bl true)]) x=some (.ins d.fX dx [("number",vN (ao f)),("passenger",vN X.p),("issued",vN s8.today),("last",vN last),("coupons",.ref pc),("cash",vN X.more),("drawn",.ref pd),("in_exchange",.bl true)]):=fN
  generalize upd (upd X2 dx (.own x)) x (.ins d.fX dx [("number",vN (ao f)),("passenger",vN X.p),("issued",vN s8.today),("last",vN last),("coupons",.ref pc),("cash",vN X.more),("drawn",.ref pd),("in_exchange",.bl true)])=Zi at S7 W7 ⊢
  have UE:=(s9.trans YI).trans S7
  have R11:=R8.same UE
  have k11:=k08.trans (gy.same UE)
  have ox:Out d L s8 x:=Ya.out nx
  have nx0:H x=Option.none:=ZL.free (gy.free R7 R8 UD prt ((s9.trans YI).free nx))
  have aaK:Paired (λa c=>∃dx,Zi a=some (.ins d.fQ dx (cf c))) as cs:=jf (λy c ⟨e,dx,e'⟩=>⟨dx,UE _ _ (UD y _ (Yg _ _ e') (R2.out e)).1⟩) hC
  have aaL:∀y∈as,Out d L s8 y:=λy hy=>by
   obtain ⟨j,hj⟩:=aR hy
   obtain ⟨c,_,e,dx,e'⟩:=gK hC hj
   exact (UD y _ (Yg _ _ e') (R2.out e)).2
  obtain ⟨ZM,opc⟩:=UD pc _ (Yg _ _ MS) (R2.out W3)
  obtain ⟨nt,N,t1,t2,t3,t4,t5⟩:=Zo (t:=oj s8 f X.p last X.more [] true cs) W7 (UE _ _ ZM) (S7 _ _ Vx) aaK .nil nas cN (f6 (s9 _ _ ZM) Vw) ox opc od aaL (λy hy=>by cases hy)
  have F:W0 H (oj s8 f X.p last X.more [] true cs) nt:=by
   refine ⟨by rw [t1];exact nx0,by rw [t2];exact Hq.free W3,by rw [t3];exact aaJ,λj hj=>?_,λj hj=>by cases hj⟩
   obtain ⟨i,hi⟩:=aR (t4 j hj)
   obtain ⟨c,_,e,_⟩:=gK hC hi
   exact Hq.free e
  have Yh:=(yX R11 N).rep R11
  have k12:=Gu R11 N k11 F
  refine (U rfl (U rfl ⟨L,s8,x,dx,_,ao f,rfl,R11,I8,ox,W7,rfl,?_⟩))
  rw [A7 _ (Gv I8 hf8 L)]
  have eH:upd (upd Zi (L.a .tk) (.lst (refs L s8.tickets.length .tc++[.ref x]))) (L.a .tf) (.dK (tu L s8++[(Sum.inl (ao f:Int),.ref x)]))=vY Zi L s8 (oj s8 f X.p last X.more [] true cs) nt:=by
   unfold vY
   rw [t1]
   rfl
  rw [eH]
  have I12:gN (j9 s8 (oj s8 f X.p last X.more [] true cs)):=I8.jR (by rw [tl];show ¬64≤_;omega) hf8 (by show 1≤cs.length∧cs.length≤4;omega) (λd hd=>by cases hd)
  generalize ZN:oj s8 f X.p last X.more [] true cs=tk at *
  have htk:tk.form=f:=by rw [←ZN];rfl
  generalize vY Zi L s8 tk nt=H12 at Yh k12 ⊢
  have W8:(j9 s8 tk).tickets[s8.tickets.length]?=some tk:=by
   show (s8.tickets++[tk])[s8.tickets.length]?=_
   rw [bQ (ai _),dD]
   rfl
  have e12:(L.jR s8.tickets.length nt).a (.tc s8.tickets.length)=x:=(if_pos rfl).trans t1
  have ehs:(L.jR s8.tickets.length nt).a .hs=L.a .hs:=rfl
  generalize hL:L.jR s8.tickets.length nt=L2 at Yh k12 e12 ehs
  rw [←ehs]
  refine (U rfl ⟨_,_,_,_,rfl,Yh.hs,tD _ _,_,rfl,_,_,rfl,rfl,_,rfl,_,_,_,rfl,Yh.hs,(by show 9<1000;decide),?_⟩)
  have e13:V.int (((j9 s8 tk).cashIn:Int)+(X.more:Int))=vN (s8.cashIn+X.more):=by
   unfold vN
   congr 1
  dsimp only
  rw [e13]
  have ZO:=Yh.cin (s8.cashIn+X.more)
  have k13:=k12.trans (gy.cin Yh (s8.cashIn+X.more))
  generalize upd H12 (L2.a .hs) (.ins d.fP (L2.x .hs) (gh "cash_in" (vN (s8.cashIn+X.more)) (wO L2 (j9 s8 tk))))=H13 at ZO k13 ⊢
  refine ⟨_,rfl,_,_,_,_,rfl,ZO.hs,tE _ _,_,rfl,_,_,rfl,rfl,_,rfl,_,_,_,rfl,ZO.hs,(by show 9<1000;decide),?_⟩
  have e14:V.int (((j9 s8 tk).kept:Int)+(X.pn:Int))=vN (s8.kept+X.pn):=by
   unfold vN
   congr 1
  dsimp only
  rw [show (HE (j9 s8 tk) (s8.cashIn+X.more)).kept=(j9 s8 tk).kept from rfl,e14]
  have ZP:=ZO.kep (s8.kept+X.pn)
  have k14:=k13.trans (gy.kep ZO (s8.kept+X.pn))
  generalize upd H13 (L2.a .hs) (.ins d.fP (L2.x .hs) (gh "kept" (vN (s8.kept+X.pn)) (wO L2 (HE (j9 s8 tk) (s8.cashIn+X.more)))))=H14 at ZP k14 ⊢
  have I14:gN (tQ (HE (j9 s8 tk) (s8.cashIn+X.more)) (s8.kept+X.pn)):=I12.as rfl rfl rfl rfl
  have ZQ:MZ (tQ (HE (j9 s8 tk) (s8.cashIn+X.more)) (s8.kept+X.pn)) X.p mode X.rest=exS s8 X mode last f cs:=by
   unfold exS
   rw [ZN]
   rfl
  have ZR:B3 (tQ (HE (j9 s8 tk) (s8.cashIn+X.more)) (s8.kept+X.pn)) mode X.rest X.pn=B3 s mode X.rest X.pn:=by
   unfold B3
   rw [show (tQ (HE (j9 s8 tk) (s8.cashIn+X.more)) (s8.kept+X.pn)).credits.length=s.credits.length by
    show s8.credits.length=_
    rw [al.cr]]
  generalize aaM:(tQ (HE (j9 s8 tk) (s8.cashIn+X.more)) (s8.kept+X.pn))=s14 at ZP k14 I14 ZQ ZR
  have W9:s14.tickets[s8.tickets.length]?=some tk:=by rw [←aaM];exact W8
  have ZS:=ZP.tc W9
  rw [e12] at ZS
  have ZT:=rk L2 s8.tickets.length tk
  rw [htk] at ZT
  refine (U rfl ⟨_,_,_,_,rfl,ZS,ZT,U rfl ⟨by show 3≤sizeLine;decide,λg1 hg1=>?_⟩⟩)
  have sg:=f9 (o:=HO.lst [.int 0,vN (ao f),vN X.more]) hg1
  have og:=ZP.out hg1
  have R15:=ZP.same sg
  refine (U rfl (U rfl (U rfl (U rfl (U rfl ⟨L2,s14,X.p,mode,X.rest,X.pn,rfl,R15,I14,λH16 L16 g2 aaN R16 k16 ng2 Vq og2=>?_⟩)))))
  obtain ⟨aaO,aa6⟩:=k16 g1 _ fN og
  rw [ZQ] at R16 k16
  rw [ZR] at Vq
  refine ⟨g1,g2,_,_,rfl,rfl,aaO,Vq,?_,λp hp=>?_⟩
  ·rw [aa]
   have:(B3 s mode X.rest X.pn).length=4:=by
    unfold B3
    repeat' split
    all_goals rfl
   rw [this]
   show 3+4≤sizeLine
   decide
  ·have fin:=q.done hs R16 ((k14.trans (gy.same sg)).trans k16) hp (aaN.trans ehs)
   rw [show vI ([0,((ao f:Nat):Int),((X.more:Nat):Int)]++B3 s mode X.rest X.pn)=[.int 0,vN (ao f),vN X.more]++vI (B3 s mode X.rest X.pn) from bP] at fin
   exact fin
 have le:((pH s ps).map (o5 L)).length=l.length:=by
  have:=Paired.length cps
  rw [aa (as:=l)] at this
  exact this
 have s8:8≤sizeLine:=by decide
 refine (U rfl ⟨po,rfl,⟨_,gE.of (s3 _ _ hpo)⟩,λD2 LU=>Vo (ys:=((l.map (λx:iF×gL=>x.2)).map fun c=>c.free).map V.bl) (gE.of (s3 _ _ hpo)) (by omega) (by rw [aa,aa,aa,le]) (λi x y H4 Qy hx hy h4 kk=>?_) LU fun H4 s4 Zu=>⟨D2,_,rfl,gE.of Zu,_,rfl,?_⟩⟩)
 ·obtain ⟨c,JD,Ug⟩:=gK cps hx
  obtain ⟨z,hz,rfl⟩:=ji hy
  rw [ah,JD] at hz
  have hz:c.free=z:=Option.some.inj hz
  subst hz
  obtain ⟨y,dx,rfl,hy⟩:=(Ug.same s3).same h4
  exact (U rfl ⟨y,dx,_,_,rfl,hy,Hc c,kk _ (gi.refl _)⟩)
 rw [Bx]
 rw [efr]
 have epn:(oO lI l cs).pn=if (l.all fun x=>x.2.free)=true then 0 else lI:=rfl
 have af:=after H4 s4
 rw [epn] at af
 cases V5:(l.all fun x=>x.2.free) with
 |true=>
  rw [V5] at af
  exact gR af
 |false=>
  rw [V5] at af
  exact f7 (U rfl af)
theorem K4 (s:gA) (lI mode last:Nat) (old:List (Nat×Nat)) (cs:List gL):(∃z,aq s (.exchange lI mode last old cs)=(s,[z]))∨(∃t:iF,(aq s (.exchange lI mode last old cs)).1.tickets=(bK s .exchanged old).tickets++[t]∧t.drawn=[])∧(aq s (.exchange lI mode last old cs)).2.length=7:=by
 unfold aq
 dsimp only
 cases e:bI s old with
 |error z=>exact .inl ⟨z,rfl⟩
 |ok l=>
  dsimp only
  generalize (if (l.all fun x=>x.2.free)=true then 0 else lI)=pn
  generalize aD (l.map fun x=>x.2) - (aD cs+pn)=rest
  generalize aD cs+pn - aD (l.map fun x=>x.2)=more
  generalize (l.head?.map fun x=>x.1.passenger).getD 0=p
  by_cases h1:a9 old=false∨(l.all fun x=>x.1.passenger==p)=false
  ·rw [if_pos h1]
   exact .inl ⟨_,rfl⟩
  rw [if_neg h1]
  by_cases h2:last<s.today∨(cs.all fun c=>dg s last c)=false
  ·rw [if_pos h2]
   exact .inl ⟨_,rfl⟩
  rw [if_neg h2]
  by_cases h3:Vbahah.TICKETS≤s.tickets.length
  ·rw [if_pos h3]
   exact .inl ⟨_,rfl⟩
  rw [if_neg h3]
  by_cases h4:mode=0∧0<rest∧Vbahah.CREDITS≤s.credits.length
  ·rw [if_pos h4]
   exact .inl ⟨_,rfl⟩
  rw [if_neg h4]
  cases hf:du s.stock s.tickets.length with
  |none=>exact .inl ⟨_,rfl⟩
  |some form=>exact .inr ⟨⟨_,rfl,rfl⟩,rfl⟩
theorem UG {s:gA}(I:gN s) (c:eA):(aq s c).2.length≤1000:=by
 have n:∀{k:Nat} {l:List Int},l.length=k→Nat.ble k 1000=true→l.length≤1000:=λh1 h2=>by
  rw [h1]
  exact aN h2
 cases c with
 |clock y=>
  unfold aq
  dsimp only
  split<;>exact aN rfl
 |stock lo hi=>
  unfold aq
  dsimp only
  repeat' split
  all_goals exact aN rfl
 |issue p last cs ks=>
  unfold aq
  dsimp only
  repeat' split
  all_goals exact aN rfl
 |void m=>
  unfold aq
  dsimp only
  repeat' split
  all_goals exact aN rfl
 |use v c m n=>
  unfold aq
  dsimp only
  repeat' split
  all_goals exact aN rfl
 |depart a b c=>
  unfold aq
  dsimp only
  repeat' split
  all_goals exact aN rfl
 |cancel a b c=>
  unfold aq
  dsimp only
  repeat' split
  all_goals exact aN rfl
 |revalidate m n f y=>
  unfold aq
  dsimp only
  repeat' split
  all_goals exact aN rfl
 |suspend m n b=>
  unfold aq
  dsimp only
  repeat' split
  all_goals exact aN rfl
 |exchange lI mode last old cs=>
  rcases K4 s lI mode last old cs with ⟨z,h⟩|⟨_,h⟩
  ·rw [h]
   exact aN rfl
  ·rw [h]
   decide
 |refund m lI ns=>
  unfold aq
  dsimp only
  repeat' split
  all_goals exact aN rfl
 |credit k=>
  unfold aq
  dsimp only
  repeat' split
  all_goals exact aN rfl
 |ticket m=>
  unfold aq
  dsimp only
  split
  ·exact aN rfl
  ·rename_i t ht
   have h4:=(I.cps t (kZ ht).1).2
   have:=nD (f:=Pt) (n:=9) (l:=t.coupons) fun a _=>by show 9≤9;decide
   show (eB ([t.passenger,t.issued,t.last]++t.coupons.flatMap Pt)).length≤1000
   unfold eB Vbahah.ints
   rw [aw,aa,ay]
   show 3+_+1≤1000
   omega
 |heaps=>exact aN rfl
 |lifted c=>exact aN rfl
 |on_ a b c=>
  show (eB (s.tickets.flatMap fun t=>(t.coupons.zipIdx.filter fun x=>qO (a,b,c) x.1&&(cE x.1||x.1.status==.flown)).flatMap fun x=>[ao t.form,x.2,dR x.1.status])).length≤1000
  simp only [BZ]
  have h1:=nD (f:=λt:iF=>t.coupons.zipIdx.flatMap (AO (a,b,c) t)) (n:=12) (l:=s.tickets) fun t ht=>by
   have h1:=nD (f:=AO (a,b,c) t) (n:=3) (l:=t.coupons.zipIdx) fun x _=>MW _ _ x
   have h2:=(I.cps t ht).2
   rw [ej] at h1
   omega
  have h2:=I.AB
  unfold eB Vbahah.ints
  rw [aw,aa]
  refine bh (Nat.succ_le_succ h1) ?_
  omega
 |valid m=>exact aN rfl
 |tickets=>
  have h2:=I.AB
  show (eB (s.tickets.map _)).length≤1000
  unfold eB Vbahah.ints
  rw [aw,aa,aa]
  omega
def Good2:eA→Prop
 |.issue _ _ _ ks=>ks.length≤4
 |_=>True
theorem rL.putT {s:gA}(D:rL s) {u:iF}(hu:u.drawn.length≤4):rL (cU s u):=λt ht=>by
 obtain ⟨v,hv,rfl⟩:=bB.mp ht
 by_cases h:v.form=u.form
 ·rw [if_pos h]
  exact hu
 ·rw [if_neg h]
  exact D v hv
theorem rL.setAll {st:aJ}:∀{ps:List (Nat×Nat)}{s:gA},rL s→rL (bK s st ps)
 |[],s,D=>D
 |(t,n)::r,s,D=>by
  unfold bK
  refine rL.setAll ?_
  cases e:aF s t n with
  |error z=>exact D
  |ok x=>exact D.putT (D x.1 (k6 e).1)
theorem rL.step {s:gA}(D:rL s) {c:eA}(g:Good2 c):rL (aq s c).1:=by
 cases c with
 |clock y=>
  unfold aq
  dsimp only
  split
  ·exact D
  ·exact fun t ht=>by
     obtain ⟨u,hu,rfl⟩:=bB.mp ht
     exact D u hu
 |stock lo hi=>
  unfold aq
  dsimp only
  repeat' split
  all_goals exact D
 |issue p last cs ks=>
  unfold aq
  dsimp only
  repeat' split
  ·exact D
  ·exact D
  ·exact D
  ·exact D
  ·intro t ht
   have ht:t∈s.tickets++[_]:=ht
   rcases bE.mp ht with z|z
   ·exact D t z
   ·have e:t=_:=dB.mp z
    subst e
    have h1:=congrArg fJ (ui (ks.map fun k=>k - 1) s.credits (aD cs))
    rw [aa,aa] at h1
    show (cV s.credits (ks.map fun k=>k - 1) (aD cs)).2.length≤4
    rw [h1]
    exact g
 |void m=>
  unfold aq
  dsimp only
  split
  ·exact D
  ·rename_i t ht
   split
   ·exact D
   ·exact rL.putT (s:={ s with credits:=cG s.credits t.drawn,cashOut:=s.cashOut+t.cash }) D (D t (kZ ht).1)
 |use v c m n=>
  unfold aq
  dsimp only
  split
  ·exact D
  ·rename_i x hx
   repeat' split
   all_goals first|exact D|exact D.putT (D x.1 (k6 hx).1)
 |depart a b c=>
  unfold aq
  dsimp only
  split
  ·exact D
  ·split
   ·exact D
   ·exact fun t ht=>by
     obtain ⟨u,hu,rfl⟩:=bB.mp ht
     exact D u hu
 |cancel a b c=>
  unfold aq
  dsimp only
  split
  ·exact D
  ·split
   ·exact D
   ·exact fun t ht=>by
     obtain ⟨u,hu,rfl⟩:=bB.mp ht
     exact D u hu
 |revalidate m n f y=>
  unfold aq
  dsimp only
  split
  ·exact D
  ·rename_i x hx
   repeat' split
   all_goals first|exact D|exact D.putT (D x.1 (k6 hx).1)
 |suspend m n b=>
  unfold aq
  dsimp only
  split
  ·exact D
  ·rename_i x hx
   repeat' split
   all_goals first|exact D|exact D.putT (u:=cQ x.1 n _) (D x.1 (k6 hx).1)
 |exchange lI mode last old cs=>
  rcases K4 s lI mode last old cs with ⟨z,h⟩|⟨⟨u,h,hu⟩,_⟩
  ·rw [h]
   exact D
  ·intro t ht
   rw [h] at ht
   rcases bE.mp ht with z|z
   ·exact rL.setAll D t z
   ·have e:t=u:=dB.mp z
    rw [e,hu]
    exact aK _
 |refund m lI ns=>
  unfold aq
  dsimp only
  split
  ·exact D
  ·split
   ·exact D
   ·exact fun t ht=>rL.setAll D t ht
 |credit k=>
  unfold aq
  dsimp only
  split<;>exact D
 |ticket m=>
  unfold aq
  dsimp only
  split<;>exact D
 |heaps=>exact D
 |lifted c=>exact D
 |on_ a b c=>exact D
 |valid m=>exact D
 |tickets=>exact D
theorem ib {b:Int×Int}{z:Int}(h:gT b z=true) (h0:0≤b.1):∃n:Nat,z=(n:Int)∧b.1≤(n:Int)∧(n:Int)≤b.2:=by
 unfold gT at h
 rw [aj] at h
 have h1:=of_decide_eq_true h.1
 have h2:=of_decide_eq_true h.2
 exact ⟨z.toNat,by omega,by omega,by omega⟩
theorem B8:∀{r:List Int},(∀z∈r,0≤z)→iN (r.map cC)=r
 |[],_=>rfl
 |z::r,h=>by
  show ((z.toNat:Nat):Int)::iN (r.map cC)=_
  rw [B8 fun y hy=>h y (ag _ hy)]
  have:=h z az
  congr 1
  omega
theorem zI {r:List Int}(h:ie 2 r=true):iN (r.map cC)=r∧(r.map cC).length≤4∧∀k∈r.map cC,1≤k:=by
 have e:=Bf r
 rw [if_pos h] at e
 have hl:r.length≤4:=by
  rcases aX 4 r.length with z|z
  ·rw [if_neg (by omega)] at e
   cases e
  ·exact z
 unfold ie at h
 rw [aj] at h
 have h2:r.all (gT tj)=true:=by rw [←Ra tj r 0];exact h.2
 have h3:∀z∈r,1≤z:=λz hz=>by
  obtain ⟨n,rfl,h4,_⟩:=ib (aL.mp h2 z hz) (by decide)
  exact h4
 refine ⟨B8 fun z hz=>by have:=h3 z hz;omega,by rw [aa];exact hl,λk hk=>?_⟩
 obtain ⟨z,hz,rfl⟩:=bB.mp hk
 have:=h3 z hz
 omega
theorem M1 {r:List Int}(h:ie 3 r=true):iN (r.map cC)=r∧(r.map cC).length≤4:=by
 have e:=places_eq r
 rw [if_pos h] at e
 have hl:r.length≤4:=by
  rcases aX 4 r.length with z|z
  ·rw [if_neg (by omega)] at e
   cases e
  ·exact z
 unfold ie at h
 rw [aj] at h
 have h2:r.all (gT je)=true:=by rw [←Ra je r 0];exact h.2
 refine ⟨B8 fun z hz=>?_,by rw [aa];exact hl⟩
 obtain ⟨n,rfl,h4,_⟩:=ib (aL.mp h2 z hz) (by decide)
 omega
def PK (d:Ad):Sp:=λvs H Q _=>∃(L:Ly) (s:gA) (p:Nat) (a:Addr) (plain:List Int),vs=[.ref (L.a .hs),vN p,.ref a]∧Rep d H L s∧gN s∧11≤p∧p<18∧N0[p]?=some plain.length∧H a=some (.lst (vI plain))∧iu p plain=true∧DB d H L s (yF p plain []) Q
def M3 (d:Ad):Sp:=λvs H Q _=>∃(L:Ly) (s:gA) (p:Nat) (a b:Addr) (plain:List Int) (ws:List V) (rows:List (List Int)),vs=[.ref (L.a .hs),vN p,.ref a,.ref b]∧Rep d H L s∧gN s∧rL s∧p<18∧N0[p]?=some plain.length∧N3[p]?=some rows.length∧H a=some (.lst (vI plain))∧H b=some (.lst ws)∧
 mz (λx=>Out d L s x) H ws rows∧iu p plain=true∧jA p rows=true∧DB d H L s (yF p plain rows) Q
theorem UH {p:Nat}{plain:List Int}{rows:List (List Int)}(hp:p<18) (h1:N0[p]?=some plain.length) (h2:N3[p]?=some rows.length) (h3:iu p plain=true) (h4:jA p rows=true):Good (yF p plain rows)∧Good2 (yF p plain rows):=by
 match p,hp with
 |0,_=>
  obtain ⟨a,rfl⟩:=pF (Option.some.inj h1).symm
  exact ⟨trivial,trivial⟩
 |1,_=>
  obtain ⟨a,b,rfl⟩:=tp (Option.some.inj h1).symm
  have h3:(gT qH a&&(gT qH b&&true))=true:=h3
  rw [aY,aj] at h3
  obtain ⟨x,rfl,x1,x2⟩:=ib h3.1 (by decide)
  obtain ⟨y,rfl,y1,y2⟩:=ib h3.2 (by decide)
  refine ⟨⟨?_,?_⟩,trivial⟩
  ·show 1≤x
   have:(1:Int)≤x:=x1
   omega
  ·show y≤999999999
   have:(y:Int)≤999999999:=y2
   omega
 |2,_=>
  obtain ⟨a,b,rfl⟩:=tp (Option.some.inj h1).symm
  obtain ⟨r,q,rfl⟩:=tp (Option.some.inj h2).symm
  have h4:(ie 0 r&&(ie 2 q&&true))=true:=h4
  rw [aY,aj] at h4
  obtain ⟨n,en,_,n1,n4,_⟩:=nA h4.1
  exact ⟨⟨by omega,by omega⟩,(zI h4.2).2.1⟩
 |3,_=>
  obtain ⟨a,rfl⟩:=pF (Option.some.inj h1).symm
  exact ⟨trivial,trivial⟩
 |4,_=>
  obtain ⟨a,b,c,e,rfl⟩:=Pb (Option.some.inj h1).symm
  exact ⟨trivial,trivial⟩
 |5,_=>
  obtain ⟨a,b,c,rfl⟩:=vE (Option.some.inj h1).symm
  exact ⟨trivial,trivial⟩
 |6,_=>
  obtain ⟨a,b,c,rfl⟩:=vE (Option.some.inj h1).symm
  exact ⟨trivial,trivial⟩
 |7,_=>
  obtain ⟨a,b,c,e,rfl⟩:=Pb (Option.some.inj h1).symm
  exact ⟨trivial,trivial⟩
 |8,_=>
  obtain ⟨a,b,c,rfl⟩:=vE (Option.some.inj h1).symm
  exact ⟨trivial,trivial⟩
 |9,_=>
  obtain ⟨a,b,c,rfl⟩:=vE (Option.some.inj h1).symm
  obtain ⟨r,q,rfl⟩:=tp (Option.some.inj h2).symm
  have h4:(ie 1 r&&(ie 0 q&&true))=true:=h4
  rw [aY,aj] at h4
  obtain ⟨n,en,_,n1,n4,_⟩:=nA h4.2
  exact ⟨⟨by omega,by omega⟩,trivial⟩
 |10,_=>
  obtain ⟨a,b,rfl⟩:=tp (Option.some.inj h1).symm
  obtain ⟨r,rfl⟩:=pF (Option.some.inj h2).symm
  exact ⟨trivial,trivial⟩
 |11,_=>
  obtain ⟨a,rfl⟩:=pF (Option.some.inj h1).symm
  exact ⟨trivial,trivial⟩
 |12,_=>
  obtain ⟨a,rfl⟩:=pF (Option.some.inj h1).symm
  exact ⟨trivial,trivial⟩
 |13,_=>exact ⟨trivial,trivial⟩
 |14,_=>
  obtain ⟨a,rfl⟩:=pF (Option.some.inj h1).symm
  exact ⟨trivial,trivial⟩
 |15,_=>
  obtain ⟨a,b,c,rfl⟩:=vE (Option.some.inj h1).symm
  exact ⟨trivial,trivial⟩
 |16,_=>
  obtain ⟨a,rfl⟩:=pF (Option.some.inj h1).symm
  exact ⟨trivial,trivial⟩
 |17,_=>exact ⟨trivial,trivial⟩
abbrev K5 (P w K mg base) (d:Ad):=Fd P w K mg base 5 "report" ["house","place","plain"] (PK d)
theorem PL (T:Txt P w K mg d) (DV:vo P w K mg base d) (HF:xT P w K mg base d) (DW:vp P w K mg base d) (PM:Gz P w K mg base d) (DX:vq P w K mg base d) (B9:tX P w K mg base d) (HG:xS P w K mg base d) (G:FG K mg "report" (top 136)):K5 P w K mg base d:=by
 have S:gf ["house","place","plain"] ["house","place","plain"] (fS (top 136)):=lu
 refine G.fd S (λ_ _ _ _ _ _=>Pg fun _ _ _=>rfl) fun _ _ _ _ _ H vs Q E hr h=>⟨_,(fL (gJ (gg iY (pv 1) (fR T.xh) (gm _)) (fO (fW (fU DV (hr.mono (by decide)) rfl (fY (pv 0) (fY (gP gv (pv 2) gb (λ_ _=>rfl)) fM))))) gd) (fL (gJ (gg iY (pv 1) (fR T.xi) (gm _)) (fO (fW (fU DX (hr.mono (by decide)) rfl (fY (pv 0) (fY (gP gv (pv 2) gb (λ_ _=>rfl)) fM))))) gd) (fL (gJ (gg iY (pv 1) (fR T.AG) (gm _)) (fO (fW (fU HF (hr.mono (by decide)) rfl (fY (pv 0) fM)))) gd) (fL (gJ (gg iY (pv 1) (fR T.xj) (gm _)) (fO (fW (fU DW (hr.mono (by decide)) rfl (fY (pv 0) (fY (gP gv (pv 2) gb (λ_ _=>rfl)) fM))))) gd) (fL (gJ (gg iY (pv 1) (fR T.Ud) (gm _)) (fO (fW (fU PM (hr.mono (by decide)) rfl (fY (pv 0) (fY (gP gv (pv 2) gb (λ_ _=>rfl)) (fY (gP gv (pv 2) gb (λ_ _=>rfl)) (fY (gP gv (pv 2) gb (λ_ _=>rfl)) fM))))))) gd) (fL (gJ (gg iY (pv 1) (fR T.AH) (gm _)) (fO (fW (fU HG (hr.mono (by decide)) rfl (fY (gP gv (pv 2) gb (λ_ _=>rfl)) fM)))) gd) (fO (fW (fU B9 (hr.mono (by decide)) rfl (fY (pv 0) fM)))))))))),?_⟩
 obtain ⟨L,s,p,a,plain,rfl,R,I,p1,hp,h1,ha,h3,q⟩:=h
 match p,p1,hp with
 |11,_,_=>
  obtain ⟨x,rfl⟩:=pF (Option.some.inj h1).symm
  have h3:(gT tj x&&true)=true:=h3
  rw [aY] at h3
  obtain ⟨x,rfl,x1,x2⟩:=ib h3 (by decide)
  refine (be rfl rfl ⟨_,rfl,bm rfl (gE.of ha) rfl ⟨x,?_,L,s,rfl,R,I,q⟩⟩)
  have:(1:Int)≤x:=x1
  omega
 |12,_,_=>
  obtain ⟨x,rfl⟩:=pF (Option.some.inj h1).symm
  have h3:(gT gQ x&&true)=true:=h3
  rw [aY] at h3
  obtain ⟨x,rfl,x1,x2⟩:=ib h3 (by decide)
  exact (bd rfl rfl (be rfl rfl ⟨_,rfl,bm rfl (gE.of ha) rfl ⟨x,L,s,rfl,R,I,q⟩⟩))
 |13,_,_=>exact (bd rfl rfl (bd rfl rfl (be rfl rfl ⟨_,rfl,L,s,rfl,R,I,q⟩)))
 |14,_,_=>
  obtain ⟨x,rfl⟩:=pF (Option.some.inj h1).symm
  have h3:(gT mi x&&true)=true:=h3
  rw [aY] at h3
  obtain ⟨x,rfl,x1,x2⟩:=ib h3 (by decide)
  exact (bd rfl rfl (bd rfl rfl (bd rfl rfl (be rfl rfl ⟨_,rfl,bm rfl (gE.of ha) rfl ⟨x,L,s,rfl,R,I,q⟩⟩))))
 |15,_,_=>
  obtain ⟨x,y,z,rfl⟩:=vE (Option.some.inj h1).symm
  have h3:(gT mi x&&(gT nG y&&(gT j4 z&&true)))=true:=h3
  rw [aY,aj,aj] at h3
  obtain ⟨x,rfl,_,_⟩:=ib h3.1 (by decide)
  obtain ⟨y,rfl,_,_⟩:=ib h3.2.1 (by decide)
  obtain ⟨z,rfl,_,_⟩:=ib h3.2.2 (by decide)
  exact (bd rfl rfl (bd rfl rfl (bd rfl rfl (bd rfl rfl (be rfl rfl ⟨_,rfl,bm rfl (gE.of ha) rfl (bm rfl (gE.of ha) rfl (bm rfl (gE.of ha) rfl ⟨x,y,z,L,s,rfl,R,I,q⟩))⟩)))))
 |16,_,_=>
  obtain ⟨x,rfl⟩:=pF (Option.some.inj h1).symm
  have h3:(gT gQ x&&true)=true:=h3
  rw [aY] at h3
  obtain ⟨x,rfl,x1,x2⟩:=ib h3 (by decide)
  exact (bd rfl rfl (bd rfl rfl (bd rfl rfl (bd rfl rfl (bd rfl rfl (be rfl rfl (bm rfl (gE.of ha) rfl ⟨L,s,x,rfl,R,q⟩)))))))
 |17,_,_=>exact (bd rfl rfl (bd rfl rfl (bd rfl rfl (bd rfl rfl (bd rfl rfl (bd rfl rfl ⟨_,rfl,L,s,rfl,R,I,q⟩))))))
 |n+18,_,hp=>omega
abbrev GD (P w K mg base) (d:Ad):=Fd P w K mg base 7 "perform" ["house","place","plain","rows"] (M3 d)
theorem M4 (T:Txt P w K mg d) (Si:KC P w K mg base d) (UI:Ou P w K mg base d) (Sj:KA P w K mg base d) (M5:B7 P w K mg base d) (UJ:Ow P w K mg base d) (Sk:KZ P w K mg base d) (Sl:K5 P w K mg base d) (HH:xG P w K mg base d) (UK:Ov P w K mg base d) (PN:Gk P w K mg base d) (ZU:Vs P w K mg base d) (Xa:RY P w K mg base d) (G:FG K mg "perform" (top 135)):GD P w K mg base d:=by
 have S:gf ["house","place","plain","rows"] ["house","place","plain","rows"] (fS (top 135)):=lu
 refine G.fd S (λ_ _ _ _ _ _=>Vn fun _ _ _ _=>rfl) fun _ _ _ _ _ H vs Q E hr h=>⟨_,(fL (gJ (gg iY (pv 1) (fR T.AD) (gm _)) (fO (fW (fU UI (hr.mono (by decide)) rfl (fY (pv 0) (fY (gP gv (pv 2) gb (λ_ _=>rfl)) fM))))) gd) (fL (gJ (gg iY (pv 1) (fR T.AE) (gm _)) (fO (fW (fU UK (hr.mono (by decide)) rfl (fY (pv 0) (fY (gP gv (pv 2) gb (λ_ _=>rfl)) (fY (gP gv (pv 2) gb (λ_ _=>rfl)) fM)))))) gd) (fL (gJ (gg iY (pv 1) (fR T.AF) (gm _)) (fO (fW (fU UJ (hr.mono (by decide)) rfl (fY (pv 0) (fY (gP gv (pv 2) gb (λ_ _=>rfl)) (fY (gP gv (pv 2) gb (λ_ _=>rfl)) (fY (gP gv (pv 3) gb (λ_ _=>rfl)) (fY (gP gv (pv 3) gb (λ_ _=>rfl)) fM)))))))) gd) (fL (gJ (gg iY (pv 1) (fR T.oB) (gm _)) (fO (fW (fU Xa (hr.mono (by decide)) rfl (fY (pv 0) (fY (gP gv (pv 2) gb (λ_ _=>rfl)) fM))))) gd) (fL (gJ (gg iY (pv 1) (fR T.Oc) (gm _)) (fO (fW (fU ZU (hr.mono (by decide)) rfl (fY (pv 0) (fY (gP gv (pv 2) gb (λ_ _=>rfl)) (fY (gP gv (pv 2) gb (λ_ _=>rfl)) (fY (gP gv (pv 2) gb (λ_ _=>rfl)) (fY (gP gv (pv 2) gb (λ_ _=>rfl)) fM)))))))) gd) (fL (gJ (gg iY (pv 1) (fR T.xc) (gm _)) (fO (fW (fU Sj (hr.mono (by decide)) rfl (fY (pv 0) (fY (gP gv (pv 2) gb (λ_ _=>rfl)) (fY (gP gv (pv 2) gb (λ_ _=>rfl)) (fY (gP gv (pv 2) gb (λ_ _=>rfl)) fM))))))) gd) (fL (gJ (gg iY (pv 1) (fR T.xf) (gm _)) (fO (fW (fU Si (hr.mono (by decide)) rfl (fY (pv 0) (fY (gP gv (pv 2) gb (λ_ _=>rfl)) (fY (gP gv (pv 2) gb (λ_ _=>rfl)) (fY (gP gv (pv 2) gb (λ_ _=>rfl)) fM))))))) gd) (fL (gJ (gg iY (pv 1) (fR T.oE) (gm _)) (fO (fW (fU HH (hr.mono (by decide)) rfl (fY (pv 0) (fY (gP gv (pv 2) gb (λ_ _=>rfl)) (fY (gP gv (pv 2) gb (λ_ _=>rfl)) (fY (gP gv (pv 2) gb (λ_ _=>rfl)) (fY (gP gv (pv 2) gb (λ_ _=>rfl)) fM)))))))) gd) (fL (gJ (gg iY (pv 1) (fR T.uj) (gm _)) (fO (fW (fU PN (hr.mono (by decide)) rfl (fY (pv 0) (fY (gP gv (pv 2) gb (λ_ _=>rfl)) (fY (gP gv (pv 2) gb (λ_ _=>rfl)) (fY (gP gv (pv 2) gb (λ_ _=>rfl)) fM))))))) gd) (fL (gJ (gg iY (pv 1) (fR T.ro) (gm _)) (fO (fW (fU M5 (hr.mono (by decide)) rfl (fY (pv 0) (fY (gP gv (pv 2) gb (λ_ _=>rfl)) (fY (gP gv (pv 2) gb (λ_ _=>rfl)) (fY (gP gv (pv 2) gb (λ_ _=>rfl)) (fY (gP gv (pv 3) gb (λ_ _=>rfl)) (fY (gP gv (pv 3) gb (λ_ _=>rfl)) fM))))))))) gd) (fL (gJ (gg iY (pv 1) (fR T.xg) (gm _)) (fO (fW (fU Sk (hr.mono (by decide)) rfl (fY (pv 0) (fY (gP gv (pv 2) gb (λ_ _=>rfl)) (fY (gP gv (pv 2) gb (λ_ _=>rfl)) (fY (gP gv (pv 3) gb (λ_ _=>rfl)) fM))))))) gd) (fO (fW (fU Sl (hr.mono (by decide)) rfl (fY (pv 0) (fY (pv 1) (fY (pv 2) fM))))))))))))))))),?_⟩
 obtain ⟨L,s,p,a,b,plain,ws,rows,rfl,R,I,D,hp,h1,h2,ha,hb,hw,h3,h4,q⟩:=h
 match p,hp with
 |0,_=>
  obtain ⟨x0,rfl⟩:=pF (Option.some.inj h1).symm
  have h3:(gT j4 x0&&true)=true:=h3
  rw [aY] at h3
  obtain ⟨x0,rfl,l0,u0⟩:=ib h3 (by decide)
  refine (be rfl rfl ⟨_,rfl,bm rfl (gE.of ha) rfl ⟨L,s,x0,rfl,R,I,q⟩⟩)
 |1,_=>
  obtain ⟨x0,x1,rfl⟩:=tp (Option.some.inj h1).symm
  have h3:(gT qH x0&&(gT qH x1&&true))=true:=h3
  rw [aY,aj] at h3
  obtain ⟨x0,rfl,l0,u0⟩:=ib h3.1 (by decide)
  obtain ⟨x1,rfl,l1,u1⟩:=ib h3.2 (by decide)
  refine (bd rfl rfl (be rfl rfl ⟨_,rfl,bm rfl (gE.of ha) rfl (bm rfl (gE.of ha) rfl ⟨L,s,x0,x1,rfl,R,I,?_,?_,q⟩)⟩))
  ·have:(1:Int)≤x0:=l0
   omega
  ·have:(x1:Int)≤999999999:=u1
   omega
 |2,_=>
  obtain ⟨x0,x1,rfl⟩:=tp (Option.some.inj h1).symm
  have h3:(gT Pa x0&&(gT j4 x1&&true))=true:=h3
  rw [aY,aj] at h3
  obtain ⟨x0,rfl,l0,u0⟩:=ib h3.1 (by decide)
  obtain ⟨x1,rfl,l1,u1⟩:=ib h3.2 (by decide)
  obtain ⟨r0,r1,rfl⟩:=tp (Option.some.inj h2).symm
  have h4:(ie 0 r0&&(ie 2 r1&&true))=true:=h4
  rw [aY,aj] at h4
  have lw:ws.length=2:=Paired.length hw
  obtain ⟨w0,w1,rfl⟩:=tp lw
  obtain ⟨_,e0,y0,rfl,o0,g0⟩:=gK hw (i:=0) rfl
  have e0:=Option.some.inj e0
  subst e0
  obtain ⟨_,e1,y1,rfl,o1,g1⟩:=gK hw (i:=1) rfl
  have e1:=Option.some.inj e1
  subst e1
  obtain ⟨c1,c2,c3⟩:=zI h4.2
  refine (bd rfl rfl (bd rfl rfl (be rfl rfl ⟨_,rfl,bm rfl (gE.of ha) rfl (bm rfl (gE.of ha) rfl (bm rfl (gE.of hb) rfl (bm rfl (gE.of hb) rfl ⟨L,s,x0,x1,y0,y1,r0,r1.map cC,rfl,R,I,g0,h4.1,by rw [c1];exact g1,o1,c2,c3,q⟩)))⟩)))
 |3,_=>
  obtain ⟨x0,rfl⟩:=pF (Option.some.inj h1).symm
  have h3:(gT gQ x0&&true)=true:=h3
  rw [aY] at h3
  obtain ⟨x0,rfl,l0,u0⟩:=ib h3 (by decide)
  refine (bd rfl rfl (bd rfl rfl (bd rfl rfl (be rfl rfl ⟨_,rfl,bm rfl (gE.of ha) rfl ⟨L,s,x0,rfl,R,I,D,q⟩⟩))))
 |4,_=>
  obtain ⟨x0,x1,x2,x3,rfl⟩:=Pb (Option.some.inj h1).symm
  have h3:(gT F8 x0&&(gT mi x1&&(gT gQ x2&&(gT je x3&&true))))=true:=h3
  rw [aY,aj,aj,aj] at h3
  obtain ⟨x0,rfl,l0,u0⟩:=ib h3.1 (by decide)
  obtain ⟨x1,rfl,l1,u1⟩:=ib h3.2.1 (by decide)
  obtain ⟨x2,rfl,l2,u2⟩:=ib h3.2.2.1 (by decide)
  obtain ⟨x3,rfl,l3,u3⟩:=ib h3.2.2.2 (by decide)
  refine (bd rfl rfl (bd rfl rfl (bd rfl rfl (bd rfl rfl (be rfl rfl ⟨_,rfl,bm rfl (gE.of ha) rfl (bm rfl (gE.of ha) rfl (bm rfl (gE.of ha) rfl (bm rfl (gE.of ha) rfl ⟨L,s,x0,x1,x2,x3,rfl,R,I,?_,?_,q⟩)))⟩)))))
  ·have:(1:Int)≤x0:=l0
   omega
  ·have:(x0:Int)≤6:=u0
   omega
 |5,_=>
  obtain ⟨x0,x1,x2,rfl⟩:=vE (Option.some.inj h1).symm
  have h3:(gT mi x0&&(gT nG x1&&(gT j4 x2&&true)))=true:=h3
  rw [aY,aj,aj] at h3
  obtain ⟨x0,rfl,l0,u0⟩:=ib h3.1 (by decide)
  obtain ⟨x1,rfl,l1,u1⟩:=ib h3.2.1 (by decide)
  obtain ⟨x2,rfl,l2,u2⟩:=ib h3.2.2 (by decide)
  refine (bd rfl rfl (bd rfl rfl (bd rfl rfl (bd rfl rfl (bd rfl rfl (be rfl rfl ⟨_,rfl,bm rfl (gE.of ha) rfl (bm rfl (gE.of ha) rfl (bm rfl (gE.of ha) rfl ⟨L,s,x0,x1,x2,rfl,R,I,q⟩))⟩))))))
 |6,_=>
  obtain ⟨x0,x1,x2,rfl⟩:=vE (Option.some.inj h1).symm
  have h3:(gT mi x0&&(gT nG x1&&(gT j4 x2&&true)))=true:=h3
  rw [aY,aj,aj] at h3
  obtain ⟨x0,rfl,l0,u0⟩:=ib h3.1 (by decide)
  obtain ⟨x1,rfl,l1,u1⟩:=ib h3.2.1 (by decide)
  obtain ⟨x2,rfl,l2,u2⟩:=ib h3.2.2 (by decide)
  refine (bd rfl rfl (bd rfl rfl (bd rfl rfl (bd rfl rfl (bd rfl rfl (bd rfl rfl (be rfl rfl ⟨_,rfl,bm rfl (gE.of ha) rfl (bm rfl (gE.of ha) rfl (bm rfl (gE.of ha) rfl ⟨L,s,x0,x1,x2,rfl,R,I,q⟩))⟩)))))))
 |7,_=>
  obtain ⟨x0,x1,x2,x3,rfl⟩:=Pb (Option.some.inj h1).symm
  have h3:(gT gQ x0&&(gT je x1&&(gT nG x2&&(gT j4 x3&&true))))=true:=h3
  rw [aY,aj,aj,aj] at h3
  obtain ⟨x0,rfl,l0,u0⟩:=ib h3.1 (by decide)
  obtain ⟨x1,rfl,l1,u1⟩:=ib h3.2.1 (by decide)
  obtain ⟨x2,rfl,l2,u2⟩:=ib h3.2.2.1 (by decide)
  obtain ⟨x3,rfl,l3,u3⟩:=ib h3.2.2.2 (by decide)
  refine (bd rfl rfl (bd rfl rfl (bd rfl rfl (bd rfl rfl (bd rfl rfl (bd rfl rfl (bd rfl rfl (be rfl rfl ⟨_,rfl,bm rfl (gE.of ha) rfl (bm rfl (gE.of ha) rfl (bm rfl (gE.of ha) rfl (bm rfl (gE.of ha) rfl ⟨L,s,x0,x1,x2,x3,rfl,R,I,q⟩)))⟩))))))))
 |8,_=>
  obtain ⟨x0,x1,x2,rfl⟩:=vE (Option.some.inj h1).symm
  have h3:(gT gQ x0&&(gT je x1&&(gT uh x2&&true)))=true:=h3
  rw [aY,aj,aj] at h3
  obtain ⟨x0,rfl,l0,u0⟩:=ib h3.1 (by decide)
  obtain ⟨x1,rfl,l1,u1⟩:=ib h3.2.1 (by decide)
  obtain ⟨x2,rfl,l2,u2⟩:=ib h3.2.2 (by decide)
  refine (bd rfl rfl (bd rfl rfl (bd rfl rfl (bd rfl rfl (bd rfl rfl (bd rfl rfl (bd rfl rfl (bd rfl rfl (be rfl rfl ⟨_,rfl,bm rfl (gE.of ha) rfl (bm rfl (gE.of ha) rfl (bm rfl (gE.of ha) rfl ⟨L,s,x0,x1,x2,rfl,R,I,q⟩))⟩)))))))))
 |9,_=>
  obtain ⟨x0,x1,x2,rfl⟩:=vE (Option.some.inj h1).symm
  have h3:(gT kb x0&&(gT F9 x1&&(gT j4 x2&&true)))=true:=h3
  rw [aY,aj,aj] at h3
  obtain ⟨x0,rfl,l0,u0⟩:=ib h3.1 (by decide)
  obtain ⟨x1,rfl,l1,u1⟩:=ib h3.2.1 (by decide)
  obtain ⟨x2,rfl,l2,u2⟩:=ib h3.2.2 (by decide)
  obtain ⟨r0,r1,rfl⟩:=tp (Option.some.inj h2).symm
  have h4:(ie 1 r0&&(ie 0 r1&&true))=true:=h4
  rw [aY,aj] at h4
  have lw:ws.length=2:=Paired.length hw
  obtain ⟨w0,w1,rfl⟩:=tp lw
  obtain ⟨_,e0,y0,rfl,o0,g0⟩:=gK hw (i:=0) rfl
  have e0:=Option.some.inj e0
  subst e0
  obtain ⟨_,e1,y1,rfl,o1,g1⟩:=gK hw (i:=1) rfl
  have e1:=Option.some.inj e1
  subst e1
  refine (bd rfl rfl (bd rfl rfl (bd rfl rfl (bd rfl rfl (bd rfl rfl (bd rfl rfl (bd rfl rfl (bd rfl rfl (bd rfl rfl (be rfl rfl ⟨_,rfl,bm rfl (gE.of ha) rfl (bm rfl (gE.of ha) rfl (bm rfl (gE.of ha) rfl (bm rfl (gE.of hb) rfl (bm rfl (gE.of hb) rfl ⟨L,s,x0,x1,x2,y0,y1,r0,r1,rfl,R,I,?_,g0,h4.1,g1,h4.2,q⟩))))⟩))))))))))
  ·have:(x1:Int)≤2:=u1
   omega
 |10,_=>
  obtain ⟨x0,x1,rfl⟩:=tp (Option.some.inj h1).symm
  have h3:(gT gQ x0&&(gT kb x1&&true))=true:=h3
  rw [aY,aj] at h3
  obtain ⟨x0,rfl,l0,u0⟩:=ib h3.1 (by decide)
  obtain ⟨x1,rfl,l1,u1⟩:=ib h3.2 (by decide)
  obtain ⟨r0,rfl⟩:=pF (Option.some.inj h2).symm
  have h4:(ie 3 r0&&true)=true:=h4
  rw [aY] at h4
  have lw:ws.length=1:=Paired.length hw
  obtain ⟨w0,rfl⟩:=pF lw
  obtain ⟨_,e0,y0,rfl,o0,g0⟩:=gK hw (i:=0) rfl
  have e0:=Option.some.inj e0
  subst e0
  obtain ⟨c1,c2⟩:=M1 h4
  refine (bd rfl rfl (bd rfl rfl (bd rfl rfl (bd rfl rfl (bd rfl rfl (bd rfl rfl (bd rfl rfl (bd rfl rfl (bd rfl rfl (bd rfl rfl (be rfl rfl ⟨_,rfl,bm rfl (gE.of ha) rfl (bm rfl (gE.of ha) rfl (bm rfl (gE.of hb) rfl ⟨L,s,x0,x1,y0,r0.map cC,rfl,R,I,by rw [c1];exact g0,c2,q⟩))⟩)))))))))))
 |11,_=>exact (bd rfl rfl (bd rfl rfl (bd rfl rfl (bd rfl rfl (bd rfl rfl (bd rfl rfl (bd rfl rfl (bd rfl rfl (bd rfl rfl (bd rfl rfl (bd rfl rfl ⟨_,rfl,_,rfl,_,rfl,L,s,11,a,plain,rfl,R,I,by decide,by decide,h1,ha,h3,by have e:=len0 (Option.some.inj h2).symm;subst e;exact q⟩)))))))))))
 |12,_=>exact (bd rfl rfl (bd rfl rfl (bd rfl rfl (bd rfl rfl (bd rfl rfl (bd rfl rfl (bd rfl rfl (bd rfl rfl (bd rfl rfl (bd rfl rfl (bd rfl rfl ⟨_,rfl,_,rfl,_,rfl,L,s,12,a,plain,rfl,R,I,by decide,by decide,h1,ha,h3,by have e:=len0 (Option.some.inj h2).symm;subst e;exact q⟩)))))))))))
 |13,_=>exact (bd rfl rfl (bd rfl rfl (bd rfl rfl (bd rfl rfl (bd rfl rfl (bd rfl rfl (bd rfl rfl (bd rfl rfl (bd rfl rfl (bd rfl rfl (bd rfl rfl ⟨_,rfl,_,rfl,_,rfl,L,s,13,a,plain,rfl,R,I,by decide,by decide,h1,ha,h3,by have e:=len0 (Option.some.inj h2).symm;subst e;exact q⟩)))))))))))
 |14,_=>exact (bd rfl rfl (bd rfl rfl (bd rfl rfl (bd rfl rfl (bd rfl rfl (bd rfl rfl (bd rfl rfl (bd rfl rfl (bd rfl rfl (bd rfl rfl (bd rfl rfl ⟨_,rfl,_,rfl,_,rfl,L,s,14,a,plain,rfl,R,I,by decide,by decide,h1,ha,h3,by have e:=len0 (Option.some.inj h2).symm;subst e;exact q⟩)))))))))))
 |15,_=>exact (bd rfl rfl (bd rfl rfl (bd rfl rfl (bd rfl rfl (bd rfl rfl (bd rfl rfl (bd rfl rfl (bd rfl rfl (bd rfl rfl (bd rfl rfl (bd rfl rfl ⟨_,rfl,_,rfl,_,rfl,L,s,15,a,plain,rfl,R,I,by decide,by decide,h1,ha,h3,by have e:=len0 (Option.some.inj h2).symm;subst e;exact q⟩)))))))))))
 |16,_=>exact (bd rfl rfl (bd rfl rfl (bd rfl rfl (bd rfl rfl (bd rfl rfl (bd rfl rfl (bd rfl rfl (bd rfl rfl (bd rfl rfl (bd rfl rfl (bd rfl rfl ⟨_,rfl,_,rfl,_,rfl,L,s,16,a,plain,rfl,R,I,by decide,by decide,h1,ha,h3,by have e:=len0 (Option.some.inj h2).symm;subst e;exact q⟩)))))))))))
 |17,_=>exact (bd rfl rfl (bd rfl rfl (bd rfl rfl (bd rfl rfl (bd rfl rfl (bd rfl rfl (bd rfl rfl (bd rfl rfl (bd rfl rfl (bd rfl rfl (bd rfl rfl ⟨_,rfl,_,rfl,_,rfl,L,s,17,a,plain,rfl,R,I,by decide,by decide,h1,ha,h3,by have e:=len0 (Option.some.inj h2).symm;subst e;exact q⟩)))))))))))
 |n+18,hp=>omega
def aaP (d:Ad) (H:Hp) (L:Ly) (s:gA) (c:List (List Int)) (Q:VK):Prop:=∀H' L' p,L'.a .hs=L.a .hs→Rep d H' L' (aV s c).1→gy d H L s H' L' (aV s c).1→(∀b o,H b=some o→Out d L s b→b≠p)→H' p=some (.lst (vI (aV s c).2))→Q (.ref p) H'
def HI (d:Ad):Sp:=λvs H Q _=>∃(L:Ly) (s:gA) (p:Nat) (a b:Addr) (plain:List Int) (ws:List V) (rows:List (List Int)),vs=[.ref (L.a .hs),vN p,.ref a,.ref b]∧Rep d H L s∧gN s∧rL s∧p<18∧N0[p]?=some plain.length∧N3[p]?=some rows.length∧H a=some (.lst (vI plain))∧H b=some (.lst ws)∧
 mz (λx=>Out d L s x) H ws rows∧(∀r∈rows,r.length≤40)∧aaP d H L s (((p:Int)::plain)::rows) Q
def DY (d:Ad):Sp:=λvs H Q _=>∃(x dx:Addr),vs=[.ref x]∧H x=some (.ins d.fP dx [])∧
 ∀H' L,L.a .hs=x→Rep d H' L cS→(∀b o,H b=some o→b≠x→H' b=some o∧Out d L cS b)→Q .mH H'
def rP (K:ab):Sp:=λvs H Q _=>∃(a:Addr) (l:List Int) (cs:List (List (List Int))),vs=[.ref a]∧gE K H a (vI l)∧l.length≤24000∧cq bz l.length l=some cs∧cs.length≤400∧(∀c∈cs,∀r∈c,r.length≤40)∧
 ∀H' p,H' p=some (.lst (vI (dn (eU aV cS cs))))→Q (.ref p) H'
abbrev zJ (P w K mg base) (d:Ad):=Fd P w K mg base 8 "answer_to" ["house","place","plain","rows"] (HI d)
theorem HJ (T:Txt P w K mg d) (Ca:tI P w K mg base d) (PQ:GD P w K mg base d) (G:FG K mg "answer_to" (top 134)):zJ P w K mg base d:=by
 have S:gf ["house","place","plain","rows"] ["house","place","plain","rows"] (fS (top 134)):=lu
 refine G.fd S (λ_ _ _ _ _ _=>Vn fun _ _ _ _=>rfl) fun _ _ _ _ _ H vs Q E hr h=>⟨_,(fL (gJ (oT (jn (fU Ca (hr.mono (by decide)) rfl (fY (pv 1) (fY (pv 2) (fY (pv 3) fM)))))) (fO (fW (gG (fY (fR T.mn) fM)))) gd) (fO (fW (fU PQ (hr.mono (by decide)) rfl (fY (pv 0) (fY (pv 1) (fY (pv 2) (fY (pv 3) fM)))))))),?_⟩
 obtain ⟨L,s,p,a,b,plain,ws,rows,rfl,R,I,D,hp,h1,h2,ha,hb,hw,h40,q⟩:=h
 have Vy:=J9 (a:=plain) (rs:=rows) hp h1 h2
 refine (U rfl (U rfl (U rfl ⟨p,a,b,plain,ws,rows,rfl,hp,h1,h2,ha,hb,jf (λv r ⟨x,e1,_,e3⟩=>⟨x,e1,trivial,e3⟩) hw,h40,λH1 s1=>⟨_,rfl,?_⟩⟩)))
 unfold told at Vy
 have zr:aV s (((p:Int)::plain)::rows)=match (if (iu p plain&&jA p rows)=true then Vbahah.Reading.call (yF p plain rows) else .range) with
  |.form=>(s,[-1])
  |.range=>(s,[-2])
  |.call c=>aq s c:=by
  unfold aV
  rw [Vy]
  rfl
 cases iR:iu p plain&&jA p rows with
 |false=>
  rw [iR,if_neg (by decide)] at zr
  dsimp only at zr
  refine gR ⟨by show 1≤sizeLine;decide,λg hg=>?_⟩
  have sg:=f9 (o:=HO.lst [.int (-2)]) hg
  refine q _ L g rfl ?_ ?_ (λb o hb _=>f6 (s1 _ _ hb) hg) ?_
  ·rw [zr]
   exact (R.same s1).same sg
  ·rw [zr]
   exact gy.same (s1.trans sg)
  ·rw [zr,fN]
   rfl
 |true=>
  rw [iR,if_pos rfl] at zr
  dsimp only at zr
  rw [aj] at iR
  refine f7 (U rfl (U rfl (U rfl (U rfl ⟨L,s,p,a,b,plain,ws,rows,rfl,R.same s1,I,D,hp,h1,h2,s1 _ _ ha,s1 _ _ hb,mz.same s1 hw,iR.1,iR.2,λH2 L2 g hL R2 k2 fr hg=>?_⟩))))
  rw [←zr] at R2 k2 hg
  exact q H2 L2 g hL R2 ((gy.same s1).trans k2) (λb o hb ho=>fr b o (s1 _ _ hb) ho) hg
abbrev xW (P w K mg base) (d:Ad):=Cd P w K mg base 1 d.fP "House" ["self"] (DY d)
theorem DZ (T:Txt P w K mg d) (G:CG K mg d.fP "House" "House.__init__" (inClass (top 45) 0)):xW P w K mg base d:=by
 have S:gf ["self"] ["self"] (fS (inClass (top 45) 0)):=lu
 refine G.cd S (λ_ _ _ _ _ _=>Dl fun _=>rfl) fun _ _ _ _ _ H vs Q E hr h=>⟨_,(fL (iT T.fP T.iq (pv 0) gb) (fL (iT T.fP T.i5 (pv 0) (gG fM)) (fL (iT T.fP T.gW (pv 0) (gG fM)) (fL (iT T.fP T.gM (pv 0) QP) (fL (iT T.fP T.gB (pv 0) (gG fM)) (fL (iT T.fP T.jt (pv 0) QQ) (fL (iT T.fP T.iM (pv 0) gb) (fL (iT T.fP T.ig (pv 0) gb) (fO (iT T.fP T.iH (pv 0) gb)))))))))),?_⟩
 obtain ⟨x,dx,rfl,hx,q⟩:=h
 have fr:∀{G:Hp} {a b:Addr} {o:HO},upd G a o b=Option.none→b≠a∧G b=Option.none:=λ{G a b o} h=>by
  by_cases e:b=a
  ·subst e
   rw [fN] at h
   cases h
  ·rw [fZ e] at h
   exact ⟨e,h⟩
 refine (U rfl ⟨x,dx,_,rfl,hx,(by show 0<1000;decide),?_⟩)
 have k0:∀b o,H b=some o→b≠x→upd H x (.ins d.fP dx (gh "today" (.int 0) [])) b=some o:=λb o e h=>by
  rw [fZ h]
  exact e
 have f0:∀b,upd H x (.ins d.fP dx (gh "today" (.int 0) [])) b=Option.none→H b=Option.none:=λb h=>(fr h).2
 have x0:upd H x (.ins d.fP dx (gh "today" (.int 0) [])) x=some _:=fN
 generalize upd H x (.ins d.fP dx (gh "today" (.int 0) []))=E0 at k0 f0 x0 ⊢
 refine ⟨aK _,λp1 n1=>(U rfl ⟨x,dx,_,rfl,(by rw [fZ (f6 x0 n1)];exact x0),(by show 1<1000;decide),?_⟩)⟩
 have d1:x≠p1:=f6 x0 n1
 have m1:H p1=Option.none:=f0 p1 n1
 have k1:∀b o,H b=some o→b≠x→upd (upd E0 p1 (.lst [])) x (.ins d.fP dx (gh "ranges" (.ref p1) (gh "today" (.int 0) []))) b=some o:=λb o e h=>by
  rw [fZ h,fZ (f6 e m1)]
  exact k0 b o e h
 have f1:∀b,upd (upd E0 p1 (.lst [])) x (.ins d.fP dx (gh "ranges" (.ref p1) (gh "today" (.int 0) []))) b=Option.none→H b=Option.none:=λb h=>f0 b (fr (fr h).2).2
 have x1:upd (upd E0 p1 (.lst [])) x (.ins d.fP dx (gh "ranges" (.ref p1) (gh "today" (.int 0) []))) x=some _:=fN
 have Xb:upd (upd E0 p1 (.lst [])) x (.ins d.fP dx (gh "ranges" (.ref p1) (gh "today" (.int 0) []))) p1=some (.lst []):=by
  rw [fZ d1.symm,fN]
 generalize upd (upd E0 p1 (.lst [])) x (.ins d.fP dx (gh "ranges" (.ref p1) (gh "today" (.int 0) [])))=E1 at k1 f1 x1 Xb ⊢
 refine ⟨aK _,λp2 n2=>(U rfl ⟨x,dx,_,rfl,(by rw [fZ (f6 x1 n2)];exact x1),(by show 2<1000;decide),?_⟩)⟩
 have d2:x≠p2:=f6 x1 n2
 have m2:H p2=Option.none:=f1 p2 n2
 have k2:∀b o,H b=some o→b≠x→upd (upd E1 p2 (.lst [])) x (.ins d.fP dx (gh "tickets" (.ref p2) (gh "ranges" (.ref p1) (gh "today" (.int 0) [])))) b=some o:=λb o e h=>by
  rw [fZ h,fZ (f6 e m2)]
  exact k1 b o e h
 have f2:∀b,upd (upd E1 p2 (.lst [])) x (.ins d.fP dx (gh "tickets" (.ref p2) (gh "ranges" (.ref p1) (gh "today" (.int 0) [])))) b=Option.none→H b=Option.none:=λb h=>f1 b (fr (fr h).2).2
 have x2:upd (upd E1 p2 (.lst [])) x (.ins d.fP dx (gh "tickets" (.ref p2) (gh "ranges" (.ref p1) (gh "today" (.int 0) [])))) x=some _:=fN
 have Xc:upd (upd E1 p2 (.lst [])) x (.ins d.fP dx (gh "tickets" (.ref p2) (gh "ranges" (.ref p1) (gh "today" (.int 0) [])))) p2=some (.lst []):=by
  rw [fZ d2.symm,fN]
 have Xd:p1≠p2:=f6 Xb n2
 have Xe:upd (upd E1 p2 (.lst [])) x (.ins d.fP dx (gh "tickets" (.ref p2) (gh "ranges" (.ref p1) (gh "today" (.int 0) [])))) p1=some (.lst []):=by
  rw [fZ d1.symm,fZ Xd]
  exact Xb
 generalize upd (upd E1 p2 (.lst [])) x (.ins d.fP dx (gh "tickets" (.ref p2) (gh "ranges" (.ref p1) (gh "today" (.int 0) []))))=E2 at k2 f2 x2 Xe Xc ⊢
 refine fun p3 n3=>(U rfl ⟨x,dx,_,rfl,(by rw [fZ (f6 x2 n3)];exact x2),(by show 3<1000;decide),?_⟩)
 have d3:x≠p3:=f6 x2 n3
 have m3:H p3=Option.none:=f2 p3 n3
 have k3:∀b o,H b=some o→b≠x→upd (upd E2 p3 (.dK [])) x (.ins d.fP dx (gh "ticket_of" (.ref p3) (gh "tickets" (.ref p2) (gh "ranges" (.ref p1) (gh "today" (.int 0) []))))) b=some o:=λb o e h=>by
  rw [fZ h,fZ (f6 e m3)]
  exact k2 b o e h
 have f3:∀b,upd (upd E2 p3 (.dK [])) x (.ins d.fP dx (gh "ticket_of" (.ref p3) (gh "tickets" (.ref p2) (gh "ranges" (.ref p1) (gh "today" (.int 0) []))))) b=Option.none→H b=Option.none:=λb h=>f2 b (fr (fr h).2).2
 have x3:upd (upd E2 p3 (.dK [])) x (.ins d.fP dx (gh "ticket_of" (.ref p3) (gh "tickets" (.ref p2) (gh "ranges" (.ref p1) (gh "today" (.int 0) []))))) x=some _:=fN
 have Xf:upd (upd E2 p3 (.dK [])) x (.ins d.fP dx (gh "ticket_of" (.ref p3) (gh "tickets" (.ref p2) (gh "ranges" (.ref p1) (gh "today" (.int 0) []))))) p3=some (.dK []):=by
  rw [fZ d3.symm,fN]
 have Xg:p1≠p3:=f6 Xe n3
 have Xh:upd (upd E2 p3 (.dK [])) x (.ins d.fP dx (gh "ticket_of" (.ref p3) (gh "tickets" (.ref p2) (gh "ranges" (.ref p1) (gh "today" (.int 0) []))))) p1=some (.lst []):=by
  rw [fZ d1.symm,fZ Xg]
  exact Xe
 have Xi:p2≠p3:=f6 Xc n3
 have Xj:upd (upd E2 p3 (.dK [])) x (.ins d.fP dx (gh "ticket_of" (.ref p3) (gh "tickets" (.ref p2) (gh "ranges" (.ref p1) (gh "today" (.int 0) []))))) p2=some (.lst []):=by
  rw [fZ d2.symm,fZ Xi]
  exact Xc
 generalize upd (upd E2 p3 (.dK [])) x (.ins d.fP dx (gh "ticket_of" (.ref p3) (gh "tickets" (.ref p2) (gh "ranges" (.ref p1) (gh "today" (.int 0) [])))))=E3 at k3 f3 x3 Xh Xj Xf ⊢
 refine ⟨aK _,λp4 n4=>(U rfl ⟨x,dx,_,rfl,(by rw [fZ (f6 x3 n4)];exact x3),(by show 4<1000;decide),?_⟩)⟩
 have d4:x≠p4:=f6 x3 n4
 have m4:H p4=Option.none:=f3 p4 n4
 have k4:∀b o,H b=some o→b≠x→upd (upd E3 p4 (.lst [])) x (.ins d.fP dx (gh "credit_table" (.ref p4) (gh "ticket_of" (.ref p3) (gh "tickets" (.ref p2) (gh "ranges" (.ref p1) (gh "today" (.int 0) [])))))) b=some o:=λb o e h=>by
  rw [fZ h,fZ (f6 e m4)]
  exact k3 b o e h
 have f4:∀b,upd (upd E3 p4 (.lst [])) x (.ins d.fP dx (gh "credit_table" (.ref p4) (gh "ticket_of" (.ref p3) (gh "tickets" (.ref p2) (gh "ranges" (.ref p1) (gh "today" (.int 0) [])))))) b=Option.none→H b=Option.none:=λb h=>f3 b (fr (fr h).2).2
 have x4:upd (upd E3 p4 (.lst [])) x (.ins d.fP dx (gh "credit_table" (.ref p4) (gh "ticket_of" (.ref p3) (gh "tickets" (.ref p2) (gh "ranges" (.ref p1) (gh "today" (.int 0) [])))))) x=some _:=fN
 have Xk:upd (upd E3 p4 (.lst [])) x (.ins d.fP dx (gh "credit_table" (.ref p4) (gh "ticket_of" (.ref p3) (gh "tickets" (.ref p2) (gh "ranges" (.ref p1) (gh "today" (.int 0) [])))))) p4=some (.lst []):=by
  rw [fZ d4.symm,fN]
 have Xl:p1≠p4:=f6 Xh n4
 have Xm:upd (upd E3 p4 (.lst [])) x (.ins d.fP dx (gh "credit_table" (.ref p4) (gh "ticket_of" (.ref p3) (gh "tickets" (.ref p2) (gh "ranges" (.ref p1) (gh "today" (.int 0) [])))))) p1=some (.lst []):=by
  rw [fZ d1.symm,fZ Xl]
  exact Xh
 have Xn:p2≠p4:=f6 Xj n4
 have Xo:upd (upd E3 p4 (.lst [])) x (.ins d.fP dx (gh "credit_table" (.ref p4) (gh "ticket_of" (.ref p3) (gh "tickets" (.ref p2) (gh "ranges" (.ref p1) (gh "today" (.int 0) [])))))) p2=some (.lst []):=by
  rw [fZ d2.symm,fZ Xn]
  exact Xj
 have Xp:p3≠p4:=f6 Xf n4
 have Xq:upd (upd E3 p4 (.lst [])) x (.ins d.fP dx (gh "credit_table" (.ref p4) (gh "ticket_of" (.ref p3) (gh "tickets" (.ref p2) (gh "ranges" (.ref p1) (gh "today" (.int 0) [])))))) p3=some (.dK []):=by
  rw [fZ d3.symm,fZ Xp]
  exact Xf
 generalize upd (upd E3 p4 (.lst [])) x (.ins d.fP dx (gh "credit_table" (.ref p4) (gh "ticket_of" (.ref p3) (gh "tickets" (.ref p2) (gh "ranges" (.ref p1) (gh "today" (.int 0) []))))))=E4 at k4 f4 x4 Xm Xo Xq Xk ⊢
 refine fun p5 n5=>(U rfl ⟨x,dx,_,rfl,(by rw [fZ (f6 x4 n5)];exact x4),(by show 5<1000;decide),?_⟩)
 have d5:x≠p5:=f6 x4 n5
 have m5:H p5=Option.none:=f4 p5 n5
 have k5:∀b o,H b=some o→b≠x→upd (upd E4 p5 (.dT [])) x (.ins d.fP dx (gh "gone" (.ref p5) (gh "credit_table" (.ref p4) (gh "ticket_of" (.ref p3) (gh "tickets" (.ref p2) (gh "ranges" (.ref p1) (gh "today" (.int 0) []))))))) b=some o:=λb o e h=>by
  rw [fZ h,fZ (f6 e m5)]
  exact k4 b o e h
 have f5:∀b,upd (upd E4 p5 (.dT [])) x (.ins d.fP dx (gh "gone" (.ref p5) (gh "credit_table" (.ref p4) (gh "ticket_of" (.ref p3) (gh "tickets" (.ref p2) (gh "ranges" (.ref p1) (gh "today" (.int 0) []))))))) b=Option.none→H b=Option.none:=λb h=>f4 b (fr (fr h).2).2
 have x5:upd (upd E4 p5 (.dT [])) x (.ins d.fP dx (gh "gone" (.ref p5) (gh "credit_table" (.ref p4) (gh "ticket_of" (.ref p3) (gh "tickets" (.ref p2) (gh "ranges" (.ref p1) (gh "today" (.int 0) []))))))) x=some _:=fN
 have ZV:upd (upd E4 p5 (.dT [])) x (.ins d.fP dx (gh "gone" (.ref p5) (gh "credit_table" (.ref p4) (gh "ticket_of" (.ref p3) (gh "tickets" (.ref p2) (gh "ranges" (.ref p1) (gh "today" (.int 0) []))))))) p5=some (.dT []):=by
  rw [fZ d5.symm,fN]
 have Xr:p1≠p5:=f6 Xm n5
 have ZW:upd (upd E4 p5 (.dT [])) x (.ins d.fP dx (gh "gone" (.ref p5) (gh "credit_table" (.ref p4) (gh "ticket_of" (.ref p3) (gh "tickets" (.ref p2) (gh "ranges" (.ref p1) (gh "today" (.int 0) []))))))) p1=some (.lst []):=by
  rw [fZ d1.symm,fZ Xr]
  exact Xm
 have Xs:p2≠p5:=f6 Xo n5
 have ZX:upd (upd E4 p5 (.dT [])) x (.ins d.fP dx (gh "gone" (.ref p5) (gh "credit_table" (.ref p4) (gh "ticket_of" (.ref p3) (gh "tickets" (.ref p2) (gh "ranges" (.ref p1) (gh "today" (.int 0) []))))))) p2=some (.lst []):=by
  rw [fZ d2.symm,fZ Xs]
  exact Xo
 have Xt:p3≠p5:=f6 Xq n5
 have ZY:upd (upd E4 p5 (.dT [])) x (.ins d.fP dx (gh "gone" (.ref p5) (gh "credit_table" (.ref p4) (gh "ticket_of" (.ref p3) (gh "tickets" (.ref p2) (gh "ranges" (.ref p1) (gh "today" (.int 0) []))))))) p3=some (.dK []):=by
  rw [fZ d3.symm,fZ Xt]
  exact Xq
 have Xu:p4≠p5:=f6 Xk n5
 have ZZ:upd (upd E4 p5 (.dT [])) x (.ins d.fP dx (gh "gone" (.ref p5) (gh "credit_table" (.ref p4) (gh "ticket_of" (.ref p3) (gh "tickets" (.ref p2) (gh "ranges" (.ref p1) (gh "today" (.int 0) []))))))) p4=some (.lst []):=by
  rw [fZ d4.symm,fZ Xu]
  exact Xk
 generalize upd (upd E4 p5 (.dT [])) x (.ins d.fP dx (gh "gone" (.ref p5) (gh "credit_table" (.ref p4) (gh "ticket_of" (.ref p3) (gh "tickets" (.ref p2) (gh "ranges" (.ref p1) (gh "today" (.int 0) [])))))))=E5 at k5 f5 x5 ZW ZX ZY ZZ ZV ⊢
 refine (U rfl ⟨x,dx,_,rfl,x5,(by show 6<1000;decide),?_⟩)
 refine (U rfl ⟨x,dx,_,rfl,fN,(by show 7<1000;decide),?_⟩)
 refine (U rfl ⟨x,dx,_,rfl,fN,(by show 8<1000;decide),?_⟩)
 rw [ir,ir]
 refine q _ { x:=λ_=>dx,a:=(λm=>match m with
  |.hs=>x
  |.rg=>p1
  |.tk=>p2
  |.tf=>p3
  |.ct=>p4
  |.gn=>p5
  |_=>0) } rfl ⟨λn o e=>?_,λn m o o' e e' h=>?_⟩ fun b o e h=>⟨by rw [fZ h];exact k5 b o e h,λn o' e' z=>?_⟩
 ·cases n with
  |hs=>
   rw [←e]
   exact fN
  |rg=>
   rw [←e]
   exact (fZ d1.symm).trans ZW
  |tk=>
   rw [←e]
   exact (fZ d2.symm).trans ZX
  |tf=>
   rw [←e]
   exact (fZ d3.symm).trans ZY
  |ct=>
   rw [←e]
   exact (fZ d4.symm).trans ZZ
  |gn=>
   rw [←e]
   exact (fZ d5.symm).trans ZV
  |_=>cases e
 ·cases n<;>cases m<;>first
   |rfl
   |(cases e;done)
   |(cases e';done)
   |exact absurd h d1
   |exact absurd h d2
   |exact absurd h d3
   |exact absurd h d4
   |exact absurd h d5
   |exact absurd h d1.symm
   |exact absurd h d2.symm
   |exact absurd h d3.symm
   |exact absurd h d4.symm
   |exact absurd h d5.symm
   |exact absurd h Xd
   |exact absurd h Xg
   |exact absurd h Xl
   |exact absurd h Xr
   |exact absurd h Xi
   |exact absurd h Xn
   |exact absurd h Xs
   |exact absurd h Xp
   |exact absurd h Xt
   |exact absurd h Xu
   |exact absurd h Xd.symm
   |exact absurd h Xg.symm
   |exact absurd h Xl.symm
   |exact absurd h Xr.symm
   |exact absurd h Xi.symm
   |exact absurd h Xn.symm
   |exact absurd h Xs.symm
   |exact absurd h Xp.symm
   |exact absurd h Xt.symm
   |exact absurd h Xu.symm
 ·cases n with
  |hs=>exact h z.symm
  |rg=>exact f6 e m1 z.symm
  |tk=>exact f6 e m2 z.symm
  |tf=>exact f6 e m3 z.symm
  |ct=>exact f6 e m4 z.symm
  |gn=>exact f6 e m5 z.symm
  |_=>cases e'
theorem K6 (a b:List (List Int)):dn (a++b)=dn a++dn b:=by
 unfold dn
 rw [cj]
theorem HK {s:gA}(I:gN s) (D:rL s) {p:Nat}{plain:List Int}{rows:List (List Int)}(hp:p<18) (h1:N0[p]?=some plain.length) (h2:N3[p]?=some rows.length) :
  gN (aV s (((p:Int)::plain)::rows)).1∧rL (aV s (((p:Int)::plain)::rows)).1∧(aV s (((p:Int)::plain)::rows)).2.length≤1000:=by
 have Vy:=J9 (a:=plain) (rs:=rows) hp h1 h2
 unfold told at Vy
 unfold aV
 rw [Vy]
 cases iR:iu p plain&&jA p rows with
 |false=>exact ⟨I,D,by show 1≤1000;decide⟩
 |true=>
  rw [aj] at iR
  obtain ⟨g1,g2⟩:=UH hp h1 h2 iR.1 iR.2
  rw [if_pos rfl]
  exact ⟨I.step g1,D.step g2,UG I _⟩
theorem M6 (T:Txt P w K mg d) (K7:zJ P w K mg base d) (HL:xA P w K mg base d) (UL:xW P w K mg base d) {f:Addr}{fd:FuncData}(F:TC K "answers" "answers" (top 133) f fd):uv P w K mg base S8 9 f fd ["calls"] (rP K):=by
 have S:gf ["calls","house","told","place","plain","rows","answer"] ["calls"] (fS (top 133)):=lu
 refine F.ok S (λ_ _ _ _ h=>by repeat (first|(obtain ⟨e,_⟩:=h;subst e;rfl)|(obtain ⟨_,h⟩:=h))) fun _ _ _ _ H vs Q E hr h=>⟨_,(fL (gj (i:=1) S.nd rfl (by first|exact ak rfl|exact au rfl) (OW UL (hr.mono (by decide)) rfl)) (fL (gj (i:=2) S.nd rfl (by first|exact ak rfl|exact au rfl) (gG fM)) (fL (jz PassesOwn.never rfl (gC (fU HL (hr.mono (by decide)) rfl (fY (pv 0) fM))) (mK rfl (hX (gk (i:=3) S.nd rfl (by first|exact ak rfl|exact au rfl)) (hX (gk (i:=4) S.nd rfl (by first|exact ak rfl|exact au rfl)) (hX (gk (i:=5) S.nd rfl (by first|exact ak rfl|exact au rfl)) kW)))) (fL (gj (i:=6) S.nd rfl (by first|exact ak rfl|exact au rfl) (fU K7 (hr.mono (by decide)) rfl (fY (pv 1) (fY (pv 3) (fY (pv 4) (fY (pv 5) fM)))))) (fL (jo (oU aP bL bM l6 (pv 2) (fY (gp gz rfl T.jb aI (fY (pv 6) fM)) fM))) (fO (jo (oU aP bY bZ mM (pv 2) (fY (pv 6) fM))))))) (fO (fW (pv 2)))))),?_⟩
 obtain ⟨a,l,cs,rfl,hS,hl,hc,aa7,r40,q⟩:=h
 have s1m:1000000≤sizeLine:=by rw [sizeLine_eq];decide
 intro x dx nx Zr nex
 refine ⟨x,dx,rfl,fN,λH1 L hL R0 kp=>⟨rfl,?_⟩⟩
 have s1:gi H H1:=λb o e=>by
  refine (kp b o ?_ (f6 e nx)).1
  rw [fZ (f6 e nx),fZ (f6 e Zr)]
  exact e
 refine ⟨aK _,λt ht=>?_⟩
 have s2:=f9 (o:=HO.lst []) ht
 have ot:=R0.out ht
 have X7:upd H1 t (.lst []) t=some (.lst []):=fN
 generalize upd H1 t (.lst [])=H2 at s2 X7 ⊢
 refine (U rfl ⟨a,l,cs,rfl,(s1.trans s2).seq hS,hl,hc,λH3 pr ws s3 WK yL hW=>?_⟩)
 have R3:=(R0.same s2).same s3
 have lw:ws.length=cs.length:=Paired.length hW
 have opr:Out d L cS pr:=(R0.same s2).out WK
 have npt:pr≠t:=λe=>by
  rw [e,X7] at WK
  cases WK
 refine ⟨pr,rfl,⟨_,gE.of yL⟩,jg (K:=K) (a:=pr) (xs:=ws) (λi σ H'=>∃(v3 v4 v5 v6:Option V) (L':Ly) (s':gA) (outs:List (List Int)),σ=[some (.ref a),some (.ref x),some (.ref t),v3,v4,v5,v6]∧L'.a .hs=x∧Rep d H' L' s'∧gN s'∧rL s'∧Out d L' s' t∧
  (∀b o,H3 b=some o→b≠t→Out d L cS b→H' b=some o∧Out d L' s' b)∧H' t=some (.lst (vI (dn outs)))∧eU aV cS cs=outs++eU aV s' (cs.drop i)∧(dn outs).length≤1001 * i)
  ⟨none,none,none,none,L,cS,[],?_,hL,R3,Pd,(λt ht=>by cases ht),ot,λb o e _ ob=>⟨e,ob⟩,s3 _ _ X7,rfl,aK _⟩ ?_ ?_ ?_⟩
 ·rfl
 ·rintro i σ H' _ ⟨_,_,_,_,L',s',outs,_,_,_,_,_,_,kx,_⟩
  exact gE.of (kx pr _ yL npt opr).1
 ·rintro i y σ H' hy ⟨v3,v4,v5,v6,L',s',outs,rfl,hL',R',I',D',ot',kx,Z0,zN,hlen⟩
  obtain ⟨c,JD,T,pa,rb,j,plain,rws,rows,rfl,rfl,W⟩:=gK hW hy
  have Oy:∀{b:Addr},H2 b=Option.none→Out d L cS b:=λhb=>(R0.same s2).out hb
  have neT:∀{b:Addr},H2 b=Option.none→b≠t:=λ{b} hb e=>by
   rw [e,X7] at hb
   cases hb
  obtain ⟨hT,_⟩:=kx T _ W.ht (neT W.nt.1) (Oy W.nt.1)
  obtain ⟨hA,_⟩:=kx pa _ W.ha (neT W.na.1) (Oy W.na.1)
  obtain ⟨hB,_⟩:=kx rb _ W.hb (neT W.nb.1) (Oy W.nb.1)
  have hw':mz (λb=>Out d L' s' b) H' rws rows:=jf (λv r ⟨b,e1,e2,e3⟩=>by
   obtain ⟨z1,z2⟩:=kx b _ e3 (neT e2.1) (Oy e2.1)
   exact ⟨b,e1,z2,z1⟩) W.hw
  have hi:i<cs.length:=iZ JD
  have hd:cs.drop i=(((j:Int)::plain)::rows)::cs.drop (i+1):=by
   rw [bw hi]
   congr 1
   rw [aE hi] at JD
   exact Option.some.inj JD
  have aaQ:∀r∈rows,r.length≤40:=λr hr=>r40 _ (ax JD) r (ag _ hr)
  refine ⟨T,_,rfl,mZ.of hT,rfl,_,_,rfl,_,_,rfl,_,_,rfl,rfl,?_⟩
  refine (U rfl (U rfl (U rfl (U rfl ⟨L',s',j,pa,rb,plain,rws,rows,?_,R',I',D',W.hj,W.hp,W.hr,hA,hB,hw',aaQ,λH4 L4 g hL4 R4 k4 fr hg=>?_⟩))))
  ·rw [hL']
   rfl
  obtain ⟨I4,D4,l4⟩:=HK I' D' W.hj W.hp W.hr
  obtain ⟨ht4,ot4⟩:=k4 t _ Z0 ot'
  have ngt:t≠g:=fr t _ Z0 ot'
  have lt4:(vI (dn outs)).length≤1001 * i:=by rw [aa];exact hlen
  have lg:(vI (aV s' (((j:Int)::plain)::rows)).2).length≤1000:=by rw [aa];exact l4
  refine (U rfl ⟨.inl ⟨rfl,_,gE.of ht4⟩,_,rfl,g,_,rfl,.inl (gE.of hg),t,_,_,rfl,rfl,ht4,by omega,?_⟩)
  refine (U rfl ⟨.inl ⟨rfl,_,gE.of fN⟩,_,rfl,t,g,_,_,rfl,rfl,fN,by rw [fZ ngt.symm];exact hg,by rw [ay,ba];omega,?_⟩)
  rw [ir]
  refine ⟨_,_,_,_,L4,_,outs++[(aV s' (((j:Int)::plain)::rows)).2],rfl,hL4.trans hL',R4.own ot4,I4,D4,ot4,λb o e nb ob=>?_,?_,?_,?_⟩
  ·obtain ⟨z1,z2⟩:=kx b o e nb ob
   obtain ⟨z3,z4⟩:=k4 b o z1 z2
   exact ⟨by rw [fZ nb];exact z3,z4⟩
  ·rw [fN,K6]
   show some (HO.lst _)=some (HO.lst (List.map V.int (_++_)))
   rw [bP,cz]
   congr 3
   rw [aa]
   show _=List.map V.int ((((aV s' (((j:Int)::plain)::rows)).2.length:Nat):Int)::(aV s' (((j:Int)::plain)::rows)).2++[])
   rw [bW]
   rfl
  ·rw [zN,hd,cz]
   rfl
  ·rw [K6,ay]
   have:(dn [(aV s' (((j:Int)::plain)::rows)).2]).length=1+(aV s' (((j:Int)::plain)::rows)).2.length:=by
    show ((((aV s' (((j:Int)::plain)::rows)).2.length:Nat):Int)::(aV s' (((j:Int)::plain)::rows)).2++[]).length=_
    rw [bW,aw]
    omega
   rw [this]
   omega
 ·rintro σ H' ⟨v3,v4,v5,v6,L',s',outs,rfl,hL',R',I',D',ot',kx,Z0,zN,hlen⟩
  rw [lw,dy] at zN
  have zN:eU aV cS cs=outs++[]:=zN
  rw [bW] at zN
  rw [←zN] at Z0
  exact (U rfl (q H' t Z0))
end My
end
section
namespace L2
open PySem PySem.Spec PyProof.Rows
open PySem.W (WData Codec OpenSpec Well WellAll ReadsW ReadsAllW)
mutual
inductive Dw (K:ab) (H:Hp):V→WData→Prop
 |mH:Dw K H .mH .none
 |bl (b:Bool):Dw K H (.bl b) (.bool b)
 |int (i:Int):Dw K H (.int i) (.int i)
 |str (x:Str):Dw K H (.str x) (.str x)
 |LQ (b:Array UInt8):Dw K H (.LQ b) (.bytes b.toList)
 |lst {a:Addr} {xs:List V} {ds:List WData}:gE K H a xs→qT K H xs ds→Dw K H (.ref a) (.list ds)
 |tup {a:Addr} {xs:List V} {ds:List WData}:mZ K H a xs→qT K H xs ds→Dw K H (.ref a) (.tuple ds)
inductive qT (K:ab) (H:Hp):List V→List WData→Prop
 |nil:qT K H [] []
 |cons {v:V} {vs:List V} {d:WData} {ds:List WData}:Dw K H v d→qT K H vs ds→qT K H (v::vs) (d::ds)
end
theorem Oz {K:ab}{H:Hp}:∀ns:List Int,qT K H (ns.map V.int) (ns.map WData.int)
 |[]=>.nil
 |n::r=>.cons (.int n) (Oz r)
theorem OA {K:ab}{H:Hp}:∀(ns:List Int) (xs:List V),qT K H xs (ns.map WData.int)→xs=ns.map V.int
 |[],xs,h=>by
  cases h
  rfl
 |n::r,xs,h=>by
  cases h with
  |cons h1 h2=>
   cases h1
   rw [OA r _ h2]<;>rfl
section
variable {P:Program}{w:World}{K:ab}{H:Hp}{h:Heap}{R:PySem.W.WRecords}{cl:Str→Option Addr}
theorem Xv {a:Addr}{xs:List V}(iR:sL P w H h) (KX:K.In h) (q:gE K H a xs):∃(hU:List Value) (o:Obj) (n:Nat),Vals xs hU∧h.get? a=some o∧o.cls=.type "list"∧o.data=.seq hU.toArray n:=by
 rcases q with q|⟨o,hU,n,e,hc,_,hd,_,hv⟩
 ·obtain ⟨_,hU,n,hv,e⟩:=(show j5 P w H h a (.lst xs) from q.ok iR)
  exact ⟨hU,_,n,hv,e,rfl,rfl⟩
 ·exact ⟨hU.toList,o,n,hv,KX _ _ e,hc,by simp [hd]⟩
theorem Xw {a:Addr}{xs:List V}(iR:sL P w H h) (KX:K.In h) (q:mZ K H a xs):∃(hU:List Value) (o:Obj) (n:Nat),Vals xs hU∧h.get? a=some o∧o.cls=.type "tuple"∧o.data=.seq hU.toArray n:=by
 rcases q with q|⟨o,hU,n,e,hc,hd,_,hv⟩
 ·obtain ⟨_,hU,hv,o,e,hc,n,hd⟩:=(show j5 P w H h a (.tup xs) from q.ok iR)
  exact ⟨hU,o,n,hv,e,hc,hd⟩
 ·exact ⟨hU.toList,o,n,hv,KX _ _ e,hc,by simp [hd]⟩
mutual
theorem Dw.reads (iR:sL P w H h) (KX:K.In h):∀(d:WData) (v:V) (u:Value),Dw K H v d→RelV v u→∃as,ReadsW R cl h u d as
 |.none,_,_,x,r=>by
  cases x
  cases r
  exact ⟨_,ReadsW.none⟩
 |.bool b,_,_,x,r=>by
  cases x
  cases r
  exact ⟨_,ReadsW.bool b⟩
 |.int i,_,_,x,r=>by
  cases x
  obtain ⟨t,rfl⟩:=r
  exact ⟨_,ReadsW.int i t⟩
 |.str s,_,_,x,r=>by
  cases x
  obtain ⟨t,rfl⟩:=r
  exact ⟨_,ReadsW.str s t⟩
 |.bytes b,_,_,x,r=>by
  cases x
  obtain ⟨t,rfl⟩:=r
  exact ⟨_,ReadsW.bytes _ t⟩
 |.list ds,_,_,x,r=>by
  cases x with
  |lst hs ha=>
   cases r
   obtain ⟨hU,o,n,rv,ho,hc,hd⟩:=Xv iR KX hs
   obtain ⟨as,hr⟩:=Dw.readsAll iR KX ds _ hU ha rv
   exact ⟨_,ReadsW.list ho hc hd hr⟩
 |.tuple ds,_,_,x,r=>by
  cases x with
  |tup hs ha=>
   cases r
   obtain ⟨hU,o,n,rv,ho,hc,hd⟩:=Xw iR KX hs
   obtain ⟨as,hr⟩:=Dw.readsAll iR KX ds _ hU ha rv
   exact ⟨_,ReadsW.tuple ho hc hd hr⟩
 |.float _,_,_,x,_=>by cases x
 |.dict _,_,_,x,_=>by cases x
 |.bytearray _,_,_,x,_=>by cases x
 |.set _,_,_,x,_=>by cases x
 |.frozenset _,_,_,x,_=>by cases x
 |.obj _ _,_,_,x,_=>by cases x
theorem Dw.readsAll (iR:sL P w H h) (KX:K.In h):∀(ds:List WData) (vs:List V) (us:List Value),qT K H vs ds→Vals vs us→∃as,ReadsAllW R cl h us ds as
 |[],_,_,x,r=>by
  cases x
  cases r
  exact ⟨_,ReadsAllW.nil⟩
 |d::ds,_,_,x,r=>by
  cases x with
  |cons h1 h2=>
   cases r with
   |cons r1 r2=>
    obtain ⟨as,q1⟩:=Dw.reads iR KX d _ _ h1 r1
    obtain ⟨bs,q2⟩:=Dw.readsAll iR KX ds _ _ h2 r2
    exact ⟨_,ReadsAllW.cons q1 q2⟩
end
end
mutual
def OB:WData→Bool
 |.none=>true
 |.bool _=>true
 |.int _=>true
 |.str _=>true
 |.bytes _=>true
 |.list xs=>Af xs
 |.tuple xs=>Af xs
 |_=>false
def Af:List WData→Bool
 |[]=>true
 |x::r=>OB x&&Af r
end
theorem K8 {α:Type}{f:α→WData}(h:∀a,OB (f a)=true):∀l:List α,Af (l.map f)=true
 |[]=>rfl
 |x::r=>by
  show (OB (f x)&&Af (r.map f))=true
  rw [h x,K8 h r]<;>rfl
theorem tY:∀(c:Codec) (a:c.denote),OB (c.enc a)=true
 |.unit,_=>rfl
 |.bool,_=>rfl
 |.int _ _,_=>rfl
 |.nat _ _,_=>rfl
 |.u8,_=>rfl
 |.bytes _ _,_=>rfl
 |.text _ _ _ _,_=>rfl
 |.list _ _ c,a=>K8 (λx=>tY c x) a
 |.pair c d,a=>by
  show (OB (c.enc a.1)&&(OB (d.enc a.2)&&true))=true
  rw [tY c a.1,tY d a.2]<;>rfl
 |.triple c d e,a=>by
  show (OB (c.enc a.1)&&(OB (d.enc a.2.1)&&(OB (e.enc a.2.2)&&true)))=true
  rw [tY c a.1,tY d a.2.1,tY e a.2.2]<;>rfl
 |.option c,none=>rfl
 |.option c,some x=>tY c x
theorem GF:∀(cs:List Codec) (a:Codec.denoteAll cs),Af (Codec.encAll cs a)=true
 |[],_=>rfl
 |c::cs,a=>by
  show (OB (c.enc a.1)&&Af (Codec.encAll cs a.2))=true
  rw [tY c a.1,GF cs a.2]<;>rfl
theorem wd:∀{xs:List WData}{d:WData},d∈xs→d.weight≤WData.weightAll xs
 |[],d,h=>absurd h (by simp)
 |x::r,d,h=>by
  show d.weight≤x.weight+1+WData.weightAll r
  rcases aB.mp h with e|m
  ·rw [e]
   omega
  ·have z:=wd m
   omega
def toV:Value→V
 |.none=>.mH
 |.bool b=>.bl b
 |.int i _=>.int i
 |.str x _=>.str x
 |.bytes b _=>.LQ b
 |.ref a=>.ref a
 |_=>.mH
def PR (A:List Addr):Value→Prop
 |.none=>True
 |.bool _=>True
 |.int _ _=>True
 |.str _ _=>True
 |.bytes _ _=>True
 |.ref a=>a∈A
 |_=>False
theorem PR.mono {A B:List Addr}(h:∀a∈A,a∈B):∀{u:Value},PR A u→PR B u:=λ{u} x=>by
 cases u with
 |ref a=>exact h a x
 |none=>trivial
 |bool b=>trivial
 |int i t=>trivial
 |str s t=>trivial
 |bytes b t=>trivial
 |_=>exact False.elim x
theorem Sm {A:List Addr}{u:Value}(x:PR A u):RelV (toV u) u:=by
 cases u with
 |ref a=>rfl
 |none=>rfl
 |bool b=>rfl
 |int i t=>exact ⟨t,rfl⟩
 |str s t=>exact ⟨t,rfl⟩
 |bytes b t=>exact ⟨t,rfl⟩
 |_=>exact False.elim x
theorem qU {A:List Addr}:∀{vs:List Value},(∀u∈vs,PR A u)→Vals (vs.map toV) vs
 |[],_=>.nil
 |u::r,h=>.cons (Sm (h u (az ..))) (qU fun x hx=>h x (ag _ hx))
def su (h:Heap) (A:List Addr) (a:Addr):Prop:=∃vs:List Value,vs.length≤sizeLine∧(∀u∈vs,PR A u)∧
 (h.get? a=some { cls:=.type "list",data:=.seq vs.toArray }∨h.get? a=some { cls:=.type "tuple",data:=.seq vs.toArray })
theorem su.mono {h:Heap}{A B:List Addr}{a:Addr}(k:∀a∈A,a∈B) (x:su h A a):su h B a:=by
 obtain ⟨vs,h1,h2,h3⟩:=x
 exact ⟨vs,h1,λu hu=>(h2 u hu).mono k,h3⟩
theorem pW {P:Params}{h:Heap}:∀{vs:List Value}{ds:List WData},WellAll P h vs ds→vs.length=ds.length
 |_,_,.nil=>rfl
 |_,_,.cons _ b=>by
  show _+1=_+1
  rw [pW b]
theorem GG {P:Params}{h:Heap}{v:Value}{ds:List WData}(x:Well P h v (.list ds)):∃(a:Addr) (vs:List Value),v=.ref a∧h.get? a=some { cls:=.type "list",data:=.seq vs.toArray }∧WellAll P h vs ds:=by
 cases x with
 |list ho jQ=>exact ⟨_,_,rfl,ho,jQ⟩
theorem Cb {P:Params}{h:Heap}{v:Value}{ds:List WData}(x:Well P h v (.tuple ds)):∃(a:Addr) (vs:List Value),v=.ref a∧h.get? a=some { cls:=.type "tuple",data:=.seq vs.toArray }∧WellAll P h vs ds:=by
 cases x with
 |tuple ho jQ=>exact ⟨_,_,rfl,ho,jQ⟩
theorem GH {P:Params}{h:Heap}{us:List Value}{d:WData}{ds:List WData}(x:WellAll P h us (d::ds)):∃(v:Value) (vs:List Value),us=v::vs∧Well P h v d∧WellAll P h vs ds:=by
 cases x with
 |cons a b=>exact ⟨_,_,rfl,a,b⟩
theorem OC {n:Nat}(h:n≤1048576):n≤sizeLine:=bh h (by decide)
section
variable {P:Params}{h:Heap}
mutual
theorem Sn:∀(d:WData) (v:Value),Well P h v d→OB d=true→d.weight≤1048576→∃A:List Addr,PR A v∧∀a∈A,su h A a
 |.none,_,x,_,_=>by
  cases x
  exact ⟨[],trivial,λa m=>absurd m (by simp)⟩
 |.bool b,_,x,_,_=>by
  cases x
  exact ⟨[],trivial,λa m=>absurd m (by simp)⟩
 |.int i,_,x,_,_=>by
  cases x
  exact ⟨[],trivial,λa m=>absurd m (by simp)⟩
 |.str s,_,x,_,_=>by
  cases x
  exact ⟨[],trivial,λa m=>absurd m (by simp)⟩
 |.bytes b,_,x,_,_=>by
  cases x
  exact ⟨[],trivial,λa m=>absurd m (by simp)⟩
 |.list ds,_,x,p,z=>by
  obtain ⟨a,vs,rfl,ho,jQ⟩:=GG x
  have z2:WData.weightAll ds≤1048576:=z
  obtain ⟨A,h1,h2⟩:=xX ds _ jQ p fun d hd=>bh (wd hd) z2
  have k:∀b∈A,b∈a::A:=λb hb=>ag _ hb
  refine ⟨a::A,az ..,λb hb=>?_⟩
  rcases aB.mp hb with e|m
  ·rw [e]
   exact ⟨vs,OC (by rw [pW jQ];exact bh (PySem.W.length_le_weightAllW ds) z2),λu hu=>(h1 u hu).mono k,.inl ho⟩
  ·exact (h2 b m).mono k
 |.tuple ds,_,x,p,z=>by
  obtain ⟨a,vs,rfl,ho,jQ⟩:=Cb x
  have z2:WData.weightAll ds≤1048576:=z
  obtain ⟨A,h1,h2⟩:=xX ds _ jQ p fun d hd=>bh (wd hd) z2
  have k:∀b∈A,b∈a::A:=λb hb=>ag _ hb
  refine ⟨a::A,az ..,λb hb=>?_⟩
  rcases aB.mp hb with e|m
  ·rw [e]
   exact ⟨vs,OC (by rw [pW jQ];exact bh (PySem.W.length_le_weightAllW ds) z2),λu hu=>(h1 u hu).mono k,.inr ho⟩
  ·exact (h2 b m).mono k
 |.float _,_,_,p,_=>bG (show false=true from p)
 |.dict _,_,_,p,_=>bG (show false=true from p)
 |.bytearray _,_,_,p,_=>bG (show false=true from p)
 |.set _,_,_,p,_=>bG (show false=true from p)
 |.frozenset _,_,_,p,_=>bG (show false=true from p)
 |.obj _ _,_,_,p,_=>bG (show false=true from p)
theorem xX:∀(ds:List WData) (vs:List Value),WellAll P h vs ds→Af ds=true→(∀d∈ds,d.weight≤1048576)→∃A:List Addr,(∀u∈vs,PR A u)∧∀a∈A,su h A a
 |[],_,x,_,_=>by
  cases x
  exact ⟨[],λu m=>absurd m (by simp),λa m=>absurd m (by simp)⟩
 |d::ds,_,x,p,z=>by
  obtain ⟨v,vs,rfl,x1,x2⟩:=GH x
  have q:OB d=true∧Af ds=true:=Bool.and_eq_true_iff.mp p
  obtain ⟨A,a1,a2⟩:=Sn d v x1 q.1 (z d (az ..))
  obtain ⟨B,b1,b2⟩:=xX ds vs x2 q.2 fun e he=>z e (ag _ he)
  have kA:∀b∈A,b∈A++B:=λb hb=>bE.mpr (.inl hb)
  have kB:∀b∈B,b∈A++B:=λb hb=>bE.mpr (.inr hb)
  refine ⟨A++B,λu hu=>?_,λb hb=>?_⟩
  ·rcases aB.mp hu with e|m
   ·rw [e]
    exact a1.mono kA
   ·exact (b1 u m).mono kB
  ·rcases bE.mp hb with m|m
   ·exact (a2 b m).mono kA
   ·exact (b2 b m).mono kB
end
end
def UM (o:Obj):Option HO:=match o.data with
 |.seq vs _=>if (o.cls==Value.type "list")=true then some (.GJ o (.lst (vs.toList.map toV))) else some (.GJ o (.tup (vs.toList.map toV)))
 |_=>none
def rQ (K:ab) (h:Heap) (A:List Addr):Hp:=λb=>if b∈A then (if (K.lookup b).isNone=true then (h.get? b).bind UM else none) else none
def GI (H:Hp):Prop:=∀b,H b=none∨∃o u,H b=some (.GJ o u)
theorem K9 (vs:List Value):UM { cls:=.type "list",data:=.seq vs.toArray }=some (.GJ { cls:=.type "list",data:=.seq vs.toArray } (.lst (vs.map toV))):=by
 show (if (Value.type "list"==Value.type "list")=true then some (HO.GJ { cls:=.type "list",data:=.seq vs.toArray } (.lst (vs.toArray.toList.map toV))) else some (HO.GJ { cls:=.type "list",data:=.seq vs.toArray } (.tup (vs.toArray.toList.map toV))))=_
 rw [if_pos (beq_self_eq_true _)]
theorem La (vs:List Value):UM { cls:=.type "tuple",data:=.seq vs.toArray }=some (.GJ { cls:=.type "tuple",data:=.seq vs.toArray } (.tup (vs.map toV))):=by
 show (if (Value.type "tuple"==Value.type "list")=true then some (HO.GJ { cls:=.type "tuple",data:=.seq vs.toArray } (.lst (vs.toArray.toList.map toV))) else some (HO.GJ { cls:=.type "tuple",data:=.seq vs.toArray } (.tup (vs.toArray.toList.map toV))))=_
 rw [if_neg (by decide)]
section
variable {P:Program}{w:World}{K:ab}{h:Heap}{A:List Addr}
theorem AR {b:Addr}{o:Obj}(hb:b∈A) (hk:K.lookup b=none) (e:h.get? b=some o):rQ K h A b=UM o:=by
 unfold rQ
 rw [if_pos hb,hk,if_pos (show (none:Option Obj).isNone=true from rfl),e]<;>rfl
theorem UN {b:Addr}{u:HO}(q:rQ K h A b=some u):b∈A∧K.lookup b=none:=by
 unfold rQ at q
 by_cases hb:b∈A
 ·rw [if_pos hb] at q
  cases hk:K.lookup b with
  |none=>exact ⟨hb,rfl⟩
  |some o=>
   rw [hk,if_neg (by simp)] at q
   cases q
 ·rw [if_neg hb] at q
  cases q
theorem AS (ar:∀a∈A,su h A a) {b:Addr}{u:HO}(q:rQ K h A b=some u):K.lookup b=none∧∃vs:List Value,vs.length≤sizeLine∧(∀u∈vs,PR A u)∧
  ((h.get? b=some { cls:=.type "list",data:=.seq vs.toArray }∧u=.GJ { cls:=.type "list",data:=.seq vs.toArray } (.lst (vs.map toV)))∨
   (h.get? b=some { cls:=.type "tuple",data:=.seq vs.toArray }∧u=.GJ { cls:=.type "tuple",data:=.seq vs.toArray } (.tup (vs.map toV)))):=by
 obtain ⟨hb,hk⟩:=UN q
 obtain ⟨vs,h1,h2,h3⟩:=ar b hb
 refine ⟨hk,vs,h1,h2,?_⟩
 rcases h3 with e|e
 ·rw [AR hb hk e,K9] at q
  exact .inl ⟨e,(Option.some.inj q).symm⟩
 ·rw [AR hb hk e,La] at q
  exact .inr ⟨e,(Option.some.inj q).symm⟩
theorem PU (ar:∀a∈A,su h A a):GI (rQ K h A):=λb=>by
 cases q:rQ K h A b with
 |none=>exact .inl rfl
 |some u=>
  obtain ⟨_,vs,_,_,⟨_,e⟩|⟨_,e⟩⟩:=AS ar q
  ·exact .inr ⟨_,_,by rw [e]⟩
  ·exact .inr ⟨_,_,by rw [e]⟩
theorem UO (ar:∀a∈A,su h A a):sL P w (rQ K h A) h:=λb u q=>by
 obtain ⟨_,vs,h1,h2,⟨e,rfl⟩|⟨e,rfl⟩⟩:=AS ar q
 ·exact ⟨e,by rw [aa];exact h1,vs,_,qU h2,e⟩
 ·exact ⟨e,by rw [aa];exact h1,vs,qU h2,_,e,rfl,_,rfl⟩
theorem AU {c c':Value}{vs us:List Value}(e:(some { cls:=c,data:=.seq vs.toArray }:Option Obj)=some { cls:=c',data:=.seq us.toArray }):c=c'∧vs=us:=by
 have e1:=Option.some.inj e
 have e2:c=c':=congrArg Obj.cls e1
 have e3:Data.seq vs.toArray=Data.seq us.toArray:=congrArg Obj.data e1
 injection e3 with e4
 refine ⟨e2,?_⟩
 have e5:=congrArg Array.toList e4
 simpa using e5
theorem aaR (KX:K.In h) (ar:∀a∈A,su h A a) {a:Addr}{vs:List Value}(ha:a∈A) (e:h.get? a=some { cls:=.type "list",data:=.seq vs.toArray }):(∀u∈vs,PR A u)∧gE K (rQ K h A) a (vs.map toV):=by
 obtain ⟨us,h1,h2,h3⟩:=ar a ha
 have hu:us=vs:=by
  rcases h3 with q|q
  ·rw [e] at q
   exact (AU q).2.symm
  ·rw [e] at q
   exact absurd (Value.type.inj (AU q).1) (by decide)
 subst hu
 refine ⟨h2,?_⟩
 cases hk:K.lookup a with
 |none=>exact .inl (.inr ⟨_,by rw [AR ha hk e,K9]⟩)
 |some o=>
  have e2:=KX a o hk
  rw [e] at e2
  obtain rfl:=Option.some.inj e2
  exact .inr ⟨_,us.toArray,_,hk,rfl,rfl,rfl,by rw [aT];exact h1,by simpa using qU h2⟩
theorem aaS (KX:K.In h) (ar:∀a∈A,su h A a) {a:Addr}{vs:List Value}(ha:a∈A) (e:h.get? a=some { cls:=.type "tuple",data:=.seq vs.toArray }):(∀u∈vs,PR A u)∧mZ K (rQ K h A) a (vs.map toV):=by
 obtain ⟨us,h1,h2,h3⟩:=ar a ha
 have hu:us=vs:=by
  rcases h3 with q|q
  ·rw [e] at q
   exact absurd (Value.type.inj (AU q).1) (by decide)
  ·rw [e] at q
   exact (AU q).2.symm
 subst hu
 refine ⟨h2,?_⟩
 cases hk:K.lookup a with
 |none=>exact .inl (.inr ⟨_,by rw [AR ha hk e,La]⟩)
 |some o=>
  have e2:=KX a o hk
  rw [e] at e2
  obtain rfl:=Option.some.inj e2
  exact .inr ⟨_,us.toArray,_,hk,rfl,rfl,by rw [aT];exact h1,by simpa using qU h2⟩
mutual
theorem Xx {Pm:Params}(KX:K.In h) (ar:∀a∈A,su h A a):∀(d:WData) (v:Value),Well Pm h v d→OB d=true→PR A v→Dw K (rQ K h A) (toV v) d
 |.none,_,x,_,_=>by
  cases x
  exact .mH
 |.bool b,_,x,_,_=>by
  cases x
  exact .bl b
 |.int i,_,x,_,_=>by
  cases x
  exact .int i
 |.str s,_,x,_,_=>by
  cases x
  exact .str s
 |.bytes b,_,x,_,_=>by
  cases x
  have z:=Dw.LQ (K:=K) (H:=rQ K h A) b.toArray
  exact z
 |.list ds,_,x,p,hu=>by
  obtain ⟨a,vs,rfl,ho,jQ⟩:=GG x
  obtain ⟨h2,hs⟩:=aaR KX ar hu ho
  exact .lst hs (HM KX ar ds _ jQ p h2)
 |.tuple ds,_,x,p,hu=>by
  obtain ⟨a,vs,rfl,ho,jQ⟩:=Cb x
  obtain ⟨h2,hs⟩:=aaS KX ar hu ho
  exact .tup hs (HM KX ar ds _ jQ p h2)
 |.float _,_,_,p,_=>bG (show false=true from p)
 |.dict _,_,_,p,_=>bG (show false=true from p)
 |.bytearray _,_,_,p,_=>bG (show false=true from p)
 |.set _,_,_,p,_=>bG (show false=true from p)
 |.frozenset _,_,_,p,_=>bG (show false=true from p)
 |.obj _ _,_,_,p,_=>bG (show false=true from p)
theorem HM {Pm:Params}(KX:K.In h) (ar:∀a∈A,su h A a):∀(ds:List WData) (vs:List Value),WellAll Pm h vs ds→Af ds=true→(∀u∈vs,PR A u)→qT K (rQ K h A) (vs.map toV) ds
 |[],_,x,_,_=>by
  cases x
  exact .nil
 |d::ds,_,x,p,hu=>by
  obtain ⟨v,vs,rfl,x1,x2⟩:=GH x
  have q:OB d=true∧Af ds=true:=Bool.and_eq_true_iff.mp p
  exact .cons (Xx KX ar d v x1 q.1 (hu _ (az ..))) (HM KX ar ds vs x2 q.2 fun u m=>hu u (ag _ m))
end
end
theorem PV {P:Program}{w:World}{K:ab}{mg mb:Str→Option Value}{CX:Qc}{k:Nat}{fa:Addr}{fd:FuncData}{ps:List Str}{sp:Sp}{s₁:Shared}{vals:List Value}{ds:List WData}{R:PySem.W.WRecords}{cl:Str→Option Addr}{d0:WData}
  (KX:K.In s₁.heap) (hns:s₁.heap.Ns mainGlobals mg) (hb:s₁.heap.Ns builtinsNs mb) (hbb:∀x:Str,x≠"__name__"→mb x=bootBuiltins x) (aaT:s₁.heap.NoLimit) (hg:s₁.gens=#[])
  (Z1:WellAll w.params s₁.heap vals ds) (zN:Af ds=true) (hwt:∀d∈ds,d.weight≤1048576) (hr:lV k callerA)
  (F:∀base:Heap,K.In base→base.Ns mainGlobals mg→uv P w K mg base CX k fa fd ps sp) (Z2:∀(s:Shared) (us:List Value),us.length=ps.length→BindsTo s fd ⟨us,[]⟩ (ps.zip us)) (hlen:ds.length=ps.length)
  (Qe:∀(H:Hp) (xs:List V),GI H→qT K H xs ds→sp xs H (λv H'=>Dw K H' v d0) fun _ _ _=>False)
  (Z3:∀H e s',CX [] H s₁ (λ_ _ _=>False) e s'→False) :
  codeAny (model P w) callerA (.call (.ref fa) ⟨vals,[]⟩) (λr s'=>∃u as,r=.ok (.ret u)∧ReadsW R cl s'.heap u d0 as∧OldK s₁.heap s'.heap∧s'.os=s₁.os∧AllBare s'.gens) s₁:=by
 obtain ⟨A,ho,ar⟩:=xX ds vals Z1 zN hwt
 have hO:GI (rQ K s₁.heap A):=PU ar
 have iR:sL P w (rQ K s₁.heap A) s₁.heap:=UO ar
 have hS:=HM KX ar ds vals Z1 zN ho
 have hV:=qU ho
 have hK:∀b u,rQ K s₁.heap A b=some u→K.lookup b=none:=λb u q=>(AS ar q).1
 have XY:∀{b:Addr} {o:Obj} {es:Array DictEntry} {ep:Nat},s₁.heap.get? b=some o→o.data=.dict es ep→rQ K s₁.heap A b=none:=λ{b o es ep} e d=>by
  cases q:rQ K s₁.heap A b with
  |none=>rfl
  |some u=>
   obtain ⟨_,vs,_,_,⟨e2,_⟩|⟨e2,_⟩⟩:=AS ar q
   ·rw [e2] at e
    cases e
    have d':Data.seq vs.toArray _=Data.dict es ep:=d
    cases d'
   ·rw [e2] at e
    cases e
    have d':Data.seq vs.toArray _=Data.dict es ep:=d
    cases d'
 generalize rQ K s₁.heap A=H at hO iR hS hK XY
 have OD:∀{b:Addr} {o:Obj},s₁.heap.get? b=some o→H b=none→(GL s₁.heap H).get? b=some o:=λe n=>Ql e n
 have nsK:∀{b:Addr} {m:Str→Option Value},s₁.heap.Ns b m→(GL s₁.heap H).Ns b m:=λ{b m} ⟨o,es,ep,e,d,r⟩=>⟨o,es,ep,OD e (XY e d),d,r⟩
 have nK:∀b o,K.lookup b=some o→H b=none:=λb o e=>by
  cases q:H b with
  |none=>rfl
  |some u=>
   rw [hK b u q] at e
   cases e
 have hKb:K.In (GL s₁.heap H):=λb o e=>OD (KX b o e) (nK b o e)
 have hM:Mod K mg (GL s₁.heap H):=⟨hKb,nsK hns,⟨mb,nsK hb,hbb⟩,let ⟨mc,h1,h2⟩:=aaT;⟨mc,nsK h1,h2⟩⟩
 have e0:Mf P w K mg (GL s₁.heap H) callerA [] s₁ H:=⟨rfl,hM,λb o e=>Te e,fF (OH _ _),trivial,λb hb=>absurd (show b∈([]:List Addr) from hb) (by simp),iR,.of_eq hg⟩
 have hl:vals.length=ps.length:=by rw [pW Z1];exact hlen
 refine codeAny_mono ((F _ hKb (nsK hns)).run callerA [] s₁ H ⟨vals,[]⟩ vals (vals.map toV) _ _ hr e0 (Z2 s₁ vals hl) hV (Qe H _ hO hS)) fun r s' x=>?_
 cases r with
 |error e=>exact (Z3 H e s' x).elim
 |ok fl=>
  cases fl with
  |next=>exact False.elim x
  |brk=>exact False.elim x
  |cont=>exact False.elim x
  |ret u=>
   obtain ⟨v,H',os,bare,un,Z4,r',q⟩:=x
   have kept:∀b o,s₁.heap.get? b=some o→s'.heap.get? b=some o:=λb o e=>by
    cases q2:H b with
    |none=>exact un.keep b o e q2 (by intro z;exact absurd (show b∈([]:List Addr) from z) (by simp)) (by simp)
    |some u2=>
     rcases hO b with z|⟨ob,u3,z⟩
     ·rw [q2] at z
      cases z
     ·have z2:=un.GK b ob _ z
      obtain ⟨e1,_⟩:=iR b _ z
      obtain ⟨e2,_⟩:=Z4 b _ z2
      rw [e] at e1
      cases e1
      exact e2
   have KX':K.In s'.heap:=λb o e=>kept b o (KX b o e)
   obtain ⟨as,Vy⟩:=Dw.reads (R:=R) (cl:=cl) Z4 KX' d0 v u q r'
   exact ⟨u,as,rfl,Vy,OldK.of_keep kept,os,bare⟩
theorem Cc {ds:List WData}(h:WData.layableAll ds=true):∀d∈ds,d.weight≤1048576:=λd hd=>
 (PySem.W.layableW_iff.mp (aL.mp h d hd)).2.2
theorem Ce:∀(cs:List Codec) (a:Codec.denoteAll cs),(Codec.encAll cs a).length=cs.length
 |[],_=>rfl
 |c::cs,a=>by
  show (Codec.encAll cs a.2).length+1=cs.length+1
  rw [Ce cs a.2]
theorem PX {r:OpenSpec}{k:Nat}{q:Program}{loose:List Str}{XP:(Str→Option Value)→Heap→Prop}{YP:World→Heap→Prop}{d:DefRec}{K:Params→ab}{CX:World→Qc}{ps:List Str}{sp:World→Sp}
  (So:r.wellSaid=true) (hdf:d.params.defaults=[]) (hlen:r.args.length=ps.length) (hr:lV k callerA)
  (hY:∀(w:World) (h:Heap),YP w h→(K w.params).In h)
  (F:∀(w:World) (mg:Str→Option Value) (fa:Addr) (h:Heap),YP w h→(K w.params).In h→h.Ns mainGlobals mg→mg d.name=some (.ref fa)→
   ∃fd:FuncData,(∀(s:Shared) (us:List Value),us.length=ps.length→BindsTo s fd ⟨us,[]⟩ (ps.zip us))∧
    ∀base:Heap,(K w.params).In base→base.Ns mainGlobals mg→uv r.prog w (K w.params) mg base (CX w) k fa fd ps (sp w))
  (Qe:∀(w:World) (H:Hp) (xs:List V) (a:Codec.denoteAll r.args),GI H→Codec.withinAll r.args a=true→Codec.app r.args r.asked a=true→qT (K w.params) H xs (Codec.encAll r.args a)→
   sp w xs H (λv H'=>Dw (K w.params) H' v (r.ret.enc (Codec.app r.args r.f a))) fun _ _ _=>False)
  (Z3:∀(w:World) (H:Hp) (s:Shared) (e:Value) (s':Shared),CX w [] H s (λ_ _ _=>False) e s'→False) :
  PySem.W.WalkOS q loose XP YP r d [] (λf vs=>PySem.call f vs):=by
 intro w FF s₁ mg mb G Y fa o pm cd doc dV kV ho hd S5 hD hmg hg args vals as aaU aaV Vy Z1 hlo
 obtain ⟨a,e1,e2⟩:=PySem.W.os_pre_some aaU
 obtain ⟨e3,hwi⟩:=Codec.encAll_of_decAll r.args args a e1
 subst e3
 have KX:=hY w _ Y
 obtain ⟨fd,hb,hF⟩:=F w mg fa _ Y KX G.T.g hmg
 refine PySem.W.enter_call (codeAny_mono (PV (R:=[]) (cl:=classAt FF.heap) (d0:=r.ret.enc (Codec.app r.args r.f a)) KX G.T.g G.T.b G.T.builtins G.T.nolimit hg Z1 (GF _ _) (Cc aaV) hr hF hb (by rw [Ce];exact hlen)
  (λH xs hO hS=>Qe w H xs a hO hwi e2 hS) fun H e s'=>Z3 w H s₁ e s') fun r' s' hq=>?_)
 obtain ⟨u,as',rfl,h1,h2,h3,h4⟩:=hq
 exact ⟨.inl ⟨u,_,as',rfl,λ_=>rfl,h1,(OpenSpec.post_iff So hwi _ _).mpr rfl,λz=>bG (show false=true from z)⟩,h2,h3,h4⟩
theorem M7 {r:OpenSpec}{k:Nat}{q:Program}{loose:List Str}{XP:(Str→Option Value)→Heap→Prop}{YP:World→Heap→Prop}{d:DefRec}{K:Params→ab}{CX:Qc}{ps:List Str}{sp:ab→Sp}
  (So:r.wellSaid=true) (hdf:d.params.defaults=[]) (hlen:r.args.length=ps.length) (hr:lV k callerA)
  (hY:∀(w:World) (h:Heap),YP w h→(K w.params).In h)
  (F:∀(w:World) (mg:Str→Option Value) (fa:Addr) (h:Heap),YP w h→(K w.params).In h→h.Ns mainGlobals mg→mg d.name=some (.ref fa)→
   ∃fd:FuncData,(∀(s:Shared) (us:List Value),us.length=ps.length→BindsTo s fd ⟨us,[]⟩ (ps.zip us))∧
    ∀base:Heap,(K w.params).In base→base.Ns mainGlobals mg→uv r.prog w (K w.params) mg base CX k fa fd ps (sp (K w.params)))
  (Qe:∀(K:ab) (H:Hp) (xs:List V) (a:Codec.denoteAll r.args),GI H→Codec.withinAll r.args a=true→Codec.app r.args r.asked a=true→qT K H xs (Codec.encAll r.args a)→
   sp K xs H (λv H'=>Dw K H' v (r.ret.enc (Codec.app r.args r.f a))) fun _ _ _=>False)
  (Z3:∀(H:Hp) (s:Shared) (e:Value) (s':Shared),CX [] H s (λ_ _ _=>False) e s'→False) :
  PySem.W.WalkOS q loose XP YP r d [] (λf vs=>PySem.call f vs):=
 PX (K:=K) (CX:=λ_=>CX) (sp:=λw=>sp (K w.params)) So hdf hlen hr hY F (λw H xs a h1 h2 h3 h4=>Qe (K w.params) H xs a h1 h2 h3 h4) fun _ H s e s'=>Z3 H s e s'
end L2
end
section
namespace My
open PySem PySem.Spec PyProof.Rows L2
theorem Lb {l:List Int}(h:eO l=true):∃cs,cq bz l.length l=some cs∧cs.length≤400∧(∀c∈cs,∀r∈c,r.length≤40)∧PyVbahah.answers l=dn (eU aV cS cs):=by
 unfold eO at h
 unfold PyVbahah.answers
 cases e:cq bz l.length l with
 |none=>
  have e2:ft l=none:=by unfold ft;rw [e]
  rw [e2] at h
  cases h
 |some cs=>
  have e2:ft l=some cs:=by
   unfold ft
   rw [e]
   show some (cs.map eG)=some cs
   rw [O7]
  rw [e2] at h ⊢
  dsimp only at h ⊢
  rw [aj] at h
  refine ⟨cs,rfl,of_decide_eq_true h.1,λc hc r hr=>?_,rfl⟩
  have h2:=h.2
  unfold VbahahNeutral.asked at h2
  rw [aj,aj] at h2
  have h3:=aL.mp h2.2.2 c hc
  unfold VbahahNeutral.asked1 at h3
  rw [aj,aj] at h3
  have h4:=aL.mp h3.2.2 r hr
  rw [aj] at h4
  exact of_decide_eq_true h4.1
open PySem.W (WData Codec OpenSpec)
theorem Z5 (K:ab) (H:Hp) (xs:List V) (a:Codec.denoteAll PySem.Challenge.rw_couponhouse_s01_answers.args) (hO:GI H) (hwi:Codec.withinAll PySem.Challenge.rw_couponhouse_s01_answers.args a=true)
  (aaW:Codec.app PySem.Challenge.rw_couponhouse_s01_answers.args PySem.Challenge.rw_couponhouse_s01_answers.asked a=true) (hx:qT K H xs (Codec.encAll PySem.Challenge.rw_couponhouse_s01_answers.args a)) :
  rP K xs H (λv H'=>Dw K H' v (PySem.Challenge.rw_couponhouse_s01_answers.ret.enc (Codec.app PySem.Challenge.rw_couponhouse_s01_answers.args PySem.Challenge.rw_couponhouse_s01_answers.f a))) fun _ _ _=>False:=by
 cases hx with
 |cons h1 h2=>
  cases h2
  cases h1 with
  |lst hs ha=>
   have e:=OA a.1 _ ha
   subst e
   have q:((Codec.inLen 0 24000 a.1&&a.1.all (Codec.inInt (Int.negSucc 999999999999) (Int.ofNat 1000000000000)))&&true)=true:=hwi
   rw [aj,aj] at q
   have Z6:eO a.1=true:=aaW
   obtain ⟨cs,c1,c2,c3,c4⟩:=Lb Z6
   refine ⟨_,a.1,cs,rfl,hs,(Codec.inNat_iff.mp q.1.1).2,c1,c2,c3,λH' p hp=>?_⟩
   rw [←c4] at hp
   exact .lst (gE.of hp) (Oz _)
end My
end
section
namespace My
open PySem PySem.Spec PyProof.Rows L2
theorem gO {K:ab}{a:Addr}{od:Option Addr}{hU:Array Value}{n:Nat}{sl:Array (Option Value)}{xs:List V}(l:K.lookup a=some ⟨.type "tuple",od,.seq hU n,sl⟩) (s:hU.size≤sizeLine) (v:Vals xs hU.toList):vJ K a xs:=⟨_,hU,n,l,rfl,rfl,s,v⟩
theorem gI {K:ab}{h:Heap}{mg:Str→Option Value}{x:Str}{i:Int}{t:Tok}(X:K.In h) (G:h.Ns mainGlobals mg) (a:ae K mainGlobals x=some (some (.int i t))):∃t,mg x=some (.int i t):=⟨_,dq X G a⟩
theorem rS {x:Str}{t:Tok}:RelV (.str x) (.str x t):=⟨t,rfl⟩
theorem rI {i:Int}{t:Tok}:RelV (.int i) (.int i t):=⟨t,rfl⟩
theorem Yi.at {K:ab}:∀{as:List Addr}{xss:List (List V)},Paired (λa xs=>vJ K a xs) as xss→∀(i:Nat) (a:Addr) (xs:List V),as[i]?=some a→xss[i]?=some xs→vJ K a xs
 |_,_,.nil,i,a,xs,h1,_=>by simp at h1
 |_,_,.cons r _,0,a,xs,h1,h2=>by
  simp at h1 h2
  subst h1
  subst h2
  exact r
 |_,_,.cons _ t,i+1,a,xs,h1,h2=>Yi.at t i a xs (by simpa using h1) (by simpa using h2)
inductive DE (w:World):List DictEntry→List (Key×V)→Prop
 |nil:DE w [] []
 |str {x:Str} {t:Tok} {a:Addr} {es:List DictEntry} {hZ:List (Key×V)}:DE w es hZ→DE w (⟨PyData.keyHash w.params x,.str x t,.ref a⟩::es) ((Sum.inr x,V.ref a)::hZ)
 |int {z i:Int} {t:Tok} {a:Addr} {es:List DictEntry} {hZ:List (Key×V)}:z=hashInt i→DE w es hZ→DE w (⟨z,.int i t,.ref a⟩::es) ((Sum.inl i,V.ref a)::hZ)
theorem DE.all {P:Program}{w:World}{es:List DictEntry}{hZ:List (Key×V)}(h:DE w es hZ):(∀e∈es,∃k,(jm P w).is k e.key=true∧e.hash=(jm P w).hash k)∧∃vs:List (Key×Value),Pairs (jm P w) es vs∧KV hZ vs∧vs.map (·.1)=hZ.map (·.1):=by
 induction h with
 |nil=>exact ⟨λe he=>(by cases he),[],.nil,.nil,rfl⟩
 |@str x t a es hZ _ ih=>
  obtain ⟨h1,vs,h2,h3,h4⟩:=ih
  refine ⟨λe he=>?_,(Sum.inr x,.ref a)::vs,.cons (sJ P w x t) rfl h2,.cons ⟨rfl,rfl⟩ h3,by rw [aG,aG,h4]⟩
  rcases aB.mp he with rfl|he
  ·exact ⟨Sum.inr x,sJ P w x t,rfl⟩
  ·exact h1 e he
 |@int z i t a es hZ hz _ ih=>
  obtain ⟨h1,vs,h2,h3,h4⟩:=ih
  refine ⟨λe he=>?_,(Sum.inl i,.ref a)::vs,.cons (sI P w i t) rfl h2,.cons ⟨rfl,rfl⟩ h3,by rw [aG,aG,h4]⟩
  rcases aB.mp he with rfl|he
  ·exact ⟨Sum.inl i,sI P w i t,hz⟩
  ·exact h1 e he
theorem DE.md {P:Program}{w:World}{K:ab}{a:Addr}{ep:Nat}{es:List DictEntry}{hZ:List (Key×V)}(l:K.lookup a=some ⟨.type "dict",none,.dict es.toArray ep,#[]⟩) (s:(a==sysModules)=false) (nd:(hZ.map (·.1)).Nodup) (h:DE w es hZ):MD P w K a hZ:=by
 obtain ⟨h1,vs,h2,h3,h4⟩:=h.all (P:=P)
 refine ⟨s,_,vs,l,⟨_,ep,⟨rfl,rfl,rfl⟩,rfl,λe he=>h1 e (by simpa using he),h2,by rw [h4];exact nd⟩,h3⟩
theorem Xy {P:Program}{w:World}{K:ab}{mg:Str→Option Value}{h:Heap}{Z:Prop}{fQ fX gq fP p9 pl0 pl1 pl2 pl3 pl4 pl5 pl6 pl7 pl8 pl9 Xz XA XB XC XD XE XF XG tq rw0 rw1 rw2 rj rn0 rn1 rn2 rn3 rn4 rn5 rn6 rn7 rn8 rn9 XH XI XJ jq rl0 rl1 rl2 rl3 jI rf0 rf1 rf2 rf3:Addr}{UP UQ UR HN Z7 Sq Sr HP PY M8 Ss Su Sv US Sw aaX UT XM HQ HR PZ UU Lc M9 Cf P0 Ld P1 Cg Ci Le Lf HS Cj Ck D0 Ag D1 Cm Ah D5 xY Na Nb UW Lg D6 Cn Ai Co D7 Cp Lh P4 P5 D8 D9 Ea Eb Ec Ed Ee Ef Eg Eh Ei Ej Ek El Em En Eo Ep Er Es Et Eu Ew Ey Ez EA Cq Cr Cs Ct Cu Cv Cw Cy Cz Sx Sy Sz HU HV HW HX HY Nc Nd Nf Ng Nh Ni Nj Nk Nl Nn Li Lj Lk CA CB CC CD CF CH CI CJ CK CL CM CN CO CP CQ CS CT CU CV CW Aj Ak Al Am An Ao Ap Aq Ar As uB uC uD uE uF uG uH uI uJ uK uL uM uN uO uP uQ uR uS uT uU uV CY CZ C0 C1 we wg wj wk wm wo wq wu wx wy wz:Tok}{SA HZ Ia Ib Ic Ie Ig Ih Ii Ij Ik EB EC ED EE EF EG EH EI Ll Lm Ln EJ EK EL EM EN EO ER ES ET EU C2 C3 C4 wA wB wC wD xZ x6 x8 x9:Option Addr}{UX Lo Lp Lq Lr Ls Lu Lv Lw Lx Lz Il Im Io Ip Iq Ir Iu Iv UY Np Nq Nr P6 Iw Iy Iz IA IB IC ID IE IF IG EV EW EX C5 ya yb yc yd EY zb zc zd ze:Nat}{SD IH II IJ IK IL IM IP IQ IS IT EZ E6 E7 E8 E9 Fb Fc Fe LA LB LC Ff Fg Fh Fi Fj Fl Fm Fn Fo Fp C6 C7 C8 wF wG wH wI ye yf yg yh:Array (Option Value)}
  (X:K.In h) (G:h.Ns mainGlobals mg)
  (Z8:ae K mainGlobals "Coupon"=some (some (.ref fQ)))
  (SE:cJ K fQ Str.empty=true)
  (SF:cP K fQ=true)
  (SG:di K fQ=true)
  (SH:aA K (.ref fQ) "__setattr__"=some (some (.builtin "object.__setattr__")))
  (Z9:ae K mainGlobals "Ticket"=some (some (.ref fX)))
  (SI:cJ K fX Str.empty=true)
  (SJ:cP K fX=true)
  (SK:di K fX=true)
  (SM:aA K (.ref fX) "__setattr__"=some (some (.builtin "object.__setattr__")))
  (aaa:ae K mainGlobals "Credit"=some (some (.ref gq)))
  (SN:cJ K gq Str.empty=true)
  (SO:cP K gq=true)
  (SQ:di K gq=true)
  (SR:aA K (.ref gq) "__setattr__"=some (some (.builtin "object.__setattr__")))
  (aad:ae K mainGlobals "House"=some (some (.ref fP)))
  (UZ:cJ K fP Str.empty=true)
  (U0:cP K fP=true)
  (U1:di K fP=true)
  (U2:aA K (.ref fP) "__setattr__"=some (some (.builtin "object.__setattr__")))
  (iD:aA K (.ref fQ) "carrier"=some none)
  (kN:aA K (.ref fQ) "num"=some none)
  (j6:aA K (.ref fQ) "day"=some none)
  (jB:aA K (.ref fQ) "origin"=some none)
  (ke:aA K (.ref fQ) "goal"=some none)
  (js:aA K (.ref fQ) "value"=some none)
  (j7:aA K (.ref fQ) "tax"=some none)
  (gc:aA K (.ref fQ) "status"=some none)
  (jr:aA K (.ref fQ) "free"=some none)
  (iL:aA K (.ref fX) "number"=some none)
  (i9:aA K (.ref fX) "passenger"=some none)
  (jS:aA K (.ref fX) "issued"=some none)
  (kf:aA K (.ref fX) "last"=some none)
  (gD:aA K (.ref fX) "coupons"=some none)
  (lj:aA K (.ref fX) "cash"=some none)
  (kD:aA K (.ref fX) "drawn"=some none)
  (jh:aA K (.ref fX) "in_exchange"=some none)
  (ja:aA K (.ref gq) "passenger"=some none)
  (gZ:aA K (.ref gq) "amount"=some none)
  (lq:aA K (.ref gq) "last"=some none)
  (iq:aA K (.ref fP) "today"=some none)
  (i5:aA K (.ref fP) "ranges"=some none)
  (gW:aA K (.ref fP) "tickets"=some none)
  (gM:aA K (.ref fP) "ticket_of"=some none)
  (gB:aA K (.ref fP) "credit_table"=some none)
  (jt:aA K (.ref fP) "gone"=some none)
  (iM:aA K (.ref fP) "cash_in"=some none)
  (ig:aA K (.ref fP) "cash_out"=some none)
  (iH:aA K (.ref fP) "kept"=some none)
  (AD:ae K mainGlobals "CLOCK"=some (some (.int 0 UP)))
  (AE:ae K mainGlobals "STOCK"=some (some (.int 1 UQ)))
  (AF:ae K mainGlobals "ISSUE"=some (some (.int 2 UR)))
  (oB:ae K mainGlobals "VOID_calls"=some (some (.int 3 HN)))
  (Oc:ae K mainGlobals "USE"=some (some (.int 4 Z7)))
  (xc:ae K mainGlobals "DEPART"=some (some (.int 5 Sq)))
  (xf:ae K mainGlobals "CANCEL"=some (some (.int 6 Sr)))
  (oE:ae K mainGlobals "REVALIDATE"=some (some (.int 7 HP)))
  (uj:ae K mainGlobals "SUSPEND"=some (some (.int 8 PY)))
  (ro:ae K mainGlobals "EXCHANGE"=some (some (.int 9 M8)))
  (xg:ae K mainGlobals "REFUND"=some (some (.int 10 Ss)))
  (xh:ae K mainGlobals "CREDIT"=some (some (.int 11 Su)))
  (xi:ae K mainGlobals "TICKET"=some (some (.int 12 Sv)))
  (AG:ae K mainGlobals "HEAPS"=some (some (.int 13 US)))
  (xj:ae K mainGlobals "LIFTED"=some (some (.int 14 Sw)))
  (Ud:ae K mainGlobals "ON"=some (some (.int 15 aaX)))
  (AH:ae K mainGlobals "VALID"=some (some (.int 16 UT)))
  (lX:ae K mainGlobals "OPEN"=some (some (.int 0 XM)))
  (iO:ae K mainGlobals "CONTROLLED"=some (some (.int 1 HQ)))
  (iz:ae K mainGlobals "CHECKED_IN"=some (some (.int 2 HR)))
  (ma:ae K mainGlobals "BOARDED"=some (some (.int 3 PZ)))
  (oG:ae K mainGlobals "FLOWN"=some (some (.int 4 UU)))
  (m9:ae K mainGlobals "EXCHANGED"=some (some (.int 5 Lc)))
  (o4:ae K mainGlobals "REFUNDED"=some (some (.int 6 M9)))
  (kO:ae K mainGlobals "VOID_records"=some (some (.int 7 Cf)))
  (oP:ae K mainGlobals "RUN_OUT"=some (some (.int 8 P0)))
  (j8:ae K mainGlobals "SUSPENDED"=some (some (.int 9 Ld)))
  (gx:ae K mainGlobals "GRANTED"=some (some (.int 0 P1)))
  (mn:ae K mainGlobals "OUT_OF_RANGE"=some (some (.int (-2) Cg)))
  (mq:ae K mainGlobals "WRONG_NUMBER"=some (some (.int (-3) Ci)))
  (pL:ae K mainGlobals "NO_TICKET"=some (some (.int (-4) Le)))
  (pM:ae K mainGlobals "NO_COUPON"=some (some (.int (-5) Lf)))
  (jK:ae K mainGlobals "TABLE_FULL"=some (some (.int (-6) HS)))
  (jT:ae K mainGlobals "NOT_ISSUABLE"=some (some (.int (-7) Cj)))
  (kP:ae K mainGlobals "WRONG_CREDIT"=some (some (.int (-8) Ck)))
  (ju:ae K mainGlobals "NOT_ALLOWED"=some (some (.int (-9) D0)))
  (lQ:ae K mainGlobals "OTHER_CARRIER"=some (some (.int (-10) Ag)))
  (lM:ae K mainGlobals "FLIGHT_GONE"=some (some (.int (-11) D1)))
  (mr:ae K mainGlobals "OUT_OF_ORDER"=some (some (.int (-12) Cm)))
  (lR:ae K mainGlobals "DAY_GOES_BACK"=some (some (.int (-13) Ah)))
  (kE:ae K mainGlobals "WRONG_FORMS"=some (some (.int (-14) D5)))
  (jL:ae K mainGlobals "TWICE_OR_UNLIKE"=some (some (.int (-15) xY)))
  (rp:ae K mainGlobals "CHECK_IN"=some (some (.int 3 Na)))
  (rq:ae K mainGlobals "TAKE_OFF"=some (some (.int 4 Nb)))
  (AJ:ae K mainGlobals "BOARD"=some (some (.int 5 UW)))
  (pN:ae K mainGlobals "MOST_GONE"=some (some (.int 64 Lg)))
  (mW:ae K mainGlobals "MOST_RANGES"=some (some (.int 8 D6)))
  (kQ:ae K mainGlobals "MOST_TICKETS"=some (some (.int 64 Cn)))
  (lT:ae K mainGlobals "COUPON_FIELDS"=some (some (.int 7 Ai)))
  (mw:ae K mainGlobals "MOST_CREDITS"=some (some (.int 64 Co)))
  (mX:ae K mainGlobals "CREDIT_DAYS"=some (some (.int 365 D7)))
  (mx:ae K mainGlobals "LAST_OF_DAYS"=some (some (.int 36524 Cp)))
  (pO:ae K mainGlobals "TO_CREDIT"=some (some (.int 0 Lh)))
  (uk:ae K mainGlobals "TO_CASH"=some (some (.int 1 P4)))
  (um:ae K mainGlobals "TO_KEEP"=some (some (.int 2 P5)))
  (jb:ae K mainGlobals "len"=some none)
  (qK:ae K mainGlobals "sum"=some none)
  (sj:ae K mainGlobals "all"=some none)
  (Oe:ae K mainGlobals "any"=some none)
  (Gg:ae K mainGlobals "min"=some none)
  (Ki:ae K mainGlobals "max"=some none)
  (xq:ae K mainGlobals "range"=some none)
  (Kj:ae K mainGlobals "zip"=some none)
  (nh:ae K mainGlobals "enumerate"=some none)
  (Gh:ae K mainGlobals "set"=some none)
  (U3:ae K mainGlobals "PLAIN"=some (some (.ref p9)))
  (AI:K.lookup p9=some ⟨.type "tuple",SA,.seq #[.ref pl0,.ref pl1,.ref pl2,.ref pl3,.ref pl4,.ref pl5,.ref pl6,.ref pl7,.ref pl8,.ref pl9,.ref Xz,.ref XA,.ref XB,.ref XC,.ref XD,.ref XE,.ref XF,.ref XG] UX,SD⟩)
  (LD:K.lookup pl0=some ⟨.type "tuple",HZ,.seq #[.str "day" D8] Lo,IH⟩)
  (LF:K.lookup pl1=some ⟨.type "tuple",Ia,.seq #[.str "form" D9,.str "form" Ea] Lp,II⟩)
  (LG:K.lookup pl2=some ⟨.type "tuple",Ib,.seq #[.str "passenger" Eb,.str "day" Ec] Lq,IJ⟩)
  (LH:K.lookup pl3=some ⟨.type "tuple",Ic,.seq #[.str "number" Ed] Lr,IK⟩)
  (LI:K.lookup pl4=some ⟨.type "tuple",Ie,.seq #[.str "verb" Ee,.str "carrier" Ef,.str "number" Eg,.str "place" Eh] Ls,IL⟩)
  (LJ:K.lookup pl5=some ⟨.type "tuple",Ig,.seq #[.str "carrier" Ei,.str "num" Ej,.str "day" Ek] Lu,IM⟩)
  (LK:K.lookup pl6=some ⟨.type "tuple",Ih,.seq #[.str "carrier" El,.str "num" Em,.str "day" En] Lv,IP⟩)
  (LL:K.lookup pl7=some ⟨.type "tuple",Ii,.seq #[.str "number" Eo,.str "place" Ep,.str "num" Er,.str "day" Es] Lw,IQ⟩)
  (LM:K.lookup pl8=some ⟨.type "tuple",Ij,.seq #[.str "number" Et,.str "place" Eu,.str "switch" Ew] Lx,IS⟩)
  (LN:K.lookup pl9=some ⟨.type "tuple",Ik,.seq #[.str "amount" Ey,.str "mode" Ez,.str "day" EA] Lz,IT⟩)
  (IU:K.lookup Xz=some ⟨.type "tuple",EB,.seq #[.str "number" Cq,.str "amount" Cr] Il,EZ⟩)
  (IV:K.lookup XA=some ⟨.type "tuple",EC,.seq #[.str "credit" Cs] Im,E6⟩)
  (IW:K.lookup XB=some ⟨.type "tuple",ED,.seq #[.str "number" Ct] Io,E7⟩)
  (IX:K.lookup XC=some ⟨.type "tuple",EE,.seq #[] Ip,E8⟩)
  (IY:K.lookup XD=some ⟨.type "tuple",EF,.seq #[.str "carrier" Cu] Iq,E9⟩)
  (IZ:K.lookup XE=some ⟨.type "tuple",EG,.seq #[.str "carrier" Cv,.str "num" Cw,.str "day" Cy] Ir,Fb⟩)
  (I0:K.lookup XF=some ⟨.type "tuple",EH,.seq #[.str "number" Cz] Iu,Fc⟩)
  (Ja:K.lookup XG=some ⟨.type "tuple",EI,.seq #[] Iv,Fe⟩)
  (XN:ae K mainGlobals "ROWS"=some (some (.ref tq)))
  (Hf:K.lookup tq=some ⟨.type "dict",none,.dict #[⟨2,.int 2 Sx,.ref rw0⟩,⟨9,.int 9 Sy,.ref rw1⟩,⟨10,.int 10 Sz,.ref rw2⟩] UY,#[]⟩)
  (XO:(tq==sysModules)=false)
  (Nt:K.lookup rw0=some ⟨.type "tuple",Ll,.seq #[.str "new coupons" HU,.str "credits" HV] Np,LA⟩)
  (Nu:K.lookup rw1=some ⟨.type "tuple",Lm,.seq #[.str "old coupons" HW,.str "new coupons" HX] Nq,LB⟩)
  (Nv:K.lookup rw2=some ⟨.type "tuple",Ln,.seq #[.str "places" HY] Nr,LC⟩)
  (SU:ae K mainGlobals "RANGES"=some (some (.ref rj)))
  (xk:K.lookup rj=some ⟨.type "dict",none,.dict #[⟨PyData.keyHash w.params "amount",.str "amount" Nc,.ref rn0⟩,⟨PyData.keyHash w.params "airport",.str "airport" Nd,.ref rn1⟩,⟨PyData.keyHash w.params "carrier",.str "carrier" Nf,.ref rn2⟩,⟨PyData.keyHash w.params "credit",.str "credit" Ng,.ref rn3⟩,⟨PyData.keyHash w.params "day",.str "day" Nh,.ref rn4⟩,⟨PyData.keyHash w.params "form",.str "form" Ni,.ref rn5⟩,⟨PyData.keyHash w.params "mode",.str "mode" Nj,.ref rn6⟩,⟨PyData.keyHash w.params "num",.str "num" Nk,.ref rn7⟩,⟨PyData.keyHash w.params "number",.str "number" Nl,.ref rn8⟩,⟨PyData.keyHash w.params "passenger",.str "passenger" Nn,.ref rn9⟩,⟨PyData.keyHash w.params "place",.str "place" Li,.ref XH⟩,⟨PyData.keyHash w.params "switch",.str "switch" Lj,.ref XI⟩,⟨PyData.keyHash w.params "verb",.str "verb" Lk,.ref XJ⟩] P6,#[]⟩)
  (SV:(rj==sysModules)=false)
  (Jb:K.lookup rn0=some ⟨.type "tuple",EJ,.seq #[.int 0 CA,.int 1000000000 CB] Iw,Ff⟩)
  (Jc:K.lookup rn1=some ⟨.type "tuple",EK,.seq #[.int 0 CC,.int 17575 CD] Iy,Fg⟩)
  (Jd:K.lookup rn2=some ⟨.type "tuple",EL,.seq #[.int 0 CF,.int 675 CH] Iz,Fh⟩)
  (Je:K.lookup rn3=some ⟨.type "tuple",EM,.seq #[.int 1 CI,.int 64 CJ] IA,Fi⟩)
  (Jf:K.lookup rn4=some ⟨.type "tuple",EN,.seq #[.int 0 CK,.int 36524 CL] IB,Fj⟩)
  (Jg:K.lookup rn5=some ⟨.type "tuple",EO,.seq #[.int 1 CM,.int 999999999 CN] IC,Fl⟩)
  (Jh:K.lookup rn6=some ⟨.type "tuple",ER,.seq #[.int 0 CO,.int 2 CP] ID,Fm⟩)
  (Ji:K.lookup rn7=some ⟨.type "tuple",ES,.seq #[.int 1 CQ,.int 9999 CS] IE,Fn⟩)
  (Jj:K.lookup rn8=some ⟨.type "tuple",ET,.seq #[.int 10 CT,.int 9999999999 CU] IF,Fo⟩)
  (Jk:K.lookup rn9=some ⟨.type "tuple",EU,.seq #[.int 1 CV,.int 1000000000 CW] IG,Fp⟩)
  (Fq:K.lookup XH=some ⟨.type "tuple",C2,.seq #[.int 0 Aj,.int 3 Ak] EV,C6⟩)
  (Fs:K.lookup XI=some ⟨.type "tuple",C3,.seq #[.int 0 Al,.int 1 Am] EW,C7⟩)
  (Ft:K.lookup XJ=some ⟨.type "tuple",C4,.seq #[.int 1 An,.int 6 Ao] EX,C8⟩)
  (Fu:ae K mainGlobals "ROW_LENGTHS"=some (some (.ref jq)))
  (mV:K.lookup jq=some ⟨.type "dict",none,.dict #[⟨PyData.keyHash w.params "new coupons",.str "new coupons" Ap,.ref rl0⟩,⟨PyData.keyHash w.params "old coupons",.str "old coupons" Aq,.ref rl1⟩,⟨PyData.keyHash w.params "credits",.str "credits" Ar,.ref rl2⟩,⟨PyData.keyHash w.params "places",.str "places" As,.ref rl3⟩] C5,#[]⟩)
  (Fv:(jq==sysModules)=false)
  (yi:K.lookup rl0=some ⟨.type "tuple",wA,.seq #[.int 7 uB,.int 14 uC,.int 21 uD,.int 28 uE] ya,wF⟩)
  (yj:K.lookup rl1=some ⟨.type "tuple",wB,.seq #[.int 2 uF,.int 4 uG,.int 6 uH,.int 8 uI,.int 10 uJ,.int 12 uK,.int 14 uL,.int 16 uM] yb,wG⟩)
  (yk:K.lookup rl2=some ⟨.type "tuple",wC,.seq #[.int 0 uN,.int 1 uO,.int 2 uP,.int 3 uQ,.int 4 uR] yc,wH⟩)
  (yl:K.lookup rl3=some ⟨.type "tuple",wD,.seq #[.int 1 uS,.int 2 uT,.int 3 uU,.int 4 uV] yd,wI⟩)
  (Jl:ae K mainGlobals "ROW_FIELDS"=some (some (.ref jI)))
  (oF:K.lookup jI=some ⟨.type "dict",none,.dict #[⟨PyData.keyHash w.params "new coupons",.str "new coupons" CY,.ref rf0⟩,⟨PyData.keyHash w.params "old coupons",.str "old coupons" CZ,.ref rf1⟩,⟨PyData.keyHash w.params "credits",.str "credits" C0,.ref rf2⟩,⟨PyData.keyHash w.params "places",.str "places" C1,.ref rf3⟩] EY,#[]⟩)
  (Jm:(jI==sysModules)=false)
  (zf:K.lookup rf0=some ⟨.type "tuple",xZ,.seq #[.str "carrier" we,.str "num" wg,.str "day" wj,.str "airport" wk,.str "airport" wm,.str "amount" wo,.str "amount" wq] zb,ye⟩)
  (zg:K.lookup rf1=some ⟨.type "tuple",x6,.seq #[.str "number" wu,.str "place" wx] zc,yf⟩)
  (zh:K.lookup rf2=some ⟨.type "tuple",x8,.seq #[.str "credit" wy] zd,yg⟩)
  (zi:K.lookup rf3=some ⟨.type "tuple",x9,.seq #[.str "place" wz] ze,yh⟩)
  (z:Txt P w K mg ⟨fQ,fX,gq,fP,p9,tq,rj,jq,jI,[pl0,pl1,pl2,pl3,pl4,pl5,pl6,pl7,pl8,pl9,Xz,XA,XB,XC,XD,XE,XF,XG],[rw0,rw1,rw2],[rn0,rn1,rn2,rn3,rn4,rn5,rn6,rn7,rn8,rn9,XH,XI,XJ],[rl0,rl1,rl2,rl3],[rf0,rf1,rf2,rf3]⟩→Z):Z:=z {
   fQ:=⟨SE,SF,SG,SH⟩
   iD:=iD
   kN:=kN
   j6:=j6
   jB:=jB
   ke:=ke
   js:=js
   j7:=j7
   gc:=gc
   jr:=jr
   fX:=⟨SI,SJ,SK,SM⟩
   iL:=iL
   i9:=i9
   jS:=jS
   kf:=kf
   gD:=gD
   lj:=lj
   kD:=kD
   jh:=jh
   gq:=⟨SN,SO,SQ,SR⟩
   ja:=ja
   gZ:=gZ
   lq:=lq
   fP:=⟨UZ,U0,U1,U2⟩
   iq:=iq
   i5:=i5
   gW:=gW
   gM:=gM
   gB:=gB
   jt:=jt
   iM:=iM
   ig:=ig
   iH:=iH
   AD:=gI X G AD
   AE:=gI X G AE
   AF:=gI X G AF
   oB:=gI X G oB
   Oc:=gI X G Oc
   xc:=gI X G xc
   xf:=gI X G xf
   oE:=gI X G oE
   uj:=gI X G uj
   ro:=gI X G ro
   xg:=gI X G xg
   xh:=gI X G xh
   xi:=gI X G xi
   AG:=gI X G AG
   xj:=gI X G xj
   Ud:=gI X G Ud
   AH:=gI X G AH
   Hd:=dq X G U3
   AI:=rfl
   Od:=λi a xs h1 h2=>Yi.at (xss:=Bo) (.cons (gO LD (by show 1≤sizeLine;decide) (.cons rS (.nil))) (.cons (gO LF (by show 2≤sizeLine;decide) (.cons rS (.cons rS (.nil)))) (.cons (gO LG (by show 2≤sizeLine;decide) (.cons rS (.cons rS (.nil)))) (.cons (gO LH (by show 1≤sizeLine;decide) (.cons rS (.nil))) (.cons (gO LI (by show 4≤sizeLine;decide) (.cons rS (.cons rS (.cons rS (.cons rS (.nil)))))) (.cons (gO LJ (by show 3≤sizeLine;decide) (.cons rS (.cons rS (.cons rS (.nil))))) (.cons (gO LK (by show 3≤sizeLine;decide) (.cons rS (.cons rS (.cons rS (.nil))))) (.cons (gO LL (by show 4≤sizeLine;decide) (.cons rS (.cons rS (.cons rS (.cons rS (.nil)))))) (.cons (gO LM (by show 3≤sizeLine;decide) (.cons rS (.cons rS (.cons rS (.nil))))) (.cons (gO LN (by show 3≤sizeLine;decide) (.cons rS (.cons rS (.cons rS (.nil))))) (.cons (gO IU (by show 2≤sizeLine;decide) (.cons rS (.cons rS (.nil)))) (.cons (gO IV (by show 1≤sizeLine;decide) (.cons rS (.nil))) (.cons (gO IW (by show 1≤sizeLine;decide) (.cons rS (.nil))) (.cons (gO IX (by show 0≤sizeLine;decide) (.nil)) (.cons (gO IY (by show 1≤sizeLine;decide) (.cons rS (.nil))) (.cons (gO IZ (by show 3≤sizeLine;decide) (.cons rS (.cons rS (.cons rS (.nil))))) (.cons (gO I0 (by show 1≤sizeLine;decide) (.cons rS (.nil))) (.cons (gO Ja (by show 0≤sizeLine;decide) (.nil)) (.nil))))))))))))))))))) i a xs h1 h2
   He:=gO AI (by show 18≤sizeLine;decide) (.cons rfl (.cons rfl (.cons rfl (.cons rfl (.cons rfl (.cons rfl (.cons rfl (.cons rfl (.cons rfl (.cons rfl (.cons rfl (.cons rfl (.cons rfl (.cons rfl (.cons rfl (.cons rfl (.cons rfl (.cons rfl (.nil)))))))))))))))))))
   MF:=dq X G XN
   Hf:=rfl
   Hg:=λi a xs h1 h2=>Yi.at (xss:=Ob) (.cons (gO Nt (by show 2≤sizeLine;decide) (.cons rS (.cons rS (.nil)))) (.cons (gO Nu (by show 2≤sizeLine;decide) (.cons rS (.cons rS (.nil)))) (.cons (gO Nv (by show 1≤sizeLine;decide) (.cons rS (.nil))) (.nil)))) i a xs h1 h2
   MH:=DE.md Hf XO (show ([Sum.inl (2:Int),Sum.inl (9:Int),Sum.inl (10:Int)]:List Key).Nodup from by decide +kernel) (.int (by decide) (.int (by decide) (.int (by decide) (.nil))))
   Kg:=dq X G SU
   xk:=rfl
   jJ:=λi a xs h1 h2=>Yi.at (xss:=Gf) (.cons (gO Jb (by show 2≤sizeLine;decide) (.cons rI (.cons rI (.nil)))) (.cons (gO Jc (by show 2≤sizeLine;decide) (.cons rI (.cons rI (.nil)))) (.cons (gO Jd (by show 2≤sizeLine;decide) (.cons rI (.cons rI (.nil)))) (.cons (gO Je (by show 2≤sizeLine;decide) (.cons rI (.cons rI (.nil)))) (.cons (gO Jf (by show 2≤sizeLine;decide) (.cons rI (.cons rI (.nil)))) (.cons (gO Jg (by show 2≤sizeLine;decide) (.cons rI (.cons rI (.nil)))) (.cons (gO Jh (by show 2≤sizeLine;decide) (.cons rI (.cons rI (.nil)))) (.cons (gO Ji (by show 2≤sizeLine;decide) (.cons rI (.cons rI (.nil)))) (.cons (gO Jj (by show 2≤sizeLine;decide) (.cons rI (.cons rI (.nil)))) (.cons (gO Jk (by show 2≤sizeLine;decide) (.cons rI (.cons rI (.nil)))) (.cons (gO Fq (by show 2≤sizeLine;decide) (.cons rI (.cons rI (.nil)))) (.cons (gO Fs (by show 2≤sizeLine;decide) (.cons rI (.cons rI (.nil)))) (.cons (gO Ft (by show 2≤sizeLine;decide) (.cons rI (.cons rI (.nil)))) (.nil)))))))))))))) i a xs h1 h2
   Kh:=DE.md xk SV (show ([Sum.inr ("amount":Str),Sum.inr ("airport":Str),Sum.inr ("carrier":Str),Sum.inr ("credit":Str),Sum.inr ("day":Str),Sum.inr ("form":Str),Sum.inr ("mode":Str),Sum.inr ("num":Str),Sum.inr ("number":Str),Sum.inr ("passenger":Str),Sum.inr ("place":Str),Sum.inr ("switch":Str),Sum.inr ("verb":Str)]:List Key).Nodup from by decide +kernel) (.str (.str (.str (.str (.str (.str (.str (.str (.str (.str (.str (.str (.str (.nil))))))))))))))
   vg:=dq X G Fu
   mV:=rfl
   lL:=λi a xs h1 h2=>Yi.at (xss:=tG) (.cons (gO yi (by show 4≤sizeLine;decide) (.cons rI (.cons rI (.cons rI (.cons rI (.nil)))))) (.cons (gO yj (by show 8≤sizeLine;decide) (.cons rI (.cons rI (.cons rI (.cons rI (.cons rI (.cons rI (.cons rI (.cons rI (.nil)))))))))) (.cons (gO yk (by show 5≤sizeLine;decide) (.cons rI (.cons rI (.cons rI (.cons rI (.cons rI (.nil))))))) (.cons (gO yl (by show 4≤sizeLine;decide) (.cons rI (.cons rI (.cons rI (.cons rI (.nil)))))) (.nil))))) i a xs h1 h2
   vh:=DE.md mV Fv (show ([Sum.inr ("new coupons":Str),Sum.inr ("old coupons":Str),Sum.inr ("credits":Str),Sum.inr ("places":Str)]:List Key).Nodup from by decide +kernel) (.str (.str (.str (.str (.nil)))))
   xl:=dq X G Jl
   oF:=rfl
   mm:=λi a xs h1 h2=>Yi.at (xss:=vf) (.cons (gO zf (by show 7≤sizeLine;decide) (.cons rS (.cons rS (.cons rS (.cons rS (.cons rS (.cons rS (.cons rS (.nil))))))))) (.cons (gO zg (by show 2≤sizeLine;decide) (.cons rS (.cons rS (.nil)))) (.cons (gO zh (by show 1≤sizeLine;decide) (.cons rS (.nil))) (.cons (gO zi (by show 1≤sizeLine;decide) (.cons rS (.nil))) (.nil))))) i a xs h1 h2
   xo:=DE.md oF Jm (show ([Sum.inr ("new coupons":Str),Sum.inr ("old coupons":Str),Sum.inr ("credits":Str),Sum.inr ("places":Str)]:List Key).Nodup from by decide +kernel) (.str (.str (.str (.str (.nil)))))
   lX:=gI X G lX
   iO:=gI X G iO
   iz:=gI X G iz
   ma:=gI X G ma
   oG:=gI X G oG
   m9:=gI X G m9
   o4:=gI X G o4
   kO:=gI X G kO
   oP:=gI X G oP
   j8:=gI X G j8
   gx:=gI X G gx
   mn:=gI X G mn
   mq:=gI X G mq
   pL:=gI X G pL
   pM:=gI X G pM
   jK:=gI X G jK
   jT:=gI X G jT
   kP:=gI X G kP
   ju:=gI X G ju
   lQ:=gI X G lQ
   lM:=gI X G lM
   mr:=gI X G mr
   lR:=gI X G lR
   kE:=gI X G kE
   jL:=gI X G jL
   rp:=gI X G rp
   rq:=gI X G rq
   AJ:=gI X G AJ
   pN:=gI X G pN
   mW:=gI X G mW
   kQ:=gI X G kQ
   lT:=gI X G lT
   mw:=gI X G mw
   mX:=gI X G mX
   mx:=gI X G mx
   pO:=gI X G pO
   uk:=gI X G uk
   um:=gI X G um
   jb:=bV X G jb
   qK:=bV X G qK
   sj:=bV X G sj
   Oe:=bV X G Oe
   Gg:=bV X G Gg
   Ki:=bV X G Ki
   xq:=bV X G xq
   Kj:=bV X G Kj
   nh:=bV X G nh
   Gh:=bV X G Gh
 }
theorem aab {P:Program}{w:World}{K:ab}{mg:Str→Option Value}{d:Ad}{fa:Addr}(hfa:mg "answers"=some (.ref fa)) (T:Txt P w K mg d) (ql:FG K mg "is_in_range" (top 27)) (mQ:FG K mg "is_row_as_told" (top 26)) (pq:FG K mg "is_in_ranges" (top 25)) (nU:MG K d.fQ "flight" "Coupon.flight" (inClass (top 39) 2)) (Jn:FG K mg "is_on" (top 88)) (rR:FG K mg "coupons_on" (top 87)) (nV:FG K mg "leave_refusal" (top 86)) (nW:FG K mg "release_later" (top 89)) (C9:FG K mg "cancel" (top 85)) (mF:FG K mg "run_out_coupons" (top 63)) (mG:FG K mg "run_out_credits" (top 64)) (wJ:FG K mg "taxes_of" (top 41)) (tZ:FG K mg "values_of" (top 40)) (Jo:FG K mg "clock" (top 62)) (Dc:FG K mg "depart" (top 84)) (rT:FG K mg "add_ticket" (top 114)) (rV:FG K mg "forms_left" (top 104)) (pw:FG K mg "is_any_twice" (top 131)) (nX:FG K mg "may_be_issued" (top 71)) (lH:FG K mg "may_all_be_issued" (top 70)) (rW:FG K mg "passengers" (top 130)) (lY:FG K mg "exchange_refusal" (top 125)) (nY:FG K mg "named_coupons" (top 129)) (qm:FG K mg "check_digit" (top 66)) (wK:FG K mg "is_right" (top 67)) (mR:FG K mg "ticket_refusal" (top 68)) (mS:FG K mg "coupon_refusal" (top 69)) (nZ:FG K mg "named_refusal" (top 128)) (qo:CG K mg d.fQ "Coupon" "Coupon.__init__" (inClass (top 39) 0)) (qp:FG K mg "new_coupons" (top 110)) (kU:FG K mg "next_ticket_number" (top 105)) (qr:CG K mg d.gq "Credit" "Credit.__init__" (inClass (top 44) 0)) (qt:FG K mg "settle_rest" (top 126)) (px:MG K d.fQ "worth" "Coupon.worth" (inClass (top 39) 1)) (t6:FG K mg "worths_of" (top 42)) (qu:CG K mg d.fX "Ticket" "Ticket.__init__" (inClass (top 43) 0)) (wL:FG K mg "exchange" (top 124)) (Nw:FG K mg "draw" (top 113)) (mT:FG K mg "are_credits_of" (top 112)) (n6:FG K mg "issue_refusal" (top 111)) (Jp:FG K mg "issue" (top 109)) (Dd:FG K mg "refund" (top 127)) (qv:FG K mg "tell_credit" (top 91)) (qw:FG K mg "all_coupons" (top 96)) (lZ:MG K d.fQ "has_ended" "Coupon.has_ended" (inClass (top 39) 3)) (rX:FG K mg "tell_heaps" (top 93)) (pz:FG K mg "is_lifted_by" (top 95)) (qx:FG K mg "tell_lifted" (top 94)) (pA:FG K mg "is_or_was_on" (top 98)) (zj:FG K mg "tell_on" (top 97)) (qy:FG K mg "tell_ticket" (top 92)) (pB:FG K mg "tell_tickets" (top 100)) (rY:FG K mg "tell_valid" (top 99)) (De:FG K mg "report" (top 136)) (rZ:FG K mg "revalidate" (top 80)) (Jq:FG K mg "stock" (top 103)) (zk:FG K mg "suspend" (top 81)) (t7:FG K mg "change_by" (top 77)) (qz:FG K mg "is_in_order" (top 79)) (qA:FG K mg "use_refusal" (top 78)) (SW:FG K mg "use" (top 76)) (oh:FG K mg "may_be_voided" (top 116)) (Ny:FG K mg "void" (top 115)) (zm:FG K mg "perform" (top 135)) (t8:FG K mg "answer_to" (top 134)) (t9:FG K mg "read_rows" (top 24)) (r6:FG K mg "read_calls" (top 23)) (r8:CG K mg d.fP "House" "House.__init__" (inClass (top 45) 0)) (zo:FG K mg "answers" (top 133)) :
  ∃fd:FuncData,(∀(s:Shared) (us:List Value),us.length=(["calls"]:List Str).length→BindsTo s fd ⟨us,[]⟩ ((["calls"]:List Str).zip us))∧∀base:Heap,K.In base→base.Ns mainGlobals mg→uv P w K mg base S8 9 fa fd ["calls"] (rP K):=by
 obtain ⟨f,fd,F,m⟩:=zo.ex
 have e:=hfa.symm.trans m
 cases e
 obtain ⟨oc,od,kV,doc,pm,an,si,ct,Mi,rfl,lk,S5⟩:=F.ex
 refine ⟨cK "answers" "answers" (ou (top 133)) (mj (top 133)) (fS (top 133)) .none kV doc pm an si ct,λs us hu=>.of_eq (match us,hu with | [_],_=>rfl),λbase _ _=>?_⟩
 have vv:=Bu (base:=base) T ql
 have zp:=xx (base:=base) T vv mQ
 have Df:=zU (base:=base) T vv zp pq
 have kz:=yJ (base:=base) T nU
 have OE:=Ry (base:=base) T kz Jn
 have ym:=DI (base:=base) T OE rR
 have sv:=yQ (base:=base) T nV
 have sx:=yR (base:=base) T OE kz nW
 have SX:=Pp (base:=base) T ym sv sx C9
 have yn:=vV (base:=base) T mF
 have yo:=vX (base:=base) T mG
 have wM:=Ku (base:=base) T wJ
 have nE:=Hx (base:=base) T tZ
 have U4:=RI (base:=base) T yn yo wM nE Jo
 have SY:=Po (base:=base) T ym sv sx wM nE Dc
 have yp:=DL (base:=base) T rT
 have r9:=DK (base:=base) T rV
 have ua:=Ae (base:=base) T pw
 have sy:=yN (base:=base) T kz nX
 have om:=tT (base:=base) T sy lH
 have yq:=DT (base:=base) T rW
 have wN:=uA (base:=base) T r9 ua om yq lY
 have sA:=za (base:=base) T nY
 have vw:=Bt (base:=base) T qm
 have Dg:=Kl (base:=base) T vw wK
 have mU:=xC (base:=base) T Dg mR
 have lC:=xD (base:=base) T mU mS
 have sC:=y8 (base:=base) T lC nZ
 have vx:=Bs (base:=base) T qo
 have vy:=BM (base:=base) T vx qp
 have nF:=sG (base:=base) T vw kU
 have Fw:=BL (base:=base) T qr
 have Fx:=B4 (base:=base) T Fw qt
 have Dh:=zR (base:=base) T px
 have pX:=Hy (base:=base) T Dh t6
 have vz:=BK (base:=base) T qu
 have Nz:=K3 (base:=base) T yp wN sA sC vy nF yq Fx pX vz wL
 have XQ:=Uq (base:=base) T Nw
 have zq:=xP (base:=base) T mT
 have Au:=yV (base:=base) T zq r9 om n6
 have U5:=RV (base:=base) T yp XQ Au vy nF pX vz Jp
 have S0:=PD (base:=base) T ua sA sC nE pX Dd
 have Fy:=BV (base:=base) T qv
 have vA:=BU (base:=base) T qw
 have l5:=ux (base:=base) T lZ
 have Jr:=DR (base:=base) T vA wM nE pX l5 rX
 have Di:=Aa (base:=base) T pz
 have Fz:=BW (base:=base) T vA Di nE qx
 have Dj:=Ab (base:=base) T l5 pA
 have P7:=MX (base:=base) T Dj kz zj
 have FA:=BY (base:=base) T mU qy
 have Dk:=Ac (base:=base) T pB
 have Js:=DP (base:=base) T Dg rY
 have S3:=PL (base:=base) T Fy Jr Fz P7 FA Dk Js De
 have Jt:=DG (base:=base) T lC sy vx rZ
 have U6:=RM (base:=base) T r9 Jq
 have P8:=MN (base:=base) T lC zk
 have zK:=Hn (base:=base) T t7
 have FC:=Bz (base:=base) T l5 qz
 have FD:=BA (base:=base) T zK FC kz qA
 have aac:=WO (base:=base) T zK lC FD SW
 have Av:=yZ (base:=base) T oh
 have XR:=Uy (base:=base) T Av mU Ny
 have P9:=M4 (base:=base) T SX U4 SY Nz U5 S0 S3 Jt U6 P8 aac XR zm
 have LO:=HJ (base:=base) T Df P9 t8
 have LP:=Hj (base:=base) T t9
 have Ju:=Dz (base:=base) T LP r6
 have Jv:=DZ (base:=base) T r8
 exact M6 T LO Ju Jv F
end My
end
namespace PySem.W.Fast
def tw15253049822561686307:=1
def tw2761508480553410694:=1
def tw7267731665903051852:=1
def tw17982000872778561195:=1
def tw10421958355970534164:=1
def tw7693189181049348920:=1
def tw15675386400751993019:=1
def tw9217667345250602840:=1
def tw14234326275606169681:=1
def tw1352137735017983900:=1
def tw13372205652007372911:=1
def tw11047444967878915855:=1
def tw15415407909329973229:=1
def tw8566376044403293233:=1
def tw2821728354748691892:=1
def tw14200164825201117370:=1
def tw12657528167891691524:=1
def tw17832502804017776896:=1
def tw18140301194069595759:=1
def tw16511342997781528262:=1
def tw4669142329739629257:=1
def tw7957986638851036709:=1
def tw2859622005631256322:=1
def tw17829652027166297806:=1
def tw4305825829762984633:=1
def tw17324059587852183590:=1
def tw7204607229858168810:=1
def tw3001459143853045200:=1
def tw17265497297657238926:=1
def tw5606581286678085610:=1
def tw3403656797674210546:=1
def tw7605509637584331970:=1
def tw11545922861135833986:=1
def tw9327360111685225207:=1
def tw16719287506307258182:=1
def tw13938679182000687203:=1
def tw15090490215080484221:=1
def tw11654903782761223918:=1
def tw13875772648544939733:=1
def tw11314625346701031345:=1
def tw12030232349674256053:=1
def tw16472280974827895244:=1
def tw7961259701839336953:=1
def tw8417633123664639740:=1
def tw15657093617015914366:=1
def tw16026810320351407041:=1
def tw11296545808359012184:=1
def tw12012202759637619175:=1
def tw2576868026202730719:=1
def tw17688865128702668209:=1
def tw12597821824943899631:=1
def tw3896627967275531455:=1
def tw15696609714016502896:=1
def tw4053701254046013559:=1
def tw15252815639862279398:=1
def tw1858781974322285711:=1
def tw5663429614875482125:=1
def tw17340334436537291875:=1
def tw2605769333294855067:=1
def tw6568737894967979014:=1
def tw3011043579920924315:=1
def tw8925629848200577545:=1
def tw2989659482006908457:=1
def tw13260529311052869568:=1
def tw974013738247103904:=1
def tw10877313193600865397:=1
def tw8881631865190663268:=1
def tw7107758942934697504:=1
def tw2847897776924670769:=1
def tw4553764553234287743:=1
def tw17391195189394879303:=1
def tw14910323999839512747:=1
def tw15062533877579124698:=1
def tw4082330037029337818:=1
def tw15972874544521332643:=1
def tw7083710160597310367:=1
def tw11255190971756741210:=1
def tw6566366237659725673:=1
def tw7127849288970276603:=1
def tw15987476832621881633:=1
def tw8160347858024842413:=1
def tw5026944466771097488:=1
def tw4708532386038219148:=1
def tw2925751566353738425:=1
def tw16550595339850837555:=1
def tw8649204970161150873:=1
def tw13868123878951373803:=1
def tw5076241551100795475:=1
def tw9391038157901539858:=1
def tw15297965303801341123:=1
def tw15869840110431642604:=1
def tw741681228358149364:=1
def tw5142086379360869777:=1
def tw1427795201089410898:=1
def tw9176452470913769438:=1
def tw4246993764015054184:=1
def tw6485240704663984637:=1
def tw10110302099179203234:=1
def tw2015774863994107574:=1
def tw17702329895064589155:=1
def tw1351578320143185265:=1
def tw14589752119558461580:=1
def tw10991392803855368662:=1
def tw3612663797020196315:=1
def tw10854426872921440179:=1
def tw11762751773880059268:=1
def tw16341350105325367074:=1
def tw13362048605396856968:=1
def tw482038185388029144:=1
def tw16818590862077394343:=1
def tw2801372377621024147:=1
def tw17352771348835611983:=1
def tw769377532914507079:=1
def tw15557356285276352172:=1
def tw4948180757756812152:=1
def tw17152598768418028099:=1
def tw17873309238346027722:=1
def tw10039619625042688347:=1
def tw5080841811513795609:=1
def tw18345245965394630958:=1
def tw17996684102616721480:=1
def tw3591992410991255035:=1
def tw8900148422933615389:=1
def tw9869986232043470512:=1
def tw13162853620286472461:=1
def tw5720379826172134836:=1
def tw11470932899275468378:=1
def tw10582999558112593642:=1
def tw15353132480951175839:=1
def tw12744113555550164969:=1
def tw9881169800367409871:=1
def tw50146667489269705:=1
def tw4703771870020870465:=1
def tw17711280575010504308:=1
def tw16787850839958273859:=1
def tw7269907583555827636:=1
def tw1548289263837757096:=1
def tw15708294222439646596:=1
def tw1760807275050415210:=1
def tw15356765330378555475:=1
def tw7515219817206231733:=1
def tw6175009470873093496:=1
def tw17370466387964549842:=1
def tw690213547512795655:=1
def tw8387216861084829245:=1
def tw1595529941018509337:=1
def tw5373409612882690908:=1
def tw3039614570165923857:=1
def tw18205099559582454655:=1
def tw197877078398523352:=1
def tw16315600458491400132:=1
def tw6569852961269539030:=1
def tw12757026494240437016:=1
def tw4208377529954022138:=1
def tw14888224526979631103:=1
def tw10523557324545948264:=1
def tw2483940250206326363:=1
def tw15104669338341328314:=1
def tw5319597598566722259:=1
def tw2492714139313704921:=1
def tw1772507901481586591:=1
def tw12216895690862066433:=1
def tw9900779405281905179:=1
def tw5324052976932682240:=1
def tw16416341432455059158:=1
def tw13251109483075633524:=1
def tw3965867251666524162:=1
def tw3062971876674589698:=1
def tw3148240229851751243:=1
def tw2799023942165329386:=1
def tw5055923587195201066:=1
def tw4831299593323771500:=1
def tw17322707857810172818:=1
def tw1555127393327195898:=1
def tw15499991536081624306:=1
def tw11493615941165922030:=1
def tw8601271255661719180:=1
def tw481261706174466866:=1
def tw11503292634477427521:=1
def tw2996356372346531881:=1
def tw3286496282181061602:=1
def tw9805232395563141562:=1
def tw8136478613274238531:=1
def tw2519397494514906681:=1
def tw8917978058866514665:=1
def tw17220128747842104498:=1
def tw1495426479591914628:=1
def tw1354719254761243492:=1
def tw10967252799698787160:=1
def tw3490834518262615185:=1
def tw8068659437435129150:=1
def tw5344428665808110754:=1
def tw4949364447538368350:=1
def tw1033675924641309921:=1
def tw663569421764092919:=1
def tw2664883354383635697:=1
def tw14529880566583167361:=1
def tw15075033324580121546:=1
def tw4123998082513415175:=1
def tw10709878203733245838:=1
def tw1804472686990534990:=1
def tw8700875355181755304:=1
def tw5959463624199657407:=1
def tw10634038333671382193:=1
def tw11767078079898231727:=1
def tw12804571035705963720:=1
def tw4220163928525214778:=1
def tw1255008735726869517:=1
def tw3138051523928086781:=1
def tw12543113147866487725:=1
def tw12431537902448568740:=1
def tw11943373106026371859:=1
def tw10785931018720189919:=1
def tw18300024309518840579:=1
def tw14667430480116068094:=1
def tw6767038301166952922:=1
def tw11151620937636488848:=1
def tw16255371706379817132:=1
def tw14953363200465669491:=1
def tw6420375463791303505:=1
def tw2065693742644448522:=1
def tw996786325618372797:=1
def tw4795289666365470112:=1
def tw439596854694244880:=1
def tw2284343331294247208:=1
def tw2170560457055202526:=1
end PySem.W.Fast
open PySem PySem.W PyProof.Rows
set_option maxRecDepth 100000 in
set_option maxHeartbeats 0 in
theorem PySem.Challenge.cw_couponhouse_s01_answers_holds : PySem.Challenge.rw_couponhouse_s01_answers.Holds := by
 w_on;k_headS;(case hw=>exact ⟨[.list [.int 13]],by decide +kernel,by decide +kernel⟩)
 k_fillS
 refine L2.M7 (r:=PySem.Challenge.rw_couponhouse_s01_answers) (k:=9) (CX:=L2.S8) (ps:=["calls"]) (sp:=My.rP) (by decide +kernel) rfl rfl ⟨rfl,by decide,by decide⟩ (λw h Y=>PySem.W.kIn_of Y) ?F ?S (λ_ _ _ _ z=>z)
 case S=>exact My.Z5
 case F=>
  intro w mg fa h Y KX G hmg
  refine' My.Xy (P:=PySem.Challenge.rw_couponhouse_s01_answers.prog) (w:=w) KX G ?b0 ?b1 ?b2 ?b3 ?b4 ?b5 ?b6 ?b7 ?b8 ?b9 ?b10 ?b11 ?b12 ?b13 ?b14 ?b15 ?b16 ?b17 ?b18 ?b19 ?b20 ?b21 ?b22 ?b23 ?b24 ?b25 ?b26 ?b27 ?b28 ?b29 ?b30 ?b31 ?b32 ?b33 ?b34 ?b35 ?b36 ?b37 ?b38 ?b39 ?b40 ?b41 ?b42 ?b43 ?b44 ?b45 ?b46 ?b47 ?b48 ?b49 ?b50 ?b51 ?b52 ?b53 ?b54 ?b55 ?b56 ?b57 ?b58 ?b59 ?b60 ?b61 ?b62 ?b63 ?b64 ?b65 ?b66 ?b67 ?b68 ?b69 ?b70 ?b71 ?b72 ?b73 ?b74 ?b75 ?b76 ?b77 ?b78 ?b79 ?b80 ?b81 ?b82 ?b83 ?b84 ?b85 ?b86 ?b87 ?b88 ?b89 ?b90 ?b91 ?b92 ?b93 ?b94 ?b95 ?b96 ?b97 ?b98 ?b99 ?b100 ?b101 ?b102 ?b103 ?b104 ?b105 ?b106 ?b107 ?b108 ?b109 ?b110 ?b111 ?b112 ?b113 ?b114 ?b115 ?b116 ?b117 ?b118 ?b119 ?b120 ?b121 ?b122 ?b123 ?b124 ?b125 ?b126 ?b127 ?b128 ?b129 ?b130 ?b131 ?b132 ?b133 ?b134 ?b135 ?b136 ?b137 ?b138 ?b139 ?b140 ?b141 ?b142 ?b143 ?b144 ?b145 ?b146 ?b147 ?b148 ?b149 ?b150 ?b151 ?b152 ?b153 ?b154 ?b155 ?b156 ?b157 ?b158 ?b159 ?b160 ?b161 ?b162 ?b163 ?b164 ?b165 ?b166 ?b167 ?b168 ?b169 (λT=>?z0)
  (case b0=>k_is);(case b1=>k_is);(case b2=>k_is);(case b3=>k_is);(case b4=>k_is);(case b5=>k_is);(case b6=>k_is);(case b7=>k_is);(case b8=>k_is);(case b9=>k_is);(case b10=>k_is);(case b11=>k_is);(case b12=>k_is);(case b13=>k_is);(case b14=>k_is);(case b15=>k_is);(case b16=>k_is);(case b17=>k_is);(case b18=>k_is);(case b19=>k_is);(case b20=>k_is);(case b21=>k_is);(case b22=>k_is);(case b23=>k_is);(case b24=>k_is);(case b25=>k_is);(case b26=>k_is);(case b27=>k_is);(case b28=>k_is);(case b29=>k_is);(case b30=>k_is);(case b31=>k_is);(case b32=>k_is);(case b33=>k_is);(case b34=>k_is);(case b35=>k_is);(case b36=>k_is);(case b37=>k_is);(case b38=>k_is);(case b39=>k_is);(case b40=>k_is);(case b41=>k_is);(case b42=>k_is);(case b43=>k_is);(case b44=>k_is);(case b45=>k_is);(case b46=>k_is);(case b47=>k_is);(case b48=>k_is);(case b49=>k_is);(case b50=>k_is);(case b51=>k_is);(case b52=>k_is);(case b53=>k_is);(case b54=>k_is);(case b55=>k_is);(case b56=>k_is);(case b57=>k_is);(case b58=>k_is);(case b59=>k_is);(case b60=>k_is);(case b61=>k_is);(case b62=>k_is);(case b63=>k_is);(case b64=>k_is);(case b65=>k_is);(case b66=>k_is);(case b67=>k_is);(case b68=>k_is);(case b69=>k_is);(case b70=>k_is);(case b71=>k_is);(case b72=>k_is);(case b73=>k_is);(case b74=>k_is);(case b75=>k_is);(case b76=>k_is);(case b77=>k_is);(case b78=>k_is);(case b79=>k_is);(case b80=>k_is);(case b81=>k_is);(case b82=>k_is);(case b83=>k_is);(case b84=>k_is);(case b85=>k_is);(case b86=>k_is);(case b87=>k_is);(case b88=>k_is);(case b89=>k_is);(case b90=>k_is);(case b91=>k_is);(case b92=>k_is);(case b93=>k_is);(case b94=>k_is);(case b95=>k_is);(case b96=>k_is);(case b97=>k_is);(case b98=>k_is);(case b99=>k_is);(case b100=>k_is);(case b101=>k_is);(case b102=>k_is);(case b103=>k_is);(case b104=>k_is);(case b105=>k_is);(case b106=>k_is);(case b107=>k_is);(case b108=>k_is);(case b109=>k_is);(case b110=>k_is);(case b111=>k_is);(case b112=>k_is);(case b113=>k_is);(case b114=>k_is);(case b115=>k_is);(case b116=>k_is);(case b117=>k_is);(case b118=>k_is);(case b119=>k_is);(case b120=>k_is);(case b121=>k_is);(case b122=>k_is);(case b123=>k_is);(case b124=>k_is);(case b125=>k_is);(case b126=>k_is);(case b127=>k_is);(case b128=>k_is);(case b129=>k_is);(case b130=>k_is);(case b131=>k_is);(case b132=>k_is);(case b133=>k_is);(case b134=>k_is);(case b135=>k_is);(case b136=>rfl);(case b137=>k_is);(case b138=>k_is);(case b139=>k_is);(case b140=>k_is);(case b141=>k_is);(case b142=>rfl);(case b143=>k_is);(case b144=>k_is);(case b145=>k_is);(case b146=>k_is);(case b147=>k_is);(case b148=>k_is);(case b149=>k_is);(case b150=>k_is);(case b151=>k_is);(case b152=>k_is);(case b153=>k_is);(case b154=>k_is);(case b155=>k_is);(case b156=>k_is);(case b157=>k_is);(case b158=>rfl);(case b159=>k_is);(case b160=>k_is);(case b161=>k_is);(case b162=>k_is);(case b163=>k_is);(case b164=>k_is);(case b165=>rfl);(case b166=>k_is);(case b167=>k_is);(case b168=>k_is);(case b169=>k_is)
  refine' My.gX KX G ?a ?l ?c ?k (λ(ql:My.FG _ _ "is_in_range" (My.top 27))=>?z1)
  (case a=>k_is);(case l=>k_is);(case c=>k_is);(case k=>k_is)
  refine' My.gX KX G ?a ?l ?c ?k (λ(mQ:My.FG _ _ "is_row_as_told" (My.top 26))=>?z2)
  (case a=>k_is);(case l=>k_is);(case c=>k_is);(case k=>k_is)
  refine' My.gX KX G ?a ?l ?c ?k (λ(pq:My.FG _ _ "is_in_ranges" (My.top 25))=>?z3)
  (case a=>k_is);(case l=>k_is);(case c=>k_is);(case k=>k_is)
  refine' My.Rh (x:="Coupon") KX ?aC ?a ?i ?l ?c ?k (λ(nU:My.MG _ _ "flight" "Coupon.flight" (L2.inClass (My.top 39) 2))=>?z4)
  (case aC=>k_is);(case a=>k_is);(case i=>k_is);(case l=>k_is);(case c=>k_is);(case k=>k_is)
  refine' My.gX KX G ?a ?l ?c ?k (λ(Jn:My.FG _ _ "is_on" (My.top 88))=>?z5)
  (case a=>k_is);(case l=>k_is);(case c=>k_is);(case k=>k_is)
  refine' My.gX KX G ?a ?l ?c ?k (λ(rR:My.FG _ _ "coupons_on" (My.top 87))=>?z6)
  (case a=>k_is);(case l=>k_is);(case c=>k_is);(case k=>k_is)
  refine' My.gX KX G ?a ?l ?c ?k (λ(nV:My.FG _ _ "leave_refusal" (My.top 86))=>?z7)
  (case a=>k_is);(case l=>k_is);(case c=>k_is);(case k=>k_is)
  refine' My.gX KX G ?a ?l ?c ?k (λ(nW:My.FG _ _ "release_later" (My.top 89))=>?z8)
  (case a=>k_is);(case l=>k_is);(case c=>k_is);(case k=>k_is)
  refine' My.gX KX G ?a ?l ?c ?k (λ(C9:My.FG _ _ "cancel" (My.top 85))=>?z9)
  (case a=>k_is);(case l=>k_is);(case c=>k_is);(case k=>k_is)
  refine' My.gX KX G ?a ?l ?c ?k (λ(mF:My.FG _ _ "run_out_coupons" (My.top 63))=>?z10)
  (case a=>k_is);(case l=>k_is);(case c=>k_is);(case k=>k_is)
  refine' My.gX KX G ?a ?l ?c ?k (λ(mG:My.FG _ _ "run_out_credits" (My.top 64))=>?z11)
  (case a=>k_is);(case l=>k_is);(case c=>k_is);(case k=>k_is)
  refine' My.gX KX G ?a ?l ?c ?k (λ(wJ:My.FG _ _ "taxes_of" (My.top 41))=>?z12)
  (case a=>k_is);(case l=>k_is);(case c=>k_is);(case k=>k_is)
  refine' My.gX KX G ?a ?l ?c ?k (λ(tZ:My.FG _ _ "values_of" (My.top 40))=>?z13)
  (case a=>k_is);(case l=>k_is);(case c=>k_is);(case k=>k_is)
  refine' My.gX KX G ?a ?l ?c ?k (λ(Jo:My.FG _ _ "clock" (My.top 62))=>?z14)
  (case a=>k_is);(case l=>k_is);(case c=>k_is);(case k=>k_is)
  refine' My.gX KX G ?a ?l ?c ?k (λ(Dc:My.FG _ _ "depart" (My.top 84))=>?z15)
  (case a=>k_is);(case l=>k_is);(case c=>k_is);(case k=>k_is)
  refine' My.gX KX G ?a ?l ?c ?k (λ(rT:My.FG _ _ "add_ticket" (My.top 114))=>?z16)
  (case a=>k_is);(case l=>k_is);(case c=>k_is);(case k=>k_is)
  refine' My.gX KX G ?a ?l ?c ?k (λ(rV:My.FG _ _ "forms_left" (My.top 104))=>?z17)
  (case a=>k_is);(case l=>k_is);(case c=>k_is);(case k=>k_is)
  refine' My.gX KX G ?a ?l ?c ?k (λ(pw:My.FG _ _ "is_any_twice" (My.top 131))=>?z18)
  (case a=>k_is);(case l=>k_is);(case c=>k_is);(case k=>k_is)
  refine' My.gX KX G ?a ?l ?c ?k (λ(nX:My.FG _ _ "may_be_issued" (My.top 71))=>?z19)
  (case a=>k_is);(case l=>k_is);(case c=>k_is);(case k=>k_is)
  refine' My.gX KX G ?a ?l ?c ?k (λ(lH:My.FG _ _ "may_all_be_issued" (My.top 70))=>?z20)
  (case a=>k_is);(case l=>k_is);(case c=>k_is);(case k=>k_is)
  refine' My.gX KX G ?a ?l ?c ?k (λ(rW:My.FG _ _ "passengers" (My.top 130))=>?z21)
  (case a=>k_is);(case l=>k_is);(case c=>k_is);(case k=>k_is)
  refine' My.gX KX G ?a ?l ?c ?k (λ(lY:My.FG _ _ "exchange_refusal" (My.top 125))=>?z22)
  (case a=>k_is);(case l=>k_is);(case c=>k_is);(case k=>k_is)
  refine' My.gX KX G ?a ?l ?c ?k (λ(nY:My.FG _ _ "named_coupons" (My.top 129))=>?z23)
  (case a=>k_is);(case l=>k_is);(case c=>k_is);(case k=>k_is)
  refine' My.gX KX G ?a ?l ?c ?k (λ(qm:My.FG _ _ "check_digit" (My.top 66))=>?z24)
  (case a=>k_is);(case l=>k_is);(case c=>k_is);(case k=>k_is)
  refine' My.gX KX G ?a ?l ?c ?k (λ(wK:My.FG _ _ "is_right" (My.top 67))=>?z25)
  (case a=>k_is);(case l=>k_is);(case c=>k_is);(case k=>k_is)
  refine' My.gX KX G ?a ?l ?c ?k (λ(mR:My.FG _ _ "ticket_refusal" (My.top 68))=>?z26)
  (case a=>k_is);(case l=>k_is);(case c=>k_is);(case k=>k_is)
  refine' My.gX KX G ?a ?l ?c ?k (λ(mS:My.FG _ _ "coupon_refusal" (My.top 69))=>?z27)
  (case a=>k_is);(case l=>k_is);(case c=>k_is);(case k=>k_is)
  refine' My.gX KX G ?a ?l ?c ?k (λ(nZ:My.FG _ _ "named_refusal" (My.top 128))=>?z28)
  (case a=>k_is);(case l=>k_is);(case c=>k_is);(case k=>k_is)
  refine' My.Of (x:="Coupon") KX G ?aC ?a ?i ?l ?c ?k ?mk ?kc (λ(qo:My.CG _ _ _ "Coupon" "Coupon.__init__" (L2.inClass (My.top 39) 0))=>?z29)
  (case aC=>k_is);(case a=>k_is);(case i=>k_is);(case l=>k_is);(case c=>k_is);(case k=>k_is);(case mk=>k_is);(case kc=>k_is)
  refine' My.gX KX G ?a ?l ?c ?k (λ(qp:My.FG _ _ "new_coupons" (My.top 110))=>?z30)
  (case a=>k_is);(case l=>k_is);(case c=>k_is);(case k=>k_is)
  refine' My.gX KX G ?a ?l ?c ?k (λ(kU:My.FG _ _ "next_ticket_number" (My.top 105))=>?z31)
  (case a=>k_is);(case l=>k_is);(case c=>k_is);(case k=>k_is)
  refine' My.Of (x:="Credit") KX G ?aC ?a ?i ?l ?c ?k ?mk ?kc (λ(qr:My.CG _ _ _ "Credit" "Credit.__init__" (L2.inClass (My.top 44) 0))=>?z32)
  (case aC=>k_is);(case a=>k_is);(case i=>k_is);(case l=>k_is);(case c=>k_is);(case k=>k_is);(case mk=>k_is);(case kc=>k_is)
  refine' My.gX KX G ?a ?l ?c ?k (λ(qt:My.FG _ _ "settle_rest" (My.top 126))=>?z33)
  (case a=>k_is);(case l=>k_is);(case c=>k_is);(case k=>k_is)
  refine' My.Rh (x:="Coupon") KX ?aC ?a ?i ?l ?c ?k (λ(px:My.MG _ _ "worth" "Coupon.worth" (L2.inClass (My.top 39) 1))=>?z34)
  (case aC=>k_is);(case a=>k_is);(case i=>k_is);(case l=>k_is);(case c=>k_is);(case k=>k_is)
  refine' My.gX KX G ?a ?l ?c ?k (λ(t6:My.FG _ _ "worths_of" (My.top 42))=>?z35)
  (case a=>k_is);(case l=>k_is);(case c=>k_is);(case k=>k_is)
  refine' My.Of (x:="Ticket") KX G ?aC ?a ?i ?l ?c ?k ?mk ?kc (λ(qu:My.CG _ _ _ "Ticket" "Ticket.__init__" (L2.inClass (My.top 43) 0))=>?z36)
  (case aC=>k_is);(case a=>k_is);(case i=>k_is);(case l=>k_is);(case c=>k_is);(case k=>k_is);(case mk=>k_is);(case kc=>k_is)
  refine' My.gX KX G ?a ?l ?c ?k (λ(wL:My.FG _ _ "exchange" (My.top 124))=>?z37)
  (case a=>k_is);(case l=>k_is);(case c=>k_is);(case k=>k_is)
  refine' My.gX KX G ?a ?l ?c ?k (λ(Nw:My.FG _ _ "draw" (My.top 113))=>?z38)
  (case a=>k_is);(case l=>k_is);(case c=>k_is);(case k=>k_is)
  refine' My.gX KX G ?a ?l ?c ?k (λ(mT:My.FG _ _ "are_credits_of" (My.top 112))=>?z39)
  (case a=>k_is);(case l=>k_is);(case c=>k_is);(case k=>k_is)
  refine' My.gX KX G ?a ?l ?c ?k (λ(n6:My.FG _ _ "issue_refusal" (My.top 111))=>?z40)
  (case a=>k_is);(case l=>k_is);(case c=>k_is);(case k=>k_is)
  refine' My.gX KX G ?a ?l ?c ?k (λ(Jp:My.FG _ _ "issue" (My.top 109))=>?z41)
  (case a=>k_is);(case l=>k_is);(case c=>k_is);(case k=>k_is)
  refine' My.gX KX G ?a ?l ?c ?k (λ(Dd:My.FG _ _ "refund" (My.top 127))=>?z42)
  (case a=>k_is);(case l=>k_is);(case c=>k_is);(case k=>k_is)
  refine' My.gX KX G ?a ?l ?c ?k (λ(qv:My.FG _ _ "tell_credit" (My.top 91))=>?z43)
  (case a=>k_is);(case l=>k_is);(case c=>k_is);(case k=>k_is)
  refine' My.gX KX G ?a ?l ?c ?k (λ(qw:My.FG _ _ "all_coupons" (My.top 96))=>?z44)
  (case a=>k_is);(case l=>k_is);(case c=>k_is);(case k=>k_is)
  refine' My.Rh (x:="Coupon") KX ?aC ?a ?i ?l ?c ?k (λ(lZ:My.MG _ _ "has_ended" "Coupon.has_ended" (L2.inClass (My.top 39) 3))=>?z45)
  (case aC=>k_is);(case a=>k_is);(case i=>k_is);(case l=>k_is);(case c=>k_is);(case k=>k_is)
  refine' My.gX KX G ?a ?l ?c ?k (λ(rX:My.FG _ _ "tell_heaps" (My.top 93))=>?z46)
  (case a=>k_is);(case l=>k_is);(case c=>k_is);(case k=>k_is)
  refine' My.gX KX G ?a ?l ?c ?k (λ(pz:My.FG _ _ "is_lifted_by" (My.top 95))=>?z47)
  (case a=>k_is);(case l=>k_is);(case c=>k_is);(case k=>k_is)
  refine' My.gX KX G ?a ?l ?c ?k (λ(qx:My.FG _ _ "tell_lifted" (My.top 94))=>?z48)
  (case a=>k_is);(case l=>k_is);(case c=>k_is);(case k=>k_is)
  refine' My.gX KX G ?a ?l ?c ?k (λ(pA:My.FG _ _ "is_or_was_on" (My.top 98))=>?z49)
  (case a=>k_is);(case l=>k_is);(case c=>k_is);(case k=>k_is)
  refine' My.gX KX G ?a ?l ?c ?k (λ(zj:My.FG _ _ "tell_on" (My.top 97))=>?z50)
  (case a=>k_is);(case l=>k_is);(case c=>k_is);(case k=>k_is)
  refine' My.gX KX G ?a ?l ?c ?k (λ(qy:My.FG _ _ "tell_ticket" (My.top 92))=>?z51)
  (case a=>k_is);(case l=>k_is);(case c=>k_is);(case k=>k_is)
  refine' My.gX KX G ?a ?l ?c ?k (λ(pB:My.FG _ _ "tell_tickets" (My.top 100))=>?z52)
  (case a=>k_is);(case l=>k_is);(case c=>k_is);(case k=>k_is)
  refine' My.gX KX G ?a ?l ?c ?k (λ(rY:My.FG _ _ "tell_valid" (My.top 99))=>?z53)
  (case a=>k_is);(case l=>k_is);(case c=>k_is);(case k=>k_is)
  refine' My.gX KX G ?a ?l ?c ?k (λ(De:My.FG _ _ "report" (My.top 136))=>?z54)
  (case a=>k_is);(case l=>k_is);(case c=>k_is);(case k=>k_is)
  refine' My.gX KX G ?a ?l ?c ?k (λ(rZ:My.FG _ _ "revalidate" (My.top 80))=>?z55)
  (case a=>k_is);(case l=>k_is);(case c=>k_is);(case k=>k_is)
  refine' My.gX KX G ?a ?l ?c ?k (λ(Jq:My.FG _ _ "stock" (My.top 103))=>?z56)
  (case a=>k_is);(case l=>k_is);(case c=>k_is);(case k=>k_is)
  refine' My.gX KX G ?a ?l ?c ?k (λ(zk:My.FG _ _ "suspend" (My.top 81))=>?z57)
  (case a=>k_is);(case l=>k_is);(case c=>k_is);(case k=>k_is)
  refine' My.gX KX G ?a ?l ?c ?k (λ(t7:My.FG _ _ "change_by" (My.top 77))=>?z58)
  (case a=>k_is);(case l=>k_is);(case c=>k_is);(case k=>k_is)
  refine' My.gX KX G ?a ?l ?c ?k (λ(qz:My.FG _ _ "is_in_order" (My.top 79))=>?z59)
  (case a=>k_is);(case l=>k_is);(case c=>k_is);(case k=>k_is)
  refine' My.gX KX G ?a ?l ?c ?k (λ(qA:My.FG _ _ "use_refusal" (My.top 78))=>?z60)
  (case a=>k_is);(case l=>k_is);(case c=>k_is);(case k=>k_is)
  refine' My.gX KX G ?a ?l ?c ?k (λ(SW:My.FG _ _ "use" (My.top 76))=>?z61)
  (case a=>k_is);(case l=>k_is);(case c=>k_is);(case k=>k_is)
  refine' My.gX KX G ?a ?l ?c ?k (λ(oh:My.FG _ _ "may_be_voided" (My.top 116))=>?z62)
  (case a=>k_is);(case l=>k_is);(case c=>k_is);(case k=>k_is)
  refine' My.gX KX G ?a ?l ?c ?k (λ(Ny:My.FG _ _ "void" (My.top 115))=>?z63)
  (case a=>k_is);(case l=>k_is);(case c=>k_is);(case k=>k_is)
  refine' My.gX KX G ?a ?l ?c ?k (λ(zm:My.FG _ _ "perform" (My.top 135))=>?z64)
  (case a=>k_is);(case l=>k_is);(case c=>k_is);(case k=>k_is)
  refine' My.gX KX G ?a ?l ?c ?k (λ(t8:My.FG _ _ "answer_to" (My.top 134))=>?z65)
  (case a=>k_is);(case l=>k_is);(case c=>k_is);(case k=>k_is)
  refine' My.gX KX G ?a ?l ?c ?k (λ(t9:My.FG _ _ "read_rows" (My.top 24))=>?z66)
  (case a=>k_is);(case l=>k_is);(case c=>k_is);(case k=>k_is)
  refine' My.gX KX G ?a ?l ?c ?k (λ(r6:My.FG _ _ "read_calls" (My.top 23))=>?z67)
  (case a=>k_is);(case l=>k_is);(case c=>k_is);(case k=>k_is)
  refine' My.Of (x:="House") KX G ?aC ?a ?i ?l ?c ?k ?mk ?kc (λ(r8:My.CG _ _ _ "House" "House.__init__" (L2.inClass (My.top 45) 0))=>?z68)
  (case aC=>k_is);(case a=>k_is);(case i=>k_is);(case l=>k_is);(case c=>k_is);(case k=>k_is);(case mk=>k_is);(case kc=>k_is)
  refine' My.gX KX G ?a ?l ?c ?k (λ(zo:My.FG _ _ "answers" (My.top 133))=>?z69)
  (case a=>k_is);(case l=>k_is);(case c=>k_is);(case k=>k_is)
  exact My.aab hmg T ql mQ pq nU Jn rR nV nW C9 mF mG wJ tZ Jo Dc rT rV pw nX lH rW lY nY qm wK mR mS nZ qo qp kU qr qt px t6 qu wL Nw mT n6 Jp Dd qv qw lZ rX pz qx pA zj qy pB rY De rZ Jq zk t7 qz qA SW oh Ny zm t8 t9 r6 r8 zo
