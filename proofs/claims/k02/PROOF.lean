import PyProof.Rows.All
import Wide.All
import OpenK.AllK
import Wide.FinOn
import Lean
import PyProof.EqAt
import PyProof.EqKinds
import PyProof.TupleCall
import PyProof.NeKinds
import PyProof.AttrMissHeap
import PyProof.EnumMake
import PyProof.DictUpdate
import KE.KDictOf
import KE.KDictList
import PyProof.MaxThree
import PyProof.ListStr
import PyProof.ConsumeWalk
import PyProof.SliceStr2
import PyProof.StrBlockI
import PyProof.EnumStmt
import PyProof.ZipIter
import PyProof.Rows.CallKwBuiltin
import PyProof.Rows.SeqMore
import PyProof.Rows.SortRuns
import PyProof.Rows.SortPure
import PyProof.Rows.SortShell
import PyProof.Dict
import PyProof.TupleOfStr
import PyProof.Rows.StrRules
import PyProof.ExcBaseAll.ValueError
import PyProof.ExcArgsOwn
import PyProof.ExcAttrAll.ValueError
import KE.KIsAll
import KE.RegKIsAll
import PySem.Challenge.RW_joinwood_k02_rows
set_option Elab.async false
set_option linter.all false
set_option maxRecDepth 100000
set_option maxHeartbeats 4000000
open PySem.W renaming Frag->Xa,kitOne->Xq,nsIn->Xy,mg_none_of->XI,keepIn->XO,mg_of->Yk,fnOf->Yo,codeIn->Yq,findIn->YM
open List renaming getElem?_eq_getElem->Xb,length_map->Xc,getElem?_set_self->Xd,mem_cons_of_mem->Xe,getElem?_set_ne->Xf,mem_cons_self->Xi,getElem?_eq_some_iff->Xj,getElem?_map->Xk,mem_of_getElem?->Xl,size_toArray->Xm,mem_singleton->Xs,map_cons->Xt,mem_cons->Xv,append_assoc->Xw,getElem?_eq_none->Xz,mem_append->XA,length_take->XC,set_eq_of_length_le->XD,pairwise_append->XF,length_append->XH,mem_map->XL,all_eq_true->XM,mem_append_right->XQ,take_of_length_le->XR,length_set->XS,take_append_drop->XT,map->XV,getD_eq_getElem?_getD->XW,map_append->XY,range->Ya,append_nil->Yd,mem_range->Ye,getElem?_append_right->Yf,length_cons->Yh,length_eq_zero_iff->Yi,exists_cons_of_length_eq_add_one->Yj,nodup_cons->Yl,getElem?_append_left->Yn,find?_cons->Ys,drop_of_length_le->Yv,Perm->Yw,getElem?_cons_succ->Yx,getElem_mem->YA,extract_eq_drop_take->YB,drop_eq_getElem_cons->YC,filterMap_cons->YD,length_replicate->YF,perm_append_comm->YG,all_map->YJ,take_length->YL,replicate->YN,length_range->YO,pairwise_map->YQ
open PySem.Heap renaming get?_push_of_some->Xg,lt_size->Xx,get?_push_size->XG,get?_update_other->Yb,get?_update_self->Yc,SameBut->Yz
open Array renaming toList_append->Xh,getElem?_toList->Xn,length_toList->Xp,getElem?_eq_some_iff->Yg,toList_reverse->Yp,getElem?_eq_getElem->Yu
open Nat renaming le_refl->Xo,lt_of_lt_of_le->XE,ne_of_lt->XJ,zero_le->XX,lt_irrefl->Yy,lt_succ_of_lt->YE,le_trans->YH,lt_or_ge->YI
open Bool renaming false_ne_true->Xr,false_eq_true->Xu,and_eq_true->Yr
open PySem.SetTable renaming below->XU,insertAt->XZ,runEnd->Ym
open Int renaming emod_nonneg->Yt,emod_lt_of_pos->YK
theorem aU0x (h:True:=by rfl):True:=h
abbrev aU0:Lean.Syntax:=aU0x._auto_1
theorem aU1x (h:True:=by decide):True:=h
abbrev aU1:Lean.Syntax:=aU1x._auto_1
theorem aU2x (h:True:=by intro _;rfl):True:=h
abbrev aU2:Lean.Syntax:=aU2x._auto_1
theorem aU3x (h:True:=by first | exact .inl rfl | exact .inr rfl | assumption):True:=h
abbrev aU3:Lean.Syntax:=aU3x._auto_1
theorem aU4x (h:True:=by first | exact Or.inl rfl | exact Or.inr (Or.inl rfl) | exact Or.inr (Or.inr rfl)):True:=h
abbrev aU4:Lean.Syntax:=aU4x._auto_1
theorem aU5x (h:True:=by first | exact zeb _ | rfl):True:=h
abbrev aU5:Lean.Syntax:=aU5x._auto_1
theorem aU6x (h:True:=by exact λ_ _=>rfl):True:=h
abbrev aU6:Lean.Syntax:=aU6x._auto_1
theorem aU7x (h:True:=by exact⟨rfl,rfl,rfl,rfl⟩):True:=h
abbrev aU7:Lean.Syntax:=aU7x._auto_1
namespace L2
open PySem PySem.Spec PyProof.Rows
noncomputable abbrev Key:=Sum Int Str
noncomputable def zgV:Key->Value->Bool
 | .inl k,v=>Value.isInt k v
 | .inr x,v=>Value.isStrOf x v
noncomputable def keyH (w:World):Key->Int
 | .inl k=>hashInt k
 | .inr x=>hashStr w x
theorem zaw:∀ {k:Key}{v:Value},zgV k v=true->(∃i t,k=Sum.inl i/\v=Value.int i t)\/(∃x t,k=Sum.inr x/\v=Value.str x t)
 | .inl i,v,h=>by
  obtain⟨t,e⟩:=Value.isInt_shape (k:=i) (v:=v) h;exact .inl ⟨i,t,rfl,e⟩
 | .inr x,v,h=>by
  obtain⟨t,e⟩:=Value.isStrOf_shape (x:=x) (v:=v) h;exact .inr ⟨x,t,rfl,e⟩
theorem zjA (i:Int)(t:Tok):zgV (.inl i) (.int i t)=true:=by simp[zgV,Value.isInt]
theorem zjB (x:Str)(t:Tok):zgV (.inr x) (.str x t)=true:=by simp[zgV,Value.isStrOf]
theorem zpi (a b:Int):decide ((Sum.inl a:Key)=Sum.inl b)=(a == b):=by
 by_cases e:a=b
 ·subst e;simp
 ·have h:¬ (Sum.inl a:Key)=Sum.inl b:=λq=>e (Sum.inl.inj q);rw[decide_eq_false h];exact(beq_eq_false_iff_ne.mpr e).symm
theorem zpj (a b:Str):decide ((Sum.inr a:Key)=Sum.inr b)=decide (a=b):=by
 by_cases e:a=b
 ·subst e;simp
 ·have h:¬ (Sum.inr a:Key)=Sum.inr b:=λq=>e (Sum.inr.inj q);rw[decide_eq_false h,decide_eq_false e]
theorem zpk (a:Int)(b:Str):decide ((Sum.inl a:Key)=Sum.inr b)=false:=decide_eq_false (λq=>nomatch q)
theorem zpl (a:Str)(b:Int):decide ((Sum.inr a:Key)=Sum.inl b)=false:=decide_eq_false (λq=>nomatch q)
noncomputable def zax (prog:Program)(w:World):PySem.KeyKind prog w Key where
 is:=zgV
 hash:=keyH w
 inj:=λv a b ha hb=>by
  rcases zaw ha with ⟨i,t,rfl,rfl⟩ | ⟨x,t,rfl,rfl⟩
  ·rcases zaw hb with ⟨j,u,rfl,e⟩ | ⟨y,u,rfl,e⟩
   ·injection e with e1 _;rw[e1]
   ·exact nomatch e
  ·rcases zaw hb with ⟨j,u,rfl,e⟩ | ⟨y,u,rfl,e⟩
   ·exact nomatch e
   ·injection e with e1 _;rw[e1]
 byValue:=λk v h=>by
  rcases zaw h with ⟨i,t,rfl,rfl⟩ | ⟨x,t,rfl,rfl⟩<;>rfl
 pyHash:=λhv h=>by
  rcases zaw hv with ⟨i,t,rfl,rfl⟩ | ⟨x,t,rfl,rfl⟩
  ·exact wpAny_pyHash_int h
  ·exact wpAny_pyHash_str h
 eqBool:=λhu hv h=>by
  rcases zaw hu with ⟨i,t,rfl,rfl⟩ | ⟨x,t,rfl,rfl⟩
  ·rcases zaw hv with ⟨j,u,rfl,rfl⟩ | ⟨y,u,rfl,rfl⟩
   ·rw[zpi]at h;exact wpAny_eqBool_int h
   ·rw[zpk]at h;exact SeqAt.EqAt.int_str i t y u _ _ _ _ h
  ·rcases zaw hv with ⟨j,u,rfl,rfl⟩ | ⟨y,u,rfl,rfl⟩
   ·rw[zpl]at h;exact SeqAt.EqAt.str_int x t j u _ _ _ _ h
   ·rw[zpj]at h;exact wpAny_eqBool_str h
 «strs»:=λk x t v h=>by
  rcases zaw h with ⟨i,u,rfl,e⟩ | ⟨y,u,rfl,e⟩
  ·exact nomatch e
  ·injection e with e1 _;subst e1;cases v<;>rfl
theorem zgW (prog:Program)(w:World)(i:Int)(t:Tok):(zax prog w).is (.inl i) (.int i t)=true:=zjA i t
theorem zgX (prog:Program)(w:World)(x:Str)(t:Tok):(zax prog w).is (.inr x) (.str x t)=true:=zjB x t
inductive V where
 | non | bl (b:Bool) | int (i:Int) | str (x:Str) | byt (b:Array UInt8) | flt (b:UInt64) | ref (a:Addr) | ty (n:String)
 deriving DecidableEq
noncomputable def RelV:V->Value->Prop
 | .non,u=>u=Value.none
 | .bl b,u=>u=Value.bool b
 | .int i,u=>∃t,u=Value.int i t
 | .str x,u=>∃t,u=Value.str x t
 | .byt b,u=>∃t,u=Value.bytes b t
 | .flt b,u=>∃t,u=Value.float b t
 | .ref a,u=>u=Value.ref a
 | .ty n,u=>u=Value.type n
noncomputable abbrev Vals:List V->List Value->Prop:=Paired RelV
theorem Vals.length {xs:List V}{us:List Value}(r:Vals xs us):xs.length=us.length:=Paired.length r
theorem Vals.get:∀ {xs:List V}{us:List Value}{i:Nat}{x:V},Vals xs us->xs[i]? = some x->∃u,us[i]? = some u/\RelV x u
 | _,_,_,_,.nil,e=>by simp at e
 | _,_,0,_,.cons r _,e=>by simp at e;subst e;exact⟨_,rfl,r⟩
 | _,_,i+1,x,.cons _ t,e=>by
  obtain⟨u,h1,h2⟩:=Vals.get (i:=i) (x:=x) t (by simpa using e);exact⟨u,by simpa using h1,h2⟩
theorem Vals.set {x:V}{u:Value}(r:RelV x u):∀ {xs:List V}{us:List Value}(i:Nat),Vals xs us->Vals (xs.set i x) (us.set i u)
 | _,_,_,.nil=>.nil
 | _,_,0,.cons _ t=>.cons r t
 | _,_,i+1,.cons q t=>.cons q (Vals.set r i t)
theorem Vals.append:∀ {xs ys:List V}{us ws:List Value},Vals xs us->Vals ys ws->Vals (xs++ys) (us++ws):=by
 intro xs ys us ws h s;induction h with
 | nil=>exact s
 | cons r t ih=>exact .cons r ih
theorem Vals.take:∀ {xs:List V}{us:List Value}(n:Nat),Vals xs us->Vals (xs.take n) (us.take n)
 | _,_,0,_=>.nil
 | _,_,_+1,.nil=>.nil
 | _,_,n+1,.cons r t=>.cons r (Vals.take n t)
theorem Vals.drop:∀ {xs:List V}{us:List Value}(n:Nat),Vals xs us->Vals (xs.drop n) (us.drop n)
 | _,_,0,r=>r
 | _,_,_+1,.nil=>.nil
 | _,_,n+1,.cons _ t=>Vals.drop n t
noncomputable def RelO:Option V->Option Value->Prop
 | some v,some u=>RelV v u
 | none,none=>True
 | _,_=>False
noncomputable def KV {κ:Type}:List (κ×V)->List (κ×Value)->Prop:=Paired λ(p:κ×V)(q:κ×Value)=>p.1=q.1/\RelV p.2 q.2
noncomputable def kV:Key->V
 | .inl i=>.int i
 | .inr x=>.str x
inductive HO where
  | lst (xs:List V)
  | tup (xs:List V)
  | dK (kvs:List (Key×V)) | dT (kvs:List (List Key×V))
  | set (S:Int->Bool) (n:Nat)
  | ins (C dx:Addr) (fs:List (Str×V))
  | own (x:Addr)
  | xd (fs:List (Str×V))
  | met (f x:Addr)
  | rng (lo hi:Int)
  | frz (o:Obj) (u:HO)
  | tbl (ps:Array Value)
  | ext (φ:Heap->Prop)
noncomputable abbrev Hp:=Addr->Option HO
noncomputable def upd (H:Hp)(a:Addr)(o:HO):Hp:=λb=>if b=a then some o else H b
theorem zaj {H:Hp}{a:Addr}{o:HO}:upd H a o a=some o:=by unfold upd;rw[if_pos rfl]
theorem zah {H:Hp}{a b:Addr}{o:HO}(h:b≠a):upd H a o b=H b:=by unfold upd;rw[if_neg h]
theorem zrd {H:Hp}{a b:Addr}{o u:HO}(h:H a=some o)(h':H b=some u)(d:o≠u):a≠b:=by
 intro e;subst e;rw[h]at h';exact d (Option.some.inj h')
theorem zaA {H:Hp}{a b:Addr}{o:HO}(h:H a=some o)(h':H b=none):a≠b:=by
 intro e;subst e;rw[h]at h';cases h'
noncomputable def zbT (h:Heap)(a:Addr)(its:Array Value):Prop:=∃o,h.get? a=some o/\o.cls=.type "tuple"/\(∃n,o.data=.seq its n)/\o.dict=none
theorem zbT.tup {h:Heap}{a:Addr}{its:Array Value}(p:zbT h a its):IsTup h a its:=by obtain⟨o,e,c,⟨n,d⟩,_⟩:=p;exact⟨o,e,c,n,d⟩
theorem zbT.lt {h:Heap}{a:Addr}{its:Array Value}(p:zbT h a its):a<h.objs.size:=p.tup.lt
theorem zbT.new (h:Heap)(items:Array Value):zbT (h.push { cls:=.type "tuple",data:=.seq items }) h.objs.size items:=⟨_,XG _ rfl,rfl,⟨_,rfl⟩,rfl⟩
section
variable (P:Program)(w:World)
noncomputable def zbr (H:Hp)(h:Heap)(a:Addr):HO->Prop
 | .lst xs=>xs.length<=sizeLine/\∃(its:List Value) (n:Nat),Vals xs its/\h.get? a=some { cls:=.type "list",data:=.seq its.toArray n }
 | .tup xs=>xs.length<=sizeLine/\∃its:List Value,Vals xs its/\zbT h a its.toArray
 | .dK kvs=>kvs.length<=sizeLine/\(a == sysModules)=false/\∃vs,KV kvs vs/\h.DictOf (zax P w) a vs
 | .dT kvs=>kvs.length<=sizeLine/\(a == sysModules)=false/\∃xs:List (List Key×Addr×Value),
   Paired (λ(p:List Key×V) (q:List Key×Addr×Value)=>p.1=q.1/\H q.2.1=some (.tup (p.1.map kV))/\RelV p.2 q.2.2) kvs xs/\
   ∃o es ep,h.get? a=some o/\o.ExactDict/\o.data=.dict es ep/\es.toList=xs.map (entryOfKey (tupleKind (zax P w)))/\(xs.map (·.1)).Nodup
 | .set S n=>h.SetOf (intKind P w) a S n
 | .ins C dx fs=>H dx=some (.own a)/\fs.length<=1000/\dx≠a/\h.get? a=some (PySem.W.instObj C dx)/\
   ∃mA,h.Ns1 dx mA/\(∀f,RelO (fs.lookup f) (mA f))/\PySem.Within mA (fs.map (·.1))
 | .own _=>∃o,h.get? a=some o
 | .xd fs=>∃mA,h.Ns1 a mA/\∀f,RelO (fs.lookup f) (mA f)
 | .rng lo hi=>∃t u v,h.get? a=some { cls:=.type "range",data:=.fields #[.int lo t,.int hi u,.int 1 v] }
 | .frz o u=>h.get? a=some o/\zbr H h a u
 | .tbl ps=>h.get? a=some { cls:=.none,data:=.fields ps }
 | .met f x=>h.get? a=some (PySem.W.methodObj (.ref f) (.ref x))
 | .ext φ=>φ h/\(∃o,h.get? a=some o)/\∀h1 h2:Heap,φ h1->(∀o,h1.get? a=some o->h2.get? a=some o)->φ h2
noncomputable def HOk (H:Hp)(h:Heap):Prop:=∀a o,H a=some o->zbr P w H h a o
end
section
variable {P:Program}{w:World}{H H':Hp}{h h':Heap}{a:Addr}{o:HO}
theorem zbr.lt (x:zbr P w H h a o):a<h.objs.size:=by
 cases o with
 | lst xs=>obtain⟨_,_,_,_,e⟩:=x;exact Xx e
 | tup xs=>obtain⟨_,_,_,p⟩:=x;exact p.lt
 | dK kvs=>obtain⟨_,_,_,_,o,_,_,e,_⟩:=x;exact Xx e
 | dT kvs=>obtain⟨_,_,_,_,o,_,_,e,_⟩:=x;exact Xx e
 | set S n=>obtain⟨o,_,_,_,e,_⟩:=x;exact Xx e
 | ins C dx fs=>obtain⟨_,_,_,e,_⟩:=x;exact Xx e
 | own y=>obtain⟨_,e⟩:=x;exact Xx e
 | xd fs=>obtain⟨_,⟨_,_,_,e,_⟩,_⟩:=x;exact Xx e
 | rng lo hi=>obtain⟨_,_,_,e⟩:=x;exact Xx e
 | frz ob u=>obtain⟨e,_⟩:=x;exact Xx e
 | tbl ps=>exact Xx (show h.get? a=some _ from x)
 | met f y=>exact Xx (show h.get? a=some _ from x)
 | ext φ=>obtain⟨_,⟨_,e⟩,_⟩:=x;exact Xx e
theorem Paired.mapP {α β:Type}{F G:α->β->Prop}:∀ {l₁:List α}{l₂:List β},Paired F l₁ l₂->(∀a b,F a b->G a b)->Paired G l₁ l₂:=by
 intro l₁ l₂ h f;induction h with
 | nil=>exact .nil
 | cons r t ih=>exact .cons (f _ _ r) ih
theorem zbr.stay (x:zbr P w H h a o)(k:∀b u,(b=a\/H b=some (.own a))->h.get? b=some u->h'.get? b=some u)
  (ho:∀b,H b=some (.own a)->H' b=some (.own a)) (ht:∀b xs,H b=some (.tup xs)->H' b=some (.tup xs)):zbr P w H' h' a o:=by
 induction o with
 | lst xs=>obtain⟨z,its,n,r,e⟩:=x;exact⟨z,its,n,r,k _ _ (.inl rfl) e⟩
 | tup xs=>obtain⟨z,its,r,ob,e,c⟩:=x;exact⟨z,its,r,ob,k _ _ (.inl rfl) e,c⟩
 | dK kvs=>obtain⟨z,y,vs,r,ob,es,ep,e,c⟩:=x;exact⟨z,y,vs,r,ob,es,ep,k _ _ (.inl rfl) e,c⟩
 | dT kvs=>
  obtain⟨z,y,xs,r,ob,es,ep,e,c⟩:=x;exact⟨z,y,xs,Paired.mapP r λp q z=>⟨z.1,ht _ _ z.2.1,z.2.2⟩,ob,es,ep,k _ _ (.inl rfl) e,c⟩
 | set S n=>obtain⟨ob,es,ep,t,e,c⟩:=x;exact⟨ob,es,ep,t,k _ _ (.inl rfl) e,c⟩
 | ins C dx fs=>
  obtain⟨d,z,ne,e,mA,⟨od,es,ep,e2,c⟩,r⟩:=x;exact⟨ho _ d,z,ne,k _ _ (.inl rfl) e,mA,⟨od,es,ep,k _ _ (.inr d) e2,c⟩,r⟩
 | own y=>obtain⟨ob,e⟩:=x;exact⟨ob,k _ _ (.inl rfl) e⟩
 | xd fs=>obtain⟨mA,⟨od,es,ep,e,c⟩,r⟩:=x;exact⟨mA,⟨od,es,ep,k _ _ (.inl rfl) e,c⟩,r⟩
 | rng lo hi=>obtain⟨t,u,v,e⟩:=x;exact⟨t,u,v,k _ _ (.inl rfl) e⟩
 | frz ob u ih=>obtain⟨e,q⟩:=x;exact⟨k _ _ (.inl rfl) e,ih q⟩
 | tbl ps=>
  have e:h.get? a=some { cls:=.none,data:=.fields ps }:=x;show h'.get? a=some { cls:=.none,data:=.fields ps };exact k a _ (.inl rfl) e
 | met f y=>
  have e:h.get? a=some (PySem.W.methodObj (.ref f) (.ref y)):=x;show h'.get? a=some (PySem.W.methodObj (.ref f) (.ref y));exact k a _ (.inl rfl) e
 | ext φ=>obtain⟨p,⟨o,e⟩,st⟩:=x;exact⟨st _ _ p λo q=>k _ _ (.inl rfl) q,⟨o,k _ _ (.inl rfl) e⟩,st⟩
theorem HOk.lt (x:HOk P w H h)(e:H a=some o):a<h.objs.size:=(x a o e).lt
theorem HOk.fresh (x:HOk P w H h)(e:h.objs.size<=a):H a=none:=by
 cases q:H a with
 | none=>rfl
 | some u=>exact absurd (XE (x.lt q) e) (Yy _)
theorem HOk.kept (x:HOk P w H h)(k:∀b u,h.get? b=some u->h'.get? b=some u):HOk P w H h':=λa o e=>
 (x a o e).stay (λb u _ q=>k b u q) (λ_ q=>q) λ_ _ q=>q
theorem HOk.laid (x:HOk P w H h)(k:∀b u,h.get? b=some u->h'.get? b=some u)(hp:h.objs.size<=a)(new:zbr P w (upd H a o) h' a o):HOk P w (upd H a o) h':=λb u e=>by
 have hn:=x.fresh hp;by_cases hb:b=a
 ·subst hb;rw[zaj]at e;cases e;exact new
 ·rw[zah hb]at e;exact(x b u e).stay (λc v _ q=>k c v q) (λc q=>by rw[zah (zaA q hn)];exact q) λc xs q=>by rw[zah (zaA q hn)];exact q
end
noncomputable def Rd (H:Hp)(a:Addr)(u:HO):Prop:=H a=some u\/∃o,H a=some (.frz o u)
theorem Rd.ok {P:Program}{w:World}{H:Hp}{h:Heap}{a:Addr}{u:HO}(r:Rd H a u)(x:HOk P w H h):zbr P w H h a u:=by
 rcases r with r | ⟨o,r⟩
 ·exact x a u r
 ·obtain⟨_,q⟩:=x a _ r;exact q
noncomputable def Mut:Option HO->Prop
 | some (.lst _)=>True
 | some (.dK _)=>True
 | some (.dT _)=>True
 | some (.set _ _)=>True
 | some (.ins _ _ _)=>True
 | some (.ext _)=>True
 | _=>False
section
variable {P:Program}{w:World}{H:Hp}{h h':Heap}{x e:Addr}{o':HO}
theorem HOk.write (ok:HOk P w H h)(mu:Mut (H x))(he:e=x\/H e=some (.own x))(k:∀b u,b≠e->h.get? b=some u->h'.get? b=some u)(heo:∃u,h'.get? e=some u)
  (new:zbr P w (upd H x o') h' x o'):HOk P w (upd H x o') h':=λb u q=>by
 have nown:∀c y,H c=some (.own y)->c≠x:=λc y r z=>by subst z;rw[r]at mu;exact mu
 have ntup:∀c xs,H c=some (.tup xs)->c≠x:=λc xs r z=>by subst z;rw[r]at mu;exact mu
 by_cases hb:b=x
 ·subst hb;rw[zaj]at q;cases q;exact new
 ·rw[zah hb]at q;by_cases hbe:b=e
  ·have q':H b=some (.own x):=by
    rcases he with z | z
    ·exact absurd (hbe.trans z) hb
    ·rw[hbe];exact z
   rw[q]at q';cases q';obtain⟨v,hv⟩:=heo;exact⟨v,by rw[hbe];exact hv⟩
  ·refine(ok b u q).stay (λc v hc r=>k c v ?_ r) (λc r=>by rw[zah (nown c b r)];exact r) λc xs r=>by rw[zah (ntup c xs r)];exact r
   rcases hc with rfl | hc
   ·exact hbe
   ·rintro rfl;rcases he with z | z
    ·exact nown c b hc z
    ·rw[hc]at z;cases z;exact hb rfl
end
structure Un (fs ex:List Addr)(H H':Hp)(h h':Heap):Prop where
 keep:∀b o,h.get? b=some o->H b=none->b∉fs->b∉ex->h'.get? b=some o
 slot:∀b o,h.get? b=some o->H b=none->b∈fs->b∉ex->∃sl,h'.get? b=some { o with slots:=sl }
 free:∀b o,h.get? b=some o->H b=none->b∉ex->H' b=none
 there:∀b o,h.get? b=some o->b∉ex->∃o',h'.get? b=some o'
 tups:∀b xs,H b=some (.tup xs)->H' b=some (.tup xs)
 frzs:∀b o u,H b=some (.frz o u)->H' b=some (.frz o u)
 tbls:∀b ps,H b=some (.tbl ps)->∃more,H' b=some (.tbl (ps++more))
section
variable {fs fs' ex ex':List Addr}{H H1 H2:Hp}{h h1 h2 h':Heap}{a x e:Addr}{o:HO}
theorem Un.any (u:Un fs ex H H1 h h1){b:Addr}{ob:Obj}(q:h.get? b=some ob)(n:H b=none)(hx:b∉ex):∃sl,h1.get? b=some { ob with slots:=sl }:=by
 by_cases hb:b∈fs
 ·exact u.slot b ob q n hb hx
 ·exact⟨ob.slots,u.keep b ob q n hb hx⟩
theorem Un.trans (a:Un fs ex H H1 h h1)(b:Un fs ex H1 H2 h1 h2):Un fs ex H H2 h h2 where
 keep:=λc ob q n hc hx=>b.keep c ob (a.keep c ob q n hc hx) (a.free c ob q n hx) hc hx
 slot:=λc ob q n hc hx=>by
  obtain⟨sl,e1⟩:=a.slot c ob q n hc hx;obtain⟨sl',e2⟩:=b.slot c _ e1 (a.free c ob q n hx) hc hx;exact⟨sl',e2⟩
 free:=λc ob q n hx=>by
  obtain⟨o',e1⟩:=a.there c ob q hx;exact b.free c o' e1 (a.free c ob q n hx) hx
 there:=λc ob q hx=>by
  obtain⟨o',e1⟩:=a.there c ob q hx;exact b.there c o' e1 hx
 tups:=λc xs q=>b.tups c xs (a.tups c xs q)
 frzs:=λc ob xs q=>b.frzs c ob xs (a.frzs c ob xs q)
 tbls:=λc ps q=>by
  obtain⟨m1,e1⟩:=a.tbls c ps q;obtain⟨m2,e2⟩:=b.tbls c _ e1;exact⟨m1++m2,by rw[e2,Array.append_assoc]⟩
theorem Un.kept (k:∀b u,h.get? b=some u->h'.get? b=some u):Un fs ex H H h h':=
 ⟨λb ob q _ _ _=>k b ob q,λb ob q _ _ _=>⟨ob.slots,k b ob q⟩,λ_ _ _ n _=>n,λb ob q _=>⟨ob,k b ob q⟩,λ_ _ q=>q,λ_ _ _ q=>q,λ_ ps q=>⟨#[],by rw[q];simp⟩⟩
theorem Un.refl:Un fs ex H H h h:=Un.kept λ_ _ q=>q
theorem Un.laid (k:∀b u,h.get? b=some u->h'.get? b=some u)(hp:h.objs.size<=a)(hn:H a=none):Un fs ex H (upd H a o) h h' where
 keep:=λb u q _ _ _=>k b u q
 slot:=λb u q _ _ _=>⟨u.slots,k b u q⟩
 free:=λb u q n _=>by rw[zah (XJ (XE (Xx q) hp))];exact n
 there:=λb u q _=>⟨u,k b u q⟩
 tups:=λb xs q=>by rw[zah (zaA q hn)];exact q
 frzs:=λb u xs q=>by rw[zah (zaA q hn)];exact q
 tbls:=λb ps q=>⟨#[],by rw[zah (zaA q hn),q];simp⟩
theorem Un.write (mu:Mut (H x))(he:e=x\/H e=some (.own x))(k:∀b u,b≠e->h.get? b=some u->h'.get? b=some u)(heo:∃u,h'.get? e=some u):Un fs ex H (upd H x o) h h':=by
 have hx:∀b,H b=none->b≠x:=λb n z=>by subst z;rw[n]at mu;exact mu
 have hb:∀b,H b=none->b≠e:=λb n z=>by
  subst z;rcases he with r | r
  ·exact hx b n r
  ·rw[n]at r;cases r
 have hm:∀b u,H b=some u->¬ Mut (some u)->b≠x:=λb u q nm z=>by subst z;rw[q]at mu;exact nm mu
 refine⟨λb u q n _ _=>k b u (hb b n) q,λb u q n _ _=>⟨u.slots,k b u (hb b n) q⟩,λb u q n _=>by rw[zah (hx b n)];exact n,λb u q _=>?_,
  λb xs q=>by rw[zah (hm b _ q λz=>z)];exact q,λb u xs q=>by rw[zah (hm b _ q λz=>z)];exact q,λb ps q=>⟨#[],by rw[zah (hm b _ q λz=>z),q];simp⟩⟩
 by_cases hbe:b=e
 ·subst hbe;exact heo
 ·exact⟨u,k b u hbe q⟩
theorem Un.mono (u:Un fs ex H H1 h h1)(hs:∀b∈fs,b∈fs')(hx:∀b∈ex,b∈ex'):Un fs' ex' H H1 h h1:=
 ⟨λb ob q n hb he=>u.keep b ob q n (λz=>hb (hs b z)) λz=>he (hx b z),λ_ _ q n _ he=>u.any q n λz=>he (hx _ z),λb ob q n he=>u.free b ob q n λz=>he (hx b z),λb ob q he=>u.there b ob q λz=>he (hx b z),u.tups,u.frzs,u.tbls⟩
end
noncomputable def trk (h:Heap)(H:Hp):List Addr:=(Ya h.objs.size).filter λa=>(H a).isSome
noncomputable def hidT (h:Heap)(H:Hp):Heap:=PySem.W.hideAll h (trk h H)
theorem zjC (h:Heap)(H:Hp):(hidT h H).objs.size=h.objs.size:=PySem.W.hideAll_size _ _
theorem zlS {h:Heap}{H:Hp}{b:Addr}{o:Obj}(e:h.get? b=some o)(n:H b=none):(hidT h H).get? b=some o:=
 PySem.W.hideAll_get _ e λhm=>by
  have q:(H b).isSome=true:=(List.mem_filter.mp hm).2;rw[n]at q;simp at q
theorem znM {h:Heap}{H:Hp}{b:Addr}{o:Obj}(e:(hidT h H).get? b=some o):h.get? b=some o/\H b=none:=by
 have e':h.get? b=some o:=PySem.W.of_hideAll (trk h H) e;refine⟨e',?_⟩;cases q:H b with
 | none=>rfl
 | some x=>
  have hm:b∈trk h H:=List.mem_filter.mpr ⟨Ye.mpr (Xx e'),by simp[q]⟩;have z:(hidT h H).get? b=none:=PySem.W.hideAll_none (trk h H) hm;rw[z]at e;cases e
noncomputable def znN (g h:Heap)(L:Addr):List (Addr×Obj):=(Ya h.objs.size).filterMap λa=>if a=L\/(g.get? a).isSome=true then none else(h.get? a).map λo=>(a,o)
noncomputable def rest (g h:Heap)(L d:Addr):List (Addr×Obj):=(znN g h L).filter λp=>decide (p.1≠d)
structure Mod (K:Xa)(mg:Str->Option Value)(base:Heap):Prop where
 kin:K.In base
 glob:base.Ns mainGlobals mg
 blt:∃mb,base.Ns builtinsNs mb/\∀x:Str,x≠"__name__"->mb x=bootBuiltins x
 nolimit:base.NoLimit
structure Cx where
 prog:Program
 w:World
 K:Xa
 mg:Str->Option Value
 base:Heap
 A:Around
 N:List Str
 s₀:Shared
 H₀:Hp
 env:Env
 outer:List Env
 stack:List Env
 ex:List Addr
 fn:Str->Bool
 calm:Bool
 pn:List (Addr×Obj)
 xe:Value->Shared->Prop
noncomputable def frs (l:List Env):List Addr:=l.filterMap (·.frame)
noncomputable abbrev Cx.fs (X:Cx):List Addr:=frs X.outer
noncomputable def Vis (sc:Scope)(x:Str):Prop:=sc.names.lookup x=some .local\/sc.names.lookup x=some .cell\/sc.names.lookup x=some .free
noncomputable def Loc (sc:Scope)(x:Str):Prop:=sc.names.lookup x=some .local\/sc.names.lookup x=some .cell
noncomputable def Look (env:Env)(h:Heap)(m:Str->Option Value)(x:Str)(u:Value):Prop:=
 (env.kindOf x=some .local/\m x=some u)\/((env.kindOf x=some .cell\/env.kindOf x=some .free)/\∃c,env.cells.lookup x=some c/\h.IsCell c (some u))
structure Cx.Ok (X:Cx):Prop where
 mod:Mod X.K X.mg X.base
 kind:X.env.scope.kind=.function
 glob:X.env.globals=mainGlobals
 blt:X.env.builtins=builtinsNs
 above:X.s₀.heap.objs.size<=X.env.locals
 inj:∀x y c,X.env.cells.lookup x=some c->X.env.cells.lookup y=some c->x=y
 has:∀x,(X.env.kindOf x=some .cell\/X.env.kindOf x=some .free)->∃c,X.env.cells.lookup x=some c
 cab:∀x c,X.fn x=true->X.env.cells.lookup x=some c->X.s₀.heap.objs.size<=c
 hd:X.calm=true->X.A.handled=none
 frames:X.A.frames=some X.stack
 stk:X.stack=X.outer\/(X.stack=X.env::X.outer/\X.env.frame=some X.env.locals)
 exf:∀b∈X.ex,b≠X.env.locals/\∀x c,X.env.cells.lookup x=some c->c≠b
 bs:∀b o,X.base.get? b=some o->X.s₀.heap.get? b=some o/\X.H₀ b=none
 bsz:X.base.objs.size<=X.s₀.heap.objs.size
 noex:∀b o,X.base.get? b=some o->b∉X.ex
 exfs:∀b∈X.ex,b∉X.fs
 funs:X.s₀.heap.FunFrames X.base X.outer
 frf:∀b∈X.fs,X.H₀ b=none
structure Inv (X:Cx)(pins:List (Addr×Obj))(σ:List (Option V))(H:Hp)(s:Shared):Prop where
 ok:X.Ok
 os:s.os=X.s₀.os
 bare:AllBare s.gens
 base:Un X.fs X.ex X.H₀ H X.s₀.heap s.heap
 loc:∃m,s.heap.Ns X.env.locals m/\∀(i:Nat) (x:Str) (v:V),X.N[i]? = some x->σ[i]? = some (some v)->Vis X.env.scope x->∃u,RelV v u/\Look X.env s.heap m x u
 cell:∀x c,X.env.cells.lookup x=some c->∃v,s.heap.IsCell c v
 free:H X.env.locals=none
 freeC:∀x c,X.env.cells.lookup x=some c->H c=none
 pin:∀p∈X.pn++pins,s.heap.get? p.1=some p.2/\H p.1=none/\p.1≠X.env.locals/\p.1∉X.fs/\∀v,p.2.data≠.cell v
 hok:HOk X.prog X.w H s.heap
 len:σ.length=X.N.length
section
variable {X:Cx}{pins:List (Addr×Obj)}{σ:List (Option V)}{H H':Hp}{s:Shared}{h':Heap}
theorem Cx.Ok.nofr (ok:X.Ok){b:Addr}{o:Obj}(e:X.base.get? b=some o):b∉X.fs:=λhb=>by
 have:=(ok.funs.mem hb).1;rw[e]at this;cases this
theorem Inv.bs (I:Inv X pins σ H s):∀b o,X.base.get? b=some o->s.heap.get? b=some o/\H b=none:=λb o e=>
 ⟨I.base.keep b o (I.ok.bs b o e).1 (I.ok.bs b o e).2 (I.ok.nofr e) (I.ok.noex b o e),I.base.free b o (I.ok.bs b o e).1 (I.ok.bs b o e).2 (I.ok.noex b o e)⟩
theorem Inv.bk (I:Inv X pins σ H s):∀b o,X.base.get? b=some o->s.heap.get? b=some o:=λb o e=>(I.bs b o e).1
theorem Inv.mod (I:Inv X pins σ H s):Mod X.K X.mg X.base:=I.ok.mod
theorem Inv.kIn (I:Inv X pins σ H s):X.K.In s.heap:=I.ok.mod.kin.keeps I.bk
theorem Inv.lt (I:Inv X pins σ H s):X.env.locals<s.heap.objs.size:=let ⟨_,hn,_⟩:=I.loc;hn.lt
theorem Inv.sz (I:Inv X pins σ H s):X.s₀.heap.objs.size<=s.heap.objs.size:=YH I.ok.above (Nat.le_of_lt I.lt)
theorem Inv.nofs (I:Inv X pins σ H s){a:Addr}(h:s.heap.objs.size<=a):a∉X.fs:=λhb=>by
 obtain⟨_,o,ho,_⟩:=I.ok.funs.mem hb;exact absurd (XE (Xx ho) (YH I.sz h)) (Yy _)
theorem Inv.cne (I:Inv X pins σ H s):∀x c,X.env.cells.lookup x=some c->c≠X.env.locals:=λx c e z=>by
 obtain⟨v,o,ho,hd⟩:=I.cell x c e;obtain⟨m,⟨o',es,ep,ho',hd',_⟩,_⟩:=I.loc;rw[z,ho']at ho;cases ho;rw[hd']at hd;cases hd
theorem Inv.funs (I:Inv X pins σ H s):s.heap.FunFrames X.base X.outer:=by
 have all:∀(l:List Env),(∀b∈frs l,b∈X.fs)->X.s₀.heap.FunFrames X.base l->s.heap.FunFrames X.base l:=by
  intro l;induction l with
  | nil=>intro _ _;trivial
  | cons env r ih=>
   intro hs hl;obtain⟨hk,⟨L,o,hf,hn,ho,hd⟩,hr⟩:=hl;have hL:L∈X.fs:=hs L (by unfold frs;rw[YD,hf];exact Xi);obtain⟨sl,e⟩:=I.base.slot L o ho (I.ok.frf L hL) hL λz=>I.ok.exfs L z hL;exact⟨hk,⟨L,_,hf,hn,e,hd⟩,ih (λb hb=>hs b (by unfold frs;rw[YD,hf];exact Xe _ hb)) hr⟩
 exact all X.outer (λ_ hb=>hb) I.ok.funs
theorem Inv.stack (I:Inv X pins σ H s):s.heap.FunFrames X.base X.stack:=by
 rcases I.ok.stk with e | ⟨e,hf⟩
 ·rw[e];exact I.funs
 ·rw[e];obtain⟨m,hn,_⟩:=I.loc;refine .cons (by rw[I.ok.kind];decide) hf hn ?_ I.funs;exact Heap.get?_none_of_le (YH I.ok.bsz I.ok.above)
theorem Inv.zjD (I:Inv X pins σ H s):∀b∈frs X.stack,b∈X.env.locals::X.fs:=λb hb=>by
 rcases I.ok.stk with e | ⟨e,hf⟩
 ·rw[e]at hb;exact Xe _ hb
 ·rw[e]at hb;unfold frs at hb;rw[YD,hf]at hb;exact hb
theorem Inv.zgY (I:Inv X pins σ H s):∀b∈frs X.stack,H b=none:=λb hb=>by
 rcases Xv.mp (I.zjD b hb)with e | hb
 ·rw[e];exact I.free
 ·obtain⟨_,o,ho,_⟩:=I.ok.funs.mem hb;exact I.base.free b o ho (I.ok.frf b hb) λz=>I.ok.exfs b z hb
theorem Inv.step {g':Array GenState}{t':Nat}{d':Drawn}{ch:List Addr}(I:Inv X pins σ H s)
  (hch:∀b∈ch,(b∈X.ex\/X.s₀.heap.objs.size<=b)/\b≠X.env.locals/\(∀x c,X.env.cells.lookup x=some c->c≠b)/\∀p∈X.pn++pins,p.1≠b)
  (keep:∀b o,b≠X.env.locals->b∉X.fs->b∉ch->s.heap.get? b=some o->H b=none->h'.get? b=some o)
  (slot:∀b o,b≠X.env.locals->b∈X.fs->b∉ch->s.heap.get? b=some o->H b=none->∃sl,h'.get? b=some { o with slots:=sl }) (free:∀b o,b∉ch->s.heap.get? b=some o->H b=none->H' b=none)
  (there:∀b o,b∉ch->s.heap.get? b=some o->∃o',h'.get? b=some o')
  (tups:∀b xs,H b=some (.tup xs)->H' b=some (.tup xs)) (frzs:∀b o u,H b=some (.frz o u)->H' b=some (.frz o u)) (tbls:∀b ps,H b=some (.tbl ps)->∃more,H' b=some (.tbl (ps++more)))
  (ns:∀m,s.heap.Ns X.env.locals m->h'.Ns X.env.locals m) (hok:HOk X.prog X.w H' h') (hg:AllBare g') :
  Inv X pins σ H' { s with heap:=h',gens:=g',drawn:=d',toks:=t' }:=by
 have neL:∀b o,X.s₀.heap.get? b=some o->b≠X.env.locals:=λb o e=>XJ (XE (Xx e) I.ok.above);have neC:∀b o,X.s₀.heap.get? b=some o->b∉X.ex->b∉ch:=λb o e hx hb=>by
  rcases(hch b hb).1 with z | z
  ·exact hx z
  ·exact absurd (XE (Xx e) z) (Yy _)
 have cellK:∀x c,X.env.cells.lookup x=some c->∀v,s.heap.IsCell c v->h'.IsCell c v:=λx c e v ⟨o,ho,hd⟩=>by
  have nch:c∉ch:=λz=>(hch c z).2.2.1 x c e rfl;by_cases hc:c∈X.fs
  ·obtain⟨sl,q⟩:=slot c o (I.cne x c e) hc nch ho (I.freeC x c e);exact⟨_,q,hd⟩
  ·exact⟨o,keep c o (I.cne x c e) hc nch ho (I.freeC x c e),hd⟩
 refine⟨I.ok,I.os,hg,⟨λb o e n hb hx=>?_,λb o e n hb hx=>?_,λb o e n hx=>?_,λb o e hx=>?_,λb xs e=>tups b xs (I.base.tups b xs e),λb o xs e=>frzs b o xs (I.base.frzs b o xs e),λb ps e=>?_⟩,?_,λx c e=>?_,?_,λx c e=>?_,λp hp=>?_,hok,I.len⟩
 ·exact keep b o (neL b o e) hb (neC b o e hx) (I.base.keep b o e n hb hx) (I.base.free b o e n hx)
 ·obtain⟨sl,e1⟩:=I.base.slot b o e n hb hx;obtain⟨sl',e2⟩:=slot b _ (neL b o e) hb (neC b o e hx) e1 (I.base.free b o e n hx);exact⟨sl',e2⟩
 ·obtain⟨o',e1⟩:=I.base.there b o e hx;exact free b o' (neC b o e hx) e1 (I.base.free b o e n hx)
 ·obtain⟨o',e1⟩:=I.base.there b o e hx;exact there b o' (neC b o e hx) e1
 ·obtain⟨m1,e1⟩:=I.base.tbls b ps e;obtain⟨m2,e2⟩:=tbls b _ e1;exact⟨m1++m2,by rw[e2,Array.append_assoc]⟩
 ·obtain⟨m,hn,hl⟩:=I.loc;refine⟨m,ns m hn,λi x v e1 e2 e3=>?_⟩;obtain⟨u,r,l⟩:=hl i x v e1 e2 e3;refine⟨u,r,?_⟩;rcases l with l | ⟨k,c,e,z⟩
  ·exact .inl l
  ·exact .inr ⟨k,c,e,cellK x c e _ z⟩
 ·obtain⟨v,z⟩:=I.cell x c e;exact⟨v,cellK x c e v z⟩
 ·obtain⟨m,⟨o,_,_,ho,_⟩,_⟩:=I.loc;exact free _ o (λz=>(hch _ z).2.1 rfl) ho I.free
 ·obtain⟨v,o,ho,hd⟩:=I.cell x c e;exact free c o (λz=>(hch c z).2.2.1 x c e rfl) ho (I.freeC x c e)
 ·obtain⟨e,n,ne,nf,d⟩:=I.pin p hp;have nch:p.1∉ch:=λz=>(hch p.1 z).2.2.2 p hp rfl;exact⟨keep p.1 p.2 ne nf nch e n,free p.1 p.2 nch e n,ne,nf,d⟩
theorem Inv.un {t':Nat}(I:Inv X pins σ H s)(u:Un X.fs [] H H' s.heap h')(hok:HOk X.prog X.w H' h'):Inv X pins σ H' { s with heap:=h',toks:=t' }:=by
 obtain⟨m,⟨o,es,ep,ho,r⟩,_⟩:=id I.loc;obtain⟨sl,hL⟩:=u.any ho I.free (by simp);exact I.step (g':=s.gens) (d':=s.drawn) (ch:=[]) (λ_ z=>nomatch z) (λb o _ hb _ e n=>u.keep b o e n hb (by simp)) (λb o _ hb _ e n=>u.slot b o e n hb (by simp)) (λb o _ e n=>u.free b o e n (by simp)) (λb o _ e=>u.there b o e (by simp)) u.tups u.frzs u.tbls (λm' hm=>by
  obtain⟨o',es',ep',ho',r'⟩:=hm;rw[ho]at ho';cases ho';exact⟨_,es',ep',hL,r'⟩) hok I.bare
theorem Inv.call {g':Array GenState}{t':Nat}{d':Drawn}{ch:List Addr}(I:Inv X pins σ H s)(u:Un (frs X.stack) ch H H' s.heap h')(hok:HOk X.prog X.w H' h')(hg:AllBare g')
  (hch:∀b∈ch,(b∈X.ex\/X.s₀.heap.objs.size<=b)/\b≠X.env.locals/\(∀x c,X.env.cells.lookup x=some c->c≠b)/\∀p∈X.pn++pins,p.1≠b) :
  Inv X pins σ H' { s with heap:=h',gens:=g',drawn:=d',toks:=t' }:=by
 obtain⟨m,⟨o,es,ep,ho,r⟩,_⟩:=id I.loc;obtain⟨sl,hL⟩:=u.any ho I.free λz=>(hch _ z).2.1 rfl;exact I.step (ch:=ch) hch (λb o hL hb hc e n=>u.keep b o e n (λz=>(Xv.mp (I.zjD b z)).elim hL hb) hc) (λb o _ _ hc e n=>u.any e n hc) (λb o hc e n=>u.free b o e n hc) (λb o hc e=>u.there b o e hc) u.tups u.frzs u.tbls (λm' hm=>by
  obtain⟨o',es',ep',ho',r'⟩:=hm;rw[ho]at ho';cases ho';exact⟨_,es',ep',hL,r'⟩) hok hg
theorem Inv.turned {t':Nat}{it:Addr}(I:Inv X pins σ H s)(k:∀b o,b≠it->s.heap.get? b=some o->h'.get? b=some o)(hn:H it=none)(hL:it≠X.env.locals)
  (h1:it∈X.ex\/X.s₀.heap.objs.size<=it) (h2:∀x c,X.env.cells.lookup x=some c->c≠it) (h3:∀p∈X.pn++pins,p.1≠it):Inv X pins σ H { s with heap:=h',toks:=t' }:=by
 have nit:∀b u,H b=some u->b≠it:=λb u e z=>by rw[z,hn]at e;cases e
 refine I.step (g':=s.gens) (d':=s.drawn) (ch:=[it]) (λb hb=>?_) (λb o _ _ hc e _=>k b o (λz=>hc (by simp[z])) e) (λb o _ _ hc e _=>⟨o.slots,k b o (λz=>hc (by simp[z])) e⟩) (λ_ _ _ _ n=>n)
  (λb o hc e=>⟨o,k b o (λz=>hc (by simp[z])) e⟩) (λ_ _ e=>e) (λ_ _ _ e=>e) (λb ps e=>⟨#[],by rw[e];simp⟩) (λm hm=>?_) (λb u e=>?_) I.bare
 ·have e:b=it:=by simpa using hb
  subst e;exact⟨h1,hL,h2,h3⟩
 ·obtain⟨o,es,ep,ho,r⟩:=hm;exact⟨o,es,ep,k _ o (Ne.symm hL) ho,r⟩
 ·refine(I.hok b u e).stay (λc v hc q=>k c v ?_ q) (λ_ q=>q) λ_ _ q=>q;rcases hc with z | z
  ·rw[z];exact nit b u e
  ·exact nit c _ z
theorem Inv.tok (I:Inv X pins σ H s)(t:Nat):Inv X pins σ H { s with toks:=t }:=I.un (h':=s.heap) (t':=t) Un.refl I.hok
theorem Inv.kept {t':Nat}(I:Inv X pins σ H s)(k:∀b u,s.heap.get? b=some u->h'.get? b=some u):Inv X pins σ H { s with heap:=h',toks:=t' }:=I.un (Un.kept k) (I.hok.kept k)
theorem Inv.laid {a:Addr}{o:HO}{t':Nat}(I:Inv X pins σ H s)(k:∀b u,s.heap.get? b=some u->h'.get? b=some u)(hp:s.heap.objs.size<=a)(new:zbr X.prog X.w (upd H a o) h' a o) :
  Inv X pins σ (upd H a o) { s with heap:=h',toks:=t' }:=I.un (Un.laid k hp (I.hok.fresh hp)) (I.hok.laid k hp new)
theorem Inv.write {x e:Addr}{o:HO}{t':Nat}(I:Inv X pins σ H s)(mu:Mut (H x))(he:e=x\/H e=some (.own x))(k:∀b u,b≠e->s.heap.get? b=some u->h'.get? b=some u)(heo:∃u,h'.get? e=some u)
  (new:zbr X.prog X.w (upd H x o) h' x o):Inv X pins σ (upd H x o) { s with heap:=h',toks:=t' }:=I.un (Un.write mu he k heo) (I.hok.write mu he k heo new)
theorem Inv.zjE {pins':List (Addr×Obj)}(I:Inv X pins σ H s)(h:∀p∈pins',s.heap.get? p.1=some p.2/\H p.1=none/\p.1≠X.env.locals/\p.1∉X.fs/\∀v,p.2.data≠.cell v):Inv X pins' σ H s:=
 ⟨I.ok,I.os,I.bare,I.base,I.loc,I.cell,I.free,I.freeC,λp hp=>(XA.mp hp).elim (λz=>I.pin p (List.mem_append_left _ z)) (h p),I.hok,I.len⟩
theorem zfq {N:List Str}(hN:N.Nodup){i j:Nat}{x:Str}(a:N[i]? = some x)(b:N[j]? = some x):i=j:=by
 obtain⟨h1,e1⟩:=Xj.mp a;obtain⟨h2,e2⟩:=Xj.mp b;exact(List.getElem_inj hN).mp (e1.trans e2.symm)
theorem zdY {M:Model}{A:Around}{E:Value->Shared->Prop}{i:Nat}{x:Str}{v:V}{u:Value}{Q:Unit->Shared->Prop}(I:Inv X pins σ H s)(hN:X.N.Nodup)(hi:X.N[i]? = some x)(hx:Loc X.env.scope x)(r:RelV v u)
  (h:∀s',Inv X pins (σ.set i (some v)) H s'->(∃a,Yz a s.heap s'.heap/\(a=X.env.locals\/X.env.cells.lookup x=some a))->Q () s') (hf:autoParam (X.fn x=true\/X.env.scope.names.lookup x=some .local) aU3):wpAny M A (storeName X.env x u) Q E s:=by
 obtain⟨m,hn,hl⟩:=id I.loc;have hcls:(X.env.scope.kind == .class||(X.env.scope.kind == .module&&X.env.locals != X.env.globals))=false:=by rw[I.ok.kind];rfl
 have hiσ:i<σ.length:=by rw[I.len];exact(Xj.mp hi).1
 have cne:=I.cne;have tracked:∀ {a:Addr} {h':Heap},(∃o,s.heap.get? a=some o/\H a=none)->Yz a s.heap h'->HOk X.prog X.w H h':=λ{a h'} ha hs b ob e=>by
  obtain⟨_,_,hfree⟩:=ha;refine(I.hok b ob e).stay (λc w' hc q=>(hs.2 c ?_).trans q) (λ_ q=>q) λ_ _ q=>q;rintro rfl;rcases hc with rfl | hc
  ·rw[hfree]at e;cases e
  ·rw[hfree]at hc;cases hc
 rcases hx with hk | hk
 ·refine wpAny_storeName_local hk hn (λh' hn' hs=>?_) hcls;obtain⟨oL,_,_,hoL,_⟩:=id hn;refine h _ ⟨I.ok,I.os,I.bare,⟨λb o e n hb hx=>?_,λb o e n hb hx=>?_,I.base.free,λb o e hx=>?_,I.base.tups,I.base.frzs,I.base.tbls⟩,⟨_,hn',λj y v' e1 e2 e3=>?_⟩,λy c e=>?_,I.free,I.freeC,λp hp=>?_,tracked ⟨oL,hoL,I.free⟩ hs,by simpa using I.len⟩ ⟨_,hs,.inl rfl⟩
  ·exact(hs.2 b (XJ (XE (Xx e) I.ok.above))).trans (I.base.keep b o e n hb hx)
  ·obtain⟨sl,e1⟩:=I.base.slot b o e n hb hx;exact⟨sl,(hs.2 b (XJ (XE (Xx e) I.ok.above))).trans e1⟩
  ·obtain⟨o',e1⟩:=I.base.there b o e hx;exact⟨o',(hs.2 b (XJ (XE (Xx e) I.ok.above))).trans e1⟩
  ·by_cases hj:j=i
   ·subst hj;rw[hi]at e1;cases e1;rw[Xd hiσ]at e2;cases e2;exact⟨u,r,.inl ⟨hk,by simp⟩⟩
   ·rw[Xf (Ne.symm hj)]at e2;obtain⟨u',r',q⟩:=hl j y v' e1 e2 e3;refine⟨u',r',?_⟩;rcases q with ⟨k,e⟩ | ⟨k,c,e,z⟩
    ·refine .inl ⟨k,?_⟩;have:y≠x:=λe=>hj (zfq hN e1 (e▸hi));simp[this,e]
    ·exact .inr ⟨k,c,e,z.sameBut hs (cne y c e)⟩
  ·obtain⟨w',z⟩:=I.cell y c e;exact⟨w',z.sameBut hs (cne y c e)⟩
  ·obtain⟨e,n,ne,nf,d⟩:=I.pin p hp;exact⟨(hs.2 p.1 ne).trans e,n,ne,nf,d⟩
 ·have hfn:X.fn x=true:=by
   rcases hf with z | z
   ·exact z
   ·rw[z]at hk;cases hk
  obtain⟨c,hc⟩:=I.ok.has x (.inl hk);obtain⟨w',z⟩:=I.cell x c hc;refine wpAny_storeName_cell I.ok.kind hk hc z (λh' hc' hs=>?_);obtain⟨oc,hoc,hocd⟩:=id z;refine h { s with heap:=h' } ⟨I.ok,I.os,I.bare,⟨λb o e n hb hx=>?_,λb o e n hb hx=>?_,I.base.free,λb o e hx=>?_,I.base.tups,I.base.frzs,I.base.tbls⟩,⟨m,hn.sameBut hs (Ne.symm (cne x c hc)),λj y v' e1 e2 e3=>?_⟩,λy c' e=>?_,I.free,I.freeC,λp hp=>?_,tracked ⟨oc,hoc,I.freeC x c hc⟩ hs,by simpa using I.len⟩ ⟨c,hs,.inr hc⟩
  ·exact(hs.2 b (XJ (XE (Xx e) (I.ok.cab x c hfn hc)))).trans (I.base.keep b o e n hb hx)
  ·obtain⟨sl,e1⟩:=I.base.slot b o e n hb hx;exact⟨sl,(hs.2 b (XJ (XE (Xx e) (I.ok.cab x c hfn hc)))).trans e1⟩
  ·obtain⟨o',e1⟩:=I.base.there b o e hx;exact⟨o',(hs.2 b (XJ (XE (Xx e) (I.ok.cab x c hfn hc)))).trans e1⟩
  ·by_cases hj:j=i
   ·subst hj;rw[hi]at e1;cases e1;rw[Xd hiσ]at e2;cases e2;exact⟨u,r,.inr ⟨.inl hk,c,hc,hc'⟩⟩
   ·rw[Xf (Ne.symm hj)]at e2;obtain⟨u',r',q⟩:=hl j y v' e1 e2 e3;refine⟨u',r',?_⟩;rcases q with q | ⟨k,c',e,z'⟩
    ·exact .inl q
    ·refine .inr ⟨k,c',e,z'.sameBut hs ?_⟩;rintro rfl;exact hj (zfq hN e1 (I.ok.inj _ _ _ e hc▸hi))
  ·by_cases hcc:c'=c
   ·subst hcc;exact⟨_,hc'⟩
   ·obtain⟨w2,z2⟩:=I.cell y c' e;exact⟨w2,z2.sameBut hs hcc⟩
  ·obtain⟨e,n,ne,nf,d⟩:=I.pin p hp;refine⟨(hs.2 p.1 ?_).trans e,n,ne,nf,d⟩;intro q;rw[q,hoc]at e;have q':oc=p.2:=Option.some.inj e;exact d w' (by rw[<- q'];exact hocd)
theorem zhP {M:Model}{A:Around}{E:Value->Shared->Prop}{i:Nat}{x:Str}{v:V}{u:Value}{Q:Unit->Shared->Prop}(I:Inv X pins σ H s)(hN:X.N.Nodup)(hi:X.N[i]? = some x)(hx:Loc X.env.scope x)(r:RelV v u)
  (h:∀s',Inv X pins (σ.set i (some v)) H s'->Q () s') (hf:autoParam (X.fn x=true\/X.env.scope.names.lookup x=some .local) aU3):wpAny M A (storeName X.env x u) Q E s:=
 zdY I hN hi hx r (λs' I' _=>h s' I') hf
theorem Inv.call' {s':Shared}{ch:List Addr}(I:Inv X pins σ H s)(ho:s'.os=s.os)(u:Un (frs X.stack) ch H H' s.heap s'.heap)(hok:HOk X.prog X.w H' s'.heap)(hg:AllBare s'.gens)
  (hch:∀b∈ch,(b∈X.ex\/X.s₀.heap.objs.size<=b)/\b≠X.env.locals/\(∀x c,X.env.cells.lookup x=some c->c≠b)/\∀p∈X.pn++pins,p.1≠b):Inv X pins σ H' s':=by
 obtain⟨h',g',d',t',o'⟩:=s';have e:o'=s.os:=ho;subst e;exact I.call (g':=g') (t':=t') (d':=d') u hok hg hch
end
noncomputable abbrev XK:=Value->Option Addr->Hp->Prop
noncomputable abbrev St:=List (Option V)
noncomputable abbrev VK:=V->Hp->Prop
noncomputable abbrev TE:=St->Hp->VK->Prop
noncomputable abbrev TT:=St->Hp->(Bool->Hp->Prop)->Prop
noncomputable abbrev TA:=St->Hp->(List V->Hp->Prop)->Prop
structure Ends where
 nx:St->Hp->Prop
 rt:VK
 bk:St->Hp->Prop:=λ_ _=>False
 ct:St->Hp->Prop:=λ_ _=>False
noncomputable abbrev TS:=Ends->St->Hp->Prop
noncomputable def EP (X:Cx)(pins:List (Addr×Obj))(σ:St)(Q:VK)(u:Value)(s':Shared):Prop:=∃v H',Inv X pins σ H' s'/\RelV v u/\Q v H'
noncomputable def TP (X:Cx)(pins:List (Addr×Obj))(σ:St)(Q:Bool->Hp->Prop)(b:Bool)(s':Shared):Prop:=∃H',Inv X pins σ H' s'/\Q b H'
noncomputable def AP (X:Cx)(pins:List (Addr×Obj))(σ:St)(Q:List V->Hp->Prop)(us:List Value)(s':Shared):Prop:=∃vs H',Inv X pins σ H' s'/\Vals vs us/\Q vs H'
noncomputable def SP (X:Cx)(pins:List (Addr×Obj))(D:Ends)(f:Flow)(s':Shared):Prop:=
 match f with
 | .next=>∃σ' H',Inv X pins σ' H' s'/\D.nx σ' H'
 | .brk=>∃σ' H',Inv X pins σ' H' s'/\D.bk σ' H'
 | .cont=>∃σ' H',Inv X pins σ' H' s'/\D.ct σ' H'
 | .ret u=>∃v σ' H',Inv X pins σ' H' s'/\RelV v u/\D.rt v H'
noncomputable def PE (X:Cx)(e:Expr)(t:TE):Prop:=
 ∀(pins:List (Addr×Obj)) (s:Shared) (σ:St) (H:Hp) (Q:VK),Inv X pins σ H s->t σ H Q->wpAny (model X.prog X.w) X.A (eval e X.env) (EP X pins σ Q) X.xe s
noncomputable def PT (X:Cx)(e:Expr)(t:TT):Prop:=
 ∀(pins:List (Addr×Obj)) (s:Shared) (σ:St) (H:Hp) (Q:Bool->Hp->Prop),Inv X pins σ H s->t σ H Q->wpAny (model X.prog X.w) X.A (isTrue e X.env (eval e X.env)) (TP X pins σ Q) X.xe s
noncomputable def PW (X:Cx)(e:Expr)(t:TT):Prop:=
 ∀(whole:Sem Value) (pins:List (Addr×Obj)) (s:Shared) (σ:St) (H:Hp) (Q:Bool->Hp->Prop),Inv X pins σ H s->t σ H Q->wpAny (model X.prog X.w) X.A (isTrue e X.env whole) (TP X pins σ Q) X.xe s
theorem PW.pt {X:Cx}{e:Expr}{t:TT}(h:PW X e t):PT X e t:=h _
noncomputable def PA (X:Cx)(es:List Expr)(t:TA):Prop:=
 ∀(pos:Pos) (pins:List (Addr×Obj)) (s:Shared) (σ:St) (H:Hp) (Q:List V->Hp->Prop),Inv X pins σ H s->t σ H Q->wpAny (model X.prog X.w) X.A (spliced (backTo pos (starEach es X.env))) (AP X pins σ Q) X.xe s
noncomputable def PS (X:Cx)(st:Stmt)(t:TS):Prop:=
 ∀(pins:List (Addr×Obj)) (s:Shared) (σ:St) (H:Hp) (D:Ends),Inv X pins σ H s->t D σ H->wpAny (model X.prog X.w) X.A (exec st X.env) (SP X pins D) X.xe s
noncomputable def PSs (X:Cx)(st:List Stmt)(t:TS):Prop:=
 ∀(pins:List (Addr×Obj)) (s:Shared) (σ:St) (H:Hp) (D:Ends),Inv X pins σ H s->t D σ H->wpAny (model X.prog X.w) X.A (execs st X.env) (SP X pins D) X.xe s
theorem thn {α:Type}{t:Sem α}{Q Q':α->Shared->Prop}{M:Model}{A:Around}{E:Value->Shared->Prop}{s:Shared}(h:wpAny M A t Q E s)(hQ:∀a s,Q a s->Q' a s):wpAny M A t Q' E s:=wpAny_mono h hQ λ_ _ x=>x
section
variable {X:Cx}
noncomputable def tVar (i:Nat):TE:=λσ H Q=>∃v,σ[i]? = some (some v)/\Q v H
noncomputable def tC (v:V):TE:=λ_ H Q=>Q v H
theorem zaP {i:Nat}{x:Str}{pos:Pos}(hN:X.N[i]? = some x)(hv:Vis X.env.scope x)(hd:autoParam ((x == ("__debug__" : Str))=false) aU1) (hcd:autoParam ((x == ("__classdict__" : Str))=false) aU1):PE X (.Name x pos) (tVar i):=by
 intro pins s σ H Q I h;obtain⟨v,e,h⟩:=h;obtain⟨m,hn,hl⟩:=I.loc;obtain⟨u,r,l⟩:=hl i x v hN e hv;have fin:EP X pins σ Q u s:=⟨v,H,I,r,h⟩;rcases l with ⟨hk,hm⟩ | ⟨hk,c,hc,hcell⟩
 ·exact wpAny_Name (wpAny_loadName_local I.ok.kind hk hn hm fin) hd
 ·rcases hk with hk | hk
  ·exact wpAny_Name (wpAny_loadName_cell I.ok.kind hk hc hcell fin) hd
  ·exact wpAny_Name (wpAny_loadName_free I.ok.kind hk hc hcell fin hcd) hd
theorem zpm {i j pos}:PE X (.Constant (.int i) j pos) (tC (.int i)):=λ_ _ _ H _ I h=>wpAny_Constant_int ⟨.int i,H,I.tok _,⟨_,rfl⟩,h⟩
theorem zpn {b j pos}:PE X (.Constant (.bool b) j pos) (tC (.bl b)):=λ_ _ _ H _ I h=>Constant_bool ⟨.bl b,H,I,rfl,h⟩
theorem zjF {j pos}:PE X (.Constant .none j pos) (tC .non):=λ_ _ _ H _ I h=>Constant_none ⟨.non,H,I,rfl,h⟩
theorem znf {x j pos}:PE X (.Constant (.str x) j pos) (tC (.str x)):=λ_ _ _ H _ I h=>Calls.Constant_str ⟨.str x,H,I.tok _,⟨_,rfl⟩,h⟩
noncomputable def Gl (X:Cx)(x:Str):Prop:=X.env.kindOf x=some .globalImplicit
theorem zdZ {E:Value->Shared->Prop}{pins:List (Addr×Obj)}{s:Shared}{σ:St}{H:Hp}{x:Str}{u:Value}{pos:Pos}{Q:Value->Shared->Prop}(I:Inv X pins σ H s)(hg:Gl X x)(hm:X.mg x=some u)(h:Q u s)
  (hd:autoParam ((x == ("__debug__" : Str))=false) aU1):wpAny (model X.prog X.w) X.A (eval (.Name x pos) X.env) Q E s:=
 Calls.Name_function_global I.ok.kind hg (Calls.loadGlobal_global (by rw[I.ok.glob];exact I.mod.glob.keeps I.bk) hm h) hd
theorem zhQ {E:Value->Shared->Prop}{pins:List (Addr×Obj)}{s:Shared}{σ:St}{H:Hp}{x:Str}{u:Value}{pos:Pos}{Q:Value->Shared->Prop}(I:Inv X pins σ H s)(hg:Gl X x)(hm:X.mg x=none)(hv:bootBuiltins x=some u)(h:Q u s)
  (hn:autoParam (x≠"__name__") aU1) (hd:autoParam ((x == ("__debug__" : Str))=false) aU1):wpAny (model X.prog X.w) X.A (eval (.Name x pos) X.env) Q E s:=by
 obtain⟨mb,h1,h2⟩:=I.mod.blt;exact Calls.Name_function_global I.ok.kind hg (Calls.loadGlobal_builtin (by rw[I.ok.glob];exact I.mod.glob.keeps I.bk) hm (by rw[I.ok.blt];exact h1.keeps I.bk) ((h2 x hn).trans hv) h) hd
theorem zea {x:Str}{v:V}{u:Value}{pos:Pos}(hg:Gl X x)(hm:X.mg x=some u)(r:RelV v u)(hd:autoParam ((x == ("__debug__" : Str))=false) aU1):PE X (.Name x pos) (tC v):=
 λ_ _ _ H _ I h=>zdZ I hg hm ⟨v,H,I,r,h⟩ hd
theorem zjG {x:Str}{v:V}{u:Value}{pos:Pos}(hg:Gl X x)(hm:X.mg x=none)(hv:bootBuiltins x=some u)(r:RelV v u)(hn:autoParam (x≠"__name__") aU1) (hd:autoParam ((x == ("__debug__" : Str))=false) aU1):PE X (.Name x pos) (tC v):=
 λ_ _ _ H _ I h=>zhQ I hg hm hv ⟨v,H,I,r,h⟩ hn hd
variable {a b:Expr}{ta tb:TE}{pos:Pos}
noncomputable def PC (X:Cx)(op:CmpOp)(a b:Expr)(t:TE):Prop:=
 ∀(pins:List (Addr×Obj)) (s:Shared) (σ:St) (H:Hp) (Q:VK),Inv X pins σ H s->t σ H Q->
  wpAny (model X.prog X.w) X.A (eval a X.env) (λv s₁=>wpAny (model X.prog X.w) X.A (eval b X.env) (λu s₂=>wpAny (model X.prog X.w) X.A (compareOp op v u) (EP X pins σ Q) X.xe s₂) X.xe s₁) X.xe s
noncomputable def tB (t:TE):TT:=λσ H Q=>t σ H λx H1=>∃c,x=.bl c/\Q c H1
theorem zpo {op:CmpOp}{t:TE}(h:PC X op a b t)(h1:behindInMarks op b=false:=by first | exact nobehind _ (by decide) (by decide) | rfl):PT X (.Compare a [op] [b] pos) (tB t):=by
 intro pins s σ H Q I hw;refine wpAny_isTrue_Compare1 (thn (h pins s σ H _ I hw) λv s1 h1=>thn h1 λu s2 h2=>thn h2 λc s3 q1q=>?_) h1;obtain⟨x,H1,I1,r1,q1⟩:=q1q;obtain⟨d,rfl,q⟩:=q1;cases r1;exact wpAny_truthy_bool ⟨H1,I1,q⟩
variable {tA tB':TT}{rest:List Expr}
noncomputable def tAnd (t u:TT):TT:=λσ H Q=>t σ H λc H1=>if c=true then u σ H1 Q else Q false H1
noncomputable def tOr (t u:TT):TT:=λσ H Q=>t σ H λc H1=>if c=true then Q true H1 else u σ H1 Q
noncomputable def tNot (t:TT):TT:=λσ H Q=>t σ H λc H1=>Q (!c) H1
theorem znO (ha:PT X a tA):PW X (.BoolOp .And [a] pos) tA:=by
 intro wh pins s σ H Q I h;refine isTrue_and (thn (ha pins s σ H Q I h) λc s1 e=>?_);cases c with
 | true=>exact isTrue_and_nil e
 | false=>exact e
theorem zpp (ha:PT X a tA):PW X (.BoolOp .Or [a] pos) tA:=by
 intro wh pins s σ H Q I h;refine isTrue_or (thn (ha pins s σ H Q I h) λc s1 e=>?_);cases c with
 | false=>exact isTrue_or_nil e
 | true=>exact e
theorem zpq (ha:PT X a tA)(hb:PW X (.BoolOp .And (b::rest) pos) tB'):PW X (.BoolOp .And (a::b::rest) pos) (tAnd tA tB'):=by
 intro wh pins s σ H Q I h;refine isTrue_and (thn (ha pins s σ H _ I h) λc s1 q2q=>?_);obtain⟨H1,I1,q1⟩:=q2q;cases c with
 | true=>exact hb wh pins s1 σ H1 Q I1 q1
 | false=>exact⟨H1,I1,q1⟩
theorem zre (ha:PT X a tA)(hb:PW X (.BoolOp .Or (b::rest) pos) tB'):PW X (.BoolOp .Or (a::b::rest) pos) (tOr tA tB'):=by
 intro wh pins s σ H Q I h;refine isTrue_or (thn (ha pins s σ H _ I h) λc s1 q3q=>?_);obtain⟨H1,I1,q1⟩:=q3q;cases c with
 | true=>exact⟨H1,I1,q1⟩
 | false=>exact hb wh pins s1 σ H1 Q I1 q1
theorem zpr (ha:PT X a tA):PT X (.UnaryOp .Not a pos) (tNot tA):=by
 intro pins s σ H Q I h;exact isTrue_not (ha pins s σ H (λc H1=>Q (!c) H1) I h)
noncomputable def zrf (ta tb:TE):TE:=λσ H Q=>ta σ H λx H1=>∃c,x=.bl c/\if c=true then tb σ H1 Q else Q (.bl false) H1
noncomputable def zrg (ta:TE):TE:=λσ H Q=>ta σ H λx H1=>∃c,x=.bl c/\Q (.bl (!c)) H1
theorem zps {op}{t:TE}(h:PE X a t):PE X (.BoolOp op [a] pos) t:=λpins s σ H Q I hw=>BoolOp_one (h pins s σ H Q I hw)
theorem zpt (ha:PE X a ta)(hb:PE X (.BoolOp .And (b::rest) pos) tb):PE X (.BoolOp .And (a::b::rest) pos) (zrf ta tb):=by
 intro pins s σ H Q I h;refine BoolOp_and (thn (ha pins s σ H _ I h) λv s1 q4q=>?_);obtain⟨x,H1,I1,r1,q1⟩:=q4q;obtain⟨c,rfl,q1⟩:=q1;cases r1;refine wpAny_truthy_bool ?_;cases c with
 | true=>exact hb pins s1 σ H1 Q I1 q1
 | false=>exact⟨.bl false,H1,I1,rfl,q1⟩
theorem zng (ha:PE X a ta):PE X (.UnaryOp .Not a pos) (zrg ta):=by
 intro pins s σ H Q I h;refine UnaryOp_ (thn (ha pins s σ H _ I h) λv s1 q5q=>?_);obtain⟨x,H1,I1,r1,q1⟩:=q5q;obtain⟨c,rfl,q1⟩:=q1;cases r1;exact not_of (wpAny_truthy_bool ⟨.bl (!c),H1,I1,rfl,q1⟩)
end
noncomputable def SqL (K:Xa)(H:Hp)(a:Addr)(xs:List V):Prop:=
 Rd H a (.lst xs)\/
  ∃(o:Obj) (its:Array Value) (n:Nat),K.lookup a=some o/\o.cls=.type "list"/\o.dict=none/\o.data=.seq its n/\its.size<=sizeLine/\Vals xs its.toList
noncomputable def SqT (K:Xa)(H:Hp)(a:Addr)(xs:List V):Prop:=
 Rd H a (.tup xs)\/
  ∃(o:Obj) (its:Array Value) (n:Nat),K.lookup a=some o/\o.cls=.type "tuple"/\o.data=.seq its n/\its.size<=sizeLine/\Vals xs its.toList/\o.dict=none
noncomputable def absV:Value->Option V
 | .none=>some .non
 | .bool b=>some (.bl b)
 | .int i _=>some (.int i)
 | .str x _=>some (.str x)
 | .bytes b _=>some (.byt b)
 | .float b _=>some (.flt b)
 | .ref a=>some (.ref a)
 | .type n=>some (.ty n)
 | _=>none
theorem RelV.abs {x:V}{u:Value}(r:RelV x u):absV u=some x:=by
 cases x with
 | non=>cases r;rfl
 | bl _=>cases r;rfl
 | int _=>obtain⟨t,rfl⟩:=r;rfl
 | str _=>obtain⟨t,rfl⟩:=r;rfl
 | byt _=>obtain⟨t,rfl⟩:=r;rfl
 | flt _=>obtain⟨t,rfl⟩:=r;rfl
 | ref _=>cases r;rfl
 | ty _=>cases r;rfl
theorem RelV.inj {x y:V}{u:Value}(r:RelV x u)(q:RelV y u):x=y:=Option.some.inj (r.abs.symm.trans q.abs)
theorem Vals.inj:∀ {xs ys:List V}{us:List Value},Vals xs us->Vals ys us->xs=ys:=by
 intro xs ys us h;induction h generalizing ys with
 | nil=>intro h2;cases h2;rfl
 | cons r t ih=>
  intro h2;cases h2 with
  | cons r' t'=>rw[r.inj r',ih t']
section
variable {X:Cx}{pins:List (Addr×Obj)}{σ:St}{H:Hp}{s:Shared}{a:Addr}{xs ys:List V}
theorem SqL.of {K:Xa}(h:H a=some (.lst xs)):SqL K H a xs:=.inl (.inl h)
theorem SqT.of {K:Xa}(h:H a=some (.tup xs)):SqT K H a xs:=.inl (.inl h)
theorem Inv.list (I:Inv X pins σ H s)(h:SqL X.K H a xs):∃its:List Value,Vals xs its/\PlainL s.heap a its.toArray/\xs.length<=sizeLine:=by
 rcases h with h | ⟨o,its,n,hk,hc,hd,hs,hz,r⟩
 ·obtain⟨z,its,n,r,e⟩:=h.ok I.hok;exact⟨its,r,⟨_,n,e,rfl,rfl,rfl⟩,z⟩
 ·refine⟨its.toList,r,⟨o,n,I.kIn a o hk,hc,hd,by simpa using hs⟩,?_⟩;have e:=r.length;simp only[Xp]at e;lia
theorem Inv.tuple (I:Inv X pins σ H s)(h:SqT X.K H a xs):∃its:List Value,Vals xs its/\IsTup s.heap a its.toArray/\xs.length<=sizeLine:=by
 rcases h with h | ⟨o,its,n,hk,hc,hs,hz,r,_⟩
 ·obtain⟨z,its,r,p⟩:=h.ok I.hok;exact⟨its,r,p.tup,z⟩
 ·refine⟨its.toList,r,⟨o,I.kIn a o hk,hc,n,by simpa using hs⟩,?_⟩;have e:=r.length;simp only[Xp]at e;lia
theorem Inv.zhR (I:Inv X pins σ H s)(h:SqL X.K H a xs)(h':SqL X.K H a ys):xs=ys:=by
 obtain⟨its,r,⟨o,n,e,_,_,d⟩,_⟩:=I.list h;obtain⟨its',r',⟨o',n',e',_,_,d'⟩,_⟩:=I.list h';rw[e]at e';cases e';rw[d]at d';injection d' with d1 _;have:its=its':=by simpa using congrArg Array.toList d1
 subst this;exact r.inj r'
theorem Inv.zgc (I:Inv X pins σ H s)(h:SqT X.K H a xs)(h':SqT X.K H a ys):xs=ys:=by
 obtain⟨its,r,⟨o,e,_,n,d⟩,_⟩:=I.tuple h;obtain⟨its',r',⟨o',e',_,n',d'⟩,_⟩:=I.tuple h';rw[e]at e';cases e';rw[d]at d';injection d' with d1 _;have:its=its':=by simpa using congrArg Array.toList d1
 subst this;exact r.inj r'
end
noncomputable abbrev Cx.wish (X:Cx)(E:Value->Shared->Prop):Cx:={ X with xe:=E }
noncomputable abbrev Cx.nox (X:Cx):Cx:=X.wish λ_ _=>False
theorem Cx.Ok.wish {X:Cx}(ok:X.Ok)(E:Value->Shared->Prop):(X.wish E).Ok:=
 ⟨ok.mod,ok.kind,ok.glob,ok.blt,ok.above,ok.inj,ok.has,ok.cab,ok.hd,ok.frames,ok.stk,ok.exf,ok.bs,ok.bsz,ok.noex,ok.exfs,ok.funs,ok.frf⟩
theorem Cx.Ok.zbj {X:Cx}{E:Value->Shared->Prop}(ok:(X.wish E).Ok):X.Ok:=
 ⟨ok.mod,ok.kind,ok.glob,ok.blt,ok.above,ok.inj,ok.has,ok.cab,ok.hd,ok.frames,ok.stk,ok.exf,ok.bs,ok.bsz,ok.noex,ok.exfs,ok.funs,ok.frf⟩
section
variable {X:Cx}{pins:List (Addr×Obj)}{σ:St}{H:Hp}{s:Shared}{E:Value->Shared->Prop}
theorem Inv.wish (I:Inv X pins σ H s)(E:Value->Shared->Prop):Inv (X.wish E) pins σ H s:=⟨I.ok.wish E,I.os,I.bare,I.base,I.loc,I.cell,I.free,I.freeC,I.pin,I.hok,I.len⟩
theorem Inv.zbj (I:Inv (X.wish E) pins σ H s):Inv X pins σ H s:=⟨I.ok.zbj,I.os,I.bare,I.base,I.loc,I.cell,I.free,I.freeC,I.pin,I.hok,I.len⟩
theorem SP.zbj {D:Ends}{f:Flow}{s':Shared}(h:SP (X.wish E) pins D f s'):SP X pins D f s':=by
 cases f with
 | next=>obtain⟨σ',H',I,q⟩:=h;exact⟨σ',H',I.zbj,q⟩
 | brk=>obtain⟨σ',H',I,q⟩:=h;exact⟨σ',H',I.zbj,q⟩
 | cont=>obtain⟨σ',H',I,q⟩:=h;exact⟨σ',H',I.zbj,q⟩
 | ret u=>obtain⟨v,σ',H',I,r,q⟩:=h;exact⟨v,σ',H',I.zbj,r,q⟩
theorem PSs.nox {st:List Stmt}{t:TS}(h:PSs X.nox st t):PSs X st t:=λpins s σ H D I hw=>
 wpAny_mono (h pins s σ H D (I.wish _) hw) (λ_ _ q=>q.zbj) λ_ _ z=>False.elim z
end
section
variable {X:Cx}{st:Stmt}{rest:List Stmt}{t u:TS}{e:Expr}{te:TE}{pos:Pos}
noncomputable def zrh:TS:=λD σ H=>D.nx σ H
noncomputable def tSeq (t u:TS):TS:=λD σ H=>t { D with nx:=u D } σ H
theorem zgZ:PSs X [] zrh:=λ_ _ σ H _ I h=>wpAny_execs_nil ⟨σ,H,I,h⟩
theorem zaS (h1:PS X st t)(h2:PSs X rest u):PSs X (st::rest) (tSeq t u):=by
 intro pins s σ H D I h;refine wpAny_execs_cons (thn (h1 pins s σ H { D with nx:=u D } I h) λf s1 q=>?_);cases f with
 | next=>
  obtain⟨σ',H',I',q⟩:=q;exact h2 pins s1 σ' H' D I' q
 | ret v=>exact q
 | brk=>exact q
 | cont=>exact q
theorem zch (h1:PS X st t):PSs X [st] t:=by
 intro pins s σ H D I h;refine wpAny_execs_cons (thn (h1 pins s σ H D I h) λf s1 q=>?_);cases f with
 | next=>exact wpAny_execs_nil q
 | ret v=>exact q
 | brk=>exact q
 | cont=>exact q
theorem Inv.quiet {pins:List (Addr×Obj)}{σ:St}{H:Hp}{s:Shared}(I:Inv X pins σ H s):interactive X.env=false:=by simp[interactive,I.ok.kind]
noncomputable def zri (te:TE):TS:=λD σ H=>te σ H λ_ H1=>D.nx σ H1
theorem zfr (he:PE X e te)(hs:autoParam (swapsWith e none pos.line X.env=pure false) aU0):PS X (.Expr e pos) (zri te):=by
 intro pins s σ H D I h;exact wpAny_Expr_any (thn (he pins s σ H _ I h) λv s1 q6q=>by obtain⟨x,H1,I1,r1,q1⟩:=q6q;exact⟨σ,H1,I1,q1⟩) I.quiet hs
noncomputable def tRet (te:TE):TS:=λD σ H=>te σ H D.rt
theorem zgd (he:PE X e te):PS X (.Return (some e) pos) (tRet te):=by
 intro pins s σ H D I h;exact wpAny_Return_some (thn (he pins s σ H _ I h) λv s1 q7q=>by obtain⟨x,H1,I1,r1,q1⟩:=q7q;exact⟨x,σ,H1,I1,r1,q1⟩)
noncomputable def tIfS (c:TT)(t u:TS):TS:=λD σ H=>c σ H λb H1=>if b=true then t D σ H1 else u D σ H1
theorem zlT {c:Expr}{a b:List Stmt}{tc:TT}(hc:PT X c tc)(ha:PSs X a t)(hb:PSs X b u):PS X (.If c a b pos) (tIfS tc t u):=by
 intro pins s σ H D I h;refine wpAny_If (thn (hc pins s σ H _ I h) λd s1 q8q=>?_);obtain⟨H1,I1,q1⟩:=q8q;cases d with
 | true=>exact ha pins s1 σ H1 D I1 q1
 | false=>exact hb pins s1 σ H1 D I1 q1
end
noncomputable abbrev TG:=V->St->Hp->(St->Hp->Prop)->Prop
noncomputable abbrev TGs:=List V->St->Hp->(St->Hp->Prop)->Prop
noncomputable def PG (X:Cx)(target:Expr)(t:TG):Prop:=
 ∀(pins:List (Addr×Obj)) (s:Shared) (σ:St) (H:Hp) (v:V) (u:Value) (Q:St->Hp->Prop),Inv X pins σ H s->RelV v u->t v σ H Q->
  wpAny (model X.prog X.w) X.A (assign target X.env u) (λ_ s'=>∃σ' H',Inv X pins σ' H' s'/\Q σ' H') X.xe s
noncomputable def PGs (X:Cx)(ts:List Expr)(t:TGs):Prop:=
 ∀(pins:List (Addr×Obj)) (s:Shared) (σ:St) (H:Hp) (vs:List V) (us:List Value) (Q:St->Hp->Prop),Inv X pins σ H s->Vals vs us->t vs σ H Q->
  wpAny (model X.prog X.w) X.A (assignInOrder ((assignEach ts X.env).map (·.2)) us) (λ_ s'=>∃σ' H',Inv X pins σ' H' s'/\Q σ' H') X.xe s
noncomputable abbrev TSet:=V->V->V->Hp->(Hp->Prop)->Prop
noncomputable def PSet (X:Cx)(t:TSet):Prop:=
 ∀(pins:List (Addr×Obj)) (s:Shared) (σ:St) (H:Hp) (o i v:V) (ov iv u:Value) (Q:Hp->Prop),Inv X pins σ H s->RelV o ov->RelV i iv->RelV v u->t o i v H Q->
  wpAny (model X.prog X.w) X.A (setItem ov iv u) (λ_ s'=>∃H',Inv X pins σ H' s'/\Q H') X.xe s
section
variable {X:Cx}{pos:Pos}
noncomputable def znP (i:Nat):TG:=λv σ H Q=>Q (σ.set i (some v)) H
theorem zha {i:Nat}{x:Str}(hN:X.N.Nodup)(hi:X.N[i]? = some x)(hx:Loc X.env.scope x)(hf:autoParam (X.fn x=true\/X.env.scope.names.lookup x=some .local) aU3):PG X (.Name x pos) (znP i):=by
 intro pins s σ H v u Q I r h;exact wpAny_assign_Name (zhP I hN hi hx r (λs' I'=>⟨_,H,I',h⟩) hf)
noncomputable def gNil:TGs:=λvs σ H Q=>vs=[]/\Q σ H
noncomputable def zrj (t:TG)(u:TGs):TGs:=λvs σ H Q=>∃v r,vs=v::r/\t v σ H λσ' H'=>u r σ' H' Q
theorem znQ:PGs X [] gNil:=by
 intro pins s σ H vs us Q I r h;obtain⟨e,h⟩:=h;subst e;cases r;exact assignInOrder_nil ⟨σ,H,I,h⟩
theorem zlU {e:Expr}{es:List Expr}{t:TG}{u:TGs}(h1:PG X e t)(h2:PGs X es u)
  (hs:autoParam ((assignEach (e::es) X.env).map (·.2)=assign e X.env::(assignEach es X.env).map (·.2)) aU0):PGs X (e::es) (zrj t u):=by
 intro pins s σ H vs us Q I r h;obtain⟨v,vr,e1,h⟩:=h;subst e1;cases r with
 | cons r rr=>
  rw[hs];refine assignInOrder_cons (thn (h1 pins s σ H _ _ _ I r h) λ_ s1 q9q=>?_);obtain⟨σ1,H1,I1,q1⟩:=q9q;exact h2 pins s1 σ1 H1 _ _ Q I1 rr q1
noncomputable def gTup (K:Xa)(n:Nat)(t:TGs):TG:=λv σ H Q=>∃a xs,v=.ref a/\SqT K H a xs/\xs.length=n/\t xs σ H Q
theorem zpu {es:List Expr}{k:Nat}{t:TGs}{n:Nat}(hc:X.calm=true)(h:PGs X es t)
  (hn:autoParam ((assignEach es X.env).length=n) aU0) (hst:autoParam ((assignEach es X.env).findIdx? (·.1)=none) aU0):PG X (.Tuple es k pos) (gTup X.K n t):=by
 intro pins s σ H v u Q I r hw;obtain⟨a,xs,e1,hq,hl,hw⟩:=hw;subst e1;cases r;obtain⟨its,rv,ht,hz⟩:=I.tuple hq;refine assign_Tuple_tuple (I.ok.hd hc) ht (by simp[hn,<- hl,rv.length]) hst λh' hx=>?_;have I1:Inv X pins σ H { s with heap:=h' }:=I.kept (t':=s.toks) λb o e=>hx b o (XJ (Xx e)) e;exact h pins _ σ H xs _ Q I1 (by simpa using rv) hw
noncomputable def gSub (to ti:TE)(t:TSet):TG:=λv σ H Q=>to σ H λo H1=>ti σ H1 λi H2=>t o i v H2 λH3=>Q σ H3
theorem zpv {o i:Expr}{to ti:TE}{t:TSet}(ho:PE X o to)(hi:PE X i ti)(hs:PSet X t)
  (ha:autoParam (∀v,assign (.Subscript o i pos) X.env v=(do
   let ov <- holding [v] (eval o X.env);let iv <- holding [v,ov] (eval i X.env)
   standAt pos
   holding [v,ov,iv] (setItem ov iv v)
   release [v,ov,iv] [])) aU2):PG X (.Subscript o i pos) (gSub to ti t):=by
 intro pins s σ H v u Q I r h;rw[ha];refine wpAny_bind (wpAny_holding (thn (ho pins s σ H _ I h) λov s1 q10q=>?_));obtain⟨x,H1,I1,r1,q1⟩:=q10q;refine wpAny_bind (wpAny_holding (thn (hi pins s1 σ H1 _ I1 q1) λiv s2 q11q=>?_));obtain⟨y,H2,I2,r2,q2⟩:=q11q;refine wpAny_bind (wpAny_standAt (wpAny_bind (wpAny_holding (thn (hs pins s2 σ H2 x y v ov iv u _ I2 r1 r2 r q2) λ_ s3 q12q=>?_))));obtain⟨H3,I3,q3⟩:=q12q;exact wpAny_release ⟨σ,H3,I3,q3⟩
noncomputable def tAsg (te:TE)(g:TG):TS:=λD σ H=>te σ H λx H1=>g x σ H1 D.nx
theorem zpw {tg e:Expr}{te:TE}{g:TG}(he:PE X e te)(hg:PG X tg g)(hs:autoParam (swapsWithSole [tg] e pos.line X.env=pure false) aU0)(hw:autoParam (swappedStores [tg] e X.env=pure none) aU0)
  (h1:autoParam ((assignEach [tg] X.env).map (·.2)=[assign tg X.env]) aU0):PS X (.Assign [tg] e pos) (tAsg te g):=by
 intro pins s σ H D I h;refine wpAny_Assign_stores (thn (he pins s σ H _ I h) λv s1 q13q=>?_) hs hw;obtain⟨x,H1,I1,r1,q1⟩:=q13q;rw[h1];exact thn (hg pins s1 σ H1 x v _ I1 r1 q1) λ_ s2 q=>q
theorem zcH {i:Nat}{x:Str}{e:Expr}{te:TE}{pos':Pos}(hN:X.N.Nodup)(hi:X.N[i]? = some x)(hx:Loc X.env.scope x)(he:PE X e te)(hs:autoParam (swapsWith e (some (.Name x pos')) pos.line X.env=pure false) aU0)(hf:autoParam (X.fn x=true\/X.env.scope.names.lookup x=some .local) aU3) :
  PS X (.Assign [.Name x pos'] e pos) (tAsg te (znP i)):=by
 intro pins s σ H D I h;refine wpAny_Assign_Name (thn (he pins s σ H _ I h) λv s1 q14q=>?_) hs;obtain⟨y,H1,I1,r1,q1⟩:=q14q;exact zhP I1 hN hi hx r1 (λs2 I2=>⟨_,H1,I2,q1⟩) hf
end
structure It where
 go:Nat->Hp->Prop
 yld:Nat->Hp->V->Hp->Prop
 stop:Nat->Hp->Prop
noncomputable def FpOk (X:Cx)(pins:List (Addr×Obj))(H:Hp)(b:Addr):Prop:=
 H b=none/\b≠X.env.locals/\b∉X.fs/\(b∈X.ex\/X.s₀.heap.objs.size<=b)/\(∀x c,X.env.cells.lookup x=some c->c≠b)/\∀p∈X.pn++pins,p.1≠b
theorem Inv.fpOk {X:Cx}{pins:List (Addr×Obj)}{σ:St}{H H':Hp}{s:Shared}{b:Addr}(I:Inv X pins σ H s)(hb:s.heap.objs.size<=b)(hn:H' b=none):FpOk X pins H' b:=by
 refine⟨hn,Nat.ne_of_gt (XE I.lt hb),I.nofs hb,.inr (YH I.sz hb),λx c e z=>?_,λp hp z=>?_⟩
 ·obtain⟨v,q⟩:=I.cell x c e;exact absurd (XE q.lt (by rw[z];exact hb)) (Yy _)
 ·exact absurd (XE (Xx (I.pin p hp).1) (by rw[z];exact hb)) (Yy _)
structure Turn (P:Program)(w:World)(K:Xa)(tg:Expr)(J:It)(fp:List Addr)(it:Addr)(tn:Nat->Heap->Prop):Prop where
 mem:it∈fp
 obj:∀i h,tn i h->∀b∈fp,∃o,h.get? b=some o/\∀v,o.data≠.cell v
 keep:∀i h h',tn i h->(∀b∈fp,∀o,h.get? b=some o->h'.get? b=some o)->tn i h'
 item:∀(X:Cx),X.prog=P->X.w=w->X.K=K->X.calm=true->∀(i:Nat) (pins:List (Addr×Obj)) (s:Shared) (σ:St) (H:Hp) (E:Value->Shared->Prop),Inv X pins σ H s->(∀b∈fp,FpOk X pins H b)->tn i s.heap->J.go i H->
  wpAny (model P w) X.A (pyNext (.ref it)) (λr s1=>∃u,r=some u/\
   wpAny (model P w) X.A (letOwnedTupleGo tg (.ref it) u) (λ_ s2=>∃x H',Inv X pins σ H' s2/\RelV x u/\J.yld i H x H'/\tn (i+1) s2.heap/\∀b∈fp,H' b=none) E s1) E s
 done:∀(X:Cx),X.prog=P->X.w=w->X.K=K->X.calm=true->∀(i:Nat) (pins:List (Addr×Obj)) (s:Shared) (σ:St) (H:Hp) (E:Value->Shared->Prop),Inv X pins σ H s->(∀b∈fp,FpOk X pins H b)->tn i s.heap->J.stop i H->
  wpAny (model P w) X.A (pyNext (.ref it)) (λr s1=>r=none/\Inv X pins σ H s1) E s
 self:∀(A:Around) (i:Nat) (s:Shared) (Q:Value->Shared->Prop) (E:Value->Shared->Prop),tn i s.heap->Q (.ref it) s->wpAny (model P w) A (pyIter (.ref it)) Q E s
noncomputable abbrev TI:=St->Hp->(It->Hp->Prop)->Prop
noncomputable def PIE (X:Cx)(pins:List (Addr×Obj))(σ:St)(tg:Expr)(R:It->Hp->Prop)(itv:Value)(s2:Shared):Prop:=
 ∃(it:Addr) (fp:List Addr) (tn:Nat->Heap->Prop) (J:It) (H':Hp),itv=.ref it/\Inv X pins σ H' s2/\Turn X.prog X.w X.K tg J fp it tn/\tn 0 s2.heap/\(∀b∈fp,FpOk X pins H' b)/\R J H'
noncomputable def PI (X:Cx)(tg iter:Expr)(wi:TI):Prop:=
 ∀(pins:List (Addr×Obj)) (s:Shared) (σ:St) (H:Hp) (R:It->Hp->Prop),Inv X pins σ H s->wi σ H R->
  wpAny (model X.prog X.w) X.A (eval iter X.env) (λv s1=>wpAny (model X.prog X.w) X.A (pyIter v) (PIE X pins σ tg R) X.xe s1) X.xe s
theorem znR {M:Model}{A:Around}{E:Value->Shared->Prop}{s:Shared}{tg:Expr}{it:Addr}{u:Value}{o:Obj}{n:String}{vs:Array Value}{Q:Unit->Shared->Prop}(ho:s.heap.get? it=some o)(hc:o.cls=.type n)(hd:o.data=.fields vs)
    (hn:["enumerate","zip","dict_itemiterator","dict_reverseitemiterator","odict_iterator","itertools.zip_longest","itertools.pairwise"].contains n=false) (hQ:Q () s):wpAny M A (letOwnedTupleGo tg (.ref it) u) Q E s:=by
  unfold letOwnedTupleGo;cases tg<;>first
    | exact wpAny_pure hQ
    | (cases u<;>first
        | exact wpAny_pure hQ
        | (refine wpAny_bind (wpAny_load ho ?_)
           rw[hc,hd];show wpAny M A (if (["enumerate","zip","dict_itemiterator","dict_reverseitemiterator","odict_iterator","itertools.zip_longest","itertools.pairwise"].contains n&&vs[0]? == some (rawInt _))=true then _ else _) Q E s
           rw[if_neg (by intro h;rw[hn,Bool.false_and]at h;cases h)];exact wpAny_pure hQ))
noncomputable def Itl (K:Xa)(a:Addr):It:=
 ⟨λi H=>∃xs x,SqL K H a xs/\xs[i]? = some x,λi H x H'=>H'=H/\∀xs,SqL K H a xs->xs[i]? = some x,λi H=>∃xs,SqL K H a xs/\xs.length<=i⟩
noncomputable def Itt (K:Xa)(a:Addr):It:=
 ⟨λi H=>∃xs x,SqT K H a xs/\xs[i]? = some x,λi H x H'=>H'=H/\∀xs,SqT K H a xs->xs[i]? = some x,λi H=>∃xs,SqT K H a xs/\xs.length<=i⟩
noncomputable def Itr (lo:Int)(n:Nat):It:=⟨λi _=>i<n,λi H x H'=>H'=H/\x=.int (lo+i),λi _=>n<=i⟩
theorem zjH {P:Program}{w:World}{K:Xa}{tg:Expr}(a it:Addr):Turn P w K tg (Itl K a) [it] it (λi h=>h.IsListIter it a i) where
 mem:=by simp
 obj:=λi h st b hb=>by
  have e:b=it:=by simpa using hb
  subst e;obtain⟨o,e,c,d⟩:=st;exact⟨o,e,λv z=>by rw[d]at z;cases z⟩
 keep:=λi h h' st k=>st.at λo e=>k it (by simp) o e
 item:=by
  intro X hP hw hK hc i pins s σ H E I hf st hg;subst hP hw hK;obtain⟨xs,x,hq,hx⟩:=hg;obtain⟨its,rv,p,hz⟩:=I.list hq;obtain⟨u,hu,ru⟩:=rv.get hx;obtain⟨f0,f1,f2,f3,f4,f5⟩:=hf it (by simp);refine wpAny_pyNext_list_item st p.isList (x:=u) (by simpa using hu) λh' st' sb=>?_;have I1:Inv X pins σ H { s with heap:=h' }:=I.turned (t':=s.toks) (λb o hb e=>(sb.2 b hb).trans e) f0 f1 f3 f4 f5;obtain⟨o,e,c,d⟩:=id st';exact⟨u,rfl,znR (s:={ s with heap:=h' }) e c d (by decide) ⟨x,H,I1,ru,⟨rfl,λys hy=>by rw[I.zhR hy hq];exact hx⟩,st',λb hb=>(hf b hb).1⟩⟩
 done:=by
  intro X hP hw hK hc i pins s σ H E I hf st hg;subst hP hw hK;obtain⟨xs,hq,hx⟩:=hg;obtain⟨its,rv,p,hz⟩:=I.list hq;obtain⟨f0,f1,f2,f3,f4,f5⟩:=hf it (by simp);have hl:=rv.length;exact wpAny_pyNext_list_end (I.ok.hd hc) st p.isList (by simp;lia) λh' eb=>⟨rfl,I.turned (t':=s.toks) (λb o hb e=>eb b o hb e) f0 f1 f3 f4 f5⟩
 self:=λ_ _ _ _ _ st h=>wpAny_pyIter_listiter st h
theorem ziO {P:Program}{w:World}{K:Xa}{tg:Expr}(a it:Addr):Turn P w K tg (Itt K a) [it] it (λi h=>h.IsTupleIter it a i) where
 mem:=by simp
 obj:=λi h st b hb=>by
  have e:b=it:=by simpa using hb
  subst e;obtain⟨o,e,c,d⟩:=st;exact⟨o,e,λv z=>by rw[d]at z;cases z⟩
 keep:=λi h h' st k=>st.at λo e=>k it (by simp) o e
 item:=by
  intro X hP hw hK hc i pins s σ H E I hf st hg;subst hP hw hK;obtain⟨xs,x,hq,hx⟩:=hg;obtain⟨its,rv,p,hz⟩:=I.tuple hq;obtain⟨u,hu,ru⟩:=rv.get hx;obtain⟨f0,f1,f2,f3,f4,f5⟩:=hf it (by simp);refine wpAny_pyNext_tuple_item st (show s.heap.IsTuple a its.toArray from p) (x:=u) (by simpa using hu) λh' st' sb=>?_;have I1:Inv X pins σ H { s with heap:=h' }:=I.turned (t':=s.toks) (λb o hb e=>(sb.2 b hb).trans e) f0 f1 f3 f4 f5;obtain⟨o,e,c,d⟩:=id st';exact⟨u,rfl,znR (s:={ s with heap:=h' }) e c d (by decide) ⟨x,H,I1,ru,⟨rfl,λys hy=>by rw[I.zgc hy hq];exact hx⟩,st',λb hb=>(hf b hb).1⟩⟩
 done:=by
  intro X hP hw hK hc i pins s σ H E I hf st hg;subst hP hw hK;obtain⟨xs,hq,hx⟩:=hg;obtain⟨its,rv,p,hz⟩:=I.tuple hq;obtain⟨f0,f1,f2,f3,f4,f5⟩:=hf it (by simp);have hl:=rv.length;exact wpAny_pyNext_tuple_end (I.ok.hd hc) st (show s.heap.IsTuple a its.toArray from p) (by simp;lia) λh' eb=>⟨rfl,I.turned (t':=s.toks) (λb o hb e=>eb b o hb e) f0 f1 f3 f4 f5⟩
 self:=λ_ _ _ _ _ st h=>wpAny_pyIter_tupleiter st h
theorem ziP {P:Program}{w:World}{K:Xa}{tg:Expr}(it:Addr)(lo:Int)(n:Nat):Turn P w K tg (Itr lo n) [it] it (λi h=>IsRangeIter h it (lo+(i:Nat)*1) ((n:Int)-(i:Nat)) 1) where
 mem:=by simp
 obj:=λi h st b hb=>by
  have e:b=it:=by simpa using hb
  subst e;exact⟨_,st,λv z=>by
   have z':Data.fields _=Data.cell v:=z;cases z'⟩
 keep:=λi h h' st k=>k it (by simp) _ st
 item:=by
  intro X hP hw hK hc i pins s σ H E I hf st hg;subst hP hw hK;obtain⟨f0,f1,f2,f3,f4,f5⟩:=hf it (by simp);have W:=Walks.range (prog:=X.prog) (w:=X.w) (I.ok.hd hc) it lo 1 n;refine W.item i s _ _ hg st λv h' tk hv st' kk=>?_;obtain⟨t,rfl⟩:=hv;have I1:Inv X pins σ H { s with heap:=h',toks:=tk }:=I.turned (λb o hb e=>kk b o (by simpa using hb) e) f0 f1 f3 f4 f5;refine⟨_,rfl,znR (s:={ s with heap:=h',toks:=tk }) (n:="range_iterator") st' rfl rfl (by decide) ⟨.int (lo+i),H,I1,⟨t,?_⟩,⟨rfl,rfl⟩,st',λb hb=>(hf b hb).1⟩⟩;rw[Int.mul_one]
 done:=by
  intro X hP hw hK hc i pins s σ H E I hf st hg;subst hP hw hK;obtain⟨f0,f1,f2,f3,f4,f5⟩:=hf it (by simp);exact wpAny_pyNext_range_end (I.ok.hd hc) st (by have:n<=i:=hg;lia) λh' eb=>⟨rfl,I.turned (t':=s.toks) (λb o hb e=>eb b o hb e) f0 f1 f3 f4 f5⟩
 self:=λ_ _ _ _ _ st h=>wpAny_pyIter_rangeiter st h
section
variable {X:Cx}{tg:Expr}
noncomputable def zrk (K:Xa)(tl:TE):TI:=λσ H R=>tl σ H λx H1=>∃a,x=.ref a/\(∃xs,SqL K H1 a xs)/\R (Itl K a) H1
noncomputable def iTup (K:Xa)(tl:TE):TI:=λσ H R=>tl σ H λx H1=>∃a,x=.ref a/\(∃xs,SqT K H1 a xs)/\R (Itt K a) H1
theorem zjI {l:Expr}{tl:TE}(hl:PE X l tl):PI X tg l (zrk X.K tl):=by
 intro pins s σ H R I h;refine thn (hl pins s σ H _ I h) λv s1 q15q=>?_;obtain⟨x,H1,I1,r1,q1⟩:=q15q;obtain⟨a,e,⟨xs,hq⟩,q⟩:=q1;subst e;cases r1;obtain⟨its,rv,p,hz⟩:=I1.list hq;refine wpAny_pyIter_list p.isList ?_;refine⟨s1.heap.objs.size,[s1.heap.objs.size],_,_,H1,rfl,I1.kept (t':=s1.toks) λb o e=>Xg _ e,zjH a _,⟨_,XG _ rfl,rfl,rfl⟩,λb hb=>?_,q⟩;have e:b=s1.heap.objs.size:=by simpa using hb
 subst e;exact I1.fpOk (Xo _) (I1.hok.fresh (Xo _))
theorem zpx {l:Expr}{tl:TE}(hl:PE X l tl):PI X tg l (iTup X.K tl):=by
 intro pins s σ H R I h;refine thn (hl pins s σ H _ I h) λv s1 q16q=>?_;obtain⟨x,H1,I1,r1,q1⟩:=q16q;obtain⟨a,e,⟨xs,hq⟩,q⟩:=q1;subst e;cases r1;obtain⟨its,rv,p,hz⟩:=I1.tuple hq;refine wpAny_pyIter_tuple (show s1.heap.IsTuple a its.toArray from p) ?_;refine⟨s1.heap.objs.size,[s1.heap.objs.size],_,_,H1,rfl,I1.kept (t':=s1.toks) λb o e=>Xg _ e,ziO a _,⟨_,XG _ rfl,rfl,rfl⟩,λb hb=>?_,q⟩;have e:b=s1.heap.objs.size:=by simpa using hb
 subst e;exact I1.fpOk (Xo _) (I1.hok.fresh (Xo _))
theorem zlV {pins:List (Addr×Obj)}{σ:St}{H:Hp}{s:Shared}{R:It->Hp->Prop}{E:Value->Shared->Prop}{lo hi:Int}{t u v:Tok}{tk:Nat}(I:Inv X pins σ H s)(h1:-(2 ^ 62)<=lo)(h2:lo<2 ^ 62)(h3:-(2 ^ 62)<=hi)(h4:hi<2 ^ 62)
  (q:R (Itr lo (hi-lo).toNat) H):wpAny (model X.prog X.w) X.A (pyIter (.ref s.heap.objs.size)) (PIE X pins σ tg R) E { s with heap:=s.heap.push { cls:=.type "range",data:=.fields #[.int lo t,.int hi u,.int 1 v] },toks:=tk }:=by
 refine wpAny_pyIter_range (IsRange.new ..) (small_one h1 h2 h3 h4) ?_;have I1:Inv X pins σ H { s with heap:=s.heap.push { cls:=.type "range",data:=.fields #[.int lo t,.int hi u,.int 1 v] },toks:=tk }:=I.kept λb o e=>Xg _ e;refine⟨(s.heap.push { cls:=.type "range",data:=.fields #[.int lo t,.int hi u,.int 1 v] }).objs.size,[(s.heap.push { cls:=.type "range",data:=.fields #[.int lo t,.int hi u,.int 1 v] }).objs.size],_,_,H,rfl,
  I1.kept (t':=tk) λb o e=>Xg _ e,ziP _ lo (hi-lo).toNat,?_,λb hb=>?_,q⟩
 ·have e1:lo+((0:Nat):Int)*1=lo:=by simp
  have e2:(((hi-lo).toNat:Nat):Int)-((0:Nat):Int)=Builtin.Range.rangeSize lo hi 1:=by rw[rangeSize_one];split<;>lia
  show IsRangeIter _ _ (lo+((0:Nat):Int)*1) ((((hi-lo).toNat:Nat):Int)-((0:Nat):Int)) 1;rw[e1,e2];exact XG _ rfl
 ·have e:b=(s.heap.push { cls:=.type "range",data:=.fields #[.int lo t,.int hi u,.int 1 v] }).objs.size:=by simpa using hb
  subst e;exact I1.fpOk (Xo _) (I1.hok.fresh (Xo _))
noncomputable def zrl (ta:TA):TI:=λσ H R=>ta σ H λvs H1=>∃j:Int,vs=[.int j]/\-(2 ^ 62)<=j/\j<2 ^ 62/\R (Itr 0 j.toNat) H1
theorem zjJ {a:Expr}{ta:TA}{p pos:Pos}(hg:Gl X "range") (hm:X.mg "range" = none) (ha:PA X [a] ta) (hs:autoParam (starEach [a] X.env=[(false,eval a X.env)]) aU0):PI X tg (.Call (.Name "range" p) [a] [] pos) (zrl ta):=by
 intro pins s σ H R I h;refine Call_ (zhQ I hg hm boot_range (PyProof.Rows.callWith_type1 (thn (ha pos pins s σ H _ I h) λus s1 q17q=>?_) hs rfl));obtain⟨vs,H1,I1,r1,q1⟩:=q17q;obtain⟨j,e,q1,q2,q⟩:=q1;subst e;cases r1 with
 | cons r rr=>
  cases rr;obtain⟨t,rfl⟩:=r;exact call_range_1 (zlV I1 (by lia) (by lia) q1 q2 (by simpa using q))
noncomputable def tFor (wi:TI)(g:TG)(tb:TS):TS:=λD σ H=>wi σ H λJ H1=>∃W:Nat->Nat->St->Hp->Prop,(∃m,W 0 m σ H1)/\∀i m σ H,W i m σ H->
 (J.stop i H/\D.nx σ H)\/(J.go i H/\∃N:St->Hp->Prop,(∀σ' H',N σ' H'->∃m',m'<m/\W (i+1) m' σ' H')/\∀x H',J.yld i H x H'->g x σ H' λσ2 H2=>tb { D with nx:=N,ct:=N,bk:=D.nx } σ2 H2)
noncomputable def zeW (fp:List Addr)(h:Heap):List (Addr×Obj):=fp.filterMap λb=>(h.get? b).map λo=>(b,o)
theorem zbo {fp:List Addr}{h:Heap}{b:Addr}{o:Obj}(hb:b∈fp)(e:h.get? b=some o):(b,o)∈zeW fp h:=List.mem_filterMap.mpr ⟨b,hb,by rw[e];rfl⟩
theorem zjK {fp:List Addr}{h:Heap}{p:Addr×Obj}(hp:p∈zeW fp h):p.1∈fp/\h.get? p.1=some p.2:=by
 obtain⟨b,hb,e⟩:=List.mem_filterMap.mp hp;cases q:h.get? b with
 | none=>rw[q]at e;cases e
 | some o=>
  rw[q]at e;have e':(b,o)=p:=Option.some.inj e;subst e';exact⟨hb,q⟩
theorem Inv.pinned {pins:List (Addr×Obj)}{σ:St}{H:Hp}{s:Shared}{fp:List Addr}(I:Inv X pins σ H s)(hf:∀b∈fp,FpOk X pins H b)(ho:∀b∈fp,∃o,s.heap.get? b=some o/\∀v,o.data≠.cell v):Inv X (pins++zeW fp s.heap) σ H s:=
 I.zjE λp hp=>(XA.mp hp).elim (λz=>I.pin p (XQ _ z)) λz=>by
  obtain⟨hb,e⟩:=zjK z;obtain⟨f0,f1,f2,_⟩:=hf p.1 hb;obtain⟨o,e',d⟩:=ho p.1 hb;rw[e]at e';cases e';exact⟨e,f0,f1,f2,d⟩
theorem Inv.zbL {pins pl:List (Addr×Obj)}{σ:St}{H:Hp}{s:Shared}(I:Inv X (pins++pl) σ H s):Inv X pins σ H s:=I.zjE λp hp=>I.pin p (XQ _ (List.mem_append_left _ hp))
theorem zhS {iter:Expr}{body:List Stmt}{wi:TI}{g:TG}{tb:TS}{pos:Pos}(hp:PassesOwn (model X.prog X.w) X.A X.env X.xe)(hc:X.calm=true)(hi:PI X tg iter wi)(hg:PG X tg g)(hb:PSs X body tb)
  (hs:autoParam (∀x,foldedSetIterable iter X.env x=pure x) aU2):PS X (.For tg iter body [] pos) (tFor wi g tb):=by
 intro pins s σ H D I h;refine wpAny_For (thn (hi pins s σ H _ I h) λv s1 h1=>thn h1 λitv s2 h2=>?_) hs;obtain⟨it,fp,tn,J,H2,e,I2,T,st2,f2,W,⟨m0,w0⟩,turn⟩:=h2;subst e;have stat:∀ {H':Hp},(∀b∈fp,H' b=none)->∀b∈fp,FpOk X pins H' b:=λhn b hb=>⟨hn b hb,(f2 b hb).2⟩;refine codeAny_forLoop_any (λn s'=>∃i σ' H',Inv X pins σ' H' s'/\tn i s'.heap/\(∀b∈fp,H' b=none)/\W i n σ' H') ?_ m0 ⟨0,σ,H2,I2,st2,λb hb=>(f2 b hb).1,w0⟩;rintro n s3 ⟨i,σ3,H3,I3,st3,fr3,w3⟩;rcases turn i n σ3 H3 w3 with ⟨stop,qn⟩ | ⟨go,N,hN,step⟩
 ·refine wpAny_passesOwn hp (thn (T.done X rfl rfl rfl hc i pins s3 σ3 H3 X.xe I3 (stat fr3) st3 stop) λr s4 q18q=>?_);obtain⟨hr,I4⟩:=q18q;subst hr;exact wpAny_execs_nil ⟨σ3,H3,I4,qn⟩
 ·refine wpAny_passesOwn hp (thn (T.item X rfl rfl rfl hc i pins s3 σ3 H3 X.xe I3 (stat fr3) st3 go) λr s4 q19q=>?_);obtain⟨u,hr,h4⟩:=q19q;subst hr;refine wpAny_passesOwn hp (thn h4 λ_ s5 q20q=>?_);obtain⟨x,H5,I5,r5,y5,st5,fr5⟩:=q20q;have I5':=I5.pinned (stat fr5) (T.obj _ _ st5);refine wpAny_passesOwn hp (thn (hg _ s5 σ3 H5 x u _ I5' r5 (step x H5 y5)) λ_ s6 q21q=>?_);obtain⟨σ6,H6,I6,q6⟩:=q21q;refine wpAny_passesOwn hp (thn (hb _ s6 σ6 H6 _ I6 q6) λf s7 q7=>?_);have again:∀ {σ7:St} {H7:Hp},Inv X (pins++zeW fp s5.heap) σ7 H7 s7->N σ7 H7->∃m,m<n/\∃i σ' H',Inv X pins σ' H' s7/\tn i s7.heap/\(∀b∈fp,H' b=none)/\W i m σ' H':=λ{σ7 H7} I7 n7=>by
   obtain⟨m',hm,w7⟩:=hN σ7 H7 n7;refine⟨m',hm,i+1,σ7,H7,I7.zbL,T.keep _ _ _ st5 λb hb o e=>(I7.pin (b,o) (XQ _ (XQ _ (zbo hb e)))).1,λb hb=>?_,w7⟩;obtain⟨o,e,d⟩:=T.obj _ _ st5 b hb;exact(I7.pin (b,o) (XQ _ (XQ _ (zbo hb e)))).2.1
  cases f with
  | next=>obtain⟨σ7,H7,I7,n7⟩:=q7;exact again I7 n7
  | cont=>obtain⟨σ7,H7,I7,n7⟩:=q7;exact again I7 n7
  | brk=>obtain⟨σ7,H7,I7,q7⟩:=q7;exact⟨σ7,H7,I7.zbL,q7⟩
  | ret v=>obtain⟨x7,σ7,H7,I7,r7,q7⟩:=q7;exact⟨x7,σ7,H7,I7.zbL,r7,q7⟩
end
theorem zlW {K:Xa}{a:Addr}{xs:List V}{g:TG}{tb:TS}{D:Ends}{σ:St}{H:Hp}(Pv:Nat->St->Hp->Prop)(h0:Pv 0 σ H)(hl:∀i σ H,i<=xs.length->Pv i σ H->SqL K H a xs)
  (hs:∀i x σ H,xs[i]? = some x->Pv i σ H->g x σ H λσ2 H2=>tb { D with nx:=Pv (i+1),ct:=Pv (i+1),bk:=D.nx } σ2 H2) (hd:∀σ H,Pv xs.length σ H->D.nx σ H) :
  ∃W:Nat->Nat->St->Hp->Prop,(∃m,W 0 m σ H)/\∀i m σ H,W i m σ H->
   ((Itl K a).stop i H/\D.nx σ H)\/((Itl K a).go i H/\∃N:St->Hp->Prop,(∀σ' H',N σ' H'->∃m',m'<m/\W (i+1) m' σ' H')/\∀x H',(Itl K a).yld i H x H'->g x σ H' λσ2 H2=>tb { D with nx:=N,ct:=N,bk:=D.nx } σ2 H2):=by
 refine⟨λi m σ H=>m=xs.length-i/\i<=xs.length/\Pv i σ H,⟨xs.length,by simp,XX _,h0⟩,?_⟩;rintro i m σ H ⟨rfl,hi,p⟩;have q:=hl i σ H hi p;by_cases hlt:i<xs.length
 ·refine .inr ⟨⟨xs,xs[i],q,by simp[hlt]⟩,Pv (i+1),λσ' H' p'=>⟨xs.length-(i+1),by lia,rfl,hlt,p'⟩,λx H' y=>?_⟩;obtain⟨e,y⟩:=y;subst e;exact hs i x σ _ (y xs q) p
 ·have e:i=xs.length:=by lia
  subst e;exact .inl ⟨⟨xs,q,Xo _⟩,hd σ H p⟩
noncomputable abbrev R2:=V->V->Hp->VK->Prop
noncomputable def OpR (X:Cx)(f:Value->Value->Sem Value)(r:R2):Prop:=
 ∀(pins:List (Addr×Obj)) (s:Shared) (σ:St) (H:Hp) (x y:V) (v u:Value) (Q:VK),Inv X pins σ H s->RelV x v->RelV y u->r x y H Q->
  wpAny (model X.prog X.w) X.A (f v u) (EP X pins σ Q) X.xe s
noncomputable def UnR (X:Cx)(f:Value->Sem Value)(r:V->Hp->VK->Prop):Prop:=
 ∀(pins:List (Addr×Obj)) (s:Shared) (σ:St) (H:Hp) (x:V) (v:Value) (Q:VK),Inv X pins σ H s->RelV x v->r x H Q->
  wpAny (model X.prog X.w) X.A (f v) (EP X pins σ Q) X.xe s
noncomputable def zcz (X:Cx)(f:Value)(r:List V->Hp->VK->Prop):Prop:=
 ∀(pins:List (Addr×Obj)) (s:Shared) (σ:St) (H:Hp) (xs:List V) (us:List Value) (Q:VK),Inv X pins σ H s->Vals xs us->r xs H Q->
  wpAny (model X.prog X.w) X.A (call f us) (EP X pins σ Q) X.xe s
noncomputable def TruR (X:Cx)(r:V->Hp->(Bool->Hp->Prop)->Prop):Prop:=
 ∀(pins:List (Addr×Obj)) (s:Shared) (σ:St) (H:Hp) (x:V) (v:Value) (Q:Bool->Hp->Prop),Inv X pins σ H s->RelV x v->r x H Q->
  wpAny (model X.prog X.w) X.A (truthy v) (TP X pins σ Q) X.xe s
noncomputable def tOp (r:R2)(ta tb:TE):TE:=λσ H Q=>ta σ H λx H1=>tb σ H1 λy H2=>r x y H2 Q
noncomputable def tUn (r:V->Hp->VK->Prop)(ta:TE):TE:=λσ H Q=>ta σ H λx H1=>r x H1 Q
noncomputable def rI (C:Int->Int->Prop)(g:Int->Int->V):R2:=λx y H Q=>∃i j,x=.int i/\y=.int j/\C i j/\Q (g i j) H
noncomputable def rI0 (g:Int->Int->V):R2:=λx y H Q=>∃i j,x=.int i/\y=.int j/\Q (g i j) H
noncomputable def rU (g:Int->V):V->Hp->VK->Prop:=λx H Q=>∃i,x=.int i/\Q (g i) H
section
variable {X:Cx}{a b c:Expr}{ta tb tc:TE}{pos:Pos}
theorem binT (ha:PE X a ta)(hb:PE X b tb){pins:List (Addr×Obj)}{s:Shared}{σ:St}{H:Hp}{R:V->V->Hp->Prop}(I:Inv X pins σ H s)
  (h:ta σ H λx H1=>tb σ H1 λy H2=>R x y H2) {Q:Value->Shared->Prop} {f:Value->Value->Sem Value}
  (hf:∀v u s2 x y H2,Inv X pins σ H2 s2->RelV x v->RelV y u->R x y H2->wpAny (model X.prog X.w) X.A (f v u) Q X.xe s2) :
  wpAny (model X.prog X.w) X.A (eval a X.env) (λv s₁=>wpAny (model X.prog X.w) X.A (eval b X.env) (λu s₂=>wpAny (model X.prog X.w) X.A (f v u) Q X.xe s₂) X.xe s₁) X.xe s:=by
 refine thn (ha pins s σ H _ I h) λv s1 q22q=>?_;obtain⟨x,H1,I1,r1,q1⟩:=q22q;refine thn (hb pins s1 σ H1 _ I1 q1) λu s2 q23q=>?_;obtain⟨y,H2,I2,r2,q2⟩:=q23q;exact hf v u s2 x y H2 I2 r1 r2 q2
theorem zpy {op:Operator}{r:R2}(ho:OpR X (binaryOp op) r)(ha:PE X a ta)(hb:PE X b tb):PE X (.BinOp a op b pos) (tOp r ta tb):=by
 intro pins s σ H Q I h;exact wpAny_BinOp (binT ha hb I h λv u s2 x y H2 I2 rx ry q=>ho pins s2 σ H2 x y v u Q I2 rx ry q)
theorem zrm {op:UnaryOp}{r:V->Hp->VK->Prop}(ho:UnR X (unaryOp op) r)(ha:PE X a ta):PE X (.UnaryOp op a pos) (tUn r ta):=by
 intro pins s σ H Q I h;exact UnaryOp_ (thn (ha pins s σ H _ I h) λv s1 q24q=>by obtain⟨x,H1,I1,r1,q1⟩:=q24q;exact ho pins s1 σ H1 x v Q I1 r1 q1)
theorem opI {f:Value->Value->Sem Value}{C:Int->Int->Prop}{g:Int->Int->Int}
  (rule:∀(i j:Int) (t u:Tok) (s:Shared) (Q:Value->Shared->Prop) (E:Value->Shared->Prop),C i j->Q (.int (g i j) s.toks) { s with toks:=s.toks+1 }->wpAny (model X.prog X.w) X.A (f (.int i t) (.int j u)) Q E s) :
  OpR X f (rI C λi j=>.int (g i j)):=by
 intro pins s σ H x y v u Q I rx ry h;obtain⟨i,j,rfl,rfl,hc,q⟩:=h;obtain⟨t,rfl⟩:=rx;obtain⟨t',rfl⟩:=ry;exact rule i j t t' s _ _ hc ⟨.int (g i j),H,I.tok _,⟨_,rfl⟩,q⟩
theorem opI0 {f:Value->Value->Sem Value}{g:Int->Int->Int}
  (rule:∀(i j:Int) (t u:Tok) (s:Shared) (Q:Value->Shared->Prop) (E:Value->Shared->Prop),Q (.int (g i j) s.toks) { s with toks:=s.toks+1 }->wpAny (model X.prog X.w) X.A (f (.int i t) (.int j u)) Q E s) :
  OpR X f (rI0 λi j=>.int (g i j)):=by
 intro pins s σ H x y v u Q I rx ry h;obtain⟨i,j,rfl,rfl,q⟩:=h;obtain⟨t,rfl⟩:=rx;obtain⟨t',rfl⟩:=ry;exact rule i j t t' s _ _ ⟨.int (g i j),H,I.tok _,⟨_,rfl⟩,q⟩
noncomputable def CPow (i j:Int):Prop:=0<=j/\j<=1000000/\i.natAbs<2 ^ 64
noncomputable def CMul (i j:Int):Prop:=(-(2 ^ 64)<i/\i<2 ^ 64)\/(-(2 ^ 64)<j/\j<2 ^ 64)
theorem CMul.ok {i j:Int}(h:CMul i j):IntMulOk i j:=by
 rcases h with ⟨h1,h2⟩ | ⟨h1,h2⟩
 ·exact .of_left (intBits_le_64 h1 h2)
 ·exact .of_right (intBits_le_64 h1 h2)
theorem ziQ (k:Nat):(0:Int)<=2 ^ k:=by
 rw[two_pow_cast];exact Int.natCast_nonneg _
theorem zpz:OpR X (binaryOp .Add) (rI0 λi j=>.int (i+j)):=opI0 λ_ _ _ _ _ _ _ q=>add_int q
theorem zpA:OpR X (binaryOp .Sub) (rI0 λi j=>.int (i-j)):=opI0 λ_ _ _ _ _ _ _ q=>sub_int q
theorem zpB:OpR X (binaryOp .Mult) (rI CMul λi j=>.int (i*j)):=opI λ_ _ _ _ _ _ _ hc q=>mul_int q hc.ok
theorem zpC:OpR X (binaryOp .Mod) (rI (λ_ j=>0<j) λi j=>.int (i % j)):=opI λi j _ _ _ _ _ hc q=>by
 have h1:(0:Int)<j:=hc;exact mod_int' (by lia) (by rw[Int.fmod_eq_emod_of_nonneg i (by lia)];exact q)
theorem zpD:OpR X (binaryOp .Pow) (rI CPow λi j=>.int (i ^ j.toNat)):=opI λ_ _ _ _ _ _ _ hc q=>pow_int_small hc.1 hc.2.1 hc.2.2 q
theorem zpE:OpR X (binaryOp .RShift) (rI (λ_ j=>0<=j) λi j=>.int (i / 2 ^ j.toNat)):=opI λi j _ _ _ _ _ hc q=>
 rshift_int hc (by rw[Int.fdiv_eq_ediv_of_nonneg i (ziQ _)];exact q)
theorem unI {f:Value->Sem Value}{g:Int->Int}
  (rule:∀(i:Int) (t:Tok) (s:Shared) (Q:Value->Shared->Prop) (E:Value->Shared->Prop),Q (.int (g i) s.toks) { s with toks:=s.toks+1 }->wpAny (model X.prog X.w) X.A (f (.int i t)) Q E s) :
  UnR X f (rU λi=>.int (g i)):=by
 intro pins s σ H x v Q I rx h;obtain⟨i,rfl,q⟩:=h;obtain⟨t,rfl⟩:=rx;exact rule i t s _ _ ⟨.int (g i),H,I.tok _,⟨_,rfl⟩,q⟩
theorem zpF:UnR X (unaryOp .USub) (rU λi=>.int (-i)):=unI λ_ _ _ _ _ q=>neg_int q
end
section
variable {X:Cx}{a b c:Expr}{ta tb tc:TE}{pos:Pos}
theorem zeb (b:Expr){op:CmpOp}(h:autoParam (op≠.In) aU1)(h2:autoParam (op≠.NotIn) aU1):behindInMarks op b=false:=by
 have e1:(op == CmpOp.In)=false:=by cases op<;>first | rfl | exact absurd rfl h
 have e2:(op == CmpOp.NotIn)=false:=by cases op<;>first | rfl | exact absurd rfl h2
 cases b<;>simp[behindInMarks,e1,e2]
theorem znS {op:CmpOp}{r:R2}(ho:OpR X (compareOp op) r)(ha:PE X a ta)(hb:PE X b tb)(hm:behindInMarks op b=false):PE X (.Compare a [op] [b] pos) (tOp r ta tb):=by
 intro pins s σ H Q I h;exact wpAny_Compare1 (binT ha hb I h λv u s2 x y H2 I2 rx ry q=>ho pins s2 σ H2 x y v u Q I2 rx ry q) hm
noncomputable def zrn (t:TE):TT:=λσ H Q=>t σ H λx H'=>∃k,x=.bl k/\Q k H'
theorem znT {op:CmpOp}{r:R2}(ho:OpR X (compareOp op) r)(ha:PE X a ta)(hb:PE X b tb)(hm:behindInMarks op b=false):PT X (.Compare a [op] [b] pos) (zrn (tOp r ta tb)):=by
 intro pins s σ H Q I h;refine wpAny_isTrue_Compare1 (thn (ha pins s σ H _ I h) λv s1 ⟨x,H1,I1,r1,q1⟩=>thn (hb pins s1 σ H1 _ I1 q1) λu s2 ⟨y,H2,I2,r2,q2⟩=>
  thn (ho pins s2 σ H2 x y v u _ I2 r1 r2 q2) λc s3 ⟨z,H3,I3,r3,k,e,q3⟩=>?_) hm
 subst e;cases r3;exact wpAny_truthy_bool ⟨H3,I3,q3⟩
noncomputable def TruV (K:Xa)(x:V)(H:Hp)(k:Bool):Prop:=
 match x with
 | .non=>k=false
 | .bl b=>k=b
 | .int i=>k=(i != 0)
 | .str y=>y.length<=sizeLine/\k=((y.length:Int) != 0)
 | .byt y=>y.size<=sizeLine/\k=((y.size:Int) != 0)
 | .ref p=>(∃xs,SqL K H p xs/\k = !xs.isEmpty)\/(∃xs,SqT K H p xs/\k = !xs.isEmpty)\/∃kvs,H p=some (.dK kvs)/\k = !kvs.isEmpty
 | _=>False
theorem ziR {κ:Type}{kvs:List (κ×V)}{vs:List (κ×Value)}(r:KV kvs vs):(!vs.isEmpty) = !kvs.isEmpty:=by
 cases r<;>rfl
theorem zeX {xs:List V}{its:List Value}(r:Vals xs its):(!its.toArray.isEmpty) = !xs.isEmpty:=by
 cases r<;>simp
theorem zeY:(sizeLine:Nat)<2 ^ 63:=by rw[sizeLine_eq];decide
theorem zpG:TruR X (λx H Q=>∃k,TruV X.K x H k/\Q k H):=by
 intro pins s σ H x v Q I rx h;obtain⟨k,e,q⟩:=h;have hl:=zeY;have hs:sizeLine=16777216:=sizeLine_eq;cases x with
 | non=>
  cases rx;have e':k=false:=e;subst e';exact truthy_none ⟨H,I,q⟩
 | bl b=>
  cases rx;have e':k=b:=e;subst e';exact wpAny_truthy_bool ⟨H,I,q⟩
 | int i=>
  obtain⟨t,rfl⟩:=rx;have e':k=(i != 0):=e;subst e';exact PySem.P.truthy_int ⟨H,I,q⟩
 | str y=>
  obtain⟨t,rfl⟩:=rx;obtain⟨hy,e'⟩:y.length<=sizeLine/\k=((y.length:Int) != 0):=e;subst e';exact PySem.P.truthy_str (by lia) ⟨H,I.tok _,q⟩
 | byt y=>
  obtain⟨t,rfl⟩:=rx;obtain⟨hy,e'⟩:y.size<=sizeLine/\k=((y.size:Int) != 0):=e;subst e';exact PySem.W.truthy_bytes (by lia) ⟨H,I.tok _,q⟩
 | ref p=>
  cases rx;have e':(∃xs,SqL X.K H p xs/\k = !xs.isEmpty)\/(∃xs,SqT X.K H p xs/\k = !xs.isEmpty)\/∃kvs,H p=some (.dK kvs)/\k = !kvs.isEmpty:=e;rcases e' with ⟨xs,hx,e'⟩ | ⟨xs,hx,e'⟩ | ⟨kvs,hx,e'⟩
  ·subst e';obtain⟨its,r,pl,hz⟩:=I.list hx;have hlen:=r.length;exact wpAny_truthy_list pl.isList (by simp only[Xm];lia) ⟨H,I.tok _,by rw[zeX r];exact q⟩
  ·subst e';obtain⟨its,r,pl,hz⟩:=I.tuple hx;have hlen:=r.length;exact truthy_tuple pl (by simp only[Xm];lia) ⟨H,I.tok _,by rw[zeX r];exact q⟩
  ·subst e';obtain⟨hz,hS,vs,r,m⟩:kvs.length<=sizeLine/\(p == sysModules)=false/\∃vs,KV kvs vs/\s.heap.DictOf (zax X.prog X.w) p vs:=I.hok p _ hx;have hlen:kvs.length=vs.length:=Paired.length r;exact wpAny_truthy_dict hS m (by lia) ⟨H,I.tok _,by rw[ziR r];exact q⟩
 | _=>exact(show False from e).elim
theorem zlX (ha:PE X a ta)(he:∀whole,isTrue a X.env whole=(do let v <- whole;standAt a.pos;holding [v] (truthy v))) :
  PT X a (λσ H Q=>ta σ H λx H'=>∃k,TruV X.K x H' k/\Q k H'):=by
 intro pins s σ H Q I h;exact isTrue_plain (thn (ha pins s σ H _ I h) λv s1 q28q=>by obtain⟨x,H1,I1,r1,q1⟩:=q28q;exact zpG pins s1 σ H1 x v Q I1 r1 q1) (he _)
theorem vals1 {x:V}{us:List Value}(r:Vals [x] us):∃u,us=[u]/\RelV x u:=by
 cases r with
 | cons r1 r2=>cases r2;exact⟨_,rfl,r1⟩
theorem vals2 {x y:V}{us:List Value}(r:Vals [x,y] us):∃u w',us=[u,w']/\RelV x u/\RelV y w':=by
 cases r with
 | cons r1 r2=>
  cases r2 with
  | cons r3 r4=>cases r4;exact⟨_,_,rfl,r1,r3⟩
noncomputable def LenV (K:Xa)(x:V)(H:Hp)(n:Nat):Prop:=
 match x with
 | .str y=>y.length<=sizeLine/\n=y.length
 | .byt y=>y.size<=sizeLine/\n=y.size
 | .ref p=>(∃xs,SqL K H p xs/\n=xs.length)\/∃xs,SqT K H p xs/\n=xs.length
 | _=>False
theorem zlY:zcz X (.builtin "len") (λxs H Q=>∃x n,xs=[x]/\LenV X.K x H n/\Q (.int n) H):=by
 intro pins s σ H xs us Q I r h;obtain⟨x,n,rfl,e,q⟩:=h;obtain⟨u,rfl,rx⟩:=vals1 r;have hl:=zeY;have hs:sizeLine=16777216:=sizeLine_eq;cases x with
 | str y=>
  obtain⟨t,rfl⟩:=rx;obtain⟨hy,e'⟩:y.length<=sizeLine/\n=y.length:=e;subst e';exact len_str (by lia) ⟨.int _,H,I.tok _,⟨_,rfl⟩,q⟩
 | byt y=>
  obtain⟨t,rfl⟩:=rx;obtain⟨hy,e'⟩:y.size<=sizeLine/\n=y.size:=e;subst e';exact PySem.W.len_bytes (by lia) ⟨.int _,H,I.tok _,⟨_,rfl⟩,q⟩
 | ref p=>
  cases rx;have e':(∃xs,SqL X.K H p xs/\n=xs.length)\/∃xs,SqT X.K H p xs/\n=xs.length:=e;rcases e' with ⟨xs,hx,e'⟩ | ⟨xs,hx,e'⟩
  ·subst e';obtain⟨its,r',pl,hz⟩:=I.list hx;have hlen:=r'.length;exact Calls.call_len_list pl.isList (by simp only[Xm];lia) ⟨.int xs.length,H,I.tok _,⟨_,by simp only[Xm];rw[hlen]⟩,q⟩
  ·subst e';obtain⟨its,r',pl,hz⟩:=I.tuple hx;have hlen:=r'.length;exact len_tuple pl (by simp only[Xm];lia) ⟨.int xs.length,H,I.tok _,⟨_,by simp only[Xm];rw[hlen]⟩,q⟩
 | _=>exact(show False from e).elim
end
theorem RelO.some_of {v:V}{o:Option Value}(r:RelO (some v) o):∃u,o=some u/\RelV v u:=by
 cases o with
 | none=>exact(show False from r).elim
 | some u=>exact⟨u,rfl,r⟩
structure Room (k:Nat)(A:Around):Prop where
 hd:A.handled=none
 dp:A.depth+3*k+5<recursionLimit
 un:A.units+16*k+200<cLine
theorem Room.mono {j k:Nat}{A:Around}(r:Room k A)(h:j<=k):Room j A:=⟨r.hd,by have:=r.dp;lia,by have:=r.un;lia⟩
theorem Room.deeper {k:Nat}{A:Around}(r:Room (k+1) A)(env:Env):Room k (A.deeper env):=
 ⟨r.hd,by have:=r.dp;show A.depth+1+3*k+5<_;lia,by have:=r.un;show A.units+3+16*k+200<_;lia⟩
theorem Room.depth {k:Nat}{A:Around}(r:Room k A):A.depth<recursionLimit:=by have:=r.dp;lia
theorem Room.units {k:Nat}{A:Around}(r:Room k A):A.units+64<cLine:=by have:=r.un;lia
noncomputable def tNil:TA:=λ_ H Q=>Q [] H
noncomputable def zjL (ta:TE)(tr:TA):TA:=λσ H Q=>ta σ H λx H1=>tr σ H1 λxs H2=>Q (x::xs) H2
section
variable {X:Cx}{e:Expr}{es:List Expr}{te:TE}{t:TA}{pos:Pos}
theorem zaQ:PA X [] tNil:=λ_ _ _ _ H Q I h=>Calls.spliced_nil ⟨[],H,I,.nil,h⟩
theorem zak (ha:PE X e te)(hr:PA X es t)(hs:autoParam (starEach (e::es) X.env=(false,eval e X.env)::starEach es X.env) aU0):PA X (e::es) (zjL te t):=by
 intro pos pins s σ H Q I h;rw[hs];show wpAny _ _ (spliced ((false,eval e X.env)::backTo pos (starEach es X.env))) _ _ s;refine Calls.spliced_cons (thn (ha pins s σ H _ I h) λu s1 q29q=>?_);obtain⟨x,H1,I1,r1,q1⟩:=q29q;exact thn (hr pos pins s1 σ H1 _ I1 q1) λus s2 q30q=>by obtain⟨xs,H2,I2,r2,q2⟩:=q30q;exact⟨x::xs,H2,I2,.cons r1 r2,q2⟩
noncomputable def tTup (t:TA):TE:=λσ H Q=>t σ H λxs H1=>xs.length<=sizeLine/\∀p,H1 p=none->Q (.ref p) (upd H1 p (.tup xs))
noncomputable def tLst (t:TA):TE:=λσ H Q=>t σ H λxs H1=>xs.length<=sizeLine/\∀p,H1 p=none->Q (.ref p) (upd H1 p (.lst xs))
theorem zpH {x1}(h:PA X es t):PE X (.Tuple es x1 pos) (tTup t):=by
 intro pins s σ H Q I hq;refine wpAny_Tuple_spliced (thn (h pos pins s σ H _ I hq) λus s1 ⟨xs,H1,I1,r,z,q⟩=>⟨by rw[<- r.length];exact z,?_⟩);have hf:H1 s1.heap.objs.size=none:=I1.hok.fresh (Xo _);refine⟨.ref s1.heap.objs.size,upd H1 s1.heap.objs.size (.tup xs),I1.laid (t':=s1.toks) (λb u e=>Xg _ e) (Xo _) ?_,rfl,q _ hf⟩;exact⟨z,us,r,zbT.new _ _⟩
theorem zhT (h:PA X es t):PE X (.List es pos) (tLst t):=by
 intro pins s σ H Q I hq;refine wpAny_List_spliced (thn (h pos pins s σ H _ I hq) λus s1 ⟨xs,H1,I1,r,z,q⟩=>⟨by rw[<- r.length];exact z,?_⟩);have hf:H1 s1.heap.objs.size=none:=I1.hok.fresh (Xo _);refine⟨.ref s1.heap.objs.size,upd H1 s1.heap.objs.size (.lst xs),I1.laid (t':=s1.toks) (λb u e=>Xg _ e) (Xo _) ?_,rfl,q _ hf⟩;exact⟨z,us,0,r,XG _ rfl⟩
end
noncomputable abbrev Sp:=List V->Hp->VK->XK->Prop
noncomputable abbrev CXT:=List Env->Hp->Shared->XK->Value->Shared->Prop
structure Env0 (P:Program)(w:World)(K:Xa)(mg:Str->Option Value)(base:Heap)(A:Around)(outer:List Env)(s:Shared)(H:Hp):Prop where
 frames:A.frames=some outer
 mod:Mod K mg base
 bs:∀b o,base.get? b=some o->s.heap.get? b=some o/\H b=none
 bsz:base.objs.size<=s.heap.objs.size
 funs:s.heap.FunFrames base outer
 frf:∀b∈frs outer,H b=none
 hok:HOk P w H s.heap
 bare:AllBare s.gens
noncomputable def CE (outer:List Env)(P:Program)(w:World)(H:Hp)(s:Shared)(Q:VK)(u:Value)(s':Shared):Prop:=
 ∃v H',s'.os=s.os/\AllBare s'.gens/\Un (frs outer) [] H H' s.heap s'.heap/\HOk P w H' s'.heap/\RelV v u/\Q v H'
noncomputable def CR (CX:CXT)(outer:List Env)(P:Program)(w:World)(H:Hp)(s:Shared)(Q:VK)(E:XK)(r:Result)(s':Shared):Prop:=
 match r with
 | .ok (.ret u)=>CE outer P w H s Q u s'
 | .ok _=>False
 | .error e=>CX outer H s E e s'
structure FnOk (P:Program)(w:World)(K:Xa)(mg:Str->Option Value)(base:Heap)(CX:CXT)(k:Nat)(f:Addr)(fd:FuncData)(ps:List Str)(sp:Sp):Prop where
 len:∀vs H Q E,sp vs H Q E->vs.length=ps.length
 run:∀(A:Around) (outer:List Env) (s:Shared) (H:Hp) (args:Args) (us:List Value) (vs:List V) (Q:VK) (E:XK),Room k A->Env0 P w K mg base A outer s H->BindsTo s fd args (ps.zip us)->Vals vs us->sp vs H Q E->
  codeAny (model P w) A (.call (.ref f) args) (CR CX outer P w H s Q E) s
theorem FnOk.mono {P:Program}{w:World}{K:Xa}{mg:Str->Option Value}{base:Heap}{CX:CXT}{j k:Nat}{f:Addr}{fd:FuncData}{ps:List Str}{sp:Sp}(F:FnOk P w K mg base CX j f fd ps sp)(h:j<=k) :
  FnOk P w K mg base CX k f fd ps sp:=⟨F.len,λA outer s H args us vs Q E hr=>F.run A outer s H args us vs Q E (hr.mono h)⟩
section
variable {X:Cx}{pins:List (Addr×Obj)}{σ:St}{H:Hp}{s s':Shared}
theorem Inv.env0 (I:Inv X pins σ H s):Env0 X.prog X.w X.K X.mg X.base X.A X.stack s H:=
 ⟨I.ok.frames,I.ok.mod,I.bs,YH I.ok.bsz I.sz,I.stack,I.zgY,I.hok,I.bare⟩
theorem Inv.after {Q:VK}{u:Value}(I:Inv X pins σ H s)(h:CE X.stack X.prog X.w H s Q u s'):EP X pins σ Q u s':=by
 obtain⟨v,H',os,bare,un,hok,r,q⟩:=h;obtain⟨hh,g,d,t,os'⟩:=s';obtain rfl:os'=s.os:=os;exact⟨v,H',I.call (h':=hh) (g':=g) (d':=d) (t':=t) (ch:=[]) un hok bare (λb z=>absurd z (by simp)),r,q⟩
end
noncomputable def zpI (sp:Sp)(dvs:List V)(E:XK)(t:TA):TE:=λσ H Q=>t σ H λvs H1=>sp (vs++dvs) H1 Q E
noncomputable def Binds (K:Xa)(fd:FuncData)(ps:List Str)(ds:List Value):Prop:=
 ∀(s:Shared) (us:List Value),K.In s.heap->(us++ds).length=ps.length->BindsTo s fd ⟨us,[]⟩ (ps.zip (us++ds))
theorem Binds.all {K:Xa}{fd:FuncData}{ps:List Str}(h:∀us:List Value,us.length=ps.length->bindArgs fd ⟨us,[]⟩=pure (ps.zip us)):Binds K fd ps []:=λs us _ hl=>by
 rw[Yd]at hl ⊢;exact .of_eq (h us hl)
noncomputable def zge (CX:CXT)(X:Cx)(E:XK):Prop:=∀(pins:List (Addr×Obj))(σ:St)(H:Hp)(s:Shared)(e:Value)(s':Shared),Inv X pins σ H s->CX X.stack H s E e s'->X.xe e s'
section
variable {X:Cx}{CX:CXT}{k:Nat}{f C:Addr}{fd:FuncData}{ps:List Str}{sp:Sp}{dvs:List V}{ds:List Value}{E:XK}{x m:Str}{p pos apos:Pos}{e o:Expr}{es:List Expr}{ta:TE}{t:TA}
theorem zpJ {pins:List (Addr×Obj)}{σ:St}{H:Hp}{s:Shared}{Q:VK}{us:List Value}{vs:List V}(F:FnOk X.prog X.w X.K X.mg X.base CX k f fd ps sp)(hr:Room k X.A)(hb:Binds X.K fd ps ds)(hd:Vals dvs ds)(hx:zge CX X E)
  (I:Inv X pins σ H s) (r:Vals vs us) (h:sp (vs++dvs) H Q E):wpAny (model X.prog X.w) X.A (call (.ref f) us) (EP X pins σ Q) X.xe s:=by
 have r2:Vals (vs++dvs) (us++ds):=r.append hd;have hl:(us++ds).length=ps.length:=by rw[<- r2.length];exact F.len _ _ _ _ h
 refine wpAny_call (codeAny_mono (F.run X.A X.stack s H ⟨us,[]⟩ (us++ds) (vs++dvs) Q E hr I.env0 (hb s us I.kIn hl) r2 h) λr s' hq=>?_);cases r with
 | error e=>exact hx pins σ H s e s' I hq
 | ok fl=>
  cases fl with
  | ret u=>exact I.after hq
  | next=>exact False.elim hq
  | brk=>exact False.elim hq
  | cont=>exact False.elim hq
theorem zec (F:FnOk X.prog X.w X.K X.mg X.base CX k f fd ps sp)(hr:Room k X.A)(hg:Gl X x)(hm:X.mg x=some (.ref f))(hk:XO X.K (.ref f)=true)(hb:Binds X.K fd ps ds)(hd:Vals dvs ds)(hx:zge CX X E)
  (ha:PA X (e::es) t) (hdb:autoParam ((x == ("__debug__" : Str))=false) aU1) (he:autoParam (starEach (e::es) X.env=(false,eval e X.env)::starEach es X.env) aU0) (hpl:autoParam ((backTo pos (starEach es X.env)).any (·.1)=false) aU0) :
  PE X (.Call (.Name x p) (e::es) [] pos) (zpI sp dvs E t):=by
 intro pins s σ H Q I h;refine wpAny_Call_Name_kw (zdZ I hg hm ?_ hdb);refine PySem.W.callWith_K (h₀:=X.base) I.ok.mod.kin hk (thn (ha pos pins s σ H _ I h) λus s1 ⟨vs,H1,I1,r,q⟩=>⟨I1.kIn,?_⟩) he hpl;exact zpJ F hr hb hd hx I1 r q
structure Mk (K:Xa)(C f:Addr):Prop where
 makes:PySem.W.makesIn K C=true
 init:YM K (.ref C) "__init__" = some (some (.ref f))
 fn:PySem.W.isFn K (.ref f)=true
 kp:XO K (.ref C)=true
end
structure zaI (N P:List Str)(sc:Scope):Prop where
 kind:sc.kind=.function
 co:sc.isCoroutine=false
 gen:sc.isGenerator=false
 nd:N.Nodup
 pre:N.take P.length=P
 par:∀x∈P,sc.names.lookup x=some .local\/sc.names.lookup x=some .cell
 nofree:∀y∈sc.names,y.2≠.free
theorem zgf {kindOf:Str->Option NameKind}{x:Str}:∀ {binds:List (Str×Value)}{m:Str->Option Value},(∀v,(x,v)∉binds)->bindL kindOf binds m x=m x
 | [],_,_=>rfl
 | (n,v)::r,m,h=>by
  unfold bindL;rw[zgf λw hw=>h w (Xe _ hw)];split
  ·have:x≠n:=by rintro rfl;exact h v Xi
   simp[this]
  ·rfl
theorem zgg {kindOf:Str->Option NameKind}{x:Str}:∀ {binds:List (Str×Value)}{m:Str->Option Value},(∀v,(x,v)∉binds)->bindC kindOf binds m x=m x
 | [],_,_=>rfl
 | (n,v)::r,m,h=>by
  unfold bindC;rw[zgg λw hw=>h w (Xe _ hw)];split
  ·rfl
  ·have:x≠n:=by rintro rfl;exact h v Xi
   simp[this]
theorem zgh {kindOf:Str->Option NameKind}{x:Str}{v:Value}:∀ {P:List Str}{vs:List Value}{i:Nat}{m:Str->Option Value},P.Nodup->P[i]? = some x->vs[i]? = some v->kindOf x=some .local->
  bindL kindOf (P.zip vs) m x=some v
 | [],_,_,_,_,h,_,_=>by simp at h
 | _::_,[],_,_,_,_,h,_=>by simp at h
 | p::P,w::vs,0,m,nd,h1,h2,hk=>by
  simp at h1 h2;subst h1;subst h2;show bindL kindOf ((p,w)::P.zip vs) m p=_;unfold bindL;rw[zgf λv hv=>(Yl.mp nd).1 (List.of_mem_zip hv).1,if_pos hk];simp
 | p::P,w::vs,i+1,m,nd,h1,h2,hk=>by
  show bindL kindOf ((p,w)::P.zip vs) m x=_;unfold bindL;exact zgh (i:=i) (Yl.mp nd).2 (by simpa using h1) (by simpa using h2) hk
theorem zgi {kindOf:Str->Option NameKind}{x:Str}{v:Value}:∀ {P:List Str}{vs:List Value}{i:Nat}{m:Str->Option Value},P.Nodup->P[i]? = some x->vs[i]? = some v->kindOf x≠some .local->
  bindC kindOf (P.zip vs) m x=some v
 | [],_,_,_,_,h,_,_=>by simp at h
 | _::_,[],_,_,_,_,h,_=>by simp at h
 | p::P,w::vs,0,m,nd,h1,h2,hk=>by
  simp at h1 h2;subst h1;subst h2;show bindC kindOf ((p,w)::P.zip vs) m p=_;unfold bindC;rw[zgg λv hv=>(Yl.mp nd).1 (List.of_mem_zip hv).1,if_neg hk];simp
 | p::P,w::vs,i+1,m,nd,h1,h2,hk=>by
  show bindC kindOf ((p,w)::P.zip vs) m x=_;unfold bindC;exact zgi (i:=i) (Yl.mp nd).2 (by simpa using h1) (by simpa using h2) hk
noncomputable def start (N:List Str)(vs:List V):St:=vs.map some++YN (N.length-vs.length) none
noncomputable def cxOf (CX:CXT)(P:Program)(w:World)(K:Xa)(mg:Str->Option Value)(base:Heap)(N:List Str)(qual:Str)(scope:Scope)(f:Addr)(cd:Value)(A:Around)(outer:List Env)(s:Shared)(H:Hp)(E:XK):Cx where
 prog:=P
 w:=w
 K:=K
 mg:=mg
 base:=base
 A:=A.deeper (envOfC qual scope s.heap.objs.size f cd)
 N:=N
 s₀:=s
 H₀:=H
 env:=envOfC qual scope s.heap.objs.size f cd
 outer:=outer
 stack:=envOfC qual scope s.heap.objs.size f cd::outer
 ex:=[]
 calm:=true
 fn:=λ_=>true
 pn:=[]
 xe:=λe s'=>wpAny (model P w) (A.deeper (envOfC qual scope s.heap.objs.size f cd)) (leaving (envOfC qual scope s.heap.objs.size f cd) e) (λ_ s''=>CX outer H s E e s'') (λe' s''=>CX outer H s E e' s'') s'
theorem zhU {sc:Scope}{n:Nat}{x:Str}(h:sc.names.lookup x=some .cell):∃c,(cellsFrom n sc.names []).lookup x=some c:=by
 have q:=PySem.W.cellsFrom_some sc.names n [] (.inl h);exact Option.isSome_iff_exists.mp q
theorem zjM {CX:CXT}{P:Program}{w:World}{K:Xa}{mg:Str->Option Value}{base:Heap}{N ps:List Str}{qual:Str}{scope:Scope}{f:Addr}{cd:Value}{A:Around}{outer:List Env}{s s1:Shared}{H:Hp}{E:XK}{us:List Value}{vs:List V}
  (S:zaI N ps scope) (hd:A.handled=none) (e0:Env0 P w K mg base A outer s H) (hl:vs.length=ps.length) (r:Vals vs us)
  (x:InCallC s s.heap.objs.size (bindL (envOfC qual scope s.heap.objs.size f cd).kindOf (ps.zip us) λ_=>none) (cellsFrom (s.heap.objs.size+1) scope.names []) (bindC (envOfC qual scope s.heap.objs.size f cd).kindOf (ps.zip us) λ_=>none) s1) :
  Inv (cxOf CX P w K mg base N qual scope f cd A outer s H E) [] (start N vs) H s1:=by
 have hpl:ps.length<=N.length:=by have:=congrArg List.length S.pre;rw[XC]at this;lia
 obtain⟨h1,tk,rfl,hk⟩:=x.done;have noA:∀b:Addr,b∉(cxOf CX P w K mg base N qual scope f cd A outer s H E).ex:=λb z=>absurd (show b∈([]:List Addr) from z) (by simp);refine⟨⟨e0.mod,S.kind,rfl,rfl,Xo _,λy z c h1 h2=>?_,λy hy=>?_,λy c _ h=>?_,λ_=>hd,Around.frames_deeper e0.frames,.inr ⟨rfl,rfl⟩,λb z=>absurd z (noA b),e0.bs,e0.bsz,λb _ _=>noA b,λb z=>absurd z (noA b),e0.funs,e0.frf⟩,
  rfl,e0.bare,Un.kept hk,⟨_,x.toInCall.ns,λi y v h1 h2 h3=>?_⟩,λy c h=>⟨_,x.cell y c h⟩,e0.hok.fresh (Xo _),λy c h=>?_,λp hp=>absurd (show p∈([]:List (Addr×Obj)) from hp) (by simp),e0.hok.kept hk,?_⟩
 ·exact name_of_addr x.apart (PySem.mem_of_lookup h1) (PySem.mem_of_lookup h2)
 ·have hy:scope.names.lookup y=some .cell\/scope.names.lookup y=some .free:=hy;rcases hy with hy | hy
  ·exact zhU hy
  ·exact absurd rfl (S.nofree _ (PySem.mem_of_lookup hy))
 ·exact Nat.le_of_lt (x.above y c (PySem.mem_of_lookup h))
 ·have hi:i<vs.length:=by
   unfold start at h2;by_cases hi:i<vs.length
   ·exact hi
   ·rw[Yf (by simpa using hi)]at h2;rw[List.getElem?_replicate]at h2;split at h2<;>cases h2
  have ha:vs[i]? = some v:=by
   unfold start at h2;rw[Yn (by simpa using hi),Xk]at h2;cases e:vs[i]? with
   | none=>rw[e]at h2;cases h2
   | some a=>rw[e]at h2;cases h2;rfl
  obtain⟨u,hu,rv⟩:=r.get ha;have hp:ps[i]? = some y:=by
   rw[<- S.pre,List.getElem?_take_of_lt (by lia)];exact h1
  have ndP:ps.Nodup:=by rw[<- S.pre];exact S.nd.sublist (List.take_sublist _ _)
  refine⟨u,rv,?_⟩;rcases S.par y (Xl hp)with k | k
  ·exact .inl ⟨k,zgh ndP hp hu k⟩
  ·obtain⟨c,e⟩:=zhU (n:=s.heap.objs.size+1) k;refine .inr ⟨.inl k,c,e,?_⟩;have q:=x.cell y c e;rw[zgi ndP hp hu (by show scope.names.lookup y≠_;rw[k];decide)]at q;exact q
 ·exact e0.hok.fresh (Nat.le_of_lt (x.above y c (PySem.mem_of_lookup h)))
 ·unfold start;show _=N.length;rw[XH,Xc,YF];lia
theorem zpK {CX:CXT}{P:Program}{w:World}{K:Xa}{mg:Str->Option Value}{base:Heap}{k:Nat}{f:Addr}{name qual:Str}{params:Arguments}{body:List Stmt}{scope:Scope}{dV kV doc pm cdv ct oc:Value}{an od:Option Addr}
  {osl:Array (Option Value)} {N ps:List Str} {sp:Sp} (lk:K.lookup f=some ⟨oc,od,.func (Yo name qual params body scope dV kV doc pm an cdv ct),osl⟩) (hcd:Yq K cdv qual=true) (S:zaI N ps scope)
  (len:∀vs H Q E,sp vs H Q E->vs.length=ps.length)
  (hbody:∀(A:Around) (outer:List Env) (s:Shared) (H:Hp) (vs:List V) (Q:VK) (E:XK),Room k (A.deeper (envOfC qual scope s.heap.objs.size f cdv))->sp vs H Q E->
   ∃t,PSs (cxOf CX P w K mg base N qual scope f cdv A outer s H E) body t/\t { nx:=λ_ H'=>Q .non H',rt:=Q } (start N vs) H) :
  FnOk P w K mg base CX (k+1) f (Yo name qual params body scope dV kV doc pm an cdv ct) ps sp:=by
 refine⟨len,λA outer s H args us vs Q E hr e0 hb r hsp=>?_⟩;have hl:=len _ _ _ _ hsp;have KX:K.In s.heap:=e0.mod.kin.keeps λb o e=>(e0.bs b o e).1;have lim:s.heap.NoLimit:=e0.mod.nolimit.keeps λb o e=>(e0.bs b o e).1;have hkind:∀y∈ps.zip us,scope.names.lookup y.1=some .local\/(scope.names.lookup y.1=some .cell/\((cellsFrom (s.heap.objs.size+1) scope.names []).lookup y.1).isSome=true):=λ⟨n,v⟩ hy=>by
  rcases S.par n (List.of_mem_zip hy).1 with q | q
  ·exact .inl q
  ·exact .inr ⟨q,PySem.W.cellsFrom_some _ _ _ (.inl q)⟩
 refine codeAny_call_function hr.depth (KX _ _ lk) rfl S.co S.gen rfl (PySem.W.codeRec_of KX hcd) (hb _ _ _ _ ?_);refine wpAny_newFunctionEnv_cells S.kind hkind λenv he s1 x=>?_;subst he;refine⟨lim.keeps x.toInCall.keep,codeAny_func ?_⟩;obtain⟨t,ht,hq⟩:=hbody A outer s H vs Q E (hr.deeper _) hsp;have I:Inv (cxOf CX P w K mg base N qual scope f cdv A outer s H E) [] (start N vs) H s1:=zjM S hr.hd e0 hl r x;refine wpAny_mono (ht [] s1 (start N vs) H _ I hq) (λfl s' hs=>?_) λe s' hs=>hs;have fin:∀ {σ':St} {H':Hp} {v:V} {u:Value},Inv (cxOf CX P w K mg base N qual scope f cdv A outer s H E) [] σ' H' s'->RelV v u->Q v H'->CE outer P w H s Q u s':=
  λ{σ' H' v u} J rv q=>⟨v,H',J.os,J.bare,J.base,J.hok,rv,q⟩
 cases fl with
 | ret u=>
  obtain⟨v,σ',H',J,rv,q⟩:=hs;exact fin J rv q
 | next=>
  obtain⟨σ',H',J,q⟩:=hs;exact fin (v:=V.non) (u:=Value.none) J rfl q
 | brk=>
  obtain⟨_,_,_,q⟩:=hs;exact False.elim q
 | cont=>
  obtain⟨_,_,_,q⟩:=hs;exact False.elim q
section
variable {X:Cx}{x:Str}{p pos:Pos}{e:Expr}{es:List Expr}{t:TA}{id T:String}{r:List V->Hp->VK->Prop}
noncomputable def tCB (r:List V->Hp->VK->Prop)(t:TA):TE:=λσ H Q=>t σ H λvs H1=>r vs H1 Q
theorem zbu (hc:zcz X (.builtin id) r)(hg:Gl X x)(hm:X.mg x=none)(hv:bootBuiltins x=some (.builtin id))(ha:PA X (e::es) t)(hn:autoParam (x≠"__name__") aU1) (hdb:autoParam ((x == ("__debug__" : Str))=false) aU1)
  (he:autoParam (starEach (e::es) X.env=(false,eval e X.env)::starEach es X.env) aU0) (hpl:autoParam ((backTo pos (starEach es X.env)).any (·.1)=false) aU0):PE X (.Call (.Name x p) (e::es) [] pos) (tCB r t):=by
 intro pins s σ H Q I h;refine wpAny_Call_Name_kw (zhQ I hg hm hv ?_ hn hdb);exact PyProof.Rows.callWith_builtin1 (thn (ha pos pins s σ H _ I h) λus s1 q35q=>by obtain⟨vs,H1,I1,r1,q1⟩:=q35q;exact hc pins s1 σ H1 vs us Q I1 r1 q1) he hpl
theorem zed (hc:zcz X (.type T) r)(hg:Gl X x)(hm:X.mg x=none)(hv:bootBuiltins x=some (.type T))(ha:PA X (e::es) t)(hn:autoParam (x≠"__name__") aU1) (hdb:autoParam ((x == ("__debug__" : Str))=false) aU1)
  (he:autoParam (starEach (e::es) X.env=(false,eval e X.env)::starEach es X.env) aU0) (hpl:autoParam ((backTo pos (starEach es X.env)).any (·.1)=false) aU0):PE X (.Call (.Name x p) (e::es) [] pos) (tCB r t):=by
 intro pins s σ H Q I h;refine wpAny_Call_Name_kw (zhQ I hg hm hv ?_ hn hdb);exact PyProof.Rows.callWith_type1 (thn (ha pos pins s σ H _ I h) λus s1 q36q=>by obtain⟨vs,H1,I1,r1,q1⟩:=q36q;exact hc pins s1 σ H1 vs us Q I1 r1 q1) he hpl
end
end L2
namespace HT
open PySem PyProof.Rows
section
open PySem.SeqAt
open PySem.MeetsSeq PySem.MeetsSeq2 PySem.MeetsSeq3
end
section
variable {prog:Program}{w:World}{A:Around}{E:Value->Shared->Prop}{s:Shared}
theorem znU {t b:Addr}{vs ws:List Value}{Q:Value->Shared->Prop}(ht:IsTup s.heap t vs.toArray)(hb:IsTup s.heap b ws.toArray)(hv:vs≠[])
  (h1:ws=[]->Q (.ref t) s) (h2:ws≠[]->Q (.ref s.heap.objs.size) { s with heap:=s.heap.push { cls:=.type "tuple",data:=.seq (vs++ws).toArray } })
  (hsz:vs.length+ws.length<=sizeLine):wpAny (model prog w) A (binaryOp .Add (.ref t) (.ref b)) Q E s:=by
 obtain⟨⟨cls,dd,data,sl⟩,ho,hc,n,hd⟩:=id ht;obtain⟨⟨cls2,dd2,data2,sl2⟩,ho2,hc2,n2,hd2⟩:=id hb;simp only at hc hd hc2 hd2;subst hc hd hc2 hd2;have e:vs.toArray++ws.toArray=(vs++ws).toArray:=by simp
 by_cases hw:ws=[]
 ·exact concat_meets ⟨_,ho,rfl⟩ ⟨_,ho2,rfl⟩ noFill_tuple_add seq_tuple_add PySem.F.slot_tuple_add PySem.F.entry_tuple_add (PySem.F.args_tuple_add_2 _ _)
   (tuple_addW1 t b vs.toArray ws.toArray n n2 dd dd2 sl sl2 (by simpa using hv) (by simp[hw])) ⟨ho,ho2,h1 hw⟩
 ·refine concat_meets ⟨_,ho,rfl⟩ ⟨_,ho2,rfl⟩ noFill_tuple_add seq_tuple_add PySem.F.slot_tuple_add PySem.F.entry_tuple_add (PySem.F.args_tuple_add_2 _ _)
   (tuple_addW2 t b vs.toArray ws.toArray n n2 dd dd2 sl sl2 (by simpa using hv) (by simpa using hw) (by rw[Xm,Xm];exact hsz)) ⟨ho,ho2,?_⟩
  rw[e];exact h2 hw
noncomputable def sIx (n d:Nat):Option Int->Nat
 | none=>d
 | some v=>if v<0 then(v+(n:Int)).toNat else min v.toNat n
theorem zjN (n d k:Nat):sIx n d (some (k:Int))=min k n:=by
 show(if (k:Int)<0 then((k:Int)+(n:Int)).toNat else min (k:Int).toNat n)=min k n
 rw[if_neg (by lia),Int.toNat_natCast]
theorem zpL (n d:Nat)(hd:d<=n)(o:Option Int):sIx n d o<=n:=by
 cases o with
 | none=>exact hd
 | some v=>
  show(if v<0 then(v+(n:Int)).toNat else min v.toNat n)<=n
  by_cases hv:v<0
  ·rw[if_pos hv];lia
  ·rw[if_neg hv];exact Nat.min_le_right _ _
theorem zjO (v:Int)(n d:Nat):(if v<0 then max (v+(n:Int)) 0 else min v (n:Int))=((sIx n d (some v):Nat):Int):=by
 show(if v<0 then max (v+(n:Int)) 0 else min v (n:Int))=(((if v<0 then(v+(n:Int)).toNat else min v.toNat n):Nat):Int)
 by_cases hv:v<0
 ·simp only[if_pos hv];lia
 ·simp only[if_neg hv];lia
theorem ziS (lo hi:Option Int)(n:Nat):Builtin.Slice.sliceAdjust lo hi 1 (n:Int)=(((sIx n 0 lo:Nat):Int),((sIx n n hi:Nat):Int)):=by
 have h1:¬ ((1:Int)<0):=by lia
 unfold Builtin.Slice.sliceAdjust;simp only[h1,if_false];refine Prod.ext ?_ ?_
 ·cases lo with
  | none=>rfl
  | some v=>exact zjO v n 0
 ·cases hi with
  | none=>rfl
  | some v=>exact zjO v n n
theorem ziT (i j:Nat):Builtin.Slice.slicePlaces (i:Int) (j:Int) 1=j-i:=by
 unfold Builtin.Slice.slicePlaces;have h1:(1:Int) > 0:=by lia
 simp only[h1,if_true,Int.ediv_one];split<;>lia
theorem zeZ {v:Value}{o:Option Int}{Q:Option Int->Shared->Prop}(p:IsPart v o)(h:Q o s):wpAny (model prog w) A (Builtin.Slice.slicePartIndex v) Q E s:=by
 cases p with
 | none=>exact slicePart_none h
 | int i t=>exact slicePart_int h
theorem zbU {sl:Addr}{vl vu:Value}{lo hi:Option Int}{n:Nat}{Q:Int×Int×Nat->Shared->Prop}(hs:s.heap.IsSliceOf sl vl vu .none)(pl:IsPart vl lo)(pu:IsPart vu hi)
  (h:Q (((sIx n 0 lo:Nat):Int),1,sIx n n hi-sIx n 0 lo) s):wpAny (model prog w) A (Builtin.Slice.sliceApplied (.ref sl) (pure (n:Int))) Q E s:=by
 obtain⟨os,hos,hcs,hds⟩:=id hs;unfold Builtin.Slice.sliceApplied Builtin.Slice.sliceFields;refine wpAny_bind (wpAny_bind (wpAny_field hos hds (x:=vl) rfl (wpAny_bind (wpAny_field hos hds (x:=vu) rfl (wpAny_bind (wpAny_field hos hds (x:=.none) rfl (wpAny_pure ?_)))))));refine wpAny_bind (slicePart_none ?_);show wpAny _ _ (if ((1:Int) == 0)=true then _ else _) _ _ s
 rw[if_neg (by decide)];refine wpAny_bind (zeZ pl (wpAny_bind (zeZ pu (wpAny_bind (wpAny_pure ?_)))));show wpAny _ _ (match Builtin.Slice.sliceAdjust lo hi 1 (n:Int)with | (lo,hi)=>pure (lo,(1:Int),Builtin.Slice.slicePlaces lo hi 1)) _ _ s
 rw[ziS lo hi n];show wpAny _ _ (pure (((sIx n 0 lo:Nat):Int),(1:Int),Builtin.Slice.slicePlaces ((sIx n 0 lo:Nat):Int) ((sIx n n hi:Nat):Int) 1)) _ _ s;rw[ziT];exact wpAny_pure h
theorem zlZ (xs:Array Value)(i k:Nat):((Ya k).filterMap λ(m:Nat)=>xs[((i:Int)+(m:Int)*1).toNat]?).toArray=((xs.toList.drop i).take k).toArray:=by
 have e:(λ(m:Nat)=>xs[((i:Int)+(m:Int)*1).toNat]?)=λm=>xs[i+m]?:=by
  funext m;have:((i:Int)+(m:Int)*1).toNat=i+m:=by lia
  rw[this]
 rw[e];have:=pick_run xs i k;rw[List.filterMap_map]at this;have e2:((λx=>xs[x]?) ∘ λx=>i+x)=λm=>xs[i+m]?:=rfl;rw[e2]at this;rw[this]
theorem zdk {t sl:Addr}{items:Array Value}{vl vu:Value}{lo hi:Option Int}{Q:Value->Shared->Prop}(ht:IsTup s.heap t items)(hs:s.heap.IsSliceOf sl vl vu .none)(pl:IsPart vl lo)(pu:IsPart vu hi)
  (hw:¬ (sIx items.size 0 lo=0/\sIx items.size items.size hi=items.size))
  (h:Q (.ref s.heap.objs.size) { s with heap:=s.heap.push { cls:=.type "tuple",data:=.seq ((items.toList.drop (sIx items.size 0 lo)).take (sIx items.size items.size hi-sIx items.size 0 lo)).toArray } })
  (hsz:items.size<=sizeLine):wpAny (model prog w) A (getItem (.ref t) (.ref sl)) Q E s:=by
 have htake:sizeOk (.seq ((items.toList.drop (sIx items.size 0 lo)).take (sIx items.size items.size hi-sIx items.size 0 lo)).toArray):=by
  show((items.toList.drop (sIx items.size 0 lo)).take (sIx items.size items.size hi-sIx items.size 0 lo)).toArray.size<=sizeLine;rw[Xm,XC,List.length_drop,Xp];lia
 have hj:sIx items.size items.size hi<=items.size:=zpL _ _ (Xo _) hi;obtain⟨os,hos,hcs,hds⟩:=id hs;have hTs:s.TypeIs (.ref sl) "slice":=⟨os,hos,hcs⟩;unfold getItem
 try with_reducible refine wpAny_holding ?_
 first | refine wpAny_bind (wpAny_pure ?_) | skip
 refine wpAny_bind (wpAny_sequenceKey ht.typeIs (by decide) ?_);refine wpAny_bind (wpAny_callSpecial?_slot (name:=Str.ofString "__getitem__") ht.typeIs PyProof.Rows.slot_tuple_getitem
  (wpAny_call_entry PyProof.Rows.slot_tuple_getitem ht.typeIs entry_tuple_getitem ?_ (args_tuple_getitem _ _)))
 show wpAny _ _ (Builtin.Tuple.tupleItemsOf (.ref t) >>= _) _ _ s;refine wpAny_bind (tupleItemsOf_ ht ?_);refine wpAny_bind (wpAny_typeOf hTs ?_);rw[if_pos (by decide)];refine wpAny_bind (zbU hs pl pu ?_);have hno:¬ ((((sIx items.size 0 lo:Nat):Int) == 0&&(1:Int) == 1&&(sIx items.size items.size hi-sIx items.size 0 lo) == items.size)=true):=by
  intro q;rw[Yr,Yr]at q;have q1:((sIx items.size 0 lo:Nat):Int)=0:=eq_of_beq q.1.1;have q2:sIx items.size items.size hi-sIx items.size 0 lo=items.size:=eq_of_beq q.2;exact hw ⟨by lia,by lia⟩
 show wpAny _ _ (if (((sIx items.size 0 lo:Nat):Int) == 0&&(1:Int) == 1&&(sIx items.size items.size hi-sIx items.size 0 lo) == items.size)=true then _ else _) _ _ s
 rw[if_neg hno,zlZ]
 first
  | exact wpAny_bind (m:=Builtin.Tuple.tupleExact _) (wpAny_newObj_type (wpAny_pure ⟨_,rfl,wpAny_pure h⟩) htake)
  | exact wpAny_bind (m:=Builtin.Tuple.tupleExact _) (wpAny_newObj_type (wpAny_bind (wpAny_pure (wpAny_pure ⟨_,rfl,wpAny_pure h⟩))) htake)
  | exact wpAny_bind (wpAny_bind (m:=Builtin.Tuple.tupleExact _) (wpAny_newObj_type (wpAny_pure (wpAny_pure ⟨_,rfl,wpAny_pure h⟩)) htake))
  | exact wpAny_bind (wpAny_bind (m:=Builtin.Tuple.tupleExact _) (wpAny_newObj_type (wpAny_pure ⟨_,rfl,wpAny_pure h⟩) htake))
end
end HT
namespace L2
open PySem PySem.Spec PyProof.Rows
noncomputable abbrev TO:=St->Hp->(Option Int->Hp->Prop)->Prop
noncomputable def PO (X:Cx)(e:Option Expr)(t:TO):Prop:=
 ∀(pins:List (Addr×Obj)) (s:Shared) (σ:St) (H:Hp) (Q:Option Int->Hp->Prop),Inv X pins σ H s->t σ H Q->
  wpAny (model X.prog X.w) X.A (evalPart e X.env) (λu s'=>∃o H',Inv X pins σ H' s'/\IsPart u o/\Q o H') X.xe s
noncomputable def znV:TO:=λ_ H Q=>Q none H
noncomputable def zro (t:TE):TO:=λσ H Q=>t σ H λx H1=>∃i,x=.int i/\Q (some i) H1
theorem intsAre_of {ns:List Int}:∀ {us:List Value},Vals (ns.map V.int) us->IntsAre us ns:=by
 induction ns with
 | nil=>intro us r;rw[List.map_nil]at r;cases r;exact .nil
 | cons n ns ih=>
  intro us r;rw[Xt]at r;cases r with
  | cons r1 r2=>
   obtain⟨t,e⟩:=r1;subst e;exact .cons n t (ih r2)
section
variable {X:Cx}{e:Expr}{te:TE}{lo hi:Option Expr}{tl th:TO}{pos p2:Pos}
theorem znW:PO X none znV:=by
 intro pins s σ H Q I h;rw[evalPart_none];exact wpAny_pure ⟨none,H,I,.none,h⟩
theorem znX (h:PE X e te):PO X (some e) (zro te):=by
 intro pins s σ H Q I hw;rw[evalPart_some];refine thn (h pins s σ H _ I hw) λu s1 q37q=>?_;obtain⟨x,H1,I1,r1,q1⟩:=q37q;obtain⟨i,rfl,q⟩:=q1;obtain⟨t,rfl⟩:=r1;exact⟨some i,H1,I1,.int i t,q⟩
noncomputable def SlR (X:Cx)(r:V->Option Int->Option Int->Hp->VK->Prop):Prop:=
 ∀(pins:List (Addr×Obj)) (s:Shared) (σ:St) (H:Hp) (x:V) (v vl vu:Value) (lo hi:Option Int) (sl:Addr) (Q:VK),Inv X pins σ H s->RelV x v->s.heap.IsSliceOf sl vl vu .none->IsPart vl lo->IsPart vu hi->r x lo hi H Q->
  ∃T id,typeLookup (.type T) "__getitem__" = pure (some (.builtin id))/\s.TypeIs v T/\wpAny (model X.prog X.w) X.A (getItem v (.ref sl)) (EP X pins σ Q) X.xe s
noncomputable def tSl (r:V->Option Int->Option Int->Hp->VK->Prop)(te:TE)(tl th:TO):TE:=λσ H Q=>te σ H λx H1=>tl σ H1 λl H2=>th σ H2 λu H3=>r x l u H3 Q
theorem zfs {r:V->Option Int->Option Int->Hp->VK->Prop}(hr:SlR X r)(he:PE X e te)(hl:PO X lo tl)(hu:PO X hi th):PE X (.Subscript e (.Slice lo hi none p2) pos) (tSl r te tl th):=by
 intro pins s σ H Q I h;refine Subscript_ (thn (he pins s σ H _ I h) λv s1 q38q=>?_);obtain⟨x,H1,I1,r1,q1⟩:=q38q;refine wpAny_Slice (thn (hl pins s1 σ H1 _ I1 q1) λvl s2 ⟨l,H2,I2,pl,q2⟩=>thn (hu pins s2 σ H2 _ I2 q2) λvu s3 q40q=>?_);obtain⟨u,H3,I3,pu,q3⟩:=q40q;rw[evalPart_none];refine wpAny_pure ?_;have I4:Inv X pins σ H3 { s3 with heap:=s3.heap.push { cls:=.type "slice",data:=.fields #[vl,vu,.none] } }:=I3.kept (t':=s3.toks) λb ob q=>Xg _ q;obtain⟨T,id,hT,ht,hg⟩:=hr pins { s3 with heap:=s3.heap.push { cls:=.type "slice",data:=.fields #[vl,vu,.none] } } σ H3 x v vl vu l u s3.heap.objs.size Q I4 r1 (Heap.IsSliceOf.new ..) pl pu q3;show wpAny (model X.prog X.w) X.A (subscriptTail e (.Slice lo hi none p2) v (.ref s3.heap.objs.size)) (EP X pins σ Q) X.xe { s3 with heap:=s3.heap.push { cls:=.type "slice",data:=.fields #[vl,vu,.none] } };exact tail_any (ops:=[.ref s3.heap.objs.size,v]) ht hT hg (by with_unfolding_all rfl)
noncomputable def cutV (xs:List V)(lo hi:Option Int):List V:=(xs.drop (HT.sIx xs.length 0 lo)).take (HT.sIx xs.length xs.length hi-HT.sIx xs.length 0 lo)
theorem zee (xs:List V)(lo hi:Option Int):(cutV xs lo hi).length<=xs.length:=by
 unfold cutV;rw[XC,List.length_drop];lia
noncomputable def rSlT (K:Xa):V->Option Int->Option Int->Hp->VK->Prop:=λx lo hi H Q=>∃a xs,x=.ref a/\SqT K H a xs/\
 ¬ (HT.sIx xs.length 0 lo=0/\HT.sIx xs.length xs.length hi=xs.length)/\∀p,H p=none->Q (.ref p) (upd H p (.tup (cutV xs lo hi)))
theorem zpM:SlR X (rSlT X.K):=by
 intro pins s σ H x v vl vu lo hi sl Q I rx hs pl pu h;obtain⟨a,xs,rfl,hx,hw,q⟩:=h;cases rx;obtain⟨its,r,ht,hz⟩:=I.tuple hx;have hlen:its.toArray.size=xs.length:=by rw[Xm];exact r.length.symm
 refine⟨"tuple",_,PyProof.Rows.slot_tuple_getitem.lookup,ht.typeIs,?_⟩;refine HT.zdk ht hs pl pu (by rw[hlen];exact hw) ?_ (by rw[hlen];exact hz);rw[hlen];refine⟨.ref s.heap.objs.size,_,I.laid (t':=s.toks) (o:=.tup (cutV xs lo hi)) (λb ob q=>Xg _ q) (Xo _) ?_,rfl,q _ (I.hok.fresh (Xo _))⟩;exact⟨YH (zee xs lo hi) hz,_,(r.drop (HT.sIx xs.length 0 lo)).take (HT.sIx xs.length xs.length hi-HT.sIx xs.length 0 lo),zbT.new _ _⟩
noncomputable def zrp (K:Xa):R2:=λx y H Q=>∃a b xs ys,x=.ref a/\y=.ref b/\SqT K H a xs/\SqT K H b ys/\xs≠[]/\xs.length+ys.length<=sizeLine/\
 (ys=[]->Q (.ref a) H)/\(ys≠[]->∀p,H p=none->Q (.ref p) (upd H p (.tup (xs++ys))))
theorem Vals.zft {xs:List V}{us:List Value}(r:Vals xs us):us=[]↔xs=[]:=by
 cases r with
 | nil=>simp
 | cons _ _=>simp
theorem znY:OpR X (binaryOp .Add) (zrp X.K):=by
 intro pins s σ H x y v u Q I rx ry h;obtain⟨a,b,xs,ys,rfl,rfl,ha,hb,hx,hz,q1,q2⟩:=h;cases rx;cases ry;obtain⟨its,r1,p1,_⟩:=I.tuple ha;obtain⟨its2,r2,p2,_⟩:=I.tuple hb;refine HT.znU p1 p2 (λz=>hx (r1.zft.mp z)) (λz=>⟨.ref a,H,I,rfl,q1 (r2.zft.mp z)⟩) (λz=>?_) (by rw[<- r1.length,<- r2.length];exact hz);refine⟨.ref s.heap.objs.size,_,I.laid (t':=s.toks) (o:=.tup (xs++ys)) (λb ob q=>Xg _ q) (Xo _) ?_,rfl,q2 (λw=>z (r2.zft.mpr w)) _ (I.hok.fresh (Xo _))⟩;exact⟨by rw[XH];exact hz,_,r1.append r2,zbT.new _ _⟩
end
noncomputable def ixN (n:Nat)(i:Int):Option Nat:=if 0<=i then(if i<n then some i.toNat else none) else if -(n:Int)<=i then some (i+n).toNat else none
noncomputable def atI {α:Type}(xs:List α)(i:Int):Option α:=(ixN xs.length i).bind λj=>xs[j]?
theorem zjP {n:Nat}{i:Int}{j:Nat}(h:ixN n i=some j):seqIndex? i n=some j/\j<n/\-(n:Int)<=i/\i<n:=by
 unfold ixN at h;by_cases h0:0<=i
 ·rw[if_pos h0]at h;by_cases h1:i<n
  ·rw[if_pos h1]at h;have e:i.toNat=j:=Option.some.inj h;exact⟨by rw[seqIndex_of h0 h1,e],by lia,by lia,h1⟩
  ·rw[if_neg h1]at h;cases h
 ·rw[if_neg h0]at h;by_cases h1:-(n:Int)<=i
  ·rw[if_pos h1]at h;have e:(i+n).toNat=j:=Option.some.inj h;exact⟨by rw[seqIndex_neg (by lia) h1,e],by lia,h1,by lia⟩
  ·rw[if_neg h1]at h;cases h
theorem zhb {α:Type}{xs:List α}{i:Int}{v:α}(h:atI xs i=some v):∃j,seqIndex? i xs.length=some j/\xs[j]? = some v/\j<xs.length/\-(xs.length:Int)<=i/\i<xs.length:=by
 unfold atI at h;cases e:ixN xs.length i with
 | none=>rw[e]at h;cases h
 | some j=>
  rw[e]at h;obtain⟨h1,h2,h3,h4⟩:=zjP e;exact⟨j,h1,h,h2,h3,h4⟩
theorem zbb {α:Type}{xs:List α}{j:Nat}{v:α}(h:xs[j]? = some v):atI xs (j:Int)=some v:=by
 have hj:j<xs.length:=(Xj.mp h).1;have e:ixN xs.length (j:Int)=some j:=by
  unfold ixN;rw[if_pos (by lia),if_pos (by lia)];simp
 unfold atI;rw[e];exact h
noncomputable def zhc (b:Expr):Prop:=∀o i,subscripted b false o i=operate [o,i] (getItem o i)
noncomputable def IxR (X:Cx)(r:R2):Prop:=
 ∀(value slice:Expr) (pins:List (Addr×Obj)) (s:Shared) (σ:St) (H:Hp) (x y:V) (v u:Value) (Q:VK),Inv X pins σ H s->RelV x v->RelV y u->r x y H Q->
  subscripted slice false v u=operate [v,u] (getItem v u)->wpAny (model X.prog X.w) X.A (subscriptTail value slice v u) (EP X pins σ Q) X.xe s
noncomputable def MtR (X:Cx)(id:String)(r:V->List V->Hp->VK->Prop):Prop:=
 ∀(pins:List (Addr×Obj)) (s:Shared) (σ:St) (H:Hp) (x:V) (xs:List V) (v:Value) (us:List Value) (Q:VK),Inv X pins σ H s->RelV x v->Vals xs us->r x xs H Q->
  wpAny (model X.prog X.w) X.A (call (.builtin id) (v::us)) (EP X pins σ Q) X.xe s
section
variable {X:Cx}{a b:Expr}{ta tb:TE}{pos:Pos}
theorem IxR.or {r r':R2}(h:IxR X r)(h':IxR X r'):IxR X (λx y H Q=>r x y H Q\/r' x y H Q):=by
 intro value slice pins s σ H x y v u Q I rx ry q hs;rcases q with q | q
 ·exact h value slice pins s σ H x y v u Q I rx ry q hs
 ·exact h' value slice pins s σ H x y v u Q I rx ry q hs
theorem zrq {r:R2}(hr:IxR X r)(ha:PE X a ta)(hb:PE X b tb)(hs:zhc b):PE X (.Subscript a b pos) (tOp r ta tb):=by
 intro pins s σ H Q I h;exact Subscript_ (binT ha hb I h λv u s2 x y H2 I2 rx ry q=>hr a b pins s2 σ H2 x y v u Q I2 rx ry q (hs _ _))
noncomputable def rIxL (K:Xa):R2:=λx y H Q=>∃p xs i v,x=.ref p/\y=.int i/\SqL K H p xs/\atI xs i=some v/\Q v H
noncomputable def rIxT (K:Xa):R2:=λx y H Q=>∃p xs i v,x=.ref p/\y=.int i/\SqT K H p xs/\atI xs i=some v/\Q v H
noncomputable def rIxS:R2:=λx y H Q=>∃z i c,x=.str z/\y=.int i/\z.length<=sizeLine/\atI z.cps.toList i=some c/\Q (.str ⟨#[c]⟩) H
theorem znZ:IxR X (rIxL X.K):=by
 intro value slice pins s σ H x y v u Q I rx ry h hs;obtain⟨p,xs,i,z,rfl,rfl,hq,he,q⟩:=h;cases rx;obtain⟨t,rfl⟩:=ry;obtain⟨its,r,pl,hz⟩:=I.list hq;obtain⟨j,h1,h2,h3,h4,h5⟩:=zhb he;obtain⟨w,ew,rw'⟩:=r.get h2;have hl:=r.length;have hn:=zeY;have fin:EP X pins σ Q w s:=⟨z,H,I,rw',q⟩;by_cases h0:0<=i
 ·have hj:i.toNat=j:=by
   rw[seqIndex_of h0 h5]at h1;exact Option.some.inj h1
  exact item_listR pl.isList h0 (by lia) (by rw[hj];simpa using ew) fin hs
 ·have hj:(i+(its.toArray.size:Int)).toNat=j:=by
   rw[seqIndex_neg (by lia) h4]at h1;rw[Xm,<- hl];exact Option.some.inj h1
  exact subscriptTail_builtinR (x:=w) pl.isList.typeIs slot_list_getitem.lookup
   (wpAny_getItem_list_neg (Q:=λr s'=>r=w/\EP X pins σ Q r s') pl.isList (by lia) (by rw[Xm]<;>lia) (by lia) (by rw[hj];simpa using ew) ⟨rfl,fin⟩) hs
theorem zpN:IxR X (rIxT X.K):=by
 intro value slice pins s σ H x y v u Q I rx ry h hs;obtain⟨p,xs,i,z,rfl,rfl,hq,he,q⟩:=h;cases rx;obtain⟨t,rfl⟩:=ry;obtain⟨its,r,pl,hz⟩:=I.tuple hq;obtain⟨j,h1,h2,h3,h4,h5⟩:=zhb he;obtain⟨w,ew,rw'⟩:=r.get h2;have hl:=r.length;have hn:=zeY;have fin:EP X pins σ Q w s:=⟨z,H,I,rw',q⟩;exact subscriptTail_builtinR (x:=w) pl.typeIs slot_tuple_getitem.lookup
  (getItem_tuple (j:=j) (Q:=λr s'=>r=w/\EP X pins σ Q r s') pl (by lia) (by lia) (by rw[Xm,<- hl];exact h1) (by simpa using ew) ⟨rfl,fin⟩) hs
theorem zpO:IxR X rIxS:=by
 intro value slice pins s σ H x y v u Q I rx ry h hs;obtain⟨z,i,c,rfl,rfl,hz,he,q⟩:=h;obtain⟨t,rfl⟩:=rx;obtain⟨t',rfl⟩:=ry;obtain⟨j,h1,h2,h3,h4,h5⟩:=zhb he;have hl:z.cps.toList.length=z.length:=by simp[Str.length]
 rw[hl]at h1 h4 h5;have hn:=zeY;exact tail_any (typeIs_str s z t) slot_str_getitem.lookup (getItem_str (c:=c) (by
  have e1:decide (i < -(2 ^ 63:Int))=false:=decide_eq_false (by lia);have e2:decide (i>=2 ^ 63)=false:=decide_eq_false (by lia);rw[e1,e2,Bool.or_false]) (by rw[h1];simpa using h2) ⟨.str ⟨#[c]⟩,H,I.tok _,⟨_,rfl⟩,q⟩) hs
noncomputable def rIx (K:Xa):R2:=λx y H Q=>rIxL K x y H Q\/rIxT K x y H Q\/rIxS x y H Q
theorem zpP:IxR X (rIx X.K):=znZ.or (zpN.or zpO)
theorem ziU (its:List Value)(n j:Nat)(u:Value):Obj.mapSeq (·.setIfInBounds j u) { cls:=.type "list",data:=.seq its.toArray n }={ cls:=.type "list",data:=.seq (its.set j u).toArray n }:=by
 simp[Obj.mapSeq]
theorem Inv.lst {pins:List (Addr×Obj)}{σ:St}{H:Hp}{s:Shared}{p:Addr}{xs:List V}(I:Inv X pins σ H s)(h:H p=some (.lst xs)) :
  ∃(its:List Value) (n:Nat),Vals xs its/\s.heap.get? p=some { cls:=.type "list",data:=.seq its.toArray n }/\xs.length<=sizeLine:=by
 obtain⟨z,its,n,r,e⟩:=I.hok p _ h;exact⟨its,n,r,e,z⟩
theorem Inv.zpQ {pins:List (Addr×Obj)}{σ:St}{H:Hp}{s:Shared}{p:Addr}{xs ys:List V}{its its':List Value}{n n':Nat}{f:Obj->Obj}(I:Inv X pins σ H s)(h:H p=some (.lst xs))
  (ho:s.heap.get? p=some { cls:=.type "list",data:=.seq its.toArray n }) (hf:f { cls:=.type "list",data:=.seq its.toArray n }={ cls:=.type "list",data:=.seq its'.toArray n' }) (r:Vals ys its') (hz:ys.length<=sizeLine) (t:Nat) :
  Inv X pins σ (upd H p (.lst ys)) { s with heap:=s.heap.update p f,toks:=t }:=by
 have e:(s.heap.update p f).get? p=some { cls:=.type "list",data:=.seq its'.toArray n' }:=by
  rw[Yc f ho (by rw[hf]<;>rfl),hf]
 refine I.write (x:=p) (e:=p) (by rw[h];trivial) (.inl rfl) (λb u hb q=>(Yb _ _ (Ne.symm hb)).trans q) ⟨_,e⟩ ?_;exact⟨hz,its',n',r,e⟩
noncomputable def zrr:V->V->V->Hp->(Hp->Prop)->Prop:=λo i v H Q=>∃p xs k j,o=.ref p/\i=.int k/\H p=some (.lst xs)/\ixN xs.length k=some j/\Q (upd H p (.lst (xs.set j v)))
theorem set_list:PSet X zrr:=by
 intro pins s σ H o i v ov iv u Q I ro ri rv h;obtain⟨p,xs,k,j,rfl,rfl,hp,hj,q⟩:=h;cases ro;obtain⟨t,rfl⟩:=ri;obtain⟨its,n,r,ho,hz⟩:=I.lst hp;obtain⟨h1,h2,h3,h4⟩:=zjP hj;have hl:=r.length;have hn:=zeY;have I':Inv X pins σ (upd H p (.lst (xs.set j v))) { s with heap:=s.heap.update p (Obj.mapSeq (·.setIfInBounds j u)) }:=
  I.zpQ hp ho (ziU its n j u) (r.set rv j) (by rw[XS];exact hz) s.toks
 by_cases h0:0<=k
 ·have hk:k.toNat=j:=by
   rw[seqIndex_of h0 h4]at h1;exact Option.some.inj h1
  exact PySem.W.ki_setAt ho h0 (by lia) (by rw[Xm,<- hl];exact h4) (by rw[hk];exact⟨_,I',q⟩)
 ·have hk:(k+(its.toArray.size:Int)).toNat=j:=by
   rw[seqIndex_neg (by lia) h3]at h1;rw[Xm,<- hl];exact Option.some.inj h1
  exact PySem.W.ki_setBack ho (by lia) (by rw[Xm,<- hl];exact h3) (by lia) (by rw[hk];exact⟨_,I',q⟩)
theorem zgj (lo hi:Option Int)(n:Nat):(sliceBounds lo hi none n).1=((HT.sIx n 0 lo:Nat):Int)/\(sliceBounds lo hi none n).2.1=((HT.sIx n n hi:Nat):Int)/\(sliceBounds lo hi none n).2.2=1:=by
 refine⟨?_,?_,rfl⟩
 ·cases lo with
  | none=>simp[sliceBounds,HT.sIx]
  | some i=>
   simp only[sliceBounds,HT.sIx,Option.getD_none,show(1:Int) > 0 by decide,if_true];by_cases h:i<0
   ·simp only[h,if_true]<;>lia
   ·simp only[h,if_false]<;>lia
 ·cases hi with
  | none=>simp[sliceBounds,HT.sIx]
  | some i=>
   simp only[sliceBounds,HT.sIx,Option.getD_none,show(1:Int) > 0 by decide,if_true];by_cases h:i<0
   ·simp only[h,if_true]<;>lia
   ·simp only[h,if_false]<;>lia
theorem zfu (its:List Value)(lo hi:Option Int):slicePick its.toArray lo hi none=((its.drop (HT.sIx its.length 0 lo)).take (HT.sIx its.length its.length hi-HT.sIx its.length 0 lo)).toArray:=by
 obtain⟨h1,h2,h3⟩:=zgj lo hi its.toArray.size;unfold slicePick;rw[h1,h2,h3];simp only[sliceRange_one,pick_run,Xm]<;>rfl
noncomputable def rSlL (K:Xa):V->Option Int->Option Int->Hp->VK->Prop:=λx lo hi H Q=>∃a xs,x=.ref a/\SqL K H a xs/\∀p,H p=none->Q (.ref p) (upd H p (.lst (cutV xs lo hi)))
theorem zoa:SlR X (rSlL X.K):=by
 intro pins s σ H x v vl vu lo hi sl Q I rx hs pl pu h;obtain⟨a,xs,rfl,hx,q⟩:=h;cases rx;obtain⟨its,r,ht,hz⟩:=I.list hx;have hlen:=r.length;refine⟨"list",_,slot_list_getitem.lookup,ht.isList.typeIs,?_⟩;refine wpAny_getItem_list_slice ht.isList hs pl pu .none (by simp) ?_ (by rw[Xm]<;>lia);rw[zfu,<- hlen];refine⟨.ref s.heap.objs.size,_,I.laid (t':=s.toks) (o:=.lst (cutV xs lo hi)) (λb ob q=>Xg _ q) (Xo _) ?_,rfl,q _ (I.hok.fresh (Xo _))⟩;exact⟨YH (zee xs lo hi) hz,_,0,(r.drop (HT.sIx xs.length 0 lo)).take (HT.sIx xs.length xs.length hi-HT.sIx xs.length 0 lo),XG _ rfl⟩
noncomputable def zcI:V->Bool
 | .non=>true
 | .bl _=>true
 | .int _=>true
 | .str _=>true
 | _=>false
noncomputable def eqV:V->V->Bool
 | .non,.non=>true
 | .bl a,.bl b=>a == b
 | .bl a,.int b=>(if a then 1 else 0) == b
 | .int a,.bl b=>a == (if b then 1 else 0)
 | .int a,.int b=>a == b
 | .str a,.str b=>a == b
 | _,_=>false
theorem zpR {A:Around}{s:Shared}{y x:V}{u v:Value}(ry:RelV y u)(rx:RelV x v)(fy:zcI y=true)(fx:zcI x=true):SeqAt.EqAt A s u v (eqV y x):=by
 cases y with
 | non=>
  cases ry;cases x with
  | non=>cases rx;exact SeqAt.EqAt.same _
  | bl b=>cases rx;exact SeqAt.EqAt.none_bool b
  | int b=>obtain⟨t,rfl⟩:=rx;exact SeqAt.EqAt.none_int b t
  | str b=>obtain⟨t,rfl⟩:=rx;exact SeqAt.EqAt.none_str b t
  | _=>exact absurd (show false=true from fx) Xr
 | bl a=>
  cases ry;cases x with
  | non=>cases rx;exact SeqAt.EqAt.bool_none a
  | bl b=>cases rx;exact SeqAt.EqAt.bool_bool a b
  | int b=>obtain⟨t,rfl⟩:=rx;exact SeqAt.EqAt.bool_int a b t
  | str b=>obtain⟨t,rfl⟩:=rx;exact SeqAt.EqAt.bool_str a b t
  | _=>exact absurd (show false=true from fx) Xr
 | int a=>
  obtain⟨t',rfl⟩:=ry;cases x with
  | non=>cases rx;exact SeqAt.EqAt.int_none a t'
  | bl b=>cases rx;exact SeqAt.EqAt.int_bool a t' b
  | int b=>obtain⟨t,rfl⟩:=rx;exact SeqAt.EqAt.int_int a t' b t
  | str b=>obtain⟨t,rfl⟩:=rx;exact SeqAt.EqAt.int_str a t' b t
  | _=>exact absurd (show false=true from fx) Xr
 | str a=>
  obtain⟨t',rfl⟩:=ry;cases x with
  | non=>cases rx;exact SeqAt.EqAt.str_none a t'
  | bl b=>cases rx;exact SeqAt.EqAt.str_bool a t' b
  | int b=>obtain⟨t,rfl⟩:=rx;exact SeqAt.EqAt.str_int a t' b t
  | str b=>obtain⟨t,rfl⟩:=rx;exact SeqAt.EqAt.str_str a t' b t
  | _=>exact absurd (show false=true from fx) Xr
 | _=>exact absurd (show false=true from fy) Xr
noncomputable def eqU (x:V)(u:Value):Bool:=match u with
 | .none=>eqV .non x
 | .bool b=>eqV (.bl b) x
 | .int i _=>eqV (.int i) x
 | .str z _=>eqV (.str z) x
 | _=>false
theorem znh {x y:V}{u:Value}(r:RelV y u)(f:zcI y=true):eqU x u=eqV y x:=by
 cases y with
 | non=>cases r;rfl
 | bl b=>cases r;rfl
 | int i=>obtain⟨t,rfl⟩:=r;rfl
 | str z=>obtain⟨t,rfl⟩:=r;rfl
 | _=>exact absurd (show false=true from f) Xr
theorem zfv {A:Around}{s:Shared}{x:V}{v:Value}(rx:RelV x v)(fx:zcI x=true):∀ {xs:List V}{us:List Value},Vals xs us->xs.all zcI=true->∀u∈us,SeqAt.EqAt A s u v (eqU x u)
 | _,_,.nil,_=>λu hu=>by cases hu
 | y::xs,u::us,.cons r t,f=>λu' hu=>by
  rw[List.all_cons,Yr]at f;rcases Xv.mp hu with rfl | hu
  ·rw[znh r f.1];exact zpR r rx f.1 fx
  ·exact zfv rx fx t f.2 u' hu
theorem zfw:zcz X (.type "tuple") (λxs H Q=>∃p ys,xs=[.ref p]/\((SqL X.K H p ys/\∀l,H l=none->Q (.ref l) (upd H l (.tup ys)))\/(SqT X.K H p ys/\Q (.ref p) H))):=by
 intro pins s σ H xs us Q I r h;obtain⟨p,ys,rfl,h⟩:=h;obtain⟨u,rfl,rx⟩:=vals1 r;cases rx;rcases h with ⟨hq,q⟩ | ⟨hq,q⟩
 ·obtain⟨its,r',pl,hz⟩:=I.list hq;have hlen:=r'.length;refine call_tuple_list pl.isList (λh' kp=>?_) (by simp only[Xm]<;>lia);have I1:Inv X pins σ H { s with heap:=h' }:=I.kept (t':=s.toks) kp;have I2:Inv X pins σ (upd H h'.objs.size (.tup ys)) { s with heap:=h'.push { cls:=.type "tuple",data:=.seq its.toArray } }:=
   I1.laid (t':=s.toks) (λb o e=>Xg _ e) (Xo _) (show zbr X.prog X.w _ _ _ (.tup ys) from⟨hz,its,r',zbT.new _ _⟩)
  exact⟨.ref h'.objs.size,_,I2,rfl,q _ (I1.hok.fresh (Xo _))⟩
 ·obtain⟨its,r',pl,hz⟩:=I.tuple hq;exact call_tuple_same pl ⟨.ref p,H,I,rfl,q⟩
noncomputable def tyV (K:Xa)(T:String)(x:V)(H:Hp):Prop:=match x with
 | .str _=>T = "str"
 | .int _=>T = "int"
 | .ref p=>(T = "list"/\∃xs,SqL K H p xs)\/(T = "tuple"/\∃o,K.lookup p=some o/\o.cls=.type "tuple"/\o.dict=none)\/
   (T = "dict"/\((∃kvs,H p=some (.dK kvs))\/∃kvs,H p=some (.dT kvs)))\/(T = "set"/\∃S n,H p=some (.set S n))
 | _=>False
theorem zpS {pins:List (Addr×Obj)}{σ:St}{H:Hp}{s:Shared}{T:String}{x:V}{v:Value}(I:Inv X pins σ H s)(r:RelV x v)(ty:tyV X.K T x H) :
  s.TypeIs v T/\∀a,v=.ref a->∃ob,s.heap.get? a=some ob/\ob.dict=none:=by
 cases x with
 | str z=>
  obtain⟨t,rfl⟩:=r;cases (show T = "str" from ty);exact⟨typeIs_str s z t,λ_ e=>nomatch e⟩
 | int i=>
  obtain⟨t,rfl⟩:=r;cases (show T = "int" from ty);exact⟨typeIs_int s i t,λ_ e=>nomatch e⟩
 | ref p=>
  cases r;rcases ty with ⟨rfl,xs,hq⟩ | ⟨rfl,o,hk,hc,hd⟩ | ⟨rfl,hk⟩ | ⟨rfl,S,n,hk⟩
  ·obtain⟨its,_,pl,_⟩:=I.list hq;refine⟨pl.isList.typeIs,λa e=>?_⟩;cases e;obtain⟨o,n,e,c,hd,_⟩:=pl;exact⟨o,e,hd⟩
  ·refine⟨⟨o,I.kIn p o hk,hc⟩,λa e=>?_⟩;cases e;exact⟨o,I.kIn _ o hk,hd⟩
  ·have z:∃o,s.heap.get? p=some o/\o.ExactDict:=by
    rcases hk with ⟨kvs,hk⟩ | ⟨kvs,hk⟩
    ·obtain⟨_,_,_,_,o,_,_,e,ex,_⟩:=I.hok p _ hk;exact⟨o,e,ex⟩
    ·obtain⟨_,_,_,_,o,_,_,e,ex,_⟩:=I.hok p _ hk;exact⟨o,e,ex⟩
   obtain⟨o,e,ex⟩:=z;refine⟨⟨o,e,ex.1⟩,λa e2=>?_⟩;cases e2;exact⟨o,e,ex.2.1⟩
  ·obtain⟨o,_,_,_,e,ex,_⟩:=I.hok p _ hk;refine⟨⟨o,e,ex.1⟩,λa e2=>?_⟩;cases e2;exact⟨o,e,ex.2.1⟩
 | _=>exact False.elim ty
noncomputable def tBM (K:Xa)(T:String)(r:V->List V->Hp->VK->Prop)(to:TE)(t:TA):TE:=λσ H Q=>to σ H λx H1=>tyV K T x H1/\t σ H1 λxs H2=>r x xs H2 Q
variable {o e:Expr}{es:List Expr}{to:TE}{t:TA}{name:Str}{apos cpos:Pos}{T id:String}{r:V->List V->Hp->VK->Prop}
theorem zjQ (pa:PlainAttrs T)(slot:Slot T name id)(hty:typeOf (.builtin id)=pure (.type "method_descriptor")) (hm:MtR X id r) (ho:PE X o to) (ha:PA X (e::es) t)
  (hbase:autoParam (attributeBase o name X.env (eval o X.env)=eval o X.env) aU0)
  (hfew:autoParam (((backTo cpos (starEach (e::es) X.env)).all (λx=>!x.1)&&(backToKw cpos (keywordEach [] X.env)).all (λx=>x.1.isSome)
   && decide ((e::es).length+([]:List Keyword).length+(if ([]:List Keyword).isEmpty then 0 else 1)<30))=true) aU0)
  (hline:autoParam ((apos.endLine == cpos.line)=true) aU0) (hs:autoParam (starEach (e::es) X.env=(false,eval e X.env)::starEach es X.env) aU0) (hplain:autoParam ((backTo cpos (starEach es X.env)).any (·.1)=false) aU0) :
  PE X (.Call (.Attribute o name apos) (e::es) [] cpos) (tBM X.K T r to t):=by
 intro pins s σ H Q I h;refine wpAny_Call_method_late hbase hfew hline rfl (thn (ho pins s σ H _ I h) λv s1 q41q=>?_);obtain⟨x,H1,I1,r1,ty,q1⟩:=q41q;obtain⟨h1,h2⟩:=zpS I1 r1 ty;refine⟨T,id,pa,slot,hty,h1,h2,?_⟩;have hA:=ha cpos pins s1 σ H1 _ I1 q1;rw[hs]at hA ⊢;refine Calls.callWith_builtin (by show(false||(backTo cpos (starEach es X.env)).any (·.1))=false;rw[hplain]<;>rfl) (Calls.evalArgs_plain ?_)
 exact thn hA λus s2 q42q=>by obtain⟨vs,H2,I2,r2,q2⟩:=q42q;exact hm pins s2 σ H2 x vs v us Q I2 r1 r2 q2
end
noncomputable def MtM (X:Cx)(id:String)(r:V->List V->Hp->VK->Prop):Prop:=
 ∀(pins:List (Addr×Obj)) (s:Shared) (σ:St) (H:Hp) (x:V) (xs:List V) (v:Value) (us:List Value) (Q:VK),Inv X pins σ H s->RelV x v->Vals xs us->r x xs H Q->
  wpAny (model X.prog X.w) X.A (call (.builtin id) (v::us)) (EP X pins σ Q) X.xe s
theorem Vals.one:∀ {x:V}{us:List Value},Vals [x] us->∃u,us=[u]/\RelV x u:=by
 intro x us h;cases h with
 | cons r t=>cases t;exact⟨_,rfl,r⟩
section
variable {X:Cx}{pins:List (Addr×Obj)}{σ:St}{H:Hp}{s:Shared}{l b:Addr}{xs ys zs:List V}
theorem Inv.lset {its its':List Value}{n:Nat}{f:Array Value->Array Value}{t':Nat}(I:Inv X pins σ H s)(hH:H l=some (.lst xs))
  (e:s.heap.get? l=some { cls:=.type "list",data:=.seq its.toArray n }) (hf:f its.toArray=its'.toArray) (hv:Vals ys its') (hz:ys.length<=sizeLine) :
  Inv X pins σ (upd H l (.lst ys)) { s with heap:=s.heap.update l (Obj.mapSeq f),toks:=t' }:=by
 have q:=PySem.IsL.update e f;rw[hf]at q;refine I.write (x:=l) (e:=l) (by rw[hH];exact trivial) (.inl rfl) (λb' u hb hu=>(Yb s.heap (Obj.mapSeq f) (Ne.symm hb)).trans hu) ⟨_,q⟩ ?_;exact⟨hz,its',_,hv,q⟩
theorem Inv.lnew {its:List Value}{t':Nat}(I:Inv X pins σ H s)(hv:Vals ys its)(hz:ys.length<=sizeLine) :
  Inv X pins σ (upd H s.heap.objs.size (.lst ys)) { s with heap:=s.heap.push { cls:=.type "list",data:=.seq its.toArray },toks:=t' }:=
 I.laid (λ_ _ q=>Xg _ q) (Xo _) ⟨hz,its,0,hv,XG _ rfl⟩
theorem Inv.fresh (I:Inv X pins σ H s):H s.heap.objs.size=none:=I.hok.fresh (Xo _)
theorem Inv.lstM (I:Inv X pins σ H s)(hH:H l=some (.lst xs)):xs.length<=sizeLine/\∃(its:List Value)(n:Nat),Vals xs its/\xs.length=its.length/\s.heap.get? l=some { cls:=.type "list",data:=.seq its.toArray n }:=by
 obtain⟨z,its,n,r,e⟩:=I.hok l _ hH;exact⟨z,its,n,r,r.length,e⟩
end
section
variable {X:Cx}
noncomputable def zob:V->List V->Hp->VK->Prop:=λx vs H Q=>∃l xs y,x=.ref l/\vs=[y]/\H l=some (.lst xs)/\xs.length<sizeLine/\Q .non (upd H l (.lst (xs++[y])))
theorem zbF:MtM X "list.append" zob:=by
 intro pins s σ H x vs v us Q I rx rv h;obtain⟨l,xs,y,rfl,rfl,hH,hz,q⟩:=h;cases rx;obtain⟨u,rfl,ru⟩:=rv.one;obtain⟨z,its,n,r,hl,e⟩:=I.lstM hH;refine call_meets F.slot_list_append ⟨_,e,rfl⟩ F.entry_list_append (F.args_list_append_2 _ _) (PySem.list_append l its.toArray n u (by rw[Xm];lia)) ⟨e,?_⟩;refine⟨.non,_,I.lset (its':=its++[u]) hH e (by simp) (r.append (.cons ru .nil)) ?_,rfl,q⟩;rw[XH,List.length_singleton];lia
noncomputable def rCat:R2:=λx y H Q=>∃l b xs zs,x=.ref l/\y=.ref b/\H l=some (.lst xs)/\H b=some (.lst zs)/\xs.length+zs.length<=sizeLine/\∀p,H p=none->Q (.ref p) (upd H p (.lst (xs++zs)))
theorem zpT:OpR X (binaryOp .Add) rCat:=by
 intro pins s σ H x y v u Q I rx ry h;obtain⟨l,b,xs,zs,rfl,rfl,hH,hB,hz,q⟩:=h;cases rx;cases ry;obtain⟨z,its,n,r,hl,e⟩:=I.lstM hH;obtain⟨z2,its2,n2,r2,hl2,e2⟩:=I.lstM hB;refine PySem.P.add_list e e2 ?_ (by rw[Xm,Xm];lia);have ea:its.toArray++its2.toArray=(its++its2).toArray:=by simp
 rw[ea];exact⟨.ref _,_,I.lnew (t':=s.toks) (r.append r2) (by rw[XH];lia),rfl,q _ I.fresh⟩
end
section
variable {κ:Type} [DecidableEq κ]
noncomputable def valV (kvs:List (κ×V))(k:κ):Option V:=(kvs.find? λkv=>decide (kv.1=k)).map (·.2)
noncomputable def putK (kvs:List (κ×V))(k:κ)(v:V):List (κ×V):=
 if (kvs.any λkv=>decide (kv.1=k))=true then kvs.map (λkv=>if kv.1=k then(kv.1,v) else kv) else kvs++[(k,v)]
theorem zfx {p:κ×V}{r:List (κ×V)}{k:κ}(e:p.1=k):valV (p::r) k=some p.2:=by simp[valV,Ys,e]
theorem zfy {p:κ×V}{r:List (κ×V)}{k:κ}(e:¬ p.1=k):valV (p::r) k=valV r k:=by simp[valV,Ys,e]
theorem zhV (k:κ):∀kvs:List (κ×V),(kvs.any λkv=>decide (kv.1=k))=(valV kvs k).isSome
 | []=>rfl
 | p::r=>by
  rw[List.any_cons];by_cases e:p.1=k
  ·simp only[zfx e,decide_eq_true e,Bool.true_or,Option.isSome_some]
  ·rw[zfy e,decide_eq_false e,Bool.false_or];exact zhV k r
theorem zef (kvs:List (κ×V))(k:κ)(v:V):(putK kvs k v).length<=kvs.length+1:=by
 unfold putK;split
 ·rw[Xc];lia
 ·rw[XH,Yh,List.length_nil];lia
theorem RelO.zeg {o:Option V}{u:Option Value}(r:RelO o u):o.isSome=u.isSome:=by
 cases o with
 | none=>cases u with
  | none=>rfl
  | some _=>exact(show False from r).elim
 | some _=>cases u with
  | none=>exact(show False from r).elim
  | some _=>rfl
theorem KV.val {kvs:List (κ×V)}{vs:List (κ×Value)}(r:KV kvs vs)(k:κ):RelO (valV kvs k) (valueAt vs k):=by
 unfold KV at r;induction r with
 | nil=>exact True.intro
 | @cons p q ps qs h t ih=>
  obtain⟨h1,h2⟩:=h;by_cases e:p.1=k
  ·have e':q.1=k:=h1.symm.trans e;have b:valueAt (q::qs) k=some q.2:=by simp[valueAt,Ys,e']
   rw[zfx e,b];exact h2
  ·have e':¬ q.1=k:=λz=>e (h1.trans z);have b:valueAt (q::qs) k=valueAt qs k:=by simp[valueAt,Ys,e']
   rw[zfy e,b];exact ih
theorem KV.any {kvs:List (κ×V)}{vs:List (κ×Value)}(r:KV kvs vs)(k:κ):(kvs.any λkv=>decide (kv.1=k))=vs.any λkv=>decide (kv.1=k):=by
 unfold KV at r;induction r with
 | nil=>rfl
 | cons h t ih=>rw[List.any_cons,List.any_cons,ih,h.1]
theorem KV.repl {kvs:List (κ×V)}{vs:List (κ×Value)}(r:KV kvs vs)(k:κ){y:V}{u:Value}(ry:RelV y u) :
  KV (kvs.map λkv=>if kv.1=k then(kv.1,y) else kv) (vs.map λkv=>if kv.1=k then(kv.1,u) else kv):=by
 unfold KV at r ⊢;induction r with
 | nil=>exact .nil
 | @cons p q ps qs h t ih=>
  rw[Xt,Xt];refine .cons ?_ ih;obtain⟨h1,h2⟩:=h;by_cases e:p.1=k
  ·rw[if_pos e,if_pos (h1.symm.trans e)];exact⟨h1,ry⟩
  ·rw[if_neg e,if_neg (λz=>e (h1.trans z))];exact⟨h1,h2⟩
theorem KV.put {kvs:List (κ×V)}{vs:List (κ×Value)}(r:KV kvs vs)(k:κ){y:V}{u:Value}(ry:RelV y u):KV (putK kvs k y) (stored vs k u):=by
 unfold putK stored;rw[r.any k];by_cases e:(vs.any λkv=>decide (kv.1=k))=true
 ·rw[if_pos e,if_pos e];exact r.repl k ry
 ·rw[if_neg e,if_neg e];exact Paired.snoc r ⟨rfl,ry⟩
theorem KV.keys {kvs:List (κ×V)}{vs:List (κ×Value)}(r:KV kvs vs):kvs.map (·.1)=vs.map (·.1):=by
 unfold KV at r;induction r with
 | nil=>rfl
 | cons h t ih=>rw[Xt,Xt,ih,h.1]
theorem KV.length {kvs:List (κ×V)}{vs:List (κ×Value)}(r:KV kvs vs):kvs.length=vs.length:=Paired.length r
end
theorem zma {P:Program}{w:World}{k:Key}{u:Value}(r:RelV (kV k) u):(zax P w).is k u=true:=by
 cases k with
 | inl i=>obtain⟨t,e⟩:=(show ∃t,u=Value.int i t from r);subst e;exact zgW P w i t
 | inr x=>obtain⟨t,e⟩:=(show ∃t,u=Value.str x t from r);subst e;exact zgX P w x t
theorem zgk {P:Program}{w:World}:∀ {ks:List Key}{us:List Value},Vals (ks.map kV) us->ItemsAre (zax P w) ks us
 | [],_,r=>by rw[List.map_nil]at r;cases r;exact .nil
 | k::ks,_,r=>by
  rw[Xt]at r;cases r with
  | cons h t=>exact .cons (zma h) (zgk t)
noncomputable abbrev KT (H:Hp):List (List Key×V)->List (List Key×Addr×Value)->Prop:=Paired λp q=>p.1=q.1/\H q.2.1=some (.tup (p.1.map kV))/\RelV p.2 q.2.2
theorem KT.val {H:Hp}{kvs:List (List Key×V)}{xs:List (List Key×Addr×Value)}(r:KT H kvs xs)(k:List Key):RelO (valV kvs k) ((atKey xs k).map (·.2)):=by
 induction r with
 | nil=>exact True.intro
 | @cons p q ps qs h t ih=>
  obtain⟨h1,_,h2⟩:=h;by_cases e:p.1=k
  ·have e':q.1=k:=h1.symm.trans e;have b:atKey (q::qs) k=some q.2:=by simp[atKey,Ys,e']
   rw[zfx e,b];exact h2
  ·have e':¬ q.1=k:=λz=>e (h1.trans z);have b:atKey (q::qs) k=atKey qs k:=by simp[atKey,Ys,e']
   rw[zfy e,b];exact ih
theorem KT.repl {H:Hp}{kvs:List (List Key×V)}{xs:List (List Key×Addr×Value)}(r:KT H kvs xs)(k:List Key){y:V}{u:Value}(ry:RelV y u) :
  KT H (kvs.map λkv=>if kv.1=k then(kv.1,y) else kv) (xs.map (putAt k u)):=by
 induction r with
 | nil=>exact .nil
 | @cons p q ps qs h t ih=>
  rw[Xt,Xt];refine .cons ?_ ih;obtain⟨h1,h2,h3⟩:=h;unfold putAt;by_cases e:p.1=k
  ·rw[if_pos e,if_pos (h1.symm.trans e)];exact⟨h1,h2,ry⟩
  ·rw[if_neg e,if_neg (λz=>e (h1.trans z))];exact⟨h1,h2,h3⟩
theorem KT.put {H:Hp}{kvs:List (List Key×V)}{xs:List (List Key×Addr×Value)}(r:KT H kvs xs)(k:List Key){b:Addr}{y:V}{u:Value}(hb:H b=some (.tup (k.map kV)))(ry:RelV y u) :
  KT H (putK kvs k y) (storedH xs k b u):=by
 have e:(kvs.any λkv=>decide (kv.1=k))=(atKey xs k).isSome:=by
  rw[zhV,(r.val k).zeg,Option.isSome_map]
 unfold putK storedH;rw[e];by_cases q:(atKey xs k).isSome=true
 ·rw[if_pos q,if_pos q];exact r.repl k ry
 ·rw[if_neg q,if_neg q];exact Paired.snoc r ⟨rfl,hb,ry⟩
theorem KT.keeps {H H':Hp}{kvs:List (List Key×V)}{xs:List (List Key×Addr×Value)}(r:KT H kvs xs)(ht:∀b ys,H b=some (.tup ys)->H' b=some (.tup ys)):KT H' kvs xs:=
 Paired.mapP r λ_ _ z=>⟨z.1,ht _ _ z.2.1,z.2.2⟩
section
variable {P:Program}{w:World}{H:Hp}{h:Heap}{a:Addr}
theorem zpU {u:HO}(ok:HOk P w H h)(e:Rd H a u):zbr P w H h a u:=e.ok ok
theorem zeh {kvs:List (Key×V)}(ok:HOk P w H h)(e:Rd H a (.dK kvs)):kvs.length<=sizeLine/\(a == sysModules)=false/\∃vs,KV kvs vs/\h.DictOf (zax P w) a vs:=
 show zbr P w H h a (.dK kvs) from zpU ok e
theorem zrs {kvs:List (Key×V)}(ok:HOk P w H h)(e:H a=some (.dK kvs)):kvs.length<=sizeLine/\(a == sysModules)=false/\∃vs,KV kvs vs/\h.DictOf (zax P w) a vs:=zeh ok (.inl e)
theorem zhW {ks:List Key}(ok:HOk P w H h)(e:H a=some (.tup (ks.map kV))):(tupleKind (zax P w)).is h ks a:=by
 obtain⟨_,its,r,o,h1,h2,⟨n,h3⟩,_⟩:=(show zbr P w H h a (.tup (ks.map kV)) from ok a _ e);exact⟨o,its.toArray,n,h1,h2,h3,by simpa using zgk r⟩
theorem zjR {kvs:List (List Key×V)}(ok:HOk P w H h)(e:Rd H a (.dT kvs)):kvs.length<=sizeLine/\(a == sysModules)=false/\
  ∃xs,KT H kvs xs/\h.DictOfH (tupleKind (zax P w)) a xs:=by
 obtain⟨z,y,xs,r,o,es,ep,h1,h2,h3,h4,h5⟩:=(show zbr P w H h a (.dT kvs) from zpU ok e);refine⟨z,y,xs,r,o,es,ep,h1,h2,h3,h4,λx hx=>?_,h5⟩;have all:∀ {l:List (List Key×V)} {m:List (List Key×Addr×Value)},KT H l m->∀x∈m,(tupleKind (zax P w)).is h x.1 x.2.1:=by
  intro l m q;induction q with
  | nil=>intro x hx;exact nomatch hx
  | @cons p q ps qs hq t ih=>
   intro x hx;rcases Xv.mp hx with e | hx
   ·subst e;exact zhW ok (by rw[<- hq.1];exact hq.2.1)
   ·exact ih x hx
 exact all r x hx
theorem zrt {kvs:List (List Key×V)}(ok:HOk P w H h)(e:H a=some (.dT kvs)):kvs.length<=sizeLine/\(a == sysModules)=false/\
  ∃xs,KT H kvs xs/\h.DictOfH (tupleKind (zax P w)) a xs:=zjR ok (.inl e)
end
noncomputable def DGet (H:Hp)(a:Addr)(y:V)(r:Option V):Prop:=
 (∃kvs k,Rd H a (.dK kvs)/\y=kV k/\r=valV kvs k)\/∃kvs k b,Rd H a (.dT kvs)/\y=.ref b/\H b=some (.tup (k.map kV))/\r=valV kvs k
noncomputable def DPut (H:Hp)(a:Addr)(y v:V)(H':Hp):Prop:=
 (∃kvs k,H a=some (.dK kvs)/\y=kV k/\kvs.length<sizeLine/\H'=upd H a (.dK (putK kvs k v)))\/
 ∃kvs k b,H a=some (.dT kvs)/\y=.ref b/\H b=some (.tup (k.map kV))/\kvs.length<sizeLine/\H'=upd H a (.dT (putK kvs k v))
theorem DGet.k {H:Hp}{a:Addr}{kvs:List (Key×V)}{k:Key}(e:H a=some (.dK kvs)):DGet H a (kV k) (valV kvs k):=.inl ⟨kvs,k,.inl e,rfl,rfl⟩
theorem DPut.k {H:Hp}{a:Addr}{kvs:List (Key×V)}{k:Key}{v:V}(e:H a=some (.dK kvs))(hl:kvs.length<sizeLine):DPut H a (kV k) v (upd H a (.dK (putK kvs k v))):=.inl ⟨kvs,k,e,rfl,hl,rfl⟩
section
variable {X:Cx}{pins:List (Addr×Obj)}{σ:St}{H:Hp}{s:Shared}{a:Addr}{y v:V}{u r:Value}{o:Option V}{A:Around}{E:Value->Shared->Prop}
theorem Inv.big (I:Inv X pins σ H s):sysModules<s.heap.objs.size:=by
 have h:mainGlobals<s.heap.objs.size:=(I.mod.glob.keeps I.bk).lt;exact Nat.lt_trans (by decide) h
theorem zjS {Q:Value->Shared->Prop}(hu:A.units+1<cLine)(I:Inv X pins σ H s)(g:DGet H a y (some v))(ry:RelV y u)(h:∀w' s',Inv X pins σ H s'->RelV v w'->Q w' s') :
  wpAny (model X.prog X.w) A (getItem (.ref a) u) Q E s:=by
 rcases g with ⟨kvs,k,e,ey,l⟩ | ⟨kvs,k,b,e,ey,eb,l⟩
 ·subst ey;obtain⟨z,hd,vs,rel,dd⟩:=zeh I.hok e;obtain⟨w',hw,rw'⟩:=RelO.some_of (v:=v) (o:=valueAt vs k) (by rw[l];exact rel.val k);exact wpAny_getItem_of (zma ry) dd.mapOf hw (h w' _ (I.tok _) rw')
 ·subst ey;cases (show u=Value.ref b from ry);obtain⟨z,hd,xs,rel,dd⟩:=zjR I.hok e;obtain⟨w',hw,rw'⟩:=RelO.some_of (v:=v) (o:=(atKey xs k).map (·.2)) (by rw[l];exact rel.val k);obtain⟨p,hp,hp2⟩:=Option.map_eq_some_iff.mp hw;refine wpAny_getItem_heap (tupleKind_room_in1 hu) (zhW I.hok eb) dd hp ?_;rw[hp2];exact h w' _ (I.tok _) rw'
theorem zoc {Q:Value->Shared->Prop}(hu:A.units+1<cLine)(I:Inv X pins σ H s)(g:DGet H a y o)(ry:RelV y u)(h:∀s',Inv X pins σ H s'->Q (.bool (!o.isSome)) s') :
  wpAny (model X.prog X.w) A (compareOp .NotIn u (.ref a)) Q E s:=by
 rcases g with ⟨kvs,k,e,ey,l⟩ | ⟨kvs,k,b,e,ey,eb,l⟩
 ·subst ey;obtain⟨z,hd,vs,rel,dd⟩:=zeh I.hok e;refine wpAny_notIn_of (zma ry) hd dd.mapOf ?_;rw[<- (rel.val k).zeg,<- l];exact h _ (I.tok _)
 ·subst ey;cases (show u=Value.ref b from ry);obtain⟨z,hd,xs,rel,dd⟩:=zjR I.hok e;refine wpAny_notIn_heap (tupleKind_room_in1 hu) (zhW I.hok eb) hd dd ?_;have q:=(rel.val k).zeg;rw[Option.isSome_map]at q;rw[<- q,<- l];exact h _ (I.tok _)
theorem zjT {h':Heap}{t':Nat}{ob:HO}(I:Inv X pins σ H s)(mu:Mut (H a))(hs:Yz a s.heap h')(he:∃q,h'.get? a=some q)(new:zbr X.prog X.w (upd H a ob) h' a ob) :
  Inv X pins σ (upd H a ob) { s with heap:=h',toks:=t' }:=
 I.write (x:=a) (e:=a) mu (.inl rfl) (λb q hb z=>(hs.2 b hb).trans z) he new
theorem zpV {P:Program}{w:World}{H':Hp}{h':Heap}{kvs:List (Key×V)}{vs:List (Key×Value)}(z:kvs.length<=sizeLine)(hd:(a == sysModules)=false)(rel:KV kvs vs)(dd:h'.DictOf (zax P w) a vs) :
  zbr P w H' h' a (.dK kvs):=⟨z,hd,vs,rel,dd⟩
theorem zjU {H':Hp}{Q:Unit->Shared->Prop}(hu:A.units+1<cLine)(I:Inv X pins σ H s)(g:DPut H a y v H')(ry:RelV y u)(rv:RelV v r)(h:∀s',Inv X pins σ H' s'->Q () s') :
  wpAny (model X.prog X.w) A (setItem (.ref a) u r) Q E s:=by
 rcases g with ⟨kvs,k,e,ey,l,eH⟩ | ⟨kvs,k,b,e,ey,eb,l,eH⟩
 ·subst ey eH;obtain⟨z,hd,vs,rel,dd⟩:=zrs I.hok e;have hz:vs.length<=sizeLine:=by rw[<- rel.length];exact z
  have hl:(putK kvs k v).length<=sizeLine:=by have:=zef kvs k v;lia
  refine wpAny_setItem_pairs (hsz:=hz) (zma ry) dd λh' dd' hs=>h _ ?_;have he:∃q,h'.get? a=some q:=let ⟨q,_,_,hq,_⟩:=dd';⟨q,hq⟩;exact zjT I (by rw[e];exact True.intro) hs he (zpV hl hd (rel.put k rv) dd')
 ·subst ey eH;cases (show u=Value.ref b from ry);obtain⟨z,hd,xs,rel,dd⟩:=zrt I.hok e;have hz:xs.length<=sizeLine:=by rw[<- Paired.length rel];exact z
  have hl:(putK kvs k v).length<=sizeLine:=by have:=zef kvs k v;lia
  refine wpAny_setItem_heap (hsz:=hz) (tupleKind_room_in1 hu) (zhW I.hok eb) dd λh' dd' hs=>h _ ?_;obtain⟨q,es,ep,hq,h2,h3,h4,_,h5⟩:=dd';refine zjT I (by rw[e];exact True.intro) hs ⟨q,hq⟩ ⟨hl,hd,_,(rel.put k eb rv).keeps λc ys ec=>?_,q,es,ep,hq,h2,h3,h4,h5⟩;rw[zah (zrd ec e (λz=>nomatch z))];exact ec
end
section
variable {X:Cx}{pins:List (Addr×Obj)}{σ:St}{H:Hp}{s:Shared}{a:Addr}{kvs:List (Key×V)}{k:Key}{u:Value}{A:Around}{E:Value->Shared->Prop}
theorem zru {Q:Value->Shared->Prop}(I:Inv X pins σ H s)(e:Rd H a (.dK kvs))(h:∀t s',Inv X pins σ H s'->Q (.int kvs.length t) s'):wpAny (model X.prog X.w) A (call (.builtin "len") [.ref a]) Q E s:=by
 obtain⟨z,hd,vs,rel,dd⟩:=zeh I.hok e;refine call_len_dict hd dd (by rw[<- rel.length];rw[sizeLine_eq]at z;lia) ?_;rw[<- rel.length];exact h _ _ (I.tok _)
end
noncomputable def NoSl (i:Expr):Prop:=∀ov iv,subscripted i false ov iv=operate [ov,iv] (getItem ov iv)
theorem zod {prog:Program}{w:World}{A:Around}{E:Value->Shared->Prop}{s:Shared}{env:Env}{value slice:Expr}{pos:Pos}{T id:String}{Q:Value->Shared->Prop}
  (hl:typeLookup (.type T) "__getitem__" = pure (some (.builtin id))) (hs:NoSl slice)
  (h:wpAny (model prog w) A (eval value env) (λo s₁=>wpAny (model prog w) A (eval slice env) (λi s₂=>s₂.TypeIs o T/\wpAny (model prog w) A (getItem o i) Q E s₂) E s₁) E s) :
  wpAny (model prog w) A (eval (.Subscript value slice pos) env) Q E s:=by
 refine Subscript_ (wpAny_mono h (λo s₁ h₁=>wpAny_mono h₁ (λi s₂ h₂=>?_) λ_ _ x=>x) λ_ _ x=>x);obtain⟨hT,h₂⟩:=h₂;unfold subscriptTail;refine wpAny_bind ?_;rw[getitemInPython_of_ne hT.not_modules];refine wpAny_bind (wpAny_specialOf hT hl ?_);have fin:wpAny (model prog w) A (subscripted slice false o i) (λr s₃=>wpAny (model prog w) A (letTemporaryGo value o r >>= λ_=>pure r) Q E s₃) E s₂:=by
  rw[hs o i];exact wpAny_operating (wpAny_mono h₂ (λr s₃ h₃=>wpAny_bind (wpAny_letTemporaryGo (wpAny_pure h₃))) λ_ _ x=>x)
 first
  | exact wpAny_pure (wpAny_bind fin)
  | exact wpAny_bind (wpAny_pure (wpAny_bind fin))
  | exact wpAny_bind fin
theorem zhd {X:Cx}{pins:List (Addr×Obj)}{σ:St}{H:Hp}{s:Shared}{a:Addr}{y:V}{o:Option V}(I:Inv X pins σ H s)(g:DGet H a y o):s.TypeIs (.ref a) "dict":=by
 rcases g with ⟨kvs,k,e,_,_⟩ | ⟨kvs,k,b,e,_,_,_⟩
 ·obtain⟨_,_,vs,_,dd⟩:=zeh I.hok e;exact dd.typeIs
 ·obtain⟨_,_,xs,_,dd⟩:=zjR I.hok e;exact dd.typeIs
noncomputable def zrv (td ty:TE):TE:=λσ H Q=>td σ H λx H1=>ty σ H1 λy H2=>∃a v,x=.ref a/\DGet H2 a y (some v)/\Q v H2
noncomputable def zjV (ty td:TE):TE:=λσ H Q=>ty σ H λy H1=>td σ H1 λx H2=>∃a o,x=.ref a/\DGet H2 a y o/\Q (.bl (!o.isSome)) H2
noncomputable def zrw (td ty tv:TE):TS:=λD σ H=>tv σ H λv H1=>td σ H1 λx H2=>ty σ H2 λy H3=>∃a H4,x=.ref a/\DPut H3 a y v H4/\D.nx σ H4
section
variable {X:Cx}{o i e value:Expr}{pos pos' tpos:Pos}{td ty tv:TE}
theorem zhe (hu:X.A.units+1<cLine)(ho:PE X o td)(hi:PE X i ty)(hs:NoSl i):PE X (.Subscript o i pos) (zrv td ty):=by
 intro pins s σ H Q I h;refine zod PySem.F.slot_dict_getitem.lookup hs (thn (ho pins s σ H _ I h) λu s1 ⟨x,H1,I1,rx,q1⟩=>thn (hi pins s1 σ H1 _ I1 q1) λiv s2 q44q=>?_);obtain⟨y,H2,I2,ry,a,v,ex,g,q2⟩:=q44q;subst ex;obtain rfl:u=Value.ref a:=rx;exact⟨zhd I2 g,zjS hu I2 g ry λw' s3 I3 rw'=>⟨v,H2,I3,rw',q2⟩⟩
theorem zjW (hu:X.A.units+1<cLine)(hi:PE X i ty)(ho:PE X o td):PC X .NotIn i o (zjV ty td):=by
 intro pins s σ H Q I h;refine thn (hi pins s σ H _ I h) λiv s1 ⟨y,H1,I1,ry,q1⟩=>thn (ho pins s1 σ H1 _ I1 q1) λu s2 q46q=>?_;obtain⟨x,H2,I2,rx,a,ov,ex,g,q2⟩:=q46q;subst ex;obtain rfl:u=Value.ref a:=rx;exact zoc hu I2 g ry λs3 I3=>⟨.bl (!ov.isSome),H2,I3,rfl,q2⟩
theorem zoe (hu:X.A.units+1<cLine)(ho:PE X o td)(hi:PE X i ty)(hv:PE X value tv)(hs:swapsWith value (some (.Subscript o i pos')) pos.line X.env=pure false) :
  PS X (.Assign [.Subscript o i pos'] value pos) (zrw td ty tv):=by
 intro pins s σ H D I h;refine wpAny_Assign_Subscript (thn (hv pins s σ H _ I h) λr s1 ⟨v,H1,I1,rv,q1⟩=>thn (ho pins s1 σ H1 _ I1 q1) λu s2 ⟨x,H2,I2,rx,q2⟩=>thn (hi pins s2 σ H2 _ I2 q2) λiv s3 q49q=>?_) hs;obtain⟨y,H3,I3,ry,a,H4,ex,g,q3⟩:=q49q;subst ex;obtain rfl:u=Value.ref a:=rx;exact zjU hu I3 g ry rv λs4 I4=>⟨σ,H4,I4,q3⟩
end
theorem zmb {P:Program}{w:World}{H:Hp}(h:Heap)(hb:sysModules<h.objs.size):zbr P w H (h.push { cls:=.type "dict",data:=.dict #[] }) h.objs.size (.dK []):=
 ⟨XX _,beq_eq_false_iff_ne.mpr (Ne.symm (XJ hb)),[],.nil,Heap.DictOf.new h⟩
noncomputable def zpW:TE:=λ_ H Q=>∀p,H p=none->Q (.ref p) (upd H p (.dK []))
section
variable {X:Cx}{pos:Pos}
theorem zmc:PE X (.Dict [] [] pos) zpW:=λpins s σ H Q I h=>
 wpAny_Dict_empty ⟨.ref s.heap.objs.size,_,I.laid (a:=s.heap.objs.size) (o:=.dK []) (t':=s.toks) (λ_ _ q=>Xg _ q) (Xo _) (zmb s.heap I.big),rfl,h _ (I.hok.fresh (Xo _))⟩
end
structure M1 (X:Cx)(o:Expr)(m:Str)(apos:Pos)(e:Expr)(cpos:Pos):Prop where
 base:attributeBase o m X.env (eval o X.env)=eval o X.env
 few:((backTo cpos (starEach [e] X.env)).all (λx=>!x.1)&&(backToKw cpos (keywordEach [] X.env)).all (λx=>x.1.isSome)
  && decide (([e]:List Expr).length+([]:List Keyword).length+(if ([]:List Keyword).isEmpty then 0 else 1)<30))=true
 line:(apos.endLine == cpos.line)=true
 trees:backTo cpos (starEach [e] X.env)=[(false,eval e X.env)]
end L2
namespace Att
open PySem PySem.W PySem.Calls PyProof.Rows
theorem zei {P:Params}{h:Heap}:∀(ns:List Int)(vs:List Value),WellAll P h vs (ns.map WData.int)->IntsAre vs ns:=by
 intro ns;induction ns with
 | nil=>
  intro vs w;rw[List.map_nil]at w;cases w;exact .nil
 | cons n ns ih=>
  intro vs w;rw[Xt]at w;cases w with
  | cons a b=>
   cases a;exact .cons _ _ (ih _ b)
theorem zjX {l:OpenLaw}{n:Nat}(hn:l.most=some n){P:Params}{h:Heap}{args:List WData}{vals:List Value}
  (hpre:l.row.toRowW.claim.pre args=true) (hwl:WellAll P h vals args) :
  ∃a vs ns,vals=[Value.ref a]/\args=[WData.list (ns.map WData.int)]/\h.get? a=some { cls:=.type "list",data:=.seq vs.toArray }/\IntsAre vs ns/\ns.length<=n:=by
 have hsh:WShape.hasAll [] args [.list .int]=true:=(pre_splitW hpre).1;have hc:l.pre.holds [] { args:=args }=true:=(pre_splitW hpre).2;obtain⟨d,r,rfl,h1,h2⟩:=hasAllW_cons hsh;obtain rfl:=hasAllW_nil h2;obtain⟨xs,rfl,h3⟩:=hasW_list h1;obtain⟨ns,rfl⟩:=items_int h3;have hlen:ns.length<=n:=by
  unfold OpenLaw.pre at hc;have h4:(WTm.not (.lt (.lit (.int (n:Int))) (.len (.arg 0)))).holds [] { args:=[.list (ns.map .int)] }=true:=by
   have h4:=(holds_andW hc).1;rw[hn]at h4;exact h4
  have h5:=condW_of h4 (w_not (w_lt w_lit (w_len_list (w_arg rfl))));rw[Xc]at h5;refine Nat.le_of_not_lt λq=>?_;have q':(n:Int)<((ns.length:Nat):Int):=by lia
  first
   | (rw[decide_eq_true q']at h5;exact absurd h5 (by decide))
   | (simp at h5;lia)
 cases hwl with
 | cons w1 w2=>
  cases w2;cases w1 with
  | list ho hall=>exact⟨_,_,ns,rfl,rfl,ho,zei ns _ hall,hlen⟩
theorem zjY (l:OpenLaw)(args:List WData):l.row.toRowW.claim.post args (.bool true) args=true:=
 postW_of (r:=l.row.toRowW) (X:=(true == true))
  (show WShape.has [] (.bool true) .bool=true by first | rfl | decide | simp[WShape.has,WShape.arms,WShape.armsAll])
  (show(WTm.eq .res (.lit (.bool true))).value [] { args:=args,res:=some (.bool true),after:=args }=some (.bool (true == true)) from w_eq_bool (w_res rfl) w_lit) rfl
theorem zhf {l:OpenLaw}{n:Nat}{q:Program}{loose:List Str}{XP:(Str->Option Value)->Heap->Prop}{YP:World->Heap->Prop}{d:DefRec}
  (hn:l.most=some n) (hdf:d.params.defaults=[])
  (call:∀(w:World) (s₀ s₁:Shared) (mg mb:Str->Option Value) (fa:Addr) (o:Obj) (pm cd doc:Value) (a:Addr) (vs:List Value) (ns:List Int),
   Ground q loose [] XP w s₀ mg mb s₁.heap->YP w s₁.heap->
   s₁.heap.get? fa=some o->o.data=.func (docDef d.name d.params d.body d.scope pm cd doc)->s₁.heap.CodeRec cd d.name->mg d.name=some (.ref fa)->
   s₁.heap.get? a=some { cls:=.type "list",data:=.seq vs.toArray }->IntsAre vs ns->ns.length<=n->s₁.gens = #[]->
   codeAny (model l.prog w) callerA (.call (.ref fa) ⟨[.ref a],[]⟩) (λr s'=>r=.ok (.ret (.bool true))/\OldK s₁.heap s'.heap/\s'.os=s₁.os/\AllBare s'.gens) s₁) :
  WalkO q loose XP YP l.row.toRowW d [] (λf vs=>PySem.call f vs):=by
 intro w s₀ s₁ mg mb G Y fa o pm cd doc dV kV ho hd hcd hD hmg hg args vals as hpre hlay hrd hwl hlo;obtain rfl:dV=.none:=Dflts.none hD hdf;obtain rfl:kV=.none:=Dflts.noKw hD;obtain⟨a,vs,ns,rfl,rfl,hobj,hints,hlen⟩:=zjX hn hpre hwl;refine enter_call (codeAny_mono (call w s₀ s₁ mg mb fa o pm cd doc a vs ns G Y ho (fd_plain hd) hcd hmg hobj hints hlen hg) λr s' hq=>?_);obtain⟨rfl,h2,h3,h4⟩:=hq;exact⟨.inl ⟨.bool true,.bool true,[],rfl,λ_=>rfl,.bool true,zjY l _,λ_=>⟨List.Pairwise.nil,λ_ hm=>(nomatch hm)⟩⟩,h2,h3,h4⟩
end Att
namespace L2
open PySem PySem.Spec PyProof.Rows
theorem zgl:∀ {vs:List Value}{ns:List Int},IntsAre vs ns->Vals (ns.map V.int) vs
 | _,_,.nil=>.nil
 | _,_,.cons n t h=>.cons ⟨t,rfl⟩ (zgl h)
noncomputable def Only (H:Hp):Prop:=∀b,H b=none\/∃o xs,H b=some (.frz o (.lst xs))
noncomputable abbrev KOf {K:Xa}{h:Heap}(_:K.In h):Xa:=K
noncomputable def zaJ (s:Stmt):Arguments:=match s with
 | .FunctionDef _ a _ _ _ _ _ _ _ _=>a
 | _=>{ posonlyargs:=[],args:=[],vararg:=none,kwonlyargs:=[],kw_defaults:=[],kwarg:=none,defaults:=[] }
noncomputable def zay (s:Stmt):List Stmt:=match s with
 | .FunctionDef _ _ b _ _ _ _ _ _ _=>b
 | _=>[]
noncomputable def zac (s:Stmt):Scope:=match s with
 | .FunctionDef _ _ _ _ _ _ sc _ _ _=>sc
 | _=>{ kind:=.function,names:=[],isGenerator:=false,isCoroutine:=false }
noncomputable abbrev CX0:CXT:=λ_ _ _ _ _ _=>False
noncomputable abbrev E0:XK:=λ_ _ _=>False
theorem zmd {X:Cx}:zge CX0 X E0:=λ_ _ _ _ _ _ _ h=>h.elim
structure Fun (K:Xa)(x qual:Str)(st:Stmt)(f:Addr)(fd:FuncData):Prop where
 ex:∃(oc:Value) (od:Option Addr) (kV doc pm:Value) (an:Option Addr) (cdv ct:Value) (osl:Array (Option Value)),
  fd=Yo x qual (zaJ st) (zay st) (zac st) .none kV doc pm an cdv ct/\K.lookup f=some ⟨oc,od,.func fd,osl⟩/\Yq K cdv qual=true
 kp:XO K (.ref f)=true
section
variable {P:Program}{w:World}{K:Xa}{mg:Str->Option Value}{base:Heap}
theorem Fun.ok {x qual:Str}{st:Stmt}{f:Addr}{fd:FuncData}{N ps:List Str}{k:Nat}{sp:Sp}(F:Fun K x qual st f fd)(S:zaI N ps (zac st))(len:∀vs H Q E,sp vs H Q E->vs.length=ps.length)
  (hbody:∀(cdv:Value) (A:Around) (outer:List Env) (s:Shared) (H:Hp) (vs:List V) (Q:VK) (E:XK),Room k (A.deeper (envOfC qual (zac st) s.heap.objs.size f cdv))->sp vs H Q E->
   ∃t,PSs (cxOf CX0 P w K mg base N qual (zac st) f cdv A outer s H E).nox (zay st) t/\t { nx:=λ_ H'=>Q .non H',rt:=Q } (start N vs) H):FnOk P w K mg base CX0 (k+1) f fd ps sp:=by
 obtain⟨oc,od,kV,doc,pm,an,cdv,ct,osl,rfl,lk,hcd⟩:=F.ex;refine zpK lk hcd S len λA outer s H vs Q E hr hsp=>?_;obtain⟨t,h,q⟩:=hbody cdv A outer s H vs Q E hr hsp;exact⟨t,h.nox,q⟩
theorem Fun.binds {x qual:Str}{st:Stmt}{f:Addr}{fd:FuncData}{ps:List Str}(F:Fun K x qual st f fd)
  (h:∀(kV doc pm:Value) (an:Option Addr) (cdv ct:Value) (us:List Value),us.length=ps.length->bindArgs (Yo x qual (zaJ st) (zay st) (zac st) .none kV doc pm an cdv ct) ⟨us,[]⟩=pure (ps.zip us)):Binds K fd ps []:=by
 obtain⟨oc,od,kV,doc,pm,an,cdv,ct,osl,rfl,lk,hcd⟩:=F.ex;exact .all (h kV doc pm an cdv ct)
theorem zbG {x qual:Str}{st:Stmt}{f:Addr}{oc:Value}{od an:Option Addr}{osl:Array (Option Value)}{kV doc pm cdv ct:Value}(l:K.lookup f=some ⟨oc,od,.func (Yo x qual (zaJ st) (zay st) (zac st) .none kV doc pm an cdv ct),osl⟩)
  (c:Yq K cdv qual=true) (k:XO K (.ref f)=true):Fun K x qual st f (Yo x qual (zaJ st) (zay st) (zac st) .none kV doc pm an cdv ct):=⟨⟨oc,od,kV,doc,pm,an,cdv,ct,osl,rfl,l,c⟩,k⟩
end
theorem iteF {A B:Prop}(h:B):if false=true then A else B:=by
 rw[if_neg Xr];exact h
theorem iteT {A B:Prop}(h:A):if true=true then A else B:=by
 rw[if_pos rfl];exact h
theorem ite2 {c A B:Prop} [Decidable c] (h1:c->A)(h2:¬ c->B):if c then A else B:=by
 by_cases h:c
 ·rw[if_pos h];exact h1 h
 ·rw[if_neg h];exact h2 h
noncomputable def Same (H H':Hp):Prop:=∀b o,H b=some o->H' b=some o
theorem Same.refl (H:Hp):Same H H:=λ_ _ h=>h
theorem Same.trans {H H1 H2:Hp}(a:Same H H1)(b:Same H1 H2):Same H H2:=λc o h=>b c o (a c o h)
theorem Same.free {H H':Hp}(e:Same H H'){l:Addr}(h:H' l=Option.none):H l=Option.none:=by
 cases q:H l with
 | none=>rfl
 | some o=>
  rw[e l o q]at h;cases h
theorem Same.seq {K:Xa}{H H':Hp}{a:Addr}{xs:List V}(e:Same H H')(h:SqL K H a xs):SqL K H' a xs:=by
 rcases h with (h | ⟨o,h⟩) | h
 ·exact .inl (.inl (e _ _ h))
 ·exact .inl (.inr ⟨o,e _ _ h⟩)
 ·exact .inr h
noncomputable def zaB (env:Env):List (Str×NameKind)->List (Str×Addr)->List (Str×Addr)
 | [],acc=>acc
 | (n,k)::r,acc=>zaB env r (if k == .free then(n,(env.cells.lookup n).getD 0)::acc else acc)
theorem zhX {env:Env}(f:Str×NameKind->List (Str×Addr)->Sem (ForInStep (List (Str×Addr))))
  (hf:∀n k cs,f (n,k) cs=if k == .free then(do let a <- cellOf env n;pure (.yield ((n,a)::cs))) else pure (.yield cs)) :
  ∀(l:List (Str×NameKind)) (acc:List (Str×Addr)),(∀n,(n,NameKind.free)∈l->∃c,env.cells.lookup n=some c)->forIn l acc f=pure (zaB env l acc)
 | [],acc,_=>by rw[List.forIn_nil];rfl
 | (n,k)::r,acc,h=>by
  have ih:=zhX f hf r;have hr:∀m,(m,NameKind.free)∈r->∃c,env.cells.lookup m=some c:=λm hm=>h m (Xe _ hm);rw[List.forIn_cons,hf];unfold zaB;by_cases hk:(k == NameKind.free)=true
  ·have hk':k=NameKind.free:=by simpa using hk
   subst hk';obtain⟨c,hc⟩:=h n Xi;have e:cellOf env n=pure c:=by unfold cellOf;rw[hc]
   rw[if_pos hk,if_pos hk,e,hc];simp only[pure_bind,Option.getD_some];exact ih _ hr
  ·rw[if_neg hk,if_neg hk];simp only[pure_bind];exact ih _ hr
theorem zjZ {scope:Scope}{env:Env}(h:∀n,(n,NameKind.free)∈scope.names->∃c,env.cells.lookup n=some c):closureFor scope env=pure (zaB env scope.names []):=by
 simp only[closureFor];rw[zhX (env:=env) _ (λn k cs=>by cases hk:(k == NameKind.free)<;>simp[hk]) scope.names [] h];simp
theorem zfa {env:Env}:∀(l:List (Str×NameKind))(acc:List (Str×Addr)),(∀n,(n,NameKind.free)∈l->∃c,env.cells.lookup n=some c)->(∀n c,(n,c)∈acc->env.cells.lookup n=some c)->
  ∀n c,(n,c)∈zaB env l acc->env.cells.lookup n=some c
 | [],_,_,ha,n,c,hm=>ha n c hm
 | (x,k)::r,acc,h,ha,n,c,hm=>by
  have hr:∀m,(m,NameKind.free)∈r->∃c,env.cells.lookup m=some c:=λm hm=>h m (Xe _ hm);unfold zaB at hm;refine zfa r _ hr (λm d hd=>?_) n c hm;by_cases hk:(k == NameKind.free)=true
  ·have hk':k=NameKind.free:=by simpa using hk
   subst hk';rw[if_pos hk]at hd;rcases Xv.mp hd with e | hd
   ·obtain⟨c',hc'⟩:=h x Xi;cases e;rw[hc'];rfl
   ·exact ha m d hd
  ·rw[if_neg hk]at hd;exact ha m d hd
theorem zdl {env:Env}:∀(l:List (Str×NameKind))(acc:List (Str×Addr))(n:Str),((n,NameKind.free)∈l\/(acc.lookup n).isSome=true)->((zaB env l acc).lookup n).isSome=true
 | [],_,_,h=>h.elim (λz=>nomatch z) id
 | (x,k)::r,acc,n,h=>by
  unfold zaB;refine zdl r _ n ?_;have up:(acc.lookup n).isSome=true->((if (k == NameKind.free)=true then(x,(env.cells.lookup x).getD 0)::acc else acc).lookup n).isSome=true:=λz=>by
   by_cases hk:(k == NameKind.free)=true
   ·rw[if_pos hk,List.lookup_cons];cases n == x<;>simp[z]
   ·rw[if_neg hk];exact z
  rcases h with h | h
  ·rcases Xv.mp h with e | h
   ·right;cases e;rw[if_pos (by rfl),List.lookup_cons];simp
   ·exact .inl h
  ·exact .inr (up h)
theorem zaV:∀(names:List (Str×NameKind))(n:Nat)(acc:List (Str×Addr)),cellsFrom n names acc=cellsFrom n names []++acc
 | [],_,_=>rfl
 | (x,k)::r,n,acc=>by
  unfold cellsFrom;by_cases hk:(k == NameKind.cell)=true
  ·rw[if_pos hk,if_pos hk,zaV r (n+1) ((x,n)::acc),zaV r (n+1) [(x,n)],Xw];rfl
  ·rw[if_neg hk,if_neg hk];exact zaV r n acc
theorem zbB:∀(names:List (Str×NameKind))(n:Nat)(acc:List (Str×Addr))(x:Str)(c:Addr),(x,c)∈cellsFrom n names acc->(x,c)∈acc\/(x,NameKind.cell)∈names
 | [],_,_,_,_,h=>.inl h
 | (y,k)::r,n,acc,x,c,h=>by
  unfold cellsFrom at h;by_cases hk:(k == NameKind.cell)=true
  ·have hk':k=NameKind.cell:=by simpa using hk
   subst hk';rw[if_pos hk]at h;rcases zbB r _ _ x c h with h | h
   ·rcases Xv.mp h with e | h
    ·cases e;exact .inr Xi
    ·exact .inl h
   ·exact .inr (Xe _ h)
  ·rw[if_neg hk]at h;rcases zbB r _ _ x c h with h | h
   ·exact .inl h
   ·exact .inr (Xe _ h)
noncomputable def zdx (sc sup:Scope):Scope:=
 {sc with names:=sc.names.map λ(n,k)=>if (k == .free&&sup.kind == .function&&sup.names.lookup n == some .cell) then(n,.cell) else(n,k) }
noncomputable def cpOk (sup:Scope)(XN N:List Str)(k:Nat)(js:List Nat)(sc:Scope):Bool:=
 sc.kind == .function&&decide N.Nodup&&decide (sc.names.map (·.1)).Nodup&&(sc.names.all λp=>p.2 != .free||(sup.names.lookup p.1 == some .cell||sup.names.lookup p.1 == some .free)) &&
  N.length == k+js.length&&((N.drop k).zip js).all λp=>sc.names.lookup p.1 == some .free&&XN[p.2]? == some p.1
structure zbC (X:Cx)(N:List Str)(k:Nat)(js:List Nat)(sc:Scope):Prop where
 kind:sc.kind=.function
 nd:N.Nodup
 nm:(sc.names.map (·.1)).Nodup
 fr:∀n,(n,NameKind.free)∈sc.names->X.env.kindOf n=some .cell\/X.env.kindOf n=some .free
 len:N.length=k+js.length
 at':∀(i:Nat) (x:Str),N[k+i]? = some x->sc.names.lookup x=some .free/\∃j,js[i]? = some j/\X.N[j]? = some x
theorem zhg {X:Cx}{sup:Scope}{XN N:List Str}{k:Nat}{js:List Nat}{sc:Scope}(hs:X.env.scope=sup)(hn:X.N=XN)(h:cpOk sup XN N k js sc=true):zbC X N k js sc:=by
 subst hs hn;unfold cpOk at h;simp only[Yr,decide_eq_true_eq,beq_iff_eq,XM]at h;obtain⟨⟨⟨⟨⟨h1,h2⟩,h3⟩,h4⟩,h5⟩,h6⟩:=h;refine⟨h1,h2,h3,λn hn=>?_,h5,λi x hi=>?_⟩
 ·have q:=h4 _ hn;simp only[bne_self_eq_false,Bool.false_or,Bool.or_eq_true,beq_iff_eq]at q;exact q
 ·have hi':(N.drop k)[i]? = some x:=by rw[List.getElem?_drop];exact hi
  have hl:k+i<N.length:=(Xj.mp hi).1;have hj:i<js.length:=by lia
  have hm:(x,js[i])∈(N.drop k).zip js:=by
   refine List.mem_iff_getElem?.mpr ⟨i,?_⟩;rw[List.getElem?_zip_eq_some];exact⟨hi',by simp[hj]⟩
  have q:=h6 _ hm;exact⟨q.1,js[i],by simp[hj],q.2⟩
theorem zbM {α:Type}:∀ {l:List (Str×α)}{x:Str}{v:α},(l.map (·.1)).Nodup->(x,v)∈l->l.lookup x=some v
 | (y,u)::r,x,v,nd,h=>by
  rw[Xt,Yl]at nd;rw[List.lookup_cons];rcases Xv.mp h with e | h
  ·cases e;simp
  ·have ne:x≠y:=λz=>nd.1 (XL.mpr ⟨(x,v),h,z⟩);have hb:(x == y)=false:=by simpa using ne
   rw[hb];exact zbM nd.2 h
noncomputable def zcf (k:Nat)(js:List Nat)(σ:St):St:=YN k none++js.map λj=>(σ[j]?).getD none
noncomputable def cxB (X:Cx)(N:List Str)(sc:Scope)(C:Addr)(cells:List (Str×Addr))(fp:List Addr)(s:Shared)(H:Hp):Cx where
 prog:=X.prog
 w:=X.w
 K:=X.K
 mg:=X.mg
 base:=X.base
 A:=X.A
 N:=N
 s₀:=s
 H₀:=H
 env:={ scope:=zdx sc X.env.scope,locals:=C,globals:=X.env.globals,cells:=cells,qual:=X.env.qual,func:=none,code:=X.env.code,frame:=X.env.frame,builtins:=X.env.builtins }
 outer:=X.stack
 stack:=X.stack
 ex:=fp
 fn:=λx=>sc.names.lookup x == some .cell
 calm:=X.calm
 pn:=[]
 xe:=λ_ _=>False
section
variable {X:Cx}{pins:List (Addr×Obj)}{σ:St}{H:Hp}{s:Shared}
theorem zcJ {sc sup:Scope}{x:Str}{k:NameKind}(h:(zdx sc sup).names.lookup x=some k):sc.names.lookup x=some k\/(sc.names.lookup x=some .free/\k=.cell):=by
 unfold zdx at h;dsimp only at h;generalize sc.names=l at h ⊢;induction l with
 | nil=>simp at h
 | cons p r ih=>
  obtain⟨n,kd⟩:=p;rw[Xt,List.lookup_cons]at h;rw[List.lookup_cons];dsimp only at h;by_cases hc:(kd == NameKind.free&&sup.kind == ScopeKind.function&&sup.names.lookup n == some NameKind.cell)=true
  ·rw[if_pos hc]at h;dsimp only at h;cases hx:x == n with
   | true=>
    rw[hx]at h;simp only[Yr,beq_iff_eq]at hc;right;exact⟨by rw[hc.1.1],(Option.some.inj h).symm⟩
   | false=>rw[hx]at h;exact ih h
  ·rw[if_neg hc]at h;dsimp only at h;cases hx:x == n with
   | true=>rw[hx]at h;left;exact h
   | false=>rw[hx]at h;exact ih h
theorem zcK {sc sup:Scope}{x:Str}(h:sc.names.lookup x=some .free):(zdx sc sup).names.lookup x=some .cell\/(zdx sc sup).names.lookup x=some .free:=by
 unfold zdx;dsimp only;generalize sc.names=l at h ⊢;induction l with
 | nil=>simp at h
 | cons p r ih=>
  obtain⟨n,kd⟩:=p;rw[List.lookup_cons]at h;rw[Xt];dsimp only;by_cases hc:(kd == NameKind.free&&sup.kind == ScopeKind.function&&sup.names.lookup n == some NameKind.cell)=true
  ·rw[if_pos hc,List.lookup_cons];cases hx:x == n with
   | true=>left;rfl
   | false=>rw[hx]at h;exact ih h
  ·rw[if_neg hc,List.lookup_cons];cases hx:x == n with
   | true=>rw[hx]at h;right;exact h
   | false=>rw[hx]at h;exact ih h
theorem Inv.block {N:List Str}{k:Nat}{js:List Nat}{sc:Scope}{fp:List Addr}(I:Inv X pins σ H s)(S:zbC X N k js sc)(hf:∀b∈fp,FpOk X pins H b)(hfs:∀b∈fp,b<s.heap.objs.size) :
  Inv (cxB X N sc s.heap.objs.size (cellsFrom (s.heap.objs.size+1) sc.names (zaB X.env sc.names [])) fp s H) [] (zcf k js σ) H
   {s with heap:=pushCells (s.heap.push { cls:=.type "dict",data:=.dict #[] }) sc.names }:=by
 have hz:(s.heap.push { cls:=.type "dict",data:=.dict #[] }).objs.size=s.heap.objs.size+1:=Heap.size_push ..;have kp:∀b o,s.heap.get? b=some o->(pushCells (s.heap.push { cls:=.type "dict",data:=.dict #[] }) sc.names).get? b=some o:=λb o e=>pushCells_keeps _ _ b o (Xg _ e);have cok:=cellsFrom_ok sc.names (s.heap.push { cls:=.type "dict",data:=.dict #[] }) (s.heap.objs.size+1) [] ⟨λ_ _ hm=>(nomatch hm),List.Pairwise.nil⟩ (by rw[hz];exact Xo _);rw[hz]at cok;have frs':∀n,(n,NameKind.free)∈sc.names->∃c,X.env.cells.lookup n=some c:=λn hn=>I.ok.has n (S.fr n hn);have csub:=zfa (env:=X.env) sc.names [] frs' (λ_ _ z=>nomatch z);have cases_:∀x c,(cellsFrom (s.heap.objs.size+1) sc.names (zaB X.env sc.names [])).lookup x=some c->
   ((cellsFrom (s.heap.objs.size+1) sc.names []).lookup x=some c)\/((cellsFrom (s.heap.objs.size+1) sc.names []).lookup x=none/\(zaB X.env sc.names []).lookup x=some c):=λx c h=>by
  rw[zaV,List.lookup_append]at h;cases q:(cellsFrom (s.heap.objs.size+1) sc.names []).lookup x with
  | some d=>rw[q]at h;left;simpa using h
  | none=>rw[q]at h;right;exact⟨rfl,by simpa using h⟩
 have old:∀x c,(zaB X.env sc.names []).lookup x=some c->X.env.cells.lookup x=some c:=λx c h=>csub x c (PySem.mem_of_lookup h);have oldlt:∀x c,X.env.cells.lookup x=some c->c<s.heap.objs.size:=λx c h=>let ⟨_,q⟩:=I.cell x c h;q.lt;have ownge:∀x c,(cellsFrom (s.heap.objs.size+1) sc.names []).lookup x=some c->s.heap.objs.size+1<=c:=λx c h=>(cok.empty x c (PySem.mem_of_lookup h)).2;refine⟨⟨I.ok.mod,S.kind,I.ok.glob,I.ok.blt,Xo _,?inj,?has,?cab,I.ok.hd,I.ok.frames,.inl rfl,?exf,I.bs,YH I.ok.bsz I.sz,?noex,?exfs,I.stack,I.zgY⟩,rfl,I.bare,Un.kept kp,?loc,?cell,I.hok.fresh (Xo _),?freeC,λp hp=>absurd (show p∈([]:List (Addr×Obj)) from hp) (by simp),I.hok.kept kp,?len⟩
 case inj=>
  intro x y c hx hy;rcases cases_ x c hx with h1 | ⟨_,h1⟩<;>rcases cases_ y c hy with h2 | ⟨_,h2⟩
  ·exact name_of_addr cok.apart (PySem.mem_of_lookup h1) (PySem.mem_of_lookup h2)
  ·exact absurd (XE (oldlt y c (old y c h2)) (Nat.le_of_succ_le (ownge x c h1))) (Yy _)
  ·exact absurd (XE (oldlt x c (old x c h1)) (Nat.le_of_succ_le (ownge y c h2))) (Yy _)
  ·exact I.ok.inj x y c (old x c h1) (old y c h2)
 case has=>
  intro x hx;have hx':(zdx sc X.env.scope).names.lookup x=some .cell\/(zdx sc X.env.scope).names.lookup x=some .free:=hx;have q:sc.names.lookup x=some .cell\/sc.names.lookup x=some .free:=by
   rcases hx' with h | h
   ·rcases zcJ h with h | ⟨h,_⟩
    ·exact .inl h
    ·exact .inr h
   ·rcases zcJ h with h | ⟨h,_⟩
    ·exact .inr h
    ·exact .inr h
  refine Option.isSome_iff_exists.mp (PySem.W.cellsFrom_some sc.names _ _ ?_);rcases q with q | q
  ·exact .inl q
  ·exact .inr (zdl _ _ _ (.inl (PySem.mem_of_lookup q)))
 case cab=>
  intro x c hfn hx;have hc:sc.names.lookup x=some .cell:=by simpa[cxB]using hfn
  rcases cases_ x c hx with h | ⟨h,_⟩
  ·have:=ownge x c h;show s.heap.objs.size<=c;lia
  ·have q:=PySem.W.cellsFrom_some sc.names (s.heap.objs.size+1) [] (.inl hc);rw[h]at q;cases q
 case exf=>
  intro b hb;have hlt:=hfs b hb;refine⟨XJ hlt,λx c hx=>?_⟩;rcases cases_ x c hx with h | ⟨_,h⟩
  ·exact λz=>absurd (XE (show c<s.heap.objs.size by rw[z];exact hlt) (Nat.le_of_succ_le (ownge x c h))) (Yy _)
  ·exact(hf b hb).2.2.2.2.1 x c (old x c h)
 case noex=>
  intro b o e hb;rcases(hf b hb).2.2.2.1 with z | z
  ·exact I.ok.noex b o e z
  ·exact absurd (XE (Xx (I.ok.bs b o e).1) z) (Yy _)
 case exfs=>
  intro b hb hbf;rcases Xv.mp (I.zjD b hbf)with z | z
  ·exact(hf b hb).2.1 z
  ·exact(hf b hb).2.2.1 z
 case loc=>
  refine⟨_,(Heap.Ns.new s.heap (.type "dict")).keeps (pushCells_keeps _ _),λi x v e1 e2 e3=>?_⟩;have hik:k<=i:=by
   unfold zcf at e2;by_cases hik:k<=i
   ·exact hik
   ·rw[Yn (by simp;lia),List.getElem?_replicate]at e2;split at e2<;>cases e2
  obtain⟨i',rfl⟩:∃i',i=k+i':=⟨i-k,by lia⟩;obtain⟨hfree,j,hj,hX⟩:=S.at' i' x e1;have e2':(σ[j]?).getD none=some v:=by
   unfold zcf at e2;rw[Yf (by simp)]at e2;rw[YF,show k+i'-k=i' by lia,Xk,hj]at e2;exact Option.some.inj e2
  have hσ:σ[j]? = some (some v):=by
   cases q:σ[j]? with
   | none=>rw[q]at e2';cases e2'
   | some o=>rw[q]at e2';exact congrArg some e2'
  have hk:=S.fr x (PySem.mem_of_lookup hfree);obtain⟨m,hn,hl⟩:=I.loc;obtain⟨u,r,l⟩:=hl j x v hX hσ (by rcases hk with h | h;exact .inr (.inl h);exact .inr (.inr h))
  rcases l with ⟨hloc,_⟩ | ⟨_,c,hc,hcell⟩
  ·rcases hk with h | h<;>(rw[h]at hloc;cases hloc)
  ·refine⟨u,r,.inr ⟨zcK hfree,c,?_,hcell.keeps kp⟩⟩;show(cellsFrom (s.heap.objs.size+1) sc.names (zaB X.env sc.names [])).lookup x=some c;have hno:(cellsFrom (s.heap.objs.size+1) sc.names []).lookup x=none:=by
    cases q:(cellsFrom (s.heap.objs.size+1) sc.names []).lookup x with
    | none=>rfl
    | some d=>
     rcases zbB _ _ _ x d (PySem.mem_of_lookup q)with z | z
     ·cases z
     ·have:=zbM S.nm z;rw[hfree]at this;cases this
   obtain⟨d,hd⟩:=Option.isSome_iff_exists.mp (zdl (env:=X.env) sc.names [] x (.inl (PySem.mem_of_lookup hfree)));have hdc:d=c:=by
    have:=old x d hd;rw[hc]at this;exact(Option.some.inj this).symm
   rw[zaV,List.lookup_append,hno,hd,hdc];rfl
 case cell=>
  intro x c hx;rcases cases_ x c hx with h | ⟨_,h⟩
  ·exact⟨none,(cok.empty x c (PySem.mem_of_lookup h)).1⟩
  ·obtain⟨v,q⟩:=I.cell x c (old x c h);exact⟨v,q.keeps kp⟩
 case freeC=>
  intro x c hx;rcases cases_ x c hx with h | ⟨_,h⟩
  ·exact I.hok.fresh (by have:=ownge x c h;lia)
  ·exact I.freeC x c (old x c h)
 case len=>
  show(zcf k js σ).length=N.length;unfold zcf;rw[XH,YF,Xc];exact S.len.symm
end
theorem zka {prog:Program}{w:World}{A:Around}{R:Result->Shared->Prop}{s:Shared}{elt tg iter:Expr}{ifs:List Expr}{scope:Scope}{pos:Pos}{it acc:Value}{env:Env}(J:Nat->Shared->Prop)
  (turn:∀n s,J n s->wpAny (model prog w) A (pyNext it) (λr s1=>match r with
   | none=>R (.ok .next) s1
   | some v=>wpAny (model prog w) A (letOwnedTupleGo tg it v) (λ_ s2=>wpAny (model prog w) A (assign tg env v) (λ_ s3=>
     wpAny (model prog w) A (forIn ifs true λc r=>if r=true then do let ok <- isTrue c env (eval c env);pure (ForInStep.yield ok) else pure (ForInStep.yield r)) (λok s4=>
      if ok=true then wpAny (model prog w) A (eval elt env) (λx s5=>wpAny (model prog w) A (call (.builtin "list.append") [acc,x]) (λ_ s6=>∃m,m<n/\J m s6) (λ_ _=>False) s5) (λ_ _=>False) s4
      else ∃m,m<n/\J m s4) (λ_ _=>False) s3) (λ_ _=>False) s2) (λ_ _=>False) s1) (λ_ _=>False) s)
  (n:Nat) (h:J n s):codeAny (model prog w) A (.compLoop (.ListComp elt [⟨tg,iter,ifs,0⟩] scope pos) 0 it acc env) R s:=by
 refine codeAny_loop rfl J (λn s hI=>wpAny_noted (wpAny_noRaise ?_)) n h;rw[compTurn_list];refine wpAny_bind (wpAny_standAt (wpAny_bind (thn (turn n s hI) λr s1 h1=>?_)));cases r with
 | none=>exact wpAny_pure h1
 | some v=>
  refine wpAny_bind (thn h1 λ_ s2 h2=>wpAny_bind (thn h2 λ_ s3 h3=>wpAny_bind (thn h3 λok s4 h4=>?_)));cases ok with
  | false=>exact wpAny_pure ⟨rfl,by simpa using h4⟩
  | true=>
   rw[if_pos rfl]at h4;exact wpAny_bind (wpAny_bind (thn h4 λx s5 h5=>wpAny_bind (thn h5 λ_ s6 h6=>wpAny_pure (wpAny_pure ⟨rfl,h6⟩))))
theorem zgm {M:Model}{A:Around}{E:Value->Shared->Prop}{s:Shared}{sc:Scope}{globals:Addr}{clo:List (Str×Addr)}{qual:Str}{out:Env}{Q:Env->Shared->Prop}
  (h:Q { scope:=sc,locals:=s.heap.objs.size,globals:=globals,cells:=cellsFrom (s.heap.objs.size+1) sc.names clo,qual:=qual,func:=none,code:=out.code,frame:=out.frame,builtins:=out.builtins }
   {s with heap:=pushCells (s.heap.push { cls:=.type "dict",data:=.dict #[] }) sc.names }) :
  wpAny M A (newFunctionEnv sc globals clo [] qual none .none (some out)) Q E s:=by
 unfold newFunctionEnv;simp only[Option.isSome_some,if_true];refine wpAny_bind (wpAny_alloc (wpAny_bind (wpAny_layCells _ (λname kind cells=>by cases hkc:kind == NameKind.cell<;>simp[hkc]) _ _ _ _ ?_)));rw[show({ s with heap:=s.heap.push { cls:=.type "dict",data:=.dict #[] } }:Shared).heap.objs.size=s.heap.objs.size+1 from Heap.size_push ..];simp only[List.forIn_nil];exact wpAny_bind (wpAny_pure (wpAny_pure h))
noncomputable def PTs (X:Cx)(ifs:List Expr)(t:TT):Prop:=
 ∀(pins:List (Addr×Obj)) (s:Shared) (σ:St) (H:Hp) (Q:Bool->Hp->Prop),Inv X pins σ H s->t σ H Q->
  wpAny (model X.prog X.w) X.A (forIn ifs true λc r=>if r=true then do let ok <- isTrue c X.env (eval c X.env);pure (ForInStep.yield ok) else pure (ForInStep.yield r)) (TP X pins σ Q) X.xe s
noncomputable def zof:TT:=λ_ H Q=>Q true H
theorem zog {X:Cx}:PTs X [] zof:=λpins s σ H Q I h=>wpAny_tests_nil ⟨H,I,h⟩
theorem zoh {X:Cx}{c:Expr}{t:TT}(h:PT X c t):PTs X [c] t:=λpins s σ H Q I q=>wpAny_tests_one (h pins s σ H Q I q)
noncomputable def zfb (J:It)(g:TG)(tt:TT)(te:TE)(l:Addr)(σb:St)(H1:Hp)(R:Hp->Prop):Prop:=
 ∃W:Nat->Nat->St->Hp->Prop,(∃m,W 0 m σb (upd H1 l (.lst [])))/\∀i m σ' H',W i m σ' H'->
  (J.stop i H'/\R H')\/(J.go i H'/\∀x H2,J.yld i H' x H2->g x σ' H2 λσ2 H3=>tt σ2 H3 λb H4=>if b=true
   then te σ2 H4 λv H5=>∃ys,H5 l=some (.lst ys)/\ys.length<sizeLine/\∃m',m'<m/\W (i+1) m' σ2 (upd H5 l (.lst (ys++[v])))
   else ∃m',m'<m/\W (i+1) m' σ2 H4)
noncomputable def zme (k:Nat)(js:List Nat)(wi:TI)(g:TG)(tt:TT)(te:TE):TE:=λσ H Q=>wi σ H λJ H1=>∀l,H1 l=none->zfb J g tt te l (zcf k js σ) H1 λH'=>Q (.ref l) H'
section
variable {X:Cx}{elt tg iter:Expr}{ifs:List Expr}{sc:Scope}{pos:Pos}{N:List Str}{k:Nat}{js:List Nat}{wi:TI}{g:TG}{tt:TT}{te:TE}
structure Blk (X:Cx)(N:List Str)(sc:Scope)(tg:Expr)(ifs:List Expr)(elt:Expr)(g:TG)(tt:TT)(te:TE):Prop where
 tgt:∀C cells fp s H,PG (cxB X N sc C cells fp s H) tg g
 tst:∀C cells fp s H,PTs (cxB X N sc C cells fp s H) ifs tt
 val:∀C cells fp s H,PE (cxB X N sc C cells fp s H) elt te
noncomputable def After (X:Cx)(pins:List (Addr×Obj))(σ:St)(R:Addr->Hp->Prop)(acc:Value)(C:Addr)(s':Shared):Prop:=
 ∃(l:Addr) (H':Hp) (m:Str->Option Value),acc=.ref l/\Inv X pins σ H' s'/\s'.heap.Ns C m/\FpOk X pins H' C/\R l H'
theorem zmf {pins:List (Addr×Obj)}{σ:St}{H:Hp}{s:Shared}{R:Addr->Hp->Prop}(hc:X.calm=true)(S:zbC X N k js sc)(hi:PI X tg iter wi)(B:Blk X N sc tg ifs elt g tt te)(I:Inv X pins σ H s)
  (h:wi σ H λJ H1=>∀l,H1 l=none->zfb J g tt te l (zcf k js σ) H1 (R l)) :
  wpAny (model X.prog X.w) X.A (eval iter X.env) (λx s1=>wpAny (model X.prog X.w) X.A (pyIter x) (λit s2=>wpAny (model X.prog X.w) X.A (newList []) (λacc s3=>
   wpAny (model X.prog X.w) X.A (newFunctionEnv sc X.env.globals (zaB X.env sc.names []) [] X.env.qual none .none (some X.env)) (λcenv s4=>
    codeAny (model X.prog X.w) X.A (.compStart (.ListComp elt [⟨tg,iter,ifs,0⟩] sc pos) 0 it acc { cenv with scope:=relabel sc X.env })
     (λr s'=>match r with | .ok _=>After X pins σ R acc cenv.locals s' | .error _=>False) s4) X.xe s3) X.xe s2) X.xe s1) X.xe s:=by
 refine thn (hi pins s σ H _ I h) λv s1 h1=>thn h1 λitv s2 h2=>?_;obtain⟨it,fp,tn,J,H2,e,I2,T,st2,f2,hq⟩:=h2;subst e;have hl:H2 s2.heap.objs.size=none:=I2.fresh;have fplt:∀b∈fp,b<s2.heap.objs.size:=λb hb=>by
  obtain⟨o,e,_⟩:=T.obj 0 _ st2 b hb;exact Xx e
 obtain⟨W,⟨m0,w0⟩,turn⟩:=hq _ hl;refine wpAny_newList ?_;have I3:Inv X pins σ (upd H2 s2.heap.objs.size (.lst [])) { s2 with heap:=s2.heap.push { cls:=.type "list",data:=.seq ([]:List Value).toArray } }:=I2.lnew (its:=[]) (t':=s2.toks) .nil (XX _);have u3:Un (frs X.stack) fp H2 (upd H2 s2.heap.objs.size (.lst [])) s2.heap (s2.heap.push { cls:=.type "list",data:=.seq ([]:List Value).toArray }):=Un.laid (λb o e=>Xg _ e) (Xo _) hl;have hz3:(s2.heap.push { cls:=.type "list",data:=.seq ([]:List Value).toArray }).objs.size=s2.heap.objs.size+1:=Heap.size_push ..;have kp3:∀b o,s2.heap.get? b=some o->(s2.heap.push { cls:=.type "list",data:=.seq ([]:List Value).toArray }).get? b=some o:=λb o e=>Xg _ e;have fpn:∀b∈fp,upd H2 s2.heap.objs.size (.lst []) b=none:=λb hb=>by
  rw[zah (XJ (fplt b hb))];exact(f2 b hb).1
 generalize hl0:s2.heap.objs.size=l at hl I3 u3 hz3 kp3 fpn w0 turn ⊢;rw[hl0]at fplt;generalize s2.heap.push { cls:=.type "list",data:=.seq ([]:List Value).toArray }=h3 at I3 u3 hz3 kp3 ⊢;generalize upd H2 l (.lst [])=H3 at I3 u3 fpn w0;have f3:∀b∈fp,FpOk X pins H3 b:=λb hb=>⟨fpn b hb,(f2 b hb).2⟩;have I4:=I3.block S f3 (λb hb=>by show b<h3.objs.size;rw[hz3];exact YE (fplt b hb));have kp4:∀b o,s2.heap.get? b=some o->(pushCells (h3.push { cls:=.type "dict",data:=.dict #[] }) sc.names).get? b=some o:=λb o e=>pushCells_keeps _ _ b o (Xg _ (kp3 b o e));refine zgm ?_;have st4:tn 0 (pushCells (h3.push { cls:=.type "dict",data:=.dict #[] }) sc.names):=T.keep 0 _ _ st2 λb _ o e=>kp4 b o e;have stat:∀ {H':Hp},(∀b∈fp,H' b=none)->∀b∈fp,FpOk (cxB X N sc h3.objs.size (cellsFrom (h3.objs.size+1) sc.names (zaB X.env sc.names [])) fp { s2 with heap:=h3 } H3) [] H' b:=λhn b hb=>
  ⟨hn b hb,(I4.ok.exf b hb).1,I4.ok.exfs b hb,.inl hb,(I4.ok.exf b hb).2,λp hp=>absurd (show p∈([]:List (Addr×Obj)) from hp) (by simp)⟩
 generalize hY:cxB X N sc h3.objs.size (cellsFrom (h3.objs.size+1) sc.names (zaB X.env sc.names [])) fp { s2 with heap:=h3 } H3=Y at I4 stat;have loop:codeAny (model X.prog X.w) X.A (.compLoop (.ListComp elt [⟨tg,iter,ifs,0⟩] sc pos) 0 (.ref it) (.ref l) Y.env)
   (λr s'=>match r with | .ok _=>After X pins σ R (.ref l) h3.objs.size s' | .error _=>False) { s2 with heap:=pushCells (h3.push { cls:=.type "dict",data:=.dict #[] }) sc.names }:=by
  subst hY;refine zka (λn s'=>∃i σ' H',Inv (cxB X N sc h3.objs.size (cellsFrom (h3.objs.size+1) sc.names (zaB X.env sc.names [])) fp { s2 with heap:=h3 } H3) [] σ' H' s'/\tn i s'.heap/\(∀b∈fp,H' b=none)/\W i n σ' H') ?_ m0
   ⟨0,zcf k js σ,H3,I4,st4,fpn,w0⟩
  rintro n s5 ⟨i,σ5,H5,I5,st5,fr5,w5⟩;rcases turn i n σ5 H5 w5 with ⟨stop,qn⟩ | ⟨go,step⟩
  ·refine thn (T.done (cxB X N sc h3.objs.size (cellsFrom (h3.objs.size+1) sc.names (zaB X.env sc.names [])) fp { s2 with heap:=h3 } H3) rfl rfl rfl hc i [] s5 σ5 H5 (λ_ _=>False) I5 (stat fr5) st5 stop) λr s6 q50q=>?_;obtain⟨hr,I6⟩:=q50q;subst hr;obtain⟨m6,hn6,_⟩:=id I6.loc;have IX:Inv X pins σ H5 s6:=I2.call' (ch:=fp) I6.os (u3.trans I6.base) I6.hok I6.bare λb hb=>⟨(f2 b hb).2.2.2.1,(f2 b hb).2.1,(f2 b hb).2.2.2.2.1,(f2 b hb).2.2.2.2.2⟩;exact⟨l,H5,m6,rfl,IX,hn6,I2.fpOk (by show s2.heap.objs.size<=h3.objs.size;rw[hz3,hl0];exact Nat.le_succ _) I6.free,qn⟩
  ·refine thn (T.item (cxB X N sc h3.objs.size (cellsFrom (h3.objs.size+1) sc.names (zaB X.env sc.names [])) fp { s2 with heap:=h3 } H3) rfl rfl rfl hc i [] s5 σ5 H5 (λ_ _=>False) I5 (stat fr5) st5 go) λr s6 q51q=>?_;obtain⟨u,hr,h6⟩:=q51q;subst hr;refine thn h6 λ_ s7 q52q=>?_;obtain⟨x,H7,I7,r7,y7,st7,fr7⟩:=q52q;have I7':=I7.pinned (stat fr7) (T.obj _ _ st7);refine thn (B.tgt _ _ _ _ _ _ s7 σ5 H7 x u _ I7' r7 (step x H7 y7)) λ_ s8 q53q=>?_;obtain⟨σ8,H8,I8,q8⟩:=q53q;refine thn (B.tst _ _ _ _ _ _ s8 σ8 H8 _ I8 q8) λok s9 q54q=>?_;obtain⟨H9,I9,q9⟩:=q54q;have kept:∀ {σ':St} {H':Hp} {s':Shared},Inv (cxB X N sc h3.objs.size (cellsFrom (h3.objs.size+1) sc.names (zaB X.env sc.names [])) fp { s2 with heap:=h3 } H3) ([]++zeW fp s7.heap) σ' H' s'->tn (i+1) s'.heap/\∀b∈fp,H' b=none:=λ{σ' H' s'} I'=>
    ⟨T.keep _ _ _ st7 λb hb o e=>(I'.pin (b,o) (XQ _ (XQ _ (zbo hb e)))).1,λb hb=>by
     obtain⟨o,e,_⟩:=T.obj _ _ st7 b hb;exact(I'.pin (b,o) (XQ _ (XQ _ (zbo hb e)))).2.1⟩
   cases ok with
   | false=>
    rw[if_neg Xr]at q9;rw[if_neg Xr];obtain⟨m',hm,w9⟩:=q9;exact⟨m',hm,i+1,σ8,H9,I9.zbL,(kept I9).1,(kept I9).2,w9⟩
   | true=>
    rw[if_pos rfl]at q9;rw[if_pos rfl];refine thn (B.val _ _ _ _ _ _ s9 σ8 H9 _ I9 q9) λu10 s10 q55q=>?_;obtain⟨y,H10,I10,r10,ys,hys,hlen,m',hm,w10⟩:=q55q;refine thn (zbF _ s10 σ8 H10 (.ref l) [y] (.ref l) [u10] (λ_ H'=>H'=upd H10 l (.lst (ys++[y]))) I10 rfl (.cons r10 .nil) ⟨l,ys,y,rfl,rfl,hys,hlen,rfl⟩) λ_ s11 q56q=>?_;obtain⟨_,H11,I11,_,e11⟩:=q56q;subst e11;exact⟨m',hm,i+1,σ8,_,I11.zbL,(kept I11).1,(kept I11).2,w10⟩
 subst hY;exact codeAny_compStart_list loop (T.self X.A 0 _ _ _ st4 loop)
theorem zfc {X:Cx}(S:zbC X N k js sc):∀x∈sc.names,x.2=.local->sc.names.lookup x.1=some .local:=λx hx hl=>zbM S.nm (by rw[<- hl];exact hx)
theorem zkb (hc:X.calm=true)(S:zbC X N k js sc)(hi:PI X tg iter wi)(B:Blk X N sc tg ifs elt g tt te)(hs:autoParam (∀x,foldedSetIterable iter X.env x=pure x) aU2) :
  PE X (.ListComp elt [⟨tg,iter,ifs,0⟩] sc pos) (zme k js wi g tt te):=by
 intro pins s σ H Q I h;rw[eval_ListComp];refine wpAny_comprehension_free (use:=none) rfl hs (zjZ λn hn=>I.ok.has n (S.fr n hn)) S.kind (zfc S) ?_;refine thn (zmf (pos:=pos) (R:=λl H'=>Q (.ref l) H') hc S hi B I h) λx s1 h1=>thn h1 λit s2 h2=>thn h2 λacc s3 h3=>thn h3 λcenv s4 h4=>codeAny_mono h4 λr s' hr=>?_;cases r with
 | error e=>exact False.elim hr
 | ok f=>
  obtain⟨l,H',m,rfl,I',hn,⟨f0,f1,f2,f3,f4,f5⟩,q⟩:=hr;exact⟨m,hn,λh' sb=>⟨.ref l,H',I'.turned (t':=s'.toks) (λb o hb e=>sb.extBut b o hb e) f0 f1 f3 f4 f5,rfl,q⟩⟩
end
end L2
namespace JS
open PySem
theorem zdm {α:Type}:∀ {l:List α}{i:Nat}(h:i<l.length),(l[i]::l.eraseIdx i).Perm l
 | _::_,0,_=>Yw.refl _
 | x::r,i+1,h=>by
  have ih:=zdm (l:=r) (i:=i) (by simpa using h);rw[List.eraseIdx_cons_succ];exact(Yw.swap x _ _).trans (ih.cons x)
section
variable {M:Model}{A:Around}{E:Value->Shared->Prop}{s:Shared}
theorem ziV {src:Source}{n:Nat}{Q:Nat->Shared->Prop}(hn:n≠0)(h:∀i,i<n->Q i { s with drawn:=s.drawn.bump src }):wpAny M A (choose src n) Q E s:=
 λ_ _ _=>⟨hn,h _ (Nat.mod_lt _ (Nat.pos_of_ne_zero hn))⟩
theorem zhY {α:Type}:∀(n:Nat)(xs:List α)(s:Shared)(Q:List α->Shared->Prop),xs.length<=n->(∀ys d,ys.Perm xs->Q ys { s with drawn:=d })->wpAny M A (drawOrder n xs) Q E s
 | 0,xs,s,Q,h,hq=>by
  have e:xs=[]:=Yi.mp (by lia);subst e;exact wpAny_pure (hq [] s.drawn (Yw.refl _))
 | n+1,[],s,Q,_,hq=>wpAny_pure (hq [] s.drawn (Yw.refl _))
 | n+1,x::r,s,Q,h,hq=>by
  show wpAny M A (choose .order (x::r).length >>= λi=>match (x::r)[i]? with
   | some y=>drawOrder n ((x::r).eraseIdx i) >>= λys=>pure (y::ys)
   | none=>unsupported "internal:drawOrder") Q E s
  refine wpAny_bind (ziV (by simp) λi hi=>?_);have e:(x::r)[i]? = some (x::r)[i]:=by simp[hi]
  rw[e];refine wpAny_bind (zhY n ((x::r).eraseIdx i) _ _ (by rw[List.length_eraseIdx_of_lt hi];simp at h ⊢;lia) λys d hp=>wpAny_pure (hq _ d ?_));exact(hp.cons _).trans (zdm hi)
end
theorem zkc {α:Type}(next:Nat->Nat):∀(fuel k:Nat)(left:List α)(out:Array α),left.length=fuel->(pickOrder.go next fuel k left out).toList.Perm (out.toList++left)
 | 0,k,left,out,h=>by
  have e:left=[]:=Yi.mp h;subst e;simp[pickOrder.go]
 | fuel+1,k,left,out,h=>by
  unfold pickOrder.go;have hi:next k % left.length<left.length:=Nat.mod_lt _ (by lia)
  have e:left[next k % left.length]? = some left[next k % left.length]:=by simp[hi]
  rw[e];dsimp only;refine(zkc next fuel (k+1) _ _ (by rw[List.length_eraseIdx_of_lt hi];lia)).trans ?_
  rw[Array.toList_push,Xw];exact Yw.append_left _ (zdm hi)
theorem zgn {α:Type}(next:Nat->Nat)(xs:Array α):(pickOrder next xs).toList.Perm xs.toList:=by
 unfold pickOrder;have h:=zkc next xs.size 0 xs.toList #[] (by simp)
 simpa using h
noncomputable def Asc (xs:Array Nat):Prop:=xs.toList.Pairwise (· < ·)
theorem Asc.lt {xs:Array Nat}(h:Asc xs){i j:Nat}(hij:i<j)(hj:j<xs.size):xs.getD i 0<xs.getD j 0:=by
 have q:=List.pairwise_iff_getElem.mp h i j (by simp;lia) (by simpa using hj) hij;simpa[Array.getD,hj,show i<xs.size by lia]using q
theorem zfz (xs:Array Nat)(j:Nat):∀(fuel lo hi:Nat),Asc xs->lo<=hi->hi<=xs.size->hi-lo<=fuel->(∀i,i<lo->xs.getD i 0<j)->(∀i,hi<=i->i<xs.size->¬ xs.getD i 0<j)->
  XU.go xs j fuel lo hi<=xs.size/\(∀i,i<XU.go xs j fuel lo hi->xs.getD i 0<j)/\∀i,XU.go xs j fuel lo hi<=i->i<xs.size->¬ xs.getD i 0<j
 | 0,lo,hi,ha,h1,h2,h3,h4,h5=>by
  have:lo=hi:=by lia
  subst this;exact⟨h2,h4,h5⟩
 | fuel+1,lo,hi,ha,h1,h2,h3,h4,h5=>by
  unfold XU.go;by_cases h:lo<hi
  ·rw[if_pos h];dsimp only;have hm:(lo+hi) / 2<xs.size:=by lia
   have e:xs.getD ((lo+hi) / 2) j=xs.getD ((lo+hi) / 2) 0:=by simp[Array.getD,hm]
   rw[e];by_cases hc:xs.getD ((lo+hi) / 2) 0<j
   ·rw[if_pos hc];refine zfz xs j fuel _ _ ha (by lia) h2 (by lia) (λi hi'=>?_) h5;rcases YI i ((lo+hi) / 2)with z | z
    ·exact Nat.lt_trans (ha.lt z hm) hc
    ·have:i=(lo+hi) / 2:=by lia
     rw[this];exact hc
   ·rw[if_neg hc];refine zfz xs j fuel _ _ ha (by lia) (by lia) (by lia) h4 λi hi' hs z=>hc ?_;rcases YI ((lo+hi) / 2) i with y | y
    ·exact Nat.lt_trans (ha.lt y hs) z
    ·have:i=(lo+hi) / 2:=by lia
     rw[<- this];exact z
  ·rw[if_neg h];have:lo=hi:=by lia
   subst this;exact⟨h2,h4,h5⟩
theorem zdM {xs:Array Nat}(ha:Asc xs)(j:Nat):XU xs j<=xs.size/\(∀i,i<XU xs j->xs.getD i 0<j)/\∀i,XU xs j<=i->i<xs.size->¬ xs.getD i 0<j:=
 zfz xs j xs.size 0 xs.size ha (XX _) (Xo _) (by lia) (λi h=>by lia) (λi h1 h2=>by lia)
theorem below_at {xs:Array Nat}(ha:Asc xs){i:Nat}(hi:i<=xs.size):XU xs (if i=0 then 0 else xs.getD (i-1) 0+1)=i:=by
 obtain⟨h1,h2,h3⟩:=zdM ha (if i=0 then 0 else xs.getD (i-1) 0+1)
 generalize XU xs (if i=0 then 0 else xs.getD (i-1) 0+1)=r at h1 h2 h3
 by_cases e:i=0
 ·subst e;rw[if_pos rfl]at h2;rcases Nat.eq_zero_or_pos r with z | z
  ·exact z
  ·exact absurd (h2 0 z) (by lia)
 ·rw[if_neg e]at h2 h3;rcases Nat.lt_trichotomy r i with z | z | z
  ·have q:=h3 (i-1) (by lia) (by lia);lia
  ·exact z
  ·have q1:=h2 i z;have q2:=ha.lt (show i-1<i by lia) (show i<xs.size by lia);lia
structure Rec (w:World)(h:Heap)(a:Addr)(es:Array (Int×Value))(ep:Nat)(t:SetTable):Prop where
 obj:∃o,h.get? a=some o/\o.ExactSet/\o.data=.set es ep t
 fits:t.fits es.size=true
 led:t.led=true\/w.params.followText "set-order" = true
 asc:Asc t.place
 dm:t.dummies = #[]
 sz:es.size<scanBound
theorem Rec.keep {w:World}{h h':Heap}{a:Addr}{es:Array (Int×Value)}{ep:Nat}{t:SetTable}(r:Rec w h a es ep t)(k:∀o,h.get? a=some o->h'.get? a=some o):Rec w h' a es ep t:=
 ⟨let ⟨o,e,x⟩:=r.obj;⟨o,k o e,x⟩,r.fits,r.led,r.asc,r.dm,r.sz⟩
theorem Rec.type {w:World}{s:Shared}{a:Addr}{es:Array (Int×Value)}{ep:Nat}{t:SetTable}(r:Rec w s.heap a es ep t):s.TypeIs (.ref a) "set":=
 let ⟨o,e,x,_⟩:=r.obj;⟨o,e,x.1⟩
namespace F
theorem slot_next:Slot "set_iterator" "__next__" "set_iterator.__next__":=.of (owner:="set_iterator") (n:="__next__") (by rw[typeLookup_type,builtinLookup_eq_fast];kernel_rfl) (by decide +kernel) (by decide +kernel) (by decide +kernel) (by first | exact .inl (by decide +kernel) | exact .inr (by decide +kernel)) (by rw[isSubtype_type];kernel_rfl)
theorem entry_next:entryFor table "set_iterator.__next__" = some Builtin.«set_iterator.__next__»:=entryFor_of_tree (by kernel_rfl)
theorem args_next (a:Value):argsOk "set_iterator.__next__" ⟨[a],[]⟩:=by unfold argsOk;kernel_rfl
theorem zgo:Slot "set_iterator" "__iter__" "set_iterator.__iter__":=.of (owner:="set_iterator") (n:="__iter__") (by rw[typeLookup_type,builtinLookup_eq_fast];kernel_rfl) (by decide +kernel) (by decide +kernel) (by decide +kernel) (by first | exact .inl (by decide +kernel) | exact .inr (by decide +kernel)) (by rw[isSubtype_type];kernel_rfl)
theorem ziW:entryFor table "set_iterator.__iter__" = some Builtin.«dict_keyiterator.__iter__»:=entryFor_alias (id':="dict_keyiterator.__iter__") (by kernel_rfl) rfl (by decide +kernel) (by kernel_rfl)
theorem zkd (a:Value):argsOk "set_iterator.__iter__" ⟨[a],[]⟩:=by unfold argsOk;kernel_rfl
theorem zeT:entryFor table "set.__iter__" = some Builtin.«frozenset.__iter__»:=entryFor_alias (id':="frozenset.__iter__") (by kernel_rfl) rfl (by decide +kernel) (by kernel_rfl)
end F
noncomputable abbrev byText (w:World):Bool:=w.params.followText "set-order"
noncomputable abbrev zdB (first:Value)(i n ep:Nat)(a:Addr):Obj:={ cls:=.type "set_iterator",data:=.fields #[first,.int i 0,.ref a,.int n 0,.int ep 0] }
inductive At (w:World) (h:Heap) (it a:Addr) (es:Array (Int×Value)) (ep:Nat) (t:SetTable):List Addr->List Value->Nat->Prop where
 | drawn (tp:Addr) (ps:List Nat) (i:Nat):(tp≠it)->h.get? it=some (zdB (.ref tp) i es.size ep a)->h.IsTuple tp (ps.map λ(p:Nat)=>Value.int (p:Int) 0).toArray->ps.Perm (Ya es.size)->At w h it a es ep t [tp] (ps.map λp=>(es.getD p (0,.none)).2) i
 | text (slot i:Nat):byText w=true->h.get? it=some (zdB (.int slot 0) i es.size ep a)->At w h it a es ep t [] ((pickOrder (w.params.setOrder a ep) es).toList.map (·.2)) i
 | one (slot i:Nat):byText w=false->t.led=true->(t.plain=true\/es.size<=1)->h.get? it=some (zdB (.int slot 0) i es.size ep a)->(slot=if i=0 then 0 else t.place.getD (i-1) 0+1)->At w h it a es ep t [] (es.toList.map (·.2)) i
section
variable {prog:Program}{w:World}{A:Around}{E:Value->Shared->Prop}{s:Shared}{a it:Addr}{es:Array (Int×Value)}{ep:Nat}{t:SetTable}
theorem zaF {Q:(Array (Int×Value)×Nat×SetTable)->Shared->Prop}(r:Rec w s.heap a es ep t)(h:Q (es,ep,t) s):wpAny (model prog w) A (setState a) Q E s:=by
 obtain⟨o,e,_,d⟩:=r.obj;exact wpAny_setState_of e d r.fits h
theorem zdN {slot i n:Nat}{P:PySem.Fin->Shared->Prop}{F:Value->Shared->Prop}(r:Rec w s.heap a es ep t)(ho:s.heap.get? it=some (zdB (.int slot 0) i es.size ep a))
  (h:wpAny (model prog w) A (setNext a slot i ep >>= λm=>match m with
     | some (x,next)=>setField (.ref it) 0 (rawInt next) >>= λ_=>setField (.ref it) 1 (rawInt ((i:Int)+1)) >>= λ_=>ret x
     | none=>setField (.ref it) 2 .none >>= λ_=>newExc (.type "StopIteration") [] >>= λe=>raiseNew e) P F s) :
  wpAny (model prog w) A (Builtin.«set_iterator.__next__» ⟨[.ref it],[]⟩) P F s:=by
 unfold Builtin.«set_iterator.__next__» slotArgs;simp only[List.isEmpty_nil,Bool.not_true,Xu,if_false,List.length_nil,bne_self_eq_false];refine wpAny_bind (wpAny_pure (wpAny_bind (wpAny_fieldsOf ho rfl ?_)));dsimp only;unfold setEntries;refine wpAny_bind (wpAny_bind (zaF r (wpAny_pure ?_)));simp only[bne_self_eq_false,Xu,if_false,Int.toNat_natCast];exact h
theorem zhZ {tp i n:Nat}{items:Array Value}{P:PySem.Fin->Shared->Prop}{F:Value->Shared->Prop}(r:Rec w s.heap a es ep t)(ho:s.heap.get? it=some (zdB (.ref tp) i es.size ep a))(ht:s.heap.IsTuple tp items)
  (h:wpAny (model prog w) A (match items[i]? with
      | some (.int place _)=>setNextDrawn a place.toNat ep >>= λx=>setField (.ref it) 1 (rawInt ((i:Int)+1)) >>= λ_=>ret x
      | some _=>unsupported "internal:set_iterator"
      | none=>setField (.ref it) 0 (rawInt 0) >>= λ_=>setField (.ref it) 2 .none >>= λ_=>newExc (.type "StopIteration") [] >>= λe=>raiseNew e) P F s) :
  wpAny (model prog w) A (Builtin.«set_iterator.__next__» ⟨[.ref it],[]⟩) P F s:=by
 unfold Builtin.«set_iterator.__next__» slotArgs;simp only[List.isEmpty_nil,Bool.not_true,Xu,if_false,List.length_nil,bne_self_eq_false];refine wpAny_bind (wpAny_pure (wpAny_bind (wpAny_fieldsOf ho rfl ?_)));dsimp only;unfold setEntries;refine wpAny_bind (wpAny_bind (zaF r (wpAny_pure ?_)));simp only[bne_self_eq_false,Xu,if_false,Int.toNat_natCast];obtain⟨o,ho',_,n',hd⟩:=ht;exact wpAny_bind (wpAny_seqItems ho' hd h)
theorem zdy {i:Nat}{slot:Nat}{Q:Option (Value×Nat)->Shared->Prop}(r:Rec w s.heap a es ep t)(hb:byText w=true)
  (h:Q (((pickOrder (w.params.setOrder a ep) es)[i]?).map λe=>(e.2,slot)) s):wpAny (model prog w) A (setNext a slot i ep) Q E s:=by
 have hb':w.params.followText "set-order" = true:=hb;unfold setNext setsByText;refine wpAny_bind (zaF r ?_);refine wpAny_bind (wpAny_bind (wpAny_askSetting (wpAny_pure ?_)));simp only[model,hb',if_true,bne_self_eq_false,Xu,if_false];unfold setWalk setsByText;refine wpAny_bind (wpAny_bind (zaF r ?_));refine wpAny_bind (wpAny_bind (wpAny_askSetting (wpAny_pure ?_)));simp only[model,hb',if_true];exact wpAny_bind (wpAny_askSetting (wpAny_pure (wpAny_pure h)))
theorem zej {i:Nat}{slot:Nat}{Q:Option (Value×Nat)->Shared->Prop}(r:Rec w s.heap a es ep t)(hb:byText w=false)(hl:t.led=true)(h1:t.plain=true\/es.size<=1)
  (h:Q (match es[XU t.place slot]?,t.place[XU t.place slot]? with | some (_,x),some j=>some (x,j+1) | _,_=>none) s):wpAny (model prog w) A (setNext a slot i ep) Q E s:=by
 have hb':w.params.followText "set-order" = false:=hb;unfold setNext setsByText;refine wpAny_bind (zaF r ?_);refine wpAny_bind (wpAny_bind (wpAny_askSetting (wpAny_pure ?_)));simp only[model,hb',Xu,if_false];have hd:(!t.plain&&decide (es.size > 1))=false:=by
  rcases h1 with z | z
  ·rw[z];rfl
  ·rw[decide_eq_false (by lia),Bool.and_false]
 have hm:(!t.led&&!es.isEmpty)=false:=by rw[hl];rfl
 show wpAny (model prog w) A (if (!t.plain&&decide (es.size > 1))=true then _ else((if (!t.led&&!es.isEmpty)=true then unsupported "set:maker-not-led" else pure ()) >>= λ_=>pure _)) Q E s
 rw[hd,hm];exact wpAny_bind (wpAny_pure (wpAny_pure h))
theorem ziX {p:Nat}{x:Value}{hx:Int}{Q:Value->Shared->Prop}(r:Rec w s.heap a es ep t)(hp:es[p]? = some (hx,x))(h:Q x s):wpAny (model prog w) A (setNextDrawn a p ep) Q E s:=by
 unfold setNextDrawn;refine wpAny_bind (zaF r ?_);simp only[bne_self_eq_false,Xu,if_false,hp];exact wpAny_pure h
theorem zke (hh:A.handled=none){R:Option Value->Shared->Prop}(hR:∀h',(∀b o,s.heap.get? b=some o->h'.get? b=some o)->R none { s with heap:=h' }) :
  wpAny (model prog w) A.in1 (newExc (.type "StopIteration") [] >>= λe=>(raiseNew e:Sem PySem.Fin)) (λ_ _=>False)
   (λe s'=>wpAny (model prog w) A (isInstance e (.type "StopIteration") >>= λb=>if b=true then pure none else throw e) R E s') s:=by
 refine wpAny_bind ?_;simp only[newExc,newTuple];refine wpAny_bind (wpAny_newObj_type (wpAny_bind (m:=firstArgMember _ _) (wpAny_of_eq (a:=Value.none) (by first | rfl | (simp only[firstArgMember];rfl)) (wpAny_newObj_type ?_ (by size_fits)))) (by size_fits))
 simp only[raiseNew];refine wpAny_bind (wpAny_handled ?_);rw[show A.in1.handled=none from hh];refine wpAny_bind (wpAny_pure (wpAny_throw ?_));refine wpAny_bind (wpAny_isInstance (T:="StopIteration") (b:=true) ⟨_,XG _ rfl,rfl⟩ isSubtype_stop ?_);exact wpAny_pure (hR _ λb o e=>Xg _ (Xg _ e))
theorem zbH {first:Value}{i n:Nat}{Q:Option Value->Shared->Prop}(ho:s.heap.get? it=some (zdB first i n ep a))
  (h:wpAny (model prog w) A.in1 (Builtin.«set_iterator.__next__» ⟨[.ref it],[]⟩) (λfin s'=>∃u,fin=.done (.ret u)/\Q (some u) s')
   (λe s'=>wpAny (model prog w) A (isInstance e (.type "StopIteration") >>= λb=>if b=true then pure none else throw e) Q E s') s):wpAny (model prog w) A (pyNext (.ref it)) Q E s:=by
 have hT:s.TypeIs (.ref it) "set_iterator":=⟨_,ho,rfl⟩;unfold pyNext;refine wpAny_bind (wpAny_attempt (wpAny_callSpecial?_slot (name:=Str.ofString "__next__") hT F.slot_next (wpAny_call_entry F.slot_next hT F.entry_next ?_ (F.args_next _))));exact wpAny_mono h (λfin s' q57q=>by obtain⟨u,e,q⟩:=q57q;exact⟨u,e,wpAny_pure q⟩) λ_ _ z=>z
theorem next_item {tq:List Addr}{order:List Value}{i:Nat}{v:Value}{Q:Option Value->Shared->Prop}(r:Rec w s.heap a es ep t)(x:At w s.heap it a es ep t tq order i)(hv:order[i]? = some v)
  (hQ:∀h',At w h' it a es ep t tq order (i+1)->Yz it s.heap h'->Q (some v) { s with heap:=h' }):wpAny (model prog w) A (pyNext (.ref it)) Q E s:=by
 have hc:((i:Int)+1)=((i+1:Nat):Int):=by lia
 cases x with
 | drawn tp ps _ hne ho ht hp=>
  refine zbH ho (zhZ (n:=0) r ho ht ?_);rw[Xk]at hv;cases hpi:ps[i]? with
  | none=>rw[hpi]at hv;cases hv
  | some p=>
   rw[hpi]at hv;have hlt:p<es.size:=Ye.mp (hp.mem_iff.mp (Xl hpi));have e1:(ps.map λ(p:Nat)=>Value.int (p:Int) 0).toArray[i]? = some (Value.int (p:Int) 0):=by simp[hpi]
   rw[e1];dsimp only;have e2:es[p]? = some (es[p].1,es[p].2):=by simp[hlt]
   have e3:v=es[p].2:=by
    have q:=Option.some.inj hv;rw[<- q];simp[Array.getD,hlt]
   rw[Int.toNat_natCast];refine wpAny_bind (ziX r e2 (wpAny_bind (wpAny_setField ho rfl (by show 1<5;decide) (wpAny_pure ⟨_,rfl,?_⟩))));rw[<- e3];refine hQ _ (.drawn tp ps (i+1) hne ?_ ?_ hp) (Yz.update ..)
   ·rw[hc];exact Yc _ ho rfl
   ·obtain⟨o,q,c⟩:=ht;exact⟨o,(Yb _ _ (Ne.symm hne)).trans q,c⟩
 | text slot _ hb ho=>
  refine zbH ho (zdN (n:=0) r ho (wpAny_bind (zdy r hb ?_)));rw[Xk]at hv;cases hpi:(pickOrder (w.params.setOrder a ep) es).toList[i]? with
  | none=>rw[hpi]at hv;cases hv
  | some p=>
   rw[hpi]at hv;have e1:(pickOrder (w.params.setOrder a ep) es)[i]? = some p:=by rw[<- Xn];exact hpi
   have e3:p.2=v:=Option.some.inj hv;rw[e1];dsimp only[Option.map];rw[e3];have ho1:(s.heap.update it (Obj.mapFields (·.setIfInBounds 0 (rawInt slot)))).get? it=some (zdB (.int slot 0) i es.size ep a):=Yc _ ho rfl;refine wpAny_bind (wpAny_setField ho rfl (by show 0<5;decide) (wpAny_bind (wpAny_setField ho1 rfl (by show 1<5;decide) (wpAny_pure ⟨_,rfl,?_⟩))));refine hQ _ (.text slot (i+1) hb ?_) ((Yz.update ..).trans (Yz.update ..));rw[hc];exact Yc _ ho1 rfl
 | one slot _ hb hl h1 ho h0=>
  refine zbH ho (zdN (n:=0) r ho (wpAny_bind (zej r hb hl h1 ?_)));have hi:i<es.size:=by
   have q:=(Xj.mp hv).1;simpa using q
  have hps:t.place.size=es.size:=by
   have q:=r.fits;simp only[SetTable.fits,Yr,beq_iff_eq]at q;exact q.1
  have e0:XU t.place slot=i:=by rw[h0];exact below_at r.asc (by lia)
  have e1:es[i]? = some (es[i].1,es[i].2):=by simp[hi]
  have e3:es[i].2=v:=by
   rw[Xk]at hv;have q:es.toList[i]? = some es[i]:=by simp[hi]
   rw[q]at hv;exact Option.some.inj hv
  have hip:i<t.place.size:=by lia
  obtain⟨pl,hpl⟩:∃pl,t.place[i]? = some pl:=⟨t.place[i],getElem?_pos t.place i hip⟩;have hpd:t.place.getD i 0=pl:=by
   rw[getElem?_pos t.place i hip]at hpl;simp only[Array.getD,hip,dif_pos];exact Option.some.inj hpl
  rw[e0,e1,hpl];dsimp only;rw[e3];have ho1:(s.heap.update it (Obj.mapFields (·.setIfInBounds 0 (rawInt ((pl+1:Nat):Int))))).get? it=some (zdB (.int ((pl+1:Nat):Int) 0) i es.size ep a):=Yc _ ho rfl;refine wpAny_bind (wpAny_setField ho rfl (by show 0<5;decide) (wpAny_bind (wpAny_setField ho1 rfl (by show 1<5;decide) (wpAny_pure ⟨_,rfl,?_⟩))));refine hQ _ (.one (pl+1) (i+1) hb hl h1 ?_ (by rw[if_neg (by lia),Nat.add_sub_cancel,hpd])) ((Yz.update ..).trans (Yz.update ..));rw[hc];exact Yc _ ho1 rfl
theorem zkf {tq:List Addr}{order:List Value}{Q:Option Value->Shared->Prop}(hh:A.handled=none)(r:Rec w s.heap a es ep t)(x:At w s.heap it a es ep t tq order es.size)
  (hQ:∀h',(∀b o,b≠it->s.heap.get? b=some o->h'.get? b=some o)->Q none { s with heap:=h' }):wpAny (model prog w) A (pyNext (.ref it)) Q E s:=by
 have up:∀(k:Nat) (y:Value) (h:Heap) (b:Addr) (o:Obj),b≠it->h.get? b=some o->(h.update it (Obj.mapFields (·.setIfInBounds k y))).get? b=some o:=λk y h b o hb e=>(Yb _ _ (Ne.symm hb)).trans e;have two:∀(slot i:Nat),s.heap.get? it=some (zdB (.int slot 0) i es.size ep a)->wpAny (model prog w) A.in1 (setField (.ref it) 2 .none >>= λ_=>newExc (.type "StopIteration") [] >>= λe=>(raiseNew e:Sem PySem.Fin))
   (λfin s'=>∃u,fin=.done (.ret u)/\Q (some u) s') (λe s'=>wpAny (model prog w) A (isInstance e (.type "StopIteration") >>= λb=>if b=true then pure none else throw e) Q E s') s:=λslot i ho=>by
  refine wpAny_bind (wpAny_setField ho rfl (by show 2<5;decide) ?_);exact wpAny_mono (zke (E:=E) (R:=Q) hh λh' k=>hQ h' λb o hb e=>k b o (up _ _ _ b o hb e)) (λ_ _ z=>z.elim) λ_ _ z=>z
 cases x with
 | drawn tp ps _ hne ho ht hp=>
  refine zbH ho (zhZ (n:=0) r ho ht ?_);have e1:(ps.map λ(p:Nat)=>Value.int (p:Int) 0).toArray[es.size]? = none:=by
   have q:=hp.length_eq;rw[YO]at q;simp[q]
  rw[e1];dsimp only;have ho1:(s.heap.update it (Obj.mapFields (·.setIfInBounds 0 (rawInt 0)))).get? it=some (zdB (.int ((0:Nat):Int) 0) es.size es.size ep a):=Yc _ ho rfl;refine wpAny_bind (wpAny_setField ho rfl (by show 0<5;decide) (wpAny_bind (wpAny_setField ho1 rfl (by show 2<5;decide) ?_)));exact wpAny_mono (zke (E:=E) (R:=Q) hh λh' k=>hQ h' λb o hb e=>k b o (up _ _ _ b o hb (up _ _ _ b o hb e))) (λ_ _ z=>z.elim) λ_ _ z=>z
 | text slot _ hb ho=>
  refine zbH ho (zdN (n:=0) r ho (wpAny_bind (zdy r hb ?_)));have q:=(zgn (w.params.setOrder a ep) es).length_eq;have e1:(pickOrder (w.params.setOrder a ep) es)[es.size]? = none:=by
   simp only[Xp]at q;simp[q]
  rw[e1];dsimp only[Option.map];exact two slot _ ho
 | one slot _ hb hl h1 ho h0=>
  refine zbH ho (zdN (n:=0) r ho (wpAny_bind (zej r hb hl h1 ?_)));have hps:t.place.size=es.size:=by
   have q:=r.fits;simp only[SetTable.fits,Yr,beq_iff_eq]at q;exact q.1
  have e0:es[XU t.place slot]? = none:=by
   rw[h0,below_at r.asc (by lia)];simp
  rw[e0];dsimp only;exact two slot _ ho
theorem zkg {Q:Bool->Shared->Prop}(r:Rec w s.heap a es ep t)(h:Q (!byText w&&(!t.plain&&decide (es.size > 1))) s):wpAny (model prog w) A (setDrawn a) Q E s:=by
 unfold setDrawn setsByText;refine wpAny_bind (zaF r ?_);exact wpAny_bind (wpAny_bind (wpAny_askSetting (wpAny_pure (wpAny_pure h))))
theorem At.keep {h h':Heap}{tq:List Addr}{order:List Value}{i:Nat}(x:At w h it a es ep t tq order i)(k:∀b∈it::tq,∀o,h.get? b=some o->h'.get? b=some o):At w h' it a es ep t tq order i:=by
 cases x with
 | drawn tp ps _ hne ho ht hp=>
  obtain⟨o,q,c⟩:=ht;exact .drawn tp ps i hne (k it (by simp) _ ho) ⟨o,k tp (by simp) o q,c⟩ hp
 | text slot _ hb ho=>exact .text slot i hb (k it (by simp) _ ho)
 | one slot _ hb hl h1 ho h0=>exact .one slot i hb hl h1 (k it (by simp) _ ho) h0
theorem At.len {h:Heap}{tq:List Addr}{order:List Value}{i:Nat}(x:At w h it a es ep t tq order i):order.Perm (es.toList.map (·.2)):=by
 cases x with
 | drawn tp ps _ hne ho ht hp=>
  have e:(Ya es.size).map (λp=>(es.getD p (0,Value.none)).2)=es.toList.map (·.2):=by
   apply List.ext_getElem
   ·simp
   ·intro j h1 h2;simp at h1;simp[Array.getD,h1]
  rw[<- e];exact hp.map _
 | text slot _ hb ho=>exact(zgn _ _).map _
 | one slot _ hb hl h1 ho h0=>exact Yw.refl _
theorem zmg {Q:Value->Shared->Prop}(r:Rec w s.heap a es ep t)
  (h:∀(h':Heap) (d:Drawn) (it:Addr) (tq:List Addr) (order:List Value),(∀b o,s.heap.get? b=some o->h'.get? b=some o)->s.heap.objs.size<=it->(∀b∈it::tq,s.heap.objs.size<=b/\b<h'.objs.size)->At w h' it a es ep t tq order 0->
   Q (.ref it) { s with heap:=h',drawn:=d }):wpAny (model prog w) A (pyIter (.ref a)) Q E s:=by
 refine wpAny_pyIter_slot r.type PySem.F.slot_set_iter (wpAny_call_entry PySem.F.slot_set_iter r.type F.zeT ?_ (PySem.F.args_set_iter_1 _));unfold Builtin.«frozenset.__iter__» Builtin.Frozenset.slot0 slotArgs;simp only[List.isEmpty_nil,Bool.not_true,Xu,if_false,List.length_nil,bne_self_eq_false,bind_assoc];unfold Builtin.Frozenset.addrOf Builtin.Frozenset.sizeOf setEntries setEpoch;refine wpAny_bind (wpAny_pure ?_);dsimp only;refine wpAny_bind (wpAny_pure ?_);simp only[bind_assoc];refine wpAny_bind (zaF r (wpAny_bind (wpAny_pure (wpAny_bind (wpAny_pure (wpAny_bind (zkg r ?_)))))));cases hd:(!byText w&&(!t.plain&&decide (es.size > 1)))with
 | true=>
  simp only[Yr,Bool.not_eq_true',decide_eq_true_eq]at hd;simp only[if_true,bind_assoc];refine wpAny_bind (zhY es.size (Ya es.size) _ _ (by simp) λps d hp=>?_);refine wpAny_bind (wpAny_newTuple ?_ (by rw[Xc,hp.length_eq,YO];exact fits_of_scanBound r.sz));dsimp only;have hz:(s.heap.push { cls:=.type "tuple",data:=.seq (ps.map λ(i:Nat)=>rawInt (i:Int)).toArray }).objs.size=s.heap.objs.size+1:=Heap.size_push ..;have r1:Rec w (s.heap.push { cls:=.type "tuple",data:=.seq (ps.map λ(i:Nat)=>rawInt (i:Int)).toArray }) a es ep t:=r.keep λo e=>Xg _ e;refine wpAny_bind (zaF (s:={ s with heap:=s.heap.push { cls:=.type "tuple",data:=.seq (ps.map λ(i:Nat)=>rawInt (i:Int)).toArray },drawn:=d }) r1 (wpAny_bind (wpAny_pure (wpAny_bind (wpAny_newObj_type (wpAny_pure ?_))))));refine⟨_,rfl,"set_iterator",_,⟨_,XG _ rfl,rfl⟩,F.slot_next.lookup,?_⟩;refine h _ d _ [s.heap.objs.size] _ (λb o e=>Xg _ (Xg _ e)) (by rw[hz];exact Nat.le_succ _) (λb hb=>?_)
   (.drawn s.heap.objs.size ps 0 (by rw[hz];exact XJ (Nat.lt_succ_self _)) (XG _ rfl) ⟨_,Xg _ (XG _ rfl),rfl,_,rfl⟩ hp)
  rw[Heap.size_push,hz];rcases Xv.mp hb with e | hb
  ·rw[hz]at e;rw[e];exact⟨Nat.le_succ _,Nat.lt_succ_self _⟩
  ·have e:=Xs.mp hb;rw[e];exact⟨Xo _,YE (Nat.lt_succ_self _)⟩
 | false=>
  simp only[Xu,if_false];refine wpAny_bind (wpAny_pure (wpAny_bind (zaF r (wpAny_bind (wpAny_pure (wpAny_bind (wpAny_newObj_type (wpAny_pure ?_))))))));refine⟨_,rfl,"set_iterator",_,⟨_,XG _ rfl,rfl⟩,F.slot_next.lookup,?_⟩;have fin:∀order,At w (s.heap.push (zdB (.int ((0:Nat):Int) 0) 0 es.size ep a)) s.heap.objs.size a es ep t [] order 0->Q (.ref s.heap.objs.size) { s with heap:=s.heap.push (zdB (.int ((0:Nat):Int) 0) 0 es.size ep a) }:=λorder x=>
   h _ s.drawn _ [] order (λb o e=>Xg _ e) (Xo _) (λb hb=>by
    have e:b=s.heap.objs.size:=by simpa using hb
    subst e;rw[Heap.size_push];exact⟨Xo _,Nat.lt_succ_self _⟩) x
  cases hb:byText w with
  | true=>exact fin _ (.text 0 0 hb (XG _ rfl))
  | false=>
   rw[hb]at hd;have hl:t.led=true:=by
    rcases r.led with z | z
    ·exact z
    ·have z':byText w=true:=z;rw[hb]at z';cases z'
   have h1:t.plain=true\/es.size<=1:=by
    cases hp:t.plain with
    | true=>exact .inl rfl
    | false=>
     rw[hp]at hd;simp only[Bool.not_false,Bool.true_and,decide_eq_false_iff_not]at hd;exact .inr (by lia)
   exact fin _ (.one 0 0 hb hl h1 (XG _ rfl) rfl)
theorem walks {tq:List Addr}{order:List Value}(hh:A.handled=none)(hta:a∉it::tq)(h0:order.length=es.size) :
  WalksS prog w A it (it::a::tq) [it] (λx y=>y=x) es.size (λi v=>order[i]? = some v) (λi s=>Rec w s.heap a es ep t/\At w s.heap it a es ep t tq order i) where
 sub:=λb hb=>by
  have e:b=it:=by simpa using hb
  subst e;exact Xi
 grefl:=λ_=>rfl
 gtrans:=λ_ _ _ h1 h2=>h2.trans h1
 frame:=λi s h' tk st _ k=>⟨st.1.keep λo e=>k a (by simp) o e,st.2.keep λb hb o e=>k b (by
  rcases Xv.mp hb with z | z
  ·subst z;exact Xi
  ·exact Xe _ (Xe _ z)) o e⟩
 item:=λi s Q E hi st hQ=>by
  have hv:order[i]? = some (order[i]'(by lia)):=by simp
  refine next_item st.1 st.2 hv λh' x sb=>?_;have ne:a≠it:=λz=>hta (by rw[z];exact Xi);exact hQ _ _ hv ⟨st.1.keep λo e=>(sb.2 a ne).trans e,x⟩ ⟨λb o hb e=>(sb.2 b (λz=>hb (by simp[z]))).trans e,rfl,rfl,rfl,Xo _⟩
 done:=λs Q E st hQ=>zkf hh st.1 st.2 λh' k=>hQ _ ⟨λb o hb e=>k b o (λz=>hb (by simp[z])) e,rfl,rfl,rfl,Xo _⟩
 self:=λi s Q E st hQ=>by
  have hT:s.TypeIs (.ref it) "set_iterator":=by
   rcases st.2 with ⟨tp,ps,_,_,ho,_⟩ | ⟨slot,_,_,ho⟩ | ⟨slot,_,_,_,_,ho,_⟩
   ·exact⟨_,ho,rfl⟩
   ·exact⟨_,ho,rfl⟩
   ·exact⟨_,ho,rfl⟩
  refine wpAny_pyIter_slot hT F.zgo (wpAny_call_entry F.zgo hT F.ziW ?_ (F.zkd _));show wpAny _ _ (ret (.ref it)) _ _ s;exact wpAny_pure ⟨_,rfl,"set_iterator",_,hT,F.slot_next.lookup,hQ⟩
theorem zhh {Q:List Value->Shared->Prop}(hh:A.handled=none)(r:Rec w s.heap a es ep t)
  (h:∀(h':Heap) (d:Drawn) (tk:Nat) (order:List Value),order.Perm (es.toList.map (·.2))->(∀b o,s.heap.get? b=some o->h'.get? b=some o)->Q order { s with heap:=h',drawn:=d,toks:=tk }):wpAny (model prog w) A (collect (.ref a)) Q E s:=by
 unfold collect;refine wpAny_bind (wpAny_runValue (codeAny_builtin PySem.F.entry_proto_collect ?_));rw[Around.under_plainId PySem.F.plain_proto_collect _];show wpAny _ A.in1 (newList [] >>= λl=>again (.builtin "list.__iadd__" ⟨[l,.ref a],[]⟩)) _ _ s;refine wpAny_bind (wpAny_newList (wpAny_pure ⟨plainId_quiet PySem.F.plain_list_iadd _,codeAny_builtin PySem.F.entry_list_iadd ?_⟩));rw[Around.under_plainId PySem.F.plain_list_iadd _];have hS0:(s.heap.push { cls:=.type "list",data:=.seq ([]:List Value).toArray }).get? s.heap.objs.size=some { cls:=.type "list",data:=.seq ([]:List Value).toArray }:=XG _ rfl;have hz0:(s.heap.push { cls:=.type "list",data:=.seq ([]:List Value).toArray }).objs.size=s.heap.objs.size+1:=Heap.size_push ..;have r0:Rec w (s.heap.push { cls:=.type "list",data:=.seq ([]:List Value).toArray }) a es ep t:=r.keep λo e=>Xg _ e;have haS:a<s.heap.objs.size:=by obtain⟨o,e,_⟩:=r.obj;exact Xx e
 show wpAny _ A.in1 (Builtin.List.listExtendWith (.ref s.heap.objs.size) (.ref a) (.ref s.heap.objs.size)) _ _ { s with heap:=s.heap.push { cls:=.type "list",data:=.seq ([]:List Value).toArray } };unfold Builtin.List.listExtendWith;refine wpAny_bind (wpAny_typeOf (T:="set") r0.type ?_);have h1:Builtin.List.listSameRef (.ref s.heap.objs.size) (.ref a)=false:=by simp[Builtin.List.listSameRef,Nat.ne_of_gt haS]
 have h2:(Value.type "set" == Value.type "list")=false:=by decide
 have h3:(Value.type "set" == Value.type "tuple")=false:=by decide
 simp only[h1,h2,h3,Bool.or_false,Xu,if_false];refine wpAny_bind (zmg (s:={ s with heap:=s.heap.push { cls:=.type "list",data:=.seq ([]:List Value).toArray } }) r0 λh' d it tq order kp hit hfp x=>?_);have rT:Shared.TypeIs { s with heap:=h',drawn:=d } (.ref a) "set":=(r0.keep λo e=>kp a o e).type;have room:∀ {Q':Bool->Shared->Prop} {A':Around} {E':Value->Shared->Prop},Q' false { s with heap:=h',drawn:=d }->wpAny (model prog w) A' (Builtin.List.listLengthHint (.ref a)) Q' E' { s with heap:=h',drawn:=d }:=λ{Q' A' E'} hq=>by
  unfold Builtin.List.listLengthHint;refine wpAny_bind (wpAny_specialOf rT PySem.F.slot_set_len.lookup ?_);generalize hid:("set.__len__" : String)=id0;wp_delta;rw[show splitId id0=some ("set","__len__") from by subst hid;decide +kernel];subst hid;refine wpAny_bind (wpAny_isInstance (T:="set") (b:=true) rT (by rw[isSubtype_type];kernel_rfl) ?_);refine wpAny_ite_split (λhab=>absurd hab (by decide)) (λ_=>wpAny_ite_split (λ_=>?_) (λhab=>absurd (by decide +kernel) hab));exact wpAny_bind (wpAny_typeOf rT (wpAny_pure hq))
 refine wpAny_bind (wpAny_holding (room ?_));show wpAny _ A.in1 (rule "list.extend.makes-room" >>= λ_=>Builtin.List.listTouch (.ref s.heap.objs.size) >>= λ_=>again (.builtin "list.extend.loop" ⟨[.ref s.heap.objs.size,.ref it,.ref s.heap.objs.size],[]⟩)) _ _ { s with heap:=h',drawn:=d };refine wpAny_bind (wpAny_rule ?_);have hS1:h'.get? s.heap.objs.size=some { cls:=.type "list",data:=.seq ([]:List Value).toArray }:=kp _ _ hS0;refine wpAny_bind ?_;show wpAny _ A.in1 (updateSeq s.heap.objs.size (·.push .none) >>= λ_=>updateSeq s.heap.objs.size (·.pop)) _ _ { s with heap:=h',drawn:=d };refine wpAny_bind (wpAny_updateSeq hS1 rfl ?_);have hS2:=Yc (Obj.mapSeq (·.push Value.none)) hS1 rfl;refine wpAny_updateSeq hS2 rfl ?_;have hS3:=Yc (Obj.mapSeq (·.pop)) hS2 rfl;have oth:∀b o,b≠s.heap.objs.size->h'.get? b=some o->((h'.update s.heap.objs.size (Obj.mapSeq (·.push Value.none))).update s.heap.objs.size (Obj.mapSeq (·.pop))).get? b=some o:=
  λb o hb e=>(Yb _ _ (Ne.symm hb)).trans ((Yb _ _ (Ne.symm hb)).trans e)
 have hlow:∀b∈it::tq,s.heap.objs.size<b:=λb hb=>by
  have q:=(hfp b hb).1;dsimp only at q;rw[hz0]at q;exact q
 have hta:a∉it::tq:=λz=>Nat.lt_asymm haS (hlow a z);have hSf:s.heap.objs.size∉it::a::tq:=λz=>by
  rcases Xv.mp z with e | z
  ·exact absurd (hlow it Xi) (by rw[<- e];exact Yy _)
  ·rcases Xv.mp z with e | z
   ·exact absurd haS (by rw[<- e];exact Yy _)
   ·exact absurd (hlow _ (Xe _ z)) (Yy _)
 have W:=walks (prog:=prog) (w:=w) (A:=A.in1) (it:=it) (a:=a) (es:=es) (ep:=ep) (t:=t) (tq:=tq) (order:=order) (by simpa using hh) hta (by rw[x.len.length_eq];simp);refine wpAny_pure ⟨plainId_quiet PySem.F.plain_extend_loop _,codeAny_extend_loopS W (fits_of_scanBound r.sz) _ hSf _ es.size 0 _ _ _ rfl (XX _) ⟨(r0.keep λo e=>kp a o e).keep λo e=>oth a o (XJ haS) e,x.keep λb hb o e=>oth b o (Nat.ne_of_gt (hlow b hb)) e⟩ hS3 (ItemsOf.nil _) λs' acc' c' hm hS' hacc=>?_⟩;show wpAny _ A (load s.heap.objs.size >>= _) _ _ s';refine wpAny_bind (wpAny_load hS' (wpAny_pure ?_));have eacc:acc'.toList=order:=by
  apply List.ext_getElem?;intro j;by_cases hj:j<es.size
  ·have q1:acc'[j]? = some (acc'[j]'(by rw[hacc.1];exact hj)):=by simp[hacc.1,hj]
   have q2:=hacc.2 j _ q1;rw[q2,<- q1];simp
  ·have q1:acc'.toList[j]? = none:=by simp[hacc.1];lia
   have q3:order.length=es.size:=by rw[x.len.length_eq];simp
   have q2:order[j]? = none:=by simp[q3];lia
   rw[q1,q2]
 rw[eacc];obtain⟨h2',g2,d2,t2,o2⟩:=s';have e1:g2=s.gens:=hm.gens;have e2:d2=d:=hm.drawn;have e3:o2=s.os:=hm.os;subst e1 e2 e3;refine h h2' d2 t2 order x.len λb o e=>?_;have hb:b<s.heap.objs.size:=Xx e;refine hm.heap b o (λz=>?_) (oth b o (XJ hb) (kp b o (Xg _ e)));rcases Xv.mp z with q | q
 ·exact XJ hb q
 ·have q':b=it:=by simpa using q
  exact absurd (hlow it Xi) (by rw[<- q'];exact Nat.lt_asymm hb)
end
open PySem PySem.Spec PyProof.Rows
theorem ziY {xs:Array Nat}(ha:Asc xs){j:Nat}(hn:¬ (xs[XU xs j]? == some j)=true):Asc (XZ xs (XU xs j) j):=by
 obtain⟨h1,h2,h3⟩:=zdM ha j;generalize XU xs j=r at h1 h2 h3 hn;have hnot:∀i,r<=i->i<xs.size->j<xs.getD i 0:=λi g1 g2=>by
  have q:=h3 r (Xo _) (by lia);have q2:xs.getD r 0≠j:=λe=>by
   have hr:r<xs.size:=by lia
   have e2:xs[r]=j:=by simpa[Array.getD,hr]using e
   exact hn (by rw[getElem?_pos xs r hr,e2];simp)
  rcases YI r i with z | z
  ·have:=ha.lt z g2;lia
  ·have:i=r:=by lia
   subst this;lia
 have hl:(XZ xs r j).toList=xs.toList.take r++[j]++xs.toList.drop r:=by
  unfold XZ;simp[Array.toList_extract,YB,XR]
 unfold Asc;rw[hl,XF,XF];refine⟨⟨List.Pairwise.sublist (List.take_sublist _ _) ha,by simp,λa hm b hb=>?_⟩,List.Pairwise.sublist (List.drop_sublist _ _) ha,λa hm b hb=>?_⟩
 ·rw[Xs.mp hb];obtain⟨i,hi,rfl⟩:=List.mem_iff_getElem.mp hm;rw[XC]at hi;rw[List.getElem_take];have q:=h2 i (by lia);simpa[Array.getD,show i<xs.size by lia]using q
 ·obtain⟨i,hi,rfl⟩:=List.mem_iff_getElem.mp hb;rw[List.length_drop,Xp]at hi;rw[List.getElem_drop];have q:=hnot (r+i) (by lia) (by lia);have q:j<xs.toList[r+i]'(by simp;lia):=by simpa[Array.getD,show r+i<xs.size by lia]using q
  rcases XA.mp hm with hm | hm
  ·obtain⟨k,hk,rfl⟩:=List.mem_iff_getElem.mp hm;rw[XC]at hk;rw[List.getElem_take];have q2:=h2 k (by lia);have q2:xs.toList[k]'(by simp;lia)<j:=by simpa[Array.getD,show k<xs.size by lia]using q2
   lia
  ·rw[Xs.mp hm];exact q
theorem ziZ {t t':SetTable}{hs:Array Int}{n:Nat}{o:Array Nat}(h:t.relaid hs n=some (t',o)):Asc t'.place/\t'.dummies = #[]:=by
 unfold SetTable.relaid SetTable.laid at h;cases e:SetTable.layClean (SetTable.sizeAbove n-1) hs with
 | none=>rw[e]at h;cases h
 | some ow=>
  rw[e]at h;have q:=Option.some.inj h;rw[<- (Prod.mk.inj q).1];refine⟨?_,rfl⟩;unfold Asc;dsimp only;rw[YQ,List.pairwise_filterMap];refine List.pairwise_lt_range.imp λ{a b} hab p hp q hq=>?_;cases ha:ow.getD a none with
  | none=>rw[ha]at hp;cases hp
  | some x=>
   cases hb:ow.getD b none with
   | none=>rw[hb]at hq;cases hq
   | some y=>rw[ha]at hp;rw[hb]at hq;cases hp;cases hq;exact hab
section
variable {α:Type} [DecidableEq α] {prog:Program}{w:World}{A:Around}{E:Value->Shared->Prop}{s:Shared}{a:Addr}{knd:PySem.KeyKind prog w α}{of:Value->α}
theorem zkh {h:Heap}{es es':Array (Int×Value)}{ep:Nat}{t t':SetTable}(r:Rec w h a es ep t)(hf:t'.fits es'.size=true)(hl:t'.led=t.led)(hp:Asc t'.place/\t'.dummies = #[])(hz:es'.size<scanBound) :
  Rec w (h.update a (Obj.putSet es' t')) a es' (ep+1) t':=by
 obtain⟨o,ho,hex,hd⟩:=r.obj;have hg:(h.update a (Obj.putSet es' t')).get? a=some { o with data:=.set es' (ep+1) t' }:=by
  have q:=Yc (Obj.putSet es' t') ho (by rw[putSet_of es' t' hd];rfl)
  rwa [putSet_of es' t' hd]at q
 exact⟨⟨_,hg,hex,rfl⟩,hf,by rw[hl];exact r.led,hp.1,hp.2,hz⟩
theorem zgp {es es':Array (Int×Value)}{ep:Nat}{t t':SetTable}{Q:Unit->Shared->Prop}(r:Rec w s.heap a es ep t)(hz:es'.size<scanBound)(h:Q () { s with heap:=s.heap.update a (Obj.putSet es' t') }):wpAny (model prog w) A (storeSet a es' t') Q E s:=by
 obtain⟨o,ho,_,hd⟩:=r.obj;exact wpAny_storeSet_of ho hd h (fits_of_scanBound hz)
end
noncomputable abbrev zbh (w:World):Obj:={ cls:=.type "set",dict:=none,data:=.set #[] 0 (.fresh 0 0 (!byText w)) }
section
variable {prog:Program}{w:World}{A:Around}{E:Value->Shared->Prop}{s:Shared}
theorem zoi (x:Value){Q₁:Value->Shared->Prop}(h:Q₁ (.ref s.heap.objs.size) { s with heap:=s.heap.push (zbh w) }) :
  codeAny (model prog w) A (.call (.builtin "set.__new__") ⟨[.type "set",x],[]⟩) (wants Q₁ E) s:=by
 refine codeAny_of_tree ?_;show wpAny _ A.in1 (do checkBuiltinCall "set.__new__" ⟨[.type "set",x],[]⟩;again (.builtin "set.__new__" ⟨[.type "set",x],[]⟩)) _ _ s
 refine wpAny_bind (wpAny_of_eq (PySem.F.newCall_set_1 x) (wpAny_pure ⟨plainId_quiet PySem.F.plain_set_new _,codeAny_builtin PySem.F.entry_set_new ?_⟩));rw[Around.under_plainId PySem.F.plain_set_new _];unfold Builtin.«set.__new__» Builtin.Frozenset.newClass;have hsub:=sub_set_self;obtain⟨hp,g,d,tk,os⟩:=s;dsimp only
 wp_walk
 refine wpAny_askSetting (wpAny_pure ?_);dsimp only;simp only[newObj];exact wpAny_bind (wpAny_alloc (wpAny_pure (wpAny_pure h)))
theorem zki {l:Addr}{items:Array Value}{SP:Heap->Addr->Prop}{Q:Value->Shared->Prop}(hh:A.handled=none)(hl:s.heap.IsList l items)
  (loop:∀ {A':Around} {R:Result->Shared->Prop} {I:Addr} {fp wr:List Addr} {G:Array GenState->Array GenState->Prop} {P:Nat->Value->Prop} {St:Nat->Shared->Prop} (W:WalksS prog w A'.in1 I fp wr G items.size P St) (S:Addr),A'.units<=A.units+8->S∉fp->(∀i v,P i v->items[i]? = some v)->(∀b,b<s.heap.objs.size->b∉S::wr)->∀s1:Shared,(∀b o,s.heap.get? b=some o->s1.heap.get? b=some o)->St 0 s1->s1.heap.get? S=some (zbh w)->(∀s',Moved (S::wr) G s1 s'->SP s'.heap S->R (.ok (.ret .none)) s')->
   codeAny (model prog w) A' (.builtin "set.update.loop" ⟨[.ref S,.ref I],[]⟩) R s1)
  (h:∀(h':Heap) (tk:Nat),SP h' s.heap.objs.size->(∀b o,s.heap.get? b=some o->h'.get? b=some o)->Q (.ref s.heap.objs.size) { s with heap:=h',toks:=tk }) :
  wpAny (model prog w) A (call (.type "set") [.ref l]) Q E s:=by
 obtain⟨c,tl,hmro⟩:=PySem.F.called_set.mro;have hmade:=PySem.F.called_set.made;have hsub:=PySem.F.called_set.sub;refine wpAny_call (codeAny_of_tree ?_);show wpAny _ _ (callAny (.type "set") _) _ _ _;refine wpAny_pure ⟨Code.quiet_builtin _ (by decide +kernel),codeAny_builtin PySem.F.entry_type_call ?_⟩;rw[Around.under_plain (weight_type_call_type "set" [.ref l] []) rfl];have h1:=PySem.F.called_set.notType;have h2:=PySem.F.called_set.canCreate;have hct:=PySem.F.typeCall_set_1 (.ref l)
 repeat (any_goals (first | assumption | wp_step))
 refine codeAny_mono (zoi (.ref l) (E:=E) (Q₁:=λob s1=>ob=.ref s.heap.objs.size/\s1={ s with heap:=s.heap.push (zbh w) }) ⟨rfl,rfl⟩) λr s1 hr=>?_;cases r with
 | error e=>exact hr
 | ok fl=>
  cases fl with
  | ret ob=>
   obtain⟨rfl,rfl⟩:=hr;have hS:(s.heap.push (zbh w)).get? s.heap.objs.size=some (zbh w):=XG _ rfl;have hT:Shared.TypeIs { s with heap:=s.heap.push (zbh w) } (.ref s.heap.objs.size) "set":=⟨_,hS,rfl⟩;have hli:=PySem.F.called_set.init.lookup;have hbi:=PySem.F.called_set.init.bind (.ref s.heap.objs.size)
   repeat (any_goals (first | assumption | wp_step))
   refine codeAny_mono (codeAny_call_builtin (R:=wants (λr s2=>r=.none/\∃h' tk,s2={ s with heap:=h',toks:=tk }/\SP h' s.heap.objs.size/\∀b o,s.heap.get? b=some o->h'.get? b=some o) E)
    PySem.F.called_set.init.plain PySem.F.entry_set_init (check_set_init_1 hT ?_)) λr₂ s₂ hr₂=>?_
   ·obtain⟨⟨ocls,odict,odata,oslots⟩,hol,hcl,nl,hdl⟩:=hl;simp only at hcl hdl;subst hcl;subst hdl;have hol':(s.heap.push (zbh w)).get? l=some { cls:=.type "list",dict:=odict,data:=.seq items nl,slots:=oslots }:=Xg _ hol;have hsls:=PySem.F.sub_list_set;have hslf:=PySem.F.sub_list_frozenset;have hne:(Value.type "list" == Value.type "dict")=false:=by decide
    have hl1:(s.heap.push (zbh w)).IsList l items:=⟨_,hol',rfl,nl,rfl⟩;unfold Builtin.«set.__init__» noKeywords Builtin.Frozenset.updateFrom;generalize hPI:pyIter=PI
    wp_walk
    subst hPI;refine wpAny_pyIter_list hl1 (wpAny_bind (wpAny_runValue ?_));have hlS:l<s.heap.objs.size:=Xx hol;have hz1:(s.heap.push (zbh w)).objs.size=s.heap.objs.size+1:=Heap.size_push ..;have hneI:l≠(s.heap.push (zbh w)).objs.size:=by rw[hz1];exact XJ (YE hlS)
    have hSf:s.heap.objs.size∉[(s.heap.push (zbh w)).objs.size,l]:=by
     rw[hz1];intro z;rcases Xv.mp z with e | e
     ·exact absurd e (XJ (Nat.lt_succ_self _))
     ·exact absurd (Xs.mp e) (Nat.ne_of_gt hlS)
    refine loop ((Walks.list (by simp[hh]) _ l hneI items).toS) s.heap.objs.size ?U hSf (λi v hv=>hv) (λb hb=>?W) _ (λb o e=>Xg _ (Xg _ e)) ⟨⟨_,XG _ rfl,rfl,rfl⟩,hl1.push _⟩ (Xg _ hS) λs' hm hS'=>?_
    case U=>show A.units+1+1<=_;lia
    case W=>
     intro z;rcases Xv.mp z with q | q
     ·exact XJ hb q
     ·have q':=Xs.mp q;rw[hz1]at q';exact absurd q' (XJ (YE hb))
    obtain⟨h',g',d',tk',os'⟩:=s';have eg:g'=s.gens:=hm.gens;have ed:d'=s.drawn:=hm.drawn;have eo:os'=s.os:=hm.os;subst eg;subst ed;subst eo;refine wpAny_pure (wpAny_pure ⟨rfl,h',tk',rfl,hS',λb o e=>?_⟩);have hb':b<s.heap.objs.size:=Xx e;refine hm.heap b o (λz=>?_) (Xg _ (Xg _ e));rcases Xv.mp z with q | q
    ·exact XJ hb' q
    ·have q':=Xs.mp q;rw[hz1]at q';exact absurd q' (XJ (YE hb'))
   ·cases r₂ with
    | error e=>exact hr₂
    | ok fl₂=>
     cases fl₂ with
     | ret r=>
      obtain⟨rfl,h',tk,rfl,hS',hk'⟩:=hr₂
      repeat (any_goals (first | assumption | wp_step))
      exact h _ _ hS' hk'
     | _=>exact hr₂.elim
  | _=>exact hr.elim
end
end JS
namespace L2
open PySem PySem.Spec PyProof.Rows
inductive D where
 | non | int (i:Int) | str (x:Str) | tup (ds:List D)
noncomputable instance:DecidableEq D:=λ_ _=>Classical.propDecidable _
mutual
noncomputable def Den (H:Hp):D->V->Prop
 | .non,v=>v=.non
 | .int i,v=>v=.int i
 | .str x,v=>v=.str x
 | .tup ds,v=>∃a xs,v=.ref a/\H a=some (.tup xs)/\DenL H ds xs
noncomputable def DenL (H:Hp):List D->List V->Prop
 | [],xs=>xs=[]
 | d::ds,xs=>∃v r,xs=v::r/\Den H d v/\DenL H ds r
end
noncomputable def zpX (H H':Hp):Prop:=∀b xs,H b=some (.tup xs)->H' b=some (.tup xs)
mutual
theorem Den.mono {H H':Hp}(s:zpX H H'):∀(d:D)(v:V),Den H d v->Den H' d v
 | .non,v,h=>by unfold Den at h ⊢;exact h
 | .int i,v,h=>by unfold Den at h ⊢;exact h
 | .str x,v,h=>by unfold Den at h ⊢;exact h
 | .tup ds,v,h=>by
  unfold Den at h ⊢;obtain⟨a,xs,e,h1,h2⟩:=h;exact⟨a,xs,e,s a xs h1,DenL.mono s ds xs h2⟩
theorem DenL.mono {H H':Hp}(s:zpX H H'):∀(ds:List D)(xs:List V),DenL H ds xs->DenL H' ds xs
 | [],xs,h=>by unfold DenL at h ⊢;exact h
 | d::ds,xs,h=>by
  unfold DenL at h ⊢;obtain⟨v,r,e,h1,h2⟩:=h;exact⟨v,r,e,Den.mono s d v h1,DenL.mono s ds r h2⟩
end
mutual
theorem Den.inj {H:Hp}:∀(d e:D)(v:V),Den H d v->Den H e v->d=e
 | .non,e,v,h,g=>by
  unfold Den at h;subst h;cases e<;>unfold Den at g
  ·rfl
  ·cases g
  ·cases g
  ·obtain⟨a,xs,z,_⟩:=g;cases z
 | .int i,e,v,h,g=>by
  unfold Den at h;subst h;cases e<;>unfold Den at g
  ·cases g
  ·injection g with g;rw[g]
  ·cases g
  ·obtain⟨a,xs,z,_⟩:=g;cases z
 | .str x,e,v,h,g=>by
  unfold Den at h;subst h;cases e<;>unfold Den at g
  ·cases g
  ·cases g
  ·injection g with g;rw[g]
  ·obtain⟨a,xs,z,_⟩:=g;cases z
 | .tup ds,e,v,h,g=>by
  unfold Den at h;obtain⟨a,xs,z,h1,h2⟩:=h;subst z;cases e<;>unfold Den at g
  ·cases g
  ·cases g
  ·cases g
  ·obtain⟨b,ys,z,g1,g2⟩:=g;cases z;rw[h1]at g1;cases g1;rw[DenL.inj ds _ xs h2 g2]
theorem DenL.inj {H:Hp}:∀(ds es:List D)(xs:List V),DenL H ds xs->DenL H es xs->ds=es
 | [],es,xs,h,g=>by
  unfold DenL at h;subst h;cases es with
  | nil=>rfl
  | cons e es=>unfold DenL at g;obtain⟨v,r,z,_⟩:=g;cases z
 | d::ds,es,xs,h,g=>by
  unfold DenL at h;obtain⟨v,r,z,h1,h2⟩:=h;subst z;cases es with
  | nil=>unfold DenL at g;cases g
  | cons e es=>
   unfold DenL at g;obtain⟨v',r',z,g1,g2⟩:=g;cases z;rw[Den.inj d e v h1 g1,DenL.inj ds es r h2 g2]
end
mutual
noncomputable def Cmp:D->D->Prop
 | .non,e=>e=.non
 | .int _,e=>∃j,e=.int j
 | .str _,e=>∃y,e=.str y
 | .tup ds,e=>∃es,e=.tup es/\CmpL ds es
noncomputable def CmpL:List D->List D->Prop
 | [],_=>True
 | d::ds,es=>∀e r,es=e::r->Cmp d e/\CmpL ds r
end
mutual
noncomputable def dep:D->Nat
 | .tup ds=>depL ds+1
 | _=>0
noncomputable def depL:List D->Nat
 | []=>0
 | d::ds=>max (dep d) (depL ds)
end
end L2
namespace L2
open PySem PySem.Spec PyProof.Rows
section
variable {X:Cx}
theorem zja {ss:List Str}:∀ {its:List Value},Vals (ss.map V.str) its->StrsAre its ss:=by
 induction ss with
 | nil=>intro its r;cases r;exact .nil
 | cons x ss ih=>
  intro its r;cases r with
  | cons r1 r2=>
   obtain⟨t,rfl⟩:=(show ∃t,_=Value.str x t from r1);exact .cons x t (ih r2)
noncomputable def rJoin (K:Xa):V->List V->Hp->VK->Prop:=λx vs H Q=>∃(sep:Str)(l:Addr)(ys:List Str),x=.str sep/\vs=[.ref l]/\SqL K H l (ys.map V.str)/\(ys.map (·.length)).sum+ys.length*sep.length<=16777216/\Q (.str (Txt.join sep ys)) H
theorem zoj:MtR X "str.join" (rJoin X.K):=by
 intro pins s σ H x vs v us Q I rx rv h;obtain⟨sep,l,ys,rfl,rfl,hl,hz,q⟩:=h;obtain⟨t,rfl⟩:=rx;obtain⟨u,rfl,ru⟩:=rv.one;cases ru;obtain⟨its,r,p,_⟩:=I.list hl;exact join_list p.isList (by simpa using zja r) hz λt' k=>⟨.str _,H,I.tok k,⟨t',rfl⟩,q⟩
end
noncomputable def zpY (K:Xa):List V->Hp->VK->Prop:=λxs H Q=>∃p ys,xs=[.ref p]/\((SqL K H p ys/\∀l,H l=none->Q (.ref l) (upd H l (.tup ys)))\/(SqT K H p ys/\Q (.ref p) H))
end L2
namespace PL
open PySem PySem.Spec L2
open PyProof.Rows hiding St
inductive PV where
 | non | bl (b:Bool) | int (i:Int) | str (x:Str) | ty (n:String)
 | tup (ds:List PV) | lst (ds:List PV) | dK (ks:List Key) (ds:List PV) | dT (ks:List (List Key)) (ds:List PV)
noncomputable instance:DecidableEq PV:=λ_ _=>Classical.propDecidable _
noncomputable abbrev FZ:=Addr->Prop
noncomputable def KX (K:Xa)(a:Addr)(xs:List V):Prop:=∃(its:Array Value)(n:Nat),K.lookup a=some { cls:=.type "list",data:=.seq its n }/\its.size<=sizeLine/\Vals xs its.toList
theorem KX.sq {K:Xa}{H:Hp}{a:Addr}{xs:List V}(h:KX K a xs):SqL K H a xs:=by obtain⟨its,n,h1,h2,h3⟩:=h;exact .inr ⟨_,its,n,h1,rfl,rfl,rfl,h2,h3⟩
mutual
noncomputable def Den (K:Xa)(Fz:FZ)(H:Hp):PV->V->Prop
 | .non,v=>v=.non
 | .bl b,v=>v=.bl b
 | .int i,v=>v=.int i
 | .str x,v=>v=.str x
 | .ty n,v=>v=.ty n
 | .tup ds,v=>∃a xs,v=.ref a/\H a=some (.tup xs)/\DenL K Fz H ds xs
 | .lst ds,v=>∃a xs,v=.ref a/\((Fz a/\Rd H a (.lst xs))\/KX K a xs)/\DenL K Fz H ds xs
 | .dK ks ds,v=>∃a xs,v=.ref a/\Fz a/\Rd H a (.dK (ks.zip xs))/\ks.length=xs.length/\DenL K Fz H ds xs
 | .dT ks ds,v=>∃a xs,v=.ref a/\Fz a/\Rd H a (.dT (ks.zip xs))/\ks.length=xs.length/\DenL K Fz H ds xs
noncomputable def DenL (K:Xa)(Fz:FZ)(H:Hp):List PV->List V->Prop
 | [],xs=>xs=[]
 | d::ds,xs=>∃v r,xs=v::r/\Den K Fz H d v/\DenL K Fz H ds r
end
noncomputable def Root (K:Xa)(Fz:FZ)(H:Hp):PV->V->Prop
 | .lst ds,v=>∃a xs,v=.ref a/\(Rd H a (.lst xs)\/KX K a xs)/\DenL K Fz H ds xs
 | .dK ks ds,v=>∃a xs,v=.ref a/\Rd H a (.dK (ks.zip xs))/\ks.length=xs.length/\DenL K Fz H ds xs
 | .dT ks ds,v=>∃a xs,v=.ref a/\Rd H a (.dT (ks.zip xs))/\ks.length=xs.length/\DenL K Fz H ds xs
 | d,v=>Den K Fz H d v
noncomputable def Own (K:Xa)(Fz:FZ)(H:Hp):PV->Addr->Prop
 | .lst ds,a=>∃xs,H a=some (.lst xs)/\DenL K Fz H ds xs
 | .dK ks ds,a=>∃xs,H a=some (.dK (ks.zip xs))/\ks.length=xs.length/\DenL K Fz H ds xs
 | .dT ks ds,a=>∃xs,H a=some (.dT (ks.zip xs))/\ks.length=xs.length/\DenL K Fz H ds xs
 | _,_=>False
noncomputable def Imm:HO->Prop
 | .tup _=>True
 | .frz _ _=>True
 | _=>False
noncomputable def Pl:HO->Prop
 | .lst _=>True
 | .tup _=>True
 | .dK _=>True
 | .dT _=>True
 | _=>False
structure Keep (Fz:FZ)(H H':Hp):Prop where
 rd':∀b u,Pl u->Fz b->Rd H b u->Rd H' b u
 tup:∀b xs,H b=some (.tup xs)->H' b=some (.tup xs)
noncomputable def zhi (Fz:FZ)(H H':Hp):Prop:=∀b o,H b=some o->(Fz b\/Imm o)->H' b=some o
theorem Keep.mk' {Fz:FZ}{H H':Hp}(h:zhi Fz H H'):Keep Fz H H':=
 ⟨λb u _ f r=>by
  rcases r with r | ⟨o,r⟩
  ·exact .inl (h b _ r (.inl f))
  ·exact .inr ⟨o,h b _ r (.inl f)⟩,λb xs r=>h b _ r (.inr trivial)⟩
theorem Keep.of {Fz:FZ}{H H':Hp}(h:Same H H'):Keep Fz H H':=.mk' λb o e _=>h b o e
theorem Keep.rd {Fz:FZ}{H H':Hp}(k:Keep Fz H H'){a:Addr}{u:HO}(pl:Pl u)(hf:Fz a)(h:Rd H a u):Rd H' a u:=k.rd' a u pl hf h
theorem Keep.sqT {K:Xa}{Fz:FZ}{H H':Hp}(k:Keep Fz H H'){a:Addr}{xs:List V}(h:H a=some (.tup xs)):SqT K H' a xs:=SqT.of (k.tup a xs h)
section
variable {K:Xa}{Fz Fz':FZ}{H H':Hp}
mutual
theorem Den.mono (k:Keep Fz H H')(s:∀b,Fz b->Fz' b):∀(d:PV)(v:V),Den K Fz H d v->Den K Fz' H' d v
 | .non,v,h=>by simpa only[Den]using h
 | .bl b,v,h=>by simpa only[Den]using h
 | .int i,v,h=>by simpa only[Den]using h
 | .str x,v,h=>by simpa only[Den]using h
 | .ty n,v,h=>by simpa only[Den]using h
 | .tup ds,v,h=>by
  simp only[Den]at h ⊢;obtain⟨a,xs,e,h1,h2⟩:=h;exact⟨a,xs,e,k.tup a xs h1,DenL.mono k s ds xs h2⟩
 | .lst ds,v,h=>by
  simp only[Den]at h ⊢;obtain⟨a,xs,e,h1,h2⟩:=h;refine⟨a,xs,e,?_,DenL.mono k s ds xs h2⟩;rcases h1 with ⟨f,h1⟩ | h1
  ·exact .inl ⟨s a f,k.rd trivial f h1⟩
  ·exact .inr h1
 | .dK ks ds,v,h=>by
  simp only[Den]at h ⊢;obtain⟨a,xs,e,f,h1,h2,h3⟩:=h;exact⟨a,xs,e,s a f,k.rd trivial f h1,h2,DenL.mono k s ds xs h3⟩
 | .dT ks ds,v,h=>by
  simp only[Den]at h ⊢;obtain⟨a,xs,e,f,h1,h2,h3⟩:=h;exact⟨a,xs,e,s a f,k.rd trivial f h1,h2,DenL.mono k s ds xs h3⟩
theorem DenL.mono (k:Keep Fz H H')(s:∀b,Fz b->Fz' b):∀(ds:List PV)(xs:List V),DenL K Fz H ds xs->DenL K Fz' H' ds xs
 | [],xs,h=>by simpa only[DenL]using h
 | d::ds,xs,h=>by
  simp only[DenL]at h ⊢;obtain⟨v,r,e,h1,h2⟩:=h;exact⟨v,r,e,Den.mono k s d v h1,DenL.mono k s ds r h2⟩
end
theorem Den.root {d:PV}{v:V}(h:Den K Fz H d v):Root K Fz H d v:=by
 cases d with
 | lst ds=>
  simp only[Den]at h;obtain⟨a,xs,e,h1,h2⟩:=h;refine⟨a,xs,e,?_,h2⟩;rcases h1 with ⟨f,h1⟩ | h1
  ·exact .inl h1
  ·exact .inr h1
 | dK ks ds=>
  simp only[Den]at h;obtain⟨a,xs,e,_,h1,h2⟩:=h;exact⟨a,xs,e,h1,h2⟩
 | dT ks ds=>
  simp only[Den]at h;obtain⟨a,xs,e,_,h1,h2⟩:=h;exact⟨a,xs,e,h1,h2⟩
 | non=>exact h
 | bl b=>exact h
 | int i=>exact h
 | str x=>exact h
 | ty n=>exact h
 | tup ds=>exact h
theorem Own.root {d:PV}{a:Addr}(h:Own K Fz H d a):Root K Fz H d (.ref a):=by
 cases d with
 | lst ds=>obtain⟨xs,h1,h2⟩:=h;exact⟨a,xs,rfl,.inl (.inl h1),h2⟩
 | dK ks ds=>obtain⟨xs,h1,h2⟩:=h;exact⟨a,xs,rfl,.inl h1,h2⟩
 | dT ks ds=>obtain⟨xs,h1,h2⟩:=h;exact⟨a,xs,rfl,.inl h1,h2⟩
 | non=>exact h.elim
 | bl b=>exact h.elim
 | int i=>exact h.elim
 | str x=>exact h.elim
 | ty n=>exact h.elim
 | tup ds=>exact h.elim
theorem Own.den {d:PV}{a:Addr}(h:Own K Fz H d a)(f:Fz a):Den K Fz H d (.ref a):=by
 cases d with
 | lst ds=>obtain⟨xs,h1,h2⟩:=h;simp only[Den];exact⟨a,xs,rfl,.inl ⟨f,.inl h1⟩,h2⟩
 | dK ks ds=>obtain⟨xs,h1,h2⟩:=h;simp only[Den];exact⟨a,xs,rfl,f,.inl h1,h2⟩
 | dT ks ds=>obtain⟨xs,h1,h2⟩:=h;simp only[Den];exact⟨a,xs,rfl,f,.inl h1,h2⟩
 | non=>exact h.elim
 | bl b=>exact h.elim
 | int i=>exact h.elim
 | str x=>exact h.elim
 | ty n=>exact h.elim
 | tup ds=>exact h.elim
theorem Own.at {d:PV}{a:Addr}(h:Own K Fz H d a):∃o,H a=some o/\¬ Imm o:=by
 cases d with
 | lst ds=>obtain⟨xs,h1,h2⟩:=h;exact⟨_,h1,λz=>z⟩
 | dK ks ds=>obtain⟨xs,h1,h2⟩:=h;exact⟨_,h1,λz=>z⟩
 | dT ks ds=>obtain⟨xs,h1,h2⟩:=h;exact⟨_,h1,λz=>z⟩
 | non=>exact h.elim
 | bl b=>exact h.elim
 | int i=>exact h.elim
 | str x=>exact h.elim
 | ty n=>exact h.elim
 | tup ds=>exact h.elim
theorem Own.mono {d:PV}{a:Addr}(k:Keep Fz H H')(s:∀b,Fz b->Fz' b)(ha:∀o,H a=some o->H' a=some o)(h:Own K Fz H d a):Own K Fz' H' d a:=by
 cases d with
 | lst ds=>obtain⟨xs,h1,h2⟩:=h;exact⟨xs,ha _ h1,DenL.mono k s _ _ h2⟩
 | dK ks ds=>obtain⟨xs,h1,h2,h3⟩:=h;exact⟨xs,ha _ h1,h2,DenL.mono k s _ _ h3⟩
 | dT ks ds=>obtain⟨xs,h1,h2,h3⟩:=h;exact⟨xs,ha _ h1,h2,DenL.mono k s _ _ h3⟩
 | non=>exact h.elim
 | bl b=>exact h.elim
 | int i=>exact h.elim
 | str x=>exact h.elim
 | ty n=>exact h.elim
 | tup ds=>exact h.elim
theorem Root.mono {d:PV}{v:V}(k:Same H H')(s:∀b,Fz b->Fz' b)(h:Root K Fz H d v):Root K Fz' H' d v:=by
 have rd:∀ {a u},Rd H a u->Rd H' a u:=λ{a u} q=>by
  rcases q with q | ⟨o,q⟩
  ·exact .inl (k _ _ q)
  ·exact .inr ⟨o,k _ _ q⟩
 cases d with
 | lst ds=>obtain⟨a,xs,e,h1,h2⟩:=h;exact⟨a,xs,e,h1.imp rd id,DenL.mono (.of k) s _ _ h2⟩
 | dK ks ds=>obtain⟨a,xs,e,h1,h2,h3⟩:=h;exact⟨a,xs,e,rd h1,h2,DenL.mono (.of k) s _ _ h3⟩
 | dT ks ds=>obtain⟨a,xs,e,h1,h2,h3⟩:=h;exact⟨a,xs,e,rd h1,h2,DenL.mono (.of k) s _ _ h3⟩
 | non=>exact Den.mono (.of k) s _ _ h
 | bl b=>exact Den.mono (.of k) s _ _ h
 | int i=>exact Den.mono (.of k) s _ _ h
 | str x=>exact Den.mono (.of k) s _ _ h
 | ty n=>exact Den.mono (.of k) s _ _ h
 | tup ds=>exact Den.mono (.of k) s _ _ h
theorem DenL.length:∀(ds:List PV)(xs:List V),DenL K Fz H ds xs->ds.length=xs.length
 | [],xs,h=>by simp only[DenL]at h;subst h;rfl
 | d::ds,xs,h=>by
  simp only[DenL]at h;obtain⟨v,r,z,_,h2⟩:=h;subst z;rw[Yh,Yh,DenL.length ds r h2]
theorem DenL.get:∀ {ds:List PV}{xs:List V}{i:Nat}{d:PV},DenL K Fz H ds xs->ds[i]? = some d->∃v,xs[i]? = some v/\Den K Fz H d v
 | [],xs,i,d,h,e=>by simp at e
 | d0::ds,xs,i,d,h,e=>by
  simp only[DenL]at h;obtain⟨v0,r,z,h1,h2⟩:=h;subst z;cases i with
  | zero=>simp at e;subst e;exact⟨v0,rfl,h1⟩
  | succ i=>
   obtain⟨v,q,h⟩:=DenL.get h2 (i:=i) (d:=d) (by simpa using e);exact⟨v,by simpa using q,h⟩
theorem DenL.nil:DenL K Fz H [] []:=by simp only[DenL]
theorem DenL.cons {d:PV}{v:V}{ds:List PV}{xs:List V}(h1:Den K Fz H d v)(h2:DenL K Fz H ds xs):DenL K Fz H (d::ds) (v::xs):=by
 simp only[DenL];exact⟨v,xs,rfl,h1,h2⟩
theorem DenL.append:∀ {ds es:List PV}{xs ys:List V},DenL K Fz H ds xs->DenL K Fz H es ys->DenL K Fz H (ds++es) (xs++ys)
 | [],es,xs,ys,h,g=>by simp only[DenL]at h;subst h;exact g
 | d::ds,es,xs,ys,h,g=>by
  simp only[DenL]at h;obtain⟨v,r,z,h1,h2⟩:=h;subst z;exact DenL.cons h1 (DenL.append h2 g)
theorem DenL.snoc {ds:List PV}{xs:List V}{d:PV}{v:V}(h:DenL K Fz H ds xs)(g:Den K Fz H d v):DenL K Fz H (ds++[d]) (xs++[v]):=h.append (DenL.cons g DenL.nil)
theorem DenL.split:∀ {ds es:List PV}{xs:List V},DenL K Fz H (ds++es) xs->∃ys zs,xs=ys++zs/\DenL K Fz H ds ys/\DenL K Fz H es zs
 | [],es,xs,h=>⟨[],xs,rfl,DenL.nil,h⟩
 | d::ds,es,xs,h=>by
  rw[List.cons_append]at h;simp only[DenL]at h;obtain⟨v,r,z,h1,h2⟩:=h;subst z;obtain⟨ys,zs,e,g1,g2⟩:=DenL.split h2;exact⟨v::ys,zs,by rw[e];rfl,DenL.cons h1 g1,g2⟩
theorem DenL.take {ds:List PV}{xs:List V}(n:Nat)(h:DenL K Fz H ds xs):DenL K Fz H (ds.take n) (xs.take n):=by
 have hl:=h.length;obtain⟨ys,zs,e,g1,g2⟩:=DenL.split (ds:=ds.take n) (es:=ds.drop n) (by rw[XT];exact h);have h1:=g1.length;subst e;by_cases hn:n<=ds.length
 ·rw[XC,Nat.min_eq_left hn]at h1;rw[List.take_append_of_le_length (by lia),XR (i:=n) (l:=ys) (by lia)];exact g1
 ·rw[XR (i:=n) (l:=ds) (by lia),XR (i:=n) (l:=ys++zs) (by lia)];exact h
theorem DenL.drop {ds:List PV}{xs:List V}(n:Nat)(h:DenL K Fz H ds xs):DenL K Fz H (ds.drop n) (xs.drop n):=by
 have hl:=h.length;obtain⟨ys,zs,e,g1,g2⟩:=DenL.split (ds:=ds.take n) (es:=ds.drop n) (by rw[XT];exact h);have h1:=g1.length;subst e;by_cases hn:n<=ds.length
 ·rw[XC,Nat.min_eq_left hn]at h1;rw[List.drop_append,Yv (i:=n) (l:=ys) (by lia),show n-ys.length=0 by lia];exact g2
 ·rw[Yv (i:=n) (l:=ds) (by lia),Yv (i:=n) (l:=ys++zs) (by lia)];exact DenL.nil
theorem DenL.set:∀ {ds:List PV}{xs:List V}{d:PV}{v:V}(i:Nat),DenL K Fz H ds xs->Den K Fz H d v->DenL K Fz H (ds.set i d) (xs.set i v)
 | [],xs,d,v,i,h,g=>by simp only[DenL]at h;subst h;exact DenL.nil
 | d0::ds,xs,d,v,i,h,g=>by
  simp only[DenL]at h;obtain⟨v0,r,z,h1,h2⟩:=h;subst z;cases i with
  | zero=>exact DenL.cons g h2
  | succ i=>exact DenL.cons h1 (DenL.set i h2 g)
end
noncomputable abbrev PEnv:=List (Option (PV×Bool))
structure Rel (K:Xa)(Fz:FZ)(ρ:PEnv)(σ:St)(H:Hp):Prop where
 al:∀b,Fz b->H b≠none
 len:ρ.length=σ.length
 frz:∀(i:Nat) (d:PV),ρ[i]? = some (some (d,false))->∃v,σ[i]? = some (some v)/\Den K Fz H d v
 own:∀(i:Nat) (d:PV),ρ[i]? = some (some (d,true))->∃a,σ[i]? = some (some (.ref a))/\¬ Fz a/\Own K Fz H d a
 inj:∀(i j:Nat) (d e:PV) (a:Addr),ρ[i]? = some (some (d,true))->ρ[j]? = some (some (e,true))->σ[i]? = some (some (.ref a))->σ[j]? = some (some (.ref a))->i=j
noncomputable def zao (ρ:PEnv)(σ:St)(a:Addr):Prop:=∃(i:Nat)(d:PV),ρ[i]? = some (some (d,true))/\σ[i]? = some (some (.ref a))
structure Ext (Fz:FZ)(H:Hp)(Fz':FZ)(H':Hp):Prop where
 same:Same H H'
 sub:∀b,Fz b->Fz' b
 new:∀b,Fz' b->Fz b\/H b=none
 al:∀b,Fz' b->H' b≠none
theorem Ext.trans {F1 F2 F3:FZ}{H1 H2 H3:Hp}(a:Ext F1 H1 F2 H2)(b:Ext F2 H2 F3 H3):Ext F1 H1 F3 H3:=
 ⟨a.same.trans b.same,λc h=>b.sub c (a.sub c h),λc h=>by
  rcases b.new c h with h | h
  ·exact a.new c h
  ·exact .inr (a.same.free h),b.al⟩
theorem Ext.add {Fz Fz':FZ}{H H':Hp}{a:Addr}(x:Ext Fz H Fz' H')(h:H a=none)(h':H' a≠none):Ext Fz H (λb=>Fz' b\/b=a) H':=
 ⟨x.same,λb h=>.inl (x.sub b h),λb hb=>by
  rcases hb with hb | rfl
  ·exact x.new b hb
  ·exact .inr h,λb hb=>by
  rcases hb with hb | rfl
  ·exact x.al b hb
  ·exact h'⟩
theorem Ext.laid {Fz Fz':FZ}{H H':Hp}{p:Addr}{o:HO}(x:Ext Fz H Fz' H')(h:H' p=none):Ext Fz H Fz' (upd H' p o):=
 ⟨x.same.trans (λb u e=>by rw[zah (zaA e h)];exact e),x.sub,x.new,λb hb=>by
  by_cases e:b=p
  ·subst e;rw[zaj];exact λz=>nomatch z
  ·rw[zah e];exact x.al b hb⟩
theorem Rel.ext {K:Xa}{Fz Fz':FZ}{ρ:PEnv}{σ:St}{H H':Hp}(R:Rel K Fz ρ σ H)(x:Ext Fz H Fz' H'):Rel K Fz' ρ σ H' where
 al:=x.al
 len:=R.len
 frz i d h:=by
  obtain⟨v,e,q⟩:=R.frz i d h;exact⟨v,e,Den.mono (.of x.same) x.sub d v q⟩
 own i d h:=by
  obtain⟨a,e,n,q⟩:=R.own i d h;refine⟨a,e,λz=>?_,q.mono (.of x.same) x.sub (λo h=>x.same _ _ h)⟩;rcases x.new a z with z | z
  ·exact n z
  ·obtain⟨o,h,_⟩:=q.at;rw[h]at z;cases z
 inj:=R.inj
inductive Kd where
 | frz | new | own (i:Nat)
noncomputable def Opd (K:Xa)(Fz':FZ)(H':Hp)(ρ:PEnv)(σ:St)(H:Hp)(d:PV):Kd->V->Prop
 | .frz,v=>Den K Fz' H' d v
 | .new,v=>∃a,v=.ref a/\H a=none/\¬ Fz' a/\Own K Fz' H' d a
 | .own i,v=>ρ[i]? = some (some (d,true))/\σ[i]? = some (some v)
structure Post (K:Xa)(ρ:PEnv)(σ:St)(Fz:FZ)(H:Hp)(Fz':FZ)(H':Hp)(d:PV)(k:Kd)(v:V):Prop where
 ext:Ext Fz H Fz' H'
 opd:Opd K Fz' H' ρ σ H d k v
theorem Post.root {K:Xa}{ρ:PEnv}{σ:St}{Fz Fz':FZ}{H H':Hp}{d:PV}{k:Kd}{v:V}(R:Rel K Fz ρ σ H)(p:Post K ρ σ Fz H Fz' H' d k v):Root K Fz' H' d v:=by
 cases k with
 | frz=>exact Den.root p.opd
 | new=>obtain⟨a,e,_,_,h⟩:=p.opd;subst e;exact h.root
 | own i=>
  obtain⟨h1,h2⟩:=p.opd;obtain⟨a,e,_,q⟩:=(R.ext p.ext).own i d h1;rw[h2]at e;cases e;exact q.root
theorem Post.frozen {K:Xa}{ρ:PEnv}{σ:St}{Fz Fz':FZ}{H H':Hp}{d:PV}{k:Kd}{v:V}(hk:k=.frz\/k=.new)(p:Post K ρ σ Fz H Fz' H' d k v) :
  ∃Fz2,Ext Fz H Fz2 H'/\(∀b,Fz' b->Fz2 b)/\Den K Fz2 H' d v:=by
 rcases hk with rfl | rfl
 ·exact⟨Fz',p.ext,λ_ h=>h,p.opd⟩
 ·obtain⟨a,e,hn,_,h⟩:=p.opd;subst e;exact⟨λb=>Fz' b\/b=a,p.ext.add hn (by obtain⟨o,e,_⟩:=h.at;rw[e];exact λz=>nomatch z),λ_ h=>.inl h,(h.mono (Fz':=λb=>Fz' b\/b=a) (Keep.of (Same.refl _)) (λ_ h=>.inl h) (λ_ h=>h)).den (.inr rfl)⟩
noncomputable abbrev TPE:=PEnv->(PV->Kd->Prop)->Prop
noncomputable abbrev TPT:=PEnv->(Bool->Prop)->Prop
noncomputable abbrev TPA:=PEnv->(List (PV×Kd)->Prop)->Prop
noncomputable def lift (K:Xa)(t:TPE):TE:=λσ H Q=>∃ρ Fz,Rel K Fz ρ σ H/\t ρ λd k=>∀v Fz' H',Post K ρ σ Fz H Fz' H' d k v->Q v H'
noncomputable def liftT (K:Xa)(t:TPT):TT:=λσ H Q=>∃ρ Fz,Rel K Fz ρ σ H/\t ρ λb=>∀Fz' H',Ext Fz H Fz' H'->Q b H'
structure PuE (X:Cx)(e:Expr)(t:TPE):Prop where
 mono:∀ρ Q Q',(∀d k,Q d k->Q' d k)->t ρ Q->t ρ Q'
 run:PE X e (lift X.K t)
structure PuT (X:Cx)(e:Expr)(t:TPT):Prop where
 mono:∀ρ Q Q',(∀b,Q b->Q' b)->t ρ Q->t ρ Q'
 run:PT X e (liftT X.K t)
theorem PE.weak {X:Cx}{e:Expr}{t t':TE}(h:PE X e t)(w:∀σ H Q,t' σ H Q->t σ H Q):PE X e t':=λpins s σ H Q I q=>h pins s σ H Q I (w σ H Q q)
theorem PT.weak {X:Cx}{e:Expr}{t t':TT}(h:PT X e t)(w:∀σ H Q,t' σ H Q->t σ H Q):PT X e t':=λpins s σ H Q I q=>h pins s σ H Q I (w σ H Q q)
theorem zrx {X:Cx}{a b:Expr}{ta tb:TPE}(ha:PuE X a ta)(hb:PuE X b tb){σ:St}{H:Hp}{R:V->V->Hp->Prop}
  (ρ:PEnv) (Fz:FZ) (Re:Rel X.K Fz ρ σ H)
  (h:ta ρ λd kd=>tb ρ λe ke=>∀x y Fz1 H1 Fz2 H2,Post X.K ρ σ Fz H Fz1 H1 d kd x->Post X.K ρ σ Fz1 H1 Fz2 H2 e ke y->R x y H2) :
  lift X.K ta σ H λx H1=>lift X.K tb σ H1 λy H2=>R x y H2:=
 ⟨ρ,Fz,Re,ha.mono ρ _ _ (λd kd q v Fz1 H1 p1=>⟨ρ,Fz1,Re.ext p1.ext,hb.mono ρ _ _ (λe ke q w Fz2 H2 p2=>q v w Fz1 H1 Fz2 H2 p1 p2) q⟩) h⟩
end PL
namespace PL
open PySem PySem.Spec L2
open PyProof.Rows hiding St
section
variable {K:Xa}{ρ:PEnv}{σ:St}{Fz Fz1 Fz2:FZ}{H H1 H2:Hp}{d:PV}{k:Kd}{v:V}
theorem Opd.ext (x:Ext Fz1 H1 Fz2 H2)(h:Opd K Fz1 H1 ρ σ H d k v):Opd K Fz2 H2 ρ σ H d k v:=by
 cases k with
 | frz=>exact Den.mono (.of x.same) x.sub _ _ h
 | new=>
  obtain⟨a,e,hn,nf,o⟩:=h;refine⟨a,e,hn,λz=>?_,o.mono (.of x.same) x.sub (λo h=>x.same _ _ h)⟩;rcases x.new a z with z | z
  ·exact nf z
  ·obtain⟨o',h,_⟩:=o.at;rw[h]at z;cases z
 | own i=>exact h
theorem Opd.back (s:Same H H1)(h:Opd K Fz2 H2 ρ σ H1 d k v):Opd K Fz2 H2 ρ σ H d k v:=by
 cases k with
 | frz=>exact h
 | new=>obtain⟨a,e,hn,r⟩:=h;exact⟨a,e,s.free hn,r⟩
 | own i=>exact h
theorem Opd.up (h:Opd K Fz2 H2 [] [] H d k v):Opd K Fz2 H2 ρ σ H d k v:=by
 cases k with
 | frz=>exact h
 | new=>exact h
 | own i=>obtain⟨z,_⟩:=h;simp at z
theorem Post.behind (x:Ext Fz H Fz1 H1)(p:Post K [] [] Fz1 H1 Fz2 H2 d k v):Post K ρ σ Fz H Fz2 H2 d k v:=
 ⟨x.trans p.ext,(p.opd.up (ρ:=ρ) (σ:=σ)).back x.same⟩
theorem Post.then(x:Ext Fz H Fz1 H1)(p:Post K ρ σ Fz1 H1 Fz2 H2 d k v):Post K ρ σ Fz H Fz2 H2 d k v:=
 ⟨x.trans p.ext,p.opd.back x.same⟩
theorem Post.val (al:∀b,Fz b->H b≠none)(h:Den K Fz H d v):Post K ρ σ Fz H Fz H d .frz v:=⟨⟨Same.refl H,λ_ h=>h,λ_ h=>.inl h,al⟩,h⟩
end
noncomputable def pVar (i:Nat):TPE:=λρ Q=>match ρ[i]? with
 | some (some (d,b))=>Q d (if b then .own i else .frz)
 | _=>False
theorem zfA {i:Nat}{ρ:PEnv}{Q:PV->Kd->Prop}:pVar i ρ Q↔∃d b,ρ[i]? = some (some (d,b))/\Q d (if b then .own i else .frz):=by
 unfold pVar;cases h:ρ[i]? with
 | none=>simp
 | some x=>
  cases x with
  | none=>simp
  | some p=>
   obtain⟨d,b⟩:=p;constructor
   ·exact λq=>⟨d,b,rfl,q⟩
   ·rintro⟨d',b',e,q⟩;cases e;exact q
noncomputable def pC (d:PV):TPE:=λ_ Q=>Q d .frz
section
variable {X:Cx}
theorem zaa (i:Nat){x:Str}{pos:Pos}(hN:autoParam (X.N[i]? = some x) aU0)(hv:autoParam (Vis X.env.scope x) aU4)(hd:autoParam ((x == ("__debug__" : Str))=false) aU1)
  (hcd:autoParam ((x == ("__classdict__" : Str))=false) aU1):PuE X (.Name x pos) (pVar i) where
 mono ρ Q Q' m h:=by obtain⟨d,b,e,q⟩:=zfA.mp h;exact zfA.mpr ⟨d,b,e,m _ _ q⟩
 run:=PE.weak (zaP hN hv hd hcd) λσ H Q h=>by
  obtain⟨ρ,Fz,R,h⟩:=h;obtain⟨d,b,e,q⟩:=zfA.mp h;cases b with
  | false=>
   obtain⟨v,e1,h1⟩:=R.frz i d e;exact⟨v,e1,q v Fz H (.val R.al h1)⟩
  | true=>
   obtain⟨a,e1,_,_⟩:=R.own i d e;exact⟨_,e1,q _ Fz H ⟨⟨Same.refl H,λ_ h=>h,λ_ h=>.inl h,R.al⟩,e,e1⟩⟩
theorem zdO {e:Expr}{d:PV}{v:V}(h:PE X e (tC v))(hd:∀Fz H,Den X.K Fz H d v):PuE X e (pC d) where
 mono ρ Q Q' m h:=m _ _ h
 run:=PE.weak h λσ H Q h=>by
  obtain⟨ρ,Fz,R,q⟩:=h;exact q v Fz H (.val R.al (hd Fz H))
theorem zae {i j pos}:PuE X (.Constant (.int i) j pos) (pC (.int i)):=zdO zpm λ_ _=>by simp only[Den]
theorem zjb {b j pos}:PuE X (.Constant (.bool b) j pos) (pC (.bl b)):=zdO zpn λ_ _=>by simp only[Den]
theorem zfd {x j pos}:PuE X (.Constant (.str x) j pos) (pC (.str x)):=zdO znf λ_ _=>by simp only[Den]
theorem zjc {x:Str}{T:String}{pos:Pos}(hg:Gl X x)(hm:X.mg x=none)(hv:bootBuiltins x=some (.type T))(hn:autoParam (x≠"__name__") aU1) (hd:autoParam ((x == ("__debug__" : Str))=false) aU1):PuE X (.Name x pos) (pC (.ty T)):=
 zdO (zjG (v:=.ty T) hg hm hv rfl hn hd) λ_ _=>by simp only[Den]
end
noncomputable abbrev P2:=PV->PV->(PV->Kd->Prop)->Prop
structure POp (K:Xa)(r:R2)(p:P2):Prop where
 mono:∀d e Q Q',(∀z k,Q z k->Q' z k)->p d e Q->p d e Q'
 run:∀Fz H x y d e Q,(∀b,Fz b->H b≠none)->Root K Fz H d x->Root K Fz H e y->p d e (λz k=>∀v Fz' H',Post K [] [] Fz H Fz' H' z k v->Q v H')->r x y H Q
noncomputable def t2 (p:P2)(ta tb:TPE):TPE:=λρ Q=>ta ρ λd _=>tb ρ λe _=>p d e Q
section
variable {X:Cx}{a b:Expr}{ta tb:TPE}{pos:Pos}{r:R2}{p:P2}
theorem zci (hp:POp X.K r p)(ha:PuE X a ta)(hb:PuE X b tb):∀ρ Q Q',(∀d k,Q d k->Q' d k)->t2 p ta tb ρ Q->t2 p ta tb ρ Q':=
 λρ Q Q' m h=>ha.mono ρ _ _ (λd _ h=>hb.mono ρ _ _ (λe _ h=>hp.mono d e _ _ m h) h) h
theorem zfe (hp:POp X.K r p)(ha:PuE X a ta)(hb:PuE X b tb){σ:St}{H:Hp}{Q:VK}(h:lift X.K (t2 p ta tb) σ H Q):tOp r (lift X.K ta) (lift X.K tb) σ H Q:=by
 obtain⟨ρ,Fz,R,h⟩:=h;refine zrx ha hb ρ Fz R (ha.mono ρ _ _ (λd kd h=>hb.mono ρ _ _ (λe ke h=>?_) h) h);intro x y Fz1 H1 Fz2 H2 p1 p2;have R1:=R.ext p1.ext;refine hp.run Fz2 H2 x y d e Q p2.ext.al ((p1.root R).mono p2.ext.same p2.ext.sub) (p2.root R1) (hp.mono d e _ _ (λz k q v Fz' H' p3=>?_) h);exact q v Fz' H' (p3.behind (p1.ext.trans p2.ext))
theorem zfB {op:Operator}(ho:OpR X (binaryOp op) r)(hp:POp X.K r p)(ha:PuE X a ta)(hb:PuE X b tb):PuE X (.BinOp a op b pos) (t2 p ta tb):=
 ⟨zci hp ha hb,PE.weak (zpy ho ha.run hb.run) λ_ _ _ h=>zfe hp ha hb h⟩
theorem zni {op:CmpOp}(ho:OpR X (compareOp op) r)(hp:POp X.K r p)(ha:PuE X a ta)(hb:PuE X b tb)(hm:autoParam (behindInMarks op b=false) aU5):PuE X (.Compare a [op] [b] pos) (t2 p ta tb):=
 ⟨zci hp ha hb,PE.weak (znS ho ha.run hb.run hm) λ_ _ _ h=>zfe hp ha hb h⟩
noncomputable def blP (d:PV)(Q:Bool->Prop):Prop:=match d with
 | .bl b=>Q b
 | _=>False
theorem zfC {d:PV}{Q:Bool->Prop}:blP d Q↔∃b,d=.bl b/\Q b:=by
 unfold blP;constructor
 ·intro h;cases d<;>first | exact⟨_,rfl,h⟩ | exact h.elim
 ·rintro⟨b,rfl,q⟩;exact q
theorem zia {d:PV}{Q Q':Bool->Prop}(m:∀b,Q b->Q' b)(h:blP d Q):blP d Q':=by
 obtain⟨b,e,q⟩:=zfC.mp h;exact zfC.mpr ⟨b,e,m b q⟩
noncomputable def tBl (te:TPE):TPT:=λρ Q=>te ρ λd _=>blP d Q
theorem zhj {op:CmpOp}(ho:OpR X (compareOp op) r)(hp:POp X.K r p)(ha:PuE X a ta)(hb:PuE X b tb)(hm:autoParam (behindInMarks op b=false) aU5):PuT X (.Compare a [op] [b] pos) (tBl (t2 p ta tb)) where
 mono ρ Q Q' m h:=zci hp ha hb ρ _ _ (λd _ q=>zia m q) h
 run:=PT.weak (znT ho ha.run hb.run hm) λσ H Q h=>by
  obtain⟨ρ,Fz,R,h⟩:=h;refine zfe hp ha hb ⟨ρ,Fz,R,zci hp ha hb ρ _ _ (λd k q v Fz' H' p=>?_) h⟩;obtain⟨b,e,q⟩:=zfC.mp q;refine⟨b,?_,q Fz' H' p.ext⟩;subst e;have w:=p.root R;simpa only[Root,Den]using w
theorem zry (ho:IxR X r)(hp:POp X.K r p)(ha:PuE X a ta)(hb:PuE X b tb)(hs:autoParam (zhc b) aU6):PuE X (.Subscript a b pos) (t2 p ta tb):=
 ⟨zci hp ha hb,PE.weak (zrq ho ha.run hb.run hs) λ_ _ _ h=>zfe hp ha hb h⟩
end
noncomputable def i2 (C:Int->Int->Prop)(g:Int->Int->PV):P2:=λd e Q=>∃i j,d=.int i/\e=.int j/\C i j/\Q (g i j) .frz
noncomputable def i0 (g:Int->Int->PV):P2:=λd e Q=>∃i j,d=.int i/\e=.int j/\Q (g i j) .frz
section
variable {K:Xa}
theorem zib {C:Int->Int->Prop}{g:Int->Int->Int}:POp K (rI C λi j=>.int (g i j)) (i2 C λi j=>.int (g i j)) where
 mono d e Q Q' m h:=by obtain⟨i,j,e1,e2,c,q⟩:=h;exact⟨i,j,e1,e2,c,m _ _ q⟩
 run Fz H x y d e Q al rx ry h:=by
  obtain⟨i,j,rfl,rfl,c,q⟩:=h;simp only[Root,Den]at rx ry;exact⟨i,j,rx,ry,c,q _ Fz H (.val al (by simp only[Den]))⟩
theorem zkj {g:Int->Int->Int}:POp K (rI0 λi j=>.int (g i j)) (i0 λi j=>.int (g i j)) where
 mono d e Q Q' m h:=by obtain⟨i,j,e1,e2,q⟩:=h;exact⟨i,j,e1,e2,m _ _ q⟩
 run Fz H x y d e Q al rx ry h:=by
  obtain⟨i,j,rfl,rfl,q⟩:=h;simp only[Root,Den]at rx ry;exact⟨i,j,rx,ry,q _ Fz H (.val al (by simp only[Den]))⟩
end
section
variable {X:Cx}{a b:Expr}{ta tb:TPE}{pos:Pos}
noncomputable abbrev pAdd:=t2 (i0 λi j=>.int (i+j))
noncomputable abbrev pSub:=t2 (i0 λi j=>.int (i-j))
noncomputable abbrev pMul:=t2 (i2 CMul λi j=>.int (i*j))
noncomputable abbrev pMod:=t2 (i2 (λ_ j=>0<j) λi j=>.int (i % j))
noncomputable abbrev pPow:=t2 (i2 CPow λi j=>.int (i ^ j.toNat))
noncomputable abbrev pShr:=t2 (i2 (λ_ j=>0<=j) λi j=>.int (i / 2 ^ j.toNat))
theorem zaW (ha:PuE X a ta)(hb:PuE X b tb):PuE X (.BinOp a .Add b pos) (pAdd ta tb):=zfB zpz zkj ha hb
theorem znj (ha:PuE X a ta)(hb:PuE X b tb):PuE X (.BinOp a .Sub b pos) (pSub ta tb):=zfB zpA zkj ha hb
theorem zdz (ha:PuE X a ta)(hb:PuE X b tb):PuE X (.BinOp a .Mult b pos) (pMul ta tb):=zfB zpB zib ha hb
theorem zau (ha:PuE X a ta)(hb:PuE X b tb):PuE X (.BinOp a .Mod b pos) (pMod ta tb):=zfB zpC zib ha hb
theorem zpZ (ha:PuE X a ta)(hb:PuE X b tb):PuE X (.BinOp a .Pow b pos) (pPow ta tb):=zfB zpD zib ha hb
theorem znk (ha:PuE X a ta)(hb:PuE X b tb):PuE X (.BinOp a .RShift b pos) (pShr ta tb):=zfB zpE zib ha hb
end
noncomputable def plain:Nat->PV->Bool
 | _,.non=>true
 | _,.int _=>true
 | _,.str _=>true
 | n+1,.tup ds=>ds.all (plain n)
 | n+1,.lst ds=>ds.all (plain n)
 | _,_=>false
theorem zcn {K:Xa}{Fz:FZ}{H:Hp}{x:V}(h:Root K Fz H .non x):x=.non:=by simpa only[Root,Den]using h
theorem zaG {K:Xa}{Fz:FZ}{H:Hp}{x:V}{i:Int}(h:Root K Fz H (.int i) x):x=.int i:=by simpa only[Root,Den]using h
theorem zek {K:Xa}{Fz:FZ}{H:Hp}{x:V}{i:Bool}(h:Root K Fz H (.bl i) x):x=.bl i:=by simpa only[Root,Den]using h
theorem zat {K:Xa}{Fz:FZ}{H:Hp}{x:V}{i:Str}(h:Root K Fz H (.str i) x):x=.str i:=by simpa only[Root,Den]using h
theorem zaX {K:Xa}{Fz:FZ}{H:Hp}{x:V}{ds:List PV}(h:Root K Fz H (.tup ds) x):∃a xs,x=.ref a/\SqT K H a xs/\DenL K Fz H ds xs:=by
 simp only[Root,Den]at h;obtain⟨a,xs,e,h1,h2⟩:=h;exact⟨a,xs,e,SqT.of h1,h2⟩
theorem zcL {K:Xa}{Fz:FZ}{H:Hp}{x:V}{ds:List PV}(h:Root K Fz H (.tup ds) x):∃a xs,x=.ref a/\H a=some (.tup xs)/\DenL K Fz H ds xs:=by simpa only[Root,Den]using h
theorem zam {K:Xa}{Fz:FZ}{H:Hp}{x:V}{ds:List PV}(h:Root K Fz H (.lst ds) x):∃a xs,x=.ref a/\SqL K H a xs/\DenL K Fz H ds xs:=by
 simp only[Root]at h;obtain⟨a,xs,e,h1,h2⟩:=h;exact⟨a,xs,e,h1.elim (λh=>.inl h) KX.sq,h2⟩
theorem zgq {K:Xa}{Fz:FZ}{H:Hp}{x:V}{ds:List PV}(h:Root K Fz H (.lst ds) x):∃a xs,x=.ref a/\(Rd H a (.lst xs)\/KX K a xs)/\DenL K Fz H ds xs:=by simpa only[Root]using h
theorem df {p:Prop} [Decidable p] (h:¬ p){Y:Bool->Prop}(y:Y false):Y (decide p):=by rw[decide_eq_false h];exact y
theorem dn {p:Prop} [Decidable p] (h:¬ p){Y:Bool->Prop}(y:Y true):Y (!decide p):=by rw[decide_eq_false h];exact y
section
variable {X:Cx}{pins:List (Addr×Obj)}{σ:St}{H:Hp}{s:Shared}{Fz Fz':FZ}
theorem zcM (I:Inv X pins σ H s){a:Addr}{xs ys:List V}(h1:SqL X.K H a xs)(h2:SqT X.K H a ys):False:=by
 obtain⟨its,r,p,_⟩:=I.list h1;obtain⟨its2,r2,p2,_⟩:=I.tuple h2;exact SeqAt.ne_of_list_tuple p.isList (show s.heap.IsTuple a its2.toArray from p2) rfl
theorem zfD (I:Inv X pins σ H s):∀(n:Nat)(d e:PV)(x:V),plain n d=true->plain n e=true->Root X.K Fz H d x->Root X.K Fz' H e x->d=e:=by
 intro n;induction n with
 | zero=>
  intro d e x pd pe h g;cases d<;>first
   | (simp only[plain]at pd;exact absurd pd (by decide))
   | (cases e<;>first
     | (simp only[plain]at pe;exact absurd pe (by decide))
     | (simp only[Root,Den]at h g;subst h;first | (cases g;rfl) | cases g))
 | succ n ih=>
  have all:∀(ds es:List PV) (xs:List V),ds.all (plain n)=true->es.all (plain n)=true->DenL X.K Fz H ds xs->DenL X.K Fz' H es xs->ds=es:=by
   intro ds;induction ds with
   | nil=>
    intro es xs _ _ h g;simp only[DenL]at h;subst h;cases es with
    | nil=>rfl
    | cons e es=>simp only[DenL]at g;obtain⟨_,_,z,_⟩:=g;cases z
   | cons d ds ihd=>
    intro es xs pd pe h g;simp only[DenL]at h;obtain⟨v,r,z,h1,h2⟩:=h;subst z;cases es with
    | nil=>simp only[DenL]at g;cases g
    | cons e es=>
     simp only[DenL]at g;obtain⟨v',r',z,g1,g2⟩:=g;cases z;rw[List.all_cons,Yr]at pd pe;rw[ih d e v pd.1 pe.1 h1.root g1.root,ihd es r pd.2 pe.2 h2 g2]
  intro d e x pd pe h g;cases d with
  | tup ds=>
   simp only[plain]at pd;simp only[Root,Den]at h;obtain⟨a,xs,rfl,h1,h2⟩:=h;cases e with
   | tup es=>
    simp only[plain]at pe;simp only[Root,Den]at g;obtain⟨b,ys,z,g1,g2⟩:=g;cases z;have e1:=I.zgc (SqT.of h1) (SqT.of g1);subst e1;rw[all ds es xs pd pe h2 g2]
   | lst es=>
    obtain⟨b,ys,z,g1,g2⟩:=zam g;cases z;exact(zcM I g1 (SqT.of h1)).elim
   | non=>simp only[Root,Den]at g;cases g
   | int i=>simp only[Root,Den]at g;cases g
   | str i=>simp only[Root,Den]at g;cases g
   | bl _=>simp only[plain]at pe;exact absurd pe (by decide)
   | ty _=>simp only[plain]at pe;exact absurd pe (by decide)
   | dK _ _=>simp only[plain]at pe;exact absurd pe (by decide)
   | dT _ _=>simp only[plain]at pe;exact absurd pe (by decide)
  | lst ds=>
   simp only[plain]at pd;obtain⟨a,xs,rfl,h1,h2⟩:=zam h;cases e with
   | lst es=>
    simp only[plain]at pe;obtain⟨b,ys,z,g1,g2⟩:=zam g;cases z;have e1:=I.zhR h1 g1;subst e1;rw[all ds es xs pd pe h2 g2]
   | tup es=>
    simp only[Root,Den]at g;obtain⟨b,ys,z,g1,g2⟩:=g;cases z;exact(zcM I h1 (SqT.of g1)).elim
   | non=>simp only[Root,Den]at g;cases g
   | int i=>simp only[Root,Den]at g;cases g
   | str i=>simp only[Root,Den]at g;cases g
   | bl _=>simp only[plain]at pe;exact absurd pe (by decide)
   | ty _=>simp only[plain]at pe;exact absurd pe (by decide)
   | dK _ _=>simp only[plain]at pe;exact absurd pe (by decide)
   | dT _ _=>simp only[plain]at pe;exact absurd pe (by decide)
  | bl _=>simp only[plain]at pd;exact absurd pd (by decide)
  | ty _=>simp only[plain]at pd;exact absurd pd (by decide)
  | dK _ _=>simp only[plain]at pd;exact absurd pd (by decide)
  | dT _ _=>simp only[plain]at pd;exact absurd pd (by decide)
  | non=>
   have h':=zcn h;subst h';cases e with
   | non=>rfl
   | int i=>exact nomatch zaG g
   | str i=>exact nomatch zat g
   | tup ds=>obtain⟨_,_,z,_⟩:=zaX g;exact nomatch z
   | lst ds=>obtain⟨_,_,z,_⟩:=zam g;exact nomatch z
   | _=>simp only[plain]at pe;exact absurd pe (by decide)
  | int i=>
   have h':=zaG h;subst h';cases e with
   | non=>exact nomatch zcn g
   | int j=>have:=zaG g;injection this with this;rw[this]
   | str i=>exact nomatch zat g
   | tup ds=>obtain⟨_,_,z,_⟩:=zaX g;exact nomatch z
   | lst ds=>obtain⟨_,_,z,_⟩:=zam g;exact nomatch z
   | _=>simp only[plain]at pe;exact absurd pe (by decide)
  | str i=>
   have h':=zat h;subst h';cases e with
   | non=>exact nomatch zcn g
   | int j=>exact nomatch zaG g
   | str j=>have:=zat g;injection this with this;rw[this]
   | tup ds=>obtain⟨_,_,z,_⟩:=zaX g;exact nomatch z
   | lst ds=>obtain⟨_,_,z,_⟩:=zam g;exact nomatch z
   | _=>simp only[plain]at pe;exact absurd pe (by decide)
theorem zkk {ds es:List PV}{n:Nat}(hn:n=min ds.length es.length):((Ya n).all λj=>decide (ds[j]? = es[j]?))=true↔∀j,j<ds.length->j<es.length->ds[j]? = es[j]?:=by
 rw[XM];constructor
 ·intro h j h1 h2;exact of_decide_eq_true (h j (Ye.mpr (by lia)))
 ·intro h j hj;have:=Ye.mp hj;exact decide_eq_true (h j (by lia) (by lia))
theorem zgr {ds es:List PV}(hl:ds.length=es.length):(∀j,j<ds.length->j<es.length->ds[j]? = es[j]?)↔ds=es:=by
 constructor
 ·intro h;apply List.ext_getElem?;intro j;by_cases hj:j<ds.length
  ·exact h j hj (by lia)
  ·rw[Xz (by lia),Xz (by lia)]
 ·rintro rfl _ _ _;rfl
theorem zel (ds es:List PV):((Ya (min ds.length es.length)).all (λj=>decide (ds[j]? = es[j]?))&&ds.length == es.length)=decide (ds=es):=by
 by_cases hlen:ds.length=es.length
 ·have hb':(ds.length == es.length)=true:=by simp;lia
  rw[hb',Bool.and_true];by_cases h:ds=es
  ·rw[(zkk rfl).mpr ((zgr hlen).mpr h),decide_eq_true h]
  ·rw[decide_eq_false h];cases hq:(Ya (min ds.length es.length)).all (λj=>decide (ds[j]? = es[j]?))with
   | false=>rfl
   | true=>exact absurd ((zgr hlen).mp ((zkk rfl).mp hq)) h
 ·have hb':(ds.length == es.length)=false:=by rw[beq_eq_false_iff_ne];exact hlen
  rw[hb',Bool.and_false,decide_eq_false (λz=>hlen (by rw[z]))]
theorem zhk {ds es:List PV}(hlen:ds.length=es.length):((Ya ds.length).all (λj=>decide (ds[j]? = es[j]?)))=decide (ds=es):=by
 have q:=zel ds es;rw[hlen,Nat.min_self]at q;rw[hlen];simpa using q
theorem zic {i j:Int}:decide (PV.int i=PV.int j)=(i == j):=by
 rw[Bool.eq_iff_iff];simp
theorem zid {i j:Str}:decide (PV.str i=PV.str j)=(i == j):=by
 rw[Bool.eq_iff_iff];simp
theorem zmh {i j:List PV}:decide (PV.tup i=PV.tup j)=decide (i=j):=by
 rw[Bool.eq_iff_iff];simp
theorem zmi {i j:List PV}:decide (PV.lst i=PV.lst j)=decide (i=j):=by
 rw[Bool.eq_iff_iff];simp
theorem zie {A:Around}{n:Nat}{ds es:List PV}{xs ys:List V}{its its2:List Value}(I:Inv X pins σ H s)(r1:Vals xs its)(r2:Vals ys its2)(h1:DenL X.K Fz H ds xs)(h2:DenL X.K Fz' H es ys)(pd:ds.all (plain n)=true)(pe:es.all (plain n)=true)
  (ih:∀(d e:PV) (x y:V) (u v:Value),plain n d=true->plain n e=true->Den X.K Fz H d x->Den X.K Fz' H e y->RelV x u->RelV y v->SeqAt.EqAt A s u v (decide (d=e))) :
  ∀j (h1:j<its.toArray.size) (h2:j<its2.toArray.size),SeqAt.EqAt A s its.toArray[j] its2.toArray[j] (decide (ds[j]? = es[j]?)):=λj h1' h2'=>by
 have l1:=r1.length;have l2:=r2.length;have l3:=h1.length;have l4:=h2.length;rw[Xm]at h1' h2';have e1:ds[j]? = some ds[j]:=Xb (by lia);have e2:es[j]? = some es[j]:=Xb (by lia);obtain⟨x,e3,q3⟩:=h1.get e1;obtain⟨y,e4,q4⟩:=h2.get e2;obtain⟨u1,q1,r1'⟩:=r1.get e3;obtain⟨u2,q2,r2'⟩:=r2.get e4;have f1:its.toArray[j]=u1:=by
  have:its[j]? = some its[j]:=Xb h1';rw[q1]at this;simpa using (Option.some.inj this).symm
 have f2:its2.toArray[j]=u2:=by
  have:its2[j]? = some its2[j]:=Xb h2';rw[q2]at this;simpa using (Option.some.inj this).symm
 rw[f1,f2];have w:decide (ds[j]=es[j])=decide (ds[j]? = es[j]?):=by
  rw[e1,e2];by_cases h:ds[j]=es[j]
  ·rw[decide_eq_true h,decide_eq_true (by rw[h])]
  ·rw[decide_eq_false h,decide_eq_false (λz=>h (Option.some.inj z))]
 rw[<- w];exact ih _ _ _ _ _ _ (XM.mp pd _ (YA _)) (XM.mp pe _ (YA _)) q3 q4 r1' r2'
inductive Leaf:PV->Value->Prop
 | non:Leaf .non .none
 | int (i:Int) (t:Tok):Leaf (.int i) (.int i t)
 | str (i:Str) (t:Tok):Leaf (.str i) (.str i t)
theorem zkl {K:Xa}{Fz:FZ}{H:Hp}{d:PV}{x:V}{u:Value}(hp:plain 0 d=true)(hx:Root K Fz H d x)(rx:RelV x u):Leaf d u:=by
 cases d with
 | non=>rw[zcn hx]at rx;cases rx;exact .non
 | int i=>rw[zaG hx]at rx;obtain⟨t,rfl⟩:=rx;exact .int i t
 | str i=>rw[zat hx]at rx;obtain⟨t,rfl⟩:=rx;exact .str i t
 | _=>simp only[plain]at hp;exact absurd hp (by decide)
theorem zok {A:Around}{s:Shared}{d e:PV}{u v:Value}(h1:Leaf d u)(h2:Leaf e v):SeqAt.RcAt A s u v (decide (d=e))/\SeqAt.RcNeAt A s u v (!decide (d=e))/\SeqAt.EqAt A s u v (decide (d=e)):=by
 have no:∀ {d e:PV} {u v:Value},d≠e->SeqAt.RcAt A s u v false->SeqAt.RcNeAt A s u v true->SeqAt.EqAt A s u v false->SeqAt.RcAt A s u v (decide (d=e))/\SeqAt.RcNeAt A s u v (!decide (d=e))/\SeqAt.EqAt A s u v (decide (d=e)):=λh a b c=>by rw[decide_eq_false h];exact⟨a,b,c⟩
 cases h1<;>cases h2
 ·rw[decide_eq_true rfl];exact⟨SeqAt.RcAt.none_none,SeqAt.RcNeAt.none_none,SeqAt.EqAt.same _⟩
 ·exact no (λz=>nomatch z) (SeqAt.RcAt.none_int _ _) (SeqAt.RcNeAt.none_int _ _) (SeqAt.EqAt.none_int _ _)
 ·exact no (λz=>nomatch z) (SeqAt.RcAt.none_str _ _) (SeqAt.RcNeAt.none_str _ _) (SeqAt.EqAt.none_str _ _)
 ·exact no (λz=>nomatch z) (SeqAt.RcAt.int_none _ _) (SeqAt.RcNeAt.int_none _ _) (SeqAt.EqAt.int_none _ _)
 ·rw[zic];exact⟨SeqAt.RcAt.int_int _ _ _ _,SeqAt.RcNeAt.int_int _ _ _ _,SeqAt.EqAt.int_int _ _ _ _⟩
 ·exact no (λz=>nomatch z) (SeqAt.RcAt.int_str _ _ _ _) (SeqAt.RcNeAt.int_str _ _ _ _) (SeqAt.EqAt.int_str _ _ _ _)
 ·exact no (λz=>nomatch z) (SeqAt.RcAt.str_none _ _) (SeqAt.RcNeAt.str_none _ _) (SeqAt.EqAt.str_none _ _)
 ·exact no (λz=>nomatch z) (SeqAt.RcAt.str_int _ _ _ _) (SeqAt.RcNeAt.str_int _ _ _ _) (SeqAt.EqAt.str_int _ _ _ _)
 ·rw[zid];exact⟨SeqAt.RcAt.str_str _ _ _ _,SeqAt.RcNeAt.str_str _ _ _ _,SeqAt.EqAt.str_str _ _ _ _⟩
theorem zmj (I:Inv X pins σ H s):∀(n:Nat)(A:Around)(d e:PV)(x y:V)(u v:Value),plain n d=true->plain n e=true->A.units+n<cLine->Root X.K Fz H d x->Root X.K Fz' H e y->RelV x u->RelV y v->
  SeqAt.RcAt A s u v (decide (d=e))/\SeqAt.RcNeAt A s u v (!decide (d=e))/\SeqAt.EqAt A s u v (decide (d=e)):=by
 intro n;induction n with
 | zero=>exact λA d e x y u v pd pe hu hx hy rx ry=>zok (zkl pd hx rx) (zkl pe hy ry)
 | succ n ih=>
  intro A d e x y u v pd pe hu hx hy rx ry;have hA:A.units<cLine:=by lia
  have iha:∀(d e:PV) (x y:V) (u v:Value),plain n d=true->plain n e=true->Den X.K Fz H d x->Den X.K Fz' H e y->RelV x u->RelV y v->SeqAt.EqAt A.in1 s u v (decide (d=e)):=
   λd e x y u v pd pe h1 h2 r1 r2=>(ih A.in1 d e x y u v pd pe (by show A.units+1+n<cLine;lia) h1.root h2.root r1 r2).2.2
  have lower:∀c:PV,(∀ds,c≠.tup ds)->(∀ds,c≠.lst ds)->plain (n+1) c=true->plain n c=true:=λc h1 h2 hc=>by
   cases c with
   | tup ds=>exact absurd rfl (h1 ds)
   | lst ds=>exact absurd rfl (h2 ds)
   | non=>cases n<;>rfl
   | int i=>cases n<;>rfl
   | str i=>cases n<;>rfl
   | bl _=>simp only[plain]at hc;exact absurd hc (by decide)
   | ty _=>simp only[plain]at hc;exact absurd hc (by decide)
   | dK _ _=>simp only[plain]at hc;exact absurd hc (by decide)
   | dT _ _=>simp only[plain]at hc;exact absurd hc (by decide)
  have hA':A.units+n<cLine:=by lia
  cases d with
  | tup ds=>
   have hx':=hx;simp only[Root,Den]at hx;obtain⟨a,xs,rfl,ha,h1⟩:=hx;cases rx;obtain⟨its,r1,p1,z1⟩:=I.tuple (SqT.of ha);have p1':s.heap.IsTuple a its.toArray:=p1;cases e with
   | tup es=>
    have hy':=hy;simp only[Root,Den]at hy;obtain⟨b,ys,rfl,hb,h2⟩:=hy;cases ry;obtain⟨its2,r2,p2,z2⟩:=I.tuple (SqT.of hb);have p2':s.heap.IsTuple b its2.toArray:=p2;have he:=zie I r1 r2 h1 h2 (by simpa only[plain]using pd) (by simpa only[plain]using pe) iha;have w:((Ya (min its.toArray.size its2.toArray.size)).all (λj=>decide (ds[j]? = es[j]?))&&its.toArray.size == its2.toArray.size)=decide (PV.tup ds=PV.tup es):=by
     rw[Xm,Xm,<- r1.length,<- r2.length,<- h1.length,<- h2.length,zel,zmh]
    have q:=SeqAt.RcAt.tuples p1' p2' hA he;have q':=SeqAt.RcNeAt.tuples p1' p2' hA he;rw[w]at q q';refine⟨q,q',?_⟩;by_cases hab:a=b
    ·subst hab;rw[zfD I (n+1) _ _ _ pd pe hx' hy',decide_eq_true rfl];exact SeqAt.EqAt.same _
    ·exact SeqAt.EqAt.of_refs hab q
   | lst es=>
    obtain⟨b,ys,rfl,hb,h2⟩:=zam hy;cases ry;obtain⟨its2,r2,p2,z2⟩:=I.list hb;exact⟨df (λz=>nomatch z) (SeqAt.RcAt.tuple_list p1' p2.isList hA),dn (λz=>nomatch z) (SeqAt.RcNeAt.tuple_list p1' p2.isList hA),df (λz=>nomatch z) (SeqAt.EqAt.tuple_list p1' p2.isList hA)⟩
   | non=>simp only[Root,Den]at hy;subst hy;cases ry;exact⟨df (λz=>nomatch z) (SeqAt.RcAt.tuple_none p1' hA),dn (λz=>nomatch z) (SeqAt.RcNeAt.tuple_none p1' hA),df (λz=>nomatch z) (SeqAt.EqAt.tuple_none p1' hA)⟩
   | int i=>simp only[Root,Den]at hy;subst hy;obtain⟨t,rfl⟩:=ry;exact⟨df (λz=>nomatch z) (SeqAt.RcAt.tuple_int i t p1' hA),dn (λz=>nomatch z) (SeqAt.RcNeAt.tuple_int i t p1' hA),df (λz=>nomatch z) (SeqAt.EqAt.tuple_int i t p1' hA)⟩
   | str i=>simp only[Root,Den]at hy;subst hy;obtain⟨t,rfl⟩:=ry;exact⟨df (λz=>nomatch z) (SeqAt.RcAt.tuple_str i t p1' hA),dn (λz=>nomatch z) (SeqAt.RcNeAt.tuple_str i t p1' hA),df (λz=>nomatch z) (SeqAt.EqAt.tuple_str i t p1' hA)⟩
   | bl _=>simp only[plain]at pe;exact absurd pe (by decide)
   | ty _=>simp only[plain]at pe;exact absurd pe (by decide)
   | dK _ _=>simp only[plain]at pe;exact absurd pe (by decide)
   | dT _ _=>simp only[plain]at pe;exact absurd pe (by decide)
  | lst ds=>
   have hx':=hx;obtain⟨a,xs,rfl,ha,h1⟩:=zam hx;cases rx;obtain⟨its,r1,p1,z1⟩:=I.list ha;have p1':=p1.isList;cases e with
   | lst es=>
    have hy':=hy;obtain⟨b,ys,rfl,hb,h2⟩:=zam hy;cases ry;obtain⟨its2,r2,p2,z2⟩:=I.list hb;have he:=zie I r1 r2 h1 h2 (by simpa only[plain]using pd) (by simpa only[plain]using pe) iha;have l1:=r1.length;have l2:=r2.length;have l3:=h1.length;have l4:=h2.length;have key:SeqAt.RcAt A s (.ref a) (.ref b) (decide (PV.lst ds=PV.lst es))/\SeqAt.RcNeAt A s (.ref a) (.ref b) (!decide (PV.lst ds=PV.lst es)):=by
     by_cases hlen:ds.length=es.length
     ·have w:(Ya its.toArray.size).all (λj=>decide (ds[j]? = es[j]?))=decide (PV.lst ds=PV.lst es):=by
       rw[Xm,<- l1,<- l3,zhk hlen,zmi]
      have q:=SeqAt.RcAt.lists p1' p2.isList (by rw[Xm,Xm];lia) hA he;have q':=SeqAt.RcNeAt.lists p1' p2.isList (by rw[Xm,Xm];lia) hA he;rw[w]at q q';exact⟨q,q'⟩
     ·have hne:(its.toArray.size != its2.toArray.size)=true:=by rw[Xm,Xm];simp;lia
      rw[decide_eq_false (λz=>hlen (by rw[PV.lst.inj z]))];exact⟨SeqAt.RcAt.lists_lengths p1' p2.isList hne hA,SeqAt.RcNeAt.lists_lengths p1' p2.isList hne hA⟩
    refine⟨key.1,key.2,?_⟩;by_cases hab:a=b
    ·subst hab;rw[zfD I (n+1) _ _ _ pd pe hx' hy',decide_eq_true rfl];exact SeqAt.EqAt.same _
    ·exact SeqAt.EqAt.of_refs hab key.1
   | tup es=>
    simp only[Root,Den]at hy;obtain⟨b,ys,rfl,hb,h2⟩:=hy;cases ry;obtain⟨its2,r2,p2,z2⟩:=I.tuple (SqT.of hb);have p2':s.heap.IsTuple b its2.toArray:=p2;exact⟨df (λz=>nomatch z) (SeqAt.RcAt.list_tuple p1' p2' hA),dn (λz=>nomatch z) (SeqAt.RcNeAt.list_tuple p1' p2' hA),df (λz=>nomatch z) (SeqAt.EqAt.list_tuple p1' p2' hA)⟩
   | non=>simp only[Root,Den]at hy;subst hy;cases ry;exact⟨df (λz=>nomatch z) (SeqAt.RcAt.list_none p1' hA),dn (λz=>nomatch z) (SeqAt.RcNeAt.list_none p1' hA),df (λz=>nomatch z) (SeqAt.EqAt.list_none p1' hA)⟩
   | int i=>simp only[Root,Den]at hy;subst hy;obtain⟨t,rfl⟩:=ry;exact⟨df (λz=>nomatch z) (SeqAt.RcAt.list_int i t p1' hA),dn (λz=>nomatch z) (SeqAt.RcNeAt.list_int i t p1' hA),df (λz=>nomatch z) (SeqAt.EqAt.list_int i t p1' hA)⟩
   | str i=>simp only[Root,Den]at hy;subst hy;obtain⟨t,rfl⟩:=ry;exact⟨df (λz=>nomatch z) (SeqAt.RcAt.list_str i t p1' hA),dn (λz=>nomatch z) (SeqAt.RcNeAt.list_str i t p1' hA),df (λz=>nomatch z) (SeqAt.EqAt.list_str i t p1' hA)⟩
   | bl _=>simp only[plain]at pe;exact absurd pe (by decide)
   | ty _=>simp only[plain]at pe;exact absurd pe (by decide)
   | dK _ _=>simp only[plain]at pe;exact absurd pe (by decide)
   | dT _ _=>simp only[plain]at pe;exact absurd pe (by decide)
  | bl _=>simp only[plain]at pd;exact absurd pd (by decide)
  | ty _=>simp only[plain]at pd;exact absurd pd (by decide)
  | dK _ _=>simp only[plain]at pd;exact absurd pd (by decide)
  | dT _ _=>simp only[plain]at pd;exact absurd pd (by decide)
  | non=>
   cases e with
   | tup es=>
    simp only[Root,Den]at hx hy;subst hx;cases rx;obtain⟨b,ys,rfl,hb,h2⟩:=hy;cases ry;obtain⟨its2,r2,p2,z2⟩:=I.tuple (SqT.of hb);have p2':s.heap.IsTuple b its2.toArray:=p2;exact⟨df (λz=>nomatch z) (SeqAt.RcAt.none_tuple p2' hA),dn (λz=>nomatch z) (SeqAt.RcNeAt.none_tuple p2' hA),df (λz=>nomatch z) (SeqAt.EqAt.none_tuple p2' hA)⟩
   | lst es=>
    simp only[Root,Den]at hx;subst hx;cases rx;obtain⟨b,ys,rfl,hb,h2⟩:=zam hy;cases ry;obtain⟨its2,r2,p2,z2⟩:=I.list hb;exact⟨df (λz=>nomatch z) (SeqAt.RcAt.none_list p2.isList hA),dn (λz=>nomatch z) (SeqAt.RcNeAt.none_list p2.isList hA),df (λz=>nomatch z) (SeqAt.EqAt.none_list p2.isList hA)⟩
   | _=>exact ih A _ _ x y u v (lower _ (λ_ z=>nomatch z) (λ_ z=>nomatch z) pd) (lower _ (λ_ z=>nomatch z) (λ_ z=>nomatch z) pe) hA' hx hy rx ry
  | int i=>
   cases e with
   | tup es=>
    simp only[Root,Den]at hx hy;subst hx;obtain⟨t,rfl⟩:=rx;obtain⟨b,ys,rfl,hb,h2⟩:=hy;cases ry;obtain⟨its2,r2,p2,z2⟩:=I.tuple (SqT.of hb);have p2':s.heap.IsTuple b its2.toArray:=p2;exact⟨df (λz=>nomatch z) (SeqAt.RcAt.int_tuple i t p2' hA),dn (λz=>nomatch z) (SeqAt.RcNeAt.int_tuple i t p2' hA),df (λz=>nomatch z) (SeqAt.EqAt.int_tuple i t p2' hA)⟩
   | lst es=>
    simp only[Root,Den]at hx;subst hx;obtain⟨t,rfl⟩:=rx;obtain⟨b,ys,rfl,hb,h2⟩:=zam hy;cases ry;obtain⟨its2,r2,p2,z2⟩:=I.list hb;exact⟨df (λz=>nomatch z) (SeqAt.RcAt.int_list i t p2.isList hA),dn (λz=>nomatch z) (SeqAt.RcNeAt.int_list i t p2.isList hA),df (λz=>nomatch z) (SeqAt.EqAt.int_list i t p2.isList hA)⟩
   | _=>exact ih A _ _ x y u v (lower _ (λ_ z=>nomatch z) (λ_ z=>nomatch z) pd) (lower _ (λ_ z=>nomatch z) (λ_ z=>nomatch z) pe) hA' hx hy rx ry
  | str i=>
   cases e with
   | tup es=>
    simp only[Root,Den]at hx hy;subst hx;obtain⟨t,rfl⟩:=rx;obtain⟨b,ys,rfl,hb,h2⟩:=hy;cases ry;obtain⟨its2,r2,p2,z2⟩:=I.tuple (SqT.of hb);have p2':s.heap.IsTuple b its2.toArray:=p2;exact⟨df (λz=>nomatch z) (SeqAt.RcAt.str_tuple i t p2' hA),dn (λz=>nomatch z) (SeqAt.RcNeAt.str_tuple i t p2' hA),df (λz=>nomatch z) (SeqAt.EqAt.str_tuple i t p2' hA)⟩
   | lst es=>
    simp only[Root,Den]at hx;subst hx;obtain⟨t,rfl⟩:=rx;obtain⟨b,ys,rfl,hb,h2⟩:=zam hy;cases ry;obtain⟨its2,r2,p2,z2⟩:=I.list hb;exact⟨df (λz=>nomatch z) (SeqAt.RcAt.str_list i t p2.isList hA),dn (λz=>nomatch z) (SeqAt.RcNeAt.str_list i t p2.isList hA),df (λz=>nomatch z) (SeqAt.EqAt.str_list i t p2.isList hA)⟩
   | _=>exact ih A _ _ x y u v (lower _ (λ_ z=>nomatch z) (λ_ z=>nomatch z) pd) (lower _ (λ_ z=>nomatch z) (λ_ z=>nomatch z) pe) hA' hx hy rx ry
end
noncomputable def rEqP (K:Xa)(neg:Bool):R2:=λx y H Q=>∃Fz d e,Root K Fz H d x/\Root K Fz H e y/\plain 6 d=true/\plain 6 e=true/\Q (.bl (if neg then !decide (d=e) else decide (d=e))) H
noncomputable def pEq (neg:Bool):P2:=λd e Q=>plain 6 d=true/\plain 6 e=true/\Q (.bl (if neg then !decide (d=e) else decide (d=e))) .frz
section
variable {X:Cx}
theorem znl (hu:X.A.units+16<cLine):OpR X (compareOp .Eq) (rEqP X.K false):=by
 intro pins s σ H x y v u Q I rx ry h;obtain⟨Fz,d,e,hx,hy,pd,pe,q⟩:=h;exact(zmj I 6 X.A d e x y v u pd pe (by lia) hx hy rx ry).1 X.prog X.w X.xe _ ⟨.bl _,H,I,rfl,q⟩
theorem zqa (hu:X.A.units+16<cLine):OpR X (compareOp .NotEq) (rEqP X.K true):=by
 intro pins s σ H x y v u Q I rx ry h;obtain⟨Fz,d,e,hx,hy,pd,pe,q⟩:=h;exact(zmj I 6 X.A d e x y v u pd pe (by lia) hx hy rx ry).2.1 X.prog X.w X.xe _ ⟨.bl _,H,I,rfl,q⟩
theorem zkm {K:Xa}{neg:Bool}:POp K (rEqP K neg) (pEq neg) where
 mono d e Q Q' m h:=⟨h.1,h.2.1,m _ _ h.2.2⟩
 run Fz H x y d e Q al rx ry h:=⟨Fz,d,e,rx,ry,h.1,h.2.1,h.2.2 _ Fz H (.val al (by simp only[Den]))⟩
end
section
variable {X:Cx}{a b c:Expr}{ta tb:TPE}{tA tB':TPT}{pos:Pos}{rest:List Expr}
structure PuW (X:Cx)(e:Expr)(t:TPT):Prop where
 mono:∀ρ Q Q',(∀b,Q b->Q' b)->t ρ Q->t ρ Q'
 run:PW X e (liftT X.K t)
theorem PuW.t {e:Expr}{t:TPT}(h:PuW X e t):PuT X e t:=⟨h.mono,h.run.pt⟩
noncomputable def zcA (t u:TPT):TPT:=λρ Q=>t ρ λc=>if c=true then u ρ Q else Q false
noncomputable def tOrP (t u:TPT):TPT:=λρ Q=>t ρ λc=>if c=true then Q true else u ρ Q
noncomputable def zdC (t:TPT):TPT:=λρ Q=>t ρ λc=>Q (!c)
theorem PW.weak {e:Expr}{t t':TT}(h:PW X e t)(w:∀σ H Q,t' σ H Q->t σ H Q):PW X e t':=λwhole pins s σ H Q I q=>h whole pins s σ H Q I (w σ H Q q)
theorem zcN (ha:PuT X a tA):PuW X (.BoolOp .And [a] pos) tA:=⟨ha.mono,znO ha.run⟩
theorem zkn (ha:PuT X a tA):PuW X (.BoolOp .Or [a] pos) tA:=⟨ha.mono,zpp ha.run⟩
theorem and_mono (m1:∀ρ (Q Q':Bool->Prop),(∀b,Q b->Q' b)->tA ρ Q->tA ρ Q')(m2:∀ρ (Q Q':Bool->Prop),(∀b,Q b->Q' b)->tB' ρ Q->tB' ρ Q') :
  ∀ρ (Q Q':Bool->Prop),(∀b,Q b->Q' b)->zcA tA tB' ρ Q->zcA tA tB' ρ Q':=λρ Q Q' m h=>m1 ρ _ _ (λc q=>by
 cases c with
 | true=>rw[if_pos rfl]at q ⊢;exact m2 ρ _ _ m q
 | false=>rw[if_neg Xr]at q ⊢;exact m _ q) h
theorem or_mono (m1:∀ρ (Q Q':Bool->Prop),(∀b,Q b->Q' b)->tA ρ Q->tA ρ Q')(m2:∀ρ (Q Q':Bool->Prop),(∀b,Q b->Q' b)->tB' ρ Q->tB' ρ Q') :
  ∀ρ (Q Q':Bool->Prop),(∀b,Q b->Q' b)->tOrP tA tB' ρ Q->tOrP tA tB' ρ Q':=λρ Q Q' m h=>m1 ρ _ _ (λc q=>by
 cases c with
 | false=>rw[if_neg Xr]at q ⊢;exact m2 ρ _ _ m q
 | true=>rw[if_pos rfl]at q ⊢;exact m _ q) h
theorem zem (ha:PuT X a tA)(hb:PuW X (.BoolOp .And (b::rest) pos) tB'):PuW X (.BoolOp .And (a::b::rest) pos) (zcA tA tB') where
 mono:=and_mono ha.mono hb.mono
 run:=PW.weak (zpq ha.run hb.run) λσ H Q h=>by
  obtain⟨ρ,Fz,R,h⟩:=h;refine⟨ρ,Fz,R,ha.mono ρ _ _ (λc q Fz' H' x=>?_) h⟩;cases c with
  | true=>
   rw[if_pos rfl]at q ⊢;exact⟨ρ,Fz',R.ext x,hb.mono ρ _ _ (λb q Fz2 H2 x2=>q Fz2 H2 (x.trans x2)) q⟩
  | false=>rw[if_neg Xr]at q ⊢;exact q Fz' H' x
theorem znm (ha:PuT X a tA)(hb:PuW X (.BoolOp .Or (b::rest) pos) tB'):PuW X (.BoolOp .Or (a::b::rest) pos) (tOrP tA tB') where
 mono:=or_mono ha.mono hb.mono
 run:=PW.weak (zre ha.run hb.run) λσ H Q h=>by
  obtain⟨ρ,Fz,R,h⟩:=h;refine⟨ρ,Fz,R,ha.mono ρ _ _ (λc q Fz' H' x=>?_) h⟩;cases c with
  | false=>
   rw[if_neg Xr]at q ⊢;exact⟨ρ,Fz',R.ext x,hb.mono ρ _ _ (λb q Fz2 H2 x2=>q Fz2 H2 (x.trans x2)) q⟩
  | true=>rw[if_pos rfl]at q ⊢;exact q Fz' H' x
theorem zen (ha:PuT X a tA):PuT X (.UnaryOp .Not a pos) (zdC tA) where
 mono ρ Q Q' m h:=ha.mono ρ _ _ (λc q=>m _ q) h
 run:=PT.weak (zpr ha.run) λσ H Q h=>h
noncomputable def TruP:PV->Bool->Prop
 | .non,k=>k=false
 | .bl b,k=>k=b
 | .int i,k=>k=(i != 0)
 | .str y,k=>y.length<=sizeLine/\k=((y.length:Int) != 0)
 | .tup ds,k=>k = !ds.isEmpty
 | .lst ds,k=>k = !ds.isEmpty
 | _,_=>False
noncomputable def tTru (te:TPE):TPT:=λρ Q=>te ρ λd _=>∃k,TruP d k/\Q k
theorem TruP.v {K:Xa}{Fz:FZ}{H:Hp}{d:PV}{x:V}{k:Bool}(r:Root K Fz H d x)(t:TruP d k):TruV K x H k:=by
 cases d with
 | non=>cases zcn r;exact t
 | bl b=>cases zek r;exact t
 | int i=>cases zaG r;exact t
 | str y=>cases zat r;exact t
 | tup ds=>
  obtain⟨a,xs,rfl,h1,h2⟩:=zaX r;refine .inr (.inl ⟨xs,h1,?_⟩);have hl:=h2.length;have t':k = !ds.isEmpty:=t;rw[t'];cases ds<;>cases xs<;>simp_all
 | lst ds=>
  obtain⟨a,xs,rfl,h1,h2⟩:=zam r;refine .inl ⟨xs,h1,?_⟩;have hl:=h2.length;have t':k = !ds.isEmpty:=t;rw[t'];cases ds<;>cases xs<;>simp_all
 | ty _=>exact t.elim
 | dK _ _=>exact t.elim
 | dT _ _=>exact t.elim
theorem zcB (ha:PuE X a ta)(he:autoParam (∀whole,isTrue a X.env whole=(do let v <- whole;standAt a.pos;holding [v] (truthy v))) aU2):PuT X a (tTru ta) where
 mono ρ Q Q' m h:=ha.mono ρ _ _ (λd k q58q=>by obtain⟨b,e,q⟩:=q58q;exact⟨b,e,m b q⟩) h
 run:=PT.weak (zlX ha.run he) λσ H Q h=>by
  obtain⟨ρ,Fz,R,h⟩:=h;exact⟨ρ,Fz,R,ha.mono ρ _ _ (λd k q59q v Fz' H' p=>by obtain⟨b,e,q⟩:=q59q;exact⟨b,TruP.v (p.root R) e,q Fz' H' p.ext⟩) h⟩
noncomputable def zdD (ta:TPE):TPE:=λρ Q=>ta ρ λd _=>∃c,d=.bl c/\Q (.bl (!c)) .frz
noncomputable def zcO (ta tb:TPE):TPE:=λρ Q=>ta ρ λd _=>∃c,d=.bl c/\if c=true then tb ρ Q else Q (.bl false) .frz
theorem zqb (ha:PuE X a ta):PuE X (.UnaryOp .Not a pos) (zdD ta) where
 mono ρ Q Q' m h:=ha.mono ρ _ _ (λd k q60q=>by obtain⟨c,e,q⟩:=q60q;exact⟨c,e,m _ _ q⟩) h
 run:=PE.weak (zng ha.run) λσ H Q h=>by
  obtain⟨ρ,Fz,R,h⟩:=h;refine⟨ρ,Fz,R,ha.mono ρ _ _ (λd k ⟨c,e,q⟩ v Fz' H' p=>⟨c,?_,q _ Fz' H' ⟨p.ext,by show Den _ _ _ _ _;simp only[Den]⟩⟩) h⟩;subst e;exact zek (p.root R)
theorem znn {op}{t:TPE}(h:PuE X a t):PuE X (.BoolOp op [a] pos) t:=⟨h.mono,zps h.run⟩
theorem zko (ha:PuE X a ta)(hb:PuE X (.BoolOp .And (b::rest) pos) tb):PuE X (.BoolOp .And (a::b::rest) pos) (zcO ta tb) where
 mono ρ Q Q' m h:=ha.mono ρ _ _ (λd k ⟨c,e,q⟩=>⟨c,e,by
  cases c with
  | true=>rw[if_pos rfl]at q ⊢;exact hb.mono ρ _ _ m q
  | false=>rw[if_neg Xr]at q ⊢;exact m _ _ q⟩) h
 run:=PE.weak (zpt ha.run hb.run) λσ H Q h=>by
  obtain⟨ρ,Fz,R,h⟩:=h;refine⟨ρ,Fz,R,ha.mono ρ _ _ (λd k ⟨c,e,q⟩ v Fz' H' p=>⟨c,?_,?_⟩) h⟩
  ·subst e;exact zek (p.root R)
  ·cases c with
   | true=>
    rw[if_pos rfl]at q ⊢;exact⟨ρ,Fz',R.ext p.ext,hb.mono ρ _ _ (λd k q v Fz2 H2 p2=>q v Fz2 H2 (p2.then p.ext)) q⟩
   | false=>rw[if_neg Xr]at q ⊢;exact q _ Fz' H' ⟨p.ext,by show Den _ _ _ _ _;simp only[Den]⟩
end
noncomputable abbrev OpdL (K:Xa)(Fz':FZ)(H':Hp)(ρ:PEnv)(σ:St)(H:Hp):List (PV×Kd)->List V->Prop:=Paired λp v=>Opd K Fz' H' ρ σ H p.1 p.2 v
noncomputable def zol (K:Xa)(t:TPA):TA:=λσ H Q=>∃ρ Fz,Rel K Fz ρ σ H/\t ρ λops=>∀vs Fz' H',Ext Fz H Fz' H'->OpdL K Fz' H' ρ σ H ops vs->Q vs H'
structure PuA (X:Cx)(es:List Expr)(t:TPA):Prop where
 mono:∀ρ Q Q',(∀ops,Q ops->Q' ops)->t ρ Q->t ρ Q'
 run:PA X es (zol X.K t)
theorem PA.weak {X:Cx}{es:List Expr}{t t':TA}(h:PA X es t)(w:∀σ H Q,t' σ H Q->t σ H Q):PA X es t':=λpos pins s σ H Q I q=>h pos pins s σ H Q I (w σ H Q q)
noncomputable def pNil:TPA:=λ_ Q=>Q []
noncomputable def zaZ (te:TPE)(t:TPA):TPA:=λρ Q=>te ρ λd k=>t ρ λops=>Q ((d,k)::ops)
theorem OpdL.back {K:Xa}{ρ:PEnv}{σ:St}{Fz2:FZ}{H H1 H2:Hp}(s:Same H H1):∀ {ops:List (PV×Kd)}{vs:List V},OpdL K Fz2 H2 ρ σ H1 ops vs->OpdL K Fz2 H2 ρ σ H ops vs
 | _,_,.nil=>.nil
 | _,_,.cons h t=>.cons (Opd.back s h) (OpdL.back s t)
section
variable {X:Cx}{e:Expr}{es:List Expr}{te:TPE}{t:TPA}{pos:Pos}
theorem zad:PuA X [] pNil where
 mono ρ Q Q' m h:=m _ h
 run:=PA.weak zaQ λσ H Q h=>by
  obtain⟨ρ,Fz,R,h⟩:=h;exact h [] Fz H ⟨Same.refl H,λ_ h=>h,λ_ h=>.inl h,R.al⟩ .nil
theorem zab (ha:PuE X e te)(hr:PuA X es t)(hs:autoParam (starEach (e::es) X.env=(false,eval e X.env)::starEach es X.env) aU0):PuA X (e::es) (zaZ te t) where
 mono ρ Q Q' m h:=ha.mono ρ _ _ (λd k h=>hr.mono ρ _ _ (λops h=>m _ h) h) h
 run:=PA.weak (zak ha.run hr.run hs) λσ H Q h=>by
  obtain⟨ρ,Fz,R,h⟩:=h;refine⟨ρ,Fz,R,ha.mono ρ _ _ (λd k h v Fz1 H1 p=>?_) h⟩;refine⟨ρ,Fz1,R.ext p.ext,hr.mono ρ _ _ (λops h vs Fz2 H2 x o=>?_) h⟩;exact h (v::vs) Fz2 H2 (p.ext.trans x) (.cons (Opd.ext x p.opd) (OpdL.back p.ext.same o))
end
noncomputable def zmk (K:Xa)(Fz:FZ)(H:Hp):List PV->List V->Prop:=Paired (Root K Fz H)
theorem OpdL.root {K:Xa}{ρ:PEnv}{σ:St}{Fz Fz':FZ}{H H':Hp}(R:Rel K Fz ρ σ H)(x:Ext Fz H Fz' H'):∀ {ops:List (PV×Kd)}{vs:List V},OpdL K Fz' H' ρ σ H ops vs->zmk K Fz' H' (ops.map (·.1)) vs
 | _,_,.nil=>.nil
 | _,_,.cons h t=>.cons (Post.root R ⟨x,h⟩) (OpdL.root R x t)
noncomputable def noOwn:List (PV×Kd)->Bool
 | []=>true
 | (_,.own _)::_=>false
 | _::r=>noOwn r
theorem OpdL.frozen {K:Xa}{ρ:PEnv}{σ:St}{Fz Fz':FZ}{H H':Hp}(x:Ext Fz H Fz' H'):∀ {ops:List (PV×Kd)}{vs:List V},noOwn ops=true->OpdL K Fz' H' ρ σ H ops vs->
  ∃Fz2,Ext Fz H Fz2 H'/\(∀b,Fz' b->Fz2 b)/\DenL K Fz2 H' (ops.map (·.1)) vs
 | _,_,_,.nil=>⟨Fz',x,λ_ h=>h,DenL.nil⟩
 | (d,k)::ops,v::vs,hn,.cons h t=>by
  cases k with
  | own i=>exact absurd hn Xr
  | frz=>
   obtain⟨F2,x2,s2,h2⟩:=OpdL.frozen x (ops:=ops) hn t;exact⟨F2,x2,s2,DenL.cons (Den.mono (Keep.of (Same.refl _)) s2 _ _ h) h2⟩
  | new=>
   obtain⟨F2,x2,s2,h2⟩:=OpdL.frozen x (ops:=ops) hn t;obtain⟨a,e,hn',_,o⟩:=h;subst e;refine⟨λb=>F2 b\/b=a,x2.add hn' (by obtain⟨o',e,_⟩:=o.at;rw[e];exact λz=>nomatch z),λb h=>.inl (s2 b h),DenL.cons ?_ (DenL.mono (Keep.of (Same.refl _)) (λb h=>.inl h) _ _ h2)⟩;exact(o.mono (Fz':=λb=>F2 b\/b=a) (Keep.of (Same.refl _)) (λb h=>.inl (s2 b h)) (λ_ h=>h)).den (.inr rfl)
noncomputable def pTup (t:TPA):TPE:=λρ Q=>t ρ λops=>noOwn ops=true/\ops.length<=sizeLine/\Q (.tup (ops.map (·.1))) .frz
noncomputable def pLst (t:TPA):TPE:=λρ Q=>t ρ λops=>noOwn ops=true/\ops.length<=sizeLine/\Q (.lst (ops.map (·.1))) .new
section
variable {X:Cx}{es:List Expr}{t:TPA}{pos:Pos}
theorem zno {x1}(h:PuA X es t):PuE X (.Tuple es x1 pos) (pTup t) where
 mono ρ Q Q' m q:=h.mono ρ _ _ (λops q=>⟨q.1,q.2.1,m _ _ q.2.2⟩) q
 run:=PE.weak (zpH h.run) λσ H Q q=>by
  obtain⟨ρ,Fz,R,q⟩:=q;refine⟨ρ,Fz,R,h.mono ρ _ _ (λops q vs Fz' H' x o=>?_) q⟩;obtain⟨hn,hl,q⟩:=q;obtain⟨F2,x2,s2,h2⟩:=o.frozen x hn;have len:=h2.length;rw[Xc]at len;refine⟨by lia,λp hp=>q _ F2 _ ⟨x2.laid hp,?_⟩⟩;show Den _ _ _ _ _;simp only[Den];refine⟨p,vs,rfl,zaj,DenL.mono (Keep.of (λb u e=>by rw[zah (zaA e hp)];exact e)) (λ_ h=>h) _ _ h2⟩
theorem zcv (h:PuA X es t):PuE X (.List es pos) (pLst t) where
 mono ρ Q Q' m q:=h.mono ρ _ _ (λops q=>⟨q.1,q.2.1,m _ _ q.2.2⟩) q
 run:=PE.weak (zhT h.run) λσ H Q q=>by
  obtain⟨ρ,Fz,R,q⟩:=q;refine⟨ρ,Fz,R,h.mono ρ _ _ (λops q vs Fz' H' x o=>?_) q⟩;obtain⟨hn,hl,q⟩:=q;obtain⟨F2,x2,s2,h2⟩:=o.frozen x hn;have len:=h2.length;rw[Xc]at len;refine⟨by lia,λp hp=>q _ F2 _ ⟨x2.laid hp,p,rfl,x.same.free hp,λz=>x2.al p z hp,vs,zaj,?_⟩⟩;exact DenL.mono (Keep.of (λb u e=>by rw[zah (zaA e hp)];exact e)) (λ_ h=>h) _ _ h2
end
mutual
noncomputable def zbl:PV->Bool
 | .tup ds=>zaC ds
 | .lst _=>false
 | .dK _ _=>false
 | .dT _ _=>false
 | _=>true
noncomputable def zaC:List PV->Bool
 | []=>true
 | d::ds=>zbl d&&zaC ds
end
section
variable {K:Xa}{Fz Fz':FZ}{H:Hp}
mutual
theorem zeo:∀(d:PV)(v:V),zbl d=true->Den K Fz H d v->Den K Fz' H d v
 | .non,v,_,h=>by simpa only[Den]using h
 | .bl b,v,_,h=>by simpa only[Den]using h
 | .int i,v,_,h=>by simpa only[Den]using h
 | .str x,v,_,h=>by simpa only[Den]using h
 | .ty n,v,_,h=>by simpa only[Den]using h
 | .tup ds,v,n,h=>by
  simp only[zbl]at n;simp only[Den]at h ⊢;obtain⟨a,xs,e,h1,h2⟩:=h;exact⟨a,xs,e,h1,zbc ds xs n h2⟩
 | .lst ds,v,n,h=>by simp only[zbl]at n;exact absurd n (by decide)
 | .dK ks ds,v,n,h=>by simp only[zbl]at n;exact absurd n (by decide)
 | .dT ks ds,v,n,h=>by simp only[zbl]at n;exact absurd n (by decide)
theorem zbc:∀(ds:List PV)(xs:List V),zaC ds=true->DenL K Fz H ds xs->DenL K Fz' H ds xs
 | [],xs,_,h=>by simpa only[DenL]using h
 | d::ds,xs,n,h=>by
  simp only[zaC,Yr]at n;simp only[DenL]at h ⊢;obtain⟨v,r,e,h1,h2⟩:=h;exact⟨v,r,e,zeo d v n.1 h1,zbc ds r n.2 h2⟩
end
end
noncomputable def zbv:PV->Kd->Bool
 | .lst ds,.new=>zaC ds
 | .dK _ ds,.new=>zaC ds
 | .dT _ ds,.new=>zaC ds
 | d,_=>zbl d
theorem zjd {K:Xa}{Fz Fz':FZ}{H H':Hp}{d:PV}{k:Kd}{v:V}(n:zbv d k=true)(hal:∀b,Fz' b->H b≠none)(h:Opd K Fz H' [] [] H d k v):Opd K Fz' H' [] [] H d k v:=by
 cases k with
 | frz=>
  have n':zbl d=true:=by cases d<;>exact n
  exact zeo d v n' h
 | own i=>exact h
 | new=>
  obtain⟨a,e,hn,_,o⟩:=h;refine⟨a,e,hn,λz=>hal a z hn,?_⟩;cases d with
  | lst ds=>obtain⟨xs,h1,h2⟩:=o;exact⟨xs,h1,zbc ds xs n h2⟩
  | dK ks ds=>obtain⟨xs,h1,h2,h3⟩:=o;exact⟨xs,h1,h2,zbc ds xs n h3⟩
  | dT ks ds=>obtain⟨xs,h1,h2,h3⟩:=o;exact⟨xs,h1,h2,zbc ds xs n h3⟩
  | non=>exact o.elim
  | bl b=>exact o.elim
  | int i=>exact o.elim
  | str x=>exact o.elim
  | ty n=>exact o.elim
  | tup ds=>exact o.elim
noncomputable abbrev PF:=List PV->(PV->Kd->Prop)->Prop
noncomputable def zct (F:PF):Prop:=∀ds Q Q',(∀d k,Q d k->Q' d k)->F ds Q->F ds Q'
noncomputable def spP (K:Xa)(F:PF):Sp:=λvs H Q _=>∃Fz ds,(∀b,Fz b->H b≠none)/\DenL K Fz H ds vs/\F ds λd k=>∀v Fz' H',Post K [] [] Fz H Fz' H' d k v->Q v H'
theorem OpdL.all {K:Xa}{ρ:PEnv}{σ:St}{Fz Fz':FZ}{H H':Hp}(R:Rel K Fz ρ σ H)(x:Ext Fz H Fz' H'):∀ {ops:List (PV×Kd)}{vs:List V},OpdL K Fz' H' ρ σ H ops vs->
  ∃Fz2,(∀b,Fz' b->Fz2 b)/\(∀b,Fz2 b->H' b≠none)/\DenL K Fz2 H' (ops.map (·.1)) vs
 | _,_,.nil=>⟨Fz',λ_ h=>h,x.al,DenL.nil⟩
 | (d,k)::ops,v::vs,.cons h t=>by
  obtain⟨F2,s2,a2,h2⟩:=OpdL.all R x t;have addr:∀a,v=.ref a->Own K Fz' H' d a->∃Fz2,(∀b,Fz' b->Fz2 b)/\(∀b,Fz2 b->H' b≠none)/\DenL K Fz2 H' ((d,k)::ops |>.map (·.1)) (v::vs):=λa e o=>by
   subst e;refine⟨λb=>F2 b\/b=a,λb h=>.inl (s2 b h),λb hb=>?_,DenL.cons ?_ (DenL.mono (Keep.of (Same.refl _)) (λb h=>.inl h) _ _ h2)⟩
   ·rcases hb with hb | rfl
    ·exact a2 b hb
    ·obtain⟨o',e,_⟩:=o.at;rw[e];exact λz=>nomatch z
   ·exact(o.mono (Fz':=λb=>F2 b\/b=a) (Keep.of (Same.refl _)) (λb h=>.inl (s2 b h)) (λ_ h=>h)).den (.inr rfl)
  cases k with
  | frz=>exact⟨F2,s2,a2,DenL.cons (Den.mono (Keep.of (Same.refl _)) s2 _ _ h) h2⟩
  | new=>obtain⟨a,e,_,_,o⟩:=h;exact addr a e o
  | own i=>
   obtain⟨h1,h2'⟩:=h;obtain⟨a,e,_,o⟩:=(R.ext x).own i d h1;rw[h2']at e;cases e;exact addr a rfl o
noncomputable def zbg (F:PF)(t:TPA):TPE:=λρ Q=>t ρ λops=>F (ops.map (·.1)) λd k=>(noOwn ops=true\/zbv d k=true)/\Q d k
section
variable {X:Cx}{k:Nat}{f:Addr}{fd:FuncData}{ps:List Str}{F:PF}{x:Str}{p pos:Pos}{e:Expr}{es:List Expr}{t:TPA}
theorem zml {σ:St}{H:Hp}{Q:VK}(ha:PuA X es t)(m:zct F)(h:lift X.K (zbg F t) σ H Q):zpI (spP X.K F) [] E0 (zol X.K t) σ H Q:=by
 obtain⟨ρ,Fz,R,h⟩:=h;refine⟨ρ,Fz,R,ha.mono ρ _ _ (λops h vs Fz' H' x o=>?_) h⟩;show spP X.K F (vs++[]) H' Q E0;rw[Yd];by_cases hn:noOwn ops=true
 ·obtain⟨F2,x2,s2,h2⟩:=o.frozen x hn;refine⟨F2,ops.map (·.1),x2.al,h2,m _ _ _ (λd k q v Fz3 H3 p3=>?_) h⟩;exact q.2 v Fz3 H3 (p3.behind x2)
 ·obtain⟨F2,s2,a2,h2⟩:=o.all R x;refine⟨F2,ops.map (·.1),a2,h2,m _ _ _ (λd k q v Fz3 H3 p3=>?_) h⟩;have nm:zbv d k=true:=q.1.resolve_left hn;have al:∀b,Fz' b->H3 b≠none:=λb hb z=>x.al b hb (p3.ext.same.free z);refine q.2 v Fz' H3 ⟨⟨x.same.trans p3.ext.same,x.sub,x.new,al⟩,?_⟩;exact((zjd nm x.al p3.opd).up).back x.same
theorem zal (G:FnOk X.prog X.w X.K X.mg X.base CX0 k f fd ps (spP X.K F))(m:zct F)(hr:Room k X.A)(hg:Gl X x)(hm:X.mg x=some (.ref f))(hk:XO X.K (.ref f)=true)(hb:Binds X.K fd ps [])(ha:PuA X (e::es) t)
  (hd:autoParam ((x == ("__debug__" : Str))=false) aU1) (he:autoParam (starEach (e::es) X.env=(false,eval e X.env)::starEach es X.env) aU0) (hpl:autoParam ((backTo pos (starEach es X.env)).any (·.1)=false) aU0) :
  PuE X (.Call (.Name x p) (e::es) [] pos) (zbg F t) where
 mono ρ Q Q' mm h:=ha.mono ρ _ _ (λops h=>m _ _ _ (λd k q=>⟨q.1,mm _ _ q.2⟩) h) h
 run:=PE.weak (zec G hr hg hm hk hb .nil zmd ha.run hd he hpl) λσ H Q h=>zml ha m h
end
structure zfE (K:Xa)(r:List V->Hp->VK->Prop)(p:PF):Prop where
 mono:zct p
 run:∀Fz H ds vs Q,(∀b,Fz b->H b≠none)->zmk K Fz H ds vs->p ds (λz k=>∀v Fz' H',Post K [] [] Fz H Fz' H' z k v->Q v H')->r vs H Q
noncomputable def tB (p:PF)(t:TPA):TPE:=λρ Q=>t ρ λops=>p (ops.map (·.1)) Q
section
variable {X:Cx}{x:Str}{p pos:Pos}{e:Expr}{es:List Expr}{t:TPA}{id T:String}{r:List V->Hp->VK->Prop}{pf:PF}
theorem zqc {σ:St}{H:Hp}{Q:VK}(ha:PuA X es t)(m:zfE X.K r pf)(h:lift X.K (tB pf t) σ H Q):tCB r (zol X.K t) σ H Q:=by
 obtain⟨ρ,Fz,R,h⟩:=h;refine⟨ρ,Fz,R,ha.mono ρ _ _ (λops h vs Fz' H' x o=>?_) h⟩;exact m.run Fz' H' _ vs Q x.al (o.root R x) (m.mono _ _ _ (λd k q v Fz3 H3 p3=>q v Fz3 H3 (p3.behind x)) h)
theorem zdP (hc:zcz X (.builtin id) r)(m:zfE X.K r pf)(hg:Gl X x)(hm:X.mg x=none)(hv:bootBuiltins x=some (.builtin id))(ha:PuA X (e::es) t)(hn:autoParam (x≠"__name__") aU1) (hdb:autoParam ((x == ("__debug__" : Str))=false) aU1)
  (he:autoParam (starEach (e::es) X.env=(false,eval e X.env)::starEach es X.env) aU0) (hpl:autoParam ((backTo pos (starEach es X.env)).any (·.1)=false) aU0):PuE X (.Call (.Name x p) (e::es) [] pos) (tB pf t) where
 mono ρ Q Q' mm h:=ha.mono ρ _ _ (λops h=>m.mono _ _ _ mm h) h
 run:=PE.weak (zbu hc hg hm hv ha.run hn hdb he hpl) λσ H Q h=>zqc ha m h
theorem zgs (hc:zcz X (.type T) r)(m:zfE X.K r pf)(hg:Gl X x)(hm:X.mg x=none)(hv:bootBuiltins x=some (.type T))(ha:PuA X (e::es) t)(hn:autoParam (x≠"__name__") aU1) (hdb:autoParam ((x == ("__debug__" : Str))=false) aU1)
  (he:autoParam (starEach (e::es) X.env=(false,eval e X.env)::starEach es X.env) aU0) (hpl:autoParam ((backTo pos (starEach es X.env)).any (·.1)=false) aU0):PuE X (.Call (.Name x p) (e::es) [] pos) (tB pf t) where
 mono ρ Q Q' mm h:=ha.mono ρ _ _ (λops h=>m.mono _ _ _ mm h) h
 run:=PE.weak (zed hc hg hm hv ha.run hn hdb he hpl) λσ H Q h=>zqc ha m h
end
end PL
namespace PL
open PySem PySem.Spec L2
open PyProof.Rows hiding St
structure POut where
 nx:PEnv->Prop
 rt:PV->Kd->Prop
 bk:PEnv->Prop
 ct:PEnv->Prop
structure POut.le (O O':POut):Prop where
 nx:∀ρ,O.nx ρ->O'.nx ρ
 rt:∀d k,O.rt d k->O'.rt d k
 bk:∀ρ,O.bk ρ->O'.bk ρ
 ct:∀ρ,O.ct ρ->O'.ct ρ
noncomputable abbrev TPS:=PEnv->POut->Prop
noncomputable def Hold (t:TPS)(O:POut)(ρ:PEnv):Prop:=t ρ O
theorem hold {t:TPS}{O:POut}{ρ:PEnv}(h:t ρ O):Hold t O ρ:=h
structure Step (ρ:PEnv)(σ:St)(Fz:FZ)(H:Hp)(Fz':FZ)(H':Hp):Prop where
 sub:∀b,Fz b->Fz' b
 new:∀b,Fz' b->Fz b\/H b=none\/zao ρ σ b
 keep:∀b o,H b=some o->¬ zao ρ σ b->H' b=some o
noncomputable def zaq (ρ:PEnv)(σ:St)(H:Hp)(ρ':PEnv)(σ':St):Prop:=∀b,zao ρ' σ' b->zao ρ σ b\/H b=none
theorem Step.of {ρ:PEnv}{σ:St}{Fz Fz':FZ}{H H':Hp}(x:Ext Fz H Fz' H'):Step ρ σ Fz H Fz' H':=
 ⟨x.sub,λb h=>(x.new b h).elim .inl (λh=>.inr (.inl h)),λb o e _=>x.same b o e⟩
theorem Step.none {ρ:PEnv}{σ:St}{Fz Fz':FZ}{H H':Hp}(s:Step ρ σ Fz H Fz' H'){b:Addr}(h:H' b=Option.none):H b=Option.none\/zao ρ σ b:=by
 by_cases o:zao ρ σ b
 ·exact .inr o
 ·cases e:H b with
  | none=>exact .inl rfl
  | some u=>rw[s.keep b u e o]at h;cases h
theorem Step.trans {ρ ρ':PEnv}{σ σ':St}{F1 F2 F3:FZ}{H1 H2 H3:Hp}(a:Step ρ σ F1 H1 F2 H2)(oi:zaq ρ σ H1 ρ' σ')(b:Step ρ' σ' F2 H2 F3 H3):Step ρ σ F1 H1 F3 H3:=
 ⟨λc h=>b.sub c (a.sub c h),λc h=>by
  rcases b.new c h with h | h | h
  ·exact a.new c h
  ·exact .inr (a.none h)
  ·exact .inr ((oi c h).symm),λc o e n=>by
  refine b.keep c o (a.keep c o e n) λz=>?_;rcases oi c z with z | z
  ·exact n z
  ·rw[e]at z;cases z⟩
theorem zaq.trans {ρ ρ' ρ'':PEnv}{σ σ' σ'':St}{F1 F2:FZ}{H1 H2:Hp}(a:Step ρ σ F1 H1 F2 H2)(oi:zaq ρ σ H1 ρ' σ')(oj:zaq ρ' σ' H2 ρ'' σ''):zaq ρ σ H1 ρ'' σ'':=λc h=>by
 rcases oj c h with h | h
 ·exact oi c h
 ·exact(a.none h).symm
theorem zaq.refl (ρ:PEnv)(σ:St)(H:Hp):zaq ρ σ H ρ σ:=λ_ h=>.inl h
noncomputable def Ret (K:Xa)(ρ:PEnv)(σ:St)(H:Hp)(Fz':FZ)(H':Hp)(d:PV):Kd->V->Prop
 | .frz,v=>Den K Fz' H' d v
 | .new,v=>∃a,v=.ref a/\¬ Fz' a/\Own K Fz' H' d a/\(zao ρ σ a\/H a=none)
 | .own _,_=>False
noncomputable def zcC (K:Xa)(D:Ends)(ρ:PEnv)(σ:St)(Fz:FZ)(H:Hp):POut where
 nx:=λρ'=>∀σ' Fz' H',Step ρ σ Fz H Fz' H'->zaq ρ σ H ρ' σ'->Rel K Fz' ρ' σ' H'->D.nx σ' H'
 bk:=λρ'=>∀σ' Fz' H',Step ρ σ Fz H Fz' H'->zaq ρ σ H ρ' σ'->Rel K Fz' ρ' σ' H'->D.bk σ' H'
 ct:=λρ'=>∀σ' Fz' H',Step ρ σ Fz H Fz' H'->zaq ρ σ H ρ' σ'->Rel K Fz' ρ' σ' H'->D.ct σ' H'
 rt:=λd k=>∀v Fz' H',Step ρ σ Fz H Fz' H'->(∀b,Fz' b->H' b≠none)->Ret K ρ σ H Fz' H' d k v->D.rt v H'
noncomputable def zmm (K:Xa)(t:TPS):TS:=λD σ H=>∃ρ Fz,Rel K Fz ρ σ H/\t ρ (zcC K D ρ σ Fz H)
structure PuS (X:Cx)(st:Stmt)(t:TPS):Prop where
 mono:∀ρ O O',O.le O'->t ρ O->t ρ O'
 run:PS X st (zmm X.K t)
structure PuSs (X:Cx)(st:List Stmt)(t:TPS):Prop where
 mono:∀ρ O O',O.le O'->t ρ O->t ρ O'
 run:PSs X st (zmm X.K t)
theorem PS.weak {X:Cx}{e:Stmt}{t t':TS}(h:PS X e t)(w:∀D σ H,t' D σ H->t D σ H):PS X e t':=λpins s σ H D I q=>h pins s σ H D I (w D σ H q)
theorem PSs.weak {X:Cx}{e:List Stmt}{t t':TS}(h:PSs X e t)(w:∀D σ H,t' D σ H->t D σ H):PSs X e t':=λpins s σ H D I q=>h pins s σ H D I (w D σ H q)
theorem zmn {K:Xa}{D D':Ends}{ρ ρ':PEnv}{σ σ':St}{Fz Fz':FZ}{H H':Hp}(s:Step ρ σ Fz H Fz' H')(oi:zaq ρ σ H ρ' σ')(h1:∀σ H,D.nx σ H->D'.nx σ H)(h2:∀v H,D.rt v H->D'.rt v H)(h3:∀σ H,D.bk σ H->D'.bk σ H)(h4:∀σ H,D.ct σ H->D'.ct σ H) :
  (zcC K D ρ σ Fz H).le (zcC K D' ρ' σ' Fz' H') where
 nx ρ2 q σ2 F2 H2 s2 o2 R2:=h1 _ _ (q σ2 F2 H2 (s.trans oi s2) (zaq.trans s oi o2) R2)
 bk ρ2 q σ2 F2 H2 s2 o2 R2:=h3 _ _ (q σ2 F2 H2 (s.trans oi s2) (zaq.trans s oi o2) R2)
 ct ρ2 q σ2 F2 H2 s2 o2 R2:=h4 _ _ (q σ2 F2 H2 (s.trans oi s2) (zaq.trans s oi o2) R2)
 rt d k q v F2 H2 s2 al r:=h2 _ _ (q v F2 H2 (s.trans oi s2) al (by
  cases k with
  | frz=>exact r
  | own i=>exact r
  | new=>
   obtain⟨a,e,nf,o,w⟩:=r;refine⟨a,e,nf,o,?_⟩;rcases w with w | w
   ·exact oi a w
   ·exact(s.none w).symm))
theorem zaR {K:Xa}{D:Ends}{ρ ρ':PEnv}{σ σ':St}{Fz Fz':FZ}{H H':Hp}(s:Step ρ σ Fz H Fz' H')(oi:zaq ρ σ H ρ' σ'):(zcC K D ρ σ Fz H).le (zcC K D ρ' σ' Fz' H'):=
 zmn s oi (λ_ _ h=>h) (λ_ _ h=>h) (λ_ _ h=>h) (λ_ _ h=>h)
section
variable {X:Cx}{st:Stmt}{rest:List Stmt}{t u:TPS}{e:Expr}{te:TPE}{pos:Pos}
noncomputable def zcP:TPS:=λρ O=>O.nx ρ
noncomputable def pSeq (t u:TPS):TPS:=λρ O=>t ρ { O with nx:=Hold u O }
theorem zaM:PuSs X [] zcP where
 mono ρ O O' m h:=m.nx _ h
 run:=PSs.weak zgZ λD σ H h=>by
  obtain⟨ρ,Fz,R,h⟩:=h;exact h σ Fz H (.of ⟨Same.refl H,λ_ h=>h,λ_ h=>.inl h,R.al⟩) (zaq.refl ρ σ H) R
theorem zai (h1:PuS X st t):PuSs X [st] t:=⟨h1.mono,zch h1.run⟩
theorem zaf (h1:PuS X st t)(h2:PuSs X rest u):PuSs X (st::rest) (pSeq t u) where
 mono ρ O O' m h:=h1.mono ρ { O with nx:=λρ'=>u ρ' O } _ ⟨λρ' q=>h2.mono ρ' _ _ m q,m.rt,m.bk,m.ct⟩ h
 run:=PSs.weak (zaS h1.run h2.run) λD σ H h=>by
  obtain⟨ρ,Fz,R,h⟩:=h;refine⟨ρ,Fz,R,h1.mono ρ { zcC X.K D ρ σ Fz H with nx:=λρ'=>u ρ' (zcC X.K D ρ σ Fz H) } _ ⟨λρ' q=>?_,λ_ _ q=>q,λ_ q=>q,λ_ q=>q⟩ h⟩;intro σ' Fz' H' s oi R';exact⟨ρ',Fz',R',h2.mono ρ' _ _ (zaR s oi) q⟩
noncomputable def pRet (te:TPE):TPS:=λρ O=>te ρ λd k=>O.rt d (match k with | .frz=>.frz | _=>.new)
theorem zaD (he:PuE X e te):PuS X (.Return (some e) pos) (pRet te) where
 mono ρ O O' m h:=he.mono ρ _ _ (λ_ _ q=>m.rt _ _ q) h
 run:=PS.weak (zgd he.run) λD σ H h=>by
  obtain⟨ρ,Fz,R,h⟩:=h;refine⟨ρ,Fz,R,he.mono ρ _ _ (λd k q v Fz' H' p=>q v Fz' H' (.of p.ext) p.ext.al ?_) h⟩;cases k with
  | frz=>exact p.opd
  | new=>obtain⟨a,e,hn,nf,o⟩:=p.opd;exact⟨a,e,nf,o,.inr hn⟩
  | own i=>
   obtain⟨h1,h2⟩:=p.opd;obtain⟨a,e,nf,o⟩:=(R.ext p.ext).own i d h1;rw[h2]at e;cases e;exact⟨a,rfl,nf,o,.inl ⟨i,d,h1,h2⟩⟩
noncomputable def pIf (c:TPT)(t u:TPS):TPS:=λρ O=>c ρ λb=>if b=true then Hold t O ρ else Hold u O ρ
theorem zbw {c:Expr}{a b:List Stmt}{tc:TPT}(hc:PuT X c tc)(ha:PuSs X a t)(hb:PuSs X b u):PuS X (.If c a b pos) (pIf tc t u) where
 mono ρ O O' m h:=hc.mono ρ _ _ (λd q=>by
  cases d with
  | true=>rw[if_pos rfl]at q ⊢;exact ha.mono ρ _ _ m q
  | false=>rw[if_neg Xr]at q ⊢;exact hb.mono ρ _ _ m q) h
 run:=PS.weak (zlT hc.run ha.run hb.run) λD σ H h=>by
  obtain⟨ρ,Fz,R,h⟩:=h;refine⟨ρ,Fz,R,hc.mono ρ _ _ (λd q Fz' H' x=>?_) h⟩;cases d with
  | true=>
   rw[if_pos rfl]at q ⊢;exact⟨ρ,Fz',R.ext x,ha.mono ρ _ _ (zaR (.of x) (zaq.refl ρ σ H)) q⟩
  | false=>
   rw[if_neg Xr]at q ⊢;exact⟨ρ,Fz',R.ext x,hb.mono ρ _ _ (zaR (.of x) (zaq.refl ρ σ H)) q⟩
noncomputable def zcu (i:Nat)(ρ:PEnv):PEnv:=match ρ[i]? with
 | some (some (d,true))=>ρ.set i (some (d,false))
 | _=>ρ
noncomputable def pFrz (i:Nat)(t:TPS):TPS:=λρ O=>t (zcu i ρ) O
end
section
variable {K:Xa}{Fz:FZ}{ρ:PEnv}{σ:St}{H:Hp}
theorem Rel.set {i:Nat}{d:PV}{v:V}(R:Rel K Fz ρ σ H)(h:Den K Fz H d v):Rel K Fz (ρ.set i (some (d,false))) (σ.set i (some v)) H where
 al:=R.al
 len:=by rw[XS,XS];exact R.len
 frz j e he:=by
  by_cases hij:i=j
  ·subst hij;by_cases hi:i<ρ.length
   ·rw[Xd hi]at he;cases he;exact⟨v,by rw[Xd (by rw[<- R.len];exact hi)],h⟩
   ·rw[XD (by lia),Xz (by lia)]at he;cases he
  ·rw[Xf hij]at he ⊢;exact R.frz j e he
 own j e he:=by
  by_cases hij:i=j
  ·subst hij;by_cases hi:i<ρ.length
   ·rw[Xd hi]at he;cases he
   ·rw[XD (by lia),Xz (by lia)]at he;cases he
  ·rw[Xf hij]at he ⊢;exact R.own j e he
 inj j k d' e a h1 h2 h3 h4:=by
  have nj:i≠j:=λz=>by
   subst z;by_cases hi:i<ρ.length
   ·rw[Xd hi]at h1;cases h1
   ·rw[XD (by lia),Xz (by lia)]at h1;cases h1
  have nk:i≠k:=λz=>by
   subst z;by_cases hi:i<ρ.length
   ·rw[Xd hi]at h2;cases h2
   ·rw[XD (by lia),Xz (by lia)]at h2;cases h2
  rw[Xf nj]at h1 h3;rw[Xf nk]at h2 h4;exact R.inj j k d' e a h1 h2 h3 h4
theorem zdn {i:Nat}{d:PV}{v:V}:∀b,zao (ρ.set i (some (d,false))) (σ.set i (some v)) b->zao ρ σ b:=λb ⟨j,e,h1,h2⟩=>by
 have nj:i≠j:=λz=>by
  subst z;by_cases hi:i<ρ.length
  ·rw[Xd hi]at h1;cases h1
  ·rw[XD (by lia),Xz (by lia)]at h1;cases h1
 rw[Xf nj]at h1 h2;exact⟨j,e,h1,h2⟩
theorem Rel.zqd {i:Nat}{d:PV}{a:Addr}(R:Rel K Fz ρ σ H)(nf:¬ Fz a)(h:Own K Fz H d a)(hno:¬ zao ρ σ a):Rel K Fz (ρ.set i (some (d,true))) (σ.set i (some (.ref a))) H where
 al:=R.al
 len:=by rw[XS,XS];exact R.len
 frz j e he:=by
  by_cases hij:i=j
  ·subst hij;by_cases hi:i<ρ.length
   ·rw[Xd hi]at he;cases he
   ·rw[XD (by lia),Xz (by lia)]at he;cases he
  ·rw[Xf hij]at he ⊢;exact R.frz j e he
 own j e he:=by
  by_cases hij:i=j
  ·subst hij;by_cases hi:i<ρ.length
   ·rw[Xd hi]at he;cases he;exact⟨a,by rw[Xd (by rw[<- R.len];exact hi)],nf,h⟩
   ·rw[XD (by lia),Xz (by lia)]at he;cases he
  ·rw[Xf hij]at he ⊢;exact R.own j e he
 inj j k d' e b h1 h2 h3 h4:=by
  by_cases hj:i=j
  ·by_cases hk:i=k
   ·rw[<- hj,<- hk]
   ·subst hj;rw[Xf hk]at h2 h4;by_cases hi:i<σ.length
    ·rw[Xd hi]at h3;cases h3;exact absurd ⟨k,e,h2,h4⟩ hno
    ·rw[XD (by lia),Xz (by lia)]at h3;cases h3
  ·by_cases hk:i=k
   ·subst hk;rw[Xf hj]at h1 h3;by_cases hi:i<σ.length
    ·rw[Xd hi]at h4;cases h4;exact absurd ⟨j,d',h1,h3⟩ hno
    ·rw[XD (by lia),Xz (by lia)]at h4;cases h4
   ·rw[Xf hj]at h1 h3;rw[Xf hk]at h2 h4;exact R.inj j k d' e b h1 h2 h3 h4
theorem zje {i:Nat}{d:PV}{a:Addr}:∀b,zao (ρ.set i (some (d,true))) (σ.set i (some (.ref a))) b->b=a\/zao ρ σ b:=λb ⟨j,e,h1,h2⟩=>by
 by_cases hij:i=j
 ·subst hij;by_cases hi:i<σ.length
  ·rw[Xd hi]at h2;cases h2;exact .inl rfl
  ·rw[XD (by lia),Xz (by lia)]at h2;cases h2
 ·rw[Xf hij]at h1 h2;exact .inr ⟨j,e,h1,h2⟩
theorem Rel.frozen {i:Nat}(R:Rel K Fz ρ σ H):∃Fz',Rel K Fz' (zcu i ρ) σ H/\Step ρ σ Fz H Fz' H/\zaq ρ σ H (zcu i ρ) σ:=by
 unfold zcu;split
 ·rename_i d he
  obtain⟨a,e,nf,o⟩:=R.own i d he;have R2:Rel K (λb=>Fz b\/b=a) (ρ.set i (some (d,false))) (σ.set i (some (.ref a))) H:=by
   have hno:∀j d',i≠j->ρ[j]? = some (some (d',true))->σ[j]?≠some (some (.ref a)):=λj d' hne h1 h2=>hne (R.inj i j d d' a he h1 e h2);have hal:∀b,(Fz b\/b=a)->H b≠none:=λb hb=>by
    rcases hb with hb | rfl
    ·exact R.al b hb
    ·obtain⟨o',q,_⟩:=o.at;rw[q];exact λz=>nomatch z
   refine⟨hal,by rw[XS,XS];exact R.len,λj e' he'=>?_,λj e' he'=>?_,λj k d' e' b h1 h2 h3 h4=>?_⟩
   ·by_cases hij:i=j
    ·subst hij;have hi:i<ρ.length:=(Xj.mp he).1;rw[Xd hi]at he';cases he';exact⟨_,by rw[Xd (by rw[<- R.len];exact hi)],(o.mono (Fz':=λb=>Fz b\/b=a) (Keep.of (Same.refl _)) (λ_ h=>.inl h) (λ_ h=>h)).den (.inr rfl)⟩
    ·rw[Xf hij]at he' ⊢;obtain⟨v,q1,q2⟩:=R.frz j e' he';exact⟨v,q1,Den.mono (Keep.of (Same.refl _)) (λ_ h=>.inl h) _ _ q2⟩
   ·have hij:i≠j:=λz=>by
     subst z;have hi:i<ρ.length:=(Xj.mp he).1;rw[Xd hi]at he';cases he'
    rw[Xf hij]at he' ⊢;obtain⟨b,q1,q2,q3⟩:=R.own j e' he';refine⟨b,q1,λz=>?_,q3.mono (Keep.of (Same.refl _)) (λ_ h=>.inl h) (λ_ h=>h)⟩;rcases z with z | z
    ·exact q2 z
    ·subst z;exact hno j e' hij he' q1
   ·have hi:i<ρ.length:=(Xj.mp he).1;have nj:i≠j:=λz=>by subst z;rw[Xd hi]at h1;cases h1
    have nk:i≠k:=λz=>by subst z;rw[Xd hi]at h2;cases h2
    rw[Xf nj]at h1 h3;rw[Xf nk]at h2 h4;exact R.inj j k d' e' b h1 h2 h3 h4
  have es:σ.set i (some (.ref a))=σ:=List.ext_getElem? λj=>by
   by_cases hij:i=j
   ·subst hij;rw[Xd (Xj.mp e).1,e]
   ·rw[Xf hij]
  refine⟨λb=>Fz b\/b=a,by rw[es]at R2;exact R2,⟨λ_ h=>.inl h,λb hb=>?_,λb o e _=>e⟩,λb hb=>?_⟩
  ·rcases hb with hb | rfl
   ·exact .inl hb
   ·exact .inr (.inr ⟨i,d,he,e⟩)
  ·have:=zdn (ρ:=ρ) (σ:=σ) (i:=i) (d:=d) (v:=.ref a) b (by rw[es];exact hb);exact .inl this
 ·exact⟨Fz,R,.of ⟨Same.refl H,λ_ h=>h,λ_ h=>.inl h,R.al⟩,zaq.refl ρ σ H⟩
end
section
variable {X:Cx}{st:Stmt}{sts:List Stmt}{t:TPS}
theorem zep (i:Nat)(h:PuS X st t):PuS X st (pFrz i t) where
 mono ρ O O' m q:=h.mono _ _ _ m q
 run:=PS.weak h.run λD σ H q=>by
  obtain⟨ρ,Fz,R,q⟩:=q;obtain⟨F2,R2,s2,o2⟩:=R.frozen (i:=i);exact⟨_,F2,R2,h.mono _ _ _ (zaR s2 o2) q⟩
end
noncomputable def pSet (i:Nat)(te:TPE):TPS:=λρ O=>te ρ λd k=>match k with
 | .frz=>O.nx (ρ.set i (some (d,false)))
 | .new=>O.nx (ρ.set i (some (d,true)))
 | .own _=>False
theorem zmo {X:Cx}{e:Expr}{te:TPE}{i:Nat}(he:PuE X e te){D:Ends}{σ:St}{H:Hp}(h:zmm X.K (pSet i te) D σ H):tAsg (lift X.K te) (znP i) D σ H:=by
 obtain⟨ρ,Fz,R,h⟩:=h;refine⟨ρ,Fz,R,he.mono ρ _ _ (λd k q v Fz' H' p=>?_) h⟩;show D.nx (σ.set i (some v)) H';have R':=R.ext p.ext;cases k with
 | frz=>exact(show(zcC X.K D ρ σ Fz H).nx (ρ.set i (some (d,false))) from q) _ Fz' H' (.of p.ext) (λb hb=>.inl (zdn b hb)) (R'.set p.opd)
 | own j=>exact q.elim
 | new=>
  obtain⟨a,e,hn,nf,o⟩:=p.opd;subst e;have hno:¬ zao ρ σ a:=λ⟨j,e,h1,h2⟩=>by
   obtain⟨b,q1,_,q2⟩:=R.own j e h1;rw[h2]at q1;cases q1;obtain⟨o',q3,_⟩:=q2.at;rw[hn]at q3;cases q3
  refine(show(zcC X.K D ρ σ Fz H).nx (ρ.set i (some (d,true))) from q) _ Fz' H' (.of p.ext) (λb hb=>?_) (R'.zqd nf o hno);rcases zje b hb with rfl | hb
  ·exact .inr hn
  ·exact .inl hb
theorem zkp {X:Cx}{e:Expr}{te:TPE}{i:Nat}(he:PuE X e te):∀ρ O O',POut.le O O'->pSet i te ρ O->pSet i te ρ O':=λρ O O' m h=>he.mono ρ _ _ (λd k q=>by
 cases k with
 | frz=>exact m.nx _ q
 | new=>exact m.nx _ q
 | own j=>exact q) h
section
variable {X:Cx}{e:Expr}{te:TPE}{pos:Pos}
theorem zan {i:Nat}{x:Str}{pos':Pos}(hN:X.N.Nodup)(hi:X.N[i]? = some x)(hx:Loc X.env.scope x)(he:PuE X e te)(hs:autoParam (swapsWith e (some (.Name x pos')) pos.line X.env=pure false) aU0)(hf:autoParam (X.fn x=true\/X.env.scope.names.lookup x=some .local) aU3) :
  PuS X (.Assign [.Name x pos'] e pos) (pSet i te):=
 ⟨zkp he,PS.weak (zcH hN hi hx he.run hs hf) λ_ _ _ h=>zmo he h⟩
end
noncomputable abbrev TPG:=PV->PEnv->(PEnv->Prop)->Prop
noncomputable abbrev TPGs:=List PV->PEnv->(PEnv->Prop)->Prop
noncomputable def zeU (K:Xa)(t:TPG):TG:=λv σ H Q=>∃ρ Fz d,Rel K Fz ρ σ H/\Den K Fz H d v/\t d ρ λρ'=>∀σ',Rel K Fz ρ' σ' H->(∀b,zao ρ' σ' b->zao ρ σ b)->Q σ' H
noncomputable def zqe (K:Xa)(t:TPGs):TGs:=λvs σ H Q=>∃ρ Fz ds,Rel K Fz ρ σ H/\DenL K Fz H ds vs/\t ds ρ λρ'=>∀σ',Rel K Fz ρ' σ' H->(∀b,zao ρ' σ' b->zao ρ σ b)->Q σ' H
structure PuG (X:Cx)(tg:Expr)(t:TPG):Prop where
 mono:∀d ρ Q Q',(∀ρ,Q ρ->Q' ρ)->t d ρ Q->t d ρ Q'
 run:PG X tg (zeU X.K t)
structure PuGs (X:Cx)(tgs:List Expr)(t:TPGs):Prop where
 mono:∀ds ρ Q Q',(∀ρ,Q ρ->Q' ρ)->t ds ρ Q->t ds ρ Q'
 run:PGs X tgs (zqe X.K t)
theorem PG.weak {X:Cx}{e:Expr}{t t':TG}(h:PG X e t)(w:∀v σ H Q,t' v σ H Q->t v σ H Q):PG X e t':=λpins s σ H v u Q I r q=>h pins s σ H v u Q I r (w v σ H Q q)
theorem PGs.weak {X:Cx}{e:List Expr}{t t':TGs}(h:PGs X e t)(w:∀v σ H Q,t' v σ H Q->t v σ H Q):PGs X e t':=λpins s σ H v u Q I r q=>h pins s σ H v u Q I r (w v σ H Q q)
noncomputable def zbI (i:Nat):TPG:=λd ρ Q=>Q (ρ.set i (some (d,false)))
noncomputable def zdE:TPGs:=λds ρ Q=>ds=[]/\Q ρ
noncomputable def zbV (t:TPG)(u:TPGs):TPGs:=λds ρ Q=>∃d r,ds=d::r/\t d ρ λρ'=>u r ρ' Q
noncomputable def zdF (n:Nat)(t:TPGs):TPG:=λd ρ Q=>∃ds,d=.tup ds/\ds.length=n/\t ds ρ Q
section
variable {X:Cx}{pos:Pos}
theorem zaz {i:Nat}{x:Str}(hN:X.N.Nodup)(hi:X.N[i]? = some x)(hx:Loc X.env.scope x)(hf:autoParam (X.fn x=true\/X.env.scope.names.lookup x=some .local) aU3):PuG X (.Name x pos) (zbI i) where
 mono d ρ Q Q' m h:=m _ h
 run:=PG.weak (zha hN hi hx hf) λv σ H Q h=>by
  obtain⟨ρ,Fz,d,R,hd,h⟩:=h;exact h _ (R.set hd) (λb hb=>zdn b hb)
theorem zmp:PuGs X [] zdE where
 mono d ρ Q Q' m h:=⟨h.1,m _ h.2⟩
 run:=PGs.weak znQ λv σ H Q h=>by
  obtain⟨ρ,Fz,ds,R,hd,e,h⟩:=h;subst e;simp only[DenL]at hd;exact⟨hd,h σ R (λ_ h=>h)⟩
theorem zgt {e:Expr}{es:List Expr}{t:TPG}{u:TPGs}(h1:PuG X e t)(h2:PuGs X es u)
  (hs:autoParam ((assignEach (e::es) X.env).map (·.2)=assign e X.env::(assignEach es X.env).map (·.2)) aU0):PuGs X (e::es) (zbV t u) where
 mono ds ρ Q Q' m h:=by
  obtain⟨d,r,e,h⟩:=h;exact⟨d,r,e,h1.mono d ρ _ _ (λρ' q=>h2.mono r ρ' _ _ m q) h⟩
 run:=PGs.weak (zlU h1.run h2.run hs) λvs σ H Q h=>by
  obtain⟨ρ,Fz,ds,R,hd,d,r,e,h⟩:=h;subst e;simp only[DenL]at hd;obtain⟨v,rs,e,d1,d2⟩:=hd;subst e;refine⟨v,rs,rfl,ρ,Fz,d,R,d1,h1.mono d ρ _ _ (λρ' q σ' R' o'=>?_) h⟩;exact⟨ρ',Fz,r,R',d2,h2.mono r ρ' _ _ (λρ2 q σ2 R2 o2=>q σ2 R2 (λb hb=>o' b (o2 b hb))) q⟩
theorem zom {es:List Expr}{k:Nat}{t:TPGs}{n:Nat}(hc:X.calm=true)(h:PuGs X es t)
  (hn:autoParam ((assignEach es X.env).length=n) aU0) (hst:autoParam ((assignEach es X.env).findIdx? (·.1)=none) aU0):PuG X (.Tuple es k pos) (zdF n t) where
 mono d ρ Q Q' m q:=by
  obtain⟨ds,e,l,q⟩:=q;exact⟨ds,e,l,h.mono ds ρ _ _ m q⟩
 run:=PG.weak (zpu hc h.run hn hst) λv σ H Q q=>by
  obtain⟨ρ,Fz,d,R,hd,ds,e,l,q⟩:=q;subst e;simp only[Den]at hd;obtain⟨a,xs,e,h1,h2⟩:=hd;have hl:=h2.length;exact⟨a,xs,e,SqT.of h1,by lia,ρ,Fz,ds,R,h2,q⟩
end
noncomputable def LocG (k:Nat)(t:TPG):Prop:=∀d ρ Q,t d ρ Q->t d ρ λρ'=>Q ρ'/\ρ'.length=ρ.length/\∀j,k<=j->ρ'[j]? = ρ[j]?
theorem zbN {k i:Nat}(h:i<k):LocG k (zbI i):=λd ρ Q q=>⟨q,by rw[XS],λj hj=>by rw[Xf (by lia)]⟩
noncomputable abbrev TPI:=PEnv->(List PV->Bool->Prop)->Prop
noncomputable def Walk (K:Xa)(Fz:FZ)(o:Bool)(J:It)(its:List PV)(H:Hp):Prop:=∀H2,(Same H H2\/(o=false/\zhi Fz H H2))->∀i:Nat,
 (∀d,its[i]? = some d->J.go i H2/\∀x H3,J.yld i H2 x H3->Same H2 H3/\Den K Fz H3 d x)/\(its.length<=i->J.stop i H2)
noncomputable def zon (K:Xa)(t:TPI):TI:=λσ H R=>∃ρ Fz,Rel K Fz ρ σ H/\t ρ λits o=>∀J Fz' H',Ext Fz H Fz' H'->Walk K Fz' o J its H'->R J H'
structure PuI (X:Cx)(tg iter:Expr)(t:TPI):Prop where
 mono:∀ρ Q Q',(∀its o,Q its o->Q' its o)->t ρ Q->t ρ Q'
 run:PI X tg iter (zon X.K t)
theorem PI.weak {X:Cx}{tg e:Expr}{t t':TI}(h:PI X tg e t)(w:∀σ H Q,t' σ H Q->t σ H Q):PI X tg e t':=λpins s σ H Q I q=>h pins s σ H Q I (w σ H Q q)
noncomputable def isOwn:Kd->Bool
 | .own _=>true
 | _=>false
noncomputable def iLst (te:TPE):TPI:=λρ Q=>te ρ λd k=>∃ds,d=.lst ds/\Q ds (isOwn k)
noncomputable def zdG (te:TPE):TPI:=λρ Q=>te ρ λd k=>∃ds,d=.tup ds/\Q ds false
section
variable {X:Cx}{tg e:Expr}{te:TPE}
theorem zbe (he:PuE X e te):PuI X tg e (iLst te) where
 mono ρ Q Q' m h:=he.mono ρ _ _ (λd k q67q=>by obtain⟨ds,e,q⟩:=q67q;exact⟨ds,e,m _ _ q⟩) h
 run:=PI.weak (zjI he.run) λσ H Rr h=>by
  obtain⟨ρ,Fz,R,h⟩:=h;refine⟨ρ,Fz,R,he.mono ρ _ _ (λd k q v Fz' H' p=>?_) h⟩;obtain⟨ds,e,q⟩:=q;subst e;have rt:=p.root R;obtain⟨a,xs,rfl,h1,h2⟩:=zam rt;refine⟨a,rfl,⟨xs,h1⟩,?_⟩;have walk:∀(F2:FZ) (o:Bool),(∀b,Fz' b->F2 b)->(∀H2,(Same H' H2\/(o=false/\zhi F2 H' H2))->SqL X.K H2 a xs/\Keep F2 H' H2)->Walk X.K F2 o (Itl X.K a) ds H':=λF2 o s2 st H2 hH i=>by
   obtain⟨g1,g2⟩:=st H2 hH;have g3:DenL X.K F2 H2 ds xs:=DenL.mono g2 (λ_ h=>h) _ _ (DenL.mono (Keep.of (Same.refl _)) s2 _ _ h2);have hl:=g3.length;refine⟨λd hd=>?_,λhi=>⟨xs,g1,by lia⟩⟩;obtain⟨v,q1,q2⟩:=g3.get hd;exact⟨⟨xs,v,g1,q1⟩,λx H3 ⟨e,y⟩=>by
    subst e;have:=y xs g1;rw[q1]at this;cases this;exact⟨Same.refl _,q2⟩⟩
  cases k with
  | own i=>exact q _ Fz' H' p.ext (walk Fz' true (λ_ h=>h) λH2 hH=>by
    rcases hH with hH | ⟨z,_⟩
    ·exact⟨hH.seq h1,.of hH⟩
    ·cases z)
  | frz=>
   have pd:Den X.K Fz' H' (.lst ds) (.ref a):=p.opd;simp only[Den]at pd;obtain⟨a',xs',e,h3,h4⟩:=pd;cases e;refine q _ Fz' H' p.ext ?_;intro H2 hH i;have kp:Keep Fz' H' H2:=hH.elim (λz=>.of z) (λz=>.mk' z.2);have g1:SqL X.K H2 a xs':=h3.elim (λh=>.inl (kp.rd trivial h.1 h.2)) KX.sq;have g3:DenL X.K Fz' H2 ds xs':=DenL.mono kp (λ_ h=>h) _ _ h4;have hl:=g3.length;refine⟨λd hd=>?_,λhi=>⟨xs',g1,by lia⟩⟩;obtain⟨v,q1,q2⟩:=g3.get hd;exact⟨⟨xs',v,g1,q1⟩,λx H3 ⟨e,y⟩=>by
    subst e;have:=y xs' g1;rw[q1]at this;cases this;exact⟨Same.refl _,q2⟩⟩
  | new=>
   obtain⟨b,e,hn,nf,o⟩:=p.opd;cases e;obtain⟨xs',o1,o2⟩:=o;refine q _ (λb=>Fz' b\/b=a) H' (p.ext.add hn (by rw[o1];exact λz=>nomatch z)) ?_;intro H2 hH i;have kp:Keep (λb=>Fz' b\/b=a) H' H2:=hH.elim (λz=>.of z) (λz=>.mk' z.2);have g1:SqL X.K H2 a xs':=.inl (kp.rd trivial (.inr rfl) (.inl o1));have g3:DenL X.K (λb=>Fz' b\/b=a) H2 ds xs':=DenL.mono kp (λ_ h=>h) _ _ (DenL.mono (Keep.of (Same.refl _)) (λ_ h=>.inl h) _ _ o2);have hl:=g3.length;refine⟨λd hd=>?_,λhi=>⟨xs',g1,by lia⟩⟩;obtain⟨v,q1,q2⟩:=g3.get hd;exact⟨⟨xs',v,g1,q1⟩,λx H3 ⟨e,y⟩=>by
    subst e;have:=y xs' g1;rw[q1]at this;cases this;exact⟨Same.refl _,q2⟩⟩
theorem zoo (he:PuE X e te):PuI X tg e (zdG te) where
 mono ρ Q Q' m h:=he.mono ρ _ _ (λd k q71q=>by obtain⟨ds,e,q⟩:=q71q;exact⟨ds,e,m _ _ q⟩) h
 run:=PI.weak (zpx he.run) λσ H Rr h=>by
  obtain⟨ρ,Fz,R,h⟩:=h;refine⟨ρ,Fz,R,he.mono ρ _ _ (λd k q v Fz' H' p=>?_) h⟩;obtain⟨ds,e,q⟩:=q;subst e;obtain⟨a,xs,rfl,h1,h2⟩:=zcL (p.root R);refine⟨a,rfl,⟨xs,SqT.of h1⟩,q _ Fz' H' p.ext ?_⟩;intro H2 hH i;have kp:Keep Fz' H' H2:=hH.elim (λz=>.of z) (λz=>.mk' z.2);have g1:SqT X.K H2 a xs:=kp.sqT h1;have g3:DenL X.K Fz' H2 ds xs:=DenL.mono kp (λ_ h=>h) _ _ h2;have hl:=g3.length;refine⟨λd hd=>?_,λhi=>⟨xs,g1,by lia⟩⟩;obtain⟨v,q1,q2⟩:=g3.get hd;exact⟨⟨xs,v,g1,q1⟩,λx H3 ⟨e,y⟩=>by
   subst e;have:=y xs g1;rw[q1]at this;cases this;exact⟨Same.refl _,q2⟩⟩
end
noncomputable def rngP (lo:Int)(n:Nat):List PV:=(Ya n).map λ(i:Nat)=>PV.int (lo+i)
theorem zbm (lo:Int)(n:Nat):(rngP lo n).length=n:=by simp[rngP]
theorem zbO {lo:Int}{n i:Nat}{d:PV}(h:(rngP lo n)[i]? = some d):i<n/\d=.int (lo+i):=by
 have hi:i<n:=by have:=(Xj.mp h).1;rw[zbm]at this;exact this
 refine⟨hi,?_⟩;unfold rngP at h;rw[Xk,List.getElem?_range hi]at h;exact(Option.some.inj h).symm
noncomputable def zbi (t:TPA):TPI:=λρ Q=>t ρ λops=>∃j:Int,ops.map (·.1)=[.int j]/\-(2 ^ 62)<=j/\j<2 ^ 62/\Q (rngP 0 j.toNat) false
theorem zmq {K:Xa}{Fz:FZ}{lo:Int}{n:Nat}{H:Hp}:Walk K Fz false (Itr lo n) (rngP lo n) H:=λH2 _ i=>by
 refine⟨λd hd=>?_,λhi=>by rw[zbm]at hi;exact hi⟩;obtain⟨h1,rfl⟩:=zbO hd;exact⟨h1,λx H3 q73q=>by obtain⟨e,y⟩:=q73q;subst e y;exact⟨Same.refl _,by simp only[Den]⟩⟩
section
variable {X:Cx}{tg a b:Expr}{t:TPA}{p pos:Pos}
theorem zbp (hg:Gl X "range") (hm:X.mg "range" = none) (ha:PuA X [a] t) (hs:autoParam (starEach [a] X.env=[(false,eval a X.env)]) aU0):PuI X tg (.Call (.Name "range" p) [a] [] pos) (zbi t) where
 mono ρ Q Q' m h:=ha.mono ρ _ _ (λops q74q=>by obtain⟨j,e,h1,h2,q⟩:=q74q;exact⟨j,e,h1,h2,m _ _ q⟩) h
 run:=PI.weak (zjJ hg hm ha.run hs) λσ H Rr h=>by
  obtain⟨ρ,Fz,R,h⟩:=h;refine⟨ρ,Fz,R,ha.mono ρ _ _ (λops q vs Fz' H' x o=>?_) h⟩;obtain⟨j,e,h1,h2,q⟩:=q;have rl:=o.root R x;rw[e]at rl;cases rl with
  | cons r1 r2=>
   cases r2;exact⟨j,by rw[zaG r1],h1,h2,q _ Fz' H' x zmq⟩
end
noncomputable def pFor (ti:TPI)(g:TPG)(tb:TPS):TPS:=λρ O=>ti ρ λits o=>o=false/\∃Inv:Nat->PEnv->Prop,Inv 0 ρ/\
 (∀i d ρ',its[i]? = some d->Inv i ρ'->g d ρ' (Hold tb { O with nx:=Inv (i+1),ct:=Inv (i+1),bk:=O.nx }))/\∀ρ',Inv its.length ρ'->O.nx ρ'
theorem Step.kept {K:Xa}{ρ:PEnv}{σ:St}{Fz Fz':FZ}{H H':Hp}(R:Rel K Fz ρ σ H)(s:Step ρ σ Fz H Fz' H'):zhi Fz H H':=λb o e w=>by
 refine s.keep b o e λ q75q=>?_;obtain⟨i,d,h1,h2⟩:=q75q;obtain⟨a,q1,q2,q3⟩:=R.own i d h1;rw[h2]at q1;cases q1;rcases w with w | w
 ·exact q2 w
 ·obtain⟨o',q4,q5⟩:=q3.at;rw[e]at q4;cases q4;exact q5 w
section
variable {X:Cx}{tg iter c:Expr}{body:List Stmt}{ti:TPI}{g:TPG}{tb:TPS}{tc:TPT}{pos:Pos}
theorem zmr (hgm:∀d ρ Q Q',(∀ρ,Q ρ->Q' ρ)->g d ρ Q->g d ρ Q')(hbm:∀ρ O O',POut.le O O'->tb ρ O->tb ρ O'){K:Xa}{ρ:PEnv}{σ:St}{Fz1:FZ}{H1:Hp}{D:Ends}{J:It}{its:List PV}{O:POut}(R1:Rel K Fz1 ρ σ H1)(wk:Walk K Fz1 false J its H1)(Iv:Nat->PEnv->Prop)(h0:Iv 0 ρ)
  (hstep:∀i d ρ',its[i]? = some d->Iv i ρ'->g d ρ' (Hold tb { O with nx:=Iv (i+1),ct:=Iv (i+1),bk:=O.nx })) (hO:O.le (zcC K D ρ σ Fz1 H1)) (hdone:∀ρ',Iv its.length ρ'->O.nx ρ') :
  ∃W:Nat->Nat->St->Hp->Prop,(∃m,W 0 m σ H1)/\∀i m σ H,W i m σ H->
   (J.stop i H/\D.nx σ H)\/(J.go i H/\∃N:St->Hp->Prop,(∀σ' H',N σ' H'->∃m',m'<m/\W (i+1) m' σ' H')/\∀x H',J.yld i H x H'->zeU K g x σ H' λσ2 H2=>zmm K tb { D with nx:=N,ct:=N,bk:=D.nx } σ2 H2):=by
 refine⟨λi m σ' H'=>m=its.length-i/\i<=its.length/\∃ρ' F',Rel K F' ρ' σ' H'/\Iv i ρ'/\Step ρ σ Fz1 H1 F' H'/\zaq ρ σ H1 ρ' σ',
  ⟨its.length,by lia,XX _,ρ,Fz1,R1,h0,.of ⟨Same.refl _,λ_ h=>h,λ_ h=>.inl h,R1.al⟩,zaq.refl ρ σ H1⟩,?_⟩
 rintro i m σ' H' ⟨rfl,hle,ρ',F',R',hI,s',o'⟩;have kp:zhi Fz1 H1 H':=s'.kept R1;obtain⟨wgo,wstop⟩:=wk H' (.inr ⟨rfl,kp⟩) i;by_cases hlt:i<its.length
 ·obtain⟨go,yl⟩:=wgo its[i] (Xb hlt);refine .inr ⟨go,λσ2 H2=>∃ρ2 F2,Rel K F2 ρ2 σ2 H2/\Iv (i+1) ρ2/\Step ρ σ Fz1 H1 F2 H2/\zaq ρ σ H1 ρ2 σ2,λσ2 H2 hN=>⟨its.length-(i+1),by lia,rfl,hlt,hN⟩,λxv H2 y=>?_⟩;obtain⟨sm,dn⟩:=yl xv H2 y;have x2:Ext F' H' F' H2:=⟨sm,λ_ h=>h,λ_ h=>.inl h,λb hb z=>R'.al b hb (sm.free z)⟩;refine⟨ρ',F',its[i],R'.ext x2,Den.mono (Keep.of (Same.refl _)) s'.sub _ _ dn,hgm _ ρ' _ _ (λρ2 q σ2 R2 o2=>?_) (hstep i its[i] ρ' (Xb hlt) hI)⟩;have so:zaq ρ σ H1 ρ2 σ2:=λb hb=>o' b (o2 b hb);have st:Step ρ σ Fz1 H1 F' H2:=s'.trans o' (.of x2);refine⟨ρ2,F',R2,hbm ρ2 { O with nx:=Iv (i+1),ct:=Iv (i+1),bk:=O.nx } _ ⟨λρ3 q σ3 F3 H3 s3 o3 R3=>?_,λd k q v F3 H3 s3 al r=>?_,λρ3 q σ3 F3 H3 s3 o3 R3=>?_,λρ3 q σ3 F3 H3 s3 o3 R3=>?_⟩ q⟩
  ·exact⟨ρ3,F3,R3,q,st.trans so s3,zaq.trans st so o3⟩
  ·refine hO.rt d k q v F3 H3 (st.trans so s3) al ?_;cases k with
   | frz=>exact r
   | own j=>exact r
   | new=>
    obtain⟨a,e,nf,ow,w⟩:=r;refine⟨a,e,nf,ow,?_⟩;rcases w with w | w
    ·exact so a w
    ·exact(st.none w).symm
  ·exact hO.nx ρ3 q σ3 F3 H3 (st.trans so s3) (zaq.trans st so o3) R3
  ·exact⟨ρ3,F3,R3,q,st.trans so s3,zaq.trans st so o3⟩
 ·have e:i=its.length:=by lia
  subst e;exact .inl ⟨wstop (Xo _),hO.nx ρ' (hdone ρ' hI) σ' F' H' s' o' R'⟩
theorem zkq (him:∀ρ Q Q',(∀its o,Q its o->Q' its o)->ti ρ Q->ti ρ Q')(hgm:∀d ρ Q Q',(∀ρ,Q ρ->Q' ρ)->g d ρ Q->g d ρ Q')(hbm:∀ρ O O',POut.le O O'->tb ρ O->tb ρ O'):∀ρ O O',POut.le O O'->pFor ti g tb ρ O->pFor ti g tb ρ O':=λρ O O' m h=>
 him ρ _ _ (λits o q76q=>by obtain⟨e,I,h0,hs,hd⟩:=q76q;exact⟨e,I,h0,λi d ρ' hi hI=>hgm d ρ' _ _ (λρ2 q=>hbm ρ2 { O with nx:=I (i+1),ct:=I (i+1),bk:=O.nx } _ ⟨λ_ q=>q,m.rt,m.nx,λ_ q=>q⟩ q) (hs i d ρ' hi hI),λρ' hI=>m.nx _ (hd ρ' hI)⟩) h
theorem zcD (hc:X.calm=true)(hp:PassesOwn (model X.prog X.w) X.A X.env X.xe)(hi:PuI X tg iter ti)(hg:PuG X tg g)(hb:PuSs X body tb)(hs:autoParam (∀x,foldedSetIterable iter X.env x=pure x) aU2):PuS X (.For tg iter body [] pos) (pFor ti g tb) where
 mono:=zkq hi.mono hg.mono hb.mono
 run:=PS.weak (zhS hp hc hi.run hg.run hb.run hs) λD σ H h=>by
  obtain⟨ρ,Fz,R,h⟩:=h;refine⟨ρ,Fz,R,hi.mono ρ _ _ (λits o q J Fz1 H1 x wk=>?_) h⟩;obtain⟨rfl,Iv,h0,hstep,hdone⟩:=q;exact zmr hg.mono hb.mono (R.ext x) wk Iv h0 hstep (zaR (.of x) (zaq.refl ρ σ H)) hdone
end
theorem _root_.L2.Same.upd' {H H':Hp}{l:Addr}{o:HO}(s:Same H H')(h:H l=none):Same H (L2.upd H' l o):=λb u e=>by
 rw[zah (zaA e h)];exact s b u e
structure PuTs (X:Cx)(ifs:List Expr)(t:TPT):Prop where
 mono:∀ρ Q Q',(∀b,Q b->Q' b)->t ρ Q->t ρ Q'
 run:PTs X ifs (liftT X.K t)
noncomputable def zbP:TPT:=λ_ Q=>Q true
theorem PTs.weak {X:Cx}{e:List Expr}{t t':TT}(h:PTs X e t)(w:∀σ H Q,t' σ H Q->t σ H Q):PTs X e t':=λpins s σ H Q I q=>h pins s σ H Q I (w σ H Q q)
theorem zcQ {X:Cx}:PuTs X [] zbP where
 mono ρ Q Q' m h:=m _ h
 run:=PTs.weak zog λσ H Q h=>by
  obtain⟨ρ,Fz,R,h⟩:=h;exact h Fz H ⟨Same.refl H,λ_ h=>h,λ_ h=>.inl h,R.al⟩
theorem zif {X:Cx}{c:Expr}{t:TPT}(h:PuT X c t):PuTs X [c] t:=⟨h.mono,zoh h.run⟩
noncomputable def blkP (k:Nat)(js:List Nat)(ρ:PEnv):PEnv:=YN k none++js.map λj=>(ρ[j]?).getD none
noncomputable def zcE (k:Nat)(js:List Nat)(ti:TPI)(g:TPG)(tt:TPT)(te:TPE):TPE:=λρ Q=>ti ρ λits _=>its.length<=sizeLine/\∃Pv:Nat->List PV->Prop,Pv 0 []/\
 (∀i d out,its[i]? = some d->out.length<=i->Pv i out->g d (blkP k js ρ) λρ2=>tt ρ2 λb=>if b=true then te ρ2 λe ke=>isOwn ke=false/\Pv (i+1) (out++[e]) else Pv (i+1) out)/\
 ∀out,out.length<=its.length->Pv its.length out->Q (.lst out) .new
structure PBlk (X:Cx)(N:List Str)(sc:Scope)(tg:Expr)(ifs:List Expr)(elt:Expr)(g:TPG)(tt:TPT)(te:TPE):Prop where
 tgt:∀C cells fp s H,PuG (cxB X N sc C cells fp s H) tg g
 tst:∀C cells fp s H,PuTs (cxB X N sc C cells fp s H) ifs tt
 val:∀C cells fp s H,PuE (cxB X N sc C cells fp s H) elt te
theorem PBlk.blk {X:Cx}{N:List Str}{sc:Scope}{tg:Expr}{ifs:List Expr}{elt:Expr}{g:TPG}{tt:TPT}{te:TPE}(B:PBlk X N sc tg ifs elt g tt te):Blk X N sc tg ifs elt (zeU X.K g) (liftT X.K tt) (lift X.K te):=
 ⟨λC cells fp s H=>(B.tgt C cells fp s H).run,λC cells fp s H=>(B.tst C cells fp s H).run,λC cells fp s H=>(B.val C cells fp s H).run⟩
theorem zbQ {k:Nat}{js:List Nat}{ρ:PEnv}{i:Nat}{d:PV}{b:Bool}(h:(blkP k js ρ)[i]? = some (some (d,b))):∃i' j,i=k+i'/\js[i']? = some j/\ρ[j]? = some (some (d,b)):=by
 unfold blkP at h;have hik:k<=i:=by
  by_cases hik:k<=i
  ·exact hik
  ·rw[Yn (by simp;lia),List.getElem?_replicate]at h;split at h<;>cases h
 obtain⟨i',rfl⟩:∃i',i=k+i':=⟨i-k,by lia⟩;rw[Yf (by simp),YF,show k+i'-k=i' by lia,Xk]at h;cases hj:js[i']? with
 | none=>rw[hj]at h;cases h
 | some j=>
  rw[hj]at h;refine⟨i',j,rfl,hj,?_⟩;have h':(ρ[j]?).getD none=some (d,b):=Option.some.inj h;cases q:ρ[j]? with
  | none=>rw[q]at h';cases h'
  | some o=>rw[q]at h';exact congrArg some h'
theorem zcj {k:Nat}{js:List Nat}{σ:St}{i' j:Nat}{o:Option V}(hj:js[i']? = some j)(h:σ[j]? = some o):(zcf k js σ)[k+i']? = some o:=by
 unfold zcf;rw[Yf (by simp),YF,show k+i'-k=i' by lia,Xk,hj];show some ((σ[j]?).getD none)=_;rw[h];rfl
theorem Rel.block {K:Xa}{Fz:FZ}{ρ:PEnv}{σ:St}{H:Hp}{k:Nat}{js:List Nat}(R:Rel K Fz ρ σ H)(nd:js.Nodup):Rel K Fz (blkP k js ρ) (zcf k js σ) H where
 al:=R.al
 len:=by unfold blkP zcf;simp
 frz i d h:=by
  obtain⟨i',j,rfl,hj,h⟩:=zbQ h;obtain⟨v,e,q⟩:=R.frz j d h;exact⟨v,zcj hj e,q⟩
 own i d h:=by
  obtain⟨i',j,rfl,hj,h⟩:=zbQ h;obtain⟨a,e,n,q⟩:=R.own j d h;exact⟨a,zcj hj e,n,q⟩
 inj i1 i2 d e a h1 h2 h3 h4:=by
  obtain⟨i',j,rfl,hj,h1⟩:=zbQ h1;obtain⟨i'',j',rfl,hj',h2⟩:=zbQ h2;obtain⟨a1,e1,_,_⟩:=R.own j d h1;obtain⟨a2,e2,_,_⟩:=R.own j' e h2;rw[zcj hj e1]at h3;rw[zcj hj' e2]at h4;have ea1:a1=a:=by have:=Option.some.inj (Option.some.inj h3);injection this
  have ea2:a2=a:=by have:=Option.some.inj (Option.some.inj h4);injection this
  subst ea1;subst ea2;have ej:=R.inj j j' d e _ h1 h2 e1 e2;subst ej;have l1:i'<js.length:=(Xj.mp hj).1;have e1':i'=i'':=(List.getElem?_inj l1 nd).mp (hj.trans hj'.symm);rw[e1']
theorem zhl {ρ:PEnv}{σ:St}{k:Nat}{js:List Nat}{Fz:FZ}{K:Xa}{H:Hp}(R:Rel K Fz ρ σ H){b:Addr}(h:zao (blkP k js ρ) (zcf k js σ) b):zao ρ σ b:=by
 obtain⟨i,d,h1,h2⟩:=h;obtain⟨i',j,rfl,hj,h1⟩:=zbQ h1;obtain⟨a1,e1,_,_⟩:=R.own j d h1;rw[zcj hj e1]at h2;cases h2;exact⟨j,d,h1,e1⟩
theorem Rel.zfF {K:Xa}{Fz:FZ}{ρ ρ':PEnv}{σ:St}{H:Hp}{k:Nat}{js:List Nat}(R:Rel K Fz ρ' σ H)(hl:ρ'.length=(blkP k js ρ).length)(hs:∀j,k<=j->ρ'[j]? = (blkP k js ρ)[j]?):Rel K Fz (blkP k js ρ) σ H:=by
 have tr:∀i d b,(blkP k js ρ)[i]? = some (some (d,b))->ρ'[i]? = some (some (d,b)):=λi d b h=>by
  obtain⟨i',j,rfl,_⟩:=zbQ h;rw[hs _ (by lia)];exact h
 exact⟨R.al,by rw[<- hl];exact R.len,λi d h=>R.frz i d (tr _ _ _ h),λi d h=>R.own i d (tr _ _ _ h),λi j d e a h1 h2=>R.inj i j d e a (tr _ _ _ h1) (tr _ _ _ h2)⟩
theorem Rel.other {K:Xa}{Fz:FZ}{ρ:PEnv}{σ:St}{H:Hp}{l:Addr}{o u:HO}(R:Rel K Fz ρ σ H)(h:H l=some u)(hi:¬ Imm u)(nf:¬ Fz l)(no:¬ zao ρ σ l):Rel K Fz ρ σ (upd H l o):=by
 have kp:Keep Fz H (upd H l o):=.mk' λb w e hw=>by
  have ne:b≠l:=λz=>by
   subst z;rcases hw with hw | hw
   ·exact nf hw
   ·rw[h]at e;cases e;exact hi hw
  rw[zah ne];exact e
 refine⟨λb hb=>?_,R.len,λi d e=>?_,λi d e=>?_,R.inj⟩
 ·have ne:b≠l:=λz=>by subst z;exact nf hb
  rw[zah ne];exact R.al b hb
 ·obtain⟨v,q1,q2⟩:=R.frz i d e;exact⟨v,q1,Den.mono kp (λ_ h=>h) _ _ q2⟩
 ·obtain⟨a,q1,q2,q3⟩:=R.own i d e;refine⟨a,q1,q2,q3.mono kp (λ_ h=>h) λw hw=>?_⟩;have ne:a≠l:=λz=>by subst z;exact no ⟨i,d,e,q1⟩
  rw[zah ne];exact hw
section
variable {X:Cx}{elt tg iter:Expr}{ifs:List Expr}{sc:Scope}{pos:Pos}{N:List Str}{k:Nat}{js:List Nat}{ti:TPI}{g:TPG}{tt:TPT}{te:TPE}
theorem zkr (hi:PuI X tg iter ti)(B:PBlk X N sc tg ifs elt g tt te):∀ρ Q Q',(∀d k,Q d k->Q' d k)->zcE k js ti g tt te ρ Q->zcE k js ti g tt te ρ Q':=
 λρ Q Q' m h=>hi.mono ρ _ _ (λits o q77q=>by obtain⟨hz,Pv,h0,hs,hd⟩:=q77q;exact⟨hz,Pv,h0,hs,λout hl hp=>m _ _ (hd out hl hp)⟩) h
theorem zks (nd:js.Nodup)(hloc:LocG k g)(B:PBlk X N sc tg ifs elt g tt te){ρ:PEnv}{σ:St}{H H1:Hp}{Fz1:FZ}{o:Bool}{J:It}{its:List PV}{l:Addr}{Rr:Hp->Prop}(R1:Rel X.K Fz1 ρ σ H1)(wk:Walk X.K Fz1 o J its H1)(hl:H1 l=none)(hz:its.length<=sizeLine)(Pv:Nat->List PV->Prop)(h0:Pv 0 [])
  (hstep:∀i d out,its[i]? = some d->out.length<=i->Pv i out->g d (blkP k js ρ) λρ2=>tt ρ2 λb=>if b=true then te ρ2 λe ke=>isOwn ke=false/\Pv (i+1) (out++[e]) else Pv (i+1) out)
  (hdone:∀F' out xs H',Ext Fz1 H1 F' H'->H' l=some (.lst xs)->DenL X.K F' H' out xs->¬ F' l->out.length<=its.length->Pv its.length out->Rr H') :
  zfb J (zeU X.K g) (liftT X.K tt) (lift X.K te) l (zcf k js σ) H1 Rr:=by
 have mg:=(B.tgt 0 [] [] X.s₀ H).mono;have mt:=(B.tst 0 [] [] X.s₀ H).mono;have me:=(B.val 0 [] [] X.s₀ H).mono;have nf1:¬ Fz1 l:=λz=>R1.al l z hl;have no1:¬ zao ρ σ l:=λ⟨i,d,h1,h2⟩=>by
  obtain⟨a,q1,_,q3⟩:=R1.own i d h1;rw[h2]at q1;cases q1;obtain⟨o',q4,_⟩:=q3.at;rw[hl]at q4;cases q4
 refine⟨λi m σ' H'=>m=its.length-i/\i<=its.length/\∃F' out xs,Rel X.K F' (blkP k js ρ) σ' H'/\(∀b,zao (blkP k js ρ) σ' b->zao ρ σ b)/\H' l=some (.lst xs)/\DenL X.K F' H' out xs/\¬ F' l/\out.length<=i/\Pv i out/\Same H1 H'/\(∀b,Fz1 b->F' b)/\(∀b,F' b->Fz1 b\/H1 b=none),
  ⟨its.length,by lia,XX _,Fz1,[],[],?_,λb hb=>zhl R1 hb,zaj,DenL.nil,nf1,XX _,h0,(Same.refl H1).upd' hl,λ_ h=>h,λ_ h=>.inl h⟩,?_⟩
 ·have x0:Ext Fz1 H1 Fz1 (upd H1 l (.lst [])):=Ext.laid ⟨Same.refl _,λ_ h=>h,λ_ h=>.inl h,R1.al⟩ hl;exact(R1.block nd).ext x0
 rintro i m σ' H' ⟨rfl,hle,F',out,xs,Rb,ob,hlx,hout,nfl,hol,hP,sm,s1,s2⟩;obtain⟨wgo,wstop⟩:=wk H' (.inl sm) i;by_cases hlt:i<its.length
 ·obtain⟨go,yl⟩:=wgo its[i] (Xb hlt);refine .inr ⟨go,λxv H2 y=>?_⟩;obtain⟨sm2,dn⟩:=yl xv H2 y;have x2:Ext F' H' F' H2:=⟨sm2,λ_ h=>h,λ_ h=>.inl h,λb hb z=>Rb.al b hb (sm2.free z)⟩;refine⟨blkP k js ρ,F',its[i],Rb.ext x2,Den.mono (Keep.of (Same.refl _)) s1 _ _ dn,mg _ _ _ _ (λρ2 ⟨q,l2,a2⟩ σ2 R2 o2=>?_) (hloc _ _ _ (hstep i its[i] out (Xb hlt) hol hP))⟩;refine⟨ρ2,F',R2,mt ρ2 _ _ (λb q F4 H4 x4=>?_) q⟩;have R4:Rel X.K F4 ρ2 σ2 H4:=R2.ext x4;have own2:∀b,zao (blkP k js ρ) σ2 b->zao ρ σ b:=λb ⟨j,d,h1,h2⟩=>by
   refine ob b (o2 b ⟨j,d,?_,h2⟩);obtain⟨i',j',e,_⟩:=zbQ h1;rw[a2 j (by lia)];exact h1
  have hl4:H4 l=some (.lst xs):=x4.same _ _ (sm2 _ _ hlx);have nf4:¬ F4 l:=λz=>by
   rcases x4.new l z with z | z
   ·exact nfl z
   ·rw[sm2 _ _ hlx]at z;cases z
  cases b with
  | false=>
   rw[if_neg Xr]at q;refine iteF ⟨its.length-(i+1),by lia,rfl,hlt,F4,out,xs,Rel.zfF R4 l2 a2,own2,hl4,DenL.mono (.of (sm2.trans x4.same)) x4.sub _ _ hout,nf4,by lia,q,sm.trans (sm2.trans x4.same),λb hb=>x4.sub b (s1 b hb),λb hb=>?_⟩;rcases x4.new b hb with z | z
   ·exact s2 b z
   ·exact .inr (sm.free (sm2.free z))
  | true=>
   rw[if_pos rfl]at q;refine iteT ⟨ρ2,F4,R4,me ρ2 _ _ (λe ke q81q v F5 H5 p5=>?_) q⟩;obtain⟨hk,q⟩:=q81q;have hk':ke=.frz\/ke=.new:=by
    cases ke with
    | frz=>exact .inl rfl
    | new=>exact .inr rfl
    | own j=>cases hk
   obtain⟨F6,x6,s6,d6⟩:=p5.frozen hk';have hl5:H5 l=some (.lst xs):=x6.same _ _ hl4;have nf6:¬ F6 l:=λz=>by
    rcases x6.new l z with z | z
    ·exact nf4 z
    ·rw[hl4]at z;cases z
   have R6:Rel X.K F6 ρ2 σ2 H5:=R4.ext x6;have Rb6:Rel X.K F6 (blkP k js ρ) σ2 H5:=Rel.zfF R6 l2 a2;have no6:¬ zao (blkP k js ρ) σ2 l:=λz=>no1 (own2 l z);have kp:Keep F6 H5 (upd H5 l (.lst (xs++[v]))):=.mk' λb w e hw=>by
    have ne:b≠l:=λz=>by
     subst z;rcases hw with hw | hw
     ·exact nf6 hw
     ·rw[hl5]at e;cases e;exact hw
    rw[zah ne];exact e
   have hxl:=hout.length;refine⟨xs,hl5,by lia,its.length-(i+1),by lia,rfl,hlt,F6,out++[e],xs++[v],Rb6.other hl5 (λz=>z) nf6 no6,own2,zaj,?_,nf6,by rw[XH];simp;lia,q,?_,λb hb=>x6.sub b (x4.sub b (s1 b hb)),λb hb=>?_⟩
   ·exact DenL.mono kp (λ_ h=>h) _ _ (DenL.snoc (DenL.mono (.of (sm2.trans (x4.same.trans x6.same))) (λb hb=>x6.sub b (x4.sub b hb)) _ _ hout) d6)
   ·exact(sm.trans (sm2.trans (x4.same.trans x6.same))).upd' hl
   ·rcases x6.new b hb with z | z
    ·rcases x4.new b z with z | z
     ·exact s2 b z
     ·exact .inr (sm.free (sm2.free z))
    ·exact .inr (sm.free (sm2.free (x4.same.free z)))
 ·have e:i=its.length:=by lia
  subst e;exact .inl ⟨wstop (Xo _),hdone F' out xs H' ⟨sm,s1,s2,Rb.al⟩ hlx hout nfl hol hP⟩
theorem zkt (nd:js.Nodup)(hloc:LocG k g)(hi:PuI X tg iter ti)(B:PBlk X N sc tg ifs elt g tt te){σ:St}{H:Hp}{Q:VK}(h:lift X.K (zcE k js ti g tt te) σ H Q) :
  zme k js (zon X.K ti) (zeU X.K g) (liftT X.K tt) (lift X.K te) σ H Q:=by
 obtain⟨ρ,Fz,R,h⟩:=h;refine⟨ρ,Fz,R,hi.mono ρ _ _ (λits o q J Fz1 H1 x wk l hl=>?_) h⟩;obtain⟨hz,Pv,h0,hstep,hdone⟩:=q;refine zks (H:=H) nd hloc B (R.ext x) wk hl hz Pv h0 hstep λF' out xs H' x' hlx hout nfl hol hP=>?_;exact hdone out hol hP _ F' H' ⟨x.trans x',l,rfl,x.same.free hl,nfl,xs,hlx,hout⟩
theorem zeq (hc:X.calm=true)(S:zbC X N k js sc)(nd:js.Nodup)(hloc:LocG k g)(hi:PuI X tg iter ti)(B:PBlk X N sc tg ifs elt g tt te)(hs:autoParam (∀x,foldedSetIterable iter X.env x=pure x) aU2) :
  PuE X (.ListComp elt [⟨tg,iter,ifs,0⟩] sc pos) (zcE k js ti g tt te):=
 ⟨zkr hi B,PE.weak (zkb hc S hi.run B.blk hs) λ_ _ _ h=>zkt nd hloc hi B h⟩
end
noncomputable def zaU (N:List Str)(ds:List PV):PEnv:=ds.map (λd=>some (d,false))++YN (N.length-ds.length) none
noncomputable def zbs (Q:PV->Kd->Prop):POut:=⟨λ_=>Q .non .frz,Q,λ_=>False,λ_=>False⟩
theorem zop {K:Xa}{F:PF}{ps:List Str}(h:∀ds Q,F ds Q->ds.length=ps.length):∀vs H Q E,spP K F vs H Q E->vs.length=ps.length:=λvs H Q E q82q=>by obtain⟨Fz,ds,_,hd,q⟩:=q82q;rw[<- hd.length];exact h _ _ q
theorem zer {K:Xa}{Fz:FZ}{H:Hp}{N:List Str}{ds:List PV}{vs:List V}(al:∀b,Fz b->H b≠none)(h:DenL K Fz H ds vs):Rel K Fz (zaU N ds) (start N vs) H/\∀σ b,¬ zao (zaU N ds) σ b:=by
 have hl:=h.length;have get:∀(i:Nat) (d:PV) (b:Bool),(zaU N ds)[i]? = some (some (d,b))->b=false/\ds[i]? = some d:=λi d b e=>by
  unfold zaU at e;by_cases hi:i<ds.length
  ·rw[Yn (by simpa using hi),Xk,Xb hi]at e;have e':(some (ds[i],false):Option (PV×Bool))=some (d,b):=Option.some.inj e;have e2:=Option.some.inj e';exact⟨(congrArg Prod.snd e2).symm,by rw[Xb hi];exact congrArg some (congrArg Prod.fst e2)⟩
  ·rw[Yf (by simpa using hi),List.getElem?_replicate]at e;split at e<;>cases e
 refine⟨⟨al,by unfold zaU L2.start;simp[hl],λi d e=>?_,λi d e=>?_,λi j d e a h1=>?_⟩,λσ b ⟨i,d,e,_⟩=>?_⟩
 ·obtain⟨_,e'⟩:=get i d false e;obtain⟨v,q1,q2⟩:=h.get e';have hi:i<vs.length:=(Xj.mp q1).1;refine⟨v,?_,q2⟩;unfold L2.start;rw[Yn (by simpa using hi),Xk,q1];rfl
 ·exact absurd (get i d true e).1 (by decide)
 ·exact absurd (get i d true h1).1 (by decide)
 ·exact absurd (get i d true e).1 (by decide)
section
variable {P:Program}{w:World}{K:Xa}{mg:Str->Option Value}{base:Heap}
theorem zbt {x qual:Str}{st:Stmt}{f:Addr}{fd:FuncData}{N ps:List Str}{k:Nat}{F:PF}(Fn:Fun K x qual st f fd)(S:zaI N ps (zac st))(len:∀ds Q,F ds Q->ds.length=ps.length)
  (hbody:∀(cdv:Value) (A:Around) (outer:List Env) (s:Shared) (H:Hp) (E:XK),Room k (A.deeper (envOfC qual (zac st) s.heap.objs.size f cdv))->
   ∃t,PuSs (cxOf CX0 P w K mg base N qual (zac st) f cdv A outer s H E).nox (zay st) t/\∀ds Q,F ds Q->t (zaU N ds) (zbs Q)):FnOk P w K mg base CX0 (k+1) f fd ps (spP K F):=by
 refine Fn.ok S (zop len) (λcdv A outer s H vs Q E hr h=>?_);obtain⟨t,ht,hq⟩:=hbody cdv A outer s H E hr;obtain⟨Fz,ds,al,hd,h⟩:=h;obtain⟨R,no⟩:=zer (N:=N) al hd;refine⟨_,ht.run,zaU N ds,Fz,R,ht.mono _ (zbs _) _ ⟨λρ' q σ' F' H' s' o' R'=>?_,λd k q v F' H' s' al' r=>?_,λ_ z=>z.elim,λ_ z=>z.elim⟩ (hq ds _ h)⟩
 ·exact q .non F' H' ⟨⟨λb o e=>s'.keep b o e (no _ b),s'.sub,λb hb=>(s'.new b hb).elim .inl (λz=>z.elim .inr (λz=>(no _ b z).elim)),R'.al⟩,by show Den _ _ _ _ _;simp only[Den]⟩
 ·refine q v F' H' ⟨⟨λb o e=>s'.keep b o e (no _ b),s'.sub,λb hb=>(s'.new b hb).elim .inl (λz=>z.elim .inr (λz=>(no _ b z).elim)),al'⟩,?_⟩;cases k with
  | frz=>exact r
  | own i=>exact r.elim
  | new=>
   obtain⟨a,e,nf,o,w⟩:=r;exact⟨a,e,w.resolve_left (no _ a),nf,o⟩
end
theorem Rel.mut {K:Xa}{Fz:FZ}{ρ:PEnv}{σ:St}{H:Hp}{i:Nat}{d d':PV}{a:Addr}{o u:HO}(R:Rel K Fz ρ σ H)(hi:ρ[i]? = some (some (d,true)))(hs:σ[i]? = some (some (.ref a)))(hu:H a=some u)
  (ho:Own K Fz (upd H a o) d' a):Rel K Fz (ρ.set i (some (d',true))) σ (upd H a o)/\Step ρ σ Fz H Fz (upd H a o)/\zaq ρ σ H (ρ.set i (some (d',true))) σ:=by
 obtain⟨a',e',nf,ow⟩:=R.own i d hi;rw[hs]at e';cases e';have hil:i<ρ.length:=(Xj.mp hi).1;have im:¬ Imm u:=by obtain⟨o',q1,q2⟩:=ow.at;rw[hu]at q1;cases q1;exact q2
 have kp:Keep Fz H (upd H a o):=.mk' λb w e hw=>by
  have ne:b≠a:=λz=>by
   subst z;rcases hw with hw | hw
   ·exact nf hw
   ·rw[hu]at e;cases e;exact im hw
  rw[zah ne];exact e
 have st:∀j e,(ρ.set i (some (d',true)))[j]? = some (some (e,true))->∃e0,ρ[j]? = some (some (e0,true)):=λj e h=>by
  by_cases hij:i=j
  ·subst hij;exact⟨d,hi⟩
  ·rw[Xf hij]at h;exact⟨e,h⟩
 refine⟨⟨λb hb=>?_,by rw[XS];exact R.len,λj e h=>?_,λj e h=>?_,λj k e1 e2 b h1 h2 h3 h4=>?_⟩,⟨λ_ h=>h,λ_ h=>.inl h,λb w e n=>?_⟩,λb ⟨j,e,h1,h2⟩=>?_⟩
 ·have ne:b≠a:=λz=>by subst z;exact nf hb
  rw[zah ne];exact R.al b hb
 ·by_cases hij:i=j
  ·subst hij;rw[Xd hil]at h;cases h
  ·rw[Xf hij]at h;obtain⟨v,q1,q2⟩:=R.frz j e h;exact⟨v,q1,Den.mono kp (λ_ h=>h) _ _ q2⟩
 ·by_cases hij:i=j
  ·subst hij;rw[Xd hil]at h;cases h;exact⟨a,hs,nf,ho⟩
  ·rw[Xf hij]at h;obtain⟨b,q1,q2,q3⟩:=R.own j e h;refine⟨b,q1,q2,q3.mono kp (λ_ h=>h) λw hw=>?_⟩;have ne:b≠a:=λz=>by subst z;exact hij (R.inj i j d e _ hi h hs q1)
   rw[zah ne];exact hw
 ·obtain⟨e1',g1⟩:=st j e1 h1;obtain⟨e2',g2⟩:=st k e2 h2;exact R.inj j k e1' e2' b g1 g2 h3 h4
 ·have ne:b≠a:=λz=>by subst z;exact n ⟨i,d,hi,hs⟩
  rw[zah ne];exact e
 ·obtain⟨e',g⟩:=st j e h1;exact .inl ⟨j,e',g,h2⟩
noncomputable abbrev TPM:=PEnv->(PV->PEnv->Prop)->Prop
noncomputable def liftM (K:Xa)(t:TPM):TE:=λσ H Q=>∃ρ Fz,Rel K Fz ρ σ H/\t ρ λd ρ'=>∀v Fz' H',Step ρ σ Fz H Fz' H'->zaq ρ σ H ρ' σ->Rel K Fz' ρ' σ H'->Den K Fz' H' d v->Q v H'
structure PuM (X:Cx)(e:Expr)(t:TPM):Prop where
 mono:∀ρ Q Q',(∀d ρ,Q d ρ->Q' d ρ)->t ρ Q->t ρ Q'
 run:PE X e (liftM X.K t)
noncomputable def mApp (i:Nat)(te:TPE):TPM:=λρ Q=>∃ds,ρ[i]? = some (some (.lst ds,true))/\ds.length<sizeLine/\te ρ λd k=>isOwn k=false/\Q .non (ρ.set i (some (.lst (ds++[d]),true)))
theorem zku {K:Xa}{Fz:FZ}{ρ:PEnv}{σ:St}{H:Hp}{i:Nat}{ds:List PV}(R:Rel K Fz ρ σ H)(h:ρ[i]? = some (some (.lst ds,true))):∃a xs,σ[i]? = some (some (.ref a))/\H a=some (.lst xs)/\DenL K Fz H ds xs/\¬ Fz a:=by
 obtain⟨a,e,nf,xs,h1,h2⟩:=R.own i _ h;exact⟨a,xs,e,h1,h2,nf⟩
theorem DenL.rew {K:Xa}{Fz:FZ}{H:Hp}{ds:List PV}{xs ys:List V}{a:Addr}{o:HO}(ha:H a=some (.lst ys))(nf:¬ Fz a)(h:DenL K Fz H ds xs):DenL K Fz (upd H a o) ds xs:=
 DenL.mono (.mk' λb w e hw=>by
  have ne:b≠a:=λz=>by
   subst z;rcases hw with hw | hw
   ·exact nf hw
   ·rw[ha]at e;cases e;exact hw
  rw[zah ne];exact e) (λ_ h=>h) _ _ h
section
variable {X:Cx}{x:Str}{e:Expr}{te:TPE}{tm:TPM}{p apos cpos:Pos}
theorem zco (i:Nat)(he:PuE X e te)(hN:autoParam (X.N[i]? = some x) aU0)(hv:autoParam (Vis X.env.scope x) aU4)(hd:autoParam ((x == ("__debug__" : Str))=false) aU1) (hcd:autoParam ((x == ("__classdict__" : Str))=false) aU1)
  (hbase:autoParam (attributeBase (.Name x p) "append" X.env (eval (.Name x p) X.env)=eval (.Name x p) X.env) aU0)
  (hfew:autoParam (((backTo cpos (starEach [e] X.env)).all (λx=>!x.1)&&(backToKw cpos (keywordEach [] X.env)).all (λx=>x.1.isSome)&&decide ([e].length+([]:List Keyword).length+(if ([]:List Keyword).isEmpty then 0 else 1)<30))=true) aU0)
  (hline:autoParam ((apos.endLine == cpos.line)=true) aU0) (hs:autoParam (starEach [e] X.env=(false,eval e X.env)::starEach [] X.env) aU0) (hplain:autoParam ((backTo cpos (starEach [] X.env)).any (·.1)=false) aU0):PuM X (.Call (.Attribute (.Name x p) "append" apos) [e] [] cpos) (mApp i te) where
 mono ρ Q Q' m h:=by
  obtain⟨ds,e1,e2,h⟩:=h;exact⟨ds,e1,e2,he.mono ρ _ _ (λd k q85q=>by obtain⟨hk,q⟩:=q85q;exact⟨hk,m _ _ q⟩) h⟩
 run:=PE.weak (zjQ PySem.F.plainAttrs_list PySem.F.slot_list_append PySem.F.type_list_append zbF (zaP hN hv hd hcd) (zak he.run zaQ hs) hbase hfew hline hs hplain) λσ H Q h=>by
  obtain⟨ρ,Fz,R,ds,e1,e2,h⟩:=h;obtain⟨a,xs,hs,ha,hd,nf⟩:=zku R e1;refine⟨_,hs,.inl ⟨rfl,xs,SqL.of ha⟩,ρ,Fz,R,he.mono ρ _ _ (λd k q v F1 H1 p1=>?_) h⟩;obtain⟨hk,q⟩:=q;have hk':k=.frz\/k=.new:=by
   cases k with
   | frz=>exact .inl rfl
   | new=>exact .inr rfl
   | own j=>cases hk
  obtain⟨F2,x2,s2,d2⟩:=p1.frozen hk';have R2:=R.ext x2;obtain⟨a',xs',hs',ha',hd',nf'⟩:=zku R2 e1;rw[hs]at hs';cases hs';have hl:=hd'.length;refine⟨a,xs',v,rfl,rfl,ha',by lia,?_⟩;have ow:Own X.K F2 (upd H1 a (.lst (xs'++[v]))) (.lst (ds++[d])) a:=⟨_,zaj,(DenL.rew ha' nf' (DenL.snoc hd' d2))⟩;obtain⟨R3,s3,o3⟩:=R2.mut e1 hs ha' ow;exact q .non F2 _ ((Step.of x2).trans (zaq.refl ρ σ H) s3) (zaq.trans (Step.of x2) (zaq.refl ρ σ H) o3) R3 (by simp only[Den])
noncomputable def zbx (tm:TPM):TPS:=λρ O=>tm ρ λ_ ρ'=>O.nx ρ'
variable {pos:Pos}
theorem zcR (he:PuM X e tm)(hs:autoParam (swapsWith e none pos.line X.env=pure false) aU0):PuS X (.Expr e pos) (zbx tm) where
 mono ρ O O' m h:=he.mono ρ _ _ (λ_ _ q=>m.nx _ q) h
 run:=PS.weak (zfr he.run hs) λD σ H h=>by
  obtain⟨ρ,Fz,R,h⟩:=h;exact⟨ρ,Fz,R,he.mono ρ _ _ (λd ρ' q v F' H' s' o' R' _=>q σ F' H' s' o' R') h⟩
end
theorem zkv {K:Xa}{Fz:FZ}{H:Hp}{ds:List PV}{xs:List V}{i:Int}{d:PV}(h:DenL K Fz H ds xs)(e:atI ds i=some d):∃v,atI xs i=some v/\Den K Fz H d v:=by
 unfold atI at e ⊢;rw[<- h.length];cases q:ixN ds.length i with
 | none=>rw[q]at e;cases e
 | some j=>
  rw[q]at e;obtain⟨v,h1,h2⟩:=h.get (i:=j) (d:=d) e;exact⟨v,h1,h2⟩
noncomputable def ixV (d e x:PV):Prop:=(∃ds i,(d=.lst ds\/d=.tup ds)/\e=.int i/\atI ds i=some x)\/∃z i c,d=.str z/\e=.int i/\z.length<=sizeLine/\atI z.cps.toList i=some c/\x=.str ⟨#[c]⟩
noncomputable def pIx:P2:=λd e Q=>∃x,ixV d e x/\Q x .frz
theorem zrz {K:Xa}:POp K (rIx K) pIx where
 mono d e Q Q' m h:=by obtain⟨x,h,q⟩:=h;exact⟨x,h,m _ _ q⟩
 run Fz H x y d e Q al rx ry h:=by
  obtain⟨x',h,q⟩:=h;rcases h with ⟨ds,i,e1,rfl,e3⟩ | ⟨z,i,c,rfl,rfl,e3,e4,rfl⟩
  ·rcases e1 with rfl | rfl
   ·obtain⟨a,xs,rfl,h1,h2⟩:=zam rx;obtain⟨v,g1,g2⟩:=zkv h2 e3;exact .inl ⟨a,xs,i,v,rfl,zaG ry,h1,g1,q v Fz H (.val al g2)⟩
   ·obtain⟨a,xs,rfl,h1,h2⟩:=zaX rx;obtain⟨v,g1,g2⟩:=zkv h2 e3;exact .inr (.inl ⟨a,xs,i,v,rfl,zaG ry,h1,g1,q v Fz H (.val al g2)⟩)
  ·exact .inr (.inr ⟨z,i,c,zat rx,zaG ry,e3,e4,q _ Fz H (.val al (by simp only[Den]))⟩)
section
variable {X:Cx}{a b:Expr}{ta tb:TPE}{pos:Pos}
theorem zaK (ha:PuE X a ta)(hb:PuE X b tb)(hs:autoParam (zhc b) aU6):PuE X (.Subscript a b pos) (t2 pIx ta tb):=zry zpP zrz ha hb hs
theorem zqf (hu:X.A.units+16<cLine)(ha:PuE X a ta)(hb:PuE X b tb)(hm:autoParam (behindInMarks .Eq b=false) aU5):PuE X (.Compare a [.Eq] [b] pos) (t2 (pEq false) ta tb):=zni (znl hu) zkm ha hb hm
theorem zes (hu:X.A.units+16<cLine)(ha:PuE X a ta)(hb:PuE X b tb)(hm:autoParam (behindInMarks .Eq b=false) aU5):PuT X (.Compare a [.Eq] [b] pos) (tBl (t2 (pEq false) ta tb)):=zhj (znl hu) zkm ha hb hm
theorem zcw (hu:X.A.units+16<cLine)(ha:PuE X a ta)(hb:PuE X b tb)(hm:autoParam (behindInMarks .NotEq b=false) aU5):PuT X (.Compare a [.NotEq] [b] pos) (tBl (t2 (pEq true) ta tb)):=zhj (zqa hu) zkm ha hb hm
end
noncomputable def rInP (K:Xa)(neg:Bool):R2:=λx y H Q=>∃Fz d ds p xs,Root K Fz H d x/\y=.ref p/\(SqL K H p xs\/SqT K H p xs)/\DenL K Fz H ds xs/\plain 6 d=true/\ds.all (plain 6)=true/\Q (.bl (if neg then !decide (d∈ds) else decide (d∈ds))) H
noncomputable def pIn (neg:Bool):P2:=λd e Q=>∃ds,(e=.lst ds\/e=.tup ds)/\plain 6 d=true/\ds.all (plain 6)=true/\Q (.bl (if neg then !decide (d∈ds) else decide (d∈ds))) .frz
theorem zrA {K:Xa}{neg:Bool}:POp K (rInP K neg) (pIn neg) where
 mono d e Q Q' m h:=by obtain⟨ds,e1,e2,e3,q⟩:=h;exact⟨ds,e1,e2,e3,m _ _ q⟩
 run Fz H x y d e Q al rx ry h:=by
  obtain⟨ds,e1,e2,e3,q⟩:=h;rcases e1 with rfl | rfl
  ·obtain⟨a,xs,rfl,h1,h2⟩:=zam ry;exact⟨Fz,d,ds,a,xs,rx,rfl,.inl h1,h2,e2,e3,q _ Fz H (.val al (by simp only[Den]))⟩
  ·obtain⟨a,xs,rfl,h1,h2⟩:=zaX ry;exact⟨Fz,d,ds,a,xs,rx,rfl,.inr h1,h2,e2,e3,q _ Fz H (.val al (by simp only[Den]))⟩
noncomputable def dcd (p:Prop):Bool:=@decide p (Classical.propDecidable p)
theorem zig {p:Prop}(h:p):dcd p=true:=@decide_eq_true p (Classical.propDecidable p) h
theorem zkw {p:Prop}(h:¬ p):dcd p=false:=@decide_eq_false p (Classical.propDecidable p) h
theorem zoq {p:Prop}:dcd p=true↔p:=@decide_eq_true_iff p (Classical.propDecidable p)
section
variable {X:Cx}{pins:List (Addr×Obj)}{σ:St}{H:Hp}{s:Shared}{Fz:FZ}
theorem zih (I:Inv X pins σ H s){A:Around}(hu:A.units+16<cLine){d:PV}{ds:List PV}{x:V}{xs:List V}{v:Value}{its:List Value}(hx:Root X.K Fz H d x)(rx:RelV x v)(r:Vals xs its)(h:DenL X.K Fz H ds xs)(pd:plain 6 d=true)(ps:ds.all (plain 6)=true) :
  ∃e:Value->Bool,(∀y,y∈its.toArray->SeqAt.EqAt A.in1 s y v (e y))/\its.toArray.any e=decide (d∈ds):=by
 refine⟨λu=>dcd (∃j:Nat,its[j]? = some u/\ds[j]? = some d),λu hu'=>?_,?_⟩
 ·obtain⟨j,hj⟩:=List.mem_iff_getElem?.mp (show u∈its by simpa using hu');have l1:=r.length;have l2:=h.length;have hjl:j<its.length:=(Xj.mp hj).1;have e1:ds[j]? = some ds[j]:=Xb (by lia);obtain⟨y,e2,q2⟩:=h.get e1;obtain⟨u',e3,q3⟩:=r.get e2;rw[hj]at e3;cases e3;have pj:plain 6 ds[j]=true:=XM.mp ps _ (YA _);have w:dcd (∃j':Nat,its[j']? = some u/\ds[j']? = some d)=decide (ds[j]=d):=by
   by_cases hd:ds[j]=d
   ·rw[decide_eq_true hd,zig ⟨j,hj,by rw[e1,hd]⟩]
   ·rw[decide_eq_false hd];refine zkw ?_;rintro⟨j',g1,g2⟩;obtain⟨y',e2',q2'⟩:=h.get g2;obtain⟨u',e3',q3'⟩:=r.get e2';rw[g1]at e3';cases e3';have ey:y=y':=q3.inj q3';subst ey;exact hd (zfD I 6 _ _ _ pj pd q2.root q2'.root)
  show SeqAt.EqAt A.in1 s u v (dcd (∃j':Nat,its[j']? = some u/\ds[j']? = some d));rw[w];exact(zmj I 6 A.in1 ds[j] d y x u v pj pd (by show A.units+1+6<cLine;lia) q2.root hx q3 rx).2.2
 ·have l1:=r.length;have l2:=h.length;by_cases hd:d∈ds
  ·rw[decide_eq_true hd];obtain⟨j,hj⟩:=List.mem_iff_getElem?.mp hd;have hjl:j<ds.length:=(Xj.mp hj).1;rw[Array.any_eq_true];refine⟨j,by simpa using (by lia:j<its.length),?_⟩;refine zig ⟨j,?_,hj⟩;simp
  ·rw[decide_eq_false hd];rw[Array.any_eq_false];intro i hi;intro z;obtain⟨j,g1,g2⟩:=zoq.mp z;exact hd (Xl g2)
theorem zkx (hu:X.A.units+16<cLine):OpR X (compareOp .NotIn) (rInP X.K true):=by
 intro pins s σ H x y v u Q I rx ry h;obtain⟨Fz,d,ds,p,xs,hx,rfl,hq,hd,p1,p2,q⟩:=h;cases ry;rcases hq with hq | hq
 ·obtain⟨its,r,pl,hz⟩:=I.list hq;obtain⟨e,h1,h2⟩:=zih I hu hx rx r hd p1 p2;exact SeqAt.notIn_listAt e pl.isList h1 ⟨.bl _,H,I,rfl,by rw[h2];exact q⟩
 ·obtain⟨its,r,pl,hz⟩:=I.tuple hq;obtain⟨e,h1,h2⟩:=zih I hu hx rx r hd p1 p2;exact SeqAt.notIn_tupleAt e pl h1 ⟨.bl _,H,I,rfl,by rw[h2];exact q⟩
variable {a b:Expr}{ta tb:TPE}{pos:Pos}
theorem zky (hu:X.A.units+16<cLine)(ha:PuE X a ta)(hb:PuE X b tb)(hm:autoParam (behindInMarks .NotIn b=false) aU5):PuT X (.Compare a [.NotIn] [b] pos) (tBl (t2 (pIn true) ta tb)):=zhj (zkx hu) zrA ha hb hm
end
theorem zor:bootBuiltins "list" = some (.type "list"):=by decide +kernel
theorem zkz:bootBuiltins "tuple" = some (.type "tuple"):=by decide +kernel
theorem bSet:bootBuiltins "set" = some (.type "set"):=by decide +kernel
theorem bInt:bootBuiltins "int" = some (.type "int"):=by decide +kernel
theorem zrB:bootBuiltins "bool" = some (.type "bool"):=by decide +kernel
theorem bLen:bootBuiltins "len" = some (.builtin "len"):=by decide +kernel
theorem zkA:bootBuiltins "sorted" = some (.builtin "sorted"):=by decide +kernel
theorem bIsi:bootBuiltins "isinstance" = some (.builtin "isinstance"):=by decide +kernel
theorem zff {K:Xa}{Fz:FZ}{H:Hp}{d:PV}{vs:List V}(h:zmk K Fz H [d] vs):∃v,vs=[v]/\Root K Fz H d v:=by
 cases h with
 | cons r t=>cases t;exact⟨_,rfl,r⟩
theorem znp {K:Xa}{Fz:FZ}{H:Hp}{d e:PV}{vs:List V}(h:zmk K Fz H [d,e] vs):∃v u,vs=[v,u]/\Root K Fz H d v/\Root K Fz H e u:=by
 cases h with
 | cons r t=>
  cases t with
  | cons r2 t=>cases t;exact⟨_,_,rfl,r,r2⟩
theorem Post.newL {K:Xa}{Fz:FZ}{H:Hp}{p:Addr}{ds:List PV}{xs:List V}(al:∀b,Fz b->H b≠none)(hp:H p=none)(h:DenL K Fz H ds xs):Post K [] [] Fz H Fz (upd H p (.lst xs)) (.lst ds) .new (.ref p):=
 ⟨Ext.laid ⟨Same.refl H,λ_ h=>h,λ_ h=>.inl h,al⟩ hp,p,rfl,hp,λz=>al p z hp,xs,zaj,DenL.mono (Keep.of (λb u e=>by rw[zah (zaA e hp)];exact e)) (λ_ h=>h) _ _ h⟩
theorem Post.newT {K:Xa}{Fz:FZ}{H:Hp}{p:Addr}{ds:List PV}{xs:List V}(al:∀b,Fz b->H b≠none)(hp:H p=none)(h:DenL K Fz H ds xs):Post K [] [] Fz H Fz (upd H p (.tup xs)) (.tup ds) .frz (.ref p):=by
 refine⟨Ext.laid ⟨Same.refl H,λ_ h=>h,λ_ h=>.inl h,al⟩ hp,?_⟩;show Den _ _ _ _ _;simp only[Den];exact⟨p,xs,rfl,zaj,DenL.mono (Keep.of (λb u e=>by rw[zah (zaA e hp)];exact e)) (λ_ h=>h) _ _ h⟩
noncomputable def LenP:PV->Nat->Prop
 | .str y,n=>y.length<=sizeLine/\n=y.length
 | .lst ds,n=>n=ds.length
 | .tup ds,n=>n=ds.length
 | .dK ks _,n=>n=ks.length
 | _,_=>False
noncomputable def fLen:PF:=λds Q=>∃d n,ds=[d]/\LenP d n/\Q (.int n) .frz
noncomputable def rLen (K:Xa):List V->Hp->VK->Prop:=λxs H Q=>(∃x n,xs=[x]/\LenV K x H n/\Q (.int n) H)\/∃a kvs,xs=[.ref a]/\Rd H a (.dK kvs)/\Q (.int kvs.length) H
theorem zkB {X:Cx}:zcz X (.builtin "len") (rLen X.K):=by
 intro pins s σ H xs us Q I r h;rcases h with h | ⟨a,kvs,rfl,ha,q⟩
 ·exact zlY pins s σ H xs us Q I r h
 ·obtain⟨u,rfl,ru⟩:=vals1 r;cases ru;exact zru I ha λt s' I'=>⟨.int kvs.length,H,I',⟨t,rfl⟩,q⟩
theorem zqg {K:Xa}:zfE K (rLen K) fLen where
 mono ds Q Q' m h:=by obtain⟨d,n,e1,e2,q⟩:=h;exact⟨d,n,e1,e2,m _ _ q⟩
 run Fz H ds vs Q al r h:=by
  obtain⟨d,n,rfl,e,q⟩:=h;obtain⟨v,rfl,rv⟩:=zff r;have q':=q (.int n) Fz H (.val al (by simp only[Den]));cases d with
  | str y=>cases zat rv;exact .inl ⟨_,n,rfl,e,q'⟩
  | lst ds=>obtain⟨a,xs,rfl,h1,h2⟩:=zam rv;exact .inl ⟨_,n,rfl,.inl ⟨xs,h1,by rw[<- h2.length];exact e⟩,q'⟩
  | tup ds=>obtain⟨a,xs,rfl,h1,h2⟩:=zaX rv;exact .inl ⟨_,n,rfl,.inr ⟨xs,h1,by rw[<- h2.length];exact e⟩,q'⟩
  | dK ks ds=>
   simp only[Root]at rv;obtain⟨a,xs,rfl,h1,h2,h3⟩:=rv;have e':n=ks.length:=e;refine .inr ⟨a,_,rfl,h1,?_⟩;rw[List.length_zip,<- h2,Nat.min_self,<- e'];exact q'
  | non=>exact e.elim
  | bl b=>exact e.elim
  | int i=>exact e.elim
  | ty n=>exact e.elim
  | dT ks ds=>exact e.elim
noncomputable def zbJ:PF:=λds Q=>∃es,(ds=[.lst es]\/ds=[.tup es])/\Q (.tup es) .frz
theorem zms {K:Xa}:zfE K (zpY K) zbJ where
 mono ds Q Q' m h:=by obtain⟨es,e,q⟩:=h;exact⟨es,e,m _ _ q⟩
 run Fz H ds vs Q al r h:=by
  obtain⟨es,e,q⟩:=h;rcases e with rfl | rfl
  ·obtain⟨v,rfl,rv⟩:=zff r;obtain⟨a,xs,rfl,h1,h2⟩:=zam rv;exact⟨a,xs,rfl,.inl ⟨h1,λl hl=>q _ Fz _ (.newT al hl h2)⟩⟩
  ·obtain⟨v,rfl,rv⟩:=zff r;obtain⟨a,xs,rfl,h1,h2⟩:=zcL rv;exact⟨a,xs,rfl,.inr ⟨SqT.of h1,q _ Fz H (.val al (by simp only[Den];exact⟨a,xs,rfl,h1,h2⟩))⟩⟩
theorem zgu {K:Xa}{Fz:FZ}{H:Hp}:∀ {ss:List Str}{xs:List V},DenL K Fz H (ss.map PV.str) xs->xs=ss.map V.str
 | [],xs,h=>by rw[List.map_nil]at h;simp only[DenL]at h;exact h
 | s::r,xs,h=>by
  rw[Xt]at h;simp only[DenL]at h;obtain⟨v,t,z,h1,h2⟩:=h;simp only[Den]at h1;subst z h1;rw[Xt,zgu h2]
theorem zgv {K:Xa}{Fz:FZ}{H:Hp}:∀(ss:List Str),DenL K Fz H (ss.map PV.str) (ss.map V.str)
 | []=>DenL.nil
 | s::r=>by rw[Xt,Xt];exact DenL.cons (by simp only[Den]) (zgv r)
section
variable {X:Cx}{e:Expr}{es:List Expr}{te:TPE}{t:TPA}{p p1 p2 pos pos2:Pos}
theorem zcS (hg:Gl X "len") (hm:X.mg "len" = none) (ha:PuA X (e::es) t) (he:autoParam (starEach (e::es) X.env=(false,eval e X.env)::starEach es X.env) aU0) (hpl:autoParam ((backTo pos (starEach es X.env)).any (·.1)=false) aU0):PuE X (.Call (.Name "len" p) (e::es) [] pos) (tB fLen t):=
 zdP zkB zqg hg hm bLen ha (by decide) (by decide) he hpl
theorem zmt (hg:Gl X "tuple") (hm:X.mg "tuple" = none) (ha:PuA X (e::es) t) (he:autoParam (starEach (e::es) X.env=(false,eval e X.env)::starEach es X.env) aU0) (hpl:autoParam ((backTo pos (starEach es X.env)).any (·.1)=false) aU0):PuE X (.Call (.Name "tuple" p) (e::es) [] pos) (tB zbJ t):=
 zgs zfw zms hg hm zkz ha (by decide) (by decide) he hpl
noncomputable def zdH (sep:Str)(te:TPE):TPE:=λρ Q=>te ρ λd _=>∃ss:List Str,d=.lst (ss.map PV.str)/\(ss.map (·.length)).sum+ss.length*sep.length<=16777216/\Q (.str (Txt.join sep ss)) .frz
theorem zos {sep:Str}{j:Nat}{apos cpos sp:Pos}(he:PuE X e te)(hbase:autoParam (attributeBase (.Constant (.str sep) j sp) "join" X.env (eval (.Constant (.str sep) j sp) X.env)=eval (.Constant (.str sep) j sp) X.env) aU0)
  (hfew:autoParam (((backTo cpos (starEach [e] X.env)).all (λx=>!x.1)&&(backToKw cpos (keywordEach [] X.env)).all (λx=>x.1.isSome)&&decide ([e].length+([]:List Keyword).length+(if ([]:List Keyword).isEmpty then 0 else 1)<30))=true) aU0)
  (hline:autoParam ((apos.endLine == cpos.line)=true) aU0) (hs:autoParam (starEach [e] X.env=(false,eval e X.env)::starEach [] X.env) aU0) (hplain:autoParam ((backTo cpos (starEach [] X.env)).any (·.1)=false) aU0) :
  PuE X (.Call (.Attribute (.Constant (.str sep) j sp) "join" apos) [e] [] cpos) (zdH sep te) where
 mono ρ Q Q' m h:=he.mono ρ _ _ (λd k q86q=>by obtain⟨ss,e1,e2,q⟩:=q86q;exact⟨ss,e1,e2,m _ _ q⟩) h
 run:=PE.weak (zjQ PySem.F.plainAttrs_str PySem.F.slot_str_join PySem.F.type_str_join zoj znf (zak he.run zaQ hs) hbase hfew hline hs hplain) λσ H Q h=>by
  obtain⟨ρ,Fz,R,h⟩:=h;refine⟨rfl,ρ,Fz,R,he.mono ρ _ _ (λd k q v F1 H1 p1=>?_) h⟩;obtain⟨ss,rfl,e2,q⟩:=q;obtain⟨a,xs,rfl,h1,h2⟩:=zam (p1.root R);have:=zgu h2;subst this;exact⟨sep,a,ss,rfl,rfl,h1,e2,q _ F1 H1 ⟨p1.ext,by show Den _ _ _ _ _;simp only[Den]⟩⟩
end
noncomputable def tyP:PV->String
 | .non=>"NoneType"
 | .bl _=>"bool"
 | .int _=>"int"
 | .str _=>"str"
 | .ty _=>"type"
 | .tup _=>"tuple"
 | .lst _=>"list"
 | .dK _ _=>"dict"
 | .dT _ _=>"dict"
theorem zii {X:Cx}{pins:List (Addr×Obj)}{σ:St}{H:Hp}{s:Shared}{Fz:FZ}{d:PV}{x:V}{u:Value}(I:Inv X pins σ H s)(r:Root X.K Fz H d x)(rx:RelV x u)(hd:∀n,d≠.ty n):∃P:Heap->Prop,PySem.W.KitX X.K u (.type (tyP d)) P/\P s.heap/\u≠.builtin "__main__.__loader__#opaque":=by
 cases d with
 | non=>cases zcn r;cases (show u=Value.none from rx);exact⟨_,PySem.W.kitx_none,True.intro,λz=>nomatch z⟩
 | bl y=>cases zek r;cases (show u=Value.bool y from rx);exact⟨_,PySem.W.kitx_bool,True.intro,λz=>nomatch z⟩
 | int i=>cases zaG r;obtain⟨t,q⟩:=(show ∃t,u=Value.int i t from rx);cases q;exact⟨_,PySem.W.kitx_int,True.intro,λz=>nomatch z⟩
 | str y=>cases zat r;obtain⟨t,q⟩:=(show ∃t,u=Value.str y t from rx);cases q;exact⟨_,PySem.W.kitx_str,True.intro,λz=>nomatch z⟩
 | ty n=>exact absurd rfl (hd n)
 | lst ds=>
  obtain⟨a,xs,rfl,h1,_⟩:=zam r;cases (show u=Value.ref a from rx);obtain⟨its,_,⟨o,n,e,c,_⟩,_⟩:=I.list h1;exact⟨_,PySem.W.kitx_list,⟨o,e,c⟩,λz=>nomatch z⟩
 | tup ds=>
  obtain⟨a,xs,rfl,h1,_⟩:=zaX r;cases (show u=Value.ref a from rx);obtain⟨its,_,⟨o,e,c,_⟩,_⟩:=I.tuple h1;exact⟨_,PySem.W.kitx_tuple,⟨o,e,c⟩,λz=>nomatch z⟩
 | dK ks ds=>
  simp only[Root]at r;obtain⟨a,xs,rfl,h1,_⟩:=r;cases (show u=Value.ref a from rx);obtain⟨_,_,vs,_,o,es,ep,e,ex,_⟩:=zeh I.hok h1;exact⟨_,PySem.W.kitx_dict,⟨o,e,ex.1⟩,λz=>nomatch z⟩
 | dT ks ds=>
  simp only[Root]at r;obtain⟨a,xs,rfl,h1,_⟩:=r;cases (show u=Value.ref a from rx);obtain⟨_,_,vs,_,o,es,ep,e,ex,_⟩:=zjR I.hok h1;exact⟨_,PySem.W.kitx_dict,⟨o,e,ex.1⟩,λz=>nomatch z⟩
noncomputable def fIsi (K:Xa):PF:=λds Q=>(∃d c,ds=[d,.ty c]/\(∀n,d≠.ty n)/\∃b,Xq K (.type (tyP d)) (.type c)=some b/\Q (.bl b) .frz)\/
 ∃d es,ds=[d,.tup es]/\(∀n,d≠.ty n)/\∃(cs:List String) (b:Bool),es=cs.map PV.ty/\PySem.W.kitAny K (.type (tyP d)) (cs.map Value.type)=some b/\Q (.bl b) .frz
noncomputable def zqh (K:Xa):List V->Hp->VK->Prop:=λxs H Q=>∃Fz d x b,Root K Fz H d x/\(∀n,d≠.ty n)/\((∃c,xs=[x,.ty c]/\Xq K (.type (tyP d)) (.type c)=some b)\/∃(p:Addr)(cs:List String),xs=[x,.ref p]/\SqT K H p (cs.map V.ty)/\PySem.W.kitAny K (.type (tyP d)) (cs.map Value.type)=some b)/\Q (.bl b) H
theorem zkC {X:Cx}:zcz X (.builtin "isinstance") (zqh X.K):=by
 intro pins s σ H xs us Q I r h;obtain⟨Fz,d,x,b,rt,hd,e,q⟩:=h;rcases e with ⟨c,rfl,e⟩ | ⟨p,cs,rfl,hp,e⟩
 ·obtain⟨u,w',rfl,r1,r2⟩:=vals2 r;cases r2;obtain⟨P,Z,hP,ne⟩:=zii I rt r1 hd;exact PySem.W.kia_one Z I.kIn hP e ne λtk=>⟨.bl b,H,I.tok tk,rfl,q⟩
 ·obtain⟨u,w',rfl,r1,r2⟩:=vals2 r;cases r2;obtain⟨P,Z,hP,ne⟩:=zii I rt r1 hd;obtain⟨its,rv,⟨⟨cls,dd,data,sl⟩,ho,hc,n,hdt⟩,hzz⟩:=I.tuple hp;simp only at hc hdt;subst hc hdt;have ei:its=cs.map Value.type:=by
   clear hp ho e hzz;induction cs generalizing its with
   | nil=>cases rv;rfl
   | cons c cs ih=>
    cases rv with
    | cons q1 q2=>rw[show _=Value.type c from q1,ih _ q2];rfl
  subst ei;exact PySem.W.kia_tup Z I.kIn hP ho e ne λtk=>⟨.bl b,H,I.tok tk,rfl,q⟩
theorem zij {K:Xa}{Fz:FZ}{H:Hp}:∀ {ss:List String}{xs:List V},DenL K Fz H (ss.map PV.ty) xs->xs=ss.map V.ty
 | [],xs,h=>by rw[List.map_nil]at h;simp only[DenL]at h;exact h
 | s::r,xs,h=>by
  rw[Xt]at h;simp only[DenL]at h;obtain⟨v,t,z,h1,h2⟩:=h;simp only[Den]at h1;subst z h1;rw[Xt,zij h2]
theorem zqi {K:Xa}:zfE K (zqh K) (fIsi K) where
 mono ds Q Q' m h:=by
  rcases h with ⟨d,c,e,hd,b,e2,q⟩ | ⟨d,es,e,hd,cs,b,e2,e3,q⟩
  ·exact .inl ⟨d,c,e,hd,b,e2,m _ _ q⟩
  ·exact .inr ⟨d,es,e,hd,cs,b,e2,e3,m _ _ q⟩
 run Fz H ds vs Q al r h:=by
  rcases h with ⟨d,c,rfl,hd,b,e,q⟩ | ⟨d,es,rfl,hd,cs,b,rfl,e,q⟩
  ·have q':=q (.bl b) Fz H (.val al (by simp only[Den]));obtain⟨v,u,rfl,r1,r2⟩:=znp r;simp only[Root,Den]at r2;subst r2;exact⟨Fz,d,v,b,r1,hd,.inl ⟨c,rfl,e⟩,q'⟩
  ·have q':=q (.bl b) Fz H (.val al (by simp only[Den]));obtain⟨v,u,rfl,r1,r2⟩:=znp r;obtain⟨a,xs,rfl,h1,h2⟩:=zaX r2;have:=zij h2;subst this;exact⟨Fz,d,v,b,r1,hd,.inr ⟨a,cs,rfl,h1,e⟩,q'⟩
section
variable {X:Cx}{e:Expr}{es:List Expr}{te:TPE}{t:TPA}{p p1 p2 pos pos2:Pos}
theorem zfg {K:Xa}(hK:X.K=K)(hg:Gl X "isinstance") (hm:X.mg "isinstance" = none) (ha:PuA X (e::es) t) (he:autoParam (starEach (e::es) X.env=(false,eval e X.env)::starEach es X.env) aU0) (hpl:autoParam ((backTo pos (starEach es X.env)).any (·.1)=false) aU0):PuE X (.Call (.Name "isinstance" p) (e::es) [] pos) (tB (fIsi K) t):=by
 subst hK;exact zdP zkC zqi hg hm bIsi ha (by decide) (by decide) he hpl
end
noncomputable abbrev TPO:=PEnv->(Option Int->Prop)->Prop
noncomputable def zrC (K:Xa)(t:TPO):TO:=λσ H Q=>∃ρ Fz,Rel K Fz ρ σ H/\t ρ λo=>∀Fz' H',Ext Fz H Fz' H'->Q o H'
structure PuO (X:Cx)(e:Option Expr)(t:TPO):Prop where
 mono:∀ρ Q Q',(∀o,Q o->Q' o)->t ρ Q->t ρ Q'
 run:PO X e (zrC X.K t)
theorem PO.weak {X:Cx}{e:Option Expr}{t t':TO}(h:PO X e t)(w:∀σ H Q,t' σ H Q->t σ H Q):PO X e t':=λpins s σ H Q I q=>h pins s σ H Q I (w σ H Q q)
noncomputable def zcT:TPO:=λ_ Q=>Q none
noncomputable def zcU (te:TPE):TPO:=λρ Q=>te ρ λd _=>∃i,d=.int i/\Q (some i)
theorem zcV {X:Cx}:PuO X none zcT where
 mono ρ Q Q' m h:=m _ h
 run:=PO.weak znW λσ H Q h=>by
  obtain⟨ρ,Fz,R,h⟩:=h;exact h Fz H ⟨Same.refl H,λ_ h=>h,λ_ h=>.inl h,R.al⟩
theorem zcW {X:Cx}{e:Expr}{te:TPE}(h:PuE X e te):PuO X (some e) (zcU te) where
 mono ρ Q Q' m q:=h.mono ρ _ _ (λd k q87q=>by obtain⟨i,e,q⟩:=q87q;exact⟨i,e,m _ q⟩) q
 run:=PO.weak (znX h.run) λσ H Q q=>by
  obtain⟨ρ,Fz,R,q⟩:=q;exact⟨ρ,Fz,R,h.mono ρ _ _ (λd k q88q v F1 H1 p1=>by obtain⟨i,e,q⟩:=q88q;exact⟨i,by subst e;exact zaG (p1.root R),q F1 H1 p1.ext⟩) q⟩
noncomputable def cutP (xs:List PV)(lo hi:Option Int):List PV:=(xs.drop (HT.sIx xs.length 0 lo)).take (HT.sIx xs.length xs.length hi-HT.sIx xs.length 0 lo)
noncomputable def pSlL (te:TPE)(tl th:TPO):TPE:=λρ Q=>te ρ λd _=>tl ρ λl=>th ρ λu=>∃ds,d=.lst ds/\Q (.lst (cutP ds l u)) .new
theorem zhm {K:Xa}{Fz:FZ}{H:Hp}{ds:List PV}{xs:List V}{lo hi:Option Int}(h:DenL K Fz H ds xs):DenL K Fz H (cutP ds lo hi) (cutV xs lo hi):=by
 unfold cutP cutV;rw[h.length];exact(h.drop _).take _
section
variable {X:Cx}{e a b:Expr}{te ta tb:TPE}{lo hi:Option Expr}{tl th:TPO}{pos p2:Pos}
theorem zmu (he:PuE X e te)(hl:PuO X lo tl)(hu:PuO X hi th):PuE X (.Subscript e (.Slice lo hi none p2) pos) (pSlL te tl th) where
 mono ρ Q Q' m h:=he.mono ρ _ _ (λd k h=>hl.mono ρ _ _ (λl h=>hu.mono ρ _ _ (λu q89q=>by obtain⟨ds,e,q⟩:=q89q;exact⟨ds,e,m _ _ q⟩) h) h) h
 run:=PE.weak (zfs zoa he.run hl.run hu.run) λσ H Q h=>by
  obtain⟨ρ,Fz,R,h⟩:=h;refine⟨ρ,Fz,R,he.mono ρ _ _ (λd k q v F1 H1 p1=>?_) h⟩;refine⟨ρ,F1,R.ext p1.ext,hl.mono ρ _ _ (λl q F2 H2 x2=>?_) q⟩;refine⟨ρ,F2,(R.ext p1.ext).ext x2,hu.mono ρ _ _ (λu q3 F3 H3 x3=>?_) q⟩;obtain⟨ds,e3,q4⟩:=q3;subst e3;obtain⟨a,xs,rfl,h1,h2⟩:=zam (((p1.root R).mono x2.same x2.sub).mono x3.same x3.sub);exact⟨a,xs,rfl,h1,λp hp=>q4 _ F3 _ ((Post.newL x3.al hp (zhm h2)).behind (p1.ext.trans (x2.trans x3)))⟩
noncomputable def zqj (K:Xa):R2:=λx y H Q=>∃l b xs zs,x=.ref l/\y=.ref b/\(Rd H l (.lst xs)\/KX K l xs)/\(Rd H b (.lst zs)\/KX K b zs)/\xs.length+zs.length<=sizeLine/\∀p,H p=none->Q (.ref p) (upd H p (.lst (xs++zs)))
theorem zqk {pins:List (Addr×Obj)}{σ:St}{H:Hp}{s:Shared}{l:Addr}{xs:List V}(I:Inv X pins σ H s)(h:Rd H l (.lst xs)\/KX X.K l xs):∃(its:List Value)(n:Nat),Vals xs its/\s.heap.get? l=some { cls:=.type "list",data:=.seq its.toArray n }:=by
 rcases h with h | ⟨its,n,h1,_,h3⟩
 ·obtain⟨z,its,n,r,e⟩:=(show zbr X.prog X.w H s.heap l (.lst xs) from h.ok I.hok);exact⟨its,n,r,e⟩
 ·exact⟨its.toList,n,h3,by rw[Array.toArray_toList];exact I.kIn l _ h1⟩
theorem zot:OpR X (binaryOp .Add) (zqj X.K):=by
 intro pins s σ H x y v u Q I rx ry h;obtain⟨l,b,xs,zs,rfl,rfl,hH,hB,hz,q⟩:=h;cases rx;cases ry;obtain⟨its,n,r,e⟩:=zqk I hH;obtain⟨its2,n2,r2,e2⟩:=zqk I hB;have l1:=r.length;have l2:=r2.length;refine PySem.P.add_list e e2 ?_ (by rw[Xm,Xm];lia);have ea:its.toArray++its2.toArray=(its++its2).toArray:=by simp
 rw[ea];exact⟨.ref _,_,I.lnew (t':=s.toks) (r.append r2) (by rw[XH];lia),rfl,q _ I.fresh⟩
noncomputable def pCat:P2:=λd e Q=>∃ds es,d=.lst ds/\e=.lst es/\ds.length+es.length<=sizeLine/\Q (.lst (ds++es)) .new
theorem zql {K:Xa}:POp K (zqj K) pCat where
 mono d e Q Q' m h:=by obtain⟨ds,es,e1,e2,e3,q⟩:=h;exact⟨ds,es,e1,e2,e3,m _ _ q⟩
 run Fz H x y d e Q al rx ry h:=by
  obtain⟨ds,es,rfl,rfl,e3,q⟩:=h;obtain⟨a,xs,rfl,h1,h2⟩:=zgq rx;obtain⟨b,ys,rfl,g1,g2⟩:=zgq ry;have l1:=h2.length;have l2:=g2.length;exact⟨a,b,xs,ys,rfl,rfl,h1,g1,by lia,λp hp=>q _ Fz _ (.newL al hp (h2.append g2))⟩
theorem zqm (ha:PuE X a ta)(hb:PuE X b tb):PuE X (.BinOp a .Add b pos) (t2 pCat ta tb):=zfB zot zql ha hb
end
structure Fx (K:Xa)(mg:Str->Option Value)(x:Str)(st:Stmt)(ps:List Str)(f:Addr)(fd:FuncData):Prop where
 fn:Fun K x x st f fd
 bd:Binds K fd ps []
 mg:mg x=some (.ref f)
structure Bl (mg:Str->Option Value):Prop where
 range:mg "range" = none
 len:mg "len" = none
 list:mg "list" = none
 tuple:mg "tuple" = none
 sorted:mg "sorted" = none
 set:mg "set" = none
 isi:mg "isinstance" = none
 str:mg "str" = none
 int:mg "int" = none
 bool:mg "bool" = none
 dict:mg "dict" = none
 enumerate:mg "enumerate" = none
 zip:mg "zip" = none
 min:mg "min" = none
 max:mg "max" = none
 sum:mg "sum" = none
 all:mg "all" = none
 any:mg "any" = none
 reversed:mg "reversed" = none
 abs:mg "abs" = none
 ord:mg "ord" = none
theorem zgw {K:Xa}{T c:String}{b:Bool}(h1:PySem.W.kitMeta c=true)(h2:(fastBuiltinMro T).map (·.contains (.type c))=some b)(h3:(Value.type T == Value.type c)=false):Xq K (.type T) (.type c)=some b:=by
 unfold Xq PySem.W.kitCls;rw[if_neg (by rw[h3];decide)];dsimp only;rw[if_pos h1];exact h2
theorem zcX {K:Xa}{T:String}:Xq K (.type T) (.type T)=some true:=by
 unfold Xq;rw[if_pos (by simp)]
theorem zgx {K:Xa}:Xq K (.type "int") (.type "bool")=some false:=zgw (by decide +kernel) (by decide +kernel) (by decide +kernel)
theorem zkD {P:Program}{w:World}{K:Xa}{mg mb:Str->Option Value}{CX:CXT}{k:Nat}{fa a:Addr}{fd:FuncData}{x:Str}{sp:Sp}{s₁:Shared}{vs:List Value}{ns:List Int}
  (KX:K.In s₁.heap) (hns:s₁.heap.Ns mainGlobals mg) (hb:s₁.heap.Ns builtinsNs mb) (hbb:∀x:Str,x≠"__name__"->mb x=bootBuiltins x) (hlim:s₁.heap.NoLimit) (hg:s₁.gens = #[])
  (ha:s₁.heap.get? a=some { cls:=.type "list",data:=.seq vs.toArray }) (hi:IntsAre vs ns) (hl:ns.length<=sizeLine) (hr:Room k callerA)
  (F:∀base:Heap,K.In base->base.Ns mainGlobals mg->FnOk P w K mg base CX k fa fd [x] sp) (hbind:∀(s:Shared) (u:Value),BindsTo s fd ⟨[u],[]⟩ [(x,u)])
  (hsp:∀H:Hp,Only H->(Rd H a (.lst (ns.map V.int))\/PL.KX K a (ns.map V.int))->sp [.ref a] H (λv _=>v=.bl true) λ_ _ _=>False)
  (hCX:∀H e s',CX [] H s₁ (λ_ _ _=>False) e s'->False) :
  codeAny (model P w) callerA (.call (.ref fa) ⟨[.ref a],[]⟩) (λr s'=>r=.ok (.ret (.bool true))/\OldK s₁.heap s'.heap/\s'.os=s₁.os/\AllBare s'.gens) s₁:=by
 have rv:=zgl hi;have lenV:=hi.length;have core:∀H:Hp,Only H->(Rd H a (.lst (ns.map V.int))\/PL.KX K a (ns.map V.int))->HOk P w H s₁.heap->(∀b,H b≠none->b=a)->(H a≠none->K.lookup a=none)->
   codeAny (model P w) callerA (.call (.ref fa) ⟨[.ref a],[]⟩) (λr s'=>r=.ok (.ret (.bool true))/\OldK s₁.heap s'.heap/\s'.os=s₁.os/\AllBare s'.gens) s₁:=by
  intro H hO hS hok hA hK;have base_of:∀ {b:Addr} {o:Obj},s₁.heap.get? b=some o->H b=none->(hidT s₁.heap H).get? b=some o:=λe n=>zlS e n;have noA:∀ {b:Addr} {o:Obj} {es:Array DictEntry} {ep:Nat},s₁.heap.get? b=some o->o.data=.dict es ep->H b=none:=λ{b o es ep} e d=>by
   cases q:H b with
   | none=>rfl
   | some u=>
    have e':b=a:=hA b (by rw[q];simp);subst e';rw[ha]at e;cases e;have d':Data.seq vs.toArray _=Data.dict es ep:=d;cases d'
  have nsK:∀ {b:Addr} {m:Str->Option Value},s₁.heap.Ns b m->(hidT s₁.heap H).Ns b m:=λ{b m} ⟨o,es,ep,e,d,r⟩=>⟨o,es,ep,base_of e (noA e d),d,r⟩;have hKb:K.In (hidT s₁.heap H):=λb o e=>base_of (KX b o e) (by
   cases q:H b with
   | none=>rfl
   | some u=>
    have e':b=a:=hA b (by rw[q];simp);subst e';rw[hK (by rw[q];simp)]at e;cases e)
  have hM:Mod K mg (hidT s₁.heap H):=⟨hKb,nsK hns,⟨mb,nsK hb,hbb⟩,let ⟨mc,h1,h2⟩:=hlim;⟨mc,nsK h1,h2⟩⟩;have e0:Env0 P w K mg (hidT s₁.heap H) callerA [] s₁ H:=⟨rfl,hM,λb o e=>znM e,Nat.le_of_eq (zjC _ _),trivial,λb hb=>absurd (show b∈([]:List Addr) from hb) (by simp),hok,.of_eq hg⟩;refine codeAny_mono ((F _ hKb (nsK hns)).run callerA [] s₁ H ⟨[.ref a],[]⟩ [.ref a] [.ref a] _ _ hr e0 (hbind s₁ (.ref a)) (.cons rfl .nil) (hsp H hO hS)) λr s' h=>?_;cases r with
  | error e=>exact(hCX H e s' h).elim
  | ok fl=>
   cases fl with
   | next=>exact False.elim h
   | brk=>exact False.elim h
   | cont=>exact False.elim h
   | ret u=>
    obtain⟨v,H',os,bare,un,hok',r',q⟩:=h;have q':v=.bl true:=q;subst q';obtain rfl:u=Value.bool true:=r';refine⟨rfl,OldK.of_keep λb o e=>?_,os,bare⟩;cases q:H b with
    | none=>exact un.keep b o e q (by intro z;exact absurd (show b∈([]:List Addr) from z) (by simp)) (by simp)
    | some u=>
     rcases hO b with z | ⟨ob,xs,z⟩
     ·rw[q]at z;cases z
     ·have z2:=un.frzs b ob _ z;obtain⟨e1,_⟩:=hok b _ z;obtain⟨e2,_⟩:=hok' b _ z2;rw[e]at e1;cases e1;exact e2
 cases hk:K.lookup a with
 | some o=>
  have e:=KX a o hk;rw[ha]at e;cases e;refine core (λ_=>none) (λ_=>.inl rfl) (.inr ⟨vs.toArray,_,hk,by rw[Xm,lenV];exact hl,by simpa using rv⟩) (λb u z=>by have z':(none:Option HO)=some u:=z;cases z') (λb z=>absurd rfl z) λz=>absurd rfl z
 | none=>
  refine core (λb=>if b=a then some (.frz { cls:=.type "list",data:=.seq vs.toArray } (.lst (ns.map V.int))) else none) (λb=>?_) (.inl (.inr ⟨{ cls:=.type "list",data:=.seq vs.toArray },if_pos rfl⟩)) (λb u z=>?_) (λb z=>?_) λ_=>hk
  ·by_cases hb:b=a
   ·exact .inr ⟨_,_,if_pos hb⟩
   ·exact .inl (if_neg hb)
  ·by_cases hb:b=a
   ·have z':=(if_pos hb).symm.trans z;cases z';subst hb;exact⟨ha,by rw[Xc];exact hl,vs,_,rv,ha⟩
   ·have z':=(if_neg hb).symm.trans z;cases z'
  ·by_cases hb:b=a
   ·exact hb
   ·exact absurd (if_neg hb) z
theorem zgy {K:Xa}{Fz:FZ}{H:Hp}:∀(ns:List Int),DenL K Fz H (ns.map PV.int) (ns.map V.int)
 | []=>DenL.nil
 | n::r=>by rw[Xt,Xt];exact DenL.cons (by simp only[Den]) (zgy r)
theorem zqn {K:Xa}{H:Hp}{a:Addr}{ns:List Int}{F:PF}{E:XK}(m:zct F)(h:Rd H a (.lst (ns.map V.int))\/KX K a (ns.map V.int))(hF:F [.lst (ns.map PV.int)] λd k=>d=.bl true):spP K F [.ref a] H (λv _=>v=.bl true) E:=by
 refine⟨λb=>H b≠none,[.lst (ns.map PV.int)],λb hb=>hb,DenL.cons ?_ DenL.nil,m _ _ _ (λd k e v F' H' p=>?_) hF⟩
 ·simp only[Den];refine⟨a,ns.map V.int,rfl,?_,zgy ns⟩;rcases h with h | h
  ·refine .inl ⟨?_,h⟩;rcases h with h | ⟨o,h⟩<;>(show H a≠none;rw[h];exact λz=>nomatch z)
  ·exact .inr h
 ·subst e;cases k with
  | frz=>have q:Den K F' H' (.bl true) v:=p.opd;simpa only[Den]using q
  | new=>obtain⟨b,_,_,_,o⟩:=p.opd;exact o.elim
  | own i=>obtain⟨z,_⟩:=p.opd;simp at z
theorem zrD {l:PySem.W.OpenLaw}{k:Nat}{q:Program}{loose:List Str}{XP:(Str->Option Value)->Heap->Prop}{YP:World->Heap->Prop}{d:DefRec}{K:Params->Xa}{FL:PF}{x:Str}
  (hn:l.most=some 63) (hdf:d.params.defaults=[]) (hr:Room k callerA) (m:zct FL)
  (hY:∀(w:World) (h:Heap),YP w h->(K w.params).In h)
  (F:∀(w:World) (mg:Str->Option Value) (fa:Addr) (h:Heap),(K w.params).In h->h.Ns mainGlobals mg->mg d.name=some (.ref fa)->
   ∃fd:FuncData,(∀(s:Shared) (u:Value),BindsTo s fd ⟨[u],[]⟩ [(x,u)])/\∀base:Heap,(K w.params).In base->base.Ns mainGlobals mg->FnOk l.prog w (K w.params) mg base CX0 k fa fd [x] (spP (K w.params) FL))
  (hF:∀ns:List Int,ns.length<=63->FL [.lst (ns.map PV.int)] λd k=>d=.bl true) :
  PySem.W.WalkO q loose XP YP l.row.toRowW d [] (λf vs=>PySem.call f vs):=by
 refine Att.zhf hn hdf λw s₀ s₁ mg mb fa o pm cd doc a vs ns G Y ho hd hcd hmg hobj hints hlen hg=>?_;have KX:=hY w _ Y;obtain⟨fd,hb,hFn⟩:=F w mg fa _ KX G.T.g hmg;exact zkD KX G.T.g G.T.b G.T.builtins G.T.nolimit hg hobj hints (YH hlen (by decide)) hr hFn hb (λH hO hS=>zqn m hS (hF ns hlen)) λH e s' z=>z
end PL
namespace L2
open PySem PySem.Spec PyProof.Rows
section
variable {P:Program}{w:World}{K:Xa}{tg:Expr}
theorem zqo {kvs:List (Key×V)}{vs:List (Key×Value)}{i:Nat}{kv:Key×V}(r:KV kvs vs)(h:kvs[i]? = some kv):∃u,vs[i]? = some (kv.1,u)/\RelV kv.2 u:=by
 induction r generalizing i with
 | nil=>simp at h
 | @cons p q ps qs h1 h2 ih=>
  cases i with
  | zero=>simp at h;subst h;exact⟨q.2,by simp[h1.1],h1.2⟩
  | succ i=>simpa using ih (by simpa using h)
theorem zou {k:Key}{u:Value}(h:(zax P w).is k u=true):RelV (kV k) u:=by
 have h':zgV k u=true:=h;rcases zaw h' with ⟨i,t,rfl,rfl⟩ | ⟨x,t,rfl,rfl⟩
 ·exact⟨t,rfl⟩
 ·exact⟨t,rfl⟩
end
end L2
namespace PL
open PySem PySem.Spec L2
open PyProof.Rows hiding St
noncomputable def keyP:Key->PV
 | .inl i=>.int i
 | .inr x=>.str x
theorem zov {K:Xa}{Fz:FZ}{H:Hp}(k:Key):Den K Fz H (keyP k) (kV k):=by
 cases k<;>simp only[keyP,kV,Den]
noncomputable def dgP {κ:Type} [DecidableEq κ] (ks:List κ)(ds:List PV)(k:κ):Option PV:=((ks.zip ds).find? λkv=>decide (kv.1=k)).map (·.2)
section
variable {K:Xa}{Fz:FZ}{H:Hp}
theorem zik {κ:Type} [DecidableEq κ]:∀(ks:List κ)(ds:List PV)(xs:List V)(k:κ),DenL K Fz H ds xs->(∀d,dgP ks ds k=some d->∃v,valV (ks.zip xs) k=some v/\Den K Fz H d v)/\(dgP ks ds k=none->valV (ks.zip xs) k=none)
 | [],ds,xs,k,h=>⟨λd e=>by simp[dgP]at e,λ_=>rfl⟩
 | c::ks,[],xs,k,h=>by
  simp only[DenL]at h;subst h;exact⟨λd e=>by simp[dgP]at e,λ_=>rfl⟩
 | c::ks,d0::ds,xs,k,h=>by
  simp only[DenL]at h;obtain⟨v,r,rfl,h1,h2⟩:=h;have ih:=zik ks ds r k h2;by_cases e:c=k
  ·subst e;refine⟨λd hd=>⟨v,by simp[valV],?_⟩,λhn=>?_⟩
   ·have:d0=d:=by simpa[dgP]using hd
    subst this;exact h1
   ·simp[dgP]at hn
  ·refine⟨λd hd=>?_,λhn=>?_⟩
   ·have:dgP ks ds k=some d:=by simpa[dgP,Ys,e]using hd
    obtain⟨w,q1,q2⟩:=ih.1 d this;exact⟨w,by simpa[valV,Ys,e]using q1,q2⟩
   ·have:dgP ks ds k=none:=by simpa[dgP,Ys,e]using hn
    have:=ih.2 this;simpa[valV,Ys,e]using this
theorem zcY {k:Key}{x:V}(h:Root K Fz H (keyP k) x):x=kV k:=by
 cases k<;>simpa only[keyP,kV,Root,Den]using h
theorem zet {ks:List Key}{ds:List PV}{x:V}(h:Root K Fz H (.dK ks ds) x):∃a xs,x=.ref a/\Rd H a (.dK (ks.zip xs))/\ks.length=xs.length/\DenL K Fz H ds xs:=by
 simpa only[Root]using h
noncomputable def rDG:R2:=λx y H Q=>∃a v,x=.ref a/\DGet H a y (some v)/\Q v H
noncomputable def pDG:P2:=λd e Q=>∃ks ds k v,d=.dK ks ds/\e=keyP k/\dgP ks ds k=some v/\Q v .frz
theorem zqp:POp K rDG pDG where
 mono d e Q Q' m h:=by obtain⟨ks,ds,k,v,e1,e2,e3,q⟩:=h;exact⟨ks,ds,k,v,e1,e2,e3,m _ _ q⟩
 run Fz H x y d e Q al rx ry h:=by
  obtain⟨ks,ds,k,d',rfl,rfl,e3,q⟩:=h;obtain⟨a,xs,rfl,r,hl,hd⟩:=zet rx;obtain rfl:=zcY ry;obtain⟨v,e4,h4⟩:=(zik ks ds xs k hd).1 d' e3;exact⟨a,v,rfl,.inl ⟨_,k,r,rfl,e4.symm⟩,q v Fz H (.val al h4)⟩
noncomputable def rDI (neg:Bool):R2:=λy x H Q=>∃a o,x=.ref a/\DGet H a y o/\Q (.bl (if neg then !o.isSome else o.isSome)) H
noncomputable def pDI (neg:Bool):P2:=λe d Q=>∃ks ds k,d=.dK ks ds/\e=keyP k/\Q (.bl (if neg then !(dgP ks ds k).isSome else(dgP ks ds k).isSome)) .frz
theorem zow {neg:Bool}:POp K (rDI neg) (pDI neg) where
 mono d e Q Q' m h:=by obtain⟨ks,ds,k,e1,e2,q⟩:=h;exact⟨ks,ds,k,e1,e2,m _ _ q⟩
 run Fz H x y d e Q al rx ry h:=by
  obtain⟨ks,ds,k,rfl,rfl,q⟩:=h;obtain⟨a,xs,rfl,r,hl,hd⟩:=zet ry;obtain rfl:=zcY rx;have e4:(valV (ks.zip xs) k).isSome=(dgP ks ds k).isSome:=by
   cases e:dgP ks ds k with
   | none=>rw[(zik ks ds xs k hd).2 e];rfl
   | some d'=>obtain⟨v,e5,_⟩:=(zik ks ds xs k hd).1 d' e;rw[e5];rfl
  refine⟨a,valV (ks.zip xs) k,rfl,.inl ⟨_,k,r,rfl,rfl⟩,?_⟩;rw[e4];exact q _ Fz H (.val al (by simp only[Den]))
end
section
variable {X:Cx}{a b:Expr}{ta tb:TPE}{pos:Pos}
theorem zbR (hu:X.A.units+1<cLine)(ha:PuE X a ta)(hb:PuE X b tb)(hs:autoParam (NoSl b) aU6):PuE X (.Subscript a b pos) (t2 pDG ta tb):=
 ⟨zci zqp ha hb,PE.weak (zhe hu ha.run hb.run hs) λ_ _ _ h=>zfe zqp ha hb h⟩
end
theorem zfh {P:Nat->Value->Prop}{acc:Array Value}{xs:List V}(h:ItemsOf P acc xs.length)(f:∀(i:Nat)(v:Value)(x:V),xs[i]? = some x->P i v->RelV x v):Vals xs acc.toList:=by
 obtain⟨hs,hv⟩:=h;obtain⟨acc⟩:=acc;simp only[Xm]at hs;have:∀(xs:List V) (its:List Value) (n:Nat),its.length=xs.length->(∀(j:Nat) (v:Value) (x:V),its[j]? = some v->xs[j]? = some x->RelV x v)->Vals xs its:=by
  intro xs;induction xs with
  | nil=>intro its n hl _;cases its with
   | nil=>exact .nil
   | cons _ _=>simp at hl
  | cons x xs ih=>intro its n hl hr;cases its with
   | nil=>simp at hl
   | cons u us=>exact .cons (hr 0 u x rfl rfl) (ih us n (by simpa using hl) λj v y h1 h2=>hr (j+1) v y (by simpa using h1) (by simpa using h2))
 exact this xs acc 0 hs λj v x h1 h2=>f j v x h2 (hv j v (by simpa using h1))
section
variable {X:Cx}
theorem zgz {K:Xa}{Fz:FZ}{H:Hp}:∀(ks:List Key),DenL K Fz H (ks.map keyP) (ks.map kV)
 | []=>DenL.nil
 | k::ks=>DenL.cons (zov k) (zgz ks)
variable {e:Expr}{es:List Expr}{t:TPA}{p pos:Pos}
theorem zqq:SlR X (λx lo hi H Q=>∃z:Str,x=.str z/\z.length<=sizeLine/\Q (.str (Txt.slice z lo hi)) H):=by
 intro pins s σ H x v vl vu lo hi sl Q I rx hs pl pu h;obtain⟨z,rfl,hz,q⟩:=h;obtain⟨t,rfl⟩:=rx;refine⟨"str",_,PySem.F.slot_str_getitem.lookup,typeIs_str _ _ _,?_⟩;have fin:∀(l u:Option (Int×Tok)),s.heap.IsSlice sl l u none->l.map (·.1)=lo->u.map (·.1)=hi->wpAny (model X.prog X.w) X.A (getItem (.str z t) (.ref sl)) (EP X pins σ Q) X.xe s:=λl u h1 h2 h3=>by
  subst h2 h3;refine wpAny_getItem_str_slice (st:=none) h1 rfl (post_val_or_str ⟨YH (Txt.slice_le z _ _) hz,λt' k=>?_⟩);exact⟨.str (Txt.slice z (l.map (·.1)) (u.map (·.1))),H,I.tok _,⟨t',rfl⟩,q⟩
 cases pl with
 | none=>cases pu with
  | none=>exact fin none none hs rfl rfl
  | int j t2=>exact fin none (some (j,t2)) hs rfl rfl
 | int i t1=>cases pu with
  | none=>exact fin (some (i,t1)) none hs rfl rfl
  | int j t2=>exact fin (some (i,t1)) (some (j,t2)) hs rfl rfl
noncomputable def pSlS (te:TPE)(tl th:TPO):TPE:=λρ Q=>te ρ λd _=>tl ρ λl=>th ρ λu=>∃z:Str,d=.str z/\z.length<=sizeLine/\Q (.str (Txt.slice z l u)) .frz
variable {e:Expr}{te:TPE}{lo hi:Option Expr}{tl th:TPO}{p2 pos:Pos}
theorem zeu (he:PuE X e te)(hl:PuO X lo tl)(hu:PuO X hi th):PuE X (.Subscript e (.Slice lo hi none p2) pos) (pSlS te tl th) where
 mono ρ Q Q' m h:=he.mono ρ _ _ (λd k h=>hl.mono ρ _ _ (λl h=>hu.mono ρ _ _ (λu q90q=>by obtain⟨ds,e,e2,q⟩:=q90q;exact⟨ds,e,e2,m _ _ q⟩) h) h) h
 run:=PE.weak (zfs zqq he.run hl.run hu.run) λσ H Q h=>by
  obtain⟨ρ,Fz,R,h⟩:=h;refine⟨ρ,Fz,R,he.mono ρ _ _ (λd k q v F1 H1 p1=>?_) h⟩;refine⟨ρ,F1,R.ext p1.ext,hl.mono ρ _ _ (λl q F2 H2 x2=>?_) q⟩;refine⟨ρ,F2,(R.ext p1.ext).ext x2,hu.mono ρ _ _ (λu q3 F3 H3 x3=>?_) q⟩;obtain⟨z,e3,e4,q4⟩:=q3;subst e3;exact⟨z,zat (p1.root R),e4,q4 _ F3 _ ((Post.val x3.al (by simp only[Den])).behind (p1.ext.trans (x2.trans x3)))⟩
end
theorem hu1 {A:Around}(h:A.units+16<cLine):A.units+1<cLine:=by lia
noncomputable abbrev PFM:=PV->List PV->(PV->PV->Prop)->Prop
structure FOut where
 nx:PEnv->Prop
 rt:PEnv->Prop
structure FOut.le (O O':FOut):Prop where
 nx:∀ρ,O.nx ρ->O'.nx ρ
 rt:∀ρ,O.rt ρ->O'.rt ρ
noncomputable abbrev TPF:=PEnv->FOut->Prop
inductive BX where
 | L (ds:List PV)
 | K (ks:List Key) (ds:List PV)
 | T (ks:List (List Key)) (ds:List PV)
noncomputable def BX.cts:BX->List PV
 | .L ds=>ds
 | .K _ ds=>ds
 | .T _ ds=>ds
noncomputable def BX.pv:BX->PV
 | .L ds=>.lst ds
 | .K ks ds=>.dK ks ds
 | .T ks ds=>.dT ks ds
noncomputable def BX.ok:BX->Prop
 | .L _=>True
 | .K ks ds=>ks.length=ds.length
 | .T ks ds=>ks.length=ds.length
noncomputable def BX.obj:BX->List Addr->HO
 | .L _,bs=>.lst (bs.map V.ref)
 | .K ks _,bs=>.dK (ks.zip (bs.map V.ref))
 | .T ks _,bs=>.dT (ks.zip (bs.map V.ref))
noncomputable def OwnL (K:Xa)(Fz:FZ)(H:Hp):List PV->List Addr->Prop
 | [],bs=>bs=[]
 | d::ds,bs=>∃b r,bs=b::r/\Own K Fz H d b/\OwnL K Fz H ds r
theorem OwnL.length {K:Xa}{Fz:FZ}{H:Hp}:∀ {ds:List PV}{bs:List Addr},OwnL K Fz H ds bs->ds.length=bs.length
 | [],bs,h=>by unfold OwnL at h;subst h;rfl
 | d::ds,bs,h=>by
  unfold OwnL at h;obtain⟨b,r,rfl,_,h⟩:=h;simp[OwnL.length h]
theorem OwnL.mono {K:Xa}{Fz Fz':FZ}{H H':Hp}(k:Keep Fz H H')(s:∀b,Fz b->Fz' b):∀ {ds:List PV}{bs:List Addr},(∀b∈bs,∀o,H b=some o->H' b=some o)->OwnL K Fz H ds bs->OwnL K Fz' H' ds bs
 | [],bs,ha,h=>by unfold OwnL at h ⊢;exact h
 | d::ds,bs,ha,h=>by
  unfold OwnL at h ⊢;obtain⟨b,r,rfl,h1,h⟩:=h;exact⟨b,r,rfl,h1.mono k s (ha b (Xi ..)),OwnL.mono k s (λc hc=>ha c (Xe _ hc)) h⟩
theorem OwnL.get {K:Xa}{Fz:FZ}{H:Hp}:∀ {ds:List PV}{bs:List Addr}{j:Nat}{d:PV},OwnL K Fz H ds bs->ds[j]? = some d->∃b,bs[j]? = some b/\Own K Fz H d b
 | [],bs,j,d,h,e=>by simp at e
 | d0::ds,bs,j,d,h,e=>by
  unfold OwnL at h;obtain⟨b,r,rfl,h1,h⟩:=h;cases j with
  | zero=>rw[List.getElem?_cons_zero]at e;cases e;exact⟨b,rfl,h1⟩
  | succ j=>rw[Yx]at e ⊢;exact OwnL.get h e
theorem OwnL.has {K:Xa}{Fz:FZ}{H:Hp}:∀ {ds:List PV}{bs:List Addr}{b:Addr},OwnL K Fz H ds bs->b∈bs->∃o,H b=some o/\¬ Imm o
 | [],bs,b,h,e=>by unfold OwnL at h;subst h;cases e
 | d::ds,bs,b,h,e=>by
  unfold OwnL at h;obtain⟨b0,r,rfl,h1,h⟩:=h;rcases Xv.mp e with rfl | e
  ·exact h1.at
  ·exact OwnL.has h e
theorem OwnL.den {K:Xa}{Fz:FZ}{H:Hp}:∀ {ds:List PV}{bs:List Addr},OwnL K Fz H ds bs->(∀b∈bs,Fz b)->DenL K Fz H ds (bs.map V.ref)
 | [],bs,h,_=>by unfold OwnL at h;subst h;exact DenL.nil
 | d::ds,bs,h,f=>by
  unfold OwnL at h;obtain⟨b,r,rfl,h1,h⟩:=h;exact DenL.cons (h1.den (f b (Xi ..))) (OwnL.den h λc hc=>f c (Xe _ hc))
theorem OwnL.put {K:Xa}{Fz:FZ}{H:Hp}{o u:HO}{b:Addr}{d:PV}(hu:H b=some u)(im:¬ Imm u)(nf:¬ Fz b)(hb:Own K Fz (upd H b o) d b):∀ {ds:List PV}{bs:List Addr}{j:Nat},OwnL K Fz H ds bs->bs.Nodup->bs[j]? = some b->OwnL K Fz (upd H b o) (ds.set j d) bs
 | [],bs,j,h,_,e=>by unfold OwnL at h;subst h;simp at e
 | d0::ds,bs,j,h,nd,e=>by
  have kp:Keep Fz H (upd H b o):=.mk' λc w e9 hw=>by
   have ne:c≠b:=λz=>by
    subst z;rcases hw with hw | hw
    ·exact nf hw
    ·rw[hu]at e9;cases e9;exact im hw
   rw[zah ne];exact e9
  unfold OwnL at h;obtain⟨b0,r,rfl,h1,h⟩:=h;rw[Yl]at nd;cases j with
  | zero=>
   rw[List.getElem?_cons_zero]at e;cases e;rw[List.set_cons_zero];unfold OwnL;refine⟨b,r,rfl,hb,h.mono kp (λ_ h=>h) λc hc w hw=>?_⟩;have ne:c≠b:=λz=>nd.1 (by rw[<- z];exact hc);rw[zah ne];exact hw
  | succ j=>
   rw[Yx]at e;rw[List.set_cons_succ];have ne:b0≠b:=λz=>nd.1 (z▸Xl e);unfold OwnL;exact⟨b0,r,rfl,h1.mono kp (λ_ h=>h) λw hw=>(by rw[zah ne];exact hw),OwnL.put hu im nf hb h nd.2 e⟩
theorem OwnL.snoc {K:Xa}{Fz:FZ}{H:Hp}{d:PV}{b:Addr}(hb:Own K Fz H d b):∀ {ds:List PV}{bs:List Addr},OwnL K Fz H ds bs->OwnL K Fz H (ds++[d]) (bs++[b])
 | [],bs,h=>by
  unfold OwnL at h;subst h;show OwnL K Fz H [d] [b];unfold OwnL;exact⟨b,[],rfl,hb,by unfold OwnL;rfl⟩
 | d0::ds,bs,h=>by
  unfold OwnL at h;obtain⟨b0,r,rfl,h1,h⟩:=h;show OwnL K Fz H (d0::(ds++[d])) (b0::(r++[b]));unfold OwnL;exact⟨b0,_,rfl,h1,OwnL.snoc hb h⟩
structure Box (K:Xa)(Fz:FZ)(H:Hp)(β:BX)(a:Addr)(bs:List Addr):Prop where
 at_:H a=some (β.obj bs)
 ok:β.ok
 own:OwnL K Fz H β.cts bs
 nd:(a::bs).Nodup
 nf:∀b∈a::bs,¬ Fz b
theorem BX.nim (β:BX)(bs:List Addr):¬ Imm (β.obj bs):=by cases β<;>exact λz=>z
theorem Box.has {K:Xa}{Fz:FZ}{H:Hp}{β:BX}{a:Addr}{bs:List Addr}(B:Box K Fz H β a bs){b:Addr}(h:b∈a::bs):∃o,H b=some o/\¬ Imm o:=by
 rcases Xv.mp h with rfl | h
 ·exact⟨_,B.at_,β.nim bs⟩
 ·exact B.own.has h
theorem Box.keep {K:Xa}{Fz Fz':FZ}{H H':Hp}{β:BX}{a:Addr}{bs:List Addr}(B:Box K Fz H β a bs)(k:Keep Fz H H')(s:∀b,Fz b->Fz' b)(ha:∀b∈a::bs,∀o,H b=some o->H' b=some o)(nf:∀b∈a::bs,¬ Fz' b):Box K Fz' H' β a bs:=
 ⟨ha a (Xi ..) _ B.at_,B.ok,B.own.mono k s λb hb=>ha b (Xe _ hb),B.nd,nf⟩
theorem Box.ext {K:Xa}{Fz Fz':FZ}{H H':Hp}{β:BX}{a:Addr}{bs:List Addr}(B:Box K Fz H β a bs)(x:Ext Fz H Fz' H'):Box K Fz' H' β a bs:=
 B.keep (.of x.same) x.sub (λb _ o e=>x.same b o e) λb hb z=>by
  obtain⟨o,e,_⟩:=B.has hb;rcases x.new b z with z | z
  ·exact B.nf b hb z
  ·rw[e]at z;cases z
structure RelB (K:Xa)(Fz:FZ)(ρ:PEnv)(β:BX)(σ:St)(H:Hp)(z:Nat)(a:Addr)(bs:List Addr):Prop where
 rel:Rel K Fz ρ σ H
 hz:ρ[z]? = some none
 sz:σ[z]? = some (some (.ref a))
 box:Box K Fz H β a bs
 no:∀b∈a::bs,¬ zao ρ σ b
theorem RelB.ext {K:Xa}{Fz Fz':FZ}{ρ:PEnv}{β:BX}{σ:St}{H H':Hp}{z:Nat}{a:Addr}{bs:List Addr}(R:RelB K Fz ρ β σ H z a bs)(x:Ext Fz H Fz' H'):RelB K Fz' ρ β σ H' z a bs:=
 ⟨R.rel.ext x,R.hz,R.sz,R.box.ext x,R.no⟩
structure zbd (O:Addr->Prop)(Fz:FZ)(H:Hp)(Fz':FZ)(H':Hp):Prop where
 sub:∀b,Fz b->Fz' b
 new:∀b,Fz' b->Fz b\/H b=none\/O b
 keep:∀b o,H b=some o->¬ O b->H' b=some o
noncomputable def InO (O:Addr->Prop)(H:Hp)(O':Addr->Prop):Prop:=∀b,O' b->O b\/H b=none
theorem zbd.of {O:Addr->Prop}{Fz Fz':FZ}{H H':Hp}(x:Ext Fz H Fz' H'):zbd O Fz H Fz' H':=
 ⟨x.sub,λb h=>(x.new b h).elim .inl (λh=>.inr (.inl h)),λb o e _=>x.same b o e⟩
theorem zbd.none {O:Addr->Prop}{Fz Fz':FZ}{H H':Hp}(s:zbd O Fz H Fz' H'){b:Addr}(h:H' b=Option.none):H b=Option.none\/O b:=by
 by_cases o:O b
 ·exact .inr o
 ·cases e:H b with
  | none=>exact .inl rfl
  | some u=>rw[s.keep b u e o]at h;cases h
theorem zbd.trans {O O':Addr->Prop}{F1 F2 F3:FZ}{H1 H2 H3:Hp}(a:zbd O F1 H1 F2 H2)(oi:InO O H1 O')(b:zbd O' F2 H2 F3 H3):zbd O F1 H1 F3 H3:=
 ⟨λc h=>b.sub c (a.sub c h),λc h=>by
  rcases b.new c h with h | h | h
  ·exact a.new c h
  ·exact .inr (a.none h)
  ·exact .inr ((oi c h).symm),λc o e n=>by
  refine b.keep c o (a.keep c o e n) λz=>?_;rcases oi c z with z | z
  ·exact n z
  ·rw[e]at z;cases z⟩
theorem InO.trans {O O' O'':Addr->Prop}{F1 F2:FZ}{H1 H2:Hp}(a:zbd O F1 H1 F2 H2)(oi:InO O H1 O')(oj:InO O' H2 O''):InO O H1 O'':=λc h=>by
 rcases oj c h with h | h
 ·exact oi c h
 ·exact(a.none h).symm
theorem InO.refl {O:Addr->Prop}{H:Hp}:InO O H O:=λ_ h=>.inl h
noncomputable def OB (ρ:PEnv)(σ:St)(A:List Addr):Addr->Prop:=λb=>zao ρ σ b\/b∈A
structure BOut where
 nx:PEnv->BX->Prop
 rt:PV->Kd->Prop
 bk:PEnv->BX->Prop
 ct:PEnv->BX->Prop
structure BOut.le (O O':BOut):Prop where
 nx:∀ρ β,O.nx ρ β->O'.nx ρ β
 rt:∀d k,O.rt d k->O'.rt d k
 bk:∀ρ β,O.bk ρ β->O'.bk ρ β
 ct:∀ρ β,O.ct ρ β->O'.ct ρ β
noncomputable abbrev TPB:=PEnv->BX->BOut->Prop
noncomputable def zgA (t:TPB)(O:BOut)(ρ:PEnv)(β:BX):Prop:=t ρ β O
theorem zew {t:TPB}{O:BOut}{ρ:PEnv}{β:BX}(h:t ρ β O):zgA t O ρ β:=h
noncomputable def RetO (K:Xa)(O:Addr->Prop)(H:Hp)(Fz':FZ)(H':Hp)(d:PV):Kd->V->Prop
 | .frz,v=>Den K Fz' H' d v
 | .new,v=>∃a,v=.ref a/\¬ Fz' a/\Own K Fz' H' d a/\(O a\/H a=none)
 | .own _,_=>False
theorem RetO.back {K:Xa}{O O':Addr->Prop}{F1 F2 Fz':FZ}{H1 H2 H':Hp}{d:PV}{k:Kd}{v:V}(s:zbd O F1 H1 F2 H2)(oi:InO O H1 O')(r:RetO K O' H2 Fz' H' d k v):RetO K O H1 Fz' H' d k v:=by
 cases k with
 | frz=>exact r
 | own i=>exact r
 | new=>
  obtain⟨a,e,nf,o,w⟩:=r;refine⟨a,e,nf,o,?_⟩;rcases w with w | w
  ·exact oi a w
  ·exact(s.none w).symm
noncomputable def goB (K:Xa)(z:Nat)(E:St->Hp->Prop)(O:Addr->Prop)(Fz:FZ)(H:Hp)(ρ':PEnv)(β':BX):Prop:=
 ∀σ' Fz' H' a' bs',zbd O Fz H Fz' H'->InO O H (OB ρ' σ' (a'::bs'))->RelB K Fz' ρ' β' σ' H' z a' bs'->E σ' H'
noncomputable def outB (K:Xa)(z:Nat)(D:Ends)(O:Addr->Prop)(Fz:FZ)(H:Hp):BOut where
 nx:=goB K z D.nx O Fz H
 bk:=goB K z D.bk O Fz H
 ct:=goB K z D.ct O Fz H
 rt:=λd k=>∀v Fz' H',zbd O Fz H Fz' H'->(∀b,Fz' b->H' b≠none)->RetO K O H Fz' H' d k v->D.rt v H'
noncomputable def zqr (K:Xa)(z:Nat)(t:TPB):TS:=λD σ H=>∃ρ Fz β a bs,RelB K Fz ρ β σ H z a bs/\t ρ β (outB K z D (OB ρ σ (a::bs)) Fz H)
structure PuB1 (X:Cx)(z:Nat)(st:Stmt)(t:TPB):Prop where
 mono:∀ρ β O O',BOut.le O O'->t ρ β O->t ρ β O'
 run:PS X st (zqr X.K z t)
structure PuB (X:Cx)(z:Nat)(st:List Stmt)(t:TPB):Prop where
 mono:∀ρ β O O',BOut.le O O'->t ρ β O->t ρ β O'
 run:PSs X st (zqr X.K z t)
theorem zox {K:Xa}{z:Nat}{D D':Ends}{O O':Addr->Prop}{Fz Fz':FZ}{H H':Hp}(s:zbd O Fz H Fz' H')(oi:InO O H O')(h1:∀σ H,D.nx σ H->D'.nx σ H)(h2:∀v H,D.rt v H->D'.rt v H)(h3:∀σ H,D.bk σ H->D'.bk σ H)(h4:∀σ H,D.ct σ H->D'.ct σ H) :
  (outB K z D O Fz H).le (outB K z D' O' Fz' H') where
 nx ρ2 β2 q σ2 F2 H2 a2 bs2 s2 o2 R2:=h1 _ _ (q σ2 F2 H2 a2 bs2 (s.trans oi s2) (InO.trans s oi o2) R2)
 bk ρ2 β2 q σ2 F2 H2 a2 bs2 s2 o2 R2:=h3 _ _ (q σ2 F2 H2 a2 bs2 (s.trans oi s2) (InO.trans s oi o2) R2)
 ct ρ2 β2 q σ2 F2 H2 a2 bs2 s2 o2 R2:=h4 _ _ (q σ2 F2 H2 a2 bs2 (s.trans oi s2) (InO.trans s oi o2) R2)
 rt d k q v F2 H2 s2 al r:=h2 _ _ (q v F2 H2 (s.trans oi s2) al (r.back s oi))
theorem zfG {K:Xa}{z:Nat}{D:Ends}{O O':Addr->Prop}{Fz Fz':FZ}{H H':Hp}(s:zbd O Fz H Fz' H')(oi:InO O H O'):(outB K z D O Fz H).le (outB K z D O' Fz' H'):=
 zox s oi (λ_ _ h=>h) (λ_ _ h=>h) (λ_ _ h=>h) (λ_ _ h=>h)
theorem zbd.stay {K:Xa}{O:Addr->Prop}{Fz:FZ}{ρ:PEnv}{σ:St}{H:Hp}(R:Rel K Fz ρ σ H):zbd O Fz H Fz H:=.of ⟨Same.refl H,λ_ h=>h,λ_ h=>.inl h,R.al⟩
theorem RelB.frozen {K:Xa}{Fz:FZ}{ρ:PEnv}{β:BX}{σ:St}{H:Hp}{z:Nat}{a:Addr}{bs:List Addr}(R:RelB K Fz ρ β σ H z a bs):Rel K (λb=>Fz b\/b∈a::bs) (ρ.set z (some (β.pv,false))) σ H:=by
 have hz:z<ρ.length:=(Xj.mp R.hz).1;have hd:Den K (λb=>Fz b\/b∈a::bs) H β.pv (.ref a):=by
  have hl:=R.box.own.length;have hok:=R.box.ok;have ow:=(R.box.own.mono (Fz':=λb=>Fz b\/b∈a::bs) (Keep.of (Same.refl H)) (λ_ h=>.inl h) (λ_ _ _ h=>h)).den λb hb=>.inr (Xe _ hb);have hat:=R.box.at_;cases β with
  | L ds=>show Den _ _ _ (.lst ds) _;simp only[Den];exact⟨a,_,rfl,.inl ⟨.inr (Xi ..),.inl hat⟩,ow⟩
  | K ks ds=>show Den _ _ _ (.dK ks ds) _;simp only[Den];exact⟨a,_,rfl,.inr (Xi ..),.inl hat,by rw[Xc,<- hl];exact hok,ow⟩
  | T ks ds=>show Den _ _ _ (.dT ks ds) _;simp only[Den];exact⟨a,_,rfl,.inr (Xi ..),.inl hat,by rw[Xc,<- hl];exact hok,ow⟩
 refine⟨λb hb=>?_,by rw[XS];exact R.rel.len,λj e he=>?_,λj e he=>?_,λj k d' e' b h1 h2 h3 h4=>?_⟩
 ·rcases hb with hb | hb
  ·exact R.rel.al b hb
  ·obtain⟨o,e,_⟩:=R.box.has hb;rw[e];exact λz=>nomatch z
 ·by_cases hj:z=j
  ·subst hj;rw[Xd hz]at he;cases he;exact⟨_,R.sz,hd⟩
  ·rw[Xf hj]at he;obtain⟨v,q1,q2⟩:=R.rel.frz j e he;exact⟨v,q1,Den.mono (Keep.of (Same.refl _)) (λ_ h=>.inl h) _ _ q2⟩
 ·have hj:z≠j:=λy=>by
   subst y;rw[Xd hz]at he;cases he
  rw[Xf hj]at he;obtain⟨b,q1,q2,q3⟩:=R.rel.own j e he;refine⟨b,q1,λy=>?_,q3.mono (Keep.of (Same.refl _)) (λ_ h=>.inl h) (λ_ h=>h)⟩;rcases y with y | y
  ·exact q2 y
  ·exact R.no b y ⟨j,e,he,q1⟩
 ·have nj:z≠j:=λy=>by subst y;rw[Xd hz]at h1;cases h1
  have nk:z≠k:=λy=>by subst y;rw[Xd hz]at h2;cases h2
  rw[Xf nj]at h1;rw[Xf nk]at h2;exact R.rel.inj j k d' e' b h1 h2 h3 h4
theorem zfH {ρ:PEnv}{σ:St}{z:Nat}{d:PV}:∀b,zao (ρ.set z (some (d,false))) σ b->zao ρ σ b:=λb ⟨j,e,h1,h2⟩=>by
 have nj:z≠j:=λy=>by
  subst y;by_cases hi:z<ρ.length
  ·rw[Xd hi]at h1;cases h1
  ·rw[XD (by lia),Xz (by lia)]at h1;cases h1
 rw[Xf nj]at h1;exact⟨j,e,h1,h2⟩
noncomputable def rdE (z:Nat)(te:TPE)(ρ:PEnv)(β:BX)(Q:PV->Prop):Prop:=te (ρ.set z (some (β.pv,false))) λd k=>k=.frz/\zbl d=true/\Q d
noncomputable def rdT (z:Nat)(tc:TPT)(ρ:PEnv)(β:BX)(Q:Bool->Prop):Prop:=tc (ρ.set z (some (β.pv,false))) Q
theorem zex {X:Cx}{e:Expr}{te:TPE}(he:PuE X e te){Fz:FZ}{ρ:PEnv}{β:BX}{σ:St}{H:Hp}{z:Nat}{a:Addr}{bs:List Addr}(R:RelB X.K Fz ρ β σ H z a bs){Q:PV->Prop}{W:V->Hp->Prop}
  (h:rdE z te ρ β Q) (hw:∀d v H',Q d->zbl d=true->Ext Fz H Fz H'->Den X.K Fz H' d v->W v H'):lift X.K te σ H W:=by
 refine⟨_,_,R.frozen,he.mono _ _ _ (λd k q v Fz' H' p=>?_) h⟩;obtain⟨rfl,nm,q⟩:=q;refine hw d v H' q nm ⟨p.ext.same,λ_ h=>h,λ_ h=>.inl h,λb hb y=>R.rel.al b hb (p.ext.same.free y)⟩ (zeo d v nm p.opd)
theorem zkE {X:Cx}{c:Expr}{tc:TPT}(hc:PuT X c tc){Fz:FZ}{ρ:PEnv}{β:BX}{σ:St}{H:Hp}{z:Nat}{a:Addr}{bs:List Addr}(R:RelB X.K Fz ρ β σ H z a bs){Q:Bool->Prop}{W:Bool->Hp->Prop}
  (h:rdT z tc ρ β Q) (hw:∀b H',Q b->Ext Fz H Fz H'->W b H'):liftT X.K tc σ H W:=by
 refine⟨_,_,R.frozen,hc.mono _ _ _ (λb q Fz' H' x=>?_) h⟩;exact hw b H' q ⟨x.same,λ_ h=>h,λ_ h=>.inl h,λb hb y=>R.rel.al b hb (x.same.free y)⟩
section
variable {X:Cx}{z:Nat}{st:Stmt}{rest a b body:List Stmt}{t u:TPB}{e c:Expr}{te:TPE}{tc:TPT}{pos pos' p:Pos}{x:Str}
noncomputable def zbW:TPB:=λρ β O=>O.nx ρ β
noncomputable def zdI (t u:TPB):TPB:=λρ β O=>t ρ β { O with nx:=zgA u O }
theorem zkF:PuB X z [] zbW where
 mono ρ β O O' m h:=m.nx _ _ h
 run:=PSs.weak zgZ λD σ H h=>by
  obtain⟨ρ,Fz,β,a,bs,R,h⟩:=h;exact h σ Fz H a bs (zbd.stay R.rel) InO.refl R
theorem zfI (h1:PuB1 X z st t):PuB X z [st] t:=⟨h1.mono,zch h1.run⟩
theorem zbf (h1:PuB1 X z st t)(h2:PuB X z rest u):PuB X z (st::rest) (zdI t u) where
 mono ρ β O O' m h:=h1.mono ρ β { O with nx:=λρ' β'=>u ρ' β' O } _ ⟨λρ' β' q=>h2.mono ρ' β' O O' m q,m.rt,m.bk,m.ct⟩ h
 run:=PSs.weak (zaS h1.run h2.run) λD σ H h=>by
  obtain⟨ρ,Fz,β,a,bs,R,h⟩:=h;refine⟨ρ,Fz,β,a,bs,R,h1.mono ρ β { outB X.K z D (OB ρ σ (a::bs)) Fz H with nx:=λρ' β'=>u ρ' β' (outB X.K z D (OB ρ σ (a::bs)) Fz H) } _ ⟨λρ' β' q=>?_,λ_ _ q=>q,λ_ _ q=>q,λ_ _ q=>q⟩ h⟩;intro σ' Fz' H' a' bs' s oi R';exact⟨ρ',Fz',β',a',bs',R',h2.mono ρ' β' _ _ (zfG s oi) q⟩
noncomputable def bxIf (tc:TPT)(t u:TPB)(z:Nat):TPB:=λρ β O=>rdT z tc ρ β λb=>if b=true then zgA t O ρ β else zgA u O ρ β
theorem znq (hc:PuT X c tc)(ha:PuB X z a t)(hb:PuB X z b u):PuB1 X z (.If c a b pos) (bxIf tc t u z) where
 mono ρ β O O' m h:=hc.mono _ _ _ (λb q=>by
  cases b with
  | true=>rw[if_pos rfl]at q ⊢;exact ha.mono ρ β _ _ m q
  | false=>rw[if_neg Xr]at q ⊢;exact hb.mono ρ β _ _ m q) h
 run:=PS.weak (zlT hc.run ha.run hb.run) λD σ H h=>by
  obtain⟨ρ,Fz,β,a,bs,R,h⟩:=h;refine zkE hc R h λb H' q x=>?_;have le:=zfG (K:=X.K) (z:=z) (D:=D) (O:=OB ρ σ (a::bs)) (.of x) InO.refl;cases b with
  | true=>rw[if_pos rfl]at q;exact iteT ⟨ρ,Fz,β,a,bs,R.ext x,ha.mono ρ β _ _ le q⟩
  | false=>rw[if_neg Xr]at q;exact iteF ⟨ρ,Fz,β,a,bs,R.ext x,hb.mono ρ β _ _ le q⟩
noncomputable def zdJ (i z:Nat)(te:TPE):TPB:=λρ β O=>rdE z te ρ β λd=>O.nx (ρ.set i (some (d,false))) β
theorem RelB.set {K:Xa}{Fz:FZ}{ρ:PEnv}{β:BX}{σ:St}{H:Hp}{z i:Nat}{a:Addr}{bs:List Addr}{d:PV}{v:V}(R:RelB K Fz ρ β σ H z a bs)(h:Den K Fz H d v)(hi:i≠z):RelB K Fz (ρ.set i (some (d,false))) β (σ.set i (some v)) H z a bs:=
 ⟨R.rel.set h,by rw[Xf hi];exact R.hz,by rw[Xf hi];exact R.sz,R.box,λb hb y=>R.no b hb (zdn b y)⟩
theorem OB.set {ρ:PEnv}{σ:St}{i:Nat}{d:PV}{v:V}{A:List Addr}{H:Hp}:InO (OB ρ σ A) H (OB (ρ.set i (some (d,false))) (σ.set i (some v)) A):=λb hb=>by
 rcases hb with hb | hb
 ·exact .inl (.inl (zdn b hb))
 ·exact .inl (.inr hb)
theorem zdo {i:Nat}(hN:X.N.Nodup)(hi:X.N[i]? = some x)(hx:Loc X.env.scope x)(he:PuE X e te)(hiz:autoParam (i≠z) aU1)(hs:autoParam (swapsWith e (some (.Name x pos')) pos.line X.env=pure false) aU0)(hf:autoParam (X.fn x=true\/X.env.scope.names.lookup x=some .local) aU3) :
  PuB1 X z (.Assign [.Name x pos'] e pos) (zdJ i z te) where
 mono ρ β O O' m h:=he.mono _ _ _ (λd k q92q=>by obtain⟨e1,e2,q⟩:=q92q;exact⟨e1,e2,m.nx _ _ q⟩) h
 run:=PS.weak (zcH hN hi hx he.run hs hf) λD σ H h=>by
  obtain⟨ρ,Fz,β,a,bs,R,h⟩:=h;refine zex he R h λd v H' q nm x dv=>?_;exact q (σ.set i (some v)) Fz H' a bs (.of x) OB.set ((R.ext x).set dv hiz)
noncomputable def zdK (ti:TPI)(i:Nat)(tb:TPB):TPB:=λρ β O=>ti ρ λits o=>o=false/\∃Iv:Nat->PEnv->BX->Prop,Iv 0 ρ β/\(∀k d ρ' β',its[k]? = some d->Iv k ρ' β'->zgA tb { O with nx:=Iv (k+1),ct:=Iv (k+1),bk:=O.nx } (ρ'.set i (some (d,false))) β')/\∀ρ' β',Iv its.length ρ' β'->O.nx ρ' β'
theorem zkG {i:Nat}{iter:Expr}{ti:TPI}(hN:X.N.Nodup)(hi:X.N[i]? = some x)(hx:Loc X.env.scope x)(hc:X.calm=true)(hp:PassesOwn (model X.prog X.w) X.A X.env X.xe)(hit:PuI X (.Name x p) iter ti)(hb:PuB X z body t)(hiz:autoParam (i≠z) aU1)
  (hf:autoParam (X.fn x=true\/X.env.scope.names.lookup x=some .local) aU3) (hs:autoParam (∀x,foldedSetIterable iter X.env x=pure x) aU2):PuB1 X z (.For (.Name x p) iter body [] pos) (zdK ti i t) where
 mono ρ β O O' m h:=hit.mono ρ _ _ (λits o q93q=>by obtain⟨e,I,h0,hs,hd⟩:=q93q;exact⟨e,I,h0,λk d ρ' β' hk hI=>hb.mono _ _ { O with nx:=I (k+1),ct:=I (k+1),bk:=O.nx } _ ⟨λ_ _ q=>q,m.rt,m.nx,λ_ _ q=>q⟩ (hs k d ρ' β' hk hI),λρ' β' hI=>m.nx _ _ (hd ρ' β' hI)⟩) h
 run:=PS.weak (zhS hp hc hit.run (zha hN hi hx hf) hb.run hs) λD σ H h=>by
  obtain⟨ρ,Fz,β,a,bs,R,h⟩:=h;refine⟨ρ,Fz,R.rel,hit.mono ρ _ _ (λits o q J Fz1 H1 x wk=>?_) h⟩;obtain⟨rfl,Iv,h0,hstep,hdone⟩:=q;have R1:=R.ext x;have le:=zfG (K:=X.K) (z:=z) (D:=D) (O:=OB ρ σ (a::bs)) (.of x) InO.refl;refine⟨λi m σ' H'=>m=its.length-i/\i<=its.length/\∃ρ' F' β' a' bs',RelB X.K F' ρ' β' σ' H' z a' bs'/\Iv i ρ' β'/\zbd (OB ρ σ (a::bs)) Fz1 H1 F' H'/\InO (OB ρ σ (a::bs)) H1 (OB ρ' σ' (a'::bs')),
   ⟨its.length,by lia,XX _,ρ,Fz1,β,a,bs,R1,h0,zbd.stay R1.rel,InO.refl⟩,?_⟩
  rintro k m σ' H' ⟨rfl,hle,ρ',F',β',a',bs',R',hI,s',o'⟩;have kp:zhi Fz1 H1 H':=λb o e w=>by
   refine s'.keep b o e λy=>?_;rcases y with ⟨i,d,h1,h2⟩ | y
   ·obtain⟨a0,q1,q2,q3⟩:=R1.rel.own i d h1;rw[h2]at q1;cases q1;rcases w with w | w
    ·exact q2 w
    ·obtain⟨o',q4,q5⟩:=q3.at;rw[e]at q4;cases q4;exact q5 w
   ·rcases w with w | w
    ·exact R1.box.nf b y w
    ·obtain⟨o',q4,q5⟩:=R1.box.has y;rw[e]at q4;cases q4;exact q5 w
  obtain⟨wgo,wstop⟩:=wk H' (.inr ⟨rfl,kp⟩) k;by_cases hlt:k<its.length
  ·obtain⟨go,yl⟩:=wgo its[k] (Xb hlt);refine .inr ⟨go,λσ2 H2=>∃ρ2 F2 β2 a2 bs2,RelB X.K F2 ρ2 β2 σ2 H2 z a2 bs2/\Iv (k+1) ρ2 β2/\zbd (OB ρ σ (a::bs)) Fz1 H1 F2 H2/\InO (OB ρ σ (a::bs)) H1 (OB ρ2 σ2 (a2::bs2)),λσ2 H2 hN=>⟨its.length-(k+1),by lia,rfl,hlt,hN⟩,λxv H2 y=>?_⟩;obtain⟨sm,dn⟩:=yl xv H2 y;have x2:Ext F' H' F' H2:=⟨sm,λ_ h=>h,λ_ h=>.inl h,λb hb z=>R'.rel.al b hb (sm.free z)⟩;have R2:=(R'.ext x2).set (i:=i) (Den.mono (Keep.of (Same.refl _)) s'.sub _ _ dn) hiz;have so:InO (OB ρ σ (a::bs)) H1 (OB (ρ'.set i (some (its[k],false))) (σ'.set i (some xv)) (a'::bs')):=λb hb=>by
    rcases hb with hb | hb
    ·exact o' b (.inl (zdn b hb))
    ·exact o' b (.inr hb)
   have st:zbd (OB ρ σ (a::bs)) Fz1 H1 F' H2:=s'.trans o' (.of x2);refine⟨_,F',β',a',bs',R2,hb.mono _ _ { outB X.K z D (OB ρ σ (a::bs)) Fz H with nx:=Iv (k+1),ct:=Iv (k+1),bk:=(outB X.K z D (OB ρ σ (a::bs)) Fz H).nx } _ ⟨λρ3 β3 q σ3 F3 H3 a3 bs3 s3 o3 R3=>?_,λd k q v F3 H3 s3 al r=>?_,λρ3 β3 q σ3 F3 H3 a3 bs3 s3 o3 R3=>?_,λρ3 β3 q σ3 F3 H3 a3 bs3 s3 o3 R3=>?_⟩ (hstep k its[k] ρ' β' (Xb hlt) hI)⟩
   ·exact⟨ρ3,F3,β3,a3,bs3,R3,q,st.trans so s3,InO.trans st so o3⟩
   ·exact le.rt d k q v F3 H3 (st.trans so s3) al (r.back st so)
   ·exact le.nx ρ3 β3 q σ3 F3 H3 a3 bs3 (st.trans so s3) (InO.trans st so o3) R3
   ·exact⟨ρ3,F3,β3,a3,bs3,R3,q,st.trans so s3,InO.trans st so o3⟩
  ·have e:k=its.length:=by lia
   subst e;exact .inl ⟨wstop (Xo _),le.nx ρ' β' (hdone ρ' β' hI) σ' F' H' a' bs' s' o' R'⟩
noncomputable def zbK (z:Nat)(t:TPS):TPB:=λρ β O=>Hold t { nx:=λ_=>False,rt:=O.rt,bk:=λ_=>False,ct:=λ_=>False } (ρ.set z (some (β.pv,false)))
theorem zmv {t:TPS}(h:PuSs X rest t):PuB X z rest (zbK z t) where
 mono ρ β O O' m q:=h.mono _ { nx:=λ_=>False,rt:=O.rt,bk:=λ_=>False,ct:=λ_=>False } _ ⟨λ_ q=>q.elim,m.rt,λ_ q=>q.elim,λ_ q=>q.elim⟩ q
 run:=PSs.weak h.run λD σ H q=>by
  obtain⟨ρ,Fz,β,a,bs,R,q⟩:=q;have RF:=R.frozen;refine⟨_,_,RF,h.mono _ { nx:=λ_=>False,rt:=(outB X.K z D (OB ρ σ (a::bs)) Fz H).rt,bk:=λ_=>False,ct:=λ_=>False } _ ⟨λ_ q=>q.elim,λd k q v Fz' H' s al r=>?_,λ_ q=>q.elim,λ_ q=>q.elim⟩ q⟩;refine q v Fz' H' ⟨λb hb=>s.sub b (.inl hb),λb hb=>?_,λb o e n=>s.keep b o e λy=>n (.inl (zfH b y))⟩ al ?_
  ·rcases s.new b hb with (y | y) | y | y
   ·exact .inl y
   ·exact .inr (.inr (.inr y))
   ·exact .inr (.inl y)
   ·exact .inr (.inr (.inl (zfH b y)))
  ·cases k with
   | frz=>exact r
   | own i=>exact r
   | new=>
    obtain⟨a0,e,nf,o,w⟩:=r;refine⟨a0,e,nf,o,?_⟩;rcases w with w | w
    ·exact .inl (.inl (zfH a0 w))
    ·exact .inr w
end
theorem Rel.unset {K:Xa}{Fz:FZ}{ρ:PEnv}{σ:St}{H:Hp}{i:Nat}{v:V}(R:Rel K Fz ρ σ H):Rel K Fz (ρ.set i none) (σ.set i (some v)) H:=by
 have ne:∀(j:Nat) (p:PV×Bool),(ρ.set i none)[j]? = some (some p)->i≠j/\ρ[j]? = some (some p):=λj p h=>by
  have nj:i≠j:=λz=>by
   subst z;by_cases hi:i<ρ.length
   ·rw[Xd hi]at h;cases h
   ·rw[XD (by lia),Xz (by lia)]at h;cases h
  rw[Xf nj]at h;exact⟨nj,h⟩
 refine⟨R.al,by rw[XS,XS];exact R.len,λj d h=>?_,λj d h=>?_,λj k d e a h1 h2 h3 h4=>?_⟩
 ·obtain⟨nj,h⟩:=ne j _ h;rw[Xf nj];exact R.frz j d h
 ·obtain⟨nj,h⟩:=ne j _ h;rw[Xf nj];exact R.own j d h
 ·obtain⟨nj,h1⟩:=ne j _ h1;obtain⟨nk,h2⟩:=ne k _ h2;rw[Xf nj]at h3;rw[Xf nk]at h4;exact R.inj j k d e a h1 h2 h3 h4
theorem zey {ρ:PEnv}{σ:St}{i:Nat}{v:V}:∀b,zao (ρ.set i none) (σ.set i (some v)) b->zao ρ σ b:=λb ⟨j,e,h1,h2⟩=>by
 have nj:i≠j:=λz=>by
  subst z;by_cases hi:i<ρ.length
  ·rw[Xd hi]at h1;cases h1
  ·rw[XD (by lia),Xz (by lia)]at h1;cases h1
 rw[Xf nj]at h1 h2;exact⟨j,e,h1,h2⟩
theorem RelB.put {K:Xa}{Fz:FZ}{ρ:PEnv}{β:BX}{σ:St}{H:Hp}{z:Nat}{a:Addr}{bs:List Addr}{j:Nat}{b:Addr}{d:PV}{o u:HO}(R:RelB K Fz ρ β σ H z a bs)(hb:bs[j]? = some b)(hu:H b=some u)(im:¬ Imm u)(ow:Own K Fz (upd H b o) d b)
  (β':BX) (hc:β'.cts=β.cts.set j d) (ho:β'.obj bs=β.obj bs) (hk:β'.ok):RelB K Fz ρ β' σ (upd H b o) z a bs/\zbd (OB ρ σ (a::bs)) Fz H Fz (upd H b o):=by
 have hm:b∈a::bs:=Xe _ (Xl hb);have nf:=R.box.nf b hm;have no:=R.no b hm;have nd:=R.box.nd;rw[Yl]at nd;have nea:a≠b:=λy=>nd.1 (by rw[y];exact Xl hb);refine⟨⟨R.rel.other hu im nf no,R.hz,R.sz,⟨by rw[zah nea,ho];exact R.box.at_,hk,by rw[hc];exact OwnL.put hu im nf ow R.box.own nd.2 hb,R.box.nd,R.box.nf⟩,R.no⟩,⟨λ_ h=>h,λ_ h=>.inl h,λc w e n=>?_⟩⟩;have ne:c≠b:=λy=>n (.inr (by rw[y];exact hm));rw[zah ne];exact e
end PL
namespace PySem.SeqAt
open MeetsSeq
theorem zgB {M:Model}{A:Around}{E:Value->Shared->Prop}{s:Shared}{β:Type}{a b:Nat}{f:Nat->β->Sem (ForInStep β)}(I:Nat->β->Shared->Prop)(Q:β->Shared->Prop)
  (turn:∀i c s,a<=i->i<b->I i c s->wpAny M A (f i c) (λr s'=>match r with | .yield c'=>I (i+1) c' s' | .done c'=>Q c' s') E s)
  (fin:∀c s,I (max a b) c s->Q c s) (c:β) (h:I a c s):wpAny M A (forIn ([a:b]:Std.Legacy.Range) c f) Q E s:=by
 rw[Std.Legacy.Range.forIn_eq_forIn_range'];have hz:([a:b]:Std.Legacy.Range).size=b-a:=by simp[Std.Legacy.Range.size]
 show wpAny M A (forIn (List.range' a ([a:b]:Std.Legacy.Range).size 1) c f) Q E s;rw[hz];refine wpAny_forIn_list f (λl c s=>∃i,a<=i/\i<=max a b/\l=List.range' i (max a b-i) 1/\I i c s) Q ?_ ?_ _ c ⟨a,Xo _,by lia,by congr 1;lia,h⟩
 ·rintro x rest c s ⟨i,h1,h2,hl,hI⟩;have lt:i<max a b:=by
   rcases YI i (max a b)with h' | h'
   ·exact h'
   ·rw[show max a b-i=0 by lia]at hl;simp at hl
  obtain⟨n,hn⟩:∃n,max a b-i=n+1:=⟨max a b-i-1,by lia⟩;rw[hn,List.range'_succ]at hl;obtain⟨rfl,rfl⟩:=List.cons.inj hl;refine wpAny_mono (turn x c s h1 (by lia) hI) (λr s' h'=>?_) λ_ _ h'=>h';cases r with
  | done c'=>exact h'
  | yield c'=>exact⟨x+1,by lia,by lia,by congr 1;lia,h'⟩
 ·rintro c s ⟨i,h1,h2,hl,hI⟩;have e:i=max a b:=by
   rcases YI i (max a b)with h' | h'
   ·obtain⟨n,hn⟩:∃n,max a b-i=n+1:=⟨max a b-i-1,by lia⟩;rw[hn,List.range'_succ]at hl;simp at hl
   ·lia
  subst e;exact fin _ _ hI
theorem zfJ (l:Addr)(items:Array Value)(n:Nat)(dd:Option Addr)(sl:Array (Option Value))(x:Value)(e:Value->Bool)(j:Nat)(hj:j<items.size)
  (hit:e items[j]=true) (hno:∀m (hm:m<items.size),m<j->e items[m]=false) :
  Meets (Builtin.«tuple.index» ⟨[.ref l,x],[]⟩)
   (λA R s=>s.heap.get? l=some { cls:=.type "tuple",dict:=dd,data:=.seq items n,slots:=sl }/\(∀y,y∈items->EqAt A.in1 s y x (e y))/\R (.ok (.ret (.int j s.toks))) { s with toks:=s.toks+1 }):=
 .of_wp λprog w A R s h=>by
  obtain⟨hp,g,d,tk,os⟩:=s;obtain⟨hl,he,h⟩:=h
  wp_walk using wpAny_loadPart' hl,zgB (λi (b:Option _×Unit) s'=>b.1=none/\s'=⟨hp,g,d,tk,os⟩/\i<=j) _
  case turn=>
   rintro i b s' h0 hi ⟨hb,rfl,hij⟩;have hi':i<items.size:=by lia
   rw[show items[i]? = some items[i] from Yu hi'];refine wpAny_bind (he _ (Array.getElem_mem hi') prog w _ _ ?_);by_cases ej:i=j
   ·subst ej;rw[hit]
    wp_walk
    exact⟨_,rfl,h⟩
   ·rw[hno i hi' (by lia)]
    wp_walk
    exact⟨rfl,rfl,by lia⟩
  case fin=>
   rintro b s' ⟨hb,rfl,hij⟩;exact absurd hij (by lia)
  case h=>exact⟨rfl,rfl,XX _⟩
end PySem.SeqAt
namespace L2
open PySem PySem.Spec PyProof.Rows
section
variable {X:Cx}
noncomputable def rIdx (sq:Hp->Addr->List V->Prop):V->List V->Hp->VK->Prop:=λx vs H Q=>∃(p:Addr)(xs:List V)(y:V)(j:Nat),x=.ref p/\vs=[y]/\sq H p xs/\zcI y=true/\xs.all zcI=true/\(∃w,xs[j]? = some w/\eqV w y=true)/\(∀m w,m<j->xs[m]? = some w->eqV w y=false)/\Q (.int (j:Int)) H
theorem zkH:∀ {xs:List V}{us:List Value}{m:Nat}{u:Value},Vals xs us->us[m]? = some u->∃w,xs[m]? = some w/\RelV w u
 | _,_,m,u,.nil,h=>by simp at h
 | x::xs,v::us,0,u,.cons r t,h=>by simp at h;subst h;exact⟨x,rfl,r⟩
 | x::xs,v::us,m+1,u,.cons r t,h=>by simpa using zkH t (by simpa using h)
theorem zoy {xs:List V}{m:Nat}{w:V}(f:xs.all zcI=true)(h:xs[m]? = some w):zcI w=true:=XM.mp f w (Xl h)
theorem zgC {xs:List V}{its:List Value}{y:V}{j:Nat}(r:Vals xs its)(fs:xs.all zcI=true)(h1:∃w,xs[j]? = some w/\eqV w y=true)(h2:∀m w,m<j->xs[m]? = some w->eqV w y=false) :
  ∃hj:j<its.toArray.size,eqU y its.toArray[j]=true/\∀m (hm:m<its.toArray.size),m<j->eqU y its.toArray[m]=false:=by
 have hl:=r.length;obtain⟨w,hw,ew⟩:=h1;have hj:j<xs.length:=(Xj.mp hw).1;have hj':j<its.length:=by lia
 have at_:∀m (hm:m<its.length),∀w,xs[m]? = some w->eqU y its[m]=eqV w y:=λm hm w hx=>by
  obtain⟨w',q1,q2⟩:=zkH r (Xb hm);rw[hx]at q1;cases q1;exact znh q2 (zoy fs hx)
 refine⟨by simpa using hj',?_,λm hm hlt=>?_⟩
 ·have:=at_ j hj' w hw;simpa[ew]using this
 ·have hm':m<its.length:=by simpa using hm
  have hx:xs[m]? = some xs[m]:=Xb (by lia);have:=at_ m hm' _ hx;rw[h2 m _ hlt hx]at this;simpa using this
theorem zkI:MtR X "list.index" (rIdx λH p xs=>SqL X.K H p xs):=by
 intro pins s σ H x vs v us Q I rx rv h;obtain⟨p,xs,y,j,rfl,rfl,hq,fy,fs,h1,h2,q⟩:=h;cases rx;obtain⟨u,rfl,ru⟩:=rv.one;obtain⟨its,r,pl,hz⟩:=I.list hq;obtain⟨hj,e1,e2⟩:=zgC r fs h1 h2;obtain⟨⟨cls,dd,data,sl⟩,n,ho,hc,hd,hs⟩:=id pl;simp only at hc hd hs;subst hc hd hs;have hl:=r.length;have hz':=hz;rw[sizeLine_eq]at hz';have hj2:j<its.length:=by simpa using hj
 exact call_meets PySem.F.slot_list_index ⟨_,ho,rfl⟩ PySem.F.entry_list_index (PySem.F.args_list_index_2 _ _) (SeqAt.list_indexAt p its.toArray n _ sl u (eqU y) j hj (by lia) e1 e2) ⟨ho,λz hz=>zfv ru fy r fs z (by simpa using hz),⟨.int (j:Int),H,I.tok _,⟨_,rfl⟩,q⟩⟩
theorem zkJ:MtR X "tuple.index" (rIdx λH p xs=>SqT X.K H p xs):=by
 intro pins s σ H x vs v us Q I rx rv h;obtain⟨p,xs,y,j,rfl,rfl,hq,fy,fs,h1,h2,q⟩:=h;cases rx;obtain⟨u,rfl,ru⟩:=rv.one;obtain⟨its,r,pl,hz⟩:=I.tuple hq;obtain⟨hj,e1,e2⟩:=zgC r fs h1 h2;obtain⟨⟨cls,dd,data,sl⟩,ho,hc,n,hd⟩:=id pl;simp only at hc hd;subst hc hd;exact call_meets PySem.F.slot_tuple_index ⟨_,ho,rfl⟩ PySem.F.entry_tuple_index (PySem.F.args_tuple_index_2 _ _) (SeqAt.zfJ p its.toArray n dd sl u (eqU y) j hj e1 e2) ⟨ho,λz hz=>zfv ru fy r fs z (by simpa using hz),⟨.int (j:Int),H,I.tok _,⟨_,rfl⟩,q⟩⟩
theorem Inv.zqs {pins:List (Addr×Obj)}{σ:St}{H:Hp}{s:Shared}{a:Addr}{xs:List V}(I:Inv X pins σ H s)(h:SqT X.K H a xs):∃ob,s.heap.get? a=some ob/\ob.cls=.type "tuple"/\ob.dict=none:=by
 rcases h with h | ⟨o,its,n,hk,hc,hs,hz,r,hd⟩
 ·obtain⟨z,its,r,o,h1,h2,h3,h4⟩:=h.ok I.hok;exact⟨o,h1,h2,h4⟩
 ·exact⟨o,I.kIn a o hk,hc,hd⟩
variable {o e:Expr}{to te:TE}{name:Str}{apos cpos:Pos}{id:String}{r:V->List V->Hp->VK->Prop}
end
end L2
namespace PL
open PySem PySem.Spec L2
open PyProof.Rows hiding St
noncomputable def zez:PV->Bool
 | .non=>true
 | .int _=>true
 | .str _=>true
 | _=>false
noncomputable def idxP (ds:List PV)(e:PV):Nat:=ds.findIdx λx=>decide (x=e)
section
variable {K:Xa}{Fz:FZ}{H:Hp}
theorem zil {d:PV}{v:V}(f:zez d=true)(h:Den K Fz H d v):zcI v=true:=by
 cases d with
 | non=>simp only[Den]at h;subst h;rfl
 | int i=>simp only[Den]at h;subst h;rfl
 | str x=>simp only[Den]at h;subst h;rfl
 | _=>exact absurd (show false=true from f) Xr
theorem zkK {d e:PV}{v w:V}(fd:zez d=true)(fe:zez e=true)(hd:Den K Fz H d v)(he:Den K Fz H e w):eqV v w=decide (d=e):=by
 cases d with
 | non=>
  simp only[Den]at hd;subst hd;cases e with
  | non=>simp only[Den]at he;subst he;simp[eqV]
  | int i=>simp only[Den]at he;subst he;simp[eqV]
  | str x=>simp only[Den]at he;subst he;simp[eqV]
  | _=>exact absurd (show false=true from fe) Xr
 | int i=>
  simp only[Den]at hd;subst hd;cases e with
  | non=>simp only[Den]at he;subst he;simp[eqV]
  | int i=>simp only[Den]at he;subst he;rw[zic];rfl
  | str x=>simp only[Den]at he;subst he;simp[eqV]
  | _=>exact absurd (show false=true from fe) Xr
 | str x=>
  simp only[Den]at hd;subst hd;cases e with
  | non=>simp only[Den]at he;subst he;simp[eqV]
  | int i=>simp only[Den]at he;subst he;simp[eqV]
  | str x=>simp only[Den]at he;subst he;rw[zid];rfl
  | _=>exact absurd (show false=true from fe) Xr
 | _=>exact absurd (show false=true from fd) Xr
theorem zgD:∀ {ds:List PV}{xs:List V},ds.all zez=true->DenL K Fz H ds xs->xs.all zcI=true
 | [],xs,_,h=>by simp only[DenL]at h;subst h;rfl
 | d::ds,xs,f,h=>by
  simp only[DenL]at h;obtain⟨v,r,rfl,h1,h2⟩:=h;rw[List.all_cons,Yr]at f ⊢;exact⟨zil f.1 h1,zgD f.2 h2⟩
theorem zoz {ds:List PV}{xs:List V}{e:PV}{y:V}(f:ds.all zez=true)(fe:zez e=true)(h:DenL K Fz H ds xs)(hy:Den K Fz H e y)(hm:e∈ds) :
  (∃w,xs[idxP ds e]? = some w/\eqV w y=true)/\∀m w,m<idxP ds e->xs[m]? = some w->eqV w y=false:=by
 have hi:idxP ds e<ds.length:=List.findIdx_lt_length_of_exists ⟨e,hm,by simp⟩;have hl:=h.length;refine⟨?_,λm w hlt hw=>?_⟩
 ·obtain⟨w,q1,q2⟩:=h.get (Xb hi);refine⟨w,q1,?_⟩;have:=List.findIdx_getElem (p:=λx=>decide (x=e)) (xs:=ds) (w:=hi);rw[zkK (XM.mp f _ (YA hi)) fe q2 hy];exact this
 ·have hm':m<ds.length:=by
   have:=(Xj.mp hw).1;lia
  obtain⟨w',q1,q2⟩:=h.get (Xb hm');rw[hw]at q1;cases q1;rw[zkK (XM.mp f _ (YA hm')) fe q2 hy];have:=List.not_of_lt_findIdx (p:=λx=>decide (x=e)) (xs:=ds) hlt;simpa using this
end
theorem zkL {K:Xa}{Fz:FZ}{H:Hp}{d:PV}{v:V}(f:zez d=true)(h:Root K Fz H d v):Den K Fz H d v:=by
 cases d with
 | non=>exact h
 | int i=>exact h
 | str x=>exact h
 | _=>exact absurd (show false=true from f) Xr
end PL
namespace L2
open PySem PySem.Spec PyProof.Rows
section
variable {X:Cx}
theorem zkM (hc:X.calm=true):zcz X (.builtin "sum") (λxs H Q=>∃(p:Addr) (ns:List Int),xs=[V.ref p]/\SqL X.K H p (ns.map V.int)/\Q (.int ns.sum) H):=by
 intro pins s σ H xs us Q I r h;obtain⟨p,ns,rfl,hq,q⟩:=h;obtain⟨u,rfl,rx⟩:=vals1 r;cases rx;obtain⟨its,r',pl,hz⟩:=I.list hq;have hI:IntsAre its ns:=intsAre_of r';have hl:=pl.isList;have hall:=hI.allInts;obtain⟨zs,ez⟩:=hall.items;rw[ez]at hl;refine sum_intListG (I.ok.hd hc) hl λh' tk t' hk=>?_;have en:preSum (numAt zs) zs.size=ns.sum:=by
  have e1:numsOf its.toArray.toList=ns:=hI.numsOf;rw[ez,nums_intItems]at e1;rw[preSum_eq,XR (by simp),e1]
 rw[en];exact⟨.int ns.sum,H,I.kept hk,⟨_,rfl⟩,q⟩
end
end L2
namespace PL
open PySem PySem.Spec L2
open PyProof.Rows hiding St
section
variable {X:Cx}
noncomputable def fSum:PF:=λds Q=>∃ns:List Int,ds=[.lst (ns.map PV.int)]/\Q (.int ns.sum) .frz
theorem zfi {K:Xa}{Fz:FZ}{H:Hp}:∀ {ns:List Int}{xs:List V},DenL K Fz H (ns.map PV.int) xs->xs=ns.map V.int
 | [],xs,h=>by simpa only[XV,DenL]using h
 | n::ns,xs,h=>by
  simp only[XV,DenL,Den]at h;obtain⟨v,r,rfl,rfl,h⟩:=h;rw[zfi h];rfl
theorem zqt:zfE X.K (λxs H Q=>∃(p:Addr)(ns:List Int),xs=[V.ref p]/\SqL X.K H p (ns.map V.int)/\Q (.int ns.sum) H) fSum where
 mono ds Q Q' m h:=by obtain⟨ns,e,q⟩:=h;exact⟨ns,e,m _ _ q⟩
 run Fz H ds vs Q al hr h:=by
  obtain⟨ns,rfl,q⟩:=h;obtain⟨v,rfl,h1⟩:=zff hr;obtain⟨a,xs,rfl,h2,h3⟩:=zam h1;rw[zfi h3]at h2;exact⟨a,ns,rfl,h2,q _ Fz H (.val al (by simp only[Den]))⟩
variable {e:Expr}{es:List Expr}{t:TPA}{p pos:Pos}
theorem bSum:bootBuiltins "sum" = some (.builtin "sum"):=by decide +kernel
theorem zqu (hc:X.calm=true)(hg:Gl X "sum") (hm:X.mg "sum" = none) (ha:PuA X (e::es) t) (he:autoParam (starEach (e::es) X.env=(false,eval e X.env)::starEach es X.env) aU0) (hpl:autoParam ((backTo pos (starEach es X.env)).any (·.1)=false) aU0):PuE X (.Call (.Name "sum" p) (e::es) [] pos) (tB fSum t):=
 zdP (zkM hc) zqt hg hm bSum ha (by decide) (by decide) he hpl
end
end PL
namespace L2
open PySem PySem.Spec PyProof.Rows
section
variable {X:Cx}{o e:Expr}{to te:TE}{apos cpos:Pos}
theorem zmw (ho:PE X o to)(he:PE X e te)(m:M1 X o "index" apos e cpos) :
  PE X (.Call (.Attribute o "index" apos) [e] [] cpos) (λσ H Q=>to σ H λx H1=>∃a xs,x=.ref a/\(SqL X.K H1 a xs\/SqT X.K H1 a xs)/\te σ H1 λy H2=>∃zs,(SqL X.K H1 a xs/\SqL X.K H2 a zs\/SqT X.K H1 a xs/\SqT X.K H2 a zs)/\∃j:Nat,zcI y=true/\zs.all zcI=true/\(∃w,zs[j]? = some w/\eqV w y=true)/\(∀m w,m<j->zs[m]? = some w->eqV w y=false)/\Q (.int (j:Int)) H2):=by
 intro pins s σ H Q I h;refine wpAny_Call_method_late m.base m.few m.line rfl (thn (ho pins s σ H _ I h) λu s1 q95q=>?_);obtain⟨x,H1,I1,rx,a,xs,ex,d,q1⟩:=q95q;subst ex;obtain rfl:u=Value.ref a:=rx;rcases d with d | d
 ·obtain⟨its,rv,⟨ob,n,h1,h2,h3,h4⟩,hz⟩:=I1.list d;refine⟨"list","list.index",PySem.F.plainAttrs_list,PySem.F.slot_list_index,PySem.F.type_list_index,⟨ob,h1,h2⟩,λb q=>by cases q;exact⟨ob,h1,h3⟩,?_⟩;rw[m.trees];refine Calls.callWith_builtin rfl (Calls.evalArgs_plain (Calls.spliced_cons (thn (he pins s1 σ H1 _ I1 q1) λiv s2 q96q=>Calls.spliced_nil ?_)));obtain⟨y,H2,I2,ry,zs,hsq,j,f1,f2,g1,g2,q2⟩:=q96q;rcases hsq with ⟨_,hsq⟩ | ⟨hst,_⟩
  ·exact zkI pins s2 σ H2 (.ref a) [y] (.ref a) [iv] Q I2 rfl (.cons ry .nil) ⟨a,zs,y,j,rfl,rfl,hsq,f1,f2,g1,g2,q2⟩
  ·exact(PL.zcM I1 d hst).elim
 ·obtain⟨ob,h1,h2,h4⟩:=I1.zqs d;refine⟨"tuple","tuple.index",PySem.F.plainAttrs_tuple,PySem.F.slot_tuple_index,PySem.F.type_tuple_index,⟨ob,h1,h2⟩,λb q=>by cases q;exact⟨ob,h1,h4⟩,?_⟩;rw[m.trees];refine Calls.callWith_builtin rfl (Calls.evalArgs_plain (Calls.spliced_cons (thn (he pins s1 σ H1 _ I1 q1) λiv s2 q97q=>Calls.spliced_nil ?_)));obtain⟨y,H2,I2,ry,zs,hsq,j,f1,f2,g1,g2,q2⟩:=q97q;rcases hsq with ⟨hsl,_⟩ | ⟨_,hsq⟩
  ·exact(PL.zcM I1 hsl d).elim
  ·exact zkJ pins s2 σ H2 (.ref a) [y] (.ref a) [iv] Q I2 rfl (.cons ry .nil) ⟨a,zs,y,j,rfl,rfl,hsq,f1,f2,g1,g2,q2⟩
end
end L2
namespace PL
open PySem PySem.Spec L2
open PyProof.Rows hiding St
noncomputable def pIdx (to te:TPE):TPE:=λρ Q=>to ρ λd _=>∃ds,(d=.lst ds\/d=.tup ds)/\ds.all zez=true/\te ρ λe _=>zez e=true/\e∈ds/\Q (.int (idxP ds e:Int)) .frz
section
variable {X:Cx}{o e:Expr}{to te:TPE}{apos cpos:Pos}
theorem zim (ho:PuE X o to)(he:PuE X e te)(m:autoParam (M1 X o "index" apos e cpos) aU7):PuE X (.Call (.Attribute o "index" apos) [e] [] cpos) (pIdx to te) where
 mono ρ Q Q' mm h:=ho.mono ρ _ _ (λd _ q98q=>by obtain⟨ds,e1,e2,h⟩:=q98q;exact⟨ds,e1,e2,he.mono ρ _ _ (λe _ q99q=>by obtain⟨q1,q2,q⟩:=q99q;exact⟨q1,q2,mm _ _ q⟩) h⟩) h
 run:=PE.weak (zmw ho.run he.run m) λσ H Q h=>by
  obtain⟨ρ,Fz,R,h⟩:=h;refine⟨ρ,Fz,R,ho.mono ρ _ _ (λd k q v F1 H1 p1=>?_) h⟩;obtain⟨ds,hd,f,q⟩:=q;have rt:=p1.root R;obtain⟨a,xs,rfl,hsq,hsq2,h2⟩:∃a xs,v=.ref a/\(SqL X.K H1 a xs\/SqT X.K H1 a xs)/\(∀H2,Same H1 H2->(SqL X.K H1 a xs/\SqL X.K H2 a xs\/SqT X.K H1 a xs/\SqT X.K H2 a xs))/\DenL X.K F1 H1 ds xs:=by
   rcases hd with rfl | rfl
   ·obtain⟨a,xs,rfl,h1,h2⟩:=zam rt;exact⟨a,xs,rfl,.inl h1,λH2 s=>.inl ⟨h1,s.seq h1⟩,h2⟩
   ·obtain⟨a,xs,rfl,h1,h2⟩:=zcL rt;exact⟨a,xs,rfl,.inr (SqT.of h1),λH2 s=>.inr ⟨SqT.of h1,SqT.of (s _ _ h1)⟩,h2⟩
  refine⟨a,xs,rfl,hsq,ρ,F1,R.ext p1.ext,he.mono ρ _ _ (λe ke q w F2 H2 p2=>?_) q⟩;obtain⟨fe,hm,q⟩:=q;have h3:=DenL.mono (.of p2.ext.same) p2.ext.sub _ _ h2;have hy:=zkL fe (p2.root (R.ext p1.ext));obtain⟨g1,g2⟩:=zoz f fe h3 hy hm;exact⟨xs,hsq2 H2 p2.ext.same,idxP ds e,zil fe hy,zgD f h3,g1,g2,q _ F2 H2 ⟨p1.ext.trans p2.ext,by show Den _ _ _ _ _;simp only[Den]⟩⟩
end
section
variable {X:Cx}{a b:Expr}{ta tb:TPE}{pos:Pos}
theorem zmx {prog:Program}{w:World}{A:Around}{E:Value->Shared->Prop}{s:Shared}{t b:Addr}{vs ws:List Value}{Q:Value->Shared->Prop}(ht:IsTup s.heap t vs.toArray)(hb:IsTup s.heap b ws.toArray)(hv:vs=[])
  (h:Q (.ref b) s):wpAny (model prog w) A (binaryOp .Add (.ref t) (.ref b)) Q E s:=by
 obtain⟨o,ho,hc,n,hd⟩:=ht;obtain⟨o2,ho2,hc2,n2,hd2⟩:=hb;cases o with | mk cls dd data sl=>
 cases o2 with | mk cls2 dd2 data2 sl2=>
 cases hc;cases hd;cases hc2;cases hd2;have he:vs.toArray.isEmpty=true:=by rw[hv];rfl
 have m:=tuple_addW0 t b vs.toArray ws.toArray n n2 dd dd2 sl sl2 he;exact concat_meets ⟨_,ho,rfl⟩ ⟨_,ho2,rfl⟩ noFill_tuple_add seq_tuple_add PySem.F.slot_tuple_add PySem.F.entry_tuple_add (PySem.F.args_tuple_add_2 _ _) m ⟨ho,ho2,h⟩
noncomputable def znr (K:Xa):R2:=λx y H Q=>∃l r xs zs,x=.ref l/\y=.ref r/\SqT K H l xs/\SqT K H r zs/\xs.length+zs.length<=sizeLine/\
 (xs=[]->Q (.ref r) H)/\(zs=[]->Q (.ref l) H)/\∀p,H p=none->Q (.ref p) (upd H p (.tup (xs++zs)))
theorem zmy:OpR X (binaryOp .Add) (znr X.K):=by
 intro pins s σ H x y v u Q I rx ry h;obtain⟨l,r,xs,zs,rfl,rfl,hl,hr,hz,q0,q1,q2⟩:=h;by_cases hx:xs=[]
 ·cases rx;cases ry;obtain⟨its,r1,p1,_⟩:=I.tuple hl;obtain⟨its2,r2,p2,_⟩:=I.tuple hr;exact zmx p1 p2 (r1.zft.mpr hx) ⟨.ref r,H,I,rfl,q0 hx⟩
 ·exact znY pins s σ H (.ref l) (.ref r) v u Q I rx ry ⟨l,r,xs,zs,rfl,rfl,hl,hr,hx,hz,q1,λ_=>q2⟩
noncomputable def zkN:P2:=λd e Q=>∃ds es,d=.tup ds/\e=.tup es/\ds.length+es.length<=sizeLine/\Q (.tup (ds++es)) .frz
theorem zoA {K:Xa}:POp K (znr K) zkN where
 mono d e Q Q' m h:=by obtain⟨ds,es,e1,e2,e3,q⟩:=h;exact⟨ds,es,e1,e2,e3,m _ _ q⟩
 run Fz H x y d e Q al rx ry h:=by
  obtain⟨ds,es,rfl,rfl,e3,q⟩:=h;have dx:Den K Fz H (.tup ds) x:=rx;have dy:Den K Fz H (.tup es) y:=ry;obtain⟨l,xs,rfl,h1,h2⟩:=zaX rx;obtain⟨r,ys,rfl,g1,g2⟩:=zaX ry;have l1:=h2.length;have l2:=g2.length;refine⟨l,r,xs,ys,rfl,rfl,h1,g1,by lia,λz=>?_,λz=>?_,λp hp=>q _ Fz _ (.newT al hp (h2.append g2))⟩
  ·have:ds=[]:=Yi.mp (by rw[z]at l1;simpa using l1);subst this;exact q _ Fz _ (.val al dy)
  ·have:es=[]:=Yi.mp (by rw[z]at l2;simpa using l2);subst this;rw[Yd]at q;exact q _ Fz _ (.val al dx)
theorem zoB (ha:PuE X a ta)(hb:PuE X b tb):PuE X (.BinOp a .Add b pos) (t2 zkN ta tb):=zfB zmy zoA ha hb
end
section
variable {X:Cx}{a:Expr}{ta:TPE}{pos:Pos}
noncomputable def pNeg (ta:TPE):TPE:=λρ Q=>ta ρ λd _=>∃i:Int,d=.int i/\Q (.int (-i)) .frz
theorem zns (ha:PuE X a ta):PuE X (.UnaryOp .USub a pos) (pNeg ta) where
 mono ρ Q Q' m h:=ha.mono ρ _ _ (λd k q100q=>by obtain⟨c,e,q⟩:=q100q;exact⟨c,e,m _ _ q⟩) h
 run:=PE.weak (zrm zpF ha.run) λσ H Q h=>by
  obtain⟨ρ,Fz,R,h⟩:=h;refine⟨ρ,Fz,R,ha.mono ρ _ _ (λd k ⟨c,e,q⟩ v Fz' H' p=>⟨c,?_,q _ Fz' H' ⟨p.ext,by show Den _ _ _ _ _;simp only[Den]⟩⟩) h⟩;subst e;exact zaG (p.root R)
end
end PL
namespace Srt
open PySem PyProof.Rows
section
variable {σ α:Type}{M:Model}{A:Around}{E:Value->Shared->Prop}{s:Shared}{c:Prop}{dc:Decidable c}{Q:α->σ->Prop}{st:σ}
theorem znt {L H:Nat}(h:¬ L>=H):L<=L+(H-L) / 2/\L+(H-L) / 2<H:=by lia
theorem zoC {L H:Nat}(h:¬ L>=H):L<=(L+H) / 2/\(L+H) / 2<H:=by lia
theorem zaE {x y:StateT σ Sem α}(h1:c->wpS M A E s x Q st)(h2:¬ c->wpS M A E s y Q st):wpS M A E s (if c then x else y) Q st:=by
 split
 ·exact h1 ‹_›
 ·exact h2 ‹_›
theorem znu {x y:StateT σ Sem α}(R:σ->Prop)(key:∀st2,R st2->wpS M A E s y Q st2)(h1:c->(∀st2,R st2->wpS M A E s y Q st2)->wpS M A E s x Q st)(h2:¬ c->R st):wpS M A E s (if c then x else y) Q st:=by
 split
 ·exact h1 ‹_› key
 ·exact key _ (h2 ‹_›)
theorem zqv {γ:Type}{g:γ->StateT σ Sem α}{v:γ}(h:∀z,wpS M A E s (g z) Q st):∀u:γ,wpS M A E s (if c then g u else g v) Q st:=λu=>by
 split<;>exact h _
theorem zin {γ δ:Type}{g m:γ->δ->StateT σ Sem α}{H:γ->δ->Prop}(P:γ->δ->Prop)(key:∀x y,P x y->wpS M A E s (g x y) Q st)(h1:∀u v,H u v->c->(∀x y,P x y->wpS M A E s (g x y) Q st)->wpS M A E s (m u v) Q st)(h2:∀u v,H u v->¬ c->P u v):∀u v,H u v->wpS M A E s (if c then m u v else g u v) Q st:=λu v hH=>by
 by_cases h:c
 ·rw[if_pos h];exact h1 u v hH h key
 ·rw[if_neg h];exact key _ _ (h2 u v hH h)
end
noncomputable def gal:Bool->Keyed->Array Keyed->Nat->Nat->Nat->StateT SortSt Sem (Option Nat):=sortPriv% PySem.Builtin.gallop
structure Cmp (prog:Program)(w:World)(A:Around)(E:Value->Shared->Prop)(s:Shared)(k:SortKind)(P:Keyed->Prop)(f:Keyed->Keyed->Bool):Prop where
 run:∀ {x y:Keyed} {Q:Option Bool->SortSt->Prop} {st:SortSt},P x->P y->kindOf st=k->Q (some (f x y)) st->wpS (model prog w) A E s (lt' x y) Q st
section
variable {prog:Program}{w:World}{A:Around}{E:Value->Shared->Prop}{s:Shared}{k:SortKind}{P:Keyed->Prop}{f:Keyed->Keyed->Bool}
noncomputable def beyB (f:Keyed->Keyed->Bool)(l:Bool)(key:Keyed)(a:Array Keyed)(b i:Nat):Bool:=match a[b+i]? with
 | some x=>if l then f x key else !f key x
 | none=>false
theorem zas {a:Array Keyed}{i:Nat}{x:Keyed}{Q:Keyed->SortSt->Prop}{st:SortSt}(hx:a[i]? = some x)(h:Q x st):wpS (model prog w) A E s (elem' a i) Q st:=by
 rw[elem'_eq,hx];exact wpS_pure h
theorem zqw (C:Cmp prog w A E s k P f){l:Bool}{key:Keyed}{a:Array Keyed}{b i:Nat}{Q:Option Bool->SortSt->Prop}{st:SortSt}(hi:b+i<a.size)(hP:∀(j:Nat) x,a[j]? = some x->P x)(hk:P key)(hst:kindOf st=k)(h:Q (some (beyB f l key a b i)) st) :
  wpS (model prog w) A E s (do let x <- elem' a (b+i);if l=true then lt' x key else do let r <- lt' key x;pure (Option.map (λx=>!x) r)) Q st:=by
 have hx:a[b+i]? = some (a[b+i]):=getElem?_pos a (b+i) hi;have hp:=hP _ _ hx;unfold beyB at h;rw[hx]at h;refine wpS_bind (zas hx ?_);cases l with
 | true=>rw[if_pos rfl];exact C.run hp hk hst h
 | false=>
  rw[if_neg (by decide)];refine wpS_bind (C.run hk hp hst ?_);exact wpS_pure h
structure Cut (B:Nat->Bool)(n r:Nat):Prop where
 le:r<=n
 below:∀i,i<r->B i=true
 above:∀i,r<=i->i<n->B i=false
theorem zfj (C:Cmp prog w A E s k P f){l:Bool}{key:Keyed}{a:Array Keyed}{b n h:Nat}{Q:Option Nat->SortSt->Prop}{st:SortSt}(hh:h<n)(hn:b+n<=a.size)(hP:∀(j:Nat) x,a[j]? = some x->P x)(hk:P key)(hst:kindOf st=k)
  (hm:∀i j,i<=j->j<n->beyB f l key a b j=true->beyB f l key a b i=true) (hQ:∀r,Cut (beyB f l key a b) n r->Q (some r) st):wpS (model prog w) A E s (gal l key a b n h) Q st:=by
 generalize hB:beyB f l key a b=B at hm hQ;have bey:∀ {i:Nat} {R:Option Bool->SortSt->Prop},i<n->R (some (B i)) st->wpS (model prog w) A E s (do let x <- elem' a (b+i);if l=true then lt' x key else do let r <- lt' key x;pure (Option.map (λx=>!x) r)) R st:=
  λ{i} {R} hi hr=>zqw C (by lia) hP hk hst (by rw[hB];exact hr)
 have hmF:∀i j,i<=j->j<n->B i=false->B j=false:=λi j h1 h2 h3=>by
  cases hj:B j with
  | false=>rfl
  | true=>rw[hm i j h1 h2 hj]at h3;cases h3
 refine wpS_bind (bey hh ?_);dsimp only;cases hb:B h with
 | true=>
  rw[if_pos rfl];refine wpS_bind (wpS_mono (wpS_forRange (I:=λx c st'=>st'=st/\∃lastofs ofs,c=(none,lastofs,ofs)/\lastofs<ofs/\x<ofs/\h+lastofs<n/\B (h+lastofs)=true)
   (Q:=λc st'=>st'=st/\∃lastofs ofs,c=(none,lastofs,ofs)/\lastofs<ofs/\h+lastofs<n/\B (h+lastofs)=true/\(n-h<=ofs\/(h+ofs<n/\B (h+ofs)=false))) ?step ?fin ⟨rfl,0,1,rfl,by lia,by lia,by lia,hb⟩) ?post)
  case fin=>
   rintro c st' ⟨rfl,lo,os,rfl,h1,h2,h3,h4⟩;exact⟨rfl,lo,os,rfl,h1,h3,h4,.inl (by lia)⟩
  case step=>
   rintro x c st' _ hx ⟨rfl,lo,os,rfl,h1,h2,h3,h4⟩;dsimp only;by_cases hge:os>=n-h
   ·rw[if_pos hge];exact wpS_pure ⟨rfl,lo,os,rfl,h1,h3,h4,.inl hge⟩
   ·rw[if_neg hge];refine wpS_bind (bey (by lia) ?_);dsimp only;cases hv:B (h+os)with
    | true=>
     rw[if_neg (by decide)];exact wpS_pure ⟨rfl,os,2*os+1,rfl,by lia,by lia,by lia,hv⟩
    | false=>
     rw[if_pos (by decide)];exact wpS_pure ⟨rfl,lo,os,rfl,h1,h3,h4,.inr ⟨by lia,hv⟩⟩
  case post=>
   rintro c st' ⟨rfl,lo,os,rfl,h1,h3,h4,h5⟩;dsimp only;have b1:∀i,i<h+lo+1->B i=true:=λi hi=>hm i (h+lo) (by lia) h3 h4;have b2:∀i,h+min os (n-h)<=i->i<n->B i=false:=λi hi1 hi2=>by
    rcases h5 with h5 | ⟨h5,h6⟩
    ·lia
    ·exact hmF (h+os) i (by lia) hi2 h6
   have b3:h+lo+1<=h+min os (n-h):=by lia
   have b4:h+min os (n-h)<=n:=by lia
   generalize h+lo+1=L at b1 b3;generalize h+min os (n-h)=H at b2 b3 b4;refine wpS_bind (wpS_mono (wpS_forRange (I:=λx c st2=>st2=st'/\∃L H,c=(none,L,H)/\L<=H/\H<=n/\H-L<=n-x/\(∀i,i<L->B i=true)/\(∀i,H<=i->i<n->B i=false))
    (Q:=λc st2=>st2=st'/\∃H,c=(none,H,H)/\Cut B n H) ?hstep ?hfin ⟨rfl,L,H,rfl,b3,b4,by lia,b1,b2⟩) ?hpost)
   case hfin=>
    rintro c st2 ⟨rfl,L,H,rfl,g1,g2,g3,g4,g5⟩;have:L=H:=by lia
    subst this;exact⟨rfl,L,rfl,⟨g2,g4,g5⟩⟩
   case hstep=>
    rintro x c st2 _ hx ⟨rfl,L,H,rfl,g1,g2,g3,g4,g5⟩;dsimp only;by_cases hge:L>=H
    ·rw[if_pos hge];have:L=H:=by lia
     subst this;exact wpS_pure ⟨rfl,L,rfl,⟨g2,g4,g5⟩⟩
    ·rw[if_neg hge];obtain⟨hmi,hmid⟩:=znt hge;generalize L+(H-L) / 2=md at hmi hmid ⊢;refine wpS_bind (bey (by lia) ?_);dsimp only;cases hv:B md with
     | true=>
      rw[if_pos rfl];exact wpS_pure ⟨rfl,_,H,rfl,by lia,g2,by lia,λi hi=>hm i _ (by lia) (by lia) hv,g5⟩
     | false=>
      rw[if_neg (by decide)];exact wpS_pure ⟨rfl,L,_,rfl,by lia,by lia,by lia,g4,λi h1 h2=>hmF _ i h1 h2 hv⟩
   case hpost=>
    rintro c st2 ⟨rfl,H,rfl,hc⟩;exact wpS_pure (hQ H hc)
 | false=>
  rw[if_neg (by decide)];refine wpS_bind (wpS_mono (wpS_forRange (I:=λx c st'=>st'=st/\∃lastofs ofs,c=(none,lastofs,ofs)/\lastofs<ofs/\x<ofs/\lastofs<=h/\B (h-lastofs)=false)
   (Q:=λc st'=>st'=st/\∃lastofs ofs,c=(none,lastofs,ofs)/\lastofs<ofs/\lastofs<=h/\B (h-lastofs)=false/\(h+1<=ofs\/(ofs<=h/\B (h-ofs)=true))) ?step ?fin ⟨rfl,0,1,rfl,by lia,by lia,by lia,hb⟩) ?post)
  case fin=>
   rintro c st' ⟨rfl,lo,os,rfl,h1,h2,h3,h4⟩;exact⟨rfl,lo,os,rfl,h1,h3,h4,.inl (by lia)⟩
  case step=>
   rintro x c st' _ hx ⟨rfl,lo,os,rfl,h1,h2,h3,h4⟩;dsimp only;by_cases hge:os>=h+1
   ·rw[if_pos hge];exact wpS_pure ⟨rfl,lo,os,rfl,h1,h3,h4,.inl hge⟩
   ·rw[if_neg hge];refine wpS_bind (bey (by lia) ?_);dsimp only;cases hv:B (h-os)with
    | true=>
     rw[if_pos rfl];exact wpS_pure ⟨rfl,lo,os,rfl,h1,h3,h4,.inr ⟨by lia,hv⟩⟩
    | false=>
     rw[if_neg (by decide)];exact wpS_pure ⟨rfl,os,2*os+1,rfl,by lia,by lia,by lia,hv⟩
  case post=>
   rintro c st' ⟨rfl,lo,os,rfl,h1,h3,h4,h5⟩;dsimp only;have b1:∀i,i<h+1-min os (h+1)->B i=true:=λi hi=>by
    rcases h5 with h5 | ⟨h5,h6⟩
    ·lia
    ·exact hm i (h-os) (by lia) (by lia) h6
   have b2:∀i,h-lo<=i->i<n->B i=false:=λi hi1 hi2=>hmF (h-lo) i hi1 hi2 h4;have b3:h+1-min os (h+1)<=h-lo:=by lia
   have b4:h-lo<=n:=by lia
   generalize h+1-min os (h+1)=L at b1 b3;generalize h-lo=H at b2 b3 b4;refine wpS_bind (wpS_mono (wpS_forRange (I:=λx c st2=>st2=st'/\∃L H,c=(none,L,H)/\L<=H/\H<=n/\H-L<=n-x/\(∀i,i<L->B i=true)/\(∀i,H<=i->i<n->B i=false))
    (Q:=λc st2=>st2=st'/\∃H,c=(none,H,H)/\Cut B n H) ?hstep ?hfin ⟨rfl,L,H,rfl,b3,b4,by lia,b1,b2⟩) ?hpost)
   case hfin=>
    rintro c st2 ⟨rfl,L,H,rfl,g1,g2,g3,g4,g5⟩;have:L=H:=by lia
    subst this;exact⟨rfl,L,rfl,⟨g2,g4,g5⟩⟩
   case hstep=>
    rintro x c st2 _ hx ⟨rfl,L,H,rfl,g1,g2,g3,g4,g5⟩;dsimp only;by_cases hge:L>=H
    ·rw[if_pos hge];have:L=H:=by lia
     subst this;exact wpS_pure ⟨rfl,L,rfl,⟨g2,g4,g5⟩⟩
    ·rw[if_neg hge];obtain⟨hmi,hmid⟩:=znt hge;generalize L+(H-L) / 2=md at hmi hmid ⊢;refine wpS_bind (bey (by lia) ?_);dsimp only;cases hv:B md with
     | true=>
      rw[if_pos rfl];exact wpS_pure ⟨rfl,_,H,rfl,by lia,g2,by lia,λi hi=>hm i _ (by lia) (by lia) hv,g5⟩
     | false=>
      rw[if_neg (by decide)];exact wpS_pure ⟨rfl,L,_,rfl,by lia,by lia,by lia,g4,λi h1 h2=>hmF _ i h1 h2 hv⟩
   case hpost=>
    rintro c st2 ⟨rfl,H,rfl,hc⟩;exact wpS_pure (hQ H hc)
end
structure Mid {α:Type}(R:α->α->Prop)(a b out:List α)(ia ib:Nat):Prop where
 pm:(out++(a.drop ia++b.drop ib)).Perm (a++b)
 sa:(out++a.drop ia).Pairwise R
 sb:(out++b.drop ib).Pairwise R
structure Good {α:Type}(R:α->α->Prop)(a b out:List α):Prop where
 pm:out.Perm (a++b)
 so:out.Pairwise R
section
variable {α:Type}{R:α->α->Prop}{a b out:List α}{ia ib:Nat}
theorem Mid.runA (h:Mid R a b out ia ib)(k:Nat)(hR:∀x∈(a.drop ia).take k,∀z∈b.drop ib,R x z):Mid R a b (out++(a.drop ia).take k) (ia+k) ib:=by
 have e:a.drop ia=(a.drop ia).take k++a.drop (ia+k):=by rw[<- List.drop_drop,XT]
 refine⟨?_,?_,?_⟩
 ·have:=h.pm;rw[e]at this;simpa[Xw]using this
 ·have:=h.sa;rw[e]at this;simpa[Xw]using this
 ·have h1:=h.sa;have h2:=h.sb;rw[e,<- Xw,XF]at h1;rw[XF]at h2 ⊢;refine⟨h1.1,h2.2.1,λx hx z hz=>?_⟩;rcases XA.mp hx with hx | hx
  ·exact h2.2.2 x hx z hz
  ·exact hR x hx z hz
theorem Mid.flip (h:Mid R a b out ia ib):Mid R b a out ib ia:=⟨(Yw.append_left out YG).trans (h.pm.trans YG),h.sb,h.sa⟩
theorem Mid.runB (h:Mid R a b out ia ib)(k:Nat)(hR:∀x∈(b.drop ib).take k,∀z∈a.drop ia,R x z):Mid R a b (out++(b.drop ib).take k) ia (ib+k):=(h.flip.runA k hR).flip
theorem take_one {l:List α}{i:Nat}{x:α}(h:l[i]? = some x):(l.drop i).take 1=[x]:=by
 obtain⟨hi,e⟩:=Xj.mp h;rw[YC hi,e];rfl
theorem Mid.one (h:Mid R a b out ia ib){x:α}(hx:a[ia]? = some x)(hR:∀z∈b.drop ib,R x z):Mid R a b (out++[x]) (ia+1) ib:=by
 have:=h.runA 1 (by rw[take_one hx];intro y hy;rw[Xs.mp hy];exact hR)
 rwa [take_one hx]at this
theorem Mid.oneB (h:Mid R a b out ia ib){x:α}(hx:b[ib]? = some x)(hR:∀z∈a.drop ia,R x z):Mid R a b (out++[x]) ia (ib+1):=(h.flip.one hx hR).flip
theorem Mid.endB (h:Mid R a b out ia ib)(hb:b.length<=ib):Good R a b (out++a.drop ia++b.drop ib):=by
 have e:b.drop ib=[]:=Yv hb;have h1:=h.pm;rw[e,Yd]at h1 ⊢;exact⟨h1,h.sa⟩
theorem Mid.endA (h:Mid R a b out ia ib)(ha:a.length<=ia):Good R a b (out++a.drop ia++b.drop ib):=by
 have e:a.drop ia=[]:=Yv ha;have h1:=h.pm;rw[e,List.nil_append]at h1;rw[e,Yd];exact⟨h1,h.sb⟩
theorem Mid.last (h:Mid R a b out ia ib)(hR:∀y∈b.drop ib,∀z∈a.drop ia,R y z):Good R a b (out++b.drop ib++a.drop ia):=by
 refine⟨?_,?_⟩
 ·rw[Xw];exact(Yw.append_left out YG).trans h.pm
 ·have h1:=XF.mp h.sa;rw[XF];refine⟨h.sb,h1.2.1,λx hx z hz=>?_⟩;rcases XA.mp hx with hx | hx
  ·exact h1.2.2 x hx z hz
  ·exact hR x hx z hz
end
noncomputable def mLo:Array Keyed->Array Keyed->StateT SortSt Sem (Array Keyed):=sortPriv% PySem.Builtin.mergeLo
noncomputable def setG:Nat->StateT SortSt Sem Unit:=sortPriv% PySem.Builtin.setMinGallop
structure Same (st st':SortSt):Prop where
 kind:kindOf st'=kindOf st
 arr:arrOf st'=arrOf st
 pend:pendingOf st'=pendingOf st
 failed:failedOf st'=failedOf st
theorem Same.refl (st:SortSt):Same st st:=⟨rfl,rfl,rfl,rfl⟩
theorem zaL {α:Type}(a:Array α)(i:Nat):(a.extract i a.size).toList=a.toList.drop i:=by
 rw[Array.toList_extract,YB,XR (by simp)]
theorem zhn {α:Type}(a:Array α)(i k:Nat):(a.extract i (i+k)).toList=(a.toList.drop i).take k:=by
 rw[Array.toList_extract,YB,Nat.add_sub_cancel_left]
structure Tot (f:Keyed->Keyed->Bool)(P:Keyed->Prop):Prop where
 asym:∀x y,P x->P y->f x y=true->f y x=false
 tr:∀x y z,P x->P y->P z->f y x=false->f z y=false->f z x=false
noncomputable abbrev Le (f:Keyed->Keyed->Bool)(x y:Keyed):Prop:=f y x=false
section
variable {prog:Program}{w:World}{A:Around}{E:Value->Shared->Prop}{s:Shared}{k:SortKind}{P:Keyed->Prop}{f:Keyed->Keyed->Bool}
theorem zfK {g:Nat}{Q:Unit->SortSt->Prop}{st st0:SortSt}(hs:Same st0 st)(h:∀st',Same st0 st'->Q () st'):wpS (model prog w) A E s (setG g) Q st:=
 wpS_modify (h _ ⟨hs.kind,hs.arr,hs.pend,hs.failed⟩)
theorem zeA {a:Array Keyed}(h:∀(j:Nat) x,a[j]? = some x->P x):∀x∈a.toList,P x:=λx hx=>by
 obtain⟨j,hj,e⟩:=List.getElem_of_mem hx;exact h j x (by rw[<- Xn,Xb hj,e])
theorem zfL {l:List Keyed}{i:Nat}{x:Keyed}(T:Tot f P)(hP:∀x∈l,P x)(hs:l.Pairwise (Le f))(hx:l[i]? = some x){y:Keyed}(hy:P y)(hyx:Le f y x):∀z∈l.drop i,Le f y z:=λz hz=>by
 obtain⟨hi,e⟩:=Xj.mp hx;have hd:=hs.drop (i:=i);rw[YC hi,e]at hz hd;rcases Xv.mp hz with rfl | hz2
 ·exact hyx
 ·exact T.tr y x z hy (hP x (Xl hx)) (hP z (List.mem_of_mem_drop hz2)) hyx (List.rel_of_pairwise_cons hd hz2)
theorem zbk {l:Bool}{key:Keyed}{a:Array Keyed}{b i:Nat}(h:b+i<a.size):beyB f l key a b i=if l then f a[b+i] key else !f key a[b+i]:=by
 unfold beyB;rw[getElem?_pos a (b+i) h]
theorem zho {a:Array Keyed}(hs:a.toList.Pairwise (Le f)){i j:Nat}(hij:i<j)(hj:j<a.size):Le f (a[i]'(by lia)) a[j]:=by
 have:=List.pairwise_iff_getElem.mp hs i j (by simp;lia) (by simpa using hj) hij;simpa using this
theorem zdQ (T:Tot f P){l:Bool}{key:Keyed}{a:Array Keyed}{b n:Nat}(hn:b+n<=a.size)(hP:∀(j:Nat) x,a[j]? = some x->P x)(hk:P key)(hs:a.toList.Pairwise (Le f)):∀i j,i<=j->j<n->beyB f l key a b j=true->beyB f l key a b i=true:=by
 intro i j hij hj h;rcases Nat.lt_or_eq_of_le hij with hlt | rfl
 ·have hi':b+i<a.size:=by lia
  have hj':b+j<a.size:=by lia
  have pi:P a[b+i]:=hP _ _ (getElem?_pos a _ hi');have pj:P a[b+j]:=hP _ _ (getElem?_pos a _ hj');have hle:Le f a[b+i] a[b+j]:=zho hs (by lia) hj';rw[zbk hj']at h;rw[zbk hi'];cases l with
  | true=>
   simp only[if_true]at h ⊢;cases hc:f a[b+i] key with
   | true=>rfl
   | false=>rw[T.tr key a[b+i] a[b+j] hk pi pj hc hle]at h;cases h
  | false=>
   simp only[Xu,if_false]at h ⊢;have h:f key a[b+j]=false:=by simpa using h
   rw[T.tr a[b+i] a[b+j] key pi pj hk hle h];rfl
 ·exact h
theorem zcF {a:Array Keyed}{i k:Nat}(hk:i+k<=a.size){x:Keyed}(hx:x∈(a.toList.drop i).take k):∃j,∃h:i+j<a.size,j<k/\x=a[i+j]:=by
 obtain⟨j,hj,e⟩:=List.getElem_of_mem hx;rw[XC,List.length_drop,Xp]at hj;refine⟨j,by lia,by lia,?_⟩;rw[<- e];simp
theorem zqx (C:Cmp prog w A E s k P f)(T:Tot f P){a b:Array Keyed}{Q:Array Keyed->SortSt->Prop}{st:SortSt}(hst:kindOf st=k)(ha:0<a.size)(hb:0<b.size)(hPa:∀(j:Nat) x,a[j]? = some x->P x)(hPb:∀(j:Nat) x,b[j]? = some x->P x)
  (sa:a.toList.Pairwise (Le f)) (sb:b.toList.Pairwise (Le f)) (h0:f b[0] a[0]=true) (hl:∀y∈b.toList,Le f y (a[a.size-1]'(by lia)))
  (hQ:∀out st',Good (Le f) a.toList b.toList out.toList->Same st st'->Q out st'):wpS (model prog w) A E s (mLo a b) Q st:=by
 have pa:=zeA hPa;have pb:=zeA hPb;have la:a.toList.length=a.size:=Xp;have lb:b.toList.length=b.size:=Xp;have ga:∀ {i:Nat},(hi:i<a.size)->a[i]? = some a[i]:=λ{i} hi=>getElem?_pos a i hi;have gb:∀ {i:Nat},(hi:i<b.size)->b[i]? = some b[i]:=λ{i} hi=>getElem?_pos b i hi;have gla:∀ {i:Nat},(hi:i<a.size)->a.toList[i]? = some a[i]:=λ{i} hi=>by rw[Xn];exact ga hi
 have glb:∀ {i:Nat},(hi:i<b.size)->b.toList[i]? = some b[i]:=λ{i} hi=>by rw[Xn];exact gb hi
 have Pa:∀ {i:Nat},(hi:i<a.size)->P a[i]:=λ{i} hi=>hPa i _ (ga hi);have Pb:∀ {i:Nat},(hi:i<b.size)->P b[i]:=λ{i} hi=>hPb i _ (gb hi);have stB:∀ {out:List Keyed} {ia ib:Nat},Mid (Le f) a.toList b.toList out ia ib->(h1:ia<a.size)->(h2:ib<b.size)->f b[ib] a[ia]=true->Mid (Le f) a.toList b.toList (out++[b[ib]]) ia (ib+1):=
  λm h1 h2 hf=>m.oneB (glb h2) (zfL T pa sa (gla h1) (Pb h2) (T.asym _ _ (Pb h2) (Pa h1) hf))
 have stA:∀ {out:List Keyed} {ia ib:Nat},Mid (Le f) a.toList b.toList out ia ib->(h1:ia<a.size)->(h2:ib<b.size)->f b[ib] a[ia]=false->Mid (Le f) a.toList b.toList (out++[a[ia]]) (ia+1) ib:=
  λm h1 h2 hf=>m.one (gla h1) (zfL T pb sb (glb h2) (Pa h1) hf)
 have lst:∀ {out:List Keyed} {ia ib:Nat},Mid (Le f) a.toList b.toList out ia ib->ia+1=a.size->Good (Le f) a.toList b.toList (out++b.toList.drop ib++a.toList.drop ia):=λ{out ia ib} m h1=>
  m.last λy hy z hz=>by
   have e:a.toList.drop ia=[a[a.size-1]'(by lia)]:=by
    rw[YC (by lia),Yv (by lia)]
    congr 1
    rw[Array.getElem_toList]
    congr 1
    lia
   rw[e]at hz;rw[Xs.mp hz];exact hl y (List.mem_of_mem_drop hy)
 have start:Mid (Le f) a.toList b.toList [b[0]] 0 1:=by
  have:Mid (Le f) a.toList b.toList [] 0 0:=⟨by simp,by simpa using sa,by simpa using sb⟩;exact stB this ha hb h0
 refine wpS_bind (wpS_lift (wpAny_rule ⟨rfl,?_⟩));refine wpS_bind (zas (gb hb) ?_);refine zaE (λhb1=>?_) (λhb1=>?_)
 ·refine wpS_pure (hQ _ _ ?_ (.refl st));have e:1=b.size:=by simpa using hb1
  rw[Xh,Xh,zaL,zaL];exact start.endB (by lia)
 refine zaE (λha1=>?_) (λha1=>?_)
 ·refine wpS_pure (hQ _ _ ?_ (.refl st));have e:0+1=a.size:=by simpa using ha1
  rw[Xh,Xh,zaL,zaL];exact lst start (by lia)
 have hb2:1<b.size:=by have:¬ 1=b.size:=(by simpa using hb1);lia
 have ha2:0+1<a.size:=by have:¬ 0+1=a.size:=(by simpa using ha1);lia
 refine wpS_bind (wpS_get ?_);refine wpS_bind (wpS_mono (wpS_forRange
  (I:=λx c st'=>Same st st'/\∃out ia ib mg,c=(none,out,ia,ib,mg)/\Mid (Le f) a.toList b.toList out.toList ia ib/\ia+1<a.size/\ib<b.size/\x+1<=ia+ib)
  (Q:=λc st'=>Same st st'/\∃out,c.1=some out/\Good (Le f) a.toList b.toList out.toList) ?step ?fin ⟨.refl st,_,0,1,_,rfl,by simpa using start,ha2,hb2,by lia⟩) ?post)
 case fin=>
  rintro c st' ⟨_,out,ia,ib,mg,rfl,_,h1,h2,h3⟩;exfalso
  lia
 case post=>
  rintro⟨c1,c2⟩ st' ⟨hs,out,e,g⟩;simp only at e;subst e;exact wpS_pure (hQ _ _ g hs)
 case step=>
  rintro x c st1 _ hx ⟨hs,out,ia,ib,mg,rfl,m,h1,h2,h3⟩;show wpS _ _ _ _ (bind _ _) _ _;dsimp -zeta only;refine wpS_bind (wpS_mono (wpS_forRange
   (I:=λx c st'=>Same st st'/\∃out ia2 ib2 ac bc,c=(none,out,ia2,ib2,ac,bc)/\Mid (Le f) a.toList b.toList out.toList ia2 ib2/\ia2+1<a.size/\ib2<b.size/\x+(ia+ib)<=ia2+ib2)
   (Q:=λc st'=>Same st st'/\((∃out,c.1=some out/\Good (Le f) a.toList b.toList out.toList)\/∃out ia2 ib2 ac bc,c=(none,out,ia2,ib2,ac,bc)/\Mid (Le f) a.toList b.toList out.toList ia2 ib2/\ia2+1<a.size/\ib2<b.size/\1+(ia+ib)<=ia2+ib2)) ?step1 ?fin1 ⟨hs,out,ia,ib,0,0,rfl,m,h1,h2,by lia⟩) ?post1)
  case fin1=>
   rintro c st' ⟨_,out,ia2,ib2,ac,bc,rfl,_,h1,h2,h3⟩;exfalso
   lia
  case step1=>
   rintro y c st2 _ hy ⟨hs2,out2,ia2,ib2,ac,bc,rfl,m2,g1,g2,g3⟩;dsimp only;refine wpS_bind (zas (gb g2) (wpS_bind (zas (ga (show ia2<a.size by lia)) (wpS_bind (C.run (Pb g2) (Pa _) (by rw[hs2.kind];exact hst) ?_)))));dsimp only;cases hf:f b[ib2] (a[ia2]'(by lia))with
   | true=>
    have m3:=stB m2 (by lia) g2 hf;rw[<- Array.toList_push]at m3;rw[if_pos rfl];refine wpS_bind (zas (gb g2) ?_);refine zaE (λe1=>?_) (λe1=>?_)
    ·have e1:ib2+1=b.size:=by simpa using e1
     refine wpS_pure ⟨hs2,.inl ⟨_,rfl,?_⟩⟩;rw[Xh,Xh,zaL,zaL];exact m3.endB (by lia)
    ·have e1:¬ ib2+1=b.size:=by simpa using e1
     refine zaE (λe2=>?_) (λe2=>?_)
     ·exact wpS_pure ⟨hs2,.inr ⟨_,_,_,_,_,rfl,m3,g1,by lia,by lia⟩⟩
     ·exact wpS_pure ⟨hs2,_,_,_,_,_,rfl,m3,g1,by lia,by lia⟩
   | false=>
    have m3:=stA m2 (by lia) g2 hf;rw[<- Array.toList_push]at m3;rw[if_neg (by decide)];refine wpS_bind (zas (ga (show ia2<a.size by lia)) ?_);refine zaE (λe1=>?_) (λe1=>?_)
    ·have e1:ia2+1+1=a.size:=by simpa using e1
     refine wpS_pure ⟨hs2,.inl ⟨_,rfl,?_⟩⟩;rw[Xh,Xh,zaL,zaL];exact lst m3 e1
    ·have e1:¬ ia2+1+1=a.size:=by simpa using e1
     refine zaE (λe2=>?_) (λe2=>?_)
     ·exact wpS_pure ⟨hs2,.inr ⟨_,_,_,_,_,rfl,m3,by lia,g2,by lia⟩⟩
     ·exact wpS_pure ⟨hs2,_,_,_,_,_,rfl,m3,by lia,g2,by lia⟩
  case post1=>
   rintro c st2 ⟨hs2,hc⟩;rcases hc with ⟨out2,e,g⟩ | ⟨out2,ia2,ib2,ac,bc,rfl,m2,g1,g2,g3⟩
   ·obtain⟨c1,c2⟩:=c;simp only at e;subst e;exact wpS_pure ⟨hs2,_,rfl,g⟩
   show wpS _ _ _ _ (bind _ _) _ _;dsimp -zeta only;refine wpS_bind (wpS_lift (wpAny_rule ⟨rfl,?_⟩));refine wpS_bind (wpS_mono (wpS_forRange
    (I:=λx c st'=>Same st st'/\∃out ia3 ib3 mg ac bc,c=(none,out,ia3,ib3,mg,ac,bc)/\Mid (Le f) a.toList b.toList out.toList ia3 ib3/\ia3+1<a.size/\ib3<b.size/\x+(ia2+ib2)<=ia3+ib3)
    (Q:=λc st'=>Same st st'/\((∃out,c.1=some out/\Good (Le f) a.toList b.toList out.toList)\/∃out ia3 ib3 mg ac bc,c=(none,out,ia3,ib3,mg,ac,bc)/\Mid (Le f) a.toList b.toList out.toList ia3 ib3/\ia3+1<a.size/\ib3<b.size/\ia2+ib2<=ia3+ib3)) ?step2 ?fin2 ⟨hs2,out2,ia2,ib2,_,ac,bc,rfl,m2,g1,g2,by lia⟩) ?post2)
   case fin2=>
    rintro c st' ⟨_,out,ia2,ib2,mg,ac,bc,rfl,_,h1,h2,h3⟩;exfalso
    lia
   case post2=>
    rintro c st3 ⟨hs3,hc⟩;rcases hc with ⟨out3,e,g⟩ | ⟨out3,ia3,ib3,mg3,ac3,bc3,rfl,m3,q1,q2,q3⟩
    ·obtain⟨c1,c2⟩:=c;simp only at e;subst e;exact wpS_pure ⟨hs3,_,rfl,g⟩
    dsimp only;refine wpS_bind (zfK hs3 λst4 hs4=>?_);exact wpS_pure ⟨hs4,_,_,_,_,rfl,m3,q1,q2,by lia⟩
   case step2=>
    rintro y c st3 _ hy ⟨hs3,out3,ia3,ib3,mg3,ac3,bc3,rfl,m3,q1,q2,q3⟩;have nA:ia3+(a.size-ia3)<=a.size:=by lia
    show wpS _ _ _ _ (ite _ _ _) _ _;dsimp -zeta only;generalize mg3-1=mu;revert mu;refine zqv λmgX=>?_;refine wpS_bind (zfK hs3 λst4 hs4=>?_);refine wpS_bind (zas (gb q2) (wpS_bind ?_));refine zfj C (l:=false) (key:=b[ib3]) (a:=a) (b:=ia3) (n:=a.size-ia3) (h:=0) (by lia) nA hPa (Pb q2) (by rw[hs4.kind];exact hst) (zdQ T nA hPa (Pb q2) sa) λkk cut=>?_;have c1:=cut.le;have m4:=m3.runA kk λx hx=>by
     obtain⟨j,hj,hjk,rfl⟩:=zcF (by lia) hx;have:=cut.below j hjk;rw[zbk hj]at this;simp only[Xu,if_false]at this;exact zfL T pb sb (glb q2) (Pa hj) (show f b[ib3] a[ia3+j]=false by simpa using this)
    have c2:∀(h:ia3+kk<a.size),f b[ib3] a[ia3+kk]=true:=λh=>by
     have:=cut.above kk (Xo _) (by lia);rw[zbk h]at this;simp only[Xu,if_false]at this;simpa using this
    show wpS _ _ _ _ (ite _ _ _) _ _;dsimp -zeta only;have HH:=And.intro m4 (And.intro c1 (And.intro c2 (And.intro q1 q3)));clear c1 c2 m4 cut nA m3 q1 q3;revert HH;revert ia3;revert out3;refine zin (λo i=>Mid (Le f) a.toList b.toList o.toList i ib3/\i+1<a.size/\(∀(h:i<a.size),f b[ib3] a[i]=true)/\y+(ia2+ib2)<=i+ib3) ?_ (λout3 ia3 ⟨m4,c1,c2,q1,q3⟩ hk0 key=>?_) λout3 ia3 ⟨m4,c1,c2,q1,q3⟩ hk0=>?_
    rotate_left
    ·refine zaE (λe1=>?_) (λe1=>?_)
     ·refine wpS_pure ⟨hs4,.inl ⟨_,rfl,?_⟩⟩;rw[Xh,Xh,Xh,zaL,zaL,zhn];exact lst m4 (by simpa using e1)
     refine zaE (λe2=>?_) (λe2=>?_)
     ·have e2:ia3+kk=a.size:=by simpa using e2
      refine wpS_pure ⟨hs4,.inl ⟨_,rfl,?_⟩⟩;rw[Xh,Xh,Xh,zaL,zaL,zhn];exact m4.endA (by lia)
     have e1:¬ ia3+kk+1=a.size:=by simpa using e1
     have e2:¬ ia3+kk=a.size:=by simpa using e2
     rw[<- zhn,<- Xh]at m4;exact key _ _ ⟨m4,by lia,c2,by lia⟩
    ·have hk0:kk=0:=Nat.eq_zero_of_not_pos hk0;subst hk0;rw[Nat.add_zero,List.take_zero,Yd]at m4;exact⟨m4,q1,c2,by lia⟩
    rintro outX iaX ⟨m4,gX,fX,qX⟩;have gX':iaX<a.size:=by lia
    have m5:=stB m4 gX' q2 (fX gX');rw[<- Array.toList_push]at m5;refine wpS_bind (zas (gb q2) ?_);refine zaE (λe3=>?_) (λe3=>?_)
    ·have e3:ib3+1=b.size:=by simpa using e3
     refine wpS_pure ⟨hs4,.inl ⟨_,rfl,?_⟩⟩;rw[Xh,Xh,zaL,zaL];exact m5.endB (by lia)
    have e3:¬ ib3+1=b.size:=by simpa using e3
    have nB:(ib3+1)+(b.size-(ib3+1))<=b.size:=by lia
    refine wpS_bind (zas (ga gX') (wpS_bind ?_));refine zfj C (l:=true) (key:=a[iaX]) (a:=b) (b:=ib3+1) (n:=b.size-(ib3+1)) (h:=0) (by lia) nB hPb (Pa gX') (by rw[hs4.kind];exact hst) (zdQ T nB hPb (Pa gX') sb) λk2 cut2=>?_;have d1:=cut2.le;have m6:=m5.runB k2 λx hx=>by
     obtain⟨j,hj,hjk,rfl⟩:=zcF (by lia) hx;have:=cut2.below j hjk;rw[zbk hj]at this;simp only[if_true]at this;exact zfL T pa sa (gla gX') (Pb hj) (T.asym _ _ (Pb hj) (Pa gX') this)
    have d2:∀(h:ib3+1+k2<b.size),f b[ib3+1+k2] a[iaX]=false:=λh=>by
     have:=cut2.above k2 (Xo _) (by lia);rw[zbk h]at this;simpa only[if_true]using this
    have l3:ib3+1<b.size:=by lia
    have qY:y+1+(ia2+ib2)<=iaX+(ib3+1):=by lia
    clear m5 cut2 e3 nB m4 fX;generalize outX.push b[ib3]=outY at m6;show wpS _ _ _ _ (ite _ _ _) _ _;dsimp -zeta only;generalize ib3+1=ib4 at m6 d1 d2 l3 qY ⊢;have HH:=And.intro m6 (And.intro d1 (And.intro d2 (And.intro l3 qY)));clear m6 d1 d2 l3 qY;revert HH;revert ib4;revert outY;refine zin (γ:=Array Keyed) (δ:=Nat) (λo i=>Mid (Le f) a.toList b.toList o.toList iaX i/\i<b.size/\(∀(h:i<b.size),f b[i] a[iaX]=false)/\y+1+(ia2+ib2)<=iaX+i) ?_ (λoutY ib4 ⟨m6,d1,d2,l3,qY⟩ hk2 key=>?_) λoutY ib4 ⟨m6,d1,d2,l3,qY⟩ hk2=>?_
    rotate_left
    ·refine zaE (λe4=>?_) (λe4=>?_)
     ·have e4:ib4+k2=b.size:=by simpa using e4
      refine wpS_pure ⟨hs4,.inl ⟨_,rfl,?_⟩⟩;rw[Xh,Xh,Xh,zaL,zaL,zhn];exact m6.endB (by lia)
     have e4:¬ ib4+k2=b.size:=by simpa using e4
     rw[<- zhn,<- Xh]at m6;exact key _ _ ⟨m6,by lia,d2,by lia⟩
    ·have hk2:k2=0:=Nat.eq_zero_of_not_pos hk2;subst hk2;rw[Nat.add_zero,List.take_zero,Yd]at m6;exact⟨m6,l3,d2,qY⟩
    rintro outZ ibZ ⟨m6,gY,fY,qY⟩;have m7:=stA m6 gX' gY (fY gY);rw[<- Array.toList_push]at m7;refine wpS_bind (zas (ga gX') ?_);refine zaE (λe5=>?_) (λe5=>?_)
    ·refine wpS_pure ⟨hs4,.inl ⟨_,rfl,?_⟩⟩;rw[Xh,Xh,zaL,zaL];exact lst m7 (by simpa using e5)
    have e5:¬ iaX+1+1=a.size:=by simpa using e5
    split
    ·exact wpS_pure ⟨hs4,.inr ⟨_,_,_,_,_,_,rfl,m7,by lia,gY,by lia⟩⟩
    ·exact wpS_pure ⟨hs4,_,_,_,_,_,_,rfl,m7,by lia,gY,by lia⟩
end
noncomputable def mHi:Array Keyed->Array Keyed->StateT SortSt Sem (Array Keyed):=sortPriv% PySem.Builtin.mergeHi
structure Up {α:Type}(R:α->α->Prop)(a b O:List α)(na nb:Nat):Prop where
 pm:(a.take na++(b.take nb++O)).Perm (a++b)
 sa:(a.take na++O).Pairwise R
 sb:(b.take nb++O).Pairwise R
section
variable {α:Type}{R:α->α->Prop}{a b O:List α}{na nb:Nat}
theorem zqy {l:List α}{i n:Nat}(h:i<=n):l.take n=l.take i++(l.take n).drop i:=by
 have:=(XT i (l.take n)).symm
 rwa [List.take_take,Nat.min_eq_left h]at this
theorem Up.flip (h:Up R a b O na nb):Up R b a O nb na:=by
 refine⟨?_,h.sb,h.sa⟩;refine Yw.trans ?_ (h.pm.trans YG);rw[<- Xw,<- Xw];exact Yw.append_right O YG
theorem Up.runA (h:Up R a b O na nb){i:Nat}(hi:i<=na)(hR:∀z∈b.take nb,∀x∈(a.take na).drop i,R z x):Up R a b ((a.take na).drop i++O) i nb:=by
 have e:=zqy (l:=a) hi;refine⟨?_,?_,?_⟩
 ·refine Yw.trans ?_ h.pm;have e2:a.take na++(b.take nb++O)=a.take i++((a.take na).drop i++(b.take nb++O)):=by
   rw[<- Xw (a.take i),<- e]
  rw[e2];refine Yw.append_left _ ?_;rw[<- Xw,<- Xw];exact Yw.append_right O YG
 ·rw[<- Xw,<- e];exact h.sa
 ·have h1:=h.sa;have h2:=XF.mp h.sb;rw[e,Xw]at h1;have h1:=(XF.mp h1).2.1;rw[XF];refine⟨h2.1,h1,λz hz x hx=>?_⟩;rcases XA.mp hx with hx | hx
  ·exact hR z hz x hx
  ·exact h2.2.2 z hz x hx
theorem Up.runB (h:Up R a b O na nb){i:Nat}(hi:i<=nb)(hR:∀z∈a.take na,∀x∈(b.take nb).drop i,R z x):Up R a b ((b.take nb).drop i++O) na i:=(h.flip.runA hi hR).flip
theorem znv {l:List α}{i:Nat}{x:α}(h:l[i]? = some x):(l.take (i+1)).drop i=[x]:=by
 obtain⟨hi,e⟩:=Xj.mp h;rw[List.drop_take,YC hi,e,Nat.add_sub_cancel_left];rfl
theorem Up.one (h:Up R a b O (na+1) nb){x:α}(hx:a[na]? = some x)(hR:∀z∈b.take nb,R z x):Up R a b (x::O) na nb:=by
 have:=h.runA (i:=na) (by lia) (by rw[znv hx];intro z hz y hy;rw[Xs.mp hy];exact hR z hz)
 rwa [znv hx]at this
theorem Up.oneB (h:Up R a b O na (nb+1)){x:α}(hx:b[nb]? = some x)(hR:∀z∈a.take na,R z x):Up R a b (x::O) na nb:=(h.flip.one hx hR).flip
theorem Up.endA (h:Up R a b O 0 nb):Good R a b (a.take 0++b.take nb++O):=⟨by rw[Xw];exact h.pm,by simpa using h.sb⟩
theorem Up.endB (h:Up R a b O na 0):Good R a b (a.take na++b.take 0++O):=⟨by rw[Xw];exact h.pm,by simpa using h.sa⟩
theorem Up.first (h:Up R a b O na nb)(hR:∀y∈b.take nb,∀z∈a.take na,R y z):Good R a b (b.take nb++a.take na++O):=by
 refine⟨?_,?_⟩
 ·refine Yw.trans ?_ h.pm;rw[<- Xw];exact Yw.append_right O YG
 ·have h1:=XF.mp h.sb;rw[Xw,XF];refine⟨h1.1,h.sa,λy hy z hz=>?_⟩;rcases XA.mp hz with hz | hz
  ·exact hR y hy z hz
  ·exact h1.2.2 y hy z hz
end
theorem zba {α:Type}(a:Array α)(n:Nat):(a.extract 0 n).toList=a.toList.take n:=by
 rw[Array.toList_extract,YB,List.drop_zero,Nat.sub_zero]
theorem zkO {α:Type}(a:Array α)(i n:Nat):(a.extract i n).toList=(a.toList.take n).drop i:=by
 rw[Array.toList_extract,YB,List.drop_take]
section
variable {prog:Program}{w:World}{A:Around}{E:Value->Shared->Prop}{s:Shared}{k:SortKind}{P:Keyed->Prop}{f:Keyed->Keyed->Bool}
theorem zfM {a:Array Keyed}{n:Nat}{x:Keyed}(hx:x∈a.toList.take n):∃j,∃h:j<a.size,j<n/\x=a[j]:=by
 obtain⟨j,hj,e⟩:=List.getElem_of_mem hx;rw[XC,Xp]at hj;exact⟨j,by lia,by lia,by rw[<- e];simp⟩
theorem mem_mid {a:Array Keyed}{i n:Nat}{x:Keyed}(hx:x∈(a.toList.take n).drop i):∃j,∃h:j<a.size,i<=j/\j<n/\x=a[j]:=by
 obtain⟨j,hj,e⟩:=List.getElem_of_mem hx;rw[List.length_drop,XC,Xp]at hj;exact⟨i+j,by lia,by lia,by lia,by rw[<- e];simp⟩
theorem zfN (T:Tot f P){a:Array Keyed}(hP:∀(j:Nat) x,a[j]? = some x->P x)(hs:a.toList.Pairwise (Le f)){n:Nat}(hn:n<a.size){y:Keyed}(hy:P y)(hxy:Le f a[n] y):∀z∈a.toList.take (n+1),Le f z y:=λz hz=>by
 obtain⟨j,hj,hjn,rfl⟩:=zfM hz;rcases Nat.lt_or_eq_of_le (Nat.le_of_lt_succ hjn)with h | rfl
 ·exact T.tr a[j] a[n] y (hP j _ (getElem?_pos a j hj)) (hP n _ (getElem?_pos a n hn)) hy (zho hs h hn) hxy
 ·exact hxy
end
theorem Up.zmz {α:Type}{R:α->α->Prop}{a b O:List α}{na nb:Nat}(h:Up R a b O na nb)(e:na=0):Good R a b (a.take na++b.take nb++O):=by subst e;exact h.endA
theorem Up.zrE {α:Type}{R:α->α->Prop}{a b O:List α}{na nb:Nat}(h:Up R a b O na nb)(e:nb=0):Good R a b (a.take na++b.take nb++O):=by subst e;exact h.endB
section
variable {prog:Program}{w:World}{A:Around}{E:Value->Shared->Prop}{s:Shared}{k:SortKind}{P:Keyed->Prop}{f:Keyed->Keyed->Bool}
theorem zqz (C:Cmp prog w A E s k P f)(T:Tot f P){a b:Array Keyed}{Q:Array Keyed->SortSt->Prop}{st:SortSt}(hst:kindOf st=k)(ha:0<a.size)(hb:0<b.size)(hPa:∀(j:Nat) x,a[j]? = some x->P x)(hPb:∀(j:Nat) x,b[j]? = some x->P x)
  (sa:a.toList.Pairwise (Le f)) (sb:b.toList.Pairwise (Le f)) (h0:f b[0] a[0]=true) (hl:∀y∈b.toList,Le f y (a[a.size-1]'(by lia)))
  (hQ:∀out st',Good (Le f) a.toList b.toList out.toList->Same st st'->Q out st'):wpS (model prog w) A E s (mHi a b) Q st:=by
 have pa:=zeA hPa;have pb:=zeA hPb;have la:a.toList.length=a.size:=Xp;have lb:b.toList.length=b.size:=Xp;have ga:∀ {i:Nat},(hi:i<a.size)->a[i]? = some a[i]:=λ{i} hi=>getElem?_pos a i hi;have gb:∀ {i:Nat},(hi:i<b.size)->b[i]? = some b[i]:=λ{i} hi=>getElem?_pos b i hi;have gla:∀ {i:Nat},(hi:i<a.size)->a.toList[i]? = some a[i]:=λ{i} hi=>by rw[Xn];exact ga hi
 have glb:∀ {i:Nat},(hi:i<b.size)->b.toList[i]? = some b[i]:=λ{i} hi=>by rw[Xn];exact gb hi
 have Pa:∀ {i:Nat},(hi:i<a.size)->P a[i]:=λ{i} hi=>hPa i _ (ga hi);have Pb:∀ {i:Nat},(hi:i<b.size)->P b[i]:=λ{i} hi=>hPb i _ (gb hi);have stA:∀ {O:List Keyed} {n m:Nat},Up (Le f) a.toList b.toList O (n+1) (m+1)->(h1:n<a.size)->(h2:m<b.size)->f b[m] a[n]=true->Up (Le f) a.toList b.toList (a[n]::O) n (m+1):=
  λu h1 h2 hf=>u.one (gla h1) (zfN T hPb sb h2 (Pa h1) (T.asym _ _ (Pb h2) (Pa h1) hf))
 have stB:∀ {O:List Keyed} {n m:Nat},Up (Le f) a.toList b.toList O (n+1) (m+1)->(h1:n<a.size)->(h2:m<b.size)->f b[m] a[n]=false->Up (Le f) a.toList b.toList (b[m]::O) (n+1) m:=
  λu h1 h2 hf=>u.oneB (glb h2) (zfN T hPa sa h1 (Pb h2) hf)
 have fst:∀ {O:List Keyed} {n m:Nat},Up (Le f) a.toList b.toList O n m->m=1->Good (Le f) a.toList b.toList (b.toList.take m++a.toList.take n++O):=λ{O n m} u em=>
  u.first λy hy z hz=>by
   obtain⟨i,hi,hi1,rfl⟩:=zfM hy;obtain⟨j,hj,_,rfl⟩:=zfM hz;have:i=0:=by lia
   subst this;have h1:=T.asym _ _ (Pb hb) (Pa ha) h0;rcases Nat.eq_zero_or_pos j with rfl | hj0
   ·exact h1
   ·exact T.tr _ _ _ (Pb hb) (Pa ha) (Pa hj) h1 (zho sa hj0 hj)
 have start:Up (Le f) a.toList b.toList [a[a.size-1]'(by lia)] (a.size-1) b.size:=by
  have h:Up (Le f) a.toList b.toList [] (a.size-1+1) b.size:=by
   refine⟨?_,?_,?_⟩
   ·rw[XR (by lia),XR (by lia),Yd]
   ·rw[XR (by lia),Yd];exact sa
   ·rw[XR (by lia),Yd];exact sb
  exact h.one (gla (by lia)) λz hz=>hl z (List.mem_of_mem_take hz)
 refine wpS_bind (wpS_lift (wpAny_rule ⟨rfl,?_⟩));refine wpS_bind (zas (ga (show a.size-1<a.size by lia)) ?_);refine zaE (λha1=>?_) (λha1=>?_)
 ·have e:a.size-1=0:=by simpa using ha1
  refine wpS_pure (hQ _ _ ?_ (.refl st));rw[Xh,Xh,zba,zba,Yp];exact start.zmz e
 refine zaE (λhb1=>?_) (λhb1=>?_)
 ·have e:b.size=1:=by simpa using hb1
  refine wpS_pure (hQ _ _ ?_ (.refl st));rw[Xh,Xh,zba,zba,Yp];exact fst start e
 have ha2:1<=a.size-1:=by have:¬ a.size-1=0:=(by simpa using ha1);lia
 have hb2:2<=b.size:=by have:¬ b.size=1:=(by simpa using hb1);lia
 refine wpS_bind (wpS_get ?_);refine wpS_bind (wpS_mono (wpS_forRange
  (I:=λx c st'=>Same st st'/\∃out na nb mg,c=(none,na,nb,out,mg)/\Up (Le f) a.toList b.toList out.toList.reverse na nb/\1<=na/\2<=nb/\na<=a.size/\nb<=b.size/\x+(na+nb)+1<=a.size+b.size)
  (Q:=λc st'=>Same st st'/\∃out,c.1=some out/\Good (Le f) a.toList b.toList out.toList) ?step ?fin ⟨.refl st,_,a.size-1,b.size,_,rfl,by simpa using start,ha2,hb2,by lia,by lia,by lia⟩) ?post)
 case fin=>
  rintro c st' ⟨_,out,na,nb,mg,rfl,_,h1,h2,h3,h4,h5⟩;exfalso
  lia
 case post=>
  rintro⟨c1,c2⟩ st' ⟨hs,out,e,g⟩;simp only at e;subst e;exact wpS_pure (hQ _ _ g hs)
 case step=>
  rintro x c st1 _ hx ⟨hs,out,na,nb,mg,rfl,u,h1,h2,h3,h4,h5⟩;show wpS _ _ _ _ (bind _ _) _ _;dsimp -zeta only;refine wpS_bind (wpS_mono (wpS_forRange
   (I:=λx c st'=>Same st st'/\∃out n2 m2 ac bc,c=(none,n2+1,m2+1,out,ac,bc)/\Up (Le f) a.toList b.toList out.toList.reverse (n2+1) (m2+1)/\1<=m2/\n2<a.size/\m2<b.size/\x+(n2+m2+2)<=na+nb)
   (Q:=λc st'=>Same st st'/\((∃out,c.1=some out/\Good (Le f) a.toList b.toList out.toList)\/∃out n2 m2 ac bc,c=(none,n2+1,m2+1,out,ac,bc)/\Up (Le f) a.toList b.toList out.toList.reverse (n2+1) (m2+1)/\1<=m2/\n2<a.size/\m2<b.size/\1+(n2+m2+2)<=na+nb)) ?step1 ?fin1 ?ini1) ?post1)
  case ini1=>
   obtain⟨n,rfl⟩:∃n,na=n+1:=⟨na-1,by lia⟩;obtain⟨m,rfl⟩:∃m,nb=m+1:=⟨nb-1,by lia⟩;exact⟨hs,out,n,m,0,0,rfl,u,by lia,by lia,by lia,by lia⟩
  case fin1=>
   rintro c st' ⟨_,out,n2,m2,ac,bc,rfl,_,h1,h2,h3,h4⟩;exfalso
   lia
  case step1=>
   rintro y c st2 _ hy ⟨hs2,out2,n2,m2,ac,bc,rfl,u2,g1,g2,g3,g4⟩;dsimp only;refine wpS_bind (zas (gb g3) (wpS_bind (zas (ga g2) (wpS_bind (C.run (Pb g3) (Pa g2) (by rw[hs2.kind];exact hst) ?_)))));simp only[Nat.add_sub_cancel];cases hf:f b[m2] a[n2]with
   | true=>
    have u3:=stA u2 g2 g3 hf;have er:a[n2]::out2.toList.reverse=(out2.push a[n2]).toList.reverse:=by simp
    rw[er]at u3;rw[if_pos rfl];refine wpS_bind (zas (ga g2) ?_);refine zaE (λe1=>?_) (λe1=>?_)
    ·refine wpS_pure ⟨hs2,.inl ⟨_,rfl,?_⟩⟩;rw[Xh,Xh,zba,zba,Yp];exact u3.zmz (by simpa using e1)
    ·have e1:¬ n2=0:=by simpa using e1
     obtain⟨n3,rfl⟩:∃n3,n2=n3+1:=⟨n2-1,by lia⟩;refine zaE (λe2=>?_) (λe2=>?_)
     ·exact wpS_pure ⟨hs2,.inr ⟨_,_,_,_,_,rfl,u3,g1,by lia,g3,by lia⟩⟩
     ·exact wpS_pure ⟨hs2,_,_,_,_,_,rfl,u3,g1,by lia,g3,by lia⟩
   | false=>
    have u3:=stB u2 g2 g3 hf;have er:b[m2]::out2.toList.reverse=(out2.push b[m2]).toList.reverse:=by simp
    rw[er]at u3;rw[if_neg (by decide)];refine wpS_bind (zas (gb g3) ?_);refine zaE (λe1=>?_) (λe1=>?_)
    ·refine wpS_pure ⟨hs2,.inl ⟨_,rfl,?_⟩⟩;rw[Xh,Xh,zba,zba,Yp];exact fst u3 (by simpa using e1)
    ·have e1:¬ m2=1:=by simpa using e1
     obtain⟨m3,rfl⟩:∃m3,m2=m3+1:=⟨m2-1,by lia⟩;refine zaE (λe2=>?_) (λe2=>?_)
     ·exact wpS_pure ⟨hs2,.inr ⟨_,_,_,_,_,rfl,u3,by lia,g2,by lia,by lia⟩⟩
     ·exact wpS_pure ⟨hs2,_,_,_,_,_,rfl,u3,by lia,g2,by lia,by lia⟩
  case post1=>
   rintro c st2 ⟨hs2,hc⟩;rcases hc with ⟨out2,e,g⟩ | ⟨out2,n2,m2,ac,bc,rfl,u2,g1,g2,g3,g4⟩
   ·obtain⟨c1,c2⟩:=c;simp only at e;subst e;exact wpS_pure ⟨hs2,_,rfl,g⟩
   show wpS _ _ _ _ (bind _ _) _ _;dsimp -zeta only;refine wpS_bind (wpS_lift (wpAny_rule ⟨rfl,?_⟩));refine wpS_bind (wpS_mono (wpS_forRange
    (I:=λx c st'=>Same st st'/\∃out n3 m3 mg ac bc,c=(none,n3+1,m3+1,out,mg,ac,bc)/\Up (Le f) a.toList b.toList out.toList.reverse (n3+1) (m3+1)/\1<=m3/\n3<a.size/\m3<b.size/\x+(n3+m3)<=n2+m2)
    (Q:=λc st'=>Same st st'/\((∃out,c.1=some out/\Good (Le f) a.toList b.toList out.toList)\/∃out n3 m3 mg ac bc,c=(none,n3+1,m3+1,out,mg,ac,bc)/\Up (Le f) a.toList b.toList out.toList.reverse (n3+1) (m3+1)/\1<=m3/\n3<a.size/\m3<b.size/\n3+m3<=n2+m2)) ?step2 ?fin2 ⟨hs2,out2,n2,m2,_,ac,bc,rfl,u2,g1,g2,g3,by lia⟩) ?post2)
   case fin2=>
    rintro c st' ⟨_,out,n3,m3,mg,ac,bc,rfl,_,h1,h2,h3,h4⟩;exfalso
    lia
   case post2=>
    rintro c st3 ⟨hs3,hc⟩;rcases hc with ⟨out3,e,g⟩ | ⟨out3,n3,m3,mg3,ac3,bc3,rfl,u3,q1,q2,q3,q4⟩
    ·obtain⟨c1,c2⟩:=c;simp only at e;subst e;exact wpS_pure ⟨hs3,_,rfl,g⟩
    dsimp only;refine wpS_bind (zfK hs3 λst4 hs4=>?_);exact wpS_pure ⟨hs4,_,_,_,_,rfl,u3,by lia,by lia,by lia,by lia,by lia⟩
   case step2=>
    rintro y c st3 _ hy ⟨hs3,out3,n3,m3,mg3,ac3,bc3,rfl,u3,q1,q2,q3,q4⟩;show wpS _ _ _ _ (ite _ _ _) _ _;dsimp -zeta only;generalize mg3-1=mu;revert mu;refine zqv λmgX=>?_;refine wpS_bind (zfK hs3 λst4 hs4=>?_);have hk4:kindOf st4=k:=by rw[hs4.kind];exact hst
    have nA:0+(n3+1)<=a.size:=by lia
    refine wpS_bind (zas (gb q3) (wpS_bind ?_));refine zfj C (l:=false) (key:=b[m3]) (a:=a) (b:=0) (n:=n3+1) (h:=n3+1-1) (by lia) nA hPa (Pb q3) hk4 (zdQ T nA hPa (Pb q3) sa) λi1 cut=>?_;have c1:=cut.le;have c2:∀(j:Nat) (h:j<a.size),i1<=j->j<n3+1->f b[m3] a[j]=true:=λj h h1 h2=>by
     have:=cut.above j h1 h2;rw[zbk (by lia)]at this;simpa using this
    have c3:∀(j:Nat) (h:j<a.size),j<i1->f b[m3] a[j]=false:=λj h h1=>by
     have:=cut.below j h1;rw[zbk (by lia)]at this;simpa using this
    have u4:=u3.runA c1 λz hz x hx=>by
     obtain⟨j,hj,h1,h2,rfl⟩:=mem_mid hx;exact zfN T hPb sb q3 (Pa hj) (T.asym _ _ (Pb q3) (Pa hj) (c2 j hj h1 h2)) z hz
    clear cut c2;show wpS _ _ _ _ (ite _ _ _) _ _;dsimp -zeta only;generalize hn4:n3+1=n4 at u4 c1 q4 nA ⊢;generalize hac:n4-i1=ac4;have q5:y+(n4-1+m3)<=n2+m2:=by lia
    have q6:0<n4:=by lia
    have HH:=And.intro u4 (And.intro c1 (And.intro c3 (And.intro q5 (And.intro q6 (And.intro nA hac)))));clear u4 c1 c3 q5 q6 nA u3 q2 q4 hn4 hac;revert HH;revert n4;revert out3;refine zin (γ:=Array Keyed) (δ:=Nat) (λo n=>Up (Le f) a.toList b.toList o.toList.reverse n (m3+1)/\0<n/\n<=a.size/\(∀(h:n-1<a.size),f b[m3] a[n-1]=false)/\y+(n-1+m3)<=n2+m2) ?_ (λout3 n4 ⟨u4,c1,c3,q5,q6,nA,hac⟩ hk0 key=>?_) λout3 n4 ⟨u4,c1,c3,q5,q6,nA,hac⟩ hk0=>?_
    rotate_left
    ·have er:(a.toList.take n4).drop i1++out3.toList.reverse=(out3++(a.extract i1 n4).reverse).toList.reverse:=by
      rw[Xh,Yp,List.reverse_append,List.reverse_reverse,zkO]
     rw[er]at u4;clear er;refine zaE (λe1=>?_) (λe1=>?_)
     ·refine wpS_pure ⟨hs4,.inl ⟨_,rfl,?_⟩⟩;rw[Xh,Xh,zba,zba,Yp];exact u4.zmz (by simpa using e1)
     have e1:¬ i1=0:=by simpa using e1
     exact key _ _ ⟨u4,by lia,by lia,λh=>c3 _ h (by lia),by lia⟩
    ·have hk0:i1=n4:=by lia
     subst hk0;have en:(a.toList.take i1).drop i1=[]:=Yv (by rw[XC];lia);rw[en,List.nil_append]at u4;exact⟨u4,q6,by lia,λh=>c3 _ h (by lia),q5⟩
    rintro outX n5 ⟨u4,p1,p2,fX',qX⟩;obtain⟨nX,rfl⟩:∃nX,n5=nX+1:=⟨n5-1,by lia⟩;have gX:nX<a.size:=by lia
    have fX:f b[m3] a[nX]=false:=fX' gX;have qX:y+(nX+m3)<=n2+m2:=qX;clear fX' p1 p2;have u5:=stB u4 gX q3 fX;have er:b[m3]::outX.toList.reverse=(outX.push b[m3]).toList.reverse:=by simp
    rw[er]at u5;clear er;refine wpS_bind (zas (gb q3) ?_);simp only[Nat.add_sub_cancel];generalize outX.push b[m3]=outY at u5;refine zaE (λe3=>?_) (λe3=>?_)
    ·refine wpS_pure ⟨hs4,.inl ⟨_,rfl,?_⟩⟩;rw[Xh,Xh,zba,zba,Yp];exact fst u5 (by simpa using e3)
    have e3:¬ m3=1:=by simpa using e3
    have nB:0+m3<=b.size:=by lia
    refine wpS_bind (zas (ga gX) (wpS_bind ?_));refine zfj C (l:=true) (key:=a[nX]) (a:=b) (b:=0) (n:=m3) (h:=m3-1) (by lia) nB hPb (Pa gX) hk4 (zdQ T nB hPb (Pa gX) sb) λi2 cut2=>?_;have d1:=cut2.le;have d2:∀(j:Nat) (h:j<b.size),i2<=j->j<m3->f b[j] a[nX]=false:=λj h h1 h2=>by
     have:=cut2.above j h1 h2;rw[zbk (by lia)]at this;simpa using this
    have d3:∀(j:Nat) (h:j<b.size),j<i2->f b[j] a[nX]=true:=λj h h1=>by
     have:=cut2.below j h1;rw[zbk (by lia)]at this;simpa using this
    have u6:=u5.runB d1 λz hz x hx=>by
     obtain⟨j,hj,h1,h2,rfl⟩:=mem_mid hx;exact zfN T hPa sa gX (Pb hj) (d2 j hj h1 h2) z hz
    clear cut2 d2 u5 u4;show wpS _ _ _ _ (ite _ _ _) _ _;have q7:y+1+(nX+(m3-1))<=n2+m2:=by lia
    have q8:2<=m3:=by lia
    clear fX e3 qX;generalize m3=m4 at u6 d1 q7 q8 nB ⊢;generalize hbc:m4-i2=bc4;have HH:=And.intro u6 (And.intro d1 (And.intro q7 (And.intro q8 (And.intro nB hbc))));clear u6 d1 q7 q8 nB hbc;revert HH;revert m4;revert outY;refine zin (γ:=Array Keyed) (δ:=Nat) (λo m=>Up (Le f) a.toList b.toList o.toList.reverse (nX+1) m/\2<=m/\m<=b.size/\(∀(h:m-1<b.size),f b[m-1] a[nX]=true)/\y+1+(nX+(m-1))<=n2+m2) ?_ (λoutY m4 ⟨u6,d1,q7,q8,nB,hbc⟩ hk2 key=>?_) λoutY m4 ⟨u6,d1,q7,q8,nB,hbc⟩ hk2=>?_
    rotate_left
    ·have er:(b.toList.take m4).drop i2++outY.toList.reverse=(outY++(b.extract i2 m4).reverse).toList.reverse:=by
      rw[Xh,Yp,List.reverse_append,List.reverse_reverse,zkO]
     rw[er]at u6;clear er;refine zaE (λe4=>?_) (λe4=>?_)
     ·refine wpS_pure ⟨hs4,.inl ⟨_,rfl,?_⟩⟩;rw[Xh,Xh,zba,zba,Yp];exact fst u6 (by simpa using e4)
     have e4:¬ i2=1:=by simpa using e4
     refine zaE (λe5=>?_) (λe5=>?_)
     ·refine wpS_pure ⟨hs4,.inl ⟨_,rfl,?_⟩⟩;rw[Xh,Xh,zba,zba,Yp];exact u6.zrE (by simpa using e5)
     have e5:¬ i2=0:=by simpa using e5
     exact key _ _ ⟨u6,by lia,by lia,λh=>d3 _ h (by lia),by lia⟩
    ·have hk2:i2=m4:=by lia
     subst hk2;have en:(b.toList.take i2).drop i2=[]:=Yv (by rw[XC];lia);rw[en,List.nil_append]at u6;exact⟨u6,q8,by lia,λh=>d3 _ h (by lia),q7⟩
    rintro outZ m5 ⟨u6,p1,p2,fZ',qZ⟩;obtain⟨mZ,rfl⟩:∃mZ,m5=mZ+1:=⟨m5-1,by lia⟩;have gZ:mZ<b.size:=by lia
    have fZ:f b[mZ] a[nX]=true:=fZ' gZ;have g1Z:1<=mZ:=by lia
    have qZ:y+1+(nX+mZ)<=n2+m2:=qZ;have u7:=stA u6 gX gZ fZ;have er:a[nX]::outZ.toList.reverse=(outZ.push a[nX]).toList.reverse:=by simp
    rw[er]at u7;clear er;refine wpS_bind (zas (ga gX) ?_);refine zaE (λe6=>?_) (λe6=>?_)
    ·refine wpS_pure ⟨hs4,.inl ⟨_,rfl,?_⟩⟩;rw[Xh,Xh,zba,zba,Yp];exact u7.zmz (by simpa using e6)
    have e6:¬ nX=0:=by simpa using e6
    obtain⟨nW,rfl⟩:∃nW,nX=nW+1:=⟨nX-1,by lia⟩;split
    ·exact wpS_pure ⟨hs4,.inr ⟨_,_,_,_,_,_,rfl,u7,g1Z,by lia,gZ,by lia⟩⟩
    ·exact wpS_pure ⟨hs4,_,_,_,_,_,_,rfl,u7,g1Z,by lia,gZ,by lia⟩
end
noncomputable def mAt:Nat->StateT SortSt Sem Bool:=sortPriv% PySem.Builtin.mergeAt
theorem zio {α:Type}:∀(m:List α)(a:Array α)(s n:Nat),s+n+m.length<=a.size->((m.zipIdx n).foldl (λa (p:α×Nat)=>a.setIfInBounds (s+p.2) p.1) a).toList=a.toList.take (s+n)++m++a.toList.drop (s+n+m.length)
 | [],a,s,n,h=>by simp
 | x::m,a,s,n,h=>by
  rw[List.zipIdx_cons,List.foldl_cons,zio m _ s (n+1) (by simp at h ⊢;lia)];simp only[Array.toList_setIfInBounds,Yh]at h ⊢;have hs:s+n<a.toList.length:=by simp;lia
  rw[List.take_set,List.drop_set_of_lt (by lia)];have e1:(a.toList.take (s+(n+1))).set (s+n) x=a.toList.take (s+n)++[x]:=by
   rw[show s+(n+1)=s+n+1 by lia,List.take_add_one,Xb hs];rw[List.set_append_right _ _ (by rw[XC];lia)];rw[XC,Nat.min_eq_left (Nat.le_of_lt hs),Nat.sub_self];rfl
  rw[e1,show s+(n+1)+m.length=s+n+(m.length+1) by lia];simp
theorem joined {f:Keyed->Keyed->Bool}{P:Keyed->Prop}(T:Tot f P){A0 A1 B0 B1 m:List Keyed}(hP:∀x∈A0++A1++(B0++B1),P x)(sa:(A0++A1).Pairwise (Le f))(sb:(B0++B1).Pairwise (Le f))(g:Good (Le f) A1 B0 m)
  (h1:∀x∈A0,∀y∈B0++B1,Le f x y) (h2:∀x∈A1,∀y∈B1,Le f x y):(A0++m++B1).Pairwise (Le f)/\(A0++m++B1).Perm (A0++A1++(B0++B1)):=by
 have a:=XF.mp sa;have b:=XF.mp sb;refine⟨?_,?_⟩
 ·rw[Xw,XF,XF];refine⟨a.1,⟨g.so,b.2.1,λx hx y hy=>?_⟩,λx hx y hy=>?_⟩
  ·rcases XA.mp (g.pm.mem_iff.mp hx)with h | h
   ·exact h2 x h y hy
   ·exact b.2.2 x h y hy
  ·rcases XA.mp hy with hy | hy
   ·rcases XA.mp (g.pm.mem_iff.mp hy)with h | h
    ·exact a.2.2 x hx y h
    ·exact h1 x hx y (XA.mpr (.inl h))
   ·exact h1 x hx y (XA.mpr (.inr hy))
 ·rw[Xw,Xw];refine Yw.append_left _ ?_;rw[<- Xw];exact Yw.append_right _ g.pm
section
variable {prog:Program}{w:World}{A:Around}{E:Value->Shared->Prop}{s:Shared}{k:SortKind}{P:Keyed->Prop}{f:Keyed->Keyed->Bool}
theorem zqA {x:SortSt}{Q:PUnit->SortSt->Prop}{st:SortSt}(h:Q ⟨⟩ x):wpS (model prog w) A E s (set x:StateT SortSt Sem PUnit) Q st:=by
 unfold wpS;rw[StateT.run_set];exact wpAny_pure ⟨rfl,h⟩
noncomputable def Run (f:Keyed->Keyed->Bool)(a:Array Keyed)(lo hi:Nat):Prop:=∀(i j:Nat)(hj:j<a.size)(hij:i<j),lo<=i->j<hi->Le f (a[i]'(by lia)) a[j]
theorem ziq (T:Tot f P){l:Bool}{key:Keyed}{a:Array Keyed}{b n:Nat}(hn:b+n<=a.size)(hP:∀(j:Nat) x,a[j]? = some x->P x)(hk:P key)(hs:Run f a b (b+n)):∀i j,i<=j->j<n->beyB f l key a b j=true->beyB f l key a b i=true:=by
 intro i j hij hj h;rcases Nat.lt_or_eq_of_le hij with hlt | rfl
 ·have hi':b+i<a.size:=by lia
  have hj':b+j<a.size:=by lia
  have pi:P a[b+i]:=hP _ _ (getElem?_pos a _ hi');have pj:P a[b+j]:=hP _ _ (getElem?_pos a _ hj');have hle:Le f a[b+i] a[b+j]:=hs _ _ hj' (by lia) (by lia) (by lia);rw[zbk hj']at h;rw[zbk hi'];cases l with
  | true=>
   simp only[if_true]at h ⊢;cases hc:f a[b+i] key with
   | true=>rfl
   | false=>rw[T.tr key a[b+i] a[b+j] hk pi pj hc hle]at h;cases h
  | false=>
   simp only[Xu,if_false]at h ⊢;have h:f key a[b+j]=false:=by simpa using h
   rw[T.tr a[b+i] a[b+j] key pi pj hk hle h];rfl
 ·exact h
theorem zkP {a:Array Keyed}{lo n:Nat}(hs:Run f a lo (lo+n))(hn:lo+n<=a.size):((a.toList.drop lo).take n).Pairwise (Le f):=by
 rw[List.pairwise_iff_getElem];intro i j hi hj hij;rw[XC,List.length_drop,Xp]at hi hj;have:=hs (lo+i) (lo+j) (by lia) (by lia) (by lia) (by lia);simpa using this
theorem zcp (T:Tot f P){x:Keyed}(hx:P x):Le f x x:=by
 cases h:f x x with
 | false=>exact h
 | true=>have:=T.asym x x hx hx h;rw[h]at this;cases this
theorem zqB (C:Cmp prog w A E s k P f)(T:Tot f P){i sa na pw nb pw2:Nat}{Q:Bool->SortSt->Prop}{st:SortSt}(hst:kindOf st=k)(hfl:failedOf st=none)(h1:(pendingOf st)[i]? = some (sa,na,pw))(h2:(pendingOf st)[i+1]? = some (sa+na,nb,pw2))(hna:0<na)(hnb:0<nb)
  (hsz:sa+na+nb<=(arrOf st).size) (hP:∀(j:Nat) x,(arrOf st)[j]? = some x->P x) (r1:Run f (arrOf st) sa (sa+na)) (r2:Run f (arrOf st) (sa+na) (sa+na+nb))
  (hQ:∀st' S,kindOf st'=k->failedOf st'=none->pendingOf st'=((pendingOf st).setIfInBounds i (sa,na+nb,pw)).eraseIdxIfInBounds (i+1)->S.Pairwise (Le f)->S.Perm (((arrOf st).toList.drop sa).take (na+nb))->
   (arrOf st').toList=(arrOf st).toList.take sa++S++(arrOf st).toList.drop (sa+na+nb)->Q true st'):wpS (model prog w) A E s (mAt i) Q st:=by
 refine wpS_bind (wpS_get ?_);rw[h1,h2];refine wpS_bind (zqA ?_);dsimp only[arrOf]at hsz hP r1 r2 hQ;generalize harr:(sortPriv% PySem.Builtin.SortState.a) st=a at *;have hl:a.toList.length=a.size:=Xp;have ga:∀ {i:Nat},(hi:i<a.size)->a[i]? = some a[i]:=λ{i} hi=>getElem?_pos a i hi;have Pa:∀ {i:Nat},(hi:i<a.size)->P a[i]:=λ{i} hi=>hP i _ (ga hi);have pl:=zeA hP;have hb0:sa+na<a.size:=by lia
 refine wpS_bind (zas (ga hb0) (wpS_bind ?_));refine zfj C (l:=false) (key:=a[sa+na]) (a:=a) (b:=sa) (n:=na) (h:=0) (by lia) (by lia) hP (Pa hb0) hst (ziq T (by lia) hP (Pa hb0) r1) λk1 cut=>?_;have c1:=cut.le;have c2:∀(j:Nat) (h:sa+j<a.size),j<k1->Le f a[sa+j] a[sa+na]:=λj h hj=>by
  have:=cut.below j hj;rw[zbk h]at this;simpa using this
 have c3:k1<na->f a[sa+na] (a[sa+k1]'(by lia))=true:=λhj=>by
  have:=cut.above k1 (Xo _) hj;rw[zbk (by lia)]at this;simpa using this
 have eA:(a.toList.drop sa).take na=(a.toList.drop sa).take k1++(a.toList.drop (sa+k1)).take (na-k1):=by
  have:=List.take_add (l:=a.toList.drop sa) (i:=k1) (j:=na-k1);rw[List.drop_drop]at this;rw[<- this];congr 1;lia
 have eS:(a.toList.drop sa).take (na+nb)=(a.toList.drop sa).take na++(a.toList.drop (sa+na)).take nb:=by
  rw[List.take_add,List.drop_drop]
 have eT:a.toList.take (sa+k1)=a.toList.take sa++(a.toList.drop sa).take k1:=List.take_add;have pA:=zkP r1 (by lia);have pB:=zkP r2 (by lia);have leB:∀x,P x->Le f x a[sa+na]->∀y∈(a.toList.drop (sa+na)).take nb,Le f x y:=λx px hx y hy=>by
  obtain⟨j,hj,hjn,rfl⟩:=zcF (by lia) hy;rcases Nat.eq_zero_or_pos j with rfl | h0
  ·exact hx
  ·exact T.tr _ _ _ px (Pa hb0) (Pa hj) hx (r2 _ _ hj (by lia) (by lia) (by lia))
 have hA0:∀x∈(a.toList.drop sa).take k1,∀y∈(a.toList.drop (sa+na)).take nb,Le f x y:=λx hx=>by
  obtain⟨j,hj,hjk,rfl⟩:=zcF (by lia) hx;exact leB _ (Pa hj) (c2 j hj hjk)
 dsimp only;refine zaE (λe1=>?_) (λe1=>?_)
 ·have e1:na-k1=0:=by simpa using e1
  have ek:k1=na:=by lia
  subst ek;refine wpS_pure (hQ _ ((a.toList.drop sa).take (k1+nb)) hst hfl rfl ?_ (.refl _) ?_)
  ·rw[eS,XF];exact⟨pA,pB,hA0⟩
  ·show a.toList=_;rw[Nat.add_assoc,<- List.drop_drop,Xw,XT,XT]
 have e1:¬ na-k1=0:=by simpa using e1
 have elast:sa+k1+(na-k1)-1=sa+na-1:=by rw[Nat.add_assoc,Nat.add_sub_cancel' (show k1<=na by lia)]
 rw[elast];have hla:sa+na-1<a.size:=by lia
 refine wpS_bind (zas (ga hla) (wpS_bind ?_));refine zfj C (l:=true) (key:=a[sa+na-1]) (a:=a) (b:=sa+na) (n:=nb) (h:=nb-1) (by lia) (by lia) hP (Pa hla) hst (ziq T (by lia) hP (Pa hla) r2) λk2 cut2=>?_;have d1:=cut2.le;have d2:∀(j:Nat) (h:sa+na+j<a.size),j<k2->f a[sa+na+j] a[sa+na-1]=true:=λj h hj=>by
  have:=cut2.below j hj;rw[zbk h]at this;simpa using this
 have d3:∀(j:Nat) (h:sa+na+j<a.size),k2<=j->j<nb->Le f a[sa+na-1] a[sa+na+j]:=λj h h1 h2=>by
  have:=cut2.above j h1 h2;rw[zbk h]at this;simpa using this
 have leL:∀x∈(a.toList.drop sa).take na,Le f x a[sa+na-1]:=λx hx=>by
  obtain⟨j,hj,hjn,rfl⟩:=zcF (by lia) hx;by_cases e:j=na-1
  ·have:sa+j=sa+na-1:=by lia
   simp only[this];exact zcp T (Pa hla)
  ·exact r1 _ _ hla (by lia) (by lia) (by lia)
 have eB:(a.toList.drop (sa+na)).take nb=(a.toList.drop (sa+na)).take k2++(a.toList.drop (sa+na+k2)).take (nb-k2):=by
  have:=List.take_add (l:=a.toList.drop (sa+na)) (i:=k2) (j:=nb-k2);rw[List.drop_drop]at this;rw[<- this];congr 1;lia
 have hB1:∀x∈(a.toList.drop sa).take na,∀y∈(a.toList.drop (sa+na+k2)).take (nb-k2),Le f x y:=λx hx y hy=>by
  obtain⟨j,hj,hjn,rfl⟩:=zcF (by lia) hy;have px:P x:=pl x (List.mem_of_mem_drop (List.mem_of_mem_take hx));have q:=d3 (k2+j) (by lia) (by lia) (by lia);simp only[<- Nat.add_assoc]at q;exact T.tr _ _ _ px (Pa hla) (Pa hj) (leL x hx) q
 dsimp only;refine zaE (λe2=>?_) (λe2=>?_)
 ·have e2:k2=0:=by simpa using e2
  subst e2;refine wpS_pure (hQ _ ((a.toList.drop sa).take (na+nb)) hst hfl rfl ?_ (.refl _) ?_)
  ·rw[eS,XF];exact⟨pA,pB,hB1⟩
  ·show a.toList=_;rw[Nat.add_assoc,<- List.drop_drop,Xw,XT,XT]
 have e2:¬ k2=0:=by simpa using e2
 have hX:(a.extract (sa+k1) (sa+na)).toList=(a.toList.drop (sa+k1)).take (na-k1):=by
  have:=zhn a (sa+k1) (na-k1)
  rwa [show sa+k1+(na-k1)=sa+na by lia]at this
 have hY:(a.extract (sa+na) (sa+na+k2)).toList=(a.toList.drop (sa+na)).take k2:=zhn a (sa+na) k2;have sX:(a.extract (sa+k1) (sa+na)).size=na-k1:=by rw[Array.size_extract,Nat.min_eq_left (show sa+na<=a.size by lia),Nat.add_sub_add_left]
 have sY:(a.extract (sa+na) (sa+na+k2)).size=k2:=by rw[Array.size_extract,Nat.min_eq_left (show sa+na+k2<=a.size by lia),Nat.add_sub_cancel_left]
 have PX:∀(j:Nat) x,(a.extract (sa+k1) (sa+na))[j]? = some x->P x:=λj x h=>by
  rw[<- Xn,hX]at h;exact pl x (List.mem_of_mem_drop (List.mem_of_mem_take (Xl h)))
 have PY:∀(j:Nat) x,(a.extract (sa+na) (sa+na+k2))[j]? = some x->P x:=λj x h=>by
  rw[<- Xn,hY]at h;exact pl x (List.mem_of_mem_drop (List.mem_of_mem_take (Xl h)))
 have pA':=pA;rw[eA]at pA';have pB':=pB;rw[eB]at pB';have soX:(a.extract (sa+k1) (sa+na)).toList.Pairwise (Le f):=by rw[hX];exact(XF.mp pA').2.1
 have soY:(a.extract (sa+na) (sa+na+k2)).toList.Pairwise (Le f):=by rw[hY];exact(XF.mp pB').1
 have f0:f ((a.extract (sa+na) (sa+na+k2))[0]'(by lia)) ((a.extract (sa+k1) (sa+na))[0]'(by lia))=true:=by
  have:=c3 (by lia);simpa using this
 have fl:∀y∈(a.extract (sa+na) (sa+na+k2)).toList,Le f y ((a.extract (sa+k1) (sa+na))[(a.extract (sa+k1) (sa+na)).size-1]'(by lia)):=λy hy=>by
  rw[hY]at hy;obtain⟨j,hj,hjn,rfl⟩:=zcF (by lia) hy;have e:sa+k1+((a.extract (sa+k1) (sa+na)).size-1)=sa+na-1:=by rw[sX];lia
  rw[Array.getElem_extract];simp only[e];exact T.asym _ _ (Pa hj) (Pa hla) (d2 j hj hjn)
 by_cases e3:na-k1<=k2;rw[if_pos e3];refine wpS_bind (zqx C T hst (by lia) (by lia) PX PY soX soY f0 fl λm st2 g sm=>?_)
 rotate_left
 rw[if_neg e3];refine wpS_bind (zqz C T hst (by lia) (by lia) PX PY soX soY f0 fl λm st2 g sm=>?_)
 all_goals
  rw[hX,hY]at g;have lm:m.toList.length=(na-k1)+k2:=by
   rw[g.pm.length_eq,XH,<- hX,<- hY,Xp,Xp,sX,sY]
  obtain⟨j1,j2⟩:=joined T (A0:=(a.toList.drop sa).take k1) (B1:=(a.toList.drop (sa+na+k2)).take (nb-k2)) (P:=P) (λx hx=>by
   rcases XA.mp hx with hx | hx<;>rcases XA.mp hx with hx | hx<;>exact pl x (List.mem_of_mem_drop (List.mem_of_mem_take hx))) pA' pB' g
   (λx hx y hy=>hA0 x hx y (by rw[eB];exact hy)) (λx hx y hy=>hB1 x (by rw[eA];exact XA.mpr (.inr hx)) y hy)
  have e4:failedOf st2=none:=by rw[sm.failed];exact hfl
  have e5:arrOf st2=a:=sm.arr;refine wpS_bind (wpS_modify (wpS_bind (wpS_get (wpS_pure ?_))));have e6:(failedOf st2).isNone=true:=by rw[e4];rfl
  show Q (failedOf st2).isNone _;rw[e6];refine hQ _ _ (by show kindOf st2=k;rw[sm.kind];exact hst) e4 (by show pendingOf st2=_;exact sm.pend) j1 (j2.trans (by rw[eS,eA,eB])) ?_;show(m.toList.zipIdx.foldl (λa (p:Keyed×Nat)=>a.setIfInBounds (sa+k1+p.2) p.1) (arrOf st2)).toList=_;rw[e5];have:=zio m.toList a (sa+k1) 0 (by rw[lm];lia);rw[this,Nat.add_zero,lm,eT];have e7:a.toList.drop (sa+k1+(na-k1+k2))=(a.toList.drop (sa+na+k2)).take (nb-k2)++a.toList.drop (sa+na+nb):=by
   have:=(XT (nb-k2) (a.toList.drop (sa+na+k2))).symm;rw[List.drop_drop,show sa+na+k2+(nb-k2)=sa+na+nb by lia]at this;rw[show sa+k1+(na-k1+k2)=sa+na+k2 by lia];exact this
  rw[e7];simp only[Xw]
end
noncomputable def bin:Nat->Nat->Nat->StateT SortSt Sem Bool:=sortPriv% PySem.Builtin.binarySort
noncomputable def cnt:Nat->Nat->StateT SortSt Sem (Option Nat):=sortPriv% PySem.Builtin.countRun
section
variable {prog:Program}{w:World}{A:Around}{E:Value->Shared->Prop}{s:Shared}{k:SortKind}{P:Keyed->Prop}{f:Keyed->Keyed->Bool}
structure Moved (a a':Array Keyed)(lo hi:Nat):Prop where
 pm:a'.Perm a
 out:∀j:Nat,j<lo\/hi<=j->a'[j]? = a[j]?
theorem Moved.refl (a:Array Keyed)(lo hi:Nat):Moved a a lo hi:=⟨.refl _,λ_ _=>rfl⟩
theorem Moved.trans {a b c:Array Keyed}{lo hi:Nat}(h:Moved a b lo hi)(g:Moved b c lo hi):Moved a c lo hi:=⟨g.pm.trans h.pm,λj hj=>(g.out j hj).trans (h.out j hj)⟩
theorem Moved.size {a a':Array Keyed}{lo hi:Nat}(h:Moved a a' lo hi):a'.size=a.size:=h.pm.size_eq
theorem Moved.all {a a':Array Keyed}{lo hi:Nat}(h:Moved a a' lo hi)(hP:∀(j:Nat) x,a[j]? = some x->P x):∀(j:Nat) x,a'[j]? = some x->P x:=λj x e=>by
 have h1:x∈a'.toList:=Xl (by rw[Xn];exact e);exact zeA hP x ((Array.perm_iff_toList_perm.mp h.pm).mem_iff.mp h1)
theorem zdp (C:Cmp prog w A E s k P f){st:SortSt}{a:Array Keyed}{i j:Nat}{Q:Option Bool->SortSt->Prop}(hst:kindOf st=k)(ha:arrOf st=a)(hP:∀(j:Nat) x,a[j]? = some x->P x)(hi:i<a.size)(hj:j<a.size)
  (h:Q (some (f a[i] a[j])) st):wpS (model prog w) A E s (ltAt' i j) Q st:=by
 subst ha;have gi:=getElem?_pos (arrOf st) i hi;have gj:=getElem?_pos (arrOf st) j hj;rw[ltAt'_eq];refine wpS_bind (wpS_get ?_);exact wpS_bind (zas gi (wpS_bind (zas gj (C.run (hP _ _ gi) (hP _ _ gj) hst h))))
theorem zqC (C:Cmp prog w A E s k P f)(T:Tot f P){lo n ok:Nat}{Q:Bool->SortSt->Prop}{st:SortSt}(hst:kindOf st=k)(hn:lo+n<=(arrOf st).size)(hok:ok<=n)(hP:∀(j:Nat) x,(arrOf st)[j]? = some x->P x)(hr:Run f (arrOf st) lo (lo+ok))
  (hQ:∀a',Moved (arrOf st) a' lo (lo+n)->Run f a' lo (lo+n)->Q true (setArr st a')):wpS (model prog w) A E s (bin lo n ok) Q st:=by
 refine wpS_bind (wpS_mono (wpS_forRange (I:=λx c st'=>c=(none,())/\∃a',st'=setArr st a'/\Moved (arrOf st) a' lo (lo+n)/\Run f a' lo (lo+min x n))
  (Q:=λc st'=>c=(none,())/\∃a',st'=setArr st a'/\Moved (arrOf st) a' lo (lo+n)/\Run f a' lo (lo+n)) ?step ?fin ⟨rfl,arrOf st,rfl,.refl _ _ _,?ini⟩) ?post)
 case ini=>
  intro i j hj hij h1 h2;by_cases h0:ok=0
  ·lia
  ·exact hr i j hj hij h1 (by lia)
 case fin=>
  rintro c st' ⟨hc,a',e,m,r⟩;exact⟨hc,a',e,m,by rwa [show min (max (max ok 1) n) n=n by lia]at r⟩
 case post=>
  rintro c st' ⟨rfl,a',rfl,m,r⟩;exact wpS_pure (hQ a' m r)
 case step=>
  rintro x c st' hx1 hx2 ⟨rfl,a',rfl,m,r⟩;rw[show min x n=x by lia]at r;have hs:=m.size;have hx:lo+x<a'.size:=by lia
  have hP':=m.all hP;have Pa:∀ {i:Nat},(hi:i<a'.size)->P a'[i]:=λ{i} hi=>hP' i _ (getElem?_pos a' i hi);refine wpS_bind (wpS_mono (wpS_forRange (I:=λy c st2=>st2=setArr st a'/\∃l r,c=(none,l,r)/\l<=r/\r<=x/\r-l<=x-y/\(∀(i:Nat) (h:lo+i<a'.size),i<l->Le f a'[lo+i] a'[lo+x])/\(∀(i:Nat) (h:lo+i<a'.size),r<=i->i<x->f a'[lo+x] a'[lo+i]=true))
   (Q:=λc st2=>st2=setArr st a'/\∃l r,c=(none,l,r)/\l<=x/\(∀(i:Nat) (h:lo+i<a'.size),i<l->Le f a'[lo+i] a'[lo+x])/\(∀(i:Nat) (h:lo+i<a'.size),l<=i->i<x->f a'[lo+x] a'[lo+i]=true)) ?istep ?ifin ⟨rfl,0,x,rfl,by lia,by lia,by lia,λi _ h=>by lia,λi _ h1 h2=>by lia⟩) ?ipost)
  case ifin=>
   rintro c st2 ⟨rfl,l,r,rfl,g1,g2,g3,g4,g5⟩;have:l=r:=by lia
   subst this;exact⟨rfl,l,l,rfl,g2,g4,g5⟩
  case istep=>
   rintro y c st2 _ hy ⟨rfl,l,r2,rfl,g1,g2,g3,g4,g5⟩;dsimp only;refine zaE (λhge=>?_) (λhge=>?_)
   ·have:l=r2:=by lia
    subst this;exact wpS_pure ⟨rfl,l,l,rfl,g2,g4,g5⟩
   ·obtain⟨m1,m2⟩:=zoC hge;generalize (l+r2) / 2=md at m1 m2 ⊢;have hmid:lo+md<a'.size:=by lia
    refine wpS_bind (zdp C (st:=setArr st a') (a:=a') hst rfl hP' hx hmid ?_);cases hv:f a'[lo+x] a'[lo+md]with
    | true=>
     dsimp only;rw[if_pos rfl];refine wpS_pure ⟨rfl,l,_,rfl,by lia,by lia,by lia,g4,λi h h1 h2=>?_⟩;rcases Nat.lt_or_eq_of_le h1 with h3 | h3
     ·cases hw:f a'[lo+x] a'[lo+i]with
      | true=>rfl
      | false=>
       have:=T.tr _ _ _ (Pa hmid) (Pa h) (Pa hx) (r _ _ h (by lia) (by lia) (by lia)) hw;rw[hv]at this;cases this
     ·simp only[<- h3];exact hv
    | false=>
     dsimp only;rw[if_neg (by decide)];refine wpS_pure ⟨rfl,_,r2,rfl,by lia,by lia,by lia,λi h h1=>?_,g5⟩;rcases Nat.lt_or_eq_of_le (Nat.le_of_lt_succ h1)with h3 | h3
     ·exact T.tr _ _ _ (Pa h) (Pa hmid) (Pa hx) (r _ _ hmid (by lia) (by lia) (by lia)) hv
     ·simp only[h3];exact hv
  case ipost=>
   rintro c st2 ⟨rfl,l,r2,rfl,g1,g4,g5⟩;dsimp only;have hd:lo+x-(lo+l)=x-l:=by lia
   have gt:∀(i:Nat) (h:i<(bubble a' (lo+x) (lo+x-(lo+l))).size),∃i',∃h':i'<a'.size,(bubble a' (lo+x) (lo+x-(lo+l)))[i]=a'[i']/\((i=lo+l/\i'=lo+x)\/(lo+l<i/\i<=lo+x/\i'=i-1)\/((i<lo+l\/lo+x<i)/\i'=i)):=λi h=>by
    have e:=getElem?_bubble hx (lo+x-(lo+l)) (by lia) i;rw[bubble_size]at h;rw[getElem?_pos _ i (by rw[bubble_size];exact h),show lo+x-(lo+x-(lo+l))=lo+l by lia]at e;by_cases h1:i=lo+l
    ·rw[if_pos h1,getElem?_pos a' _ hx]at e;exact⟨lo+x,hx,Option.some.inj e,.inl ⟨h1,rfl⟩⟩
    ·rw[if_neg h1]at e;by_cases h2:lo+l<i/\i<=lo+x
     ·rw[if_pos h2,getElem?_pos a' (i-1) (by lia)]at e;exact⟨i-1,by lia,Option.some.inj e,.inr (.inl ⟨h2.1,h2.2,rfl⟩)⟩
     ·rw[if_neg h2,getElem?_pos a' i h]at e;exact⟨i,h,Option.some.inj e,.inr (.inr ⟨by lia,rfl⟩)⟩
   refine wpS_bind (wpS_modify (wpS_pure ⟨rfl,bubble a' (lo+x) (lo+x-(lo+l)),rfl,m.trans ⟨bubble_perm _ _ _,λj hj=>?_⟩,?_⟩))
   ·rw[getElem?_bubble hx _ (by lia),if_neg (by lia),if_neg (by lia)]
   ·rw[show min (x+1) n=x+1 by lia];intro i j hj hij h1 h2;obtain⟨i',hi',ei,ci⟩:=gt i (by lia);obtain⟨j',hj',ej,cj⟩:=gt j hj;rw[ei,ej];rcases ci with ⟨c1,rfl⟩ | ⟨c1,c2,rfl⟩ | ⟨c1,rfl⟩<;>rcases cj with ⟨d1,rfl⟩ | ⟨d1,d2,rfl⟩ | ⟨d1,rfl⟩
    ·lia
    ·have q:=g5 (j-1-lo) (by lia) (by lia) (by lia);simp only[show lo+(j-1-lo)=j-1 by lia]at q;exact T.asym _ _ (Pa hx) (Pa hj') q
    ·lia
    ·lia
    ·exact r _ _ hj' (by lia) (by lia) (by lia)
    ·lia
    ·have q:=g4 (i'-lo) (by lia) (by lia);simp only[show lo+(i'-lo)=i' by lia]at q;exact q
    ·exact r _ _ hj' (by lia) (by lia) (by lia)
    ·exact r _ _ hj' (by lia) (by lia) (by lia)
end
section
variable {prog:Program}{w:World}{A:Around}{E:Value->Shared->Prop}{s:Shared}{k:SortKind}{P:Keyed->Prop}{f:Keyed->Keyed->Bool}
noncomputable def Dec (f:Keyed->Keyed->Bool)(a:Array Keyed)(lo hi:Nat):Prop:=∀(i j:Nat)(hj:j<a.size)(hij:i<j),lo<=i->j<hi->Le f a[j] (a[i]'(by lia))
noncomputable def Alike (f:Keyed->Keyed->Bool)(a:Array Keyed)(p q:Nat):Prop:=∀(i j:Nat)(hi:i<a.size)(hj:j<a.size),p<=i->i<q->p<=j->j<q->Le f a[i] a[j]
noncomputable abbrev rev (a:Array Keyed)(i j:Nat):Array Keyed:=mirror a i j ((j-i) / 2)
theorem zir {a:Array Keyed}{p q:Nat}(hq:q<=a.size)(i:Nat)(h:i<(rev a p q).size):∃i',∃h':i'<a.size,(rev a p q)[i]=a[i']/\((p<=i/\i<q/\i'=p+q-1-i)\/((i<p\/q<=i)/\i'=i)):=by
 have e:=getElem?_mirror_all (i:=p) hq i;rw[getElem?_pos _ i h]at e;rw[mirror_size]at h;by_cases h1:p<=i/\i<q
 ·rw[if_pos h1,getElem?_pos a _ (show p+q-1-i<a.size by lia)]at e;exact⟨_,by lia,Option.some.inj e,.inl ⟨h1.1,h1.2,rfl⟩⟩
 ·rw[if_neg h1,getElem?_pos a i h]at e;exact⟨i,h,Option.some.inj e,.inr ⟨by lia,rfl⟩⟩
theorem zcZ {a:Array Keyed}{p q lo hi:Nat}(hq:q<=a.size)(h1:lo<=p)(h2:q<=hi):Moved a (rev a p q) lo hi:=⟨mirror_perm _ _ _ _,λj hj=>by rw[getElem?_mirror_all hq,if_neg (by lia)]⟩
theorem zoD {a:Array Keyed}{p q:Nat}(hq:q<=a.size)(h:Dec f a p q):Run f (rev a p q) p q:=by
 intro i j hj hij h1 h2;obtain⟨i',hi',ei,ci⟩:=zir (p:=p) hq i (by lia);obtain⟨j',hj',ej,cj⟩:=zir hq j hj;rw[ei,ej];rcases ci with ⟨c1,c2,rfl⟩ | ⟨c1,rfl⟩<;>rcases cj with ⟨d1,d2,rfl⟩ | ⟨d1,rfl⟩
 ·exact h _ _ hi' (by lia) (by lia) (by lia)
 all_goals lia
theorem zhp {a:Array Keyed}{lo hi p q:Nat}(hh:hi<=a.size)(h1:lo<=p)(h2:q<=hi)(h:Dec f a lo hi)(e:Alike f a p q):Dec f (rev a p q) lo hi:=by
 intro i j hj hij g1 g2;have hqa:q<=a.size:=by lia
 obtain⟨i',hi',ei,ci⟩:=zir (p:=p) hqa i (by lia);obtain⟨j',hj',ej,cj⟩:=zir hqa j hj;rw[ei,ej];rcases ci with ⟨c1,c2,rfl⟩ | ⟨c1,rfl⟩<;>rcases cj with ⟨d1,d2,rfl⟩ | ⟨d1,rfl⟩
 ·exact e _ _ hj' hi' (by lia) (by lia) (by lia) (by lia)
 ·exact h _ _ hj' (by lia) (by lia) (by lia)
 ·exact h _ _ hj' (by lia) (by lia) (by lia)
 ·exact h _ _ hj' (by lia) (by lia) (by lia)
theorem Run.more (T:Tot f P){a:Array Keyed}(hP:∀(j:Nat) x,a[j]? = some x->P x){lo n:Nat}(h0:1<=n)(hn:lo+n<a.size)(h:Run f a lo (lo+n))(hf:f a[lo+n] (a[lo+n-1]'(by lia))=false):Run f a lo (lo+(n+1)):=by
 intro i j hj hij h1 h2;have Pa:∀ {i:Nat},(hi:i<a.size)->P a[i]:=λ{i} hi=>hP i _ (getElem?_pos a i hi);by_cases e:j=lo+n
 ·subst e;by_cases e2:i=lo+n-1
  ·subst e2;exact hf
  ·exact T.tr _ _ _ (Pa _) (Pa (show lo+n-1<a.size by lia)) (Pa hj) (h i (lo+n-1) (by lia) (by lia) h1 (by lia)) hf
 ·exact h i j hj hij h1 (by lia)
theorem Dec.more (T:Tot f P){a:Array Keyed}(hP:∀(j:Nat) x,a[j]? = some x->P x){lo n:Nat}(h0:1<=n)(hn:lo+n<a.size)(h:Dec f a lo (lo+n))(hf:Le f a[lo+n] (a[lo+n-1]'(by lia))):Dec f a lo (lo+(n+1)):=by
 intro i j hj hij h1 h2;have Pa:∀ {i:Nat},(hi:i<a.size)->P a[i]:=λ{i} hi=>hP i _ (getElem?_pos a i hi);by_cases e:j=lo+n
 ·subst e;by_cases e2:i=lo+n-1
  ·subst e2;exact hf
  ·exact T.tr _ _ _ (Pa hj) (Pa (show lo+n-1<a.size by lia)) (Pa _) hf (h i (lo+n-1) (by lia) (by lia) h1 (by lia))
 ·exact h i j hj hij h1 (by lia)
theorem Alike.more (T:Tot f P){a:Array Keyed}(hP:∀(j:Nat) x,a[j]? = some x->P x){p q:Nat}(hp:p<q)(hq:q<a.size)(h:Alike f a p q)(h1:Le f a[q] (a[q-1]'(by lia)))(h2:Le f (a[q-1]'(by lia)) a[q]):Alike f a p (q+1):=by
 intro i j hi hj g1 g2 g3 g4;have Pa:∀ {i:Nat},(hi:i<a.size)->P a[i]:=λ{i} hi=>hP i _ (getElem?_pos a i hi);have hq1:q-1<a.size:=by lia
 by_cases e1:i=q
 ·subst e1;by_cases e2:j=i
  ·subst e2;exact zcp T (Pa hi)
  ·exact T.tr _ _ _ (Pa hi) (Pa hq1) (Pa hj) h1 (h _ _ hq1 hj (by lia) (by lia) g3 (by lia))
 ·by_cases e2:j=q
  ·subst e2;exact T.tr _ _ _ (Pa hi) (Pa hq1) (Pa hj) (h _ _ hi hq1 g1 (by lia) (by lia) (by lia)) h2
  ·exact h i j hi hj g1 (by lia) g3 (by lia)
theorem zeB (T:Tot f P){a:Array Keyed}(hP:∀(j:Nat) x,a[j]? = some x->P x){p q:Nat}(h:q=p+1):Alike f a p q:=by
 intro i j hi hj g1 g2 g3 g4;have:i=j:=by lia
 subst this;exact zcp T (hP i _ (getElem?_pos a i hi))
theorem zqD (C:Cmp prog w A E s k P f)(T:Tot f P){lo n:Nat}{Q:Option Nat->SortSt->Prop}{st:SortSt}(hst:kindOf st=k)(h0:1<=n)(hn:lo+n<=(arrOf st).size)(hP:∀(j:Nat) x,(arrOf st)[j]? = some x->P x)
  (hQ:∀a' m,1<=m->m<=n->Moved (arrOf st) a' lo (lo+n)->Run f a' lo (lo+m)->Q (some m) (setArr st a')):wpS (model prog w) A E s (cnt lo n) Q st:=by
 refine wpS_bind (wpS_mono (wpS_forRange (I:=λx c st'=>st'=st/\c=(none,x)/\x<=n/\Run f (arrOf st) lo (lo+x))
  (Q:=λc st'=>st'=st/\∃x,c=(none,x)/\1<=x/\x<=n/\Run f (arrOf st) lo (lo+x)/\(x<n->∃h:lo+x<(arrOf st).size,f (arrOf st)[lo+x] ((arrOf st)[lo+x-1]'(by lia))=true)) ?step ?fin ⟨rfl,rfl,h0,λi j _ _ _ _=>by lia⟩) ?post)
 case fin=>
  rintro c st' ⟨rfl,rfl,h1,h2⟩;exact⟨rfl,_,rfl,by lia,h1,h2,λh=>by lia⟩
 case step=>
  rintro x c st' hx1 hx2 ⟨rfl,rfl,h1,h2⟩;dsimp only;refine wpS_bind (zdp C hst rfl hP (show lo+x<(arrOf st').size by lia) (show lo+x-1<(arrOf st').size by lia) ?_);cases hv:f ((arrOf st')[lo+x]'(by lia)) ((arrOf st')[lo+x-1]'(by lia))with
  | true=>
   dsimp only;rw[if_pos rfl];exact wpS_pure ⟨rfl,x,rfl,hx1,by lia,h2,λ_=>⟨by lia,hv⟩⟩
  | false=>
   dsimp only;rw[if_neg (by decide)];exact wpS_pure ⟨rfl,rfl,by lia,h2.more T hP hx1 (by lia) hv⟩
 case post=>
  rintro c st' ⟨rfl,x,rfl,h1,h2,h3,h4⟩;dsimp only;have Pa:∀ {i:Nat},(hi:i<(arrOf st').size)->P (arrOf st')[i]:=λ{i} hi=>hP i _ (getElem?_pos (arrOf st') i hi);refine zaE (λe1=>?_) (λe1=>?_)
  ·have e1:x=n:=by simpa using e1
   exact wpS_pure (hQ (arrOf st') x h1 h2 (.refl _ _ _) h3)
  have e1:¬ x=n:=by simpa using e1
  obtain⟨hx,hv⟩:=h4 (by lia);have hx1:lo+x-1<(arrOf st').size:=by lia
  have hdn:Le f (arrOf st')[lo+x] (arrOf st')[lo+x-1]:=T.asym _ _ (Pa hx) (Pa hx1) hv;refine znu (λst2=>∃a1,st2=setArr st' a1/\Moved (arrOf st') a1 lo (lo+n)/\Dec f a1 lo (lo+(x+1))) ?_ (λe2 key=>?_) (λe2=>⟨arrOf st',rfl,.refl _ _ _,Dec.more T hP h1 hx (λi j _ _ _ _=>by lia) hdn⟩)
  rotate_left
  ·refine wpS_bind (zdp C hst rfl hP (show lo<(arrOf st').size by lia) hx1 ?_);cases hw:f ((arrOf st')[lo]'(by lia)) (arrOf st')[lo+x-1]with
   | true=>
    dsimp only;rw[if_pos rfl];exact wpS_pure (hQ (arrOf st') x h1 h2 (.refl _ _ _) h3)
   | false=>
    dsimp only;rw[if_neg (by decide)];have al:Alike f (arrOf st') lo (lo+x):=λi j hi hj g1 g2 g3 g4=>by
     rcases Nat.lt_trichotomy i j with h | h | h
     ·exact h3 i j hj h g1 g4
     ·subst h;exact zcp T (Pa hi)
     ·have q1:Le f (arrOf st')[i] (arrOf st')[lo+x-1]:=by
       by_cases e:i=lo+x-1
       ·subst e;exact zcp T (Pa hi)
       ·exact h3 _ _ hx1 (by lia) g1 (by lia)
      have hlo:lo<(arrOf st').size:=by lia
      have q2:Le f (arrOf st')[lo] (arrOf st')[j]:=by
       by_cases e:j=lo
       ·subst e;exact zcp T (Pa hj)
       ·exact h3 _ _ hj (by lia) (by lia) (by lia)
      exact T.tr _ _ _ (Pa hi) (Pa hx1) (Pa hj) q1 (T.tr _ _ _ (Pa hx1) (Pa hlo) (Pa hj) hw q2)
    have dc:Dec f (arrOf st') lo (lo+x):=λi j hj hij g1 g2=>al j i hj (by lia) (by lia) g2 g1 (by lia);exact wpS_bind (wpS_modify (key _ ⟨_,rfl,zcZ (by lia) (by lia) (by lia),zhp (by lia) (by lia) (by lia) (dc.more T hP h1 hx hdn) al⟩))
  rintro st2 ⟨a1,rfl,m1,D1⟩;refine wpS_bind (wpS_lift (wpAny_rule ⟨rfl,?_⟩));refine wpS_bind (wpS_mono (wpS_forRange
   (I:=λy c st2=>∃a2 neq,st2=setArr st' a2/\c=(none,y,neq)/\y<=n/\neq<y/\Moved (arrOf st') a2 lo (lo+n)/\Dec f a2 lo (lo+y)/\Alike f a2 (lo+y-(neq+1)) (lo+y))
   (Q:=λc st2=>∃a2 y neq,st2=setArr st' a2/\c=(none,y,neq)/\x+1<=y/\y<=n/\neq<y/\Moved (arrOf st') a2 lo (lo+n)/\Dec f a2 lo (lo+y)/\Alike f a2 (lo+y-(neq+1)) (lo+y)) ?step2 ?fin2 ⟨a1,0,rfl,rfl,by lia,by lia,m1,D1,zeB T (m1.all hP) (by lia)⟩) ?post2)
  case fin2=>
   rintro c st2 ⟨a2,neq,rfl,rfl,g1,g2,g3,g4,g5⟩;exact⟨a2,_,neq,rfl,rfl,by lia,g1,g2,g3,g4,g5⟩
  case step2=>
   rintro y c st2 hy1 hy2 ⟨a2,neq,rfl,rfl,g1,g2,g3,g4,g5⟩;have hs2:=g3.size;have hP2:=g3.all hP;have hy:lo+y<a2.size:=by lia
   have hyp:lo+y-1<a2.size:=by lia
   have Pb:∀ {i:Nat},(hi:i<a2.size)->P a2[i]:=λ{i} hi=>hP2 i _ (getElem?_pos a2 i hi);dsimp only;refine wpS_bind (zdp C (st:=setArr st' a2) (a:=a2) hst rfl hP2 hy hyp ?_);cases hc:f a2[lo+y] a2[lo+y-1]with
   | true=>
    dsimp only;rw[if_pos rfl];have D2:=g4.more T hP2 (by lia) hy (T.asym _ _ (Pb hy) (Pb hyp) hc);refine zaE (λhq=>?_) (λhq=>?_)
    ·have m2:=g3.trans (zcZ (p:=lo+y-(neq+1)) (q:=lo+y) (lo:=lo) (hi:=lo+n) (show lo+y<=a2.size by lia) (by lia) (by lia));have D3:=zhp (p:=lo+y-(neq+1)) (q:=lo+y) (show lo+(y+1)<=a2.size by lia) (by lia) (by lia) D2 g5;exact wpS_bind (wpS_modify (wpS_pure ⟨rev a2 (lo+y-(neq+1)) (lo+y),0,rfl,rfl,by lia,by lia,m2,D3,zeB T (m2.all hP) (by lia)⟩))
    ·exact wpS_pure ⟨a2,0,rfl,rfl,by lia,by lia,g3,D2,zeB T hP2 (by lia)⟩
   | false=>
    dsimp only;rw[if_neg (by decide)];refine wpS_bind (zdp C (st:=setArr st' a2) (a:=a2) hst rfl hP2 hyp hy ?_);cases hd:f a2[lo+y-1] a2[lo+y]with
    | true=>
     dsimp only;rw[if_pos rfl];exact wpS_pure ⟨a2,y,neq,rfl,rfl,by lia,by lia,g2,g3,g4,g5⟩
    | false=>
     dsimp only;rw[if_neg (by decide)];have D2:=g4.more T hP2 (by lia) hy hd;have A2:=g5.more T hP2 (by lia) hy hd hc;refine wpS_pure ⟨a2,neq+1,rfl,rfl,by lia,by lia,g3,D2,?_⟩;rw[show lo+(y+1)-(neq+1+1)=lo+y-(neq+1) by lia,show lo+(y+1)=lo+y+1 by lia];exact A2
  case post2=>
   rintro c st2 ⟨a2,y,neq,rfl,rfl,g0,g1,g2,g3,g4,g5⟩;have hs2:=g3.size;dsimp only;refine znu (λst3=>∃a3,st3=setArr st' a3/\Moved (arrOf st') a3 lo (lo+n)/\Dec f a3 lo (lo+y)) ?_ (λhq key=>wpS_bind (wpS_modify (key _ ⟨_,rfl,g3.trans (zcZ (by lia) (by lia) (by lia)),zhp (by lia) (by lia) (by lia) g4 g5⟩))) (λhq=>⟨a2,rfl,g3,g4⟩);rintro st3 ⟨a3,rfl,m3,D3⟩;have hs3:=m3.size;refine wpS_bind (wpS_modify ?_);obtain⟨a4,m4,R4,hg⟩:∃a4,Moved (arrOf st') a4 lo (lo+n)/\Run f a4 lo (lo+y)/\setArr st' (rev a3 lo (lo+y))=setArr st' a4:=
    ⟨_,m3.trans (zcZ (by lia) (by lia) (by lia)),zoD (by lia) D3,rfl⟩
   show wpS _ _ _ _ _ _ (setArr st' (rev a3 lo (lo+y)));rw[hg];clear hg;have hs4:=m4.size;have hP4:=m4.all hP;refine wpS_bind (wpS_mono (wpS_forRange (I:=λz c st2=>st2=setArr st' a4/\c=(none,z)/\z<=n/\Run f a4 lo (lo+z))
    (Q:=λc st2=>st2=setArr st' a4/\∃z,c=(none,z)/\1<=z/\z<=n/\Run f a4 lo (lo+z)) ?step3 ?fin3 ⟨rfl,rfl,g1,R4⟩) ?post3)
   case fin3=>
    rintro c st2 ⟨rfl,rfl,k1,k2⟩;exact⟨rfl,_,rfl,by lia,k1,k2⟩
   case post3=>
    rintro c st2 ⟨rfl,z,rfl,k1,k2,k3⟩;exact wpS_pure (hQ a4 z k1 k2 m4 k3)
   case step3=>
    rintro z c st2 hz1 hz2 ⟨rfl,rfl,k1,k2⟩;dsimp only;refine wpS_bind (zdp C (st:=setArr st' a4) (a:=a4) hst rfl hP4 (show lo+z<a4.size by lia) (show lo+z-1<a4.size by lia) ?_);cases hc:f (a4[lo+z]'(by lia)) (a4[lo+z-1]'(by lia))with
    | true=>
     dsimp only;rw[if_pos rfl];exact wpS_pure ⟨rfl,z,rfl,by lia,by lia,k2⟩
    | false=>
     dsimp only;rw[if_neg (by decide)];exact wpS_pure ⟨rfl,rfl,by lia,k2.more T hP4 (by lia) (by lia) hc⟩
end
variable {P:Keyed->Prop}{f:Keyed->Keyed->Bool}
noncomputable def Stk (f:Keyed->Keyed->Bool)(a:Array Keyed):Nat->List (Nat×Nat×Nat)->Nat->Prop
 | s,[],hi=>s=hi
 | s,e::r,hi=>e.1=s/\0<e.2.1/\Run f a s (s+e.2.1)/\Stk f a (s+e.2.1) r hi
theorem Run.congr {a a':Array Keyed}{lo hi:Nat}(h:Run f a lo hi)(hs:a'.size=a.size)(he:∀j:Nat,lo<=j->j<hi->a'[j]? = a[j]?):Run f a' lo hi:=by
 intro i j hj hij h1 h2;have e1:=he i h1 (by lia);have e2:=he j (by lia) h2;rw[getElem?_pos a' i (by lia),getElem?_pos a i (by lia)]at e1;rw[getElem?_pos a' j hj,getElem?_pos a j (by lia)]at e2;rw[Option.some.inj e1,Option.some.inj e2];exact h i j (by lia) hij h1 h2
theorem Stk.le {a:Array Keyed}:∀ {l:List (Nat×Nat×Nat)}{s hi:Nat},Stk f a s l hi->s+l.length<=hi
 | [],s,hi,h=>by have:s=hi:=h;simp[this]
 | e::r,s,hi,⟨h1,h2,h3,h4⟩=>by have:=Stk.le h4;rw[Yh];lia
theorem Stk.congr {a a':Array Keyed}(hs:a'.size=a.size):∀ {l:List (Nat×Nat×Nat)}{s hi:Nat},Stk f a s l hi->(∀j:Nat,s<=j->j<hi->a'[j]? = a[j]?)->Stk f a' s l hi
 | [],s,hi,h,_=>h
 | e::r,s,hi,⟨h1,h2,h3,h4⟩,he=>by
  have:=h4.le;exact⟨h1,h2,h3.congr hs λj g1 g2=>he j g1 (by lia),Stk.congr hs h4 λj g1 g2=>he j (by lia) g2⟩
theorem Stk.append {a:Array Keyed}:∀ {l m:List (Nat×Nat×Nat)}{s hi:Nat},Stk f a s (l++m) hi↔∃t,Stk f a s l t/\Stk f a t m hi
 | [],m,s,hi=>⟨λh=>⟨s,rfl,h⟩,λ⟨t,h1,h2⟩=>by have:s=t:=h1;rw[this];exact h2⟩
 | e::r,m,s,hi=>by
  constructor
  ·rintro⟨h1,h2,h3,h4⟩;obtain⟨t,g1,g2⟩:=Stk.append.mp h4;exact⟨t,⟨h1,h2,h3,g1⟩,g2⟩
  ·rintro⟨t,⟨h1,h2,h3,h4⟩,g⟩;exact⟨h1,h2,h3,Stk.append.mpr ⟨t,h4,g⟩⟩
theorem Stk.snoc {a:Array Keyed}{l:List (Nat×Nat×Nat)}{s lo n p:Nat}(h:Stk f a s l lo)(hn:0<n)(r:Run f a lo (lo+n)):Stk f a s (l++[(lo,n,p)]) (lo+n):=Stk.append.mpr ⟨lo,h,rfl,hn,r,rfl⟩
theorem Stk.merge {a a':Array Keyed}{pre post:List (Nat×Nat×Nat)}{sa na pw sb nb pw2 s hi:Nat}(h:Stk f a s (pre++(sa,na,pw)::(sb,nb,pw2)::post) hi)(hs:a'.size=a.size)(ho:∀j:Nat,j<sa\/sa+na+nb<=j->a'[j]? = a[j]?)(r:Run f a' sa (sa+na+nb)) :
  Stk f a' s (pre++(sa,na+nb,pw)::post) hi:=by
 obtain⟨t,h1,h2,h3,h4,h5,h6,h7,h8⟩:=Stk.append.mp h;simp only at h2 h3 h4 h5 h6 h7 h8;subst h2;refine Stk.append.mpr ⟨sa,h1.congr hs λj g1 g2=>ho j (.inl g2),rfl,by show 0<na+nb;lia,?_,?_⟩
 ·show Run f a' sa (sa+(na+nb));rw[<- Nat.add_assoc];exact r
 ·show Stk f a' (sa+(na+nb)) post hi;rw[<- Nat.add_assoc];exact h8.congr hs λj g1 g2=>ho j (.inr g1)
theorem zmA {p:Array (Nat×Nat×Nat)}{pre post:List (Nat×Nat×Nat)}{e1 e2 e:Nat×Nat×Nat}(h:p.toList=pre++e1::e2::post):((p.setIfInBounds pre.length e).eraseIdxIfInBounds (pre.length+1)).toList=pre++e::post:=by
 have hsz:p.size=pre.length+(post.length+2):=by rw[<- Xp,h];simp
 rw[Array.eraseIdxIfInBounds,dif_pos (by simp;lia)];simp[h,List.eraseIdx_append_of_length_le]
theorem zkQ {a a':Array Keyed}{S:List Keyed}{sa n:Nat}(hn:sa+n<=a.size)(so:S.Pairwise (Le f))(pm:S.Perm ((a.toList.drop sa).take n))(e:a'.toList=a.toList.take sa++S++a.toList.drop (sa+n)) :
  a'.Perm a/\a'.size=a.size/\(∀j:Nat,j<sa\/sa+n<=j->a'[j]? = a[j]?)/\Run f a' sa (sa+n):=by
 have hl:a.toList.length=a.size:=Xp;have hS:S.length=n:=by rw[pm.length_eq,XC,List.length_drop];lia
 have ht:(a.toList.take sa).length=sa:=by rw[XC];lia
 have hp:a'.Perm a:=by
  rw[Array.perm_iff_toList_perm,e];have e2:a.toList=a.toList.take sa++(a.toList.drop sa).take n++a.toList.drop (sa+n):=by
   rw[<- List.drop_drop,Xw,XT,XT]
  refine Yw.trans ?_ (Yw.of_eq e2.symm);exact Yw.append_right _ (Yw.append_left _ pm)
 refine⟨hp,hp.size_eq,λj hj=>?_,λi j hj hij h1 h2=>?_⟩
 ·rw[<- Xn,<- Xn,e];rcases hj with hj | hj
  ·rw[Xw,Yn (by lia),List.getElem?_take_of_lt hj]
  ·rw[Yf (by rw[XH];lia),XH,List.getElem?_drop]
   congr 1
   lia
 ·have at':∀(i:Nat) (h:i<a'.size),sa<=i->(h2:i<sa+n)->a'[i]=S[i-sa]'(by lia):=λi h g1 g2=>by
   have:a'.toList[i]? = S[i-sa]?:=by
    rw[e,Xw,Yf (by lia),ht,Yn (by lia)]
   rw[Xn,getElem?_pos a' i h,Xb (by lia)]at this;exact Option.some.inj this
  rw[at' i (by lia) h1 (by lia),at' j hj (by lia) h2];exact List.pairwise_iff_getElem.mp so _ _ _ _ (by lia)
noncomputable def srt:StateT SortSt Sem Unit:=sortPriv% PySem.Builtin.sortRuns
section
variable {prog:Program}{w:World}{A:Around}{E:Value->Shared->Prop}{s:Shared}{k:SortKind}{P:Keyed->Prop}{f:Keyed->Keyed->Bool}
structure Inv (f:Keyed->Keyed->Bool)(k:SortKind)(a:Array Keyed)(st:SortSt)(lo:Nat):Prop where
 kind:kindOf st=k
 failed:failedOf st=none
 pm:(arrOf st).Perm a
 stk:Stk f (arrOf st) 0 (pendingOf st).toList lo
theorem zis (C:Cmp prog w A E s k P f)(T:Tot f P){a:Array Keyed}{i lo:Nat}{Q:Bool->SortSt->Prop}{st:SortSt}(hP:∀(j:Nat) x,a[j]? = some x->P x)(I:Inv f k a st lo)(hlo:lo<=a.size)(hi:i+1<(pendingOf st).size)
  (hQ:∀st',Inv f k a st' lo->(pendingOf st').size+1=(pendingOf st).size->(∀j:Nat,lo<=j->(arrOf st')[j]? = (arrOf st)[j]?)->Q true st'):wpS (model prog w) A E s (mAt i) Q st:=by
 have hlen:(pendingOf st).toList.length=(pendingOf st).size:=Xp;have hsz:(arrOf st).size=a.size:=I.pm.size_eq;obtain⟨pre,⟨sa,na,pw⟩,⟨sb,nb,pw2⟩,post,hl,hpre⟩:∃pre e1 e2 post,(pendingOf st).toList=pre++e1::e2::post/\pre.length=i:=by
  refine⟨(pendingOf st).toList.take i,(pendingOf st).toList[i],(pendingOf st).toList[i+1],(pendingOf st).toList.drop (i+2),?_,by rw[XC];lia⟩;rw[<- YC,<- YC,XT]
 have hst:=I.stk;rw[hl]at hst;obtain⟨t,h1,h2,h3,h4,h5,h6,h7,h8⟩:=Stk.append.mp hst;simp only at h2 h3 h4 h5 h6 h7 h8;subst h2;subst h5;have hle:=h8.le;have g1:(pendingOf st)[i]? = some (sa,na,pw):=by rw[<- Xn,hl,<- hpre];simp
 have g2:(pendingOf st)[i+1]? = some (sa+na,nb,pw2):=by rw[<- Xn,hl,<- hpre];simp
 have hP':∀(j:Nat) x,(arrOf st)[j]? = some x->P x:=(Moved.all (lo:=0) (hi:=(arrOf st).size+a.size) ⟨I.pm,λj hj=>by
  rcases hj with hj | hj
  ·lia
  ·rw[getElem?_neg (arrOf st) j (by lia),getElem?_neg a j (by lia)]⟩ hP)
 refine zqB C T I.kind I.failed g1 g2 h3 h6 (by lia) hP' h4 h7 λst' S q1 q2 q3 q4 q5 q6=>?_;rw[Nat.add_assoc]at q6;obtain⟨r1,r2,r3,r4⟩:=zkQ (by lia) q4 q5 q6;have hpl:(pendingOf st').toList=pre++(sa,na+nb,pw)::post:=by rw[q3,<- hpre];exact zmA hl
 refine hQ st' ⟨q1,q2,r1.trans I.pm,?_⟩ ?_ λj hj=>r3 j (.inr (by lia))
 ·rw[hpl];exact hst.merge r2 (λj hj=>r3 j (by lia)) (by rw[Nat.add_assoc];exact r4)
 ·have e1:(pendingOf st').size=(pendingOf st').toList.length:=Xp.symm;rw[e1,hpl,<- hlen,hl];simp
  lia
end
section
variable {prog:Program}{w:World}{A:Around}{E:Value->Shared->Prop}{s:Shared}{k:SortKind}{P:Keyed->Prop}{f:Keyed->Keyed->Bool}
theorem Stk.modify {a:Array Keyed}{g:Nat×Nat×Nat->Nat×Nat×Nat}(hg:∀e,(g e).1=e.1/\(g e).2.1=e.2.1):∀ {l:List (Nat×Nat×Nat)}{i s hi:Nat},Stk f a s l hi->Stk f a s (l.modify i g) hi
 | [],i,s,hi,h=>by cases i<;>exact h
 | e::r,0,s,hi,⟨h1,h2,h3,h4⟩=>by
  show Stk f a s (g e::r) hi;have:=hg e;exact⟨by rw[this.1];exact h1,by rw[this.2];exact h2,by rw[this.2];exact h3,by rw[this.2];exact h4⟩
 | e::r,i+1,s,hi,⟨h1,h2,h3,h4⟩=>by
  show Stk f a s (e::r.modify i g) hi;exact⟨h1,h2,h3,Stk.modify hg h4⟩
theorem Inv.moved {a:Array Keyed}{st:SortSt}{lo n:Nat}(I:Inv f k a st lo){a':Array Keyed}(m:Moved (arrOf st) a' lo n):Inv f k a (setArr st a') lo:=
 ⟨I.kind,I.failed,m.pm.trans I.pm,I.stk.congr m.size λj _ h=>m.out j (.inl h)⟩
theorem Inv.all {a:Array Keyed}{st:SortSt}{lo:Nat}(I:Inv f k a st lo)(hP:∀(j:Nat) x,a[j]? = some x->P x):∀(j:Nat) x,(arrOf st)[j]? = some x->P x:=λj x e=>by
 have h1:x∈(arrOf st).toList:=Xl (by rw[Xn];exact e);exact zeA hP x ((Array.perm_iff_toList_perm.mp I.pm).mem_iff.mp h1)
theorem Inv.push {a:Array Keyed}{st:SortSt}{lo n:Nat}(I:Inv f k a st lo)(hn:1<=n)(r:Run f (arrOf st) lo (lo+n)):Inv f k a (SortSt.mk' (kindOf st) (arrOf st) ((pendingOf st).push (lo,n,0)) (gallopOf st) (failedOf st)) (lo+n):=
 ⟨I.kind,I.failed,I.pm,by show Stk f (arrOf st) 0 ((pendingOf st).push (lo,n,0)).toList (lo+n);rw[Array.toList_push];exact I.stk.snoc (by lia) r⟩
theorem Inv.power {a:Array Keyed}{st:SortSt}{lo i:Nat}(I:Inv f k a st lo){g:Nat×Nat×Nat->Nat×Nat×Nat}(hg:∀e,(g e).1=e.1/\(g e).2.1=e.2.1):Inv f k a (SortSt.mk' (kindOf st) (arrOf st) ((pendingOf st).modify i g) (gallopOf st) (failedOf st)) lo:=
 ⟨I.kind,I.failed,I.pm,by show Stk f (arrOf st) 0 ((pendingOf st).modify i g).toList lo;rw[Array.toList_modify];exact I.stk.modify hg⟩
theorem zoE {c:Prop} [Decidable c] {n:Nat}(h:¬ n<=1):(if c then n-2-1 else n-2)+1<n:=by split<;>lia
theorem znw {α:Type}{c:Prop} [Decidable c] {m1 m2:StateT SortSt Sem α}{Q:α->SortSt->Prop}{st:SortSt}(h1:c->wpS (model prog w) A E s m1 Q st)(h2:¬ c->wpS (model prog w) A E s m2 Q st):wpS (model prog w) A E s (if c then m1 else m2) Q st:=by
 by_cases h:c
 ·rw[if_pos h];exact h1 h
 ·rw[if_neg h];exact h2 h
theorem zqE (C:Cmp prog w A E s k P f)(T:Tot f P){Q:Unit->SortSt->Prop}{st:SortSt}(hst:kindOf st=k)(hfl:failedOf st=none)(hpn:pendingOf st = #[])(hP:∀(j:Nat) x,(arrOf st)[j]? = some x->P x)
  (hQ:∀st',(arrOf st').Perm (arrOf st)->failedOf st'=none->(arrOf st').toList.Pairwise (Le f)->Q () st'):wpS (model prog w) A E s srt Q st:=by
 refine wpS_bind (wpS_get ?_);refine wpS_bind (wpS_mono (wpS_forRange (I:=λx c st'=>∃lo,c=(none,lo)/\lo<=(arrOf st).size/\x<=lo/\Inv f k (arrOf st) st' lo)
  (Q:=λc st'=>∃lo,c=(none,lo)/\lo=(arrOf st).size/\Inv f k (arrOf st) st' lo) ?step ?fin ⟨0,rfl,by lia,by lia,hst,hfl,.refl _,by rw[hpn];rfl⟩) ?post)
 case fin=>
  rintro c st' ⟨lo,rfl,h1,h2,I⟩;change max 0 (arrOf st).size<=lo at h2;exact⟨lo,rfl,by lia,I⟩
 case post=>
  rintro c st' ⟨lo,rfl,rfl,I⟩;have hle:=I.stk.le;rw[Xp]at hle;refine wpS_bind (wpS_mono (wpS_forRange (I:=λx c st2=>c=(none,())/\(pendingOf st2).size+x<=(arrOf st).size/\Inv f k (arrOf st) st2 (arrOf st).size)
   (Q:=λc st2=>c=(none,())/\(pendingOf st2).size<=1/\Inv f k (arrOf st) st2 (arrOf st).size) ?step9 ?fin9 ⟨rfl,by lia,I⟩) ?post9)
  case fin9=>
   rintro c st2 ⟨rfl,h1,I2⟩;change (pendingOf st2).size+max 0 (arrOf st).size<=(arrOf st).size at h1;exact⟨rfl,by lia,I2⟩
  case post9=>
   rintro c st2 ⟨rfl,h1,I2⟩;refine wpS_pure (hQ st2 I2.pm I2.failed ?_);have hsz:(arrOf st2).size=(arrOf st).size:=I2.pm.size_eq;have hr:Run f (arrOf st2) 0 (0+(arrOf st2).size):=by
    have hs:=I2.stk;have hl:(pendingOf st2).toList.length<=1:=by rw[Xp];exact h1
    cases hp:(pendingOf st2).toList with
    | nil=>
     rw[hp]at hs;have:0=(arrOf st).size:=hs;intro i j hj hij _ h2
     lia
    | cons e r=>
     rw[hp]at hs hl;have:r=[]:=Yi.mp (by simp at hl;exact Yi.mpr hl);subst this;obtain⟨g1,g2,g3,g4⟩:=hs;have:0+e.2.1=(arrOf st).size:=g4;rw[this]at g3;rw[hsz,Nat.zero_add];exact g3
   have:=zkP hr (by lia)
   rwa [List.drop_zero,XR (by rw[Xp];exact Xo _)]at this
  case step9=>
   rintro x c st2 _ hx ⟨rfl,h1,I2⟩;refine wpS_bind (wpS_get ?_);by_cases e1:(pendingOf st2).size<=1
   ·rw[if_pos e1];exact wpS_pure ⟨rfl,e1,I2⟩
   rw[if_neg e1];refine wpS_bind (zis C T hP I2 (Xo _) ?_ λst3 I3 h3 _=>?_)
   ·exact zoE e1
   ·exact wpS_pure ⟨rfl,by lia,I3⟩
 case step=>
  rintro x c st1 _ hx ⟨lo,rfl,h1,h2,I⟩;by_cases e1:lo>=(arrOf st).size
  ·rw[if_pos e1];exact wpS_pure ⟨lo,rfl,by lia,I⟩
  rw[if_neg e1];have hsz:(arrOf st1).size=(arrOf st).size:=I.pm.size_eq;refine wpS_bind (zqD C T I.kind (show 1<=(arrOf st).size-lo by lia) (show lo+((arrOf st).size-lo)<=(arrOf st1).size by lia) (I.all hP) λa1 m q1 q2 mv r1=>?_);have I1:=I.moved mv;have hs1:=mv.size;have q2':m<=(arrOf st).size-lo:=q2;refine znw (λe2=>?_) (λe2=>?_);generalize hmr:(sortPriv% PySem.Builtin.minRun) _ _ _=mr at *;refine wpS_bind (wpS_lift (wpAny_rule ⟨rfl,?_⟩));refine wpS_bind (zqC C T I1.kind (show lo+min ((arrOf st).size-lo) mr<=a1.size by lia) (by lia) (I1.all hP) r1 λa2 mv2 r2=>?_);rw[if_neg (by decide)];obtain⟨nn,hnn⟩:∃nn,nn=min ((arrOf st).size-lo) mr:=⟨_,rfl⟩;obtain⟨stX,IX,rX,hg⟩:∃stX,Inv f k (arrOf st) stX lo/\Run f (arrOf stX) lo (lo+min ((arrOf st).size-lo) mr)/\setArr (setArr st1 a1) a2=stX:=⟨_,I1.moved mv2,r2,rfl⟩;show wpS _ _ _ _ _ _ (setArr (setArr st1 a1) a2);rw[hg];clear hg;have n1:1<=min ((arrOf st).size-lo) mr:=by lia
  have n2:lo+min ((arrOf st).size-lo) mr<=(arrOf st).size:=by lia
  rotate_left
  obtain⟨stX,IX,rX,hg⟩:∃stX,Inv f k (arrOf st) stX lo/\Run f (arrOf stX) lo (lo+m)/\setArr st1 a1=stX:=⟨_,I1,r1,rfl⟩;show wpS _ _ _ _ _ _ (setArr st1 a1);rw[hg];clear hg;have n1:1<=m:=by lia
  have n2:lo+m<=(arrOf st).size:=by lia
  all_goals
   refine wpS_bind (wpS_get ?_);rcases hb:(pendingOf stX).back? with _ | ⟨s1,l1,p1⟩
   ·dsimp only;exact wpS_bind (wpS_modify (wpS_pure ⟨_,rfl,n2,by lia,IX.push n1 rX⟩))
   ·dsimp only;refine wpS_bind (wpS_mono (wpS_forRange (I:=λy c st2=>c=(none,())/\Inv f k (arrOf st) st2 lo/\(∀j:Nat,lo<=j->(arrOf st2)[j]? = (arrOf stX)[j]?))
     (Q:=λc st2=>c=(none,())/\Inv f k (arrOf st) st2 lo/\(∀j:Nat,lo<=j->(arrOf st2)[j]? = (arrOf stX)[j]?)) ?step5 ?fin5 ⟨rfl,IX,λ_ _=>rfl⟩) ?post5)
    case fin5=>exact λc st2 h=>h
    case post5=>
     rintro c st2 ⟨rfl,I2,o2⟩;dsimp only;have r2:=rX.congr (a':=arrOf st2) (by rw[I2.pm.size_eq,IX.pm.size_eq]) λj g1 _=>o2 j g1;refine wpS_bind (wpS_modify (wpS_bind (wpS_modify (wpS_pure ⟨_,rfl,n2,by lia,?_⟩))));exact Inv.push (Inv.power I2 (λe=>⟨rfl,rfl⟩)) n1 r2
    case step5=>
     rintro y c st2 _ hy ⟨rfl,I2,o2⟩;refine wpS_bind (wpS_get ?_);by_cases hp:(pendingOf st2).size > 1
     ·rw[if_pos hp,getElem?_pos (pendingOf st2) ((pendingOf st2).size-2) (by lia)];dsimp only;refine znw (λe3=>?_) (λe3=>?_)
      ·exact wpS_pure ⟨rfl,I2,o2⟩
      ·refine wpS_bind (zis C T hP I2 (by lia) (show(pendingOf st2).size-2+1<(pendingOf st2).size by lia) λst3 I3 h3 o3=>?_);rw[if_neg (by decide)];exact wpS_pure ⟨rfl,I3,λj hj=>(o3 j hj).trans (o2 j hj)⟩
     ·rw[if_neg hp];exact wpS_pure ⟨rfl,I2,o2⟩
end
noncomputable def ltI:List Int->List Int->Bool
 | [],[]=>false
 | [],_::_=>true
 | _::_,[]=>false
 | x::xs,y::ys=>if x=y then ltI xs ys else decide (x<y)
theorem zdR:∀x y:List Int,ltI x y=true->ltI y x=false
 | [],[],h=>rfl
 | [],_::_,h=>rfl
 | _::_,[],h=>by cases h
 | a::x,b::y,h=>by
  unfold ltI at h ⊢;by_cases e:a=b
  ·rw[if_pos e]at h;rw[if_pos e.symm];exact zdR x y h
  ·rw[if_neg e]at h;rw[if_neg (λz=>e z.symm)];have:=of_decide_eq_true h;exact decide_eq_false (by lia)
theorem zfO:∀x y:List Int,ltI x y=false->ltI y x=false->x=y
 | [],[],_,_=>rfl
 | [],_::_,h,_=>by cases h
 | _::_,[],_,h=>by cases h
 | a::x,b::y,h1,h2=>by
  unfold ltI at h1 h2;by_cases e:a=b
  ·rw[if_pos e]at h1;rw[if_pos e.symm]at h2;rw[e,zfO x y h1 h2]
  ·rw[if_neg e]at h1;rw[if_neg (λz=>e z.symm)]at h2;have:=of_decide_eq_false h1;have:=of_decide_eq_false h2;exact absurd (show a=b by lia) e
theorem zeC:∀x y z:List Int,ltI x y=true->ltI y z=true->ltI x z=true
 | [],[],_,h,_=>by cases h
 | [],_::_,[],_,h=>by cases h
 | [],_::_,_::_,_,_=>rfl
 | _::_,[],_,h,_=>by cases h
 | _::_,_::_,[],_,h=>by cases h
 | a::x,b::y,c::z,h1,h2=>by
  unfold ltI at h1 h2 ⊢;by_cases e:a=b
  ·rw[if_pos e]at h1;by_cases e2:b=c
   ·rw[if_pos e2]at h2;rw[if_pos (e.trans e2)];exact zeC x y z h1 h2
   ·rw[if_neg e2]at h2;rw[if_neg (by rw[e];exact e2),e];exact h2
  ·rw[if_neg e]at h1;have l1:=of_decide_eq_true h1;by_cases e2:b=c
   ·rw[if_neg (by rw[<- e2];exact e),<- e2];exact h1
   ·rw[if_neg e2]at h2;have l2:=of_decide_eq_true h2;rw[if_neg (by lia)];exact decide_eq_true (by lia)
theorem zoF:∀x y:List Int,x.zip y=[]->ltI x y=decide (x.length<y.length)
 | [],[],_=>rfl
 | [],_::_,_=>by simp[ltI]
 | _::_,[],_=>by simp[ltI]
 | _::_,_::_,h=>by cases h
noncomputable def TupAt (h:Heap)(v:Value)(ns:List Int):Prop:=∃a o vs n,v=.ref a/\h.get? a=some o/\o.cls=.type "tuple"/\o.data=.seq (List.toArray vs) n/\IntsAre vs ns
theorem TupAt.inj {h:Heap}{v:Value}{ns ms:List Int}(h1:TupAt h v ns)(h2:TupAt h v ms):ns=ms:=by
 obtain⟨a,o,vs,n,rfl,e,_,d,i⟩:=h1;obtain⟨a2,o2,vs2,n2,ea,e2,_,d2,i2⟩:=h2;cases ea;rw[e]at e2;cases e2;rw[d]at d2;cases d2;rw[<- i.nums,<- i2.nums]
open Classical in
noncomputable def gOf (h:Heap)(v:Value):List Int:=if z:∃ns,TupAt h v ns then z.choose else[]
theorem zit {h:Heap}{v:Value}{ns:List Int}(z:TupAt h v ns):gOf h v=ns:=by
 unfold gOf;have hz:∃ns,TupAt h v ns:=⟨ns,z⟩;rw[dif_pos hz];exact hz.choose_spec.inj z
section
variable {prog:Program}{w:World}{M:Model}{A:Around}{E:Value->Shared->Prop}{s:Shared}
theorem zgE {α β:Type}(f:α->β->Sem (ForInStep β))(I:List α->β->Prop){Q:β->Shared->Prop}
  (hstep:∀x rest b,I (x::rest) b->wpAny M A (f x b) (λr s'=>s'=s/\match r with | .done b'=>Q b' s | .yield b'=>I rest b') E s)
  (hend:∀b,I [] b->Q b s):∀(l:List α) (b:β),I l b->wpAny M A (forIn l b f) Q E s
 | [],b,h=>by rw[List.forIn_nil];exact wpAny_pure (hend _ h)
 | x::rest,b,h=>by
  rw[List.forIn_cons];refine wpAny_bind (wpAny_mono (hstep x rest b h) (λr s' h'=>?_) λ_ _ e=>e);obtain⟨es,h'⟩:=h';rw[es];cases r with
  | done b'=>exact wpAny_pure h'
  | yield b'=>exact zgE f I hstep hend rest b' h'
theorem zkR {a b:Int}{t u:Tok}{o:Bool}{Q:Bool->Shared->Prop}(h:Q (decide (a<b)) s):wpAny (model prog w) A (oneLt' o (.int a t) (.int b u)) Q E s:=by
 cases o with
 | true=>exact oneLt_int h
 | false=>
  rw[oneLt'_eq];simp only[Xu,if_false];refine wpAny_bind (wpAny_lt_int (Q:=λr s'=>wpAny (model prog w) A (truthOfDropped r) Q E s') ?_);exact wpAny_truthy_bool h
theorem zkS {k:Bool}{x y:Value}{ns ms:List Int}{Q:Bool->Shared->Prop}(hx:TupAt s.heap x ns)(hy:TupAt s.heap y ms)(h:Q (ltI ns ms) s):wpAny (model prog w) A (keyLt' (tuples' k) x y) Q E s:=by
 obtain⟨a,o,vs,n,rfl,e,_,d,i⟩:=hx;obtain⟨b,o2,ws,n2,rfl,e2,_,d2,i2⟩:=hy;refine wpAny_bind (listItems_at e d (wpAny_bind (listItems_at e2 d2 ?_)));refine wpAny_bind (zgE _ (I:=λl c=>c=(none,PUnit.unit)/\∃vs' ws' ns' ms' j,l=(vs'.zip ws').zipIdx j/\IntsAre vs' ns'/\IntsAre ws' ms'/\ltI ns ms=ltI ns' ms'/\ns'.length+ms.length=ms'.length+ns.length) ?step ?fin _ _ ⟨rfl,vs,ws,ns,ms,0,rfl,i,i2,rfl,by lia⟩)
 case fin=>
  rintro c ⟨rfl,vs',ws',ns',ms',j,hl,i3,i4,h1,h2⟩;dsimp only;have hz:ns'.zip ms'=[]:=by
   have q:(vs'.zip ws').length=0:=by have:=congrArg List.length hl;simpa using this.symm
   rw[List.length_zip]at q;have l3:=i3.nums;have l4:=i4.nums;have l3:=congrArg List.length l3;have l4:=congrArg List.length l4;rw[Xc]at l3 l4;refine Yi.mp ?_;rw[List.length_zip,<- l3,<- l4];exact q
  rw[h1,zoF _ _ hz]at h;have l1:=congrArg List.length i.nums;have l2:=congrArg List.length i2.nums;rw[Xc]at l1 l2;have hd:decide (ns'.length<ms'.length)=decide (vs.toArray.size<ws.toArray.size):=by
   rw[Xm,Xm,l1,l2];by_cases q:ns'.length<ms'.length
   ·rw[decide_eq_true q,decide_eq_true (by lia)]
   ·rw[decide_eq_false q,decide_eq_false (by lia)]
  rw[hd]at h;exact wpAny_pure h
 case step=>
  rintro⟨⟨p,q⟩,j0⟩ rest c ⟨rfl,vs',ws',ns',ms',j,hl,i3,i4,h1,h2⟩;cases i3 with
  | nil=>simp at hl
  | @cons n1 t1 vs1 ns1 i3=>
   cases i4 with
   | nil=>simp at hl
   | @cons m1 u1 ws1 ms1 i4=>
    rw[List.zip_cons_cons,List.zipIdx_cons]at hl;obtain⟨hl1,hl2⟩:=List.cons.inj hl;cases hl1;dsimp only;refine wpAny_bind (wpAny_eqBool_int ?_);by_cases e3:n1=m1
    ·subst e3;rw[if_neg (by simp)];refine wpAny_pure ⟨rfl,rfl,vs1,ws1,ns1,ms1,_,hl2,i3,i4,?_,?_⟩
     ·rw[h1,ltI,if_pos rfl]
     ·rw[Yh,Yh]at h2;lia
    ·rw[if_pos (by simpa using e3)];refine wpAny_bind (zkR ?_);refine wpAny_pure ⟨rfl,?_⟩;dsimp only;rw[h1,ltI,if_neg e3]at h;exact wpAny_pure h
theorem zoG (k:Bool):Cmp prog w A E s (tuples' k) (λx=>∃ns,TupAt s.heap x.1 ns) (λx y=>ltI (gOf s.heap x.1) (gOf s.heap y.1)) where
 run {x y Q st} hx hy hk h:=by
  obtain⟨ns,hx⟩:=hx;obtain⟨ms,hy⟩:=hy;rw[zit hx,zit hy]at h;rw[lt'_eq];refine wpS_bind (wpS_get ?_);rw[hk];refine wpS_bind (wpS_lift (wpAny_attempt (zkS hx hy ⟨rfl,?_⟩)));exact wpS_pure h
end
theorem zeD {x y z:List Int}(h1:ltI y x=false)(h2:ltI z y=false):ltI z x=false:=by
 cases h:ltI z x with
 | false=>rfl
 | true=>
  cases h3:ltI x y with
  | true=>rw[zeC _ _ _ h h3]at h2;cases h2
  | false=>rw[zfO _ _ h3 h1]at h;rw[h]at h2;cases h2
theorem zoH (h:Heap):Tot (λx y=>ltI (gOf h x.1) (gOf h y.1)) (λx=>∃ns,TupAt h x.1 ns) where
 asym x y _ _ e:=zdR _ _ e
 tr x y z _ _ _ h1 h2:=zeD h1 h2
theorem zgF {α β:Type}{φ:α->β}{l m:List β}(h:l.Perm m):∀us:List α,m=us.map φ->∃us':List α,us'.Perm us/\l=us'.map φ:=by
 induction h with
 | nil=>intro us e;exact⟨us,.refl _,by rw[<- e]⟩
 | @cons x l1 l2 hp ih=>
  intro us e;cases us with
  | nil=>cases e
  | cons u us=>
   rw[Xt]at e;have e1:=(List.cons.inj e).1;have e2:=(List.cons.inj e).2;obtain⟨us',h1,h2⟩:=ih us e2;exact⟨u::us',h1.cons u,by rw[Xt,h2,e1]⟩
 | @swap x y l1=>
  intro us e
  match us,e with
  | u::v::us,e=>
   rw[Xt,Xt]at e;have e1:=(List.cons.inj e).1;have e2:=(List.cons.inj (List.cons.inj e).2).1;have e3:=(List.cons.inj (List.cons.inj e).2).2;exact⟨v::u::us,.swap _ _ _,by rw[Xt,Xt,e1,e2,e3]⟩
 | trans _ _ ih1 ih2=>
  intro us e;obtain⟨u2,h1,h2⟩:=ih2 us e;obtain⟨u3,h3,h4⟩:=ih1 u2 h2;exact⟨u3,h3.trans h1,h4⟩
section
variable {prog:Program}{w:World}{M:Model}{A:Around}{E:Value->Shared->Prop}{s:Shared}
theorem ziu {α β:Type}{g:α->Sem β}{φ:α->β}:∀(vs:List α){Q:List β->Shared->Prop},(∀v∈vs,∀ {Q':β->Shared->Prop},Q' (φ v) s->wpAny M A (g v) Q' E s)->Q (vs.map φ) s->wpAny M A (vs.mapM g) Q E s
 | [],Q,_,h=>by rw[List.mapM_nil];exact wpAny_pure h
 | v::vs,Q,hg,h=>by
  rw[List.mapM_cons];refine wpAny_bind (hg v Xi (wpAny_bind (ziu vs (λu hu=>hg u (Xe _ hu)) (wpAny_pure ?_))));exact h
theorem zkT {α β:Type}{g:α->Sem β}{φ:α->β}(vs:List α){Q:Array β->Shared->Prop}(hg:∀v∈vs,∀ {Q':β->Shared->Prop},Q' (φ v) s->wpAny M A (g v) Q' E s)(h:Q (vs.map φ).toArray s):wpAny M A (vs.toArray.mapM g) Q E s:=by
 rw[List.mapM_toArray,map_eq_pure_bind];exact wpAny_bind (ziu vs hg (wpAny_pure h))
noncomputable def zeV (h:Heap)(v:Value):Option Value:=match v with
 | .ref a=>match h.get? a with
  | some o=>match o.data with
   | .seq xs _=>xs[0]?
   | _=>none
  | none=>none
 | _=>none
theorem ziv {v:Value}{ns:List Int}(hv:TupAt s.heap v ns)(hn:ns≠[]):(∃n t,zeV s.heap v=some (.int n t))/\∀ {Q:Option Value->Shared->Prop},Q (zeV s.heap v) s->wpAny M A (firstOfTuple' v) Q E s:=by
 obtain⟨a,o,vs,n,rfl,e,c,d,i⟩:=hv;have hf:zeV s.heap (.ref a)=vs.toArray[0]?:=by unfold zeV;dsimp only;rw[e];dsimp only;rw[d]
 refine⟨?_,λ{Q} h=>?_⟩
 ·rw[hf];cases i with
  | nil=>exact absurd rfl hn
  | cons n t i=>exact⟨n,t,rfl⟩
 ·refine wpAny_bind (wpAny_typeOf (T:="tuple") ⟨o,e,c⟩ ?_);rw[if_neg (by decide)];refine wpAny_bind (listItems_at e d (wpAny_pure ?_));rw[<- hf];exact h
theorem zmB {vs:List Value}{Q:SortKind->Shared->Prop}(hv:∀v∈vs,∃ns,TupAt s.heap v ns/\ns≠[])(h1:vs≠[])(h:Q (tuples' true) s):wpAny M A (keyKind' vs.toArray) Q E s:=by
 rw[keyKind'_eq];have hi:∀v∈vs,∃n t,zeV s.heap v=some (.int n t):=λv hm=>by
  obtain⟨ns,z1,z2⟩:=hv v hm;exact(ziv (M:=M) (A:=A) (E:=E) z1 z2).1
 refine wpAny_bind (zkT (φ:=zeV s.heap) vs (λv hm {Q'} q=>?_) ?_)
 ·obtain⟨ns,z1,z2⟩:=hv v hm;exact(ziv z1 z2).2 q
 have ha:((vs.map (zeV s.heap)).toArray.all λx=>x.isSome)=true:=by
  rw[List.all_toArray,YJ,XM];intro v hm;obtain⟨n,t,e⟩:=hi v hm;show(zeV s.heap v).isSome=true;rw[e];rfl
 rw[if_pos ha];have hx:∃us:List Value,(vs.map (zeV s.heap)).filterMap id=us/\us≠[]/\∀u∈us,∃n t,u=Value.int n t:=by
  refine⟨_,rfl,?_,λu hu=>?_⟩
  ·cases vs with
   | nil=>exact absurd rfl h1
   | cons v vs=>
    obtain⟨n,t,e⟩:=hi v Xi;rw[Xt,e];simp
  ·rw[List.mem_filterMap]at hu;obtain⟨o,ho,e⟩:=hu;obtain⟨v,hm,rfl⟩:=XL.mp ho;obtain⟨n,t,e2⟩:=hi v hm;have e:zeV s.heap v=some u:=e;rw[e2]at e;exact⟨n,t,(Option.some.inj e).symm⟩
 obtain⟨us,e1,e2,e3⟩:=hx;refine wpAny_bind (wpAny_rule ?_);rw[List.filterMap_toArray,e1,oneTypeOnly'_eq,List.mapM_toArray,mapM_typeOf_ints (intsAre_map us e3)];simp only[map_pure,pure_bind];cases us with
 | nil=>exact absurd rfl e2
 | cons u us=>
  have h0:(XV (λ_=>Value.type "int") (u::us)).toArray[0]? = some (Value.type "int"):=rfl;have hall:((XV (λ_=>Value.type "int") (u::us)).toArray.all λx=>x == Value.type "int")=true:=by
   rw[List.all_toArray,YJ,XM];intro _ _;rfl
  rw[h0];simp only[hall,if_true,pure_bind];exact wpAny_pure h
noncomputable abbrev refsOf (us:List (Addr×List Int)):List Value:=us.map λu=>Value.ref u.1
theorem zda:∀us:List (Addr×List Int),(refsOf us).zip (refsOf us)=us.map λu=>(Value.ref u.1,Value.ref u.1)
 | []=>rfl
 | u::us=>by show(_,_)::(refsOf us).zip (refsOf us)=_;rw[zda us];rfl
theorem zdb {a:Addr}{us:List (Addr×List Int)}{n:Nat}{P:Fin->Shared->Prop}(ho:s.heap.get? a=some (seqObj "list" (refsOf us).toArray n)) (hT:∀u∈us,TupAt s.heap (.ref u.1) u.2/\u.2≠[]) (hsz:us.length<=sizeLine)
  (h:∀us',us'.Perm us->(us'.map (·.2)).Pairwise (λx y=>ltI y x=false)->P (.done (.ret .none)) { s with heap:=sortedHeap s.heap a (refsOf us) (refsOf us').toArray }) :
  wpAny (model prog w) A (Builtin.«list.sort» ⟨[.ref a],[]⟩) P E s:=by
 rw[list_sort_plain];have ha:a<s.heap.objs.size:=Xx ho;refine wpAny_bind (listItems_at ho rfl (wpAny_bind (listUpdate_at ho rfl ?_ (hsz:=by rw[Xm,Xc];exact hsz) (hsz2:=XX _))));obtain⟨e1,ho1⟩:∃e1,(s.heap.update a (Obj.mapSeq λ_=>#[])).get? a=some (seqObj "list" #[] e1):=⟨_,get?_update_seq ho (λ_=>#[])⟩;refine wpAny_bind (seqEpoch_at ho1 rfl (wpAny_bind (wpAny_newTuple (wpAny_bind (wpAny_newList (wpAny_holding ?_))))));obtain⟨h6,eh⟩:∃h6,h6=(((s.heap.update a (Obj.mapSeq λ_=>#[])).push (seqObj "tuple" (refsOf us).toArray 0)).push (seqObj "list" #[] 0)):=⟨_,rfl⟩;have kp:∀b,b<s.heap.objs.size->h6.get? b=(s.heap.update a (Obj.mapSeq λ_=>#[])).get? b:=λb hb=>by
  rw[eh,Heap.get?_push_ne _ _ _ (by rw[size_push',Heap.size_update];exact XJ (YE hb)),Heap.get?_push_ne _ _ _ (by rw[Heap.size_update];exact XJ hb)]
 have ho6:h6.get? a=some (seqObj "list" #[] e1):=by rw[kp a ha];exact ho1
 have hT6:∀u∈us,TupAt h6 (.ref u.1) u.2:=λu hu=>by
  obtain⟨b,o,vs,m,e,hb,c,d,i⟩:=(hT u hu).1;cases e;have hne:u.1≠a:=λz=>by rw[z,ho]at hb;cases hb;injection c with c;exact absurd c (by decide)
  refine⟨u.1,o,vs,m,rfl,?_,c,d,i⟩;rw[kp u.1 (Xx hb),Yb _ _ (Ne.symm hne)];exact hb
 show wpAny (model prog w) A _ P E { s with heap:=(((s.heap.update a (Obj.mapSeq λ_=>#[])).push (seqObj "tuple" (refsOf us).toArray 0)).push (seqObj "list" #[] 0)) };have hfin:∀us':List (Addr×List Int),us'.Perm us->(us'.map (·.2)).Pairwise (λx y=>ltI y x=false)->P (.done (.ret .none)) { s with heap:=h6.update a (Obj.mapSeq λ_=>(refsOf us').toArray) }:=by
  rw[eh];exact h
 rw[<- eh];dsimp only;by_cases h2:(refsOf us).toArray.size<2
 ·rw[if_pos h2,if_pos h2];refine wpAny_bind (wpAny_pure ?_);rw[StateT.run_pure];refine wpAny_bind (wpAny_pure (wpAny_bind (seqEpoch_at ho6 rfl (wpAny_bind (listUpdate_at ho6 rfl ?_ (hsz:=XX _) (hsz2:=?_))))))
  ·simp only[bne_self_eq_false,Xu,if_false];have e2:Array.map (λx=>x.2) (arrOf (SortSt.mk' general' ((refsOf us).toArray.zip (refsOf us).toArray) #[] 7 none))=(refsOf us).toArray:=by
    show Array.map (λx=>x.2) ((refsOf us).toArray.zip (refsOf us).toArray)=_;rw[List.zip_toArray,zda,List.map_toArray,List.map_map];rfl
   refine wpAny_pure ?_;have q:=hfin us (.refl _) (by
    rw[Xm,Xc]at h2
    match us,h2 with
    | [],_=>exact List.Pairwise.nil
    | [u],_=>simp)
   rw[<- e2]at q;exact q
  ·rw[Array.size_map];show((refsOf us).toArray.zip (refsOf us).toArray).size<=_;rw[List.zip_toArray,Xm,zda,Xc];lia
 ·rw[if_neg h2,if_neg h2];have hpos:us≠[]:=λz=>by subst z;exact h2 (by decide)
  refine wpAny_bind (zmB (s:={ s with heap:=h6 }) (λv hv=>?_) (λz=>hpos (List.map_eq_nil_iff.mp z)) ?_)
  ·obtain⟨u,hu,rfl⟩:=XL.mp hv;exact⟨u.2,hT6 u hu,(hT u hu).2⟩
  have hW:=zqE (prog:=prog) (w:=w) (A:=A) (E:=E) (s:={ s with heap:=h6 }) (zoG (s:={ s with heap:=h6 }) true) (zoH h6) (st:=SortSt.mk' (tuples' true) ((refsOf us).toArray.zip (refsOf us).toArray) #[] 7 none)
   (Q:=λ_ st'=>(arrOf st').Perm ((refsOf us).toArray.zip (refsOf us).toArray)/\failedOf st'=none/\(arrOf st').toList.Pairwise (Le λx y=>ltI (gOf h6 x.1) (gOf h6 y.1))) rfl rfl rfl (λj x hx=>?_) (λst' a1 a2 a3=>⟨a1,a2,a3⟩)
  ·refine wpAny_bind (wpAny_mono hW ?_ λ_ _ e=>e);rintro⟨⟨⟩,st'⟩ s' ⟨rfl,hp,hf,hs⟩;dsimp only;have hpl:(arrOf st').toList.Perm (us.map λu=>(Value.ref u.1,Value.ref u.1)):=by
    have q:=Array.perm_iff_toList_perm.mp hp;rw[List.zip_toArray,zda]at q;exact q
   obtain⟨us',p1,p2⟩:=zgF hpl us rfl;have e2:Array.map (λx=>x.2) (arrOf st')=(refsOf us').toArray:=by
    have e3:arrOf st'=(us'.map λu=>(Value.ref u.1,Value.ref u.1)).toArray:=by rw[<- p2,Array.toArray_toList]
    rw[e3,List.map_toArray,List.map_map];rfl
   refine wpAny_bind (seqEpoch_at ho6 rfl (wpAny_bind (listUpdate_at ho6 rfl ?_ (hsz:=XX _) (hsz2:=?_))))
   ·rw[hf];simp only[bne_self_eq_false,Xu,if_false];refine wpAny_pure ?_;have q:=hfin us' p1 (by
     rw[p2,YQ]at hs;rw[YQ];refine hs.imp_of_mem λ{x y} hx hy z=>?_;have z:ltI (gOf h6 (.ref y.1)) (gOf h6 (.ref x.1))=false:=z;rw[zit (hT6 y (p1.mem_iff.mp hy)),zit (hT6 x (p1.mem_iff.mp hx))]at z;exact z)
    rw[<- e2]at q;exact q
   ·show(Array.map (λx=>x.2) (arrOf st')).size<=_;rw[e2,Xm,Xc,p1.length_eq];lia
  ·have hm:x∈(us.map λu=>(Value.ref u.1,Value.ref u.1)):=by
    have hx:((refsOf us).toArray.zip (refsOf us).toArray)[j]? = some x:=hx;rw[List.zip_toArray,zda,List.getElem?_toArray]at hx;exact Xl hx
   obtain⟨u,hu,rfl⟩:=XL.mp hm;exact⟨u.2,hT6 u hu⟩
theorem zhq {l:Addr}{us:List (Addr×List Int)}{Q:Value->Shared->Prop}(hl:s.heap.IsList l (refsOf us).toArray)(hT:∀u∈us,TupAt s.heap (.ref u.1) u.2/\u.2≠[])(hsz:us.length<=sizeLine)
  (h:∀us',us'.Perm us->(us'.map (·.2)).Pairwise (λx y=>ltI y x=false)->Q (.ref (s.heap.objs.size+1)) { s with heap:=sortedAll s.heap (refsOf us) (refsOf us').toArray }) :
  wpAny (model prog w) A (call (.builtin "sorted") [.ref l]) Q E s:=by
 refine Calls.call_function_entry kind_sorted plain_sorted entry_sorted (args_sorted1 _) ?_;unfold Builtin.«sorted»;refine wpAny_bind (m:=checkCount "sorted" 1 1 _) (wpAny_pure (wpAny_bind (collect_list hl (wpAny_bind (wpAny_newList ?_)) (hsz:=by rw[Xc];exact hsz))));obtain⟨h5,eh⟩:∃h5,h5=(s.heap.push (seqObj "list" #[] 0)).update s.heap.objs.size (Obj.mapSeq (·++(refsOf us).toArray)):=⟨_,rfl⟩;have hz:h5.objs.size=s.heap.objs.size+1:=by rw[eh,Heap.size_update,size_push']
 have hoL:(h5.push (seqObj "list" (refsOf us).toArray 0)).get? (s.heap.objs.size+1)=some (seqObj "list" (refsOf us).toArray 0):=by rw[<- hz];exact XG _ rfl
 have kp:∀b o,s.heap.get? b=some o->(h5.push (seqObj "list" (refsOf us).toArray 0)).get? b=some o:=λb o e=>by
  have hb:=Xx e;rw[Heap.get?_push_ne _ _ _ (by rw[hz];exact XJ (YE hb)),eh,Yb _ _ (Nat.ne_of_gt hb),Heap.get?_push_ne _ _ _ (XJ hb)];exact e
 have hfin:∀us',us'.Perm us->(us'.map (·.2)).Pairwise (λx y=>ltI y x=false)->Q (.ref (s.heap.objs.size+1)) { s with heap:=sortedHeap (h5.push (seqObj "list" (refsOf us).toArray 0)) (s.heap.objs.size+1) (refsOf us) (refsOf us').toArray }:=by
  rw[eh];exact h
 show wpAny _ _ _ _ _ { s with heap:=((s.heap.push (seqObj "list" #[] 0)).update s.heap.objs.size (Obj.mapSeq (·++(refsOf us).toArray))).push (seqObj "list" (refsOf us).toArray 0) };rw[<- eh,hz];refine wpAny_bind (wpAny_holding (wpAny_call_entry slot_list_sort ⟨_,hoL,rfl⟩ entry_list_sort (zdb (s:={ s with heap:=h5.push (seqObj "list" (refsOf us).toArray 0) }) hoL (λu hu=>?_) hsz λus' a1 a2=>⟨_,rfl,?_⟩) (args_list_sort _)))
 ·obtain⟨⟨b,o,vs,m,e,hb,c,d,i⟩,z⟩:=hT u hu;exact⟨⟨b,o,vs,m,e,kp b o hb,c,d,i⟩,z⟩
 ·exact wpAny_pure ⟨_,rfl,hfin us' a1 a2⟩
end
end Srt
namespace L2
open PySem PySem.Spec PyProof.Rows
theorem zeE:∀ {us:List (Addr×List Int)}{its:List Value},Vals (us.map λu=>V.ref u.1) its->its=Srt.refsOf us
 | [],_,r=>by cases r;rfl
 | u::us,_,r=>by
  cases r with
  | cons r1 r2=>
   have e:_=Value.ref u.1:=r1;rw[e,zeE r2];rfl
theorem zeF:∀(us:List (Addr×List Int)),Vals (us.map λu=>V.ref u.1) (Srt.refsOf us)
 | []=>.nil
 | u::us=>.cons rfl (zeF us)
theorem ints_of:∀ {ns:List Int}{its:List Value},Vals (ns.map V.int) its->IntsAre its ns
 | [],_,r=>by cases r;exact .nil
 | n::ns,_,r=>by
  cases r with
  | cons r1 r2=>
   obtain⟨t,rfl⟩:=(show ∃t,_=Value.int n t from r1);exact .cons n t (ints_of r2)
noncomputable def zjf (v d:Addr):HO:=.ext λh=>PySem.W.KdlKeysView h v d
section
variable {X:Cx}
theorem zjg:zcz X (.builtin "sorted") (λxs H Q=>∃(p:Addr) (us:List (Addr×List Int)),xs=[.ref p]/\SqL X.K H p (us.map λu=>V.ref u.1)/\(∀u∈us,SqT X.K H u.1 (u.2.map V.int)/\u.2≠[])/\
  ∀(l:Addr) (us':List (Addr×List Int)),H l=none->us'.Perm us->(us'.map (·.2)).Pairwise (λx y=>Srt.ltI y x=false)->Q (.ref l) (upd H l (.lst (us'.map λu=>V.ref u.1)))):=by
 intro pins s σ H xs us Q I r h;obtain⟨p,us,rfl,hp,hT,q⟩:=h;obtain⟨u,rfl,rx⟩:=vals1 r;cases rx;obtain⟨its,r,ht,hz⟩:=I.list hp;have ei:=zeE r;subst ei;rw[Xc]at hz;refine Srt.zhq ht.isList (λu hu=>?_) (by lia) λus' a1 a2=>?_
 ·obtain⟨h1,h2⟩:=hT u hu;obtain⟨its2,rv,⟨o,ho,hc,n,hd⟩,_⟩:=I.tuple h1;exact⟨⟨u.1,o,its2,n,rfl,ho,hc,hd,ints_of rv⟩,h2⟩
 ·obtain⟨e,he⟩:=sortedAll_at s.heap (Srt.refsOf us) (Srt.refsOf us').toArray;have kp:∀b o,s.heap.get? b=some o->(sortedAll s.heap (Srt.refsOf us) (Srt.refsOf us').toArray).get? b=some o:=λ_ _=>sortedAll_old;refine⟨.ref (s.heap.objs.size+1),_,I.laid (t':=s.toks) (o:=.lst (us'.map λu=>V.ref u.1)) kp (Nat.le_succ _) ?_,rfl,q _ us' (I.hok.fresh (Nat.le_succ _)) a1 a2⟩;exact⟨by rw[Xc,a1.length_eq];exact hz,Srt.refsOf us',e,zeF us',he⟩
theorem zoI:MtR X "dict.keys" (λx xs H Q=>∃(d:Addr) (kvs:List (Key×V)),x=.ref d/\xs=[]/\Rd H d (.dK kvs)/\∀v,H v=none->Q (.ref v) (upd H v (zjf v d))):=by
 intro pins s σ H x xs v us Q I rx rv h;obtain⟨d,kvs,rfl,rfl,hq,q⟩:=h;cases rx;cases rv;obtain⟨z,lo,vs,rel,dd⟩:=zeh I.hok hq;refine call_meetsIn PySem.F.slot_dict_keys dd.typeIs PySem.F.entry_dict_keys (PySem.F.args_dict_keys_1 _) (PySem.W.kdl_meets_keys (zax X.prog X.w) d lo) ⟨⟨vs,dd⟩,?_⟩;refine⟨.ref s.heap.objs.size,_,I.laid (t':=s.toks) (o:=zjf s.heap.objs.size d) (λb o e=>Xg _ e) (Xo _) ?_,rfl,q _ I.fresh⟩;exact⟨⟨_,XG _ rfl,rfl,rfl⟩,⟨_,XG _ rfl⟩,λh1 h2 q110q k=>by obtain⟨o,e,c⟩:=q110q;exact⟨o,k o e,c⟩⟩
end
end L2
namespace PL
open PySem PySem.Spec L2
open PyProof.Rows hiding St
open Srt (ltI zdR zfO zeC zeD)
noncomputable def sortI (ss:List (List Int)):List (List Int):=ss.mergeSort λa b=>!ltI b a
theorem sortI_perm (ss:List (List Int)):(sortI ss).Perm ss:=List.mergeSort_perm ss _
theorem ziw (ss:List (List Int)):(sortI ss).Pairwise (λx y=>ltI y x=false):=by
 have h:=List.pairwise_mergeSort (le:=λa b:List Int=>!ltI b a) (λa b c h1 h2=>by
  simp only[Bool.not_eq_true']at h1 h2 ⊢;exact zeD h1 h2) (λa b=>by
  cases h:ltI b a with
  | false=>rfl
  | true=>rw[zdR _ _ h];rfl) ss
 exact h.imp λ{a b} z=>by simpa using z
theorem zdc:∀ {l m:List (List Int)},l.Perm m->l.Pairwise (λx y=>ltI y x=false)->m.Pairwise (λx y=>ltI y x=false)->l=m
 | [],m,h,_,_=>(List.nil_perm.mp h).symm
 | a::l,[],h,_,_=>absurd h.length_eq (by simp)
 | a::l,b::m,h,h1,h2=>by
  have e:a=b:=by
   rcases Xv.mp (h.mem_iff.mp Xi)with z | z
   ·exact z
   ·rcases Xv.mp (h.symm.mem_iff.mp (Xi (a:=b) (l:=m)))with y | y
    ·exact y.symm
    ·exact zfO _ _ ((List.pairwise_cons.mp h2).1 a z) ((List.pairwise_cons.mp h1).1 b y)
  subst e;rw[zdc ((List.perm_cons a).mp h) (List.pairwise_cons.mp h1).2 (List.pairwise_cons.mp h2).2]
theorem zfP {zs ss:List (List Int)}(h:zs.Perm ss)(hp:zs.Pairwise (λx y=>ltI y x=false)):zs=sortI ss:=zdc (h.trans (sortI_perm ss).symm) hp (ziw ss)
theorem zix {K:Xa}{Fz:FZ}{H:Hp}:∀ {ss:List Int}{xs:List V},DenL K Fz H (ss.map PV.int) xs->xs=ss.map V.int
 | [],xs,h=>by rw[List.map_nil]at h;simp only[DenL]at h;exact h
 | s::r,xs,h=>by
  rw[Xt]at h;simp only[DenL]at h;obtain⟨v,t,z,h1,h2⟩:=h;simp only[Den]at h1;subst z h1;rw[Xt,zix h2]
theorem ziy {K:Xa}{Fz:FZ}{H:Hp}:∀(ss:List Int),DenL K Fz H (ss.map PV.int) (ss.map V.int)
 | []=>DenL.nil
 | s::r=>by rw[Xt,Xt];exact DenL.cons (by simp only[Den]) (ziy r)
theorem zeG {K:Xa}{Fz:FZ}{H:Hp}:∀ {ss:List (List Int)}{xs:List V},DenL K Fz H (ss.map λr=>PV.tup (r.map PV.int)) xs->∃us:List (Addr×List Int),xs=us.map (λu=>V.ref u.1)/\us.map (·.2)=ss/\∀u∈us,H u.1=some (.tup (u.2.map V.int))
 | [],xs,h=>by rw[List.map_nil]at h;simp only[DenL]at h;exact⟨[],h,rfl,λu hu=>by cases hu⟩
 | s::r,xs,h=>by
  rw[Xt]at h;simp only[DenL]at h;obtain⟨v,t,z,h1,h2⟩:=h;simp only[Den]at h1;obtain⟨p,ys,e1,e2,e3⟩:=h1;have e4:=zix e3;subst e4;obtain⟨us,g1,g2,g3⟩:=zeG h2;refine⟨(p,s)::us,by rw[z,e1,g1];rfl,by rw[Xt,g2],λu hu=>?_⟩;rcases Xv.mp hu with rfl | hu
  ·exact e2
  ·exact g3 u hu
theorem zeH {K:Xa}{Fz:FZ}{H:Hp}:∀(us:List (Addr×List Int)),(∀u∈us,H u.1=some (.tup (u.2.map V.int)))->DenL K Fz H ((us.map (·.2)).map λr=>PV.tup (r.map PV.int)) (us.map λu=>V.ref u.1)
 | [],_=>DenL.nil
 | u::us,h=>by
  rw[Xt,Xt,Xt];refine DenL.cons ?_ (zeH us λv hv=>h v (Xe _ hv));simp only[Den];exact⟨u.1,_,rfl,h u Xi,ziy u.2⟩
noncomputable def zbX:PF:=λds Q=>∃ss:List (List Int),ds=[.lst (ss.map λr=>PV.tup (r.map PV.int))]/\(∀r∈ss,r≠[])/\Q (.lst ((sortI ss).map λr=>PV.tup (r.map PV.int))) .new
theorem zmC {X:Cx}:zfE X.K (λxs H Q=>∃(p:Addr)(us:List (Addr×List Int)),xs=[.ref p]/\SqL X.K H p (us.map λu=>V.ref u.1)/\(∀u∈us,SqT X.K H u.1 (u.2.map V.int)/\u.2≠[])/\
  ∀(l:Addr) (us':List (Addr×List Int)),H l=none->us'.Perm us->(us'.map (·.2)).Pairwise (λx y=>Srt.ltI y x=false)->Q (.ref l) (upd H l (.lst (us'.map λu=>V.ref u.1)))) zbX where
 mono ds Q Q' m h:=by obtain⟨ss,e1,e2,q⟩:=h;exact⟨ss,e1,e2,m _ _ q⟩
 run Fz H ds vs Q al r h:=by
  obtain⟨ss,rfl,e2,q⟩:=h;obtain⟨v,rfl,rv⟩:=zff r;obtain⟨a,xs,rfl,h1,h2⟩:=zam rv;obtain⟨us,rfl,g2,g3⟩:=zeG h2;refine⟨a,us,rfl,h1,λu hu=>⟨SqT.of (g3 u hu),e2 _ (by rw[<- g2];exact XL.mpr ⟨u,hu,rfl⟩)⟩,λl us' hl hz hs=>?_⟩;have ez:us'.map (·.2)=sortI ss:=zfP (by rw[<- g2];exact hz.map _) hs;have hd:DenL X.K Fz H ((us'.map (·.2)).map λr=>PV.tup (r.map PV.int)) (us'.map λu=>V.ref u.1):=zeH us' λu hu=>g3 u (hz.mem_iff.mp hu);rw[ez]at hd;exact q _ Fz _ (.newL al hl hd)
section
variable {X:Cx}{e:Expr}{es:List Expr}{te:TPE}{t:TPA}{x:Str}{p p1 p2 q1 pos pos2 apos cpos:Pos}
theorem zmD (hg:Gl X "sorted") (hm:X.mg "sorted" = none) (ha:PuA X (e::es) t) (he:autoParam (starEach (e::es) X.env=(false,eval e X.env)::starEach es X.env) aU0) (hpl:autoParam ((backTo pos (starEach es X.env)).any (·.1)=false) aU0):PuE X (.Call (.Name "sorted" p) (e::es) [] pos) (tB zbX t):=
 zdP zjg zmC hg hm zkA ha (by decide) (by decide) he hpl
end
end PL
namespace JS
open PySem
noncomputable abbrev tb (m:Nat):SetTable:={ SetTable.fresh 0 0 true with mask:=m }
noncomputable def pth (m:Nat)(h:Int):Nat->SetTable.Probe
 | 0=>(tb m).probeStart h
 | n+1=>(tb m).advance (pth m h n)
noncomputable def hdP (m:Nat)(h:Int):Nat->Nat×Nat
 | 0=>(SetTable.bits h % (m+1),SetTable.bits h)
 | k+1=>SetTable.leap m (hdP m h k).1 (hdP m h k).2
noncomputable def ixP (m:Nat)(h:Int):Nat->Nat
 | 0=>0
 | k+1=>ixP m h k+(Ym m (hdP m h k).1-(hdP m h k).1)+1
theorem zkU (m i:Nat):i<=Ym m i/\Ym m i<=i+9/\(i<=m->Ym m i<=m):=by
 unfold Ym;split<;>lia
theorem zkV (m:Nat)(h:Int):∀k,(hdP m h k).1<=m
 | 0=>Nat.le_of_lt_succ (Nat.mod_lt _ (Nat.succ_pos _))
 | k+1=>Nat.le_of_lt_succ (Nat.mod_lt _ (Nat.succ_pos _))
theorem zdq (m:Nat)(h:Int):∀k r,r<=Ym m (hdP m h k).1-(hdP m h k).1->
  pth m h (ixP m h k+r)={ j:=(hdP m h k).1+r,more:=Ym m (hdP m h k).1-(hdP m h k).1-r,i:=(hdP m h k).1,perturb:=(hdP m h k).2,dummy:=none }
 | 0,0,_=>rfl
 | k+1,0,_=>by
  have q:=zdq m h k _ (Xo _);show(tb m).advance (pth m h (ixP m h k+(Ym m (hdP m h k).1-(hdP m h k).1)))=_;rw[q];unfold SetTable.advance;rw[if_neg (by simp)];rfl
 | k,r+1,hr=>by
  have q:=zdq m h k r (by lia);show(tb m).advance (pth m h (ixP m h k+r))=_;rw[q];unfold SetTable.advance;rw[if_pos (show _ > 0 by dsimp only;lia)];rfl
termination_by k r=>(k,r)
theorem znx (m:Nat)(h:Int):∀k,ixP m h k<=10*k
 | 0=>Xo _
 | k+1=>by
  have:=znx m h k;have:=zkU m (hdP m h k).1;show ixP m h k+_+1<=_;lia
theorem zny (m:Nat)(h:Int)(n:Nat):∃k r,r<=Ym m (hdP m h k).1-(hdP m h k).1/\n=ixP m h k+r:=by
 induction n with
 | zero=>exact⟨0,0,XX _,rfl⟩
 | succ n ih=>
  obtain⟨k,r,hr,e⟩:=ih;by_cases c:r=Ym m (hdP m h k).1-(hdP m h k).1
  ·exact⟨k+1,0,XX _,by rw[e,c];rfl⟩
  ·exact⟨k,r+1,by lia,by lia⟩
theorem znz (m:Nat)(h:Int)(n:Nat):(pth m h n).j<=m:=by
 obtain⟨k,r,hr,rfl⟩:=zny m h n;rw[zdq m h k r hr];have:=zkV m h k;have:=(zkU m (hdP m h k).1).2.2 this;dsimp only;lia
theorem zqF (m:Nat)(h:Int)(n:Nat):(pth m h n).dummy=none:=by
 obtain⟨k,r,hr,rfl⟩:=zny m h n;rw[zdq m h k r hr]
theorem zkW (m:Nat)(h:Int):∀k,(hdP m h k).2=SetTable.bits h / 32 ^ k
 | 0=>by show SetTable.bits h=_;simp
 | k+1=>by
  show(hdP m h k).2 / 32=_;rw[zkW m h k,Nat.div_div_eq_div_mul,Nat.pow_succ]
theorem zoJ (h:Int):SetTable.bits h<2 ^ 64:=by
 unfold SetTable.bits;have h1:h % (2 ^ 64:Int)<2 ^ 64:=YK h (by decide);have h2:0<=h % (2 ^ 64:Int):=Yt h (by decide);lia
noncomputable def lcg (m:Nat):Nat->Nat->Nat
 | 0,i=>i
 | k+1,i=>lcg m k ((i*5+1) % (m+1))
theorem zkX (m:Nat)(h:Int):∀k K,13<=K->(hdP m h (K+k)).1=lcg m k (hdP m h K).1
 | 0,K,_=>rfl
 | k+1,K,hK=>by
  have q:=zkX m h k (K+1) (by lia);rw[show K+1+k=K+(k+1) by lia]at q;rw[q];show lcg m k (((hdP m h K).1*5+1+(hdP m h K).2 / 32) % (m+1))=lcg m k (((hdP m h K).1*5+1) % (m+1));have z:(hdP m h K).2 / 32=0:=by
   rw[zkW];have h1:=zoJ h;have h2:SetTable.bits h / 32 ^ K=0:=by
    apply Nat.div_eq_of_lt;exact XE h1 (YH (show 2 ^ 64<=32 ^ 13 by decide) (Nat.pow_le_pow_right (by decide) hK))
   rw[h2]
  rw[z,Nat.add_zero]
noncomputable abbrev okM (m:Nat):Prop:=m=7\/m=31\/m=127
noncomputable def orb (m:Nat):Nat->Nat->List Nat
 | 0,_=>[]
 | n+1,i=>i::orb m n ((i*5+1) % (m+1))
theorem zkY (m:Nat):∀(n k i:Nat),k<n->(orb m n i)[k]? = some (lcg m k i)
 | n+1,0,i,_=>rfl
 | n+1,k+1,i,h=>by
  show(orb m n _)[k]? = _;exact zkY m n k _ (by lia)
theorem zhr (m:Nat):∀n i,(orb m n i).length=n
 | 0,_=>rfl
 | n+1,i=>by show(orb m n _).length+1=_;rw[zhr]
theorem zfQ (m:Nat):∀a b i,lcg m (a+b) i=lcg m b (lcg m a i)
 | 0,b,i=>by rw[Nat.zero_add];rfl
 | a+1,b,i=>by
  rw[show a+1+b=(a+b)+1 by lia];exact zfQ m a b _
noncomputable def covB (m:Nat):Bool:=(Ya (m+1)).all (λe=>(orb m (m+1) 0).contains e)&&(orb m (m+2) 0)[m+1]? == some 0
theorem cov7:covB 7=true:=by decide +kernel
theorem zrF:covB 31=true:=by decide +kernel
theorem zqG:covB 127=true:=by decide +kernel
theorem cov {m:Nat}(hm:okM m){i e:Nat}(hi:i<=m)(he:e<=m):∃k,k<=m/\lcg m k i=e:=by
 have c:covB m=true:=by
  rcases hm with rfl | rfl | rfl
  ·exact cov7
  ·exact zrF
  ·exact zqG
 unfold covB at c;rw[Yr]at c;obtain⟨c1,c2⟩:=c;have at0:∀e,e<=m->∃k,k<=m/\lcg m k 0=e:=λe he=>by
  have h1:=XM.mp c1 e (Ye.mpr (by lia));have h2:e∈orb m (m+1) 0:=by simpa using h1
  obtain⟨k,hk,q⟩:=List.mem_iff_getElem.mp h2;rw[zhr]at hk;have q2:=zkY m (m+1) k 0 hk;rw[Xb (by rw[zhr];exact hk),q]at q2;exact⟨k,by lia,(Option.some.inj q2).symm⟩
 have per:lcg m (m+1) 0=0:=by
  have q:=eq_of_beq c2;rw[zkY m (m+2) (m+1) 0 (by lia)]at q;exact Option.some.inj q
 obtain⟨x,hx,ex⟩:=at0 i hi;obtain⟨y,hy,ey⟩:=at0 e he;rcases YI y x with z | z
 ·refine⟨m+1-x+y,by lia,?_⟩;rw[<- ex,<- zfQ,show x+(m+1-x+y)=(m+1)+y by lia,zfQ,per];exact ey
 ·refine⟨y-x,by lia,?_⟩;rw[<- ex,<- zfQ,show x+(y-x)=y by lia];exact ey
theorem znA {m:Nat}(hm:okM m)(h:Int){e:Nat}(he:e<=m):∃k,k<=m+13/\(hdP m h k).1=e:=by
 obtain⟨k,hk,q⟩:=cov hm (zkV m h 13) he;exact⟨13+k,by lia,by rw[zkX m h k 13 (by lia)];exact q⟩
theorem least {p:Nat->Prop}(n:Nat)(hn:p n):∃k,k<=n/\p k/\∀i,i<k->¬ p i:=by
 induction n using Nat.strongRecOn with
 | ind n ih=>
  by_cases h:∃i,i<n/\p i
  ·obtain⟨i,hi,pi⟩:=h;obtain⟨k,h1,h2,h3⟩:=ih i hi pi;exact⟨k,by lia,h2,h3⟩
  ·exact⟨n,Xo _,hn,λi hi pi=>h ⟨i,hi,pi⟩⟩
theorem zjh {m:Nat}(hm:okM m)(h:Int){l:List Nat}(hz:∃e,e<=m/\e∉l):∃N,N<=10*(m+13)/\(pth m h N).j∉l/\∀d,d<N->(pth m h d).j∈l:=by
 obtain⟨e,he,hn⟩:=hz;obtain⟨k,hk,q⟩:=znA hm h he;have e1:=zdq m h k 0 (XX _);have e2:(pth m h (ixP m h k)).j=e:=by rw[show ixP m h k=ixP m h k+0 from rfl,e1];exact q
 obtain⟨N,h1,h2,h3⟩:=least (p:=λn=>(pth m h n).j∉l) (ixP m h k) (by rw[e2];exact hn);have:=znx m h k;exact⟨N,by lia,h2,λd hd=>Classical.byContradiction (h3 d hd)⟩
theorem zgG {l:List Nat}{m:Nat}(hl:l.length<m+1):∃e,e<=m/\e∉l:=by
 refine Classical.byContradiction λhno=>?_;have hall:∀e,e<m+1->e∈l:=λe he=>Classical.byContradiction λhn=>hno ⟨e,by lia,hn⟩;have:∀(k:Nat) (l:List Nat),(∀e,e<k->e∈l)->k<=l.length:=by
  intro k;induction k with
  | zero=>intro l _;exact XX _
  | succ k ih=>
   intro l h;have h1:=h k (Nat.lt_succ_self k);have h2:=ih (l.erase k) λe he=>(List.mem_erase_of_ne (XJ he)).mpr (h e (by lia));rw[List.length_erase_of_mem h1]at h2;have:0<l.length:=List.length_pos_of_mem h1;lia
 have:=this (m+1) l hall;lia
section
variable {t:SetTable}
theorem zkZ (ha:Asc t.place){j:Nat}(hj:j∈t.place.toList):∃i,t.slot j=.live i/\t.place[i]? = some j:=by
 obtain⟨h1,h2,h3⟩:=zdM ha j;obtain⟨i,hi,e⟩:=List.mem_iff_getElem.mp hj;have hi':i<t.place.size:=by simpa using hi
 have e':t.place.getD i 0=j:=by simpa[Array.getD,hi']using e
 have q1:¬ i<XU t.place j:=λz=>by have:=h2 i z;lia
 have q2:i=XU t.place j:=by
  rcases YI (XU t.place j) i with z | z
  ·have:=ha.lt z hi';have:=h3 (XU t.place j) (Xo _) (by lia);lia
  ·lia
 have q3:t.place[i]? = some j:=by rw[<- Xn,Xb hi,e]
 refine⟨i,?_,q3⟩;unfold SetTable.slot;rw[<- q2];dsimp only;rw[if_pos (by rw[q3];simp)]
theorem zji (hd:t.dummies = #[]){j:Nat}(hj:j∉t.place.toList):t.slot j=.empty:=by
 unfold SetTable.slot;dsimp only;rw[if_neg,if_neg]
 ·rw[hd];unfold SetTable.has;simp
 ·intro z;have q:=eq_of_beq z;exact hj (Xl (by rw[Xn];exact q))
theorem znB (ha:Asc t.place)(hd:t.dummies = #[])(g:Nat->Int)(h:Int){N:Nat}(hN:(pth t.mask h N).j∉t.place.toList)(hL:∀d,d<N->(pth t.mask h d).j∈t.place.toList):∀(fuel c:Nat),c<=N->N-c<fuel->
  (∃e i,c<=e/\e<N/\t.slot (pth t.mask h e).j=.live i/\t.place[i]? = some (pth t.mask h e).j/\g i=h/\SetTable.probe.go t g h fuel (pth t.mask h c)=some (.candidate (pth t.mask h e).j i (pth t.mask h (e+1)))/\∀d i',c<=d->d<e->t.place[i']? = some (pth t.mask h d).j->g i'≠h)\/
  (SetTable.probe.go t g h fuel (pth t.mask h c)=some (.empty (pth t.mask h N).j none)/\∀d i',c<=d->d<N->t.place[i']? = some (pth t.mask h d).j->g i'≠h)
 | 0,c,_,hf=>absurd hf (Nat.not_lt_zero _)
 | fuel+1,c,hc,hf=>by
  by_cases e:c=N
  ·subst e;refine .inr ⟨?_,λd i' h1 h2=>by lia⟩;unfold SetTable.probe.go;rw[zji hd hN,zqF]
  ·obtain⟨i,hs,hp⟩:=zkZ ha (hL c (by lia));have step:t.advance (pth t.mask h c)=pth t.mask h (c+1):=rfl;have uniq:∀i',t.place[i']? = some (pth t.mask h c).j->i'=i:=λi' hi'=>by
    have nd:t.place.toList.Nodup:=ha.imp λh=>XJ h;have e1:t.place.toList[i']? = some (pth t.mask h c).j:=by rw[Xn];exact hi'
    have e2:t.place.toList[i]? = some (pth t.mask h c).j:=by rw[Xn];exact hp
    exact(List.getElem?_inj (Xj.mp e1).1 nd).mp (e1.trans e2.symm)
   by_cases gi:g i=h
   ·refine .inl ⟨c,i,Xo _,by lia,hs,hp,gi,?_,λd i' h1 h2=>by lia⟩;unfold SetTable.probe.go;rw[hs];dsimp only;rw[if_pos (by rw[gi];simp),step]
   ·have un:SetTable.probe.go t g h (fuel+1) (pth t.mask h c)=SetTable.probe.go t g h fuel (pth t.mask h (c+1)):=by
     conv=>lhs;unfold SetTable.probe.go
     rw[hs];dsimp only;rw[if_neg (by simpa using gi),step]
    rw[un];have no:∀i',t.place[i']? = some (pth t.mask h c).j->g i'≠h:=λi' hi'=>by rw[uniq i' hi'];exact gi
    rcases znB ha hd g h hN hL fuel (c+1) (by lia) (by lia)with ⟨e',i',q1,q2,q3,q4,q5,q6,q7⟩ | ⟨q1,q2⟩
    ·refine .inl ⟨e',i',by lia,q2,q3,q4,q5,q6,λd i2 h1 h2 h3=>?_⟩;rcases Nat.eq_or_lt_of_le h1 with z | z
     ·subst z;exact no i2 h3
     ·exact q7 d i2 z h2 h3
    ·refine .inr ⟨q1,λd i2 h1 h2 h3=>?_⟩;rcases Nat.eq_or_lt_of_le h1 with z | z
     ·subst z;exact no i2 h3
     ·exact q2 d i2 z h2 h3
end
structure TabS (t:SetTable)(es:Array (Int×Value)):Prop where
 msk:okM t.mask
 asc:Asc t.place
 dm:t.dummies = #[]
 sz:t.place.size=es.size
 le:∀j∈t.place.toList,j<=t.mask
 way:∀(i j:Nat) (e:Int×Value),es[i]? = some e->t.place[i]? = some j->∃n,(pth t.mask e.1 n).j=j/\∀m,m<n->(pth t.mask e.1 m).j∈t.place.toList
theorem TabS.free {t:SetTable}{es:Array (Int×Value)}(T:TabS t es)(hl:es.size<=t.mask)(h:Int):∃N,N<=10*(t.mask+13)/\(pth t.mask h N).j∉t.place.toList/\∀d,d<N->(pth t.mask h d).j∈t.place.toList:=
 zjh T.msk h (zgG (by rw[Xp,T.sz];lia))
theorem zdS {α:Type}(xs:Array α)(p:Nat)(x:α):(XZ xs p x).toList=xs.toList.take p++x::xs.toList.drop p:=by
 unfold XZ;simp[Array.toList_extract,YB,XR]
theorem zla {α:Type}{xs:Array α}{p:Nat}(hp:p<=xs.size)(x:α)(i:Nat):(XZ xs p x)[i]? = if i<p then xs[i]? else if i=p then some x else xs[i-1]?:=by
 rw[<- Xn,zdS];have hl:(xs.toList.take p).length=p:=by rw[XC,Xp];lia
 by_cases h1:i<p
 ·rw[if_pos h1,Yn (by lia),List.getElem?_take_of_lt h1,Xn]
 ·rw[if_neg h1,Yf (by lia),hl];by_cases h2:i=p
  ·subst h2;rw[if_pos rfl,Nat.sub_self];rfl
  ·rw[if_neg h2];obtain⟨d,rfl⟩:∃d,i=p+1+d:=⟨i-p-1,by lia⟩;rw[show p+1+d-p=d+1 by lia,Yx,List.getElem?_drop,Xn]
   congr 1
   lia
theorem zhs {xs:Array Nat}{p x j:Nat}:j∈(XZ xs p x).toList↔j=x\/j∈xs.toList:=by
 rw[zdS,XA,Xv]
 conv=>rhs;rw[<- XT p xs.toList]
 rw[XA];constructor
 ·rintro(h | h | h)
  ·exact .inr (.inl h)
  ·exact .inl h
  ·exact .inr (.inr h)
 ·rintro(h | h | h)
  ·exact .inr (.inl h)
  ·exact .inl h
  ·exact .inr (.inr h)
theorem ziz {α:Type}{xs:Array α}{p:Nat}(x:α):(XZ xs p x).size=xs.size+1:=by
 rw[<- Xp,zdS];simp;lia
theorem TabS.put {t:SetTable}{es:Array (Int×Value)}(T:TabS t es){h:Int}{x:Value}{N:Nat}(hN:(pth t.mask h N).j∉t.place.toList)(hL:∀d,d<N->(pth t.mask h d).j∈t.place.toList) :
  (t.put (pth t.mask h N).j).1.mask=t.mask/\(t.put (pth t.mask h N).j).1.led=t.led/\(t.put (pth t.mask h N).j).1.plain=t.plain/\TabS (t.put (pth t.mask h N).j).1 (XZ es (t.put (pth t.mask h N).j).2 (h,x)):=by
 have hhas:SetTable.has t.dummies (pth t.mask h N).j=false:=by rw[T.dm];unfold SetTable.has;simp
 have hp:=(zdM T.asc (pth t.mask h N).j).1;have hne:¬ (t.place[XU t.place (pth t.mask h N).j]? == some (pth t.mask h N).j)=true:=λz=>hN (Xl (by rw[Xn];exact eq_of_beq z));have ha:=ziY T.asc hne;unfold SetTable.put;rw[hhas];dsimp only;generalize hpp:XU t.place (pth t.mask h N).j=p at hp ha;refine⟨rfl,rfl,rfl,⟨T.msk,ha,T.dm,?_,λj hj=>?_,λi j e he hj=>?_⟩⟩
 ·show(XZ t.place p _).size=_;rw[ziz,ziz,T.sz]
 ·rcases zhs.mp hj with rfl | hj
  ·exact znz _ _ _
  ·exact T.le j hj
 ·have he:(XZ es p (h,x))[i]? = some e:=he;have hj:(XZ t.place p (pth t.mask h N).j)[i]? = some j:=hj;rw[zla (by rw[<- T.sz];exact hp)]at he;rw[zla hp]at hj;have old:∀i',es[i']? = some e->t.place[i']? = some j->∃n,(pth t.mask e.1 n).j=j/\∀m,m<n->(pth t.mask e.1 m).j∈(XZ t.place p (pth t.mask h N).j).toList:=λi' h1 h2=>by
   obtain⟨n,q1,q2⟩:=T.way i' j e h1 h2;exact⟨n,q1,λm hm=>zhs.mpr (.inr (q2 m hm))⟩
  by_cases c1:i<p
  ·rw[if_pos c1]at he hj;exact old i he hj
  ·rw[if_neg c1]at he hj;by_cases c2:i=p
   ·rw[if_pos c2]at he hj;cases he;cases hj;exact⟨N,rfl,λm hm=>zhs.mpr (.inr (hL m hm))⟩
   ·rw[if_neg c2]at he hj;exact old _ he hj
theorem TabS.fresh (a b:Nat)(l:Bool):TabS (.fresh a b l) #[]:=⟨.inl rfl,List.Pairwise.nil,rfl,rfl,λj hj=>(by cases hj),λi j e he=>(by simp at he)⟩
structure Own (m:Nat)(ow:Array (Option Nat))(hs:List Int):Prop where
 sz:ow.size=m+1
 at_:∀(k:Nat) (h:Int),hs[k]? = some h->∃j n,ow[j]? = some (some k)/\(pth m h n).j=j/\∀d,d<n->∃q,ow[(pth m h d).j]? = some (some q)
 lt:∀(j k:Nat),ow[j]? = some (some k)->k<hs.length
 one:∀(j j' k:Nat),ow[j]? = some (some k)->ow[j']? = some (some k)->j=j'
theorem Own.start (m:Nat):Own m (Array.replicate (m+1) none) []:=by
 refine⟨by simp,λk h e=>by simp at e,λj k e=>?_,λj j' k e=>?_⟩ <;>
 ·rw[Array.getElem?_replicate]at e;split at e<;>simp at e
theorem Own.gap {m:Nat}{ow:Array (Option Nat)}{hs:List Int}(O:Own m ow hs)(hl:hs.length<=m):∃e,e<=m/\ow[e]? = some none:=by
 have hc:∀k,∃j,k<hs.length->ow[j]? = some (some k):=λk=>by
  by_cases hk:k<hs.length
  ·obtain⟨j,n,h1,_⟩:=O.at_ k hs[k] (Xb hk);exact⟨j,λ_=>h1⟩
  ·exact⟨0,λz=>absurd z hk⟩
 obtain⟨e,he,hn⟩:=zgG (l:=(Ya hs.length).map λk=>(hc k).choose) (m:=m) (by simp;lia);refine⟨e,he,?_⟩;have hlt:e<ow.size:=by rw[O.sz];lia
 rw[getElem?_pos ow e hlt];cases c:ow[e]with
 | none=>rfl
 | some k=>
  exfalso;have h1:ow[e]? = some (some k):=by rw[getElem?_pos ow e hlt,c]
  have hk:=O.lt e k h1;have h2:=(hc k).choose_spec hk;have:=O.one _ _ _ h1 h2;exact hn (XL.mpr ⟨k,Ye.mpr hk,this.symm⟩)
theorem zjj {p:Nat->Bool}{n r:Nat}(h:(Ya n).find? p=some r):p r=true/\r<n/\∀i,i<r->p i=false:=by
 rw[List.find?_range_eq_some]at h;obtain⟨h1,h2,h3⟩:=h;exact⟨h1,Ye.mp h2,λi hi=>by simpa using h3 i hi⟩
theorem zlb {m:Nat}{ow:Array (Option Nat)}(hz:ow.size=m+1)(h:Int){K:Nat}(hK:ow[(hdP m h K).1]? = some none):∀(fuel k:Nat),k<=K->K-k<fuel->(∀d,d<ixP m h k->∃q,ow[(pth m h d).j]? = some (some q))->
  ∃N,SetTable.layClean.free m ow fuel (hdP m h k).1 (hdP m h k).2=some (pth m h N).j/\ow[(pth m h N).j]? = some none/\∀d,d<N->∃q,ow[(pth m h d).j]? = some (some q)
 | 0,k,_,hf,_=>absurd hf (Nat.not_lt_zero _)
 | fuel+1,k,hk,hf,hb=>by
  obtain⟨r0,r9,rm⟩:=zkU m (hdP m h k).1;have rm:=rm (zkV m h k);have val:∀r,r<=Ym m (hdP m h k).1-(hdP m h k).1->(pth m h (ixP m h k+r)).j=(hdP m h k).1+r:=λr hr=>by rw[zdq m h k r hr]
  have isN:∀r,r<=Ym m (hdP m h k).1-(hdP m h k).1->((ow.getD ((hdP m h k).1+r) (some 0)).isNone=true/\ow[(hdP m h k).1+r]? = some none)\/((ow.getD ((hdP m h k).1+r) (some 0)).isNone=false/\∃q,ow[(hdP m h k).1+r]? = some (some q)):=λr hr=>by
   have hlt:(hdP m h k).1+r<ow.size:=by rw[hz];lia
   have e1:ow.getD ((hdP m h k).1+r) (some 0)=ow[(hdP m h k).1+r]:=by simp[Array.getD,hlt]
   rw[e1,getElem?_pos ow _ hlt];cases ow[(hdP m h k).1+r]with
   | none=>exact .inl ⟨rfl,rfl⟩
   | some q=>exact .inr ⟨rfl,q,rfl⟩
  unfold SetTable.layClean.free;cases hr:(Ya (Ym m (hdP m h k).1+1-(hdP m h k).1)).find? λk'=>(ow.getD ((hdP m h k).1+k') (some 0)).isNone with
  | some r=>
   obtain⟨p1,p2,p3⟩:=zjj hr;have hr':r<=Ym m (hdP m h k).1-(hdP m h k).1:=by lia
   refine⟨ixP m h k+r,by rw[val r hr'],?_,λd hd=>?_⟩
   ·rw[val r hr'];rcases isN r hr' with ⟨_,q⟩ | ⟨q,_⟩
    ·exact q
    ·rw[p1]at q;cases q
   ·rcases YI d (ixP m h k)with z | z
    ·exact hb d z
    ·obtain⟨i,rfl⟩:∃i,d=ixP m h k+i:=⟨d-ixP m h k,by lia⟩;rw[val i (by lia)];rcases isN i (by lia)with ⟨q,_⟩ | ⟨_,q⟩
     ·rw[p3 i (by lia)]at q;cases q
     ·exact q
  | none=>
   have hall:=List.find?_eq_none.mp hr;have no:∀r,r<=Ym m (hdP m h k).1-(hdP m h k).1->∃q,ow[(hdP m h k).1+r]? = some (some q):=λr hr'=>by
    rcases isN r hr' with ⟨q,_⟩ | ⟨_,q⟩
    ·exact absurd q (hall r (Ye.mpr (by lia)))
    ·exact q
   have hne:k≠K:=λz=>by
    subst z;obtain⟨q,e⟩:=no 0 (XX _);rw[Nat.add_zero,hK]at e;cases e
   dsimp only;exact zlb hz h hK fuel (k+1) (by lia) (by lia) λd hd=>by
    rcases YI d (ixP m h k)with z | z
    ·exact hb d z
    ·have hd:d<ixP m h k+(Ym m (hdP m h k).1-(hdP m h k).1)+1:=hd;obtain⟨i,rfl⟩:∃i,d=ixP m h k+i:=⟨d-ixP m h k,by lia⟩;rw[val i (by lia)];exact no i (by lia)
theorem Own.put {m:Nat}{ow:Array (Option Nat)}{hs:List Int}(O:Own m ow hs){h:Int}{N:Nat}(hN:ow[(pth m h N).j]? = some none)(hL:∀d,d<N->∃q,ow[(pth m h d).j]? = some (some q)) :
  Own m (ow.setIfInBounds (pth m h N).j (some hs.length)) (hs++[h]):=by
 have hlt:(pth m h N).j<ow.size:=by rw[O.sz];exact Nat.lt_succ_of_le (znz m h N)
 have get:∀j:Nat,(ow.setIfInBounds (pth m h N).j (some hs.length))[j]? = if (pth m h N).j=j then some (some hs.length) else ow[j]?:=λj=>by
  rw[Array.getElem?_setIfInBounds];by_cases c:(pth m h N).j=j
  ·rw[if_pos c,if_pos c,if_pos hlt]
  ·rw[if_neg c,if_neg c]
 have up:∀(j q:Nat),ow[j]? = some (some q)->∃q,(ow.setIfInBounds (pth m h N).j (some hs.length))[j]? = some (some q):=λj q e=>by
  rw[get];split
  ·exact⟨_,rfl⟩
  ·exact⟨q,e⟩
 refine⟨by rw[Array.size_setIfInBounds];exact O.sz,λk h' e=>?_,λj k e=>?_,λj j' k e e'=>?_⟩
 ·rcases YI k hs.length with z | z
  ·rw[Yn z]at e;obtain⟨j,n,h1,h2,h3⟩:=O.at_ k h' e;refine⟨j,n,?_,h2,λd hd=>?_⟩
   ·rw[get,if_neg (λc=>by rw[<- c,hN]at h1;cases h1)];exact h1
   ·obtain⟨q,hq⟩:=h3 d hd;exact up _ _ hq
  ·have hk:k=hs.length:=by
    have:=(Xj.mp e).1;rw[XH]at this;simp at this;lia
   subst hk;rw[Yf (Xo _),Nat.sub_self]at e;cases e;refine⟨(pth m h N).j,N,by rw[get,if_pos rfl],rfl,λd hd=>?_⟩;obtain⟨q,hq⟩:=hL d hd;exact up _ _ hq
 ·rw[get]at e;rw[XH];split at e
  ·cases e;simp
  ·have:=O.lt j k e;lia
 ·rw[get]at e e';split at e
  ·rename_i c
   cases e;split at e'
   ·rename_i c';rw[<- c,<- c']
   ·have:=O.lt _ _ e';lia
  ·split at e'
   ·cases e';have:=O.lt _ _ e;lia
   ·exact O.one _ _ _ e e'
noncomputable abbrev layF (m:Nat)(acc:Option (Array (Option Nat)×Nat))(h:Int):Option (Array (Option Nat)×Nat):=do
 let (owner,k) <- acc;let j <- SetTable.layClean.free m owner (SetTable.turns m) (SetTable.bits h % (m+1)) (SetTable.bits h)
 pure (owner.setIfInBounds j (some k),k+1)
theorem zlc {m:Nat}(hm:okM m):∀(rest hs:List Int)(ow:Array (Option Nat)),Own m ow hs->hs.length+rest.length<=m->∃ow',rest.foldl (layF m) (some (ow,hs.length))=some (ow',hs.length+rest.length)/\Own m ow' (hs++rest)
 | [],hs,ow,O,_=>⟨ow,rfl,by rw[Yd];exact O⟩
 | h::rest,hs,ow,O,hl=>by
  rw[Yh]at hl;obtain⟨e,he,hn⟩:=O.gap (by lia);obtain⟨K,hK,eK⟩:=znA hm h he;obtain⟨N,g1,g2,g3⟩:=zlb O.sz h (K:=K) (by rw[eK];exact hn) (SetTable.turns m) 0 (XX _) (by unfold SetTable.turns;lia) (λd hd=>absurd hd (Nat.not_lt_zero _));have O':=O.put g2 g3;obtain⟨ow',e1,e2⟩:=zlc hm rest (hs++[h]) _ O' (by rw[XH];simp;lia);have st:layF m (some (ow,hs.length)) h=some (ow.setIfInBounds (pth m h N).j (some hs.length),(hs++[h]).length):=by
   show(SetTable.layClean.free m ow (SetTable.turns m) (hdP m h 0).1 (hdP m h 0).2 >>= λj=>pure (ow.setIfInBounds j (some hs.length),hs.length+1))=_;rw[g1,XH];rfl
  refine⟨ow',?_,by rw[Xw]at e2;exact e2⟩;rw[List.foldl_cons,st,e1,XH]
  congr 2
  simp;lia
theorem zld {es:Array (Int×Value)}:∀ {l:List Nat}(_:∀k∈l,k<es.size)(i:Nat),(l.filterMap λk=>es[k]?)[i]? = (l[i]?).bind λk=>es[k]?
 | [],_,i=>by simp
 | k::l,h,i=>by
  have hk:=h k Xi;rw[List.filterMap_cons_some (getElem?_pos es k hk)];cases i with
  | zero=>rw[List.getElem?_cons_zero,List.getElem?_cons_zero];exact(getElem?_pos es k hk).symm
  | succ i=>rw[Yx,Yx];exact zld (λk' h'=>h k' (Xe _ h')) i
theorem znC {es:Array (Int×Value)}:∀ {l:List Nat}(_:∀k∈l,k<es.size),(l.filterMap λk=>es[k]?).length=l.length
 | [],_=>rfl
 | k::l,h=>by
  rw[List.filterMap_cons_some (getElem?_pos es k (h k Xi)),Yh,Yh,znC λk' h'=>h k' (Xe _ h')]
theorem zmE (es:Array (Int×Value)):((Ya es.size).filterMap λk=>es[k]?)=es.toList:=by
 apply List.ext_getElem?;intro i;rw[zld (λk hk=>Ye.mp hk)];by_cases hi:i<es.size
 ·rw[List.getElem?_range hi,Xn];rfl
 ·rw[Xz (by simp;lia),Xz (by simp;lia)];rfl
theorem zle {t:SetTable}{es:Array (Int×Value)}{n:Nat}(hm:okM (SetTable.sizeAbove n-1))(hl:es.size<=SetTable.sizeAbove n-1):∃t' order,t.relaid (es.map (·.1)) n=some (t',order)/\(order.filterMap (es[·]?)).toList.Perm es.toList/\t'.mask=SetTable.sizeAbove n-1/\t'.led=t.led/\TabS t' (order.filterMap (es[·]?)):=by
 generalize hmm:SetTable.sizeAbove n-1=m at hm hl;obtain⟨ow,e1,O⟩:=zlc hm (es.map (·.1)).toList [] _ (Own.start m) (by simp;lia);rw[List.nil_append]at O;have hcl:SetTable.layClean m (es.map (·.1))=some ow:=by
  show Option.map (·.1) ((es.map (·.1)).foldl (layF m) (some (Array.replicate (m+1) none,0)))=_;rw[<- Array.foldl_toList];exact congrArg (Option.map (·.1)) e1
 have hsz:(es.map (·.1)).toList.length=es.size:=by simp
 obtain⟨live,hlive⟩:∃live,live=(Ya (m+1)).filterMap λj=>(ow.getD j none).map (j,·):=⟨_,rfl⟩;have hrl:t.relaid (es.map (·.1)) n=some ({ mask:=m,place:=(live.map (·.1)).toArray,dummies:=#[],finger:=t.finger,led:=t.led,moves:=t.movedTo m,plain:=t.plain },(live.map (·.2)).toArray):=by
  unfold SetTable.relaid SetTable.laid;rw[hmm,hcl,hlive];rfl
 have mem:∀j k,(j,k)∈live↔ow[j]? = some (some k):=λj k=>by
  rw[hlive,List.mem_filterMap];constructor
  ·rintro⟨j',hj',e⟩;have hlt:j'<ow.size:=by rw[O.sz];exact Ye.mp hj'
   have e2:ow.getD j' none=ow[j']:=by simp[Array.getD,hlt]
   rw[e2]at e;cases c:ow[j']with
   | none=>rw[c]at e;cases e
   | some q=>rw[c]at e;cases e;rw[getElem?_pos ow _ hlt,c]
  ·intro e;obtain⟨hlt,c⟩:=Yg.mp e;refine⟨j,Ye.mpr (by rw[<- O.sz];exact hlt),?_⟩;have e2:ow.getD j none=ow[j]:=by simp[Array.getD,hlt]
   rw[e2,c];rfl
 obtain⟨ha,_⟩:=ziZ hrl;have ha:(live.map (·.1)).Pairwise (· < ·):=ha;have ndl:live.Nodup:=(YQ.mp ha).imp λ{a b} h e=>by rw[e]at h;exact Yy _ h
 have nd2:(live.map (·.2)).Nodup:=by
  rw[List.Nodup,YQ];refine ndl.imp_of_mem λ{a b} h1 h2 hne e=>hne ?_;obtain⟨j,k⟩:=a;obtain⟨j',k'⟩:=b;have e:k=k':=e;subst e;rw[O.one j j' k ((mem _ _).mp h1) ((mem _ _).mp h2)]
 have lt2:∀k∈live.map (·.2),k<es.size:=λk hk=>by
  obtain⟨⟨j,k'⟩,h1,rfl⟩:=XL.mp hk;have:=O.lt _ _ ((mem _ _).mp h1);rw[hsz]at this;exact this
 have perm:(live.map (·.2)).Perm (Ya es.size):=(List.perm_ext_iff_of_nodup nd2 List.nodup_range).mpr λk=>by
  constructor
  ·exact λhk=>Ye.mpr (lt2 k hk)
  ·intro hk;have hk:=Ye.mp hk;obtain⟨j,_,h1,_⟩:=O.at_ k _ (Xb (show k<(es.map (·.1)).toList.length by rw[hsz];exact hk));exact XL.mpr ⟨(j,k),(mem _ _).mpr h1,rfl⟩
 have eL:((live.map (·.2)).toArray.filterMap (es[·]?)).toList=(live.map (·.2)).filterMap λk=>es[k]?:=by rw[List.filterMap_toArray]
 refine⟨_,_,hrl,?_,rfl,rfl,⟨hm,ha,rfl,?_,λj hj=>?_,λi j e he hj=>?_⟩⟩
 ·rw[eL,<- zmE es];exact perm.filterMap _
 ·show(live.map (·.1)).toArray.size=_;have q:=congrArg List.length eL;rw[Xp,znC lt2]at q;rw[q];simp
 ·obtain⟨⟨j',k⟩,h1,rfl⟩:=XL.mp hj;have:=(Yg.mp ((mem _ _).mp h1)).1;rw[O.sz]at this;exact Nat.le_of_lt_succ this
 ·have hj:(live.map (·.1))[i]? = some j:=by rw[<- List.getElem?_toArray];exact hj
  have he:((live.map (·.2)).filterMap λk=>es[k]?)[i]? = some e:=by rw[<- eL,Xn];exact he
  rw[zld lt2,Xk]at he;rw[Xk]at hj;cases c:live[i]? with
  | none=>rw[c]at hj;cases hj
  | some p=>
   obtain⟨j',k⟩:=p;rw[c]at hj he;cases hj;have he:es[k]? = some e:=he;have h1:=(mem _ _).mp (Xl c);obtain⟨j2,n2,g1,g2,g3⟩:=O.at_ k e.1 (by rw[Xn,Array.getElem?_map,he];rfl);have:=O.one _ _ _ h1 g1;subst this;refine⟨n2,g2,λd hd=>?_⟩;obtain⟨q,hq⟩:=g3 d hd;exact XL.mpr ⟨(_,q),(mem _ _).mpr hq,rfl⟩
open PySem PySem.Spec PyProof.Rows
section
variable {prog:Program}{w:World}{A:Around}{E:Value->Shared->Prop}{s:Shared}
noncomputable abbrev TK (prog:Program)(w:World)(h:Heap)(y:List Int)(b:Addr):Prop:=IsTupleKey (PySem.intKind prog w) h y b
noncomputable abbrev tH (prog:Program)(w:World)(y:List Int):Int:=tupleKeyHash (PySem.intKind prog w) y
theorem items_int {x:List Int}{vs:List Value}(h:ItemsAre (PySem.intKind prog w) x vs):∀v∈vs,∃n t,v=Value.int n t:=by
 induction h with
 | nil=>intro v hv;cases hv
 | cons h1 _ ih=>
  intro v hv;rcases Xv.mp hv with rfl | hv
  ·obtain⟨t,rfl⟩:=Value.isInt_shape h1;exact⟨_,t,rfl⟩
  ·exact ih v hv
theorem ziA {x:List Int}{b:Addr}{Q:Bool->Shared->Prop}(hk:TK prog w s.heap x b)(h:Q false s):wpAny (model prog w) A (ofAClassStatement 8 (.ref b)) Q E s:=by
 have hT:=hk.typeIs;obtain⟨o,items,n,ho,_,hd,hi⟩:=hk;unfold ofAClassStatement;refine wpAny_bind (wpAny_typeOf hT ?_);show wpAny _ _ (pure true >>= _) _ _ s;refine wpAny_bind (wpAny_pure ?_);simp only[Bool.not_true,Xu,if_false];refine wpAny_bind (wpAny_seqItems ho hd ?_);refine wpAny_bind ?_;show wpAny _ _ (forIn items _ _) _ _ s;rw[<- Array.forIn_toList];refine wpAny_forIn_list _ (λrest r s'=>r.1=none/\s'=s/\∀v∈rest,∃n t,v=Value.int n t) _ ?_ ?_ _ _ ⟨rfl,rfl,items_int hi⟩
 ·rintro v rest r s' ⟨hr,rfl,hall⟩;obtain⟨n,t,rfl⟩:=hall v Xi;refine wpAny_bind (m:=ofAClassStatement 7 (.int n t)) (wpAny_pure ?_);simp only[Xu,if_false];exact wpAny_pure ⟨rfl,rfl,λu hu'=>hall u (Xe _ hu')⟩
 ·rintro⟨r1,r2⟩ s' ⟨hr,rfl,_⟩;simp only at hr;subst hr;exact wpAny_pure h
theorem zrG {x:List Int}{b:Addr}{Q:Bool->Shared->Prop}(hk:TK prog w s.heap x b)(h:Q true s):wpAny (model prog w) A (hashByValue 8 (.ref b)) Q E s:=by
 have hT:=hk.typeIs;obtain⟨o,items,n,ho,_,hd,hi⟩:=hk;show wpAny _ _ (bind (specialOf (.ref b) "__hash__") _) _ _ s;refine wpAny_bind (wpAny_specialOf hT PySem.F.slot_tuple_hash.lookup ?_);dsimp only;refine wpAny_bind (wpAny_seqItems ho hd ?_);dsimp only[Option.getD];refine wpAny_bind ?_;show wpAny _ _ (forIn items _ _) _ _ s;rw[<- Array.forIn_toList];refine wpAny_forIn_list _ (λrest r s'=>r.1=none/\s'=s/\∀v∈rest,∃n t,v=Value.int n t) _ ?_ ?_ _ _ ⟨rfl,rfl,items_int hi⟩
 ·rintro v rest r s' ⟨hr,rfl,hall⟩;obtain⟨n,t,rfl⟩:=hall v Xi;refine wpAny_bind (m:=hashByValue 7 (.int n t)) (wpAny_pure ?_);simp only[Bool.not_true,Xu,if_false];exact wpAny_pure ⟨rfl,rfl,λu hu'=>hall u (Xe _ hu')⟩
 ·rintro⟨r1,r2⟩ s' ⟨hr,rfl,_⟩;simp only at hr;subst hr;exact wpAny_pure h
theorem zqH {x:List Int}{b:Addr}{vs:List Value}{Q:Bool->Shared->Prop}(hk:TK prog w s.heap x b)(hv:∀v∈vs,∃y c,v=.ref c/\TK prog w s.heap y c)(h:Q false s):wpAny (model prog w) A (searchCouldBeSeen (.ref b) vs) Q E s:=by
 unfold searchCouldBeSeen;refine wpAny_bind (wpAny_forIn_list _ (λrest r s'=>r.1=none/\s'=s/\∀v∈rest,∃y c,v=.ref c/\TK prog w s.heap y c) _ ?_ ?_ _ _ ⟨rfl,rfl,hv⟩)
 ·rintro v rest r s' ⟨hr,rfl,hall⟩;obtain⟨y,c,rfl,hy⟩:=hall v Xi;have hrest:=λu hu'=>hall u (Xe _ hu');dsimp only;split
  ·exact wpAny_pure ⟨rfl,rfl,hrest⟩
  ·refine wpAny_bind (wpAny_eqIsQuiet_tuple hk ?_);simp only[Bool.not_true,Xu,if_false];refine wpAny_bind (wpAny_eqIsQuiet_tuple hy ?_);simp only[Bool.not_true,Xu,if_false];refine wpAny_bind (ziA hk ?_);simp only[Xu,if_false];refine wpAny_bind (ziA hy ?_);simp only[Xu,if_false];exact wpAny_pure ⟨rfl,rfl,hrest⟩
 ·rintro⟨r1,r2⟩ s' ⟨hr,rfl,_⟩;simp only at hr;subst hr;exact wpAny_pure h
theorem zoK {α:Type}{c:Prop}{dc:Decidable c}{m:Sem Bool}{u T:Sem α}{Q:α->Shared->Prop}(hm:∀Q':Bool->Shared->Prop,Q' false s->wpAny (model prog w) A m Q' E s)(h:wpAny (model prog w) A T Q E s):wpAny (model prog w) A (if c then(m >>= λb=>if b=true then u else T) else T) Q E s:=by
 split
 ·refine wpAny_bind (hm _ ?_);rw[if_neg Xr];exact h
 ·exact h
noncomputable def Ents (prog:Program)(w:World)(h:Heap)(es:Array (Int×Value)):Prop:=∀(i:Nat) e,es[i]? = some e->∃x c,e=(tH prog w x,Value.ref c)/\TK prog w h x c
theorem zgH {a b:Addr}{es:Array (Int×Value)}{ep:Nat}{t:SetTable}{y:List Int}{Q:SetFound->Shared->Prop}(hu:A.units<cLine)(r:Rec w s.heap a es ep t)(T:TabS t es)(hE:Ents prog w s.heap es)(hb:TK prog w s.heap y b)
  {N:Nat} (hN:(pth t.mask (tH prog w y) N).j∉t.place.toList) (hL:∀d,d<N->(pth t.mask (tH prog w y) d).j∈t.place.toList) (hNb:N<=10*(t.mask+13))
  (h1:(∃(i:Nat) (e:Int×Value) (c:Addr),es[i]? = some e/\e.2=.ref c/\TK prog w s.heap y c)->Q (.there none) s) (h2:(∀(i:Nat) (e:Int×Value) (c:Addr),es[i]? = some e->e.2=.ref c->¬ TK prog w s.heap y c)->Q (.free (pth t.mask (tH prog w y) N).j false) s) :
  ∀(fuel c:Nat) (st:Option SetTable.Probe),c<=N->N-c<fuel->st.getD (t.probeStart (tH prog w y))=pth t.mask (tH prog w y) c->(∀(d i:Nat) (e:Int×Value) (q:Addr),d<c->t.place[i]? = some (pth t.mask (tH prog w y) d).j->es[i]? = some e->e.2=.ref q->¬ TK prog w s.heap y q)->
   wpAny (model prog w) A (setSearchFrom a (.ref b) (tH prog w y) true fuel st) Q E s
 | 0,c,_,_,hf,_,_=>absurd hf (Nat.not_lt_zero _)
 | fuel+1,c,st,hc,hf,hst,hseen=>by
  have hodd:t.gaveWay=false:=by
   unfold SetTable.gaveWay;rcases T.msk with e | e | e<;>rw[e]<;>rfl
  have gm:=znB T.asc T.dm (λi=>(es[i]?.map (·.1)).getD 0) (tH prog w y) hN hL (10*SetTable.turns t.mask) c hc (by unfold SetTable.turns;lia);have hcol:∀(d i:Nat) (e:Int×Value) (q:Addr),t.place[i]? = some (pth t.mask (tH prog w y) d).j->(λi=>(es[i]?.map (·.1)).getD 0) i≠tH prog w y->es[i]? = some e->e.2=.ref q->¬ TK prog w s.heap y q:=λd i e q hp hg he e2 hq=>by
   obtain⟨x,c',rfl,hx⟩:=hE i e he;cases e2;have:=hx.inj hq;subst this;refine hg ?_;show(es[i]?.map (·.1)).getD 0=_;rw[he];rfl
  show wpAny _ _ (bind (setState a) _) _ _ s;refine wpAny_bind (zaF r ?_);dsimp only;rw[hodd];simp only[Xu,if_false];rw[hst];generalize hpr:t.probe _ _ _=pr;rcases gm with ⟨e,i,g1,g2,g3,g4,g5,g6,g7⟩ | ⟨g1,g2⟩
  ·have e6:pr=_:=hpr.symm.trans g6;rw[e6];obtain⟨hi,e0⟩:∃hi:i<es.size,es[i]? = some es[i]:=by
    have hp:i<t.place.size:=(Yg.mp g4).1;rw[T.sz]at hp;exact⟨hp,Yu hp⟩
   obtain⟨x,q,ex,hx⟩:=hE i _ e0;rw[ex]at e0;have hstill:∀(d i':Nat) (e':Int×Value) (q':Addr),x≠y->d<e+1->t.place[i']? = some (pth t.mask (tH prog w y) d).j->es[i']? = some e'->e'.2=.ref q'->¬ TK prog w s.heap y q':=λd i' e' q' hne hd hp he' e2=>by
    rcases YI d c with z | z
    ·exact hseen d i' e' q' z hp he' e2
    ·rcases YI d e with z2 | z2
     ·exact hcol d i' e' q' hp (g7 d i' z z2 hp) he' e2
     ·have hde:d=e:=by lia
      subst hde;have nd:t.place.toList.Nodup:=T.asc.imp λh=>XJ h;have q1:t.place.toList[i']? = some (pth t.mask (tH prog w y) d).j:=by rw[Xn];exact hp
      have q2:t.place.toList[i]? = some (pth t.mask (tH prog w y) d).j:=by rw[Xn];exact g4
      have hii:i'=i:=(List.getElem?_inj (Xj.mp q1).1 nd).mp (q1.trans q2.symm);subst hii;rw[e0]at he';cases he';cases e2;intro hq;exact hne (hx.inj hq)
   have hvs:∀v∈(es.filter λz=>z.1 == tH prog w y).toList.map (·.2),∃y c,v=.ref c/\TK prog w s.heap y c:=λv hv=>by
    obtain⟨z,hz,rfl⟩:=XL.mp hv;have hz:z∈es:=by
     have:=Array.mem_toList_iff.mp hz;exact(Array.mem_filter.mp this).1
    obtain⟨k,hk,ek⟩:=Array.mem_iff_getElem.mp hz;obtain⟨x',c',e',hx'⟩:=hE k z (by rw[Yu hk,ek]);rw[e'];exact⟨x',c',rfl,hx'⟩
   refine zoK (λQ' hq=>zqH hb hvs hq) ?_;rw[e0];dsimp only;refine wpAny_bind (wpAny_holding (wpAny_eqBool_tuple hu hx hb ?_));refine wpAny_bind (zaF r ?_);by_cases hxy:x=y
   ·subst hxy;rw[decide_eq_true rfl];simp only[Bool.and_true,if_true];exact wpAny_pure (h1 ⟨i,_,q,e0,rfl,hx⟩)
   ·rw[decide_eq_false hxy];have hsm:t.sameMemory t.moves t.mask=some true:=by unfold SetTable.sameMemory;simp
    dsimp only;simp only[Bool.and_false,Xu,if_false,hsm,if_true,g3,e0];refine wpAny_bind (wpAny_isSame_ref_self ?_);simp only[if_true];refine wpAny_bind (wpAny_pure ?_);dsimp only;exact zgH hu r T hE hb hN hL hNb h1 h2 fuel (e+1) (some (pth t.mask (tH prog w y) (e+1))) (by lia) (by lia) rfl (λd i' e' q' hd=>hstill d i' e' q' hxy hd)
  ·have e1:pr=_:=hpr.symm.trans g1;rw[e1];dsimp only;refine wpAny_pure (h2 λi e q he e2 hq=>?_);obtain⟨x,q',rfl,hx⟩:=hE i e he;cases e2;have:=hx.inj hq;subst this;have hip:i<t.place.size:=by rw[T.sz];exact(Yg.mp he).1
   obtain⟨n,w1,w2⟩:=T.way i _ _ he (Yu hip);dsimp only at w1 w2;have hpl:t.place[i]? = some (pth t.mask (tH prog w x) n).j:=by rw[w1];exact Yu hip
   have hin:(pth t.mask (tH prog w x) n).j∈t.place.toList:=Xl (by rw[Xn];exact hpl);have hn:n<N:=by
    rcases Nat.lt_trichotomy n N with z | z | z
    ·exact z
    ·subst z;exact absurd hin hN
    ·exact absurd (w2 N z) hN
   rcases YI n c with z | z
   ·exact hseen n i _ _ z hpl he rfl hx
   ·exact hcol n i _ _ hpl (g2 n i z hn hpl) he rfl hx
end
noncomputable abbrev PA2:=List Int×Addr
noncomputable abbrev ent (prog:Program)(w:World)(p:PA2):Int×Value:=(tH prog w p.1,.ref p.2)
structure Few (t:SetTable)(n:Nat):Prop where
 all:n<=76
 a:t.mask=7->n<=4
 b:t.mask=31->n<=18
noncomputable def HSet (prog:Program)(w:World)(h:Heap)(a:Addr)(ps:List PA2):Prop:=
 ∃es ep t,Rec w h a es ep t/\TabS t es/\Few t es.size/\es.toList.Perm (ps.map (ent prog w))/\(∀p∈ps,TK prog w h p.1 p.2)/\(ps.map (·.1)).Nodup
noncomputable def addP (ps:List PA2)(p:PA2):List PA2:=if p.1∈ps.map (·.1) then ps else p::ps
theorem zmF (ps:List PA2)(p:PA2):(addP ps p).length<=ps.length+1:=by
 unfold addP;split
 ·lia
 ·simp
theorem zmG {ps:List PA2}{p q:PA2}(h:q∈addP ps p):q=p\/q∈ps:=by
 unfold addP at h;split at h
 ·exact .inr h
 ·exact Xv.mp h
theorem zeI:∀(qs ps:List PA2),(qs.foldl addP ps).length<=ps.length+qs.length
 | [],ps=>by simp
 | q::qs,ps=>by
  rw[List.foldl_cons];have h1:=zeI qs (addP ps q);have h2:=zmF ps q;rw[Yh];lia
theorem zeJ:∀(qs ps:List PA2)(q:PA2),q∈qs.foldl addP ps->q∈ps\/q∈qs
 | [],ps,q,h=>.inl h
 | p::qs,ps,q,h=>by
  rcases zeJ qs _ q h with z | z
  ·rcases zmG z with rfl | z
   ·exact .inr Xi
   ·exact .inl z
  ·exact .inr (Xe _ z)
theorem zfk:∀(qs ps:List PA2)(y:List Int),y∈(qs.foldl addP ps).map (·.1)↔y∈ps.map (·.1)\/y∈qs.map (·.1)
 | [],ps,y=>by simp
 | p::qs,ps,y=>by
  rw[List.foldl_cons,zfk qs,Xt,Xv];unfold addP;split
  ·rename_i hp
   constructor
   ·rintro(h | h)
    ·exact .inl h
    ·exact .inr (.inr h)
   ·rintro(h | rfl | h)
    ·exact .inl h
    ·exact .inl hp
    ·exact .inr h
  ·rw[Xt,Xv];constructor
   ·rintro((h | h) | h)
    ·exact .inr (.inl h)
    ·exact .inl h
    ·exact .inr (.inr h)
   ·rintro(h | h | h)
    ·exact .inl (.inr h)
    ·exact .inl (.inl h)
    ·exact .inr h
section
variable {prog:Program}{w:World}{A:Around}{E:Value->Shared->Prop}{s:Shared}{a:Addr}
theorem TK.keep {h h':Heap}{y:List Int}{b:Addr}(x:TK prog w h y b)(k:∀o,h.get? b=some o->h'.get? b=some o):TK prog w h' y b:=
 let ⟨o,i,n,e,r⟩:=x;⟨o,i,n,k o e,r⟩
theorem TK.ne {h:Heap}{y:List Int}{b:Addr}{es:Array (Int×Value)}{ep:Nat}{t:SetTable}(x:TK prog w h y b)(r:Rec w h a es ep t):b≠a:=λe=>by
 subst e;obtain⟨o,i,n,e,c,d,_⟩:=x;obtain⟨o',e',_,d'⟩:=r.obj;rw[e]at e';cases e';rw[d]at d';cases d'
theorem TK.but {h h':Heap}{y:List Int}{b:Addr}{es:Array (Int×Value)}{ep:Nat}{t:SetTable}(x:TK prog w h y b)(r:Rec w h a es ep t)(k:Yz a h h'):TK prog w h' y b:=
 TK.keep x λo e=>(k.2 b (TK.ne x r)).trans e
theorem HSet.keep {h h':Heap}{ps:List PA2}(S:HSet prog w h a ps)(k:∀b o,(b=a\/b∈ps.map (·.2))->h.get? b=some o->h'.get? b=some o):HSet prog w h' a ps:=
 let ⟨es,ep,t,r,T,F,p,q,n⟩:=S;⟨es,ep,t,r.keep λo e=>k a o (.inl rfl) e,T,F,p,λx hx=>TK.keep (q x hx) λo e=>k _ o (.inr (XL.mpr ⟨x,hx,rfl⟩)) e,n⟩
theorem HSet.ne {h:Heap}{ps:List PA2}{y:List Int}{b:Addr}(S:HSet prog w h a ps)(x:TK prog w h y b):b≠a:=let ⟨_,_,_,r,_⟩:=S;TK.ne x r
theorem ziB {α:Type}(xs:Array α)(p:Nat)(x:α):(XZ xs p x).toList.Perm (x::xs.toList):=by
 rw[zdS];exact List.perm_middle.trans (by rw[XT])
theorem znD {t:SetTable}{es:Array (Int×Value)}(T:TabS t es)(h:es.size<=t.mask):t.fits es.size=true:=by
 unfold SetTable.fits SetTable.fill;rw[T.sz,T.dm];simp[h]
theorem addT {ps:List PA2}{y:List Int}{b:Addr}{Q:Bool->Shared->Prop}(hu:A.units<cLine)(hk:TK prog w s.heap y b)(S:HSet prog w s.heap a ps)(hroom:ps.length+1<=76)
  (h:∀h' bl,Yz a s.heap h'->HSet prog w h' a (addP ps (y,b))->Q bl { s with heap:=h' }):wpAny (model prog w) A (setAddHashed a (.ref b) (tH prog w y)) Q E s:=by
 have S0:=S;obtain⟨es,ep,t,r,T,F,hp,hT,nd⟩:=S;have hsz:es.size=ps.length:=by rw[<- Xp,hp.length_eq,Xc]
 have hlm:es.size+1<=t.mask:=by
  rcases T.msk with e | e | e
  ·have:=F.a e;lia
  ·have:=F.b e;lia
  ·lia
 have hE:Ents prog w s.heap es:=λi e he=>by
  have:e∈ps.map (ent prog w):=hp.mem_iff.mp (Xl (by rw[Xn];exact he));obtain⟨p,h1,rfl⟩:=XL.mp this;exact⟨p.1,p.2,rfl,hT p h1⟩
 obtain⟨N,n1,n2,n3⟩:=T.free (by lia) (tH prog w y);unfold setAddHashed;refine wpAny_holding ?_;show wpAny _ _ (bind (setState a) _) _ _ s;refine wpAny_bind (zaF r ?_);dsimp only;have hns:byScan (.ref b) es=false:=rfl;rw[hns];simp only[Xu,if_false];unfold setSearch;refine wpAny_bind (zgH hu r T hE hk n2 n3 n1 (λhex=>?_) (λhno=>?_) 100000 0 none (XX _) (by rcases T.msk with e | e | e<;>rw[e]at n1<;>lia) rfl (λd i e q hd=>absurd hd (Nat.not_lt_zero _)))
 ·obtain⟨i,e,c,e1,e2,e3⟩:=hex;obtain⟨p,h1,rfl⟩:=XL.mp (hp.mem_iff.mp (Xl (by rw[Xn];exact e1)));cases e2;have hy:y∈ps.map (·.1):=XL.mpr ⟨p,h1,(hT p h1).inj e3⟩;have ea:addP ps (y,b)=ps:=by unfold addP;rw[if_pos hy]
  have q:=h s.heap false (Yz.refl a s.heap) (by rw[ea];exact S0);exact wpAny_pure q
 ·have hy:y∉ps.map (·.1):=λz=>by
   obtain⟨p,h1,rfl⟩:=XL.mp z;have:ent prog w p∈es.toList:=hp.mem_iff.mpr (XL.mpr ⟨p,h1,rfl⟩);obtain⟨i,hi,e⟩:=List.mem_iff_getElem.mp this;exact hno i _ p.2 (by rw[<- Xn,Xb hi,e]) rfl (hT p h1)
  have ea:addP ps (y,b)=(y,b)::ps:=by unfold addP;rw[if_neg hy]
  rw[ea]at h;refine wpAny_bind (zaF r ?_);obtain⟨m1,l1,pl1,T1⟩:=T.put (x:=.ref b) n2 n3;generalize hput:t.put (pth t.mask (tH prog w y) N).j=tp at m1 l1 pl1 T1 ⊢;obtain⟨t1,ix⟩:=tp;dsimp only at m1 l1 pl1 T1 ⊢;have z1:(XZ es ix (tH prog w y,Value.ref b)).size=es.size+1:=by
   rw[<- Xp,(ziB _ _ _).length_eq,Yh,Xp]
  have p1:(XZ es ix (tH prog w y,Value.ref b)).toList.Perm (((y,b)::ps).map (ent prog w)):=(ziB _ _ _).trans (hp.cons _);have nd1:(((y,b)::ps).map (·.1)).Nodup:=Yl.mpr ⟨hy,nd⟩;generalize hes:XZ es ix (tH prog w y,Value.ref b)=es1 at T1 z1 p1 ⊢;have f1:t1.fits es1.size=true:=znD T1 (by rw[z1,m1];exact hlm);have sc:scanBound > 1000:=by decide
  have b1:es1.size<scanBound:=by lia
  have r1:=zkh (w:=w) r f1 l1 ⟨T1.asc,T1.dm⟩ b1;have sb1:=Yz.update s.heap a (Obj.putSet es1 t1);have hT1:∀p∈(y,b)::ps,TK prog w (s.heap.update a (Obj.putSet es1 t1)) p.1 p.2:=λp hp'=>by
   rcases Xv.mp hp' with rfl | hp'
   ·exact TK.but hk r sb1
   ·exact TK.but (hT p hp') r sb1
  have tail:wpAny (model prog w) A (do
    storeSet a es1 t1
    if (!false&&t1.tooFull)=true then do
     setRelay a (SetTable.grown (es.size+1))
     pure true
    else pure true) Q E s:=by
   refine wpAny_bind (zgp r b1 ?_);have hfull:t1.tooFull=decide ((es.size+1)*5>=t.mask*3):=by
    unfold SetTable.tooFull SetTable.fill;rw[T1.sz,T1.dm,m1,z1];rfl
   by_cases hf:(es.size+1)*5>=t.mask*3
   ·rw[hfull,decide_eq_true hf];simp only[Bool.not_false,Bool.and_true,if_true];unfold setRelay;have hgr:∃m,SetTable.sizeAbove (SetTable.grown (es.size+1))=m+1/\((m=31/\es.size+1=5)\/(m=127/\es.size+1=19)):=by
     rcases T.msk with e | e | e
     ·have:=F.a e;have e5:es.size=4:=by lia
      rw[e5];exact⟨31,by decide,.inl ⟨rfl,rfl⟩⟩
     ·have:=F.b e;have e5:es.size=18:=by lia
      rw[e5];exact⟨127,by decide,.inr ⟨rfl,rfl⟩⟩
     ·lia
    obtain⟨m,g1,g2⟩:=hgr;obtain⟨t2,order,e1,e2,e3,e4,T2⟩:=zle (t:=t1) (es:=es1) (n:=SetTable.grown (es.size+1)) (by rw[g1];rcases g2 with ⟨z,_⟩ | ⟨z,_⟩<;>rw[z]<;>simp[okM]) (by rw[g1,z1];lia)
    have z2:(order.filterMap (es1[·]?)).size=es1.size:=by rw[<- Xp,e2.length_eq,Xp]
    refine wpAny_bind (wpAny_bind (zaF r1 ?_));dsimp only;have hsl:¬ SetTable.sizeAbove (SetTable.grown (es.size+1)) > sizeLine:=by
     rw[g1];have:sizeLine > 1000:=by decide
     rcases g2 with ⟨z,_⟩ | ⟨z,_⟩<;>lia
    rw[if_neg hsl,e1];refine wpAny_bind ?_;show wpAny _ _ (if ((order.filterMap (es1[·]?)).size != es1.size)=true then _ else _) _ _ _
    rw[if_neg (by rw[z2];simp)];refine wpAny_pure (zgp (s:={ s with heap:=s.heap.update a (Obj.putSet es1 t1) }) r1 (by rw[z2];exact b1) (wpAny_pure ?_));have f2:t2.fits (order.filterMap (es1[·]?)).size=true:=znD T2 (by rw[z2,z1,e3,g1];lia);have r2:=zkh (w:=w) r1 f2 e4 ⟨T2.asc,T2.dm⟩ (by rw[z2];exact b1);have sb2:=Yz.update (s.heap.update a (Obj.putSet es1 t1)) a (Obj.putSet (order.filterMap (es1[·]?)) t2);refine h _ true (sb1.trans sb2) ⟨_,_,t2,r2,T2,⟨by lia,λe=>?_,λe=>?_⟩,e2.trans p1,λp hp'=>TK.but (hT1 p hp') r1 sb2,nd1⟩
    ·rw[e3,g1]at e;lia
    ·rw[e3,g1]at e;lia
   ·rw[hfull,decide_eq_false hf];simp only[Bool.not_false,Bool.and_false,Xu,if_false];exact wpAny_pure (h _ true sb1 ⟨es1,_,t1,r1,T1,⟨by lia,λe=>by rw[m1]at e;rw[e]at hf;lia,λe=>by rw[m1]at e;rw[e]at hf;lia⟩,p1,hT1,nd1⟩)
  cases hpl:t1.plain with
  | true=>
   simp only[if_true];refine wpAny_bind (zrG hk ?_);exact tail
  | false=>
   simp only[Xu,if_false];refine wpAny_bind (wpAny_pure ?_);exact tail
end
theorem zmH {prog:Program}{w:World}{h:Heap}{a:Addr}(e:h.get? a=some (zbh w)):HSet prog w h a []:=by
 refine⟨#[],0,_,⟨⟨_,e,⟨rfl,rfl,rfl⟩,rfl⟩,by rfl,?_,List.Pairwise.nil,rfl,by decide⟩,TabS.fresh _ _ _,⟨by decide,λ_=>by decide,λ_=>by decide⟩,by simp,λp hp=>(by cases hp),List.nodup_nil⟩;show(!byText w)=true\/byText w=true;cases byText w
 ·exact .inl rfl
 ·exact .inr rfl
section
variable {prog:Program}{w:World}{A:Around}{R:Result->Shared->Prop}{I:Addr}{fp wr:List Addr}{G:Array GenState->Array GenState->Prop}{n:Nat}{P:Nat->Value->Prop}{St:Nat->Shared->Prop}
theorem zgI (hu:A.in1.units<cLine)(W:WalksS prog w A.in1 I fp wr G n P St)(S:Addr)(hSf:S∉fp)(ps:List PA2)(hn:ps.length=n)(hval:∀i v,P i v->∃p,ps[i]? = some p/\v=.ref p.2)(hw:∀p∈ps,p.2∉S::wr)(hb:n<=76) :
  ∀(k i:Nat) (s:Shared),n-i=k->i<=n->St i s->(∀p∈ps,TK prog w s.heap p.1 p.2)->HSet prog w s.heap S ((ps.take i).foldl addP [])->
   (∀s',Moved (S::wr) G s s'->HSet prog w s'.heap S (ps.foldl addP [])->R (.ok (.ret .none)) s')->
   codeAny (model prog w) A (.builtin "set.update.loop" ⟨[.ref S,.ref I],[]⟩) R s:=by
 have hSw:S∉wr:=λh=>hSf (W.sub _ h);have hsub:∀i,∀q∈((ps.take i).foldl addP []),q∈ps:=λi q hq=>by
  rcases zeJ _ _ q hq with z | z
  ·cases z
  ·exact List.mem_of_mem_take z
 intro k;induction k with
 | zero=>
  intro i s hk hi hst hT hS hR;have hin:i=n:=by lia
  subst hin;refine codeAny_builtin PyProof.Rows.F.entry_set_update_loop ?_;rw[Around.under_plainId PyProof.Rows.F.plain_set_update_loop _];show wpAny _ A.in1 (pyNext (.ref I) >>= _) _ _ s;refine wpAny_bind (W.done s _ _ hst λs' hm=>wpAny_pure (hR s' (hm.mono λb hb=>Xe _ hb) ?_));have hS2:=hS.keep (h':=s'.heap) λb o hb e=>hm.heap b o (by
   rcases hb with rfl | hb
   ·exact hSw
   ·obtain⟨q,hq,rfl⟩:=XL.mp hb;exact λz=>hw q (hsub i q hq) (Xe _ z)) e
  rw[XR (by lia)]at hS2;exact hS2
 | succ k ih=>
  intro i s hk hi hst hT hS hR;have hlt:i<n:=by lia
  refine codeAny_builtin PyProof.Rows.F.entry_set_update_loop ?_;rw[Around.under_plainId PyProof.Rows.F.plain_set_update_loop _];show wpAny _ A.in1 (pyNext (.ref I) >>= _) _ _ s;refine wpAny_bind (W.item i s _ _ hlt hst λv s' hP hst' hm=>?_);obtain⟨p,hp,rfl⟩:=hval i v hP;have hpm:p∈ps:=Xl hp;have hT':∀p∈ps,TK prog w s'.heap p.1 p.2:=λq hq=>TK.keep (hT q hq) λo e=>hm.heap _ o (λz=>hw q hq (Xe _ z)) e;have hS':=hS.keep (h':=s'.heap) λb o hb e=>hm.heap b o (by
   rcases hb with rfl | hb
   ·exact hSw
   ·obtain⟨q,hq,rfl⟩:=XL.mp hb;exact λz=>hw q (hsub i q hq) (Xe _ z)) e
  show wpAny _ A.in1 (holding [.ref p.2] (setAdd S (.ref p.2)) >>= _) _ _ s';refine wpAny_bind (wpAny_holding ?_);unfold setAdd;refine wpAny_holding (wpAny_bind (wpAny_pyHash_tuple hu (hT' p hpm) ?_));have hroom:((ps.take i).foldl addP []).length+1<=76:=by
   have q:=zeI (ps.take i) [];rw[XC]at q;simp at q;lia
  refine addT (s:={ s' with toks:=s'.toks+(p.1.length+1) }) hu (hT' p hpm) hS' hroom λh' b hsb hS2=>?_;have hSi:HSet prog w h' S ((ps.take (i+1)).foldl addP []):=by
   rw[List.take_add_one,hp,List.foldl_append];exact hS2
  refine wpAny_pure ⟨plainId_quiet PyProof.Rows.F.plain_set_update_loop _,ih (i+1) _ (by lia) hlt (W.frame _ s' _ _ hst' (Nat.le_add_right _ _) λb hb o e=>?_) (λq hq=>TK.keep (hT' q hq) λo e=>(hsb.2 _ (hS'.ne (hT' q hq))).trans e) hSi λs'' hm'' hS''=>?_⟩
  ·rw[hsb.2 b (λh:b=S=>hSf (by rw[<- h];exact hb))];exact e
  ·refine hR s'' (Moved.trans W.gtrans ((hm.mono λb hb=>Xe _ hb).then_heap (Nat.le_add_right _ _) λb o hb e=>?_) hm'') hS'';rw[hsb.2 b (λh:b=S=>hb (by rw[h];exact Xi))];exact e
end
section
variable {prog:Program}{w:World}{A:Around}{E:Value->Shared->Prop}{s:Shared}
theorem zeK {l:Addr}{ps:List PA2}{Q:Value->Shared->Prop}(hu:A.units+16<cLine)(hh:A.handled=none)(hl:s.heap.IsList l (ps.map λp=>Value.ref p.2).toArray)(hT:∀p∈ps,TK prog w s.heap p.1 p.2)(hb:ps.length<=76)
  (h:∀(h':Heap) (tk:Nat),HSet prog w h' s.heap.objs.size (ps.foldl addP [])->(∀b o,s.heap.get? b=some o->h'.get? b=some o)->Q (.ref s.heap.objs.size) { s with heap:=h',toks:=tk }) :
  wpAny (model prog w) A (call (.type "set") [.ref l]) Q E s:=by
 refine zki (SP:=λh S=>HSet prog w h S (ps.foldl addP [])) hh hl (λ{A' R I fp wr G P St} W S hA hSf hP hlt s1 kp hst hS hR=>?_) h;refine zgI (by show A'.units+1<_;lia) W S hSf ps (by simp) (λi v hv=>?_) (λp hp=>?_) (by simp;lia) _ 0 s1 rfl (XX _) hst (λp hp=>TK.keep (hT p hp) λo e=>kp _ o e) (zmH hS) hR
 ·have:=hP i v hv;rw[List.getElem?_toArray,Xk]at this;cases e:ps[i]? with
  | none=>rw[e]at this;cases this
  | some p=>rw[e]at this;cases this;exact⟨p,rfl,rfl⟩
 ·obtain⟨o,_,_,ho,_⟩:=hT p hp;exact hlt _ (Xx ho)
end
open PySem PySem.Spec PyProof.Rows Srt
theorem zfl {α β:Type}{f:α->β}:∀ {l:List β}{m:List α},l.Perm (m.map f)->∃m':List α,m'.Perm m/\l=m'.map f
 | [],m,h=>by
  have:=List.nil_perm.mp h;have:m=[]:=List.map_eq_nil_iff.mp this;subst this;exact⟨[],.refl _,rfl⟩
 | x::l,m,h=>by
  obtain⟨a,ha,rfl⟩:=XL.mp (h.mem_iff.mp Xi);obtain⟨m1,m2,rfl⟩:=List.append_of_mem ha;have h2:(f a::l).Perm (f a::(m1++m2).map f):=h.trans (by rw[XY,XY,Xt];exact List.perm_middle);obtain⟨m',q1,q2⟩:=zfl ((List.perm_cons _).mp h2);exact⟨a::m',(q1.cons a).trans List.perm_middle.symm,by rw[q2];rfl⟩
noncomputable def RSet (prog:Program)(w:World)(h:Heap)(a:Addr)(ps:List PA2):Prop:=∃es ep t,Rec w h a es ep t/\es.toList.Perm (ps.map (ent prog w))
theorem HSet.rset {prog:Program}{w:World}{h:Heap}{a:Addr}{ps:List PA2}(S:HSet prog w h a ps):RSet prog w h a ps:=by obtain⟨es,ep,t,r,_,_,p,_⟩:=S;exact⟨es,ep,t,r,p⟩
theorem RSet.keep {prog:Program}{w:World}{h h':Heap}{a:Addr}{ps:List PA2}(S:RSet prog w h a ps)(k:∀o,h.get? a=some o->h'.get? a=some o):RSet prog w h' a ps:=by obtain⟨es,ep,t,r,p⟩:=S;exact⟨es,ep,t,r.keep k,p⟩
section
variable {prog:Program}{w:World}{A:Around}{E:Value->Shared->Prop}{s:Shared}{a:Addr}
theorem zht {ps:List PA2}{Q:Value->Shared->Prop}(hh:A.handled=none)(S:RSet prog w s.heap a ps)(hT:∀p∈ps,TupAt s.heap (.ref p.2) p.1/\p.1≠[])(hsz:ps.length<=sizeLine)
  (h:∀(h1 h':Heap) (d:Drawn) (tk:Nat) (us:List (Addr×List Int)) (e:Nat),us.Perm (ps.map λp=>(p.2,p.1))->(us.map (·.2)).Pairwise (λx y=>ltI y x=false)->(∀b o,s.heap.get? b=some o->h1.get? b=some o)->(∀b o,h1.get? b=some o->h'.get? b=some o)->h'.get? h1.objs.size=some { cls:=.type "list",data:=.seq (refsOf us).toArray e }->
   Q (.ref h1.objs.size) { s with heap:=h',drawn:=d,toks:=tk }):wpAny (model prog w) A (call (.builtin "sorted") [.ref a]) Q E s:=by
 refine Calls.call_function_entry kind_sorted plain_sorted entry_sorted (args_sorted1 _) ?_;unfold Builtin.«sorted»;refine wpAny_bind (m:=checkCount "sorted" 1 1 _) (wpAny_pure ?_);obtain⟨es,ep,t,r,hp⟩:=S;refine wpAny_bind (zhh (by simpa using hh) r λh1 d tk order ho kp=>?_);have ho2:order.Perm ((ps.map λp=>(p.2,p.1)).map λu:Addr×List Int=>Value.ref u.1):=by
  refine ho.trans ((hp.map _).trans ?_);rw[List.map_map,List.map_map];exact .refl _
 obtain⟨us,hu,rfl⟩:=zfl ho2;have hlen:us.length=ps.length:=by rw[hu.length_eq,Xc]
 refine wpAny_bind (wpAny_newList ?_);have hoL:(h1.push (seqObj "list" (refsOf us).toArray 0)).get? h1.objs.size=some (seqObj "list" (refsOf us).toArray 0):=XG _ rfl;refine wpAny_bind (wpAny_holding (wpAny_call_entry slot_list_sort ⟨_,hoL,rfl⟩ entry_list_sort (zdb (s:={ s with heap:=h1.push (seqObj "list" (refsOf us).toArray 0),drawn:=d,toks:=tk }) hoL (λu hu'=>?_) (by lia) λus' a1 a2=>⟨_,rfl,?_⟩) (args_list_sort _)))
 ·obtain⟨p,hp',rfl⟩:=XL.mp (hu.mem_iff.mp hu');obtain⟨⟨b,o,vs,m,e,hb,c⟩,z⟩:=hT p hp';exact⟨⟨b,o,vs,m,e,Xg _ (kp b o hb),c⟩,z⟩
 ·obtain⟨e,he⟩:=sortedHeap_at (out:=(refsOf us').toArray) hoL;refine wpAny_pure ⟨_,rfl,h h1 _ d tk us' e (a1.trans hu) a2 kp (λb o hb=>?_) he⟩;have hlt:b<h1.objs.size:=Xx hb;rw[sortedHeap_old (XJ hlt) (by rw[size_push'];exact YE hlt)];exact Xg _ hb
end
end JS
namespace L2
open PySem PySem.Spec PyProof.Rows
theorem ziC {P:Program}{w:World}:∀ {ns:List Int}{its:List Value},Vals (ns.map V.int) its->ItemsAre (PySem.intKind P w) ns its
 | [],_,r=>by cases r;exact .nil
 | n::ns,_,r=>by
  cases r with
  | cons r1 r2=>
   obtain⟨t,rfl⟩:=(show ∃t,_=Value.int n t from r1);exact .cons (intKind_is _ _ n t) (ziC r2)
noncomputable def zhu (P:Program)(w:World)(a:Addr)(ps:List JS.PA2):HO:=.ext λh=>JS.RSet P w h a ps
noncomputable abbrev swp (us:List (Addr×List Int)):List JS.PA2:=us.map λu=>(u.2,u.1)
section
variable {X:Cx}
theorem zeK (hu:X.A.units+16<cLine)(hc:X.calm=true):zcz X (.type "set") (λxs H Q=>∃(p:Addr) (us:List (Addr×List Int)),xs=[.ref p]/\SqL X.K H p (us.map λu=>V.ref u.1)/\(∀u∈us,SqT X.K H u.1 (u.2.map V.int))/\us.length<=76/\∀l,H l=none->Q (.ref l) (upd H l (zhu X.prog X.w l ((swp us).foldl JS.addP [])))):=by
 intro pins s σ H xs us Q I r h;obtain⟨p,us,rfl,hp,hT,hz,q⟩:=h;obtain⟨u,rfl,rx⟩:=vals1 r;cases rx;obtain⟨its,r,ht,_⟩:=I.list hp;have ei:=zeE r;subst ei;have er:Srt.refsOf us=(swp us).map λp=>Value.ref p.2:=by unfold swp;rw[List.map_map];rfl
 refine JS.zeK (ps:=swp us) hu (I.ok.hd hc) (by rw[<- er];exact ht.isList) (λp hp'=>?_) (by unfold swp;rw[Xc];exact hz) λh' tk hS kp=>?_
 ·obtain⟨u,hu,rfl⟩:=XL.mp hp';obtain⟨its2,rv,⟨o,ho,hc,n,hd⟩,_⟩:=I.tuple (hT u hu);exact⟨o,_,n,ho,hc,hd,ziC rv⟩
 ·refine⟨.ref s.heap.objs.size,_,I.laid (t':=tk) (o:=zhu X.prog X.w s.heap.objs.size ((swp us).foldl JS.addP [])) kp (Xo _) ?_,rfl,q _ I.fresh⟩;have hS:=hS.rset;obtain⟨es,ep,t,rc,_⟩:=id hS;obtain⟨o,ho,_⟩:=rc.obj;exact⟨hS,⟨o,ho⟩,λh1 h2 hs k=>JS.RSet.keep hs k⟩
theorem zfR (hc:X.calm=true):zcz X (.builtin "sorted") (λxs H Q=>∃(p:Addr) (ps:List JS.PA2),xs=[.ref p]/\H p=some (zhu X.prog X.w p ps)/\(∀u∈ps,SqT X.K H u.2 (u.1.map V.int)/\u.1≠[])/\ps.length<=76/\
  ∀(l:Addr) (us:List (Addr×List Int)),H l=none->us.Perm (ps.map λp=>(p.2,p.1))->(us.map (·.2)).Pairwise (λx y=>Srt.ltI y x=false)->Q (.ref l) (upd H l (.lst (us.map λu=>V.ref u.1)))):=by
 intro pins s σ H xs us Q I r h;obtain⟨p,ps,rfl,hp,hT,hz,q⟩:=h;obtain⟨u,rfl,rx⟩:=vals1 r;cases rx;obtain⟨hS,_,_⟩:=(show zbr X.prog X.w H s.heap p (zhu X.prog X.w p ps) from I.hok p _ hp);have hsl:=sizeLine_eq;refine JS.zht (I.ok.hd hc) hS (λu hu=>?_) (by lia) λh1 h' d tk us e a1 a2 kp kp' he=>?_
 ·obtain⟨g1,g2⟩:=hT u hu;obtain⟨its2,rv,⟨o,ho,hc,n,hd⟩,_⟩:=I.tuple g1;exact⟨⟨u.2,o,its2,n,rfl,ho,hc,hd,ints_of rv⟩,g2⟩
 ·have I1:Inv X pins σ H { s with heap:=h1,drawn:=d,toks:=tk }:=I.call' (ch:=[]) rfl (Un.kept kp) (I.hok.kept kp) I.bare (λ_ z=>nomatch z);have hl2:us.length=ps.length:=by rw[a1.length_eq,Xc]
  refine⟨.ref h1.objs.size,_,I1.laid (h':=h') (t':=tk) (o:=.lst (us.map λu=>V.ref u.1)) kp' (Xo _) ?_,rfl,q _ us (I1.hok.fresh (Xo _)) a1 a2⟩;exact⟨by rw[Xc];lia,Srt.refsOf us,e,zeF us,he⟩
end
end L2
namespace PL
open PySem PySem.Spec L2
open PyProof.Rows hiding St
section
variable {X:Cx}{e:Expr}{te:TPE}{p p2 pos pos2:Pos}
noncomputable def zav (te:TPE):TPE:=λρ Q=>te ρ λd _=>∃ss:List (List Int),d=.lst (ss.map λr=>PV.tup (r.map PV.int))/\(∀r∈ss,r≠[])/\ss.length<=76/\∀zs:List (List Int),zs.Nodup->zs.Pairwise (λx y=>Srt.ltI y x=false)->(∀x,x∈zs↔x∈ss)->Q (.lst (zs.map λr=>PV.tup (r.map PV.int))) .new
theorem zfm:∀(qs ps:List JS.PA2),(ps.map (·.1)).Nodup->((qs.foldl JS.addP ps).map (·.1)).Nodup
 | [],_,h=>h
 | q::qs,ps,h=>by
  rw[List.foldl_cons];refine zfm qs _ ?_;unfold JS.addP;split
  ·exact h
  ·rename_i hy
   exact Yl.mpr ⟨hy,h⟩
theorem zhv (hu:X.A.units+16<cLine)(hc:X.calm=true)(hg:Gl X "sorted") (hm:X.mg "sorted" = none) (hg2:Gl X "set") (hm2:X.mg "set" = none) (he:PuE X e te)
  (hs1:autoParam (starEach [e] X.env=(false,eval e X.env)::starEach [] X.env) aU0) (hpl1:autoParam ((backTo pos2 (starEach [] X.env)).any (·.1)=false) aU0)
  (hs2:autoParam (starEach [Expr.Call (.Name "set" p2) [e] [] pos2] X.env=(false,eval (Expr.Call (.Name "set" p2) [e] [] pos2) X.env)::starEach [] X.env) aU0) (hpl2:autoParam ((backTo pos (starEach [] X.env)).any (·.1)=false) aU0) :
  PuE X (.Call (.Name "sorted" p) [.Call (.Name "set" p2) [e] [] pos2] [] pos) (zav te) where
 mono ρ Q Q' m h:=he.mono ρ _ _ (λd k q111q=>by obtain⟨ss,e1,e2,e3,q⟩:=q111q;exact⟨ss,e1,e2,e3,λzs h1 h2 h3=>m _ _ (q zs h1 h2 h3)⟩) h
 run:=PE.weak (zbu (zfR hc) hg hm zkA (zak (zed (zeK hu hc) hg2 hm2 bSet (zak he.run zaQ hs1) (by decide) (by decide) hs1 hpl1) zaQ hs2) (by decide) (by decide) hs2 hpl2) λσ H Q h=>by
  obtain⟨ρ,Fz,R,h⟩:=h;refine⟨ρ,Fz,R,he.mono ρ _ _ (λd k q v F1 H1 p1=>?_) h⟩;obtain⟨ss,rfl,e2,e3,q⟩:=q;obtain⟨a,xs,rfl,h1,h2⟩:=zam (p1.root R);obtain⟨us,rfl,g2,g3⟩:=zeG h2;have hlen:us.length=ss.length:=by rw[<- g2,Xc]
  have hmem:∀u∈(swp us).foldl JS.addP [],(u.2,u.1)∈us:=λu hu=>by
   rcases JS.zeJ _ _ u hu with z | z
   ·cases z
   ·obtain⟨v,hv,rfl⟩:=XL.mp z;exact hv
  refine⟨a,us,rfl,h1,λu hu=>SqT.of (g3 u hu),by lia,λst hst=>?_⟩;have hne:∀u∈us,u.1≠st:=λu hu z=>by have:=g3 u hu;rw[z,hst]at this;cases this
  have hq1:=JS.zeI (swp us) [];unfold swp at hq1;rw[Xc]at hq1;simp only[List.length_nil,Nat.zero_add]at hq1;have x2:Ext F1 H1 F1 (upd H1 st (zhu X.prog X.w st ((swp us).foldl JS.addP []))):=Ext.laid ⟨Same.refl _,λ_ h=>h,λ_ h=>.inl h,p1.ext.al⟩ hst;refine⟨st,_,rfl,zaj,λu hu=>⟨SqT.of (by rw[zah (hne _ (hmem u hu))];exact g3 _ (hmem u hu)),e2 _ (by rw[<- g2];exact XL.mpr ⟨_,hmem u hu,rfl⟩)⟩,by unfold swp;lia,λl us' hl hz hs=>?_⟩;have hmem':∀u∈us',u∈us:=λu hu=>by
   obtain⟨p,hp,rfl⟩:=XL.mp (hz.mem_iff.mp hu);exact hmem p hp
  have hk:(us'.map (·.2)).Perm (((swp us).foldl JS.addP []).map (·.1)):=by
   have:=hz.map (·.2);rw[List.map_map]at this;exact this
  have p3:Post X.K [] [] F1 (upd H1 st (zhu X.prog X.w st ((swp us).foldl JS.addP []))) F1 (upd (upd H1 st (zhu X.prog X.w st ((swp us).foldl JS.addP []))) l (.lst (us'.map λu=>V.ref u.1))) (.lst ((us'.map (·.2)).map λr=>PV.tup (r.map PV.int))) .new (.ref l):=
   Post.newL x2.al hl (zeH us' λu hu=>by rw[zah (hne _ (hmem' u hu))];exact g3 _ (hmem' u hu))
  refine q (us'.map (·.2)) (hk.nodup_iff.mpr (zfm _ _ List.nodup_nil)) hs (λx=>?_) _ F1 _ (p3.behind (p1.ext.trans x2));rw[hk.mem_iff,JS.zfk,<- g2];unfold swp;rw[List.map_map];constructor
  ·rintro(z | z)
   ·cases z
   ·exact z
  ·exact .inr
end
section
variable {X:Cx}{x:Str}{a b ei ev:Expr}{ta tb ti tv:TPE}{p pos pos':Pos}
theorem zjk {p:P2}(hp:POp X.K (rDI true) p)(ha:PuE X a ta)(hb:PuE X b tb){σ:St}{H:Hp}{Q:VK}(h:lift X.K (t2 p ta tb) σ H Q):zjV (lift X.K ta) (lift X.K tb) σ H Q:=by
 have:=zfe hp ha hb h;exact this
end
section
variable {X:Cx}{a b e o:Expr}{ta tb te to:TPE}{es:List Expr}{t:TPA}{p pos apos cpos:Pos}
noncomputable def zqI:R2:=λx y H Q=>∃u v,x=.str u/\y=.str v/\u.length+v.length<=sizeLine/\Q (.str (u++v)) H
theorem zoL:OpR X (binaryOp .Add) zqI:=by
 intro pins s σ H x y v u Q I rx ry h;obtain⟨a,b,rfl,rfl,hz,q⟩:=h;obtain⟨t1,rfl⟩:=rx;obtain⟨t2,rfl⟩:=ry;exact PyProof.Rows.add_str (λt' tk=>⟨.str (a++b),H,I.tok tk,⟨t',rfl⟩,q⟩) hz
noncomputable def zdr:P2:=λd e Q=>∃u v,d=.str u/\e=.str v/\u.length+v.length<=sizeLine/\Q (.str (u++v)) .frz
theorem zoM {K:Xa}:POp K zqI zdr where
 mono d e Q Q' m h:=by obtain⟨u,v,e1,e2,z,q⟩:=h;exact⟨u,v,e1,e2,z,m _ _ q⟩
 run Fz H x y d e Q al rx ry h:=by
  obtain⟨u,v,rfl,rfl,z,q⟩:=h;exact⟨u,v,zat rx,zat ry,z,q _ Fz H (.val al (by simp only[Den]))⟩
theorem zhw (ha:PuE X a ta)(hb:PuE X b tb):PuE X (.BinOp a .Add b pos) (t2 zdr ta tb):=zfB zoL zoM ha hb
theorem zrH {to te:TE}{name:Str}{id:String}{r:V->List V->Hp->VK->Prop}(slot:Slot "str" name id) (hty:typeOf (.builtin id)=pure (.type "method_descriptor")) (hm:MtR X id r) (ho:PE X o to) (he:PE X e te)
  (m:M1 X o name apos e cpos):PE X (.Call (.Attribute o name apos) [e] [] cpos) (λσ H Q=>to σ H λx H1=>∃y,x=.str y/\te σ H1 λz H2=>r x [z] H2 Q):=by
 intro pins s σ H Q I h;refine wpAny_Call_method m.base m.few m.line PySem.F.plainAttrs_str slot hty (thn (ho pins s σ H _ I h) λu s1 q112q=>?_);obtain⟨x,H1,I1,rx,y,ex,q1⟩:=q112q;subst ex;have rx':=rx;obtain⟨tk,rfl⟩:=rx;refine⟨typeIs_str _ _ _,(λb q=>nomatch q),?_⟩;rw[m.trees];refine Calls.callWith_builtin rfl (Calls.evalArgs_plain (Calls.spliced_cons (thn (he pins s1 σ H1 _ I1 q1) λiv s2 q113q=>Calls.spliced_nil ?_)));obtain⟨z,H2,I2,rz,q2⟩:=q113q;exact hm pins s2 σ H2 (.str y) [z] (.str y tk) [iv] Q I2 rx' (.cons rz .nil) q2
theorem zoN:MtR X "str.find" (λx xs H Q=>∃u v,x=.str u/\xs=[.str v]/\Q (.int (Txt.find u v)) H):=by
 intro pins s σ H x xs u us Q I rx r h;obtain⟨y,z,rfl,rfl,q⟩:=h;obtain⟨t1,rfl⟩:=rx;obtain⟨w,rfl,t2,rfl⟩:=vals1 r;exact call_gives PySem.F.slot_str_find (typeIs_str _ _ _) PySem.F.entry_str_find (PySem.F.args_str_find_2 _ _) (gives_str_find y z t1 t2) ⟨.int (Txt.find y z),H,I.tok _,⟨_,rfl⟩,q⟩
noncomputable def zdL (to te:TPE):TPE:=λρ Q=>to ρ λd _=>∃u,d=.str u/\te ρ λe _=>∃v,e=.str v/\Q (.int (Txt.find u v)) .frz
theorem zoO (ho:PuE X o to)(he:PuE X e te)(m:autoParam (M1 X o "find" apos e cpos) aU7):PuE X (.Call (.Attribute o "find" apos) [e] [] cpos) (zdL to te) where
 mono ρ Q Q' mm h:=ho.mono ρ _ _ (λd _ q114q=>by obtain⟨u,e1,h⟩:=q114q;exact⟨u,e1,he.mono ρ _ _ (λe _ q115q=>by obtain⟨v,e2,q⟩:=q115q;exact⟨v,e2,mm _ _ q⟩) h⟩) h
 run:=PE.weak (zrH PySem.F.slot_str_find PySem.F.type_str_find zoN ho.run he.run m) λσ H Q h=>by
  obtain⟨ρ,Fz,R,h⟩:=h;refine⟨ρ,Fz,R,ho.mono ρ _ _ (λd k q v F1 H1 p1=>?_) h⟩;obtain⟨u,rfl,q⟩:=q;refine⟨u,zat (p1.root R),ρ,F1,R.ext p1.ext,he.mono ρ _ _ (λe ke q w F2 H2 p2=>?_) q⟩;obtain⟨y,rfl,q⟩:=q;exact⟨u,y,zat (p1.root R),by rw[zat (p2.root (R.ext p1.ext))],q _ F2 H2 ⟨p1.ext.trans p2.ext,by show Den _ _ _ _ _;simp only[Den]⟩⟩
theorem zhx (hc:X.calm=true):zcz X (.type "tuple") (λxs H Q=>∃x:Str,xs=[V.str x]/\x.length<=sizeLine/\∀l,H l=none->Q (.ref l) (upd H l (.tup ((signs x).map V.str)))):=by
 intro pins s σ H xs us Q I r h;obtain⟨x,rfl,hz,q⟩:=h;obtain⟨u,rfl,t,rfl⟩:=vals1 r;refine call_tuple_str (I.ok.hd hc) x t (hsz:=hz) λh' tk acc kp hacc=>?_;have hl:x.cps.size=((signs x).map V.str).length:=by simp[signs]
 rw[hl]at hacc;have rv:Vals ((signs x).map V.str) acc.toList:=zfh hacc λi v y hy ⟨c,u,hc,ev⟩=>by
  subst ev;have:y=.str ⟨#[c]⟩:=by
   simp only[signs,Xk,Xn,hc,Option.map_some]at hy;exact(Option.some.inj hy).symm
  subst this;exact⟨u,rfl⟩
 have I1:Inv X pins σ H { s with heap:=h',toks:=tk }:=I.kept kp;have I2:=I1.laid (t':=tk) (o:=.tup ((signs x).map V.str)) (λb o e=>Xg { cls:=.type "tuple",data:=.seq acc } e) (Xo _) ⟨by rw[<- hl];exact hz,acc.toList,rv,zbT.new h' acc⟩;exact⟨.ref h'.objs.size,_,I2,rfl,q _ (I1.hok.fresh (Xo _))⟩
noncomputable def zaT:PF:=λds Q=>∃x:Str,ds=[.str x]/\x.length<=sizeLine/\Q (.tup ((signs x).map PV.str)) .frz
theorem zlf:zfE X.K (λxs H Q=>∃x:Str,xs=[V.str x]/\x.length<=sizeLine/\∀l,H l=none->Q (.ref l) (upd H l (.tup ((signs x).map V.str)))) zaT where
 mono ds Q Q' m h:=by obtain⟨x,e,e2,q⟩:=h;exact⟨x,e,e2,m _ _ q⟩
 run Fz H ds vs Q al hr h:=by
  obtain⟨x,rfl,e2,q⟩:=h;obtain⟨v,rfl,h1⟩:=zff hr;exact⟨x,by rw[zat h1],e2,λl hl=>q _ Fz _ (.newT al hl (zgv _))⟩
theorem zlg (hc:X.calm=true)(hg:Gl X "tuple") (hm:X.mg "tuple" = none) (ha:PuA X (e::es) t) (he:autoParam (starEach (e::es) X.env=(false,eval e X.env)::starEach es X.env) aU0) (hpl:autoParam ((backTo pos (starEach es X.env)).any (·.1)=false) aU0):PuE X (.Call (.Name "tuple" p) (e::es) [] pos) (tB zaT t):=
 zgs (zhx hc) zlf hg hm zkz ha (by decide) (by decide) he hpl
theorem zds (hu:X.A.units+1<cLine)(ha:PuE X a ta)(hb:PuE X b tb)(hm:autoParam (behindInMarks .NotIn b=false) aU0):PuT X (.Compare a [.NotIn] [b] pos) (tBl (t2 (pDI true) ta tb)) where
 mono ρ Q Q' m h:=zci zow ha hb ρ _ _ (λd k q=>zia m q) h
 run:=PT.weak (zpo (zjW hu ha.run hb.run) hm) λσ H Q h=>by
  obtain⟨ρ,Fz,R,h⟩:=h;refine zjk zow ha hb ⟨ρ,Fz,R,zci zow ha hb ρ _ _ (λd k q v F1 H1 p=>?_) h⟩;obtain⟨bb,rfl,q⟩:=zfC.mp q;exact⟨bb,zek (p.root R),q F1 H1 p.ext⟩
end
section
variable {X:Cx}{e:Expr}{te:TPE}{p apos cpos pos:Pos}
theorem zjl (hc:X.calm=true):zcz X (.type "list") (λxs H Q=>∃(v a:Addr) (kvs:List (Key×V)),xs=[V.ref v]/\H v=some (zjf v a)/\Rd H a (.dK kvs)/\∀l,H l=none->Q (.ref l) (upd H l (.lst (kvs.map λkv=>kV kv.1)))):=by
 intro pins s σ H xs us Q I r h;obtain⟨v,a,kvs,rfl,hv,hq,q⟩:=h;obtain⟨u,rfl,rx⟩:=vals1 r;cases rx;obtain⟨hview,_⟩:=I.hok v _ hv;obtain⟨z,lo,vs,rel,dd⟩:=zeh I.hok hq;obtain⟨ep,hat⟩:=dd.dictAt;have hlen:kvs.length=vs.length:=KV.length rel;refine PySem.W.kdl_call (PySem.W.kdl_keys (knd:=zax X.prog X.w) (kvs:=vs) (ep:=ep)) (I.ok.hd hc) ⟨hview,hat⟩ (by lia) λh' tk acc c kp e hacc=>?_;have hl:vs.length=(kvs.map λkv=>kV kv.1).length:=by simp[hlen]
 rw[hl]at hacc;have rv:Vals (kvs.map λkv=>kV kv.1) acc.toList:=zfh hacc λi v y hy ⟨k,x,hx,hk⟩=>by
  simp only[Xk]at hy;cases e2:kvs[i]? with
  | none=>rw[e2]at hy;cases hy
  | some kv=>
   rw[e2]at hy;cases hy;obtain⟨u2,hu2,_⟩:=zqo rel e2;rw[hx]at hu2;cases hu2;exact zou hk
 exact⟨.ref s.heap.objs.size,_,I.laid (t':=tk) kp (Xo _) (show zbr X.prog X.w _ h' _ (.lst (kvs.map λkv=>kV kv.1)) from⟨by rw[<- hl];lia,acc.toList,c,rv,by simpa using e⟩),rfl,q _ (I.hok.fresh (Xo _))⟩
theorem zoP {o:Expr}{to:TE}(ho:PE X o to)(hbase:attributeBase o "keys" X.env (eval o X.env)=eval o X.env) (hline:(apos.endLine == cpos.line)=true):PE X (.Call (.Attribute o "keys" apos) [] [] cpos) (λσ H Q=>to σ H λx H1=>∃(a:Addr) (kvs:List (Key×V)),x=.ref a/\Rd H1 a (.dK kvs)/\∀v,H1 v=none->Q (.ref v) (upd H1 v (zjf v a))):=by
 intro pins s σ H Q I h;refine wpAny_Call_method0_late hbase hline (thn (ho pins s σ H _ I h) λv s1 q118q=>?_);obtain⟨x,H1,I1,r1,a,kvs,ex,rd,q⟩:=q118q;subst ex;cases r1;obtain⟨_,_,vs,_,ob,es,ep,e,exd,_⟩:=zeh I1.hok rd;exact⟨"dict","dict.keys",PySem.F.plainAttrs_dict,PySem.F.slot_dict_keys,PySem.F.type_dict_keys,⟨ob,e,exd.1⟩,(λb e2=>by cases e2;exact⟨ob,e,exd.2.1⟩),Calls.callWith_builtin rfl (PySem.evalArgs_none (zoI pins s1 σ H1 (.ref a) [] (.ref a) [] Q I1 rfl .nil ⟨a,kvs,rfl,rfl,rd,q⟩))⟩
noncomputable def zby (te:TPE):TPE:=λρ Q=>te ρ λd _=>∃ks ds,d=.dK ks ds/\Q (.lst (ks.map keyP)) .new
theorem zdT (hc:X.calm=true)(hg:Gl X "list") (hm:X.mg "list" = none) (he:PuE X e te)
  (hbase:autoParam (attributeBase e "keys" X.env (eval e X.env)=eval e X.env) aU0) (hline:autoParam ((apos.endLine == cpos.line)=true) aU0)
  (hs2:autoParam (starEach [Expr.Call (.Attribute e "keys" apos) [] [] cpos] X.env=(false,eval (Expr.Call (.Attribute e "keys" apos) [] [] cpos) X.env)::starEach [] X.env) aU0) (hpl2:autoParam ((backTo pos (starEach [] X.env)).any (·.1)=false) aU0) :
  PuE X (.Call (.Name "list" p) [.Call (.Attribute e "keys" apos) [] [] cpos] [] pos) (zby te) where
 mono ρ Q Q' m h:=he.mono ρ _ _ (λd k q119q=>by obtain⟨ks,ds,e1,q⟩:=q119q;exact⟨ks,ds,e1,m _ _ q⟩) h
 run:=PE.weak (zed (zjl hc) hg hm zor (zak (zoP he.run hbase hline) zaQ hs2) (by decide) (by decide) hs2 hpl2) λσ H Q h=>by
  obtain⟨ρ,Fz,R,h⟩:=h;refine⟨ρ,Fz,R,he.mono ρ _ _ (λd k q v F1 H1 p1=>?_) h⟩;obtain⟨ks,ds,rfl,q⟩:=q;obtain⟨a,xs,rfl,rd,hl,hd⟩:=zet (p1.root R);refine⟨a,ks.zip xs,rfl,rd,λv hv=>?_⟩;have hne:H1 a≠none:=λz=>by
   rcases rd with r | ⟨o,r⟩<;>(rw[r]at z;cases z)
  have x2:Ext F1 H1 F1 (upd H1 v (zjf v a)):=Ext.laid ⟨Same.refl _,λ_ h=>h,λ_ h=>.inl h,p1.ext.al⟩ hv;have nav:a≠v:=λz=>hne (by rw[z];exact hv);have rd':Rd (upd H1 v (zjf v a)) a (.dK (ks.zip xs)):=by
   rcases rd with r | ⟨o,r⟩
   ·exact .inl (by rw[zah nav];exact r)
   ·exact .inr ⟨o,by rw[zah nav];exact r⟩
  refine⟨v,a,ks.zip xs,rfl,zaj,rd',λl hl2=>?_⟩;have:((ks.zip xs).map λkv=>kV kv.1)=ks.map kV:=by
   rw[show(λkv:Key×V=>kV kv.1)=kV ∘ Prod.fst from rfl,<- List.map_map,List.map_fst_zip (by lia)]
  rw[this];exact q _ F1 _ ((Post.newL x2.al hl2 (zgz ks)).behind (p1.ext.trans x2))
end
section
variable {P:Program}{w:World}{A:Around}{E:Value->Shared->Prop}{s:Shared}{knd:KeyKind P w Key}
theorem zjm {a b:Addr}{o1 o2:Obj}{es1 es2:Array DictEntry}{ep1 ep2:Nat}{id:String}{Q:Bool->Shared->Prop}(h1:s.heap.get? a=some o1)(d1:o1.data=.dict es1 ep1)(h2:s.heap.get? b=some o2)(d2:o2.data=.dict es2 ep2)
  (l1:(a == sysModules)=false) (l2:(b == sysModules)=false) (k2:KeysOf knd es2) (hs:es1.size=es2.size)
  (hf:∀(i:Nat) (hi:i<es1.size) (hi2:i<es2.size),∃k,knd.is k es1[i].key=true/\es1[i].hash=knd.hash k/\es2.findIdx? (λe=>knd.is k e.key)=some i/\SeqAt.EqAt A s es1[i].val es2[i].val true) (hq:Q true s) :
  wpAny (model P w) A (Builtin.Dict.samePairs id a b) Q E s:=by
 unfold Builtin.Dict.samePairs Builtin.Dict.showsAll;rw[if_neg (by rw[l1];decide),if_neg (by rw[l2];decide)];refine wpAny_bind (wpAny_pure (wpAny_bind (wpAny_pure (wpAny_bind (wpAny_dictEntries h1 d1 (wpAny_bind (wpAny_dictEntries h2 d2 ?_)))))));rw[if_neg (by simp[hs])];refine wpAny_bind (wpAny_dictEpoch h1 d1 (wpAny_bind ?_));rw[Std.Legacy.Range.forIn_eq_forIn_range'];refine wpAny_forIn_list _ (λrest r s'=>s'=s/\r=(none,())/\∀i∈rest,i<es1.size) _ ?_ ?_ _ _ ⟨rfl,rfl,λi hi=>?_⟩
 ·rintro i rest r s' ⟨rfl,rfl,hr⟩;have hi:i<es1.size:=hr i (Xi ..);have hi2:i<es2.size:=hs▸hi;obtain⟨k,hk1,hk2,hk3,hk4⟩:=hf i hi hi2;refine wpAny_bind (wpAny_dictEntries h1 d1 ?_);rw[Yu hi];refine wpAny_bind (wpAny_holding (wpAny_bind ?_));rw[hk2];refine wpAny_dictFind_of hk1 h2 d2 k2 ?_;rw[hk3];refine wpAny_bind (wpAny_dictEntries h2 d2 ?_);rw[Yu hi2];refine wpAny_holding (hk4 P w E _ ?_);rw[if_neg (by decide)];refine wpAny_bind (wpAny_dictEpoch h1 d1 ?_);rw[if_neg (by simp)];exact wpAny_pure ⟨rfl,rfl,λj hj=>hr j (Xe _ hj)⟩
 ·rintro r s' ⟨rfl,rfl,_⟩;exact wpAny_pure hq
 ·simp[List.mem_range']at hi;lia
theorem zfS {a b:Addr}{o1 o2:Obj}{es1 es2:Array DictEntry}{ep1 ep2:Nat}{Q:Value->Shared->Prop}(h1:s.heap.get? a=some o1)(d1:o1.data=.dict es1 ep1)(x1:o1.ExactDict)(h2:s.heap.get? b=some o2)(d2:o2.data=.dict es2 ep2)(x2:o2.ExactDict)
  (l1:(a == sysModules)=false) (l2:(b == sysModules)=false) (k2:KeysOf knd es2) (hs:es1.size=es2.size) (hu:A.units<cLine)
  (hf:∀(i:Nat) (hi:i<es1.size) (hi2:i<es2.size),∃k,knd.is k es1[i].key=true/\es1[i].hash=knd.hash k/\es2.findIdx? (λe=>knd.is k e.key)=some i/\SeqAt.EqAt A.in1 s es1[i].val es2[i].val true) (hq:Q (.bool true) s) :
  wpAny (model P w) A (richCompare .Eq (.ref a) (.ref b)) Q E s:=by
 have hT1:s.TypeIs (.ref a) "dict":=⟨o1,h1,x1.1⟩;have hT2:s.TypeIs (.ref b) "dict":=⟨o2,h2,x2.1⟩;refine wpAny_richCompare_same_room hT1 hT2 PySem.F.slot_dict_eq (wpAny_call (codeAny_call_builtin PySem.F.slot_dict_eq.plain PySem.F.entry_dict_eq (PySem.F.slot_dict_eq.check _ _ _ _ _ _ _ _ hT1 (PySem.F.args_dict_eq_2 _ _) ?_))) hu;obtain⟨hp,g,d,tk,os⟩:=s
 wp_walk
 refine wpAny_of_eq PySem.F.sub_dict_dict ?_;show wpAny _ _ (Builtin.Dict.samePairs _ a b >>= λx=>ret (.bool (x == true))) _ _ _;refine wpAny_bind (zjm (s:=⟨hp,g,d,tk,os⟩) h1 d1 h2 d2 l1 l2 k2 hs hf ?_);exact wpAny_pure ⟨(λz=>nomatch z),hq⟩
end
theorem pairs_at {P:Program}{w:World}{knd:KeyKind P w Key}:∀ {es:List DictEntry}{vs:List (Key×Value)},Pairs knd es vs->es.length=vs.length/\∀(i:Nat) e kv,es[i]? = some e->vs[i]? = some kv->knd.is kv.1 e.key=true/\e.val=kv.2
 | [],[],.nil=>⟨rfl,λi e kv h=>by simp at h⟩
 | e0::es,kv0::vs,.cons h1 h2 r=>by
  obtain⟨q1,q2⟩:=pairs_at r;refine⟨by simp[q1],λi e kv g1 g2=>?_⟩;cases i with
  | zero=>simp at g1 g2;subst g1 g2;exact⟨h1,h2⟩
  | succ i=>simp at g1 g2;exact q2 i e kv g1 g2
theorem zeL {α β:Type}{F:α->β->Prop}:∀ {l:List α}{r:List β},Paired F l r->∀(i:Nat) a b,l[i]? = some a->r[i]? = some b->F a b
 | [],[],.nil=>λi a b h=>by simp at h
 | a0::l,b0::r,.cons h t=>λi a b g1 g2=>by
  cases i with
  | zero=>simp at g1 g2;subst g1 g2;exact h
  | succ i=>simp at g1 g2;exact zeL t i a b g1 g2
noncomputable def rEqD (K:Xa):R2:=λx y H Q=>∃Fz ks ds,Root K Fz H (.dK ks ds) x/\Root K Fz H (.dK ks ds) y/\ds.all (plain 5)=true/\Q (.bl true) H
section
variable {X:Cx}
theorem zqJ (hu:X.A.units+16<cLine):OpR X (compareOp .Eq) (rEqD X.K):=by
 intro pins s σ H x y v u Q I rx ry h;obtain⟨Fz,ks,ds,hx,hy,pd,q⟩:=h;obtain⟨a,xs,rfl,ra,la,da⟩:=zet hx;obtain⟨b,ys,rfl,rb,lb,db⟩:=zet hy;cases rx;cases ry;obtain⟨z1,lo1,vs1,rel1,o1,es1,ep1,g1,x1,d1,k1,p1,n1⟩:=zeh I.hok ra;obtain⟨z2,lo2,vs2,rel2,o2,es2,ep2,g2,x2,d2,k2,p2,n2⟩:=zeh I.hok rb;obtain⟨lp1,pp1⟩:=pairs_at p1;obtain⟨lp2,pp2⟩:=pairs_at p2;have lk1:(ks.zip xs).length=vs1.length:=KV.length rel1;have lk2:(ks.zip ys).length=vs2.length:=KV.length rel2;rw[List.length_zip]at lk1 lk2;have sz1:es1.size=ks.length:=by rw[<- Xp,lp1,<- lk1];lia
 have sz2:es2.size=ks.length:=by rw[<- Xp,lp2,<- lk2];lia
 have ndk:ks.Nodup:=by
  have:=KV.keys rel1;rw[List.map_fst_zip (by lia)]at this;rw[this];exact n1
 have at1:∀(i:Nat) (hi:i<ks.length) (h1:i<es1.size) (hx:i<xs.length),(zax X.prog X.w).is ks[i] es1[i].key=true/\RelV xs[i] es1[i].val:=λi hi h1 hx=>by
  have hv:i<vs1.length:=by lia
  obtain⟨e1,e2⟩:=zeL rel1 i (ks[i],xs[i]) vs1[i] (by rw[Xb (by rw[List.length_zip];lia)];simp) (Xb hv);obtain⟨f1,f2⟩:=pp1 i es1[i] vs1[i] (by simp[h1]) (Xb hv);rw[f2];exact⟨by rw[show ks[i]=vs1[i].1 from e1];exact f1,e2⟩
 have at2:∀(i:Nat) (hi:i<ks.length) (h1:i<es2.size) (hx:i<ys.length),(zax X.prog X.w).is ks[i] es2[i].key=true/\RelV ys[i] es2[i].val:=λi hi h1 hx=>by
  have hv:i<vs2.length:=by lia
  obtain⟨e1,e2⟩:=zeL rel2 i (ks[i],ys[i]) vs2[i] (by rw[Xb (by rw[List.length_zip];lia)];simp) (Xb hv);obtain⟨f1,f2⟩:=pp2 i es2[i] vs2[i] (by simp[h1]) (Xb hv);rw[f2];exact⟨by rw[show ks[i]=vs2[i].1 from e1];exact f1,e2⟩
 refine zfS (knd:=zax X.prog X.w) g1 d1 x1 g2 d2 x2 lo1 lo2 k2 (by lia) (by lia) (λi hi hi2=>?_) ⟨.bl true,H,I,rfl,q⟩;have hik:i<ks.length:=by lia
 obtain⟨q1,r1⟩:=at1 i hik hi (by lia);obtain⟨q2,r2⟩:=at2 i hik hi2 (by lia);obtain⟨k',hk',hh⟩:=k1 es1[i] (Array.getElem_mem hi);have ek:k'=ks[i]:=(zax X.prog X.w).inj _ _ _ hk' q1;subst ek;refine⟨ks[i],q1,hh,?_,?_⟩
 ·rw[Array.findIdx?_eq_some_iff_getElem];refine⟨hi2,q2,λj hj=>?_⟩;have hjk:j<ks.length:=by lia
  obtain⟨q3,_⟩:=at2 j hjk (by lia) (by lia);rw[KeyKind.is_eq_decide q3];have:ks[i]≠ks[j]:=λz=>absurd ((List.getElem_inj ndk).mp z) (by lia);simp[this]
 ·have hid:i<ds.length:=by rw[da.length];lia
  obtain⟨v1,e1,D1⟩:=da.get (Xb hid);obtain⟨v2,e2,D2⟩:=db.get (Xb hid);rw[Xb (show i<xs.length by lia)]at e1;rw[Xb (show i<ys.length by lia)]at e2;cases e1;cases e2;have pl:=XM.mp pd _ (YA hid);have:=(zmj I 5 X.A.in1 ds[i] ds[i] _ _ _ _ pl pl (by show X.A.units+1+5<cLine;lia) D1.root D2.root r1 r2).2.2;rw[decide_eq_true rfl]at this;exact this
noncomputable def pEqD:P2:=λd e Q=>∃ks ds,d=.dK ks ds/\e=.dK ks ds/\ds.all (plain 5)=true/\Q (.bl true) .frz
theorem zqK {K:Xa}:POp K (rEqD K) pEqD where
 mono d e Q Q' m h:=by obtain⟨ks,ds,e1,e2,z,q⟩:=h;exact⟨ks,ds,e1,e2,z,m _ _ q⟩
 run Fz H x y d e Q al rx ry h:=by
  obtain⟨ks,ds,rfl,rfl,z,q⟩:=h;exact⟨Fz,ks,ds,rx,ry,z,q _ Fz H (.val al (by simp only[Den]))⟩
theorem zqL {a b:Expr}{ta tb:TPE}{pos:Pos}(hu:X.A.units+16<cLine)(ha:PuE X a ta)(hb:PuE X b tb)(hm:autoParam (behindInMarks .Eq b=false) aU5):PuE X (.Compare a [.Eq] [b] pos) (t2 pEqD ta tb):=zni (zqJ hu) zqK ha hb hm
end
section
variable {X:Cx}{z:Nat}{pos pos' pos2:Pos}{t:TPB}{x:Str}{rest:List Stmt}
noncomputable def zbY (z:Nat)(t:TPB):TPS:=λρ O=>z<ρ.length/\zgA t { nx:=λ_ _=>False,rt:=O.rt,bk:=λ_ _=>False,ct:=λ_ _=>False } (ρ.set z none) (.K [] [])
theorem zlh (hN:X.N.Nodup)(hx:X.N[z]? = some x)(hl:Loc X.env.scope x)(hr:PuB X z rest t)(hs:autoParam (swapsWith (.Dict [] [] pos) (some (.Name x pos')) pos2.line X.env=pure false) aU0)(hf:autoParam (X.fn x=true\/X.env.scope.names.lookup x=some .local) aU3) :
  PuSs X (.Assign [.Name x pos'] (.Dict [] [] pos) pos2::rest) (zbY z t) where
 mono ρ O O' m h:=⟨h.1,hr.mono _ _ { nx:=λ_ _=>False,rt:=O.rt,bk:=λ_ _=>False,ct:=λ_ _=>False } _ ⟨λ_ _ q=>q.elim,m.rt,λ_ _ q=>q.elim,λ_ _ q=>q.elim⟩ h.2⟩
 run:=PSs.weak (zaS (zcH hN hx hl zmc hs hf) hr.run) λD σ H h=>by
  obtain⟨ρ,Fz,R,hzl,q⟩:=h;intro l hp;have x2:Ext Fz H Fz (upd H l (.dK [])):=Ext.laid ⟨Same.refl _,λ_ h=>h,λ_ h=>.inl h,R.al⟩ hp;have nfl:¬ Fz l:=λw=>R.al l w hp;have nol:¬ zao ρ σ l:=λ⟨i,d,g1,g2⟩=>by
   obtain⟨a0,q1,_,q3⟩:=R.own i d g1;rw[g2]at q1;cases q1;obtain⟨o,q4,_⟩:=q3.at;rw[hp]at q4;cases q4
  have hzN:z<σ.length:=by rw[<- R.len];exact hzl
  have Rb:RelB X.K Fz (ρ.set z none) (.K [] []) (σ.set z (some (.ref l))) (upd H l (.dK [])) z l []:=
   ⟨(R.ext x2).unset,Xd hzl,Xd hzN,⟨zaj,rfl,by show OwnL _ _ _ [] [];unfold OwnL;rfl,by simp,λb hb=>by rw[Xs.mp hb];exact nfl⟩,λb hb w=>by rw[Xs.mp hb]at w;exact nol (zey l w)⟩
  refine⟨_,Fz,_,l,[],Rb,hr.mono _ _ { nx:=λ_ _=>False,rt:=(zcC X.K D ρ σ Fz H).rt,bk:=λ_ _=>False,ct:=λ_ _=>False } _ ⟨λ_ _ q=>q.elim,λd k q v Fz' H'' s al r=>?_,λ_ _ q=>q.elim,λ_ _ q=>q.elim⟩ q⟩;have s0:zbd (zao ρ σ) Fz H Fz (upd H l (.dK [])):=.of x2;have oi:InO (zao ρ σ) H (OB (ρ.set z none) (σ.set z (some (.ref l))) [l]):=λb hb=>by
   rcases hb with hb | hb
   ·exact .inl (zey b hb)
   ·rw[Xs.mp hb];exact .inr hp
  have s1:=s0.trans oi s;have r1:=r.back s0 oi;refine q v Fz' H'' ⟨s1.sub,s1.new,s1.keep⟩ al ?_;cases k with
  | frz=>exact r1
  | own i=>exact r1
  | new=>exact r1
end
theorem zhy {κ:Type} [DecidableEq κ] {k:κ}:∀ {ks:List κ}{vs:List V}{n:Nat},ks.length=vs.length->ks.Nodup->ks[n]? = some k->valV (ks.zip vs) k=vs[n]?
 | [],vs,n,hl,nd,h=>by simp at h
 | c::ks,[],n,hl,nd,h=>by simp at hl
 | c::ks,v::vs,n,hl,nd,h=>by
  rw[Yl]at nd;cases n with
  | zero=>
   simp at h;subst h;simp[valV]
  | succ n=>
   simp at h;have ne:¬ c=k:=λe=>nd.1 (by rw[e];exact Xl h);have:=zhy (vs:=vs) (n:=n) (by simpa using hl) nd.2 h;rw[Yx,<- this];simp[valV,Ys,ne]
theorem zli {ks:List Key}{vs:List V}{k:Key}{v:V}(hl:ks.length=vs.length)(h:k∉ks):putK (ks.zip vs) k v=(ks++[k]).zip (vs++[v]):=by
 unfold putK;have:((ks.zip vs).any λkv=>decide (kv.1=k))=false:=by
  rw[List.any_eq_false];intro x hx;have:=(List.of_mem_zip (a:=x.1) (b:=x.2) hx).1;simp;exact λz=>h (z▸this)
 rw[this,List.zip_append hl];rfl
section
variable {X:Cx}{z i:Nat}{ei ej ev e:Expr}{ti tj tv te:TPE}{x y:Str}{p p1 p2 p3 apos cpos pos pos' lp:Pos}
noncomputable def zbZ (z:Nat)(ti:TPE):TPB:=λρ β O=>∃ks ds,β=.K ks ds/\ks.length<sizeLine/\rdE z ti ρ β λdk=>∃k,dk=keyP k/\k∉ks/\O.nx ρ (.K (ks++[k]) (ds++[.lst []]))
theorem zmI (hu:X.A.units+1<cLine)(hi:PuE X ei ti)(hN:autoParam (X.N[z]? = some x) aU0)(hv:autoParam (Vis X.env.scope x) aU4)(hd:autoParam ((x == ("__debug__" : Str))=false) aU1) (hcd:autoParam ((x == ("__classdict__" : Str))=false) aU1)
  (hs:autoParam (swapsWith (.List [] lp) (some (.Subscript (.Name x p) ei p1)) pos.line X.env=pure false) aU0):PuB1 X z (.Assign [.Subscript (.Name x p) ei p1] (.List [] lp) pos) (zbZ z ti) where
 mono ρ β O O' m h:=by
  obtain⟨ks,ds,e0,el,h⟩:=h;exact⟨ks,ds,e0,el,hi.mono _ _ _ (λd k q121q=>by obtain⟨e1,e2,kk,q2,q3,q⟩:=q121q;exact⟨e1,e2,kk,q2,q3,m.nx _ _ q⟩) h⟩
 run:=PS.weak (zoe hu (zaP hN hv hd hcd) hi.run (zhT zaQ) hs) λD σ H h=>by
  obtain⟨ρ,Fz,β,a,bs,R,ks,ds,rfl,hkl,h⟩:=h;refine⟨XX _,λl hl=>?_⟩;have x1:Ext Fz H Fz (upd H l (.lst [])):=Ext.laid ⟨Same.refl _,λ_ h=>h,λ_ h=>.inl h,R.rel.al⟩ hl;have R1:=R.ext x1;refine⟨_,R1.sz,zex hi R1 h λdk w H2 q nm x2 dw=>?_⟩;obtain⟨k,rfl,hk,q⟩:=q;have R2:=R1.ext x2;have hw:w=kV k:=zcY dw.root;subst hw;have hok:ks.length=ds.length:=R.box.ok;have hbl:ds.length=bs.length:=R.box.own.length;have hl2:ks.length=(bs.map V.ref).length:=by rw[Xc];lia
  have hat2:H2 a=some (.dK (ks.zip (bs.map V.ref))):=R2.box.at_;refine⟨a,_,rfl,DPut.k hat2 (by rw[List.length_zip];lia),?_⟩;rw[zli hl2 hk];have hln:H l=none:=hl;have hpb:∀c∈a::bs,c≠l:=λc hc e=>by
   obtain⟨o,ho,_⟩:=R.box.has hc;rw[e,hln]at ho;cases ho
  have nfp:¬ Fz l:=λw=>R.rel.al l w hln;have nop:¬ zao ρ σ l:=λ⟨i,d,g1,g2⟩=>by
   obtain⟨a0,q1,_,q3⟩:=R.rel.own i d g1;rw[g2]at q1;cases q1;obtain⟨o,q4,_⟩:=q3.at;rw[hln]at q4;cases q4
  have hl2':H2 l=some (.lst []):=x2.same _ _ zaj;have rel3:=R2.rel.other (o:=.dK ((ks++[k]).zip (bs.map V.ref++[.ref l]))) hat2 (λy=>y) (R2.box.nf a (Xi ..)) (R2.no a (Xi ..));have kp:Keep Fz H2 (upd H2 a (.dK ((ks++[k]).zip (bs.map V.ref++[.ref l])))):=.mk' λc o e hw=>by
   have ne:c≠a:=λy=>by
    subst y;rcases hw with hw | hw
    ·exact R2.box.nf c (Xi ..) hw
    ·rw[hat2]at e;cases e;exact hw
   rw[zah ne];exact e
  have nda:=Yl.mp R.box.nd;have hbs:∀c∈bs,c≠a:=λc hc e=>nda.1 (by rw[<- e];exact hc);have hla:l≠a:=Ne.symm (hpb a (Xi ..));have Rn:RelB X.K Fz ρ (.K (ks++[k]) (ds++[.lst []])) σ (upd H2 a (.dK ((ks++[k]).zip (bs.map V.ref++[.ref l])))) z a (bs++[l]):=by
   refine⟨rel3,R2.hz,R2.sz,⟨?_,?_,?_,?_,λc hc=>?_⟩,λc hc w=>?_⟩
   ·show _=some (HO.dK ((ks++[k]).zip ((bs++[l]).map V.ref)));rw[zaj,XY];rfl
   ·show(ks++[k]).length=(ds++[_]).length;simp[hok]
   ·show OwnL _ _ _ (ds++[.lst []]) (bs++[l]);have op:Own X.K Fz (upd H2 a (.dK ((ks++[k]).zip (bs.map V.ref++[.ref l])))) (.lst []) l:=⟨[],by rw[zah hla];exact hl2',DenL.nil⟩;refine OwnL.snoc op ?_;exact R2.box.own.mono kp (λ_ h=>h) λc hc o e=>by rw[zah (hbs c hc)];exact e
   ·rw[Yl];refine⟨λhm=>?_,?_⟩
    ·rcases XA.mp hm with hm | hm
     ·exact nda.1 hm
     ·exact hla (Xs.mp hm).symm
    ·rw[List.nodup_append];exact⟨nda.2,by simp,λc hc d hd e=>hpb c (Xe _ hc) (by rw[e];exact Xs.mp hd)⟩
   ·rcases Xv.mp hc with rfl | hc
    ·exact R2.box.nf c (Xi ..)
    ·rcases XA.mp hc with hc | hc
     ·exact R2.box.nf c (Xe _ hc)
     ·rw[Xs.mp hc];exact nfp
   ·rcases Xv.mp hc with rfl | hc
    ·exact R2.no c (Xi ..) w
    ·rcases XA.mp hc with hc | hc
     ·exact R2.no c (Xe _ hc) w
     ·rw[Xs.mp hc]at w;exact nop w
  have s2:zbd (OB ρ σ (a::bs)) Fz H Fz (upd H2 a (.dK ((ks++[k]).zip (bs.map V.ref++[.ref l])))):=
   (zbd.of (x1.trans x2)).trans InO.refl ⟨λ_ h=>h,λ_ h=>.inl h,λc o e n=>by rw[zah λy=>n (.inr (by rw[y];exact Xi ..))];exact e⟩
  refine q σ Fz _ a (bs++[l]) s2 (λc hc=>?_) Rn;rcases hc with hc | hc
  ·exact .inl (.inl hc)
  ·rcases Xv.mp hc with hc | hc
   ·exact .inl (.inr (by rw[hc];exact Xi ..))
   ·rcases XA.mp hc with hc | hc
    ·exact .inl (.inr (Xe _ hc))
    ·rw[Xs.mp hc];exact .inr hln
noncomputable def zca (z:Nat)(ti te:TPE):TPB:=λρ β O=>∃ks ds,β=.K ks ds/\ks.Nodup/\rdE z ti ρ β λdk=>∃(k:Key)(n:Nat)(es:List PV),dk=keyP k/\ks[n]? = some k/\ds[n]? = some (.lst es)/\es.length<sizeLine/\rdE z te ρ β λd=>O.nx ρ (.K ks (ds.set n (.lst (es++[d]))))
theorem zmJ (hu:X.A.units+1<cLine)(hi:PuE X ei ti)(he:PuE X e te)(hN:autoParam (X.N[z]? = some x) aU0)(hv:autoParam (Vis X.env.scope x) aU4)(hd:autoParam ((x == ("__debug__" : Str))=false) aU1) (hcd:autoParam ((x == ("__classdict__" : Str))=false) aU1)
  (hix:autoParam (NoSl ei) aU6) (hbase:autoParam (attributeBase (.Subscript (.Name x p) ei p1) "append" X.env (eval (.Subscript (.Name x p) ei p1) X.env)=eval (.Subscript (.Name x p) ei p1) X.env) aU0)
  (hfew:autoParam (((backTo cpos (starEach [e] X.env)).all (λx=>!x.1)&&(backToKw cpos (keywordEach [] X.env)).all (λx=>x.1.isSome)&&decide ([e].length+([]:List Keyword).length+(if ([]:List Keyword).isEmpty then 0 else 1)<30))=true) aU0)
  (hline:autoParam ((apos.endLine == cpos.line)=true) aU0) (hst:autoParam (starEach [e] X.env=(false,eval e X.env)::starEach [] X.env) aU0) (hplain:autoParam ((backTo cpos (starEach [] X.env)).any (·.1)=false) aU0)
  (hs:autoParam (swapsWith (.Call (.Attribute (.Subscript (.Name x p) ei p1) "append" apos) [e] [] cpos) none pos.line X.env=pure false) aU0) :
  PuB1 X z (.Expr (.Call (.Attribute (.Subscript (.Name x p) ei p1) "append" apos) [e] [] cpos) pos) (zca z ti te) where
 mono ρ β O O' m h:=by
  obtain⟨ks,ds,e0,nd,h⟩:=h;exact⟨ks,ds,e0,nd,hi.mono _ _ _ (λd k q123q=>by obtain⟨e1,e2,kk,n,es,q1,q2,q3,q4,q⟩:=q123q;exact⟨e1,e2,kk,n,es,q1,q2,q3,q4,he.mono _ _ _ (λd k q124q=>by obtain⟨e1,e2,q⟩:=q124q;exact⟨e1,e2,m.nx _ _ q⟩) q⟩) h⟩
 run:=PS.weak (zfr (zjQ PySem.F.plainAttrs_list PySem.F.slot_list_append PySem.F.type_list_append zbF (zhe hu (zaP hN hv hd hcd) hi.run hix) (zak he.run zaQ hst) hbase hfew hline hst hplain) hs) λD σ H h=>by
  obtain⟨ρ,Fz,β,a,bs,R,ks,ds,rfl,nd,h⟩:=h;refine⟨_,R.sz,zex hi R h λdk w H1 q nm x1 dw=>?_⟩;obtain⟨k,n,es,rfl,hkn,hdn,hel,q⟩:=q;have R1:=R.ext x1;have hw:w=kV k:=zcY dw.root;subst hw;have hok:ks.length=ds.length:=R.box.ok;have hbl:ds.length=bs.length:=R.box.own.length;obtain⟨b,hb,ow⟩:=R1.box.own.get (show(BX.K ks ds).cts[n]? = _ from hdn);obtain⟨xs,hbx,hxs⟩:=ow;have hval:valV (ks.zip (bs.map V.ref)) k=some (.ref b):=by
   rw[zhy (by rw[Xc];lia) nd hkn,Xk,hb];rfl
  have hat1:H1 a=some (.dK (ks.zip (bs.map V.ref))):=R1.box.at_;refine⟨a,.ref b,rfl,by rw[<- hval];exact DGet.k hat1,.inl ⟨rfl,xs,SqL.of hbx⟩,zex he R1 q λd v H2 q nm2 x2 dv2=>?_⟩;have R2:=R1.ext x2;have hbx2:=x2.same _ _ hbx;have hl2:=hxs.length;have nfb:¬ Fz b:=R2.box.nf b (Xe _ (Xl hb));refine⟨b,xs,v,rfl,rfl,hbx2,by lia,?_⟩;have hxs2:=DenL.snoc (DenL.mono (.of x2.same) (λ_ h=>h) _ _ hxs) dv2;have ow2:Own X.K Fz (upd H2 b (.lst (xs++[v]))) (.lst (es++[d])) b:=⟨_,zaj,DenL.rew hbx2 nfb hxs2⟩;obtain⟨R3,s3⟩:=R2.put hb hbx2 (λy=>y) ow2 (.K ks (ds.set n (.lst (es++[d])))) rfl rfl (by show ks.length=(ds.set _ _).length;rw[XS];exact hok);exact q σ Fz _ a bs ((zbd.of (x1.trans x2)).trans InO.refl s3) InO.refl R3
noncomputable def zcb (z:Nat)(ti tj tv:TPE):TPB:=λρ β O=>rdE z tv ρ β λdv=>∃ks ds,β=.K ks ds/\ks.Nodup/\rdE z ti ρ β λdk=>∃(k:Key)(n:Nat)(es:List PV),dk=keyP k/\ks[n]? = some k/\ds[n]? = some (.lst es)/\rdE z tj ρ β λdj=>∃(j:Int)(m:Nat),dj=.int j/\ixN es.length j=some m/\O.nx ρ (.K ks (ds.set n (.lst (es.set m dv))))
theorem zmK (hu:X.A.units+1<cLine)(hi:PuE X ei ti)(hj:PuE X ej tj)(hev:PuE X ev tv)(hN:autoParam (X.N[z]? = some x) aU0)(hv:autoParam (Vis X.env.scope x) aU4)(hd:autoParam ((x == ("__debug__" : Str))=false) aU1) (hcd:autoParam ((x == ("__classdict__" : Str))=false) aU1)
  (hix:autoParam (NoSl ei) aU6)
  (hs:autoParam (swapsWithSole [.Subscript (.Subscript (.Name x p) ei p1) ej pos'] ev pos.line X.env=pure false) aU0) (hw:autoParam (swappedStores [.Subscript (.Subscript (.Name x p) ei p1) ej pos'] ev X.env=pure none) aU0)
  (h1:autoParam ((assignEach [.Subscript (.Subscript (.Name x p) ei p1) ej pos'] X.env).map (·.2)=[assign (.Subscript (.Subscript (.Name x p) ei p1) ej pos') X.env]) aU0)
  (ha:autoParam (∀v,assign (.Subscript (.Subscript (.Name x p) ei p1) ej pos') X.env v=(do
   let ov <- holding [v] (eval (.Subscript (.Name x p) ei p1) X.env);let iv <- holding [v,ov] (eval ej X.env)
   standAt pos'
   holding [v,ov,iv] (setItem ov iv v)
   release [v,ov,iv] [])) aU2):PuB1 X z (.Assign [.Subscript (.Subscript (.Name x p) ei p1) ej pos'] ev pos) (zcb z ti tj tv) where
 mono ρ β O O' m h:=hev.mono _ _ _ (λd k q125q=>by obtain⟨e1,e2,ks,ds,e0,nd,h⟩:=q125q;exact⟨e1,e2,ks,ds,e0,nd,hi.mono _ _ _ (λd k q126q=>by obtain⟨e1,e2,kk,n,es,q1,q2,q3,q⟩:=q126q;exact⟨e1,e2,kk,n,es,q1,q2,q3,hj.mono _ _ _ (λd k q127q=>by obtain⟨e1,e2,j,mm,q1,q2,q⟩:=q127q;exact⟨e1,e2,j,mm,q1,q2,m.nx _ _ q⟩) q⟩) h⟩) h
 run:=PS.weak (zpw hev.run (zpv (zhe hu (zaP hN hv hd hcd) hi.run hix) hj.run set_list ha) hs hw h1) λD σ H h=>by
  obtain⟨ρ,Fz,β,a,bs,R,h⟩:=h;refine zex hev R h λd v H0 q nm0 x0 dv=>?_;obtain⟨ks,ds,rfl,nd,q⟩:=q;have R0:=R.ext x0;refine⟨_,R0.sz,zex hi R0 q λdk w H1 q nm x1 dw=>?_⟩;obtain⟨k,n,es,rfl,hkn,hdn,q⟩:=q;have R1:=R0.ext x1;have hw:w=kV k:=zcY dw.root;subst hw;have hok:ks.length=ds.length:=R.box.ok;have hbl:ds.length=bs.length:=R.box.own.length;obtain⟨b,hb,ow⟩:=R1.box.own.get (show(BX.K ks ds).cts[n]? = _ from hdn);obtain⟨xs,hbx,hxs⟩:=ow;have hval:valV (ks.zip (bs.map V.ref)) k=some (.ref b):=by
   rw[zhy (by rw[Xc];lia) nd hkn,Xk,hb];rfl
  have hat1:H1 a=some (.dK (ks.zip (bs.map V.ref))):=R1.box.at_;refine⟨a,.ref b,rfl,by rw[<- hval];exact DGet.k hat1,zex hj R1 q λdj u H2 q nm2 x2 dv2=>?_⟩;obtain⟨j,m,rfl,hjm,q⟩:=q;have R2:=R1.ext x2;have hbx2:=x2.same _ _ hbx;have hl2:=hxs.length;have nfb:¬ Fz b:=R2.box.nf b (Xe _ (Xl hb));refine⟨b,xs,j,m,rfl,zaG dv2.root,hbx2,by rw[<- hl2];exact hjm,?_⟩;have hxs2:=DenL.set m (DenL.mono (.of x2.same) (λ_ h=>h) _ _ hxs) (Den.mono (.of (x1.trans x2).same) (λ_ h=>h) _ _ dv);have ow2:Own X.K Fz (upd H2 b (.lst (xs.set m v))) (.lst (es.set m d)) b:=⟨_,zaj,DenL.rew hbx2 nfb hxs2⟩;obtain⟨R3,s3⟩:=R2.put hb hbx2 (λy=>y) ow2 (.K ks (ds.set n (.lst (es.set m d)))) rfl rfl (by show ks.length=(ds.set _ _).length;rw[XS];exact hok);exact q σ Fz _ a bs ((zbd.of ((x0.trans x1).trans x2)).trans InO.refl s3) InO.refl R3
noncomputable def zcc (i z:Nat)(te:TPE):TPB:=λρ β O=>te (ρ.set z (some (β.pv,false))) λd k=>k=.new/\(∃ds,d=.lst ds/\zaC ds=true)/\O.nx (ρ.set i (some (d,false))) β
theorem zmL {pos':Pos}(hN:X.N.Nodup)(hi:X.N[i]? = some y)(hx:Loc X.env.scope y)(he:PuE X e te)(hiz:autoParam (i≠z) aU1)(hs:autoParam (swapsWith e (some (.Name y pos')) pos.line X.env=pure false) aU0)(hf:autoParam (X.fn y=true\/X.env.scope.names.lookup y=some .local) aU3) :
  PuB1 X z (.Assign [.Name y pos'] e pos) (zcc i z te) where
 mono ρ β O O' m h:=he.mono _ _ _ (λd k q128q=>by obtain⟨e1,e2,q⟩:=q128q;exact⟨e1,e2,m.nx _ _ q⟩) h
 run:=PS.weak (zcH hN hi hx he.run hs hf) λD σ H h=>by
  obtain⟨ρ,Fz,β,a,bs,R,h⟩:=h;refine⟨_,_,R.frozen,he.mono _ _ _ (λd k q v Fz' H' p=>?_) h⟩;obtain⟨rfl,⟨ds,rfl,nm⟩,q⟩:=q;obtain⟨px,l,rfl,hl0,hlf,xs,hlx,hds⟩:=p;have nl:¬ Fz l:=λw=>R.rel.al l w hl0;have x1:Ext Fz H Fz H':=⟨px.same,λ_ h=>h,λ_ h=>.inl h,λb hb y=>R.rel.al b hb (px.same.free y)⟩;have x2:Ext Fz H (λb=>Fz b\/b=l) H':=x1.add hl0 (by rw[hlx];exact λz=>nomatch z);have R2:=R.ext x2;have dn:Den X.K (λb=>Fz b\/b=l) H' (.lst ds) (.ref l):=by
   simp only[Den];exact⟨l,xs,rfl,.inl ⟨.inr rfl,.inl hlx⟩,zbc ds xs nm hds⟩
  exact q (σ.set i (some (.ref l))) _ H' a bs (.of x2) OB.set (R2.set dn hiz)
end
noncomputable def zlj:PV->Bool
 | .lst es=>zaC es
 | _=>false
section
variable {X:Cx}{elt tg iter:Expr}{sc:Scope}{pos:Pos}{N:List Str}{k:Nat}{js:List Nat}{ti:TPI}{g:TPG}{te:TPE}
theorem zmM (nd:js.Nodup)(hloc:LocG k g)(B:PBlk X N sc tg [] elt g zbP te){ρ:PEnv}{σ:St}{H H1:Hp}{Fz1:FZ}{o:Bool}{J:It}{its:List PV}{l:Addr}{Rr:Hp->Prop}(R1:Rel X.K Fz1 ρ σ H1)(wk:Walk X.K Fz1 o J its H1)(hl:H1 l=none)(hz:its.length<=sizeLine)(Pv:Nat->List PV->Prop)(h0:Pv 0 [])
  (hstep:∀i d out,its[i]? = some d->out.length=i->Pv i out->g d (blkP k js ρ) λρ2=>te ρ2 λe ke=>ke=.new/\zlj e=true/\Pv (i+1) (out++[e]))
  (hdone:∀out bs H',Ext Fz1 H1 Fz1 H'->Box X.K Fz1 H' (.L out) l bs->(∀b∈l::bs,H1 b=none)->out.length=its.length->Pv its.length out->Rr H') :
  zfb J (zeU X.K g) (liftT X.K zbP) (lift X.K te) l (zcf k js σ) H1 Rr:=by
 have mg:=(B.tgt 0 [] [] X.s₀ H).mono;have me:=(B.val 0 [] [] X.s₀ H).mono;have nf1:¬ Fz1 l:=λz=>R1.al l z hl;have no1:¬ zao ρ σ l:=λ⟨i,d,h1,h2⟩=>by
  obtain⟨a,q1,_,q3⟩:=R1.own i d h1;rw[h2]at q1;cases q1;obtain⟨o',q4,_⟩:=q3.at;rw[hl]at q4;cases q4
 refine⟨λi m σ' H'=>m=its.length-i/\i<=its.length/\∃out bs,Rel X.K Fz1 (blkP k js ρ) σ' H'/\(∀b,zao (blkP k js ρ) σ' b->zao ρ σ b)/\H' l=some (.lst (bs.map V.ref))/\OwnL X.K Fz1 H' out bs/\(l::bs).Nodup/\(∀b∈l::bs,H1 b=none)/\out.length=i/\Pv i out/\Same H1 H',
  ⟨its.length,by lia,XX _,[],[],?_,λb hb=>zhl R1 hb,zaj,by unfold OwnL;rfl,by simp,λb hb=>by rw[Xs.mp hb];exact hl,rfl,h0,(Same.refl H1).upd' hl⟩,?_⟩
 ·have x0:Ext Fz1 H1 Fz1 (upd H1 l (.lst [])):=Ext.laid ⟨Same.refl _,λ_ h=>h,λ_ h=>.inl h,R1.al⟩ hl;exact(R1.block nd).ext x0
 rintro i m σ' H' ⟨rfl,hle,out,bs,Rb,ob,hlx,hout,hnd,hfr,hol,hP,sm⟩;obtain⟨wgo,wstop⟩:=wk H' (.inl sm) i;by_cases hlt:i<its.length
 ·obtain⟨go,yl⟩:=wgo its[i] (Xb hlt);refine .inr ⟨go,λxv H2 y=>?_⟩;obtain⟨sm2,dn⟩:=yl xv H2 y;have x2:Ext Fz1 H' Fz1 H2:=⟨sm2,λ_ h=>h,λ_ h=>.inl h,λb hb z=>Rb.al b hb (sm2.free z)⟩;refine⟨blkP k js ρ,Fz1,its[i],Rb.ext x2,dn,mg _ _ _ _ (λρ2 ⟨q,l2,a2⟩ σ2 R2 o2=>?_) (hloc _ _ _ (hstep i its[i] out (Xb hlt) hol hP))⟩;have own2:∀b,zao (blkP k js ρ) σ2 b->zao ρ σ b:=λb ⟨j,d,h1,h2⟩=>by
   refine ob b (o2 b ⟨j,d,?_,h2⟩);obtain⟨i',j',e,_⟩:=zbQ h1;rw[a2 j (by lia)];exact h1
  refine⟨ρ2,Fz1,R2,λF4 H4 x4=>?_⟩;have R4':Rel X.K F4 ρ2 σ2 H4:=R2.ext x4;have x4':Ext Fz1 H2 Fz1 H4:=⟨x4.same,λ_ h=>h,λ_ h=>.inl h,λb hb z=>R2.al b hb (x4.same.free z)⟩;have R4:Rel X.K Fz1 ρ2 σ2 H4:=R2.ext x4';refine iteT ⟨ρ2,Fz1,R4,me ρ2 _ _ (λe ke q132q v F5 H5 p5=>?_) q⟩;obtain⟨hk,hne,q⟩:=q132q;subst hk;obtain⟨px,b,rfl,hb0,hbf,ow⟩:=p5;cases e with
  | lst es=>
   obtain⟨ys,hbx,hys⟩:=ow;have sm5:Same H' H5:=sm2.trans (x4.same.trans px.same);have hl5:H5 l=some (.lst (bs.map V.ref)):=sm5 _ _ hlx;have x5:Ext Fz1 H4 Fz1 H5:=⟨px.same,λ_ h=>h,λ_ h=>.inl h,λb hb z=>R4.al b hb (px.same.free z)⟩;have R5:Rel X.K Fz1 ρ2 σ2 H5:=R4.ext x5;have Rb5:Rel X.K Fz1 (blkP k js ρ) σ2 H5:=Rel.zfF R5 l2 a2;have no5:¬ zao (blkP k js ρ) σ2 l:=λz=>no1 (own2 l z);have hbn1:H' b=none:=sm2.free (x4.same.free hb0);have hb1:H1 b=none:=sm.free hbn1;have hbl:b≠l:=λe=>by rw[e,hlx]at hbn1;cases hbn1
   have hbm:b∉bs:=λe=>by
    obtain⟨o,eo,_⟩:=hout.has e;rw[hbn1]at eo;cases eo
   have nda:=Yl.mp hnd;have hle2:=hout.length;have kp:Keep Fz1 H5 (upd H5 l (.lst (bs.map V.ref++[.ref b]))):=.mk' λc w e hw=>by
    have ne:c≠l:=λz=>by
     subst z;rcases hw with hw | hw
     ·exact nf1 hw
     ·rw[hl5]at e;cases e;exact hw
    rw[zah ne];exact e
   have owb:Own X.K Fz1 (upd H5 l (.lst (bs.map V.ref++[.ref b]))) (.lst es) b:=⟨ys,by rw[zah hbl];exact hbx,DenL.mono kp (λ_ h=>h) _ _ (zbc es ys hne hys)⟩;refine⟨bs.map V.ref,hl5,by rw[Xc];lia,its.length-(i+1),by lia,rfl,hlt,out++[.lst es],bs++[b],Rb5.other hl5 (λz=>z) nf1 no5,own2,by rw[zaj,XY];rfl,?_,?_,λc hc=>?_,by rw[XH];simp;lia,q,?_⟩
   ·refine OwnL.snoc owb (hout.mono (.mk' λc w e hw=>?_) (λ_ h=>h) λc hc w e=>?_)
    ·have ne:c≠l:=λz=>by
      subst z;rcases hw with hw | hw
      ·exact nf1 hw
      ·rw[hlx]at e;cases e;exact hw
     rw[zah ne];exact sm5 _ _ e
    ·have ne:c≠l:=λz=>nda.1 (by rw[<- z];exact hc);rw[zah ne];exact sm5 _ _ e
   ·rw[Yl];refine⟨λhm=>?_,?_⟩
    ·rcases XA.mp hm with hm | hm
     ·exact nda.1 hm
     ·exact hbl (Xs.mp hm).symm
    ·rw[List.nodup_append];exact⟨nda.2,by simp,λc hc d hd e=>hbm (by rw[<- Xs.mp hd,<- e];exact hc)⟩
   ·rcases Xv.mp hc with rfl | hc
    ·exact hl
    ·rcases XA.mp hc with hc | hc
     ·exact hfr c (Xe _ hc)
     ·rw[Xs.mp hc];exact hb1
   ·exact(sm.trans sm5).upd' hl
  | _=>cases hne
 ·have e:i=its.length:=by lia
  subst e;refine .inl ⟨wstop (Xo _),hdone out bs H' ⟨sm,λ_ h=>h,λ_ h=>.inl h,Rb.al⟩ ⟨hlx,trivial,hout,hnd,λb hb w=>R1.al b w (hfr b hb)⟩ hfr hol hP⟩
noncomputable def zbz (k:Nat)(js:List Nat)(ti:TPI)(g:TPG)(te:TPE)(ρ:PEnv)(O:List PV->Prop):Prop:=ti ρ λits _=>its.length<=sizeLine/\∃Pv:Nat->List PV->Prop,Pv 0 []/\
 (∀i d out,its[i]? = some d->out.length=i->Pv i out->g d (blkP k js ρ) λρ2=>te ρ2 λe ke=>ke=.new/\zlj e=true/\Pv (i+1) (out++[e]))/\∀out,out.length=its.length->Pv its.length out->O out
theorem zjn (nd:js.Nodup)(hloc:LocG k g)(hi:PuI X tg iter ti)(B:PBlk X N sc tg [] elt g zbP te){ρ:PEnv}{σ:St}{H:Hp}{Fz:FZ}{Q:VK}(R:Rel X.K Fz ρ σ H){O:List PV->Prop}(h:zbz k js ti g te ρ O)
  (hO:∀es a bs Fz' H',O es->Ext Fz H Fz' H'->Box X.K Fz' H' (.L es) a bs->(∀b∈a::bs,H b=none)->Q (.ref a) H') :
  zme k js (zon X.K ti) (zeU X.K g) (liftT X.K zbP) (lift X.K te) σ H Q:=by
 refine⟨ρ,Fz,R,hi.mono ρ _ _ (λits o q J Fz1 H1 x wk l hl=>?_) h⟩;obtain⟨hz,Pv,h0,hstep,hdone⟩:=q;refine zmM (H:=H) nd hloc B (R.ext x) wk hl hz Pv h0 hstep λout bs H' x' bx hf hol hP=>?_;exact hO out l bs Fz1 H' (hdone out hol hP) (x.trans x') bx λb hb=>x.same.free (hf b hb)
end
noncomputable abbrev PFB:=List PV->(List PV->Prop)->Prop
noncomputable def spB (K:Xa)(F:PFB):Sp:=λvs H Q _=>∃Fz ds,(∀b,Fz b->H b≠none)/\DenL K Fz H ds vs/\F ds λes=>∀a bs Fz' H',Ext Fz H Fz' H'->Box K Fz' H' (.L es) a bs->(∀b∈a::bs,H b=none)->Q (.ref a) H'
theorem Rel.away {K:Xa}{Fz:FZ}{ρ:PEnv}{σ:St}{H H':Hp}{S:List Addr}(R:Rel K Fz ρ σ H)(k:∀c o,H c=some o->c∉S->H' c=some o)(th:∀c,H c≠none->H' c≠none)(h:∀c∈S,¬ Fz c/\¬ zao ρ σ c/\∃o,H c=some o/\¬ Imm o):Rel K Fz ρ σ H':=by
 have kp:Keep Fz H H':=.mk' λc o e w=>k c o e λhc=>by
  obtain⟨nf,_,o',e',ni⟩:=h c hc;rcases w with w | w
  ·exact nf w
  ·rw[e]at e';cases e';exact ni w
 refine⟨λb hb=>th b (R.al b hb),R.len,λi d e=>?_,λi d e=>?_,R.inj⟩
 ·obtain⟨v,q1,q2⟩:=R.frz i d e;exact⟨v,q1,Den.mono kp (λ_ h=>h) _ _ q2⟩
 ·obtain⟨a,q1,q2,q3⟩:=R.own i d e;exact⟨a,q1,q2,q3.mono kp (λ_ h=>h) λo eo=>k a o eo λhc=>(h a hc).2.1 ⟨i,d,e,q1⟩⟩
theorem Rel.forget {K:Xa}{Fz:FZ}{ρ:PEnv}{σ σ':St}{H:Hp}{z i:Nat}(R:Rel K Fz ρ σ H)(hl:σ'.length=σ.length)(hs:∀j,j≠z->j≠i->σ'[j]? = σ[j]?):Rel K Fz ((ρ.set z none).set i none) σ' H:=by
 have ne:∀(j:Nat) (p:PV×Bool),((ρ.set z none).set i none)[j]? = some (some p)->j≠z/\j≠i/\ρ[j]? = some (some p):=λj p h=>by
  by_cases h1:i=j
  ·subst h1;by_cases hi:i<(ρ.set z none).length
   ·rw[Xd hi]at h;cases h
   ·rw[XD (by lia),Xz (by lia)]at h;cases h
  ·rw[Xf h1]at h;by_cases h2:z=j
   ·subst h2;by_cases hi:z<ρ.length
    ·rw[Xd hi]at h;cases h
    ·rw[XD (by lia),Xz (by lia)]at h;cases h
   ·rw[Xf h2]at h;exact⟨Ne.symm h2,Ne.symm h1,h⟩
 refine⟨R.al,by rw[XS,XS,hl];exact R.len,λj d e=>?_,λj d e=>?_,λj k d e a h1 h2 h3 h4=>?_⟩
 ·obtain⟨n1,n2,e⟩:=ne j _ e;rw[hs j n1 n2];exact R.frz j d e
 ·obtain⟨n1,n2,e⟩:=ne j _ e;rw[hs j n1 n2];exact R.own j d e
 ·obtain⟨n1,n2,e1⟩:=ne j _ h1;obtain⟨m1,m2,e2⟩:=ne k _ h2;rw[hs j n1 n2]at h3;rw[hs k m1 m2]at h4;exact R.inj j k d e a e1 e2 h3 h4
theorem zjo {ρ:PEnv}{σ σ':St}{z i:Nat}(hs:∀j,j≠z->j≠i->σ'[j]? = σ[j]?):∀b,zao ((ρ.set z none).set i none) σ' b->zao ρ σ b:=λb ⟨j,d,h,g⟩=>by
 by_cases h1:i=j
 ·subst h1;by_cases hi:i<(ρ.set z none).length
  ·rw[Xd hi]at h;cases h
  ·rw[XD (by lia),Xz (by lia)]at h;cases h
 ·rw[Xf h1]at h;by_cases h2:z=j
  ·subst h2;by_cases hi:z<ρ.length
   ·rw[Xd hi]at h;cases h
   ·rw[XD (by lia),Xz (by lia)]at h;cases h
  ·rw[Xf h2]at h;rw[hs j (Ne.symm h2) (Ne.symm h1)]at g;exact⟨j,d,h,g⟩
section
variable {X:Cx}{k z i:Nat}{f:Addr}{fd:FuncData}{ps:List Str}{F:PFB}{fx x y:Str}{e c:Expr}{es:List Expr}{ta:TPA}{tc:TPT}{rest:List Stmt}{t:TPS}{p0 p1 p2 p3 p4 p5 p6 p7 p8 p9 q0 q1 q2 q3 q4 q5 q6 q7 q8 q9:Pos}{j0 j1 j2:Nat}
noncomputable def zcd (z i:Nat)(F:PFB)(ta:TPA)(tc:TPT)(t:TPS):TPS:=λρ O=>z<ρ.length/\i<ρ.length/\ta ρ λops=>noOwn ops=true/\F (ops.map (·.1)) λls=>ls.length<sizeLine/\(∀l∈ls,∃ds,l=.lst ds/\ds.length<sizeLine)/\
 tc ((ρ.set z none).set z (some (.lst ls,false))) λb=>if b=true then O.rt (.bl false) .frz else Hold t O ((ρ.set z none).set i none)
theorem zjp (G:FnOk X.prog X.w X.K X.mg X.base CX0 k f fd ps (spB X.K F))(mF:∀ds Q Q',(∀es,Q es->Q' es)->F ds Q->F ds Q')(hcalm:X.calm=true)(hr:Room k X.A)(hg:Gl X fx)(hm:X.mg fx=some (.ref f))(hk:XO X.K (.ref f)=true)(hb:Binds X.K fd ps [])(ha:PuA X (e::es) ta)(hc:PuT X c tc)(hrest:PuSs X rest t)
  (hN:X.N.Nodup) (hz:X.N[z]? = some x) (hlx:Loc X.env.scope x) (hi:X.N[i]? = some y) (hly:Loc X.env.scope y) (hzi:autoParam (z≠i) aU1)
  (hvx:autoParam (Vis X.env.scope x) aU4) (hvy:autoParam (Vis X.env.scope y) aU4) (hd:autoParam ((x == ("__debug__" : Str))=false) aU1) (hcd:autoParam ((x == ("__classdict__" : Str))=false) aU1) (hd2:autoParam ((y == ("__debug__" : Str))=false) aU1) (hcd2:autoParam ((y == ("__classdict__" : Str))=false) aU1) (hdf:autoParam ((fx == ("__debug__" : Str))=false) aU1)
  (he:autoParam (starEach (e::es) X.env=(false,eval e X.env)::starEach es X.env) aU0) (hpl:autoParam ((backTo p1 (starEach es X.env)).any (·.1)=false) aU0)
  (hs1:autoParam (swapsWith (.Call (.Name fx p0) (e::es) [] p1) (some (.Name x p2)) p3.line X.env=pure false) aU0) (hf:autoParam (X.fn x=true\/X.env.scope.names.lookup x=some .local) aU3) (hfy:autoParam (X.fn y=true\/X.env.scope.names.lookup y=some .local) aU3)
  (hs3:autoParam (swapsWith (.Call (.Attribute (.Name y q0) "append" q1) [.Constant .none j1 q2] [] q3) none q4.line X.env=pure false) aU0) (hs4:autoParam (swapsWith (.Call (.Attribute (.Name x q5) "append" q6) [.Constant .none j2 q7] [] q8) none p9.line X.env=pure false) aU0)
  (hby:autoParam (attributeBase (.Name y q0) "append" X.env (eval (.Name y q0) X.env)=eval (.Name y q0) X.env) aU0) (hbx:autoParam (attributeBase (.Name x q5) "append" X.env (eval (.Name x q5) X.env)=eval (.Name x q5) X.env) aU0)
  (hfw1:autoParam (((backTo q3 (starEach [.Constant .none j1 q2] X.env)).all (λx=>!x.1)&&(backToKw q3 (keywordEach [] X.env)).all (λx=>x.1.isSome)&&decide ([Expr.Constant .none j1 q2].length+([]:List Keyword).length+(if ([]:List Keyword).isEmpty then 0 else 1)<30))=true) aU0)
  (hfw2:autoParam (((backTo q8 (starEach [.Constant .none j2 q7] X.env)).all (λx=>!x.1)&&(backToKw q8 (keywordEach [] X.env)).all (λx=>x.1.isSome)&&decide ([Expr.Constant .none j2 q7].length+([]:List Keyword).length+(if ([]:List Keyword).isEmpty then 0 else 1)<30))=true) aU0)
  (hln1:autoParam ((q1.endLine == q3.line)=true) aU0) (hln2:autoParam ((q6.endLine == q8.line)=true) aU0) (hst1:autoParam (starEach [.Constant .none j1 q2] X.env=(false,eval (.Constant .none j1 q2) X.env)::starEach [] X.env) aU0) (hst2:autoParam (starEach [.Constant .none j2 q7] X.env=(false,eval (.Constant .none j2 q7) X.env)::starEach [] X.env) aU0)
  (hp1:autoParam ((backTo q3 (starEach [] X.env)).any (·.1)=false) aU0) (hp2:autoParam ((backTo q8 (starEach [] X.env)).any (·.1)=false) aU0) (hfs:autoParam (∀v,foldedSetIterable (.Name x p7) X.env v=pure v) aU2) (hps:PassesOwn (model X.prog X.w) X.A X.env X.xe:=by exact PassesOwn.never) :
  PuSs X (.Assign [.Name x p2] (.Call (.Name fx p0) (e::es) [] p1) p3::.If c [.Return (some (.Constant (.bool false) j0 p4)) p5] [] p6::.For (.Name y p8) (.Name x p7) [.Expr (.Call (.Attribute (.Name y q0) "append" q1) [.Constant .none j1 q2] [] q3) q4] [] q9::.Expr (.Call (.Attribute (.Name x q5) "append" q6) [.Constant .none j2 q7] [] q8) p9::rest) (zcd z i F ta tc t) where
 mono ρ O O' m h:=by
  refine⟨h.1,h.2.1,ha.mono ρ _ _ (λops ⟨hn,q⟩=>⟨hn,mF _ _ _ (λls ⟨z1,z2,q⟩=>⟨z1,z2,hc.mono _ _ _ (λb q=>?_) q⟩) q⟩) h.2.2⟩;cases b with
  | true=>rw[if_pos rfl]at q ⊢;exact m.rt _ _ q
  | false=>rw[if_neg Xr]at q ⊢;exact hrest.mono _ _ _ m q
 run:=PSs.weak (zaS (zcH hN hz hlx (zec G hr hg hm hk hb .nil zmd ha.run hdf he hpl) hs1 hf) (zaS (zlT hc.run (zch (zgd zpn)) zgZ) (zaS (zhS hps hcalm (zjI (zaP hz hvx hd hcd)) (zha hN hi hly hfy) (zch (zfr (zjQ PySem.F.plainAttrs_list PySem.F.slot_list_append PySem.F.type_list_append zbF (zaP hi hvy hd2 hcd2) (zak zjF zaQ hst1) hby hfw1 hln1 hst1 hp1) hs3)) hfs) (zaS (zfr (zjQ PySem.F.plainAttrs_list PySem.F.slot_list_append PySem.F.type_list_append zbF (zaP hz hvx hd hcd) (zak zjF zaQ hst2) hbx hfw2 hln2 hst2 hp2) hs4) hrest.run)))) λD σ H h=>by
  obtain⟨ρ,Fz,R,hzl,hil,h⟩:=h;refine⟨ρ,Fz,R,ha.mono ρ _ _ (λops q vs F1 H1 x1 o=>?_) h⟩;obtain⟨hn,q⟩:=q;show spB X.K F (vs++[]) H1 _ E0;rw[Yd];obtain⟨F2,x2,s2,h2⟩:=o.frozen x1 hn;refine⟨F2,ops.map (·.1),x2.al,h2,mF _ _ _ (λls q a bs F3 H3 x3 bx hfr=>?_) q⟩;obtain⟨hlz,hlb,q⟩:=q;have x13:Ext Fz H F3 H3:=x2.trans x3;have hzs:z<σ.length:=by rw[<- R.len];exact hzl
  have his:i<σ.length:=by rw[<- R.len];exact hil
  have hfr0:∀b∈a::bs,H b=none:=λb hb=>x2.same.free (hfr b hb);have hno:∀b∈a::bs,¬ zao ρ σ b:=λb hb ⟨j,d,g1,g2⟩=>by
   obtain⟨a0,w1,_,w3⟩:=R.own j d g1;rw[g2]at w1;cases w1;obtain⟨o',w4,_⟩:=w3.at;rw[hfr0 b hb]at w4;cases w4
  have R3:=R.ext x13;have RB:RelB X.K F3 (ρ.set z none) (.L ls) (σ.set z (some (.ref a))) H3 z a bs:=⟨R3.unset,Xd hzl,Xd hzs,bx,λb hb w=>hno b hb (zey b w)⟩;refine zkE hc RB q λb H4 q x4=>?_;have x14:Ext Fz H F3 H4:=x13.trans x4;cases b with
  | true=>
   rw[if_pos rfl]at q;exact iteT (q (.bl false) F3 H4 (Step.of x14) x14.al (by show Den _ _ _ _ _;simp only[Den]))
  | false=>
   rw[if_neg Xr]at q;refine iteF ?_;have RB4:=RB.ext x4;have hat4:H4 a=some (.lst (bs.map V.ref)):=RB4.box.at_;have nda:=Yl.mp RB4.box.nd;have own4:∀j b,bs[j]? = some b->∃xs,H4 b=some (.lst xs)/\xs.length<sizeLine:=λj b hb=>by
    have hjl:j<ls.length:=by
     have:=RB4.box.own.length;have:ls.length=bs.length:=this;rw[this];exact(Xj.mp hb).1
    obtain⟨ds,ed,hdl⟩:=hlb _ (YA hjl);obtain⟨b',hb',ow⟩:=RB4.box.own.get (show(BX.L ls).cts[j]? = some (.lst ds) by show ls[j]? = _;rw[Xb hjl,ed]);rw[hb]at hb';cases hb';obtain⟨xs,g1,g2⟩:=ow;exact⟨xs,g1,by rw[<- g2.length];exact hdl⟩
   refine⟨_,RB4.sz,a,rfl,⟨_,SqL.of hat4⟩,zlW (xs:=bs.map V.ref) (λn σ' H'=>σ'.length=σ.length/\(∀j,j≠z->j≠i->σ'[j]? = σ[j]?)/\σ'[z]? = some (some (.ref a))/\(∀c o,H4 c=some o->c∉bs->H' c=some o)/\(∀j b,bs[j]? = some b->n<=j->H' b=H4 b)/\∀c,H4 c≠none->H' c≠none) ?_ ?_ ?_ ?_⟩
   ·exact⟨by rw[XS],λj n1 n2=>by rw[Xf (Ne.symm n1)],RB4.sz,λ_ _ e _=>e,λ_ _ _ _=>rfl,λ_ e=>e⟩
   ·rintro n σ' H' - ⟨_,_,_,k1,_⟩;exact SqL.of (k1 a _ hat4 nda.1)
   ·rintro n xv σ' H' hxv ⟨l1,l2,l3,k1,k2,k3⟩;rw[Xk]at hxv;cases hbn:bs[n]? with
    | none=>rw[hbn]at hxv;cases hxv
    | some b=>
     rw[hbn]at hxv;cases hxv;obtain⟨xs,g1,g2⟩:=own4 n b hbn;have g1':H' b=some (.lst xs):=by rw[k2 n b hbn (Xo _)];exact g1
     refine⟨_,Xd (by rw[l1];exact his),.inl ⟨rfl,xs,SqL.of g1'⟩,b,xs,.non,rfl,rfl,g1',g2,by rw[XS];exact l1,λj n1 n2=>by rw[Xf (Ne.symm n2)];exact l2 j n1 n2,by rw[Xf (Ne.symm hzi)];exact l3,λc o e hc=>?_,λj b' hb' hj=>?_,λc e=>?_⟩
     ·rw[zah (λw=>hc (by rw[w];exact Xl hbn))];exact k1 c o e hc
     ·have nb:b'≠b:=λw=>by
       subst w;have:=(List.getElem?_inj (Xj.mp hbn).1 nda.2).mp (hbn.trans hb'.symm);lia
      rw[zah nb];exact k2 j b' hb' (by lia)
     ·by_cases w:c=b
      ·subst w;rw[zaj];exact λz=>nomatch z
      ·rw[zah w];exact k3 c e
   ·rintro σ' H' ⟨l1,l2,l3,k1,k2,k3⟩;have ha':H' a=some (.lst (bs.map V.ref)):=k1 a _ hat4 nda.1;have hbl:ls.length=bs.length:=RB4.box.own.length;refine⟨_,l3,.inl ⟨rfl,_,SqL.of ha'⟩,a,bs.map V.ref,.non,rfl,rfl,ha',by rw[Xc];lia,?_⟩;have R4:Rel X.K F3 ρ σ H4:=R3.ext x4;have hS:∀c∈a::bs,¬ F3 c/\¬ zao ρ σ c/\∃o,H4 c=some o/\¬ Imm o:=λc hc=>⟨RB4.box.nf c hc,hno c hc,RB4.box.has hc⟩;have kk:∀c o,H4 c=some o->c∉a::bs->upd H' a (.lst (bs.map V.ref++[.non])) c=some o:=λc o e hc=>by
     rw[zah (λw=>hc (by rw[w];exact Xi ..))];exact k1 c o e λw=>hc (Xe _ w)
    have R5:=R4.away (H':=upd H' a (.lst (bs.map V.ref++[.non]))) kk (λc e=>by
     by_cases w:c=a
     ·subst w;rw[zaj];exact λz=>nomatch z
     ·rw[zah w];exact k3 c e) hS
    have R6:=R5.forget (z:=z) (i:=i) (σ':=σ') l1 l2;have st:Step ρ σ Fz H F3 (upd H' a (.lst (bs.map V.ref++[.non]))):=by
     have s0:=Step.of (ρ:=ρ) (σ:=σ) x14;refine⟨s0.sub,s0.new,λb o e n=>kk b o (s0.keep b o e n) λhc=>?_⟩;rw[hfr0 b hc]at e;cases e
    have oi:zaq ρ σ H ((ρ.set z none).set i none) σ':=λb hb=>.inl (zjo l2 b hb);exact⟨_,F3,R6,hrest.mono _ _ _ (zaR st oi) q⟩
end
end PL
namespace HT
open PySem PySem.Spec L2
open PyProof.Rows hiding St
section
variable {prog:Program}{w:World}{A:Around}{E:Value->Shared->Prop}{s:Shared}
theorem zcG {t sl:Addr}{items:Array Value}{vl vu:Value}{lo hi:Option Int}{Q:Value->Shared->Prop}(ht:IsTup s.heap t items)(hs:s.heap.IsSliceOf sl vl vu .none)(pl:IsPart vl lo)(pu:IsPart vu hi)
  (hw:sIx items.size 0 lo=0/\sIx items.size items.size hi=items.size) (h:Q (.ref t) s):wpAny (model prog w) A (getItem (.ref t) (.ref sl)) Q E s:=by
 obtain⟨os,hos,hcs,hds⟩:=id hs;have hTs:s.TypeIs (.ref sl) "slice":=⟨os,hos,hcs⟩;unfold getItem
 try with_reducible refine wpAny_holding ?_
 first | refine wpAny_bind (wpAny_pure ?_) | skip
 refine wpAny_bind (wpAny_sequenceKey ht.typeIs (by decide) ?_);refine wpAny_bind (wpAny_callSpecial?_slot (name:=Str.ofString "__getitem__") ht.typeIs PyProof.Rows.slot_tuple_getitem
  (wpAny_call_entry PyProof.Rows.slot_tuple_getitem ht.typeIs entry_tuple_getitem ?_ (args_tuple_getitem _ _)))
 show wpAny _ _ (Builtin.Tuple.tupleItemsOf (.ref t) >>= _) _ _ s;refine wpAny_bind (tupleItemsOf_ ht ?_);refine wpAny_bind (wpAny_typeOf hTs ?_);rw[if_pos (by decide)];refine wpAny_bind (zbU hs pl pu ?_);have hyes:((((sIx items.size 0 lo:Nat):Int) == 0&&(1:Int) == 1&&(sIx items.size items.size hi-sIx items.size 0 lo) == items.size)=true):=by
  rw[hw.1,hw.2];simp
 show wpAny _ _ (if (((sIx items.size 0 lo:Nat):Int) == 0&&(1:Int) == 1&&(sIx items.size items.size hi-sIx items.size 0 lo) == items.size)=true then _ else _) _ _ s
 rw[if_pos hyes];refine wpAny_bind ?_;unfold Builtin.Tuple.tupleIsExact;refine wpAny_bind (wpAny_typeOf ht.typeIs (wpAny_pure ?_));rw[if_pos (by decide)];exact wpAny_bind (wpAny_rule (wpAny_pure ⟨_,rfl,wpAny_pure h⟩))
end
end HT
namespace PL
open PySem PySem.Spec L2
open PyProof.Rows hiding St
section
variable {X:Cx}{e:Expr}{te:TPE}{lo hi:Option Expr}{tl th:TPO}{pos p2:Pos}
noncomputable def zrI (K:Xa):V->Option Int->Option Int->Hp->VK->Prop:=λx lo hi H Q=>∃a xs,x=.ref a/\SqT K H a xs/\(cutV xs lo hi=xs->Q (.ref a) H)/\∀p,H p=none->Q (.ref p) (upd H p (.tup (cutV xs lo hi)))
theorem zoQ:SlR X (zrI X.K):=by
 intro pins s σ H x v vl vu lo hi sl Q I rx hs pl pu h;obtain⟨a,xs,rfl,hx,hw,q⟩:=h;by_cases hh:HT.sIx xs.length 0 lo=0/\HT.sIx xs.length xs.length hi=xs.length
 ·cases rx;obtain⟨its,r,ht,hz⟩:=I.tuple hx;have hlen:its.toArray.size=xs.length:=by rw[Xm];exact r.length.symm
  refine⟨"tuple",_,PyProof.Rows.slot_tuple_getitem.lookup,ht.typeIs,?_⟩;refine HT.zcG ht hs pl pu (by rw[hlen];exact hh) ⟨.ref a,H,I,rfl,hw ?_⟩;unfold cutV;rw[hh.1,hh.2];simp
 ·exact zpM pins s σ H (.ref a) v vl vu lo hi sl Q I rx hs pl pu ⟨a,xs,rfl,hx,hh,q⟩
noncomputable def pSlT (te:TPE)(tl th:TPO):TPE:=λρ Q=>te ρ λd _=>tl ρ λl=>th ρ λu=>∃ds,d=.tup ds/\Q (.tup (cutP ds l u)) .frz
theorem zlk (he:PuE X e te)(hl:PuO X lo tl)(hu:PuO X hi th):PuE X (.Subscript e (.Slice lo hi none p2) pos) (pSlT te tl th) where
 mono ρ Q Q' m h:=he.mono ρ _ _ (λd k h=>hl.mono ρ _ _ (λl h=>hu.mono ρ _ _ (λu q137q=>by obtain⟨ds,e,q⟩:=q137q;exact⟨ds,e,m _ _ q⟩) h) h) h
 run:=PE.weak (zfs zoQ he.run hl.run hu.run) λσ H Q h=>by
  obtain⟨ρ,Fz,R,h⟩:=h;refine⟨ρ,Fz,R,he.mono ρ _ _ (λd k q v F1 H1 p1=>?_) h⟩;refine⟨ρ,F1,R.ext p1.ext,hl.mono ρ _ _ (λl q F2 H2 x2=>?_) q⟩;refine⟨ρ,F2,(R.ext p1.ext).ext x2,hu.mono ρ _ _ (λu q3 F3 H3 x3=>?_) q⟩;obtain⟨ds,e3,q4⟩:=q3;subst e3;have rt:=((p1.root R).mono x2.same x2.sub).mono x3.same x3.sub;obtain⟨a,xs,rfl,h1,h2⟩:=zcL rt;have x13:=p1.ext.trans (x2.trans x3);refine⟨a,xs,rfl,SqT.of h1,λhcut=>q4 _ F3 H3 ⟨x13,?_⟩,λp hp=>q4 _ F3 _ ((Post.newT x3.al hp (zhm h2)).behind x13)⟩;show Den _ _ _ _ _;simp only[Den];have:=zhm (lo:=l) (hi:=u) h2;rw[hcut]at this;exact⟨a,xs,rfl,h1,this⟩
theorem zeM {st:Stmt}:PuS X st (λ_ _=>False) where
 mono ρ O O' m h:=h
 run:=λpins s σ H D I h=>by obtain⟨_,_,_,z⟩:=h;exact z.elim
end
noncomputable def hide (S:List Addr)(h:Heap):Heap:={ h with objs:=h.objs.mapIdx λi o=>if i∈S then { o with data:=.freed } else o }
theorem zhz {S:List Addr}{h:Heap}{b:Addr}(hb:b∈S):(hide S h).get? b=none:=by
 unfold hide Heap.get?;simp only[Array.getElem?_mapIdx];cases h.objs[b]? with
 | none=>rfl
 | some o=>simp only[Option.map_some,if_pos hb]
theorem zdU {S:List Addr}{h:Heap}{b:Addr}(hb:b∉S):(hide S h).get? b=h.get? b:=by
 unfold hide Heap.get?;simp only[Array.getElem?_mapIdx];cases h.objs[b]? with
 | none=>rfl
 | some o=>simp only[Option.map_some,if_neg hb]
theorem zjq {S:List Addr}{h:Heap}:(hide S h).StaysIn h:=λb o e=>by
 by_cases hb:b∈S
 ·rw[zhz hb]at e;cases e
 ·rw[zdU hb]at e;exact e
noncomputable def ExcAt (h0:Heap)(H:Hp)(h:Heap)(a:Addr)(cls:Value)(T:Addr)(fl:Value):Prop:=
 h0.get? a=none/\H a=none/\h0.get? T=none/\H T=none/\T≠a/\∃oe vs oT ts a0,h.get? a=some oe/\oe.cls=cls/\oe.data=.fields vs/\vs[0]? = some a0/\vs[1]? = some (.ref T)/\h.get? T=some oT/\oT.data=.fields ts/\ts[3]? = some fl
structure zck (fs:List Addr)(a T:Addr)(h h':Heap):Prop where
 keep:∀b o,h.get? b=some o->b≠a->b≠T->b∉fs->h'.get? b=some o
 slot:∀b o,h.get? b=some o->b∈fs->∃sl,h'.get? b=some { o with slots:=sl }
 there:∀b o,h.get? b=some o->∃o',h'.get? b=some o'
theorem zck.refl {fs:List Addr}{a T:Addr}{h:Heap}:zck fs a T h h:=⟨λ_ _ e _ _ _=>e,λ_ o e _=>⟨o.slots,e⟩,λ_ o e=>⟨o,e⟩⟩
theorem zck.trans {fs:List Addr}{a T T':Addr}{h1 h2 h3:Heap}(x:zck fs a T h1 h2)(w:T'=T\/h1.get? T'=none)(y:zck fs a T' h2 h3):zck fs a T h1 h3:=
 ⟨λc o e n1 n2 nf=>y.keep c o (x.keep c o e n1 n2 nf) n1 (λz=>by
  rcases w with w | w
  ·exact n2 (z.trans w)
  ·rw[<- z,e]at w;cases w) nf,λc o e hc=>by
  obtain⟨sl,e1⟩:=x.slot c o e hc;obtain⟨sl2,e2⟩:=y.slot c _ e1 hc;exact⟨sl2,e2⟩,λc o e=>by obtain⟨o1,e1⟩:=x.there c o e;exact y.there c o1 e1⟩
theorem zck.funs {fs:List Addr}{a T:Addr}{h h' base:Heap}(x:zck fs a T h h'){l:List Env}(hl:h.FunFrames base l)(na:a∉frs l)(nT:T∉frs l):h'.FunFrames base l:=by
 induction l with
 | nil=>trivial
 | cons env rest ih=>
  obtain⟨hk,⟨L,o,hf,hn,ho,hd⟩,hr⟩:=hl;unfold frs at na nT;rw[YD,hf]at na nT;obtain⟨na1,na2⟩:=not_or.mp (λz=>na (Xv.mpr z));obtain⟨nT1,nT2⟩:=not_or.mp (λz=>nT (Xv.mpr z));refine⟨hk,?_,ih hr na2 nT2⟩;by_cases hb:L∈fs
  ·obtain⟨sl,e1⟩:=x.slot L o ho hb;exact⟨L,_,hf,hn,e1,hd⟩
  ·exact⟨L,o,hf,hn,x.keep L o ho (Ne.symm na1) (Ne.symm nT1) hb,hd⟩
theorem zgJ {h base:Heap}{S:List Addr}:∀ {l:List Env},h.FunFrames base l->(∀b∈frs l,b∈S)->h.FunFrames (hide S h) l
 | [],_,_=>trivial
 | env::rest,⟨hk,⟨L,o,hf,hn,ho,hd⟩,hr⟩,hs=>by
  have hL:L∈frs (env::rest):=by unfold frs;rw[YD,hf];exact Xi ..
  refine⟨hk,⟨L,o,hf,zhz (hs L hL),ho,hd⟩,zgJ hr λb hb=>hs b ?_⟩;unfold frs at hb ⊢;rw[YD,hf];exact Xe _ hb
theorem HOk.there {P:Program}{w:World}{H:Hp}{h:Heap}(x:HOk P w H h){a:Addr}{o:HO}(e:H a=some o):∃ob,h.get? a=some ob:=by
 have q:=x a o e;cases o with
 | lst xs=>obtain⟨_,_,_,_,e⟩:=q;exact⟨_,e⟩
 | tup xs=>obtain⟨_,_,_,o,e,_⟩:=q;exact⟨_,e⟩
 | dK kvs=>obtain⟨_,_,_,_,o,_,_,e,_⟩:=q;exact⟨_,e⟩
 | dT kvs=>obtain⟨_,_,_,_,o,_,_,e,_⟩:=q;exact⟨_,e⟩
 | set S n=>obtain⟨o,_,_,_,e,_⟩:=q;exact⟨_,e⟩
 | ins C dx fs=>obtain⟨_,_,_,e,_⟩:=q;exact⟨_,e⟩
 | own y=>obtain⟨_,e⟩:=q;exact⟨_,e⟩
 | xd fs=>obtain⟨_,⟨_,_,_,e,_⟩,_⟩:=q;exact⟨_,e⟩
 | rng lo hi=>obtain⟨_,_,_,e⟩:=q;exact⟨_,e⟩
 | frz ob u=>obtain⟨e,_⟩:=q;exact⟨_,e⟩
 | tbl ps=>exact⟨_,show h.get? a=some _ from q⟩
 | met f y=>exact⟨_,show h.get? a=some _ from q⟩
 | ext φ=>obtain⟨_,⟨_,e⟩,_⟩:=q;exact⟨_,e⟩
section
variable {M:Model}{A:Around}{E:Value->Shared->Prop}{s:Shared}{h0:Heap}{H:Hp}{a T:Addr}{cls fl:Value}{env:Env}{outer:List Env}{base:Heap}{L:Addr}
theorem zfn {env env':Env}(h:env.frame=env'.frame)(e:Value):noteFrame e env=noteFrame e env':=by
 unfold noteFrame PySem.frameOf;rw[h]
theorem ExcAt.nofr (hx:ExcAt h0 H s.heap a cls T fl){l:List Env}(hl:s.heap.FunFrames base l):a∉frs l/\T∉frs l:=by
 obtain⟨ha,hHa,hT,hHT,hTa,oe,vs,oT,ts,a0,he,hc,hd,h0,h1,hgT,hdT,h3⟩:=hx;refine⟨λhm=>?_,λhm=>?_⟩
 ·obtain⟨_,o,e,nd⟩:=hl.mem hm;rw[he]at e;cases e;exact nd _ hd
 ·obtain⟨_,o,e,nd⟩:=hl.mem hm;rw[hgT]at e;cases e;exact nd _ hdT
theorem setT {x:Value}(hx:ExcAt h0 H s.heap a cls T fl){l:List Env}(nf:T∉frs l):zck (frs l) a T s.heap (s.heap.update T (Obj.mapFields (·.setIfInBounds 3 x)))/\ExcAt h0 H (s.heap.update T (Obj.mapFields (·.setIfInBounds 3 x))) a cls T x:=by
 obtain⟨ha,hHa,hT,hHT,hTa,oe,vs,oT,ts,a0,he,hc,hd,h0,h1,hgT,hdT,h3⟩:=hx;have hsz3:3<ts.size:=(Yg.mp h3).1;refine⟨⟨λb o e n1 n2 nb=>?_,λb o e hb=>⟨o.slots,?_⟩,λb o e=>?_⟩,⟨ha,hHa,hT,hHT,hTa,oe,vs,_,_,a0,(Yb _ _ hTa).trans he,hc,hd,h0,h1,Yc _ hgT (Obj.isFreed_of_fields (Obj.data_mapFields hdT _)),Obj.data_mapFields hdT _,by simp[hsz3]⟩⟩
 ·rw[Yb _ _ (Ne.symm n2)];exact e
 ·have ne:T≠b:=λz=>nf (z▸hb);rw[Yb _ _ ne];exact e
 ·by_cases ne:T=b
  ·subst ne;exact⟨_,Yc _ hgT (Obj.isFreed_of_fields (Obj.data_mapFields hdT _))⟩
  ·exact⟨o,by rw[Yb _ _ ne];exact e⟩
theorem ziD {f:Option Addr}{Q:Unit->Shared->Prop}(hx:ExcAt h0 H s.heap a cls T fl){l:List Env}(nf:T∉frs l)
  (h:∀h' fl',zck (frs l) a T s.heap h'->ExcAt h0 H h' a cls T fl'->Q () { s with heap:=h' }):wpAny M A (setFlight (.ref a) f) Q E s:=by
 obtain⟨x1,x2⟩:=setT (l:=l) (x:=f.elim Value.none λx=>rawInt x) hx nf;obtain⟨ha,hHa,hT,hHT,hTa,oe,vs,oT,ts,a0,he,hc,hd,h00,h1,hgT,hdT,h3⟩:=hx;have hsz3:3<ts.size:=(Yg.mp h3).1;unfold setFlight;refine wpAny_bind (wpAny_field he hd h1 ?_);rw[if_pos (show(Value.ref T != Value.none)=true from by simp)];exact wpAny_setField hgT hdT hsz3 (h _ _ x1 x2)
theorem zll {Q:Unit->Shared->Prop}{oe:Obj}{vs:Array Value}{a0 head:Value}{hadNext:Bool}(hfr:A.frames=some (env::outer))(hl:s.heap.FunFrames base (env::outer))(hf:env.frame=some L)
  (ha:h0.get? a=none) (hHa:H a=none) (he:s.heap.get? a=some oe) (hd:oe.data=.fields vs) (hs0:vs[0]? = some a0) (hs1:1<vs.size)
  (old:∀b,h0.get? b≠none\/H b≠none->∃o,s.heap.get? b=some o)
  (h:∀h' T' fl',s.heap.get? T'=none->(∀T,zck (frs (env::outer)) a T s.heap h')->ExcAt h0 H h' a oe.cls T' fl'->Q () { s with heap:=h' }) :
  wpAny M A (do let fo <- PySem.frameOf env;let pl <- entryPlaceOf L hadNext;let en <- EntryCells.newEntry head fo .none (rawInt L) .none pl;setField (.ref a) 1 en) Q E s:=by
 refine wpAny_entryW (base:=hide (a::frs (env::outer)) s.heap) hfr (zgJ hl λb hb=>Xe _ hb) hf he zjq (zhz (Xi ..)) hd hs1 hs0 λh' hN=>?_;obtain⟨k1,k2,⟨oe3,vs3,T3,oT3,ts3,he3,⟨hc3,h03⟩,hd3,h13,hnT3,hTe3,hgT3,hdT3,h33⟩,k4⟩:=hN;have nT3:T3∉frs (env::outer):=λhm=>by
  obtain⟨_,o,e,nd⟩:=k2.mem hm;rw[hgT3]at e;cases e;exact nd _ hdT3
 have fresh3:s.heap.get? T3=none:=by
  rw[zdU (λy=>by
   rcases Xv.mp y with y | y
   ·exact hTe3 y
   ·exact nT3 y)]at hnT3
  exact hnT3
 have hT3:h0.get? T3=none/\H T3=none:=by
  refine⟨?_,?_⟩
  ·cases q:h0.get? T3 with
   | none=>rfl
   | some o=>obtain⟨o',e⟩:=old T3 (.inl (by rw[q];exact λz=>nomatch z));rw[fresh3]at e;cases e
  ·cases q:H T3 with
   | none=>rfl
   | some o=>obtain⟨o',e⟩:=old T3 (.inr (by rw[q];exact λz=>nomatch z));rw[fresh3]at e;cases e
 refine h h' T3 _ fresh3 (λT=>⟨λb o e n1 n2 nb=>?_,λb o e hb=>?_,λb o e=>?_⟩) ⟨ha,hHa,hT3.1,hT3.2,hTe3,oe3,vs3,oT3,ts3,a0,he3,hc3,hd3,h03,h13,hgT3,hdT3,h33⟩
 ·refine k1 b o ?_;rw[zdU λy=>?_]
  ·exact e
  ·rcases Xv.mp y with y | y
   ·exact n1 y
   ·exact nb y
 ·obtain⟨_,o2,e2,nd⟩:=hl.mem hb;rw[e]at e2;cases e2;exact k4 b o e nd
 ·by_cases y:b∈a::frs (env::outer)
  ·rcases Xv.mp y with y | y
   ·subst y;exact⟨_,he3⟩
   ·obtain⟨_,o2,e2,nd2⟩:=hl.mem y;rw[e]at e2;cases e2;obtain⟨sl,e2⟩:=k4 b o e nd2;exact⟨_,e2⟩
  ·exact⟨o,k1 b o (by rw[zdU y];exact e)⟩
theorem znE {Q:Unit->Shared->Prop}(hfr:A.frames=some (env::outer))(hl:s.heap.FunFrames base (env::outer))(hf:env.frame=some L)(hx:ExcAt h0 H s.heap a cls T fl)
  (old:∀b,h0.get? b≠none\/H b≠none->∃o,s.heap.get? b=some o)
  (h:∀h' T' fl',(T'=T\/s.heap.get? T'=none)->zck (frs (env::outer)) a T s.heap h'->ExcAt h0 H h' a cls T' fl'->Q () { s with heap:=h' }):wpAny M A (noteFrame (.ref a) env) Q E s:=by
 have nf:=hx.nofr hl;obtain⟨x1,x2⟩:=setT (l:=env::outer) (x:=Value.none) hx nf.2;have hx':=hx;obtain⟨ha,hHa,hT,hHT,hTa,oe,vs,oT,ts,a0,he,hc,hd,h00,h1,hgT,hdT,h3⟩:=hx;have hsz3:3<ts.size:=(Yg.mp h3).1;unfold noteFrame;simp only[hf];refine wpAny_bind (wpAny_field he hd h1 ?_);rw[if_pos (show(Value.ref T != Value.none)=true from by simp)];refine wpAny_bind (wpAny_field hgT hdT h3 ?_);by_cases hq:(fl == rawInt L)=true
 ·rw[if_pos hq];exact wpAny_pure (h _ _ _ (.inl rfl) .refl hx')
 rw[if_neg hq];refine wpAny_bind (wpAny_setField hgT hdT hsz3 ?_);generalize s.heap.update T (Obj.mapFields (·.setIfInBounds 3 Value.none))=hm at x1 x2 ⊢;obtain⟨_,_,_,_,_,oe2,vs2,oT2,ts2,a02,he2,hc2,hd2,h02,h12,hgT2,hdT2,h32⟩:=x2;refine zll (s:={ s with heap:=hm }) (h0:=h0) (H:=H) hfr (x1.funs hl nf.1 nf.2) hf ha hHa he2 hd2 h02 (Yg.mp h12).1 (λb hb=>?_) λh' T' fl' f y z=>?_
 ·obtain⟨o,e⟩:=old b hb;exact x1.there b o e
 ·have ft:s.heap.get? T'=none:=by
   cases q:s.heap.get? T' with
   | none=>rfl
   | some o=>obtain⟨o',e⟩:=x1.there T' o q;rw[f]at e;cases e
  exact h h' T' fl' (.inr ft) (x1.trans (.inl rfl) (y T)) (by rw[hc2]at z;exact z)
theorem zqM {Q:Unit->Shared->Prop}{oe:Obj}{vs:Array Value}{a0:Value}(hfr:A.frames=some (env::outer))(hl:s.heap.FunFrames base (env::outer))(hf:env.frame=some L)
  (ha:h0.get? a=none) (hHa:H a=none) (he:s.heap.get? a=some oe) (hd:oe.data=.fields vs) (hs0:vs[0]? = some a0) (hs1:vs[1]? = some .none)
  (old:∀b,h0.get? b≠none\/H b≠none->∃o,s.heap.get? b=some o)
  (h:∀h' T' fl',s.heap.get? T'=none->(∀T,zck (frs (env::outer)) a T s.heap h')->ExcAt h0 H h' a oe.cls T' fl'->Q () { s with heap:=h' }):wpAny M A (noteFrame (.ref a) env) Q E s:=by
 unfold noteFrame;simp only[hf];refine wpAny_bind (wpAny_field he hd hs1 ?_);rw[if_neg (by decide)];exact zll hfr hl hf ha hHa he hd hs0 (Yg.mp hs1).1 old h
end
theorem zrJ {P:Program}{w:World}{fs:List Addr}{H:Hp}{h h':Heap}{a T:Addr}(ok:HOk P w H h)(x:zck fs a T h h')(ha:H a=none)(hT:H T=none)(hf:∀b∈fs,H b=none):HOk P w H h':=λb o e=>
 (ok b o e).stay (λc u hc q=>by
  have tr:H c≠none:=by
   rcases hc with rfl | hc
   ·rw[e];exact λz=>nomatch z
   ·rw[hc];exact λz=>nomatch z
  exact x.keep c u q (λz=>tr (by rw[z];exact ha)) (λz=>tr (by rw[z];exact hT)) λz=>tr (hf c z)) (λ_ q=>q) λ_ _ q=>q
section
variable {X:Cx}{pins:List (Addr×Obj)}{σ:St}{H H':Hp}{s s':Shared}{a T:Addr}{cls fl:Value}{E E':XK}
noncomputable def RecAt (X:Cx)(H:Hp)(h:Heap)(a:Addr):Prop:=X.s₀.heap.get? a=none/\H a=none/\∃oe vs,h.get? a=some oe/\oe.data=.fields vs
theorem znF {h':Heap}(I:Inv X pins σ H s)(x:zck (frs X.stack) a T s.heap h')(ra:RecAt X H s.heap a)(rT:RecAt X H s.heap T)(hp:∀p∈X.pn++pins,p.1≠a/\p.1≠T):Inv X pins σ H { s with heap:=h' }:=by
 obtain⟨ha,hHa,oe,vs,he,hd⟩:=ra;obtain⟨hT,hHT,oT,ts,hgT,hdT⟩:=rT;have old:∀b o,X.s₀.heap.get? b=some o->b≠a/\b≠T:=λb o e=>⟨λz=>(by rw[z,ha]at e;cases e),λz=>(by rw[z,hT]at e;cases e)⟩;have nst:∀b,b∉X.fs->b≠X.env.locals->b∉frs X.stack:=λb h1 h2 h3=>by
  rcases I.ok.stk with z | ⟨z,zf⟩
  ·rw[z]at h3;exact h1 h3
  ·rw[z]at h3;unfold frs at h3;rw[YD,zf]at h3;rcases Xv.mp h3 with h3 | h3
   ·exact h2 h3
   ·exact h1 h3
 have sub:∀b∈X.fs,b∈frs X.stack:=λb hb=>by
  rcases I.ok.stk with z | ⟨z,zf⟩
  ·rw[z];exact hb
  ·rw[z];unfold frs;rw[YD,zf];exact Xe _ hb
 have dat:∀b o,s.heap.get? b=some o->(∀vs,o.data≠.fields vs)->∃sl,h'.get? b=some { o with slots:=sl }:=λb o e nd=>by
  by_cases hb:b∈frs X.stack
  ·exact x.slot b o e hb
  ·exact⟨o.slots,x.keep b o e (λz=>by rw[z,he]at e;cases e;exact nd _ hd) (λz=>by rw[z,hgT]at e;cases e;exact nd _ hdT) hb⟩
 have cel:∀c v,s.heap.IsCell c v->h'.IsCell c v:=λc v ⟨o,e,q⟩=>by
  obtain⟨sl,e'⟩:=dat c o e (λvs z=>by rw[q]at z;cases z);exact⟨_,e',q⟩
 have low:∀b o,X.s₀.heap.get? b=some o->b≠X.env.locals:=λb o e=>XJ (XE (Xx e) I.ok.above);obtain⟨m,⟨o,es,ep,hg,hdd,hk⟩,hl⟩:=id I.loc;obtain⟨sl,hg'⟩:=dat _ o hg (λvs z=>by rw[hdd]at z;cases z);refine⟨I.ok,I.os,I.bare,⟨λb o e n hb hx=>?_,λb o e n hb hx=>?_,I.base.free,λb o e hx=>?_,I.base.tups,I.base.frzs,I.base.tbls⟩,⟨m,⟨_,es,ep,hg',hdd,hk⟩,λi y v e1 e2 e3=>?_⟩,λy c e=>?_,I.free,I.freeC,λp hp'=>?_,zrJ I.hok x hHa hHT I.zgY,I.len⟩
 ·exact x.keep b o (I.base.keep b o e n hb hx) (old b o e).1 (old b o e).2 (nst b hb (low b o e))
 ·obtain⟨sl,e1⟩:=I.base.slot b o e n hb hx;obtain⟨sl2,e2⟩:=x.slot b _ e1 (sub b hb);exact⟨sl2,e2⟩
 ·obtain⟨o',e1⟩:=I.base.there b o e hx;exact x.there b o' e1
 ·obtain⟨u,r,q⟩:=hl i y v e1 e2 e3;refine⟨u,r,?_⟩;rcases q with q | ⟨k,c,e,z⟩
  ·exact .inl q
  ·exact .inr ⟨k,c,e,cel _ _ z⟩
 ·obtain⟨v,z⟩:=I.cell y c e;exact⟨v,cel _ _ z⟩
 ·obtain⟨e,n,ne,nf,d⟩:=I.pin p hp';exact⟨x.keep p.1 p.2 e (hp p hp').1 (hp p hp').2 (nst _ nf ne),n,ne,nf,d⟩
theorem zmN {h':Heap}(I:Inv X pins σ H s)(x:zck (frs X.stack) a T s.heap h')(hx:ExcAt X.s₀.heap H s.heap a cls T fl)(hp:∀p∈X.pn++pins,p.1≠a/\p.1≠T):Inv X pins σ H { s with heap:=h' }:=by
 obtain⟨ha,hHa,hT,hHT,hTa,oe,vs,oT,ts,a0,he,hc,hd,h00,h1,hgT,hdT,h3⟩:=hx;exact znF I x ⟨ha,hHa,_,_,he,hd⟩ ⟨hT,hHT,_,_,hgT,hdT⟩ hp
noncomputable def CXJ (P:Program)(w:World):CXT:=λouter H s E e s'=>
 ∃a T cls fl H',e=.ref a/\s'.os=s.os/\AllBare s'.gens/\Un (frs outer) [] H H' s.heap s'.heap/\HOk P w H' s'.heap/\ExcAt s.heap H' s'.heap a cls T fl/\E cls none H'
noncomputable def FlyI (X:Cx)(pins:List (Addr×Obj))(σ:St)(E:XK)(e:Value)(s':Shared):Prop:=
 ∃a T cls fl H',e=.ref a/\Inv X pins σ H' s'/\ExcAt X.s₀.heap H' s'.heap a cls T fl/\(∀p∈X.pn++pins,p.1≠a/\p.1≠T)/\E cls none H'
theorem ExcAt.back {h0 h1 h:Heap}(x:ExcAt h1 H h a cls T fl)(k:∀b o,h0.get? b=some o->∃o',h1.get? b=some o'):ExcAt h0 H h a cls T fl:=by
 obtain⟨ha,hHa,hT,hHT,r⟩:=x;have f:∀b,h1.get? b=none->h0.get? b=none:=λb e=>by
  cases q:h0.get? b with
  | none=>rfl
  | some o=>obtain⟨o',e'⟩:=k b o q;rw[e]at e';cases e'
 exact⟨f a ha,hHa,f T hT,hHT,r⟩
theorem FlyI.of (I:Inv X pins σ H s)(hex:X.ex=[]){e:Value}(h:CXJ X.prog X.w X.stack H s E e s'):FlyI X pins σ E e s':=by
 obtain⟨a,T,cls,fl,H',rfl,os,bare,un,hok,ex,q⟩:=h;refine⟨a,T,cls,fl,H',rfl,I.call' (ch:=[]) os un hok bare (λb z=>absurd z (by simp)),ex.back λb o e=>I.base.there b o e (by rw[hex];simp),λp hp=>?_,q⟩;obtain⟨e,_⟩:=I.pin p hp;exact⟨λz=>(by rw[z,ex.1]at e;cases e),λz=>(by rw[z,ex.2.2.1]at e;cases e)⟩
theorem FlyI.old (I:Inv X pins σ H s)(hex:X.ex=[]):∀b,X.s₀.heap.get? b≠none\/H b≠none->∃o,s.heap.get? b=some o:=λb hb=>by
 rcases hb with hb | hb
 ·cases q:X.s₀.heap.get? b with
  | none=>exact absurd q hb
  | some o=>exact I.base.there b o q (by rw[hex];simp)
 ·cases q:H b with
  | none=>exact absurd q hb
  | some o=>exact HOk.there I.hok q
theorem FlyI.note {M:Model}{Ex:Value->Shared->Prop}{e:Value}{env:Env}{Q:Unit->Shared->Prop}{L:Addr}(h:FlyI X pins σ E e s')(hex:X.ex=[])(hst:X.stack=X.env::X.outer)(hf:X.env.frame=some L)(hen:env.frame=X.env.frame)
  (q:∀s'',FlyI X pins σ E e s''->Q () s''):wpAny M X.A (noteFrame e env) Q Ex s':=by
 obtain⟨a,T,cls,fl,H',rfl,I,ex,hp,hE⟩:=h;rw[zfn hen];have hfr:X.A.frames=some (X.env::X.outer):=by rw[I.ok.frames,hst]
 have hl:=I.stack;rw[hst]at hl;refine znE hfr hl hf ex (FlyI.old I hex) λh' T' fl' w x z=>q _ ⟨a,T',cls,fl',H',rfl,zmN I (by rw[hst];exact x) ex hp,z,λp hp'=>⟨(hp p hp').1,λy=>?_⟩,hE⟩;rcases w with w | w
 ·exact(hp p hp').2 (y.trans w)
 ·obtain⟨e,_⟩:=I.pin p hp';rw[y,w]at e;cases e
theorem FlyI.flight {M:Model}{A:Around}{Ex:Value->Shared->Prop}{e:Value}{f:Option Addr}{Q:Unit->Shared->Prop}(h:FlyI X pins σ E e s')(q:∀s'',FlyI X pins σ E e s''->Q () s''):wpAny M A (setFlight e f) Q Ex s':=by
 obtain⟨a,T,cls,fl,H',rfl,I,ex,hp,hE⟩:=h;exact ziD (l:=X.stack) ex (ex.nofr I.stack).2 λh' fl' x z=>q _ ⟨a,T,cls,fl',H',rfl,zmN I x ex hp,z,hp,hE⟩
end
noncomputable abbrev bmV:List Value:=[.type "ValueError",.type "Exception",.type "BaseException",.type "object"]
noncomputable def ExcC (K:Xa)(C:Addr)(bm:List Value):Prop:=∀h:Heap,K.In h->∃N nm q bs hdct sn sub ab col dd k0 k1 k2 k3 k5 mN,
 h.get? C=some (excClassObj nm q C N bs bm hdct sn sub ab col dd k0 k1 k2 k3 k5 "ValueError.__new__")/\h.Ns N mN/\mN "__init__" = none/\OwnTail h bmV bm
noncomputable def mroIn (K:Xa)(C:Addr)(bm:List Value):Bool:=match K.lookup C with
 | some ⟨_,_,.cls cd,_⟩=>cd.mro == .ref C::bm
 | _=>false
theorem zeN {K:Xa}{C:Addr}{bm:List Value}(q:PySem.W.excIn K C bmV "ValueError.__new__" = true) (q2:mroIn K C bm=true):ExcC K C bm:=λh X=>by
 unfold PySem.W.excIn at q;unfold mroIn at q2;split at q
 ·rename_i dd cd sl ho
  rw[ho]at q2;have q2':cd.mro=.ref C::bm:=beq_iff_eq.mp q2;split at q
  ·rename_i C' bm' k0 k1 k2 k3 n k5 hm hs
   simp only[Yr,beq_iff_eq,Bool.not_eq_true']at q;obtain⟨⟨⟨⟨⟨rfl,rfl⟩,hdel⟩,ht⟩,hok⟩,hni⟩:=q;rw[hm]at q2';cases q2';obtain⟨nm,bs,mro,ns,qn,hd,sn,sub,ab,col,del⟩:=cd;dsimp only at hm hdel hok hni;subst hm hdel;have hsl:sl = #[k0,k1,k2,k3,some (.builtin "ValueError.__new__"),k5]:=by
    cases sl;simp only at hs;rw[hs]
   subst hsl;exact⟨ns,nm,qn,bs,hd,sn,sub,ab,col,dd,k0,k1,k2,k3,k5,_,X _ _ ho,.of_isNs (PySem.W.isNs_of_in X hok),PySem.W.nsMap_none_of_in X hok hni,PySem.W.tail_of_in X ht⟩
  ·cases q
 ·cases q
noncomputable def tJ:List TE->Str->St->Hp->(Str->Hp->Prop)->Prop
 | [],acc,_,H,Q=>Q acc H
 | t::ts,acc,σ,H,Q=>t σ H λv H1=>∃y,v=.str y/\(acc++y).length<=sizeLine/\tJ ts (acc++y) σ H1 Q
section
variable {X:Cx}
theorem znG {pins:List (Addr×Obj)}{σ:St}:∀ {es:List Expr}{ts:List TE},Paired (PE X) es ts->∀ {acc:Str}{s:Shared}{H:Hp}{Q:VK},acc.length<=sizeLine->Inv X pins σ H s->tJ ts acc σ H (λout H1=>Q (.str out) H1)->
  wpAny (model X.prog X.w) X.A (joinParts acc (evalEach es X.env)) (EP X pins σ Q) X.xe s
 | [],[],.nil,acc,s,H,Q,hz,I,h=>joinParts_nil ⟨.str acc,H,I.tok _,⟨_,rfl⟩,h⟩ hz
 | e::es,t::ts,.cons p r,acc,s,H,Q,hz,I,h=>joinParts_cons (thn (p pins s σ H _ I h) λu s1 ⟨v,H1,I1,rv,y,ev,hz1,q⟩=>by
   subst ev;obtain⟨tk,rfl⟩:=rv;exact⟨hz1,znG r hz1 I1 q⟩)
theorem zlm {e1 e2:Expr}{es:List Expr}{t1 t2:TE}{ts:List TE}{pos:Pos}(h1:PE X e1 t1)(h2:PE X e2 t2)(hs:Paired (PE X) es ts):PE X (.JoinedStr (e1::e2::es) pos) (λσ H Q=>tJ (t1::t2::ts) Str.empty σ H λout H1=>Q (.str out) H1):=
 λpins s σ H Q I h=>JoinedStr_many (znG (.cons h1 (.cons h2 hs)) (XX _) I h)
theorem zoR {e:Expr}{te:TE}{pos:Pos}(he:PE X e te):PE X (.FormattedValue e (-1) none pos) (λσ H Q=>te σ H λv H1=>∃y,v=.str y/\y.length<=sizeLine/\Q (.str y) H1):=
 λpins s σ H Q I h=>FormattedValue_plain (thn (he pins s σ H _ I h) λu s1 ⟨v,H1,I1,rv,y,ev,hz,q⟩=>by
  subst ev;obtain⟨tk,rfl⟩:=rv;exact formatField_str (λt' tk'=>⟨.str y,H1,I1.tok _,⟨t',rfl⟩,q⟩) hz)
theorem zoS:∀i<10,(Str.ofString (toString (Int.ofNat i))).length=1:=by decide +kernel
theorem zoT {e:Expr}{te:TE}{pos:Pos}(he:PE X e te):PE X (.FormattedValue e (-1) none pos) (λσ H Q=>te σ H λv H1=>∃i:Nat,v=.int i/\i<10/\∀y:Str,y.length=1->Q (.str y) H1):=
 λpins s σ H Q I h=>FormattedValue_plain (thn (he pins s σ H _ I h) λu s1 ⟨v,H1,I1,rv,i,ev,hz,q⟩=>by
  subst ev;obtain⟨tk,rfl⟩:=rv;refine formatField_int_small (a:=(i:Int)) ?_ ⟨.str _,H1,I1.tok _,⟨_,rfl⟩,q _ (zoS i hz)⟩;have h2:∀i<10,(Int.natAbs (i:Nat)).log2<1920:=by decide +kernel
  exact h2 i hz)
end
theorem zjr {prog:Program}{w:World}{A:Around}{R:Result->Shared->Prop}{s:Shared}{elt tg iter:Expr}{ifs:List Expr}{scope:Scope}{pos:Pos}{it acc:Value}{env:Env}(Ex:Value->Shared->Prop)
  (hE:∀e s,Ex e s->notedBy (model prog w) A env (λx s'=>R (.error x) s') e s) (J:Nat->Shared->Prop)
  (turn:∀n s,J n s->wpAny (model prog w) A (pyNext it) (λr s1=>match r with
   | none=>R (.ok .next) s1
   | some v=>wpAny (model prog w) A (letOwnedTupleGo tg it v) (λ_ s2=>wpAny (model prog w) A (assign tg env v) (λ_ s3=>
     wpAny (model prog w) A (forIn ifs true λc r=>if r=true then do let ok <- isTrue c env (eval c env);pure (ForInStep.yield ok) else pure (ForInStep.yield r)) (λok s4=>
      if ok=true then wpAny (model prog w) A (eval elt env) (λx s5=>wpAny (model prog w) A (call (.builtin "list.append") [acc,x]) (λ_ s6=>∃m,m<n/\J m s6) (λ_ _=>False) s5) Ex s4
      else ∃m,m<n/\J m s4) (λ_ _=>False) s3) (λ_ _=>False) s2) (λ_ _=>False) s1) (λ_ _=>False) s)
  (n:Nat) (h:J n s):codeAny (model prog w) A (.compLoop (.ListComp elt [⟨tg,iter,ifs,0⟩] scope pos) 0 it acc env) R s:=by
 refine codeAny_loop rfl J (λn s hI=>wpAny_noted (wpAny_mono (E:=Ex) ?_ (λ_ _ q=>q) hE)) n h;rw[compTurn_list];refine wpAny_bind (wpAny_standAt (wpAny_bind (wpAny_mono (turn n s hI) (λr s1 h1=>?_) λ_ _ z=>z.elim)));cases r with
 | none=>exact wpAny_pure h1
 | some v=>
  refine wpAny_bind (wpAny_mono h1 (λ_ s2 h2=>wpAny_bind (wpAny_mono h2 (λ_ s3 h3=>wpAny_bind (wpAny_mono h3 (λok s4 h4=>?_) λ_ _ z=>z.elim)) λ_ _ z=>z.elim)) λ_ _ z=>z.elim);cases ok with
  | false=>exact wpAny_pure ⟨rfl,by simpa using h4⟩
  | true=>
   rw[if_pos rfl]at h4;exact wpAny_bind (wpAny_bind (thn h4 λx s5 h5=>wpAny_bind (wpAny_mono h5 (λ_ s6 h6=>wpAny_pure (wpAny_pure ⟨rfl,h6⟩)) λ_ _ z=>z.elim)))
noncomputable def XB (Y:Cx)(E:XK):Value->Shared->Prop:=λe s'=>∃pins σ H s,Inv Y pins σ H s/\CXJ Y.prog Y.w Y.stack H s E e s'
section
variable {X:Cx}{elt tg iter:Expr}{ifs:List Expr}{sc:Scope}{pos:Pos}{N:List Str}{k:Nat}{js:List Nat}{wi:TI}{g:TG}{tt:TT}{te:TE}{E:XK}
theorem zrK {Y:Cx}:zge (CXJ Y.prog Y.w) (Y.wish (XB Y E)) E:=λpins σ H s e s' I h=>⟨pins,σ,H,s,I.zbj,h⟩
structure BlkX (X:Cx)(N:List Str)(sc:Scope)(tg:Expr)(ifs:List Expr)(elt:Expr)(g:TG)(tt:TT)(te:TE)(E:XK):Prop where
 tgt:∀C cells fp s H,PG (cxB X N sc C cells fp s H) tg g
 tst:∀C cells fp s H,PTs (cxB X N sc C cells fp s H) ifs tt
 val:∀C cells fp s H,PE ((cxB X N sc C cells fp s H).wish (XB (cxB X N sc C cells fp s H) E)) elt te
noncomputable def FlyC (X:Cx)(pins:List (Addr×Obj))(σ:St)(E:XK)(C:Addr)(e:Value)(s':Shared):Prop:=
 ∃a T cls fl H',e=.ref a/\Inv X pins σ H' s'/\ExcAt X.s₀.heap H' s'.heap a cls T fl/\(∀p∈X.pn++pins,p.1≠a/\p.1≠T)/\E cls none H'/\FpOk X pins H' C/\∃m,s'.heap.Ns C m
theorem zrL {fs:List Addr}{a T c:Addr}{h h' h0:Heap}{H:Hp}{cls fl:Value}{m:Str->Option Value}(x:zck fs a T h h')(ex:ExcAt h0 H h a cls T fl)(hn:h.Ns c m):h'.Ns c m:=by
 obtain⟨ha,hHa,hT,hHT,hTa,oe,vs,oT,ts,a0,he,hc,hd,h00,h1,hgT,hdT,h3⟩:=ex;obtain⟨o,es,ep,hg,hdd,hk⟩:=hn;by_cases hb:c∈fs
 ·obtain⟨sl,e⟩:=x.slot c o hg hb;exact⟨_,es,ep,e,hdd,hk⟩
 ·exact⟨o,es,ep,x.keep c o hg (λz=>by rw[z,he]at hg;cases hg;rw[hd]at hdd;cases hdd) (λz=>by rw[z,hgT]at hg;cases hg;rw[hdT]at hdd;cases hdd) hb,hdd,hk⟩
theorem FlyC.note {M:Model}{Ex:Value->Shared->Prop}{e:Value}{env:Env}{Q:Unit->Shared->Prop}{L C:Addr}{pins:List (Addr×Obj)}{σ:St}{s':Shared}(h:FlyC X pins σ E C e s')(hex:X.ex=[])(hst:X.stack=X.env::X.outer)(hf:X.env.frame=some L)(hen:env.frame=X.env.frame)
  (q:∀s'',FlyC X pins σ E C e s''->Q () s''):wpAny M X.A (noteFrame e env) Q Ex s':=by
 obtain⟨a,T,cls,fl,H',rfl,I,ex,hp,hE,fc,m,hn⟩:=h;rw[zfn hen];have hfr:X.A.frames=some (X.env::X.outer):=by rw[I.ok.frames,hst]
 have hl:=I.stack;rw[hst]at hl;refine znE hfr hl hf ex (FlyI.old I hex) λh' T' fl' w x z=>q _ ⟨a,T',cls,fl',H',rfl,zmN I (by rw[hst];exact x) ex hp,z,λp hp'=>⟨(hp p hp').1,λy=>?_⟩,hE,fc,m,zrL x ex hn⟩;rcases w with w | w
 ·exact(hp p hp').2 (y.trans w)
 ·obtain⟨e,_⟩:=I.pin p hp';rw[y,w]at e;cases e
theorem zln {pins:List (Addr×Obj)}{σ:St}{H:Hp}{s:Shared}{R:Addr->Hp->Prop}{L:Addr}(hc:X.calm=true)(hex:X.ex=[])(hst:X.stack=X.env::X.outer)(hfm:X.env.frame=some L)(S:zbC X N k js sc)(hi:PI X tg iter wi)(B:BlkX X N sc tg ifs elt g tt te E)(I:Inv X pins σ H s)
  (h:wi σ H λJ H1=>∀l,H1 l=none->zfb J g tt te l (zcf k js σ) H1 (R l)) :
  wpAny (model X.prog X.w) X.A (eval iter X.env) (λx s1=>wpAny (model X.prog X.w) X.A (pyIter x) (λit s2=>wpAny (model X.prog X.w) X.A (newList []) (λacc s3=>
   wpAny (model X.prog X.w) X.A (newFunctionEnv sc X.env.globals (zaB X.env sc.names []) [] X.env.qual none .none (some X.env)) (λcenv s4=>
    codeAny (model X.prog X.w) X.A (.compStart (.ListComp elt [⟨tg,iter,ifs,0⟩] sc pos) 0 it acc { cenv with scope:=relabel sc X.env })
     (λr s'=>match r with | .ok _=>After X pins σ R acc cenv.locals s' | .error e=>FlyC X pins σ E cenv.locals e s') s4) X.xe s3) X.xe s2) X.xe s1) X.xe s:=by
 refine thn (hi pins s σ H _ I h) λv s1 h1=>thn h1 λitv s2 h2=>?_;obtain⟨it,fp,tn,J,H2,e,I2,T,st2,f2,hq⟩:=h2;subst e;have hl:H2 s2.heap.objs.size=none:=I2.fresh;have fplt:∀b∈fp,b<s2.heap.objs.size:=λb hb=>by
  obtain⟨o,e,_⟩:=T.obj 0 _ st2 b hb;exact Xx e
 obtain⟨W,⟨m0,w0⟩,turn⟩:=hq _ hl;refine wpAny_newList ?_;have I3:Inv X pins σ (upd H2 s2.heap.objs.size (.lst [])) { s2 with heap:=s2.heap.push { cls:=.type "list",data:=.seq ([]:List Value).toArray } }:=I2.lnew (its:=[]) (t':=s2.toks) .nil (XX _);have u3:Un (frs X.stack) fp H2 (upd H2 s2.heap.objs.size (.lst [])) s2.heap (s2.heap.push { cls:=.type "list",data:=.seq ([]:List Value).toArray }):=Un.laid (λb o e=>Xg _ e) (Xo _) hl;have hz3:(s2.heap.push { cls:=.type "list",data:=.seq ([]:List Value).toArray }).objs.size=s2.heap.objs.size+1:=Heap.size_push ..;have kp3:∀b o,s2.heap.get? b=some o->(s2.heap.push { cls:=.type "list",data:=.seq ([]:List Value).toArray }).get? b=some o:=λb o e=>Xg _ e;have fpn:∀b∈fp,upd H2 s2.heap.objs.size (.lst []) b=none:=λb hb=>by
  rw[zah (XJ (fplt b hb))];exact(f2 b hb).1
 generalize hl0:s2.heap.objs.size=l at hl I3 u3 hz3 kp3 fpn w0 turn ⊢;rw[hl0]at fplt;generalize s2.heap.push { cls:=.type "list",data:=.seq ([]:List Value).toArray }=h3 at I3 u3 hz3 kp3 ⊢;generalize upd H2 l (.lst [])=H3 at I3 u3 fpn w0;have f3:∀b∈fp,FpOk X pins H3 b:=λb hb=>⟨fpn b hb,(f2 b hb).2⟩;have I4:=I3.block S f3 (λb hb=>by show b<h3.objs.size;rw[hz3];exact YE (fplt b hb));have kp4:∀b o,s2.heap.get? b=some o->(pushCells (h3.push { cls:=.type "dict",data:=.dict #[] }) sc.names).get? b=some o:=λb o e=>pushCells_keeps _ _ b o (Xg _ (kp3 b o e));refine zgm ?_;have st4:tn 0 (pushCells (h3.push { cls:=.type "dict",data:=.dict #[] }) sc.names):=T.keep 0 _ _ st2 λb _ o e=>kp4 b o e;have stat:∀ {H':Hp},(∀b∈fp,H' b=none)->∀b∈fp,FpOk (cxB X N sc h3.objs.size (cellsFrom (h3.objs.size+1) sc.names (zaB X.env sc.names [])) fp { s2 with heap:=h3 } H3) [] H' b:=λhn b hb=>
  ⟨hn b hb,(I4.ok.exf b hb).1,I4.ok.exfs b hb,.inl hb,(I4.ok.exf b hb).2,λp hp=>absurd (show p∈([]:List (Addr×Obj)) from hp) (by simp)⟩
 have fly:∀e s',XB (cxB X N sc h3.objs.size (cellsFrom (h3.objs.size+1) sc.names (zaB X.env sc.names [])) fp { s2 with heap:=h3 } H3) E e s'->FlyC X pins σ E h3.objs.size e s':=by
  rintro e s' ⟨pins9,σ9,H9,s9,I9,a,T9,cls,fl,H',rfl,os,bare,un,hok,ex,hE⟩;have u9:Un (frs X.stack) fp H2 H9 s2.heap s9.heap:=u3.trans I9.base;have IX:Inv X pins σ H' s':=I2.call' (ch:=fp) (os.trans I9.os) (u9.trans (un.mono (λ_ z=>z) λb z=>absurd z (by simp))) hok bare λb hb=>⟨(f2 b hb).2.2.2.1,(f2 b hb).2.1,(f2 b hb).2.2.2.2.1,(f2 b hb).2.2.2.2.2⟩;have I10:=I9.call' (ch:=[]) os un hok bare (λb z=>absurd z (by simp));obtain⟨m10,hn10,_⟩:=id I10.loc;refine⟨a,T9,cls,fl,H',rfl,IX,ex.back λb o e=>?_,λp hp=>?_,hE,I2.fpOk (by rw[hz3,hl0];exact Nat.le_succ _) I10.free,m10,hn10⟩
  ·obtain⟨o2,e2⟩:=I2.base.there b o e (by rw[hex];simp);refine u9.there b o2 e2 λhb=>?_;rcases(f2 b hb).2.2.2.1 with z | z
   ·rw[hex]at z;simp at z
   ·exact absurd (Xx e) (Nat.not_lt.mpr z)
  ·obtain⟨e,_⟩:=I2.pin p hp;obtain⟨o9,e9⟩:=u9.there p.1 p.2 e λhb=>(f2 p.1 hb).2.2.2.2.2 p hp rfl;exact⟨λz=>(by rw[z,ex.1]at e9;cases e9),λz=>(by rw[z,ex.2.2.1]at e9;cases e9)⟩
 generalize hY:cxB X N sc h3.objs.size (cellsFrom (h3.objs.size+1) sc.names (zaB X.env sc.names [])) fp { s2 with heap:=h3 } H3=Y at I4 stat fly;have loop:codeAny (model X.prog X.w) X.A (.compLoop (.ListComp elt [⟨tg,iter,ifs,0⟩] sc pos) 0 (.ref it) (.ref l) Y.env)
   (λr s'=>match r with | .ok _=>After X pins σ R (.ref l) h3.objs.size s' | .error e=>FlyC X pins σ E h3.objs.size e s') { s2 with heap:=pushCells (h3.push { cls:=.type "dict",data:=.dict #[] }) sc.names }:=by
  refine zjr (XB Y E) (λe s' hx=>FlyC.note (fly e s' hx) hex hst hfm (by subst hY;rfl) λs'' q=>q) (λn s'=>∃i σ' H',Inv Y [] σ' H' s'/\tn i s'.heap/\(∀b∈fp,H' b=none)/\W i n σ' H') ?_ m0
   ⟨0,zcf k js σ,H3,I4,st4,fpn,w0⟩
  subst hY;rintro n s5 ⟨i,σ5,H5,I5,st5,fr5,w5⟩;rcases turn i n σ5 H5 w5 with ⟨stop,qn⟩ | ⟨go,step⟩
  ·refine thn (T.done (cxB X N sc h3.objs.size (cellsFrom (h3.objs.size+1) sc.names (zaB X.env sc.names [])) fp { s2 with heap:=h3 } H3) rfl rfl rfl hc i [] s5 σ5 H5 (λ_ _=>False) I5 (stat fr5) st5 stop) λr s6 q141q=>?_;obtain⟨hr,I6⟩:=q141q;subst hr;obtain⟨m6,hn6,_⟩:=id I6.loc;have IX:Inv X pins σ H5 s6:=I2.call' (ch:=fp) I6.os (u3.trans I6.base) I6.hok I6.bare λb hb=>⟨(f2 b hb).2.2.2.1,(f2 b hb).2.1,(f2 b hb).2.2.2.2.1,(f2 b hb).2.2.2.2.2⟩;exact⟨l,H5,m6,rfl,IX,hn6,I2.fpOk (by show s2.heap.objs.size<=h3.objs.size;rw[hz3,hl0];exact Nat.le_succ _) I6.free,qn⟩
  ·refine thn (T.item (cxB X N sc h3.objs.size (cellsFrom (h3.objs.size+1) sc.names (zaB X.env sc.names [])) fp { s2 with heap:=h3 } H3) rfl rfl rfl hc i [] s5 σ5 H5 (λ_ _=>False) I5 (stat fr5) st5 go) λr s6 q142q=>?_;obtain⟨u,hr,h6⟩:=q142q;subst hr;refine thn h6 λ_ s7 q143q=>?_;obtain⟨x,H7,I7,r7,y7,st7,fr7⟩:=q143q;have I7':=I7.pinned (stat fr7) (T.obj _ _ st7);refine thn (B.tgt _ _ _ _ _ _ s7 σ5 H7 x u _ I7' r7 (step x H7 y7)) λ_ s8 q144q=>?_;obtain⟨σ8,H8,I8,q8⟩:=q144q;refine thn (B.tst _ _ _ _ _ _ s8 σ8 H8 _ I8 q8) λok s9 q145q=>?_;obtain⟨H9,I9,q9⟩:=q145q;have kept:∀ {σ':St} {H':Hp} {s':Shared},Inv (cxB X N sc h3.objs.size (cellsFrom (h3.objs.size+1) sc.names (zaB X.env sc.names [])) fp { s2 with heap:=h3 } H3) ([]++zeW fp s7.heap) σ' H' s'->tn (i+1) s'.heap/\∀b∈fp,H' b=none:=λ{σ' H' s'} I'=>
    ⟨T.keep _ _ _ st7 λb hb o e=>(I'.pin (b,o) (XQ _ (XQ _ (zbo hb e)))).1,λb hb=>by
     obtain⟨o,e,_⟩:=T.obj _ _ st7 b hb;exact(I'.pin (b,o) (XQ _ (XQ _ (zbo hb e)))).2.1⟩
   cases ok with
   | false=>
    rw[if_neg Xr]at q9;rw[if_neg Xr];obtain⟨m',hm,w9⟩:=q9;exact⟨m',hm,i+1,σ8,H9,I9.zbL,(kept I9).1,(kept I9).2,w9⟩
   | true=>
    rw[if_pos rfl]at q9;rw[if_pos rfl];refine thn (B.val _ _ _ _ _ _ s9 σ8 H9 _ (I9.wish _) q9) λu10 s10 q146q=>?_;obtain⟨y,H10,I10',r10,ys,hys,hlen,m',hm,w10⟩:=q146q;have I10:=I10'.zbj;refine thn (zbF _ s10 σ8 H10 (.ref l) [y] (.ref l) [u10] (λ_ H'=>H'=upd H10 l (.lst (ys++[y]))) I10 rfl (.cons r10 .nil) ⟨l,ys,y,rfl,rfl,hys,hlen,rfl⟩) λ_ s11 q147q=>?_;obtain⟨_,H11,I11,_,e11⟩:=q147q;subst e11;exact⟨m',hm,i+1,σ8,_,I11.zbL,(kept I11).1,(kept I11).2,w10⟩
 subst hY;exact codeAny_compStart_list loop (T.self X.A 0 _ _ _ st4 loop)
theorem zmO {L:Addr}(hc:X.calm=true)(hex:X.ex=[])(hst:X.stack=X.env::X.outer)(hfm:X.env.frame=some L)(hxe:∀pins σ e s',FlyI X pins σ E e s'->X.xe e s')(S:zbC X N k js sc)(hi:PI X tg iter wi)(B:BlkX X N sc tg ifs elt g tt te E)(hs:autoParam (∀x,foldedSetIterable iter X.env x=pure x) aU2) :
  PE X (.ListComp elt [⟨tg,iter,ifs,0⟩] sc pos) (zme k js wi g tt te):=by
 intro pins s σ H Q I h;rw[eval_ListComp];refine wpAny_comprehension_free (use:=none) rfl hs (zjZ λn hn=>I.ok.has n (S.fr n hn)) S.kind (zfc S) ?_;refine thn (zln (pos:=pos) (R:=λl H'=>Q (.ref l) H') hc hex hst hfm S hi B I h) λx s1 h1=>thn h1 λit s2 h2=>thn h2 λacc s3 h3=>thn h3 λcenv s4 h4=>codeAny_mono h4 λr s' hr=>?_;cases r with
 | error e=>
  obtain⟨a,T,cls,fl,H',rfl,I',ex,hp,hE,⟨f0,f1,f2,f3,f4,f5⟩,m,hn⟩:=hr;refine⟨m,hn,λh' sb cenv' hce=>?_⟩;have I'':=I'.turned (t':=s'.toks) (λb o hb e=>sb.extBut b o hb e) f0 f1 f3 f4 f5;have ex':ExcAt X.s₀.heap H' h' a cls T fl:=by
   obtain⟨ha,hHa,hT,hHT,hTa,oe,vs,oT,ts,a0,he,hc,hd,h00,h1,hgT,hdT,h3⟩:=ex;obtain⟨o,es,ep,hg,hdd,hk⟩:=hn;have n1:a≠cenv.locals:=λz=>by rw[z,hg]at he;cases he;rw[hd]at hdd;cases hdd
   have n2:T≠cenv.locals:=λz=>by rw[z,hg]at hgT;cases hgT;rw[hdT]at hdd;cases hdd
   exact⟨ha,hHa,hT,hHT,hTa,oe,vs,oT,ts,a0,sb.extBut _ _ n1 he,hc,hd,h00,h1,sb.extBut _ _ n2 hgT,hdT,h3⟩
  have F:FlyI X pins σ E (.ref a) { s' with heap:=h' }:=⟨a,T,cls,fl,H',rfl,I'',ex',hp,hE⟩;unfold PySem.passOn;obtain⟨ha,hHa,hT,hHT,hTa,oe,vs,oT,ts,a0,he,hc,hd,h00,h1,hgT,hdT,h3⟩:=ex';refine wpAny_bind (wpAny_field he hd h1 ?_);rw[if_neg (by simp)];exact wpAny_bind (FlyI.flight F λs'' F'=>wpAny_throw (hxe pins σ _ _ F'))
 | ok f=>
  obtain⟨l,H',m,rfl,I',hn,⟨f0,f1,f2,f3,f4,f5⟩,q⟩:=hr;exact⟨m,hn,λh' sb=>⟨.ref l,H',I'.turned (t':=s'.toks) (λb o hb e=>sb.extBut b o hb e) f0 f1 f3 f4 f5,rfl,q⟩⟩
end
noncomputable def ClsAt (a:Addr)(cls:Value):HO:=.ext λh=>∃o,h.get? a=some o/\o.cls=cls
section
variable {X:Cx}{pins:List (Addr×Obj)}{σ:St}{H H':Hp}{s s':Shared}{a T:Addr}{cls fl:Value}{E E':XK}
theorem zlo (I:Inv X pins σ H s)(hx:ExcAt X.s₀.heap H s.heap a cls T fl)(hp:∀p∈X.pn++pins,p.1≠a):Inv X pins σ (upd H a (ClsAt a cls)) s:=by
 obtain⟨ha,hHa,hT,hHT,hTa,oe,vs,oT,ts,a0,he,hc,hd,h00,h1,hgT,hdT,h3⟩:=hx;have ne:∀b u,H b=some u->b≠a:=λb u e z=>by rw[z,hHa]at e;cases e
 obtain⟨m,⟨o,es,ep,hg,hdd,hk⟩,hl⟩:=id I.loc;have nl:X.env.locals≠a:=λz=>by rw[z,he]at hg;cases hg;rw[hd]at hdd;cases hdd
 have hbe:∀b,b≠a->upd H a (ClsAt a cls) b=H b:=λb n=>zah n;refine⟨I.ok,I.os,I.bare,⟨I.base.keep,I.base.slot,λb o e n hx=>?_,I.base.there,λb xs e=>?_,λb o u e=>?_,λb ps e=>?_⟩,I.loc,I.cell,by rw[hbe _ nl];exact I.free,λx c e=>?_,λp hp'=>?_,λb u e=>?_,I.len⟩
 ·rw[hbe b λz=>by rw[z,ha]at e;cases e];exact I.base.free b o e n hx
 ·have q:=I.base.tups b xs e;rw[hbe b (ne b _ q)];exact q
 ·have q:=I.base.frzs b o u e;rw[hbe b (ne b _ q)];exact q
 ·obtain⟨more,q⟩:=I.base.tbls b ps e;exact⟨more,by rw[hbe b (ne b _ q)];exact q⟩
 ·obtain⟨v,oc,ec,q⟩:=I.cell x c e;rw[hbe c λz=>by rw[z,he]at ec;cases ec;rw[hd]at q;cases q];exact I.freeC x c e
 ·obtain⟨q,n,r⟩:=I.pin p hp';exact⟨q,by rw[hbe _ (hp p hp')];exact n,r⟩
 ·by_cases hb:b=a
  ·subst hb;rw[zaj]at e;cases e;exact⟨⟨oe,he,hc⟩,⟨oe,he⟩,λh1 h2 q148q k=>by obtain⟨o,e,c⟩:=q148q;exact⟨o,k o e,c⟩⟩
  ·rw[hbe b hb]at e;exact(I.hok b u e).stay (λ_ _ _ q=>q) (λc q=>by rw[hbe c (ne c _ q)];exact q) λc xs q=>by rw[hbe c (ne c _ q)];exact q
noncomputable abbrev hCx (X:Cx)(a:Addr):Cx:={ X with A:=X.A.mark (some (.ref a)),calm:=false,xe:=λ_ _=>False }
theorem zqN (I:Inv X pins σ H s)(a:Addr):Inv (hCx X a) pins σ H s:=
 ⟨⟨I.ok.mod,I.ok.kind,I.ok.glob,I.ok.blt,I.ok.above,I.ok.inj,I.ok.has,I.ok.cab,(λz=>nomatch z),I.ok.frames,I.ok.stk,I.ok.exf,I.ok.bs,I.ok.bsz,I.ok.noex,I.ok.exfs,I.ok.funs,I.ok.frf⟩,I.os,I.bare,I.base,I.loc,I.cell,I.free,I.freeC,I.pin,I.hok,I.len⟩
theorem zqO (I:Inv (hCx X a) pins σ H s)(ok:X.Ok):Inv X pins σ H s:=⟨ok,I.os,I.bare,I.base,I.loc,I.cell,I.free,I.freeC,I.pin,I.hok,I.len⟩
theorem zlp {M:Model}{A:Around}{Ex:Value->Shared->Prop}{j:Nat}{x:Str}{v:V}{Q:Unit->Shared->Prop}(I:Inv X pins σ H s)(hN:X.N.Nodup)(hj:X.N[j]? = some x)(hk:X.env.scope.names.lookup x=some .local)(hv:σ[j]? = some (some v))
  (h:∀s',Inv X pins (σ.set j none) H s'->Q () s'):wpAny M A (unbindName X.env x) Q Ex s:=by
 obtain⟨m,hn,hl⟩:=id I.loc;have hcls:(X.env.scope.kind == .class||(X.env.scope.kind == .module&&X.env.locals != X.env.globals))=false:=by rw[I.ok.kind];rfl
 have hjσ:j<σ.length:=(Xj.mp hv).1;have cne:=I.cne;obtain⟨u,r,q⟩:=hl j x v hj hv (.inl hk);have hm:m x=some u:=by
  rcases q with q | ⟨k,_⟩
  ·exact q.2
  ·have k':X.env.scope.names.lookup x=some .cell\/X.env.scope.names.lookup x=some .free:=k;rw[hk]at k';rcases k' with k' | k'<;>cases k'
 refine wpAny_unbindName_local hk hn hm hcls λh' w hn' hs=>?_;obtain⟨oL,_,_,hoL,_⟩:=id hn;refine h _ ⟨I.ok,I.os,I.bare,⟨λb o e n hb hx=>?_,λb o e n hb hx=>?_,I.base.free,λb o e hx=>?_,I.base.tups,I.base.frzs,I.base.tbls⟩,⟨_,hn',λi y v' e1 e2 e3=>?_⟩,λy c e=>?_,I.free,I.freeC,λp hp=>?_,λb ob e=>?_,by simpa using I.len⟩
 ·exact(hs.2 b (XJ (XE (Xx e) I.ok.above))).trans (I.base.keep b o e n hb hx)
 ·obtain⟨sl,e1⟩:=I.base.slot b o e n hb hx;exact⟨sl,(hs.2 b (XJ (XE (Xx e) I.ok.above))).trans e1⟩
 ·obtain⟨o',e1⟩:=I.base.there b o e hx;exact⟨o',(hs.2 b (XJ (XE (Xx e) I.ok.above))).trans e1⟩
 ·by_cases hi:i=j
  ·subst hi;rw[Xd hjσ]at e2;cases e2
  ·rw[Xf (Ne.symm hi)]at e2;obtain⟨u',r',q'⟩:=hl i y v' e1 e2 e3;refine⟨u',r',?_⟩;rcases q' with ⟨k,e⟩ | ⟨k,c,e,z⟩
   ·refine .inl ⟨k,?_⟩;have:y≠x:=λe=>hi (zfq hN e1 (e▸hj));simp[this,e]
   ·exact .inr ⟨k,c,e,z.sameBut hs (cne y c e)⟩
 ·obtain⟨w',z⟩:=I.cell y c e;exact⟨w',z.sameBut hs (cne y c e)⟩
 ·obtain⟨e,n,ne,nf,d⟩:=I.pin p hp;exact⟨(hs.2 p.1 ne).trans e,n,ne,nf,d⟩
 ·refine(I.hok b ob e).stay (λc w' hc q=>(hs.2 c ?_).trans q) (λ_ q=>q) λ_ _ q=>q;rintro rfl;rcases hc with z | hc
  ·rw[<- z,I.free]at e;cases e
  ·rw[I.free]at hc;cases hc
end
section
variable {M:Model}{A:Around}{E:Value->Shared->Prop}
theorem zhA {nm q nm' q':Str}{C D N N':Addr}{bs bm bs' bm':List Value}{hdct hdct':Bool}{sn sn':List Str}{sub sub':List Value}{ab ab':Bool}{col col':Option Bool}{dd dd':Option Addr}{k0 k1 k2 k3 k5 j0 j1 j2 j3 j5:Option Value}{newId newId':String}
  {h:Heap} {g:Array GenState} {d:Drawn} {t:Nat} {os:OsState} {e:Addr} {oe:Obj} {Q:Bool->Shared->Prop}
  (hC:h.get? C=some (excClassObj nm q C N bs bm hdct sn sub ab col dd k0 k1 k2 k3 k5 newId)) (hD:h.get? D=some (excClassObj nm' q' D N' bs' bm' hdct' sn' sub' ab' col' dd' j0 j1 j2 j3 j5 newId')) (he:h.get? e=some oe) (hcls:oe.cls=.ref C)
  (hbase:bm'.contains (.type "BaseException")=true) (hin:(Value.ref C::bm).contains (.ref D)=true) (hq:Q true ⟨h,g,d,t,os⟩):wpAny M A (excMatches (.ref e) (.ref D)) Q E ⟨h,g,d,t,os⟩:=by
 have hcB:(Value.ref D::bm').contains (.type "BaseException")=true:=by rw[List.contains_cons,hbase,Bool.or_true]
 have f:=tc_notTuple;unfold excMatches
 repeat (first | (with_reducible refine wpAny_loadPart_at he ?_;rw[hcls]) | with_reducible refine wpAny_loadPart_at hD ?_ | (with_reducible refine wpAny_isSubtype_exc hD ?_;rw[hcB]) | (with_reducible refine wpAny_isSubtype_exc hC ?_;rw[hin]) | wp_step)
 exact hq
end
section
variable {X:Cx}{k:Nat}{f:Addr}{fd:FuncData}{ps:List Str}{sp:Sp}{x:Str}{p pos:Pos}{e:Expr}{es:List Expr}{t:TA}
theorem zqP {pins:List (Addr×Obj)}{σ:St}{H:Hp}{s:Shared}{Q:VK}{E:XK}(F:FnOk X.prog X.w X.K X.mg X.base (CXJ X.prog X.w) k f fd ps sp)(hex:X.ex=[])(hr:Room k X.A)(hg:Gl X x)(hm:X.mg x=some (.ref f))(hk:XO X.K (.ref f)=true)(hb:Binds X.K fd ps [])
  (ha:PA X.nox (e::es) t) (I:Inv X pins σ H s) (h:t σ H λvs H1=>sp vs H1 Q E) (hdb:(x == ("__debug__" : Str))=false) (he:starEach (e::es) X.env=(false,eval e X.env)::starEach es X.env) (hpl:(backTo pos (starEach es X.env)).any (·.1)=false) :
  wpAny (model X.prog X.w) X.A (eval (.Call (.Name x p) (e::es) [] pos) X.env) (EP X pins σ Q) (FlyI X pins σ E) s:=by
 refine wpAny_Call_Name_kw (zdZ I hg hm ?_ hdb);refine PySem.W.callWith_K (h₀:=X.base) I.ok.mod.kin hk (wpAny_mono (ha pos pins s σ H _ (I.wish _) h) (λus s1 q149q=>?_) λ_ _ z=>z.elim) he hpl;obtain⟨vs,H1,I1',r,q⟩:=q149q;have I1:Inv X pins σ H1 s1:=I1'.zbj;refine⟨I1.kIn,?_⟩;have r2:Vals (vs++[]) (us++[]):=r.append .nil;rw[Yd,Yd]at r2;have hl:(us++[]).length=ps.length:=by rw[Yd,<- r2.length];exact F.len _ _ _ _ q
 have hbs:=hb s1 us I1.kIn hl;rw[Yd]at hbs;refine wpAny_call (codeAny_mono (F.run X.A X.stack s1 H1 ⟨us,[]⟩ us vs Q E hr I1.env0 hbs r2 q) λr s' hq=>?_);cases r with
 | error e=>exact FlyI.of I1 hex hq
 | ok fl=>
  cases fl with
  | ret u=>exact I1.after hq
  | next=>exact False.elim hq
  | brk=>exact False.elim hq
  | cont=>exact False.elim hq
noncomputable def zrM (K:Xa)(J:Addr)(sp:Sp)(t:TA)(i j:Nat):TS:=λD σ H=>j<σ.length/\i<σ.length/\∃E:XK,(t σ H λvs H1=>sp vs H1 (λ_ _=>False) E)/\
 ∀cls o H',E cls o H'->(∃C bm,cls=.ref C/\ExcC K C bm/\(Value.ref C::bm).contains (.ref J)=true)/\∀a,H' a=none->D.nx ((((σ.set j (some (.ref a))).set i (some (.ref a))).set j (some .non)).set j none) (upd H' a (ClsAt a cls))
theorem zoU {L J:Addr}{bmJ:List Value}{jx en y:Str}{i j:Nat}{np py pe pa pos' pos2 pos3:Pos}(F:FnOk X.prog X.w X.K X.mg X.base (CXJ X.prog X.w) k f fd ps sp)(hex:X.ex=[])(hst:X.stack=X.env::X.outer)(hfm:X.env.frame=some L)(hr:Room k X.A)(hg:Gl X x)(hm:X.mg x=some (.ref f))(hk:XO X.K (.ref f)=true)(hb:Binds X.K fd ps [])
  (ha:PA X.nox (e::es) t) (hN:X.N.Nodup) (hi:X.N[i]? = some y) (hly:X.env.scope.names.lookup y=some .local) (hj:X.N[j]? = some en) (hle:X.env.scope.names.lookup en=some .local) (hij:i≠j) (hgj:Gl X jx) (hmj:X.mg jx=some (.ref J)) (hJ:ExcC X.K J bmJ)
  (hdb:autoParam ((x == ("__debug__" : Str))=false) aU1) (hdj:autoParam ((jx == ("__debug__" : Str))=false) aU1) (hde:autoParam ((en == ("__debug__" : Str))=false) aU1) (hce:autoParam ((en == ("__classdict__" : Str))=false) aU1)
  (he:autoParam (starEach (e::es) X.env=(false,eval e X.env)::starEach es X.env) aU0) (hpl:autoParam ((backTo pos (starEach es X.env)).any (·.1)=false) aU0)
  (hs:autoParam (swapsWith (.Call (.Name x p) (e::es) [] pos) none pos2.line X.env=pure false) aU0) (hs2:autoParam (swapsWith (.Name en pe) (some (.Name y py)) pa.line X.env=pure false) aU0) :
  PS X (.Try [.Expr (.Call (.Name x p) (e::es) [] pos) pos2] [.ExceptHandler (some (.Name jx np)) (some en) [.Assign [.Name y py] (.Name en pe) pa] pos'] [] [] pos3) (zrM X.K J sp t i j):=by
 intro pins s σ H D I h;obtain⟨hjl,hil,E,h,hE⟩:=h;refine wpAny_Try_except (wpAny_execs_cons (wpAny_Expr_any (wpAny_mono (zqP F hex hr hg hm hk hb ha I h hdb he hpl) (λv s1 q150q=>by obtain⟨_,_,_,_,z⟩:=q150q;exact z.elim) λev s1 fy=>?_) I.quiet hs));refine FlyI.note fy hex hst hfm rfl λs2 fy2=>FlyI.flight fy2 λs3 fy3=>?_;obtain⟨a,T,cls,fl,H',rfl,I3,ex,hp,hE3⟩:=fy3;obtain⟨⟨C,bm,rfl,hC,hin⟩,hD⟩:=hE _ _ _ hE3;refine wpAny_handleBy_cons (codeAny_handlers_test ?_) (by intro q;cases q);refine zdZ (zqN I3 a) hgj hmj ?_ hdj;obtain⟨N',nm,q,bs,hdct,sn,sub,ab,col,dd,k0,k1,k2,k3,k5,mN,gC,hNs,hni,TC⟩:=hC s3.heap I3.kIn;obtain⟨N2,nm2,q2,bs2,hdct2,sn2,sub2,ab2,col2,dd2,j0,j1,j2,j3,j5,mN2,gJ,hNs2,hni2,TJ⟩:=hJ s3.heap I3.kIn;have ex':=ex;obtain⟨xa,hHa,xT,hHT,hTa,oe,vs,oT,ts,a0,hge,hc,hd,h00,h1,hgT,hdT,h3⟩:=ex';refine zhA gC gJ hge hc (TJ.hasType (by decide)) hin ?_;show codeAny _ _ _ _ s3;refine codeAny_handlers_suite_as (ziD (l:=X.stack) ex (ex.nofr I3.stack).2 λh' fl' xs ex2=>?_);have I4:Inv X pins σ H' { s3 with heap:=h' }:=zmN I3 xs ex hp;have I5:=zlo I4 ex2 λp hp'=>(hp p hp').1;refine zdY I5 hN hj (.inl hle) (show RelV (.ref a) (.ref a) from rfl) (λs5 I6 _=>?_) (.inr hle);have hset:=zcH (X:=hCx X a) (i:=i) (x:=y) (e:=.Name en pe) (pos':=py) (pos:=pa) hN hi (.inl hly) (zaP (X:=hCx X a) (i:=j) hj (.inl hle) hde hce) hs2 (.inr hly);refine wpAny_execs_cons (wpAny_mono (hset pins s5 _ _ { nx:=λσ' H''=>σ'=(σ.set j (some (.ref a))).set i (some (.ref a))/\H''=upd H' a (ClsAt a (.ref C)),rt:=λ_ _=>False } (zqN I6 a) ⟨.ref a,Xd hjl,rfl,rfl⟩) (λfl s6 hfl=>?_) λ_ _ z=>z.elim);cases fl with
 | next=>
  obtain⟨σ',H'',I7,rfl,rfl⟩:=hfl;refine wpAny_execs_nil ?_;have I8:Inv X pins _ _ s6:=zqO I7 I.ok;refine wpAny_bind (wpAny_bindName (zdY I8 hN hj (.inl hle) (show RelV .non .none from rfl) (λs8 I9 _=>?_) (.inr hle)));unfold unbindBehindTheSuite;refine wpAny_onRaise (wpAny_mono (zlp (Ex:=λ_ _=>False) I9 hN hj hle (Xd (by simpa using hjl)) λs9 I10=>?_) (λ_ _ q=>q) λ_ _ z=>z.elim);exact⟨_,_,I10,hD a hHa⟩
 | ret v=>obtain⟨_,_,_,_,_,z⟩:=hfl;exact z.elim
 | brk=>obtain⟨_,_,_,z⟩:=hfl;exact z.elim
 | cont=>obtain⟨_,_,_,z⟩:=hfl;exact z.elim
end
structure ExcK (K:Xa)(C:Addr)(bm:List Value):Prop where
 cls:ExcC K C bm
 ga:YM K (.ref C) "__getattribute__" = some (some (.builtin "BaseException.__getattribute__"))
 gt:YM K (.ref C) "__getattr__" = some none
 ca:YM K (.ref C) "__class__" = some (some (.builtin "object.__class__"))
section
variable {prog:Program}{w:World}{A:Around}{E:Value->Shared->Prop}{h:Heap}{g:Array GenState}{d:Drawn}{t:Nat}{os:OsState}{a:Addr}{o:Obj}{K:Xa}{C:Addr}{bm:List Value}
theorem zoV {R:Result->Shared->Prop}(X:K.In h)(FK:ExcK K C bm)(hx:h.get? a=some o)(hc:o.cls=.ref C)(hq:R (.ok (.ret (.ref C))) ⟨h,g,d,t,os⟩) :
  codeAny (model prog w) A (.call (.builtin "getset_descriptor.__get__") ⟨[.builtin "object.__class__",.ref a,.ref C],[]⟩) R ⟨h,g,d,t,os⟩:=by
 obtain⟨N,nm,q,bs,hdct,sn,sub,ab,col,dd,k0,k1,k2,k3,k5,mN,hC,hN,hni,T⟩:=FK.cls h X;have hT5:(⟨h,g,d,t,os⟩:Shared).TypeIs (.builtin "object.__class__") "getset_descriptor":=F.typeOf_object_class;have hcB:(Value.ref C::bm).contains (.type (".".intercalate ("object.__class__".cutAt '.').dropLast))=true:=by
  rw[F.owner_object_class,List.contains_cons,T.hasType (show bmV.contains (.type "object")=true by decide)];rfl
 refine codeAny_call_builtin F.slot_gs_get.plain F.entry_gs_get (F.slot_gs_get.check _ _ _ _ _ _ _ _ hT5 (F.args_gs_get _ _ _) ?_)
 repeat (any_goals (first | assumption | (with_reducible refine wpAny_loadPart_at hx ?_;rw[hc]) | (with_reducible refine wpAny_isSubtype_exc hC ?_;rw[hcB]) | wp_step))
 refine⟨Code.quiet_builtin _ (by decide +kernel),codeAny_builtin F.entry_object_class ?_⟩
 repeat (any_goals (first | assumption | (with_reducible refine wpAny_loadPart_at hx ?_;rw[hc]) | wp_step))
theorem zlq {tk:Tok}{Q:Fin->Shared->Prop}(X:K.In h)(FK:ExcK K C bm)(hx:h.get? a=some o)(hc:o.cls=.ref C)(hq:Q (.done (.ret (.ref C))) ⟨h,g,d,t,os⟩) :
  wpAny (model prog w) A (Builtin.«object.__getattribute__» ⟨[.ref a,.str "__class__" tk],[]⟩) Q E ⟨h,g,d,t,os⟩:=by
 have hT5:(⟨h,g,d,t,os⟩:Shared).TypeIs (.builtin "object.__class__") "getset_descriptor":=F.typeOf_object_class;have f5:=F.typeOf_object_class;have f6:=F.slot_gs_get.lookup;have f7:=F.slot_gs_set.lookup
 repeat (any_goals (first | assumption | (with_reducible refine wpAny_loadPart_at hx ?_;rw[hc]) | with_reducible refine(PySem.W.looks_findIn X FK.ca).at ?_ | wp_step))
 refine zoV X FK hx hc ?_
 repeat (any_goals (first | assumption | wp_step))
theorem zlr {M:Model}{nameV:Value}{Q:Unit->Shared->Prop}(X:K.In h)(FK:ExcK K C bm)(hx:h.get? a=some o)(hc:o.cls=.ref C)(hq:Q () ⟨h,g,d,t,os⟩):wpAny M A (checkBuiltinCall "BaseException.__getattribute__" ⟨[.ref a,nameV],[]⟩) Q E ⟨h,g,d,t,os⟩:=by
 obtain⟨N,nm,q,bs,hdct,sn,sub,ab,col,dd,k0,k1,k2,k3,k5,mN,hC,hN,hni,T⟩:=FK.cls h X;have hk:builtinKind "BaseException.__getattribute__" = some .slot:=by decide +kernel
 have hsplit:splitId "BaseException.__getattribute__" = some ("BaseException","__getattribute__"):=by decide +kernel
 have hcB:(Value.ref C::bm).contains (.type "BaseException")=true:=by rw[List.contains_cons,T.hasType (show bmV.contains (.type "BaseException")=true by decide)];rfl
 have ha:=F.args_bexc_ga (.ref a) nameV;simp only[checkBuiltinCall,hk,hsplit];refine wpAny_bind ?_;unfold isInstance
 repeat (first | (with_reducible refine wpAny_loadPart_at hx ?_;rw[hc]) | (with_reducible refine wpAny_isSubtype_exc hC ?_;rw[hcB]) | wp_step)
 exact hq
theorem zqQ {tk:Tok}{Q:Value->Shared->Prop}(X:K.In h)(FK:ExcK K C bm)(hx:h.get? a=some o)(hc:o.cls=.ref C)(hq:Q (.ref C) ⟨h,g,d,t,os⟩):wpAny (model prog w) A (getAttrBy (.ref a) (.str "__class__" tk) false) Q E ⟨h,g,d,t,os⟩:=by
 have f3:=F.attr_ValueError.ga.bind (.ref a);have hx2:(Value.builtin "BaseException.__getattribute__" == Value.builtin "object.__getattribute__")=false:=by decide +kernel
 have hx1:(onTheHeap (Value.ref C)&&Value.builtin "BaseException.__getattribute__" == Value.builtin "object.__getattribute__")=false:=by rw[hx2];rfl
 repeat (any_goals (first | assumption | (with_reducible refine wpAny_loadPart_at hx ?_;rw[hc]) | with_reducible refine(PySem.W.looks_findIn X FK.ga).at ?_ | with_reducible refine(PySem.W.looks_findIn X FK.gt).at ?_ | wp_step))
 refine codeAny_call_builtin F.attr_ValueError.ga.plain F.entry_bexc_ga (zlr X FK hx hc (zlq X FK hx hc ?_))
 repeat (any_goals (first | assumption | wp_step))
theorem zmP {Q:Option Value->Shared->Prop}(X:K.In h)(FK:ExcK K C bm)(hx:h.get? a=some o)(hc:o.cls=.ref C)(hq:Q (some (.ref C)) ⟨h,g,d,t+1,os⟩):wpAny (model prog w) A (getAttr? (.ref a) "__class__") Q E ⟨h,g,d,t,os⟩:=by
 unfold getAttr? getAttrBy?
 repeat (any_goals (first | assumption | with_reducible apply zqQ X FK hx hc | wp_step))
end
noncomputable def CAt (a C:Addr)(h:Heap):Prop:=∃o,h.get? a=some o/\o.cls=.ref C
theorem znH {K:Xa}{C a:Addr}{bm:List Value}(FK:ExcK K C bm):PySem.W.KitX K (.ref a) (.ref C) (CAt a C) where
 ty:=λM h _ q151q=>by obtain⟨o,h1,h2⟩:=q151q;exact h2▸(PySem.W.Looks.ld h1).andThen .now
 it:=λM h X _=>by
  obtain⟨N,nm,q,bs,hdct,sn,sub,ab,col,dd,k0,k1,k2,k3,k5,mN,hC,hN,hni,T⟩:=FK.cls h X;intro A' Q' E' s' k q;unfold isType loadHead;exact wpAny_bind (wpAny_loadPart (k _ _ hC) (wpAny_pure q))
 ne:=λh tp dd its n sl X htp=>by
  obtain⟨N,nm,q,bs,hdct,sn,sub,ab,col,dd,k0,k1,k2,k3,k5,mN,hC,hN,hni,T⟩:=FK.cls h X;refine Bool.eq_false_iff.mpr λq=>?_;have e:C=tp:=Value.ref.inj (beq_iff_eq.mp q);subst e;rw[hC]at htp;have z:Value.type "type" = Value.type "tuple":=congrArg Obj.cls (Option.some.inj htp);exact absurd (Value.type.inj z) (by decide)
 ca:=λ{_ _ _ _ _ s} X ⟨o,h1,h2⟩ k=>by
  obtain⟨h,g,d,t,os⟩:=s;exact zmP X FK h1 h2 k
section
variable {X:Cx}
noncomputable def rIsX (K:Xa):List V->Hp->VK->Prop:=λxs H Q=>∃(a C:Addr)(bm:List Value)(b:Bool),H a=some (ClsAt a (.ref C))/\ExcK K C bm/\((∃c,xs=[.ref a,.ty c]/\Xq K (.ref C) (.type c)=some b)\/∃D,xs=[.ref a,.ref D]/\Xq K (.ref C) (.ref D)=some b)/\Q (.bl b) H
theorem zcq:zcz X (.builtin "isinstance") (rIsX X.K):=by
 intro pins s σ H xs us Q I r h;obtain⟨a,C,bm,b,ha,FK,e,q⟩:=h;obtain⟨hA,_⟩:=I.hok a _ ha;rcases e with ⟨c,rfl,e⟩ | ⟨D,rfl,e⟩
 ·obtain⟨u,w',rfl,r1,r2⟩:=vals2 r;cases r1;cases r2;exact PySem.W.kia_one (znH FK) I.kIn hA e (λz=>nomatch z) λtk=>⟨.bl b,H,I.tok tk,rfl,q⟩
 ·obtain⟨u,w',rfl,r1,r2⟩:=vals2 r;cases r1;cases r2;exact PySem.W.kia_one (znH FK) I.kIn hA e (λz=>nomatch z) λtk=>⟨.bl b,H,I.tok tk,rfl,q⟩
end
end PL
namespace K01
open PySem PySem.Spec PyProof.Rows
noncomputable def mix (c j:Int):Int:=
 if c % 2=1/\c / 2 ^ 27≠0 then(c / 2 ^ (1+20*j).toNat) % 1048576
 else(((c*(2*j+3)+j) % 2147483629*((c*(2*j+3)+j) % 2147483629)+1)*48271 % 2147483629)*(((c*(2*j+3)+j) % 2147483629*((c*(2*j+3)+j) % 2147483629)+1)*48271 % 2147483629) % 2147483587
theorem zar (c j:Int):0<=mix c j:=by
 unfold mix;split
 ·exact Yt _ (by decide)
 ·exact Yt _ (by decide)
end K01
namespace PL
open PySem PySem.Spec L2
open PyProof.Rows hiding St
section
variable {X:Cx}{E:XK}{e:Value}{s':Shared}{L:Addr}
noncomputable def FlyM (X:Cx)(E:XK)(e:Value)(s':Shared):Prop:=(∃pins σ,FlyI X pins σ E e s')\/∃(s0:Shared)(pins:List (Addr×Obj))(σ:St)(H':Hp)(a:Addr)(C:Value)(args:List Value)(h':Heap),e=.ref a/\s'={ s0 with heap:=h' }/\Inv X pins σ H' s0/\Heap.MadeExcOf s0.heap h' a C args/\E C none H'
theorem FlyM.note {M:Model}{Ex:Value->Shared->Prop}{Q:Unit->Shared->Prop}(h:FlyM X E e s')(hex:X.ex=[])(hst:X.stack=X.env::X.outer)(hf:X.env.frame=some L)
  (q:∀s'' pins σ,FlyI X pins σ E e s''->Q () s''):wpAny M X.A (noteFrame e X.env) Q Ex s':=by
 rcases h with ⟨pins,σ,h⟩ | ⟨s0,pins,σ,H',a,C,args,h',rfl,rfl,I,m,hE⟩
 ·exact FlyI.note h hex hst hf rfl λs'' h=>q s'' pins σ h
 ·obtain⟨t,ht,_,htt⟩:=m.there;have I1:Inv X pins σ H' { s0 with heap:=h' }:=I.call' (ch:=[]) rfl (Un.kept m.keeps) (I.hok.kept m.keeps) I.bare (λb z=>absurd z (by simp));have he0:X.s₀.heap.get? a=none:=by
   cases q:X.s₀.heap.get? a with
   | none=>rfl
   | some o=>obtain⟨o',e'⟩:=I.base.there a o q (by rw[hex];simp);rw[m.new]at e';cases e'
  have hHe:H' a=none:=by
   cases q:H' a with
   | none=>rfl
   | some o=>obtain⟨o',e'⟩:=HOk.there I.hok q;rw[m.new]at e';cases e'
  have hfr:X.A.frames=some (X.env::X.outer):=by rw[I.ok.frames,hst]
  have hl:=I1.stack;rw[hst]at hl;refine zqM (h0:=X.s₀.heap) (H:=H') hfr hl hf he0 hHe ht rfl rfl rfl (FlyI.old I1 hex) λh2 T' fl' wT x z=>q _ pins σ ?_;have pe:∀p∈X.pn++pins,p.1≠a:=λp hp y=>by
   obtain⟨q,_⟩:=I.pin p hp;rw[y,m.new]at q;cases q
  refine⟨a,T',C,fl',H',rfl,znF (T:=a) (s:={ s0 with heap:=h' }) I1 (by rw[hst];exact x a) ⟨he0,hHe,_,_,ht,rfl⟩ ⟨he0,hHe,_,_,ht,rfl⟩ (λp hp=>⟨pe p hp,pe p hp⟩),z,λp hp=>⟨pe p hp,λy=>?_⟩,hE⟩;obtain⟨q,_⟩:=I1.pin p hp;rw[y]at q;have wT':h'.get? T'=none:=wT;rw[show({ s0 with heap:=h' }:Shared).heap.get? T'=h'.get? T' from rfl,wT']at q;cases q
theorem FlyM.passes (hex:X.ex=[])(hst:X.stack=X.env::X.outer)(hf:X.env.frame=some L):PassesOwn (model X.prog X.w) X.A X.env (FlyM X E):=λe s' h=>by
 refine FlyM.note h hex hst hf λs'' pins σ h=>?_;obtain⟨a,T,cls,fl,H',rfl,I,ex,hp,hE⟩:=h;have ex':=ex;obtain⟨xa,hHa,xT,hHT,hTa,oe,vs,oT,ts,a0,hge,hc,hd,h00,h1,hgT,hdT,h3⟩:=ex';refine wpAny_bind (wpAny_field hge hd h1 ?_);rw[if_neg (by simp)];exact FlyI.flight ⟨a,T,cls,fl,H',rfl,I,ex,hp,hE⟩ λs2 h2=>.inl ⟨pins,σ,h2⟩
end
section
variable {P:Program}{w:World}{K:Xa}{mg:Str->Option Value}{base:Heap}{N:List Str}{qual:Str}{scope:Scope}{f:Addr}{cd:Value}{A:Around}{outer:List Env}{s s':Shared}{H:Hp}{E:XK}
theorem FlyM.leave {e:Value}(h:FlyM (cxOf (CXJ P w) P w K mg base N qual scope f cd A outer s H E) E e s'):(cxOf (CXJ P w) P w K mg base N qual scope f cd A outer s H E).xe e s':=by
 show wpAny _ _ (leaving _ e) _ _ s';unfold leaving;refine wpAny_bind (FlyM.note h rfl rfl rfl λs1 pins σ h1=>FlyI.flight h1 λs2 h2=>?_);obtain⟨a,T,cls,fl,H',rfl,I,ex,hp,hE⟩:=h2;exact⟨a,T,cls,fl,H',rfl,I.os,I.bare,I.base,I.hok,ex,hE⟩
end
section
variable {X:Cx}{E:XK}
theorem zls {x:Str}{C:Addr}{bm:List Value}{e0:Expr}{te:TE}{np cpos pos:Pos}(he:PE (X.wish (FlyM X E)) e0 te)(hg:Gl X x)(hm:X.mg x=some (.ref C))(hx:ExcC X.K C bm)(hh:X.calm=true)
  (hd:autoParam ((x == ("__debug__" : Str))=false) aU1) (hst:autoParam (starEach [e0] X.env=[(false,eval e0 X.env)]) aU0) :
  PS (X.wish (FlyM X E)) (.Raise (some (.Call (.Name x np) [e0] [] cpos)) none pos) (λD σ H=>te σ H λv H'=>E (.ref C) none H'):=by
 intro pins s1 σ H1 D I h;obtain⟨N',nm,q,bs,hdct,sn,sub,ab,col,dd,k0,k1,k2,k3,k5,mN,hC,hN,hni,T⟩:=hx X.base I.ok.mod.kin;refine wpAny_Raise_call_subT (C:=C) (nm:=nm) (q:=q) (N:=N') (bs:=bs) (bm:=bm) (hdct:=hdct) (sn:=sn) (sub:=sub) (ab:=ab) (col:=col) (dd:=dd) (k0:=k0) (k1:=k1) (k2:=k2) (k3:=k3) (k5:=k5) (mN:=mN) PySem.F.excBase_ValueError (T.hasType (by decide)) (I.ok.hd hh)
  (by show(backTo cpos (starEach [e0] X.env)).any (·.1)=false;rw[hst];rfl) hni (zdZ I hg hm ?_ hd)
 refine⟨rfl,?_⟩;show wpAny _ _ (evalArgs (.ref C) true (backTo cpos (starEach [e0] X.env)) []) _ _ _;rw[hst];refine Calls.evalArgs_plain (Calls.spliced_cons (thn (he pins s1 σ H1 _ I h) λu s2 q152q=>Calls.spliced_nil ?_));obtain⟨v,H2,I2,r,hE⟩:=q152q;exact⟨rfl,(by decide:1<=sizeLine),I2.bk _ _ hC,hN.keeps I2.bk,T.keeps I2.bk,λh' e m=>.inr ⟨s2,pins,σ,H2,e,.ref C,_,h',rfl,rfl,I2.zbj,m,hE⟩⟩
end
noncomputable def xOf (E:XK)(ρ:PEnv)(σ:St)(Fz:FZ)(H:Hp):Addr->Prop:=λC=>∀Fz' H',Step ρ σ Fz H Fz' H'->E (.ref C) none H'
theorem zeO {E:XK}{ρ ρ':PEnv}{σ σ':St}{Fz Fz':FZ}{H H':Hp}(s:Step ρ σ Fz H Fz' H')(oi:zaq ρ σ H ρ' σ'):∀C,xOf E ρ σ Fz H C->xOf E ρ' σ' Fz' H' C:=λC h F2 H2 s2=>h F2 H2 (s.trans oi s2)
noncomputable abbrev TXS:=(Addr->Prop)->TPS
noncomputable abbrev TXE:=(Addr->Prop)->TPE
noncomputable def zoW (K:Xa)(E:XK)(t:TXS):TS:=λD σ H=>∃ρ Fz,Rel K Fz ρ σ H/\t (xOf E ρ σ Fz H) ρ (zcC K D ρ σ Fz H)
structure PuX (X:Cx)(E:XK)(st:Stmt)(t:TXS):Prop where
 mono:∀Z Z' ρ O O',(∀c,Z c->Z' c)->O.le O'->t Z ρ O->t Z' ρ O'
 run:PS X st (zoW X.K E t)
structure PuXs (X:Cx)(E:XK)(st:List Stmt)(t:TXS):Prop where
 mono:∀Z Z' ρ O O',(∀c,Z c->Z' c)->O.le O'->t Z ρ O->t Z' ρ O'
 run:PSs X st (zoW X.K E t)
noncomputable def zlt (K:Xa)(E:XK)(t:TXE):TE:=λσ H Q=>∃ρ Fz,Rel K Fz ρ σ H/\t (xOf E ρ σ Fz H) ρ λd k=>∀v Fz' H',Post K ρ σ Fz H Fz' H' d k v->Q v H'
structure PuXE (X:Cx)(E:XK)(e:Expr)(t:TXE):Prop where
 mono:∀Z Z' ρ Q Q',(∀c,Z c->Z' c)->(∀d k,Q d k->Q' d k)->t Z ρ Q->t Z' ρ Q'
 run:PE X e (zlt X.K E t)
section
variable {X:Cx}{E:XK}{st:Stmt}{rest:List Stmt}{t:TPS}{tx ux:TXS}{e:Expr}{te:TPE}{pos:Pos}
theorem zoX (h:PuS X st t):PuX X E st (λ_=>t):=⟨λ_ _ ρ O O' _ m q=>h.mono ρ O O' m q,h.run⟩
theorem zlu:PuXs X E [] (λ_=>zcP):=⟨λ_ _ ρ O O' _ m q=>m.nx _ q,zaM.run⟩
theorem zeP (h:PuX X E st tx):PuXs X E [st] tx:=⟨h.mono,zch h.run⟩
theorem zdV (h1:PuX X E st tx)(h2:PuXs X E rest ux):PuXs X E (st::rest) (λZ=>pSeq (tx Z) (ux Z)) where
 mono Z Z' ρ O O' z m h:=h1.mono Z Z' ρ { O with nx:=λρ'=>ux Z ρ' O } _ z ⟨λρ' q=>h2.mono Z Z' ρ' _ _ z m q,m.rt,m.bk,m.ct⟩ h
 run:=PSs.weak (zaS h1.run h2.run) λD σ H h=>by
  obtain⟨ρ,Fz,R,h⟩:=h;refine⟨ρ,Fz,R,h1.mono _ _ ρ { zcC X.K D ρ σ Fz H with nx:=λρ'=>ux (xOf E ρ σ Fz H) ρ' (zcC X.K D ρ σ Fz H) } _ (λ_ z=>z) ⟨λρ' q=>?_,λ_ _ q=>q,λ_ q=>q,λ_ q=>q⟩ h⟩;intro σ' Fz' H' s oi R';exact⟨ρ',Fz',R',h2.mono _ _ ρ' _ _ (zeO s oi) (zaR s oi) q⟩
theorem zqR {c:Expr}{a b:List Stmt}{tc:TPT}(hc:PuT X c tc)(ha:PuXs X E a tx)(hb:PuXs X E b ux):PuX X E (.If c a b pos) (λZ=>pIf tc (tx Z) (ux Z)) where
 mono Z Z' ρ O O' z m h:=hc.mono ρ _ _ (λd q=>by
  cases d with
  | true=>rw[if_pos rfl]at q ⊢;exact ha.mono _ _ ρ _ _ z m q
  | false=>rw[if_neg Xr]at q ⊢;exact hb.mono _ _ ρ _ _ z m q) h
 run:=PS.weak (zlT hc.run ha.run hb.run) λD σ H h=>by
  obtain⟨ρ,Fz,R,h⟩:=h;refine⟨ρ,Fz,R,hc.mono ρ _ _ (λd q Fz' H' x=>?_) h⟩;cases d with
  | true=>
   rw[if_pos rfl]at q ⊢;exact⟨ρ,Fz',R.ext x,ha.mono _ _ ρ _ _ (zeO (.of x) (zaq.refl ρ σ H)) (zaR (.of x) (zaq.refl ρ σ H)) q⟩
  | false=>
   rw[if_neg Xr]at q ⊢;exact⟨ρ,Fz',R.ext x,hb.mono _ _ ρ _ _ (zeO (.of x) (zaq.refl ρ σ H)) (zaR (.of x) (zaq.refl ρ σ H)) q⟩
theorem zqS {ee:TXE}(he:PuXE X E e ee):PuX X E (.Return (some e) pos) (λZ ρ O=>ee Z ρ λd k=>isOwn k=false/\O.rt d k) where
 mono Z Z' ρ O O' z m h:=he.mono Z Z' ρ _ _ z (λd k q=>⟨q.1,m.rt d k q.2⟩) h
 run:=PS.weak (zgd he.run) λD σ H h=>by
  obtain⟨ρ,Fz,R,h⟩:=h;refine⟨ρ,Fz,R,he.mono _ _ ρ _ _ (λ_ z=>z) (λd k q v F' H' p=>?_) h⟩;refine q.2 v F' H' (.of p.ext) p.ext.al ?_;have o:=p.opd;cases k with
  | frz=>exact o
  | own i=>cases q.1
  | new=>obtain⟨a,e,hn,nf,ow⟩:=o;exact⟨a,e,nf,ow,.inr hn⟩
end
section
variable {X:Cx}{E:XK}{tg iter c:Expr}{body:List Stmt}{ti:TPI}{g:TPG}{tb:TXS}{pos:Pos}
theorem zlv (hgm:∀d ρ Q Q',(∀ρ,Q ρ->Q' ρ)->g d ρ Q->g d ρ Q')(hbm:∀Z Z' ρ O O',(∀c,Z c->Z' c)->POut.le O O'->tb Z ρ O->tb Z' ρ O'){K:Xa}{ρ:PEnv}{σ:St}{Fz1:FZ}{H1:Hp}{D:Ends}{J:It}{its:List PV}{O:POut}{Z:Addr->Prop}(R1:Rel K Fz1 ρ σ H1)(wk:Walk K Fz1 false J its H1)(Iv:Nat->PEnv->Prop)(h0:Iv 0 ρ)
  (hstep:∀i d ρ',its[i]? = some d->Iv i ρ'->g d ρ' (Hold (tb Z) { O with nx:=Iv (i+1),ct:=Iv (i+1),bk:=O.nx })) (hO:O.le (zcC K D ρ σ Fz1 H1)) (hZ:∀c,Z c->xOf E ρ σ Fz1 H1 c) (hdone:∀ρ',Iv its.length ρ'->O.nx ρ') :
  ∃W:Nat->Nat->St->Hp->Prop,(∃m,W 0 m σ H1)/\∀i m σ H,W i m σ H->
   (J.stop i H/\D.nx σ H)\/(J.go i H/\∃N:St->Hp->Prop,(∀σ' H',N σ' H'->∃m',m'<m/\W (i+1) m' σ' H')/\∀x H',J.yld i H x H'->zeU K g x σ H' λσ2 H2=>zoW K E tb { D with nx:=N,ct:=N,bk:=D.nx } σ2 H2):=by
 refine⟨λi m σ' H'=>m=its.length-i/\i<=its.length/\∃ρ' F',Rel K F' ρ' σ' H'/\Iv i ρ'/\Step ρ σ Fz1 H1 F' H'/\zaq ρ σ H1 ρ' σ',
  ⟨its.length,by lia,XX _,ρ,Fz1,R1,h0,.of ⟨Same.refl _,λ_ h=>h,λ_ h=>.inl h,R1.al⟩,zaq.refl ρ σ H1⟩,?_⟩
 rintro i m σ' H' ⟨rfl,hle,ρ',F',R',hI,s',o'⟩;have kp:zhi Fz1 H1 H':=s'.kept R1;obtain⟨wgo,wstop⟩:=wk H' (.inr ⟨rfl,kp⟩) i;by_cases hlt:i<its.length
 ·obtain⟨go,yl⟩:=wgo its[i] (Xb hlt);refine .inr ⟨go,λσ2 H2=>∃ρ2 F2,Rel K F2 ρ2 σ2 H2/\Iv (i+1) ρ2/\Step ρ σ Fz1 H1 F2 H2/\zaq ρ σ H1 ρ2 σ2,λσ2 H2 hN=>⟨its.length-(i+1),by lia,rfl,hlt,hN⟩,λxv H2 y=>?_⟩;obtain⟨sm,dn⟩:=yl xv H2 y;have x2:Ext F' H' F' H2:=⟨sm,λ_ h=>h,λ_ h=>.inl h,λb hb z=>R'.al b hb (sm.free z)⟩;refine⟨ρ',F',its[i],R'.ext x2,Den.mono (Keep.of (Same.refl _)) s'.sub _ _ dn,hgm _ ρ' _ _ (λρ2 q σ2 R2 o2=>?_) (hstep i its[i] ρ' (Xb hlt) hI)⟩;have so:zaq ρ σ H1 ρ2 σ2:=λb hb=>o' b (o2 b hb);have st:Step ρ σ Fz1 H1 F' H2:=s'.trans o' (.of x2);refine⟨ρ2,F',R2,hbm Z _ ρ2 { O with nx:=Iv (i+1),ct:=Iv (i+1),bk:=O.nx } _ (λc z=>zeO st so c (hZ c z)) ⟨λρ3 q σ3 F3 H3 s3 o3 R3=>?_,λd k q v F3 H3 s3 al r=>?_,λρ3 q σ3 F3 H3 s3 o3 R3=>?_,λρ3 q σ3 F3 H3 s3 o3 R3=>?_⟩ q⟩
  ·exact⟨ρ3,F3,R3,q,st.trans so s3,zaq.trans st so o3⟩
  ·refine hO.rt d k q v F3 H3 (st.trans so s3) al ?_;cases k with
   | frz=>exact r
   | own j=>exact r
   | new=>
    obtain⟨a,e,nf,ow,w⟩:=r;refine⟨a,e,nf,ow,?_⟩;rcases w with w | w
    ·exact so a w
    ·exact(st.none w).symm
  ·exact hO.nx ρ3 q σ3 F3 H3 (st.trans so s3) (zaq.trans st so o3) R3
  ·exact⟨ρ3,F3,R3,q,st.trans so s3,zaq.trans st so o3⟩
 ·have e:i=its.length:=by lia
  subst e;exact .inl ⟨wstop (Xo _),hO.nx ρ' (hdone ρ' hI) σ' F' H' s' o' R'⟩
theorem zqT (hc:X.calm=true)(hp:PassesOwn (model X.prog X.w) X.A X.env X.xe)(hi:PuI X tg iter ti)(hg:PuG X tg g)(hb:PuXs X E body tb)(hs:autoParam (∀x,foldedSetIterable iter X.env x=pure x) aU2):PuX X E (.For tg iter body [] pos) (λZ=>pFor ti g (tb Z)) where
 mono Z Z' ρ O O' z m h:=hi.mono ρ _ _ (λits o q153q=>by obtain⟨e,I,h0,hs,hd⟩:=q153q;exact⟨e,I,h0,λi d ρ' hi hI=>hg.mono d ρ' _ _ (λρ2 q=>hb.mono Z Z' ρ2 { O with nx:=I (i+1),ct:=I (i+1),bk:=O.nx } _ z ⟨λ_ q=>q,m.rt,m.nx,λ_ q=>q⟩ q) (hs i d ρ' hi hI),λρ' hI=>m.nx _ (hd ρ' hI)⟩) h
 run:=PS.weak (zhS hp hc hi.run hg.run hb.run hs) λD σ H h=>by
  obtain⟨ρ,Fz,R,h⟩:=h;refine⟨ρ,Fz,R,hi.mono ρ _ _ (λits o q J Fz1 H1 x wk=>?_) h⟩;obtain⟨rfl,Iv,h0,hstep,hdone⟩:=q;exact zlv hg.mono hb.mono (R.ext x) wk Iv h0 hstep (zaR (.of x) (zaq.refl ρ σ H)) (zeO (.of x) (zaq.refl ρ σ H)) hdone
end
section
variable {X:Cx}{E:XK}
noncomputable def zlw (C:Addr)(te:TPE):TXS:=λZ ρ O=>te ρ λ_ _=>Z C
theorem ziE {x:Str}{C:Addr}{bm:List Value}{e0:Expr}{te:TPE}{np cpos pos:Pos}(he:PuE (X.wish (FlyM X E)) e0 te)(hg:Gl X x)(hm:X.mg x=some (.ref C))(hx:ExcC X.K C bm)(hh:X.calm=true)
  (hd:autoParam ((x == ("__debug__" : Str))=false) aU1) (hst:autoParam (starEach [e0] X.env=[(false,eval e0 X.env)]) aU0) :
  PuX (X.wish (FlyM X E)) E (.Raise (some (.Call (.Name x np) [e0] [] cpos)) none pos) (zlw C te) where
 mono Z Z' ρ O O' z m h:=he.mono ρ _ _ (λ_ _ q=>z _ q) h
 run:=PS.weak (zls he.run hg hm hx hh hd hst) λD σ H h=>by
  obtain⟨ρ,Fz,R,h⟩:=h;exact⟨ρ,Fz,R,he.mono ρ _ _ (λd k q v F' H' p=>q F' H' (.of p.ext)) h⟩
end
noncomputable abbrev PFX:=List PV->(PV->Kd->Prop)->(Addr->Prop)->Prop
noncomputable def zqU (F:PFX):Prop:=∀ds Q Q' Z Z',(∀d k,Q d k->Q' d k)->(∀c,Z c->Z' c)->F ds Q Z->F ds Q' Z'
noncomputable def spPX (K:Xa)(F:PFX):Sp:=λvs H Q E=>∃Fz ds,(∀b,Fz b->H b≠none)/\DenL K Fz H ds vs/\F ds (λd k=>∀v Fz' H',Post K [] [] Fz H Fz' H' d k v->Q v H') (λC=>∀H',Same H H'->E (.ref C) none H')
section
variable {P:Program}{w:World}{K:Xa}{mg:Str->Option Value}{base:Heap}
theorem FnOk.both {k:Nat}{f:Addr}{fd:FuncData}{ps:List Str}{F0:PF}{F:PFX}(G0:FnOk P w K mg base CX0 k f fd ps (spP K F0))(G:FnOk P w K mg base (CXJ P w) k f fd ps (spPX K F)) :
  FnOk P w K mg base (CXJ P w) k f fd ps (spPX K λds Q Z=>F0 ds Q\/F ds Q Z) where
 len vs H Q E h:=by
  obtain⟨Fz,ds,al,hd,h | h⟩:=h
  ·exact G0.len vs H Q E ⟨Fz,ds,al,hd,h⟩
  ·exact G.len vs H Q E ⟨Fz,ds,al,hd,h⟩
 run A outer s H args us vs Q E hr he hb hv h:=by
  obtain⟨Fz,ds,al,hd,h | h⟩:=h
  ·refine codeAny_mono (G0.run A outer s H args us vs Q E hr he hb hv ⟨Fz,ds,al,hd,h⟩) λr s' q=>?_;cases r with
   | error e=>exact False.elim q
   | ok fl=>cases fl<;>exact q
  ·exact G.run A outer s H args us vs Q E hr he hb hv ⟨Fz,ds,al,hd,h⟩
theorem PSs.zrN {X:Cx}{E:Value->Shared->Prop}{st:List Stmt}{t:TS}(h:PSs (X.wish E) st t)(m:∀e s',E e s'->X.xe e s'):PSs X st t:=λpins s σ H D I hw=>
 wpAny_mono (h pins s σ H D (I.wish _) hw) (λ_ _ q=>q.zbj) m
theorem ziF {x qual:Str}{st:Stmt}{f:Addr}{fd:FuncData}{N ps:List Str}{k:Nat}{F:PFX}(Fn:Fun K x qual st f fd)(S:zaI N ps (zac st))(len:∀ds Q Z,F ds Q Z->ds.length=ps.length)
  (hbody:∀(cdv:Value) (A:Around) (outer:List Env) (s:Shared) (H:Hp) (E:XK),Room k (A.deeper (envOfC qual (zac st) s.heap.objs.size f cdv))->
   ∃t,PuXs ((cxOf (CXJ P w) P w K mg base N qual (zac st) f cdv A outer s H E).wish (FlyM (cxOf (CXJ P w) P w K mg base N qual (zac st) f cdv A outer s H E) E)) E (zay st) t/\∀ds Q Z,F ds Q Z->t Z (zaU N ds) (zbs Q)):FnOk P w K mg base (CXJ P w) (k+1) f fd ps (spPX K F):=by
 obtain⟨oc,od,kV,doc,pm,an,cdv,ct,osl,rfl,lk,hcd⟩:=Fn.ex;refine zpK lk hcd S (λvs H Q E q154q=>by obtain⟨Fz,ds,_,hd,q⟩:=q154q;rw[<- hd.length];exact len _ _ _ q) λA outer s H vs Q E hr h=>?_;obtain⟨t,ht,hq⟩:=hbody cdv A outer s H E hr;obtain⟨Fz,ds,al,hd,h⟩:=h;obtain⟨R,no⟩:=zer (N:=N) al hd;refine⟨_,PSs.zrN ht.run (λe s' h=>FlyM.leave h),zaU N ds,Fz,R,ht.mono _ _ _ (zbs _) _ (λC q F' H' s'=>q H' λb o e=>s'.keep b o e (no _ b)) ⟨λρ' q σ' F' H' s' o' R'=>?_,λd k q v F' H' s' al' r=>?_,λ_ z=>z.elim,λ_ z=>z.elim⟩ (hq ds _ _ h)⟩
 ·exact q .non F' H' ⟨⟨λb o e=>s'.keep b o e (no _ b),s'.sub,λb hb=>(s'.new b hb).elim .inl (λz=>z.elim .inr (λz=>(no _ b z).elim)),R'.al⟩,by show Den _ _ _ _ _;simp only[Den]⟩
 ·refine q v F' H' ⟨⟨λb o e=>s'.keep b o e (no _ b),s'.sub,λb hb=>(s'.new b hb).elim .inl (λz=>z.elim .inr (λz=>(no _ b z).elim)),al'⟩,?_⟩;cases k with
  | frz=>exact r
  | own i=>exact r.elim
  | new=>
   obtain⟨a,e,nf,o,w⟩:=r;exact⟨a,e,w.resolve_left (no _ a),nf,o⟩
end
section
variable {X:Cx}{E:XK}{k:Nat}{f:Addr}{fd:FuncData}{ps:List Str}{F:PFX}{x:Str}{p pos:Pos}{e:Expr}{es:List Expr}{t:TPA}
noncomputable def ziG (F:PFX)(t:TPA):TXE:=λZ ρ Q=>t ρ λops=>noOwn ops=true/\F (ops.map (·.1)) Q Z
theorem zoY (G:FnOk X.prog X.w X.K X.mg X.base (CXJ X.prog X.w) k f fd ps (spPX X.K F))(m:zqU F)(hr:Room k X.A)(hg:Gl X x)(hm:X.mg x=some (.ref f))(hk:XO X.K (.ref f)=true)(hb:Binds X.K fd ps [])(hp:zge (CXJ X.prog X.w) X E)(ha:PuA X (e::es) t)
  (hd:autoParam ((x == ("__debug__" : Str))=false) aU1) (he:autoParam (starEach (e::es) X.env=(false,eval e X.env)::starEach es X.env) aU0) (hpl:autoParam ((backTo pos (starEach es X.env)).any (·.1)=false) aU0) :
  PuXE X E (.Call (.Name x p) (e::es) [] pos) (ziG F t) where
 mono Z Z' ρ Q Q' z mm h:=ha.mono ρ _ _ (λops h=>⟨h.1,m _ _ _ _ _ mm z h.2⟩) h
 run:=PE.weak (zec G hr hg hm hk hb .nil hp ha.run hd he hpl) λσ H Q h=>by
  obtain⟨ρ,Fz,R,h⟩:=h;refine⟨ρ,Fz,R,ha.mono ρ _ _ (λops h vs Fz' H' x o=>?_) h⟩;obtain⟨hn,h⟩:=h;show spPX X.K F (vs++[]) H' Q E;rw[Yd];obtain⟨F2,x2,s2,h2⟩:=o.frozen x hn;refine⟨F2,ops.map (·.1),x2.al,h2,m _ _ _ _ _ (λd k q v Fz3 H3 p3=>q v Fz3 H3 (p3.behind x2)) (λC q H3 sm=>q F2 H3 (.of ⟨x2.same.trans sm,x2.sub,x2.new,λb hb z=>x2.al b hb (sm.free z)⟩)) h⟩
end
section
variable {X:Cx}{E:XK}{elt tg iter:Expr}{sc:Scope}{pos:Pos}{N:List Str}{k:Nat}{js:List Nat}{ti:TPI}{g:TPG}{te:TXE}
structure zmQ (X:Cx)(E:XK)(N:List Str)(sc:Scope)(tg elt:Expr)(g:TPG)(te:TXE):Prop where
 tgt:∀C cells fp s H,PuG (cxB X N sc C cells fp s H) tg g
 val:∀C cells fp s H,PuXE ((cxB X N sc C cells fp s H).wish (XB (cxB X N sc C cells fp s H) E)) E elt te
noncomputable def znI (k:Nat)(js:List Nat)(ti:TPI)(g:TPG)(te:TXE):TXE:=λZ ρ Q=>ti ρ λits _=>its.length<=sizeLine/\∃Pv:Nat->List PV->Prop,Pv 0 []/\
 (∀i d out,its[i]? = some d->out.length<=i->Pv i out->g d (blkP k js ρ) λρ2=>te Z ρ2 λe ke=>isOwn ke=false/\Pv (i+1) (out++[e]))/\∀out,out.length<=its.length->Pv its.length out->Q (.lst out) .new
theorem zjs (nd:js.Nodup)(hloc:LocG k g)(B:zmQ X E N sc tg elt g te){ρ:PEnv}{σ:St}{H H1:Hp}{Fz1:FZ}{o:Bool}{J:It}{its:List PV}{l:Addr}{Rr:Hp->Prop}{Z:Addr->Prop}(R1:Rel X.K Fz1 ρ σ H1)(wk:Walk X.K Fz1 o J its H1)(hl:H1 l=none)(hz:its.length<=sizeLine)(hZ:∀c,Z c->xOf E ρ σ Fz1 H1 c)(Pv:Nat->List PV->Prop)(h0:Pv 0 [])
  (hstep:∀i d out,its[i]? = some d->out.length<=i->Pv i out->g d (blkP k js ρ) λρ2=>te Z ρ2 λe ke=>isOwn ke=false/\Pv (i+1) (out++[e]))
  (hdone:∀F' out xs H',Ext Fz1 H1 F' H'->H' l=some (.lst xs)->DenL X.K F' H' out xs->¬ F' l->out.length<=its.length->Pv its.length out->Rr H') :
  zfb J (zeU X.K g) (liftT X.K zbP) (zlt X.K E te) l (zcf k js σ) H1 Rr:=by
 have mg:=(B.tgt 0 [] [] X.s₀ H).mono;have me:=(B.val 0 [] [] X.s₀ H).mono;have nf1:¬ Fz1 l:=λz=>R1.al l z hl;have no1:¬ zao ρ σ l:=λ⟨i,d,h1,h2⟩=>by
  obtain⟨a,q1,_,q3⟩:=R1.own i d h1;rw[h2]at q1;cases q1;obtain⟨o',q4,_⟩:=q3.at;rw[hl]at q4;cases q4
 refine⟨λi m σ' H'=>m=its.length-i/\i<=its.length/\∃F' out xs,Rel X.K F' (blkP k js ρ) σ' H'/\(∀b,zao (blkP k js ρ) σ' b->zao ρ σ b)/\H' l=some (.lst xs)/\DenL X.K F' H' out xs/\¬ F' l/\out.length<=i/\Pv i out/\Same H1 H'/\(∀b,Fz1 b->F' b)/\(∀b,F' b->Fz1 b\/H1 b=none),
  ⟨its.length,by lia,XX _,Fz1,[],[],?_,λb hb=>zhl R1 hb,zaj,DenL.nil,nf1,XX _,h0,(Same.refl H1).upd' hl,λ_ h=>h,λ_ h=>.inl h⟩,?_⟩
 ·have x0:Ext Fz1 H1 Fz1 (upd H1 l (.lst [])):=Ext.laid ⟨Same.refl _,λ_ h=>h,λ_ h=>.inl h,R1.al⟩ hl;exact(R1.block nd).ext x0
 rintro i m σ' H' ⟨rfl,hle,F',out,xs,Rb,ob,hlx,hout,nfl,hol,hP,sm,s1,s2⟩;obtain⟨wgo,wstop⟩:=wk H' (.inl sm) i;by_cases hlt:i<its.length
 ·obtain⟨go,yl⟩:=wgo its[i] (Xb hlt);refine .inr ⟨go,λxv H2 y=>?_⟩;obtain⟨sm2,dn⟩:=yl xv H2 y;have x2:Ext F' H' F' H2:=⟨sm2,λ_ h=>h,λ_ h=>.inl h,λb hb z=>Rb.al b hb (sm2.free z)⟩;refine⟨blkP k js ρ,F',its[i],Rb.ext x2,Den.mono (Keep.of (Same.refl _)) s1 _ _ dn,mg _ _ _ _ (λρ2 ⟨q,l2,a2⟩ σ2 R2 o2=>?_) (hloc _ _ _ (hstep i its[i] out (Xb hlt) hol hP))⟩;refine⟨ρ2,F',R2,λF4 H4 x4=>?_⟩;have R4:Rel X.K F4 ρ2 σ2 H4:=R2.ext x4;have own2:∀b,zao (blkP k js ρ) σ2 b->zao ρ σ b:=λb ⟨j,d,h1,h2⟩=>by
   refine ob b (o2 b ⟨j,d,?_,h2⟩);obtain⟨i',j',e,_⟩:=zbQ h1;rw[a2 j (by lia)];exact h1
  have own3:zaq ρ σ H1 ρ2 σ2:=λb hb=>.inl (ob b (o2 b hb));have hl4:H4 l=some (.lst xs):=x4.same _ _ (sm2 _ _ hlx);have nf4:¬ F4 l:=λz=>by
   rcases x4.new l z with z | z
   ·exact nfl z
   ·rw[sm2 _ _ hlx]at z;cases z
  have x14:Ext Fz1 H1 F4 H4:=⟨sm.trans (sm2.trans x4.same),λb hb=>x4.sub b (s1 b hb),λb hb=>by
   rcases x4.new b hb with z | z
   ·exact s2 b z
   ·exact .inr (sm.free (sm2.free z)),x4.al⟩
  refine iteT ⟨ρ2,F4,R4,me Z _ ρ2 _ _ (λc z=>zeO (.of x14) own3 c (hZ c z)) (λe ke q158q v F5 H5 p5=>?_) q⟩;obtain⟨hk,q⟩:=q158q;have hk':ke=.frz\/ke=.new:=by
   cases ke with
   | frz=>exact .inl rfl
   | new=>exact .inr rfl
   | own j=>cases hk
  obtain⟨F6,x6,s6,d6⟩:=p5.frozen hk';have hl5:H5 l=some (.lst xs):=x6.same _ _ hl4;have nf6:¬ F6 l:=λz=>by
   rcases x6.new l z with z | z
   ·exact nf4 z
   ·rw[hl4]at z;cases z
  have R6:Rel X.K F6 ρ2 σ2 H5:=R4.ext x6;have Rb6:Rel X.K F6 (blkP k js ρ) σ2 H5:=Rel.zfF R6 l2 a2;have no6:¬ zao (blkP k js ρ) σ2 l:=λz=>no1 (own2 l z);have kp:Keep F6 H5 (upd H5 l (.lst (xs++[v]))):=.mk' λb w e hw=>by
   have ne:b≠l:=λz=>by
    subst z;rcases hw with hw | hw
    ·exact nf6 hw
    ·rw[hl5]at e;cases e;exact hw
   rw[zah ne];exact e
  have hxl:=hout.length;refine⟨xs,hl5,by lia,its.length-(i+1),by lia,rfl,hlt,F6,out++[e],xs++[v],Rb6.other hl5 (λz=>z) nf6 no6,own2,zaj,?_,nf6,by rw[XH];simp;lia,q,?_,λb hb=>x6.sub b (x4.sub b (s1 b hb)),λb hb=>?_⟩
  ·exact DenL.mono kp (λ_ h=>h) _ _ (DenL.snoc (DenL.mono (.of (sm2.trans (x4.same.trans x6.same))) (λb hb=>x6.sub b (x4.sub b hb)) _ _ hout) d6)
  ·exact(sm.trans (sm2.trans (x4.same.trans x6.same))).upd' hl
  ·rcases x6.new b hb with z | z
   ·rcases x4.new b z with z | z
    ·exact s2 b z
    ·exact .inr (sm.free (sm2.free z))
   ·exact .inr (sm.free (sm2.free (x4.same.free z)))
 ·have e:i=its.length:=by lia
  subst e;exact .inl ⟨wstop (Xo _),hdone F' out xs H' ⟨sm,s1,s2,Rb.al⟩ hlx hout nfl hol hP⟩
theorem zmQ.blk (B:zmQ X E N sc tg elt g te):BlkX X N sc tg [] elt (zeU X.K g) (liftT X.K zbP) (zlt X.K E te) E:=
 ⟨λC cells fp s H=>(B.tgt C cells fp s H).run,λC cells fp s H=>zcQ.run,λC cells fp s H=>(B.val C cells fp s H).run⟩
theorem zmR {L:Addr}(hc:X.calm=true)(hex:X.ex=[])(hst:X.stack=X.env::X.outer)(hfm:X.env.frame=some L)(hxe:∀pins σ e s',FlyI X pins σ E e s'->X.xe e s')(S:zbC X N k js sc)(nd:js.Nodup)(hloc:LocG k g)(hi:PuI X tg iter ti)(B:zmQ X E N sc tg elt g te)(hs:autoParam (∀x,foldedSetIterable iter X.env x=pure x) aU2) :
  PuXE X E (.ListComp elt [⟨tg,iter,[],0⟩] sc pos) (znI k js ti g te) where
 mono Z Z' ρ Q Q' z m h:=hi.mono ρ _ _ (λits o q159q=>by obtain⟨hz,Pv,h0,hs,hd⟩:=q159q;exact⟨hz,Pv,h0,λi d out h1 h2 h3=>(B.tgt 0 [] [] X.s₀ λ_=>none).mono _ _ _ _ (λρ2 q=>(B.val 0 [] [] X.s₀ λ_=>none).mono Z Z' ρ2 _ _ z (λ_ _ q=>q) q) (hs i d out h1 h2 h3),λout hl hp=>m _ _ (hd out hl hp)⟩) h
 run:=PE.weak (zmO hc hex hst hfm hxe S hi.run B.blk hs) λσ H Q h=>by
  obtain⟨ρ,Fz,R,h⟩:=h;refine⟨ρ,Fz,R,hi.mono ρ _ _ (λits o q J Fz1 H1 x wk l hl=>?_) h⟩;obtain⟨hz,Pv,h0,hstep,hdone⟩:=q;refine zjs (H:=H) nd hloc B (R.ext x) wk hl hz (zeO (.of x) (zaq.refl ρ σ H)) Pv h0 hstep λF' out xs H' x' hlx hout nfl hol hP=>?_;exact hdone out hol hP _ F' H' ⟨x.trans x',l,rfl,x.same.free hl,nfl,xs,hlx,hout⟩
end
theorem FlyI.zbj {X:Cx}{F:Value->Shared->Prop}{pins:List (Addr×Obj)}{σ:St}{E:XK}{e:Value}{s':Shared}(h:FlyI (X.wish F) pins σ E e s'):FlyI X pins σ E e s':=by
 obtain⟨a,T,cls,fl,H',rfl,I,ex,hp,hE⟩:=h;exact⟨a,T,cls,fl,H',rfl,I.zbj,ex,hp,hE⟩
section
variable {X:Cx}{e:Expr}{es:List Expr}{te:TPE}{pos:Pos}
noncomputable def zoZ (te:TPE):TPE:=λρ Q=>te ρ λd _=>∃y,d=.str y/\y.length<=sizeLine/\Q (.str y) .frz
noncomputable def zlx (te:TPE):TPE:=λρ Q=>te ρ λd _=>∃i:Nat,d=.int i/\i<10/\∀y:Str,y.length=1->Q (.str y) .frz
theorem zly (he:PuE X e te):PuE X (.FormattedValue e (-1) none pos) (zoZ te) where
 mono ρ Q Q' m h:=he.mono ρ _ _ (λd k q160q=>by obtain⟨y,e,z,q⟩:=q160q;exact⟨y,e,z,m _ _ q⟩) h
 run:=PE.weak (zoR he.run) λσ H Q h=>by
  obtain⟨ρ,Fz,R,h⟩:=h;refine⟨ρ,Fz,R,he.mono ρ _ _ (λd k q v F' H' p=>?_) h⟩;obtain⟨y,rfl,hz,q⟩:=q;refine⟨y,?_,hz,q _ F' H' ⟨p.ext,by show Den _ _ _ _ _;simp only[Den]⟩⟩;exact zat (p.root R)
theorem zpa (he:PuE X e te):PuE X (.FormattedValue e (-1) none pos) (zlx te) where
 mono ρ Q Q' m h:=he.mono ρ _ _ (λd k q161q=>by obtain⟨y,e,z,q⟩:=q161q;exact⟨y,e,z,λt ht=>m _ _ (q t ht)⟩) h
 run:=PE.weak (zoT he.run) λσ H Q h=>by
  obtain⟨ρ,Fz,R,h⟩:=h;refine⟨ρ,Fz,R,he.mono ρ _ _ (λd k q v F' H' p=>?_) h⟩;obtain⟨i,rfl,hz,q⟩:=q;refine⟨i,?_,hz,λy hy=>q y hy _ F' H' ⟨p.ext,by show Den _ _ _ _ _;simp only[Den]⟩⟩;exact zaG (p.root R)
noncomputable abbrev TPJ:=Str->PEnv->(Str->Prop)->Prop
structure PuJ (X:Cx)(es:List Expr)(t:TPJ):Prop where
 mono:∀acc ρ Q Q',(∀y,Q y->Q' y)->t acc ρ Q->t acc ρ Q'
 run:∃ts,Paired (PE X) es ts/\∀acc ρ Fz σ H Q,Rel X.K Fz ρ σ H->t acc ρ (λout=>∀Fz' H',Ext Fz H Fz' H'->Q out H')->tJ ts acc σ H Q
noncomputable def jNil:TPJ:=λacc _ Q=>Q acc
noncomputable def zpb (te:TPE)(t:TPJ):TPJ:=λacc ρ Q=>te ρ λd _=>∃y,d=.str y/\(acc++y).length<=sizeLine/\t (acc++y) ρ Q
theorem zlz:PuJ X [] jNil:=⟨λ_ _ _ _ m h=>m _ h,[],.nil,λacc ρ Fz σ H Q R h=>h Fz H ⟨Same.refl H,λ_ h=>h,λ_ h=>.inl h,R.al⟩⟩
theorem zbS {t:TPJ}(he:PuE X e te)(hs:PuJ X es t):PuJ X (e::es) (zpb te t) where
 mono acc ρ Q Q' m h:=he.mono ρ _ _ (λd k q162q=>by obtain⟨y,e,z,q⟩:=q162q;exact⟨y,e,z,hs.mono _ _ _ _ m q⟩) h
 run:=by
  obtain⟨ts,h1,h2⟩:=hs.run;refine⟨_::ts,.cons he.run h1,λacc ρ Fz σ H Q R h=>⟨ρ,Fz,R,he.mono ρ _ _ (λd k q v F' H' p=>?_) h⟩⟩;obtain⟨y,rfl,hz,q⟩:=q;refine⟨y,zat (p.root R),hz,h2 _ ρ F' σ H' Q (R.ext p.ext) (hs.mono _ _ _ _ (λout q F2 H2 x2=>q F2 H2 (p.ext.trans x2)) q)⟩
noncomputable def zhB (t:TPJ):TPE:=λρ Q=>t Str.empty ρ λout=>Q (.str out) .frz
theorem zgK {e1 e2:Expr}{t:TPJ}(h:PuJ X (e1::e2::es) t):PuE X (.JoinedStr (e1::e2::es) pos) (zhB t) where
 mono ρ Q Q' m q:=h.mono _ _ _ _ (λy q=>m _ _ q) q
 run:=by
  obtain⟨ts,h1,h2⟩:=h.run;cases h1 with
  | cons p1 r1=>
   cases r1 with
   | cons p2 r2=>
    refine PE.weak (zlm p1 p2 r2) λσ H Q q=>?_;obtain⟨ρ,Fz,R,q⟩:=q;exact h2 _ ρ Fz σ H _ R (h.mono _ _ _ _ (λout q F' H' x=>q _ F' H' ⟨x,by show Den _ _ _ _ _;simp only[Den]⟩) q)
end
end PL
namespace Q02
open PySem PySem.Spec L2 PL
open PyProof.Rows hiding St
open K01 (mix zar)
noncomputable def top (i:Nat):Stmt:=PySem.Challenge.pw_joinwood_k02_rows.main.body.getD i (.Pass ⟨0,0,0,0⟩)
noncomputable abbrev zaN:Stmt:=top 8
noncomputable abbrev zaO:Stmt:=top 9
noncomputable abbrev zdd:Stmt:=top 11
noncomputable abbrev sMix:Stmt:=top 12
noncomputable abbrev zcx:Stmt:=top 13
noncomputable abbrev zbn:Stmt:=top 14
noncomputable abbrev zbD:Stmt:=top 15
noncomputable abbrev zaY:Stmt:=top 16
noncomputable abbrev sDue:Stmt:=top 17
noncomputable abbrev zdA:Stmt:=top 18
noncomputable abbrev zcy:Stmt:=top 19
noncomputable abbrev zbE:Stmt:=top 20
noncomputable abbrev sLaw:Stmt:=top 21
noncomputable def fMix:PF:=λds Q=>∃c j:Int,ds=[.int c,.int j]/\0<=j/\j<=1000/\Q (.int (mix c j)) .frz
noncomputable def zgL:PF:=λds Q=>∃c:Int,ds=[.int c]/\Q (.bl true) .frz
open Lean in
def puM:MacroM (TSyntax `tactic):=do
 let es<-("pNeg zdW pFrz zcu zkN zbX zav zlw zhB jNil zpb zoZ zlx znI ziG zgL znL pSub".splitOn " ").filterM λn=>return !(<-Macro.resolveGlobalName n.toName).isEmpty;let ls<-("pSeq zdI zbW bxIf zdJ zdK zbK zbY zbZ zca zcb zcc zdr zdL zaT zby pEqD pSlT zcd zbz rdE rdT BX.pv pIdx fSum zbl pSet pRet pIf zcP zbx mApp zbI zdE zbV zdF t2 i0 i2 pVar pC zaZ pNil pTup pLst noOwn isOwn tBl blP zcA tOrP zdC tTru zbP TruP zdD zcO pEq pIn pIx ixV pCat PL.tB fLen LenP zbJ fIsi zbg zdH pSlL zcT zcU zcE zbi iLst zdG pDG pDI pSlS pFor PL.plain zaU zbs blkP List.map_cons List.map_nil List.length_cons List.length_nil List.cons_append List.nil_append List.replicate List.getElem?_cons_zero List.getElem?_cons_succ List.getElem?_nil Option.getD_some Option.getD_none List.set_cons_zero List.set_cons_succ List.cons.injEq Option.some.injEq Prod.mk.injEq PV.int.injEq PV.bl.injEq PV.str.injEq PV.lst.injEq PV.tup.injEq PV.ty.injEq PV.dK.injEq exists_eq_left' exists_eq_left exists_eq' exists_eq exists_and_left exists_and_right exists_eq_right true_and and_true reduceCtorEq false_and and_false false_or or_false exists_false exists_const Bool.false_eq_true if_true if_false and_assoc ite_true ite_false Bool.not_eq_true' decide_eq_true_eq decide_eq_false_iff_not Bool.not_false Bool.not_true true_or or_true not_true_eq_false not_false_eq_true Bool.and_eq_true Nat.zero_add Nat.sub_self Nat.reduceAdd Nat.reduceSub implies_true ne_eq zbv zaC Bool.true_and Bool.and_true List.all_nil fMix".splitOn " "++es).toArray.mapM λn=>`(Lean.Parser.Tactic.simpLemma|$(mkIdent n.toName):term)
 `(tactic|first|(dsimp only[$ls,*];try simp only[$ls,*])|simp only[$ls,*])
local macro_rules | `(tactic| walk_at "pu")=>puM
local macro_rules | `(tactic| walk_at "go")=>`(tactic| ((first | (with_reducible refine hold ?_) | (with_reducible refine holdT ?_) | (with_reducible refine zew ?_));walk_at "pu"))
local macro_rules | `(tactic| walk_at "side")=>`(tactic| first | assumption | decide | lia | exact⟨by decide,by decide⟩ | exact⟨by decide,by decide,by decide⟩ | exact Or.inl ⟨by lia,by lia⟩ | exact Or.inr ⟨by lia,by lia⟩)
local macro_rules | `(tactic| walk_at "auto")=>`(tactic| repeat (first | ((with_reducible refine hold ?_);walk_at "pu") | ((with_reducible refine holdT ?_);walk_at "pu") | ((with_reducible refine And.intro ?_ ?_);(· walk_at "side"))))
theorem zap:zct fMix:=λds Q Q' m q163q=>by obtain⟨c,j,e,h1,h2,q⟩:=q163q;exact⟨c,j,e,h1,h2,m _ _ q⟩
theorem zjt:zct zgL:=λds Q Q' m q164q=>by obtain⟨c,e,q⟩:=q164q;exact⟨c,e,m _ _ q⟩
section
variable {P:Program}{w:World}{K:Xa}{mg:Str->Option Value}{base:Heap}
theorem zqV:zaI ["_law_cell","_law_j","_law_number"] ["_law_cell","_law_j"] (zac sMix):=⟨rfl,rfl,rfl,by decide +kernel,rfl,by decide +kernel,by decide +kernel⟩
theorem zlA {f:Addr}{fd:FuncData}(F:Fun K "_law_mix" "_law_mix" sMix f fd):FnOk P w K mg base CX0 1 f fd ["_law_cell","_law_j"] (spP K fMix):=by
 refine zbt F zqV (λds Q q165q=>by obtain⟨c,j,e,_⟩:=q165q;rw[e];rfl) (λcdv A outer s H E hr=>?_);have hu:(A.deeper (envOfC "_law_mix" (zac sMix) s.heap.objs.size f cdv)).units+16<cLine:=by have q:=hr.units;lia
 have nd:=zqV.nd;refine⟨_,(zaf (zbw (PuW.t (zem (zes hu (zau (zaa 0) zae) zae) (zcN (zcw hu (znk (zaa 0) zae) zae)))) (zai (zaD (zau (znk (zaa 0) (zaW zae (zdz zae (zaa 1)))) zae))) zaM)
   (zaf (zan (i:=2) nd rfl (Or.inl rfl) (zau (zaW (zdz (zaa 0) (zaW (zdz zae (zaa 1)) zae)) (zaa 1)) zae))
   (zaf (zan (i:=2) nd rfl (Or.inl rfl) (zau (zdz (zaW (zdz (zaa 2) (zaa 2)) zae) zae) zae))
   (zai (zaD (zau (zdz (zaa 2) (zaa 2)) zae)))))),λds Q h=>?_⟩
 obtain⟨c,j,rfl,h0,h1,q⟩:=h;have n1:=Yt (c*(2*j+3)+j) (show(2147483629:Int)≠0 by decide);have n2:=YK (c*(2*j+3)+j) (show(0:Int)<2147483629 by decide);have b2:∀z:Int,CMul (z % 2147483629) (z % 2147483629):=λz=>.inl ⟨by lia,by lia⟩;have els:¬ (c % 2=1/\c / 2 ^ 27≠0)->Q (.int ((((c*(2*j+3)+j) % 2147483629*((c*(2*j+3)+j) % 2147483629)+1)*48271 % 2147483629)*(((c*(2*j+3)+j) % 2147483629*((c*(2*j+3)+j) % 2147483629)+1)*48271 % 2147483629) % 2147483587)) .frz:=λhn=>by
  unfold mix at q;rw[if_neg hn]at q;exact q
 walk_at "pu";refine⟨by decide,ite2 (λe1=>⟨by decide,ite2 (λe2=>?a) (λe2=>?b)⟩) (λe1=>?c)⟩
 case a=>
  walk_at "auto";unfold mix at q;rw[if_pos ⟨e1,e2⟩]at q;exact q
 case b=>
  walk_at "auto";exact els λz=>e2 z.2
 case c=>
  walk_at "auto";exact els λz=>e1 z.1
theorem zlB:zaI ["_law_found"] ["_law_found"] (zac zdd):=⟨rfl,rfl,rfl,by decide +kernel,rfl,by decide +kernel,by decide +kernel⟩
theorem zmS {f:Addr}{fd:FuncData}(F:Fun K "_law_whole" "_law_whole" zdd f fd) (B:Bl mg):FnOk P w K mg base CX0 1 f fd ["_law_found"] (spP K zgL):=by
 refine zbt F zlB (λds Q q166q=>by obtain⟨a,e,_⟩:=q166q;rw[e];rfl) (λcdv A outer s H E hr=>?_);have hu:(A.deeper (envOfC "_law_whole" (zac zdd) s.heap.objs.size f cdv)).units+16<cLine:=by have q:=hr.units;lia
 have nd:=zlB.nd;refine⟨_,(zai (zaD (zko (zfg (K:=K) rfl rfl B.isi (zab (zaa 0) (zab (zjc rfl B.int bInt) zad))) (znn (zqb (zfg (K:=K) rfl rfl B.isi (zab (zaa 0) (zab (zjc rfl B.bool zrB) zad)))))))),λds Q h=>?_⟩;obtain⟨c,rfl,q⟩:=h;walk_at "pu";refine⟨true,zcX,?_⟩;rw[if_pos rfl];exact⟨false,zgx,q⟩
noncomputable def zhC (c:Int):List Int:=[c % (10 ^ 60-1),c % (10 ^ 60-1)+1,-(c % (10 ^ 60-1)),0,-7]
noncomputable def zdW:PF:=λds Q=>∃c:Int,ds=[.int c]/\Q (.lst ((zhC c).map PV.int)) .new
theorem zgM:zct zdW:=λds Q Q' m q167q=>by obtain⟨c,e,q⟩:=q167q;exact⟨c,e,m _ _ q⟩
theorem zgN:zaI ["_law_cell","_law_far"] ["_law_cell"] (zac zbn):=⟨rfl,rfl,rfl,by decide +kernel,rfl,by decide +kernel,by decide +kernel⟩
theorem zju {f:Addr}{fd:FuncData}(F:Fun K "_law_numbers" "_law_numbers" zbn f fd) (B:Bl mg):FnOk P w K mg base CX0 2 f fd ["_law_cell"] (spP K zdW):=by
 refine zbt F zgN (λds Q q168q=>by obtain⟨a,e,_⟩:=q168q;rw[e];rfl) (λcdv A outer s H E hr=>?_);have hu:(A.deeper (envOfC "_law_numbers" (zac zbn) s.heap.objs.size f cdv)).units+16<cLine:=by have q:=hr.units;lia
 have nd:=zgN.nd;refine⟨_,(zaf (zan (i:=1) nd rfl (Or.inl rfl) (zau (zaa 0) (znj (zpZ zae zae) zae)))
   (zai (zaD (zcv (zab (zaa 1) (zab (zaW (zaa 1) zae) (zab (zns (zaa 1)) (zab zae (zab (zns zae) zad))))))))),λds Q h=>?_⟩
 obtain⟨c,rfl,q⟩:=h;walk_at "pu";refine⟨⟨by decide,by decide,by decide⟩,by decide,?_⟩;walk_at "go";exact⟨by show 5<=sizeLine;decide,q⟩
noncomputable abbrev abcS:Str:="abcdefghijklmnopqrstuvwxyz"
theorem zhD:∀n:Nat,n<26->abcS.cps.toList[n]? = some (97+n):=by decide +kernel
theorem zfT:abcS.length=26:=by decide +kernel
noncomputable def fNames:PF:=λds Q=>∃c:Int,ds=[.int c]/\∀ns:List Str,ns.length=7->(ns.take 6).Nodup->(∀n∈ns,n.length<=100)->Q (.lst (ns.map PV.str)) .new
theorem zjv:zct fNames:=λds Q Q' m q169q=>by obtain⟨c,e,q⟩:=q169q;exact⟨c,e,λns h1 h2 h3=>m _ _ (q ns h1 h2 h3)⟩
theorem zrO (ss:List Str):(Txt.join "" ss).length=(ss.map (·.length)).sum:=by
 have e:Txt.join "" ss=Str.join "" ss:=eq_of_beq (join_closes rfl);rw[e];have h:∀l:List Str,(Str.join "" l).length=(l.map (·.length)).sum:=by
  intro l;induction l with
  | nil=>rfl
  | cons x r ih=>
   cases r with
   | nil=>simp[Str.join]
   | cons y r=>
    show(x++_++Str.join _ (y::r)).length=_;rw[strLen_append,strLen_append,ih];simp;rfl
 exact h ss
theorem zfU:∀ {ss:List Str},(∀s∈ss,s.length=1)->(ss.map (·.length)).sum=ss.length
 | [],_=>rfl
 | s::r,h=>by
  rw[Xt,List.sum_cons,zfU λx hx=>h x (Xe _ hx),h s (Xi ..),Yh];lia
noncomputable def zhE (a b:Str)(i:Int)(k:Nat):Str:=a++⟨#[97+((i+4*(k:Int)) % 26).toNat]⟩++b
theorem zlC {a b:Str}{i:Int}{j k:Nat}(hj:j<6)(hk:k<6)(h:zhE a b i j=zhE a b i k):j=k:=by
 unfold zhE at h;have h1:((a.cps++#[97+((i+4*(j:Int)) % 26).toNat])++b.cps).toList=((a.cps++#[97+((i+4*(k:Int)) % 26).toNat])++b.cps).toList:=congrArg (λs=>(Str.cps s).toList) h;simp only[Xh,Xw]at h1;have h2:=List.append_cancel_left h1;simp at h2;lia
theorem zlD (a b:Str)(i:Int)(k:Nat):(zhE a b i k).length=a.length+1+b.length:=by
 unfold zhE;rw[strLen_append,strLen_append];rfl
theorem zlE:zaI ["_law_cell","_law_letters","_law_size","_law_stem","_law_at","_law_found","_law_k","_law_sign"] ["_law_cell"] (zac zcx):=⟨rfl,rfl,rfl,by decide +kernel,rfl,by decide +kernel,by decide +kernel⟩
theorem zmT {f fM:Addr}{fd fdM:FuncData}(F:Fun K "_law_names" "_law_names" zcx f fd) (Mix:Fx K mg "_law_mix" sMix ["_law_cell","_law_j"] fM fdM) (B:Bl mg):FnOk P w K mg base CX0 2 f fd ["_law_cell"] (spP K fNames):=by
 have GMix:FnOk P w K mg base CX0 1 fM fdM ["_law_cell","_law_j"] (spP K fMix):=zlA Mix.fn;refine zbt F zlE (λds Q q170q=>by obtain⟨a,e,_⟩:=q170q;rw[e];rfl) (λcdv A outer s H E hr=>?_);have hu:(A.deeper (envOfC "_law_names" (zac zcx) s.heap.objs.size f cdv)).units+16<cLine:=by have q:=hr.units;lia
 have nd:=zlE.nd;refine⟨_,(zaf (zan (i:=1) nd rfl (Or.inr rfl) zfd)
   (zaf (zan (i:=2) nd rfl (Or.inl rfl) (zaW zae (zau (zal GMix zap hr rfl Mix.mg Mix.fn.kp Mix.bd (zab (zaa 0) (zab zae zad))) zae)))
   (zaf (zan (i:=3) nd rfl (Or.inl rfl) (zos (zeq (N:=["_law_k","_law_cell","_law_letters"]) (k:=1) (js:=[0,1]) rfl (zhg (sup:=zac zcx) (XN:=["_law_cell","_law_letters","_law_size","_law_stem","_law_at","_law_found","_law_k","_law_sign"]) rfl rfl (by decide +kernel)) (by decide) (zbN (by decide)) (zbp rfl B.range (zab (zaa 2) zad)) ⟨λ_ _ _ _ _=>(zaz (i:=0) (by show(["_law_k","_law_cell","_law_letters"]:List Str).Nodup;decide +kernel) rfl (Or.inl rfl)),λ_ _ _ _ _=>zcQ,λ_ _ _ _ _=>(zaK (zaa 2) (zau (zal GMix zap hr rfl Mix.mg Mix.fn.kp Mix.bd (zab (zaa 1) (zab (zaW zae (zaa 0)) zad))) zae))⟩)))
   (zaf (zan (i:=4) nd rfl (Or.inl rfl) (zau (zal GMix zap hr rfl Mix.mg Mix.fn.kp Mix.bd (zab (zaa 0) (zab zae zad))) (zaa 2)))
   (zaf (zan (i:=5) nd rfl (Or.inl rfl) (zcv zad))
   (zaf (zcD rfl PassesOwn.never (zbp rfl B.range (zab zae zad)) (zaz (i:=6) nd rfl (Or.inl rfl)) (zaf (zan (i:=7) nd rfl (Or.inl rfl) (zaK (zaa 1) (zau (zaW (zoO (zaa 1) (zaK (zaa 3) (zaa 4))) (zdz zae (zaa 6))) zae)))
   (zai (zcR (zco 5 (zhw (zhw (zeu (zaa 3) zcV (zcW (zaa 4))) (zaa 7)) (zeu (zaa 3) (zcW (zaW (zaa 4) zae)) zcV)))))))
   (zai (zaD (zqm (zaa 5) (zcv (zab (zhw (zaa 3) (zaK (zaa 1) (zau (zal GMix zap hr rfl Mix.mg Mix.fn.kp Mix.bd (zab (zaa 0) (zab zae zad))) zae))) zad))))))))))),λds Q h=>?_⟩
 obtain⟨c,rfl,q⟩:=h;have m1:=zar c 1;have m9:=zar c 9;have m10:=zar c 10;walk_at "pu";walk_at "auto";have hl:(rngP 0 (1+mix c 1 % 7).toNat).length=(1+mix c 1 % 7).toNat:=zbm 0 _;refine⟨by rw[hl,sizeLine_eq];lia,λi out=>∃ss:List Str,out=ss.map PV.str/\ss.length=i/\∀s∈ss,s.length=1,⟨[],rfl,rfl,by simp⟩,?_,?_⟩
 ·rintro i d out hd - ⟨ss,rfl,hsl,hs1⟩;obtain⟨hi,rfl⟩:=zbO hd;have mm:=zar c (2+(0+(i:Int)));have e1:mix c (2+(0+(i:Int))) % 26=((mix c (2+(0+(i:Int))) % 26).toNat:Int):=by lia
  refine⟨_,rfl,by lia,by lia,by decide,by rw[zfT];decide,_,⟨97+(mix c (2+(0+(i:Int))) % 26).toNat,by rw[e1];exact zbb (zhD _ (by lia)),rfl⟩,ss++[⟨#[97+(mix c (2+(0+(i:Int))) % 26).toNat]⟩],by rw[XY];rfl,by rw[XH,hsl];rfl,?_⟩;intro s hs;rcases XA.mp hs with hs | hs
  ·exact hs1 s hs
  ·rw[Xs.mp hs];rfl
 ·rintro out - ⟨ss,rfl,hsl,hs1⟩;rw[hl]at hsl;have hjl:=zrO ss;rw[zfU hs1,hsl]at hjl;refine⟨ss,rfl,by rw[zfU hs1];show ss.length+ss.length*0<=_;lia,?_⟩;generalize Txt.join "" ss=stem at hjl ⊢;walk_at "go";walk_at "auto";have hsz:stem.length<=7:=by lia
  generalize hi0:mix c 9 % (1+mix c 1 % 7)=at0 at *;have ha0:0<=at0/\at0<1+mix c 1 % 7:=by
   rw[<- hi0];exact⟨Yt _ (by lia),YK _ (by lia)⟩
  have hat:∃x0,atI stem.cps.toList at0=some x0:=by
   have hn:at0.toNat<stem.cps.toList.length:=by rw[Xp];show _<stem.length;lia
   have:=zbb (Xb hn);rw[show((at0.toNat:Nat):Int)=at0 by lia]at this;exact⟨_,this⟩
  obtain⟨x0,hx0⟩:=hat;have l1:=Txt.slice_le stem none (some at0);have l2:=Txt.slice_le stem (some (at0+1)) none;generalize hfi:Txt.find abcS ⟨#[x0]⟩=fi;generalize hA:Txt.slice stem none (some at0)=A at *;generalize hB:Txt.slice stem (some (at0+1)) none=B at *;refine⟨λk ρ'=>∃v6 v7,ρ'=[some (PV.int c,false),some (PV.str abcS,false),some (PV.int (1+mix c 1 % 7),false),some (PV.str stem,false),some (PV.int at0,false),some (PV.lst ((Ya k).map λj=>.str (zhE A B fi j)),true),v6,v7],⟨none,none,rfl⟩,?_,?_⟩
  ·rintro k d ρ' hd ⟨v6,v7,rfl⟩;obtain⟨hk,rfl⟩:=zbO hd;have hk6:k<6:=hk;have e26:(fi+4*(0+(k:Int))) % 26=(((fi+4*(k:Int)) % 26).toNat:Int):=by rw[Int.zero_add];lia
   walk_at "go";refine⟨by rw[sizeLine_eq];lia,_,⟨x0,hx0,rfl⟩,_,rfl,.inl ⟨by decide,by decide⟩,by decide,by rw[zfT];decide,_,⟨97+((fi+4*(k:Int)) % 26).toNat,by rw[hfi,e26];exact zbb (zhD _ (by lia)),rfl⟩,?_⟩;walk_at "go";rw[hA,hB,strLen_append];have l0:Str.length ⟨#[97+((fi+4*(k:Int)) % 26).toNat]⟩=1:=rfl;rw[l0];refine⟨by rw[Xc,YO,sizeLine_eq];lia,by rw[sizeLine_eq];lia,by rw[sizeLine_eq];lia,by rw[sizeLine_eq];lia,by rw[sizeLine_eq];lia,?_⟩;rw[List.range_succ,XY];rfl
  ·rintro ρ' ⟨v6,v7,rfl⟩;have e26:mix c 10 % 26=((mix c 10 % 26).toNat:Int):=by lia
   have h6:(rngP 0 (Int.toNat 6)).length=6:=zbm 0 _;walk_at "go";rw[h6];refine⟨by decide,by decide,by decide,by rw[zfT];decide,_,⟨_,by rw[e26];exact zbb (zhD _ (by lia)),rfl⟩,_,rfl,by show stem.length+1<=_;rw[sizeLine_eq];lia,by decide,by rw[sizeLine_eq];simp,?_⟩;have:=q ((Ya 6).map (zhE A B fi)++[stem++⟨#[97+(mix c 10 % 26).toNat]⟩]) (by simp) ?_ ?_
   ·rw[XY,List.map_map]at this;exact this
   ·rw[List.take_left' (by simp)];rw[List.Nodup,YQ];exact(List.nodup_range (n:=6)).imp_of_mem λ{a b} ha hb hab e=>hab (zlC (Ye.mp ha) (Ye.mp hb) e)
   ·intro n hn;rcases XA.mp hn with hn | hn
    ·obtain⟨j,_,rfl⟩:=XL.mp hn;rw[zlD];lia
    ·rw[Xs.mp hn,strLen_append];show stem.length+1<=100;lia
end
noncomputable def ixS (ls:List Str)(w:Str):Nat:=idxP (ls.map PV.str) (.str w)
theorem znJ {ls:List Str}{w:Str}(h:w∈ls):ixS ls w<ls.length:=by
 have:idxP (ls.map PV.str) (.str w)<(ls.map PV.str).length:=List.findIdx_lt_length_of_exists ⟨.str w,XL.mpr ⟨w,h,rfl⟩,by simp⟩;simpa[ixS]using this
theorem zgO (ls:List Str):(ls.map PV.str).all zez=true:=by simp[zez]
noncomputable def rowP (r:List Int):PV:=.tup (r.map PV.int)
noncomputable def tblP (t:List (List Int)):PV:=.lst (t.map rowP)
noncomputable def zag (t:Int):Nat:=(1+mix t 11 % 6).toNat
theorem zbA (t:Int):1<=zag t/\zag t<=6:=by unfold zag;have:=zar t 11;lia
noncomputable def keyI (ns:List Str)(t:Int)(k:Nat):Str:=ns.getD (((k:Int)+3*t) % 6).toNat ⟨#[]⟩
noncomputable def zaH (ns:List Str)(t:Int):List Str:=(Ya (zag t)).map (keyI ns t)
structure NsOk (ns:List Str):Prop where
 len:ns.length=7
 nd:(ns.take 6).Nodup
 sm:∀n∈ns,n.length<=100
theorem zdu {ns:List Str}(ok:NsOk ns)(t:Int)(k:Nat):ns[(((k:Int)+3*t) % 6).toNat]? = some (keyI ns t k):=by
 have h:(((k:Int)+3*t) % 6).toNat<ns.length:=by rw[ok.len];lia
 unfold keyI;rw[XW,Xb h];rfl
theorem ziH {ns:List Str}(ok:NsOk ns){t:Int}{j k:Nat}(hj:j<6)(hk:k<6)(h:keyI ns t j=keyI ns t k):j=k:=by
 have h1:=zdu ok t j;have h2:=zdu ok t k;have n1:(((j:Int)+3*t) % 6).toNat<6:=by lia
 have n2:(((k:Int)+3*t) % 6).toNat<6:=by lia
 have e1:(ns.take 6)[(((j:Int)+3*t) % 6).toNat]? = some (keyI ns t j):=by rw[List.getElem?_take_of_lt n1];exact h1
 have e2:(ns.take 6)[(((k:Int)+3*t) % 6).toNat]? = some (keyI ns t k):=by rw[List.getElem?_take_of_lt n2];exact h2
 have n3:(((j:Int)+3*t) % 6).toNat<(ns.take 6).length:=by rw[XC,ok.len];lia
 have:=(List.getElem?_inj n3 ok.nd).mp (e1.trans ((congrArg some h).trans e2.symm));lia
theorem ziI {ns:List Str}(ok:NsOk ns)(t:Int):(zaH ns t).Nodup:=by
 unfold zaH;have:=zbA t;rw[List.Nodup,YQ];exact(List.nodup_range (n:=zag t)).imp_of_mem λ{a b} ha hb hab e=>hab (ziH ok (by have:=Ye.mp ha;lia) (by have:=Ye.mp hb;lia) e)
theorem zeQ (ns:List Str)(t:Int):(zaH ns t).length=zag t:=by unfold zaH;rw[Xc,YO]
theorem zfV {ns:List Str}{t:Int}{k:Nat}(h:k<zag t):(zaH ns t)[k]? = some (keyI ns t k):=by
 unfold zaH;rw[Xk,List.getElem?_range h];rfl
noncomputable def zce (ns:List Str)(t:Int)(x:Str):Nat:=(1+mix t (20+(ixS ns x:Int)) % 4).toNat
theorem zde (ns:List Str)(t:Int)(x:Str):1<=zce ns t x/\zce ns t x<=4:=by unfold zce;have:=zar t (20+(ixS ns x:Int));lia
noncomputable def rowI (t c:Int)(w:Nat):List Int:=(Ya w).map λ(k:Nat)=>(zhC t).getD (mix c (13+(k:Int)) % 5).toNat 0
theorem zmU (t c:Int)(w:Nat):(rowI t c w).length=w:=by unfold rowI;rw[Xc,YO]
noncomputable def cutI (c:Int)(n:Nat):Nat:=(mix c 12 % (n:Int)).toNat
theorem zeR {c:Int}{n:Nat}(h:0<n):cutI c n<n:=by
 unfold cutI;have:=YK (mix c 12) (show(0:Int)<n by lia);have:=Yt (mix c 12) (show(n:Int)≠0 by lia);lia
noncomputable def stepT (ns:List Str)(t:Int)(tabs:List (List (List Int)))(c:Int):List (List (List Int)):=
 let n:=cutI c (zag t);let tb:=tabs.getD n []
 tabs.set n (tb++[if tb≠[]/\mix c 18 % 4=1 then tb.getD (mix c 19 % (tb.length:Int)).toNat [] else rowI t c (zce ns t (keyI ns t n))])
noncomputable def zcg (ns:List Str)(t:Int)(cs:List Int):List (List (List Int)):=cs.foldl (stepT ns t) (YN (zag t) [])
noncomputable def zhF (tb:List (List Int)):Prop:=∀r∈tb,1<=r.length/\r.length<=5
structure TabOk (t:Int)(m:Nat)(tabs:List (List (List Int))):Prop where
 len:tabs.length=zag t
 few:∀tb∈tabs,tb.length<=m
 row:∀tb∈tabs,zhF tb
theorem tab0 (t:Int):TabOk t 0 (YN (zag t) []):=by
 refine⟨YF ..,λtb h=>?_,λtb h=>?_⟩
 ·rw[List.eq_of_mem_replicate h];exact Xo _
 ·rw[List.eq_of_mem_replicate h];exact λr hr=>by cases hr
theorem TabOk.put {t:Int}{m:Nat}{tabs:List (List (List Int))}(T:TabOk t m tabs){n:Nat}{tb:List (List Int)}(h1:tb.length<=m+1)(h2:zhF tb):TabOk t (m+1) (tabs.set n tb):=by
 refine⟨by rw[XS];exact T.len,λx hx=>?_,λx hx=>?_⟩
 ·rcases List.mem_or_eq_of_mem_set hx with h | h
  ·have:=T.few x h;lia
  ·rw[h];exact h1
 ·rcases List.mem_or_eq_of_mem_set hx with h | h
  ·exact T.row x h
  ·rw[h];exact h2
theorem TabOk.at {t:Int}{m:Nat}{tabs:List (List (List Int))}(T:TabOk t m tabs){n:Nat}(h:n<zag t):tabs[n]? = some (tabs.getD n [])/\(tabs.getD n []).length<=m/\zhF (tabs.getD n []):=by
 have hn:n<tabs.length:=by rw[T.len];exact h
 have e:tabs.getD n []=tabs[n]:=by rw[XW,Xb hn];rfl
 rw[e];exact⟨Xb hn,T.few _ (YA hn),T.row _ (YA hn)⟩
theorem TabOk.step {ns:List Str}{t:Int}{m:Nat}{tabs:List (List (List Int))}(T:TabOk t m tabs)(c:Int):TabOk t (m+1) (stepT ns t tabs c):=by
 have hn:=zeR (c:=c) (n:=zag t) (by have:=zbA t;lia);obtain⟨a1,a2,a3⟩:=T.at hn;unfold stepT;refine T.put (by rw[XH];simp;exact a2) λr hr=>?_;rcases XA.mp hr with hr | hr
 ·exact a3 r hr
 ·rw[Xs.mp hr];split
  ·rename_i h
   have hl:0<(tabs.getD (cutI c (zag t)) []).length:=List.length_pos_iff.mpr h.1;have g1:=YK (mix c 19) (show(0:Int)<((tabs.getD (cutI c (zag t)) []).length:Int) by lia);have g2:=Yt (mix c 19) (show((tabs.getD (cutI c (zag t)) []).length:Int)≠0 by lia);have hlt:(mix c 19 % ((tabs.getD (cutI c (zag t)) []).length:Int)).toNat<(tabs.getD (cutI c (zag t)) []).length:=by lia
   rw[XW (l:=tabs.getD (cutI c (zag t)) []),Xb hlt];exact a3 _ (YA hlt)
  ·rw[zmU];have:=zde ns t (keyI ns t (cutI c (zag t)));lia
theorem zfW (ns:List Str)(t:Int)(cs:List Int):TabOk t cs.length (zcg ns t cs):=by
 have h:∀(cs:List Int) (m:Nat) (tabs:List (List (List Int))),TabOk t m tabs->TabOk t (m+cs.length) (cs.foldl (stepT ns t) tabs):=by
  intro cs;induction cs with
  | nil=>exact λm tabs h=>h
  | cons c cs ih=>
   intro m tabs h;have:=ih (m+1) _ (h.step (ns:=ns) c);rw[List.foldl_cons,Yh,show m+(cs.length+1)=m+1+cs.length by lia];exact this
 have:=h cs 0 _ (tab0 t);rw[Nat.zero_add]at this;exact this
theorem zjw (ns:List Str)(t:Int)(cs:List Int)(c:Int):zcg ns t (cs++[c])=stepT ns t (zcg ns t cs) c:=by unfold zcg;rw[List.foldl_append];rfl
theorem zmV (ns:List Str)(t:Int)(c:Int)(cs:List Int):(zcg ns t (c::cs)).getD (cutI c (zag t)) []≠[]:=by
 have hn:=zeR (c:=c) (n:=zag t) (by have:=zbA t;lia);have stay:∀(tabs:List (List (List Int))) (d:Int),tabs.length=zag t->tabs.getD (cutI c (zag t)) []≠[]->(stepT ns t tabs d).getD (cutI c (zag t)) []≠[]:=by
  intro tabs d hl h;unfold stepT;rw[XW];by_cases e:cutI d (zag t)=cutI c (zag t)
  ·rw[e,Xd (by rw[hl];exact hn)];simp
  ·rw[Xf e,<- XW];exact h
 have h:∀(cs:List Int) (tabs:List (List (List Int))) (m:Nat),TabOk t m tabs->tabs.getD (cutI c (zag t)) []≠[]->(cs.foldl (stepT ns t) tabs).getD (cutI c (zag t)) []≠[]:=by
  intro cs;induction cs with
  | nil=>exact λtabs m _ h=>h
  | cons d cs ih=>exact λtabs m T h=>ih _ (m+1) (T.step (ns:=ns) d) (stay tabs d T.len h)
 show(cs.foldl (stepT ns t) (stepT ns t (YN (zag t) []) c)).getD _ _≠_;refine h cs _ 1 ((tab0 t).step (ns:=ns) c) ?_;unfold stepT;rw[XW,Xd (by rw[YF];exact hn)];simp
noncomputable def endT (t:Int)(cs:List Int)(tabs:List (List (List Int))):List (List (List Int)):=match cs with
 | []=>tabs
 | c::_=>if mix t 30 % 4=1 then
   let n:=cutI c (zag t);let tb:=tabs.getD n [];let a:=(mix t 31 % (tb.length:Int)).toNat
   tabs.set n (tb.set a ((tb.getD a []).take 3++[7,7]))
  else tabs
noncomputable def zdv (ns:List Str)(t:Int)(cs:List Int):List (List (List Int)):=endT t cs (zcg ns t cs)
theorem zmW (ns:List Str)(t:Int)(cs:List Int):TabOk t cs.length (zdv ns t cs):=by
 have T:=zfW ns t cs;unfold zdv endT;cases cs with
 | nil=>exact T
 | cons c cs=>
  dsimp only;split
  ·have hn:=zeR (c:=c) (n:=zag t) (by have:=zbA t;lia);obtain⟨a1,a2,a3⟩:=T.at hn;refine⟨by rw[XS];exact T.len,λx hx=>?_,λx hx=>?_⟩
   ·rcases List.mem_or_eq_of_mem_set hx with h | h
    ·exact T.few x h
    ·rw[h,XS];exact a2
   ·rcases List.mem_or_eq_of_mem_set hx with h | h
    ·exact T.row x h
    ·rw[h];intro r hr;rcases List.mem_or_eq_of_mem_set hr with h | h
     ·exact a3 r h
     ·rw[h,XH,XC];simp;lia
  ·exact T
noncomputable def zqW (ns:List Str)(t:Int)(cs:List Int):PV:=.dK ((zaH ns t).map Sum.inr) ((zdv ns t cs).map tblP)
noncomputable def zfX:PF:=λds Q=>∃(ns:List Str)(cs:List Int)(t:Int),ds=[.lst (ns.map PV.str),.lst (cs.map PV.int),.int t]/\NsOk ns/\cs.length<=60/\Q (zqW ns t cs) .frz
theorem zeS:zct zfX:=λds Q Q' m q171q=>by obtain⟨a,b,c,e,h1,h2,q⟩:=q171q;exact⟨a,b,c,e,h1,h2,m _ _ q⟩
theorem zpc {κ:Type} [DecidableEq κ] {k:κ}:∀ {ks:List κ}{ds:List PV}{n:Nat},ks.length=ds.length->ks.Nodup->ks[n]? = some k->dgP ks ds k=ds[n]?
 | [],ds,n,hl,nd,h=>by simp at h
 | c::ks,[],n,hl,nd,h=>by simp at hl
 | c::ks,v::ds,n,hl,nd,h=>by
  rw[Yl]at nd;cases n with
  | zero=>
   simp at h;subst h;simp[dgP]
  | succ n=>
   simp at h;have ne:¬ c=k:=λe=>nd.1 (by rw[e];exact Xl h);have:=zpc (ds:=ds) (n:=n) (by simpa using hl) nd.2 h;rw[Yx,<- this];simp[dgP,Ys,ne]
theorem zfY (xs:List PV)(k:Nat):cutP xs none (some (k:Int))=xs.take k:=by
 unfold cutP;have h1:HT.sIx xs.length 0 none=0:=rfl;rw[h1,List.drop_zero,Nat.sub_zero];by_cases h:k<=xs.length
 ·have:HT.sIx xs.length xs.length (some (k:Int))=k:=by rw[HT.zjN];lia
  rw[this]
 ·have:HT.sIx xs.length xs.length (some (k:Int))=xs.length:=by rw[HT.zjN];lia
  rw[this,YL,XR (by lia)]
theorem zbq (l:List Int):zaC (l.map PV.int)=true:=by
 induction l with
 | nil=>rfl
 | cons x r ih=>rw[Xt];simp only[zaC,zbl,Bool.true_and];exact ih
theorem zdf (n:Nat)(l:List (List Int)):PL.plain (n+3) (tblP l)=true:=by
 show(l.map rowP).all (PL.plain (n+2))=true;rw[YJ,XM];intro r _;show PL.plain (n+2) (PV.tup (r.map PV.int))=true;simp[PL.plain]
theorem zjx (l:List Str):zaC (l.map PV.str)=true:=by
 induction l with
 | nil=>rfl
 | cons x r ih=>rw[Xt];simp only[zaC,zbl,Bool.true_and];exact ih
section
variable {P:Program}{w:World}{K:Xa}{mg:Str->Option Value}{base:Heap}
theorem ziJ:zaI ["_law_names_here","_law_cells","_law_total","_law_numbers_here","_law_many","_law_tables_here","_law_k","_law_known","_law_cell","_law_name","_law_width","_law_row","_law_at"] ["_law_names_here","_law_cells","_law_total"] (zac zbD):=⟨rfl,rfl,rfl,by decide +kernel,rfl,by decide +kernel,by decide +kernel⟩
theorem zlF {f fM fN:Addr}{fd fdM fdN:FuncData}(F:Fun K "_law_tables" "_law_tables" zbD f fd) (Mix:Fx K mg "_law_mix" sMix ["_law_cell","_law_j"] fM fdM) (Numbers:Fx K mg "_law_numbers" zbn ["_law_cell"] fN fdN) (B:Bl mg):FnOk P w K mg base CX0 3 f fd ["_law_names_here","_law_cells","_law_total"] (spP K zfX):=by
 have GMix:FnOk P w K mg base CX0 2 fM fdM ["_law_cell","_law_j"] (spP K fMix):=(zlA Mix.fn).mono (by decide);have GNumbers:FnOk P w K mg base CX0 2 fN fdN ["_law_cell"] (spP K zdW):=zju Numbers.fn B;refine zbt F ziJ (λds Q q172q=>by obtain⟨a,b,c,e,_⟩:=q172q;rw[e];rfl) (λcdv A outer s H E hr=>?_);have hu:(A.deeper (envOfC "_law_tables" (zac zbD) s.heap.objs.size f cdv)).units+16<cLine:=by have q:=hr.units;lia
 have nd:=ziJ.nd;refine⟨_,(zaf (zan (i:=3) nd rfl (Or.inr rfl) (zal GNumbers zgM hr rfl Numbers.mg Numbers.fn.kp Numbers.bd (zab (zaa 2) zad)))
   (zaf (zan (i:=4) nd rfl (Or.inl rfl) (zaW zae (zau (zal GMix zap hr rfl Mix.mg Mix.fn.kp Mix.bd (zab (zaa 2) (zab zae zad))) zae)))
   (zlh (z:=5) nd rfl (Or.inl rfl) (zbf (zkG (i:=6) nd rfl (Or.inl rfl) rfl PassesOwn.never (zbp rfl B.range (zab (zaa 4) zad)) (zfI (zmI (hu1 hu) (zaK (zaa 0) (zau (zaW (zaa 6) (zdz zae (zaa 2))) zae)))))
   (zbf (zmL (i:=7) nd rfl (Or.inl rfl) (zdT rfl rfl B.list (zaa 5)))
   (zbf (zkG (i:=8) nd rfl (Or.inr rfl) rfl PassesOwn.never (zbe (zaa 1)) (zbf (zdo (i:=9) nd rfl (Or.inl rfl) (zaK (zaa 7) (zau (zal GMix zap hr rfl Mix.mg Mix.fn.kp Mix.bd (zab (zaa 8) (zab zae zad))) (zaa 4))))
   (zbf (zdo (i:=10) nd rfl (Or.inl rfl) (zaW zae (zau (zal GMix zap hr rfl Mix.mg Mix.fn.kp Mix.bd (zab (zaa 2) (zab (zaW zae (zim (zaa 0) (zaa 9))) zad))) zae)))
   (zbf (zdo (i:=11) nd rfl (Or.inl rfl) (zmt rfl B.tuple (zab (zeq (N:=["_law_k","_law_numbers_here","_law_cell"]) (k:=1) (js:=[3,8]) rfl (zhg (sup:=zac zbD) (XN:=["_law_names_here","_law_cells","_law_total","_law_numbers_here","_law_many","_law_tables_here","_law_k","_law_known","_law_cell","_law_name","_law_width","_law_row","_law_at"]) rfl rfl (by decide +kernel)) (by decide) (zbN (by decide)) (zbp rfl B.range (zab (zaa 10) zad)) ⟨λ_ _ _ _ _=>(zaz (i:=0) (by show(["_law_k","_law_numbers_here","_law_cell"]:List Str).Nodup;decide +kernel) rfl (Or.inl rfl)),λ_ _ _ _ _=>zcQ,λ_ _ _ _ _=>(zaK (zaa 1) (zau (zal GMix zap hr rfl Mix.mg Mix.fn.kp Mix.bd (zab (zaa 2) (zab (zaW zae (zaa 0)) zad))) zae))⟩) zad)))
   (zbf (znq (PuW.t (zem (zcw hu (zbR (hu1 hu) (zaa 5) (zaa 9)) (zcv zad)) (zcN (zes hu (zau (zal GMix zap hr rfl Mix.mg Mix.fn.kp Mix.bd (zab (zaa 8) (zab zae zad))) zae) zae)))) (zfI (zdo (i:=11) nd rfl (Or.inl rfl) (zaK (zbR (hu1 hu) (zaa 5) (zaa 9)) (zau (zal GMix zap hr rfl Mix.mg Mix.fn.kp Mix.bd (zab (zaa 8) (zab zae zad))) (zcS rfl B.len (zab (zbR (hu1 hu) (zaa 5) (zaa 9)) zad)))))) zkF)
   (zfI (zmJ (hu1 hu) (zaa 9) (zaa 11))))))))
   (zbf (znq (PuW.t (zem (zcw hu (zaa 1) (zcv zad)) (zcN (zes hu (zau (zal GMix zap hr rfl Mix.mg Mix.fn.kp Mix.bd (zab (zaa 2) (zab zae zad))) zae) zae)))) (zbf (zdo (i:=9) nd rfl (Or.inl rfl) (zaK (zaa 7) (zau (zal GMix zap hr rfl Mix.mg Mix.fn.kp Mix.bd (zab (zaK (zaa 1) zae) (zab zae zad))) (zaa 4))))
   (zbf (zdo (i:=12) nd rfl (Or.inl rfl) (zau (zal GMix zap hr rfl Mix.mg Mix.fn.kp Mix.bd (zab (zaa 2) (zab zae zad))) (zcS rfl B.len (zab (zbR (hu1 hu) (zaa 5) (zaa 9)) zad))))
   (zfI (zmK (hu1 hu) (zaa 9) (zaa 12) (zoB (zlk (zaK (zbR (hu1 hu) (zaa 5) (zaa 9)) (zaa 12)) zcV (zcW zae)) (zno (zab zae (zab zae zad)))))))) zkF)
   (zmv (zai (zaD (zaa 5))))))))))),λds Q h=>?_⟩
 obtain⟨ns,cs,t,rfl,ok,h60,q⟩:=h;have hsz:=sizeLine_eq;have m11:=zar t 11;have em:(1+mix t 11 % 6).toNat=zag t:=rfl;have hml:=zbA t;walk_at "pu";walk_at "auto";walk_at "go";obtain⟨Iv,hIv⟩:∃Iv:Nat->PEnv->BX->Prop,∀i ρ β,Iv i ρ β↔∃k6,ρ=[some (PV.lst (XV PV.str ns),false),some (PV.lst (XV PV.int cs),false),some (PV.int t,false),some (PV.lst (XV PV.int (zhC t)),true),some (PV.int (1+mix t 11 % 6),false),none,k6,none,none,none,none,none,none]/\
   β=.K (((Ya i).map (keyI ns t)).map Sum.inr) (YN i (.lst [])):=⟨_,λ_ _ _=>Iff.rfl⟩
 refine⟨by lia,by lia,Iv,(hIv _ _ _).mpr ⟨none,rfl,rfl⟩,?_,?_⟩
 ·intro k d ρ β hd hI;obtain⟨k6,rfl,rfl⟩:=(hIv _ _ _).mp hI;obtain⟨hk,rfl⟩:=zbO hd;have hk6:k<zag t:=hk;have e6:(0+(k:Int)+3*t) % 6=((((k:Int)+3*t) % 6).toNat:Int):=by rw[Int.zero_add];lia
  walk_at "go";refine⟨_,_,rfl,by rw[Xc,Xc,YO,hsz];lia,.inl ⟨by decide,by decide⟩,by decide,.str (keyI ns t k),by rw[e6];exact zbb (by rw[Xk,zdu ok];rfl),rfl,.inr (keyI ns t k),rfl,λhm=>?_,(hIv _ _ _).mpr ⟨_,rfl,?_⟩⟩
  ·obtain⟨x,hx,ex⟩:=XL.mp hm;cases ex;obtain⟨j,hj,ej⟩:=XL.mp hx;have hj:=Ye.mp hj;have:=ziH ok (by lia) (by lia) ej;lia
  ·rw[List.range_succ,XY,XY,List.replicate_succ'];rfl
 ·intro ρ β hI;obtain⟨k6,rfl,rfl⟩:=(hIv _ _ _).mp hI;rw[zbm,em];clear hIv hI Iv;have ek:(Ya (zag t)).map (keyI ns t)=zaH ns t:=rfl;rw[ek];have ekp:((zaH ns t).map Sum.inr).map keyP=(zaH ns t).map PV.str:=by rw[List.map_map];rfl
  walk_at "go";rw[ekp];refine⟨zjx _,?_⟩;have hβ0:YN (zag t) (PV.lst [])=(zcg ns t (cs.take 0)).map tblP:=by
   show _=(YN (zag t) []).map tblP;rw[List.map_replicate];rfl
  rw[hβ0];have hkl:=zeQ ns t;have hknd:=ziI ok t;have hknd2:((zaH ns t).map (Sum.inr:Str->Key)).Nodup:=by
   rw[List.Nodup,YQ];exact List.Pairwise.imp (λh e=>h (Sum.inr.inj e)) hknd
  walk_at "go";obtain⟨Iv,hIv⟩:∃Iv:Nat->PEnv->BX->Prop,∀i ρ β,Iv i ρ β↔∃k8 k9 k10 k11,ρ=[some (PV.lst (XV PV.str ns),false),some (PV.lst (XV PV.int cs),false),some (PV.int t,false),some (PV.lst (XV PV.int (zhC t)),true),some (PV.int (1+mix t 11 % 6),false),none,k6,some (PV.lst ((zaH ns t).map PV.str),false),k8,k9,k10,k11,none]/\
    β=.K ((zaH ns t).map Sum.inr) ((zcg ns t (cs.take i)).map tblP):=⟨_,λ_ _ _=>Iff.rfl⟩
  refine⟨Iv,(hIv _ _ _).mpr ⟨none,none,none,none,rfl,rfl⟩,?_,?_⟩
  ·intro i d ρ β hd hI;obtain⟨k8,k9,k10,k11,rfl,rfl⟩:=(hIv _ _ _).mp hI;rw[Xk]at hd;cases hc:cs[i]? with
   | none=>rw[hc]at hd;cases hd
   | some c=>
    rw[hc]at hd;cases hd;have m12:=zar c 12;have m18:=zar c 18;have m19:=zar c 19;have hn:=zeR (c:=c) (n:=zag t) (by lia);have e12:mix c 12 % (1+mix t 11 % 6)=(cutI c (zag t):Int):=by
     have e1:(1+mix t 11 % 6)=((zag t:Nat):Int):=by unfold zag;lia
     rw[e1];have:=Yt (mix c 12) (show((zag t:Nat):Int)≠0 by lia);unfold cutI;lia
    have hT:=zfW ns t (cs.take i);have hst:zcg ns t (cs.take (i+1))=stepT ns t (zcg ns t (cs.take i)) c:=by
     rw[List.take_add_one,hc];exact zjw ns t _ c
    have hil:i<60:=by have:=(Xj.mp hc).1;lia
    have hti:(cs.take i).length<=60:=by rw[XC];lia
    generalize zcg ns t (cs.take i)=T0 at hT hst hI;obtain⟨a1,a2,a3⟩:=hT.at hn;have hka:(zaH ns t)[cutI c (zag t)]? = some (keyI ns t (cutI c (zag t))):=zfV hn;have hdg:dgP ((zaH ns t).map (Sum.inr:Str->Key)) (T0.map tblP) (.inr (keyI ns t (cutI c (zag t))))=some (tblP (T0.getD (cutI c (zag t)) [])):=by
     rw[zpc (n:=cutI c (zag t)) (by rw[Xc,Xc,hkl,hT.len]) hknd2 (by rw[Xk,hka];rfl),Xk,a1];rfl
    have hkn:keyI ns t (cutI c (zag t))∈ns:=Xl (zdu ok t _);have hix:=znJ hkn;have mw:=zar t (20+(ixS ns (keyI ns t (cutI c (zag t))):Int));have hwl:=zde ns t (keyI ns t (cutI c (zag t)));walk_at "go";refine⟨by decide,by decide,by lia,.str (keyI ns t (cutI c (zag t))),by rw[e12];exact zbb (by rw[Xk,hka];rfl),rfl,?_⟩;walk_at "go";rw[show idxP (XV PV.str ns) (PV.str (keyI ns t (cutI c (zag t))))=ixS ns (keyI ns t (cutI c (zag t))) from rfl];have hlen7:=ok.len;refine⟨zgO _,rfl,XL.mpr ⟨_,hkn,rfl⟩,by lia,by lia,by decide,?_⟩;have ew:(1+mix t (20+(ixS ns (keyI ns t (cutI c (zag t))):Int)) % 4)=((zce ns t (keyI ns t (cutI c (zag t))):Nat):Int):=by unfold zce;lia
    rw[ew];generalize hW:zce ns t (keyI ns t (cutI c (zag t)))=W at hwl;walk_at "go";have hlen:(rngP 0 (W:Int).toNat).length=W:=by rw[zbm];simp
    refine⟨by lia,by lia,by rw[hlen];lia,λk out=>out=(rowI t c k).map PV.int,rfl,?_,?_⟩
    ·rintro k d out hd-rfl;obtain⟨hk,rfl⟩:=zbO hd;have mk:=zar c (13+(k:Int));have hk4:k<W:=by lia
     have hlt:(mix c (13+(k:Int)) % 5).toNat<(zhC t).length:=by show _<5;lia
     rw[Int.zero_add];refine⟨_,rfl,by lia,by lia,by decide,.int ((zhC t).getD (mix c (13+(k:Int)) % 5).toNat 0),?_,?_⟩
     ·rw[show mix c (13+(k:Int)) % 5=(((mix c (13+(k:Int)) % 5).toNat:Nat):Int) by lia];refine zbb ?_;rw[Xk,Xb hlt,XW,Int.toNat_natCast,Xb hlt];rfl
     ·show _=_;unfold rowI;rw[List.range_succ,XY,XY];rfl
    ·rintro out-rfl;rw[hlen];refine⟨zbq _,?_⟩;have hnew:∀r,stepT ns t T0 c=T0.set (cutI c (zag t)) (T0.getD (cutI c (zag t)) []++[r])->(T0.map tblP).set (cutI c (zag t)) (PV.lst ((T0.getD (cutI c (zag t)) []).map rowP++[PV.tup (r.map PV.int)]))=(zcg ns t (cs.take (i+1))).map tblP:=λr hr=>by
      rw[hst,hr,List.map_set];show _=List.set _ _ (PV.lst (XV rowP (_++[r])));rw[XY];rfl
     have hdn:(T0.map tblP)[cutI c (zag t)]? = some (.lst ((T0.getD (cutI c (zag t)) []).map rowP)):=by rw[Xk,a1];rfl
     have hkn2:((zaH ns t).map (Sum.inr:Str->Key))[cutI c (zag t)]? = some (.inr (keyI ns t (cutI c (zag t)))):=by rw[Xk,hka];rfl
     have hstep:stepT ns t T0 c=T0.set (cutI c (zag t)) (T0.getD (cutI c (zag t)) []++[if T0.getD (cutI c (zag t)) []≠[]/\mix c 18 % 4=1 then(T0.getD (cutI c (zag t)) []).getD (mix c 19 % ((T0.getD (cutI c (zag t)) []).length:Int)).toNat [] else rowI t c W]):=by
      unfold stepT;dsimp only;rw[hW]
     generalize hTb:T0.getD (cutI c (zag t)) []=tb at *;walk_at "go";refine⟨.inr (keyI ns t (cutI c (zag t))),rfl,_,hdg,by decide,zdf 3 _,ite2 (λhne=>⟨by decide,by decide,by decide,ite2 (λh18=>?_) (λh18=>?_)⟩) (λhne=>?_)⟩
     ·have hne':tb≠[]:=λz=>hne (by rw[z];rfl);have hl:0<tb.length:=List.length_pos_iff.mpr hne';have g1:=YK (mix c 19) (show(0:Int)<(tb.length:Int) by lia);have g2:=Yt (mix c 19) (show(tb.length:Int)≠0 by lia);have hlt:(mix c 19 % (tb.length:Int)).toNat<tb.length:=by lia
      rw[if_pos ⟨hne',h18⟩]at hstep;have e19:atI (tb.map rowP) (mix c 19 % (tb.length:Int))=some (rowP (tb.getD (mix c 19 % (tb.length:Int)).toNat [])):=by
       have:=zbb (xs:=tb.map rowP) (j:=(mix c 19 % (tb.length:Int)).toNat) (v:=rowP (tb.getD (mix c 19 % (tb.length:Int)).toNat [])) (by rw[Xk,Xb hlt,XW,Xb hlt];rfl);rw[show(((mix c 19 % (tb.length:Int)).toNat:Nat):Int)=mix c 19 % (tb.length:Int) by lia]at this;exact this
      generalize tb.getD (mix c 19 % (tb.length:Int)).toNat []=r at *;walk_at "go";refine⟨.inr (keyI ns t (cutI c (zag t))),rfl,_,hdg,by decide,by decide,.inr (keyI ns t (cutI c (zag t))),rfl,_,hdg,tb.length,by show tb.length=(tb.map rowP).length;rw[Xc],by lia,rowP r,.inl ⟨_,.inl rfl,e19⟩,zbq _,?_⟩;walk_at "go";refine⟨_,_,rfl,hknd2,.inr (keyI ns t (cutI c (zag t))),rfl,_,hkn2,_,hdn,by rw[Xc,hsz];lia,zbq _,(hIv _ _ _).mpr ⟨_,_,_,_,rfl,?_⟩⟩;exact congrArg _ (hnew r hstep)
     ·rw[if_neg (λz=>h18 z.2)]at hstep;walk_at "go";walk_at "go";refine⟨_,_,rfl,hknd2,.inr (keyI ns t (cutI c (zag t))),rfl,_,hkn2,_,hdn,by rw[Xc,hsz];lia,zbq _,(hIv _ _ _).mpr ⟨_,_,_,_,rfl,?_⟩⟩;exact congrArg _ (hnew _ hstep)
     ·have hne':tb=[]:=by
       rcases tb with _ | ⟨x,r⟩
       ·rfl
       ·exact absurd (show ¬ tblP (x::r)=PV.lst [] from λz=>nomatch z) hne
      rw[if_neg (λz=>z.1 hne')]at hstep;walk_at "go";walk_at "go";refine⟨_,_,rfl,hknd2,.inr (keyI ns t (cutI c (zag t))),rfl,_,hkn2,_,hdn,by rw[Xc,hsz];lia,zbq _,(hIv _ _ _).mpr ⟨_,_,_,_,rfl,?_⟩⟩;exact congrArg _ (hnew _ hstep)
  ·intro ρ β hI;obtain⟨k8,k9,k10,k11,rfl,rfl⟩:=(hIv _ _ _).mp hI;rw[Xc,YL];clear hIv hI Iv;have hT:=zfW ns t cs;have pl:(XV PV.int cs).all (PL.plain 5)=true:=by rw[YJ,XM];intro x _;rfl
   have done:∀(k12:Option (PV×Bool)) (k8 k9 k10 k11:Option (PV×Bool)) (T:List (List (List Int))),T=zdv ns t cs->zgA (zbK 5 (pRet (pVar 5)))
            {nx:=λx x_1=>False,rt:=Q,bk:=λx x_1=>False,ct:=λx x_1=>False } [some (PV.lst (XV PV.str ns),false),some (PV.lst (XV PV.int cs),false),some (PV.int t,false),some (PV.lst (XV PV.int (zhC t)),true),some (PV.int (1+mix t 11 % 6),false),none,k6,some (PV.lst ((zaH ns t).map PV.str),false),k8,k9,k10,k11,k12] (BX.K ((zaH ns t).map Sum.inr) (T.map tblP)):=λk12 k8 k9 k10 k11 T hTT=>by
    walk_at "go";walk_at "go";rw[hTT];exact q
   walk_at "go";refine⟨by decide,pl,ite2 (λhne=>⟨by decide,by decide,by decide,ite2 (λh30=>?_) (λh30=>?_)⟩) (λhne=>?_)⟩
   ·cases cs with
    | nil=>exact absurd rfl hne
    | cons c cs'=>
     have m12:=zar c 12;have m31:=zar t 31;have hn:=zeR (c:=c) (n:=zag t) (by lia);have e12:mix c 12 % (1+mix t 11 % 6)=(cutI c (zag t):Int):=by
      have e1:(1+mix t 11 % 6)=((zag t:Nat):Int):=by unfold zag;lia
      rw[e1];have:=Yt (mix c 12) (show((zag t:Nat):Int)≠0 by lia);unfold cutI;lia
     have hne2:=zmV ns t c cs';have hend:zdv ns t (c::cs')=(zcg ns t (c::cs')).set (cutI c (zag t)) (((zcg ns t (c::cs')).getD (cutI c (zag t)) []).set (mix t 31 % (((zcg ns t (c::cs')).getD (cutI c (zag t)) []).length:Int)).toNat ((((zcg ns t (c::cs')).getD (cutI c (zag t)) []).getD (mix t 31 % (((zcg ns t (c::cs')).getD (cutI c (zag t)) []).length:Int)).toNat []).take 3++[7,7])):=by
      unfold zdv endT;dsimp only;rw[if_pos h30]
     generalize zcg ns t (c::cs')=T0 at hT hend hne2 ⊢;obtain⟨a1,a2,a3⟩:=hT.at hn;have hka:(zaH ns t)[cutI c (zag t)]? = some (keyI ns t (cutI c (zag t))):=zfV hn;have hdg:dgP ((zaH ns t).map (Sum.inr:Str->Key)) (T0.map tblP) (.inr (keyI ns t (cutI c (zag t))))=some (tblP (T0.getD (cutI c (zag t)) [])):=by
      rw[zpc (n:=cutI c (zag t)) (by rw[Xc,Xc,hkl,hT.len]) hknd2 (by rw[Xk,hka];rfl),Xk,a1];rfl
     have hdn:(T0.map tblP)[cutI c (zag t)]? = some (.lst ((T0.getD (cutI c (zag t)) []).map rowP)):=by rw[Xk,a1];rfl
     have hkn2:((zaH ns t).map (Sum.inr:Str->Key))[cutI c (zag t)]? = some (.inr (keyI ns t (cutI c (zag t)))):=by rw[Xk,hka];rfl
     generalize hTb:T0.getD (cutI c (zag t)) []=tb at *;have hl:0<tb.length:=List.length_pos_iff.mpr hne2;have g1:=YK (mix t 31) (show(0:Int)<(tb.length:Int) by lia);have g2:=Yt (mix t 31) (show(tb.length:Int)≠0 by lia);have hlt:(mix t 31 % (tb.length:Int)).toNat<tb.length:=by lia
     have er:(tb.map rowP)[(mix t 31 % (tb.length:Int)).toNat]? = some (rowP (tb.getD (mix t 31 % (tb.length:Int)).toNat [])):=by
      rw[Xk,Xb hlt,XW,Xb hlt];rfl
     have e31:atI (tb.map rowP) (mix t 31 % (tb.length:Int))=some (rowP (tb.getD (mix t 31 % (tb.length:Int)).toNat [])):=by
      have:=zbb er;rw[show(((mix t 31 % (tb.length:Int)).toNat:Nat):Int)=mix t 31 % (tb.length:Int) by lia]at this;exact this
     generalize tb.getD (mix t 31 % (tb.length:Int)).toNat []=r at *;walk_at "go";refine⟨.int c,zbb (j:=0) rfl,c,rfl,by decide,by decide,by lia,.str (keyI ns t (cutI c (zag t))),by rw[e12];exact zbb (by rw[Xk,hka];rfl),rfl,?_⟩;walk_at "go";refine⟨by decide,by decide,.inr (keyI ns t (cutI c (zag t))),rfl,_,hdg,tb.length,by show tb.length=(tb.map rowP).length;rw[Xc],by lia,?_⟩;walk_at "go";have hcut:cutP (r.map PV.int) none (some 3)++[PV.int 7,PV.int 7]=(r.take 3++[7,7]).map PV.int:=by
      rw[show(some (3:Int))=some ((3:Nat):Int) from rfl,zfY,XY,List.map_take];rfl
     have hcl:(cutP (r.map PV.int) none (some 3)).length<=3:=by
      rw[show(some (3:Int))=some ((3:Nat):Int) from rfl,zfY,XC];lia
     refine⟨.inr (keyI ns t (cutI c (zag t))),rfl,_,hdg,rowP r,.inl ⟨_,.inl rfl,e31⟩,_,rfl,by decide,by lia,by rw[hcut];exact zbq _,_,_,rfl,hknd2,.inr (keyI ns t (cutI c (zag t))),rfl,_,hkn2,_,hdn,(mix t 31 % (tb.length:Int)).toNat,?_,?_⟩
     ·rw[Xc];unfold ixN;rw[if_pos g2,if_pos g1]
     ·rw[hcut];have:=done (some (PV.int (mix t 31 % (tb.length:Int)),false)) k8 (some (PV.str (keyI ns t (cutI c (zag t))),false)) k10 k11 _ hend.symm;rw[List.map_set]at this;show zgA _ _ _ (BX.K _ (List.set _ _ (PV.lst (List.set (XV rowP tb) _ (rowP (r.take 3++[7,7]))))));rw[<- List.map_set];exact this
   ·walk_at "go";refine done _ _ _ _ _ _ ?_;unfold zdv endT;cases cs with
    | nil=>rfl
    | cons c cs'=>dsimp only;rw[if_neg h30]
   ·walk_at "go";refine done _ _ _ _ _ _ ?_;cases cs with
    | nil=>rfl
    | cons c cs'=>exact absurd (λz=>nomatch z) hne
end
noncomputable def addR (acc:List (List Int))(r:List Int):List (List Int):=if r∈acc then acc else acc++[r]
noncomputable def setR (l:List (List Int)):List (List Int):=l.foldl addR []
theorem zhG:∀(l acc:List (List Int)),acc.Nodup->acc.Pairwise (λx y=>Srt.ltI y x=false)->(∀a∈acc,∀x∈l,Srt.ltI x a=false)->l.Pairwise (λx y=>Srt.ltI y x=false)->(l.foldl addR acc).Nodup/\(l.foldl addR acc).Pairwise (λx y=>Srt.ltI y x=false)/\∀x,x∈l.foldl addR acc↔x∈acc\/x∈l
 | [],acc,h1,h2,_,_=>⟨h1,h2,λx=>by simp⟩
 | r::l,acc,h1,h2,h3,h4=>by
  rw[List.pairwise_cons]at h4;rw[List.foldl_cons];by_cases hr:r∈acc
  ·have e:addR acc r=acc:=if_pos hr;rw[e];obtain⟨q1,q2,q3⟩:=zhG l acc h1 h2 (λa ha x hx=>h3 a ha x (Xe _ hx)) h4.2;refine⟨q1,q2,λx=>(q3 x).trans ⟨λh=>h.imp id (Xe _),λh=>?_⟩⟩;rcases h with h | h
   ·exact .inl h
   ·rcases Xv.mp h with rfl | h
    ·exact .inl hr
    ·exact .inr h
  ·have e:addR acc r=acc++[r]:=if_neg hr;rw[e];obtain⟨q1,q2,q3⟩:=zhG l (acc++[r]) (by rw[List.nodup_append];exact⟨h1,by simp,λa ha b hb e=>hr (by rw[<- Xs.mp hb,<- e];exact ha)⟩) (by rw[XF];exact⟨h2,List.pairwise_singleton _ _,λa ha b hb=>by rw[Xs.mp hb];exact h3 a ha r (Xi ..)⟩) (λa ha x hx=>by
    rcases XA.mp ha with ha | ha
    ·exact h3 a ha x (Xe _ hx)
    ·rw[Xs.mp ha];exact h4.1 x hx) h4.2
   refine⟨q1,q2,λx=>(q3 x).trans ⟨λh=>?_,λh=>?_⟩⟩
   ·rcases h with h | h
    ·rcases XA.mp h with h | h
     ·exact .inl h
     ·rw[Xs.mp h];exact .inr (Xi ..)
    ·exact .inr (Xe _ h)
   ·rcases h with h | h
    ·exact .inl (List.mem_append_left _ h)
    ·rcases Xv.mp h with rfl | h
     ·exact .inl (XQ _ (Xs.mpr rfl))
     ·exact .inr h
noncomputable def setI (tb:List (List Int)):List (List Int):=setR (sortI tb)
theorem zlG (tb:List (List Int)):(setI tb).Nodup/\(setI tb).Pairwise (λx y=>Srt.ltI y x=false)/\∀x,x∈setI tb↔x∈tb:=by
 obtain⟨q1,q2,q3⟩:=zhG (sortI tb) [] List.nodup_nil List.Pairwise.nil (λa ha=>by cases ha) (ziw tb);exact⟨q1,q2,λx=>(q3 x).trans ⟨λh=>(sortI_perm tb).mem_iff.mp (h.resolve_left (λz=>by cases z)),λh=>.inr ((sortI_perm tb).mem_iff.mpr h)⟩⟩
theorem zlH {tb zs:List (List Int)}(h1:zs.Nodup)(h2:zs.Pairwise (λx y=>Srt.ltI y x=false))(h3:∀x,x∈zs↔x∈tb):zs=setI tb:=by
 obtain⟨q1,q2,q3⟩:=zlG tb;have p:zs.Perm (setI tb):=(List.perm_ext_iff_of_nodup h1 q1).mpr λx=>(h3 x).trans (q3 x).symm;have e1:=zfP p h2;have e2:=zfP (Yw.refl (setI tb)) q2;exact e1.trans e2.symm
theorem zfZ:∀(l acc:List (List Int)),(l.foldl addR acc).length<=acc.length+l.length
 | [],acc=>Xo _
 | r::l,acc=>by
  rw[List.foldl_cons,Yh];have:=zfZ l (addR acc r);have h:(addR acc r).length<=acc.length+1:=by
   unfold addR;split
   ·lia
   ·rw[XH];simp
  lia
theorem zpd (tb:List (List Int)):(setI tb).length<=tb.length:=by
 have:=zfZ (sortI tb) [];rw[(sortI_perm tb).length_eq]at this;simpa[setI,setR]using this
noncomputable abbrev KLMN:Str:="KLMN"
noncomputable def klS (w:Nat):List Str:=(signs KLMN).take w
theorem zrP:∀w:Nat,w<=4->signs (Txt.slice KLMN none (some (w:Int)))=klS w:=by decide +kernel
theorem zlI:∀w:Nat,w<=4->(klS w).length=w:=by decide +kernel
theorem zrQ:∀w:Nat,w<=4->(Txt.slice KLMN none (some (w:Int))).length<=4:=by decide +kernel
noncomputable def patP (p:Str×Nat):PV:=.tup [.str p.1,.tup ((klS p.2).map PV.str)]
noncomputable def queP (q:List (Str×Nat)):PV:=.lst (q.map patP)
noncomputable def nQue (t:Int):Nat:=(1+mix t 32 % 6).toNat
theorem zlJ (t:Int):1<=nQue t/\nQue t<=6:=by unfold nQue;have:=zar t 32;lia
noncomputable def nthQ (t:Int)(k:Nat):Nat:=(mix t (33+(k:Int)) % (zag t:Int)).toNat
theorem zpe (t:Int)(k:Nat):nthQ t k<zag t:=by
 unfold nthQ;have:=zbA t;have:=YK (mix t (33+(k:Int))) (show(0:Int)<(zag t:Int) by lia);have:=Yt (mix t (33+(k:Int))) (show(zag t:Int)≠0 by lia);lia
noncomputable def patQ (ns:List Str)(t:Int)(k:Nat):Str×Nat:=
  (if mix t 42 % 4=1/\mix t 43 % 6=(k:Int) then ns.getD 6 ⟨#[]⟩ else keyI ns t (nthQ t k),
   if mix t 40 % 4=1/\mix t 41 % 6=(k:Int) then 1+zce ns t (keyI ns t (nthQ t k)) % 4 else zce ns t (keyI ns t (nthQ t k)))
noncomputable def queI (ns:List Str)(t:Int):List (Str×Nat):=(Ya (nQue t)).map (patQ ns t)
theorem zlK (ns:List Str)(t:Int)(k:Nat):1<=(patQ ns t k).2/\(patQ ns t k).2<=4:=by
 unfold patQ;have:=zde ns t (keyI ns t (nthQ t k));dsimp only;split<;>lia
noncomputable def zdg:PF:=λds Q=>∃(ns:List Str)(tabs:List PV)(t:Int),ds=[.lst (ns.map PV.str),.dK ((zaH ns t).map Sum.inr) tabs,.int t]/\NsOk ns/\Q (queP (queI ns t)) .new
theorem zdh:zct zdg:=λds Q Q' m q173q=>by obtain⟨a,b,c,e,h1,q⟩:=q173q;exact⟨a,b,c,e,h1,m _ _ q⟩
section
variable {P:Program}{w:World}{K:Xa}{mg:Str->Option Value}{base:Heap}
theorem zfo:zaI ["_law_names_here","_law_tables_here","_law_total","_law_known","_law_question_here","_law_k","_law_name","_law_width"] ["_law_names_here","_law_tables_here","_law_total"] (zac zaY):=⟨rfl,rfl,rfl,by decide +kernel,rfl,by decide +kernel,by decide +kernel⟩
theorem zhH {f fM:Addr}{fd fdM:FuncData}(F:Fun K "_law_question" "_law_question" zaY f fd) (Mix:Fx K mg "_law_mix" sMix ["_law_cell","_law_j"] fM fdM) (B:Bl mg):FnOk P w K mg base CX0 2 f fd ["_law_names_here","_law_tables_here","_law_total"] (spP K zdg):=by
 have GMix:FnOk P w K mg base CX0 1 fM fdM ["_law_cell","_law_j"] (spP K fMix):=zlA Mix.fn;refine zbt F zfo (λds Q q174q=>by obtain⟨a,b,c,e,_⟩:=q174q;rw[e];rfl) (λcdv A outer s H E hr=>?_);have hu:(A.deeper (envOfC "_law_question" (zac zaY) s.heap.objs.size f cdv)).units+16<cLine:=by have q:=hr.units;lia
 have nd:=zfo.nd;refine⟨_,(zaf (zan (i:=3) nd rfl (Or.inl rfl) (zdT rfl rfl B.list (zaa 1)))
   (zaf (zan (i:=4) nd rfl (Or.inl rfl) (zcv zad))
   (zaf (zcD rfl PassesOwn.never (zbp rfl B.range (zab (zaW zae (zau (zal GMix zap hr rfl Mix.mg Mix.fn.kp Mix.bd (zab (zaa 2) (zab zae zad))) zae)) zad)) (zaz (i:=5) nd rfl (Or.inl rfl)) (zaf (zan (i:=6) nd rfl (Or.inl rfl) (zaK (zaa 3) (zau (zal GMix zap hr rfl Mix.mg Mix.fn.kp Mix.bd (zab (zaa 2) (zab (zaW zae (zaa 5)) zad))) (zcS rfl B.len (zab (zaa 3) zad)))))
   (zaf (zan (i:=7) nd rfl (Or.inl rfl) (zaW zae (zau (zal GMix zap hr rfl Mix.mg Mix.fn.kp Mix.bd (zab (zaa 2) (zab (zaW zae (zim (zaa 0) (zaa 6))) zad))) zae)))
   (zaf (zbw (PuW.t (zem (zes hu (zau (zal GMix zap hr rfl Mix.mg Mix.fn.kp Mix.bd (zab (zaa 2) (zab zae zad))) zae) zae) (zcN (zes hu (zau (zal GMix zap hr rfl Mix.mg Mix.fn.kp Mix.bd (zab (zaa 2) (zab zae zad))) zae) (zaa 5))))) (zai (zan (i:=7) nd rfl (Or.inl rfl) (zaW zae (zau (zaa 7) zae)))) zaM)
   (zaf (zbw (PuW.t (zem (zes hu (zau (zal GMix zap hr rfl Mix.mg Mix.fn.kp Mix.bd (zab (zaa 2) (zab zae zad))) zae) zae) (zcN (zes hu (zau (zal GMix zap hr rfl Mix.mg Mix.fn.kp Mix.bd (zab (zaa 2) (zab zae zad))) zae) (zaa 5))))) (zai (zan (i:=6) nd rfl (Or.inl rfl) (zaK (zaa 0) zae))) zaM)
   (zai (zcR (zco 4 (zno (zab (zaa 6) (zab (zlg rfl rfl B.tuple (zab (zeu zfd zcV (zcW (zaa 7))) zad)) zad)))))))))))
   (zai (zaD (zaa 4)))))),λds Q h=>?_⟩
 obtain⟨ns,tabs,t,rfl,ok,q⟩:=h;have hsz:=sizeLine_eq;have m32:=zar t 32;have ekp:((zaH ns t).map Sum.inr).map keyP=(zaH ns t).map PV.str:=by rw[List.map_map];rfl
 walk_at "pu";rw[ekp];walk_at "auto";have hnq:=zlJ t;have hlr:(rngP 0 (1+mix t 32 % 6).toNat).length=nQue t:=zbm 0 _;have hml:=zbA t;have hkl:=zeQ ns t;obtain⟨Iv,hIv⟩:∃Iv:Nat->PEnv->Prop,∀i ρ,Iv i ρ↔∃k5 k6 k7,ρ=[some (PV.lst (XV PV.str ns),false),some (PV.dK (XV Sum.inr (zaH ns t)) tabs,false),some (PV.int t,false),some (PV.lst (XV PV.str (zaH ns t)),true),some (PV.lst ((Ya i).map λk=>patP (patQ ns t k)),true),k5,k6,k7]:=⟨_,λ_ _=>Iff.rfl⟩;refine⟨Iv,(hIv _ _).mpr ⟨none,none,none,rfl⟩,?_,?_⟩
 ·intro k d ρ hd hI;obtain⟨k5,k6,k7,rfl⟩:=(hIv _ _).mp hI;obtain⟨hk,rfl⟩:=zbO hd;have hk6:k<nQue t:=hk;rw[Int.zero_add];have m33:=zar t (33+(k:Int));have m40:=zar t 40;have m41:=zar t 41;have m42:=zar t 42;have m43:=zar t 43;have hn:=zpe t k;have hka:(zaH ns t)[nthQ t k]? = some (keyI ns t (nthQ t k)):=zfV hn;have e33:mix t (33+(k:Int)) % ((((zaH ns t).map PV.str).length:Nat):Int)=(nthQ t k:Int):=by
   rw[Xc,hkl];have:=Yt (mix t (33+(k:Int))) (show((zag t:Nat):Int)≠0 by lia);unfold nthQ;lia
  have hkn:keyI ns t (nthQ t k)∈ns:=Xl (zdu ok t _);have hix:=znJ hkn;have hlen7:=ok.len;have mw:=zar t (20+(ixS ns (keyI ns t (nthQ t k)):Int));have hwl:=zde ns t (keyI ns t (nthQ t k));have ew:(1+mix t (20+(ixS ns (keyI ns t (nthQ t k)):Int)) % 4)=((zce ns t (keyI ns t (nthQ t k)):Nat):Int):=by unfold zce;lia
  have fin:∀(nm:Str) (w:Nat),patQ ns t k=(nm,w)->w<=4->∀O:POut,O.nx=Iv (k+1)->Hold (zbx
             (mApp 4
              (pTup
               (zaZ (pVar 6)
                (zaZ
                 (PL.tB zaT
                  (zaZ (pSlS (pC (PV.str KLMN)) zcT (zcU (pVar 7))) pNil))
                 pNil))))) O [some (PV.lst (XV PV.str ns),false),some (PV.dK (XV Sum.inr (zaH ns t)) tabs,false),some (PV.int t,false),some (PV.lst (XV PV.str (zaH ns t)),true),some (PV.lst ((Ya k).map λk=>patP (patQ ns t k)),true),some (.int k,false),some (.str nm,false),some (.int w,false)]:=λnm w hp hw O hO=>by
   walk_at "go";rw[zrP w hw];have:=zrQ w hw;refine⟨by rw[Xc,YO];lia,by decide,by lia,by decide,?_⟩;rw[hO,hIv,List.range_succ,XY,Xt,List.map_nil,hp];exact⟨_,_,_,rfl⟩
  have fin2:∀(w:Nat),(patQ ns t k).2=w->w<=4->∀O:POut,O.nx=Iv (k+1)->Hold (pSeq
              (pIf
               (zcA
                (tBl
                 (t2 (pEq false)
                  (pMod (zbg fMix (zaZ (pVar 2) (zaZ (pC (PV.int 42)) pNil))) (pC (PV.int 4)))
                  (pC (PV.int 1))))
                (tBl
                 (t2 (pEq false)
                  (pMod (zbg fMix (zaZ (pVar 2) (zaZ (pC (PV.int 43)) pNil))) (pC (PV.int 6)))
                  (pVar 5))))
               (pSet 6 (t2 pIx (pVar 0) (pC (PV.int 6)))) zcP)
              (zbx
               (mApp 4
                (pTup
                 (zaZ (pVar 6)
                  (zaZ
                   (PL.tB zaT
                    (zaZ (pSlS (pC (PV.str KLMN)) zcT (zcU (pVar 7))) pNil))
                   pNil)))))) O [some (PV.lst (XV PV.str ns),false),some (PV.dK (XV Sum.inr (zaH ns t)) tabs,false),some (PV.int t,false),some (PV.lst (XV PV.str (zaH ns t)),true),some (PV.lst ((Ya k).map λk=>patP (patQ ns t k)),true),some (.int k,false),some (.str (keyI ns t (nthQ t k)),false),some (.int w,false)]:=λw hw2 hw O hO=>by
   have h6:ns[6]? = some (ns.getD 6 ⟨#[]⟩):=by
    have:6<ns.length:=by lia
    rw[XW,Xb this];rfl
   walk_at "go";refine⟨by decide,by decide,by decide,ite2 (λe1=>⟨by decide,by decide,by decide,ite2 (λe2=>?_) (λe2=>?_)⟩) (λe1=>?_)⟩
   ·walk_at "go";refine⟨.str (ns.getD 6 ⟨#[]⟩),zbb (j:=6) (by rw[Xk,h6];rfl),fin _ w (Prod.ext (if_pos ⟨e1,e2⟩) hw2) hw O hO⟩
   ·walk_at "go";exact fin _ w (Prod.ext (if_neg (λz=>e2 z.2)) hw2) hw O hO
   ·walk_at "go";exact fin _ w (Prod.ext (if_neg (λz=>e1 z.1)) hw2) hw O hO
  generalize hW:zce ns t (keyI ns t (nthQ t k))=W at hwl ew;walk_at "go";refine⟨by lia,by lia,by rw[Xc,hkl];lia,.str (keyI ns t (nthQ t k)),by rw[e33];exact zbb (by rw[Xk,hka];rfl),?_⟩;walk_at "go";rw[show idxP (XV PV.str ns) (PV.str (keyI ns t (nthQ t k)))=ixS ns (keyI ns t (nthQ t k)) from rfl,ew];refine⟨zgO _,rfl,XL.mpr ⟨_,hkn,rfl⟩,by lia,by lia,by decide,?_⟩;walk_at "go";refine⟨by decide,by decide,by decide,ite2 (λe1=>⟨by decide,by decide,by decide,ite2 (λe2=>?_) (λe2=>?_)⟩) (λe1=>?_)⟩
  ·walk_at "go";refine⟨by decide,?_⟩;rw[show(1+(W:Int) % 4)=((1+W % 4:Nat):Int) by lia];refine fin2 (1+W % 4) ?_ (by lia) _ rfl;unfold patQ;rw[hW];exact if_pos ⟨e1,e2⟩
  ·walk_at "go";refine fin2 W ?_ (by lia) _ rfl;unfold patQ;rw[hW];exact if_neg (λz=>e2 z.2)
  ·walk_at "go";refine fin2 W ?_ (by lia) _ rfl;unfold patQ;rw[hW];exact if_neg (λz=>e1 z.1)
 ·intro ρ hI;obtain⟨k5,k6,k7,rfl⟩:=(hIv _ _).mp hI;rw[hlr];walk_at "go";unfold queP queI at q;rw[List.map_map]at q;exact q
end
noncomputable abbrev Tb:=List (List Int)
noncomputable def tabOf (ks:List Str)(tabs:List Tb)(x:Str):Option Tb:=((ks.zip tabs).find? λkv=>decide (kv.1=x)).map (·.2)
theorem ziK (x:Str):∀(ks:List Str)(tabs:List Tb),dgP (ks.map (Sum.inr:Str->Key)) (tabs.map tblP) (.inr x)=(tabOf ks tabs x).map tblP
 | [],_=>rfl
 | k::ks,[]=>rfl
 | k::ks,t::ts=>by
  have ih:=ziK x ks ts;unfold dgP tabOf at ih ⊢;rw[Xt,Xt,List.zip_cons_cons,List.zip_cons_cons,Ys,Ys];by_cases h:k=x
  ·subst h;simp
  ·have h2:¬ (Sum.inr k:Key)=Sum.inr x:=λz=>h (Sum.inr.inj z);simp only[h,h2,decide_false];exact ih
theorem zdi {ks:List Str}{tabs:List Tb}{x:Str}{tb:Tb}(h:tabOf ks tabs x=some tb):tb∈tabs:=by
 unfold tabOf at h;obtain⟨kv,h1,rfl⟩:=Option.map_eq_some_iff.mp h;exact(List.of_mem_zip (a:=kv.1) (b:=kv.2) (List.mem_of_find?_eq_some h1)).2
noncomputable def fltI (ks:List Str)(tabs:List Tb)(p:Str×Nat):Nat:=match tabOf ks tabs p.1 with
 | none=>1
 | some tb=>if ∀r∈tb,r.length=p.2 then 0 else 2
noncomputable def dueC (ks:List Str)(tabs:List Tb):List (Str×Nat)->Nat
 | []=>0
 | p::q=>if fltI ks tabs p=0 then dueC ks tabs q else fltI ks tabs p
theorem zhI {ks:List Str}{tabs:List Tb}:∀ {q:List (Str×Nat)}{k:Nat}{p:Str×Nat},q[k]? = some p->dueC ks tabs (q.take k)=0->(fltI ks tabs p≠0->dueC ks tabs q=fltI ks tabs p)/\(fltI ks tabs p=0->dueC ks tabs (q.take (k+1))=0)
 | [],k,p,h,_=>by simp at h
 | a::q,0,p,h,_=>by
  simp at h;subst h;refine⟨λhn=>if_neg hn,λh0=>?_⟩;show(if _ then _ else _)=0
  rw[if_pos h0];rfl
 | a::q,k+1,p,h,h0=>by
  simp at h;rw[List.take_succ_cons]at h0;have h1:(if fltI ks tabs a=0 then dueC ks tabs (q.take k) else fltI ks tabs a)=0:=h0
  by_cases ha:fltI ks tabs a=0
  ·rw[if_pos ha]at h1;obtain⟨q1,q2⟩:=zhI h h1;refine⟨λhn=>?_,λhz=>?_⟩
   ·show(if _ then _ else _)=_
    rw[if_pos ha];exact q1 hn
   ·rw[List.take_succ_cons];show(if _ then _ else _)=0
    rw[if_pos ha];exact q2 hz
  ·rw[if_neg ha]at h1;exact absurd h1 ha
noncomputable def dueL (ks:List Str)(tabs:List Tb)(q:List (Str×Nat)):List Tb:=q.map λp=>setI ((tabOf ks tabs p.1).getD [])
structure DOk (ks:List Str)(tabs:List Tb):Prop where
 len:ks.length=tabs.length
 nd:ks.Nodup
 few:tabs.length<=6
 row:∀tb∈tabs,zhF tb/\tb.length<=60
structure QOk (q:List (Str×Nat)):Prop where
 few:q.length<=6
 pat:∀p∈q,1<=p.2/\p.2<=4/\p.1.length<=100
noncomputable def dicP (ks:List Str)(tabs:List Tb):PV:=.dK (ks.map Sum.inr) (tabs.map tblP)
noncomputable def fDue:PF:=λds Q=>∃ks tabs q,ds=[dicP ks tabs,queP q]/\DOk ks tabs/\QOk q/\(dueC ks tabs q≠0->Q (.int (dueC ks tabs q)) .frz)/\(dueC ks tabs q=0->Q (.lst ((dueL ks tabs q).map tblP)) .new)
theorem zmX:zct fDue:=λds Q Q' m q175q=>by obtain⟨a,b,c,e,h1,h2,q1,q2⟩:=q175q;exact⟨a,b,c,e,h1,h2,λh=>m _ _ (q1 h),λh=>m _ _ (q2 h)⟩
theorem znK {tb:Tb}(h:zhF tb):∀r∈tb,r≠[]:=λr hr z=>by have:=(h r hr).1;rw[z]at this;simp at this
theorem zlL (n:Nat)(r:List Int):PL.plain (n+1) (rowP r)=true:=by
 show PL.plain (n+1) (PV.tup (r.map PV.int))=true;simp only[PL.plain];rw[YJ,XM];intro x _;cases n<;>rfl
theorem zmY {a b:List Int}(h:rowP a=rowP b):a=b:=by
 have h1:=PV.tup.inj h;exact(List.map_inj_right (f:=PV.int) λx y e=>PV.int.inj e).mp h1
theorem ziL {r:List Int}{l:Tb}:rowP r∈l.map rowP↔r∈l:=by
 rw[XL];exact⟨λ q176q=>by obtain⟨x,hx,e⟩:=q176q;exact zmY e▸hx,λh=>⟨r,h,rfl⟩⟩
section
variable {P:Program}{w:World}{K:Xa}{mg:Str->Option Value}{base:Heap}
theorem zqX:zaI ["_law_tables_here","_law_question_here","_law_due_here","_law_name","_law_letters","_law_rows","_law_row"] ["_law_tables_here","_law_question_here"] (zac sDue):=⟨rfl,rfl,rfl,by decide +kernel,rfl,by decide +kernel,by decide +kernel⟩
theorem zqY {f:Addr}{fd:FuncData}(F:Fun K "_law_due" "_law_due" sDue f fd) (B:Bl mg):FnOk P w K mg base CX0 2 f fd ["_law_tables_here","_law_question_here"] (spP K fDue):=by
 refine zbt F zqX (λds Q q177q=>by obtain⟨a,b,c,e,_⟩:=q177q;rw[e];rfl) (λcdv A outer s H E hr=>?_);have hu:(A.deeper (envOfC "_law_due" (zac sDue) s.heap.objs.size f cdv)).units+16<cLine:=by have q:=hr.units;lia
 have nd:=zqX.nd;refine⟨_,(zaf (zan (i:=2) nd rfl (Or.inl rfl) (zcv zad))
   (zaf (zcD rfl PassesOwn.never (zbe (zaa 1)) (zom (n:=2) rfl (zgt (zaz (i:=3) nd rfl (Or.inl rfl)) (zgt (zaz (i:=4) nd rfl (Or.inl rfl)) zmp))) (zaf (zbw (zds (hu1 hu) (zaa 3) (zaa 0)) (zai (zaD zae)) zaM)
   (zaf (zan (i:=5) nd rfl (Or.inl rfl) (zcv zad))
   (zaf (zcD rfl PassesOwn.never (zbe (zmD rfl B.sorted (zab (zbR (hu1 hu) (zaa 0) (zaa 3)) zad))) (zaz (i:=6) nd rfl (Or.inl rfl)) (zaf (zbw (zcw hu (zcS rfl B.len (zab (zaa 6) zad)) (zcS rfl B.len (zab (zaa 4) zad))) (zai (zaD zae)) zaM)
   (zai (zbw (zky hu (zaa 6) (zaa 5)) (zai (zcR (zco 5 (zaa 6)))) zaM))))
   (zai (zep 5 (zcR (zco 2 (zaa 5)))))))))
   (zai (zaD (zaa 2))))),λds Q h=>?_⟩
 obtain⟨ks,tabs,qs,rfl,dok,qok,q1,q2⟩:=h;have hsz:=sizeLine_eq;walk_at "pu";walk_at "auto";obtain⟨Iv,hIv⟩:∃Iv:Nat->PEnv->Prop,∀i ρ,Iv i ρ↔dueC ks tabs (qs.take i)=0/\∃k3 k4 k5 k6,ρ=[some (dicP ks tabs,false),some (queP qs,false),some (PV.lst ((dueL ks tabs (qs.take i)).map tblP),true),k3,k4,k5,k6]:=⟨_,λ_ _=>Iff.rfl⟩;refine⟨_,rfl,Iv,(hIv _ _).mpr ⟨rfl,none,none,none,none,rfl⟩,?_,?_⟩
 ·intro i d ρ hd hI;obtain⟨h0,k3,k4,k5,k6,rfl⟩:=(hIv _ _).mp hI;rw[Xk]at hd;cases hp:qs[i]? with
  | none=>rw[hp]at hd;cases hd
  | some p=>
   rw[hp]at hd;cases hd;obtain⟨pn,pw⟩:=p;obtain⟨w1,w4,_⟩:=qok.pat _ (Xl hp);obtain⟨f1,f2⟩:=zhI (ks:=ks) (tabs:=tabs) hp h0;have hil:i<6:=by have:=(Xj.mp hp).1;have:=qok.few;lia
   have hkl:=zlI pw w4;refine⟨_,rfl,rfl,_,_,rfl,_,_,rfl,rfl,?_⟩;have hdg:=ziK pn ks tabs;walk_at "go";refine⟨_,_,rfl,.inr pn,rfl,?_⟩;rw[hdg];cases ht:tabOf ks tabs pn with
   | none=>
    have hf:fltI ks tabs (pn,pw)=1:=by unfold fltI;rw[ht]
    rw[if_pos (show((Option.map tblP (none:Option Tb)).isSome=false) from rfl)];walk_at "go";have:=f1 (by rw[hf];decide);rw[hf]at this;have:=q1 (by rw[this];decide);rw[show dueC ks tabs qs=1 from by assumption]at this;exact this
   | some tb=>
    rw[if_neg (by simp)];obtain⟨r5,l60⟩:=dok.row tb (zdi ht);have hg:dgP (ks.map (Sum.inr:Str->Key)) (tabs.map tblP) (.inr pn)=some (tblP tb):=by rw[hdg,ht];rfl
    have hf2:(∃r∈tb,r.length≠pw)->dueC ks tabs qs=2:=λ⟨r,hr,hn⟩=>by
     have hf:fltI ks tabs (pn,pw)=2:=by unfold fltI;rw[ht];exact if_neg λh=>hn (h r hr)
     rw[<- hf];exact f1 (by rw[hf];decide)
    have hf0:(∀r∈tb,r.length=pw)->dueC ks tabs (qs.take (i+1))=0:=λh=>f2 (by unfold fltI;rw[ht];exact if_pos h);have hlen:(sortI tb).length=tb.length:=(sortI_perm tb).length_eq;walk_at "go";walk_at "go";refine⟨by decide,?_⟩;walk_at "go";obtain⟨Jv,hJv⟩:∃Jv:Nat->PEnv->Prop,∀j ρ,Jv j ρ↔(∀r∈(sortI tb).take j,r.length=pw)/\∃k6,ρ=[some (dicP ks tabs,false),some (queP qs,false),some (PV.lst ((dueL ks tabs (qs.take i)).map tblP),true),some (PV.str pn,false),some (PV.tup (XV PV.str (klS pw)),false),some (PV.lst ((setR ((sortI tb).take j)).map rowP),true),k6]:=⟨_,λ_ _=>Iff.rfl⟩;refine⟨_,_,rfl,.inr pn,rfl,_,hg,tb,rfl,znK r5,Jv,(hJv _ _).mpr ⟨λr hr=>by simp at hr,k6,rfl⟩,?_,?_⟩
    ·intro j d ρ hd hJ;obtain⟨g0,k6,rfl⟩:=(hJv _ _).mp hJ;rw[Xk]at hd;cases hq:(sortI tb)[j]? with
     | none=>rw[hq]at hd;cases hd
     | some r=>
      rw[hq]at hd;cases hd;have hm:r∈tb:=(sortI_perm tb).mem_iff.mp (Xl hq);have htk:(sortI tb).take (j+1)=(sortI tb).take j++[r]:=by rw[List.take_add_one,hq];rfl
      walk_at "go";walk_at "auto";by_cases hl:r.length=pw
      ·rw[if_neg (by rw[Xc,Xc,hkl,hl];simp)];walk_at "go";walk_at "go";have hset:setR ((sortI tb).take (j+1))=addR (setR ((sortI tb).take j)) r:=by rw[htk];unfold setR;rw[List.foldl_append];rfl
       have g1:∀r'∈(sortI tb).take (j+1),r'.length=pw:=λr' hr'=>by
        rw[htk]at hr';rcases XA.mp hr' with h | h
        ·exact g0 r' h
        ·rw[Xs.mp h];exact hl
       have hsl:(setR ((sortI tb).take j)).length<=60:=by
        have:=zfZ ((sortI tb).take j) [];have:=List.length_take_le j (sortI tb);unfold setR;simp only[List.length_nil]at *;have e2:(List.take j (sortI tb)).length<=60:=by rw[XC];lia
        lia
       refine⟨by simp[PL.plain],by rw[YJ,XM];exact λx _=>zlL 5 x,?_⟩;by_cases hin:r∈setR ((sortI tb).take j)
       ·rw[if_neg (λz=>z (ziL.mpr hin))];walk_at "go";refine(hJv _ _).mpr ⟨g1,some (PV.tup (XV PV.int r),false),?_⟩;rw[hset,show addR (setR ((sortI tb).take j)) r=setR ((sortI tb).take j) from if_pos hin]
       ·rw[if_pos (show ¬ (PV.tup (XV PV.int r)∈XV rowP (setR (List.take j (sortI tb)))) from λz=>hin (ziL.mp z))];walk_at "go";refine⟨by rw[Xc];lia,(hJv _ _).mpr ⟨g1,some (PV.tup (XV PV.int r),false),?_⟩⟩;rw[hset,show addR (setR ((sortI tb).take j)) r=setR ((sortI tb).take j)++[r] from if_neg hin,XY];rfl
      ·rw[if_pos (by rw[Xc,Xc,hkl];lia)];walk_at "go";have:=hf2 ⟨r,hm,hl⟩;have:=q1 (by rw[this];decide);rw[show dueC ks tabs qs=2 from by assumption]at this;exact this
    ·intro ρ hJ;obtain⟨g0,k6,rfl⟩:=(hJv _ _).mp hJ;rw[Xc,YL]at g0;rw[Xc,YL];walk_at "go";have hdl:dueL ks tabs (qs.take (i+1))=dueL ks tabs (qs.take i)++[setI tb]:=by
      rw[List.take_add_one,hp];show dueL ks tabs (qs.take i++[(pn,pw)])=_;unfold dueL;rw[XY];show _++[setI ((tabOf ks tabs pn).getD [])]=_;rw[ht];rfl
     refine⟨by rw[Xc];unfold dueL;rw[Xc,XC];lia,(hIv _ _).mpr ⟨hf0 λr hr=>g0 r ((sortI_perm tb).mem_iff.mpr hr),_,_,_,k6,by rw[hdl,XY];rfl⟩⟩
 ·intro ρ hI;obtain⟨h0,k3,k4,k5,k6,rfl⟩:=(hIv _ _).mp hI;rw[Xc,YL]at h0 ⊢;walk_at "go";exact q2 h0
end
noncomputable def zga:PF:=λds Q=>∃ks tabs p tb,ds=[dicP ks tabs,patP p]/\DOk ks tabs/\p.2<=4/\tabOf ks tabs p.1=some tb/\(∀r∈tb,r.length=p.2)/\Q (tblP (setI tb)) .new
theorem zcl:zct zga:=λds Q Q' m q179q=>by obtain⟨a,b,c,d,e,h1,h2,h3,h4,q⟩:=q179q;exact⟨a,b,c,d,e,h1,h2,h3,h4,m _ _ q⟩
section
variable {P:Program}{w:World}{K:Xa}{mg:Str->Option Value}{base:Heap}
theorem zdj:zaI ["tables","pattern","name","width","row"] ["tables","pattern"] (zac zaN):=⟨rfl,rfl,rfl,by decide +kernel,rfl,by decide +kernel,by decide +kernel⟩
theorem zdw {f:Addr}{fd:FuncData}(F:Fun K "rows_for" "rows_for" zaN f fd) (B:Bl mg):FnOk P w K mg base CX0 1 f fd ["tables","pattern"] (spP K zga):=by
 refine zbt F zdj (λds Q q180q=>by obtain⟨a,b,c,d,e,_⟩:=q180q;rw[e];rfl) (λcdv A outer s H E hr=>?_);have hu:(A.deeper (envOfC "rows_for" (zac zaN) s.heap.objs.size f cdv)).units+16<cLine:=by have q:=hr.units;lia
 have nd:=zdj.nd;refine⟨_,(zaf (zan (i:=2) nd rfl (Or.inl rfl) (zaK (zaa 1) zae))
   (zaf (zbw (zds (hu1 hu) (zaa 2) (zaa 0)) (zai zeM) zaM)
   (zaf (zan (i:=3) nd rfl (Or.inl rfl) (zcS rfl B.len (zab (zaK (zaa 1) zae) zad)))
   (zaf (zcD rfl PassesOwn.never (zbe (zbR (hu1 hu) (zaa 0) (zaa 2))) (zaz (i:=4) nd rfl (Or.inl rfl)) (zai (zbw (zcw hu (zcS rfl B.len (zab (zaa 4) zad)) (zaa 3)) (zai zeM) zaM)))
   (zai (zaD (zhv hu rfl rfl B.sorted rfl B.set (zbR (hu1 hu) (zaa 0) (zaa 2))))))))),λds Q h=>?_⟩
 obtain⟨ks,tabs,p,tb,rfl,dok,w4,ht,hl,q⟩:=h;have hsz:=sizeLine_eq;obtain⟨pn,pw⟩:=p;walk_at "pu";walk_at "auto";refine⟨_,.inl ⟨_,.inr rfl,rfl⟩,?_⟩;obtain⟨r5,l60⟩:=dok.row tb (zdi ht);have hdg:=ziK pn ks tabs;have hg:dgP (ks.map (Sum.inr:Str->Key)) (tabs.map tblP) (.inr pn)=some (tblP tb):=by rw[hdg,ht];rfl
 have hkl:=zlI pw w4;walk_at "auto";refine⟨_,_,rfl,.inr pn,rfl,?_⟩;rw[hg];rw[if_neg (by simp)];walk_at "auto";refine⟨_,.inl ⟨_,.inr rfl,rfl⟩,_,rfl,?_⟩;rw[show(XV PV.str (klS pw)).length=pw by rw[Xc,hkl]];walk_at "auto";obtain⟨Iv,hIv⟩:∃Iv:Nat->PEnv->Prop,∀i ρ,Iv i ρ↔∃k4,ρ=[some (dicP ks tabs,false),some (patP (pn,pw),false),some (PV.str pn,false),some (PV.int pw,false),k4]:=⟨_,λ_ _=>Iff.rfl⟩;refine⟨_,_,rfl,.inr pn,rfl,_,hg,_,rfl,Iv,(hIv _ _).mpr ⟨none,rfl⟩,?_,?_⟩
 ·intro i d ρ hd hI;obtain⟨k4,rfl⟩:=(hIv _ _).mp hI;rw[Xk]at hd;cases hq:tb[i]? with
  | none=>rw[hq]at hd;cases hd
  | some r=>
   rw[hq]at hd;cases hd;have hrl:=hl r (Xl hq);walk_at "auto";refine⟨_,rfl,?_⟩;rw[if_neg (by rw[Xc,hrl];simp)];walk_at "auto";exact(hIv _ _).mpr ⟨_,rfl⟩
 ·intro ρ hI;obtain⟨k4,rfl⟩:=(hIv _ _).mp hI;walk_at "auto";refine⟨_,_,rfl,.inr pn,rfl,_,hg,tb,rfl,znK r5,by lia,λzs n1 n2 n3=>?_⟩;rw[zlH n1 n2 n3];exact q
end
noncomputable def zhJ:PF:=λds Q=>∃ks tabs q,ds=[dicP ks tabs,queP q]/\DOk ks tabs/\QOk q/\dueC ks tabs q=0/\Q (.lst ((dueL ks tabs q).map tblP)) .new
theorem zhK:zct zhJ:=λds Q Q' m q181q=>by obtain⟨a,b,c,e,h1,h2,h3,q⟩:=q181q;exact⟨a,b,c,e,h1,h2,h3,m _ _ q⟩
noncomputable def zdX:PFB:=λds O=>∃ks tabs q,ds=[dicP ks tabs,queP q]/\DOk ks tabs/\QOk q/\dueC ks tabs q=0/\O ((dueL ks tabs q).map tblP)
theorem zgP:∀ds Q Q',(∀es,Q es->Q' es)->zdX ds Q->zdX ds Q':=λds Q Q' m q182q=>by obtain⟨a,b,c,e,h1,h2,h3,q⟩:=q182q;exact⟨a,b,c,e,h1,h2,h3,m _ q⟩
theorem zcm {ks:List Str}{tabs:List Tb}:∀ {q:List (Str×Nat)},dueC ks tabs q=0->∀p∈q,∃tb,tabOf ks tabs p.1=some tb/\∀r∈tb,r.length=p.2
 | [],_,p,h=>by cases h
 | a::q,h0,p,h=>by
  have h1:(if fltI ks tabs a=0 then dueC ks tabs q else fltI ks tabs a)=0:=h0
  by_cases ha:fltI ks tabs a=0
  ·rw[if_pos ha]at h1;rcases Xv.mp h with rfl | h
   ·unfold fltI at ha;cases ht:tabOf ks tabs p.1 with
    | none=>rw[ht]at ha;cases ha
    | some tb=>
     rw[ht]at ha;refine⟨tb,rfl,?_⟩;by_cases hh:∀r∈tb,r.length=p.2
     ·exact hh
     ·have ha2:(if ∀r∈tb,r.length=p.2 then 0 else 2)=0:=ha
      rw[if_neg hh]at ha2;cases ha2
   ·exact zcm h1 p h
  ·rw[if_neg ha]at h1;exact absurd h1 ha
theorem zgQ {ks:List Str}{tabs:List Tb}{q:List (Str×Nat)}{i:Nat}{p:Str×Nat}{tb:Tb}(hp:q[i]? = some p)(ht:tabOf ks tabs p.1=some tb):dueL ks tabs (q.take (i+1))=dueL ks tabs (q.take i)++[setI tb]:=by
 rw[List.take_add_one,hp];show dueL ks tabs (q.take i++[p])=_;unfold dueL;rw[XY];show _++[setI ((tabOf ks tabs p.1).getD [])]=_;rw[ht];rfl
section
variable {P:Program}{w:World}{K:Xa}{mg:Str->Option Value}{base:Heap}
theorem zcr:zaI ["tables","question"] ["tables","question"] (zac zaO):=⟨rfl,rfl,rfl,by decide +kernel,rfl,by decide +kernel,by decide +kernel⟩
theorem zlM {f fR:Addr}{fd fdR:FuncData}(F:Fun K "rows_of" "rows_of" zaO f fd) (B:Bl mg) (RowsFor:Fx K mg "rows_for" zaN ["tables","pattern"] fR fdR):FnOk P w K mg base CX0 2 f fd ["tables","question"] (spP K zhJ):=by
 refine zbt F zcr (λds Q q183q=>by obtain⟨a,b,c,e,_⟩:=q183q;rw[e];rfl) (λcdv A outer s H E hr=>?_);have hu:(A.deeper (envOfC "rows_of" (zac zaO) s.heap.objs.size f cdv)).units+16<cLine:=by have q:=hr.units;lia
 have nd:=zcr.nd;have GRowsFor:=zdw (P:=P) (w:=w) (base:=base) RowsFor.fn B;refine⟨_,(zai (zaD (zeq (N:=["pattern","tables"]) (k:=1) (js:=[0]) rfl (zhg (sup:=zac zaO) (XN:=["tables","question"]) rfl rfl (by decide +kernel)) (by decide) (zbN (by decide)) (zbe (zaa 1)) ⟨λ_ _ _ _ _=>(zaz (i:=0) (by show(["pattern","tables"]:List Str).Nodup;decide +kernel) rfl (Or.inl rfl)),λ_ _ _ _ _=>zcQ,λ_ _ _ _ _=>(zal GRowsFor zcl hr rfl RowsFor.mg RowsFor.fn.kp RowsFor.bd (zab (zaa 1) (zab (zaa 0) zad)))⟩))),λds Q h=>?_⟩;obtain⟨ks,tabs,qs,rfl,dok,qok,h0,q⟩:=h;have hsz:=sizeLine_eq;walk_at "pu";walk_at "auto";refine⟨_,rfl,by rw[Xc];have:=qok.few;lia,λi out=>out=(dueL ks tabs (qs.take i)).map tblP,rfl,?_,?_⟩
 ·intro i d out hd hlo hP;rw[Xk]at hd;cases hp:qs[i]? with
  | none=>rw[hp]at hd;cases hd
  | some p=>
   rw[hp]at hd;cases hd;have hm:=Xl hp;obtain⟨tb,ht,hl⟩:=zcm h0 p hm;refine⟨ks,tabs,p,tb,rfl,dok,(qok.pat p hm).2.1,ht,hl,rfl,?_⟩;show out++_=_;rw[zgQ hp ht,XY,hP];rfl
 ·intro out _ hP;rw[hP,Xc,YL];exact q
section
variable {X:Cx}{elt tg iter:Expr}{sc:Scope}{pos:Pos}{N:List Str}{k:Nat}{js:List Nat}{ti:TPI}{g:TPG}{te:TPE}
noncomputable def zqZ (K:Xa)(k:Nat)(js:List Nat)(ti:TPI)(g:TPG)(te:TPE):TE:=λσ H Q=>∃ρ Fz,Rel K Fz ρ σ H/\∃O,zbz k js ti g te ρ O/\∀es a bs Fz' H',O es->Ext Fz H Fz' H'->Box K Fz' H' (.L es) a bs->(∀b∈a::bs,H b=none)->Q (.ref a) H'
theorem zmZ (hc:X.calm=true)(S:zbC X N k js sc)(nd:js.Nodup)(hloc:LocG k g)(hi:PuI X tg iter ti)(B:PBlk X N sc tg [] elt g zbP te)(hs:autoParam (∀x,foldedSetIterable iter X.env x=pure x) aU2) :
  PE X (.ListComp elt [⟨tg,iter,[],0⟩] sc pos) (zqZ X.K k js ti g te):=
 PE.weak (zkb hc S hi.run B.blk hs) λ_ _ _ q184q=>by obtain⟨_,_,R,_,h,hO⟩:=q184q;exact zjn nd hloc hi B R h hO
end
theorem zlN (tb:Tb):zlj (tblP tb)=true:=by
 show zaC (tb.map rowP)=true;induction tb with
 | nil=>rfl
 | cons r tb ih=>
  show(zbl (rowP r)&&zaC (tb.map rowP))=true;rw[ih,Bool.and_true];show zaC (r.map PV.int)=true;induction r with
  | nil=>rfl
  | cons x r ih=>exact ih
theorem zjy {f fR:Addr}{fd fdR:FuncData}(F:Fun K "rows_of" "rows_of" zaO f fd) (B:Bl mg) (RowsFor:Fx K mg "rows_for" zaN ["tables","pattern"] fR fdR):FnOk P w K mg base CX0 2 f fd ["tables","question"] (spB K zdX):=by
 refine F.ok zcr (λvs H Q E q185q=>by obtain⟨Fz,ds,_,hd,⟨a,b,c,e,_⟩⟩:=q185q;rw[<- hd.length,e];rfl) (λcdv A outer s H vs Q E hr h=>?_);have hu:(A.deeper (envOfC "rows_of" (zac zaO) s.heap.objs.size f cdv)).units+16<cLine:=by have q:=hr.units;lia
 have nd:=zcr.nd;have GRowsFor:=zdw (P:=P) (w:=w) (base:=base) RowsFor.fn B;obtain⟨Fz,ds,al,hd,ks,tabs,qs,rfl,dok,qok,h0,q⟩:=h;obtain⟨R,no⟩:=zer (N:=["tables","question"]) al hd;have hsz:=sizeLine_eq;refine⟨_,zch (zgd (zmZ (N:=["pattern","tables"]) (k:=1) (js:=[0]) rfl (zhg (sup:=zac zaO) (XN:=["tables","question"]) rfl rfl (by decide +kernel)) (by decide) (zbN (by decide)) (zbe (zaa 1)) ⟨λ_ _ _ _ _=>(zaz (i:=0) (by show(["pattern","tables"]:List Str).Nodup;decide +kernel) rfl (Or.inl rfl)),λ_ _ _ _ _=>zcQ,λ_ _ _ _ _=>(zal GRowsFor zcl hr rfl RowsFor.mg RowsFor.fn.kp RowsFor.bd (zab (zaa 1) (zab (zaa 0) zad)))⟩)),_,Fz,R,λes=>es=(dueL ks tabs qs).map tblP,?_,λes a bs Fz' H' ho x bx hf=>q a bs Fz' H' x (ho▸bx) hf⟩;unfold zbz;walk_at "pu";refine⟨_,rfl,by rw[Xc];have:=qok.few;lia,λi out=>out=(dueL ks tabs (qs.take i)).map tblP,rfl,?_,?_⟩
 ·intro i d out hd hlo hP;rw[Xk]at hd;cases hp:qs[i]? with
  | none=>rw[hp]at hd;cases hd
  | some p=>
   rw[hp]at hd;cases hd;have hm:=Xl hp;obtain⟨tb,ht,hl⟩:=zcm h0 p hm;refine⟨ks,tabs,p,tb,rfl,dok,(qok.pat p hm).2.1,ht,hl,rfl,zlN _,?_⟩;show out++_=_;rw[zgQ hp ht,XY,hP];rfl
 ·intro out _ hP;rw[hP,Xc,YL]
end
structure Refs (K:Xa)(mg:Str->Option Value)(NT NW:Addr)(bmT bmW:List Value):Prop where
 nt:mg "NoTable" = some (.ref NT)
 nw:mg "NoWidth" = some (.ref NW)
 et:ExcC K NT bmT
 ew:ExcC K NW bmW
noncomputable def clsOf (NT NW:Addr)(n:Nat):Addr:=if n=1 then NT else NW
noncomputable def zgR (NT NW:Addr):PFX:=λds _ Z=>∃ks tabs p,ds=[dicP ks tabs,patP p]/\DOk ks tabs/\p.2<=4/\p.1.length<=100/\fltI ks tabs p≠0/\Z (clsOf NT NW (fltI ks tabs p))
section
variable {P:Program}{w:World}{K:Xa}{mg:Str->Option Value}{base:Heap}
theorem zhL {f NT NW:Addr}{fd:FuncData}{bmT bmW:List Value}(F:Fun K "rows_for" "rows_for" zaN f fd) (B:Bl mg) (Rf:Refs K mg NT NW bmT bmW):FnOk P w K mg base (CXJ P w) 1 f fd ["tables","pattern"] (spPX K (zgR NT NW)):=by
 refine ziF F zdj (λds Q Z q186q=>by obtain⟨a,b,c,e,_⟩:=q186q;rw[e];rfl) (λcdv A outer s H E hr=>?_);have hu:(A.deeper (envOfC "rows_for" (zac zaN) s.heap.objs.size f cdv)).units+16<cLine:=by have q:=hr.units;lia
 have nd:=zdj.nd;refine⟨_,(zdV (zoX (zan (i:=2) nd rfl (Or.inl rfl) (zaK (zaa 1) zae)))
  (zdV (zqR (zds (hu1 hu) (zaa 2) (zaa 0)) (zeP (ziE (zgK (zbS zfd (zbS (zly (zaa 2)) zlz))) rfl Rf.nt Rf.et rfl)) zlu)
  (zdV (zoX (zan (i:=3) nd rfl (Or.inl rfl) (zcS rfl B.len (zab (zaK (zaa 1) zae) zad))))
  (zdV (zqT rfl (FlyM.passes rfl rfl rfl) (zbe (zbR (hu1 hu) (zaa 0) (zaa 2))) (zaz (i:=4) nd rfl (Or.inl rfl)) (zeP (zqR (zcw hu (zcS rfl B.len (zab (zaa 4) zad)) (zaa 3)) (zeP (ziE (zgK (zbS zfd (zbS (zly (zaa 2)) (zbS zfd (zbS (zpa (zaa 3)) (zbS zfd zlz)))))) rfl Rf.nw Rf.ew rfl)) zlu)))
  (zeP (zoX zeM)))))),λds Q Z h=>?_⟩
 obtain⟨ks,tabs,p,rfl,dok,w4,p100,hf,q⟩:=h;have hsz:=sizeLine_eq;obtain⟨pn,pw⟩:=p;walk_at "pu";walk_at "auto";refine⟨_,.inl ⟨_,.inr rfl,rfl⟩,?_⟩;have hdg:=ziK pn ks tabs;have hkl:=zlI pw w4;walk_at "auto";refine⟨_,_,rfl,.inr pn,rfl,?_⟩;rw[hdg];cases ht:tabOf ks tabs pn with
 | none=>
  rw[if_pos (show((Option.map tblP (none:Option Tb)).isSome=false) from rfl)];have hf1:fltI ks tabs (pn,pw)=1:=by unfold fltI;rw[ht]
  rw[hf1]at q;walk_at "go";have e0:(Str.empty:Str).length=0:=rfl;have e1:(Str.ofString "there is no table ").length=18:=by decide +kernel
  have p1:pn.length<=100:=p100;refine⟨?_,?_,?_,q⟩
  all_goals (try simp only[Str.length_append])
  all_goals lia
 | some tb=>
  rw[if_neg (by simp)];obtain⟨r5,l60⟩:=dok.row tb (zdi ht);have hg:dgP (ks.map (Sum.inr:Str->Key)) (tabs.map tblP) (.inr pn)=some (tblP tb):=by rw[hdg,ht];rfl
  have hn:¬ ∀r∈tb,r.length=pw:=λh=>hf (by unfold fltI;rw[ht];exact if_pos h);have hf2:fltI ks tabs (pn,pw)=2:=by unfold fltI;rw[ht];exact if_neg hn
  rw[hf2]at q;walk_at "auto";refine⟨_,.inl ⟨_,.inr rfl,rfl⟩,_,rfl,?_⟩;rw[show(XV PV.str (klS pw)).length=pw by rw[Xc,hkl]];walk_at "auto";obtain⟨Iv,hIv⟩:∃Iv:Nat->PEnv->Prop,∀i ρ,Iv i ρ↔(∀r∈tb.take i,r.length=pw)/\∃k4,ρ=[some (dicP ks tabs,false),some (patP (pn,pw),false),some (PV.str pn,false),some (PV.int pw,false),k4]:=⟨_,λ_ _=>Iff.rfl⟩;refine⟨_,_,rfl,.inr pn,rfl,_,hg,_,rfl,Iv,(hIv _ _).mpr ⟨λr hr=>by simp at hr,none,rfl⟩,?_,?_⟩
  ·intro i d ρ hd hI;obtain⟨h0,k4,rfl⟩:=(hIv _ _).mp hI;rw[Xk]at hd;cases hq:tb[i]? with
   | none=>rw[hq]at hd;cases hd
   | some r=>
    rw[hq]at hd;cases hd;have htk:tb.take (i+1)=tb.take i++[r]:=by rw[List.take_add_one,hq];rfl
    walk_at "auto";refine⟨_,rfl,?_⟩;by_cases hrl:r.length=pw
    ·rw[if_neg (by rw[Xc,hrl];simp)];walk_at "auto";refine(hIv _ _).mpr ⟨λr' hr'=>?_,_,rfl⟩;rw[htk]at hr';rcases XA.mp hr' with h | h
     ·exact h0 r' h
     ·rw[Xs.mp h];exact hrl
    ·rw[if_pos (by rw[Xc];lia)];walk_at "go";have e0:(Str.empty:Str).length=0:=rfl;have e1:(Str.ofString "a row of ").length=9:=by decide +kernel
     have e2:(Str.ofString " has not ").length=9:=by decide +kernel
     have e3:(Str.ofString " cells").length=6:=by decide +kernel
     have p1:pn.length<=100:=p100;have w4':pw<=4:=w4;refine⟨?_,?_,?_,?_,pw,rfl,?_,λy hy=>⟨?_,?_,q⟩⟩
     all_goals (try simp only[Str.length_append])
     all_goals lia
  ·intro ρ hI;obtain⟨h0,k4,rfl⟩:=(hIv _ _).mp hI;rw[Xc,YL]at h0;exact absurd h0 hn
end
noncomputable def zgS (NT NW:Addr):PFX:=λds Q Z=>zga ds Q\/zgR NT NW ds Q Z
theorem zgb (NT NW:Addr):zqU (zgS NT NW):=λds Q Q' Z Z' m z h=>h.imp (λh=>zcl _ _ _ m h) λ q187q=>by obtain⟨a,b,c,e,h1,h2,h3,h4,q⟩:=q187q;exact⟨a,b,c,e,h1,h2,h3,h4,z _ q⟩
noncomputable def ziM (NT NW:Addr):PFX:=λds _ Z=>∃ks tabs q,ds=[dicP ks tabs,queP q]/\DOk ks tabs/\QOk q/\dueC ks tabs q≠0/\Z (clsOf NT NW (dueC ks tabs q))
section
variable {P:Program}{w:World}{K:Xa}{mg:Str->Option Value}{base:Heap}
theorem zjz {f fR NT NW:Addr}{fd fdR:FuncData}{bmT bmW:List Value}(F:Fun K "rows_of" "rows_of" zaO f fd) (B:Bl mg) (RowsFor:Fx K mg "rows_for" zaN ["tables","pattern"] fR fdR) (Rf:Refs K mg NT NW bmT bmW):FnOk P w K mg base (CXJ P w) 2 f fd ["tables","question"] (spPX K (ziM NT NW)):=by
 have GB:FnOk P w K mg base (CXJ P w) 1 fR fdR ["tables","pattern"] (spPX K (zgS NT NW)):=FnOk.both (zdw RowsFor.fn B) (zhL RowsFor.fn B Rf);refine ziF F zcr (λds Q Z q188q=>by obtain⟨a,b,c,e,_⟩:=q188q;rw[e];rfl) (λcdv A outer s H E hr=>?_);have hu:(A.deeper (envOfC "rows_of" (zac zaO) s.heap.objs.size f cdv)).units+16<cLine:=by have q:=hr.units;lia
 have nd:=zcr.nd;refine⟨_,(zeP (zqS (zmR (N:=["pattern","tables"]) (k:=1) (js:=[0]) rfl rfl rfl rfl (λpins σ e s' h=>.inl ⟨pins,σ,FlyI.zbj h⟩) (zhg (sup:=zac zaO) (XN:=["tables","question"]) rfl rfl (by decide +kernel)) (by decide) (zbN (by decide)) (zbe (zaa 1)) ⟨λ_ _ _ _ _=>(zaz (i:=0) (by show(["pattern","tables"]:List Str).Nodup;decide +kernel) rfl (Or.inl rfl)),λ_ _ _ _ _=>(zoY GB (zgb NT NW) hr rfl RowsFor.mg RowsFor.fn.kp RowsFor.bd zrK (zab (zaa 1) (zab (zaa 0) zad)))⟩))),λds Q Z h=>?_⟩;obtain⟨ks,tabs,qs,rfl,dok,qok,hne,q⟩:=h;have hsz:=sizeLine_eq;walk_at "pu";refine⟨_,rfl,by rw[Xc];have:=qok.few;lia,λi out=>dueC ks tabs (qs.take i)=0,rfl,?_,?_⟩
 ·intro i d out hd hlo hP;rw[Xk]at hd;cases hp:qs[i]? with
  | none=>rw[hp]at hd;cases hd
  | some p=>
   rw[hp]at hd;cases hd;have hm:=Xl hp;obtain⟨f1,f2⟩:=zhI (ks:=ks) (tabs:=tabs) hp hP;by_cases h0:fltI ks tabs p=0
   ·have hd1:dueC ks tabs [p]=0:=by
     show(if _ then _ else _)=0
     rw[if_pos h0];rfl
    obtain⟨tb,ht,hl⟩:=zcm hd1 p (Xs.mpr rfl);exact .inl ⟨ks,tabs,p,tb,rfl,dok,(qok.pat p hm).2.1,ht,hl,rfl,f2 h0⟩
   ·refine .inr ⟨ks,tabs,p,rfl,dok,(qok.pat p hm).2.1,(qok.pat p hm).2.2,h0,?_⟩;rw[<- f1 h0];exact q
 ·intro out _ hP;rw[Xc,YL]at hP;exact absurd hP hne
end
noncomputable def zpf (K:Xa)(NT NW:Addr):Sp:=λvs H Q _=>∃Fz ks tabs qs,(∀b,Fz b->H b≠none)/\DenL K Fz H [dicP ks tabs,queP qs] vs/\DOk ks tabs/\QOk qs/\dueC ks tabs qs≠0/\
 ∀a H',Same H H'->H' a=none->Q (.ref a) (upd H' a (ClsAt a (.ref (clsOf NT NW (dueC ks tabs qs)))))
structure RefJ (K:Xa)(mg:Str->Option Value)(NT NW J:Addr)(bmT bmW bmJ:List Value):Prop where
 j:mg "JoinError" = some (.ref J)
 ej:ExcC K J bmJ
 tj:(Value.ref NT::bmT).contains (.ref J)=true
 wj:(Value.ref NW::bmW).contains (.ref J)=true
section
variable {P:Program}{w:World}{K:Xa}{mg:Str->Option Value}{base:Heap}
theorem zlO:zaI ["_law_tables_here","_law_question_here","_law_error_here","e"] ["_law_tables_here","_law_question_here"] (zac zdA):=⟨rfl,rfl,rfl,by decide +kernel,rfl,by decide +kernel,by decide +kernel⟩
theorem zna {f fO fR NT NW J:Addr}{fd fdO fdR:FuncData}{bmT bmW bmJ:List Value}(F:Fun K "_law_error" "_law_error" zdA f fd) (B:Bl mg) (RowsOf:Fx K mg "rows_of" zaO ["tables","question"] fO fdO) (RowsFor:Fx K mg "rows_for" zaN ["tables","pattern"] fR fdR) (Rf:Refs K mg NT NW bmT bmW) (RJ:RefJ K mg NT NW J bmT bmW bmJ) :
  FnOk P w K mg base CX0 3 f fd ["_law_tables_here","_law_question_here"] (zpf K NT NW):=by
 have GX:FnOk P w K mg base (CXJ P w) 2 fO fdO ["tables","question"] (spPX K (ziM NT NW)):=zjz RowsOf.fn B RowsFor Rf;refine F.ok zlO (λvs H Q E q189q=>by obtain⟨Fz,ks,tabs,qs,_,hd,_⟩:=q189q;rw[<- hd.length];rfl) (λcdv A outer s H vs Q E hr h=>?_);have nd:=zlO.nd;obtain⟨Fz,ks,tabs,qs,al,hd,dok,qok,hne,q⟩:=h;refine⟨_,zaS (zcH (i:=2) nd rfl (.inl rfl) zjF) (zaS (zoU (i:=2) (j:=3) GX rfl rfl rfl hr rfl RowsOf.mg RowsOf.fn.kp RowsOf.bd (zak (zaP (i:=0) rfl (.inl rfl)) (zak (zaP (i:=1) rfl (.inl rfl)) zaQ)) nd rfl rfl rfl rfl (by decide) rfl RJ.j RJ.ej) (zch (zgd (zaP (i:=2) rfl (.inl rfl))))),?_⟩;obtain⟨v0,v1,rfl⟩:∃v0 v1,vs=[v0,v1]:=by
  have hl:=hd.length
  match vs,hl with
  | [v0,v1],_=>exact⟨v0,v1,rfl⟩
 refine⟨by show 3<4;decide,by show 2<4;decide,λcls o H'=>cls=.ref (clsOf NT NW (dueC ks tabs qs))/\Same H H',⟨v0,rfl,v1,rfl,Fz,_,al,hd,ks,tabs,qs,rfl,dok,qok,hne,λH' sm=>⟨rfl,sm⟩⟩,?_⟩;rintro cls o H' ⟨rfl,sm⟩;refine⟨?_,λa ha=>⟨.ref a,rfl,q a H' sm ha⟩⟩;unfold clsOf;split
 ·exact⟨NT,bmT,rfl,Rf.et,RJ.tj⟩
 ·exact⟨NW,bmW,rfl,Rf.ew,RJ.wj⟩
local macro_rules | `(tactic| walk_at "go")=>`(tactic| ((first | (with_reducible refine hold ?_) | (with_reducible refine holdT ?_) | (with_reducible refine zew ?_));walk_at "pu"))
local macro_rules | `(tactic| walk_at "side")=>`(tactic| first | assumption | decide | lia | exact⟨by decide,by decide⟩ | exact⟨by decide,by decide,by decide⟩ | exact Or.inl ⟨by lia,by lia⟩ | exact Or.inr ⟨by lia,by lia⟩)
local macro_rules | `(tactic| walk_at "auto")=>`(tactic| repeat (first | ((with_reducible refine hold ?_);walk_at "pu") | ((with_reducible refine holdT ?_);walk_at "pu") | ((with_reducible refine And.intro ?_ ?_);(· walk_at "side"))))
structure Marks (K:Xa)(mg:Str->Option Value)(NT NW NA NX NR:Addr)(bmT bmW:List Value):Prop where
 a:mg "NoAnswer" = some (.ref NA)
 x:mg "NoText" = some (.ref NX)
 r:mg "NoRow" = some (.ref NR)
 v:mg "ValueError" = none
 kt:ExcK K NT bmT
 kw:ExcK K NW bmW
 k:∀n,Xq K (.ref (clsOf NT NW n)) (.ref NT)=some (decide (n=1))/\Xq K (.ref (clsOf NT NW n)) (.ref NW)=some (!decide (n=1))/\Xq K (.ref (clsOf NT NW n)) (.ref NA)=some false/\Xq K (.ref (clsOf NT NW n)) (.ref NX)=some false/\
  Xq K (.ref (clsOf NT NW n)) (.ref NR)=some false/\Xq K (.ref (clsOf NT NW n)) (.type "ValueError")=some true
noncomputable def zhM (NT NW:Addr):Sp:=λvs H Q _=>∃a n,vs=[.ref a]/\(n=1\/n=2)/\H a=some (ClsAt a (.ref (clsOf NT NW n)))/\∀l H',Same H H'->H l=none->H' l=some (.lst [.int ((n:Int)-1)])->Q (.ref l) H'
theorem zlP:zaI ["_law_error_here","_law_found"] ["_law_error_here"] (zac zcy):=⟨rfl,rfl,rfl,by decide +kernel,rfl,by decide +kernel,by decide +kernel⟩
theorem zpg:bootBuiltins "ValueError" = some (.type "ValueError"):=by decide +kernel
theorem zcs:bootBuiltins "isinstance" = some (.builtin "isinstance"):=by decide +kernel
theorem znb {f NT NW NA NX NR:Addr}{fd:FuncData}{bmT bmW:List Value}(F:Fun K "_law_marks" "_law_marks" zcy f fd) (B:Bl mg) (Rf:Refs K mg NT NW bmT bmW) (M:Marks K mg NT NW NA NX NR bmT bmW) :
  FnOk P w K mg base CX0 1 f fd ["_law_error_here"] (zhM NT NW):=by
 refine F.ok zlP (λvs H Q E q190q=>by obtain⟨a,n,e,_⟩:=q190q;rw[e];rfl) (λcdv A outer s H vs Q E hr h=>?_);have nd:=zlP.nd;obtain⟨a,n,rfl,hn,ha,q⟩:=h;have hu:(A.deeper (envOfC "_law_marks" (zac zcy) s.heap.objs.size f cdv)).units+16<cLine:=by have q:=hr.units;lia
 refine⟨_,zaS (zcH (i:=1) nd rfl (.inr rfl) (zhT (zak (zbu zcq rfl B.isi zcs (zak (zaP (i:=0) rfl (.inl rfl)) (zak (zea (v:=.ref NT) rfl Rf.nt rfl) zaQ)))
  (zak (zbu zcq rfl B.isi zcs (zak (zaP (i:=0) rfl (.inl rfl)) (zak (zea (v:=.ref NW) rfl Rf.nw rfl) zaQ)))
  (zak (zbu zcq rfl B.isi zcs (zak (zaP (i:=0) rfl (.inl rfl)) (zak (zea (v:=.ref NA) rfl M.a rfl) zaQ))) zaQ)))))
  (zaS (zcH (i:=1) nd rfl (.inr rfl) (zpy zpT (zaP (i:=1) rfl (.inr (.inl rfl))) (zhT (zak (zbu zcq rfl B.isi zcs (zak (zaP (i:=0) rfl (.inl rfl)) (zak (zea (v:=.ref NX) rfl M.x rfl) zaQ)))
  (zak (zbu zcq rfl B.isi zcs (zak (zaP (i:=0) rfl (.inl rfl)) (zak (zea (v:=.ref NR) rfl M.r rfl) zaQ)))
  (zak (zng (zbu zcq rfl B.isi zcs (zak (zaP (i:=0) rfl (.inl rfl)) (zak (zjG (v:=.ty "ValueError") rfl M.v zpg rfl) zaQ)))) zaQ))))))
  (zch (PuS.run (zaD (zeq (N:=["_law_k","_law_found"]) (k:=1) (js:=[1]) rfl (zhg (sup:=zac zcy) (XN:=["_law_error_here","_law_found"]) rfl rfl (by decide +kernel)) (by decide) (zbN (by decide)) (zbp rfl B.range (zab zae zad)) ⟨λ_ _ _ _ _=>(zaz (i:=0) (by show(["_law_k","_law_found"]:List Str).Nodup;decide +kernel) rfl (Or.inl rfl)),λ_ _ _ _ _=>(zif (zcB (zaK (zaa 1) (zaa 0)))),λ_ _ _ _ _=>(zaa 0)⟩))))),?_⟩
 obtain⟨m1,m2,m3,m4,m5,m6⟩:=M.k n;obtain⟨bm,ek⟩:∃bm,ExcK K (clsOf NT NW n) bm:=by
  unfold clsOf;split
  ·exact⟨bmT,M.kt⟩
  ·exact⟨bmW,M.kw⟩
 generalize clsOf NT NW n=C at ha m1 m2 m3 m4 m5 m6 ek;have hsz:=sizeLine_eq;have isi:∀(D:Addr) (b:Bool) (σ:St) (H1:Hp) (Q1:VK),σ[0]? = some (some (.ref a))->H1 a=some (ClsAt a (.ref C))->Xq K (.ref C) (.ref D)=some b->Q1 (.bl b) H1->tCB (rIsX K) (zjL (tVar 0) (zjL (tC (.ref D)) tNil)) σ H1 Q1:=λD b σ H1 Q1 h0 h1 h2 h3=>⟨.ref a,h0,a,C,bm,b,h1,ek,.inr ⟨D,rfl,h2⟩,h3⟩;have isv:∀(b:Bool) (σ:St) (H1:Hp) (Q1:VK),σ[0]? = some (some (.ref a))->H1 a=some (ClsAt a (.ref C))->Xq K (.ref C) (.type "ValueError")=some b->Q1 (.bl b) H1->tCB (rIsX K) (zjL (tVar 0) (zjL (tC (.ty "ValueError")) tNil)) σ H1 Q1:=λb σ H1 Q1 h0 h1 h2 h3=>⟨.ref a,h0,a,C,bm,b,h1,ek,.inl ⟨_,rfl,h2⟩,h3⟩;refine isi NT _ _ _ _ rfl ha m1 ?_;refine isi NW _ _ _ _ rfl ha m2 ?_;refine isi NA _ _ _ _ rfl ha m3 ?_;refine⟨by show 3<=sizeLine;lia,λp hp=>?_⟩;have npa:p≠a:=λe=>by rw[e,ha]at hp;cases hp
 have ha1:upd H p (.lst [.bl (decide (n=1)),.bl (!decide (n=1)),.bl false]) a=some (ClsAt a (.ref C)):=by rw[zah (Ne.symm npa)];exact ha
 have hp1:upd H p (.lst [.bl (decide (n=1)),.bl (!decide (n=1)),.bl false]) p=some (.lst [.bl (decide (n=1)),.bl (!decide (n=1)),.bl false]):=zaj;have sm1:Same H (upd H p (.lst [.bl (decide (n=1)),.bl (!decide (n=1)),.bl false])):=(Same.refl H).upd' hp;refine⟨.ref p,rfl,?_⟩;refine isi NX _ _ _ _ rfl ha1 m4 ?_;refine isi NR _ _ _ _ rfl ha1 m5 ?_;refine isv _ _ _ _ rfl ha1 m6 ?_;refine⟨true,rfl,by show 3<=sizeLine;lia,λp2 hp2=>?_⟩;generalize upd H p (.lst [.bl (decide (n=1)),.bl (!decide (n=1)),.bl false])=H1 at ha1 hp1 sm1 hp2 ⊢;have np2:p≠p2:=λe=>by rw[<- e,hp1]at hp2;cases hp2
 refine⟨p,p2,_,_,rfl,rfl,by rw[zah np2];exact hp1,zaj,by show 3+3<=sizeLine;lia,λp3 hp3=>?_⟩;have hp2':H p2=none:=sm1.free hp2;have sm2:Same H (upd H1 p2 (.lst [.bl false,.bl false,.bl (!true)])):=sm1.upd' hp2';generalize upd H1 p2 (.lst [.bl false,.bl false,.bl (!true)])=H2 at hp3 sm2 ⊢;have hp3':H p3=none:=sm2.free hp3;have sm3:Same H (upd H2 p3 (.lst ([.bl (decide (n=1)),.bl (!decide (n=1)),.bl false]++[.bl false,.bl false,.bl (!true)]))):=sm2.upd' hp3';have h3:upd H2 p3 (.lst ([.bl (decide (n=1)),.bl (!decide (n=1)),.bl false]++[.bl false,.bl false,.bl (!true)])) p3=some (.lst [.bl (decide (n=1)),.bl (!decide (n=1)),.bl false,.bl false,.bl false,.bl false]):=zaj;generalize upd H2 p3 (.lst ([.bl (decide (n=1)),.bl (!decide (n=1)),.bl false]++[.bl false,.bl false,.bl (!true)]))=H3 at sm3 h3 ⊢;have own1:∀(i:Nat) (d:PV) (b:Bool),([none,some (.lst [.bl (decide (n=1)),.bl (!decide (n=1)),.bl false,.bl false,.bl false,.bl false],true)]:PEnv)[i]? = some (some (d,b))->i=1/\b=true/\d=.lst [.bl (decide (n=1)),.bl (!decide (n=1)),.bl false,.bl false,.bl false,.bl false]:=λi d b e=>by
  match i,e with
  | 0,e=>cases e
  | 1,e=>cases e;exact⟨rfl,rfl,rfl⟩
 have own2:∀b,zao ([none,some (.lst [.bl (decide (n=1)),.bl (!decide (n=1)),.bl false,.bl false,.bl false,.bl false],true)]:PEnv) [some (.ref a),some (.ref p3)] b->b=p3:=λb ⟨i,d,e1,e2⟩=>by
  obtain⟨rfl,_,_⟩:=own1 i d true e1;cases e2;rfl
 refine⟨[none,some (.lst [.bl (decide (n=1)),.bl (!decide (n=1)),.bl false,.bl false,.bl false,.bl false],true)],λ_=>False,⟨λb hb=>hb.elim,rfl,λi d e=>?_,λi d e=>?_,λi j d e a h1 h2 _ _=>?_⟩,?_⟩
 ·obtain⟨_,z,_⟩:=own1 i d false e;cases z
 ·obtain⟨rfl,_,rfl⟩:=own1 i d true e;refine⟨p3,rfl,λz=>z,_,h3,?_⟩;simp[PL.DenL,PL.Den]
 ·rw[(own1 i d true h1).1,(own1 j e true h2).1]
 ·have fin:∀v Fz' H',Step ([none,some (.lst [.bl (decide (n=1)),.bl (!decide (n=1)),.bl false,.bl false,.bl false,.bl false],true)]:PEnv) [some (.ref a),some (.ref p3)] (λ_=>False) H3 Fz' H'->Ret K ([none,some (.lst [.bl (decide (n=1)),.bl (!decide (n=1)),.bl false,.bl false,.bl false,.bl false],true)]:PEnv) [some (.ref a),some (.ref p3)] H3 Fz' H' (.lst [.int ((n:Int)-1)]) .new v->Q v H':=λv Fz' H' st r=>by
   obtain⟨l,rfl,nf,ow,w⟩:=r;obtain⟨ys,y1,y2⟩:=ow;refine q l H' (λb o e=>st.keep b o (sm3 b o e) λz=>?_) ?_ ?_
   ·rw[own2 b z,hp3']at e;cases e
   ·rcases w with w | w
    ·rw[own2 l w];exact hp3'
    ·exact sm3.free w
   ·rw[y1];have:ys=[.int ((n:Int)-1)]:=by
     match ys,y2 with
     | [y],y2=>simp[PL.DenL,PL.Den]at y2;rw[y2]
     | [],y2=>simp[PL.DenL]at y2
     | _::_::_,y2=>simp[PL.DenL]at y2
    rw[this]
  show pRet _ _ _;walk_at "pu";refine⟨by decide,by decide,by rw[zbm];show 6<=sizeLine;lia,λi out=>out=if n=1 then(if i=0 then[] else[PV.int 0]) else(if i<=1 then[] else[PV.int 1]),by simp,?_,?_⟩
  ·intro i d out hd hlo hP;obtain⟨hi,rfl⟩:=zbO hd;have hi6:i<6:=hi;rcases hn with rfl | rfl
   ·match i,hi6,hP with
    | 0,_,hP=>exact⟨.bl true,⟨_,rfl,rfl⟩,true,rfl,by rw[hP];rfl⟩
    | 1,_,hP=>exact⟨.bl false,⟨_,rfl,rfl⟩,false,rfl,by rw[hP];rfl⟩
    | 2,_,hP=>exact⟨.bl false,⟨_,rfl,rfl⟩,false,rfl,by rw[hP];rfl⟩
    | 3,_,hP=>exact⟨.bl false,⟨_,rfl,rfl⟩,false,rfl,by rw[hP];rfl⟩
    | 4,_,hP=>exact⟨.bl false,⟨_,rfl,rfl⟩,false,rfl,by rw[hP];rfl⟩
    | 5,_,hP=>exact⟨.bl false,⟨_,rfl,rfl⟩,false,rfl,by rw[hP];rfl⟩
   ·match i,hi6,hP with
    | 0,_,hP=>exact⟨.bl false,⟨_,rfl,rfl⟩,false,rfl,by rw[hP];rfl⟩
    | 1,_,hP=>exact⟨.bl true,⟨_,rfl,rfl⟩,true,rfl,by rw[hP];rfl⟩
    | 2,_,hP=>exact⟨.bl false,⟨_,rfl,rfl⟩,false,rfl,by rw[hP];rfl⟩
    | 3,_,hP=>exact⟨.bl false,⟨_,rfl,rfl⟩,false,rfl,by rw[hP];rfl⟩
    | 4,_,hP=>exact⟨.bl false,⟨_,rfl,rfl⟩,false,rfl,by rw[hP];rfl⟩
    | 5,_,hP=>exact⟨.bl false,⟨_,rfl,rfl⟩,false,rfl,by rw[hP];rfl⟩
  ·intro out _ hP v F' H' st al r;rw[zbm]at hP;have:out=[.int ((n:Int)-1)]:=by
    rcases hn with rfl | rfl
    ·rw[hP];rfl
    ·rw[hP];rfl
   rw[this]at r;exact fin v F' H' st r
end
noncomputable def zhN:PF:=λds Q=>∃tbs:List Tb,ds=[.lst (tbs.map tblP),.lst (tbs.map tblP)]/\tbs.length<=6/\(∀tb∈tbs,zhF tb/\tb.length<=60)/\Q (.bl true) .frz
theorem zhO:zct zhN:=λds Q Q' m q192q=>by obtain⟨a,e,h1,h2,q⟩:=q192q;exact⟨a,e,h1,h2,m _ _ q⟩
section
variable {P:Program}{w:World}{K:Xa}{mg:Str->Option Value}{base:Heap}
theorem ziN:zaI ["_law_found","_law_due_here","_law_rows","_law_row"] ["_law_found","_law_due_here"] (zac zbE):=⟨rfl,rfl,rfl,by decide +kernel,rfl,by decide +kernel,by decide +kernel⟩
theorem zlQ {f fW:Addr}{fd fdW:FuncData}(F:Fun K "_law_is_rows" "_law_is_rows" zbE f fd) (Whole:Fx K mg "_law_whole" zdd ["_law_found"] fW fdW) (B:Bl mg):FnOk P w K mg base CX0 2 f fd ["_law_found","_law_due_here"] (spP K zhN):=by
 have GWhole:=zmS (P:=P) (w:=w) (base:=base) Whole.fn B;refine zbt F ziN (λds Q q193q=>by obtain⟨a,e,_⟩:=q193q;rw[e];rfl) (λcdv A outer s H E hr=>?_);have hu:(A.deeper (envOfC "_law_is_rows" (zac zbE) s.heap.objs.size f cdv)).units+16<cLine:=by have q:=hr.units;lia
 have nd:=ziN.nd;refine⟨_,(zaf (zbw (PuW.t (znm (zen (zcB (zfg (K:=K) rfl rfl B.isi (zab (zaa 0) (zab (zjc rfl B.list zor) zad))))) (zkn (zcw hu (zaa 0) (zaa 1))))) (zai (zaD zjb)) zaM)
   (zaf (zcD rfl PassesOwn.never (zbe (zaa 0)) (zaz (i:=2) nd rfl (Or.inl rfl)) (zaf (zbw (zen (zcB (zfg (K:=K) rfl rfl B.isi (zab (zaa 2) (zab (zjc rfl B.list zor) zad))))) (zai (zaD zjb)) zaM)
   (zai (zcD rfl PassesOwn.never (zbe (zaa 2)) (zaz (i:=3) nd rfl (Or.inl rfl)) (zai (zbw (PuW.t (znm (zen (zcB (zfg (K:=K) rfl rfl B.isi (zab (zaa 3) (zab (zjc rfl B.tuple zkz) zad))))) (zkn (zcw hu (zeq (N:=["_law_cell"]) (k:=1) (js:=[]) rfl (zhg (sup:=zac zbE) (XN:=["_law_found","_law_due_here","_law_rows","_law_row"]) rfl rfl (by decide +kernel)) (by decide) (zbN (by decide)) (zoo (zaa 3)) ⟨λ_ _ _ _ _=>(zaz (i:=0) (by show(["_law_cell"]:List Str).Nodup;decide +kernel) rfl (Or.inl rfl)),λ_ _ _ _ _=>(zif (zen (zcB (zal GWhole zjt hr rfl Whole.mg Whole.fn.kp Whole.bd (zab (zaa 0) zad))))),λ_ _ _ _ _=>(zaa 0)⟩) (zcv zad))))) (zai (zaD zjb)) zaM))))))
   (zai (zaD zjb)))),λds Q h=>?_⟩
 obtain⟨tbs,rfl,h6,h60,q⟩:=h;have hsz:=sizeLine_eq;walk_at "pu";walk_at "auto";have pl:(XV tblP tbs).all (PL.plain 5)=true:=by rw[YJ,XM];exact λtb _=>zdf 2 tb
 refine⟨true,zcX,?_⟩;rw[if_neg (by decide)];refine⟨pl,pl,?_⟩;walk_at "auto";obtain⟨Iv,hIv⟩:∃Iv:Nat->PEnv->Prop,∀i ρ,Iv i ρ↔∃k2 k3,ρ=[some (PV.lst (XV tblP tbs),false),some (PV.lst (XV tblP tbs),false),k2,k3]:=⟨_,λ_ _=>Iff.rfl⟩;refine⟨Iv,(hIv _ _).mpr ⟨none,none,rfl⟩,?_,?_⟩
 ·intro i d ρ hd hI;obtain⟨k2,k3,rfl⟩:=(hIv _ _).mp hI;rw[Xk]at hd;cases hp:tbs[i]? with
  | none=>rw[hp]at hd;cases hd
  | some tb=>
   rw[hp]at hd;cases hd;obtain⟨r5,l60⟩:=h60 tb (Xl hp);walk_at "go";refine⟨(λ_ z=>by cases z),true,zcX,?_⟩;rw[if_neg (by decide)];walk_at "auto";obtain⟨Jv,hJv⟩:∃Jv:Nat->PEnv->Prop,∀i ρ,Jv i ρ↔∃k3,ρ=[some (PV.lst (XV tblP tbs),false),some (PV.lst (XV tblP tbs),false),some (tblP tb,false),k3]:=⟨_,λ_ _=>Iff.rfl⟩;refine⟨_,rfl,Jv,(hJv _ _).mpr ⟨k3,rfl⟩,?_,?_⟩
   ·intro j d ρ hd hJ;obtain⟨k3,rfl⟩:=(hJv _ _).mp hJ;rw[Xk]at hd;cases hq:tb[j]? with
    | none=>rw[hq]at hd;cases hd
    | some r=>
     rw[hq]at hd;cases hd;have hr:=(r5 r (Xl hq));walk_at "go";refine⟨(λ_ z=>by cases z),true,zcX,?_⟩;rw[if_neg (by decide)];refine⟨_,rfl,by rw[Xc];have:=hr.2;lia,λi out=>out=[],rfl,?_,?_⟩
     ·intro i d out hd _ hP;rw[Xk]at hd;cases hx:r[i]? with
      | none=>rw[hx]at hd;cases hd
      | some x=>rw[hx]at hd;cases hd;exact⟨⟨x,rfl⟩,hP⟩
     ·intro out _ hP;have hP':out=[]:=hP;subst hP';refine⟨XX _,rfl,?_⟩;rw[if_neg (by simp)];walk_at "go";exact(hJv _ _).mpr ⟨_,rfl⟩
   ·intro ρ hJ;obtain⟨k3,rfl⟩:=(hJv _ _).mp hJ;exact(hIv _ _).mpr ⟨_,_,rfl⟩
 ·intro ρ hI;obtain⟨k2,k3,rfl⟩:=(hIv _ _).mp hI;walk_at "go";exact q
end
theorem zlR {ks:List Str}{tabs:List Tb}:∀(q:List (Str×Nat)),dueC ks tabs q=0\/dueC ks tabs q=1\/dueC ks tabs q=2
 | []=>.inl rfl
 | p::q=>by
  by_cases h:fltI ks tabs p=0
  ·rw[show dueC ks tabs (p::q)=dueC ks tabs q from if_pos h];exact zlR q
  ·rw[show dueC ks tabs (p::q)=fltI ks tabs p from if_neg h];unfold fltI at h ⊢;split at h
   ·exact .inr (.inl rfl)
   ·rename_i tb _
    by_cases hh:∀r∈tb,r.length=p.2
    ·rw[if_pos hh]at h;exact absurd rfl h
    ·exact .inr (.inr (if_neg hh))
noncomputable def znL (i j:Nat):TPE:=λρ Q=>∃ks tabs qs,ρ[i]? = some (some (dicP ks tabs,false))/\ρ[j]? = some (some (queP qs,false))/\DOk ks tabs/\QOk qs/\(dueC ks tabs qs=1\/dueC ks tabs qs=2)/\Q (.lst [.int ((dueC ks tabs qs:Int)-1)]) .new
theorem znc {X:Cx}{i j k:Nat}{fE fM NT NW:Addr}{fdE fdM:FuncData}{x y:Str}{p0 p1 p2 p3 p4 p5:Pos}(GE:FnOk X.prog X.w X.K X.mg X.base CX0 k fE fdE ["_law_tables_here","_law_question_here"] (zpf X.K NT NW)) (GM:FnOk X.prog X.w X.K X.mg X.base CX0 k fM fdM ["_law_error_here"] (zhM NT NW)) (hr:Room k X.A)
  (hgE:Gl X "_law_error") (hmE:X.mg "_law_error" = some (.ref fE)) (hkE:XO X.K (.ref fE)=true) (hbE:Binds X.K fdE ["_law_tables_here","_law_question_here"] []) (hgM:Gl X "_law_marks") (hmM:X.mg "_law_marks" = some (.ref fM)) (hkM:XO X.K (.ref fM)=true) (hbM:Binds X.K fdM ["_law_error_here"] [])
  (hi:X.N[i]? = some x) (hj:X.N[j]? = some y) (hx:Vis X.env.scope x) (hy:Vis X.env.scope y) (hdx:autoParam ((x == ("__debug__" : Str))=false) aU1) (hcx:autoParam ((x == ("__classdict__" : Str))=false) aU1) (hdy:autoParam ((y == ("__debug__" : Str))=false) aU1) (hcy:autoParam ((y == ("__classdict__" : Str))=false) aU1)
  (h1:autoParam (starEach [.Name y p1] X.env=(false,eval (.Name y p1) X.env)::starEach [] X.env) aU0) (h2:autoParam (starEach [.Name x p0,.Name y p1] X.env=(false,eval (.Name x p0) X.env)::starEach [.Name y p1] X.env) aU0) (h3:autoParam ((backTo p3 (starEach [.Name y p1] X.env)).any (·.1)=false) aU0)
  (h4:autoParam (starEach [.Call (.Name "_law_error" p2) [.Name x p0,.Name y p1] [] p3] X.env=(false,eval (.Call (.Name "_law_error" p2) [.Name x p0,.Name y p1] [] p3) X.env)::starEach [] X.env) aU0) (h5:autoParam ((backTo p5 (starEach [] X.env)).any (·.1)=false) aU0) :
  PuE X (.Call (.Name "_law_marks" p4) [.Call (.Name "_law_error" p2) [.Name x p0,.Name y p1] [] p3] [] p5) (znL i j) where
 mono ρ Q Q' m h:=by obtain⟨a,b,c,e1,e2,e3,e4,e5,q⟩:=h;exact⟨a,b,c,e1,e2,e3,e4,e5,m _ _ q⟩
 run:=PE.weak (zec GM hr hgM hmM hkM hbM .nil zmd (zak (zec GE hr hgE hmE hkE hbE .nil zmd (zak (zaP hi hx hdx hcx) (zak (zaP hj hy hdy hcy) zaQ h1) h2) (by decide) h2 h3) zaQ h4) (by decide) h4 h5) λσ H Q h=>by
  obtain⟨ρ,Fz,R,ks,tabs,qs,ei,ej,dok,qok,hn,q⟩:=h;obtain⟨v0,s0,d0⟩:=R.frz i _ ei;obtain⟨v1,s1,d1⟩:=R.frz j _ ej;refine⟨v0,s0,v1,s1,Fz,ks,tabs,qs,R.al,PL.DenL.cons d0 (PL.DenL.cons d1 PL.DenL.nil),dok,qok,by lia,λa H' sm ha=>⟨a,dueC ks tabs qs,rfl,hn,zaj,λl H2 sm2 hl hl2=>?_⟩⟩;have sm1:Same H (upd H' a (ClsAt a (.ref (clsOf NT NW (dueC ks tabs qs))))):=sm.upd' (sm.free ha);have smf:=sm1.trans sm2;have hl0:H l=none:=sm1.free hl;refine q (.ref l) Fz H2 ⟨⟨smf,λ_ h=>h,λ_ h=>.inl h,λb hb z=>R.al b hb (smf.free z)⟩,l,rfl,hl0,λz=>R.al l z hl0,_,hl2,?_⟩;simp[PL.DenL,PL.Den]
noncomputable def fLaw:PF:=λds Q=>∃ns:List Int,ds=[.lst (ns.map PV.int)]/\ns.length<=63/\Q (.bl true) .frz
theorem znd:zct fLaw:=λds Q Q' m q194q=>by obtain⟨a,e,h,q⟩:=q194q;exact⟨a,e,h,m _ _ q⟩
theorem zph {K:Xa}{NT NW NA NX NR:Addr}(a1:Xq K (.ref NT) (.ref NT)=some true)(a2:Xq K (.ref NT) (.ref NW)=some false)(a3:Xq K (.ref NT) (.ref NA)=some false)(a4:Xq K (.ref NT) (.ref NX)=some false)(a5:Xq K (.ref NT) (.ref NR)=some false)(a6:Xq K (.ref NT) (.type "ValueError")=some true)
  (b1:Xq K (.ref NW) (.ref NT)=some false) (b2:Xq K (.ref NW) (.ref NW)=some true) (b3:Xq K (.ref NW) (.ref NA)=some false) (b4:Xq K (.ref NW) (.ref NX)=some false) (b5:Xq K (.ref NW) (.ref NR)=some false) (b6:Xq K (.ref NW) (.type "ValueError")=some true) :
  ∀n,Xq K (.ref (clsOf NT NW n)) (.ref NT)=some (decide (n=1))/\Xq K (.ref (clsOf NT NW n)) (.ref NW)=some (!decide (n=1))/\Xq K (.ref (clsOf NT NW n)) (.ref NA)=some false/\Xq K (.ref (clsOf NT NW n)) (.ref NX)=some false/\Xq K (.ref (clsOf NT NW n)) (.ref NR)=some false/\Xq K (.ref (clsOf NT NW n)) (.type "ValueError")=some true:=λn=>by
 by_cases h:n=1
 ·rw[show clsOf NT NW n=NT from if_pos h,decide_eq_true h];exact⟨a1,a2,a3,a4,a5,a6⟩
 ·rw[show clsOf NT NW n=NW from if_neg h,decide_eq_false h];exact⟨b1,b2,b3,b4,b5,b6⟩
theorem zra (NT J:Addr):(Value.ref NT::.ref J::bmV).contains (.ref J)=true:=by
 rw[List.contains_cons,List.contains_cons,beq_self_eq_true,Bool.true_or,Bool.or_true]
theorem zgT {K:Xa}:Xq K (.type "list") (.type "int")=some false:=zgw (by decide +kernel) (by decide +kernel) (by decide +kernel)
theorem zfp (ks:List Str):(XV keyP (ks.map Sum.inr)).all (PL.plain 5)=true:=by
 rw[YJ,YJ,XM];exact λx _=>rfl
theorem zgU (q:List (Str×Nat)):PL.plain 6 (queP q)=true:=by
 show PL.plain 6 (.lst (q.map patP))=true;simp only[PL.plain];rw[YJ,XM];intro p _;show PL.plain 5 (.tup [.str p.1,.tup ((klS p.2).map PV.str)])=true;simp only[PL.plain,List.all_cons,List.all_nil,Bool.and_true,Bool.true_and];rw[YJ,XM];exact λx _=>rfl
section
variable {P:Program}{w:World}{K:Xa}{mg:Str->Option Value}{base:Heap}
theorem zrb:zaI ["_law_script","_law_cells","_law_total","_law_names_here","_law_tables_here","_law_question_here","_law_due_here","_law_found","_law_rows","_law_kept"] ["_law_script"] (zac sLaw):=⟨rfl,rfl,rfl,by decide +kernel,rfl,by decide +kernel,by decide +kernel⟩
theorem zrc {NT NW:Addr}{f f1 f2 f3 f4 f5 f6 f7 f8:Addr}{fd fd1 fd2 fd3 fd4 fd5 fd6 fd7 fd8:FuncData}(F:Fun K "law" "law" sLaw f fd) (Names:Fx K mg "_law_names" zcx ["_law_cell"] f1 fd1) (GNames:FnOk P w K mg base CX0 3 f1 fd1 ["_law_cell"] (spP K fNames))
  (Tables:Fx K mg "_law_tables" zbD ["_law_names_here","_law_cells","_law_total"] f2 fd2) (GTables:FnOk P w K mg base CX0 3 f2 fd2 ["_law_names_here","_law_cells","_law_total"] (spP K zfX)) (Question:Fx K mg "_law_question" zaY ["_law_names_here","_law_tables_here","_law_total"] f3 fd3) (GQuestion:FnOk P w K mg base CX0 3 f3 fd3 ["_law_names_here","_law_tables_here","_law_total"] (spP K zdg))
  (Due:Fx K mg "_law_due" sDue ["_law_tables_here","_law_question_here"] f4 fd4) (GDue:FnOk P w K mg base CX0 3 f4 fd4 ["_law_tables_here","_law_question_here"] (spP K fDue)) (Error:Fx K mg "_law_error" zdA ["_law_tables_here","_law_question_here"] f5 fd5) (GError:FnOk P w K mg base CX0 3 f5 fd5 ["_law_tables_here","_law_question_here"] (zpf K NT NW)) (Mk:Fx K mg "_law_marks" zcy ["_law_error_here"] f6 fd6) (GMarks:FnOk P w K mg base CX0 3 f6 fd6 ["_law_error_here"] (zhM NT NW))
  (RowsOf:Fx K mg "rows_of" zaO ["tables","question"] f7 fd7) (GRowsOf:FnOk P w K mg base CX0 3 f7 fd7 ["tables","question"] (spP K zhJ)) (GRowsOfB:FnOk P w K mg base CX0 3 f7 fd7 ["tables","question"] (spB K zdX)) (IsRows:Fx K mg "_law_is_rows" zbE ["_law_found","_law_due_here"] f8 fd8) (GIsRows:FnOk P w K mg base CX0 3 f8 fd8 ["_law_found","_law_due_here"] (spP K zhN)) (B:Bl mg):FnOk P w K mg base CX0 4 f fd ["_law_script"] (spP K fLaw):=by
 refine zbt F zrb (λds Q q195q=>by obtain⟨c,e,_⟩:=q195q;rw[e];rfl) (λcdv A outer s H E hr=>?_);have hu:(A.deeper (envOfC "law" (zac sLaw) s.heap.objs.size f cdv)).units+16<cLine:=by have q:=hr.units;lia
 have nd:=zrb.nd;refine⟨_,(zaf (zan (i:=1) nd rfl (Or.inl rfl) (zmu (zaa 0) zcV (zcW zae)))
   (zaf (zep 1 (zan (i:=2) nd rfl (Or.inl rfl) (zqu rfl rfl B.sum (zab (zaa 1) zad))))
   (zaf (zan (i:=3) nd rfl (Or.inl rfl) (zal GNames zjv hr rfl Names.mg Names.fn.kp Names.bd (zab (zaa 2) zad)))
   (zaf (zep 3 (zan (i:=4) nd rfl (Or.inl rfl) (zal GTables zeS hr rfl Tables.mg Tables.fn.kp Tables.bd (zab (zaa 3) (zab (zaa 1) (zab (zaa 2) zad))))))
   (zaf (zan (i:=5) nd rfl (Or.inl rfl) (zal GQuestion zdh hr rfl Question.mg Question.fn.kp Question.bd (zab (zaa 3) (zab (zaa 4) (zab (zaa 2) zad)))))
   (zaf (zep 5 (zan (i:=6) nd rfl (Or.inl rfl) (zal GDue zmX hr rfl Due.mg Due.fn.kp Due.bd (zab (zaa 4) (zab (zaa 5) zad)))))
   (zaf (zep 6 (zbw (zcB (zfg (K:=K) rfl rfl B.isi (zab (zaa 6) (zab (zjc rfl B.int bInt) zad)))) (zai (zbw (zcw hu (znc (i:=4) (j:=5) GError GMarks hr rfl Error.mg Error.fn.kp Error.bd rfl Mk.mg Mk.fn.kp Mk.bd rfl rfl (Or.inl rfl) (Or.inl rfl)) (zcv (zab (znj (zaa 6) zae) zad))) (zai (zaD zjb)) zaM)) (zjp GRowsOfB zgP rfl hr rfl RowsOf.mg RowsOf.fn.kp RowsOf.bd (zab (zaa 4) (zab (zaa 5) zad)) (zen (zcB (zal GIsRows zhO hr rfl IsRows.mg IsRows.fn.kp IsRows.bd (zab (zaa 7) (zab (zaa 6) zad))))) (zai (zbw (zcw hu (zal GRowsOf zhK hr rfl RowsOf.mg RowsOf.fn.kp RowsOf.bd (zab (zaa 4) (zab (zaa 5) zad))) (zaa 6)) (zai (zaD zjb)) zaM)) nd (z:=7) (i:=8) rfl (Or.inl rfl) rfl (Or.inl rfl))))
   (zaf (zan (i:=9) nd rfl (Or.inl rfl) (zal GTables zeS hr rfl Tables.mg Tables.fn.kp Tables.bd (zab (zaa 3) (zab (zaa 1) (zab (zaa 2) zad)))))
   (zai (zaD (zko (zqL hu (zaa 4) (zaa 9)) (zko (zqf hu (zdT rfl rfl B.list (zaa 4)) (zdT rfl rfl B.list (zaa 9))) (znn (zqf hu (zaa 5) (zal GQuestion zdh hr rfl Question.mg Question.fn.kp Question.bd (zab (zaa 3) (zab (zaa 9) (zab (zaa 2) zad)))))))))))))))))),λds Q h=>?_⟩
 obtain⟨ns,rfl,h63,q⟩:=h;have hsz:=sizeLine_eq;walk_at "pu";have hcut:∃cs:List Int,cutP (ns.map PV.int) none (some 60)=cs.map PV.int/\cs.length<=60:=by
  refine⟨ns.take 60,by rw[show(60:Int)=((60:Nat):Int) from rfl,zfY,List.map_take],by rw[XC];lia⟩
 obtain⟨cs,hcut,hcs⟩:=hcut;rw[hcut];walk_at "go";refine⟨cs,rfl,?_⟩;generalize cs.sum=t;walk_at "go";refine⟨t,rfl,λnms hn7 hnd hn100=>?_⟩;have nok:NsOk nms:=⟨hn7,hnd,hn100⟩;show Hold _ _ _;walk_at "go";refine⟨nms,cs,t,rfl,nok,hcs,?_⟩;show Hold _ _ _;walk_at "go";refine⟨nms,_,t,rfl,nok,?_⟩;show Hold _ _ _;walk_at "go";have T:=zmW nms t cs;have dok:DOk (zaH nms t) (zdv nms t cs):=⟨by rw[zeQ,T.len],ziI nok t,by rw[T.len];exact(zbA t).2,λtb h=>⟨T.row tb h,YH (T.few tb h) hcs⟩⟩;have qok:QOk (queI nms t):=by
  refine⟨by unfold queI;rw[Xc,YO];exact(zlJ t).2,λp hp=>?_⟩;obtain⟨k,hk,rfl⟩:=XL.mp hp;refine⟨(zlK nms t k).1,(zlK nms t k).2,?_⟩;unfold patQ;dsimp only;split
  ·have h6:nms[6]? = some (nms.getD 6 ⟨#[]⟩):=by
    rw[Xb (by lia),XW,Xb (by lia)];rfl
   exact hn100 _ (Xl h6)
  ·exact hn100 _ (Xl (zdu nok t _))
 have tail:∀k6 k7 k8,Hold (pSeq (pSet 9 (zbg zfX (zaZ (pVar 3) (zaZ (pVar 1) (zaZ (pVar 2) pNil))))) (pRet (zcO (t2 pEqD (pVar 4) (pVar 9)) (zcO (t2 (pEq false) (zby (pVar 4)) (zby (pVar 9))) (t2 (pEq false) (pVar 5) (zbg zdg (zaZ (pVar 3) (zaZ (pVar 9) (zaZ (pVar 2) pNil))))))))) { nx:=λx=>Q PV.non Kd.frz,rt:=Q,bk:=λx=>False,ct:=λx=>False } [some (PV.lst (XV PV.int ns),false),some (PV.lst (XV PV.int cs),false),some (PV.int t,false),some (PV.lst (XV PV.str nms),false),some (zqW nms t cs,false),some (queP (queI nms t),false),k6,k7,k8,none]:=λk6 k7 k8=>by
  walk_at "go";refine⟨nms,cs,t,rfl,nok,hcs,?_⟩;show Hold _ _ _;walk_at "go";refine⟨_,_,rfl,rfl,by rw[YJ,XM];exact λtb _=>zdf 2 tb,_,⟨_,rfl⟩,_,⟨_,rfl⟩,zfp _,zfp _,?_⟩;rw[if_pos rfl];refine⟨nms,_,t,rfl,nok,zgU _,zgU _,?_⟩;rw[show decide (queP (queI nms t)=queP (queI nms t))=true from decide_eq_true rfl];exact q
 refine⟨zaH nms t,zdv nms t cs,queI nms t,rfl,dok,qok,λhne=>?_,λh0=>?_⟩
 ·show Hold _ _ _;walk_at "go";refine⟨true,zcX,?_⟩;rw[if_pos rfl];walk_at "go";refine⟨_,_,rfl,_,rfl,dok,qok,(zlR _).resolve_left hne,by lia,rfl,rfl,?_⟩;rw[if_neg (by simp)];walk_at "go";exact tail _ _ _
 ·show Hold _ _ _;walk_at "go";refine⟨false,zgT,?_⟩;rw[if_neg Xr];walk_at "go";have hdl:(dueL (zaH nms t) (zdv nms t cs) (queI nms t)).length<=6:=by unfold dueL;rw[Xc];exact qok.few
  have hdt:∀tb∈dueL (zaH nms t) (zdv nms t cs) (queI nms t),zhF tb/\tb.length<=60:=λtb h=>by
   obtain⟨p,hp,rfl⟩:=XL.mp h;obtain⟨tb,ht,_⟩:=zcm h0 p hp;rw[ht];obtain⟨r5,l60⟩:=dok.row tb (zdi ht);exact⟨λr hr=>r5 r (((zlG tb).2.2 r).mp hr),YH (zpd tb) l60⟩
  have pl:(XV tblP (dueL (zaH nms t) (zdv nms t cs) (queI nms t))).all (PL.plain 5)=true:=by rw[YJ,XM];exact λtb _=>zdf 2 tb
  refine⟨by decide,by decide,_,_,_,rfl,dok,qok,h0,by rw[Xc];lia,λl hl=>?_,dueL (zaH nms t) (zdv nms t cs) (queI nms t),rfl,hdl,hdt,true,rfl,?_⟩
  ·obtain⟨tb,htb,rfl⟩:=XL.mp hl;exact⟨_,rfl,by rw[Xc];have:=(hdt tb htb).2;lia⟩
  ·rw[if_neg (by decide)];walk_at "go";refine⟨_,_,_,rfl,dok,qok,h0,pl,pl,?_⟩;rw[if_neg (λz=>z rfl)];walk_at "go";exact tail _ _ _
theorem zne:∀ns:List Int,ns.length<=63->fLaw [.lst (ns.map PV.int)] λd k=>d=.bl true:=λns h=>⟨ns,rfl,h,rfl⟩
end
theorem len1 {us:List Value}{s0:Str}(h:us.length=[s0].length):∃a0,us=[a0]:=by obtain⟨a0,us,rfl⟩:=Yj h;have h:=Nat.succ.inj h;rw[Yi.mp h];exact⟨a0,rfl⟩
theorem len2 {us:List Value}{s0 s1:Str}(h:us.length=[s0,s1].length):∃a0 a1,us=[a0,a1]:=by obtain⟨a0,us,rfl⟩:=Yj h;have h:=Nat.succ.inj h;obtain⟨a1,us,rfl⟩:=Yj h;have h:=Nat.succ.inj h;rw[Yi.mp h];exact⟨a0,a1,rfl⟩
theorem len3 {us:List Value}{s0 s1 s2:Str}(h:us.length=[s0,s1,s2].length):∃a0 a1 a2,us=[a0,a1,a2]:=by obtain⟨a0,us,rfl⟩:=Yj h;have h:=Nat.succ.inj h;obtain⟨a1,us,rfl⟩:=Yj h;have h:=Nat.succ.inj h;obtain⟨a2,us,rfl⟩:=Yj h;have h:=Nat.succ.inj h;rw[Yi.mp h];exact⟨a0,a1,a2,rfl⟩
theorem all_mk {l:PySem.W.OpenLaw}{w:World}{K:Xa}{h:Heap}{mg:Str->Option Value}{fa f0 f1 f2 f3 f4 f5 f6 f7 f8 f9 f10 f11 f12 g0 g1 g2 g3 g4 g5:Addr}(X:K.In h)(G:h.Ns mainGlobals mg)(hfa:mg "law" = some (.ref fa))
  {od0 an0 od1 an1 od2 an2 od3 an3 od4 an4 od5 an5 od6 an6 od7 an7 od8 an8 od9 an9 od10 an10 od11 an11 od12 an12:Option Addr} {sl0 sl1 sl2 sl3 sl4 sl5 sl6 sl7 sl8 sl9 sl10 sl11 sl12:Array (Option Value)} {oc0 kV0 dc0 pm0 cd0 ct0 oc1 kV1 dc1 pm1 cd1 ct1 oc2 kV2 dc2 pm2 cd2 ct2 oc3 kV3 dc3 pm3 cd3 ct3 oc4 kV4 dc4 pm4 cd4 ct4 oc5 kV5 dc5 pm5 cd5 ct5 oc6 kV6 dc6 pm6 cd6 ct6 oc7 kV7 dc7 pm7 cd7 ct7 oc8 kV8 dc8 pm8 cd8 ct8 oc9 kV9 dc9 pm9 cd9 ct9 oc10 kV10 dc10 pm10 cd10 ct10 oc11 kV11 dc11 pm11 cd11 ct11 oc12 kV12 dc12 pm12 cd12 ct12:Value}
  (a0:Xy K mainGlobals "rows_for" = some (some (.ref f0))) (l0:K.lookup f0=some ⟨oc0,od0,.func (Yo "rows_for" "rows_for" (zaJ zaN) (zay zaN) (zac zaN) .none kV0 dc0 pm0 an0 cd0 ct0),sl0⟩) (c0:Yq K cd0 "rows_for" = true) (k0:XO K (.ref f0)=true)
  (a1:Xy K mainGlobals "rows_of" = some (some (.ref f1))) (l1:K.lookup f1=some ⟨oc1,od1,.func (Yo "rows_of" "rows_of" (zaJ zaO) (zay zaO) (zac zaO) .none kV1 dc1 pm1 an1 cd1 ct1),sl1⟩) (c1:Yq K cd1 "rows_of" = true) (k1:XO K (.ref f1)=true)
  (a2:Xy K mainGlobals "_law_whole" = some (some (.ref f2))) (l2:K.lookup f2=some ⟨oc2,od2,.func (Yo "_law_whole" "_law_whole" (zaJ zdd) (zay zdd) (zac zdd) .none kV2 dc2 pm2 an2 cd2 ct2),sl2⟩) (c2:Yq K cd2 "_law_whole" = true) (k2:XO K (.ref f2)=true)
  (a3:Xy K mainGlobals "_law_mix" = some (some (.ref f3))) (l3:K.lookup f3=some ⟨oc3,od3,.func (Yo "_law_mix" "_law_mix" (zaJ sMix) (zay sMix) (zac sMix) .none kV3 dc3 pm3 an3 cd3 ct3),sl3⟩) (c3:Yq K cd3 "_law_mix" = true) (k3:XO K (.ref f3)=true)
  (a4:Xy K mainGlobals "_law_names" = some (some (.ref f4))) (l4:K.lookup f4=some ⟨oc4,od4,.func (Yo "_law_names" "_law_names" (zaJ zcx) (zay zcx) (zac zcx) .none kV4 dc4 pm4 an4 cd4 ct4),sl4⟩) (c4:Yq K cd4 "_law_names" = true) (k4:XO K (.ref f4)=true)
  (a5:Xy K mainGlobals "_law_numbers" = some (some (.ref f5))) (l5:K.lookup f5=some ⟨oc5,od5,.func (Yo "_law_numbers" "_law_numbers" (zaJ zbn) (zay zbn) (zac zbn) .none kV5 dc5 pm5 an5 cd5 ct5),sl5⟩) (c5:Yq K cd5 "_law_numbers" = true) (k5:XO K (.ref f5)=true)
  (a6:Xy K mainGlobals "_law_tables" = some (some (.ref f6))) (l6:K.lookup f6=some ⟨oc6,od6,.func (Yo "_law_tables" "_law_tables" (zaJ zbD) (zay zbD) (zac zbD) .none kV6 dc6 pm6 an6 cd6 ct6),sl6⟩) (c6:Yq K cd6 "_law_tables" = true) (k6:XO K (.ref f6)=true)
  (a7:Xy K mainGlobals "_law_question" = some (some (.ref f7))) (l7:K.lookup f7=some ⟨oc7,od7,.func (Yo "_law_question" "_law_question" (zaJ zaY) (zay zaY) (zac zaY) .none kV7 dc7 pm7 an7 cd7 ct7),sl7⟩) (c7:Yq K cd7 "_law_question" = true) (k7:XO K (.ref f7)=true)
  (a8:Xy K mainGlobals "_law_due" = some (some (.ref f8))) (l8:K.lookup f8=some ⟨oc8,od8,.func (Yo "_law_due" "_law_due" (zaJ sDue) (zay sDue) (zac sDue) .none kV8 dc8 pm8 an8 cd8 ct8),sl8⟩) (c8:Yq K cd8 "_law_due" = true) (k8:XO K (.ref f8)=true)
  (a9:Xy K mainGlobals "_law_error" = some (some (.ref f9))) (l9:K.lookup f9=some ⟨oc9,od9,.func (Yo "_law_error" "_law_error" (zaJ zdA) (zay zdA) (zac zdA) .none kV9 dc9 pm9 an9 cd9 ct9),sl9⟩) (c9:Yq K cd9 "_law_error" = true) (k9:XO K (.ref f9)=true)
  (a10:Xy K mainGlobals "_law_marks" = some (some (.ref f10))) (l10:K.lookup f10=some ⟨oc10,od10,.func (Yo "_law_marks" "_law_marks" (zaJ zcy) (zay zcy) (zac zcy) .none kV10 dc10 pm10 an10 cd10 ct10),sl10⟩) (c10:Yq K cd10 "_law_marks" = true) (k10:XO K (.ref f10)=true)
  (a11:Xy K mainGlobals "_law_is_rows" = some (some (.ref f11))) (l11:K.lookup f11=some ⟨oc11,od11,.func (Yo "_law_is_rows" "_law_is_rows" (zaJ zbE) (zay zbE) (zac zbE) .none kV11 dc11 pm11 an11 cd11 ct11),sl11⟩) (c11:Yq K cd11 "_law_is_rows" = true) (k11:XO K (.ref f11)=true)
  (a12:Xy K mainGlobals "law" = some (some (.ref f12))) (l12:K.lookup f12=some ⟨oc12,od12,.func (Yo "law" "law" (zaJ sLaw) (zay sLaw) (zac sLaw) .none kV12 dc12 pm12 an12 cd12 ct12),sl12⟩) (c12:Yq K cd12 "law" = true) (k12:XO K (.ref f12)=true)
  (z0:Xy K mainGlobals "range" = some none)
  (z1:Xy K mainGlobals "len" = some none)
  (z2:Xy K mainGlobals "list" = some none)
  (z3:Xy K mainGlobals "tuple" = some none)
  (z4:Xy K mainGlobals "sorted" = some none)
  (z5:Xy K mainGlobals "set" = some none)
  (z6:Xy K mainGlobals "isinstance" = some none)
  (z7:Xy K mainGlobals "str" = some none)
  (z8:Xy K mainGlobals "int" = some none)
  (z9:Xy K mainGlobals "bool" = some none)
  (z10:Xy K mainGlobals "dict" = some none)
  (z11:Xy K mainGlobals "enumerate" = some none)
  (z12:Xy K mainGlobals "zip" = some none)
  (z13:Xy K mainGlobals "min" = some none)
  (z14:Xy K mainGlobals "max" = some none)
  (z15:Xy K mainGlobals "sum" = some none)
  (z16:Xy K mainGlobals "all" = some none)
  (z17:Xy K mainGlobals "any" = some none)
  (z18:Xy K mainGlobals "reversed" = some none)
  (z19:Xy K mainGlobals "abs" = some none)
  (z20:Xy K mainGlobals "ord" = some none)
  (y0:Xy K mainGlobals "NoTable" = some (some (.ref g0)))
  (y1:Xy K mainGlobals "NoWidth" = some (some (.ref g1)))
  (y2:Xy K mainGlobals "NoAnswer" = some (some (.ref g2)))
  (y3:Xy K mainGlobals "NoText" = some (some (.ref g3)))
  (y4:Xy K mainGlobals "NoRow" = some (some (.ref g4)))
  (y5:Xy K mainGlobals "JoinError" = some (some (.ref g5)))
  (v0:Xy K mainGlobals "ValueError" = some none)
  (et:PySem.W.excIn K g0 bmV "ValueError.__new__" = true)
  (mt:mroIn K g0 (.ref g5::bmV)=true)
  (gat:YM K (.ref g0) "__getattribute__" = some (some (.builtin "BaseException.__getattribute__")))
  (gtt:YM K (.ref g0) "__getattr__" = some none)
  (cat:YM K (.ref g0) "__class__" = some (some (.builtin "object.__class__")))
  (kt0:Xq K (.ref g0) (.ref g0)=some true)
  (kt1:Xq K (.ref g0) (.ref g1)=some false)
  (kt2:Xq K (.ref g0) (.ref g2)=some false)
  (kt3:Xq K (.ref g0) (.ref g3)=some false)
  (kt4:Xq K (.ref g0) (.ref g4)=some false)
  (kt5:Xq K (.ref g0) (.type "ValueError")=some true)
  (ew:PySem.W.excIn K g1 bmV "ValueError.__new__" = true)
  (mw:mroIn K g1 (.ref g5::bmV)=true)
  (gaw:YM K (.ref g1) "__getattribute__" = some (some (.builtin "BaseException.__getattribute__")))
  (gtw:YM K (.ref g1) "__getattr__" = some none)
  (caw:YM K (.ref g1) "__class__" = some (some (.builtin "object.__class__")))
  (kw0:Xq K (.ref g1) (.ref g0)=some false)
  (kw1:Xq K (.ref g1) (.ref g1)=some true)
  (kw2:Xq K (.ref g1) (.ref g2)=some false)
  (kw3:Xq K (.ref g1) (.ref g3)=some false)
  (kw4:Xq K (.ref g1) (.ref g4)=some false)
  (kw5:Xq K (.ref g1) (.type "ValueError")=some true)
  (ej:PySem.W.excIn K g5 bmV "ValueError.__new__" = true)
  (mj:mroIn K g5 bmV=true) :
  ∃fd:FuncData,(∀(s:Shared) (v:Value),BindsTo s fd ⟨[v],[]⟩ [("_law_script",v)])/\∀base:Heap,K.In base->base.Ns mainGlobals mg->FnOk l.prog w K mg base CX0 4 fa fd ["_law_script"] (spP K fLaw):=by
 have e:=hfa.symm.trans (Yk X G a12);cases e;have F0:=zbG (st:=zaN) l0 c0 k0;have X0:Fx K mg "rows_for" zaN ["tables","pattern"] f0 _:=⟨F0,F0.binds (ps:=["tables","pattern"]) λ_ _ _ _ _ _ us hl=>by obtain⟨_,_,rfl⟩:=len2 hl;rfl,Yk X G a0⟩;have F1:=zbG (st:=zaO) l1 c1 k1;have X1:Fx K mg "rows_of" zaO ["tables","question"] f1 _:=⟨F1,F1.binds (ps:=["tables","question"]) λ_ _ _ _ _ _ us hl=>by obtain⟨_,_,rfl⟩:=len2 hl;rfl,Yk X G a1⟩;have F2:=zbG (st:=zdd) l2 c2 k2;have X2:Fx K mg "_law_whole" zdd ["_law_found"] f2 _:=⟨F2,F2.binds (ps:=["_law_found"]) λ_ _ _ _ _ _ us hl=>by obtain⟨_,rfl⟩:=len1 hl;rfl,Yk X G a2⟩;have F3:=zbG (st:=sMix) l3 c3 k3;have X3:Fx K mg "_law_mix" sMix ["_law_cell","_law_j"] f3 _:=⟨F3,F3.binds (ps:=["_law_cell","_law_j"]) λ_ _ _ _ _ _ us hl=>by obtain⟨_,_,rfl⟩:=len2 hl;rfl,Yk X G a3⟩;have F4:=zbG (st:=zcx) l4 c4 k4;have X4:Fx K mg "_law_names" zcx ["_law_cell"] f4 _:=⟨F4,F4.binds (ps:=["_law_cell"]) λ_ _ _ _ _ _ us hl=>by obtain⟨_,rfl⟩:=len1 hl;rfl,Yk X G a4⟩;have F5:=zbG (st:=zbn) l5 c5 k5;have X5:Fx K mg "_law_numbers" zbn ["_law_cell"] f5 _:=⟨F5,F5.binds (ps:=["_law_cell"]) λ_ _ _ _ _ _ us hl=>by obtain⟨_,rfl⟩:=len1 hl;rfl,Yk X G a5⟩;have F6:=zbG (st:=zbD) l6 c6 k6;have X6:Fx K mg "_law_tables" zbD ["_law_names_here","_law_cells","_law_total"] f6 _:=⟨F6,F6.binds (ps:=["_law_names_here","_law_cells","_law_total"]) λ_ _ _ _ _ _ us hl=>by obtain⟨_,_,_,rfl⟩:=len3 hl;rfl,Yk X G a6⟩;have F7:=zbG (st:=zaY) l7 c7 k7;have X7:Fx K mg "_law_question" zaY ["_law_names_here","_law_tables_here","_law_total"] f7 _:=⟨F7,F7.binds (ps:=["_law_names_here","_law_tables_here","_law_total"]) λ_ _ _ _ _ _ us hl=>by obtain⟨_,_,_,rfl⟩:=len3 hl;rfl,Yk X G a7⟩;have F8:=zbG (st:=sDue) l8 c8 k8;have X8:Fx K mg "_law_due" sDue ["_law_tables_here","_law_question_here"] f8 _:=⟨F8,F8.binds (ps:=["_law_tables_here","_law_question_here"]) λ_ _ _ _ _ _ us hl=>by obtain⟨_,_,rfl⟩:=len2 hl;rfl,Yk X G a8⟩;have F9:=zbG (st:=zdA) l9 c9 k9;have X9:Fx K mg "_law_error" zdA ["_law_tables_here","_law_question_here"] f9 _:=⟨F9,F9.binds (ps:=["_law_tables_here","_law_question_here"]) λ_ _ _ _ _ _ us hl=>by obtain⟨_,_,rfl⟩:=len2 hl;rfl,Yk X G a9⟩;have F10:=zbG (st:=zcy) l10 c10 k10;have X10:Fx K mg "_law_marks" zcy ["_law_error_here"] f10 _:=⟨F10,F10.binds (ps:=["_law_error_here"]) λ_ _ _ _ _ _ us hl=>by obtain⟨_,rfl⟩:=len1 hl;rfl,Yk X G a10⟩;have F11:=zbG (st:=zbE) l11 c11 k11;have X11:Fx K mg "_law_is_rows" zbE ["_law_found","_law_due_here"] f11 _:=⟨F11,F11.binds (ps:=["_law_found","_law_due_here"]) λ_ _ _ _ _ _ us hl=>by obtain⟨_,_,rfl⟩:=len2 hl;rfl,Yk X G a11⟩;have F12:=zbG (st:=sLaw) l12 c12 k12;have B:Bl mg:=⟨XI X G z0,XI X G z1,XI X G z2,XI X G z3,XI X G z4,XI X G z5,XI X G z6,XI X G z7,XI X G z8,XI X G z9,XI X G z10,XI X G z11,XI X G z12,XI X G z13,XI X G z14,XI X G z15,XI X G z16,XI X G z17,XI X G z18,XI X G z19,XI X G z20⟩;have Rf:Refs K mg g0 g1 (.ref g5::bmV) (.ref g5::bmV):=⟨Yk X G y0,Yk X G y1,zeN et mt,zeN ew mw⟩;have RJ:RefJ K mg g0 g1 g5 (.ref g5::bmV) (.ref g5::bmV) bmV:=⟨Yk X G y5,zeN ej mj,zra _ _,zra _ _⟩;have M:Marks K mg g0 g1 g2 g3 g4 (.ref g5::bmV) (.ref g5::bmV):=⟨Yk X G y2,Yk X G y3,Yk X G y4,XI X G v0,⟨zeN et mt,gat,gtt,cat⟩,⟨zeN ew mw,gaw,gtw,caw⟩,zph kt0 kt1 kt2 kt3 kt4 kt5 kw0 kw1 kw2 kw3 kw4 kw5⟩;exact⟨Yo "law" "law" (zaJ sLaw) (zay sLaw) (zac sLaw) .none kV12 dc12 pm12 an12 cd12 ct12,λs v=>.of_eq rfl,λbase _ _=>zrc F12 X4 ((zmT X4.fn X3 B).mono (by decide)) X6 (zlF X6.fn X3 X5 B) X7 ((zhH X7.fn X3 B).mono (by decide)) X8 ((zqY X8.fn B).mono (by decide)) X9 (zna X9.fn B X1 X0 Rf RJ) X10 ((znb X10.fn B Rf M).mono (by decide)) X1 ((zlM X1.fn B X0).mono (by decide)) ((zjy X1.fn B X0).mono (by decide)) X11 ((zlQ X11.fn X2 B).mono (by decide)) B⟩
end Q02
open PySem PySem.W
set_option maxRecDepth 100000 in
set_option maxHeartbeats 0 in
theorem PySem.Challenge.cw_joinwood_k02_rows_holds : PySem.Challenge.rw_joinwood_k02_rows.Holds := by
 w_on;o_law;k_head;(case hw=>w_witness2)
 k_fill
 refine PL.zrD (l:=PySem.Challenge.rw_joinwood_k02_rows) (k:=4) (FL:=Q02.fLaw) (x:="_law_script") rfl rfl ⟨rfl,by decide,by decide⟩ Q02.znd (fun w h Y=>PySem.W.kIn_of Y) ?F Q02.zne
 case F=>
  intro w mg fa h KX G hmg
  refine' Q02.all_mk KX G hmg ?a0 ?l0 ?c0 ?k0 ?a1 ?l1 ?c1 ?k1 ?a2 ?l2 ?c2 ?k2 ?a3 ?l3 ?c3 ?k3 ?a4 ?l4 ?c4 ?k4 ?a5 ?l5 ?c5 ?k5 ?a6 ?l6 ?c6 ?k6 ?a7 ?l7 ?c7 ?k7 ?a8 ?l8 ?c8 ?k8 ?a9 ?l9 ?c9 ?k9 ?a10 ?l10 ?c10 ?k10 ?a11 ?l11 ?c11 ?k11 ?a12 ?l12 ?c12 ?k12 ?z0 ?z1 ?z2 ?z3 ?z4 ?z5 ?z6 ?z7 ?z8 ?z9 ?z10 ?z11 ?z12 ?z13 ?z14 ?z15 ?z16 ?z17 ?z18 ?z19 ?z20 ?y0 ?y1 ?y2 ?y3 ?y4 ?y5 ?v0 ?et ?mt ?gat ?gtt ?cat ?kt0 ?kt1 ?kt2 ?kt3 ?kt4 ?kt5 ?ew ?mw ?gaw ?gtw ?caw ?kw0 ?kw1 ?kw2 ?kw3 ?kw4 ?kw5 ?ej ?mj
  (case a0=>k_is)
  (case l0=>k_is)
  (case c0=>k_is)
  (case k0=>k_is)
  (case a1=>k_is)
  (case l1=>k_is)
  (case c1=>k_is)
  (case k1=>k_is)
  (case a2=>k_is)
  (case l2=>k_is)
  (case c2=>k_is)
  (case k2=>k_is)
  (case a3=>k_is)
  (case l3=>k_is)
  (case c3=>k_is)
  (case k3=>k_is)
  (case a4=>k_is)
  (case l4=>k_is)
  (case c4=>k_is)
  (case k4=>k_is)
  (case a5=>k_is)
  (case l5=>k_is)
  (case c5=>k_is)
  (case k5=>k_is)
  (case a6=>k_is)
  (case l6=>k_is)
  (case c6=>k_is)
  (case k6=>k_is)
  (case a7=>k_is)
  (case l7=>k_is)
  (case c7=>k_is)
  (case k7=>k_is)
  (case a8=>k_is)
  (case l8=>k_is)
  (case c8=>k_is)
  (case k8=>k_is)
  (case a9=>k_is)
  (case l9=>k_is)
  (case c9=>k_is)
  (case k9=>k_is)
  (case a10=>k_is)
  (case l10=>k_is)
  (case c10=>k_is)
  (case k10=>k_is)
  (case a11=>k_is)
  (case l11=>k_is)
  (case c11=>k_is)
  (case k11=>k_is)
  (case a12=>k_is)
  (case l12=>k_is)
  (case c12=>k_is)
  (case k12=>k_is)
  (case z0=>k_is)
  (case z1=>k_is)
  (case z2=>k_is)
  (case z3=>k_is)
  (case z4=>k_is)
  (case z5=>k_is)
  (case z6=>k_is)
  (case z7=>k_is)
  (case z8=>k_is)
  (case z9=>k_is)
  (case z10=>k_is)
  (case z11=>k_is)
  (case z12=>k_is)
  (case z13=>k_is)
  (case z14=>k_is)
  (case z15=>k_is)
  (case z16=>k_is)
  (case z17=>k_is)
  (case z18=>k_is)
  (case z19=>k_is)
  (case z20=>k_is)
  (case y0=>k_is)
  (case y1=>k_is)
  (case y2=>k_is)
  (case y3=>k_is)
  (case y4=>k_is)
  (case y5=>k_is)
  (case v0=>k_is)
  (case et=>first | k_is | k_exc | kit_is | kernel_rfl)
  (case mt=>first | k_is | k_exc | kit_is | kernel_rfl)
  (case gat=>first | k_is | k_exc | kit_is | kernel_rfl)
  (case gtt=>first | k_is | k_exc | kit_is | kernel_rfl)
  (case cat=>first | k_is | k_exc | kit_is | kernel_rfl)
  (case kt0=>first | k_is | k_exc | kit_is | kernel_rfl)
  (case kt1=>first | k_is | k_exc | kit_is | kernel_rfl)
  (case kt2=>first | k_is | k_exc | kit_is | kernel_rfl)
  (case kt3=>first | k_is | k_exc | kit_is | kernel_rfl)
  (case kt4=>first | k_is | k_exc | kit_is | kernel_rfl)
  (case kt5=>first | k_is | k_exc | kit_is | kernel_rfl)
  (case ew=>first | k_is | k_exc | kit_is | kernel_rfl)
  (case mw=>first | k_is | k_exc | kit_is | kernel_rfl)
  (case gaw=>first | k_is | k_exc | kit_is | kernel_rfl)
  (case gtw=>first | k_is | k_exc | kit_is | kernel_rfl)
  (case caw=>first | k_is | k_exc | kit_is | kernel_rfl)
  (case kw0=>first | k_is | k_exc | kit_is | kernel_rfl)
  (case kw1=>first | k_is | k_exc | kit_is | kernel_rfl)
  (case kw2=>first | k_is | k_exc | kit_is | kernel_rfl)
  (case kw3=>first | k_is | k_exc | kit_is | kernel_rfl)
  (case kw4=>first | k_is | k_exc | kit_is | kernel_rfl)
  (case kw5=>first | k_is | k_exc | kit_is | kernel_rfl)
  (case ej=>first | k_is | k_exc | kit_is | kernel_rfl)
  (case mj=>first | k_is | k_exc | kit_is | kernel_rfl)
#print axioms PySem.Challenge.cw_joinwood_k02_rows_holds
