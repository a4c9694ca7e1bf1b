import PyProof.Rows.All
import Wide.All
import OpenK.AllK
import Wide.FinOn
import Lean
import PyProof.EqAt
import PyProof.EqKinds
import PyProof.TupleCall
import PyProof.NeKinds
import PyProof.AttrMissHeap
import PyProof.EnumMake
import PyProof.DictUpdate
import KE.KDictOf
import KE.KDictList
import PyProof.MaxThree
import PyProof.ListStr
import PyProof.ConsumeWalk
import PyProof.SliceStr2
import PyProof.StrBlockI
import PyProof.EnumStmt
import PyProof.ZipIter
import KE.KRevIter
import PyProof.Rows.CallKwBuiltin
import PyProof.Rows.SeqMore
import PyProof.Rows.SortRuns
import PyProof.Rows.SortPure
import PyProof.Rows.SortShell
import PyProof.Dict
import PyProof.TupleOfStr
import PyProof.Rows.StrRules
import PyProof.ExcBaseAll.ValueError
import PyProof.ExcArgsOwn
import PyProof.ExcAttrAll.ValueError
import KE.KIsAll
import PyProof.StrWalks
import PyProof.StrBlockH
import PyProof.Rows.CountFlat
import KE.KIntText
import KE.IntTextLaws
import PyProof.CallStr
import PyProof.StrOps2
import KE.RegKIsAll
import PySem.Challenge.RW_joinwood_k31_counted
set_option Elab.async false
set_option linter.all false
set_option maxRecDepth 100000
set_option maxHeartbeats 4000000
open PySem.W renaming Frag->Xa,nsIn->Xy,keepIn->Xz,codeIn->XF,fnOf->XL,mg_none_of->XO,mg_of->XW,findIn->XY,emptyDict->Yw
open List renaming length_map->Xb,getElem?_eq_some_iff->Xc,getElem?_eq_getElem->Xd,mem_cons_of_mem->Xf,getElem?_set_ne->Xg,mem_cons_self->Xh,length_append->Xj,getElem?_map->Xk,getElem?_set_self->Xl,size_toArray->Xm,getD_eq_getElem?_getD->Xn,map_cons->Xp,mem_singleton->Xq,mem_of_getElem?->Xr,map_append->Xt,mem_cons->Xu,take_of_length_le->Xv,getElem?_eq_none->Xw,length_reverse->Xx,mem_map->XA,getElem?_append_left->XD,all_eq_true->XE,length_cons->XG,lookup_cons->XH,exists_cons_of_length_eq_add_one->XI,mem_append->XM,range->XR,set_eq_of_length_le->XS,getElem?_append_right->XU,length_singleton->XV,nodup_cons->XX,zip_cons_cons->XZ,length_take->Ya,length_set->Yb,map->Yc,mem_append_right->Ye,take_append_drop->Yf,find?_cons->Yg,getElem?_reverse->Yi,mem_range->Yj,flatMap_cons->Yk,length_range->Yl,append_nil->Yn,filter_cons_of_pos->Yo,filter_cons_of_neg->Yp,length_eq_zero_iff->Yq,reverse_reverse->Yr,length_zip->Ys,mem_reverse->Yu,getElem?_range->Yv,length_filter_le->Yx,mem_filter->Yz,cons_append->YB,getElem_mem->YC,mem_flatMap->YD,reverse_cons->YE,filterMap_cons->YF,length_replicate->YH,not_mem_nil->YJ,map_nil->YL,map_map->YM,replicate->YO
open PySem.Heap renaming get?_push_of_some->Xe,lt_size->Xo,get?_push_size->XC,SameBut->Ym,size_push->Yy
open Nat renaming le_refl->Xi,le_trans->XB,ne_of_lt->XJ,lt_of_lt_of_le->XQ,zero_le->XT,ne_of_gt->Yd,not_lt_zero->YA,lt_irrefl->YK,le_succ->YN
open Bool renaming false_ne_true->Xs,eq_iff_iff->YG
open Int renaming emod_lt_of_pos->Yh,emod_nonneg->Yt
open Array renaming getElem?_toList->YI
theorem aU0x (h:True:=by rfl):True:=h
abbrev aU0:Lean.Syntax:=aU0x._auto_1
theorem aU1x (h:True:=by decide):True:=h
abbrev aU1:Lean.Syntax:=aU1x._auto_1
theorem aU2x (h:True:=by first | exact .inl rfl | exact .inr rfl | assumption):True:=h
abbrev aU2:Lean.Syntax:=aU2x._auto_1
theorem aU3x (h:True:=by intro _;rfl):True:=h
abbrev aU3:Lean.Syntax:=aU3x._auto_1
theorem aU4x (h:True:=by first | exact Or.inl rfl | exact Or.inr (Or.inl rfl) | exact Or.inr (Or.inr rfl)):True:=h
abbrev aU4:Lean.Syntax:=aU4x._auto_1
theorem aU5x (h:True:=by first | exact zeq _ | rfl):True:=h
abbrev aU5:Lean.Syntax:=aU5x._auto_1
theorem aU6x (h:True:=by exact λ_ _=>rfl):True:=h
abbrev aU6:Lean.Syntax:=aU6x._auto_1
theorem aU7x (h:True:=by exact⟨rfl,rfl,rfl,rfl⟩):True:=h
abbrev aU7:Lean.Syntax:=aU7x._auto_1
namespace L2
open PySem PySem.Spec PyProof.Rows
noncomputable abbrev Key:=Sum Int Str
noncomputable def zkA:Key->Value->Bool
 | .inl k,v=>Value.isInt k v
 | .inr x,v=>Value.isStrOf x v
noncomputable def keyH (w:World):Key->Int
 | .inl k=>hashInt k
 | .inr x=>hashStr w x
theorem zaY:∀ {k:Key}{v:Value},zkA k v=true->(∃i t,k=Sum.inl i/\v=Value.int i t)\/(∃x t,k=Sum.inr x/\v=Value.str x t)
 | .inl i,v,h=>by
  obtain⟨t,e⟩:=Value.isInt_shape (k:=i) (v:=v) h;exact .inl ⟨i,t,rfl,e⟩
 | .inr x,v,h=>by
  obtain⟨t,e⟩:=Value.isStrOf_shape (x:=x) (v:=v) h;exact .inr ⟨x,t,rfl,e⟩
theorem zli (i:Int)(t:Tok):zkA (.inl i) (.int i t)=true:=by simp[zkA,Value.isInt]
theorem zlj (x:Str)(t:Tok):zkA (.inr x) (.str x t)=true:=by simp[zkA,Value.isStrOf]
theorem zrf (a b:Int):decide ((Sum.inl a:Key)=Sum.inl b)=(a == b):=by
 by_cases e:a=b
 ·subst e;simp
 ·have h:¬ (Sum.inl a:Key)=Sum.inl b:=λq=>e (Sum.inl.inj q);rw[decide_eq_false h];exact(beq_eq_false_iff_ne.mpr e).symm
theorem zrg (a b:Str):decide ((Sum.inr a:Key)=Sum.inr b)=decide (a=b):=by
 by_cases e:a=b
 ·subst e;simp
 ·have h:¬ (Sum.inr a:Key)=Sum.inr b:=λq=>e (Sum.inr.inj q);rw[decide_eq_false h,decide_eq_false e]
theorem zrh (a:Int)(b:Str):decide ((Sum.inl a:Key)=Sum.inr b)=false:=decide_eq_false (λq=>nomatch q)
theorem zri (a:Str)(b:Int):decide ((Sum.inr a:Key)=Sum.inl b)=false:=decide_eq_false (λq=>nomatch q)
noncomputable def zaS (prog:Program)(w:World):PySem.KeyKind prog w Key where
 is:=zkA
 hash:=keyH w
 inj:=λv a b ha hb=>by
  rcases zaY ha with ⟨i,t,rfl,rfl⟩ | ⟨x,t,rfl,rfl⟩
  ·rcases zaY hb with ⟨j,u,rfl,e⟩ | ⟨y,u,rfl,e⟩
   ·injection e with e1 _;rw[e1]
   ·exact nomatch e
  ·rcases zaY hb with ⟨j,u,rfl,e⟩ | ⟨y,u,rfl,e⟩
   ·exact nomatch e
   ·injection e with e1 _;rw[e1]
 byValue:=λk v h=>by
  rcases zaY h with ⟨i,t,rfl,rfl⟩ | ⟨x,t,rfl,rfl⟩<;>rfl
 pyHash:=λhv h=>by
  rcases zaY hv with ⟨i,t,rfl,rfl⟩ | ⟨x,t,rfl,rfl⟩
  ·exact wpAny_pyHash_int h
  ·exact wpAny_pyHash_str h
 eqBool:=λhu hv h=>by
  rcases zaY hu with ⟨i,t,rfl,rfl⟩ | ⟨x,t,rfl,rfl⟩
  ·rcases zaY hv with ⟨j,u,rfl,rfl⟩ | ⟨y,u,rfl,rfl⟩
   ·rw[zrf]at h;exact wpAny_eqBool_int h
   ·rw[zrh]at h;exact SeqAt.EqAt.int_str i t y u _ _ _ _ h
  ·rcases zaY hv with ⟨j,u,rfl,rfl⟩ | ⟨y,u,rfl,rfl⟩
   ·rw[zri]at h;exact SeqAt.EqAt.str_int x t j u _ _ _ _ h
   ·rw[zrg]at h;exact wpAny_eqBool_str h
 «strs»:=λk x t v h=>by
  rcases zaY h with ⟨i,u,rfl,e⟩ | ⟨y,u,rfl,e⟩
  ·exact nomatch e
  ·injection e with e1 _;subst e1;cases v<;>rfl
theorem zfE (prog:Program)(w:World)(i:Int)(t:Tok):(zaS prog w).is (.inl i) (.int i t)=true:=zli i t
theorem zfF (prog:Program)(w:World)(x:Str)(t:Tok):(zaS prog w).is (.inr x) (.str x t)=true:=zlj x t
inductive V where
 | non | bl (b:Bool) | int (i:Int) | str (x:Str) | byt (b:Array UInt8) | flt (b:UInt64) | ref (a:Addr) | ty (n:String)
 deriving DecidableEq
noncomputable def RelV:V->Value->Prop
 | .non,u=>u=Value.none
 | .bl b,u=>u=Value.bool b
 | .int i,u=>∃t,u=Value.int i t
 | .str x,u=>∃t,u=Value.str x t
 | .byt b,u=>∃t,u=Value.bytes b t
 | .flt b,u=>∃t,u=Value.float b t
 | .ref a,u=>u=Value.ref a
 | .ty n,u=>u=Value.type n
noncomputable abbrev Vals:List V->List Value->Prop:=Paired RelV
theorem Vals.length {xs:List V}{us:List Value}(r:Vals xs us):xs.length=us.length:=Paired.length r
theorem Vals.get:∀ {xs:List V}{us:List Value}{i:Nat}{x:V},Vals xs us->xs[i]? = some x->∃u,us[i]? = some u/\RelV x u
 | _,_,_,_,.nil,e=>by simp at e
 | _,_,0,_,.cons r _,e=>by simp at e;subst e;exact⟨_,rfl,r⟩
 | _,_,i+1,x,.cons _ t,e=>by
  obtain⟨u,h1,h2⟩:=Vals.get (i:=i) (x:=x) t (by simpa using e);exact⟨u,by simpa using h1,h2⟩
theorem Vals.set {x:V}{u:Value}(r:RelV x u):∀ {xs:List V}{us:List Value}(i:Nat),Vals xs us->Vals (xs.set i x) (us.set i u)
 | _,_,_,.nil=>.nil
 | _,_,0,.cons _ t=>.cons r t
 | _,_,i+1,.cons q t=>.cons q (Vals.set r i t)
theorem Vals.append:∀ {xs ys:List V}{us ws:List Value},Vals xs us->Vals ys ws->Vals (xs++ys) (us++ws):=by
 intro xs ys us ws h s;induction h with
 | nil=>exact s
 | cons r t ih=>exact .cons r ih
theorem Vals.take:∀ {xs:List V}{us:List Value}(n:Nat),Vals xs us->Vals (xs.take n) (us.take n)
 | _,_,0,_=>.nil
 | _,_,_+1,.nil=>.nil
 | _,_,n+1,.cons r t=>.cons r (Vals.take n t)
theorem Vals.drop:∀ {xs:List V}{us:List Value}(n:Nat),Vals xs us->Vals (xs.drop n) (us.drop n)
 | _,_,0,r=>r
 | _,_,_+1,.nil=>.nil
 | _,_,n+1,.cons _ t=>Vals.drop n t
noncomputable def RelO:Option V->Option Value->Prop
 | some v,some u=>RelV v u
 | none,none=>True
 | _,_=>False
noncomputable def KV {κ:Type}:List (κ×V)->List (κ×Value)->Prop:=Paired λ(p:κ×V)(q:κ×Value)=>p.1=q.1/\RelV p.2 q.2
noncomputable def kV:Key->V
 | .inl i=>.int i
 | .inr x=>.str x
inductive HO where
  | lst (xs:List V)
  | tup (xs:List V)
  | dK (kvs:List (Key×V)) | dT (kvs:List (List Key×V))
  | set (S:Int->Bool) (n:Nat)
  | ins (C dx:Addr) (fs:List (Str×V))
  | own (x:Addr)
  | xd (fs:List (Str×V))
  | met (f x:Addr)
  | rng (lo hi:Int)
  | frz (o:Obj) (u:HO)
  | tbl (ps:Array Value)
  | ext (φ:Heap->Prop)
noncomputable abbrev Hp:=Addr->Option HO
noncomputable def upd (H:Hp)(a:Addr)(o:HO):Hp:=λb=>if b=a then some o else H b
theorem zal {H:Hp}{a:Addr}{o:HO}:upd H a o a=some o:=by unfold upd;rw[if_pos rfl]
theorem zaj {H:Hp}{a b:Addr}{o:HO}(h:b≠a):upd H a o b=H b:=by unfold upd;rw[if_neg h]
theorem zrj {H:Hp}{a b:Addr}{o u:HO}(h:H a=some o)(h':H b=some u)(d:o≠u):a≠b:=by
 intro e;subst e;rw[h]at h';exact d (Option.some.inj h')
theorem zaD {H:Hp}{a b:Addr}{o:HO}(h:H a=some o)(h':H b=none):a≠b:=by
 intro e;subst e;rw[h]at h';cases h'
noncomputable def zdd (h:Heap)(a:Addr)(its:Array Value):Prop:=∃o,h.get? a=some o/\o.cls=.type "tuple"/\(∃n,o.data=.seq its n)/\o.dict=none
theorem zdd.tup {h:Heap}{a:Addr}{its:Array Value}(p:zdd h a its):IsTup h a its:=by obtain⟨o,e,c,⟨n,d⟩,_⟩:=p;exact⟨o,e,c,n,d⟩
theorem zdd.lt {h:Heap}{a:Addr}{its:Array Value}(p:zdd h a its):a<h.objs.size:=p.tup.lt
theorem zdd.new (h:Heap)(items:Array Value):zdd (h.push { cls:=.type "tuple",data:=.seq items }) h.objs.size items:=⟨_,XC _ rfl,rfl,⟨_,rfl⟩,rfl⟩
section
variable (P:Program)(w:World)
noncomputable def zcp (H:Hp)(h:Heap)(a:Addr):HO->Prop
 | .lst xs=>xs.length<=sizeLine/\∃(its:List Value) (n:Nat),Vals xs its/\h.get? a=some { cls:=.type "list",data:=.seq its.toArray n }
 | .tup xs=>xs.length<=sizeLine/\∃its:List Value,Vals xs its/\zdd h a its.toArray
 | .dK kvs=>kvs.length<=sizeLine/\(a == sysModules)=false/\∃vs,KV kvs vs/\h.DictOf (zaS P w) a vs
 | .dT kvs=>kvs.length<=sizeLine/\(a == sysModules)=false/\∃xs:List (List Key×Addr×Value),
   Paired (λ(p:List Key×V) (q:List Key×Addr×Value)=>p.1=q.1/\H q.2.1=some (.tup (p.1.map kV))/\RelV p.2 q.2.2) kvs xs/\
   ∃o es ep,h.get? a=some o/\o.ExactDict/\o.data=.dict es ep/\es.toList=xs.map (entryOfKey (tupleKind (zaS P w)))/\(xs.map (·.1)).Nodup
 | .set S n=>h.SetOf (intKind P w) a S n
 | .ins C dx fs=>H dx=some (.own a)/\fs.length<=1000/\dx≠a/\h.get? a=some (PySem.W.instObj C dx)/\
   ∃mA,h.Ns1 dx mA/\(∀f,RelO (fs.lookup f) (mA f))/\PySem.Within mA (fs.map (·.1))
 | .own _=>∃o,h.get? a=some o
 | .xd fs=>∃mA,h.Ns1 a mA/\∀f,RelO (fs.lookup f) (mA f)
 | .rng lo hi=>∃t u v,h.get? a=some { cls:=.type "range",data:=.fields #[.int lo t,.int hi u,.int 1 v] }
 | .frz o u=>h.get? a=some o/\zcp H h a u
 | .tbl ps=>h.get? a=some { cls:=.none,data:=.fields ps }
 | .met f x=>h.get? a=some (PySem.W.methodObj (.ref f) (.ref x))
 | .ext φ=>φ h/\(∃o,h.get? a=some o)/\∀h1 h2:Heap,φ h1->(∀o,h1.get? a=some o->h2.get? a=some o)->φ h2
noncomputable def HOk (H:Hp)(h:Heap):Prop:=∀a o,H a=some o->zcp P w H h a o
end
section
variable {P:Program}{w:World}{H H':Hp}{h h':Heap}{a:Addr}{o:HO}
theorem zcp.lt (x:zcp P w H h a o):a<h.objs.size:=by
 cases o with
 | lst xs=>obtain⟨_,_,_,_,e⟩:=x;exact Xo e
 | tup xs=>obtain⟨_,_,_,p⟩:=x;exact p.lt
 | dK kvs=>obtain⟨_,_,_,_,o,_,_,e,_⟩:=x;exact Xo e
 | dT kvs=>obtain⟨_,_,_,_,o,_,_,e,_⟩:=x;exact Xo e
 | set S n=>obtain⟨o,_,_,_,e,_⟩:=x;exact Xo e
 | ins C dx fs=>obtain⟨_,_,_,e,_⟩:=x;exact Xo e
 | own y=>obtain⟨_,e⟩:=x;exact Xo e
 | xd fs=>obtain⟨_,⟨_,_,_,e,_⟩,_⟩:=x;exact Xo e
 | rng lo hi=>obtain⟨_,_,_,e⟩:=x;exact Xo e
 | frz ob u=>obtain⟨e,_⟩:=x;exact Xo e
 | tbl ps=>exact Xo (show h.get? a=some _ from x)
 | met f y=>exact Xo (show h.get? a=some _ from x)
 | ext φ=>obtain⟨_,⟨_,e⟩,_⟩:=x;exact Xo e
theorem Paired.mapP {α β:Type}{F G:α->β->Prop}:∀ {l₁:List α}{l₂:List β},Paired F l₁ l₂->(∀a b,F a b->G a b)->Paired G l₁ l₂:=by
 intro l₁ l₂ h f;induction h with
 | nil=>exact .nil
 | cons r t ih=>exact .cons (f _ _ r) ih
theorem zcp.stay (x:zcp P w H h a o)(k:∀b u,(b=a\/H b=some (.own a))->h.get? b=some u->h'.get? b=some u)
  (ho:∀b,H b=some (.own a)->H' b=some (.own a)) (ht:∀b xs,H b=some (.tup xs)->H' b=some (.tup xs)):zcp P w H' h' a o:=by
 induction o with
 | lst xs=>obtain⟨z,its,n,r,e⟩:=x;exact⟨z,its,n,r,k _ _ (.inl rfl) e⟩
 | tup xs=>obtain⟨z,its,r,ob,e,c⟩:=x;exact⟨z,its,r,ob,k _ _ (.inl rfl) e,c⟩
 | dK kvs=>obtain⟨z,y,vs,r,ob,es,ep,e,c⟩:=x;exact⟨z,y,vs,r,ob,es,ep,k _ _ (.inl rfl) e,c⟩
 | dT kvs=>
  obtain⟨z,y,xs,r,ob,es,ep,e,c⟩:=x;exact⟨z,y,xs,Paired.mapP r λp q z=>⟨z.1,ht _ _ z.2.1,z.2.2⟩,ob,es,ep,k _ _ (.inl rfl) e,c⟩
 | set S n=>obtain⟨ob,es,ep,t,e,c⟩:=x;exact⟨ob,es,ep,t,k _ _ (.inl rfl) e,c⟩
 | ins C dx fs=>
  obtain⟨d,z,ne,e,mA,⟨od,es,ep,e2,c⟩,r⟩:=x;exact⟨ho _ d,z,ne,k _ _ (.inl rfl) e,mA,⟨od,es,ep,k _ _ (.inr d) e2,c⟩,r⟩
 | own y=>obtain⟨ob,e⟩:=x;exact⟨ob,k _ _ (.inl rfl) e⟩
 | xd fs=>obtain⟨mA,⟨od,es,ep,e,c⟩,r⟩:=x;exact⟨mA,⟨od,es,ep,k _ _ (.inl rfl) e,c⟩,r⟩
 | rng lo hi=>obtain⟨t,u,v,e⟩:=x;exact⟨t,u,v,k _ _ (.inl rfl) e⟩
 | frz ob u ih=>obtain⟨e,q⟩:=x;exact⟨k _ _ (.inl rfl) e,ih q⟩
 | tbl ps=>
  have e:h.get? a=some { cls:=.none,data:=.fields ps }:=x;show h'.get? a=some { cls:=.none,data:=.fields ps };exact k a _ (.inl rfl) e
 | met f y=>
  have e:h.get? a=some (PySem.W.methodObj (.ref f) (.ref y)):=x;show h'.get? a=some (PySem.W.methodObj (.ref f) (.ref y));exact k a _ (.inl rfl) e
 | ext φ=>obtain⟨p,⟨o,e⟩,st⟩:=x;exact⟨st _ _ p λo q=>k _ _ (.inl rfl) q,⟨o,k _ _ (.inl rfl) e⟩,st⟩
theorem HOk.lt (x:HOk P w H h)(e:H a=some o):a<h.objs.size:=(x a o e).lt
theorem HOk.fresh (x:HOk P w H h)(e:h.objs.size<=a):H a=none:=by
 cases q:H a with
 | none=>rfl
 | some u=>exact absurd (XQ (x.lt q) e) (YK _)
theorem HOk.kept (x:HOk P w H h)(k:∀b u,h.get? b=some u->h'.get? b=some u):HOk P w H h':=λa o e=>
 (x a o e).stay (λb u _ q=>k b u q) (λ_ q=>q) λ_ _ q=>q
theorem HOk.laid (x:HOk P w H h)(k:∀b u,h.get? b=some u->h'.get? b=some u)(hp:h.objs.size<=a)(new:zcp P w (upd H a o) h' a o):HOk P w (upd H a o) h':=λb u e=>by
 have hn:=x.fresh hp;by_cases hb:b=a
 ·subst hb;rw[zal]at e;cases e;exact new
 ·rw[zaj hb]at e;exact(x b u e).stay (λc v _ q=>k c v q) (λc q=>by rw[zaj (zaD q hn)];exact q) λc xs q=>by rw[zaj (zaD q hn)];exact q
end
noncomputable def Rd (H:Hp)(a:Addr)(u:HO):Prop:=H a=some u\/∃o,H a=some (.frz o u)
theorem Rd.ok {P:Program}{w:World}{H:Hp}{h:Heap}{a:Addr}{u:HO}(r:Rd H a u)(x:HOk P w H h):zcp P w H h a u:=by
 rcases r with r | ⟨o,r⟩
 ·exact x a u r
 ·obtain⟨_,q⟩:=x a _ r;exact q
noncomputable def Mut:Option HO->Prop
 | some (.lst _)=>True
 | some (.dK _)=>True
 | some (.dT _)=>True
 | some (.set _ _)=>True
 | some (.ins _ _ _)=>True
 | some (.ext _)=>True
 | _=>False
section
variable {P:Program}{w:World}{H:Hp}{h h':Heap}{x e:Addr}{o':HO}
theorem HOk.write (ok:HOk P w H h)(mu:Mut (H x))(he:e=x\/H e=some (.own x))(k:∀b u,b≠e->h.get? b=some u->h'.get? b=some u)(heo:∃u,h'.get? e=some u)
  (new:zcp P w (upd H x o') h' x o'):HOk P w (upd H x o') h':=λb u q=>by
 have nown:∀c y,H c=some (.own y)->c≠x:=λc y r z=>by subst z;rw[r]at mu;exact mu
 have ntup:∀c xs,H c=some (.tup xs)->c≠x:=λc xs r z=>by subst z;rw[r]at mu;exact mu
 by_cases hb:b=x
 ·subst hb;rw[zal]at q;cases q;exact new
 ·rw[zaj hb]at q;by_cases hbe:b=e
  ·have q':H b=some (.own x):=by
    rcases he with z | z
    ·exact absurd (hbe.trans z) hb
    ·rw[hbe];exact z
   rw[q]at q';cases q';obtain⟨v,hv⟩:=heo;exact⟨v,by rw[hbe];exact hv⟩
  ·refine(ok b u q).stay (λc v hc r=>k c v ?_ r) (λc r=>by rw[zaj (nown c b r)];exact r) λc xs r=>by rw[zaj (ntup c xs r)];exact r
   rcases hc with rfl | hc
   ·exact hbe
   ·rintro rfl;rcases he with z | z
    ·exact nown c b hc z
    ·rw[hc]at z;cases z;exact hb rfl
end
structure Un (fs ex:List Addr)(H H':Hp)(h h':Heap):Prop where
 keep:∀b o,h.get? b=some o->H b=none->b∉fs->b∉ex->h'.get? b=some o
 slot:∀b o,h.get? b=some o->H b=none->b∈fs->b∉ex->∃sl,h'.get? b=some { o with slots:=sl }
 free:∀b o,h.get? b=some o->H b=none->b∉ex->H' b=none
 there:∀b o,h.get? b=some o->b∉ex->∃o',h'.get? b=some o'
 tups:∀b xs,H b=some (.tup xs)->H' b=some (.tup xs)
 frzs:∀b o u,H b=some (.frz o u)->H' b=some (.frz o u)
 tbls:∀b ps,H b=some (.tbl ps)->∃more,H' b=some (.tbl (ps++more))
section
variable {fs fs' ex ex':List Addr}{H H1 H2:Hp}{h h1 h2 h':Heap}{a x e:Addr}{o:HO}
theorem Un.any (u:Un fs ex H H1 h h1){b:Addr}{ob:Obj}(q:h.get? b=some ob)(n:H b=none)(hx:b∉ex):∃sl,h1.get? b=some { ob with slots:=sl }:=by
 by_cases hb:b∈fs
 ·exact u.slot b ob q n hb hx
 ·exact⟨ob.slots,u.keep b ob q n hb hx⟩
theorem Un.trans (a:Un fs ex H H1 h h1)(b:Un fs ex H1 H2 h1 h2):Un fs ex H H2 h h2 where
 keep:=λc ob q n hc hx=>b.keep c ob (a.keep c ob q n hc hx) (a.free c ob q n hx) hc hx
 slot:=λc ob q n hc hx=>by
  obtain⟨sl,e1⟩:=a.slot c ob q n hc hx;obtain⟨sl',e2⟩:=b.slot c _ e1 (a.free c ob q n hx) hc hx;exact⟨sl',e2⟩
 free:=λc ob q n hx=>by
  obtain⟨o',e1⟩:=a.there c ob q hx;exact b.free c o' e1 (a.free c ob q n hx) hx
 there:=λc ob q hx=>by
  obtain⟨o',e1⟩:=a.there c ob q hx;exact b.there c o' e1 hx
 tups:=λc xs q=>b.tups c xs (a.tups c xs q)
 frzs:=λc ob xs q=>b.frzs c ob xs (a.frzs c ob xs q)
 tbls:=λc ps q=>by
  obtain⟨m1,e1⟩:=a.tbls c ps q;obtain⟨m2,e2⟩:=b.tbls c _ e1;exact⟨m1++m2,by rw[e2,Array.append_assoc]⟩
theorem Un.kept (k:∀b u,h.get? b=some u->h'.get? b=some u):Un fs ex H H h h':=
 ⟨λb ob q _ _ _=>k b ob q,λb ob q _ _ _=>⟨ob.slots,k b ob q⟩,λ_ _ _ n _=>n,λb ob q _=>⟨ob,k b ob q⟩,λ_ _ q=>q,λ_ _ _ q=>q,λ_ ps q=>⟨#[],by rw[q];simp⟩⟩
theorem Un.refl:Un fs ex H H h h:=Un.kept λ_ _ q=>q
theorem Un.laid (k:∀b u,h.get? b=some u->h'.get? b=some u)(hp:h.objs.size<=a)(hn:H a=none):Un fs ex H (upd H a o) h h' where
 keep:=λb u q _ _ _=>k b u q
 slot:=λb u q _ _ _=>⟨u.slots,k b u q⟩
 free:=λb u q n _=>by rw[zaj (XJ (XQ (Xo q) hp))];exact n
 there:=λb u q _=>⟨u,k b u q⟩
 tups:=λb xs q=>by rw[zaj (zaD q hn)];exact q
 frzs:=λb u xs q=>by rw[zaj (zaD q hn)];exact q
 tbls:=λb ps q=>⟨#[],by rw[zaj (zaD q hn),q];simp⟩
theorem Un.write (mu:Mut (H x))(he:e=x\/H e=some (.own x))(k:∀b u,b≠e->h.get? b=some u->h'.get? b=some u)(heo:∃u,h'.get? e=some u):Un fs ex H (upd H x o) h h':=by
 have hx:∀b,H b=none->b≠x:=λb n z=>by subst z;rw[n]at mu;exact mu
 have hb:∀b,H b=none->b≠e:=λb n z=>by
  subst z;rcases he with r | r
  ·exact hx b n r
  ·rw[n]at r;cases r
 have hm:∀b u,H b=some u->¬ Mut (some u)->b≠x:=λb u q nm z=>by subst z;rw[q]at mu;exact nm mu
 refine⟨λb u q n _ _=>k b u (hb b n) q,λb u q n _ _=>⟨u.slots,k b u (hb b n) q⟩,λb u q n _=>by rw[zaj (hx b n)];exact n,λb u q _=>?_,
  λb xs q=>by rw[zaj (hm b _ q λz=>z)];exact q,λb u xs q=>by rw[zaj (hm b _ q λz=>z)];exact q,λb ps q=>⟨#[],by rw[zaj (hm b _ q λz=>z),q];simp⟩⟩
 by_cases hbe:b=e
 ·subst hbe;exact heo
 ·exact⟨u,k b u hbe q⟩
end
noncomputable def trk (h:Heap)(H:Hp):List Addr:=(XR h.objs.size).filter λa=>(H a).isSome
noncomputable def hidT (h:Heap)(H:Hp):Heap:=PySem.W.hideAll h (trk h H)
theorem zlk (h:Heap)(H:Hp):(hidT h H).objs.size=h.objs.size:=PySem.W.hideAll_size _ _
theorem znC {h:Heap}{H:Hp}{b:Addr}{o:Obj}(e:h.get? b=some o)(n:H b=none):(hidT h H).get? b=some o:=
 PySem.W.hideAll_get _ e λhm=>by
  have q:(H b).isSome=true:=(Yz.mp hm).2;rw[n]at q;simp at q
theorem zpz {h:Heap}{H:Hp}{b:Addr}{o:Obj}(e:(hidT h H).get? b=some o):h.get? b=some o/\H b=none:=by
 have e':h.get? b=some o:=PySem.W.of_hideAll (trk h H) e;refine⟨e',?_⟩;cases q:H b with
 | none=>rfl
 | some x=>
  have hm:b∈trk h H:=Yz.mpr ⟨Yj.mpr (Xo e'),by simp[q]⟩;have z:(hidT h H).get? b=none:=PySem.W.hideAll_none (trk h H) hm;rw[z]at e;cases e
noncomputable def zpA (g h:Heap)(L:Addr):List (Addr×Obj):=(XR h.objs.size).filterMap λa=>if a=L\/(g.get? a).isSome=true then none else(h.get? a).map λo=>(a,o)
noncomputable def rest (g h:Heap)(L d:Addr):List (Addr×Obj):=(zpA g h L).filter λp=>decide (p.1≠d)
structure Mod (K:Xa)(mg:Str->Option Value)(base:Heap):Prop where
 kin:K.In base
 glob:base.Ns mainGlobals mg
 blt:∃mb,base.Ns builtinsNs mb/\∀x:Str,x≠"__name__"->mb x=bootBuiltins x
 nolimit:base.NoLimit
structure Cx where
 prog:Program
 w:World
 K:Xa
 mg:Str->Option Value
 base:Heap
 A:Around
 N:List Str
 s₀:Shared
 H₀:Hp
 env:Env
 outer:List Env
 stack:List Env
 ex:List Addr
 fn:Str->Bool
 calm:Bool
 pn:List (Addr×Obj)
 xe:Value->Shared->Prop
noncomputable def frs (l:List Env):List Addr:=l.filterMap (·.frame)
noncomputable abbrev Cx.fs (X:Cx):List Addr:=frs X.outer
noncomputable def Vis (sc:Scope)(x:Str):Prop:=sc.names.lookup x=some .local\/sc.names.lookup x=some .cell\/sc.names.lookup x=some .free
noncomputable def Loc (sc:Scope)(x:Str):Prop:=sc.names.lookup x=some .local\/sc.names.lookup x=some .cell
noncomputable def Look (env:Env)(h:Heap)(m:Str->Option Value)(x:Str)(u:Value):Prop:=
 (env.kindOf x=some .local/\m x=some u)\/((env.kindOf x=some .cell\/env.kindOf x=some .free)/\∃c,env.cells.lookup x=some c/\h.IsCell c (some u))
structure Cx.Ok (X:Cx):Prop where
 mod:Mod X.K X.mg X.base
 kind:X.env.scope.kind=.function
 glob:X.env.globals=mainGlobals
 blt:X.env.builtins=builtinsNs
 above:X.s₀.heap.objs.size<=X.env.locals
 inj:∀x y c,X.env.cells.lookup x=some c->X.env.cells.lookup y=some c->x=y
 has:∀x,(X.env.kindOf x=some .cell\/X.env.kindOf x=some .free)->∃c,X.env.cells.lookup x=some c
 cab:∀x c,X.fn x=true->X.env.cells.lookup x=some c->X.s₀.heap.objs.size<=c
 hd:X.calm=true->X.A.handled=none
 frames:X.A.frames=some X.stack
 stk:X.stack=X.outer\/(X.stack=X.env::X.outer/\X.env.frame=some X.env.locals)
 exf:∀b∈X.ex,b≠X.env.locals/\∀x c,X.env.cells.lookup x=some c->c≠b
 bs:∀b o,X.base.get? b=some o->X.s₀.heap.get? b=some o/\X.H₀ b=none
 bsz:X.base.objs.size<=X.s₀.heap.objs.size
 noex:∀b o,X.base.get? b=some o->b∉X.ex
 exfs:∀b∈X.ex,b∉X.fs
 funs:X.s₀.heap.FunFrames X.base X.outer
 frf:∀b∈X.fs,X.H₀ b=none
structure Inv (X:Cx)(pins:List (Addr×Obj))(σ:List (Option V))(H:Hp)(s:Shared):Prop where
 ok:X.Ok
 os:s.os=X.s₀.os
 bare:AllBare s.gens
 base:Un X.fs X.ex X.H₀ H X.s₀.heap s.heap
 loc:∃m,s.heap.Ns X.env.locals m/\∀(i:Nat) (x:Str) (v:V),X.N[i]? = some x->σ[i]? = some (some v)->Vis X.env.scope x->∃u,RelV v u/\Look X.env s.heap m x u
 cell:∀x c,X.env.cells.lookup x=some c->∃v,s.heap.IsCell c v
 free:H X.env.locals=none
 freeC:∀x c,X.env.cells.lookup x=some c->H c=none
 pin:∀p∈X.pn++pins,s.heap.get? p.1=some p.2/\H p.1=none/\p.1≠X.env.locals/\p.1∉X.fs/\∀v,p.2.data≠.cell v
 hok:HOk X.prog X.w H s.heap
 len:σ.length=X.N.length
section
variable {X:Cx}{pins:List (Addr×Obj)}{σ:List (Option V)}{H H':Hp}{s:Shared}{h':Heap}
theorem Cx.Ok.nofr (ok:X.Ok){b:Addr}{o:Obj}(e:X.base.get? b=some o):b∉X.fs:=λhb=>by
 have:=(ok.funs.mem hb).1;rw[e]at this;cases this
theorem Inv.bs (I:Inv X pins σ H s):∀b o,X.base.get? b=some o->s.heap.get? b=some o/\H b=none:=λb o e=>
 ⟨I.base.keep b o (I.ok.bs b o e).1 (I.ok.bs b o e).2 (I.ok.nofr e) (I.ok.noex b o e),I.base.free b o (I.ok.bs b o e).1 (I.ok.bs b o e).2 (I.ok.noex b o e)⟩
theorem Inv.bk (I:Inv X pins σ H s):∀b o,X.base.get? b=some o->s.heap.get? b=some o:=λb o e=>(I.bs b o e).1
theorem Inv.mod (I:Inv X pins σ H s):Mod X.K X.mg X.base:=I.ok.mod
theorem Inv.kIn (I:Inv X pins σ H s):X.K.In s.heap:=I.ok.mod.kin.keeps I.bk
theorem Inv.lt (I:Inv X pins σ H s):X.env.locals<s.heap.objs.size:=let ⟨_,hn,_⟩:=I.loc;hn.lt
theorem Inv.sz (I:Inv X pins σ H s):X.s₀.heap.objs.size<=s.heap.objs.size:=XB I.ok.above (Nat.le_of_lt I.lt)
theorem Inv.nofs (I:Inv X pins σ H s){a:Addr}(h:s.heap.objs.size<=a):a∉X.fs:=λhb=>by
 obtain⟨_,o,ho,_⟩:=I.ok.funs.mem hb;exact absurd (XQ (Xo ho) (XB I.sz h)) (YK _)
theorem Inv.cne (I:Inv X pins σ H s):∀x c,X.env.cells.lookup x=some c->c≠X.env.locals:=λx c e z=>by
 obtain⟨v,o,ho,hd⟩:=I.cell x c e;obtain⟨m,⟨o',es,ep,ho',hd',_⟩,_⟩:=I.loc;rw[z,ho']at ho;cases ho;rw[hd']at hd;cases hd
theorem Inv.funs (I:Inv X pins σ H s):s.heap.FunFrames X.base X.outer:=by
 have all:∀(l:List Env),(∀b∈frs l,b∈X.fs)->X.s₀.heap.FunFrames X.base l->s.heap.FunFrames X.base l:=by
  intro l;induction l with
  | nil=>intro _ _;trivial
  | cons env r ih=>
   intro hs hl;obtain⟨hk,⟨L,o,hf,hn,ho,hd⟩,hr⟩:=hl;have hL:L∈X.fs:=hs L (by unfold frs;rw[YF,hf];exact Xh);obtain⟨sl,e⟩:=I.base.slot L o ho (I.ok.frf L hL) hL λz=>I.ok.exfs L z hL;exact⟨hk,⟨L,_,hf,hn,e,hd⟩,ih (λb hb=>hs b (by unfold frs;rw[YF,hf];exact Xf _ hb)) hr⟩
 exact all X.outer (λ_ hb=>hb) I.ok.funs
theorem Inv.stack (I:Inv X pins σ H s):s.heap.FunFrames X.base X.stack:=by
 rcases I.ok.stk with e | ⟨e,hf⟩
 ·rw[e];exact I.funs
 ·rw[e];obtain⟨m,hn,_⟩:=I.loc;refine .cons (by rw[I.ok.kind];decide) hf hn ?_ I.funs;exact Heap.get?_none_of_le (XB I.ok.bsz I.ok.above)
theorem Inv.zll (I:Inv X pins σ H s):∀b∈frs X.stack,b∈X.env.locals::X.fs:=λb hb=>by
 rcases I.ok.stk with e | ⟨e,hf⟩
 ·rw[e]at hb;exact Xf _ hb
 ·rw[e]at hb;unfold frs at hb;rw[YF,hf]at hb;exact hb
theorem Inv.zlm (I:Inv X pins σ H s):∀b∈frs X.stack,H b=none:=λb hb=>by
 rcases Xu.mp (I.zll b hb)with e | hb
 ·rw[e];exact I.free
 ·obtain⟨_,o,ho,_⟩:=I.ok.funs.mem hb;exact I.base.free b o ho (I.ok.frf b hb) λz=>I.ok.exfs b z hb
theorem Inv.step {g':Array GenState}{t':Nat}{d':Drawn}{ch:List Addr}(I:Inv X pins σ H s)
  (hch:∀b∈ch,(b∈X.ex\/X.s₀.heap.objs.size<=b)/\b≠X.env.locals/\(∀x c,X.env.cells.lookup x=some c->c≠b)/\∀p∈X.pn++pins,p.1≠b)
  (keep:∀b o,b≠X.env.locals->b∉X.fs->b∉ch->s.heap.get? b=some o->H b=none->h'.get? b=some o)
  (slot:∀b o,b≠X.env.locals->b∈X.fs->b∉ch->s.heap.get? b=some o->H b=none->∃sl,h'.get? b=some { o with slots:=sl }) (free:∀b o,b∉ch->s.heap.get? b=some o->H b=none->H' b=none)
  (there:∀b o,b∉ch->s.heap.get? b=some o->∃o',h'.get? b=some o')
  (tups:∀b xs,H b=some (.tup xs)->H' b=some (.tup xs)) (frzs:∀b o u,H b=some (.frz o u)->H' b=some (.frz o u)) (tbls:∀b ps,H b=some (.tbl ps)->∃more,H' b=some (.tbl (ps++more)))
  (ns:∀m,s.heap.Ns X.env.locals m->h'.Ns X.env.locals m) (hok:HOk X.prog X.w H' h') (hg:AllBare g') :
  Inv X pins σ H' { s with heap:=h',gens:=g',drawn:=d',toks:=t' }:=by
 have neL:∀b o,X.s₀.heap.get? b=some o->b≠X.env.locals:=λb o e=>XJ (XQ (Xo e) I.ok.above);have neC:∀b o,X.s₀.heap.get? b=some o->b∉X.ex->b∉ch:=λb o e hx hb=>by
  rcases(hch b hb).1 with z | z
  ·exact hx z
  ·exact absurd (XQ (Xo e) z) (YK _)
 have cellK:∀x c,X.env.cells.lookup x=some c->∀v,s.heap.IsCell c v->h'.IsCell c v:=λx c e v ⟨o,ho,hd⟩=>by
  have nch:c∉ch:=λz=>(hch c z).2.2.1 x c e rfl;by_cases hc:c∈X.fs
  ·obtain⟨sl,q⟩:=slot c o (I.cne x c e) hc nch ho (I.freeC x c e);exact⟨_,q,hd⟩
  ·exact⟨o,keep c o (I.cne x c e) hc nch ho (I.freeC x c e),hd⟩
 refine⟨I.ok,I.os,hg,⟨λb o e n hb hx=>?_,λb o e n hb hx=>?_,λb o e n hx=>?_,λb o e hx=>?_,λb xs e=>tups b xs (I.base.tups b xs e),λb o xs e=>frzs b o xs (I.base.frzs b o xs e),λb ps e=>?_⟩,?_,λx c e=>?_,?_,λx c e=>?_,λp hp=>?_,hok,I.len⟩
 ·exact keep b o (neL b o e) hb (neC b o e hx) (I.base.keep b o e n hb hx) (I.base.free b o e n hx)
 ·obtain⟨sl,e1⟩:=I.base.slot b o e n hb hx;obtain⟨sl',e2⟩:=slot b _ (neL b o e) hb (neC b o e hx) e1 (I.base.free b o e n hx);exact⟨sl',e2⟩
 ·obtain⟨o',e1⟩:=I.base.there b o e hx;exact free b o' (neC b o e hx) e1 (I.base.free b o e n hx)
 ·obtain⟨o',e1⟩:=I.base.there b o e hx;exact there b o' (neC b o e hx) e1
 ·obtain⟨m1,e1⟩:=I.base.tbls b ps e;obtain⟨m2,e2⟩:=tbls b _ e1;exact⟨m1++m2,by rw[e2,Array.append_assoc]⟩
 ·obtain⟨m,hn,hl⟩:=I.loc;refine⟨m,ns m hn,λi x v e1 e2 e3=>?_⟩;obtain⟨u,r,l⟩:=hl i x v e1 e2 e3;refine⟨u,r,?_⟩;rcases l with l | ⟨k,c,e,z⟩
  ·exact .inl l
  ·exact .inr ⟨k,c,e,cellK x c e _ z⟩
 ·obtain⟨v,z⟩:=I.cell x c e;exact⟨v,cellK x c e v z⟩
 ·obtain⟨m,⟨o,_,_,ho,_⟩,_⟩:=I.loc;exact free _ o (λz=>(hch _ z).2.1 rfl) ho I.free
 ·obtain⟨v,o,ho,hd⟩:=I.cell x c e;exact free c o (λz=>(hch c z).2.2.1 x c e rfl) ho (I.freeC x c e)
 ·obtain⟨e,n,ne,nf,d⟩:=I.pin p hp;have nch:p.1∉ch:=λz=>(hch p.1 z).2.2.2 p hp rfl;exact⟨keep p.1 p.2 ne nf nch e n,free p.1 p.2 nch e n,ne,nf,d⟩
theorem Inv.un {t':Nat}(I:Inv X pins σ H s)(u:Un X.fs [] H H' s.heap h')(hok:HOk X.prog X.w H' h'):Inv X pins σ H' { s with heap:=h',toks:=t' }:=by
 obtain⟨m,⟨o,es,ep,ho,r⟩,_⟩:=id I.loc;obtain⟨sl,hL⟩:=u.any ho I.free (by simp);exact I.step (g':=s.gens) (d':=s.drawn) (ch:=[]) (λ_ z=>nomatch z) (λb o _ hb _ e n=>u.keep b o e n hb (by simp)) (λb o _ hb _ e n=>u.slot b o e n hb (by simp)) (λb o _ e n=>u.free b o e n (by simp)) (λb o _ e=>u.there b o e (by simp)) u.tups u.frzs u.tbls (λm' hm=>by
  obtain⟨o',es',ep',ho',r'⟩:=hm;rw[ho]at ho';cases ho';exact⟨_,es',ep',hL,r'⟩) hok I.bare
theorem Inv.call {g':Array GenState}{t':Nat}{d':Drawn}{ch:List Addr}(I:Inv X pins σ H s)(u:Un (frs X.stack) ch H H' s.heap h')(hok:HOk X.prog X.w H' h')(hg:AllBare g')
  (hch:∀b∈ch,(b∈X.ex\/X.s₀.heap.objs.size<=b)/\b≠X.env.locals/\(∀x c,X.env.cells.lookup x=some c->c≠b)/\∀p∈X.pn++pins,p.1≠b) :
  Inv X pins σ H' { s with heap:=h',gens:=g',drawn:=d',toks:=t' }:=by
 obtain⟨m,⟨o,es,ep,ho,r⟩,_⟩:=id I.loc;obtain⟨sl,hL⟩:=u.any ho I.free λz=>(hch _ z).2.1 rfl;exact I.step (ch:=ch) hch (λb o hL hb hc e n=>u.keep b o e n (λz=>(Xu.mp (I.zll b z)).elim hL hb) hc) (λb o _ _ hc e n=>u.any e n hc) (λb o hc e n=>u.free b o e n hc) (λb o hc e=>u.there b o e hc) u.tups u.frzs u.tbls (λm' hm=>by
  obtain⟨o',es',ep',ho',r'⟩:=hm;rw[ho]at ho';cases ho';exact⟨_,es',ep',hL,r'⟩) hok hg
theorem Inv.turned {t':Nat}{it:Addr}(I:Inv X pins σ H s)(k:∀b o,b≠it->s.heap.get? b=some o->h'.get? b=some o)(hn:H it=none)(hL:it≠X.env.locals)
  (h1:it∈X.ex\/X.s₀.heap.objs.size<=it) (h2:∀x c,X.env.cells.lookup x=some c->c≠it) (h3:∀p∈X.pn++pins,p.1≠it):Inv X pins σ H { s with heap:=h',toks:=t' }:=by
 have nit:∀b u,H b=some u->b≠it:=λb u e z=>by rw[z,hn]at e;cases e
 refine I.step (g':=s.gens) (d':=s.drawn) (ch:=[it]) (λb hb=>?_) (λb o _ _ hc e _=>k b o (λz=>hc (by simp[z])) e) (λb o _ _ hc e _=>⟨o.slots,k b o (λz=>hc (by simp[z])) e⟩) (λ_ _ _ _ n=>n)
  (λb o hc e=>⟨o,k b o (λz=>hc (by simp[z])) e⟩) (λ_ _ e=>e) (λ_ _ _ e=>e) (λb ps e=>⟨#[],by rw[e];simp⟩) (λm hm=>?_) (λb u e=>?_) I.bare
 ·have e:b=it:=by simpa using hb
  subst e;exact⟨h1,hL,h2,h3⟩
 ·obtain⟨o,es,ep,ho,r⟩:=hm;exact⟨o,es,ep,k _ o (Ne.symm hL) ho,r⟩
 ·refine(I.hok b u e).stay (λc v hc q=>k c v ?_ q) (λ_ q=>q) λ_ _ q=>q;rcases hc with z | z
  ·rw[z];exact nit b u e
  ·exact nit c _ z
theorem Inv.tok (I:Inv X pins σ H s)(t:Nat):Inv X pins σ H { s with toks:=t }:=I.un (h':=s.heap) (t':=t) Un.refl I.hok
theorem Inv.kept {t':Nat}(I:Inv X pins σ H s)(k:∀b u,s.heap.get? b=some u->h'.get? b=some u):Inv X pins σ H { s with heap:=h',toks:=t' }:=I.un (Un.kept k) (I.hok.kept k)
theorem Inv.laid {a:Addr}{o:HO}{t':Nat}(I:Inv X pins σ H s)(k:∀b u,s.heap.get? b=some u->h'.get? b=some u)(hp:s.heap.objs.size<=a)(new:zcp X.prog X.w (upd H a o) h' a o) :
  Inv X pins σ (upd H a o) { s with heap:=h',toks:=t' }:=I.un (Un.laid k hp (I.hok.fresh hp)) (I.hok.laid k hp new)
theorem Inv.write {x e:Addr}{o:HO}{t':Nat}(I:Inv X pins σ H s)(mu:Mut (H x))(he:e=x\/H e=some (.own x))(k:∀b u,b≠e->s.heap.get? b=some u->h'.get? b=some u)(heo:∃u,h'.get? e=some u)
  (new:zcp X.prog X.w (upd H x o) h' x o):Inv X pins σ (upd H x o) { s with heap:=h',toks:=t' }:=I.un (Un.write mu he k heo) (I.hok.write mu he k heo new)
theorem Inv.zln {pins':List (Addr×Obj)}(I:Inv X pins σ H s)(h:∀p∈pins',s.heap.get? p.1=some p.2/\H p.1=none/\p.1≠X.env.locals/\p.1∉X.fs/\∀v,p.2.data≠.cell v):Inv X pins' σ H s:=
 ⟨I.ok,I.os,I.bare,I.base,I.loc,I.cell,I.free,I.freeC,λp hp=>(XM.mp hp).elim (λz=>I.pin p (List.mem_append_left _ z)) (h p),I.hok,I.len⟩
theorem zjn {N:List Str}(hN:N.Nodup){i j:Nat}{x:Str}(a:N[i]? = some x)(b:N[j]? = some x):i=j:=by
 obtain⟨h1,e1⟩:=Xc.mp a;obtain⟨h2,e2⟩:=Xc.mp b;exact(List.getElem_inj hN).mp (e1.trans e2.symm)
theorem zhv {M:Model}{A:Around}{E:Value->Shared->Prop}{i:Nat}{x:Str}{v:V}{u:Value}{Q:Unit->Shared->Prop}(I:Inv X pins σ H s)(hN:X.N.Nodup)(hi:X.N[i]? = some x)(hx:Loc X.env.scope x)(r:RelV v u)
  (h:∀s',Inv X pins (σ.set i (some v)) H s'->(∃a,Ym a s.heap s'.heap/\(a=X.env.locals\/X.env.cells.lookup x=some a))->Q () s') (hf:autoParam (X.fn x=true\/X.env.scope.names.lookup x=some .local) aU2):wpAny M A (storeName X.env x u) Q E s:=by
 obtain⟨m,hn,hl⟩:=id I.loc;have hcls:(X.env.scope.kind == .class||(X.env.scope.kind == .module&&X.env.locals != X.env.globals))=false:=by rw[I.ok.kind];rfl
 have hiσ:i<σ.length:=by rw[I.len];exact(Xc.mp hi).1
 have cne:=I.cne;have tracked:∀ {a:Addr} {h':Heap},(∃o,s.heap.get? a=some o/\H a=none)->Ym a s.heap h'->HOk X.prog X.w H h':=λ{a h'} ha hs b ob e=>by
  obtain⟨_,_,hfree⟩:=ha;refine(I.hok b ob e).stay (λc w' hc q=>(hs.2 c ?_).trans q) (λ_ q=>q) λ_ _ q=>q;rintro rfl;rcases hc with rfl | hc
  ·rw[hfree]at e;cases e
  ·rw[hfree]at hc;cases hc
 rcases hx with hk | hk
 ·refine wpAny_storeName_local hk hn (λh' hn' hs=>?_) hcls;obtain⟨oL,_,_,hoL,_⟩:=id hn;refine h _ ⟨I.ok,I.os,I.bare,⟨λb o e n hb hx=>?_,λb o e n hb hx=>?_,I.base.free,λb o e hx=>?_,I.base.tups,I.base.frzs,I.base.tbls⟩,⟨_,hn',λj y v' e1 e2 e3=>?_⟩,λy c e=>?_,I.free,I.freeC,λp hp=>?_,tracked ⟨oL,hoL,I.free⟩ hs,by simpa using I.len⟩ ⟨_,hs,.inl rfl⟩
  ·exact(hs.2 b (XJ (XQ (Xo e) I.ok.above))).trans (I.base.keep b o e n hb hx)
  ·obtain⟨sl,e1⟩:=I.base.slot b o e n hb hx;exact⟨sl,(hs.2 b (XJ (XQ (Xo e) I.ok.above))).trans e1⟩
  ·obtain⟨o',e1⟩:=I.base.there b o e hx;exact⟨o',(hs.2 b (XJ (XQ (Xo e) I.ok.above))).trans e1⟩
  ·by_cases hj:j=i
   ·subst hj;rw[hi]at e1;cases e1;rw[Xl hiσ]at e2;cases e2;exact⟨u,r,.inl ⟨hk,by simp⟩⟩
   ·rw[Xg (Ne.symm hj)]at e2;obtain⟨u',r',q⟩:=hl j y v' e1 e2 e3;refine⟨u',r',?_⟩;rcases q with ⟨k,e⟩ | ⟨k,c,e,z⟩
    ·refine .inl ⟨k,?_⟩;have:y≠x:=λe=>hj (zjn hN e1 (e▸hi));simp[this,e]
    ·exact .inr ⟨k,c,e,z.sameBut hs (cne y c e)⟩
  ·obtain⟨w',z⟩:=I.cell y c e;exact⟨w',z.sameBut hs (cne y c e)⟩
  ·obtain⟨e,n,ne,nf,d⟩:=I.pin p hp;exact⟨(hs.2 p.1 ne).trans e,n,ne,nf,d⟩
 ·have hfn:X.fn x=true:=by
   rcases hf with z | z
   ·exact z
   ·rw[z]at hk;cases hk
  obtain⟨c,hc⟩:=I.ok.has x (.inl hk);obtain⟨w',z⟩:=I.cell x c hc;refine wpAny_storeName_cell I.ok.kind hk hc z (λh' hc' hs=>?_);obtain⟨oc,hoc,hocd⟩:=id z;refine h { s with heap:=h' } ⟨I.ok,I.os,I.bare,⟨λb o e n hb hx=>?_,λb o e n hb hx=>?_,I.base.free,λb o e hx=>?_,I.base.tups,I.base.frzs,I.base.tbls⟩,⟨m,hn.sameBut hs (Ne.symm (cne x c hc)),λj y v' e1 e2 e3=>?_⟩,λy c' e=>?_,I.free,I.freeC,λp hp=>?_,tracked ⟨oc,hoc,I.freeC x c hc⟩ hs,by simpa using I.len⟩ ⟨c,hs,.inr hc⟩
  ·exact(hs.2 b (XJ (XQ (Xo e) (I.ok.cab x c hfn hc)))).trans (I.base.keep b o e n hb hx)
  ·obtain⟨sl,e1⟩:=I.base.slot b o e n hb hx;exact⟨sl,(hs.2 b (XJ (XQ (Xo e) (I.ok.cab x c hfn hc)))).trans e1⟩
  ·obtain⟨o',e1⟩:=I.base.there b o e hx;exact⟨o',(hs.2 b (XJ (XQ (Xo e) (I.ok.cab x c hfn hc)))).trans e1⟩
  ·by_cases hj:j=i
   ·subst hj;rw[hi]at e1;cases e1;rw[Xl hiσ]at e2;cases e2;exact⟨u,r,.inr ⟨.inl hk,c,hc,hc'⟩⟩
   ·rw[Xg (Ne.symm hj)]at e2;obtain⟨u',r',q⟩:=hl j y v' e1 e2 e3;refine⟨u',r',?_⟩;rcases q with q | ⟨k,c',e,z'⟩
    ·exact .inl q
    ·refine .inr ⟨k,c',e,z'.sameBut hs ?_⟩;rintro rfl;exact hj (zjn hN e1 (I.ok.inj _ _ _ e hc▸hi))
  ·by_cases hcc:c'=c
   ·subst hcc;exact⟨_,hc'⟩
   ·obtain⟨w2,z2⟩:=I.cell y c' e;exact⟨w2,z2.sameBut hs hcc⟩
  ·obtain⟨e,n,ne,nf,d⟩:=I.pin p hp;refine⟨(hs.2 p.1 ?_).trans e,n,ne,nf,d⟩;intro q;rw[q,hoc]at e;have q':oc=p.2:=Option.some.inj e;exact d w' (by rw[<- q'];exact hocd)
theorem zjo {M:Model}{A:Around}{E:Value->Shared->Prop}{i:Nat}{x:Str}{v:V}{u:Value}{Q:Unit->Shared->Prop}(I:Inv X pins σ H s)(hN:X.N.Nodup)(hi:X.N[i]? = some x)(hx:Loc X.env.scope x)(r:RelV v u)
  (h:∀s',Inv X pins (σ.set i (some v)) H s'->Q () s') (hf:autoParam (X.fn x=true\/X.env.scope.names.lookup x=some .local) aU2):wpAny M A (storeName X.env x u) Q E s:=
 zhv I hN hi hx r (λs' I' _=>h s' I') hf
theorem Inv.call' {s':Shared}{ch:List Addr}(I:Inv X pins σ H s)(ho:s'.os=s.os)(u:Un (frs X.stack) ch H H' s.heap s'.heap)(hok:HOk X.prog X.w H' s'.heap)(hg:AllBare s'.gens)
  (hch:∀b∈ch,(b∈X.ex\/X.s₀.heap.objs.size<=b)/\b≠X.env.locals/\(∀x c,X.env.cells.lookup x=some c->c≠b)/\∀p∈X.pn++pins,p.1≠b):Inv X pins σ H' s':=by
 obtain⟨h',g',d',t',o'⟩:=s';have e:o'=s.os:=ho;subst e;exact I.call (g':=g') (t':=t') (d':=d') u hok hg hch
end
noncomputable abbrev XK:=Value->Option Addr->Hp->Prop
noncomputable abbrev St:=List (Option V)
noncomputable abbrev VK:=V->Hp->Prop
noncomputable abbrev TE:=St->Hp->VK->Prop
noncomputable abbrev TT:=St->Hp->(Bool->Hp->Prop)->Prop
noncomputable abbrev TA:=St->Hp->(List V->Hp->Prop)->Prop
structure Ends where
 nx:St->Hp->Prop
 rt:VK
 bk:St->Hp->Prop:=λ_ _=>False
 ct:St->Hp->Prop:=λ_ _=>False
noncomputable abbrev TS:=Ends->St->Hp->Prop
noncomputable def EP (X:Cx)(pins:List (Addr×Obj))(σ:St)(Q:VK)(u:Value)(s':Shared):Prop:=∃v H',Inv X pins σ H' s'/\RelV v u/\Q v H'
noncomputable def TP (X:Cx)(pins:List (Addr×Obj))(σ:St)(Q:Bool->Hp->Prop)(b:Bool)(s':Shared):Prop:=∃H',Inv X pins σ H' s'/\Q b H'
noncomputable def AP (X:Cx)(pins:List (Addr×Obj))(σ:St)(Q:List V->Hp->Prop)(us:List Value)(s':Shared):Prop:=∃vs H',Inv X pins σ H' s'/\Vals vs us/\Q vs H'
noncomputable def SP (X:Cx)(pins:List (Addr×Obj))(D:Ends)(f:Flow)(s':Shared):Prop:=
 match f with
 | .next=>∃σ' H',Inv X pins σ' H' s'/\D.nx σ' H'
 | .brk=>∃σ' H',Inv X pins σ' H' s'/\D.bk σ' H'
 | .cont=>∃σ' H',Inv X pins σ' H' s'/\D.ct σ' H'
 | .ret u=>∃v σ' H',Inv X pins σ' H' s'/\RelV v u/\D.rt v H'
noncomputable def PE (X:Cx)(e:Expr)(t:TE):Prop:=
 ∀(pins:List (Addr×Obj)) (s:Shared) (σ:St) (H:Hp) (Q:VK),Inv X pins σ H s->t σ H Q->wpAny (model X.prog X.w) X.A (eval e X.env) (EP X pins σ Q) X.xe s
noncomputable def PT (X:Cx)(e:Expr)(t:TT):Prop:=
 ∀(pins:List (Addr×Obj)) (s:Shared) (σ:St) (H:Hp) (Q:Bool->Hp->Prop),Inv X pins σ H s->t σ H Q->wpAny (model X.prog X.w) X.A (isTrue e X.env (eval e X.env)) (TP X pins σ Q) X.xe s
noncomputable def PW (X:Cx)(e:Expr)(t:TT):Prop:=
 ∀(whole:Sem Value) (pins:List (Addr×Obj)) (s:Shared) (σ:St) (H:Hp) (Q:Bool->Hp->Prop),Inv X pins σ H s->t σ H Q->wpAny (model X.prog X.w) X.A (isTrue e X.env whole) (TP X pins σ Q) X.xe s
theorem PW.pt {X:Cx}{e:Expr}{t:TT}(h:PW X e t):PT X e t:=h _
noncomputable def PA (X:Cx)(es:List Expr)(t:TA):Prop:=
 ∀(pos:Pos) (pins:List (Addr×Obj)) (s:Shared) (σ:St) (H:Hp) (Q:List V->Hp->Prop),Inv X pins σ H s->t σ H Q->wpAny (model X.prog X.w) X.A (spliced (backTo pos (starEach es X.env))) (AP X pins σ Q) X.xe s
noncomputable def PS (X:Cx)(st:Stmt)(t:TS):Prop:=
 ∀(pins:List (Addr×Obj)) (s:Shared) (σ:St) (H:Hp) (D:Ends),Inv X pins σ H s->t D σ H->wpAny (model X.prog X.w) X.A (exec st X.env) (SP X pins D) X.xe s
noncomputable def PSs (X:Cx)(st:List Stmt)(t:TS):Prop:=
 ∀(pins:List (Addr×Obj)) (s:Shared) (σ:St) (H:Hp) (D:Ends),Inv X pins σ H s->t D σ H->wpAny (model X.prog X.w) X.A (execs st X.env) (SP X pins D) X.xe s
theorem thn {α:Type}{t:Sem α}{Q Q':α->Shared->Prop}{M:Model}{A:Around}{E:Value->Shared->Prop}{s:Shared}(h:wpAny M A t Q E s)(hQ:∀a s,Q a s->Q' a s):wpAny M A t Q' E s:=wpAny_mono h hQ λ_ _ x=>x
section
variable {X:Cx}
noncomputable def tVar (i:Nat):TE:=λσ H Q=>∃v,σ[i]? = some (some v)/\Q v H
noncomputable def tC (v:V):TE:=λ_ H Q=>Q v H
theorem zdn {i:Nat}{x:Str}{pos:Pos}(hN:X.N[i]? = some x)(hv:Vis X.env.scope x)(hd:autoParam ((x == ("__debug__" : Str))=false) aU1) (hcd:autoParam ((x == ("__classdict__" : Str))=false) aU1):PE X (.Name x pos) (tVar i):=by
 intro pins s σ H Q I h;obtain⟨v,e,h⟩:=h;obtain⟨m,hn,hl⟩:=I.loc;obtain⟨u,r,l⟩:=hl i x v hN e hv;have fin:EP X pins σ Q u s:=⟨v,H,I,r,h⟩;rcases l with ⟨hk,hm⟩ | ⟨hk,c,hc,hcell⟩
 ·exact wpAny_Name (wpAny_loadName_local I.ok.kind hk hn hm fin) hd
 ·rcases hk with hk | hk
  ·exact wpAny_Name (wpAny_loadName_cell I.ok.kind hk hc hcell fin) hd
  ·exact wpAny_Name (wpAny_loadName_free I.ok.kind hk hc hcell fin hcd) hd
theorem zoW {i j pos}:PE X (.Constant (.int i) j pos) (tC (.int i)):=λ_ _ _ H _ I h=>wpAny_Constant_int ⟨.int i,H,I.tok _,⟨_,rfl⟩,h⟩
theorem ztb {b j pos}:PE X (.Constant (.bool b) j pos) (tC (.bl b)):=λ_ _ _ H _ I h=>Constant_bool ⟨.bl b,H,I,rfl,h⟩
theorem zrk {j pos}:PE X (.Constant .none j pos) (tC .non):=λ_ _ _ H _ I h=>Constant_none ⟨.non,H,I,rfl,h⟩
theorem zrl {x j pos}:PE X (.Constant (.str x) j pos) (tC (.str x)):=λ_ _ _ H _ I h=>Calls.Constant_str ⟨.str x,H,I.tok _,⟨_,rfl⟩,h⟩
noncomputable def Gl (X:Cx)(x:Str):Prop:=X.env.kindOf x=some .globalImplicit
theorem zlo {E:Value->Shared->Prop}{pins:List (Addr×Obj)}{s:Shared}{σ:St}{H:Hp}{x:Str}{u:Value}{pos:Pos}{Q:Value->Shared->Prop}(I:Inv X pins σ H s)(hg:Gl X x)(hm:X.mg x=some u)(h:Q u s)
  (hd:autoParam ((x == ("__debug__" : Str))=false) aU1):wpAny (model X.prog X.w) X.A (eval (.Name x pos) X.env) Q E s:=
 Calls.Name_function_global I.ok.kind hg (Calls.loadGlobal_global (by rw[I.ok.glob];exact I.mod.glob.keeps I.bk) hm h) hd
theorem zea {E:Value->Shared->Prop}{pins:List (Addr×Obj)}{s:Shared}{σ:St}{H:Hp}{x:Str}{u:Value}{pos:Pos}{Q:Value->Shared->Prop}(I:Inv X pins σ H s)(hg:Gl X x)(hm:X.mg x=none)(hv:bootBuiltins x=some u)(h:Q u s)
  (hn:autoParam (x≠"__name__") aU1) (hd:autoParam ((x == ("__debug__" : Str))=false) aU1):wpAny (model X.prog X.w) X.A (eval (.Name x pos) X.env) Q E s:=by
 obtain⟨mb,h1,h2⟩:=I.mod.blt;exact Calls.Name_function_global I.ok.kind hg (Calls.loadGlobal_builtin (by rw[I.ok.glob];exact I.mod.glob.keeps I.bk) hm (by rw[I.ok.blt];exact h1.keeps I.bk) ((h2 x hn).trans hv) h) hd
theorem zpB {x:Str}{v:V}{u:Value}{pos:Pos}(hg:Gl X x)(hm:X.mg x=none)(hv:bootBuiltins x=some u)(r:RelV v u)(hn:autoParam (x≠"__name__") aU1) (hd:autoParam ((x == ("__debug__" : Str))=false) aU1):PE X (.Name x pos) (tC v):=
 λ_ _ _ H _ I h=>zea I hg hm hv ⟨v,H,I,r,h⟩ hn hd
variable {a b:Expr}{ta tb:TE}{pos:Pos}
noncomputable def PC (X:Cx)(op:CmpOp)(a b:Expr)(t:TE):Prop:=
 ∀(pins:List (Addr×Obj)) (s:Shared) (σ:St) (H:Hp) (Q:VK),Inv X pins σ H s->t σ H Q->
  wpAny (model X.prog X.w) X.A (eval a X.env) (λv s₁=>wpAny (model X.prog X.w) X.A (eval b X.env) (λu s₂=>wpAny (model X.prog X.w) X.A (compareOp op v u) (EP X pins σ Q) X.xe s₂) X.xe s₁) X.xe s
noncomputable def tB (t:TE):TT:=λσ H Q=>t σ H λx H1=>∃c,x=.bl c/\Q c H1
theorem zrm {op:CmpOp}{t:TE}(h:PC X op a b t)(h1:behindInMarks op b=false:=by first | exact nobehind _ (by decide) (by decide) | rfl):PT X (.Compare a [op] [b] pos) (tB t):=by
 intro pins s σ H Q I hw;refine wpAny_isTrue_Compare1 (thn (h pins s σ H _ I hw) λv s1 h1=>thn h1 λu s2 h2=>thn h2 λc s3 q1q=>?_) h1;obtain⟨x,H1,I1,r1,q1⟩:=q1q;obtain⟨d,rfl,q⟩:=q1;cases r1;exact wpAny_truthy_bool ⟨H1,I1,q⟩
variable {tA tB':TT}{rest:List Expr}
noncomputable def tAnd (t u:TT):TT:=λσ H Q=>t σ H λc H1=>if c=true then u σ H1 Q else Q false H1
noncomputable def tOr (t u:TT):TT:=λσ H Q=>t σ H λc H1=>if c=true then Q true H1 else u σ H1 Q
noncomputable def tNot (t:TT):TT:=λσ H Q=>t σ H λc H1=>Q (!c) H1
theorem zpC (ha:PT X a tA):PW X (.BoolOp .And [a] pos) tA:=by
 intro wh pins s σ H Q I h;refine isTrue_and (thn (ha pins s σ H Q I h) λc s1 e=>?_);cases c with
 | true=>exact isTrue_and_nil e
 | false=>exact e
theorem zrn (ha:PT X a tA):PW X (.BoolOp .Or [a] pos) tA:=by
 intro wh pins s σ H Q I h;refine isTrue_or (thn (ha pins s σ H Q I h) λc s1 e=>?_);cases c with
 | false=>exact isTrue_or_nil e
 | true=>exact e
theorem zro (ha:PT X a tA)(hb:PW X (.BoolOp .And (b::rest) pos) tB'):PW X (.BoolOp .And (a::b::rest) pos) (tAnd tA tB'):=by
 intro wh pins s σ H Q I h;refine isTrue_and (thn (ha pins s σ H _ I h) λc s1 q2q=>?_);obtain⟨H1,I1,q1⟩:=q2q;cases c with
 | true=>exact hb wh pins s1 σ H1 Q I1 q1
 | false=>exact⟨H1,I1,q1⟩
theorem ztc (ha:PT X a tA)(hb:PW X (.BoolOp .Or (b::rest) pos) tB'):PW X (.BoolOp .Or (a::b::rest) pos) (tOr tA tB'):=by
 intro wh pins s σ H Q I h;refine isTrue_or (thn (ha pins s σ H _ I h) λc s1 q3q=>?_);obtain⟨H1,I1,q1⟩:=q3q;cases c with
 | true=>exact⟨H1,I1,q1⟩
 | false=>exact hb wh pins s1 σ H1 Q I1 q1
theorem zrp (ha:PT X a tA):PT X (.UnaryOp .Not a pos) (tNot tA):=by
 intro pins s σ H Q I h;exact isTrue_not (ha pins s σ H (λc H1=>Q (!c) H1) I h)
noncomputable def ztd (ta tb:TE):TE:=λσ H Q=>ta σ H λx H1=>∃c,x=.bl c/\if c=true then tb σ H1 Q else Q (.bl false) H1
noncomputable def zte (ta:TE):TE:=λσ H Q=>ta σ H λx H1=>∃c,x=.bl c/\Q (.bl (!c)) H1
theorem zrq {op}{t:TE}(h:PE X a t):PE X (.BoolOp op [a] pos) t:=λpins s σ H Q I hw=>BoolOp_one (h pins s σ H Q I hw)
theorem zrr (ha:PE X a ta)(hb:PE X (.BoolOp .And (b::rest) pos) tb):PE X (.BoolOp .And (a::b::rest) pos) (ztd ta tb):=by
 intro pins s σ H Q I h;refine BoolOp_and (thn (ha pins s σ H _ I h) λv s1 q4q=>?_);obtain⟨x,H1,I1,r1,q1⟩:=q4q;obtain⟨c,rfl,q1⟩:=q1;cases r1;refine wpAny_truthy_bool ?_;cases c with
 | true=>exact hb pins s1 σ H1 Q I1 q1
 | false=>exact⟨.bl false,H1,I1,rfl,q1⟩
theorem zrs (ha:PE X a ta):PE X (.UnaryOp .Not a pos) (zte ta):=by
 intro pins s σ H Q I h;refine UnaryOp_ (thn (ha pins s σ H _ I h) λv s1 q5q=>?_);obtain⟨x,H1,I1,r1,q1⟩:=q5q;obtain⟨c,rfl,q1⟩:=q1;cases r1;exact not_of (wpAny_truthy_bool ⟨.bl (!c),H1,I1,rfl,q1⟩)
end
noncomputable def SqL (K:Xa)(H:Hp)(a:Addr)(xs:List V):Prop:=
 Rd H a (.lst xs)\/
  ∃(o:Obj) (its:Array Value) (n:Nat),K.lookup a=some o/\o.cls=.type "list"/\o.dict=none/\o.data=.seq its n/\its.size<=sizeLine/\Vals xs its.toList
noncomputable def SqT (K:Xa)(H:Hp)(a:Addr)(xs:List V):Prop:=
 Rd H a (.tup xs)\/
  ∃(o:Obj) (its:Array Value) (n:Nat),K.lookup a=some o/\o.cls=.type "tuple"/\o.data=.seq its n/\its.size<=sizeLine/\Vals xs its.toList/\o.dict=none
noncomputable def absV:Value->Option V
 | .none=>some .non
 | .bool b=>some (.bl b)
 | .int i _=>some (.int i)
 | .str x _=>some (.str x)
 | .bytes b _=>some (.byt b)
 | .float b _=>some (.flt b)
 | .ref a=>some (.ref a)
 | .type n=>some (.ty n)
 | _=>none
theorem RelV.abs {x:V}{u:Value}(r:RelV x u):absV u=some x:=by
 cases x with
 | non=>cases r;rfl
 | bl _=>cases r;rfl
 | int _=>obtain⟨t,rfl⟩:=r;rfl
 | str _=>obtain⟨t,rfl⟩:=r;rfl
 | byt _=>obtain⟨t,rfl⟩:=r;rfl
 | flt _=>obtain⟨t,rfl⟩:=r;rfl
 | ref _=>cases r;rfl
 | ty _=>cases r;rfl
theorem RelV.inj {x y:V}{u:Value}(r:RelV x u)(q:RelV y u):x=y:=Option.some.inj (r.abs.symm.trans q.abs)
theorem Vals.inj:∀ {xs ys:List V}{us:List Value},Vals xs us->Vals ys us->xs=ys:=by
 intro xs ys us h;induction h generalizing ys with
 | nil=>intro h2;cases h2;rfl
 | cons r t ih=>
  intro h2;cases h2 with
  | cons r' t'=>rw[r.inj r',ih t']
section
variable {X:Cx}{pins:List (Addr×Obj)}{σ:St}{H:Hp}{s:Shared}{a:Addr}{xs ys:List V}
theorem SqL.of {K:Xa}(h:H a=some (.lst xs)):SqL K H a xs:=.inl (.inl h)
theorem SqT.of {K:Xa}(h:H a=some (.tup xs)):SqT K H a xs:=.inl (.inl h)
theorem Inv.list (I:Inv X pins σ H s)(h:SqL X.K H a xs):∃its:List Value,Vals xs its/\PlainL s.heap a its.toArray/\xs.length<=sizeLine:=by
 rcases h with h | ⟨o,its,n,hk,hc,hd,hs,hz,r⟩
 ·obtain⟨z,its,n,r,e⟩:=h.ok I.hok;exact⟨its,r,⟨_,n,e,rfl,rfl,rfl⟩,z⟩
 ·refine⟨its.toList,r,⟨o,n,I.kIn a o hk,hc,hd,by simpa using hs⟩,?_⟩;have e:=r.length;simp only[Array.length_toList]at e;lia
theorem Inv.tuple (I:Inv X pins σ H s)(h:SqT X.K H a xs):∃its:List Value,Vals xs its/\IsTup s.heap a its.toArray/\xs.length<=sizeLine:=by
 rcases h with h | ⟨o,its,n,hk,hc,hs,hz,r,_⟩
 ·obtain⟨z,its,r,p⟩:=h.ok I.hok;exact⟨its,r,p.tup,z⟩
 ·refine⟨its.toList,r,⟨o,I.kIn a o hk,hc,n,by simpa using hs⟩,?_⟩;have e:=r.length;simp only[Array.length_toList]at e;lia
theorem Inv.zdR (I:Inv X pins σ H s)(h:SqL X.K H a xs)(h':SqL X.K H a ys):xs=ys:=by
 obtain⟨its,r,⟨o,n,e,_,_,d⟩,_⟩:=I.list h;obtain⟨its',r',⟨o',n',e',_,_,d'⟩,_⟩:=I.list h';rw[e]at e';cases e';rw[d]at d';injection d' with d1 _;have:its=its':=by simpa using congrArg Array.toList d1
 subst this;exact r.inj r'
theorem Inv.zeo (I:Inv X pins σ H s)(h:SqT X.K H a xs)(h':SqT X.K H a ys):xs=ys:=by
 obtain⟨its,r,⟨o,e,_,n,d⟩,_⟩:=I.tuple h;obtain⟨its',r',⟨o',e',_,n',d'⟩,_⟩:=I.tuple h';rw[e]at e';cases e';rw[d]at d';injection d' with d1 _;have:its=its':=by simpa using congrArg Array.toList d1
 subst this;exact r.inj r'
end
noncomputable abbrev Cx.wish (X:Cx)(E:Value->Shared->Prop):Cx:={ X with xe:=E }
noncomputable abbrev Cx.nox (X:Cx):Cx:=X.wish λ_ _=>False
theorem Cx.Ok.wish {X:Cx}(ok:X.Ok)(E:Value->Shared->Prop):(X.wish E).Ok:=
 ⟨ok.mod,ok.kind,ok.glob,ok.blt,ok.above,ok.inj,ok.has,ok.cab,ok.hd,ok.frames,ok.stk,ok.exf,ok.bs,ok.bsz,ok.noex,ok.exfs,ok.funs,ok.frf⟩
theorem Cx.Ok.zfh {X:Cx}{E:Value->Shared->Prop}(ok:(X.wish E).Ok):X.Ok:=
 ⟨ok.mod,ok.kind,ok.glob,ok.blt,ok.above,ok.inj,ok.has,ok.cab,ok.hd,ok.frames,ok.stk,ok.exf,ok.bs,ok.bsz,ok.noex,ok.exfs,ok.funs,ok.frf⟩
section
variable {X:Cx}{pins:List (Addr×Obj)}{σ:St}{H:Hp}{s:Shared}{E:Value->Shared->Prop}
theorem Inv.wish (I:Inv X pins σ H s)(E:Value->Shared->Prop):Inv (X.wish E) pins σ H s:=⟨I.ok.wish E,I.os,I.bare,I.base,I.loc,I.cell,I.free,I.freeC,I.pin,I.hok,I.len⟩
theorem Inv.zfh (I:Inv (X.wish E) pins σ H s):Inv X pins σ H s:=⟨I.ok.zfh,I.os,I.bare,I.base,I.loc,I.cell,I.free,I.freeC,I.pin,I.hok,I.len⟩
theorem SP.zfh {D:Ends}{f:Flow}{s':Shared}(h:SP (X.wish E) pins D f s'):SP X pins D f s':=by
 cases f with
 | next=>obtain⟨σ',H',I,q⟩:=h;exact⟨σ',H',I.zfh,q⟩
 | brk=>obtain⟨σ',H',I,q⟩:=h;exact⟨σ',H',I.zfh,q⟩
 | cont=>obtain⟨σ',H',I,q⟩:=h;exact⟨σ',H',I.zfh,q⟩
 | ret u=>obtain⟨v,σ',H',I,r,q⟩:=h;exact⟨v,σ',H',I.zfh,r,q⟩
theorem PSs.nox {st:List Stmt}{t:TS}(h:PSs X.nox st t):PSs X st t:=λpins s σ H D I hw=>
 wpAny_mono (h pins s σ H D (I.wish _) hw) (λ_ _ q=>q.zfh) λ_ _ z=>False.elim z
end
section
variable {X:Cx}{st:Stmt}{rest:List Stmt}{t u:TS}{e:Expr}{te:TE}{pos:Pos}
noncomputable def ztf:TS:=λD σ H=>D.nx σ H
noncomputable def tSeq (t u:TS):TS:=λD σ H=>t { D with nx:=u D } σ H
theorem zlp:PSs X [] ztf:=λ_ _ σ H _ I h=>wpAny_execs_nil ⟨σ,H,I,h⟩
theorem zcR (h1:PS X st t)(h2:PSs X rest u):PSs X (st::rest) (tSeq t u):=by
 intro pins s σ H D I h;refine wpAny_execs_cons (thn (h1 pins s σ H { D with nx:=u D } I h) λf s1 q=>?_);cases f with
 | next=>
  obtain⟨σ',H',I',q⟩:=q;exact h2 pins s1 σ' H' D I' q
 | ret v=>exact q
 | brk=>exact q
 | cont=>exact q
theorem ziJ (h1:PS X st t):PSs X [st] t:=by
 intro pins s σ H D I h;refine wpAny_execs_cons (thn (h1 pins s σ H D I h) λf s1 q=>?_);cases f with
 | next=>exact wpAny_execs_nil q
 | ret v=>exact q
 | brk=>exact q
 | cont=>exact q
theorem Inv.quiet {pins:List (Addr×Obj)}{σ:St}{H:Hp}{s:Shared}(I:Inv X pins σ H s):interactive X.env=false:=by simp[interactive,I.ok.kind]
noncomputable def zrt (te:TE):TS:=λD σ H=>te σ H λ_ H1=>D.nx σ H1
theorem zlq (he:PE X e te)(hs:autoParam (swapsWith e none pos.line X.env=pure false) aU0):PS X (.Expr e pos) (zrt te):=by
 intro pins s σ H D I h;exact wpAny_Expr_any (thn (he pins s σ H _ I h) λv s1 q6q=>by obtain⟨x,H1,I1,r1,q1⟩:=q6q;exact⟨σ,H1,I1,q1⟩) I.quiet hs
noncomputable def tRet (te:TE):TS:=λD σ H=>te σ H D.rt
theorem zru (he:PE X e te):PS X (.Return (some e) pos) (tRet te):=by
 intro pins s σ H D I h;exact wpAny_Return_some (thn (he pins s σ H _ I h) λv s1 q7q=>by obtain⟨x,H1,I1,r1,q1⟩:=q7q;exact⟨x,σ,H1,I1,r1,q1⟩)
noncomputable def tIfS (c:TT)(t u:TS):TS:=λD σ H=>c σ H λb H1=>if b=true then t D σ H1 else u D σ H1
theorem ztg {c:Expr}{a b:List Stmt}{tc:TT}(hc:PT X c tc)(ha:PSs X a t)(hb:PSs X b u):PS X (.If c a b pos) (tIfS tc t u):=by
 intro pins s σ H D I h;refine wpAny_If (thn (hc pins s σ H _ I h) λd s1 q8q=>?_);obtain⟨H1,I1,q1⟩:=q8q;cases d with
 | true=>exact ha pins s1 σ H1 D I1 q1
 | false=>exact hb pins s1 σ H1 D I1 q1
end
noncomputable abbrev TG:=V->St->Hp->(St->Hp->Prop)->Prop
noncomputable abbrev TGs:=List V->St->Hp->(St->Hp->Prop)->Prop
noncomputable def PG (X:Cx)(target:Expr)(t:TG):Prop:=
 ∀(pins:List (Addr×Obj)) (s:Shared) (σ:St) (H:Hp) (v:V) (u:Value) (Q:St->Hp->Prop),Inv X pins σ H s->RelV v u->t v σ H Q->
  wpAny (model X.prog X.w) X.A (assign target X.env u) (λ_ s'=>∃σ' H',Inv X pins σ' H' s'/\Q σ' H') X.xe s
noncomputable def PGs (X:Cx)(ts:List Expr)(t:TGs):Prop:=
 ∀(pins:List (Addr×Obj)) (s:Shared) (σ:St) (H:Hp) (vs:List V) (us:List Value) (Q:St->Hp->Prop),Inv X pins σ H s->Vals vs us->t vs σ H Q->
  wpAny (model X.prog X.w) X.A (assignInOrder ((assignEach ts X.env).map (·.2)) us) (λ_ s'=>∃σ' H',Inv X pins σ' H' s'/\Q σ' H') X.xe s
noncomputable abbrev TSet:=V->V->V->Hp->(Hp->Prop)->Prop
noncomputable def PSet (X:Cx)(t:TSet):Prop:=
 ∀(pins:List (Addr×Obj)) (s:Shared) (σ:St) (H:Hp) (o i v:V) (ov iv u:Value) (Q:Hp->Prop),Inv X pins σ H s->RelV o ov->RelV i iv->RelV v u->t o i v H Q->
  wpAny (model X.prog X.w) X.A (setItem ov iv u) (λ_ s'=>∃H',Inv X pins σ H' s'/\Q H') X.xe s
section
variable {X:Cx}{pos:Pos}
noncomputable def znD (i:Nat):TG:=λv σ H Q=>Q (σ.set i (some v)) H
theorem ziK {i:Nat}{x:Str}(hN:X.N.Nodup)(hi:X.N[i]? = some x)(hx:Loc X.env.scope x)(hf:autoParam (X.fn x=true\/X.env.scope.names.lookup x=some .local) aU2):PG X (.Name x pos) (znD i):=by
 intro pins s σ H v u Q I r h;exact wpAny_assign_Name (zjo I hN hi hx r (λs' I'=>⟨_,H,I',h⟩) hf)
noncomputable def gNil:TGs:=λvs σ H Q=>vs=[]/\Q σ H
noncomputable def zth (t:TG)(u:TGs):TGs:=λvs σ H Q=>∃v r,vs=v::r/\t v σ H λσ' H'=>u r σ' H' Q
theorem zpD:PGs X [] gNil:=by
 intro pins s σ H vs us Q I r h;obtain⟨e,h⟩:=h;subst e;cases r;exact assignInOrder_nil ⟨σ,H,I,h⟩
theorem znE {e:Expr}{es:List Expr}{t:TG}{u:TGs}(h1:PG X e t)(h2:PGs X es u)
  (hs:autoParam ((assignEach (e::es) X.env).map (·.2)=assign e X.env::(assignEach es X.env).map (·.2)) aU0):PGs X (e::es) (zth t u):=by
 intro pins s σ H vs us Q I r h;obtain⟨v,vr,e1,h⟩:=h;subst e1;cases r with
 | cons r rr=>
  rw[hs];refine assignInOrder_cons (thn (h1 pins s σ H _ _ _ I r h) λ_ s1 q9q=>?_);obtain⟨σ1,H1,I1,q1⟩:=q9q;exact h2 pins s1 σ1 H1 _ _ Q I1 rr q1
noncomputable def gTup (K:Xa)(n:Nat)(t:TGs):TG:=λv σ H Q=>∃a xs,v=.ref a/\SqT K H a xs/\xs.length=n/\t xs σ H Q
theorem zrv {es:List Expr}{k:Nat}{t:TGs}{n:Nat}(hc:X.calm=true)(h:PGs X es t)
  (hn:autoParam ((assignEach es X.env).length=n) aU0) (hst:autoParam ((assignEach es X.env).findIdx? (·.1)=none) aU0):PG X (.Tuple es k pos) (gTup X.K n t):=by
 intro pins s σ H v u Q I r hw;obtain⟨a,xs,e1,hq,hl,hw⟩:=hw;subst e1;cases r;obtain⟨its,rv,ht,hz⟩:=I.tuple hq;refine assign_Tuple_tuple (I.ok.hd hc) ht (by simp[hn,<- hl,rv.length]) hst λh' hx=>?_;have I1:Inv X pins σ H { s with heap:=h' }:=I.kept (t':=s.toks) λb o e=>hx b o (XJ (Xo e)) e;exact h pins _ σ H xs _ Q I1 (by simpa using rv) hw
noncomputable def gSub (to ti:TE)(t:TSet):TG:=λv σ H Q=>to σ H λo H1=>ti σ H1 λi H2=>t o i v H2 λH3=>Q σ H3
theorem zrw {o i:Expr}{to ti:TE}{t:TSet}(ho:PE X o to)(hi:PE X i ti)(hs:PSet X t)
  (ha:autoParam (∀v,assign (.Subscript o i pos) X.env v=(do
   let ov <- holding [v] (eval o X.env);let iv <- holding [v,ov] (eval i X.env)
   standAt pos
   holding [v,ov,iv] (setItem ov iv v)
   release [v,ov,iv] [])) aU3):PG X (.Subscript o i pos) (gSub to ti t):=by
 intro pins s σ H v u Q I r h;rw[ha];refine wpAny_bind (wpAny_holding (thn (ho pins s σ H _ I h) λov s1 q10q=>?_));obtain⟨x,H1,I1,r1,q1⟩:=q10q;refine wpAny_bind (wpAny_holding (thn (hi pins s1 σ H1 _ I1 q1) λiv s2 q11q=>?_));obtain⟨y,H2,I2,r2,q2⟩:=q11q;refine wpAny_bind (wpAny_standAt (wpAny_bind (wpAny_holding (thn (hs pins s2 σ H2 x y v ov iv u _ I2 r1 r2 r q2) λ_ s3 q12q=>?_))));obtain⟨H3,I3,q3⟩:=q12q;exact wpAny_release ⟨σ,H3,I3,q3⟩
noncomputable def tAsg (te:TE)(g:TG):TS:=λD σ H=>te σ H λx H1=>g x σ H1 D.nx
theorem zoX {tg e:Expr}{te:TE}{g:TG}(he:PE X e te)(hg:PG X tg g)(hs:autoParam (swapsWithSole [tg] e pos.line X.env=pure false) aU0)(hw:autoParam (swappedStores [tg] e X.env=pure none) aU0)
  (h1:autoParam ((assignEach [tg] X.env).map (·.2)=[assign tg X.env]) aU0):PS X (.Assign [tg] e pos) (tAsg te g):=by
 intro pins s σ H D I h;refine wpAny_Assign_stores (thn (he pins s σ H _ I h) λv s1 q13q=>?_) hs hw;obtain⟨x,H1,I1,r1,q1⟩:=q13q;rw[h1];exact thn (hg pins s1 σ H1 x v _ I1 r1 q1) λ_ s2 q=>q
theorem zhw {i:Nat}{x:Str}{e:Expr}{te:TE}{pos':Pos}(hN:X.N.Nodup)(hi:X.N[i]? = some x)(hx:Loc X.env.scope x)(he:PE X e te)(hs:autoParam (swapsWith e (some (.Name x pos')) pos.line X.env=pure false) aU0)(hf:autoParam (X.fn x=true\/X.env.scope.names.lookup x=some .local) aU2) :
  PS X (.Assign [.Name x pos'] e pos) (tAsg te (znD i)):=by
 intro pins s σ H D I h;refine wpAny_Assign_Name (thn (he pins s σ H _ I h) λv s1 q14q=>?_) hs;obtain⟨y,H1,I1,r1,q1⟩:=q14q;exact zjo I1 hN hi hx r1 (λs2 I2=>⟨_,H1,I2,q1⟩) hf
end
section
variable {X:Cx}{pos:Pos}
noncomputable def zrx (c:TT)(tb:TS):TS:=λD σ H=>∃W:Nat->St->Hp->Prop,(∃m,W m σ H)/\∀m σ H,W m σ H->
 c σ H λb H1=>if b=true then ∃N:St->Hp->Prop,(∀σ' H',N σ' H'->∃m',m'<m/\W m' σ' H')/\tb { D with nx:=N,ct:=N,bk:=D.nx } σ H1 else D.nx σ H1
theorem znF {c:Expr}{body:List Stmt}{tc:TT}{tb:TS}(hp:PassesOwn (model X.prog X.w) X.A X.env X.xe)(hc:PT X c tc)(hb:PSs X body tb):PS X (.While c body [] pos) (zrx tc tb):=by
 intro pins s σ H D I h;obtain⟨W,⟨m0,w0⟩,turn⟩:=h;refine wpAny_While (codeAny_whileLoop (λn s'=>∃σ' H',Inv X pins σ' H' s'/\W n σ' H') ?_ m0 ⟨σ,H,I,w0⟩);rintro n s1 ⟨σ1,H1,I1,w1⟩;refine wpAny_passesOwn hp (thn (hc pins s1 σ1 H1 _ I1 (turn n σ1 H1 w1)) λb s2 q15q=>?_);obtain⟨H2,I2,q2⟩:=q15q;cases b with
 | true=>
  obtain⟨N,hN,q2⟩:=q2;rw[if_pos rfl];refine wpAny_passesOwn hp (thn (hb pins s2 σ1 H2 _ I2 q2) λf s3 q3=>?_);cases f with
  | next=>
   obtain⟨σ3,H3,I3,n3⟩:=q3;obtain⟨m',hm,w3⟩:=hN σ3 H3 n3;exact⟨m',hm,σ3,H3,I3,w3⟩
  | cont=>
   obtain⟨σ3,H3,I3,n3⟩:=q3;obtain⟨m',hm,w3⟩:=hN σ3 H3 n3;exact⟨m',hm,σ3,H3,I3,w3⟩
  | brk=>exact q3
  | ret v=>exact q3
 | false=>
  rw[if_neg Xs];exact wpAny_execs_nil ⟨σ1,H2,I2,q2⟩
end
structure It where
 go:Nat->Hp->Prop
 yld:Nat->Hp->V->Hp->Prop
 stop:Nat->Hp->Prop
noncomputable def FpOk (X:Cx)(pins:List (Addr×Obj))(H:Hp)(b:Addr):Prop:=
 H b=none/\b≠X.env.locals/\b∉X.fs/\(b∈X.ex\/X.s₀.heap.objs.size<=b)/\(∀x c,X.env.cells.lookup x=some c->c≠b)/\∀p∈X.pn++pins,p.1≠b
theorem Inv.fpOk {X:Cx}{pins:List (Addr×Obj)}{σ:St}{H H':Hp}{s:Shared}{b:Addr}(I:Inv X pins σ H s)(hb:s.heap.objs.size<=b)(hn:H' b=none):FpOk X pins H' b:=by
 refine⟨hn,Yd (XQ I.lt hb),I.nofs hb,.inr (XB I.sz hb),λx c e z=>?_,λp hp z=>?_⟩
 ·obtain⟨v,q⟩:=I.cell x c e;exact absurd (XQ q.lt (by rw[z];exact hb)) (YK _)
 ·exact absurd (XQ (Xo (I.pin p hp).1) (by rw[z];exact hb)) (YK _)
structure Turn (P:Program)(w:World)(K:Xa)(tg:Expr)(J:It)(fp:List Addr)(it:Addr)(tn:Nat->Heap->Prop):Prop where
 mem:it∈fp
 obj:∀i h,tn i h->∀b∈fp,∃o,h.get? b=some o/\∀v,o.data≠.cell v
 keep:∀i h h',tn i h->(∀b∈fp,∀o,h.get? b=some o->h'.get? b=some o)->tn i h'
 item:∀(X:Cx),X.prog=P->X.w=w->X.K=K->X.calm=true->∀(i:Nat) (pins:List (Addr×Obj)) (s:Shared) (σ:St) (H:Hp) (E:Value->Shared->Prop),Inv X pins σ H s->(∀b∈fp,FpOk X pins H b)->tn i s.heap->J.go i H->
  wpAny (model P w) X.A (pyNext (.ref it)) (λr s1=>∃u,r=some u/\
   wpAny (model P w) X.A (letOwnedTupleGo tg (.ref it) u) (λ_ s2=>∃x H',Inv X pins σ H' s2/\RelV x u/\J.yld i H x H'/\tn (i+1) s2.heap/\∀b∈fp,H' b=none) E s1) E s
 done:∀(X:Cx),X.prog=P->X.w=w->X.K=K->X.calm=true->∀(i:Nat) (pins:List (Addr×Obj)) (s:Shared) (σ:St) (H:Hp) (E:Value->Shared->Prop),Inv X pins σ H s->(∀b∈fp,FpOk X pins H b)->tn i s.heap->J.stop i H->
  wpAny (model P w) X.A (pyNext (.ref it)) (λr s1=>r=none/\Inv X pins σ H s1) E s
 self:∀(A:Around) (i:Nat) (s:Shared) (Q:Value->Shared->Prop) (E:Value->Shared->Prop),tn i s.heap->Q (.ref it) s->wpAny (model P w) A (pyIter (.ref it)) Q E s
noncomputable abbrev TI:=St->Hp->(It->Hp->Prop)->Prop
noncomputable def PIE (X:Cx)(pins:List (Addr×Obj))(σ:St)(tg:Expr)(R:It->Hp->Prop)(itv:Value)(s2:Shared):Prop:=
 ∃(it:Addr) (fp:List Addr) (tn:Nat->Heap->Prop) (J:It) (H':Hp),itv=.ref it/\Inv X pins σ H' s2/\Turn X.prog X.w X.K tg J fp it tn/\tn 0 s2.heap/\(∀b∈fp,FpOk X pins H' b)/\R J H'
noncomputable def PI (X:Cx)(tg iter:Expr)(wi:TI):Prop:=
 ∀(pins:List (Addr×Obj)) (s:Shared) (σ:St) (H:Hp) (R:It->Hp->Prop),Inv X pins σ H s->wi σ H R->
  wpAny (model X.prog X.w) X.A (eval iter X.env) (λv s1=>wpAny (model X.prog X.w) X.A (pyIter v) (PIE X pins σ tg R) X.xe s1) X.xe s
theorem znG {M:Model}{A:Around}{E:Value->Shared->Prop}{s:Shared}{tg:Expr}{it:Addr}{u:Value}{o:Obj}{n:String}{vs:Array Value}{Q:Unit->Shared->Prop}(ho:s.heap.get? it=some o)(hc:o.cls=.type n)(hd:o.data=.fields vs)
    (hn:["enumerate","zip","dict_itemiterator","dict_reverseitemiterator","odict_iterator","itertools.zip_longest","itertools.pairwise"].contains n=false) (hQ:Q () s):wpAny M A (letOwnedTupleGo tg (.ref it) u) Q E s:=by
  unfold letOwnedTupleGo;cases tg<;>first
    | exact wpAny_pure hQ
    | (cases u<;>first
        | exact wpAny_pure hQ
        | (refine wpAny_bind (wpAny_load ho ?_)
           rw[hc,hd];show wpAny M A (if (["enumerate","zip","dict_itemiterator","dict_reverseitemiterator","odict_iterator","itertools.zip_longest","itertools.pairwise"].contains n&&vs[0]? == some (rawInt _))=true then _ else _) Q E s
           rw[if_neg (by intro h;rw[hn,Bool.false_and]at h;cases h)];exact wpAny_pure hQ))
noncomputable def Itl (K:Xa)(a:Addr):It:=
 ⟨λi H=>∃xs x,SqL K H a xs/\xs[i]? = some x,λi H x H'=>H'=H/\∀xs,SqL K H a xs->xs[i]? = some x,λi H=>∃xs,SqL K H a xs/\xs.length<=i⟩
noncomputable def Itt (K:Xa)(a:Addr):It:=
 ⟨λi H=>∃xs x,SqT K H a xs/\xs[i]? = some x,λi H x H'=>H'=H/\∀xs,SqT K H a xs->xs[i]? = some x,λi H=>∃xs,SqT K H a xs/\xs.length<=i⟩
noncomputable def Itr (lo:Int)(n:Nat):It:=⟨λi _=>i<n,λi H x H'=>H'=H/\x=.int (lo+i),λi _=>n<=i⟩
theorem zlr {P:Program}{w:World}{K:Xa}{tg:Expr}(a it:Addr):Turn P w K tg (Itl K a) [it] it (λi h=>h.IsListIter it a i) where
 mem:=by simp
 obj:=λi h st b hb=>by
  have e:b=it:=by simpa using hb
  subst e;obtain⟨o,e,c,d⟩:=st;exact⟨o,e,λv z=>by rw[d]at z;cases z⟩
 keep:=λi h h' st k=>st.at λo e=>k it (by simp) o e
 item:=by
  intro X hP hw hK hc i pins s σ H E I hf st hg;subst hP hw hK;obtain⟨xs,x,hq,hx⟩:=hg;obtain⟨its,rv,p,hz⟩:=I.list hq;obtain⟨u,hu,ru⟩:=rv.get hx;obtain⟨f0,f1,f2,f3,f4,f5⟩:=hf it (by simp);refine wpAny_pyNext_list_item st p.isList (x:=u) (by simpa using hu) λh' st' sb=>?_;have I1:Inv X pins σ H { s with heap:=h' }:=I.turned (t':=s.toks) (λb o hb e=>(sb.2 b hb).trans e) f0 f1 f3 f4 f5;obtain⟨o,e,c,d⟩:=id st';exact⟨u,rfl,znG (s:={ s with heap:=h' }) e c d (by decide) ⟨x,H,I1,ru,⟨rfl,λys hy=>by rw[I.zdR hy hq];exact hx⟩,st',λb hb=>(hf b hb).1⟩⟩
 done:=by
  intro X hP hw hK hc i pins s σ H E I hf st hg;subst hP hw hK;obtain⟨xs,hq,hx⟩:=hg;obtain⟨its,rv,p,hz⟩:=I.list hq;obtain⟨f0,f1,f2,f3,f4,f5⟩:=hf it (by simp);have hl:=rv.length;exact wpAny_pyNext_list_end (I.ok.hd hc) st p.isList (by simp;lia) λh' eb=>⟨rfl,I.turned (t':=s.toks) (λb o hb e=>eb b o hb e) f0 f1 f3 f4 f5⟩
 self:=λ_ _ _ _ _ st h=>wpAny_pyIter_listiter st h
theorem zkB {P:Program}{w:World}{K:Xa}{tg:Expr}(a it:Addr):Turn P w K tg (Itt K a) [it] it (λi h=>h.IsTupleIter it a i) where
 mem:=by simp
 obj:=λi h st b hb=>by
  have e:b=it:=by simpa using hb
  subst e;obtain⟨o,e,c,d⟩:=st;exact⟨o,e,λv z=>by rw[d]at z;cases z⟩
 keep:=λi h h' st k=>st.at λo e=>k it (by simp) o e
 item:=by
  intro X hP hw hK hc i pins s σ H E I hf st hg;subst hP hw hK;obtain⟨xs,x,hq,hx⟩:=hg;obtain⟨its,rv,p,hz⟩:=I.tuple hq;obtain⟨u,hu,ru⟩:=rv.get hx;obtain⟨f0,f1,f2,f3,f4,f5⟩:=hf it (by simp);refine wpAny_pyNext_tuple_item st (show s.heap.IsTuple a its.toArray from p) (x:=u) (by simpa using hu) λh' st' sb=>?_;have I1:Inv X pins σ H { s with heap:=h' }:=I.turned (t':=s.toks) (λb o hb e=>(sb.2 b hb).trans e) f0 f1 f3 f4 f5;obtain⟨o,e,c,d⟩:=id st';exact⟨u,rfl,znG (s:={ s with heap:=h' }) e c d (by decide) ⟨x,H,I1,ru,⟨rfl,λys hy=>by rw[I.zeo hy hq];exact hx⟩,st',λb hb=>(hf b hb).1⟩⟩
 done:=by
  intro X hP hw hK hc i pins s σ H E I hf st hg;subst hP hw hK;obtain⟨xs,hq,hx⟩:=hg;obtain⟨its,rv,p,hz⟩:=I.tuple hq;obtain⟨f0,f1,f2,f3,f4,f5⟩:=hf it (by simp);have hl:=rv.length;exact wpAny_pyNext_tuple_end (I.ok.hd hc) st (show s.heap.IsTuple a its.toArray from p) (by simp;lia) λh' eb=>⟨rfl,I.turned (t':=s.toks) (λb o hb e=>eb b o hb e) f0 f1 f3 f4 f5⟩
 self:=λ_ _ _ _ _ st h=>wpAny_pyIter_tupleiter st h
theorem zkC {P:Program}{w:World}{K:Xa}{tg:Expr}(it:Addr)(lo:Int)(n:Nat):Turn P w K tg (Itr lo n) [it] it (λi h=>IsRangeIter h it (lo+(i:Nat)*1) ((n:Int)-(i:Nat)) 1) where
 mem:=by simp
 obj:=λi h st b hb=>by
  have e:b=it:=by simpa using hb
  subst e;exact⟨_,st,λv z=>by
   have z':Data.fields _=Data.cell v:=z;cases z'⟩
 keep:=λi h h' st k=>k it (by simp) _ st
 item:=by
  intro X hP hw hK hc i pins s σ H E I hf st hg;subst hP hw hK;obtain⟨f0,f1,f2,f3,f4,f5⟩:=hf it (by simp);have W:=Walks.range (prog:=X.prog) (w:=X.w) (I.ok.hd hc) it lo 1 n;refine W.item i s _ _ hg st λv h' tk hv st' kk=>?_;obtain⟨t,rfl⟩:=hv;have I1:Inv X pins σ H { s with heap:=h',toks:=tk }:=I.turned (λb o hb e=>kk b o (by simpa using hb) e) f0 f1 f3 f4 f5;refine⟨_,rfl,znG (s:={ s with heap:=h',toks:=tk }) (n:="range_iterator") st' rfl rfl (by decide) ⟨.int (lo+i),H,I1,⟨t,?_⟩,⟨rfl,rfl⟩,st',λb hb=>(hf b hb).1⟩⟩;rw[Int.mul_one]
 done:=by
  intro X hP hw hK hc i pins s σ H E I hf st hg;subst hP hw hK;obtain⟨f0,f1,f2,f3,f4,f5⟩:=hf it (by simp);exact wpAny_pyNext_range_end (I.ok.hd hc) st (by have:n<=i:=hg;lia) λh' eb=>⟨rfl,I.turned (t':=s.toks) (λb o hb e=>eb b o hb e) f0 f1 f3 f4 f5⟩
 self:=λ_ _ _ _ _ st h=>wpAny_pyIter_rangeiter st h
section
variable {X:Cx}{tg:Expr}
noncomputable def zti (K:Xa)(tl:TE):TI:=λσ H R=>tl σ H λx H1=>∃a,x=.ref a/\(∃xs,SqL K H1 a xs)/\R (Itl K a) H1
noncomputable def iTup (K:Xa)(tl:TE):TI:=λσ H R=>tl σ H λx H1=>∃a,x=.ref a/\(∃xs,SqT K H1 a xs)/\R (Itt K a) H1
theorem zpE {l:Expr}{tl:TE}(hl:PE X l tl):PI X tg l (zti X.K tl):=by
 intro pins s σ H R I h;refine thn (hl pins s σ H _ I h) λv s1 q16q=>?_;obtain⟨x,H1,I1,r1,q1⟩:=q16q;obtain⟨a,e,⟨xs,hq⟩,q⟩:=q1;subst e;cases r1;obtain⟨its,rv,p,hz⟩:=I1.list hq;refine wpAny_pyIter_list p.isList ?_;refine⟨s1.heap.objs.size,[s1.heap.objs.size],_,_,H1,rfl,I1.kept (t':=s1.toks) λb o e=>Xe _ e,zlr a _,⟨_,XC _ rfl,rfl,rfl⟩,λb hb=>?_,q⟩;have e:b=s1.heap.objs.size:=by simpa using hb
 subst e;exact I1.fpOk (Xi _) (I1.hok.fresh (Xi _))
theorem zry {l:Expr}{tl:TE}(hl:PE X l tl):PI X tg l (iTup X.K tl):=by
 intro pins s σ H R I h;refine thn (hl pins s σ H _ I h) λv s1 q17q=>?_;obtain⟨x,H1,I1,r1,q1⟩:=q17q;obtain⟨a,e,⟨xs,hq⟩,q⟩:=q1;subst e;cases r1;obtain⟨its,rv,p,hz⟩:=I1.tuple hq;refine wpAny_pyIter_tuple (show s1.heap.IsTuple a its.toArray from p) ?_;refine⟨s1.heap.objs.size,[s1.heap.objs.size],_,_,H1,rfl,I1.kept (t':=s1.toks) λb o e=>Xe _ e,zkB a _,⟨_,XC _ rfl,rfl,rfl⟩,λb hb=>?_,q⟩;have e:b=s1.heap.objs.size:=by simpa using hb
 subst e;exact I1.fpOk (Xi _) (I1.hok.fresh (Xi _))
theorem znH {pins:List (Addr×Obj)}{σ:St}{H:Hp}{s:Shared}{R:It->Hp->Prop}{E:Value->Shared->Prop}{lo hi:Int}{t u v:Tok}{tk:Nat}(I:Inv X pins σ H s)(h1:-(2 ^ 62)<=lo)(h2:lo<2 ^ 62)(h3:-(2 ^ 62)<=hi)(h4:hi<2 ^ 62)
  (q:R (Itr lo (hi-lo).toNat) H):wpAny (model X.prog X.w) X.A (pyIter (.ref s.heap.objs.size)) (PIE X pins σ tg R) E { s with heap:=s.heap.push { cls:=.type "range",data:=.fields #[.int lo t,.int hi u,.int 1 v] },toks:=tk }:=by
 refine wpAny_pyIter_range (IsRange.new ..) (small_one h1 h2 h3 h4) ?_;have I1:Inv X pins σ H { s with heap:=s.heap.push { cls:=.type "range",data:=.fields #[.int lo t,.int hi u,.int 1 v] },toks:=tk }:=I.kept λb o e=>Xe _ e;refine⟨(s.heap.push { cls:=.type "range",data:=.fields #[.int lo t,.int hi u,.int 1 v] }).objs.size,[(s.heap.push { cls:=.type "range",data:=.fields #[.int lo t,.int hi u,.int 1 v] }).objs.size],_,_,H,rfl,
  I1.kept (t':=tk) λb o e=>Xe _ e,zkC _ lo (hi-lo).toNat,?_,λb hb=>?_,q⟩
 ·have e1:lo+((0:Nat):Int)*1=lo:=by simp
  have e2:(((hi-lo).toNat:Nat):Int)-((0:Nat):Int)=Builtin.Range.rangeSize lo hi 1:=by rw[rangeSize_one];split<;>lia
  show IsRangeIter _ _ (lo+((0:Nat):Int)*1) ((((hi-lo).toNat:Nat):Int)-((0:Nat):Int)) 1;rw[e1,e2];exact XC _ rfl
 ·have e:b=(s.heap.push { cls:=.type "range",data:=.fields #[.int lo t,.int hi u,.int 1 v] }).objs.size:=by simpa using hb
  subst e;exact I1.fpOk (Xi _) (I1.hok.fresh (Xi _))
noncomputable def ztj (ta:TA):TI:=λσ H R=>ta σ H λvs H1=>∃j:Int,vs=[.int j]/\-(2 ^ 62)<=j/\j<2 ^ 62/\R (Itr 0 j.toNat) H1
theorem zls {a:Expr}{ta:TA}{p pos:Pos}(hg:Gl X "range") (hm:X.mg "range" = none) (ha:PA X [a] ta) (hs:autoParam (starEach [a] X.env=[(false,eval a X.env)]) aU0):PI X tg (.Call (.Name "range" p) [a] [] pos) (ztj ta):=by
 intro pins s σ H R I h;refine Call_ (zea I hg hm boot_range (PyProof.Rows.callWith_type1 (thn (ha pos pins s σ H _ I h) λus s1 q18q=>?_) hs rfl));obtain⟨vs,H1,I1,r1,q1⟩:=q18q;obtain⟨j,e,q1,q2,q⟩:=q1;subst e;cases r1 with
 | cons r rr=>
  cases rr;obtain⟨t,rfl⟩:=r;exact call_range_1 (znH I1 (by lia) (by lia) q1 q2 (by simpa using q))
noncomputable def tFor (wi:TI)(g:TG)(tb:TS):TS:=λD σ H=>wi σ H λJ H1=>∃W:Nat->Nat->St->Hp->Prop,(∃m,W 0 m σ H1)/\∀i m σ H,W i m σ H->
 (J.stop i H/\D.nx σ H)\/(J.go i H/\∃N:St->Hp->Prop,(∀σ' H',N σ' H'->∃m',m'<m/\W (i+1) m' σ' H')/\∀x H',J.yld i H x H'->g x σ H' λσ2 H2=>tb { D with nx:=N,ct:=N,bk:=D.nx } σ2 H2)
noncomputable def zhx (fp:List Addr)(h:Heap):List (Addr×Obj):=fp.filterMap λb=>(h.get? b).map λo=>(b,o)
theorem zdS {fp:List Addr}{h:Heap}{b:Addr}{o:Obj}(hb:b∈fp)(e:h.get? b=some o):(b,o)∈zhx fp h:=List.mem_filterMap.mpr ⟨b,hb,by rw[e];rfl⟩
theorem zlt {fp:List Addr}{h:Heap}{p:Addr×Obj}(hp:p∈zhx fp h):p.1∈fp/\h.get? p.1=some p.2:=by
 obtain⟨b,hb,e⟩:=List.mem_filterMap.mp hp;cases q:h.get? b with
 | none=>rw[q]at e;cases e
 | some o=>
  rw[q]at e;have e':(b,o)=p:=Option.some.inj e;subst e';exact⟨hb,q⟩
theorem Inv.pinned {pins:List (Addr×Obj)}{σ:St}{H:Hp}{s:Shared}{fp:List Addr}(I:Inv X pins σ H s)(hf:∀b∈fp,FpOk X pins H b)(ho:∀b∈fp,∃o,s.heap.get? b=some o/\∀v,o.data≠.cell v):Inv X (pins++zhx fp s.heap) σ H s:=
 I.zln λp hp=>(XM.mp hp).elim (λz=>I.pin p (Ye _ z)) λz=>by
  obtain⟨hb,e⟩:=zlt z;obtain⟨f0,f1,f2,_⟩:=hf p.1 hb;obtain⟨o,e',d⟩:=ho p.1 hb;rw[e]at e';cases e';exact⟨e,f0,f1,f2,d⟩
theorem Inv.zep {pins pl:List (Addr×Obj)}{σ:St}{H:Hp}{s:Shared}(I:Inv X (pins++pl) σ H s):Inv X pins σ H s:=I.zln λp hp=>I.pin p (Ye _ (List.mem_append_left _ hp))
theorem zlu {iter:Expr}{body:List Stmt}{wi:TI}{g:TG}{tb:TS}{pos:Pos}(hp:PassesOwn (model X.prog X.w) X.A X.env X.xe)(hc:X.calm=true)(hi:PI X tg iter wi)(hg:PG X tg g)(hb:PSs X body tb)
  (hs:autoParam (∀x,foldedSetIterable iter X.env x=pure x) aU3):PS X (.For tg iter body [] pos) (tFor wi g tb):=by
 intro pins s σ H D I h;refine wpAny_For (thn (hi pins s σ H _ I h) λv s1 h1=>thn h1 λitv s2 h2=>?_) hs;obtain⟨it,fp,tn,J,H2,e,I2,T,st2,f2,W,⟨m0,w0⟩,turn⟩:=h2;subst e;have stat:∀ {H':Hp},(∀b∈fp,H' b=none)->∀b∈fp,FpOk X pins H' b:=λhn b hb=>⟨hn b hb,(f2 b hb).2⟩;refine codeAny_forLoop_any (λn s'=>∃i σ' H',Inv X pins σ' H' s'/\tn i s'.heap/\(∀b∈fp,H' b=none)/\W i n σ' H') ?_ m0 ⟨0,σ,H2,I2,st2,λb hb=>(f2 b hb).1,w0⟩;rintro n s3 ⟨i,σ3,H3,I3,st3,fr3,w3⟩;rcases turn i n σ3 H3 w3 with ⟨stop,qn⟩ | ⟨go,N,hN,step⟩
 ·refine wpAny_passesOwn hp (thn (T.done X rfl rfl rfl hc i pins s3 σ3 H3 X.xe I3 (stat fr3) st3 stop) λr s4 q19q=>?_);obtain⟨hr,I4⟩:=q19q;subst hr;exact wpAny_execs_nil ⟨σ3,H3,I4,qn⟩
 ·refine wpAny_passesOwn hp (thn (T.item X rfl rfl rfl hc i pins s3 σ3 H3 X.xe I3 (stat fr3) st3 go) λr s4 q20q=>?_);obtain⟨u,hr,h4⟩:=q20q;subst hr;refine wpAny_passesOwn hp (thn h4 λ_ s5 q21q=>?_);obtain⟨x,H5,I5,r5,y5,st5,fr5⟩:=q21q;have I5':=I5.pinned (stat fr5) (T.obj _ _ st5);refine wpAny_passesOwn hp (thn (hg _ s5 σ3 H5 x u _ I5' r5 (step x H5 y5)) λ_ s6 q22q=>?_);obtain⟨σ6,H6,I6,q6⟩:=q22q;refine wpAny_passesOwn hp (thn (hb _ s6 σ6 H6 _ I6 q6) λf s7 q7=>?_);have again:∀ {σ7:St} {H7:Hp},Inv X (pins++zhx fp s5.heap) σ7 H7 s7->N σ7 H7->∃m,m<n/\∃i σ' H',Inv X pins σ' H' s7/\tn i s7.heap/\(∀b∈fp,H' b=none)/\W i m σ' H':=λ{σ7 H7} I7 n7=>by
   obtain⟨m',hm,w7⟩:=hN σ7 H7 n7;refine⟨m',hm,i+1,σ7,H7,I7.zep,T.keep _ _ _ st5 λb hb o e=>(I7.pin (b,o) (Ye _ (Ye _ (zdS hb e)))).1,λb hb=>?_,w7⟩;obtain⟨o,e,d⟩:=T.obj _ _ st5 b hb;exact(I7.pin (b,o) (Ye _ (Ye _ (zdS hb e)))).2.1
  cases f with
  | next=>obtain⟨σ7,H7,I7,n7⟩:=q7;exact again I7 n7
  | cont=>obtain⟨σ7,H7,I7,n7⟩:=q7;exact again I7 n7
  | brk=>obtain⟨σ7,H7,I7,q7⟩:=q7;exact⟨σ7,H7,I7.zep,q7⟩
  | ret v=>obtain⟨x7,σ7,H7,I7,r7,q7⟩:=q7;exact⟨x7,σ7,H7,I7.zep,r7,q7⟩
end
noncomputable abbrev R2:=V->V->Hp->VK->Prop
noncomputable def OpR (X:Cx)(f:Value->Value->Sem Value)(r:R2):Prop:=
 ∀(pins:List (Addr×Obj)) (s:Shared) (σ:St) (H:Hp) (x y:V) (v u:Value) (Q:VK),Inv X pins σ H s->RelV x v->RelV y u->r x y H Q->
  wpAny (model X.prog X.w) X.A (f v u) (EP X pins σ Q) X.xe s
noncomputable def UnR (X:Cx)(f:Value->Sem Value)(r:V->Hp->VK->Prop):Prop:=
 ∀(pins:List (Addr×Obj)) (s:Shared) (σ:St) (H:Hp) (x:V) (v:Value) (Q:VK),Inv X pins σ H s->RelV x v->r x H Q->
  wpAny (model X.prog X.w) X.A (f v) (EP X pins σ Q) X.xe s
noncomputable def zdo (X:Cx)(f:Value)(r:List V->Hp->VK->Prop):Prop:=
 ∀(pins:List (Addr×Obj)) (s:Shared) (σ:St) (H:Hp) (xs:List V) (us:List Value) (Q:VK),Inv X pins σ H s->Vals xs us->r xs H Q->
  wpAny (model X.prog X.w) X.A (call f us) (EP X pins σ Q) X.xe s
noncomputable def TruR (X:Cx)(r:V->Hp->(Bool->Hp->Prop)->Prop):Prop:=
 ∀(pins:List (Addr×Obj)) (s:Shared) (σ:St) (H:Hp) (x:V) (v:Value) (Q:Bool->Hp->Prop),Inv X pins σ H s->RelV x v->r x H Q->
  wpAny (model X.prog X.w) X.A (truthy v) (TP X pins σ Q) X.xe s
noncomputable def tOp (r:R2)(ta tb:TE):TE:=λσ H Q=>ta σ H λx H1=>tb σ H1 λy H2=>r x y H2 Q
noncomputable def tUn (r:V->Hp->VK->Prop)(ta:TE):TE:=λσ H Q=>ta σ H λx H1=>r x H1 Q
noncomputable def rI (C:Int->Int->Prop)(g:Int->Int->V):R2:=λx y H Q=>∃i j,x=.int i/\y=.int j/\C i j/\Q (g i j) H
noncomputable def rI0 (g:Int->Int->V):R2:=λx y H Q=>∃i j,x=.int i/\y=.int j/\Q (g i j) H
noncomputable def rU (g:Int->V):V->Hp->VK->Prop:=λx H Q=>∃i,x=.int i/\Q (g i) H
section
variable {X:Cx}{a b c:Expr}{ta tb tc:TE}{pos:Pos}
theorem binT (ha:PE X a ta)(hb:PE X b tb){pins:List (Addr×Obj)}{s:Shared}{σ:St}{H:Hp}{R:V->V->Hp->Prop}(I:Inv X pins σ H s)
  (h:ta σ H λx H1=>tb σ H1 λy H2=>R x y H2) {Q:Value->Shared->Prop} {f:Value->Value->Sem Value}
  (hf:∀v u s2 x y H2,Inv X pins σ H2 s2->RelV x v->RelV y u->R x y H2->wpAny (model X.prog X.w) X.A (f v u) Q X.xe s2) :
  wpAny (model X.prog X.w) X.A (eval a X.env) (λv s₁=>wpAny (model X.prog X.w) X.A (eval b X.env) (λu s₂=>wpAny (model X.prog X.w) X.A (f v u) Q X.xe s₂) X.xe s₁) X.xe s:=by
 refine thn (ha pins s σ H _ I h) λv s1 q23q=>?_;obtain⟨x,H1,I1,r1,q1⟩:=q23q;refine thn (hb pins s1 σ H1 _ I1 q1) λu s2 q24q=>?_;obtain⟨y,H2,I2,r2,q2⟩:=q24q;exact hf v u s2 x y H2 I2 r1 r2 q2
theorem ztk {op:Operator}{r:R2}(ho:OpR X (binaryOp op) r)(ha:PE X a ta)(hb:PE X b tb):PE X (.BinOp a op b pos) (tOp r ta tb):=by
 intro pins s σ H Q I h;exact wpAny_BinOp (binT ha hb I h λv u s2 x y H2 I2 rx ry q=>ho pins s2 σ H2 x y v u Q I2 rx ry q)
theorem zrz {op:UnaryOp}{r:V->Hp->VK->Prop}(ho:UnR X (unaryOp op) r)(ha:PE X a ta):PE X (.UnaryOp op a pos) (tUn r ta):=by
 intro pins s σ H Q I h;exact UnaryOp_ (thn (ha pins s σ H _ I h) λv s1 q25q=>by obtain⟨x,H1,I1,r1,q1⟩:=q25q;exact ho pins s1 σ H1 x v Q I1 r1 q1)
theorem opI {f:Value->Value->Sem Value}{C:Int->Int->Prop}{g:Int->Int->Int}
  (rule:∀(i j:Int) (t u:Tok) (s:Shared) (Q:Value->Shared->Prop) (E:Value->Shared->Prop),C i j->Q (.int (g i j) s.toks) { s with toks:=s.toks+1 }->wpAny (model X.prog X.w) X.A (f (.int i t) (.int j u)) Q E s) :
  OpR X f (rI C λi j=>.int (g i j)):=by
 intro pins s σ H x y v u Q I rx ry h;obtain⟨i,j,rfl,rfl,hc,q⟩:=h;obtain⟨t,rfl⟩:=rx;obtain⟨t',rfl⟩:=ry;exact rule i j t t' s _ _ hc ⟨.int (g i j),H,I.tok _,⟨_,rfl⟩,q⟩
theorem opI0 {f:Value->Value->Sem Value}{g:Int->Int->Int}
  (rule:∀(i j:Int) (t u:Tok) (s:Shared) (Q:Value->Shared->Prop) (E:Value->Shared->Prop),Q (.int (g i j) s.toks) { s with toks:=s.toks+1 }->wpAny (model X.prog X.w) X.A (f (.int i t) (.int j u)) Q E s) :
  OpR X f (rI0 λi j=>.int (g i j)):=by
 intro pins s σ H x y v u Q I rx ry h;obtain⟨i,j,rfl,rfl,q⟩:=h;obtain⟨t,rfl⟩:=rx;obtain⟨t',rfl⟩:=ry;exact rule i j t t' s _ _ ⟨.int (g i j),H,I.tok _,⟨_,rfl⟩,q⟩
theorem opB0 {f:Value->Value->Sem Value}{g:Int->Int->Bool}
  (rule:∀(i j:Int) (t u:Tok) (s:Shared) (Q:Value->Shared->Prop) (E:Value->Shared->Prop),Q (.bool (g i j)) s->wpAny (model X.prog X.w) X.A (f (.int i t) (.int j u)) Q E s) :
  OpR X f (rI0 λi j=>.bl (g i j)):=by
 intro pins s σ H x y v u Q I rx ry h;obtain⟨i,j,rfl,rfl,q⟩:=h;obtain⟨t,rfl⟩:=rx;obtain⟨t',rfl⟩:=ry;exact rule i j t t' s _ _ ⟨.bl (g i j),H,I,rfl,q⟩
noncomputable def CDiv (i j:Int):Prop:=0<j/\j<1073741824
noncomputable def CPow (i j:Int):Prop:=0<=j/\j<=1000000/\i.natAbs<2 ^ 64
noncomputable def CMul (i j:Int):Prop:=(-(2 ^ 64)<i/\i<2 ^ 64)\/(-(2 ^ 64)<j/\j<2 ^ 64)
theorem CMul.ok {i j:Int}(h:CMul i j):IntMulOk i j:=by
 rcases h with ⟨h1,h2⟩ | ⟨h1,h2⟩
 ·exact .of_left (intBits_le_64 h1 h2)
 ·exact .of_right (intBits_le_64 h1 h2)
theorem zrA:OpR X (binaryOp .Add) (rI0 λi j=>.int (i+j)):=opI0 λ_ _ _ _ _ _ _ q=>add_int q
theorem zrB:OpR X (binaryOp .Sub) (rI0 λi j=>.int (i-j)):=opI0 λ_ _ _ _ _ _ _ q=>sub_int q
theorem zrC:OpR X (binaryOp .Mult) (rI CMul λi j=>.int (i*j)):=opI λ_ _ _ _ _ _ _ hc q=>mul_int q hc.ok
theorem zpF:OpR X (binaryOp .FloorDiv) (rI CDiv λi j=>.int (i / j)):=opI λi j _ _ _ _ _ hc q=>by
 have h1:(0:Int)<j:=hc.1;have h2:j<1073741824:=hc.2;exact floordiv_int (by lia) (by rw[Int.fdiv_eq_ediv_of_nonneg i (by lia)];exact q) (.inl (PyProof.noPylong_small (by lia)))
theorem zrD:OpR X (binaryOp .Mod) (rI (λ_ j=>0<j) λi j=>.int (i % j)):=opI λi j _ _ _ _ _ hc q=>by
 have h1:(0:Int)<j:=hc;exact mod_int' (by lia) (by rw[Int.fmod_eq_emod_of_nonneg i (by lia)];exact q)
theorem zrE:OpR X (binaryOp .Pow) (rI CPow λi j=>.int (i ^ j.toNat)):=opI λ_ _ _ _ _ _ _ hc q=>pow_int_small hc.1 hc.2.1 hc.2.2 q
theorem unI {f:Value->Sem Value}{g:Int->Int}
  (rule:∀(i:Int) (t:Tok) (s:Shared) (Q:Value->Shared->Prop) (E:Value->Shared->Prop),Q (.int (g i) s.toks) { s with toks:=s.toks+1 }->wpAny (model X.prog X.w) X.A (f (.int i t)) Q E s) :
  UnR X f (rU λi=>.int (g i)):=by
 intro pins s σ H x v Q I rx h;obtain⟨i,rfl,q⟩:=h;obtain⟨t,rfl⟩:=rx;exact rule i t s _ _ ⟨.int (g i),H,I.tok _,⟨_,rfl⟩,q⟩
theorem zoY:UnR X (unaryOp .USub) (rU λi=>.int (-i)):=unI λ_ _ _ _ _ q=>neg_int q
end
section
variable {X:Cx}{a b c:Expr}{ta tb tc:TE}{pos:Pos}
theorem zoZ {pins:List (Addr×Obj)}{σ:St}{H:Hp}{s:Shared}{Q:VK}{k k':Bool}(I:Inv X pins σ H s)(q:Q (.bl k) H)(e:k=k'):EP X pins σ Q (.bool k') s:=by
 subst e;exact⟨.bl k,H,I,rfl,q⟩
theorem ztl:OpR X (compareOp .Lt) (rI0 λi j=>.bl (decide (i<j))):=opB0 λ_ _ _ _ _ _ _ q=>lt_int q
theorem ztm:OpR X (compareOp .Gt) (rI0 λi j=>.bl (decide (j<i))):=opB0 λ_ _ _ _ _ _ _ q=>gt_int q
theorem zrF:OpR X (compareOp .Is) (λx y H Q=>y=.non/\Q (.bl (decide (x=.non))) H):=by
 intro pins s σ H x y v u Q I rx ry h;obtain⟨rfl,q⟩:=h;cases ry;refine is_none_gen (zoZ I q ?_);cases x<;>first
  | (cases rx;rfl)
  | (obtain⟨t,rfl⟩:=rx;rfl)
theorem zpG:OpR X (compareOp .IsNot) (λx y H Q=>y=.non/\Q (.bl (!decide (x=.non))) H):=by
 intro pins s σ H x y v u Q I rx ry h;obtain⟨rfl,q⟩:=h;cases ry;refine isnot_none_gen (zoZ I q ?_);cases x<;>first
  | (cases rx;rfl)
  | (obtain⟨t,rfl⟩:=rx;rfl)
noncomputable def isObj:HO->Bool
 | .lst _=>true
 | .ins _ _ _=>true
 | _=>false
theorem zeq (b:Expr){op:CmpOp}(h:autoParam (op≠.In) aU1)(h2:autoParam (op≠.NotIn) aU1):behindInMarks op b=false:=by
 have e1:(op == CmpOp.In)=false:=by cases op<;>first | rfl | exact absurd rfl h
 have e2:(op == CmpOp.NotIn)=false:=by cases op<;>first | rfl | exact absurd rfl h2
 cases b<;>simp[behindInMarks,e1,e2]
noncomputable def ztn (t:TE):TT:=λσ H Q=>t σ H λx H'=>∃k,x=.bl k/\Q k H'
theorem zpH {op:CmpOp}{r:R2}(ho:OpR X (compareOp op) r)(ha:PE X a ta)(hb:PE X b tb)(hm:behindInMarks op b=false):PT X (.Compare a [op] [b] pos) (ztn (tOp r ta tb)):=by
 intro pins s σ H Q I h;refine wpAny_isTrue_Compare1 (thn (ha pins s σ H _ I h) λv s1 ⟨x,H1,I1,r1,q1⟩=>thn (hb pins s1 σ H1 _ I1 q1) λu s2 ⟨y,H2,I2,r2,q2⟩=>
  thn (ho pins s2 σ H2 x y v u _ I2 r1 r2 q2) λc s3 ⟨z,H3,I3,r3,k,e,q3⟩=>?_) hm
 subst e;cases r3;exact wpAny_truthy_bool ⟨H3,I3,q3⟩
noncomputable def TruV (K:Xa)(x:V)(H:Hp)(k:Bool):Prop:=
 match x with
 | .non=>k=false
 | .bl b=>k=b
 | .int i=>k=(i != 0)
 | .str y=>y.length<=sizeLine/\k=((y.length:Int) != 0)
 | .byt y=>y.size<=sizeLine/\k=((y.size:Int) != 0)
 | .ref p=>(∃xs,SqL K H p xs/\k = !xs.isEmpty)\/(∃xs,SqT K H p xs/\k = !xs.isEmpty)\/∃kvs,H p=some (.dK kvs)/\k = !kvs.isEmpty
 | _=>False
theorem zkD {κ:Type}{kvs:List (κ×V)}{vs:List (κ×Value)}(r:KV kvs vs):(!vs.isEmpty) = !kvs.isEmpty:=by
 cases r<;>rfl
theorem zgp {xs:List V}{its:List Value}(r:Vals xs its):(!its.toArray.isEmpty) = !xs.isEmpty:=by
 cases r<;>simp
theorem zgq:(sizeLine:Nat)<2 ^ 63:=by rw[sizeLine_eq];decide
theorem zrG:TruR X (λx H Q=>∃k,TruV X.K x H k/\Q k H):=by
 intro pins s σ H x v Q I rx h;obtain⟨k,e,q⟩:=h;have hl:=zgq;have hs:sizeLine=16777216:=sizeLine_eq;cases x with
 | non=>
  cases rx;have e':k=false:=e;subst e';exact truthy_none ⟨H,I,q⟩
 | bl b=>
  cases rx;have e':k=b:=e;subst e';exact wpAny_truthy_bool ⟨H,I,q⟩
 | int i=>
  obtain⟨t,rfl⟩:=rx;have e':k=(i != 0):=e;subst e';exact PySem.P.truthy_int ⟨H,I,q⟩
 | str y=>
  obtain⟨t,rfl⟩:=rx;obtain⟨hy,e'⟩:y.length<=sizeLine/\k=((y.length:Int) != 0):=e;subst e';exact PySem.P.truthy_str (by lia) ⟨H,I.tok _,q⟩
 | byt y=>
  obtain⟨t,rfl⟩:=rx;obtain⟨hy,e'⟩:y.size<=sizeLine/\k=((y.size:Int) != 0):=e;subst e';exact PySem.W.truthy_bytes (by lia) ⟨H,I.tok _,q⟩
 | ref p=>
  cases rx;have e':(∃xs,SqL X.K H p xs/\k = !xs.isEmpty)\/(∃xs,SqT X.K H p xs/\k = !xs.isEmpty)\/∃kvs,H p=some (.dK kvs)/\k = !kvs.isEmpty:=e;rcases e' with ⟨xs,hx,e'⟩ | ⟨xs,hx,e'⟩ | ⟨kvs,hx,e'⟩
  ·subst e';obtain⟨its,r,pl,hz⟩:=I.list hx;have hlen:=r.length;exact wpAny_truthy_list pl.isList (by simp only[Xm];lia) ⟨H,I.tok _,by rw[zgp r];exact q⟩
  ·subst e';obtain⟨its,r,pl,hz⟩:=I.tuple hx;have hlen:=r.length;exact truthy_tuple pl (by simp only[Xm];lia) ⟨H,I.tok _,by rw[zgp r];exact q⟩
  ·subst e';obtain⟨hz,hS,vs,r,m⟩:kvs.length<=sizeLine/\(p == sysModules)=false/\∃vs,KV kvs vs/\s.heap.DictOf (zaS X.prog X.w) p vs:=I.hok p _ hx;have hlen:kvs.length=vs.length:=Paired.length r;exact wpAny_truthy_dict hS m (by lia) ⟨H,I.tok _,by rw[zkD r];exact q⟩
 | _=>exact(show False from e).elim
theorem znI (ha:PE X a ta)(he:∀whole,isTrue a X.env whole=(do let v <- whole;standAt a.pos;holding [v] (truthy v))) :
  PT X a (λσ H Q=>ta σ H λx H'=>∃k,TruV X.K x H' k/\Q k H'):=by
 intro pins s σ H Q I h;exact isTrue_plain (thn (ha pins s σ H _ I h) λv s1 q29q=>by obtain⟨x,H1,I1,r1,q1⟩:=q29q;exact zrG pins s1 σ H1 x v Q I1 r1 q1) (he _)
theorem vals1 {x:V}{us:List Value}(r:Vals [x] us):∃u,us=[u]/\RelV x u:=by
 cases r with
 | cons r1 r2=>cases r2;exact⟨_,rfl,r1⟩
theorem vals2 {x y:V}{us:List Value}(r:Vals [x,y] us):∃u w',us=[u,w']/\RelV x u/\RelV y w':=by
 cases r with
 | cons r1 r2=>
  cases r2 with
  | cons r3 r4=>cases r4;exact⟨_,_,rfl,r1,r3⟩
theorem zlv (hc:X.calm=true):zdo X (.builtin "max") (λxs H Q=>∃i j,xs=[.int i,.int j]/\Q (.int (if j > i then j else i)) H):=by
 intro pins s σ H xs us Q I r h;obtain⟨i,j,rfl,q⟩:=h;obtain⟨u,w',rfl,⟨t,rfl⟩,⟨t',rfl⟩⟩:=vals2 r;refine max_two_ints (I.ok.hd hc) λh' tk k=>⟨_,H,I.kept k,?_,q⟩;by_cases hj:j > i
 ·rw[if_pos hj,if_pos hj];exact⟨_,rfl⟩
 ·rw[if_neg hj,if_neg hj];exact⟨_,rfl⟩
noncomputable def LenV (K:Xa)(x:V)(H:Hp)(n:Nat):Prop:=
 match x with
 | .str y=>y.length<=sizeLine/\n=y.length
 | .byt y=>y.size<=sizeLine/\n=y.size
 | .ref p=>(∃xs,SqL K H p xs/\n=xs.length)\/∃xs,SqT K H p xs/\n=xs.length
 | _=>False
theorem znJ:zdo X (.builtin "len") (λxs H Q=>∃x n,xs=[x]/\LenV X.K x H n/\Q (.int n) H):=by
 intro pins s σ H xs us Q I r h;obtain⟨x,n,rfl,e,q⟩:=h;obtain⟨u,rfl,rx⟩:=vals1 r;have hl:=zgq;have hs:sizeLine=16777216:=sizeLine_eq;cases x with
 | str y=>
  obtain⟨t,rfl⟩:=rx;obtain⟨hy,e'⟩:y.length<=sizeLine/\n=y.length:=e;subst e';exact len_str (by lia) ⟨.int _,H,I.tok _,⟨_,rfl⟩,q⟩
 | byt y=>
  obtain⟨t,rfl⟩:=rx;obtain⟨hy,e'⟩:y.size<=sizeLine/\n=y.size:=e;subst e';exact PySem.W.len_bytes (by lia) ⟨.int _,H,I.tok _,⟨_,rfl⟩,q⟩
 | ref p=>
  cases rx;have e':(∃xs,SqL X.K H p xs/\n=xs.length)\/∃xs,SqT X.K H p xs/\n=xs.length:=e;rcases e' with ⟨xs,hx,e'⟩ | ⟨xs,hx,e'⟩
  ·subst e';obtain⟨its,r',pl,hz⟩:=I.list hx;have hlen:=r'.length;exact Calls.call_len_list pl.isList (by simp only[Xm];lia) ⟨.int xs.length,H,I.tok _,⟨_,by simp only[Xm];rw[hlen]⟩,q⟩
  ·subst e';obtain⟨its,r',pl,hz⟩:=I.tuple hx;have hlen:=r'.length;exact len_tuple pl (by simp only[Xm];lia) ⟨.int xs.length,H,I.tok _,⟨_,by simp only[Xm];rw[hlen]⟩,q⟩
 | _=>exact(show False from e).elim
end
structure ObjM (h:Heap)(x dx C:Addr)(mA:Str->Option Value):Prop where
 obj:h.get? x=some (PySem.W.instObj C dx)
 ns:h.Ns1 dx mA
 ne:dx≠x
theorem zlw {h:Heap}{dx:Addr}{mA:Str->Option Value}(n:h.Ns1 dx mA):∃od,h.get? dx=some od/\∀name,PySem.W.lookIn name od=some (mA name):=by
 obtain⟨o,es,ep,ho,hd,hk,_,hm⟩:=n;refine⟨o,ho,λname=>?_⟩;have e:=hm name;unfold nsFind findBy at e;rw[<- Array.find?_toList]at e;unfold PySem.W.lookIn;rw[hd];dsimp only;split
 ·rename_i y q
  rw[q]at e;exact congrArg some e
 ·rename_i q
  rw[q]at e;have a:es.toList.any (·.refKey)=false:=by
   rw[List.any_eq_false];intro y hy;obtain⟨z,t,hkey⟩:=hk y (Array.mem_toList_iff.mp hy);simp[DictEntry.refKey,hkey]
  have a':¬ es.toList.any (·.refKey)=true:=by rw[a];exact Xs
  rw[if_neg a'];exact congrArg some e
theorem ObjM.look {h:Heap}{x dx C:Addr}{mA:Str->Option Value}(I:ObjM h x dx C mA):∃od,PySem.W.InstAt h x (PySem.W.instObj C dx) C (some od)/\∀name,PySem.W.lookIn name od=some (mA name):=
 let ⟨od,ho,hl⟩:=zlw I.ns
 ⟨od,⟨I.obj,rfl,rfl,ho⟩,hl⟩
section
variable {prog:Program}{w:World}{A:Around}{E:Value->Shared->Prop}{s:Shared}{K:Xa}{x dx C f:Addr}{mA:Str->Option Value}{name:Str}{v:Value}
theorem get_map {expr:Bool}{Q:Value->Shared->Prop}(X:K.In s.heap)(I:ObjM s.heap x dx C mA)(hg:PySem.W.plainGet K C name=true)(hh:PySem.W.hasDictIn K C=true)
  (ha:XY K (.ref C) name=some none) (hv:mA name=some v) (hv':PySem.W.handedIn v=true) (h:Q v { s with toks:=s.toks+1 }) :
  wpAny (model prog w) A (getAttr (.ref x) name expr) Q E s:=by
 obtain⟨od,J,hl⟩:=I.look;exact PySem.W.get_value X J (PySem.W.plainGet_of hg).1 (PySem.W.findObj_own hh ha rfl (by rw[hl,hv])) hv' h
theorem znK {pl:Sem Bool}{Q:Value×List Value->Shared->Prop}(X:K.In s.heap)(I:ObjM s.heap x dx C mA)(hg:PySem.W.plainGet K C name=true)
  (hf:XY K (.ref C) name=some (some (.ref f))) (ht:PySem.W.isFn K (.ref f)=true) (hv:mA name=none) (h:Q (.ref f,[.ref x]) s) :
  wpAny (model prog w) A (getMethod (.ref x) name pl) Q E s:=by
 obtain⟨od,J,hl⟩:=I.look;exact PySem.W.method_fn X J (PySem.W.plainGet_of hg).1 (PySem.W.plainGet_of hg).2 hf (beq_iff_eq.mp ht) (by show(PySem.W.lookIn name od).map (·.isSome)=some false;rw[hl,hv];rfl) h
theorem zpI {ns:List Str}{Q:Unit->Shared->Prop}(X:K.In s.heap)(I:ObjM s.heap x dx C mA)
  (hs:XY K (.ref C) "__setattr__" = some (some (.builtin "object.__setattr__"))) (hp:PySem.W.plainOver K C=true) (ht:PySem.W.takerIn K C name=some none) (hh:PySem.W.hasDictIn K C=true)
  (hw:PySem.Within mA ns) (hsz:ns.length<=sizeLine)
  (h:∀h',ObjM h' x dx C (λy=>if y=name then some v else mA y)->Ym dx s.heap h'->Q () { s with heap:=h',toks:=s.toks+2 }) :
  wpAny (model prog w) A (setAttr (.ref x) name v) Q E s:=by
 obtain⟨od,J,hl⟩:=I.look;refine PySem.W.set_plain X J hs (PySem.W.osa_open (s:={ s with toks:=s.toks+1 }) (r:=none) X J hp ht λb=>?_);obtain⟨cd,hc,hd'⟩:=PySem.W.any_some hh;have hx:s.heap.get? x=some ⟨.ref C,some dx,.plain,#[]⟩:=I.obj;refine wpAny_bind (wpAny_pure (wpAny_bind (wpAny_bind (wpAny_loadPart hx (wpAny_bind (PySem.W.Looks.here (s:={ s with toks:=s.toks+1 }) (PySem.W.looks_clsIn X hc) ?_))))));rw[hd'];refine wpAny_pure (a:=some dx) (wpAny_bind (wpAny_pure (wpAny_bind ?_)));refine wpAny_nsSet1 (s:={ s with toks:=s.toks+1 }) I.ns λh' hn2 hs2=>?_;obtain⟨oD,esD,epD,hoD,hdD,hcD⟩:=hn2.count (PySem.Within.cons name v hw);refine wpAny_bind (wpAny_lookBehind hoD (by rw[hdD];exact pastItsLine_dict (XB hcD (by rw[XG];lia))) ?_);exact wpAny_pure (h _ ⟨(hs2.2 _ (Ne.symm I.ne)).trans I.obj,hn2,I.ne⟩ hs2)
theorem znL {R:Result->Shared->Prop}{vs:List Value}{kw:List (Str×Value)}(X:K.In s.heap)(hm:PySem.W.makesIn K C=true)
  (hi:XY K (.ref C) "__init__" = some (some (.ref f))) (hf:PySem.W.typeIn K (.ref f)=some (.type "function"))
  (h:codeAny (model prog w) (A.under (.builtin "type.__call__" ⟨.ref C::vs,kw⟩)) (.call (.ref f) ⟨.ref (s.heap.objs.size+1)::vs,kw⟩) (PySem.W.InitBack (s.heap.objs.size+1) R)
   {s with heap:=(s.heap.push Yw).push (PySem.W.instObj C s.heap.objs.size) }) :
  codeAny (model prog w) A (.call (.ref C) ⟨vs,kw⟩) R s:=by
 obtain⟨hh,g,d,t,os⟩:=s;exact PySem.W.make_core (PySem.W.makes_of X hm) (PySem.W.looks_findIn X hi) (λself=>PySem.W.bind_fn X self hf) (.inl rfl) h
end
noncomputable def putF (f:Str)(v:V):List (Str×V)->List (Str×V)
 | []=>[(f,v)]
 | (g,x)::r=>if g=f then(g,v)::r else(g,x)::putF f v r
theorem zfG (f g:Str)(v:V):∀fs:List (Str×V),(putF f v fs).lookup g=if g=f then some v else fs.lookup g
 | []=>by
  show List.lookup g [(f,v)]=_;by_cases h:g=f
  ·have hb:(g == f)=true:=beq_iff_eq.mpr h;simp only[List.lookup,hb,if_pos h]
  ·have hb:(g == f)=false:=beq_eq_false_iff_ne.mpr h;simp only[List.lookup,hb,if_neg h]
 | (k,x)::r=>by
  have ih:=zfG f g v r;rw[show putF f v ((k,x)::r)=(if k=f then(k,v)::r else(k,x)::putF f v r) from rfl]
  by_cases hk:k=f
  ·rw[if_pos hk];by_cases h:g=k
   ·have hb:(g == k)=true:=beq_iff_eq.mpr h;simp only[List.lookup,hb,if_pos (h.trans hk)]
   ·have hb:(g == k)=false:=beq_eq_false_iff_ne.mpr h;simp only[List.lookup,hb,if_neg (λe:g=f=>h (e.trans hk.symm))]
  ·rw[if_neg hk];by_cases h:g=k
   ·have hb:(g == k)=true:=beq_iff_eq.mpr h;simp only[List.lookup,hb,if_neg (λe:g=f=>hk (h.symm.trans e))]
   ·have hb:(g == k)=false:=beq_eq_false_iff_ne.mpr h;simp only[List.lookup,hb];exact ih
theorem zfH (f:Str)(v:V):∀fs:List (Str×V),f∈(putF f v fs).map (·.1)/\∀g,g∈fs.map (·.1)->g∈(putF f v fs).map (·.1)
 | []=>⟨by simp[putF],λg h=>by simp at h⟩
 | (k,x)::r=>by
  obtain⟨i1,i2⟩:=zfH f v r;rw[show putF f v ((k,x)::r)=(if k=f then(k,v)::r else(k,x)::putF f v r) from rfl]
  by_cases hk:k=f
  ·rw[if_pos hk];subst hk;exact⟨by simp,λg h=>by simpa using h⟩
  ·rw[if_neg hk];refine⟨?_,λg h=>?_⟩
   ·rw[Xp];exact Xf _ i1
   ·rw[Xp]at h ⊢;rcases Xu.mp h with e | e
    ·exact Xu.mpr (.inl e)
    ·exact Xf _ (i2 g e)
theorem zfI (f:Str)(v:V):∀fs:List (Str×V),(putF f v fs).length<=fs.length+1
 | []=>by simp[putF]
 | (k,x)::r=>by
  have ih:=zfI f v r;rw[show putF f v ((k,x)::r)=(if k=f then(k,v)::r else(k,x)::putF f v r) from rfl]
  by_cases hk:k=f
  ·rw[if_pos hk,XG,XG];lia
  ·rw[if_neg hk,XG,XG];lia
theorem RelO.some_of {v:V}{o:Option Value}(r:RelO (some v) o):∃u,o=some u/\RelV v u:=by
 cases o with
 | none=>exact(show False from r).elim
 | some u=>exact⟨u,rfl,r⟩
theorem RelO.none_of {o:Option Value}(r:RelO none o):o=none:=by
 cases o with
 | none=>rfl
 | some u=>exact(show False from r).elim
theorem zlx {v:V}{u:Value}(r:RelV v u):PySem.W.handedIn u=true:=by
 cases v with
 | non=>cases (show u=Value.none from r);rfl
 | bl b=>cases (show u=Value.bool b from r);rfl
 | int i=>obtain⟨t,e⟩:=(show ∃t,u=Value.int i t from r);cases e;rfl
 | str x=>obtain⟨t,e⟩:=(show ∃t,u=Value.str x t from r);cases e;rfl
 | byt b=>obtain⟨t,e⟩:=(show ∃t,u=Value.bytes b t from r);cases e;rfl
 | flt b=>obtain⟨t,e⟩:=(show ∃t,u=Value.float b t from r);cases e;rfl
 | ref a=>cases (show u=Value.ref a from r);rfl
 | ty n=>cases (show u=Value.type n from r);rfl
section
variable {P:Program}{w:World}{H H':Hp}{h h':Heap}{a C dx:Addr}{fs fs':List (Str×V)}
theorem ziL (hok:HOk P w H h)(e:H a=some (.ins C dx fs)):∃mA,ObjM h a dx C mA/\(∀f,RelO (fs.lookup f) (mA f))/\PySem.Within mA (fs.map (·.1))/\fs.length<=1000/\H dx=some (.own a):=by
 obtain⟨d,z,ne,ob,mA,n,r,q⟩:=(show zcp P w H h a (.ins C dx fs) from hok a _ e);exact⟨mA,⟨ob,n,ne⟩,r,q,z,d⟩
end
structure Cls (K:Xa)(C:Addr):Prop where
 pg:PySem.W.plainGet K C Str.empty=true
 hd:PySem.W.hasDictIn K C=true
 po:PySem.W.plainOver K C=true
 sa:XY K (.ref C) "__setattr__" = some (some (.builtin "object.__setattr__"))
theorem Cls.get {K:Xa}{C:Addr}(c:Cls K C)(f:Str):PySem.W.plainGet K C f=true:=c.pg
noncomputable def zcC (K:Xa)(C:Addr)(f:Str):Prop:=XY K (.ref C) f=some none
theorem zcC.taker {K:Xa}{C:Addr}{f:Str}(n:zcC K C f):PySem.W.takerIn K C f=some none:=by
 unfold PySem.W.takerIn;rw[show XY K (.ref C) f=some none from n];rfl
structure Meth (K:Xa)(C:Addr)(m:Str)(f:Addr):Prop where
 at_:XY K (.ref C) m=some (some (.ref f))
 fn:PySem.W.isFn K (.ref f)=true
 kp:Xz K (.ref f)=true
section
variable {X:Cx}{pins:List (Addr×Obj)}{σ:St}{H:Hp}{s:Shared}{a C dx:Addr}{fs:List (Str×V)}{f:Str}{v:V}{A:Around}{E:Value->Shared->Prop}
theorem zkE {b:Bool}{Q:Value->Shared->Prop}(I:Inv X pins σ H s)(e:H a=some (.ins C dx fs))(c:Cls X.K C)(n:zcC X.K C f)(l:fs.lookup f=some v)
  (h:∀u s',Inv X pins σ H s'->RelV v u->Q u s'):wpAny (model X.prog X.w) A (getAttr (.ref a) f b) Q E s:=by
 obtain⟨mA,O,r,_,_,_⟩:=ziL I.hok e;obtain⟨u,hu,ru⟩:=RelO.some_of (v:=v) (o:=mA f) (by rw[<- l];exact r f);exact get_map I.kIn O (c.get f) c.hd n hu (zlx ru) (h u _ (I.tok _) ru)
theorem zkF {m:Str}{g:Addr}{pl:Sem Bool}{Q:Value×List Value->Shared->Prop}(I:Inv X pins σ H s)(e:H a=some (.ins C dx fs))(c:Cls X.K C)(k:Meth X.K C m g)(l:fs.lookup m=none)
  (h:Q (.ref g,[.ref a]) s):wpAny (model X.prog X.w) A (getMethod (.ref a) m pl) Q E s:=by
 obtain⟨mA,O,r,_,_,_⟩:=ziL I.hok e;have hn:mA m=none:=RelO.none_of (by rw[<- l];exact r m);exact znK I.kIn O (c.get m) k.at_ k.fn hn h
theorem zkG {y:V}{u:Value}{Q:Unit->Shared->Prop}(I:Inv X pins σ H s)(e:H a=some (.ins C dx fs))(c:Cls X.K C)(n:zcC X.K C f)(hl:fs.length<1000)(ry:RelV y u)
  (h:∀s',Inv X pins σ (upd H a (.ins C dx (putF f y fs))) s'->Q () s'):wpAny (model X.prog X.w) A (setAttr (.ref a) f u) Q E s:=by
 obtain⟨mA,O,r,wi,_,ho⟩:=ziL I.hok e;have hz:(fs.map (·.1)).length<=sizeLine:=by rw[Xb,sizeLine_eq];lia
 refine zpI I.kIn O c.sa c.po n.taker c.hd wi hz λh' O' sb=>h _ ?_;have hd:∃o,h'.get? dx=some o:=let ⟨o,_,_,e',_⟩:=O'.ns;⟨o,e'⟩;refine I.write (x:=a) (e:=dx) (by rw[e];exact True.intro) (.inr ho) (λb q hb z=>(sb.2 b hb).trans z) hd ?_;refine⟨by rw[zaj O.ne];exact ho,?_,O.ne,O'.obj,_,O'.ns,λg=>?_,λg hg=>?_⟩
 ·have:=zfI f y fs;lia
 ·show RelO ((putF f y fs).lookup g) (if g=f then some u else mA g)
  rw[zfG];by_cases q:g=f
  ·rw[if_pos q,if_pos q];exact ry
  ·rw[if_neg q,if_neg q];exact r g
 ·by_cases q:g=f
  ·rw[q];exact(zfH f y fs).1
  ·refine(zfH f y fs).2 g (wi g λz=>hg ?_);show(if g=f then some u else mA g)=none
   rw[if_neg q];exact z
theorem Inv.made (I:Inv X pins σ H s):Inv X pins σ (upd (upd H s.heap.objs.size (.own (s.heap.objs.size+1))) (s.heap.objs.size+1) (.ins C s.heap.objs.size []))
  {s with heap:=(s.heap.push Yw).push (PySem.W.instObj C s.heap.objs.size) }:=by
 have e1:(s.heap.push Yw).get? s.heap.objs.size=some Yw:=XC s.heap rfl;have e2:((s.heap.push Yw).push (PySem.W.instObj C s.heap.objs.size)).get? (s.heap.objs.size+1)=some (PySem.W.instObj C s.heap.objs.size):=by
  have:=XC (s.heap.push Yw) (o:=PySem.W.instObj C s.heap.objs.size) rfl
  rwa [Yy]at this
 have e3:(s.heap.push Yw).Ns s.heap.objs.size (λ_=>none):=⟨Yw,#[],_,e1,rfl,(λe he=>absurd he (by simp)),λ_=>rfl⟩;have I1:=I.laid (a:=s.heap.objs.size) (o:=.own (s.heap.objs.size+1)) (h':=s.heap.push Yw) (t':=s.toks) (λb u q=>Xe _ q) (Xi _) ⟨_,e1⟩;refine I1.laid (a:=s.heap.objs.size+1) (o:=.ins C s.heap.objs.size []) (t':=s.toks) (λb u q=>Xe _ q) (Nat.le_of_eq (Yy _ _)) ?_;have ne:s.heap.objs.size≠s.heap.objs.size+1:=XJ (Nat.lt_succ_self _);refine⟨by rw[zaj ne,zal],XT _,ne,e2,λ_=>none,(Heap.Ns1.of_empty e3).at λo q=>Xe _ q,λ_=>True.intro,λy hy=>absurd rfl hy⟩
theorem zpJ {prog:Program}{w:World}{env:Env}{e:Expr}{f:Str}{pos:Pos}{s:Shared}{Q:Value->Shared->Prop}(hb:attributeBase e f env (eval e env)=eval e env)
  (h:wpAny (model prog w) A (eval e env) (λo s₁=>wpAny (model prog w) A (getAttr o f true) Q E s₁) E s):wpAny (model prog w) A (eval (.Attribute e f pos) env) Q E s:=
 Attribute_any_ h (by rw[arm_eval_Attribute,hb])
end
noncomputable def tFld (K:Xa)(ta:TE)(f:Str):TE:=λσ H Q=>ta σ H λx H1=>∃a C dx fs v,x=.ref a/\H1 a=some (.ins C dx fs)/\Cls K C/\zcC K C f/\fs.lookup f=some v/\Q v H1
noncomputable def sFld (K:Xa)(ta tv:TE)(f:Str):TS:=λD σ H=>tv σ H λy H1=>ta σ H1 λx H2=>∃a C dx fs,x=.ref a/\H2 a=some (.ins C dx fs)/\Cls K C/\zcC K C f/\fs.length<1000/\
 D.nx σ (upd H2 a (.ins C dx (putF f y fs)))
section
variable {X:Cx}{o e value:Expr}{f:Str}{pos pos' tpos:Pos}{ta tv:TE}
theorem zpa (he:PE X e ta)(hb:attributeBase e f X.env (eval e X.env)=eval e X.env):PE X (.Attribute e f pos) (tFld X.K ta f):=by
 intro pins s σ H Q I h;refine zpJ hb (thn (he pins s σ H _ I h) λu s1 q30q=>?_);obtain⟨x,H1,I1,rx,a,C,dx,fs,v,ex,ea,c,n,l,q⟩:=q30q;subst ex;obtain rfl:u=Value.ref a:=rx;exact zkE I1 ea c n l λu' s2 I2 ru=>⟨v,H1,I2,ru,q⟩
theorem zpb (ha:PE X o ta)(hv:PE X value tv)(hs:swapsWith value (some (.Attribute o f pos')) pos.line X.env=pure false):PS X (.Assign [.Attribute o f pos'] value pos) (sFld X.K ta tv f):=by
 intro pins s σ H D I h;refine plainObj_wpAny_Assign_Attribute (thn (hv pins s σ H _ I h) λu s1 ⟨y,H1,I1,ry,q⟩=>thn (ha pins s1 σ H1 _ I1 q) λov s2 q32q=>?_) hs;obtain⟨x,H2,I2,rx,a,C,dx,fs,ex,ea,c,n,l,q2⟩:=q32q;subst ex;obtain rfl:ov=Value.ref a:=rx;exact zkG I2 ea c n l ry λs3 I3=>⟨σ,_,I3,q2⟩
end
structure Room (k:Nat)(A:Around):Prop where
 hd:A.handled=none
 dp:A.depth+3*k+5<recursionLimit
 un:A.units+16*k+200<cLine
theorem Room.mono {j k:Nat}{A:Around}(r:Room k A)(h:j<=k):Room j A:=⟨r.hd,by have:=r.dp;lia,by have:=r.un;lia⟩
theorem Room.deeper {k:Nat}{A:Around}(r:Room (k+1) A)(env:Env):Room k (A.deeper env):=
 ⟨r.hd,by have:=r.dp;show A.depth+1+3*k+5<_;lia,by have:=r.un;show A.units+3+16*k+200<_;lia⟩
theorem zkH {A:Around}{C:Addr}{us:List Value}{kw:List (Str×Value)}:(A.under (.builtin "type.__call__" ⟨.ref C::us,kw⟩)).depth=A.depth+1:=by
 first | rfl | simp[Around.under,Code.weight,Code.isCreation,Code.isGuard,Code.isCaller,Code.frames,Code.isFrame,guardIds]
theorem zkI {A:Around}{C:Addr}{us:List Value}{kw:List (Str×Value)}:(A.under (.builtin "type.__call__" ⟨.ref C::us,kw⟩)).units=A.units+1:=by
 first | rfl | simp[Around.under,Code.cUnits,Code.frames,Code.isFrame]
theorem Room.make {k:Nat}{A:Around}(r:Room (k+1) A)(C:Addr)(us:List Value)(kw:List (Str×Value)):Room k (A.under (.builtin "type.__call__" ⟨.ref C::us,kw⟩)):=
 ⟨r.hd,by have:=r.dp;rw[zkH];lia,by have:=r.un;rw[zkI];lia⟩
theorem Room.depth {k:Nat}{A:Around}(r:Room k A):A.depth<recursionLimit:=by have:=r.dp;lia
theorem Room.units {k:Nat}{A:Around}(r:Room k A):A.units+64<cLine:=by have:=r.un;lia
noncomputable def tNil:TA:=λ_ H Q=>Q [] H
noncomputable def zrH (ta:TE)(tr:TA):TA:=λσ H Q=>ta σ H λx H1=>tr σ H1 λxs H2=>Q (x::xs) H2
section
variable {X:Cx}{e:Expr}{es:List Expr}{te:TE}{t:TA}{pos:Pos}
theorem zhy:PA X [] tNil:=λ_ _ _ _ H Q I h=>Calls.spliced_nil ⟨[],H,I,.nil,h⟩
theorem zgL (ha:PE X e te)(hr:PA X es t)(hs:autoParam (starEach (e::es) X.env=(false,eval e X.env)::starEach es X.env) aU0):PA X (e::es) (zrH te t):=by
 intro pos pins s σ H Q I h;rw[hs];show wpAny _ _ (spliced ((false,eval e X.env)::backTo pos (starEach es X.env))) _ _ s;refine Calls.spliced_cons (thn (ha pins s σ H _ I h) λu s1 q33q=>?_);obtain⟨x,H1,I1,r1,q1⟩:=q33q;exact thn (hr pos pins s1 σ H1 _ I1 q1) λus s2 q34q=>by obtain⟨xs,H2,I2,r2,q2⟩:=q34q;exact⟨x::xs,H2,I2,.cons r1 r2,q2⟩
noncomputable def tTup (t:TA):TE:=λσ H Q=>t σ H λxs H1=>xs.length<=sizeLine/\∀p,H1 p=none->Q (.ref p) (upd H1 p (.tup xs))
noncomputable def tLst (t:TA):TE:=λσ H Q=>t σ H λxs H1=>xs.length<=sizeLine/\∀p,H1 p=none->Q (.ref p) (upd H1 p (.lst xs))
theorem zrI {x1}(h:PA X es t):PE X (.Tuple es x1 pos) (tTup t):=by
 intro pins s σ H Q I hq;refine wpAny_Tuple_spliced (thn (h pos pins s σ H _ I hq) λus s1 ⟨xs,H1,I1,r,z,q⟩=>⟨by rw[<- r.length];exact z,?_⟩);have hf:H1 s1.heap.objs.size=none:=I1.hok.fresh (Xi _);refine⟨.ref s1.heap.objs.size,upd H1 s1.heap.objs.size (.tup xs),I1.laid (t':=s1.toks) (λb u e=>Xe _ e) (Xi _) ?_,rfl,q _ hf⟩;exact⟨z,us,r,zdd.new _ _⟩
theorem zpc (h:PA X es t):PE X (.List es pos) (tLst t):=by
 intro pins s σ H Q I hq;refine wpAny_List_spliced (thn (h pos pins s σ H _ I hq) λus s1 ⟨xs,H1,I1,r,z,q⟩=>⟨by rw[<- r.length];exact z,?_⟩);have hf:H1 s1.heap.objs.size=none:=I1.hok.fresh (Xi _);refine⟨.ref s1.heap.objs.size,upd H1 s1.heap.objs.size (.lst xs),I1.laid (t':=s1.toks) (λb u e=>Xe _ e) (Xi _) ?_,rfl,q _ hf⟩;exact⟨z,us,0,r,XC _ rfl⟩
end
noncomputable abbrev Sp:=List V->Hp->VK->XK->Prop
noncomputable abbrev CXT:=List Env->Hp->Shared->XK->Value->Shared->Prop
structure Env0 (P:Program)(w:World)(K:Xa)(mg:Str->Option Value)(base:Heap)(A:Around)(outer:List Env)(s:Shared)(H:Hp):Prop where
 frames:A.frames=some outer
 mod:Mod K mg base
 bs:∀b o,base.get? b=some o->s.heap.get? b=some o/\H b=none
 bsz:base.objs.size<=s.heap.objs.size
 funs:s.heap.FunFrames base outer
 frf:∀b∈frs outer,H b=none
 hok:HOk P w H s.heap
 bare:AllBare s.gens
noncomputable def CE (outer:List Env)(P:Program)(w:World)(H:Hp)(s:Shared)(Q:VK)(u:Value)(s':Shared):Prop:=
 ∃v H',s'.os=s.os/\AllBare s'.gens/\Un (frs outer) [] H H' s.heap s'.heap/\HOk P w H' s'.heap/\RelV v u/\Q v H'
noncomputable def CR (CX:CXT)(outer:List Env)(P:Program)(w:World)(H:Hp)(s:Shared)(Q:VK)(E:XK)(r:Result)(s':Shared):Prop:=
 match r with
 | .ok (.ret u)=>CE outer P w H s Q u s'
 | .ok _=>False
 | .error e=>CX outer H s E e s'
structure FnOk (P:Program)(w:World)(K:Xa)(mg:Str->Option Value)(base:Heap)(CX:CXT)(k:Nat)(f:Addr)(fd:FuncData)(ps:List Str)(sp:Sp):Prop where
 len:∀vs H Q E,sp vs H Q E->vs.length=ps.length
 run:∀(A:Around) (outer:List Env) (s:Shared) (H:Hp) (args:Args) (us:List Value) (vs:List V) (Q:VK) (E:XK),Room k A->Env0 P w K mg base A outer s H->BindsTo s fd args (ps.zip us)->Vals vs us->sp vs H Q E->
  codeAny (model P w) A (.call (.ref f) args) (CR CX outer P w H s Q E) s
theorem FnOk.mono {P:Program}{w:World}{K:Xa}{mg:Str->Option Value}{base:Heap}{CX:CXT}{j k:Nat}{f:Addr}{fd:FuncData}{ps:List Str}{sp:Sp}(F:FnOk P w K mg base CX j f fd ps sp)(h:j<=k) :
  FnOk P w K mg base CX k f fd ps sp:=⟨F.len,λA outer s H args us vs Q E hr=>F.run A outer s H args us vs Q E (hr.mono h)⟩
theorem Env0.make {P:Program}{w:World}{K:Xa}{mg:Str->Option Value}{base:Heap}{A:Around}{outer:List Env}{s:Shared}{H:Hp}(e:Env0 P w K mg base A outer s H)(C:Addr)(us:List Value)(kw:List (Str×Value)) :
  Env0 P w K mg base (A.under (.builtin "type.__call__" ⟨.ref C::us,kw⟩)) outer s H:=⟨by first | exact e.frames | (simpa[Around.under,Code.envs,Code.isFrame,pushEnvs]using e.frames),e.mod,e.bs,e.bsz,e.funs,e.frf,e.hok,e.bare⟩
section
variable {X:Cx}{pins:List (Addr×Obj)}{σ:St}{H:Hp}{s s':Shared}
theorem Inv.env0 (I:Inv X pins σ H s):Env0 X.prog X.w X.K X.mg X.base X.A X.stack s H:=
 ⟨I.ok.frames,I.ok.mod,I.bs,XB I.ok.bsz I.sz,I.stack,I.zlm,I.hok,I.bare⟩
theorem Inv.after {Q:VK}{u:Value}(I:Inv X pins σ H s)(h:CE X.stack X.prog X.w H s Q u s'):EP X pins σ Q u s':=by
 obtain⟨v,H',os,bare,un,hok,r,q⟩:=h;obtain⟨hh,g,d,t,os'⟩:=s';obtain rfl:os'=s.os:=os;exact⟨v,H',I.call (h':=hh) (g':=g) (d':=d) (t':=t) (ch:=[]) un hok bare (λb z=>absurd z (by simp)),r,q⟩
end
noncomputable def zrJ (sp:Sp)(dvs:List V)(E:XK)(t:TA):TE:=λσ H Q=>t σ H λvs H1=>sp (vs++dvs) H1 Q E
noncomputable def zto (C:Addr)(m:Str)(sp:Sp)(dvs:List V)(E:XK)(ta:TE)(t:TA):TE:=λσ H Q=>ta σ H λx H1=>∃a dx fs,x=.ref a/\H1 a=some (.ins C dx fs)/\fs.lookup m=none/\
 t σ H1 λvs H2=>sp (x::(vs++dvs)) H2 Q E
noncomputable def ztp (C:Addr)(sp:Sp)(dvs:List V)(E:XK)(t:TA):TE:=λσ H Q=>t σ H λvs H1=>∀x dx,H1 x=none->H1 dx=none->dx≠x->
 sp (.ref x::(vs++dvs)) (upd (upd H1 dx (.own x)) x (.ins C dx [])) (λv H2=>v=.non/\Q (.ref x) H2) E
noncomputable def Binds (K:Xa)(fd:FuncData)(ps:List Str)(ds:List Value):Prop:=
 ∀(s:Shared) (us:List Value),K.In s.heap->(us++ds).length=ps.length->BindsTo s fd ⟨us,[]⟩ (ps.zip (us++ds))
theorem Binds.all {K:Xa}{fd:FuncData}{ps:List Str}(h:∀us:List Value,us.length=ps.length->bindArgs fd ⟨us,[]⟩=pure (ps.zip us)):Binds K fd ps []:=λs us _ hl=>by
 rw[Yn]at hl ⊢;exact .of_eq (h us hl)
noncomputable def zgr (CX:CXT)(X:Cx)(E:XK):Prop:=∀(pins:List (Addr×Obj))(σ:St)(H:Hp)(s:Shared)(e:Value)(s':Shared),Inv X pins σ H s->CX X.stack H s E e s'->X.xe e s'
section
variable {X:Cx}{CX:CXT}{k:Nat}{f C:Addr}{fd:FuncData}{ps:List Str}{sp:Sp}{dvs:List V}{ds:List Value}{E:XK}{x m:Str}{p pos apos:Pos}{e o:Expr}{es:List Expr}{ta:TE}{t:TA}
theorem zpd {pins:List (Addr×Obj)}{σ:St}{H:Hp}{s:Shared}{Q:VK}{us:List Value}{vs:List V}(F:FnOk X.prog X.w X.K X.mg X.base CX k f fd ps sp)(hr:Room k X.A)(hb:Binds X.K fd ps ds)(hd:Vals dvs ds)(hx:zgr CX X E)
  (I:Inv X pins σ H s) (r:Vals vs us) (h:sp (vs++dvs) H Q E):wpAny (model X.prog X.w) X.A (call (.ref f) us) (EP X pins σ Q) X.xe s:=by
 have r2:Vals (vs++dvs) (us++ds):=r.append hd;have hl:(us++ds).length=ps.length:=by rw[<- r2.length];exact F.len _ _ _ _ h
 refine wpAny_call (codeAny_mono (F.run X.A X.stack s H ⟨us,[]⟩ (us++ds) (vs++dvs) Q E hr I.env0 (hb s us I.kIn hl) r2 h) λr s' hq=>?_);cases r with
 | error e=>exact hx pins σ H s e s' I hq
 | ok fl=>
  cases fl with
  | ret u=>exact I.after hq
  | next=>exact False.elim hq
  | brk=>exact False.elim hq
  | cont=>exact False.elim hq
theorem zpK (F:FnOk X.prog X.w X.K X.mg X.base CX k f fd ps sp)(hr:Room k X.A)(hg:Gl X x)(hm:X.mg x=some (.ref f))(hk:Xz X.K (.ref f)=true)(hb:Binds X.K fd ps ds)(hd:Vals dvs ds)(hx:zgr CX X E)
  (ha:PA X (e::es) t) (hdb:autoParam ((x == ("__debug__" : Str))=false) aU1) (he:autoParam (starEach (e::es) X.env=(false,eval e X.env)::starEach es X.env) aU0) (hpl:autoParam ((backTo pos (starEach es X.env)).any (·.1)=false) aU0) :
  PE X (.Call (.Name x p) (e::es) [] pos) (zrJ sp dvs E t):=by
 intro pins s σ H Q I h;refine wpAny_Call_Name_kw (zlo I hg hm ?_ hdb);refine PySem.W.callWith_K (h₀:=X.base) I.ok.mod.kin hk (thn (ha pos pins s σ H _ I h) λus s1 ⟨vs,H1,I1,r,q⟩=>⟨I1.kIn,?_⟩) he hpl;exact zpd F hr hb hd hx I1 r q
theorem zly {pl:Sem Bool}(he:PE X o ta)(c:Cls X.K C)(hm:Meth X.K C m f)(F:FnOk X.prog X.w X.K X.mg X.base CX k f fd ps sp)(hr:Room k X.A)(hb:Binds X.K fd ps ds)(hd:Vals dvs ds)(hx:zgr CX X E)(ha:PA X (e::es) t)
  (hst:autoParam (starEach (e::es) X.env=(false,eval e X.env)::starEach es X.env) aU0) (hpl:autoParam ((backTo pos (starEach es X.env)).any (·.1)=false) aU0)
  (ht:autoParam (eval (.Call (.Attribute o m apos) (e::es) [] pos) X.env=(do
   let ov <- eval o X.env
   standAt apos.atName
   let (f,first) <- holding [ov] (getMethod ov m pl)
   callWith pos f first (backTo pos (starEach (e::es) X.env)) (backToKw pos (keywordEach [] X.env)))) aU0) :
  PE X (.Call (.Attribute o m apos) (e::es) [] pos) (zto C m sp dvs E ta t):=by
 intro pins s σ H Q I h;refine PySem.W.methodCall_KW (pl:=pl) (thn (he pins s σ H _ I h) λu s1 q38q=>?_) ht;obtain⟨x,H1,I1,rx,a,dx,fs,ex,ea,l,q⟩:=q38q;subst ex;obtain rfl:u=Value.ref a:=rx;refine zkF I1 ea c hm l ?_;refine PySem.W.callWith_K (first:=[.ref a]) (h₀:=X.base) I.ok.mod.kin hm.kp (thn (ha pos pins s1 σ H1 _ I1 q) λus s2 ⟨vs,H2,I2,r,q2⟩=>⟨I2.kIn,?_⟩) hst hpl
 exact zpd (us:=.ref a::us) (vs:=.ref a::vs) F hr hb hd hx I2 (.cons rfl r) q2
structure Mk (K:Xa)(C f:Addr):Prop where
 makes:PySem.W.makesIn K C=true
 init:XY K (.ref C) "__init__" = some (some (.ref f))
 fn:PySem.W.isFn K (.ref f)=true
 kp:Xz K (.ref C)=true
theorem znM {pins:List (Addr×Obj)}{σ:St}{H:Hp}{s:Shared}{Q:VK}{us:List Value}{vs:List V}(M:Mk X.K C f)(F:FnOk X.prog X.w X.K X.mg X.base CX k f fd ps sp)(hr:Room (k+1) X.A)(hb:Binds X.K fd ps ds)(hd:Vals dvs ds)
  (hx:zgr CX X E) (I:Inv X pins σ H s) (r:Vals vs us)
  (h:∀x dx,H x=none->H dx=none->dx≠x->sp (.ref x::(vs++dvs)) (upd (upd H dx (.own x)) x (.ins C dx [])) (λv H2=>v=.non/\Q (.ref x) H2) E) :
  wpAny (model X.prog X.w) X.A (call (.ref C) us) (EP X pins σ Q) X.xe s:=by
 have hq:=h (s.heap.objs.size+1) s.heap.objs.size (I.hok.fresh (YN _)) (I.hok.fresh (Xi _)) (XJ (Nat.lt_succ_self _));have I2:=Inv.made (C:=C) I;have r2:Vals (V.ref (s.heap.objs.size+1)::(vs++dvs)) (Value.ref (s.heap.objs.size+1)::(us++ds)):=.cons rfl (r.append hd);have hl:(Value.ref (s.heap.objs.size+1)::us++ds).length=ps.length:=by
  have e:=r2.length;rw[F.len _ _ _ _ hq]at e;exact e.symm
 refine wpAny_call (znL (f:=f) I.kIn M.makes M.init (beq_iff_eq.mp M.fn) (codeAny_mono (F.run _ X.stack _ _ ⟨Value.ref (s.heap.objs.size+1)::us,[]⟩ (Value.ref (s.heap.objs.size+1)::(us++ds)) _ _ E (hr.make C us [])
  (I2.env0.make C us []) (hb _ (Value.ref (s.heap.objs.size+1)::us) I2.kIn hl) r2 hq) λr s' hq'=>?_))
 cases r with
 | error e=>exact hx pins σ _ _ e s' I2 hq'
 | ok fl=>
  cases fl with
  | ret u=>
   obtain⟨v,H',I3,rv,ev,q3⟩:=I2.after hq';subst ev;exact⟨rv,⟨V.ref (s.heap.objs.size+1),H',I3,rfl,q3⟩⟩
  | next=>exact False.elim hq'
  | brk=>exact False.elim hq'
  | cont=>exact False.elim hq'
theorem zpL (M:Mk X.K C f)(F:FnOk X.prog X.w X.K X.mg X.base CX k f fd ps sp)(hr:Room (k+1) X.A)(hg:Gl X x)(hm:X.mg x=some (.ref C))(hb:Binds X.K fd ps ds)(hd:Vals dvs ds)(hx:zgr CX X E)
  (ha:PA X (e::es) t) (hdb:autoParam ((x == ("__debug__" : Str))=false) aU1) (he:autoParam (starEach (e::es) X.env=(false,eval e X.env)::starEach es X.env) aU0) (hpl:autoParam ((backTo pos (starEach es X.env)).any (·.1)=false) aU0) :
  PE X (.Call (.Name x p) (e::es) [] pos) (ztp C sp dvs E t):=by
 intro pins s σ H Q I h;refine wpAny_Call_Name_kw (zlo I hg hm ?_ hdb);refine PySem.W.callWith_K (h₀:=X.base) I.ok.mod.kin M.kp (thn (ha pos pins s σ H _ I h) λus s1 ⟨vs,H1,I1,r,q⟩=>⟨I1.kIn,?_⟩) he hpl;exact znM M F hr hb hd hx I1 r q
end
structure zau (N P:List Str)(sc:Scope):Prop where
 kind:sc.kind=.function
 co:sc.isCoroutine=false
 gen:sc.isGenerator=false
 nd:N.Nodup
 pre:N.take P.length=P
 par:∀x∈P,sc.names.lookup x=some .local\/sc.names.lookup x=some .cell
 nofree:∀y∈sc.names,y.2≠.free
theorem zhz {kindOf:Str->Option NameKind}{x:Str}:∀ {binds:List (Str×Value)}{m:Str->Option Value},(∀v,(x,v)∉binds)->bindL kindOf binds m x=m x
 | [],_,_=>rfl
 | (n,v)::r,m,h=>by
  unfold bindL;rw[zhz λw hw=>h w (Xf _ hw)];split
  ·have:x≠n:=by rintro rfl;exact h v Xh
   simp[this]
  ·rfl
theorem zhA {kindOf:Str->Option NameKind}{x:Str}:∀ {binds:List (Str×Value)}{m:Str->Option Value},(∀v,(x,v)∉binds)->bindC kindOf binds m x=m x
 | [],_,_=>rfl
 | (n,v)::r,m,h=>by
  unfold bindC;rw[zhA λw hw=>h w (Xf _ hw)];split
  ·rfl
  ·have:x≠n:=by rintro rfl;exact h v Xh
   simp[this]
theorem zhB {kindOf:Str->Option NameKind}{x:Str}{v:Value}:∀ {P:List Str}{vs:List Value}{i:Nat}{m:Str->Option Value},P.Nodup->P[i]? = some x->vs[i]? = some v->kindOf x=some .local->
  bindL kindOf (P.zip vs) m x=some v
 | [],_,_,_,_,h,_,_=>by simp at h
 | _::_,[],_,_,_,_,h,_=>by simp at h
 | p::P,w::vs,0,m,nd,h1,h2,hk=>by
  simp at h1 h2;subst h1;subst h2;show bindL kindOf ((p,w)::P.zip vs) m p=_;unfold bindL;rw[zhz λv hv=>(XX.mp nd).1 (List.of_mem_zip hv).1,if_pos hk];simp
 | p::P,w::vs,i+1,m,nd,h1,h2,hk=>by
  show bindL kindOf ((p,w)::P.zip vs) m x=_;unfold bindL;exact zhB (i:=i) (XX.mp nd).2 (by simpa using h1) (by simpa using h2) hk
theorem zhC {kindOf:Str->Option NameKind}{x:Str}{v:Value}:∀ {P:List Str}{vs:List Value}{i:Nat}{m:Str->Option Value},P.Nodup->P[i]? = some x->vs[i]? = some v->kindOf x≠some .local->
  bindC kindOf (P.zip vs) m x=some v
 | [],_,_,_,_,h,_,_=>by simp at h
 | _::_,[],_,_,_,_,h,_=>by simp at h
 | p::P,w::vs,0,m,nd,h1,h2,hk=>by
  simp at h1 h2;subst h1;subst h2;show bindC kindOf ((p,w)::P.zip vs) m p=_;unfold bindC;rw[zhA λv hv=>(XX.mp nd).1 (List.of_mem_zip hv).1,if_neg hk];simp
 | p::P,w::vs,i+1,m,nd,h1,h2,hk=>by
  show bindC kindOf ((p,w)::P.zip vs) m x=_;unfold bindC;exact zhC (i:=i) (XX.mp nd).2 (by simpa using h1) (by simpa using h2) hk
noncomputable def start (N:List Str)(vs:List V):St:=vs.map some++YO (N.length-vs.length) none
noncomputable def cxOf (CX:CXT)(P:Program)(w:World)(K:Xa)(mg:Str->Option Value)(base:Heap)(N:List Str)(qual:Str)(scope:Scope)(f:Addr)(cd:Value)(A:Around)(outer:List Env)(s:Shared)(H:Hp)(E:XK):Cx where
 prog:=P
 w:=w
 K:=K
 mg:=mg
 base:=base
 A:=A.deeper (envOfC qual scope s.heap.objs.size f cd)
 N:=N
 s₀:=s
 H₀:=H
 env:=envOfC qual scope s.heap.objs.size f cd
 outer:=outer
 stack:=envOfC qual scope s.heap.objs.size f cd::outer
 ex:=[]
 calm:=true
 fn:=λ_=>true
 pn:=[]
 xe:=λe s'=>wpAny (model P w) (A.deeper (envOfC qual scope s.heap.objs.size f cd)) (leaving (envOfC qual scope s.heap.objs.size f cd) e) (λ_ s''=>CX outer H s E e s'') (λe' s''=>CX outer H s E e' s'') s'
theorem zjp {sc:Scope}{n:Nat}{x:Str}(h:sc.names.lookup x=some .cell):∃c,(cellsFrom n sc.names []).lookup x=some c:=by
 have q:=PySem.W.cellsFrom_some sc.names n [] (.inl h);exact Option.isSome_iff_exists.mp q
theorem zlz {CX:CXT}{P:Program}{w:World}{K:Xa}{mg:Str->Option Value}{base:Heap}{N ps:List Str}{qual:Str}{scope:Scope}{f:Addr}{cd:Value}{A:Around}{outer:List Env}{s s1:Shared}{H:Hp}{E:XK}{us:List Value}{vs:List V}
  (S:zau N ps scope) (hd:A.handled=none) (e0:Env0 P w K mg base A outer s H) (hl:vs.length=ps.length) (r:Vals vs us)
  (x:InCallC s s.heap.objs.size (bindL (envOfC qual scope s.heap.objs.size f cd).kindOf (ps.zip us) λ_=>none) (cellsFrom (s.heap.objs.size+1) scope.names []) (bindC (envOfC qual scope s.heap.objs.size f cd).kindOf (ps.zip us) λ_=>none) s1) :
  Inv (cxOf CX P w K mg base N qual scope f cd A outer s H E) [] (start N vs) H s1:=by
 have hpl:ps.length<=N.length:=by have:=congrArg List.length S.pre;rw[Ya]at this;lia
 obtain⟨h1,tk,rfl,hk⟩:=x.done;have noA:∀b:Addr,b∉(cxOf CX P w K mg base N qual scope f cd A outer s H E).ex:=λb z=>absurd (show b∈([]:List Addr) from z) (by simp);refine⟨⟨e0.mod,S.kind,rfl,rfl,Xi _,λy z c h1 h2=>?_,λy hy=>?_,λy c _ h=>?_,λ_=>hd,Around.frames_deeper e0.frames,.inr ⟨rfl,rfl⟩,λb z=>absurd z (noA b),e0.bs,e0.bsz,λb _ _=>noA b,λb z=>absurd z (noA b),e0.funs,e0.frf⟩,
  rfl,e0.bare,Un.kept hk,⟨_,x.toInCall.ns,λi y v h1 h2 h3=>?_⟩,λy c h=>⟨_,x.cell y c h⟩,e0.hok.fresh (Xi _),λy c h=>?_,λp hp=>absurd (show p∈([]:List (Addr×Obj)) from hp) (by simp),e0.hok.kept hk,?_⟩
 ·exact name_of_addr x.apart (PySem.mem_of_lookup h1) (PySem.mem_of_lookup h2)
 ·have hy:scope.names.lookup y=some .cell\/scope.names.lookup y=some .free:=hy;rcases hy with hy | hy
  ·exact zjp hy
  ·exact absurd rfl (S.nofree _ (PySem.mem_of_lookup hy))
 ·exact Nat.le_of_lt (x.above y c (PySem.mem_of_lookup h))
 ·have hi:i<vs.length:=by
   unfold start at h2;by_cases hi:i<vs.length
   ·exact hi
   ·rw[XU (by simpa using hi)]at h2;rw[List.getElem?_replicate]at h2;split at h2<;>cases h2
  have ha:vs[i]? = some v:=by
   unfold start at h2;rw[XD (by simpa using hi),Xk]at h2;cases e:vs[i]? with
   | none=>rw[e]at h2;cases h2
   | some a=>rw[e]at h2;cases h2;rfl
  obtain⟨u,hu,rv⟩:=r.get ha;have hp:ps[i]? = some y:=by
   rw[<- S.pre,List.getElem?_take_of_lt (by lia)];exact h1
  have ndP:ps.Nodup:=by rw[<- S.pre];exact S.nd.sublist (List.take_sublist _ _)
  refine⟨u,rv,?_⟩;rcases S.par y (Xr hp)with k | k
  ·exact .inl ⟨k,zhB ndP hp hu k⟩
  ·obtain⟨c,e⟩:=zjp (n:=s.heap.objs.size+1) k;refine .inr ⟨.inl k,c,e,?_⟩;have q:=x.cell y c e;rw[zhC ndP hp hu (by show scope.names.lookup y≠_;rw[k];decide)]at q;exact q
 ·exact e0.hok.fresh (Nat.le_of_lt (x.above y c (PySem.mem_of_lookup h)))
 ·unfold start;show _=N.length;rw[Xj,Xb,YH];lia
theorem ztq {CX:CXT}{P:Program}{w:World}{K:Xa}{mg:Str->Option Value}{base:Heap}{k:Nat}{f:Addr}{name qual:Str}{params:Arguments}{body:List Stmt}{scope:Scope}{dV kV doc pm cdv ct oc:Value}{an od:Option Addr}
  {osl:Array (Option Value)} {N ps:List Str} {sp:Sp} (lk:K.lookup f=some ⟨oc,od,.func (XL name qual params body scope dV kV doc pm an cdv ct),osl⟩) (hcd:XF K cdv qual=true) (S:zau N ps scope)
  (len:∀vs H Q E,sp vs H Q E->vs.length=ps.length)
  (hbody:∀(A:Around) (outer:List Env) (s:Shared) (H:Hp) (vs:List V) (Q:VK) (E:XK),Room k (A.deeper (envOfC qual scope s.heap.objs.size f cdv))->sp vs H Q E->
   ∃t,PSs (cxOf CX P w K mg base N qual scope f cdv A outer s H E) body t/\t { nx:=λ_ H'=>Q .non H',rt:=Q } (start N vs) H) :
  FnOk P w K mg base CX (k+1) f (XL name qual params body scope dV kV doc pm an cdv ct) ps sp:=by
 refine⟨len,λA outer s H args us vs Q E hr e0 hb r hsp=>?_⟩;have hl:=len _ _ _ _ hsp;have KX:K.In s.heap:=e0.mod.kin.keeps λb o e=>(e0.bs b o e).1;have lim:s.heap.NoLimit:=e0.mod.nolimit.keeps λb o e=>(e0.bs b o e).1;have hkind:∀y∈ps.zip us,scope.names.lookup y.1=some .local\/(scope.names.lookup y.1=some .cell/\((cellsFrom (s.heap.objs.size+1) scope.names []).lookup y.1).isSome=true):=λ⟨n,v⟩ hy=>by
  rcases S.par n (List.of_mem_zip hy).1 with q | q
  ·exact .inl q
  ·exact .inr ⟨q,PySem.W.cellsFrom_some _ _ _ (.inl q)⟩
 refine codeAny_call_function hr.depth (KX _ _ lk) rfl S.co S.gen rfl (PySem.W.codeRec_of KX hcd) (hb _ _ _ _ ?_);refine wpAny_newFunctionEnv_cells S.kind hkind λenv he s1 x=>?_;subst he;refine⟨lim.keeps x.toInCall.keep,codeAny_func ?_⟩;obtain⟨t,ht,hq⟩:=hbody A outer s H vs Q E (hr.deeper _) hsp;have I:Inv (cxOf CX P w K mg base N qual scope f cdv A outer s H E) [] (start N vs) H s1:=zlz S hr.hd e0 hl r x;refine wpAny_mono (ht [] s1 (start N vs) H _ I hq) (λfl s' hs=>?_) λe s' hs=>hs;have fin:∀ {σ':St} {H':Hp} {v:V} {u:Value},Inv (cxOf CX P w K mg base N qual scope f cdv A outer s H E) [] σ' H' s'->RelV v u->Q v H'->CE outer P w H s Q u s':=
  λ{σ' H' v u} J rv q=>⟨v,H',J.os,J.bare,J.base,J.hok,rv,q⟩
 cases fl with
 | ret u=>
  obtain⟨v,σ',H',J,rv,q⟩:=hs;exact fin J rv q
 | next=>
  obtain⟨σ',H',J,q⟩:=hs;exact fin (v:=V.non) (u:=Value.none) J rfl q
 | brk=>
  obtain⟨_,_,_,q⟩:=hs;exact False.elim q
 | cont=>
  obtain⟨_,_,_,q⟩:=hs;exact False.elim q
section
variable {X:Cx}{x:Str}{p pos:Pos}{e:Expr}{es:List Expr}{t:TA}{id T:String}{r:List V->Hp->VK->Prop}
noncomputable def tCB (r:List V->Hp->VK->Prop)(t:TA):TE:=λσ H Q=>t σ H λvs H1=>r vs H1 Q
theorem znN (hc:zdo X (.builtin id) r)(hg:Gl X x)(hm:X.mg x=none)(hv:bootBuiltins x=some (.builtin id))(ha:PA X (e::es) t)(hn:autoParam (x≠"__name__") aU1) (hdb:autoParam ((x == ("__debug__" : Str))=false) aU1)
  (he:autoParam (starEach (e::es) X.env=(false,eval e X.env)::starEach es X.env) aU0) (hpl:autoParam ((backTo pos (starEach es X.env)).any (·.1)=false) aU0):PE X (.Call (.Name x p) (e::es) [] pos) (tCB r t):=by
 intro pins s σ H Q I h;refine wpAny_Call_Name_kw (zea I hg hm hv ?_ hn hdb);exact PyProof.Rows.callWith_builtin1 (thn (ha pos pins s σ H _ I h) λus s1 q42q=>by obtain⟨vs,H1,I1,r1,q1⟩:=q42q;exact hc pins s1 σ H1 vs us Q I1 r1 q1) he hpl
theorem zlA (hc:zdo X (.type T) r)(hg:Gl X x)(hm:X.mg x=none)(hv:bootBuiltins x=some (.type T))(ha:PA X (e::es) t)(hn:autoParam (x≠"__name__") aU1) (hdb:autoParam ((x == ("__debug__" : Str))=false) aU1)
  (he:autoParam (starEach (e::es) X.env=(false,eval e X.env)::starEach es X.env) aU0) (hpl:autoParam ((backTo pos (starEach es X.env)).any (·.1)=false) aU0):PE X (.Call (.Name x p) (e::es) [] pos) (tCB r t):=by
 intro pins s σ H Q I h;refine wpAny_Call_Name_kw (zea I hg hm hv ?_ hn hdb);exact PyProof.Rows.callWith_type1 (thn (ha pos pins s σ H _ I h) λus s1 q43q=>by obtain⟨vs,H1,I1,r1,q1⟩:=q43q;exact hc pins s1 σ H1 vs us Q I1 r1 q1) he hpl
end
end L2
namespace HT
open PySem PyProof.Rows
section
open PySem.SeqAt
open PySem.MeetsSeq PySem.MeetsSeq2 PySem.MeetsSeq3
end
section
variable {prog:Program}{w:World}{A:Around}{E:Value->Shared->Prop}{s:Shared}
noncomputable def sIx (n d:Nat):Option Int->Nat
 | none=>d
 | some v=>if v<0 then(v+(n:Int)).toNat else min v.toNat n
theorem zjq (n d:Nat):sIx n d none=d:=rfl
theorem zeS (n d k:Nat):sIx n d (some (k:Int))=min k n:=by
 show(if (k:Int)<0 then((k:Int)+(n:Int)).toNat else min (k:Int).toNat n)=min k n
 rw[if_neg (by lia),Int.toNat_natCast]
end
end HT
namespace L2
open PySem PySem.Spec PyProof.Rows
noncomputable abbrev TO:=St->Hp->(Option Int->Hp->Prop)->Prop
noncomputable def PO (X:Cx)(e:Option Expr)(t:TO):Prop:=
 ∀(pins:List (Addr×Obj)) (s:Shared) (σ:St) (H:Hp) (Q:Option Int->Hp->Prop),Inv X pins σ H s->t σ H Q->
  wpAny (model X.prog X.w) X.A (evalPart e X.env) (λu s'=>∃o H',Inv X pins σ H' s'/\IsPart u o/\Q o H') X.xe s
noncomputable def zpM:TO:=λ_ H Q=>Q none H
noncomputable def ztr (t:TE):TO:=λσ H Q=>t σ H λx H1=>∃i,x=.int i/\Q (some i) H1
theorem intsAre_of {ns:List Int}:∀ {us:List Value},Vals (ns.map V.int) us->IntsAre us ns:=by
 induction ns with
 | nil=>intro us r;rw[YL]at r;cases r;exact .nil
 | cons n ns ih=>
  intro us r;rw[Xp]at r;cases r with
  | cons r1 r2=>
   obtain⟨t,e⟩:=r1;subst e;exact .cons n t (ih r2)
section
variable {X:Cx}{e:Expr}{te:TE}{lo hi:Option Expr}{tl th:TO}{pos p2:Pos}
theorem zpN:PO X none zpM:=by
 intro pins s σ H Q I h;rw[evalPart_none];exact wpAny_pure ⟨none,H,I,.none,h⟩
theorem zpO (h:PE X e te):PO X (some e) (ztr te):=by
 intro pins s σ H Q I hw;rw[evalPart_some];refine thn (h pins s σ H _ I hw) λu s1 q44q=>?_;obtain⟨x,H1,I1,r1,q1⟩:=q44q;obtain⟨i,rfl,q⟩:=q1;obtain⟨t,rfl⟩:=r1;exact⟨some i,H1,I1,.int i t,q⟩
noncomputable def SlR (X:Cx)(r:V->Option Int->Option Int->Hp->VK->Prop):Prop:=
 ∀(pins:List (Addr×Obj)) (s:Shared) (σ:St) (H:Hp) (x:V) (v vl vu:Value) (lo hi:Option Int) (sl:Addr) (Q:VK),Inv X pins σ H s->RelV x v->s.heap.IsSliceOf sl vl vu .none->IsPart vl lo->IsPart vu hi->r x lo hi H Q->
  ∃T id,typeLookup (.type T) "__getitem__" = pure (some (.builtin id))/\s.TypeIs v T/\wpAny (model X.prog X.w) X.A (getItem v (.ref sl)) (EP X pins σ Q) X.xe s
noncomputable def tSl (r:V->Option Int->Option Int->Hp->VK->Prop)(te:TE)(tl th:TO):TE:=λσ H Q=>te σ H λx H1=>tl σ H1 λl H2=>th σ H2 λu H3=>r x l u H3 Q
theorem zjr {r:V->Option Int->Option Int->Hp->VK->Prop}(hr:SlR X r)(he:PE X e te)(hl:PO X lo tl)(hu:PO X hi th):PE X (.Subscript e (.Slice lo hi none p2) pos) (tSl r te tl th):=by
 intro pins s σ H Q I h;refine Subscript_ (thn (he pins s σ H _ I h) λv s1 q45q=>?_);obtain⟨x,H1,I1,r1,q1⟩:=q45q;refine wpAny_Slice (thn (hl pins s1 σ H1 _ I1 q1) λvl s2 ⟨l,H2,I2,pl,q2⟩=>thn (hu pins s2 σ H2 _ I2 q2) λvu s3 q47q=>?_);obtain⟨u,H3,I3,pu,q3⟩:=q47q;rw[evalPart_none];refine wpAny_pure ?_;have I4:Inv X pins σ H3 { s3 with heap:=s3.heap.push { cls:=.type "slice",data:=.fields #[vl,vu,.none] } }:=I3.kept (t':=s3.toks) λb ob q=>Xe _ q;obtain⟨T,id,hT,ht,hg⟩:=hr pins { s3 with heap:=s3.heap.push { cls:=.type "slice",data:=.fields #[vl,vu,.none] } } σ H3 x v vl vu l u s3.heap.objs.size Q I4 r1 (Heap.IsSliceOf.new ..) pl pu q3;show wpAny (model X.prog X.w) X.A (subscriptTail e (.Slice lo hi none p2) v (.ref s3.heap.objs.size)) (EP X pins σ Q) X.xe { s3 with heap:=s3.heap.push { cls:=.type "slice",data:=.fields #[vl,vu,.none] } };exact tail_any (ops:=[.ref s3.heap.objs.size,v]) ht hT hg (by with_unfolding_all rfl)
noncomputable def cutV (xs:List V)(lo hi:Option Int):List V:=(xs.drop (HT.sIx xs.length 0 lo)).take (HT.sIx xs.length xs.length hi-HT.sIx xs.length 0 lo)
theorem ziM (xs:List V)(lo hi:Option Int):(cutV xs lo hi).length<=xs.length:=by
 unfold cutV;rw[Ya,List.length_drop];lia
end
noncomputable def ixN (n:Nat)(i:Int):Option Nat:=if 0<=i then(if i<n then some i.toNat else none) else if -(n:Int)<=i then some (i+n).toNat else none
noncomputable def atI {α:Type}(xs:List α)(i:Int):Option α:=(ixN xs.length i).bind λj=>xs[j]?
theorem zlB {n:Nat}{i:Int}{j:Nat}(h:ixN n i=some j):seqIndex? i n=some j/\j<n/\-(n:Int)<=i/\i<n:=by
 unfold ixN at h;by_cases h0:0<=i
 ·rw[if_pos h0]at h;by_cases h1:i<n
  ·rw[if_pos h1]at h;have e:i.toNat=j:=Option.some.inj h;exact⟨by rw[seqIndex_of h0 h1,e],by lia,by lia,h1⟩
  ·rw[if_neg h1]at h;cases h
 ·rw[if_neg h0]at h;by_cases h1:-(n:Int)<=i
  ·rw[if_pos h1]at h;have e:(i+n).toNat=j:=Option.some.inj h;exact⟨by rw[seqIndex_neg (by lia) h1,e],by lia,h1,by lia⟩
  ·rw[if_neg h1]at h;cases h
theorem zfJ {α:Type}{xs:List α}{i:Int}{v:α}(h:atI xs i=some v):∃j,seqIndex? i xs.length=some j/\xs[j]? = some v/\j<xs.length/\-(xs.length:Int)<=i/\i<xs.length:=by
 unfold atI at h;cases e:ixN xs.length i with
 | none=>rw[e]at h;cases h
 | some j=>
  rw[e]at h;obtain⟨h1,h2,h3,h4⟩:=zlB e;exact⟨j,h1,h,h2,h3,h4⟩
theorem zbw {α:Type}{xs:List α}{j:Nat}{v:α}(h:xs[j]? = some v):atI xs (j:Int)=some v:=by
 have hj:j<xs.length:=(Xc.mp h).1;have e:ixN xs.length (j:Int)=some j:=by
  unfold ixN;rw[if_pos (by lia),if_pos (by lia)];simp
 unfold atI;rw[e];exact h
theorem znO {α:Type}(xs:List α)(v:α):atI (xs++[v]) (-1)=some v:=by
 have hl:(xs++[v]).length=xs.length+1:=by simp
 have e:ixN (xs++[v]).length (-1)=some xs.length:=by
  unfold ixN;rw[hl,if_neg (by decide),if_pos (by lia)]
  congr 1
  lia
 unfold atI;rw[e];show(xs++[v])[xs.length]? = some v;simp
noncomputable def ziN (b:Expr):Prop:=∀o i,subscripted b false o i=operate [o,i] (getItem o i)
noncomputable def IxR (X:Cx)(r:R2):Prop:=
 ∀(value slice:Expr) (pins:List (Addr×Obj)) (s:Shared) (σ:St) (H:Hp) (x y:V) (v u:Value) (Q:VK),Inv X pins σ H s->RelV x v->RelV y u->r x y H Q->
  subscripted slice false v u=operate [v,u] (getItem v u)->wpAny (model X.prog X.w) X.A (subscriptTail value slice v u) (EP X pins σ Q) X.xe s
noncomputable def MtR (X:Cx)(id:String)(r:V->List V->Hp->VK->Prop):Prop:=
 ∀(pins:List (Addr×Obj)) (s:Shared) (σ:St) (H:Hp) (x:V) (xs:List V) (v:Value) (us:List Value) (Q:VK),Inv X pins σ H s->RelV x v->Vals xs us->r x xs H Q->
  wpAny (model X.prog X.w) X.A (call (.builtin id) (v::us)) (EP X pins σ Q) X.xe s
section
variable {X:Cx}{a b:Expr}{ta tb:TE}{pos:Pos}
theorem IxR.or {r r':R2}(h:IxR X r)(h':IxR X r'):IxR X (λx y H Q=>r x y H Q\/r' x y H Q):=by
 intro value slice pins s σ H x y v u Q I rx ry q hs;rcases q with q | q
 ·exact h value slice pins s σ H x y v u Q I rx ry q hs
 ·exact h' value slice pins s σ H x y v u Q I rx ry q hs
theorem zts {r:R2}(hr:IxR X r)(ha:PE X a ta)(hb:PE X b tb)(hs:ziN b):PE X (.Subscript a b pos) (tOp r ta tb):=by
 intro pins s σ H Q I h;exact Subscript_ (binT ha hb I h λv u s2 x y H2 I2 rx ry q=>hr a b pins s2 σ H2 x y v u Q I2 rx ry q (hs _ _))
noncomputable def rIxL (K:Xa):R2:=λx y H Q=>∃p xs i v,x=.ref p/\y=.int i/\SqL K H p xs/\atI xs i=some v/\Q v H
noncomputable def rIxT (K:Xa):R2:=λx y H Q=>∃p xs i v,x=.ref p/\y=.int i/\SqT K H p xs/\atI xs i=some v/\Q v H
noncomputable def rIxS:R2:=λx y H Q=>∃z i c,x=.str z/\y=.int i/\z.length<=sizeLine/\atI z.cps.toList i=some c/\Q (.str ⟨#[c]⟩) H
theorem zpP:IxR X (rIxL X.K):=by
 intro value slice pins s σ H x y v u Q I rx ry h hs;obtain⟨p,xs,i,z,rfl,rfl,hq,he,q⟩:=h;cases rx;obtain⟨t,rfl⟩:=ry;obtain⟨its,r,pl,hz⟩:=I.list hq;obtain⟨j,h1,h2,h3,h4,h5⟩:=zfJ he;obtain⟨w,ew,rw'⟩:=r.get h2;have hl:=r.length;have hn:=zgq;have fin:EP X pins σ Q w s:=⟨z,H,I,rw',q⟩;by_cases h0:0<=i
 ·have hj:i.toNat=j:=by
   rw[seqIndex_of h0 h5]at h1;exact Option.some.inj h1
  exact item_listR pl.isList h0 (by lia) (by rw[hj];simpa using ew) fin hs
 ·have hj:(i+(its.toArray.size:Int)).toNat=j:=by
   rw[seqIndex_neg (by lia) h4]at h1;rw[Xm,<- hl];exact Option.some.inj h1
  exact subscriptTail_builtinR (x:=w) pl.isList.typeIs slot_list_getitem.lookup
   (wpAny_getItem_list_neg (Q:=λr s'=>r=w/\EP X pins σ Q r s') pl.isList (by lia) (by rw[Xm]<;>lia) (by lia) (by rw[hj];simpa using ew) ⟨rfl,fin⟩) hs
theorem zrK:IxR X (rIxT X.K):=by
 intro value slice pins s σ H x y v u Q I rx ry h hs;obtain⟨p,xs,i,z,rfl,rfl,hq,he,q⟩:=h;cases rx;obtain⟨t,rfl⟩:=ry;obtain⟨its,r,pl,hz⟩:=I.tuple hq;obtain⟨j,h1,h2,h3,h4,h5⟩:=zfJ he;obtain⟨w,ew,rw'⟩:=r.get h2;have hl:=r.length;have hn:=zgq;have fin:EP X pins σ Q w s:=⟨z,H,I,rw',q⟩;exact subscriptTail_builtinR (x:=w) pl.typeIs slot_tuple_getitem.lookup
  (getItem_tuple (j:=j) (Q:=λr s'=>r=w/\EP X pins σ Q r s') pl (by lia) (by lia) (by rw[Xm,<- hl];exact h1) (by simpa using ew) ⟨rfl,fin⟩) hs
theorem zrL:IxR X rIxS:=by
 intro value slice pins s σ H x y v u Q I rx ry h hs;obtain⟨z,i,c,rfl,rfl,hz,he,q⟩:=h;obtain⟨t,rfl⟩:=rx;obtain⟨t',rfl⟩:=ry;obtain⟨j,h1,h2,h3,h4,h5⟩:=zfJ he;have hl:z.cps.toList.length=z.length:=by simp[Str.length]
 rw[hl]at h1 h4 h5;have hn:=zgq;exact tail_any (typeIs_str s z t) slot_str_getitem.lookup (getItem_str (c:=c) (by
  have e1:decide (i < -(2 ^ 63:Int))=false:=decide_eq_false (by lia);have e2:decide (i>=2 ^ 63)=false:=decide_eq_false (by lia);rw[e1,e2,Bool.or_false]) (by rw[h1];simpa using h2) ⟨.str ⟨#[c]⟩,H,I.tok _,⟨_,rfl⟩,q⟩) hs
noncomputable def rIx (K:Xa):R2:=λx y H Q=>rIxL K x y H Q\/rIxT K x y H Q\/rIxS x y H Q
theorem zrM:IxR X (rIx X.K):=zpP.or (zrK.or zrL)
theorem zkJ (its:List Value)(n j:Nat)(u:Value):Obj.mapSeq (·.setIfInBounds j u) { cls:=.type "list",data:=.seq its.toArray n }={ cls:=.type "list",data:=.seq (its.set j u).toArray n }:=by
 simp[Obj.mapSeq]
theorem Inv.lst {pins:List (Addr×Obj)}{σ:St}{H:Hp}{s:Shared}{p:Addr}{xs:List V}(I:Inv X pins σ H s)(h:H p=some (.lst xs)) :
  ∃(its:List Value) (n:Nat),Vals xs its/\s.heap.get? p=some { cls:=.type "list",data:=.seq its.toArray n }/\xs.length<=sizeLine:=by
 obtain⟨z,its,n,r,e⟩:=I.hok p _ h;exact⟨its,n,r,e,z⟩
theorem Inv.zrN {pins:List (Addr×Obj)}{σ:St}{H:Hp}{s:Shared}{p:Addr}{xs ys:List V}{its its':List Value}{n n':Nat}{f:Obj->Obj}(I:Inv X pins σ H s)(h:H p=some (.lst xs))
  (ho:s.heap.get? p=some { cls:=.type "list",data:=.seq its.toArray n }) (hf:f { cls:=.type "list",data:=.seq its.toArray n }={ cls:=.type "list",data:=.seq its'.toArray n' }) (r:Vals ys its') (hz:ys.length<=sizeLine) (t:Nat) :
  Inv X pins σ (upd H p (.lst ys)) { s with heap:=s.heap.update p f,toks:=t }:=by
 have e:(s.heap.update p f).get? p=some { cls:=.type "list",data:=.seq its'.toArray n' }:=by
  rw[Heap.get?_update_self f ho (by rw[hf]<;>rfl),hf]
 refine I.write (x:=p) (e:=p) (by rw[h];trivial) (.inl rfl) (λb u hb q=>(Heap.get?_update_other _ _ (Ne.symm hb)).trans q) ⟨_,e⟩ ?_;exact⟨hz,its',n',r,e⟩
noncomputable def ztt:V->V->V->Hp->(Hp->Prop)->Prop:=λo i v H Q=>∃p xs k j,o=.ref p/\i=.int k/\H p=some (.lst xs)/\ixN xs.length k=some j/\Q (upd H p (.lst (xs.set j v)))
theorem set_list:PSet X ztt:=by
 intro pins s σ H o i v ov iv u Q I ro ri rv h;obtain⟨p,xs,k,j,rfl,rfl,hp,hj,q⟩:=h;cases ro;obtain⟨t,rfl⟩:=ri;obtain⟨its,n,r,ho,hz⟩:=I.lst hp;obtain⟨h1,h2,h3,h4⟩:=zlB hj;have hl:=r.length;have hn:=zgq;have I':Inv X pins σ (upd H p (.lst (xs.set j v))) { s with heap:=s.heap.update p (Obj.mapSeq (·.setIfInBounds j u)) }:=
  I.zrN hp ho (zkJ its n j u) (r.set rv j) (by rw[Yb];exact hz) s.toks
 by_cases h0:0<=k
 ·have hk:k.toNat=j:=by
   rw[seqIndex_of h0 h4]at h1;exact Option.some.inj h1
  exact PySem.W.ki_setAt ho h0 (by lia) (by rw[Xm,<- hl];exact h4) (by rw[hk];exact⟨_,I',q⟩)
 ·have hk:(k+(its.toArray.size:Int)).toNat=j:=by
   rw[seqIndex_neg (by lia) h3]at h1;rw[Xm,<- hl];exact Option.some.inj h1
  exact PySem.W.ki_setBack ho (by lia) (by rw[Xm,<- hl];exact h3) (by lia) (by rw[hk];exact⟨_,I',q⟩)
theorem zhD (lo hi:Option Int)(n:Nat):(sliceBounds lo hi none n).1=((HT.sIx n 0 lo:Nat):Int)/\(sliceBounds lo hi none n).2.1=((HT.sIx n n hi:Nat):Int)/\(sliceBounds lo hi none n).2.2=1:=by
 refine⟨?_,?_,rfl⟩
 ·cases lo with
  | none=>simp[sliceBounds,HT.sIx]
  | some i=>
   simp only[sliceBounds,HT.sIx,Option.getD_none,show(1:Int) > 0 by decide,if_true];by_cases h:i<0
   ·simp only[h,if_true]<;>lia
   ·simp only[h,if_false]<;>lia
 ·cases hi with
  | none=>simp[sliceBounds,HT.sIx]
  | some i=>
   simp only[sliceBounds,HT.sIx,Option.getD_none,show(1:Int) > 0 by decide,if_true];by_cases h:i<0
   ·simp only[h,if_true]<;>lia
   ·simp only[h,if_false]<;>lia
theorem zgM (its:List Value)(lo hi:Option Int):slicePick its.toArray lo hi none=((its.drop (HT.sIx its.length 0 lo)).take (HT.sIx its.length its.length hi-HT.sIx its.length 0 lo)).toArray:=by
 obtain⟨h1,h2,h3⟩:=zhD lo hi its.toArray.size;unfold slicePick;rw[h1,h2,h3];simp only[sliceRange_one,pick_run,Xm]<;>rfl
noncomputable def rSlL (K:Xa):V->Option Int->Option Int->Hp->VK->Prop:=λx lo hi H Q=>∃a xs,x=.ref a/\SqL K H a xs/\∀p,H p=none->Q (.ref p) (upd H p (.lst (cutV xs lo hi)))
theorem zpQ:SlR X (rSlL X.K):=by
 intro pins s σ H x v vl vu lo hi sl Q I rx hs pl pu h;obtain⟨a,xs,rfl,hx,q⟩:=h;cases rx;obtain⟨its,r,ht,hz⟩:=I.list hx;have hlen:=r.length;refine⟨"list",_,slot_list_getitem.lookup,ht.isList.typeIs,?_⟩;refine wpAny_getItem_list_slice ht.isList hs pl pu .none (by simp) ?_ (by rw[Xm]<;>lia);rw[zgM,<- hlen];refine⟨.ref s.heap.objs.size,_,I.laid (t':=s.toks) (o:=.lst (cutV xs lo hi)) (λb ob q=>Xe _ q) (Xi _) ?_,rfl,q _ (I.hok.fresh (Xi _))⟩;exact⟨XB (ziM xs lo hi) hz,_,0,(r.drop (HT.sIx xs.length 0 lo)).take (HT.sIx xs.length xs.length hi-HT.sIx xs.length 0 lo),XC _ rfl⟩
noncomputable def zer:V->Bool
 | .non=>true
 | .bl _=>true
 | .int _=>true
 | .str _=>true
 | _=>false
noncomputable def eqV:V->V->Bool
 | .non,.non=>true
 | .bl a,.bl b=>a == b
 | .bl a,.int b=>(if a then 1 else 0) == b
 | .int a,.bl b=>a == (if b then 1 else 0)
 | .int a,.int b=>a == b
 | .str a,.str b=>a == b
 | _,_=>false
theorem zrO {A:Around}{s:Shared}{y x:V}{u v:Value}(ry:RelV y u)(rx:RelV x v)(fy:zer y=true)(fx:zer x=true):SeqAt.EqAt A s u v (eqV y x):=by
 cases y with
 | non=>
  cases ry;cases x with
  | non=>cases rx;exact SeqAt.EqAt.same _
  | bl b=>cases rx;exact SeqAt.EqAt.none_bool b
  | int b=>obtain⟨t,rfl⟩:=rx;exact SeqAt.EqAt.none_int b t
  | str b=>obtain⟨t,rfl⟩:=rx;exact SeqAt.EqAt.none_str b t
  | _=>exact absurd (show false=true from fx) Xs
 | bl a=>
  cases ry;cases x with
  | non=>cases rx;exact SeqAt.EqAt.bool_none a
  | bl b=>cases rx;exact SeqAt.EqAt.bool_bool a b
  | int b=>obtain⟨t,rfl⟩:=rx;exact SeqAt.EqAt.bool_int a b t
  | str b=>obtain⟨t,rfl⟩:=rx;exact SeqAt.EqAt.bool_str a b t
  | _=>exact absurd (show false=true from fx) Xs
 | int a=>
  obtain⟨t',rfl⟩:=ry;cases x with
  | non=>cases rx;exact SeqAt.EqAt.int_none a t'
  | bl b=>cases rx;exact SeqAt.EqAt.int_bool a t' b
  | int b=>obtain⟨t,rfl⟩:=rx;exact SeqAt.EqAt.int_int a t' b t
  | str b=>obtain⟨t,rfl⟩:=rx;exact SeqAt.EqAt.int_str a t' b t
  | _=>exact absurd (show false=true from fx) Xs
 | str a=>
  obtain⟨t',rfl⟩:=ry;cases x with
  | non=>cases rx;exact SeqAt.EqAt.str_none a t'
  | bl b=>cases rx;exact SeqAt.EqAt.str_bool a t' b
  | int b=>obtain⟨t,rfl⟩:=rx;exact SeqAt.EqAt.str_int a t' b t
  | str b=>obtain⟨t,rfl⟩:=rx;exact SeqAt.EqAt.str_str a t' b t
  | _=>exact absurd (show false=true from fx) Xs
 | _=>exact absurd (show false=true from fy) Xs
noncomputable def eqU (x:V)(u:Value):Bool:=match u with
 | .none=>eqV .non x
 | .bool b=>eqV (.bl b) x
 | .int i _=>eqV (.int i) x
 | .str z _=>eqV (.str z) x
 | _=>false
theorem zpe {x y:V}{u:Value}(r:RelV y u)(f:zer y=true):eqU x u=eqV y x:=by
 cases y with
 | non=>cases r;rfl
 | bl b=>cases r;rfl
 | int i=>obtain⟨t,rfl⟩:=r;rfl
 | str z=>obtain⟨t,rfl⟩:=r;rfl
 | _=>exact absurd (show false=true from f) Xs
theorem zgN {A:Around}{s:Shared}{x:V}{v:Value}(rx:RelV x v)(fx:zer x=true):∀ {xs:List V}{us:List Value},Vals xs us->xs.all zer=true->∀u∈us,SeqAt.EqAt A s u v (eqU x u)
 | _,_,.nil,_=>λu hu=>by cases hu
 | y::xs,u::us,.cons r t,f=>λu' hu=>by
  rw[List.all_cons,Bool.and_eq_true]at f;rcases Xu.mp hu with rfl | hu
  ·rw[zpe r f.1];exact zrO r rx f.1 fx
  ·exact zgN rx fx t f.2 u' hu
theorem zhE:zdo X (.type "list") (λxs H Q=>∃p ys,xs=[.ref p]/\(SqL X.K H p ys\/SqT X.K H p ys)/\∀l,H l=none->Q (.ref l) (upd H l (.lst ys))):=by
 intro pins s σ H xs us Q I r h;obtain⟨p,ys,rfl,hq,q⟩:=h;obtain⟨u,rfl,rx⟩:=vals1 r;cases rx;have fin:∀(its:List Value),Vals ys its->ys.length<=sizeLine->∀(h':Heap) (c':Nat),(∀b o',s.heap.get? b=some o'->h'.get? b=some o')->
   h'.get? s.heap.objs.size=some { cls:=.type "list",dict:=none,data:=.seq its.toArray c',slots:=#[] }->EP X pins σ Q (.ref s.heap.objs.size) { s with heap:=h' }:=λits r' hz h' c' kp e=>
  ⟨.ref s.heap.objs.size,_,I.laid (t':=s.toks) kp (Xi _) (show zcp X.prog X.w _ h' _ (.lst ys) from⟨hz,its,c',r',e⟩),rfl,q _ (I.hok.fresh (Xi _))⟩
 rcases hq with hq | hq
 ·obtain⟨its,r',pl,hz⟩:=I.list hq;have hlen:=r'.length;obtain⟨o,ho,hc,n,hd⟩:=pl.isList;exact call_list_seq p (.inl rfl) ho hc hd (λh' c' kp e=>fin its r' hz h' c' kp e) (by simp only[Xm]<;>lia)
 ·obtain⟨its,r',pl,hz⟩:=I.tuple hq;have hlen:=r'.length;obtain⟨o,ho,hc,n,hd⟩:=pl;exact call_list_seq p (.inr rfl) ho hc hd (λh' c' kp e=>fin its r' hz h' c' kp e) (by simp only[Xm]<;>lia)
theorem zgO:zdo X (.type "tuple") (λxs H Q=>∃p ys,xs=[.ref p]/\((SqL X.K H p ys/\∀l,H l=none->Q (.ref l) (upd H l (.tup ys)))\/(SqT X.K H p ys/\Q (.ref p) H))):=by
 intro pins s σ H xs us Q I r h;obtain⟨p,ys,rfl,h⟩:=h;obtain⟨u,rfl,rx⟩:=vals1 r;cases rx;rcases h with ⟨hq,q⟩ | ⟨hq,q⟩
 ·obtain⟨its,r',pl,hz⟩:=I.list hq;have hlen:=r'.length;refine call_tuple_list pl.isList (λh' kp=>?_) (by simp only[Xm]<;>lia);have I1:Inv X pins σ H { s with heap:=h' }:=I.kept (t':=s.toks) kp;have I2:Inv X pins σ (upd H h'.objs.size (.tup ys)) { s with heap:=h'.push { cls:=.type "tuple",data:=.seq its.toArray } }:=
   I1.laid (t':=s.toks) (λb o e=>Xe _ e) (Xi _) (show zcp X.prog X.w _ _ _ (.tup ys) from⟨hz,its,r',zdd.new _ _⟩)
  exact⟨.ref h'.objs.size,_,I2,rfl,q _ (I1.hok.fresh (Xi _))⟩
 ·obtain⟨its,r',pl,hz⟩:=I.tuple hq;exact call_tuple_same pl ⟨.ref p,H,I,rfl,q⟩
noncomputable def tyV (K:Xa)(T:String)(x:V)(H:Hp):Prop:=match x with
 | .str _=>T = "str"
 | .int _=>T = "int"
 | .ref p=>(T = "list"/\∃xs,SqL K H p xs)\/(T = "tuple"/\∃o,K.lookup p=some o/\o.cls=.type "tuple"/\o.dict=none)\/
   (T = "dict"/\((∃kvs,H p=some (.dK kvs))\/∃kvs,H p=some (.dT kvs)))\/(T = "set"/\∃S n,H p=some (.set S n))
 | _=>False
theorem zpf {pins:List (Addr×Obj)}{σ:St}{H:Hp}{s:Shared}{T:String}{x:V}{v:Value}(I:Inv X pins σ H s)(r:RelV x v)(ty:tyV X.K T x H) :
  s.TypeIs v T/\∀a,v=.ref a->∃ob,s.heap.get? a=some ob/\ob.dict=none:=by
 cases x with
 | str z=>
  obtain⟨t,rfl⟩:=r;cases (show T = "str" from ty);exact⟨typeIs_str s z t,λ_ e=>nomatch e⟩
 | int i=>
  obtain⟨t,rfl⟩:=r;cases (show T = "int" from ty);exact⟨typeIs_int s i t,λ_ e=>nomatch e⟩
 | ref p=>
  cases r;rcases ty with ⟨rfl,xs,hq⟩ | ⟨rfl,o,hk,hc,hd⟩ | ⟨rfl,hk⟩ | ⟨rfl,S,n,hk⟩
  ·obtain⟨its,_,pl,_⟩:=I.list hq;refine⟨pl.isList.typeIs,λa e=>?_⟩;cases e;obtain⟨o,n,e,c,hd,_⟩:=pl;exact⟨o,e,hd⟩
  ·refine⟨⟨o,I.kIn p o hk,hc⟩,λa e=>?_⟩;cases e;exact⟨o,I.kIn _ o hk,hd⟩
  ·have z:∃o,s.heap.get? p=some o/\o.ExactDict:=by
    rcases hk with ⟨kvs,hk⟩ | ⟨kvs,hk⟩
    ·obtain⟨_,_,_,_,o,_,_,e,ex,_⟩:=I.hok p _ hk;exact⟨o,e,ex⟩
    ·obtain⟨_,_,_,_,o,_,_,e,ex,_⟩:=I.hok p _ hk;exact⟨o,e,ex⟩
   obtain⟨o,e,ex⟩:=z;refine⟨⟨o,e,ex.1⟩,λa e2=>?_⟩;cases e2;exact⟨o,e,ex.2.1⟩
  ·obtain⟨o,_,_,_,e,ex,_⟩:=I.hok p _ hk;refine⟨⟨o,e,ex.1⟩,λa e2=>?_⟩;cases e2;exact⟨o,e,ex.2.1⟩
 | _=>exact False.elim ty
noncomputable def tBM0 (K:Xa)(T:String)(r:V->List V->Hp->VK->Prop)(to:TE):TE:=λσ H Q=>to σ H λx H1=>tyV K T x H1/\r x [] H1 Q
noncomputable def tBM (K:Xa)(T:String)(r:V->List V->Hp->VK->Prop)(to:TE)(t:TA):TE:=λσ H Q=>to σ H λx H1=>tyV K T x H1/\t σ H1 λxs H2=>r x xs H2 Q
variable {o e:Expr}{es:List Expr}{to:TE}{t:TA}{name:Str}{apos cpos:Pos}{T id:String}{r:V->List V->Hp->VK->Prop}
theorem zrP (pa:PlainAttrs T)(slot:Slot T name id)(hty:typeOf (.builtin id)=pure (.type "method_descriptor")) (hm:MtR X id r) (ho:PE X o to)
  (hbase:autoParam (attributeBase o name X.env (eval o X.env)=eval o X.env) aU0) (hline:autoParam ((apos.endLine == cpos.line)=true) aU0):PE X (.Call (.Attribute o name apos) [] [] cpos) (tBM0 X.K T r to):=by
 intro pins s σ H Q I h;refine wpAny_Call_method0_late hbase hline (thn (ho pins s σ H _ I h) λv s1 q48q=>?_);obtain⟨x,H1,I1,r1,ty,q1⟩:=q48q;obtain⟨h1,h2⟩:=zpf I1 r1 ty;exact⟨T,id,pa,slot,hty,h1,h2,Calls.callWith_builtin rfl (PySem.evalArgs_none (hm pins s1 σ H1 x [] v [] Q I1 r1 .nil q1))⟩
theorem zpR (pa:PlainAttrs T)(slot:Slot T name id)(hty:typeOf (.builtin id)=pure (.type "method_descriptor")) (hm:MtR X id r) (ho:PE X o to) (ha:PA X (e::es) t)
  (hbase:autoParam (attributeBase o name X.env (eval o X.env)=eval o X.env) aU0)
  (hfew:autoParam (((backTo cpos (starEach (e::es) X.env)).all (λx=>!x.1)&&(backToKw cpos (keywordEach [] X.env)).all (λx=>x.1.isSome)
   && decide ((e::es).length+([]:List Keyword).length+(if ([]:List Keyword).isEmpty then 0 else 1)<30))=true) aU0)
  (hline:autoParam ((apos.endLine == cpos.line)=true) aU0) (hs:autoParam (starEach (e::es) X.env=(false,eval e X.env)::starEach es X.env) aU0) (hplain:autoParam ((backTo cpos (starEach es X.env)).any (·.1)=false) aU0) :
  PE X (.Call (.Attribute o name apos) (e::es) [] cpos) (tBM X.K T r to t):=by
 intro pins s σ H Q I h;refine wpAny_Call_method_late hbase hfew hline rfl (thn (ho pins s σ H _ I h) λv s1 q49q=>?_);obtain⟨x,H1,I1,r1,ty,q1⟩:=q49q;obtain⟨h1,h2⟩:=zpf I1 r1 ty;refine⟨T,id,pa,slot,hty,h1,h2,?_⟩;have hA:=ha cpos pins s1 σ H1 _ I1 q1;rw[hs]at hA ⊢;refine Calls.callWith_builtin (by show(false||(backTo cpos (starEach es X.env)).any (·.1))=false;rw[hplain]<;>rfl) (Calls.evalArgs_plain ?_)
 exact thn hA λus s2 q50q=>by obtain⟨vs,H2,I2,r2,q2⟩:=q50q;exact hm pins s2 σ H2 x vs v us Q I2 r1 r2 q2
end
noncomputable def MtM (X:Cx)(id:String)(r:V->List V->Hp->VK->Prop):Prop:=
 ∀(pins:List (Addr×Obj)) (s:Shared) (σ:St) (H:Hp) (x:V) (xs:List V) (v:Value) (us:List Value) (Q:VK),Inv X pins σ H s->RelV x v->Vals xs us->r x xs H Q->
  wpAny (model X.prog X.w) X.A (call (.builtin id) (v::us)) (EP X pins σ Q) X.xe s
theorem Vals.one:∀ {x:V}{us:List Value},Vals [x] us->∃u,us=[u]/\RelV x u:=by
 intro x us h;cases h with
 | cons r t=>cases t;exact⟨_,rfl,r⟩
theorem Vals.zero:∀ {us:List Value},Vals [] us->us=[]
 | _,.nil=>rfl
theorem Vals.dropLast {xs:List V}{us:List Value}(h:Vals xs us):Vals xs.dropLast us.dropLast:=by
 induction h with
 | nil=>exact .nil
 | cons r t ih=>
  cases t with
  | nil=>exact .nil
  | cons q t'=>exact .cons r ih
theorem Vals.reverse {xs:List V}{us:List Value}(h:Vals xs us):Vals xs.reverse us.reverse:=by
 induction h with
 | nil=>exact .nil
 | cons r t ih=>rw[YE,YE];exact Vals.append ih (.cons r .nil)
theorem zkK {α:Type}(l:List α):l.eraseIdx (l.length-1)=l.dropLast:=by
 induction l with
 | nil=>rfl
 | cons a r ih=>
  cases r with
  | nil=>rfl
  | cons b r=>
   have e:(a::b::r).length-1=((b::r).length-1)+1:=by
    have h1:(a::b::r).length=r.length+2:=rfl;have h2:(b::r).length=r.length+1:=rfl;lia
   rw[e,List.eraseIdx_cons_succ,ih]
   all_goals rfl
section
variable {X:Cx}{pins:List (Addr×Obj)}{σ:St}{H:Hp}{s:Shared}{l b:Addr}{xs ys zs:List V}
theorem Inv.lset {its its':List Value}{n:Nat}{f:Array Value->Array Value}{t':Nat}(I:Inv X pins σ H s)(hH:H l=some (.lst xs))
  (e:s.heap.get? l=some { cls:=.type "list",data:=.seq its.toArray n }) (hf:f its.toArray=its'.toArray) (hv:Vals ys its') (hz:ys.length<=sizeLine) :
  Inv X pins σ (upd H l (.lst ys)) { s with heap:=s.heap.update l (Obj.mapSeq f),toks:=t' }:=by
 have q:=PySem.IsL.update e f;rw[hf]at q;refine I.write (x:=l) (e:=l) (by rw[hH];exact trivial) (.inl rfl) (λb' u hb hu=>(Heap.get?_update_other s.heap (Obj.mapSeq f) (Ne.symm hb)).trans hu) ⟨_,q⟩ ?_;exact⟨hz,its',_,hv,q⟩
theorem Inv.lnew {its:List Value}{t':Nat}(I:Inv X pins σ H s)(hv:Vals ys its)(hz:ys.length<=sizeLine) :
  Inv X pins σ (upd H s.heap.objs.size (.lst ys)) { s with heap:=s.heap.push { cls:=.type "list",data:=.seq its.toArray },toks:=t' }:=
 I.laid (λ_ _ q=>Xe _ q) (Xi _) ⟨hz,its,0,hv,XC _ rfl⟩
theorem Inv.fresh (I:Inv X pins σ H s):H s.heap.objs.size=none:=I.hok.fresh (Xi _)
theorem Inv.lstM (I:Inv X pins σ H s)(hH:H l=some (.lst xs)):xs.length<=sizeLine/\∃(its:List Value)(n:Nat),Vals xs its/\xs.length=its.length/\s.heap.get? l=some { cls:=.type "list",data:=.seq its.toArray n }:=by
 obtain⟨z,its,n,r,e⟩:=I.hok l _ hH;exact⟨z,its,n,r,r.length,e⟩
theorem znP {n:Nat}(h:n<=sizeLine):Builtin.List.listTooLong n=false:=by
 unfold Builtin.List.listTooLong;exact decide_eq_false (by lia)
end
section
variable {X:Cx}
noncomputable def zlC:V->List V->Hp->VK->Prop:=λx vs H Q=>∃l xs y,x=.ref l/\vs=[y]/\H l=some (.lst xs)/\xs.length<sizeLine/\Q .non (upd H l (.lst (xs++[y])))
theorem zfK:MtM X "list.append" zlC:=by
 intro pins s σ H x vs v us Q I rx rv h;obtain⟨l,xs,y,rfl,rfl,hH,hz,q⟩:=h;cases rx;obtain⟨u,rfl,ru⟩:=rv.one;obtain⟨z,its,n,r,hl,e⟩:=I.lstM hH;refine call_meets F.slot_list_append ⟨_,e,rfl⟩ F.entry_list_append (F.args_list_append_2 _ _) (PySem.list_append l its.toArray n u (by rw[Xm];lia)) ⟨e,?_⟩;refine⟨.non,_,I.lset (its':=its++[u]) hH e (by simp) (r.append (.cons ru .nil)) ?_,rfl,q⟩;rw[Xj,XV];lia
noncomputable def zpS:V->List V->Hp->VK->Prop:=λx vs H Q=>∃l b xs zs,x=.ref l/\vs=[.ref b]/\H l=some (.lst xs)/\H b=some (.lst zs)/\xs.length+zs.length<=sizeLine/\Q .non (upd H l (.lst (xs++zs)))
theorem zlD:MtM X "list.extend" zpS:=by
 intro pins s σ H x vs v us Q I rx rv h;obtain⟨l,b,xs,zs,rfl,rfl,hH,hB,hz,q⟩:=h;cases rx;obtain⟨u,rfl,ru⟩:=rv.one;cases ru;obtain⟨z,its,n,r,hl,e⟩:=I.lstM hH;obtain⟨z2,its2,n2,r2,hl2,e2⟩:=I.lstM hB;have hsz:its.toArray.size+its2.toArray.size<=sizeLine:=by rw[Xm,Xm];lia
 have hlong:¬ (!its.toArray.isEmpty&&Builtin.List.listTooLong (its.toArray.size+its2.toArray.size))=true:=by
  rw[znP hsz,Bool.and_false];exact Xs
 refine call_meets F.slot_list_extend ⟨_,e,rfl⟩ F.entry_list_extend (F.args_list_extend_2 _ _)
  (AutoSeq1.list_extend_list_list_0 l its.toArray n b its2.toArray n2 hlong (by rw[Xm];lia) (by lia)) ⟨e,e2,?_⟩
 refine⟨.non,_,I.lset (its':=its++its2) hH e (by simp) (r.append r2) ?_,rfl,q⟩;rw[Xj];lia
noncomputable def rPop:V->List V->Hp->VK->Prop:=λx vs H Q=>∃l xs y,x=.ref l/\vs=[]/\H l=some (.lst xs)/\xs[xs.length-1]? = some y/\Q y (upd H l (.lst xs.dropLast))
theorem zrQ:MtM X "list.pop" rPop:=by
 intro pins s σ H x vs v us Q I rx rv h;obtain⟨l,xs,y,rfl,rfl,hH,hy,q⟩:=h;cases rx;have hus:=rv.zero;subst hus;obtain⟨z,its,n,r,hl,e⟩:=I.lstM hH;obtain⟨u,hu,ru⟩:=r.get hy;have hy':its.toArray[its.toArray.size-1]? = some u:=by
  show its.toArray[its.length-1]? = some u;rw[<- YI,<- hl];exact hu
 refine call_meets F.slot_list_pop ⟨_,e,rfl⟩ F.entry_list_pop (F.args_list_pop_1 _) (MeetsSeq.list_pop_last l its.toArray n u hy' (by rw[Xm];lia)) ⟨e,?_⟩;refine⟨y,_,I.lset (its':=its.dropLast) hH e ?_ r.dropLast ?_,ru,q⟩
 ·show its.toArray.eraseIdxIfInBounds (its.toArray.size-1)=its.dropLast.toArray;rw[Xm,List.eraseIdxIfInBounds_toArray,zkK]
 ·rw[List.length_dropLast];lia
end
section
variable {κ:Type} [DecidableEq κ]
noncomputable def valV (kvs:List (κ×V))(k:κ):Option V:=(kvs.find? λkv=>decide (kv.1=k)).map (·.2)
noncomputable def putK (kvs:List (κ×V))(k:κ)(v:V):List (κ×V):=
 if (kvs.any λkv=>decide (kv.1=k))=true then kvs.map (λkv=>if kv.1=k then(kv.1,v) else kv) else kvs++[(k,v)]
theorem zgP {p:κ×V}{r:List (κ×V)}{k:κ}(e:p.1=k):valV (p::r) k=some p.2:=by simp[valV,Yg,e]
theorem zgQ {p:κ×V}{r:List (κ×V)}{k:κ}(e:¬ p.1=k):valV (p::r) k=valV r k:=by simp[valV,Yg,e]
theorem zjs (k:κ):∀kvs:List (κ×V),(kvs.any λkv=>decide (kv.1=k))=(valV kvs k).isSome
 | []=>rfl
 | p::r=>by
  rw[List.any_cons];by_cases e:p.1=k
  ·simp only[zgP e,decide_eq_true e,Bool.true_or,Option.isSome_some]
  ·rw[zgQ e,decide_eq_false e,Bool.false_or];exact zjs k r
theorem zef (kvs:List (κ×V))(k:κ)(v:V):(putK kvs k v).length<=kvs.length+1:=by
 unfold putK;split
 ·rw[Xb];lia
 ·rw[Xj,XG,List.length_nil];lia
theorem RelO.zfL {o:Option V}{u:Option Value}(r:RelO o u):o.isSome=u.isSome:=by
 cases o with
 | none=>cases u with
  | none=>rfl
  | some _=>exact(show False from r).elim
 | some _=>cases u with
  | none=>exact(show False from r).elim
  | some _=>rfl
theorem RelO.getD {o:Option V}{u:Option Value}{d:V}{d':Value}(r:RelO o u)(rd:RelV d d'):RelV (o.getD d) (u.getD d'):=by
 cases o with
 | none=>cases u with
  | none=>exact rd
  | some _=>exact(show False from r).elim
 | some _=>cases u with
  | none=>exact(show False from r).elim
  | some _=>exact r
theorem KV.val {kvs:List (κ×V)}{vs:List (κ×Value)}(r:KV kvs vs)(k:κ):RelO (valV kvs k) (valueAt vs k):=by
 unfold KV at r;induction r with
 | nil=>exact True.intro
 | @cons p q ps qs h t ih=>
  obtain⟨h1,h2⟩:=h;by_cases e:p.1=k
  ·have e':q.1=k:=h1.symm.trans e;have b:valueAt (q::qs) k=some q.2:=by simp[valueAt,Yg,e']
   rw[zgP e,b];exact h2
  ·have e':¬ q.1=k:=λz=>e (h1.trans z);have b:valueAt (q::qs) k=valueAt qs k:=by simp[valueAt,Yg,e']
   rw[zgQ e,b];exact ih
theorem KV.any {kvs:List (κ×V)}{vs:List (κ×Value)}(r:KV kvs vs)(k:κ):(kvs.any λkv=>decide (kv.1=k))=vs.any λkv=>decide (kv.1=k):=by
 unfold KV at r;induction r with
 | nil=>rfl
 | cons h t ih=>rw[List.any_cons,List.any_cons,ih,h.1]
theorem KV.repl {kvs:List (κ×V)}{vs:List (κ×Value)}(r:KV kvs vs)(k:κ){y:V}{u:Value}(ry:RelV y u) :
  KV (kvs.map λkv=>if kv.1=k then(kv.1,y) else kv) (vs.map λkv=>if kv.1=k then(kv.1,u) else kv):=by
 unfold KV at r ⊢;induction r with
 | nil=>exact .nil
 | @cons p q ps qs h t ih=>
  rw[Xp,Xp];refine .cons ?_ ih;obtain⟨h1,h2⟩:=h;by_cases e:p.1=k
  ·rw[if_pos e,if_pos (h1.symm.trans e)];exact⟨h1,ry⟩
  ·rw[if_neg e,if_neg (λz=>e (h1.trans z))];exact⟨h1,h2⟩
theorem KV.put {kvs:List (κ×V)}{vs:List (κ×Value)}(r:KV kvs vs)(k:κ){y:V}{u:Value}(ry:RelV y u):KV (putK kvs k y) (stored vs k u):=by
 unfold putK stored;rw[r.any k];by_cases e:(vs.any λkv=>decide (kv.1=k))=true
 ·rw[if_pos e,if_pos e];exact r.repl k ry
 ·rw[if_neg e,if_neg e];exact Paired.snoc r ⟨rfl,ry⟩
theorem KV.length {kvs:List (κ×V)}{vs:List (κ×Value)}(r:KV kvs vs):kvs.length=vs.length:=Paired.length r
end
theorem zlE {P:Program}{w:World}{k:Key}{u:Value}(r:RelV (kV k) u):(zaS P w).is k u=true:=by
 cases k with
 | inl i=>obtain⟨t,e⟩:=(show ∃t,u=Value.int i t from r);subst e;exact zfE P w i t
 | inr x=>obtain⟨t,e⟩:=(show ∃t,u=Value.str x t from r);subst e;exact zfF P w x t
theorem zhF {P:Program}{w:World}:∀ {ks:List Key}{us:List Value},Vals (ks.map kV) us->ItemsAre (zaS P w) ks us
 | [],_,r=>by rw[YL]at r;cases r;exact .nil
 | k::ks,_,r=>by
  rw[Xp]at r;cases r with
  | cons h t=>exact .cons (zlE h) (zhF t)
noncomputable abbrev KT (H:Hp):List (List Key×V)->List (List Key×Addr×Value)->Prop:=Paired λp q=>p.1=q.1/\H q.2.1=some (.tup (p.1.map kV))/\RelV p.2 q.2.2
theorem KT.val {H:Hp}{kvs:List (List Key×V)}{xs:List (List Key×Addr×Value)}(r:KT H kvs xs)(k:List Key):RelO (valV kvs k) ((atKey xs k).map (·.2)):=by
 induction r with
 | nil=>exact True.intro
 | @cons p q ps qs h t ih=>
  obtain⟨h1,_,h2⟩:=h;by_cases e:p.1=k
  ·have e':q.1=k:=h1.symm.trans e;have b:atKey (q::qs) k=some q.2:=by simp[atKey,Yg,e']
   rw[zgP e,b];exact h2
  ·have e':¬ q.1=k:=λz=>e (h1.trans z);have b:atKey (q::qs) k=atKey qs k:=by simp[atKey,Yg,e']
   rw[zgQ e,b];exact ih
theorem KT.repl {H:Hp}{kvs:List (List Key×V)}{xs:List (List Key×Addr×Value)}(r:KT H kvs xs)(k:List Key){y:V}{u:Value}(ry:RelV y u) :
  KT H (kvs.map λkv=>if kv.1=k then(kv.1,y) else kv) (xs.map (putAt k u)):=by
 induction r with
 | nil=>exact .nil
 | @cons p q ps qs h t ih=>
  rw[Xp,Xp];refine .cons ?_ ih;obtain⟨h1,h2,h3⟩:=h;unfold putAt;by_cases e:p.1=k
  ·rw[if_pos e,if_pos (h1.symm.trans e)];exact⟨h1,h2,ry⟩
  ·rw[if_neg e,if_neg (λz=>e (h1.trans z))];exact⟨h1,h2,h3⟩
theorem KT.put {H:Hp}{kvs:List (List Key×V)}{xs:List (List Key×Addr×Value)}(r:KT H kvs xs)(k:List Key){b:Addr}{y:V}{u:Value}(hb:H b=some (.tup (k.map kV)))(ry:RelV y u) :
  KT H (putK kvs k y) (storedH xs k b u):=by
 have e:(kvs.any λkv=>decide (kv.1=k))=(atKey xs k).isSome:=by
  rw[zjs,(r.val k).zfL,Option.isSome_map]
 unfold putK storedH;rw[e];by_cases q:(atKey xs k).isSome=true
 ·rw[if_pos q,if_pos q];exact r.repl k ry
 ·rw[if_neg q,if_neg q];exact Paired.snoc r ⟨rfl,hb,ry⟩
theorem KT.keeps {H H':Hp}{kvs:List (List Key×V)}{xs:List (List Key×Addr×Value)}(r:KT H kvs xs)(ht:∀b ys,H b=some (.tup ys)->H' b=some (.tup ys)):KT H' kvs xs:=
 Paired.mapP r λ_ _ z=>⟨z.1,ht _ _ z.2.1,z.2.2⟩
section
variable {P:Program}{w:World}{H:Hp}{h:Heap}{a:Addr}
theorem zrR {u:HO}(ok:HOk P w H h)(e:Rd H a u):zcp P w H h a u:=e.ok ok
theorem zgR {kvs:List (Key×V)}(ok:HOk P w H h)(e:Rd H a (.dK kvs)):kvs.length<=sizeLine/\(a == sysModules)=false/\∃vs,KV kvs vs/\h.DictOf (zaS P w) a vs:=
 show zcp P w H h a (.dK kvs) from zrR ok e
theorem ztu {kvs:List (Key×V)}(ok:HOk P w H h)(e:H a=some (.dK kvs)):kvs.length<=sizeLine/\(a == sysModules)=false/\∃vs,KV kvs vs/\h.DictOf (zaS P w) a vs:=zgR ok (.inl e)
theorem zgs {ks:List Key}(ok:HOk P w H h)(e:H a=some (.tup (ks.map kV))):(tupleKind (zaS P w)).is h ks a:=by
 obtain⟨_,its,r,o,h1,h2,⟨n,h3⟩,_⟩:=(show zcp P w H h a (.tup (ks.map kV)) from ok a _ e);exact⟨o,its.toArray,n,h1,h2,h3,by simpa using zhF r⟩
theorem ziO {kvs:List (List Key×V)}(ok:HOk P w H h)(e:Rd H a (.dT kvs)):kvs.length<=sizeLine/\(a == sysModules)=false/\
  ∃xs,KT H kvs xs/\h.DictOfH (tupleKind (zaS P w)) a xs:=by
 obtain⟨z,y,xs,r,o,es,ep,h1,h2,h3,h4,h5⟩:=(show zcp P w H h a (.dT kvs) from zrR ok e);refine⟨z,y,xs,r,o,es,ep,h1,h2,h3,h4,λx hx=>?_,h5⟩;have all:∀ {l:List (List Key×V)} {m:List (List Key×Addr×Value)},KT H l m->∀x∈m,(tupleKind (zaS P w)).is h x.1 x.2.1:=by
  intro l m q;induction q with
  | nil=>intro x hx;exact nomatch hx
  | @cons p q ps qs hq t ih=>
   intro x hx;rcases Xu.mp hx with e | hx
   ·subst e;exact zgs ok (by rw[<- hq.1];exact hq.2.1)
   ·exact ih x hx
 exact all r x hx
theorem zrS {kvs:List (List Key×V)}(ok:HOk P w H h)(e:H a=some (.dT kvs)):kvs.length<=sizeLine/\(a == sysModules)=false/\
  ∃xs,KT H kvs xs/\h.DictOfH (tupleKind (zaS P w)) a xs:=ziO ok (.inl e)
end
noncomputable def DGet (H:Hp)(a:Addr)(y:V)(r:Option V):Prop:=
 (∃kvs k,Rd H a (.dK kvs)/\y=kV k/\r=valV kvs k)\/∃kvs k b,Rd H a (.dT kvs)/\y=.ref b/\H b=some (.tup (k.map kV))/\r=valV kvs k
noncomputable def DPut (H:Hp)(a:Addr)(y v:V)(H':Hp):Prop:=
 (∃kvs k,H a=some (.dK kvs)/\y=kV k/\kvs.length<sizeLine/\H'=upd H a (.dK (putK kvs k v)))\/
 ∃kvs k b,H a=some (.dT kvs)/\y=.ref b/\H b=some (.tup (k.map kV))/\kvs.length<sizeLine/\H'=upd H a (.dT (putK kvs k v))
theorem DPut.k {H:Hp}{a:Addr}{kvs:List (Key×V)}{k:Key}{v:V}(e:H a=some (.dK kvs))(hl:kvs.length<sizeLine):DPut H a (kV k) v (upd H a (.dK (putK kvs k v))):=.inl ⟨kvs,k,e,rfl,hl,rfl⟩
section
variable {X:Cx}{pins:List (Addr×Obj)}{σ:St}{H:Hp}{s:Shared}{a:Addr}{y v:V}{u r:Value}{o:Option V}{A:Around}{E:Value->Shared->Prop}
theorem Inv.big (I:Inv X pins σ H s):sysModules<s.heap.objs.size:=by
 have h:mainGlobals<s.heap.objs.size:=(I.mod.glob.keeps I.bk).lt;exact Nat.lt_trans (by decide) h
theorem zlF {Q:Value->Shared->Prop}(hu:A.units+1<cLine)(I:Inv X pins σ H s)(g:DGet H a y (some v))(ry:RelV y u)(h:∀w' s',Inv X pins σ H s'->RelV v w'->Q w' s') :
  wpAny (model X.prog X.w) A (getItem (.ref a) u) Q E s:=by
 rcases g with ⟨kvs,k,e,ey,l⟩ | ⟨kvs,k,b,e,ey,eb,l⟩
 ·subst ey;obtain⟨z,hd,vs,rel,dd⟩:=zgR I.hok e;obtain⟨w',hw,rw'⟩:=RelO.some_of (v:=v) (o:=valueAt vs k) (by rw[l];exact rel.val k);exact wpAny_getItem_of (zlE ry) dd.mapOf hw (h w' _ (I.tok _) rw')
 ·subst ey;cases (show u=Value.ref b from ry);obtain⟨z,hd,xs,rel,dd⟩:=ziO I.hok e;obtain⟨w',hw,rw'⟩:=RelO.some_of (v:=v) (o:=(atKey xs k).map (·.2)) (by rw[l];exact rel.val k);obtain⟨p,hp,hp2⟩:=Option.map_eq_some_iff.mp hw;refine wpAny_getItem_heap (tupleKind_room_in1 hu) (zgs I.hok eb) dd hp ?_;rw[hp2];exact h w' _ (I.tok _) rw'
theorem d_in {Q:Value->Shared->Prop}(hu:A.units+1<cLine)(I:Inv X pins σ H s)(g:DGet H a y o)(ry:RelV y u)(h:∀s',Inv X pins σ H s'->Q (.bool o.isSome) s') :
  wpAny (model X.prog X.w) A (compareOp .In u (.ref a)) Q E s:=by
 rcases g with ⟨kvs,k,e,ey,l⟩ | ⟨kvs,k,b,e,ey,eb,l⟩
 ·subst ey;obtain⟨z,hd,vs,rel,dd⟩:=zgR I.hok e;refine wpAny_in_of (zlE ry) hd dd.mapOf ?_;rw[<- (rel.val k).zfL,<- l];exact h _ (I.tok _)
 ·subst ey;cases (show u=Value.ref b from ry);obtain⟨z,hd,xs,rel,dd⟩:=ziO I.hok e;refine wpAny_in_heap (tupleKind_room_in1 hu) (zgs I.hok eb) hd dd ?_;have q:=(rel.val k).zfL;rw[Option.isSome_map]at q;rw[<- q,<- l];exact h _ (I.tok _)
theorem ziP {h':Heap}{t':Nat}{ob:HO}(I:Inv X pins σ H s)(mu:Mut (H a))(hs:Ym a s.heap h')(he:∃q,h'.get? a=some q)(new:zcp X.prog X.w (upd H a ob) h' a ob) :
  Inv X pins σ (upd H a ob) { s with heap:=h',toks:=t' }:=
 I.write (x:=a) (e:=a) mu (.inl rfl) (λb q hb z=>(hs.2 b hb).trans z) he new
theorem zlG {P:Program}{w:World}{H':Hp}{h':Heap}{kvs:List (Key×V)}{vs:List (Key×Value)}(z:kvs.length<=sizeLine)(hd:(a == sysModules)=false)(rel:KV kvs vs)(dd:h'.DictOf (zaS P w) a vs) :
  zcp P w H' h' a (.dK kvs):=⟨z,hd,vs,rel,dd⟩
theorem zlH {H':Hp}{Q:Unit->Shared->Prop}(hu:A.units+1<cLine)(I:Inv X pins σ H s)(g:DPut H a y v H')(ry:RelV y u)(rv:RelV v r)(h:∀s',Inv X pins σ H' s'->Q () s') :
  wpAny (model X.prog X.w) A (setItem (.ref a) u r) Q E s:=by
 rcases g with ⟨kvs,k,e,ey,l,eH⟩ | ⟨kvs,k,b,e,ey,eb,l,eH⟩
 ·subst ey eH;obtain⟨z,hd,vs,rel,dd⟩:=ztu I.hok e;have hz:vs.length<=sizeLine:=by rw[<- rel.length];exact z
  have hl:(putK kvs k v).length<=sizeLine:=by have:=zef kvs k v;lia
  refine wpAny_setItem_pairs (hsz:=hz) (zlE ry) dd λh' dd' hs=>h _ ?_;have he:∃q,h'.get? a=some q:=let ⟨q,_,_,hq,_⟩:=dd';⟨q,hq⟩;exact ziP I (by rw[e];exact True.intro) hs he (zlG hl hd (rel.put k rv) dd')
 ·subst ey eH;cases (show u=Value.ref b from ry);obtain⟨z,hd,xs,rel,dd⟩:=zrS I.hok e;have hz:xs.length<=sizeLine:=by rw[<- Paired.length rel];exact z
  have hl:(putK kvs k v).length<=sizeLine:=by have:=zef kvs k v;lia
  refine wpAny_setItem_heap (hsz:=hz) (tupleKind_room_in1 hu) (zgs I.hok eb) dd λh' dd' hs=>h _ ?_;obtain⟨q,es,ep,hq,h2,h3,h4,_,h5⟩:=dd';refine ziP I (by rw[e];exact True.intro) hs ⟨q,hq⟩ ⟨hl,hd,_,(rel.put k eb rv).keeps λc ys ec=>?_,q,es,ep,hq,h2,h3,h4,h5⟩;rw[zaj (zrj ec e (λz=>nomatch z))];exact ec
end
section
variable {X:Cx}{pins:List (Addr×Obj)}{σ:St}{H:Hp}{s:Shared}{a:Addr}{kvs:List (Key×V)}{k:Key}{u:Value}{A:Around}{E:Value->Shared->Prop}
theorem ztv {Q:Value->Shared->Prop}(I:Inv X pins σ H s)(e:Rd H a (.dK kvs))(h:∀t s',Inv X pins σ H s'->Q (.int kvs.length t) s'):wpAny (model X.prog X.w) A (call (.builtin "len") [.ref a]) Q E s:=by
 obtain⟨z,hd,vs,rel,dd⟩:=zgR I.hok e;refine call_len_dict hd dd (by rw[<- rel.length];rw[sizeLine_eq]at z;lia) ?_;rw[<- rel.length];exact h _ _ (I.tok _)
end
noncomputable def NoSl (i:Expr):Prop:=∀ov iv,subscripted i false ov iv=operate [ov,iv] (getItem ov iv)
theorem zpT {prog:Program}{w:World}{A:Around}{E:Value->Shared->Prop}{s:Shared}{env:Env}{value slice:Expr}{pos:Pos}{T id:String}{Q:Value->Shared->Prop}
  (hl:typeLookup (.type T) "__getitem__" = pure (some (.builtin id))) (hs:NoSl slice)
  (h:wpAny (model prog w) A (eval value env) (λo s₁=>wpAny (model prog w) A (eval slice env) (λi s₂=>s₂.TypeIs o T/\wpAny (model prog w) A (getItem o i) Q E s₂) E s₁) E s) :
  wpAny (model prog w) A (eval (.Subscript value slice pos) env) Q E s:=by
 refine Subscript_ (wpAny_mono h (λo s₁ h₁=>wpAny_mono h₁ (λi s₂ h₂=>?_) λ_ _ x=>x) λ_ _ x=>x);obtain⟨hT,h₂⟩:=h₂;unfold subscriptTail;refine wpAny_bind ?_;rw[getitemInPython_of_ne hT.not_modules];refine wpAny_bind (wpAny_specialOf hT hl ?_);have fin:wpAny (model prog w) A (subscripted slice false o i) (λr s₃=>wpAny (model prog w) A (letTemporaryGo value o r >>= λ_=>pure r) Q E s₃) E s₂:=by
  rw[hs o i];exact wpAny_operating (wpAny_mono h₂ (λr s₃ h₃=>wpAny_bind (wpAny_letTemporaryGo (wpAny_pure h₃))) λ_ _ x=>x)
 first
  | exact wpAny_pure (wpAny_bind fin)
  | exact wpAny_bind (wpAny_pure (wpAny_bind fin))
  | exact wpAny_bind fin
theorem ziQ {X:Cx}{pins:List (Addr×Obj)}{σ:St}{H:Hp}{s:Shared}{a:Addr}{y:V}{o:Option V}(I:Inv X pins σ H s)(g:DGet H a y o):s.TypeIs (.ref a) "dict":=by
 rcases g with ⟨kvs,k,e,_,_⟩ | ⟨kvs,k,b,e,_,_,_⟩
 ·obtain⟨_,_,vs,_,dd⟩:=zgR I.hok e;exact dd.typeIs
 ·obtain⟨_,_,xs,_,dd⟩:=ziO I.hok e;exact dd.typeIs
noncomputable def ztw (td ty:TE):TE:=λσ H Q=>td σ H λx H1=>ty σ H1 λy H2=>∃a v,x=.ref a/\DGet H2 a y (some v)/\Q v H2
noncomputable def tDIn (ty td:TE):TE:=λσ H Q=>ty σ H λy H1=>td σ H1 λx H2=>∃a o,x=.ref a/\DGet H2 a y o/\Q (.bl o.isSome) H2
noncomputable def ztx (td ty tv:TE):TS:=λD σ H=>tv σ H λv H1=>td σ H1 λx H2=>ty σ H2 λy H3=>∃a H4,x=.ref a/\DPut H3 a y v H4/\D.nx σ H4
section
variable {X:Cx}{o i e value:Expr}{pos pos' tpos:Pos}{td ty tv:TE}
theorem zpU (hu:X.A.units+1<cLine)(ho:PE X o td)(hi:PE X i ty)(hs:NoSl i):PE X (.Subscript o i pos) (ztw td ty):=by
 intro pins s σ H Q I h;refine zpT PySem.F.slot_dict_getitem.lookup hs (thn (ho pins s σ H _ I h) λu s1 ⟨x,H1,I1,rx,q1⟩=>thn (hi pins s1 σ H1 _ I1 q1) λiv s2 q52q=>?_);obtain⟨y,H2,I2,ry,a,v,ex,g,q2⟩:=q52q;subst ex;obtain rfl:u=Value.ref a:=rx;exact⟨ziQ I2 g,zlF hu I2 g ry λw' s3 I3 rw'=>⟨v,H2,I3,rw',q2⟩⟩
theorem zrT (hu:X.A.units+1<cLine)(hi:PE X i ty)(ho:PE X o td):PC X .In i o (tDIn ty td):=by
 intro pins s σ H Q I h;refine thn (hi pins s σ H _ I h) λiv s1 ⟨y,H1,I1,ry,q1⟩=>thn (ho pins s1 σ H1 _ I1 q1) λu s2 q54q=>?_;obtain⟨x,H2,I2,rx,a,ov,ex,g,q2⟩:=q54q;subst ex;obtain rfl:u=Value.ref a:=rx;exact d_in hu I2 g ry λs3 I3=>⟨.bl ov.isSome,H2,I3,rfl,q2⟩
theorem zpV (hu:X.A.units+1<cLine)(ho:PE X o td)(hi:PE X i ty)(hv:PE X value tv)(hs:swapsWith value (some (.Subscript o i pos')) pos.line X.env=pure false) :
  PS X (.Assign [.Subscript o i pos'] value pos) (ztx td ty tv):=by
 intro pins s σ H D I h;refine wpAny_Assign_Subscript (thn (hv pins s σ H _ I h) λr s1 ⟨v,H1,I1,rv,q1⟩=>thn (ho pins s1 σ H1 _ I1 q1) λu s2 ⟨x,H2,I2,rx,q2⟩=>thn (hi pins s2 σ H2 _ I2 q2) λiv s3 q57q=>?_) hs;obtain⟨y,H3,I3,ry,a,H4,ex,g,q3⟩:=q57q;subst ex;obtain rfl:u=Value.ref a:=rx;exact zlH hu I3 g ry rv λs4 I4=>⟨σ,H4,I4,q3⟩
end
theorem znQ {P:Program}{w:World}{H:Hp}(h:Heap)(hb:sysModules<h.objs.size):zcp P w H (h.push { cls:=.type "dict",data:=.dict #[] }) h.objs.size (.dK []):=
 ⟨XT _,beq_eq_false_iff_ne.mpr (Ne.symm (XJ hb)),[],.nil,Heap.DictOf.new h⟩
theorem znR {P:Program}{w:World}{H:Hp}(h:Heap)(hb:sysModules<h.objs.size):zcp P w H (h.push { cls:=.type "dict",data:=.dict #[] }) h.objs.size (.dT []):=
 ⟨XT _,beq_eq_false_iff_ne.mpr (Ne.symm (XJ hb)),[],.nil,_,#[],0,XC _ rfl,⟨rfl,rfl,rfl⟩,rfl,rfl,List.nodup_nil⟩
noncomputable def zrU:TE:=λ_ H Q=>∀p,H p=none->Q (.ref p) (upd H p (.dK []))
noncomputable def zrV:TE:=λ_ H Q=>∀p,H p=none->Q (.ref p) (upd H p (.dT []))
section
variable {X:Cx}{pos:Pos}
theorem znS:PE X (.Dict [] [] pos) zrU:=λpins s σ H Q I h=>
 wpAny_Dict_empty ⟨.ref s.heap.objs.size,_,I.laid (a:=s.heap.objs.size) (o:=.dK []) (t':=s.toks) (λ_ _ q=>Xe _ q) (Xi _) (znQ s.heap I.big),rfl,h _ (I.hok.fresh (Xi _))⟩
theorem zjt:PE X (.Dict [] [] pos) zrV:=λpins s σ H Q I h=>
 wpAny_Dict_empty ⟨.ref s.heap.objs.size,_,I.laid (a:=s.heap.objs.size) (o:=.dT []) (t':=s.toks) (λ_ _ q=>Xe _ q) (Xi _) (znR s.heap I.big),rfl,h _ (I.hok.fresh (Xi _))⟩
end
structure M1 (X:Cx)(o:Expr)(m:Str)(apos:Pos)(e:Expr)(cpos:Pos):Prop where
 base:attributeBase o m X.env (eval o X.env)=eval o X.env
 few:((backTo cpos (starEach [e] X.env)).all (λx=>!x.1)&&(backToKw cpos (keywordEach [] X.env)).all (λx=>x.1.isSome)
  && decide (([e]:List Expr).length+([]:List Keyword).length+(if ([]:List Keyword).isEmpty then 0 else 1)<30))=true
 line:(apos.endLine == cpos.line)=true
 trees:backTo cpos (starEach [e] X.env)=[(false,eval e X.env)]
structure M2 (X:Cx)(o:Expr)(m:Str)(apos:Pos)(e f:Expr)(cpos:Pos):Prop where
 base:attributeBase o m X.env (eval o X.env)=eval o X.env
 few:((backTo cpos (starEach [e,f] X.env)).all (λx=>!x.1)&&(backToKw cpos (keywordEach [] X.env)).all (λx=>x.1.isSome)
  && decide (([e,f]:List Expr).length+([]:List Keyword).length+(if ([]:List Keyword).isEmpty then 0 else 1)<30))=true
 line:(apos.endLine == cpos.line)=true
 trees:backTo cpos (starEach [e,f] X.env)=[(false,eval e X.env),(false,eval f X.env)]
noncomputable def IsD (H:Hp)(a:Addr):Prop:=(∃kvs,Rd H a (.dK kvs))\/∃kvs,Rd H a (.dT kvs)
theorem zpg {X:Cx}{pins:List (Addr×Obj)}{σ:St}{H:Hp}{s:Shared}{a:Addr}(I:Inv X pins σ H s)(d:IsD H a) :
  s.TypeIs (.ref a) "dict"/\(∀b,Value.ref a=.ref b->∃ob,s.heap.get? b=some ob/\ob.dict=none)/\(a == sysModules)=false:=by
 rcases d with ⟨kvs,e⟩ | ⟨kvs,e⟩
 ·obtain⟨_,hd,vs,_,dd⟩:=zgR I.hok e;refine⟨dd.typeIs,λb q=>?_,hd⟩;cases q;obtain⟨ob,_,_,h1,h2,_⟩:=dd;exact⟨ob,h1,h2.2.1⟩
 ·obtain⟨_,hd,xs,_,dd⟩:=ziO I.hok e;refine⟨dd.typeIs,λb q=>?_,hd⟩;cases q;obtain⟨ob,_,_,h1,h2,_⟩:=dd;exact⟨ob,h1,h2.2.1⟩
section
variable {X:Cx}{pins:List (Addr×Obj)}{σ:St}{H:Hp}{s:Shared}{a:Addr}{y d:V}{u r:Value}{o:Option V}{A:Around}{E:Value->Shared->Prop}
theorem zrW {Q:Value->Shared->Prop}(hu:A.units+1<cLine)(I:Inv X pins σ H s)(g:DGet H a y o)(ry:RelV y u)(rd:RelV d r)(h:∀w' s',Inv X pins σ H s'->RelV (o.getD d) w'->Q w' s') :
  wpAny (model X.prog X.w) A (call (.builtin "dict.get") [.ref a,u,r]) Q E s:=by
 rcases g with ⟨kvs,k,e,ey,l⟩ | ⟨kvs,k,b,e,ey,eb,l⟩
 ·subst ey;obtain⟨z,hd,vs,rel,dd⟩:=zgR I.hok e;refine call_meetsIn PySem.F.slot_dict_get dd.typeIs PySem.F.entry_dict_get (PySem.F.args_dict_get_3 _ _ _) (meets_dict_get_default (zaS X.prog X.w) a (zlE ry) hd r) ⟨_,dd.mapOf,h _ _ (I.tok _) ?_⟩;rw[l];exact(rel.val k).getD rd
 ·subst ey;cases (show u=Value.ref b from ry);obtain⟨z,hd,xs,rel,dd⟩:=ziO I.hok e;refine call_meetsIn PySem.F.slot_dict_get dd.typeIs PySem.F.entry_dict_get (PySem.F.args_dict_get_3 _ _ _) (meetsH_dict_get_default (tupleKind (zaS X.prog X.w)) a b hd r) ⟨tupleKind_room_in1 hu,k,xs,zgs I.hok eb,dd,h _ _ (I.tok _) ?_⟩;rw[l];exact(rel.val k).getD rd
end
noncomputable def zrX (td ty tx:TE):TE:=λσ H Q=>td σ H λx H1=>∃a,x=.ref a/\IsD H1 a/\ty σ H1 λy H2=>tx σ H2 λz H3=>∃o,DGet H3 a y o/\Q (o.getD z) H3
section
variable {X:Cx}{o e f:Expr}{apos cpos:Pos}{td ty tx:TE}
theorem znT (hu:X.A.units+1<cLine)(ho:PE X o td)(he:PE X e ty)(hf:PE X f tx)(m:M2 X o "get" apos e f cpos):PE X (.Call (.Attribute o "get" apos) [e,f] [] cpos) (zrX td ty tx):=by
 intro pins s σ H Q I h;refine wpAny_Call_method m.base m.few m.line PySem.F.plainAttrs_dict PySem.F.slot_dict_get PySem.F.type_dict_get (thn (ho pins s σ H _ I h) λu s1 q58q=>?_);obtain⟨x,H1,I1,rx,a,ex,d,q1⟩:=q58q;subst ex;obtain rfl:u=Value.ref a:=rx;obtain⟨t1,t2,_⟩:=zpg I1 d;refine⟨t1,t2,?_⟩;rw[m.trees];refine Calls.callWith_builtin rfl (Calls.evalArgs_plain (Calls.spliced_cons (thn (he pins s1 σ H1 _ I1 q1) λiv s2 ⟨y,H2,I2,ry,q2⟩=>
  Calls.spliced_cons (thn (hf pins s2 σ H2 _ I2 q2) λfv s3 ⟨z,H3,I3,rz,ov,g,q3⟩=>Calls.spliced_nil ?_))))
 exact zrW hu I3 g ry rz λw' s4 I4 rw'=>⟨_,H3,I4,rw',q3⟩
end
end L2
namespace Att
open PySem PySem.W PySem.Calls PyProof.Rows
theorem zfM {P:Params}{h:Heap}:∀(ns:List Int)(vs:List Value),WellAll P h vs (ns.map WData.int)->IntsAre vs ns:=by
 intro ns;induction ns with
 | nil=>
  intro vs w;rw[YL]at w;cases w;exact .nil
 | cons n ns ih=>
  intro vs w;rw[Xp]at w;cases w with
  | cons a b=>
   cases a;exact .cons _ _ (ih _ b)
theorem zlI {l:OpenLaw}{n:Nat}(hn:l.most=some n){P:Params}{h:Heap}{args:List WData}{vals:List Value}
  (hpre:l.row.toRowW.claim.pre args=true) (hwl:WellAll P h vals args) :
  ∃a vs ns,vals=[Value.ref a]/\args=[WData.list (ns.map WData.int)]/\h.get? a=some { cls:=.type "list",data:=.seq vs.toArray }/\IntsAre vs ns/\ns.length<=n:=by
 have hsh:WShape.hasAll [] args [.list .int]=true:=(pre_splitW hpre).1;have hc:l.pre.holds [] { args:=args }=true:=(pre_splitW hpre).2;obtain⟨d,r,rfl,h1,h2⟩:=hasAllW_cons hsh;obtain rfl:=hasAllW_nil h2;obtain⟨xs,rfl,h3⟩:=hasW_list h1;obtain⟨ns,rfl⟩:=items_int h3;have hlen:ns.length<=n:=by
  unfold OpenLaw.pre at hc;have h4:(WTm.not (.lt (.lit (.int (n:Int))) (.len (.arg 0)))).holds [] { args:=[.list (ns.map .int)] }=true:=by
   have h4:=(holds_andW hc).1;rw[hn]at h4;exact h4
  have h5:=condW_of h4 (w_not (w_lt w_lit (w_len_list (w_arg rfl))));rw[Xb]at h5;refine Nat.le_of_not_lt λq=>?_;have q':(n:Int)<((ns.length:Nat):Int):=by lia
  first
   | (rw[decide_eq_true q']at h5;exact absurd h5 (by decide))
   | (simp at h5;lia)
 cases hwl with
 | cons w1 w2=>
  cases w2;cases w1 with
  | list ho hall=>exact⟨_,_,ns,rfl,rfl,ho,zfM ns _ hall,hlen⟩
theorem zlJ (l:OpenLaw)(args:List WData):l.row.toRowW.claim.post args (.bool true) args=true:=
 postW_of (r:=l.row.toRowW) (X:=(true == true))
  (show WShape.has [] (.bool true) .bool=true by first | rfl | decide | simp[WShape.has,WShape.arms,WShape.armsAll])
  (show(WTm.eq .res (.lit (.bool true))).value [] { args:=args,res:=some (.bool true),after:=args }=some (.bool (true == true)) from w_eq_bool (w_res rfl) w_lit) rfl
theorem ziR {l:OpenLaw}{n:Nat}{q:Program}{loose:List Str}{XP:(Str->Option Value)->Heap->Prop}{YP:World->Heap->Prop}{d:DefRec}
  (hn:l.most=some n) (hdf:d.params.defaults=[])
  (call:∀(w:World) (s₀ s₁:Shared) (mg mb:Str->Option Value) (fa:Addr) (o:Obj) (pm cd doc:Value) (a:Addr) (vs:List Value) (ns:List Int),
   Ground q loose [] XP w s₀ mg mb s₁.heap->YP w s₁.heap->
   s₁.heap.get? fa=some o->o.data=.func (docDef d.name d.params d.body d.scope pm cd doc)->s₁.heap.CodeRec cd d.name->mg d.name=some (.ref fa)->
   s₁.heap.get? a=some { cls:=.type "list",data:=.seq vs.toArray }->IntsAre vs ns->ns.length<=n->s₁.gens = #[]->
   codeAny (model l.prog w) callerA (.call (.ref fa) ⟨[.ref a],[]⟩) (λr s'=>r=.ok (.ret (.bool true))/\OldK s₁.heap s'.heap/\s'.os=s₁.os/\AllBare s'.gens) s₁) :
  WalkO q loose XP YP l.row.toRowW d [] (λf vs=>PySem.call f vs):=by
 intro w s₀ s₁ mg mb G Y fa o pm cd doc dV kV ho hd hcd hD hmg hg args vals as hpre hlay hrd hwl hlo;obtain rfl:dV=.none:=Dflts.none hD hdf;obtain rfl:kV=.none:=Dflts.noKw hD;obtain⟨a,vs,ns,rfl,rfl,hobj,hints,hlen⟩:=zlI hn hpre hwl;refine enter_call (codeAny_mono (call w s₀ s₁ mg mb fa o pm cd doc a vs ns G Y ho (fd_plain hd) hcd hmg hobj hints hlen hg) λr s' hq=>?_);obtain⟨rfl,h2,h3,h4⟩:=hq;exact⟨.inl ⟨.bool true,.bool true,[],rfl,λ_=>rfl,.bool true,zlJ l _,λ_=>⟨List.Pairwise.nil,λ_ hm=>(nomatch hm)⟩⟩,h2,h3,h4⟩
end Att
namespace L2
open PySem PySem.Spec PyProof.Rows
theorem zhG:∀ {vs:List Value}{ns:List Int},IntsAre vs ns->Vals (ns.map V.int) vs
 | _,_,.nil=>.nil
 | _,_,.cons n t h=>.cons ⟨t,rfl⟩ (zhG h)
noncomputable def Only (H:Hp):Prop:=∀b,H b=none\/∃o xs,H b=some (.frz o (.lst xs))
noncomputable abbrev KOf {K:Xa}{h:Heap}(_:K.In h):Xa:=K
noncomputable def zav (s:Stmt):Arguments:=match s with
 | .FunctionDef _ a _ _ _ _ _ _ _ _=>a
 | _=>{ posonlyargs:=[],args:=[],vararg:=none,kwonlyargs:=[],kw_defaults:=[],kwarg:=none,defaults:=[] }
noncomputable def zaq (s:Stmt):List Stmt:=match s with
 | .FunctionDef _ _ b _ _ _ _ _ _ _=>b
 | _=>[]
noncomputable def zac (s:Stmt):Scope:=match s with
 | .FunctionDef _ _ _ _ _ _ sc _ _ _=>sc
 | _=>{ kind:=.function,names:=[],isGenerator:=false,isCoroutine:=false }
noncomputable abbrev CX0:CXT:=λ_ _ _ _ _ _=>False
noncomputable abbrev E0:XK:=λ_ _ _=>False
theorem znU {X:Cx}:zgr CX0 X E0:=λ_ _ _ _ _ _ _ h=>h.elim
structure Fun (K:Xa)(x qual:Str)(st:Stmt)(f:Addr)(fd:FuncData):Prop where
 ex:∃(oc:Value) (od:Option Addr) (kV doc pm:Value) (an:Option Addr) (cdv ct:Value) (osl:Array (Option Value)),
  fd=XL x qual (zav st) (zaq st) (zac st) .none kV doc pm an cdv ct/\K.lookup f=some ⟨oc,od,.func fd,osl⟩/\XF K cdv qual=true
 kp:Xz K (.ref f)=true
section
variable {P:Program}{w:World}{K:Xa}{mg:Str->Option Value}{base:Heap}
theorem Fun.ok {x qual:Str}{st:Stmt}{f:Addr}{fd:FuncData}{N ps:List Str}{k:Nat}{sp:Sp}(F:Fun K x qual st f fd)(S:zau N ps (zac st))(len:∀vs H Q E,sp vs H Q E->vs.length=ps.length)
  (hbody:∀(cdv:Value) (A:Around) (outer:List Env) (s:Shared) (H:Hp) (vs:List V) (Q:VK) (E:XK),Room k (A.deeper (envOfC qual (zac st) s.heap.objs.size f cdv))->sp vs H Q E->
   ∃t,PSs (cxOf CX0 P w K mg base N qual (zac st) f cdv A outer s H E).nox (zaq st) t/\t { nx:=λ_ H'=>Q .non H',rt:=Q } (start N vs) H):FnOk P w K mg base CX0 (k+1) f fd ps sp:=by
 obtain⟨oc,od,kV,doc,pm,an,cdv,ct,osl,rfl,lk,hcd⟩:=F.ex;refine ztq lk hcd S len λA outer s H vs Q E hr hsp=>?_;obtain⟨t,h,q⟩:=hbody cdv A outer s H vs Q E hr hsp;exact⟨t,h.nox,q⟩
theorem Fun.binds {x qual:Str}{st:Stmt}{f:Addr}{fd:FuncData}{ps:List Str}(F:Fun K x qual st f fd)
  (h:∀(kV doc pm:Value) (an:Option Addr) (cdv ct:Value) (us:List Value),us.length=ps.length->bindArgs (XL x qual (zav st) (zaq st) (zac st) .none kV doc pm an cdv ct) ⟨us,[]⟩=pure (ps.zip us)):Binds K fd ps []:=by
 obtain⟨oc,od,kV,doc,pm,an,cdv,ct,osl,rfl,lk,hcd⟩:=F.ex;exact .all (h kV doc pm an cdv ct)
theorem zaT {x qual:Str}{st:Stmt}{f:Addr}{oc:Value}{od an:Option Addr}{osl:Array (Option Value)}{kV doc pm cdv ct:Value}(l:K.lookup f=some ⟨oc,od,.func (XL x qual (zav st) (zaq st) (zac st) .none kV doc pm an cdv ct),osl⟩)
  (c:XF K cdv qual=true) (k:Xz K (.ref f)=true):Fun K x qual st f (XL x qual (zav st) (zaq st) (zac st) .none kV doc pm an cdv ct):=⟨⟨oc,od,kV,doc,pm,an,cdv,ct,osl,rfl,l,c⟩,k⟩
end
theorem iteF {A B:Prop}(h:B):if false=true then A else B:=by
 rw[if_neg Xs];exact h
theorem iteT {A B:Prop}(h:A):if true=true then A else B:=by
 rw[if_pos rfl];exact h
theorem ite2 {c A B:Prop} [Decidable c] (h1:c->A)(h2:¬ c->B):if c then A else B:=by
 by_cases h:c
 ·rw[if_pos h];exact h1 h
 ·rw[if_neg h];exact h2 h
noncomputable def Same (H H':Hp):Prop:=∀b o,H b=some o->H' b=some o
theorem Same.refl (H:Hp):Same H H:=λ_ _ h=>h
theorem Same.trans {H H1 H2:Hp}(a:Same H H1)(b:Same H1 H2):Same H H2:=λc o h=>b c o (a c o h)
theorem Same.free {H H':Hp}(e:Same H H'){l:Addr}(h:H' l=Option.none):H l=Option.none:=by
 cases q:H l with
 | none=>rfl
 | some o=>
  rw[e l o q]at h;cases h
theorem Same.seq {K:Xa}{H H':Hp}{a:Addr}{xs:List V}(e:Same H H')(h:SqL K H a xs):SqL K H' a xs:=by
 rcases h with (h | ⟨o,h⟩) | h
 ·exact .inl (.inl (e _ _ h))
 ·exact .inl (.inr ⟨o,e _ _ h⟩)
 ·exact .inr h
noncomputable def zby (env:Env):List (Str×NameKind)->List (Str×Addr)->List (Str×Addr)
 | [],acc=>acc
 | (n,k)::r,acc=>zby env r (if k == .free then(n,(env.cells.lookup n).getD 0)::acc else acc)
theorem zju {env:Env}(f:Str×NameKind->List (Str×Addr)->Sem (ForInStep (List (Str×Addr))))
  (hf:∀n k cs,f (n,k) cs=if k == .free then(do let a <- cellOf env n;pure (.yield ((n,a)::cs))) else pure (.yield cs)) :
  ∀(l:List (Str×NameKind)) (acc:List (Str×Addr)),(∀n,(n,NameKind.free)∈l->∃c,env.cells.lookup n=some c)->forIn l acc f=pure (zby env l acc)
 | [],acc,_=>by rw[List.forIn_nil];rfl
 | (n,k)::r,acc,h=>by
  have ih:=zju f hf r;have hr:∀m,(m,NameKind.free)∈r->∃c,env.cells.lookup m=some c:=λm hm=>h m (Xf _ hm);rw[List.forIn_cons,hf];unfold zby;by_cases hk:(k == NameKind.free)=true
  ·have hk':k=NameKind.free:=by simpa using hk
   subst hk';obtain⟨c,hc⟩:=h n Xh;have e:cellOf env n=pure c:=by unfold cellOf;rw[hc]
   rw[if_pos hk,if_pos hk,e,hc];simp only[pure_bind,Option.getD_some];exact ih _ hr
  ·rw[if_neg hk,if_neg hk];simp only[pure_bind];exact ih _ hr
theorem zlK {scope:Scope}{env:Env}(h:∀n,(n,NameKind.free)∈scope.names->∃c,env.cells.lookup n=some c):closureFor scope env=pure (zby env scope.names []):=by
 simp only[closureFor];rw[zju (env:=env) _ (λn k cs=>by cases hk:(k == NameKind.free)<;>simp[hk]) scope.names [] h];simp
theorem zgt {env:Env}:∀(l:List (Str×NameKind))(acc:List (Str×Addr)),(∀n,(n,NameKind.free)∈l->∃c,env.cells.lookup n=some c)->(∀n c,(n,c)∈acc->env.cells.lookup n=some c)->
  ∀n c,(n,c)∈zby env l acc->env.cells.lookup n=some c
 | [],_,_,ha,n,c,hm=>ha n c hm
 | (x,k)::r,acc,h,ha,n,c,hm=>by
  have hr:∀m,(m,NameKind.free)∈r->∃c,env.cells.lookup m=some c:=λm hm=>h m (Xf _ hm);unfold zby at hm;refine zgt r _ hr (λm d hd=>?_) n c hm;by_cases hk:(k == NameKind.free)=true
  ·have hk':k=NameKind.free:=by simpa using hk
   subst hk';rw[if_pos hk]at hd;rcases Xu.mp hd with e | hd
   ·obtain⟨c',hc'⟩:=h x Xh;cases e;rw[hc'];rfl
   ·exact ha m d hd
  ·rw[if_neg hk]at hd;exact ha m d hd
theorem zeT {env:Env}:∀(l:List (Str×NameKind))(acc:List (Str×Addr))(n:Str),((n,NameKind.free)∈l\/(acc.lookup n).isSome=true)->((zby env l acc).lookup n).isSome=true
 | [],_,_,h=>h.elim (λz=>nomatch z) id
 | (x,k)::r,acc,n,h=>by
  unfold zby;refine zeT r _ n ?_;have up:(acc.lookup n).isSome=true->((if (k == NameKind.free)=true then(x,(env.cells.lookup x).getD 0)::acc else acc).lookup n).isSome=true:=λz=>by
   by_cases hk:(k == NameKind.free)=true
   ·rw[if_pos hk,XH];cases n == x<;>simp[z]
   ·rw[if_neg hk];exact z
  rcases h with h | h
  ·rcases Xu.mp h with e | h
   ·right;cases e;rw[if_pos (by rfl),XH];simp
   ·exact .inl h
  ·exact .inr (up h)
theorem zbF:∀(names:List (Str×NameKind))(n:Nat)(acc:List (Str×Addr)),cellsFrom n names acc=cellsFrom n names []++acc
 | [],_,_=>rfl
 | (x,k)::r,n,acc=>by
  unfold cellsFrom;by_cases hk:(k == NameKind.cell)=true
  ·rw[if_pos hk,if_pos hk,zbF r (n+1) ((x,n)::acc),zbF r (n+1) [(x,n)],List.append_assoc];rfl
  ·rw[if_neg hk,if_neg hk];exact zbF r n acc
theorem zcJ:∀(names:List (Str×NameKind))(n:Nat)(acc:List (Str×Addr))(x:Str)(c:Addr),(x,c)∈cellsFrom n names acc->(x,c)∈acc\/(x,NameKind.cell)∈names
 | [],_,_,_,_,h=>.inl h
 | (y,k)::r,n,acc,x,c,h=>by
  unfold cellsFrom at h;by_cases hk:(k == NameKind.cell)=true
  ·have hk':k=NameKind.cell:=by simpa using hk
   subst hk';rw[if_pos hk]at h;rcases zcJ r _ _ x c h with h | h
   ·rcases Xu.mp h with e | h
    ·cases e;exact .inr Xh
    ·exact .inl h
   ·exact .inr (Xf _ h)
  ·rw[if_neg hk]at h;rcases zcJ r _ _ x c h with h | h
   ·exact .inl h
   ·exact .inr (Xf _ h)
noncomputable def zes (sc sup:Scope):Scope:=
 {sc with names:=sc.names.map λ(n,k)=>if (k == .free&&sup.kind == .function&&sup.names.lookup n == some .cell) then(n,.cell) else(n,k) }
noncomputable def cpOk (sup:Scope)(XN N:List Str)(k:Nat)(js:List Nat)(sc:Scope):Bool:=
 sc.kind == .function&&decide N.Nodup&&decide (sc.names.map (·.1)).Nodup&&(sc.names.all λp=>p.2 != .free||(sup.names.lookup p.1 == some .cell||sup.names.lookup p.1 == some .free)) &&
  N.length == k+js.length&&((N.drop k).zip js).all λp=>sc.names.lookup p.1 == some .free&&XN[p.2]? == some p.1
structure zdp (X:Cx)(N:List Str)(k:Nat)(js:List Nat)(sc:Scope):Prop where
 kind:sc.kind=.function
 nd:N.Nodup
 nm:(sc.names.map (·.1)).Nodup
 fr:∀n,(n,NameKind.free)∈sc.names->X.env.kindOf n=some .cell\/X.env.kindOf n=some .free
 len:N.length=k+js.length
 at':∀(i:Nat) (x:Str),N[k+i]? = some x->sc.names.lookup x=some .free/\∃j,js[i]? = some j/\X.N[j]? = some x
theorem zeU {X:Cx}{sup:Scope}{XN N:List Str}{k:Nat}{js:List Nat}{sc:Scope}(hs:X.env.scope=sup)(hn:X.N=XN)(h:cpOk sup XN N k js sc=true):zdp X N k js sc:=by
 subst hs hn;unfold cpOk at h;simp only[Bool.and_eq_true,decide_eq_true_eq,beq_iff_eq,XE]at h;obtain⟨⟨⟨⟨⟨h1,h2⟩,h3⟩,h4⟩,h5⟩,h6⟩:=h;refine⟨h1,h2,h3,λn hn=>?_,h5,λi x hi=>?_⟩
 ·have q:=h4 _ hn;simp only[bne_self_eq_false,Bool.false_or,Bool.or_eq_true,beq_iff_eq]at q;exact q
 ·have hi':(N.drop k)[i]? = some x:=by rw[List.getElem?_drop];exact hi
  have hl:k+i<N.length:=(Xc.mp hi).1;have hj:i<js.length:=by lia
  have hm:(x,js[i])∈(N.drop k).zip js:=by
   refine List.mem_iff_getElem?.mpr ⟨i,?_⟩;rw[List.getElem?_zip_eq_some];exact⟨hi',by simp[hj]⟩
  have q:=h6 _ hm;exact⟨q.1,js[i],by simp[hj],q.2⟩
theorem zcS {α:Type}:∀ {l:List (Str×α)}{x:Str}{v:α},(l.map (·.1)).Nodup->(x,v)∈l->l.lookup x=some v
 | (y,u)::r,x,v,nd,h=>by
  rw[Xp,XX]at nd;rw[XH];rcases Xu.mp h with e | h
  ·cases e;simp
  ·have ne:x≠y:=λz=>nd.1 (XA.mpr ⟨(x,v),h,z⟩);have hb:(x == y)=false:=by simpa using ne
   rw[hb];exact zcS nd.2 h
noncomputable def zet (k:Nat)(js:List Nat)(σ:St):St:=YO k none++js.map λj=>(σ[j]?).getD none
noncomputable def cxB (X:Cx)(N:List Str)(sc:Scope)(C:Addr)(cells:List (Str×Addr))(fp:List Addr)(s:Shared)(H:Hp):Cx where
 prog:=X.prog
 w:=X.w
 K:=X.K
 mg:=X.mg
 base:=X.base
 A:=X.A
 N:=N
 s₀:=s
 H₀:=H
 env:={ scope:=zes sc X.env.scope,locals:=C,globals:=X.env.globals,cells:=cells,qual:=X.env.qual,func:=none,code:=X.env.code,frame:=X.env.frame,builtins:=X.env.builtins }
 outer:=X.stack
 stack:=X.stack
 ex:=fp
 fn:=λx=>sc.names.lookup x == some .cell
 calm:=X.calm
 pn:=[]
 xe:=λ_ _=>False
section
variable {X:Cx}{pins:List (Addr×Obj)}{σ:St}{H:Hp}{s:Shared}
theorem zeu {sc sup:Scope}{x:Str}{k:NameKind}(h:(zes sc sup).names.lookup x=some k):sc.names.lookup x=some k\/(sc.names.lookup x=some .free/\k=.cell):=by
 unfold zes at h;dsimp only at h;generalize sc.names=l at h ⊢;induction l with
 | nil=>simp at h
 | cons p r ih=>
  obtain⟨n,kd⟩:=p;rw[Xp,XH]at h;rw[XH];dsimp only at h;by_cases hc:(kd == NameKind.free&&sup.kind == ScopeKind.function&&sup.names.lookup n == some NameKind.cell)=true
  ·rw[if_pos hc]at h;dsimp only at h;cases hx:x == n with
   | true=>
    rw[hx]at h;simp only[Bool.and_eq_true,beq_iff_eq]at hc;right;exact⟨by rw[hc.1.1],(Option.some.inj h).symm⟩
   | false=>rw[hx]at h;exact ih h
  ·rw[if_neg hc]at h;dsimp only at h;cases hx:x == n with
   | true=>rw[hx]at h;left;exact h
   | false=>rw[hx]at h;exact ih h
theorem zew {sc sup:Scope}{x:Str}(h:sc.names.lookup x=some .free):(zes sc sup).names.lookup x=some .cell\/(zes sc sup).names.lookup x=some .free:=by
 unfold zes;dsimp only;generalize sc.names=l at h ⊢;induction l with
 | nil=>simp at h
 | cons p r ih=>
  obtain⟨n,kd⟩:=p;rw[XH]at h;rw[Xp];dsimp only;by_cases hc:(kd == NameKind.free&&sup.kind == ScopeKind.function&&sup.names.lookup n == some NameKind.cell)=true
  ·rw[if_pos hc,XH];cases hx:x == n with
   | true=>left;rfl
   | false=>rw[hx]at h;exact ih h
  ·rw[if_neg hc,XH];cases hx:x == n with
   | true=>rw[hx]at h;right;exact h
   | false=>rw[hx]at h;exact ih h
theorem Inv.block {N:List Str}{k:Nat}{js:List Nat}{sc:Scope}{fp:List Addr}(I:Inv X pins σ H s)(S:zdp X N k js sc)(hf:∀b∈fp,FpOk X pins H b)(hfs:∀b∈fp,b<s.heap.objs.size) :
  Inv (cxB X N sc s.heap.objs.size (cellsFrom (s.heap.objs.size+1) sc.names (zby X.env sc.names [])) fp s H) [] (zet k js σ) H
   {s with heap:=pushCells (s.heap.push { cls:=.type "dict",data:=.dict #[] }) sc.names }:=by
 have hz:(s.heap.push { cls:=.type "dict",data:=.dict #[] }).objs.size=s.heap.objs.size+1:=Yy ..;have kp:∀b o,s.heap.get? b=some o->(pushCells (s.heap.push { cls:=.type "dict",data:=.dict #[] }) sc.names).get? b=some o:=λb o e=>pushCells_keeps _ _ b o (Xe _ e);have cok:=cellsFrom_ok sc.names (s.heap.push { cls:=.type "dict",data:=.dict #[] }) (s.heap.objs.size+1) [] ⟨λ_ _ hm=>(nomatch hm),List.Pairwise.nil⟩ (by rw[hz];exact Xi _);rw[hz]at cok;have frs':∀n,(n,NameKind.free)∈sc.names->∃c,X.env.cells.lookup n=some c:=λn hn=>I.ok.has n (S.fr n hn);have csub:=zgt (env:=X.env) sc.names [] frs' (λ_ _ z=>nomatch z);have cases_:∀x c,(cellsFrom (s.heap.objs.size+1) sc.names (zby X.env sc.names [])).lookup x=some c->
   ((cellsFrom (s.heap.objs.size+1) sc.names []).lookup x=some c)\/((cellsFrom (s.heap.objs.size+1) sc.names []).lookup x=none/\(zby X.env sc.names []).lookup x=some c):=λx c h=>by
  rw[zbF,List.lookup_append]at h;cases q:(cellsFrom (s.heap.objs.size+1) sc.names []).lookup x with
  | some d=>rw[q]at h;left;simpa using h
  | none=>rw[q]at h;right;exact⟨rfl,by simpa using h⟩
 have old:∀x c,(zby X.env sc.names []).lookup x=some c->X.env.cells.lookup x=some c:=λx c h=>csub x c (PySem.mem_of_lookup h);have oldlt:∀x c,X.env.cells.lookup x=some c->c<s.heap.objs.size:=λx c h=>let ⟨_,q⟩:=I.cell x c h;q.lt;have ownge:∀x c,(cellsFrom (s.heap.objs.size+1) sc.names []).lookup x=some c->s.heap.objs.size+1<=c:=λx c h=>(cok.empty x c (PySem.mem_of_lookup h)).2;refine⟨⟨I.ok.mod,S.kind,I.ok.glob,I.ok.blt,Xi _,?inj,?has,?cab,I.ok.hd,I.ok.frames,.inl rfl,?exf,I.bs,XB I.ok.bsz I.sz,?noex,?exfs,I.stack,I.zlm⟩,rfl,I.bare,Un.kept kp,?loc,?cell,I.hok.fresh (Xi _),?freeC,λp hp=>absurd (show p∈([]:List (Addr×Obj)) from hp) (by simp),I.hok.kept kp,?len⟩
 case inj=>
  intro x y c hx hy;rcases cases_ x c hx with h1 | ⟨_,h1⟩<;>rcases cases_ y c hy with h2 | ⟨_,h2⟩
  ·exact name_of_addr cok.apart (PySem.mem_of_lookup h1) (PySem.mem_of_lookup h2)
  ·exact absurd (XQ (oldlt y c (old y c h2)) (Nat.le_of_succ_le (ownge x c h1))) (YK _)
  ·exact absurd (XQ (oldlt x c (old x c h1)) (Nat.le_of_succ_le (ownge y c h2))) (YK _)
  ·exact I.ok.inj x y c (old x c h1) (old y c h2)
 case has=>
  intro x hx;have hx':(zes sc X.env.scope).names.lookup x=some .cell\/(zes sc X.env.scope).names.lookup x=some .free:=hx;have q:sc.names.lookup x=some .cell\/sc.names.lookup x=some .free:=by
   rcases hx' with h | h
   ·rcases zeu h with h | ⟨h,_⟩
    ·exact .inl h
    ·exact .inr h
   ·rcases zeu h with h | ⟨h,_⟩
    ·exact .inr h
    ·exact .inr h
  refine Option.isSome_iff_exists.mp (PySem.W.cellsFrom_some sc.names _ _ ?_);rcases q with q | q
  ·exact .inl q
  ·exact .inr (zeT _ _ _ (.inl (PySem.mem_of_lookup q)))
 case cab=>
  intro x c hfn hx;have hc:sc.names.lookup x=some .cell:=by simpa[cxB]using hfn
  rcases cases_ x c hx with h | ⟨h,_⟩
  ·have:=ownge x c h;show s.heap.objs.size<=c;lia
  ·have q:=PySem.W.cellsFrom_some sc.names (s.heap.objs.size+1) [] (.inl hc);rw[h]at q;cases q
 case exf=>
  intro b hb;have hlt:=hfs b hb;refine⟨XJ hlt,λx c hx=>?_⟩;rcases cases_ x c hx with h | ⟨_,h⟩
  ·exact λz=>absurd (XQ (show c<s.heap.objs.size by rw[z];exact hlt) (Nat.le_of_succ_le (ownge x c h))) (YK _)
  ·exact(hf b hb).2.2.2.2.1 x c (old x c h)
 case noex=>
  intro b o e hb;rcases(hf b hb).2.2.2.1 with z | z
  ·exact I.ok.noex b o e z
  ·exact absurd (XQ (Xo (I.ok.bs b o e).1) z) (YK _)
 case exfs=>
  intro b hb hbf;rcases Xu.mp (I.zll b hbf)with z | z
  ·exact(hf b hb).2.1 z
  ·exact(hf b hb).2.2.1 z
 case loc=>
  refine⟨_,(Heap.Ns.new s.heap (.type "dict")).keeps (pushCells_keeps _ _),λi x v e1 e2 e3=>?_⟩;have hik:k<=i:=by
   unfold zet at e2;by_cases hik:k<=i
   ·exact hik
   ·rw[XD (by simp;lia),List.getElem?_replicate]at e2;split at e2<;>cases e2
  obtain⟨i',rfl⟩:∃i',i=k+i':=⟨i-k,by lia⟩;obtain⟨hfree,j,hj,hX⟩:=S.at' i' x e1;have e2':(σ[j]?).getD none=some v:=by
   unfold zet at e2;rw[XU (by simp)]at e2;rw[YH,show k+i'-k=i' by lia,Xk,hj]at e2;exact Option.some.inj e2
  have hσ:σ[j]? = some (some v):=by
   cases q:σ[j]? with
   | none=>rw[q]at e2';cases e2'
   | some o=>rw[q]at e2';exact congrArg some e2'
  have hk:=S.fr x (PySem.mem_of_lookup hfree);obtain⟨m,hn,hl⟩:=I.loc;obtain⟨u,r,l⟩:=hl j x v hX hσ (by rcases hk with h | h;exact .inr (.inl h);exact .inr (.inr h))
  rcases l with ⟨hloc,_⟩ | ⟨_,c,hc,hcell⟩
  ·rcases hk with h | h<;>(rw[h]at hloc;cases hloc)
  ·refine⟨u,r,.inr ⟨zew hfree,c,?_,hcell.keeps kp⟩⟩;show(cellsFrom (s.heap.objs.size+1) sc.names (zby X.env sc.names [])).lookup x=some c;have hno:(cellsFrom (s.heap.objs.size+1) sc.names []).lookup x=none:=by
    cases q:(cellsFrom (s.heap.objs.size+1) sc.names []).lookup x with
    | none=>rfl
    | some d=>
     rcases zcJ _ _ _ x d (PySem.mem_of_lookup q)with z | z
     ·cases z
     ·have:=zcS S.nm z;rw[hfree]at this;cases this
   obtain⟨d,hd⟩:=Option.isSome_iff_exists.mp (zeT (env:=X.env) sc.names [] x (.inl (PySem.mem_of_lookup hfree)));have hdc:d=c:=by
    have:=old x d hd;rw[hc]at this;exact(Option.some.inj this).symm
   rw[zbF,List.lookup_append,hno,hd,hdc];rfl
 case cell=>
  intro x c hx;rcases cases_ x c hx with h | ⟨_,h⟩
  ·exact⟨none,(cok.empty x c (PySem.mem_of_lookup h)).1⟩
  ·obtain⟨v,q⟩:=I.cell x c (old x c h);exact⟨v,q.keeps kp⟩
 case freeC=>
  intro x c hx;rcases cases_ x c hx with h | ⟨_,h⟩
  ·exact I.hok.fresh (by have:=ownge x c h;lia)
  ·exact I.freeC x c (old x c h)
 case len=>
  show(zet k js σ).length=N.length;unfold zet;rw[Xj,YH,Xb];exact S.len.symm
end
theorem zlL {prog:Program}{w:World}{A:Around}{R:Result->Shared->Prop}{s:Shared}{elt tg iter:Expr}{ifs:List Expr}{scope:Scope}{pos:Pos}{it acc:Value}{env:Env}(J:Nat->Shared->Prop)
  (turn:∀n s,J n s->wpAny (model prog w) A (pyNext it) (λr s1=>match r with
   | none=>R (.ok .next) s1
   | some v=>wpAny (model prog w) A (letOwnedTupleGo tg it v) (λ_ s2=>wpAny (model prog w) A (assign tg env v) (λ_ s3=>
     wpAny (model prog w) A (forIn ifs true λc r=>if r=true then do let ok <- isTrue c env (eval c env);pure (ForInStep.yield ok) else pure (ForInStep.yield r)) (λok s4=>
      if ok=true then wpAny (model prog w) A (eval elt env) (λx s5=>wpAny (model prog w) A (call (.builtin "list.append") [acc,x]) (λ_ s6=>∃m,m<n/\J m s6) (λ_ _=>False) s5) (λ_ _=>False) s4
      else ∃m,m<n/\J m s4) (λ_ _=>False) s3) (λ_ _=>False) s2) (λ_ _=>False) s1) (λ_ _=>False) s)
  (n:Nat) (h:J n s):codeAny (model prog w) A (.compLoop (.ListComp elt [⟨tg,iter,ifs,0⟩] scope pos) 0 it acc env) R s:=by
 refine codeAny_loop rfl J (λn s hI=>wpAny_noted (wpAny_noRaise ?_)) n h;rw[compTurn_list];refine wpAny_bind (wpAny_standAt (wpAny_bind (thn (turn n s hI) λr s1 h1=>?_)));cases r with
 | none=>exact wpAny_pure h1
 | some v=>
  refine wpAny_bind (thn h1 λ_ s2 h2=>wpAny_bind (thn h2 λ_ s3 h3=>wpAny_bind (thn h3 λok s4 h4=>?_)));cases ok with
  | false=>exact wpAny_pure ⟨rfl,by simpa using h4⟩
  | true=>
   rw[if_pos rfl]at h4;exact wpAny_bind (wpAny_bind (thn h4 λx s5 h5=>wpAny_bind (thn h5 λ_ s6 h6=>wpAny_pure (wpAny_pure ⟨rfl,h6⟩))))
theorem zlM {M:Model}{A:Around}{E:Value->Shared->Prop}{s:Shared}{sc:Scope}{globals:Addr}{clo:List (Str×Addr)}{qual:Str}{out:Env}{Q:Env->Shared->Prop}
  (h:Q { scope:=sc,locals:=s.heap.objs.size,globals:=globals,cells:=cellsFrom (s.heap.objs.size+1) sc.names clo,qual:=qual,func:=none,code:=out.code,frame:=out.frame,builtins:=out.builtins }
   {s with heap:=pushCells (s.heap.push { cls:=.type "dict",data:=.dict #[] }) sc.names }) :
  wpAny M A (newFunctionEnv sc globals clo [] qual none .none (some out)) Q E s:=by
 unfold newFunctionEnv;simp only[Option.isSome_some,if_true];refine wpAny_bind (wpAny_alloc (wpAny_bind (wpAny_layCells _ (λname kind cells=>by cases hkc:kind == NameKind.cell<;>simp[hkc]) _ _ _ _ ?_)));rw[show({ s with heap:=s.heap.push { cls:=.type "dict",data:=.dict #[] } }:Shared).heap.objs.size=s.heap.objs.size+1 from Yy ..];simp only[List.forIn_nil];exact wpAny_bind (wpAny_pure (wpAny_pure h))
noncomputable def PTs (X:Cx)(ifs:List Expr)(t:TT):Prop:=
 ∀(pins:List (Addr×Obj)) (s:Shared) (σ:St) (H:Hp) (Q:Bool->Hp->Prop),Inv X pins σ H s->t σ H Q->
  wpAny (model X.prog X.w) X.A (forIn ifs true λc r=>if r=true then do let ok <- isTrue c X.env (eval c X.env);pure (ForInStep.yield ok) else pure (ForInStep.yield r)) (TP X pins σ Q) X.xe s
noncomputable def zpW:TT:=λ_ H Q=>Q true H
theorem zpX {X:Cx}:PTs X [] zpW:=λpins s σ H Q I h=>wpAny_tests_nil ⟨H,I,h⟩
theorem zpY {X:Cx}{c:Expr}{t:TT}(h:PT X c t):PTs X [c] t:=λpins s σ H Q I q=>wpAny_tests_one (h pins s σ H Q I q)
noncomputable def zlN (J:It)(g:TG)(tt:TT)(te:TE)(l:Addr)(σb:St)(H1:Hp)(R:Hp->Prop):Prop:=
 ∃W:Nat->Nat->St->Hp->Prop,(∃m,W 0 m σb (upd H1 l (.lst [])))/\∀i m σ' H',W i m σ' H'->
  (J.stop i H'/\R H')\/(J.go i H'/\∀x H2,J.yld i H' x H2->g x σ' H2 λσ2 H3=>tt σ2 H3 λb H4=>if b=true
   then te σ2 H4 λv H5=>∃ys,H5 l=some (.lst ys)/\ys.length<sizeLine/\∃m',m'<m/\W (i+1) m' σ2 (upd H5 l (.lst (ys++[v])))
   else ∃m',m'<m/\W (i+1) m' σ2 H4)
noncomputable def zpZ (k:Nat)(js:List Nat)(wi:TI)(g:TG)(tt:TT)(te:TE):TE:=λσ H Q=>wi σ H λJ H1=>∀l,H1 l=none->zlN J g tt te l (zet k js σ) H1 λH'=>Q (.ref l) H'
section
variable {X:Cx}{elt tg iter:Expr}{ifs:List Expr}{sc:Scope}{pos:Pos}{N:List Str}{k:Nat}{js:List Nat}{wi:TI}{g:TG}{tt:TT}{te:TE}
structure Blk (X:Cx)(N:List Str)(sc:Scope)(tg:Expr)(ifs:List Expr)(elt:Expr)(g:TG)(tt:TT)(te:TE):Prop where
 tgt:∀C cells fp s H,PG (cxB X N sc C cells fp s H) tg g
 tst:∀C cells fp s H,PTs (cxB X N sc C cells fp s H) ifs tt
 val:∀C cells fp s H,PE (cxB X N sc C cells fp s H) elt te
noncomputable def After (X:Cx)(pins:List (Addr×Obj))(σ:St)(R:Addr->Hp->Prop)(acc:Value)(C:Addr)(s':Shared):Prop:=
 ∃(l:Addr) (H':Hp) (m:Str->Option Value),acc=.ref l/\Inv X pins σ H' s'/\s'.heap.Ns C m/\FpOk X pins H' C/\R l H'
theorem zjv {pins:List (Addr×Obj)}{σ:St}{H:Hp}{s:Shared}{R:Addr->Hp->Prop}(hc:X.calm=true)(S:zdp X N k js sc)(hi:PI X tg iter wi)(B:Blk X N sc tg ifs elt g tt te)(I:Inv X pins σ H s)
  (h:wi σ H λJ H1=>∀l,H1 l=none->zlN J g tt te l (zet k js σ) H1 (R l)) :
  wpAny (model X.prog X.w) X.A (eval iter X.env) (λx s1=>wpAny (model X.prog X.w) X.A (pyIter x) (λit s2=>wpAny (model X.prog X.w) X.A (newList []) (λacc s3=>
   wpAny (model X.prog X.w) X.A (newFunctionEnv sc X.env.globals (zby X.env sc.names []) [] X.env.qual none .none (some X.env)) (λcenv s4=>
    codeAny (model X.prog X.w) X.A (.compStart (.ListComp elt [⟨tg,iter,ifs,0⟩] sc pos) 0 it acc { cenv with scope:=relabel sc X.env })
     (λr s'=>match r with | .ok _=>After X pins σ R acc cenv.locals s' | .error _=>False) s4) X.xe s3) X.xe s2) X.xe s1) X.xe s:=by
 refine thn (hi pins s σ H _ I h) λv s1 h1=>thn h1 λitv s2 h2=>?_;obtain⟨it,fp,tn,J,H2,e,I2,T,st2,f2,hq⟩:=h2;subst e;have hl:H2 s2.heap.objs.size=none:=I2.fresh;have fplt:∀b∈fp,b<s2.heap.objs.size:=λb hb=>by
  obtain⟨o,e,_⟩:=T.obj 0 _ st2 b hb;exact Xo e
 obtain⟨W,⟨m0,w0⟩,turn⟩:=hq _ hl;refine wpAny_newList ?_;have I3:Inv X pins σ (upd H2 s2.heap.objs.size (.lst [])) { s2 with heap:=s2.heap.push { cls:=.type "list",data:=.seq ([]:List Value).toArray } }:=I2.lnew (its:=[]) (t':=s2.toks) .nil (XT _);have u3:Un (frs X.stack) fp H2 (upd H2 s2.heap.objs.size (.lst [])) s2.heap (s2.heap.push { cls:=.type "list",data:=.seq ([]:List Value).toArray }):=Un.laid (λb o e=>Xe _ e) (Xi _) hl;have hz3:(s2.heap.push { cls:=.type "list",data:=.seq ([]:List Value).toArray }).objs.size=s2.heap.objs.size+1:=Yy ..;have kp3:∀b o,s2.heap.get? b=some o->(s2.heap.push { cls:=.type "list",data:=.seq ([]:List Value).toArray }).get? b=some o:=λb o e=>Xe _ e;have fpn:∀b∈fp,upd H2 s2.heap.objs.size (.lst []) b=none:=λb hb=>by
  rw[zaj (XJ (fplt b hb))];exact(f2 b hb).1
 generalize hl0:s2.heap.objs.size=l at hl I3 u3 hz3 kp3 fpn w0 turn ⊢;rw[hl0]at fplt;generalize s2.heap.push { cls:=.type "list",data:=.seq ([]:List Value).toArray }=h3 at I3 u3 hz3 kp3 ⊢;generalize upd H2 l (.lst [])=H3 at I3 u3 fpn w0;have f3:∀b∈fp,FpOk X pins H3 b:=λb hb=>⟨fpn b hb,(f2 b hb).2⟩;have I4:=I3.block S f3 (λb hb=>by show b<h3.objs.size;rw[hz3];exact Nat.lt_succ_of_lt (fplt b hb));have kp4:∀b o,s2.heap.get? b=some o->(pushCells (h3.push { cls:=.type "dict",data:=.dict #[] }) sc.names).get? b=some o:=λb o e=>pushCells_keeps _ _ b o (Xe _ (kp3 b o e));refine zlM ?_;have st4:tn 0 (pushCells (h3.push { cls:=.type "dict",data:=.dict #[] }) sc.names):=T.keep 0 _ _ st2 λb _ o e=>kp4 b o e;have stat:∀ {H':Hp},(∀b∈fp,H' b=none)->∀b∈fp,FpOk (cxB X N sc h3.objs.size (cellsFrom (h3.objs.size+1) sc.names (zby X.env sc.names [])) fp { s2 with heap:=h3 } H3) [] H' b:=λhn b hb=>
  ⟨hn b hb,(I4.ok.exf b hb).1,I4.ok.exfs b hb,.inl hb,(I4.ok.exf b hb).2,λp hp=>absurd (show p∈([]:List (Addr×Obj)) from hp) (by simp)⟩
 generalize hY:cxB X N sc h3.objs.size (cellsFrom (h3.objs.size+1) sc.names (zby X.env sc.names [])) fp { s2 with heap:=h3 } H3=Y at I4 stat;have loop:codeAny (model X.prog X.w) X.A (.compLoop (.ListComp elt [⟨tg,iter,ifs,0⟩] sc pos) 0 (.ref it) (.ref l) Y.env)
   (λr s'=>match r with | .ok _=>After X pins σ R (.ref l) h3.objs.size s' | .error _=>False) { s2 with heap:=pushCells (h3.push { cls:=.type "dict",data:=.dict #[] }) sc.names }:=by
  subst hY;refine zlL (λn s'=>∃i σ' H',Inv (cxB X N sc h3.objs.size (cellsFrom (h3.objs.size+1) sc.names (zby X.env sc.names [])) fp { s2 with heap:=h3 } H3) [] σ' H' s'/\tn i s'.heap/\(∀b∈fp,H' b=none)/\W i n σ' H') ?_ m0
   ⟨0,zet k js σ,H3,I4,st4,fpn,w0⟩
  rintro n s5 ⟨i,σ5,H5,I5,st5,fr5,w5⟩;rcases turn i n σ5 H5 w5 with ⟨stop,qn⟩ | ⟨go,step⟩
  ·refine thn (T.done (cxB X N sc h3.objs.size (cellsFrom (h3.objs.size+1) sc.names (zby X.env sc.names [])) fp { s2 with heap:=h3 } H3) rfl rfl rfl hc i [] s5 σ5 H5 (λ_ _=>False) I5 (stat fr5) st5 stop) λr s6 q61q=>?_;obtain⟨hr,I6⟩:=q61q;subst hr;obtain⟨m6,hn6,_⟩:=id I6.loc;have IX:Inv X pins σ H5 s6:=I2.call' (ch:=fp) I6.os (u3.trans I6.base) I6.hok I6.bare λb hb=>⟨(f2 b hb).2.2.2.1,(f2 b hb).2.1,(f2 b hb).2.2.2.2.1,(f2 b hb).2.2.2.2.2⟩;exact⟨l,H5,m6,rfl,IX,hn6,I2.fpOk (by show s2.heap.objs.size<=h3.objs.size;rw[hz3,hl0];exact YN _) I6.free,qn⟩
  ·refine thn (T.item (cxB X N sc h3.objs.size (cellsFrom (h3.objs.size+1) sc.names (zby X.env sc.names [])) fp { s2 with heap:=h3 } H3) rfl rfl rfl hc i [] s5 σ5 H5 (λ_ _=>False) I5 (stat fr5) st5 go) λr s6 q62q=>?_;obtain⟨u,hr,h6⟩:=q62q;subst hr;refine thn h6 λ_ s7 q63q=>?_;obtain⟨x,H7,I7,r7,y7,st7,fr7⟩:=q63q;have I7':=I7.pinned (stat fr7) (T.obj _ _ st7);refine thn (B.tgt _ _ _ _ _ _ s7 σ5 H7 x u _ I7' r7 (step x H7 y7)) λ_ s8 q64q=>?_;obtain⟨σ8,H8,I8,q8⟩:=q64q;refine thn (B.tst _ _ _ _ _ _ s8 σ8 H8 _ I8 q8) λok s9 q65q=>?_;obtain⟨H9,I9,q9⟩:=q65q;have kept:∀ {σ':St} {H':Hp} {s':Shared},Inv (cxB X N sc h3.objs.size (cellsFrom (h3.objs.size+1) sc.names (zby X.env sc.names [])) fp { s2 with heap:=h3 } H3) ([]++zhx fp s7.heap) σ' H' s'->tn (i+1) s'.heap/\∀b∈fp,H' b=none:=λ{σ' H' s'} I'=>
    ⟨T.keep _ _ _ st7 λb hb o e=>(I'.pin (b,o) (Ye _ (Ye _ (zdS hb e)))).1,λb hb=>by
     obtain⟨o,e,_⟩:=T.obj _ _ st7 b hb;exact(I'.pin (b,o) (Ye _ (Ye _ (zdS hb e)))).2.1⟩
   cases ok with
   | false=>
    rw[if_neg Xs]at q9;rw[if_neg Xs];obtain⟨m',hm,w9⟩:=q9;exact⟨m',hm,i+1,σ8,H9,I9.zep,(kept I9).1,(kept I9).2,w9⟩
   | true=>
    rw[if_pos rfl]at q9;rw[if_pos rfl];refine thn (B.val _ _ _ _ _ _ s9 σ8 H9 _ I9 q9) λu10 s10 q66q=>?_;obtain⟨y,H10,I10,r10,ys,hys,hlen,m',hm,w10⟩:=q66q;refine thn (zfK _ s10 σ8 H10 (.ref l) [y] (.ref l) [u10] (λ_ H'=>H'=upd H10 l (.lst (ys++[y]))) I10 rfl (.cons r10 .nil) ⟨l,ys,y,rfl,rfl,hys,hlen,rfl⟩) λ_ s11 q67q=>?_;obtain⟨_,H11,I11,_,e11⟩:=q67q;subst e11;exact⟨m',hm,i+1,σ8,_,I11.zep,(kept I11).1,(kept I11).2,w10⟩
 subst hY;exact codeAny_compStart_list loop (T.self X.A 0 _ _ _ st4 loop)
theorem zgu {X:Cx}(S:zdp X N k js sc):∀x∈sc.names,x.2=.local->sc.names.lookup x.1=some .local:=λx hx hl=>zcS S.nm (by rw[<- hl];exact hx)
theorem zqa (hc:X.calm=true)(S:zdp X N k js sc)(hi:PI X tg iter wi)(B:Blk X N sc tg ifs elt g tt te)(hs:autoParam (∀x,foldedSetIterable iter X.env x=pure x) aU3) :
  PE X (.ListComp elt [⟨tg,iter,ifs,0⟩] sc pos) (zpZ k js wi g tt te):=by
 intro pins s σ H Q I h;rw[eval_ListComp];refine wpAny_comprehension_free (use:=none) rfl hs (zlK λn hn=>I.ok.has n (S.fr n hn)) S.kind (zgu S) ?_;refine thn (zjv (pos:=pos) (R:=λl H'=>Q (.ref l) H') hc S hi B I h) λx s1 h1=>thn h1 λit s2 h2=>thn h2 λacc s3 h3=>thn h3 λcenv s4 h4=>codeAny_mono h4 λr s' hr=>?_;cases r with
 | error e=>exact False.elim hr
 | ok f=>
  obtain⟨l,H',m,rfl,I',hn,⟨f0,f1,f2,f3,f4,f5⟩,q⟩:=hr;exact⟨m,hn,λh' sb=>⟨.ref l,H',I'.turned (t':=s'.toks) (λb o hb e=>sb.extBut b o hb e) f0 f1 f3 f4 f5,rfl,q⟩⟩
theorem zqb {i:Nat}{x:Str}{pos' pos2:Pos}(hc:X.calm=true)(S:zdp X N k js sc)(hi:PI X tg iter wi)(B:Blk X N sc tg ifs elt g tt te)(hN:X.N.Nodup)(hx:X.N[i]? = some x)(hk:X.env.scope.names.lookup x=some .local)
  (hsw:autoParam (swapsWith (.ListComp elt [⟨tg,iter,ifs,0⟩] sc pos) (some (.Name x pos')) pos2.line X.env=pure true) aU0) (hs:autoParam (∀x,foldedSetIterable iter X.env x=pure x) aU3) :
  PS X (.Assign [.Name x pos'] (.ListComp elt [⟨tg,iter,ifs,0⟩] sc pos) pos2) (tAsg (zpZ k js wi g tt te) (znD i)):=by
 intro pins s σ H D I h;rw[exec_Assign_Name_used _ _ _ _ hsw];refine wpAny_bind (wpAny_standAt (wpAny_bind ?_));show wpAny _ X.A (do let _ <- comprehension (.ListComp elt [⟨tg,iter,ifs,0⟩] sc pos) sc X.env _ (newList []) false (eval iter X.env) (some (assign (.Name x pos') X.env))) _ _ s
 refine wpAny_bind (thn (wpAny_comprehension_free (use:=some (assign (.Name x pos') X.env)) (Q:=λ_ s'=>SP X pins D .next s') rfl hs (zlK λn hn=>I.ok.has n (S.fr n hn)) S.kind (zgu S) ?_) λ_ s' hq=>wpAny_pure (wpAny_pure hq))
 refine thn (zjv (pos:=pos) (R:=λl H'=>D.nx (σ.set i (some (.ref l))) H') hc S hi B I h) λy s1 h1=>thn h1 λit s2 h2=>thn h2 λacc s3 h3=>thn h3 λcenv s4 h4=>codeAny_mono h4 λr s' hr=>?_;cases r with
 | error e=>exact False.elim hr
 | ok f=>
  obtain⟨l,H',m,rfl,I',hn,⟨f0,f1,f2,f3,f4,f5⟩,q⟩:=hr;refine wpAny_assign_Name (zhv I' hN hx (.inl hk) (show RelV (.ref l) (.ref l) from rfl) (λs'' I'' q68q=>?_) (.inr hk));obtain⟨a,sb,ha⟩:=q68q;have ne:cenv.locals≠a:=by
   rcases ha with z | z
   ·rw[z];exact f1
   ·exact λw=>f4 x a z w.symm
  exact⟨m,hn.sameBut sb ne,λh' sb'=>⟨_,H',I''.turned (t':=s''.toks) (λb o hb e=>sb'.extBut b o hb e) f0 f1 f3 f4 f5,q⟩⟩
end
end L2
namespace JS
open PySem
noncomputable def Asc (xs:Array Nat):Prop:=xs.toList.Pairwise (· < ·)
end JS
namespace L2
open PySem PySem.Spec PyProof.Rows
inductive D where
 | non | int (i:Int) | str (x:Str) | tup (ds:List D)
noncomputable instance:DecidableEq D:=λ_ _=>Classical.propDecidable _
mutual
noncomputable def Den (H:Hp):D->V->Prop
 | .non,v=>v=.non
 | .int i,v=>v=.int i
 | .str x,v=>v=.str x
 | .tup ds,v=>∃a xs,v=.ref a/\H a=some (.tup xs)/\DenL H ds xs
noncomputable def DenL (H:Hp):List D->List V->Prop
 | [],xs=>xs=[]
 | d::ds,xs=>∃v r,xs=v::r/\Den H d v/\DenL H ds r
end
noncomputable def zrY (H H':Hp):Prop:=∀b xs,H b=some (.tup xs)->H' b=some (.tup xs)
mutual
theorem Den.mono {H H':Hp}(s:zrY H H'):∀(d:D)(v:V),Den H d v->Den H' d v
 | .non,v,h=>by unfold Den at h ⊢;exact h
 | .int i,v,h=>by unfold Den at h ⊢;exact h
 | .str x,v,h=>by unfold Den at h ⊢;exact h
 | .tup ds,v,h=>by
  unfold Den at h ⊢;obtain⟨a,xs,e,h1,h2⟩:=h;exact⟨a,xs,e,s a xs h1,DenL.mono s ds xs h2⟩
theorem DenL.mono {H H':Hp}(s:zrY H H'):∀(ds:List D)(xs:List V),DenL H ds xs->DenL H' ds xs
 | [],xs,h=>by unfold DenL at h ⊢;exact h
 | d::ds,xs,h=>by
  unfold DenL at h ⊢;obtain⟨v,r,e,h1,h2⟩:=h;exact⟨v,r,e,Den.mono s d v h1,DenL.mono s ds r h2⟩
end
mutual
theorem Den.inj {H:Hp}:∀(d e:D)(v:V),Den H d v->Den H e v->d=e
 | .non,e,v,h,g=>by
  unfold Den at h;subst h;cases e<;>unfold Den at g
  ·rfl
  ·cases g
  ·cases g
  ·obtain⟨a,xs,z,_⟩:=g;cases z
 | .int i,e,v,h,g=>by
  unfold Den at h;subst h;cases e<;>unfold Den at g
  ·cases g
  ·injection g with g;rw[g]
  ·cases g
  ·obtain⟨a,xs,z,_⟩:=g;cases z
 | .str x,e,v,h,g=>by
  unfold Den at h;subst h;cases e<;>unfold Den at g
  ·cases g
  ·cases g
  ·injection g with g;rw[g]
  ·obtain⟨a,xs,z,_⟩:=g;cases z
 | .tup ds,e,v,h,g=>by
  unfold Den at h;obtain⟨a,xs,z,h1,h2⟩:=h;subst z;cases e<;>unfold Den at g
  ·cases g
  ·cases g
  ·cases g
  ·obtain⟨b,ys,z,g1,g2⟩:=g;cases z;rw[h1]at g1;cases g1;rw[DenL.inj ds _ xs h2 g2]
theorem DenL.inj {H:Hp}:∀(ds es:List D)(xs:List V),DenL H ds xs->DenL H es xs->ds=es
 | [],es,xs,h,g=>by
  unfold DenL at h;subst h;cases es with
  | nil=>rfl
  | cons e es=>unfold DenL at g;obtain⟨v,r,z,_⟩:=g;cases z
 | d::ds,es,xs,h,g=>by
  unfold DenL at h;obtain⟨v,r,z,h1,h2⟩:=h;subst z;cases es with
  | nil=>unfold DenL at g;cases g
  | cons e es=>
   unfold DenL at g;obtain⟨v',r',z,g1,g2⟩:=g;cases z;rw[Den.inj d e v h1 g1,DenL.inj ds es r h2 g2]
end
mutual
noncomputable def Cmp:D->D->Prop
 | .non,e=>e=.non
 | .int _,e=>∃j,e=.int j
 | .str _,e=>∃y,e=.str y
 | .tup ds,e=>∃es,e=.tup es/\CmpL ds es
noncomputable def CmpL:List D->List D->Prop
 | [],_=>True
 | d::ds,es=>∀e r,es=e::r->Cmp d e/\CmpL ds r
end
mutual
noncomputable def dep:D->Nat
 | .tup ds=>depL ds+1
 | _=>0
noncomputable def depL:List D->Nat
 | []=>0
 | d::ds=>max (dep d) (depL ds)
end
end L2
namespace L2
open PySem PySem.Spec PyProof.Rows
section
variable {X:Cx}
theorem zkL {ss:List Str}:∀ {its:List Value},Vals (ss.map V.str) its->StrsAre its ss:=by
 induction ss with
 | nil=>intro its r;cases r;exact .nil
 | cons x ss ih=>
  intro its r;cases r with
  | cons r1 r2=>
   obtain⟨t,rfl⟩:=(show ∃t,_=Value.str x t from r1);exact .cons x t (ih r2)
theorem zlO {ss:List Str}:∀ {its:List Value},StrsAre its ss->Vals (ss.map V.str) its:=by
 induction ss with
 | nil=>intro its r;cases r;exact .nil
 | cons x ss ih=>
  intro its r;cases r with
  | cons _ t r2=>exact .cons ⟨t,rfl⟩ (ih r2)
noncomputable def tRev (K:Xa)(te:TE):TE:=λσ H Q=>te σ H λx H1=>∃(a:Addr)(xs:List V),x=.ref a/\SqL K H1 a xs/\∀p,H1 p=none->Q (.ref p) (upd H1 p (.lst xs.reverse))
theorem zrZ {e:Expr}{te:TE}{j:Nat}{p1 p2 p3 pos:Pos}(he:PE X e te):PE X (.Subscript e (.Slice none none (some (.UnaryOp .USub (.Constant (.int 1) j p1) p2)) p3) pos) (tRev X.K te):=by
 intro pins s σ H Q I h;refine Subscript_ (thn (he pins s σ H _ I h) λv s1 q69q=>?_);obtain⟨x,H1,I1,r1,q1⟩:=q69q;obtain⟨a,xs,rfl,hx,q⟩:=q1;cases r1;refine wpAny_Slice ?_;rw[evalPart_none,evalPart_some];refine wpAny_pure (wpAny_pure ?_);refine thn (zrz zoY zoW pins s1 σ H1 (λy H2=>y=.int (-1)/\H2=H1) I1 ⟨1,rfl,rfl,rfl⟩) λst s2 q70q=>?_;obtain⟨y,H2,I2,r2,ey,eH⟩:=q70q;subst ey eH;obtain⟨t,rfl⟩:=r2;have I3:Inv X pins σ H2 { s2 with heap:=s2.heap.push { cls:=.type "slice",data:=.fields #[.none,.none,.int (-1) t] } }:=I2.kept (t':=s2.toks) λb ob q=>Xe _ q;obtain⟨its,r,ht,hz⟩:=I3.list hx;have hlen:=r.length;refine tail_any (ops:=[.ref a,.ref s2.heap.objs.size]) ht.isList.typeIs slot_list_getitem.lookup ?_ (by with_unfolding_all rfl);refine wpAny_getItem_list_slice ht.isList (Heap.IsSliceOf.new ..) .none .none (.int (-1) t) (by decide) ?_ (by rw[Xm];lia);rw[PySem.W.krv_pick];refine⟨.ref _,_,I3.laid (t':=s2.toks) (o:=.lst xs.reverse) (λb ob q=>Xe _ q) (Xi _) ?_,rfl,q _ (I3.hok.fresh (Xi _))⟩;exact⟨by rw[Xx];exact hz,its.reverse,0,r.reverse,XC _ rfl⟩
theorem zkM:zdo X (.builtin "sorted") (λxs H Q=>∃(p:Addr) (ss:List Str),xs=[.ref p]/\SqL X.K H p (ss.map V.str)/\ss.length<64/\∀l zs,H l=none->zs.Perm ss->sortedS zs=true->Q (.ref l) (upd H l (.lst (zs.map V.str)))):=by
 intro pins s σ H xs us Q I r h;obtain⟨p,ss,rfl,hp,h64,q⟩:=h;obtain⟨u,rfl,rx⟩:=vals1 r;cases rx;obtain⟨its,r,ht,hz⟩:=I.list hp;have hlen:=r.length;rw[Xb]at hlen;refine sorted_strs ht.isList (zkL r) (by lia) λout ss' a1 a2 a3=>?_;obtain⟨e,he⟩:=sortedAll_at s.heap its out;have kp:∀b o,s.heap.get? b=some o->(sortedAll s.heap its out).get? b=some o:=λ_ _=>sortedAll_old;have hl2:ss'.length=ss.length:=a2.length_eq;refine⟨.ref (s.heap.objs.size+1),_,I.laid (t':=s.toks) (o:=.lst (ss'.map V.str)) kp (YN _) ?_,rfl,q _ ss' (I.hok.fresh (YN _)) a2 a3⟩;exact⟨by rw[Xb,hl2];rw[Xb]at hz;exact hz,out.toList,e,zlO a1,by rw[Array.toArray_toList];exact he⟩
end
noncomputable def zsa (K:Xa):List V->Hp->VK->Prop:=λxs H Q=>∃p ys,xs=[.ref p]/\((SqL K H p ys/\∀l,H l=none->Q (.ref l) (upd H l (.tup ys)))\/(SqT K H p ys/\Q (.ref p) H))
noncomputable def zqc (K:Xa):List V->Hp->VK->Prop:=λxs H Q=>∃p ys,xs=[.ref p]/\(SqL K H p ys\/SqT K H p ys)/\∀l,H l=none->Q (.ref l) (upd H l (.lst ys))
end L2
namespace PL
open PySem PySem.Spec L2
open PyProof.Rows hiding St
inductive PV where
 | non | bl (b:Bool) | int (i:Int) | str (x:Str) | ty (n:String)
 | tup (ds:List PV) | lst (ds:List PV) | dK (ks:List Key) (ds:List PV) | dT (ks:List (List Key)) (ds:List PV)
  | obj (C:Addr) (ks:List Str) (ds:List PV)
noncomputable instance:DecidableEq PV:=λ_ _=>Classical.propDecidable _
noncomputable abbrev FZ:=Addr->Prop
noncomputable def KX (K:Xa)(a:Addr)(xs:List V):Prop:=∃(its:Array Value)(n:Nat),K.lookup a=some { cls:=.type "list",data:=.seq its n }/\its.size<=sizeLine/\Vals xs its.toList
theorem KX.sq {K:Xa}{H:Hp}{a:Addr}{xs:List V}(h:KX K a xs):SqL K H a xs:=by obtain⟨its,n,h1,h2,h3⟩:=h;exact .inr ⟨_,its,n,h1,rfl,rfl,rfl,h2,h3⟩
mutual
noncomputable def Den (K:Xa)(Fz:FZ)(H:Hp):PV->V->Prop
 | .non,v=>v=.non
 | .bl b,v=>v=.bl b
 | .int i,v=>v=.int i
 | .str x,v=>v=.str x
 | .ty n,v=>v=.ty n
 | .tup ds,v=>∃a xs,v=.ref a/\H a=some (.tup xs)/\DenL K Fz H ds xs
 | .lst ds,v=>∃a xs,v=.ref a/\((Fz a/\Rd H a (.lst xs))\/KX K a xs)/\DenL K Fz H ds xs
 | .dK ks ds,v=>∃a xs,v=.ref a/\Fz a/\Rd H a (.dK (ks.zip xs))/\ks.length=xs.length/\DenL K Fz H ds xs
 | .dT ks ds,v=>∃a xs,v=.ref a/\Fz a/\Rd H a (.dT (ks.zip xs))/\ks.length=xs.length/\DenL K Fz H ds xs
 | .obj C ks ds,v=>∃a dx xs,v=.ref a/\Fz a/\H a=some (.ins C dx (ks.zip xs))/\ks.length=xs.length/\DenL K Fz H ds xs
noncomputable def DenL (K:Xa)(Fz:FZ)(H:Hp):List PV->List V->Prop
 | [],xs=>xs=[]
 | d::ds,xs=>∃v r,xs=v::r/\Den K Fz H d v/\DenL K Fz H ds r
end
noncomputable def Root (K:Xa)(Fz:FZ)(H:Hp):PV->V->Prop
 | .lst ds,v=>∃a xs,v=.ref a/\(Rd H a (.lst xs)\/KX K a xs)/\DenL K Fz H ds xs
 | .dK ks ds,v=>∃a xs,v=.ref a/\Rd H a (.dK (ks.zip xs))/\ks.length=xs.length/\DenL K Fz H ds xs
 | .dT ks ds,v=>∃a xs,v=.ref a/\Rd H a (.dT (ks.zip xs))/\ks.length=xs.length/\DenL K Fz H ds xs
 | d,v=>Den K Fz H d v
noncomputable def Own (K:Xa)(Fz:FZ)(H:Hp):PV->Addr->Prop
 | .lst ds,a=>∃xs,H a=some (.lst xs)/\DenL K Fz H ds xs
 | .dK ks ds,a=>∃xs,H a=some (.dK (ks.zip xs))/\ks.length=xs.length/\DenL K Fz H ds xs
 | .dT ks ds,a=>∃xs,H a=some (.dT (ks.zip xs))/\ks.length=xs.length/\DenL K Fz H ds xs
 | _,_=>False
noncomputable def Imm:HO->Prop
 | .tup _=>True
 | .frz _ _=>True
 | _=>False
noncomputable def Pl:HO->Prop
 | .lst _=>True
 | .tup _=>True
 | .dK _=>True
 | .dT _=>True
 | _=>False
structure Keep (Fz:FZ)(H H':Hp):Prop where
 rd':∀b u,Pl u->Fz b->Rd H b u->Rd H' b u
 tup:∀b xs,H b=some (.tup xs)->H' b=some (.tup xs)
 ins:∀b C dx fs,Fz b->H b=some (.ins C dx fs)->H' b=some (.ins C dx fs)
noncomputable def zhH (Fz:FZ)(H H':Hp):Prop:=∀b o,H b=some o->(Fz b\/Imm o)->H' b=some o
theorem Keep.mk' {Fz:FZ}{H H':Hp}(h:zhH Fz H H'):Keep Fz H H':=
 ⟨λb u _ f r=>by
  rcases r with r | ⟨o,r⟩
  ·exact .inl (h b _ r (.inl f))
  ·exact .inr ⟨o,h b _ r (.inl f)⟩,λb xs r=>h b _ r (.inr trivial),λb C dx fs f r=>h b _ r (.inl f)⟩
theorem Keep.of {Fz:FZ}{H H':Hp}(h:Same H H'):Keep Fz H H':=.mk' λb o e _=>h b o e
theorem Keep.rd {Fz:FZ}{H H':Hp}(k:Keep Fz H H'){a:Addr}{u:HO}(pl:Pl u)(hf:Fz a)(h:Rd H a u):Rd H' a u:=k.rd' a u pl hf h
theorem Keep.sqT {K:Xa}{Fz:FZ}{H H':Hp}(k:Keep Fz H H'){a:Addr}{xs:List V}(h:H a=some (.tup xs)):SqT K H' a xs:=SqT.of (k.tup a xs h)
section
variable {K:Xa}{Fz Fz':FZ}{H H':Hp}
mutual
theorem Den.mono (k:Keep Fz H H')(s:∀b,Fz b->Fz' b):∀(d:PV)(v:V),Den K Fz H d v->Den K Fz' H' d v
 | .non,v,h=>by simpa only[Den]using h
 | .bl b,v,h=>by simpa only[Den]using h
 | .int i,v,h=>by simpa only[Den]using h
 | .str x,v,h=>by simpa only[Den]using h
 | .ty n,v,h=>by simpa only[Den]using h
 | .tup ds,v,h=>by
  simp only[Den]at h ⊢;obtain⟨a,xs,e,h1,h2⟩:=h;exact⟨a,xs,e,k.tup a xs h1,DenL.mono k s ds xs h2⟩
 | .lst ds,v,h=>by
  simp only[Den]at h ⊢;obtain⟨a,xs,e,h1,h2⟩:=h;refine⟨a,xs,e,?_,DenL.mono k s ds xs h2⟩;rcases h1 with ⟨f,h1⟩ | h1
  ·exact .inl ⟨s a f,k.rd trivial f h1⟩
  ·exact .inr h1
 | .dK ks ds,v,h=>by
  simp only[Den]at h ⊢;obtain⟨a,xs,e,f,h1,h2,h3⟩:=h;exact⟨a,xs,e,s a f,k.rd trivial f h1,h2,DenL.mono k s ds xs h3⟩
 | .dT ks ds,v,h=>by
  simp only[Den]at h ⊢;obtain⟨a,xs,e,f,h1,h2,h3⟩:=h;exact⟨a,xs,e,s a f,k.rd trivial f h1,h2,DenL.mono k s ds xs h3⟩
 | .obj C ks ds,v,h=>by
  simp only[Den]at h ⊢;obtain⟨a,dx,xs,e,f,h1,h2,h3⟩:=h;exact⟨a,dx,xs,e,s a f,k.ins a _ _ _ f h1,h2,DenL.mono k s ds xs h3⟩
theorem DenL.mono (k:Keep Fz H H')(s:∀b,Fz b->Fz' b):∀(ds:List PV)(xs:List V),DenL K Fz H ds xs->DenL K Fz' H' ds xs
 | [],xs,h=>by simpa only[DenL]using h
 | d::ds,xs,h=>by
  simp only[DenL]at h ⊢;obtain⟨v,r,e,h1,h2⟩:=h;exact⟨v,r,e,Den.mono k s d v h1,DenL.mono k s ds r h2⟩
end
theorem Den.root {d:PV}{v:V}(h:Den K Fz H d v):Root K Fz H d v:=by
 cases d with
 | lst ds=>
  simp only[Den]at h;obtain⟨a,xs,e,h1,h2⟩:=h;refine⟨a,xs,e,?_,h2⟩;rcases h1 with ⟨f,h1⟩ | h1
  ·exact .inl h1
  ·exact .inr h1
 | dK ks ds=>
  simp only[Den]at h;obtain⟨a,xs,e,_,h1,h2⟩:=h;exact⟨a,xs,e,h1,h2⟩
 | dT ks ds=>
  simp only[Den]at h;obtain⟨a,xs,e,_,h1,h2⟩:=h;exact⟨a,xs,e,h1,h2⟩
 | non=>exact h
 | bl b=>exact h
 | int i=>exact h
 | str x=>exact h
 | ty n=>exact h
 | tup ds=>exact h
 | obj C ks ds=>exact h
theorem Own.root {d:PV}{a:Addr}(h:Own K Fz H d a):Root K Fz H d (.ref a):=by
 cases d with
 | lst ds=>obtain⟨xs,h1,h2⟩:=h;exact⟨a,xs,rfl,.inl (.inl h1),h2⟩
 | dK ks ds=>obtain⟨xs,h1,h2⟩:=h;exact⟨a,xs,rfl,.inl h1,h2⟩
 | dT ks ds=>obtain⟨xs,h1,h2⟩:=h;exact⟨a,xs,rfl,.inl h1,h2⟩
 | non=>exact h.elim
 | bl b=>exact h.elim
 | int i=>exact h.elim
 | str x=>exact h.elim
 | ty n=>exact h.elim
 | tup ds=>exact h.elim
 | obj C ks ds=>exact h.elim
theorem Own.den {d:PV}{a:Addr}(h:Own K Fz H d a)(f:Fz a):Den K Fz H d (.ref a):=by
 cases d with
 | lst ds=>obtain⟨xs,h1,h2⟩:=h;simp only[Den];exact⟨a,xs,rfl,.inl ⟨f,.inl h1⟩,h2⟩
 | dK ks ds=>obtain⟨xs,h1,h2⟩:=h;simp only[Den];exact⟨a,xs,rfl,f,.inl h1,h2⟩
 | dT ks ds=>obtain⟨xs,h1,h2⟩:=h;simp only[Den];exact⟨a,xs,rfl,f,.inl h1,h2⟩
 | non=>exact h.elim
 | bl b=>exact h.elim
 | int i=>exact h.elim
 | str x=>exact h.elim
 | ty n=>exact h.elim
 | tup ds=>exact h.elim
 | obj C ks ds=>exact h.elim
theorem Own.at {d:PV}{a:Addr}(h:Own K Fz H d a):∃o,H a=some o/\¬ Imm o:=by
 cases d with
 | lst ds=>obtain⟨xs,h1,h2⟩:=h;exact⟨_,h1,λz=>z⟩
 | dK ks ds=>obtain⟨xs,h1,h2⟩:=h;exact⟨_,h1,λz=>z⟩
 | dT ks ds=>obtain⟨xs,h1,h2⟩:=h;exact⟨_,h1,λz=>z⟩
 | non=>exact h.elim
 | bl b=>exact h.elim
 | int i=>exact h.elim
 | str x=>exact h.elim
 | ty n=>exact h.elim
 | tup ds=>exact h.elim
 | obj C ks ds=>exact h.elim
theorem Own.mono {d:PV}{a:Addr}(k:Keep Fz H H')(s:∀b,Fz b->Fz' b)(ha:∀o,H a=some o->H' a=some o)(h:Own K Fz H d a):Own K Fz' H' d a:=by
 cases d with
 | lst ds=>obtain⟨xs,h1,h2⟩:=h;exact⟨xs,ha _ h1,DenL.mono k s _ _ h2⟩
 | dK ks ds=>obtain⟨xs,h1,h2,h3⟩:=h;exact⟨xs,ha _ h1,h2,DenL.mono k s _ _ h3⟩
 | dT ks ds=>obtain⟨xs,h1,h2,h3⟩:=h;exact⟨xs,ha _ h1,h2,DenL.mono k s _ _ h3⟩
 | non=>exact h.elim
 | bl b=>exact h.elim
 | int i=>exact h.elim
 | str x=>exact h.elim
 | ty n=>exact h.elim
 | tup ds=>exact h.elim
 | obj C ks ds=>exact h.elim
theorem Root.mono {d:PV}{v:V}(k:Same H H')(s:∀b,Fz b->Fz' b)(h:Root K Fz H d v):Root K Fz' H' d v:=by
 have rd:∀ {a u},Rd H a u->Rd H' a u:=λ{a u} q=>by
  rcases q with q | ⟨o,q⟩
  ·exact .inl (k _ _ q)
  ·exact .inr ⟨o,k _ _ q⟩
 cases d with
 | lst ds=>obtain⟨a,xs,e,h1,h2⟩:=h;exact⟨a,xs,e,h1.imp rd id,DenL.mono (.of k) s _ _ h2⟩
 | dK ks ds=>obtain⟨a,xs,e,h1,h2,h3⟩:=h;exact⟨a,xs,e,rd h1,h2,DenL.mono (.of k) s _ _ h3⟩
 | dT ks ds=>obtain⟨a,xs,e,h1,h2,h3⟩:=h;exact⟨a,xs,e,rd h1,h2,DenL.mono (.of k) s _ _ h3⟩
 | non=>exact Den.mono (.of k) s _ _ h
 | bl b=>exact Den.mono (.of k) s _ _ h
 | int i=>exact Den.mono (.of k) s _ _ h
 | str x=>exact Den.mono (.of k) s _ _ h
 | ty n=>exact Den.mono (.of k) s _ _ h
 | tup ds=>exact Den.mono (.of k) s _ _ h
 | obj C ks ds=>exact Den.mono (.of k) s _ _ h
theorem DenL.length:∀(ds:List PV)(xs:List V),DenL K Fz H ds xs->ds.length=xs.length
 | [],xs,h=>by simp only[DenL]at h;subst h;rfl
 | d::ds,xs,h=>by
  simp only[DenL]at h;obtain⟨v,r,z,_,h2⟩:=h;subst z;rw[XG,XG,DenL.length ds r h2]
theorem DenL.get:∀ {ds:List PV}{xs:List V}{i:Nat}{d:PV},DenL K Fz H ds xs->ds[i]? = some d->∃v,xs[i]? = some v/\Den K Fz H d v
 | [],xs,i,d,h,e=>by simp at e
 | d0::ds,xs,i,d,h,e=>by
  simp only[DenL]at h;obtain⟨v0,r,z,h1,h2⟩:=h;subst z;cases i with
  | zero=>simp at e;subst e;exact⟨v0,rfl,h1⟩
  | succ i=>
   obtain⟨v,q,h⟩:=DenL.get h2 (i:=i) (d:=d) (by simpa using e);exact⟨v,by simpa using q,h⟩
theorem DenL.nil:DenL K Fz H [] []:=by simp only[DenL]
theorem DenL.cons {d:PV}{v:V}{ds:List PV}{xs:List V}(h1:Den K Fz H d v)(h2:DenL K Fz H ds xs):DenL K Fz H (d::ds) (v::xs):=by
 simp only[DenL];exact⟨v,xs,rfl,h1,h2⟩
theorem DenL.append:∀ {ds es:List PV}{xs ys:List V},DenL K Fz H ds xs->DenL K Fz H es ys->DenL K Fz H (ds++es) (xs++ys)
 | [],es,xs,ys,h,g=>by simp only[DenL]at h;subst h;exact g
 | d::ds,es,xs,ys,h,g=>by
  simp only[DenL]at h;obtain⟨v,r,z,h1,h2⟩:=h;subst z;exact DenL.cons h1 (DenL.append h2 g)
theorem DenL.snoc {ds:List PV}{xs:List V}{d:PV}{v:V}(h:DenL K Fz H ds xs)(g:Den K Fz H d v):DenL K Fz H (ds++[d]) (xs++[v]):=h.append (DenL.cons g DenL.nil)
theorem DenL.split:∀ {ds es:List PV}{xs:List V},DenL K Fz H (ds++es) xs->∃ys zs,xs=ys++zs/\DenL K Fz H ds ys/\DenL K Fz H es zs
 | [],es,xs,h=>⟨[],xs,rfl,DenL.nil,h⟩
 | d::ds,es,xs,h=>by
  rw[YB]at h;simp only[DenL]at h;obtain⟨v,r,z,h1,h2⟩:=h;subst z;obtain⟨ys,zs,e,g1,g2⟩:=DenL.split h2;exact⟨v::ys,zs,by rw[e];rfl,DenL.cons h1 g1,g2⟩
theorem DenL.take {ds:List PV}{xs:List V}(n:Nat)(h:DenL K Fz H ds xs):DenL K Fz H (ds.take n) (xs.take n):=by
 have hl:=h.length;obtain⟨ys,zs,e,g1,g2⟩:=DenL.split (ds:=ds.take n) (es:=ds.drop n) (by rw[Yf];exact h);have h1:=g1.length;subst e;by_cases hn:n<=ds.length
 ·rw[Ya,Nat.min_eq_left hn]at h1;rw[List.take_append_of_le_length (by lia),Xv (i:=n) (l:=ys) (by lia)];exact g1
 ·rw[Xv (i:=n) (l:=ds) (by lia),Xv (i:=n) (l:=ys++zs) (by lia)];exact h
theorem DenL.drop {ds:List PV}{xs:List V}(n:Nat)(h:DenL K Fz H ds xs):DenL K Fz H (ds.drop n) (xs.drop n):=by
 have hl:=h.length;obtain⟨ys,zs,e,g1,g2⟩:=DenL.split (ds:=ds.take n) (es:=ds.drop n) (by rw[Yf];exact h);have h1:=g1.length;subst e;by_cases hn:n<=ds.length
 ·rw[Ya,Nat.min_eq_left hn]at h1;rw[List.drop_append,List.drop_of_length_le (i:=n) (l:=ys) (by lia),show n-ys.length=0 by lia];exact g2
 ·rw[List.drop_of_length_le (i:=n) (l:=ds) (by lia),List.drop_of_length_le (i:=n) (l:=ys++zs) (by lia)];exact DenL.nil
theorem DenL.reverse:∀ {ds:List PV}{xs:List V},DenL K Fz H ds xs->DenL K Fz H ds.reverse xs.reverse
 | [],xs,h=>by simp only[DenL]at h;subst h;exact DenL.nil
 | d::ds,xs,h=>by
  simp only[DenL]at h;obtain⟨v,r,z,h1,h2⟩:=h;subst z;rw[YE,YE];exact DenL.snoc (DenL.reverse h2) h1
theorem DenL.set:∀ {ds:List PV}{xs:List V}{d:PV}{v:V}(i:Nat),DenL K Fz H ds xs->Den K Fz H d v->DenL K Fz H (ds.set i d) (xs.set i v)
 | [],xs,d,v,i,h,g=>by simp only[DenL]at h;subst h;exact DenL.nil
 | d0::ds,xs,d,v,i,h,g=>by
  simp only[DenL]at h;obtain⟨v0,r,z,h1,h2⟩:=h;subst z;cases i with
  | zero=>exact DenL.cons g h2
  | succ i=>exact DenL.cons h1 (DenL.set i h2 g)
end
noncomputable abbrev PEnv:=List (Option (PV×Bool))
structure Rel (K:Xa)(Fz:FZ)(ρ:PEnv)(σ:St)(H:Hp):Prop where
 al:∀b,Fz b->H b≠none
 len:ρ.length=σ.length
 frz:∀(i:Nat) (d:PV),ρ[i]? = some (some (d,false))->∃v,σ[i]? = some (some v)/\Den K Fz H d v
 own:∀(i:Nat) (d:PV),ρ[i]? = some (some (d,true))->∃a,σ[i]? = some (some (.ref a))/\¬ Fz a/\Own K Fz H d a
 inj:∀(i j:Nat) (d e:PV) (a:Addr),ρ[i]? = some (some (d,true))->ρ[j]? = some (some (e,true))->σ[i]? = some (some (.ref a))->σ[j]? = some (some (.ref a))->i=j
noncomputable def zaZ (ρ:PEnv)(σ:St)(a:Addr):Prop:=∃(i:Nat)(d:PV),ρ[i]? = some (some (d,true))/\σ[i]? = some (some (.ref a))
structure Ext (Fz:FZ)(H:Hp)(Fz':FZ)(H':Hp):Prop where
 same:Same H H'
 sub:∀b,Fz b->Fz' b
 new:∀b,Fz' b->Fz b\/H b=none
 al:∀b,Fz' b->H' b≠none
theorem Ext.trans {F1 F2 F3:FZ}{H1 H2 H3:Hp}(a:Ext F1 H1 F2 H2)(b:Ext F2 H2 F3 H3):Ext F1 H1 F3 H3:=
 ⟨a.same.trans b.same,λc h=>b.sub c (a.sub c h),λc h=>by
  rcases b.new c h with h | h
  ·exact a.new c h
  ·exact .inr (a.same.free h),b.al⟩
theorem Ext.add {Fz Fz':FZ}{H H':Hp}{a:Addr}(x:Ext Fz H Fz' H')(h:H a=none)(h':H' a≠none):Ext Fz H (λb=>Fz' b\/b=a) H':=
 ⟨x.same,λb h=>.inl (x.sub b h),λb hb=>by
  rcases hb with hb | rfl
  ·exact x.new b hb
  ·exact .inr h,λb hb=>by
  rcases hb with hb | rfl
  ·exact x.al b hb
  ·exact h'⟩
theorem Ext.laid {Fz Fz':FZ}{H H':Hp}{p:Addr}{o:HO}(x:Ext Fz H Fz' H')(h:H' p=none):Ext Fz H Fz' (upd H' p o):=
 ⟨x.same.trans (λb u e=>by rw[zaj (zaD e h)];exact e),x.sub,x.new,λb hb=>by
  by_cases e:b=p
  ·subst e;rw[zal];exact λz=>nomatch z
  ·rw[zaj e];exact x.al b hb⟩
theorem Rel.ext {K:Xa}{Fz Fz':FZ}{ρ:PEnv}{σ:St}{H H':Hp}(R:Rel K Fz ρ σ H)(x:Ext Fz H Fz' H'):Rel K Fz' ρ σ H' where
 al:=x.al
 len:=R.len
 frz i d h:=by
  obtain⟨v,e,q⟩:=R.frz i d h;exact⟨v,e,Den.mono (.of x.same) x.sub d v q⟩
 own i d h:=by
  obtain⟨a,e,n,q⟩:=R.own i d h;refine⟨a,e,λz=>?_,q.mono (.of x.same) x.sub (λo h=>x.same _ _ h)⟩;rcases x.new a z with z | z
  ·exact n z
  ·obtain⟨o,h,_⟩:=q.at;rw[h]at z;cases z
 inj:=R.inj
inductive Kd where
 | frz | new | own (i:Nat)
noncomputable def Opd (K:Xa)(Fz':FZ)(H':Hp)(ρ:PEnv)(σ:St)(H:Hp)(d:PV):Kd->V->Prop
 | .frz,v=>Den K Fz' H' d v
 | .new,v=>∃a,v=.ref a/\H a=none/\¬ Fz' a/\Own K Fz' H' d a
 | .own i,v=>ρ[i]? = some (some (d,true))/\σ[i]? = some (some v)
structure Post (K:Xa)(ρ:PEnv)(σ:St)(Fz:FZ)(H:Hp)(Fz':FZ)(H':Hp)(d:PV)(k:Kd)(v:V):Prop where
 ext:Ext Fz H Fz' H'
 opd:Opd K Fz' H' ρ σ H d k v
theorem Post.root {K:Xa}{ρ:PEnv}{σ:St}{Fz Fz':FZ}{H H':Hp}{d:PV}{k:Kd}{v:V}(R:Rel K Fz ρ σ H)(p:Post K ρ σ Fz H Fz' H' d k v):Root K Fz' H' d v:=by
 cases k with
 | frz=>exact Den.root p.opd
 | new=>obtain⟨a,e,_,_,h⟩:=p.opd;subst e;exact h.root
 | own i=>
  obtain⟨h1,h2⟩:=p.opd;obtain⟨a,e,_,q⟩:=(R.ext p.ext).own i d h1;rw[h2]at e;cases e;exact q.root
theorem Post.frozen {K:Xa}{ρ:PEnv}{σ:St}{Fz Fz':FZ}{H H':Hp}{d:PV}{k:Kd}{v:V}(hk:k=.frz\/k=.new)(p:Post K ρ σ Fz H Fz' H' d k v) :
  ∃Fz2,Ext Fz H Fz2 H'/\(∀b,Fz' b->Fz2 b)/\Den K Fz2 H' d v:=by
 rcases hk with rfl | rfl
 ·exact⟨Fz',p.ext,λ_ h=>h,p.opd⟩
 ·obtain⟨a,e,hn,_,h⟩:=p.opd;subst e;exact⟨λb=>Fz' b\/b=a,p.ext.add hn (by obtain⟨o,e,_⟩:=h.at;rw[e];exact λz=>nomatch z),λ_ h=>.inl h,(h.mono (Fz':=λb=>Fz' b\/b=a) (Keep.of (Same.refl _)) (λ_ h=>.inl h) (λ_ h=>h)).den (.inr rfl)⟩
noncomputable abbrev TPE:=PEnv->(PV->Kd->Prop)->Prop
noncomputable abbrev TPT:=PEnv->(Bool->Prop)->Prop
noncomputable abbrev TPA:=PEnv->(List (PV×Kd)->Prop)->Prop
noncomputable def lift (K:Xa)(t:TPE):TE:=λσ H Q=>∃ρ Fz,Rel K Fz ρ σ H/\t ρ λd k=>∀v Fz' H',Post K ρ σ Fz H Fz' H' d k v->Q v H'
noncomputable def liftT (K:Xa)(t:TPT):TT:=λσ H Q=>∃ρ Fz,Rel K Fz ρ σ H/\t ρ λb=>∀Fz' H',Ext Fz H Fz' H'->Q b H'
structure PuE (X:Cx)(e:Expr)(t:TPE):Prop where
 mono:∀ρ Q Q',(∀d k,Q d k->Q' d k)->t ρ Q->t ρ Q'
 run:PE X e (lift X.K t)
structure PuT (X:Cx)(e:Expr)(t:TPT):Prop where
 mono:∀ρ Q Q',(∀b,Q b->Q' b)->t ρ Q->t ρ Q'
 run:PT X e (liftT X.K t)
theorem PE.weak {X:Cx}{e:Expr}{t t':TE}(h:PE X e t)(w:∀σ H Q,t' σ H Q->t σ H Q):PE X e t':=λpins s σ H Q I q=>h pins s σ H Q I (w σ H Q q)
theorem PT.weak {X:Cx}{e:Expr}{t t':TT}(h:PT X e t)(w:∀σ H Q,t' σ H Q->t σ H Q):PT X e t':=λpins s σ H Q I q=>h pins s σ H Q I (w σ H Q q)
theorem zty {X:Cx}{a b:Expr}{ta tb:TPE}(ha:PuE X a ta)(hb:PuE X b tb){σ:St}{H:Hp}{R:V->V->Hp->Prop}
  (ρ:PEnv) (Fz:FZ) (Re:Rel X.K Fz ρ σ H)
  (h:ta ρ λd kd=>tb ρ λe ke=>∀x y Fz1 H1 Fz2 H2,Post X.K ρ σ Fz H Fz1 H1 d kd x->Post X.K ρ σ Fz1 H1 Fz2 H2 e ke y->R x y H2) :
  lift X.K ta σ H λx H1=>lift X.K tb σ H1 λy H2=>R x y H2:=
 ⟨ρ,Fz,Re,ha.mono ρ _ _ (λd kd q v Fz1 H1 p1=>⟨ρ,Fz1,Re.ext p1.ext,hb.mono ρ _ _ (λe ke q w Fz2 H2 p2=>q v w Fz1 H1 Fz2 H2 p1 p2) q⟩) h⟩
end PL
namespace PL
open PySem PySem.Spec L2
open PyProof.Rows hiding St
section
variable {K:Xa}{ρ:PEnv}{σ:St}{Fz Fz1 Fz2:FZ}{H H1 H2:Hp}{d:PV}{k:Kd}{v:V}
theorem Opd.ext (x:Ext Fz1 H1 Fz2 H2)(h:Opd K Fz1 H1 ρ σ H d k v):Opd K Fz2 H2 ρ σ H d k v:=by
 cases k with
 | frz=>exact Den.mono (.of x.same) x.sub _ _ h
 | new=>
  obtain⟨a,e,hn,nf,o⟩:=h;refine⟨a,e,hn,λz=>?_,o.mono (.of x.same) x.sub (λo h=>x.same _ _ h)⟩;rcases x.new a z with z | z
  ·exact nf z
  ·obtain⟨o',h,_⟩:=o.at;rw[h]at z;cases z
 | own i=>exact h
theorem Opd.back (s:Same H H1)(h:Opd K Fz2 H2 ρ σ H1 d k v):Opd K Fz2 H2 ρ σ H d k v:=by
 cases k with
 | frz=>exact h
 | new=>obtain⟨a,e,hn,r⟩:=h;exact⟨a,e,s.free hn,r⟩
 | own i=>exact h
theorem Opd.up (h:Opd K Fz2 H2 [] [] H d k v):Opd K Fz2 H2 ρ σ H d k v:=by
 cases k with
 | frz=>exact h
 | new=>exact h
 | own i=>obtain⟨z,_⟩:=h;simp at z
theorem Post.behind (x:Ext Fz H Fz1 H1)(p:Post K [] [] Fz1 H1 Fz2 H2 d k v):Post K ρ σ Fz H Fz2 H2 d k v:=
 ⟨x.trans p.ext,(p.opd.up (ρ:=ρ) (σ:=σ)).back x.same⟩
theorem Post.then(x:Ext Fz H Fz1 H1)(p:Post K ρ σ Fz1 H1 Fz2 H2 d k v):Post K ρ σ Fz H Fz2 H2 d k v:=
 ⟨x.trans p.ext,p.opd.back x.same⟩
theorem Post.val (al:∀b,Fz b->H b≠none)(h:Den K Fz H d v):Post K ρ σ Fz H Fz H d .frz v:=⟨⟨Same.refl H,λ_ h=>h,λ_ h=>.inl h,al⟩,h⟩
end
noncomputable def pVar (i:Nat):TPE:=λρ Q=>match ρ[i]? with
 | some (some (d,b))=>Q d (if b then .own i else .frz)
 | _=>False
theorem zgS {i:Nat}{ρ:PEnv}{Q:PV->Kd->Prop}:pVar i ρ Q↔∃d b,ρ[i]? = some (some (d,b))/\Q d (if b then .own i else .frz):=by
 unfold pVar;cases h:ρ[i]? with
 | none=>simp
 | some x=>
  cases x with
  | none=>simp
  | some p=>
   obtain⟨d,b⟩:=p;constructor
   ·exact λq=>⟨d,b,rfl,q⟩
   ·rintro⟨d',b',e,q⟩;cases e;exact q
noncomputable def pC (d:PV):TPE:=λ_ Q=>Q d .frz
section
variable {X:Cx}
theorem zab (i:Nat){x:Str}{pos:Pos}(hN:autoParam (X.N[i]? = some x) aU0)(hv:autoParam (Vis X.env.scope x) aU4)(hd:autoParam ((x == ("__debug__" : Str))=false) aU1)
  (hcd:autoParam ((x == ("__classdict__" : Str))=false) aU1):PuE X (.Name x pos) (pVar i) where
 mono ρ Q Q' m h:=by obtain⟨d,b,e,q⟩:=zgS.mp h;exact zgS.mpr ⟨d,b,e,m _ _ q⟩
 run:=PE.weak (zdn hN hv hd hcd) λσ H Q h=>by
  obtain⟨ρ,Fz,R,h⟩:=h;obtain⟨d,b,e,q⟩:=zgS.mp h;cases b with
  | false=>
   obtain⟨v,e1,h1⟩:=R.frz i d e;exact⟨v,e1,q v Fz H (.val R.al h1)⟩
  | true=>
   obtain⟨a,e1,_,_⟩:=R.own i d e;exact⟨_,e1,q _ Fz H ⟨⟨Same.refl H,λ_ h=>h,λ_ h=>.inl h,R.al⟩,e,e1⟩⟩
theorem zex {e:Expr}{d:PV}{v:V}(h:PE X e (tC v))(hd:∀Fz H,Den X.K Fz H d v):PuE X e (pC d) where
 mono ρ Q Q' m h:=m _ _ h
 run:=PE.weak h λσ H Q h=>by
  obtain⟨ρ,Fz,R,q⟩:=h;exact q v Fz H (.val R.al (hd Fz H))
theorem zag {i j pos}:PuE X (.Constant (.int i) j pos) (pC (.int i)):=zex zoW λ_ _=>by simp only[Den]
theorem zqd {b j pos}:PuE X (.Constant (.bool b) j pos) (pC (.bl b)):=zex ztb λ_ _=>by simp only[Den]
theorem zeb {j pos}:PuE X (.Constant .none j pos) (pC .non):=zex zrk λ_ _=>by simp only[Den]
theorem zsb {x j pos}:PuE X (.Constant (.str x) j pos) (pC (.str x)):=zex zrl λ_ _=>by simp only[Den]
theorem zqe {x:Str}{T:String}{pos:Pos}(hg:Gl X x)(hm:X.mg x=none)(hv:bootBuiltins x=some (.type T))(hn:autoParam (x≠"__name__") aU1) (hd:autoParam ((x == ("__debug__" : Str))=false) aU1):PuE X (.Name x pos) (pC (.ty T)):=
 zex (zpB (v:=.ty T) hg hm hv rfl hn hd) λ_ _=>by simp only[Den]
end
noncomputable abbrev P2:=PV->PV->(PV->Kd->Prop)->Prop
structure POp (K:Xa)(r:R2)(p:P2):Prop where
 mono:∀d e Q Q',(∀z k,Q z k->Q' z k)->p d e Q->p d e Q'
 run:∀Fz H x y d e Q,(∀b,Fz b->H b≠none)->Root K Fz H d x->Root K Fz H e y->p d e (λz k=>∀v Fz' H',Post K [] [] Fz H Fz' H' z k v->Q v H')->r x y H Q
noncomputable def t2 (p:P2)(ta tb:TPE):TPE:=λρ Q=>ta ρ λd _=>tb ρ λe _=>p d e Q
section
variable {X:Cx}{a b:Expr}{ta tb:TPE}{pos:Pos}{r:R2}{p:P2}
theorem zeg (hp:POp X.K r p)(ha:PuE X a ta)(hb:PuE X b tb):∀ρ Q Q',(∀d k,Q d k->Q' d k)->t2 p ta tb ρ Q->t2 p ta tb ρ Q':=
 λρ Q Q' m h=>ha.mono ρ _ _ (λd _ h=>hb.mono ρ _ _ (λe _ h=>hp.mono d e _ _ m h) h) h
theorem zhI (hp:POp X.K r p)(ha:PuE X a ta)(hb:PuE X b tb){σ:St}{H:Hp}{Q:VK}(h:lift X.K (t2 p ta tb) σ H Q):tOp r (lift X.K ta) (lift X.K tb) σ H Q:=by
 obtain⟨ρ,Fz,R,h⟩:=h;refine zty ha hb ρ Fz R (ha.mono ρ _ _ (λd kd h=>hb.mono ρ _ _ (λe ke h=>?_) h) h);intro x y Fz1 H1 Fz2 H2 p1 p2;have R1:=R.ext p1.ext;refine hp.run Fz2 H2 x y d e Q p2.ext.al ((p1.root R).mono p2.ext.same p2.ext.sub) (p2.root R1) (hp.mono d e _ _ (λz k q v Fz' H' p3=>?_) h);exact q v Fz' H' (p3.behind (p1.ext.trans p2.ext))
theorem zhJ {op:Operator}(ho:OpR X (binaryOp op) r)(hp:POp X.K r p)(ha:PuE X a ta)(hb:PuE X b tb):PuE X (.BinOp a op b pos) (t2 p ta tb):=
 ⟨zeg hp ha hb,PE.weak (ztk ho ha.run hb.run) λ_ _ _ h=>zhI hp ha hb h⟩
noncomputable def blP (d:PV)(Q:Bool->Prop):Prop:=match d with
 | .bl b=>Q b
 | _=>False
theorem zgT {d:PV}{Q:Bool->Prop}:blP d Q↔∃b,d=.bl b/\Q b:=by
 unfold blP;constructor
 ·intro h;cases d<;>first | exact⟨_,rfl,h⟩ | exact h.elim
 ·rintro⟨b,rfl,q⟩;exact q
theorem zjw {d:PV}{Q Q':Bool->Prop}(m:∀b,Q b->Q' b)(h:blP d Q):blP d Q':=by
 obtain⟨b,e,q⟩:=zgT.mp h;exact zgT.mpr ⟨b,e,m b q⟩
noncomputable def tBl (te:TPE):TPT:=λρ Q=>te ρ λd _=>blP d Q
theorem zdq {op:CmpOp}(ho:OpR X (compareOp op) r)(hp:POp X.K r p)(ha:PuE X a ta)(hb:PuE X b tb)(hm:autoParam (behindInMarks op b=false) aU5):PuT X (.Compare a [op] [b] pos) (tBl (t2 p ta tb)) where
 mono ρ Q Q' m h:=zeg hp ha hb ρ _ _ (λd _ q=>zjw m q) h
 run:=PT.weak (zpH ho ha.run hb.run hm) λσ H Q h=>by
  obtain⟨ρ,Fz,R,h⟩:=h;refine zhI hp ha hb ⟨ρ,Fz,R,zeg hp ha hb ρ _ _ (λd k q v Fz' H' p=>?_) h⟩;obtain⟨b,e,q⟩:=zgT.mp q;refine⟨b,?_,q Fz' H' p.ext⟩;subst e;have w:=p.root R;simpa only[Root,Den]using w
theorem ztz (ho:IxR X r)(hp:POp X.K r p)(ha:PuE X a ta)(hb:PuE X b tb)(hs:autoParam (ziN b) aU6):PuE X (.Subscript a b pos) (t2 p ta tb):=
 ⟨zeg hp ha hb,PE.weak (zts ho ha.run hb.run hs) λ_ _ _ h=>zhI hp ha hb h⟩
end
noncomputable def i2 (C:Int->Int->Prop)(g:Int->Int->PV):P2:=λd e Q=>∃i j,d=.int i/\e=.int j/\C i j/\Q (g i j) .frz
noncomputable def i0 (g:Int->Int->PV):P2:=λd e Q=>∃i j,d=.int i/\e=.int j/\Q (g i j) .frz
section
variable {K:Xa}
theorem zhK {C:Int->Int->Prop}{g:Int->Int->Int}:POp K (rI C λi j=>.int (g i j)) (i2 C λi j=>.int (g i j)) where
 mono d e Q Q' m h:=by obtain⟨i,j,e1,e2,c,q⟩:=h;exact⟨i,j,e1,e2,c,m _ _ q⟩
 run Fz H x y d e Q al rx ry h:=by
  obtain⟨i,j,rfl,rfl,c,q⟩:=h;simp only[Root,Den]at rx ry;exact⟨i,j,rx,ry,c,q _ Fz H (.val al (by simp only[Den]))⟩
theorem zlP {g:Int->Int->Int}:POp K (rI0 λi j=>.int (g i j)) (i0 λi j=>.int (g i j)) where
 mono d e Q Q' m h:=by obtain⟨i,j,e1,e2,q⟩:=h;exact⟨i,j,e1,e2,m _ _ q⟩
 run Fz H x y d e Q al rx ry h:=by
  obtain⟨i,j,rfl,rfl,q⟩:=h;simp only[Root,Den]at rx ry;exact⟨i,j,rx,ry,q _ Fz H (.val al (by simp only[Den]))⟩
theorem zjx {g:Int->Int->Bool}:POp K (rI0 λi j=>.bl (g i j)) (i0 λi j=>.bl (g i j)) where
 mono d e Q Q' m h:=by obtain⟨i,j,e1,e2,q⟩:=h;exact⟨i,j,e1,e2,m _ _ q⟩
 run Fz H x y d e Q al rx ry h:=by
  obtain⟨i,j,rfl,rfl,q⟩:=h;simp only[Root,Den]at rx ry;exact⟨i,j,rx,ry,q _ Fz H (.val al (by simp only[Den]))⟩
end
section
variable {X:Cx}{a b:Expr}{ta tb:TPE}{pos:Pos}
noncomputable abbrev pAdd:=t2 (i0 λi j=>.int (i+j))
noncomputable abbrev pSub:=t2 (i0 λi j=>.int (i-j))
noncomputable abbrev pMul:=t2 (i2 CMul λi j=>.int (i*j))
noncomputable abbrev pMod:=t2 (i2 (λ_ j=>0<j) λi j=>.int (i % j))
noncomputable abbrev pDiv:=t2 (i2 CDiv λi j=>.int (i / j))
noncomputable abbrev pPow:=t2 (i2 CPow λi j=>.int (i ^ j.toNat))
noncomputable abbrev pLt:=t2 (i0 λi j=>.bl (decide (i<j)))
noncomputable abbrev pGt:=t2 (i0 λi j=>.bl (decide (j<i)))
theorem zbG (ha:PuE X a ta)(hb:PuE X b tb):PuE X (.BinOp a .Add b pos) (pAdd ta tb):=zhJ zrA zlP ha hb
theorem zgv (ha:PuE X a ta)(hb:PuE X b tb):PuE X (.BinOp a .Sub b pos) (pSub ta tb):=zhJ zrB zlP ha hb
theorem zde (ha:PuE X a ta)(hb:PuE X b tb):PuE X (.BinOp a .Mult b pos) (pMul ta tb):=zhJ zrC zhK ha hb
theorem zbz (ha:PuE X a ta)(hb:PuE X b tb):PuE X (.BinOp a .Mod b pos) (pMod ta tb):=zhJ zrD zhK ha hb
theorem zfN (ha:PuE X a ta)(hb:PuE X b tb):PuE X (.BinOp a .FloorDiv b pos) (pDiv ta tb):=zhJ zpF zhK ha hb
theorem zfi (ha:PuE X a ta)(hb:PuE X b tb):PuE X (.BinOp a .Pow b pos) (pPow ta tb):=zhJ zrE zhK ha hb
end
noncomputable def plain:Nat->PV->Bool
 | _,.non=>true
 | _,.int _=>true
 | _,.str _=>true
 | n+1,.tup ds=>ds.all (plain n)
 | n+1,.lst ds=>ds.all (plain n)
 | _,_=>false
theorem zcs {K:Xa}{Fz:FZ}{H:Hp}{x:V}(h:Root K Fz H .non x):x=.non:=by simpa only[Root,Den]using h
theorem zaE {K:Xa}{Fz:FZ}{H:Hp}{x:V}{i:Int}(h:Root K Fz H (.int i) x):x=.int i:=by simpa only[Root,Den]using h
theorem zeV {K:Xa}{Fz:FZ}{H:Hp}{x:V}{i:Bool}(h:Root K Fz H (.bl i) x):x=.bl i:=by simpa only[Root,Den]using h
theorem zbv {K:Xa}{Fz:FZ}{H:Hp}{x:V}{i:Str}(h:Root K Fz H (.str i) x):x=.str i:=by simpa only[Root,Den]using h
theorem zbH {K:Xa}{Fz:FZ}{H:Hp}{x:V}{ds:List PV}(h:Root K Fz H (.tup ds) x):∃a xs,x=.ref a/\SqT K H a xs/\DenL K Fz H ds xs:=by
 simp only[Root,Den]at h;obtain⟨a,xs,e,h1,h2⟩:=h;exact⟨a,xs,e,SqT.of h1,h2⟩
theorem zey {K:Xa}{Fz:FZ}{H:Hp}{x:V}{ds:List PV}(h:Root K Fz H (.tup ds) x):∃a xs,x=.ref a/\H a=some (.tup xs)/\DenL K Fz H ds xs:=by simpa only[Root,Den]using h
theorem zam {K:Xa}{Fz:FZ}{H:Hp}{x:V}{ds:List PV}(h:Root K Fz H (.lst ds) x):∃a xs,x=.ref a/\SqL K H a xs/\DenL K Fz H ds xs:=by
 simp only[Root]at h;obtain⟨a,xs,e,h1,h2⟩:=h;exact⟨a,xs,e,h1.elim (λh=>.inl h) KX.sq,h2⟩
theorem zhL {K:Xa}{Fz:FZ}{H:Hp}{x:V}{ds:List PV}(h:Root K Fz H (.lst ds) x):∃a xs,x=.ref a/\(Rd H a (.lst xs)\/KX K a xs)/\DenL K Fz H ds xs:=by simpa only[Root]using h
theorem df {p:Prop} [Decidable p] (h:¬ p){Y:Bool->Prop}(y:Y false):Y (decide p):=by rw[decide_eq_false h];exact y
theorem dn {p:Prop} [Decidable p] (h:¬ p){Y:Bool->Prop}(y:Y true):Y (!decide p):=by rw[decide_eq_false h];exact y
section
variable {X:Cx}{pins:List (Addr×Obj)}{σ:St}{H:Hp}{s:Shared}{Fz Fz':FZ}
theorem zez (I:Inv X pins σ H s){a:Addr}{xs ys:List V}(h1:SqL X.K H a xs)(h2:SqT X.K H a ys):False:=by
 obtain⟨its,r,p,_⟩:=I.list h1;obtain⟨its2,r2,p2,_⟩:=I.tuple h2;exact SeqAt.ne_of_list_tuple p.isList (show s.heap.IsTuple a its2.toArray from p2) rfl
theorem zgU (I:Inv X pins σ H s):∀(n:Nat)(d e:PV)(x:V),plain n d=true->plain n e=true->Root X.K Fz H d x->Root X.K Fz' H e x->d=e:=by
 intro n;induction n with
 | zero=>
  intro d e x pd pe h g;cases d<;>first
   | (simp only[plain]at pd;exact absurd pd (by decide))
   | (cases e<;>first
     | (simp only[plain]at pe;exact absurd pe (by decide))
     | (simp only[Root,Den]at h g;subst h;first | (cases g;rfl) | cases g))
 | succ n ih=>
  have all:∀(ds es:List PV) (xs:List V),ds.all (plain n)=true->es.all (plain n)=true->DenL X.K Fz H ds xs->DenL X.K Fz' H es xs->ds=es:=by
   intro ds;induction ds with
   | nil=>
    intro es xs _ _ h g;simp only[DenL]at h;subst h;cases es with
    | nil=>rfl
    | cons e es=>simp only[DenL]at g;obtain⟨_,_,z,_⟩:=g;cases z
   | cons d ds ihd=>
    intro es xs pd pe h g;simp only[DenL]at h;obtain⟨v,r,z,h1,h2⟩:=h;subst z;cases es with
    | nil=>simp only[DenL]at g;cases g
    | cons e es=>
     simp only[DenL]at g;obtain⟨v',r',z,g1,g2⟩:=g;cases z;rw[List.all_cons,Bool.and_eq_true]at pd pe;rw[ih d e v pd.1 pe.1 h1.root g1.root,ihd es r pd.2 pe.2 h2 g2]
  intro d e x pd pe h g;cases d with
  | tup ds=>
   simp only[plain]at pd;simp only[Root,Den]at h;obtain⟨a,xs,rfl,h1,h2⟩:=h;cases e with
   | tup es=>
    simp only[plain]at pe;simp only[Root,Den]at g;obtain⟨b,ys,z,g1,g2⟩:=g;cases z;have e1:=I.zeo (SqT.of h1) (SqT.of g1);subst e1;rw[all ds es xs pd pe h2 g2]
   | lst es=>
    obtain⟨b,ys,z,g1,g2⟩:=zam g;cases z;exact(zez I g1 (SqT.of h1)).elim
   | non=>simp only[Root,Den]at g;cases g
   | int i=>simp only[Root,Den]at g;cases g
   | str i=>simp only[Root,Den]at g;cases g
   | bl _=>simp only[plain]at pe;exact absurd pe (by decide)
   | ty _=>simp only[plain]at pe;exact absurd pe (by decide)
   | dK _ _=>simp only[plain]at pe;exact absurd pe (by decide)
   | dT _ _=>simp only[plain]at pe;exact absurd pe (by decide)
   | obj _ _ _=>simp only[plain]at pe;exact absurd pe (by decide)
  | lst ds=>
   simp only[plain]at pd;obtain⟨a,xs,rfl,h1,h2⟩:=zam h;cases e with
   | lst es=>
    simp only[plain]at pe;obtain⟨b,ys,z,g1,g2⟩:=zam g;cases z;have e1:=I.zdR h1 g1;subst e1;rw[all ds es xs pd pe h2 g2]
   | tup es=>
    simp only[Root,Den]at g;obtain⟨b,ys,z,g1,g2⟩:=g;cases z;exact(zez I h1 (SqT.of g1)).elim
   | non=>simp only[Root,Den]at g;cases g
   | int i=>simp only[Root,Den]at g;cases g
   | str i=>simp only[Root,Den]at g;cases g
   | bl _=>simp only[plain]at pe;exact absurd pe (by decide)
   | ty _=>simp only[plain]at pe;exact absurd pe (by decide)
   | dK _ _=>simp only[plain]at pe;exact absurd pe (by decide)
   | dT _ _=>simp only[plain]at pe;exact absurd pe (by decide)
   | obj _ _ _=>simp only[plain]at pe;exact absurd pe (by decide)
  | bl _=>simp only[plain]at pd;exact absurd pd (by decide)
  | ty _=>simp only[plain]at pd;exact absurd pd (by decide)
  | dK _ _=>simp only[plain]at pd;exact absurd pd (by decide)
  | dT _ _=>simp only[plain]at pd;exact absurd pd (by decide)
  | obj _ _ _=>simp only[plain]at pd;exact absurd pd (by decide)
  | non=>
   have h':=zcs h;subst h';cases e with
   | non=>rfl
   | int i=>exact nomatch zaE g
   | str i=>exact nomatch zbv g
   | tup ds=>obtain⟨_,_,z,_⟩:=zbH g;exact nomatch z
   | lst ds=>obtain⟨_,_,z,_⟩:=zam g;exact nomatch z
   | _=>simp only[plain]at pe;exact absurd pe (by decide)
  | int i=>
   have h':=zaE h;subst h';cases e with
   | non=>exact nomatch zcs g
   | int j=>have:=zaE g;injection this with this;rw[this]
   | str i=>exact nomatch zbv g
   | tup ds=>obtain⟨_,_,z,_⟩:=zbH g;exact nomatch z
   | lst ds=>obtain⟨_,_,z,_⟩:=zam g;exact nomatch z
   | _=>simp only[plain]at pe;exact absurd pe (by decide)
  | str i=>
   have h':=zbv h;subst h';cases e with
   | non=>exact nomatch zcs g
   | int j=>exact nomatch zaE g
   | str j=>have:=zbv g;injection this with this;rw[this]
   | tup ds=>obtain⟨_,_,z,_⟩:=zbH g;exact nomatch z
   | lst ds=>obtain⟨_,_,z,_⟩:=zam g;exact nomatch z
   | _=>simp only[plain]at pe;exact absurd pe (by decide)
theorem zlQ {ds es:List PV}{n:Nat}(hn:n=min ds.length es.length):((XR n).all λj=>decide (ds[j]? = es[j]?))=true↔∀j,j<ds.length->j<es.length->ds[j]? = es[j]?:=by
 rw[XE];constructor
 ·intro h j h1 h2;exact of_decide_eq_true (h j (Yj.mpr (by lia)))
 ·intro h j hj;have:=Yj.mp hj;exact decide_eq_true (h j (by lia) (by lia))
theorem zhM {ds es:List PV}(hl:ds.length=es.length):(∀j,j<ds.length->j<es.length->ds[j]? = es[j]?)↔ds=es:=by
 constructor
 ·intro h;apply List.ext_getElem?;intro j;by_cases hj:j<ds.length
  ·exact h j hj (by lia)
  ·rw[Xw (by lia),Xw (by lia)]
 ·rintro rfl _ _ _;rfl
theorem zfO (ds es:List PV):((XR (min ds.length es.length)).all (λj=>decide (ds[j]? = es[j]?))&&ds.length == es.length)=decide (ds=es):=by
 by_cases hlen:ds.length=es.length
 ·have hb':(ds.length == es.length)=true:=by simp;lia
  rw[hb',Bool.and_true];by_cases h:ds=es
  ·rw[(zlQ rfl).mpr ((zhM hlen).mpr h),decide_eq_true h]
  ·rw[decide_eq_false h];cases hq:(XR (min ds.length es.length)).all (λj=>decide (ds[j]? = es[j]?))with
   | false=>rfl
   | true=>exact absurd ((zhM hlen).mp ((zlQ rfl).mp hq)) h
 ·have hb':(ds.length == es.length)=false:=by rw[beq_eq_false_iff_ne];exact hlen
  rw[hb',Bool.and_false,decide_eq_false (λz=>hlen (by rw[z]))]
theorem ziS {ds es:List PV}(hlen:ds.length=es.length):((XR ds.length).all (λj=>decide (ds[j]? = es[j]?)))=decide (ds=es):=by
 have q:=zfO ds es;rw[hlen,Nat.min_self]at q;rw[hlen];simpa using q
theorem zjy {i j:Int}:decide (PV.int i=PV.int j)=(i == j):=by
 rw[YG];simp
theorem zjz {i j:Str}:decide (PV.str i=PV.str j)=(i == j):=by
 rw[YG];simp
theorem znV {i j:List PV}:decide (PV.tup i=PV.tup j)=decide (i=j):=by
 rw[YG];simp
theorem znW {i j:List PV}:decide (PV.lst i=PV.lst j)=decide (i=j):=by
 rw[YG];simp
theorem zjA {A:Around}{n:Nat}{ds es:List PV}{xs ys:List V}{its its2:List Value}(I:Inv X pins σ H s)(r1:Vals xs its)(r2:Vals ys its2)(h1:DenL X.K Fz H ds xs)(h2:DenL X.K Fz' H es ys)(pd:ds.all (plain n)=true)(pe:es.all (plain n)=true)
  (ih:∀(d e:PV) (x y:V) (u v:Value),plain n d=true->plain n e=true->Den X.K Fz H d x->Den X.K Fz' H e y->RelV x u->RelV y v->SeqAt.EqAt A s u v (decide (d=e))) :
  ∀j (h1:j<its.toArray.size) (h2:j<its2.toArray.size),SeqAt.EqAt A s its.toArray[j] its2.toArray[j] (decide (ds[j]? = es[j]?)):=λj h1' h2'=>by
 have l1:=r1.length;have l2:=r2.length;have l3:=h1.length;have l4:=h2.length;rw[Xm]at h1' h2';have e1:ds[j]? = some ds[j]:=Xd (by lia);have e2:es[j]? = some es[j]:=Xd (by lia);obtain⟨x,e3,q3⟩:=h1.get e1;obtain⟨y,e4,q4⟩:=h2.get e2;obtain⟨u1,q1,r1'⟩:=r1.get e3;obtain⟨u2,q2,r2'⟩:=r2.get e4;have f1:its.toArray[j]=u1:=by
  have:its[j]? = some its[j]:=Xd h1';rw[q1]at this;simpa using (Option.some.inj this).symm
 have f2:its2.toArray[j]=u2:=by
  have:its2[j]? = some its2[j]:=Xd h2';rw[q2]at this;simpa using (Option.some.inj this).symm
 rw[f1,f2];have w:decide (ds[j]=es[j])=decide (ds[j]? = es[j]?):=by
  rw[e1,e2];by_cases h:ds[j]=es[j]
  ·rw[decide_eq_true h,decide_eq_true (by rw[h])]
  ·rw[decide_eq_false h,decide_eq_false (λz=>h (Option.some.inj z))]
 rw[<- w];exact ih _ _ _ _ _ _ (XE.mp pd _ (YC _)) (XE.mp pe _ (YC _)) q3 q4 r1' r2'
inductive Leaf:PV->Value->Prop
 | non:Leaf .non .none
 | int (i:Int) (t:Tok):Leaf (.int i) (.int i t)
 | str (i:Str) (t:Tok):Leaf (.str i) (.str i t)
theorem zlR {K:Xa}{Fz:FZ}{H:Hp}{d:PV}{x:V}{u:Value}(hp:plain 0 d=true)(hx:Root K Fz H d x)(rx:RelV x u):Leaf d u:=by
 cases d with
 | non=>rw[zcs hx]at rx;cases rx;exact .non
 | int i=>rw[zaE hx]at rx;obtain⟨t,rfl⟩:=rx;exact .int i t
 | str i=>rw[zbv hx]at rx;obtain⟨t,rfl⟩:=rx;exact .str i t
 | _=>simp only[plain]at hp;exact absurd hp (by decide)
theorem zqf {A:Around}{s:Shared}{d e:PV}{u v:Value}(h1:Leaf d u)(h2:Leaf e v):SeqAt.RcAt A s u v (decide (d=e))/\SeqAt.RcNeAt A s u v (!decide (d=e))/\SeqAt.EqAt A s u v (decide (d=e)):=by
 have no:∀ {d e:PV} {u v:Value},d≠e->SeqAt.RcAt A s u v false->SeqAt.RcNeAt A s u v true->SeqAt.EqAt A s u v false->SeqAt.RcAt A s u v (decide (d=e))/\SeqAt.RcNeAt A s u v (!decide (d=e))/\SeqAt.EqAt A s u v (decide (d=e)):=λh a b c=>by rw[decide_eq_false h];exact⟨a,b,c⟩
 cases h1<;>cases h2
 ·rw[decide_eq_true rfl];exact⟨SeqAt.RcAt.none_none,SeqAt.RcNeAt.none_none,SeqAt.EqAt.same _⟩
 ·exact no (λz=>nomatch z) (SeqAt.RcAt.none_int _ _) (SeqAt.RcNeAt.none_int _ _) (SeqAt.EqAt.none_int _ _)
 ·exact no (λz=>nomatch z) (SeqAt.RcAt.none_str _ _) (SeqAt.RcNeAt.none_str _ _) (SeqAt.EqAt.none_str _ _)
 ·exact no (λz=>nomatch z) (SeqAt.RcAt.int_none _ _) (SeqAt.RcNeAt.int_none _ _) (SeqAt.EqAt.int_none _ _)
 ·rw[zjy];exact⟨SeqAt.RcAt.int_int _ _ _ _,SeqAt.RcNeAt.int_int _ _ _ _,SeqAt.EqAt.int_int _ _ _ _⟩
 ·exact no (λz=>nomatch z) (SeqAt.RcAt.int_str _ _ _ _) (SeqAt.RcNeAt.int_str _ _ _ _) (SeqAt.EqAt.int_str _ _ _ _)
 ·exact no (λz=>nomatch z) (SeqAt.RcAt.str_none _ _) (SeqAt.RcNeAt.str_none _ _) (SeqAt.EqAt.str_none _ _)
 ·exact no (λz=>nomatch z) (SeqAt.RcAt.str_int _ _ _ _) (SeqAt.RcNeAt.str_int _ _ _ _) (SeqAt.EqAt.str_int _ _ _ _)
 ·rw[zjz];exact⟨SeqAt.RcAt.str_str _ _ _ _,SeqAt.RcNeAt.str_str _ _ _ _,SeqAt.EqAt.str_str _ _ _ _⟩
theorem zqg (I:Inv X pins σ H s):∀(n:Nat)(A:Around)(d e:PV)(x y:V)(u v:Value),plain n d=true->plain n e=true->A.units+n<cLine->Root X.K Fz H d x->Root X.K Fz' H e y->RelV x u->RelV y v->
  SeqAt.RcAt A s u v (decide (d=e))/\SeqAt.RcNeAt A s u v (!decide (d=e))/\SeqAt.EqAt A s u v (decide (d=e)):=by
 intro n;induction n with
 | zero=>exact λA d e x y u v pd pe hu hx hy rx ry=>zqf (zlR pd hx rx) (zlR pe hy ry)
 | succ n ih=>
  intro A d e x y u v pd pe hu hx hy rx ry;have hA:A.units<cLine:=by lia
  have iha:∀(d e:PV) (x y:V) (u v:Value),plain n d=true->plain n e=true->Den X.K Fz H d x->Den X.K Fz' H e y->RelV x u->RelV y v->SeqAt.EqAt A.in1 s u v (decide (d=e)):=
   λd e x y u v pd pe h1 h2 r1 r2=>(ih A.in1 d e x y u v pd pe (by show A.units+1+n<cLine;lia) h1.root h2.root r1 r2).2.2
  have lower:∀c:PV,(∀ds,c≠.tup ds)->(∀ds,c≠.lst ds)->plain (n+1) c=true->plain n c=true:=λc h1 h2 hc=>by
   cases c with
   | tup ds=>exact absurd rfl (h1 ds)
   | lst ds=>exact absurd rfl (h2 ds)
   | non=>cases n<;>rfl
   | int i=>cases n<;>rfl
   | str i=>cases n<;>rfl
   | bl _=>simp only[plain]at hc;exact absurd hc (by decide)
   | ty _=>simp only[plain]at hc;exact absurd hc (by decide)
   | dK _ _=>simp only[plain]at hc;exact absurd hc (by decide)
   | dT _ _=>simp only[plain]at hc;exact absurd hc (by decide)
   | obj _ _ _=>simp only[plain]at hc;exact absurd hc (by decide)
  have hA':A.units+n<cLine:=by lia
  cases d with
  | tup ds=>
   have hx':=hx;simp only[Root,Den]at hx;obtain⟨a,xs,rfl,ha,h1⟩:=hx;cases rx;obtain⟨its,r1,p1,z1⟩:=I.tuple (SqT.of ha);have p1':s.heap.IsTuple a its.toArray:=p1;cases e with
   | tup es=>
    have hy':=hy;simp only[Root,Den]at hy;obtain⟨b,ys,rfl,hb,h2⟩:=hy;cases ry;obtain⟨its2,r2,p2,z2⟩:=I.tuple (SqT.of hb);have p2':s.heap.IsTuple b its2.toArray:=p2;have he:=zjA I r1 r2 h1 h2 (by simpa only[plain]using pd) (by simpa only[plain]using pe) iha;have w:((XR (min its.toArray.size its2.toArray.size)).all (λj=>decide (ds[j]? = es[j]?))&&its.toArray.size == its2.toArray.size)=decide (PV.tup ds=PV.tup es):=by
     rw[Xm,Xm,<- r1.length,<- r2.length,<- h1.length,<- h2.length,zfO,znV]
    have q:=SeqAt.RcAt.tuples p1' p2' hA he;have q':=SeqAt.RcNeAt.tuples p1' p2' hA he;rw[w]at q q';refine⟨q,q',?_⟩;by_cases hab:a=b
    ·subst hab;rw[zgU I (n+1) _ _ _ pd pe hx' hy',decide_eq_true rfl];exact SeqAt.EqAt.same _
    ·exact SeqAt.EqAt.of_refs hab q
   | lst es=>
    obtain⟨b,ys,rfl,hb,h2⟩:=zam hy;cases ry;obtain⟨its2,r2,p2,z2⟩:=I.list hb;exact⟨df (λz=>nomatch z) (SeqAt.RcAt.tuple_list p1' p2.isList hA),dn (λz=>nomatch z) (SeqAt.RcNeAt.tuple_list p1' p2.isList hA),df (λz=>nomatch z) (SeqAt.EqAt.tuple_list p1' p2.isList hA)⟩
   | non=>simp only[Root,Den]at hy;subst hy;cases ry;exact⟨df (λz=>nomatch z) (SeqAt.RcAt.tuple_none p1' hA),dn (λz=>nomatch z) (SeqAt.RcNeAt.tuple_none p1' hA),df (λz=>nomatch z) (SeqAt.EqAt.tuple_none p1' hA)⟩
   | int i=>simp only[Root,Den]at hy;subst hy;obtain⟨t,rfl⟩:=ry;exact⟨df (λz=>nomatch z) (SeqAt.RcAt.tuple_int i t p1' hA),dn (λz=>nomatch z) (SeqAt.RcNeAt.tuple_int i t p1' hA),df (λz=>nomatch z) (SeqAt.EqAt.tuple_int i t p1' hA)⟩
   | str i=>simp only[Root,Den]at hy;subst hy;obtain⟨t,rfl⟩:=ry;exact⟨df (λz=>nomatch z) (SeqAt.RcAt.tuple_str i t p1' hA),dn (λz=>nomatch z) (SeqAt.RcNeAt.tuple_str i t p1' hA),df (λz=>nomatch z) (SeqAt.EqAt.tuple_str i t p1' hA)⟩
   | bl _=>simp only[plain]at pe;exact absurd pe (by decide)
   | ty _=>simp only[plain]at pe;exact absurd pe (by decide)
   | dK _ _=>simp only[plain]at pe;exact absurd pe (by decide)
   | dT _ _=>simp only[plain]at pe;exact absurd pe (by decide)
   | obj _ _ _=>simp only[plain]at pe;exact absurd pe (by decide)
  | lst ds=>
   have hx':=hx;obtain⟨a,xs,rfl,ha,h1⟩:=zam hx;cases rx;obtain⟨its,r1,p1,z1⟩:=I.list ha;have p1':=p1.isList;cases e with
   | lst es=>
    have hy':=hy;obtain⟨b,ys,rfl,hb,h2⟩:=zam hy;cases ry;obtain⟨its2,r2,p2,z2⟩:=I.list hb;have he:=zjA I r1 r2 h1 h2 (by simpa only[plain]using pd) (by simpa only[plain]using pe) iha;have l1:=r1.length;have l2:=r2.length;have l3:=h1.length;have l4:=h2.length;have key:SeqAt.RcAt A s (.ref a) (.ref b) (decide (PV.lst ds=PV.lst es))/\SeqAt.RcNeAt A s (.ref a) (.ref b) (!decide (PV.lst ds=PV.lst es)):=by
     by_cases hlen:ds.length=es.length
     ·have w:(XR its.toArray.size).all (λj=>decide (ds[j]? = es[j]?))=decide (PV.lst ds=PV.lst es):=by
       rw[Xm,<- l1,<- l3,ziS hlen,znW]
      have q:=SeqAt.RcAt.lists p1' p2.isList (by rw[Xm,Xm];lia) hA he;have q':=SeqAt.RcNeAt.lists p1' p2.isList (by rw[Xm,Xm];lia) hA he;rw[w]at q q';exact⟨q,q'⟩
     ·have hne:(its.toArray.size != its2.toArray.size)=true:=by rw[Xm,Xm];simp;lia
      rw[decide_eq_false (λz=>hlen (by rw[PV.lst.inj z]))];exact⟨SeqAt.RcAt.lists_lengths p1' p2.isList hne hA,SeqAt.RcNeAt.lists_lengths p1' p2.isList hne hA⟩
    refine⟨key.1,key.2,?_⟩;by_cases hab:a=b
    ·subst hab;rw[zgU I (n+1) _ _ _ pd pe hx' hy',decide_eq_true rfl];exact SeqAt.EqAt.same _
    ·exact SeqAt.EqAt.of_refs hab key.1
   | tup es=>
    simp only[Root,Den]at hy;obtain⟨b,ys,rfl,hb,h2⟩:=hy;cases ry;obtain⟨its2,r2,p2,z2⟩:=I.tuple (SqT.of hb);have p2':s.heap.IsTuple b its2.toArray:=p2;exact⟨df (λz=>nomatch z) (SeqAt.RcAt.list_tuple p1' p2' hA),dn (λz=>nomatch z) (SeqAt.RcNeAt.list_tuple p1' p2' hA),df (λz=>nomatch z) (SeqAt.EqAt.list_tuple p1' p2' hA)⟩
   | non=>simp only[Root,Den]at hy;subst hy;cases ry;exact⟨df (λz=>nomatch z) (SeqAt.RcAt.list_none p1' hA),dn (λz=>nomatch z) (SeqAt.RcNeAt.list_none p1' hA),df (λz=>nomatch z) (SeqAt.EqAt.list_none p1' hA)⟩
   | int i=>simp only[Root,Den]at hy;subst hy;obtain⟨t,rfl⟩:=ry;exact⟨df (λz=>nomatch z) (SeqAt.RcAt.list_int i t p1' hA),dn (λz=>nomatch z) (SeqAt.RcNeAt.list_int i t p1' hA),df (λz=>nomatch z) (SeqAt.EqAt.list_int i t p1' hA)⟩
   | str i=>simp only[Root,Den]at hy;subst hy;obtain⟨t,rfl⟩:=ry;exact⟨df (λz=>nomatch z) (SeqAt.RcAt.list_str i t p1' hA),dn (λz=>nomatch z) (SeqAt.RcNeAt.list_str i t p1' hA),df (λz=>nomatch z) (SeqAt.EqAt.list_str i t p1' hA)⟩
   | bl _=>simp only[plain]at pe;exact absurd pe (by decide)
   | ty _=>simp only[plain]at pe;exact absurd pe (by decide)
   | dK _ _=>simp only[plain]at pe;exact absurd pe (by decide)
   | dT _ _=>simp only[plain]at pe;exact absurd pe (by decide)
   | obj _ _ _=>simp only[plain]at pe;exact absurd pe (by decide)
  | bl _=>simp only[plain]at pd;exact absurd pd (by decide)
  | ty _=>simp only[plain]at pd;exact absurd pd (by decide)
  | dK _ _=>simp only[plain]at pd;exact absurd pd (by decide)
  | dT _ _=>simp only[plain]at pd;exact absurd pd (by decide)
  | obj _ _ _=>simp only[plain]at pd;exact absurd pd (by decide)
  | non=>
   cases e with
   | tup es=>
    simp only[Root,Den]at hx hy;subst hx;cases rx;obtain⟨b,ys,rfl,hb,h2⟩:=hy;cases ry;obtain⟨its2,r2,p2,z2⟩:=I.tuple (SqT.of hb);have p2':s.heap.IsTuple b its2.toArray:=p2;exact⟨df (λz=>nomatch z) (SeqAt.RcAt.none_tuple p2' hA),dn (λz=>nomatch z) (SeqAt.RcNeAt.none_tuple p2' hA),df (λz=>nomatch z) (SeqAt.EqAt.none_tuple p2' hA)⟩
   | lst es=>
    simp only[Root,Den]at hx;subst hx;cases rx;obtain⟨b,ys,rfl,hb,h2⟩:=zam hy;cases ry;obtain⟨its2,r2,p2,z2⟩:=I.list hb;exact⟨df (λz=>nomatch z) (SeqAt.RcAt.none_list p2.isList hA),dn (λz=>nomatch z) (SeqAt.RcNeAt.none_list p2.isList hA),df (λz=>nomatch z) (SeqAt.EqAt.none_list p2.isList hA)⟩
   | _=>exact ih A _ _ x y u v (lower _ (λ_ z=>nomatch z) (λ_ z=>nomatch z) pd) (lower _ (λ_ z=>nomatch z) (λ_ z=>nomatch z) pe) hA' hx hy rx ry
  | int i=>
   cases e with
   | tup es=>
    simp only[Root,Den]at hx hy;subst hx;obtain⟨t,rfl⟩:=rx;obtain⟨b,ys,rfl,hb,h2⟩:=hy;cases ry;obtain⟨its2,r2,p2,z2⟩:=I.tuple (SqT.of hb);have p2':s.heap.IsTuple b its2.toArray:=p2;exact⟨df (λz=>nomatch z) (SeqAt.RcAt.int_tuple i t p2' hA),dn (λz=>nomatch z) (SeqAt.RcNeAt.int_tuple i t p2' hA),df (λz=>nomatch z) (SeqAt.EqAt.int_tuple i t p2' hA)⟩
   | lst es=>
    simp only[Root,Den]at hx;subst hx;obtain⟨t,rfl⟩:=rx;obtain⟨b,ys,rfl,hb,h2⟩:=zam hy;cases ry;obtain⟨its2,r2,p2,z2⟩:=I.list hb;exact⟨df (λz=>nomatch z) (SeqAt.RcAt.int_list i t p2.isList hA),dn (λz=>nomatch z) (SeqAt.RcNeAt.int_list i t p2.isList hA),df (λz=>nomatch z) (SeqAt.EqAt.int_list i t p2.isList hA)⟩
   | _=>exact ih A _ _ x y u v (lower _ (λ_ z=>nomatch z) (λ_ z=>nomatch z) pd) (lower _ (λ_ z=>nomatch z) (λ_ z=>nomatch z) pe) hA' hx hy rx ry
  | str i=>
   cases e with
   | tup es=>
    simp only[Root,Den]at hx hy;subst hx;obtain⟨t,rfl⟩:=rx;obtain⟨b,ys,rfl,hb,h2⟩:=hy;cases ry;obtain⟨its2,r2,p2,z2⟩:=I.tuple (SqT.of hb);have p2':s.heap.IsTuple b its2.toArray:=p2;exact⟨df (λz=>nomatch z) (SeqAt.RcAt.str_tuple i t p2' hA),dn (λz=>nomatch z) (SeqAt.RcNeAt.str_tuple i t p2' hA),df (λz=>nomatch z) (SeqAt.EqAt.str_tuple i t p2' hA)⟩
   | lst es=>
    simp only[Root,Den]at hx;subst hx;obtain⟨t,rfl⟩:=rx;obtain⟨b,ys,rfl,hb,h2⟩:=zam hy;cases ry;obtain⟨its2,r2,p2,z2⟩:=I.list hb;exact⟨df (λz=>nomatch z) (SeqAt.RcAt.str_list i t p2.isList hA),dn (λz=>nomatch z) (SeqAt.RcNeAt.str_list i t p2.isList hA),df (λz=>nomatch z) (SeqAt.EqAt.str_list i t p2.isList hA)⟩
   | _=>exact ih A _ _ x y u v (lower _ (λ_ z=>nomatch z) (λ_ z=>nomatch z) pd) (lower _ (λ_ z=>nomatch z) (λ_ z=>nomatch z) pe) hA' hx hy rx ry
end
noncomputable def rEqP (K:Xa)(neg:Bool):R2:=λx y H Q=>∃Fz d e,Root K Fz H d x/\Root K Fz H e y/\plain 6 d=true/\plain 6 e=true/\Q (.bl (if neg then !decide (d=e) else decide (d=e))) H
noncomputable def pEq (neg:Bool):P2:=λd e Q=>plain 6 d=true/\plain 6 e=true/\Q (.bl (if neg then !decide (d=e) else decide (d=e))) .frz
section
variable {X:Cx}
theorem zsc (hu:X.A.units+16<cLine):OpR X (compareOp .Eq) (rEqP X.K false):=by
 intro pins s σ H x y v u Q I rx ry h;obtain⟨Fz,d,e,hx,hy,pd,pe,q⟩:=h;exact(zqg I 6 X.A d e x y v u pd pe (by lia) hx hy rx ry).1 X.prog X.w X.xe _ ⟨.bl _,H,I,rfl,q⟩
theorem zsd (hu:X.A.units+16<cLine):OpR X (compareOp .NotEq) (rEqP X.K true):=by
 intro pins s σ H x y v u Q I rx ry h;obtain⟨Fz,d,e,hx,hy,pd,pe,q⟩:=h;exact(zqg I 6 X.A d e x y v u pd pe (by lia) hx hy rx ry).2.1 X.prog X.w X.xe _ ⟨.bl _,H,I,rfl,q⟩
theorem zph {K:Xa}{neg:Bool}:POp K (rEqP K neg) (pEq neg) where
 mono d e Q Q' m h:=⟨h.1,h.2.1,m _ _ h.2.2⟩
 run Fz H x y d e Q al rx ry h:=⟨Fz,d,e,rx,ry,h.1,h.2.1,h.2.2 _ Fz H (.val al (by simp only[Den]))⟩
end
section
variable {X:Cx}{a b c:Expr}{ta tb:TPE}{tA tB':TPT}{pos:Pos}{rest:List Expr}
structure PuW (X:Cx)(e:Expr)(t:TPT):Prop where
 mono:∀ρ Q Q',(∀b,Q b->Q' b)->t ρ Q->t ρ Q'
 run:PW X e (liftT X.K t)
theorem PuW.t {e:Expr}{t:TPT}(h:PuW X e t):PuT X e t:=⟨h.mono,h.run.pt⟩
noncomputable def zcN (t u:TPT):TPT:=λρ Q=>t ρ λc=>if c=true then u ρ Q else Q false
noncomputable def tOrP (t u:TPT):TPT:=λρ Q=>t ρ λc=>if c=true then Q true else u ρ Q
noncomputable def zdr (t:TPT):TPT:=λρ Q=>t ρ λc=>Q (!c)
theorem PW.weak {e:Expr}{t t':TT}(h:PW X e t)(w:∀σ H Q,t' σ H Q->t σ H Q):PW X e t':=λwhole pins s σ H Q I q=>h whole pins s σ H Q I (w σ H Q q)
theorem zfq (ha:PuT X a tA):PuW X (.BoolOp .And [a] pos) tA:=⟨ha.mono,zpC ha.run⟩
theorem zgV (ha:PuT X a tA):PuW X (.BoolOp .Or [a] pos) tA:=⟨ha.mono,zrn ha.run⟩
theorem and_mono (m1:∀ρ (Q Q':Bool->Prop),(∀b,Q b->Q' b)->tA ρ Q->tA ρ Q')(m2:∀ρ (Q Q':Bool->Prop),(∀b,Q b->Q' b)->tB' ρ Q->tB' ρ Q') :
  ∀ρ (Q Q':Bool->Prop),(∀b,Q b->Q' b)->zcN tA tB' ρ Q->zcN tA tB' ρ Q':=λρ Q Q' m h=>m1 ρ _ _ (λc q=>by
 cases c with
 | true=>rw[if_pos rfl]at q ⊢;exact m2 ρ _ _ m q
 | false=>rw[if_neg Xs]at q ⊢;exact m _ q) h
theorem or_mono (m1:∀ρ (Q Q':Bool->Prop),(∀b,Q b->Q' b)->tA ρ Q->tA ρ Q')(m2:∀ρ (Q Q':Bool->Prop),(∀b,Q b->Q' b)->tB' ρ Q->tB' ρ Q') :
  ∀ρ (Q Q':Bool->Prop),(∀b,Q b->Q' b)->tOrP tA tB' ρ Q->tOrP tA tB' ρ Q':=λρ Q Q' m h=>m1 ρ _ _ (λc q=>by
 cases c with
 | false=>rw[if_neg Xs]at q ⊢;exact m2 ρ _ _ m q
 | true=>rw[if_pos rfl]at q ⊢;exact m _ q) h
theorem zgW (ha:PuT X a tA)(hb:PuW X (.BoolOp .And (b::rest) pos) tB'):PuW X (.BoolOp .And (a::b::rest) pos) (zcN tA tB') where
 mono:=and_mono ha.mono hb.mono
 run:=PW.weak (zro ha.run hb.run) λσ H Q h=>by
  obtain⟨ρ,Fz,R,h⟩:=h;refine⟨ρ,Fz,R,ha.mono ρ _ _ (λc q Fz' H' x=>?_) h⟩;cases c with
  | true=>
   rw[if_pos rfl]at q ⊢;exact⟨ρ,Fz',R.ext x,hb.mono ρ _ _ (λb q Fz2 H2 x2=>q Fz2 H2 (x.trans x2)) q⟩
  | false=>rw[if_neg Xs]at q ⊢;exact q Fz' H' x
theorem zgw (ha:PuT X a tA)(hb:PuW X (.BoolOp .Or (b::rest) pos) tB'):PuW X (.BoolOp .Or (a::b::rest) pos) (tOrP tA tB') where
 mono:=or_mono ha.mono hb.mono
 run:=PW.weak (ztc ha.run hb.run) λσ H Q h=>by
  obtain⟨ρ,Fz,R,h⟩:=h;refine⟨ρ,Fz,R,ha.mono ρ _ _ (λc q Fz' H' x=>?_) h⟩;cases c with
  | false=>
   rw[if_neg Xs]at q ⊢;exact⟨ρ,Fz',R.ext x,hb.mono ρ _ _ (λb q Fz2 H2 x2=>q Fz2 H2 (x.trans x2)) q⟩
  | true=>rw[if_pos rfl]at q ⊢;exact q Fz' H' x
theorem ziT (ha:PuT X a tA):PuT X (.UnaryOp .Not a pos) (zdr tA) where
 mono ρ Q Q' m h:=ha.mono ρ _ _ (λc q=>m _ q) h
 run:=PT.weak (zrp ha.run) λσ H Q h=>h
noncomputable def TruP:PV->Bool->Prop
 | .non,k=>k=false
 | .bl b,k=>k=b
 | .int i,k=>k=(i != 0)
 | .str y,k=>y.length<=sizeLine/\k=((y.length:Int) != 0)
 | .tup ds,k=>k = !ds.isEmpty
 | .lst ds,k=>k = !ds.isEmpty
 | _,_=>False
noncomputable def tTru (te:TPE):TPT:=λρ Q=>te ρ λd _=>∃k,TruP d k/\Q k
theorem TruP.v {K:Xa}{Fz:FZ}{H:Hp}{d:PV}{x:V}{k:Bool}(r:Root K Fz H d x)(t:TruP d k):TruV K x H k:=by
 cases d with
 | non=>cases zcs r;exact t
 | bl b=>cases zeV r;exact t
 | int i=>cases zaE r;exact t
 | str y=>cases zbv r;exact t
 | tup ds=>
  obtain⟨a,xs,rfl,h1,h2⟩:=zbH r;refine .inr (.inl ⟨xs,h1,?_⟩);have hl:=h2.length;have t':k = !ds.isEmpty:=t;rw[t'];cases ds<;>cases xs<;>simp_all
 | lst ds=>
  obtain⟨a,xs,rfl,h1,h2⟩:=zam r;refine .inl ⟨xs,h1,?_⟩;have hl:=h2.length;have t':k = !ds.isEmpty:=t;rw[t'];cases ds<;>cases xs<;>simp_all
 | ty _=>exact t.elim
 | dK _ _=>exact t.elim
 | dT _ _=>exact t.elim
 | obj _ _ _=>exact t.elim
theorem zgX (ha:PuE X a ta)(he:autoParam (∀whole,isTrue a X.env whole=(do let v <- whole;standAt a.pos;holding [v] (truthy v))) aU3):PuT X a (tTru ta) where
 mono ρ Q Q' m h:=ha.mono ρ _ _ (λd k q71q=>by obtain⟨b,e,q⟩:=q71q;exact⟨b,e,m b q⟩) h
 run:=PT.weak (znI ha.run he) λσ H Q h=>by
  obtain⟨ρ,Fz,R,h⟩:=h;exact⟨ρ,Fz,R,ha.mono ρ _ _ (λd k q72q v Fz' H' p=>by obtain⟨b,e,q⟩:=q72q;exact⟨b,TruP.v (p.root R) e,q Fz' H' p.ext⟩) h⟩
noncomputable def zds (ta:TPE):TPE:=λρ Q=>ta ρ λd _=>∃c,d=.bl c/\Q (.bl (!c)) .frz
noncomputable def zdu (ta tb:TPE):TPE:=λρ Q=>ta ρ λd _=>∃c,d=.bl c/\if c=true then tb ρ Q else Q (.bl false) .frz
theorem zse (ha:PuE X a ta):PuE X (.UnaryOp .Not a pos) (zds ta) where
 mono ρ Q Q' m h:=ha.mono ρ _ _ (λd k q73q=>by obtain⟨c,e,q⟩:=q73q;exact⟨c,e,m _ _ q⟩) h
 run:=PE.weak (zrs ha.run) λσ H Q h=>by
  obtain⟨ρ,Fz,R,h⟩:=h;refine⟨ρ,Fz,R,ha.mono ρ _ _ (λd k ⟨c,e,q⟩ v Fz' H' p=>⟨c,?_,q _ Fz' H' ⟨p.ext,by show Den _ _ _ _ _;simp only[Den]⟩⟩) h⟩;subst e;exact zeV (p.root R)
theorem zsf {op}{t:TPE}(h:PuE X a t):PuE X (.BoolOp op [a] pos) t:=⟨h.mono,zrq h.run⟩
theorem zsg (ha:PuE X a ta)(hb:PuE X (.BoolOp .And (b::rest) pos) tb):PuE X (.BoolOp .And (a::b::rest) pos) (zdu ta tb) where
 mono ρ Q Q' m h:=ha.mono ρ _ _ (λd k ⟨c,e,q⟩=>⟨c,e,by
  cases c with
  | true=>rw[if_pos rfl]at q ⊢;exact hb.mono ρ _ _ m q
  | false=>rw[if_neg Xs]at q ⊢;exact m _ _ q⟩) h
 run:=PE.weak (zrr ha.run hb.run) λσ H Q h=>by
  obtain⟨ρ,Fz,R,h⟩:=h;refine⟨ρ,Fz,R,ha.mono ρ _ _ (λd k ⟨c,e,q⟩ v Fz' H' p=>⟨c,?_,?_⟩) h⟩
  ·subst e;exact zeV (p.root R)
  ·cases c with
   | true=>
    rw[if_pos rfl]at q ⊢;exact⟨ρ,Fz',R.ext p.ext,hb.mono ρ _ _ (λd k q v Fz2 H2 p2=>q v Fz2 H2 (p2.then p.ext)) q⟩
   | false=>rw[if_neg Xs]at q ⊢;exact q _ Fz' H' ⟨p.ext,by show Den _ _ _ _ _;simp only[Den]⟩
end
noncomputable abbrev OpdL (K:Xa)(Fz':FZ)(H':Hp)(ρ:PEnv)(σ:St)(H:Hp):List (PV×Kd)->List V->Prop:=Paired λp v=>Opd K Fz' H' ρ σ H p.1 p.2 v
noncomputable def zqh (K:Xa)(t:TPA):TA:=λσ H Q=>∃ρ Fz,Rel K Fz ρ σ H/\t ρ λops=>∀vs Fz' H',Ext Fz H Fz' H'->OpdL K Fz' H' ρ σ H ops vs->Q vs H'
structure PuA (X:Cx)(es:List Expr)(t:TPA):Prop where
 mono:∀ρ Q Q',(∀ops,Q ops->Q' ops)->t ρ Q->t ρ Q'
 run:PA X es (zqh X.K t)
theorem PA.weak {X:Cx}{es:List Expr}{t t':TA}(h:PA X es t)(w:∀σ H Q,t' σ H Q->t σ H Q):PA X es t':=λpos pins s σ H Q I q=>h pos pins s σ H Q I (w σ H Q q)
noncomputable def pNil:TPA:=λ_ Q=>Q []
noncomputable def zan (te:TPE)(t:TPA):TPA:=λρ Q=>te ρ λd k=>t ρ λops=>Q ((d,k)::ops)
theorem OpdL.back {K:Xa}{ρ:PEnv}{σ:St}{Fz2:FZ}{H H1 H2:Hp}(s:Same H H1):∀ {ops:List (PV×Kd)}{vs:List V},OpdL K Fz2 H2 ρ σ H1 ops vs->OpdL K Fz2 H2 ρ σ H ops vs
 | _,_,.nil=>.nil
 | _,_,.cons h t=>.cons (Opd.back s h) (OpdL.back s t)
section
variable {X:Cx}{e:Expr}{es:List Expr}{te:TPE}{t:TPA}{pos:Pos}
theorem zad:PuA X [] pNil where
 mono ρ Q Q' m h:=m _ h
 run:=PA.weak zhy λσ H Q h=>by
  obtain⟨ρ,Fz,R,h⟩:=h;exact h [] Fz H ⟨Same.refl H,λ_ h=>h,λ_ h=>.inl h,R.al⟩ .nil
theorem zaa (ha:PuE X e te)(hr:PuA X es t)(hs:autoParam (starEach (e::es) X.env=(false,eval e X.env)::starEach es X.env) aU0):PuA X (e::es) (zan te t) where
 mono ρ Q Q' m h:=ha.mono ρ _ _ (λd k h=>hr.mono ρ _ _ (λops h=>m _ h) h) h
 run:=PA.weak (zgL ha.run hr.run hs) λσ H Q h=>by
  obtain⟨ρ,Fz,R,h⟩:=h;refine⟨ρ,Fz,R,ha.mono ρ _ _ (λd k h v Fz1 H1 p=>?_) h⟩;refine⟨ρ,Fz1,R.ext p.ext,hr.mono ρ _ _ (λops h vs Fz2 H2 x o=>?_) h⟩;exact h (v::vs) Fz2 H2 (p.ext.trans x) (.cons (Opd.ext x p.opd) (OpdL.back p.ext.same o))
end
noncomputable def zlS (K:Xa)(Fz:FZ)(H:Hp):List PV->List V->Prop:=Paired (Root K Fz H)
theorem OpdL.root {K:Xa}{ρ:PEnv}{σ:St}{Fz Fz':FZ}{H H':Hp}(R:Rel K Fz ρ σ H)(x:Ext Fz H Fz' H'):∀ {ops:List (PV×Kd)}{vs:List V},OpdL K Fz' H' ρ σ H ops vs->zlS K Fz' H' (ops.map (·.1)) vs
 | _,_,.nil=>.nil
 | _,_,.cons h t=>.cons (Post.root R ⟨x,h⟩) (OpdL.root R x t)
noncomputable def noOwn:List (PV×Kd)->Bool
 | []=>true
 | (_,.own _)::_=>false
 | _::r=>noOwn r
theorem OpdL.frozen {K:Xa}{ρ:PEnv}{σ:St}{Fz Fz':FZ}{H H':Hp}(x:Ext Fz H Fz' H'):∀ {ops:List (PV×Kd)}{vs:List V},noOwn ops=true->OpdL K Fz' H' ρ σ H ops vs->
  ∃Fz2,Ext Fz H Fz2 H'/\(∀b,Fz' b->Fz2 b)/\DenL K Fz2 H' (ops.map (·.1)) vs
 | _,_,_,.nil=>⟨Fz',x,λ_ h=>h,DenL.nil⟩
 | (d,k)::ops,v::vs,hn,.cons h t=>by
  cases k with
  | own i=>exact absurd hn Xs
  | frz=>
   obtain⟨F2,x2,s2,h2⟩:=OpdL.frozen x (ops:=ops) hn t;exact⟨F2,x2,s2,DenL.cons (Den.mono (Keep.of (Same.refl _)) s2 _ _ h) h2⟩
  | new=>
   obtain⟨F2,x2,s2,h2⟩:=OpdL.frozen x (ops:=ops) hn t;obtain⟨a,e,hn',_,o⟩:=h;subst e;refine⟨λb=>F2 b\/b=a,x2.add hn' (by obtain⟨o',e,_⟩:=o.at;rw[e];exact λz=>nomatch z),λb h=>.inl (s2 b h),DenL.cons ?_ (DenL.mono (Keep.of (Same.refl _)) (λb h=>.inl h) _ _ h2)⟩;exact(o.mono (Fz':=λb=>F2 b\/b=a) (Keep.of (Same.refl _)) (λb h=>.inl (s2 b h)) (λ_ h=>h)).den (.inr rfl)
noncomputable def pTup (t:TPA):TPE:=λρ Q=>t ρ λops=>noOwn ops=true/\ops.length<=sizeLine/\Q (.tup (ops.map (·.1))) .frz
noncomputable def pLst (t:TPA):TPE:=λρ Q=>t ρ λops=>noOwn ops=true/\ops.length<=sizeLine/\Q (.lst (ops.map (·.1))) .new
section
variable {X:Cx}{es:List Expr}{t:TPA}{pos:Pos}
theorem zjB {x1}(h:PuA X es t):PuE X (.Tuple es x1 pos) (pTup t) where
 mono ρ Q Q' m q:=h.mono ρ _ _ (λops q=>⟨q.1,q.2.1,m _ _ q.2.2⟩) q
 run:=PE.weak (zrI h.run) λσ H Q q=>by
  obtain⟨ρ,Fz,R,q⟩:=q;refine⟨ρ,Fz,R,h.mono ρ _ _ (λops q vs Fz' H' x o=>?_) q⟩;obtain⟨hn,hl,q⟩:=q;obtain⟨F2,x2,s2,h2⟩:=o.frozen x hn;have len:=h2.length;rw[Xb]at len;refine⟨by lia,λp hp=>q _ F2 _ ⟨x2.laid hp,?_⟩⟩;show Den _ _ _ _ _;simp only[Den];refine⟨p,vs,rfl,zal,DenL.mono (Keep.of (λb u e=>by rw[zaj (zaD e hp)];exact e)) (λ_ h=>h) _ _ h2⟩
theorem zbp (h:PuA X es t):PuE X (.List es pos) (pLst t) where
 mono ρ Q Q' m q:=h.mono ρ _ _ (λops q=>⟨q.1,q.2.1,m _ _ q.2.2⟩) q
 run:=PE.weak (zpc h.run) λσ H Q q=>by
  obtain⟨ρ,Fz,R,q⟩:=q;refine⟨ρ,Fz,R,h.mono ρ _ _ (λops q vs Fz' H' x o=>?_) q⟩;obtain⟨hn,hl,q⟩:=q;obtain⟨F2,x2,s2,h2⟩:=o.frozen x hn;have len:=h2.length;rw[Xb]at len;refine⟨by lia,λp hp=>q _ F2 _ ⟨x2.laid hp,p,rfl,x.same.free hp,λz=>x2.al p z hp,vs,zal,?_⟩⟩;exact DenL.mono (Keep.of (λb u e=>by rw[zaj (zaD e hp)];exact e)) (λ_ h=>h) _ _ h2
end
mutual
noncomputable def zbD:PV->Bool
 | .tup ds=>zaG ds
 | .lst _=>false
 | .dK _ _=>false
 | .dT _ _=>false
 | .obj _ _ _=>false
 | _=>true
noncomputable def zaG:List PV->Bool
 | []=>true
 | d::ds=>zbD d&&zaG ds
end
section
variable {K:Xa}{Fz Fz':FZ}{H:Hp}
mutual
theorem zfP:∀(d:PV)(v:V),zbD d=true->Den K Fz H d v->Den K Fz' H d v
 | .non,v,_,h=>by simpa only[Den]using h
 | .bl b,v,_,h=>by simpa only[Den]using h
 | .int i,v,_,h=>by simpa only[Den]using h
 | .str x,v,_,h=>by simpa only[Den]using h
 | .ty n,v,_,h=>by simpa only[Den]using h
 | .tup ds,v,n,h=>by
  simp only[zbD]at n;simp only[Den]at h ⊢;obtain⟨a,xs,e,h1,h2⟩:=h;exact⟨a,xs,e,h1,zbZ ds xs n h2⟩
 | .lst ds,v,n,h=>by simp only[zbD]at n;exact absurd n (by decide)
 | .dK ks ds,v,n,h=>by simp only[zbD]at n;exact absurd n (by decide)
 | .dT ks ds,v,n,h=>by simp only[zbD]at n;exact absurd n (by decide)
theorem zbZ:∀(ds:List PV)(xs:List V),zaG ds=true->DenL K Fz H ds xs->DenL K Fz' H ds xs
 | [],xs,_,h=>by simpa only[DenL]using h
 | d::ds,xs,n,h=>by
  simp only[zaG,Bool.and_eq_true]at n;simp only[DenL]at h ⊢;obtain⟨v,r,e,h1,h2⟩:=h;exact⟨v,r,e,zfP d v n.1 h1,zbZ ds r n.2 h2⟩
end
end
noncomputable def zbt:PV->Kd->Bool
 | .lst ds,.new=>zaG ds
 | .dK _ ds,.new=>zaG ds
 | .dT _ ds,.new=>zaG ds
 | d,_=>zbD d
theorem zgx {K:Xa}{Fz Fz':FZ}{H H':Hp}{d:PV}{k:Kd}{v:V}(n:zbt d k=true)(hal:∀b,Fz' b->H b≠none)(h:Opd K Fz H' [] [] H d k v):Opd K Fz' H' [] [] H d k v:=by
 cases k with
 | frz=>
  have n':zbD d=true:=by cases d<;>exact n
  exact zfP d v n' h
 | own i=>exact h
 | new=>
  obtain⟨a,e,hn,_,o⟩:=h;refine⟨a,e,hn,λz=>hal a z hn,?_⟩;cases d with
  | lst ds=>obtain⟨xs,h1,h2⟩:=o;exact⟨xs,h1,zbZ ds xs n h2⟩
  | dK ks ds=>obtain⟨xs,h1,h2,h3⟩:=o;exact⟨xs,h1,h2,zbZ ds xs n h3⟩
  | dT ks ds=>obtain⟨xs,h1,h2,h3⟩:=o;exact⟨xs,h1,h2,zbZ ds xs n h3⟩
  | non=>exact o.elim
  | bl b=>exact o.elim
  | int i=>exact o.elim
  | str x=>exact o.elim
  | ty n=>exact o.elim
  | tup ds=>exact o.elim
  | obj C ks ds=>exact o.elim
noncomputable abbrev PF:=List PV->(PV->Kd->Prop)->Prop
noncomputable def zbs (F:PF):Prop:=∀ds Q Q',(∀d k,Q d k->Q' d k)->F ds Q->F ds Q'
noncomputable def spP (K:Xa)(F:PF):Sp:=λvs H Q _=>∃Fz ds,(∀b,Fz b->H b≠none)/\DenL K Fz H ds vs/\F ds λd k=>∀v Fz' H',Post K [] [] Fz H Fz' H' d k v->Q v H'
theorem OpdL.all {K:Xa}{ρ:PEnv}{σ:St}{Fz Fz':FZ}{H H':Hp}(R:Rel K Fz ρ σ H)(x:Ext Fz H Fz' H'):∀ {ops:List (PV×Kd)}{vs:List V},OpdL K Fz' H' ρ σ H ops vs->
  ∃Fz2,(∀b,Fz' b->Fz2 b)/\(∀b,Fz2 b->H' b≠none)/\DenL K Fz2 H' (ops.map (·.1)) vs
 | _,_,.nil=>⟨Fz',λ_ h=>h,x.al,DenL.nil⟩
 | (d,k)::ops,v::vs,.cons h t=>by
  obtain⟨F2,s2,a2,h2⟩:=OpdL.all R x t;have addr:∀a,v=.ref a->Own K Fz' H' d a->∃Fz2,(∀b,Fz' b->Fz2 b)/\(∀b,Fz2 b->H' b≠none)/\DenL K Fz2 H' ((d,k)::ops |>.map (·.1)) (v::vs):=λa e o=>by
   subst e;refine⟨λb=>F2 b\/b=a,λb h=>.inl (s2 b h),λb hb=>?_,DenL.cons ?_ (DenL.mono (Keep.of (Same.refl _)) (λb h=>.inl h) _ _ h2)⟩
   ·rcases hb with hb | rfl
    ·exact a2 b hb
    ·obtain⟨o',e,_⟩:=o.at;rw[e];exact λz=>nomatch z
   ·exact(o.mono (Fz':=λb=>F2 b\/b=a) (Keep.of (Same.refl _)) (λb h=>.inl (s2 b h)) (λ_ h=>h)).den (.inr rfl)
  cases k with
  | frz=>exact⟨F2,s2,a2,DenL.cons (Den.mono (Keep.of (Same.refl _)) s2 _ _ h) h2⟩
  | new=>obtain⟨a,e,_,_,o⟩:=h;exact addr a e o
  | own i=>
   obtain⟨h1,h2'⟩:=h;obtain⟨a,e,_,o⟩:=(R.ext x).own i d h1;rw[h2']at e;cases e;exact addr a rfl o
noncomputable def zbc (F:PF)(t:TPA):TPE:=λρ Q=>t ρ λops=>F (ops.map (·.1)) λd k=>(noOwn ops=true\/zbt d k=true)/\Q d k
section
variable {X:Cx}{k:Nat}{f:Addr}{fd:FuncData}{ps:List Str}{F:PF}{x:Str}{p pos:Pos}{e:Expr}{es:List Expr}{t:TPA}
theorem znX {σ:St}{H:Hp}{Q:VK}(ha:PuA X es t)(m:zbs F)(h:lift X.K (zbc F t) σ H Q):zrJ (spP X.K F) [] E0 (zqh X.K t) σ H Q:=by
 obtain⟨ρ,Fz,R,h⟩:=h;refine⟨ρ,Fz,R,ha.mono ρ _ _ (λops h vs Fz' H' x o=>?_) h⟩;show spP X.K F (vs++[]) H' Q E0;rw[Yn];by_cases hn:noOwn ops=true
 ·obtain⟨F2,x2,s2,h2⟩:=o.frozen x hn;refine⟨F2,ops.map (·.1),x2.al,h2,m _ _ _ (λd k q v Fz3 H3 p3=>?_) h⟩;exact q.2 v Fz3 H3 (p3.behind x2)
 ·obtain⟨F2,s2,a2,h2⟩:=o.all R x;refine⟨F2,ops.map (·.1),a2,h2,m _ _ _ (λd k q v Fz3 H3 p3=>?_) h⟩;have nm:zbt d k=true:=q.1.resolve_left hn;have al:∀b,Fz' b->H3 b≠none:=λb hb z=>x.al b hb (p3.ext.same.free z);refine q.2 v Fz' H3 ⟨⟨x.same.trans p3.ext.same,x.sub,x.new,al⟩,?_⟩;exact((zgx nm x.al p3.opd).up).back x.same
theorem zao (G:FnOk X.prog X.w X.K X.mg X.base CX0 k f fd ps (spP X.K F))(m:zbs F)(hr:Room k X.A)(hg:Gl X x)(hm:X.mg x=some (.ref f))(hk:Xz X.K (.ref f)=true)(hb:Binds X.K fd ps [])(ha:PuA X (e::es) t)
  (hd:autoParam ((x == ("__debug__" : Str))=false) aU1) (he:autoParam (starEach (e::es) X.env=(false,eval e X.env)::starEach es X.env) aU0) (hpl:autoParam ((backTo pos (starEach es X.env)).any (·.1)=false) aU0) :
  PuE X (.Call (.Name x p) (e::es) [] pos) (zbc F t) where
 mono ρ Q Q' mm h:=ha.mono ρ _ _ (λops h=>m _ _ _ (λd k q=>⟨q.1,mm _ _ q.2⟩) h) h
 run:=PE.weak (zpK G hr hg hm hk hb .nil znU ha.run hd he hpl) λσ H Q h=>znX ha m h
end
structure zeh (K:Xa)(r:List V->Hp->VK->Prop)(p:PF):Prop where
 mono:zbs p
 run:∀Fz H ds vs Q,(∀b,Fz b->H b≠none)->zlS K Fz H ds vs->p ds (λz k=>∀v Fz' H',Post K [] [] Fz H Fz' H' z k v->Q v H')->r vs H Q
noncomputable def tB (p:PF)(t:TPA):TPE:=λρ Q=>t ρ λops=>p (ops.map (·.1)) Q
section
variable {X:Cx}{x:Str}{p pos:Pos}{e:Expr}{es:List Expr}{t:TPA}{id T:String}{r:List V->Hp->VK->Prop}{pf:PF}
theorem zsh {σ:St}{H:Hp}{Q:VK}(ha:PuA X es t)(m:zeh X.K r pf)(h:lift X.K (tB pf t) σ H Q):tCB r (zqh X.K t) σ H Q:=by
 obtain⟨ρ,Fz,R,h⟩:=h;refine⟨ρ,Fz,R,ha.mono ρ _ _ (λops h vs Fz' H' x o=>?_) h⟩;exact m.run Fz' H' _ vs Q x.al (o.root R x) (m.mono _ _ _ (λd k q v Fz3 H3 p3=>q v Fz3 H3 (p3.behind x)) h)
theorem zcD (hc:zdo X (.builtin id) r)(m:zeh X.K r pf)(hg:Gl X x)(hm:X.mg x=none)(hv:bootBuiltins x=some (.builtin id))(ha:PuA X (e::es) t)(hn:autoParam (x≠"__name__") aU1) (hdb:autoParam ((x == ("__debug__" : Str))=false) aU1)
  (he:autoParam (starEach (e::es) X.env=(false,eval e X.env)::starEach es X.env) aU0) (hpl:autoParam ((backTo pos (starEach es X.env)).any (·.1)=false) aU0):PuE X (.Call (.Name x p) (e::es) [] pos) (tB pf t) where
 mono ρ Q Q' mm h:=ha.mono ρ _ _ (λops h=>m.mono _ _ _ mm h) h
 run:=PE.weak (znN hc hg hm hv ha.run hn hdb he hpl) λσ H Q h=>zsh ha m h
theorem zeA (hc:zdo X (.type T) r)(m:zeh X.K r pf)(hg:Gl X x)(hm:X.mg x=none)(hv:bootBuiltins x=some (.type T))(ha:PuA X (e::es) t)(hn:autoParam (x≠"__name__") aU1) (hdb:autoParam ((x == ("__debug__" : Str))=false) aU1)
  (he:autoParam (starEach (e::es) X.env=(false,eval e X.env)::starEach es X.env) aU0) (hpl:autoParam ((backTo pos (starEach es X.env)).any (·.1)=false) aU0):PuE X (.Call (.Name x p) (e::es) [] pos) (tB pf t) where
 mono ρ Q Q' mm h:=ha.mono ρ _ _ (λops h=>m.mono _ _ _ mm h) h
 run:=PE.weak (zlA hc hg hm hv ha.run hn hdb he hpl) λσ H Q h=>zsh ha m h
end
end PL
namespace PL
open PySem PySem.Spec L2
open PyProof.Rows hiding St
structure POut where
 nx:PEnv->Prop
 rt:PV->Kd->Prop
 bk:PEnv->Prop
 ct:PEnv->Prop
structure POut.le (O O':POut):Prop where
 nx:∀ρ,O.nx ρ->O'.nx ρ
 rt:∀d k,O.rt d k->O'.rt d k
 bk:∀ρ,O.bk ρ->O'.bk ρ
 ct:∀ρ,O.ct ρ->O'.ct ρ
noncomputable abbrev TPS:=PEnv->POut->Prop
noncomputable def Hold (t:TPS)(O:POut)(ρ:PEnv):Prop:=t ρ O
noncomputable def zsi (c:TPT)(ρ:PEnv)(Q:Bool->Prop):Prop:=c ρ Q
theorem zbu {c:TPT}{ρ:PEnv}{Q:Bool->Prop}(h:c ρ Q):zsi c ρ Q:=h
theorem hold {t:TPS}{O:POut}{ρ:PEnv}(h:t ρ O):Hold t O ρ:=h
structure Step (ρ:PEnv)(σ:St)(Fz:FZ)(H:Hp)(Fz':FZ)(H':Hp):Prop where
 sub:∀b,Fz b->Fz' b
 new:∀b,Fz' b->Fz b\/H b=none\/zaZ ρ σ b
 keep:∀b o,H b=some o->¬ zaZ ρ σ b->H' b=some o
noncomputable def zaL (ρ:PEnv)(σ:St)(H:Hp)(ρ':PEnv)(σ':St):Prop:=∀b,zaZ ρ' σ' b->zaZ ρ σ b\/H b=none
theorem Step.of {ρ:PEnv}{σ:St}{Fz Fz':FZ}{H H':Hp}(x:Ext Fz H Fz' H'):Step ρ σ Fz H Fz' H':=
 ⟨x.sub,λb h=>(x.new b h).elim .inl (λh=>.inr (.inl h)),λb o e _=>x.same b o e⟩
theorem Step.none {ρ:PEnv}{σ:St}{Fz Fz':FZ}{H H':Hp}(s:Step ρ σ Fz H Fz' H'){b:Addr}(h:H' b=Option.none):H b=Option.none\/zaZ ρ σ b:=by
 by_cases o:zaZ ρ σ b
 ·exact .inr o
 ·cases e:H b with
  | none=>exact .inl rfl
  | some u=>rw[s.keep b u e o]at h;cases h
theorem Step.trans {ρ ρ':PEnv}{σ σ':St}{F1 F2 F3:FZ}{H1 H2 H3:Hp}(a:Step ρ σ F1 H1 F2 H2)(oi:zaL ρ σ H1 ρ' σ')(b:Step ρ' σ' F2 H2 F3 H3):Step ρ σ F1 H1 F3 H3:=
 ⟨λc h=>b.sub c (a.sub c h),λc h=>by
  rcases b.new c h with h | h | h
  ·exact a.new c h
  ·exact .inr (a.none h)
  ·exact .inr ((oi c h).symm),λc o e n=>by
  refine b.keep c o (a.keep c o e n) λz=>?_;rcases oi c z with z | z
  ·exact n z
  ·rw[e]at z;cases z⟩
theorem zaL.trans {ρ ρ' ρ'':PEnv}{σ σ' σ'':St}{F1 F2:FZ}{H1 H2:Hp}(a:Step ρ σ F1 H1 F2 H2)(oi:zaL ρ σ H1 ρ' σ')(oj:zaL ρ' σ' H2 ρ'' σ''):zaL ρ σ H1 ρ'' σ'':=λc h=>by
 rcases oj c h with h | h
 ·exact oi c h
 ·exact(a.none h).symm
theorem zaL.refl (ρ:PEnv)(σ:St)(H:Hp):zaL ρ σ H ρ σ:=λ_ h=>.inl h
noncomputable def Ret (K:Xa)(ρ:PEnv)(σ:St)(H:Hp)(Fz':FZ)(H':Hp)(d:PV):Kd->V->Prop
 | .frz,v=>Den K Fz' H' d v
 | .new,v=>∃a,v=.ref a/\¬ Fz' a/\Own K Fz' H' d a/\(zaZ ρ σ a\/H a=none)
 | .own _,_=>False
noncomputable def zfQ (K:Xa)(D:Ends)(ρ:PEnv)(σ:St)(Fz:FZ)(H:Hp):POut where
 nx:=λρ'=>∀σ' Fz' H',Step ρ σ Fz H Fz' H'->zaL ρ σ H ρ' σ'->Rel K Fz' ρ' σ' H'->D.nx σ' H'
 bk:=λρ'=>∀σ' Fz' H',Step ρ σ Fz H Fz' H'->zaL ρ σ H ρ' σ'->Rel K Fz' ρ' σ' H'->D.bk σ' H'
 ct:=λρ'=>∀σ' Fz' H',Step ρ σ Fz H Fz' H'->zaL ρ σ H ρ' σ'->Rel K Fz' ρ' σ' H'->D.ct σ' H'
 rt:=λd k=>∀v Fz' H',Step ρ σ Fz H Fz' H'->(∀b,Fz' b->H' b≠none)->Ret K ρ σ H Fz' H' d k v->D.rt v H'
noncomputable def znY (K:Xa)(t:TPS):TS:=λD σ H=>∃ρ Fz,Rel K Fz ρ σ H/\t ρ (zfQ K D ρ σ Fz H)
structure PuS (X:Cx)(st:Stmt)(t:TPS):Prop where
 mono:∀ρ O O',O.le O'->t ρ O->t ρ O'
 run:PS X st (znY X.K t)
structure PuSs (X:Cx)(st:List Stmt)(t:TPS):Prop where
 mono:∀ρ O O',O.le O'->t ρ O->t ρ O'
 run:PSs X st (znY X.K t)
theorem PS.weak {X:Cx}{e:Stmt}{t t':TS}(h:PS X e t)(w:∀D σ H,t' D σ H->t D σ H):PS X e t':=λpins s σ H D I q=>h pins s σ H D I (w D σ H q)
theorem PSs.weak {X:Cx}{e:List Stmt}{t t':TS}(h:PSs X e t)(w:∀D σ H,t' D σ H->t D σ H):PSs X e t':=λpins s σ H D I q=>h pins s σ H D I (w D σ H q)
theorem znZ {K:Xa}{D D':Ends}{ρ ρ':PEnv}{σ σ':St}{Fz Fz':FZ}{H H':Hp}(s:Step ρ σ Fz H Fz' H')(oi:zaL ρ σ H ρ' σ')(h1:∀σ H,D.nx σ H->D'.nx σ H)(h2:∀v H,D.rt v H->D'.rt v H)(h3:∀σ H,D.bk σ H->D'.bk σ H)(h4:∀σ H,D.ct σ H->D'.ct σ H) :
  (zfQ K D ρ σ Fz H).le (zfQ K D' ρ' σ' Fz' H') where
 nx ρ2 q σ2 F2 H2 s2 o2 R2:=h1 _ _ (q σ2 F2 H2 (s.trans oi s2) (zaL.trans s oi o2) R2)
 bk ρ2 q σ2 F2 H2 s2 o2 R2:=h3 _ _ (q σ2 F2 H2 (s.trans oi s2) (zaL.trans s oi o2) R2)
 ct ρ2 q σ2 F2 H2 s2 o2 R2:=h4 _ _ (q σ2 F2 H2 (s.trans oi s2) (zaL.trans s oi o2) R2)
 rt d k q v F2 H2 s2 al r:=h2 _ _ (q v F2 H2 (s.trans oi s2) al (by
  cases k with
  | frz=>exact r
  | own i=>exact r
  | new=>
   obtain⟨a,e,nf,o,w⟩:=r;refine⟨a,e,nf,o,?_⟩;rcases w with w | w
   ·exact oi a w
   ·exact(s.none w).symm))
theorem zdv {K:Xa}{D:Ends}{ρ ρ':PEnv}{σ σ':St}{Fz Fz':FZ}{H H':Hp}(s:Step ρ σ Fz H Fz' H')(oi:zaL ρ σ H ρ' σ'):(zfQ K D ρ σ Fz H).le (zfQ K D ρ' σ' Fz' H'):=
 znZ s oi (λ_ _ h=>h) (λ_ _ h=>h) (λ_ _ h=>h) (λ_ _ h=>h)
section
variable {X:Cx}{st:Stmt}{rest:List Stmt}{t u:TPS}{e:Expr}{te:TPE}{pos:Pos}
noncomputable def zcy:TPS:=λρ O=>O.nx ρ
noncomputable def pSeq (t u:TPS):TPS:=λρ O=>t ρ { O with nx:=Hold u O }
theorem zaR:PuSs X [] zcy where
 mono ρ O O' m h:=m.nx _ h
 run:=PSs.weak zlp λD σ H h=>by
  obtain⟨ρ,Fz,R,h⟩:=h;exact h σ Fz H (.of ⟨Same.refl H,λ_ h=>h,λ_ h=>.inl h,R.al⟩) (zaL.refl ρ σ H) R
theorem zaf (h1:PuS X st t):PuSs X [st] t:=⟨h1.mono,ziJ h1.run⟩
theorem zae (h1:PuS X st t)(h2:PuSs X rest u):PuSs X (st::rest) (pSeq t u) where
 mono ρ O O' m h:=h1.mono ρ { O with nx:=λρ'=>u ρ' O } _ ⟨λρ' q=>h2.mono ρ' _ _ m q,m.rt,m.bk,m.ct⟩ h
 run:=PSs.weak (zcR h1.run h2.run) λD σ H h=>by
  obtain⟨ρ,Fz,R,h⟩:=h;refine⟨ρ,Fz,R,h1.mono ρ { zfQ X.K D ρ σ Fz H with nx:=λρ'=>u ρ' (zfQ X.K D ρ σ Fz H) } _ ⟨λρ' q=>?_,λ_ _ q=>q,λ_ q=>q,λ_ q=>q⟩ h⟩;intro σ' Fz' H' s oi R';exact⟨ρ',Fz',R',h2.mono ρ' _ _ (zdv s oi) q⟩
noncomputable def pRet (te:TPE):TPS:=λρ O=>te ρ λd k=>O.rt d (match k with | .frz=>.frz | _=>.new)
theorem zaw (he:PuE X e te):PuS X (.Return (some e) pos) (pRet te) where
 mono ρ O O' m h:=he.mono ρ _ _ (λ_ _ q=>m.rt _ _ q) h
 run:=PS.weak (zru he.run) λD σ H h=>by
  obtain⟨ρ,Fz,R,h⟩:=h;refine⟨ρ,Fz,R,he.mono ρ _ _ (λd k q v Fz' H' p=>q v Fz' H' (.of p.ext) p.ext.al ?_) h⟩;cases k with
  | frz=>exact p.opd
  | new=>obtain⟨a,e,hn,nf,o⟩:=p.opd;exact⟨a,e,nf,o,.inr hn⟩
  | own i=>
   obtain⟨h1,h2⟩:=p.opd;obtain⟨a,e,nf,o⟩:=(R.ext p.ext).own i d h1;rw[h2]at e;cases e;exact⟨a,rfl,nf,o,.inl ⟨i,d,h1,h2⟩⟩
noncomputable def pIf (c:TPT)(t u:TPS):TPS:=λρ O=>c ρ λb=>if b=true then Hold t O ρ else Hold u O ρ
theorem zce {c:Expr}{a b:List Stmt}{tc:TPT}(hc:PuT X c tc)(ha:PuSs X a t)(hb:PuSs X b u):PuS X (.If c a b pos) (pIf tc t u) where
 mono ρ O O' m h:=hc.mono ρ _ _ (λd q=>by
  cases d with
  | true=>rw[if_pos rfl]at q ⊢;exact ha.mono ρ _ _ m q
  | false=>rw[if_neg Xs]at q ⊢;exact hb.mono ρ _ _ m q) h
 run:=PS.weak (ztg hc.run ha.run hb.run) λD σ H h=>by
  obtain⟨ρ,Fz,R,h⟩:=h;refine⟨ρ,Fz,R,hc.mono ρ _ _ (λd q Fz' H' x=>?_) h⟩;cases d with
  | true=>
   rw[if_pos rfl]at q ⊢;exact⟨ρ,Fz',R.ext x,ha.mono ρ _ _ (zdv (.of x) (zaL.refl ρ σ H)) q⟩
  | false=>
   rw[if_neg Xs]at q ⊢;exact⟨ρ,Fz',R.ext x,hb.mono ρ _ _ (zdv (.of x) (zaL.refl ρ σ H)) q⟩
noncomputable def zcO (i:Nat)(ρ:PEnv):PEnv:=match ρ[i]? with
 | some (some (d,true))=>ρ.set i (some (d,false))
 | _=>ρ
noncomputable def pFrz (i:Nat)(t:TPS):TPS:=λρ O=>t (zcO i ρ) O
end
section
variable {K:Xa}{Fz:FZ}{ρ:PEnv}{σ:St}{H:Hp}
theorem Rel.set {i:Nat}{d:PV}{v:V}(R:Rel K Fz ρ σ H)(h:Den K Fz H d v):Rel K Fz (ρ.set i (some (d,false))) (σ.set i (some v)) H where
 al:=R.al
 len:=by rw[Yb,Yb];exact R.len
 frz j e he:=by
  by_cases hij:i=j
  ·subst hij;by_cases hi:i<ρ.length
   ·rw[Xl hi]at he;cases he;exact⟨v,by rw[Xl (by rw[<- R.len];exact hi)],h⟩
   ·rw[XS (by lia),Xw (by lia)]at he;cases he
  ·rw[Xg hij]at he ⊢;exact R.frz j e he
 own j e he:=by
  by_cases hij:i=j
  ·subst hij;by_cases hi:i<ρ.length
   ·rw[Xl hi]at he;cases he
   ·rw[XS (by lia),Xw (by lia)]at he;cases he
  ·rw[Xg hij]at he ⊢;exact R.own j e he
 inj j k d' e a h1 h2 h3 h4:=by
  have nj:i≠j:=λz=>by
   subst z;by_cases hi:i<ρ.length
   ·rw[Xl hi]at h1;cases h1
   ·rw[XS (by lia),Xw (by lia)]at h1;cases h1
  have nk:i≠k:=λz=>by
   subst z;by_cases hi:i<ρ.length
   ·rw[Xl hi]at h2;cases h2
   ·rw[XS (by lia),Xw (by lia)]at h2;cases h2
  rw[Xg nj]at h1 h3;rw[Xg nk]at h2 h4;exact R.inj j k d' e a h1 h2 h3 h4
theorem zei {i:Nat}{d:PV}{v:V}:∀b,zaZ (ρ.set i (some (d,false))) (σ.set i (some v)) b->zaZ ρ σ b:=λb ⟨j,e,h1,h2⟩=>by
 have nj:i≠j:=λz=>by
  subst z;by_cases hi:i<ρ.length
  ·rw[Xl hi]at h1;cases h1
  ·rw[XS (by lia),Xw (by lia)]at h1;cases h1
 rw[Xg nj]at h1 h2;exact⟨j,e,h1,h2⟩
theorem Rel.zsj {i:Nat}{d:PV}{a:Addr}(R:Rel K Fz ρ σ H)(nf:¬ Fz a)(h:Own K Fz H d a)(hno:¬ zaZ ρ σ a):Rel K Fz (ρ.set i (some (d,true))) (σ.set i (some (.ref a))) H where
 al:=R.al
 len:=by rw[Yb,Yb];exact R.len
 frz j e he:=by
  by_cases hij:i=j
  ·subst hij;by_cases hi:i<ρ.length
   ·rw[Xl hi]at he;cases he
   ·rw[XS (by lia),Xw (by lia)]at he;cases he
  ·rw[Xg hij]at he ⊢;exact R.frz j e he
 own j e he:=by
  by_cases hij:i=j
  ·subst hij;by_cases hi:i<ρ.length
   ·rw[Xl hi]at he;cases he;exact⟨a,by rw[Xl (by rw[<- R.len];exact hi)],nf,h⟩
   ·rw[XS (by lia),Xw (by lia)]at he;cases he
  ·rw[Xg hij]at he ⊢;exact R.own j e he
 inj j k d' e b h1 h2 h3 h4:=by
  by_cases hj:i=j
  ·by_cases hk:i=k
   ·rw[<- hj,<- hk]
   ·subst hj;rw[Xg hk]at h2 h4;by_cases hi:i<σ.length
    ·rw[Xl hi]at h3;cases h3;exact absurd ⟨k,e,h2,h4⟩ hno
    ·rw[XS (by lia),Xw (by lia)]at h3;cases h3
  ·by_cases hk:i=k
   ·subst hk;rw[Xg hj]at h1 h3;by_cases hi:i<σ.length
    ·rw[Xl hi]at h4;cases h4;exact absurd ⟨j,d',h1,h3⟩ hno
    ·rw[XS (by lia),Xw (by lia)]at h4;cases h4
   ·rw[Xg hj]at h1 h3;rw[Xg hk]at h2 h4;exact R.inj j k d' e b h1 h2 h3 h4
theorem zkN {i:Nat}{d:PV}{a:Addr}:∀b,zaZ (ρ.set i (some (d,true))) (σ.set i (some (.ref a))) b->b=a\/zaZ ρ σ b:=λb ⟨j,e,h1,h2⟩=>by
 by_cases hij:i=j
 ·subst hij;by_cases hi:i<σ.length
  ·rw[Xl hi]at h2;cases h2;exact .inl rfl
  ·rw[XS (by lia),Xw (by lia)]at h2;cases h2
 ·rw[Xg hij]at h1 h2;exact .inr ⟨j,e,h1,h2⟩
theorem Rel.frozen {i:Nat}(R:Rel K Fz ρ σ H):∃Fz',Rel K Fz' (zcO i ρ) σ H/\Step ρ σ Fz H Fz' H/\zaL ρ σ H (zcO i ρ) σ:=by
 unfold zcO;split
 ·rename_i d he
  obtain⟨a,e,nf,o⟩:=R.own i d he;have R2:Rel K (λb=>Fz b\/b=a) (ρ.set i (some (d,false))) (σ.set i (some (.ref a))) H:=by
   have hno:∀j d',i≠j->ρ[j]? = some (some (d',true))->σ[j]?≠some (some (.ref a)):=λj d' hne h1 h2=>hne (R.inj i j d d' a he h1 e h2);have hal:∀b,(Fz b\/b=a)->H b≠none:=λb hb=>by
    rcases hb with hb | rfl
    ·exact R.al b hb
    ·obtain⟨o',q,_⟩:=o.at;rw[q];exact λz=>nomatch z
   refine⟨hal,by rw[Yb,Yb];exact R.len,λj e' he'=>?_,λj e' he'=>?_,λj k d' e' b h1 h2 h3 h4=>?_⟩
   ·by_cases hij:i=j
    ·subst hij;have hi:i<ρ.length:=(Xc.mp he).1;rw[Xl hi]at he';cases he';exact⟨_,by rw[Xl (by rw[<- R.len];exact hi)],(o.mono (Fz':=λb=>Fz b\/b=a) (Keep.of (Same.refl _)) (λ_ h=>.inl h) (λ_ h=>h)).den (.inr rfl)⟩
    ·rw[Xg hij]at he' ⊢;obtain⟨v,q1,q2⟩:=R.frz j e' he';exact⟨v,q1,Den.mono (Keep.of (Same.refl _)) (λ_ h=>.inl h) _ _ q2⟩
   ·have hij:i≠j:=λz=>by
     subst z;have hi:i<ρ.length:=(Xc.mp he).1;rw[Xl hi]at he';cases he'
    rw[Xg hij]at he' ⊢;obtain⟨b,q1,q2,q3⟩:=R.own j e' he';refine⟨b,q1,λz=>?_,q3.mono (Keep.of (Same.refl _)) (λ_ h=>.inl h) (λ_ h=>h)⟩;rcases z with z | z
    ·exact q2 z
    ·subst z;exact hno j e' hij he' q1
   ·have hi:i<ρ.length:=(Xc.mp he).1;have nj:i≠j:=λz=>by subst z;rw[Xl hi]at h1;cases h1
    have nk:i≠k:=λz=>by subst z;rw[Xl hi]at h2;cases h2
    rw[Xg nj]at h1 h3;rw[Xg nk]at h2 h4;exact R.inj j k d' e' b h1 h2 h3 h4
  have es:σ.set i (some (.ref a))=σ:=List.ext_getElem? λj=>by
   by_cases hij:i=j
   ·subst hij;rw[Xl (Xc.mp e).1,e]
   ·rw[Xg hij]
  refine⟨λb=>Fz b\/b=a,by rw[es]at R2;exact R2,⟨λ_ h=>.inl h,λb hb=>?_,λb o e _=>e⟩,λb hb=>?_⟩
  ·rcases hb with hb | rfl
   ·exact .inl hb
   ·exact .inr (.inr ⟨i,d,he,e⟩)
  ·have:=zei (ρ:=ρ) (σ:=σ) (i:=i) (d:=d) (v:=.ref a) b (by rw[es];exact hb);exact .inl this
 ·exact⟨Fz,R,.of ⟨Same.refl H,λ_ h=>h,λ_ h=>.inl h,R.al⟩,zaL.refl ρ σ H⟩
end
section
variable {X:Cx}{st:Stmt}{sts:List Stmt}{t:TPS}
theorem zdw (i:Nat)(h:PuS X st t):PuS X st (pFrz i t) where
 mono ρ O O' m q:=h.mono _ _ _ m q
 run:=PS.weak h.run λD σ H q=>by
  obtain⟨ρ,Fz,R,q⟩:=q;obtain⟨F2,R2,s2,o2⟩:=R.frozen (i:=i);exact⟨_,F2,R2,h.mono _ _ _ (zdv s2 o2) q⟩
end
noncomputable def pSet (i:Nat)(te:TPE):TPS:=λρ O=>te ρ λd k=>match k with
 | .frz=>O.nx (ρ.set i (some (d,false)))
 | .new=>O.nx (ρ.set i (some (d,true)))
 | .own _=>False
theorem zjC {X:Cx}{e:Expr}{te:TPE}{i:Nat}(he:PuE X e te){D:Ends}{σ:St}{H:Hp}(h:znY X.K (pSet i te) D σ H):tAsg (lift X.K te) (znD i) D σ H:=by
 obtain⟨ρ,Fz,R,h⟩:=h;refine⟨ρ,Fz,R,he.mono ρ _ _ (λd k q v Fz' H' p=>?_) h⟩;show D.nx (σ.set i (some v)) H';have R':=R.ext p.ext;cases k with
 | frz=>exact(show(zfQ X.K D ρ σ Fz H).nx (ρ.set i (some (d,false))) from q) _ Fz' H' (.of p.ext) (λb hb=>.inl (zei b hb)) (R'.set p.opd)
 | own j=>exact q.elim
 | new=>
  obtain⟨a,e,hn,nf,o⟩:=p.opd;subst e;have hno:¬ zaZ ρ σ a:=λ⟨j,e,h1,h2⟩=>by
   obtain⟨b,q1,_,q2⟩:=R.own j e h1;rw[h2]at q1;cases q1;obtain⟨o',q3,_⟩:=q2.at;rw[hn]at q3;cases q3
  refine(show(zfQ X.K D ρ σ Fz H).nx (ρ.set i (some (d,true))) from q) _ Fz' H' (.of p.ext) (λb hb=>?_) (R'.zsj nf o hno);rcases zkN b hb with rfl | hb
  ·exact .inr hn
  ·exact .inl hb
theorem zhN {X:Cx}{e:Expr}{te:TPE}{i:Nat}(he:PuE X e te):∀ρ O O',POut.le O O'->pSet i te ρ O->pSet i te ρ O':=λρ O O' m h=>he.mono ρ _ _ (λd k q=>by
 cases k with
 | frz=>exact m.nx _ q
 | new=>exact m.nx _ q
 | own j=>exact q) h
section
variable {X:Cx}{e:Expr}{te:TPE}{pos:Pos}
theorem zah {i:Nat}{x:Str}{pos':Pos}(hN:X.N.Nodup)(hi:X.N[i]? = some x)(hx:Loc X.env.scope x)(he:PuE X e te)(hs:autoParam (swapsWith e (some (.Name x pos')) pos.line X.env=pure false) aU0)(hf:autoParam (X.fn x=true\/X.env.scope.names.lookup x=some .local) aU2) :
  PuS X (.Assign [.Name x pos'] e pos) (pSet i te):=
 ⟨zhN he,PS.weak (zhw hN hi hx he.run hs hf) λ_ _ _ h=>zjC he h⟩
end
noncomputable abbrev TPG:=PV->PEnv->(PEnv->Prop)->Prop
noncomputable abbrev TPGs:=List PV->PEnv->(PEnv->Prop)->Prop
noncomputable def zlT (K:Xa)(t:TPG):TG:=λv σ H Q=>∃ρ Fz d,Rel K Fz ρ σ H/\Den K Fz H d v/\t d ρ λρ'=>∀σ',Rel K Fz ρ' σ' H->(∀b,zaZ ρ' σ' b->zaZ ρ σ b)->Q σ' H
noncomputable def zsk (K:Xa)(t:TPGs):TGs:=λvs σ H Q=>∃ρ Fz ds,Rel K Fz ρ σ H/\DenL K Fz H ds vs/\t ds ρ λρ'=>∀σ',Rel K Fz ρ' σ' H->(∀b,zaZ ρ' σ' b->zaZ ρ σ b)->Q σ' H
structure PuG (X:Cx)(tg:Expr)(t:TPG):Prop where
 mono:∀d ρ Q Q',(∀ρ,Q ρ->Q' ρ)->t d ρ Q->t d ρ Q'
 run:PG X tg (zlT X.K t)
structure PuGs (X:Cx)(tgs:List Expr)(t:TPGs):Prop where
 mono:∀ds ρ Q Q',(∀ρ,Q ρ->Q' ρ)->t ds ρ Q->t ds ρ Q'
 run:PGs X tgs (zsk X.K t)
theorem PG.weak {X:Cx}{e:Expr}{t t':TG}(h:PG X e t)(w:∀v σ H Q,t' v σ H Q->t v σ H Q):PG X e t':=λpins s σ H v u Q I r q=>h pins s σ H v u Q I r (w v σ H Q q)
theorem PGs.weak {X:Cx}{e:List Expr}{t t':TGs}(h:PGs X e t)(w:∀v σ H Q,t' v σ H Q->t v σ H Q):PGs X e t':=λpins s σ H v u Q I r q=>h pins s σ H v u Q I r (w v σ H Q q)
noncomputable def zbA (i:Nat):TPG:=λd ρ Q=>Q (ρ.set i (some (d,false)))
noncomputable def zdg:TPGs:=λds ρ Q=>ds=[]/\Q ρ
noncomputable def zbI (t:TPG)(u:TPGs):TPGs:=λds ρ Q=>∃d r,ds=d::r/\t d ρ λρ'=>u r ρ' Q
noncomputable def zdh (n:Nat)(t:TPGs):TPG:=λd ρ Q=>∃ds,d=.tup ds/\ds.length=n/\t ds ρ Q
section
variable {X:Cx}{pos:Pos}
theorem zai {i:Nat}{x:Str}(hN:X.N.Nodup)(hi:X.N[i]? = some x)(hx:Loc X.env.scope x)(hf:autoParam (X.fn x=true\/X.env.scope.names.lookup x=some .local) aU2):PuG X (.Name x pos) (zbA i) where
 mono d ρ Q Q' m h:=m _ h
 run:=PG.weak (ziK hN hi hx hf) λv σ H Q h=>by
  obtain⟨ρ,Fz,d,R,hd,h⟩:=h;exact h _ (R.set hd) (λb hb=>zei b hb)
theorem zcT:PuGs X [] zdg where
 mono d ρ Q Q' m h:=⟨h.1,m _ h.2⟩
 run:=PGs.weak zpD λv σ H Q h=>by
  obtain⟨ρ,Fz,ds,R,hd,e,h⟩:=h;subst e;simp only[DenL]at hd;exact⟨hd,h σ R (λ_ h=>h)⟩
theorem zaH {e:Expr}{es:List Expr}{t:TPG}{u:TPGs}(h1:PuG X e t)(h2:PuGs X es u)
  (hs:autoParam ((assignEach (e::es) X.env).map (·.2)=assign e X.env::(assignEach es X.env).map (·.2)) aU0):PuGs X (e::es) (zbI t u) where
 mono ds ρ Q Q' m h:=by
  obtain⟨d,r,e,h⟩:=h;exact⟨d,r,e,h1.mono d ρ _ _ (λρ' q=>h2.mono r ρ' _ _ m q) h⟩
 run:=PGs.weak (znE h1.run h2.run hs) λvs σ H Q h=>by
  obtain⟨ρ,Fz,ds,R,hd,d,r,e,h⟩:=h;subst e;simp only[DenL]at hd;obtain⟨v,rs,e,d1,d2⟩:=hd;subst e;refine⟨v,rs,rfl,ρ,Fz,d,R,d1,h1.mono d ρ _ _ (λρ' q σ' R' o'=>?_) h⟩;exact⟨ρ',Fz,r,R',d2,h2.mono r ρ' _ _ (λρ2 q σ2 R2 o2=>q σ2 R2 (λb hb=>o' b (o2 b hb))) q⟩
theorem zej {es:List Expr}{k:Nat}{t:TPGs}{n:Nat}(hc:X.calm=true)(h:PuGs X es t)
  (hn:autoParam ((assignEach es X.env).length=n) aU0) (hst:autoParam ((assignEach es X.env).findIdx? (·.1)=none) aU0):PuG X (.Tuple es k pos) (zdh n t) where
 mono d ρ Q Q' m q:=by
  obtain⟨ds,e,l,q⟩:=q;exact⟨ds,e,l,h.mono ds ρ _ _ m q⟩
 run:=PG.weak (zrv hc h.run hn hst) λv σ H Q q=>by
  obtain⟨ρ,Fz,d,R,hd,ds,e,l,q⟩:=q;subst e;simp only[Den]at hd;obtain⟨a,xs,e,h1,h2⟩:=hd;have hl:=h2.length;exact⟨a,xs,e,SqT.of h1,by lia,ρ,Fz,ds,R,h2,q⟩
end
noncomputable def LocG (k:Nat)(t:TPG):Prop:=∀d ρ Q,t d ρ Q->t d ρ λρ'=>Q ρ'/\ρ'.length=ρ.length/\∀j,k<=j->ρ'[j]? = ρ[j]?
noncomputable def zsl (k:Nat)(t:TPGs):Prop:=∀d ρ Q,t d ρ Q->t d ρ λρ'=>Q ρ'/\ρ'.length=ρ.length/\∀j,k<=j->ρ'[j]? = ρ[j]?
theorem zbJ {k i:Nat}(h:i<k):LocG k (zbA i):=λd ρ Q q=>⟨q,by rw[Yb],λj hj=>by rw[Xg (by lia)]⟩
theorem zlU {k n:Nat}{t:TPGs}(h:zsl k t):LocG k (zdh n t):=λd ρ Q q=>by
 obtain⟨ds,e,l,q⟩:=q;exact⟨ds,e,l,h ds ρ _ q⟩
noncomputable def pUnp (te:TPE)(g:TPG):TPS:=λρ O=>te ρ λd k=>k=.frz/\g d ρ λρ'=>O.nx ρ'
theorem ziU {X:Cx}{tg e:Expr}{te:TPE}{g:TPG}{pos:Pos}(he:PuE X e te)(hg:PuG X tg g)(hs:autoParam (swapsWithSole [tg] e pos.line X.env=pure false) aU0)(hw:autoParam (swappedStores [tg] e X.env=pure none) aU0)
  (h1:autoParam ((assignEach [tg] X.env).map (·.2)=[assign tg X.env]) aU0):PuS X (.Assign [tg] e pos) (pUnp te g) where
 mono ρ O O' m h:=he.mono ρ _ _ (λd k q=>⟨q.1,hg.mono d ρ _ _ (λρ' q=>m.nx _ q) q.2⟩) h
 run:=PS.weak (zoX he.run hg.run hs hw h1) λD σ H h=>by
  obtain⟨ρ,Fz,R,h⟩:=h;refine⟨ρ,Fz,R,he.mono ρ _ _ (λd k q v Fz' H' p=>?_) h⟩;obtain⟨rfl,q⟩:=q;exact⟨ρ,Fz',d,R.ext p.ext,p.opd,hg.mono d ρ _ _ (λρ' q σ' R' o'=>q σ' Fz' H' (.of p.ext) (λb hb=>.inl (o' b hb)) R') q⟩
noncomputable abbrev TPI:=PEnv->(List PV->Bool->Prop)->Prop
noncomputable def Walk (K:Xa)(Fz:FZ)(o:Bool)(J:It)(its:List PV)(H:Hp):Prop:=∀H2,(Same H H2\/(o=false/\zhH Fz H H2))->∀i:Nat,
 (∀d,its[i]? = some d->J.go i H2/\∀x H3,J.yld i H2 x H3->Same H2 H3/\Den K Fz H3 d x)/\(its.length<=i->J.stop i H2)
noncomputable def zsm (K:Xa)(t:TPI):TI:=λσ H R=>∃ρ Fz,Rel K Fz ρ σ H/\t ρ λits o=>∀J Fz' H',Ext Fz H Fz' H'->Walk K Fz' o J its H'->R J H'
structure PuI (X:Cx)(tg iter:Expr)(t:TPI):Prop where
 mono:∀ρ Q Q',(∀its o,Q its o->Q' its o)->t ρ Q->t ρ Q'
 run:PI X tg iter (zsm X.K t)
theorem PI.weak {X:Cx}{tg e:Expr}{t t':TI}(h:PI X tg e t)(w:∀σ H Q,t' σ H Q->t σ H Q):PI X tg e t':=λpins s σ H Q I q=>h pins s σ H Q I (w σ H Q q)
noncomputable def isOwn:Kd->Bool
 | .own _=>true
 | _=>false
noncomputable def iLst (te:TPE):TPI:=λρ Q=>te ρ λd k=>∃ds,d=.lst ds/\Q ds (isOwn k)
noncomputable def zdx (te:TPE):TPI:=λρ Q=>te ρ λd k=>∃ds,d=.tup ds/\Q ds false
section
variable {X:Cx}{tg e:Expr}{te:TPE}
theorem zbg (he:PuE X e te):PuI X tg e (iLst te) where
 mono ρ Q Q' m h:=he.mono ρ _ _ (λd k q80q=>by obtain⟨ds,e,q⟩:=q80q;exact⟨ds,e,m _ _ q⟩) h
 run:=PI.weak (zpE he.run) λσ H Rr h=>by
  obtain⟨ρ,Fz,R,h⟩:=h;refine⟨ρ,Fz,R,he.mono ρ _ _ (λd k q v Fz' H' p=>?_) h⟩;obtain⟨ds,e,q⟩:=q;subst e;have rt:=p.root R;obtain⟨a,xs,rfl,h1,h2⟩:=zam rt;refine⟨a,rfl,⟨xs,h1⟩,?_⟩;have walk:∀(F2:FZ) (o:Bool),(∀b,Fz' b->F2 b)->(∀H2,(Same H' H2\/(o=false/\zhH F2 H' H2))->SqL X.K H2 a xs/\Keep F2 H' H2)->Walk X.K F2 o (Itl X.K a) ds H':=λF2 o s2 st H2 hH i=>by
   obtain⟨g1,g2⟩:=st H2 hH;have g3:DenL X.K F2 H2 ds xs:=DenL.mono g2 (λ_ h=>h) _ _ (DenL.mono (Keep.of (Same.refl _)) s2 _ _ h2);have hl:=g3.length;refine⟨λd hd=>?_,λhi=>⟨xs,g1,by lia⟩⟩;obtain⟨v,q1,q2⟩:=g3.get hd;exact⟨⟨xs,v,g1,q1⟩,λx H3 ⟨e,y⟩=>by
    subst e;have:=y xs g1;rw[q1]at this;cases this;exact⟨Same.refl _,q2⟩⟩
  cases k with
  | own i=>exact q _ Fz' H' p.ext (walk Fz' true (λ_ h=>h) λH2 hH=>by
    rcases hH with hH | ⟨z,_⟩
    ·exact⟨hH.seq h1,.of hH⟩
    ·cases z)
  | frz=>
   have pd:Den X.K Fz' H' (.lst ds) (.ref a):=p.opd;simp only[Den]at pd;obtain⟨a',xs',e,h3,h4⟩:=pd;cases e;refine q _ Fz' H' p.ext ?_;intro H2 hH i;have kp:Keep Fz' H' H2:=hH.elim (λz=>.of z) (λz=>.mk' z.2);have g1:SqL X.K H2 a xs':=h3.elim (λh=>.inl (kp.rd trivial h.1 h.2)) KX.sq;have g3:DenL X.K Fz' H2 ds xs':=DenL.mono kp (λ_ h=>h) _ _ h4;have hl:=g3.length;refine⟨λd hd=>?_,λhi=>⟨xs',g1,by lia⟩⟩;obtain⟨v,q1,q2⟩:=g3.get hd;exact⟨⟨xs',v,g1,q1⟩,λx H3 ⟨e,y⟩=>by
    subst e;have:=y xs' g1;rw[q1]at this;cases this;exact⟨Same.refl _,q2⟩⟩
  | new=>
   obtain⟨b,e,hn,nf,o⟩:=p.opd;cases e;obtain⟨xs',o1,o2⟩:=o;refine q _ (λb=>Fz' b\/b=a) H' (p.ext.add hn (by rw[o1];exact λz=>nomatch z)) ?_;intro H2 hH i;have kp:Keep (λb=>Fz' b\/b=a) H' H2:=hH.elim (λz=>.of z) (λz=>.mk' z.2);have g1:SqL X.K H2 a xs':=.inl (kp.rd trivial (.inr rfl) (.inl o1));have g3:DenL X.K (λb=>Fz' b\/b=a) H2 ds xs':=DenL.mono kp (λ_ h=>h) _ _ (DenL.mono (Keep.of (Same.refl _)) (λ_ h=>.inl h) _ _ o2);have hl:=g3.length;refine⟨λd hd=>?_,λhi=>⟨xs',g1,by lia⟩⟩;obtain⟨v,q1,q2⟩:=g3.get hd;exact⟨⟨xs',v,g1,q1⟩,λx H3 ⟨e,y⟩=>by
    subst e;have:=y xs' g1;rw[q1]at this;cases this;exact⟨Same.refl _,q2⟩⟩
theorem zlV (he:PuE X e te):PuI X tg e (zdx te) where
 mono ρ Q Q' m h:=he.mono ρ _ _ (λd k q84q=>by obtain⟨ds,e,q⟩:=q84q;exact⟨ds,e,m _ _ q⟩) h
 run:=PI.weak (zry he.run) λσ H Rr h=>by
  obtain⟨ρ,Fz,R,h⟩:=h;refine⟨ρ,Fz,R,he.mono ρ _ _ (λd k q v Fz' H' p=>?_) h⟩;obtain⟨ds,e,q⟩:=q;subst e;obtain⟨a,xs,rfl,h1,h2⟩:=zey (p.root R);refine⟨a,rfl,⟨xs,SqT.of h1⟩,q _ Fz' H' p.ext ?_⟩;intro H2 hH i;have kp:Keep Fz' H' H2:=hH.elim (λz=>.of z) (λz=>.mk' z.2);have g1:SqT X.K H2 a xs:=kp.sqT h1;have g3:DenL X.K Fz' H2 ds xs:=DenL.mono kp (λ_ h=>h) _ _ h2;have hl:=g3.length;refine⟨λd hd=>?_,λhi=>⟨xs,g1,by lia⟩⟩;obtain⟨v,q1,q2⟩:=g3.get hd;exact⟨⟨xs,v,g1,q1⟩,λx H3 ⟨e,y⟩=>by
   subst e;have:=y xs g1;rw[q1]at this;cases this;exact⟨Same.refl _,q2⟩⟩
end
noncomputable def rngP (lo:Int)(n:Nat):List PV:=(XR n).map λ(i:Nat)=>PV.int (lo+i)
theorem zbK (lo:Int)(n:Nat):(rngP lo n).length=n:=by simp[rngP]
theorem zcE {lo:Int}{n i:Nat}{d:PV}(h:(rngP lo n)[i]? = some d):i<n/\d=.int (lo+i):=by
 have hi:i<n:=by have:=(Xc.mp h).1;rw[zbK]at this;exact this
 refine⟨hi,?_⟩;unfold rngP at h;rw[Xk,Yv hi]at h;exact(Option.some.inj h).symm
noncomputable def zbh (t:TPA):TPI:=λρ Q=>t ρ λops=>∃j:Int,ops.map (·.1)=[.int j]/\-(2 ^ 62)<=j/\j<2 ^ 62/\Q (rngP 0 j.toNat) false
theorem zoa {K:Xa}{Fz:FZ}{lo:Int}{n:Nat}{H:Hp}:Walk K Fz false (Itr lo n) (rngP lo n) H:=λH2 _ i=>by
 refine⟨λd hd=>?_,λhi=>by rw[zbK]at hi;exact hi⟩;obtain⟨h1,rfl⟩:=zcE hd;exact⟨h1,λx H3 q86q=>by obtain⟨e,y⟩:=q86q;subst e y;exact⟨Same.refl _,by simp only[Den]⟩⟩
section
variable {X:Cx}{tg a b:Expr}{t:TPA}{p pos:Pos}
theorem zbl (hg:Gl X "range") (hm:X.mg "range" = none) (ha:PuA X [a] t) (hs:autoParam (starEach [a] X.env=[(false,eval a X.env)]) aU0):PuI X tg (.Call (.Name "range" p) [a] [] pos) (zbh t) where
 mono ρ Q Q' m h:=ha.mono ρ _ _ (λops q87q=>by obtain⟨j,e,h1,h2,q⟩:=q87q;exact⟨j,e,h1,h2,m _ _ q⟩) h
 run:=PI.weak (zls hg hm ha.run hs) λσ H Rr h=>by
  obtain⟨ρ,Fz,R,h⟩:=h;refine⟨ρ,Fz,R,ha.mono ρ _ _ (λops q vs Fz' H' x o=>?_) h⟩;obtain⟨j,e,h1,h2,q⟩:=q;have rl:=o.root R x;rw[e]at rl;cases rl with
  | cons r1 r2=>
   cases r2;exact⟨j,by rw[zaE r1],h1,h2,q _ Fz' H' x zoa⟩
end
noncomputable def pFor (ti:TPI)(g:TPG)(tb:TPS):TPS:=λρ O=>ti ρ λits o=>o=false/\∃Inv:Nat->PEnv->Prop,Inv 0 ρ/\
 (∀i d ρ',its[i]? = some d->Inv i ρ'->g d ρ' (Hold tb { O with nx:=Inv (i+1),ct:=Inv (i+1),bk:=O.nx }))/\∀ρ',Inv its.length ρ'->O.nx ρ'
noncomputable def zcf (c:TPT)(tb:TPS):TPS:=λρ O=>∃Inv:Nat->PEnv->Prop,(∃m,Inv m ρ)/\∀m ρ',Inv m ρ'->zsi c ρ' λb=>if b=true
 then Hold tb { O with nx:=λρ2=>∃m',m'<m/\Inv m' ρ2,ct:=λρ2=>∃m',m'<m/\Inv m' ρ2,bk:=O.nx } ρ' else O.nx ρ'
theorem Step.kept {K:Xa}{ρ:PEnv}{σ:St}{Fz Fz':FZ}{H H':Hp}(R:Rel K Fz ρ σ H)(s:Step ρ σ Fz H Fz' H'):zhH Fz H H':=λb o e w=>by
 refine s.keep b o e λ q88q=>?_;obtain⟨i,d,h1,h2⟩:=q88q;obtain⟨a,q1,q2,q3⟩:=R.own i d h1;rw[h2]at q1;cases q1;rcases w with w | w
 ·exact q2 w
 ·obtain⟨o',q4,q5⟩:=q3.at;rw[e]at q4;cases q4;exact q5 w
section
variable {X:Cx}{tg iter c:Expr}{body:List Stmt}{ti:TPI}{g:TPG}{tb:TPS}{tc:TPT}{pos:Pos}
theorem zob (hgm:∀d ρ Q Q',(∀ρ,Q ρ->Q' ρ)->g d ρ Q->g d ρ Q')(hbm:∀ρ O O',POut.le O O'->tb ρ O->tb ρ O'){K:Xa}{ρ:PEnv}{σ:St}{Fz1:FZ}{H1:Hp}{D:Ends}{J:It}{its:List PV}{O:POut}(R1:Rel K Fz1 ρ σ H1)(wk:Walk K Fz1 false J its H1)(Iv:Nat->PEnv->Prop)(h0:Iv 0 ρ)
  (hstep:∀i d ρ',its[i]? = some d->Iv i ρ'->g d ρ' (Hold tb { O with nx:=Iv (i+1),ct:=Iv (i+1),bk:=O.nx })) (hO:O.le (zfQ K D ρ σ Fz1 H1)) (hdone:∀ρ',Iv its.length ρ'->O.nx ρ') :
  ∃W:Nat->Nat->St->Hp->Prop,(∃m,W 0 m σ H1)/\∀i m σ H,W i m σ H->
   (J.stop i H/\D.nx σ H)\/(J.go i H/\∃N:St->Hp->Prop,(∀σ' H',N σ' H'->∃m',m'<m/\W (i+1) m' σ' H')/\∀x H',J.yld i H x H'->zlT K g x σ H' λσ2 H2=>znY K tb { D with nx:=N,ct:=N,bk:=D.nx } σ2 H2):=by
 refine⟨λi m σ' H'=>m=its.length-i/\i<=its.length/\∃ρ' F',Rel K F' ρ' σ' H'/\Iv i ρ'/\Step ρ σ Fz1 H1 F' H'/\zaL ρ σ H1 ρ' σ',
  ⟨its.length,by lia,XT _,ρ,Fz1,R1,h0,.of ⟨Same.refl _,λ_ h=>h,λ_ h=>.inl h,R1.al⟩,zaL.refl ρ σ H1⟩,?_⟩
 rintro i m σ' H' ⟨rfl,hle,ρ',F',R',hI,s',o'⟩;have kp:zhH Fz1 H1 H':=s'.kept R1;obtain⟨wgo,wstop⟩:=wk H' (.inr ⟨rfl,kp⟩) i;by_cases hlt:i<its.length
 ·obtain⟨go,yl⟩:=wgo its[i] (Xd hlt);refine .inr ⟨go,λσ2 H2=>∃ρ2 F2,Rel K F2 ρ2 σ2 H2/\Iv (i+1) ρ2/\Step ρ σ Fz1 H1 F2 H2/\zaL ρ σ H1 ρ2 σ2,λσ2 H2 hN=>⟨its.length-(i+1),by lia,rfl,hlt,hN⟩,λxv H2 y=>?_⟩;obtain⟨sm,dn⟩:=yl xv H2 y;have x2:Ext F' H' F' H2:=⟨sm,λ_ h=>h,λ_ h=>.inl h,λb hb z=>R'.al b hb (sm.free z)⟩;refine⟨ρ',F',its[i],R'.ext x2,Den.mono (Keep.of (Same.refl _)) s'.sub _ _ dn,hgm _ ρ' _ _ (λρ2 q σ2 R2 o2=>?_) (hstep i its[i] ρ' (Xd hlt) hI)⟩;have so:zaL ρ σ H1 ρ2 σ2:=λb hb=>o' b (o2 b hb);have st:Step ρ σ Fz1 H1 F' H2:=s'.trans o' (.of x2);refine⟨ρ2,F',R2,hbm ρ2 { O with nx:=Iv (i+1),ct:=Iv (i+1),bk:=O.nx } _ ⟨λρ3 q σ3 F3 H3 s3 o3 R3=>?_,λd k q v F3 H3 s3 al r=>?_,λρ3 q σ3 F3 H3 s3 o3 R3=>?_,λρ3 q σ3 F3 H3 s3 o3 R3=>?_⟩ q⟩
  ·exact⟨ρ3,F3,R3,q,st.trans so s3,zaL.trans st so o3⟩
  ·refine hO.rt d k q v F3 H3 (st.trans so s3) al ?_;cases k with
   | frz=>exact r
   | own j=>exact r
   | new=>
    obtain⟨a,e,nf,ow,w⟩:=r;refine⟨a,e,nf,ow,?_⟩;rcases w with w | w
    ·exact so a w
    ·exact(st.none w).symm
  ·exact hO.nx ρ3 q σ3 F3 H3 (st.trans so s3) (zaL.trans st so o3) R3
  ·exact⟨ρ3,F3,R3,q,st.trans so s3,zaL.trans st so o3⟩
 ·have e:i=its.length:=by lia
  subst e;exact .inl ⟨wstop (Xi _),hO.nx ρ' (hdone ρ' hI) σ' F' H' s' o' R'⟩
theorem zlW (him:∀ρ Q Q',(∀its o,Q its o->Q' its o)->ti ρ Q->ti ρ Q')(hgm:∀d ρ Q Q',(∀ρ,Q ρ->Q' ρ)->g d ρ Q->g d ρ Q')(hbm:∀ρ O O',POut.le O O'->tb ρ O->tb ρ O'):∀ρ O O',POut.le O O'->pFor ti g tb ρ O->pFor ti g tb ρ O':=λρ O O' m h=>
 him ρ _ _ (λits o q89q=>by obtain⟨e,I,h0,hs,hd⟩:=q89q;exact⟨e,I,h0,λi d ρ' hi hI=>hgm d ρ' _ _ (λρ2 q=>hbm ρ2 { O with nx:=I (i+1),ct:=I (i+1),bk:=O.nx } _ ⟨λ_ q=>q,m.rt,m.nx,λ_ q=>q⟩ q) (hs i d ρ' hi hI),λρ' hI=>m.nx _ (hd ρ' hI)⟩) h
theorem zbL (hc:X.calm=true)(hp:PassesOwn (model X.prog X.w) X.A X.env X.xe)(hi:PuI X tg iter ti)(hg:PuG X tg g)(hb:PuSs X body tb)(hs:autoParam (∀x,foldedSetIterable iter X.env x=pure x) aU3):PuS X (.For tg iter body [] pos) (pFor ti g tb) where
 mono:=zlW hi.mono hg.mono hb.mono
 run:=PS.weak (zlu hp hc hi.run hg.run hb.run hs) λD σ H h=>by
  obtain⟨ρ,Fz,R,h⟩:=h;refine⟨ρ,Fz,R,hi.mono ρ _ _ (λits o q J Fz1 H1 x wk=>?_) h⟩;obtain⟨rfl,Iv,h0,hstep,hdone⟩:=q;exact zob hg.mono hb.mono (R.ext x) wk Iv h0 hstep (zdv (.of x) (zaL.refl ρ σ H)) hdone
theorem zeB (hp:PassesOwn (model X.prog X.w) X.A X.env X.xe)(hc:PuT X c tc)(hb:PuSs X body tb):PuS X (.While c body [] pos) (zcf tc tb) where
 mono ρ O O' m h:=by
  obtain⟨Iv,h0,h⟩:=h;refine⟨Iv,h0,λn ρ' hI=>hc.mono ρ' _ _ (λb q=>?_) (h n ρ' hI)⟩;cases b with
  | true=>rw[if_pos rfl]at q ⊢;exact hb.mono ρ' { O with nx:=λρ2=>∃m',m'<n/\Iv m' ρ2,ct:=λρ2=>∃m',m'<n/\Iv m' ρ2,bk:=O.nx } _ ⟨λ_ q=>q,m.rt,m.nx,λ_ q=>q⟩ q
  | false=>rw[if_neg Xs]at q ⊢;exact m.nx _ q
 run:=PS.weak (znF hp hc.run hb.run) λD σ H h=>by
  obtain⟨ρ,Fz,R,Iv,⟨m0,h0⟩,h⟩:=h;refine⟨λm σ' H'=>∃ρ' F',Rel X.K F' ρ' σ' H'/\Iv m ρ'/\Step ρ σ Fz H F' H'/\zaL ρ σ H ρ' σ',
   ⟨m0,ρ,Fz,R,h0,.of ⟨Same.refl _,λ_ h=>h,λ_ h=>.inl h,R.al⟩,zaL.refl ρ σ H⟩,?_⟩
  rintro m σ' H' ⟨ρ',F',R',hI,s',o'⟩;refine⟨ρ',F',R',hc.mono ρ' _ _ (λb q F2 H2 x2=>?_) (h m ρ' hI)⟩;have st:Step ρ σ Fz H F2 H2:=s'.trans o' (.of x2);cases b with
  | true=>
   rw[if_pos rfl]at q;refine iteT ?_;refine⟨λσ3 H3=>∃m',m'<m/\∃ρ3 F3,Rel X.K F3 ρ3 σ3 H3/\Iv m' ρ3/\Step ρ σ Fz H F3 H3/\zaL ρ σ H ρ3 σ3,λσ3 H3 hN=>hN,ρ',F2,R'.ext x2,hb.mono ρ' _ _ ⟨λρ3 q σ3 F3 H3 s3 o3 R3=>?_,λd k q v F3 H3 s3 al r=>?_,λρ3 q σ3 F3 H3 s3 o3 R3=>?_,λρ3 q σ3 F3 H3 s3 o3 R3=>?_⟩ q⟩
   ·obtain⟨m',hm,hI'⟩:=q;exact⟨m',hm,ρ3,F3,R3,hI',st.trans o' s3,zaL.trans st o' o3⟩
   ·refine q v F3 H3 (st.trans o' s3) al ?_;cases k with
    | frz=>exact r
    | own j=>exact r
    | new=>
     obtain⟨a,e,nf,ow,w⟩:=r;refine⟨a,e,nf,ow,?_⟩;rcases w with w | w
     ·exact o' a w
     ·exact(st.none w).symm
   ·exact q σ3 F3 H3 (st.trans o' s3) (zaL.trans st o' o3) R3
   ·obtain⟨m',hm,hI'⟩:=q;exact⟨m',hm,ρ3,F3,R3,hI',st.trans o' s3,zaL.trans st o' o3⟩
  | false=>
   rw[if_neg Xs]at q;exact iteF (q σ' F2 H2 st o' (R'.ext x2))
end
theorem _root_.L2.Same.upd' {H H':Hp}{l:Addr}{o:HO}(s:Same H H')(h:H l=none):Same H (L2.upd H' l o):=λb u e=>by
 rw[zaj (zaD e h)];exact s b u e
structure PuTs (X:Cx)(ifs:List Expr)(t:TPT):Prop where
 mono:∀ρ Q Q',(∀b,Q b->Q' b)->t ρ Q->t ρ Q'
 run:PTs X ifs (liftT X.K t)
noncomputable def zdy:TPT:=λ_ Q=>Q true
theorem PTs.weak {X:Cx}{e:List Expr}{t t':TT}(h:PTs X e t)(w:∀σ H Q,t' σ H Q->t σ H Q):PTs X e t':=λpins s σ H Q I q=>h pins s σ H Q I (w σ H Q q)
theorem zcc {X:Cx}:PuTs X [] zdy where
 mono ρ Q Q' m h:=m _ h
 run:=PTs.weak zpX λσ H Q h=>by
  obtain⟨ρ,Fz,R,h⟩:=h;exact h Fz H ⟨Same.refl H,λ_ h=>h,λ_ h=>.inl h,R.al⟩
theorem zgY {X:Cx}{c:Expr}{t:TPT}(h:PuT X c t):PuTs X [c] t:=⟨h.mono,zpY h.run⟩
noncomputable def blkP (k:Nat)(js:List Nat)(ρ:PEnv):PEnv:=YO k none++js.map λj=>(ρ[j]?).getD none
noncomputable def zcK (k:Nat)(js:List Nat)(ti:TPI)(g:TPG)(tt:TPT)(te:TPE):TPE:=λρ Q=>ti ρ λits _=>its.length<=sizeLine/\∃Pv:Nat->List PV->Prop,Pv 0 []/\
 (∀i d out,its[i]? = some d->out.length<=i->Pv i out->g d (blkP k js ρ) λρ2=>tt ρ2 λb=>if b=true then te ρ2 λe ke=>isOwn ke=false/\Pv (i+1) (out++[e]) else Pv (i+1) out)/\
 ∀out,out.length<=its.length->Pv its.length out->Q (.lst out) .new
structure PBlk (X:Cx)(N:List Str)(sc:Scope)(tg:Expr)(ifs:List Expr)(elt:Expr)(g:TPG)(tt:TPT)(te:TPE):Prop where
 tgt:∀C cells fp s H,PuG (cxB X N sc C cells fp s H) tg g
 tst:∀C cells fp s H,PuTs (cxB X N sc C cells fp s H) ifs tt
 val:∀C cells fp s H,PuE (cxB X N sc C cells fp s H) elt te
theorem PBlk.blk {X:Cx}{N:List Str}{sc:Scope}{tg:Expr}{ifs:List Expr}{elt:Expr}{g:TPG}{tt:TPT}{te:TPE}(B:PBlk X N sc tg ifs elt g tt te):Blk X N sc tg ifs elt (zlT X.K g) (liftT X.K tt) (lift X.K te):=
 ⟨λC cells fp s H=>(B.tgt C cells fp s H).run,λC cells fp s H=>(B.tst C cells fp s H).run,λC cells fp s H=>(B.val C cells fp s H).run⟩
theorem zek {k:Nat}{js:List Nat}{ρ:PEnv}{i:Nat}{d:PV}{b:Bool}(h:(blkP k js ρ)[i]? = some (some (d,b))):∃i' j,i=k+i'/\js[i']? = some j/\ρ[j]? = some (some (d,b)):=by
 unfold blkP at h;have hik:k<=i:=by
  by_cases hik:k<=i
  ·exact hik
  ·rw[XD (by simp;lia),List.getElem?_replicate]at h;split at h<;>cases h
 obtain⟨i',rfl⟩:∃i',i=k+i':=⟨i-k,by lia⟩;rw[XU (by simp),YH,show k+i'-k=i' by lia,Xk]at h;cases hj:js[i']? with
 | none=>rw[hj]at h;cases h
 | some j=>
  rw[hj]at h;refine⟨i',j,rfl,hj,?_⟩;have h':(ρ[j]?).getD none=some (d,b):=Option.some.inj h;cases q:ρ[j]? with
  | none=>rw[q]at h';cases h'
  | some o=>rw[q]at h';exact congrArg some h'
theorem zdz {k:Nat}{js:List Nat}{σ:St}{i' j:Nat}{o:Option V}(hj:js[i']? = some j)(h:σ[j]? = some o):(zet k js σ)[k+i']? = some o:=by
 unfold zet;rw[XU (by simp),YH,show k+i'-k=i' by lia,Xk,hj];show some ((σ[j]?).getD none)=_;rw[h];rfl
theorem Rel.block {K:Xa}{Fz:FZ}{ρ:PEnv}{σ:St}{H:Hp}{k:Nat}{js:List Nat}(R:Rel K Fz ρ σ H)(nd:js.Nodup):Rel K Fz (blkP k js ρ) (zet k js σ) H where
 al:=R.al
 len:=by unfold blkP zet;simp
 frz i d h:=by
  obtain⟨i',j,rfl,hj,h⟩:=zek h;obtain⟨v,e,q⟩:=R.frz j d h;exact⟨v,zdz hj e,q⟩
 own i d h:=by
  obtain⟨i',j,rfl,hj,h⟩:=zek h;obtain⟨a,e,n,q⟩:=R.own j d h;exact⟨a,zdz hj e,n,q⟩
 inj i1 i2 d e a h1 h2 h3 h4:=by
  obtain⟨i',j,rfl,hj,h1⟩:=zek h1;obtain⟨i'',j',rfl,hj',h2⟩:=zek h2;obtain⟨a1,e1,_,_⟩:=R.own j d h1;obtain⟨a2,e2,_,_⟩:=R.own j' e h2;rw[zdz hj e1]at h3;rw[zdz hj' e2]at h4;have ea1:a1=a:=by have:=Option.some.inj (Option.some.inj h3);injection this
  have ea2:a2=a:=by have:=Option.some.inj (Option.some.inj h4);injection this
  subst ea1;subst ea2;have ej:=R.inj j j' d e _ h1 h2 e1 e2;subst ej;have l1:i'<js.length:=(Xc.mp hj).1;have e1':i'=i'':=(List.getElem?_inj l1 nd).mp (hj.trans hj'.symm);rw[e1']
theorem zqi {ρ:PEnv}{σ:St}{k:Nat}{js:List Nat}{Fz:FZ}{K:Xa}{H:Hp}(R:Rel K Fz ρ σ H){b:Addr}(h:zaZ (blkP k js ρ) (zet k js σ) b):zaZ ρ σ b:=by
 obtain⟨i,d,h1,h2⟩:=h;obtain⟨i',j,rfl,hj,h1⟩:=zek h1;obtain⟨a1,e1,_,_⟩:=R.own j d h1;rw[zdz hj e1]at h2;cases h2;exact⟨j,d,h1,e1⟩
theorem Rel.zlX {K:Xa}{Fz:FZ}{ρ ρ':PEnv}{σ:St}{H:Hp}{k:Nat}{js:List Nat}(R:Rel K Fz ρ' σ H)(hl:ρ'.length=(blkP k js ρ).length)(hs:∀j,k<=j->ρ'[j]? = (blkP k js ρ)[j]?):Rel K Fz (blkP k js ρ) σ H:=by
 have tr:∀i d b,(blkP k js ρ)[i]? = some (some (d,b))->ρ'[i]? = some (some (d,b)):=λi d b h=>by
  obtain⟨i',j,rfl,_⟩:=zek h;rw[hs _ (by lia)];exact h
 exact⟨R.al,by rw[<- hl];exact R.len,λi d h=>R.frz i d (tr _ _ _ h),λi d h=>R.own i d (tr _ _ _ h),λi j d e a h1 h2=>R.inj i j d e a (tr _ _ _ h1) (tr _ _ _ h2)⟩
theorem Rel.other {K:Xa}{Fz:FZ}{ρ:PEnv}{σ:St}{H:Hp}{l:Addr}{o u:HO}(R:Rel K Fz ρ σ H)(h:H l=some u)(hi:¬ Imm u)(nf:¬ Fz l)(no:¬ zaZ ρ σ l):Rel K Fz ρ σ (upd H l o):=by
 have kp:Keep Fz H (upd H l o):=.mk' λb w e hw=>by
  have ne:b≠l:=λz=>by
   subst z;rcases hw with hw | hw
   ·exact nf hw
   ·rw[h]at e;cases e;exact hi hw
  rw[zaj ne];exact e
 refine⟨λb hb=>?_,R.len,λi d e=>?_,λi d e=>?_,R.inj⟩
 ·have ne:b≠l:=λz=>by subst z;exact nf hb
  rw[zaj ne];exact R.al b hb
 ·obtain⟨v,q1,q2⟩:=R.frz i d e;exact⟨v,q1,Den.mono kp (λ_ h=>h) _ _ q2⟩
 ·obtain⟨a,q1,q2,q3⟩:=R.own i d e;refine⟨a,q1,q2,q3.mono kp (λ_ h=>h) λw hw=>?_⟩;have ne:a≠l:=λz=>by subst z;exact no ⟨i,d,e,q1⟩
  rw[zaj ne];exact hw
section
variable {X:Cx}{elt tg iter:Expr}{ifs:List Expr}{sc:Scope}{pos:Pos}{N:List Str}{k:Nat}{js:List Nat}{ti:TPI}{g:TPG}{tt:TPT}{te:TPE}
theorem zlY (hi:PuI X tg iter ti)(B:PBlk X N sc tg ifs elt g tt te):∀ρ Q Q',(∀d k,Q d k->Q' d k)->zcK k js ti g tt te ρ Q->zcK k js ti g tt te ρ Q':=
 λρ Q Q' m h=>hi.mono ρ _ _ (λits o q90q=>by obtain⟨hz,Pv,h0,hs,hd⟩:=q90q;exact⟨hz,Pv,h0,hs,λout hl hp=>m _ _ (hd out hl hp)⟩) h
theorem zlZ (nd:js.Nodup)(hloc:LocG k g)(B:PBlk X N sc tg ifs elt g tt te){ρ:PEnv}{σ:St}{H H1:Hp}{Fz1:FZ}{o:Bool}{J:It}{its:List PV}{l:Addr}{Rr:Hp->Prop}(R1:Rel X.K Fz1 ρ σ H1)(wk:Walk X.K Fz1 o J its H1)(hl:H1 l=none)(hz:its.length<=sizeLine)(Pv:Nat->List PV->Prop)(h0:Pv 0 [])
  (hstep:∀i d out,its[i]? = some d->out.length<=i->Pv i out->g d (blkP k js ρ) λρ2=>tt ρ2 λb=>if b=true then te ρ2 λe ke=>isOwn ke=false/\Pv (i+1) (out++[e]) else Pv (i+1) out)
  (hdone:∀F' out xs H',Ext Fz1 H1 F' H'->H' l=some (.lst xs)->DenL X.K F' H' out xs->¬ F' l->out.length<=its.length->Pv its.length out->Rr H') :
  zlN J (zlT X.K g) (liftT X.K tt) (lift X.K te) l (zet k js σ) H1 Rr:=by
 have mg:=(B.tgt 0 [] [] X.s₀ H).mono;have mt:=(B.tst 0 [] [] X.s₀ H).mono;have me:=(B.val 0 [] [] X.s₀ H).mono;have nf1:¬ Fz1 l:=λz=>R1.al l z hl;have no1:¬ zaZ ρ σ l:=λ⟨i,d,h1,h2⟩=>by
  obtain⟨a,q1,_,q3⟩:=R1.own i d h1;rw[h2]at q1;cases q1;obtain⟨o',q4,_⟩:=q3.at;rw[hl]at q4;cases q4
 refine⟨λi m σ' H'=>m=its.length-i/\i<=its.length/\∃F' out xs,Rel X.K F' (blkP k js ρ) σ' H'/\(∀b,zaZ (blkP k js ρ) σ' b->zaZ ρ σ b)/\H' l=some (.lst xs)/\DenL X.K F' H' out xs/\¬ F' l/\out.length<=i/\Pv i out/\Same H1 H'/\(∀b,Fz1 b->F' b)/\(∀b,F' b->Fz1 b\/H1 b=none),
  ⟨its.length,by lia,XT _,Fz1,[],[],?_,λb hb=>zqi R1 hb,zal,DenL.nil,nf1,XT _,h0,(Same.refl H1).upd' hl,λ_ h=>h,λ_ h=>.inl h⟩,?_⟩
 ·have x0:Ext Fz1 H1 Fz1 (upd H1 l (.lst [])):=Ext.laid ⟨Same.refl _,λ_ h=>h,λ_ h=>.inl h,R1.al⟩ hl;exact(R1.block nd).ext x0
 rintro i m σ' H' ⟨rfl,hle,F',out,xs,Rb,ob,hlx,hout,nfl,hol,hP,sm,s1,s2⟩;obtain⟨wgo,wstop⟩:=wk H' (.inl sm) i;by_cases hlt:i<its.length
 ·obtain⟨go,yl⟩:=wgo its[i] (Xd hlt);refine .inr ⟨go,λxv H2 y=>?_⟩;obtain⟨sm2,dn⟩:=yl xv H2 y;have x2:Ext F' H' F' H2:=⟨sm2,λ_ h=>h,λ_ h=>.inl h,λb hb z=>Rb.al b hb (sm2.free z)⟩;refine⟨blkP k js ρ,F',its[i],Rb.ext x2,Den.mono (Keep.of (Same.refl _)) s1 _ _ dn,mg _ _ _ _ (λρ2 ⟨q,l2,a2⟩ σ2 R2 o2=>?_) (hloc _ _ _ (hstep i its[i] out (Xd hlt) hol hP))⟩;refine⟨ρ2,F',R2,mt ρ2 _ _ (λb q F4 H4 x4=>?_) q⟩;have R4:Rel X.K F4 ρ2 σ2 H4:=R2.ext x4;have own2:∀b,zaZ (blkP k js ρ) σ2 b->zaZ ρ σ b:=λb ⟨j,d,h1,h2⟩=>by
   refine ob b (o2 b ⟨j,d,?_,h2⟩);obtain⟨i',j',e,_⟩:=zek h1;rw[a2 j (by lia)];exact h1
  have hl4:H4 l=some (.lst xs):=x4.same _ _ (sm2 _ _ hlx);have nf4:¬ F4 l:=λz=>by
   rcases x4.new l z with z | z
   ·exact nfl z
   ·rw[sm2 _ _ hlx]at z;cases z
  cases b with
  | false=>
   rw[if_neg Xs]at q;refine iteF ⟨its.length-(i+1),by lia,rfl,hlt,F4,out,xs,Rel.zlX R4 l2 a2,own2,hl4,DenL.mono (.of (sm2.trans x4.same)) x4.sub _ _ hout,nf4,by lia,q,sm.trans (sm2.trans x4.same),λb hb=>x4.sub b (s1 b hb),λb hb=>?_⟩;rcases x4.new b hb with z | z
   ·exact s2 b z
   ·exact .inr (sm.free (sm2.free z))
  | true=>
   rw[if_pos rfl]at q;refine iteT ⟨ρ2,F4,R4,me ρ2 _ _ (λe ke q94q v F5 H5 p5=>?_) q⟩;obtain⟨hk,q⟩:=q94q;have hk':ke=.frz\/ke=.new:=by
    cases ke with
    | frz=>exact .inl rfl
    | new=>exact .inr rfl
    | own j=>cases hk
   obtain⟨F6,x6,s6,d6⟩:=p5.frozen hk';have hl5:H5 l=some (.lst xs):=x6.same _ _ hl4;have nf6:¬ F6 l:=λz=>by
    rcases x6.new l z with z | z
    ·exact nf4 z
    ·rw[hl4]at z;cases z
   have R6:Rel X.K F6 ρ2 σ2 H5:=R4.ext x6;have Rb6:Rel X.K F6 (blkP k js ρ) σ2 H5:=Rel.zlX R6 l2 a2;have no6:¬ zaZ (blkP k js ρ) σ2 l:=λz=>no1 (own2 l z);have kp:Keep F6 H5 (upd H5 l (.lst (xs++[v]))):=.mk' λb w e hw=>by
    have ne:b≠l:=λz=>by
     subst z;rcases hw with hw | hw
     ·exact nf6 hw
     ·rw[hl5]at e;cases e;exact hw
    rw[zaj ne];exact e
   have hxl:=hout.length;refine⟨xs,hl5,by lia,its.length-(i+1),by lia,rfl,hlt,F6,out++[e],xs++[v],Rb6.other hl5 (λz=>z) nf6 no6,own2,zal,?_,nf6,by rw[Xj];simp;lia,q,?_,λb hb=>x6.sub b (x4.sub b (s1 b hb)),λb hb=>?_⟩
   ·exact DenL.mono kp (λ_ h=>h) _ _ (DenL.snoc (DenL.mono (.of (sm2.trans (x4.same.trans x6.same))) (λb hb=>x6.sub b (x4.sub b hb)) _ _ hout) d6)
   ·exact(sm.trans (sm2.trans (x4.same.trans x6.same))).upd' hl
   ·rcases x6.new b hb with z | z
    ·rcases x4.new b z with z | z
     ·exact s2 b z
     ·exact .inr (sm.free (sm2.free z))
    ·exact .inr (sm.free (sm2.free (x4.same.free z)))
 ·have e:i=its.length:=by lia
  subst e;exact .inl ⟨wstop (Xi _),hdone F' out xs H' ⟨sm,s1,s2,Rb.al⟩ hlx hout nfl hol hP⟩
theorem zhO (nd:js.Nodup)(hloc:LocG k g)(hi:PuI X tg iter ti)(B:PBlk X N sc tg ifs elt g tt te){σ:St}{H:Hp}{Q:VK}(h:lift X.K (zcK k js ti g tt te) σ H Q) :
  zpZ k js (zsm X.K ti) (zlT X.K g) (liftT X.K tt) (lift X.K te) σ H Q:=by
 obtain⟨ρ,Fz,R,h⟩:=h;refine⟨ρ,Fz,R,hi.mono ρ _ _ (λits o q J Fz1 H1 x wk l hl=>?_) h⟩;obtain⟨hz,Pv,h0,hstep,hdone⟩:=q;refine zlZ (H:=H) nd hloc B (R.ext x) wk hl hz Pv h0 hstep λF' out xs H' x' hlx hout nfl hol hP=>?_;exact hdone out hol hP _ F' H' ⟨x.trans x',l,rfl,x.same.free hl,nfl,xs,hlx,hout⟩
theorem zbM (hc:X.calm=true)(S:zdp X N k js sc)(nd:js.Nodup)(hloc:LocG k g)(hi:PuI X tg iter ti)(B:PBlk X N sc tg ifs elt g tt te)(hs:autoParam (∀x,foldedSetIterable iter X.env x=pure x) aU3) :
  PuE X (.ListComp elt [⟨tg,iter,ifs,0⟩] sc pos) (zcK k js ti g tt te):=
 ⟨zlY hi B,PE.weak (zqa hc S hi.run B.blk hs) λ_ _ _ h=>zhO nd hloc hi B h⟩
theorem zoc {i:Nat}{x:Str}{pos' pos2:Pos}(hc:X.calm=true)(S:zdp X N k js sc)(nd:js.Nodup)(hloc:LocG k g)(hi:PuI X tg iter ti)(B:PBlk X N sc tg ifs elt g tt te)(hN:X.N.Nodup)(hx:X.N[i]? = some x)(hk:X.env.scope.names.lookup x=some .local)
  (hsw:autoParam (swapsWith (.ListComp elt [⟨tg,iter,ifs,0⟩] sc pos) (some (.Name x pos')) pos2.line X.env=pure true) aU0) (hs:autoParam (∀x,foldedSetIterable iter X.env x=pure x) aU3) :
  PuS X (.Assign [.Name x pos'] (.ListComp elt [⟨tg,iter,ifs,0⟩] sc pos) pos2) (pSet i (zcK k js ti g tt te)) where
 mono:=zhN (zbM (pos:=pos) hc S nd hloc hi B hs)
 run:=PS.weak (zqb hc S hi.run B.blk hN hx hk hsw hs) λD σ H h=>by
  have q:=zjC (zbM (pos:=pos) hc S nd hloc hi B hs) h;exact zhO nd hloc hi B q
end
noncomputable def zaX (N:List Str)(ds:List PV):PEnv:=ds.map (λd=>some (d,false))++YO (N.length-ds.length) none
noncomputable def zbT (Q:PV->Kd->Prop):POut:=⟨λ_=>Q .non .frz,Q,λ_=>False,λ_=>False⟩
theorem zma {K:Xa}{F:PF}{ps:List Str}(h:∀ds Q,F ds Q->ds.length=ps.length):∀vs H Q E,spP K F vs H Q E->vs.length=ps.length:=λvs H Q E q95q=>by obtain⟨Fz,ds,_,hd,q⟩:=q95q;rw[<- hd.length];exact h _ _ q
theorem zhP {K:Xa}{Fz:FZ}{H:Hp}{N:List Str}{ds:List PV}{vs:List V}(al:∀b,Fz b->H b≠none)(h:DenL K Fz H ds vs):Rel K Fz (zaX N ds) (start N vs) H/\∀σ b,¬ zaZ (zaX N ds) σ b:=by
 have hl:=h.length;have get:∀(i:Nat) (d:PV) (b:Bool),(zaX N ds)[i]? = some (some (d,b))->b=false/\ds[i]? = some d:=λi d b e=>by
  unfold zaX at e;by_cases hi:i<ds.length
  ·rw[XD (by simpa using hi),Xk,Xd hi]at e;have e':(some (ds[i],false):Option (PV×Bool))=some (d,b):=Option.some.inj e;have e2:=Option.some.inj e';exact⟨(congrArg Prod.snd e2).symm,by rw[Xd hi];exact congrArg some (congrArg Prod.fst e2)⟩
  ·rw[XU (by simpa using hi),List.getElem?_replicate]at e;split at e<;>cases e
 refine⟨⟨al,by unfold zaX L2.start;simp[hl],λi d e=>?_,λi d e=>?_,λi j d e a h1=>?_⟩,λσ b ⟨i,d,e,_⟩=>?_⟩
 ·obtain⟨_,e'⟩:=get i d false e;obtain⟨v,q1,q2⟩:=h.get e';have hi:i<vs.length:=(Xc.mp q1).1;refine⟨v,?_,q2⟩;unfold L2.start;rw[XD (by simpa using hi),Xk,q1];rfl
 ·exact absurd (get i d true e).1 (by decide)
 ·exact absurd (get i d true h1).1 (by decide)
 ·exact absurd (get i d true e).1 (by decide)
section
variable {P:Program}{w:World}{K:Xa}{mg:Str->Option Value}{base:Heap}
theorem zaB {x qual:Str}{st:Stmt}{f:Addr}{fd:FuncData}{N ps:List Str}{k:Nat}{F:PF}(Fn:Fun K x qual st f fd)(S:zau N ps (zac st))(len:∀ds Q,F ds Q->ds.length=ps.length)
  (hbody:∀(cdv:Value) (A:Around) (outer:List Env) (s:Shared) (H:Hp) (E:XK),Room k (A.deeper (envOfC qual (zac st) s.heap.objs.size f cdv))->
   ∃t,PuSs (cxOf CX0 P w K mg base N qual (zac st) f cdv A outer s H E).nox (zaq st) t/\∀ds Q,F ds Q->t (zaX N ds) (zbT Q)):FnOk P w K mg base CX0 (k+1) f fd ps (spP K F):=by
 refine Fn.ok S (zma len) (λcdv A outer s H vs Q E hr h=>?_);obtain⟨t,ht,hq⟩:=hbody cdv A outer s H E hr;obtain⟨Fz,ds,al,hd,h⟩:=h;obtain⟨R,no⟩:=zhP (N:=N) al hd;refine⟨_,ht.run,zaX N ds,Fz,R,ht.mono _ (zbT _) _ ⟨λρ' q σ' F' H' s' o' R'=>?_,λd k q v F' H' s' al' r=>?_,λ_ z=>z.elim,λ_ z=>z.elim⟩ (hq ds _ h)⟩
 ·exact q .non F' H' ⟨⟨λb o e=>s'.keep b o e (no _ b),s'.sub,λb hb=>(s'.new b hb).elim .inl (λz=>z.elim .inr (λz=>(no _ b z).elim)),R'.al⟩,by show Den _ _ _ _ _;simp only[Den]⟩
 ·refine q v F' H' ⟨⟨λb o e=>s'.keep b o e (no _ b),s'.sub,λb hb=>(s'.new b hb).elim .inl (λz=>z.elim .inr (λz=>(no _ b z).elim)),al'⟩,?_⟩;cases k with
  | frz=>exact r
  | own i=>exact r.elim
  | new=>
   obtain⟨a,e,nf,o,w⟩:=r;exact⟨a,e,w.resolve_left (no _ a),nf,o⟩
end
theorem Rel.mut {K:Xa}{Fz:FZ}{ρ:PEnv}{σ:St}{H:Hp}{i:Nat}{d d':PV}{a:Addr}{o u:HO}(R:Rel K Fz ρ σ H)(hi:ρ[i]? = some (some (d,true)))(hs:σ[i]? = some (some (.ref a)))(hu:H a=some u)
  (ho:Own K Fz (upd H a o) d' a):Rel K Fz (ρ.set i (some (d',true))) σ (upd H a o)/\Step ρ σ Fz H Fz (upd H a o)/\zaL ρ σ H (ρ.set i (some (d',true))) σ:=by
 obtain⟨a',e',nf,ow⟩:=R.own i d hi;rw[hs]at e';cases e';have hil:i<ρ.length:=(Xc.mp hi).1;have im:¬ Imm u:=by obtain⟨o',q1,q2⟩:=ow.at;rw[hu]at q1;cases q1;exact q2
 have kp:Keep Fz H (upd H a o):=.mk' λb w e hw=>by
  have ne:b≠a:=λz=>by
   subst z;rcases hw with hw | hw
   ·exact nf hw
   ·rw[hu]at e;cases e;exact im hw
  rw[zaj ne];exact e
 have st:∀j e,(ρ.set i (some (d',true)))[j]? = some (some (e,true))->∃e0,ρ[j]? = some (some (e0,true)):=λj e h=>by
  by_cases hij:i=j
  ·subst hij;exact⟨d,hi⟩
  ·rw[Xg hij]at h;exact⟨e,h⟩
 refine⟨⟨λb hb=>?_,by rw[Yb];exact R.len,λj e h=>?_,λj e h=>?_,λj k e1 e2 b h1 h2 h3 h4=>?_⟩,⟨λ_ h=>h,λ_ h=>.inl h,λb w e n=>?_⟩,λb ⟨j,e,h1,h2⟩=>?_⟩
 ·have ne:b≠a:=λz=>by subst z;exact nf hb
  rw[zaj ne];exact R.al b hb
 ·by_cases hij:i=j
  ·subst hij;rw[Xl hil]at h;cases h
  ·rw[Xg hij]at h;obtain⟨v,q1,q2⟩:=R.frz j e h;exact⟨v,q1,Den.mono kp (λ_ h=>h) _ _ q2⟩
 ·by_cases hij:i=j
  ·subst hij;rw[Xl hil]at h;cases h;exact⟨a,hs,nf,ho⟩
  ·rw[Xg hij]at h;obtain⟨b,q1,q2,q3⟩:=R.own j e h;refine⟨b,q1,q2,q3.mono kp (λ_ h=>h) λw hw=>?_⟩;have ne:b≠a:=λz=>by subst z;exact hij (R.inj i j d e _ hi h hs q1)
   rw[zaj ne];exact hw
 ·obtain⟨e1',g1⟩:=st j e1 h1;obtain⟨e2',g2⟩:=st k e2 h2;exact R.inj j k e1' e2' b g1 g2 h3 h4
 ·have ne:b≠a:=λz=>by subst z;exact n ⟨i,d,hi,hs⟩
  rw[zaj ne];exact e
 ·obtain⟨e',g⟩:=st j e h1;exact .inl ⟨j,e',g,h2⟩
noncomputable abbrev TPM:=PEnv->(PV->PEnv->Prop)->Prop
noncomputable def liftM (K:Xa)(t:TPM):TE:=λσ H Q=>∃ρ Fz,Rel K Fz ρ σ H/\t ρ λd ρ'=>∀v Fz' H',Step ρ σ Fz H Fz' H'->zaL ρ σ H ρ' σ->Rel K Fz' ρ' σ H'->Den K Fz' H' d v->Q v H'
structure PuM (X:Cx)(e:Expr)(t:TPM):Prop where
 mono:∀ρ Q Q',(∀d ρ,Q d ρ->Q' d ρ)->t ρ Q->t ρ Q'
 run:PE X e (liftM X.K t)
noncomputable def mApp (i:Nat)(te:TPE):TPM:=λρ Q=>∃ds,ρ[i]? = some (some (.lst ds,true))/\ds.length<sizeLine/\te ρ λd k=>isOwn k=false/\Q .non (ρ.set i (some (.lst (ds++[d]),true)))
noncomputable def mPop (i:Nat):TPM:=λρ Q=>∃ds d,ρ[i]? = some (some (.lst ds,true))/\ds[ds.length-1]? = some d/\Q d (ρ.set i (some (.lst ds.dropLast,true)))
theorem zfR {K:Xa}{Fz:FZ}{ρ:PEnv}{σ:St}{H:Hp}{i:Nat}{ds:List PV}(R:Rel K Fz ρ σ H)(h:ρ[i]? = some (some (.lst ds,true))):∃a xs,σ[i]? = some (some (.ref a))/\H a=some (.lst xs)/\DenL K Fz H ds xs/\¬ Fz a:=by
 obtain⟨a,e,nf,xs,h1,h2⟩:=R.own i _ h;exact⟨a,xs,e,h1,h2,nf⟩
theorem DenL.rew {K:Xa}{Fz:FZ}{H:Hp}{ds:List PV}{xs ys:List V}{a:Addr}{o:HO}(ha:H a=some (.lst ys))(nf:¬ Fz a)(h:DenL K Fz H ds xs):DenL K Fz (upd H a o) ds xs:=
 DenL.mono (.mk' λb w e hw=>by
  have ne:b≠a:=λz=>by
   subst z;rcases hw with hw | hw
   ·exact nf hw
   ·rw[ha]at e;cases e;exact hw
  rw[zaj ne];exact e) (λ_ h=>h) _ _ h
section
variable {X:Cx}{x:Str}{e:Expr}{te:TPE}{tm:TPM}{p apos cpos:Pos}
theorem zaN (i:Nat)(he:PuE X e te)(hN:autoParam (X.N[i]? = some x) aU0)(hv:autoParam (Vis X.env.scope x) aU4)(hd:autoParam ((x == ("__debug__" : Str))=false) aU1) (hcd:autoParam ((x == ("__classdict__" : Str))=false) aU1)
  (hbase:autoParam (attributeBase (.Name x p) "append" X.env (eval (.Name x p) X.env)=eval (.Name x p) X.env) aU0)
  (hfew:autoParam (((backTo cpos (starEach [e] X.env)).all (λx=>!x.1)&&(backToKw cpos (keywordEach [] X.env)).all (λx=>x.1.isSome)&&decide ([e].length+([]:List Keyword).length+(if ([]:List Keyword).isEmpty then 0 else 1)<30))=true) aU0)
  (hline:autoParam ((apos.endLine == cpos.line)=true) aU0) (hs:autoParam (starEach [e] X.env=(false,eval e X.env)::starEach [] X.env) aU0) (hplain:autoParam ((backTo cpos (starEach [] X.env)).any (·.1)=false) aU0):PuM X (.Call (.Attribute (.Name x p) "append" apos) [e] [] cpos) (mApp i te) where
 mono ρ Q Q' m h:=by
  obtain⟨ds,e1,e2,h⟩:=h;exact⟨ds,e1,e2,he.mono ρ _ _ (λd k q98q=>by obtain⟨hk,q⟩:=q98q;exact⟨hk,m _ _ q⟩) h⟩
 run:=PE.weak (zpR PySem.F.plainAttrs_list PySem.F.slot_list_append PySem.F.type_list_append zfK (zdn hN hv hd hcd) (zgL he.run zhy hs) hbase hfew hline hs hplain) λσ H Q h=>by
  obtain⟨ρ,Fz,R,ds,e1,e2,h⟩:=h;obtain⟨a,xs,hs,ha,hd,nf⟩:=zfR R e1;refine⟨_,hs,.inl ⟨rfl,xs,SqL.of ha⟩,ρ,Fz,R,he.mono ρ _ _ (λd k q v F1 H1 p1=>?_) h⟩;obtain⟨hk,q⟩:=q;have hk':k=.frz\/k=.new:=by
   cases k with
   | frz=>exact .inl rfl
   | new=>exact .inr rfl
   | own j=>cases hk
  obtain⟨F2,x2,s2,d2⟩:=p1.frozen hk';have R2:=R.ext x2;obtain⟨a',xs',hs',ha',hd',nf'⟩:=zfR R2 e1;rw[hs]at hs';cases hs';have hl:=hd'.length;refine⟨a,xs',v,rfl,rfl,ha',by lia,?_⟩;have ow:Own X.K F2 (upd H1 a (.lst (xs'++[v]))) (.lst (ds++[d])) a:=⟨_,zal,(DenL.rew ha' nf' (DenL.snoc hd' d2))⟩;obtain⟨R3,s3,o3⟩:=R2.mut e1 hs ha' ow;exact q .non F2 _ ((Step.of x2).trans (zaL.refl ρ σ H) s3) (zaL.trans (Step.of x2) (zaL.refl ρ σ H) o3) R3 (by simp only[Den])
noncomputable def zbq (tm:TPM):TPS:=λρ O=>tm ρ λ_ ρ'=>O.nx ρ'
noncomputable def zdA (i:Nat)(tm:TPM):TPS:=λρ O=>tm ρ λd ρ'=>O.nx (ρ'.set i (some (d,false)))
variable {pos:Pos}
theorem zaU (he:PuM X e tm)(hs:autoParam (swapsWith e none pos.line X.env=pure false) aU0):PuS X (.Expr e pos) (zbq tm) where
 mono ρ O O' m h:=he.mono ρ _ _ (λ_ _ q=>m.nx _ q) h
 run:=PS.weak (zlq he.run hs) λD σ H h=>by
  obtain⟨ρ,Fz,R,h⟩:=h;exact⟨ρ,Fz,R,he.mono ρ _ _ (λd ρ' q v F' H' s' o' R' _=>q σ F' H' s' o' R') h⟩
theorem zod {i:Nat}{y:Str}{pos':Pos}(hN:X.N.Nodup)(hi:X.N[i]? = some y)(hx:Loc X.env.scope y)(he:PuM X e tm)(hs:autoParam (swapsWith e (some (.Name y pos')) pos.line X.env=pure false) aU0)(hf:autoParam (X.fn y=true\/X.env.scope.names.lookup y=some .local) aU2) :
  PuS X (.Assign [.Name y pos'] e pos) (zdA i tm) where
 mono ρ O O' m h:=he.mono ρ _ _ (λ_ _ q=>m.nx _ q) h
 run:=PS.weak (zhw hN hi hx he.run hs hf) λD σ H h=>by
  obtain⟨ρ,Fz,R,h⟩:=h;exact⟨ρ,Fz,R,he.mono ρ _ _ (λd ρ' q v F' H' s' o' R' dn=>q _ F' H' s' (λb hb=>o' b (zei b hb)) (R'.set dn)) h⟩
end
theorem zmb {K:Xa}{Fz:FZ}{H:Hp}{ds:List PV}{xs:List V}{i:Int}{d:PV}(h:DenL K Fz H ds xs)(e:atI ds i=some d):∃v,atI xs i=some v/\Den K Fz H d v:=by
 unfold atI at e ⊢;rw[<- h.length];cases q:ixN ds.length i with
 | none=>rw[q]at e;cases e
 | some j=>
  rw[q]at e;obtain⟨v,h1,h2⟩:=h.get (i:=j) (d:=d) e;exact⟨v,h1,h2⟩
noncomputable def ixV (d e x:PV):Prop:=(∃ds i,(d=.lst ds\/d=.tup ds)/\e=.int i/\atI ds i=some x)\/∃z i c,d=.str z/\e=.int i/\z.length<=sizeLine/\atI z.cps.toList i=some c/\x=.str ⟨#[c]⟩
noncomputable def pIx:P2:=λd e Q=>∃x,ixV d e x/\Q x .frz
theorem ztA {K:Xa}:POp K (rIx K) pIx where
 mono d e Q Q' m h:=by obtain⟨x,h,q⟩:=h;exact⟨x,h,m _ _ q⟩
 run Fz H x y d e Q al rx ry h:=by
  obtain⟨x',h,q⟩:=h;rcases h with ⟨ds,i,e1,rfl,e3⟩ | ⟨z,i,c,rfl,rfl,e3,e4,rfl⟩
  ·rcases e1 with rfl | rfl
   ·obtain⟨a,xs,rfl,h1,h2⟩:=zam rx;obtain⟨v,g1,g2⟩:=zmb h2 e3;exact .inl ⟨a,xs,i,v,rfl,zaE ry,h1,g1,q v Fz H (.val al g2)⟩
   ·obtain⟨a,xs,rfl,h1,h2⟩:=zbH rx;obtain⟨v,g1,g2⟩:=zmb h2 e3;exact .inr (.inl ⟨a,xs,i,v,rfl,zaE ry,h1,g1,q v Fz H (.val al g2)⟩)
  ·exact .inr (.inr ⟨z,i,c,zbv rx,zaE ry,e3,e4,q _ Fz H (.val al (by simp only[Den]))⟩)
section
variable {X:Cx}{a b:Expr}{ta tb:TPE}{pos:Pos}
theorem zax (ha:PuE X a ta)(hb:PuE X b tb)(hs:autoParam (ziN b) aU6):PuE X (.Subscript a b pos) (t2 pIx ta tb):=ztz zrM ztA ha hb hs
theorem zeC (hu:X.A.units+16<cLine)(ha:PuE X a ta)(hb:PuE X b tb)(hm:autoParam (behindInMarks .Eq b=false) aU5):PuT X (.Compare a [.Eq] [b] pos) (tBl (t2 (pEq false) ta tb)):=zdq (zsc hu) zph ha hb hm
theorem zhQ (hu:X.A.units+16<cLine)(ha:PuE X a ta)(hb:PuE X b tb)(hm:autoParam (behindInMarks .NotEq b=false) aU5):PuT X (.Compare a [.NotEq] [b] pos) (tBl (t2 (pEq true) ta tb)):=zdq (zsd hu) zph ha hb hm
theorem zmc (ha:PuE X a ta)(hb:PuE X b tb)(hm:autoParam (behindInMarks .Lt b=false) aU5):PuT X (.Compare a [.Lt] [b] pos) (tBl (pLt ta tb)):=zdq ztl zjx ha hb hm
theorem zhR (ha:PuE X a ta)(hb:PuE X b tb)(hm:autoParam (behindInMarks .Gt b=false) aU5):PuT X (.Compare a [.Gt] [b] pos) (tBl (pGt ta tb)):=zdq ztm zjx ha hb hm
end
noncomputable def rInP (K:Xa)(neg:Bool):R2:=λx y H Q=>∃Fz d ds p xs,Root K Fz H d x/\y=.ref p/\(SqL K H p xs\/SqT K H p xs)/\DenL K Fz H ds xs/\plain 6 d=true/\ds.all (plain 6)=true/\Q (.bl (if neg then !decide (d∈ds) else decide (d∈ds))) H
noncomputable def pIn (neg:Bool):P2:=λd e Q=>∃ds,(e=.lst ds\/e=.tup ds)/\plain 6 d=true/\ds.all (plain 6)=true/\Q (.bl (if neg then !decide (d∈ds) else decide (d∈ds))) .frz
theorem zsn {K:Xa}{neg:Bool}:POp K (rInP K neg) (pIn neg) where
 mono d e Q Q' m h:=by obtain⟨ds,e1,e2,e3,q⟩:=h;exact⟨ds,e1,e2,e3,m _ _ q⟩
 run Fz H x y d e Q al rx ry h:=by
  obtain⟨ds,e1,e2,e3,q⟩:=h;rcases e1 with rfl | rfl
  ·obtain⟨a,xs,rfl,h1,h2⟩:=zam ry;exact⟨Fz,d,ds,a,xs,rx,rfl,.inl h1,h2,e2,e3,q _ Fz H (.val al (by simp only[Den]))⟩
  ·obtain⟨a,xs,rfl,h1,h2⟩:=zbH ry;exact⟨Fz,d,ds,a,xs,rx,rfl,.inr h1,h2,e2,e3,q _ Fz H (.val al (by simp only[Den]))⟩
noncomputable def dcd (p:Prop):Bool:=@decide p (Classical.propDecidable p)
theorem zjD {p:Prop}(h:p):dcd p=true:=@decide_eq_true p (Classical.propDecidable p) h
theorem zmd {p:Prop}(h:¬ p):dcd p=false:=@decide_eq_false p (Classical.propDecidable p) h
theorem zqj {p:Prop}:dcd p=true↔p:=@decide_eq_true_iff p (Classical.propDecidable p)
section
variable {X:Cx}{pins:List (Addr×Obj)}{σ:St}{H:Hp}{s:Shared}{Fz:FZ}
theorem zfr (I:Inv X pins σ H s){A:Around}(hu:A.units+16<cLine){d:PV}{ds:List PV}{x:V}{xs:List V}{v:Value}{its:List Value}(hx:Root X.K Fz H d x)(rx:RelV x v)(r:Vals xs its)(h:DenL X.K Fz H ds xs)(pd:plain 6 d=true)(ps:ds.all (plain 6)=true) :
  ∃e:Value->Bool,(∀y,y∈its.toArray->SeqAt.EqAt A.in1 s y v (e y))/\its.toArray.any e=decide (d∈ds):=by
 refine⟨λu=>dcd (∃j:Nat,its[j]? = some u/\ds[j]? = some d),λu hu'=>?_,?_⟩
 ·obtain⟨j,hj⟩:=List.mem_iff_getElem?.mp (show u∈its by simpa using hu');have l1:=r.length;have l2:=h.length;have hjl:j<its.length:=(Xc.mp hj).1;have e1:ds[j]? = some ds[j]:=Xd (by lia);obtain⟨y,e2,q2⟩:=h.get e1;obtain⟨u',e3,q3⟩:=r.get e2;rw[hj]at e3;cases e3;have pj:plain 6 ds[j]=true:=XE.mp ps _ (YC _);have w:dcd (∃j':Nat,its[j']? = some u/\ds[j']? = some d)=decide (ds[j]=d):=by
   by_cases hd:ds[j]=d
   ·rw[decide_eq_true hd,zjD ⟨j,hj,by rw[e1,hd]⟩]
   ·rw[decide_eq_false hd];refine zmd ?_;rintro⟨j',g1,g2⟩;obtain⟨y',e2',q2'⟩:=h.get g2;obtain⟨u',e3',q3'⟩:=r.get e2';rw[g1]at e3';cases e3';have ey:y=y':=q3.inj q3';subst ey;exact hd (zgU I 6 _ _ _ pj pd q2.root q2'.root)
  show SeqAt.EqAt A.in1 s u v (dcd (∃j':Nat,its[j']? = some u/\ds[j']? = some d));rw[w];exact(zqg I 6 A.in1 ds[j] d y x u v pj pd (by show A.units+1+6<cLine;lia) q2.root hx q3 rx).2.2
 ·have l1:=r.length;have l2:=h.length;by_cases hd:d∈ds
  ·rw[decide_eq_true hd];obtain⟨j,hj⟩:=List.mem_iff_getElem?.mp hd;have hjl:j<ds.length:=(Xc.mp hj).1;rw[Array.any_eq_true];refine⟨j,by simpa using (by lia:j<its.length),?_⟩;refine zjD ⟨j,?_,hj⟩;simp
  ·rw[decide_eq_false hd];rw[Array.any_eq_false];intro i hi;intro z;obtain⟨j,g1,g2⟩:=zqj.mp z;exact hd (Xr g2)
theorem zso (hu:X.A.units+16<cLine):OpR X (compareOp .In) (rInP X.K false):=by
 intro pins s σ H x y v u Q I rx ry h;obtain⟨Fz,d,ds,p,xs,hx,rfl,hq,hd,p1,p2,q⟩:=h;cases ry;rcases hq with hq | hq
 ·obtain⟨its,r,pl,hz⟩:=I.list hq;obtain⟨e,h1,h2⟩:=zfr I hu hx rx r hd p1 p2;exact SeqAt.in_listAt e pl.isList h1 ⟨.bl _,H,I,rfl,by rw[h2];exact q⟩
 ·obtain⟨its,r,pl,hz⟩:=I.tuple hq;obtain⟨e,h1,h2⟩:=zfr I hu hx rx r hd p1 p2;exact SeqAt.in_tupleAt e pl h1 ⟨.bl _,H,I,rfl,by rw[h2];exact q⟩
theorem zme (hu:X.A.units+16<cLine):OpR X (compareOp .NotIn) (rInP X.K true):=by
 intro pins s σ H x y v u Q I rx ry h;obtain⟨Fz,d,ds,p,xs,hx,rfl,hq,hd,p1,p2,q⟩:=h;cases ry;rcases hq with hq | hq
 ·obtain⟨its,r,pl,hz⟩:=I.list hq;obtain⟨e,h1,h2⟩:=zfr I hu hx rx r hd p1 p2;exact SeqAt.notIn_listAt e pl.isList h1 ⟨.bl _,H,I,rfl,by rw[h2];exact q⟩
 ·obtain⟨its,r,pl,hz⟩:=I.tuple hq;obtain⟨e,h1,h2⟩:=zfr I hu hx rx r hd p1 p2;exact SeqAt.notIn_tupleAt e pl h1 ⟨.bl _,H,I,rfl,by rw[h2];exact q⟩
variable {a b:Expr}{ta tb:TPE}{pos:Pos}
theorem zsp (hu:X.A.units+16<cLine)(ha:PuE X a ta)(hb:PuE X b tb)(hm:autoParam (behindInMarks .In b=false) aU5):PuT X (.Compare a [.In] [b] pos) (tBl (t2 (pIn false) ta tb)):=zdq (zso hu) zsn ha hb hm
theorem zmf (hu:X.A.units+16<cLine)(ha:PuE X a ta)(hb:PuE X b tb)(hm:autoParam (behindInMarks .NotIn b=false) aU5):PuT X (.Compare a [.NotIn] [b] pos) (tBl (t2 (pIn true) ta tb)):=zdq (zme hu) zsn ha hb hm
end
noncomputable def pIsN (neg:Bool):P2:=λd e Q=>e=.non/\Q (.bl (if neg then !decide (d=.non) else decide (d=.non))) .frz
theorem zjE {K:Xa}{Fz:FZ}{H:Hp}{d:PV}{x:V}(r:Root K Fz H d x):decide (x=V.non)=decide (d=.non):=by
 cases d with
 | non=>rw[zcs r];simp
 | bl b=>rw[zeV r];simp
 | int b=>rw[zaE r];simp
 | str b=>rw[zbv r];simp
 | tup ds=>obtain⟨a,xs,rfl,_⟩:=zbH r;simp
 | lst ds=>obtain⟨a,xs,rfl,_⟩:=zam r;simp
 | ty n=>simp only[Root,Den]at r;rw[r];simp
 | dK ks ds=>simp only[Root]at r;obtain⟨a,xs,rfl,_⟩:=r;simp
 | dT ks ds=>simp only[Root]at r;obtain⟨a,xs,rfl,_⟩:=r;simp
 | obj C ks ds=>simp only[Root,Den]at r;obtain⟨a,dx,xs,rfl,_⟩:=r;simp
theorem zsq {K:Xa}:POp K (λx y H Q=>y=.non/\Q (.bl (decide (x=.non))) H) (pIsN false) where
 mono d e Q Q' m h:=⟨h.1,m _ _ h.2⟩
 run Fz H x y d e Q al rx ry h:=by
  obtain⟨rfl,q⟩:=h;refine⟨zcs ry,?_⟩;rw[zjE rx];exact q _ Fz H (.val al (by simp only[Den];rfl))
theorem zqk {K:Xa}:POp K (λx y H Q=>y=.non/\Q (.bl (!decide (x=.non))) H) (pIsN true) where
 mono d e Q Q' m h:=⟨h.1,m _ _ h.2⟩
 run Fz H x y d e Q al rx ry h:=by
  obtain⟨rfl,q⟩:=h;refine⟨zcs ry,?_⟩;rw[zjE rx];exact q _ Fz H (.val al (by simp only[Den];rfl))
section
variable {X:Cx}{a b:Expr}{ta tb:TPE}{pos:Pos}
theorem ziV (ha:PuE X a ta)(hb:PuE X b tb)(hm:autoParam (behindInMarks .Is b=false) aU5):PuT X (.Compare a [.Is] [b] pos) (tBl (t2 (pIsN false) ta tb)):=zdq zrF zsq ha hb hm
theorem zjF (ha:PuE X a ta)(hb:PuE X b tb)(hm:autoParam (behindInMarks .IsNot b=false) aU5):PuT X (.Compare a [.IsNot] [b] pos) (tBl (t2 (pIsN true) ta tb)):=zdq zpG zqk ha hb hm
end
theorem zql:bootBuiltins "list" = some (.type "list"):=by decide +kernel
theorem zsr:bootBuiltins "tuple" = some (.type "tuple"):=by decide +kernel
theorem zss:bootBuiltins "dict" = some (.type "dict"):=by decide +kernel
theorem bInt:bootBuiltins "int" = some (.type "int"):=by decide +kernel
theorem ztB:bootBuiltins "bool" = some (.type "bool"):=by decide +kernel
theorem bLen:bootBuiltins "len" = some (.builtin "len"):=by decide +kernel
theorem zmg:bootBuiltins "sorted" = some (.builtin "sorted"):=by decide +kernel
theorem bIsi:bootBuiltins "isinstance" = some (.builtin "isinstance"):=by decide +kernel
theorem bMax:bootBuiltins "max" = some (.builtin "max"):=by decide +kernel
theorem bMin:bootBuiltins "min" = some (.builtin "min"):=by decide +kernel
theorem zdB {K:Xa}{Fz:FZ}{H:Hp}{d:PV}{vs:List V}(h:zlS K Fz H [d] vs):∃v,vs=[v]/\Root K Fz H d v:=by
 cases h with
 | cons r t=>cases t;exact⟨_,rfl,r⟩
theorem zjG {K:Xa}{Fz:FZ}{H:Hp}{d e:PV}{vs:List V}(h:zlS K Fz H [d,e] vs):∃v u,vs=[v,u]/\Root K Fz H d v/\Root K Fz H e u:=by
 cases h with
 | cons r t=>
  cases t with
  | cons r2 t=>cases t;exact⟨_,_,rfl,r,r2⟩
theorem Post.newL {K:Xa}{Fz:FZ}{H:Hp}{p:Addr}{ds:List PV}{xs:List V}(al:∀b,Fz b->H b≠none)(hp:H p=none)(h:DenL K Fz H ds xs):Post K [] [] Fz H Fz (upd H p (.lst xs)) (.lst ds) .new (.ref p):=
 ⟨Ext.laid ⟨Same.refl H,λ_ h=>h,λ_ h=>.inl h,al⟩ hp,p,rfl,hp,λz=>al p z hp,xs,zal,DenL.mono (Keep.of (λb u e=>by rw[zaj (zaD e hp)];exact e)) (λ_ h=>h) _ _ h⟩
theorem Post.newT {K:Xa}{Fz:FZ}{H:Hp}{p:Addr}{ds:List PV}{xs:List V}(al:∀b,Fz b->H b≠none)(hp:H p=none)(h:DenL K Fz H ds xs):Post K [] [] Fz H Fz (upd H p (.tup xs)) (.tup ds) .frz (.ref p):=by
 refine⟨Ext.laid ⟨Same.refl H,λ_ h=>h,λ_ h=>.inl h,al⟩ hp,?_⟩;show Den _ _ _ _ _;simp only[Den];exact⟨p,xs,rfl,zal,DenL.mono (Keep.of (λb u e=>by rw[zaj (zaD e hp)];exact e)) (λ_ h=>h) _ _ h⟩
noncomputable def LenP:PV->Nat->Prop
 | .str y,n=>y.length<=sizeLine/\n=y.length
 | .lst ds,n=>n=ds.length
 | .tup ds,n=>n=ds.length
 | .dK ks _,n=>n=ks.length
 | _,_=>False
noncomputable def fLen:PF:=λds Q=>∃d n,ds=[d]/\LenP d n/\Q (.int n) .frz
noncomputable def rLen (K:Xa):List V->Hp->VK->Prop:=λxs H Q=>(∃x n,xs=[x]/\LenV K x H n/\Q (.int n) H)\/∃a kvs,xs=[.ref a]/\Rd H a (.dK kvs)/\Q (.int kvs.length) H
theorem zmh {X:Cx}:zdo X (.builtin "len") (rLen X.K):=by
 intro pins s σ H xs us Q I r h;rcases h with h | ⟨a,kvs,rfl,ha,q⟩
 ·exact znJ pins s σ H xs us Q I r h
 ·obtain⟨u,rfl,ru⟩:=vals1 r;cases ru;exact ztv I ha λt s' I'=>⟨.int kvs.length,H,I',⟨t,rfl⟩,q⟩
theorem zst {K:Xa}:zeh K (rLen K) fLen where
 mono ds Q Q' m h:=by obtain⟨d,n,e1,e2,q⟩:=h;exact⟨d,n,e1,e2,m _ _ q⟩
 run Fz H ds vs Q al r h:=by
  obtain⟨d,n,rfl,e,q⟩:=h;obtain⟨v,rfl,rv⟩:=zdB r;have q':=q (.int n) Fz H (.val al (by simp only[Den]));cases d with
  | str y=>cases zbv rv;exact .inl ⟨_,n,rfl,e,q'⟩
  | lst ds=>obtain⟨a,xs,rfl,h1,h2⟩:=zam rv;exact .inl ⟨_,n,rfl,.inl ⟨xs,h1,by rw[<- h2.length];exact e⟩,q'⟩
  | tup ds=>obtain⟨a,xs,rfl,h1,h2⟩:=zbH rv;exact .inl ⟨_,n,rfl,.inr ⟨xs,h1,by rw[<- h2.length];exact e⟩,q'⟩
  | dK ks ds=>
   simp only[Root]at rv;obtain⟨a,xs,rfl,h1,h2,h3⟩:=rv;have e':n=ks.length:=e;refine .inr ⟨a,_,rfl,h1,?_⟩;rw[Ys,<- h2,Nat.min_self,<- e'];exact q'
  | non=>exact e.elim
  | bl b=>exact e.elim
  | int i=>exact e.elim
  | ty n=>exact e.elim
  | dT ks ds=>exact e.elim
  | obj C ks ds=>exact e.elim
noncomputable def zdi:PF:=λds Q=>∃es,(ds=[.lst es]\/ds=[.tup es])/\Q (.lst es) .new
noncomputable def zbN:PF:=λds Q=>∃es,(ds=[.lst es]\/ds=[.tup es])/\Q (.tup es) .frz
theorem zqm {K:Xa}:zeh K (zqc K) zdi where
 mono ds Q Q' m h:=by obtain⟨es,e,q⟩:=h;exact⟨es,e,m _ _ q⟩
 run Fz H ds vs Q al r h:=by
  obtain⟨es,e,q⟩:=h;rcases e with rfl | rfl
  ·obtain⟨v,rfl,rv⟩:=zdB r;obtain⟨a,xs,rfl,h1,h2⟩:=zam rv;exact⟨a,xs,rfl,.inl h1,λl hl=>q _ Fz _ (.newL al hl h2)⟩
  ·obtain⟨v,rfl,rv⟩:=zdB r;obtain⟨a,xs,rfl,h1,h2⟩:=zbH rv;exact⟨a,xs,rfl,.inr h1,λl hl=>q _ Fz _ (.newL al hl h2)⟩
theorem zoe {K:Xa}:zeh K (zsa K) zbN where
 mono ds Q Q' m h:=by obtain⟨es,e,q⟩:=h;exact⟨es,e,m _ _ q⟩
 run Fz H ds vs Q al r h:=by
  obtain⟨es,e,q⟩:=h;rcases e with rfl | rfl
  ·obtain⟨v,rfl,rv⟩:=zdB r;obtain⟨a,xs,rfl,h1,h2⟩:=zam rv;exact⟨a,xs,rfl,.inl ⟨h1,λl hl=>q _ Fz _ (.newT al hl h2)⟩⟩
  ·obtain⟨v,rfl,rv⟩:=zdB r;obtain⟨a,xs,rfl,h1,h2⟩:=zey rv;exact⟨a,xs,rfl,.inr ⟨SqT.of h1,q _ Fz H (.val al (by simp only[Den];exact⟨a,xs,rfl,h1,h2⟩))⟩⟩
theorem zhS {K:Xa}{Fz:FZ}{H:Hp}:∀ {ss:List Str}{xs:List V},DenL K Fz H (ss.map PV.str) xs->xs=ss.map V.str
 | [],xs,h=>by rw[YL]at h;simp only[DenL]at h;exact h
 | s::r,xs,h=>by
  rw[Xp]at h;simp only[DenL]at h;obtain⟨v,t,z,h1,h2⟩:=h;simp only[Den]at h1;subst z h1;rw[Xp,zhS h2]
theorem zfS {K:Xa}{Fz:FZ}{H:Hp}:∀(ss:List Str),DenL K Fz H (ss.map PV.str) (ss.map V.str)
 | []=>DenL.nil
 | s::r=>by rw[Xp,Xp];exact DenL.cons (by simp only[Den]) (zfS r)
noncomputable def zbU:PF:=λds Q=>∃ss:List Str,ds=[.lst (ss.map PV.str)]/\ss.length<64/\∀zs,zs.Perm ss->sortedS zs=true->Q (.lst (zs.map PV.str)) .new
theorem zof {X:Cx}:zeh X.K (λxs H Q=>∃(p:Addr)(ss:List Str),xs=[.ref p]/\SqL X.K H p (ss.map V.str)/\ss.length<64/\∀l zs,H l=none->zs.Perm ss->sortedS zs=true->Q (.ref l) (upd H l (.lst (zs.map V.str)))) zbU where
 mono ds Q Q' m h:=by obtain⟨ss,e1,e2,q⟩:=h;exact⟨ss,e1,e2,λzs h1 h2=>m _ _ (q zs h1 h2)⟩
 run Fz H ds vs Q al r h:=by
  obtain⟨ss,rfl,e2,q⟩:=h;obtain⟨v,rfl,rv⟩:=zdB r;obtain⟨a,xs,rfl,h1,h2⟩:=zam rv;have:=zhS h2;subst this;exact⟨a,ss,rfl,h1,e2,λl zs hl hz hs=>q zs hz hs _ Fz _ (.newL al hl (zfS zs))⟩
section
variable {X:Cx}{e:Expr}{es:List Expr}{te:TPE}{t:TPA}{p p1 p2 pos pos2:Pos}
theorem zbr (hg:Gl X "len") (hm:X.mg "len" = none) (ha:PuA X (e::es) t) (he:autoParam (starEach (e::es) X.env=(false,eval e X.env)::starEach es X.env) aU0) (hpl:autoParam ((backTo pos (starEach es X.env)).any (·.1)=false) aU0):PuE X (.Call (.Name "len" p) (e::es) [] pos) (tB fLen t):=
 zcD zmh zst hg hm bLen ha (by decide) (by decide) he hpl
theorem zeW (hg:Gl X "list") (hm:X.mg "list" = none) (ha:PuA X (e::es) t) (he:autoParam (starEach (e::es) X.env=(false,eval e X.env)::starEach es X.env) aU0) (hpl:autoParam ((backTo pos (starEach es X.env)).any (·.1)=false) aU0):PuE X (.Call (.Name "list" p) (e::es) [] pos) (tB zdi t):=
 zeA zhE zqm hg hm zql ha (by decide) (by decide) he hpl
theorem zfs (hg:Gl X "tuple") (hm:X.mg "tuple" = none) (ha:PuA X (e::es) t) (he:autoParam (starEach (e::es) X.env=(false,eval e X.env)::starEach es X.env) aU0) (hpl:autoParam ((backTo pos (starEach es X.env)).any (·.1)=false) aU0):PuE X (.Call (.Name "tuple" p) (e::es) [] pos) (tB zbN t):=
 zeA zgO zoe hg hm zsr ha (by decide) (by decide) he hpl
theorem zog (hg:Gl X "sorted") (hm:X.mg "sorted" = none) (ha:PuA X (e::es) t) (he:autoParam (starEach (e::es) X.env=(false,eval e X.env)::starEach es X.env) aU0) (hpl:autoParam ((backTo pos (starEach es X.env)).any (·.1)=false) aU0):PuE X (.Call (.Name "sorted" p) (e::es) [] pos) (tB zbU t):=
 zcD zkM zof hg hm zmg ha (by decide) (by decide) he hpl
end
noncomputable def tyP:PV->String
 | .non=>"NoneType"
 | .bl _=>"bool"
 | .int _=>"int"
 | .str _=>"str"
 | .ty _=>"type"
 | .tup _=>"tuple"
 | .lst _=>"list"
 | .dK _ _=>"dict"
 | .dT _ _=>"dict"
 | .obj _ _ _=>"object"
noncomputable def isObj:PV->Bool
 | .obj _ _ _=>true
 | _=>false
noncomputable def NoT (d:PV):Prop:=(∀n,d≠.ty n)/\isObj d=false
theorem zjH {X:Cx}{pins:List (Addr×Obj)}{σ:St}{H:Hp}{s:Shared}{Fz:FZ}{d:PV}{x:V}{u:Value}(I:Inv X pins σ H s)(r:Root X.K Fz H d x)(rx:RelV x u)(hd:NoT d):∃P:Heap->Prop,PySem.W.KitX X.K u (.type (tyP d)) P/\P s.heap/\u≠.builtin "__main__.__loader__#opaque":=by
 cases d with
 | non=>cases zcs r;cases (show u=Value.none from rx);exact⟨_,PySem.W.kitx_none,True.intro,λz=>nomatch z⟩
 | bl y=>cases zeV r;cases (show u=Value.bool y from rx);exact⟨_,PySem.W.kitx_bool,True.intro,λz=>nomatch z⟩
 | int i=>cases zaE r;obtain⟨t,q⟩:=(show ∃t,u=Value.int i t from rx);cases q;exact⟨_,PySem.W.kitx_int,True.intro,λz=>nomatch z⟩
 | str y=>cases zbv r;obtain⟨t,q⟩:=(show ∃t,u=Value.str y t from rx);cases q;exact⟨_,PySem.W.kitx_str,True.intro,λz=>nomatch z⟩
 | ty n=>exact absurd rfl (hd.1 n)
 | obj C ks ds=>exact absurd hd.2 (by simp[isObj])
 | lst ds=>
  obtain⟨a,xs,rfl,h1,_⟩:=zam r;cases (show u=Value.ref a from rx);obtain⟨its,_,⟨o,n,e,c,_⟩,_⟩:=I.list h1;exact⟨_,PySem.W.kitx_list,⟨o,e,c⟩,λz=>nomatch z⟩
 | tup ds=>
  obtain⟨a,xs,rfl,h1,_⟩:=zbH r;cases (show u=Value.ref a from rx);obtain⟨its,_,⟨o,e,c,_⟩,_⟩:=I.tuple h1;exact⟨_,PySem.W.kitx_tuple,⟨o,e,c⟩,λz=>nomatch z⟩
 | dK ks ds=>
  simp only[Root]at r;obtain⟨a,xs,rfl,h1,_⟩:=r;cases (show u=Value.ref a from rx);obtain⟨_,_,vs,_,o,es,ep,e,ex,_⟩:=zgR I.hok h1;exact⟨_,PySem.W.kitx_dict,⟨o,e,ex.1⟩,λz=>nomatch z⟩
 | dT ks ds=>
  simp only[Root]at r;obtain⟨a,xs,rfl,h1,_⟩:=r;cases (show u=Value.ref a from rx);obtain⟨_,_,vs,_,o,es,ep,e,ex,_⟩:=ziO I.hok h1;exact⟨_,PySem.W.kitx_dict,⟨o,e,ex.1⟩,λz=>nomatch z⟩
noncomputable def fIsi (K:Xa):PF:=λds Q=>(∃d c,ds=[d,.ty c]/\NoT d/\∃b,PySem.W.kitOne K (.type (tyP d)) (.type c)=some b/\Q (.bl b) .frz)\/
 ∃d es,ds=[d,.tup es]/\NoT d/\∃(cs:List String) (b:Bool),es=cs.map PV.ty/\PySem.W.kitAny K (.type (tyP d)) (cs.map Value.type)=some b/\Q (.bl b) .frz
noncomputable def zsu (K:Xa):List V->Hp->VK->Prop:=λxs H Q=>∃Fz d x b,Root K Fz H d x/\NoT d/\((∃c,xs=[x,.ty c]/\PySem.W.kitOne K (.type (tyP d)) (.type c)=some b)\/∃(p:Addr)(cs:List String),xs=[x,.ref p]/\SqT K H p (cs.map V.ty)/\PySem.W.kitAny K (.type (tyP d)) (cs.map Value.type)=some b)/\Q (.bl b) H
theorem zmi {X:Cx}:zdo X (.builtin "isinstance") (zsu X.K):=by
 intro pins s σ H xs us Q I r h;obtain⟨Fz,d,x,b,rt,hd,e,q⟩:=h;rcases e with ⟨c,rfl,e⟩ | ⟨p,cs,rfl,hp,e⟩
 ·obtain⟨u,w',rfl,r1,r2⟩:=vals2 r;cases r2;obtain⟨P,Z,hP,ne⟩:=zjH I rt r1 hd;exact PySem.W.kia_one Z I.kIn hP e ne λtk=>⟨.bl b,H,I.tok tk,rfl,q⟩
 ·obtain⟨u,w',rfl,r1,r2⟩:=vals2 r;cases r2;obtain⟨P,Z,hP,ne⟩:=zjH I rt r1 hd;obtain⟨its,rv,⟨⟨cls,dd,data,sl⟩,ho,hc,n,hdt⟩,hzz⟩:=I.tuple hp;simp only at hc hdt;subst hc hdt;have ei:its=cs.map Value.type:=by
   clear hp ho e hzz;induction cs generalizing its with
   | nil=>cases rv;rfl
   | cons c cs ih=>
    cases rv with
    | cons q1 q2=>rw[show _=Value.type c from q1,ih _ q2];rfl
  subst ei;exact PySem.W.kia_tup Z I.kIn hP ho e ne λtk=>⟨.bl b,H,I.tok tk,rfl,q⟩
theorem zjI {K:Xa}{Fz:FZ}{H:Hp}:∀ {ss:List String}{xs:List V},DenL K Fz H (ss.map PV.ty) xs->xs=ss.map V.ty
 | [],xs,h=>by rw[YL]at h;simp only[DenL]at h;exact h
 | s::r,xs,h=>by
  rw[Xp]at h;simp only[DenL]at h;obtain⟨v,t,z,h1,h2⟩:=h;simp only[Den]at h1;subst z h1;rw[Xp,zjI h2]
theorem zsv {K:Xa}:zeh K (zsu K) (fIsi K) where
 mono ds Q Q' m h:=by
  rcases h with ⟨d,c,e,hd,b,e2,q⟩ | ⟨d,es,e,hd,cs,b,e2,e3,q⟩
  ·exact .inl ⟨d,c,e,hd,b,e2,m _ _ q⟩
  ·exact .inr ⟨d,es,e,hd,cs,b,e2,e3,m _ _ q⟩
 run Fz H ds vs Q al r h:=by
  rcases h with ⟨d,c,rfl,hd,b,e,q⟩ | ⟨d,es,rfl,hd,cs,b,rfl,e,q⟩
  ·have q':=q (.bl b) Fz H (.val al (by simp only[Den]));obtain⟨v,u,rfl,r1,r2⟩:=zjG r;simp only[Root,Den]at r2;subst r2;exact⟨Fz,d,v,b,r1,hd,.inl ⟨c,rfl,e⟩,q'⟩
  ·have q':=q (.bl b) Fz H (.val al (by simp only[Den]));obtain⟨v,u,rfl,r1,r2⟩:=zjG r;obtain⟨a,xs,rfl,h1,h2⟩:=zbH r2;have:=zjI h2;subst this;exact⟨Fz,d,v,b,r1,hd,.inr ⟨a,cs,rfl,h1,e⟩,q'⟩
section
variable {X:Cx}{e:Expr}{es:List Expr}{te:TPE}{t:TPA}{p p1 p2 pos pos2:Pos}
theorem zmj {K:Xa}(hK:X.K=K)(hg:Gl X "isinstance") (hm:X.mg "isinstance" = none) (ha:PuA X (e::es) t) (he:autoParam (starEach (e::es) X.env=(false,eval e X.env)::starEach es X.env) aU0) (hpl:autoParam ((backTo pos (starEach es X.env)).any (·.1)=false) aU0):PuE X (.Call (.Name "isinstance" p) (e::es) [] pos) (tB (fIsi K) t):=by
 subst hK;exact zcD zmi zsv hg hm bIsi ha (by decide) (by decide) he hpl
end
noncomputable abbrev TPO:=PEnv->(Option Int->Prop)->Prop
noncomputable def ztC (K:Xa)(t:TPO):TO:=λσ H Q=>∃ρ Fz,Rel K Fz ρ σ H/\t ρ λo=>∀Fz' H',Ext Fz H Fz' H'->Q o H'
structure PuO (X:Cx)(e:Option Expr)(t:TPO):Prop where
 mono:∀ρ Q Q',(∀o,Q o->Q' o)->t ρ Q->t ρ Q'
 run:PO X e (ztC X.K t)
theorem PO.weak {X:Cx}{e:Option Expr}{t t':TO}(h:PO X e t)(w:∀σ H Q,t' σ H Q->t σ H Q):PO X e t':=λpins s σ H Q I q=>h pins s σ H Q I (w σ H Q q)
noncomputable def zcU:TPO:=λ_ Q=>Q none
noncomputable def zcV (te:TPE):TPO:=λρ Q=>te ρ λd _=>∃i,d=.int i/\Q (some i)
theorem zeD {X:Cx}:PuO X none zcU where
 mono ρ Q Q' m h:=m _ h
 run:=PO.weak zpN λσ H Q h=>by
  obtain⟨ρ,Fz,R,h⟩:=h;exact h Fz H ⟨Same.refl H,λ_ h=>h,λ_ h=>.inl h,R.al⟩
theorem zct {X:Cx}{e:Expr}{te:TPE}(h:PuE X e te):PuO X (some e) (zcV te) where
 mono ρ Q Q' m q:=h.mono ρ _ _ (λd k q99q=>by obtain⟨i,e,q⟩:=q99q;exact⟨i,e,m _ q⟩) q
 run:=PO.weak (zpO h.run) λσ H Q q=>by
  obtain⟨ρ,Fz,R,q⟩:=q;exact⟨ρ,Fz,R,h.mono ρ _ _ (λd k q100q v F1 H1 p1=>by obtain⟨i,e,q⟩:=q100q;exact⟨i,by subst e;exact zaE (p1.root R),q F1 H1 p1.ext⟩) q⟩
noncomputable def cutP (xs:List PV)(lo hi:Option Int):List PV:=(xs.drop (HT.sIx xs.length 0 lo)).take (HT.sIx xs.length xs.length hi-HT.sIx xs.length 0 lo)
noncomputable def pSlL (te:TPE)(tl th:TPO):TPE:=λρ Q=>te ρ λd _=>tl ρ λl=>th ρ λu=>∃ds,d=.lst ds/\Q (.lst (cutP ds l u)) .new
theorem zqn {K:Xa}{Fz:FZ}{H:Hp}{ds:List PV}{xs:List V}{lo hi:Option Int}(h:DenL K Fz H ds xs):DenL K Fz H (cutP ds lo hi) (cutV xs lo hi):=by
 unfold cutP cutV;rw[h.length];exact(h.drop _).take _
section
variable {X:Cx}{e a b:Expr}{te ta tb:TPE}{lo hi:Option Expr}{tl th:TPO}{pos p2:Pos}
theorem zdT (he:PuE X e te)(hl:PuO X lo tl)(hu:PuO X hi th):PuE X (.Subscript e (.Slice lo hi none p2) pos) (pSlL te tl th) where
 mono ρ Q Q' m h:=he.mono ρ _ _ (λd k h=>hl.mono ρ _ _ (λl h=>hu.mono ρ _ _ (λu q101q=>by obtain⟨ds,e,q⟩:=q101q;exact⟨ds,e,m _ _ q⟩) h) h) h
 run:=PE.weak (zjr zpQ he.run hl.run hu.run) λσ H Q h=>by
  obtain⟨ρ,Fz,R,h⟩:=h;refine⟨ρ,Fz,R,he.mono ρ _ _ (λd k q v F1 H1 p1=>?_) h⟩;refine⟨ρ,F1,R.ext p1.ext,hl.mono ρ _ _ (λl q F2 H2 x2=>?_) q⟩;refine⟨ρ,F2,(R.ext p1.ext).ext x2,hu.mono ρ _ _ (λu q3 F3 H3 x3=>?_) q⟩;obtain⟨ds,e3,q4⟩:=q3;subst e3;obtain⟨a,xs,rfl,h1,h2⟩:=zam (((p1.root R).mono x2.same x2.sub).mono x3.same x3.sub);exact⟨a,xs,rfl,h1,λp hp=>q4 _ F3 _ ((Post.newL x3.al hp (zqn h2)).behind (p1.ext.trans (x2.trans x3)))⟩
noncomputable def pRev (te:TPE):TPE:=λρ Q=>te ρ λd _=>∃ds,d=.lst ds/\Q (.lst ds.reverse) .new
theorem zmk {j:Nat}{q1 q2 q3:Pos}(he:PuE X e te):PuE X (.Subscript e (.Slice none none (some (.UnaryOp .USub (.Constant (.int 1) j q1) q2)) q3) pos) (pRev te) where
 mono ρ Q Q' m h:=he.mono ρ _ _ (λd k q102q=>by obtain⟨ds,e,q⟩:=q102q;exact⟨ds,e,m _ _ q⟩) h
 run:=PE.weak (zrZ he.run) λσ H Q h=>by
  obtain⟨ρ,Fz,R,h⟩:=h;refine⟨ρ,Fz,R,he.mono ρ _ _ (λd k q v F1 H1 p1=>?_) h⟩;obtain⟨ds,rfl,q⟩:=q;obtain⟨a,xs,rfl,h1,h2⟩:=zam (p1.root R);exact⟨a,xs,rfl,h1,λp hp=>q _ F1 _ ((Post.newL p1.ext.al hp h2.reverse).behind p1.ext)⟩
noncomputable def zsw (K:Xa):R2:=λx y H Q=>∃l b xs zs,x=.ref l/\y=.ref b/\(Rd H l (.lst xs)\/KX K l xs)/\(Rd H b (.lst zs)\/KX K b zs)/\xs.length+zs.length<=sizeLine/\∀p,H p=none->Q (.ref p) (upd H p (.lst (xs++zs)))
theorem zsx {pins:List (Addr×Obj)}{σ:St}{H:Hp}{s:Shared}{l:Addr}{xs:List V}(I:Inv X pins σ H s)(h:Rd H l (.lst xs)\/KX X.K l xs):∃(its:List Value)(n:Nat),Vals xs its/\s.heap.get? l=some { cls:=.type "list",data:=.seq its.toArray n }:=by
 rcases h with h | ⟨its,n,h1,_,h3⟩
 ·obtain⟨z,its,n,r,e⟩:=(show zcp X.prog X.w H s.heap l (.lst xs) from h.ok I.hok);exact⟨its,n,r,e⟩
 ·exact⟨its.toList,n,h3,by rw[Array.toArray_toList];exact I.kIn l _ h1⟩
theorem zqo:OpR X (binaryOp .Add) (zsw X.K):=by
 intro pins s σ H x y v u Q I rx ry h;obtain⟨l,b,xs,zs,rfl,rfl,hH,hB,hz,q⟩:=h;cases rx;cases ry;obtain⟨its,n,r,e⟩:=zsx I hH;obtain⟨its2,n2,r2,e2⟩:=zsx I hB;have l1:=r.length;have l2:=r2.length;refine PySem.P.add_list e e2 ?_ (by rw[Xm,Xm];lia);have ea:its.toArray++its2.toArray=(its++its2).toArray:=by simp
 rw[ea];exact⟨.ref _,_,I.lnew (t':=s.toks) (r.append r2) (by rw[Xj];lia),rfl,q _ I.fresh⟩
noncomputable def pCat:P2:=λd e Q=>∃ds es,d=.lst ds/\e=.lst es/\ds.length+es.length<=sizeLine/\Q (.lst (ds++es)) .new
theorem zsy {K:Xa}:POp K (zsw K) pCat where
 mono d e Q Q' m h:=by obtain⟨ds,es,e1,e2,e3,q⟩:=h;exact⟨ds,es,e1,e2,e3,m _ _ q⟩
 run Fz H x y d e Q al rx ry h:=by
  obtain⟨ds,es,rfl,rfl,e3,q⟩:=h;obtain⟨a,xs,rfl,h1,h2⟩:=zhL rx;obtain⟨b,ys,rfl,g1,g2⟩:=zhL ry;have l1:=h2.length;have l2:=g2.length;exact⟨a,b,xs,ys,rfl,rfl,h1,g1,by lia,λp hp=>q _ Fz _ (.newL al hp (h2.append g2))⟩
theorem zjJ (ha:PuE X a ta)(hb:PuE X b tb):PuE X (.BinOp a .Add b pos) (t2 pCat ta tb):=zhJ zqo zsy ha hb
end
theorem zjK {K:Xa}{Fz:FZ}{H:Hp}{f:Str}{d:PV}:∀ {ks:List Str}{ds:List PV}{xs:List V},DenL K Fz H ds xs->(ks.zip ds).lookup f=some d->∃v,(ks.zip xs).lookup f=some v/\Den K Fz H d v
 | [],ds,xs,h,e=>by simp at e
 | k::ks,[],xs,h,e=>by simp at e
 | k::ks,d0::ds,xs,h,e=>by
  simp only[DenL]at h;obtain⟨v0,r,z,h1,h2⟩:=h;subst z;rw[XZ,XH]at e ⊢;cases hk:(f == k)with
  | true=>rw[hk]at e;cases e;exact⟨v0,rfl,h1⟩
  | false=>rw[hk]at e;exact zjK h2 e
theorem zfT {α β:Type}{f:Str}:∀ {ks:List Str}{xs:List α},f∉ks->(ks.zip xs).lookup f=none
 | [],xs,h=>by simp
 | k::ks,[],h=>by simp
 | k::ks,x::xs,h=>by
  rw[XZ,XH];have h1:(f == k)=false:=by rw[beq_eq_false_iff_ne];exact λe=>h (e▸Xh ..)
  rw[h1];exact zfT (α:=α) (β:=β) λz=>h (Xf _ z)
theorem zml {K:Xa}{Fz:FZ}{H:Hp}{C:Addr}{ks:List Str}{ds:List PV}{v:V}(h:Den K Fz H (.obj C ks ds) v):∃a dx xs,v=.ref a/\Fz a/\H a=some (.ins C dx (ks.zip xs))/\ks.length=xs.length/\DenL K Fz H ds xs:=by
 simpa only[Den]using h
section
variable {X:Cx}{o e:Expr}{es:List Expr}{te to:TPE}{t:TPA}{C:Addr}{f m:Str}{pos apos:Pos}
noncomputable def pFld (C:Addr)(f:Str)(te:TPE):TPE:=λρ Q=>te ρ λd _=>∃ks ds v,d=.obj C ks ds/\(ks.zip ds).lookup f=some v/\Q v .frz
theorem zgy (c:Cls X.K C)(n:zcC X.K C f)(he:PuE X e te)(hb:autoParam (attributeBase e f X.env (eval e X.env)=eval e X.env) aU0):PuE X (.Attribute e f pos) (pFld C f te) where
 mono ρ Q Q' mm h:=he.mono ρ _ _ (λd k q103q=>by obtain⟨ks,ds,v,e1,e2,q⟩:=q103q;exact⟨ks,ds,v,e1,e2,mm _ _ q⟩) h
 run:=PE.weak (zpa he.run hb) λσ H Q h=>by
  obtain⟨ρ,Fz,R,h⟩:=h;refine⟨ρ,Fz,R,he.mono ρ _ _ (λd k q v F1 H1 p1=>?_) h⟩;obtain⟨ks,ds,w,rfl,l,q⟩:=q;obtain⟨a,dx,xs,rfl,_,h1,h2,h3⟩:=zml (p1.root R);obtain⟨u,l',dn⟩:=zjK h3 l;exact⟨a,C,dx,_,u,rfl,h1,c,n,l',q u F1 H1 ⟨p1.ext,dn⟩⟩
noncomputable def zcg (C:Addr)(m:Str)(F:PF)(to:TPE)(t:TPA):TPE:=λρ Q=>to ρ λd _=>∃ks ds,d=.obj C ks ds/\m∉ks/\t ρ λops=>F (d::ops.map (·.1)) λd' k=>(noOwn ops=true\/zbt d' k=true)/\Q d' k
theorem zgZ {pl:Sem Bool}{k:Nat}{fa:Addr}{fd:FuncData}{ps:List Str}{F:PF}(c:Cls X.K C)(hm:Meth X.K C m fa)(G:FnOk X.prog X.w X.K X.mg X.base CX0 k fa fd ps (spP X.K F))(mf:zbs F)(hr:Room k X.A)(hb:Binds X.K fd ps [])(ho:PuE X o to)(ha:PuA X (e::es) t)
  (hst:autoParam (starEach (e::es) X.env=(false,eval e X.env)::starEach es X.env) aU0) (hpl:autoParam ((backTo pos (starEach es X.env)).any (·.1)=false) aU0)
  (ht:autoParam (eval (.Call (.Attribute o m apos) (e::es) [] pos) X.env=(do
   let ov <- eval o X.env
   standAt apos.atName
   let (f,first) <- holding [ov] (getMethod ov m pl)
   callWith pos f first (backTo pos (starEach (e::es) X.env)) (backToKw pos (keywordEach [] X.env)))) aU0) :
  PuE X (.Call (.Attribute o m apos) (e::es) [] pos) (zcg C m F to t) where
 mono ρ Q Q' mm h:=ho.mono ρ _ _ (λd k q104q=>by obtain⟨ks,ds,e1,e2,h⟩:=q104q;exact⟨ks,ds,e1,e2,ha.mono ρ _ _ (λops h=>mf _ _ _ (λd k q=>⟨q.1,mm _ _ q.2⟩) h) h⟩) h
 run:=PE.weak (zly (pl:=pl) ho.run c hm G hr hb .nil znU ha.run hst hpl ht) λσ H Q h=>by
  obtain⟨ρ,Fz,R,h⟩:=h;refine⟨ρ,Fz,R,ho.mono ρ _ _ (λd kd q v F1 H1 p1=>?_) h⟩;obtain⟨ks,ds,rfl,hn,q⟩:=q;obtain⟨a,dx,xs,rfl,hf,h1,h2,h3⟩:=zml (p1.root R);have dobj:Den X.K F1 H1 (.obj C ks ds) (.ref a):=p1.root R;refine⟨a,dx,_,rfl,h1,zfT (α:=V) (β:=V) hn,ρ,F1,R.ext p1.ext,ha.mono ρ _ _ (λops h vs F2 H2 x o=>?_) q⟩;show spP X.K F (.ref a::(vs++[])) H2 Q E0;rw[Yn];by_cases hno:noOwn ops=true
  ·obtain⟨F3,x3,s3,h3'⟩:=o.frozen x hno;refine⟨F3,.obj C ks ds::ops.map (·.1),x3.al,DenL.cons (Den.mono (.of x3.same) (λb hb=>x3.sub b hb) _ _ dobj) h3',mf _ _ _ (λd k q v F4 H4 p4=>?_) h⟩;exact q.2 v F4 H4 (p4.behind (p1.ext.trans x3))
  ·obtain⟨F3,s3,a3,h3'⟩:=o.all (R.ext p1.ext) x;refine⟨F3,.obj C ks ds::ops.map (·.1),a3,DenL.cons (Den.mono (.of x.same) (λb hb=>s3 b (x.sub b hb)) _ _ dobj) h3',mf _ _ _ (λd k q v F4 H4 p4=>?_) h⟩;have nm:zbt d k=true:=q.1.resolve_left hno;have al:∀b,F2 b->H4 b≠none:=λb hb z=>x.al b hb (p4.ext.same.free z);refine q.2 v F2 H4 ⟨⟨p1.ext.same.trans (x.same.trans p4.ext.same),λb hb=>x.sub b (p1.ext.sub b hb),λb hb=>?_,al⟩,?_⟩
   ·rcases x.new b hb with z | z
    ·exact p1.ext.new b z
    ·exact .inr (p1.ext.same.free z)
   ·exact((zgx nm x.al p4.opd).up).back (p1.ext.same.trans x.same)
end
structure Fx (K:Xa)(mg:Str->Option Value)(x:Str)(st:Stmt)(ps:List Str)(f:Addr)(fd:FuncData):Prop where
 fn:Fun K x x st f fd
 bd:Binds K fd ps []
 mg:mg x=some (.ref f)
structure Bl (mg:Str->Option Value):Prop where
 range:mg "range" = none
 len:mg "len" = none
 list:mg "list" = none
 tuple:mg "tuple" = none
 sorted:mg "sorted" = none
 set:mg "set" = none
 isi:mg "isinstance" = none
 str:mg "str" = none
 int:mg "int" = none
 bool:mg "bool" = none
 dict:mg "dict" = none
 enumerate:mg "enumerate" = none
 zip:mg "zip" = none
 min:mg "min" = none
 max:mg "max" = none
 sum:mg "sum" = none
 all:mg "all" = none
 any:mg "any" = none
 reversed:mg "reversed" = none
 abs:mg "abs" = none
 ord:mg "ord" = none
theorem zmm {K:Xa}{T c:String}{b:Bool}(h1:PySem.W.kitMeta c=true)(h2:(fastBuiltinMro T).map (·.contains (.type c))=some b)(h3:(Value.type T == Value.type c)=false):PySem.W.kitOne K (.type T) (.type c)=some b:=by
 unfold PySem.W.kitOne PySem.W.kitCls;rw[if_neg (by rw[h3];decide)];dsimp only;rw[if_pos h1];exact h2
theorem zjL {K:Xa}{T:String}:PySem.W.kitOne K (.type T) (.type T)=some true:=by
 unfold PySem.W.kitOne;rw[if_pos (by simp)]
theorem zhT {K:Xa}:PySem.W.kitOne K (.type "int") (.type "bool")=some false:=zmm (by decide +kernel) (by decide +kernel) (by decide +kernel)
theorem loc2 {k i j:Nat}(h:i<k)(h2:j<k):zsl k (zbI (zbA i) (zbI (zbA j) zdg)):=λds ρ Q ⟨d,r,e,d2,r2,e2,q⟩=>
 ⟨d,r,e,d2,r2,e2,q.1,q.2,by rw[Yb,Yb],λl hl=>by rw[Xg (by lia),Xg (by lia)]⟩
theorem zmn {P:Program}{w:World}{K:Xa}{mg mb:Str->Option Value}{CX:CXT}{k:Nat}{fa a:Addr}{fd:FuncData}{x:Str}{sp:Sp}{s₁:Shared}{vs:List Value}{ns:List Int}
  (KX:K.In s₁.heap) (hns:s₁.heap.Ns mainGlobals mg) (hb:s₁.heap.Ns builtinsNs mb) (hbb:∀x:Str,x≠"__name__"->mb x=bootBuiltins x) (hlim:s₁.heap.NoLimit) (hg:s₁.gens = #[])
  (ha:s₁.heap.get? a=some { cls:=.type "list",data:=.seq vs.toArray }) (hi:IntsAre vs ns) (hl:ns.length<=sizeLine) (hr:Room k callerA)
  (F:∀base:Heap,K.In base->base.Ns mainGlobals mg->FnOk P w K mg base CX k fa fd [x] sp) (hbind:∀(s:Shared) (u:Value),BindsTo s fd ⟨[u],[]⟩ [(x,u)])
  (hsp:∀H:Hp,Only H->(Rd H a (.lst (ns.map V.int))\/PL.KX K a (ns.map V.int))->sp [.ref a] H (λv _=>v=.bl true) λ_ _ _=>False)
  (hCX:∀H e s',CX [] H s₁ (λ_ _ _=>False) e s'->False) :
  codeAny (model P w) callerA (.call (.ref fa) ⟨[.ref a],[]⟩) (λr s'=>r=.ok (.ret (.bool true))/\OldK s₁.heap s'.heap/\s'.os=s₁.os/\AllBare s'.gens) s₁:=by
 have rv:=zhG hi;have lenV:=hi.length;have core:∀H:Hp,Only H->(Rd H a (.lst (ns.map V.int))\/PL.KX K a (ns.map V.int))->HOk P w H s₁.heap->(∀b,H b≠none->b=a)->(H a≠none->K.lookup a=none)->
   codeAny (model P w) callerA (.call (.ref fa) ⟨[.ref a],[]⟩) (λr s'=>r=.ok (.ret (.bool true))/\OldK s₁.heap s'.heap/\s'.os=s₁.os/\AllBare s'.gens) s₁:=by
  intro H hO hS hok hA hK;have base_of:∀ {b:Addr} {o:Obj},s₁.heap.get? b=some o->H b=none->(hidT s₁.heap H).get? b=some o:=λe n=>znC e n;have noA:∀ {b:Addr} {o:Obj} {es:Array DictEntry} {ep:Nat},s₁.heap.get? b=some o->o.data=.dict es ep->H b=none:=λ{b o es ep} e d=>by
   cases q:H b with
   | none=>rfl
   | some u=>
    have e':b=a:=hA b (by rw[q];simp);subst e';rw[ha]at e;cases e;have d':Data.seq vs.toArray _=Data.dict es ep:=d;cases d'
  have nsK:∀ {b:Addr} {m:Str->Option Value},s₁.heap.Ns b m->(hidT s₁.heap H).Ns b m:=λ{b m} ⟨o,es,ep,e,d,r⟩=>⟨o,es,ep,base_of e (noA e d),d,r⟩;have hKb:K.In (hidT s₁.heap H):=λb o e=>base_of (KX b o e) (by
   cases q:H b with
   | none=>rfl
   | some u=>
    have e':b=a:=hA b (by rw[q];simp);subst e';rw[hK (by rw[q];simp)]at e;cases e)
  have hM:Mod K mg (hidT s₁.heap H):=⟨hKb,nsK hns,⟨mb,nsK hb,hbb⟩,let ⟨mc,h1,h2⟩:=hlim;⟨mc,nsK h1,h2⟩⟩;have e0:Env0 P w K mg (hidT s₁.heap H) callerA [] s₁ H:=⟨rfl,hM,λb o e=>zpz e,Nat.le_of_eq (zlk _ _),trivial,λb hb=>absurd (show b∈([]:List Addr) from hb) (by simp),hok,.of_eq hg⟩;refine codeAny_mono ((F _ hKb (nsK hns)).run callerA [] s₁ H ⟨[.ref a],[]⟩ [.ref a] [.ref a] _ _ hr e0 (hbind s₁ (.ref a)) (.cons rfl .nil) (hsp H hO hS)) λr s' h=>?_;cases r with
  | error e=>exact(hCX H e s' h).elim
  | ok fl=>
   cases fl with
   | next=>exact False.elim h
   | brk=>exact False.elim h
   | cont=>exact False.elim h
   | ret u=>
    obtain⟨v,H',os,bare,un,hok',r',q⟩:=h;have q':v=.bl true:=q;subst q';obtain rfl:u=Value.bool true:=r';refine⟨rfl,OldK.of_keep λb o e=>?_,os,bare⟩;cases q:H b with
    | none=>exact un.keep b o e q (by intro z;exact absurd (show b∈([]:List Addr) from z) (by simp)) (by simp)
    | some u=>
     rcases hO b with z | ⟨ob,xs,z⟩
     ·rw[q]at z;cases z
     ·have z2:=un.frzs b ob _ z;obtain⟨e1,_⟩:=hok b _ z;obtain⟨e2,_⟩:=hok' b _ z2;rw[e]at e1;cases e1;exact e2
 cases hk:K.lookup a with
 | some o=>
  have e:=KX a o hk;rw[ha]at e;cases e;refine core (λ_=>none) (λ_=>.inl rfl) (.inr ⟨vs.toArray,_,hk,by rw[Xm,lenV];exact hl,by simpa using rv⟩) (λb u z=>by have z':(none:Option HO)=some u:=z;cases z') (λb z=>absurd rfl z) λz=>absurd rfl z
 | none=>
  refine core (λb=>if b=a then some (.frz { cls:=.type "list",data:=.seq vs.toArray } (.lst (ns.map V.int))) else none) (λb=>?_) (.inl (.inr ⟨{ cls:=.type "list",data:=.seq vs.toArray },if_pos rfl⟩)) (λb u z=>?_) (λb z=>?_) λ_=>hk
  ·by_cases hb:b=a
   ·exact .inr ⟨_,_,if_pos hb⟩
   ·exact .inl (if_neg hb)
  ·by_cases hb:b=a
   ·have z':=(if_pos hb).symm.trans z;cases z';subst hb;exact⟨ha,by rw[Xb];exact hl,vs,_,rv,ha⟩
   ·have z':=(if_neg hb).symm.trans z;cases z'
  ·by_cases hb:b=a
   ·exact hb
   ·exact absurd (if_neg hb) z
theorem zhU {K:Xa}{Fz:FZ}{H:Hp}:∀(ns:List Int),DenL K Fz H (ns.map PV.int) (ns.map V.int)
 | []=>DenL.nil
 | n::r=>by rw[Xp,Xp];exact DenL.cons (by simp only[Den]) (zhU r)
theorem zsz {K:Xa}{H:Hp}{a:Addr}{ns:List Int}{F:PF}{E:XK}(m:zbs F)(h:Rd H a (.lst (ns.map V.int))\/KX K a (ns.map V.int))(hF:F [.lst (ns.map PV.int)] λd k=>d=.bl true):spP K F [.ref a] H (λv _=>v=.bl true) E:=by
 refine⟨λb=>H b≠none,[.lst (ns.map PV.int)],λb hb=>hb,DenL.cons ?_ DenL.nil,m _ _ _ (λd k e v F' H' p=>?_) hF⟩
 ·simp only[Den];refine⟨a,ns.map V.int,rfl,?_,zhU ns⟩;rcases h with h | h
  ·refine .inl ⟨?_,h⟩;rcases h with h | ⟨o,h⟩<;>(show H a≠none;rw[h];exact λz=>nomatch z)
  ·exact .inr h
 ·subst e;cases k with
  | frz=>have q:Den K F' H' (.bl true) v:=p.opd;simpa only[Den]using q
  | new=>obtain⟨b,_,_,_,o⟩:=p.opd;exact o.elim
  | own i=>obtain⟨z,_⟩:=p.opd;simp at z
theorem ztD {l:PySem.W.OpenLaw}{k:Nat}{q:Program}{loose:List Str}{XP:(Str->Option Value)->Heap->Prop}{YP:World->Heap->Prop}{d:DefRec}{K:Params->Xa}{FL:PF}{x:Str}
  (hn:l.most=some 63) (hdf:d.params.defaults=[]) (hr:Room k callerA) (m:zbs FL)
  (hY:∀(w:World) (h:Heap),YP w h->(K w.params).In h)
  (F:∀(w:World) (mg:Str->Option Value) (fa:Addr) (h:Heap),(K w.params).In h->h.Ns mainGlobals mg->mg d.name=some (.ref fa)->
   ∃fd:FuncData,(∀(s:Shared) (u:Value),BindsTo s fd ⟨[u],[]⟩ [(x,u)])/\∀base:Heap,(K w.params).In base->base.Ns mainGlobals mg->FnOk l.prog w (K w.params) mg base CX0 k fa fd [x] (spP (K w.params) FL))
  (hF:∀ns:List Int,ns.length<=63->FL [.lst (ns.map PV.int)] λd k=>d=.bl true) :
  PySem.W.WalkO q loose XP YP l.row.toRowW d [] (λf vs=>PySem.call f vs):=by
 refine Att.ziR hn hdf λw s₀ s₁ mg mb fa o pm cd doc a vs ns G Y ho hd hcd hmg hobj hints hlen hg=>?_;have KX:=hY w _ Y;obtain⟨fd,hb,hFn⟩:=F w mg fa _ KX G.T.g hmg;exact zmn KX G.T.g G.T.b G.T.builtins G.T.nolimit hg hobj hints (XB hlen (by decide)) hr hFn hb (λH hO hS=>zsz m hS (hF ns hlen)) λH e s' z=>z
end PL
namespace L2
open PySem PySem.Spec PyProof.Rows
noncomputable def Sw:HO->Prop
 | .dK _=>True
 | .dT _=>True
 | .frz _ _=>True
 | _=>False
end L2
namespace PL
open PySem PySem.Spec L2
open PyProof.Rows hiding St
noncomputable def keyP:Key->PV
 | .inl i=>.int i
 | .inr x=>.str x
noncomputable def dgP {κ:Type} [DecidableEq κ] (ks:List κ)(ds:List PV)(k:κ):Option PV:=((ks.zip ds).find? λkv=>decide (kv.1=k)).map (·.2)
section
variable {K:Xa}{Fz:FZ}{H:Hp}
theorem zgz {κ:Type} [DecidableEq κ]:∀(ks:List κ)(ds:List PV)(xs:List V)(k:κ),DenL K Fz H ds xs->(∀d,dgP ks ds k=some d->∃v,valV (ks.zip xs) k=some v/\Den K Fz H d v)/\(dgP ks ds k=none->valV (ks.zip xs) k=none)
 | [],ds,xs,k,h=>⟨λd e=>by simp[dgP]at e,λ_=>rfl⟩
 | c::ks,[],xs,k,h=>by
  simp only[DenL]at h;subst h;exact⟨λd e=>by simp[dgP]at e,λ_=>rfl⟩
 | c::ks,d0::ds,xs,k,h=>by
  simp only[DenL]at h;obtain⟨v,r,rfl,h1,h2⟩:=h;have ih:=zgz ks ds r k h2;by_cases e:c=k
  ·subst e;refine⟨λd hd=>⟨v,by simp[valV],?_⟩,λhn=>?_⟩
   ·have:d0=d:=by simpa[dgP]using hd
    subst this;exact h1
   ·simp[dgP]at hn
  ·refine⟨λd hd=>?_,λhn=>?_⟩
   ·have:dgP ks ds k=some d:=by simpa[dgP,Yg,e]using hd
    obtain⟨w,q1,q2⟩:=ih.1 d this;exact⟨w,by simpa[valV,Yg,e]using q1,q2⟩
   ·have:dgP ks ds k=none:=by simpa[dgP,Yg,e]using hn
    have:=ih.2 this;simpa[valV,Yg,e]using this
theorem zft {k:Key}{x:V}(h:Root K Fz H (keyP k) x):x=kV k:=by
 cases k<;>simpa only[keyP,kV,Root,Den]using h
theorem zmo {ks:List Key}{ds:List PV}{x:V}(h:Root K Fz H (.dK ks ds) x):∃a xs,x=.ref a/\Rd H a (.dK (ks.zip xs))/\ks.length=xs.length/\DenL K Fz H ds xs:=by
 simpa only[Root]using h
noncomputable def rDG:R2:=λx y H Q=>∃a v,x=.ref a/\DGet H a y (some v)/\Q v H
noncomputable def pDG:P2:=λd e Q=>∃ks ds k v,d=.dK ks ds/\e=keyP k/\dgP ks ds k=some v/\Q v .frz
theorem zsA:POp K rDG pDG where
 mono d e Q Q' m h:=by obtain⟨ks,ds,k,v,e1,e2,e3,q⟩:=h;exact⟨ks,ds,k,v,e1,e2,e3,m _ _ q⟩
 run Fz H x y d e Q al rx ry h:=by
  obtain⟨ks,ds,k,d',rfl,rfl,e3,q⟩:=h;obtain⟨a,xs,rfl,r,hl,hd⟩:=zmo rx;obtain rfl:=zft ry;obtain⟨v,e4,h4⟩:=(zgz ks ds xs k hd).1 d' e3;exact⟨a,v,rfl,.inl ⟨_,k,r,rfl,e4.symm⟩,q v Fz H (.val al h4)⟩
noncomputable def rDI (neg:Bool):R2:=λy x H Q=>∃a o,x=.ref a/\DGet H a y o/\Q (.bl (if neg then !o.isSome else o.isSome)) H
noncomputable def pDI (neg:Bool):P2:=λe d Q=>∃ks ds k,d=.dK ks ds/\e=keyP k/\Q (.bl (if neg then !(dgP ks ds k).isSome else(dgP ks ds k).isSome)) .frz
theorem zqp {neg:Bool}:POp K (rDI neg) (pDI neg) where
 mono d e Q Q' m h:=by obtain⟨ks,ds,k,e1,e2,q⟩:=h;exact⟨ks,ds,k,e1,e2,m _ _ q⟩
 run Fz H x y d e Q al rx ry h:=by
  obtain⟨ks,ds,k,rfl,rfl,q⟩:=h;obtain⟨a,xs,rfl,r,hl,hd⟩:=zmo ry;obtain rfl:=zft rx;have e4:(valV (ks.zip xs) k).isSome=(dgP ks ds k).isSome:=by
   cases e:dgP ks ds k with
   | none=>rw[(zgz ks ds xs k hd).2 e];rfl
   | some d'=>obtain⟨v,e5,_⟩:=(zgz ks ds xs k hd).1 d' e;rw[e5];rfl
  refine⟨a,valV (ks.zip xs) k,rfl,.inl ⟨_,k,r,rfl,rfl⟩,?_⟩;rw[e4];exact q _ Fz H (.val al (by simp only[Den]))
end
section
variable {X:Cx}{a b:Expr}{ta tb:TPE}{pos:Pos}
theorem ziW (hu:X.A.units+1<cLine)(ha:PuE X a ta)(hb:PuE X b tb)(hs:autoParam (NoSl b) aU6):PuE X (.Subscript a b pos) (t2 pDG ta tb):=
 ⟨zeg zsA ha hb,PE.weak (zpU hu ha.run hb.run hs) λ_ _ _ h=>zhI zsA ha hb h⟩
end
noncomputable def zcW:PF:=λds Q=>∃i j:Int,ds=[.int i,.int j]/\Q (.int (if j > i then j else i)) .frz
theorem zqq {K:Xa}:zeh K (λxs H Q=>∃i j,xs=[V.int i,.int j]/\Q (.int (if j > i then j else i)) H) zcW where
 mono ds Q Q' m h:=by obtain⟨i,j,e,q⟩:=h;exact⟨i,j,e,m _ _ q⟩
 run Fz H ds vs Q al hr h:=by
  obtain⟨i,j,rfl,q⟩:=h;obtain⟨u,v,rfl,h1,h2⟩:=zjG hr;exact⟨i,j,by rw[zaE h1,zaE h2],q _ Fz H (.val al (by simp only[Den]))⟩
section
variable {X:Cx}{e:Expr}{es:List Expr}{t:TPA}{p pos:Pos}
theorem zqr (hc:X.calm=true)(hg:Gl X "max") (hm:X.mg "max" = none) (ha:PuA X (e::es) t) (he:autoParam (starEach (e::es) X.env=(false,eval e X.env)::starEach es X.env) aU0) (hpl:autoParam ((backTo pos (starEach es X.env)).any (·.1)=false) aU0):PuE X (.Call (.Name "max" p) (e::es) [] pos) (tB zcW t):=
 zcD (zlv hc) zqq hg hm bMax ha (by decide) (by decide) he hpl
end
theorem DenL.rew' {K:Xa}{Fz:FZ}{H:Hp}{ds:List PV}{xs:List V}{a:Addr}{o u:HO}(ha:H a=some u)(hi:¬ Imm u)(nf:¬ Fz a)(h:DenL K Fz H ds xs):DenL K Fz (upd H a o) ds xs:=
 DenL.mono (.mk' λb w e hw=>by
  have ne:b≠a:=λz=>by
   subst z;rcases hw with hw | hw
   ·exact nf hw
   ·rw[ha]at e;cases e;exact hi hw
  rw[zaj ne];exact e) (λ_ h=>h) _ _ h
theorem zpi {K:Xa}{Fz:FZ}{ρ:PEnv}{σ:St}{H:Hp}{i:Nat}{ks:List Key}{ds:List PV}(R:Rel K Fz ρ σ H)(h:ρ[i]? = some (some (.dK ks ds,true))):∃a xs,σ[i]? = some (some (.ref a))/\H a=some (.dK (ks.zip xs))/\ks.length=xs.length/\DenL K Fz H ds xs/\¬ Fz a:=by
 obtain⟨a,e,nf,xs,h1,h2,h3⟩:=R.own i _ h;exact⟨a,xs,e,h1,h2,h3,nf⟩
theorem zha {k:Kd}(hk:isOwn k=false):k=.frz\/k=.new:=by
 cases k with
 | frz=>exact .inl rfl
 | new=>exact .inr rfl
 | own j=>cases hk
noncomputable def putD (ks:List Key)(ds:List PV)(k:Key)(d:PV):List PV:=(ks.zip ds).map λkv=>if kv.1=k then d else kv.2
theorem zqs {ks:List Key}{xs:List V}{k:Key}{v:V}:(ks.zip xs).map (λkv=>if kv.1=k then(kv.1,v) else kv)=ks.zip ((ks.zip xs).map λkv=>if kv.1=k then v else kv.2):=by
 induction ks generalizing xs with
 | nil=>rfl
 | cons c ks ih=>
  cases xs with
  | nil=>rfl
  | cons x xs=>
   simp only[XZ,Xp,ih];by_cases e:c=k<;>simp[e]
theorem zmp {K:Xa}{Fz:FZ}{H:Hp}(k:Key){d:PV}{v:V}(hd:Den K Fz H d v):∀(ks:List Key)(ds:List PV)(xs:List V),DenL K Fz H ds xs->DenL K Fz H (putD ks ds k d) ((ks.zip xs).map λkv=>if kv.1=k then v else kv.2)
 | [],ds,xs,h=>DenL.nil
 | c::ks,[],xs,h=>by simp only[DenL]at h;subst h;exact DenL.nil
 | c::ks,d0::ds,xs,h=>by
  simp only[DenL]at h;obtain⟨w,r,rfl,h1,h2⟩:=h;have ih:=zmp k hd ks ds r h2;simp only[putD,XZ,Xp]at ih ⊢;by_cases e:c=k
  ·rw[if_pos e,if_pos e];exact DenL.cons hd ih
  ·rw[if_neg e,if_neg e];exact DenL.cons h1 ih
noncomputable def hasK (ks:List Key)(c:Key):Bool:=ks.any λc'=>decide (c'=c)
noncomputable def zch (i:Nat)(ti tv:TPE):TPS:=λρ O=>tv ρ λd k=>isOwn k=false/\∃ks ds,ρ[i]? = some (some (.dK ks ds,true))/\ks.length<sizeLine/\ti ρ λe _=>∃c:Key,e=keyP c/\
 O.nx (ρ.set i (some (if hasK ks c=true then .dK ks (putD ks ds c d) else .dK (ks++[c]) (ds++[d]),true)))
theorem zqt {ks:List Key}{xs:List V}{c:Key}(h:ks.length=xs.length):((ks.zip xs).any λkv=>decide (kv.1=c))=hasK ks c:=by
 unfold hasK;induction ks generalizing xs with
 | nil=>simp
 | cons d ks ih=>
  cases xs with
  | nil=>simp at h
  | cons x xs=>
   simp only[XZ,List.any_cons,ih (by simpa using h)]
section
variable {X:Cx}{x:Str}{ei ev:Expr}{ti tv:TPE}{p pos pos' apos cpos:Pos}
theorem zmq (i:Nat)(hu:X.A.units+1<cLine)(hi:PuE X ei ti)(hv:PuE X ev tv)(hN:autoParam (X.N[i]? = some x) aU0)(hvs:autoParam (Vis X.env.scope x) aU4)(hd:autoParam ((x == ("__debug__" : Str))=false) aU1) (hcd:autoParam ((x == ("__classdict__" : Str))=false) aU1)
  (hs:autoParam (swapsWith ev (some (.Subscript (.Name x p) ei pos')) pos.line X.env=pure false) aU0):PuS X (.Assign [.Subscript (.Name x p) ei pos'] ev pos) (zch i ti tv) where
 mono ρ O O' m h:=hv.mono ρ _ _ (λd k q106q=>by obtain⟨hk,ks,ds,e1,e2,h⟩:=q106q;exact⟨hk,ks,ds,e1,e2,hi.mono ρ _ _ (λe _ q107q=>by obtain⟨c,q1,q⟩:=q107q;exact⟨c,q1,m.nx _ q⟩) h⟩) h
 run:=PS.weak (zpV hu (zdn hN hvs hd hcd) hi.run hv.run hs) λD σ H h=>by
  obtain⟨ρ,Fz,R,h⟩:=h;refine⟨ρ,Fz,R,hv.mono ρ _ _ (λd k q v F1 H1 p1=>?_) h⟩;obtain⟨hk,ks,ds,e1,e2,q⟩:=q;obtain⟨F2,x2,s2,d2⟩:=p1.frozen (zha hk);have R2:=R.ext x2;obtain⟨a,xs,hs,ha,_,hd,nf⟩:=zpi R2 e1;refine⟨_,hs,ρ,F2,R2,hi.mono ρ _ _ (λe ke q u F3 H3 p3=>?_) q⟩;obtain⟨c,rfl,q⟩:=q;have R3:=R2.ext p3.ext;obtain⟨a',xs',hs',ha',hl',hd',nf'⟩:=zpi R3 e1;rw[hs]at hs';cases hs';obtain rfl:=zft (p3.root R2);refine⟨a,_,rfl,DPut.k ha' (by rw[Ys];lia),?_⟩;have d3:=Den.mono (.of p3.ext.same) p3.ext.sub _ _ d2;have x3:=x2.trans p3.ext;have ow:Own X.K F3 (upd H3 a (.dK (putK (ks.zip xs') c v))) (if hasK ks c=true then .dK ks (putD ks ds c d) else .dK (ks++[c]) (ds++[d])) a:=by
   unfold putK;rw[zqt hl'];by_cases hc:hasK ks c=true
   ·rw[if_pos hc,if_pos hc,zqs];exact⟨_,zal,by simp[hl'],DenL.rew' ha' (λz=>z) nf' (zmp c d3 ks ds xs' hd')⟩
   ·rw[if_neg hc,if_neg hc];refine⟨xs'++[v],?_,by simp[hl'],DenL.rew' ha' (λz=>z) nf' (DenL.snoc hd' d3)⟩;rw[zal,List.zip_append hl'];rfl
  obtain⟨R4,s4,o4⟩:=R3.mut e1 hs ha' ow;exact q σ F3 _ ((Step.of x3).trans (zaL.refl ρ σ H) s4) (zaL.trans (Step.of x3) (zaL.refl ρ σ H) o4) R4
end
end PL
namespace PySem
section
variable {prog:Program}{w:World}{A:Around}{E:Value->Shared->Prop}{s:Shared}
theorem zdj {a:Addr}{o:Obj}{Q:Option Obj->Shared->Prop}(ho:s.heap.get? a=some o)(h:Q (some o) s):wpAny (model prog w) A (loadIfAlive a) Q E s:=λΓ p _=>by
 unfold loadIfAlive;rw[Sem.wp_loadIfAlive,ho];rw[Sem.wp_pure];exact h
end
namespace F
theorem zbV:entryFor table "dict.update.loop" = some Builtin.«dict.update.loop»:=entryFor_of_tree (by kernel_rfl)
theorem zaK:plainId "dict.update.loop" = true:=by decide +kernel
end F
end PySem
namespace PL
open PySem PySem.Spec L2
open PyProof.Rows hiding St
theorem bAll:bootBuiltins "all" = some (.builtin "all"):=by decide +kernel
section
variable {X:Cx}
theorem zmr (hc:X.calm=true):zdo X (.builtin "all") (λxs H Q=>∃(p:Addr) (bs:List Bool),xs=[V.ref p]/\SqL X.K H p (bs.map V.bl)/\Q (.bl (bs.all id)) H):=by
 intro pins s σ H xs us Q I r h;obtain⟨p,bs,rfl,hq,q⟩:=h;obtain⟨u,rfl,rx⟩:=vals1 r;cases rx;obtain⟨its,r',pl,hz⟩:=I.list hq;have hL:=pl.isList;have hpl:p<s.heap.objs.size:=by obtain⟨_,x,_⟩:=hL;exact Xo x
 have hlen:its.length=bs.length:=by rw[<- r'.length];simp
 refine call_all_walk (wpAny_pyIter_list hL ?_);refine⟨_,[_,p],[_],_,_,_,λi=>bs.getD i true,rfl,Walks.list (A:=X.A.in1) (I.ok.hd hc) _ p (XJ hpl) its.toArray,⟨⟨_,XC _ rfl,rfl,rfl⟩,hL.push _⟩,?_,λh' tk hk=>?_⟩
 ·intro i v s' Q' E' hP hQ;have hv:its[i]? = some v:=by simpa using hP
  have hi:i<bs.length:=by rw[<- hlen];exact(Xc.mp hv).1
  obtain⟨v',hv',rv⟩:=r'.get (i:=i) (x:=.bl bs[i]) (by simp[hi]);rw[hv]at hv';cases hv';cases rv;refine wpAny_truthy_bool ?_;have:bs.getD i true=bs[i]:=by rw[Xn,Xd hi];rfl
  rw[<- this];exact hQ
 ·refine⟨.bl (bs.all id),H,I.kept (t':=tk) (λb o x=>hk b o ?_ (Xe _ x)),?_,q⟩
  ·have:=Xo x;simp;exact XJ this
  ·have:(XR its.toArray.size).all (λi=>bs.getD i true)=bs.all id:=by
    rw[Xm,hlen];rw[YG,XE,XE];constructor
    ·intro h x hx;obtain⟨i,hi,e⟩:=List.getElem_of_mem hx;have:=h i (Yj.mpr hi);rw[Xn,Xd hi]at this;simpa[<- e]using this
    ·intro h i hi;have hi:=Yj.mp hi;rw[Xn,Xd hi];simpa using h _ (YC hi)
   show RelV _ _;rw[this];rfl
theorem zjM {K:Xa}{Fz:FZ}{H:Hp}:∀ {bs:List Bool}{xs:List V},DenL K Fz H (bs.map PV.bl) xs->xs=bs.map V.bl
 | [],xs,h=>by simpa only[Yc,DenL]using h
 | b::bs,xs,h=>by
  simp only[Yc,DenL,Den]at h;obtain⟨v,r,rfl,rfl,h⟩:=h;rw[zjM h];rfl
noncomputable def fAll:PF:=λds Q=>∃bs:List Bool,ds=[.lst (bs.map PV.bl)]/\Q (.bl (bs.all id)) .frz
theorem zsB:zeh X.K (λxs H Q=>∃(p:Addr)(bs:List Bool),xs=[V.ref p]/\SqL X.K H p (bs.map V.bl)/\Q (.bl (bs.all id)) H) fAll where
 mono ds Q Q' m h:=by obtain⟨bs,e,q⟩:=h;exact⟨bs,e,m _ _ q⟩
 run Fz H ds vs Q al hr h:=by
  obtain⟨bs,rfl,q⟩:=h;obtain⟨v,rfl,h1⟩:=zdB hr;obtain⟨a,xs,rfl,h2,h3⟩:=zam h1;rw[zjM h3]at h2;exact⟨a,bs,rfl,h2,q _ Fz H (.val al (by simp only[Den]))⟩
variable {e:Expr}{es:List Expr}{t:TPA}{p pos:Pos}
theorem zsC (hc:X.calm=true)(hg:Gl X "all") (hm:X.mg "all" = none) (ha:PuA X (e::es) t) (he:autoParam (starEach (e::es) X.env=(false,eval e X.env)::starEach es X.env) aU0) (hpl:autoParam ((backTo pos (starEach es X.env)).any (·.1)=false) aU0):PuE X (.Call (.Name "all" p) (e::es) [] pos) (tB fAll t):=
 zcD (zmr hc) zsB hg hm bAll ha (by decide) (by decide) he hpl
end
theorem zkO {P:Nat->Value->Prop}{acc:Array Value}{xs:List V}(h:ItemsOf P acc xs.length)(f:∀(i:Nat)(v:Value)(x:V),xs[i]? = some x->P i v->RelV x v):Vals xs acc.toList:=by
 obtain⟨hs,hv⟩:=h;obtain⟨acc⟩:=acc;simp only[Xm]at hs;have:∀(xs:List V) (its:List Value) (n:Nat),its.length=xs.length->(∀(j:Nat) (v:Value) (x:V),its[j]? = some v->xs[j]? = some x->RelV x v)->Vals xs its:=by
  intro xs;induction xs with
  | nil=>intro its n hl _;cases its with
   | nil=>exact .nil
   | cons _ _=>simp at hl
  | cons x xs ih=>intro its n hl hr;cases its with
   | nil=>simp at hl
   | cons u us=>exact .cons (hr 0 u x rfl rfl) (ih us n (by simpa using hl) λj v y h1 h2=>hr (j+1) v y (by simpa using h1) (by simpa using h2))
 exact this xs acc 0 hs λj v x h1 h2=>f j v x h2 (hv j v (by simpa using h1))
section
variable {X:Cx}
theorem zkP (hc:X.calm=true):zdo X (.type "list") (λxs H Q=>∃x:Str,xs=[V.str x]/\x.length<=sizeLine/\∀l,H l=none->Q (.ref l) (upd H l (.lst ((signs x).map V.str)))):=by
 intro pins s σ H xs us Q I r h;obtain⟨x,rfl,hz,q⟩:=h;obtain⟨u,rfl,t,rfl⟩:=vals1 r;refine call_list_str (I.ok.hd hc) x t (hn:=hz) λh' tk acc c kp e hacc=>?_;have hl:x.cps.size=((signs x).map V.str).length:=by simp[signs]
 rw[hl]at hacc;have rv:Vals ((signs x).map V.str) acc.toList:=zkO hacc λi v y hy ⟨c,u,hc,ev⟩=>by
  subst ev;have:y=.str ⟨#[c]⟩:=by
   simp only[signs,Xk,YI,hc,Option.map_some]at hy;exact(Option.some.inj hy).symm
  subst this;exact⟨u,rfl⟩
 exact⟨.ref s.heap.objs.size,_,I.laid (t':=tk) kp (Xi _) (show zcp X.prog X.w _ h' _ (.lst ((signs x).map V.str)) from⟨by rw[<- hl];exact hz,acc.toList,c,rv,by simpa using e⟩),rfl,q _ (I.hok.fresh (Xi _))⟩
noncomputable def zbW:PF:=λds Q=>∃x:Str,ds=[.str x]/\x.length<=sizeLine/\Q (.lst ((signs x).map PV.str)) .new
theorem zoh:zeh X.K (λxs H Q=>∃x:Str,xs=[V.str x]/\x.length<=sizeLine/\∀l,H l=none->Q (.ref l) (upd H l (.lst ((signs x).map V.str)))) zbW where
 mono ds Q Q' m h:=by obtain⟨x,e,e2,q⟩:=h;exact⟨x,e,e2,m _ _ q⟩
 run Fz H ds vs Q al hr h:=by
  obtain⟨x,rfl,e2,q⟩:=h;obtain⟨v,rfl,h1⟩:=zdB hr;exact⟨x,by rw[zbv h1],e2,λl hl=>q _ Fz _ (.newL al hl (zfS _))⟩
variable {e:Expr}{es:List Expr}{t:TPA}{p pos:Pos}
theorem zoi (hc:X.calm=true)(hg:Gl X "list") (hm:X.mg "list" = none) (ha:PuA X (e::es) t) (he:autoParam (starEach (e::es) X.env=(false,eval e X.env)::starEach es X.env) aU0) (hpl:autoParam ((backTo pos (starEach es X.env)).any (·.1)=false) aU0):PuE X (.Call (.Name "list" p) (e::es) [] pos) (tB zbW t):=
 zeA (zkP hc) zoh hg hm zql ha (by decide) (by decide) he hpl
theorem zms (hc:X.calm=true):zdo X (.builtin "min") (λxs H Q=>∃i j k,xs=[V.int i,.int j,.int k]/\Q (.int (if j<i then(if k<j then k else j) else(if k<i then k else i))) H):=by
 intro pins s σ H xs us Q I r h;obtain⟨i,j,k,rfl,q⟩:=h;obtain⟨u,us2,rfl,⟨t,rfl⟩,r2⟩:∃u us2,us=u::us2/\RelV (.int i) u/\Vals [V.int j,.int k] us2:=by cases r with | cons a b=>exact⟨_,_,rfl,a,b⟩
 obtain⟨u1,u2,rfl,⟨t1,rfl⟩,⟨t2,rfl⟩⟩:=vals2 r2;refine min_three_ints (I.ok.hd hc) λh' tk kp=>⟨_,H,I.kept kp,?_,q⟩;by_cases h1:j<i
 ·rw[if_pos h1,if_pos h1];by_cases h2:k<j
  ·rw[if_pos h2,if_pos h2];exact⟨_,rfl⟩
  ·rw[if_neg h2,if_neg h2];exact⟨_,rfl⟩
 ·rw[if_neg h1,if_neg h1];by_cases h2:k<i
  ·rw[if_pos h2,if_pos h2];exact⟨_,rfl⟩
  ·rw[if_neg h2,if_neg h2];exact⟨_,rfl⟩
noncomputable def zcX:PF:=λds Q=>∃i j k:Int,ds=[.int i,.int j,.int k]/\Q (.int (if j<i then(if k<j then k else j) else(if k<i then k else i))) .frz
theorem zsD {K:Xa}{Fz:FZ}{H:Hp}{d e f:PV}{vs:List V}(h:zlS K Fz H [d,e,f] vs):∃v u w,vs=[v,u,w]/\Root K Fz H d v/\Root K Fz H e u/\Root K Fz H f w:=by
 cases h with
 | cons a b=>
  obtain⟨u,w,rfl,h1,h2⟩:=zjG b;exact⟨_,u,w,rfl,a,h1,h2⟩
theorem zqu {K:Xa}:zeh K (λxs H Q=>∃i j k,xs=[V.int i,.int j,.int k]/\Q (.int (if j<i then(if k<j then k else j) else(if k<i then k else i))) H) zcX where
 mono ds Q Q' m h:=by obtain⟨i,j,k,e,q⟩:=h;exact⟨i,j,k,e,m _ _ q⟩
 run Fz H ds vs Q al hr h:=by
  obtain⟨i,j,k,rfl,q⟩:=h;obtain⟨u,v,w,rfl,h1,h2,h3⟩:=zsD hr;exact⟨i,j,k,by rw[zaE h1,zaE h2,zaE h3],q _ Fz H (.val al (by simp only[Den]))⟩
theorem zqv (hc:X.calm=true)(hg:Gl X "min") (hm:X.mg "min" = none) (ha:PuA X (e::es) t) (he:autoParam (starEach (e::es) X.env=(false,eval e X.env)::starEach es X.env) aU0) (hpl:autoParam ((backTo pos (starEach es X.env)).any (·.1)=false) aU0):PuE X (.Call (.Name "min" p) (e::es) [] pos) (tB zcX t):=
 zcD (zms hc) zqu hg hm bMin ha (by decide) (by decide) he hpl
theorem zsE:SlR X (λx lo hi H Q=>∃z:Str,x=.str z/\z.length<=sizeLine/\Q (.str (Txt.slice z lo hi)) H):=by
 intro pins s σ H x v vl vu lo hi sl Q I rx hs pl pu h;obtain⟨z,rfl,hz,q⟩:=h;obtain⟨t,rfl⟩:=rx;refine⟨"str",_,PySem.F.slot_str_getitem.lookup,typeIs_str _ _ _,?_⟩;have fin:∀(l u:Option (Int×Tok)),s.heap.IsSlice sl l u none->l.map (·.1)=lo->u.map (·.1)=hi->wpAny (model X.prog X.w) X.A (getItem (.str z t) (.ref sl)) (EP X pins σ Q) X.xe s:=λl u h1 h2 h3=>by
  subst h2 h3;refine wpAny_getItem_str_slice (st:=none) h1 rfl (post_val_or_str ⟨XB (Txt.slice_le z _ _) hz,λt' k=>?_⟩);exact⟨.str (Txt.slice z (l.map (·.1)) (u.map (·.1))),H,I.tok _,⟨t',rfl⟩,q⟩
 cases pl with
 | none=>cases pu with
  | none=>exact fin none none hs rfl rfl
  | int j t2=>exact fin none (some (j,t2)) hs rfl rfl
 | int i t1=>cases pu with
  | none=>exact fin (some (i,t1)) none hs rfl rfl
  | int j t2=>exact fin (some (i,t1)) (some (j,t2)) hs rfl rfl
noncomputable def pSlS (te:TPE)(tl th:TPO):TPE:=λρ Q=>te ρ λd _=>tl ρ λl=>th ρ λu=>∃z:Str,d=.str z/\z.length<=sizeLine/\Q (.str (Txt.slice z l u)) .frz
variable {e:Expr}{te:TPE}{lo hi:Option Expr}{tl th:TPO}{p2 pos:Pos}
theorem zmt (he:PuE X e te)(hl:PuO X lo tl)(hu:PuO X hi th):PuE X (.Subscript e (.Slice lo hi none p2) pos) (pSlS te tl th) where
 mono ρ Q Q' m h:=he.mono ρ _ _ (λd k h=>hl.mono ρ _ _ (λl h=>hu.mono ρ _ _ (λu q109q=>by obtain⟨ds,e,e2,q⟩:=q109q;exact⟨ds,e,e2,m _ _ q⟩) h) h) h
 run:=PE.weak (zjr zsE he.run hl.run hu.run) λσ H Q h=>by
  obtain⟨ρ,Fz,R,h⟩:=h;refine⟨ρ,Fz,R,he.mono ρ _ _ (λd k q v F1 H1 p1=>?_) h⟩;refine⟨ρ,F1,R.ext p1.ext,hl.mono ρ _ _ (λl q F2 H2 x2=>?_) q⟩;refine⟨ρ,F2,(R.ext p1.ext).ext x2,hu.mono ρ _ _ (λu q3 F3 H3 x3=>?_) q⟩;obtain⟨z,e3,e4,q4⟩:=q3;subst e3;exact⟨z,zbv (p1.root R),e4,q4 _ F3 _ ((Post.val x3.al (by simp only[Den])).behind (p1.ext.trans (x2.trans x3)))⟩
end
theorem hu1 {A:Around}(h:A.units+16<cLine):A.units+1<cLine:=by lia
noncomputable abbrev PFM:=PV->List PV->(PV->PV->Prop)->Prop
structure FOut where
 nx:PEnv->Prop
 rt:PEnv->Prop
structure FOut.le (O O':FOut):Prop where
 nx:∀ρ,O.nx ρ->O'.nx ρ
 rt:∀ρ,O.rt ρ->O'.rt ρ
noncomputable abbrev TPF:=PEnv->FOut->Prop
inductive BX where
 | L (ds:List PV)
 | K (ks:List Key) (ds:List PV)
 | T (ks:List (List Key)) (ds:List PV)
noncomputable def BX.cts:BX->List PV
 | .L ds=>ds
 | .K _ ds=>ds
 | .T _ ds=>ds
noncomputable def BX.pv:BX->PV
 | .L ds=>.lst ds
 | .K ks ds=>.dK ks ds
 | .T ks ds=>.dT ks ds
noncomputable def BX.ok:BX->Prop
 | .L _=>True
 | .K ks ds=>ks.length=ds.length
 | .T ks ds=>ks.length=ds.length
noncomputable def BX.obj:BX->List Addr->HO
 | .L _,bs=>.lst (bs.map V.ref)
 | .K ks _,bs=>.dK (ks.zip (bs.map V.ref))
 | .T ks _,bs=>.dT (ks.zip (bs.map V.ref))
noncomputable def OwnL (K:Xa)(Fz:FZ)(H:Hp):List PV->List Addr->Prop
 | [],bs=>bs=[]
 | d::ds,bs=>∃b r,bs=b::r/\Own K Fz H d b/\OwnL K Fz H ds r
theorem OwnL.length {K:Xa}{Fz:FZ}{H:Hp}:∀ {ds:List PV}{bs:List Addr},OwnL K Fz H ds bs->ds.length=bs.length
 | [],bs,h=>by unfold OwnL at h;subst h;rfl
 | d::ds,bs,h=>by
  unfold OwnL at h;obtain⟨b,r,rfl,_,h⟩:=h;simp[OwnL.length h]
theorem OwnL.mono {K:Xa}{Fz Fz':FZ}{H H':Hp}(k:Keep Fz H H')(s:∀b,Fz b->Fz' b):∀ {ds:List PV}{bs:List Addr},(∀b∈bs,∀o,H b=some o->H' b=some o)->OwnL K Fz H ds bs->OwnL K Fz' H' ds bs
 | [],bs,ha,h=>by unfold OwnL at h ⊢;exact h
 | d::ds,bs,ha,h=>by
  unfold OwnL at h ⊢;obtain⟨b,r,rfl,h1,h⟩:=h;exact⟨b,r,rfl,h1.mono k s (ha b (Xh ..)),OwnL.mono k s (λc hc=>ha c (Xf _ hc)) h⟩
theorem OwnL.get {K:Xa}{Fz:FZ}{H:Hp}:∀ {ds:List PV}{bs:List Addr}{j:Nat}{d:PV},OwnL K Fz H ds bs->ds[j]? = some d->∃b,bs[j]? = some b/\Own K Fz H d b
 | [],bs,j,d,h,e=>by simp at e
 | d0::ds,bs,j,d,h,e=>by
  unfold OwnL at h;obtain⟨b,r,rfl,h1,h⟩:=h;cases j with
  | zero=>rw[List.getElem?_cons_zero]at e;cases e;exact⟨b,rfl,h1⟩
  | succ j=>rw[List.getElem?_cons_succ]at e ⊢;exact OwnL.get h e
theorem OwnL.has {K:Xa}{Fz:FZ}{H:Hp}:∀ {ds:List PV}{bs:List Addr}{b:Addr},OwnL K Fz H ds bs->b∈bs->∃o,H b=some o/\¬ Imm o
 | [],bs,b,h,e=>by unfold OwnL at h;subst h;cases e
 | d::ds,bs,b,h,e=>by
  unfold OwnL at h;obtain⟨b0,r,rfl,h1,h⟩:=h;rcases Xu.mp e with rfl | e
  ·exact h1.at
  ·exact OwnL.has h e
theorem OwnL.den {K:Xa}{Fz:FZ}{H:Hp}:∀ {ds:List PV}{bs:List Addr},OwnL K Fz H ds bs->(∀b∈bs,Fz b)->DenL K Fz H ds (bs.map V.ref)
 | [],bs,h,_=>by unfold OwnL at h;subst h;exact DenL.nil
 | d::ds,bs,h,f=>by
  unfold OwnL at h;obtain⟨b,r,rfl,h1,h⟩:=h;exact DenL.cons (h1.den (f b (Xh ..))) (OwnL.den h λc hc=>f c (Xf _ hc))
theorem OwnL.put {K:Xa}{Fz:FZ}{H:Hp}{o u:HO}{b:Addr}{d:PV}(hu:H b=some u)(im:¬ Imm u)(nf:¬ Fz b)(hb:Own K Fz (upd H b o) d b):∀ {ds:List PV}{bs:List Addr}{j:Nat},OwnL K Fz H ds bs->bs.Nodup->bs[j]? = some b->OwnL K Fz (upd H b o) (ds.set j d) bs
 | [],bs,j,h,_,e=>by unfold OwnL at h;subst h;simp at e
 | d0::ds,bs,j,h,nd,e=>by
  have kp:Keep Fz H (upd H b o):=.mk' λc w e9 hw=>by
   have ne:c≠b:=λz=>by
    subst z;rcases hw with hw | hw
    ·exact nf hw
    ·rw[hu]at e9;cases e9;exact im hw
   rw[zaj ne];exact e9
  unfold OwnL at h;obtain⟨b0,r,rfl,h1,h⟩:=h;rw[XX]at nd;cases j with
  | zero=>
   rw[List.getElem?_cons_zero]at e;cases e;rw[List.set_cons_zero];unfold OwnL;refine⟨b,r,rfl,hb,h.mono kp (λ_ h=>h) λc hc w hw=>?_⟩;have ne:c≠b:=λz=>nd.1 (by rw[<- z];exact hc);rw[zaj ne];exact hw
  | succ j=>
   rw[List.getElem?_cons_succ]at e;rw[List.set_cons_succ];have ne:b0≠b:=λz=>nd.1 (z▸Xr e);unfold OwnL;exact⟨b0,r,rfl,h1.mono kp (λ_ h=>h) λw hw=>(by rw[zaj ne];exact hw),OwnL.put hu im nf hb h nd.2 e⟩
theorem OwnL.snoc {K:Xa}{Fz:FZ}{H:Hp}{d:PV}{b:Addr}(hb:Own K Fz H d b):∀ {ds:List PV}{bs:List Addr},OwnL K Fz H ds bs->OwnL K Fz H (ds++[d]) (bs++[b])
 | [],bs,h=>by
  unfold OwnL at h;subst h;show OwnL K Fz H [d] [b];unfold OwnL;exact⟨b,[],rfl,hb,by unfold OwnL;rfl⟩
 | d0::ds,bs,h=>by
  unfold OwnL at h;obtain⟨b0,r,rfl,h1,h⟩:=h;show OwnL K Fz H (d0::(ds++[d])) (b0::(r++[b]));unfold OwnL;exact⟨b0,_,rfl,h1,OwnL.snoc hb h⟩
structure Box (K:Xa)(Fz:FZ)(H:Hp)(β:BX)(a:Addr)(bs:List Addr):Prop where
 at_:H a=some (β.obj bs)
 ok:β.ok
 own:OwnL K Fz H β.cts bs
 nd:(a::bs).Nodup
 nf:∀b∈a::bs,¬ Fz b
theorem BX.nim (β:BX)(bs:List Addr):¬ Imm (β.obj bs):=by cases β<;>exact λz=>z
theorem Box.has {K:Xa}{Fz:FZ}{H:Hp}{β:BX}{a:Addr}{bs:List Addr}(B:Box K Fz H β a bs){b:Addr}(h:b∈a::bs):∃o,H b=some o/\¬ Imm o:=by
 rcases Xu.mp h with rfl | h
 ·exact⟨_,B.at_,β.nim bs⟩
 ·exact B.own.has h
theorem Box.keep {K:Xa}{Fz Fz':FZ}{H H':Hp}{β:BX}{a:Addr}{bs:List Addr}(B:Box K Fz H β a bs)(k:Keep Fz H H')(s:∀b,Fz b->Fz' b)(ha:∀b∈a::bs,∀o,H b=some o->H' b=some o)(nf:∀b∈a::bs,¬ Fz' b):Box K Fz' H' β a bs:=
 ⟨ha a (Xh ..) _ B.at_,B.ok,B.own.mono k s λb hb=>ha b (Xf _ hb),B.nd,nf⟩
theorem Box.ext {K:Xa}{Fz Fz':FZ}{H H':Hp}{β:BX}{a:Addr}{bs:List Addr}(B:Box K Fz H β a bs)(x:Ext Fz H Fz' H'):Box K Fz' H' β a bs:=
 B.keep (.of x.same) x.sub (λb _ o e=>x.same b o e) λb hb z=>by
  obtain⟨o,e,_⟩:=B.has hb;rcases x.new b z with z | z
  ·exact B.nf b hb z
  ·rw[e]at z;cases z
structure RelB (K:Xa)(Fz:FZ)(ρ:PEnv)(β:BX)(σ:St)(H:Hp)(z:Nat)(a:Addr)(bs:List Addr):Prop where
 rel:Rel K Fz ρ σ H
 hz:ρ[z]? = some none
 sz:σ[z]? = some (some (.ref a))
 box:Box K Fz H β a bs
 no:∀b∈a::bs,¬ zaZ ρ σ b
theorem RelB.ext {K:Xa}{Fz Fz':FZ}{ρ:PEnv}{β:BX}{σ:St}{H H':Hp}{z:Nat}{a:Addr}{bs:List Addr}(R:RelB K Fz ρ β σ H z a bs)(x:Ext Fz H Fz' H'):RelB K Fz' ρ β σ H' z a bs:=
 ⟨R.rel.ext x,R.hz,R.sz,R.box.ext x,R.no⟩
structure zca (O:Addr->Prop)(Fz:FZ)(H:Hp)(Fz':FZ)(H':Hp):Prop where
 sub:∀b,Fz b->Fz' b
 new:∀b,Fz' b->Fz b\/H b=none\/O b
 keep:∀b o,H b=some o->¬ O b->H' b=some o
noncomputable def InO (O:Addr->Prop)(H:Hp)(O':Addr->Prop):Prop:=∀b,O' b->O b\/H b=none
theorem zca.of {O:Addr->Prop}{Fz Fz':FZ}{H H':Hp}(x:Ext Fz H Fz' H'):zca O Fz H Fz' H':=
 ⟨x.sub,λb h=>(x.new b h).elim .inl (λh=>.inr (.inl h)),λb o e _=>x.same b o e⟩
theorem zca.none {O:Addr->Prop}{Fz Fz':FZ}{H H':Hp}(s:zca O Fz H Fz' H'){b:Addr}(h:H' b=Option.none):H b=Option.none\/O b:=by
 by_cases o:O b
 ·exact .inr o
 ·cases e:H b with
  | none=>exact .inl rfl
  | some u=>rw[s.keep b u e o]at h;cases h
theorem zca.trans {O O':Addr->Prop}{F1 F2 F3:FZ}{H1 H2 H3:Hp}(a:zca O F1 H1 F2 H2)(oi:InO O H1 O')(b:zca O' F2 H2 F3 H3):zca O F1 H1 F3 H3:=
 ⟨λc h=>b.sub c (a.sub c h),λc h=>by
  rcases b.new c h with h | h | h
  ·exact a.new c h
  ·exact .inr (a.none h)
  ·exact .inr ((oi c h).symm),λc o e n=>by
  refine b.keep c o (a.keep c o e n) λz=>?_;rcases oi c z with z | z
  ·exact n z
  ·rw[e]at z;cases z⟩
theorem InO.trans {O O' O'':Addr->Prop}{F1 F2:FZ}{H1 H2:Hp}(a:zca O F1 H1 F2 H2)(oi:InO O H1 O')(oj:InO O' H2 O''):InO O H1 O'':=λc h=>by
 rcases oj c h with h | h
 ·exact oi c h
 ·exact(a.none h).symm
theorem InO.refl {O:Addr->Prop}{H:Hp}:InO O H O:=λ_ h=>.inl h
noncomputable def OB (ρ:PEnv)(σ:St)(A:List Addr):Addr->Prop:=λb=>zaZ ρ σ b\/b∈A
structure BOut where
 nx:PEnv->BX->Prop
 rt:PV->Kd->Prop
 bk:PEnv->BX->Prop
 ct:PEnv->BX->Prop
structure BOut.le (O O':BOut):Prop where
 nx:∀ρ β,O.nx ρ β->O'.nx ρ β
 rt:∀d k,O.rt d k->O'.rt d k
 bk:∀ρ β,O.bk ρ β->O'.bk ρ β
 ct:∀ρ β,O.ct ρ β->O'.ct ρ β
noncomputable abbrev TPB:=PEnv->BX->BOut->Prop
noncomputable def zmu (t:TPB)(O:BOut)(ρ:PEnv)(β:BX):Prop:=t ρ β O
theorem zdZ {t:TPB}{O:BOut}{ρ:PEnv}{β:BX}(h:t ρ β O):zmu t O ρ β:=h
noncomputable def RetO (K:Xa)(O:Addr->Prop)(H:Hp)(Fz':FZ)(H':Hp)(d:PV):Kd->V->Prop
 | .frz,v=>Den K Fz' H' d v
 | .new,v=>∃a,v=.ref a/\¬ Fz' a/\Own K Fz' H' d a/\(O a\/H a=none)
 | .own _,_=>False
theorem RetO.back {K:Xa}{O O':Addr->Prop}{F1 F2 Fz':FZ}{H1 H2 H':Hp}{d:PV}{k:Kd}{v:V}(s:zca O F1 H1 F2 H2)(oi:InO O H1 O')(r:RetO K O' H2 Fz' H' d k v):RetO K O H1 Fz' H' d k v:=by
 cases k with
 | frz=>exact r
 | own i=>exact r
 | new=>
  obtain⟨a,e,nf,o,w⟩:=r;refine⟨a,e,nf,o,?_⟩;rcases w with w | w
  ·exact oi a w
  ·exact(s.none w).symm
noncomputable def goB (K:Xa)(z:Nat)(E:St->Hp->Prop)(O:Addr->Prop)(Fz:FZ)(H:Hp)(ρ':PEnv)(β':BX):Prop:=
 ∀σ' Fz' H' a' bs',zca O Fz H Fz' H'->InO O H (OB ρ' σ' (a'::bs'))->RelB K Fz' ρ' β' σ' H' z a' bs'->E σ' H'
noncomputable def outB (K:Xa)(z:Nat)(D:Ends)(O:Addr->Prop)(Fz:FZ)(H:Hp):BOut where
 nx:=goB K z D.nx O Fz H
 bk:=goB K z D.bk O Fz H
 ct:=goB K z D.ct O Fz H
 rt:=λd k=>∀v Fz' H',zca O Fz H Fz' H'->(∀b,Fz' b->H' b≠none)->RetO K O H Fz' H' d k v->D.rt v H'
noncomputable def zqw (K:Xa)(z:Nat)(t:TPB):TS:=λD σ H=>∃ρ Fz β a bs,RelB K Fz ρ β σ H z a bs/\t ρ β (outB K z D (OB ρ σ (a::bs)) Fz H)
structure PuB1 (X:Cx)(z:Nat)(st:Stmt)(t:TPB):Prop where
 mono:∀ρ β O O',BOut.le O O'->t ρ β O->t ρ β O'
 run:PS X st (zqw X.K z t)
structure PuB (X:Cx)(z:Nat)(st:List Stmt)(t:TPB):Prop where
 mono:∀ρ β O O',BOut.le O O'->t ρ β O->t ρ β O'
 run:PSs X st (zqw X.K z t)
theorem zqx {K:Xa}{z:Nat}{D D':Ends}{O O':Addr->Prop}{Fz Fz':FZ}{H H':Hp}(s:zca O Fz H Fz' H')(oi:InO O H O')(h1:∀σ H,D.nx σ H->D'.nx σ H)(h2:∀v H,D.rt v H->D'.rt v H)(h3:∀σ H,D.bk σ H->D'.bk σ H)(h4:∀σ H,D.ct σ H->D'.ct σ H) :
  (outB K z D O Fz H).le (outB K z D' O' Fz' H') where
 nx ρ2 β2 q σ2 F2 H2 a2 bs2 s2 o2 R2:=h1 _ _ (q σ2 F2 H2 a2 bs2 (s.trans oi s2) (InO.trans s oi o2) R2)
 bk ρ2 β2 q σ2 F2 H2 a2 bs2 s2 o2 R2:=h3 _ _ (q σ2 F2 H2 a2 bs2 (s.trans oi s2) (InO.trans s oi o2) R2)
 ct ρ2 β2 q σ2 F2 H2 a2 bs2 s2 o2 R2:=h4 _ _ (q σ2 F2 H2 a2 bs2 (s.trans oi s2) (InO.trans s oi o2) R2)
 rt d k q v F2 H2 s2 al r:=h2 _ _ (q v F2 H2 (s.trans oi s2) al (r.back s oi))
theorem zhb {K:Xa}{z:Nat}{D:Ends}{O O':Addr->Prop}{Fz Fz':FZ}{H H':Hp}(s:zca O Fz H Fz' H')(oi:InO O H O'):(outB K z D O Fz H).le (outB K z D O' Fz' H'):=
 zqx s oi (λ_ _ h=>h) (λ_ _ h=>h) (λ_ _ h=>h) (λ_ _ h=>h)
theorem zca.stay {K:Xa}{O:Addr->Prop}{Fz:FZ}{ρ:PEnv}{σ:St}{H:Hp}(R:Rel K Fz ρ σ H):zca O Fz H Fz H:=.of ⟨Same.refl H,λ_ h=>h,λ_ h=>.inl h,R.al⟩
theorem RelB.frozen {K:Xa}{Fz:FZ}{ρ:PEnv}{β:BX}{σ:St}{H:Hp}{z:Nat}{a:Addr}{bs:List Addr}(R:RelB K Fz ρ β σ H z a bs):Rel K (λb=>Fz b\/b∈a::bs) (ρ.set z (some (β.pv,false))) σ H:=by
 have hz:z<ρ.length:=(Xc.mp R.hz).1;have hd:Den K (λb=>Fz b\/b∈a::bs) H β.pv (.ref a):=by
  have hl:=R.box.own.length;have hok:=R.box.ok;have ow:=(R.box.own.mono (Fz':=λb=>Fz b\/b∈a::bs) (Keep.of (Same.refl H)) (λ_ h=>.inl h) (λ_ _ _ h=>h)).den λb hb=>.inr (Xf _ hb);have hat:=R.box.at_;cases β with
  | L ds=>show Den _ _ _ (.lst ds) _;simp only[Den];exact⟨a,_,rfl,.inl ⟨.inr (Xh ..),.inl hat⟩,ow⟩
  | K ks ds=>show Den _ _ _ (.dK ks ds) _;simp only[Den];exact⟨a,_,rfl,.inr (Xh ..),.inl hat,by rw[Xb,<- hl];exact hok,ow⟩
  | T ks ds=>show Den _ _ _ (.dT ks ds) _;simp only[Den];exact⟨a,_,rfl,.inr (Xh ..),.inl hat,by rw[Xb,<- hl];exact hok,ow⟩
 refine⟨λb hb=>?_,by rw[Yb];exact R.rel.len,λj e he=>?_,λj e he=>?_,λj k d' e' b h1 h2 h3 h4=>?_⟩
 ·rcases hb with hb | hb
  ·exact R.rel.al b hb
  ·obtain⟨o,e,_⟩:=R.box.has hb;rw[e];exact λz=>nomatch z
 ·by_cases hj:z=j
  ·subst hj;rw[Xl hz]at he;cases he;exact⟨_,R.sz,hd⟩
  ·rw[Xg hj]at he;obtain⟨v,q1,q2⟩:=R.rel.frz j e he;exact⟨v,q1,Den.mono (Keep.of (Same.refl _)) (λ_ h=>.inl h) _ _ q2⟩
 ·have hj:z≠j:=λy=>by
   subst y;rw[Xl hz]at he;cases he
  rw[Xg hj]at he;obtain⟨b,q1,q2,q3⟩:=R.rel.own j e he;refine⟨b,q1,λy=>?_,q3.mono (Keep.of (Same.refl _)) (λ_ h=>.inl h) (λ_ h=>h)⟩;rcases y with y | y
  ·exact q2 y
  ·exact R.no b y ⟨j,e,he,q1⟩
 ·have nj:z≠j:=λy=>by subst y;rw[Xl hz]at h1;cases h1
  have nk:z≠k:=λy=>by subst y;rw[Xl hz]at h2;cases h2
  rw[Xg nj]at h1;rw[Xg nk]at h2;exact R.rel.inj j k d' e' b h1 h2 h3 h4
theorem zhc {ρ:PEnv}{σ:St}{z:Nat}{d:PV}:∀b,zaZ (ρ.set z (some (d,false))) σ b->zaZ ρ σ b:=λb ⟨j,e,h1,h2⟩=>by
 have nj:z≠j:=λy=>by
  subst y;by_cases hi:z<ρ.length
  ·rw[Xl hi]at h1;cases h1
  ·rw[XS (by lia),Xw (by lia)]at h1;cases h1
 rw[Xg nj]at h1;exact⟨j,e,h1,h2⟩
noncomputable def rdE (z:Nat)(te:TPE)(ρ:PEnv)(β:BX)(Q:PV->Prop):Prop:=te (ρ.set z (some (β.pv,false))) λd k=>k=.frz/\zbD d=true/\Q d
theorem zpj {X:Cx}{e:Expr}{te:TPE}(he:PuE X e te){Fz:FZ}{ρ:PEnv}{β:BX}{σ:St}{H:Hp}{z:Nat}{a:Addr}{bs:List Addr}(R:RelB X.K Fz ρ β σ H z a bs){Q:PV->Prop}{W:V->Hp->Prop}
  (h:rdE z te ρ β Q) (hw:∀d v H',Q d->zbD d=true->Ext Fz H Fz H'->Den X.K Fz H' d v->W v H'):lift X.K te σ H W:=by
 refine⟨_,_,R.frozen,he.mono _ _ _ (λd k q v Fz' H' p=>?_) h⟩;obtain⟨rfl,nm,q⟩:=q;refine hw d v H' q nm ⟨p.ext.same,λ_ h=>h,λ_ h=>.inl h,λb hb y=>R.rel.al b hb (p.ext.same.free y)⟩ (zfP d v nm p.opd)
section
variable {X:Cx}{z:Nat}{st:Stmt}{rest a b body:List Stmt}{t u:TPB}{e c:Expr}{te:TPE}{tc:TPT}{pos pos' p:Pos}{x:Str}
noncomputable def zci:TPB:=λρ β O=>O.nx ρ β
noncomputable def zdk (t u:TPB):TPB:=λρ β O=>t ρ β { O with nx:=zmu u O }
theorem zqy:PuB X z [] zci where
 mono ρ β O O' m h:=m.nx _ _ h
 run:=PSs.weak zlp λD σ H h=>by
  obtain⟨ρ,Fz,β,a,bs,R,h⟩:=h;exact h σ Fz H a bs (zca.stay R.rel) InO.refl R
theorem zjN (h1:PuB1 X z st t)(h2:PuB X z rest u):PuB X z (st::rest) (zdk t u) where
 mono ρ β O O' m h:=h1.mono ρ β { O with nx:=λρ' β'=>u ρ' β' O } _ ⟨λρ' β' q=>h2.mono ρ' β' O O' m q,m.rt,m.bk,m.ct⟩ h
 run:=PSs.weak (zcR h1.run h2.run) λD σ H h=>by
  obtain⟨ρ,Fz,β,a,bs,R,h⟩:=h;refine⟨ρ,Fz,β,a,bs,R,h1.mono ρ β { outB X.K z D (OB ρ σ (a::bs)) Fz H with nx:=λρ' β'=>u ρ' β' (outB X.K z D (OB ρ σ (a::bs)) Fz H) } _ ⟨λρ' β' q=>?_,λ_ _ q=>q,λ_ _ q=>q,λ_ _ q=>q⟩ h⟩;intro σ' Fz' H' a' bs' s oi R';exact⟨ρ',Fz',β',a',bs',R',h2.mono ρ' β' _ _ (zhb s oi) q⟩
theorem RelB.set {K:Xa}{Fz:FZ}{ρ:PEnv}{β:BX}{σ:St}{H:Hp}{z i:Nat}{a:Addr}{bs:List Addr}{d:PV}{v:V}(R:RelB K Fz ρ β σ H z a bs)(h:Den K Fz H d v)(hi:i≠z):RelB K Fz (ρ.set i (some (d,false))) β (σ.set i (some v)) H z a bs:=
 ⟨R.rel.set h,by rw[Xg hi];exact R.hz,by rw[Xg hi];exact R.sz,R.box,λb hb y=>R.no b hb (zei b y)⟩
theorem OB.set {ρ:PEnv}{σ:St}{i:Nat}{d:PV}{v:V}{A:List Addr}{H:Hp}:InO (OB ρ σ A) H (OB (ρ.set i (some (d,false))) (σ.set i (some v)) A):=λb hb=>by
 rcases hb with hb | hb
 ·exact .inl (.inl (zei b hb))
 ·exact .inl (.inr hb)
noncomputable def zdC (ti:TPI)(i:Nat)(tb:TPB):TPB:=λρ β O=>ti ρ λits o=>o=false/\∃Iv:Nat->PEnv->BX->Prop,Iv 0 ρ β/\(∀k d ρ' β',its[k]? = some d->Iv k ρ' β'->zmu tb { O with nx:=Iv (k+1),ct:=Iv (k+1),bk:=O.nx } (ρ'.set i (some (d,false))) β')/\∀ρ' β',Iv its.length ρ' β'->O.nx ρ' β'
theorem zqz {i:Nat}{iter:Expr}{ti:TPI}(hN:X.N.Nodup)(hi:X.N[i]? = some x)(hx:Loc X.env.scope x)(hc:X.calm=true)(hp:PassesOwn (model X.prog X.w) X.A X.env X.xe)(hit:PuI X (.Name x p) iter ti)(hb:PuB X z body t)(hiz:autoParam (i≠z) aU1)
  (hf:autoParam (X.fn x=true\/X.env.scope.names.lookup x=some .local) aU2) (hs:autoParam (∀x,foldedSetIterable iter X.env x=pure x) aU3):PuB1 X z (.For (.Name x p) iter body [] pos) (zdC ti i t) where
 mono ρ β O O' m h:=hit.mono ρ _ _ (λits o q111q=>by obtain⟨e,I,h0,hs,hd⟩:=q111q;exact⟨e,I,h0,λk d ρ' β' hk hI=>hb.mono _ _ { O with nx:=I (k+1),ct:=I (k+1),bk:=O.nx } _ ⟨λ_ _ q=>q,m.rt,m.nx,λ_ _ q=>q⟩ (hs k d ρ' β' hk hI),λρ' β' hI=>m.nx _ _ (hd ρ' β' hI)⟩) h
 run:=PS.weak (zlu hp hc hit.run (ziK hN hi hx hf) hb.run hs) λD σ H h=>by
  obtain⟨ρ,Fz,β,a,bs,R,h⟩:=h;refine⟨ρ,Fz,R.rel,hit.mono ρ _ _ (λits o q J Fz1 H1 x wk=>?_) h⟩;obtain⟨rfl,Iv,h0,hstep,hdone⟩:=q;have R1:=R.ext x;have le:=zhb (K:=X.K) (z:=z) (D:=D) (O:=OB ρ σ (a::bs)) (.of x) InO.refl;refine⟨λi m σ' H'=>m=its.length-i/\i<=its.length/\∃ρ' F' β' a' bs',RelB X.K F' ρ' β' σ' H' z a' bs'/\Iv i ρ' β'/\zca (OB ρ σ (a::bs)) Fz1 H1 F' H'/\InO (OB ρ σ (a::bs)) H1 (OB ρ' σ' (a'::bs')),
   ⟨its.length,by lia,XT _,ρ,Fz1,β,a,bs,R1,h0,zca.stay R1.rel,InO.refl⟩,?_⟩
  rintro k m σ' H' ⟨rfl,hle,ρ',F',β',a',bs',R',hI,s',o'⟩;have kp:zhH Fz1 H1 H':=λb o e w=>by
   refine s'.keep b o e λy=>?_;rcases y with ⟨i,d,h1,h2⟩ | y
   ·obtain⟨a0,q1,q2,q3⟩:=R1.rel.own i d h1;rw[h2]at q1;cases q1;rcases w with w | w
    ·exact q2 w
    ·obtain⟨o',q4,q5⟩:=q3.at;rw[e]at q4;cases q4;exact q5 w
   ·rcases w with w | w
    ·exact R1.box.nf b y w
    ·obtain⟨o',q4,q5⟩:=R1.box.has y;rw[e]at q4;cases q4;exact q5 w
  obtain⟨wgo,wstop⟩:=wk H' (.inr ⟨rfl,kp⟩) k;by_cases hlt:k<its.length
  ·obtain⟨go,yl⟩:=wgo its[k] (Xd hlt);refine .inr ⟨go,λσ2 H2=>∃ρ2 F2 β2 a2 bs2,RelB X.K F2 ρ2 β2 σ2 H2 z a2 bs2/\Iv (k+1) ρ2 β2/\zca (OB ρ σ (a::bs)) Fz1 H1 F2 H2/\InO (OB ρ σ (a::bs)) H1 (OB ρ2 σ2 (a2::bs2)),λσ2 H2 hN=>⟨its.length-(k+1),by lia,rfl,hlt,hN⟩,λxv H2 y=>?_⟩;obtain⟨sm,dn⟩:=yl xv H2 y;have x2:Ext F' H' F' H2:=⟨sm,λ_ h=>h,λ_ h=>.inl h,λb hb z=>R'.rel.al b hb (sm.free z)⟩;have R2:=(R'.ext x2).set (i:=i) (Den.mono (Keep.of (Same.refl _)) s'.sub _ _ dn) hiz;have so:InO (OB ρ σ (a::bs)) H1 (OB (ρ'.set i (some (its[k],false))) (σ'.set i (some xv)) (a'::bs')):=λb hb=>by
    rcases hb with hb | hb
    ·exact o' b (.inl (zei b hb))
    ·exact o' b (.inr hb)
   have st:zca (OB ρ σ (a::bs)) Fz1 H1 F' H2:=s'.trans o' (.of x2);refine⟨_,F',β',a',bs',R2,hb.mono _ _ { outB X.K z D (OB ρ σ (a::bs)) Fz H with nx:=Iv (k+1),ct:=Iv (k+1),bk:=(outB X.K z D (OB ρ σ (a::bs)) Fz H).nx } _ ⟨λρ3 β3 q σ3 F3 H3 a3 bs3 s3 o3 R3=>?_,λd k q v F3 H3 s3 al r=>?_,λρ3 β3 q σ3 F3 H3 a3 bs3 s3 o3 R3=>?_,λρ3 β3 q σ3 F3 H3 a3 bs3 s3 o3 R3=>?_⟩ (hstep k its[k] ρ' β' (Xd hlt) hI)⟩
   ·exact⟨ρ3,F3,β3,a3,bs3,R3,q,st.trans so s3,InO.trans st so o3⟩
   ·exact le.rt d k q v F3 H3 (st.trans so s3) al (r.back st so)
   ·exact le.nx ρ3 β3 q σ3 F3 H3 a3 bs3 (st.trans so s3) (InO.trans st so o3) R3
   ·exact⟨ρ3,F3,β3,a3,bs3,R3,q,st.trans so s3,InO.trans st so o3⟩
  ·have e:k=its.length:=by lia
   subst e;exact .inl ⟨wstop (Xi _),le.nx ρ' β' (hdone ρ' β' hI) σ' F' H' a' bs' s' o' R'⟩
noncomputable def zcj (z:Nat)(t:TPS):TPB:=λρ β O=>Hold t { nx:=λ_=>False,rt:=O.rt,bk:=λ_=>False,ct:=λ_=>False } (ρ.set z (some (β.pv,false)))
theorem zoj {t:TPS}(h:PuSs X rest t):PuB X z rest (zcj z t) where
 mono ρ β O O' m q:=h.mono _ { nx:=λ_=>False,rt:=O.rt,bk:=λ_=>False,ct:=λ_=>False } _ ⟨λ_ q=>q.elim,m.rt,λ_ q=>q.elim,λ_ q=>q.elim⟩ q
 run:=PSs.weak h.run λD σ H q=>by
  obtain⟨ρ,Fz,β,a,bs,R,q⟩:=q;have RF:=R.frozen;refine⟨_,_,RF,h.mono _ { nx:=λ_=>False,rt:=(outB X.K z D (OB ρ σ (a::bs)) Fz H).rt,bk:=λ_=>False,ct:=λ_=>False } _ ⟨λ_ q=>q.elim,λd k q v Fz' H' s al r=>?_,λ_ q=>q.elim,λ_ q=>q.elim⟩ q⟩;refine q v Fz' H' ⟨λb hb=>s.sub b (.inl hb),λb hb=>?_,λb o e n=>s.keep b o e λy=>n (.inl (zhc b y))⟩ al ?_
  ·rcases s.new b hb with (y | y) | y | y
   ·exact .inl y
   ·exact .inr (.inr (.inr y))
   ·exact .inr (.inl y)
   ·exact .inr (.inr (.inl (zhc b y)))
  ·cases k with
   | frz=>exact r
   | own i=>exact r
   | new=>
    obtain⟨a0,e,nf,o,w⟩:=r;refine⟨a0,e,nf,o,?_⟩;rcases w with w | w
    ·exact .inl (.inl (zhc a0 w))
    ·exact .inr w
end
theorem Rel.unset {K:Xa}{Fz:FZ}{ρ:PEnv}{σ:St}{H:Hp}{i:Nat}{v:V}(R:Rel K Fz ρ σ H):Rel K Fz (ρ.set i none) (σ.set i (some v)) H:=by
 have ne:∀(j:Nat) (p:PV×Bool),(ρ.set i none)[j]? = some (some p)->i≠j/\ρ[j]? = some (some p):=λj p h=>by
  have nj:i≠j:=λz=>by
   subst z;by_cases hi:i<ρ.length
   ·rw[Xl hi]at h;cases h
   ·rw[XS (by lia),Xw (by lia)]at h;cases h
  rw[Xg nj]at h;exact⟨nj,h⟩
 refine⟨R.al,by rw[Yb,Yb];exact R.len,λj d h=>?_,λj d h=>?_,λj k d e a h1 h2 h3 h4=>?_⟩
 ·obtain⟨nj,h⟩:=ne j _ h;rw[Xg nj];exact R.frz j d h
 ·obtain⟨nj,h⟩:=ne j _ h;rw[Xg nj];exact R.own j d h
 ·obtain⟨nj,h1⟩:=ne j _ h1;obtain⟨nk,h2⟩:=ne k _ h2;rw[Xg nj]at h3;rw[Xg nk]at h4;exact R.inj j k d e a h1 h2 h3 h4
theorem zcP {ρ:PEnv}{σ:St}{i:Nat}{v:V}:∀b,zaZ (ρ.set i none) (σ.set i (some v)) b->zaZ ρ σ b:=λb ⟨j,e,h1,h2⟩=>by
 have nj:i≠j:=λz=>by
  subst z;by_cases hi:i<ρ.length
  ·rw[Xl hi]at h1;cases h1
  ·rw[XS (by lia),Xw (by lia)]at h1;cases h1
 rw[Xg nj]at h1 h2;exact⟨j,e,h1,h2⟩
theorem RelB.put {K:Xa}{Fz:FZ}{ρ:PEnv}{β:BX}{σ:St}{H:Hp}{z:Nat}{a:Addr}{bs:List Addr}{j:Nat}{b:Addr}{d:PV}{o u:HO}(R:RelB K Fz ρ β σ H z a bs)(hb:bs[j]? = some b)(hu:H b=some u)(im:¬ Imm u)(ow:Own K Fz (upd H b o) d b)
  (β':BX) (hc:β'.cts=β.cts.set j d) (ho:β'.obj bs=β.obj bs) (hk:β'.ok):RelB K Fz ρ β' σ (upd H b o) z a bs/\zca (OB ρ σ (a::bs)) Fz H Fz (upd H b o):=by
 have hm:b∈a::bs:=Xf _ (Xr hb);have nf:=R.box.nf b hm;have no:=R.no b hm;have nd:=R.box.nd;rw[XX]at nd;have nea:a≠b:=λy=>nd.1 (by rw[y];exact Xr hb);refine⟨⟨R.rel.other hu im nf no,R.hz,R.sz,⟨by rw[zaj nea,ho];exact R.box.at_,hk,by rw[hc];exact OwnL.put hu im nf ow R.box.own nd.2 hb,R.box.nd,R.box.nf⟩,R.no⟩,⟨λ_ h=>h,λ_ h=>.inl h,λc w e n=>?_⟩⟩;have ne:c≠b:=λy=>n (.inr (by rw[y];exact hm));rw[zaj ne];exact e
end PL
namespace L2
open PySem PySem.Spec PyProof.Rows
section
variable {X:Cx}{pins:List (Addr×Obj)}{σ:List (Option V)}{H:Hp}{s:Shared}{h':Heap}
theorem Inv.zfU {t':Nat}{ch:List Addr}(I:Inv X pins σ H s)(k:∀b o,b∉ch->s.heap.get? b=some o->h'.get? b=some o)(hf:∀b∈ch,FpOk X pins H b):Inv X pins σ H { s with heap:=h',toks:=t' }:=by
 have nit:∀b u,H b=some u->b∉ch:=λb u e z=>by rw[(hf b z).1]at e;cases e
 refine I.step (g':=s.gens) (d':=s.drawn) (ch:=ch) (λb hb=>?_) (λb o _ _ hc e _=>k b o hc e) (λb o _ _ hc e _=>⟨o.slots,k b o hc e⟩) (λ_ _ _ _ n=>n)
  (λb o hc e=>⟨o,k b o hc e⟩) (λ_ _ e=>e) (λ_ _ _ e=>e) (λb ps e=>⟨#[],by rw[e];simp⟩) (λm hm=>?_) (λb u e=>?_) I.bare
 ·obtain⟨_,f1,_,f3,f4,f5⟩:=hf b hb;exact⟨f3,f1,f4,f5⟩
 ·obtain⟨o,es,ep,ho,r⟩:=hm;exact⟨o,es,ep,k _ o (λz=>(hf _ z).2.1 rfl) ho,r⟩
 ·refine(I.hok b u e).stay (λc v hc q=>k c v ?_ q) (λ_ q=>q) λ_ _ q=>q;rcases hc with z | z
  ·rw[z];exact nit b u e
  ·exact nit c _ z
end
noncomputable def Ite (K:Xa)(a:Addr):It:=
 ⟨λi H=>∃xs x,SqL K H a xs/\xs[i]? = some x,λi H x H'=>∃p y,x=.ref p/\H p=none/\(∀xs,SqL K H a xs->xs[i]? = some y)/\H'=upd H p (.tup [.int (i:Int),y]),λi H=>∃xs,SqL K H a xs/\xs.length<=i⟩
theorem zmv {P:Program}{w:World}{K:Xa}{elts:List Expr}{x1:Nat}{pos:Pos}(a e it:Addr)(hne:e≠it):Turn P w K (.Tuple elts x1 pos) (Ite K a) [e,it] e (λi h=>(∃old,IsEnum h e it (i:Int) old)/\h.IsListIter it a i) where
 mem:=by simp
 obj:=λi h st b hb=>by
  obtain⟨⟨old,he⟩,o,ho,c,d⟩:=st;rcases Xu.mp hb with rfl | hb
  ·exact⟨_,he,λv z=>by cases z⟩
  ·have:=Xq.mp hb;subst this;exact⟨o,ho,λv z=>by rw[d]at z;cases z⟩
 keep:=λi h h' st k=>by
  obtain⟨⟨old,he⟩,hit⟩:=st;exact⟨⟨old,k e (by simp) _ he⟩,hit.at λo q=>k it (by simp) o q⟩
 item:=by
  intro X hP hw hK hc i pins s σ H E I hf st hg;subst hP hw hK;obtain⟨⟨old,he⟩,hit⟩:=st;obtain⟨xs,x,hq,hx⟩:=hg;obtain⟨its,rv,p,hz⟩:=I.list hq;obtain⟨u,hu,ru⟩:=rv.get hx;have hfr:H s.heap.objs.size=none:=I.hok.fresh (Xi _);have heS:e<s.heap.objs.size:=Xo he;have hiS:it<s.heap.objs.size:=by obtain⟨o,ho,_⟩:=id hit;exact Xo ho
  refine wpAny_pyNext_enum_item he hit p.isList (x:=u) (by simpa using hu) hne λh1 heo hit1 ht1 hz1 hk1=>⟨.ref s.heap.objs.size,rfl,?_⟩;refine wpAny_letOwnedTupleGo_enum heo λh2 he2 hs2=>?_;replace hs2:Ym e h1 h2:=hs2;have I1:=I.laid (a:=s.heap.objs.size) (o:=.tup [.int (i:Int),x]) (h':=s.heap.push { cls:=.type "tuple",data:=.seq #[.int i s.toks,u] }) (t':=s.toks+1) (λb u e=>Xe _ e) (Xi _)
   ⟨by show 2<=sizeLine;decide,[.int i s.toks,u],.cons ⟨_,rfl⟩ (.cons ru .nil),zdd.new _ _⟩
  have hfp:∀b∈[e,it],FpOk X pins (upd H s.heap.objs.size (.tup [.int (i:Int),x])) b:=λb hb=>by
   obtain⟨f0,fr⟩:=hf b hb;have hbS:b≠s.heap.objs.size:=by
    rcases Xu.mp hb with rfl | hb
    ·exact XJ heS
    ·rw[Xq.mp hb];exact XJ hiS
   exact⟨by rw[zaj hbS];exact f0,fr⟩
  have I2:=I1.zfU (h':=h2) (t':=s.toks+1) (ch:=[e,it]) (λb o hb eb=>by
   have hb1:b≠e:=λz=>hb (by simp[z]);have hb2:b≠it:=λz=>hb (by simp[z]);refine(hs2.2 b hb1).trans ?_;rcases Heap.get?_push_cases eb with ⟨rfl,rfl⟩ | eb
   ·exact ht1
   ·exact hk1 b o hb1 hb2 eb) hfp
  refine⟨.ref s.heap.objs.size,_,I2,rfl,⟨_,x,rfl,hfr,λys hy=>by rw[I.zdR hy hq];exact hx,rfl⟩,⟨⟨u,?_⟩,?_⟩,λb hb=>(hfp b hb).1⟩
  ·have:((i+1:Nat):Int)=(i:Int)+1:=by lia
   rw[this];exact he2
  ·exact hit1.extBut hs2.extBut (Ne.symm hne)
 done:=by
  intro X hP hw hK hc i pins s σ H E I hf st hg;subst hP hw hK;obtain⟨⟨old,he⟩,hit⟩:=st;obtain⟨xs,hq,hx⟩:=hg;obtain⟨its,rv,p,hz⟩:=I.list hq;have hl:=rv.length;obtain⟨f0,f1,f2,f3,f4,f5⟩:=hf it (by simp);exact wpAny_pyNext_enum_end (I.ok.hd hc) he hit p.isList (by simp;lia) λh' eb=>⟨rfl,I.turned (t':=s.toks) (λb o hb e=>eb b o hb e) f0 f1 f3 f4 f5⟩
 self:=λ_ _ _ _ _ st h=>by obtain⟨⟨old,he⟩,_⟩:=st;exact wpAny_pyIter_enum he h
section
variable {X:Cx}{elts:List Expr}{x1:Nat}{tpos p pos:Pos}{e e2:Expr}{te te2:TE}
theorem zfV:bootBuiltins "enumerate" = some (.type "enumerate"):=by decide +kernel
noncomputable def ztE (K:Xa)(te:TE):TI:=λσ H R=>te σ H λx H1=>∃a,x=.ref a/\(∃xs,SqL K H1 a xs)/\R (Ite K a) H1
theorem zqA (hg:Gl X "enumerate") (hm:X.mg "enumerate" = none) (he:PE X e te) (hs1:autoParam (starEach [e] X.env=(false,eval e X.env)::starEach [] X.env) aU0) (hpl1:autoParam ((backTo pos (starEach [] X.env)).any (·.1)=false) aU0) :
  PI X (.Tuple elts x1 tpos) (.Call (.Name "enumerate" p) [e] [] pos) (ztE X.K te):=by
 intro pins s σ H R I h;refine wpAny_Call_Name_kw (zea I hg hm zfV ?_ (by decide) (by decide));refine PyProof.Rows.callWith_type1 ?_ hs1 hpl1;rw[hs1];show wpAny _ _ (spliced ((false,eval _ X.env)::backTo pos (starEach [] X.env))) _ _ s;refine Calls.spliced_cons (thn (he pins s σ H _ I h) λu s1 q113q=>Calls.spliced_nil ?_);obtain⟨x,H1,I1,r1,a,ex,⟨xs,hq⟩,q⟩:=q113q;subst ex;obtain rfl:u=Value.ref a:=r1;obtain⟨its,r,pl,hz⟩:=I1.list hq;refine call_enumerate_list pl.isList λh' hE hit hsz hk=>?_;refine wpAny_pyIter_enum (s:={ s1 with heap:=h' }) hE ?_;have I2:Inv X pins σ H1 { s1 with heap:=h' }:=I1.kept (t':=s1.toks) hk;refine⟨s1.heap.objs.size+1,[s1.heap.objs.size+1,s1.heap.objs.size],_,_,H1,rfl,I2,zmv a _ _ (Nat.succ_ne_self _),⟨⟨_,hE⟩,hit⟩,λb hb=>?_,q⟩;have hb':s1.heap.objs.size<=b:=by
  rcases Xu.mp hb with rfl | hb
  ·exact YN _
  ·rw[Xq.mp hb];exact Xi _
 exact I1.fpOk hb' (I1.hok.fresh hb')
end
end L2
namespace PL
open PySem PySem.Spec L2
open PyProof.Rows hiding St
noncomputable def ziX (ds:List PV):List PV:=(XR ds.length).map λ(i:Nat)=>.tup [.int (i:Int),ds.getD i .non]
theorem zhV {ds:List PV}{i:Nat}{d:PV}(h:(ziX ds)[i]? = some d):∃x,ds[i]? = some x/\d=.tup [.int (i:Int),x]:=by
 unfold ziX at h;rw[Xk]at h;rcases Nat.lt_or_ge i ds.length with hi | hi
 ·rw[Yv hi]at h;cases h;exact⟨ds[i],Xd hi,by show PV.tup [PV.int (i:Int),ds.getD i PV.non]=_;rw[Xn,Xd hi];rfl⟩
 ·rw[Xw (by simpa using hi)]at h;cases h
theorem zfW (ds:List PV):(ziX ds).length=ds.length:=by simp[ziX]
noncomputable def zck (te:TPE):TPI:=λρ Q=>te ρ λd k=>∃ds,d=.lst ds/\Q (ziX ds) (isOwn k)
section
variable {X:Cx}{elts:List Expr}{x1:Nat}{tpos p pos:Pos}{e:Expr}{te:TPE}
theorem zok (hg:Gl X "enumerate") (hm:X.mg "enumerate" = none) (he:PuE X e te) (hs1:autoParam (starEach [e] X.env=(false,eval e X.env)::starEach [] X.env) aU0) (hpl1:autoParam ((backTo pos (starEach [] X.env)).any (·.1)=false) aU0) :
  PuI X (.Tuple elts x1 tpos) (.Call (.Name "enumerate" p) [e] [] pos) (zck te) where
 mono ρ Q Q' m h:=he.mono ρ _ _ (λd k q114q=>by obtain⟨ds,e,q⟩:=q114q;exact⟨ds,e,m _ _ q⟩) h
 run:=PI.weak (zqA hg hm he.run hs1 hpl1) λσ H Rr h=>by
  obtain⟨ρ,Fz,R,h⟩:=h;refine⟨ρ,Fz,R,he.mono ρ _ _ (λd k q v Fz' H' p=>?_) h⟩;obtain⟨ds,e,q⟩:=q;subst e;have rt:=p.root R;obtain⟨a,xs,rfl,h1,h2⟩:=zam rt;refine⟨a,rfl,⟨xs,h1⟩,?_⟩;have one:∀(F2:FZ) (H2:Hp) (zs:List V),SqL X.K H2 a zs->DenL X.K F2 H2 ds zs->∀i:Nat,(∀d,(ziX ds)[i]? = some d->(Ite X.K a).go i H2/\∀x H3,(Ite X.K a).yld i H2 x H3->Same H2 H3/\Den X.K F2 H3 d x)/\((ziX ds).length<=i->(Ite X.K a).stop i H2):=λF2 H2 zs g1 g3 i=>by
   have hl:=g3.length;refine⟨λd hd=>?_,λhi=>⟨zs,g1,by rw[zfW]at hi;lia⟩⟩;obtain⟨x,hx,rfl⟩:=zhV hd;obtain⟨v,q1,q2⟩:=g3.get hx;refine⟨⟨zs,v,g1,q1⟩,λy H3 q115q=>?_⟩;obtain⟨pp,w,ey,hn,gy,e3⟩:=q115q;subst ey e3;have exy:=gy zs g1;rw[q1]at exy;cases exy;have sm:Same H2 (upd H2 pp (.tup [.int (i:Int),v])):=λb o hb=>by rw[zaj (zaD hb hn)];exact hb
   refine⟨sm,?_⟩;simp only[Den];exact⟨pp,_,rfl,zal,DenL.cons (by simp only[Den]) (DenL.cons (Den.mono (.of sm) (λ_ h=>h) _ _ q2) DenL.nil)⟩
  cases k with
  | own i=>
   refine q _ Fz' H' p.ext λH2 hH=>?_;rcases hH with hH | ⟨z,_⟩
   ·exact one Fz' H2 xs (hH.seq h1) (DenL.mono (.of hH) (λ_ h=>h) _ _ h2)
   ·cases z
  | frz=>
   have pd:Den X.K Fz' H' (.lst ds) (.ref a):=p.opd;simp only[Den]at pd;obtain⟨a',xs',e,h3,h4⟩:=pd;cases e;refine q _ Fz' H' p.ext λH2 hH=>?_;have kp:Keep Fz' H' H2:=hH.elim (λz=>.of z) (λz=>.mk' z.2);exact one Fz' H2 xs' (h3.elim (λh=>.inl (kp.rd trivial h.1 h.2)) KX.sq) (DenL.mono kp (λ_ h=>h) _ _ h4)
  | new=>
   obtain⟨b,e,hn,nf,o⟩:=p.opd;cases e;obtain⟨xs',o1,o2⟩:=o;refine q _ (λb=>Fz' b\/b=a) H' (p.ext.add hn (by rw[o1];exact λz=>nomatch z)) λH2 hH=>?_;have kp:Keep (λb=>Fz' b\/b=a) H' H2:=hH.elim (λz=>.of z) (λz=>.mk' z.2);exact one _ H2 xs' (.inl (kp.rd trivial (.inr rfl) (.inl o1))) (DenL.mono kp (λ_ h=>h) _ _ (DenL.mono (Keep.of (Same.refl _)) (λ_ h=>.inl h) _ _ o2))
end
end PL
namespace L2
open PySem PySem.Spec PySem.W
open PyProof.Rows hiding St
noncomputable def ItRv (K:Xa)(a:Addr)(n:Nat):It:=⟨λi H=>i<n/\∃xs x,SqL K H a xs/\xs.length=n/\xs[n-1-i]? = some x,λi H x H'=>H'=H/\∀xs,SqL K H a xs->xs[n-1-i]? = some x,λi _=>n<=i⟩
noncomputable def zhW (n i:Nat):Int:=if i<n then((n-1-i:Nat):Int) else -1
theorem zol {P:Program}{w:World}{K:Xa}{tg:Expr}(a it:Addr)(n:Nat):Turn P w K tg (ItRv K a n) [it] it (λi h=>h.IsRevIter it a (zhW n i)) where
 mem:=by simp
 obj:=λi h st b hb=>by
  have e:b=it:=by simpa using hb
  subst e;obtain⟨o,e,c,d⟩:=st;exact⟨o,e,λv z=>by rw[d]at z;cases z⟩
 keep:=λi h h' st k=>st.at λo e=>k it (by simp) o e
 item:=by
  intro X hP hw hK hc i pins s σ H E I hf st hg;subst hP hw hK;obtain⟨hi,xs,x,hq,hl,hx⟩:=hg;obtain⟨its,rv,p,hz⟩:=I.list hq;obtain⟨u,hu,ru⟩:=rv.get hx;obtain⟨f0,f1,f2,f3,f4,f5⟩:=hf it (by simp);have e0:zhW n i=((n-1-i:Nat):Int):=if_pos hi;rw[e0]at st;refine wpAny_pyNext_rev_item st p.isList (x:=u) (by simpa using hu) λh' st' sb=>?_;have e1:((n-1-i:Nat):Int)-1=zhW n (i+1):=by
   unfold zhW;split<;>lia
  rw[e1]at st';have I1:Inv X pins σ H { s with heap:=h' }:=I.turned (t':=s.toks) (λb o hb e=>(sb.2 b hb).trans e) f0 f1 f3 f4 f5;obtain⟨o,e,c,d⟩:=id st';exact⟨u,rfl,znG (s:={ s with heap:=h' }) e c d (by decide) ⟨x,H,I1,ru,⟨rfl,λys hy=>by rw[I.zdR hy hq];exact hx⟩,st',λb hb=>(hf b hb).1⟩⟩
 done:=by
  intro X hP hw hK hc i pins s σ H E I hf st hg;subst hP hw hK;have hi:n<=i:=hg;obtain⟨f0,f1,f2,f3,f4,f5⟩:=hf it (by simp);have e0:zhW n i = -1:=if_neg (by lia);rw[e0]at st;exact wpAny_pyNext_rev_end (I.ok.hd hc) st λh' eb=>⟨rfl,I.turned (t':=s.toks) (λb o hb e=>eb b o hb e) f0 f1 f3 f4 f5⟩
 self:=λ_ _ _ _ _ st h=>wpAny_pyIter_revIter st h
theorem zgk:bootBuiltins "reversed" = some (.type "reversed"):=by decide +kernel
section
variable {X:Cx}{tg e:Expr}{te:TE}{p pos:Pos}
theorem zsF (hg:Gl X "reversed") (hm:X.mg "reversed" = none) (he:PE X e te) (hs1:autoParam (starEach [e] X.env=(false,eval e X.env)::starEach [] X.env) aU0) (hpl1:autoParam ((backTo pos (starEach [] X.env)).any (·.1)=false) aU0) :
  PI X tg (.Call (.Name "reversed" p) [e] [] pos) (λσ H R=>te σ H λx H1=>∃a xs,x=.ref a/\SqL X.K H1 a xs/\R (ItRv X.K a xs.length) H1):=by
 intro pins s σ H R I h;refine wpAny_Call_Name_kw (zea I hg hm zgk ?_ (by decide) (by decide));refine PyProof.Rows.callWith_type1 ?_ hs1 hpl1;rw[hs1];show wpAny _ _ (spliced ((false,eval _ X.env)::backTo pos (starEach [] X.env))) _ _ s;refine Calls.spliced_cons (thn (he pins s σ H _ I h) λu s1 q116q=>Calls.spliced_nil ?_);obtain⟨x,H1,I1,r1,a,xs,ex,hq,q⟩:=q116q;subst ex;obtain rfl:u=Value.ref a:=r1;obtain⟨its,r,pl,hz⟩:=I1.list hq;have hl:=r.length;refine call_reversed_list pl.isList ?_;have hit:(s1.heap.push (revObj a ((its.toArray.size:Int)-1))).IsRevIter s1.heap.objs.size a (zhW xs.length 0):=by
  have e:((its.toArray.size:Int)-1)=zhW xs.length 0:=by
   unfold zhW;rw[Xm];split<;>lia
  rw[e];exact⟨_,XC _ rfl,rfl,rfl⟩
 refine wpAny_pyIter_revIter (s:={ s1 with heap:=s1.heap.push (revObj a ((its.toArray.size:Int)-1)) }) hit ?_;refine⟨s1.heap.objs.size,[s1.heap.objs.size],_,_,H1,rfl,I1.kept (t':=s1.toks) λb o e=>Xe _ e,zol a _ xs.length,hit,λb hb=>?_,q⟩;have hb':b=s1.heap.objs.size:=by simpa using hb
 subst hb';exact I1.fpOk (Xi _) (I1.hok.fresh (Xi _))
end
end L2
namespace PL
open PySem PySem.Spec L2
open PyProof.Rows hiding St
noncomputable def zdD (te:TPE):TPI:=λρ Q=>te ρ λd k=>∃ds,d=.lst ds/\Q ds.reverse (isOwn k)
section
variable {X:Cx}{tg e:Expr}{te:TPE}{p pos:Pos}
theorem zqB (hg:Gl X "reversed") (hm:X.mg "reversed" = none) (he:PuE X e te) (hs1:autoParam (starEach [e] X.env=(false,eval e X.env)::starEach [] X.env) aU0) (hpl1:autoParam ((backTo pos (starEach [] X.env)).any (·.1)=false) aU0) :
  PuI X tg (.Call (.Name "reversed" p) [e] [] pos) (zdD te) where
 mono ρ Q Q' m h:=he.mono ρ _ _ (λd k q117q=>by obtain⟨ds,e,q⟩:=q117q;exact⟨ds,e,m _ _ q⟩) h
 run:=PI.weak (zsF hg hm he.run hs1 hpl1) λσ H Rr h=>by
  obtain⟨ρ,Fz,R,h⟩:=h;refine⟨ρ,Fz,R,he.mono ρ _ _ (λd k q v Fz' H' p=>?_) h⟩;obtain⟨ds,e,q⟩:=q;subst e;have rt:=p.root R;obtain⟨a,xs,rfl,h1,h2⟩:=zam rt;refine⟨a,xs,rfl,h1,?_⟩;have hxl:=h2.length;have one:∀(F2:FZ) (H2:Hp) (zs:List V),SqL X.K H2 a zs->DenL X.K F2 H2 ds zs->∀i:Nat,(∀d,ds.reverse[i]? = some d->(ItRv X.K a xs.length).go i H2/\∀x H3,(ItRv X.K a xs.length).yld i H2 x H3->Same H2 H3/\Den X.K F2 H3 d x)/\(ds.reverse.length<=i->(ItRv X.K a xs.length).stop i H2):=λF2 H2 zs g1 g3 i=>by
   have hl:=g3.length;refine⟨λd hd=>?_,λhi=>by rw[Xx]at hi;show xs.length<=i;lia⟩;have hi:i<ds.length:=by have:=(Xc.mp hd).1;rw[Xx]at this;exact this
   rw[Yi hi]at hd;obtain⟨v,q1,q2⟩:=g3.get hd;rw[hxl]at q1;refine⟨⟨by lia,zs,v,g1,by lia,q1⟩,λy H3 q118q=>?_⟩;obtain⟨e3,gy⟩:=q118q;subst e3;have exy:=gy zs g1;rw[q1]at exy;cases exy;exact⟨Same.refl _,q2⟩
  cases k with
  | own i=>
   refine q _ Fz' H' p.ext λH2 hH=>?_;rcases hH with hH | ⟨z,_⟩
   ·exact one Fz' H2 xs (hH.seq h1) (DenL.mono (.of hH) (λ_ h=>h) _ _ h2)
   ·cases z
  | frz=>
   have pd:Den X.K Fz' H' (.lst ds) (.ref a):=p.opd;simp only[Den]at pd;obtain⟨a',xs',e,h3,h4⟩:=pd;cases e;refine q _ Fz' H' p.ext λH2 hH=>?_;have kp:Keep Fz' H' H2:=hH.elim (λz=>.of z) (λz=>.mk' z.2);exact one Fz' H2 xs' (h3.elim (λh=>.inl (kp.rd trivial h.1 h.2)) KX.sq) (DenL.mono kp (λ_ h=>h) _ _ h4)
  | new=>
   obtain⟨b,e,hn,nf,o⟩:=p.opd;cases e;obtain⟨xs',o1,o2⟩:=o;refine q _ (λb=>Fz' b\/b=a) H' (p.ext.add hn (by rw[o1];exact λz=>nomatch z)) λH2 hH=>?_;have kp:Keep (λb=>Fz' b\/b=a) H' H2:=hH.elim (λz=>.of z) (λz=>.mk' z.2);exact one _ H2 xs' (.inl (kp.rd trivial (.inr rfl) (.inl o1))) (DenL.mono kp (λ_ h=>h) _ _ (DenL.mono (Keep.of (Same.refl _)) (λ_ h=>.inl h) _ _ o2))
end
section
variable {X:Cx}{x:Str}{p apos cpos:Pos}
theorem zqC (i:Nat)(hN:autoParam (X.N[i]? = some x) aU0)(hv:autoParam (Vis X.env.scope x) aU4)(hd:autoParam ((x == ("__debug__" : Str))=false) aU1) (hcd:autoParam ((x == ("__classdict__" : Str))=false) aU1)
  (hbase:autoParam (attributeBase (.Name x p) "pop" X.env (eval (.Name x p) X.env)=eval (.Name x p) X.env) aU0) (hline:autoParam ((apos.endLine == cpos.line)=true) aU0):PuM X (.Call (.Attribute (.Name x p) "pop" apos) [] [] cpos) (mPop i) where
 mono ρ Q Q' m h:=by
  obtain⟨ds,d,e1,e2,h⟩:=h;exact⟨ds,d,e1,e2,m _ _ h⟩
 run:=PE.weak (zrP PySem.F.plainAttrs_list PySem.F.slot_list_pop PySem.F.type_list_pop zrQ (zdn hN hv hd hcd) hbase hline) λσ H Q h=>by
  obtain⟨ρ,Fz,R,ds,d,e1,e2,q⟩:=h;obtain⟨a,xs,hs,ha,hd,nf⟩:=zfR R e1;have hl:=hd.length;obtain⟨y,y1,y2⟩:=hd.get e2;refine⟨_,hs,.inl ⟨rfl,xs,SqL.of ha⟩,a,xs,y,rfl,rfl,ha,by rw[<- hl];exact y1,?_⟩;have hdl:DenL X.K Fz H ds.dropLast xs.dropLast:=by
   rw[List.dropLast_eq_take,List.dropLast_eq_take,<- hl];exact hd.take _
  have ow:Own X.K Fz (upd H a (.lst xs.dropLast)) (.lst ds.dropLast) a:=⟨_,zal,(DenL.rew ha nf hdl)⟩;obtain⟨R3,s3,o3⟩:=R.mut e1 hs ha ow;refine q y Fz _ s3 o3 R3 ?_;have:=DenL.rew (o:=.lst xs.dropLast) ha nf (DenL.cons y2 DenL.nil);simp only[DenL]at this;obtain⟨v',r',e',g1,_⟩:=this;cases e';exact g1
end
noncomputable abbrev zkQ:=List PV->(List Str->List PV->Prop)->Prop
noncomputable def zsG (F:zkQ):Prop:=∀ds Q Q',(∀ks es,Q ks es->Q' ks es)->F ds Q->F ds Q'
structure Made (K:Xa)(C x dx:Addr)(Fz:FZ)(H:Hp)(Fz':FZ)(H':Hp)(ks:List Str)(es:List PV):Prop where
 old:∀b o,b≠x->H b=some o->H' b=some o
 sub:∀b,Fz b->Fz' b
 new:∀b,Fz' b->Fz b\/H b=none
 al:∀b,Fz' b->H' b≠none
 at_:∃xs,H' x=some (.ins C dx (ks.zip xs))/\ks.length=xs.length/\DenL K Fz' H' es xs
noncomputable def zjO (K:Xa)(C:Addr)(F:zkQ):Sp:=λvs H Q _=>∃(x dx:Addr)(ws:List V)(Fz:FZ)(ds:List PV),vs=.ref x::ws/\H x=some (.ins C dx [])/\H dx=some (.own x)/\¬ Fz x/\¬ Fz dx/\(∀b,Fz b->H b≠none)/\DenL K Fz H ds ws/\
 F ds λks es=>∀Fz' H',Made K C x dx Fz H Fz' H' ks es->Q .non H'
section
variable {X:Cx}{C f:Addr}{x:Str}{p pos:Pos}{e:Expr}{es:List Expr}{t:TPA}{k:Nat}{fd:FuncData}{ps:List Str}{F:zkQ}
noncomputable def zdE (C:Addr)(F:zkQ)(t:TPA):TPE:=λρ Q=>t ρ λops=>noOwn ops=true/\F (ops.map (·.1)) λks es=>Q (.obj C ks es) .frz
theorem zqD (M:Mk X.K C f)(G:FnOk X.prog X.w X.K X.mg X.base CX0 k f fd ps (zjO X.K C F))(m:zsG F)(hr:Room (k+1) X.A)(hg:Gl X x)(hm:X.mg x=some (.ref C))(hb:Binds X.K fd ps [])(ha:PuA X (e::es) t)
  (hdb:autoParam ((x == ("__debug__" : Str))=false) aU1) (he:autoParam (starEach (e::es) X.env=(false,eval e X.env)::starEach es X.env) aU0) (hpl:autoParam ((backTo pos (starEach es X.env)).any (·.1)=false) aU0) :
  PuE X (.Call (.Name x p) (e::es) [] pos) (zdE C F t) where
 mono ρ Q Q' mm h:=ha.mono ρ _ _ (λops h=>⟨h.1,m _ _ _ (λks es q=>mm _ _ q) h.2⟩) h
 run:=PE.weak (zpL M G hr hg hm hb .nil znU ha.run hdb he hpl) λσ H Q h=>by
  obtain⟨ρ,Fz,R,h⟩:=h;refine⟨ρ,Fz,R,ha.mono ρ _ _ (λops h vs F1 H1 x1 o=>?_) h⟩;obtain⟨hno,h⟩:=h;intro a dx ha' hdx hne;obtain⟨F2,x2,s2,h2⟩:=o.frozen x1 hno;rw[Yn];have nfa:¬ F2 a:=λz=>x2.al a z ha';have nfd:¬ F2 dx:=λz=>x2.al dx z hdx;have sm:Same H1 (upd (upd H1 dx (.own a)) a (.ins C dx [])):=λb o' hb=>by
   have n1:b≠a:=λz=>by rw[z,ha']at hb;cases hb
   have n2:b≠dx:=λz=>by rw[z,hdx]at hb;cases hb
   rw[zaj n1,zaj n2];exact hb
  refine⟨a,dx,vs,F2,ops.map (·.1),rfl,zal,by rw[zaj hne];exact zal,nfa,nfd,λb hb z=>x2.al b hb (sm.free z),DenL.mono (.of sm) (λ_ h=>h) _ _ h2,m _ _ _ (λks es q F3 H3 md=>⟨rfl,?_⟩) h⟩;obtain⟨xs,g1,g2,g3⟩:=md.at_;have smH:Same H1 H3:=λb o' hb=>md.old b o' (λz=>by rw[z,ha']at hb;cases hb) (sm b o' hb);refine q (.ref a) (λb=>F3 b\/b=a) H3 ⟨⟨x2.same.trans smH,λb hb=>.inl (md.sub b (x2.sub b hb)),λb hb=>?_,λb hb=>?_⟩,?_⟩
  ·rcases hb with hb | rfl
   ·rcases md.new b hb with z | z
    ·exact x2.new b z
    ·exact .inr (x2.same.free (sm.free z))
   ·exact .inr (x2.same.free ha')
  ·rcases hb with hb | rfl
   ·exact md.al b hb
   ·rw[g1];exact λz=>nomatch z
  ·show Den _ _ _ _ _;simp only[Den];exact⟨a,dx,xs,rfl,.inr rfl,g1,g2,DenL.mono (Keep.of (Same.refl _)) (λ_ h=>.inl h) _ _ g3⟩
end
section
variable {X:Cx}{e:Expr}{te:TPE}{es:List Expr}{t:TPA}{p pos:Pos}
noncomputable def zmw:List V->Hp->VK->Prop:=λxs H Q=>∃(a:Addr)(kvs:List (Key×V)),xs=[V.ref a]/\Rd H a (.dK kvs)/\∀l,H l=none->Q (.ref l) (upd H l (.dK kvs))
theorem ziY:zdo X (.type "dict") zmw:=by
 intro pins s σ H xs us Q I r h;obtain⟨a,kvs,rfl,ha,q⟩:=h;obtain⟨u,rfl,rx⟩:=vals1 r;cases rx;obtain⟨hz,hs,vs,kv,hd⟩:=zgR I.hok ha;have hne:s.heap.objs.size≠sysModules:=Yd I.big;refine kt_call_dict (knd:=zaS X.prog X.w) hs hd (by rw[<- kv.length];exact hz) λh' hD sb=>?_;refine⟨.ref s.heap.objs.size,_,I.laid (t':=s.toks) (o:=.dK kvs) (λb o e=>?_) (Xi _) (zlG hz (by simpa using hne) kv hD),rfl,q _ I.fresh⟩;exact(sb.2 b (XJ (Xo e))).trans (Xe _ e)
noncomputable def zbf:PF:=λds Q=>∃ks es,ds=[.dK ks es]/\Q (.dK ks es) .new
theorem zmx {K:Xa}:zeh K zmw zbf where
 mono ds Q Q' m h:=by obtain⟨ks,es,e,q⟩:=h;exact⟨ks,es,e,m _ _ q⟩
 run Fz H ds vs Q al hr h:=by
  obtain⟨ks,es,rfl,q⟩:=h;obtain⟨v,rfl,h1⟩:=zdB hr;simp only[Root]at h1;obtain⟨a,xs,rfl,h2,h3,h4⟩:=h1;refine⟨a,_,rfl,h2,λl hl=>q _ Fz _ ⟨Ext.laid ⟨Same.refl _,λ_ h=>h,λ_ h=>.inl h,al⟩ hl,l,rfl,hl,λz=>al l z hl,?_⟩⟩;exact⟨xs,zal,h3,DenL.mono (.of ((Same.refl H).upd' hl)) (λ_ h=>h) _ _ h4⟩
theorem zmy (hg:Gl X "dict") (hm:X.mg "dict" = none) (ha:PuA X (e::es) t) (he:autoParam (starEach (e::es) X.env=(false,eval e X.env)::starEach es X.env) aU0) (hpl:autoParam ((backTo pos (starEach es X.env)).any (·.1)=false) aU0):PuE X (.Call (.Name "dict" p) (e::es) [] pos) (tB zbf t):=
 zeA ziY zmx hg hm zss ha (by decide) (by decide) he hpl
end
end PL
namespace L2
open PySem PySem.Spec PyProof.Rows
noncomputable def Itz (K:Xa)(a b:Addr):It:=
  ⟨λi H=>∃xs ys x y,SqL K H a xs/\xs[i]? = some x/\SqL K H b ys/\ys[i]? = some y,
   λi H x H'=>∃p u v,x=.ref p/\H p=none/\(∀xs,SqL K H a xs->xs[i]? = some u)/\(∀ys,SqL K H b ys->ys[i]? = some v)/\H'=upd H p (.tup [u,v]),
   λi H=>∃xs ys,SqL K H a xs/\SqL K H b ys/\(xs.length<=i\/ys.length<=i)⟩
theorem zom {P:Program}{w:World}{K:Xa}{elts:List Expr}{x1:Nat}{pos:Pos}(a b z TI TO i1 i2:Addr)(D:ZipApart z TI TO i1 i2 a b) :
  Turn P w K (.Tuple elts x1 pos) (Itz K a b) [z,TI,TO,i1,i2] z (λi h=>IsZip h z TI TO .none/\IsPair h TI (.ref i1) (.ref i2)/\(∃u v,IsPair h TO u v)/\h.IsListIter i1 a i/\h.IsListIter i2 b i) where
 mem:=by simp
 obj:=λi h st c hc=>by
  obtain⟨h1,h2,⟨u,v,h3⟩,⟨o4,h4,_,d4⟩,⟨o5,h5,_,d5⟩⟩:=st;simp only[Xu,YJ,or_false]at hc;rcases hc with rfl | rfl | rfl | rfl | rfl
  ·exact⟨_,h1,λv z=>by cases z⟩
  ·exact⟨_,h2,λv z=>by cases z⟩
  ·exact⟨_,h3,λv z=>by cases z⟩
  ·exact⟨_,h4,λv z=>by rw[d4]at z;cases z⟩
  ·exact⟨_,h5,λv z=>by rw[d5]at z;cases z⟩
 keep:=λi h h' st k=>by
  obtain⟨h1,h2,⟨u,v,h3⟩,h4,h5⟩:=st;exact⟨k z (by simp) _ h1,k TI (by simp) _ h2,⟨u,v,k TO (by simp) _ h3⟩,h4.at λo q=>k i1 (by simp) o q,h5.at λo q=>k i2 (by simp) o q⟩
 item:=by
  intro X hP hw hK hc i pins s σ H E I hf st hg;subst hP hw hK;obtain⟨h1,h2,⟨c1,c2,h3⟩,h4,h5⟩:=st;obtain⟨xs,ys,x,y,hq,hx,hq2,hy⟩:=hg;obtain⟨its,rv,p,hz⟩:=I.list hq;obtain⟨u,hu,ru⟩:=rv.get hx;obtain⟨its2,rv2,p2,hz2⟩:=I.list hq2;obtain⟨u2,hu2,ru2⟩:=rv2.get hy;have hfr:H s.heap.objs.size=none:=I.hok.fresh (Xi _);have lt:∀c∈[z,TI,TO,i1,i2],c<s.heap.objs.size:=λc hc=>by
   simp only[Xu,YJ,or_false]at hc;rcases hc with rfl | rfl | rfl | rfl | rfl
   ·exact Xo h1
   ·exact Xo h2
   ·exact Xo h3
   ·obtain⟨o,ho,_⟩:=id h4;exact Xo ho
   ·obtain⟨o,ho,_⟩:=id h5;exact Xo ho
  refine wpAny_pyNext_zip_item D h1 h2 h3 h4 h5 p.isList p2.isList (x:=u) (y:=u2) (by simpa using hu) (by simpa using hu2) λhp1 g1 g3 g4 g5 gt gz gk=>⟨.ref s.heap.objs.size,rfl,?_⟩;refine wpAny_letOwnedTupleGo_zip g1 λhp2 k1 ks=>?_;replace ks:Ym z hp1 hp2:=ks;have I1:=I.laid (a:=s.heap.objs.size) (o:=.tup [x,y]) (h':=s.heap.push { cls:=.type "tuple",data:=.seq #[u,u2] }) (t':=s.toks) (λb u e=>Xe _ e) (Xi _)
   ⟨by show 2<=sizeLine;decide,[u,u2],.cons ru (.cons ru2 .nil),zdd.new _ _⟩
  have hfp:∀c∈[z,TI,TO,i1,i2],FpOk X pins (upd H s.heap.objs.size (.tup [x,y])) c:=λc hc=>by
   obtain⟨f0,fr⟩:=hf c hc;exact⟨by rw[zaj (XJ (lt c hc))];exact f0,fr⟩
  have I2:=I1.zfU (h':=hp2) (t':=s.toks) (ch:=[z,TI,TO,i1,i2]) (λc o hc ec=>by
   have n1:c≠z:=λe=>hc (by simp[e]);refine(ks.2 c n1).trans ?_;rcases Heap.get?_push_cases ec with ⟨rfl,rfl⟩ | ec
   ·exact gt
   ·exact gk c o n1 (λe=>hc (by simp[e])) (λe=>hc (by simp[e])) (λe=>hc (by simp[e])) ec) hfp
  refine⟨.ref s.heap.objs.size,_,I2,rfl,⟨_,x,y,rfl,hfr,λzs hz=>by rw[I.zdR hz hq];exact hx,λzs hz=>by rw[I.zdR hz hq2];exact hy,rfl⟩,⟨k1,?_,⟨u,u2,?_⟩,?_,?_⟩,λc hc=>(hfp c hc).1⟩
  ·exact(ks.2 TI D.TIz).trans (gk TI _ D.TIz D.TITO D.TIi1 D.TIi2 h2)
  ·exact(ks.2 TO D.TOz).trans g3
  ·exact g4.extBut ks.extBut D.i1z
  ·exact g5.extBut ks.extBut D.i2z
 done:=by
  intro X hP hw hK hc i pins s σ H E I hf st hg;subst hP hw hK;obtain⟨h1,h2,⟨c1,c2,h3⟩,h4,h5⟩:=st;obtain⟨xs,ys,hq,hq2,hx⟩:=hg;obtain⟨its,rv,p,hz⟩:=I.list hq;obtain⟨its2,rv2,p2,hz2⟩:=I.list hq2;have hl:=rv.length;have hl2:=rv2.length;refine wpAny_pyNext_zip_end (I.ok.hd hc) D h1 h2 h3 h4 h5 p.isList p2.isList (hx.imp (λe=>by simp;lia) (λe=>by simp;lia)) λh' gk=>⟨rfl,?_⟩;exact I.zfU (t':=s.toks) (ch:=[z,TI,TO,i1,i2]) (λc o hc ec=>gk c o (λe=>hc (by simp[e])) (λe=>hc (by simp[e])) (λe=>hc (by simp[e])) (λe=>hc (by simp[e])) ec) hf
 self:=λ_ _ _ _ _ st h=>wpAny_pyIter_zip st.1 h
section
variable {X:Cx}{elts:List Expr}{x1:Nat}{tpos p pos:Pos}{e e2:Expr}{t:TA}
theorem zfX:bootBuiltins "zip" = some (.type "zip"):=by decide +kernel
noncomputable def iZip (K:Xa)(t:TA):TI:=λσ H R=>t σ H λvs H1=>∃a b,vs=[.ref a,.ref b]/\(∃xs,SqL K H1 a xs)/\(∃ys,SqL K H1 b ys)/\R (Itz K a b) H1
theorem zsH (hg:Gl X "zip") (hm:X.mg "zip" = none) (ha:PA X [e,e2] t) (he:autoParam (starEach [e,e2] X.env=(false,eval e X.env)::starEach [e2] X.env) aU0) (hpl:autoParam ((backTo pos (starEach [e2] X.env)).any (·.1)=false) aU0) :
  PI X (.Tuple elts x1 tpos) (.Call (.Name "zip" p) [e,e2] [] pos) (iZip X.K t):=by
 intro pins s σ H R I h;refine wpAny_Call_Name_kw (zea I hg hm zfX ?_ (by decide) (by decide));refine PyProof.Rows.callWith_type1 (thn (ha pos pins s σ H _ I h) λus s1 q119q=>?_) he hpl;obtain⟨vs,H1,I1,r1,a,b,ev,⟨xs,hq⟩,⟨ys,hq2⟩,q⟩:=q119q;subst ev;obtain⟨u1,u2,rfl,r2,r3⟩:=vals2 r1;obtain rfl:u1=Value.ref a:=r2;obtain rfl:u2=Value.ref b:=r3;obtain⟨its,r,pl,hz⟩:=I1.list hq;obtain⟨its2,r',pl2,hz2⟩:=I1.list hq2;have ha':@LT.lt Nat _ a s1.heap.objs.size:=by obtain⟨o,ho,_⟩:=pl.isList;exact Xo ho
 have hb':@LT.lt Nat _ b s1.heap.objs.size:=by obtain⟨o,ho,_⟩:=pl2.isList;exact Xo ho
 refine call_zip_2 pl.isList pl2.isList λh' g1 g2 g3 g4 g5 gz gk=>?_;refine wpAny_pyIter_zip (s:={ s1 with heap:=h' }) g1 ?_;have I2:Inv X pins σ H1 { s1 with heap:=h' }:=I1.kept (t':=s1.toks) gk;have D:ZipApart (s1.heap.objs.size+4) (s1.heap.objs.size+2) (s1.heap.objs.size+3) s1.heap.objs.size (s1.heap.objs.size+1) a b:=by constructor<;>first | exact XJ (by lia) | exact Yd (by lia)
 refine⟨_,_,_,_,H1,rfl,I2,zom a b _ _ _ _ _ D,⟨g1,g2,⟨_,_,g3⟩,g4,g5⟩,λc hc=>?_,q⟩;have hc':s1.heap.objs.size<=c:=by
  simp only[Xu,YJ,or_false]at hc;rcases hc with rfl | rfl | rfl | rfl | rfl<;>lia
 exact I1.fpOk hc' (I1.hok.fresh hc')
end
end L2
namespace PL
open PySem PySem.Spec L2
open PyProof.Rows hiding St
noncomputable def zipP (ds es:List PV):List PV:=List.zipWith (λd e=>.tup [d,e]) ds es
theorem zfu {ds es:List PV}{i:Nat}{d:PV}(h:(zipP ds es)[i]? = some d):∃x y,ds[i]? = some x/\es[i]? = some y/\d=.tup [x,y]:=by
 unfold zipP at h;rw[List.getElem?_zipWith]at h;cases h1:ds[i]? with
 | none=>rw[h1]at h;cases h
 | some x=>
  cases h2:es[i]? with
  | none=>rw[h1,h2]at h;cases h
  | some y=>rw[h1,h2]at h;cases h;exact⟨x,y,rfl,rfl,rfl⟩
theorem zfv (ds es:List PV):(zipP ds es).length=min ds.length es.length:=by simp[zipP]
noncomputable def zdF (t:TPA):TPI:=λρ Q=>t ρ λops=>noOwn ops=true/\∃ds es,ops.map (·.1)=[.lst ds,.lst es]/\Q (zipP ds es) false
section
variable {X:Cx}{elts:List Expr}{x1:Nat}{tpos p pos:Pos}{e e2:Expr}{t:TPA}
theorem zqE (hg:Gl X "zip") (hm:X.mg "zip" = none) (ha:PuA X [e,e2] t) (he:autoParam (starEach [e,e2] X.env=(false,eval e X.env)::starEach [e2] X.env) aU0) (hpl:autoParam ((backTo pos (starEach [e2] X.env)).any (·.1)=false) aU0) :
  PuI X (.Tuple elts x1 tpos) (.Call (.Name "zip" p) [e,e2] [] pos) (zdF t) where
 mono ρ Q Q' m h:=ha.mono ρ _ _ (λops q120q=>by obtain⟨e1,ds,es,e,q⟩:=q120q;exact⟨e1,ds,es,e,m _ _ q⟩) h
 run:=PI.weak (zsH hg hm ha.run he hpl) λσ H Rr h=>by
  obtain⟨ρ,Fz,R,h⟩:=h;refine⟨ρ,Fz,R,ha.mono ρ _ _ (λops q vs Fz' H' x o=>?_) h⟩;obtain⟨hn,ds,es,eo,q⟩:=q;obtain⟨F2,x2,s2,d2⟩:=o.frozen x hn;rw[eo]at d2;simp only[DenL]at d2;obtain⟨v1,r1,rfl,d1,v2,r2,rfl,d3,rfl⟩:=d2;simp only[Den]at d1 d3;obtain⟨a,xs,rfl,a1,a2⟩:=d1;obtain⟨b,ys,rfl,b1,b2⟩:=d3;have sq:∀ {c:Addr} {zs:List V} {H2:Hp},Keep F2 H' H2->((F2 c/\Rd H' c (.lst zs))\/KX X.K c zs)->SqL X.K H2 c zs:=λkp h=>h.elim (λh=>.inl (kp.rd trivial h.1 h.2)) KX.sq;refine⟨a,b,rfl,⟨xs,sq (.of (Same.refl _)) a1⟩,⟨ys,sq (.of (Same.refl _)) b1⟩,q _ F2 H' x2 λH2 hH i=>?_⟩;have kp:Keep F2 H' H2:=hH.elim (λz=>.of z) (λz=>.mk' z.2);have g1:=sq kp a1;have g2:=sq kp b1;have m1:=DenL.mono kp (λ_ h=>h) _ _ a2;have m2:=DenL.mono kp (λ_ h=>h) _ _ b2;have l1:=m1.length;have l2:=m2.length;refine⟨λd hd=>?_,λhi=>⟨xs,ys,g1,g2,by rw[zfv]at hi;lia⟩⟩;obtain⟨u,w,hu,hw,rfl⟩:=zfu hd;obtain⟨v,q1,q2⟩:=m1.get hu;obtain⟨v',q3,q4⟩:=m2.get hw;refine⟨⟨xs,ys,v,v',g1,q1,g2,q3⟩,λy H3 q121q=>?_⟩;obtain⟨pp,c1,c2,ey,hnp,gy,gy2,e3⟩:=q121q;subst ey e3;have e1:=gy xs g1;rw[q1]at e1;cases e1;have e2:=gy2 ys g2;rw[q3]at e2;cases e2;have sm:Same H2 (upd H2 pp (.tup [v,v'])):=λb o hb=>by rw[zaj (zaD hb hnp)];exact hb
  refine⟨sm,?_⟩;simp only[Den];exact⟨pp,_,rfl,zal,DenL.cons (Den.mono (.of sm) (λ_ h=>h) _ _ q2) (DenL.cons (Den.mono (.of sm) (λ_ h=>h) _ _ q4) DenL.nil)⟩
end
end PL
namespace JZ
open PySem
section
variable {prog:Program}{w:World}{A:Around}{E:Value->Shared->Prop}{s:Shared}
theorem zdU {it t:Addr}{i:Nat}{items:Array Value}{x:Value}{Q:Value->Shared->Prop}(hit:s.heap.IsTupleIter it t i)(ht:s.heap.IsTuple t items)(hx:items[i]? = some x)(hQ:∀h',h'.IsTupleIter it t (i+1)->Ym it s.heap h'->Q x { s with heap:=h' }) :
  wpAny (model prog w) A (Builtin.SmallTypes.nextOf (.ref it)) Q E s:=by
 obtain⟨o,ho,hc,hd⟩:=id hit;obtain⟨ol,hol,_,nl,hdl⟩:=ht;unfold Builtin.SmallTypes.nextOf;refine wpAny_bind (wpAny_callSpecial?_slot (name:=Str.ofString "__next__") hit.typeIs F.slot_tuple_iterator_next (wpAny_call_entry F.slot_tuple_iterator_next hit.typeIs F.entry_tuple_iterator_next ?_ (F.args_tuple_iterator_next_1 _)));show wpAny _ _ (field (.ref it) 0 >>= _) _ _ s;refine wpAny_bind (wpAny_field ho hd (x:=.ref t) rfl ?_);show wpAny _ _ (if (Value.ref t == Value.none)=true then _ else _) _ _ s
 rw[if_neg (show ¬ ((Value.ref t == Value.none)=true) from Xs)];show wpAny _ _ (field (.ref it) 1 >>= _) _ _ s;refine wpAny_bind (wpAny_field ho hd (x:=.int i 0) rfl ?_);show wpAny _ _ (seqItems? (.ref t) >>= _) _ _ s;refine wpAny_bind (wpAny_seqItems hol hdl ?_);simp only[Int.toNat_natCast,hx];refine wpAny_bind (wpAny_setField ho hd (by simp) (wpAny_pure ⟨x,rfl,wpAny_pure (hQ _ ⟨_,Heap.get?_update_self _ ho (Obj.isFreed_of_fields (Obj.data_mapFields hd _)),(Obj.cls_mapFields ..).trans hc,?_⟩ (Ym.update ..))⟩));rw[Obj.data_mapFields hd];simp[rawInt]
noncomputable abbrev zA (h:Heap)(a:Addr):Heap:=h.push { cls:=.type "list_iterator",data:=.fields #[.ref a,.int 0 0] }
noncomputable abbrev zB (h:Heap)(a b:Addr):Heap:=(zA h a).push { cls:=.type "tuple_iterator",data:=.fields #[.ref b,.int 0 0] }
noncomputable abbrev zC (h:Heap)(a b:Addr):Heap:=(zB h a b).push { cls:=.type "tuple",data:=.seq #[.ref h.objs.size,.ref (zA h a).objs.size] }
noncomputable abbrev zD (h:Heap)(a b:Addr):Heap:=(zC h a b).push { cls:=.type "tuple",data:=.seq #[.none,.none] }
noncomputable abbrev zE (h:Heap)(a b:Addr):Heap:=(zD h a b).push { cls:=.type "zip",data:=.fields #[.none,.bool false,.bool false,.ref (zB h a b).objs.size,.ref (zC h a b).objs.size] }
end
end JZ
namespace JZ2
open PySem
section
variable {prog:Program}{w:World}{A:Around}{E:Value->Shared->Prop}{s:Shared}
theorem zeE {it l:Addr}{i:Nat}{items:Array Value}{Q:Value->Shared->Prop}(hh:A.handled=none)
  (hit:s.heap.IsTupleIter it l i) (hl:s.heap.IsTuple l items) (hx:items[i]? = none)
  (hE:∀h' e,Heap.ExtBut it s.heap h'->(∃o,h'.get? e=some o/\o.cls=.type "StopIteration")->E (.ref e) { s with heap:=h' }) :
  wpAny (model prog w) A (Builtin.SmallTypes.nextOf (.ref it)) Q E s:=by
 obtain⟨o,ho,hc,hd⟩:=id hit;obtain⟨ol,hol,_,nl,hdl⟩:=hl;unfold Builtin.SmallTypes.nextOf;refine wpAny_bind (wpAny_callSpecial?_slot (name:=Str.ofString "__next__") hit.typeIs F.slot_tuple_iterator_next
  (wpAny_call_entry F.slot_tuple_iterator_next hit.typeIs F.entry_tuple_iterator_next ?_ (F.args_tuple_iterator_next_1 _)))
 show wpAny _ _ (field (.ref it) 0 >>= _) _ _ s;refine wpAny_bind (wpAny_field ho hd (x:=.ref l) rfl ?_);show wpAny _ _ (if (Value.ref l == Value.none)=true then _ else _) _ _ s
 rw[if_neg (show ¬ ((Value.ref l == Value.none)=true) from Xs)];show wpAny _ _ (field (.ref it) 1 >>= _) _ _ s;refine wpAny_bind (wpAny_field ho hd (x:=.int i 0) rfl ?_);show wpAny _ _ (seqItems? (.ref l) >>= _) _ _ s;refine wpAny_bind (wpAny_seqItems hol hdl ?_);simp only[Int.toNat_natCast,hx];refine wpAny_bind (wpAny_rule (wpAny_bind (wpAny_setField ho hd (by simp) ?_)));show wpAny _ _ (newExc (.type "StopIteration") [] >>= _) _ _ _;refine wpAny_bind ?_;simp only[newExc,newTuple];refine wpAny_bind (wpAny_newObj_type ?_ (by size_fits));refine wpAny_bind (m:=firstArgMember _ _) (wpAny_of_eq (a:=Value.none) (by first | rfl | (simp only[firstArgMember];rfl)) ?_)
 refine wpAny_newObj_type ?_ (by size_fits);simp only[raiseNew];refine wpAny_bind (wpAny_handled ?_)
 first | rw[show A.in1.handled=none from hh] | rw[hh]
 refine wpAny_bind (wpAny_pure (wpAny_throw ?_));exact hE _ _ (((Ym.update ..).extBut.push _).push _) ⟨_,XC _ rfl,rfl⟩
theorem zon {z TI TO i1 i2 l1 l2:Addr}{k1 k2:Nat}{xs ys:Array Value}{x y a b:Value}{Q:Value->Shared->Prop}(D:ZipApart z TI TO i1 i2 l1 l2)(hz:IsZip s.heap z TI TO .none)(hTI:IsPair s.heap TI (.ref i1) (.ref i2))(hTO:IsPair s.heap TO a b)(h1:s.heap.IsTupleIter i1 l1 k1)(h2:s.heap.IsTupleIter i2 l2 k2)(hl1:s.heap.IsTuple l1 xs)(hl2:s.heap.IsTuple l2 ys)(hx:xs[k1]? = some x)(hy:ys[k2]? = some y)
  (hQ:∀h',IsZip h' z TI TO (rawInt s.heap.objs.size)->IsPair h' TO x y->h'.IsTupleIter i1 l1 (k1+1)->h'.IsTupleIter i2 l2 (k2+1)->IsPair h' s.heap.objs.size x y->h'.objs.size=s.heap.objs.size+1->(∀c o,c≠z->c≠TO->c≠i1->c≠i2->s.heap.get? c=some o->h'.get? c=some o)->Q (.ref s.heap.objs.size) { s with heap:=h' }) :
  wpAny (model prog w) A (Builtin.«zip.__next__» ⟨[.ref z],[]⟩) (λfin s'=>∃v,fin=.done (.ret v)/\Q v s') E s:=by
 show wpAny _ _ (field (.ref z) 2 >>= _) _ _ _;refine wpAny_bind (wpAny_field hz rfl (x:=.bool false) rfl ?_);show wpAny _ _ (field (.ref z) 3 >>= _) _ _ _;refine wpAny_bind (wpAny_field hz rfl (x:=.ref TI) rfl (wpAny_bind (wpAny_seqItems hTI rfl ?_)));show wpAny _ _ (Builtin.SmallTypes.ownedTupleIsFree (.ref z) >>= _) _ _ _;refine wpAny_bind ?_;unfold Builtin.SmallTypes.ownedTupleIsFree;refine wpAny_bind (wpAny_field hz rfl (x:=.none) rfl (wpAny_pure ?_));simp only[if_true];refine wpAny_bind (wpAny_rule (wpAny_bind (wpAny_field hz rfl (x:=.ref TO) rfl (wpAny_bind (wpAny_setField_rec hz (by simp) λha qa sa=>?_)))));replace qa:IsZip ha z TI TO .ellipsis:=qa;refine wpAny_bind ?_;simp only[List.zipIdx_cons,List.zipIdx_nil,List.forIn_cons,List.forIn_nil];refine wpAny_bind (wpAny_bind (wpAny_onRaise ?_));show wpAny _ _ (Builtin.SmallTypes.nextOf (.ref i1) >>= _) _ _ _;refine wpAny_bind (JZ.zdU (h1.extBut sa.extBut D.i1z) (hl1.extBut sa.extBut D.l1z) hx λhb j1 sb=>wpAny_pure ?_);have pb:IsPair hb TO a b:=sb.extBut _ _ D.TOi1 (sa.extBut _ _ D.TOz hTO);refine wpAny_bind (wpAny_seqItems pb rfl (wpAny_bind (wpAny_updateSeq_pair pb λhc pc sc=>?_)));replace pc:IsPair hc TO x b:=pc;refine wpAny_bind (wpAny_letGo (wpAny_pure (wpAny_bind (wpAny_bind (wpAny_onRaise ?_)))));show wpAny _ _ (Builtin.SmallTypes.nextOf (.ref i2) >>= _) _ _ _;refine wpAny_bind (JZ.zdU (((h2.extBut sa.extBut D.i2z).extBut sb.extBut D.i12.symm).extBut sc.extBut D.TOi2.symm) (((hl2.extBut sa.extBut D.l2z).extBut sb.extBut D.l2i1).extBut sc.extBut D.l2TO) hy λhd j2 sd=>wpAny_pure ?_);have pd:IsPair hd TO x b:=sd.extBut _ _ D.TOi2 pc;refine wpAny_bind (wpAny_seqItems pd rfl (wpAny_bind (wpAny_updateSeq_pair pd λhe pe se=>?_)));replace pe:IsPair he TO x y:=pe;refine wpAny_bind (wpAny_letGo (wpAny_pure (wpAny_pure (wpAny_bind (wpAny_seqItems pe rfl (wpAny_bind (wpAny_newTuple ?_)))))));have ez:he.objs.size=s.heap.objs.size:=by rw[se.1,sd.1,sc.1,sb.1,sa.1]
 have qe:IsZip he z TI TO .ellipsis:=se.extBut _ _ D.TOz.symm (sd.extBut _ _ D.i2z.symm (sc.extBut _ _ D.TOz.symm (sb.extBut _ _ D.i1z.symm qa)));have ke:∀c o,c≠z->c≠TO->c≠i1->c≠i2->s.heap.get? c=some o->he.get? c=some o:=λc o c1 c2 c3 c4 e=>se.extBut _ _ c2 (sd.extBut _ _ c4 (sc.extBut _ _ c2 (sb.extBut _ _ c3 (sa.extBut _ _ c1 e))));have m1:he.IsTupleIter i1 l1 (k1+1):=((j1.extBut sc.extBut D.TOi1.symm).extBut sd.extBut D.i12).extBut se.extBut D.TOi1.symm;have m2:he.IsTupleIter i2 l2 (k2+1):=j2.extBut se.extBut D.TOi2.symm;have lz:z<he.objs.size:=Xo qe;show wpAny _ _ (Builtin.SmallTypes.ownedTupleHandOut (.ref z) (.ref he.objs.size) >>= _) _ _ _;refine wpAny_bind ?_;unfold Builtin.SmallTypes.ownedTupleHandOut;have qf:IsZip (he.push { cls:=.type "tuple",data:=.seq #[x,y] }) z TI TO .ellipsis:=Xe _ qe;refine wpAny_bind (wpAny_setField_rec qf (by simp) λhg qg sg=>?_);replace qg:IsZip hg z TI TO (rawInt he.objs.size):=qg;refine wpAny_setField_rec qg (by simp) λhi qi si=>?_;replace qi:IsZip hi z TI TO (rawInt he.objs.size):=qi;have up:∀c o,c≠z->he.get? c=some o->hi.get? c=some o:=λc o c1 e=>si.extBut _ _ c1 (sg.extBut _ _ c1 (Xe _ e));have pi:IsPair hi he.objs.size x y:=si.extBut _ _ (Yd lz) (sg.extBut _ _ (Yd lz) (XC _ rfl));have zi:hi.objs.size=he.objs.size+1:=by rw[si.1,sg.1,Yy]
 rw[ez]at qi pi zi;refine wpAny_pure ⟨_,rfl,?_⟩;show Q (.ref he.objs.size) _;rw[ez];exact hQ hi qi (up _ _ D.TOz pe) (m1.at λo e=>up _ o D.i1z e) (m2.at λo e=>up _ o D.i2z e) pi zi λc o c1 c2 c3 c4 e=>up c o c1 (ke c o c1 c2 c3 c4 e)
theorem zqF {z TI TO i1 i2 l1 l2:Addr}{k1:Nat}{xs:Array Value}{Q:PySem.Fin->Shared->Prop}(hh:A.handled=none)(D:ZipApart z TI TO i1 i2 l1 l2)(hz:IsZip s.heap z TI TO .none)(hTI:IsPair s.heap TI (.ref i1) (.ref i2))(h1:s.heap.IsTupleIter i1 l1 k1)(hl1:s.heap.IsTuple l1 xs)(hx:xs[k1]? = none)
  (hE:∀h' e,(∀c o,c≠z->c≠TO->c≠i1->c≠i2->s.heap.get? c=some o->h'.get? c=some o)->(∃o,h'.get? e=some o/\o.cls=.type "StopIteration")->E (.ref e) { s with heap:=h' }) :
  wpAny (model prog w) A (Builtin.«zip.__next__» ⟨[.ref z],[]⟩) Q E s:=by
 show wpAny _ _ (field (.ref z) 2 >>= _) _ _ _;refine wpAny_bind (wpAny_field hz rfl (x:=.bool false) rfl ?_);show wpAny _ _ (field (.ref z) 3 >>= _) _ _ _;refine wpAny_bind (wpAny_field hz rfl (x:=.ref TI) rfl (wpAny_bind (wpAny_seqItems hTI rfl ?_)));show wpAny _ _ (Builtin.SmallTypes.ownedTupleIsFree (.ref z) >>= _) _ _ _;refine wpAny_bind ?_;unfold Builtin.SmallTypes.ownedTupleIsFree;refine wpAny_bind (wpAny_field hz rfl (x:=.none) rfl (wpAny_pure ?_));simp only[if_true];refine wpAny_bind (wpAny_rule (wpAny_bind (wpAny_field hz rfl (x:=.ref TO) rfl (wpAny_bind (wpAny_setField_rec hz (by simp) λha qa sa=>?_)))));replace qa:IsZip ha z TI TO .ellipsis:=qa;refine wpAny_bind ?_;simp only[List.zipIdx_cons,List.zipIdx_nil,List.forIn_cons,List.forIn_nil];refine wpAny_bind (wpAny_bind (wpAny_onRaise ?_));show wpAny _ _ (Builtin.SmallTypes.nextOf (.ref i1) >>= _) _ _ _;refine wpAny_bind (zeE hh (h1.extBut sa.extBut D.i1z) (hl1.extBut sa.extBut D.l1z) hx λhb e sb he=>?_);obtain⟨oe,hoe,hce⟩:=he;have qb:IsZip hb z TI TO .ellipsis:=sb _ _ D.i1z.symm qa;have ne:e≠z:=λy=>by subst y;rw[qb]at hoe;cases hoe;simp at hce
 refine wpAny_setField_rec qb (by simp) λhc _ sc=>hE hc e (λc o c1 _ c3 _ y=>sc.extBut _ _ c1 (sb _ _ c3 (sa.extBut _ _ c1 y))) ⟨oe,sc.extBut _ _ ne hoe,hce⟩
theorem next_item {z TI TO i1 i2 l1 l2:Addr}{k1 k2:Nat}{xs ys:Array Value}{x y a b:Value}{Q:Option Value->Shared->Prop}(D:ZipApart z TI TO i1 i2 l1 l2)(hz:IsZip s.heap z TI TO .none)(hTI:IsPair s.heap TI (.ref i1) (.ref i2))(hTO:IsPair s.heap TO a b)(h1:s.heap.IsTupleIter i1 l1 k1)(h2:s.heap.IsTupleIter i2 l2 k2)(hl1:s.heap.IsTuple l1 xs)(hl2:s.heap.IsTuple l2 ys)(hx:xs[k1]? = some x)(hy:ys[k2]? = some y)
  (hQ:∀h',IsZip h' z TI TO (rawInt s.heap.objs.size)->IsPair h' TO x y->h'.IsTupleIter i1 l1 (k1+1)->h'.IsTupleIter i2 l2 (k2+1)->IsPair h' s.heap.objs.size x y->h'.objs.size=s.heap.objs.size+1->(∀c o,c≠z->c≠TO->c≠i1->c≠i2->s.heap.get? c=some o->h'.get? c=some o)->Q (some (.ref s.heap.objs.size)) { s with heap:=h' }) :
  wpAny (model prog w) A (pyNext (.ref z)) Q E s:=by
 have hT:s.TypeIs (.ref z) "zip":=⟨_,hz,rfl⟩;unfold pyNext;exact wpAny_bind (wpAny_attempt (wpAny_callSpecial?_slot (name:=Str.ofString "__next__") hT F.slot_zip_next (wpAny_call_entry F.slot_zip_next hT F.entry_zip_next (zon D hz hTI hTO h1 h2 hl1 hl2 hx hy λh' a1 a2 a3 a4 a5 a6 a7=>wpAny_pure (hQ h' a1 a2 a3 a4 a5 a6 a7)) (F.args_zip_next_1 _))))
theorem next_end {z TI TO i1 i2 l1 l2:Addr}{k1:Nat}{xs:Array Value}{Q:Option Value->Shared->Prop}(hh:A.handled=none)(D:ZipApart z TI TO i1 i2 l1 l2)(hz:IsZip s.heap z TI TO .none)(hTI:IsPair s.heap TI (.ref i1) (.ref i2))(h1:s.heap.IsTupleIter i1 l1 k1)(hl1:s.heap.IsTuple l1 xs)(hx:xs[k1]? = none)
  (hQ:∀h',(∀c o,c≠z->c≠TO->c≠i1->c≠i2->s.heap.get? c=some o->h'.get? c=some o)->Q none { s with heap:=h' }):wpAny (model prog w) A (pyNext (.ref z)) Q E s:=by
 have hT:s.TypeIs (.ref z) "zip":=⟨_,hz,rfl⟩;unfold pyNext;refine wpAny_bind (wpAny_attempt (wpAny_callSpecial?_slot (name:=Str.ofString "__next__") hT F.slot_zip_next (wpAny_call_entry F.slot_zip_next hT F.entry_zip_next (zqF hh D hz hTI h1 hl1 hx λh' e hk he=>?_) (F.args_zip_next_1 _))));obtain⟨o,ho,hc⟩:=he;exact wpAny_bind (wpAny_isInstance (T:="StopIteration") (b:=true) ⟨o,ho,hc⟩ isSubtype_stop (wpAny_pure (hQ _ hk)))
noncomputable abbrev zA (h:Heap)(a:Addr):Heap:=h.push { cls:=.type "tuple_iterator",data:=.fields #[.ref a,.int 0 0] }
noncomputable abbrev zB (h:Heap)(a b:Addr):Heap:=(zA h a).push { cls:=.type "tuple_iterator",data:=.fields #[.ref b,.int 0 0] }
noncomputable abbrev zC (h:Heap)(a b:Addr):Heap:=(zB h a b).push { cls:=.type "tuple",data:=.seq #[.ref h.objs.size,.ref (zA h a).objs.size] }
noncomputable abbrev zD (h:Heap)(a b:Addr):Heap:=(zC h a b).push { cls:=.type "tuple",data:=.seq #[.none,.none] }
noncomputable abbrev zE (h:Heap)(a b:Addr):Heap:=(zD h a b).push { cls:=.type "zip",data:=.fields #[.none,.bool false,.bool false,.ref (zB h a b).objs.size,.ref (zC h a b).objs.size] }
theorem zmz (a b:Addr)(xs ys:Array Value):Meets (Builtin.«zip.__new__» ⟨[.type "zip",.ref a,.ref b],[]⟩) (λ_ R s=>s.heap.IsTuple a xs/\s.heap.IsTuple b ys/\R (.ok (.ret (.ref (zD s.heap a b).objs.size))) { s with heap:=zE s.heap a b }):=
 .of_wp λprog w A R s h=>by
  obtain⟨hp,g,d,tk,os⟩:=s;obtain⟨hl1,hl2,h⟩:=h;have hsub:=sub_zip;have hL1:Heap.IsTuple (Shared.heap ⟨hp,g,d,tk,os⟩) a xs:=hl1;have hL2:Heap.IsTuple (Shared.heap ⟨hp.push { cls:=.type "tuple_iterator",data:=.fields #[.ref a,.int 0 0] },g,d,tk,os⟩) b ys:=Heap.IsTuple.push hl2 _
  wp_walk using wpAny_pyIter_tuple hL1,wpAny_pyIter_tuple hL2
  exact⟨_,rfl,h⟩
theorem zjP {a b:Addr}{xs ys:Array Value}{Q:Value->Shared->Prop}(hl1:s.heap.IsTuple a xs)(hl2:s.heap.IsTuple b ys)
  (h:∀h',IsZip h' (s.heap.objs.size+4) (s.heap.objs.size+2) (s.heap.objs.size+3) .none->IsPair h' (s.heap.objs.size+2) (.ref s.heap.objs.size) (.ref (s.heap.objs.size+1))->IsPair h' (s.heap.objs.size+3) .none .none->h'.IsTupleIter s.heap.objs.size a 0->h'.IsTupleIter (s.heap.objs.size+1) b 0->(∀c o,s.heap.get? c=some o->h'.get? c=some o)->Q (.ref (s.heap.objs.size+4)) { s with heap:=h' }) :
  wpAny (model prog w) A (call (.type "zip") [.ref a,.ref b]) Q E s:=by
 refine callType_new F.called_zip (by decide) (F.typeCall_zip_2 _ _) (F.newCall_zip_2 _ _) (λobj=>F.args_object_init_3 obj _ _) F.entry_zip_new (zmz a b xs ys) ⟨hl1,hl2,?_⟩;have z1:(zA s.heap a).objs.size=s.heap.objs.size+1:=Yy ..;have z2:(zB s.heap a b).objs.size=s.heap.objs.size+2:=by rw[Yy,z1]
 have z3:(zC s.heap a b).objs.size=s.heap.objs.size+3:=by rw[Yy,z2]
 have z4:(zD s.heap a b).objs.size=s.heap.objs.size+4:=by rw[Yy,z3]
 have g5:(zE s.heap a b).get? (zD s.heap a b).objs.size=some _:=XC _ rfl;have g4:(zE s.heap a b).get? (zC s.heap a b).objs.size=some _:=Xe _ (XC _ rfl);have g3:(zE s.heap a b).get? (zB s.heap a b).objs.size=some _:=Xe _ (Xe _ (XC _ rfl));have g2:(zE s.heap a b).get? (zA s.heap a).objs.size=some _:=Xe _ (Xe _ (Xe _ (XC _ rfl)));have g1:(zE s.heap a b).get? s.heap.objs.size=some _:=Xe _ (Xe _ (Xe _ (Xe _ (XC _ rfl))));show _/\_;rw[z2,z3,z4]at g5;rw[z1,z2]at g3;rw[z3]at g4;rw[z1]at g2;rw[z4];exact⟨⟨_,g5,rfl⟩,h _ g5 g3 g4 ⟨_,g1,rfl,rfl⟩ ⟨_,g2,rfl,rfl⟩ λc o y=>Xe _ (Xe _ (Xe _ (Xe _ (Xe _ y))))⟩
noncomputable abbrev ZipK (h:Heap)(z TI TO:Addr)(a:Addr)(b:Bool):Prop:=
 h.get? z=some { cls:=.type "zip",dict:=none,data:=.fields #[rawInt a,.bool b,.bool false,.ref TI,.ref TO],slots:=#[] }
theorem zhX {z TI TO c:Addr}{oc:Obj}{bb:Bool}(hz:ZipK s.heap z TI TO c bb)(hc:s.heap.get? c=some oc):wpAny (model prog w) A (Builtin.SmallTypes.ownedTupleIsFree (.ref z)) (λb s'=>b=false/\∃h',s'={ s with heap:=h' }/\ZipK h' z TI TO c true/\Ym z s.heap h') E s:=by
 unfold Builtin.SmallTypes.ownedTupleIsFree;refine wpAny_bind (wpAny_field hz rfl (x:=rawInt c) rfl ?_);show wpAny _ _ (loadIfAlive ((c:Int).toNat) >>= _) _ _ _;refine wpAny_bind (zdj (o:=oc) (by simpa using hc) ?_);show wpAny _ _ (field (.ref z) 1 >>= _) _ _ _;refine wpAny_bind (wpAny_field hz rfl (x:=.bool bb) rfl ?_);cases bb with
 | false=>
  show wpAny _ _ (setField (.ref z) 1 (.bool true) >>= _) _ _ _;refine wpAny_bind (wpAny_setField_rec hz (by simp) λh₅ he₅ hs₅=>?_);exact wpAny_pure ⟨rfl,h₅,rfl,he₅,hs₅⟩
 | true=>exact wpAny_pure ⟨rfl,s.heap,rfl,hz,⟨rfl,λ_ _=>rfl⟩⟩
theorem zmA {z TI TO i1 i2 l1 l2 c:Addr}{oc:Obj}{bb:Bool}{k1 k2:Nat}{xs ys:Array Value}{x y:Value}{Q:Value->Shared->Prop}(D:ZipApart z TI TO i1 i2 l1 l2)(hz:ZipK s.heap z TI TO c bb)(hc:s.heap.get? c=some oc)(hTI:IsPair s.heap TI (.ref i1) (.ref i2))(h1:s.heap.IsTupleIter i1 l1 k1)(h2:s.heap.IsTupleIter i2 l2 k2)(hl1:s.heap.IsTuple l1 xs)(hl2:s.heap.IsTuple l2 ys)(hx:xs[k1]? = some x)(hy:ys[k2]? = some y)
  (hQ:∀h',ZipK h' z TI TO c true->h'.IsTupleIter i1 l1 (k1+1)->h'.IsTupleIter i2 l2 (k2+1)->IsPair h' s.heap.objs.size x y->h'.objs.size=s.heap.objs.size+1->(∀c o,c≠z->c≠i1->c≠i2->s.heap.get? c=some o->h'.get? c=some o)->Q (.ref s.heap.objs.size) { s with heap:=h' }) :
  wpAny (model prog w) A (Builtin.«zip.__next__» ⟨[.ref z],[]⟩) (λfin s'=>∃v,fin=.done (.ret v)/\Q v s') E s:=by
 show wpAny _ _ (field (.ref z) 2 >>= _) _ _ _;refine wpAny_bind (wpAny_field hz rfl (x:=.bool false) rfl ?_);show wpAny _ _ (field (.ref z) 3 >>= _) _ _ _;refine wpAny_bind (wpAny_field hz rfl (x:=.ref TI) rfl (wpAny_bind (wpAny_seqItems hTI rfl ?_)));show wpAny _ _ (Builtin.SmallTypes.ownedTupleIsFree (.ref z) >>= _) _ _ _;refine wpAny_bind (wpAny_mono (zhX hz hc) ?_ (λ_ _ e=>e));rintro _ _ ⟨rfl,ha,rfl,qa,sa⟩;simp only[Bool.false_eq_true,if_false];rw[<- Array.forIn_toList];refine wpAny_bind ?_;simp only[List.forIn_cons,List.forIn_nil];refine wpAny_bind (wpAny_bind (wpAny_holding ?_));show wpAny _ _ (Builtin.SmallTypes.nextOf (.ref i1) >>= _) _ _ _;refine wpAny_bind (JZ.zdU (h1.extBut sa.extBut D.i1z) (hl1.extBut sa.extBut D.l1z) hx λhb j1 sb=>wpAny_pure (wpAny_pure ?_));refine wpAny_bind (wpAny_bind (wpAny_holding ?_));show wpAny _ _ (Builtin.SmallTypes.nextOf (.ref i2) >>= _) _ _ _;refine wpAny_bind (JZ.zdU ((h2.extBut sa.extBut D.i2z).extBut sb.extBut D.i12.symm) ((hl2.extBut sa.extBut D.l2z).extBut sb.extBut D.l2i1) hy λhd j2 sd=>wpAny_pure (wpAny_pure (wpAny_pure ?_)));show wpAny _ _ (newTuple [x,y] >>= _) _ _ _;refine wpAny_bind (wpAny_newTuple (wpAny_pure ⟨_,rfl,?_⟩));have e1:hd.objs.size=s.heap.objs.size:=by rw[sd.1,sb.1,sa.1]
 have up:∀o:Obj,∀c,hd.get? c=some o->(hd.push { cls:=.type "tuple",data:=.seq #[x,y] }).get? c=some o:=λo c e=>Xe _ e;show Q (.ref hd.objs.size) _;have gt:IsPair (hd.push { cls:=.type "tuple",data:=.seq #[x,y] }) hd.objs.size x y:=XC _ rfl;have gz:(hd.push { cls:=.type "tuple",data:=.seq #[x,y] }).objs.size=hd.objs.size+1:=Yy ..;rw[e1]at gt gz ⊢;exact hQ _ (up _ _ (sd.extBut _ _ D.i2z.symm (sb.extBut _ _ D.i1z.symm qa))) ((j1.extBut sd.extBut D.i12).at λo e=>up o _ e) (j2.at λo e=>up o _ e) gt gz λc o c1 c2 c3 e=>up o c (sd.extBut _ _ c3 (sb.extBut _ _ c2 (sa.extBut _ _ c1 e)))
theorem zoo {z TI TO i1 i2 l1 l2 c:Addr}{oc:Obj}{bb:Bool}{k1:Nat}{xs:Array Value}{Q:PySem.Fin->Shared->Prop}(hh:A.handled=none)(D:ZipApart z TI TO i1 i2 l1 l2)(hz:ZipK s.heap z TI TO c bb)(hc:s.heap.get? c=some oc)(hTI:IsPair s.heap TI (.ref i1) (.ref i2))(h1:s.heap.IsTupleIter i1 l1 k1)(hl1:s.heap.IsTuple l1 xs)(hx:xs[k1]? = none)
  (hE:∀h' e,(∀c o,c≠z->c≠i1->s.heap.get? c=some o->h'.get? c=some o)->(∃o,h'.get? e=some o/\o.cls=.type "StopIteration")->E (.ref e) { s with heap:=h' }) :
  wpAny (model prog w) A (Builtin.«zip.__next__» ⟨[.ref z],[]⟩) Q E s:=by
 show wpAny _ _ (field (.ref z) 2 >>= _) _ _ _;refine wpAny_bind (wpAny_field hz rfl (x:=.bool false) rfl ?_);show wpAny _ _ (field (.ref z) 3 >>= _) _ _ _;refine wpAny_bind (wpAny_field hz rfl (x:=.ref TI) rfl (wpAny_bind (wpAny_seqItems hTI rfl ?_)));show wpAny _ _ (Builtin.SmallTypes.ownedTupleIsFree (.ref z) >>= _) _ _ _;refine wpAny_bind (wpAny_mono (zhX hz hc) ?_ (λ_ _ e=>e));rintro _ _ ⟨rfl,ha,rfl,qa,sa⟩;simp only[Bool.false_eq_true,if_false];rw[<- Array.forIn_toList];refine wpAny_bind ?_;simp only[List.forIn_cons,List.forIn_nil];refine wpAny_bind (wpAny_bind (wpAny_holding ?_));show wpAny _ _ (Builtin.SmallTypes.nextOf (.ref i1) >>= _) _ _ _;refine wpAny_bind (zeE hh (h1.extBut sa.extBut D.i1z) (hl1.extBut sa.extBut D.l1z) hx λhb e sb he=>?_);exact hE hb e (λc o c1 c3 y=>sb _ _ c3 (sa.extBut _ _ c1 y)) he
noncomputable def ZAt (h:Heap)(z TI TO i1 i2:Addr):Prop:=(IsZip h z TI TO .none/\∃a b,IsPair h TO a b)\/∃a b oa,ZipK h z TI TO a b/\h.get? a=some oa/\a≠z/\a≠i1/\a≠i2
theorem zop {z TI TO i1 i2 l1 l2:Addr}{k1 k2:Nat}{xs ys:Array Value}{x y:Value}{Q:Option Value->Shared->Prop}(D:ZipApart z TI TO i1 i2 l1 l2)(hz:ZAt s.heap z TI TO i1 i2)(hTI:IsPair s.heap TI (.ref i1) (.ref i2))(h1:s.heap.IsTupleIter i1 l1 k1)(h2:s.heap.IsTupleIter i2 l2 k2)(hl1:s.heap.IsTuple l1 xs)(hl2:s.heap.IsTuple l2 ys)(hx:xs[k1]? = some x)(hy:ys[k2]? = some y)
  (hQ:∀h',ZAt h' z TI TO i1 i2->h'.IsTupleIter i1 l1 (k1+1)->h'.IsTupleIter i2 l2 (k2+1)->IsPair h' s.heap.objs.size x y->h'.objs.size=s.heap.objs.size+1->(∀c o,c≠z->c≠TO->c≠i1->c≠i2->s.heap.get? c=some o->h'.get? c=some o)->Q (some (.ref s.heap.objs.size)) { s with heap:=h' }) :
  wpAny (model prog w) A (pyNext (.ref z)) Q E s:=by
 have hi1:i1<s.heap.objs.size:=by obtain⟨_,x,_⟩:=h1;exact Xo x
 have hi2:i2<s.heap.objs.size:=by obtain⟨_,x,_⟩:=h2;exact Xo x
 rcases hz with ⟨hz,a,b,hTO⟩ | ⟨a,b,oa,hz,ha,n1,n2,n3⟩
 ·have lz:z<s.heap.objs.size:=Xo hz;refine next_item D hz hTI hTO h1 h2 hl1 hl2 hx hy λh' g1 g2 g3 g4 g5 g6 g7=>hQ h' (.inr ⟨_,false,_,g1,g5,Yd lz,Yd hi1,Yd hi2⟩) g3 g4 g5 g6 g7
 ·have hT:s.TypeIs (.ref z) "zip":=⟨_,hz,rfl⟩;unfold pyNext;refine wpAny_bind (wpAny_attempt (wpAny_callSpecial?_slot (name:=Str.ofString "__next__") hT F.slot_zip_next (wpAny_call_entry F.slot_zip_next hT F.entry_zip_next (zmA D hz ha hTI h1 h2 hl1 hl2 hx hy λh' g1 g3 g4 g5 g6 g7=>wpAny_pure ?_) (F.args_zip_next_1 _))));exact hQ h' (.inr ⟨a,true,oa,g1,g7 a oa n1 n2 n3 ha,n1,n2,n3⟩) g3 g4 g5 g6 λc o c1 c2 c3 c4 e=>g7 c o c1 c3 c4 e
theorem zqG {z TI TO i1 i2 l1 l2:Addr}{k1:Nat}{xs:Array Value}{Q:Option Value->Shared->Prop}(hh:A.handled=none)(D:ZipApart z TI TO i1 i2 l1 l2)(hz:ZAt s.heap z TI TO i1 i2)(hTI:IsPair s.heap TI (.ref i1) (.ref i2))(h1:s.heap.IsTupleIter i1 l1 k1)(hl1:s.heap.IsTuple l1 xs)(hx:xs[k1]? = none)
  (hQ:∀h',(∀c o,c≠z->c≠TO->c≠i1->c≠i2->s.heap.get? c=some o->h'.get? c=some o)->Q none { s with heap:=h' }):wpAny (model prog w) A (pyNext (.ref z)) Q E s:=by
 rcases hz with ⟨hz,a,b,hTO⟩ | ⟨a,b,oa,hz,ha,n1,n2,n3⟩
 ·exact next_end hh D hz hTI h1 hl1 hx hQ
 ·have hT:s.TypeIs (.ref z) "zip":=⟨_,hz,rfl⟩;unfold pyNext;refine wpAny_bind (wpAny_attempt (wpAny_callSpecial?_slot (name:=Str.ofString "__next__") hT F.slot_zip_next (wpAny_call_entry F.slot_zip_next hT F.entry_zip_next (zoo hh D hz ha hTI h1 hl1 hx λh' e hk he=>?_) (F.args_zip_next_1 _))));obtain⟨o,ho,hc⟩:=he;exact wpAny_bind (wpAny_isInstance (T:="StopIteration") (b:=true) ⟨o,ho,hc⟩ isSubtype_stop (wpAny_pure (hQ _ λc o c1 c2 c3 c4 e=>hk c o c1 c3 e)))
end
theorem zel:typeLookup (.type "zip") "__getattr__" = pure none:=by rw[typeLookup_type,builtinLookup_eq_fast];kernel_rfl
theorem zfo:typeLookup (.type "zip") (Str.ofString "keys")=pure none:=by rw[typeLookup_type,builtinLookup_eq_fast];kernel_rfl
theorem zcL:entryFor table "zip.__getattribute__" = some Builtin.«object.__getattribute__»:=
 entryFor_alias (id':="object.__getattribute__") (by kernel_rfl) (by decide +kernel) (by decide +kernel) (by kernel_rfl)
theorem zkR (a:Addr)(xs:Array Value)(sl:Array (Option Value))(name:Str)(u:Tok)(hmiss:typeLookup (.type "zip") name=pure none) (hname:(["__module__","__name__","__qualname__","__doc__","__annotations__"]:List Str).contains name=false) (hsz:name.length+100<=sizeLine:=by size_fits) :
  Meets (Builtin.«object.__getattribute__» ⟨[.ref a,.str name u],[]⟩) (λA R s=>s.heap.get? a=some { cls:=.type "zip",dict:=none,data:=.fields xs,slots:=sl }/\raisesAttr (.ref a) name A R s):=
 Meets.of_wp λprog w A R s hs=>by
  obtain⟨hp,g,d,tk,os⟩:=s;obtain⟨hx,hs⟩:=hs;have hT:(⟨hp,g,d,tk,os⟩:Shared).TypeIs (.ref a) "zip":=⟨_,hx,rfl⟩;unfold Builtin.«object.__getattribute__»
  repeat (any_goals (first | assumption | wp_step))
  simp only[hname,Bool.false_eq_true,if_false]
  repeat (any_goals (first | assumption | wp_step))
  exact wpAny_raiseAttrError hs.1 hs.2 (attrMsg_fits (by decide +kernel) hsz)
theorem zmB {prog:Program}{w:World}{A:Around}{E:Value->Shared->Prop}{s:Shared}{a:Addr}{xs:Array Value}{sl:Array (Option Value)}{Q:Option Value->Shared->Prop}
  (hx:s.heap.get? a=some { cls:=.type "zip",dict:=none,data:=.fields xs,slots:=sl }) (hA:A.handled=none)
  (h:∀h' tk,(∀b o,s.heap.get? b=some o->h'.get? b=some o)->Q none { s with heap:=h',toks:=tk }) :
  wpAny (model prog w) A (getAttr? (.ref a) "keys") Q E s:=by
 obtain⟨hp,g,d,tk,os⟩:=s;have hT:∀tk',(⟨hp,g,d,tk',os⟩:Shared).TypeIs (.ref a) "zip":=λ_=>⟨_,hx,rfl⟩;have f1:=sub_AttributeError;have f3:=F.slot_zip_getattribute.lookup;have f4:=F.slot_zip_getattribute.bind (.ref a);have f5:=zel;unfold getAttr? getAttrBy? getAttrBy
 repeat (any_goals (first | assumption | exact hT _ | ((with_reducible show wpAny _ _ (call (Value.builtin "zip.__getattribute__") _ _) _ _ _);refine call_meets F.slot_zip_getattribute (hT _) zcL (F.args_zip_getattribute_2 _ _) (zkR a xs sl _ _ zfo (by decide +kernel) (by decide +kernel)) ⟨hx,hA,λh' tk' e hx'=>?_⟩) | wp_step))
 obtain⟨t',u',he⟩:=hx'.there;show wpAny _ _ (getattributeRaised _ _ _ _ _ _ _) _ _ _;unfold getattributeRaised
 repeat (any_goals (first | assumption | wp_step))
 exact h h' tk' hx'.keeps
section
variable {prog:Program}{w:World}{A:Around}{E:Value->Shared->Prop}{K:Type} [DecidableEq K] {knd:KeyKind prog w K}
theorem zmC {R:Result->Shared->Prop}(hh:A.handled=none)(d z TI TO i1 i2 l1 l2:Addr)(D:ZipApart z TI TO i1 i2 l1 l2)(xs ys:Array Value)(ks:List K)(hkl:ks.length=xs.size)(hkey:∀(i:Nat)(k:K)(x:Value),ks[i]? = some k->xs[i]? = some x->knd.is k x=true)(nd:ks.Nodup)(hlen:xs.size=ys.size)
  (hdz:d≠z) (hdTI:d≠TI) (hdTO:d≠TO) (hd1:d≠i1) (hd2:d≠i2) (hdl1:d≠l1) (hdl2:d≠l2) (hz:xs.size<=sizeLine) :
  ∀(k i:Nat) (s:Shared) (tn:Tok),xs.size-i=k->i<=xs.size->ZAt s.heap z TI TO i1 i2->IsPair s.heap TI (.ref i1) (.ref i2)->s.heap.IsTupleIter i1 l1 i->s.heap.IsTupleIter i2 l2 i->s.heap.IsTuple l1 xs->s.heap.IsTuple l2 ys->
   s.heap.DictOf knd d ((ks.zip ys.toList).take i)->
   (∀s',s'.heap.DictOf knd d (ks.zip ys.toList)->(∀b o,b≠d->b≠z->b≠TO->b≠i1->b≠i2->s.heap.get? b=some o->s'.heap.get? b=some o)->(∃h' tk,s'={ s with heap:=h',toks:=tk })->R (.ok (.ret .none)) s')->
   codeAny (model prog w) A (.builtin "dict.update.loop" ⟨[.ref d,.ref z,.int i tn,.none],[]⟩) R s:=by
 have hzl:(ks.zip ys.toList).length=xs.size:=by rw[Ys,hkl,Array.length_toList,<- hlen,Nat.min_self]
 intro k;induction k with
 | zero=>
  intro i s tn hk hi he hTI h1 h2 hl1 hl2 hD hR;have hin:i=xs.size:=by lia
  subst hin;refine codeAny_builtin F.zbV ?_;rw[Around.under_plainId F.zaK _];show wpAny _ A.in1 (pyNext (.ref z) >>= _) _ _ s;refine wpAny_bind (zqG (A:=A.in1) hh D he hTI h1 hl1 (by simp) λh' hx=>?_);show wpAny _ A.in1 (Builtin.Dict.addKeywords d [] >>= _) _ _ _;refine wpAny_bind (wpAny_pure ?_);refine wpAny_pure (hR _ ?_ (λb o _ c1 c2 c3 c4 e=>hx b o c1 c2 c3 c4 e) ⟨h',s.toks,rfl⟩);rw[Xv (by lia)]at hD;obtain⟨o,es,ep,ho,rest⟩:=hD;exact⟨o,es,ep,hx _ _ hdz hdTO hd1 hd2 ho,rest⟩
 | succ k ih=>
  intro i s tn hk hi he hTI h1 h2 hl1 hl2 hD hR;have hlt:i<xs.size:=by lia
  have hly:i<ys.size:=by lia
  have hlk:i<ks.length:=by lia
  refine codeAny_builtin F.zbV ?_;rw[Around.under_plainId F.zaK _];show wpAny _ A.in1 (pyNext (.ref z) >>= _) _ _ s;refine wpAny_bind (zop D he hTI h1 h2 hl1 hl2 (Array.getElem?_eq_getElem hlt) (Array.getElem?_eq_getElem hly) λh' he' h1' h2' hT hsz hk'=>?_);show wpAny _ A.in1 (holding [Value.ref s.heap.objs.size] _ >>= _) _ _ _;refine wpAny_bind (wpAny_holding ?_);refine wpAny_bind (wpAny_tryCatch ?_);unfold Builtin.Dict.pairItems;refine wpAny_bind (wpAny_typeOf (T:="tuple") ⟨_,hT,rfl⟩ ?_);simp only[show(Value.type "tuple" == Value.type "list")=false from by decide,show(Value.type "tuple" == Value.type "tuple")=true from by decide,Bool.false_or,if_true];refine wpAny_bind (wpAny_seqItems hT rfl (wpAny_pure ?_));show wpAny _ A.in1 (holding [xs[i],ys[i]] (dictSet d xs[i] ys[i])) _ _ _;have hD':h'.DictOf knd d ((ks.zip ys.toList).take i):=by
   obtain⟨o,es,ep,ho,rest⟩:=hD;exact⟨o,es,ep,hk' _ _ hdz hdTO hd1 hd2 ho,rest⟩
  refine wpAny_holding (wpAny_dictSet_pairs (knd:=knd) (k:=ks[i]) (hkey i _ _ (Xd hlk) (Array.getElem?_eq_getElem hlt)) (s:={ s with heap:=h' }) hD' (λh'' hD2 hs=>?_) (by rw[Ya];lia));refine wpAny_pure ⟨plainId_quiet F.zaK _,?_⟩;have hnew:stored ((ks.zip ys.toList).take i) ks[i] ys[i]=(ks.zip ys.toList).take (i+1):=by
   have hno:¬ (((ks.zip ys.toList).take i).any λkv=>decide (kv.1=ks[i]))=true:=by
    intro h;rw[List.any_eq_true]at h;obtain⟨kv,hm,hv⟩:=h;have hv':kv.1=ks[i]:=of_decide_eq_true hv;obtain⟨j,hj,e⟩:=List.mem_take_iff_getElem.mp hm;rw[List.getElem_zip]at e;have e1:ks[j]'(by lia)=ks[i]:=by rw[<- hv',<- e]
    have:=(List.getElem?_inj (j:=j) hlk nd).mp (by rw[Xd hlk,Xd (show j<ks.length by lia),e1]);lia
   unfold stored;rw[if_neg hno,List.take_succ,Xd (by lia),List.getElem_zip];simp
  rw[hnew]at hD2;have hkeep:∀b o,b≠d->h'.get? b=some o->h''.get? b=some o:=λb o hb x=>(hs.2 b hb).trans x;refine ih (i+1) _ _ (by lia) hlt ?_ (hkeep _ _ hdTI.symm (hk' TI _ D.TIz D.TITO D.TIi1 D.TIi2 hTI)) (h1'.at λo x=>hkeep _ _ hd1.symm x) (h2'.at λo x=>hkeep _ _ hd2.symm x) ((hl1.at λo x=>hkeep _ _ hdl1.symm (hk' l1 o D.l1z D.l1TO D.l1i1 D.l1i2 x))) ((hl2.at λo x=>hkeep _ _ hdl2.symm (hk' l2 o D.l2z D.l2TO D.l2i1 D.l2i2 x))) hD2 λs' hD3 hk3 e3=>hR s' hD3 (λb o b1 b2 b3 b4 b5 x=>hk3 b o b1 b2 b3 b4 b5 (hkeep b o b1 (hk' b o b2 b3 b4 b5 x))) e3;rcases he' with ⟨he',a,b,hp⟩ | ⟨a,b,oa,he',ha,n1,n2,n3⟩
  ·exact .inl ⟨hkeep _ _ hdz.symm he',a,b,hkeep _ _ hdTO.symm hp⟩
  ·by_cases had:a=d
   ·subst had;obtain⟨o,es,ep,ho,rest⟩:=hD2;exact .inr ⟨a,b,o,hkeep _ _ hdz.symm he',ho,n1,n2,n3⟩
   ·exact .inr ⟨a,b,oa,hkeep _ _ hdz.symm he',hkeep _ _ had ha,n1,n2,n3⟩
variable {s:Shared}
theorem zmD {z TI TO i1 i2 l1 l2:Addr}{xs ys:Array Value}{Q:Value->Shared->Prop}(hh:A.handled=none)(D:ZipApart z TI TO i1 i2 l1 l2)(ks:List K)(hkl:ks.length=xs.size)(hkey:∀(i:Nat)(k:K)(x:Value),ks[i]? = some k->xs[i]? = some x->knd.is k x=true)(nd:ks.Nodup)(hlen:xs.size=ys.size)
  (he:IsZip s.heap z TI TO .none) (hTO:IsPair s.heap TO .none .none) (hTI:IsPair s.heap TI (.ref i1) (.ref i2)) (h1:s.heap.IsTupleIter i1 l1 0) (h2:s.heap.IsTupleIter i2 l2 0) (hl1:s.heap.IsTuple l1 xs) (hl2:s.heap.IsTuple l2 ys) (hz:xs.size<=sizeLine)
  (h:∀h' tk,h'.DictOf knd s.heap.objs.size (ks.zip ys.toList)->(∀b o,b≠z->b≠TO->b≠i1->b≠i2->s.heap.get? b=some o->h'.get? b=some o)->Q (.ref s.heap.objs.size) { s with heap:=h',toks:=tk }) :
  wpAny (model prog w) A (call (.type "dict") [.ref z]) Q E s:=by
 refine callType_codes (Q₁:=λobj s₁=>obj=.ref s.heap.objs.size/\s₁={ s with heap:=s.heap.push { cls:=.type "dict",data:=.dict #[] } }) F.kt_called_dict (F.kt_typeCall_dict_1 _) F.entry_dict_init (kt_code_dict_new _ ⟨rfl,rfl⟩) ?_;rintro obj s₁ ⟨rfl,rfl⟩;have hnew:(s.heap.push { cls:=.type "dict",data:=.dict #[] }).DictOf knd s.heap.objs.size []:=Heap.DictOf.new s.heap;have lz:z<s.heap.objs.size:=Xo he;have lTI:TI<s.heap.objs.size:=Xo hTI;have lTO:TO<s.heap.objs.size:=Xo hTO;have l1':i1<s.heap.objs.size:=by obtain⟨_,x,_⟩:=h1;exact Xo x
 have l2':i2<s.heap.objs.size:=by obtain⟨_,x,_⟩:=h2;exact Xo x
 have ll1:l1<s.heap.objs.size:=by obtain⟨_,x,_⟩:=hl1;exact Xo x
 have ll2:l2<s.heap.objs.size:=by obtain⟨_,x,_⟩:=hl2;exact Xo x
 refine⟨hnew.typeIs,F.args_dict_init_2 _ _,?_⟩;unfold Builtin.«dict.__init__»;refine wpAny_bind ?_;unfold Builtin.Dict.selfAndRest;refine wpAny_bind (wpAny_notOrdered_dict hnew.typeIs ?_);show wpAny _ _ (pure (s.heap.objs.size,[Value.ref z])) _ _ _;refine wpAny_pure ?_;show wpAny _ _ (Builtin.Dict.updateFrom "dict.__init__" s.heap.objs.size (.ref z) [] .none) _ _ _;unfold Builtin.Dict.updateFrom;have he1:IsZip (s.heap.push { cls:=.type "dict",data:=.dict #[] }) z TI TO .none:=Xe _ he;refine wpAny_bind (wpAny_typeOf (T:="zip") ⟨_,he1,rfl⟩ ?_);rw[if_pos (by decide)];refine wpAny_bind (zmB (s:={ s with heap:=s.heap.push { cls:=.type "dict",data:=.dict #[] } }) he1 hh λh' tk hk=>?_);rw[if_pos (show(none:Option Value).isNone=true from rfl)];refine wpAny_bind (wpAny_rule ?_);have kp:∀b o,s.heap.get? b=some o->h'.get? b=some o:=λb o x=>hk b o (Xe _ x);refine wpAny_bind (wpAny_pyIter_zip (s:={ s with heap:=h',toks:=tk }) (kp _ _ he) ?_);refine wpAny_pure ⟨plainId_quiet F.zaK _,?_⟩;have hD:h'.DictOf knd s.heap.objs.size []:=by
  obtain⟨o,es,ep,ho,rest⟩:=hnew;exact⟨o,es,ep,hk _ _ ho,rest⟩
 refine zmC (knd:=knd) (A:=A.in1) hh s.heap.objs.size z TI TO i1 i2 l1 l2 D xs ys ks hkl hkey nd hlen (Yd lz) (Yd lTI) (Yd lTO) (Yd l1') (Yd l2') (Yd ll1) (Yd ll2) hz xs.size 0 _ _ (by simp) (XT _)
  (.inl ⟨kp _ _ he,_,_,kp _ _ hTO⟩) (kp _ _ hTI) (h1.at λo x=>kp _ _ x) (h2.at λo x=>kp _ _ x) (hl1.at λo x=>kp _ _ x) (hl2.at λo x=>kp _ _ x) (by simpa using hD) ?_
 rintro s' hD2 hk2 ⟨h3,tk3,rfl⟩;refine⟨rfl,?_⟩;exact h h3 tk3 hD2 λb o b1 b2 b3 b4 x=>hk2 b o (XJ (Xo x)) b1 b2 b3 b4 (kp b o x)
end
end JZ2
namespace PySem.SeqAt
open MeetsSeq
theorem zhY {M:Model}{A:Around}{E:Value->Shared->Prop}{s:Shared}{β:Type}{a b:Nat}{f:Nat->β->Sem (ForInStep β)}(I:Nat->β->Shared->Prop)(Q:β->Shared->Prop)
  (turn:∀i c s,a<=i->i<b->I i c s->wpAny M A (f i c) (λr s'=>match r with | .yield c'=>I (i+1) c' s' | .done c'=>Q c' s') E s)
  (fin:∀c s,I (max a b) c s->Q c s) (c:β) (h:I a c s):wpAny M A (forIn ([a:b]:Std.Legacy.Range) c f) Q E s:=by
 rw[Std.Legacy.Range.forIn_eq_forIn_range'];have hz:([a:b]:Std.Legacy.Range).size=b-a:=by simp[Std.Legacy.Range.size]
 show wpAny M A (forIn (List.range' a ([a:b]:Std.Legacy.Range).size 1) c f) Q E s;rw[hz];refine wpAny_forIn_list f (λl c s=>∃i,a<=i/\i<=max a b/\l=List.range' i (max a b-i) 1/\I i c s) Q ?_ ?_ _ c ⟨a,Xi _,by lia,by congr 1;lia,h⟩
 ·rintro x rest c s ⟨i,h1,h2,hl,hI⟩;have lt:i<max a b:=by
   rcases Nat.lt_or_ge i (max a b)with h' | h'
   ·exact h'
   ·rw[show max a b-i=0 by lia]at hl;simp at hl
  obtain⟨n,hn⟩:∃n,max a b-i=n+1:=⟨max a b-i-1,by lia⟩;rw[hn,List.range'_succ]at hl;obtain⟨rfl,rfl⟩:=List.cons.inj hl;refine wpAny_mono (turn x c s h1 (by lia) hI) (λr s' h'=>?_) λ_ _ h'=>h';cases r with
  | done c'=>exact h'
  | yield c'=>exact⟨x+1,by lia,by lia,by congr 1;lia,h'⟩
 ·rintro c s ⟨i,h1,h2,hl,hI⟩;have e:i=max a b:=by
   rcases Nat.lt_or_ge i (max a b)with h' | h'
   ·obtain⟨n,hn⟩:∃n,max a b-i=n+1:=⟨max a b-i-1,by lia⟩;rw[hn,List.range'_succ]at hl;simp at hl
   ·lia
  subst e;exact fin _ _ hI
theorem zhd (l:Addr)(items:Array Value)(n:Nat)(dd:Option Addr)(sl:Array (Option Value))(x:Value)(e:Value->Bool)(j:Nat)(hj:j<items.size)
  (hit:e items[j]=true) (hno:∀m (hm:m<items.size),m<j->e items[m]=false) :
  Meets (Builtin.«tuple.index» ⟨[.ref l,x],[]⟩)
   (λA R s=>s.heap.get? l=some { cls:=.type "tuple",dict:=dd,data:=.seq items n,slots:=sl }/\(∀y,y∈items->EqAt A.in1 s y x (e y))/\R (.ok (.ret (.int j s.toks))) { s with toks:=s.toks+1 }):=
 .of_wp λprog w A R s h=>by
  obtain⟨hp,g,d,tk,os⟩:=s;obtain⟨hl,he,h⟩:=h
  wp_walk using wpAny_loadPart' hl,zhY (λi (b:Option _×Unit) s'=>b.1=none/\s'=⟨hp,g,d,tk,os⟩/\i<=j) _
  case turn=>
   rintro i b s' h0 hi ⟨hb,rfl,hij⟩;have hi':i<items.size:=by lia
   rw[show items[i]? = some items[i] from Array.getElem?_eq_getElem hi'];refine wpAny_bind (he _ (Array.getElem_mem hi') prog w _ _ ?_);by_cases ej:i=j
   ·subst ej;rw[hit]
    wp_walk
    exact⟨_,rfl,h⟩
   ·rw[hno i hi' (by lia)]
    wp_walk
    exact⟨rfl,rfl,by lia⟩
  case fin=>
   rintro b s' ⟨hb,rfl,hij⟩;exact absurd hij (by lia)
  case h=>exact⟨rfl,rfl,XT _⟩
end PySem.SeqAt
namespace L2
open PySem PySem.Spec PyProof.Rows
section
variable {X:Cx}
noncomputable def rIdx (sq:Hp->Addr->List V->Prop):V->List V->Hp->VK->Prop:=λx vs H Q=>∃(p:Addr)(xs:List V)(y:V)(j:Nat),x=.ref p/\vs=[y]/\sq H p xs/\zer y=true/\xs.all zer=true/\(∃w,xs[j]? = some w/\eqV w y=true)/\(∀m w,m<j->xs[m]? = some w->eqV w y=false)/\Q (.int (j:Int)) H
theorem zmE:∀ {xs:List V}{us:List Value}{m:Nat}{u:Value},Vals xs us->us[m]? = some u->∃w,xs[m]? = some w/\RelV w u
 | _,_,m,u,.nil,h=>by simp at h
 | x::xs,v::us,0,u,.cons r t,h=>by simp at h;subst h;exact⟨x,rfl,r⟩
 | x::xs,v::us,m+1,u,.cons r t,h=>by simpa using zmE t (by simpa using h)
theorem zqH {xs:List V}{m:Nat}{w:V}(f:xs.all zer=true)(h:xs[m]? = some w):zer w=true:=XE.mp f w (Xr h)
theorem zhZ {xs:List V}{its:List Value}{y:V}{j:Nat}(r:Vals xs its)(fs:xs.all zer=true)(h1:∃w,xs[j]? = some w/\eqV w y=true)(h2:∀m w,m<j->xs[m]? = some w->eqV w y=false) :
  ∃hj:j<its.toArray.size,eqU y its.toArray[j]=true/\∀m (hm:m<its.toArray.size),m<j->eqU y its.toArray[m]=false:=by
 have hl:=r.length;obtain⟨w,hw,ew⟩:=h1;have hj:j<xs.length:=(Xc.mp hw).1;have hj':j<its.length:=by lia
 have at_:∀m (hm:m<its.length),∀w,xs[m]? = some w->eqU y its[m]=eqV w y:=λm hm w hx=>by
  obtain⟨w',q1,q2⟩:=zmE r (Xd hm);rw[hx]at q1;cases q1;exact zpe q2 (zqH fs hx)
 refine⟨by simpa using hj',?_,λm hm hlt=>?_⟩
 ·have:=at_ j hj' w hw;simpa[ew]using this
 ·have hm':m<its.length:=by simpa using hm
  have hx:xs[m]? = some xs[m]:=Xd (by lia);have:=at_ m hm' _ hx;rw[h2 m _ hlt hx]at this;simpa using this
theorem zmF:MtR X "list.index" (rIdx λH p xs=>SqL X.K H p xs):=by
 intro pins s σ H x vs v us Q I rx rv h;obtain⟨p,xs,y,j,rfl,rfl,hq,fy,fs,h1,h2,q⟩:=h;cases rx;obtain⟨u,rfl,ru⟩:=rv.one;obtain⟨its,r,pl,hz⟩:=I.list hq;obtain⟨hj,e1,e2⟩:=zhZ r fs h1 h2;obtain⟨⟨cls,dd,data,sl⟩,n,ho,hc,hd,hs⟩:=id pl;simp only at hc hd hs;subst hc hd hs;have hl:=r.length;have hz':=hz;rw[sizeLine_eq]at hz';have hj2:j<its.length:=by simpa using hj
 exact call_meets PySem.F.slot_list_index ⟨_,ho,rfl⟩ PySem.F.entry_list_index (PySem.F.args_list_index_2 _ _) (SeqAt.list_indexAt p its.toArray n _ sl u (eqU y) j hj (by lia) e1 e2) ⟨ho,λz hz=>zgN ru fy r fs z (by simpa using hz),⟨.int (j:Int),H,I.tok _,⟨_,rfl⟩,q⟩⟩
theorem zmG:MtR X "tuple.index" (rIdx λH p xs=>SqT X.K H p xs):=by
 intro pins s σ H x vs v us Q I rx rv h;obtain⟨p,xs,y,j,rfl,rfl,hq,fy,fs,h1,h2,q⟩:=h;cases rx;obtain⟨u,rfl,ru⟩:=rv.one;obtain⟨its,r,pl,hz⟩:=I.tuple hq;obtain⟨hj,e1,e2⟩:=zhZ r fs h1 h2;obtain⟨⟨cls,dd,data,sl⟩,ho,hc,n,hd⟩:=id pl;simp only at hc hd;subst hc hd;exact call_meets PySem.F.slot_tuple_index ⟨_,ho,rfl⟩ PySem.F.entry_tuple_index (PySem.F.args_tuple_index_2 _ _) (SeqAt.zhd p its.toArray n dd sl u (eqU y) j hj e1 e2) ⟨ho,λz hz=>zgN ru fy r fs z (by simpa using hz),⟨.int (j:Int),H,I.tok _,⟨_,rfl⟩,q⟩⟩
theorem Inv.zsI {pins:List (Addr×Obj)}{σ:St}{H:Hp}{s:Shared}{a:Addr}{xs:List V}(I:Inv X pins σ H s)(h:SqT X.K H a xs):∃ob,s.heap.get? a=some ob/\ob.cls=.type "tuple"/\ob.dict=none:=by
 rcases h with h | ⟨o,its,n,hk,hc,hs,hz,r,hd⟩
 ·obtain⟨z,its,r,o,h1,h2,h3,h4⟩:=h.ok I.hok;exact⟨o,h1,h2,h4⟩
 ·exact⟨o,I.kIn a o hk,hc,hd⟩
variable {o e:Expr}{to te:TE}{name:Str}{apos cpos:Pos}{id:String}{r:V->List V->Hp->VK->Prop}
end
end L2
namespace PL
open PySem PySem.Spec L2
open PyProof.Rows hiding St
noncomputable def zfY:PV->Bool
 | .non=>true
 | .int _=>true
 | .str _=>true
 | _=>false
noncomputable def idxP (ds:List PV)(e:PV):Nat:=ds.findIdx λx=>decide (x=e)
section
variable {K:Xa}{Fz:FZ}{H:Hp}
theorem zjQ {d:PV}{v:V}(f:zfY d=true)(h:Den K Fz H d v):zer v=true:=by
 cases d with
 | non=>simp only[Den]at h;subst h;rfl
 | int i=>simp only[Den]at h;subst h;rfl
 | str x=>simp only[Den]at h;subst h;rfl
 | _=>exact absurd (show false=true from f) Xs
theorem zmH {d e:PV}{v w:V}(fd:zfY d=true)(fe:zfY e=true)(hd:Den K Fz H d v)(he:Den K Fz H e w):eqV v w=decide (d=e):=by
 cases d with
 | non=>
  simp only[Den]at hd;subst hd;cases e with
  | non=>simp only[Den]at he;subst he;simp[eqV]
  | int i=>simp only[Den]at he;subst he;simp[eqV]
  | str x=>simp only[Den]at he;subst he;simp[eqV]
  | _=>exact absurd (show false=true from fe) Xs
 | int i=>
  simp only[Den]at hd;subst hd;cases e with
  | non=>simp only[Den]at he;subst he;simp[eqV]
  | int i=>simp only[Den]at he;subst he;rw[zjy];rfl
  | str x=>simp only[Den]at he;subst he;simp[eqV]
  | _=>exact absurd (show false=true from fe) Xs
 | str x=>
  simp only[Den]at hd;subst hd;cases e with
  | non=>simp only[Den]at he;subst he;simp[eqV]
  | int i=>simp only[Den]at he;subst he;simp[eqV]
  | str x=>simp only[Den]at he;subst he;rw[zjz];rfl
  | _=>exact absurd (show false=true from fe) Xs
 | _=>exact absurd (show false=true from fd) Xs
theorem zia:∀ {ds:List PV}{xs:List V},ds.all zfY=true->DenL K Fz H ds xs->xs.all zer=true
 | [],xs,_,h=>by simp only[DenL]at h;subst h;rfl
 | d::ds,xs,f,h=>by
  simp only[DenL]at h;obtain⟨v,r,rfl,h1,h2⟩:=h;rw[List.all_cons,Bool.and_eq_true]at f ⊢;exact⟨zjQ f.1 h1,zia f.2 h2⟩
theorem zqI {ds:List PV}{xs:List V}{e:PV}{y:V}(f:ds.all zfY=true)(fe:zfY e=true)(h:DenL K Fz H ds xs)(hy:Den K Fz H e y)(hm:e∈ds) :
  (∃w,xs[idxP ds e]? = some w/\eqV w y=true)/\∀m w,m<idxP ds e->xs[m]? = some w->eqV w y=false:=by
 have hi:idxP ds e<ds.length:=List.findIdx_lt_length_of_exists ⟨e,hm,by simp⟩;have hl:=h.length;refine⟨?_,λm w hlt hw=>?_⟩
 ·obtain⟨w,q1,q2⟩:=h.get (Xd hi);refine⟨w,q1,?_⟩;have:=List.findIdx_getElem (p:=λx=>decide (x=e)) (xs:=ds) (w:=hi);rw[zmH (XE.mp f _ (YC hi)) fe q2 hy];exact this
 ·have hm':m<ds.length:=by
   have:=(Xc.mp hw).1;lia
  obtain⟨w',q1,q2⟩:=h.get (Xd hm');rw[hw]at q1;cases q1;rw[zmH (XE.mp f _ (YC hm')) fe q2 hy];have:=List.not_of_lt_findIdx (p:=λx=>decide (x=e)) (xs:=ds) hlt;simpa using this
end
theorem zmI {K:Xa}{Fz:FZ}{H:Hp}{d:PV}{v:V}(f:zfY d=true)(h:Root K Fz H d v):Den K Fz H d v:=by
 cases d with
 | non=>exact h
 | int i=>exact h
 | str x=>exact h
 | _=>exact absurd (show false=true from f) Xs
end PL
namespace L2
open PySem PySem.Spec PyProof.Rows
section
variable {X:Cx}
theorem zmJ (hc:X.calm=true):zdo X (.builtin "sum") (λxs H Q=>∃(p:Addr) (ns:List Int),xs=[V.ref p]/\SqL X.K H p (ns.map V.int)/\Q (.int ns.sum) H):=by
 intro pins s σ H xs us Q I r h;obtain⟨p,ns,rfl,hq,q⟩:=h;obtain⟨u,rfl,rx⟩:=vals1 r;cases rx;obtain⟨its,r',pl,hz⟩:=I.list hq;have hI:IntsAre its ns:=intsAre_of r';have hl:=pl.isList;have hall:=hI.allInts;obtain⟨zs,ez⟩:=hall.items;rw[ez]at hl;refine sum_intListG (I.ok.hd hc) hl λh' tk t' hk=>?_;have en:preSum (numAt zs) zs.size=ns.sum:=by
  have e1:numsOf its.toArray.toList=ns:=hI.numsOf;rw[ez,nums_intItems]at e1;rw[preSum_eq,Xv (by simp),e1]
 rw[en];exact⟨.int ns.sum,H,I.kept hk,⟨_,rfl⟩,q⟩
end
end L2
namespace PL
open PySem PySem.Spec L2
open PyProof.Rows hiding St
section
variable {X:Cx}
noncomputable def fSum:PF:=λds Q=>∃ns:List Int,ds=[.lst (ns.map PV.int)]/\Q (.int ns.sum) .frz
theorem zgA {K:Xa}{Fz:FZ}{H:Hp}:∀ {ns:List Int}{xs:List V},DenL K Fz H (ns.map PV.int) xs->xs=ns.map V.int
 | [],xs,h=>by simpa only[Yc,DenL]using h
 | n::ns,xs,h=>by
  simp only[Yc,DenL,Den]at h;obtain⟨v,r,rfl,rfl,h⟩:=h;rw[zgA h];rfl
theorem zsJ:zeh X.K (λxs H Q=>∃(p:Addr)(ns:List Int),xs=[V.ref p]/\SqL X.K H p (ns.map V.int)/\Q (.int ns.sum) H) fSum where
 mono ds Q Q' m h:=by obtain⟨ns,e,q⟩:=h;exact⟨ns,e,m _ _ q⟩
 run Fz H ds vs Q al hr h:=by
  obtain⟨ns,rfl,q⟩:=h;obtain⟨v,rfl,h1⟩:=zdB hr;obtain⟨a,xs,rfl,h2,h3⟩:=zam h1;rw[zgA h3]at h2;exact⟨a,ns,rfl,h2,q _ Fz H (.val al (by simp only[Den]))⟩
variable {e:Expr}{es:List Expr}{t:TPA}{p pos:Pos}
theorem bSum:bootBuiltins "sum" = some (.builtin "sum"):=by decide +kernel
theorem zsK (hc:X.calm=true)(hg:Gl X "sum") (hm:X.mg "sum" = none) (ha:PuA X (e::es) t) (he:autoParam (starEach (e::es) X.env=(false,eval e X.env)::starEach es X.env) aU0) (hpl:autoParam ((backTo pos (starEach es X.env)).any (·.1)=false) aU0):PuE X (.Call (.Name "sum" p) (e::es) [] pos) (tB fSum t):=
 zcD (zmJ hc) zsJ hg hm bSum ha (by decide) (by decide) he hpl
end
section
variable {X:Cx}{pos:Pos}
noncomputable def zdG:TPE:=λ_ Q=>Q (.dK [] []) .new
noncomputable def zdH:TPE:=λ_ Q=>Q (.dT [] []) .new
theorem zmK:PuE X (.Dict [] [] pos) zdG where
 mono ρ Q Q' m h:=m _ _ h
 run:=PE.weak znS λσ H Q h=>by
  obtain⟨ρ,Fz,R,h⟩:=h;exact λp hp=>h _ Fz _ ⟨Ext.laid ⟨Same.refl H,λ_ h=>h,λ_ h=>.inl h,R.al⟩ hp,p,rfl,hp,λz=>R.al p z hp,[],zal,rfl,DenL.nil⟩
theorem zqJ:PuE X (.Dict [] [] pos) zdH where
 mono ρ Q Q' m h:=m _ _ h
 run:=PE.weak zjt λσ H Q h=>by
  obtain⟨ρ,Fz,R,h⟩:=h;exact λp hp=>h _ Fz _ ⟨Ext.laid ⟨Same.refl H,λ_ h=>h,λ_ h=>.inl h,R.al⟩ hp,p,rfl,hp,λz=>R.al p z hp,[],zal,rfl,DenL.nil⟩
end
noncomputable def keyT (k:List Key):PV:=.tup (k.map keyP)
section
variable {K:Xa}{Fz:FZ}{H:Hp}
theorem zib:∀ {k:List Key}{xs:List V},DenL K Fz H (k.map keyP) xs->xs=k.map kV
 | [],xs,h=>by simpa only[Yc,DenL]using h
 | c::k,xs,h=>by
  simp only[Yc,DenL]at h;obtain⟨v,r,rfl,h1,h2⟩:=h;rw[zib h2,zft (show Root K Fz H (keyP c) v by cases c<;>exact h1)];rfl
theorem zic {k:List Key}{x:V}(h:Root K Fz H (keyT k) x):∃b,x=.ref b/\H b=some (.tup (k.map kV)):=by
 obtain⟨b,xs,rfl,h1,h2⟩:=zey h;rw[zib h2]at h1;exact⟨b,rfl,h1⟩
end
section
variable {X:Cx}{a b c:Expr}{ta tb tc:TPE}{pos apos cpos:Pos}
theorem zqK {p:P2}(hp:POp X.K (rDI false) p)(ha:PuE X a ta)(hb:PuE X b tb){σ:St}{H:Hp}{Q:VK}(h:lift X.K (t2 p ta tb) σ H Q):tDIn (lift X.K ta) (lift X.K tb) σ H Q:=by
 have:=zhI hp ha hb h;exact this
theorem zqL (hu:X.A.units+1<cLine)(ha:PuE X a ta)(hb:PuE X b tb)(hm:autoParam (behindInMarks .In b=false) aU0):PuT X (.Compare a [.In] [b] pos) (tBl (t2 (pDI false) ta tb)) where
 mono ρ Q Q' m h:=zeg zqp ha hb ρ _ _ (λd k q=>zjw m q) h
 run:=PT.weak (zrm (zrT hu ha.run hb.run) hm) λσ H Q h=>by
  obtain⟨ρ,Fz,R,h⟩:=h;refine zqK zqp ha hb ⟨ρ,Fz,R,zeg zqp ha hb ρ _ _ (λd k q v F1 H1 p=>?_) h⟩;obtain⟨bb,rfl,q⟩:=zgT.mp q;exact⟨bb,zeV (p.root R),q F1 H1 p.ext⟩
noncomputable def zcl (ta tb tc:TPE):TPE:=λρ Q=>ta ρ λd kd=>∃ks ds,d=.dT ks ds/\isOwn kd=false/\tb ρ λe _=>∃k,e=keyT k/\tc ρ λf kf=>isOwn kf=false/\Q ((dgP ks ds k).getD f) .frz
theorem zoq (hu:X.A.units+1<cLine)(ha:PuE X a ta)(hb:PuE X b tb)(hc:PuE X c tc)(m:autoParam (M2 X a "get" apos b c cpos) aU7):PuE X (.Call (.Attribute a "get" apos) [b,c] [] cpos) (zcl ta tb tc) where
 mono ρ Q Q' mm h:=ha.mono ρ _ _ (λd _ q122q=>by obtain⟨ks,ds,e1,e2,h⟩:=q122q;exact⟨ks,ds,e1,e2,hb.mono ρ _ _ (λe _ q123q=>by obtain⟨k,e3,h⟩:=q123q;exact⟨k,e3,hc.mono ρ _ _ (λf _ q124q=>by obtain⟨e4,q⟩:=q124q;exact⟨e4,mm _ _ q⟩) h⟩) h⟩) h
 run:=PE.weak (znT hu ha.run hb.run hc.run m) λσ H Q h=>by
  obtain⟨ρ,Fz,R,h⟩:=h;refine⟨ρ,Fz,R,ha.mono ρ _ _ (λd kd q v F1 H1 p1=>?_) h⟩;obtain⟨ks,ds,rfl,ho,q⟩:=q;obtain⟨F1',x1,s1,d1⟩:=p1.frozen (zha ho);have R1:=R.ext x1;simp only[Den]at d1;obtain⟨a,xs,rfl,f1,r1,l1,dl1⟩:=d1;refine⟨a,rfl,.inr ⟨_,r1⟩,ρ,F1',R1,hb.mono ρ _ _ (λe ke q w F2 H2 p2=>?_) q⟩;obtain⟨k,rfl,q⟩:=q;have R2:=R1.ext p2.ext;obtain⟨bb,rfl,hbb⟩:=zic (p2.root R1);refine⟨ρ,F2,R2,hc.mono ρ _ _ (λf kf q u F3 H3 p3=>?_) q⟩;obtain⟨ho3,q⟩:=q;obtain⟨F4,x4,s4,d4⟩:=p3.frozen (zha ho3);have kp:Keep F1' H1 H3:=.of (p2.ext.same.trans x4.same);have sb:∀b,F1' b->F4 b:=λb h=>x4.sub b (p2.ext.sub b h);have r3:Rd H3 a (.dT (ks.zip xs)):=kp.rd trivial f1 r1;have dl3:DenL X.K F4 H3 ds xs:=DenL.mono kp sb _ _ dl1;refine⟨valV (ks.zip xs) k,.inr ⟨_,k,bb,r3,rfl,x4.same _ _ hbb,rfl⟩,q _ F4 H3 ⟨(x1.trans p2.ext).trans x4,?_⟩⟩;show Den _ _ _ _ _;cases e:dgP ks ds k with
  | none=>rw[(zgz ks ds xs k dl3).2 e];exact d4
  | some d'=>obtain⟨v,e5,h5⟩:=(zgz ks ds xs k dl3).1 d' e;rw[e5];exact h5
end
end PL
namespace PySem
section
variable {prog:Program}{w:World}{K:Type} [DecidableEq K] {knd:HeapKind prog w K}{A:Around}{E:Value->Shared->Prop}{s:Shared}
theorem zeX {d a:Addr}{xs:List (K×Addr×Value)}{k:K}{v:Value}{Q:Value->Shared->Prop}(hu:knd.room A)(hkey:knd.is s.heap k a)(hm:s.heap.DictOfH knd d xs)
  (there:∀p,atKey xs k=some p->Q p.2 { s with toks:=s.toks+knd.draws k })
  (fresh:atKey xs k=none->∀h',h'.DictOfH knd d (storedH xs k a v)->Ym d s.heap h'->Q v { s with heap:=h',toks:=s.toks+knd.draws k })
  (hsz:xs.length<=sizeLine):wpAny (model prog w) A (dictSetDefault d (.ref a) v) Q E s:=by
 obtain⟨ob,es,ep,hob,hcl,hdt,hes,hks,hnd⟩:=hm;unfold dictSetDefault;refine wpAny_holding ?_;refine wpAny_bind (knd.pyHash hu hkey (wpAny_bind (wpAny_dictFind_heap (s:={ s with toks:=s.toks+knd.draws k }) hu hkey hob hdt hes hks hnd (λhno=>?_) λj q hj=>?_)))
 ·have hk0:=atKey_none_of_get hno;have hnew:k∉xs.map (·.1):=not_mem_keys_of_get hno;refine wpAny_bind (wpAny_rule (wpAny_bind (wpAny_updateDictKeys (hz:=by have e:=size_of_entries hes;lia) (s:={ s with toks:=s.toks+knd.draws k }) hob hdt (wpAny_pure (fresh hk0 _ ?_ (Ym.update ..))))));refine⟨_,_,ep+1,Heap.get?_update_self _ hob (Obj.isFreed_of_dict (Obj.data_mapDictKeys hdt _)),hcl.mapDictKeys _,Obj.data_mapDictKeys hdt _,?_,?_,?_⟩<;>rw[storedH_new hk0]
  ·simp[hes,entryOfKey]
  ·intro y hy;rcases XM.mp hy with hy | hy
   ·exact knd.keeps (hks y hy) hob hdt (Ym.update ..)
   ·have:=Xq.mp hy;subst this;exact knd.keeps hkey hob hdt (Ym.update ..)
  ·rw[Xt,List.nodup_append];exact⟨hnd,by simp,λy hy z hz e=>hnew (by have:=Xq.mp hz;rw[e,this]at hy;exact hy)⟩
 ·refine wpAny_bind (wpAny_dictEntries (s:={ s with toks:=s.toks+knd.draws k }) hob hdt ?_);rw[entry_at hes j,hj];exact wpAny_bind (wpAny_rule (wpAny_pure (there q (atKey_of_get hnd hj))))
end
section
variable {prog:Program}{w:World}{K:Type} [DecidableEq K] (knd:HeapKind prog w K)(d a:Addr)
theorem zeY (hd:(d == sysModules)=false)(v:Value) :
  MeetsIn prog w (Builtin.«dict.setdefault» ⟨[.ref d,.ref a,v],[]⟩) (λA R s=>knd.room A.in1/\∃k xs,knd.is s.heap k a/\s.heap.DictOfH knd d xs/\xs.length<=sizeLine/\
   (∀p,atKey xs k=some p->R (.ok (.ret p.2)) { s with toks:=s.toks+knd.draws k })/\
   (atKey xs k=none->∀h',h'.DictOfH knd d (storedH xs k a v)->Ym d s.heap h'->R (.ok (.ret v)) { s with heap:=h',toks:=s.toks+knd.draws k })):=
 .of_wp λA R s ⟨hu,k,xs,hkey,hm,hsz,h1,h2⟩=>by
  unfold Builtin.«dict.setdefault»;refine wpAny_bind ?_;unfold Builtin.Dict.keyAndDefault;refine wpAny_bind (wpAny_notOrdered_dict hm.typeIs (wpAny_pure ?_));show wpAny _ _ (if (d == sysModules)=true then _ else(dictSetDefault d (.ref a) v >>= _)) _ _ s
  rw[if_neg (by rw[hd];exact Xs)];exact wpAny_bind (zeX hu hkey hm (λp hp=>wpAny_pure ⟨_,rfl,h1 p hp⟩) (λhn h' hm' hs=>wpAny_pure ⟨_,rfl,h2 hn h' hm' hs⟩) hsz)
end
end PySem
namespace L2
open PySem PySem.Spec PyProof.Rows
section
variable {X:Cx}{pins:List (Addr×Obj)}{σ:St}{H:Hp}{s:Shared}{a b:Addr}{kvs:List (List Key×V)}{k:List Key}{z:V}{r:Value}{A:Around}{E:Value->Shared->Prop}
theorem zmL {Q:Value->Shared->Prop}(hu:A.units+1<cLine)(I:Inv X pins σ H s)(e:H a=some (.dT kvs))(eb:H b=some (.tup (k.map kV)))(l:kvs.length<sizeLine)(rz:RelV z r)
  (h1:∀v w' s',valV kvs k=some v->Inv X pins σ H s'->RelV v w'->Q w' s') (h2:valV kvs k=none->∀s',Inv X pins σ (upd H a (.dT (putK kvs k z))) s'->Q r s') :
  wpAny (model X.prog X.w) A (call (.builtin "dict.setdefault") [.ref a,.ref b,r]) Q E s:=by
 obtain⟨hz,hd,xs,rel,dd⟩:=zrS I.hok e;have hl:(putK kvs k z).length<=sizeLine:=by have:=zef kvs k z;lia
 have rv:=rel.val k;refine call_meetsIn PySem.F.slot_dict_setdefault dd.typeIs PySem.F.entry_dict_setdefault (PySem.F.args_dict_setdefault_3 _ _ _) (zeY (tupleKind (zaS X.prog X.w)) a b hd r)
  ⟨tupleKind_room_in1 hu,k,xs,zgs I.hok eb,dd,by rw[<- Paired.length rel];exact hz,λp hp=>?_,λhn h' dd' hs=>?_⟩
 ·rw[hp]at rv;cases hv:valV kvs k with
  | none=>rw[hv]at rv;cases rv
  | some v=>
   rw[hv]at rv;exact h1 v p.2 _ hv (I.tok _) rv
 ·have hvn:valV kvs k=none:=by
   rw[hn]at rv;cases hv:valV kvs k with
   | none=>rfl
   | some v=>rw[hv]at rv;cases rv
  refine h2 hvn _ ?_;obtain⟨q,es,ep,hq,g2,g3,g4,_,g5⟩:=dd';refine ziP I (by rw[e];exact True.intro) hs ⟨q,hq⟩ ⟨hl,hd,_,(rel.put k eb rz).keeps λc ys ec=>?_,q,es,ep,hq,g2,g3,g4,g5⟩;rw[zaj (zrj ec e (λy=>nomatch y))];exact ec
end
noncomputable def ztF (td ty tx:TE):TE:=λσ H Q=>td σ H λx H1=>∃a,x=.ref a/\IsD H1 a/\ty σ H1 λy H2=>tx σ H2 λz H3=>∃kvs k b,H3 a=some (.dT kvs)/\y=.ref b/\H3 b=some (.tup (k.map kV))/\kvs.length<sizeLine/\
 (∀v,valV kvs k=some v->Q v H3)/\(valV kvs k=none->Q z (upd H3 a (.dT (putK kvs k z))))
section
variable {X:Cx}{o e f:Expr}{apos cpos:Pos}{td ty tx:TE}
theorem zqM (hu:X.A.units+1<cLine)(ho:PE X o td)(he:PE X e ty)(hf:PE X f tx)(m:M2 X o "setdefault" apos e f cpos):PE X (.Call (.Attribute o "setdefault" apos) [e,f] [] cpos) (ztF td ty tx):=by
 intro pins s σ H Q I h;refine wpAny_Call_method m.base m.few m.line PySem.F.plainAttrs_dict PySem.F.slot_dict_setdefault PySem.F.type_dict_setdefault (thn (ho pins s σ H _ I h) λu s1 q126q=>?_);obtain⟨x,H1,I1,rx,a,ex,d,q1⟩:=q126q;subst ex;obtain rfl:u=Value.ref a:=rx;obtain⟨t1,t2,_⟩:=zpg I1 d;refine⟨t1,t2,?_⟩;rw[m.trees];refine Calls.callWith_builtin rfl (Calls.evalArgs_plain (Calls.spliced_cons (thn (he pins s1 σ H1 _ I1 q1) λiv s2 ⟨y,H2,I2,ry,q2⟩=>
  Calls.spliced_cons (thn (hf pins s2 σ H2 _ I2 q2) λfv s3 ⟨z,H3,I3,rz,kvs,k,b,ea,ey,eb,hl,q3,q4⟩=>Calls.spliced_nil ?_))))
 subst ey;obtain rfl:iv=Value.ref b:=ry;exact zmL hu I3 ea eb hl rz (λv w' s' hv I' rv=>⟨v,H3,I',rv,q3 v hv⟩) λhn s' I'=>⟨z,_,I',rz,q4 hn⟩
end
end L2
namespace PL
open PySem PySem.Spec L2
open PyProof.Rows hiding St
noncomputable def hasT (ks:List (List Key))(k:List Key):Bool:=ks.any λc=>decide (c=k)
theorem zhe {ks:List (List Key)}{k:List Key}:hasT ks k=true↔k∈ks:=by
 unfold hasT;rw[List.any_eq_true];constructor
 ·rintro⟨c,hc,e⟩;have:c=k:=by simpa using e
  rw[<- this];exact hc
 ·exact λh=>⟨k,h,by simp⟩
noncomputable def ixK (ks:List (List Key))(k:List Key):Nat:=ks.findIdx λx=>decide (x=k)
theorem zmM {ks:List (List Key)}{vs:List V}{k:List Key}(hl:ks.length=vs.length):valV (ks.zip vs) k=none↔k∉ks:=by
 unfold valV;rw[Option.map_eq_none_iff,List.find?_eq_none];constructor
 ·intro h hk;obtain⟨i,hi,e⟩:=List.getElem_of_mem hk;have:=h (ks[i],vs[i]'(by lia)) (by
   rw[List.mem_iff_getElem];exact⟨i,by simp;lia,by simp⟩)
  simp[e]at this
 ·intro h x hx;have:=(List.of_mem_zip (a:=x.1) (b:=x.2) hx).1;simp;exact λz=>h (z▸this)
theorem zmN {ks:List (List Key)}{vs:List V}{k:List Key}{v:V}(hl:ks.length=vs.length)(h:valV (ks.zip vs) k=some v):k∈ks/\vs[ixK ks k]? = some v:=by
 induction ks generalizing vs with
 | nil=>simp[valV]at h
 | cons c ks ih=>
  cases vs with
  | nil=>simp at hl
  | cons x vs=>
   by_cases e:c=k
   ·subst e;have:x=v:=by simpa[valV]using h
    subst this;exact⟨Xh ..,by simp[ixK,List.findIdx_cons]⟩
   ·have h':valV (ks.zip vs) k=some v:=by simpa[valV,Yg,e]using h
    obtain⟨q1,q2⟩:=ih (by simpa using hl) h';refine⟨Xf _ q1,?_⟩;have:ixK (c::ks) k=ixK ks k+1:=by unfold ixK;simp[List.findIdx_cons,e]
    rw[this,List.getElem?_cons_succ];exact q2
theorem zqN {ks:List (List Key)}{k:List Key}(h:k∉ks):ixK (ks++[k]) k=ks.length:=by
 unfold ixK;induction ks with
 | nil=>simp[List.findIdx_cons]
 | cons c ks ih=>
  have e:¬ c=k:=λz=>h (z▸Xh ..);have:=ih λz=>h (Xf _ z);simp[List.findIdx_cons,e,this]
theorem zor {ks:List (List Key)}{vs:List V}{k:List Key}{v:V}(hl:ks.length=vs.length)(h:k∉ks):putK (ks.zip vs) k v=(ks++[k]).zip (vs++[v]):=by
 unfold putK;have:((ks.zip vs).any λkv=>decide (kv.1=k))=false:=by
  rw[List.any_eq_false];intro x hx;have:=(List.of_mem_zip (a:=x.1) (b:=x.2) hx).1;simp;exact λz=>h (z▸this)
 rw[this,List.zip_append hl];rfl
section
variable {X:Cx}{z:Nat}{pos pos' pos2:Pos}{t:TPB}{x:Str}{rest:List Stmt}
noncomputable def zcm (z:Nat)(t:TPB):TPS:=λρ O=>z<ρ.length/\zmu t { nx:=λ_ _=>False,rt:=O.rt,bk:=λ_ _=>False,ct:=λ_ _=>False } (ρ.set z none) (.T [] [])
theorem zmO (hN:X.N.Nodup)(hx:X.N[z]? = some x)(hl:Loc X.env.scope x)(hr:PuB X z rest t)(hs:autoParam (swapsWith (.Dict [] [] pos) (some (.Name x pos')) pos2.line X.env=pure false) aU0)(hf:autoParam (X.fn x=true\/X.env.scope.names.lookup x=some .local) aU2) :
  PuSs X (.Assign [.Name x pos'] (.Dict [] [] pos) pos2::rest) (zcm z t) where
 mono ρ O O' m h:=⟨h.1,hr.mono _ _ { nx:=λ_ _=>False,rt:=O.rt,bk:=λ_ _=>False,ct:=λ_ _=>False } _ ⟨λ_ _ q=>q.elim,m.rt,λ_ _ q=>q.elim,λ_ _ q=>q.elim⟩ h.2⟩
 run:=PSs.weak (zcR (zhw hN hx hl zjt hs hf) hr.run) λD σ H h=>by
  obtain⟨ρ,Fz,R,hzl,q⟩:=h;intro l hp;have x2:Ext Fz H Fz (upd H l (.dT [])):=Ext.laid ⟨Same.refl _,λ_ h=>h,λ_ h=>.inl h,R.al⟩ hp;have nfl:¬ Fz l:=λw=>R.al l w hp;have nol:¬ zaZ ρ σ l:=λ⟨i,d,g1,g2⟩=>by
   obtain⟨a0,q1,_,q3⟩:=R.own i d g1;rw[g2]at q1;cases q1;obtain⟨o,q4,_⟩:=q3.at;rw[hp]at q4;cases q4
  have hzN:z<σ.length:=by rw[<- R.len];exact hzl
  have Rb:RelB X.K Fz (ρ.set z none) (.T [] []) (σ.set z (some (.ref l))) (upd H l (.dT [])) z l []:=
   ⟨(R.ext x2).unset,Xl hzl,Xl hzN,⟨zal,rfl,by show OwnL _ _ _ [] [];unfold OwnL;rfl,by simp,λb hb=>by rw[Xq.mp hb];exact nfl⟩,λb hb w=>by rw[Xq.mp hb]at w;exact nol (zcP l w)⟩
  refine⟨_,Fz,_,l,[],Rb,hr.mono _ _ { nx:=λ_ _=>False,rt:=(zfQ X.K D ρ σ Fz H).rt,bk:=λ_ _=>False,ct:=λ_ _=>False } _ ⟨λ_ _ q=>q.elim,λd k q v Fz' H'' s al r=>?_,λ_ _ q=>q.elim,λ_ _ q=>q.elim⟩ q⟩;have s0:zca (zaZ ρ σ) Fz H Fz (upd H l (.dT [])):=.of x2;have oi:InO (zaZ ρ σ) H (OB (ρ.set z none) (σ.set z (some (.ref l))) [l]):=λb hb=>by
   rcases hb with hb | hb
   ·exact .inl (zcP b hb)
   ·rw[Xq.mp hb];exact .inr hp
  have s1:=s0.trans oi s;have r1:=r.back s0 oi;refine q v Fz' H'' ⟨s1.sub,s1.new,s1.keep⟩ al ?_;cases k with
  | frz=>exact r1
  | own i=>exact r1
  | new=>exact r1
end
end PL
namespace L2
open PySem PySem.Spec PyProof.Rows
section
variable {X:Cx}{o e:Expr}{to te:TE}{apos cpos:Pos}
theorem zos (ho:PE X o to)(he:PE X e te)(m:M1 X o "index" apos e cpos) :
  PE X (.Call (.Attribute o "index" apos) [e] [] cpos) (λσ H Q=>to σ H λx H1=>∃a xs,x=.ref a/\(SqL X.K H1 a xs\/SqT X.K H1 a xs)/\te σ H1 λy H2=>∃zs,(SqL X.K H1 a xs/\SqL X.K H2 a zs\/SqT X.K H1 a xs/\SqT X.K H2 a zs)/\∃j:Nat,zer y=true/\zs.all zer=true/\(∃w,zs[j]? = some w/\eqV w y=true)/\(∀m w,m<j->zs[m]? = some w->eqV w y=false)/\Q (.int (j:Int)) H2):=by
 intro pins s σ H Q I h;refine wpAny_Call_method_late m.base m.few m.line rfl (thn (ho pins s σ H _ I h) λu s1 q130q=>?_);obtain⟨x,H1,I1,rx,a,xs,ex,d,q1⟩:=q130q;subst ex;obtain rfl:u=Value.ref a:=rx;rcases d with d | d
 ·obtain⟨its,rv,⟨ob,n,h1,h2,h3,h4⟩,hz⟩:=I1.list d;refine⟨"list","list.index",PySem.F.plainAttrs_list,PySem.F.slot_list_index,PySem.F.type_list_index,⟨ob,h1,h2⟩,λb q=>by cases q;exact⟨ob,h1,h3⟩,?_⟩;rw[m.trees];refine Calls.callWith_builtin rfl (Calls.evalArgs_plain (Calls.spliced_cons (thn (he pins s1 σ H1 _ I1 q1) λiv s2 q131q=>Calls.spliced_nil ?_)));obtain⟨y,H2,I2,ry,zs,hsq,j,f1,f2,g1,g2,q2⟩:=q131q;rcases hsq with ⟨_,hsq⟩ | ⟨hst,_⟩
  ·exact zmF pins s2 σ H2 (.ref a) [y] (.ref a) [iv] Q I2 rfl (.cons ry .nil) ⟨a,zs,y,j,rfl,rfl,hsq,f1,f2,g1,g2,q2⟩
  ·exact(PL.zez I1 d hst).elim
 ·obtain⟨ob,h1,h2,h4⟩:=I1.zsI d;refine⟨"tuple","tuple.index",PySem.F.plainAttrs_tuple,PySem.F.slot_tuple_index,PySem.F.type_tuple_index,⟨ob,h1,h2⟩,λb q=>by cases q;exact⟨ob,h1,h4⟩,?_⟩;rw[m.trees];refine Calls.callWith_builtin rfl (Calls.evalArgs_plain (Calls.spliced_cons (thn (he pins s1 σ H1 _ I1 q1) λiv s2 q132q=>Calls.spliced_nil ?_)));obtain⟨y,H2,I2,ry,zs,hsq,j,f1,f2,g1,g2,q2⟩:=q132q;rcases hsq with ⟨hsl,_⟩ | ⟨_,hsq⟩
  ·exact(PL.zez I1 hsl d).elim
  ·exact zmG pins s2 σ H2 (.ref a) [y] (.ref a) [iv] Q I2 rfl (.cons ry .nil) ⟨a,zs,y,j,rfl,rfl,hsq,f1,f2,g1,g2,q2⟩
end
end L2
namespace PL
open PySem PySem.Spec L2
open PyProof.Rows hiding St
noncomputable def pIdx (to te:TPE):TPE:=λρ Q=>to ρ λd _=>∃ds,(d=.lst ds\/d=.tup ds)/\ds.all zfY=true/\te ρ λe _=>zfY e=true/\e∈ds/\Q (.int (idxP ds e:Int)) .frz
section
variable {X:Cx}{o e:Expr}{to te:TPE}{apos cpos:Pos}
theorem zjR (ho:PuE X o to)(he:PuE X e te)(m:autoParam (M1 X o "index" apos e cpos) aU7):PuE X (.Call (.Attribute o "index" apos) [e] [] cpos) (pIdx to te) where
 mono ρ Q Q' mm h:=ho.mono ρ _ _ (λd _ q133q=>by obtain⟨ds,e1,e2,h⟩:=q133q;exact⟨ds,e1,e2,he.mono ρ _ _ (λe _ q134q=>by obtain⟨q1,q2,q⟩:=q134q;exact⟨q1,q2,mm _ _ q⟩) h⟩) h
 run:=PE.weak (zos ho.run he.run m) λσ H Q h=>by
  obtain⟨ρ,Fz,R,h⟩:=h;refine⟨ρ,Fz,R,ho.mono ρ _ _ (λd k q v F1 H1 p1=>?_) h⟩;obtain⟨ds,hd,f,q⟩:=q;have rt:=p1.root R;obtain⟨a,xs,rfl,hsq,hsq2,h2⟩:∃a xs,v=.ref a/\(SqL X.K H1 a xs\/SqT X.K H1 a xs)/\(∀H2,Same H1 H2->(SqL X.K H1 a xs/\SqL X.K H2 a xs\/SqT X.K H1 a xs/\SqT X.K H2 a xs))/\DenL X.K F1 H1 ds xs:=by
   rcases hd with rfl | rfl
   ·obtain⟨a,xs,rfl,h1,h2⟩:=zam rt;exact⟨a,xs,rfl,.inl h1,λH2 s=>.inl ⟨h1,s.seq h1⟩,h2⟩
   ·obtain⟨a,xs,rfl,h1,h2⟩:=zey rt;exact⟨a,xs,rfl,.inr (SqT.of h1),λH2 s=>.inr ⟨SqT.of h1,SqT.of (s _ _ h1)⟩,h2⟩
  refine⟨a,xs,rfl,hsq,ρ,F1,R.ext p1.ext,he.mono ρ _ _ (λe ke q w F2 H2 p2=>?_) q⟩;obtain⟨fe,hm,q⟩:=q;have h3:=DenL.mono (.of p2.ext.same) p2.ext.sub _ _ h2;have hy:=zmI fe (p2.root (R.ext p1.ext));obtain⟨g1,g2⟩:=zqI f fe h3 hy hm;exact⟨xs,hsq2 H2 p2.ext.same,idxP ds e,zjQ fe hy,zia f h3,g1,g2,q _ F2 H2 ⟨p1.ext.trans p2.ext,by show Den _ _ _ _ _;simp only[Den]⟩⟩
end
section
variable {X:Cx}{a:Expr}{ta:TPE}{pos:Pos}
noncomputable def pNeg (ta:TPE):TPE:=λρ Q=>ta ρ λd _=>∃i:Int,d=.int i/\Q (.int (-i)) .frz
theorem zsL (ha:PuE X a ta):PuE X (.UnaryOp .USub a pos) (pNeg ta) where
 mono ρ Q Q' m h:=ha.mono ρ _ _ (λd k q135q=>by obtain⟨c,e,q⟩:=q135q;exact⟨c,e,m _ _ q⟩) h
 run:=PE.weak (zrz zoY ha.run) λσ H Q h=>by
  obtain⟨ρ,Fz,R,h⟩:=h;refine⟨ρ,Fz,R,ha.mono ρ _ _ (λd k ⟨c,e,q⟩ v Fz' H' p=>⟨c,?_,q _ Fz' H' ⟨p.ext,by show Den _ _ _ _ _;simp only[Den]⟩⟩) h⟩;subst e;exact zaE (p.root R)
end
end PL
namespace Srt
open PySem PyProof.Rows
section
variable {σ α:Type}{M:Model}{A:Around}{E:Value->Shared->Prop}{s:Shared}{c:Prop}{dc:Decidable c}{Q:α->σ->Prop}{st:σ}
theorem zpk {L H:Nat}(h:¬ L>=H):L<=L+(H-L) / 2/\L+(H-L) / 2<H:=by lia
theorem zqO {L H:Nat}(h:¬ L>=H):L<=(L+H) / 2/\(L+H) / 2<H:=by lia
theorem zaA {x y:StateT σ Sem α}(h1:c->wpS M A E s x Q st)(h2:¬ c->wpS M A E s y Q st):wpS M A E s (if c then x else y) Q st:=by
 split
 ·exact h1 ‹_›
 ·exact h2 ‹_›
end
noncomputable def gal:Bool->Keyed->Array Keyed->Nat->Nat->Nat->StateT SortSt Sem (Option Nat):=sortPriv% PySem.Builtin.gallop
structure Cmp (prog:Program)(w:World)(A:Around)(E:Value->Shared->Prop)(s:Shared)(k:SortKind)(P:Keyed->Prop)(f:Keyed->Keyed->Bool):Prop where
 run:∀ {x y:Keyed} {Q:Option Bool->SortSt->Prop} {st:SortSt},P x->P y->kindOf st=k->Q (some (f x y)) st->wpS (model prog w) A E s (lt' x y) Q st
section
variable {prog:Program}{w:World}{A:Around}{E:Value->Shared->Prop}{s:Shared}{k:SortKind}{P:Keyed->Prop}{f:Keyed->Keyed->Bool}
theorem zmP {a:Array Keyed}{i:Nat}{x:Keyed}{Q:Keyed->SortSt->Prop}{st:SortSt}(hx:a[i]? = some x)(h:Q x st):wpS (model prog w) A E s (elem' a i) Q st:=by
 rw[elem'_eq,hx];exact wpS_pure h
end
structure Good {α:Type}(R:α->α->Prop)(a b out:List α):Prop where
 pm:out.Perm (a++b)
 so:out.Pairwise R
noncomputable def mLo:Array Keyed->Array Keyed->StateT SortSt Sem (Array Keyed):=sortPriv% PySem.Builtin.mergeLo
noncomputable def setG:Nat->StateT SortSt Sem Unit:=sortPriv% PySem.Builtin.setMinGallop
structure Same (st st':SortSt):Prop where
 kind:kindOf st'=kindOf st
 arr:arrOf st'=arrOf st
 pend:pendingOf st'=pendingOf st
 failed:failedOf st'=failedOf st
noncomputable abbrev Le (f:Keyed->Keyed->Bool)(x y:Keyed):Prop:=f y x=false
noncomputable def mHi:Array Keyed->Array Keyed->StateT SortSt Sem (Array Keyed):=sortPriv% PySem.Builtin.mergeHi
noncomputable def mAt:Nat->StateT SortSt Sem Bool:=sortPriv% PySem.Builtin.mergeAt
section
variable {prog:Program}{w:World}{A:Around}{E:Value->Shared->Prop}{s:Shared}{k:SortKind}{P:Keyed->Prop}{f:Keyed->Keyed->Bool}
noncomputable def Run (f:Keyed->Keyed->Bool)(a:Array Keyed)(lo hi:Nat):Prop:=∀(i j:Nat)(hj:j<a.size)(hij:i<j),lo<=i->j<hi->Le f (a[i]'(by lia)) a[j]
end
noncomputable def bin:Nat->Nat->Nat->StateT SortSt Sem Bool:=sortPriv% PySem.Builtin.binarySort
noncomputable def cnt:Nat->Nat->StateT SortSt Sem (Option Nat):=sortPriv% PySem.Builtin.countRun
section
variable {prog:Program}{w:World}{A:Around}{E:Value->Shared->Prop}{s:Shared}{k:SortKind}{P:Keyed->Prop}{f:Keyed->Keyed->Bool}
noncomputable abbrev rev (a:Array Keyed)(i j:Nat):Array Keyed:=mirror a i j ((j-i) / 2)
end
variable {P:Keyed->Prop}{f:Keyed->Keyed->Bool}
noncomputable def Stk (f:Keyed->Keyed->Bool)(a:Array Keyed):Nat->List (Nat×Nat×Nat)->Nat->Prop
 | s,[],hi=>s=hi
 | s,e::r,hi=>e.1=s/\0<e.2.1/\Run f a s (s+e.2.1)/\Stk f a (s+e.2.1) r hi
noncomputable def srt:StateT SortSt Sem Unit:=sortPriv% PySem.Builtin.sortRuns
section
variable {prog:Program}{w:World}{A:Around}{E:Value->Shared->Prop}{s:Shared}{k:SortKind}{P:Keyed->Prop}{f:Keyed->Keyed->Bool}
structure Inv (f:Keyed->Keyed->Bool)(k:SortKind)(a:Array Keyed)(st:SortSt)(lo:Nat):Prop where
 kind:kindOf st=k
 failed:failedOf st=none
 pm:(arrOf st).Perm a
 stk:Stk f (arrOf st) 0 (pendingOf st).toList lo
end
noncomputable def ltI:List Int->List Int->Bool
 | [],[]=>false
 | [],_::_=>true
 | _::_,[]=>false
 | x::xs,y::ys=>if x=y then ltI xs ys else decide (x<y)
noncomputable def TupAt (h:Heap)(v:Value)(ns:List Int):Prop:=∃a o vs n,v=.ref a/\h.get? a=some o/\o.cls=.type "tuple"/\o.data=.seq (List.toArray vs) n/\IntsAre vs ns
section
variable {prog:Program}{w:World}{M:Model}{A:Around}{E:Value->Shared->Prop}{s:Shared}
theorem zid {α β:Type}(f:α->β->Sem (ForInStep β))(I:List α->β->Prop){Q:β->Shared->Prop}
  (hstep:∀x rest b,I (x::rest) b->wpAny M A (f x b) (λr s'=>s'=s/\match r with | .done b'=>Q b' s | .yield b'=>I rest b') E s)
  (hend:∀b,I [] b->Q b s):∀(l:List α) (b:β),I l b->wpAny M A (forIn l b f) Q E s
 | [],b,h=>by rw[List.forIn_nil];exact wpAny_pure (hend _ h)
 | x::rest,b,h=>by
  rw[List.forIn_cons];refine wpAny_bind (wpAny_mono (hstep x rest b h) (λr s' h'=>?_) λ_ _ e=>e);obtain⟨es,h'⟩:=h';rw[es];cases r with
  | done b'=>exact wpAny_pure h'
  | yield b'=>exact zid f I hstep hend rest b' h'
theorem zmQ {a b:Int}{t u:Tok}{o:Bool}{Q:Bool->Shared->Prop}(h:Q (decide (a<b)) s):wpAny (model prog w) A (oneLt' o (.int a t) (.int b u)) Q E s:=by
 cases o with
 | true=>exact oneLt_int h
 | false=>
  rw[oneLt'_eq];simp only[Bool.false_eq_true,if_false];refine wpAny_bind (wpAny_lt_int (Q:=λr s'=>wpAny (model prog w) A (truthOfDropped r) Q E s') ?_);exact wpAny_truthy_bool h
end
section
variable {prog:Program}{w:World}{M:Model}{A:Around}{E:Value->Shared->Prop}{s:Shared}
theorem zjS {α β:Type}{g:α->Sem β}{φ:α->β}:∀(vs:List α){Q:List β->Shared->Prop},(∀v∈vs,∀ {Q':β->Shared->Prop},Q' (φ v) s->wpAny M A (g v) Q' E s)->Q (vs.map φ) s->wpAny M A (vs.mapM g) Q E s
 | [],Q,_,h=>by rw[List.mapM_nil];exact wpAny_pure h
 | v::vs,Q,hg,h=>by
  rw[List.mapM_cons];refine wpAny_bind (hg v Xh (wpAny_bind (zjS vs (λu hu=>hg u (Xf _ hu)) (wpAny_pure ?_))));exact h
theorem zmR {α β:Type}{g:α->Sem β}{φ:α->β}(vs:List α){Q:Array β->Shared->Prop}(hg:∀v∈vs,∀ {Q':β->Shared->Prop},Q' (φ v) s->wpAny M A (g v) Q' E s)(h:Q (vs.map φ).toArray s):wpAny M A (vs.toArray.mapM g) Q E s:=by
 rw[List.mapM_toArray,map_eq_pure_bind];exact wpAny_bind (zjS vs hg (wpAny_pure h))
noncomputable def zgl (h:Heap)(v:Value):Option Value:=match v with
 | .ref a=>match h.get? a with
  | some o=>match o.data with
   | .seq xs _=>xs[0]?
   | _=>none
  | none=>none
 | _=>none
theorem zjT {v:Value}{ns:List Int}(hv:TupAt s.heap v ns)(hn:ns≠[]):(∃n t,zgl s.heap v=some (.int n t))/\∀ {Q:Option Value->Shared->Prop},Q (zgl s.heap v) s->wpAny M A (firstOfTuple' v) Q E s:=by
 obtain⟨a,o,vs,n,rfl,e,c,d,i⟩:=hv;have hf:zgl s.heap (.ref a)=vs.toArray[0]?:=by unfold zgl;dsimp only;rw[e];dsimp only;rw[d]
 refine⟨?_,λ{Q} h=>?_⟩
 ·rw[hf];cases i with
  | nil=>exact absurd rfl hn
  | cons n t i=>exact⟨n,t,rfl⟩
 ·refine wpAny_bind (wpAny_typeOf (T:="tuple") ⟨o,e,c⟩ ?_);rw[if_neg (by decide)];refine wpAny_bind (listItems_at e d (wpAny_pure ?_));rw[<- hf];exact h
theorem zot {vs:List Value}{Q:SortKind->Shared->Prop}(hv:∀v∈vs,∃ns,TupAt s.heap v ns/\ns≠[])(h1:vs≠[])(h:Q (tuples' true) s):wpAny M A (keyKind' vs.toArray) Q E s:=by
 rw[keyKind'_eq];have hi:∀v∈vs,∃n t,zgl s.heap v=some (.int n t):=λv hm=>by
  obtain⟨ns,z1,z2⟩:=hv v hm;exact(zjT (M:=M) (A:=A) (E:=E) z1 z2).1
 refine wpAny_bind (zmR (φ:=zgl s.heap) vs (λv hm {Q'} q=>?_) ?_)
 ·obtain⟨ns,z1,z2⟩:=hv v hm;exact(zjT z1 z2).2 q
 have ha:((vs.map (zgl s.heap)).toArray.all λx=>x.isSome)=true:=by
  rw[List.all_toArray,List.all_map,XE];intro v hm;obtain⟨n,t,e⟩:=hi v hm;show(zgl s.heap v).isSome=true;rw[e];rfl
 rw[if_pos ha];have hx:∃us:List Value,(vs.map (zgl s.heap)).filterMap id=us/\us≠[]/\∀u∈us,∃n t,u=Value.int n t:=by
  refine⟨_,rfl,?_,λu hu=>?_⟩
  ·cases vs with
   | nil=>exact absurd rfl h1
   | cons v vs=>
    obtain⟨n,t,e⟩:=hi v Xh;rw[Xp,e];simp
  ·rw[List.mem_filterMap]at hu;obtain⟨o,ho,e⟩:=hu;obtain⟨v,hm,rfl⟩:=XA.mp ho;obtain⟨n,t,e2⟩:=hi v hm;have e:zgl s.heap v=some u:=e;rw[e2]at e;exact⟨n,t,(Option.some.inj e).symm⟩
 obtain⟨us,e1,e2,e3⟩:=hx;refine wpAny_bind (wpAny_rule ?_);rw[List.filterMap_toArray,e1,oneTypeOnly'_eq,List.mapM_toArray,mapM_typeOf_ints (intsAre_map us e3)];simp only[map_pure,pure_bind];cases us with
 | nil=>exact absurd rfl e2
 | cons u us=>
  have h0:(Yc (λ_=>Value.type "int") (u::us)).toArray[0]? = some (Value.type "int"):=rfl;have hall:((Yc (λ_=>Value.type "int") (u::us)).toArray.all λx=>x == Value.type "int")=true:=by
   rw[List.all_toArray,List.all_map,XE];intro _ _;rfl
  rw[h0];simp only[hall,if_true,pure_bind];exact wpAny_pure h
noncomputable abbrev refsOf (us:List (Addr×List Int)):List Value:=us.map λu=>Value.ref u.1
theorem zjU:∀us:List (Addr×List Int),(refsOf us).zip (refsOf us)=us.map λu=>(Value.ref u.1,Value.ref u.1)
 | []=>rfl
 | u::us=>by show(_,_)::(refsOf us).zip (refsOf us)=_;rw[zjU us];rfl
end
end Srt
namespace L2
open PySem PySem.Spec PyProof.Rows
theorem zie:∀ {us:List (Addr×List Int)}{its:List Value},Vals (us.map λu=>V.ref u.1) its->its=Srt.refsOf us
 | [],_,r=>by cases r;rfl
 | u::us,_,r=>by
  cases r with
  | cons r1 r2=>
   have e:_=Value.ref u.1:=r1;rw[e,zie r2];rfl
theorem zif:∀(us:List (Addr×List Int)),Vals (us.map λu=>V.ref u.1) (Srt.refsOf us)
 | []=>.nil
 | u::us=>.cons rfl (zif us)
theorem ints_of:∀ {ns:List Int}{its:List Value},Vals (ns.map V.int) its->IntsAre its ns
 | [],_,r=>by cases r;exact .nil
 | n::ns,_,r=>by
  cases r with
  | cons r1 r2=>
   obtain⟨t,rfl⟩:=(show ∃t,_=Value.int n t from r1);exact .cons n t (ints_of r2)
end L2
namespace PL
open PySem PySem.Spec L2
open PyProof.Rows hiding St
open Srt (ltI)
theorem zjV {K:Xa}{Fz:FZ}{H:Hp}:∀ {ss:List Int}{xs:List V},DenL K Fz H (ss.map PV.int) xs->xs=ss.map V.int
 | [],xs,h=>by rw[YL]at h;simp only[DenL]at h;exact h
 | s::r,xs,h=>by
  rw[Xp]at h;simp only[DenL]at h;obtain⟨v,t,z,h1,h2⟩:=h;simp only[Den]at h1;subst z h1;rw[Xp,zjV h2]
theorem zjW {K:Xa}{Fz:FZ}{H:Hp}:∀(ss:List Int),DenL K Fz H (ss.map PV.int) (ss.map V.int)
 | []=>DenL.nil
 | s::r=>by rw[Xp,Xp];exact DenL.cons (by simp only[Den]) (zjW r)
theorem zig {K:Xa}{Fz:FZ}{H:Hp}:∀ {ss:List (List Int)}{xs:List V},DenL K Fz H (ss.map λr=>PV.tup (r.map PV.int)) xs->∃us:List (Addr×List Int),xs=us.map (λu=>V.ref u.1)/\us.map (·.2)=ss/\∀u∈us,H u.1=some (.tup (u.2.map V.int))
 | [],xs,h=>by rw[YL]at h;simp only[DenL]at h;exact⟨[],h,rfl,λu hu=>by cases hu⟩
 | s::r,xs,h=>by
  rw[Xp]at h;simp only[DenL]at h;obtain⟨v,t,z,h1,h2⟩:=h;simp only[Den]at h1;obtain⟨p,ys,e1,e2,e3⟩:=h1;have e4:=zjV e3;subst e4;obtain⟨us,g1,g2,g3⟩:=zig h2;refine⟨(p,s)::us,by rw[z,e1,g1];rfl,by rw[Xp,g2],λu hu=>?_⟩;rcases Xu.mp hu with rfl | hu
  ·exact e2
  ·exact g3 u hu
theorem zih {K:Xa}{Fz:FZ}{H:Hp}:∀(us:List (Addr×List Int)),(∀u∈us,H u.1=some (.tup (u.2.map V.int)))->DenL K Fz H ((us.map (·.2)).map λr=>PV.tup (r.map PV.int)) (us.map λu=>V.ref u.1)
 | [],_=>DenL.nil
 | u::us,h=>by
  rw[Xp,Xp,Xp];refine DenL.cons ?_ (zih us λv hv=>h v (Xf _ hv));simp only[Den];exact⟨u.1,_,rfl,h u Xh,zjW u.2⟩
section
variable {X:Cx}{e:Expr}{es:List Expr}{te:TPE}{t:TPA}{x:Str}{p p1 p2 q1 pos pos2 apos cpos:Pos}
noncomputable def zdI (i:Nat)(te:TPE):TPM:=λρ Q=>∃ds,ρ[i]? = some (some (.lst ds,true))/\te ρ λd k=>∃es,d=.lst es/\k=.new/\ds.length+es.length<=sizeLine/\Q .non (ρ.set i (some (.lst (ds++es),true)))
theorem zou (i:Nat)(he:PuE X e te)(hN:autoParam (X.N[i]? = some x) aU0)(hv:autoParam (Vis X.env.scope x) aU4)(hd:autoParam ((x == ("__debug__" : Str))=false) aU1) (hcd:autoParam ((x == ("__classdict__" : Str))=false) aU1)
  (hbase:autoParam (attributeBase (.Name x p) "extend" X.env (eval (.Name x p) X.env)=eval (.Name x p) X.env) aU0)
  (hfew:autoParam (((backTo cpos (starEach [e] X.env)).all (λx=>!x.1)&&(backToKw cpos (keywordEach [] X.env)).all (λx=>x.1.isSome)&&decide ([e].length+([]:List Keyword).length+(if ([]:List Keyword).isEmpty then 0 else 1)<30))=true) aU0)
  (hline:autoParam ((apos.endLine == cpos.line)=true) aU0) (hs:autoParam (starEach [e] X.env=(false,eval e X.env)::starEach [] X.env) aU0) (hplain:autoParam ((backTo cpos (starEach [] X.env)).any (·.1)=false) aU0):PuM X (.Call (.Attribute (.Name x p) "extend" apos) [e] [] cpos) (zdI i te) where
 mono ρ Q Q' m h:=by
  obtain⟨ds,e1,h⟩:=h;exact⟨ds,e1,he.mono ρ _ _ (λd _ q137q=>by obtain⟨es,q1,q2,q3,q⟩:=q137q;exact⟨es,q1,q2,q3,m _ _ q⟩) h⟩
 run:=PE.weak (zpR PySem.F.plainAttrs_list PySem.F.slot_list_extend PySem.F.type_list_extend zlD (zdn hN hv hd hcd) (zgL he.run zhy hs) hbase hfew hline hs hplain) λσ H Q h=>by
  obtain⟨ρ,Fz,R,ds,e1,h⟩:=h;obtain⟨a,xs,hs,ha,hd,nf⟩:=zfR R e1;refine⟨_,hs,.inl ⟨rfl,xs,SqL.of ha⟩,ρ,Fz,R,he.mono ρ _ _ (λd k q v F1 H1 p1=>?_) h⟩;obtain⟨es,rfl,rfl,q2,q⟩:=q;have R2:=R.ext p1.ext;obtain⟨a',xs',hs',ha',hd',nf'⟩:=zfR R2 e1;rw[hs]at hs';cases hs';obtain⟨pe,b,rfl,hb0,hbf,zs,hb,hz⟩:=p1;have hl:=hd'.length;have hl2:=hz.length;refine⟨a,b,xs',zs,rfl,rfl,ha',hb,by lia,?_⟩;have ow:Own X.K F1 (upd H1 a (.lst (xs'++zs))) (.lst (ds++es)) a:=⟨_,zal,(DenL.rew ha' nf' (hd'.append hz))⟩;obtain⟨R3,s3,o3⟩:=R2.mut e1 hs ha' ow;exact q .non F1 _ ((Step.of pe).trans (zaL.refl ρ σ H) s3) (zaL.trans (Step.of pe) (zaL.refl ρ σ H) o3) R3 (by simp only[Den])
end
end PL
namespace L2
open PySem PySem.Spec PyProof.Rows
theorem zeZ {h:Heap}{a:Addr}{its:Array Value}(x:IsTup h a its):h.IsTuple a its:=x
noncomputable def zsM (K:Xa)(a b:Addr):It:=
  ⟨λi H=>∃xs ys x y,SqT K H a xs/\xs[i]? = some x/\SqT K H b ys/\ys[i]? = some y,
   λi H x H'=>∃p u v,x=.ref p/\H p=none/\(∀xs,SqT K H a xs->xs[i]? = some u)/\(∀ys,SqT K H b ys->ys[i]? = some v)/\H'=upd H p (.tup [u,v]),
   λi H=>∃xs,SqT K H a xs/\xs.length<=i⟩
theorem zkS {P:Program}{w:World}{K:Xa}{elts:List Expr}{x1:Nat}{pos:Pos}(a b z TI TO i1 i2:Addr)(D:ZipApart z TI TO i1 i2 a b) :
  Turn P w K (.Tuple elts x1 pos) (zsM K a b) [z,TI,TO,i1,i2] z (λi h=>IsZip h z TI TO .none/\IsPair h TI (.ref i1) (.ref i2)/\(∃u v,IsPair h TO u v)/\h.IsTupleIter i1 a i/\h.IsTupleIter i2 b i) where
 mem:=by simp
 obj:=λi h st c hc=>by
  obtain⟨h1,h2,⟨u,v,h3⟩,⟨o4,h4,_,d4⟩,⟨o5,h5,_,d5⟩⟩:=st;simp only[Xu,YJ,or_false]at hc;rcases hc with rfl | rfl | rfl | rfl | rfl
  ·exact⟨_,h1,λv z=>by cases z⟩
  ·exact⟨_,h2,λv z=>by cases z⟩
  ·exact⟨_,h3,λv z=>by cases z⟩
  ·exact⟨_,h4,λv z=>by rw[d4]at z;cases z⟩
  ·exact⟨_,h5,λv z=>by rw[d5]at z;cases z⟩
 keep:=λi h h' st k=>by
  obtain⟨h1,h2,⟨u,v,h3⟩,h4,h5⟩:=st;exact⟨k z (by simp) _ h1,k TI (by simp) _ h2,⟨u,v,k TO (by simp) _ h3⟩,h4.at λo q=>k i1 (by simp) o q,h5.at λo q=>k i2 (by simp) o q⟩
 item:=by
  intro X hP hw hK hc i pins s σ H E I hf st hg;subst hP hw hK;obtain⟨h1,h2,⟨c1,c2,h3⟩,h4,h5⟩:=st;obtain⟨xs,ys,x,y,hq,hx,hq2,hy⟩:=hg;obtain⟨its,rv,p,hz⟩:=I.tuple hq;obtain⟨u,hu,ru⟩:=rv.get hx;obtain⟨its2,rv2,p2,hz2⟩:=I.tuple hq2;obtain⟨u2,hu2,ru2⟩:=rv2.get hy;have hfr:H s.heap.objs.size=none:=I.hok.fresh (Xi _);have lt:∀c∈[z,TI,TO,i1,i2],c<s.heap.objs.size:=λc hc=>by
   simp only[Xu,YJ,or_false]at hc;rcases hc with rfl | rfl | rfl | rfl | rfl
   ·exact Xo h1
   ·exact Xo h2
   ·exact Xo h3
   ·obtain⟨o,ho,_⟩:=id h4;exact Xo ho
   ·obtain⟨o,ho,_⟩:=id h5;exact Xo ho
  refine JZ2.next_item D h1 h2 h3 h4 h5 (zeZ p) (zeZ p2) (x:=u) (y:=u2) (by simpa using hu) (by simpa using hu2) λhp1 g1 g3 g4 g5 gt gz gk=>⟨.ref s.heap.objs.size,rfl,?_⟩;refine wpAny_letOwnedTupleGo_zip g1 λhp2 k1 ks=>?_;replace ks:Ym z hp1 hp2:=ks;have I1:=I.laid (a:=s.heap.objs.size) (o:=.tup [x,y]) (h':=s.heap.push { cls:=.type "tuple",data:=.seq #[u,u2] }) (t':=s.toks) (λb u e=>Xe _ e) (Xi _)
   ⟨by show 2<=sizeLine;decide,[u,u2],.cons ru (.cons ru2 .nil),zdd.new _ _⟩
  have hfp:∀c∈[z,TI,TO,i1,i2],FpOk X pins (upd H s.heap.objs.size (.tup [x,y])) c:=λc hc=>by
   obtain⟨f0,fr⟩:=hf c hc;exact⟨by rw[zaj (XJ (lt c hc))];exact f0,fr⟩
  have I2:=I1.zfU (h':=hp2) (t':=s.toks) (ch:=[z,TI,TO,i1,i2]) (λc o hc ec=>by
   have n1:c≠z:=λe=>hc (by simp[e]);refine(ks.2 c n1).trans ?_;rcases Heap.get?_push_cases ec with ⟨rfl,rfl⟩ | ec
   ·exact gt
   ·exact gk c o n1 (λe=>hc (by simp[e])) (λe=>hc (by simp[e])) (λe=>hc (by simp[e])) ec) hfp
  refine⟨.ref s.heap.objs.size,_,I2,rfl,⟨_,x,y,rfl,hfr,λzs hz=>by rw[I.zeo hz hq];exact hx,λzs hz=>by rw[I.zeo hz hq2];exact hy,rfl⟩,⟨k1,?_,⟨u,u2,?_⟩,?_,?_⟩,λc hc=>(hfp c hc).1⟩
  ·exact(ks.2 TI D.TIz).trans (gk TI _ D.TIz D.TITO D.TIi1 D.TIi2 h2)
  ·exact(ks.2 TO D.TOz).trans g3
  ·exact g4.extBut ks.extBut D.i1z
  ·exact g5.extBut ks.extBut D.i2z
 done:=by
  intro X hP hw hK hc i pins s σ H E I hf st hg;subst hP hw hK;obtain⟨h1,h2,⟨c1,c2,h3⟩,h4,h5⟩:=st;obtain⟨xs,hq,hx⟩:=hg;obtain⟨its,rv,p,hz⟩:=I.tuple hq;have hl:=rv.length;refine JZ2.next_end (I.ok.hd hc) D h1 h2 h4 (zeZ p) (by simp;lia) λh' gk=>⟨rfl,?_⟩;exact I.zfU (t':=s.toks) (ch:=[z,TI,TO,i1,i2]) (λc o hc ec=>gk c o (λe=>hc (by simp[e])) (λe=>hc (by simp[e])) (λe=>hc (by simp[e])) (λe=>hc (by simp[e])) ec) hf
 self:=λ_ _ _ _ _ st h=>wpAny_pyIter_zip st.1 h
section
variable {X:Cx}{elts:List Expr}{x1:Nat}{tpos p pos:Pos}{e e2:Expr}{t:TA}
noncomputable def zsN (K:Xa)(t:TA):TI:=λσ H R=>t σ H λvs H1=>∃a b,vs=[.ref a,.ref b]/\(∃xs,SqT K H1 a xs)/\(∃ys,SqT K H1 b ys)/\R (zsM K a b) H1
theorem zov (hg:Gl X "zip") (hm:X.mg "zip" = none) (ha:PA X [e,e2] t) (he:autoParam (starEach [e,e2] X.env=(false,eval e X.env)::starEach [e2] X.env) aU0) (hpl:autoParam ((backTo pos (starEach [e2] X.env)).any (·.1)=false) aU0) :
  PI X (.Tuple elts x1 tpos) (.Call (.Name "zip" p) [e,e2] [] pos) (zsN X.K t):=by
 intro pins s σ H R I h;refine wpAny_Call_Name_kw (zea I hg hm zfX ?_ (by decide) (by decide));refine PyProof.Rows.callWith_type1 (thn (ha pos pins s σ H _ I h) λus s1 q138q=>?_) he hpl;obtain⟨vs,H1,I1,r1,a,b,ev,⟨xs,hq⟩,⟨ys,hq2⟩,q⟩:=q138q;subst ev;obtain⟨u1,u2,rfl,r2,r3⟩:=vals2 r1;obtain rfl:u1=Value.ref a:=r2;obtain rfl:u2=Value.ref b:=r3;obtain⟨its,r,pl,hz⟩:=I1.tuple hq;obtain⟨its2,r',pl2,hz2⟩:=I1.tuple hq2;have ha':@LT.lt Nat _ a s1.heap.objs.size:=by obtain⟨o,ho,_⟩:=(zeZ pl);exact Xo ho
 have hb':@LT.lt Nat _ b s1.heap.objs.size:=by obtain⟨o,ho,_⟩:=zeZ pl2;exact Xo ho
 refine JZ2.zjP (zeZ pl) (zeZ pl2) λh' g1 g2 g3 g4 g5 gk=>?_;refine wpAny_pyIter_zip (s:={ s1 with heap:=h' }) g1 ?_;have I2:Inv X pins σ H1 { s1 with heap:=h' }:=I1.kept (t':=s1.toks) gk;have D:ZipApart (s1.heap.objs.size+4) (s1.heap.objs.size+2) (s1.heap.objs.size+3) s1.heap.objs.size (s1.heap.objs.size+1) a b:=by constructor<;>first | exact XJ (by lia) | exact Yd (by lia)
 refine⟨_,_,_,_,H1,rfl,I2,zkS a b _ _ _ _ _ D,⟨g1,g2,⟨_,_,g3⟩,g4,g5⟩,λc hc=>?_,q⟩;have hc':s1.heap.objs.size<=c:=by
  simp only[Xu,YJ,or_false]at hc;rcases hc with rfl | rfl | rfl | rfl | rfl<;>lia
 exact I1.fpOk hc' (I1.hok.fresh hc')
end
end L2
namespace PL
open PySem PySem.Spec L2
open PyProof.Rows hiding St
noncomputable def zbi (t:TPA):TPI:=λρ Q=>t ρ λops=>noOwn ops=true/\∃ds es,ops.map (·.1)=[.tup ds,.tup es]/\ds.length<=es.length/\Q (zipP ds es) false
section
variable {X:Cx}{elts:List Expr}{x1:Nat}{tpos p pos:Pos}{e e2:Expr}{t:TPA}
theorem zmS (hg:Gl X "zip") (hm:X.mg "zip" = none) (ha:PuA X [e,e2] t) (he:autoParam (starEach [e,e2] X.env=(false,eval e X.env)::starEach [e2] X.env) aU0) (hpl:autoParam ((backTo pos (starEach [e2] X.env)).any (·.1)=false) aU0) :
  PuI X (.Tuple elts x1 tpos) (.Call (.Name "zip" p) [e,e2] [] pos) (zbi t) where
 mono ρ Q Q' m h:=ha.mono ρ _ _ (λops q139q=>by obtain⟨e1,ds,es,e,e4,q⟩:=q139q;exact⟨e1,ds,es,e,e4,m _ _ q⟩) h
 run:=PI.weak (zov hg hm ha.run he hpl) λσ H Rr h=>by
  obtain⟨ρ,Fz,R,h⟩:=h;refine⟨ρ,Fz,R,ha.mono ρ _ _ (λops q vs Fz' H' x o=>?_) h⟩;obtain⟨hn,ds,es,eo,hle,q⟩:=q;obtain⟨F2,x2,s2,d2⟩:=o.frozen x hn;rw[eo]at d2;simp only[DenL]at d2;obtain⟨v1,r1,rfl,d1,v2,r2,rfl,d3,rfl⟩:=d2;simp only[Den]at d1 d3;obtain⟨a,xs,rfl,a1,a2⟩:=d1;obtain⟨b,ys,rfl,b1,b2⟩:=d3;have sqa:∀ {H2:Hp},Keep F2 H' H2->SqT X.K H2 a xs:=λkp=>kp.sqT a1;have sqt:∀ {H2:Hp},Keep F2 H' H2->SqT X.K H2 b ys:=λkp=>kp.sqT b1;refine⟨a,b,rfl,⟨xs,sqa (.of (Same.refl _))⟩,⟨ys,sqt (.of (Same.refl _))⟩,q _ F2 H' x2 λH2 hH i=>?_⟩;have kp:Keep F2 H' H2:=hH.elim (λz=>.of z) (λz=>.mk' z.2);have g1:=sqa kp;have g2:=sqt kp;have m1:=DenL.mono kp (λ_ h=>h) _ _ a2;have m2:=DenL.mono kp (λ_ h=>h) _ _ b2;have l1:=m1.length;have l2:=m2.length;refine⟨λd hd=>?_,λhi=>⟨xs,g1,by rw[zfv]at hi;lia⟩⟩;obtain⟨u,w,hu,hw,rfl⟩:=zfu hd;obtain⟨v,q1,q2⟩:=m1.get hu;obtain⟨v',q3,q4⟩:=m2.get hw;refine⟨⟨xs,ys,v,v',g1,q1,g2,q3⟩,λy H3 q140q=>?_⟩;obtain⟨pp,c1,c2,ey,hnp,gy,gy2,e3⟩:=q140q;subst ey e3;have e1:=gy xs g1;rw[q1]at e1;cases e1;have e2:=gy2 ys g2;rw[q3]at e2;cases e2;have sm:Same H2 (upd H2 pp (.tup [v,v'])):=λb o hb=>by rw[zaj (zaD hb hnp)];exact hb
  refine⟨sm,?_⟩;simp only[Den];exact⟨pp,_,rfl,zal,DenL.cons (Den.mono (.of sm) (λ_ h=>h) _ _ q2) (DenL.cons (Den.mono (.of sm) (λ_ h=>h) _ _ q4) DenL.nil)⟩
end
theorem zqP {ks:List Key}{ys:List V}{its:List Value}(r:Vals ys its):KV (ks.zip ys) (ks.zip its):=by
 induction r generalizing ks with
 | nil=>cases ks<;>exact .nil
 | cons h1 h2 ih=>
  cases ks with
  | nil=>exact .nil
  | cons k ks=>exact .cons ⟨rfl,h1⟩ ih
theorem zqQ {P:Program}{w:World}{ks:List Key}{its:List Value}(r:Vals (ks.map kV) its)(i:Nat)(k:Key)(x:Value)(h1:ks[i]? = some k)(h2:its[i]? = some x):(zaS P w).is k x=true:=by
 obtain⟨u,hu,ru⟩:=r.get (i:=i) (x:=kV k) (by rw[Xk,h1];rfl);rw[h2]at hu;cases hu;cases k with
 | inl n=>obtain⟨t,rfl⟩:=ru;exact zfE _ _ _ _
 | inr n=>obtain⟨t,rfl⟩:=ru;exact zfF _ _ _ _
section
variable {X:Cx}{e e2:Expr}{t:TA}{p p2 pos pos2:Pos}
noncomputable def zmT (K:Xa)(t:TA):TE:=λσ H Q=>t σ H λvs H1=>∃(a b:Addr)(ks:List Key)(ys:List V),vs=[.ref a,.ref b]/\SqT K H1 a (ks.map kV)/\SqT K H1 b ys/\ks.length=ys.length/\ks.Nodup/\∀l,H1 l=none->Q (.ref l) (upd H1 l (.dK (ks.zip ys)))
theorem zkT (hc:X.calm=true)(hg:Gl X "dict") (hm:X.mg "dict" = none) (hg2:Gl X "zip") (hm2:X.mg "zip" = none) (ha:PA X [e,e2] t)
  (hs1:autoParam (starEach [e,e2] X.env=(false,eval e X.env)::starEach [e2] X.env) aU0) (hpl1:autoParam ((backTo pos2 (starEach [e2] X.env)).any (·.1)=false) aU0)
  (hs2:autoParam (starEach [Expr.Call (.Name "zip" p2) [e,e2] [] pos2] X.env=(false,eval (Expr.Call (.Name "zip" p2) [e,e2] [] pos2) X.env)::starEach [] X.env) aU0) (hpl2:autoParam ((backTo pos (starEach [] X.env)).any (·.1)=false) aU0) :
  PE X (.Call (.Name "dict" p) [.Call (.Name "zip" p2) [e,e2] [] pos2] [] pos) (zmT X.K t):=by
 intro pins s σ H Q I h;refine wpAny_Call_Name_kw (zea I hg hm zss ?_ (by decide) (by decide));refine PyProof.Rows.callWith_type1 ?_ hs2 hpl2;rw[hs2];show wpAny _ _ (spliced ((false,eval _ X.env)::backTo pos (starEach [] X.env))) _ _ s;refine Calls.spliced_cons (wpAny_Call_Name_kw (zea I hg2 hm2 zfX ?_ (by decide) (by decide)));refine PyProof.Rows.callWith_type1 (thn (ha pos2 pins s σ H _ I h) λus s1 q141q=>?_) hs1 hpl1;obtain⟨vs,H1,I1,r1,a,b,ks,ys,ev,hq,hq2,hly,nd,q⟩:=q141q;subst ev;obtain⟨u1,u2,rfl,r2,r3⟩:=vals2 r1;obtain rfl:u1=Value.ref a:=r2;obtain rfl:u2=Value.ref b:=r3;obtain⟨its,r,pl,hz⟩:=I1.tuple hq;obtain⟨its2,r',pl2,hz2⟩:=I1.tuple hq2;have ha':@LT.lt Nat _ a s1.heap.objs.size:=by obtain⟨o,ho,_⟩:=zeZ pl;exact Xo ho
 have hb':@LT.lt Nat _ b s1.heap.objs.size:=by obtain⟨o,ho,_⟩:=zeZ pl2;exact Xo ho
 refine JZ2.zjP (zeZ pl) (zeZ pl2) λh' g1 g2 g3 g4 g5 gk=>Calls.spliced_nil ?_;have D:ZipApart (s1.heap.objs.size+4) (s1.heap.objs.size+2) (s1.heap.objs.size+3) s1.heap.objs.size (s1.heap.objs.size+1) a b:=by constructor<;>first | exact XJ (by lia) | exact Yd (by lia)
 have hlen:=r.length;have hlen2:=r'.length;rw[Xb]at hlen;refine JZ2.zmD (knd:=zaS X.prog X.w) (s:={ s1 with heap:=h' }) (I1.ok.hd hc) D ks (by simpa using hlen) (λi k x e1 e2=>zqQ r i k x e1 (by simpa using e2)) nd (by simp;lia) g1 g3 g2 g4 g5 ((zeZ pl).at λo x=>gk a o x) ((zeZ pl2).at λo x=>gk b o x) (by simp;rw[Xb]at hz;lia) λh2 tk hD hk2=>?_;have kp:∀c o,s1.heap.get? c=some o->h2.get? c=some o:=λc o x=>by
  have hl:@LT.lt Nat _ c s1.heap.objs.size:=Xo x;exact hk2 c o (XJ (by lia)) (XJ (by lia)) (XJ (by lia)) (XJ (by lia)) (gk c o x)
 have hfr:s1.heap.objs.size<=h'.objs.size:=by have z:@LT.lt Nat _ (s1.heap.objs.size+4) h'.objs.size:=Xo g1;lia
 refine⟨.ref h'.objs.size,upd H1 h'.objs.size (.dK (ks.zip ys)),I1.laid (t':=tk) kp hfr (zlG (by rw[Ys];rw[Xb]at hz;lia) ?_ (zqP r') ?_),rfl,q _ (I1.hok.fresh hfr)⟩
 ·have hne:h'.objs.size≠sysModules:=Yd (XQ I1.big hfr);simpa using hne
 ·simpa using hD
end
theorem zjX {K:Xa}{Fz:FZ}{H:Hp}:∀ {ks:List Key}{xs:List V},DenL K Fz H (ks.map keyP) xs->xs=ks.map kV
 | [],xs,h=>by simpa only[YL,DenL]using h
 | k::ks,xs,h=>by
  simp only[Xp,DenL]at h;obtain⟨x,r,rfl,h1,h2⟩:=h;rw[zjX h2,Xp]
  congr 1
  cases k<;>simpa only[keyP,kV,Den]using h1
noncomputable def zaO (t:TPA):TPE:=λρ Q=>t ρ λops=>noOwn ops=true/\∃(ks:List Key)(es:List PV),ops.map (·.1)=[.tup (ks.map keyP),.tup es]/\ks.length=es.length/\ks.Nodup/\Q (.dK ks es) .new
section
variable {X:Cx}{e e2:Expr}{t:TPA}{p p2 pos pos2:Pos}
theorem zkU (hc:X.calm=true)(hg:Gl X "dict") (hm:X.mg "dict" = none) (hg2:Gl X "zip") (hm2:X.mg "zip" = none) (ha:PuA X [e,e2] t)
  (hs1:autoParam (starEach [e,e2] X.env=(false,eval e X.env)::starEach [e2] X.env) aU0) (hpl1:autoParam ((backTo pos2 (starEach [e2] X.env)).any (·.1)=false) aU0)
  (hs2:autoParam (starEach [Expr.Call (.Name "zip" p2) [e,e2] [] pos2] X.env=(false,eval (Expr.Call (.Name "zip" p2) [e,e2] [] pos2) X.env)::starEach [] X.env) aU0) (hpl2:autoParam ((backTo pos (starEach [] X.env)).any (·.1)=false) aU0) :
  PuE X (.Call (.Name "dict" p) [.Call (.Name "zip" p2) [e,e2] [] pos2] [] pos) (zaO t) where
 mono ρ Q Q' m h:=ha.mono ρ _ _ (λops q142q=>by obtain⟨e1,ks,es,e,e4,e5,q⟩:=q142q;exact⟨e1,ks,es,e,e4,e5,m _ _ q⟩) h
 run:=PE.weak (zkT hc hg hm hg2 hm2 ha.run hs1 hpl1 hs2 hpl2) λσ H Q h=>by
  obtain⟨ρ,Fz,R,h⟩:=h;refine⟨ρ,Fz,R,ha.mono ρ _ _ (λops q vs F1 H1 x o=>?_) h⟩;obtain⟨hn,ks,es,eo,hle,nd,q⟩:=q;obtain⟨F2,x2,s2,d2⟩:=o.frozen x hn;rw[eo]at d2;simp only[DenL]at d2;obtain⟨v1,r1,rfl,d1,v2,r2,rfl,d3,rfl⟩:=d2;simp only[Den]at d1 d3;obtain⟨a,xs,rfl,a1,a2⟩:=d1;obtain⟨b,ys,rfl,b1,b2⟩:=d3;have exs:=zjX a2;subst exs;have kp:Keep F2 H1 H1:=.of (Same.refl _);refine⟨a,b,ks,ys,rfl,kp.sqT a1,kp.sqT b1,by rw[hle,b2.length],nd,λl hl=>q _ F2 _ ⟨x2.laid hl,l,rfl,x2.same.free hl,λz=>x2.al l z hl,ys,zal,by rw[hle,b2.length],?_⟩⟩;exact DenL.mono (.of ((Same.refl H1).upd' hl)) (λ_ h=>h) _ _ b2
end
end PL
namespace JS
open PySem
noncomputable abbrev tb (m:Nat):SetTable:={ SetTable.fresh 0 0 true with mask:=m }
noncomputable def pth (m:Nat)(h:Int):Nat->SetTable.Probe
 | 0=>(tb m).probeStart h
 | n+1=>(tb m).advance (pth m h n)
structure Own (m:Nat)(ow:Array (Option Nat))(hs:List Int):Prop where
 sz:ow.size=m+1
 at_:∀(k:Nat) (h:Int),hs[k]? = some h->∃j n,ow[j]? = some (some k)/\(pth m h n).j=j/\∀d,d<n->∃q,ow[(pth m h d).j]? = some (some q)
 lt:∀(j k:Nat),ow[j]? = some (some k)->k<hs.length
 one:∀(j j' k:Nat),ow[j]? = some (some k)->ow[j']? = some (some k)->j=j'
end JS
namespace PL
open PySem PySem.Spec L2
open PyProof.Rows hiding St
noncomputable def zbE (ks:List (List Key))(ds:List PV)(k:List Key):List (List Key)×List PV:=if hasT ks k=true then(ks,ds) else(ks++[k],ds++[.lst []])
noncomputable def zbj (z iy:Nat)(tk tv:TPE):TPB:=λρ β O=>∃ks ds,β=.T ks ds/\iy<ρ.length/\rdE z tk ρ β λdk=>∃k,dk=keyT k/\ks.length<sizeLine/\∃es,(zbE ks ds k).2[ixK (zbE ks ds k).1 k]? = some (.lst es)/\es.length<sizeLine/\
 rdE z tv (ρ.set iy none) (.T (zbE ks ds k).1 (zbE ks ds k).2) λdv=>
  O.nx (ρ.set iy none) (.T (zbE ks ds k).1 ((zbE ks ds k).2.set (ixK (zbE ks ds k).1 k) (.lst (es++[dv]))))
section
variable {X:Cx}{z iy i:Nat}{ek ev e:Expr}{tk tv te:TPE}{x y:Str}{rest:List Stmt}{t:TPB}{p p1 p2 p3 p4 apos cpos apos2 cpos2 pos pos1 pos2 dpos:Pos}
theorem zmU (hu:X.A.units+1<cLine)(hN:X.N.Nodup)(hk:PuE X ek tk)(hv:PuE X ev tv)(hr:PuB X z rest t)(hz:autoParam (X.N[z]? = some x) aU0)(hy:autoParam (X.N[iy]? = some y) aU0)(hly:Loc X.env.scope y:=by first | exact Or.inl rfl | exact Or.inr rfl)(hzy:autoParam (iy≠z) aU1)
  (hvx:autoParam (Vis X.env.scope x) aU4) (hvy:autoParam (Vis X.env.scope y) aU4) (hd:autoParam ((x == ("__debug__" : Str))=false) aU1) (hcd:autoParam ((x == ("__classdict__" : Str))=false) aU1) (hd2:autoParam ((y == ("__debug__" : Str))=false) aU1) (hcd2:autoParam ((y == ("__classdict__" : Str))=false) aU1)
  (m:autoParam (M2 X (.Name x p) "setdefault" apos ek (.List [] dpos) cpos) aU7) (hs1:autoParam (swapsWith (.Call (.Attribute (.Name x p) "setdefault" apos) [ek,.List [] dpos] [] cpos) (some (.Name y p1)) pos1.line X.env=pure false) aU0)
  (hf:autoParam (X.fn y=true\/X.env.scope.names.lookup y=some .local) aU2)
  (hbase:autoParam (attributeBase (.Name y p2) "append" X.env (eval (.Name y p2) X.env)=eval (.Name y p2) X.env) aU0)
  (hfew:autoParam (((backTo cpos2 (starEach [ev] X.env)).all (λx=>!x.1)&&(backToKw cpos2 (keywordEach [] X.env)).all (λx=>x.1.isSome)&&decide ([ev].length+([]:List Keyword).length+(if ([]:List Keyword).isEmpty then 0 else 1)<30))=true) aU0)
  (hline:autoParam ((apos2.endLine == cpos2.line)=true) aU0) (hst:autoParam (starEach [ev] X.env=(false,eval ev X.env)::starEach [] X.env) aU0) (hplain:autoParam ((backTo cpos2 (starEach [] X.env)).any (·.1)=false) aU0)
  (hs2:autoParam (swapsWith (.Call (.Attribute (.Name y p2) "append" apos2) [ev] [] cpos2) none pos2.line X.env=pure false) aU0) :
  PuB X z (.Assign [.Name y p1] (.Call (.Attribute (.Name x p) "setdefault" apos) [ek,.List [] dpos] [] cpos) pos1::.Expr (.Call (.Attribute (.Name y p2) "append" apos2) [ev] [] cpos2) pos2::rest) (zdk (zbj z iy tk tv) t) where
 mono ρ β O O' m h:=by
  obtain⟨ks,ds,e0,el,h⟩:=h;exact⟨ks,ds,e0,el,hk.mono _ _ _ (λd k q143q=>by obtain⟨e1,e2,kk,q2,q3,es,q4,q5,q⟩:=q143q;exact⟨e1,e2,kk,q2,q3,es,q4,q5,hv.mono _ _ _ (λd k q144q=>by obtain⟨e1,e2,q⟩:=q144q;exact⟨e1,e2,hr.mono _ _ _ _ m q⟩) q⟩) h⟩
 run:=PSs.weak (zcR (zhw hN hy hly (zqM hu (zdn hz hvx hd hcd) hk.run (zpc zhy) m) hs1 hf) (zcR (zlq (zpR PySem.F.plainAttrs_list PySem.F.slot_list_append PySem.F.type_list_append zfK (zdn hy hvy hd2 hcd2) (zgL hv.run zhy hst) hbase hfew hline hst hplain) hs2) hr.run)) λD σ H h=>by
  obtain⟨ρ,Fz,β,a,bs,R,ks,ds,rfl,hiyl,h⟩:=h;have hok:ks.length=ds.length:=R.box.ok;have hbl:=R.box.own.length;have hbl:ds.length=bs.length:=hbl;have fin:∀(k:List Key) (H':Hp) (ks1:List (List Key)) (ds1:List PV) (bs1:List Addr) (bb:Addr),RelB X.K Fz (ρ.set iy none) (.T ks1 ds1) (σ.set iy (some (.ref bb))) H' z a bs1->bs1[ixK ks1 k]? = some bb->zca (OB ρ σ (a::bs)) Fz H Fz H'->InO (OB ρ σ (a::bs)) H (OB (ρ.set iy none) (σ.set iy (some (.ref bb))) (a::bs1))->
    (∃es,ds1[ixK ks1 k]? = some (.lst es)/\es.length<sizeLine/\rdE z tv (ρ.set iy none) (.T ks1 ds1) λdv=>zmu t (outB X.K z D (OB ρ σ (a::bs)) Fz H) (ρ.set iy none) (.T ks1 (ds1.set (ixK ks1 k) (.lst (es++[dv])))))->
    tSeq (zrt (tBM X.K "list" zlC (tVar iy) (zrH (lift X.K tv) tNil))) (zqw X.K z t) D (σ.set iy (some (.ref bb))) H':=λk H' ks1 ds1 bs1 bb RB hbb st oi q=>by
   obtain⟨es,hcs,hcl,q⟩:=q;obtain⟨b',hb',ow⟩:=RB.box.own.get (show(BX.T ks1 ds1).cts[ixK ks1 k]? = _ from hcs);rw[hbb]at hb';cases hb';obtain⟨xs,hbx,hxs⟩:=ow;refine⟨.ref bb,Xl (by rw[<- R.rel.len];exact hiyl),.inl ⟨rfl,xs,SqL.of hbx⟩,zpj hv RB q λdv v H2 q nm2 x2 dv2=>?_⟩;have RB3:=RB.ext x2;have nfb:¬ Fz bb:=RB3.box.nf bb (Xf _ (Xr hbb));have hbx2:=x2.same _ _ hbx;have hl2:=hxs.length;refine⟨bb,xs,v,rfl,rfl,hbx2,by lia,?_⟩;have hxs2:=DenL.snoc (DenL.mono (.of x2.same) (λ_ h=>h) _ _ hxs) dv2;have ow2:Own X.K Fz (upd H2 bb (.lst (xs++[v]))) (.lst (es++[dv])) bb:=⟨_,zal,DenL.rew hbx2 nfb hxs2⟩;have hok1:ks1.length=ds1.length:=RB3.box.ok;obtain⟨R4,s4⟩:=RB3.put hbb hbx2 (λy=>y) ow2 (.T ks1 (ds1.set (ixK ks1 k) (.lst (es++[dv])))) rfl rfl (by show ks1.length=(ds1.set _ _).length;rw[Yb];exact hok1);have s5:zca (OB ρ σ (a::bs)) Fz H Fz _:=st.trans oi ((zca.of x2).trans InO.refl s4);exact⟨_,Fz,_,a,bs1,R4,hr.mono _ _ _ _ (zhb s5 oi) q⟩
  refine⟨_,R.sz,a,rfl,.inr ⟨_,.inl R.box.at_⟩,zpj hk R h λdk w H1 q nm x1 dw=>⟨XT _,λp hp=>?_⟩⟩;obtain⟨k,rfl,hkl,q⟩:=q;have R1:=R.ext x1;have x2:Ext Fz H1 Fz (upd H1 p (.lst [])):=Ext.laid ⟨Same.refl _,λ_ h=>h,λ_ h=>.inl h,R1.rel.al⟩ hp;have R2:=R1.ext x2;obtain⟨b,rfl,hb⟩:=zic (Den.root dw);have hl2:ks.length=(bs.map V.ref).length:=by rw[Xb];lia
  refine⟨ks.zip (bs.map V.ref),k,b,R2.box.at_,rfl,x2.same _ _ hb,by rw[Ys];lia,λv hv0=>?_,λhn=>?_⟩
  ·obtain⟨hkm,hat⟩:=zmN hl2 hv0;rw[Xk]at hat;cases hbb:bs[ixK ks k]? with
   | none=>rw[hbb]at hat;cases hat
   | some bb=>
    rw[hbb]at hat;cases hat;have es:zbE ks ds k=(ks,ds):=by unfold zbE;rw[if_pos (zhe.mpr hkm)]
    rw[es]at q;exact fin k _ ks ds bs bb ⟨R2.rel.unset,by rw[Xg hzy];exact R2.hz,by rw[Xg hzy];exact R2.sz,R2.box,λb hb w=>R2.no b hb (zcP b w)⟩ hbb (.of (x1.trans x2)) (λb hb=>.inl (hb.imp (zcP b) id)) q
  ·have hkm:k∉ks:=(zmM hl2).mp hn;have es:zbE ks ds k=(ks++[k],ds++[.lst []]):=by unfold zbE;rw[if_neg (λz=>hkm (zhe.mp z))]
   rw[es]at q;rw[zor hl2 hkm];have hpb:∀c∈a::bs,c≠p:=λc hc e=>by
    obtain⟨o,ho,_⟩:=R1.box.has hc;rw[e,hp]at ho;cases ho
   have hpa:a≠p:=hpb a (Xh ..);have nfp:¬ Fz p:=λw=>R1.rel.al p w hp;have nop:¬ zaZ ρ σ p:=λ⟨i,d,g1,g2⟩=>by
    obtain⟨a0,q1,_,q3⟩:=R1.rel.own i d g1;rw[g2]at q1;cases q1;obtain⟨o,q4,_⟩:=q3.at;rw[hp]at q4;cases q4
   have hat2:(upd H1 p (HO.lst [])) a=some ((BX.T ks ds).obj bs):=R2.box.at_;have kp:Keep Fz (upd H1 p (.lst [])) (upd (upd H1 p (.lst [])) a (.dT ((ks++[k]).zip (bs.map V.ref++[.ref p])))):=.mk' λc o e hw=>by
    have ne:c≠a:=λy=>by
     subst y;rcases hw with hw | hw
     ·exact R2.box.nf c (Xh ..) hw
     ·rw[hat2]at e;cases e;exact hw
    rw[zaj ne];exact e
   have hbs:∀c∈bs,c≠a:=λc hc e=>(XX.mp R.box.nd).1 (by rw[<- e];exact hc);have rel3:=R2.rel.other (o:=.dT ((ks++[k]).zip (bs.map V.ref++[.ref p]))) hat2 (λy=>y) (R2.box.nf a (Xh ..)) (R2.no a (Xh ..));have Rn:RelB X.K Fz (ρ.set iy none) (.T (ks++[k]) (ds++[.lst []])) (σ.set iy (some (.ref p))) (upd (upd H1 p (.lst [])) a (.dT ((ks++[k]).zip (bs.map V.ref++[.ref p])))) z a (bs++[p]):=by
    refine⟨rel3.unset,by rw[Xg hzy];exact R2.hz,by rw[Xg hzy];exact R2.sz,⟨?_,?_,?_,?_,λc hc=>?_⟩,λc hc w=>?_⟩
    ·show _=some (HO.dT ((ks++[k]).zip ((bs++[p]).map V.ref)));rw[zal,Xt];rfl
    ·show(ks++[k]).length=(ds++[_]).length;simp[hok]
    ·show OwnL _ _ _ (ds++[_]) (bs++[p]);have op:Own X.K Fz (upd (upd H1 p (.lst [])) a (.dT ((ks++[k]).zip (bs.map V.ref++[.ref p])))) (.lst []) p:=⟨[],by rw[zaj (Ne.symm hpa),zal],DenL.nil⟩;refine OwnL.snoc op (R2.box.own.mono kp (λ_ h=>h) λc hc o ho=>?_);rw[zaj (hbs c hc)];exact ho
    ·have nd:=XX.mp R.box.nd;rw[XX];refine⟨λhm=>?_,?_⟩
     ·rcases XM.mp hm with hm | hm
      ·exact nd.1 hm
      ·exact hpa (Xq.mp hm)
     ·rw[List.nodup_append];exact⟨nd.2,by simp,λc hc d hd e=>hpb c (Xf _ hc) (by rw[e,Xq.mp hd])⟩
    ·rcases Xu.mp hc with rfl | hc
     ·exact R2.box.nf _ (Xh ..)
     ·rcases XM.mp hc with hc | hc
      ·exact R2.box.nf c (Xf _ hc)
      ·rw[Xq.mp hc];exact nfp
    ·have w:=zcP c w;rcases Xu.mp hc with rfl | hc
     ·exact R2.no _ (Xh ..) w
     ·rcases XM.mp hc with hc | hc
      ·exact R2.no c (Xf _ hc) w
      ·rw[Xq.mp hc]at w;exact nop w
   refine fin k _ (ks++[k]) (ds++[.lst []]) (bs++[p]) p Rn ?_ ?_ ?_ q
   ·rw[zqN hkm];have:ks.length=bs.length:=by lia
    rw[this,XU (Xi _),Nat.sub_self];rfl
   ·refine(zca.of (x1.trans x2)).trans InO.refl ⟨λ_ h=>h,λ_ h=>.inl h,λc o e n=>?_⟩;have ne:c≠a:=λy=>n (.inr (by rw[y];exact Xh ..));rw[zaj ne];exact e
   ·intro c hc;rcases hc with hc | hc
    ·exact .inl (.inl (zcP c hc))
    ·rcases Xu.mp hc with rfl | hc
     ·exact .inl (.inr (Xh ..))
     ·rcases XM.mp hc with hc | hc
      ·exact .inl (.inr (Xf _ hc))
      ·rw[Xq.mp hc];exact .inr (x1.same.free hp)
noncomputable def zcn (i z:Nat)(te:TPE):TPB:=λρ β O=>te (ρ.set z (some (β.pv,false))) λd k=>k=.new/\(∃ks ds,d=.dK ks ds/\zaG ds=true)/\O.nx (ρ.set i (some (d,false))) β
theorem zow {pos':Pos}(hN:X.N.Nodup)(hi:X.N[i]? = some y)(hx:Loc X.env.scope y)(he:PuE X e te)(hiz:autoParam (i≠z) aU1)(hs:autoParam (swapsWith e (some (.Name y pos')) pos.line X.env=pure false) aU0)(hf:autoParam (X.fn y=true\/X.env.scope.names.lookup y=some .local) aU2) :
  PuB1 X z (.Assign [.Name y pos'] e pos) (zcn i z te) where
 mono ρ β O O' m h:=he.mono _ _ _ (λd k q146q=>by obtain⟨e1,e2,q⟩:=q146q;exact⟨e1,e2,m.nx _ _ q⟩) h
 run:=PS.weak (zhw hN hi hx he.run hs hf) λD σ H h=>by
  obtain⟨ρ,Fz,β,a,bs,R,h⟩:=h;refine⟨_,_,R.frozen,he.mono _ _ _ (λd k q v Fz' H' p=>?_) h⟩;obtain⟨rfl,⟨ks,ds,rfl,nm⟩,q⟩:=q;obtain⟨px,l,rfl,hl0,hlf,xs,hlx,hlk,hds⟩:=p;have x1:Ext Fz H Fz H':=⟨px.same,λ_ h=>h,λ_ h=>.inl h,λb hb y=>R.rel.al b hb (px.same.free y)⟩;have x2:Ext Fz H (λb=>Fz b\/b=l) H':=x1.add hl0 (by rw[hlx];exact λz=>nomatch z);have R2:=R.ext x2;have dn:Den X.K (λb=>Fz b\/b=l) H' (.dK ks ds) (.ref l):=by
   simp only[Den];exact⟨l,xs,rfl,.inr rfl,.inl hlx,hlk,zbZ ds xs nm hds⟩
  exact q (σ.set i (some (.ref l))) _ H' a bs (.of x2) OB.set (R2.set dn hiz)
end
noncomputable def zox (i j:Int):Prop:=i.natAbs<2 ^ 4000/\j.natAbs<2 ^ 4000
theorem bits_le {k:Int}(h:k.natAbs<2 ^ 4000):Builtin.Int.intBits k<=4000:=by
 unfold Builtin.Int.intBits;split
 ·exact XT _
 ·rcases Nat.eq_zero_or_pos k.natAbs with h0 | hp
  ·rw[h0];decide
  ·exact(Nat.log2_lt (Yd hp)).mpr h
theorem zox.ok {i j:Int}(h:zox i j):IntMulOk i j:=by
 have h1:=bits_le h.1;have h2:=bits_le h.2;have h3:Builtin.Int.intTooBig (Builtin.Int.intBits i+Builtin.Int.intBits j)=false:=by
  unfold Builtin.Int.intTooBig;rw[decide_eq_false_iff_not];have hb:(8000:Int)<=bitsLine:=by decide
  lia
 unfold IntMulOk;rw[h3];simp
section
variable {X:Cx}{a b:Expr}{ta tb:TPE}{pos:Pos}
theorem zqR:OpR X (binaryOp .Mult) (rI zox λi j=>.int (i*j)):=opI λ_ _ _ _ _ _ _ hc q=>mul_int q hc.ok
noncomputable abbrev zdJ:=t2 (i2 zox λi j=>.int (i*j))
theorem zqS (ha:PuE X a ta)(hb:PuE X b tb):PuE X (.BinOp a .Mult b pos) (zdJ ta tb):=zhJ zqR zhK ha hb
end
structure Mx (K:Xa)(C:Addr)(x qual:Str)(st:Stmt)(ps:List Str)(f:Addr)(fd:FuncData):Prop where
 fn:Fun K x qual st f fd
 bd:Binds K fd ps []
 me:Meth K C x f
noncomputable def zfZ:Stmt->List Stmt
 | .ClassDef _ _ _ b _ _ _ _ _ _ _=>b
 | _=>[]
noncomputable abbrev TPN:=PEnv->List Str->List PV->(List Str->List PV->Prop)->Prop
structure RelN (K:Xa)(Fz:FZ)(ρ:PEnv)(σ:St)(H:Hp)(C x dx:Addr)(ks:List Str)(ds:List PV):Prop where
 rel:Rel K Fz ρ σ H
 hz:ρ[0]? = some none
 sz:σ[0]? = some (some (.ref x))
 nf:¬ Fz x
 no:∀(i:Nat) (d:PV),ρ[i]?≠some (some (d,true))
 at_:∃xs,H x=some (.ins C dx (ks.zip xs))/\ks.length=xs.length/\DenL K Fz H ds xs
noncomputable def ztG (K:Xa)(C:Addr)(t:TPN):TS:=λD σ H=>∃ρ Fz x dx ks ds,RelN K Fz ρ σ H C x dx ks ds/\t ρ ks ds λks' ds'=>∀σ' Fz' H',Made K C x dx Fz H Fz' H' ks' ds'->D.nx σ' H'
structure PuN (X:Cx)(C:Addr)(sts:List Stmt)(t:TPN):Prop where
 mono:∀ρ ks ds Q Q',(∀a b,Q a b->Q' a b)->t ρ ks ds Q->t ρ ks ds Q'
 run:PSs X sts (ztG X.K C t)
theorem zhf {f:Str}{v:V}:∀ {ks:List Str}{xs:List V},ks.length=xs.length->f∉ks->putF f v (ks.zip xs)=(ks++[f]).zip (xs++[v])
 | [],[],_,_=>rfl
 | [],_::_,h,_=>nomatch h
 | _::_,[],h,_=>nomatch h
 | k::ks,x::xs,h,n=>by
  have hk:¬ k=f:=λz=>n (z▸Xh ..);rw[XZ,YB,YB,XZ,<- zhf (Nat.succ.inj h) λz=>n (Xf _ z)];show(if k=f then _ else _)=_
  rw[if_neg hk]
theorem RelN.nown {K:Xa}{Fz:FZ}{ρ:PEnv}{σ:St}{H:Hp}{C x dx:Addr}{ks:List Str}{ds:List PV}(R:RelN K Fz ρ σ H C x dx ks ds)(τ:St)(b:Addr):¬ zaZ ρ τ b:=λ q147q=>by obtain⟨i,d,h,_⟩:=q147q;exact R.no i d h
theorem RelN.ext {K:Xa}{Fz Fz':FZ}{ρ:PEnv}{σ:St}{H H':Hp}{C x dx:Addr}{ks:List Str}{ds:List PV}(R:RelN K Fz ρ σ H C x dx ks ds)(e:Ext Fz H Fz' H'):RelN K Fz' ρ σ H' C x dx ks ds:=by
 obtain⟨xs,h1,h2,h3⟩:=R.at_;refine⟨R.rel.ext e,R.hz,R.sz,λz=>?_,R.no,xs,e.same _ _ h1,h2,DenL.mono (.of e.same) e.sub _ _ h3⟩;rcases e.new x z with w | w
 ·exact R.nf w
 ·rw[h1]at w;cases w
theorem RelN.fld {K:Xa}{Fz:FZ}{ρ:PEnv}{σ:St}{H:Hp}{C x dx:Addr}{ks:List Str}{ds:List PV}{xs:List V}{f:Str}{d:PV}{v:V}(R:RelN K Fz ρ σ H C x dx ks ds)(h1:H x=some (.ins C dx (ks.zip xs)))(h2:ks.length=xs.length)(h3:DenL K Fz H ds xs)(hf:f∉ks)(hd:Den K Fz H d v) :
  RelN K Fz ρ σ (upd H x (.ins C dx (putF f v (ks.zip xs)))) C x dx (ks++[f]) (ds++[d]):=by
 refine⟨R.rel.other h1 (λz=>z) R.nf (R.nown σ x),R.hz,R.sz,R.nf,R.no,xs++[v],?_,by rw[Xj,Xj,h2];rfl,DenL.rew' h1 (λz=>z) R.nf (DenL.snoc h3 hd)⟩;rw[zal,zhf h2 hf]
theorem Made.behind {K:Xa}{C x dx:Addr}{Fz F1 Fz':FZ}{H H1 H':Hp}{ks:List Str}{es:List PV}{o:HO}(e:Ext Fz H F1 H1)(m:Made K C x dx F1 (upd H1 x o) Fz' H' ks es):Made K C x dx Fz H Fz' H' ks es where
 old b u n h:=m.old b u n (by rw[zaj n];exact e.same b u h)
 sub b h:=m.sub b (e.sub b h)
 new b h:=by
  rcases m.new b h with w | w
  ·exact e.new b w
  ·by_cases n:b=x
   ·subst n;rw[zal]at w;cases w
   ·rw[zaj n]at w;exact .inr (e.same.free w)
 al:=m.al
 at_:=m.at_
noncomputable def nFld (f:Str)(te:TPE)(t:TPN):TPN:=λρ ks ds Q=>f∉ks/\ks.length<1000/\te ρ λd k=>isOwn k=false/\t ρ (ks++[f]) (ds++[d]) Q
section
variable {X:Cx}{C:Addr}{e:Expr}{f x:Str}{te:TPE}{t:TPN}{rest:List Stmt}{p pos pos':Pos}
theorem zhg (c:Cls X.K C)(n:zcC X.K C f)(he:PuE X e te)(hr:PuN X C rest t)(hN:autoParam (X.N[0]? = some x) aU0)(hv:autoParam (Vis X.env.scope x) aU4)(hd:autoParam ((x == ("__debug__" : Str))=false) aU1) (hcd:autoParam ((x == ("__classdict__" : Str))=false) aU1)
  (hs:autoParam (swapsWith e (some (.Attribute (.Name x p) f pos')) pos.line X.env=pure false) aU0):PuN X C (.Assign [.Attribute (.Name x p) f pos'] e pos::rest) (nFld f te t) where
 mono ρ ks ds Q Q' m h:=⟨h.1,h.2.1,he.mono ρ _ _ (λd k q148q=>by obtain⟨hk,q⟩:=q148q;exact⟨hk,hr.mono _ _ _ _ _ m q⟩) h.2.2⟩
 run:=PSs.weak (zcR (zpb (zdn hN hv hd hcd) he.run hs) hr.run) λD σ H h=>by
  obtain⟨ρ,Fz,x,dx,ks,ds,R,hf,hk,h⟩:=h;refine⟨ρ,Fz,R.rel,he.mono ρ _ _ (λd k q v F1 H1 p1=>?_) h⟩;obtain⟨hk',q⟩:=q;obtain⟨F2,x2,s2,d2⟩:=p1.frozen (zha hk');have R2:=R.ext x2;obtain⟨xs,h1,h2,h3⟩:=R2.at_;refine⟨_,R2.sz,x,C,dx,_,rfl,h1,c,n,by rw[Ys];lia,?_⟩;exact⟨ρ,F2,x,dx,_,_,R2.fld h1 h2 h3 hf d2,hr.mono _ _ _ _ _ (λa b g σ' Fz' H' m=>g σ' Fz' H' (m.behind x2)) q⟩
end
section
variable {P:Program}{w:World}{K:Xa}{mg:Str->Option Value}{base:Heap}
theorem zqT {x qual:Str}{st:Stmt}{f C:Addr}{fd:FuncData}{N ps:List Str}{k:Nat}{FI:zkQ}(Fn:Fun K x qual st f fd)(S:zau N ps (zac st))(len:∀ds Q,FI ds Q->ds.length+1=ps.length)
  (hbody:∀(cdv:Value) (A:Around) (outer:List Env) (s:Shared) (H:Hp) (E:XK),Room k (A.deeper (envOfC qual (zac st) s.heap.objs.size f cdv))->
   ∃t,PuN (cxOf CX0 P w K mg base N qual (zac st) f cdv A outer s H E).nox C (zaq st) t/\∀ds Q,FI ds Q->t ((zaX N (.non::ds)).set 0 none) [] [] Q):FnOk P w K mg base CX0 (k+1) f fd ps (zjO K C FI):=by
 refine Fn.ok S (λvs H Q E h=>?_) (λcdv A outer s H vs Q E hr h=>?_)
 ·obtain⟨x,dx,ws,Fz,ds,rfl,_,_,_,_,_,hd,q⟩:=h;rw[XG,<- hd.length];exact len _ _ q
 obtain⟨t,ht,hq⟩:=hbody cdv A outer s H E hr;obtain⟨x,dx,ws,Fz,ds,rfl,hx,hdx,nx,ndx,al,hd,h⟩:=h;have hd':DenL K Fz H (.non::ds) (.non::ws):=DenL.cons (by simp only[Den]) hd;obtain⟨R,no⟩:=zhP (N:=N) al hd';have es:start N (.ref x::ws)=(start N (.non::ws)).set 0 (some (.ref x)):=rfl;refine⟨_,ht.run,?_⟩;rw[es];refine⟨(zaX N (.non::ds)).set 0 none,Fz,x,dx,[],[],⟨R.unset,rfl,rfl,nx,λi d z=>?_,[],hx,rfl,DenL.nil⟩,ht.mono _ _ _ _ _ (λks es q σ' Fz' H' m=>q Fz' H' m) (hq ds _ h)⟩;by_cases hi:i=0
 ·subst hi;cases z
 ·rw[Xg (λy=>hi y.symm)]at z;have hlen:i<(zaX N (.non::ds)).length:=(Xc.mp z).1;rw[R.len]at hlen;obtain⟨a,q1,_⟩:=R.own i d z;exact no _ a ⟨i,d,z,q1⟩
end
noncomputable def zfa (d:PV):Prop:=∃ks ls,d=.dT ks ls/\∀l∈ls,∃e es,l=.lst (.tup e::es)/\zaG (.tup e::es)=true
section
variable {K:Xa}{F F':FZ}{H H':Hp}{ρ:PEnv}{σ:St}
theorem Rel.grow (R:Rel K F ρ σ H)(no:∀(i:Nat)(d:PV),ρ[i]?≠some (some (d,true)))(s:Same H H')(sub:∀b,F b->F' b)(al:∀b,F' b->H' b≠none):Rel K F' ρ σ H' where
 al:=al
 len:=R.len
 frz i d e:=by
  obtain⟨v,q1,q2⟩:=R.frz i d e;exact⟨v,q1,Den.mono (.of s) sub _ _ q2⟩
 own i d e:=absurd e (no i d)
 inj i j d e a h:=absurd h (no i d)
theorem zmV:∀ {ds:List PV}{xs:List V},(∀d∈ds,zfa d)->DenL K F H ds xs->∀v∈xs,∃b kvs,v=.ref b/\Rd H b (.dT kvs)
 | [],xs,_,h=>by
  have e:xs=[]:=by simpa only[DenL]using h
  subst e;exact λv hv=>nomatch hv
 | d::ds,xs,hg,h=>by
  simp only[DenL]at h;obtain⟨v,r,rfl,h1,h2⟩:=h;intro u hu;rcases Xu.mp hu with rfl | hu
  ·obtain⟨ks,ls,rfl,_⟩:=hg d (Xh ..);simp only[Den]at h1;obtain⟨a,xs,e,_,h4,_⟩:=h1;exact⟨a,_,e,h4⟩
  ·exact zmV (λd hd=>hg d (Xf _ hd)) h2 u hu
theorem zii {b:Addr}{u o:HO}(h:H b=some u)(r:Rd H b o):u=o\/∃w,u=.frz w o:=by
 rcases r with r | ⟨w,r⟩
 ·rw[h]at r;cases r;exact .inl rfl
 ·rw[h]at r;cases r;exact .inr ⟨w,rfl⟩
variable {x L C dx:Addr}{fs:List (Str×V)}{fv:List V}
theorem zgB (hx:H x=some (.ins C dx fs))(hL:H L=some (.lst fv))(hv:∀v∈fv,∃b kvs,v=.ref b/\Rd H b (.dT kvs)):∀ {ls:List PV}{xs:List V},(∀l∈ls,∃e es,l=.lst (.tup e::es)/\zaG (.tup e::es)=true)->DenL K F H ls xs->DenL K (λb=>F b/\b≠x/\b≠L) H ls xs
 | [],xs,_,h=>by simpa only[DenL]using h
 | l::ls,xs,hg,h=>by
  simp only[DenL]at h;obtain⟨v,r,rfl,h1,h2⟩:=h;refine DenL.cons ?_ (zgB hx hL hv (λl hl=>hg l (Xf _ hl)) h2);obtain⟨e,es,rfl,nm⟩:=hg l (Xh ..);simp only[Den]at h1 ⊢;obtain⟨a,ys,rfl,h3,h4⟩:=h1;refine⟨a,ys,rfl,?_,zbZ _ _ nm h4⟩;rcases h3 with ⟨f1,f2⟩ | h3
  ·refine .inl ⟨⟨f1,λz=>?_,λz=>?_⟩,f2⟩
   ·subst z;rcases zii hx f2 with w | ⟨_,w⟩<;>cases w
   ·subst z;rcases zii hL f2 with w | ⟨_,w⟩
    ·cases w;simp only[DenL]at h4;obtain⟨v0,r0,e0,h5,_⟩:=h4;simp only[Den]at h5;obtain⟨t,ts,e1,h6,_⟩:=h5;obtain⟨b,kvs,e2,h7⟩:=hv v0 (by rw[e0];exact Xh ..);rw[e1]at e2;cases e2;rcases zii h6 h7 with w | ⟨_,w⟩<;>cases w
    ·cases w
  ·exact .inr h3
theorem zoy (hx:H x=some (.ins C dx fs))(hL:H L=some (.lst fv))(hv:∀v∈fv,∃b kvs,v=.ref b/\Rd H b (.dT kvs)){d:PV}{v:V}(g:zfa d)(h:Den K F H d v):Den K (λb=>F b/\b≠x/\b≠L) H d v:=by
 obtain⟨ks,ls,rfl,hg⟩:=g;simp only[Den]at h ⊢;obtain⟨a,xs,rfl,f1,f2,f3,f4⟩:=h;refine⟨a,xs,rfl,⟨f1,λz=>?_,λz=>?_⟩,f2,f3,zgB hx hL hv hg f4⟩
 ·subst z;rcases zii hx f2 with w | ⟨_,w⟩<;>cases w
 ·subst z;rcases zii hL f2 with w | ⟨_,w⟩<;>cases w
end
structure RelF (K:Xa)(Fz:FZ)(ρ:PEnv)(σ:St)(H:Hp)(C x dx L:Addr)(ks:List Str)(f:Str)(ds fs:List PV):Prop where
 rel:Rel K Fz ρ σ H
 sz:σ[0]? = some (some (.ref x))
 nf:¬ Fz x
 nfL:¬ Fz L
 no:∀(i:Nat) (d:PV),ρ[i]?≠some (some (d,true))
 xL:x≠L
 at_:∃xs,H x=some (.ins C dx ((ks++[f]).zip (xs++[.ref L])))/\ks.length=xs.length/\DenL K Fz H ds xs
 fa:∃fv,H L=some (.lst fv)/\DenL K Fz H fs fv
 good:∀d∈fs,zfa d
theorem RelF.ext {K:Xa}{Fz Fz':FZ}{ρ:PEnv}{σ:St}{H H':Hp}{C x dx L:Addr}{ks:List Str}{f:Str}{ds fs:List PV}(R:RelF K Fz ρ σ H C x dx L ks f ds fs)(e:Ext Fz H Fz' H'):RelF K Fz' ρ σ H' C x dx L ks f ds fs:=by
 obtain⟨xs,h1,h2,h3⟩:=R.at_;obtain⟨fv,h4,h5⟩:=R.fa;refine⟨R.rel.ext e,R.sz,λz=>?_,λz=>?_,R.no,R.xL,⟨xs,e.same _ _ h1,h2,DenL.mono (.of e.same) e.sub _ _ h3⟩,⟨fv,e.same _ _ h4,DenL.mono (.of e.same) e.sub _ _ h5⟩,R.good⟩
 ·rcases e.new x z with w | w
  ·exact R.nf w
  ·rw[h1]at w;cases w
 ·rcases e.new L z with w | w
  ·exact R.nfL w
  ·rw[h4]at w;cases w
theorem zij {f:Str}{v:V}:∀ {ks:List Str}{xs:List V},ks.length=xs.length->f∉ks->((ks++[f]).zip (xs++[v])).lookup f=some v
 | [],[],_,_=>by simp
 | [],_::_,h,_=>nomatch h
 | _::_,[],h,_=>nomatch h
 | k::ks,x::xs,h,n=>by
  rw[YB,YB,XZ,XH,show(f == k)=false by rw[beq_eq_false_iff_ne];exact λz=>n (z▸Xh ..)];exact zij (Nat.succ.inj h) λz=>n (Xf _ z)
theorem zqU {n m:Nat}(h:m<n):ixN n (m:Int)=some m:=by
 unfold ixN;rw[if_pos (by lia),if_pos (by lia)];rfl
noncomputable def zcY (C:Addr)(f m:Str)(iI:Nat)(te:TPE)(ti:TPI)(ta:TPA)(tix:TPE)(F:PF):TPN:=λρ ks ds Q=>f∉ks/\m∉ks++[f]/\ks.length<1000/\iI≠0/\te ρ λd k=>k=.new/\∃ds0,d=.lst ds0/\(∀d∈ds0,zfa d)/\ti ρ λits o=>o=false/\∃Iv:Nat->List PV->Prop,Iv 0 ds0/\
 (∀j d fs,its[j]? = some d->Iv j fs->ta (ρ.set iI (some (d,false))) λops=>noOwn ops=true/\F (.obj C (ks++[f]) (ds++[.lst fs])::ops.map (·.1)) λd' k'=>k'=.frz/\zfa d'/\tix (ρ.set iI (some (d,false))) λe _=>∃n:Nat,e=.int n/\n<fs.length/\Iv (j+1) (fs.set n d'))/\
 ∀fs,Iv its.length fs->Q (ks++[f]) (ds++[.lst fs])
section
variable {X:Cx}{C fa:Addr}{e iter ei a0:Expr}{as:List Expr}{f m x y:Str}{te tix:TPE}{ti:TPI}{ta:TPA}{F:PF}{iI k:Nat}{fd:FuncData}{ps:List Str}{pl:Sem Bool}{p1 p2 p3 p4 p5 p6 apos cpos pos1 pos2 pos3 p7:Pos}
theorem zoz (c:Cls X.K C)(n:zcC X.K C f)(hm:Meth X.K C m fa)(G:FnOk X.prog X.w X.K X.mg X.base CX0 k fa fd ps (spP X.K F))(mf:zbs F)(hr:Room k X.A)(hb:Binds X.K fd ps [])
  (he:PuE X e te) (hN:X.N.Nodup) (hyi:X.N[iI]? = some y) (hy:Loc X.env.scope y) (hc:X.calm=true) (hp:PassesOwn (model X.prog X.w) X.A X.env X.xe) (hit:PuI X (.Name y p2) iter ti) (ha:PuA X (a0::as) ta) (hi:PuE X ei tix)
  (hx:autoParam (X.N[0]? = some x) aU0) (hv:autoParam (Vis X.env.scope x) aU4) (hd:autoParam ((x == ("__debug__" : Str))=false) aU1) (hcd:autoParam ((x == ("__classdict__" : Str))=false) aU1)
  (hs:autoParam (swapsWith e (some (.Attribute (.Name x p1) f p3)) pos1.line X.env=pure false) aU0)
  (hf:autoParam (X.fn y=true\/X.env.scope.names.lookup y=some .local) aU2) (hfs:autoParam (∀x,foldedSetIterable iter X.env x=pure x) aU3)
  (hst:autoParam (starEach (a0::as) X.env=(false,eval a0 X.env)::starEach as X.env) aU0) (hpl:autoParam ((backTo cpos (starEach as X.env)).any (·.1)=false) aU0)
  (ht:autoParam (eval (.Call (.Attribute (.Name x p6) m apos) (a0::as) [] cpos) X.env=(do
   let ov <- eval (.Name x p6) X.env
   standAt apos.atName
   let (f,first) <- holding [ov] (getMethod ov m pl)
   callWith cpos f first (backTo cpos (starEach (a0::as) X.env)) (backToKw cpos (keywordEach [] X.env)))) aU0)
  (hbf:autoParam (attributeBase (.Name x p4) f X.env (eval (.Name x p4) X.env)=eval (.Name x p4) X.env) aU0)
  (hw1:autoParam (swapsWithSole [.Subscript (.Attribute (.Name x p4) f p5) ei p7] (.Call (.Attribute (.Name x p6) m apos) (a0::as) [] cpos) pos3.line X.env=pure false) aU0) (hw2:autoParam (swappedStores [.Subscript (.Attribute (.Name x p4) f p5) ei p7] (.Call (.Attribute (.Name x p6) m apos) (a0::as) [] cpos) X.env=pure none) aU0)
  (h1:autoParam ((assignEach [.Subscript (.Attribute (.Name x p4) f p5) ei p7] X.env).map (·.2)=[assign (.Subscript (.Attribute (.Name x p4) f p5) ei p7) X.env]) aU0)
  (hasg:autoParam (∀v,assign (.Subscript (.Attribute (.Name x p4) f p5) ei p7) X.env v=(do
   let ov <- holding [v] (eval (.Attribute (.Name x p4) f p5) X.env);let iv <- holding [v,ov] (eval ei X.env)
   standAt p7
   holding [v,ov,iv] (setItem ov iv v)
   release [v,ov,iv] [])) aU3) :
  PuN X C [.Assign [.Attribute (.Name x p1) f p3] e pos1,.For (.Name y p2) iter [.Assign [.Subscript (.Attribute (.Name x p4) f p5) ei p7] (.Call (.Attribute (.Name x p6) m apos) (a0::as) [] cpos) pos3] [] pos2] (zcY C f m iI te ti ta tix F) where
 mono ρ ks ds Q Q' mm h:=by
  obtain⟨g1,g2,g3,g4,h⟩:=h;exact⟨g1,g2,g3,g4,he.mono ρ _ _ (λd k q149q=>by obtain⟨e1,ds0,e2,e3,h⟩:=q149q;exact⟨e1,ds0,e2,e3,hit.mono ρ _ _ (λits o q150q=>by obtain⟨e4,Iv,i0,i1,i2⟩:=q150q;exact⟨e4,Iv,i0,i1,λfs h=>mm _ _ (i2 fs h)⟩) h⟩) h⟩
 run:=PSs.weak (zcR (zpb (zdn hx hv hd hcd) he.run hs) (ziJ (zlu hp hc hit.run (ziK hN hyi hy hf) (ziJ (zoX (zly (pl:=pl) (zdn hx hv hd hcd) c hm G hr hb .nil znU ha.run hst hpl ht) (zrw (zpa (zdn hx hv hd hcd) hbf) hi.run set_list hasg) hw1 hw2 h1)) hfs))) λD σ H h=>by
  obtain⟨ρ,Fz,x,dx,ks,ds,R,hfk,hmk,hk,hi0,h⟩:=h;refine⟨ρ,Fz,R.rel,he.mono ρ _ _ (λd k q v F1 H1 p1=>?_) h⟩;obtain⟨rfl,ds0,rfl,hg0,q⟩:=q;obtain⟨px,L,rfl,hl0,nfL,xs0,hL,hds0⟩:=p1;have R1:=R.ext px;obtain⟨xs,g1,g2,g3⟩:=R1.at_;have hxL:x≠L:=λz=>by
   obtain⟨_,w,_⟩:=R.at_;rw[z,hl0]at w;cases w
  refine⟨_,R1.sz,x,C,dx,_,rfl,g1,c,n,by rw[Ys];lia,?_⟩;rw[zhf g2 hfk];have R2:RelF X.K F1 ρ σ (upd H1 x (.ins C dx ((ks++[f]).zip (xs++[.ref L])))) C x dx L ks f ds ds0:=
   ⟨R1.rel.other g1 (λz=>z) R1.nf (R1.nown σ x),R1.sz,R1.nf,nfL,R1.no,hxL,⟨xs,zal,g2,DenL.rew' g1 (λz=>z) R1.nf g3⟩,⟨xs0,by rw[zaj hxL.symm];exact hL,DenL.rew' g1 (λz=>z) R1.nf hds0⟩,hg0⟩
  have o2:∀b o,b≠x->H b=some o->(upd H1 x (.ins C dx ((ks++[f]).zip (xs++[.ref L])))) b=some o:=λb o nb e=>by rw[zaj nb];exact px.same b o e
  generalize upd H1 x (.ins C dx ((ks++[f]).zip (xs++[.ref L])))=H2 at R2 o2;refine⟨ρ,F1,R2.rel,hit.mono ρ _ _ (λits o q J Fz1 H3 x3 wk=>?_) q⟩;obtain⟨rfl,Iv,i0,istep,idone⟩:=q;have R3:=R2.ext x3;have o3:∀b o,b≠x->H b=some o->H3 b=some o:=λb o nb e=>x3.same b o (o2 b o nb e);have n3:∀b,Fz1 b->Fz b\/H b=none:=λb hb=>by
   rcases x3.new b hb with w | w
   ·exact px.new b w
   ·by_cases nb:b=x
    ·subst nb;exact absurd hb R3.nf
    ·cases hH:H b with
     | none=>exact .inr rfl
     | some o=>rw[o2 b o nb hH]at w;cases w
  refine⟨λi m σ' H'=>m=its.length-i/\i<=its.length/\∃ρ' F' fs,(∀d,ρ'.set iI (some (d,false))=ρ.set iI (some (d,false)))/\RelF X.K F' ρ' σ' H' C x dx L ks f ds fs/\Iv i fs/\(∀b,Fz1 b->F' b)/\zhH Fz1 H3 H'/\(∀b o,b≠x->H b=some o->H' b=some o)/\∀b,F' b->Fz b\/H b=none,
   ⟨its.length,by lia,XT _,ρ,Fz1,ds0,λ_=>rfl,R3,i0,λ_ h=>h,λb o e _=>e,o3,n3⟩,?_⟩
  rintro j mm σ' H' ⟨rfl,hle,ρ',F',fs,hρ,R',hI,sub',kp,old',new'⟩;obtain⟨wgo,wstop⟩:=wk H' (.inr ⟨rfl,kp⟩) j;by_cases hlt:j<its.length
  ·obtain⟨go,yl⟩:=wgo its[j] (Xd hlt);refine .inr ⟨go,λσ2 H2=>∃ρ2 F2 fs2,(∀d,ρ2.set iI (some (d,false))=ρ.set iI (some (d,false)))/\RelF X.K F2 ρ2 σ2 H2 C x dx L ks f ds fs2/\Iv (j+1) fs2/\(∀b,Fz1 b->F2 b)/\zhH Fz1 H3 H2/\(∀b o,b≠x->H b=some o->H2 b=some o)/\∀b,F2 b->Fz b\/H b=none,λσ2 H2 hN=>⟨its.length-(j+1),by lia,rfl,hlt,hN⟩,λxv H4 yy=>?_⟩;obtain⟨sm,dn⟩:=yl xv H4 yy;have x4:Ext F' H' F' H4:=⟨sm,λ_ h=>h,λ_ h=>.inl h,λb hb z=>R'.rel.al b hb (sm.free z)⟩;have R4:=R'.ext x4;have rel5:=R4.rel.set (i:=iI) (Den.mono (Keep.of (Same.refl _)) sub' _ _ dn);rw[hρ]at rel5;have sz5:(σ'.set iI (some xv))[0]? = some (some (.ref x)):=by rw[Xg hi0];exact R4.sz
   have no5:∀(i:Nat) (d:PV),(ρ.set iI (some (its[j],false)))[i]?≠some (some (d,true)):=λi d z=>by
    by_cases hii:iI=i
    ·subst hii;by_cases hb:iI<ρ.length
     ·rw[Xl hb]at z;cases z
     ·rw[XS (by lia),Xw (by lia)]at z;cases z
    ·rw[Xg hii]at z;exact R.no i d z
   have old4:∀b o,b≠x->H b=some o->H4 b=some o:=λb o nb e=>sm b o (old' b o nb e);obtain⟨ys,q1,q2,q3⟩:=R4.at_;have hst':=istep j its[j] fs (Xd hlt) hI;refine⟨_,sz5,x,dx,_,rfl,q1,zfT (α:=V) (β:=V) hmk,_,F',rel5,ha.mono _ _ _ (λops h vs F5 H5 x5 o=>?_) hst'⟩;obtain⟨hno,hF⟩:=h;obtain⟨F6,x6,s6,d6⟩:=o.frozen x5 hno;have R6:=R4.ext x6;obtain⟨zs,a1,a2,a3⟩:=R6.at_;obtain⟨fv,b1,b2⟩:=R6.fa;show spP X.K F (.ref x::(vs++[])) H5 _ E0;rw[Yn];have dobj:Den X.K (λb=>F6 b\/b=x\/b=L) H5 (.obj C (ks++[f]) (ds++[.lst fs])) (.ref x):=by
    simp only[Den];refine⟨x,dx,zs++[.ref L],rfl,.inr (.inl rfl),a1,by rw[Xj,Xj,a2];rfl,DenL.snoc (DenL.mono (Keep.of (Same.refl _)) (λ_ h=>.inl h) _ _ a3) ?_⟩;simp only[Den];exact⟨L,fv,rfl,.inl ⟨.inr (.inr rfl),.inl b1⟩,DenL.mono (Keep.of (Same.refl _)) (λ_ h=>.inl h) _ _ b2⟩
   refine⟨λb=>F6 b\/b=x\/b=L,.obj C (ks++[f]) (ds++[.lst fs])::ops.map (·.1),λb hb=>?_,DenL.cons dobj (DenL.mono (Keep.of (Same.refl _)) (λ_ h=>.inl h) _ _ d6),mf _ _ _ (λd' k' q v F7 H7 p7=>?_) hF⟩
   ·rcases hb with hb | rfl | rfl
    ·exact R6.rel.al b hb
    ·rw[a1];exact λz=>nomatch z
    ·rw[b1];exact λz=>nomatch z
   obtain⟨rfl,hgd,q⟩:=q;have sm57:Same H5 H7:=p7.ext.same;have hx7:=sm57 _ _ a1;have hL7:=sm57 _ _ b1;have sub8:∀b,F6 b->F7 b/\b≠x/\b≠L:=λb hb=>⟨p7.ext.sub b (.inl hb),λz=>R6.nf (z▸hb),λz=>R6.nfL (z▸hb)⟩;have rel8:Rel X.K (λb=>F7 b/\b≠x/\b≠L) _ _ H7:=(rel5.ext x6).grow no5 sm57 sub8 λb hb=>p7.ext.al b hb.1;have b7:=DenL.mono (Keep.of sm57) sub8 _ _ b2;have dv8:Den X.K (λb=>F7 b/\b≠x/\b≠L) H7 d' v:=zoy hx7 hL7 (zmV R'.good b7) hgd p7.opd;refine⟨_,sz5,x,C,dx,_,.ref L,rfl,hx7,c,n,zij a2 hfk,_,_,rel8,hi.mono _ _ _ (λe k q u F9 H9 p9=>?_) q⟩;obtain⟨nn,rfl,hnn,q⟩:=q;have hu:=zaE (p9.root rel8);have hlv:=b2.length;have sm9:=p9.ext.same;have hL9:=sm9 _ _ hL7;have hx9:=sm9 _ _ hx7;have nf9:¬ F9 x:=λz=>(p9.ext.new x z).elim (λw=>w.2.1 rfl) (λw=>by rw[hx7]at w;cases w);have nfL9:¬ F9 L:=λz=>(p9.ext.new L z).elim (λw=>w.2.2 rfl) (λw=>by rw[hL7]at w;cases w);have nown:∀b,¬ zaZ (ρ.set iI (some (its[j],false))) (σ'.set iI (some xv)) b:=λb h=>h.elim λi h=>h.elim λd h=>no5 i d h.1;refine⟨L,fv,nn,nn,rfl,hu,hL9,by rw[<- hlv];exact zqU hnn,?_⟩;have s49:Same H4 H9:=x6.same.trans (sm57.trans sm9);refine⟨ρ.set iI (some (its[j],false)),F9,fs.set nn d',λd=>List.set_set ..,⟨(rel8.ext p9.ext).other hL9 (λz=>z) nfL9 (nown L),sz5,nf9,nfL9,no5,hxL,⟨zs,by rw[zaj hxL];exact hx9,a2,DenL.rew' hL9 (λz=>z) nfL9 (DenL.mono (Keep.of (sm57.trans sm9)) (λb hb=>p9.ext.sub b (sub8 b hb)) _ _ a3)⟩,⟨fv.set nn v,zal,DenL.rew' hL9 (λz=>z) nfL9 (DenL.set nn (DenL.mono (Keep.of sm9) p9.ext.sub _ _ b7) (Den.mono (Keep.of sm9) p9.ext.sub _ _ dv8))⟩,λd hd=>?_⟩,q,λb hb=>p9.ext.sub b (sub8 b (x6.sub b (sub' b hb))),λb o e w=>?_,λb o nb e=>?_,λb hb=>?_⟩
   ·rcases List.mem_or_eq_of_mem_set hd with w | rfl
    ·exact R'.good d w
    ·exact hgd
   ·have nb:b≠L:=λz=>by
     subst z;rcases w with w | w
     ·exact R3.nfL w
     ·obtain⟨_,w2,_⟩:=R3.fa;rw[w2]at e;cases e;exact w
    rw[zaj nb];exact s49 b o (sm b o (kp b o e w))
   ·have nbL:b≠L:=λz=>by rw[z,hl0]at e;cases e
    rw[zaj nbL];exact s49 b o (old4 b o nb e)
   ·have hnone:∀ {b:Addr},b≠x->H4 b=none->H b=none:=λ{b} nb w=>by
     cases hH:H b with
     | none=>rfl
     | some o=>rw[old4 b o nb hH]at w;cases w
    have nbx:b≠x:=λz=>nf9 (z▸hb);rcases p9.ext.new b hb with w | w
    ·rcases p7.ext.new b w.1 with w2 | w2
     ·rcases w2 with w2 | rfl | rfl
      ·rcases x6.new b w2 with w3 | w3
       ·exact new' b w3
       ·exact .inr (hnone nbx w3)
      ·exact absurd rfl nbx
      ·exact absurd rfl w.2.2
     ·exact .inr (hnone nbx (x6.same.free w2))
    ·exact .inr (hnone nbx (x6.same.free (sm57.free w)))
  ·have ej:j=its.length:=by lia
   subst ej;refine .inl ⟨wstop (Xi _),idone fs hI σ' (λb=>F' b\/b=L) H' ⟨old',λb hb=>.inl (sub' b (x3.sub b (px.sub b hb))),λb hb=>?_,λb hb=>?_,?_⟩⟩
   ·rcases hb with hb | rfl
    ·exact new' b hb
    ·exact .inr hl0
   ·rcases hb with hb | rfl
    ·exact R'.rel.al b hb
    ·obtain⟨fv,w,_⟩:=R'.fa;rw[w];exact λz=>nomatch z
   ·obtain⟨ys,q1,q2,q3⟩:=R'.at_;obtain⟨fv,q4,q5⟩:=R'.fa;refine⟨ys++[.ref L],q1,by rw[Xj,Xj,q2];rfl,DenL.snoc (DenL.mono (Keep.of (Same.refl _)) (λ_ h=>.inl h) _ _ q3) ?_⟩;simp only[Den];exact⟨L,fv,rfl,.inl ⟨.inr rfl,.inl q4⟩,DenL.mono (Keep.of (Same.refl _)) (λ_ h=>.inl h) _ _ q5⟩
end
end PL
namespace Sw
open PySem PyProof.Rows Srt
section
variable {prog:Program}{w:World}{A:Around}{E:Value->Shared->Prop}{s:Shared}{k:SortKind}{P:Keyed->Prop}
structure CmpW (prog:Program)(w:World)(A:Around)(E:Value->Shared->Prop)(s:Shared)(k:SortKind)(P:Keyed->Prop):Prop where
 run:∀ {x y:Keyed} {Q:Option Bool->SortSt->Prop} {st:SortSt},P x->P y->kindOf st=k->(∀b,Q (some b) st)->wpS (model prog w) A E s (lt' x y) Q st
noncomputable abbrev AllP (P:Keyed->Prop)(a:Array Keyed):Prop:=∀(j:Nat) x,a[j]? = some x->P x
theorem AllP.at {a:Array Keyed}(h:AllP P a){i:Nat}(hi:i<a.size):P a[i]:=h i _ (getElem?_pos a i hi)
theorem beyW (C:CmpW prog w A E s k P){l:Bool}{key:Keyed}{a:Array Keyed}{i:Nat}{Q:Option Bool->SortSt->Prop}{st:SortSt}(hi:i<a.size)(hP:AllP P a)(hk:P key)(hst:kindOf st=k)(h:∀b,Q (some b) st) :
  wpS (model prog w) A E s (do let x <- elem' a i;if l=true then lt' x key else do let r <- lt' key x;pure (Option.map (λx=>!x) r)) Q st:=by
 refine wpS_bind (zmP (getElem?_pos a i hi) ?_);cases l with
 | true=>exact C.run (hP.at hi) hk hst h
 | false=>exact wpS_bind (C.run hk (hP.at hi) hst λb=>wpS_pure (h _))
theorem galW (C:CmpW prog w A E s k P){l:Bool}{key:Keyed}{a:Array Keyed}{b n h:Nat}{Q:Option Nat->SortSt->Prop}{st:SortSt}(hh:h<n)(hn:b+n<=a.size)(hP:AllP P a)(hk:P key)(hst:kindOf st=k)(hQ:∀r,r<=n->Q (some r) st):wpS (model prog w) A E s (gal l key a b n h) Q st:=by
 have bey:∀ {i:Nat} {R:Option Bool->SortSt->Prop},i<n->(∀v,R (some v) st)->wpS (model prog w) A E s (do let x <- elem' a (b+i);if l=true then lt' x key else do let r <- lt' key x;pure (Option.map (λx=>!x) r)) R st:=λhi hr=>beyW C (by lia) hP hk hst hr
 refine wpS_bind (bey hh λv=>?_);dsimp -zeta only
 extract_lets jp
 have hjp:∀r lo os L H,H<=n->wpS (model prog w) A E s (jp r lo os L H) Q st:=λ_ _ _ L H hH=>by
  refine wpS_bind (wpS_mono (wpS_forRange (I:=λ_ c st2=>st2=st/\c.1=none/\c.2.2<=n) (Q:=λc st2=>st2=st/\c.1=none/\c.2.2<=n) ?hstep (λ_ _ g=>g) ⟨rfl,rfl,hH⟩) ?hpost)
  case hstep=>
   rintro x ⟨c1,L,H⟩ st2 _ _ ⟨rfl,e,g⟩;obtain rfl:c1=none:=e;refine zaA (λ_=>wpS_pure ⟨rfl,rfl,g⟩) (λhc=>wpS_bind (bey ?_ λv=>?_))
   ·have:=zpk hc;exact XQ this.2 g
   ·cases v with
    | true=>exact wpS_pure ⟨rfl,rfl,g⟩
    | false=>exact wpS_pure ⟨rfl,rfl,XB (Nat.le_of_lt (zpk hc).2) g⟩
  case hpost=>
   rintro⟨c1,L,H⟩ st2 ⟨rfl,e,g⟩;obtain rfl:c1=none:=e;exact wpS_pure (hQ _ g)
 clear_value jp
 ·cases v with
  | true=>
   refine wpS_bind (wpS_mono (wpS_forRange (I:=λ_ c st2=>st2=st/\c.1=none) (Q:=λc st2=>st2=st/\c.1=none) ?s1 (λ_ _ g=>g) ⟨rfl,rfl⟩) ?p1)
   case s1=>
    rintro x ⟨c1,lo,os⟩ st2 _ _ ⟨rfl,e⟩;obtain rfl:c1=none:=e;refine zaA (λ_=>wpS_pure ⟨rfl,rfl⟩) (λhc=>wpS_bind (bey (by lia) λv=>?_));cases v<;>exact wpS_pure ⟨rfl,rfl⟩
   case p1=>
    rintro⟨c1,lo,os⟩ st2 ⟨rfl,e⟩;obtain rfl:c1=none:=e;exact hjp _ _ _ _ _ (by lia)
  | false=>
   refine wpS_bind (wpS_mono (wpS_forRange (I:=λ_ c st2=>st2=st/\c.1=none) (Q:=λc st2=>st2=st/\c.1=none) ?s2 (λ_ _ g=>g) ⟨rfl,rfl⟩) ?p2)
   case s2=>
    rintro x ⟨c1,lo,os⟩ st2 _ _ ⟨rfl,e⟩;obtain rfl:c1=none:=e;refine zaA (λ_=>wpS_pure ⟨rfl,rfl⟩) (λhc=>wpS_bind (bey (by lia) λv=>?_));cases v<;>exact wpS_pure ⟨rfl,rfl⟩
   case p2=>
    rintro⟨c1,lo,os⟩ st2 ⟨rfl,e⟩;obtain rfl:c1=none:=e;exact hjp _ _ _ _ _ (by lia)
end
noncomputable abbrev KA:=Array Keyed
noncomputable abbrev SM (α:Type):=StateT SortSt Sem α
noncomputable def oe {β γ:Type}(o:Option β)(d:γ)(f:β->γ):γ:=match o with
 | some x=>f x
 | none=>d
noncomputable def ov {γ:Type}(o:Option Bool)(d:γ)(f:Bool->γ):γ:=(sortPriv% PySem.Builtin.countRun.match_1) (λ_=>γ) o f λ_=>d
noncomputable def on {γ:Type}(o:Option Nat)(d:γ)(f:Nat->γ):γ:=(sortPriv% PySem.Builtin.mergeLo.match_1) (λ_=>γ) o f λ_=>d
noncomputable def mLo:KA->KA->SM KA:=sortPriv% PySem.Builtin.mergeLo
noncomputable def mHi:KA->KA->SM KA:=sortPriv% PySem.Builtin.mergeHi
noncomputable def setG:Nat->SM Unit:=sortPriv% PySem.Builtin.setMinGallop
section
variable {prog:Program}{w:World}{A:Around}{E:Value->Shared->Prop}{s:Shared}{k:SortKind}{P:Keyed->Prop}
theorem zcb {a:KA}:AllP P a↔∀x∈a.toList,P x:=by
 constructor
 ·intro h x hx;obtain⟨i,hi⟩:=List.mem_iff_getElem?.mp hx;exact h i x (by rw[<- YI];exact hi)
 ·intro h j x hj;exact h x (Xr (by rw[YI];exact hj))
theorem AllP.push {a:KA}{x:Keyed}(h:AllP P a)(hx:P x):AllP P (a.push x):=zcb.mpr λy hy=>by
 rw[Array.toList_push,XM,Xq]at hy;exact hy.elim (zcb.mp h y) λe=>e▸hx
theorem AllP.app {a b:KA}(h:AllP P a)(g:AllP P b):AllP P (a++b):=zcb.mpr λy hy=>by
 rw[Array.toList_append,XM]at hy;exact hy.elim (zcb.mp h y) (zcb.mp g y)
theorem AllP.ext {a:KA}(h:AllP P a){i j:Nat}:AllP P (a.extract i j):=λk x hk=>by
 rw[Array.getElem?_extract]at hk;split at hk
 ·exact h _ _ hk
 ·cases hk
theorem AllP.rev {a:KA}(h:AllP P a):AllP P a.reverse:=zcb.mpr λy hy=>by
 rw[Array.toList_reverse,Yu]at hy;exact zcb.mp h y hy
theorem AllP.one {x:Keyed}(h:P x):AllP P #[x]:=zcb.mpr λy hy=>by rw[Xq.mp hy];exact h
structure Wk (k:SortKind)(P:Keyed->Prop)(n:Nat)(pd:Array (Nat×Nat×Nat))(st:SortSt):Prop where
 kind:kindOf st=k
 all:AllP P (arrOf st)
 size:(arrOf st).size=n
 fail:failedOf st=none
 pend:pendingOf st=pd
variable {n:Nat}{pd:Array (Nat×Nat×Nat)}{st:SortSt}{γ β τ:Type}{W:SortSt->Prop}
theorem eP {a:KA}{i:Nat}{f:Keyed->SM β}{Q:β->SortSt->Prop}(h:AllP P a)(hi:i<a.size)(hk:∀x,P x->wpS (model prog w) A E s (f x) Q st):wpS (model prog w) A E s (elem' a i >>= f) Q st:=
 wpS_bind (zmP (getElem?_pos a i hi) (hk _ (h.at hi)))
theorem cP (C:CmpW prog w A E s k P){x y:Keyed}{f:Option Bool->SM β}{Q:β->SortSt->Prop}(h:Wk k P n pd st)(hx:P x)(hy:P y)(hk:∀v:Bool,wpS (model prog w) A E s (f (some v)) Q st):wpS (model prog w) A E s (lt' x y >>= f) Q st:=
 wpS_bind (C.run hx hy h.kind hk)
theorem gP (C:CmpW prog w A E s k P){l:Bool}{key:Keyed}{a:KA}{b m h:Nat}{f:Option Nat->SM β}{Q:β->SortSt->Prop}(hw:Wk k P n pd st)(hP:AllP P a)(hk:P key)(hh:h<m)(hn:b+m<=a.size)(hq:∀r,r<=m->wpS (model prog w) A E s (f (some r)) Q st):wpS (model prog w) A E s (gal l key a b m h >>= f) Q st:=
 wpS_bind (galW C hh hn hP hk hw.kind hq)
theorem sP {g:Nat}{f:Unit->SM β}{Q:β->SortSt->Prop}(h:Wk k P n pd st)(hk:∀st,Wk k P n pd st->wpS (model prog w) A E s (f ()) Q st):wpS (model prog w) A E s (setG g >>= f) Q st:=
 wpS_bind (wpS_modify (hk _ ⟨h.kind,h.all,h.size,h.fail,h.pend⟩))
noncomputable def Rp (W:SortSt->Prop)(D J:γ->Prop)(r:ForInStep γ)(st:SortSt):Prop:=W st/\match r with
 | .done c=>D c
 | .yield c=>J c
theorem wpR {a b:Nat}(J:Nat->γ->Prop)(D:γ->Prop){body:Nat->γ->SM (ForInStep γ)}{f:γ->SM β}{Q:β->SortSt->Prop}{c:γ}(h:W st)(h0:J a c)(he:∀c,J (max a b) c->D c)
  (hb:∀x c st,W st->a<=x->x<b->J x c->wpS (model prog w) A E s (body x c) (Rp W D (J (x+1))) st) (hk:∀c st,W st->D c->wpS (model prog w) A E s (f c) Q st):wpS (model prog w) A E s (forIn [a:b] c body >>= f) Q st:=by
 refine wpS_bind (wpS_mono (wpS_forRange (I:=λx c st=>W st/\J x c) (Q:=λc st=>W st/\D c) (λx c st h1 h2 h3=>wpS_mono (hb x c st h3.1 h1 h2 h3.2) λr st h4=>?_) (λc st h3=>⟨h3.1,he c h3.2⟩) ⟨h,h0⟩) λc st h=>hk c st h.1 h.2);cases r with
 | done c=>exact h4
 | yield c=>exact h4
noncomputable def Dn (P:Keyed->Prop)(Y:Option KA×τ->Prop)(c:Option KA×τ):Prop:=(∃o,c.1=some o/\AllP P o)\/Y c
variable {Y J:Option KA×τ->Prop}{r:KA}{t:τ}
theorem rS (h:W st)(hr:AllP P r):wpS (model prog w) A E s (pure (.done (some r,t))) (Rp W (Dn P Y) J) st:=wpS_pure ⟨h,.inl ⟨r,rfl,hr⟩⟩
theorem rtW {c:Prop} [Decidable c] {f:SM (ForInStep (Option KA×τ))}(h:W st)(hr:AllP P r)(hk:¬ c->wpS (model prog w) A E s f (Rp W (Dn P Y) J) st):wpS (model prog w) A E s (if c then pure (.done (some r,t)) else f) (Rp W (Dn P Y) J) st:=
 zaA (λ_=>rS h hr) hk
noncomputable def en (c d:Prop) [Decidable c] [Decidable d] (r:KA)(t:τ):SM (ForInStep (Option KA×τ)):=if c then pure (.done (some r,t)) else if d then pure (.done (none,t)) else pure (.yield (none,t))
theorem enW {c d:Prop} [Decidable c] [Decidable d] (h:W st)(hr:AllP P r)(hy:¬ c->Y (none,t)/\J (none,t)):wpS (model prog w) A E s (en c d r t) (Rp W (Dn P Y) J) st:=
 rtW h hr λhc=>zaA (λ_=>wpS_pure ⟨h,.inr (hy hc).1⟩) λ_=>wpS_pure ⟨h,(hy hc).2⟩
theorem eqb {m n:Nat}(h:¬ (m == n)=true):m≠n:=λe=>h (beq_iff_eq.mpr e)
end
noncomputable abbrev S4 (τ:Type):=Option KA×KA×Nat×Nat×τ
section
variable (a b:KA)
noncomputable def loD (o:KA)(i j:Nat):KA:=o++a.extract i a.size++b.extract j b.size
noncomputable def loE (o:KA)(i j:Nat):KA:=o++b.extract j b.size++a.extract i a.size
noncomputable def lo1 (g:Nat)(o:KA)(i j p q:Nat):SM (ForInStep (S4 (Nat×Nat))):=elem' b j >>= λy=>elem' a i >>= λx=>lt' y x >>= λv=>ov v (pure (.done (some (loD a b o i j),o,i,j,p,q))) λv=>if v=true
 then elem' b j >>= λy=>en ((j+1 == b.size)=true) (q+1>=g) (loD a b (o.push y) i (j+1)) (o.push y,i,j+1,0,q+1)
 else elem' a i >>= λy=>en ((i+1+1 == a.size)=true) (p+1>=g) (loE a b (o.push y) (i+1) j) (o.push y,i+1,j,p+1,0)
noncomputable def lo2 (g k i l:Nat)(o:KA)(j:Nat):SM (ForInStep (S4 (Nat×Nat×Nat))):=elem' a i >>= λx=>en ((i+1+1 == a.size)=true) ((decide (k<7)&&decide (l<7))=true) (loE a b (o.push x) (i+1) j) (o.push x,i+1,j,g,k,l)
noncomputable def lo3 (g k:Nat)(o:KA)(i j l:Nat):SM (ForInStep (S4 (Nat×Nat×Nat))):=if l > 0 then
  if (j+l == b.size)=true then pure (.done (some (loD a b (o++b.extract j (j+l)) i (j+l)),o++b.extract j (j+l),i,j+l,g,k,l)) else lo2 a b g k i l (o++b.extract j (j+l)) (j+l)
 else lo2 a b g k i l o j
noncomputable def lo4 (j q g k:Nat)(o:KA)(i:Nat):SM (ForInStep (S4 (Nat×Nat×Nat))):=if (j == b.size)=true then pure (.done (some (loD a b o i j),o,i,j,g,k,q)) else elem' a i >>= λx=>gal true x b j (b.size-j) 0 >>= λv=>on v (pure (.done (some (loD a b o i j),o,i,j,g,k,q))) (lo3 a b g k o i j)
noncomputable def lo5 (j q g k:Nat)(o:KA)(i:Nat):SM (ForInStep (S4 (Nat×Nat×Nat))):=elem' b j >>= λy=>lo4 a b (j+1) q g k (o.push y) i
noncomputable def lo6 (o:KA)(i j q g k:Nat):SM (ForInStep (S4 (Nat×Nat×Nat))):=if k > 0 then
  if (i+k+1 == a.size)=true then pure (.done (some (loE a b (o++a.extract i (i+k)) (i+k) j),o++a.extract i (i+k),i+k,j,g,k,q))
  else if (i+k == a.size)=true then pure (.done (some (loD a b (o++a.extract i (i+k)) (i+k) j),o++a.extract i (i+k),i+k,j,g,k,q))
  else lo5 a b j q g k (o++a.extract i (i+k)) (i+k)
 else lo5 a b j q g k o i
noncomputable def lo7 (o:KA)(i j p q g:Nat):SM (ForInStep (S4 (Nat×Nat×Nat))):=setG g >>= λ_=>elem' b j >>= λy=>gal false y a i (a.size-i) 0 >>= λv=>on v (pure (.done (some (loD a b o i j),o,i,j,g,p,q))) (lo6 a b o i j q g)
noncomputable def lo8 (c:S4 (Nat×Nat×Nat)):SM (ForInStep (S4 Nat)):=oe c.1 (setG (c.2.2.2.2.1+1) >>= λ_=>pure (.yield (none,c.2.1,c.2.2.1,c.2.2.2.1,c.2.2.2.2.1+1))) λr=>pure (.done (some r,c.2.1,c.2.2.1,c.2.2.2.1,c.2.2.2.2.1))
noncomputable def lo9 (o:KA)(i j g p q:Nat):SM (ForInStep (S4 Nat)):=liftM (rule "list.sort.gallop") >>= λ_=>forIn [0:a.size+b.size] ((none,o,i,j,g+1,p,q):S4 (Nat×Nat×Nat)) (λ_ c=>if c.2.2.2.2.1 > 1 then lo7 a b c.2.1 c.2.2.1 c.2.2.2.1 c.2.2.2.2.2.1 c.2.2.2.2.2.2 (c.2.2.2.2.1-1) else lo7 a b c.2.1 c.2.2.1 c.2.2.2.1 c.2.2.2.2.2.1 c.2.2.2.2.2.2 c.2.2.2.2.1) >>= lo8
noncomputable def lo10 (o:KA)(i j g:Nat):SM (ForInStep (S4 Nat)):=forIn [0:a.size+b.size] ((none,o,i,j,0,0):S4 (Nat×Nat)) (λ_ c=>lo1 a b g c.2.1 c.2.2.1 c.2.2.2.1 c.2.2.2.2.1 c.2.2.2.2.2) >>= λc=>oe c.1 (lo9 a b c.2.1 c.2.2.1 c.2.2.2.1 g c.2.2.2.2.1 c.2.2.2.2.2) λr=>pure (.done (some r,c.2.1,c.2.2.1,c.2.2.2.1,g))
noncomputable def lo (a b:KA):SM KA:=liftM (rule "list.sort.merge-lo") >>= λ_=>elem' b 0 >>= λy=>if (1 == b.size)=true then pure (loD a b #[y] 0 1) else if (0+1 == a.size)=true then pure (loE a b #[y] 0 1)
 else get >>= λs=>forIn [0:a.size+b.size] ((none,#[y],0,1,gallopOf s):S4 Nat) (λ_ c=>lo10 a b c.2.1 c.2.2.1 c.2.2.2.1 c.2.2.2.2) >>= λc=>oe c.1 (liftM (unsupported "internal:list.sort.merge-bound" : Sem KA)) pure
end
end Sw
set_option maxHeartbeats 400000
namespace Sw
open PySem PyProof.Rows Srt
theorem ztH:mLo=lo:=rfl
section
variable {prog:Program}{w:World}{A:Around}{E:Value->Shared->Prop}{s:Shared}{k:SortKind}{P:Keyed->Prop}{n:Nat}{pd:Array (Nat×Nat×Nat)}{st:SortSt}{β τ:Type}{a b:KA}{o:KA}{i j m z g p q l:Nat}
theorem loDa (ha:AllP P a)(hb:AllP P b)(h:AllP P o):AllP P (loD a b o i j):=(h.app ha.ext).app hb.ext
theorem loEa (ha:AllP P a)(hb:AllP P b)(h:AllP P o):AllP P (loE a b o i j):=(h.app hb.ext).app ha.ext
structure Am (P:Keyed->Prop)(a b:KA)(m:Nat)(c:S4 τ):Prop where
 r:c.1=none
 o:AllP P c.2.1
 i:c.2.2.1+1<a.size
 j:c.2.2.2.1<b.size
 m:m<=c.2.2.1+c.2.2.2.1
noncomputable abbrev Po (τ:Type)(k:SortKind)(P:Keyed->Prop)(n:Nat)(pd:Array (Nat×Nat×Nat))(a b:KA)(z m:Nat):ForInStep (S4 τ)->SortSt->Prop:=Rp (Wk k P n pd) (Dn P (Am P a b z)) (Am P a b m)
theorem lo1W (C:CmpW prog w A E s k P)(ha:AllP P a)(hb:AllP P b)(h:Wk k P n pd st)(ho:AllP P o)(hi:i+1<a.size)(hj:j<b.size)(hm:m<=i+j)(hz:z<=m+1):wpS (model prog w) A E s (lo1 a b g o i j p q) (Po _ k P n pd a b z (m+1)) st:=
 have hi':=Nat.lt_of_succ_lt hi
 eP hb hj λy hy=>eP ha hi' λx hx=>cP C h hy hx λv=>zaA
  (λ_=>eP hb hj λy hy=>enW h (loDa ha hb (ho.push hy)) λe=>have e:=eqb e;⟨⟨rfl,ho.push hy,hi,by show j+1<b.size;lia,by show z<=i+(j+1);lia⟩,⟨rfl,ho.push hy,hi,by show j+1<b.size;lia,Nat.succ_le_succ hm⟩⟩)
  (λ_=>eP ha hi' λy hy=>enW h (loEa ha hb (ho.push hy)) λe=>have e:=eqb e;⟨⟨rfl,ho.push hy,by show i+1+1<a.size;lia,hj,by show z<=i+1+j;lia⟩,⟨rfl,ho.push hy,by show i+1+1<a.size;lia,hj,by show m+1<=i+1+j;lia⟩⟩)
theorem lo2W (ha:AllP P a)(hb:AllP P b)(h:Wk k P n pd st)(ho:AllP P o)(hi:i+1<a.size)(hj:j<b.size)(hm:m<=i+j)(hz:z<=m+1):wpS (model prog w) A E s (lo2 a b g p i l o j) (Po _ k P n pd a b z (m+1)) st:=
 eP ha (Nat.lt_of_succ_lt hi) λy hy=>enW h (loEa ha hb (ho.push hy)) λe=>have e:=eqb e;⟨⟨rfl,ho.push hy,by show i+1+1<a.size;lia,hj,by show z<=i+1+j;lia⟩,⟨rfl,ho.push hy,by show i+1+1<a.size;lia,hj,by show m+1<=i+1+j;lia⟩⟩
theorem lo4W (C:CmpW prog w A E s k P)(ha:AllP P a)(hb:AllP P b)(h:Wk k P n pd st)(ho:AllP P o)(hi:i+1<a.size)(hj:j<=b.size)(hm:m<=i+j)(hz:z<=m+1):wpS (model prog w) A E s (lo4 a b j q g p o i) (Po _ k P n pd a b z (m+1)) st:=
 rtW h (loDa ha hb ho) λe=>have e:=eqb e;eP ha (Nat.lt_of_succ_lt hi) λx hx=>gP C h hb hx (by lia) (by lia) λr hr=>zaA
  (λ_=>rtW h (loDa ha hb (ho.app hb.ext)) λe=>have e:=eqb e;lo2W ha hb h (ho.app hb.ext) hi (by lia) (by lia) hz)
  λ_=>lo2W ha hb h ho hi (by lia) hm hz
theorem lo6W (C:CmpW prog w A E s k P)(ha:AllP P a)(hb:AllP P b)(h:Wk k P n pd st)(ho:AllP P o)(hi:i+1<a.size)(hj:j<b.size)(hm:m<=i+j)(hz:z<=m+1)(hl:i+l<=a.size):wpS (model prog w) A E s (lo6 a b o i j q g l) (Po _ k P n pd a b z (m+1)) st:=
 zaA (λ_=>rtW h (loEa ha hb (ho.app ha.ext)) λe=>have e:=eqb e;rtW h (loDa ha hb (ho.app ha.ext)) λf=>have f:=eqb f;eP hb hj λy hy=>lo4W C ha hb h ((ho.app ha.ext).push hy) (by lia) hj (by lia) hz)
  λ_=>eP hb hj λy hy=>lo4W C ha hb h (ho.push hy) hi hj (by lia) hz
theorem lo7W (C:CmpW prog w A E s k P)(ha:AllP P a)(hb:AllP P b)(h:Wk k P n pd st)(ho:AllP P o)(hi:i+1<a.size)(hj:j<b.size)(hm:m<=i+j)(hz:z<=m+1):wpS (model prog w) A E s (lo7 a b o i j p q g) (Po _ k P n pd a b z (m+1)) st:=
 sP h λst h=>eP hb hj λy hy=>gP C h ha hy (by lia) (by lia) λr hr=>lo6W C ha hb h ho hi hj hm hz (by lia)
theorem Am.no {c:S4 τ}(h:Am P a b (m+max 0 (a.size+b.size)) c):False:=by
 have h1:=h.i;have h2:=h.j;have h3:=h.m;lia
theorem mLoW (C:CmpW prog w A E s k P){Q:KA->SortSt->Prop}(h:Wk k P n pd st)(ha0:0<a.size)(hb0:0<b.size)(ha:AllP P a)(hb:AllP P b)(hQ:∀o st,AllP P o->Wk k P n pd st->Q o st):wpS (model prog w) A E s (mLo a b) Q st:=by
 rw[ztH];refine wpS_bind (wpS_lift (wpAny_rule ⟨rfl,?_⟩));refine eP hb hb0 λy hy=>zaA (λ_=>wpS_pure (hQ _ _ (loDa ha hb (.one hy)) h)) λe=>have e:=eqb e;zaA (λ_=>wpS_pure (hQ _ _ (loEa ha hb (.one hy)) h)) λf=>have f:=eqb f;wpS_bind (wpS_get ?_);refine wpR (λx=>Am P a b (1+x)) (Dn P λ_=>False) h ⟨rfl,.one hy,by show 0+1<a.size;lia,by show 1<b.size;lia,Xi 1⟩ (λc h=>h.no.elim) (λx c st h _ _ m=>?_) λc st h hc=>?_
 ·refine wpR (λy=>Am P a b (1+x+y)) (Dn P (Am P a b (1+x+1))) h ⟨rfl,m.o,m.i,m.j,m.m⟩ (λc h=>h.no.elim) (λy c st h _ _ m=>lo1W C ha hb h m.o m.i m.j m.m (Nat.succ_le_succ (Nat.le_add_right _ _))) λc st h hc=>?_;obtain⟨c,d⟩:=c;rcases hc with ⟨o,rfl,ho⟩ | m
  ·exact rS h ho
  ·obtain rfl:c=none:=m.r;refine wpS_bind (wpS_lift (wpAny_rule ⟨rfl,?_⟩));refine wpR (λy=>Am P a b (1+x+1+y)) (Dn P (Am P a b (1+x+1))) h ⟨rfl,m.o,m.i,m.j,m.m⟩ (λc h=>h.no.elim) (λy c st h _ _ m=>zaA (λ_=>lo7W C ha hb h m.o m.i m.j m.m (XB (Nat.le_add_right _ _) (YN _))) λ_=>lo7W C ha hb h m.o m.i m.j m.m (XB (Nat.le_add_right _ _) (YN _))) λc st h hc=>?_;obtain⟨c,d⟩:=c;rcases hc with ⟨o,rfl,ho⟩ | m
   ·exact rS h ho
   ·obtain rfl:c=none:=m.r;exact sP h λst h=>wpS_pure ⟨h,rfl,m.o,m.i,m.j,m.m⟩
 ·obtain⟨c,d⟩:=c;rcases hc with ⟨o,rfl,ho⟩ | hf
  ·exact wpS_pure (hQ _ _ ho h)
  ·exact hf.elim
end
end Sw
set_option maxHeartbeats 400000
namespace Sw
open PySem PyProof.Rows Srt
noncomputable abbrev S5 (τ:Type):=Option KA×Nat×Nat×KA×τ
section
variable (a b:KA)
noncomputable def hiD (o:KA)(i j:Nat):KA:=a.extract 0 i++b.extract 0 j++o.reverse
noncomputable def hiE (o:KA)(i j:Nat):KA:=b.extract 0 j++a.extract 0 i++o.reverse
noncomputable def hi1 (g i j:Nat)(o:KA)(p q:Nat):SM (ForInStep (S5 (Nat×Nat))):=elem' b (j-1) >>= λy=>elem' a (i-1) >>= λx=>lt' y x >>= λv=>ov v (pure (.done (some (hiD a b o i j),i,j,o,p,q))) λv=>if v=true
 then elem' a (i-1) >>= λy=>en ((i-1 == 0)=true) (p+1>=g) (hiD a b (o.push y) (i-1) j) (i-1,j,o.push y,p+1,0)
 else elem' b (j-1) >>= λy=>en ((j-1 == 1)=true) (q+1>=g) (hiE a b (o.push y) i (j-1)) (i,j-1,o.push y,0,q+1)
noncomputable def hi2 (g k i l j:Nat)(o:KA):SM (ForInStep (S5 (Nat×Nat×Nat))):=elem' a (i-1) >>= λx=>en ((i-1 == 0)=true) ((decide (k<7)&&decide (l<7))=true) (hiD a b (o.push x) (i-1) j) (i-1,j,o.push x,g,k,l)
noncomputable def hi3 (g k:Nat)(o:KA)(i j u:Nat):SM (ForInStep (S5 (Nat×Nat×Nat))):=if j-u > 0 then
  if (u == 1)=true then pure (.done (some (hiE a b (o++(b.extract u j).reverse) i u),i,u,o++(b.extract u j).reverse,g,k,j-u))
  else if (u == 0)=true then pure (.done (some (hiD a b (o++(b.extract u j).reverse) i u),i,u,o++(b.extract u j).reverse,g,k,j-u))
  else hi2 a b g k i (j-u) u (o++(b.extract u j).reverse)
 else hi2 a b g k i (j-u) j o
noncomputable def hi4 (j q g k:Nat)(o:KA)(i:Nat):SM (ForInStep (S5 (Nat×Nat×Nat))):=if (j == 1)=true then pure (.done (some (hiE a b o i j),i,j,o,g,k,q)) else elem' a (i-1) >>= λx=>gal true x b 0 j (j-1) >>= λv=>on v (pure (.done (some (hiD a b o i j),i,j,o,g,k,q))) (hi3 a b g k o i j)
noncomputable def hi5 (j q g k i:Nat)(o:KA):SM (ForInStep (S5 (Nat×Nat×Nat))):=elem' b (j-1) >>= λy=>hi4 a b (j-1) q g k (o.push y) i
noncomputable def hi6 (i j:Nat)(o:KA)(q g t:Nat):SM (ForInStep (S5 (Nat×Nat×Nat))):=if i-t > 0 then
  if (t == 0)=true then pure (.done (some (hiD a b (o++(a.extract t i).reverse) t j),t,j,o++(a.extract t i).reverse,g,i-t,q))
  else hi5 a b j q g (i-t) t (o++(a.extract t i).reverse)
 else hi5 a b j q g (i-t) i o
noncomputable def hi7 (i j:Nat)(o:KA)(p q g:Nat):SM (ForInStep (S5 (Nat×Nat×Nat))):=setG g >>= λ_=>elem' b (j-1) >>= λy=>gal false y a 0 i (i-1) >>= λv=>on v (pure (.done (some (hiD a b o i j),i,j,o,g,p,q))) (hi6 a b i j o q g)
noncomputable def hi8 (c:S5 (Nat×Nat×Nat)):SM (ForInStep (S5 Nat)):=oe c.1 (setG (c.2.2.2.2.1+1) >>= λ_=>pure (.yield (none,c.2.1,c.2.2.1,c.2.2.2.1,c.2.2.2.2.1+1))) λr=>pure (.done (some r,c.2.1,c.2.2.1,c.2.2.2.1,c.2.2.2.2.1))
noncomputable def hi9 (i j:Nat)(o:KA)(g p q:Nat):SM (ForInStep (S5 Nat)):=liftM (rule "list.sort.gallop") >>= λ_=>forIn [0:a.size+b.size] ((none,i,j,o,g+1,p,q):S5 (Nat×Nat×Nat)) (λ_ c=>if c.2.2.2.2.1 > 1 then hi7 a b c.2.1 c.2.2.1 c.2.2.2.1 c.2.2.2.2.2.1 c.2.2.2.2.2.2 (c.2.2.2.2.1-1) else hi7 a b c.2.1 c.2.2.1 c.2.2.2.1 c.2.2.2.2.2.1 c.2.2.2.2.2.2 c.2.2.2.2.1) >>= hi8
noncomputable def hi10 (i j:Nat)(o:KA)(g:Nat):SM (ForInStep (S5 Nat)):=forIn [0:a.size+b.size] ((none,i,j,o,0,0):S5 (Nat×Nat)) (λ_ c=>hi1 a b g c.2.1 c.2.2.1 c.2.2.2.1 c.2.2.2.2.1 c.2.2.2.2.2) >>= λc=>oe c.1 (hi9 a b c.2.1 c.2.2.1 c.2.2.2.1 g c.2.2.2.2.1 c.2.2.2.2.2) λr=>pure (.done (some r,c.2.1,c.2.2.1,c.2.2.2.1,g))
noncomputable def hi (a b:KA):SM KA:=liftM (rule "list.sort.merge-hi") >>= λ_=>elem' a (a.size-1) >>= λy=>if (a.size-1 == 0)=true then pure (hiD a b #[y] (a.size-1) b.size) else if (b.size == 1)=true then pure (hiE a b #[y] (a.size-1) b.size)
 else get >>= λs=>forIn [0:a.size+b.size] ((none,a.size-1,b.size,#[y],gallopOf s):S5 Nat) (λ_ c=>hi10 a b c.2.1 c.2.2.1 c.2.2.2.1 c.2.2.2.2) >>= λc=>oe c.1 (liftM (unsupported "internal:list.sort.merge-bound" : Sem KA)) pure
end
theorem ztI:mHi=hi:=rfl
section
variable {prog:Program}{w:World}{A:Around}{E:Value->Shared->Prop}{s:Shared}{k:SortKind}{P:Keyed->Prop}{n:Nat}{pd:Array (Nat×Nat×Nat)}{st:SortSt}{β τ:Type}{a b:KA}{o:KA}{i j m z g p q l:Nat}
theorem hiDa (ha:AllP P a)(hb:AllP P b)(h:AllP P o):AllP P (hiD a b o i j):=(ha.ext.app hb.ext).app h.rev
theorem hiEa (ha:AllP P a)(hb:AllP P b)(h:AllP P o):AllP P (hiE a b o i j):=(hb.ext.app ha.ext).app h.rev
structure Bm (P:Keyed->Prop)(a b:KA)(m:Nat)(c:S5 τ):Prop where
 r:c.1=none
 i:0<c.2.1/\c.2.1<=a.size
 j:1<c.2.2.1/\c.2.2.1<=b.size
 o:AllP P c.2.2.2.1
 m:m+(c.2.1+c.2.2.1)<=a.size+b.size
noncomputable abbrev Ph (τ:Type)(k:SortKind)(P:Keyed->Prop)(n:Nat)(pd:Array (Nat×Nat×Nat))(a b:KA)(z m:Nat):ForInStep (S5 τ)->SortSt->Prop:=Rp (Wk k P n pd) (Dn P (Bm P a b z)) (Bm P a b m)
theorem Bm.two {c:S5 τ}(h:Bm P a b m c)(hz:z<=m):Bm P a b z c/\Bm P a b m c:=⟨⟨h.r,h.i,h.j,h.o,XB (Nat.add_le_add_right hz _) h.m⟩,h⟩
theorem hi1W (C:CmpW prog w A E s k P)(ha:AllP P a)(hb:AllP P b)(h:Wk k P n pd st)(ho:AllP P o)(hi:0<i/\i<=a.size)(hj:1<j/\j<=b.size)(hm:m+(i+j)<=a.size+b.size)(hz:z<=m+1):wpS (model prog w) A E s (hi1 a b g i j o p q) (Ph _ k P n pd a b z (m+1)) st:=
 have hi':i-1<a.size:=by lia
 have hj':j-1<b.size:=by lia
 eP hb hj' λy hy=>eP ha hi' λx hx=>cP C h hy hx λv=>zaA
  (λ_=>eP ha hi' λy hy=>enW h (hiDa ha hb (ho.push hy)) λe=>have e:=eqb e;Bm.two ⟨rfl,by show 0<i-1/\i-1<=a.size;lia,hj,ho.push hy,by show m+1+(i-1+j)<=a.size+b.size;lia⟩ hz)
  (λ_=>eP hb hj' λy hy=>enW h (hiEa ha hb (ho.push hy)) λe=>have e:=eqb e;Bm.two ⟨rfl,hi,by show 1<j-1/\j-1<=b.size;lia,ho.push hy,by show m+1+(i+(j-1))<=a.size+b.size;lia⟩ hz)
theorem hi2W (ha:AllP P a)(hb:AllP P b)(h:Wk k P n pd st)(ho:AllP P o)(hi:0<i/\i<=a.size)(hj:1<j/\j<=b.size)(hm:m+(i+j)<=a.size+b.size)(hz:z<=m+1):wpS (model prog w) A E s (hi2 a b g p i l j o) (Ph _ k P n pd a b z (m+1)) st:=
 eP ha (show i-1<a.size by lia) λy hy=>enW h (hiDa ha hb (ho.push hy)) λe=>have e:=eqb e;Bm.two ⟨rfl,by show 0<i-1/\i-1<=a.size;lia,hj,ho.push hy,by show m+1+(i-1+j)<=a.size+b.size;lia⟩ hz
theorem hi4W (C:CmpW prog w A E s k P)(ha:AllP P a)(hb:AllP P b)(h:Wk k P n pd st)(ho:AllP P o)(hi:0<i/\i<=a.size)(hj:0<j/\j<=b.size)(hm:m+(i+j)<=a.size+b.size)(hz:z<=m+1):wpS (model prog w) A E s (hi4 a b j q g p o i) (Ph _ k P n pd a b z (m+1)) st:=
 rtW h (hiEa ha hb ho) λe=>have e:=eqb e;eP ha (show i-1<a.size by lia) λx hx=>gP C h hb hx (by lia) (by lia) λr hr=>zaA
  (λ_=>rtW h (hiEa ha hb (ho.app hb.ext.rev)) λe=>have e:=eqb e;rtW h (hiDa ha hb (ho.app hb.ext.rev)) λf=>have f:=eqb f;hi2W ha hb h (ho.app hb.ext.rev) hi (by lia) (by lia) hz)
  λ_=>hi2W ha hb h ho hi (by lia) hm hz
theorem hi6W (C:CmpW prog w A E s k P)(ha:AllP P a)(hb:AllP P b)(h:Wk k P n pd st)(ho:AllP P o)(hi:0<i/\i<=a.size)(hj:1<j/\j<=b.size)(hm:m+(i+j)<=a.size+b.size)(hz:z<=m+1)(hl:l<=i):wpS (model prog w) A E s (hi6 a b i j o q g l) (Ph _ k P n pd a b z (m+1)) st:=
 have hj':j-1<b.size:=by lia
 have hj2:0<j-1/\j-1<=b.size:=by lia
 zaA (λ_=>rtW h (hiDa ha hb (ho.app ha.ext.rev)) λe=>have e:=eqb e;eP hb hj' λy hy=>hi4W C ha hb h ((ho.app ha.ext.rev).push hy) (by lia) hj2 (by lia) hz)
  λ_=>eP hb hj' λy hy=>hi4W C ha hb h (ho.push hy) hi hj2 (by lia) hz
theorem hi7W (C:CmpW prog w A E s k P)(ha:AllP P a)(hb:AllP P b)(h:Wk k P n pd st)(ho:AllP P o)(hi:0<i/\i<=a.size)(hj:1<j/\j<=b.size)(hm:m+(i+j)<=a.size+b.size)(hz:z<=m+1):wpS (model prog w) A E s (hi7 a b i j o p q g) (Ph _ k P n pd a b z (m+1)) st:=
 sP h λst h=>eP hb (show j-1<b.size by lia) λy hy=>gP C h ha hy (by lia) (by lia) λr hr=>hi6W C ha hb h ho hi hj hm hz hr
theorem Bm.no {c:S5 τ}(h:Bm P a b (m+max 0 (a.size+b.size)) c):False:=by
 have h1:=h.i;have h3:=h.m;lia
theorem mHiW (C:CmpW prog w A E s k P){Q:KA->SortSt->Prop}(h:Wk k P n pd st)(ha0:0<a.size)(hb0:0<b.size)(ha:AllP P a)(hb:AllP P b)(hQ:∀o st,AllP P o->Wk k P n pd st->Q o st):wpS (model prog w) A E s (mHi a b) Q st:=by
 rw[ztI];refine wpS_bind (wpS_lift (wpAny_rule ⟨rfl,?_⟩));refine eP ha (show a.size-1<a.size by lia) λy hy=>zaA (λ_=>wpS_pure (hQ _ _ (hiDa ha hb (.one hy)) h)) λe=>have e:=eqb e;zaA (λ_=>wpS_pure (hQ _ _ (hiEa ha hb (.one hy)) h)) λf=>have f:=eqb f;wpS_bind (wpS_get ?_);refine wpR (λx=>Bm P a b (1+x)) (Dn P λ_=>False) h ⟨rfl,by show 0<a.size-1/\a.size-1<=a.size;lia,by show 1<b.size/\b.size<=b.size;lia,.one hy,by show 1+0+(a.size-1+b.size)<=a.size+b.size;lia⟩ (λc h=>h.no.elim) (λx c st h _ _ m=>?_) λc st h hc=>?_
 ·refine wpR (λy=>Bm P a b (1+x+y)) (Dn P (Bm P a b (1+x+1))) h ⟨rfl,m.i,m.j,m.o,m.m⟩ (λc h=>h.no.elim) (λy c st h _ _ m=>hi1W C ha hb h m.o m.i m.j m.m (Nat.succ_le_succ (Nat.le_add_right _ _))) λc st h hc=>?_;obtain⟨c,d⟩:=c;rcases hc with ⟨o,rfl,ho⟩ | m
  ·exact rS h ho
  ·obtain rfl:c=none:=m.r;refine wpS_bind (wpS_lift (wpAny_rule ⟨rfl,?_⟩));refine wpR (λy=>Bm P a b (1+x+1+y)) (Dn P (Bm P a b (1+x+1))) h ⟨rfl,m.i,m.j,m.o,m.m⟩ (λc h=>h.no.elim) (λy c st h _ _ m=>zaA (λ_=>hi7W C ha hb h m.o m.i m.j m.m (XB (Nat.le_add_right _ _) (YN _))) λ_=>hi7W C ha hb h m.o m.i m.j m.m (XB (Nat.le_add_right _ _) (YN _))) λc st h hc=>?_;obtain⟨c,d⟩:=c;rcases hc with ⟨o,rfl,ho⟩ | m
   ·exact rS h ho
   ·obtain rfl:c=none:=m.r;exact sP h λst h=>wpS_pure ⟨h,rfl,m.i,m.j,m.o,m.m⟩
 ·obtain⟨c,d⟩:=c;rcases hc with ⟨o,rfl,ho⟩ | hf
  ·exact wpS_pure (hQ _ _ ho h)
  ·exact hf.elim
end
end Sw
set_option maxHeartbeats 400000
namespace Sw
open PySem PyProof.Rows Srt
noncomputable def mAt:Nat->SM Bool:=sortPriv% PySem.Builtin.mergeAt
noncomputable abbrev T3:=Nat×Nat×Nat
noncomputable def op {γ:Type}(x:Option T3×Option T3)(d:γ)(f:Nat->Nat->Nat->Nat->Nat->γ):γ:=(sortPriv% PySem.Builtin.mergeAt.match_5) (λ_=>γ) x (λa b c d e _=>f a b c d e) λ_=>d
noncomputable def at1 (p:Nat)(m:KA):SM Bool:=(modify λst=>setArr st (m.toList.zipIdx.foldl (λa x=>(sortPriv% PySem.Builtin.mergeAt.match_1) (λ_=>KA) x λq j=>a.setIfInBounds (p+j) q) (arrOf st))) >>= λ_=>get >>= λst=>pure (failedOf st).isNone
noncomputable def at2 (a:KA)(sb sa na nb:Nat):SM Bool:=if (nb == 0)=true then pure true else if na<=nb then mLo (a.extract sa sb) (a.extract sb (sb+nb)) >>= at1 sa else mHi (a.extract sa sb) (a.extract sb (sb+nb)) >>= at1 sa
noncomputable def at3 (a:KA)(sb nb sa na:Nat):SM Bool:=if (na == 0)=true then pure true else elem' a (sa+na-1) >>= λx=>gal true x a sb nb (nb-1) >>= λv=>on v (pure false) (at2 a sb sa na)
noncomputable def at4 (i:Nat)(st:SortSt)(sa na pw sb nb:Nat):SM Bool:=set (SortSt.mk' (kindOf st) (arrOf st) (((pendingOf st).setIfInBounds i (sa,na+nb,pw)).eraseIdxIfInBounds (i+1)) (gallopOf st) (failedOf st)) >>= λ_=>elem' (arrOf st) sb >>= λy=>gal false y (arrOf st) sa na 0 >>= λv=>on v (pure false) λk=>at3 (arrOf st) sb nb (sa+k) (na-k)
noncomputable def at_ (i:Nat):SM Bool:=get >>= λst=>op ((pendingOf st)[i]?,(pendingOf st)[i+1]?) (liftM (unsupported "internal:list.sort.pending" : Sem Bool)) (at4 i st)
theorem ztJ:mAt=at_:=rfl
section
variable {prog:Program}{w:World}{A:Around}{E:Value->Shared->Prop}{s:Shared}{k:SortKind}{P:Keyed->Prop}{n:Nat}{pd:Array T3}{st:SortSt}{β τ:Type}{a b:KA}{i j m:Nat}
theorem zsO {x:SortSt}{Q:PUnit->SortSt->Prop}(h:Q ⟨⟩ x):wpS (model prog w) A E s (set x:StateT SortSt Sem PUnit) Q st:=by
 unfold wpS;rw[StateT.run_set];exact wpAny_pure ⟨rfl,h⟩
theorem AllP.put (ha:AllP P a){x:Keyed}(hx:P x){i:Nat}:AllP P (a.setIfInBounds i x):=λj y h=>by
 rw[Array.getElem?_setIfInBounds]at h;split at h
 ·split at h
  ·cases h;exact hx
  ·cases h
 ·exact ha j y h
theorem zjY {p:Nat}:∀ {l:List (Keyed×Nat)}{a:KA},(∀x∈l,P x.1)->AllP P a->AllP P (l.foldl (λa x=>(sortPriv% PySem.Builtin.mergeAt.match_1) (λ_=>KA) x λq j=>a.setIfInBounds (p+j) q) a)/\(l.foldl (λa x=>(sortPriv% PySem.Builtin.mergeAt.match_1) (λ_=>KA) x λq j=>a.setIfInBounds (p+j) q) a).size=a.size
 | [],a,_,h=>⟨h,rfl⟩
 | (x,j)::l,a,hl,h=>by
  have:=zjY (p:=p) (l:=l) (a:=a.setIfInBounds (p+j) x) (λy hy=>hl y (Xf _ hy)) (h.put (hl (x,j) Xh));exact⟨this.1,this.2.trans Array.size_setIfInBounds⟩
theorem at1W {p:Nat}{Q:Bool->SortSt->Prop}(h:Wk k P n pd st)(hm:AllP P a)(hQ:∀v st,Wk k P n pd st->Q v st):wpS (model prog w) A E s (at1 p a) Q st:=by
 have:=zjY (p:=p) (l:=a.toList.zipIdx) (a:=arrOf st) (λx hx=>zcb.mp hm x.1 (List.fst_mem_of_mem_zipIdx hx)) h.all;exact wpS_bind (wpS_modify (wpS_bind (wpS_get (wpS_pure (hQ _ _ ⟨h.kind,this.1,this.2.trans h.size,h.fail,h.pend⟩)))))
theorem zjZ {i j:Nat}(h:j<=a.size)(hi:i<j):0<(a.extract i j).size:=by rw[Array.size_extract];lia
theorem mAtW (C:CmpW prog w A E s k P){sa na pw nb pw2:Nat}{Q:Bool->SortSt->Prop}(h:Wk k P n pd st)(h1:pd[i]? = some (sa,na,pw))(h2:pd[i+1]? = some (sa+na,nb,pw2))(hna:0<na)(hnb:0<nb)(hsz:sa+na+nb<=n)
  (hQ:∀v st,Wk k P n ((pd.setIfInBounds i (sa,na+nb,pw)).eraseIdxIfInBounds (i+1)) st->Q v st):wpS (model prog w) A E s (mAt i) Q st:=by
 rw[ztJ];refine wpS_bind (wpS_get ?_);obtain⟨hk,ha,hn,hf,rfl⟩:=h;subst hn;show wpS _ _ _ _ (op _ _ _) _ _;rw[h1,h2];refine wpS_bind (zsO ?_);have h:=(⟨hk,ha,rfl,hf,rfl⟩:Wk k P (arrOf st).size (((pendingOf st).setIfInBounds i (sa,na+nb,pw)).eraseIdxIfInBounds (i+1)) (SortSt.mk' (kindOf st) (arrOf st) (((pendingOf st).setIfInBounds i (sa,na+nb,pw)).eraseIdxIfInBounds (i+1)) (gallopOf st) (failedOf st)));refine eP ha (show sa+na<(arrOf st).size by lia) λy hy=>gP C h ha hy hna (by lia) λk1 c1=>zaA (λ_=>wpS_pure (hQ _ _ h)) λe1=>have e1:=eqb e1;?_;refine eP ha (by lia) λx hx=>gP C h ha hx (by lia) (by lia) λk2 c2=>zaA (λ_=>wpS_pure (hQ _ _ h)) λe2=>have e2:=eqb e2;?_;have g1:0<((arrOf st).extract (sa+k1) (sa+na)).size:=zjZ (by lia) (by lia);have g2:0<((arrOf st).extract (sa+na) (sa+na+k2)).size:=zjZ (by lia) (by lia);exact zaA (λ_=>wpS_bind (mLoW C h g1 g2 ha.ext ha.ext λo st ho h=>at1W h ho hQ)) λ_=>wpS_bind (mHiW C h g1 g2 ha.ext ha.ext λo st ho h=>at1W h ho hQ)
end
end Sw
set_option maxHeartbeats 400000
namespace Sw
open PySem PyProof.Rows Srt
noncomputable def bin:Nat->Nat->Nat->SM Bool:=sortPriv% PySem.Builtin.binarySort
noncomputable def cnt:Nat->Nat->SM (Option Nat):=sortPriv% PySem.Builtin.countRun
noncomputable def bi1 (lo k l r:Nat):SM (ForInStep (Option Bool×Nat×Nat)):=if l>=r then pure (.done (none,l,r)) else ltAt' (lo+k) (lo+(l+r) / 2) >>= λv=>ov v (pure (.done (some false,l,r))) λv=>if v=true then pure (.yield (none,l,(l+r) / 2)) else pure (.yield (none,(l+r) / 2+1,r))
noncomputable def bi2 (lo k:Nat):SM (ForInStep (Option Bool×Unit)):=forIn [0:k] ((none,0,k):Option Bool×Nat×Nat) (λ_ c=>bi1 lo k c.2.1 c.2.2) >>= λc=>oe c.1 (moveDown' (lo+k) (lo+c.2.1) >>= λ_=>pure (.yield (none,()))) λr=>pure (.done (some r,()))
noncomputable def bi (lo n ok:Nat):SM Bool:=forIn [max ok 1:n] ((none,()):Option Bool×Unit) (λk _=>bi2 lo k) >>= λc=>oe c.1 (pure true) pure
theorem ztK:bin=bi:=rfl
noncomputable abbrev C2:=Option (Option Nat)×Nat
noncomputable def co1 (lo n:Nat):SM (ForInStep C2):=ltAt' (lo+n) (lo+n-1) >>= λv=>ov v (pure (.done (some none,n))) λv=>if v=true then pure (.done (none,n)) else pure (.yield (none,n+1))
noncomputable def co2 (lo n q:Nat):SM (ForInStep (Option (Option Nat)×Nat×Nat)):=ltAt' (lo+n) (lo+n-1) >>= λv=>ov v (pure (.done (some none,n,q))) λv=>if v=true then(if q > 0 then reverseSlice' (lo+n-(q+1)) (lo+n) >>= λ_=>pure (.yield (none,n+1,0)) else pure (.yield (none,n+1,0))) else ltAt' (lo+n-1) (lo+n) >>= λv=>ov v (pure (.done (some none,n,q))) λv=>if v=true then pure (.done (none,n,q)) else pure (.yield (none,n+1,q+1))
noncomputable def co3 (lo m n:Nat):SM (Option Nat):=reverseSlice' lo (lo+n) >>= λ_=>forIn [n:m] ((none,n):C2) (λ_ c=>co1 lo c.2) >>= λc=>oe c.1 (pure (some c.2)) pure
noncomputable def co4 (lo m n:Nat):SM (Option Nat):=liftM (rule "list.sort.descending-run") >>= λ_=>forIn [n+1:m] ((none,n+1,0):Option (Option Nat)×Nat×Nat) (λ_ c=>co2 lo c.2.1 c.2.2) >>= λc=>oe c.1 (if c.2.2 > 0 then reverseSlice' (lo+c.2.1-(c.2.2+1)) (lo+c.2.1) >>= λ_=>co3 lo m c.2.1 else co3 lo m c.2.1) pure
noncomputable def co5 (lo m n:Nat):SM (Option Nat):=if (n == m)=true then pure (some n) else if n > 1 then ltAt' lo (lo+n-1) >>= λv=>ov v (pure none) λv=>if v=true then pure (some n) else reverseSlice' lo (lo+n) >>= λ_=>co4 lo m n else co4 lo m n
noncomputable def co (lo m:Nat):SM (Option Nat):=forIn [1:m] ((none,1):C2) (λ_ c=>co1 lo c.2) >>= λc=>oe c.1 (co5 lo m c.2) pure
theorem ztL:cnt=co:=rfl
section
variable {prog:Program}{w:World}{A:Around}{E:Value->Shared->Prop}{s:Shared}{k:SortKind}{P:Keyed->Prop}{n:Nat}{pd:Array T3}{st:SortSt}{β τ:Type}{a b:KA}{i j m lo:Nat}
theorem AllP.perm (h:AllP P a)(hp:b.Perm a):AllP P b:=zcb.mpr λx hx=>zcb.mp h x ((Array.perm_iff_toList_perm.mp hp).mem_iff.mp hx)
theorem Wk.perm (h:Wk k P n pd st)(hp:b.Perm (arrOf st)):Wk k P n pd (setArr st b):=⟨h.kind,h.all.perm hp,hp.size_eq.trans h.size,h.fail,h.pend⟩
theorem lP (C:CmpW prog w A E s k P){f:Option Bool->SM β}{Q:β->SortSt->Prop}(h:Wk k P n pd st)(hi:i<n)(hj:j<n)(hk:∀v:Bool,wpS (model prog w) A E s (f (some v)) Q st):wpS (model prog w) A E s (ltAt' i j >>= f) Q st:=
 wpS_bind (by
  rw[ltAt'_eq];exact wpS_bind (wpS_get (eP h.all (by rw[h.size];exact hi) λx hx=>eP h.all (by rw[h.size];exact hj) λy hy=>C.run hx hy h.kind hk)))
theorem vP {f:Unit->SM β}{Q:β->SortSt->Prop}(h:Wk k P n pd st)(hk:∀st,Wk k P n pd st->wpS (model prog w) A E s (f ()) Q st):wpS (model prog w) A E s (reverseSlice' i j >>= f) Q st:=
 wpS_bind (wpS_modify (hk _ (h.perm (mirror_perm _ _ _ _))))
theorem dP {f:Unit->SM β}{Q:β->SortSt->Prop}(h:Wk k P n pd st)(hk:∀st,Wk k P n pd st->wpS (model prog w) A E s (f ()) Q st):wpS (model prog w) A E s (moveDown' i j >>= f) Q st:=
 wpS_bind (wpS_modify (hk _ (h.perm (bubble_perm _ _ _))))
theorem binW (C:CmpW prog w A E s k P){ok:Nat}{Q:Bool->SortSt->Prop}(h:Wk k P n pd st)(hm:lo+m<=n)(hQ:∀v st,Wk k P n pd st->Q v st):wpS (model prog w) A E s (bin lo m ok) Q st:=by
 rw[ztK];refine wpR (λ_ _=>True) (λ_=>True) h trivial (λ_ _=>trivial) (λx c st h _ hx _=>?_) λc st h _=>?_
 ·refine wpR (λ_ c=>c.2.2<=x) (λ_=>True) h (Xi x) (λ_ _=>trivial) (λy c st h _ _ hc=>?_) λc st h _=>?_
  ·exact zaA (λ_=>wpS_pure ⟨h,trivial⟩) λe=>have e:=zqO e;lP C h (by lia) (by lia) λv=>zaA (λ_=>wpS_pure ⟨h,XB (Nat.le_of_lt e.2) hc⟩) λ_=>wpS_pure ⟨h,hc⟩
  ·obtain⟨_ | r,d⟩:=c
   ·exact dP h λst h=>wpS_pure ⟨h,trivial⟩
   ·exact wpS_pure ⟨h,trivial⟩
 ·obtain⟨_ | r,d⟩:=c
  ·exact wpS_pure (hQ _ _ h)
  ·exact wpS_pure (hQ _ _ h)
noncomputable def Cn (m:Nat)(c:C2):Prop:=c.1=none/\0<c.2/\c.2<=m
theorem co1W (C:CmpW prog w A E s k P){f:C2->SM β}{Q:β->SortSt->Prop}(h:Wk k P n pd st)(hi:0<i)(him:i<=m)(hm:lo+m<=n)(hk:∀j st,Wk k P n pd st->0<j->j<=m->wpS (model prog w) A E s (f (none,j)) Q st):wpS (model prog w) A E s (forIn [i:m] ((none,i):C2) (λ_ c=>co1 lo c.2) >>= f) Q st:=by
 refine wpR (λx c=>c.1=none/\c.2=x) (Cn m) h ⟨rfl,rfl⟩ (λc h=>⟨h.1,by rw[h.2];lia,by rw[h.2];lia⟩) (λx c st h h1 h2 hc=>?_) λc st h hc=>?_
 ·obtain⟨c,d⟩:=c;obtain⟨rfl,rfl⟩:c=none/\d=x:=hc;exact lP C h (by lia) (by lia) λv=>zaA (λ_=>wpS_pure ⟨h,rfl,by show 0<d;lia,Nat.le_of_lt h2⟩) λ_=>wpS_pure ⟨h,rfl,rfl⟩
 ·obtain⟨c,d⟩:=c;obtain⟨rfl,h1,h2⟩:=hc;exact hk d st h h1 h2
theorem co3W (C:CmpW prog w A E s k P){Q:Option Nat->SortSt->Prop}(h:Wk k P n pd st)(hi:0<i)(him:i<=m)(hm:lo+m<=n)(hQ:∀r st,Wk k P n pd st->0<r->r<=m->Q (some r) st):wpS (model prog w) A E s (co3 lo m i) Q st:=
 vP h λst h=>co1W C h hi him hm λj st h h1 h2=>wpS_pure (hQ _ _ h h1 h2)
theorem co4W (C:CmpW prog w A E s k P){Q:Option Nat->SortSt->Prop}(h:Wk k P n pd st)(hi:0<i)(him:i<m)(hm:lo+m<=n)(hQ:∀r st,Wk k P n pd st->0<r->r<=m->Q (some r) st):wpS (model prog w) A E s (co4 lo m i) Q st:=by
 refine wpS_bind (wpS_lift (wpAny_rule ⟨rfl,?_⟩));refine wpR (λx c=>c.1=none/\c.2.1=x) (λc=>Cn m (c.1,c.2.1)) h ⟨rfl,rfl⟩ (λc h=>⟨h.1,by show 0<c.2.1;rw[h.2];lia,by show c.2.1<=m;rw[h.2];lia⟩) (λx c st h h1 h2 hc=>?_) λc st h hc=>?_
 ·obtain⟨c,d,q⟩:=c;obtain⟨rfl,rfl⟩:c=none/\d=x:=hc;have f1:lo+d<n:=by lia
  have f2:lo+d-1<n:=by lia
  exact lP C h f1 f2 λv=>zaA (λ_=>zaA (λ_=>vP h λst h=>wpS_pure ⟨h,rfl,rfl⟩) λ_=>wpS_pure ⟨h,rfl,rfl⟩) λ_=>lP C h f2 f1 λv=>zaA (λ_=>wpS_pure ⟨h,rfl,by show 0<d;lia,Nat.le_of_lt h2⟩) λ_=>wpS_pure ⟨h,rfl,rfl⟩
 ·obtain⟨c,d,q⟩:=c;obtain⟨rfl,h1,h2⟩:=hc;exact zaA (λ_=>vP h λst h=>co3W C h h1 h2 hm hQ) λ_=>co3W C h h1 h2 hm hQ
theorem cntW (C:CmpW prog w A E s k P){Q:Option Nat->SortSt->Prop}(h:Wk k P n pd st)(h0:0<m)(hm:lo+m<=n)(hQ:∀r st,Wk k P n pd st->0<r->r<=m->Q (some r) st):wpS (model prog w) A E s (cnt lo m) Q st:=by
 rw[ztL];refine co1W C h Nat.one_pos h0 hm λj st h h1 h2=>zaA (λ_=>wpS_pure (hQ _ _ h h1 h2)) λe=>have e:=eqb e;?_;have e2:j<m:=by lia
 exact zaA (λ_=>lP C h (by lia) (by lia) λv=>zaA (λ_=>wpS_pure (hQ _ _ h h1 h2)) λ_=>vP h λst h=>co4W C h h1 e2 hm hQ) λ_=>co4W C h h1 e2 hm hQ
end
end Sw
set_option maxHeartbeats 400000
namespace Sw
open PySem PyProof.Rows Srt
noncomputable def srt:SM Unit:=sortPriv% PySem.Builtin.sortRuns
noncomputable def ot {γ:Type}(x:Option T3)(d:γ)(f:Nat->Nat->Nat->γ):γ:=(sortPriv% PySem.Builtin.sortRuns.match_1) (λ_=>γ) x f λ_=>d
noncomputable def so1 (l n:Nat):SM (ForInStep (Option Unit×Nat)):=(modify λst=>setPending st ((pendingOf st).push (l,n,0))) >>= λ_=>pure (.yield (none,l+n))
noncomputable def so2 (x:Bool):SM (ForInStep (Option Unit×Unit)):=if (!x)=true then pure (.done (some (),())) else pure (.yield (none,()))
noncomputable def so3 (pw:Nat):SM (ForInStep (Option Unit×Unit)):=get >>= λx=>ot (if (pendingOf x).size > 1 then(pendingOf x)[(pendingOf x).size-2]? else none) (pure (.done (none,()))) λ_ _ t=>if t<=pw then pure (.done (none,())) else mAt ((pendingOf x).size-2) >>= so2
noncomputable def so4 (N l n:Nat):SM (ForInStep (Option Unit×Nat)):=get >>= λx=>ot (pendingOf x).back? (so1 l n) λs1 n1 _=>forIn [0:N] ((none,()):Option Unit×Unit) (λ_ _=>so3 (power' N (2*s1+n1) (2*s1+n1+n1+n) N)) >>= λc=>oe c.1 ((modify λst=>setPending st ((pendingOf st).modify ((pendingOf st).size-1) λx=>(sortPriv% PySem.Builtin.sortRuns.match_3) (λ_=>T3) x λa b _=>(a,b,power' N (2*s1+n1) (2*s1+n1+n1+n) N))) >>= λ_=>so1 l n) λr=>pure (.done (some r,l))
noncomputable def so5 (N l:Nat):SM (ForInStep (Option Unit×Nat)):=if l>=N then pure (.done (none,l)) else cnt l (N-l) >>= λv=>on v (pure (.done (some (),l))) λn=>if n<minRun' N N 0 then liftM (rule "list.sort.binary-insertion") >>= λ_=>bin l (min (N-l) (minRun' N N 0)) n >>= λx=>if (!x)=true then pure (.done (some (),l)) else so4 N l (min (N-l) (minRun' N N 0)) else so4 N l n
noncomputable def so6:SM (ForInStep (Option Unit×Unit)):=get >>= λx=>if (pendingOf x).size<=1 then pure (.done (none,())) else mAt (if Option.any (λy=>decide (y<(pendingOf x)[(pendingOf x).size-2+1]?.elim 0 λx=>x.2.1)) (if (pendingOf x).size-2 > 0 then Option.map (λx=>x.2.1) (pendingOf x)[(pendingOf x).size-2-1]? else none)=true then(pendingOf x).size-2-1 else(pendingOf x).size-2) >>= so2
noncomputable def so7 (N:Nat):SM Unit:=forIn [0:N] ((none,0):Option Unit×Nat) (λ_ c=>so5 N c.2) >>= λc=>oe c.1 (forIn [0:N] ((none,()):Option Unit×Unit) (λ_ _=>so6) >>= λc=>oe c.1 (pure ()) pure) pure
noncomputable def so:SM Unit:=get >>= λst=>so7 (arrOf st).size
theorem ztM:srt=so:=rfl
noncomputable def Stk:Nat->List T3->Nat->Prop
 | s,[],hi=>s=hi
 | s,e::r,hi=>e.1=s/\0<e.2.1/\Stk (s+e.2.1) r hi
theorem Stk.le:∀ {l:List T3}{s hi:Nat},Stk s l hi->s<=hi
 | [],s,hi,h=>Nat.le_of_eq h
 | e::r,s,hi,h=>XB (Nat.le_add_right _ _) h.2.2.le
theorem Stk.append:∀ {l m:List T3}{s hi:Nat},Stk s (l++m) hi↔∃t,Stk s l t/\Stk t m hi
 | [],m,s,hi=>⟨λh=>⟨s,rfl,h⟩,λ⟨t,h1,h2⟩=>by have:s=t:=h1;rw[this];exact h2⟩
 | e::r,m,s,hi=>by
  constructor
  ·intro h;obtain⟨t,g1,g2⟩:=Stk.append.mp h.2.2;exact⟨t,⟨h.1,h.2.1,g1⟩,g2⟩
  ·intro ⟨t,h,g⟩;exact⟨h.1,h.2.1,Stk.append.mpr ⟨t,h.2.2,g⟩⟩
theorem Stk.modify {g:T3->T3}(hg:∀e,(g e).1=e.1/\(g e).2.1=e.2.1):∀ {l:List T3}{i s hi:Nat},Stk s l hi->Stk s (l.modify i g) hi
 | [],i,s,hi,h=>by cases i<;>exact h
 | e::r,0,s,hi,h=>by
  show Stk s (g e::r) hi;have:=hg e;exact⟨by rw[this.1];exact h.1,by rw[this.2];exact h.2.1,by rw[this.2];exact h.2.2⟩
 | e::r,i+1,s,hi,h=>by
  show Stk s (e::r.modify i g) hi;exact⟨h.1,h.2.1,Stk.modify hg h.2.2⟩
theorem zoA {p:Array T3}{pre post:List T3}{e1 e2 e:T3}(h:p.toList=pre++e1::e2::post):((p.setIfInBounds pre.length e).eraseIdxIfInBounds (pre.length+1)).toList=pre++e::post:=by
 have hsz:p.size=pre.length+(post.length+2):=by rw[<- Array.length_toList,h];simp
 rw[Array.eraseIdxIfInBounds,dif_pos (by simp;lia)];simp[h,List.eraseIdx_append_of_length_le]
theorem zqV {c:Prop} [Decidable c] {n:Nat}(h:¬ n<=1):(if c then n-2-1 else n-2)+1<n:=by split<;>lia
section
variable {prog:Program}{w:World}{A:Around}{E:Value->Shared->Prop}{s:Shared}{k:SortKind}{P:Keyed->Prop}{n:Nat}{pd:Array T3}{st:SortSt}{β τ:Type}{a b:KA}{i j m lo:Nat}
noncomputable def Sk (k:SortKind)(P:Keyed->Prop)(n lo:Nat)(st:SortSt):Prop:=lo<=n/\∃pd:Array T3,Stk 0 pd.toList lo/\Wk k P n pd st
theorem zpl (C:CmpW prog w A E s k P){Q:Bool->SortSt->Prop}(h:Sk k P n lo st)(hi:i+1<(pendingOf st).size)(hQ:∀v st,Sk k P n lo st->Q v st):wpS (model prog w) A E s (mAt i) Q st:=by
 obtain⟨hlo,pd,hs,h⟩:=h;rw[h.pend]at hi;have hlen:pd.toList.length=pd.size:=Array.length_toList;obtain⟨pre,⟨sa,na,pw⟩,⟨sb,nb,pw2⟩,post,hl,rfl⟩:∃pre e1 e2 post,pd.toList=pre++e1::e2::post/\pre.length=i:=by
  refine⟨pd.toList.take i,pd.toList[i],pd.toList[i+1],pd.toList.drop (i+2),?_,by rw[Ya];lia⟩;rw[<- List.drop_eq_getElem_cons,<- List.drop_eq_getElem_cons,Yf]
 rw[hl]at hs;obtain⟨t,h1,h2,h3,h4,h5,h6⟩:=Stk.append.mp hs;simp only at h2 h3 h4 h5 h6;subst h2;subst h4;have hle:=h6.le;refine mAtW C (pw:=pw) (pw2:=pw2) h (by rw[<- YI,hl];simp) (by rw[<- YI,hl];simp) h3 h5 (XB hle hlo) λv st h=>hQ v st ⟨hlo,_,?_,h⟩;rw[zoA hl];exact Stk.append.mpr ⟨sa,h1,rfl,Nat.add_pos_left h3 _,by show Stk (sa+(na+nb)) post lo;rw[<- Nat.add_assoc];exact h6⟩
theorem so1W (h:Sk k P n lo st)(hm:0<m)(hn:lo+m<=n){Q:ForInStep (Option Unit×Nat)->SortSt->Prop}(hQ:∀st,Sk k P n (lo+m) st->Q (.yield (none,lo+m)) st):wpS (model prog w) A E s (so1 lo m) Q st:=by
 obtain⟨hlo,pd,hs,h⟩:=h;refine wpS_bind (wpS_modify (wpS_pure (hQ _ ⟨hn,pd.push (lo,m,0),?_,h.kind,h.all,h.size,h.fail,?_⟩)))
 ·rw[Array.toList_push];exact Stk.append.mpr ⟨lo,hs,rfl,hm,rfl⟩
 ·show(pendingOf st).push (lo,m,0)=_;rw[h.pend]
theorem so2W {v:Bool}(h:Sk k P n lo st):wpS (model prog w) A E s (so2 v) (Rp (Sk k P n lo) (λ_=>True) (λ_=>True)) st:=zaA (λ_=>wpS_pure ⟨h,trivial⟩) λ_=>wpS_pure ⟨h,trivial⟩
theorem so3W (C:CmpW prog w A E s k P)(h:Sk k P n lo st):wpS (model prog w) A E s (so3 m) (Rp (Sk k P n lo) (λ_=>True) (λ_=>True)) st:=by
 refine wpS_bind (wpS_get ?_);generalize hx:(if (pendingOf st).size > 1 then(pendingOf st)[(pendingOf st).size-2]? else none)=x
 cases x with
 | none=>exact wpS_pure ⟨h,trivial⟩
 | some t=>
  have h1:(pendingOf st).size > 1:=Decidable.byContradiction λz=>by rw[if_neg z]at hx;cases hx
  exact zaA (λ_=>wpS_pure ⟨h,trivial⟩) λ_=>wpS_bind (zpl C h (by lia) λv st h=>so2W h)
theorem so4W (C:CmpW prog w A E s k P)(h:Sk k P n lo st)(hm:0<m)(hn:lo+m<=n){Q:ForInStep (Option Unit×Nat)->SortSt->Prop}(hY:∀st,Sk k P n (lo+m) st->Q (.yield (none,lo+m)) st)(hD:∀c st,Sk k P n lo st->Q (.done c) st):wpS (model prog w) A E s (so4 n lo m) Q st:=by
 refine wpS_bind (wpS_get ?_);generalize (pendingOf st).back? = x;cases x with
 | none=>exact so1W h hm hn hY
 | some t=>
  refine wpR (λ_ _=>True) (λ_=>True) h trivial (λ_ _=>trivial) (λx c st h _ _ _=>so3W C h) λc st h _=>?_;obtain⟨_ | r,d⟩:=c
  ·obtain⟨hlo,pd,hs,h⟩:=h;refine wpS_bind (wpS_modify ?_);refine so1W ?_ hm hn hY;refine⟨hlo,_,?_,⟨h.kind,h.all,h.size,h.fail,rfl⟩⟩;show Stk 0 ((pendingOf st).modify _ _).toList lo;rw[Array.toList_modify,h.pend];refine Stk.modify ?_ hs;exact λe=>⟨rfl,rfl⟩
  ·exact wpS_pure (hD _ _ h)
theorem so5W (C:CmpW prog w A E s k P)(h:Sk k P n lo st){Q:ForInStep (Option Unit×Nat)->SortSt->Prop}(hY:∀c st,Sk k P n c.2 st->Q (.yield c) st)(hD:∀c st,Sk k P n lo st->Q (.done c) st):wpS (model prog w) A E s (so5 n lo) Q st:=
 zaA (λ_=>wpS_pure (hD _ _ h)) λe=>wpS_bind (by
  obtain⟨hlo,pd,hs,h⟩:=h;refine cntW C h (by lia) (by lia) λr st h r0 r1=>zaA (λe2=>?_) λ_=>so4W C ⟨hlo,pd,hs,h⟩ r0 (by lia) (λst h=>hY _ _ h) hD;refine wpS_bind (wpS_lift (wpAny_rule ⟨rfl,?_⟩));exact wpS_bind (binW C h (by lia) λv st h=>zaA (λ_=>wpS_pure (hD _ _ ⟨hlo,pd,hs,h⟩)) λ_=>so4W C ⟨hlo,pd,hs,h⟩ (by lia) (by lia) (λst h=>hY _ _ h) hD))
theorem so6W (C:CmpW prog w A E s k P)(h:Sk k P n lo st):wpS (model prog w) A E s so6 (Rp (Sk k P n lo) (λ_=>True) (λ_=>True)) st:=
 wpS_bind (wpS_get (zaA (λ_=>wpS_pure ⟨h,trivial⟩) λe=>wpS_bind (zpl C h (zqV e) λv st h=>so2W h)))
theorem srtW (C:CmpW prog w A E s k P){Q:Unit->SortSt->Prop}(h:Wk k P n #[] st)(hQ:∀st pd,Wk k P n pd st->Q () st):wpS (model prog w) A E s srt Q st:=by
 rw[ztM];refine wpS_bind (wpS_get ?_);rw[h.size];refine wpS_bind (wpS_mono (wpS_forRange (I:=λ_ c st=>Sk k P n c.2 st) (Q:=λ_ st=>∃lo,Sk k P n lo st) (λx c st _ _ h=>so5W C h (λ_ _ h=>h) λ_ _ h=>⟨_,h⟩) (λc st h=>⟨_,h⟩) (show Sk k P n 0 st from⟨XT _,#[],rfl,h⟩)) λc st h=>?_);obtain⟨lo,h⟩:=h;obtain⟨_ | r,d⟩:=c
 ·refine wpR (λ_ _=>True) (λ_=>True) h trivial (λ_ _=>trivial) (λx c st h _ _ _=>so6W C h) λc st h _=>?_;obtain⟨_,pd,_,h⟩:=h;obtain⟨_ | r,d⟩:=c
  ·exact wpS_pure (hQ _ _ h)
  ·exact wpS_pure (hQ _ _ h)
 ·obtain⟨_,pd,_,h⟩:=h;exact wpS_pure (hQ _ _ h)
end
section
variable {prog:Program}{w:World}{M:Model}{A:Around}{E:Value->Shared->Prop}{s:Shared}
theorem zsP {k:Bool}{x y:Value}{ns ms:List Int}{Q:Bool->Shared->Prop}(hx:TupAt s.heap x ns)(hy:TupAt s.heap y ms)(h:∀v,Q v s):wpAny (model prog w) A (keyLt' (tuples' k) x y) Q E s:=by
 obtain⟨a,o,vs,n,rfl,e,_,d,i⟩:=hx;obtain⟨b,o2,ws,n2,rfl,e2,_,d2,i2⟩:=hy;refine wpAny_bind (listItems_at e d (wpAny_bind (listItems_at e2 d2 ?_)));refine wpAny_bind (zid _ (I:=λl c=>c=(none,PUnit.unit)/\∃vs' ws' ns' ms' j,l=(vs'.zip ws').zipIdx j/\IntsAre vs' ns'/\IntsAre ws' ms') ?step ?fin _ _ ⟨rfl,vs,ws,ns,ms,0,rfl,i,i2⟩)
 case fin=>
  rintro c ⟨rfl,_⟩;exact wpAny_pure (h _)
 case step=>
  rintro⟨⟨p,q⟩,j0⟩ rest c ⟨rfl,vs',ws',ns',ms',j,hl,i3,i4⟩;cases i3 with
  | nil=>simp at hl
  | @cons n1 t1 vs1 ns1 i3=>
   cases i4 with
   | nil=>simp at hl
   | @cons m1 u1 ws1 ms1 i4=>
    rw[XZ,List.zipIdx_cons]at hl;obtain⟨hl1,hl2⟩:=List.cons.inj hl;cases hl1;dsimp only;refine wpAny_bind (wpAny_eqBool_int ?_);split
    ·exact wpAny_bind (zmQ (wpAny_pure ⟨rfl,wpAny_pure (h _)⟩))
    ·exact wpAny_pure ⟨rfl,rfl,vs1,ws1,ns1,ms1,_,hl2,i3,i4⟩
noncomputable def PT (h:Heap)(us:List (Addr×List Int))(x:Keyed):Prop:=∃u,u∈us/\x=(Value.ref u.1,Value.ref u.1)/\TupAt h (.ref u.1) u.2
theorem zqW (k:Bool)(us:List (Addr×List Int)):CmpW prog w A E s (tuples' k) (PT s.heap us) where
 run {x y Q st} hx hy hk h:=by
  obtain⟨u,_,rfl,hx⟩:=hx;obtain⟨v,_,rfl,hy⟩:=hy;rw[lt'_eq];refine wpS_bind (wpS_get ?_);rw[hk];refine wpS_bind (wpS_lift (wpAny_attempt (zsP hx hy λv=>⟨rfl,?_⟩)));exact wpS_pure (h v)
theorem zik {h:Heap}{us:List (Addr×List Int)}:∀ {l:List Keyed},(∀x∈l,PT h us x)->∃us':List (Addr×List Int),l=us'.map (λu=>(Value.ref u.1,Value.ref u.1))/\∀u∈us',u∈us
 | [],_=>⟨[],rfl,λu hu=>by cases hu⟩
 | x::l,hl=>by
  obtain⟨u,hu,e,_⟩:=hl x Xh;obtain⟨us',e2,h2⟩:=zik (l:=l) λy hy=>hl y (Xf _ hy);refine⟨u::us',by rw[e,e2];rfl,λv hv=>?_⟩;rcases Xu.mp hv with rfl | hv
  ·exact hu
  ·exact h2 v hv
theorem zkV {a:Addr}{us:List (Addr×List Int)}{n:Nat}{P:Fin->Shared->Prop}(ho:s.heap.get? a=some (seqObj "list" (refsOf us).toArray n)) (hT:∀u∈us,TupAt s.heap (.ref u.1) u.2/\u.2≠[]) (hsz:us.length<=sizeLine)
  (h:∀us':List (Addr×List Int),us'.length=us.length->(∀u∈us',u∈us)->P (.done (.ret .none)) { s with heap:=sortedHeap s.heap a (refsOf us) (refsOf us').toArray }) :
  wpAny (model prog w) A (Builtin.«list.sort» ⟨[.ref a],[]⟩) P E s:=by
 rw[list_sort_plain];have ha:a<s.heap.objs.size:=Xo ho;refine wpAny_bind (listItems_at ho rfl (wpAny_bind (listUpdate_at ho rfl ?_ (hsz:=by rw[Xm,Xb];exact hsz) (hsz2:=XT _))));obtain⟨e1,ho1⟩:∃e1,(s.heap.update a (Obj.mapSeq λ_=>#[])).get? a=some (seqObj "list" #[] e1):=⟨_,get?_update_seq ho (λ_=>#[])⟩;refine wpAny_bind (seqEpoch_at ho1 rfl (wpAny_bind (wpAny_newTuple (wpAny_bind (wpAny_newList (wpAny_holding ?_))))));obtain⟨h6,eh⟩:∃h6,h6=(((s.heap.update a (Obj.mapSeq λ_=>#[])).push (seqObj "tuple" (refsOf us).toArray 0)).push (seqObj "list" #[] 0)):=⟨_,rfl⟩;have kp:∀b,b<s.heap.objs.size->h6.get? b=(s.heap.update a (Obj.mapSeq λ_=>#[])).get? b:=λb hb=>by
  rw[eh,Heap.get?_push_ne _ _ _ (by rw[size_push',Heap.size_update];exact XJ (Nat.lt_succ_of_lt hb)),Heap.get?_push_ne _ _ _ (by rw[Heap.size_update];exact XJ hb)]
 have ho6:h6.get? a=some (seqObj "list" #[] e1):=by rw[kp a ha];exact ho1
 have hT6:∀u∈us,TupAt h6 (.ref u.1) u.2:=λu hu=>by
  obtain⟨b,o,vs,m,e,hb,c,d,i⟩:=(hT u hu).1;cases e;have hne:u.1≠a:=λz=>by rw[z,ho]at hb;cases hb;injection c with c;exact absurd c (by decide)
  refine⟨u.1,o,vs,m,rfl,?_,c,d,i⟩;rw[kp u.1 (Xo hb),Heap.get?_update_other _ _ (Ne.symm hne)];exact hb
 show wpAny (model prog w) A _ P E { s with heap:=(((s.heap.update a (Obj.mapSeq λ_=>#[])).push (seqObj "tuple" (refsOf us).toArray 0)).push (seqObj "list" #[] 0)) };have hfin:∀us':List (Addr×List Int),us'.length=us.length->(∀u∈us',u∈us)->P (.done (.ret .none)) { s with heap:=h6.update a (Obj.mapSeq λ_=>(refsOf us').toArray) }:=by
  rw[eh];exact h
 rw[<- eh];have hz:(refsOf us).toArray.zip (refsOf us).toArray=(us.map λu=>(Value.ref u.1,Value.ref u.1)).toArray:=by rw[List.zip_toArray,zjU]
 have hPT:AllP (PT h6 us) (us.map λu=>(Value.ref u.1,Value.ref u.1)).toArray:=zcb.mpr λx hx=>by
  obtain⟨u,hu,rfl⟩:=XA.mp hx;exact⟨u,hu,rfl,hT6 u hu⟩
 have fin:∀st:SortSt,failedOf st=none->AllP (PT h6 us) (arrOf st)->(arrOf st).size=us.length->∃us':List (Addr×List Int),Array.map (λx=>x.2) (arrOf st)=(refsOf us').toArray/\us'.length=us.length/\∀u∈us',u∈us:=λst hf hp hn=>by
  obtain⟨us',e,h2⟩:=zik (zcb.mp hp);refine⟨us',?_,by rw[<- hn,<- Array.length_toList,e,Xb],h2⟩;rw[<- Array.toArray_toList (xs:=arrOf st),e,List.map_toArray,YM];rfl
 dsimp only;rw[hz];by_cases h2:(refsOf us).toArray.size<2
 ·rw[if_pos h2,if_pos h2];refine wpAny_bind (wpAny_pure ?_);rw[StateT.run_pure];obtain⟨us',e2,p1,p2⟩:=fin (SortSt.mk' general' (us.map λu=>(Value.ref u.1,Value.ref u.1)).toArray #[] 7 none) rfl hPT (by rw[Xm,Xb]);refine wpAny_bind (wpAny_pure (wpAny_bind (seqEpoch_at ho6 rfl (wpAny_bind (listUpdate_at ho6 rfl ?_ (hsz:=XT _) (hsz2:=?_))))))
  ·simp only[bne_self_eq_false,Bool.false_eq_true,if_false];refine wpAny_pure ?_;have q:=hfin us' p1 p2;rw[<- e2]at q;exact q
  ·show(Array.map (λx=>x.2) (arrOf (SortSt.mk' general' (us.map λu=>(Value.ref u.1,Value.ref u.1)).toArray #[] 7 none))).size<=_;rw[e2,Xm,Xb,p1];lia
 ·rw[if_neg h2,if_neg h2];have hpos:us≠[]:=λz=>by subst z;exact h2 (by decide)
  refine wpAny_bind (zot (s:={ s with heap:=h6 }) (λv hv=>?_) (λz=>hpos (List.map_eq_nil_iff.mp z)) ?_)
  ·obtain⟨u,hu,rfl⟩:=XA.mp hv;exact⟨u.2,hT6 u hu,(hT u hu).2⟩
  have hW:=srtW (prog:=prog) (w:=w) (A:=A) (E:=E) (s:={ s with heap:=h6 }) (zqW (s:={ s with heap:=h6 }) true us) (n:=us.length) (st:=SortSt.mk' (tuples' true) (us.map λu=>(Value.ref u.1,Value.ref u.1)).toArray #[] 7 none)
   (Q:=λ_ st'=>failedOf st'=none/\AllP (PT h6 us) (arrOf st')/\(arrOf st').size=us.length) ⟨rfl,hPT,by show Array.size _=_;rw[Xm,Xb],rfl,rfl⟩ (λst' pd h=>⟨h.fail,h.all,h.size⟩)
  refine wpAny_bind (wpAny_mono hW ?_ λ_ _ e=>e);rintro⟨⟨⟩,st'⟩ s' ⟨rfl,hf,hp,hn⟩;dsimp only;obtain⟨us',e2,p1,p2⟩:=fin st' hf hp hn;refine wpAny_bind (seqEpoch_at ho6 rfl (wpAny_bind (listUpdate_at ho6 rfl ?_ (hsz:=XT _) (hsz2:=?_))))
  ·rw[hf];simp only[bne_self_eq_false,Bool.false_eq_true,if_false];refine wpAny_pure ?_;have q:=hfin us' p1 p2;rw[<- e2]at q;exact q
  ·show(Array.map (λx=>x.2) (arrOf st')).size<=_;rw[e2,Xm,Xb,p1];lia
theorem zqX {l:Addr}{us:List (Addr×List Int)}{Q:Value->Shared->Prop}(hl:s.heap.IsList l (refsOf us).toArray)(hT:∀u∈us,TupAt s.heap (.ref u.1) u.2/\u.2≠[])(hsz:us.length<=sizeLine)
  (h:∀us':List (Addr×List Int),us'.length=us.length->(∀u∈us',u∈us)->Q (.ref (s.heap.objs.size+1)) { s with heap:=sortedAll s.heap (refsOf us) (refsOf us').toArray }) :
  wpAny (model prog w) A (call (.builtin "sorted") [.ref l]) Q E s:=by
 refine Calls.call_function_entry kind_sorted plain_sorted entry_sorted (args_sorted1 _) ?_;unfold Builtin.«sorted»;refine wpAny_bind (m:=checkCount "sorted" 1 1 _) (wpAny_pure (wpAny_bind (collect_list hl (wpAny_bind (wpAny_newList ?_)) (hsz:=by rw[Xb];exact hsz))));obtain⟨h5,eh⟩:∃h5,h5=(s.heap.push (seqObj "list" #[] 0)).update s.heap.objs.size (Obj.mapSeq (·++(refsOf us).toArray)):=⟨_,rfl⟩;have hz:h5.objs.size=s.heap.objs.size+1:=by rw[eh,Heap.size_update,size_push']
 have hoL:(h5.push (seqObj "list" (refsOf us).toArray 0)).get? (s.heap.objs.size+1)=some (seqObj "list" (refsOf us).toArray 0):=by rw[<- hz];exact XC _ rfl
 have kp:∀b o,s.heap.get? b=some o->(h5.push (seqObj "list" (refsOf us).toArray 0)).get? b=some o:=λb o e=>by
  have hb:=Xo e;rw[Heap.get?_push_ne _ _ _ (by rw[hz];exact XJ (Nat.lt_succ_of_lt hb)),eh,Heap.get?_update_other _ _ (Yd hb),Heap.get?_push_ne _ _ _ (XJ hb)];exact e
 have hfin:∀us':List (Addr×List Int),us'.length=us.length->(∀u∈us',u∈us)->Q (.ref (s.heap.objs.size+1)) { s with heap:=sortedHeap (h5.push (seqObj "list" (refsOf us).toArray 0)) (s.heap.objs.size+1) (refsOf us) (refsOf us').toArray }:=by
  rw[eh];exact h
 show wpAny _ _ _ _ _ { s with heap:=((s.heap.push (seqObj "list" #[] 0)).update s.heap.objs.size (Obj.mapSeq (·++(refsOf us).toArray))).push (seqObj "list" (refsOf us).toArray 0) };rw[<- eh,hz];refine wpAny_bind (wpAny_holding (wpAny_call_entry slot_list_sort ⟨_,hoL,rfl⟩ entry_list_sort (zkV (s:={ s with heap:=h5.push (seqObj "list" (refsOf us).toArray 0) }) hoL (λu hu=>?_) hsz λus' a1 a2=>⟨_,rfl,?_⟩) (args_list_sort _)))
 ·obtain⟨⟨b,o,vs,m,e,hb,c,d,i⟩,z⟩:=hT u hu;exact⟨⟨b,o,vs,m,e,kp b o hb,c,d,i⟩,z⟩
 ·exact wpAny_pure ⟨_,rfl,hfin us' a1 a2⟩
end
end Sw
namespace L2
open PySem PySem.Spec PyProof.Rows
section
variable {X:Cx}
theorem zkW:zdo X (.builtin "sorted") (λxs H Q=>∃(p:Addr) (us:List (Addr×List Int)),xs=[.ref p]/\SqL X.K H p (us.map λu=>V.ref u.1)/\(∀u∈us,SqT X.K H u.1 (u.2.map V.int)/\u.2≠[])/\
  ∀(l:Addr) (us':List (Addr×List Int)),H l=none->us'.length=us.length->(∀u∈us',u∈us)->Q (.ref l) (upd H l (.lst (us'.map λu=>V.ref u.1)))):=by
 intro pins s σ H xs us Q I r h;obtain⟨p,us,rfl,hp,hT,q⟩:=h;obtain⟨u,rfl,rx⟩:=vals1 r;cases rx;obtain⟨its,r,ht,hz⟩:=I.list hp;have ei:=zie r;subst ei;rw[Xb]at hz;refine Sw.zqX ht.isList (λu hu=>?_) (by lia) λus' a1 a2=>?_
 ·obtain⟨h1,h2⟩:=hT u hu;obtain⟨its2,rv,⟨o,ho,hc,n,hd⟩,_⟩:=I.tuple h1;exact⟨⟨u.1,o,its2,n,rfl,ho,hc,hd,ints_of rv⟩,h2⟩
 ·obtain⟨e,he⟩:=sortedAll_at s.heap (Srt.refsOf us) (Srt.refsOf us').toArray;have kp:∀b o,s.heap.get? b=some o->(sortedAll s.heap (Srt.refsOf us) (Srt.refsOf us').toArray).get? b=some o:=λ_ _=>sortedAll_old;refine⟨.ref (s.heap.objs.size+1),_,I.laid (t':=s.toks) (o:=.lst (us'.map λu=>V.ref u.1)) kp (YN _) ?_,rfl,q _ us' (I.hok.fresh (YN _)) a1 a2⟩;exact⟨by rw[Xb,a1];exact hz,Srt.refsOf us',e,zif us',he⟩
end
end L2
namespace PL
open PySem PySem.Spec PyProof.Rows L2
noncomputable def zbX:PF:=λds Q=>∃ss:List (List Int),ds=[.lst (ss.map λr=>PV.tup (r.map PV.int))]/\(∀r∈ss,r≠[])/\∀zs:List (List Int),zs.length=ss.length->(∀r∈zs,r∈ss)->Q (.lst (zs.map λr=>PV.tup (r.map PV.int))) .new
theorem zoB {X:Cx}:zeh X.K (λxs H Q=>∃(p:Addr)(us:List (Addr×List Int)),xs=[.ref p]/\SqL X.K H p (us.map λu=>V.ref u.1)/\(∀u∈us,SqT X.K H u.1 (u.2.map V.int)/\u.2≠[])/\
  ∀(l:Addr) (us':List (Addr×List Int)),H l=none->us'.length=us.length->(∀u∈us',u∈us)->Q (.ref l) (upd H l (.lst (us'.map λu=>V.ref u.1)))) zbX where
 mono ds Q Q' m h:=by obtain⟨ss,e1,e2,q⟩:=h;exact⟨ss,e1,e2,λzs h1 h2=>m _ _ (q zs h1 h2)⟩
 run Fz H ds vs Q al r h:=by
  obtain⟨ss,rfl,e2,q⟩:=h;obtain⟨v,rfl,rv⟩:=zdB r;obtain⟨a,xs,rfl,h1,h2⟩:=zam rv;obtain⟨us,rfl,g2,g3⟩:=zig h2;refine⟨a,us,rfl,h1,λu hu=>⟨SqT.of (g3 u hu),e2 _ (by rw[<- g2];exact XA.mpr ⟨u,hu,rfl⟩)⟩,λl us' hl hz hs=>?_⟩;have hd:DenL X.K Fz H ((us'.map (·.2)).map λr=>PV.tup (r.map PV.int)) (us'.map λu=>V.ref u.1):=zih us' λu hu=>g3 u (hs u hu);refine q (us'.map (·.2)) (by rw[<- g2,Xb,Xb,hz]) (λr hr=>?_) _ Fz _ (.newL al hl hd);obtain⟨u,hu,rfl⟩:=XA.mp hr;rw[<- g2];exact XA.mpr ⟨u,hs u hu,rfl⟩
section
variable {X:Cx}{e:Expr}{es:List Expr}{t:TPA}{p pos:Pos}
theorem zka (hg:Gl X "sorted") (hm:X.mg "sorted" = none) (ha:PuA X (e::es) t) (he:autoParam (starEach (e::es) X.env=(false,eval e X.env)::starEach es X.env) aU0) (hpl:autoParam ((backTo pos (starEach es X.env)).any (·.1)=false) aU0):PuE X (.Call (.Name "sorted" p) (e::es) [] pos) (tB zbX t):=
 zcD zkW zoB hg hm zmg ha (by decide) (by decide) he hpl
end
open PySem PySem.Spec L2
open PyProof.Rows hiding St
noncomputable abbrev PFB:=List PV->(List PV->Prop)->Prop
noncomputable abbrev TXS:=(Addr->Prop)->TPS
noncomputable abbrev TXE:=(Addr->Prop)->TPE
noncomputable abbrev PFX:=List PV->(PV->Kd->Prop)->(Addr->Prop)->Prop
noncomputable abbrev TXI:=(Addr->Prop)->TPI
end PL
namespace M31
noncomputable def sumN {α:Type}(l:List α)(f:α->Nat):Nat:=(l.map f).sum
noncomputable def zbm {α:Type}(l:List α)(f:α->Nat):Nat:=l.foldr (λa p=>f a*p) 1
theorem zfw {α:Type}(f:α->Nat):sumN [] f=0:=rfl
theorem zar {α:Type}(a:α)(l:List α)(f:α->Nat):sumN (a::l) f=f a+sumN l f:=by
 unfold sumN;rw[Xp,List.sum_cons]
theorem ziZ {α:Type}(l k:List α)(f:α->Nat):sumN (l++k) f=sumN l f+sumN k f:=by
 unfold sumN;rw[Xt,List.sum_append]
theorem zfx {α β:Type}(g:α->β)(l:List α)(f:β->Nat):sumN (l.map g) f=sumN l λa=>f (g a):=by
 unfold sumN;rw[YM];rfl
theorem zeF {α β:Type}(g:α->List β)(f:β->Nat):∀l:List α,sumN (l.flatMap g) f=sumN l λa=>sumN (g a) f
 | []=>rfl
 | a::l=>by rw[Yk,ziZ,zar,zeF g f l]
theorem zap {α:Type}{f g:α->Nat}:∀ {l:List α},(∀a∈l,f a=g a)->sumN l f=sumN l g
 | [],_=>rfl
 | a::l,h=>by rw[zar,zar,h a (Xh ..),zap λb hb=>h b (Xf _ hb)]
theorem zkb {α:Type}(c:Nat)(f:α->Nat):∀l:List α,sumN l (λa=>c*f a)=c*sumN l f
 | []=>by rw[zfw,zfw,Nat.mul_zero]
 | a::l=>by rw[zar,zar,zkb c f l,Nat.mul_add]
theorem zfy {α:Type}:∀l:List α,sumN l (λ_=>1)=l.length
 | []=>rfl
 | a::l=>by rw[zar,zfy l,XG,Nat.add_comm]
theorem zas {α:Type}(a:α)(l:List α)(f:α->Nat):zbm (a::l) f=f a*zbm l f:=rfl
theorem zaQ {α:Type}{f g:α->Nat}:∀ {l:List α},(∀a∈l,f a=g a)->zbm l f=zbm l g
 | [],_=>rfl
 | a::l,h=>by rw[zas,zas,h a (Xh ..),zaQ λb hb=>h b (Xf _ hb)]
theorem zga {α:Type}(f g:α->Nat):∀l:List α,zbm l (λa=>f a*g a)=zbm l f*zbm l g
 | []=>rfl
 | a::l=>by
  rw[zas,zas,zas,zga f g l];simp only[Nat.mul_assoc,Nat.mul_left_comm,Nat.mul_comm]
theorem zdK {α:Type}{f:α->Nat}:∀ {l:List α},(∀a∈l,f a=1)->zbm l f=1
 | [],_=>rfl
 | a::l,h=>by rw[zas,h a (Xh ..),zdK λb hb=>h b (Xf _ hb)]
theorem zfj (k v:Nat):∀ {l:List Nat},l.Nodup->k∈l->zbm l (λa=>if a=k then v else 1)=v
 | [],_,h=>nomatch h
 | a::l,hn,h=>by
  rw[XX]at hn;rw[zas];by_cases e:a=k
  ·subst e;rw[if_pos rfl,zdK λb hb=>if_neg (λ(z:b=a)=>hn.1 (z▸hb)),Nat.mul_one]
  ·rw[if_neg e,Nat.one_mul];exact zfj k v hn.2 ((Xu.mp h).resolve_left λz=>e z.symm)
section
variable {ρ:Type}(n:Nat)(par:Nat->Nat)(rw':Nat->List ρ)(ag:Nat->ρ->Nat->ρ->Bool)
noncomputable def wy:Nat->Nat->ρ->Nat
 | 0,_,_=>1
 | t+1,i,r=>zbm (XR n) λc=>if i<c/\par c=i then sumN ((rw' c).filter λr'=>ag i r c r') (wy t c) else 1
noncomputable def sw (c:Nat)(r:ρ):Nat:=sumN ((rw' c).filter λr'=>ag (par c) r c r') (wy n par rw' ag (n-c) c)
theorem zeG:∀(t i:Nat)(r:ρ),n<=i+t->∀t',n<=i+t'->wy n par rw' ag t i r=wy n par rw' ag t' i r
 | 0,i,r,h,t',h'=>by
  cases t' with
  | zero=>rfl
  | succ t'=>
   refine(zdK λc hc=>if_neg λz=>?_).symm;have:=Yj.mp hc;lia
 | t+1,i,r,h,t',h'=>by
  cases t' with
  | zero=>
   refine zdK λc hc=>if_neg λz=>?_;have:=Yj.mp hc;lia
  | succ t'=>
   refine zaQ λc hc=>?_;by_cases z:i<c/\par c=i
   ·rw[if_pos z,if_pos z];exact zap λr' _=>zeG t c r' (by lia) t' (by lia)
   ·rw[if_neg z,if_neg z]
theorem zsQ (i:Nat)(r:ρ)(t:Nat)(h:n<=i+t):wy n par rw' ag t i r=zbm (XR n) λc=>if i<c/\par c=i then sw n par rw' ag c r else 1:=by
 rw[zeG n par rw' ag t i r h (n-i+1) (by lia)];refine zaQ λc hc=>?_;by_cases z:i<c/\par c=i
 ·rw[if_pos z,if_pos z];unfold sw;rw[z.2];exact zap λr' _=>zeG n par rw' ag _ c r' (by lia) _ (by lia)
 ·rw[if_neg z,if_neg z]
noncomputable def fits (c:List ρ)(k:Nat)(r:ρ):Bool:=(XR k).all λj=>match c[j]? with | some r'=>ag j r' k r | none=>true
noncomputable def zbY:Nat->List (List ρ)
 | 0=>[[]]
 | k+1=>(zbY k).flatMap λc=>((rw' k).filter (fits ag c k)).map λr=>c++[r]
theorem zdV:∀(k:Nat),∀c∈zbY rw' ag k,c.length=k
 | 0,c,h=>by rw[Xq.mp h];rfl
 | k+1,c,h=>by
  obtain⟨c',h1,h2⟩:=YD.mp h;obtain⟨r,h3,rfl⟩:=XA.mp h2;rw[Xj,zdV k c' h1];rfl
noncomputable def rest (k:Nat)(c:List ρ):Nat:=zbm (XR n) λd=>if k<=d/\par d<k then(match c[par d]? with | some r=>sw n par rw' ag d r | none=>1) else 1
structure zqY:Prop where
 lt:∀k,0<k->k<n->par k<k
 ag:∀k,0<k->k<n->∀c∈zbY rw' ag k,∀p,c[par k]? = some p->∀r∈rw' k,fits ag c k r=ag (par k) p k r
theorem step (H:zqY n par rw' ag)(k:Nat)(h0:0<k)(hn:k<n):sumN (zbY rw' ag (k+1)) (rest n par rw' ag (k+1))=sumN (zbY rw' ag k) (rest n par rw' ag k):=by
 show sumN ((zbY rw' ag k).flatMap _) _=_;rw[zeF];refine zap λc hc=>?_;rw[zfx];have hl:=zdV rw' ag k c hc;have hp:=H.lt k h0 hn;have hpc:par k<c.length:=by lia
 have hpe:c[par k]? = some c[par k]:=Xd hpc;have hstay:∀r:ρ,rest n par rw' ag (k+1) (c++[r])=(zbm (XR n) λd=>if k<d/\par d<k then(match c[par d]? with | some r=>sw n par rw' ag d r | none=>1) else 1)*wy n par rw' ag (n-k) k r:=λr=>by
  rw[zsQ n par rw' ag k r (n-k) (by lia),<- zga];refine zaQ λd hd=>?_;by_cases h1:k<d
  ·by_cases h2:par d<k
   ·rw[if_pos (show k+1<=d/\par d<k+1 by lia),if_pos ⟨h1,h2⟩,if_neg (show ¬ (k<d/\par d=k) by lia),Nat.mul_one,XD (by lia)]
   ·by_cases h3:par d=k
    ·rw[if_pos (show k+1<=d/\par d<k+1 by lia),if_neg (show ¬ (k<d/\par d<k) by lia),if_pos ⟨h1,h3⟩,Nat.one_mul,XU (by lia),show par d-c.length=0 by lia];rfl
    ·rw[if_neg (show ¬ (k+1<=d/\par d<k+1) by lia),if_neg (show ¬ (k<d/\par d<k) by lia),if_neg (show ¬ (k<d/\par d=k) by lia)]
  ·rw[if_neg (show ¬ (k+1<=d/\par d<k+1) by lia),if_neg (show ¬ (k<d/\par d<k) by lia),if_neg (show ¬ (k<d/\par d=k) by lia)]
 have hold:rest n par rw' ag k c=(zbm (XR n) λd=>if k<d/\par d<k then(match c[par d]? with | some r=>sw n par rw' ag d r | none=>1) else 1)*sw n par rw' ag k c[par k]:=by
  rw[<- zfj k (sw n par rw' ag k c[par k]) List.nodup_range (Yj.mpr hn),<- zga];refine zaQ λd hd=>?_;by_cases h1:d=k
  ·subst h1;rw[if_pos (show d<=d/\par d<d by lia),if_neg (show ¬ (d<d/\par d<d) by lia),if_pos rfl,Nat.one_mul,hpe]
  ·rw[if_neg h1,Nat.mul_one];by_cases h2:k<d/\par d<k
   ·rw[if_pos h2,if_pos (show k<=d/\par d<k by lia)]
   ·rw[if_neg h2,if_neg (show ¬ (k<=d/\par d<k) by lia)]
 rw[hold,zap λr _=>hstay r,zkb]
 congr 1
 show sumN ((rw' k).filter _) _=sumN ((rw' k).filter _) _;rw[List.filter_congr λr hr=>H.ag k h0 hn c hc _ hpe r hr]
theorem zkX (H:zqY n par rw' ag)(h:0<n):(zbY rw' ag n).length=sumN (rw' 0) (wy n par rw' ag n 0):=by
 have all:∀k,0<k->k<=n->sumN (zbY rw' ag k) (rest n par rw' ag k)=sumN (rw' 0) (wy n par rw' ag n 0):=by
  intro k;induction k with
  | zero=>intro h0;lia
  | succ k ih=>
   intro _ hk;by_cases h0:k=0
   ·subst h0;show sumN ([[]].flatMap _) _=_;rw[zeF,zar,zfw,Nat.add_zero,zfx];have hf:(rw' 0).filter (fits ag [] 0)=rw' 0:=List.filter_eq_self.mpr λr _=>rfl;rw[hf];refine zap λr _=>?_;rw[zsQ n par rw' ag 0 r n (by lia)];refine zaQ λd hd=>?_;have hdn:=Yj.mp hd;by_cases h1:0<d/\par d=0
    ·rw[if_pos h1,if_pos (show 0+1<=d/\par d<0+1 by lia),h1.2];rfl
    ·rw[if_neg h1,if_neg (show ¬ (0+1<=d/\par d<0+1) by lia)]
   ·rw[step n par rw' ag H k (by lia) (by lia)];exact ih (by lia) (by lia)
 have e:=all n h (Xi _);rw[<- e,<- zfy];refine zap λc _=>(zdK λd hd=>if_neg λz=>?_).symm;have:=Yj.mp hd;lia
end
theorem zkc {α:Type}(f g:α->Nat):∀l:List α,sumN l (λa=>f a+g a)=sumN l f+sumN l g
 | []=>rfl
 | a::l=>by rw[zar,zar,zar,zkc f g l];lia
theorem zgb {α:Type}:∀l:List α,sumN l (λ_=>0)=0
 | []=>rfl
 | a::l=>by rw[zar,zgb l]
theorem zil {α β:Type}(f:α->β->Nat)(k:List β):∀l:List α,sumN l (λa=>sumN k (f a))=sumN k λb=>sumN l λa=>f a b
 | []=>by rw[zfw];exact(zgb k).symm
 | a::l=>by
  rw[zar,zil f k l,<- zkc];exact zap λb _=>(zar a l λa=>f a b).symm
theorem zem {α:Type}(p:α->Bool)(f:α->Nat):∀l:List α,sumN (l.filter p) f=sumN l λa=>if p a=true then f a else 0
 | []=>rfl
 | a::l=>by
  rw[zar];by_cases h:p a=true
  ·rw[Yo h,zar,zem p f l,if_pos h]
  ·rw[Yp h,zem p f l,if_neg h,Nat.zero_add]
theorem zdL {α:Type}(p:α->Bool)(f:α->Nat):∀l:List α,zbm (l.filter p) f=zbm l λa=>if p a=true then f a else 1
 | []=>rfl
 | a::l=>by
  rw[zas];by_cases h:p a=true
  ·rw[Yo h,zas,zdL p f l,if_pos h]
  ·rw[Yp h,zdL p f l,if_neg h,Nat.one_mul]
theorem zim {α:Type}(f:α->Nat)(k:List α):∀l:List α,zbm (l++k) f=zbm l f*zbm k f
 | []=>(Nat.one_mul _).symm
 | a::l=>by rw[YB,zas,zas,zim f k l,Nat.mul_assoc]
theorem zin {α:Type}(f:α->Nat):∀l:List α,zbm l.reverse f=zbm l f
 | []=>rfl
 | a::l=>by
  rw[YE,zim,zin f l,zas,zas];show _*(f a*1)=_;rw[Nat.mul_one,Nat.mul_comm]
theorem zio {α β:Type}(g:α->β)(f:β->Nat):∀l:List α,zbm (l.map g) f=zbm l λa=>f (g a)
 | []=>rfl
 | a::l=>by rw[Xp,zas,zas,zio g f l]
section
variable {ρ:Type}
noncomputable def zfb:List (List ρ)->(List ρ->Nat)->Nat
 | [],f=>f []
 | R::Rs,f=>sumN R λr=>zfb Rs λc=>f (r::c)
theorem zdW:∀ {Rs:List (List ρ)}{f g:List ρ->Nat},(∀c,c.length=Rs.length->f c=g c)->zfb Rs f=zfb Rs g
 | [],f,g,h=>h [] rfl
 | R::Rs,f,g,h=>zap λr _=>zdW λc hc=>h (r::c) (by rw[XG,XG,hc])
theorem zgc (R:List ρ):∀(Rs:List (List ρ))(f:List ρ->Nat),zfb (Rs++[R]) f=zfb Rs λc=>sumN R λr=>f (c++[r])
 | [],f=>rfl
 | R0::Rs,f=>zap λr0 _=>zgc R Rs λc=>f (r0::c)
theorem zkd {β:Type}(k:List β):∀(Rs:List (List ρ))(g:List ρ->β->Nat),zfb Rs (λc=>sumN k (g c))=sumN k λb=>zfb Rs λc=>g c b
 | [],g=>rfl
 | R::Rs,g=>by
  show sumN R (λr=>zfb Rs λc=>sumN k (g (r::c)))=sumN k λb=>sumN R λr=>zfb Rs λc=>g (r::c) b;rw[zap λr _=>zkd k Rs λc=>g (r::c),zil]
theorem zke:∀(Rs:List (List ρ))(f:List ρ->Nat),zfb Rs.reverse f=zfb Rs λc=>f c.reverse
 | [],f=>rfl
 | R::Rs,f=>by
  rw[YE,zgc,zke Rs,zkd];show _=sumN R λr=>zfb Rs λc=>f (r::c).reverse;exact zap λr _=>zdW λc _=>by rw[YE]
variable (ag:Nat->ρ->Nat->ρ->Bool)
noncomputable def Okc (c:List ρ):Prop:=∀(i j:Nat)(a b:ρ),i<j->c[i]? = some a->c[j]? = some b->ag i a j b=true
theorem zfz {c:List ρ}{k:Nat}{r:ρ}(hl:c.length=k):fits ag c k r=true↔∀(j:Nat)(a:ρ),c[j]? = some a->ag j a k r=true:=by
 unfold fits;rw[XE];constructor
 ·intro h j a hj;have hjk:j<k:=by rw[<- hl];exact(Xc.mp hj).1
  have:=h j (Yj.mpr hjk);rw[hj]at this;exact this
 ·intro h j hj;cases hc:c[j]? with
  | none=>rfl
  | some a=>exact h j a hc
theorem zfA {c:List ρ}{k:Nat}{r:ρ}(hl:c.length=k):Okc ag (c++[r])↔Okc ag c/\fits ag c k r=true:=by
 rw[zfz ag hl];constructor
 ·intro h;refine⟨λi j a b hij ha hb=>?_,λj a hj=>?_⟩
  ·have h1:=(Xc.mp ha).1;have h2:=(Xc.mp hb).1;exact h i j a b hij (by rw[XD h1];exact ha) (by rw[XD h2];exact hb)
  ·have h1:=(Xc.mp hj).1;exact h j k a r (by lia) (by rw[XD h1];exact hj) (by rw[<- hl,XU (Xi _),Nat.sub_self];rfl)
 ·rintro⟨h1,h2⟩ i j a b hij ha hb;have hj:=(Xc.mp hb).1;rw[Xj,XV]at hj;rw[XD (by lia)]at ha;by_cases hjk:j<c.length
  ·rw[XD hjk]at hb;exact h1 i j a b hij ha hb
  ·have e:j=c.length:=by lia
   subst e;rw[XU (Xi _),Nat.sub_self]at hb;have:r=b:=by simpa using hb
   subst this;rw[hl];exact h2 i a ha
open Classical in
theorem zen (rw':Nat->List ρ):∀(k:Nat)(f:List ρ->Nat),sumN (zbY rw' ag k) f=zfb ((XR k).map rw') λc=>if Okc ag c then f c else 0
 | 0,f=>by
  have h0:Okc ag ([]:List ρ):=λi j a b _ ha _=>by cases ha
  show f []+0=if Okc ag [] then f [] else 0
  rw[if_pos h0];rfl
 | k+1,f=>by
  show sumN ((zbY rw' ag k).flatMap _) f=_;rw[zeF,List.range_succ,Xt,List.map_singleton,zgc,zen rw' k];refine zdW λc hc=>?_;rw[Xb,Yl]at hc;rw[zfx,zem];by_cases h:Okc ag c
  ·rw[if_pos h];refine zap λr _=>?_;by_cases hf:fits ag c k r=true
   ·rw[if_pos hf,if_pos ((zfA ag hc).mpr ⟨h,hf⟩)]
   ·rw[if_neg hf,if_neg λz=>hf ((zfA ag hc).mp z).2]
  ·rw[if_neg h];refine(zgb (rw' k)).symm.trans (zap λr _=>?_);rw[if_neg λz=>h ((zfA ag hc).mp z).1]
theorem ziq (rw':Nat->List ρ):∀(k:Nat),∀c∈zbY rw' ag k,Okc ag c
 | 0,c,h=>by
  rw[Xq.mp h];intro i j a b _ ha _;cases ha
 | k+1,c,h=>by
  obtain⟨c',h1,h2⟩:=YD.mp h;obtain⟨r,h3,rfl⟩:=XA.mp h2;exact(zfA ag (zdV rw' ag k c' h1)).mpr ⟨ziq rw' k c' h1,(Yz.mp h3).2⟩
end
end M31
namespace Q31
open PySem PySem.Spec L2 PL
open PyProof.Rows hiding St
noncomputable def top (i:Nat):Stmt:=PySem.Challenge.pw_joinwood_k31_counted.main.body.getD i (.Pass ⟨0,0,0,0⟩)
noncomputable abbrev zaF:Stmt:=top 2
noncomputable abbrev zgd:Stmt:=top 3
noncomputable abbrev zcz:Stmt:=top 4
noncomputable abbrev zba:Stmt:=top 5
noncomputable abbrev zeH:Stmt:=top 7
noncomputable abbrev zeI:Stmt:=top 9
noncomputable abbrev zcF:Stmt:=top 10
noncomputable abbrev zcM:Stmt:=top 11
noncomputable abbrev zbO:Stmt:=top 12
noncomputable abbrev zhh:Stmt:=top 13
noncomputable abbrev zcZ:Stmt:=top 14
noncomputable abbrev zhi:Stmt:=top 15
noncomputable abbrev zec:Stmt:=top 16
noncomputable abbrev zbe:Stmt:=top 17
noncomputable abbrev zcu:Stmt:=top 18
noncomputable abbrev zda:Stmt:=top 19
noncomputable abbrev zbP:Stmt:=top 20
noncomputable abbrev zcv:Stmt:=top 21
noncomputable abbrev zed:Stmt:=top 22
noncomputable abbrev zbQ:Stmt:=top 23
noncomputable abbrev zeJ:Stmt:=top 24
noncomputable abbrev sLaw:Stmt:=top 25
noncomputable def parP:Option Nat->PV
 | none=>.non
 | some p=>.int p
noncomputable def zco (ps:List (Option Nat)):PV:=.lst (ps.map parP)
noncomputable def kids (ps:List (Option Nat))(i:Nat):List Nat:=(XR ps.length).filter λc=>ps[c]? == some (some i)
noncomputable def zcB (l:List Nat):PV:=.lst (l.map λ(k:Nat)=>PV.int k)
noncomputable def zak:PF:=λds Q=>∃(ps:List (Option Nat))(i:Nat),ds=[zco ps,.int i]/\ps.length<=1000/\Q (zcB (kids ps i)) .new
theorem zdM:zbs zak:=λds Q Q' m q151q=>by obtain⟨a,b,e,h,q⟩:=q151q;exact⟨a,b,e,h,m _ _ q⟩
theorem take_snoc {α:Type}{l:List α}{i:Nat}{o:α}(h:l[i]? = some o):l.take i++[o]=l.take (i+1):=by rw[List.take_add_one,h];rfl
open Lean in
def puM:MacroM (TSyntax `tactic):=do
 let es<-("zdb ltsP shpP zbB zaJ zaV zbd zbk zay zaz zdm zbx zdO zcG zcH zat zcA zbb zdP zbn dP zcr zbR talP zcI zgh zaP zfn zeQ".splitOn " ").filterM λn=>return !(<-Macro.resolveGlobalName n.toName).isEmpty;let ls<-("pSeq zdk zci zdC zcj zcm rdE BX.pv pIdx fSum zdG zdH zcl zck zdF zbD pSet pRet pIf zcy zbq zdA mApp pUnp zbA zdg zbI zdh t2 i0 i2 pVar pC zan pNil pTup pLst noOwn isOwn tBl blP zcN tOrP zdr tTru zdy TruP zds zdu pEq pIn pIsN pIx ixV pCat PL.tB fLen LenP zdi zbN zbU fIsi NoT PL.isObj pFld zcg zdE zdD mPop zbf zdI zbc pSlL pRev zcU zcV zcK zbh iLst zdx pDG pDI zcW zcX fAll zbW pSlS zch pFor zcf PL.plain zaX zbT blkP List.map_cons List.map_nil List.length_cons List.length_nil List.cons_append List.nil_append List.replicate List.getElem?_cons_zero List.getElem?_cons_succ List.getElem?_nil Option.getD_some Option.getD_none List.set_cons_zero List.set_cons_succ List.cons.injEq Option.some.injEq Prod.mk.injEq PV.int.injEq PV.bl.injEq PV.str.injEq PV.lst.injEq PV.tup.injEq PV.ty.injEq PV.dK.injEq exists_eq_left' exists_eq_left exists_eq' exists_eq exists_and_left exists_and_right exists_eq_right true_and and_true reduceCtorEq false_and and_false false_or or_false exists_false exists_const Bool.false_eq_true if_true if_false and_assoc ite_true ite_false Bool.not_eq_true' decide_eq_true_eq decide_eq_false_iff_not Bool.not_false Bool.not_true true_or or_true not_true_eq_false not_false_eq_true Bool.and_eq_true Nat.zero_add Nat.sub_self Nat.reduceAdd Nat.reduceSub implies_true ne_eq zbt zaG Bool.true_and Bool.and_true List.all_nil zco zcB zak pFrz zcO zbX pNeg zbi zdJ zbj zcn zaO nFld zcY".splitOn " "++es).toArray.mapM λn=>`(Lean.Parser.Tactic.simpLemma|$(mkIdent n.toName):term)
 `(tactic|first|(dsimp only[$ls,*];try simp only[$ls,*])|simp only[$ls,*])
local macro_rules | `(tactic| walk_at "pu")=>puM
local macro_rules | `(tactic| walk_at "go")=>`(tactic| ((first | (with_reducible refine hold ?_) | (with_reducible refine zbu ?_) | (with_reducible refine zdZ ?_));walk_at "pu"))
local macro_rules | `(tactic| walk_at "side")=>`(tactic| first | assumption | decide | lia | exact⟨by decide,by decide⟩ | exact⟨by decide,by decide,by decide⟩ | exact Or.inl ⟨by lia,by lia⟩ | exact Or.inr ⟨by lia,by lia⟩)
local macro_rules | `(tactic| walk_at "auto")=>`(tactic| repeat (first | ((with_reducible refine hold ?_);walk_at "pu") | ((with_reducible refine zbu ?_);walk_at "pu") | ((with_reducible refine And.intro ?_ ?_);(· walk_at "side"))))
section
variable {P:Program}{w:World}{K:Xa}{mg:Str->Option Value}{base:Heap}
theorem zfk:zau ["parents","i"] ["parents","i"] (zac zaF):=⟨rfl,rfl,rfl,by decide +kernel,rfl,by decide +kernel,by decide +kernel⟩
theorem zeK {f:Addr}{fd:FuncData}(F:Fun K "children_of" "children_of" zaF f fd) (B:Bl mg):FnOk P w K mg base CX0 1 f fd ["parents","i"] (spP K zak):=by
 refine zaB F zfk (λds Q q152q=>by obtain⟨a,b,e,_⟩:=q152q;rw[e];rfl) (λcdv A outer s H E hr=>?_);have hu:(A.deeper (envOfC "children_of" (zac zaF) s.heap.objs.size f cdv)).units+16<cLine:=by have q:=hr.units;lia
 have nd:=zfk.nd;refine⟨_,(zaf (zaw (zbM (N:=["child","parent","i"]) (k:=2) (js:=[1]) rfl (zeU (sup:=zac zaF) (XN:=["parents","i"]) rfl rfl (by decide +kernel)) (by decide) (zlU (loc2 (by decide) (by decide))) (zok rfl B.enumerate (zab 0)) ⟨λ_ _ _ _ _=>(zej (n:=2) rfl (zaH (zai (i:=0) (by show(["child","parent","i"]:List Str).Nodup;decide +kernel) rfl (Or.inl rfl)) (zaH (zai (i:=1) (by show(["child","parent","i"]:List Str).Nodup;decide +kernel) rfl (Or.inl rfl)) zcT))),λ_ _ _ _ _=>(zgY (zeC hu (zab 1) (zab 2))),λ_ _ _ _ _=>(zab 0)⟩))),λds Q h=>?_⟩;obtain⟨ps,i,rfl,hl,q⟩:=h;have hsz:=sizeLine_eq;walk_at "pu";refine⟨by rw[zfW,Xb];lia,λk out=>out=((XR k).filter λc=>ps[c]? == some (some i)).map λ(c:Nat)=>PV.int c,rfl,?_,?_⟩
 ·rintro k d out hd-rfl;obtain⟨x,hx,rfl⟩:=zhV hd;rw[Xk]at hx;cases hp:ps[k]? with
  | none=>rw[hp]at hx;cases hx
  | some p=>
   rw[hp]at hx;cases hx;have hpe:(parP p=PV.int i)↔p=some i:=by
    cases p with
    | none=>exact⟨λz=>(nomatch z),λz=>(nomatch z)⟩
    | some p=>
     constructor
     ·intro z;have z':(p:Int)=(i:Int):=PV.int.inj z;rw[show p=i by lia]
     ·intro z;cases z;rfl
   refine⟨_,rfl,rfl,_,_,rfl,_,_,rfl,rfl,by cases p<;>rfl,?_⟩;show if _ then _=_ else _=_
   rw[List.range_succ,List.filter_append,Xt];refine ite2 (λe=>?_) (λe=>?_)
   ·rw[Yo (by rw[hp,hpe.mp e];simp)];rfl
   ·rw[Yp (by rw[hp];simp;exact λz=>e (hpe.mpr z)),List.filter_nil,YL,Yn]
 ·rintro out-rfl;rw[zfW,Xb];exact q
noncomputable def pre (ps:List (Option Nat)):Nat->Nat->List Nat
 | 0,_=>[]
 | t+1,i=>i::(kids ps i).flatMap (pre ps t)
structure zdN (ps:List (Option Nat))(rk:Nat->Nat):Prop where
 lt:∀c p,ps[c]? = some (some p)->rk c<rk p
theorem zkf {ps:List (Option Nat)}{i c:Nat}(h:c∈kids ps i):ps[c]? = some (some i):=by
 have:=(Yz.mp h).2;exact eq_of_beq this
theorem zfc {ps:List (Option Nat)}{rk:Nat->Nat}(R:zdN ps rk):∀(t i t':Nat),rk i<t->rk i<t'->pre ps t i=pre ps t' i
 | 0,i,t',h,_=>absurd h (YA _)
 | t+1,i,t',h,h'=>by
  cases t' with
  | zero=>exact absurd h' (YA _)
  | succ t'=>
   show i::_=i::_
   congr 1
   have:∀l:List Nat,(∀c∈l,ps[c]? = some (some i))->l.flatMap (pre ps t)=l.flatMap (pre ps t'):=by
    intro l;induction l with
    | nil=>intro _;rfl
    | cons c l ih=>
     intro hl;have hc:=R.lt c i (hl c (Xh ..));rw[Yk,Yk,zfc R t c t' (by lia) (by lia),ih λd hd=>hl d (Xf _ hd)]
   exact this _ λc hc=>zkf hc
noncomputable def preR (ps:List (Option Nat))(rk:Nat->Nat)(i:Nat):List Nat:=pre ps (rk i+1) i
theorem zmW {ps:List (Option Nat)}{rk:Nat->Nat}(R:zdN ps rk)(i:Nat):preR ps rk i=i::(kids ps i).flatMap (preR ps rk):=by
 unfold preR;show i::_=i::_
 congr 1
 have:∀l:List Nat,(∀c∈l,ps[c]? = some (some i))->l.flatMap (pre ps (rk i))=l.flatMap λc=>pre ps (rk c+1) c:=by
  intro l;induction l with
  | nil=>intro _;rfl
  | cons c l ih=>
   intro hl;have hc:=R.lt c i (hl c (Xh ..));rw[Yk,Yk,zfc R (rk i) c (rk c+1) (by lia) (by lia),ih λd hd=>hl d (Xf _ hd)]
 exact this _ λc hc=>zkf hc
noncomputable def zdb:PF:=λds Q=>∃(ps:List (Option Nat))(rk:Nat->Nat)(r:Nat),ds=[zco ps]/\ps.length<=1000/\zdN ps rk/\ps[r]? = some none/\(∀j,j<r->ps[j]?≠some none)/\(preR ps rk r).length<=1000/\Q (zcB (preR ps rk r)) .new
theorem zir:zbs zdb:=λds Q Q' m q153q=>by obtain⟨a,b,c,e,h1,h2,h3,h4,h5,q⟩:=q153q;exact⟨a,b,c,e,h1,h2,h3,h4,h5,m _ _ q⟩
theorem zpm:zau ["parents","found","waiting","i"] ["parents"] (zac zgd):=⟨rfl,rfl,rfl,by decide +kernel,rfl,by decide +kernel,by decide +kernel⟩
theorem zmX {f fC:Addr}{fd fdC:FuncData}(F:Fun K "walk" "walk" zgd f fd) (ChildrenOf:Fx K mg "children_of" zaF ["parents","i"] fC fdC) (B:Bl mg):FnOk P w K mg base CX0 2 f fd ["parents"] (spP K zdb):=by
 have GChildrenOf:FnOk P w K mg base CX0 1 fC fdC ["parents","i"] (spP K zak):=zeK ChildrenOf.fn B;refine zaB F zpm (λds Q q154q=>by obtain⟨a,b,c,e,_⟩:=q154q;rw[e];rfl) (λcdv A outer s H E hr=>?_);have hu:(A.deeper (envOfC "walk" (zac zgd) s.heap.objs.size f cdv)).units+16<cLine:=by have q:=hr.units;lia
 have nd:=zpm.nd;refine⟨_,(zae (zah (i:=1) nd rfl (Or.inl rfl) (zbp zad))
   (zae (zah (i:=2) nd rfl (Or.inl rfl) (zbp (zaa (zjR (zab 0) zeb) zad)))
   (zae (zeB PassesOwn.never (zgX (zab 2)) (zae (zod (i:=3) nd rfl (Or.inl rfl) (zqC 2))
   (zae (zaU (zaN 1 (zab 3)))
   (zaf (zaU (zou 2 (zmk (zao GChildrenOf zdM hr rfl ChildrenOf.mg ChildrenOf.fn.kp ChildrenOf.bd (zaa (zab 0) (zaa (zab 3) zad))))))))))
   (zaf (zaw (zab 1)))))),λds Q h=>?_⟩
 obtain⟨ps,rk,r,rfl,hl,R,hr0,hr1,hpl,q⟩:=h;have hsz:=sizeLine_eq;walk_at "pu";refine⟨by lia,?_⟩;walk_at "go";have hflat:((ps.map parP).all zfY)=true:=by
  rw[XE];intro d hd;obtain⟨p,_,rfl⟩:=XA.mp hd;cases p<;>rfl
 have hmem:PV.non∈ps.map parP:=XA.mpr ⟨none,Xr hr0,rfl⟩;have hidx:idxP (ps.map parP) PV.non=r:=by
  unfold idxP;have hrl:r<ps.length:=(Xc.mp hr0).1;refine(List.findIdx_eq (by rw[Xb];exact hrl)).mpr ⟨?_,λj hj=>?_⟩
  ·rw[List.getElem_map,(Xc.mp hr0).2];exact decide_eq_true rfl
  ·have hjl:j<ps.length:=by lia
   rw[List.getElem_map];have hj1:=hr1 j hj;rw[Xd hjl]at hj1;cases hp:ps[j]with
   | none=>rw[hp]at hj1;exact absurd rfl hj1
   | some p=>exact decide_eq_false λz=>nomatch z
 refine⟨hflat,rfl,hmem,by lia,?_⟩;rw[hidx];walk_at "go";obtain⟨Iv,hIv⟩:∃Iv:Nat->PEnv->Prop,∀m ρ,Iv m ρ↔∃(fs ws:List Nat) (k3:Option (PV×Bool)),fs++ws.reverse.flatMap (preR ps rk)=preR ps rk r/\m=(ws.reverse.flatMap (preR ps rk)).length/\
  ρ=[some (PV.lst (Yc parP ps),false),some (PV.lst (fs.map λ(k:Nat)=>PV.int k),true),some (PV.lst (ws.map λ(k:Nat)=>PV.int k),true),k3]:=⟨_,λ_ _=>Iff.rfl⟩
 refine⟨Iv,⟨_,(hIv _ _).mpr ⟨[],[r],none,by simp,rfl,rfl⟩⟩,λm ρ' hI=>?_⟩;obtain⟨fs,ws,k3,h1,h2,rfl⟩:=(hIv _ _).mp hI;walk_at "go";rcases List.eq_nil_or_concat ws with rfl | ⟨us,i,rfl⟩
 ·rw[if_neg (by simp)];walk_at "go";simp only[List.reverse_nil,List.flatMap_nil,Yn]at h1;rw[h1];exact q
 ·rw[if_pos (by simp)];rw[List.concat_eq_append]at h1 h2 ⊢;have hrev:(us++[i]).reverse=i::us.reverse:=by simp
  rw[hrev,Yk,zmW R i]at h1 h2;walk_at "go";rw[Xb];refine⟨PV.int i,by simp,?_⟩;have hdl:(Yc (λ(k:Nat)=>PV.int k) (us++[i])).dropLast=us.map λ(k:Nat)=>PV.int k:=by
   rw[Xt];exact List.dropLast_concat
  rw[hdl];have hlen:=congrArg List.length h1;simp only[Xj,XG]at hlen h2;walk_at "go";refine⟨by rw[Xb];lia,?_⟩;walk_at "go";have hkl:(kids ps i).length<=1000:=by
   have:=Yx (λc=>ps[c]? == some (some i)) (XR ps.length);rw[Yl]at this;exact XB this hl
  have hul:us.length<=(us.reverse.flatMap (preR ps rk)).length:=by
   have:∀l:List Nat,l.length<=(l.flatMap (preR ps rk)).length:=by
    intro l;induction l with
    | nil=>exact Xi _
    | cons c l ih=>rw[Yk,zmW R c,Xj,XG,XG];lia
   have:=this us.reverse;rw[Xx]at this;exact this
  refine⟨ps,rfl,i,rfl,hl,by rw[Xb,Xx,Xb];lia,((kids ps i).flatMap (preR ps rk)++us.reverse.flatMap (preR ps rk)).length,by rw[h2,Xj];lia,?_⟩;refine(hIv _ _).mpr ⟨fs++[i],us++(kids ps i).reverse,some (PV.int i,false),?_,?_,?_⟩
  ·rw[List.reverse_append,Yr,List.flatMap_append,<- h1];simp
  ·rw[List.reverse_append,Yr,List.flatMap_append]
  ·rw[Xt,Xt,List.map_reverse];rfl
end
noncomputable def ltsP (ls:List Str):PV:=.tup (ls.map PV.str)
noncomputable def shpP (sh:List (List Str)):PV:=.lst (sh.map ltsP)
noncomputable def zbS (sh:List (List Str))(ps:List (Option Nat))(i:Nat):List Str:=match ps[i]? with
 | some (some p)=>(sh.getD i []).filter λl=>decide (l∈sh.getD p [])
 | _=>[]
noncomputable def zaV:PF:=λds Q=>∃(sh:List (List Str))(ps:List (Option Nat))(i:Nat),ds=[shpP sh,zco ps,.int i]/\i<sh.length/\sh.length=ps.length/\(∀p,ps[i]? = some (some p)->p<sh.length)/\(∀l∈sh,l.length<=1000)/\Q (.lst ((zbS sh ps i).map PV.str)) .new
theorem zja:zbs zaV:=λds Q Q' m q155q=>by obtain⟨a,b,c,e,h1,h2,h3,h4,q⟩:=q155q;exact⟨a,b,c,e,h1,h2,h3,h4,m _ _ q⟩
noncomputable def zbB (ls:List Str)(r:List Int):PV:=.dK (ls.map Sum.inr) (r.map PV.int)
noncomputable def zdl (ls:List Str)(r:List Int)(l:Str):Int:=((ls.zip r).lookup l).getD 0
noncomputable def zaJ:PF:=λds Q=>∃(ls:List Str)(r:List Int)(ws:List Str),ds=[zbB ls r,.lst (ws.map PV.str)]/\ls.length=r.length/\(∀l∈ws,l∈ls)/\ws.length<=1000/\Q (.tup (ws.map λl=>PV.int (zdl ls r l))) .frz
theorem zfl:zbs zaJ:=λds Q Q' m q156q=>by obtain⟨a,b,c,e,h1,h2,h3,q⟩:=q156q;exact⟨a,b,c,e,h1,h2,h3,m _ _ q⟩
theorem zmY {l:Str}:∀ {ls:List Str}{r:List Int},ls.length=r.length->l∈ls->dgP (ls.map (Sum.inr:Str->Key)) (r.map PV.int) (.inr l)=some (PV.int (zdl ls r l))
 | [],_,_,h=>nomatch h
 | k::ls,[],e,_=>nomatch e
 | k::ls,x::r,e,h=>by
  by_cases hk:k=l
  ·subst hk;simp[dgP,zdl]
  ·have ih:=zmY (l:=l) (Nat.succ.inj e) ((Xu.mp h).resolve_left λz=>hk z.symm);simp only[dgP,zdl,Xp,XZ,XH,Yg]at ih ⊢;rw[show(l == k)=false by rw[beq_eq_false_iff_ne];exact λz=>hk z.symm];simpa[hk]using ih
theorem zfd (n:Nat)(ss:List Str):(ss.map PV.str).all (PL.plain n)=true:=by
 rw[XE];intro d hd;obtain⟨x,_,rfl⟩:=XA.mp hd;cases n<;>rfl
section
variable {P:Program}{w:World}{K:Xa}{mg:Str->Option Value}{base:Heap}
theorem zis:zau ["known","letters"] ["known","letters"] (zac zba):=⟨rfl,rfl,rfl,by decide +kernel,rfl,by decide +kernel,by decide +kernel⟩
theorem zgC {f:Addr}{fd:FuncData}(F:Fun K "cells_at" "cells_at" zba f fd) (B:Bl mg):FnOk P w K mg base CX0 1 f fd ["known","letters"] (spP K zaJ):=by
 refine zaB F zis (λds Q q157q=>by obtain⟨a,b,c,e,_⟩:=q157q;rw[e];rfl) (λcdv A outer s H E hr=>?_);have hu:(A.deeper (envOfC "cells_at" (zac zba) s.heap.objs.size f cdv)).units+16<cLine:=by have q:=hr.units;lia
 have nd:=zis.nd;refine⟨_,(zaf (zaw (zfs rfl B.tuple (zaa (zbM (N:=["letter","known"]) (k:=1) (js:=[0]) rfl (zeU (sup:=zac zba) (XN:=["known","letters"]) rfl rfl (by decide +kernel)) (by decide) (zbJ (by decide)) (zbg (zab 1)) ⟨λ_ _ _ _ _=>(zai (i:=0) (by show(["letter","known"]:List Str).Nodup;decide +kernel) rfl (Or.inl rfl)),λ_ _ _ _ _=>zcc,λ_ _ _ _ _=>(ziW (hu1 hu) (zab 1) (zab 0))⟩) zad)))),λds Q h=>?_⟩;obtain⟨ls,r,ws,rfl,hl,hm,hw,q⟩:=h;have hsz:=sizeLine_eq;walk_at "pu";refine⟨by rw[Xb];lia,λi out=>out=(ws.take i).map λl=>PV.int (zdl ls r l),rfl,?_,?_⟩
 ·rintro i d out hd-rfl;rw[Xk]at hd;cases hs:ws[i]? with
  | none=>rw[hs]at hd;cases hd
  | some l=>
   rw[hs]at hd;cases hd;have hd2:=zmY hl (hm l (Xr hs));refine⟨.inr l,rfl,_,hd2,?_⟩;show _=_;rw[<- take_snoc hs,Xt];rfl
 ·rintro out-rfl;rw[Xb,Xv (Xi _)];exact q
theorem zkg:zau ["shape","parents","i","above"] ["shape","parents","i"] (zac zcz):=⟨rfl,rfl,rfl,by decide +kernel,rfl,by decide +kernel,by decide +kernel⟩
theorem zmZ {f:Addr}{fd:FuncData}(F:Fun K "bond_of" "bond_of" zcz f fd) (B:Bl mg):FnOk P w K mg base CX0 1 f fd ["shape","parents","i"] (spP K zaV):=by
 refine zaB F zkg (λds Q q158q=>by obtain⟨a,b,c,e,_⟩:=q158q;rw[e];rfl) (λcdv A outer s H E hr=>?_);have hu:(A.deeper (envOfC "bond_of" (zac zcz) s.heap.objs.size f cdv)).units+16<cLine:=by have q:=hr.units;lia
 have nd:=zkg.nd;refine⟨_,(zae (zce (ziV (zax (zab 1) (zab 2)) zeb) (zaf (zaw (zbp zad))) zaR)
   (zae (zah (i:=3) nd rfl (Or.inr rfl) (zax (zab 0) (zax (zab 1) (zab 2))))
   (zaf (zaw (zbM (N:=["letter","above"]) (k:=1) (js:=[3]) rfl (zeU (sup:=zac zcz) (XN:=["shape","parents","i","above"]) rfl rfl (by decide +kernel)) (by decide) (zbJ (by decide)) (zlV (zax (zab 0) (zab 2))) ⟨λ_ _ _ _ _=>(zai (i:=0) (by show(["letter","above"]:List Str).Nodup;decide +kernel) rfl (Or.inl rfl)),λ_ _ _ _ _=>(zgY (zsp hu (zab 0) (zab 1))),λ_ _ _ _ _=>(zab 0)⟩))))),λds Q h=>?_⟩
 obtain⟨sh,ps,i,rfl,hi,hsp,hp,h1000,q⟩:=h;have hsz:=sizeLine_eq;have hip:i<ps.length:=by lia
 walk_at "pu";cases hpi:ps[i]? with
 | none=>rw[Xd hip]at hpi;cases hpi
 | some o=>
  have hat:atI (Yc parP ps) (i:Int)=some (parP o):=zbw (by rw[Xk,hpi];rfl);refine⟨_,hat,?_⟩;cases o with
  | none=>
   have hb:zbS sh ps i=[]:=by unfold zbS;rw[hpi]
   rw[hb]at q;rw[if_pos (show parP none=PV.non from rfl)];walk_at "go";exact⟨by lia,q⟩
  | some p=>
   have hpl:=hp p hpi;have hb:zbS sh ps i=(sh.getD i []).filter λl=>decide (l∈sh.getD p []):=by unfold zbS;rw[hpi]
   have e1:sh[i]? = some (sh.getD i []):=by rw[Xn,Xd hi];rfl
   have e2:sh[p]? = some (sh.getD p []):=by rw[Xn,Xd hpl];rfl
   have h1:=h1000 _ (Xr e1);rw[hb]at q;generalize sh.getD i []=li at e1 h1 q;generalize sh.getD p []=lp at e2 q;rw[if_neg (λz=>nomatch z)];walk_at "go";walk_at "go";refine⟨_,hat,_,⟨_,rfl,zbw (by rw[Xk,e2];rfl)⟩,?_⟩;walk_at "go";refine⟨_,zbw (by rw[Xk,e1];rfl),li.map PV.str,rfl,by rw[Xb];lia,λk out=>out=((li.take k).filter λl=>decide (l∈lp)).map PV.str,rfl,?_,?_⟩
   ·rintro k d out hd-rfl;rw[Xk]at hd;cases hs:li[k]? with
    | none=>rw[hs]at hd;cases hd
    | some l=>
     rw[hs]at hd;cases hd;have hml:PV.str l∈Yc PV.str lp↔l∈lp:=by
      rw[XA];exact⟨λ q159q=>by obtain⟨y,h,e⟩:=q159q;cases e;exact h,λh=>⟨l,h,rfl⟩⟩
     refine⟨rfl,zfd _ _,?_⟩;show if _ then _=_ else _=_
     rw[<- take_snoc hs,List.filter_append,Xt];refine ite2 (λe=>?_) (λe=>?_)
     ·rw[Yo (p:=λl=>decide (l∈lp)) (decide_eq_true (hml.mp e))];rfl
     ·rw[Yp (p:=λl=>decide (l∈lp)) (by rw[decide_eq_true_eq];exact λz=>e (hml.mpr z)),List.filter_nil,YL,Yn]
   ·rintro out-rfl;rw[Xb,Xv (Xi _)];exact q
end
noncomputable def mixed (c k:Int):Int:=if c > 10 ^ 8 then(c / 1000 / (10 ^ 7) ^ k.toNat) % 10 ^ 7 else
 let o:=(c % 2147483647+40503*k*k+17*k)*48271 % 2147483647
 o*(o % 65537+3*k+1) % 2147483629
theorem zhj (c k:Int):0<=mixed c k:=by
 unfold mixed;split
 ·exact Yt _ (by decide)
 ·exact Yt _ (by decide)
theorem zhk (c k:Int):mixed c k<2147483629:=by
 unfold mixed;split
 ·have:=Yh (c / 1000 / (10 ^ 7) ^ k.toNat) (show(0:Int)<10 ^ 7 by decide);lia
 ·exact Yh _ (by decide)
noncomputable def zbd:PF:=λds Q=>∃c k:Int,ds=[.int c,.int k]/\0<=k/\k<=1000/\Q (.int (mixed c k)) .frz
theorem zaW:zbs zbd:=λds Q Q' m q160q=>by obtain⟨c,j,e,h1,h2,q⟩:=q160q;exact⟨c,j,e,h1,h2,m _ _ q⟩
noncomputable def zbk:PF:=λds Q=>∃(c many:Int)(es:List PV)(x:PV),ds=[.int c,x,.int many]/\(x=.lst es\/x=.tup es)/\es.length<=100/\
 ∀told left:List PV,(told++left).Perm es->told.length=min many.toNat es.length->Q (.lst told) .new
theorem zjb:zbs zbk:=λds Q Q' m q161q=>by obtain⟨c,n,es,x,e,h1,h2,q⟩:=q161q;exact⟨c,n,es,x,e,h1,h2,λt l a b=>m _ _ (q t l a b)⟩
noncomputable abbrev ABC:Str:="ABCDEFGHIJKLMNOPQRSTUVWXYZ"
noncomputable def zna (n:Nat):List Str:=(XR 6).map λi=>⟨#[65+n+i]⟩
theorem zqZ:∀n:Nat,n<21->signs (Txt.slice ABC (some (n:Int)) (some ((n:Int)+6)))=zna n:=by decide +kernel
theorem zsR:∀n:Nat,n<21->(Txt.slice ABC (some (n:Int)) (some ((n:Int)+6))).length=6:=by decide +kernel
theorem zsS:∀n:Nat,n<21->(zna n).Nodup:=by decide +kernel
theorem zjc (n:Nat):(zna n).length=6:=by simp[zna]
noncomputable def zgD (c:Int):Nat:=(mixed c 1 % 21).toNat
noncomputable def zay:PF:=λds Q=>∃c:Int,ds=[.int c]/\Q (.lst ((zna (zgD c)).map PV.str)) .new
theorem zhl:zbs zay:=λds Q Q' m q162q=>by obtain⟨c,e,q⟩:=q162q;exact⟨c,e,m _ _ q⟩
theorem znb:∀ {L:List Str}{told:List PV},(∀d∈told,d∈L.map PV.str)->∃ts:List Str,told=ts.map PV.str/\∀x∈ts,x∈L
 | L,[],_=>⟨[],rfl,λx h=>by cases h⟩
 | L,d::told,h=>by
  obtain⟨ts,e,h2⟩:=znb (L:=L) (told:=told) λd hd=>h d (Xf _ hd);obtain⟨x,hx,rfl⟩:=XA.mp (h d (Xh ..));exact⟨x::ts,by rw[e];rfl,λy hy=>by rcases Xu.mp hy with rfl | hy;exact hx;exact h2 y hy⟩
theorem zra {L:List Str}{told left:List PV}(h:(told++left).Perm (L.map PV.str)):∃ts:List Str,told=ts.map PV.str/\∀x∈ts,x∈L:=
 znb λd hd=>h.mem_iff.mp (List.mem_append_left _ hd)
theorem zfJ {l:List PV}{i:Int}(h0:0<=i)(h1:i<l.length):∃x,atI l i=some x/\l[i.toNat]? = some x:=by
 obtain⟨n,rfl⟩:∃n:Nat,i=n:=⟨i.toNat,by lia⟩;have hn:n<l.length:=by lia
 exact⟨l[n],zbw (by simp[hn]),by simp[hn]⟩
theorem zpn (l:List PV){i:Int}(h0:0<=i)(h1:i<=l.length):cutP l none (some i)=l.take i.toNat:=by
 obtain⟨n,rfl⟩:∃n:Nat,i=n:=⟨i.toNat,by lia⟩;unfold cutP;rw[HT.zeS,HT.zjq,Nat.min_eq_left (by lia)];simp
theorem zkh (l:List PV){i:Int}(h0:0<=i)(h1:i<=l.length):cutP l (some i) none=l.drop i.toNat:=by
 obtain⟨n,rfl⟩:∃n:Nat,i=n:=⟨i.toNat,by lia⟩;unfold cutP;rw[HT.zeS,HT.zjq,Nat.min_eq_left (by lia),Xv (by simp)];simp
section
variable {P:Program}{w:World}{K:Xa}{mg:Str->Option Value}{base:Heap}
theorem znc:zau ["_law_cell","_law_k","_law_left","_law_j","_law_one"] ["_law_cell","_law_k"] (zac zcF):=⟨rfl,rfl,rfl,by decide +kernel,rfl,by decide +kernel,by decide +kernel⟩
theorem zdX {f:Addr}{fd:FuncData}(F:Fun K "_law_mixed" "_law_mixed" zcF f fd) (B:Bl mg):FnOk P w K mg base CX0 1 f fd ["_law_cell","_law_k"] (spP K zbd):=by
 refine zaB F znc (λds Q q163q=>by obtain⟨c,j,e,_⟩:=q163q;rw[e];rfl) (λcdv A outer s H E hr=>?_);have hu:(A.deeper (envOfC "_law_mixed" (zac zcF) s.heap.objs.size f cdv)).units+16<cLine:=by have q:=hr.units;lia
 have nd:=znc.nd;refine⟨_,(zae (zce (zhR (zab 0) (zfi zag zag)) (zae (zah (i:=2) nd rfl (Or.inl rfl) (zfN (zab 0) zag))
   (zae (zbL rfl PassesOwn.never (zbl rfl B.range (zaa (zab 1) zad)) (zai (i:=3) nd rfl (Or.inl rfl)) (zaf (zah (i:=2) nd rfl (Or.inl rfl) (zfN (zab 2) (zfi zag zag)))))
   (zaf (zaw (zbz (zab 2) (zfi zag zag)))))) zaR)
   (zae (zah (i:=4) nd rfl (Or.inl rfl) (zbz (zde (zbG (zbG (zbz (zab 0) zag) (zde (zde zag (zab 1)) (zab 1))) (zde zag (zab 1))) zag) zag))
   (zaf (zaw (zbz (zde (zab 4) (zbG (zbG (zbz (zab 4) zag) (zde zag (zab 1))) zag)) zag))))),λds Q h=>?_⟩
 obtain⟨c,k,rfl,h0,h1,q⟩:=h;walk_at "pu";have p7:(10:Int) ^ Int.toNat 7=10000000:=by decide
 have p8:(10:Int) ^ Int.toNat 8=100000000:=by decide
 refine⟨⟨by decide,by decide,by decide⟩,ite2 (λe1=>?a) (λe1=>?b)⟩
 case a=>
  walk_at "auto";obtain⟨Iv,hIv⟩:∃Iv:Nat->PEnv->Prop,∀i ρ,Iv i ρ↔∃kv:Option (PV×Bool),ρ=[some (PV.int c,false),some (PV.int k,false),some (PV.int (c / 1000 / (10 ^ 7) ^ i),false),kv,none]:=⟨_,λ_ _=>Iff.rfl⟩;refine⟨Iv,(hIv _ _).mpr ⟨none,by simp⟩,?_,?_⟩
  ·intro i d ρ hd hI;obtain⟨kv,rfl⟩:=(hIv _ _).mp hI;obtain⟨hi,rfl⟩:=zcE hd;walk_at "go";walk_at "auto";refine(hIv _ _).mpr ⟨some (PV.int (0+(i:Int)),false),?_⟩;have e3:c / 1000 / (10 ^ 7) ^ i / 10 ^ Int.toNat 7=c / 1000 / (10 ^ 7) ^ (i+1):=by
    rw[p7,show((10:Int) ^ 7)=10000000 from by decide,Int.pow_succ,Int.ediv_ediv_of_nonneg (Int.pow_nonneg (by decide))]
   rw[e3]
  ·intro ρ hI;obtain⟨kv,rfl⟩:=(hIv _ _).mp hI;rw[zbK];walk_at "auto";unfold mixed at q;rw[if_pos (by lia)]at q;exact q
 case b=>
  walk_at "auto";unfold mixed at q;rw[if_neg (by lia)]at q;exact q
theorem zki:zau ["_law_cell","_law_some","_law_many","_law_left","_law_told","_law_at"] ["_law_cell","_law_some","_law_many"] (zac zcM):=⟨rfl,rfl,rfl,by decide +kernel,rfl,by decide +kernel,by decide +kernel⟩
theorem znd {f fM:Addr}{fd fdM:FuncData}(F:Fun K "_law_picked" "_law_picked" zcM f fd) (Mixed:Fx K mg "_law_mixed" zcF ["_law_cell","_law_k"] fM fdM) (B:Bl mg):FnOk P w K mg base CX0 2 f fd ["_law_cell","_law_some","_law_many"] (spP K zbk):=by
 have GMixed:FnOk P w K mg base CX0 1 fM fdM ["_law_cell","_law_k"] (spP K zbd):=zdX Mixed.fn B;refine zaB F zki (λds Q q164q=>by obtain⟨c,n,es,x,e,_⟩:=q164q;rw[e];rfl) (λcdv A outer s H E hr=>?_);have hu:(A.deeper (envOfC "_law_picked" (zac zcM) s.heap.objs.size f cdv)).units+16<cLine:=by have q:=hr.units;lia
 have nd:=zki.nd;refine⟨_,(zae (zah (i:=3) nd rfl (Or.inl rfl) (zeW rfl B.list (zaa (zab 1) zad)))
   (zae (zah (i:=4) nd rfl (Or.inl rfl) (zbp zad))
   (zae (zeB PassesOwn.never (PuW.t (zgW (zmc (zbr rfl B.len (zaa (zab 4) zad)) (zab 2)) (zfq (zhR (zbr rfl B.len (zaa (zab 3) zad)) zag)))) (zae (zah (i:=5) nd rfl (Or.inl rfl) (zbz (zao GMixed zaW hr rfl Mixed.mg Mixed.fn.kp Mixed.bd (zaa (zab 0) (zaa (zbG zag (zbr rfl B.len (zaa (zab 4) zad))) zad))) (zbr rfl B.len (zaa (zab 3) zad))))
   (zae (zaU (zaN 4 (zax (zab 3) (zab 5))))
   (zaf (zah (i:=3) nd rfl (Or.inl rfl) (zjJ (zdT (zab 3) zeD (zct (zab 5))) (zdT (zab 3) (zct (zbG (zab 5) zag)) zeD)))))))
   (zaf (zaw (zab 4)))))),λds Q h=>?_⟩
 obtain⟨c,many,es,x,rfl,hx,hz,q⟩:=h;walk_at "pu";refine⟨es,hx,?_⟩;walk_at "auto";obtain⟨Iv,hIv⟩:∃Iv:Nat->PEnv->Prop,∀m ρ,Iv m ρ↔∃(told left:List PV) (kv:Option (PV×Bool)),ρ=[some (PV.int c,false),some (x,false),some (PV.int many,false),some (PV.lst left,true),some (PV.lst told,true),kv]/\
   (told++left).Perm es/\told.length<=many.toNat/\m=left.length:=⟨_,λ_ _=>Iff.rfl⟩
 refine⟨Iv,⟨_,(hIv _ _).mpr ⟨[],es,none,rfl,by simp,XT _,rfl⟩⟩,?_⟩;intro m ρ hI;obtain⟨told,left,kv,rfl,hp,hm,rfl⟩:=(hIv _ _).mp hI;have hlen:=hp.length_eq;rw[Xj]at hlen;walk_at "go";have fin:(told.length=min many.toNat es.length)->Hold (pRet (pVar 4)) { nx:=λx=>Q PV.non Kd.frz,rt:=Q,bk:=λx=>False,ct:=λx=>False }
    [some (PV.int c,false),some (x,false),some (PV.int many,false),some (PV.lst left,true),some (PV.lst told,true),kv]:=λhl=>by
  walk_at "go";exact q told left hp hl
 refine ite2 (λe1=>ite2 (λe2=>?_) (λe2=>fin (by lia))) (λe1=>fin (by lia));have hl0:0<left.length:=by lia
 have n1:=Yt (mixed c (3+(told.length:Int))) (show(left.length:Int)≠0 by lia);have n2:=Yh (mixed c (3+(told.length:Int))) (show(0:Int)<left.length by lia);obtain⟨y,hy,hy2⟩:=zfJ n1 n2;walk_at "go";walk_at "auto";generalize hat:mixed c (3+(told.length:Int)) % (left.length:Int)=at_ at *;refine⟨by rw[sizeLine_eq];lia,y,hy,?_⟩;walk_at "go";rw[zpn left n1 (by lia),zkh left (i:=at_+1) (by lia) (by lia)];have hn:at_.toNat<left.length:=by lia
 have e3:(at_+1).toNat=at_.toNat+1:=by lia
 rw[e3];have hsp:left=left.take at_.toNat++y::left.drop (at_.toNat+1):=by
  rw[Xd hn]at hy2;cases hy2;rw[List.getElem_cons_drop,Yf]
 refine⟨by rw[Ya,List.length_drop,sizeLine_eq];lia,left.length-1,by lia,(hIv _ _).mpr ⟨told++[y],_,_,rfl,?_,by rw[Xj,XV];lia,by rw[Xj,Ya,List.length_drop];lia⟩⟩;refine List.Perm.trans ?_ hp
 conv=>rhs;rw[hsp]
 rw[List.append_assoc];refine List.Perm.append_left _ ?_;exact(List.perm_middle (a:=y) (l₁:=left.take at_.toNat) (l₂:=left.drop (at_.toNat+1))).symm
theorem zgE:zau ["_law_cell","_law_first"] ["_law_cell"] (zac zbO):=⟨rfl,rfl,rfl,by decide +kernel,rfl,by decide +kernel,by decide +kernel⟩
theorem zjd {f fM:Addr}{fd fdM:FuncData}(F:Fun K "_law_alphabet" "_law_alphabet" zbO f fd) (Mixed:Fx K mg "_law_mixed" zcF ["_law_cell","_law_k"] fM fdM) (B:Bl mg):FnOk P w K mg base CX0 2 f fd ["_law_cell"] (spP K zay):=by
 have GMixed:FnOk P w K mg base CX0 1 fM fdM ["_law_cell","_law_k"] (spP K zbd):=zdX Mixed.fn B;refine zaB F zgE (λds Q q165q=>by obtain⟨c,e,_⟩:=q165q;rw[e];rfl) (λcdv A outer s H E hr=>?_);have hu:(A.deeper (envOfC "_law_alphabet" (zac zbO) s.heap.objs.size f cdv)).units+16<cLine:=by have q:=hr.units;lia
 have nd:=zgE.nd;refine⟨_,(zae (zah (i:=1) nd rfl (Or.inl rfl) (zbz (zao GMixed zaW hr rfl Mixed.mg Mixed.fn.kp Mixed.bd (zaa (zab 0) (zaa zag zad))) zag))
   (zaf (zaw (zoi rfl rfl B.list (zaa (zmt zsb (zct (zab 1)) (zct (zbG (zab 1) zag))) zad))))),λds Q h=>?_⟩
 obtain⟨c,rfl,q⟩:=h;have n1:=Yt (mixed c 1) (show(21:Int)≠0 by decide);have n2:=Yh (mixed c 1) (show(0:Int)<21 by decide);have e1:mixed c 1 % 21=(zgD c:Int):=by unfold zgD;lia
 have h21:zgD c<21:=by lia
 walk_at "pu";walk_at "auto";rw[e1];refine⟨by rw[zsR _ h21,sizeLine_eq];lia,?_⟩;rw[zqZ _ h21];exact q
end
noncomputable def Pats (L:List Str)(n:Nat)(sh:List (List Str)):Prop:=sh.length=n/\∀p∈sh,p.length<=4/\∀x∈p,x∈L
theorem Pats.snoc {L:List Str}{n:Nat}{sh:List (List Str)}{p:List Str}(h:Pats L n sh)(h1:p.length<=4)(h2:∀x∈p,x∈L):Pats L (n+1) (sh++[p]):=
 ⟨by rw[Xj,h.1];rfl,λq hq=>by
  rcases XM.mp hq with hq | hq
  ·exact h.2 q hq
  ·rw[Xq]at hq;subst hq;exact⟨h1,h2⟩⟩
noncomputable def zaz:PF:=λds Q=>∃(cs:List Int)(a many:Int),ds=[.lst (cs.map PV.int),.int a,.int many]/\0<=a/\a<=1000/\0<=many/\many<=100/\∀zs:List Int,zs.length=many.toNat->Q (.lst (zs.map PV.int)) .new
theorem zeL:zbs zaz:=λds Q Q' m q166q=>by obtain⟨cs,a,n,e,h1,h2,h3,h4,q⟩:=q166q;exact⟨cs,a,n,e,h1,h2,h3,h4,λzs h=>m _ _ (q zs h)⟩
theorem cget {cs:List Int}{i:Nat}(h:i<cs.length){j:Int}(hj:j=i):atI (cs.map PV.int) j=some (.int cs[i]):=by
 subst hj;exact zbw (by simp[h])
structure zaI (L:List Str)(n:Nat)(sh:List (List Str))(ps:List (Option Nat)):Prop where
 pats:Pats L n sh
 plen:ps.length=n
 ne:∀p∈sh,p≠[]
 nd:∀p∈sh,p.Nodup
 par:∀k j:Nat,ps[k]? = some (some j)->j<k
 root:∀k:Nat,ps[k]? = some none->k=0
 conn:∀(k:Nat) (p:List Str) (x:Str),sh[k]? = some p->x∈p->(∃(j:Nat) (q:List Str),ps[k]? = some (some j)/\sh[j]? = some q/\x∈q)\/∀(i:Nat) (q:List Str),i<k->sh[i]? = some q->x∉q
structure zrb (L:List Str)(sh:List (List Str))(new:List Str):Prop where
 nd:new.Nodup
 sub:∀x∈new,x∈L
 dis:∀p∈sh,∀x∈new,x∉p
theorem zit {l:List Str}:(l.map PV.str).Nodup↔l.Nodup:=by
 unfold List.Nodup;rw[List.pairwise_map];simp
theorem zfB {α:Type}{l:List α}{y z:α}{k:Nat}(h:(l++[y])[k]? = some z):l[k]? = some z\/(k=l.length/\z=y):=by
 rcases Nat.lt_or_ge k l.length with hk | hk
 ·rw[XD hk]at h;exact .inl h
 ·rw[XU hk]at h;rcases Nat.lt_or_ge (k-l.length) 1 with h1 | h1
  ·have e:k-l.length=0:=by lia
   rw[e]at h;cases h;exact .inr ⟨by lia,rfl⟩
  ·rw[Xw (by simpa using h1)]at h;cases h
theorem zhm {α:Type}{l m:List α}{y:α}{k:Nat}(h:l[k]? = some y):(l++m)[k]? = some y:=by
 rw[XD (Xc.mp h).1];exact h
theorem zaI.snoc {L:List Str}{n m:Nat}{sh:List (List Str)}{ps:List (Option Nat)}{new ts:List Str}{par:Option Nat}(T:zaI L n sh ps)(N:zrb L sh new)(h4:(new.take m++ts).length<=4)(hne:new.take m++ts≠[])
  (hts:ts.Nodup) (hp:(par=none/\n=0/\ts=[])\/∃j q,par=some j/\j<n/\sh[j]? = some q/\∀x∈ts,x∈q):zaI L (n+1) (sh++[new.take m++ts]) (ps++[par])/\zrb L (sh++[new.take m++ts]) (new.drop m):=by
 have hl:sh.length=n:=T.pats.1;have hin:∀x∈ts,∃p∈sh,x∈p:=λx hx=>by
  rcases hp with ⟨_,_,e⟩ | ⟨j,q,_,_,hq,hs⟩
  ·rw[e]at hx;cases hx
  ·exact⟨q,Xr hq,hs x hx⟩
 have hsub:∀x∈new.take m++ts,x∈L:=λx hx=>by
  rcases XM.mp hx with hx | hx
  ·exact N.sub x (List.mem_of_mem_take hx)
  ·obtain⟨p,hp,hxp⟩:=hin x hx;exact(T.pats.2 p hp).2 x hxp
 refine⟨⟨T.pats.snoc h4 hsub,by rw[Xj,T.plen];rfl,?_,?_,?_,?_,?_⟩,?_⟩
 ·intro p hp;rcases XM.mp hp with hp | hp
  ·exact T.ne p hp
  ·rw[Xq]at hp;subst hp;exact hne
 ·intro p hp;rcases XM.mp hp with hp | hp
  ·exact T.nd p hp
  ·rw[Xq]at hp;subst hp;rw[List.nodup_append];refine⟨N.nd.sublist (List.take_sublist _ _),hts,λa ha b hb e=>?_⟩;subst e;obtain⟨p,hp,hxp⟩:=hin a hb;exact N.dis p hp a (List.mem_of_mem_take ha) hxp
 ·intro k j h;rcases zfB h with h | ⟨h1,h2⟩
  ·exact T.par k j h
  ·rcases hp with ⟨e,_,_⟩ | ⟨j',q,e,hj,_,_⟩
   ·rw[e]at h2;cases h2
   ·rw[e]at h2;cases h2;rw[T.plen]at h1;lia
 ·intro k h;rcases zfB h with h | ⟨h1,h2⟩
  ·exact T.root k h
  ·rcases hp with ⟨e,hn,_⟩ | ⟨j',q,e,hj,_,_⟩
   ·rw[T.plen]at h1;lia
   ·rw[e]at h2;cases h2
 ·intro k p x h hx;rcases zfB h with h | ⟨h1,h2⟩
  ·have hk:k<sh.length:=(Xc.mp h).1;rcases T.conn k p x h hx with ⟨j,q,h1,h2,h3⟩ | hno
   ·exact .inl ⟨j,q,zhm h1,zhm h2,h3⟩
   ·refine .inr λi q hi hq=>?_;rw[XD (by lia)]at hq;exact hno i q hi hq
  ·subst h2;rcases XM.mp hx with hx | hx
   ·refine .inr λi q hi hq=>?_;rw[XD (by lia)]at hq;exact N.dis q (Xr hq) x (List.mem_of_mem_take hx)
   ·rcases hp with ⟨_,_,e⟩ | ⟨j,q,e,hj,hq,hs⟩
    ·rw[e]at hx;cases hx
    ·refine .inl ⟨j,q,?_,zhm hq,hs x hx⟩;rw[XU (by rw[T.plen,h1,hl];exact Xi _),h1,hl,T.plen,Nat.sub_self,e];rfl
 ·refine⟨N.nd.sublist (List.drop_sublist _ _),λx hx=>N.sub x (List.mem_of_mem_drop hx),λp hp x hx hxp=>?_⟩;rcases XM.mp hp with hp | hp
  ·exact N.dis p hp x (List.mem_of_mem_drop hx) hxp
  ·rw[Xq]at hp;subst hp;rcases XM.mp hxp with h | h
   ·have hd:=N.nd;rw[<- Yf m new,List.nodup_append]at hd;exact hd.2.2 x h x hx rfl
   ·obtain⟨p,hp,hxp⟩:=hin x h;exact N.dis p hp x (List.mem_of_mem_drop hx) hxp
theorem zaI.nil (L:List Str):zaI L 0 [] []:=⟨⟨rfl,λp hp=>by cases hp⟩,rfl,λp hp=>(by cases hp),λp hp=>(by cases hp),λk j h=>(by simp at h),λk h=>(by simp at h),λk p x h=>(by simp at h)⟩
noncomputable def zdm:PF:=λds Q=>∃(cs:List Int)(L:List Str),ds=[.lst (cs.map PV.int),.lst (L.map PV.str)]/\cs.length<=6/\L.length=6/\L.Nodup/\∀sh ps,zaI L cs.length sh ps->Q (.tup [.lst (sh.map ltsP),.lst (ps.map parP)]) .frz
theorem zne:zbs zdm:=λds Q Q' m q167q=>by obtain⟨cs,L,e,h1,h2,h3,q⟩:=q167q;exact⟨cs,L,e,h1,h2,h3,λsh ps a=>m _ _ (q sh ps a)⟩
section
variable {P:Program}{w:World}{K:Xa}{mg:Str->Option Value}{base:Heap}
theorem zgF:zau ["_law_cells","_law_at","_law_many","_law_told"] ["_law_cells","_law_at","_law_many"] (zac zbQ):=⟨rfl,rfl,rfl,by decide +kernel,rfl,by decide +kernel,by decide +kernel⟩
theorem zje {f:Addr}{fd:FuncData}(F:Fun K "_law_filled_up" "_law_filled_up" zbQ f fd) (B:Bl mg):FnOk P w K mg base CX0 1 f fd ["_law_cells","_law_at","_law_many"] (spP K zaz):=by
 refine zaB F zgF (λds Q q168q=>by obtain⟨c,a,n,e,_⟩:=q168q;rw[e];rfl) (λcdv A outer s H E hr=>?_);have hu:(A.deeper (envOfC "_law_filled_up" (zac zbQ) s.heap.objs.size f cdv)).units+16<cLine:=by have q:=hr.units;lia
 have nd:=zgF.nd;refine⟨_,(zae (zah (i:=3) nd rfl (Or.inl rfl) (zdT (zab 0) (zct (zab 1)) (zct (zbG (zab 1) (zab 2)))))
   (zae (zeB PassesOwn.never (zmc (zbr rfl B.len (zaa (zab 3) zad)) (zab 2)) (zaf (zaU (zaN 3 (zbG (zde zag (zbr rfl B.len (zaa (zab 3) zad))) (zde zag (zab 1)))))))
   (zaf (zaw (zab 3))))),λds Q h=>?_⟩
 obtain⟨cs,a,many,rfl,ha,ha2,hm,hm2,q⟩:=h;walk_at "pu";walk_at "auto";obtain⟨zs,hzs,hzl⟩:∃zs:List Int,cutP (cs.map PV.int) (some a) (some (a+many))=zs.map PV.int/\zs.length<=many.toNat:=by
  obtain⟨n,rfl⟩:∃n:Nat,a=n:=⟨a.toNat,by lia⟩;obtain⟨m,rfl⟩:∃m:Nat,many=m:=⟨many.toNat,by lia⟩;refine⟨(cs.drop (min n cs.length)).take (min (n+m) cs.length-min n cs.length),?_,?_⟩
  ·unfold cutP;rw[HT.zeS,show((n:Int)+(m:Int))=((n+m:Nat):Int) by lia,HT.zeS,Xb,List.map_take,List.map_drop]
  ·rw[Ya,List.length_drop];lia
 rw[hzs];obtain⟨Iv,hIv⟩:∃Iv:Nat->PEnv->Prop,∀m ρ,Iv m ρ↔∃zs:List Int,ρ=[some (PV.lst (cs.map PV.int),false),some (PV.int a,false),some (PV.int many,false),some (PV.lst (zs.map PV.int),true)]/\zs.length<=many.toNat/\m=many.toNat-zs.length:=⟨_,λ_ _=>Iff.rfl⟩;refine⟨Iv,⟨_,(hIv _ _).mpr ⟨zs,rfl,hzl,rfl⟩⟩,?_⟩;intro m ρ hI;obtain⟨zs,rfl,hl,rfl⟩:=(hIv _ _).mp hI;walk_at "go";refine ite2 (λe1=>?_) (λe1=>?_)
 ·rw[Xb]at e1;walk_at "go";rw[Xb];refine⟨by rw[sizeLine_eq];lia,.inl ⟨by decide,by decide⟩,.inl ⟨by decide,by decide⟩,_,?_,(hIv _ _).mpr ⟨zs++[7*(zs.length:Int)+3*a],by rw[Xt];rfl,?_,rfl⟩⟩
  all_goals (rw[Xj,XV];lia)
 ·rw[Xb]at e1;walk_at "go";exact q zs (by lia)
noncomputable abbrev tFin:TPS:=pSeq (pSet 8 (PL.tB zcX (zan (pVar 8) (zan (pSub (pC (PV.int 4)) (PL.tB fLen (zan (pVar 6) pNil))) (zan (PL.tB fLen (zan (pVar 4) pNil)) pNil)))))
        (pSeq (zbq (mApp 2 (PL.tB zbN (zan (t2 pCat (pSlL (pVar 4) zcU (zcV (pVar 8))) (pVar 6)) pNil))))
         (pSeq (pSet 4 (pSlL (pVar 4) (zcV (pVar 8)) zcU)) (zbq (mApp 3 (pVar 7)))))
noncomputable abbrev ztN:TPS:=pSeq (pSet 8 (pMod (zbc zbd (zan (t2 pIx (pVar 0) (pVar 5)) (zan (pC (PV.int 22)) pNil))) (pC (PV.int 3))))
      (pSeq
       (pIf
        (zcN (tBl (t2 (pEq false) (PL.tB fLen (zan (pVar 6) pNil)) (pC (PV.int 0))))
         (tOrP (tBl (t2 (pEq false) (pVar 8) (pC (PV.int 0))))
          (tBl (t2 (pEq false) (PL.tB fLen (zan (pVar 4) pNil)) (pC (PV.int 0))))))
        (pSeq (pSet 8 (pC (PV.int 1)))
         (pIf (tBl (t2 (pEq false) (PL.tB fLen (zan (pVar 4) pNil)) (pC (PV.int 0))))
          (pSet 6 (pLst (zan (t2 pIx (t2 pIx (pVar 2) (pVar 7)) (pC (PV.int 0))) pNil))) zcy))
        zcy) tFin)
theorem zpo:zau ["_law_cells","_law_letters_here","_law_shape","_law_parents","_law_new","_law_k","_law_pattern","_law_parent","_law_more"] ["_law_cells","_law_letters_here"] (zac zhh):=⟨rfl,rfl,rfl,by decide +kernel,rfl,by decide +kernel,by decide +kernel⟩
theorem zrc {f fM fP:Addr}{fd fdM fdP:FuncData}(F:Fun K "_law_tree" "_law_tree" zhh f fd) (Mixed:Fx K mg "_law_mixed" zcF ["_law_cell","_law_k"] fM fdM) (Picked:Fx K mg "_law_picked" zcM ["_law_cell","_law_some","_law_many"] fP fdP) (B:Bl mg):FnOk P w K mg base CX0 3 f fd ["_law_cells","_law_letters_here"] (spP K zdm):=by
 have GMixed:FnOk P w K mg base CX0 2 fM fdM ["_law_cell","_law_k"] (spP K zbd):=(zdX Mixed.fn B).mono (by decide);have GPicked:FnOk P w K mg base CX0 2 fP fdP ["_law_cell","_law_some","_law_many"] (spP K zbk):=znd Picked.fn Mixed B;refine zaB F zpo (λds Q q169q=>by obtain⟨c,L,e,_⟩:=q169q;rw[e];rfl) (λcdv A outer s H E hr=>?_);have hu:(A.deeper (envOfC "_law_tree" (zac zhh) s.heap.objs.size f cdv)).units+16<cLine:=by have q:=hr.units;lia
 have nd:=zpo.nd;refine⟨_,(zae (zah (i:=2) nd rfl (Or.inl rfl) (zbp zad))
   (zae (zah (i:=3) nd rfl (Or.inl rfl) (zbp zad))
   (zae (zah (i:=4) nd rfl (Or.inl rfl) (zeW rfl B.list (zaa (zab 1) zad)))
   (zae (zbL rfl PassesOwn.never (zbl rfl B.range (zaa (zbr rfl B.len (zaa (zab 0) zad)) zad)) (zai (i:=5) nd rfl (Or.inl rfl)) (zae (zah (i:=6) nd rfl (Or.inl rfl) (zbp zad))
   (zae (zah (i:=7) nd rfl (Or.inl rfl) zeb)
   (zae (zce (zhR (zab 5) zag) (zae (zah (i:=7) nd rfl (Or.inl rfl) (zbz (zao GMixed zaW hr rfl Mixed.mg Mixed.fn.kp Mixed.bd (zaa (zax (zab 0) (zab 5)) (zaa zag zad))) (zab 5)))
   (zaf (zah (i:=6) nd rfl (Or.inl rfl) (zao GPicked zjb hr rfl Picked.mg Picked.fn.kp Picked.bd (zaa (zax (zab 0) (zab 5)) (zaa (zax (zab 2) (zab 7)) (zaa (zbz (zao GMixed zaW hr rfl Mixed.mg Mixed.fn.kp Mixed.bd (zaa (zax (zab 0) (zab 5)) (zaa zag zad))) zag) zad))))))) zaR)
   (zae (zah (i:=8) nd rfl (Or.inl rfl) (zbz (zao GMixed zaW hr rfl Mixed.mg Mixed.fn.kp Mixed.bd (zaa (zax (zab 0) (zab 5)) (zaa zag zad))) zag))
   (zae (zce (PuW.t (zgW (zeC hu (zbr rfl B.len (zaa (zab 6) zad)) zag) (zfq (PuW.t (zgw (zeC hu (zab 8) zag) (zgV (zeC hu (zbr rfl B.len (zaa (zab 4) zad)) zag))))))) (zae (zah (i:=8) nd rfl (Or.inl rfl) zag)
   (zaf (zce (zeC hu (zbr rfl B.len (zaa (zab 4) zad)) zag) (zaf (zah (i:=6) nd rfl (Or.inl rfl) (zbp (zaa (zax (zax (zab 2) (zab 7)) zag) zad)))) zaR))) zaR)
   (zae (zah (i:=8) nd rfl (Or.inl rfl) (zqv rfl rfl B.min (zaa (zab 8) (zaa (zgv zag (zbr rfl B.len (zaa (zab 6) zad))) (zaa (zbr rfl B.len (zaa (zab 4) zad)) zad)))))
   (zae (zaU (zaN 2 (zfs rfl B.tuple (zaa (zjJ (zdT (zab 4) zeD (zct (zab 8))) (zab 6)) zad))))
   (zae (zah (i:=4) nd rfl (Or.inl rfl) (zdT (zab 4) (zct (zab 8)) zeD))
   (zaf (zaU (zaN 3 (zab 7)))))))))))))
   (zaf (zdw 3 (zdw 2 (zaw (zjB (zaa (zab 2) (zaa (zab 3) zad))))))))))),λds Q h=>?_⟩
 obtain⟨cs,L,rfl,h6,hL,hLn,q⟩:=h;walk_at "pu";walk_at "auto";rw[Xb];obtain⟨Iv,hIv⟩:∃Iv:Nat->PEnv->Prop,∀i ρ,Iv i ρ↔∃(sh:List (List Str)) (ps:List (Option Nat)) (new:List Str) (k1 k2 k3 k4:Option (PV×Bool)),ρ=[some (PV.lst (cs.map PV.int),false),some (PV.lst (L.map PV.str),false),some (PV.lst (sh.map ltsP),true),some (PV.lst (ps.map parP),true),some (PV.lst (new.map PV.str),true),k1,k2,k3,k4]/\
   zaI L i sh ps/\zrb L sh new/\(i=0->new=L):=⟨_,λ_ _=>Iff.rfl⟩
 refine⟨by lia,Iv,(hIv _ _).mpr ⟨[],[],L,none,none,none,none,rfl,.nil L,⟨hLn,λ_ h=>h,λp hp=>by cases hp⟩,λ_=>rfl⟩,?_,?_⟩
 ·intro i d ρ hd hI;obtain⟨sh,ps,new,k1,k2,k3,k4,rfl,T,N,hN0⟩:=(hIv _ _).mp hI;obtain⟨hi,rfl⟩:=zcE hd;have hi':i<cs.length:=by lia
  have hpl:=T.plen;have hsl:=T.pats.1;have fin:∀(ts:List Str) (par:Option Nat) (more:Int) (kv:Option (PV×Bool)),ts.Nodup->ts.length<=2->0<=more->more<=3->((par=none/\i=0/\ts=[])\/∃j q,par=some j/\j<i/\sh[j]? = some q/\∀x∈ts,x∈q)->(ts=[]->1<=more/\new≠[])->
    Hold tFin { nx:=Iv (i+1),rt:=Q,bk:=Hold (pFrz 3 (pFrz 2 (pRet (pTup (zan (pVar 2) (zan (pVar 3) pNil)))))) { nx:=λx=>Q PV.non Kd.frz,rt:=Q,bk:=λx=>False,ct:=λx=>False },ct:=Iv (i+1) }
    [some (PV.lst (Yc PV.int cs),false),some (PV.lst (Yc PV.str L),false),some (PV.lst (Yc ltsP sh),true),some (PV.lst (Yc parP ps),true),some (PV.lst (Yc PV.str new),true),some (PV.int (0+↑i),false),some (PV.lst (ts.map PV.str),true),some (parP par,false),some (PV.int more,false)]:=by
   intro ts par more kv tn1 tn2 m0 m3 hp hemp;walk_at "go";rw[Xb,Xb];obtain⟨m,hm⟩:∃m:Int,m=(if 4-(ts.length:Int)<more then if (new.length:Int)<4-(ts.length:Int) then(new.length:Int) else 4-(ts.length:Int) else if (new.length:Int)<more then(new.length:Int) else more):=⟨_,rfl⟩
   rw[<- hm];have hm0:0<=m:=by split at hm<;>split at hm<;>lia
   have hm1:m<=new.length:=by split at hm<;>split at hm<;>lia
   have hm2:m+ts.length<=4:=by split at hm<;>split at hm<;>lia
   have hm3:ts=[]->1<=m:=λz=>by
    obtain⟨z1,z2⟩:=hemp z;have z3:0<new.length:=List.length_pos_iff.mpr z2;split at hm<;>split at hm<;>lia
   clear hm;walk_at "go";have cut1:cutP (new.map PV.str) none (some m)=(new.take m.toNat).map PV.str:=by rw[zpn _ hm0 (by rw[Xb];exact hm1),List.map_take]
   have cut2:cutP (new.map PV.str) (some m) none=(new.drop m.toNat).map PV.str:=by rw[zkh _ hm0 (by rw[Xb];exact hm1),List.map_drop]
   rw[cut1];simp only[Xb,Ya];refine⟨by rw[sizeLine_eq];lia,by rw[sizeLine_eq];lia,?_⟩;walk_at "go";walk_at "go";rw[cut2];obtain⟨T2,N2⟩:=T.snoc (m:=m.toNat) (ts:=ts) (par:=par) N (by rw[Xj,Ya];lia) (λz=>by
    rw[List.append_eq_nil_iff]at z;have z1:=hm3 z.2;have z2:=congrArg List.length z.1;rw[Ya,List.length_nil]at z2;lia) tn1 hp
   have e1:(sh++[new.take m.toNat++ts]).map ltsP=sh.map ltsP++[PV.tup ((new.take m.toNat).map PV.str++ts.map PV.str)]:=by rw[Xt];simp only[Xp,YL,ltsP,Xt]
   have e2:(ps++[par]).map parP=ps.map parP++[parP par]:=by rw[Xt];rfl
   refine⟨by rw[Xb,sizeLine_eq];lia,(hIv _ _).mpr ⟨sh++[new.take m.toNat++ts],ps++[par],new.drop m.toNat,_,_,_,_,by rw[e1,e2],T2,N2,λz=>by lia⟩⟩
  have rest:∀(ts:List Str) (par:Option Nat) (kv:Option (PV×Bool)),ts.Nodup->ts.length<=2->((par=none/\i=0/\ts=[])\/∃j q,par=some j/\j<i/\sh[j]? = some q/\∀x∈ts,x∈q)->
    Hold ztN { nx:=Iv (i+1),rt:=Q,bk:=Hold (pFrz 3 (pFrz 2 (pRet (pTup (zan (pVar 2) (zan (pVar 3) pNil)))))) { nx:=λx=>Q PV.non Kd.frz,rt:=Q,bk:=λx=>False,ct:=λx=>False },ct:=Iv (i+1) }
    [some (PV.lst (Yc PV.int cs),false),some (PV.lst (Yc PV.str L),false),some (PV.lst (Yc ltsP sh),true),some (PV.lst (Yc parP ps),true),some (PV.lst (Yc PV.str new),true),some (PV.int (0+↑i),false),some (PV.lst (ts.map PV.str),true),some (parP par,false),kv]:=by
   intro ts par kv tn1 tn2 hp;walk_at "go";refine⟨_,cget hi' (by lia),_,rfl,by decide,by decide,by decide,?_⟩;generalize mixed cs[i] 22=c22;have n1:=Yt c22 (show(3:Int)≠0 by decide);have n2:=Yh c22 (show(0:Int)<3 by decide);walk_at "go";have mid:∀v:PV,ts=[]->Hold (pSeq (pSet 8 (pC (PV.int 1)))
     (pIf (tBl (PL.t2 (pEq false) (PL.tB fLen (zan (pVar 4) pNil)) (pC (PV.int 0))))
      (pSet 6 (pLst (zan (PL.t2 pIx (PL.t2 pIx (pVar 2) (pVar 7)) (pC (PV.int 0))) pNil))) zcy))
    {nx:=Hold tFin { nx:=Iv (i+1),rt:=Q,bk:=Hold (pFrz 3 (pFrz 2 (pRet (pTup (zan (pVar 2) (zan (pVar 3) pNil)))))) { nx:=λx=>Q PV.non Kd.frz,rt:=Q,bk:=λx=>False,ct:=λx=>False },ct:=Iv (i+1) },
     rt:=Q,bk:=Hold (pFrz 3 (pFrz 2 (pRet (pTup (zan (pVar 2) (zan (pVar 3) pNil)))))) { nx:=λx=>Q PV.non Kd.frz,rt:=Q,bk:=λx=>False,ct:=λx=>False },ct:=Iv (i+1) }
    [some (PV.lst (Yc PV.int cs),false),some (PV.lst (Yc PV.str L),false),some (PV.lst (Yc ltsP sh),true),some (PV.lst (Yc parP ps),true),some (PV.lst (Yc PV.str new),true),some (PV.int (0+↑i),false),
     some (PV.lst (Yc PV.str ts),true),some (parP par,false),some (v,false)]:=by
    intro v hts;subst hts;walk_at "go";walk_at "go";rw[Xb];refine ite2 (λe=>?_) (λe=>?_)
    ·walk_at "go";rcases hp with ⟨_,hi0,_⟩ | ⟨j,p,rfl,hj,hq,_⟩
     ·have:=hN0 hi0;rw[this]at e;lia
     ·have hpm:=Xr hq;have hne:=T.ne p hpm;have hpl0:0<p.length:=List.length_pos_iff.mpr hne;have hat:atI (sh.map ltsP) (j:Int)=some (ltsP p):=zbw (by rw[Xk,hq];rfl);have hat2:atI (p.map PV.str) 0=some (.str p[0]):=zbw (j:=0) (by simp[hpl0]);refine⟨_,⟨_,rfl,hat⟩,_,.inl ⟨_,.inr rfl,hat2⟩,by decide,?_⟩;exact fin [p[0]] (some j) 1 none (by simp) (by simp) (by decide) (by decide) (.inr ⟨j,p,rfl,hj,hq,λx hx=>by rw[Xq]at hx;subst hx;exact YC _⟩) λz=>by cases z
    ·walk_at "go";exact fin [] par 1 none List.nodup_nil (XT _) (by decide) (by decide) hp λ_=>⟨by decide,λz=>e (by rw[z];rfl)⟩
   have plain0:∀v:Int,ts≠[]\/(1<=v/\new≠[])->0<=v->v<=3->Hold zcy
    {nx:=Hold tFin { nx:=Iv (i+1),rt:=Q,bk:=Hold (pFrz 3 (pFrz 2 (pRet (pTup (zan (pVar 2) (zan (pVar 3) pNil)))))) { nx:=λx=>Q PV.non Kd.frz,rt:=Q,bk:=λx=>False,ct:=λx=>False },ct:=Iv (i+1) },
     rt:=Q,bk:=Hold (pFrz 3 (pFrz 2 (pRet (pTup (zan (pVar 2) (zan (pVar 3) pNil)))))) { nx:=λx=>Q PV.non Kd.frz,rt:=Q,bk:=λx=>False,ct:=λx=>False },ct:=Iv (i+1) }
    [some (PV.lst (Yc PV.int cs),false),some (PV.lst (Yc PV.str L),false),some (PV.lst (Yc ltsP sh),true),some (PV.lst (Yc parP ps),true),some (PV.lst (Yc PV.str new),true),some (PV.int (0+↑i),false),
     some (PV.lst (Yc PV.str ts),true),some (parP par,false),some (PV.int v,false)]:=by
    intro v hv h0 h3;walk_at "go";exact fin ts par v none tn1 tn2 h0 h3 hp λz=>hv.elim (λy=>absurd z y) id
   refine ite2 (λe1=>ite2 (λe2=>?_) (λe2=>ite2 (λe3=>?_) (λe3=>?_))) (λe1=>?_)
   ·exact mid _ (Yq.mp (by rw[Xb]at e1;lia))
   ·exact mid _ (Yq.mp (by rw[Xb]at e1;lia))
   ·exact plain0 _ (.inr ⟨by lia,λz=>e3 (by rw[z];rfl)⟩) (by lia) (by lia)
   ·exact plain0 _ (.inl λz=>e1 (by rw[z];rfl)) (by lia) (by lia)
  walk_at "go";refine⟨XT _,?_⟩;walk_at "go";walk_at "go";refine ite2 (λe1=>?_) (λe1=>?_)
  ·walk_at "go";refine⟨_,cget hi' (by lia),_,rfl,by decide,by decide,by lia,?_⟩;have n1:=Yt (mixed cs[i] 20) (show(0+(i:Int))≠0 by lia);have n2:=Yh (mixed cs[i] 20) (show(0:Int)<0+(i:Int) by lia);generalize mixed cs[i] 20 % (0+(i:Int))=pj at *;obtain⟨j,rfl⟩:∃j:Nat,pj=j:=⟨pj.toNat,by lia⟩;have hj:j<sh.length:=by lia
   have hat:atI (sh.map ltsP) (j:Int)=some (ltsP sh[j]):=zbw (by simp[hj]);have hjm:=YC hj;have hj4:=(T.pats.2 _ hjm).1;have n3:=Yt (mixed cs[i] 21) (show(3:Int)≠0 by decide);have n4:=Yh (mixed cs[i] 21) (show(0:Int)<3 by decide);walk_at "go";refine⟨_,cget hi' (by lia),_,hat,_,cget hi' (by lia),_,rfl,by decide,by decide,by decide,⟨_,rfl⟩,_,.inr rfl,by rw[Xb];lia,λtold left hp hl=>?_⟩;obtain⟨ts,rfl,hts⟩:=zra hp;rw[Xb,Xb]at hl;refine rest ts (some j) k4 ?_ (by lia) (.inr ⟨j,sh[j],rfl,by lia,by simp[hj],hts⟩);have hn:=T.nd _ hjm;have hp2:((ts.map PV.str)++left).Nodup:=hp.nodup_iff.mpr (zit.mpr hn);have hp3:=(List.nodup_append.mp hp2).1;exact zit.mp hp3
  ·walk_at "go";exact rest [] none k4 List.nodup_nil (XT _) (.inl ⟨rfl,by lia,rfl⟩)
 ·intro ρ hI;obtain⟨sh,ps,new,k1,k2,k3,k4,rfl,T,N,hN0⟩:=(hIv _ _).mp hI;rw[zbK]at T;walk_at "go";exact⟨by decide,q sh ps (by simpa using T)⟩
end
noncomputable def zcq (n:Nat)(ps:List (Option Nat)):List (Option Nat):=ps.reverse.map (Option.map λp=>n-1-p)
noncomputable def zbx:PF:=λds Q=>∃(sh:List (List Str))(ps:List (Option Nat)),ds=[shpP sh,zco ps]/\sh.length=ps.length/\0<ps.length/\ps.length<=100/\(∀p,some p∈ps->p<ps.length)/\Q (.tup [shpP sh.reverse,zco (zcq sh.length ps)]) .frz
theorem zjf:zbs zbx:=λds Q Q' m q170q=>by obtain⟨a,b,e,h1,h2,h3,h4,q⟩:=q170q;exact⟨a,b,e,h1,h2,h3,h4,m _ _ q⟩
noncomputable def zdO:PF:=λds Q=>∃c:Int,ds=[.int c]/\∀x y z:Int,Q (.lst [.int x,.int y,.int z]) .new
theorem znf:zbs zdO:=λds Q Q' m q171q=>by obtain⟨c,e,q⟩:=q171q;exact⟨c,e,λx y z=>m _ _ (q x y z)⟩
section
variable {P:Program}{w:World}{K:Xa}{mg:Str->Option Value}{base:Heap}
theorem zkj:zau ["_law_shape","_law_parents","_law_last","_law_told","_law_parent"] ["_law_shape","_law_parents"] (zac zcZ):=⟨rfl,rfl,rfl,by decide +kernel,rfl,by decide +kernel,by decide +kernel⟩
theorem zng {f:Addr}{fd:FuncData}(F:Fun K "_law_turned" "_law_turned" zcZ f fd) (B:Bl mg):FnOk P w K mg base CX0 1 f fd ["_law_shape","_law_parents"] (spP K zbx):=by
 refine zaB F zkj (λds Q q172q=>by obtain⟨a,b,e,_⟩:=q172q;rw[e];rfl) (λcdv A outer s H E hr=>?_);have hu:(A.deeper (envOfC "_law_turned" (zac zcZ) s.heap.objs.size f cdv)).units+16<cLine:=by have q:=hr.units;lia
 have nd:=zkj.nd;refine⟨_,(zae (zah (i:=2) nd rfl (Or.inl rfl) (zgv (zbr rfl B.len (zaa (zab 0) zad)) zag))
   (zae (zah (i:=3) nd rfl (Or.inl rfl) (zbp zad))
   (zae (zbL rfl PassesOwn.never (zbg (zmk (zab 1))) (zai (i:=4) nd rfl (Or.inl rfl)) (zaf (zce (ziV (zab 4) zeb) (zaf (zaU (zaN 3 zeb))) (zaf (zaU (zaN 3 (zgv (zab 2) (zab 4))))))))
   (zaf (zdw 3 (zaw (zjB (zaa (zmk (zab 0)) (zaa (zab 3) zad))))))))),λds Q h=>?_⟩
 obtain⟨sh,ps,rfl,hl,h0,h1,hp,q⟩:=h;have hsz:=sizeLine_eq;walk_at "pu";walk_at "auto";have hln:∀i,(zcq sh.length ps)[i]? = (ps.reverse[i]?).map (Option.map λp=>sh.length-1-p):=λi=>by unfold zcq;rw[Xk]
 obtain⟨Iv,hIv⟩:∃Iv:Nat->PEnv->Prop,∀i ρ,Iv i ρ↔∃kv:Option (PV×Bool),ρ=[some (PV.lst (sh.map ltsP),false),some (PV.lst (ps.map parP),false),some (PV.int (((sh.map ltsP).length:Int)-1),false),some (PV.lst (((zcq sh.length ps).take i).map parP),true),kv]:=⟨_,λ_ _=>Iff.rfl⟩;refine⟨Iv,(hIv _ _).mpr ⟨none,rfl⟩,?_,?_⟩
 ·intro i d ρ hd hI;obtain⟨kv,rfl⟩:=(hIv _ _).mp hI;rw[<- List.map_reverse,Xk]at hd;cases ho:ps.reverse[i]? with
  | none=>rw[ho]at hd;cases hd
  | some o=>
   rw[ho]at hd;cases hd;have ht:=hln i;rw[ho]at ht;have hi:i<ps.length:=by
    have:=(Xc.mp ho).1
    rwa [Xx]at this
   have hlen:(((zcq sh.length ps).take i).map parP).length<=100:=by
    rw[Xb,Ya];lia
   have e2:=take_snoc ht;cases o with
   | none=>
    walk_at "go";refine ite2 (λe=>?_) (λe=>absurd rfl e);walk_at "go";refine⟨by lia,(hIv _ _).mpr ⟨some (parP none,false),?_⟩⟩;rw[<- e2,Xt];rfl
   | some p=>
    have hpl:=hp p (Yu.mp (Xr ho));walk_at "go";refine ite2 (λe=>nomatch e) (λe=>?_);walk_at "go";refine⟨by lia,_,rfl,(hIv _ _).mpr ⟨some (parP (some p),false),?_⟩⟩;rw[<- e2,Xt,Xb];have e3:(sh.length:Int)-1-(p:Int)=((sh.length-1-p:Nat):Int):=by lia
    rw[e3];rfl
 ·intro ρ hI;obtain⟨kv,rfl⟩:=(hIv _ _).mp hI;walk_at "go";refine⟨by lia,?_⟩;rw[Xv (by unfold zcq;simp),<- List.map_reverse];exact q
theorem zpp:zau ["_law_cell","_law_first"] ["_law_cell"] (zac zhi):=⟨rfl,rfl,rfl,by decide +kernel,rfl,by decide +kernel,by decide +kernel⟩
theorem zrd {f fM:Addr}{fd fdM:FuncData}(F:Fun K "_law_cell_pool" "_law_cell_pool" zhi f fd) (Mixed:Fx K mg "_law_mixed" zcF ["_law_cell","_law_k"] fM fdM) (B:Bl mg):FnOk P w K mg base CX0 2 f fd ["_law_cell"] (spP K zdO):=by
 have GMixed:FnOk P w K mg base CX0 1 fM fdM ["_law_cell","_law_k"] (spP K zbd):=zdX Mixed.fn B;refine zaB F zpp (λds Q q173q=>by obtain⟨c,e,_⟩:=q173q;rw[e];rfl) (λcdv A outer s H E hr=>?_);have hu:(A.deeper (envOfC "_law_cell_pool" (zac zhi) s.heap.objs.size f cdv)).units+16<cLine:=by have q:=hr.units;lia
 have nd:=zpp.nd;refine⟨_,(zae (zah (i:=1) nd rfl (Or.inl rfl) (zgv (zbz (zde (zde (zao GMixed zaW hr rfl Mixed.mg Mixed.fn.kp Mixed.bd (zaa (zab 0) (zaa zag zad))) (zao GMixed zaW hr rfl Mixed.mg Mixed.fn.kp Mixed.bd (zaa (zab 0) (zaa zag zad)))) (zao GMixed zaW hr rfl Mixed.mg Mixed.fn.kp Mixed.bd (zaa (zab 0) (zaa zag zad)))) (zde zag (zfi zag zag))) (zfi zag zag)))
   (zae (zce (zhR (zab 0) (zfi zag zag)) (zaf (zah (i:=1) nd rfl (Or.inl rfl) (zgv (zbz (zfN (zab 0) zag) (zde zag (zfi zag zag))) (zfi zag zag)))) zaR)
   (zae (zce (zeC hu (zbz (zab 0) zag) zag) (zaf (zah (i:=1) nd rfl (Or.inl rfl) (zgv zag (zbz (zfN (zab 0) zag) zag)))) zaR)
   (zaf (zaw (zbp (zaa (zab 1) (zaa (zbG (zbG (zab 1) zag) (zbz (zao GMixed zaW hr rfl Mixed.mg Mixed.fn.kp Mixed.bd (zaa (zab 0) (zaa zag zad))) zag)) (zaa (zbG (zab 1) zag) zad))))))))),λds Q h=>?_⟩
 obtain⟨c,rfl,q⟩:=h;walk_at "pu";have a0:=zhj c 30;have a1:=zhk c 30;have b0:=zhj c 31;have b1:=zhk c 31;have c0:=zhj c 32;have c1:=zhk c 32;have p26:(10:Int) ^ Int.toNat 26=100000000000000000000000000:=by decide
 have p8:(10:Int) ^ Int.toNat 8=100000000:=by decide
 refine⟨by decide,by decide,by decide,by decide,.inl ⟨by lia,by lia⟩,by decide,by decide,.inr ⟨by lia,by lia⟩,⟨by decide,by decide,by decide⟩,.inl ⟨by decide,by decide⟩,by decide,⟨by decide,by decide,by decide⟩,?_⟩;have fin:∀x:Int,Hold (pRet (pLst (zan (pVar 1) (zan (pAdd (pAdd (pVar 1) (pC (PV.int 1))) (pMod (zbc zbd (zan (pVar 0) (zan (pC (PV.int 33)) pNil))) (pC (PV.int 5)))) (zan (pAdd (pVar 1) (pC (PV.int 9))) pNil)))))
   {nx:=λx=>Q PV.non Kd.frz,rt:=Q,bk:=λx=>False,ct:=λx=>False } [some (PV.int c,false),some (PV.int x,false)]:=λx=>by
  walk_at "go";walk_at "auto";exact q _ _ _
 generalize mixed c 30*mixed c 31*mixed c 32 % (2*10 ^ Int.toNat 26)-10 ^ Int.toNat 26=x0;have two:∀x:Int,Hold (pSeq (pIf (tBl (t2 (pEq false) (pMod (pVar 0) (pC (PV.int 3))) (pC (PV.int 0)))) (pSet 1 (pSub (pC (PV.int 0)) (pMod (pDiv (pVar 0) (pC (PV.int 3))) (pC (PV.int 2))))) zcy)
   (pRet (pLst (zan (pVar 1) (zan (pAdd (pAdd (pVar 1) (pC (PV.int 1))) (pMod (zbc zbd (zan (pVar 0) (zan (pC (PV.int 33)) pNil))) (pC (PV.int 5)))) (zan (pAdd (pVar 1) (pC (PV.int 9))) pNil))))))
   {nx:=λx=>Q PV.non Kd.frz,rt:=Q,bk:=λx=>False,ct:=λx=>False } [some (PV.int c,false),some (PV.int x,false)]:=λx=>by
  walk_at "go";refine⟨by decide,ite2 (λe=>?_) (λe=>?_)⟩
  ·walk_at "go";walk_at "auto";exact q _ _ _
  ·walk_at "go";exact fin _
 walk_at "go";refine⟨⟨by decide,by decide,by decide⟩,ite2 (λe=>?_) (λe=>?_)⟩
 ·walk_at "go";refine⟨?_,⟨by decide,by decide,by decide⟩,.inl ⟨by decide,by decide⟩,by decide,⟨by decide,by decide,by decide⟩,?_⟩
  ·walk_at "side"
  exact two _
 ·walk_at "go";exact two _
noncomputable def zcG:PF:=λds Q=>∃i:Int,ds=[.int i]/\Q (.bl true) .frz
theorem zgG:zbs zcG:=λds Q Q' m q174q=>by obtain⟨i,e,q⟩:=q174q;exact⟨i,e,m _ _ q⟩
theorem znh:zau ["_law_found"] ["_law_found"] (zac zeI):=⟨rfl,rfl,rfl,by decide +kernel,rfl,by decide +kernel,by decide +kernel⟩
theorem zoC {f:Addr}{fd:FuncData}(F:Fun K "_law_whole" "_law_whole" zeI f fd) (B:Bl mg):FnOk P w K mg base CX0 1 f fd ["_law_found"] (spP K zcG):=by
 refine zaB F znh (λds Q q175q=>by obtain⟨c,e,_⟩:=q175q;rw[e];rfl) (λcdv A outer s H E hr=>?_);have hu:(A.deeper (envOfC "_law_whole" (zac zeI) s.heap.objs.size f cdv)).units+16<cLine:=by have q:=hr.units;lia
 have nd:=znh.nd;refine⟨_,(zaf (zaw (zsg (zmj (K:=K) rfl rfl B.isi (zaa (zab 0) (zaa (zqe rfl B.int bInt) zad))) (zsf (zse (zmj (K:=K) rfl rfl B.isi (zaa (zab 0) (zaa (zqe rfl B.bool ztB) zad)))))))),λds Q h=>?_⟩;obtain⟨i,rfl,q⟩:=h;walk_at "pu";exact⟨true,zjL,iteT ⟨false,zhT,q⟩⟩
end
noncomputable def rowP (r:List Int):PV:=.tup (r.map PV.int)
noncomputable def zcH:PF:=λds Q=>∃ss:List (List Int),ds=[.lst (ss.map rowP)]/\(∀r∈ss,r≠[])/\ss.length<64/\∀zs:List (List Int),(∀r∈zs,r∈ss)->zs.length<=ss.length->Q (.lst (zs.map rowP)) .new
theorem zkY:zbs zcH:=λds Q Q' m q176q=>by obtain⟨a,e,h1,h2,q⟩:=q176q;exact⟨a,e,h1,h2,λz x y=>m _ _ (q z x y)⟩
noncomputable def zat:PF:=λds Q=>∃(cs:List Int)(ls:List Str)(x y z:Int),ds=[.lst (cs.map PV.int),ltsP ls,.lst [.int x,.int y,.int z]]/\ls≠[]/\ls.length<=100/\cs.length<64/\∀zs:List (List Int),(∀r∈zs,r.length=ls.length)->zs.length<=cs.length->Q (.lst (zs.map rowP)) .new
theorem zgm:zbs zat:=λds Q Q' m q177q=>by obtain⟨a,b,c,d,e,f,h1,h2,h3,q⟩:=q177q;exact⟨a,b,c,d,e,f,h1,h2,h3,λz x y=>m _ _ (q z x y)⟩
theorem zcx:∀l:List Int,zaG (l.map PV.int)=true
 | []=>rfl
 | x::l=>by simp only[Xp,zaG,zbD,zcx l,Bool.and_self]
theorem zfe:∀l:List (List Int),zaG (l.map rowP)=true
 | []=>rfl
 | x::l=>by simp only[Xp,zaG,rowP,zbD,zcx x,zfe l,Bool.and_self]
theorem ziu (n:Nat)(r:List Int):PL.plain (n+1) (rowP r)=true:=by
 simp only[rowP,PL.plain,XE];intro d hd;obtain⟨x,_,rfl⟩:=XA.mp hd;cases n<;>rfl
section
variable {P:Program}{w:World}{K:Xa}{mg:Str->Option Value}{base:Heap}
theorem zni:zau ["_law_rows","_law_told","_law_row"] ["_law_rows"] (zac zec):=⟨rfl,rfl,rfl,by decide +kernel,rfl,by decide +kernel,by decide +kernel⟩
theorem zoD {f:Addr}{fd:FuncData}(F:Fun K "_law_lines" "_law_lines" zec f fd) (B:Bl mg):FnOk P w K mg base CX0 1 f fd ["_law_rows"] (spP K zcH):=by
 refine zaB F zni (λds Q q178q=>by obtain⟨a,e,_⟩:=q178q;rw[e];rfl) (λcdv A outer s H E hr=>?_);have hu:(A.deeper (envOfC "_law_lines" (zac zec) s.heap.objs.size f cdv)).units+16<cLine:=by have q:=hr.units;lia
 have nd:=zni.nd;refine⟨_,(zae (zah (i:=1) nd rfl (Or.inl rfl) (zbp zad))
   (zae (zbL rfl PassesOwn.never (zbg (zka rfl B.sorted (zaa (zab 0) zad))) (zai (i:=2) nd rfl (Or.inl rfl)) (zaf (zce (PuW.t (zgw (zeC hu (zbr rfl B.len (zaa (zab 1) zad)) zag) (zgV (zhQ hu (zax (zab 1) (zsL zag)) (zab 2))))) (zaf (zaU (zaN 1 (zab 2)))) zaR)))
   (zaf (zaw (zab 1))))),λds Q h=>?_⟩
 obtain⟨ss,rfl,hn,h64,q⟩:=h;have hsz:=sizeLine_eq;walk_at "pu";walk_at "auto";refine⟨ss,rfl,hn,λys hys hym=>?_⟩;obtain⟨Iv,hIv⟩:∃Iv:Nat->PEnv->Prop,∀i ρ,Iv i ρ↔∃(zs:List (List Int)) (kv:Option (PV×Bool)),ρ=[some (PV.lst (ss.map rowP),false),some (PV.lst (zs.map rowP),true),kv]/\(∀r∈zs,r∈ss)/\zs.length<=i:=⟨_,λ_ _=>Iff.rfl⟩;refine⟨Iv,(hIv _ _).mpr ⟨[],none,rfl,λ_ h=>(nomatch h),XT _⟩,?_,?_⟩
 ·intro i d ρ hd hI;obtain⟨zs,kv,rfl,hz,hl⟩:=(hIv _ _).mp hI;have hmem:=Xr hd;obtain⟨r,hr2,rfl⟩:=XA.mp hmem;have hr3:r∈ss:=hym r hr2;have hi:i<ss.length:=by
   have h1:=(Xc.mp hd).1;rw[Xb,hys]at h1;exact h1
  have app:Hold (zbq (mApp 1 (pVar 2))) { nx:=Iv (i+1),rt:=Q,bk:=Hold (pRet (pVar 1)) { nx:=λx=>Q PV.non Kd.frz,rt:=Q,bk:=λx=>False,ct:=λx=>False },ct:=Iv (i+1) }
    [some (PV.lst (ss.map rowP),false),some (PV.lst (zs.map rowP),true),some (PV.tup (r.map PV.int),false)]:=by
   walk_at "go";refine⟨by rw[Xb];lia,(hIv _ _).mpr ⟨zs++[r],some (PV.tup (r.map PV.int),false),by rw[Xt];rfl,λy hy=>?_,by rw[Xj,XV];lia⟩⟩;rcases XM.mp hy with hy | hy
   ·exact hz y hy
   ·rw[Xq]at hy;rw[hy];exact hr3
  walk_at "go";refine ite2 (λe1=>app) (λe1=>?_);rw[Xb]at e1;have h0:0<zs.length:=by lia
  obtain⟨z1,z2,hzz⟩:∃(a:List (List Int)) (b:List Int),zs=a++[b]:=⟨zs.dropLast,zs.getLast (List.length_pos_iff.mp h0),(List.dropLast_concat_getLast _).symm⟩;have hat:atI (zs.map rowP) (-1)=some (rowP z2):=by
   rw[hzz,Xt];exact znO _ _
  have hpl:∀(n:Nat) (l:List Int),(l.map PV.int).all (PL.plain n)=true:=λn l=>by
   rw[XE];intro d hd;obtain⟨x,_,rfl⟩:=XA.mp hd;cases n<;>rfl
  refine⟨_,hat,ziu 5 _,hpl _ _,ite2 (λ_=>app) (λ_=>?_)⟩;walk_at "go";exact(hIv _ _).mpr ⟨zs,some (PV.tup (r.map PV.int),false),rfl,hz,by lia⟩
 ·intro ρ hI;obtain⟨zs,kv,rfl,hz,hl⟩:=(hIv _ _).mp hI;rw[Xb,hys]at hl;walk_at "go";exact q zs hz hl
theorem zge:zau ["_law_cells","_law_pattern","_law_pool","_law_told","_law_cell"] ["_law_cells","_law_pattern","_law_pool"] (zac zbe):=⟨rfl,rfl,rfl,by decide +kernel,rfl,by decide +kernel,by decide +kernel⟩
theorem ziv {f fM fL:Addr}{fd fdM fdL:FuncData}(F:Fun K "_law_drawn_rows" "_law_drawn_rows" zbe f fd) (Mixed:Fx K mg "_law_mixed" zcF ["_law_cell","_law_k"] fM fdM) (Lines:Fx K mg "_law_lines" zec ["_law_rows"] fL fdL) (B:Bl mg):FnOk P w K mg base CX0 2 f fd ["_law_cells","_law_pattern","_law_pool"] (spP K zat):=by
 have GMixed:FnOk P w K mg base CX0 1 fM fdM ["_law_cell","_law_k"] (spP K zbd):=zdX Mixed.fn B;have GLines:FnOk P w K mg base CX0 1 fL fdL ["_law_rows"] (spP K zcH):=zoD Lines.fn B;refine zaB F zge (λds Q q179q=>by obtain⟨a,b,x,y,z,e,_⟩:=q179q;rw[e];rfl) (λcdv A outer s H E hr=>?_);have hu:(A.deeper (envOfC "_law_drawn_rows" (zac zbe) s.heap.objs.size f cdv)).units+16<cLine:=by have q:=hr.units;lia
 have nd:=zge.nd;refine⟨_,(zae (zah (i:=3) nd rfl (Or.inl rfl) (zbp zad))
   (zae (zbL rfl PassesOwn.never (zbg (zab 0)) (zai (i:=4) nd rfl (Or.inr rfl)) (zaf (zaU (zaN 3 (zfs rfl B.tuple (zaa (zbM (N:=["_law_k","_law_pool","_law_cell"]) (k:=1) (js:=[2,4]) rfl (zeU (sup:=zac zbe) (XN:=["_law_cells","_law_pattern","_law_pool","_law_told","_law_cell"]) rfl rfl (by decide +kernel)) (by decide) (zbJ (by decide)) (zbl rfl B.range (zaa (zbr rfl B.len (zaa (zab 1) zad)) zad)) ⟨λ_ _ _ _ _=>(zai (i:=0) (by show(["_law_k","_law_pool","_law_cell"]:List Str).Nodup;decide +kernel) rfl (Or.inl rfl)),λ_ _ _ _ _=>zcc,λ_ _ _ _ _=>(zax (zab 1) (zbz (zao GMixed zaW hr rfl Mixed.mg Mixed.fn.kp Mixed.bd (zaa (zab 2) (zaa (zbG zag (zab 0)) zad))) zag))⟩) zad))))))
   (zaf (zaw (zao GLines zkY hr rfl Lines.mg Lines.fn.kp Lines.bd (zaa (zab 3) zad)))))),λds Q h=>?_⟩
 obtain⟨cs,ls,x,y,z,rfl,h0,h1,h2,q⟩:=h;have hsz:=sizeLine_eq;walk_at "pu";walk_at "auto";obtain⟨Iv,hIv⟩:∃Iv:Nat->PEnv->Prop,∀i ρ,Iv i ρ↔∃(zs:List (List Int)) (kv:Option (PV×Bool)),ρ=[some (PV.lst (cs.map PV.int),false),some (PV.tup (ls.map PV.str),false),some (PV.lst [PV.int x,PV.int y,PV.int z],false),some (PV.lst (zs.map rowP),true),kv]/\(∀r∈zs,r.length=ls.length)/\zs.length=i:=⟨_,λ_ _=>Iff.rfl⟩;refine⟨Iv,(hIv _ _).mpr ⟨[],none,rfl,λ_ h=>(nomatch h),rfl⟩,?_,?_⟩
 ·intro i d ρ hd hI;obtain⟨zs,kv,rfl,hz,hl⟩:=(hIv _ _).mp hI;rw[Xk]at hd;cases hc:cs[i]? with
  | none=>rw[hc]at hd;cases hd
  | some c=>
   rw[hc]at hd;cases hd;have hi:=(Xc.mp hc).1;walk_at "go";rw[Xb,Xb];refine⟨by lia,by lia,by lia,by rw[zbK];lia,λi out=>∃l:List Int,out=l.map PV.int/\l.length=i,⟨[],rfl,rfl⟩,?_,?_⟩
   ·rintro k d out hd hk ⟨l,rfl,hlk⟩;obtain⟨hk2,rfl⟩:=zcE hd;have hk3:k<ls.length:=by lia
    have n1:=Yt (mixed c (40+(0+(k:Int)))) (show(3:Int)≠0 by decide);have n2:=Yh (mixed c (40+(0+(k:Int)))) (show(0:Int)<3 by decide);refine⟨_,rfl,by lia,by lia,by decide,?_⟩;generalize mixed c (40+(0+(k:Int))) % 3=m at n1 n2 ⊢;have hm:m=0\/m=1\/m=2:=by lia
    rcases hm with rfl | rfl | rfl
    ·exact⟨_,rfl,l++[x],by rw[Xt];rfl,by rw[Xj,hlk];rfl⟩
    ·exact⟨_,rfl,l++[y],by rw[Xt];rfl,by rw[Xj,hlk];rfl⟩
    ·exact⟨_,rfl,l++[z],by rw[Xt];rfl,by rw[Xj,hlk];rfl⟩
   ·rintro out - ⟨l,rfl,hlk⟩;rw[zbK]at hlk;refine(hIv _ _).mpr ⟨zs++[l],some (PV.int c,false),by rw[Xt];rfl,λr hr=>?_,by rw[Xj,hl];rfl⟩;rcases XM.mp hr with hr | hr
    ·exact hz r hr
    ·rw[Xq]at hr;rw[hr];lia
 ·intro ρ hI;obtain⟨zs,kv,rfl,hz,hl⟩:=(hIv _ _).mp hI;rw[Xb]at hl;walk_at "go";refine⟨zs,rfl,λr hr e=>h0 (Yq.mp ?_),by lia,λws hw hwl=>⟨zfe ws,q ws (λr hr=>hz r (hw r hr)) (by lia)⟩⟩;rw[<- hz r hr,e];rfl
end
noncomputable def tabP (t:List (List Int)):PV:=.lst (t.map rowP)
noncomputable def Good (sh:List (List Str))(ps:List (Option Nat)):Prop:=∃(L:List Str)(n:Nat)(s0:List (List Str))(p0:List (Option Nat)),zaI L n s0 p0/\1<=n/\n<=4/\L.length=6/\((sh=s0/\ps=p0)\/(sh=s0.reverse/\ps=zcq n p0))
structure Fits (sh:List (List Str))(ts:List (List (List Int))):Prop where
 len:ts.length<=sh.length
 few:∀t∈ts,t.length<=4
 row:∀(i:Nat) (t:List (List Int)),ts[i]? = some t->∀r∈t,r.length=(sh.getD i []).length
noncomputable def zcA:PF:=λds Q=>∃(cs:List Int)(a:Nat),ds=[.lst (cs.map PV.int),.int a,.int 4]/\a<cs.length/\cs.length<=64/\∀(sh:List (List Str))(ps:List (Option Nat))(ts:List (List (List Int)))(b:Nat),Good sh ps->Fits sh ts->ts.length=sh.length->a<b->Q (.tup [shpP sh,zco ps,.lst (ts.map tabP),.int b]) .frz
theorem zkZ:zbs zcA:=λds Q Q' m q180q=>by obtain⟨a,b,e,h1,h2,q⟩:=q180q;exact⟨a,b,e,h1,h2,λsh ps ts b h3 h4 h5 h6=>m _ _ (q sh ps ts b h3 h4 h5 h6)⟩
section
variable {P:Program}{w:World}{K:Xa}{mg:Str->Option Value}{base:Heap}
theorem znj:zau ["_law_cells","_law_at","_law_most","_law_head","_law_many","_law_shape","_law_parents","_law_pool","_law_rows","_law_k","_law_lines_here"] ["_law_cells","_law_at","_law_most"] (zac zeJ):=⟨rfl,rfl,rfl,by decide +kernel,rfl,by decide +kernel,by decide +kernel⟩
theorem zoE {f f1 f2 f3 f4 f5 f6 f7 f8 f9:Addr}{fd fd1 fd2 fd3 fd4 fd5 fd6 fd7 fd8 fd9:FuncData}(F:Fun K "_law_made" "_law_made" zeJ f fd) (Mixed:Fx K mg "_law_mixed" zcF ["_law_cell","_law_k"] f1 fd1) (Lines:Fx K mg "_law_lines" zec ["_law_rows"] f2 fd2)
  (Picked:Fx K mg "_law_picked" zcM ["_law_cell","_law_some","_law_many"] f3 fd3) (Alphabet:Fx K mg "_law_alphabet" zbO ["_law_cell"] f4 fd4) (Tree:Fx K mg "_law_tree" zhh ["_law_cells","_law_letters_here"] f5 fd5) (Turned:Fx K mg "_law_turned" zcZ ["_law_shape","_law_parents"] f6 fd6)
  (Pool:Fx K mg "_law_cell_pool" zhi ["_law_cell"] f7 fd7) (DrawnRows:Fx K mg "_law_drawn_rows" zbe ["_law_cells","_law_pattern","_law_pool"] f8 fd8) (FilledUp:Fx K mg "_law_filled_up" zbQ ["_law_cells","_law_at","_law_many"] f9 fd9) (B:Bl mg):FnOk P w K mg base CX0 4 f fd ["_law_cells","_law_at","_law_most"] (spP K zcA):=by
 have GMixed:FnOk P w K mg base CX0 3 f1 fd1 ["_law_cell","_law_k"] (spP K zbd):=(zdX Mixed.fn B).mono (by decide);have GAlphabet:FnOk P w K mg base CX0 3 f4 fd4 ["_law_cell"] (spP K zay):=(zjd Alphabet.fn Mixed B).mono (by decide);have GTree:FnOk P w K mg base CX0 3 f5 fd5 ["_law_cells","_law_letters_here"] (spP K zdm):=zrc Tree.fn Mixed Picked B;have GTurned:FnOk P w K mg base CX0 3 f6 fd6 ["_law_shape","_law_parents"] (spP K zbx):=(zng Turned.fn B).mono (by decide);have GPool:FnOk P w K mg base CX0 3 f7 fd7 ["_law_cell"] (spP K zdO):=(zrd Pool.fn Mixed B).mono (by decide);have GDrawnRows:FnOk P w K mg base CX0 3 f8 fd8 ["_law_cells","_law_pattern","_law_pool"] (spP K zat):=(ziv DrawnRows.fn Mixed Lines B).mono (by decide);have GFilledUp:FnOk P w K mg base CX0 3 f9 fd9 ["_law_cells","_law_at","_law_many"] (spP K zaz):=(zje FilledUp.fn B).mono (by decide);refine zaB F znj (λds Q q181q=>by obtain⟨a,b,e,_⟩:=q181q;rw[e];rfl) (λcdv A outer s H E hr=>?_);have hu:(A.deeper (envOfC "_law_made" (zac zeJ) s.heap.objs.size f cdv)).units+16<cLine:=by have q:=hr.units;lia
 have nd:=znj.nd;refine⟨_,(zae (zah (i:=3) nd rfl (Or.inl rfl) (zax (zab 0) (zab 1)))
   (zae (zah (i:=4) nd rfl (Or.inl rfl) (zbG zag (zbz (zab 3) (zab 2))))
   (zae (ziU (zao GTree zne hr rfl Tree.mg Tree.fn.kp Tree.bd (zaa (zao GFilledUp zeL hr rfl FilledUp.mg FilledUp.fn.kp FilledUp.bd (zaa (zab 0) (zaa (zbG (zab 1) zag) (zaa (zab 4) zad)))) (zaa (zao GAlphabet zhl hr rfl Alphabet.mg Alphabet.fn.kp Alphabet.bd (zaa (zab 3) zad)) zad))) (zej (n:=2) rfl (zaH (zai (i:=5) nd rfl (Or.inl rfl)) (zaH (zai (i:=6) nd rfl (Or.inl rfl)) zcT))))
   (zae (zce (zeC hu (zbz (zfN (zab 3) zag) zag) zag) (zaf (ziU (zao GTurned zjf hr rfl Turned.mg Turned.fn.kp Turned.bd (zaa (zab 5) (zaa (zab 6) zad))) (zej (n:=2) rfl (zaH (zai (i:=5) nd rfl (Or.inl rfl)) (zaH (zai (i:=6) nd rfl (Or.inl rfl)) zcT))))) zaR)
   (zae (zah (i:=7) nd rfl (Or.inl rfl) (zao GPool znf hr rfl Pool.mg Pool.fn.kp Pool.bd (zaa (zfN (zab 3) zag) zad)))
   (zae (zah (i:=1) nd rfl (Or.inl rfl) (zbG (zbG (zab 1) zag) (zab 4)))
   (zae (zah (i:=8) nd rfl (Or.inl rfl) (zbp zad))
   (zae (zbL rfl PassesOwn.never (zbl rfl B.range (zaa (zab 4) zad)) (zai (i:=9) nd rfl (Or.inl rfl)) (zae (zah (i:=10) nd rfl (Or.inl rfl) (zax (zbp (zaa zag (zaa zag (zaa zag (zaa zag zad))))) (zbz (zao GMixed zaW hr rfl Mixed.mg Mixed.fn.kp Mixed.bd (zaa (zab 3) (zaa (zbG zag (zab 9)) zad))) zag)))
   (zae (zce (zhR (zbz (zfN (zab 3) zag) zag) zag) (zaf (zah (i:=10) nd rfl (Or.inl rfl) (zqr rfl rfl B.max (zaa zag (zaa (zab 10) zad))))) zaR)
   (zae (zaU (zaN 8 (zao GDrawnRows zgm hr rfl DrawnRows.mg DrawnRows.fn.kp DrawnRows.bd (zaa (zao GFilledUp zeL hr rfl FilledUp.mg FilledUp.fn.kp FilledUp.bd (zaa (zab 0) (zaa (zab 1) (zaa (zab 10) zad)))) (zaa (zax (zab 5) (zab 9)) (zaa (zab 7) zad))))))
   (zaf (zah (i:=1) nd rfl (Or.inl rfl) (zbG (zab 1) (zab 10))))))))
   (zaf (zdw 8 (zaw (zjB (zaa (zab 5) (zaa (zab 6) (zaa (zab 8) (zaa (zab 1) zad)))))))))))))))),λds Q h=>?_⟩
 obtain⟨cs,a,rfl,h0,h1,q⟩:=h;have hsz:=sizeLine_eq;walk_at "pu";refine⟨_,cget h0 rfl,?_⟩;generalize cs[a]=c;walk_at "go";refine⟨by decide,?_⟩;have n1:=Yt c (show(4:Int)≠0 by decide);have n2:=Yh c (show(0:Int)<4 by decide);obtain⟨n,hn⟩:∃n:Nat,c % 4=n:=⟨(c % 4).toNat,by lia⟩;rw[hn]at n1 n2 ⊢;walk_at "go";have h21:zgD c<21:=by
  have m1:=Yt (mixed c 1) (show(21:Int)≠0 by decide);have m2:=Yh (mixed c 1) (show(0:Int)<21 by decide);unfold zgD;lia
 refine⟨⟨cs,rfl⟩,by lia,by lia,by lia,by lia,λzs hzl=>⟨zs,rfl,_,rfl,by lia,zjc _,zsS _ h21,λs0 p0 T=>?_⟩⟩;have hzn:zs.length=n+1:=by lia
 rw[hzn]at T;have hs0:s0.length=n+1:=T.pats.1;have hp0:p0.length=n+1:=T.plen;generalize hK:pSeq (pSet 7 _) _=KK;have fin:∀(sh:List (List Str)) (ps:List (Option Nat)) (k1 k2 k3 k4:Option (PV×Bool)),Good sh ps->sh.length=n+1->(∀p∈sh,p≠[]/\p.length<=4)->Hold KK { nx:=λx=>Q PV.non Kd.frz,rt:=Q,bk:=λx=>False,ct:=λx=>False }
   [some (PV.lst (cs.map PV.int),false),some (PV.int a,false),some (PV.int 4,false),some (PV.int c,false),some (PV.int (1+(n:Int)),false),some (PV.lst (sh.map ltsP),false),some (PV.lst (ps.map parP),false),k1,k2,k3,k4]:=by
  intro sh ps k1 k2 k3 k4 hG hsl hsp;subst hK;walk_at "go";refine⟨⟨by decide,by decide⟩,λx y z=>?_⟩;walk_at "go";walk_at "go";refine⟨XT _,?_⟩;walk_at "go";obtain⟨Iv,hIv⟩:∃Iv:Nat->PEnv->Prop,∀i ρ,Iv i ρ↔∃(ts:List (List (List Int))) (b:Nat) (v1 v2:Option (PV×Bool)),ρ=[some (PV.lst (cs.map PV.int),false),some (PV.int b,false),some (PV.int 4,false),some (PV.int c,false),some (PV.int (1+(n:Int)),false),some (PV.lst (sh.map ltsP),false),some (PV.lst (ps.map parP),false),some (PV.lst [PV.int x,PV.int y,PV.int z],true),some (PV.lst (ts.map tabP),true),v1,v2]/\
    Fits sh ts/\ts.length=i/\a<b/\b<=a+5+4*i:=⟨_,λ_ _=>Iff.rfl⟩
  refine⟨by lia,by lia,Iv,(hIv _ _).mpr ⟨[],a+1+(n+1),k3,k4,?_,⟨XT _,λ_ h=>(nomatch h),λi t h=>by simp at h⟩,rfl,by lia,by lia⟩,?_,?_⟩
  ·rw[show((a:Int)+1+(1+(n:Int)))=((a+1+(n+1):Nat):Int) by lia];rfl
  ·intro i d ρ hd hI;obtain⟨ts,b,v1,v2,rfl,hF,hl,hb1,hb2⟩:=(hIv _ _).mp hI;obtain⟨hi,rfl⟩:=zcE hd;have hi':i<sh.length:=by lia
   have app:∀m:Nat,m<=4->Hold (pSeq (zbq (mApp 8 (zbc zat (zan (zbc zaz (zan (pVar 0) (zan (pVar 1) (zan (pVar 10) pNil)))) (zan (t2 pIx (pVar 5) (pVar 9)) (zan (pVar 7) pNil)))))) (pSet 1 (pAdd (pVar 1) (pVar 10))))
     {nx:=Iv (i+1),rt:=Q,bk:=Hold (pFrz 8 (pRet (pTup (zan (pVar 5) (zan (pVar 6) (zan (pVar 8) (zan (pVar 1) pNil))))))) { nx:=λx=>Q PV.non Kd.frz,rt:=Q,bk:=λx=>False,ct:=λx=>False },ct:=Iv (i+1) }
     [some (PV.lst (cs.map PV.int),false),some (PV.int b,false),some (PV.int 4,false),some (PV.int c,false),some (PV.int (1+(n:Int)),false),some (PV.lst (sh.map ltsP),false),some (PV.lst (ps.map parP),false),some (PV.lst [PV.int x,PV.int y,PV.int z],true),some (PV.lst (ts.map tabP),true),some (PV.int (0+(i:Int)),false),some (PV.int m,false)]:=by
    intro m hm;walk_at "go";have hat:atI (sh.map ltsP) (0+(i:Int))=some (ltsP sh[i]):=by
     rw[Int.zero_add];exact zbw (by simp[hi'])
    have hsi:=hsp _ (YC hi');refine⟨by rw[Xb];lia,⟨cs,rfl⟩,by lia,by lia,by lia,by lia,λzs hz=>⟨_,hat,zs,rfl,sh[i],rfl,hsi.1,by lia,by lia,λrs hrs hrl=>⟨zfe rs,?_⟩⟩⟩;walk_at "go";refine(hIv _ _).mpr ⟨ts++[rs],b+m,some (PV.int (0+(i:Int)),false),some (PV.int m,false),?_,⟨by rw[Xj,XV];lia,λt ht=>?_,λk t hk r hr=>?_⟩,by rw[Xj,XV];lia,by lia,by lia⟩
    ·rw[Xt];rfl
    ·rcases XM.mp ht with ht | ht
     ·exact hF.few t ht
     ·rw[Xq]at ht;rw[ht];lia
    ·rcases zfB hk with hk | ⟨hk1,hk2⟩
     ·exact hF.row k t hk r hr
     ·subst hk2;rw[hk1,hl,hrs r hr,Xn,Xd hi'];rfl
   have mid:∀m:Nat,m<=4->Hold (pSeq (pIf (tBl (pGt (pMod (pDiv (pVar 3) (pC (PV.int 24))) (pC (PV.int 3))) (pC (PV.int 0)))) (pSet 10 (PL.tB zcW (zan (pC (PV.int 2)) (zan (pVar 10) pNil)))) zcy) (pSeq (zbq (mApp 8 (zbc zat (zan (zbc zaz (zan (pVar 0) (zan (pVar 1) (zan (pVar 10) pNil)))) (zan (t2 pIx (pVar 5) (pVar 9)) (zan (pVar 7) pNil)))))) (pSet 1 (pAdd (pVar 1) (pVar 10)))))
     {nx:=Iv (i+1),rt:=Q,bk:=Hold (pFrz 8 (pRet (pTup (zan (pVar 5) (zan (pVar 6) (zan (pVar 8) (zan (pVar 1) pNil))))))) { nx:=λx=>Q PV.non Kd.frz,rt:=Q,bk:=λx=>False,ct:=λx=>False },ct:=Iv (i+1) }
     [some (PV.lst (cs.map PV.int),false),some (PV.int b,false),some (PV.int 4,false),some (PV.int c,false),some (PV.int (1+(n:Int)),false),some (PV.lst (sh.map ltsP),false),some (PV.lst (ps.map parP),false),some (PV.lst [PV.int x,PV.int y,PV.int z],true),some (PV.lst (ts.map tabP),true),some (PV.int (0+(i:Int)),false),some (PV.int m,false)]:=by
    intro m hm;walk_at "go";refine⟨⟨by decide,by decide⟩,by decide,ite2 (λe=>?_) (λe=>?_)⟩
    ·walk_at "go";by_cases h2:(2:Int)<m
     ·simp only[h2,if_true];exact app m hm
     ·simp only[h2,if_false];exact app 2 (by decide)
    ·walk_at "go";exact app m hm
   walk_at "go";have m1:=Yt (mixed c (50+(0+(i:Int)))) (show(4:Int)≠0 by decide);have m2:=Yh (mixed c (50+(0+(i:Int)))) (show(0:Int)<4 by decide);refine⟨by lia,by lia,by lia,by decide,?_⟩;generalize mixed c (50+(0+(i:Int))) % 4=o at m1 m2 ⊢;have ho:o=0\/o=1\/o=2\/o=3:=by lia
   rcases ho with rfl | rfl | rfl | rfl
   ·exact⟨_,rfl,mid 0 (by decide)⟩
   ·exact⟨_,rfl,mid 2 (by decide)⟩
   ·exact⟨_,rfl,mid 3 (by decide)⟩
   ·exact⟨_,rfl,mid 4 (by decide)⟩
  ·intro ρ hI;obtain⟨ts,b,v1,v2,rfl,hF,hl,hb1,hb2⟩:=(hIv _ _).mp hI;rw[zbK]at hl;walk_at "go";refine⟨by lia,q sh ps ts b hG hF (by lia) hb1⟩
 clear hK;have hne:∀p∈s0,p≠[]/\p.length<=4:=λp hp=>⟨T.ne p hp,(T.pats.2 p hp).1⟩;walk_at "go";refine⟨⟨by decide,by decide⟩,by decide,ite2 (λe=>?_) (λe=>?_)⟩
 ·walk_at "go";refine⟨s0,rfl,p0,rfl,by lia,by lia,by lia,λp hp=>?_,?_⟩
  ·obtain⟨k,hk,hk2⟩:=List.mem_iff_getElem.mp hp;have:=T.par k p (by rw[Xd hk,hk2]);lia
  ·rw[hs0];exact fin s0.reverse (zcq (n+1) p0) _ _ _ _ ⟨_,_,s0,p0,T,by lia,by lia,zjc _,.inr ⟨rfl,rfl⟩⟩ (by rw[Xx,hs0]) λp hp=>hne p (Yu.mp hp)
 ·walk_at "go";exact fin s0 p0 _ _ _ _ ⟨_,_,s0,p0,T,by lia,by lia,zjc _,.inl ⟨rfl,rfl⟩⟩ hs0 hne
end
noncomputable def zfm (ps:List (Option Nat))(i k:Nat):List Nat:=(XR k).filter λc=>ps[c]? == some (some i)
theorem zoF {ps:List (Option Nat)}{i k:Nat}(h:k<=ps.length):∃t,kids ps i=zfm ps i k++t:=by
 refine⟨((XR ps.length).drop k).filter λc=>ps[c]? == some (some i),?_⟩;unfold kids zfm;rw[<- List.filter_append,show XR k=(XR ps.length).take k by rw[List.take_range,Nat.min_eq_left h],Yf]
noncomputable def zbb (t:Nat):PF:=λds Q=>∃(ps:List (Option Nat))(rk:Nat->Nat)(i:Nat),ds=[zco ps,.int i]/\ps.length<=100/\zdN ps rk/\rk i<t/\(pre ps t i).length<=1000/\Q (zcB (pre ps t i)) .new
theorem zbC (t:Nat):zbs (zbb t):=λds Q Q' m q182q=>by obtain⟨a,b,c,e,h1,h2,h3,h4,q⟩:=q182q;exact⟨a,b,c,e,h1,h2,h3,h4,m _ _ q⟩
section
variable {P:Program}{w:World}{K:Xa}{mg:Str->Option Value}{base:Heap}
theorem zgf:zau ["_law_parents","_law_i","_law_told","_law_k"] ["_law_parents","_law_i"] (zac zcv):=⟨rfl,rfl,rfl,by decide +kernel,rfl,by decide +kernel,by decide +kernel⟩
theorem zgH {f:Addr}{fd:FuncData}(Beneath:Fx K mg "_law_beneath" zcv ["_law_parents","_law_i"] f fd) (B:Bl mg):∀t,FnOk P w K mg base CX0 (t+1) f fd ["_law_parents","_law_i"] (spP K (zbb t))
 | 0=>by
  refine Beneath.fn.ok zgf (zma (λds Q q183q=>by obtain⟨a,b,c,e,_⟩:=q183q;rw[e];rfl)) (λcdv A outer s H vs Q E hr h=>?_);obtain⟨Fz,ds,al,hd,ps,rk,i,_,_,_,h0,_⟩:=h;exact absurd h0 (YA _)
 | t+1=>by
  have GBeneath:FnOk P w K mg base CX0 (t+1) f fd ["_law_parents","_law_i"] (spP K (zbb t)):=zgH Beneath B t;have zbC:=zbC t;refine zaB Beneath.fn zgf (λds Q q184q=>by obtain⟨a,b,c,e,_⟩:=q184q;rw[e];rfl) (λcdv A outer s H E hr=>?_);have hu:(A.deeper (envOfC "_law_beneath" (zac zcv) s.heap.objs.size f cdv)).units+16<cLine:=by have q:=hr.units;lia
  have nd:=zgf.nd;refine⟨_,(zae (zah (i:=2) nd rfl (Or.inl rfl) (zbp (zaa (zab 1) zad)))
   (zae (zbL rfl PassesOwn.never (zbl rfl B.range (zaa (zbr rfl B.len (zaa (zab 0) zad)) zad)) (zai (i:=3) nd rfl (Or.inl rfl)) (zaf (zce (PuW.t (zgW (zjF (zax (zab 0) (zab 3)) zeb) (zfq (zeC hu (zax (zab 0) (zab 3)) (zab 1))))) (zaf (zah (i:=2) nd rfl (Or.inl rfl) (zjJ (zab 2) (zao GBeneath zbC hr rfl Beneath.mg Beneath.fn.kp Beneath.bd (zaa (zab 0) (zaa (zab 3) zad)))))) zaR)))
   (zaf (zaw (zab 2))))),λds Q h=>?_⟩
  obtain⟨ps,rk,i,rfl,h1,R,h2,h3,q⟩:=h;have hsz:=sizeLine_eq;walk_at "pu";walk_at "auto";have hlen:∀k,k<=ps.length->(i::(zfm ps i k).flatMap (pre ps t)).length<=1000:=λk hk=>by
   obtain⟨r,hr⟩:=zoF (i:=i) hk;have e:pre ps (t+1) i=i::(kids ps i).flatMap (pre ps t):=rfl;rw[e,hr,List.flatMap_append,XG,Xj]at h3;rw[XG];lia
  obtain⟨Iv,hIv⟩:∃Iv:Nat->PEnv->Prop,∀k ρ,Iv k ρ↔∃kv:Option (PV×Bool),ρ=[some (PV.lst (ps.map parP),false),some (PV.int i,false),some (PV.lst ((i::(zfm ps i k).flatMap (pre ps t)).map λ(k:Nat)=>PV.int k),true),kv]:=⟨_,λ_ _=>Iff.rfl⟩;refine⟨by rw[Xb];lia,Iv,(hIv _ _).mpr ⟨none,rfl⟩,?_,?_⟩
  ·intro k d ρ hd hI;obtain⟨kv,rfl⟩:=(hIv _ _).mp hI;obtain⟨hk,rfl⟩:=zcE hd;rw[Xb]at hk;have hk':k<ps.length:=by lia
   obtain⟨o,ho⟩:∃o,ps[k]? = some o:=⟨_,Xd hk'⟩;have hat:atI (ps.map parP) (0+(k:Int))=some (parP o):=by
    rw[Int.zero_add];exact zbw (by rw[Xk,ho];rfl)
   have hks:zfm ps i (k+1)=zfm ps i k++(if o=some i then[k] else[]):=by
    unfold zfm;rw[List.range_succ,List.filter_append];by_cases h:o=some i
    ·rw[if_pos h,Yo (by rw[ho,h];simp)];rfl
    ·rw[if_neg h,Yp (by rw[ho];simpa using h)];rfl
   have hl2:=hlen (k+1) (by lia);rw[hks]at hl2;have hpe:(parP o=PV.int i)↔o=some i:=by
    cases o with
    | none=>exact⟨λz=>(nomatch z),λz=>(nomatch z)⟩
    | some p=>
     constructor
     ·intro z;have z':(p:Int)=(i:Int):=PV.int.inj z;rw[show p=i by lia]
     ·intro z;cases z;rfl
   have skip:o≠some i->Iv (k+1) [some (PV.lst (ps.map parP),false),some (PV.int i,false),some (PV.lst (PV.int i::((zfm ps i k).flatMap (pre ps t)).map λ(k:Nat)=>PV.int k),true),some (PV.int (0+(k:Int)),false)]:=λh=>
    (hIv _ _).mpr ⟨some (PV.int (0+(k:Int)),false),by rw[hks,if_neg h,Yn];rfl⟩
   walk_at "go";refine⟨_,hat,ite2 (λe1=>⟨_,hat,by cases o<;>rfl,ite2 (λe2=>?_) (λe2=>?_)⟩) (λe1=>?_)⟩
   ·have e3:=hpe.mp e2;have hrk:=R.lt k i (by rw[ho,e3]);rw[if_pos e3,List.flatMap_append,List.flatMap_singleton,XG,Xj]at hl2;walk_at "go";refine⟨ps,rfl,rk,k,by lia,by lia,R,by lia,by lia,?_⟩;rw[Xb,Xb];refine⟨by lia,(hIv _ _).mpr ⟨some (PV.int (0+(k:Int)),false),?_⟩⟩;rw[hks,if_pos e3,List.flatMap_append,List.flatMap_singleton,Xp,Xt]
   ·walk_at "go";exact skip λz=>e2 (hpe.mpr z)
   ·walk_at "go";refine skip λz=>e1 ?_;rw[z];exact λy=>nomatch y
  ·intro ρ hI;obtain⟨kv,rfl⟩:=(hIv _ _).mp hI;walk_at "go";rw[zbK,Xb];exact q
noncomputable def zdP (t:Nat):PF:=λds Q=>∃(ps:List (Option Nat))(rk:Nat->Nat)(r:Nat),ds=[zco ps]/\ps.length<=100/\zdN ps rk/\rk r<t/\ps[r]? = some none/\(∀k,ps[k]? = some none->k=r)/\(pre ps t r).length<=1000/\Q (zcB (pre ps t r)) .new
theorem zff (t:Nat):zbs (zdP t):=λds Q Q' m q185q=>by obtain⟨a,b,c,e,h1,h2,h3,h4,h5,h6,q⟩:=q185q;exact⟨a,b,c,e,h1,h2,h3,h4,h5,h6,m _ _ q⟩
theorem znk:zau ["_law_parents","_law_roots"] ["_law_parents"] (zac zed):=⟨rfl,rfl,rfl,by decide +kernel,rfl,by decide +kernel,by decide +kernel⟩
theorem zoG {f f1:Addr}{fd fd1:FuncData}(t:Nat)(F:Fun K "_law_walk" "_law_walk" zed f fd) (Beneath:Fx K mg "_law_beneath" zcv ["_law_parents","_law_i"] f1 fd1) (B:Bl mg):FnOk P w K mg base CX0 (t+2) f fd ["_law_parents"] (spP K (zdP t)):=by
 have GBeneath:FnOk P w K mg base CX0 (t+1) f1 fd1 ["_law_parents","_law_i"] (spP K (zbb t)):=zgH Beneath B t;have zbC:=zbC t;refine zaB F znk (λds Q q186q=>by obtain⟨a,b,c,e,_⟩:=q186q;rw[e];rfl) (λcdv A outer s H E hr=>?_);have hu:(A.deeper (envOfC "_law_walk" (zac zed) s.heap.objs.size f cdv)).units+16<cLine:=by have q:=hr.units;lia
 have nd:=znk.nd;refine⟨_,(zae (zoc (i:=1) (N:=["_law_k","_law_parents"]) (k:=1) (js:=[0]) rfl (zeU (sup:=zac zed) (XN:=["_law_parents","_law_roots"]) rfl rfl (by decide +kernel)) (by decide) (zbJ (by decide)) (zbl rfl B.range (zaa (zbr rfl B.len (zaa (zab 0) zad)) zad)) ⟨λ_ _ _ _ _=>(zai (i:=0) (by show(["_law_k","_law_parents"]:List Str).Nodup;decide +kernel) rfl (Or.inl rfl)),λ_ _ _ _ _=>(zgY (ziV (zax (zab 1) (zab 0)) zeb)),λ_ _ _ _ _=>(zab 0)⟩ nd rfl rfl)
   (zaf (zaw (zao GBeneath zbC hr rfl Beneath.mg Beneath.fn.kp Beneath.bd (zaa (zab 0) (zaa (zax (zab 1) zag) zad)))))),λds Q h=>?_⟩
 obtain⟨ps,rk,r,rfl,h1,R,h2,h3,h4,h5,q⟩:=h;have hsz:=sizeLine_eq;have hrl:r<ps.length:=(Xc.mp h3).1;walk_at "pu";rw[Xb];refine⟨by lia,by lia,by rw[zbK];lia,λk out=>out=if r<k then[PV.int r] else[],(if_neg (YA _)).symm,?_,?_⟩
 ·rintro k d out hd hk rfl;obtain⟨hk,rfl⟩:=zcE hd;have hk':k<ps.length:=by lia
  obtain⟨o,ho⟩:∃o,ps[k]? = some o:=⟨_,Xd hk'⟩;have hat:atI (ps.map parP) (0+(k:Int))=some (parP o):=by
   rw[Int.zero_add];exact zbw (by rw[Xk,ho];rfl)
  refine⟨_,⟨_,rfl,hat⟩,ite2 (λe=>?_) (λe=>?_)⟩
  ·have eo:o=none:=by
    cases o with
    | none=>rfl
    | some p=>exact nomatch e
   have ek:k=r:=h4 k (by rw[ho,eo]);subst ek;show _=_;rw[if_neg (YK _),if_pos (Nat.lt_succ_self _),Int.zero_add];rfl
  ·have ek:k≠r:=λz=>by
    subst z;rw[h3]at ho;cases ho;exact e rfl
   show(if r<k then[PV.int r] else[])=if r<k+1 then[PV.int r] else[]
   by_cases hrk:r<k
   ·rw[if_pos hrk,if_pos (by lia)]
   ·rw[if_neg hrk,if_neg (by lia)]
 ·rintro out-rfl;rw[zbK,if_pos (by lia)];walk_at "go";exact⟨_,rfl,ps,rfl,rk,r,rfl,h1,R,h2,h5,q⟩
end
noncomputable def zbn:PF:=λds Q=>∃sh:List (List Str),ds=[shpP sh]/\sh.flatten.length<64/\∀zs:List Str,(∀l,l∈zs↔l∈sh.flatten)->zs.length<64->Q (.lst (zs.map PV.str)) .new
theorem ziw:zbs zbn:=λds Q Q' m q187q=>by obtain⟨a,e,h1,q⟩:=q187q;exact⟨a,e,h1,λz x y=>m _ _ (q z x y)⟩
section
variable {P:Program}{w:World}{K:Xa}{mg:Str->Option Value}{base:Heap}
theorem zix:zau ["_law_shape","_law_told","_law_pattern","_law_letter"] ["_law_shape"] (zac zcu):=⟨rfl,rfl,rfl,by decide +kernel,rfl,by decide +kernel,by decide +kernel⟩
theorem zla {f:Addr}{fd:FuncData}(F:Fun K "_law_letters" "_law_letters" zcu f fd) (B:Bl mg):FnOk P w K mg base CX0 1 f fd ["_law_shape"] (spP K zbn):=by
 refine zaB F zix (λds Q q188q=>by obtain⟨a,e,_⟩:=q188q;rw[e];rfl) (λcdv A outer s H E hr=>?_);have hu:(A.deeper (envOfC "_law_letters" (zac zcu) s.heap.objs.size f cdv)).units+16<cLine:=by have q:=hr.units;lia
 have nd:=zix.nd;refine⟨_,(zae (zah (i:=1) nd rfl (Or.inl rfl) (zbp zad))
   (zae (zbL rfl PassesOwn.never (zbg (zab 0)) (zai (i:=2) nd rfl (Or.inl rfl)) (zaf (zbL rfl PassesOwn.never (zlV (zab 2)) (zai (i:=3) nd rfl (Or.inl rfl)) (zaf (zce (zmf hu (zab 3) (zab 1)) (zaf (zaU (zaN 1 (zab 3)))) zaR)))))
   (zaf (zaw (zog rfl B.sorted (zaa (zab 1) zad)))))),λds Q h=>?_⟩
 obtain⟨sh,rfl,h64,q⟩:=h;have hsz:=sizeLine_eq;walk_at "pu";walk_at "auto";obtain⟨Iv,hIv⟩:∃Iv:Nat->PEnv->Prop,∀i ρ,Iv i ρ↔∃(zs:List Str) (v1 v2:Option (PV×Bool)),ρ=[some (PV.lst (sh.map ltsP),false),some (PV.lst (zs.map PV.str),true),v1,v2]/\(∀l,l∈zs↔l∈(sh.take i).flatten)/\zs.length<=(sh.take i).flatten.length:=⟨_,λ_ _=>Iff.rfl⟩;have hfl:∀i,(sh.take i).flatten.length<=sh.flatten.length:=λi=>by
  conv=>rhs;rw[<- Yf i sh,List.flatten_append,Xj]
  lia
 refine⟨Iv,(hIv _ _).mpr ⟨[],none,none,rfl,λl=>by simp,XT _⟩,?_,?_⟩
 ·intro i d ρ hd hI;obtain⟨zs,v1,v2,rfl,hm,hl⟩:=(hIv _ _).mp hI;rw[Xk]at hd;cases hp:sh[i]? with
  | none=>rw[hp]at hd;cases hd
  | some p=>
   rw[hp]at hd;cases hd;have htk:sh.take (i+1)=sh.take i++[p]:=(take_snoc hp).symm;have hf1:=hfl (i+1);rw[htk,List.flatten_append,Xj]at hf1;have hfp:[p].flatten=p:=by simp
   rw[hfp]at hf1;walk_at "go";obtain⟨Iw,hIw⟩:∃Iw:Nat->PEnv->Prop,∀j ρ,Iw j ρ↔∃(ys:List Str) (v3:Option (PV×Bool)),ρ=[some (PV.lst (sh.map ltsP),false),some (PV.lst (ys.map PV.str),true),some (PV.tup (p.map PV.str),false),v3]/\(∀l,l∈ys↔l∈(sh.take i).flatten\/l∈p.take j)/\ys.length<=(sh.take i).flatten.length+j:=⟨_,λ_ _=>Iff.rfl⟩;refine⟨Iw,(hIw _ _).mpr ⟨zs,v2,rfl,λl=>by rw[hm l,List.take_zero];simp,hl⟩,?_,?_⟩
   ·intro j d ρ hd hI;obtain⟨ys,v3,rfl,hm2,hl2⟩:=(hIw _ _).mp hI;rw[Xk]at hd;cases hx:p[j]? with
    | none=>rw[hx]at hd;cases hd
    | some x=>
     rw[hx]at hd;cases hd;have hj:=(Xc.mp hx).1;have htj:p.take (j+1)=p.take j++[x]:=(take_snoc hx).symm;walk_at "go";have hin:PV.str x∈ys.map PV.str↔x∈ys:=⟨λz=>by
      obtain⟨y,hy,e⟩:=XA.mp z;cases e;exact hy,λz=>XA.mpr ⟨x,z,rfl⟩⟩
     refine⟨zfd _ _,ite2 (λe=>?_) (λe=>?_)⟩
     ·walk_at "go";refine⟨by rw[Xb];lia,(hIw _ _).mpr ⟨ys++[x],some (PV.str x,false),by rw[Xt];rfl,λl=>?_,by rw[Xj,XV];lia⟩⟩;rw[htj,XM,XM,hm2 l,or_assoc]
     ·walk_at "go";have hx2:x∈ys:=hin.mp (Decidable.not_not.mp e);refine(hIw _ _).mpr ⟨ys,some (PV.str x,false),rfl,λl=>?_,by lia⟩;rw[htj,XM,<- or_assoc,<- hm2 l,Xq];exact⟨.inl,λz=>z.elim id λy=>y▸hx2⟩
   ·intro ρ hI;obtain⟨ys,v3,rfl,hm2,hl2⟩:=(hIw _ _).mp hI;rw[Xb,List.take_length]at hm2;rw[Xb]at hl2;refine(hIv _ _).mpr ⟨ys,_,v3,rfl,λl=>?_,?_⟩
    ·rw[htk,List.flatten_append,XM,hfp];exact hm2 l
    ·rw[htk,List.flatten_append,Xj,hfp];exact hl2
 ·intro ρ hI;obtain⟨zs,v1,v2,rfl,hm,hl⟩:=(hIv _ _).mp hI;rw[Xb,List.take_length]at hm hl;walk_at "go";refine⟨zs,rfl,by lia,λys hy _=>q ys (λl=>(hy.mem_iff).trans (hm l)) (by rw[hy.length_eq];lia)⟩
end
theorem zhn {n c:Nat}{p0:List (Option Nat)}{o:Option Nat}(hn:p0.length=n)(h:(zcq n p0)[c]? = some o):c<n/\∃o',p0[n-1-c]? = some o'/\o=o'.map λp=>n-1-p:=by
 unfold zcq at h;rw[Xk]at h;cases hr:p0.reverse[c]? with
 | none=>rw[hr]at h;cases h
 | some o'=>
  rw[hr]at h;cases h;have hc:=(Xc.mp hr).1;rw[Xx]at hc;rw[Yi hc,hn]at hr;exact⟨by lia,o',hr,rfl⟩
theorem zeM {L:List Str}{n:Nat}{s0:List (List Str)}{p0:List (Option Nat)}(T:zaI L n s0 p0)(h:1<=n):p0[0]? = some none:=by
 have h0:0<p0.length:=by rw[T.plen];exact h
 cases hp:p0[0]? with
 | none=>rw[Xd h0]at hp;cases hp
 | some o=>
  cases o with
  | none=>rfl
  | some j=>exact absurd (T.par 0 j hp) (YA _)
structure zoH (ps:List (Option Nat))(rk:Nat->Nat)(r:Nat):Prop where
 rkd:zdN ps rk
 low:rk r<5
 root:ps[r]? = some none
 one:∀k,ps[k]? = some none->k=r
theorem Good.leads {sh:List (List Str)}{ps:List (Option Nat)}(h:Good sh ps):sh.length=ps.length/\1<=ps.length/\ps.length<=4/\∃rk r,zoH ps rk r/\∀i,i<ps.length->rk i<5:=by
 obtain⟨L,n,s0,p0,T,h1,h4,hL,⟨rfl,rfl⟩ | ⟨rfl,rfl⟩⟩:=h
 ·have hl:=T.plen;have hs:=T.pats.1;refine⟨by lia,by lia,by lia,λc=>n-c,0,⟨⟨λc p hc=>?_⟩,by show n-0<5;lia,zeM T h1,T.root⟩,λi hi=>by show n-i<5;lia⟩;have hlt:=T.par c p hc;have hcl:=(Xc.mp hc).1;show n-c<n-p;lia
 ·have hl:=T.plen;have hs:=T.pats.1;have ht:(zcq n p0).length=n:=by unfold zcq;rw[Xb,Xx,hl]
  refine⟨by rw[Xx];lia,by lia,by lia,λc=>c,n-1,⟨⟨λc p hc=>?_⟩,by show n-1<5;lia,?_,λk hk=>?_⟩,λi hi=>by show i<5;lia⟩
  ·obtain⟨hcn,o',ho,e⟩:=zhn hl hc;cases o' with
   | none=>cases e
   | some j=>
    have ej:p=n-1-j:=by simpa using e
    have hlt:=T.par _ j ho;show c<p;lia
  ·unfold zcq;rw[Xk,Yi (by lia),hl,show n-1-(n-1)=0 by lia,zeM T h1];rfl
  ·obtain⟨hcn,o',ho,e⟩:=zhn hl hk;cases o' with
   | some j=>cases e
   | none=>
    have:=T.root _ ho;lia
theorem zfC {α β:Type}{g:α->List β}{b:Nat}:∀(l:List α),(∀x∈l,(g x).length<=b)->(l.flatMap g).length<=l.length*b
 | [],_=>XT _
 | x::l,h=>by
  have h1:=h x (Xh ..);have h2:=zfC (g:=g) (b:=b) l λy hy=>h y (Xf _ hy);rw[Yk,Xj,XG,Nat.succ_mul];lia
noncomputable def preB:Nat->Nat
 | 0=>0
 | t+1=>1+4*preB t
theorem znl {ps:List (Option Nat)}(h:ps.length<=4):∀t i,(pre ps t i).length<=preB t
 | 0,_=>XT _
 | t+1,i=>by
  have h1:=zfC (g:=pre ps t) (b:=preB t) (kids ps i) λx _=>znl h t x;have h2:(kids ps i).length<=4:=by
   refine XB (Yx _ _) ?_;rw[Yl];exact h
  have h3:=Nat.mul_le_mul_right (preB t) h2;show(i::(kids ps i).flatMap (pre ps t)).length<=1+4*preB t;rw[XG];lia
theorem zoI {ps:List (Option Nat)}(h:ps.length<=4)(i:Nat):(pre ps 5 i).length<=1000:=XB (znl h 5 i) (by decide)
noncomputable abbrev Asc:=List (Str×Int)
noncomputable def dP (D:Asc):PV:=.dK (D.map λe=>Sum.inr e.1) (D.map λe=>PV.int e.2)
noncomputable def zaM:Asc->Asc->Option Asc
 | D,[]=>some D
 | D,e::r=>match D.lookup e.1 with
  | some v=>if v=e.2 then zaM D r else none
  | none=>zaM (D++[e]) r
theorem zeN:∀(D a b:Asc),zaM D (a++b)=(zaM D a).bind λD'=>zaM D' b
 | D,[],b=>rfl
 | D,e::a,b=>by
  show(match D.lookup e.1 with | some v=>if v=e.2 then zaM D (a++b) else none | none=>zaM (D++[e]) (a++b))=(match D.lookup e.1 with | some v=>if v=e.2 then zaM D a else none | none=>zaM (D++[e]) a).bind _
  cases D.lookup e.1 with
  | none=>exact zeN _ a b
  | some v=>
   by_cases h:v=e.2
   ·simp only[if_pos h];exact zeN _ a b
   ·simp only[if_neg h];rfl
noncomputable def zcr:PF:=λds Q=>∃(D:Asc)(p:List Str)(r:List Int),ds=[dP D,ltsP p,.tup (r.map PV.int)]/\(D.map (·.1)).Nodup/\p.length=r.length/\p.length<=1000/\D.length<=1000/\(∀D',zaM D (p.zip r)=some D'->Q (dP D') .new)/\(zaM D (p.zip r)=none->Q .non .frz)
theorem zjg:zbs zcr:=λds Q Q' m q189q=>by obtain⟨a,b,c,e,h1,h2,h3,h4,q1,q2⟩:=q189q;exact⟨a,b,c,e,h1,h2,h3,h4,λD h=>m _ _ (q1 D h),λh=>m _ _ (q2 h)⟩
theorem zoJ {l:Str}:∀(D:Asc),dgP (D.map λe=>(Sum.inr e.1:Key)) (D.map λe=>PV.int e.2) (.inr l)=(D.lookup l).map PV.int
 | []=>rfl
 | e::D=>by
  have ih:=zoJ (l:=l) D;obtain⟨k,v⟩:=e;by_cases hk:k=l
  ·subst hk;simp[dgP]
  ·simp only[dgP,Xp,XZ,XH,Yg]at ih ⊢;rw[show(l == k)=false by rw[beq_eq_false_iff_ne];exact λz=>hk z.symm];simpa[hk]using ih
theorem zeO {l:Str}{v:Int}:∀ {D:Asc},D.lookup l=some v->(l,v)∈D
 | [],h=>nomatch h
 | (k,x)::D,h=>by
  rw[XH]at h;cases hk:(l == k)with
  | true=>rw[hk]at h;cases h;rw[eq_of_beq hk];exact Xh ..
  | false=>rw[hk]at h;exact Xf _ (zeO h)
theorem zdY {l:Str}:∀ {D:Asc},l∈D.map (·.1)->∃v,D.lookup l=some v
 | [],h=>nomatch h
 | (k,x)::D,h=>by
  rw[XH];cases hk:(l == k)with
  | true=>exact⟨x,rfl⟩
  | false=>
   rw[Xp,Xu]at h;exact zdY (h.resolve_left λz=>by rw[show(l == k)=true from beq_iff_eq.mpr z]at hk;cases hk)
theorem zpq {l:Str}(D:Asc):hasK (D.map λe=>(Sum.inr e.1:Key)) (.inr l)=(D.lookup l).isSome:=by
 cases h:D.lookup l with
 | some v=>
  have:=zeO h;unfold hasK;rw[List.any_eq_true.mpr];rfl;exact⟨.inr l,XA.mpr ⟨(l,v),this,rfl⟩,decide_eq_true rfl⟩
 | none=>
  cases hk:hasK (D.map λe=>(Sum.inr e.1:Key)) (.inr l)with
  | false=>rfl
  | true=>
   unfold hasK at hk;obtain⟨k,h1,h2⟩:=List.any_eq_true.mp hk;have h3:=of_decide_eq_true h2;subst h3;obtain⟨e,h4,h5⟩:=XA.mp h1;cases h5;obtain⟨v,hv⟩:=zdY (D:=D) (l:=e.1) (XA.mpr ⟨e,h4,rfl⟩);rw[hv]at h;cases h
theorem zkk {l:Str}{v:Int}:∀ {D:Asc},(D.map (·.1)).Nodup->(∀x,(l,x)∈D->x=v)->putD (D.map λe=>(Sum.inr e.1:Key)) (D.map λe=>PV.int e.2) (.inr l) (.int v)=D.map λe=>PV.int e.2
 | [],_,_=>rfl
 | (k,x)::D,hn,h=>by
  rw[Xp,XX]at hn;have ih:=zkk (l:=l) (v:=v) hn.2 λy hy=>h y (Xf _ hy);unfold putD at ih ⊢;simp only[Xp,XZ];rw[ih]
  congr 1
  by_cases hk:k=l
  ·subst hk;rw[if_pos rfl,h x (Xh ..)]
  ·rw[if_neg (λz=>hk (by injection z))]
theorem zgg {l:Str}{v:Int}:∀ {D:Asc},(D.map (·.1)).Nodup->D.lookup l=some v->∀x,(l,x)∈D->x=v
 | [],_,h=>nomatch h
 | (k,y)::D,hn,h=>λx hx=>by
  rw[Xp,XX]at hn;rw[XH]at h;cases hk:(l == k)with
  | true=>
   rw[hk]at h;cases h;have:=eq_of_beq hk;subst this;rcases Xu.mp hx with z | z
   ·cases z;rfl
   ·exact absurd (XA.mpr ⟨_,z,rfl⟩) hn.1
  | false=>
   rw[hk]at h;rcases Xu.mp hx with z | z
   ·cases z;simp at hk
   ·exact zgg hn.2 h x z
section
variable {P:Program}{w:World}{K:Xa}{mg:Str->Option Value}{base:Heap}
theorem zkl:zau ["_law_found","_law_pattern","_law_row","_law_told","_law_letter","_law_cell"] ["_law_found","_law_pattern","_law_row"] (zac zda):=⟨rfl,rfl,rfl,by decide +kernel,rfl,by decide +kernel,by decide +kernel⟩
theorem znm {f:Addr}{fd:FuncData}(F:Fun K "_law_joined" "_law_joined" zda f fd) (B:Bl mg):FnOk P w K mg base CX0 1 f fd ["_law_found","_law_pattern","_law_row"] (spP K zcr):=by
 refine zaB F zkl (λds Q q190q=>by obtain⟨a,b,c,e,_⟩:=q190q;rw[e];rfl) (λcdv A outer s H E hr=>?_);have hu:(A.deeper (envOfC "_law_joined" (zac zda) s.heap.objs.size f cdv)).units+16<cLine:=by have q:=hr.units;lia
 have nd:=zkl.nd;refine⟨_,(zae (zah (i:=3) nd rfl (Or.inl rfl) (zmy rfl B.dict (zaa (zab 0) zad)))
   (zae (zbL rfl PassesOwn.never (zmS rfl B.zip (zaa (zab 1) (zaa (zab 2) zad))) (zej (n:=2) rfl (zaH (zai (i:=4) nd rfl (Or.inl rfl)) (zaH (zai (i:=5) nd rfl (Or.inl rfl)) zcT))) (zae (zce (PuW.t (zgW (zqL (hu1 hu) (zab 4) (zab 3)) (zfq (zhQ hu (ziW (hu1 hu) (zab 3) (zab 4)) (zab 5))))) (zaf (zaw zeb)) zaR)
   (zaf (zmq 3 (hu1 hu) (zab 4) (zab 5)))))
   (zaf (zaw (zab 3))))),λds Q h=>?_⟩
 obtain⟨D,p,r,rfl,hnd,hpr,hp,hD,q1,q2⟩:=h;have hsz:=sizeLine_eq;walk_at "pu";walk_at "auto";have hzl:(p.zip r).length=p.length:=by rw[Ys];lia
 obtain⟨Iv,hIv⟩:∃Iv:Nat->PEnv->Prop,∀i ρ,Iv i ρ↔∃(D':Asc) (v1 v2:Option (PV×Bool)),ρ=[some (PV.dK (D.map λe=>Sum.inr e.1) (D.map λe=>PV.int e.2),false),some (PV.tup (p.map PV.str),false),some (PV.tup (r.map PV.int),false),some (PV.dK (D'.map λe=>Sum.inr e.1) (D'.map λe=>PV.int e.2),true),v1,v2]/\zaM D ((p.zip r).take i)=some D'/\(D'.map (·.1)).Nodup/\D'.length<=D.length+i:=⟨_,λ_ _=>Iff.rfl⟩;refine⟨by rw[Xb,Xb];lia,Iv,(hIv _ _).mpr ⟨D,none,none,rfl,rfl,hnd,Xi _⟩,?_,?_⟩
 ·intro i d ρ hd hI;obtain⟨D',v1,v2,rfl,hj,hn',hl'⟩:=(hIv _ _).mp hI;obtain⟨x,y,hx,hy,rfl⟩:=zfu hd;rw[Xk]at hx hy;cases hp1:p[i]? with
  | none=>rw[hp1]at hx;cases hx
  | some l=>
  cases hr1:r[i]? with
  | none=>rw[hr1]at hy;cases hy
  | some c=>
   rw[hp1]at hx;cases hx;rw[hr1]at hy;cases hy;have hil:=(Xc.mp hp1).1;have hz:(p.zip r)[i]? = some (l,c):=List.getElem?_zip_eq_some.mpr ⟨hp1,hr1⟩;have htk:zaM D ((p.zip r).take (i+1))=zaM D' [(l,c)]:=by
    rw[(take_snoc hz).symm,zeN,hj];rfl
   have hone:zaM D' [(l,c)]=match D'.lookup l with | some v=>if v=c then some D' else none | none=>some (D'++[(l,c)]):=rfl
   refine⟨_,rfl,rfl,_,_,rfl,_,_,rfl,rfl,?_⟩;walk_at "go";refine⟨.inr l,rfl,?_⟩;rw[zoJ];cases hlk:D'.lookup l with
   | none=>
    rw[hlk]at hone;rw[if_neg (by decide)];walk_at "go";refine⟨rfl,_,_,rfl,by rw[Xb];lia,.inr l,rfl,?_⟩;rw[zpq,hlk,if_neg (by decide)];refine(hIv _ _).mpr ⟨D'++[(l,c)],_,_,by rw[Xt,Xt];rfl,htk.trans hone,?_,by rw[Xj,XV];lia⟩;rw[Xt,List.nodup_append];refine⟨hn',XX.mpr ⟨YJ,List.nodup_nil⟩,λa ha b hb e=>?_⟩;rw[List.map_singleton,Xq]at hb;obtain⟨v,hv⟩:=zdY ha;rw[e,hb]at hv;rw[hlk]at hv;cases hv
   | some v=>
    rw[hlk]at hone;rw[if_pos (by rfl)];refine⟨.inr l,rfl,PV.int v,by rw[zoJ,hlk];rfl,rfl,?_⟩;by_cases hvc:v=c
    ·subst hvc;rw[if_neg (λz=>z rfl)];walk_at "go";refine⟨rfl,_,_,rfl,by rw[Xb];lia,.inr l,rfl,?_⟩;rw[zpq,hlk,if_pos (by rfl),zkk hn' (zgg hn' hlk)];exact(hIv _ _).mpr ⟨D',_,_,rfl,htk.trans (hone.trans (if_pos rfl)),hn',by lia⟩
    ·rw[if_pos (λz=>hvc (by injection z))];walk_at "go";refine q2 ?_;rw[<- Yf (i+1) (p.zip r),zeN,htk,hone];show((if v=c then some D' else none).bind _)=none
     rw[if_neg hvc];rfl
 ·intro ρ hI;obtain⟨D',v1,v2,rfl,hj,hn',hl'⟩:=(hIv _ _).mp hI;walk_at "go";rw[zfv,Xb,Xb,<- hpr,Nat.min_self,Xv (by lia)]at hj;exact q1 D' hj
end
theorem zcQ:∀(a D D':Asc),zaM D a=some D'->(D.map (·.1)).Nodup->(D'.map (·.1)).Nodup/\D'.length<=D.length+a.length/\∀l,l∈D'.map (·.1)↔l∈D.map (·.1)\/l∈a.map (·.1)
 | [],D,D',h,hn=>by
  cases h;exact⟨hn,Xi _,λl=>by simp⟩
 | e::a,D,D',h,hn=>by
  have h':(match D.lookup e.1 with | some v=>if v=e.2 then zaM D a else none | none=>zaM (D++[e]) a)=some D':=h
  cases hl:D.lookup e.1 with
  | none=>
   rw[hl]at h';have hn2:((D++[e]).map (·.1)).Nodup:=by
    rw[Xt,List.nodup_append];refine⟨hn,XX.mpr ⟨YJ,List.nodup_nil⟩,λx hx b hb z=>?_⟩;rw[List.map_singleton,Xq]at hb;obtain⟨v,hv⟩:=zdY hx;rw[z,hb,hl]at hv;cases hv
   obtain⟨q1,q2,q3⟩:=zcQ a _ _ h' hn2;refine⟨q1,by rw[Xj,XV]at q2;rw[XG];lia,λl=>?_⟩;rw[q3 l,Xt,XM,List.map_singleton,Xq,Xp,Xu,or_assoc]
  | some v=>
   rw[hl]at h';by_cases hv:v=e.2
   ·rw[show(match (some v:Option Int)with | some v=>if v=e.2 then zaM D a else none | none=>zaM (D++[e]) a)=(if v=e.2 then zaM D a else none) from rfl,if_pos hv]at h'
    obtain⟨q1,q2,q3⟩:=zcQ a _ _ h' hn;refine⟨q1,by rw[XG];lia,λl=>?_⟩;rw[q3 l,Xp,Xu];have hm:e.1∈D.map (·.1):=XA.mpr ⟨_,zeO hl,rfl⟩;constructor
    ·rintro(z | z)
     ·exact .inl z
     ·exact .inr (.inr z)
    ·rintro(z | z | z)
     ·exact .inl z
     ·exact .inl (z▸hm)
     ·exact .inr z
   ·rw[show(match (some v:Option Int)with | some v=>if v=e.2 then zaM D a else none | none=>zaM (D++[e]) a)=(if v=e.2 then zaM D a else none) from rfl,if_neg hv]at h'
    cases h'
noncomputable def zgn (s:List Asc)(e:List Str×List (List Int)):List Asc:=s.flatMap λD=>e.2.filterMap λr=>zaM D (e.1.zip r)
noncomputable def ansL (sh:List (List Str))(ts:List (List (List Int))):List Asc:=(sh.zip ts).foldl zgn [[]]
noncomputable def zbR:PF:=λds Q=>∃(sh:List (List Str))(ts:List (List (List Int))),ds=[shpP sh,.lst (ts.map tabP)]/\Fits sh ts/\ts.length=sh.length/\1<=sh.length/\sh.length<=4/\(∀p∈sh,p≠[]/\p.length<=4)/\∀zs:List PV,zs.length=(ansL sh ts).length->Q (.lst zs) .new
theorem ziy:zbs zbR:=λds Q Q' m q191q=>by obtain⟨a,b,e,h1,h2,h3,h4,h5,q⟩:=q191q;exact⟨a,b,e,h1,h2,h3,h4,h5,λz h=>m _ _ (q z h)⟩
structure Upto (sh:List (List Str))(ts:List (List (List Int)))(i:Nat)(s:List Asc):Prop where
 eq:s=((sh.zip ts).take i).foldl zgn [[]]
 few:s.length<=4 ^ i
 nd:∀D∈s,(D.map (·.1)).Nodup
 len:∀D∈s,D.length<=4*i
 keys:∀D∈s,∀p∈sh.take i,∀l∈p,l∈D.map (·.1)
theorem Upto.zero (sh:List (List Str))(ts:List (List (List Int))):Upto sh ts 0 [[]]:=
 ⟨rfl,Xi _,λD h=>by rw[Xq.mp h];exact List.nodup_nil,λD h=>by rw[Xq.mp h];exact Xi _,λD h p hp=>by rw[List.take_zero]at hp;cases hp⟩
theorem Upto.step {sh:List (List Str)}{ts:List (List (List Int))}{i:Nat}{s:List Asc}{p:List Str}{t:List (List Int)}(U:Upto sh ts i s)(hp:sh[i]? = some p)(ht:ts[i]? = some t)(h4:p.length<=4)(ht4:t.length<=4)(hr:∀r∈t,r.length=p.length):Upto sh ts (i+1) (zgn s (p,t)):=by
 have mem:∀D'∈zgn s (p,t),∃D∈s,∃r∈t,zaM D (p.zip r)=some D':=λD' h=>by
  obtain⟨D,h1,h2⟩:=YD.mp h;obtain⟨r,h3,h5⟩:=List.mem_filterMap.mp h2;exact⟨D,h1,r,h3,h5⟩
 have hzl:∀r∈t,(p.zip r).length<=4:=λr h=>by rw[Ys];lia
 refine⟨?_,?_,λD' h=>?_,λD' h=>?_,λD' h q hq l hl=>?_⟩
 ·rw[(take_snoc (show(sh.zip ts)[i]? = some (p,t) from List.getElem?_zip_eq_some.mpr ⟨hp,ht⟩)).symm,List.foldl_append,<- U.eq];rfl
 ·refine XB (zfC (b:=4) s λD _=>XB (List.length_filterMap_le _ _) ht4) ?_;rw[Nat.pow_succ];exact Nat.mul_le_mul_right 4 U.few
 ·obtain⟨D,h1,r,h2,h3⟩:=mem D' h;exact(zcQ _ _ _ h3 (U.nd D h1)).1
 ·obtain⟨D,h1,r,h2,h3⟩:=mem D' h;have q1:=(zcQ _ _ _ h3 (U.nd D h1)).2.1;have q2:=U.len D h1;have q3:=hzl r h2;lia
 ·obtain⟨D,h1,r,h2,h3⟩:=mem D' h;refine((zcQ _ _ _ h3 (U.nd D h1)).2.2 l).mpr ?_;rw[(take_snoc hp).symm]at hq;rcases XM.mp hq with hq | hq
  ·exact .inl (U.keys D h1 q hq l hl)
  ·rw[Xq.mp hq]at hl;refine .inr ?_;have:(p.zip r).map (·.1)=p:=by rw[List.map_fst_zip (by rw[hr r h2];exact Xi _)]
   rw[this];exact hl
section
variable {P:Program}{w:World}{K:Xa}{mg:Str->Option Value}{base:Heap}
theorem ziz:zau ["_law_shape","_law_rows","_law_some","_law_pattern","_law_lines_here","_law_more","_law_found","_law_row","_law_told","_law_letters_here"] ["_law_shape","_law_rows"] (zac zbP):=⟨rfl,rfl,rfl,by decide +kernel,rfl,by decide +kernel,by decide +kernel⟩
theorem zlb {f f1 f2:Addr}{fd fd1 fd2:FuncData}(F:Fun K "_law_answers" "_law_answers" zbP f fd) (Joined:Fx K mg "_law_joined" zda ["_law_found","_law_pattern","_law_row"] f1 fd1) (Letters:Fx K mg "_law_letters" zcu ["_law_shape"] f2 fd2) (B:Bl mg):FnOk P w K mg base CX0 2 f fd ["_law_shape","_law_rows"] (spP K zbR):=by
 have GJoined:FnOk P w K mg base CX0 1 f1 fd1 ["_law_found","_law_pattern","_law_row"] (spP K zcr):=znm Joined.fn B;have GLetters:FnOk P w K mg base CX0 1 f2 fd2 ["_law_shape"] (spP K zbn):=zla Letters.fn B;refine zaB F ziz (λds Q q192q=>by obtain⟨a,b,e,_⟩:=q192q;rw[e];rfl) (λcdv A outer s H E hr=>?_);have hu:(A.deeper (envOfC "_law_answers" (zac zbP) s.heap.objs.size f cdv)).units+16<cLine:=by have q:=hr.units;lia
 have nd:=ziz.nd;refine⟨_,(zae (zah (i:=2) nd rfl (Or.inl rfl) (zbp (zaa zmK zad)))
   (zae (zdw 2 (zbL rfl PassesOwn.never (zqE rfl B.zip (zaa (zab 0) (zaa (zab 1) zad))) (zej (n:=2) rfl (zaH (zai (i:=3) nd rfl (Or.inl rfl)) (zaH (zai (i:=4) nd rfl (Or.inl rfl)) zcT))) (zae (zah (i:=5) nd rfl (Or.inl rfl) (zbp zad))
   (zae (zbL rfl PassesOwn.never (zbg (zab 2)) (zai (i:=6) nd rfl (Or.inl rfl)) (zaf (zbL rfl PassesOwn.never (zbg (zab 4)) (zai (i:=7) nd rfl (Or.inl rfl)) (zae (zah (i:=8) nd rfl (Or.inl rfl) (zao GJoined zjg hr rfl Joined.mg Joined.fn.kp Joined.bd (zaa (zab 6) (zaa (zab 3) (zaa (zab 7) zad)))))
   (zaf (zce (zjF (zab 8) zeb) (zaf (zdw 8 (zaU (zaN 5 (zab 8))))) zaR))))))
   (zaf (zdw 5 (zah (i:=2) nd rfl (Or.inl rfl) (zab 5))))))))
   (zae (zah (i:=9) nd rfl (Or.inr rfl) (zao GLetters ziw hr rfl Letters.mg Letters.fn.kp Letters.bd (zaa (zab 0) zad)))
   (zaf (zaw (zka rfl B.sorted (zaa (zbM (N:=["_law_found","_law_letters_here"]) (k:=1) (js:=[9]) rfl (zeU (sup:=zac zbP) (XN:=["_law_shape","_law_rows","_law_some","_law_pattern","_law_lines_here","_law_more","_law_found","_law_row","_law_told","_law_letters_here"]) rfl rfl (by decide +kernel)) (by decide) (zbJ (by decide)) (zbg (zab 2)) ⟨λ_ _ _ _ _=>(zai (i:=0) (by show(["_law_found","_law_letters_here"]:List Str).Nodup;decide +kernel) rfl (Or.inr rfl)),λ_ _ _ _ _=>zcc,λ_ _ _ _ _=>(zfs rfl B.tuple (zaa (zbM (N:=["_law_letter","_law_found"]) (k:=1) (js:=[0]) rfl (zeU (sup:=zes ⟨.function,[(".0",.local),("_law_found",.cell),("tuple",.globalImplicit),("_law_letters_here",.free)],false,false,[]⟩ (zac zbP)) (XN:=["_law_found","_law_letters_here"]) rfl rfl (by decide +kernel)) (by decide) (zbJ (by decide)) (zbg (zab 1)) ⟨λ_ _ _ _ _=>(zai (i:=0) (by show(["_law_letter","_law_found"]:List Str).Nodup;decide +kernel) rfl (Or.inl rfl)),λ_ _ _ _ _=>zcc,λ_ _ _ _ _=>(ziW (hu1 hu) (zab 1) (zab 0))⟩) zad))⟩) zad))))))),λds Q h=>?_⟩
 obtain⟨sh,ts,rfl,fit,hts,h1,h4,hpat,q⟩:=h;have hsz:=sizeLine_eq;walk_at "pu";walk_at "auto";obtain⟨Iv,hIv⟩:∃Iv:Nat->PEnv->Prop,∀i ρ,Iv i ρ↔∃(s:List Asc) (v1 v2 v3 v4 v5 v6 v7:Option (PV×Bool)),ρ=[some (PV.lst (sh.map ltsP),false),some (PV.lst (ts.map tabP),false),some (PV.lst (s.map dP),false),v1,v2,v3,v4,v5,v6,v7]/\Upto sh ts i s:=⟨_,λ_ _=>Iff.rfl⟩;refine⟨Iv,(hIv _ _).mpr ⟨[[]],_,_,_,_,_,_,_,rfl,Upto.zero sh ts⟩,?_,?_⟩
 ·intro i d ρ hd hI;obtain⟨s,v1,v2,v3,v4,v5,v6,v7,rfl,U⟩:=(hIv _ _).mp hI;obtain⟨x,y,hx,hy,rfl⟩:=zfu hd;rw[Xk]at hx hy;cases hp:sh[i]? with
  | none=>rw[hp]at hx;cases hx
  | some p=>
  cases ht:ts[i]? with
  | none=>rw[ht]at hy;cases hy
  | some t=>
   rw[hp]at hx;cases hx;rw[ht]at hy;cases hy;have hi:=(Xc.mp hp).1;have hp4:=(hpat p (Xr hp)).2;have ht4:=fit.few t (Xr ht);have hpi:sh.getD i []=p:=by rw[Xn,hp];rfl
   have hrow:∀r∈t,r.length=p.length:=λr hr=>by rw[<- hpi];exact fit.row i t ht r hr
   have few:s.length<=64:=XB U.few (Nat.pow_le_pow_right (show 4 > 0 by decide) (show i<=3 by lia));have U':=U.step hp ht hp4 ht4 hrow;refine⟨_,rfl,rfl,_,_,rfl,_,_,rfl,rfl,?_⟩;walk_at "go";refine⟨by lia,?_⟩;walk_at "go";obtain⟨Iw,hIw⟩:∃Iw:Nat->PEnv->Prop,∀j ρ,Iw j ρ↔∃(m:List Asc) (v4 v5 v6 v7:Option (PV×Bool)),ρ=[some (PV.lst (sh.map ltsP),false),some (PV.lst (ts.map tabP),false),some (PV.lst (s.map dP),false),some (PV.tup (p.map PV.str),false),some (tabP t,false),some (PV.lst (m.map dP),true),v4,v5,v6,v7]/\m=zgn (s.take j) (p,t)/\m.length<=4*j:=⟨_,λ_ _=>Iff.rfl⟩;refine⟨Iw,(hIw _ _).mpr ⟨[],_,_,_,_,rfl,rfl,XT _⟩,?_,?_⟩
   ·intro j d ρ hd hI;obtain⟨m,w4,w5,w6,w7,rfl,hm,hml⟩:=(hIw _ _).mp hI;rw[Xk]at hd;cases hD:s[j]? with
    | none=>rw[hD]at hd;cases hd
    | some D=>
     rw[hD]at hd;cases hd;have hDm:=Xr hD;have hDn:=U.nd D hDm;have hDl:=U.len D hDm;have hj:=(Xc.mp hD).1;have hnext:zgn (s.take (j+1)) (p,t)=m++t.filterMap λr=>zaM D (p.zip r):=by
      rw[(take_snoc hD).symm,hm];unfold zgn;rw[List.flatMap_append,List.flatMap_singleton]
     walk_at "go";obtain⟨Ix,hIx⟩:∃Ix:Nat->PEnv->Prop,∀k ρ,Ix k ρ↔∃(m':List Asc) (v5 v6 v7:Option (PV×Bool)),ρ=[some (PV.lst (sh.map ltsP),false),some (PV.lst (ts.map tabP),false),some (PV.lst (s.map dP),false),some (PV.tup (p.map PV.str),false),some (tabP t,false),some (PV.lst (m'.map dP),true),some (dP D,false),v5,v6,v7]/\m'=m++(t.take k).filterMap (λr=>zaM D (p.zip r))/\m'.length<=m.length+k:=⟨_,λ_ _=>Iff.rfl⟩;refine⟨t.map rowP,rfl,Ix,(hIx _ _).mpr ⟨m,_,_,_,rfl,by simp,Xi _⟩,?_,?_⟩
     ·intro k d ρ hd hI;obtain⟨m',y5,y6,y7,rfl,hm',hml'⟩:=(hIx _ _).mp hI;rw[Xk]at hd;cases hr:t[k]? with
      | none=>rw[hr]at hd;cases hd
      | some r=>
       rw[hr]at hd;cases hd;have hk:=(Xc.mp hr).1;have hrl:=hrow r (Xr hr);have hnx:m++(t.take (k+1)).filterMap (λr=>zaM D (p.zip r))=m'++([r].filterMap λr=>zaM D (p.zip r)):=by
        rw[(take_snoc hr).symm,List.filterMap_append,<- List.append_assoc,<- hm']
       walk_at "go";refine⟨D,rfl,rfl,p,rfl,r,rfl,hDn,by lia,by lia,by lia,λD' hj'=>?_,λhj'=>?_⟩
       ·have e1:([r].filterMap λr=>zaM D (p.zip r))=[D']:=by rw[YF,hj'];rfl
        walk_at "go";walk_at "go";refine⟨by rw[Xb];lia,(hIx _ _).mpr ⟨m'++[D'],_,_,_,by rw[Xt];rfl,by rw[hnx,e1],by rw[Xj,XV];lia⟩⟩
       ·have e1:([r].filterMap λr=>zaM D (p.zip r))=[]:=by rw[YF,hj'];rfl
        walk_at "go";walk_at "go";exact(hIx _ _).mpr ⟨m',_,_,_,rfl,by rw[hnx,e1,Yn],by lia⟩
     ·intro ρ hI;obtain⟨m',y5,y6,y7,rfl,hm',hml'⟩:=(hIx _ _).mp hI;rw[Xb]at hm' hml';refine(hIw _ _).mpr ⟨m',_,_,_,_,rfl,?_,by lia⟩;rw[hnext,hm',Xv (Xi _)]
   ·intro ρ hI;obtain⟨m,w4,w5,w6,w7,rfl,hm,hml⟩:=(hIw _ _).mp hI;walk_at "go";refine(hIv _ _).mpr ⟨m,_,_,_,_,_,_,_,rfl,?_⟩;rw[hm,Xb,Xv (Xi _)];exact U'
 ·intro ρ hI;obtain⟨s,v1,v2,v3,v4,v5,v6,v7,rfl,U⟩:=(hIv _ _).mp hI;rw[zfv,Xb,Xb,hts,Nat.min_self]at U;have hans:s=ansL sh ts:=by rw[U.eq,Xv (by rw[Ys];lia)];rfl
  walk_at "go";have hfl:sh.flatten.length<=16:=by
   have:=zfC (g:=id) (b:=4) sh λx hx=>(hpat x hx).2;rw[List.flatMap_id]at this;lia
  refine⟨sh,rfl,by lia,λzs hz hzl=>?_⟩;have hzn:zs≠[]:=λe=>by
   obtain⟨p,hp⟩:∃p,p∈sh:=List.exists_mem_of_length_pos (by lia);obtain⟨l,hl⟩:=List.exists_mem_of_ne_nil _ (hpat p hp).1;have:=(hz l).mpr (List.mem_flatten.mpr ⟨p,hp,hl⟩);rw[e]at this;cases this
  walk_at "go";have few:s.length<=256:=XB U.few (Nat.pow_le_pow_right (show 4 > 0 by decide) h4);refine⟨by rw[Xb];lia,λi out=>out=(s.take i).map λD=>PV.tup ((zs.map λl=>(D.lookup l).getD 0).map PV.int),rfl,?_,?_⟩
  ·rintro i d out hd-rfl;rw[Xk]at hd;cases hD:s[i]? with
   | none=>rw[hD]at hd;cases hd
   | some D=>
    rw[hD]at hd;cases hd;have hDm:=Xr hD;refine⟨by rw[Xb];lia,λj out=>out=(zs.take j).map λl=>PV.int ((D.lookup l).getD 0),rfl,?_,?_⟩
    ·rintro j d out hd-rfl;rw[Xk]at hd;cases hl:zs[j]? with
     | none=>rw[hl]at hd;cases hd
     | some l=>
      rw[hl]at hd;cases hd;obtain⟨p,hp,hlp⟩:=List.mem_flatten.mp ((hz l).mp (Xr hl));have hk:=U.keys D hDm p (by rw[Xv (Xi _)];exact hp) l hlp;obtain⟨v,hv⟩:=zdY hk;refine⟨_,_,rfl,.inr l,rfl,PV.int v,by rw[zoJ,hv];rfl,?_⟩;show _=_;rw[<- take_snoc hl,Xt,List.map_singleton,hv];rfl
    ·rintro out-rfl;rw[Xb,Xv (Xi _)];show _=_;rw[<- take_snoc hD,Xt,List.map_singleton,YM];rfl
  ·rintro out-rfl;rw[Xb,Xv (Xi _)];refine⟨s.map λD=>zs.map λl=>(D.lookup l).getD 0,by rw[YM];rfl,λr hr=>?_,λys hys hym=>q _ ?_⟩
   ·obtain⟨D,_,rfl⟩:=XA.mp hr;exact λe=>hzn (List.map_eq_nil_iff.mp e)
   ·rw[Xb,hys,Xb,hans]
end
noncomputable abbrev zdf:Stmt:=(zfZ (top 6)).getD 0 (.Pass ⟨0,0,0,0⟩)
noncomputable abbrev zee:Stmt:=(zfZ (top 6)).getD 1 (.Pass ⟨0,0,0,0⟩)
noncomputable abbrev zbo:Stmt:=(zfZ (top 6)).getD 2 (.Pass ⟨0,0,0,0⟩)
noncomputable abbrev zfg:Stmt:=(zfZ (top 6)).getD 3 (.Pass ⟨0,0,0,0⟩)
noncomputable abbrev zaC:Stmt:=(zfZ (top 6)).getD 4 (.Pass ⟨0,0,0,0⟩)
noncomputable abbrev Fan:=List (List Int×List (List Int×Nat))
noncomputable def kyT (k:List Int):List Key:=k.map Sum.inl
noncomputable def itP (e:List Int×Nat):PV:=.tup [rowP e.1,.int e.2]
noncomputable def fanP (F:Fan):PV:=.dT (F.map λe=>kyT e.1) (F.map λe=>.lst (e.2.map itP))
noncomputable def zsT (ps:List (Option Nat)):PV:=.lst ((XR ps.length).map λi=>zcB (kids ps i))
noncomputable def zpr (sh:List (List Str))(ps:List (Option Nat)):PV:=.lst ((XR ps.length).map λi=>.lst ((zbS sh ps i).map PV.str))
noncomputable def talP (C:Addr)(sh:List (List Str))(ps:List (Option Nat))(r:Nat)(fs:List Fan):PV:=.obj C ["shape","root","children","bonds","fans"] [shpP sh,.int r,zsT ps,zpr sh ps,.lst (fs.map fanP)]
structure TF (K:Xa)(C:Addr):Prop where
 c:Cls K C
 shape:zcC K C "shape"
 root:zcC K C "root"
 children:zcC K C "children"
 bonds:zcC K C "bonds"
 fans:zcC K C "fans"
theorem znn {a b:List Int}(h:kyT a=kyT b):a=b:=by
 have:∀ {a b:List Int},a.map (Sum.inl:Int->Key)=b.map Sum.inl->a=b:=λ{a b} h=>by
  induction a generalizing b with
  | nil=>cases b with
   | nil=>rfl
   | cons y b=>cases h
  | cons x a ih=>cases b with
   | nil=>cases h
   | cons y b=>
    rw[Xp,Xp,List.cons.injEq]at h;rw[ih h.2,Sum.inl.inj h.1]
 exact this h
theorem zps {k:List Int}:∀(F:Fan),dgP (F.map λe=>kyT e.1) (F.map λe=>PV.lst (e.2.map itP)) (kyT k)=(F.lookup k).map λl=>PV.lst (l.map itP)
 | []=>rfl
 | (c,l)::F=>by
  have ih:=zps (k:=k) F;by_cases hk:c=k
  ·subst hk;simp[dgP]
  ·simp only[dgP,Xp,XZ,XH,Yg]at ih ⊢;rw[show(k == c)=false by rw[beq_eq_false_iff_ne];exact λz=>hk z.symm];have:¬ kyT c=kyT k:=λz=>hk (znn z);simpa[this]using ih
noncomputable def keyB (sh:List (List Str))(ps:List (Option Nat))(i:Nat)(ls:List Str)(r:List Int):List Int:=(zbS sh ps i).map (zdl ls r)
noncomputable def optF (sh:List (List Str))(ps:List (Option Nat))(fs:List Fan)(i:Nat)(ls:List Str)(r:List Int):List (List Int×Nat):=((fs.getD i []).lookup (keyB sh ps i ls r)).getD []
noncomputable def zno (sh:List (List Str))(ps:List (Option Nat))(fs:List Fan)(i:Nat)(ls:List Str)(r:List Int):Nat:=M31.sumN (optF sh ps fs i ls r) (·.2)
structure Tal (sh:List (List Str))(ps:List (Option Nat))(fs:List Fan):Prop where
 len:sh.length=ps.length
 fl:fs.length=ps.length
 few:ps.length<=100
 wid:∀p∈sh,p.length<=1000
theorem zkm (sh:List (List Str))(ps:List (Option Nat))(i:Nat)(h:∀p∈sh,p.length<=1000):(zbS sh ps i).length<=1000:=by
 unfold zbS;split
 ·refine XB (Yx _ _) ?_;rw[Xn];cases hp:sh[i]? with
  | none=>exact XT _
  | some p=>exact h p (Xr hp)
 ·exact XT _
noncomputable def zcI (C:Addr):PF:=λds Q=>∃sh ps r fs i ls rr,ds=[talP C sh ps r fs,.int (i:Nat),zbB ls rr]/\Tal sh ps fs/\i<ps.length/\ls.length=rr.length/\(∀l∈zbS sh ps i,l∈ls)/\Q (.lst ((optF sh ps fs i ls rr).map itP)) .frz
theorem ziA {C:Addr}:zbs (zcI C):=λds Q Q' m q193q=>by obtain⟨a,b,c,d,e,f,g,h,h1,h2,h3,h4,q⟩:=q193q;exact⟨a,b,c,d,e,f,g,h,h1,h2,h3,h4,m _ _ q⟩
noncomputable def zgh (C:Addr):PF:=λds Q=>∃sh ps r fs i ls rr,ds=[talP C sh ps r fs,.int (i:Nat),zbB ls rr]/\Tal sh ps fs/\i<ps.length/\ls.length=rr.length/\(∀l∈zbS sh ps i,l∈ls)/\(optF sh ps fs i ls rr).length<=1000/\Q (.int (zno sh ps fs i ls rr)) .frz
theorem ziB {C:Addr}:zbs (zgh C):=λds Q Q' m q194q=>by obtain⟨a,b,c,d,e,f,g,h,h1,h2,h3,h4,h5,q⟩:=q194q;exact⟨a,b,c,d,e,f,g,h,h1,h2,h3,h4,h5,m _ _ q⟩
theorem zho {f:Nat->PV}{n i:Nat}(h:i<n):atI ((XR n).map f) ((i:Nat):Int)=some (f i):=zbw (by rw[Xk,Yv h];rfl)
theorem zsU {fs:List Fan}{i:Nat}(h:i<fs.length):atI (fs.map fanP) ((i:Nat):Int)=some (fanP (fs.getD i [])):=zbw (by rw[Xk,Xn,Xd h];rfl)
theorem zkn {α:Type}(g:α->Nat):∀l:List α,(l.map λe=>(g e:Int)).sum=((M31.sumN l g:Nat):Int)
 | []=>rfl
 | e::l=>by rw[Xp,List.sum_cons,zkn g l,M31.zar];lia
section
variable {P:Program}{w:World}{K:Xa}{mg:Str->Option Value}{base:Heap}
theorem ziC:zau ["self","i","known"] ["self","i","known"] (zac zbo):=⟨rfl,rfl,rfl,by decide +kernel,rfl,by decide +kernel,by decide +kernel⟩
theorem zlc {C f f1:Addr}{fd fd1:FuncData}(F:Fun K "options" "Tally.options" zbo f fd) (T:TF K C) (CellsAt:Fx K mg "cells_at" zba ["known","letters"] f1 fd1) (B:Bl mg):FnOk P w K mg base CX0 2 f fd ["self","i","known"] (spP K (zcI C)):=by
 have GCellsAt:FnOk P w K mg base CX0 1 f1 fd1 ["known","letters"] (spP K zaJ):=zgC CellsAt.fn B;refine zaB F ziC (λds Q q195q=>by obtain⟨a,b,c,d,e,f,g,h,_⟩:=q195q;rw[h];rfl) (λcdv A outer s H E hr=>?_);have hu:(A.deeper (envOfC "Tally.options" (zac zbo) s.heap.objs.size f cdv)).units+16<cLine:=by have q:=hr.units;lia
 have nd:=ziC.nd;refine⟨_,(zaf (zaw (zoq (hu1 hu) (zax (zgy T.c T.fans (zab 0)) (zab 1)) (zao GCellsAt zfl hr rfl CellsAt.mg CellsAt.fn.kp CellsAt.bd (zaa (zab 2) (zaa (zax (zgy T.c T.bonds (zab 0)) (zab 1)) zad))) (zbp zad)))),λds Q h=>?_⟩;obtain⟨sh,ps,r,fs,i,ls,rr,rfl,T1,hi,hl,hb,q⟩:=h;have hsz:=sizeLine_eq;walk_at "pu";refine⟨_,_,rfl,_,rfl,_,.inl ⟨_,.inl rfl,zsU (by rw[T1.fl];exact hi)⟩,_,_,rfl,_,_,rfl,_,rfl,_,.inl ⟨_,.inl rfl,zho hi⟩,ls,rfl,rr,rfl,zbS sh ps i,rfl,hl,hb,zkm sh ps i T1.wid,kyT (keyB sh ps i ls rr),?_,XT _,?_⟩
 ·unfold keyT kyT keyB;rw[YM,YM];rfl
 ·rw[zps];have e:((((fs.getD i []).lookup (keyB sh ps i ls rr)).map λl=>PV.lst (l.map itP)).getD (PV.lst []))=PV.lst ((optF sh ps fs i ls rr).map itP):=by
   unfold optF;cases (fs.getD i []).lookup (keyB sh ps i ls rr)<;>rfl
  rw[e];exact q
theorem zpt:zau ["self","i","known"] ["self","i","known"] (zac zfg):=⟨rfl,rfl,rfl,by decide +kernel,rfl,by decide +kernel,by decide +kernel⟩
theorem znp {C f f1 f2:Addr}{fd fd1 fd2:FuncData}(F:Fun K "ways" "Tally.ways" zfg f fd) (T:TF K C) (CellsAt:Fx K mg "cells_at" zba ["known","letters"] f1 fd1) (Options:Mx K C "options" "Tally.options" zbo ["self","i","known"] f2 fd2) (B:Bl mg):FnOk P w K mg base CX0 3 f fd ["self","i","known"] (spP K (zgh C)):=by
 have GOptions:FnOk P w K mg base CX0 2 f2 fd2 ["self","i","known"] (spP K (zcI C)):=zlc Options.fn T CellsAt B;refine zaB F zpt (λds Q q196q=>by obtain⟨a,b,c,d,e,f,g,h,_⟩:=q196q;rw[h];rfl) (λcdv A outer s H E hr=>?_);have hu:(A.deeper (envOfC "Tally.ways" (zac zfg) s.heap.objs.size f cdv)).units+16<cLine:=by have q:=hr.units;lia
 have nd:=zpt.nd;refine⟨_,(zaf (zaw (zsK rfl rfl B.sum (zaa (zbM (N:=["row","ways"]) (k:=2) (js:=[]) rfl (zeU (sup:=zac zfg) (XN:=["self","i","known"]) rfl rfl (by decide +kernel)) (by decide) (zlU (loc2 (by decide) (by decide))) (zbg (zgZ T.c Options.me GOptions ziA hr Options.bd (zab 0) (zaa (zab 1) (zaa (zab 2) zad)))) ⟨λ_ _ _ _ _=>(zej (n:=2) rfl (zaH (zai (i:=0) (by show(["row","ways"]:List Str).Nodup;decide +kernel) rfl (Or.inl rfl)) (zaH (zai (i:=1) (by show(["row","ways"]:List Str).Nodup;decide +kernel) rfl (Or.inl rfl)) zcT))),λ_ _ _ _ _=>zcc,λ_ _ _ _ _=>(zab 1)⟩) zad)))),λds Q h=>?_⟩;obtain⟨sh,ps,r,fs,i,ls,rr,rfl,T1,hi,hl,hb,h1000,q⟩:=h;have hsz:=sizeLine_eq;walk_at "pu";refine⟨_,⟨_,rfl⟩,by decide,sh,ps,r,fs,rfl,i,rfl,ls,rfl,rr,rfl,T1,hi,hl,hb,by rw[Xb];lia,λk out=>out=(((optF sh ps fs i ls rr).take k).map λe=>(e.2:Int)).map PV.int,rfl,?_,?_⟩
 ·rintro k d out hd-rfl;rw[Xk]at hd;cases he:(optF sh ps fs i ls rr)[k]? with
  | none=>rw[he]at hd;cases hd
  | some e=>
   rw[he]at hd;cases hd;refine⟨_,rfl,rfl,_,_,rfl,_,_,rfl,rfl,?_⟩;show _=_;rw[<- take_snoc he,Xt,Xt];rfl
 ·rintro out-rfl;rw[Xb,Xv (Xi _)];refine⟨_,rfl,?_⟩;rw[zkn];exact q
end
section
variable (sh:List (List Str))(ps:List (Option Nat))(ts:List (List (List Int)))
noncomputable def wB:Nat->Nat->List Int->Nat
 | 0,_,_=>1
 | t+1,i,r=>M31.zbm (kids ps i) λc=>M31.sumN ((ts.getD c []).filter λr'=>decide (keyB sh ps c (sh.getD c []) r'=keyB sh ps c (sh.getD i []) r)) (wB t c)
noncomputable def addF:Fan->List Int->List Int×Nat->Fan
 | [],k,x=>[(k,[x])]
 | (c,l)::F,k,x=>if c=k then(c,l++[x])::F else(c,l)::addF F k x
theorem zdQ (c:List Int)(l:List (List Int×Nat))(F:Fan)(k:List Int)(x:List Int×Nat):addF ((c,l)::F) k x=if c=k then(c,l++[x])::F else(c,l)::addF F k x:=rfl
noncomputable def fanG (i:Nat)(l:List (List Int)):Fan:=l.foldl (λF r=>addF F (keyB sh ps i (sh.getD i []) r) (r,wB sh ps ts 5 i r)) []
noncomputable def fanT (i:Nat):Fan:=fanG sh ps ts i (ts.getD i [])
end
theorem ziD {k k':List Int}{x:List Int×Nat}:∀F:Fan,((addF F k x).lookup k').getD []=if k'=k then(F.lookup k').getD []++[x] else(F.lookup k').getD []
 | []=>by
  unfold addF;rw[XH,List.lookup_nil];by_cases h:k'=k
  ·rw[if_pos h,show(k' == k)=true from beq_iff_eq.mpr h];rfl
  ·rw[if_neg h,show(k' == k)=false from beq_eq_false_iff_ne.mpr h]
 | (c,l)::F=>by
  unfold addF;by_cases hc:c=k
  ·rw[if_pos hc,XH,XH];subst hc;by_cases h:k'=c
   ·rw[if_pos h,show(k' == c)=true from beq_iff_eq.mpr h];rfl
   ·rw[if_neg h,show(k' == c)=false from beq_eq_false_iff_ne.mpr h]
  ·rw[if_neg hc,XH,XH];by_cases h:k'=c
   ·rw[show(k' == c)=true from beq_iff_eq.mpr h,if_neg (by rw[h];exact hc)]
   ·rw[show(k' == c)=false from beq_eq_false_iff_ne.mpr h];exact ziD F
theorem ziE (g:List Int->List Int)(v:List Int->Nat)(k:List Int):∀(l:List (List Int))(F:Fan),((l.foldl (λF r=>addF F (g r) (r,v r)) F).lookup k).getD []=(F.lookup k).getD []++(l.filter λr=>decide (g r=k)).map λr=>(r,v r)
 | [],F=>by simp
 | r::l,F=>by
  rw[List.foldl_cons,ziE g v k l,ziD];by_cases h:g r=k
  ·rw[if_pos h.symm,Yo (p:=λr=>decide (g r=k)) (decide_eq_true h),Xp,List.append_assoc];rfl
  ·rw[if_neg (λz=>h z.symm),Yp (p:=λr=>decide (g r=k)) (by rw[decide_eq_true_eq];exact h)]
theorem zjh {sh:List (List Str)}{ps:List (Option Nat)}{ts:List (List (List Int))}{fs:List Fan}{c:Nat}{ls:List Str}{r:List Int}(h:fs.getD c []=fanT sh ps ts c):optF sh ps fs c ls r=((ts.getD c []).filter λr'=>decide (keyB sh ps c (sh.getD c []) r'=keyB sh ps c ls r)).map λr'=>(r',wB sh ps ts 5 c r'):=by
 unfold optF;rw[h];unfold fanT fanG;rw[ziE];rfl
theorem zko {sh:List (List Str)}{ps:List (Option Nat)}{ts:List (List (List Int))}{fs:List Fan}{c:Nat}{ls:List Str}{r:List Int}(h:fs.getD c []=fanT sh ps ts c):zno sh ps fs c ls r=M31.sumN ((ts.getD c []).filter λr'=>decide (keyB sh ps c (sh.getD c []) r'=keyB sh ps c ls r)) (wB sh ps ts 5 c):=by
 unfold zno;rw[zjh h,M31.zfx]
theorem zcd {ps:List (Option Nat)}{i c:Nat}:c∈kids ps i↔ps[c]? = some (some i):=by
 unfold kids;rw[Yz,Yj,beq_iff_eq];exact⟨λh=>h.2,λh=>⟨(Xc.mp h).1,h⟩⟩
theorem zgi {sh:List (List Str)}{ps:List (Option Nat)}{ts:List (List (List Int))}{rk:Nat->Nat}(R:zdN ps rk):∀(t t' i:Nat)(r:List Int),rk i<t->rk i<t'->wB sh ps ts t i r=wB sh ps ts t' i r
 | 0,_,_,_,h,_=>absurd h (YA _)
 | _+1,0,_,_,_,h=>absurd h (YA _)
 | t+1,t'+1,i,r,h,h'=>by
  refine M31.zaQ λc hc=>M31.zap λr' _=>?_;have:=R.lt c i (zcd.mp hc);exact zgi R t t' c r' (by lia) (by lia)
noncomputable def MB:Nat->Nat
 | 0=>1
 | t+1=>(4*MB t) ^ 4
theorem zpu:∀t,1<=MB t
 | 0=>Xi _
 | t+1=>Nat.pow_pos (by have:=zpu t;lia)
theorem zpv {α:Type}{f:α->Nat}{b:Nat}:∀ {l:List α},(∀a∈l,f a<=b)->M31.sumN l f<=l.length*b
 | [],_=>XT _
 | a::l,h=>by
  have h1:=h a (Xh ..);have h2:=zpv (l:=l) λx hx=>h x (Xf _ hx);rw[M31.zar,XG,Nat.succ_mul];lia
theorem zji {α:Type}{f:α->Nat}{b:Nat}(hb:1<=b):∀ {l:List α}(m:Nat),l.length<=m->(∀a∈l,f a<=b)->M31.zbm l f<=b ^ m
 | [],m,_,_=>Nat.pow_pos (by lia)
 | a::l,0,h,_=>absurd h (Nat.not_succ_le_zero _)
 | a::l,m+1,h,hf=>by
  rw[M31.zas,Nat.pow_succ,Nat.mul_comm];exact Nat.mul_le_mul (zji hb m (Nat.le_of_succ_le_succ h) λx hx=>hf x (Xf _ hx)) (hf a (Xh ..))
theorem zkp {ps:List (Option Nat)}{i:Nat}(h:ps.length<=4):(kids ps i).length<=4:=by
 unfold kids;refine XB (Yx _ _) ?_;rw[Yl];exact h
theorem zhp {ts:List (List (List Int))}{c:Nat}(h:∀t∈ts,t.length<=4):(ts.getD c []).length<=4:=by
 rw[Xn];cases ht:ts[c]? with
 | none=>exact XT _
 | some t=>exact h t (Xr ht)
theorem znq {ts:List (List (List Int))}{c b:Nat}{p:List Int->Bool}{f:List Int->Nat}(h:∀t∈ts,t.length<=4)(hf:∀r,f r<=b):M31.sumN ((ts.getD c []).filter p) f<=4*b:=
 XB (zpv λr _=>hf r) (Nat.mul_le_mul_right b (XB (Yx _ _) (zhp h)))
theorem zsV {sh:List (List Str)}{ps:List (Option Nat)}{ts:List (List (List Int))}(h4:ps.length<=4)(ht:∀t∈ts,t.length<=4):∀t i r,wB sh ps ts t i r<=MB t
 | 0,_,_=>Xi _
 | t+1,i,r=>zji (by have:=zpu t;lia) 4 (zkp h4) λc _=>znq ht λr'=>zsV h4 ht t c r'
structure TalT (sh:List (List Str))(ps:List (Option Nat))(ts:List (List (List Int)))(rk:Nat->Nat):Prop where
 len:sh.length=ps.length
 few:ps.length<=4
 wid:∀p∈sh,p.length<=4
 nd:∀p∈sh,p.Nodup
 tl:ts.length=sh.length
 t4:∀t∈ts,t.length<=4
 row:∀(i:Nat) (t:List (List Int)),ts[i]? = some t->∀r∈t,r.length=(sh.getD i []).length
 rkd:zdN ps rk
 par:∀c p:Nat,ps[c]? = some (some p)->p<ps.length
theorem TalT.tal {sh:List (List Str)}{ps:List (Option Nat)}{ts:List (List (List Int))}{rk:Nat->Nat}{fs:List Fan}(T:TalT sh ps ts rk)(h:fs.length=ps.length):Tal sh ps fs:=
 ⟨T.len,h,XB T.few (by decide),λp hp=>XB (T.wid p hp) (by decide)⟩
theorem zoK {sh:List (List Str)}{ps:List (Option Nat)}{c i:Nat}(h:ps[c]? = some (some i)):∀l∈zbS sh ps c,l∈sh.getD i []:=λl hl=>by
 unfold zbS at hl;rw[h]at hl;exact of_decide_eq_true (Yz.mp hl).2
theorem zoL {sh:List (List Str)}{ps:List (Option Nat)}{c:Nat}:∀l∈zbS sh ps c,l∈sh.getD c []:=λl hl=>by
 unfold zbS at hl;split at hl
 ·exact(Yz.mp hl).1
 ·cases hl
noncomputable def zaP (C:Addr):PF:=λds Q=>∃sh ps r fs i rr ts rk,ds=[talP C sh ps r fs,.int (i:Nat),zbB (sh.getD i []) rr]/\TalT sh ps ts rk/\fs.length=ps.length/\i<ps.length/\rk i<5/\(sh.getD i []).length=rr.length/\(∀c∈kids ps i,fs.getD c []=fanT sh ps ts c)/\Q (.int (wB sh ps ts 5 i rr)) .frz
theorem zfp {C:Addr}:zbs (zaP C):=λds Q Q' m q197q=>by obtain⟨a,b,c,d,e,f,g,g',h,h1,h2,h3,h4,h5,h6,q⟩:=q197q;exact⟨a,b,c,d,e,f,g,g',h,h1,h2,h3,h4,h5,h6,m _ _ q⟩
noncomputable def znr (C:Addr):PF:=λds Q=>∃sh ps r fs i ts rk,ds=[talP C sh ps r fs,.int (i:Nat),tabP (ts.getD i [])]/\TalT sh ps ts rk/\fs.length=ps.length/\i<ps.length/\rk i<5/\(∀c∈kids ps i,fs.getD c []=fanT sh ps ts c)/\Q (fanP (fanT sh ps ts i)) .frz
theorem zld {C:Addr}:zbs (znr C):=λds Q Q' m q198q=>by obtain⟨a,b,c,d,e,f,g,h,h1,h2,h3,h4,h5,q⟩:=q198q;exact⟨a,b,c,d,e,f,g,h,h1,h2,h3,h4,h5,m _ _ q⟩
theorem zpw {n:Nat}(h:n<=(4*MB 4) ^ 4):(n:Int).natAbs<2 ^ 4000:=by
 rw[Int.natAbs_natCast];exact Nat.lt_of_le_of_lt h (by decide +kernel)
theorem ziF {α:Type}(f:α->Nat)(a:α):∀l:List α,M31.zbm (l++[a]) f=M31.zbm l f*f a
 | []=>by show f a*1=1*f a;lia
 | b::l=>by rw[YB,M31.zas,M31.zas,ziF f a l,Nat.mul_assoc]
noncomputable def ksF (F:Fan):List (List Key):=F.map λe=>kyT e.1
noncomputable def dsF (F:Fan):List PV:=F.map λe=>PV.lst (e.2.map itP)
theorem zle {c k:List Key}{ks:List (List Key)}{d:PV}{ds:List PV}(h:c≠k):zbE (c::ks) (d::ds) k=(c::(zbE ks ds k).1,d::(zbE ks ds k).2):=by
 have e:hasT (c::ks) k=hasT ks k:=by
  unfold hasT;rw[List.any_cons,decide_eq_false h,Bool.false_or]
 unfold zbE;rw[e];by_cases hk:hasT ks k=true
 ·rw[if_pos hk,if_pos hk]
 ·rw[if_neg hk,if_neg hk];rfl
theorem zkq {c k:List Key}{ks:List (List Key)}(h:c≠k):ixK (c::ks) k=ixK ks k+1:=by
 unfold ixK;simp[List.findIdx_cons,h]
theorem zfD {k:List Key}{ks:List (List Key)}:ixK (k::ks) k=0:=by
 unfold ixK;simp[List.findIdx_cons]
theorem zkr (k:List Int)(x:List Int×Nat):∀F:Fan,∃es:List PV,(zbE (ksF F) (dsF F) (kyT k)).2[ixK (zbE (ksF F) (dsF F) (kyT k)).1 (kyT k)]? = some (.lst es)/\es.length<=M31.sumN F (λe=>e.2.length)/\
  (zbE (ksF F) (dsF F) (kyT k)).1=ksF (addF F k x)/\(zbE (ksF F) (dsF F) (kyT k)).2.set (ixK (zbE (ksF F) (dsF F) (kyT k)).1 (kyT k)) (.lst (es++[itP x]))=dsF (addF F k x)
 | []=>by
  have e:zbE (ksF []) (dsF []) (kyT k)=([kyT k],[.lst []]):=rfl;rw[e];refine⟨[],?_,XT _,rfl,?_⟩
  ·show[PV.lst []][ixK [kyT k] (kyT k)]? = _;rw[zfD];rfl
  ·show[PV.lst []].set (ixK [kyT k] (kyT k)) _=_;rw[zfD];rfl
 | (c,l)::F=>by
  by_cases h:c=k
  ·subst h;have e:zbE (ksF ((c,l)::F)) (dsF ((c,l)::F)) (kyT c)=(kyT c::ksF F,.lst (l.map itP)::dsF F):=by
    have e0:hasT (ksF ((c,l)::F)) (kyT c)=true:=zhe.mpr (Xh ..);unfold zbE;rw[if_pos e0];rfl
   have ea:addF ((c,l)::F) c x=(c,l++[x])::F:=by rw[zdQ,if_pos rfl]
   rw[e,ea];refine⟨l.map itP,?_,?_,rfl,?_⟩
   ·show(PV.lst (l.map itP)::dsF F)[ixK (kyT c::ksF F) (kyT c)]? = _;rw[zfD];rfl
   ·rw[M31.zar,Xb];show l.length<=l.length+_;lia
   ·show(PV.lst (l.map itP)::dsF F).set (ixK (kyT c::ksF F) (kyT c)) _=_;rw[zfD,List.set_cons_zero];unfold dsF;rw[Xp,Xt];rfl
  ·have hne:kyT c≠kyT k:=λz=>h (znn z);have e:zbE (ksF ((c,l)::F)) (dsF ((c,l)::F)) (kyT k)=(kyT c::(zbE (ksF F) (dsF F) (kyT k)).1,.lst (l.map itP)::(zbE (ksF F) (dsF F) (kyT k)).2):=zle hne;have ea:addF ((c,l)::F) k x=(c,l)::addF F k x:=by rw[zdQ,if_neg h]
   obtain⟨es,h1,h2,h3,h4⟩:=zkr k x F;rw[e,ea];refine⟨es,?_,?_,?_,?_⟩
   ·show(PV.lst (l.map itP)::(zbE (ksF F) (dsF F) (kyT k)).2)[ixK (kyT c::(zbE (ksF F) (dsF F) (kyT k)).1) (kyT k)]? = _;rw[zkq hne,List.getElem?_cons_succ];exact h1
   ·rw[M31.zar];lia
   ·show kyT c::_=kyT c::ksF (addF F k x);rw[h3]
   ·show(PV.lst (l.map itP)::(zbE (ksF F) (dsF F) (kyT k)).2).set (ixK (kyT c::(zbE (ksF F) (dsF F) (kyT k)).1) (kyT k)) _=PV.lst (l.map itP)::dsF (addF F k x);rw[zkq hne,List.set_cons_succ,h4]
theorem zks (k:List Int)(x:List Int×Nat):∀F:Fan,M31.sumN (addF F k x) (λe=>e.2.length)=M31.sumN F (λe=>e.2.length)+1/\(addF F k x).length<=F.length+1
 | []=>⟨rfl,Xi _⟩
 | (c,l)::F=>by
  by_cases h:c=k
  ·rw[show addF ((c,l)::F) k x=(c,l++[x])::F by rw[zdQ,if_pos h]];refine⟨?_,YN _⟩;rw[M31.zar,M31.zar,Xj,XV];show l.length+1+_=l.length+_+1;lia
  ·rw[show addF ((c,l)::F) k x=(c,l)::addF F k x by rw[zdQ,if_neg h]];obtain⟨q1,q2⟩:=zks k x F;refine⟨?_,by rw[XG,XG];lia⟩;rw[M31.zar,M31.zar,q1];lia
theorem ziG:∀ {l:List Str},l.Nodup->(l.map (Sum.inr:Str->Key)).Nodup
 | [],_=>List.nodup_nil
 | a::l,h=>by
  rw[XX]at h;rw[Xp,XX];refine⟨λz=>?_,ziG h.2⟩;obtain⟨b,h1,h2⟩:=XA.mp z;cases h2;exact h.1 h1
section
variable {P:Program}{w:World}{K:Xa}{mg:Str->Option Value}{base:Heap}
theorem zeP:zau ["self","i","known","product","child"] ["self","i","known"] (zac zaC):=⟨rfl,rfl,rfl,by decide +kernel,rfl,by decide +kernel,by decide +kernel⟩
theorem zgo {C f f1 f2 f3:Addr}{fd fd1 fd2 fd3:FuncData}(F:Fun K "ways_beneath" "Tally.ways_beneath" zaC f fd) (T:TF K C) (CellsAt:Fx K mg "cells_at" zba ["known","letters"] f1 fd1) (Options:Mx K C "options" "Tally.options" zbo ["self","i","known"] f2 fd2) (Ways:Mx K C "ways" "Tally.ways" zfg ["self","i","known"] f3 fd3) (B:Bl mg):FnOk P w K mg base CX0 4 f fd ["self","i","known"] (spP K (zaP C)):=by
 have GWays:FnOk P w K mg base CX0 3 f3 fd3 ["self","i","known"] (spP K (zgh C)):=znp Ways.fn T CellsAt Options B;refine zaB F zeP (λds Q q199q=>by obtain⟨a,b,c,d,e,f,g,g',h,_⟩:=q199q;rw[h];rfl) (λcdv A outer s H E hr=>?_);have hu:(A.deeper (envOfC "Tally.ways_beneath" (zac zaC) s.heap.objs.size f cdv)).units+16<cLine:=by have q:=hr.units;lia
 have nd:=zeP.nd;refine⟨_,(zae (zah (i:=3) nd rfl (Or.inl rfl) zag)
   (zae (zbL rfl PassesOwn.never (zbg (zax (zgy T.c T.children (zab 0)) (zab 1))) (zai (i:=4) nd rfl (Or.inl rfl)) (zaf (zah (i:=3) nd rfl (Or.inl rfl) (zqS (zab 3) (zgZ T.c Ways.me GWays ziB hr Ways.bd (zab 0) (zaa (zab 4) (zaa (zab 2) zad)))))))
   (zaf (zaw (zab 3))))),λds Q h=>?_⟩
 obtain⟨sh,ps,r,fs,i,rr,ts,rk,rfl,TT,hfl,hi,hrk,hl,hf,q⟩:=h;have hsz:=sizeLine_eq;walk_at "pu";walk_at "auto";refine⟨_,_,rfl,_,rfl,_,.inl ⟨_,.inl rfl,zho hi⟩,(kids ps i).map (λ(k:Nat)=>PV.int k),rfl,?_⟩;obtain⟨g,hg⟩:∃g:Nat->Nat,∀c,g c=M31.sumN ((ts.getD c []).filter λr'=>decide (keyB sh ps c (sh.getD c []) r'=keyB sh ps c (sh.getD i []) rr)) (wB sh ps ts 5 c):=⟨_,λ_=>rfl⟩;have hw5:∀c∈kids ps i,∀r',wB sh ps ts 5 c r'=wB sh ps ts 4 c r':=λc hc r'=>by
  have:=TT.rkd.lt c i (zcd.mp hc);exact zgi TT.rkd 5 4 c r' (by lia) (by lia)
 have hgb:∀c∈kids ps i,g c<=4*MB 4:=λc hc=>by
  rw[hg,M31.zap λr' _=>hw5 c hc r'];exact znq TT.t4 λr'=>zsV TT.few TT.t4 4 c r'
 have hk4:(kids ps i).length<=4:=zkp TT.few;have hpos:1<=4*MB 4:=by decide +kernel
 have hfin:M31.zbm (kids ps i) g=wB sh ps ts 5 i rr:=by
  rw[zgi TT.rkd 5 6 i rr hrk (by lia)];exact M31.zaQ λc _=>hg c
 obtain⟨Iv,hIv⟩:∃Iv:Nat->PEnv->Prop,∀k ρ,Iv k ρ↔∃v4:Option (PV×Bool),ρ=[some (talP C sh ps r fs,false),some (PV.int i,false),some (zbB (sh.getD i []) rr,false),some (PV.int (M31.zbm ((kids ps i).take k) g:Nat),false),v4]:=⟨_,λ_ _=>Iff.rfl⟩;refine⟨Iv,(hIv _ _).mpr ⟨none,rfl⟩,?_,?_⟩
 ·intro k d ρ hd hI;obtain⟨v4,rfl⟩:=(hIv _ _).mp hI;rw[Xk]at hd;cases hc:(kids ps i)[k]? with
  | none=>rw[hc]at hd;cases hd
  | some c=>
   rw[hc]at hd;cases hd;have hcm:=Xr hc;have hci:=zcd.mp hcm;have hcl:=(Xc.mp hci).1;have e1:zno sh ps fs c (sh.getD i []) rr=g c:=by rw[hg,zko (hf c hcm)]
   have hb1:M31.zbm ((kids ps i).take k) g<=(4*MB 4) ^ 4:=zji hpos 4 (XB (List.length_take_le' _ _) hk4) λc hc=>hgb c (List.mem_of_mem_take hc);have hb2:g c<=(4*MB 4) ^ 4:=XB (hgb c hcm) (by decide +kernel);walk_at "go";refine⟨_,⟨_,rfl⟩,by decide,sh,ps,r,fs,rfl,c,rfl,sh.getD i [],rfl,rr,rfl,TT.tal hfl,hcl,hl,zoK hci,?_,?_⟩
   ·rw[zjh (hf c hcm),Xb];exact XB (Yx _ _) (XB (zhp TT.t4) (by decide))
   ·rw[e1];refine⟨⟨zpw hb1,zpw hb2⟩,(hIv _ _).mpr ⟨some (PV.int c,false),?_⟩⟩;rw[<- take_snoc hc,ziF,Int.natCast_mul];rfl
 ·intro ρ hI;obtain⟨v4,rfl⟩:=(hIv _ _).mp hI;walk_at "go";rw[Xb,Xv (Xi _),hfin];exact q
theorem zns:zau ["self","i","table","fan","row","known","alike"] ["self","i","table"] (zac zee):=⟨rfl,rfl,rfl,by decide +kernel,rfl,by decide +kernel,by decide +kernel⟩
theorem zoM {C f f1 f2 f3 f4:Addr}{fd fd1 fd2 fd3 fd4:FuncData}(F:Fun K "fan_of" "Tally.fan_of" zee f fd) (T:TF K C) (CellsAt:Fx K mg "cells_at" zba ["known","letters"] f1 fd1) (Options:Mx K C "options" "Tally.options" zbo ["self","i","known"] f2 fd2) (Ways:Mx K C "ways" "Tally.ways" zfg ["self","i","known"] f3 fd3)
  (WaysBeneath:Mx K C "ways_beneath" "Tally.ways_beneath" zaC ["self","i","known"] f4 fd4) (B:Bl mg):FnOk P w K mg base CX0 5 f fd ["self","i","table"] (spP K (znr C)):=by
 have GWaysBeneath:FnOk P w K mg base CX0 4 f4 fd4 ["self","i","known"] (spP K (zaP C)):=zgo WaysBeneath.fn T CellsAt Options Ways B;have GCellsAt:FnOk P w K mg base CX0 4 f1 fd1 ["known","letters"] (spP K zaJ):=(zgC CellsAt.fn B).mono (by decide);refine zaB F zns (λds Q q200q=>by obtain⟨a,b,c,d,e,f,g,h,_⟩:=q200q;rw[h];rfl) (λcdv A outer s H E hr=>?_);have hu:(A.deeper (envOfC "Tally.fan_of" (zac zee) s.heap.objs.size f cdv)).units+16<cLine:=by have q:=hr.units;lia
 have nd:=zns.nd;refine⟨_,(zmO (z:=3) nd rfl (Or.inl rfl) (zjN (zqz (i:=4) nd rfl (Or.inl rfl) rfl PassesOwn.never (zbg (zab 2)) (zjN (zow (i:=5) nd rfl (Or.inl rfl) (zkU rfl rfl B.dict rfl B.zip (zaa (zax (zgy T.c T.shape (zab 0)) (zab 1)) (zaa (zab 4) zad))))
   (zmU (iy:=6) (hu1 hu) nd (zao GCellsAt zfl hr rfl CellsAt.mg CellsAt.fn.kp CellsAt.bd (zaa (zab 5) (zaa (zax (zgy T.c T.bonds (zab 0)) (zab 1)) zad))) (zjB (zaa (zab 4) (zaa (zgZ T.c WaysBeneath.me GWaysBeneath zfp hr WaysBeneath.bd (zab 0) (zaa (zab 1) (zaa (zab 5) zad))) zad))) zqy)))
   (zoj (zaf (zaw (zab 3)))))),λds Q h=>?_⟩
 obtain⟨sh,ps,r,fs,i,ts,rk,rfl,TT,hfl,hi,hrk,hf,q⟩:=h;have hsz:=sizeLine_eq;walk_at "pu";refine⟨by decide,?_⟩;walk_at "go";have ht4:=zhp (c:=i) TT.t4;have hsi:sh[i]? = some (sh.getD i []):=by rw[Xn,Xd (show i<sh.length by rw[TT.len];exact hi)];rfl
 have hti:ts[i]? = some (ts.getD i []):=by rw[Xn,Xd (show i<ts.length by rw[TT.tl,TT.len];exact hi)];rfl
 have hrow:=TT.row i _ hti;have hsnd:=TT.nd _ (Xr hsi);obtain⟨Iv,hIv⟩:∃Iv:Nat->PEnv->BX->Prop,∀k ρ β,Iv k ρ β↔∃(F:Fan) (v4 v5 v6:Option (PV×Bool)),ρ=[some (talP C sh ps r fs,false),some (PV.int i,false),some (tabP (ts.getD i []),false),none,v4,v5,v6]/\β=.T (ksF F) (dsF F)/\F=fanG sh ps ts i ((ts.getD i []).take k)/\M31.sumN F (λe=>e.2.length)<=k/\F.length<=k:=⟨_,λ_ _ _=>Iff.rfl⟩;refine⟨_,rfl,Iv,(hIv _ _ _).mpr ⟨[],none,none,none,rfl,rfl,rfl,Xi _,Xi _⟩,?_,?_⟩
 ·intro k d ρ β hd hI;obtain⟨F,v4,v5,v6,rfl,rfl,hF,hF1,hF2⟩:=(hIv _ _ _).mp hI;rw[Xk]at hd;cases hr1:(ts.getD i [])[k]? with
  | none=>rw[hr1]at hd;cases hd
  | some rr=>
   rw[hr1]at hd;cases hd;have hk:=(Xc.mp hr1).1;have hrl:=hrow rr (Xr hr1);walk_at "go";refine⟨_,_,rfl,_,rfl,_,.inl ⟨_,.inl rfl,zbw (by rw[Xk,hsi];rfl)⟩,(sh.getD i []).map Sum.inr,by rw[YM];rfl,rr.map PV.int,rfl,by rw[Xb,Xb];lia,ziG hsnd,zcx rr,?_⟩;walk_at "go";obtain⟨es,k1,k2,k3,k4⟩:=zkr (keyB sh ps i (sh.getD i []) rr) (rr,wB sh ps ts 5 i rr) F;have hkl:(ksF F).length<sizeLine:=by unfold ksF;rw[Xb];lia
   have hkey:PV.tup ((zbS sh ps i).map λl=>PV.int (zdl (sh.getD i []) rr l))=keyT (kyT (keyB sh ps i (sh.getD i []) rr)):=by
    unfold keyT kyT keyB;rw[YM,YM];rfl
   have hnm:zaG ((zbS sh ps i).map λl=>PV.int (zdl (sh.getD i []) rr l))=true:=by
    have:=zcx ((zbS sh ps i).map λl=>zdl (sh.getD i []) rr l)
    rwa [YM]at this
   refine⟨_,_,rfl,by decide,_,_,rfl,_,rfl,_,.inl ⟨_,.inl rfl,zho hi⟩,sh.getD i [],rfl,rr,rfl,zbS sh ps i,rfl,by lia,zoL,zkm sh ps i (TT.tal hfl).wid,hnm,_,hkey,hkl,es,k1,by lia,_,⟨_,rfl⟩,by decide,sh,ps,r,fs,rfl,i,rfl,rfl,rr,rfl,ts,rk,TT,hfl,hi,hrk,by lia,hf,by lia,?_,?_⟩
   ·unfold rowP;simp only[zbD];exact zcx rr
   ·obtain⟨g1,g2⟩:=zks (keyB sh ps i (sh.getD i []) rr) (rr,wB sh ps ts 5 i rr) F;walk_at "go";refine(hIv _ _ _).mpr ⟨addF F (keyB sh ps i (sh.getD i []) rr) (rr,wB sh ps ts 5 i rr),_,_,_,rfl,?_,?_,by lia,by lia⟩
    ·rw[<- k4,<- k3];rfl
    ·rw[<- take_snoc hr1];unfold fanG at hF ⊢;rw[List.foldl_append,<- hF];rfl
 ·intro ρ β hI;obtain⟨F,v4,v5,v6,rfl,rfl,hF,hF1,hF2⟩:=(hIv _ _ _).mp hI;walk_at "go";rw[Xb,Xv (Xi _)]at hF;rw[hF];exact q
end
noncomputable def Ordr (ps:List (Option Nat))(l:List Nat):Prop:=∀l1 i l2,l=l1++i::l2->∀c∈kids ps i,c∈l2
theorem Ordr.app {ps:List (Option Nat)}{a b:List Nat}(ha:Ordr ps a)(hb:Ordr ps b):Ordr ps (a++b):=λl1 i l2 h c hc=>by
 rcases List.append_eq_append_iff.mp h with ⟨w,e1,e2⟩ | ⟨w,e1,e2⟩
 ·exact hb w i l2 e2 c hc
 ·cases w with
  | nil=>
   rw[List.nil_append]at e2;exact hb [] i l2 e2.symm c hc
  | cons y w=>
   rw[YB,List.cons.injEq]at e2;obtain⟨rfl,rfl⟩:=e2;exact List.mem_append_left _ (ha l1 i w e1 c hc)
theorem Ordr.cons {ps:List (Option Nat)}{j:Nat}{b:List Nat}(hb:Ordr ps b)(hk:∀c∈kids ps j,c∈b):Ordr ps (j::b):=λl1 i l2 h c hc=>by
 cases l1 with
 | nil=>
  rw[List.nil_append,List.cons.injEq]at h;obtain⟨rfl,rfl⟩:=h;exact hk c hc
 | cons y l1=>
  rw[YB,List.cons.injEq]at h;exact hb l1 i l2 h.2 c hc
theorem Ordr.flat {ps:List (Option Nat)}{g:Nat->List Nat}:∀ {l:List Nat},(∀c∈l,Ordr ps (g c))->Ordr ps (l.flatMap g)
 | [],_=>λl1 i l2 h=>by cases l1<;>cases h
 | c::l,h=>by
  rw[Yk];exact(h c (Xh ..)).app (Ordr.flat λd hd=>h d (Xf _ hd))
theorem zhq {ps:List (Option Nat)}{t i:Nat}(h:0<t):i∈pre ps t i:=by
 cases t with
 | zero=>exact absurd h (YA _)
 | succ t=>exact Xh ..
theorem zkt {ps:List (Option Nat)}{rk:Nat->Nat}(R:zdN ps rk):∀(t j:Nat),rk j<t->Ordr ps (pre ps t j)
 | 0,_,h=>absurd h (YA _)
 | t+1,j,h=>by
  refine Ordr.cons (Ordr.flat λc hc=>zkt R t c ?_) λc hc=>YD.mpr ⟨c,hc,zhq ?_⟩
  ·have:=R.lt c j (zcd.mp hc);lia
  ·have:=R.lt c j (zcd.mp hc);lia
theorem znt {ps:List (Option Nat)}{rk:Nat->Nat}(R:zdN ps rk){p c:Nat}(hc:c∈kids ps p):∀(t j:Nat),rk j<t->p∈pre ps t j->c∈pre ps t j
 | 0,_,h,_=>absurd h (YA _)
 | t+1,j,h,hp=>by
  rcases Xu.mp hp with rfl | hp
  ·have:=R.lt c p (zcd.mp hc);exact Xf _ (YD.mpr ⟨c,hc,zhq (by lia)⟩)
  ·obtain⟨k,hk,hpk⟩:=YD.mp hp;have:=R.lt k j (zcd.mp hk);exact Xf _ (YD.mpr ⟨k,hk,znt R hc t k (by lia) hpk⟩)
theorem znu {ps:List (Option Nat)}{rk:Nat->Nat}{r:Nat}(Ld:zoH ps rk r)(hp:∀c p:Nat,ps[c]? = some (some p)->p<ps.length)(b:Nat)(hb:∀i,i<ps.length->rk i<b):∀(m i:Nat),i<ps.length->b-rk i<=m->i∈pre ps (rk r+1) r
 | 0,i,hi,hm=>by have:=hb i hi;lia
 | m+1,i,hi,hm=>by
  cases hpi:ps[i]? with
  | none=>rw[Xd hi]at hpi;cases hpi
  | some o=>
   cases o with
   | none=>
    rw[Ld.one i hpi];exact zhq (Nat.succ_pos _)
   | some p=>
    have h1:=Ld.rkd.lt i p hpi;have h2:=hb p (hp i p hpi);exact znt Ld.rkd (zcd.mpr hpi) _ _ (Nat.lt_succ_self _) (znu Ld hp b hb m p (hp i p hpi) (by lia))
noncomputable def zjj (F:Fan):Prop:=∀e∈F,e.2≠[]
theorem znv {k:List Int}{x:List Int×Nat}:∀ {F:Fan},zjj F->zjj (addF F k x)
 | [],_=>λe he=>by rw[Xq.mp he];exact λz=>nomatch z
 | (c,l)::F,h=>by
  rw[zdQ];have h2:zjj F:=λe he=>h e (Xf _ he);split
  ·intro e he;rcases Xu.mp he with rfl | he
   ·exact λz=>by simp at z
   ·exact h2 e he
  ·intro e he;rcases Xu.mp he with rfl | he
   ·exact h _ (Xh ..)
   ·exact znv h2 e he
theorem zku (g:List Int->List Int)(v:List Int->Nat):∀(l:List (List Int))(F:Fan),zjj F->zjj (l.foldl (λF r=>addF F (g r) (r,v r)) F)
 | [],F,h=>h
 | r::l,F,h=>by rw[List.foldl_cons];exact zku g v l _ (znv h)
theorem zre (sh:List (List Str))(ps:List (Option Nat))(ts:List (List (List Int)))(i:Nat):zjj (fanT sh ps ts i):=zku _ _ _ [] λe he=>nomatch he
theorem ziH:∀l:List (List Int×Nat),zaG (l.map itP)=true
 | []=>rfl
 | e::l=>by simp only[Xp,zaG,itP,rowP,zbD,zcx e.1,ziH l,Bool.and_self]
theorem zkv {F:Fan}(h:zjj F):zfa (fanP F):=by
 refine⟨_,_,rfl,λl hl=>?_⟩;obtain⟨e,he,rfl⟩:=XA.mp hl;have hn:=h e he;have nm:=ziH e.2;cases he2:e.2 with
 | nil=>exact absurd he2 hn
 | cons y ys=>
  rw[he2]at nm;exact⟨_,_,rfl,nm⟩
theorem zpx {ps:List (Option Nat)}:∀(t j i:Nat),i∈pre ps t j->i=j\/∃p:Nat,ps[i]? = some (some p)
 | 0,_,_,h=>nomatch h
 | t+1,j,i,h=>by
  rcases Xu.mp h with h | h
  ·exact .inl h
  ·obtain⟨k,hk,hi⟩:=YD.mp h;rcases zpx t k i hi with rfl | h
   ·exact .inr ⟨j,zcd.mp hk⟩
   ·exact .inr h
noncomputable def zfn:zkQ:=λds Q=>∃sh ps ts rk r,ds=[shpP sh,.lst (ts.map tabP),zco ps]/\TalT sh ps ts rk/\zoH ps rk r/\(∀i,i<ps.length->rk i<5)/\(preR ps rk r).length<=1000/\Q ["shape","root","children","bonds","fans"] [shpP sh,.int (r:Nat),zsT ps,zpr sh ps,.lst (((XR ps.length).map (fanT sh ps ts)).map fanP)]
theorem zlf:zsG zfn:=λds Q Q' m q201q=>by obtain⟨a,b,c,d,e,h,h1,h2,h3,h4,q⟩:=q201q;exact⟨a,b,c,d,e,h,h1,h2,h3,h4,m _ _ q⟩
section
variable {P:Program}{w:World}{K:Xa}{mg:Str->Option Value}{base:Heap}
theorem znw:zau ["self","shape","rows","parents","i"] ["self","shape","rows","parents"] (zac zdf):=⟨rfl,rfl,rfl,by decide +kernel,rfl,by decide +kernel,by decide +kernel⟩
theorem zoN {C f f1 f2 f3 f4 f5 f6 f7 f8:Addr}{fd fd1 fd2 fd3 fd4 fd5 fd6 fd7 fd8:FuncData}(F:Fun K "__init__" "Tally.__init__" zdf f fd) (T:TF K C) (CellsAt:Fx K mg "cells_at" zba ["known","letters"] f1 fd1) (Options:Mx K C "options" "Tally.options" zbo ["self","i","known"] f2 fd2) (Ways:Mx K C "ways" "Tally.ways" zfg ["self","i","known"] f3 fd3)
  (WaysBeneath:Mx K C "ways_beneath" "Tally.ways_beneath" zaC ["self","i","known"] f4 fd4) (FanOf:Mx K C "fan_of" "Tally.fan_of" zee ["self","i","table"] f5 fd5) (ChildrenOf:Fx K mg "children_of" zaF ["parents","i"] f6 fd6) (BondOf:Fx K mg "bond_of" zcz ["shape","parents","i"] f7 fd7) (Walk:Fx K mg "walk" zgd ["parents"] f8 fd8) (B:Bl mg):FnOk P w K mg base CX0 6 f fd ["self","shape","rows","parents"] (zjO K C zfn):=by
 have GFanOf:FnOk P w K mg base CX0 5 f5 fd5 ["self","i","table"] (spP K (znr C)):=zoM FanOf.fn T CellsAt Options Ways WaysBeneath B;have GChildrenOf:FnOk P w K mg base CX0 5 f6 fd6 ["parents","i"] (spP K zak):=(zeK ChildrenOf.fn B).mono (by decide);have GBondOf:FnOk P w K mg base CX0 5 f7 fd7 ["shape","parents","i"] (spP K zaV):=(zmZ BondOf.fn B).mono (by decide);have GWalk:FnOk P w K mg base CX0 5 f8 fd8 ["parents"] (spP K zdb):=(zmX Walk.fn ChildrenOf B).mono (by decide);refine zqT F znw (λds Q q202q=>by obtain⟨a,b,c,d,e,h,_⟩:=q202q;rw[h];rfl) (λcdv A outer s H E hr=>?_);have hu:(A.deeper (envOfC "Tally.__init__" (zac zdf) s.heap.objs.size f cdv)).units+16<cLine:=by have q:=hr.units;lia
 have nd:=znw.nd;refine⟨_,(zhg T.c T.shape (zab 1)
   (zhg T.c T.root (zjR (zab 3) zeb)
   (zhg T.c T.children (zbM (N:=["i","parents"]) (k:=1) (js:=[3]) rfl (zeU (sup:=zac zdf) (XN:=["self","shape","rows","parents","i"]) rfl rfl (by decide +kernel)) (by decide) (zbJ (by decide)) (zbl rfl B.range (zaa (zbr rfl B.len (zaa (zab 3) zad)) zad)) ⟨λ_ _ _ _ _=>(zai (i:=0) (by show(["i","parents"]:List Str).Nodup;decide +kernel) rfl (Or.inl rfl)),λ_ _ _ _ _=>zcc,λ_ _ _ _ _=>(zao GChildrenOf zdM hr rfl ChildrenOf.mg ChildrenOf.fn.kp ChildrenOf.bd (zaa (zab 1) (zaa (zab 0) zad)))⟩)
   (zhg T.c T.bonds (zbM (N:=["i","shape","parents"]) (k:=1) (js:=[1,3]) rfl (zeU (sup:=zac zdf) (XN:=["self","shape","rows","parents","i"]) rfl rfl (by decide +kernel)) (by decide) (zbJ (by decide)) (zbl rfl B.range (zaa (zbr rfl B.len (zaa (zab 3) zad)) zad)) ⟨λ_ _ _ _ _=>(zai (i:=0) (by show(["i","shape","parents"]:List Str).Nodup;decide +kernel) rfl (Or.inl rfl)),λ_ _ _ _ _=>zcc,λ_ _ _ _ _=>(zao GBondOf zja hr rfl BondOf.mg BondOf.fn.kp BondOf.bd (zaa (zab 1) (zaa (zab 2) (zaa (zab 0) zad))))⟩)
   (zoz T.c T.fans FanOf.me GFanOf zld hr FanOf.bd (zbM (N:=["i"]) (k:=1) (js:=[]) rfl (zeU (sup:=zac zdf) (XN:=["self","shape","rows","parents","i"]) rfl rfl (by decide +kernel)) (by decide) (zbJ (by decide)) (zbl rfl B.range (zaa (zbr rfl B.len (zaa (zab 3) zad)) zad)) ⟨λ_ _ _ _ _=>(zai (i:=0) (by show(["i"]:List Str).Nodup;decide +kernel) rfl (Or.inl rfl)),λ_ _ _ _ _=>zcc,λ_ _ _ _ _=>zqJ⟩) nd (iI:=4) rfl (Or.inl rfl) rfl PassesOwn.never (zqB rfl B.reversed (zao GWalk zir hr rfl Walk.mg Walk.fn.kp Walk.bd (zaa (zab 3) zad))) (zaa (zab 4) (zaa (zax (zab 2) (zab 4)) zad)) (zab 4)))))),λds Q h=>?_⟩
 obtain⟨sh,ps,ts,rk,r,rfl,TT,Ld,h5,hpl,q⟩:=h;have hsz:=sizeLine_eq;walk_at "pu";have hps:ps.length<=4:=TT.few;have hrl:r<ps.length:=(Xc.mp Ld.root).1;have hflat:((ps.map parP).all zfY)=true:=by
  rw[XE];intro d hd;obtain⟨p,_,rfl⟩:=XA.mp hd;cases p<;>rfl
 have hmem:PV.non∈ps.map parP:=XA.mpr ⟨none,Xr Ld.root,rfl⟩;have hidx:idxP (ps.map parP) PV.non=r:=by
  unfold idxP;refine(List.findIdx_eq (by rw[Xb];exact hrl)).mpr ⟨?_,λj hj=>?_⟩
  ·rw[List.getElem_map,(Xc.mp Ld.root).2];exact decide_eq_true rfl
  ·have hjl:j<ps.length:=by lia
   rw[List.getElem_map];cases hp:ps[j]with
   | none=>
    have:=Ld.one j (by rw[Xd hjl,hp]);lia
   | some p=>exact decide_eq_false λz=>nomatch z
 have hn:((ps.map parP).length:Int).toNat=ps.length:=by rw[Xb];rfl
 have hl62:-2 ^ 62<=((ps.map parP).length:Int)/\((ps.map parP).length:Int)<2 ^ 62:=by rw[Xb];lia
 have hrng:∀(i:Nat) (d:PV),(rngP 0 ps.length)[i]? = some d->d=.int (i:Nat)/\i<ps.length:=λi d h=>by
  obtain⟨q1,q2⟩:=zcE h;exact⟨by rw[q2,Int.zero_add],q1⟩
 have hrl2:(rngP 0 ps.length).length=ps.length:=zbK 0 ps.length;rw[hn];refine⟨(λz=>nomatch z),by decide,by decide,by decide,hflat,rfl,hmem,by decide,by decide,hl62.1,hl62.2,by rw[hrl2];lia,λi out=>out=(XR i).map λi=>zcB (kids ps i),rfl,?_,?_⟩
 ·rintro i d out hd-rfl;obtain⟨rfl,hi⟩:=hrng i d hd;refine⟨ps,rfl,i,rfl,by lia,?_⟩;show _=_;rw[List.range_succ,Xt];rfl
 rintro out-rfl;rw[hrl2,hidx];refine⟨by decide,by decide,hl62.1,hl62.2,by lia,λi out=>out=(XR i).map λi=>.lst ((zbS sh ps i).map PV.str),rfl,?_,?_⟩
 ·rintro i d out hd-rfl;obtain⟨rfl,hi⟩:=hrng i d hd;refine⟨sh,rfl,ps,rfl,i,rfl,by rw[TT.len];exact hi,TT.len,λp hp=>by rw[TT.len];exact TT.par i p hp,λl hl=>XB (TT.wid l hl) (by decide),?_⟩;show _=_;rw[List.range_succ,Xt];rfl
 rintro out-rfl;refine⟨by decide,by decide,by decide,hl62.1,hl62.2,by lia,λi out=>out=YO i (fanP []),rfl,?_,?_⟩
 ·rintro i d out hd-rfl;show _=_;rw[List.replicate_succ'];rfl
 rintro out-rfl;have hor:Ordr ps (preR ps rk r):=zkt TT.rkd _ _ (Nat.lt_succ_self _);have hall:∀i,i<ps.length->i∈preR ps rk r:=λi hi=>znu Ld TT.par 5 h5 _ i hi (Xi _);have hin:∀i∈preR ps rk r,i<ps.length:=λi hi=>by
  rcases zpx (ps:=ps) _ _ i hi with rfl | ⟨p,hp⟩
  ·exact hrl
  ·exact(Xc.mp hp).1
 refine⟨λd hd=>?_,ps,rfl,by lia,rk,TT.rkd,r,Ld.root,λj hj z=>by have:=Ld.one j z;lia,hpl,?_⟩
 ·rw[(List.mem_replicate.mp hd).2];exact zkv λe he=>nomatch he
 generalize preR ps rk r=wk at hor hall hin hpl;rw[<- List.map_reverse];refine⟨λj fs=>∃Fs:List Fan,fs=Fs.map fanP/\Fs.length=ps.length/\∀c∈wk.reverse.take j,Fs.getD c []=fanT sh ps ts c,⟨YO ps.length [],by rw[List.map_replicate],YH,λc hc=>by rw[List.take_zero]at hc;cases hc⟩,?_,?_⟩
 ·rintro j d fs hd ⟨Fs,rfl,hFl,hF⟩;rw[Xk]at hd;cases hi:wk.reverse[j]? with
  | none=>rw[hi]at hd;cases hd
  | some i=>
   rw[hi]at hd;cases hd;have hmi:i∈wk:=Yu.mp (Xr hi);have hil:=hin i hmi;have hjl:=(Xc.mp hi).1;have hti:ts[i]? = some (ts.getD i []):=by rw[Xn,Xd (show i<ts.length by rw[TT.tl,TT.len];exact hil)];rfl
   have hsplit:wk=(wk.reverse.drop (j+1)).reverse++i::(wk.reverse.take j).reverse:=by
    have e1:wk.reverse=wk.reverse.take j++i::wk.reverse.drop (j+1):=by
     have e2:=Yf (j+1) wk.reverse;rw[<- take_snoc hi,List.append_assoc]at e2;exact e2.symm
    have e3:=congrArg List.reverse e1;rw[Yr,List.reverse_append,YE,List.append_assoc]at e3;exact e3
   have hkids:∀c∈kids ps i,Fs.getD c []=fanT sh ps ts c:=λc hc=>hF c (Yu.mp (hor _ _ _ hsplit c hc));refine⟨tabP (ts.getD i []),⟨i,rfl,zbw (by rw[Xk,hti];rfl)⟩,sh,ps,r,Fs,i,ts,rk,rfl,TT,hFl,hil,h5 i hil,hkids,rfl,zkv (zre sh ps ts i),i,rfl,by rw[Xb,hFl];exact hil,Fs.set i (fanT sh ps ts i),by rw[List.map_set],by rw[Yb];exact hFl,λc hc=>?_⟩;by_cases hci:c=i
   ·subst hci;rw[Xn,Xl (by rw[hFl];exact hil)];rfl
   ·rw[Xn,Xg (λz=>hci z.symm),<- Xn];rw[<- take_snoc hi]at hc;rcases XM.mp hc with hc | hc
    ·exact hF c hc
    ·exact absurd (Xq.mp hc) hci
 ·rintro fs ⟨Fs,rfl,hFl,hF⟩;have e:Fs=(XR ps.length).map (fanT sh ps ts):=by
   refine List.ext_getElem? λi=>?_;by_cases hi:i<ps.length
   ·have h1:=hF i (by rw[Xb,Xv (Xi _)];exact Yu.mpr (hall i hi));rw[Xk,Yv hi];rw[Xn,Xd (by rw[hFl];exact hi)]at h1;rw[Xd (by rw[hFl];exact hi)];exact congrArg some h1
   ·rw[Xw (by rw[hFl];lia),Xw (by rw[Xb,Yl];lia)]
  rw[e];exact q
end
structure Ix (K:Xa)(mg:Str->Option Value)(C:Addr)(x qual:Str)(st:Stmt)(ps:List Str)(f:Addr)(fd:FuncData):Prop where
 fn:Fun K "__init__" qual st f fd
 bd:Binds K fd ps []
 make:Mk K C f
 mg:mg x=some (.ref C)
noncomputable def cntN (sh:List (List Str))(ps:List (Option Nat))(ts:List (List (List Int)))(r:Nat):Nat:=M31.sumN (ts.getD r []) (wB sh ps ts 5 r)
noncomputable def zeQ:PF:=λds Q=>∃sh ps ts rk r,ds=[shpP sh,.lst (ts.map tabP),zco ps]/\TalT sh ps ts rk/\zoH ps rk r/\(∀i,i<ps.length->rk i<5)/\(preR ps rk r).length<=1000/\Q (.int (cntN sh ps ts r:Nat)) .frz
theorem zlg:zbs zeQ:=λds Q Q' m q203q=>by obtain⟨a,b,c,d,e,h,h1,h2,h3,h4,q⟩:=q203q;exact⟨a,b,c,d,e,h,h1,h2,h3,h4,m _ _ q⟩
theorem ziI {sh:List (List Str)}{ps:List (Option Nat)}{r:Nat}(h:ps[r]? = some none):zbS sh ps r=[]:=by unfold zbS;rw[h]
theorem znx {sh:List (List Str)}{ps:List (Option Nat)}{ts:List (List (List Int))}{c:Nat}(h:c<ps.length):((XR ps.length).map (fanT sh ps ts)).getD c []=fanT sh ps ts c:=by
 rw[Xn,Xk,Yv h];rfl
theorem zoO {sh:List (List Str)}{ps:List (Option Nat)}{ts:List (List (List Int))}{r:Nat}(h:ps[r]? = some none)(fs:List Fan)(hf:fs.getD r []=fanT sh ps ts r):zno sh ps fs r [] []=cntN sh ps ts r:=by
 rw[zko hf];unfold cntN
 congr 1
 refine List.filter_eq_self.mpr λr' _=>decide_eq_true ?_;unfold keyB;rw[ziI h];rfl
section
variable {P:Program}{w:World}{K:Xa}{mg:Str->Option Value}{base:Heap}
theorem zny:zau ["shape","rows","parents","tally"] ["shape","rows","parents"] (zac zeH):=⟨rfl,rfl,rfl,by decide +kernel,rfl,by decide +kernel,by decide +kernel⟩
theorem zoP {C f f0 f1 f2 f3 f4 f5 f6 f7 f8:Addr}{fd fd0 fd1 fd2 fd3 fd4 fd5 fd6 fd7 fd8:FuncData}(F:Fun K "count" "count" zeH f fd) (T:TF K C) (TInit:Ix K mg C "Tally" "Tally.__init__" zdf ["self","shape","rows","parents"] f0 fd0) (CellsAt:Fx K mg "cells_at" zba ["known","letters"] f1 fd1) (Options:Mx K C "options" "Tally.options" zbo ["self","i","known"] f2 fd2) (Ways:Mx K C "ways" "Tally.ways" zfg ["self","i","known"] f3 fd3)
  (WaysBeneath:Mx K C "ways_beneath" "Tally.ways_beneath" zaC ["self","i","known"] f4 fd4) (FanOf:Mx K C "fan_of" "Tally.fan_of" zee ["self","i","table"] f5 fd5) (ChildrenOf:Fx K mg "children_of" zaF ["parents","i"] f6 fd6) (BondOf:Fx K mg "bond_of" zcz ["shape","parents","i"] f7 fd7) (Walk:Fx K mg "walk" zgd ["parents"] f8 fd8) (B:Bl mg):FnOk P w K mg base CX0 8 f fd ["shape","rows","parents"] (spP K zeQ):=by
 have GTInit:FnOk P w K mg base CX0 6 f0 fd0 ["self","shape","rows","parents"] (zjO K C zfn):=zoN TInit.fn T CellsAt Options Ways WaysBeneath FanOf ChildrenOf BondOf Walk B;have GWays:FnOk P w K mg base CX0 7 f3 fd3 ["self","i","known"] (spP K (zgh C)):=(znp Ways.fn T CellsAt Options B).mono (by decide);refine zaB F zny (λds Q q204q=>by obtain⟨a,b,c,d,e,h,_⟩:=q204q;rw[h];rfl) (λcdv A outer s H E hr=>?_);have hu:(A.deeper (envOfC "count" (zac zeH) s.heap.objs.size f cdv)).units+16<cLine:=by have q:=hr.units;lia
 have nd:=zny.nd;refine⟨_,(zae (zah (i:=3) nd rfl (Or.inl rfl) (zqD TInit.make GTInit zlf hr rfl TInit.mg TInit.bd (zaa (zab 0) (zaa (zab 1) (zaa (zab 2) zad)))))
   (zaf (zaw (zgZ T.c Ways.me GWays ziB hr Ways.bd (zab 3) (zaa (zgy T.c T.root (zab 3)) (zaa zmK zad)))))),λds Q h=>?_⟩
 obtain⟨sh,ps,ts,rk,r,rfl,TT,Ld,h5,hpl,q⟩:=h;have hsz:=sizeLine_eq;have hrl:r<ps.length:=(Xc.mp Ld.root).1;have hfl:((XR ps.length).map (fanT sh ps ts)).length=ps.length:=by rw[Xb,Yl]
 walk_at "pu";refine⟨sh,rfl,ps,ts,rfl,rfl,rk,TT,r,Ld,h5,hpl,?_⟩;walk_at "go";refine⟨_,⟨_,rfl⟩,by decide,_,_,rfl,_,rfl,sh,ps,r,(XR ps.length).map (fanT sh ps ts),rfl,r,rfl,[],rfl,[],rfl,TT.tal hfl,hrl,rfl,by rw[ziI Ld.root];exact λl hl=>(nomatch hl),?_,?_⟩
 ·rw[zjh (znx hrl),Xb];exact XB (Yx _ _) (XB (zhp TT.t4) (by decide))
 ·rw[zoO Ld.root _ (znx hrl)];exact q
end
theorem zhr:∀(a D:Asc),(a.map (·.1)).Nodup->(∀e∈a,∀v,D.lookup e.1=some v->v=e.2)->∃D',zaM D a=some D'/\∀l,D'.lookup l=(match D.lookup l with | some v=>some v | none=>a.lookup l)
 | [],D,_,_=>⟨D,rfl,λl=>by cases D.lookup l<;>rfl⟩
 | e::a,D,hn,h=>by
  rw[Xp,XX]at hn;have hj:zaM D (e::a)=(match D.lookup e.1 with | some v=>if v=e.2 then zaM D a else none | none=>zaM (D++[e]) a):=rfl
  cases hl:D.lookup e.1 with
  | some v=>
   have hv:=h e (Xh ..) v hl;obtain⟨D',h1,h2⟩:=zhr a D hn.2 λe' he'=>h e' (Xf _ he');rw[hl]at hj;refine⟨D',hj.trans ((if_pos hv).trans h1),λl=>?_⟩;rw[h2 l,XH];cases hl2:D.lookup l with
   | some w=>rfl
   | none=>
    have:(l == e.1)=false:=by
     rw[beq_eq_false_iff_ne];intro z;rw[z,hl]at hl2;cases hl2
    rw[this]
  | none=>
   have hne:∀e'∈a,e'.1≠e.1:=λe' he' z=>hn.1 (XA.mpr ⟨e',he',z⟩);have hla:∀l,(D++[e]).lookup l=(match D.lookup l with | some v=>some v | none=>if l=e.1 then some e.2 else none):=λl=>by
    rw[List.lookup_append];cases D.lookup l with
    | some v=>rfl
    | none=>
     show List.lookup l [e]=_;rw[XH];by_cases z:l=e.1
     ·rw[if_pos z,show(l == e.1)=true from beq_iff_eq.mpr z]
     ·rw[if_neg z,show(l == e.1)=false from beq_eq_false_iff_ne.mpr z];rfl
   obtain⟨D',h1,h2⟩:=zhr a (D++[e]) hn.2 λe' he' v hv=>by
    rw[hla,if_neg (hne e' he')]at hv;cases hd:D.lookup e'.1 with
    | none=>rw[hd]at hv;cases hv
    | some w=>
     rw[hd]at hv;exact h e' (Xf _ he') v (hd.trans hv)
   rw[hl]at hj;refine⟨D',hj.trans h1,λl=>?_⟩;rw[h2 l,hla l,XH];cases D.lookup l with
   | some w=>rfl
   | none=>
    by_cases z:l=e.1
    ·rw[if_pos z,show(l == e.1)=true from beq_iff_eq.mpr z]
    ·rw[if_neg z,show(l == e.1)=false from beq_eq_false_iff_ne.mpr z]
theorem zhs:∀(a D:Asc),(a.map (·.1)).Nodup->(∃e∈a,∃v,D.lookup e.1=some v/\v≠e.2)->zaM D a=none
 | [],D,_,h=>by obtain⟨e,he,_⟩:=h;cases he
 | e::a,D,hn,h=>by
  rw[Xp,XX]at hn;have hj:zaM D (e::a)=(match D.lookup e.1 with | some v=>if v=e.2 then zaM D a else none | none=>zaM (D++[e]) a):=rfl
  obtain⟨e',he',v,hv,hne⟩:=h;cases hl:D.lookup e.1 with
  | some w=>
   rw[hl]at hj;rw[hj];show(if w=e.2 then zaM D a else none)=none
   by_cases hw:w=e.2
   ·rw[if_pos hw];rcases Xu.mp he' with rfl | he'
    ·rw[hl]at hv;cases hv;exact absurd hw hne
    ·exact zhs a D hn.2 ⟨e',he',v,hv,hne⟩
   ·rw[if_neg hw]
  | none=>
   rw[hl]at hj;rw[hj];rcases Xu.mp he' with rfl | he'
   ·rw[hl]at hv;cases hv
   ·refine zhs a (D++[e]) hn.2 ⟨e',he',v,?_,hne⟩;rw[List.lookup_append,hv];rfl
theorem zgj {p:List Str}{r:List Int}(h:p.length=r.length):(p.zip r).map (·.1)=p:=List.map_fst_zip (by lia)
theorem zkw {p:List Str}{r:List Int}(hn:p.Nodup)(hl:p.length=r.length):∀e∈p.zip r,(p.zip r).lookup e.1=some e.2/\zdl p r e.1=e.2:=λe he=>by
 obtain⟨v,hv⟩:=zdY (D:=p.zip r) (l:=e.1) (XA.mpr ⟨e,he,rfl⟩);have:=zgg (by rw[zgj hl];exact hn) hv e.2 he;subst this;exact⟨hv,by unfold zdl;rw[hv];rfl⟩
theorem zpy {p:List Str}{r:List Int}{l:Str}(hn:p.Nodup)(hl:p.length=r.length)(h:l∈p):(l,zdl p r l)∈p.zip r/\(p.zip r).lookup l=some (zdl p r l):=by
 have h1:l∈(p.zip r).map (·.1):=by rw[zgj hl];exact h
 obtain⟨e,he,rfl⟩:=XA.mp h1;obtain⟨q1,q2⟩:=zkw hn hl e he;rw[q2];exact⟨he,q1⟩
section
variable (sh:List (List Str))(ts:List (List (List Int)))
noncomputable def agS (i:Nat)(a:List Int)(j:Nat)(b:List Int):Bool:=(sh.getD i []).all λl=>!decide (l∈sh.getD j [])||decide (zdl (sh.getD i []) a l=zdl (sh.getD j []) b l)
noncomputable def dcN (c:List (List Int)):Asc:=(sh.zip c).foldl (λD e=>(zaM D (e.1.zip e.2)).getD []) []
end
theorem zdc {sh:List (List Str)}{i j:Nat}{a b:List Int}:agS sh i a j b=true↔∀l,l∈sh.getD i []->l∈sh.getD j []->zdl (sh.getD i []) a l=zdl (sh.getD j []) b l:=by
 unfold agS;rw[XE];constructor
 ·intro h l hi hj;have:=h l hi;rw[Bool.or_eq_true,decide_eq_true_eq,Bool.not_eq_true',decide_eq_false_iff_not]at this;exact this.resolve_left λz=>z hj
 ·intro h l hi;rw[Bool.or_eq_true,decide_eq_true_eq,Bool.not_eq_true',decide_eq_false_iff_not];by_cases hj:l∈sh.getD j []
  ·exact .inr (h l hi hj)
  ·exact .inl hj
theorem zoQ {sh:List (List Str)}{i j:Nat}{a b:List Int}:agS sh i a j b=agS sh j b i a:=by
 rw[YG,zdc,zdc];exact⟨λh l h1 h2=>(h l h2 h1).symm,λh l h1 h2=>(h l h2 h1).symm⟩
structure Wide (sh:List (List Str))(ts:List (List (List Int))):Prop where
 nd:∀p∈sh,p.Nodup
 tl:ts.length=sh.length
 row:∀(i:Nat) (t:List (List Int)),ts[i]? = some t->∀r∈t,r.length=(sh.getD i []).length
theorem Wide.ndD {sh:List (List Str)}{ts:List (List (List Int))}(W:Wide sh ts)(i:Nat):(sh.getD i []).Nodup:=by
 rw[Xn];cases h:sh[i]? with
 | none=>exact List.nodup_nil
 | some p=>exact W.nd p (Xr h)
theorem Wide.rowD {sh:List (List Str)}{ts:List (List (List Int))}(W:Wide sh ts)(i:Nat):∀r∈ts.getD i [],r.length=(sh.getD i []).length:=λr hr=>by
 rw[Xn]at hr;cases h:ts[i]? with
 | none=>rw[h]at hr;cases hr
 | some t=>rw[h]at hr;exact W.row i t h r hr
structure InvC (sh:List (List Str))(k:Nat)(c:List (List Int)):Prop where
 len:c.length=k
 at_:∀(j:Nat) (r:List Int),c[j]? = some r->∀l∈sh.getD j [],(dcN sh c).lookup l=some (zdl (sh.getD j []) r l)
 of:∀l v,(dcN sh c).lookup l=some v->∃j,j<k/\l∈sh.getD j []
theorem zoR {sh:List (List Str)}{c:List (List Int)}{k:Nat}{r:List Int}(hl:c.length=k)(hk:k<sh.length):dcN sh (c++[r])=(zaM (dcN sh c) ((sh.getD k []).zip r)).getD []:=by
 unfold dcN;have e:sh.zip (c++[r])=sh.zip c++[(sh.getD k [],r)]:=by
  have h1:sh=sh.take k++sh.getD k []::sh.drop (k+1):=by
   have e2:=Yf (k+1) sh;have e3:sh[k]? = some (sh.getD k []):=by rw[Xn,Xd hk];rfl
   rw[<- take_snoc e3,List.append_assoc]at e2;exact e2.symm
  have h2:(sh.take k).length=c.length:=by rw[Ya];lia
  generalize sh.getD k []=p at h1 ⊢;generalize sh.drop (k+1)=d at h1;generalize sh.take k=t at h1 h2;subst h1;have h3:(t++p::d).zip c=t.zip c:=by
   have:(t++p::d).zip (c++[])=t.zip c++(p::d).zip []:=List.zip_append h2;rw[Yn,List.zip_nil_right,Yn]at this;exact this
  rw[h3,List.zip_append h2,XZ,List.zip_nil_right]
 rw[e,List.foldl_append];rfl
theorem zht {sh:List (List Str)}{ts:List (List (List Int))}(W:Wide sh ts){k:Nat}(hk:k<sh.length){c:List (List Int)}(I:InvC sh k c){r:List Int}(hr:r∈ts.getD k []) :
  (M31.fits (agS sh) c k r=true->zaM (dcN sh c) ((sh.getD k []).zip r)=some (dcN sh (c++[r]))/\InvC sh (k+1) (c++[r]))/\(M31.fits (agS sh) c k r=false->zaM (dcN sh c) ((sh.getD k []).zip r)=none):=by
 have hn:=W.ndD k;have hl:(sh.getD k []).length=r.length:=(W.rowD k r hr).symm;have hkn:(((sh.getD k []).zip r).map (·.1)).Nodup:=by rw[zgj hl];exact hn
 constructor
 ·intro hf;rw[M31.zfz _ I.len]at hf;obtain⟨D',h1,h2⟩:=zhr ((sh.getD k []).zip r) (dcN sh c) hkn λe he v hv=>by
   obtain⟨j,hj,hjl⟩:=I.of _ _ hv;have hjc':j<c.length:=by rw[I.len];exact hj
   have hcj:c[j]? = some c[j]:=Xd hjc';have h3:=I.at_ j _ hcj _ hjl;rw[hv]at h3;cases h3;obtain⟨q1,q2⟩:=zkw hn hl e he;rw[<- q2];refine zdc.mp (hf j _ hcj) e.1 hjl ?_;have:e.1∈((sh.getD k []).zip r).map (·.1):=XA.mpr ⟨e,he,rfl⟩
   rwa [zgj hl]at this
  have hd:dcN sh (c++[r])=D':=by rw[zoR I.len hk,h1];rfl
  refine⟨by rw[hd];exact h1,by rw[Xj,I.len];rfl,λj r' hj l hjl=>?_,λl v hv=>?_⟩
  ·rw[hd,h2 l];by_cases hjc:j<c.length
   ·rw[XD hjc]at hj;rw[I.at_ j r' hj l hjl]
   ·have hj2:=(Xc.mp hj).1;rw[Xj,XV]at hj2;have e:j=c.length:=by lia
    subst e;rw[XU (Xi _),Nat.sub_self]at hj;have:r=r':=by simpa using hj
    subst this;rw[I.len]at hjl ⊢;obtain⟨q1,q2⟩:=zpy hn hl hjl;cases hl2:(dcN sh c).lookup l with
    | none=>exact q2
    | some v=>
     obtain⟨j,hj,hjl2⟩:=I.of _ _ hl2;have hjc':j<c.length:=by rw[I.len];exact hj
     have hcj:c[j]? = some c[j]:=Xd hjc';have h3:=I.at_ j _ hcj _ hjl2;rw[hl2]at h3;cases h3;exact congrArg some (zdc.mp (hf j _ hcj) l hjl2 hjl)
  ·rw[hd,h2 l]at hv;cases hl2:(dcN sh c).lookup l with
   | some w=>
    obtain⟨j,hj,hjl⟩:=I.of _ _ hl2;exact⟨j,by lia,hjl⟩
   | none=>
    rw[hl2]at hv;have:l∈((sh.getD k []).zip r).map (·.1):=XA.mpr ⟨_,zeO hv,rfl⟩;rw[zgj hl]at this;exact⟨k,by lia,this⟩
 ·intro hf;refine zhs _ _ hkn ?_;apply Classical.byContradiction;intro hno;have ht:M31.fits (agS sh) c k r=true:=by
   rw[M31.zfz _ I.len];intro j a hj;rw[zdc];intro l h1 h2;obtain⟨q1,q2⟩:=zpy hn hl h2;apply Classical.byContradiction;intro hne;exact hno ⟨_,q1,_,I.at_ j a hj l h1,hne⟩
  rw[ht]at hf;cases hf
theorem zeR {α β:Type}{g:α->Option β}{p:α->Bool}{h:α->β}:∀ {l:List α},(∀a∈l,(p a=true->g a=some (h a))/\(p a=false->g a=none))->l.filterMap g=(l.filter p).map h
 | [],_=>rfl
 | a::l,hl=>by
  have ih:=zeR (l:=l) λb hb=>hl b (Xf _ hb);obtain⟨h1,h2⟩:=hl a (Xh ..);cases hp:p a with
  | true=>rw[YF,h1 hp,Yo hp,Xp,ih]
  | false=>rw[YF,h2 hp,Yp (by rw[hp];decide),ih]
theorem zgI {α β:Type}{f g:α->List β}:∀ {l:List α},(∀a∈l,f a=g a)->l.flatMap f=l.flatMap g
 | [],_=>rfl
 | a::l,h=>by rw[Yk,Yk,h a (Xh ..),zgI λb hb=>h b (Xf _ hb)]
theorem zgJ {sh:List (List Str)}{ts:List (List (List Int))}(W:Wide sh ts):∀k,k<=sh.length->((sh.zip ts).take k).foldl zgn [[]]=(M31.zbY (λi=>ts.getD i []) (agS sh) k).map (dcN sh)/\∀c∈M31.zbY (λi=>ts.getD i []) (agS sh) k,InvC sh k c
 | 0,_=>by
  have e0:dcN sh []=[]:=by unfold dcN;rw[List.zip_nil_right];rfl
  refine⟨?_,λc hc=>?_⟩
  ·show[[]]=[dcN sh []];rw[e0]
  ·rw[Xq.mp hc];refine⟨rfl,λj r hj=>(nomatch hj),λl v hv=>?_⟩;rw[e0]at hv;cases hv
 | k+1,hk=>by
  obtain⟨h1,h2⟩:=zgJ W k (by lia);have hs:sh[k]? = some (sh.getD k []):=by rw[Xn,Xd (by lia)];rfl
  have ht:ts[k]? = some (ts.getD k []):=by rw[Xn,Xd (by rw[W.tl];lia)];rfl
  have hz:(sh.zip ts)[k]? = some (sh.getD k [],ts.getD k []):=List.getElem?_zip_eq_some.mpr ⟨hs,ht⟩;have hc:M31.zbY (λi=>ts.getD i []) (agS sh) (k+1)=(M31.zbY (λi=>ts.getD i []) (agS sh) k).flatMap λc=>((ts.getD k []).filter (M31.fits (agS sh) c k)).map λr=>c++[r]:=rfl;refine⟨?_,λc hm=>?_⟩
  ·rw[<- take_snoc hz,List.foldl_append,h1,hc];show zgn _ _=_;unfold zgn;rw[List.flatMap_map,List.map_flatMap];refine zgI λc hcm=>?_;rw[YM];exact zeR λr hr=>⟨λhf=>((zht W (by lia) (h2 c hcm) hr).1 hf).1,(zht W (by lia) (h2 c hcm) hr).2⟩
  ·rw[hc]at hm;obtain⟨c',h3,h4⟩:=YD.mp hm;obtain⟨r,h5,rfl⟩:=XA.mp h4;obtain⟨h6,h7⟩:=Yz.mp h5;exact((zht W (by lia) (h2 c' h3) h6).1 h7).2
theorem zjk {sh:List (List Str)}{ts:List (List (List Int))}(W:Wide sh ts):(ansL sh ts).length=(M31.zbY (λi=>ts.getD i []) (agS sh) sh.length).length:=by
 have h:=(zgJ W sh.length (Xi _)).1;rw[Xv (by rw[Ys];lia)]at h;unfold ansL;rw[h,Xb]
noncomputable def parN (ps:List (Option Nat))(k:Nat):Nat:=match ps[k]? with | some (some p)=>p | _=>0
theorem zhu {L:List Str}{n:Nat}{sh:List (List Str)}{ps:List (Option Nat)}(T:zaI L n sh ps){k:Nat}(h0:0<k)(hk:k<n):ps[k]? = some (some (parN ps k)):=by
 cases h:ps[k]? with
 | none=>
  have:=List.getElem?_eq_none_iff.mp h;have:=T.plen;lia
 | some o=>
  cases o with
  | none=>have:=T.root k h;lia
  | some p=>unfold parN;rw[h]
theorem zsW {sh:List (List Str)}{ps:List (Option Nat)}{i c:Nat}{r r':List Int}(h:ps[c]? = some (some i)):agS sh i r c r'=decide (keyB sh ps c (sh.getD c []) r'=keyB sh ps c (sh.getD i []) r):=by
 rw[YG,zdc,decide_eq_true_eq];have hb:zbS sh ps c=(sh.getD c []).filter λl=>decide (l∈sh.getD i []):=by unfold zbS;rw[h]
 unfold keyB;rw[hb,List.map_inj_left];constructor
 ·intro g l hl;obtain⟨h1,h2⟩:=Yz.mp hl;exact(g l (of_decide_eq_true h2) h1).symm
 ·intro g l h1 h2;exact(g l (Yz.mpr ⟨h2,decide_eq_true h1⟩)).symm
theorem zsX {L:List Str}{n:Nat}{sh:List (List Str)}{ps:List (Option Nat)}(T:zaI L n sh ps)(ts:List (List (List Int))):∀(t i:Nat)(r:List Int),M31.wy n (parN ps) (λi=>ts.getD i []) (agS sh) t i r=wB sh ps ts t i r
 | 0,_,_=>rfl
 | t+1,i,r=>by
  show M31.zbm (XR n) _=M31.zbm (kids ps i) _;unfold kids;rw[T.plen,M31.zdL];refine M31.zaQ λc hc=>?_;have hcn:=Yj.mp hc;by_cases h:ps[c]? = some (some i)
  ·have hp:parN ps c=i:=by unfold parN;rw[h]
   have hlt:=T.par c i h;rw[if_pos ⟨hlt,hp⟩,if_pos (show(ps[c]? == some (some i))=true from beq_iff_eq.mpr h)];have hf:(ts.getD c []).filter (λr'=>agS sh i r c r')=(ts.getD c []).filter λr'=>decide (keyB sh ps c (sh.getD c []) r'=keyB sh ps c (sh.getD i []) r):=List.filter_congr λr' _=>zsW h;rw[hf];exact M31.zap λr' _=>zsX T ts t c r'
  ·rw[if_neg (λz=>h (by rw[zhu T (by lia) hcn,z.2])),if_neg (λz=>h (beq_iff_eq.mp z))]
theorem zlh {L:List Str}{n:Nat}{sh:List (List Str)}{ps:List (Option Nat)}(T:zaI L n sh ps)(ts:List (List (List Int))):M31.zqY n (parN ps) (λi=>ts.getD i []) (agS sh) where
 lt k h0 hk:=T.par k _ (zhu T h0 hk)
 ag k h0 hk c hc p hp r hr:=by
  have hpar:=zhu T h0 hk;have hlt:=T.par k _ hpar;have hcl:=M31.zdV _ _ k c hc;have hok:=M31.ziq _ _ k c hc;have hsl:sh.length=n:=T.pats.1;have hat:∀i,i<n->sh[i]? = some (sh.getD i []):=λi hi=>by rw[Xn,Xd (by lia)];rfl
  rw[YG,M31.zfz _ hcl];constructor
  ·exact λh=>h _ p hp
  ·intro h j a hj;have hjk:j<k:=by rw[<- hcl];exact(Xc.mp hj).1
   rw[zdc]at h ⊢;intro l h1 h2;rcases T.conn k _ l (hat k hk) h2 with ⟨j',q,g1,g2,g3⟩ | g
   ·rw[hpar]at g1;have ej:parN ps k=j':=by injection g1 with z;injection z
    rw[<- ej,hat _ (by lia)]at g2;have eq:sh.getD (parN ps k) []=q:=by injection g2
    rw[<- eq]at g3;rw[<- h l g3 h2];by_cases hjp:j=parN ps k
    ·subst hjp;rw[hj]at hp;cases hp;rfl
    ·rcases Nat.lt_or_gt_of_ne hjp with z | z
     ·exact zdc.mp (hok j _ a p z hj hp) l h1 g3
     ·exact(zdc.mp (hok _ j p a z hp hj) l g3 h1).symm
   ·exact absurd h1 (g j _ hjk (hat j (by lia)))
theorem zkx {L:List Str}{n:Nat}{sh:List (List Str)}{ps:List (Option Nat)}(T:zaI L n sh ps)(h1:1<=n)(h4:n<=4){ts:List (List (List Int))}(W:Wide sh ts):(ansL sh ts).length=cntN sh ps ts 0:=by
 have hsl:sh.length=n:=T.pats.1;rw[zjk W,hsl,M31.zkX n (parN ps) _ _ (zlh T ts) h1];refine M31.zap λr _=>?_;rw[M31.zeG n (parN ps) _ _ n 0 r (by lia) 5 (by lia),zsX T ts]
theorem zcw {α:Type}(d:α){l:List α}{n i:Nat}(hl:l.length=n)(hi:i<n):l.reverse.getD (n-1-i) d=l.getD i d:=by
 rw[Xn,Xn,Yi (by lia),hl,show n-1-(n-1-i)=i by lia]
theorem zjl {n i:Nat}{p0:List (Option Nat)}(hl:p0.length=n)(hi:i<n):(zcq n p0)[n-1-i]? = (p0[i]?).map λo=>o.map λp=>n-1-p:=by
 unfold zcq;rw[Xk,Yi (by lia),hl,show n-1-(n-1-i)=i by lia]
theorem znz {L:List Str}{n:Nat}{s0:List (List Str)}{p0:List (Option Nat)}(T:zaI L n s0 p0){i:Nat}(hi:i<n):kids (zcq n p0) (n-1-i)=((kids p0 i).map λc=>n-1-c).reverse:=by
 have hl:=T.plen;have ht:(zcq n p0).length=n:=by unfold zcq;rw[Xb,Xx,hl]
 unfold kids;rw[ht,hl];have hr:XR n=((XR n).map λc=>n-1-c).reverse:=by
  refine List.ext_getElem? λj=>?_;by_cases hj:j<n
  ·rw[Yv hj,Yi (by rw[Xb,Yl];exact hj),Xb,Yl,Xk,Yv (by lia)];show some j=some (n-1-(n-1-j))
   congr 1;lia
  ·rw[Xw (by rw[Yl];lia),Xw (by rw[Xx,Xb,Yl];lia)]
 conv=>lhs;rw[hr]
 rw[List.filter_reverse,List.filter_map]
 congr 2
 refine List.filter_congr λc hc=>?_;have hcn:=Yj.mp hc;show((zcq n p0)[n-1-c]? == some (some (n-1-i)))=(p0[c]? == some (some i));rw[zjl hl hcn,YG,beq_iff_eq,beq_iff_eq];cases hp:p0[c]? with
 | none=>
  have:=List.getElem?_eq_none_iff.mp hp;lia
 | some o=>
  cases o with
  | none=>simp
  | some p=>
   have hlt:=T.par c p hp;simp;lia
theorem znA {L:List Str}{n:Nat}{s0:List (List Str)}{p0:List (Option Nat)}(T:zaI L n s0 p0){c:Nat}(hc:c<n):zbS s0.reverse (zcq n p0) (n-1-c)=zbS s0 p0 c:=by
 have hl:=T.plen;have hs:s0.length=n:=T.pats.1;unfold zbS;rw[zjl hl hc];cases hp:p0[c]? with
 | none=>rfl
 | some o=>
  cases o with
  | none=>rfl
  | some p=>
   have hlt:=T.par c p hp;show(s0.reverse.getD (n-1-c) []).filter (λl=>decide (l∈s0.reverse.getD (n-1-p) []))=_;rw[zcw [] hs hc,zcw [] hs (by lia)]
theorem znB {L:List Str}{n:Nat}{s0:List (List Str)}{p0:List (Option Nat)}(T:zaI L n s0 p0){t0:List (List (List Int))}(ht:t0.length=n):∀(t i:Nat)(r:List Int),i<n->wB s0.reverse (zcq n p0) t0.reverse t (n-1-i) r=wB s0 p0 t0 t i r
 | 0,_,_,_=>rfl
 | t+1,i,r,hi=>by
  have hs:s0.length=n:=T.pats.1;show M31.zbm (kids (zcq n p0) (n-1-i)) _=M31.zbm (kids p0 i) _;rw[znz T hi,M31.zin,M31.zio];refine M31.zaQ λc hc=>?_;have hcn:c<n:=by rw[<- T.plen];exact(Xc.mp (zcd.mp hc)).1
  rw[zcw [] ht hcn,zcw [] hs hcn,zcw [] hs hi];unfold keyB;rw[znA T hcn];exact M31.zap λr' _=>znB T ht t c r' hcn
theorem zky {s0:List (List Str)}{n:Nat}(hs:s0.length=n){c:List (List Int)}(hc:c.length=n):M31.Okc (agS s0.reverse) c.reverse↔M31.Okc (agS s0) c:=by
 have key:∀(s:List (List Str)) (d:List (List Int)),s.length=n->d.length=n->M31.Okc (agS s) d->M31.Okc (agS s.reverse) d.reverse:=λs d h1 h2 h i j a b hij ha hb=>by
  have hi:=(Xc.mp ha).1;have hj:=(Xc.mp hb).1;rw[Xx]at hi hj;rw[Yi hi,h2]at ha;rw[Yi hj,h2]at hb;have g:=h (n-1-j) (n-1-i) b a (by lia) hb ha;rw[zoQ]at g;have e1:s.reverse.getD i []=s.getD (n-1-i) []:=by
   have:=zcw ([]:List Str) h1 (show n-1-i<n by lia)
   rwa [show n-1-(n-1-i)=i by lia]at this
  have e2:s.reverse.getD j []=s.getD (n-1-j) []:=by
   have:=zcw ([]:List Str) h1 (show n-1-j<n by lia)
   rwa [show n-1-(n-1-j)=j by lia]at this
  unfold agS at g ⊢;rw[e1,e2];exact g
 refine⟨λh=>?_,key s0 c hs hc⟩;have:=key _ _ (by rw[Xx];exact hs) (by rw[Xx];exact hc) h
 rwa [Yr,Yr]at this
theorem zkz {ts:List (List (List Int))}{n:Nat}(h:ts.length=n):(XR n).map (λi=>ts.getD i [])=ts:=by
 refine List.ext_getElem? λi=>?_;by_cases hi:i<n
 ·rw[Xk,Yv hi,Xd (by lia)];show some (ts.getD i [])=_;rw[Xn,Xd (by lia)];rfl
 ·rw[Xw (by rw[Xb,Yl];lia),Xw (by lia)]
open Classical in
theorem zjm {s0:List (List Str)}{t0:List (List (List Int))}{n:Nat}(hs:s0.length=n)(ht:t0.length=n):(M31.zbY (λi=>t0.reverse.getD i []) (agS s0.reverse) n).length=(M31.zbY (λi=>t0.getD i []) (agS s0) n).length:=by
 rw[<- M31.zfy,<- M31.zfy,M31.zen,M31.zen,zkz (by rw[Xx];exact ht),zkz ht,M31.zke];refine M31.zdW λc hc=>?_;rw[ht]at hc;by_cases h:M31.Okc (agS s0) c
 ·rw[if_pos h,if_pos ((zky hs hc).mpr h)]
 ·rw[if_neg h,if_neg λz=>h ((zky hs hc).mp z)]
theorem zoS {s0:List (List Str)}{ts:List (List (List Int))}{n:Nat}(hs:s0.length=n)(W:Wide s0.reverse ts):Wide s0 ts.reverse where
 nd p hp:=W.nd p (Yu.mpr hp)
 tl:=by rw[Xx,W.tl,Xx]
 row i t hi r hr:=by
  have hl:ts.length=n:=by rw[W.tl,Xx];exact hs
  have hin:i<n:=by have:=(Xc.mp hi).1;rw[Xx]at this;lia
  rw[Yi (by lia),hl]at hi;have:=W.row _ t hi r hr;rw[this,zcw [] hs hin]
theorem zsY {sh:List (List Str)}{ps:List (Option Nat)}{ts:List (List (List Int))}{r:Nat}(G:Good sh ps)(W:Wide sh ts)(hr:ps[r]? = some none)(ho:∀k,ps[k]? = some none->k=r):(ansL sh ts).length=cntN sh ps ts r:=by
 obtain⟨L,n,s0,p0,T,h1,h4,hL,⟨rfl,rfl⟩ | ⟨rfl,rfl⟩⟩:=G
 ·have:=ho 0 (zeM T h1);subst this;exact zkx T h1 h4 W
 ·have hs:s0.length=n:=T.pats.1;have hp:=T.plen;have htl:ts.length=n:=by rw[W.tl,Xx];exact hs
  have W0:=zoS hs W;have hroot:(zcq n p0)[n-1]? = some none:=by
   have:=zjl hp (show 0<n by lia);rw[show n-1-0=n-1 by lia,zeM T h1]at this;exact this
  have er:n-1=r:=ho _ hroot;subst er;have e0:=zkx T h1 h4 W0;rw[zjk W0,hs]at e0;rw[zjk W,Xx,hs];have ec:=zjm (t0:=ts.reverse) hs (by rw[Xx];exact htl);rw[Yr]at ec;rw[ec,e0];unfold cntN;have eg:ts.getD (n-1) []=ts.reverse.getD 0 []:=by
   have:=zcw ([]:List (List Int)) (l:=ts.reverse) (n:=n) (i:=0) (by rw[Xx];exact htl) (by lia);rw[Yr,show n-1-0=n-1 by lia]at this;exact this
  rw[eg];refine M31.zap λr' _=>?_;have:=znB T (t0:=ts.reverse) (by rw[Xx];exact htl) 5 0 r' (by lia);rw[Yr,show n-1-0=n-1 by lia]at this;exact this.symm
noncomputable def fLaw:PF:=λds Q=>∃ns:List Int,ds=[.lst (ns.map PV.int)]/\ns.length<=63/\Q (.bl true) .frz
theorem zoT (xs:List PV)(k:Nat):cutP xs none (some (k:Int))=xs.take k:=by
 unfold cutP;have h1:HT.sIx xs.length 0 none=0:=rfl;rw[h1,List.drop_zero,Nat.sub_zero];by_cases h:k<=xs.length
 ·have:HT.sIx xs.length xs.length (some (k:Int))=k:=by rw[HT.zeS];lia
  rw[this]
 ·have:HT.sIx xs.length xs.length (some (k:Int))=xs.length:=by rw[HT.zeS];lia
  rw[this,List.take_length,Xv (by lia)]
theorem ztO {A B:Prop}(h:B):if true=false then A else B:=by
 rw[if_neg (by decide)];exact h
theorem zgK (n:Nat)(l:List Nat):(l.map λ(k:Nat)=>PV.int k).all (PL.plain n)=true:=by
 rw[XE];intro d hd;obtain⟨x,_,rfl⟩:=XA.mp hd;cases n<;>rfl
theorem Good.pats {sh:List (List Str)}{ps:List (Option Nat)}(G:Good sh ps):(∀p∈sh,p≠[]/\p.length<=4)/\(∀p∈sh,p.Nodup)/\∀c p:Nat,ps[c]? = some (some p)->p<ps.length:=by
 obtain⟨L,n,s0,p0,T,h1,h4,hL,⟨rfl,rfl⟩ | ⟨rfl,rfl⟩⟩:=G
 ·refine⟨λp hp=>⟨T.ne p hp,(T.pats.2 p hp).1⟩,T.nd,λc p hc=>?_⟩;have:=T.par c p hc;have:=(Xc.mp hc).1;lia
 ·refine⟨λp hp=>⟨T.ne p (Yu.mp hp),(T.pats.2 p (Yu.mp hp)).1⟩,λp hp=>T.nd p (Yu.mp hp),λc p hc=>?_⟩;have ht:(zcq n p0).length=n:=by unfold zcq;rw[Xb,Xx,T.plen]
  obtain⟨hcn,o',ho,e⟩:=zhn T.plen hc;cases o' with
  | none=>cases e
  | some j=>
   have ej:p=n-1-j:=by simpa using e
   lia
theorem Good.talT {sh:List (List Str)}{ps:List (Option Nat)}{ts:List (List (List Int))}{rk:Nat->Nat}(G:Good sh ps)(hl:sh.length=ps.length)(h4:ps.length<=4)(F:Fits sh ts)(ht:ts.length=sh.length)(R:zdN ps rk):TalT sh ps ts rk:=
 ⟨hl,h4,λp hp=>(G.pats.1 p hp).2,G.pats.2.1,ht,F.few,F.row,R,G.pats.2.2⟩
theorem zoU:zbs fLaw:=λds Q Q' m q205q=>by obtain⟨ns,e,h,q⟩:=q205q;exact⟨ns,e,h,m _ _ q⟩
section
variable {P:Program}{w:World}{K:Xa}{mg:Str->Option Value}{base:Heap}
theorem zsZ:zau ["_law_script","_law_cells","_law_at","_law_shape","_law_parents","_law_rows","_law_told","_law_handed","_law_found"] ["_law_script"] (zac sLaw):=⟨rfl,rfl,rfl,by decide +kernel,rfl,by decide +kernel,by decide +kernel⟩
theorem zta {f f1 f2 f3 f4 f5 f6:Addr}{fd fd1 fd2 fd3 fd4 fd5 fd6:FuncData}(F:Fun K "law" "law" sLaw f fd) (LMade:Fx K mg "_law_made" zeJ ["_law_cells","_law_at","_law_most"] f1 fd1) (GLMade:FnOk P w K mg base CX0 8 f1 fd1 ["_law_cells","_law_at","_law_most"] (spP K zcA)) (Walk:Fx K mg "walk" zgd ["parents"] f2 fd2) (GWalk:FnOk P w K mg base CX0 8 f2 fd2 ["parents"] (spP K zdb))
  (LWalk:Fx K mg "_law_walk" zed ["_law_parents"] f3 fd3) (GLWalk:FnOk P w K mg base CX0 8 f3 fd3 ["_law_parents"] (spP K (zdP 5))) (Whole:Fx K mg "_law_whole" zeI ["_law_found"] f4 fd4) (GWhole:FnOk P w K mg base CX0 8 f4 fd4 ["_law_found"] (spP K zcG))
  (Count:Fx K mg "count" zeH ["shape","rows","parents"] f5 fd5) (GCount:FnOk P w K mg base CX0 8 f5 fd5 ["shape","rows","parents"] (spP K zeQ)) (Answers:Fx K mg "_law_answers" zbP ["_law_shape","_law_rows"] f6 fd6) (GAnswers:FnOk P w K mg base CX0 8 f6 fd6 ["_law_shape","_law_rows"] (spP K zbR)) (B:Bl mg):FnOk P w K mg base CX0 9 f fd ["_law_script"] (spP K fLaw):=by
 have zff:=zff 5;refine zaB F zsZ (λds Q q206q=>by obtain⟨a,e,_⟩:=q206q;rw[e];rfl) (λcdv A outer s H E hr=>?_);have hu:(A.deeper (envOfC "law" (zac sLaw) s.heap.objs.size f cdv)).units+16<cLine:=by have q:=hr.units;lia
 have nd:=zsZ.nd;refine⟨_,(zae (zah (i:=1) nd rfl (Or.inl rfl) (zjJ (zdT (zab 0) zeD (zct zag)) (zbp (zaa zag zad))))
   (zae (zah (i:=2) nd rfl (Or.inl rfl) zag)
   (zae (zdw 1 (zeB PassesOwn.never (zmc (zab 2) (zbr rfl B.len (zaa (zab 1) zad))) (zae (ziU (zao GLMade zkZ hr rfl LMade.mg LMade.fn.kp LMade.bd (zaa (zab 1) (zaa (zab 2) (zaa zag zad)))) (zej (n:=4) rfl (zaH (zai (i:=3) nd rfl (Or.inl rfl)) (zaH (zai (i:=4) nd rfl (Or.inl rfl)) (zaH (zai (i:=5) nd rfl (Or.inl rfl)) (zaH (zai (i:=2) nd rfl (Or.inl rfl)) zcT))))))
   (zae (zah (i:=6) nd rfl (Or.inl rfl) (zao GWalk zir hr rfl Walk.mg Walk.fn.kp Walk.bd (zaa (zeW rfl B.list (zaa (zab 4) zad)) zad)))
   (zae (zce (PuW.t (zgw (ziT (zgX (zmj (K:=K) rfl rfl B.isi (zaa (zab 6) (zaa (zqe rfl B.list zql) zad))))) (zgw (zhQ hu (zab 6) (zao GLWalk zff hr rfl LWalk.mg LWalk.fn.kp LWalk.bd (zaa (zab 4) zad))) (zgV (ziT (zgX (zsC rfl rfl B.all (zaa (zbM (N:=["_law_k"]) (k:=1) (js:=[]) rfl (zeU (sup:=zac sLaw) (XN:=["_law_script","_law_cells","_law_at","_law_shape","_law_parents","_law_rows","_law_told","_law_handed","_law_found"]) rfl rfl (by decide +kernel)) (by decide) (zbJ (by decide)) (zbg (zab 6)) ⟨λ_ _ _ _ _=>(zai (i:=0) (by show(["_law_k"]:List Str).Nodup;decide +kernel) rfl (Or.inl rfl)),λ_ _ _ _ _=>zcc,λ_ _ _ _ _=>(zao GWhole zgG hr rfl Whole.mg Whole.fn.kp Whole.bd (zaa (zab 0) zad))⟩) zad)))))))) (zaf (zaw zqd)) zaR)
   (zae (zah (i:=7) nd rfl (Or.inl rfl) (zbp (zaa (zeW rfl B.list (zaa (zab 3) zad)) (zaa (zbM (N:=["_law_lines_here"]) (k:=1) (js:=[]) rfl (zeU (sup:=zac sLaw) (XN:=["_law_script","_law_cells","_law_at","_law_shape","_law_parents","_law_rows","_law_told","_law_handed","_law_found"]) rfl rfl (by decide +kernel)) (by decide) (zbJ (by decide)) (zbg (zab 5)) ⟨λ_ _ _ _ _=>(zai (i:=0) (by show(["_law_lines_here"]:List Str).Nodup;decide +kernel) rfl (Or.inl rfl)),λ_ _ _ _ _=>zcc,λ_ _ _ _ _=>(zeW rfl B.list (zaa (zab 0) zad))⟩) (zaa (zeW rfl B.list (zaa (zab 4) zad)) zad)))))
   (zae (zah (i:=8) nd rfl (Or.inl rfl) (zao GCount zlg hr rfl Count.mg Count.fn.kp Count.bd (zaa (zax (zab 7) zag) (zaa (zax (zab 7) zag) (zaa (zax (zab 7) zag) zad)))))
   (zaf (zce (PuW.t (zgw (ziT (zgX (zao GWhole zgG hr rfl Whole.mg Whole.fn.kp Whole.bd (zaa (zab 8) zad)))) (zgw (zhQ hu (zab 8) (zbr rfl B.len (zaa (zao GAnswers ziy hr rfl Answers.mg Answers.fn.kp Answers.bd (zaa (zab 3) (zaa (zab 5) zad))) zad))) (zgV (zhQ hu (zab 7) (zbp (zaa (zab 3) (zaa (zab 5) (zaa (zab 4) zad))))))))) (zaf (zaw zqd)) zaR)))))))))
   (zaf (zaw zqd))))),λds Q h=>?_⟩
 obtain⟨ns,rfl,hns,q⟩:=h;have hsz:=sizeLine_eq;walk_at "pu";obtain⟨cs,hcs,hcl⟩:∃cs:List Int,cutP (ns.map PV.int) none (some 63)=cs.map PV.int/\cs.length<=63:=by
  have e:cutP (ns.map PV.int) none (some 63)=((ns.map PV.int).take 63):=zoT _ 63;exact⟨ns.take 63,by rw[e,List.map_take],by rw[Ya];lia⟩
 rw[hcs,show cs.map PV.int++[PV.int 0]=(cs++[0]).map PV.int by rw[Xt];rfl];have hdl:(cs++[(0:Int)]).length<=64:=by rw[Xj,XV];lia
 generalize cs++[(0:Int)]=ds at hdl;refine⟨by lia,by rw[Xb];lia,?_⟩;walk_at "go";walk_at "auto";obtain⟨Iv,hIv⟩:∃Iv:Nat->PEnv->Prop,∀m ρ,Iv m ρ↔∃(a:Nat) (v3 v4 v5 v6 v7 v8:Option (PV×Bool)),ρ=[some (PV.lst (ns.map PV.int),false),some (PV.lst (ds.map PV.int),false),some (PV.int a,false),v3,v4,v5,v6,v7,v8]/\m=ds.length-a:=⟨_,λ_ _=>Iff.rfl⟩;refine⟨Iv,⟨_,(hIv _ _).mpr ⟨0,_,_,_,_,_,_,rfl,rfl⟩⟩,?_⟩;intro m ρ hI;obtain⟨a,v3,v4,v5,v6,v7,v8,rfl,rfl⟩:=(hIv _ _).mp hI;walk_at "go";rw[Xb];refine ite2 (λhlt=>?_) (λhge=>?_)
 ·have hal:a<ds.length:=by lia
  walk_at "go";refine⟨ds,rfl,a,rfl,hal,hdl,λsh ps ts b G Ft htl hab=>?_⟩;obtain⟨hlen,h1,h4,rk,r,Ld,h5⟩:=G.leads;have TT:=G.talT hlen h4 Ft htl Ld.rkd;have hpat:=G.pats.1;have W:Wide sh ts:=⟨TT.nd,TT.tl,TT.row⟩;have hpre:preR ps rk r=pre ps 5 r:=zfc Ld.rkd _ _ _ (Nat.lt_succ_self _) Ld.low;have hpl:=zoI h4 r;have hcnt:=zsY G W Ld.root Ld.one;walk_at "go";refine⟨ps,rfl,by lia,rk,Ld.rkd,r,Ld.root,λj hj z=>by have:=Ld.one j z;lia,by rw[hpre];exact hpl,?_⟩;rw[hpre];walk_at "go";refine⟨true,zjL,ztO ⟨ps,rfl,by lia,rk,Ld.rkd,r,Ld.low,Ld.root,Ld.one,hpl,zgK _ _,zgK _ _,?_⟩⟩;rw[if_neg (λz=>z rfl)];refine⟨by rw[Xb];lia,λi out=>out=YO i (PV.bl true),rfl,?_,?_⟩
  ·rintro i d out hd-rfl;rw[Xk]at hd;cases hx:(pre ps 5 r)[i]? with
   | none=>rw[hx]at hd;cases hd
   | some k=>
    rw[hx]at hd;cases hd;refine⟨⟨_,rfl⟩,?_⟩;show _=_;rw[List.replicate_succ']
  rintro out-rfl;refine⟨YO _ true,by rw[List.map_replicate],?_⟩;rw[if_neg (by rw[show(YO (((pre ps 5 r).map λ(k:Nat)=>PV.int k).length) true).all id=true by rw[XE];intro x hx;exact(List.mem_replicate.mp hx).2];decide)];walk_at "go";walk_at "go";refine⟨by rw[Xb];lia,λi out=>out=(ts.take i).map tabP,rfl,?_,?_⟩
  ·rintro i d out hd-rfl;rw[Xk]at hd;cases hx:ts[i]? with
   | none=>rw[hx]at hd;cases hd
   | some t=>
    rw[hx]at hd;cases hd;refine⟨t.map rowP,.inl rfl,?_⟩;show _=_;rw[<- take_snoc hx,Xt];rfl
  rintro out-rfl;rw[Xb,Xv (Xi _)];refine⟨by lia,?_⟩;walk_at "go";refine⟨_,rfl,_,rfl,_,rfl,sh,rfl,ps,ts,rfl,rfl,rk,TT,r,Ld,h5,by rw[hpre];exact hpl,?_⟩;rw[<- hcnt];walk_at "go";have hplain:[PV.lst (sh.map ltsP),PV.lst (ts.map tabP),PV.lst (ps.map parP)].all (PL.plain 5)=true:=by
   rw[XE];intro d hd;rcases Xu.mp hd with rfl | hd
   ·show(sh.map ltsP).all (PL.plain 4)=true;rw[XE];intro e he;obtain⟨p,_,rfl⟩:=XA.mp he;exact zfd 3 p
   rcases Xu.mp hd with rfl | hd
   ·show(ts.map tabP).all (PL.plain 4)=true;rw[XE];intro e he;obtain⟨t,_,rfl⟩:=XA.mp he;show(t.map rowP).all (PL.plain 3)=true;rw[XE];intro g hg;obtain⟨x,_,rfl⟩:=XA.mp hg;exact ziu 2 x
   ·rw[Xq.mp hd];show(ps.map parP).all (PL.plain 4)=true;rw[XE];intro e he;obtain⟨o,_,rfl⟩:=XA.mp he;cases o<;>rfl
  refine⟨sh,rfl,ts,rfl,Ft,htl,by lia,by lia,hpat,λzs hz=>?_⟩;rw[hz,if_neg (λz=>z rfl)];refine⟨by lia,hplain,hplain,?_⟩;walk_at "go";exact⟨ds.length-b,by lia,(hIv _ _).mpr ⟨b,_,_,_,_,_,_,rfl,rfl⟩⟩
 ·walk_at "go";exact q
end
theorem zoV:∀ns:List Int,ns.length<=63->fLaw [.lst (ns.map PV.int)] λd k=>d=.bl true:=λns h=>⟨ns,rfl,h,rfl⟩
theorem len1 {us:List Value}{s0:Str}(h:us.length=[s0].length):∃a0,us=[a0]:=by obtain⟨a0,us,rfl⟩:=XI h;have h:=Nat.succ.inj h;rw[Yq.mp h];exact⟨a0,rfl⟩
theorem len2 {us:List Value}{s0 s1:Str}(h:us.length=[s0,s1].length):∃a0 a1,us=[a0,a1]:=by obtain⟨a0,us,rfl⟩:=XI h;have h:=Nat.succ.inj h;obtain⟨a1,us,rfl⟩:=XI h;have h:=Nat.succ.inj h;rw[Yq.mp h];exact⟨a0,a1,rfl⟩
theorem len3 {us:List Value}{s0 s1 s2:Str}(h:us.length=[s0,s1,s2].length):∃a0 a1 a2,us=[a0,a1,a2]:=by obtain⟨a0,us,rfl⟩:=XI h;have h:=Nat.succ.inj h;obtain⟨a1,us,rfl⟩:=XI h;have h:=Nat.succ.inj h;obtain⟨a2,us,rfl⟩:=XI h;have h:=Nat.succ.inj h;rw[Yq.mp h];exact⟨a0,a1,a2,rfl⟩
theorem len4 {us:List Value}{s0 s1 s2 s3:Str}(h:us.length=[s0,s1,s2,s3].length):∃a0 a1 a2 a3,us=[a0,a1,a2,a3]:=by obtain⟨a0,us,rfl⟩:=XI h;have h:=Nat.succ.inj h;obtain⟨a1,us,rfl⟩:=XI h;have h:=Nat.succ.inj h;obtain⟨a2,us,rfl⟩:=XI h;have h:=Nat.succ.inj h;obtain⟨a3,us,rfl⟩:=XI h;have h:=Nat.succ.inj h;rw[Yq.mp h];exact⟨a0,a1,a2,a3,rfl⟩
theorem all_mk  {l:PySem.W.OpenLaw}{w:World}{K:Xa}{h:Heap}{mg:Str->Option Value}{fa f0 f1 f2 f3 f4 f5 f6 f7 f8 f9 f10 f11 f12 f13 f14 f15 f16 f17 f18 f19 f20 f21 f22 f23 f24 f25 f26 g0:Addr}(X:K.In h)(G:h.Ns mainGlobals mg)(hfa:mg "law" = some (.ref fa))
  {od0 an0 od1 an1 od2 an2 od3 an3 od4 an4 od5 an5 od6 an6 od7 an7 od8 an8 od9 an9 od10 an10 od11 an11 od12 an12 od13 an13 od14 an14 od15 an15 od16 an16 od17 an17 od18 an18 od19 an19 od20 an20 od21 an21 od22 an22 od23 an23 od24 an24 od25 an25 od26 an26:Option Addr} {sl0 sl1 sl2 sl3 sl4 sl5 sl6 sl7 sl8 sl9 sl10 sl11 sl12 sl13 sl14 sl15 sl16 sl17 sl18 sl19 sl20 sl21 sl22 sl23 sl24 sl25 sl26:Array (Option Value)} {oc0 kV0 dc0 pm0 cd0 ct0 oc1 kV1 dc1 pm1 cd1 ct1 oc2 kV2 dc2 pm2 cd2 ct2 oc3 kV3 dc3 pm3 cd3 ct3 oc4 kV4 dc4 pm4 cd4 ct4 oc5 kV5 dc5 pm5 cd5 ct5 oc6 kV6 dc6 pm6 cd6 ct6 oc7 kV7 dc7 pm7 cd7 ct7 oc8 kV8 dc8 pm8 cd8 ct8 oc9 kV9 dc9 pm9 cd9 ct9 oc10 kV10 dc10 pm10 cd10 ct10 oc11 kV11 dc11 pm11 cd11 ct11 oc12 kV12 dc12 pm12 cd12 ct12 oc13 kV13 dc13 pm13 cd13 ct13 oc14 kV14 dc14 pm14 cd14 ct14 oc15 kV15 dc15 pm15 cd15 ct15 oc16 kV16 dc16 pm16 cd16 ct16 oc17 kV17 dc17 pm17 cd17 ct17 oc18 kV18 dc18 pm18 cd18 ct18 oc19 kV19 dc19 pm19 cd19 ct19 oc20 kV20 dc20 pm20 cd20 ct20 oc21 kV21 dc21 pm21 cd21 ct21 oc22 kV22 dc22 pm22 cd22 ct22 oc23 kV23 dc23 pm23 cd23 ct23 oc24 kV24 dc24 pm24 cd24 ct24 oc25 kV25 dc25 pm25 cd25 ct25 oc26 kV26 dc26 pm26 cd26 ct26:Value}
  (a0:Xy K mainGlobals "children_of" = some (some (.ref f0))) (l0:K.lookup f0=some ⟨oc0,od0,.func (XL "children_of" "children_of" (zav zaF) (zaq zaF) (zac zaF) .none kV0 dc0 pm0 an0 cd0 ct0),sl0⟩) (c0:XF K cd0 "children_of" = true) (k0:Xz K (.ref f0)=true)
  (a1:Xy K mainGlobals "walk" = some (some (.ref f1))) (l1:K.lookup f1=some ⟨oc1,od1,.func (XL "walk" "walk" (zav zgd) (zaq zgd) (zac zgd) .none kV1 dc1 pm1 an1 cd1 ct1),sl1⟩) (c1:XF K cd1 "walk" = true) (k1:Xz K (.ref f1)=true)
  (a2:Xy K mainGlobals "bond_of" = some (some (.ref f2))) (l2:K.lookup f2=some ⟨oc2,od2,.func (XL "bond_of" "bond_of" (zav zcz) (zaq zcz) (zac zcz) .none kV2 dc2 pm2 an2 cd2 ct2),sl2⟩) (c2:XF K cd2 "bond_of" = true) (k2:Xz K (.ref f2)=true)
  (a3:Xy K mainGlobals "cells_at" = some (some (.ref f3))) (l3:K.lookup f3=some ⟨oc3,od3,.func (XL "cells_at" "cells_at" (zav zba) (zaq zba) (zac zba) .none kV3 dc3 pm3 an3 cd3 ct3),sl3⟩) (c3:XF K cd3 "cells_at" = true) (k3:Xz K (.ref f3)=true)
  (a4:Xy K mainGlobals "count" = some (some (.ref f4))) (l4:K.lookup f4=some ⟨oc4,od4,.func (XL "count" "count" (zav zeH) (zaq zeH) (zac zeH) .none kV4 dc4 pm4 an4 cd4 ct4),sl4⟩) (c4:XF K cd4 "count" = true) (k4:Xz K (.ref f4)=true)
  (a5:Xy K mainGlobals "_law_whole" = some (some (.ref f5))) (l5:K.lookup f5=some ⟨oc5,od5,.func (XL "_law_whole" "_law_whole" (zav zeI) (zaq zeI) (zac zeI) .none kV5 dc5 pm5 an5 cd5 ct5),sl5⟩) (c5:XF K cd5 "_law_whole" = true) (k5:Xz K (.ref f5)=true)
  (a6:Xy K mainGlobals "_law_mixed" = some (some (.ref f6))) (l6:K.lookup f6=some ⟨oc6,od6,.func (XL "_law_mixed" "_law_mixed" (zav zcF) (zaq zcF) (zac zcF) .none kV6 dc6 pm6 an6 cd6 ct6),sl6⟩) (c6:XF K cd6 "_law_mixed" = true) (k6:Xz K (.ref f6)=true)
  (a7:Xy K mainGlobals "_law_picked" = some (some (.ref f7))) (l7:K.lookup f7=some ⟨oc7,od7,.func (XL "_law_picked" "_law_picked" (zav zcM) (zaq zcM) (zac zcM) .none kV7 dc7 pm7 an7 cd7 ct7),sl7⟩) (c7:XF K cd7 "_law_picked" = true) (k7:Xz K (.ref f7)=true)
  (a8:Xy K mainGlobals "_law_alphabet" = some (some (.ref f8))) (l8:K.lookup f8=some ⟨oc8,od8,.func (XL "_law_alphabet" "_law_alphabet" (zav zbO) (zaq zbO) (zac zbO) .none kV8 dc8 pm8 an8 cd8 ct8),sl8⟩) (c8:XF K cd8 "_law_alphabet" = true) (k8:Xz K (.ref f8)=true)
  (a9:Xy K mainGlobals "_law_tree" = some (some (.ref f9))) (l9:K.lookup f9=some ⟨oc9,od9,.func (XL "_law_tree" "_law_tree" (zav zhh) (zaq zhh) (zac zhh) .none kV9 dc9 pm9 an9 cd9 ct9),sl9⟩) (c9:XF K cd9 "_law_tree" = true) (k9:Xz K (.ref f9)=true)
  (a10:Xy K mainGlobals "_law_turned" = some (some (.ref f10))) (l10:K.lookup f10=some ⟨oc10,od10,.func (XL "_law_turned" "_law_turned" (zav zcZ) (zaq zcZ) (zac zcZ) .none kV10 dc10 pm10 an10 cd10 ct10),sl10⟩) (c10:XF K cd10 "_law_turned" = true) (k10:Xz K (.ref f10)=true)
  (a11:Xy K mainGlobals "_law_cell_pool" = some (some (.ref f11))) (l11:K.lookup f11=some ⟨oc11,od11,.func (XL "_law_cell_pool" "_law_cell_pool" (zav zhi) (zaq zhi) (zac zhi) .none kV11 dc11 pm11 an11 cd11 ct11),sl11⟩) (c11:XF K cd11 "_law_cell_pool" = true) (k11:Xz K (.ref f11)=true)
  (a12:Xy K mainGlobals "_law_lines" = some (some (.ref f12))) (l12:K.lookup f12=some ⟨oc12,od12,.func (XL "_law_lines" "_law_lines" (zav zec) (zaq zec) (zac zec) .none kV12 dc12 pm12 an12 cd12 ct12),sl12⟩) (c12:XF K cd12 "_law_lines" = true) (k12:Xz K (.ref f12)=true)
  (a13:Xy K mainGlobals "_law_drawn_rows" = some (some (.ref f13))) (l13:K.lookup f13=some ⟨oc13,od13,.func (XL "_law_drawn_rows" "_law_drawn_rows" (zav zbe) (zaq zbe) (zac zbe) .none kV13 dc13 pm13 an13 cd13 ct13),sl13⟩) (c13:XF K cd13 "_law_drawn_rows" = true) (k13:Xz K (.ref f13)=true)
  (a14:Xy K mainGlobals "_law_letters" = some (some (.ref f14))) (l14:K.lookup f14=some ⟨oc14,od14,.func (XL "_law_letters" "_law_letters" (zav zcu) (zaq zcu) (zac zcu) .none kV14 dc14 pm14 an14 cd14 ct14),sl14⟩) (c14:XF K cd14 "_law_letters" = true) (k14:Xz K (.ref f14)=true)
  (a15:Xy K mainGlobals "_law_joined" = some (some (.ref f15))) (l15:K.lookup f15=some ⟨oc15,od15,.func (XL "_law_joined" "_law_joined" (zav zda) (zaq zda) (zac zda) .none kV15 dc15 pm15 an15 cd15 ct15),sl15⟩) (c15:XF K cd15 "_law_joined" = true) (k15:Xz K (.ref f15)=true)
  (a16:Xy K mainGlobals "_law_answers" = some (some (.ref f16))) (l16:K.lookup f16=some ⟨oc16,od16,.func (XL "_law_answers" "_law_answers" (zav zbP) (zaq zbP) (zac zbP) .none kV16 dc16 pm16 an16 cd16 ct16),sl16⟩) (c16:XF K cd16 "_law_answers" = true) (k16:Xz K (.ref f16)=true)
  (a17:Xy K mainGlobals "_law_beneath" = some (some (.ref f17))) (l17:K.lookup f17=some ⟨oc17,od17,.func (XL "_law_beneath" "_law_beneath" (zav zcv) (zaq zcv) (zac zcv) .none kV17 dc17 pm17 an17 cd17 ct17),sl17⟩) (c17:XF K cd17 "_law_beneath" = true) (k17:Xz K (.ref f17)=true)
  (a18:Xy K mainGlobals "_law_walk" = some (some (.ref f18))) (l18:K.lookup f18=some ⟨oc18,od18,.func (XL "_law_walk" "_law_walk" (zav zed) (zaq zed) (zac zed) .none kV18 dc18 pm18 an18 cd18 ct18),sl18⟩) (c18:XF K cd18 "_law_walk" = true) (k18:Xz K (.ref f18)=true)
  (a19:Xy K mainGlobals "_law_filled_up" = some (some (.ref f19))) (l19:K.lookup f19=some ⟨oc19,od19,.func (XL "_law_filled_up" "_law_filled_up" (zav zbQ) (zaq zbQ) (zac zbQ) .none kV19 dc19 pm19 an19 cd19 ct19),sl19⟩) (c19:XF K cd19 "_law_filled_up" = true) (k19:Xz K (.ref f19)=true)
  (a20:Xy K mainGlobals "_law_made" = some (some (.ref f20))) (l20:K.lookup f20=some ⟨oc20,od20,.func (XL "_law_made" "_law_made" (zav zeJ) (zaq zeJ) (zac zeJ) .none kV20 dc20 pm20 an20 cd20 ct20),sl20⟩) (c20:XF K cd20 "_law_made" = true) (k20:Xz K (.ref f20)=true)
  (a21:Xy K mainGlobals "law" = some (some (.ref f21))) (l21:K.lookup f21=some ⟨oc21,od21,.func (XL "law" "law" (zav sLaw) (zaq sLaw) (zac sLaw) .none kV21 dc21 pm21 an21 cd21 ct21),sl21⟩) (c21:XF K cd21 "law" = true) (k21:Xz K (.ref f21)=true)
  (z0:Xy K mainGlobals "range" = some none)
  (z1:Xy K mainGlobals "len" = some none)
  (z2:Xy K mainGlobals "list" = some none)
  (z3:Xy K mainGlobals "tuple" = some none)
  (z4:Xy K mainGlobals "sorted" = some none)
  (z5:Xy K mainGlobals "set" = some none)
  (z6:Xy K mainGlobals "isinstance" = some none)
  (z7:Xy K mainGlobals "str" = some none)
  (z8:Xy K mainGlobals "int" = some none)
  (z9:Xy K mainGlobals "bool" = some none)
  (z10:Xy K mainGlobals "dict" = some none)
  (z11:Xy K mainGlobals "enumerate" = some none)
  (z12:Xy K mainGlobals "zip" = some none)
  (z13:Xy K mainGlobals "min" = some none)
  (z14:Xy K mainGlobals "max" = some none)
  (z15:Xy K mainGlobals "sum" = some none)
  (z16:Xy K mainGlobals "all" = some none)
  (z17:Xy K mainGlobals "any" = some none)
  (z18:Xy K mainGlobals "reversed" = some none)
  (z19:Xy K mainGlobals "abs" = some none)
  (z20:Xy K mainGlobals "ord" = some none)
  (y0:Xy K mainGlobals "Tally" = some (some (.ref g0)))
  (a22:XY K (.ref g0) "__init__" = some (some (.ref f22))) (l22:K.lookup f22=some ⟨oc22,od22,.func (XL "__init__" "Tally.__init__" (zav zdf) (zaq zdf) (zac zdf) .none kV22 dc22 pm22 an22 cd22 ct22),sl22⟩) (c22:XF K cd22 "Tally.__init__" = true) (k22:Xz K (.ref f22)=true) (m22:PySem.W.isFn K (.ref f22)=true)
  (a23:XY K (.ref g0) "fan_of" = some (some (.ref f23))) (l23:K.lookup f23=some ⟨oc23,od23,.func (XL "fan_of" "Tally.fan_of" (zav zee) (zaq zee) (zac zee) .none kV23 dc23 pm23 an23 cd23 ct23),sl23⟩) (c23:XF K cd23 "Tally.fan_of" = true) (k23:Xz K (.ref f23)=true) (m23:PySem.W.isFn K (.ref f23)=true)
  (a24:XY K (.ref g0) "options" = some (some (.ref f24))) (l24:K.lookup f24=some ⟨oc24,od24,.func (XL "options" "Tally.options" (zav zbo) (zaq zbo) (zac zbo) .none kV24 dc24 pm24 an24 cd24 ct24),sl24⟩) (c24:XF K cd24 "Tally.options" = true) (k24:Xz K (.ref f24)=true) (m24:PySem.W.isFn K (.ref f24)=true)
  (a25:XY K (.ref g0) "ways" = some (some (.ref f25))) (l25:K.lookup f25=some ⟨oc25,od25,.func (XL "ways" "Tally.ways" (zav zfg) (zaq zfg) (zac zfg) .none kV25 dc25 pm25 an25 cd25 ct25),sl25⟩) (c25:XF K cd25 "Tally.ways" = true) (k25:Xz K (.ref f25)=true) (m25:PySem.W.isFn K (.ref f25)=true)
  (a26:XY K (.ref g0) "ways_beneath" = some (some (.ref f26))) (l26:K.lookup f26=some ⟨oc26,od26,.func (XL "ways_beneath" "Tally.ways_beneath" (zav zaC) (zaq zaC) (zac zaC) .none kV26 dc26 pm26 an26 cd26 ct26),sl26⟩) (c26:XF K cd26 "Tally.ways_beneath" = true) (k26:Xz K (.ref f26)=true) (m26:PySem.W.isFn K (.ref f26)=true)
  (mk0:PySem.W.makesIn K g0=true)
  (kc0:Xz K (.ref g0)=true)
  (tc1:PySem.W.plainGet K g0 Str.empty=true)
  (tc2:PySem.W.hasDictIn K g0=true)
  (tc3:PySem.W.plainOver K g0=true)
  (tc4:XY K (.ref g0) "__setattr__" = some (some (.builtin "object.__setattr__")))
  (t_shape:XY K (.ref g0) "shape" = some none)
  (t_root:XY K (.ref g0) "root" = some none)
  (t_children:XY K (.ref g0) "children" = some none)
  (t_bonds:XY K (.ref g0) "bonds" = some none)
  (t_fans:XY K (.ref g0) "fans" = some none) :
  ∃fd:FuncData,(∀(s:Shared) (v:Value),BindsTo s fd ⟨[v],[]⟩ [("_law_script",v)])/\∀base:Heap,K.In base->base.Ns mainGlobals mg->FnOk l.prog w K mg base CX0 9 fa fd ["_law_script"] (spP K fLaw):=by
 have e:=hfa.symm.trans (XW X G a21);cases e;have F0:=zaT (st:=zaF) l0 c0 k0;have X0:Fx K mg "children_of" zaF ["parents","i"] f0 _:=⟨F0,F0.binds (ps:=["parents","i"]) λ_ _ _ _ _ _ us hl=>by obtain⟨_,_,rfl⟩:=len2 hl;rfl,XW X G a0⟩;have F1:=zaT (st:=zgd) l1 c1 k1;have X1:Fx K mg "walk" zgd ["parents"] f1 _:=⟨F1,F1.binds (ps:=["parents"]) λ_ _ _ _ _ _ us hl=>by obtain⟨_,rfl⟩:=len1 hl;rfl,XW X G a1⟩;have F2:=zaT (st:=zcz) l2 c2 k2;have X2:Fx K mg "bond_of" zcz ["shape","parents","i"] f2 _:=⟨F2,F2.binds (ps:=["shape","parents","i"]) λ_ _ _ _ _ _ us hl=>by obtain⟨_,_,_,rfl⟩:=len3 hl;rfl,XW X G a2⟩;have F3:=zaT (st:=zba) l3 c3 k3;have X3:Fx K mg "cells_at" zba ["known","letters"] f3 _:=⟨F3,F3.binds (ps:=["known","letters"]) λ_ _ _ _ _ _ us hl=>by obtain⟨_,_,rfl⟩:=len2 hl;rfl,XW X G a3⟩;have F4:=zaT (st:=zeH) l4 c4 k4;have X4:Fx K mg "count" zeH ["shape","rows","parents"] f4 _:=⟨F4,F4.binds (ps:=["shape","rows","parents"]) λ_ _ _ _ _ _ us hl=>by obtain⟨_,_,_,rfl⟩:=len3 hl;rfl,XW X G a4⟩;have F5:=zaT (st:=zeI) l5 c5 k5;have X5:Fx K mg "_law_whole" zeI ["_law_found"] f5 _:=⟨F5,F5.binds (ps:=["_law_found"]) λ_ _ _ _ _ _ us hl=>by obtain⟨_,rfl⟩:=len1 hl;rfl,XW X G a5⟩;have F6:=zaT (st:=zcF) l6 c6 k6;have X6:Fx K mg "_law_mixed" zcF ["_law_cell","_law_k"] f6 _:=⟨F6,F6.binds (ps:=["_law_cell","_law_k"]) λ_ _ _ _ _ _ us hl=>by obtain⟨_,_,rfl⟩:=len2 hl;rfl,XW X G a6⟩;have F7:=zaT (st:=zcM) l7 c7 k7;have X7:Fx K mg "_law_picked" zcM ["_law_cell","_law_some","_law_many"] f7 _:=⟨F7,F7.binds (ps:=["_law_cell","_law_some","_law_many"]) λ_ _ _ _ _ _ us hl=>by obtain⟨_,_,_,rfl⟩:=len3 hl;rfl,XW X G a7⟩;have F8:=zaT (st:=zbO) l8 c8 k8;have X8:Fx K mg "_law_alphabet" zbO ["_law_cell"] f8 _:=⟨F8,F8.binds (ps:=["_law_cell"]) λ_ _ _ _ _ _ us hl=>by obtain⟨_,rfl⟩:=len1 hl;rfl,XW X G a8⟩;have F9:=zaT (st:=zhh) l9 c9 k9;have X9:Fx K mg "_law_tree" zhh ["_law_cells","_law_letters_here"] f9 _:=⟨F9,F9.binds (ps:=["_law_cells","_law_letters_here"]) λ_ _ _ _ _ _ us hl=>by obtain⟨_,_,rfl⟩:=len2 hl;rfl,XW X G a9⟩;have F10:=zaT (st:=zcZ) l10 c10 k10;have X10:Fx K mg "_law_turned" zcZ ["_law_shape","_law_parents"] f10 _:=⟨F10,F10.binds (ps:=["_law_shape","_law_parents"]) λ_ _ _ _ _ _ us hl=>by obtain⟨_,_,rfl⟩:=len2 hl;rfl,XW X G a10⟩;have F11:=zaT (st:=zhi) l11 c11 k11;have X11:Fx K mg "_law_cell_pool" zhi ["_law_cell"] f11 _:=⟨F11,F11.binds (ps:=["_law_cell"]) λ_ _ _ _ _ _ us hl=>by obtain⟨_,rfl⟩:=len1 hl;rfl,XW X G a11⟩;have F12:=zaT (st:=zec) l12 c12 k12;have X12:Fx K mg "_law_lines" zec ["_law_rows"] f12 _:=⟨F12,F12.binds (ps:=["_law_rows"]) λ_ _ _ _ _ _ us hl=>by obtain⟨_,rfl⟩:=len1 hl;rfl,XW X G a12⟩;have F13:=zaT (st:=zbe) l13 c13 k13;have X13:Fx K mg "_law_drawn_rows" zbe ["_law_cells","_law_pattern","_law_pool"] f13 _:=⟨F13,F13.binds (ps:=["_law_cells","_law_pattern","_law_pool"]) λ_ _ _ _ _ _ us hl=>by obtain⟨_,_,_,rfl⟩:=len3 hl;rfl,XW X G a13⟩;have F14:=zaT (st:=zcu) l14 c14 k14;have X14:Fx K mg "_law_letters" zcu ["_law_shape"] f14 _:=⟨F14,F14.binds (ps:=["_law_shape"]) λ_ _ _ _ _ _ us hl=>by obtain⟨_,rfl⟩:=len1 hl;rfl,XW X G a14⟩;have F15:=zaT (st:=zda) l15 c15 k15;have X15:Fx K mg "_law_joined" zda ["_law_found","_law_pattern","_law_row"] f15 _:=⟨F15,F15.binds (ps:=["_law_found","_law_pattern","_law_row"]) λ_ _ _ _ _ _ us hl=>by obtain⟨_,_,_,rfl⟩:=len3 hl;rfl,XW X G a15⟩;have F16:=zaT (st:=zbP) l16 c16 k16;have X16:Fx K mg "_law_answers" zbP ["_law_shape","_law_rows"] f16 _:=⟨F16,F16.binds (ps:=["_law_shape","_law_rows"]) λ_ _ _ _ _ _ us hl=>by obtain⟨_,_,rfl⟩:=len2 hl;rfl,XW X G a16⟩;have F17:=zaT (st:=zcv) l17 c17 k17;have X17:Fx K mg "_law_beneath" zcv ["_law_parents","_law_i"] f17 _:=⟨F17,F17.binds (ps:=["_law_parents","_law_i"]) λ_ _ _ _ _ _ us hl=>by obtain⟨_,_,rfl⟩:=len2 hl;rfl,XW X G a17⟩;have F18:=zaT (st:=zed) l18 c18 k18;have X18:Fx K mg "_law_walk" zed ["_law_parents"] f18 _:=⟨F18,F18.binds (ps:=["_law_parents"]) λ_ _ _ _ _ _ us hl=>by obtain⟨_,rfl⟩:=len1 hl;rfl,XW X G a18⟩;have F19:=zaT (st:=zbQ) l19 c19 k19;have X19:Fx K mg "_law_filled_up" zbQ ["_law_cells","_law_at","_law_many"] f19 _:=⟨F19,F19.binds (ps:=["_law_cells","_law_at","_law_many"]) λ_ _ _ _ _ _ us hl=>by obtain⟨_,_,_,rfl⟩:=len3 hl;rfl,XW X G a19⟩;have F20:=zaT (st:=zeJ) l20 c20 k20;have X20:Fx K mg "_law_made" zeJ ["_law_cells","_law_at","_law_most"] f20 _:=⟨F20,F20.binds (ps:=["_law_cells","_law_at","_law_most"]) λ_ _ _ _ _ _ us hl=>by obtain⟨_,_,_,rfl⟩:=len3 hl;rfl,XW X G a20⟩;have F21:=zaT (st:=sLaw) l21 c21 k21;have F22:=zaT (st:=zdf) l22 c22 k22;have X22:Ix K mg g0 "Tally" "Tally.__init__" zdf ["self","shape","rows","parents"] f22 _:=⟨F22,F22.binds (ps:=["self","shape","rows","parents"]) λ_ _ _ _ _ _ us hl=>by obtain⟨_,_,_,_,rfl⟩:=len4 hl;rfl,⟨mk0,a22,m22,kc0⟩,XW X G y0⟩;have F23:=zaT (st:=zee) l23 c23 k23;have X23:Mx K g0 "fan_of" "Tally.fan_of" zee ["self","i","table"] f23 _:=⟨F23,F23.binds (ps:=["self","i","table"]) λ_ _ _ _ _ _ us hl=>by obtain⟨_,_,_,rfl⟩:=len3 hl;rfl,⟨a23,m23,k23⟩⟩;have F24:=zaT (st:=zbo) l24 c24 k24;have X24:Mx K g0 "options" "Tally.options" zbo ["self","i","known"] f24 _:=⟨F24,F24.binds (ps:=["self","i","known"]) λ_ _ _ _ _ _ us hl=>by obtain⟨_,_,_,rfl⟩:=len3 hl;rfl,⟨a24,m24,k24⟩⟩;have F25:=zaT (st:=zfg) l25 c25 k25;have X25:Mx K g0 "ways" "Tally.ways" zfg ["self","i","known"] f25 _:=⟨F25,F25.binds (ps:=["self","i","known"]) λ_ _ _ _ _ _ us hl=>by obtain⟨_,_,_,rfl⟩:=len3 hl;rfl,⟨a25,m25,k25⟩⟩;have F26:=zaT (st:=zaC) l26 c26 k26;have X26:Mx K g0 "ways_beneath" "Tally.ways_beneath" zaC ["self","i","known"] f26 _:=⟨F26,F26.binds (ps:=["self","i","known"]) λ_ _ _ _ _ _ us hl=>by obtain⟨_,_,_,rfl⟩:=len3 hl;rfl,⟨a26,m26,k26⟩⟩;have B:Bl mg:=⟨XO X G z0,XO X G z1,XO X G z2,XO X G z3,XO X G z4,XO X G z5,XO X G z6,XO X G z7,XO X G z8,XO X G z9,XO X G z10,XO X G z11,XO X G z12,XO X G z13,XO X G z14,XO X G z15,XO X G z16,XO X G z17,XO X G z18,XO X G z19,XO X G z20⟩;have T:TF K g0:=⟨⟨tc1,tc2,tc3,tc4⟩,t_shape,t_root,t_children,t_bonds,t_fans⟩;exact⟨XL "law" "law" (zav sLaw) (zaq sLaw) (zac sLaw) .none kV21 dc21 pm21 an21 cd21 ct21,λs v=>.of_eq rfl,λbase _ _=>zta F21 X20 ((zoE X20.fn X6 X12 X7 X8 X9 X10 X11 X13 X19 B).mono (by decide)) X1 ((zmX X1.fn X0 B).mono (by decide)) X18 ((zoG 5 X18.fn X17 B).mono (by decide)) X5 ((zoC X5.fn B).mono (by decide)) X4 (zoP X4.fn T X22 X3 X24 X25 X26 X23 X0 X2 X1 B) X16 ((zlb X16.fn X15 X14 B).mono (by decide)) B⟩
end Q31
open PySem PySem.W
set_option maxRecDepth 100000 in
set_option maxHeartbeats 0 in
theorem PySem.Challenge.cw_joinwood_k31_counted_holds : PySem.Challenge.rw_joinwood_k31_counted.Holds := by
 w_on;o_law;k_head;(case hw=>w_witness2)
 k_fill
 refine PL.ztD (l:=PySem.Challenge.rw_joinwood_k31_counted) (k:=9) (FL:=Q31.fLaw) (x:="_law_script") rfl rfl ⟨rfl,by decide,by decide⟩ Q31.zoU (fun w h Y=>PySem.W.kIn_of Y) ?F Q31.zoV
 case F=>
  intro w mg fa h KX G hmg
  refine' Q31.all_mk KX G hmg ?a0 ?l0 ?c0 ?k0 ?a1 ?l1 ?c1 ?k1 ?a2 ?l2 ?c2 ?k2 ?a3 ?l3 ?c3 ?k3 ?a4 ?l4 ?c4 ?k4 ?a5 ?l5 ?c5 ?k5 ?a6 ?l6 ?c6 ?k6 ?a7 ?l7 ?c7 ?k7 ?a8 ?l8 ?c8 ?k8 ?a9 ?l9 ?c9 ?k9 ?a10 ?l10 ?c10 ?k10 ?a11 ?l11 ?c11 ?k11 ?a12 ?l12 ?c12 ?k12 ?a13 ?l13 ?c13 ?k13 ?a14 ?l14 ?c14 ?k14 ?a15 ?l15 ?c15 ?k15 ?a16 ?l16 ?c16 ?k16 ?a17 ?l17 ?c17 ?k17 ?a18 ?l18 ?c18 ?k18 ?a19 ?l19 ?c19 ?k19 ?a20 ?l20 ?c20 ?k20 ?a21 ?l21 ?c21 ?k21 ?z0 ?z1 ?z2 ?z3 ?z4 ?z5 ?z6 ?z7 ?z8 ?z9 ?z10 ?z11 ?z12 ?z13 ?z14 ?z15 ?z16 ?z17 ?z18 ?z19 ?z20 ?y0 ?a22 ?l22 ?c22 ?k22 ?m22 ?a23 ?l23 ?c23 ?k23 ?m23 ?a24 ?l24 ?c24 ?k24 ?m24 ?a25 ?l25 ?c25 ?k25 ?m25 ?a26 ?l26 ?c26 ?k26 ?m26 ?mk0 ?kc0 ?tc1 ?tc2 ?tc3 ?tc4 ?t_shape ?t_root ?t_children ?t_bonds ?t_fans
  (case a0=>k_is)
  (case l0=>k_is)
  (case c0=>k_is)
  (case k0=>k_is)
  (case a1=>k_is)
  (case l1=>k_is)
  (case c1=>k_is)
  (case k1=>k_is)
  (case a2=>k_is)
  (case l2=>k_is)
  (case c2=>k_is)
  (case k2=>k_is)
  (case a3=>k_is)
  (case l3=>k_is)
  (case c3=>k_is)
  (case k3=>k_is)
  (case a4=>k_is)
  (case l4=>k_is)
  (case c4=>k_is)
  (case k4=>k_is)
  (case a5=>k_is)
  (case l5=>k_is)
  (case c5=>k_is)
  (case k5=>k_is)
  (case a6=>k_is)
  (case l6=>k_is)
  (case c6=>k_is)
  (case k6=>k_is)
  (case a7=>k_is)
  (case l7=>k_is)
  (case c7=>k_is)
  (case k7=>k_is)
  (case a8=>k_is)
  (case l8=>k_is)
  (case c8=>k_is)
  (case k8=>k_is)
  (case a9=>k_is)
  (case l9=>k_is)
  (case c9=>k_is)
  (case k9=>k_is)
  (case a10=>k_is)
  (case l10=>k_is)
  (case c10=>k_is)
  (case k10=>k_is)
  (case a11=>k_is)
  (case l11=>k_is)
  (case c11=>k_is)
  (case k11=>k_is)
  (case a12=>k_is)
  (case l12=>k_is)
  (case c12=>k_is)
  (case k12=>k_is)
  (case a13=>k_is)
  (case l13=>k_is)
  (case c13=>k_is)
  (case k13=>k_is)
  (case a14=>k_is)
  (case l14=>k_is)
  (case c14=>k_is)
  (case k14=>k_is)
  (case a15=>k_is)
  (case l15=>k_is)
  (case c15=>k_is)
  (case k15=>k_is)
  (case a16=>k_is)
  (case l16=>k_is)
  (case c16=>k_is)
  (case k16=>k_is)
  (case a17=>k_is)
  (case l17=>k_is)
  (case c17=>k_is)
  (case k17=>k_is)
  (case a18=>k_is)
  (case l18=>k_is)
  (case c18=>k_is)
  (case k18=>k_is)
  (case a19=>k_is)
  (case l19=>k_is)
  (case c19=>k_is)
  (case k19=>k_is)
  (case a20=>k_is)
  (case l20=>k_is)
  (case c20=>k_is)
  (case k20=>k_is)
  (case a21=>k_is)
  (case l21=>k_is)
  (case c21=>k_is)
  (case k21=>k_is)
  (case z0=>k_is)
  (case z1=>k_is)
  (case z2=>k_is)
  (case z3=>k_is)
  (case z4=>k_is)
  (case z5=>k_is)
  (case z6=>k_is)
  (case z7=>k_is)
  (case z8=>k_is)
  (case z9=>k_is)
  (case z10=>k_is)
  (case z11=>k_is)
  (case z12=>k_is)
  (case z13=>k_is)
  (case z14=>k_is)
  (case z15=>k_is)
  (case z16=>k_is)
  (case z17=>k_is)
  (case z18=>k_is)
  (case z19=>k_is)
  (case z20=>k_is)
  (case y0=>k_is)
  (case a22=>k_is)
  (case l22=>k_is)
  (case c22=>k_is)
  (case k22=>k_is)
  (case m22=>k_is)
  (case a23=>k_is)
  (case l23=>k_is)
  (case c23=>k_is)
  (case k23=>k_is)
  (case m23=>k_is)
  (case a24=>k_is)
  (case l24=>k_is)
  (case c24=>k_is)
  (case k24=>k_is)
  (case m24=>k_is)
  (case a25=>k_is)
  (case l25=>k_is)
  (case c25=>k_is)
  (case k25=>k_is)
  (case m25=>k_is)
  (case a26=>k_is)
  (case l26=>k_is)
  (case c26=>k_is)
  (case k26=>k_is)
  (case m26=>k_is)
  (case mk0=>first | k_is | k_exc | kit_is | kernel_rfl)
  (case kc0=>first | k_is | k_exc | kit_is | kernel_rfl)
  (case tc1=>first | k_is | k_exc | kit_is | kernel_rfl)
  (case tc2=>first | k_is | k_exc | kit_is | kernel_rfl)
  (case tc3=>first | k_is | k_exc | kit_is | kernel_rfl)
  (case tc4=>first | k_is | k_exc | kit_is | kernel_rfl)
  (case t_shape=>first | k_is | k_exc | kit_is | kernel_rfl)
  (case t_root=>first | k_is | k_exc | kit_is | kernel_rfl)
  (case t_children=>first | k_is | k_exc | kit_is | kernel_rfl)
  (case t_bonds=>first | k_is | k_exc | kit_is | kernel_rfl)
  (case t_fans=>first | k_is | k_exc | kit_is | kernel_rfl)
#print axioms PySem.Challenge.cw_joinwood_k31_counted_holds
