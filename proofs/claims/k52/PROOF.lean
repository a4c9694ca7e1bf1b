import PyProof.Rows.All
import Wide.All
import OpenK.AllK
import Wide.FinOn
import Lean
import PyProof.EqAt
import PyProof.EqKinds
import PyProof.TupleCall
import PyProof.NeKinds
import PyProof.AttrMissHeap
import PyProof.EnumMake
import PyProof.DictUpdate
import KE.KDictOf
import KE.KDictList
import PyProof.MaxThree
import PyProof.ListStr
import PyProof.ConsumeWalk
import PyProof.SliceStr2
import PyProof.StrBlockI
import PyProof.EnumStmt
import PyProof.ZipIter
import PyProof.Rows.CallKwBuiltin
import PyProof.Rows.SeqMore
import PyProof.Rows.SortRuns
import PyProof.Rows.SortPure
import PyProof.Rows.SortShell
import PyProof.Dict
import PySem.Challenge.RW_joinwood_k52_whole_by_letters
set_option Elab.async false
set_option linter.all false
set_option maxRecDepth 100000
set_option maxHeartbeats 4000000
open List renaming getElem?_eq_getElem->Xa,length_map->Xc,getElem?_map->Xd,getElem?_eq_some_iff->Xe,mem_cons_of_mem->Xg,take_of_length_le->Xi,mem_cons_self->Xj,getD_eq_getElem?_getD->Xk,mem_singleton->Xl,map_append->Xm,mem_of_getElem?->Xn,getElem?_set_ne->Xo,size_toArray->Xq,mem_append->Xr,getElem?_set_self->Xs,mem_map->Xt,mem_cons->Xx,map_cons->Xy,length_append->XB,take_add_one->XD,append_assoc->XE,getElem?_eq_none->XG,length_take->XH,length_eq_zero_iff->XI,exists_cons_of_length_eq_add_one->XL,pairwise_append->XM,getElem?_append_right->XQ,map->XT,all_eq_true->XV,set_eq_of_length_le->XX,range->XZ,length_cons->Ya,take_append_drop->Yb,mem_filter->Yd,getElem?_append_left->Yg,nodup_cons->Yi,map_map->Ym,mem_range->Yp,getElem_mem->Yr,find?_cons->Ys,length_set->Yt,mem_append_right->Yu,drop_of_length_le->Yv,filter_append->Yx,perm_append_comm->Yy,length_filter_le->Yz,length_eraseIdx_of_lt->YA,nodup_append->YB,Perm->YC,drop_eq_getElem_cons->YD,append_nil->YE,mem_iff_getElem->YH,foldl_cons->YK,extract_eq_drop_take->YL,map_congr_left->YM
open PySem.W renaming Frag->Xb,nsIn->XF,mg_none_of->XO,keepIn->XS,codeIn->XW,fnOf->XY,mg_of->Yk
open Nat renaming le_refl->Xf,ne_of_lt->XJ,lt_of_lt_of_le->XR,zero_le->XU,le_trans->Ye,lt_or_ge->YG,lt_irrefl->YJ,lt_succ_of_lt->YN
open PySem.Heap renaming get?_push_of_some->Xh,lt_size->XA,get?_push_size->XC,SameBut->Yh,get?_update_other->Yj,get?_update_self->Yl
open Array renaming toList_append->Xp,getElem?_toList->Xu,length_toList->Xv,toList_reverse->Yq
open Bool renaming false_ne_true->Xw,false_eq_true->Xz,and_eq_true->YF
open PySem.SetTable renaming below->Yc,insertAt->Yf,runEnd->Yo,grown->YI,sizeAbove->YO
open Int renaming emod_nonneg->Yn,emod_lt_of_pos->Yw
theorem aU0x (h:True:=by rfl):True:=h
abbrev aU0:Lean.Syntax:=aU0x._auto_1
theorem aU1x (h:True:=by decide):True:=h
abbrev aU1:Lean.Syntax:=aU1x._auto_1
theorem aU2x (h:True:=by first | exact .inl rfl | exact .inr rfl | assumption):True:=h
abbrev aU2:Lean.Syntax:=aU2x._auto_1
theorem aU3x (h:True:=by intro _;rfl):True:=h
abbrev aU3:Lean.Syntax:=aU3x._auto_1
theorem aU4x (h:True:=by first | exact Or.inl rfl | exact Or.inr (Or.inl rfl) | exact Or.inr (Or.inr rfl)):True:=h
abbrev aU4:Lean.Syntax:=aU4x._auto_1
theorem aU5x (h:True:=by first | exact zeI _ | rfl):True:=h
abbrev aU5:Lean.Syntax:=aU5x._auto_1
theorem aU6x (h:True:=by exact λ_ _=>rfl):True:=h
abbrev aU6:Lean.Syntax:=aU6x._auto_1
theorem aU7x (h:True:=by exact⟨rfl,rfl,rfl,rfl⟩):True:=h
abbrev aU7:Lean.Syntax:=aU7x._auto_1
namespace _L
open PySem PySem.Spec PyProof.Rows
noncomputable abbrev Key:=Sum Int Str
noncomputable def ziP:Key->Value->Bool
 | .inl k,v=>Value.isInt k v
 | .inr x,v=>Value.isStrOf x v
noncomputable def keyH (w:World):Key->Int
 | .inl k=>hashInt k
 | .inr x=>hashStr w x
theorem zaF:∀ {k:Key}{v:Value},ziP k v=true->(∃i t,k=Sum.inl i/\v=Value.int i t)\/(∃x t,k=Sum.inr x/\v=Value.str x t)
 | .inl i,v,h=>by
  obtain⟨t,e⟩:=Value.isInt_shape (k:=i) (v:=v) h;exact .inl ⟨i,t,rfl,e⟩
 | .inr x,v,h=>by
  obtain⟨t,e⟩:=Value.isStrOf_shape (x:=x) (v:=v) h;exact .inr ⟨x,t,rfl,e⟩
theorem zlw (i:Int)(t:Tok):ziP (.inl i) (.int i t)=true:=by simp[ziP,Value.isInt]
theorem zlx (x:Str)(t:Tok):ziP (.inr x) (.str x t)=true:=by simp[ziP,Value.isStrOf]
theorem zrr (a b:Int):decide ((Sum.inl a:Key)=Sum.inl b)=(a == b):=by
 by_cases e:a=b
 ·subst e;simp
 ·have h:¬ (Sum.inl a:Key)=Sum.inl b:=λq=>e (Sum.inl.inj q);rw[decide_eq_false h];exact(beq_eq_false_iff_ne.mpr e).symm
theorem zrs (a b:Str):decide ((Sum.inr a:Key)=Sum.inr b)=decide (a=b):=by
 by_cases e:a=b
 ·subst e;simp
 ·have h:¬ (Sum.inr a:Key)=Sum.inr b:=λq=>e (Sum.inr.inj q);rw[decide_eq_false h,decide_eq_false e]
theorem zrt (a:Int)(b:Str):decide ((Sum.inl a:Key)=Sum.inr b)=false:=decide_eq_false (λq=>nomatch q)
theorem zru (a:Str)(b:Int):decide ((Sum.inr a:Key)=Sum.inl b)=false:=decide_eq_false (λq=>nomatch q)
noncomputable def zaD (prog:Program)(w:World):PySem.KeyKind prog w Key where
 is:=ziP
 hash:=keyH w
 inj:=λv a b ha hb=>by
  rcases zaF ha with ⟨i,t,rfl,rfl⟩ | ⟨x,t,rfl,rfl⟩
  ·rcases zaF hb with ⟨j,u,rfl,e⟩ | ⟨y,u,rfl,e⟩
   ·injection e with e1 _;rw[e1]
   ·exact nomatch e
  ·rcases zaF hb with ⟨j,u,rfl,e⟩ | ⟨y,u,rfl,e⟩
   ·exact nomatch e
   ·injection e with e1 _;rw[e1]
 byValue:=λk v h=>by
  rcases zaF h with ⟨i,t,rfl,rfl⟩ | ⟨x,t,rfl,rfl⟩<;>rfl
 pyHash:=λhv h=>by
  rcases zaF hv with ⟨i,t,rfl,rfl⟩ | ⟨x,t,rfl,rfl⟩
  ·exact wpAny_pyHash_int h
  ·exact wpAny_pyHash_str h
 eqBool:=λhu hv h=>by
  rcases zaF hu with ⟨i,t,rfl,rfl⟩ | ⟨x,t,rfl,rfl⟩
  ·rcases zaF hv with ⟨j,u,rfl,rfl⟩ | ⟨y,u,rfl,rfl⟩
   ·rw[zrr]at h;exact wpAny_eqBool_int h
   ·rw[zrt]at h;exact SeqAt.EqAt.int_str i t y u _ _ _ _ h
  ·rcases zaF hv with ⟨j,u,rfl,rfl⟩ | ⟨y,u,rfl,rfl⟩
   ·rw[zru]at h;exact SeqAt.EqAt.str_int x t j u _ _ _ _ h
   ·rw[zrs]at h;exact wpAny_eqBool_str h
 «strs»:=λk x t v h=>by
  rcases zaF h with ⟨i,u,rfl,e⟩ | ⟨y,u,rfl,e⟩
  ·exact nomatch e
  ·injection e with e1 _;subst e1;cases v<;>rfl
theorem ziQ (prog:Program)(w:World)(i:Int)(t:Tok):(zaD prog w).is (.inl i) (.int i t)=true:=zlw i t
theorem ziR (prog:Program)(w:World)(x:Str)(t:Tok):(zaD prog w).is (.inr x) (.str x t)=true:=zlx x t
inductive V where
 | non | bl (b:Bool) | int (i:Int) | str (x:Str) | byt (b:Array UInt8) | flt (b:UInt64) | ref (a:Addr) | ty (n:String)
 deriving DecidableEq
noncomputable def RelV:V->Value->Prop
 | .non,u=>u=Value.none
 | .bl b,u=>u=Value.bool b
 | .int i,u=>∃t,u=Value.int i t
 | .str x,u=>∃t,u=Value.str x t
 | .byt b,u=>∃t,u=Value.bytes b t
 | .flt b,u=>∃t,u=Value.float b t
 | .ref a,u=>u=Value.ref a
 | .ty n,u=>u=Value.type n
noncomputable abbrev Vals:List V->List Value->Prop:=Paired RelV
theorem Vals.length {xs:List V}{us:List Value}(r:Vals xs us):xs.length=us.length:=Paired.length r
theorem Vals.get:∀ {xs:List V}{us:List Value}{i:Nat}{x:V},Vals xs us->xs[i]? = some x->∃u,us[i]? = some u/\RelV x u
 | _,_,_,_,.nil,e=>by simp at e
 | _,_,0,_,.cons r _,e=>by simp at e;subst e;exact⟨_,rfl,r⟩
 | _,_,i+1,x,.cons _ t,e=>by
  obtain⟨u,h1,h2⟩:=Vals.get (i:=i) (x:=x) t (by simpa using e);exact⟨u,by simpa using h1,h2⟩
theorem Vals.append:∀ {xs ys:List V}{us ws:List Value},Vals xs us->Vals ys ws->Vals (xs++ys) (us++ws):=by
 intro xs ys us ws h s;induction h with
 | nil=>exact s
 | cons r t ih=>exact .cons r ih
theorem Vals.take:∀ {xs:List V}{us:List Value}(n:Nat),Vals xs us->Vals (xs.take n) (us.take n)
 | _,_,0,_=>.nil
 | _,_,_+1,.nil=>.nil
 | _,_,n+1,.cons r t=>.cons r (Vals.take n t)
theorem Vals.drop:∀ {xs:List V}{us:List Value}(n:Nat),Vals xs us->Vals (xs.drop n) (us.drop n)
 | _,_,0,r=>r
 | _,_,_+1,.nil=>.nil
 | _,_,n+1,.cons _ t=>Vals.drop n t
noncomputable def RelO:Option V->Option Value->Prop
 | some v,some u=>RelV v u
 | none,none=>True
 | _,_=>False
noncomputable def KV {κ:Type}:List (κ×V)->List (κ×Value)->Prop:=Paired λ(p:κ×V)(q:κ×Value)=>p.1=q.1/\RelV p.2 q.2
noncomputable def kV:Key->V
 | .inl i=>.int i
 | .inr x=>.str x
inductive HO where
  | lst (xs:List V)
  | tup (xs:List V)
  | dK (kvs:List (Key×V)) | dT (kvs:List (List Key×V))
  | set (S:Int->Bool) (n:Nat)
  | ins (C dx:Addr) (fs:List (Str×V))
  | own (x:Addr)
  | xd (fs:List (Str×V))
  | met (f x:Addr)
  | rng (lo hi:Int)
  | frz (o:Obj) (u:HO)
  | tbl (ps:Array Value)
  | ext (φ:Heap->Prop)
noncomputable abbrev Hp:=Addr->Option HO
noncomputable def upd (H:Hp)(a:Addr)(o:HO):Hp:=λb=>if b=a then some o else H b
theorem zag {H:Hp}{a:Addr}{o:HO}:upd H a o a=some o:=by unfold upd;rw[if_pos rfl]
theorem zaf {H:Hp}{a b:Addr}{o:HO}(h:b≠a):upd H a o b=H b:=by unfold upd;rw[if_neg h]
theorem zrv {H:Hp}{a b:Addr}{o u:HO}(h:H a=some o)(h':H b=some u)(d:o≠u):a≠b:=by
 intro e;subst e;rw[h]at h';exact d (Option.some.inj h')
theorem zay {H:Hp}{a b:Addr}{o:HO}(h:H a=some o)(h':H b=none):a≠b:=by
 intro e;subst e;rw[h]at h';cases h'
noncomputable def zcE (h:Heap)(a:Addr)(its:Array Value):Prop:=∃o,h.get? a=some o/\o.cls=.type "tuple"/\(∃n,o.data=.seq its n)/\o.dict=none
theorem zcE.tup {h:Heap}{a:Addr}{its:Array Value}(p:zcE h a its):IsTup h a its:=by obtain⟨o,e,c,⟨n,d⟩,_⟩:=p;exact⟨o,e,c,n,d⟩
theorem zcE.lt {h:Heap}{a:Addr}{its:Array Value}(p:zcE h a its):a<h.objs.size:=p.tup.lt
theorem zcE.new (h:Heap)(items:Array Value):zcE (h.push { cls:=.type "tuple",data:=.seq items }) h.objs.size items:=⟨_,XC _ rfl,rfl,⟨_,rfl⟩,rfl⟩
section
variable (P:Program)(w:World)
noncomputable def zbi (H:Hp)(h:Heap)(a:Addr):HO->Prop
 | .lst xs=>xs.length<=sizeLine/\∃(its:List Value) (n:Nat),Vals xs its/\h.get? a=some { cls:=.type "list",data:=.seq its.toArray n }
 | .tup xs=>xs.length<=sizeLine/\∃its:List Value,Vals xs its/\zcE h a its.toArray
 | .dK kvs=>kvs.length<=sizeLine/\(a == sysModules)=false/\∃vs,KV kvs vs/\h.DictOf (zaD P w) a vs
 | .dT kvs=>kvs.length<=sizeLine/\(a == sysModules)=false/\∃xs:List (List Key×Addr×Value),
   Paired (λ(p:List Key×V) (q:List Key×Addr×Value)=>p.1=q.1/\H q.2.1=some (.tup (p.1.map kV))/\RelV p.2 q.2.2) kvs xs/\
   ∃o es ep,h.get? a=some o/\o.ExactDict/\o.data=.dict es ep/\es.toList=xs.map (entryOfKey (tupleKind (zaD P w)))/\(xs.map (·.1)).Nodup
 | .set S n=>h.SetOf (intKind P w) a S n
 | .ins C dx fs=>H dx=some (.own a)/\fs.length<=1000/\dx≠a/\h.get? a=some (PySem.W.instObj C dx)/\
   ∃mA,h.Ns1 dx mA/\(∀f,RelO (fs.lookup f) (mA f))/\PySem.Within mA (fs.map (·.1))
 | .own _=>∃o,h.get? a=some o
 | .xd fs=>∃mA,h.Ns1 a mA/\∀f,RelO (fs.lookup f) (mA f)
 | .rng lo hi=>∃t u v,h.get? a=some { cls:=.type "range",data:=.fields #[.int lo t,.int hi u,.int 1 v] }
 | .frz o u=>h.get? a=some o/\zbi H h a u
 | .tbl ps=>h.get? a=some { cls:=.none,data:=.fields ps }
 | .met f x=>h.get? a=some (PySem.W.methodObj (.ref f) (.ref x))
 | .ext φ=>φ h/\(∃o,h.get? a=some o)/\∀h1 h2:Heap,φ h1->(∀o,h1.get? a=some o->h2.get? a=some o)->φ h2
noncomputable def HOk (H:Hp)(h:Heap):Prop:=∀a o,H a=some o->zbi P w H h a o
end
section
variable {P:Program}{w:World}{H H':Hp}{h h':Heap}{a:Addr}{o:HO}
theorem zbi.lt (x:zbi P w H h a o):a<h.objs.size:=by
 cases o with
 | lst xs=>obtain⟨_,_,_,_,e⟩:=x;exact XA e
 | tup xs=>obtain⟨_,_,_,p⟩:=x;exact p.lt
 | dK kvs=>obtain⟨_,_,_,_,o,_,_,e,_⟩:=x;exact XA e
 | dT kvs=>obtain⟨_,_,_,_,o,_,_,e,_⟩:=x;exact XA e
 | set S n=>obtain⟨o,_,_,_,e,_⟩:=x;exact XA e
 | ins C dx fs=>obtain⟨_,_,_,e,_⟩:=x;exact XA e
 | own y=>obtain⟨_,e⟩:=x;exact XA e
 | xd fs=>obtain⟨_,⟨_,_,_,e,_⟩,_⟩:=x;exact XA e
 | rng lo hi=>obtain⟨_,_,_,e⟩:=x;exact XA e
 | frz ob u=>obtain⟨e,_⟩:=x;exact XA e
 | tbl ps=>exact XA (show h.get? a=some _ from x)
 | met f y=>exact XA (show h.get? a=some _ from x)
 | ext φ=>obtain⟨_,⟨_,e⟩,_⟩:=x;exact XA e
theorem Paired.mapP {α β:Type}{F G:α->β->Prop}:∀ {l₁:List α}{l₂:List β},Paired F l₁ l₂->(∀a b,F a b->G a b)->Paired G l₁ l₂:=by
 intro l₁ l₂ h f;induction h with
 | nil=>exact .nil
 | cons r t ih=>exact .cons (f _ _ r) ih
theorem zbi.stay (x:zbi P w H h a o)(k:∀b u,(b=a\/H b=some (.own a))->h.get? b=some u->h'.get? b=some u)
  (ho:∀b,H b=some (.own a)->H' b=some (.own a)) (ht:∀b xs,H b=some (.tup xs)->H' b=some (.tup xs)):zbi P w H' h' a o:=by
 induction o with
 | lst xs=>obtain⟨z,its,n,r,e⟩:=x;exact⟨z,its,n,r,k _ _ (.inl rfl) e⟩
 | tup xs=>obtain⟨z,its,r,ob,e,c⟩:=x;exact⟨z,its,r,ob,k _ _ (.inl rfl) e,c⟩
 | dK kvs=>obtain⟨z,y,vs,r,ob,es,ep,e,c⟩:=x;exact⟨z,y,vs,r,ob,es,ep,k _ _ (.inl rfl) e,c⟩
 | dT kvs=>
  obtain⟨z,y,xs,r,ob,es,ep,e,c⟩:=x;exact⟨z,y,xs,Paired.mapP r λp q z=>⟨z.1,ht _ _ z.2.1,z.2.2⟩,ob,es,ep,k _ _ (.inl rfl) e,c⟩
 | set S n=>obtain⟨ob,es,ep,t,e,c⟩:=x;exact⟨ob,es,ep,t,k _ _ (.inl rfl) e,c⟩
 | ins C dx fs=>
  obtain⟨d,z,ne,e,mA,⟨od,es,ep,e2,c⟩,r⟩:=x;exact⟨ho _ d,z,ne,k _ _ (.inl rfl) e,mA,⟨od,es,ep,k _ _ (.inr d) e2,c⟩,r⟩
 | own y=>obtain⟨ob,e⟩:=x;exact⟨ob,k _ _ (.inl rfl) e⟩
 | xd fs=>obtain⟨mA,⟨od,es,ep,e,c⟩,r⟩:=x;exact⟨mA,⟨od,es,ep,k _ _ (.inl rfl) e,c⟩,r⟩
 | rng lo hi=>obtain⟨t,u,v,e⟩:=x;exact⟨t,u,v,k _ _ (.inl rfl) e⟩
 | frz ob u ih=>obtain⟨e,q⟩:=x;exact⟨k _ _ (.inl rfl) e,ih q⟩
 | tbl ps=>
  have e:h.get? a=some { cls:=.none,data:=.fields ps }:=x;show h'.get? a=some { cls:=.none,data:=.fields ps };exact k a _ (.inl rfl) e
 | met f y=>
  have e:h.get? a=some (PySem.W.methodObj (.ref f) (.ref y)):=x;show h'.get? a=some (PySem.W.methodObj (.ref f) (.ref y));exact k a _ (.inl rfl) e
 | ext φ=>obtain⟨p,⟨o,e⟩,st⟩:=x;exact⟨st _ _ p λo q=>k _ _ (.inl rfl) q,⟨o,k _ _ (.inl rfl) e⟩,st⟩
theorem HOk.lt (x:HOk P w H h)(e:H a=some o):a<h.objs.size:=(x a o e).lt
theorem HOk.fresh (x:HOk P w H h)(e:h.objs.size<=a):H a=none:=by
 cases q:H a with
 | none=>rfl
 | some u=>exact absurd (XR (x.lt q) e) (YJ _)
theorem HOk.kept (x:HOk P w H h)(k:∀b u,h.get? b=some u->h'.get? b=some u):HOk P w H h':=λa o e=>
 (x a o e).stay (λb u _ q=>k b u q) (λ_ q=>q) λ_ _ q=>q
theorem HOk.laid (x:HOk P w H h)(k:∀b u,h.get? b=some u->h'.get? b=some u)(hp:h.objs.size<=a)(new:zbi P w (upd H a o) h' a o):HOk P w (upd H a o) h':=λb u e=>by
 have hn:=x.fresh hp;by_cases hb:b=a
 ·subst hb;rw[zag]at e;cases e;exact new
 ·rw[zaf hb]at e;exact(x b u e).stay (λc v _ q=>k c v q) (λc q=>by rw[zaf (zay q hn)];exact q) λc xs q=>by rw[zaf (zay q hn)];exact q
end
noncomputable def Rd (H:Hp)(a:Addr)(u:HO):Prop:=H a=some u\/∃o,H a=some (.frz o u)
theorem Rd.ok {P:Program}{w:World}{H:Hp}{h:Heap}{a:Addr}{u:HO}(r:Rd H a u)(x:HOk P w H h):zbi P w H h a u:=by
 rcases r with r | ⟨o,r⟩
 ·exact x a u r
 ·obtain⟨_,q⟩:=x a _ r;exact q
noncomputable def Mut:Option HO->Prop
 | some (.lst _)=>True
 | some (.dK _)=>True
 | some (.dT _)=>True
 | some (.set _ _)=>True
 | some (.ins _ _ _)=>True
 | some (.ext _)=>True
 | _=>False
section
variable {P:Program}{w:World}{H:Hp}{h h':Heap}{x e:Addr}{o':HO}
theorem HOk.write (ok:HOk P w H h)(mu:Mut (H x))(he:e=x\/H e=some (.own x))(k:∀b u,b≠e->h.get? b=some u->h'.get? b=some u)(heo:∃u,h'.get? e=some u)
  (new:zbi P w (upd H x o') h' x o'):HOk P w (upd H x o') h':=λb u q=>by
 have nown:∀c y,H c=some (.own y)->c≠x:=λc y r z=>by subst z;rw[r]at mu;exact mu
 have ntup:∀c xs,H c=some (.tup xs)->c≠x:=λc xs r z=>by subst z;rw[r]at mu;exact mu
 by_cases hb:b=x
 ·subst hb;rw[zag]at q;cases q;exact new
 ·rw[zaf hb]at q;by_cases hbe:b=e
  ·have q':H b=some (.own x):=by
    rcases he with z | z
    ·exact absurd (hbe.trans z) hb
    ·rw[hbe];exact z
   rw[q]at q';cases q';obtain⟨v,hv⟩:=heo;exact⟨v,by rw[hbe];exact hv⟩
  ·refine(ok b u q).stay (λc v hc r=>k c v ?_ r) (λc r=>by rw[zaf (nown c b r)];exact r) λc xs r=>by rw[zaf (ntup c xs r)];exact r
   rcases hc with rfl | hc
   ·exact hbe
   ·rintro rfl;rcases he with z | z
    ·exact nown c b hc z
    ·rw[hc]at z;cases z;exact hb rfl
end
structure Un (fs ex:List Addr)(H H':Hp)(h h':Heap):Prop where
 keep:∀b o,h.get? b=some o->H b=none->b∉fs->b∉ex->h'.get? b=some o
 slot:∀b o,h.get? b=some o->H b=none->b∈fs->b∉ex->∃sl,h'.get? b=some { o with slots:=sl }
 free:∀b o,h.get? b=some o->H b=none->b∉ex->H' b=none
 there:∀b o,h.get? b=some o->b∉ex->∃o',h'.get? b=some o'
 tups:∀b xs,H b=some (.tup xs)->H' b=some (.tup xs)
 frzs:∀b o u,H b=some (.frz o u)->H' b=some (.frz o u)
 tbls:∀b ps,H b=some (.tbl ps)->∃more,H' b=some (.tbl (ps++more))
section
variable {fs fs' ex ex':List Addr}{H H1 H2:Hp}{h h1 h2 h':Heap}{a x e:Addr}{o:HO}
theorem Un.any (u:Un fs ex H H1 h h1){b:Addr}{ob:Obj}(q:h.get? b=some ob)(n:H b=none)(hx:b∉ex):∃sl,h1.get? b=some { ob with slots:=sl }:=by
 by_cases hb:b∈fs
 ·exact u.slot b ob q n hb hx
 ·exact⟨ob.slots,u.keep b ob q n hb hx⟩
theorem Un.trans (a:Un fs ex H H1 h h1)(b:Un fs ex H1 H2 h1 h2):Un fs ex H H2 h h2 where
 keep:=λc ob q n hc hx=>b.keep c ob (a.keep c ob q n hc hx) (a.free c ob q n hx) hc hx
 slot:=λc ob q n hc hx=>by
  obtain⟨sl,e1⟩:=a.slot c ob q n hc hx;obtain⟨sl',e2⟩:=b.slot c _ e1 (a.free c ob q n hx) hc hx;exact⟨sl',e2⟩
 free:=λc ob q n hx=>by
  obtain⟨o',e1⟩:=a.there c ob q hx;exact b.free c o' e1 (a.free c ob q n hx) hx
 there:=λc ob q hx=>by
  obtain⟨o',e1⟩:=a.there c ob q hx;exact b.there c o' e1 hx
 tups:=λc xs q=>b.tups c xs (a.tups c xs q)
 frzs:=λc ob xs q=>b.frzs c ob xs (a.frzs c ob xs q)
 tbls:=λc ps q=>by
  obtain⟨m1,e1⟩:=a.tbls c ps q;obtain⟨m2,e2⟩:=b.tbls c _ e1;exact⟨m1++m2,by rw[e2,Array.append_assoc]⟩
theorem Un.kept (k:∀b u,h.get? b=some u->h'.get? b=some u):Un fs ex H H h h':=
 ⟨λb ob q _ _ _=>k b ob q,λb ob q _ _ _=>⟨ob.slots,k b ob q⟩,λ_ _ _ n _=>n,λb ob q _=>⟨ob,k b ob q⟩,λ_ _ q=>q,λ_ _ _ q=>q,λ_ ps q=>⟨#[],by rw[q];simp⟩⟩
theorem Un.refl:Un fs ex H H h h:=Un.kept λ_ _ q=>q
theorem Un.laid (k:∀b u,h.get? b=some u->h'.get? b=some u)(hp:h.objs.size<=a)(hn:H a=none):Un fs ex H (upd H a o) h h' where
 keep:=λb u q _ _ _=>k b u q
 slot:=λb u q _ _ _=>⟨u.slots,k b u q⟩
 free:=λb u q n _=>by rw[zaf (XJ (XR (XA q) hp))];exact n
 there:=λb u q _=>⟨u,k b u q⟩
 tups:=λb xs q=>by rw[zaf (zay q hn)];exact q
 frzs:=λb u xs q=>by rw[zaf (zay q hn)];exact q
 tbls:=λb ps q=>⟨#[],by rw[zaf (zay q hn),q];simp⟩
theorem Un.write (mu:Mut (H x))(he:e=x\/H e=some (.own x))(k:∀b u,b≠e->h.get? b=some u->h'.get? b=some u)(heo:∃u,h'.get? e=some u):Un fs ex H (upd H x o) h h':=by
 have hx:∀b,H b=none->b≠x:=λb n z=>by subst z;rw[n]at mu;exact mu
 have hb:∀b,H b=none->b≠e:=λb n z=>by
  subst z;rcases he with r | r
  ·exact hx b n r
  ·rw[n]at r;cases r
 have hm:∀b u,H b=some u->¬ Mut (some u)->b≠x:=λb u q nm z=>by subst z;rw[q]at mu;exact nm mu
 refine⟨λb u q n _ _=>k b u (hb b n) q,λb u q n _ _=>⟨u.slots,k b u (hb b n) q⟩,λb u q n _=>by rw[zaf (hx b n)];exact n,λb u q _=>?_,
  λb xs q=>by rw[zaf (hm b _ q λz=>z)];exact q,λb u xs q=>by rw[zaf (hm b _ q λz=>z)];exact q,λb ps q=>⟨#[],by rw[zaf (hm b _ q λz=>z),q];simp⟩⟩
 by_cases hbe:b=e
 ·subst hbe;exact heo
 ·exact⟨u,k b u hbe q⟩
end
noncomputable def trk (h:Heap)(H:Hp):List Addr:=(XZ h.objs.size).filter λa=>(H a).isSome
noncomputable def hidT (h:Heap)(H:Hp):Heap:=PySem.W.hideAll h (trk h H)
theorem zly (h:Heap)(H:Hp):(hidT h H).objs.size=h.objs.size:=PySem.W.hideAll_size _ _
theorem znS {h:Heap}{H:Hp}{b:Addr}{o:Obj}(e:h.get? b=some o)(n:H b=none):(hidT h H).get? b=some o:=
 PySem.W.hideAll_get _ e λhm=>by
  have q:(H b).isSome=true:=(Yd.mp hm).2;rw[n]at q;simp at q
theorem zpQ {h:Heap}{H:Hp}{b:Addr}{o:Obj}(e:(hidT h H).get? b=some o):h.get? b=some o/\H b=none:=by
 have e':h.get? b=some o:=PySem.W.of_hideAll (trk h H) e;refine⟨e',?_⟩;cases q:H b with
 | none=>rfl
 | some x=>
  have hm:b∈trk h H:=Yd.mpr ⟨Yp.mpr (XA e'),by simp[q]⟩;have z:(hidT h H).get? b=none:=PySem.W.hideAll_none (trk h H) hm;rw[z]at e;cases e
noncomputable def zpR (g h:Heap)(L:Addr):List (Addr×Obj):=(XZ h.objs.size).filterMap λa=>if a=L\/(g.get? a).isSome=true then none else(h.get? a).map λo=>(a,o)
noncomputable def rest (g h:Heap)(L d:Addr):List (Addr×Obj):=(zpR g h L).filter λp=>decide (p.1≠d)
structure Mod (K:Xb)(mg:Str->Option Value)(base:Heap):Prop where
 kin:K.In base
 glob:base.Ns mainGlobals mg
 blt:∃mb,base.Ns builtinsNs mb/\∀x:Str,x≠"__name__"->mb x=bootBuiltins x
 nolimit:base.NoLimit
structure Cx where
 prog:Program
 w:World
 K:Xb
 mg:Str->Option Value
 base:Heap
 A:Around
 N:List Str
 s₀:Shared
 H₀:Hp
 env:Env
 outer:List Env
 stack:List Env
 ex:List Addr
 fn:Str->Bool
 calm:Bool
 pn:List (Addr×Obj)
 xe:Value->Shared->Prop
noncomputable def frs (l:List Env):List Addr:=l.filterMap (·.frame)
noncomputable abbrev Cx.fs (X:Cx):List Addr:=frs X.outer
noncomputable def Vis (sc:Scope)(x:Str):Prop:=sc.names.lookup x=some .local\/sc.names.lookup x=some .cell\/sc.names.lookup x=some .free
noncomputable def Loc (sc:Scope)(x:Str):Prop:=sc.names.lookup x=some .local\/sc.names.lookup x=some .cell
noncomputable def Look (env:Env)(h:Heap)(m:Str->Option Value)(x:Str)(u:Value):Prop:=
 (env.kindOf x=some .local/\m x=some u)\/((env.kindOf x=some .cell\/env.kindOf x=some .free)/\∃c,env.cells.lookup x=some c/\h.IsCell c (some u))
structure Cx.Ok (X:Cx):Prop where
 mod:Mod X.K X.mg X.base
 kind:X.env.scope.kind=.function
 glob:X.env.globals=mainGlobals
 blt:X.env.builtins=builtinsNs
 above:X.s₀.heap.objs.size<=X.env.locals
 inj:∀x y c,X.env.cells.lookup x=some c->X.env.cells.lookup y=some c->x=y
 has:∀x,(X.env.kindOf x=some .cell\/X.env.kindOf x=some .free)->∃c,X.env.cells.lookup x=some c
 cab:∀x c,X.fn x=true->X.env.cells.lookup x=some c->X.s₀.heap.objs.size<=c
 hd:X.calm=true->X.A.handled=none
 frames:X.A.frames=some X.stack
 stk:X.stack=X.outer\/(X.stack=X.env::X.outer/\X.env.frame=some X.env.locals)
 exf:∀b∈X.ex,b≠X.env.locals/\∀x c,X.env.cells.lookup x=some c->c≠b
 bs:∀b o,X.base.get? b=some o->X.s₀.heap.get? b=some o/\X.H₀ b=none
 bsz:X.base.objs.size<=X.s₀.heap.objs.size
 noex:∀b o,X.base.get? b=some o->b∉X.ex
 exfs:∀b∈X.ex,b∉X.fs
 funs:X.s₀.heap.FunFrames X.base X.outer
 frf:∀b∈X.fs,X.H₀ b=none
structure Inv (X:Cx)(pins:List (Addr×Obj))(σ:List (Option V))(H:Hp)(s:Shared):Prop where
 ok:X.Ok
 os:s.os=X.s₀.os
 bare:AllBare s.gens
 base:Un X.fs X.ex X.H₀ H X.s₀.heap s.heap
 loc:∃m,s.heap.Ns X.env.locals m/\∀(i:Nat) (x:Str) (v:V),X.N[i]? = some x->σ[i]? = some (some v)->Vis X.env.scope x->∃u,RelV v u/\Look X.env s.heap m x u
 cell:∀x c,X.env.cells.lookup x=some c->∃v,s.heap.IsCell c v
 free:H X.env.locals=none
 freeC:∀x c,X.env.cells.lookup x=some c->H c=none
 pin:∀p∈X.pn++pins,s.heap.get? p.1=some p.2/\H p.1=none/\p.1≠X.env.locals/\p.1∉X.fs/\∀v,p.2.data≠.cell v
 hok:HOk X.prog X.w H s.heap
 len:σ.length=X.N.length
section
variable {X:Cx}{pins:List (Addr×Obj)}{σ:List (Option V)}{H H':Hp}{s:Shared}{h':Heap}
theorem Cx.Ok.nofr (ok:X.Ok){b:Addr}{o:Obj}(e:X.base.get? b=some o):b∉X.fs:=λhb=>by
 have:=(ok.funs.mem hb).1;rw[e]at this;cases this
theorem Inv.bs (I:Inv X pins σ H s):∀b o,X.base.get? b=some o->s.heap.get? b=some o/\H b=none:=λb o e=>
 ⟨I.base.keep b o (I.ok.bs b o e).1 (I.ok.bs b o e).2 (I.ok.nofr e) (I.ok.noex b o e),I.base.free b o (I.ok.bs b o e).1 (I.ok.bs b o e).2 (I.ok.noex b o e)⟩
theorem Inv.bk (I:Inv X pins σ H s):∀b o,X.base.get? b=some o->s.heap.get? b=some o:=λb o e=>(I.bs b o e).1
theorem Inv.mod (I:Inv X pins σ H s):Mod X.K X.mg X.base:=I.ok.mod
theorem Inv.kIn (I:Inv X pins σ H s):X.K.In s.heap:=I.ok.mod.kin.keeps I.bk
theorem Inv.lt (I:Inv X pins σ H s):X.env.locals<s.heap.objs.size:=let ⟨_,hn,_⟩:=I.loc;hn.lt
theorem Inv.sz (I:Inv X pins σ H s):X.s₀.heap.objs.size<=s.heap.objs.size:=Ye I.ok.above (Nat.le_of_lt I.lt)
theorem Inv.nofs (I:Inv X pins σ H s){a:Addr}(h:s.heap.objs.size<=a):a∉X.fs:=λhb=>by
 obtain⟨_,o,ho,_⟩:=I.ok.funs.mem hb;exact absurd (XR (XA ho) (Ye I.sz h)) (YJ _)
theorem Inv.cne (I:Inv X pins σ H s):∀x c,X.env.cells.lookup x=some c->c≠X.env.locals:=λx c e z=>by
 obtain⟨v,o,ho,hd⟩:=I.cell x c e;obtain⟨m,⟨o',es,ep,ho',hd',_⟩,_⟩:=I.loc;rw[z,ho']at ho;cases ho;rw[hd']at hd;cases hd
theorem Inv.funs (I:Inv X pins σ H s):s.heap.FunFrames X.base X.outer:=by
 have all:∀(l:List Env),(∀b∈frs l,b∈X.fs)->X.s₀.heap.FunFrames X.base l->s.heap.FunFrames X.base l:=by
  intro l;induction l with
  | nil=>intro _ _;trivial
  | cons env r ih=>
   intro hs hl;obtain⟨hk,⟨L,o,hf,hn,ho,hd⟩,hr⟩:=hl;have hL:L∈X.fs:=hs L (by unfold frs;rw[List.filterMap_cons,hf];exact Xj);obtain⟨sl,e⟩:=I.base.slot L o ho (I.ok.frf L hL) hL λz=>I.ok.exfs L z hL;exact⟨hk,⟨L,_,hf,hn,e,hd⟩,ih (λb hb=>hs b (by unfold frs;rw[List.filterMap_cons,hf];exact Xg _ hb)) hr⟩
 exact all X.outer (λ_ hb=>hb) I.ok.funs
theorem Inv.stack (I:Inv X pins σ H s):s.heap.FunFrames X.base X.stack:=by
 rcases I.ok.stk with e | ⟨e,hf⟩
 ·rw[e];exact I.funs
 ·rw[e];obtain⟨m,hn,_⟩:=I.loc;refine .cons (by rw[I.ok.kind];decide) hf hn ?_ I.funs;exact Heap.get?_none_of_le (Ye I.ok.bsz I.ok.above)
theorem Inv.zlz (I:Inv X pins σ H s):∀b∈frs X.stack,b∈X.env.locals::X.fs:=λb hb=>by
 rcases I.ok.stk with e | ⟨e,hf⟩
 ·rw[e]at hb;exact Xg _ hb
 ·rw[e]at hb;unfold frs at hb;rw[List.filterMap_cons,hf]at hb;exact hb
theorem Inv.zlA (I:Inv X pins σ H s):∀b∈frs X.stack,H b=none:=λb hb=>by
 rcases Xx.mp (I.zlz b hb)with e | hb
 ·rw[e];exact I.free
 ·obtain⟨_,o,ho,_⟩:=I.ok.funs.mem hb;exact I.base.free b o ho (I.ok.frf b hb) λz=>I.ok.exfs b z hb
theorem Inv.step {g':Array GenState}{t':Nat}{d':Drawn}{ch:List Addr}(I:Inv X pins σ H s)
  (hch:∀b∈ch,(b∈X.ex\/X.s₀.heap.objs.size<=b)/\b≠X.env.locals/\(∀x c,X.env.cells.lookup x=some c->c≠b)/\∀p∈X.pn++pins,p.1≠b)
  (keep:∀b o,b≠X.env.locals->b∉X.fs->b∉ch->s.heap.get? b=some o->H b=none->h'.get? b=some o)
  (slot:∀b o,b≠X.env.locals->b∈X.fs->b∉ch->s.heap.get? b=some o->H b=none->∃sl,h'.get? b=some { o with slots:=sl }) (free:∀b o,b∉ch->s.heap.get? b=some o->H b=none->H' b=none)
  (there:∀b o,b∉ch->s.heap.get? b=some o->∃o',h'.get? b=some o')
  (tups:∀b xs,H b=some (.tup xs)->H' b=some (.tup xs)) (frzs:∀b o u,H b=some (.frz o u)->H' b=some (.frz o u)) (tbls:∀b ps,H b=some (.tbl ps)->∃more,H' b=some (.tbl (ps++more)))
  (ns:∀m,s.heap.Ns X.env.locals m->h'.Ns X.env.locals m) (hok:HOk X.prog X.w H' h') (hg:AllBare g') :
  Inv X pins σ H' { s with heap:=h',gens:=g',drawn:=d',toks:=t' }:=by
 have neL:∀b o,X.s₀.heap.get? b=some o->b≠X.env.locals:=λb o e=>XJ (XR (XA e) I.ok.above);have neC:∀b o,X.s₀.heap.get? b=some o->b∉X.ex->b∉ch:=λb o e hx hb=>by
  rcases(hch b hb).1 with z | z
  ·exact hx z
  ·exact absurd (XR (XA e) z) (YJ _)
 have cellK:∀x c,X.env.cells.lookup x=some c->∀v,s.heap.IsCell c v->h'.IsCell c v:=λx c e v ⟨o,ho,hd⟩=>by
  have nch:c∉ch:=λz=>(hch c z).2.2.1 x c e rfl;by_cases hc:c∈X.fs
  ·obtain⟨sl,q⟩:=slot c o (I.cne x c e) hc nch ho (I.freeC x c e);exact⟨_,q,hd⟩
  ·exact⟨o,keep c o (I.cne x c e) hc nch ho (I.freeC x c e),hd⟩
 refine⟨I.ok,I.os,hg,⟨λb o e n hb hx=>?_,λb o e n hb hx=>?_,λb o e n hx=>?_,λb o e hx=>?_,λb xs e=>tups b xs (I.base.tups b xs e),λb o xs e=>frzs b o xs (I.base.frzs b o xs e),λb ps e=>?_⟩,?_,λx c e=>?_,?_,λx c e=>?_,λp hp=>?_,hok,I.len⟩
 ·exact keep b o (neL b o e) hb (neC b o e hx) (I.base.keep b o e n hb hx) (I.base.free b o e n hx)
 ·obtain⟨sl,e1⟩:=I.base.slot b o e n hb hx;obtain⟨sl',e2⟩:=slot b _ (neL b o e) hb (neC b o e hx) e1 (I.base.free b o e n hx);exact⟨sl',e2⟩
 ·obtain⟨o',e1⟩:=I.base.there b o e hx;exact free b o' (neC b o e hx) e1 (I.base.free b o e n hx)
 ·obtain⟨o',e1⟩:=I.base.there b o e hx;exact there b o' (neC b o e hx) e1
 ·obtain⟨m1,e1⟩:=I.base.tbls b ps e;obtain⟨m2,e2⟩:=tbls b _ e1;exact⟨m1++m2,by rw[e2,Array.append_assoc]⟩
 ·obtain⟨m,hn,hl⟩:=I.loc;refine⟨m,ns m hn,λi x v e1 e2 e3=>?_⟩;obtain⟨u,r,l⟩:=hl i x v e1 e2 e3;refine⟨u,r,?_⟩;rcases l with l | ⟨k,c,e,z⟩
  ·exact .inl l
  ·exact .inr ⟨k,c,e,cellK x c e _ z⟩
 ·obtain⟨v,z⟩:=I.cell x c e;exact⟨v,cellK x c e v z⟩
 ·obtain⟨m,⟨o,_,_,ho,_⟩,_⟩:=I.loc;exact free _ o (λz=>(hch _ z).2.1 rfl) ho I.free
 ·obtain⟨v,o,ho,hd⟩:=I.cell x c e;exact free c o (λz=>(hch c z).2.2.1 x c e rfl) ho (I.freeC x c e)
 ·obtain⟨e,n,ne,nf,d⟩:=I.pin p hp;have nch:p.1∉ch:=λz=>(hch p.1 z).2.2.2 p hp rfl;exact⟨keep p.1 p.2 ne nf nch e n,free p.1 p.2 nch e n,ne,nf,d⟩
theorem Inv.un {t':Nat}(I:Inv X pins σ H s)(u:Un X.fs [] H H' s.heap h')(hok:HOk X.prog X.w H' h'):Inv X pins σ H' { s with heap:=h',toks:=t' }:=by
 obtain⟨m,⟨o,es,ep,ho,r⟩,_⟩:=id I.loc;obtain⟨sl,hL⟩:=u.any ho I.free (by simp);exact I.step (g':=s.gens) (d':=s.drawn) (ch:=[]) (λ_ z=>nomatch z) (λb o _ hb _ e n=>u.keep b o e n hb (by simp)) (λb o _ hb _ e n=>u.slot b o e n hb (by simp)) (λb o _ e n=>u.free b o e n (by simp)) (λb o _ e=>u.there b o e (by simp)) u.tups u.frzs u.tbls (λm' hm=>by
  obtain⟨o',es',ep',ho',r'⟩:=hm;rw[ho]at ho';cases ho';exact⟨_,es',ep',hL,r'⟩) hok I.bare
theorem Inv.call {g':Array GenState}{t':Nat}{d':Drawn}{ch:List Addr}(I:Inv X pins σ H s)(u:Un (frs X.stack) ch H H' s.heap h')(hok:HOk X.prog X.w H' h')(hg:AllBare g')
  (hch:∀b∈ch,(b∈X.ex\/X.s₀.heap.objs.size<=b)/\b≠X.env.locals/\(∀x c,X.env.cells.lookup x=some c->c≠b)/\∀p∈X.pn++pins,p.1≠b) :
  Inv X pins σ H' { s with heap:=h',gens:=g',drawn:=d',toks:=t' }:=by
 obtain⟨m,⟨o,es,ep,ho,r⟩,_⟩:=id I.loc;obtain⟨sl,hL⟩:=u.any ho I.free λz=>(hch _ z).2.1 rfl;exact I.step (ch:=ch) hch (λb o hL hb hc e n=>u.keep b o e n (λz=>(Xx.mp (I.zlz b z)).elim hL hb) hc) (λb o _ _ hc e n=>u.any e n hc) (λb o hc e n=>u.free b o e n hc) (λb o hc e=>u.there b o e hc) u.tups u.frzs u.tbls (λm' hm=>by
  obtain⟨o',es',ep',ho',r'⟩:=hm;rw[ho]at ho';cases ho';exact⟨_,es',ep',hL,r'⟩) hok hg
theorem Inv.turned {t':Nat}{it:Addr}(I:Inv X pins σ H s)(k:∀b o,b≠it->s.heap.get? b=some o->h'.get? b=some o)(hn:H it=none)(hL:it≠X.env.locals)
  (h1:it∈X.ex\/X.s₀.heap.objs.size<=it) (h2:∀x c,X.env.cells.lookup x=some c->c≠it) (h3:∀p∈X.pn++pins,p.1≠it):Inv X pins σ H { s with heap:=h',toks:=t' }:=by
 have nit:∀b u,H b=some u->b≠it:=λb u e z=>by rw[z,hn]at e;cases e
 refine I.step (g':=s.gens) (d':=s.drawn) (ch:=[it]) (λb hb=>?_) (λb o _ _ hc e _=>k b o (λz=>hc (by simp[z])) e) (λb o _ _ hc e _=>⟨o.slots,k b o (λz=>hc (by simp[z])) e⟩) (λ_ _ _ _ n=>n)
  (λb o hc e=>⟨o,k b o (λz=>hc (by simp[z])) e⟩) (λ_ _ e=>e) (λ_ _ _ e=>e) (λb ps e=>⟨#[],by rw[e];simp⟩) (λm hm=>?_) (λb u e=>?_) I.bare
 ·have e:b=it:=by simpa using hb
  subst e;exact⟨h1,hL,h2,h3⟩
 ·obtain⟨o,es,ep,ho,r⟩:=hm;exact⟨o,es,ep,k _ o (Ne.symm hL) ho,r⟩
 ·refine(I.hok b u e).stay (λc v hc q=>k c v ?_ q) (λ_ q=>q) λ_ _ q=>q;rcases hc with z | z
  ·rw[z];exact nit b u e
  ·exact nit c _ z
theorem Inv.tok (I:Inv X pins σ H s)(t:Nat):Inv X pins σ H { s with toks:=t }:=I.un (h':=s.heap) (t':=t) Un.refl I.hok
theorem Inv.kept {t':Nat}(I:Inv X pins σ H s)(k:∀b u,s.heap.get? b=some u->h'.get? b=some u):Inv X pins σ H { s with heap:=h',toks:=t' }:=I.un (Un.kept k) (I.hok.kept k)
theorem Inv.laid {a:Addr}{o:HO}{t':Nat}(I:Inv X pins σ H s)(k:∀b u,s.heap.get? b=some u->h'.get? b=some u)(hp:s.heap.objs.size<=a)(new:zbi X.prog X.w (upd H a o) h' a o) :
  Inv X pins σ (upd H a o) { s with heap:=h',toks:=t' }:=I.un (Un.laid k hp (I.hok.fresh hp)) (I.hok.laid k hp new)
theorem Inv.write {x e:Addr}{o:HO}{t':Nat}(I:Inv X pins σ H s)(mu:Mut (H x))(he:e=x\/H e=some (.own x))(k:∀b u,b≠e->s.heap.get? b=some u->h'.get? b=some u)(heo:∃u,h'.get? e=some u)
  (new:zbi X.prog X.w (upd H x o) h' x o):Inv X pins σ (upd H x o) { s with heap:=h',toks:=t' }:=I.un (Un.write mu he k heo) (I.hok.write mu he k heo new)
theorem Inv.zlB {pins':List (Addr×Obj)}(I:Inv X pins σ H s)(h:∀p∈pins',s.heap.get? p.1=some p.2/\H p.1=none/\p.1≠X.env.locals/\p.1∉X.fs/\∀v,p.2.data≠.cell v):Inv X pins' σ H s:=
 ⟨I.ok,I.os,I.bare,I.base,I.loc,I.cell,I.free,I.freeC,λp hp=>(Xr.mp hp).elim (λz=>I.pin p (List.mem_append_left _ z)) (h p),I.hok,I.len⟩
theorem zjE {N:List Str}(hN:N.Nodup){i j:Nat}{x:Str}(a:N[i]? = some x)(b:N[j]? = some x):i=j:=by
 obtain⟨h1,e1⟩:=Xe.mp a;obtain⟨h2,e2⟩:=Xe.mp b;exact(List.getElem_inj hN).mp (e1.trans e2.symm)
theorem zho {M:Model}{A:Around}{E:Value->Shared->Prop}{i:Nat}{x:Str}{v:V}{u:Value}{Q:Unit->Shared->Prop}(I:Inv X pins σ H s)(hN:X.N.Nodup)(hi:X.N[i]? = some x)(hx:Loc X.env.scope x)(r:RelV v u)
  (h:∀s',Inv X pins (σ.set i (some v)) H s'->(∃a,Yh a s.heap s'.heap/\(a=X.env.locals\/X.env.cells.lookup x=some a))->Q () s') (hf:autoParam (X.fn x=true\/X.env.scope.names.lookup x=some .local) aU2):wpAny M A (storeName X.env x u) Q E s:=by
 obtain⟨m,hn,hl⟩:=id I.loc;have hcls:(X.env.scope.kind == .class||(X.env.scope.kind == .module&&X.env.locals != X.env.globals))=false:=by rw[I.ok.kind];rfl
 have hiσ:i<σ.length:=by rw[I.len];exact(Xe.mp hi).1
 have cne:=I.cne;have tracked:∀ {a:Addr} {h':Heap},(∃o,s.heap.get? a=some o/\H a=none)->Yh a s.heap h'->HOk X.prog X.w H h':=λ{a h'} ha hs b ob e=>by
  obtain⟨_,_,hfree⟩:=ha;refine(I.hok b ob e).stay (λc w' hc q=>(hs.2 c ?_).trans q) (λ_ q=>q) λ_ _ q=>q;rintro rfl;rcases hc with rfl | hc
  ·rw[hfree]at e;cases e
  ·rw[hfree]at hc;cases hc
 rcases hx with hk | hk
 ·refine wpAny_storeName_local hk hn (λh' hn' hs=>?_) hcls;obtain⟨oL,_,_,hoL,_⟩:=id hn;refine h _ ⟨I.ok,I.os,I.bare,⟨λb o e n hb hx=>?_,λb o e n hb hx=>?_,I.base.free,λb o e hx=>?_,I.base.tups,I.base.frzs,I.base.tbls⟩,⟨_,hn',λj y v' e1 e2 e3=>?_⟩,λy c e=>?_,I.free,I.freeC,λp hp=>?_,tracked ⟨oL,hoL,I.free⟩ hs,by simpa using I.len⟩ ⟨_,hs,.inl rfl⟩
  ·exact(hs.2 b (XJ (XR (XA e) I.ok.above))).trans (I.base.keep b o e n hb hx)
  ·obtain⟨sl,e1⟩:=I.base.slot b o e n hb hx;exact⟨sl,(hs.2 b (XJ (XR (XA e) I.ok.above))).trans e1⟩
  ·obtain⟨o',e1⟩:=I.base.there b o e hx;exact⟨o',(hs.2 b (XJ (XR (XA e) I.ok.above))).trans e1⟩
  ·by_cases hj:j=i
   ·subst hj;rw[hi]at e1;cases e1;rw[Xs hiσ]at e2;cases e2;exact⟨u,r,.inl ⟨hk,by simp⟩⟩
   ·rw[Xo (Ne.symm hj)]at e2;obtain⟨u',r',q⟩:=hl j y v' e1 e2 e3;refine⟨u',r',?_⟩;rcases q with ⟨k,e⟩ | ⟨k,c,e,z⟩
    ·refine .inl ⟨k,?_⟩;have:y≠x:=λe=>hj (zjE hN e1 (e▸hi));simp[this,e]
    ·exact .inr ⟨k,c,e,z.sameBut hs (cne y c e)⟩
  ·obtain⟨w',z⟩:=I.cell y c e;exact⟨w',z.sameBut hs (cne y c e)⟩
  ·obtain⟨e,n,ne,nf,d⟩:=I.pin p hp;exact⟨(hs.2 p.1 ne).trans e,n,ne,nf,d⟩
 ·have hfn:X.fn x=true:=by
   rcases hf with z | z
   ·exact z
   ·rw[z]at hk;cases hk
  obtain⟨c,hc⟩:=I.ok.has x (.inl hk);obtain⟨w',z⟩:=I.cell x c hc;refine wpAny_storeName_cell I.ok.kind hk hc z (λh' hc' hs=>?_);obtain⟨oc,hoc,hocd⟩:=id z;refine h { s with heap:=h' } ⟨I.ok,I.os,I.bare,⟨λb o e n hb hx=>?_,λb o e n hb hx=>?_,I.base.free,λb o e hx=>?_,I.base.tups,I.base.frzs,I.base.tbls⟩,⟨m,hn.sameBut hs (Ne.symm (cne x c hc)),λj y v' e1 e2 e3=>?_⟩,λy c' e=>?_,I.free,I.freeC,λp hp=>?_,tracked ⟨oc,hoc,I.freeC x c hc⟩ hs,by simpa using I.len⟩ ⟨c,hs,.inr hc⟩
  ·exact(hs.2 b (XJ (XR (XA e) (I.ok.cab x c hfn hc)))).trans (I.base.keep b o e n hb hx)
  ·obtain⟨sl,e1⟩:=I.base.slot b o e n hb hx;exact⟨sl,(hs.2 b (XJ (XR (XA e) (I.ok.cab x c hfn hc)))).trans e1⟩
  ·obtain⟨o',e1⟩:=I.base.there b o e hx;exact⟨o',(hs.2 b (XJ (XR (XA e) (I.ok.cab x c hfn hc)))).trans e1⟩
  ·by_cases hj:j=i
   ·subst hj;rw[hi]at e1;cases e1;rw[Xs hiσ]at e2;cases e2;exact⟨u,r,.inr ⟨.inl hk,c,hc,hc'⟩⟩
   ·rw[Xo (Ne.symm hj)]at e2;obtain⟨u',r',q⟩:=hl j y v' e1 e2 e3;refine⟨u',r',?_⟩;rcases q with q | ⟨k,c',e,z'⟩
    ·exact .inl q
    ·refine .inr ⟨k,c',e,z'.sameBut hs ?_⟩;rintro rfl;exact hj (zjE hN e1 (I.ok.inj _ _ _ e hc▸hi))
  ·by_cases hcc:c'=c
   ·subst hcc;exact⟨_,hc'⟩
   ·obtain⟨w2,z2⟩:=I.cell y c' e;exact⟨w2,z2.sameBut hs hcc⟩
  ·obtain⟨e,n,ne,nf,d⟩:=I.pin p hp;refine⟨(hs.2 p.1 ?_).trans e,n,ne,nf,d⟩;intro q;rw[q,hoc]at e;have q':oc=p.2:=Option.some.inj e;exact d w' (by rw[<- q'];exact hocd)
theorem zjF {M:Model}{A:Around}{E:Value->Shared->Prop}{i:Nat}{x:Str}{v:V}{u:Value}{Q:Unit->Shared->Prop}(I:Inv X pins σ H s)(hN:X.N.Nodup)(hi:X.N[i]? = some x)(hx:Loc X.env.scope x)(r:RelV v u)
  (h:∀s',Inv X pins (σ.set i (some v)) H s'->Q () s') (hf:autoParam (X.fn x=true\/X.env.scope.names.lookup x=some .local) aU2):wpAny M A (storeName X.env x u) Q E s:=
 zho I hN hi hx r (λs' I' _=>h s' I') hf
theorem Inv.call' {s':Shared}{ch:List Addr}(I:Inv X pins σ H s)(ho:s'.os=s.os)(u:Un (frs X.stack) ch H H' s.heap s'.heap)(hok:HOk X.prog X.w H' s'.heap)(hg:AllBare s'.gens)
  (hch:∀b∈ch,(b∈X.ex\/X.s₀.heap.objs.size<=b)/\b≠X.env.locals/\(∀x c,X.env.cells.lookup x=some c->c≠b)/\∀p∈X.pn++pins,p.1≠b):Inv X pins σ H' s':=by
 obtain⟨h',g',d',t',o'⟩:=s';have e:o'=s.os:=ho;subst e;exact I.call (g':=g') (t':=t') (d':=d') u hok hg hch
end
noncomputable abbrev XK:=Value->Option Addr->Hp->Prop
noncomputable abbrev St:=List (Option V)
noncomputable abbrev VK:=V->Hp->Prop
noncomputable abbrev TE:=St->Hp->VK->Prop
noncomputable abbrev TT:=St->Hp->(Bool->Hp->Prop)->Prop
noncomputable abbrev TA:=St->Hp->(List V->Hp->Prop)->Prop
structure Ends where
 nx:St->Hp->Prop
 rt:VK
 bk:St->Hp->Prop:=λ_ _=>False
 ct:St->Hp->Prop:=λ_ _=>False
noncomputable abbrev TS:=Ends->St->Hp->Prop
noncomputable def EP (X:Cx)(pins:List (Addr×Obj))(σ:St)(Q:VK)(u:Value)(s':Shared):Prop:=∃v H',Inv X pins σ H' s'/\RelV v u/\Q v H'
noncomputable def TP (X:Cx)(pins:List (Addr×Obj))(σ:St)(Q:Bool->Hp->Prop)(b:Bool)(s':Shared):Prop:=∃H',Inv X pins σ H' s'/\Q b H'
noncomputable def AP (X:Cx)(pins:List (Addr×Obj))(σ:St)(Q:List V->Hp->Prop)(us:List Value)(s':Shared):Prop:=∃vs H',Inv X pins σ H' s'/\Vals vs us/\Q vs H'
noncomputable def SP (X:Cx)(pins:List (Addr×Obj))(D:Ends)(f:Flow)(s':Shared):Prop:=
 match f with
 | .next=>∃σ' H',Inv X pins σ' H' s'/\D.nx σ' H'
 | .brk=>∃σ' H',Inv X pins σ' H' s'/\D.bk σ' H'
 | .cont=>∃σ' H',Inv X pins σ' H' s'/\D.ct σ' H'
 | .ret u=>∃v σ' H',Inv X pins σ' H' s'/\RelV v u/\D.rt v H'
noncomputable def PE (X:Cx)(e:Expr)(t:TE):Prop:=
 ∀(pins:List (Addr×Obj)) (s:Shared) (σ:St) (H:Hp) (Q:VK),Inv X pins σ H s->t σ H Q->wpAny (model X.prog X.w) X.A (eval e X.env) (EP X pins σ Q) X.xe s
noncomputable def PT (X:Cx)(e:Expr)(t:TT):Prop:=
 ∀(pins:List (Addr×Obj)) (s:Shared) (σ:St) (H:Hp) (Q:Bool->Hp->Prop),Inv X pins σ H s->t σ H Q->wpAny (model X.prog X.w) X.A (isTrue e X.env (eval e X.env)) (TP X pins σ Q) X.xe s
noncomputable def PW (X:Cx)(e:Expr)(t:TT):Prop:=
 ∀(whole:Sem Value) (pins:List (Addr×Obj)) (s:Shared) (σ:St) (H:Hp) (Q:Bool->Hp->Prop),Inv X pins σ H s->t σ H Q->wpAny (model X.prog X.w) X.A (isTrue e X.env whole) (TP X pins σ Q) X.xe s
theorem PW.pt {X:Cx}{e:Expr}{t:TT}(h:PW X e t):PT X e t:=h _
noncomputable def PA (X:Cx)(es:List Expr)(t:TA):Prop:=
 ∀(pos:Pos) (pins:List (Addr×Obj)) (s:Shared) (σ:St) (H:Hp) (Q:List V->Hp->Prop),Inv X pins σ H s->t σ H Q->wpAny (model X.prog X.w) X.A (spliced (backTo pos (starEach es X.env))) (AP X pins σ Q) X.xe s
noncomputable def PS (X:Cx)(st:Stmt)(t:TS):Prop:=
 ∀(pins:List (Addr×Obj)) (s:Shared) (σ:St) (H:Hp) (D:Ends),Inv X pins σ H s->t D σ H->wpAny (model X.prog X.w) X.A (exec st X.env) (SP X pins D) X.xe s
noncomputable def PSs (X:Cx)(st:List Stmt)(t:TS):Prop:=
 ∀(pins:List (Addr×Obj)) (s:Shared) (σ:St) (H:Hp) (D:Ends),Inv X pins σ H s->t D σ H->wpAny (model X.prog X.w) X.A (execs st X.env) (SP X pins D) X.xe s
theorem thn {α:Type}{t:Sem α}{Q Q':α->Shared->Prop}{M:Model}{A:Around}{E:Value->Shared->Prop}{s:Shared}(h:wpAny M A t Q E s)(hQ:∀a s,Q a s->Q' a s):wpAny M A t Q' E s:=wpAny_mono h hQ λ_ _ x=>x
section
variable {X:Cx}
noncomputable def tVar (i:Nat):TE:=λσ H Q=>∃v,σ[i]? = some (some v)/\Q v H
noncomputable def tC (v:V):TE:=λ_ H Q=>Q v H
theorem zdm {i:Nat}{x:Str}{pos:Pos}(hN:X.N[i]? = some x)(hv:Vis X.env.scope x)(hd:autoParam ((x == ("__debug__" : Str))=false) aU1) (hcd:autoParam ((x == ("__classdict__" : Str))=false) aU1):PE X (.Name x pos) (tVar i):=by
 intro pins s σ H Q I h;obtain⟨v,e,h⟩:=h;obtain⟨m,hn,hl⟩:=I.loc;obtain⟨u,r,l⟩:=hl i x v hN e hv;have fin:EP X pins σ Q u s:=⟨v,H,I,r,h⟩;rcases l with ⟨hk,hm⟩ | ⟨hk,c,hc,hcell⟩
 ·exact wpAny_Name (wpAny_loadName_local I.ok.kind hk hn hm fin) hd
 ·rcases hk with hk | hk
  ·exact wpAny_Name (wpAny_loadName_cell I.ok.kind hk hc hcell fin) hd
  ·exact wpAny_Name (wpAny_loadName_free I.ok.kind hk hc hcell fin hcd) hd
theorem zrw {i j pos}:PE X (.Constant (.int i) j pos) (tC (.int i)):=λ_ _ _ H _ I h=>wpAny_Constant_int ⟨.int i,H,I.tok _,⟨_,rfl⟩,h⟩
theorem ztD {b j pos}:PE X (.Constant (.bool b) j pos) (tC (.bl b)):=λ_ _ _ H _ I h=>Constant_bool ⟨.bl b,H,I,rfl,h⟩
theorem zrx {j pos}:PE X (.Constant .none j pos) (tC .non):=λ_ _ _ H _ I h=>Constant_none ⟨.non,H,I,rfl,h⟩
theorem zry {x j pos}:PE X (.Constant (.str x) j pos) (tC (.str x)):=λ_ _ _ H _ I h=>Calls.Constant_str ⟨.str x,H,I.tok _,⟨_,rfl⟩,h⟩
noncomputable def Gl (X:Cx)(x:Str):Prop:=X.env.kindOf x=some .globalImplicit
theorem zpS {E:Value->Shared->Prop}{pins:List (Addr×Obj)}{s:Shared}{σ:St}{H:Hp}{x:Str}{u:Value}{pos:Pos}{Q:Value->Shared->Prop}(I:Inv X pins σ H s)(hg:Gl X x)(hm:X.mg x=some u)(h:Q u s)
  (hd:autoParam ((x == ("__debug__" : Str))=false) aU1):wpAny (model X.prog X.w) X.A (eval (.Name x pos) X.env) Q E s:=
 Calls.Name_function_global I.ok.kind hg (Calls.loadGlobal_global (by rw[I.ok.glob];exact I.mod.glob.keeps I.bk) hm h) hd
theorem zeG {E:Value->Shared->Prop}{pins:List (Addr×Obj)}{s:Shared}{σ:St}{H:Hp}{x:Str}{u:Value}{pos:Pos}{Q:Value->Shared->Prop}(I:Inv X pins σ H s)(hg:Gl X x)(hm:X.mg x=none)(hv:bootBuiltins x=some u)(h:Q u s)
  (hn:autoParam (x≠"__name__") aU1) (hd:autoParam ((x == ("__debug__" : Str))=false) aU1):wpAny (model X.prog X.w) X.A (eval (.Name x pos) X.env) Q E s:=by
 obtain⟨mb,h1,h2⟩:=I.mod.blt;exact Calls.Name_function_global I.ok.kind hg (Calls.loadGlobal_builtin (by rw[I.ok.glob];exact I.mod.glob.keeps I.bk) hm (by rw[I.ok.blt];exact h1.keeps I.bk) ((h2 x hn).trans hv) h) hd
theorem zpT {x:Str}{v:V}{u:Value}{pos:Pos}(hg:Gl X x)(hm:X.mg x=none)(hv:bootBuiltins x=some u)(r:RelV v u)(hn:autoParam (x≠"__name__") aU1) (hd:autoParam ((x == ("__debug__" : Str))=false) aU1):PE X (.Name x pos) (tC v):=
 λ_ _ _ H _ I h=>zeG I hg hm hv ⟨v,H,I,r,h⟩ hn hd
variable {a b:Expr}{ta tb:TE}{pos:Pos}
noncomputable def PC (X:Cx)(op:CmpOp)(a b:Expr)(t:TE):Prop:=
 ∀(pins:List (Addr×Obj)) (s:Shared) (σ:St) (H:Hp) (Q:VK),Inv X pins σ H s->t σ H Q->
  wpAny (model X.prog X.w) X.A (eval a X.env) (λv s₁=>wpAny (model X.prog X.w) X.A (eval b X.env) (λu s₂=>wpAny (model X.prog X.w) X.A (compareOp op v u) (EP X pins σ Q) X.xe s₂) X.xe s₁) X.xe s
noncomputable def tB (t:TE):TT:=λσ H Q=>t σ H λx H1=>∃c,x=.bl c/\Q c H1
theorem zrz {op:CmpOp}{t:TE}(h:PC X op a b t)(h1:behindInMarks op b=false:=by first | exact nobehind _ (by decide) (by decide) | rfl):PE X (.Compare a [op] [b] pos) t:=λpins s σ H Q I hw=>wpAny_Compare1 (h pins s σ H Q I hw) h1
variable {tA tB':TT}{rest:List Expr}
noncomputable def tAnd (t u:TT):TT:=λσ H Q=>t σ H λc H1=>if c=true then u σ H1 Q else Q false H1
noncomputable def tOr (t u:TT):TT:=λσ H Q=>t σ H λc H1=>if c=true then Q true H1 else u σ H1 Q
noncomputable def tNot (t:TT):TT:=λσ H Q=>t σ H λc H1=>Q (!c) H1
theorem zpU (ha:PT X a tA):PW X (.BoolOp .And [a] pos) tA:=by
 intro wh pins s σ H Q I h;refine isTrue_and (thn (ha pins s σ H Q I h) λc s1 e=>?_);cases c with
 | true=>exact isTrue_and_nil e
 | false=>exact e
theorem zrA (ha:PT X a tA):PW X (.BoolOp .Or [a] pos) tA:=by
 intro wh pins s σ H Q I h;refine isTrue_or (thn (ha pins s σ H Q I h) λc s1 e=>?_);cases c with
 | false=>exact isTrue_or_nil e
 | true=>exact e
theorem zrB (ha:PT X a tA)(hb:PW X (.BoolOp .And (b::rest) pos) tB'):PW X (.BoolOp .And (a::b::rest) pos) (tAnd tA tB'):=by
 intro wh pins s σ H Q I h;refine isTrue_and (thn (ha pins s σ H _ I h) λc s1 q1q=>?_);obtain⟨H1,I1,q1⟩:=q1q;cases c with
 | true=>exact hb wh pins s1 σ H1 Q I1 q1
 | false=>exact⟨H1,I1,q1⟩
theorem ztE (ha:PT X a tA)(hb:PW X (.BoolOp .Or (b::rest) pos) tB'):PW X (.BoolOp .Or (a::b::rest) pos) (tOr tA tB'):=by
 intro wh pins s σ H Q I h;refine isTrue_or (thn (ha pins s σ H _ I h) λc s1 q2q=>?_);obtain⟨H1,I1,q1⟩:=q2q;cases c with
 | true=>exact⟨H1,I1,q1⟩
 | false=>exact hb wh pins s1 σ H1 Q I1 q1
theorem zrC (ha:PT X a tA):PT X (.UnaryOp .Not a pos) (tNot tA):=by
 intro pins s σ H Q I h;exact isTrue_not (ha pins s σ H (λc H1=>Q (!c) H1) I h)
noncomputable def ztF (ta tb:TE):TE:=λσ H Q=>ta σ H λx H1=>∃c,x=.bl c/\if c=true then tb σ H1 Q else Q (.bl false) H1
theorem zrD {op}{t:TE}(h:PE X a t):PE X (.BoolOp op [a] pos) t:=λpins s σ H Q I hw=>BoolOp_one (h pins s σ H Q I hw)
theorem zrE (ha:PE X a ta)(hb:PE X (.BoolOp .And (b::rest) pos) tb):PE X (.BoolOp .And (a::b::rest) pos) (ztF ta tb):=by
 intro pins s σ H Q I h;refine BoolOp_and (thn (ha pins s σ H _ I h) λv s1 q3q=>?_);obtain⟨x,H1,I1,r1,q1⟩:=q3q;obtain⟨c,rfl,q1⟩:=q1;cases r1;refine wpAny_truthy_bool ?_;cases c with
 | true=>exact hb pins s1 σ H1 Q I1 q1
 | false=>exact⟨.bl false,H1,I1,rfl,q1⟩
noncomputable def tIf (t:TT)(ta tb:TE):TE:=λσ H Q=>t σ H λc H1=>if c=true then ta σ H1 Q else tb σ H1 Q
theorem znT {c:Expr}(hc:PT X c tA)(ha:PE X a ta)(hb:PE X b tb):PE X (.IfExp c a b pos) (tIf tA ta tb):=by
 intro pins s σ H Q I h;refine wpAny_IfExp (thn (hc pins s σ H _ I h) λd s1 q4q=>?_);obtain⟨H1,I1,q1⟩:=q4q;cases d with
 | true=>exact ha pins s1 σ H1 Q I1 q1
 | false=>exact hb pins s1 σ H1 Q I1 q1
end
noncomputable def SqL (K:Xb)(H:Hp)(a:Addr)(xs:List V):Prop:=
 Rd H a (.lst xs)\/
  ∃(o:Obj) (its:Array Value) (n:Nat),K.lookup a=some o/\o.cls=.type "list"/\o.dict=none/\o.data=.seq its n/\its.size<=sizeLine/\Vals xs its.toList
noncomputable def SqT (K:Xb)(H:Hp)(a:Addr)(xs:List V):Prop:=
 Rd H a (.tup xs)\/
  ∃(o:Obj) (its:Array Value) (n:Nat),K.lookup a=some o/\o.cls=.type "tuple"/\o.data=.seq its n/\its.size<=sizeLine/\Vals xs its.toList/\o.dict=none
noncomputable def absV:Value->Option V
 | .none=>some .non
 | .bool b=>some (.bl b)
 | .int i _=>some (.int i)
 | .str x _=>some (.str x)
 | .bytes b _=>some (.byt b)
 | .float b _=>some (.flt b)
 | .ref a=>some (.ref a)
 | .type n=>some (.ty n)
 | _=>none
theorem RelV.abs {x:V}{u:Value}(r:RelV x u):absV u=some x:=by
 cases x with
 | non=>cases r;rfl
 | bl _=>cases r;rfl
 | int _=>obtain⟨t,rfl⟩:=r;rfl
 | str _=>obtain⟨t,rfl⟩:=r;rfl
 | byt _=>obtain⟨t,rfl⟩:=r;rfl
 | flt _=>obtain⟨t,rfl⟩:=r;rfl
 | ref _=>cases r;rfl
 | ty _=>cases r;rfl
theorem RelV.inj {x y:V}{u:Value}(r:RelV x u)(q:RelV y u):x=y:=Option.some.inj (r.abs.symm.trans q.abs)
theorem Vals.inj:∀ {xs ys:List V}{us:List Value},Vals xs us->Vals ys us->xs=ys:=by
 intro xs ys us h;induction h generalizing ys with
 | nil=>intro h2;cases h2;rfl
 | cons r t ih=>
  intro h2;cases h2 with
  | cons r' t'=>rw[r.inj r',ih t']
section
variable {X:Cx}{pins:List (Addr×Obj)}{σ:St}{H:Hp}{s:Shared}{a:Addr}{xs ys:List V}
theorem SqL.of {K:Xb}(h:H a=some (.lst xs)):SqL K H a xs:=.inl (.inl h)
theorem SqT.of {K:Xb}(h:H a=some (.tup xs)):SqT K H a xs:=.inl (.inl h)
theorem Inv.list (I:Inv X pins σ H s)(h:SqL X.K H a xs):∃its:List Value,Vals xs its/\PlainL s.heap a its.toArray/\xs.length<=sizeLine:=by
 rcases h with h | ⟨o,its,n,hk,hc,hd,hs,hz,r⟩
 ·obtain⟨z,its,n,r,e⟩:=h.ok I.hok;exact⟨its,r,⟨_,n,e,rfl,rfl,rfl⟩,z⟩
 ·refine⟨its.toList,r,⟨o,n,I.kIn a o hk,hc,hd,by simpa using hs⟩,?_⟩;have e:=r.length;simp only[Xv]at e;lia
theorem Inv.tuple (I:Inv X pins σ H s)(h:SqT X.K H a xs):∃its:List Value,Vals xs its/\IsTup s.heap a its.toArray/\xs.length<=sizeLine:=by
 rcases h with h | ⟨o,its,n,hk,hc,hs,hz,r,_⟩
 ·obtain⟨z,its,r,p⟩:=h.ok I.hok;exact⟨its,r,p.tup,z⟩
 ·refine⟨its.toList,r,⟨o,I.kIn a o hk,hc,n,by simpa using hs⟩,?_⟩;have e:=r.length;simp only[Xv]at e;lia
theorem Inv.zdI (I:Inv X pins σ H s)(h:SqL X.K H a xs)(h':SqL X.K H a ys):xs=ys:=by
 obtain⟨its,r,⟨o,n,e,_,_,d⟩,_⟩:=I.list h;obtain⟨its',r',⟨o',n',e',_,_,d'⟩,_⟩:=I.list h';rw[e]at e';cases e';rw[d]at d';injection d' with d1 _;have:its=its':=by simpa using congrArg Array.toList d1
 subst this;exact r.inj r'
theorem Inv.zhp (I:Inv X pins σ H s)(h:SqT X.K H a xs)(h':SqT X.K H a ys):xs=ys:=by
 obtain⟨its,r,⟨o,e,_,n,d⟩,_⟩:=I.tuple h;obtain⟨its',r',⟨o',e',_,n',d'⟩,_⟩:=I.tuple h';rw[e]at e';cases e';rw[d]at d';injection d' with d1 _;have:its=its':=by simpa using congrArg Array.toList d1
 subst this;exact r.inj r'
end
noncomputable abbrev Cx.wish (X:Cx)(E:Value->Shared->Prop):Cx:={ X with xe:=E }
noncomputable abbrev Cx.nox (X:Cx):Cx:=X.wish λ_ _=>False
theorem Cx.Ok.wish {X:Cx}(ok:X.Ok)(E:Value->Shared->Prop):(X.wish E).Ok:=
 ⟨ok.mod,ok.kind,ok.glob,ok.blt,ok.above,ok.inj,ok.has,ok.cab,ok.hd,ok.frames,ok.stk,ok.exf,ok.bs,ok.bsz,ok.noex,ok.exfs,ok.funs,ok.frf⟩
theorem Cx.Ok.zeH {X:Cx}{E:Value->Shared->Prop}(ok:(X.wish E).Ok):X.Ok:=
 ⟨ok.mod,ok.kind,ok.glob,ok.blt,ok.above,ok.inj,ok.has,ok.cab,ok.hd,ok.frames,ok.stk,ok.exf,ok.bs,ok.bsz,ok.noex,ok.exfs,ok.funs,ok.frf⟩
section
variable {X:Cx}{pins:List (Addr×Obj)}{σ:St}{H:Hp}{s:Shared}{E:Value->Shared->Prop}
theorem Inv.wish (I:Inv X pins σ H s)(E:Value->Shared->Prop):Inv (X.wish E) pins σ H s:=⟨I.ok.wish E,I.os,I.bare,I.base,I.loc,I.cell,I.free,I.freeC,I.pin,I.hok,I.len⟩
theorem Inv.zeH (I:Inv (X.wish E) pins σ H s):Inv X pins σ H s:=⟨I.ok.zeH,I.os,I.bare,I.base,I.loc,I.cell,I.free,I.freeC,I.pin,I.hok,I.len⟩
theorem SP.zeH {D:Ends}{f:Flow}{s':Shared}(h:SP (X.wish E) pins D f s'):SP X pins D f s':=by
 cases f with
 | next=>obtain⟨σ',H',I,q⟩:=h;exact⟨σ',H',I.zeH,q⟩
 | brk=>obtain⟨σ',H',I,q⟩:=h;exact⟨σ',H',I.zeH,q⟩
 | cont=>obtain⟨σ',H',I,q⟩:=h;exact⟨σ',H',I.zeH,q⟩
 | ret u=>obtain⟨v,σ',H',I,r,q⟩:=h;exact⟨v,σ',H',I.zeH,r,q⟩
theorem PSs.nox {st:List Stmt}{t:TS}(h:PSs X.nox st t):PSs X st t:=λpins s σ H D I hw=>
 wpAny_mono (h pins s σ H D (I.wish _) hw) (λ_ _ q=>q.zeH) λ_ _ z=>False.elim z
end
section
variable {X:Cx}{st:Stmt}{rest:List Stmt}{t u:TS}{e:Expr}{te:TE}{pos:Pos}
noncomputable def ztG:TS:=λD σ H=>D.nx σ H
noncomputable def tSeq (t u:TS):TS:=λD σ H=>t { D with nx:=u D } σ H
theorem zlC:PSs X [] ztG:=λ_ _ σ H _ I h=>wpAny_execs_nil ⟨σ,H,I,h⟩
theorem zcT (h1:PS X st t)(h2:PSs X rest u):PSs X (st::rest) (tSeq t u):=by
 intro pins s σ H D I h;refine wpAny_execs_cons (thn (h1 pins s σ H { D with nx:=u D } I h) λf s1 q=>?_);cases f with
 | next=>
  obtain⟨σ',H',I',q⟩:=q;exact h2 pins s1 σ' H' D I' q
 | ret v=>exact q
 | brk=>exact q
 | cont=>exact q
theorem zlD (h1:PS X st t):PSs X [st] t:=by
 intro pins s σ H D I h;refine wpAny_execs_cons (thn (h1 pins s σ H D I h) λf s1 q=>?_);cases f with
 | next=>exact wpAny_execs_nil q
 | ret v=>exact q
 | brk=>exact q
 | cont=>exact q
theorem Inv.quiet {pins:List (Addr×Obj)}{σ:St}{H:Hp}{s:Shared}(I:Inv X pins σ H s):interactive X.env=false:=by simp[interactive,I.ok.kind]
noncomputable def ztH (te:TE):TS:=λD σ H=>te σ H λ_ H1=>D.nx σ H1
theorem zlE (he:PE X e te)(hs:autoParam (swapsWith e none pos.line X.env=pure false) aU0):PS X (.Expr e pos) (ztH te):=by
 intro pins s σ H D I h;exact wpAny_Expr_any (thn (he pins s σ H _ I h) λv s1 q5q=>by obtain⟨x,H1,I1,r1,q1⟩:=q5q;exact⟨σ,H1,I1,q1⟩) I.quiet hs
noncomputable def tRet (te:TE):TS:=λD σ H=>te σ H D.rt
theorem zrF (he:PE X e te):PS X (.Return (some e) pos) (tRet te):=by
 intro pins s σ H D I h;exact wpAny_Return_some (thn (he pins s σ H _ I h) λv s1 q6q=>by obtain⟨x,H1,I1,r1,q1⟩:=q6q;exact⟨x,σ,H1,I1,r1,q1⟩)
noncomputable def tIfS (c:TT)(t u:TS):TS:=λD σ H=>c σ H λb H1=>if b=true then t D σ H1 else u D σ H1
theorem zrG {c:Expr}{a b:List Stmt}{tc:TT}(hc:PT X c tc)(ha:PSs X a t)(hb:PSs X b u):PS X (.If c a b pos) (tIfS tc t u):=by
 intro pins s σ H D I h;refine wpAny_If (thn (hc pins s σ H _ I h) λd s1 q7q=>?_);obtain⟨H1,I1,q1⟩:=q7q;cases d with
 | true=>exact ha pins s1 σ H1 D I1 q1
 | false=>exact hb pins s1 σ H1 D I1 q1
end
noncomputable abbrev TG:=V->St->Hp->(St->Hp->Prop)->Prop
noncomputable abbrev TGs:=List V->St->Hp->(St->Hp->Prop)->Prop
noncomputable def PG (X:Cx)(target:Expr)(t:TG):Prop:=
 ∀(pins:List (Addr×Obj)) (s:Shared) (σ:St) (H:Hp) (v:V) (u:Value) (Q:St->Hp->Prop),Inv X pins σ H s->RelV v u->t v σ H Q->
  wpAny (model X.prog X.w) X.A (assign target X.env u) (λ_ s'=>∃σ' H',Inv X pins σ' H' s'/\Q σ' H') X.xe s
noncomputable def PGs (X:Cx)(ts:List Expr)(t:TGs):Prop:=
 ∀(pins:List (Addr×Obj)) (s:Shared) (σ:St) (H:Hp) (vs:List V) (us:List Value) (Q:St->Hp->Prop),Inv X pins σ H s->Vals vs us->t vs σ H Q->
  wpAny (model X.prog X.w) X.A (assignInOrder ((assignEach ts X.env).map (·.2)) us) (λ_ s'=>∃σ' H',Inv X pins σ' H' s'/\Q σ' H') X.xe s
section
variable {X:Cx}{pos:Pos}
noncomputable def zkU (i:Nat):TG:=λv σ H Q=>Q (σ.set i (some v)) H
theorem ziS {i:Nat}{x:Str}(hN:X.N.Nodup)(hi:X.N[i]? = some x)(hx:Loc X.env.scope x)(hf:autoParam (X.fn x=true\/X.env.scope.names.lookup x=some .local) aU2):PG X (.Name x pos) (zkU i):=by
 intro pins s σ H v u Q I r h;exact wpAny_assign_Name (zjF I hN hi hx r (λs' I'=>⟨_,H,I',h⟩) hf)
noncomputable def gNil:TGs:=λvs σ H Q=>vs=[]/\Q σ H
noncomputable def ztI (t:TG)(u:TGs):TGs:=λvs σ H Q=>∃v r,vs=v::r/\t v σ H λσ' H'=>u r σ' H' Q
theorem zpV:PGs X [] gNil:=by
 intro pins s σ H vs us Q I r h;obtain⟨e,h⟩:=h;subst e;cases r;exact assignInOrder_nil ⟨σ,H,I,h⟩
theorem znU {e:Expr}{es:List Expr}{t:TG}{u:TGs}(h1:PG X e t)(h2:PGs X es u)
  (hs:autoParam ((assignEach (e::es) X.env).map (·.2)=assign e X.env::(assignEach es X.env).map (·.2)) aU0):PGs X (e::es) (ztI t u):=by
 intro pins s σ H vs us Q I r h;obtain⟨v,vr,e1,h⟩:=h;subst e1;cases r with
 | cons r rr=>
  rw[hs];refine assignInOrder_cons (thn (h1 pins s σ H _ _ _ I r h) λ_ s1 q8q=>?_);obtain⟨σ1,H1,I1,q1⟩:=q8q;exact h2 pins s1 σ1 H1 _ _ Q I1 rr q1
noncomputable def gTup (K:Xb)(n:Nat)(t:TGs):TG:=λv σ H Q=>∃a xs,v=.ref a/\SqT K H a xs/\xs.length=n/\t xs σ H Q
theorem zrH {es:List Expr}{k:Nat}{t:TGs}{n:Nat}(hc:X.calm=true)(h:PGs X es t)
  (hn:autoParam ((assignEach es X.env).length=n) aU0) (hst:autoParam ((assignEach es X.env).findIdx? (·.1)=none) aU0):PG X (.Tuple es k pos) (gTup X.K n t):=by
 intro pins s σ H v u Q I r hw;obtain⟨a,xs,e1,hq,hl,hw⟩:=hw;subst e1;cases r;obtain⟨its,rv,ht,hz⟩:=I.tuple hq;refine assign_Tuple_tuple (I.ok.hd hc) ht (by simp[hn,<- hl,rv.length]) hst λh' hx=>?_;have I1:Inv X pins σ H { s with heap:=h' }:=I.kept (t':=s.toks) λb o e=>hx b o (XJ (XA e)) e;exact h pins _ σ H xs _ Q I1 (by simpa using rv) hw
noncomputable def tAsg (te:TE)(g:TG):TS:=λD σ H=>te σ H λx H1=>g x σ H1 D.nx
theorem zjG {i:Nat}{x:Str}{e:Expr}{te:TE}{pos':Pos}(hN:X.N.Nodup)(hi:X.N[i]? = some x)(hx:Loc X.env.scope x)(he:PE X e te)(hs:autoParam (swapsWith e (some (.Name x pos')) pos.line X.env=pure false) aU0)(hf:autoParam (X.fn x=true\/X.env.scope.names.lookup x=some .local) aU2) :
  PS X (.Assign [.Name x pos'] e pos) (tAsg te (zkU i)):=by
 intro pins s σ H D I h;refine wpAny_Assign_Name (thn (he pins s σ H _ I h) λv s1 q9q=>?_) hs;obtain⟨y,H1,I1,r1,q1⟩:=q9q;exact zjF I1 hN hi hx r1 (λs2 I2=>⟨_,H1,I2,q1⟩) hf
end
section
variable {X:Cx}{pos:Pos}
noncomputable def zrI (c:TT)(tb:TS):TS:=λD σ H=>∃W:Nat->St->Hp->Prop,(∃m,W m σ H)/\∀m σ H,W m σ H->
 c σ H λb H1=>if b=true then ∃N:St->Hp->Prop,(∀σ' H',N σ' H'->∃m',m'<m/\W m' σ' H')/\tb { D with nx:=N,ct:=N,bk:=D.nx } σ H1 else D.nx σ H1
theorem znV {c:Expr}{body:List Stmt}{tc:TT}{tb:TS}(hp:PassesOwn (model X.prog X.w) X.A X.env X.xe)(hc:PT X c tc)(hb:PSs X body tb):PS X (.While c body [] pos) (zrI tc tb):=by
 intro pins s σ H D I h;obtain⟨W,⟨m0,w0⟩,turn⟩:=h;refine wpAny_While (codeAny_whileLoop (λn s'=>∃σ' H',Inv X pins σ' H' s'/\W n σ' H') ?_ m0 ⟨σ,H,I,w0⟩);rintro n s1 ⟨σ1,H1,I1,w1⟩;refine wpAny_passesOwn hp (thn (hc pins s1 σ1 H1 _ I1 (turn n σ1 H1 w1)) λb s2 q10q=>?_);obtain⟨H2,I2,q2⟩:=q10q;cases b with
 | true=>
  obtain⟨N,hN,q2⟩:=q2;rw[if_pos rfl];refine wpAny_passesOwn hp (thn (hb pins s2 σ1 H2 _ I2 q2) λf s3 q3=>?_);cases f with
  | next=>
   obtain⟨σ3,H3,I3,n3⟩:=q3;obtain⟨m',hm,w3⟩:=hN σ3 H3 n3;exact⟨m',hm,σ3,H3,I3,w3⟩
  | cont=>
   obtain⟨σ3,H3,I3,n3⟩:=q3;obtain⟨m',hm,w3⟩:=hN σ3 H3 n3;exact⟨m',hm,σ3,H3,I3,w3⟩
  | brk=>exact q3
  | ret v=>exact q3
 | false=>
  rw[if_neg Xw];exact wpAny_execs_nil ⟨σ1,H2,I2,q2⟩
end
structure It where
 go:Nat->Hp->Prop
 yld:Nat->Hp->V->Hp->Prop
 stop:Nat->Hp->Prop
noncomputable def FpOk (X:Cx)(pins:List (Addr×Obj))(H:Hp)(b:Addr):Prop:=
 H b=none/\b≠X.env.locals/\b∉X.fs/\(b∈X.ex\/X.s₀.heap.objs.size<=b)/\(∀x c,X.env.cells.lookup x=some c->c≠b)/\∀p∈X.pn++pins,p.1≠b
theorem Inv.fpOk {X:Cx}{pins:List (Addr×Obj)}{σ:St}{H H':Hp}{s:Shared}{b:Addr}(I:Inv X pins σ H s)(hb:s.heap.objs.size<=b)(hn:H' b=none):FpOk X pins H' b:=by
 refine⟨hn,Nat.ne_of_gt (XR I.lt hb),I.nofs hb,.inr (Ye I.sz hb),λx c e z=>?_,λp hp z=>?_⟩
 ·obtain⟨v,q⟩:=I.cell x c e;exact absurd (XR q.lt (by rw[z];exact hb)) (YJ _)
 ·exact absurd (XR (XA (I.pin p hp).1) (by rw[z];exact hb)) (YJ _)
structure Turn (P:Program)(w:World)(K:Xb)(tg:Expr)(J:It)(fp:List Addr)(it:Addr)(tn:Nat->Heap->Prop):Prop where
 mem:it∈fp
 obj:∀i h,tn i h->∀b∈fp,∃o,h.get? b=some o/\∀v,o.data≠.cell v
 keep:∀i h h',tn i h->(∀b∈fp,∀o,h.get? b=some o->h'.get? b=some o)->tn i h'
 item:∀(X:Cx),X.prog=P->X.w=w->X.K=K->X.calm=true->∀(i:Nat) (pins:List (Addr×Obj)) (s:Shared) (σ:St) (H:Hp) (E:Value->Shared->Prop),Inv X pins σ H s->(∀b∈fp,FpOk X pins H b)->tn i s.heap->J.go i H->
  wpAny (model P w) X.A (pyNext (.ref it)) (λr s1=>∃u,r=some u/\
   wpAny (model P w) X.A (letOwnedTupleGo tg (.ref it) u) (λ_ s2=>∃x H',Inv X pins σ H' s2/\RelV x u/\J.yld i H x H'/\tn (i+1) s2.heap/\∀b∈fp,H' b=none) E s1) E s
 done:∀(X:Cx),X.prog=P->X.w=w->X.K=K->X.calm=true->∀(i:Nat) (pins:List (Addr×Obj)) (s:Shared) (σ:St) (H:Hp) (E:Value->Shared->Prop),Inv X pins σ H s->(∀b∈fp,FpOk X pins H b)->tn i s.heap->J.stop i H->
  wpAny (model P w) X.A (pyNext (.ref it)) (λr s1=>r=none/\Inv X pins σ H s1) E s
 self:∀(A:Around) (i:Nat) (s:Shared) (Q:Value->Shared->Prop) (E:Value->Shared->Prop),tn i s.heap->Q (.ref it) s->wpAny (model P w) A (pyIter (.ref it)) Q E s
noncomputable abbrev TI:=St->Hp->(It->Hp->Prop)->Prop
noncomputable def PIE (X:Cx)(pins:List (Addr×Obj))(σ:St)(tg:Expr)(R:It->Hp->Prop)(itv:Value)(s2:Shared):Prop:=
 ∃(it:Addr) (fp:List Addr) (tn:Nat->Heap->Prop) (J:It) (H':Hp),itv=.ref it/\Inv X pins σ H' s2/\Turn X.prog X.w X.K tg J fp it tn/\tn 0 s2.heap/\(∀b∈fp,FpOk X pins H' b)/\R J H'
noncomputable def PI (X:Cx)(tg iter:Expr)(wi:TI):Prop:=
 ∀(pins:List (Addr×Obj)) (s:Shared) (σ:St) (H:Hp) (R:It->Hp->Prop),Inv X pins σ H s->wi σ H R->
  wpAny (model X.prog X.w) X.A (eval iter X.env) (λv s1=>wpAny (model X.prog X.w) X.A (pyIter v) (PIE X pins σ tg R) X.xe s1) X.xe s
theorem znW {M:Model}{A:Around}{E:Value->Shared->Prop}{s:Shared}{tg:Expr}{it:Addr}{u:Value}{o:Obj}{n:String}{vs:Array Value}{Q:Unit->Shared->Prop}(ho:s.heap.get? it=some o)(hc:o.cls=.type n)(hd:o.data=.fields vs)
    (hn:["enumerate","zip","dict_itemiterator","dict_reverseitemiterator","odict_iterator","itertools.zip_longest","itertools.pairwise"].contains n=false) (hQ:Q () s):wpAny M A (letOwnedTupleGo tg (.ref it) u) Q E s:=by
  unfold letOwnedTupleGo;cases tg<;>first
    | exact wpAny_pure hQ
    | (cases u<;>first
        | exact wpAny_pure hQ
        | (refine wpAny_bind (wpAny_load ho ?_)
           rw[hc,hd];show wpAny M A (if (["enumerate","zip","dict_itemiterator","dict_reverseitemiterator","odict_iterator","itertools.zip_longest","itertools.pairwise"].contains n&&vs[0]? == some (rawInt _))=true then _ else _) Q E s
           rw[if_neg (by intro h;rw[hn,Bool.false_and]at h;cases h)];exact wpAny_pure hQ))
noncomputable def Itl (K:Xb)(a:Addr):It:=
 ⟨λi H=>∃xs x,SqL K H a xs/\xs[i]? = some x,λi H x H'=>H'=H/\∀xs,SqL K H a xs->xs[i]? = some x,λi H=>∃xs,SqL K H a xs/\xs.length<=i⟩
noncomputable def Itt (K:Xb)(a:Addr):It:=
 ⟨λi H=>∃xs x,SqT K H a xs/\xs[i]? = some x,λi H x H'=>H'=H/\∀xs,SqT K H a xs->xs[i]? = some x,λi H=>∃xs,SqT K H a xs/\xs.length<=i⟩
noncomputable def Itr (lo:Int)(n:Nat):It:=⟨λi _=>i<n,λi H x H'=>H'=H/\x=.int (lo+i),λi _=>n<=i⟩
theorem zlF {P:Program}{w:World}{K:Xb}{tg:Expr}(a it:Addr):Turn P w K tg (Itl K a) [it] it (λi h=>h.IsListIter it a i) where
 mem:=by simp
 obj:=λi h st b hb=>by
  have e:b=it:=by simpa using hb
  subst e;obtain⟨o,e,c,d⟩:=st;exact⟨o,e,λv z=>by rw[d]at z;cases z⟩
 keep:=λi h h' st k=>st.at λo e=>k it (by simp) o e
 item:=by
  intro X hP hw hK hc i pins s σ H E I hf st hg;subst hP hw hK;obtain⟨xs,x,hq,hx⟩:=hg;obtain⟨its,rv,p,hz⟩:=I.list hq;obtain⟨u,hu,ru⟩:=rv.get hx;obtain⟨f0,f1,f2,f3,f4,f5⟩:=hf it (by simp);refine wpAny_pyNext_list_item st p.isList (x:=u) (by simpa using hu) λh' st' sb=>?_;have I1:Inv X pins σ H { s with heap:=h' }:=I.turned (t':=s.toks) (λb o hb e=>(sb.2 b hb).trans e) f0 f1 f3 f4 f5;obtain⟨o,e,c,d⟩:=id st';exact⟨u,rfl,znW (s:={ s with heap:=h' }) e c d (by decide) ⟨x,H,I1,ru,⟨rfl,λys hy=>by rw[I.zdI hy hq];exact hx⟩,st',λb hb=>(hf b hb).1⟩⟩
 done:=by
  intro X hP hw hK hc i pins s σ H E I hf st hg;subst hP hw hK;obtain⟨xs,hq,hx⟩:=hg;obtain⟨its,rv,p,hz⟩:=I.list hq;obtain⟨f0,f1,f2,f3,f4,f5⟩:=hf it (by simp);have hl:=rv.length;exact wpAny_pyNext_list_end (I.ok.hd hc) st p.isList (by simp;lia) λh' eb=>⟨rfl,I.turned (t':=s.toks) (λb o hb e=>eb b o hb e) f0 f1 f3 f4 f5⟩
 self:=λ_ _ _ _ _ st h=>wpAny_pyIter_listiter st h
theorem zkV {P:Program}{w:World}{K:Xb}{tg:Expr}(a it:Addr):Turn P w K tg (Itt K a) [it] it (λi h=>h.IsTupleIter it a i) where
 mem:=by simp
 obj:=λi h st b hb=>by
  have e:b=it:=by simpa using hb
  subst e;obtain⟨o,e,c,d⟩:=st;exact⟨o,e,λv z=>by rw[d]at z;cases z⟩
 keep:=λi h h' st k=>st.at λo e=>k it (by simp) o e
 item:=by
  intro X hP hw hK hc i pins s σ H E I hf st hg;subst hP hw hK;obtain⟨xs,x,hq,hx⟩:=hg;obtain⟨its,rv,p,hz⟩:=I.tuple hq;obtain⟨u,hu,ru⟩:=rv.get hx;obtain⟨f0,f1,f2,f3,f4,f5⟩:=hf it (by simp);refine wpAny_pyNext_tuple_item st (show s.heap.IsTuple a its.toArray from p) (x:=u) (by simpa using hu) λh' st' sb=>?_;have I1:Inv X pins σ H { s with heap:=h' }:=I.turned (t':=s.toks) (λb o hb e=>(sb.2 b hb).trans e) f0 f1 f3 f4 f5;obtain⟨o,e,c,d⟩:=id st';exact⟨u,rfl,znW (s:={ s with heap:=h' }) e c d (by decide) ⟨x,H,I1,ru,⟨rfl,λys hy=>by rw[I.zhp hy hq];exact hx⟩,st',λb hb=>(hf b hb).1⟩⟩
 done:=by
  intro X hP hw hK hc i pins s σ H E I hf st hg;subst hP hw hK;obtain⟨xs,hq,hx⟩:=hg;obtain⟨its,rv,p,hz⟩:=I.tuple hq;obtain⟨f0,f1,f2,f3,f4,f5⟩:=hf it (by simp);have hl:=rv.length;exact wpAny_pyNext_tuple_end (I.ok.hd hc) st (show s.heap.IsTuple a its.toArray from p) (by simp;lia) λh' eb=>⟨rfl,I.turned (t':=s.toks) (λb o hb e=>eb b o hb e) f0 f1 f3 f4 f5⟩
 self:=λ_ _ _ _ _ st h=>wpAny_pyIter_tupleiter st h
theorem zkW {P:Program}{w:World}{K:Xb}{tg:Expr}(it:Addr)(lo:Int)(n:Nat):Turn P w K tg (Itr lo n) [it] it (λi h=>IsRangeIter h it (lo+(i:Nat)*1) ((n:Int)-(i:Nat)) 1) where
 mem:=by simp
 obj:=λi h st b hb=>by
  have e:b=it:=by simpa using hb
  subst e;exact⟨_,st,λv z=>by
   have z':Data.fields _=Data.cell v:=z;cases z'⟩
 keep:=λi h h' st k=>k it (by simp) _ st
 item:=by
  intro X hP hw hK hc i pins s σ H E I hf st hg;subst hP hw hK;obtain⟨f0,f1,f2,f3,f4,f5⟩:=hf it (by simp);have W:=Walks.range (prog:=X.prog) (w:=X.w) (I.ok.hd hc) it lo 1 n;refine W.item i s _ _ hg st λv h' tk hv st' kk=>?_;obtain⟨t,rfl⟩:=hv;have I1:Inv X pins σ H { s with heap:=h',toks:=tk }:=I.turned (λb o hb e=>kk b o (by simpa using hb) e) f0 f1 f3 f4 f5;refine⟨_,rfl,znW (s:={ s with heap:=h',toks:=tk }) (n:="range_iterator") st' rfl rfl (by decide) ⟨.int (lo+i),H,I1,⟨t,?_⟩,⟨rfl,rfl⟩,st',λb hb=>(hf b hb).1⟩⟩;rw[Int.mul_one]
 done:=by
  intro X hP hw hK hc i pins s σ H E I hf st hg;subst hP hw hK;obtain⟨f0,f1,f2,f3,f4,f5⟩:=hf it (by simp);exact wpAny_pyNext_range_end (I.ok.hd hc) st (by have:n<=i:=hg;lia) λh' eb=>⟨rfl,I.turned (t':=s.toks) (λb o hb e=>eb b o hb e) f0 f1 f3 f4 f5⟩
 self:=λ_ _ _ _ _ st h=>wpAny_pyIter_rangeiter st h
section
variable {X:Cx}{tg:Expr}
noncomputable def ztJ (K:Xb)(tl:TE):TI:=λσ H R=>tl σ H λx H1=>∃a,x=.ref a/\(∃xs,SqL K H1 a xs)/\R (Itl K a) H1
noncomputable def iTup (K:Xb)(tl:TE):TI:=λσ H R=>tl σ H λx H1=>∃a,x=.ref a/\(∃xs,SqT K H1 a xs)/\R (Itt K a) H1
theorem zpW {l:Expr}{tl:TE}(hl:PE X l tl):PI X tg l (ztJ X.K tl):=by
 intro pins s σ H R I h;refine thn (hl pins s σ H _ I h) λv s1 q11q=>?_;obtain⟨x,H1,I1,r1,q1⟩:=q11q;obtain⟨a,e,⟨xs,hq⟩,q⟩:=q1;subst e;cases r1;obtain⟨its,rv,p,hz⟩:=I1.list hq;refine wpAny_pyIter_list p.isList ?_;refine⟨s1.heap.objs.size,[s1.heap.objs.size],_,_,H1,rfl,I1.kept (t':=s1.toks) λb o e=>Xh _ e,zlF a _,⟨_,XC _ rfl,rfl,rfl⟩,λb hb=>?_,q⟩;have e:b=s1.heap.objs.size:=by simpa using hb
 subst e;exact I1.fpOk (Xf _) (I1.hok.fresh (Xf _))
theorem zrJ {l:Expr}{tl:TE}(hl:PE X l tl):PI X tg l (iTup X.K tl):=by
 intro pins s σ H R I h;refine thn (hl pins s σ H _ I h) λv s1 q12q=>?_;obtain⟨x,H1,I1,r1,q1⟩:=q12q;obtain⟨a,e,⟨xs,hq⟩,q⟩:=q1;subst e;cases r1;obtain⟨its,rv,p,hz⟩:=I1.tuple hq;refine wpAny_pyIter_tuple (show s1.heap.IsTuple a its.toArray from p) ?_;refine⟨s1.heap.objs.size,[s1.heap.objs.size],_,_,H1,rfl,I1.kept (t':=s1.toks) λb o e=>Xh _ e,zkV a _,⟨_,XC _ rfl,rfl,rfl⟩,λb hb=>?_,q⟩;have e:b=s1.heap.objs.size:=by simpa using hb
 subst e;exact I1.fpOk (Xf _) (I1.hok.fresh (Xf _))
theorem znX {pins:List (Addr×Obj)}{σ:St}{H:Hp}{s:Shared}{R:It->Hp->Prop}{E:Value->Shared->Prop}{lo hi:Int}{t u v:Tok}{tk:Nat}(I:Inv X pins σ H s)(h1:-(2 ^ 62)<=lo)(h2:lo<2 ^ 62)(h3:-(2 ^ 62)<=hi)(h4:hi<2 ^ 62)
  (q:R (Itr lo (hi-lo).toNat) H):wpAny (model X.prog X.w) X.A (pyIter (.ref s.heap.objs.size)) (PIE X pins σ tg R) E { s with heap:=s.heap.push { cls:=.type "range",data:=.fields #[.int lo t,.int hi u,.int 1 v] },toks:=tk }:=by
 refine wpAny_pyIter_range (IsRange.new ..) (small_one h1 h2 h3 h4) ?_;have I1:Inv X pins σ H { s with heap:=s.heap.push { cls:=.type "range",data:=.fields #[.int lo t,.int hi u,.int 1 v] },toks:=tk }:=I.kept λb o e=>Xh _ e;refine⟨(s.heap.push { cls:=.type "range",data:=.fields #[.int lo t,.int hi u,.int 1 v] }).objs.size,[(s.heap.push { cls:=.type "range",data:=.fields #[.int lo t,.int hi u,.int 1 v] }).objs.size],_,_,H,rfl,
  I1.kept (t':=tk) λb o e=>Xh _ e,zkW _ lo (hi-lo).toNat,?_,λb hb=>?_,q⟩
 ·have e1:lo+((0:Nat):Int)*1=lo:=by simp
  have e2:(((hi-lo).toNat:Nat):Int)-((0:Nat):Int)=Builtin.Range.rangeSize lo hi 1:=by rw[rangeSize_one];split<;>lia
  show IsRangeIter _ _ (lo+((0:Nat):Int)*1) ((((hi-lo).toNat:Nat):Int)-((0:Nat):Int)) 1;rw[e1,e2];exact XC _ rfl
 ·have e:b=(s.heap.push { cls:=.type "range",data:=.fields #[.int lo t,.int hi u,.int 1 v] }).objs.size:=by simpa using hb
  subst e;exact I1.fpOk (Xf _) (I1.hok.fresh (Xf _))
noncomputable def ztK (ta:TA):TI:=λσ H R=>ta σ H λvs H1=>∃j:Int,vs=[.int j]/\-(2 ^ 62)<=j/\j<2 ^ 62/\R (Itr 0 j.toNat) H1
theorem zlG {a:Expr}{ta:TA}{p pos:Pos}(hg:Gl X "range") (hm:X.mg "range" = none) (ha:PA X [a] ta) (hs:autoParam (starEach [a] X.env=[(false,eval a X.env)]) aU0):PI X tg (.Call (.Name "range" p) [a] [] pos) (ztK ta):=by
 intro pins s σ H R I h;refine Call_ (zeG I hg hm boot_range (PyProof.Rows.callWith_type1 (thn (ha pos pins s σ H _ I h) λus s1 q13q=>?_) hs rfl));obtain⟨vs,H1,I1,r1,q1⟩:=q13q;obtain⟨j,e,q1,q2,q⟩:=q1;subst e;cases r1 with
 | cons r rr=>
  cases rr;obtain⟨t,rfl⟩:=r;exact call_range_1 (znX I1 (by lia) (by lia) q1 q2 (by simpa using q))
noncomputable def tFor (wi:TI)(g:TG)(tb:TS):TS:=λD σ H=>wi σ H λJ H1=>∃W:Nat->Nat->St->Hp->Prop,(∃m,W 0 m σ H1)/\∀i m σ H,W i m σ H->
 (J.stop i H/\D.nx σ H)\/(J.go i H/\∃N:St->Hp->Prop,(∀σ' H',N σ' H'->∃m',m'<m/\W (i+1) m' σ' H')/\∀x H',J.yld i H x H'->g x σ H' λσ2 H2=>tb { D with nx:=N,ct:=N,bk:=D.nx } σ2 H2)
noncomputable def zhq (fp:List Addr)(h:Heap):List (Addr×Obj):=fp.filterMap λb=>(h.get? b).map λo=>(b,o)
theorem zcU {fp:List Addr}{h:Heap}{b:Addr}{o:Obj}(hb:b∈fp)(e:h.get? b=some o):(b,o)∈zhq fp h:=List.mem_filterMap.mpr ⟨b,hb,by rw[e];rfl⟩
theorem zlH {fp:List Addr}{h:Heap}{p:Addr×Obj}(hp:p∈zhq fp h):p.1∈fp/\h.get? p.1=some p.2:=by
 obtain⟨b,hb,e⟩:=List.mem_filterMap.mp hp;cases q:h.get? b with
 | none=>rw[q]at e;cases e
 | some o=>
  rw[q]at e;have e':(b,o)=p:=Option.some.inj e;subst e';exact⟨hb,q⟩
theorem Inv.pinned {pins:List (Addr×Obj)}{σ:St}{H:Hp}{s:Shared}{fp:List Addr}(I:Inv X pins σ H s)(hf:∀b∈fp,FpOk X pins H b)(ho:∀b∈fp,∃o,s.heap.get? b=some o/\∀v,o.data≠.cell v):Inv X (pins++zhq fp s.heap) σ H s:=
 I.zlB λp hp=>(Xr.mp hp).elim (λz=>I.pin p (Yu _ z)) λz=>by
  obtain⟨hb,e⟩:=zlH z;obtain⟨f0,f1,f2,_⟩:=hf p.1 hb;obtain⟨o,e',d⟩:=ho p.1 hb;rw[e]at e';cases e';exact⟨e,f0,f1,f2,d⟩
theorem Inv.zdJ {pins pl:List (Addr×Obj)}{σ:St}{H:Hp}{s:Shared}(I:Inv X (pins++pl) σ H s):Inv X pins σ H s:=I.zlB λp hp=>I.pin p (Yu _ (List.mem_append_left _ hp))
theorem zlI {iter:Expr}{body:List Stmt}{wi:TI}{g:TG}{tb:TS}{pos:Pos}(hp:PassesOwn (model X.prog X.w) X.A X.env X.xe)(hc:X.calm=true)(hi:PI X tg iter wi)(hg:PG X tg g)(hb:PSs X body tb)
  (hs:autoParam (∀x,foldedSetIterable iter X.env x=pure x) aU3):PS X (.For tg iter body [] pos) (tFor wi g tb):=by
 intro pins s σ H D I h;refine wpAny_For (thn (hi pins s σ H _ I h) λv s1 h1=>thn h1 λitv s2 h2=>?_) hs;obtain⟨it,fp,tn,J,H2,e,I2,T,st2,f2,W,⟨m0,w0⟩,turn⟩:=h2;subst e;have stat:∀ {H':Hp},(∀b∈fp,H' b=none)->∀b∈fp,FpOk X pins H' b:=λhn b hb=>⟨hn b hb,(f2 b hb).2⟩;refine codeAny_forLoop_any (λn s'=>∃i σ' H',Inv X pins σ' H' s'/\tn i s'.heap/\(∀b∈fp,H' b=none)/\W i n σ' H') ?_ m0 ⟨0,σ,H2,I2,st2,λb hb=>(f2 b hb).1,w0⟩;rintro n s3 ⟨i,σ3,H3,I3,st3,fr3,w3⟩;rcases turn i n σ3 H3 w3 with ⟨stop,qn⟩ | ⟨go,N,hN,step⟩
 ·refine wpAny_passesOwn hp (thn (T.done X rfl rfl rfl hc i pins s3 σ3 H3 X.xe I3 (stat fr3) st3 stop) λr s4 q14q=>?_);obtain⟨hr,I4⟩:=q14q;subst hr;exact wpAny_execs_nil ⟨σ3,H3,I4,qn⟩
 ·refine wpAny_passesOwn hp (thn (T.item X rfl rfl rfl hc i pins s3 σ3 H3 X.xe I3 (stat fr3) st3 go) λr s4 q15q=>?_);obtain⟨u,hr,h4⟩:=q15q;subst hr;refine wpAny_passesOwn hp (thn h4 λ_ s5 q16q=>?_);obtain⟨x,H5,I5,r5,y5,st5,fr5⟩:=q16q;have I5':=I5.pinned (stat fr5) (T.obj _ _ st5);refine wpAny_passesOwn hp (thn (hg _ s5 σ3 H5 x u _ I5' r5 (step x H5 y5)) λ_ s6 q17q=>?_);obtain⟨σ6,H6,I6,q6⟩:=q17q;refine wpAny_passesOwn hp (thn (hb _ s6 σ6 H6 _ I6 q6) λf s7 q7=>?_);have again:∀ {σ7:St} {H7:Hp},Inv X (pins++zhq fp s5.heap) σ7 H7 s7->N σ7 H7->∃m,m<n/\∃i σ' H',Inv X pins σ' H' s7/\tn i s7.heap/\(∀b∈fp,H' b=none)/\W i m σ' H':=λ{σ7 H7} I7 n7=>by
   obtain⟨m',hm,w7⟩:=hN σ7 H7 n7;refine⟨m',hm,i+1,σ7,H7,I7.zdJ,T.keep _ _ _ st5 λb hb o e=>(I7.pin (b,o) (Yu _ (Yu _ (zcU hb e)))).1,λb hb=>?_,w7⟩;obtain⟨o,e,d⟩:=T.obj _ _ st5 b hb;exact(I7.pin (b,o) (Yu _ (Yu _ (zcU hb e)))).2.1
  cases f with
  | next=>obtain⟨σ7,H7,I7,n7⟩:=q7;exact again I7 n7
  | cont=>obtain⟨σ7,H7,I7,n7⟩:=q7;exact again I7 n7
  | brk=>obtain⟨σ7,H7,I7,q7⟩:=q7;exact⟨σ7,H7,I7.zdJ,q7⟩
  | ret v=>obtain⟨x7,σ7,H7,I7,r7,q7⟩:=q7;exact⟨x7,σ7,H7,I7.zdJ,r7,q7⟩
end
noncomputable abbrev R2:=V->V->Hp->VK->Prop
noncomputable def OpR (X:Cx)(f:Value->Value->Sem Value)(r:R2):Prop:=
 ∀(pins:List (Addr×Obj)) (s:Shared) (σ:St) (H:Hp) (x y:V) (v u:Value) (Q:VK),Inv X pins σ H s->RelV x v->RelV y u->r x y H Q->
  wpAny (model X.prog X.w) X.A (f v u) (EP X pins σ Q) X.xe s
noncomputable def UnR (X:Cx)(f:Value->Sem Value)(r:V->Hp->VK->Prop):Prop:=
 ∀(pins:List (Addr×Obj)) (s:Shared) (σ:St) (H:Hp) (x:V) (v:Value) (Q:VK),Inv X pins σ H s->RelV x v->r x H Q->
  wpAny (model X.prog X.w) X.A (f v) (EP X pins σ Q) X.xe s
noncomputable def zcr (X:Cx)(f:Value)(r:List V->Hp->VK->Prop):Prop:=
 ∀(pins:List (Addr×Obj)) (s:Shared) (σ:St) (H:Hp) (xs:List V) (us:List Value) (Q:VK),Inv X pins σ H s->Vals xs us->r xs H Q->
  wpAny (model X.prog X.w) X.A (call f us) (EP X pins σ Q) X.xe s
noncomputable def TruR (X:Cx)(r:V->Hp->(Bool->Hp->Prop)->Prop):Prop:=
 ∀(pins:List (Addr×Obj)) (s:Shared) (σ:St) (H:Hp) (x:V) (v:Value) (Q:Bool->Hp->Prop),Inv X pins σ H s->RelV x v->r x H Q->
  wpAny (model X.prog X.w) X.A (truthy v) (TP X pins σ Q) X.xe s
noncomputable def tOp (r:R2)(ta tb:TE):TE:=λσ H Q=>ta σ H λx H1=>tb σ H1 λy H2=>r x y H2 Q
noncomputable def tUn (r:V->Hp->VK->Prop)(ta:TE):TE:=λσ H Q=>ta σ H λx H1=>r x H1 Q
noncomputable def rI (C:Int->Int->Prop)(g:Int->Int->V):R2:=λx y H Q=>∃i j,x=.int i/\y=.int j/\C i j/\Q (g i j) H
noncomputable def rI0 (g:Int->Int->V):R2:=λx y H Q=>∃i j,x=.int i/\y=.int j/\Q (g i j) H
noncomputable def rU (g:Int->V):V->Hp->VK->Prop:=λx H Q=>∃i,x=.int i/\Q (g i) H
section
variable {X:Cx}{a b c:Expr}{ta tb tc:TE}{pos:Pos}
theorem binT (ha:PE X a ta)(hb:PE X b tb){pins:List (Addr×Obj)}{s:Shared}{σ:St}{H:Hp}{R:V->V->Hp->Prop}(I:Inv X pins σ H s)
  (h:ta σ H λx H1=>tb σ H1 λy H2=>R x y H2) {Q:Value->Shared->Prop} {f:Value->Value->Sem Value}
  (hf:∀v u s2 x y H2,Inv X pins σ H2 s2->RelV x v->RelV y u->R x y H2->wpAny (model X.prog X.w) X.A (f v u) Q X.xe s2) :
  wpAny (model X.prog X.w) X.A (eval a X.env) (λv s₁=>wpAny (model X.prog X.w) X.A (eval b X.env) (λu s₂=>wpAny (model X.prog X.w) X.A (f v u) Q X.xe s₂) X.xe s₁) X.xe s:=by
 refine thn (ha pins s σ H _ I h) λv s1 q18q=>?_;obtain⟨x,H1,I1,r1,q1⟩:=q18q;refine thn (hb pins s1 σ H1 _ I1 q1) λu s2 q19q=>?_;obtain⟨y,H2,I2,r2,q2⟩:=q19q;exact hf v u s2 x y H2 I2 r1 r2 q2
theorem ztL {op:Operator}{r:R2}(ho:OpR X (binaryOp op) r)(ha:PE X a ta)(hb:PE X b tb):PE X (.BinOp a op b pos) (tOp r ta tb):=by
 intro pins s σ H Q I h;exact wpAny_BinOp (binT ha hb I h λv u s2 x y H2 I2 rx ry q=>ho pins s2 σ H2 x y v u Q I2 rx ry q)
theorem ztM {op:UnaryOp}{r:V->Hp->VK->Prop}(ho:UnR X (unaryOp op) r)(ha:PE X a ta):PE X (.UnaryOp op a pos) (tUn r ta):=by
 intro pins s σ H Q I h;exact UnaryOp_ (thn (ha pins s σ H _ I h) λv s1 q20q=>by obtain⟨x,H1,I1,r1,q1⟩:=q20q;exact ho pins s1 σ H1 x v Q I1 r1 q1)
theorem opI {f:Value->Value->Sem Value}{C:Int->Int->Prop}{g:Int->Int->Int}
  (rule:∀(i j:Int) (t u:Tok) (s:Shared) (Q:Value->Shared->Prop) (E:Value->Shared->Prop),C i j->Q (.int (g i j) s.toks) { s with toks:=s.toks+1 }->wpAny (model X.prog X.w) X.A (f (.int i t) (.int j u)) Q E s) :
  OpR X f (rI C λi j=>.int (g i j)):=by
 intro pins s σ H x y v u Q I rx ry h;obtain⟨i,j,rfl,rfl,hc,q⟩:=h;obtain⟨t,rfl⟩:=rx;obtain⟨t',rfl⟩:=ry;exact rule i j t t' s _ _ hc ⟨.int (g i j),H,I.tok _,⟨_,rfl⟩,q⟩
theorem opI0 {f:Value->Value->Sem Value}{g:Int->Int->Int}
  (rule:∀(i j:Int) (t u:Tok) (s:Shared) (Q:Value->Shared->Prop) (E:Value->Shared->Prop),Q (.int (g i j) s.toks) { s with toks:=s.toks+1 }->wpAny (model X.prog X.w) X.A (f (.int i t) (.int j u)) Q E s) :
  OpR X f (rI0 λi j=>.int (g i j)):=by
 intro pins s σ H x y v u Q I rx ry h;obtain⟨i,j,rfl,rfl,q⟩:=h;obtain⟨t,rfl⟩:=rx;obtain⟨t',rfl⟩:=ry;exact rule i j t t' s _ _ ⟨.int (g i j),H,I.tok _,⟨_,rfl⟩,q⟩
theorem opB0 {f:Value->Value->Sem Value}{g:Int->Int->Bool}
  (rule:∀(i j:Int) (t u:Tok) (s:Shared) (Q:Value->Shared->Prop) (E:Value->Shared->Prop),Q (.bool (g i j)) s->wpAny (model X.prog X.w) X.A (f (.int i t) (.int j u)) Q E s) :
  OpR X f (rI0 λi j=>.bl (g i j)):=by
 intro pins s σ H x y v u Q I rx ry h;obtain⟨i,j,rfl,rfl,q⟩:=h;obtain⟨t,rfl⟩:=rx;obtain⟨t',rfl⟩:=ry;exact rule i j t t' s _ _ ⟨.bl (g i j),H,I,rfl,q⟩
noncomputable def CPow (i j:Int):Prop:=0<=j/\j<=1000000/\i.natAbs<2 ^ 64
noncomputable def CMul (i j:Int):Prop:=(-(2 ^ 64)<i/\i<2 ^ 64)\/(-(2 ^ 64)<j/\j<2 ^ 64)
theorem CMul.ok {i j:Int}(h:CMul i j):IntMulOk i j:=by
 rcases h with ⟨h1,h2⟩ | ⟨h1,h2⟩
 ·exact .of_left (intBits_le_64 h1 h2)
 ·exact .of_right (intBits_le_64 h1 h2)
theorem zkX (k:Nat):(0:Int)<=2 ^ k:=by
 rw[two_pow_cast];exact Int.natCast_nonneg _
theorem zrK:OpR X (binaryOp .Add) (rI0 λi j=>.int (i+j)):=opI0 λ_ _ _ _ _ _ _ q=>add_int q
theorem zrL:OpR X (binaryOp .Sub) (rI0 λi j=>.int (i-j)):=opI0 λ_ _ _ _ _ _ _ q=>sub_int q
theorem zrM:OpR X (binaryOp .Mult) (rI CMul λi j=>.int (i*j)):=opI λ_ _ _ _ _ _ _ hc q=>mul_int q hc.ok
theorem zrN:OpR X (binaryOp .Mod) (rI (λ_ j=>0<j) λi j=>.int (i % j)):=opI λi j _ _ _ _ _ hc q=>by
 have h1:(0:Int)<j:=hc;exact mod_int' (by lia) (by rw[Int.fmod_eq_emod_of_nonneg i (by lia)];exact q)
theorem zrO:OpR X (binaryOp .Pow) (rI CPow λi j=>.int (i ^ j.toNat)):=opI λ_ _ _ _ _ _ _ hc q=>pow_int_small hc.1 hc.2.1 hc.2.2 q
theorem zrP:OpR X (binaryOp .RShift) (rI (λ_ j=>0<=j) λi j=>.int (i / 2 ^ j.toNat)):=opI λi j _ _ _ _ _ hc q=>
 rshift_int hc (by rw[Int.fdiv_eq_ediv_of_nonneg i (zkX _)];exact q)
theorem unI {f:Value->Sem Value}{g:Int->Int}
  (rule:∀(i:Int) (t:Tok) (s:Shared) (Q:Value->Shared->Prop) (E:Value->Shared->Prop),Q (.int (g i) s.toks) { s with toks:=s.toks+1 }->wpAny (model X.prog X.w) X.A (f (.int i t)) Q E s) :
  UnR X f (rU λi=>.int (g i)):=by
 intro pins s σ H x v Q I rx h;obtain⟨i,rfl,q⟩:=h;obtain⟨t,rfl⟩:=rx;exact rule i t s _ _ ⟨.int (g i),H,I.tok _,⟨_,rfl⟩,q⟩
theorem zrQ:UnR X (unaryOp .USub) (rU λi=>.int (-i)):=unI λ_ _ _ _ _ q=>neg_int q
end
section
variable {X:Cx}{a b c:Expr}{ta tb tc:TE}{pos:Pos}
theorem ztN:OpR X (compareOp .Gt) (rI0 λi j=>.bl (decide (j<i))):=opB0 λ_ _ _ _ _ _ _ q=>gt_int q
theorem zeI (b:Expr){op:CmpOp}(h:autoParam (op≠.In) aU1)(h2:autoParam (op≠.NotIn) aU1):behindInMarks op b=false:=by
 have e1:(op == CmpOp.In)=false:=by cases op<;>first | rfl | exact absurd rfl h
 have e2:(op == CmpOp.NotIn)=false:=by cases op<;>first | rfl | exact absurd rfl h2
 cases b<;>simp[behindInMarks,e1,e2]
theorem zpX {op:CmpOp}{r:R2}(ho:OpR X (compareOp op) r)(ha:PE X a ta)(hb:PE X b tb)(hm:behindInMarks op b=false):PE X (.Compare a [op] [b] pos) (tOp r ta tb):=by
 intro pins s σ H Q I h;exact wpAny_Compare1 (binT ha hb I h λv u s2 x y H2 I2 rx ry q=>ho pins s2 σ H2 x y v u Q I2 rx ry q) hm
noncomputable def ztO (t:TE):TT:=λσ H Q=>t σ H λx H'=>∃k,x=.bl k/\Q k H'
theorem zpY {op:CmpOp}{r:R2}(ho:OpR X (compareOp op) r)(ha:PE X a ta)(hb:PE X b tb)(hm:behindInMarks op b=false):PT X (.Compare a [op] [b] pos) (ztO (tOp r ta tb)):=by
 intro pins s σ H Q I h;refine wpAny_isTrue_Compare1 (thn (ha pins s σ H _ I h) λv s1 ⟨x,H1,I1,r1,q1⟩=>thn (hb pins s1 σ H1 _ I1 q1) λu s2 ⟨y,H2,I2,r2,q2⟩=>
  thn (ho pins s2 σ H2 x y v u _ I2 r1 r2 q2) λc s3 ⟨z,H3,I3,r3,k,e,q3⟩=>?_) hm
 subst e;cases r3;exact wpAny_truthy_bool ⟨H3,I3,q3⟩
noncomputable def TruV (K:Xb)(x:V)(H:Hp)(k:Bool):Prop:=
 match x with
 | .non=>k=false
 | .bl b=>k=b
 | .int i=>k=(i != 0)
 | .str y=>y.length<=sizeLine/\k=((y.length:Int) != 0)
 | .byt y=>y.size<=sizeLine/\k=((y.size:Int) != 0)
 | .ref p=>(∃xs,SqL K H p xs/\k = !xs.isEmpty)\/(∃xs,SqT K H p xs/\k = !xs.isEmpty)\/∃kvs,H p=some (.dK kvs)/\k = !kvs.isEmpty
 | _=>False
theorem zkY {κ:Type}{kvs:List (κ×V)}{vs:List (κ×Value)}(r:KV kvs vs):(!vs.isEmpty) = !kvs.isEmpty:=by
 cases r<;>rfl
theorem zem {xs:List V}{its:List Value}(r:Vals xs its):(!its.toArray.isEmpty) = !xs.isEmpty:=by
 cases r<;>simp
theorem zhr:(sizeLine:Nat)<2 ^ 63:=by rw[sizeLine_eq];decide
theorem zrR:TruR X (λx H Q=>∃k,TruV X.K x H k/\Q k H):=by
 intro pins s σ H x v Q I rx h;obtain⟨k,e,q⟩:=h;have hl:=zhr;have hs:sizeLine=16777216:=sizeLine_eq;cases x with
 | non=>
  cases rx;have e':k=false:=e;subst e';exact truthy_none ⟨H,I,q⟩
 | bl b=>
  cases rx;have e':k=b:=e;subst e';exact wpAny_truthy_bool ⟨H,I,q⟩
 | int i=>
  obtain⟨t,rfl⟩:=rx;have e':k=(i != 0):=e;subst e';exact PySem.P.truthy_int ⟨H,I,q⟩
 | str y=>
  obtain⟨t,rfl⟩:=rx;obtain⟨hy,e'⟩:y.length<=sizeLine/\k=((y.length:Int) != 0):=e;subst e';exact PySem.P.truthy_str (by lia) ⟨H,I.tok _,q⟩
 | byt y=>
  obtain⟨t,rfl⟩:=rx;obtain⟨hy,e'⟩:y.size<=sizeLine/\k=((y.size:Int) != 0):=e;subst e';exact PySem.W.truthy_bytes (by lia) ⟨H,I.tok _,q⟩
 | ref p=>
  cases rx;have e':(∃xs,SqL X.K H p xs/\k = !xs.isEmpty)\/(∃xs,SqT X.K H p xs/\k = !xs.isEmpty)\/∃kvs,H p=some (.dK kvs)/\k = !kvs.isEmpty:=e;rcases e' with ⟨xs,hx,e'⟩ | ⟨xs,hx,e'⟩ | ⟨kvs,hx,e'⟩
  ·subst e';obtain⟨its,r,pl,hz⟩:=I.list hx;have hlen:=r.length;exact wpAny_truthy_list pl.isList (by simp only[Xq];lia) ⟨H,I.tok _,by rw[zem r];exact q⟩
  ·subst e';obtain⟨its,r,pl,hz⟩:=I.tuple hx;have hlen:=r.length;exact truthy_tuple pl (by simp only[Xq];lia) ⟨H,I.tok _,by rw[zem r];exact q⟩
  ·subst e';obtain⟨hz,hS,vs,r,m⟩:kvs.length<=sizeLine/\(p == sysModules)=false/\∃vs,KV kvs vs/\s.heap.DictOf (zaD X.prog X.w) p vs:=I.hok p _ hx;have hlen:kvs.length=vs.length:=Paired.length r;exact wpAny_truthy_dict hS m (by lia) ⟨H,I.tok _,by rw[zkY r];exact q⟩
 | _=>exact(show False from e).elim
theorem znY (ha:PE X a ta)(he:∀whole,isTrue a X.env whole=(do let v <- whole;standAt a.pos;holding [v] (truthy v))) :
  PT X a (λσ H Q=>ta σ H λx H'=>∃k,TruV X.K x H' k/\Q k H'):=by
 intro pins s σ H Q I h;exact isTrue_plain (thn (ha pins s σ H _ I h) λv s1 q24q=>by obtain⟨x,H1,I1,r1,q1⟩:=q24q;exact zrR pins s1 σ H1 x v Q I1 r1 q1) (he _)
theorem vals1 {x:V}{us:List Value}(r:Vals [x] us):∃u,us=[u]/\RelV x u:=by
 cases r with
 | cons r1 r2=>cases r2;exact⟨_,rfl,r1⟩
theorem vals2 {x y:V}{us:List Value}(r:Vals [x,y] us):∃u w',us=[u,w']/\RelV x u/\RelV y w':=by
 cases r with
 | cons r1 r2=>
  cases r2 with
  | cons r3 r4=>cases r4;exact⟨_,_,rfl,r1,r3⟩
theorem zlJ (hc:X.calm=true):zcr X (.builtin "min") (λxs H Q=>∃i j,xs=[.int i,.int j]/\Q (.int (if j<i then j else i)) H):=by
 intro pins s σ H xs us Q I r h;obtain⟨i,j,rfl,q⟩:=h;obtain⟨u,w',rfl,⟨t,rfl⟩,⟨t',rfl⟩⟩:=vals2 r;refine min_two_ints (I.ok.hd hc) λh' tk k=>⟨_,H,I.kept k,?_,q⟩;by_cases hj:j<i
 ·rw[if_pos hj,if_pos hj];exact⟨_,rfl⟩
 ·rw[if_neg hj,if_neg hj];exact⟨_,rfl⟩
theorem znZ:zcr X (.builtin "ord") (λxs H Q=>∃x,xs=[.str x]/\x.length=1/\Q (.int (x.cps.getD 0 0:Nat)) H):=by
 intro pins s σ H xs us Q I r h;obtain⟨x,rfl,hz,q⟩:=h;obtain⟨u,rfl,t,rfl⟩:=vals1 r;exact ord_of_one hz ⟨.int _,H,I.tok _,⟨_,rfl⟩,q⟩
noncomputable def LenV (K:Xb)(x:V)(H:Hp)(n:Nat):Prop:=
 match x with
 | .str y=>y.length<=sizeLine/\n=y.length
 | .byt y=>y.size<=sizeLine/\n=y.size
 | .ref p=>(∃xs,SqL K H p xs/\n=xs.length)\/∃xs,SqT K H p xs/\n=xs.length
 | _=>False
theorem zoa:zcr X (.builtin "len") (λxs H Q=>∃x n,xs=[x]/\LenV X.K x H n/\Q (.int n) H):=by
 intro pins s σ H xs us Q I r h;obtain⟨x,n,rfl,e,q⟩:=h;obtain⟨u,rfl,rx⟩:=vals1 r;have hl:=zhr;have hs:sizeLine=16777216:=sizeLine_eq;cases x with
 | str y=>
  obtain⟨t,rfl⟩:=rx;obtain⟨hy,e'⟩:y.length<=sizeLine/\n=y.length:=e;subst e';exact len_str (by lia) ⟨.int _,H,I.tok _,⟨_,rfl⟩,q⟩
 | byt y=>
  obtain⟨t,rfl⟩:=rx;obtain⟨hy,e'⟩:y.size<=sizeLine/\n=y.size:=e;subst e';exact PySem.W.len_bytes (by lia) ⟨.int _,H,I.tok _,⟨_,rfl⟩,q⟩
 | ref p=>
  cases rx;have e':(∃xs,SqL X.K H p xs/\n=xs.length)\/∃xs,SqT X.K H p xs/\n=xs.length:=e;rcases e' with ⟨xs,hx,e'⟩ | ⟨xs,hx,e'⟩
  ·subst e';obtain⟨its,r',pl,hz⟩:=I.list hx;have hlen:=r'.length;exact Calls.call_len_list pl.isList (by simp only[Xq];lia) ⟨.int xs.length,H,I.tok _,⟨_,by simp only[Xq];rw[hlen]⟩,q⟩
  ·subst e';obtain⟨its,r',pl,hz⟩:=I.tuple hx;have hlen:=r'.length;exact len_tuple pl (by simp only[Xq];lia) ⟨.int xs.length,H,I.tok _,⟨_,by simp only[Xq];rw[hlen]⟩,q⟩
 | _=>exact(show False from e).elim
end
structure Room (k:Nat)(A:Around):Prop where
 hd:A.handled=none
 dp:A.depth+3*k+5<recursionLimit
 un:A.units+16*k+200<cLine
theorem Room.mono {j k:Nat}{A:Around}(r:Room k A)(h:j<=k):Room j A:=⟨r.hd,by have:=r.dp;lia,by have:=r.un;lia⟩
theorem Room.deeper {k:Nat}{A:Around}(r:Room (k+1) A)(env:Env):Room k (A.deeper env):=
 ⟨r.hd,by have:=r.dp;show A.depth+1+3*k+5<_;lia,by have:=r.un;show A.units+3+16*k+200<_;lia⟩
theorem Room.depth {k:Nat}{A:Around}(r:Room k A):A.depth<recursionLimit:=by have:=r.dp;lia
theorem Room.units {k:Nat}{A:Around}(r:Room k A):A.units+64<cLine:=by have:=r.un;lia
noncomputable def tNil:TA:=λ_ H Q=>Q [] H
noncomputable def ztP (ta:TE)(tr:TA):TA:=λσ H Q=>ta σ H λx H1=>tr σ H1 λxs H2=>Q (x::xs) H2
section
variable {X:Cx}{e:Expr}{es:List Expr}{te:TE}{t:TA}{pos:Pos}
theorem zcF:PA X [] tNil:=λ_ _ _ _ H Q I h=>Calls.spliced_nil ⟨[],H,I,.nil,h⟩
theorem zca (ha:PE X e te)(hr:PA X es t)(hs:autoParam (starEach (e::es) X.env=(false,eval e X.env)::starEach es X.env) aU0):PA X (e::es) (ztP te t):=by
 intro pos pins s σ H Q I h;rw[hs];show wpAny _ _ (spliced ((false,eval e X.env)::backTo pos (starEach es X.env))) _ _ s;refine Calls.spliced_cons (thn (ha pins s σ H _ I h) λu s1 q25q=>?_);obtain⟨x,H1,I1,r1,q1⟩:=q25q;exact thn (hr pos pins s1 σ H1 _ I1 q1) λus s2 q26q=>by obtain⟨xs,H2,I2,r2,q2⟩:=q26q;exact⟨x::xs,H2,I2,.cons r1 r2,q2⟩
noncomputable def tTup (t:TA):TE:=λσ H Q=>t σ H λxs H1=>xs.length<=sizeLine/\∀p,H1 p=none->Q (.ref p) (upd H1 p (.tup xs))
noncomputable def tLst (t:TA):TE:=λσ H Q=>t σ H λxs H1=>xs.length<=sizeLine/\∀p,H1 p=none->Q (.ref p) (upd H1 p (.lst xs))
theorem zrS {x1}(h:PA X es t):PE X (.Tuple es x1 pos) (tTup t):=by
 intro pins s σ H Q I hq;refine wpAny_Tuple_spliced (thn (h pos pins s σ H _ I hq) λus s1 ⟨xs,H1,I1,r,z,q⟩=>⟨by rw[<- r.length];exact z,?_⟩);have hf:H1 s1.heap.objs.size=none:=I1.hok.fresh (Xf _);refine⟨.ref s1.heap.objs.size,upd H1 s1.heap.objs.size (.tup xs),I1.laid (t':=s1.toks) (λb u e=>Xh _ e) (Xf _) ?_,rfl,q _ hf⟩;exact⟨z,us,r,zcE.new _ _⟩
theorem zpn (h:PA X es t):PE X (.List es pos) (tLst t):=by
 intro pins s σ H Q I hq;refine wpAny_List_spliced (thn (h pos pins s σ H _ I hq) λus s1 ⟨xs,H1,I1,r,z,q⟩=>⟨by rw[<- r.length];exact z,?_⟩);have hf:H1 s1.heap.objs.size=none:=I1.hok.fresh (Xf _);refine⟨.ref s1.heap.objs.size,upd H1 s1.heap.objs.size (.lst xs),I1.laid (t':=s1.toks) (λb u e=>Xh _ e) (Xf _) ?_,rfl,q _ hf⟩;exact⟨z,us,0,r,XC _ rfl⟩
end
noncomputable abbrev Sp:=List V->Hp->VK->XK->Prop
noncomputable abbrev CXT:=List Env->Hp->Shared->XK->Value->Shared->Prop
structure Env0 (P:Program)(w:World)(K:Xb)(mg:Str->Option Value)(base:Heap)(A:Around)(outer:List Env)(s:Shared)(H:Hp):Prop where
 frames:A.frames=some outer
 mod:Mod K mg base
 bs:∀b o,base.get? b=some o->s.heap.get? b=some o/\H b=none
 bsz:base.objs.size<=s.heap.objs.size
 funs:s.heap.FunFrames base outer
 frf:∀b∈frs outer,H b=none
 hok:HOk P w H s.heap
 bare:AllBare s.gens
noncomputable def CE (outer:List Env)(P:Program)(w:World)(H:Hp)(s:Shared)(Q:VK)(u:Value)(s':Shared):Prop:=
 ∃v H',s'.os=s.os/\AllBare s'.gens/\Un (frs outer) [] H H' s.heap s'.heap/\HOk P w H' s'.heap/\RelV v u/\Q v H'
noncomputable def CR (CX:CXT)(outer:List Env)(P:Program)(w:World)(H:Hp)(s:Shared)(Q:VK)(E:XK)(r:Result)(s':Shared):Prop:=
 match r with
 | .ok (.ret u)=>CE outer P w H s Q u s'
 | .ok _=>False
 | .error e=>CX outer H s E e s'
structure FnOk (P:Program)(w:World)(K:Xb)(mg:Str->Option Value)(base:Heap)(CX:CXT)(k:Nat)(f:Addr)(fd:FuncData)(ps:List Str)(sp:Sp):Prop where
 len:∀vs H Q E,sp vs H Q E->vs.length=ps.length
 run:∀(A:Around) (outer:List Env) (s:Shared) (H:Hp) (args:Args) (us:List Value) (vs:List V) (Q:VK) (E:XK),Room k A->Env0 P w K mg base A outer s H->BindsTo s fd args (ps.zip us)->Vals vs us->sp vs H Q E->
  codeAny (model P w) A (.call (.ref f) args) (CR CX outer P w H s Q E) s
theorem FnOk.mono {P:Program}{w:World}{K:Xb}{mg:Str->Option Value}{base:Heap}{CX:CXT}{j k:Nat}{f:Addr}{fd:FuncData}{ps:List Str}{sp:Sp}(F:FnOk P w K mg base CX j f fd ps sp)(h:j<=k) :
  FnOk P w K mg base CX k f fd ps sp:=⟨F.len,λA outer s H args us vs Q E hr=>F.run A outer s H args us vs Q E (hr.mono h)⟩
section
variable {X:Cx}{pins:List (Addr×Obj)}{σ:St}{H:Hp}{s s':Shared}
theorem Inv.env0 (I:Inv X pins σ H s):Env0 X.prog X.w X.K X.mg X.base X.A X.stack s H:=
 ⟨I.ok.frames,I.ok.mod,I.bs,Ye I.ok.bsz I.sz,I.stack,I.zlA,I.hok,I.bare⟩
theorem Inv.after {Q:VK}{u:Value}(I:Inv X pins σ H s)(h:CE X.stack X.prog X.w H s Q u s'):EP X pins σ Q u s':=by
 obtain⟨v,H',os,bare,un,hok,r,q⟩:=h;obtain⟨hh,g,d,t,os'⟩:=s';obtain rfl:os'=s.os:=os;exact⟨v,H',I.call (h':=hh) (g':=g) (d':=d) (t':=t) (ch:=[]) un hok bare (λb z=>absurd z (by simp)),r,q⟩
end
noncomputable def zrT (sp:Sp)(dvs:List V)(E:XK)(t:TA):TE:=λσ H Q=>t σ H λvs H1=>sp (vs++dvs) H1 Q E
noncomputable def Binds (K:Xb)(fd:FuncData)(ps:List Str)(ds:List Value):Prop:=
 ∀(s:Shared) (us:List Value),K.In s.heap->(us++ds).length=ps.length->BindsTo s fd ⟨us,[]⟩ (ps.zip (us++ds))
theorem Binds.all {K:Xb}{fd:FuncData}{ps:List Str}(h:∀us:List Value,us.length=ps.length->bindArgs fd ⟨us,[]⟩=pure (ps.zip us)):Binds K fd ps []:=λs us _ hl=>by
 rw[YE]at hl ⊢;exact .of_eq (h us hl)
noncomputable def zlK (CX:CXT)(X:Cx)(E:XK):Prop:=∀(pins:List (Addr×Obj))(σ:St)(H:Hp)(s:Shared)(e:Value)(s':Shared),Inv X pins σ H s->CX X.stack H s E e s'->X.xe e s'
section
variable {X:Cx}{CX:CXT}{k:Nat}{f C:Addr}{fd:FuncData}{ps:List Str}{sp:Sp}{dvs:List V}{ds:List Value}{E:XK}{x m:Str}{p pos apos:Pos}{e o:Expr}{es:List Expr}{ta:TE}{t:TA}
theorem zrU {pins:List (Addr×Obj)}{σ:St}{H:Hp}{s:Shared}{Q:VK}{us:List Value}{vs:List V}(F:FnOk X.prog X.w X.K X.mg X.base CX k f fd ps sp)(hr:Room k X.A)(hb:Binds X.K fd ps ds)(hd:Vals dvs ds)(hx:zlK CX X E)
  (I:Inv X pins σ H s) (r:Vals vs us) (h:sp (vs++dvs) H Q E):wpAny (model X.prog X.w) X.A (call (.ref f) us) (EP X pins σ Q) X.xe s:=by
 have r2:Vals (vs++dvs) (us++ds):=r.append hd;have hl:(us++ds).length=ps.length:=by rw[<- r2.length];exact F.len _ _ _ _ h
 refine wpAny_call (codeAny_mono (F.run X.A X.stack s H ⟨us,[]⟩ (us++ds) (vs++dvs) Q E hr I.env0 (hb s us I.kIn hl) r2 h) λr s' hq=>?_);cases r with
 | error e=>exact hx pins σ H s e s' I hq
 | ok fl=>
  cases fl with
  | ret u=>exact I.after hq
  | next=>exact False.elim hq
  | brk=>exact False.elim hq
  | cont=>exact False.elim hq
theorem zpZ (F:FnOk X.prog X.w X.K X.mg X.base CX k f fd ps sp)(hr:Room k X.A)(hg:Gl X x)(hm:X.mg x=some (.ref f))(hk:XS X.K (.ref f)=true)(hb:Binds X.K fd ps ds)(hd:Vals dvs ds)(hx:zlK CX X E)
  (ha:PA X (e::es) t) (hdb:autoParam ((x == ("__debug__" : Str))=false) aU1) (he:autoParam (starEach (e::es) X.env=(false,eval e X.env)::starEach es X.env) aU0) (hpl:autoParam ((backTo pos (starEach es X.env)).any (·.1)=false) aU0) :
  PE X (.Call (.Name x p) (e::es) [] pos) (zrT sp dvs E t):=by
 intro pins s σ H Q I h;refine wpAny_Call_Name_kw (zpS I hg hm ?_ hdb);refine PySem.W.callWith_K (h₀:=X.base) I.ok.mod.kin hk (thn (ha pos pins s σ H _ I h) λus s1 ⟨vs,H1,I1,r,q⟩=>⟨I1.kIn,?_⟩) he hpl;exact zrU F hr hb hd hx I1 r q
end
structure zaw (N P:List Str)(sc:Scope):Prop where
 kind:sc.kind=.function
 co:sc.isCoroutine=false
 gen:sc.isGenerator=false
 nd:N.Nodup
 pre:N.take P.length=P
 par:∀x∈P,sc.names.lookup x=some .local\/sc.names.lookup x=some .cell
 nofree:∀y∈sc.names,y.2≠.free
theorem zhs {kindOf:Str->Option NameKind}{x:Str}:∀ {binds:List (Str×Value)}{m:Str->Option Value},(∀v,(x,v)∉binds)->bindL kindOf binds m x=m x
 | [],_,_=>rfl
 | (n,v)::r,m,h=>by
  unfold bindL;rw[zhs λw hw=>h w (Xg _ hw)];split
  ·have:x≠n:=by rintro rfl;exact h v Xj
   simp[this]
  ·rfl
theorem zht {kindOf:Str->Option NameKind}{x:Str}:∀ {binds:List (Str×Value)}{m:Str->Option Value},(∀v,(x,v)∉binds)->bindC kindOf binds m x=m x
 | [],_,_=>rfl
 | (n,v)::r,m,h=>by
  unfold bindC;rw[zht λw hw=>h w (Xg _ hw)];split
  ·rfl
  ·have:x≠n:=by rintro rfl;exact h v Xj
   simp[this]
theorem zhu {kindOf:Str->Option NameKind}{x:Str}{v:Value}:∀ {P:List Str}{vs:List Value}{i:Nat}{m:Str->Option Value},P.Nodup->P[i]? = some x->vs[i]? = some v->kindOf x=some .local->
  bindL kindOf (P.zip vs) m x=some v
 | [],_,_,_,_,h,_,_=>by simp at h
 | _::_,[],_,_,_,_,h,_=>by simp at h
 | p::P,w::vs,0,m,nd,h1,h2,hk=>by
  simp at h1 h2;subst h1;subst h2;show bindL kindOf ((p,w)::P.zip vs) m p=_;unfold bindL;rw[zhs λv hv=>(Yi.mp nd).1 (List.of_mem_zip hv).1,if_pos hk];simp
 | p::P,w::vs,i+1,m,nd,h1,h2,hk=>by
  show bindL kindOf ((p,w)::P.zip vs) m x=_;unfold bindL;exact zhu (i:=i) (Yi.mp nd).2 (by simpa using h1) (by simpa using h2) hk
theorem zhv {kindOf:Str->Option NameKind}{x:Str}{v:Value}:∀ {P:List Str}{vs:List Value}{i:Nat}{m:Str->Option Value},P.Nodup->P[i]? = some x->vs[i]? = some v->kindOf x≠some .local->
  bindC kindOf (P.zip vs) m x=some v
 | [],_,_,_,_,h,_,_=>by simp at h
 | _::_,[],_,_,_,_,h,_=>by simp at h
 | p::P,w::vs,0,m,nd,h1,h2,hk=>by
  simp at h1 h2;subst h1;subst h2;show bindC kindOf ((p,w)::P.zip vs) m p=_;unfold bindC;rw[zht λv hv=>(Yi.mp nd).1 (List.of_mem_zip hv).1,if_neg hk];simp
 | p::P,w::vs,i+1,m,nd,h1,h2,hk=>by
  show bindC kindOf ((p,w)::P.zip vs) m x=_;unfold bindC;exact zhv (i:=i) (Yi.mp nd).2 (by simpa using h1) (by simpa using h2) hk
noncomputable def start (N:List Str)(vs:List V):St:=vs.map some++List.replicate (N.length-vs.length) none
noncomputable def cxOf (CX:CXT)(P:Program)(w:World)(K:Xb)(mg:Str->Option Value)(base:Heap)(N:List Str)(qual:Str)(scope:Scope)(f:Addr)(cd:Value)(A:Around)(outer:List Env)(s:Shared)(H:Hp)(E:XK):Cx where
 prog:=P
 w:=w
 K:=K
 mg:=mg
 base:=base
 A:=A.deeper (envOfC qual scope s.heap.objs.size f cd)
 N:=N
 s₀:=s
 H₀:=H
 env:=envOfC qual scope s.heap.objs.size f cd
 outer:=outer
 stack:=envOfC qual scope s.heap.objs.size f cd::outer
 ex:=[]
 calm:=true
 fn:=λ_=>true
 pn:=[]
 xe:=λe s'=>wpAny (model P w) (A.deeper (envOfC qual scope s.heap.objs.size f cd)) (leaving (envOfC qual scope s.heap.objs.size f cd) e) (λ_ s''=>CX outer H s E e s'') (λe' s''=>CX outer H s E e' s'') s'
theorem zjH {sc:Scope}{n:Nat}{x:Str}(h:sc.names.lookup x=some .cell):∃c,(cellsFrom n sc.names []).lookup x=some c:=by
 have q:=PySem.W.cellsFrom_some sc.names n [] (.inl h);exact Option.isSome_iff_exists.mp q
theorem zlL {CX:CXT}{P:Program}{w:World}{K:Xb}{mg:Str->Option Value}{base:Heap}{N ps:List Str}{qual:Str}{scope:Scope}{f:Addr}{cd:Value}{A:Around}{outer:List Env}{s s1:Shared}{H:Hp}{E:XK}{us:List Value}{vs:List V}
  (S:zaw N ps scope) (hd:A.handled=none) (e0:Env0 P w K mg base A outer s H) (hl:vs.length=ps.length) (r:Vals vs us)
  (x:InCallC s s.heap.objs.size (bindL (envOfC qual scope s.heap.objs.size f cd).kindOf (ps.zip us) λ_=>none) (cellsFrom (s.heap.objs.size+1) scope.names []) (bindC (envOfC qual scope s.heap.objs.size f cd).kindOf (ps.zip us) λ_=>none) s1) :
  Inv (cxOf CX P w K mg base N qual scope f cd A outer s H E) [] (start N vs) H s1:=by
 have hpl:ps.length<=N.length:=by have:=congrArg List.length S.pre;rw[XH]at this;lia
 obtain⟨h1,tk,rfl,hk⟩:=x.done;have noA:∀b:Addr,b∉(cxOf CX P w K mg base N qual scope f cd A outer s H E).ex:=λb z=>absurd (show b∈([]:List Addr) from z) (by simp);refine⟨⟨e0.mod,S.kind,rfl,rfl,Xf _,λy z c h1 h2=>?_,λy hy=>?_,λy c _ h=>?_,λ_=>hd,Around.frames_deeper e0.frames,.inr ⟨rfl,rfl⟩,λb z=>absurd z (noA b),e0.bs,e0.bsz,λb _ _=>noA b,λb z=>absurd z (noA b),e0.funs,e0.frf⟩,
  rfl,e0.bare,Un.kept hk,⟨_,x.toInCall.ns,λi y v h1 h2 h3=>?_⟩,λy c h=>⟨_,x.cell y c h⟩,e0.hok.fresh (Xf _),λy c h=>?_,λp hp=>absurd (show p∈([]:List (Addr×Obj)) from hp) (by simp),e0.hok.kept hk,?_⟩
 ·exact name_of_addr x.apart (PySem.mem_of_lookup h1) (PySem.mem_of_lookup h2)
 ·have hy:scope.names.lookup y=some .cell\/scope.names.lookup y=some .free:=hy;rcases hy with hy | hy
  ·exact zjH hy
  ·exact absurd rfl (S.nofree _ (PySem.mem_of_lookup hy))
 ·exact Nat.le_of_lt (x.above y c (PySem.mem_of_lookup h))
 ·have hi:i<vs.length:=by
   unfold start at h2;by_cases hi:i<vs.length
   ·exact hi
   ·rw[XQ (by simpa using hi)]at h2;rw[List.getElem?_replicate]at h2;split at h2<;>cases h2
  have ha:vs[i]? = some v:=by
   unfold start at h2;rw[Yg (by simpa using hi),Xd]at h2;cases e:vs[i]? with
   | none=>rw[e]at h2;cases h2
   | some a=>rw[e]at h2;cases h2;rfl
  obtain⟨u,hu,rv⟩:=r.get ha;have hp:ps[i]? = some y:=by
   rw[<- S.pre,List.getElem?_take_of_lt (by lia)];exact h1
  have ndP:ps.Nodup:=by rw[<- S.pre];exact S.nd.sublist (List.take_sublist _ _)
  refine⟨u,rv,?_⟩;rcases S.par y (Xn hp)with k | k
  ·exact .inl ⟨k,zhu ndP hp hu k⟩
  ·obtain⟨c,e⟩:=zjH (n:=s.heap.objs.size+1) k;refine .inr ⟨.inl k,c,e,?_⟩;have q:=x.cell y c e;rw[zhv ndP hp hu (by show scope.names.lookup y≠_;rw[k];decide)]at q;exact q
 ·exact e0.hok.fresh (Nat.le_of_lt (x.above y c (PySem.mem_of_lookup h)))
 ·unfold start;show _=N.length;rw[XB,Xc,List.length_replicate];lia
theorem ztQ {CX:CXT}{P:Program}{w:World}{K:Xb}{mg:Str->Option Value}{base:Heap}{k:Nat}{f:Addr}{name qual:Str}{params:Arguments}{body:List Stmt}{scope:Scope}{dV kV doc pm cdv ct oc:Value}{an od:Option Addr}
  {osl:Array (Option Value)} {N ps:List Str} {sp:Sp} (lk:K.lookup f=some ⟨oc,od,.func (XY name qual params body scope dV kV doc pm an cdv ct),osl⟩) (hcd:XW K cdv qual=true) (S:zaw N ps scope)
  (len:∀vs H Q E,sp vs H Q E->vs.length=ps.length)
  (hbody:∀(A:Around) (outer:List Env) (s:Shared) (H:Hp) (vs:List V) (Q:VK) (E:XK),Room k (A.deeper (envOfC qual scope s.heap.objs.size f cdv))->sp vs H Q E->
   ∃t,PSs (cxOf CX P w K mg base N qual scope f cdv A outer s H E) body t/\t { nx:=λ_ H'=>Q .non H',rt:=Q } (start N vs) H) :
  FnOk P w K mg base CX (k+1) f (XY name qual params body scope dV kV doc pm an cdv ct) ps sp:=by
 refine⟨len,λA outer s H args us vs Q E hr e0 hb r hsp=>?_⟩;have hl:=len _ _ _ _ hsp;have KX:K.In s.heap:=e0.mod.kin.keeps λb o e=>(e0.bs b o e).1;have lim:s.heap.NoLimit:=e0.mod.nolimit.keeps λb o e=>(e0.bs b o e).1;have hkind:∀y∈ps.zip us,scope.names.lookup y.1=some .local\/(scope.names.lookup y.1=some .cell/\((cellsFrom (s.heap.objs.size+1) scope.names []).lookup y.1).isSome=true):=λ⟨n,v⟩ hy=>by
  rcases S.par n (List.of_mem_zip hy).1 with q | q
  ·exact .inl q
  ·exact .inr ⟨q,PySem.W.cellsFrom_some _ _ _ (.inl q)⟩
 refine codeAny_call_function hr.depth (KX _ _ lk) rfl S.co S.gen rfl (PySem.W.codeRec_of KX hcd) (hb _ _ _ _ ?_);refine wpAny_newFunctionEnv_cells S.kind hkind λenv he s1 x=>?_;subst he;refine⟨lim.keeps x.toInCall.keep,codeAny_func ?_⟩;obtain⟨t,ht,hq⟩:=hbody A outer s H vs Q E (hr.deeper _) hsp;have I:Inv (cxOf CX P w K mg base N qual scope f cdv A outer s H E) [] (start N vs) H s1:=zlL S hr.hd e0 hl r x;refine wpAny_mono (ht [] s1 (start N vs) H _ I hq) (λfl s' hs=>?_) λe s' hs=>hs;have fin:∀ {σ':St} {H':Hp} {v:V} {u:Value},Inv (cxOf CX P w K mg base N qual scope f cdv A outer s H E) [] σ' H' s'->RelV v u->Q v H'->CE outer P w H s Q u s':=
  λ{σ' H' v u} J rv q=>⟨v,H',J.os,J.bare,J.base,J.hok,rv,q⟩
 cases fl with
 | ret u=>
  obtain⟨v,σ',H',J,rv,q⟩:=hs;exact fin J rv q
 | next=>
  obtain⟨σ',H',J,q⟩:=hs;exact fin (v:=V.non) (u:=Value.none) J rfl q
 | brk=>
  obtain⟨_,_,_,q⟩:=hs;exact False.elim q
 | cont=>
  obtain⟨_,_,_,q⟩:=hs;exact False.elim q
section
variable {X:Cx}{x:Str}{p pos:Pos}{e:Expr}{es:List Expr}{t:TA}{id T:String}{r:List V->Hp->VK->Prop}
noncomputable def tCB (r:List V->Hp->VK->Prop)(t:TA):TE:=λσ H Q=>t σ H λvs H1=>r vs H1 Q
theorem zeU (hc:zcr X (.builtin id) r)(hg:Gl X x)(hm:X.mg x=none)(hv:bootBuiltins x=some (.builtin id))(ha:PA X (e::es) t)(hn:autoParam (x≠"__name__") aU1) (hdb:autoParam ((x == ("__debug__" : Str))=false) aU1)
  (he:autoParam (starEach (e::es) X.env=(false,eval e X.env)::starEach es X.env) aU0) (hpl:autoParam ((backTo pos (starEach es X.env)).any (·.1)=false) aU0):PE X (.Call (.Name x p) (e::es) [] pos) (tCB r t):=by
 intro pins s σ H Q I h;refine wpAny_Call_Name_kw (zeG I hg hm hv ?_ hn hdb);exact PyProof.Rows.callWith_builtin1 (thn (ha pos pins s σ H _ I h) λus s1 q31q=>by obtain⟨vs,H1,I1,r1,q1⟩:=q31q;exact hc pins s1 σ H1 vs us Q I1 r1 q1) he hpl
theorem zfm (hc:zcr X (.type T) r)(hg:Gl X x)(hm:X.mg x=none)(hv:bootBuiltins x=some (.type T))(ha:PA X (e::es) t)(hn:autoParam (x≠"__name__") aU1) (hdb:autoParam ((x == ("__debug__" : Str))=false) aU1)
  (he:autoParam (starEach (e::es) X.env=(false,eval e X.env)::starEach es X.env) aU0) (hpl:autoParam ((backTo pos (starEach es X.env)).any (·.1)=false) aU0):PE X (.Call (.Name x p) (e::es) [] pos) (tCB r t):=by
 intro pins s σ H Q I h;refine wpAny_Call_Name_kw (zeG I hg hm hv ?_ hn hdb);exact PyProof.Rows.callWith_type1 (thn (ha pos pins s σ H _ I h) λus s1 q32q=>by obtain⟨vs,H1,I1,r1,q1⟩:=q32q;exact hc pins s1 σ H1 vs us Q I1 r1 q1) he hpl
end
end _L
namespace _H
open PySem PyProof.Rows
section
open PySem.SeqAt
open PySem.MeetsSeq PySem.MeetsSeq2 PySem.MeetsSeq3
end
section
variable {prog:Program}{w:World}{A:Around}{E:Value->Shared->Prop}{s:Shared}
theorem zqa {t b:Addr}{vs ws:List Value}{Q:Value->Shared->Prop}(ht:IsTup s.heap t vs.toArray)(hb:IsTup s.heap b ws.toArray)(hv:vs≠[])
  (h1:ws=[]->Q (.ref t) s) (h2:ws≠[]->Q (.ref s.heap.objs.size) { s with heap:=s.heap.push { cls:=.type "tuple",data:=.seq (vs++ws).toArray } })
  (hsz:vs.length+ws.length<=sizeLine):wpAny (model prog w) A (binaryOp .Add (.ref t) (.ref b)) Q E s:=by
 obtain⟨⟨cls,dd,data,sl⟩,ho,hc,n,hd⟩:=id ht;obtain⟨⟨cls2,dd2,data2,sl2⟩,ho2,hc2,n2,hd2⟩:=id hb;simp only at hc hd hc2 hd2;subst hc hd hc2 hd2;have e:vs.toArray++ws.toArray=(vs++ws).toArray:=by simp
 by_cases hw:ws=[]
 ·exact concat_meets ⟨_,ho,rfl⟩ ⟨_,ho2,rfl⟩ noFill_tuple_add seq_tuple_add PySem.F.slot_tuple_add PySem.F.entry_tuple_add (PySem.F.args_tuple_add_2 _ _)
   (tuple_addW1 t b vs.toArray ws.toArray n n2 dd dd2 sl sl2 (by simpa using hv) (by simp[hw])) ⟨ho,ho2,h1 hw⟩
 ·refine concat_meets ⟨_,ho,rfl⟩ ⟨_,ho2,rfl⟩ noFill_tuple_add seq_tuple_add PySem.F.slot_tuple_add PySem.F.entry_tuple_add (PySem.F.args_tuple_add_2 _ _)
   (tuple_addW2 t b vs.toArray ws.toArray n n2 dd dd2 sl sl2 (by simpa using hv) (by simpa using hw) (by rw[Xq,Xq];exact hsz)) ⟨ho,ho2,?_⟩
  rw[e];exact h2 hw
noncomputable def sIx (n d:Nat):Option Int->Nat
 | none=>d
 | some v=>if v<0 then(v+(n:Int)).toNat else min v.toNat n
theorem zob (n d:Nat):sIx n d none=d:=rfl
theorem zqb (n d k:Nat):sIx n d (some (k:Int))=min k n:=by
 show(if (k:Int)<0 then((k:Int)+(n:Int)).toNat else min (k:Int).toNat n)=min k n
 rw[if_neg (by lia),Int.toNat_natCast]
end
end _H
namespace _L
open PySem PySem.Spec PyProof.Rows
noncomputable abbrev TO:=St->Hp->(Option Int->Hp->Prop)->Prop
noncomputable def PO (X:Cx)(e:Option Expr)(t:TO):Prop:=
 ∀(pins:List (Addr×Obj)) (s:Shared) (σ:St) (H:Hp) (Q:Option Int->Hp->Prop),Inv X pins σ H s->t σ H Q->
  wpAny (model X.prog X.w) X.A (evalPart e X.env) (λu s'=>∃o H',Inv X pins σ H' s'/\IsPart u o/\Q o H') X.xe s
noncomputable def zqc:TO:=λ_ H Q=>Q none H
noncomputable def ztR (t:TE):TO:=λσ H Q=>t σ H λx H1=>∃i,x=.int i/\Q (some i) H1
theorem intsAre_of {ns:List Int}:∀ {us:List Value},Vals (ns.map V.int) us->IntsAre us ns:=by
 induction ns with
 | nil=>intro us r;rw[List.map_nil]at r;cases r;exact .nil
 | cons n ns ih=>
  intro us r;rw[Xy]at r;cases r with
  | cons r1 r2=>
   obtain⟨t,e⟩:=r1;subst e;exact .cons n t (ih r2)
section
variable {X:Cx}{e:Expr}{te:TE}{lo hi:Option Expr}{tl th:TO}{pos p2:Pos}
theorem zqd:PO X none zqc:=by
 intro pins s σ H Q I h;rw[evalPart_none];exact wpAny_pure ⟨none,H,I,.none,h⟩
theorem zqe (h:PE X e te):PO X (some e) (ztR te):=by
 intro pins s σ H Q I hw;rw[evalPart_some];refine thn (h pins s σ H _ I hw) λu s1 q33q=>?_;obtain⟨x,H1,I1,r1,q1⟩:=q33q;obtain⟨i,rfl,q⟩:=q1;obtain⟨t,rfl⟩:=r1;exact⟨some i,H1,I1,.int i t,q⟩
noncomputable def SlR (X:Cx)(r:V->Option Int->Option Int->Hp->VK->Prop):Prop:=
 ∀(pins:List (Addr×Obj)) (s:Shared) (σ:St) (H:Hp) (x:V) (v vl vu:Value) (lo hi:Option Int) (sl:Addr) (Q:VK),Inv X pins σ H s->RelV x v->s.heap.IsSliceOf sl vl vu .none->IsPart vl lo->IsPart vu hi->r x lo hi H Q->
  ∃T id,typeLookup (.type T) "__getitem__" = pure (some (.builtin id))/\s.TypeIs v T/\wpAny (model X.prog X.w) X.A (getItem v (.ref sl)) (EP X pins σ Q) X.xe s
noncomputable def tSl (r:V->Option Int->Option Int->Hp->VK->Prop)(te:TE)(tl th:TO):TE:=λσ H Q=>te σ H λx H1=>tl σ H1 λl H2=>th σ H2 λu H3=>r x l u H3 Q
theorem zoc {r:V->Option Int->Option Int->Hp->VK->Prop}(hr:SlR X r)(he:PE X e te)(hl:PO X lo tl)(hu:PO X hi th):PE X (.Subscript e (.Slice lo hi none p2) pos) (tSl r te tl th):=by
 intro pins s σ H Q I h;refine Subscript_ (thn (he pins s σ H _ I h) λv s1 q34q=>?_);obtain⟨x,H1,I1,r1,q1⟩:=q34q;refine wpAny_Slice (thn (hl pins s1 σ H1 _ I1 q1) λvl s2 ⟨l,H2,I2,pl,q2⟩=>thn (hu pins s2 σ H2 _ I2 q2) λvu s3 q36q=>?_);obtain⟨u,H3,I3,pu,q3⟩:=q36q;rw[evalPart_none];refine wpAny_pure ?_;have I4:Inv X pins σ H3 { s3 with heap:=s3.heap.push { cls:=.type "slice",data:=.fields #[vl,vu,.none] } }:=I3.kept (t':=s3.toks) λb ob q=>Xh _ q;obtain⟨T,id,hT,ht,hg⟩:=hr pins { s3 with heap:=s3.heap.push { cls:=.type "slice",data:=.fields #[vl,vu,.none] } } σ H3 x v vl vu l u s3.heap.objs.size Q I4 r1 (Heap.IsSliceOf.new ..) pl pu q3;show wpAny (model X.prog X.w) X.A (subscriptTail e (.Slice lo hi none p2) v (.ref s3.heap.objs.size)) (EP X pins σ Q) X.xe { s3 with heap:=s3.heap.push { cls:=.type "slice",data:=.fields #[vl,vu,.none] } };exact tail_any (ops:=[.ref s3.heap.objs.size,v]) ht hT hg (by with_unfolding_all rfl)
noncomputable def cutV (xs:List V)(lo hi:Option Int):List V:=(xs.drop (_H.sIx xs.length 0 lo)).take (_H.sIx xs.length xs.length hi-_H.sIx xs.length 0 lo)
theorem ziT (xs:List V)(lo hi:Option Int):(cutV xs lo hi).length<=xs.length:=by
 unfold cutV;rw[XH,List.length_drop];lia
noncomputable def ztS (K:Xb):R2:=λx y H Q=>∃a b xs ys,x=.ref a/\y=.ref b/\SqT K H a xs/\SqT K H b ys/\xs≠[]/\xs.length+ys.length<=sizeLine/\
 (ys=[]->Q (.ref a) H)/\(ys≠[]->∀p,H p=none->Q (.ref p) (upd H p (.tup (xs++ys))))
theorem Vals.zgC {xs:List V}{us:List Value}(r:Vals xs us):us=[]↔xs=[]:=by
 cases r with
 | nil=>simp
 | cons _ _=>simp
theorem zqf:OpR X (binaryOp .Add) (ztS X.K):=by
 intro pins s σ H x y v u Q I rx ry h;obtain⟨a,b,xs,ys,rfl,rfl,ha,hb,hx,hz,q1,q2⟩:=h;cases rx;cases ry;obtain⟨its,r1,p1,_⟩:=I.tuple ha;obtain⟨its2,r2,p2,_⟩:=I.tuple hb;refine _H.zqa p1 p2 (λz=>hx (r1.zgC.mp z)) (λz=>⟨.ref a,H,I,rfl,q1 (r2.zgC.mp z)⟩) (λz=>?_) (by rw[<- r1.length,<- r2.length];exact hz);refine⟨.ref s.heap.objs.size,_,I.laid (t':=s.toks) (o:=.tup (xs++ys)) (λb ob q=>Xh _ q) (Xf _) ?_,rfl,q2 (λw=>z (r2.zgC.mpr w)) _ (I.hok.fresh (Xf _))⟩;exact⟨by rw[XB];exact hz,_,r1.append r2,zcE.new _ _⟩
end
noncomputable def ixN (n:Nat)(i:Int):Option Nat:=if 0<=i then(if i<n then some i.toNat else none) else if -(n:Int)<=i then some (i+n).toNat else none
noncomputable def atI {α:Type}(xs:List α)(i:Int):Option α:=(ixN xs.length i).bind λj=>xs[j]?
theorem zqg {n:Nat}{i:Int}{j:Nat}(h:ixN n i=some j):seqIndex? i n=some j/\j<n/\-(n:Int)<=i/\i<n:=by
 unfold ixN at h;by_cases h0:0<=i
 ·rw[if_pos h0]at h;by_cases h1:i<n
  ·rw[if_pos h1]at h;have e:i.toNat=j:=Option.some.inj h;exact⟨by rw[seqIndex_of h0 h1,e],by lia,by lia,h1⟩
  ·rw[if_neg h1]at h;cases h
 ·rw[if_neg h0]at h;by_cases h1:-(n:Int)<=i
  ·rw[if_pos h1]at h;have e:(i+n).toNat=j:=Option.some.inj h;exact⟨by rw[seqIndex_neg (by lia) h1,e],by lia,h1,by lia⟩
  ·rw[if_neg h1]at h;cases h
theorem ziU {α:Type}{xs:List α}{i:Int}{v:α}(h:atI xs i=some v):∃j,seqIndex? i xs.length=some j/\xs[j]? = some v/\j<xs.length/\-(xs.length:Int)<=i/\i<xs.length:=by
 unfold atI at h;cases e:ixN xs.length i with
 | none=>rw[e]at h;cases h
 | some j=>
  rw[e]at h;obtain⟨h1,h2,h3,h4⟩:=zqg e;exact⟨j,h1,h,h2,h3,h4⟩
theorem zaR {α:Type}{xs:List α}{j:Nat}{v:α}(h:xs[j]? = some v):atI xs (j:Int)=some v:=by
 have hj:j<xs.length:=(Xe.mp h).1;have e:ixN xs.length (j:Int)=some j:=by
  unfold ixN;rw[if_pos (by lia),if_pos (by lia)];simp
 unfold atI;rw[e];exact h
noncomputable def zgD (b:Expr):Prop:=∀o i,subscripted b false o i=operate [o,i] (getItem o i)
noncomputable def IxR (X:Cx)(r:R2):Prop:=
 ∀(value slice:Expr) (pins:List (Addr×Obj)) (s:Shared) (σ:St) (H:Hp) (x y:V) (v u:Value) (Q:VK),Inv X pins σ H s->RelV x v->RelV y u->r x y H Q->
  subscripted slice false v u=operate [v,u] (getItem v u)->wpAny (model X.prog X.w) X.A (subscriptTail value slice v u) (EP X pins σ Q) X.xe s
noncomputable def MtR (X:Cx)(id:String)(r:V->List V->Hp->VK->Prop):Prop:=
 ∀(pins:List (Addr×Obj)) (s:Shared) (σ:St) (H:Hp) (x:V) (xs:List V) (v:Value) (us:List Value) (Q:VK),Inv X pins σ H s->RelV x v->Vals xs us->r x xs H Q->
  wpAny (model X.prog X.w) X.A (call (.builtin id) (v::us)) (EP X pins σ Q) X.xe s
section
variable {X:Cx}{a b:Expr}{ta tb:TE}{pos:Pos}
theorem IxR.or {r r':R2}(h:IxR X r)(h':IxR X r'):IxR X (λx y H Q=>r x y H Q\/r' x y H Q):=by
 intro value slice pins s σ H x y v u Q I rx ry q hs;rcases q with q | q
 ·exact h value slice pins s σ H x y v u Q I rx ry q hs
 ·exact h' value slice pins s σ H x y v u Q I rx ry q hs
theorem zrV {r:R2}(hr:IxR X r)(ha:PE X a ta)(hb:PE X b tb)(hs:zgD b):PE X (.Subscript a b pos) (tOp r ta tb):=by
 intro pins s σ H Q I h;exact Subscript_ (binT ha hb I h λv u s2 x y H2 I2 rx ry q=>hr a b pins s2 σ H2 x y v u Q I2 rx ry q (hs _ _))
noncomputable def rIxL (K:Xb):R2:=λx y H Q=>∃p xs i v,x=.ref p/\y=.int i/\SqL K H p xs/\atI xs i=some v/\Q v H
noncomputable def rIxT (K:Xb):R2:=λx y H Q=>∃p xs i v,x=.ref p/\y=.int i/\SqT K H p xs/\atI xs i=some v/\Q v H
noncomputable def rIxS:R2:=λx y H Q=>∃z i c,x=.str z/\y=.int i/\z.length<=sizeLine/\atI z.cps.toList i=some c/\Q (.str ⟨#[c]⟩) H
theorem zlM:IxR X (rIxL X.K):=by
 intro value slice pins s σ H x y v u Q I rx ry h hs;obtain⟨p,xs,i,z,rfl,rfl,hq,he,q⟩:=h;cases rx;obtain⟨t,rfl⟩:=ry;obtain⟨its,r,pl,hz⟩:=I.list hq;obtain⟨j,h1,h2,h3,h4,h5⟩:=ziU he;obtain⟨w,ew,rw'⟩:=r.get h2;have hl:=r.length;have hn:=zhr;have fin:EP X pins σ Q w s:=⟨z,H,I,rw',q⟩;by_cases h0:0<=i
 ·have hj:i.toNat=j:=by
   rw[seqIndex_of h0 h5]at h1;exact Option.some.inj h1
  exact item_listR pl.isList h0 (by lia) (by rw[hj];simpa using ew) fin hs
 ·have hj:(i+(its.toArray.size:Int)).toNat=j:=by
   rw[seqIndex_neg (by lia) h4]at h1;rw[Xq,<- hl];exact Option.some.inj h1
  exact subscriptTail_builtinR (x:=w) pl.isList.typeIs slot_list_getitem.lookup
   (wpAny_getItem_list_neg (Q:=λr s'=>r=w/\EP X pins σ Q r s') pl.isList (by lia) (by rw[Xq]<;>lia) (by lia) (by rw[hj];simpa using ew) ⟨rfl,fin⟩) hs
theorem zrW:IxR X (rIxT X.K):=by
 intro value slice pins s σ H x y v u Q I rx ry h hs;obtain⟨p,xs,i,z,rfl,rfl,hq,he,q⟩:=h;cases rx;obtain⟨t,rfl⟩:=ry;obtain⟨its,r,pl,hz⟩:=I.tuple hq;obtain⟨j,h1,h2,h3,h4,h5⟩:=ziU he;obtain⟨w,ew,rw'⟩:=r.get h2;have hl:=r.length;have hn:=zhr;have fin:EP X pins σ Q w s:=⟨z,H,I,rw',q⟩;exact subscriptTail_builtinR (x:=w) pl.typeIs slot_tuple_getitem.lookup
  (getItem_tuple (j:=j) (Q:=λr s'=>r=w/\EP X pins σ Q r s') pl (by lia) (by lia) (by rw[Xq,<- hl];exact h1) (by simpa using ew) ⟨rfl,fin⟩) hs
theorem zrX:IxR X rIxS:=by
 intro value slice pins s σ H x y v u Q I rx ry h hs;obtain⟨z,i,c,rfl,rfl,hz,he,q⟩:=h;obtain⟨t,rfl⟩:=rx;obtain⟨t',rfl⟩:=ry;obtain⟨j,h1,h2,h3,h4,h5⟩:=ziU he;have hl:z.cps.toList.length=z.length:=by simp[Str.length]
 rw[hl]at h1 h4 h5;have hn:=zhr;exact tail_any (typeIs_str s z t) slot_str_getitem.lookup (getItem_str (c:=c) (by
  have e1:decide (i < -(2 ^ 63:Int))=false:=decide_eq_false (by lia);have e2:decide (i>=2 ^ 63)=false:=decide_eq_false (by lia);rw[e1,e2,Bool.or_false]) (by rw[h1];simpa using h2) ⟨.str ⟨#[c]⟩,H,I.tok _,⟨_,rfl⟩,q⟩) hs
noncomputable def rIx (K:Xb):R2:=λx y H Q=>rIxL K x y H Q\/rIxT K x y H Q\/rIxS x y H Q
theorem zrY:IxR X (rIx X.K):=zlM.or (zrW.or zrX)
theorem zhw (lo hi:Option Int)(n:Nat):(sliceBounds lo hi none n).1=((_H.sIx n 0 lo:Nat):Int)/\(sliceBounds lo hi none n).2.1=((_H.sIx n n hi:Nat):Int)/\(sliceBounds lo hi none n).2.2=1:=by
 refine⟨?_,?_,rfl⟩
 ·cases lo with
  | none=>simp[sliceBounds,_H.sIx]
  | some i=>
   simp only[sliceBounds,_H.sIx,Option.getD_none,show(1:Int) > 0 by decide,if_true];by_cases h:i<0
   ·simp only[h,if_true]<;>lia
   ·simp only[h,if_false]<;>lia
 ·cases hi with
  | none=>simp[sliceBounds,_H.sIx]
  | some i=>
   simp only[sliceBounds,_H.sIx,Option.getD_none,show(1:Int) > 0 by decide,if_true];by_cases h:i<0
   ·simp only[h,if_true]<;>lia
   ·simp only[h,if_false]<;>lia
theorem zgE (its:List Value)(lo hi:Option Int):slicePick its.toArray lo hi none=((its.drop (_H.sIx its.length 0 lo)).take (_H.sIx its.length its.length hi-_H.sIx its.length 0 lo)).toArray:=by
 obtain⟨h1,h2,h3⟩:=zhw lo hi its.toArray.size;unfold slicePick;rw[h1,h2,h3];simp only[sliceRange_one,pick_run,Xq]<;>rfl
noncomputable def rSlL (K:Xb):V->Option Int->Option Int->Hp->VK->Prop:=λx lo hi H Q=>∃a xs,x=.ref a/\SqL K H a xs/\∀p,H p=none->Q (.ref p) (upd H p (.lst (cutV xs lo hi)))
theorem zqh:SlR X (rSlL X.K):=by
 intro pins s σ H x v vl vu lo hi sl Q I rx hs pl pu h;obtain⟨a,xs,rfl,hx,q⟩:=h;cases rx;obtain⟨its,r,ht,hz⟩:=I.list hx;have hlen:=r.length;refine⟨"list",_,slot_list_getitem.lookup,ht.isList.typeIs,?_⟩;refine wpAny_getItem_list_slice ht.isList hs pl pu .none (by simp) ?_ (by rw[Xq]<;>lia);rw[zgE,<- hlen];refine⟨.ref s.heap.objs.size,_,I.laid (t':=s.toks) (o:=.lst (cutV xs lo hi)) (λb ob q=>Xh _ q) (Xf _) ?_,rfl,q _ (I.hok.fresh (Xf _))⟩;exact⟨Ye (ziT xs lo hi) hz,_,0,(r.drop (_H.sIx xs.length 0 lo)).take (_H.sIx xs.length xs.length hi-_H.sIx xs.length 0 lo),XC _ rfl⟩
noncomputable def zdK:V->Bool
 | .non=>true
 | .bl _=>true
 | .int _=>true
 | .str _=>true
 | _=>false
noncomputable def eqV:V->V->Bool
 | .non,.non=>true
 | .bl a,.bl b=>a == b
 | .bl a,.int b=>(if a then 1 else 0) == b
 | .int a,.bl b=>a == (if b then 1 else 0)
 | .int a,.int b=>a == b
 | .str a,.str b=>a == b
 | _,_=>false
theorem zrZ {A:Around}{s:Shared}{y x:V}{u v:Value}(ry:RelV y u)(rx:RelV x v)(fy:zdK y=true)(fx:zdK x=true):SeqAt.EqAt A s u v (eqV y x):=by
 cases y with
 | non=>
  cases ry;cases x with
  | non=>cases rx;exact SeqAt.EqAt.same _
  | bl b=>cases rx;exact SeqAt.EqAt.none_bool b
  | int b=>obtain⟨t,rfl⟩:=rx;exact SeqAt.EqAt.none_int b t
  | str b=>obtain⟨t,rfl⟩:=rx;exact SeqAt.EqAt.none_str b t
  | _=>exact absurd (show false=true from fx) Xw
 | bl a=>
  cases ry;cases x with
  | non=>cases rx;exact SeqAt.EqAt.bool_none a
  | bl b=>cases rx;exact SeqAt.EqAt.bool_bool a b
  | int b=>obtain⟨t,rfl⟩:=rx;exact SeqAt.EqAt.bool_int a b t
  | str b=>obtain⟨t,rfl⟩:=rx;exact SeqAt.EqAt.bool_str a b t
  | _=>exact absurd (show false=true from fx) Xw
 | int a=>
  obtain⟨t',rfl⟩:=ry;cases x with
  | non=>cases rx;exact SeqAt.EqAt.int_none a t'
  | bl b=>cases rx;exact SeqAt.EqAt.int_bool a t' b
  | int b=>obtain⟨t,rfl⟩:=rx;exact SeqAt.EqAt.int_int a t' b t
  | str b=>obtain⟨t,rfl⟩:=rx;exact SeqAt.EqAt.int_str a t' b t
  | _=>exact absurd (show false=true from fx) Xw
 | str a=>
  obtain⟨t',rfl⟩:=ry;cases x with
  | non=>cases rx;exact SeqAt.EqAt.str_none a t'
  | bl b=>cases rx;exact SeqAt.EqAt.str_bool a t' b
  | int b=>obtain⟨t,rfl⟩:=rx;exact SeqAt.EqAt.str_int a t' b t
  | str b=>obtain⟨t,rfl⟩:=rx;exact SeqAt.EqAt.str_str a t' b t
  | _=>exact absurd (show false=true from fx) Xw
 | _=>exact absurd (show false=true from fy) Xw
noncomputable def eqU (x:V)(u:Value):Bool:=match u with
 | .none=>eqV .non x
 | .bool b=>eqV (.bl b) x
 | .int i _=>eqV (.int i) x
 | .str z _=>eqV (.str z) x
 | _=>false
theorem zpo {x y:V}{u:Value}(r:RelV y u)(f:zdK y=true):eqU x u=eqV y x:=by
 cases y with
 | non=>cases r;rfl
 | bl b=>cases r;rfl
 | int i=>obtain⟨t,rfl⟩:=r;rfl
 | str z=>obtain⟨t,rfl⟩:=r;rfl
 | _=>exact absurd (show false=true from f) Xw
theorem zgF {A:Around}{s:Shared}{x:V}{v:Value}(rx:RelV x v)(fx:zdK x=true):∀ {xs:List V}{us:List Value},Vals xs us->xs.all zdK=true->∀u∈us,SeqAt.EqAt A s u v (eqU x u)
 | _,_,.nil,_=>λu hu=>by cases hu
 | y::xs,u::us,.cons r t,f=>λu' hu=>by
  rw[List.all_cons,YF]at f;rcases Xx.mp hu with rfl | hu
  ·rw[zpo r f.1];exact zrZ r rx f.1 fx
  ·exact zgF rx fx t f.2 u' hu
theorem zhx:zcr X (.type "list") (λxs H Q=>∃p ys,xs=[.ref p]/\(SqL X.K H p ys\/SqT X.K H p ys)/\∀l,H l=none->Q (.ref l) (upd H l (.lst ys))):=by
 intro pins s σ H xs us Q I r h;obtain⟨p,ys,rfl,hq,q⟩:=h;obtain⟨u,rfl,rx⟩:=vals1 r;cases rx;have fin:∀(its:List Value),Vals ys its->ys.length<=sizeLine->∀(h':Heap) (c':Nat),(∀b o',s.heap.get? b=some o'->h'.get? b=some o')->
   h'.get? s.heap.objs.size=some { cls:=.type "list",dict:=none,data:=.seq its.toArray c',slots:=#[] }->EP X pins σ Q (.ref s.heap.objs.size) { s with heap:=h' }:=λits r' hz h' c' kp e=>
  ⟨.ref s.heap.objs.size,_,I.laid (t':=s.toks) kp (Xf _) (show zbi X.prog X.w _ h' _ (.lst ys) from⟨hz,its,c',r',e⟩),rfl,q _ (I.hok.fresh (Xf _))⟩
 rcases hq with hq | hq
 ·obtain⟨its,r',pl,hz⟩:=I.list hq;have hlen:=r'.length;obtain⟨o,ho,hc,n,hd⟩:=pl.isList;exact call_list_seq p (.inl rfl) ho hc hd (λh' c' kp e=>fin its r' hz h' c' kp e) (by simp only[Xq]<;>lia)
 ·obtain⟨its,r',pl,hz⟩:=I.tuple hq;have hlen:=r'.length;obtain⟨o,ho,hc,n,hd⟩:=pl;exact call_list_seq p (.inr rfl) ho hc hd (λh' c' kp e=>fin its r' hz h' c' kp e) (by simp only[Xq]<;>lia)
theorem zgG:zcr X (.type "tuple") (λxs H Q=>∃p ys,xs=[.ref p]/\((SqL X.K H p ys/\∀l,H l=none->Q (.ref l) (upd H l (.tup ys)))\/(SqT X.K H p ys/\Q (.ref p) H))):=by
 intro pins s σ H xs us Q I r h;obtain⟨p,ys,rfl,h⟩:=h;obtain⟨u,rfl,rx⟩:=vals1 r;cases rx;rcases h with ⟨hq,q⟩ | ⟨hq,q⟩
 ·obtain⟨its,r',pl,hz⟩:=I.list hq;have hlen:=r'.length;refine call_tuple_list pl.isList (λh' kp=>?_) (by simp only[Xq]<;>lia);have I1:Inv X pins σ H { s with heap:=h' }:=I.kept (t':=s.toks) kp;have I2:Inv X pins σ (upd H h'.objs.size (.tup ys)) { s with heap:=h'.push { cls:=.type "tuple",data:=.seq its.toArray } }:=
   I1.laid (t':=s.toks) (λb o e=>Xh _ e) (Xf _) (show zbi X.prog X.w _ _ _ (.tup ys) from⟨hz,its,r',zcE.new _ _⟩)
  exact⟨.ref h'.objs.size,_,I2,rfl,q _ (I1.hok.fresh (Xf _))⟩
 ·obtain⟨its,r',pl,hz⟩:=I.tuple hq;exact call_tuple_same pl ⟨.ref p,H,I,rfl,q⟩
noncomputable def tyV (K:Xb)(T:String)(x:V)(H:Hp):Prop:=match x with
 | .str _=>T = "str"
 | .int _=>T = "int"
 | .ref p=>(T = "list"/\∃xs,SqL K H p xs)\/(T = "tuple"/\∃o,K.lookup p=some o/\o.cls=.type "tuple"/\o.dict=none)\/
   (T = "dict"/\((∃kvs,H p=some (.dK kvs))\/∃kvs,H p=some (.dT kvs)))\/(T = "set"/\∃S n,H p=some (.set S n))
 | _=>False
theorem zpp {pins:List (Addr×Obj)}{σ:St}{H:Hp}{s:Shared}{T:String}{x:V}{v:Value}(I:Inv X pins σ H s)(r:RelV x v)(ty:tyV X.K T x H) :
  s.TypeIs v T/\∀a,v=.ref a->∃ob,s.heap.get? a=some ob/\ob.dict=none:=by
 cases x with
 | str z=>
  obtain⟨t,rfl⟩:=r;cases (show T = "str" from ty);exact⟨typeIs_str s z t,λ_ e=>nomatch e⟩
 | int i=>
  obtain⟨t,rfl⟩:=r;cases (show T = "int" from ty);exact⟨typeIs_int s i t,λ_ e=>nomatch e⟩
 | ref p=>
  cases r;rcases ty with ⟨rfl,xs,hq⟩ | ⟨rfl,o,hk,hc,hd⟩ | ⟨rfl,hk⟩ | ⟨rfl,S,n,hk⟩
  ·obtain⟨its,_,pl,_⟩:=I.list hq;refine⟨pl.isList.typeIs,λa e=>?_⟩;cases e;obtain⟨o,n,e,c,hd,_⟩:=pl;exact⟨o,e,hd⟩
  ·refine⟨⟨o,I.kIn p o hk,hc⟩,λa e=>?_⟩;cases e;exact⟨o,I.kIn _ o hk,hd⟩
  ·have z:∃o,s.heap.get? p=some o/\o.ExactDict:=by
    rcases hk with ⟨kvs,hk⟩ | ⟨kvs,hk⟩
    ·obtain⟨_,_,_,_,o,_,_,e,ex,_⟩:=I.hok p _ hk;exact⟨o,e,ex⟩
    ·obtain⟨_,_,_,_,o,_,_,e,ex,_⟩:=I.hok p _ hk;exact⟨o,e,ex⟩
   obtain⟨o,e,ex⟩:=z;refine⟨⟨o,e,ex.1⟩,λa e2=>?_⟩;cases e2;exact⟨o,e,ex.2.1⟩
  ·obtain⟨o,_,_,_,e,ex,_⟩:=I.hok p _ hk;refine⟨⟨o,e,ex.1⟩,λa e2=>?_⟩;cases e2;exact⟨o,e,ex.2.1⟩
 | _=>exact False.elim ty
noncomputable def tBM0 (K:Xb)(T:String)(r:V->List V->Hp->VK->Prop)(to:TE):TE:=λσ H Q=>to σ H λx H1=>tyV K T x H1/\r x [] H1 Q
noncomputable def tBM (K:Xb)(T:String)(r:V->List V->Hp->VK->Prop)(to:TE)(t:TA):TE:=λσ H Q=>to σ H λx H1=>tyV K T x H1/\t σ H1 λxs H2=>r x xs H2 Q
variable {o e:Expr}{es:List Expr}{to:TE}{t:TA}{name:Str}{apos cpos:Pos}{T id:String}{r:V->List V->Hp->VK->Prop}
theorem zsa (pa:PlainAttrs T)(slot:Slot T name id)(hty:typeOf (.builtin id)=pure (.type "method_descriptor")) (hm:MtR X id r) (ho:PE X o to)
  (hbase:autoParam (attributeBase o name X.env (eval o X.env)=eval o X.env) aU0) (hline:autoParam ((apos.endLine == cpos.line)=true) aU0):PE X (.Call (.Attribute o name apos) [] [] cpos) (tBM0 X.K T r to):=by
 intro pins s σ H Q I h;refine wpAny_Call_method0_late hbase hline (thn (ho pins s σ H _ I h) λv s1 q37q=>?_);obtain⟨x,H1,I1,r1,ty,q1⟩:=q37q;obtain⟨h1,h2⟩:=zpp I1 r1 ty;exact⟨T,id,pa,slot,hty,h1,h2,Calls.callWith_builtin rfl (PySem.evalArgs_none (hm pins s1 σ H1 x [] v [] Q I1 r1 .nil q1))⟩
theorem zlN (pa:PlainAttrs T)(slot:Slot T name id)(hty:typeOf (.builtin id)=pure (.type "method_descriptor")) (hm:MtR X id r) (ho:PE X o to) (ha:PA X (e::es) t)
  (hbase:autoParam (attributeBase o name X.env (eval o X.env)=eval o X.env) aU0)
  (hfew:autoParam (((backTo cpos (starEach (e::es) X.env)).all (λx=>!x.1)&&(backToKw cpos (keywordEach [] X.env)).all (λx=>x.1.isSome)
   && decide ((e::es).length+([]:List Keyword).length+(if ([]:List Keyword).isEmpty then 0 else 1)<30))=true) aU0)
  (hline:autoParam ((apos.endLine == cpos.line)=true) aU0) (hs:autoParam (starEach (e::es) X.env=(false,eval e X.env)::starEach es X.env) aU0) (hplain:autoParam ((backTo cpos (starEach es X.env)).any (·.1)=false) aU0) :
  PE X (.Call (.Attribute o name apos) (e::es) [] cpos) (tBM X.K T r to t):=by
 intro pins s σ H Q I h;refine wpAny_Call_method_late hbase hfew hline rfl (thn (ho pins s σ H _ I h) λv s1 q38q=>?_);obtain⟨x,H1,I1,r1,ty,q1⟩:=q38q;obtain⟨h1,h2⟩:=zpp I1 r1 ty;refine⟨T,id,pa,slot,hty,h1,h2,?_⟩;have hA:=ha cpos pins s1 σ H1 _ I1 q1;rw[hs]at hA ⊢;refine Calls.callWith_builtin (by show(false||(backTo cpos (starEach es X.env)).any (·.1))=false;rw[hplain]<;>rfl) (Calls.evalArgs_plain ?_)
 exact thn hA λus s2 q39q=>by obtain⟨vs,H2,I2,r2,q2⟩:=q39q;exact hm pins s2 σ H2 x vs v us Q I2 r1 r2 q2
end
noncomputable def MtM (X:Cx)(id:String)(r:V->List V->Hp->VK->Prop):Prop:=
 ∀(pins:List (Addr×Obj)) (s:Shared) (σ:St) (H:Hp) (x:V) (xs:List V) (v:Value) (us:List Value) (Q:VK),Inv X pins σ H s->RelV x v->Vals xs us->r x xs H Q->
  wpAny (model X.prog X.w) X.A (call (.builtin id) (v::us)) (EP X pins σ Q) X.xe s
theorem Vals.one:∀ {x:V}{us:List Value},Vals [x] us->∃u,us=[u]/\RelV x u:=by
 intro x us h;cases h with
 | cons r t=>cases t;exact⟨_,rfl,r⟩
theorem Vals.eraseIdx:∀ {xs:List V}{us:List Value}(i:Nat),Vals xs us->Vals (xs.eraseIdx i) (us.eraseIdx i)
 | _,_,_,.nil=>.nil
 | _,_,0,.cons _ t=>t
 | _,_,i+1,.cons r t=>.cons r (Vals.eraseIdx i t)
theorem zhy {α:Type}:∀(l:List α)(i:Nat),(l.eraseIdx i).length<=l.length
 | [],_=>Xf _
 | _::_,0=>Nat.le_succ _
 | _::r,i+1=>Nat.succ_le_succ (zhy r i)
section
variable {X:Cx}{pins:List (Addr×Obj)}{σ:St}{H:Hp}{s:Shared}{l b:Addr}{xs ys zs:List V}
theorem Inv.lset {its its':List Value}{n:Nat}{f:Array Value->Array Value}{t':Nat}(I:Inv X pins σ H s)(hH:H l=some (.lst xs))
  (e:s.heap.get? l=some { cls:=.type "list",data:=.seq its.toArray n }) (hf:f its.toArray=its'.toArray) (hv:Vals ys its') (hz:ys.length<=sizeLine) :
  Inv X pins σ (upd H l (.lst ys)) { s with heap:=s.heap.update l (Obj.mapSeq f),toks:=t' }:=by
 have q:=PySem.IsL.update e f;rw[hf]at q;refine I.write (x:=l) (e:=l) (by rw[hH];exact trivial) (.inl rfl) (λb' u hb hu=>(Yj s.heap (Obj.mapSeq f) (Ne.symm hb)).trans hu) ⟨_,q⟩ ?_;exact⟨hz,its',_,hv,q⟩
theorem Inv.lnew {its:List Value}{t':Nat}(I:Inv X pins σ H s)(hv:Vals ys its)(hz:ys.length<=sizeLine) :
  Inv X pins σ (upd H s.heap.objs.size (.lst ys)) { s with heap:=s.heap.push { cls:=.type "list",data:=.seq its.toArray },toks:=t' }:=
 I.laid (λ_ _ q=>Xh _ q) (Xf _) ⟨hz,its,0,hv,XC _ rfl⟩
theorem Inv.fresh (I:Inv X pins σ H s):H s.heap.objs.size=none:=I.hok.fresh (Xf _)
theorem Inv.lstM (I:Inv X pins σ H s)(hH:H l=some (.lst xs)):xs.length<=sizeLine/\∃(its:List Value)(n:Nat),Vals xs its/\xs.length=its.length/\s.heap.get? l=some { cls:=.type "list",data:=.seq its.toArray n }:=by
 obtain⟨z,its,n,r,e⟩:=I.hok l _ hH;exact⟨z,its,n,r,r.length,e⟩
theorem zod {n:Nat}(h:n<=sizeLine):Builtin.List.listTooLong n=false:=by
 unfold Builtin.List.listTooLong;exact decide_eq_false (by lia)
end
section
variable {X:Cx}
noncomputable def zqi:V->List V->Hp->VK->Prop:=λx vs H Q=>∃l xs y,x=.ref l/\vs=[y]/\H l=some (.lst xs)/\xs.length<sizeLine/\Q .non (upd H l (.lst (xs++[y])))
theorem zdL:MtM X "list.append" zqi:=by
 intro pins s σ H x vs v us Q I rx rv h;obtain⟨l,xs,y,rfl,rfl,hH,hz,q⟩:=h;cases rx;obtain⟨u,rfl,ru⟩:=rv.one;obtain⟨z,its,n,r,hl,e⟩:=I.lstM hH;refine call_meets F.slot_list_append ⟨_,e,rfl⟩ F.entry_list_append (F.args_list_append_2 _ _) (PySem.list_append l its.toArray n u (by rw[Xq];lia)) ⟨e,?_⟩;refine⟨.non,_,I.lset (its':=its++[u]) hH e (by simp) (r.append (.cons ru .nil)) ?_,rfl,q⟩;rw[XB,List.length_singleton];lia
noncomputable def zsb:V->List V->Hp->VK->Prop:=λx vs H Q=>∃l xs i k y,x=.ref l/\vs=[.int i]/\H l=some (.lst xs)/\-(2 ^ 63)<=i/\i<2 ^ 63/\seqIndex? i xs.length=some k/\xs[k]? = some y/\Q y (upd H l (.lst (xs.eraseIdx k)))
theorem zoe:MtM X "list.pop" zsb:=by
 intro pins s σ H x vs v us Q I rx rv h;obtain⟨l,xs,i,k,y,rfl,rfl,hH,h1,h2,hk,hy,q⟩:=h;cases rx;obtain⟨u,rfl,ru⟩:=rv.one;obtain⟨t,rfl⟩:=ru;obtain⟨z,its,n,r,hl,e⟩:=I.lstM hH;obtain⟨w,hw,rw'⟩:=r.get hy;refine call_meets F.slot_list_pop ⟨_,e,rfl⟩ F.entry_list_pop (F.args_list_pop_2 _ _)
  (MeetsSeq.list_pop_at l its.toArray n i t k w (fitsIndex_both h1 h2) (by rw[Xq,<- hl];exact hk) (by rw[<- Xu];exact hw) (by rw[Xq];lia)) ⟨e,?_⟩
 refine⟨y,_,I.lset (its':=its.eraseIdx k) hH e ?_ (r.eraseIdx k) ?_,rw',q⟩
 ·show its.toArray.eraseIdxIfInBounds k=(its.eraseIdx k).toArray;rw[List.eraseIdxIfInBounds_toArray]
 ·have:=zhy xs k;lia
end
section
variable {κ:Type} [DecidableEq κ]
noncomputable def valV (kvs:List (κ×V))(k:κ):Option V:=(kvs.find? λkv=>decide (kv.1=k)).map (·.2)
noncomputable def putK (kvs:List (κ×V))(k:κ)(v:V):List (κ×V):=
 if (kvs.any λkv=>decide (kv.1=k))=true then kvs.map (λkv=>if kv.1=k then(kv.1,v) else kv) else kvs++[(k,v)]
theorem zgH {p:κ×V}{r:List (κ×V)}{k:κ}(e:p.1=k):valV (p::r) k=some p.2:=by simp[valV,Ys,e]
theorem zgI {p:κ×V}{r:List (κ×V)}{k:κ}(e:¬ p.1=k):valV (p::r) k=valV r k:=by simp[valV,Ys,e]
theorem zjI (k:κ):∀kvs:List (κ×V),(kvs.any λkv=>decide (kv.1=k))=(valV kvs k).isSome
 | []=>rfl
 | p::r=>by
  rw[List.any_cons];by_cases e:p.1=k
  ·simp only[zgH e,decide_eq_true e,Bool.true_or,Option.isSome_some]
  ·rw[zgI e,decide_eq_false e,Bool.false_or];exact zjI k r
theorem zds (kvs:List (κ×V))(k:κ)(v:V):(putK kvs k v).length<=kvs.length+1:=by
 unfold putK;split
 ·rw[Xc];lia
 ·rw[XB,Ya,List.length_nil];lia
theorem RelO.zfn {o:Option V}{u:Option Value}(r:RelO o u):o.isSome=u.isSome:=by
 cases o with
 | none=>cases u with
  | none=>rfl
  | some _=>exact(show False from r).elim
 | some _=>cases u with
  | none=>exact(show False from r).elim
  | some _=>rfl
theorem RelO.getD {o:Option V}{u:Option Value}{d:V}{d':Value}(r:RelO o u)(rd:RelV d d'):RelV (o.getD d) (u.getD d'):=by
 cases o with
 | none=>cases u with
  | none=>exact rd
  | some _=>exact(show False from r).elim
 | some _=>cases u with
  | none=>exact(show False from r).elim
  | some _=>exact r
theorem KV.val {kvs:List (κ×V)}{vs:List (κ×Value)}(r:KV kvs vs)(k:κ):RelO (valV kvs k) (valueAt vs k):=by
 unfold KV at r;induction r with
 | nil=>exact True.intro
 | @cons p q ps qs h t ih=>
  obtain⟨h1,h2⟩:=h;by_cases e:p.1=k
  ·have e':q.1=k:=h1.symm.trans e;have b:valueAt (q::qs) k=some q.2:=by simp[valueAt,Ys,e']
   rw[zgH e,b];exact h2
  ·have e':¬ q.1=k:=λz=>e (h1.trans z);have b:valueAt (q::qs) k=valueAt qs k:=by simp[valueAt,Ys,e']
   rw[zgI e,b];exact ih
theorem KV.any {kvs:List (κ×V)}{vs:List (κ×Value)}(r:KV kvs vs)(k:κ):(kvs.any λkv=>decide (kv.1=k))=vs.any λkv=>decide (kv.1=k):=by
 unfold KV at r;induction r with
 | nil=>rfl
 | cons h t ih=>rw[List.any_cons,List.any_cons,ih,h.1]
theorem KV.repl {kvs:List (κ×V)}{vs:List (κ×Value)}(r:KV kvs vs)(k:κ){y:V}{u:Value}(ry:RelV y u) :
  KV (kvs.map λkv=>if kv.1=k then(kv.1,y) else kv) (vs.map λkv=>if kv.1=k then(kv.1,u) else kv):=by
 unfold KV at r ⊢;induction r with
 | nil=>exact .nil
 | @cons p q ps qs h t ih=>
  rw[Xy,Xy];refine .cons ?_ ih;obtain⟨h1,h2⟩:=h;by_cases e:p.1=k
  ·rw[if_pos e,if_pos (h1.symm.trans e)];exact⟨h1,ry⟩
  ·rw[if_neg e,if_neg (λz=>e (h1.trans z))];exact⟨h1,h2⟩
theorem KV.put {kvs:List (κ×V)}{vs:List (κ×Value)}(r:KV kvs vs)(k:κ){y:V}{u:Value}(ry:RelV y u):KV (putK kvs k y) (stored vs k u):=by
 unfold putK stored;rw[r.any k];by_cases e:(vs.any λkv=>decide (kv.1=k))=true
 ·rw[if_pos e,if_pos e];exact r.repl k ry
 ·rw[if_neg e,if_neg e];exact Paired.snoc r ⟨rfl,ry⟩
theorem KV.length {kvs:List (κ×V)}{vs:List (κ×Value)}(r:KV kvs vs):kvs.length=vs.length:=Paired.length r
end
theorem zof {P:Program}{w:World}{k:Key}{u:Value}(r:RelV (kV k) u):(zaD P w).is k u=true:=by
 cases k with
 | inl i=>obtain⟨t,e⟩:=(show ∃t,u=Value.int i t from r);subst e;exact ziQ P w i t
 | inr x=>obtain⟨t,e⟩:=(show ∃t,u=Value.str x t from r);subst e;exact ziR P w x t
theorem zhz {P:Program}{w:World}:∀ {ks:List Key}{us:List Value},Vals (ks.map kV) us->ItemsAre (zaD P w) ks us
 | [],_,r=>by rw[List.map_nil]at r;cases r;exact .nil
 | k::ks,_,r=>by
  rw[Xy]at r;cases r with
  | cons h t=>exact .cons (zof h) (zhz t)
noncomputable abbrev KT (H:Hp):List (List Key×V)->List (List Key×Addr×Value)->Prop:=Paired λp q=>p.1=q.1/\H q.2.1=some (.tup (p.1.map kV))/\RelV p.2 q.2.2
theorem KT.val {H:Hp}{kvs:List (List Key×V)}{xs:List (List Key×Addr×Value)}(r:KT H kvs xs)(k:List Key):RelO (valV kvs k) ((atKey xs k).map (·.2)):=by
 induction r with
 | nil=>exact True.intro
 | @cons p q ps qs h t ih=>
  obtain⟨h1,_,h2⟩:=h;by_cases e:p.1=k
  ·have e':q.1=k:=h1.symm.trans e;have b:atKey (q::qs) k=some q.2:=by simp[atKey,Ys,e']
   rw[zgH e,b];exact h2
  ·have e':¬ q.1=k:=λz=>e (h1.trans z);have b:atKey (q::qs) k=atKey qs k:=by simp[atKey,Ys,e']
   rw[zgI e,b];exact ih
theorem KT.repl {H:Hp}{kvs:List (List Key×V)}{xs:List (List Key×Addr×Value)}(r:KT H kvs xs)(k:List Key){y:V}{u:Value}(ry:RelV y u) :
  KT H (kvs.map λkv=>if kv.1=k then(kv.1,y) else kv) (xs.map (putAt k u)):=by
 induction r with
 | nil=>exact .nil
 | @cons p q ps qs h t ih=>
  rw[Xy,Xy];refine .cons ?_ ih;obtain⟨h1,h2,h3⟩:=h;unfold putAt;by_cases e:p.1=k
  ·rw[if_pos e,if_pos (h1.symm.trans e)];exact⟨h1,h2,ry⟩
  ·rw[if_neg e,if_neg (λz=>e (h1.trans z))];exact⟨h1,h2,h3⟩
theorem KT.put {H:Hp}{kvs:List (List Key×V)}{xs:List (List Key×Addr×Value)}(r:KT H kvs xs)(k:List Key){b:Addr}{y:V}{u:Value}(hb:H b=some (.tup (k.map kV)))(ry:RelV y u) :
  KT H (putK kvs k y) (storedH xs k b u):=by
 have e:(kvs.any λkv=>decide (kv.1=k))=(atKey xs k).isSome:=by
  rw[zjI,(r.val k).zfn,Option.isSome_map]
 unfold putK storedH;rw[e];by_cases q:(atKey xs k).isSome=true
 ·rw[if_pos q,if_pos q];exact r.repl k ry
 ·rw[if_neg q,if_neg q];exact Paired.snoc r ⟨rfl,hb,ry⟩
theorem KT.keeps {H H':Hp}{kvs:List (List Key×V)}{xs:List (List Key×Addr×Value)}(r:KT H kvs xs)(ht:∀b ys,H b=some (.tup ys)->H' b=some (.tup ys)):KT H' kvs xs:=
 Paired.mapP r λ_ _ z=>⟨z.1,ht _ _ z.2.1,z.2.2⟩
section
variable {P:Program}{w:World}{H:Hp}{h:Heap}{a:Addr}
theorem zsc {u:HO}(ok:HOk P w H h)(e:Rd H a u):zbi P w H h a u:=e.ok ok
theorem zfZ {kvs:List (Key×V)}(ok:HOk P w H h)(e:Rd H a (.dK kvs)):kvs.length<=sizeLine/\(a == sysModules)=false/\∃vs,KV kvs vs/\h.DictOf (zaD P w) a vs:=
 show zbi P w H h a (.dK kvs) from zsc ok e
theorem ztT {kvs:List (Key×V)}(ok:HOk P w H h)(e:H a=some (.dK kvs)):kvs.length<=sizeLine/\(a == sysModules)=false/\∃vs,KV kvs vs/\h.DictOf (zaD P w) a vs:=zfZ ok (.inl e)
theorem zhA {ks:List Key}(ok:HOk P w H h)(e:H a=some (.tup (ks.map kV))):(tupleKind (zaD P w)).is h ks a:=by
 obtain⟨_,its,r,o,h1,h2,⟨n,h3⟩,_⟩:=(show zbi P w H h a (.tup (ks.map kV)) from ok a _ e);exact⟨o,its.toArray,n,h1,h2,h3,by simpa using zhz r⟩
theorem zlO {kvs:List (List Key×V)}(ok:HOk P w H h)(e:Rd H a (.dT kvs)):kvs.length<=sizeLine/\(a == sysModules)=false/\
  ∃xs,KT H kvs xs/\h.DictOfH (tupleKind (zaD P w)) a xs:=by
 obtain⟨z,y,xs,r,o,es,ep,h1,h2,h3,h4,h5⟩:=(show zbi P w H h a (.dT kvs) from zsc ok e);refine⟨z,y,xs,r,o,es,ep,h1,h2,h3,h4,λx hx=>?_,h5⟩;have all:∀ {l:List (List Key×V)} {m:List (List Key×Addr×Value)},KT H l m->∀x∈m,(tupleKind (zaD P w)).is h x.1 x.2.1:=by
  intro l m q;induction q with
  | nil=>intro x hx;exact nomatch hx
  | @cons p q ps qs hq t ih=>
   intro x hx;rcases Xx.mp hx with e | hx
   ·subst e;exact zhA ok (by rw[<- hq.1];exact hq.2.1)
   ·exact ih x hx
 exact all r x hx
theorem zsd {kvs:List (List Key×V)}(ok:HOk P w H h)(e:H a=some (.dT kvs)):kvs.length<=sizeLine/\(a == sysModules)=false/\
  ∃xs,KT H kvs xs/\h.DictOfH (tupleKind (zaD P w)) a xs:=zlO ok (.inl e)
end
noncomputable def DGet (H:Hp)(a:Addr)(y:V)(r:Option V):Prop:=
 (∃kvs k,Rd H a (.dK kvs)/\y=kV k/\r=valV kvs k)\/∃kvs k b,Rd H a (.dT kvs)/\y=.ref b/\H b=some (.tup (k.map kV))/\r=valV kvs k
noncomputable def DPut (H:Hp)(a:Addr)(y v:V)(H':Hp):Prop:=
 (∃kvs k,H a=some (.dK kvs)/\y=kV k/\kvs.length<sizeLine/\H'=upd H a (.dK (putK kvs k v)))\/
 ∃kvs k b,H a=some (.dT kvs)/\y=.ref b/\H b=some (.tup (k.map kV))/\kvs.length<sizeLine/\H'=upd H a (.dT (putK kvs k v))
theorem DPut.k {H:Hp}{a:Addr}{kvs:List (Key×V)}{k:Key}{v:V}(e:H a=some (.dK kvs))(hl:kvs.length<sizeLine):DPut H a (kV k) v (upd H a (.dK (putK kvs k v))):=.inl ⟨kvs,k,e,rfl,hl,rfl⟩
section
variable {X:Cx}{pins:List (Addr×Obj)}{σ:St}{H:Hp}{s:Shared}{a:Addr}{y v:V}{u r:Value}{o:Option V}{A:Around}{E:Value->Shared->Prop}
theorem Inv.big (I:Inv X pins σ H s):sysModules<s.heap.objs.size:=by
 have h:mainGlobals<s.heap.objs.size:=(I.mod.glob.keeps I.bk).lt;exact Nat.lt_trans (by decide) h
theorem d_in {Q:Value->Shared->Prop}(hu:A.units+1<cLine)(I:Inv X pins σ H s)(g:DGet H a y o)(ry:RelV y u)(h:∀s',Inv X pins σ H s'->Q (.bool o.isSome) s') :
  wpAny (model X.prog X.w) A (compareOp .In u (.ref a)) Q E s:=by
 rcases g with ⟨kvs,k,e,ey,l⟩ | ⟨kvs,k,b,e,ey,eb,l⟩
 ·subst ey;obtain⟨z,hd,vs,rel,dd⟩:=zfZ I.hok e;refine wpAny_in_of (zof ry) hd dd.mapOf ?_;rw[<- (rel.val k).zfn,<- l];exact h _ (I.tok _)
 ·subst ey;cases (show u=Value.ref b from ry);obtain⟨z,hd,xs,rel,dd⟩:=zlO I.hok e;refine wpAny_in_heap (tupleKind_room_in1 hu) (zhA I.hok eb) hd dd ?_;have q:=(rel.val k).zfn;rw[Option.isSome_map]at q;rw[<- q,<- l];exact h _ (I.tok _)
theorem ziV {h':Heap}{t':Nat}{ob:HO}(I:Inv X pins σ H s)(mu:Mut (H a))(hs:Yh a s.heap h')(he:∃q,h'.get? a=some q)(new:zbi X.prog X.w (upd H a ob) h' a ob) :
  Inv X pins σ (upd H a ob) { s with heap:=h',toks:=t' }:=
 I.write (x:=a) (e:=a) mu (.inl rfl) (λb q hb z=>(hs.2 b hb).trans z) he new
theorem zse {P:Program}{w:World}{H':Hp}{h':Heap}{kvs:List (Key×V)}{vs:List (Key×Value)}(z:kvs.length<=sizeLine)(hd:(a == sysModules)=false)(rel:KV kvs vs)(dd:h'.DictOf (zaD P w) a vs) :
  zbi P w H' h' a (.dK kvs):=⟨z,hd,vs,rel,dd⟩
theorem zlP {H':Hp}{Q:Unit->Shared->Prop}(hu:A.units+1<cLine)(I:Inv X pins σ H s)(g:DPut H a y v H')(ry:RelV y u)(rv:RelV v r)(h:∀s',Inv X pins σ H' s'->Q () s') :
  wpAny (model X.prog X.w) A (setItem (.ref a) u r) Q E s:=by
 rcases g with ⟨kvs,k,e,ey,l,eH⟩ | ⟨kvs,k,b,e,ey,eb,l,eH⟩
 ·subst ey eH;obtain⟨z,hd,vs,rel,dd⟩:=ztT I.hok e;have hz:vs.length<=sizeLine:=by rw[<- rel.length];exact z
  have hl:(putK kvs k v).length<=sizeLine:=by have:=zds kvs k v;lia
  refine wpAny_setItem_pairs (hsz:=hz) (zof ry) dd λh' dd' hs=>h _ ?_;have he:∃q,h'.get? a=some q:=let ⟨q,_,_,hq,_⟩:=dd';⟨q,hq⟩;exact ziV I (by rw[e];exact True.intro) hs he (zse hl hd (rel.put k rv) dd')
 ·subst ey eH;cases (show u=Value.ref b from ry);obtain⟨z,hd,xs,rel,dd⟩:=zsd I.hok e;have hz:xs.length<=sizeLine:=by rw[<- Paired.length rel];exact z
  have hl:(putK kvs k v).length<=sizeLine:=by have:=zds kvs k v;lia
  refine wpAny_setItem_heap (hsz:=hz) (tupleKind_room_in1 hu) (zhA I.hok eb) dd λh' dd' hs=>h _ ?_;obtain⟨q,es,ep,hq,h2,h3,h4,_,h5⟩:=dd';refine ziV I (by rw[e];exact True.intro) hs ⟨q,hq⟩ ⟨hl,hd,_,(rel.put k eb rv).keeps λc ys ec=>?_,q,es,ep,hq,h2,h3,h4,h5⟩;rw[zaf (zrv ec e (λz=>nomatch z))];exact ec
end
section
variable {X:Cx}{pins:List (Addr×Obj)}{σ:St}{H:Hp}{s:Shared}{a:Addr}{kvs:List (Key×V)}{k:Key}{u:Value}{A:Around}{E:Value->Shared->Prop}
theorem ztU {Q:Value->Shared->Prop}(I:Inv X pins σ H s)(e:Rd H a (.dK kvs))(h:∀t s',Inv X pins σ H s'->Q (.int kvs.length t) s'):wpAny (model X.prog X.w) A (call (.builtin "len") [.ref a]) Q E s:=by
 obtain⟨z,hd,vs,rel,dd⟩:=zfZ I.hok e;refine call_len_dict hd dd (by rw[<- rel.length];rw[sizeLine_eq]at z;lia) ?_;rw[<- rel.length];exact h _ _ (I.tok _)
end
noncomputable def tDIn (ty td:TE):TE:=λσ H Q=>ty σ H λy H1=>td σ H1 λx H2=>∃a o,x=.ref a/\DGet H2 a y o/\Q (.bl o.isSome) H2
noncomputable def zsf (td ty tv:TE):TS:=λD σ H=>tv σ H λv H1=>td σ H1 λx H2=>ty σ H2 λy H3=>∃a H4,x=.ref a/\DPut H3 a y v H4/\D.nx σ H4
section
variable {X:Cx}{o i e value:Expr}{pos pos' tpos:Pos}{td ty tv:TE}
theorem zsg (hu:X.A.units+1<cLine)(hi:PE X i ty)(ho:PE X o td):PC X .In i o (tDIn ty td):=by
 intro pins s σ H Q I h;refine thn (hi pins s σ H _ I h) λiv s1 ⟨y,H1,I1,ry,q1⟩=>thn (ho pins s1 σ H1 _ I1 q1) λu s2 q41q=>?_;obtain⟨x,H2,I2,rx,a,ov,ex,g,q2⟩:=q41q;subst ex;obtain rfl:u=Value.ref a:=rx;exact d_in hu I2 g ry λs3 I3=>⟨.bl ov.isSome,H2,I3,rfl,q2⟩
theorem zlQ (hu:X.A.units+1<cLine)(ho:PE X o td)(hi:PE X i ty)(hv:PE X value tv)(hs:swapsWith value (some (.Subscript o i pos')) pos.line X.env=pure false) :
  PS X (.Assign [.Subscript o i pos'] value pos) (zsf td ty tv):=by
 intro pins s σ H D I h;refine wpAny_Assign_Subscript (thn (hv pins s σ H _ I h) λr s1 ⟨v,H1,I1,rv,q1⟩=>thn (ho pins s1 σ H1 _ I1 q1) λu s2 ⟨x,H2,I2,rx,q2⟩=>thn (hi pins s2 σ H2 _ I2 q2) λiv s3 q44q=>?_) hs;obtain⟨y,H3,I3,ry,a,H4,ex,g,q3⟩:=q44q;subst ex;obtain rfl:u=Value.ref a:=rx;exact zlP hu I3 g ry rv λs4 I4=>⟨σ,H4,I4,q3⟩
end
theorem zog {P:Program}{w:World}{H:Hp}(h:Heap)(hb:sysModules<h.objs.size):zbi P w H (h.push { cls:=.type "dict",data:=.dict #[] }) h.objs.size (.dK []):=
 ⟨XU _,beq_eq_false_iff_ne.mpr (Ne.symm (XJ hb)),[],.nil,Heap.DictOf.new h⟩
theorem zoh {P:Program}{w:World}{H:Hp}(h:Heap)(hb:sysModules<h.objs.size):zbi P w H (h.push { cls:=.type "dict",data:=.dict #[] }) h.objs.size (.dT []):=
 ⟨XU _,beq_eq_false_iff_ne.mpr (Ne.symm (XJ hb)),[],.nil,_,#[],0,XC _ rfl,⟨rfl,rfl,rfl⟩,rfl,rfl,List.nodup_nil⟩
noncomputable def zsh:TE:=λ_ H Q=>∀p,H p=none->Q (.ref p) (upd H p (.dK []))
noncomputable def zsi:TE:=λ_ H Q=>∀p,H p=none->Q (.ref p) (upd H p (.dT []))
section
variable {X:Cx}{pos:Pos}
theorem zjJ:PE X (.Dict [] [] pos) zsh:=λpins s σ H Q I h=>
 wpAny_Dict_empty ⟨.ref s.heap.objs.size,_,I.laid (a:=s.heap.objs.size) (o:=.dK []) (t':=s.toks) (λ_ _ q=>Xh _ q) (Xf _) (zog s.heap I.big),rfl,h _ (I.hok.fresh (Xf _))⟩
theorem zoi:PE X (.Dict [] [] pos) zsi:=λpins s σ H Q I h=>
 wpAny_Dict_empty ⟨.ref s.heap.objs.size,_,I.laid (a:=s.heap.objs.size) (o:=.dT []) (t':=s.toks) (λ_ _ q=>Xh _ q) (Xf _) (zoh s.heap I.big),rfl,h _ (I.hok.fresh (Xf _))⟩
end
structure M1 (X:Cx)(o:Expr)(m:Str)(apos:Pos)(e:Expr)(cpos:Pos):Prop where
 base:attributeBase o m X.env (eval o X.env)=eval o X.env
 few:((backTo cpos (starEach [e] X.env)).all (λx=>!x.1)&&(backToKw cpos (keywordEach [] X.env)).all (λx=>x.1.isSome)
  && decide (([e]:List Expr).length+([]:List Keyword).length+(if ([]:List Keyword).isEmpty then 0 else 1)<30))=true
 line:(apos.endLine == cpos.line)=true
 trees:backTo cpos (starEach [e] X.env)=[(false,eval e X.env)]
structure M2 (X:Cx)(o:Expr)(m:Str)(apos:Pos)(e f:Expr)(cpos:Pos):Prop where
 base:attributeBase o m X.env (eval o X.env)=eval o X.env
 few:((backTo cpos (starEach [e,f] X.env)).all (λx=>!x.1)&&(backToKw cpos (keywordEach [] X.env)).all (λx=>x.1.isSome)
  && decide (([e,f]:List Expr).length+([]:List Keyword).length+(if ([]:List Keyword).isEmpty then 0 else 1)<30))=true
 line:(apos.endLine == cpos.line)=true
 trees:backTo cpos (starEach [e,f] X.env)=[(false,eval e X.env),(false,eval f X.env)]
noncomputable def IsD (H:Hp)(a:Addr):Prop:=(∃kvs,Rd H a (.dK kvs))\/∃kvs,Rd H a (.dT kvs)
theorem zpq {X:Cx}{pins:List (Addr×Obj)}{σ:St}{H:Hp}{s:Shared}{a:Addr}(I:Inv X pins σ H s)(d:IsD H a) :
  s.TypeIs (.ref a) "dict"/\(∀b,Value.ref a=.ref b->∃ob,s.heap.get? b=some ob/\ob.dict=none)/\(a == sysModules)=false:=by
 rcases d with ⟨kvs,e⟩ | ⟨kvs,e⟩
 ·obtain⟨_,hd,vs,_,dd⟩:=zfZ I.hok e;refine⟨dd.typeIs,λb q=>?_,hd⟩;cases q;obtain⟨ob,_,_,h1,h2,_⟩:=dd;exact⟨ob,h1,h2.2.1⟩
 ·obtain⟨_,hd,xs,_,dd⟩:=zlO I.hok e;refine⟨dd.typeIs,λb q=>?_,hd⟩;cases q;obtain⟨ob,_,_,h1,h2,_⟩:=dd;exact⟨ob,h1,h2.2.1⟩
section
variable {X:Cx}{pins:List (Addr×Obj)}{σ:St}{H:Hp}{s:Shared}{a:Addr}{y d:V}{u r:Value}{o:Option V}{A:Around}{E:Value->Shared->Prop}
theorem zsj {Q:Value->Shared->Prop}(hu:A.units+1<cLine)(I:Inv X pins σ H s)(g:DGet H a y o)(ry:RelV y u)(rd:RelV d r)(h:∀w' s',Inv X pins σ H s'->RelV (o.getD d) w'->Q w' s') :
  wpAny (model X.prog X.w) A (call (.builtin "dict.get") [.ref a,u,r]) Q E s:=by
 rcases g with ⟨kvs,k,e,ey,l⟩ | ⟨kvs,k,b,e,ey,eb,l⟩
 ·subst ey;obtain⟨z,hd,vs,rel,dd⟩:=zfZ I.hok e;refine call_meetsIn PySem.F.slot_dict_get dd.typeIs PySem.F.entry_dict_get (PySem.F.args_dict_get_3 _ _ _) (meets_dict_get_default (zaD X.prog X.w) a (zof ry) hd r) ⟨_,dd.mapOf,h _ _ (I.tok _) ?_⟩;rw[l];exact(rel.val k).getD rd
 ·subst ey;cases (show u=Value.ref b from ry);obtain⟨z,hd,xs,rel,dd⟩:=zlO I.hok e;refine call_meetsIn PySem.F.slot_dict_get dd.typeIs PySem.F.entry_dict_get (PySem.F.args_dict_get_3 _ _ _) (meetsH_dict_get_default (tupleKind (zaD X.prog X.w)) a b hd r) ⟨tupleKind_room_in1 hu,k,xs,zhA I.hok eb,dd,h _ _ (I.tok _) ?_⟩;rw[l];exact(rel.val k).getD rd
end
noncomputable def zsk (td ty tx:TE):TE:=λσ H Q=>td σ H λx H1=>∃a,x=.ref a/\IsD H1 a/\ty σ H1 λy H2=>tx σ H2 λz H3=>∃o,DGet H3 a y o/\Q (o.getD z) H3
section
variable {X:Cx}{o e f:Expr}{apos cpos:Pos}{td ty tx:TE}
theorem zoj (hu:X.A.units+1<cLine)(ho:PE X o td)(he:PE X e ty)(hf:PE X f tx)(m:M2 X o "get" apos e f cpos):PE X (.Call (.Attribute o "get" apos) [e,f] [] cpos) (zsk td ty tx):=by
 intro pins s σ H Q I h;refine wpAny_Call_method m.base m.few m.line PySem.F.plainAttrs_dict PySem.F.slot_dict_get PySem.F.type_dict_get (thn (ho pins s σ H _ I h) λu s1 q45q=>?_);obtain⟨x,H1,I1,rx,a,ex,d,q1⟩:=q45q;subst ex;obtain rfl:u=Value.ref a:=rx;obtain⟨t1,t2,_⟩:=zpq I1 d;refine⟨t1,t2,?_⟩;rw[m.trees];refine Calls.callWith_builtin rfl (Calls.evalArgs_plain (Calls.spliced_cons (thn (he pins s1 σ H1 _ I1 q1) λiv s2 ⟨y,H2,I2,ry,q2⟩=>
  Calls.spliced_cons (thn (hf pins s2 σ H2 _ I2 q2) λfv s3 ⟨z,H3,I3,rz,ov,g,q3⟩=>Calls.spliced_nil ?_))))
 exact zsj hu I3 g ry rz λw' s4 I4 rw'=>⟨_,H3,I4,rw',q3⟩
end
end _L
namespace _A
open PySem PySem.W PySem.Calls PyProof.Rows
theorem zfo {P:Params}{h:Heap}:∀(ns:List Int)(vs:List Value),WellAll P h vs (ns.map WData.int)->IntsAre vs ns:=by
 intro ns;induction ns with
 | nil=>
  intro vs w;rw[List.map_nil]at w;cases w;exact .nil
 | cons n ns ih=>
  intro vs w;rw[Xy]at w;cases w with
  | cons a b=>
   cases a;exact .cons _ _ (ih _ b)
theorem zlR {l:OpenLaw}{n:Nat}(hn:l.most=some n){P:Params}{h:Heap}{args:List WData}{vals:List Value}
  (hpre:l.row.toRowW.claim.pre args=true) (hwl:WellAll P h vals args) :
  ∃a vs ns,vals=[Value.ref a]/\args=[WData.list (ns.map WData.int)]/\h.get? a=some { cls:=.type "list",data:=.seq vs.toArray }/\IntsAre vs ns/\ns.length<=n:=by
 have hsh:WShape.hasAll [] args [.list .int]=true:=(pre_splitW hpre).1;have hc:l.pre.holds [] { args:=args }=true:=(pre_splitW hpre).2;obtain⟨d,r,rfl,h1,h2⟩:=hasAllW_cons hsh;obtain rfl:=hasAllW_nil h2;obtain⟨xs,rfl,h3⟩:=hasW_list h1;obtain⟨ns,rfl⟩:=items_int h3;have hlen:ns.length<=n:=by
  unfold OpenLaw.pre at hc;have h4:(WTm.not (.lt (.lit (.int (n:Int))) (.len (.arg 0)))).holds [] { args:=[.list (ns.map .int)] }=true:=by
   have h4:=(holds_andW hc).1;rw[hn]at h4;exact h4
  have h5:=condW_of h4 (w_not (w_lt w_lit (w_len_list (w_arg rfl))));rw[Xc]at h5;refine Nat.le_of_not_lt λq=>?_;have q':(n:Int)<((ns.length:Nat):Int):=by omega
  first
   | (rw[decide_eq_true q']at h5;exact absurd h5 (by decide))
   | (simp at h5;lia)
 cases hwl with
 | cons w1 w2=>
  cases w2;cases w1 with
  | list ho hall=>exact⟨_,_,ns,rfl,rfl,ho,zfo ns _ hall,hlen⟩
theorem zlS (l:OpenLaw)(args:List WData):l.row.toRowW.claim.post args (.bool true) args=true:=
 postW_of (r:=l.row.toRowW) (X:=(true == true))
  (show WShape.has [] (.bool true) .bool=true by first | rfl | decide | simp[WShape.has,WShape.arms,WShape.armsAll])
  (show(WTm.eq .res (.lit (.bool true))).value [] { args:=args,res:=some (.bool true),after:=args }=some (.bool (true == true)) from w_eq_bool (w_res rfl) w_lit) rfl
theorem ziW {l:OpenLaw}{n:Nat}{q:Program}{loose:List Str}{XP:(Str->Option Value)->Heap->Prop}{YP:World->Heap->Prop}{d:DefRec}
  (hn:l.most=some n) (hdf:d.params.defaults=[])
  (call:∀(w:World) (s₀ s₁:Shared) (mg mb:Str->Option Value) (fa:Addr) (o:Obj) (pm cd doc:Value) (a:Addr) (vs:List Value) (ns:List Int),
   Ground q loose [] XP w s₀ mg mb s₁.heap->YP w s₁.heap->
   s₁.heap.get? fa=some o->o.data=.func (docDef d.name d.params d.body d.scope pm cd doc)->s₁.heap.CodeRec cd d.name->mg d.name=some (.ref fa)->
   s₁.heap.get? a=some { cls:=.type "list",data:=.seq vs.toArray }->IntsAre vs ns->ns.length<=n->s₁.gens = #[]->
   codeAny (model l.prog w) callerA (.call (.ref fa) ⟨[.ref a],[]⟩) (λr s'=>r=.ok (.ret (.bool true))/\OldK s₁.heap s'.heap/\s'.os=s₁.os/\AllBare s'.gens) s₁) :
  WalkO q loose XP YP l.row.toRowW d [] (λf vs=>PySem.call f vs):=by
 intro w s₀ s₁ mg mb G Y fa o pm cd doc dV kV ho hd hcd hD hmg hg args vals as hpre hlay hrd hwl hlo;obtain rfl:dV=.none:=Dflts.none hD hdf;obtain rfl:kV=.none:=Dflts.noKw hD;obtain⟨a,vs,ns,rfl,rfl,hobj,hints,hlen⟩:=zlR hn hpre hwl;refine enter_call (codeAny_mono (call w s₀ s₁ mg mb fa o pm cd doc a vs ns G Y ho (fd_plain hd) hcd hmg hobj hints hlen hg) λr s' hq=>?_);obtain⟨rfl,h2,h3,h4⟩:=hq;exact⟨.inl ⟨.bool true,.bool true,[],rfl,λ_=>rfl,.bool true,zlS l _,λ_=>⟨List.Pairwise.nil,λ_ hm=>(nomatch hm)⟩⟩,h2,h3,h4⟩
end _A
namespace _L
open PySem PySem.Spec PyProof.Rows
theorem zhB:∀ {vs:List Value}{ns:List Int},IntsAre vs ns->Vals (ns.map V.int) vs
 | _,_,.nil=>.nil
 | _,_,.cons n t h=>.cons ⟨t,rfl⟩ (zhB h)
noncomputable def Only (H:Hp):Prop:=∀b,H b=none\/∃o xs,H b=some (.frz o (.lst xs))
noncomputable abbrev KOf {K:Xb}{h:Heap}(_:K.In h):Xb:=K
noncomputable def zat (s:Stmt):Arguments:=match s with
 | .FunctionDef _ a _ _ _ _ _ _ _ _=>a
 | _=>{ posonlyargs:=[],args:=[],vararg:=none,kwonlyargs:=[],kw_defaults:=[],kwarg:=none,defaults:=[] }
noncomputable def zap (s:Stmt):List Stmt:=match s with
 | .FunctionDef _ _ b _ _ _ _ _ _ _=>b
 | _=>[]
noncomputable def zac (s:Stmt):Scope:=match s with
 | .FunctionDef _ _ _ _ _ _ sc _ _ _=>sc
 | _=>{ kind:=.function,names:=[],isGenerator:=false,isCoroutine:=false }
noncomputable abbrev CX0:CXT:=λ_ _ _ _ _ _=>False
noncomputable abbrev E0:XK:=λ_ _ _=>False
theorem ztV {X:Cx}:zlK CX0 X E0:=λ_ _ _ _ _ _ _ h=>h.elim
structure Fun (K:Xb)(x qual:Str)(st:Stmt)(f:Addr)(fd:FuncData):Prop where
 ex:∃(oc:Value) (od:Option Addr) (kV doc pm:Value) (an:Option Addr) (cdv ct:Value) (osl:Array (Option Value)),
  fd=XY x qual (zat st) (zap st) (zac st) .none kV doc pm an cdv ct/\K.lookup f=some ⟨oc,od,.func fd,osl⟩/\XW K cdv qual=true
 kp:XS K (.ref f)=true
section
variable {P:Program}{w:World}{K:Xb}{mg:Str->Option Value}{base:Heap}
theorem Fun.ok {x qual:Str}{st:Stmt}{f:Addr}{fd:FuncData}{N ps:List Str}{k:Nat}{sp:Sp}(F:Fun K x qual st f fd)(S:zaw N ps (zac st))(len:∀vs H Q E,sp vs H Q E->vs.length=ps.length)
  (hbody:∀(cdv:Value) (A:Around) (outer:List Env) (s:Shared) (H:Hp) (vs:List V) (Q:VK) (E:XK),Room k (A.deeper (envOfC qual (zac st) s.heap.objs.size f cdv))->sp vs H Q E->
   ∃t,PSs (cxOf CX0 P w K mg base N qual (zac st) f cdv A outer s H E).nox (zap st) t/\t { nx:=λ_ H'=>Q .non H',rt:=Q } (start N vs) H):FnOk P w K mg base CX0 (k+1) f fd ps sp:=by
 obtain⟨oc,od,kV,doc,pm,an,cdv,ct,osl,rfl,lk,hcd⟩:=F.ex;refine ztQ lk hcd S len λA outer s H vs Q E hr hsp=>?_;obtain⟨t,h,q⟩:=hbody cdv A outer s H vs Q E hr hsp;exact⟨t,h.nox,q⟩
theorem Fun.binds {x qual:Str}{st:Stmt}{f:Addr}{fd:FuncData}{ps:List Str}(F:Fun K x qual st f fd)
  (h:∀(kV doc pm:Value) (an:Option Addr) (cdv ct:Value) (us:List Value),us.length=ps.length->bindArgs (XY x qual (zat st) (zap st) (zac st) .none kV doc pm an cdv ct) ⟨us,[]⟩=pure (ps.zip us)):Binds K fd ps []:=by
 obtain⟨oc,od,kV,doc,pm,an,cdv,ct,osl,rfl,lk,hcd⟩:=F.ex;exact .all (h kV doc pm an cdv ct)
theorem zbd {x qual:Str}{st:Stmt}{f:Addr}{oc:Value}{od an:Option Addr}{osl:Array (Option Value)}{kV doc pm cdv ct:Value}(l:K.lookup f=some ⟨oc,od,.func (XY x qual (zat st) (zap st) (zac st) .none kV doc pm an cdv ct),osl⟩)
  (c:XW K cdv qual=true) (k:XS K (.ref f)=true):Fun K x qual st f (XY x qual (zat st) (zap st) (zac st) .none kV doc pm an cdv ct):=⟨⟨oc,od,kV,doc,pm,an,cdv,ct,osl,rfl,l,c⟩,k⟩
end
theorem iteF {A B:Prop}(h:B):if false=true then A else B:=by
 rw[if_neg Xw];exact h
theorem iteT {A B:Prop}(h:A):if true=true then A else B:=by
 rw[if_pos rfl];exact h
theorem ite2 {c A B:Prop} [Decidable c] (h1:c->A)(h2:¬ c->B):if c then A else B:=by
 by_cases h:c
 ·rw[if_pos h];exact h1 h
 ·rw[if_neg h];exact h2 h
noncomputable def Same (H H':Hp):Prop:=∀b o,H b=some o->H' b=some o
theorem Same.refl (H:Hp):Same H H:=λ_ _ h=>h
theorem Same.trans {H H1 H2:Hp}(a:Same H H1)(b:Same H1 H2):Same H H2:=λc o h=>b c o (a c o h)
theorem Same.free {H H':Hp}(e:Same H H'){l:Addr}(h:H' l=Option.none):H l=Option.none:=by
 cases q:H l with
 | none=>rfl
 | some o=>
  rw[e l o q]at h;cases h
theorem Same.seq {K:Xb}{H H':Hp}{a:Addr}{xs:List V}(e:Same H H')(h:SqL K H a xs):SqL K H' a xs:=by
 rcases h with (h | ⟨o,h⟩) | h
 ·exact .inl (.inl (e _ _ h))
 ·exact .inl (.inr ⟨o,e _ _ h⟩)
 ·exact .inr h
noncomputable def zbk (env:Env):List (Str×NameKind)->List (Str×Addr)->List (Str×Addr)
 | [],acc=>acc
 | (n,k)::r,acc=>zbk env r (if k == .free then(n,(env.cells.lookup n).getD 0)::acc else acc)
theorem zjK {env:Env}(f:Str×NameKind->List (Str×Addr)->Sem (ForInStep (List (Str×Addr))))
  (hf:∀n k cs,f (n,k) cs=if k == .free then(do let a <- cellOf env n;pure (.yield ((n,a)::cs))) else pure (.yield cs)) :
  ∀(l:List (Str×NameKind)) (acc:List (Str×Addr)),(∀n,(n,NameKind.free)∈l->∃c,env.cells.lookup n=some c)->forIn l acc f=pure (zbk env l acc)
 | [],acc,_=>by rw[List.forIn_nil];rfl
 | (n,k)::r,acc,h=>by
  have ih:=zjK f hf r;have hr:∀m,(m,NameKind.free)∈r->∃c,env.cells.lookup m=some c:=λm hm=>h m (Xg _ hm);rw[List.forIn_cons,hf];unfold zbk;by_cases hk:(k == NameKind.free)=true
  ·have hk':k=NameKind.free:=by simpa using hk
   subst hk';obtain⟨c,hc⟩:=h n Xj;have e:cellOf env n=pure c:=by unfold cellOf;rw[hc]
   rw[if_pos hk,if_pos hk,e,hc];simp only[pure_bind,Option.getD_some];exact ih _ hr
  ·rw[if_neg hk,if_neg hk];simp only[pure_bind];exact ih _ hr
theorem zlT {scope:Scope}{env:Env}(h:∀n,(n,NameKind.free)∈scope.names->∃c,env.cells.lookup n=some c):closureFor scope env=pure (zbk env scope.names []):=by
 simp only[closureFor];rw[zjK (env:=env) _ (λn k cs=>by cases hk:(k == NameKind.free)<;>simp[hk]) scope.names [] h];simp
theorem zgh {env:Env}:∀(l:List (Str×NameKind))(acc:List (Str×Addr)),(∀n,(n,NameKind.free)∈l->∃c,env.cells.lookup n=some c)->(∀n c,(n,c)∈acc->env.cells.lookup n=some c)->
  ∀n c,(n,c)∈zbk env l acc->env.cells.lookup n=some c
 | [],_,_,ha,n,c,hm=>ha n c hm
 | (x,k)::r,acc,h,ha,n,c,hm=>by
  have hr:∀m,(m,NameKind.free)∈r->∃c,env.cells.lookup m=some c:=λm hm=>h m (Xg _ hm);unfold zbk at hm;refine zgh r _ hr (λm d hd=>?_) n c hm;by_cases hk:(k == NameKind.free)=true
  ·have hk':k=NameKind.free:=by simpa using hk
   subst hk';rw[if_pos hk]at hd;rcases Xx.mp hd with e | hd
   ·obtain⟨c',hc'⟩:=h x Xj;cases e;rw[hc'];rfl
   ·exact ha m d hd
  ·rw[if_neg hk]at hd;exact ha m d hd
theorem zen {env:Env}:∀(l:List (Str×NameKind))(acc:List (Str×Addr))(n:Str),((n,NameKind.free)∈l\/(acc.lookup n).isSome=true)->((zbk env l acc).lookup n).isSome=true
 | [],_,_,h=>h.elim (λz=>nomatch z) id
 | (x,k)::r,acc,n,h=>by
  unfold zbk;refine zen r _ n ?_;have up:(acc.lookup n).isSome=true->((if (k == NameKind.free)=true then(x,(env.cells.lookup x).getD 0)::acc else acc).lookup n).isSome=true:=λz=>by
   by_cases hk:(k == NameKind.free)=true
   ·rw[if_pos hk,List.lookup_cons];cases n == x<;>simp[z]
   ·rw[if_neg hk];exact z
  rcases h with h | h
  ·rcases Xx.mp h with e | h
   ·right;cases e;rw[if_pos (by rfl),List.lookup_cons];simp
   ·exact .inl h
  ·exact .inr (up h)
theorem zbo:∀(names:List (Str×NameKind))(n:Nat)(acc:List (Str×Addr)),cellsFrom n names acc=cellsFrom n names []++acc
 | [],_,_=>rfl
 | (x,k)::r,n,acc=>by
  unfold cellsFrom;by_cases hk:(k == NameKind.cell)=true
  ·rw[if_pos hk,if_pos hk,zbo r (n+1) ((x,n)::acc),zbo r (n+1) [(x,n)],XE];rfl
  ·rw[if_neg hk,if_neg hk];exact zbo r n acc
theorem zcq:∀(names:List (Str×NameKind))(n:Nat)(acc:List (Str×Addr))(x:Str)(c:Addr),(x,c)∈cellsFrom n names acc->(x,c)∈acc\/(x,NameKind.cell)∈names
 | [],_,_,_,_,h=>.inl h
 | (y,k)::r,n,acc,x,c,h=>by
  unfold cellsFrom at h;by_cases hk:(k == NameKind.cell)=true
  ·have hk':k=NameKind.cell:=by simpa using hk
   subst hk';rw[if_pos hk]at h;rcases zcq r _ _ x c h with h | h
   ·rcases Xx.mp h with e | h
    ·cases e;exact .inr Xj
    ·exact .inl h
   ·exact .inr (Xg _ h)
  ·rw[if_neg hk]at h;rcases zcq r _ _ x c h with h | h
   ·exact .inl h
   ·exact .inr (Xg _ h)
noncomputable def zdn (sc sup:Scope):Scope:=
 {sc with names:=sc.names.map λ(n,k)=>if (k == .free&&sup.kind == .function&&sup.names.lookup n == some .cell) then(n,.cell) else(n,k) }
noncomputable def cpOk (sup:Scope)(XN N:List Str)(k:Nat)(js:List Nat)(sc:Scope):Bool:=
 sc.kind == .function&&decide N.Nodup&&decide (sc.names.map (·.1)).Nodup&&(sc.names.all λp=>p.2 != .free||(sup.names.lookup p.1 == some .cell||sup.names.lookup p.1 == some .free)) &&
  N.length == k+js.length&&((N.drop k).zip js).all λp=>sc.names.lookup p.1 == some .free&&XN[p.2]? == some p.1
structure zcx (X:Cx)(N:List Str)(k:Nat)(js:List Nat)(sc:Scope):Prop where
 kind:sc.kind=.function
 nd:N.Nodup
 nm:(sc.names.map (·.1)).Nodup
 fr:∀n,(n,NameKind.free)∈sc.names->X.env.kindOf n=some .cell\/X.env.kindOf n=some .free
 len:N.length=k+js.length
 at':∀(i:Nat) (x:Str),N[k+i]? = some x->sc.names.lookup x=some .free/\∃j,js[i]? = some j/\X.N[j]? = some x
theorem zcm {X:Cx}{sup:Scope}{XN N:List Str}{k:Nat}{js:List Nat}{sc:Scope}(hs:X.env.scope=sup)(hn:X.N=XN)(h:cpOk sup XN N k js sc=true):zcx X N k js sc:=by
 subst hs hn;unfold cpOk at h;simp only[YF,decide_eq_true_eq,beq_iff_eq,XV]at h;obtain⟨⟨⟨⟨⟨h1,h2⟩,h3⟩,h4⟩,h5⟩,h6⟩:=h;refine⟨h1,h2,h3,λn hn=>?_,h5,λi x hi=>?_⟩
 ·have q:=h4 _ hn;simp only[bne_self_eq_false,Bool.false_or,Bool.or_eq_true,beq_iff_eq]at q;exact q
 ·have hi':(N.drop k)[i]? = some x:=by rw[List.getElem?_drop];exact hi
  have hl:k+i<N.length:=(Xe.mp hi).1;have hj:i<js.length:=by lia
  have hm:(x,js[i])∈(N.drop k).zip js:=by
   refine List.mem_iff_getElem?.mpr ⟨i,?_⟩;rw[List.getElem?_zip_eq_some];exact⟨hi',by simp[hj]⟩
  have q:=h6 _ hm;exact⟨q.1,js[i],by simp[hj],q.2⟩
theorem zcy {α:Type}:∀ {l:List (Str×α)}{x:Str}{v:α},(l.map (·.1)).Nodup->(x,v)∈l->l.lookup x=some v
 | (y,u)::r,x,v,nd,h=>by
  rw[Xy,Yi]at nd;rw[List.lookup_cons];rcases Xx.mp h with e | h
  ·cases e;simp
  ·have ne:x≠y:=λz=>nd.1 (Xt.mpr ⟨(x,v),h,z⟩);have hb:(x == y)=false:=by simpa using ne
   rw[hb];exact zcy nd.2 h
noncomputable def zdM (k:Nat)(js:List Nat)(σ:St):St:=List.replicate k none++js.map λj=>(σ[j]?).getD none
noncomputable def cxB (X:Cx)(N:List Str)(sc:Scope)(C:Addr)(cells:List (Str×Addr))(fp:List Addr)(s:Shared)(H:Hp):Cx where
 prog:=X.prog
 w:=X.w
 K:=X.K
 mg:=X.mg
 base:=X.base
 A:=X.A
 N:=N
 s₀:=s
 H₀:=H
 env:={ scope:=zdn sc X.env.scope,locals:=C,globals:=X.env.globals,cells:=cells,qual:=X.env.qual,func:=none,code:=X.env.code,frame:=X.env.frame,builtins:=X.env.builtins }
 outer:=X.stack
 stack:=X.stack
 ex:=fp
 fn:=λx=>sc.names.lookup x == some .cell
 calm:=X.calm
 pn:=[]
 xe:=λ_ _=>False
section
variable {X:Cx}{pins:List (Addr×Obj)}{σ:St}{H:Hp}{s:Shared}
theorem zdN {sc sup:Scope}{x:Str}{k:NameKind}(h:(zdn sc sup).names.lookup x=some k):sc.names.lookup x=some k\/(sc.names.lookup x=some .free/\k=.cell):=by
 unfold zdn at h;dsimp only at h;generalize sc.names=l at h ⊢;induction l with
 | nil=>simp at h
 | cons p r ih=>
  obtain⟨n,kd⟩:=p;rw[Xy,List.lookup_cons]at h;rw[List.lookup_cons];dsimp only at h;by_cases hc:(kd == NameKind.free&&sup.kind == ScopeKind.function&&sup.names.lookup n == some NameKind.cell)=true
  ·rw[if_pos hc]at h;dsimp only at h;cases hx:x == n with
   | true=>
    rw[hx]at h;simp only[YF,beq_iff_eq]at hc;right;exact⟨by rw[hc.1.1],(Option.some.inj h).symm⟩
   | false=>rw[hx]at h;exact ih h
  ·rw[if_neg hc]at h;dsimp only at h;cases hx:x == n with
   | true=>rw[hx]at h;left;exact h
   | false=>rw[hx]at h;exact ih h
theorem zdO {sc sup:Scope}{x:Str}(h:sc.names.lookup x=some .free):(zdn sc sup).names.lookup x=some .cell\/(zdn sc sup).names.lookup x=some .free:=by
 unfold zdn;dsimp only;generalize sc.names=l at h ⊢;induction l with
 | nil=>simp at h
 | cons p r ih=>
  obtain⟨n,kd⟩:=p;rw[List.lookup_cons]at h;rw[Xy];dsimp only;by_cases hc:(kd == NameKind.free&&sup.kind == ScopeKind.function&&sup.names.lookup n == some NameKind.cell)=true
  ·rw[if_pos hc,List.lookup_cons];cases hx:x == n with
   | true=>left;rfl
   | false=>rw[hx]at h;exact ih h
  ·rw[if_neg hc,List.lookup_cons];cases hx:x == n with
   | true=>rw[hx]at h;right;exact h
   | false=>rw[hx]at h;exact ih h
theorem Inv.block {N:List Str}{k:Nat}{js:List Nat}{sc:Scope}{fp:List Addr}(I:Inv X pins σ H s)(S:zcx X N k js sc)(hf:∀b∈fp,FpOk X pins H b)(hfs:∀b∈fp,b<s.heap.objs.size) :
  Inv (cxB X N sc s.heap.objs.size (cellsFrom (s.heap.objs.size+1) sc.names (zbk X.env sc.names [])) fp s H) [] (zdM k js σ) H
   {s with heap:=pushCells (s.heap.push { cls:=.type "dict",data:=.dict #[] }) sc.names }:=by
 have hz:(s.heap.push { cls:=.type "dict",data:=.dict #[] }).objs.size=s.heap.objs.size+1:=Heap.size_push ..;have kp:∀b o,s.heap.get? b=some o->(pushCells (s.heap.push { cls:=.type "dict",data:=.dict #[] }) sc.names).get? b=some o:=λb o e=>pushCells_keeps _ _ b o (Xh _ e);have cok:=cellsFrom_ok sc.names (s.heap.push { cls:=.type "dict",data:=.dict #[] }) (s.heap.objs.size+1) [] ⟨λ_ _ hm=>(nomatch hm),List.Pairwise.nil⟩ (by rw[hz];exact Xf _);rw[hz]at cok;have frs':∀n,(n,NameKind.free)∈sc.names->∃c,X.env.cells.lookup n=some c:=λn hn=>I.ok.has n (S.fr n hn);have csub:=zgh (env:=X.env) sc.names [] frs' (λ_ _ z=>nomatch z);have cases_:∀x c,(cellsFrom (s.heap.objs.size+1) sc.names (zbk X.env sc.names [])).lookup x=some c->
   ((cellsFrom (s.heap.objs.size+1) sc.names []).lookup x=some c)\/((cellsFrom (s.heap.objs.size+1) sc.names []).lookup x=none/\(zbk X.env sc.names []).lookup x=some c):=λx c h=>by
  rw[zbo,List.lookup_append]at h;cases q:(cellsFrom (s.heap.objs.size+1) sc.names []).lookup x with
  | some d=>rw[q]at h;left;simpa using h
  | none=>rw[q]at h;right;exact⟨rfl,by simpa using h⟩
 have old:∀x c,(zbk X.env sc.names []).lookup x=some c->X.env.cells.lookup x=some c:=λx c h=>csub x c (PySem.mem_of_lookup h);have oldlt:∀x c,X.env.cells.lookup x=some c->c<s.heap.objs.size:=λx c h=>let ⟨_,q⟩:=I.cell x c h;q.lt;have ownge:∀x c,(cellsFrom (s.heap.objs.size+1) sc.names []).lookup x=some c->s.heap.objs.size+1<=c:=λx c h=>(cok.empty x c (PySem.mem_of_lookup h)).2;refine⟨⟨I.ok.mod,S.kind,I.ok.glob,I.ok.blt,Xf _,?inj,?has,?cab,I.ok.hd,I.ok.frames,.inl rfl,?exf,I.bs,Ye I.ok.bsz I.sz,?noex,?exfs,I.stack,I.zlA⟩,rfl,I.bare,Un.kept kp,?loc,?cell,I.hok.fresh (Xf _),?freeC,λp hp=>absurd (show p∈([]:List (Addr×Obj)) from hp) (by simp),I.hok.kept kp,?len⟩
 case inj=>
  intro x y c hx hy;rcases cases_ x c hx with h1 | ⟨_,h1⟩<;>rcases cases_ y c hy with h2 | ⟨_,h2⟩
  ·exact name_of_addr cok.apart (PySem.mem_of_lookup h1) (PySem.mem_of_lookup h2)
  ·exact absurd (XR (oldlt y c (old y c h2)) (Nat.le_of_succ_le (ownge x c h1))) (YJ _)
  ·exact absurd (XR (oldlt x c (old x c h1)) (Nat.le_of_succ_le (ownge y c h2))) (YJ _)
  ·exact I.ok.inj x y c (old x c h1) (old y c h2)
 case has=>
  intro x hx;have hx':(zdn sc X.env.scope).names.lookup x=some .cell\/(zdn sc X.env.scope).names.lookup x=some .free:=hx;have q:sc.names.lookup x=some .cell\/sc.names.lookup x=some .free:=by
   rcases hx' with h | h
   ·rcases zdN h with h | ⟨h,_⟩
    ·exact .inl h
    ·exact .inr h
   ·rcases zdN h with h | ⟨h,_⟩
    ·exact .inr h
    ·exact .inr h
  refine Option.isSome_iff_exists.mp (PySem.W.cellsFrom_some sc.names _ _ ?_);rcases q with q | q
  ·exact .inl q
  ·exact .inr (zen _ _ _ (.inl (PySem.mem_of_lookup q)))
 case cab=>
  intro x c hfn hx;have hc:sc.names.lookup x=some .cell:=by simpa[cxB]using hfn
  rcases cases_ x c hx with h | ⟨h,_⟩
  ·have:=ownge x c h;show s.heap.objs.size<=c;lia
  ·have q:=PySem.W.cellsFrom_some sc.names (s.heap.objs.size+1) [] (.inl hc);rw[h]at q;cases q
 case exf=>
  intro b hb;have hlt:=hfs b hb;refine⟨XJ hlt,λx c hx=>?_⟩;rcases cases_ x c hx with h | ⟨_,h⟩
  ·exact λz=>absurd (XR (show c<s.heap.objs.size by rw[z];exact hlt) (Nat.le_of_succ_le (ownge x c h))) (YJ _)
  ·exact(hf b hb).2.2.2.2.1 x c (old x c h)
 case noex=>
  intro b o e hb;rcases(hf b hb).2.2.2.1 with z | z
  ·exact I.ok.noex b o e z
  ·exact absurd (XR (XA (I.ok.bs b o e).1) z) (YJ _)
 case exfs=>
  intro b hb hbf;rcases Xx.mp (I.zlz b hbf)with z | z
  ·exact(hf b hb).2.1 z
  ·exact(hf b hb).2.2.1 z
 case loc=>
  refine⟨_,(Heap.Ns.new s.heap (.type "dict")).keeps (pushCells_keeps _ _),λi x v e1 e2 e3=>?_⟩;have hik:k<=i:=by
   unfold zdM at e2;by_cases hik:k<=i
   ·exact hik
   ·rw[Yg (by simp;lia),List.getElem?_replicate]at e2;split at e2<;>cases e2
  obtain⟨i',rfl⟩:∃i',i=k+i':=⟨i-k,by lia⟩;obtain⟨hfree,j,hj,hX⟩:=S.at' i' x e1;have e2':(σ[j]?).getD none=some v:=by
   unfold zdM at e2;rw[XQ (by simp)]at e2;rw[List.length_replicate,show k+i'-k=i' by lia,Xd,hj]at e2;exact Option.some.inj e2
  have hσ:σ[j]? = some (some v):=by
   cases q:σ[j]? with
   | none=>rw[q]at e2';cases e2'
   | some o=>rw[q]at e2';exact congrArg some e2'
  have hk:=S.fr x (PySem.mem_of_lookup hfree);obtain⟨m,hn,hl⟩:=I.loc;obtain⟨u,r,l⟩:=hl j x v hX hσ (by rcases hk with h | h;exact .inr (.inl h);exact .inr (.inr h))
  rcases l with ⟨hloc,_⟩ | ⟨_,c,hc,hcell⟩
  ·rcases hk with h | h<;>(rw[h]at hloc;cases hloc)
  ·refine⟨u,r,.inr ⟨zdO hfree,c,?_,hcell.keeps kp⟩⟩;show(cellsFrom (s.heap.objs.size+1) sc.names (zbk X.env sc.names [])).lookup x=some c;have hno:(cellsFrom (s.heap.objs.size+1) sc.names []).lookup x=none:=by
    cases q:(cellsFrom (s.heap.objs.size+1) sc.names []).lookup x with
    | none=>rfl
    | some d=>
     rcases zcq _ _ _ x d (PySem.mem_of_lookup q)with z | z
     ·cases z
     ·have:=zcy S.nm z;rw[hfree]at this;cases this
   obtain⟨d,hd⟩:=Option.isSome_iff_exists.mp (zen (env:=X.env) sc.names [] x (.inl (PySem.mem_of_lookup hfree)));have hdc:d=c:=by
    have:=old x d hd;rw[hc]at this;exact(Option.some.inj this).symm
   rw[zbo,List.lookup_append,hno,hd,hdc];rfl
 case cell=>
  intro x c hx;rcases cases_ x c hx with h | ⟨_,h⟩
  ·exact⟨none,(cok.empty x c (PySem.mem_of_lookup h)).1⟩
  ·obtain⟨v,q⟩:=I.cell x c (old x c h);exact⟨v,q.keeps kp⟩
 case freeC=>
  intro x c hx;rcases cases_ x c hx with h | ⟨_,h⟩
  ·exact I.hok.fresh (by have:=ownge x c h;lia)
  ·exact I.freeC x c (old x c h)
 case len=>
  show(zdM k js σ).length=N.length;unfold zdM;rw[XB,List.length_replicate,Xc];exact S.len.symm
end
theorem zlU {prog:Program}{w:World}{A:Around}{R:Result->Shared->Prop}{s:Shared}{elt tg iter:Expr}{ifs:List Expr}{scope:Scope}{pos:Pos}{it acc:Value}{env:Env}(J:Nat->Shared->Prop)
  (turn:∀n s,J n s->wpAny (model prog w) A (pyNext it) (λr s1=>match r with
   | none=>R (.ok .next) s1
   | some v=>wpAny (model prog w) A (letOwnedTupleGo tg it v) (λ_ s2=>wpAny (model prog w) A (assign tg env v) (λ_ s3=>
     wpAny (model prog w) A (forIn ifs true λc r=>if r=true then do let ok <- isTrue c env (eval c env);pure (ForInStep.yield ok) else pure (ForInStep.yield r)) (λok s4=>
      if ok=true then wpAny (model prog w) A (eval elt env) (λx s5=>wpAny (model prog w) A (call (.builtin "list.append") [acc,x]) (λ_ s6=>∃m,m<n/\J m s6) (λ_ _=>False) s5) (λ_ _=>False) s4
      else ∃m,m<n/\J m s4) (λ_ _=>False) s3) (λ_ _=>False) s2) (λ_ _=>False) s1) (λ_ _=>False) s)
  (n:Nat) (h:J n s):codeAny (model prog w) A (.compLoop (.ListComp elt [⟨tg,iter,ifs,0⟩] scope pos) 0 it acc env) R s:=by
 refine codeAny_loop rfl J (λn s hI=>wpAny_noted (wpAny_noRaise ?_)) n h;rw[compTurn_list];refine wpAny_bind (wpAny_standAt (wpAny_bind (thn (turn n s hI) λr s1 h1=>?_)));cases r with
 | none=>exact wpAny_pure h1
 | some v=>
  refine wpAny_bind (thn h1 λ_ s2 h2=>wpAny_bind (thn h2 λ_ s3 h3=>wpAny_bind (thn h3 λok s4 h4=>?_)));cases ok with
  | false=>exact wpAny_pure ⟨rfl,by simpa using h4⟩
  | true=>
   rw[if_pos rfl]at h4;exact wpAny_bind (wpAny_bind (thn h4 λx s5 h5=>wpAny_bind (thn h5 λ_ s6 h6=>wpAny_pure (wpAny_pure ⟨rfl,h6⟩))))
theorem zlV {M:Model}{A:Around}{E:Value->Shared->Prop}{s:Shared}{sc:Scope}{globals:Addr}{clo:List (Str×Addr)}{qual:Str}{out:Env}{Q:Env->Shared->Prop}
  (h:Q { scope:=sc,locals:=s.heap.objs.size,globals:=globals,cells:=cellsFrom (s.heap.objs.size+1) sc.names clo,qual:=qual,func:=none,code:=out.code,frame:=out.frame,builtins:=out.builtins }
   {s with heap:=pushCells (s.heap.push { cls:=.type "dict",data:=.dict #[] }) sc.names }) :
  wpAny M A (newFunctionEnv sc globals clo [] qual none .none (some out)) Q E s:=by
 unfold newFunctionEnv;simp only[Option.isSome_some,if_true];refine wpAny_bind (wpAny_alloc (wpAny_bind (wpAny_layCells _ (λname kind cells=>by cases hkc:kind == NameKind.cell<;>simp[hkc]) _ _ _ _ ?_)));rw[show({ s with heap:=s.heap.push { cls:=.type "dict",data:=.dict #[] } }:Shared).heap.objs.size=s.heap.objs.size+1 from Heap.size_push ..];simp only[List.forIn_nil];exact wpAny_bind (wpAny_pure (wpAny_pure h))
noncomputable def PTs (X:Cx)(ifs:List Expr)(t:TT):Prop:=
 ∀(pins:List (Addr×Obj)) (s:Shared) (σ:St) (H:Hp) (Q:Bool->Hp->Prop),Inv X pins σ H s->t σ H Q->
  wpAny (model X.prog X.w) X.A (forIn ifs true λc r=>if r=true then do let ok <- isTrue c X.env (eval c X.env);pure (ForInStep.yield ok) else pure (ForInStep.yield r)) (TP X pins σ Q) X.xe s
noncomputable def zlW:TT:=λ_ H Q=>Q true H
theorem zlX {X:Cx}:PTs X [] zlW:=λpins s σ H Q I h=>wpAny_tests_nil ⟨H,I,h⟩
theorem zqj {X:Cx}{c:Expr}{t:TT}(h:PT X c t):PTs X [c] t:=λpins s σ H Q I q=>wpAny_tests_one (h pins s σ H Q I q)
noncomputable def zlY (J:It)(g:TG)(tt:TT)(te:TE)(l:Addr)(σb:St)(H1:Hp)(R:Hp->Prop):Prop:=
 ∃W:Nat->Nat->St->Hp->Prop,(∃m,W 0 m σb (upd H1 l (.lst [])))/\∀i m σ' H',W i m σ' H'->
  (J.stop i H'/\R H')\/(J.go i H'/\∀x H2,J.yld i H' x H2->g x σ' H2 λσ2 H3=>tt σ2 H3 λb H4=>if b=true
   then te σ2 H4 λv H5=>∃ys,H5 l=some (.lst ys)/\ys.length<sizeLine/\∃m',m'<m/\W (i+1) m' σ2 (upd H5 l (.lst (ys++[v])))
   else ∃m',m'<m/\W (i+1) m' σ2 H4)
noncomputable def zqk (k:Nat)(js:List Nat)(wi:TI)(g:TG)(tt:TT)(te:TE):TE:=λσ H Q=>wi σ H λJ H1=>∀l,H1 l=none->zlY J g tt te l (zdM k js σ) H1 λH'=>Q (.ref l) H'
section
variable {X:Cx}{elt tg iter:Expr}{ifs:List Expr}{sc:Scope}{pos:Pos}{N:List Str}{k:Nat}{js:List Nat}{wi:TI}{g:TG}{tt:TT}{te:TE}
structure Blk (X:Cx)(N:List Str)(sc:Scope)(tg:Expr)(ifs:List Expr)(elt:Expr)(g:TG)(tt:TT)(te:TE):Prop where
 tgt:∀C cells fp s H,PG (cxB X N sc C cells fp s H) tg g
 tst:∀C cells fp s H,PTs (cxB X N sc C cells fp s H) ifs tt
 val:∀C cells fp s H,PE (cxB X N sc C cells fp s H) elt te
noncomputable def After (X:Cx)(pins:List (Addr×Obj))(σ:St)(R:Addr->Hp->Prop)(acc:Value)(C:Addr)(s':Shared):Prop:=
 ∃(l:Addr) (H':Hp) (m:Str->Option Value),acc=.ref l/\Inv X pins σ H' s'/\s'.heap.Ns C m/\FpOk X pins H' C/\R l H'
theorem zjL {pins:List (Addr×Obj)}{σ:St}{H:Hp}{s:Shared}{R:Addr->Hp->Prop}(hc:X.calm=true)(S:zcx X N k js sc)(hi:PI X tg iter wi)(B:Blk X N sc tg ifs elt g tt te)(I:Inv X pins σ H s)
  (h:wi σ H λJ H1=>∀l,H1 l=none->zlY J g tt te l (zdM k js σ) H1 (R l)) :
  wpAny (model X.prog X.w) X.A (eval iter X.env) (λx s1=>wpAny (model X.prog X.w) X.A (pyIter x) (λit s2=>wpAny (model X.prog X.w) X.A (newList []) (λacc s3=>
   wpAny (model X.prog X.w) X.A (newFunctionEnv sc X.env.globals (zbk X.env sc.names []) [] X.env.qual none .none (some X.env)) (λcenv s4=>
    codeAny (model X.prog X.w) X.A (.compStart (.ListComp elt [⟨tg,iter,ifs,0⟩] sc pos) 0 it acc { cenv with scope:=relabel sc X.env })
     (λr s'=>match r with | .ok _=>After X pins σ R acc cenv.locals s' | .error _=>False) s4) X.xe s3) X.xe s2) X.xe s1) X.xe s:=by
 refine thn (hi pins s σ H _ I h) λv s1 h1=>thn h1 λitv s2 h2=>?_;obtain⟨it,fp,tn,J,H2,e,I2,T,st2,f2,hq⟩:=h2;subst e;have hl:H2 s2.heap.objs.size=none:=I2.fresh;have fplt:∀b∈fp,b<s2.heap.objs.size:=λb hb=>by
  obtain⟨o,e,_⟩:=T.obj 0 _ st2 b hb;exact XA e
 obtain⟨W,⟨m0,w0⟩,turn⟩:=hq _ hl;refine wpAny_newList ?_;have I3:Inv X pins σ (upd H2 s2.heap.objs.size (.lst [])) { s2 with heap:=s2.heap.push { cls:=.type "list",data:=.seq ([]:List Value).toArray } }:=I2.lnew (its:=[]) (t':=s2.toks) .nil (XU _);have u3:Un (frs X.stack) fp H2 (upd H2 s2.heap.objs.size (.lst [])) s2.heap (s2.heap.push { cls:=.type "list",data:=.seq ([]:List Value).toArray }):=Un.laid (λb o e=>Xh _ e) (Xf _) hl;have hz3:(s2.heap.push { cls:=.type "list",data:=.seq ([]:List Value).toArray }).objs.size=s2.heap.objs.size+1:=Heap.size_push ..;have kp3:∀b o,s2.heap.get? b=some o->(s2.heap.push { cls:=.type "list",data:=.seq ([]:List Value).toArray }).get? b=some o:=λb o e=>Xh _ e;have fpn:∀b∈fp,upd H2 s2.heap.objs.size (.lst []) b=none:=λb hb=>by
  rw[zaf (XJ (fplt b hb))];exact(f2 b hb).1
 generalize hl0:s2.heap.objs.size=l at hl I3 u3 hz3 kp3 fpn w0 turn ⊢;rw[hl0]at fplt;generalize s2.heap.push { cls:=.type "list",data:=.seq ([]:List Value).toArray }=h3 at I3 u3 hz3 kp3 ⊢;generalize upd H2 l (.lst [])=H3 at I3 u3 fpn w0;have f3:∀b∈fp,FpOk X pins H3 b:=λb hb=>⟨fpn b hb,(f2 b hb).2⟩;have I4:=I3.block S f3 (λb hb=>by show b<h3.objs.size;rw[hz3];exact YN (fplt b hb));have kp4:∀b o,s2.heap.get? b=some o->(pushCells (h3.push { cls:=.type "dict",data:=.dict #[] }) sc.names).get? b=some o:=λb o e=>pushCells_keeps _ _ b o (Xh _ (kp3 b o e));refine zlV ?_;have st4:tn 0 (pushCells (h3.push { cls:=.type "dict",data:=.dict #[] }) sc.names):=T.keep 0 _ _ st2 λb _ o e=>kp4 b o e;have stat:∀ {H':Hp},(∀b∈fp,H' b=none)->∀b∈fp,FpOk (cxB X N sc h3.objs.size (cellsFrom (h3.objs.size+1) sc.names (zbk X.env sc.names [])) fp { s2 with heap:=h3 } H3) [] H' b:=λhn b hb=>
  ⟨hn b hb,(I4.ok.exf b hb).1,I4.ok.exfs b hb,.inl hb,(I4.ok.exf b hb).2,λp hp=>absurd (show p∈([]:List (Addr×Obj)) from hp) (by simp)⟩
 generalize hY:cxB X N sc h3.objs.size (cellsFrom (h3.objs.size+1) sc.names (zbk X.env sc.names [])) fp { s2 with heap:=h3 } H3=Y at I4 stat;have loop:codeAny (model X.prog X.w) X.A (.compLoop (.ListComp elt [⟨tg,iter,ifs,0⟩] sc pos) 0 (.ref it) (.ref l) Y.env)
   (λr s'=>match r with | .ok _=>After X pins σ R (.ref l) h3.objs.size s' | .error _=>False) { s2 with heap:=pushCells (h3.push { cls:=.type "dict",data:=.dict #[] }) sc.names }:=by
  subst hY;refine zlU (λn s'=>∃i σ' H',Inv (cxB X N sc h3.objs.size (cellsFrom (h3.objs.size+1) sc.names (zbk X.env sc.names [])) fp { s2 with heap:=h3 } H3) [] σ' H' s'/\tn i s'.heap/\(∀b∈fp,H' b=none)/\W i n σ' H') ?_ m0
   ⟨0,zdM k js σ,H3,I4,st4,fpn,w0⟩
  rintro n s5 ⟨i,σ5,H5,I5,st5,fr5,w5⟩;rcases turn i n σ5 H5 w5 with ⟨stop,qn⟩ | ⟨go,step⟩
  ·refine thn (T.done (cxB X N sc h3.objs.size (cellsFrom (h3.objs.size+1) sc.names (zbk X.env sc.names [])) fp { s2 with heap:=h3 } H3) rfl rfl rfl hc i [] s5 σ5 H5 (λ_ _=>False) I5 (stat fr5) st5 stop) λr s6 q48q=>?_;obtain⟨hr,I6⟩:=q48q;subst hr;obtain⟨m6,hn6,_⟩:=id I6.loc;have IX:Inv X pins σ H5 s6:=I2.call' (ch:=fp) I6.os (u3.trans I6.base) I6.hok I6.bare λb hb=>⟨(f2 b hb).2.2.2.1,(f2 b hb).2.1,(f2 b hb).2.2.2.2.1,(f2 b hb).2.2.2.2.2⟩;exact⟨l,H5,m6,rfl,IX,hn6,I2.fpOk (by show s2.heap.objs.size<=h3.objs.size;rw[hz3,hl0];exact Nat.le_succ _) I6.free,qn⟩
  ·refine thn (T.item (cxB X N sc h3.objs.size (cellsFrom (h3.objs.size+1) sc.names (zbk X.env sc.names [])) fp { s2 with heap:=h3 } H3) rfl rfl rfl hc i [] s5 σ5 H5 (λ_ _=>False) I5 (stat fr5) st5 go) λr s6 q49q=>?_;obtain⟨u,hr,h6⟩:=q49q;subst hr;refine thn h6 λ_ s7 q50q=>?_;obtain⟨x,H7,I7,r7,y7,st7,fr7⟩:=q50q;have I7':=I7.pinned (stat fr7) (T.obj _ _ st7);refine thn (B.tgt _ _ _ _ _ _ s7 σ5 H7 x u _ I7' r7 (step x H7 y7)) λ_ s8 q51q=>?_;obtain⟨σ8,H8,I8,q8⟩:=q51q;refine thn (B.tst _ _ _ _ _ _ s8 σ8 H8 _ I8 q8) λok s9 q52q=>?_;obtain⟨H9,I9,q9⟩:=q52q;have kept:∀ {σ':St} {H':Hp} {s':Shared},Inv (cxB X N sc h3.objs.size (cellsFrom (h3.objs.size+1) sc.names (zbk X.env sc.names [])) fp { s2 with heap:=h3 } H3) ([]++zhq fp s7.heap) σ' H' s'->tn (i+1) s'.heap/\∀b∈fp,H' b=none:=λ{σ' H' s'} I'=>
    ⟨T.keep _ _ _ st7 λb hb o e=>(I'.pin (b,o) (Yu _ (Yu _ (zcU hb e)))).1,λb hb=>by
     obtain⟨o,e,_⟩:=T.obj _ _ st7 b hb;exact(I'.pin (b,o) (Yu _ (Yu _ (zcU hb e)))).2.1⟩
   cases ok with
   | false=>
    rw[if_neg Xw]at q9;rw[if_neg Xw];obtain⟨m',hm,w9⟩:=q9;exact⟨m',hm,i+1,σ8,H9,I9.zdJ,(kept I9).1,(kept I9).2,w9⟩
   | true=>
    rw[if_pos rfl]at q9;rw[if_pos rfl];refine thn (B.val _ _ _ _ _ _ s9 σ8 H9 _ I9 q9) λu10 s10 q53q=>?_;obtain⟨y,H10,I10,r10,ys,hys,hlen,m',hm,w10⟩:=q53q;refine thn (zdL _ s10 σ8 H10 (.ref l) [y] (.ref l) [u10] (λ_ H'=>H'=upd H10 l (.lst (ys++[y]))) I10 rfl (.cons r10 .nil) ⟨l,ys,y,rfl,rfl,hys,hlen,rfl⟩) λ_ s11 q54q=>?_;obtain⟨_,H11,I11,_,e11⟩:=q54q;subst e11;exact⟨m',hm,i+1,σ8,_,I11.zdJ,(kept I11).1,(kept I11).2,w10⟩
 subst hY;exact codeAny_compStart_list loop (T.self X.A 0 _ _ _ st4 loop)
theorem zgi {X:Cx}(S:zcx X N k js sc):∀x∈sc.names,x.2=.local->sc.names.lookup x.1=some .local:=λx hx hl=>zcy S.nm (by rw[<- hl];exact hx)
theorem zql (hc:X.calm=true)(S:zcx X N k js sc)(hi:PI X tg iter wi)(B:Blk X N sc tg ifs elt g tt te)(hs:autoParam (∀x,foldedSetIterable iter X.env x=pure x) aU3) :
  PE X (.ListComp elt [⟨tg,iter,ifs,0⟩] sc pos) (zqk k js wi g tt te):=by
 intro pins s σ H Q I h;rw[eval_ListComp];refine wpAny_comprehension_free (use:=none) rfl hs (zlT λn hn=>I.ok.has n (S.fr n hn)) S.kind (zgi S) ?_;refine thn (zjL (pos:=pos) (R:=λl H'=>Q (.ref l) H') hc S hi B I h) λx s1 h1=>thn h1 λit s2 h2=>thn h2 λacc s3 h3=>thn h3 λcenv s4 h4=>codeAny_mono h4 λr s' hr=>?_;cases r with
 | error e=>exact False.elim hr
 | ok f=>
  obtain⟨l,H',m,rfl,I',hn,⟨f0,f1,f2,f3,f4,f5⟩,q⟩:=hr;exact⟨m,hn,λh' sb=>⟨.ref l,H',I'.turned (t':=s'.toks) (λb o hb e=>sb.extBut b o hb e) f0 f1 f3 f4 f5,rfl,q⟩⟩
theorem zlZ {i:Nat}{x:Str}{pos' pos2:Pos}(hc:X.calm=true)(S:zcx X N k js sc)(hi:PI X tg iter wi)(B:Blk X N sc tg ifs elt g tt te)(hN:X.N.Nodup)(hx:X.N[i]? = some x)(hk:X.env.scope.names.lookup x=some .local)
  (hsw:autoParam (swapsWith (.ListComp elt [⟨tg,iter,ifs,0⟩] sc pos) (some (.Name x pos')) pos2.line X.env=pure true) aU0) (hs:autoParam (∀x,foldedSetIterable iter X.env x=pure x) aU3) :
  PS X (.Assign [.Name x pos'] (.ListComp elt [⟨tg,iter,ifs,0⟩] sc pos) pos2) (tAsg (zqk k js wi g tt te) (zkU i)):=by
 intro pins s σ H D I h;rw[exec_Assign_Name_used _ _ _ _ hsw];refine wpAny_bind (wpAny_standAt (wpAny_bind ?_));show wpAny _ X.A (do let _ <- comprehension (.ListComp elt [⟨tg,iter,ifs,0⟩] sc pos) sc X.env _ (newList []) false (eval iter X.env) (some (assign (.Name x pos') X.env))) _ _ s
 refine wpAny_bind (thn (wpAny_comprehension_free (use:=some (assign (.Name x pos') X.env)) (Q:=λ_ s'=>SP X pins D .next s') rfl hs (zlT λn hn=>I.ok.has n (S.fr n hn)) S.kind (zgi S) ?_) λ_ s' hq=>wpAny_pure (wpAny_pure hq))
 refine thn (zjL (pos:=pos) (R:=λl H'=>D.nx (σ.set i (some (.ref l))) H') hc S hi B I h) λy s1 h1=>thn h1 λit s2 h2=>thn h2 λacc s3 h3=>thn h3 λcenv s4 h4=>codeAny_mono h4 λr s' hr=>?_;cases r with
 | error e=>exact False.elim hr
 | ok f=>
  obtain⟨l,H',m,rfl,I',hn,⟨f0,f1,f2,f3,f4,f5⟩,q⟩:=hr;refine wpAny_assign_Name (zho I' hN hx (.inl hk) (show RelV (.ref l) (.ref l) from rfl) (λs'' I'' q55q=>?_) (.inr hk));obtain⟨a,sb,ha⟩:=q55q;have ne:cenv.locals≠a:=by
   rcases ha with z | z
   ·rw[z];exact f1
   ·exact λw=>f4 x a z w.symm
  exact⟨m,hn.sameBut sb ne,λh' sb'=>⟨_,H',I''.turned (t':=s''.toks) (λb o hb e=>sb'.extBut b o hb e) f0 f1 f3 f4 f5,q⟩⟩
end
end _L
namespace _J
open PySem
theorem zeo {α:Type}:∀ {l:List α}{i:Nat}(h:i<l.length),(l[i]::l.eraseIdx i).Perm l
 | _::_,0,_=>YC.refl _
 | x::r,i+1,h=>by
  have ih:=zeo (l:=r) (i:=i) (by simpa using h);rw[List.eraseIdx_cons_succ];exact(YC.swap x _ _).trans (ih.cons x)
section
variable {M:Model}{A:Around}{E:Value->Shared->Prop}{s:Shared}
theorem zkZ {src:Source}{n:Nat}{Q:Nat->Shared->Prop}(hn:n≠0)(h:∀i,i<n->Q i { s with drawn:=s.drawn.bump src }):wpAny M A (choose src n) Q E s:=
 λ_ _ _=>⟨hn,h _ (Nat.mod_lt _ (Nat.pos_of_ne_zero hn))⟩
theorem zjM {α:Type}:∀(n:Nat)(xs:List α)(s:Shared)(Q:List α->Shared->Prop),xs.length<=n->(∀ys d,ys.Perm xs->Q ys { s with drawn:=d })->wpAny M A (drawOrder n xs) Q E s
 | 0,xs,s,Q,h,hq=>by
  have e:xs=[]:=XI.mp (by lia);subst e;exact wpAny_pure (hq [] s.drawn (YC.refl _))
 | n+1,[],s,Q,_,hq=>wpAny_pure (hq [] s.drawn (YC.refl _))
 | n+1,x::r,s,Q,h,hq=>by
  show wpAny M A (choose .order (x::r).length >>= λi=>match (x::r)[i]? with
   | some y=>drawOrder n ((x::r).eraseIdx i) >>= λys=>pure (y::ys)
   | none=>unsupported "internal:drawOrder") Q E s
  refine wpAny_bind (zkZ (by simp) λi hi=>?_);have e:(x::r)[i]? = some (x::r)[i]:=by simp[hi]
  rw[e];refine wpAny_bind (zjM n ((x::r).eraseIdx i) _ _ (by rw[YA hi];simp at h ⊢;omega) λys d hp=>wpAny_pure (hq _ d ?_));exact(hp.cons _).trans (zeo hi)
end
theorem zma {α:Type}(next:Nat->Nat):∀(fuel k:Nat)(left:List α)(out:Array α),left.length=fuel->(pickOrder.go next fuel k left out).toList.Perm (out.toList++left)
 | 0,k,left,out,h=>by
  have e:left=[]:=XI.mp h;subst e;simp[pickOrder.go]
 | fuel+1,k,left,out,h=>by
  unfold pickOrder.go;have hi:next k % left.length<left.length:=Nat.mod_lt _ (by lia)
  have e:left[next k % left.length]? = some left[next k % left.length]:=by simp[hi]
  rw[e];dsimp only;refine(zma next fuel (k+1) _ _ (by rw[YA hi];lia)).trans ?_
  rw[Array.toList_push,XE];exact YC.append_left _ (zeo hi)
theorem zhC {α:Type}(next:Nat->Nat)(xs:Array α):(pickOrder next xs).toList.Perm xs.toList:=by
 unfold pickOrder;have h:=zma next xs.size 0 xs.toList #[] (by simp)
 simpa using h
noncomputable def Asc (xs:Array Nat):Prop:=xs.toList.Pairwise (· < ·)
theorem Asc.lt {xs:Array Nat}(h:Asc xs){i j:Nat}(hij:i<j)(hj:j<xs.size):xs.getD i 0<xs.getD j 0:=by
 have q:=List.pairwise_iff_getElem.mp h i j (by simp;lia) (by simpa using hj) hij;simpa[Array.getD,hj,show i<xs.size by lia]using q
theorem zdP (n:Nat):Asc (Array.range n):=by
 unfold Asc;rw[Array.toList_range];exact List.pairwise_lt_range
theorem zgJ (xs:Array Nat)(j:Nat):∀(fuel lo hi:Nat),Asc xs->lo<=hi->hi<=xs.size->hi-lo<=fuel->(∀i,i<lo->xs.getD i 0<j)->(∀i,hi<=i->i<xs.size->¬ xs.getD i 0<j)->
  Yc.go xs j fuel lo hi<=xs.size/\(∀i,i<Yc.go xs j fuel lo hi->xs.getD i 0<j)/\∀i,Yc.go xs j fuel lo hi<=i->i<xs.size->¬ xs.getD i 0<j
 | 0,lo,hi,ha,h1,h2,h3,h4,h5=>by
  have:lo=hi:=by lia
  subst this;exact⟨h2,h4,h5⟩
 | fuel+1,lo,hi,ha,h1,h2,h3,h4,h5=>by
  unfold Yc.go;by_cases h:lo<hi
  ·rw[if_pos h];dsimp only;have hm:(lo+hi) / 2<xs.size:=by lia
   have e:xs.getD ((lo+hi) / 2) j=xs.getD ((lo+hi) / 2) 0:=by simp[Array.getD,hm]
   rw[e];by_cases hc:xs.getD ((lo+hi) / 2) 0<j
   ·rw[if_pos hc];refine zgJ xs j fuel _ _ ha (by lia) h2 (by omega) (λi hi'=>?_) h5;rcases YG i ((lo+hi) / 2)with z | z
    ·exact Nat.lt_trans (ha.lt z hm) hc
    ·have:i=(lo+hi) / 2:=by lia
     rw[this];exact hc
   ·rw[if_neg hc];refine zgJ xs j fuel _ _ ha (by lia) (by lia) (by omega) h4 λi hi' hs z=>hc ?_;rcases YG ((lo+hi) / 2) i with y | y
    ·exact Nat.lt_trans (ha.lt y hs) z
    ·have:i=(lo+hi) / 2:=by lia
     rw[<- this];exact z
  ·rw[if_neg h];have:lo=hi:=by lia
   subst this;exact⟨h2,h4,h5⟩
theorem zeV {xs:Array Nat}(ha:Asc xs)(j:Nat):Yc xs j<=xs.size/\(∀i,i<Yc xs j->xs.getD i 0<j)/\∀i,Yc xs j<=i->i<xs.size->¬ xs.getD i 0<j:=
 zgJ xs j xs.size 0 xs.size ha (XU _) (Xf _) (by lia) (λi h=>by lia) (λi h1 h2=>by omega)
theorem below_at {xs:Array Nat}(ha:Asc xs){i:Nat}(hi:i<=xs.size):Yc xs (if i=0 then 0 else xs.getD (i-1) 0+1)=i:=by
 obtain⟨h1,h2,h3⟩:=zeV ha (if i=0 then 0 else xs.getD (i-1) 0+1)
 generalize Yc xs (if i=0 then 0 else xs.getD (i-1) 0+1)=r at h1 h2 h3
 by_cases e:i=0
 ·subst e;rw[if_pos rfl]at h2;rcases Nat.eq_zero_or_pos r with z | z
  ·exact z
  ·exact absurd (h2 0 z) (by lia)
 ·rw[if_neg e]at h2 h3;rcases Nat.lt_trichotomy r i with z | z | z
  ·have q:=h3 (i-1) (by lia) (by lia);lia
  ·exact z
  ·have q1:=h2 i z;have q2:=ha.lt (show i-1<i by lia) (show i<xs.size by lia);omega
structure Rec (w:World)(h:Heap)(a:Addr)(es:Array (Int×Value))(ep:Nat)(t:SetTable):Prop where
 obj:∃o,h.get? a=some o/\o.ExactSet/\o.data=.set es ep t
 fits:t.fits es.size=true
 led:t.led=true\/w.params.followText "set-order" = true
 asc:Asc t.place
 dm:t.dummies = #[]
 sz:es.size<scanBound
theorem Rec.keep {w:World}{h h':Heap}{a:Addr}{es:Array (Int×Value)}{ep:Nat}{t:SetTable}(r:Rec w h a es ep t)(k:∀o,h.get? a=some o->h'.get? a=some o):Rec w h' a es ep t:=
 ⟨let ⟨o,e,x⟩:=r.obj;⟨o,k o e,x⟩,r.fits,r.led,r.asc,r.dm,r.sz⟩
theorem Rec.type {w:World}{s:Shared}{a:Addr}{es:Array (Int×Value)}{ep:Nat}{t:SetTable}(r:Rec w s.heap a es ep t):s.TypeIs (.ref a) "set":=
 let ⟨o,e,x,_⟩:=r.obj;⟨o,e,x.1⟩
namespace F
theorem slot_next:Slot "set_iterator" "__next__" "set_iterator.__next__":=.of (owner:="set_iterator") (n:="__next__") (by rw[typeLookup_type,builtinLookup_eq_fast];kernel_rfl) (by decide +kernel) (by decide +kernel) (by decide +kernel) (by first | exact .inl (by decide +kernel) | exact .inr (by decide +kernel)) (by rw[isSubtype_type];kernel_rfl)
theorem entry_next:entryFor table "set_iterator.__next__" = some Builtin.«set_iterator.__next__»:=entryFor_of_tree (by kernel_rfl)
theorem args_next (a:Value):argsOk "set_iterator.__next__" ⟨[a],[]⟩:=by unfold argsOk;kernel_rfl
theorem zhD:Slot "set_iterator" "__iter__" "set_iterator.__iter__":=.of (owner:="set_iterator") (n:="__iter__") (by rw[typeLookup_type,builtinLookup_eq_fast];kernel_rfl) (by decide +kernel) (by decide +kernel) (by decide +kernel) (by first | exact .inl (by decide +kernel) | exact .inr (by decide +kernel)) (by rw[isSubtype_type];kernel_rfl)
theorem zla:entryFor table "set_iterator.__iter__" = some Builtin.«dict_keyiterator.__iter__»:=entryFor_alias (id':="dict_keyiterator.__iter__") (by kernel_rfl) rfl (by decide +kernel) (by kernel_rfl)
theorem zmb (a:Value):argsOk "set_iterator.__iter__" ⟨[a],[]⟩:=by unfold argsOk;kernel_rfl
theorem zga:entryFor table "set.__iter__" = some Builtin.«frozenset.__iter__»:=entryFor_alias (id':="frozenset.__iter__") (by kernel_rfl) rfl (by decide +kernel) (by kernel_rfl)
end F
noncomputable abbrev byText (w:World):Bool:=w.params.followText "set-order"
noncomputable abbrev zeR (first:Value)(i n ep:Nat)(a:Addr):Obj:={ cls:=.type "set_iterator",data:=.fields #[first,.int i 0,.ref a,.int n 0,.int ep 0] }
inductive At (w:World) (h:Heap) (it a:Addr) (es:Array (Int×Value)) (ep:Nat) (t:SetTable):List Addr->List Value->Nat->Prop where
 | drawn (tp:Addr) (ps:List Nat) (i:Nat):(tp≠it)->h.get? it=some (zeR (.ref tp) i es.size ep a)->h.IsTuple tp (ps.map λ(p:Nat)=>Value.int (p:Int) 0).toArray->ps.Perm (XZ es.size)->At w h it a es ep t [tp] (ps.map λp=>(es.getD p (0,.none)).2) i
 | text (slot i:Nat):byText w=true->h.get? it=some (zeR (.int slot 0) i es.size ep a)->At w h it a es ep t [] ((pickOrder (w.params.setOrder a ep) es).toList.map (·.2)) i
 | one (slot i:Nat):byText w=false->t.led=true->(t.plain=true\/es.size<=1)->h.get? it=some (zeR (.int slot 0) i es.size ep a)->(slot=if i=0 then 0 else t.place.getD (i-1) 0+1)->At w h it a es ep t [] (es.toList.map (·.2)) i
section
variable {prog:Program}{w:World}{A:Around}{E:Value->Shared->Prop}{s:Shared}{a it:Addr}{es:Array (Int×Value)}{ep:Nat}{t:SetTable}
theorem zaJ {Q:(Array (Int×Value)×Nat×SetTable)->Shared->Prop}(r:Rec w s.heap a es ep t)(h:Q (es,ep,t) s):wpAny (model prog w) A (setState a) Q E s:=by
 obtain⟨o,e,_,d⟩:=r.obj;exact wpAny_setState_of e d r.fits h
theorem zeW {slot i n:Nat}{P:PySem.Fin->Shared->Prop}{F:Value->Shared->Prop}(r:Rec w s.heap a es ep t)(ho:s.heap.get? it=some (zeR (.int slot 0) i es.size ep a))
  (h:wpAny (model prog w) A (setNext a slot i ep >>= λm=>match m with
     | some (x,next)=>setField (.ref it) 0 (rawInt next) >>= λ_=>setField (.ref it) 1 (rawInt ((i:Int)+1)) >>= λ_=>ret x
     | none=>setField (.ref it) 2 .none >>= λ_=>newExc (.type "StopIteration") [] >>= λe=>raiseNew e) P F s) :
  wpAny (model prog w) A (Builtin.«set_iterator.__next__» ⟨[.ref it],[]⟩) P F s:=by
 unfold Builtin.«set_iterator.__next__» slotArgs;simp only[List.isEmpty_nil,Bool.not_true,Xz,if_false,List.length_nil,bne_self_eq_false];refine wpAny_bind (wpAny_pure (wpAny_bind (wpAny_fieldsOf ho rfl ?_)));dsimp only;unfold setEntries;refine wpAny_bind (wpAny_bind (zaJ r (wpAny_pure ?_)));simp only[bne_self_eq_false,Xz,if_false,Int.toNat_natCast];exact h
theorem zjN {tp i n:Nat}{items:Array Value}{P:PySem.Fin->Shared->Prop}{F:Value->Shared->Prop}(r:Rec w s.heap a es ep t)(ho:s.heap.get? it=some (zeR (.ref tp) i es.size ep a))(ht:s.heap.IsTuple tp items)
  (h:wpAny (model prog w) A (match items[i]? with
      | some (.int place _)=>setNextDrawn a place.toNat ep >>= λx=>setField (.ref it) 1 (rawInt ((i:Int)+1)) >>= λ_=>ret x
      | some _=>unsupported "internal:set_iterator"
      | none=>setField (.ref it) 0 (rawInt 0) >>= λ_=>setField (.ref it) 2 .none >>= λ_=>newExc (.type "StopIteration") [] >>= λe=>raiseNew e) P F s) :
  wpAny (model prog w) A (Builtin.«set_iterator.__next__» ⟨[.ref it],[]⟩) P F s:=by
 unfold Builtin.«set_iterator.__next__» slotArgs;simp only[List.isEmpty_nil,Bool.not_true,Xz,if_false,List.length_nil,bne_self_eq_false];refine wpAny_bind (wpAny_pure (wpAny_bind (wpAny_fieldsOf ho rfl ?_)));dsimp only;unfold setEntries;refine wpAny_bind (wpAny_bind (zaJ r (wpAny_pure ?_)));simp only[bne_self_eq_false,Xz,if_false,Int.toNat_natCast];obtain⟨o,ho',_,n',hd⟩:=ht;exact wpAny_bind (wpAny_seqItems ho' hd h)
theorem zeJ {i:Nat}{slot:Nat}{Q:Option (Value×Nat)->Shared->Prop}(r:Rec w s.heap a es ep t)(hb:byText w=true)
  (h:Q (((pickOrder (w.params.setOrder a ep) es)[i]?).map λe=>(e.2,slot)) s):wpAny (model prog w) A (setNext a slot i ep) Q E s:=by
 have hb':w.params.followText "set-order" = true:=hb;unfold setNext setsByText;refine wpAny_bind (zaJ r ?_);refine wpAny_bind (wpAny_bind (wpAny_askSetting (wpAny_pure ?_)));simp only[model,hb',if_true,bne_self_eq_false,Xz,if_false];unfold setWalk setsByText;refine wpAny_bind (wpAny_bind (zaJ r ?_));refine wpAny_bind (wpAny_bind (wpAny_askSetting (wpAny_pure ?_)));simp only[model,hb',if_true];exact wpAny_bind (wpAny_askSetting (wpAny_pure (wpAny_pure h)))
theorem zfp {i:Nat}{slot:Nat}{Q:Option (Value×Nat)->Shared->Prop}(r:Rec w s.heap a es ep t)(hb:byText w=false)(hl:t.led=true)(h1:t.plain=true\/es.size<=1)
  (h:Q (match es[Yc t.place slot]?,t.place[Yc t.place slot]? with | some (_,x),some j=>some (x,j+1) | _,_=>none) s):wpAny (model prog w) A (setNext a slot i ep) Q E s:=by
 have hb':w.params.followText "set-order" = false:=hb;unfold setNext setsByText;refine wpAny_bind (zaJ r ?_);refine wpAny_bind (wpAny_bind (wpAny_askSetting (wpAny_pure ?_)));simp only[model,hb',Xz,if_false];have hd:(!t.plain&&decide (es.size > 1))=false:=by
  rcases h1 with z | z
  ·rw[z];rfl
  ·rw[decide_eq_false (by lia),Bool.and_false]
 have hm:(!t.led&&!es.isEmpty)=false:=by rw[hl];rfl
 show wpAny (model prog w) A (if (!t.plain&&decide (es.size > 1))=true then _ else((if (!t.led&&!es.isEmpty)=true then unsupported "set:maker-not-led" else pure ()) >>= λ_=>pure _)) Q E s
 rw[hd,hm];exact wpAny_bind (wpAny_pure (wpAny_pure h))
theorem zlb {p:Nat}{x:Value}{hx:Int}{Q:Value->Shared->Prop}(r:Rec w s.heap a es ep t)(hp:es[p]? = some (hx,x))(h:Q x s):wpAny (model prog w) A (setNextDrawn a p ep) Q E s:=by
 unfold setNextDrawn;refine wpAny_bind (zaJ r ?_);simp only[bne_self_eq_false,Xz,if_false,hp];exact wpAny_pure h
theorem zmc (hh:A.handled=none){R:Option Value->Shared->Prop}(hR:∀h',(∀b o,s.heap.get? b=some o->h'.get? b=some o)->R none { s with heap:=h' }) :
  wpAny (model prog w) A.in1 (newExc (.type "StopIteration") [] >>= λe=>(raiseNew e:Sem PySem.Fin)) (λ_ _=>False)
   (λe s'=>wpAny (model prog w) A (isInstance e (.type "StopIteration") >>= λb=>if b=true then pure none else throw e) R E s') s:=by
 refine wpAny_bind ?_;simp only[newExc,newTuple];refine wpAny_bind (wpAny_newObj_type (wpAny_bind (m:=firstArgMember _ _) (wpAny_of_eq (a:=Value.none) (by first | rfl | (simp only[firstArgMember];rfl)) (wpAny_newObj_type ?_ (by size_fits)))) (by size_fits))
 simp only[raiseNew];refine wpAny_bind (wpAny_handled ?_);rw[show A.in1.handled=none from hh];refine wpAny_bind (wpAny_pure (wpAny_throw ?_));refine wpAny_bind (wpAny_isInstance (T:="StopIteration") (b:=true) ⟨_,XC _ rfl,rfl⟩ isSubtype_stop ?_);exact wpAny_pure (hR _ λb o e=>Xh _ (Xh _ e))
theorem zcs {first:Value}{i n:Nat}{Q:Option Value->Shared->Prop}(ho:s.heap.get? it=some (zeR first i n ep a))
  (h:wpAny (model prog w) A.in1 (Builtin.«set_iterator.__next__» ⟨[.ref it],[]⟩) (λfin s'=>∃u,fin=.done (.ret u)/\Q (some u) s')
   (λe s'=>wpAny (model prog w) A (isInstance e (.type "StopIteration") >>= λb=>if b=true then pure none else throw e) Q E s') s):wpAny (model prog w) A (pyNext (.ref it)) Q E s:=by
 have hT:s.TypeIs (.ref it) "set_iterator":=⟨_,ho,rfl⟩;unfold pyNext;refine wpAny_bind (wpAny_attempt (wpAny_callSpecial?_slot (name:=Str.ofString "__next__") hT F.slot_next (wpAny_call_entry F.slot_next hT F.entry_next ?_ (F.args_next _))));exact wpAny_mono h (λfin s' q56q=>by obtain⟨u,e,q⟩:=q56q;exact⟨u,e,wpAny_pure q⟩) λ_ _ z=>z
theorem next_item {tq:List Addr}{order:List Value}{i:Nat}{v:Value}{Q:Option Value->Shared->Prop}(r:Rec w s.heap a es ep t)(x:At w s.heap it a es ep t tq order i)(hv:order[i]? = some v)
  (hQ:∀h',At w h' it a es ep t tq order (i+1)->Yh it s.heap h'->Q (some v) { s with heap:=h' }):wpAny (model prog w) A (pyNext (.ref it)) Q E s:=by
 have hc:((i:Int)+1)=((i+1:Nat):Int):=by lia
 cases x with
 | drawn tp ps _ hne ho ht hp=>
  refine zcs ho (zjN (n:=0) r ho ht ?_);rw[Xd]at hv;cases hpi:ps[i]? with
  | none=>rw[hpi]at hv;cases hv
  | some p=>
   rw[hpi]at hv;have hlt:p<es.size:=Yp.mp (hp.mem_iff.mp (Xn hpi));have e1:(ps.map λ(p:Nat)=>Value.int (p:Int) 0).toArray[i]? = some (Value.int (p:Int) 0):=by simp[hpi]
   rw[e1];dsimp only;have e2:es[p]? = some (es[p].1,es[p].2):=by simp[hlt]
   have e3:v=es[p].2:=by
    have q:=Option.some.inj hv;rw[<- q];simp[Array.getD,hlt]
   rw[Int.toNat_natCast];refine wpAny_bind (zlb r e2 (wpAny_bind (wpAny_setField ho rfl (by show 1<5;decide) (wpAny_pure ⟨_,rfl,?_⟩))));rw[<- e3];refine hQ _ (.drawn tp ps (i+1) hne ?_ ?_ hp) (Yh.update ..)
   ·rw[hc];exact Yl _ ho rfl
   ·obtain⟨o,q,c⟩:=ht;exact⟨o,(Yj _ _ (Ne.symm hne)).trans q,c⟩
 | text slot _ hb ho=>
  refine zcs ho (zeW (n:=0) r ho (wpAny_bind (zeJ r hb ?_)));rw[Xd]at hv;cases hpi:(pickOrder (w.params.setOrder a ep) es).toList[i]? with
  | none=>rw[hpi]at hv;cases hv
  | some p=>
   rw[hpi]at hv;have e1:(pickOrder (w.params.setOrder a ep) es)[i]? = some p:=by rw[<- Xu];exact hpi
   have e3:p.2=v:=Option.some.inj hv;rw[e1];dsimp only[Option.map];rw[e3];have ho1:(s.heap.update it (Obj.mapFields (·.setIfInBounds 0 (rawInt slot)))).get? it=some (zeR (.int slot 0) i es.size ep a):=Yl _ ho rfl;refine wpAny_bind (wpAny_setField ho rfl (by show 0<5;decide) (wpAny_bind (wpAny_setField ho1 rfl (by show 1<5;decide) (wpAny_pure ⟨_,rfl,?_⟩))));refine hQ _ (.text slot (i+1) hb ?_) ((Yh.update ..).trans (Yh.update ..));rw[hc];exact Yl _ ho1 rfl
 | one slot _ hb hl h1 ho h0=>
  refine zcs ho (zeW (n:=0) r ho (wpAny_bind (zfp r hb hl h1 ?_)));have hi:i<es.size:=by
   have q:=(Xe.mp hv).1;simpa using q
  have hps:t.place.size=es.size:=by
   have q:=r.fits;simp only[SetTable.fits,YF,beq_iff_eq]at q;exact q.1
  have e0:Yc t.place slot=i:=by rw[h0];exact below_at r.asc (by lia)
  have e1:es[i]? = some (es[i].1,es[i].2):=by simp[hi]
  have e3:es[i].2=v:=by
   rw[Xd]at hv;have q:es.toList[i]? = some es[i]:=by simp[hi]
   rw[q]at hv;exact Option.some.inj hv
  have hip:i<t.place.size:=by lia
  obtain⟨pl,hpl⟩:∃pl,t.place[i]? = some pl:=⟨t.place[i],getElem?_pos t.place i hip⟩;have hpd:t.place.getD i 0=pl:=by
   rw[getElem?_pos t.place i hip]at hpl;simp only[Array.getD,hip,dif_pos];exact Option.some.inj hpl
  rw[e0,e1,hpl];dsimp only;rw[e3];have ho1:(s.heap.update it (Obj.mapFields (·.setIfInBounds 0 (rawInt ((pl+1:Nat):Int))))).get? it=some (zeR (.int ((pl+1:Nat):Int) 0) i es.size ep a):=Yl _ ho rfl;refine wpAny_bind (wpAny_setField ho rfl (by show 0<5;decide) (wpAny_bind (wpAny_setField ho1 rfl (by show 1<5;decide) (wpAny_pure ⟨_,rfl,?_⟩))));refine hQ _ (.one (pl+1) (i+1) hb hl h1 ?_ (by rw[if_neg (by lia),Nat.add_sub_cancel,hpd])) ((Yh.update ..).trans (Yh.update ..));rw[hc];exact Yl _ ho1 rfl
theorem zmd {tq:List Addr}{order:List Value}{Q:Option Value->Shared->Prop}(hh:A.handled=none)(r:Rec w s.heap a es ep t)(x:At w s.heap it a es ep t tq order es.size)
  (hQ:∀h',(∀b o,b≠it->s.heap.get? b=some o->h'.get? b=some o)->Q none { s with heap:=h' }):wpAny (model prog w) A (pyNext (.ref it)) Q E s:=by
 have up:∀(k:Nat) (y:Value) (h:Heap) (b:Addr) (o:Obj),b≠it->h.get? b=some o->(h.update it (Obj.mapFields (·.setIfInBounds k y))).get? b=some o:=λk y h b o hb e=>(Yj _ _ (Ne.symm hb)).trans e;have two:∀(slot i:Nat),s.heap.get? it=some (zeR (.int slot 0) i es.size ep a)->wpAny (model prog w) A.in1 (setField (.ref it) 2 .none >>= λ_=>newExc (.type "StopIteration") [] >>= λe=>(raiseNew e:Sem PySem.Fin))
   (λfin s'=>∃u,fin=.done (.ret u)/\Q (some u) s') (λe s'=>wpAny (model prog w) A (isInstance e (.type "StopIteration") >>= λb=>if b=true then pure none else throw e) Q E s') s:=λslot i ho=>by
  refine wpAny_bind (wpAny_setField ho rfl (by show 2<5;decide) ?_);exact wpAny_mono (zmc (E:=E) (R:=Q) hh λh' k=>hQ h' λb o hb e=>k b o (up _ _ _ b o hb e)) (λ_ _ z=>z.elim) λ_ _ z=>z
 cases x with
 | drawn tp ps _ hne ho ht hp=>
  refine zcs ho (zjN (n:=0) r ho ht ?_);have e1:(ps.map λ(p:Nat)=>Value.int (p:Int) 0).toArray[es.size]? = none:=by
   have q:=hp.length_eq;rw[List.length_range]at q;simp[q]
  rw[e1];dsimp only;have ho1:(s.heap.update it (Obj.mapFields (·.setIfInBounds 0 (rawInt 0)))).get? it=some (zeR (.int ((0:Nat):Int) 0) es.size es.size ep a):=Yl _ ho rfl;refine wpAny_bind (wpAny_setField ho rfl (by show 0<5;decide) (wpAny_bind (wpAny_setField ho1 rfl (by show 2<5;decide) ?_)));exact wpAny_mono (zmc (E:=E) (R:=Q) hh λh' k=>hQ h' λb o hb e=>k b o (up _ _ _ b o hb (up _ _ _ b o hb e))) (λ_ _ z=>z.elim) λ_ _ z=>z
 | text slot _ hb ho=>
  refine zcs ho (zeW (n:=0) r ho (wpAny_bind (zeJ r hb ?_)));have q:=(zhC (w.params.setOrder a ep) es).length_eq;have e1:(pickOrder (w.params.setOrder a ep) es)[es.size]? = none:=by
   simp only[Xv]at q;simp[q]
  rw[e1];dsimp only[Option.map];exact two slot _ ho
 | one slot _ hb hl h1 ho h0=>
  refine zcs ho (zeW (n:=0) r ho (wpAny_bind (zfp r hb hl h1 ?_)));have hps:t.place.size=es.size:=by
   have q:=r.fits;simp only[SetTable.fits,YF,beq_iff_eq]at q;exact q.1
  have e0:es[Yc t.place slot]? = none:=by
   rw[h0,below_at r.asc (by lia)];simp
  rw[e0];dsimp only;exact two slot _ ho
theorem zme {Q:Bool->Shared->Prop}(r:Rec w s.heap a es ep t)(h:Q (!byText w&&(!t.plain&&decide (es.size > 1))) s):wpAny (model prog w) A (setDrawn a) Q E s:=by
 unfold setDrawn setsByText;refine wpAny_bind (zaJ r ?_);exact wpAny_bind (wpAny_bind (wpAny_askSetting (wpAny_pure (wpAny_pure h))))
theorem At.keep {h h':Heap}{tq:List Addr}{order:List Value}{i:Nat}(x:At w h it a es ep t tq order i)(k:∀b∈it::tq,∀o,h.get? b=some o->h'.get? b=some o):At w h' it a es ep t tq order i:=by
 cases x with
 | drawn tp ps _ hne ho ht hp=>
  obtain⟨o,q,c⟩:=ht;exact .drawn tp ps i hne (k it (by simp) _ ho) ⟨o,k tp (by simp) o q,c⟩ hp
 | text slot _ hb ho=>exact .text slot i hb (k it (by simp) _ ho)
 | one slot _ hb hl h1 ho h0=>exact .one slot i hb hl h1 (k it (by simp) _ ho) h0
theorem At.len {h:Heap}{tq:List Addr}{order:List Value}{i:Nat}(x:At w h it a es ep t tq order i):order.Perm (es.toList.map (·.2)):=by
 cases x with
 | drawn tp ps _ hne ho ht hp=>
  have e:(XZ es.size).map (λp=>(es.getD p (0,Value.none)).2)=es.toList.map (·.2):=by
   apply List.ext_getElem
   ·simp
   ·intro j h1 h2;simp at h1;simp[Array.getD,h1]
  rw[<- e];exact hp.map _
 | text slot _ hb ho=>exact(zhC _ _).map _
 | one slot _ hb hl h1 ho h0=>exact YC.refl _
theorem zok {Q:Value->Shared->Prop}(r:Rec w s.heap a es ep t)
  (h:∀(h':Heap) (d:Drawn) (it:Addr) (tq:List Addr) (order:List Value),(∀b o,s.heap.get? b=some o->h'.get? b=some o)->s.heap.objs.size<=it->(∀b∈it::tq,s.heap.objs.size<=b/\b<h'.objs.size)->At w h' it a es ep t tq order 0->
   Q (.ref it) { s with heap:=h',drawn:=d }):wpAny (model prog w) A (pyIter (.ref a)) Q E s:=by
 refine wpAny_pyIter_slot r.type PySem.F.slot_set_iter (wpAny_call_entry PySem.F.slot_set_iter r.type F.zga ?_ (PySem.F.args_set_iter_1 _));unfold Builtin.«frozenset.__iter__» Builtin.Frozenset.slot0 slotArgs;simp only[List.isEmpty_nil,Bool.not_true,Xz,if_false,List.length_nil,bne_self_eq_false,bind_assoc];unfold Builtin.Frozenset.addrOf Builtin.Frozenset.sizeOf setEntries setEpoch;refine wpAny_bind (wpAny_pure ?_);dsimp only;refine wpAny_bind (wpAny_pure ?_);simp only[bind_assoc];refine wpAny_bind (zaJ r (wpAny_bind (wpAny_pure (wpAny_bind (wpAny_pure (wpAny_bind (zme r ?_)))))));cases hd:(!byText w&&(!t.plain&&decide (es.size > 1)))with
 | true=>
  simp only[YF,Bool.not_eq_true',decide_eq_true_eq]at hd;simp only[if_true,bind_assoc];refine wpAny_bind (zjM es.size (XZ es.size) _ _ (by simp) λps d hp=>?_);refine wpAny_bind (wpAny_newTuple ?_ (by rw[Xc,hp.length_eq,List.length_range];exact fits_of_scanBound r.sz));dsimp only;have hz:(s.heap.push { cls:=.type "tuple",data:=.seq (ps.map λ(i:Nat)=>rawInt (i:Int)).toArray }).objs.size=s.heap.objs.size+1:=Heap.size_push ..;have r1:Rec w (s.heap.push { cls:=.type "tuple",data:=.seq (ps.map λ(i:Nat)=>rawInt (i:Int)).toArray }) a es ep t:=r.keep λo e=>Xh _ e;refine wpAny_bind (zaJ (s:={ s with heap:=s.heap.push { cls:=.type "tuple",data:=.seq (ps.map λ(i:Nat)=>rawInt (i:Int)).toArray },drawn:=d }) r1 (wpAny_bind (wpAny_pure (wpAny_bind (wpAny_newObj_type (wpAny_pure ?_))))));refine⟨_,rfl,"set_iterator",_,⟨_,XC _ rfl,rfl⟩,F.slot_next.lookup,?_⟩;refine h _ d _ [s.heap.objs.size] _ (λb o e=>Xh _ (Xh _ e)) (by rw[hz];exact Nat.le_succ _) (λb hb=>?_)
   (.drawn s.heap.objs.size ps 0 (by rw[hz];exact XJ (Nat.lt_succ_self _)) (XC _ rfl) ⟨_,Xh _ (XC _ rfl),rfl,_,rfl⟩ hp)
  rw[Heap.size_push,hz];rcases Xx.mp hb with e | hb
  ·rw[hz]at e;rw[e];exact⟨Nat.le_succ _,Nat.lt_succ_self _⟩
  ·have e:=Xl.mp hb;rw[e];exact⟨Xf _,YN (Nat.lt_succ_self _)⟩
 | false=>
  simp only[Xz,if_false];refine wpAny_bind (wpAny_pure (wpAny_bind (zaJ r (wpAny_bind (wpAny_pure (wpAny_bind (wpAny_newObj_type (wpAny_pure ?_))))))));refine⟨_,rfl,"set_iterator",_,⟨_,XC _ rfl,rfl⟩,F.slot_next.lookup,?_⟩;have fin:∀order,At w (s.heap.push (zeR (.int ((0:Nat):Int) 0) 0 es.size ep a)) s.heap.objs.size a es ep t [] order 0->Q (.ref s.heap.objs.size) { s with heap:=s.heap.push (zeR (.int ((0:Nat):Int) 0) 0 es.size ep a) }:=λorder x=>
   h _ s.drawn _ [] order (λb o e=>Xh _ e) (Xf _) (λb hb=>by
    have e:b=s.heap.objs.size:=by simpa using hb
    subst e;rw[Heap.size_push];exact⟨Xf _,Nat.lt_succ_self _⟩) x
  cases hb:byText w with
  | true=>exact fin _ (.text 0 0 hb (XC _ rfl))
  | false=>
   rw[hb]at hd;have hl:t.led=true:=by
    rcases r.led with z | z
    ·exact z
    ·have z':byText w=true:=z;rw[hb]at z';cases z'
   have h1:t.plain=true\/es.size<=1:=by
    cases hp:t.plain with
    | true=>exact .inl rfl
    | false=>
     rw[hp]at hd;simp only[Bool.not_false,Bool.true_and,decide_eq_false_iff_not]at hd;exact .inr (by lia)
   exact fin _ (.one 0 0 hb hl h1 (XC _ rfl) rfl)
theorem walks {tq:List Addr}{order:List Value}(hh:A.handled=none)(hta:a∉it::tq)(h0:order.length=es.size) :
  WalksS prog w A it (it::a::tq) [it] (λx y=>y=x) es.size (λi v=>order[i]? = some v) (λi s=>Rec w s.heap a es ep t/\At w s.heap it a es ep t tq order i) where
 sub:=λb hb=>by
  have e:b=it:=by simpa using hb
  subst e;exact Xj
 grefl:=λ_=>rfl
 gtrans:=λ_ _ _ h1 h2=>h2.trans h1
 frame:=λi s h' tk st _ k=>⟨st.1.keep λo e=>k a (by simp) o e,st.2.keep λb hb o e=>k b (by
  rcases Xx.mp hb with z | z
  ·subst z;exact Xj
  ·exact Xg _ (Xg _ z)) o e⟩
 item:=λi s Q E hi st hQ=>by
  have hv:order[i]? = some (order[i]'(by lia)):=by simp
  refine next_item st.1 st.2 hv λh' x sb=>?_;have ne:a≠it:=λz=>hta (by rw[z];exact Xj);exact hQ _ _ hv ⟨st.1.keep λo e=>(sb.2 a ne).trans e,x⟩ ⟨λb o hb e=>(sb.2 b (λz=>hb (by simp[z]))).trans e,rfl,rfl,rfl,Xf _⟩
 done:=λs Q E st hQ=>zmd hh st.1 st.2 λh' k=>hQ _ ⟨λb o hb e=>k b o (λz=>hb (by simp[z])) e,rfl,rfl,rfl,Xf _⟩
 self:=λi s Q E st hQ=>by
  have hT:s.TypeIs (.ref it) "set_iterator":=by
   rcases st.2 with ⟨tp,ps,_,_,ho,_⟩ | ⟨slot,_,_,ho⟩ | ⟨slot,_,_,_,_,ho,_⟩
   ·exact⟨_,ho,rfl⟩
   ·exact⟨_,ho,rfl⟩
   ·exact⟨_,ho,rfl⟩
  refine wpAny_pyIter_slot hT F.zhD (wpAny_call_entry F.zhD hT F.zla ?_ (F.zmb _));show wpAny _ _ (ret (.ref it)) _ _ s;exact wpAny_pure ⟨_,rfl,"set_iterator",_,hT,F.slot_next.lookup,hQ⟩
theorem zfq {Q:List Value->Shared->Prop}(hh:A.handled=none)(r:Rec w s.heap a es ep t)
  (h:∀(h':Heap) (d:Drawn) (tk:Nat) (order:List Value),order.Perm (es.toList.map (·.2))->(∀b o,s.heap.get? b=some o->h'.get? b=some o)->Q order { s with heap:=h',drawn:=d,toks:=tk }):wpAny (model prog w) A (collect (.ref a)) Q E s:=by
 unfold collect;refine wpAny_bind (wpAny_runValue (codeAny_builtin PySem.F.entry_proto_collect ?_));rw[Around.under_plainId PySem.F.plain_proto_collect _];show wpAny _ A.in1 (newList [] >>= λl=>again (.builtin "list.__iadd__" ⟨[l,.ref a],[]⟩)) _ _ s;refine wpAny_bind (wpAny_newList (wpAny_pure ⟨plainId_quiet PySem.F.plain_list_iadd _,codeAny_builtin PySem.F.entry_list_iadd ?_⟩));rw[Around.under_plainId PySem.F.plain_list_iadd _];have hS0:(s.heap.push { cls:=.type "list",data:=.seq ([]:List Value).toArray }).get? s.heap.objs.size=some { cls:=.type "list",data:=.seq ([]:List Value).toArray }:=XC _ rfl;have hz0:(s.heap.push { cls:=.type "list",data:=.seq ([]:List Value).toArray }).objs.size=s.heap.objs.size+1:=Heap.size_push ..;have r0:Rec w (s.heap.push { cls:=.type "list",data:=.seq ([]:List Value).toArray }) a es ep t:=r.keep λo e=>Xh _ e;have haS:a<s.heap.objs.size:=by obtain⟨o,e,_⟩:=r.obj;exact XA e
 show wpAny _ A.in1 (Builtin.List.listExtendWith (.ref s.heap.objs.size) (.ref a) (.ref s.heap.objs.size)) _ _ { s with heap:=s.heap.push { cls:=.type "list",data:=.seq ([]:List Value).toArray } };unfold Builtin.List.listExtendWith;refine wpAny_bind (wpAny_typeOf (T:="set") r0.type ?_);have h1:Builtin.List.listSameRef (.ref s.heap.objs.size) (.ref a)=false:=by simp[Builtin.List.listSameRef,Nat.ne_of_gt haS]
 have h2:(Value.type "set" == Value.type "list")=false:=by decide
 have h3:(Value.type "set" == Value.type "tuple")=false:=by decide
 simp only[h1,h2,h3,Bool.or_false,Xz,if_false];refine wpAny_bind (zok (s:={ s with heap:=s.heap.push { cls:=.type "list",data:=.seq ([]:List Value).toArray } }) r0 λh' d it tq order kp hit hfp x=>?_);have rT:Shared.TypeIs { s with heap:=h',drawn:=d } (.ref a) "set":=(r0.keep λo e=>kp a o e).type;have room:∀ {Q':Bool->Shared->Prop} {A':Around} {E':Value->Shared->Prop},Q' false { s with heap:=h',drawn:=d }->wpAny (model prog w) A' (Builtin.List.listLengthHint (.ref a)) Q' E' { s with heap:=h',drawn:=d }:=λ{Q' A' E'} hq=>by
  unfold Builtin.List.listLengthHint;refine wpAny_bind (wpAny_specialOf rT PySem.F.slot_set_len.lookup ?_);generalize hid:("set.__len__" : String)=id0;wp_delta;rw[show splitId id0=some ("set","__len__") from by subst hid;decide +kernel];subst hid;refine wpAny_bind (wpAny_isInstance (T:="set") (b:=true) rT (by rw[isSubtype_type];kernel_rfl) ?_);refine wpAny_ite_split (λhab=>absurd hab (by decide)) (λ_=>wpAny_ite_split (λ_=>?_) (λhab=>absurd (by decide +kernel) hab));exact wpAny_bind (wpAny_typeOf rT (wpAny_pure hq))
 refine wpAny_bind (wpAny_holding (room ?_));show wpAny _ A.in1 (rule "list.extend.makes-room" >>= λ_=>Builtin.List.listTouch (.ref s.heap.objs.size) >>= λ_=>again (.builtin "list.extend.loop" ⟨[.ref s.heap.objs.size,.ref it,.ref s.heap.objs.size],[]⟩)) _ _ { s with heap:=h',drawn:=d };refine wpAny_bind (wpAny_rule ?_);have hS1:h'.get? s.heap.objs.size=some { cls:=.type "list",data:=.seq ([]:List Value).toArray }:=kp _ _ hS0;refine wpAny_bind ?_;show wpAny _ A.in1 (updateSeq s.heap.objs.size (·.push .none) >>= λ_=>updateSeq s.heap.objs.size (·.pop)) _ _ { s with heap:=h',drawn:=d };refine wpAny_bind (wpAny_updateSeq hS1 rfl ?_);have hS2:=Yl (Obj.mapSeq (·.push Value.none)) hS1 rfl;refine wpAny_updateSeq hS2 rfl ?_;have hS3:=Yl (Obj.mapSeq (·.pop)) hS2 rfl;have oth:∀b o,b≠s.heap.objs.size->h'.get? b=some o->((h'.update s.heap.objs.size (Obj.mapSeq (·.push Value.none))).update s.heap.objs.size (Obj.mapSeq (·.pop))).get? b=some o:=
  λb o hb e=>(Yj _ _ (Ne.symm hb)).trans ((Yj _ _ (Ne.symm hb)).trans e)
 have hlow:∀b∈it::tq,s.heap.objs.size<b:=λb hb=>by
  have q:=(hfp b hb).1;dsimp only at q;rw[hz0]at q;exact q
 have hta:a∉it::tq:=λz=>Nat.lt_asymm haS (hlow a z);have hSf:s.heap.objs.size∉it::a::tq:=λz=>by
  rcases Xx.mp z with e | z
  ·exact absurd (hlow it Xj) (by rw[<- e];exact YJ _)
  ·rcases Xx.mp z with e | z
   ·exact absurd haS (by rw[<- e];exact YJ _)
   ·exact absurd (hlow _ (Xg _ z)) (YJ _)
 have W:=walks (prog:=prog) (w:=w) (A:=A.in1) (it:=it) (a:=a) (es:=es) (ep:=ep) (t:=t) (tq:=tq) (order:=order) (by simpa using hh) hta (by rw[x.len.length_eq];simp);refine wpAny_pure ⟨plainId_quiet PySem.F.plain_extend_loop _,codeAny_extend_loopS W (fits_of_scanBound r.sz) _ hSf _ es.size 0 _ _ _ rfl (XU _) ⟨(r0.keep λo e=>kp a o e).keep λo e=>oth a o (XJ haS) e,x.keep λb hb o e=>oth b o (Nat.ne_of_gt (hlow b hb)) e⟩ hS3 (ItemsOf.nil _) λs' acc' c' hm hS' hacc=>?_⟩;show wpAny _ A (load s.heap.objs.size >>= _) _ _ s';refine wpAny_bind (wpAny_load hS' (wpAny_pure ?_));have eacc:acc'.toList=order:=by
  apply List.ext_getElem?;intro j;by_cases hj:j<es.size
  ·have q1:acc'[j]? = some (acc'[j]'(by rw[hacc.1];exact hj)):=by simp[hacc.1,hj]
   have q2:=hacc.2 j _ q1;rw[q2,<- q1];simp
  ·have q1:acc'.toList[j]? = none:=by simp[hacc.1];lia
   have q3:order.length=es.size:=by rw[x.len.length_eq];simp
   have q2:order[j]? = none:=by simp[q3];lia
   rw[q1,q2]
 rw[eacc];obtain⟨h2',g2,d2,t2,o2⟩:=s';have e1:g2=s.gens:=hm.gens;have e2:d2=d:=hm.drawn;have e3:o2=s.os:=hm.os;subst e1 e2 e3;refine h h2' d2 t2 order x.len λb o e=>?_;have hb:b<s.heap.objs.size:=XA e;refine hm.heap b o (λz=>?_) (oth b o (XJ hb) (kp b o (Xh _ e)));rcases Xx.mp z with q | q
 ·exact XJ hb q
 ·have q':b=it:=by simpa using q
  exact absurd (hlow it Xj) (by rw[<- q'];exact Nat.lt_asymm hb)
end
open PySem PySem.Spec PyProof.Rows
noncomputable def sOf:Value->Str
 | .str x _=>x
 | _=>Str.empty
theorem zgj {t t':SetTable}{hs:Array Int}{n:Nat}{o:Array Nat}(h:t.relaid hs n=some (t',o)):t'.led=t.led/\t'.plain=t.plain:=by
 unfold SetTable.relaid SetTable.laid at h;cases e:SetTable.layClean (YO n-1) hs with
 | none=>rw[e]at h;cases h
 | some ow=>
  rw[e]at h;have q:=Option.some.inj h;rw[<- (Prod.mk.inj q).1];exact⟨rfl,rfl⟩
theorem zlc (t:SetTable)(es:Array (Int×Value))(h:Int)(x:Value):(layNew t es h x).2.1.led=t.led/\(t.plain=false->(layNew t es h x).2.1.plain=false):=by
 unfold layNew;cases e:t.freeSlot h with
 | none=>exact⟨rfl,λ_=>rfl⟩
 | some p=>
  obtain⟨slot,dm⟩:=p;dsimp only;unfold SetTable.orStandIn;split
  ·exact⟨rfl,λz=>z⟩
  ·exact⟨rfl,λ_=>rfl⟩
theorem zmf (t:SetTable)(es:Array (Int×Value))(n:Nat):(relayAll t es n).2.1.led=t.led/\(t.plain=false->(relayAll t es n).2.1.plain=false):=by
 unfold relayAll;cases e:t.relaid (es.map (·.1)) n with
 | none=>exact⟨rfl,λ_=>rfl⟩
 | some p=>
  obtain⟨t',o⟩:=p;dsimp only;split
  ·exact⟨(zgj e).1,λz=>(zgj e).2.trans z⟩
  ·exact⟨rfl,λ_=>rfl⟩
theorem zgk {xs:Array Nat}(ha:Asc xs){j:Nat}(hn:¬ (xs[Yc xs j]? == some j)=true):Asc (Yf xs (Yc xs j) j):=by
 obtain⟨h1,h2,h3⟩:=zeV ha j;generalize Yc xs j=r at h1 h2 h3 hn;have hnot:∀i,r<=i->i<xs.size->j<xs.getD i 0:=λi g1 g2=>by
  have q:=h3 r (Xf _) (by lia);have q2:xs.getD r 0≠j:=λe=>by
   have hr:r<xs.size:=by lia
   have e2:xs[r]=j:=by simpa[Array.getD,hr]using e
   exact hn (by rw[getElem?_pos xs r hr,e2];simp)
  rcases YG r i with z | z
  ·have:=ha.lt z g2;omega
  ·have:i=r:=by lia
   subst this;omega
 have hl:(Yf xs r j).toList=xs.toList.take r++[j]++xs.toList.drop r:=by
  unfold Yf;simp[Array.toList_extract,YL,Xi]
 unfold Asc;rw[hl,XM,XM];refine⟨⟨List.Pairwise.sublist (List.take_sublist _ _) ha,by simp,λa hm b hb=>?_⟩,List.Pairwise.sublist (List.drop_sublist _ _) ha,λa hm b hb=>?_⟩
 ·rw[Xl.mp hb];obtain⟨i,hi,rfl⟩:=YH.mp hm;rw[XH]at hi;rw[List.getElem_take];have q:=h2 i (by lia);simpa[Array.getD,show i<xs.size by lia]using q
 ·obtain⟨i,hi,rfl⟩:=YH.mp hb;rw[List.length_drop,Xv]at hi;rw[List.getElem_drop];have q:=hnot (r+i) (by lia) (by lia);have q:j<xs.toList[r+i]'(by simp;lia):=by simpa[Array.getD,show r+i<xs.size by lia]using q
  rcases Xr.mp hm with hm | hm
  ·obtain⟨k,hk,rfl⟩:=YH.mp hm;rw[XH]at hk;rw[List.getElem_take];have q2:=h2 k (by lia);have q2:xs.toList[k]'(by simp;omega)<j:=by simpa[Array.getD,show k<xs.size by omega]using q2
   omega
  ·rw[Xl.mp hm];exact q
theorem zjO (t:SetTable)(hd:t.dummies = #[])(g:Nat->Int)(h:Int):∀(fuel:Nat)(p:SetTable.Probe)(j:Nat)(d:Option Nat),p.dummy=none->SetTable.probe.go t g h fuel p=some (.empty j d)->d=none/\t.slot j=.empty
 | 0,p,j,d,hp,e=>by unfold SetTable.probe.go at e;cases e
 | fuel+1,p,j,d,hp,e=>by
  have hadv:(t.advance p).dummy=none:=by unfold SetTable.advance;split<;>exact hp
  have hh:SetTable.has t.dummies p.j=false:=by rw[hd];unfold SetTable.has;simp
  have hno:t.slot p.j≠.dummy:=λz=>by
   unfold SetTable.slot at z;dsimp only at z;rw[hh]at z;simp only[Xz,if_false]at z;split at z<;>cases z
  unfold SetTable.probe.go at e;cases hs:t.slot p.j with
  | empty=>rw[hs]at e;cases e;exact⟨hp,hs⟩
  | dummy=>exact absurd hs hno
  | live i=>
   rw[hs]at e;dsimp only at e;split at e
   ·cases e
   ·exact zjO t hd g h fuel _ j d hadv e
theorem zld {t:SetTable}(ha:Asc t.place)(hd:t.dummies = #[])(es:Array (Int×Value))(h:Int)(x:Value):Asc (layNew t es h x).2.1.place/\(layNew t es h x).2.1.dummies = #[]:=by
 unfold layNew;cases e:t.freeSlot h with
 | none=>exact⟨zdP _,rfl⟩
 | some p=>
  obtain⟨slot,dm⟩:=p;dsimp only;unfold SetTable.orStandIn;split
  ·unfold SetTable.freeSlot at e;have hs:t.slot slot=.empty:=by
    cases hp:t.probe (λ_=>h+1) h (t.probeStart h)with
    | none=>rw[hp]at e;cases e
    | some m=>
     rw[hp]at e;cases m with
     | candidate j i n=>cases e
     | empty j d=>
      obtain⟨q1,q2⟩:=zjO t hd _ _ _ _ _ _ rfl hp;subst q1;cases e;exact q2
   unfold SetTable.put;dsimp only;have hnh:SetTable.has t.dummies slot=false:=by rw[hd];unfold SetTable.has;simp
   rw[hnh];refine⟨zgk ha λz=>?_,hd⟩;unfold SetTable.slot at hs;rw[if_pos z]at hs;cases hs
  ·exact⟨zdP _,rfl⟩
theorem zgl {t t':SetTable}{hs:Array Int}{n:Nat}{o:Array Nat}(h:t.relaid hs n=some (t',o)):Asc t'.place/\t'.dummies = #[]:=by
 unfold SetTable.relaid SetTable.laid at h;cases e:SetTable.layClean (YO n-1) hs with
 | none=>rw[e]at h;cases h
 | some ow=>
  rw[e]at h;have q:=Option.some.inj h;rw[<- (Prod.mk.inj q).1];refine⟨?_,rfl⟩;unfold Asc;dsimp only;rw[List.pairwise_map,List.pairwise_filterMap];refine List.pairwise_lt_range.imp λ{a b} hab p hp q hq=>?_;cases ha:ow.getD a none with
  | none=>rw[ha]at hp;cases hp
  | some x=>
   cases hb:ow.getD b none with
   | none=>rw[hb]at hq;cases hq
   | some y=>rw[ha]at hp;rw[hb]at hq;cases hp;cases hq;exact hab
theorem zmg {t:SetTable}(es:Array (Int×Value))(n:Nat):Asc (relayAll t es n).2.1.place/\(relayAll t es n).2.1.dummies = #[]:=by
 unfold relayAll;cases e:t.relaid (es.map (·.1)) n with
 | none=>exact⟨zdP _,rfl⟩
 | some p=>
  obtain⟨t',o⟩:=p;dsimp only;split
  ·exact zgl e
  ·exact⟨zdP _,rfl⟩
noncomputable def KSet {α:Type} [DecidableEq α] {prog:Program}{w:World}(knd:PySem.KeyKind prog w α)(of:Value->α)(h:Heap)(a:Addr)(xs:List α):Prop:=
 ∃es ep t,Rec w h a es ep t/\ElemsOf knd es.toList/\(es.toList.map λe=>of e.2).Perm xs/\xs.Nodup
noncomputable def addS {α:Type} [DecidableEq α] (xs:List α)(y:α):List α:=if y∈xs then xs else y::xs
noncomputable abbrev zmh (prog:Program)(w:World):Heap->Addr->List Str->Prop:=KSet (PySem.strKind prog w) sOf
section
variable {α:Type} [DecidableEq α] {prog:Program}{w:World}{A:Around}{E:Value->Shared->Prop}{s:Shared}{a:Addr}{knd:PySem.KeyKind prog w α}{of:Value->α}
theorem KSet.keep {h h':Heap}{xs:List α}(S:KSet knd of h a xs)(k:∀o,h.get? a=some o->h'.get? a=some o):KSet knd of h' a xs:=
 let ⟨es,ep,t,r,q⟩:=S;⟨es,ep,t,r.keep k,q⟩
theorem zgK {h:Heap}{es es':Array (Int×Value)}{ep:Nat}{t t':SetTable}(r:Rec w h a es ep t)(hf:t'.fits es'.size=true)(hl:t'.led=t.led)(hp:Asc t'.place/\t'.dummies = #[])(hz:es'.size<scanBound) :
  Rec w (h.update a (Obj.putSet es' t')) a es' (ep+1) t':=by
 obtain⟨o,ho,hex,hd⟩:=r.obj;have hg:(h.update a (Obj.putSet es' t')).get? a=some { o with data:=.set es' (ep+1) t' }:=by
  have q:=Yl (Obj.putSet es' t') ho (by rw[putSet_of es' t' hd];rfl)
  rwa [putSet_of es' t' hd]at q
 exact⟨⟨_,hg,hex,rfl⟩,hf,by rw[hl];exact r.led,hp.1,hp.2,hz⟩
theorem zdQ {es es':Array (Int×Value)}{ep:Nat}{t t':SetTable}{Q:Unit->Shared->Prop}(r:Rec w s.heap a es ep t)(hz:es'.size<scanBound)(h:Q () { s with heap:=s.heap.update a (Obj.putSet es' t') }):wpAny (model prog w) A (storeSet a es' t') Q E s:=by
 obtain⟨o,ho,_,hd⟩:=r.obj;exact wpAny_storeSet_of ho hd h (fits_of_scanBound hz)
theorem zsl {es:List (Int×Value)}{y:α}(hof:∀k v,knd.is k v=true->of v=k)(hel:ElemsOf knd es):(∃e∈es,knd.is y e.2=true)↔y∈es.map λe=>of e.2:=by
 constructor
 ·rintro⟨e,he,hi⟩;exact Xt.mpr ⟨e,he,hof _ _ hi⟩
 ·intro hm;obtain⟨e,he,q⟩:=Xt.mp hm;obtain⟨⟨k,hk,_⟩,_⟩:=hel e he;refine⟨e,he,?_⟩;rw[hof _ _ hk]at q;rw[<- q];exact hk
theorem zsm {xs:List α}{y:α}{x:Value}{Q:Bool->Shared->Prop}(hof:∀k v,knd.is k v=true->of v=k)(hkey:knd.is y x=true)(hsc:x.scannable=true)(S:KSet knd of s.heap a xs)(hroom:xs.length+1<scanBound)
  (h:∀h' b,Yh a s.heap h'->KSet knd of h' a (addS xs y)->Q b { s with heap:=h' }):wpAny (model prog w) A (setAddHashed a x (knd.hash y)) Q E s:=by
 obtain⟨es,ep,t,r,hel,hp,nd⟩:=S;obtain⟨o,ho,hex,hd⟩:=r.obj;have hsz:es.size=xs.length:=by rw[<- hp.length_eq];simp
 have hmem:(∃e∈es.toList,knd.is y e.2=true)↔y∈xs:=(zsl hof hel).trans hp.mem_iff;unfold setAddHashed;refine wpAny_holding ?_;show wpAny _ _ (bind (setState a) _) _ _ s;refine wpAny_bind (zaJ r ?_);dsimp only;rw[byScan_of hsc r.sz hel];simp only[if_true];unfold setAddByScan;refine wpAny_bind (wpAny_bind (wpAny_rule (wpAny_bind (wpAny_setScan_of (knd:=knd) hkey ho hd r.fits hel ?_))));cases hr:List.findIdx? (λe=>knd.is y e.2) es.toList with
 | some j=>
  obtain⟨hj,hpj,_⟩:=List.findIdx?_eq_some_iff_getElem.mp hr;have hy:y∈xs:=hmem.mp ⟨_,Yr hj,hpj⟩;have q:=h s.heap false (Yh.refl a s.heap) (by unfold addS;rw[if_pos hy];exact⟨es,ep,t,r,hel,hp,nd⟩);exact wpAny_pure (wpAny_pure q)
 | none=>
  have hy:y∉xs:=λz=>by
   obtain⟨e,he,hpe⟩:=hmem.mpr z;have q:=List.findIdx?_eq_none_iff.mp hr e he;rw[hpe]at q;cases q
  have hgw:∀(b:Bool) {s₁:Shared} {Q':Unit->Shared->Prop},Q' () s₁->wpAny (model prog w) A (match b with | true=>rule "set.scan.the-table-gave-way" | false=>pure ()) Q' E s₁:=λb s₁ Q' hq=>by
   cases b
   ·exact wpAny_pure hq
   ·exact wpAny_rule hq
  have p1:=layNew_perm t es (knd.hash y) x;have f1:=layNew_fits t es (knd.hash y) x;have l1:=zlc t es (knd.hash y) x;have g1:=zld r.asc r.dm es (knd.hash y) x;generalize hL:layNew t es (knd.hash y) x=L at p1 f1 l1 g1 ⊢;obtain⟨es1,t1,dm,gave⟩:=L;dsimp only at p1 f1 l1 g1 ⊢;rw[Array.toList_push]at p1;have hel1:ElemsOf knd es1.toList:=(hel.push hkey hsc).perm p1;have z1:es1.size=xs.length+1:=by rw[<- Xv,p1.length_eq,XB,Xv,hsz];rfl
  have b1:es1.size<scanBound:=by rw[z1];exact hroom
  have m1:(es1.toList.map λe=>of e.2).Perm (y::xs):=by
   refine(p1.map _).trans ?_;rw[Xm];refine(Yy).trans ?_;show(of x::es.toList.map λe=>of e.2).Perm _;rw[hof _ _ hkey];exact hp.cons y
  have nd1:(y::xs).Nodup:=Yi.mpr ⟨hy,nd⟩;have eadd:addS xs y=y::xs:=by unfold addS;rw[if_neg hy]
  rw[eadd]at h;refine wpAny_bind (hgw gave ?_);have tail:∀t2:SetTable,t2.fits es1.size=true->t2.led=t.led->(Asc t2.place/\t2.dummies = #[])->wpAny (model prog w) A (do
    storeSet a es1 t2
    if (!dm&&t2.tooFull)=true then do
     (match (relayAll t2 es1 (YI es1.size)).2.2 with | true=>rule "set.scan.the-table-gave-way" | false=>pure ())
     storeSet a (relayAll t2 es1 (YI es1.size)).1 (relayAll t2 es1 (YI es1.size)).2.1
     pure (some true)
    else pure (some true)) (λr s'=>wpAny (model prog w) A (match r with | some added=>pure added | none=>setAddHashedIn a x (knd.hash y) 99999) Q E s') E s:=λt2 f2 l2 p2=>by
   have r2:=zgK (w:=w) r f2 l2 p2 b1;have sb1:=Yh.update s.heap a (Obj.putSet es1 t2);refine wpAny_bind (zdQ r b1 ?_);split
   ·have p3:=relayAll_perm t2 es1 (YI es1.size);have f3:=relayAll_fits t2 es1 (YI es1.size);have l3:=zmf t2 es1 (YI es1.size);have g3:=zmg (t:=t2) es1 (YI es1.size);generalize hR:relayAll t2 es1 (YI es1.size)=R at p3 f3 l3 g3 ⊢;obtain⟨es2,t3,gave2⟩:=R;dsimp only at p3 f3 l3 g3 ⊢;have z2:es2.size=es1.size:=by rw[<- Xv,p3.length_eq,Xv]
    refine wpAny_bind (hgw gave2 (wpAny_bind (zdQ (s:={ s with heap:=s.heap.update a (Obj.putSet es1 t2) }) r2 (by rw[z2];exact b1) (wpAny_pure (wpAny_pure ?_)))));exact h _ true (sb1.trans (Yh.update _ a _)) ⟨es2,_,t3,zgK r2 f3 l3.1 g3 (by rw[z2];exact b1),hel1.perm p3,(p3.map _).trans m1,nd1⟩
   ·exact wpAny_pure (wpAny_pure (h _ true sb1 ⟨es1,_,t2,r2,hel1,m1,nd1⟩))
  cases hpl:t1.plain with
  | true=>
   simp only[if_true];rw[hashByValue_scannable 8 (x:=x) hsc];refine wpAny_bind (wpAny_pure ?_);cases plainKind x with
   | true=>exact tail t1 f1 l1.1 g1
   | false=>exact tail { t1 with plain:=false } (SetTable.fits_plain_off f1) l1.1 g1
  | false=>
   simp only[Xz,if_false];refine wpAny_bind (wpAny_pure ?_);exact tail t1 f1 l1.1 g1
end
section
variable {α:Type} [DecidableEq α]
theorem zol {xs:List α}{y x:α}:x∈addS xs y↔x=y\/x∈xs:=by
 unfold addS;split
 ·rename_i h
  constructor
  ·exact .inr
  ·rintro(rfl | h')
   ·exact h
   ·exact h'
 ·exact Xx
theorem zom (xs:List α)(y:α):(addS xs y).length<=xs.length+1:=by
 unfold addS;split
 ·lia
 ·simp
theorem zhE:∀(ys xs:List α)(x:α),x∈ys.foldl addS xs↔x∈xs\/x∈ys
 | [],xs,x=>by simp
 | y::ys,xs,x=>by
  rw[YK,zhE ys (addS xs y) x,zol,Xx];constructor
  ·rintro((h | h) | h)
   ·exact .inr (.inl h)
   ·exact .inl h
   ·exact .inr (.inr h)
  ·rintro(h | h | h)
   ·exact .inl (.inr h)
   ·exact .inl (.inl h)
   ·exact .inr h
theorem zfr:∀(ys xs:List α),(ys.foldl addS xs).length<=xs.length+ys.length
 | [],xs=>by simp
 | y::ys,xs=>by
  rw[YK];have h1:=zfr ys (addS xs y);have h2:=zom xs y;rw[Ya];lia
end
section
variable {α:Type} [DecidableEq α] {prog:Program}{w:World}{A:Around}{R:Result->Shared->Prop}{I:Addr}{fp wr:List Addr}{G:Array GenState->Array GenState->Prop}{n:Nat}{P:Nat->Value->Prop}{St:Nat->Shared->Prop}{knd:PySem.KeyKind prog w α}{of:Value->α}
theorem ziX (W:WalksS prog w A.in1 I fp wr G n P St)(S:Addr)(hSf:S∉fp)(ys:List α)(hn:ys.length=n)(hof:∀k v,knd.is k v=true->of v=k)(hval:∀i v,P i v->∃y,ys[i]? = some y/\knd.is y v=true/\v.scannable=true)(hb:n+1<scanBound) :
  ∀(k i:Nat) (s:Shared),n-i=k->i<=n->St i s->KSet knd of s.heap S ((ys.take i).foldl addS [])->
   (∀s',Moved (S::wr) G s s'->KSet knd of s'.heap S (ys.foldl addS [])->R (.ok (.ret .none)) s')->
   codeAny (model prog w) A (.builtin "set.update.loop" ⟨[.ref S,.ref I],[]⟩) R s:=by
 have hSw:S∉wr:=λh=>hSf (W.sub _ h);intro k;induction k with
 | zero=>
  intro i s hk hi hst hS hR;have hin:i=n:=by lia
  subst hin;refine codeAny_builtin PyProof.Rows.F.entry_set_update_loop ?_;rw[Around.under_plainId PyProof.Rows.F.plain_set_update_loop _];show wpAny _ A.in1 (pyNext (.ref I) >>= _) _ _ s;refine wpAny_bind (W.done s _ _ hst λs' hm=>wpAny_pure (hR s' (hm.mono λb hb=>Xg _ hb) ?_));rw[Xi (by lia)]at hS;exact hS.keep λo e=>hm.heap S o hSw e
 | succ k ih=>
  intro i s hk hi hst hS hR;have hlt:i<n:=by lia
  refine codeAny_builtin PyProof.Rows.F.entry_set_update_loop ?_;rw[Around.under_plainId PyProof.Rows.F.plain_set_update_loop _];show wpAny _ A.in1 (pyNext (.ref I) >>= _) _ _ s;refine wpAny_bind (W.item i s _ _ hlt hst λv s' hP hst' hm=>?_);obtain⟨y,hy,hkey,hsc⟩:=hval i v hP;have hS':=hS.keep λo e=>hm.heap S o hSw e;show wpAny _ A.in1 (holding [v] (setAdd S v) >>= _) _ _ s';refine wpAny_bind (wpAny_holding ?_);unfold setAdd;refine wpAny_holding (wpAny_bind (knd.pyHash (k:=y) hkey ?_));have hroom:((ys.take i).foldl addS []).length+1<scanBound:=by
   have q:=zfr (ys.take i) [];rw[XH]at q;simp at q;lia
  refine zsm (s:=_) hof hkey hsc hS' hroom λh' b hsb hS2=>?_;have hSi:KSet knd of h' S ((ys.take (i+1)).foldl addS []):=by
   rw[XD,hy,List.foldl_append];exact hS2
  refine wpAny_pure ⟨plainId_quiet PyProof.Rows.F.plain_set_update_loop _,ih (i+1) _ (by lia) hlt (W.frame _ s' _ _ hst' (by first | exact Xf _ | exact Nat.le_succ _) λb hb o e=>?_) hSi λs'' hm'' hS''=>?_⟩
  ·rw[hsb.2 b (λh:b=S=>hSf (by rw[<- h];exact hb))];exact e
  ·refine hR s'' (Moved.trans W.gtrans ((hm.mono λb hb=>Xg _ hb).then_heap (by first | exact Xf _ | exact Nat.le_succ _) λb o hb e=>?_) hm'') hS''
   rw[hsb.2 b (λh:b=S=>hb (by rw[h];exact Xj))];exact e
end
noncomputable abbrev zbx (w:World):Obj:={ cls:=.type "set",dict:=none,data:=.set #[] 0 (.fresh 0 0 (!byText w)) }
theorem zon {α:Type} [DecidableEq α] {prog:Program}{w:World}{knd:PySem.KeyKind prog w α}{of:Value->α}{h:Heap}{a:Addr}(e:h.get? a=some (zbx w)):KSet knd of h a []:=by
 refine⟨#[],0,_,⟨⟨_,e,⟨rfl,rfl,rfl⟩,rfl⟩,by rfl,?_,List.Pairwise.nil,rfl,by decide⟩,λz hz=>by simp at hz,by simp,List.nodup_nil⟩;show(!byText w)=true\/byText w=true;cases byText w
 ·exact .inl rfl
 ·exact .inr rfl
section
variable {prog:Program}{w:World}{A:Around}{E:Value->Shared->Prop}{s:Shared}
theorem zqm (x:Value){Q₁:Value->Shared->Prop}(h:Q₁ (.ref s.heap.objs.size) { s with heap:=s.heap.push (zbx w) }) :
  codeAny (model prog w) A (.call (.builtin "set.__new__") ⟨[.type "set",x],[]⟩) (wants Q₁ E) s:=by
 refine codeAny_of_tree ?_;show wpAny _ A.in1 (do checkBuiltinCall "set.__new__" ⟨[.type "set",x],[]⟩;again (.builtin "set.__new__" ⟨[.type "set",x],[]⟩)) _ _ s
 refine wpAny_bind (wpAny_of_eq (PySem.F.newCall_set_1 x) (wpAny_pure ⟨plainId_quiet PySem.F.plain_set_new _,codeAny_builtin PySem.F.entry_set_new ?_⟩));rw[Around.under_plainId PySem.F.plain_set_new _];unfold Builtin.«set.__new__» Builtin.Frozenset.newClass;have hsub:=sub_set_self;obtain⟨hp,g,d,tk,os⟩:=s;dsimp only
 wp_walk
 refine wpAny_askSetting (wpAny_pure ?_);dsimp only;simp only[newObj];exact wpAny_bind (wpAny_alloc (wpAny_pure (wpAny_pure h)))
theorem zhF {l:Addr}{items:Array Value}{SP:Heap->Addr->Prop}{Q:Value->Shared->Prop}(hh:A.handled=none)(hl:s.heap.IsList l items)
  (loop:∀ {A':Around} {R:Result->Shared->Prop} {I:Addr} {fp wr:List Addr} {G:Array GenState->Array GenState->Prop} {P:Nat->Value->Prop} {St:Nat->Shared->Prop} (W:WalksS prog w A'.in1 I fp wr G items.size P St) (S:Addr),A'.units<=A.units+8->S∉fp->(∀i v,P i v->items[i]? = some v)->(∀b,b<s.heap.objs.size->b∉S::wr)->∀s1:Shared,(∀b o,s.heap.get? b=some o->s1.heap.get? b=some o)->St 0 s1->s1.heap.get? S=some (zbx w)->(∀s',Moved (S::wr) G s1 s'->SP s'.heap S->R (.ok (.ret .none)) s')->
   codeAny (model prog w) A' (.builtin "set.update.loop" ⟨[.ref S,.ref I],[]⟩) R s1)
  (h:∀(h':Heap) (tk:Nat),SP h' s.heap.objs.size->(∀b o,s.heap.get? b=some o->h'.get? b=some o)->Q (.ref s.heap.objs.size) { s with heap:=h',toks:=tk }) :
  wpAny (model prog w) A (call (.type "set") [.ref l]) Q E s:=by
 obtain⟨c,tl,hmro⟩:=PySem.F.called_set.mro;have hmade:=PySem.F.called_set.made;have hsub:=PySem.F.called_set.sub;refine wpAny_call (codeAny_of_tree ?_);show wpAny _ _ (callAny (.type "set") _) _ _ _;refine wpAny_pure ⟨Code.quiet_builtin _ (by decide +kernel),codeAny_builtin PySem.F.entry_type_call ?_⟩;rw[Around.under_plain (weight_type_call_type "set" [.ref l] []) rfl];have h1:=PySem.F.called_set.notType;have h2:=PySem.F.called_set.canCreate;have hct:=PySem.F.typeCall_set_1 (.ref l)
 repeat (any_goals (first | assumption | wp_step))
 refine codeAny_mono (zqm (.ref l) (E:=E) (Q₁:=λob s1=>ob=.ref s.heap.objs.size/\s1={ s with heap:=s.heap.push (zbx w) }) ⟨rfl,rfl⟩) λr s1 hr=>?_;cases r with
 | error e=>exact hr
 | ok fl=>
  cases fl with
  | ret ob=>
   obtain⟨rfl,rfl⟩:=hr;have hS:(s.heap.push (zbx w)).get? s.heap.objs.size=some (zbx w):=XC _ rfl;have hT:Shared.TypeIs { s with heap:=s.heap.push (zbx w) } (.ref s.heap.objs.size) "set":=⟨_,hS,rfl⟩;have hli:=PySem.F.called_set.init.lookup;have hbi:=PySem.F.called_set.init.bind (.ref s.heap.objs.size)
   repeat (any_goals (first | assumption | wp_step))
   refine codeAny_mono (codeAny_call_builtin (R:=wants (λr s2=>r=.none/\∃h' tk,s2={ s with heap:=h',toks:=tk }/\SP h' s.heap.objs.size/\∀b o,s.heap.get? b=some o->h'.get? b=some o) E)
    PySem.F.called_set.init.plain PySem.F.entry_set_init (check_set_init_1 hT ?_)) λr₂ s₂ hr₂=>?_
   ·obtain⟨⟨ocls,odict,odata,oslots⟩,hol,hcl,nl,hdl⟩:=hl;simp only at hcl hdl;subst hcl;subst hdl;have hol':(s.heap.push (zbx w)).get? l=some { cls:=.type "list",dict:=odict,data:=.seq items nl,slots:=oslots }:=Xh _ hol;have hsls:=PySem.F.sub_list_set;have hslf:=PySem.F.sub_list_frozenset;have hne:(Value.type "list" == Value.type "dict")=false:=by decide
    have hl1:(s.heap.push (zbx w)).IsList l items:=⟨_,hol',rfl,nl,rfl⟩;unfold Builtin.«set.__init__» noKeywords Builtin.Frozenset.updateFrom;generalize hPI:pyIter=PI
    wp_walk
    subst hPI;refine wpAny_pyIter_list hl1 (wpAny_bind (wpAny_runValue ?_));have hlS:l<s.heap.objs.size:=XA hol;have hz1:(s.heap.push (zbx w)).objs.size=s.heap.objs.size+1:=Heap.size_push ..;have hneI:l≠(s.heap.push (zbx w)).objs.size:=by rw[hz1];exact XJ (YN hlS)
    have hSf:s.heap.objs.size∉[(s.heap.push (zbx w)).objs.size,l]:=by
     rw[hz1];intro z;rcases Xx.mp z with e | e
     ·exact absurd e (XJ (Nat.lt_succ_self _))
     ·exact absurd (Xl.mp e) (Nat.ne_of_gt hlS)
    refine loop ((Walks.list (by simp[hh]) _ l hneI items).toS) s.heap.objs.size ?U hSf (λi v hv=>hv) (λb hb=>?W) _ (λb o e=>Xh _ (Xh _ e)) ⟨⟨_,XC _ rfl,rfl,rfl⟩,hl1.push _⟩ (Xh _ hS) λs' hm hS'=>?_
    case U=>show A.units+1+1<=_;lia
    case W=>
     intro z;rcases Xx.mp z with q | q
     ·exact XJ hb q
     ·have q':=Xl.mp q;rw[hz1]at q';exact absurd q' (XJ (YN hb))
    obtain⟨h',g',d',tk',os'⟩:=s';have eg:g'=s.gens:=hm.gens;have ed:d'=s.drawn:=hm.drawn;have eo:os'=s.os:=hm.os;subst eg;subst ed;subst eo;refine wpAny_pure (wpAny_pure ⟨rfl,h',tk',rfl,hS',λb o e=>?_⟩);have hb':b<s.heap.objs.size:=XA e;refine hm.heap b o (λz=>?_) (Xh _ (Xh _ e));rcases Xx.mp z with q | q
    ·exact XJ hb' q
    ·have q':=Xl.mp q;rw[hz1]at q';exact absurd q' (XJ (YN hb'))
   ·cases r₂ with
    | error e=>exact hr₂
    | ok fl₂=>
     cases fl₂ with
     | ret r=>
      obtain⟨rfl,h',tk,rfl,hS',hk'⟩:=hr₂
      repeat (any_goals (first | assumption | wp_step))
      exact h _ _ hS' hk'
     | _=>exact hr₂.elim
  | _=>exact hr.elim
theorem zmi {α:Type} [DecidableEq α] {knd:PySem.KeyKind prog w α}{of:Value->α}{l:Addr}{items:Array Value}{ys:List α}{Q:Value->Shared->Prop}(hof:∀k v,knd.is k v=true->of v=k)(hh:A.handled=none)(hl:s.heap.IsList l items)(hi:∀(i:Nat) v,items[i]? = some v->∃y,ys[i]? = some y/\knd.is y v=true/\v.scannable=true)(hy:ys.length=items.size)(hb:items.size+1<scanBound)
  (h:∀(h':Heap) (tk:Nat),KSet knd of h' s.heap.objs.size (ys.foldl addS [])->(∀b o,s.heap.get? b=some o->h'.get? b=some o)->Q (.ref s.heap.objs.size) { s with heap:=h',toks:=tk }) :
  wpAny (model prog w) A (call (.type "set") [.ref l]) Q E s:=
 zhF (SP:=λh S=>KSet knd of h S (ys.foldl addS [])) hh hl (λ{A' R I fp wr G P St} W S _ hSf hP _ s1 kp hst hS hR=>ziX W S hSf ys hy hof (λi v hv=>hi i v (hP i v hv)) hb _ 0 s1 rfl (XU _) hst (zon hS) hR) h
theorem zoo {l:Addr}{items:Array Value}{ys:List Str}{Q:Value->Shared->Prop}(hh:A.handled=none)(hl:s.heap.IsList l items)(hi:∀(i:Nat) v,items[i]? = some v->∃y t,ys[i]? = some y/\v=.str y t)(hy:ys.length=items.size)(hb:items.size+1<scanBound)
  (h:∀(h':Heap) (tk:Nat),zmh prog w h' s.heap.objs.size (ys.foldl addS [])->(∀b o,s.heap.get? b=some o->h'.get? b=some o)->Q (.ref s.heap.objs.size) { s with heap:=h',toks:=tk }) :
  wpAny (model prog w) A (call (.type "set") [.ref l]) Q E s:=
 zmi (knd:=PySem.strKind prog w) (of:=sOf) (λk v hk=>by obtain⟨t,rfl⟩:=Value.isStrOf_shape (show Value.isStrOf k v=true from hk);rfl) hh hl (λi v hv=>by obtain⟨y,t,e1,rfl⟩:=hi i v hv;exact⟨y,e1,by simp[PySem.strKind,Value.isStrOf],rfl⟩) hy hb h
end
section
variable {prog:Program}{w:World}{A:Around}{E:Value->Shared->Prop}{s:Shared}{a:Addr}
theorem zjP {vs:List Value}{ss:List Str}{Q:Value->Shared->Prop}(hS:StrsAre vs ss)(h64:vs.length<64)
  (h:∀(h':Heap) (out:List Value) (zs:List Str) (e:Nat),StrsAre out zs->zs.Perm ss->sortedS zs=true->(∀b o,s.heap.get? b=some o->h'.get? b=some o)->h'.get? s.heap.objs.size=some { cls:=.type "list",data:=.seq out.toArray e }->Q (.ref s.heap.objs.size) { s with heap:=h' }) :
  wpAny (model prog w) A (newList vs >>= λl=>holding [l] (call (.builtin "list.sort") [l] []) >>= λ_=>ret l) (λfin s'=>∃r,fin=.done (.ret r)/\Q r s') E s:=by
 refine wpAny_bind (wpAny_newList ?_);have hoL:(s.heap.push (seqObj "list" vs.toArray 0)).get? s.heap.objs.size=some (seqObj "list" vs.toArray 0):=XC _ rfl;refine wpAny_bind (wpAny_holding (wpAny_call_entry slot_list_sort ⟨_,hoL,rfl⟩ entry_list_sort (list_sort_treeK strKind_oneLt hoL hS.keysOf (λv1 v2 rest e=>keyKind_strs (by rw[<- e];exact hS)) h64 λst' a1 a2=>⟨_,rfl,?_⟩) (args_list_sort _)));obtain⟨zs,q1,q2,q3⟩:=sorted_out_str hS a1 a2;obtain⟨e,he⟩:=sortedHeap_at (out:=(arrOf st').map (·.2)) hoL;refine wpAny_pure ⟨_,rfl,h _ ((arrOf st').map (·.2)).toList zs e q1 q2 q3 (λb o hb=>?_) (by rw[Array.toArray_toList];exact he)⟩;have hlt:b<s.heap.objs.size:=XA hb;rw[sortedHeap_old (XJ hlt) (by rw[size_push'];exact YN hlt)];exact Xh _ hb
theorem zle {xs:List Str}{Q:Value->Shared->Prop}(hh:A.handled=none)(S:zmh prog w s.heap a xs)(h64:xs.length<64)
  (h:∀(h1 h':Heap) (d:Drawn) (tk:Nat) (out:List Value) (zs:List Str) (e:Nat),StrsAre out zs->zs.Perm xs->sortedS zs=true->(∀b o,s.heap.get? b=some o->h1.get? b=some o)->(∀b o,h1.get? b=some o->h'.get? b=some o)->h'.get? h1.objs.size=some { cls:=.type "list",data:=.seq out.toArray e }->
   Q (.ref h1.objs.size) { s with heap:=h',drawn:=d,toks:=tk }):wpAny (model prog w) A (call (.builtin "sorted") [.ref a]) Q E s:=by
 refine Calls.call_function_entry kind_sorted plain_sorted entry_sorted (args_sorted1 _) ?_;unfold Builtin.«sorted»;refine wpAny_bind (m:=checkCount "sorted" 1 1 _) (wpAny_pure ?_);obtain⟨es,ep,t,r,hel,hp,nd⟩:=S;refine wpAny_bind (zfq (by simpa using hh) r λh1 d tk order ho kp=>?_);have hst:∀v∈order,∃x t,v=Value.str x t:=λv hv=>by
  obtain⟨e,he,q⟩:=Xt.mp (ho.mem_iff.mp hv);obtain⟨⟨k,hk,_⟩,_⟩:=hel e he;obtain⟨t,q'⟩:=Value.isStrOf_shape (show Value.isStrOf k e.2=true from hk);exact⟨k,t,by rw[<- q];exact q'⟩
 have hS:=strsAre_map order hst;have hperm:(order.map strOf).Perm xs:=by
  refine(ho.map strOf).trans ?_;rw[Ym];have e:es.toList.map (strOf ∘ λx=>x.2)=es.toList.map λe=>sOf e.2:=YM λe he=>by
   obtain⟨⟨k,hk,_⟩,_⟩:=hel e he;obtain⟨t,q'⟩:=Value.isStrOf_shape (show Value.isStrOf k e.2=true from hk);show strOf e.2=sOf e.2;rw[q'];rfl
  rw[e];exact hp
 have hlen:order.length<64:=by
  have q:=hperm.length_eq;rw[Xc]at q;lia
 refine zjP (s:={ s with heap:=h1,drawn:=d,toks:=tk }) hS hlen λh' out zs e q1 q2 q3 kp' he=>?_;exact h h1 h' d tk out zs e q1 (q2.trans hperm) q3 kp kp' he
end
end _J
namespace _L
open PySem PySem.Spec PyProof.Rows
inductive D where
 | non | int (i:Int) | str (x:Str) | tup (ds:List D)
noncomputable instance:DecidableEq D:=λ_ _=>Classical.propDecidable _
mutual
noncomputable def Den (H:Hp):D->V->Prop
 | .non,v=>v=.non
 | .int i,v=>v=.int i
 | .str x,v=>v=.str x
 | .tup ds,v=>∃a xs,v=.ref a/\H a=some (.tup xs)/\DenL H ds xs
noncomputable def DenL (H:Hp):List D->List V->Prop
 | [],xs=>xs=[]
 | d::ds,xs=>∃v r,xs=v::r/\Den H d v/\DenL H ds r
end
noncomputable def zsn (H H':Hp):Prop:=∀b xs,H b=some (.tup xs)->H' b=some (.tup xs)
mutual
theorem Den.mono {H H':Hp}(s:zsn H H'):∀(d:D)(v:V),Den H d v->Den H' d v
 | .non,v,h=>by unfold Den at h ⊢;exact h
 | .int i,v,h=>by unfold Den at h ⊢;exact h
 | .str x,v,h=>by unfold Den at h ⊢;exact h
 | .tup ds,v,h=>by
  unfold Den at h ⊢;obtain⟨a,xs,e,h1,h2⟩:=h;exact⟨a,xs,e,s a xs h1,DenL.mono s ds xs h2⟩
theorem DenL.mono {H H':Hp}(s:zsn H H'):∀(ds:List D)(xs:List V),DenL H ds xs->DenL H' ds xs
 | [],xs,h=>by unfold DenL at h ⊢;exact h
 | d::ds,xs,h=>by
  unfold DenL at h ⊢;obtain⟨v,r,e,h1,h2⟩:=h;exact⟨v,r,e,Den.mono s d v h1,DenL.mono s ds r h2⟩
end
mutual
theorem Den.inj {H:Hp}:∀(d e:D)(v:V),Den H d v->Den H e v->d=e
 | .non,e,v,h,g=>by
  unfold Den at h;subst h;cases e<;>unfold Den at g
  ·rfl
  ·cases g
  ·cases g
  ·obtain⟨a,xs,z,_⟩:=g;cases z
 | .int i,e,v,h,g=>by
  unfold Den at h;subst h;cases e<;>unfold Den at g
  ·cases g
  ·injection g with g;rw[g]
  ·cases g
  ·obtain⟨a,xs,z,_⟩:=g;cases z
 | .str x,e,v,h,g=>by
  unfold Den at h;subst h;cases e<;>unfold Den at g
  ·cases g
  ·cases g
  ·injection g with g;rw[g]
  ·obtain⟨a,xs,z,_⟩:=g;cases z
 | .tup ds,e,v,h,g=>by
  unfold Den at h;obtain⟨a,xs,z,h1,h2⟩:=h;subst z;cases e<;>unfold Den at g
  ·cases g
  ·cases g
  ·cases g
  ·obtain⟨b,ys,z,g1,g2⟩:=g;cases z;rw[h1]at g1;cases g1;rw[DenL.inj ds _ xs h2 g2]
theorem DenL.inj {H:Hp}:∀(ds es:List D)(xs:List V),DenL H ds xs->DenL H es xs->ds=es
 | [],es,xs,h,g=>by
  unfold DenL at h;subst h;cases es with
  | nil=>rfl
  | cons e es=>unfold DenL at g;obtain⟨v,r,z,_⟩:=g;cases z
 | d::ds,es,xs,h,g=>by
  unfold DenL at h;obtain⟨v,r,z,h1,h2⟩:=h;subst z;cases es with
  | nil=>unfold DenL at g;cases g
  | cons e es=>
   unfold DenL at g;obtain⟨v',r',z,g1,g2⟩:=g;cases z;rw[Den.inj d e v h1 g1,DenL.inj ds es r h2 g2]
end
mutual
noncomputable def Cmp:D->D->Prop
 | .non,e=>e=.non
 | .int _,e=>∃j,e=.int j
 | .str _,e=>∃y,e=.str y
 | .tup ds,e=>∃es,e=.tup es/\CmpL ds es
noncomputable def CmpL:List D->List D->Prop
 | [],_=>True
 | d::ds,es=>∀e r,es=e::r->Cmp d e/\CmpL ds r
end
mutual
noncomputable def dep:D->Nat
 | .tup ds=>depL ds+1
 | _=>0
noncomputable def depL:List D->Nat
 | []=>0
 | d::ds=>max (dep d) (depL ds)
end
end _L
namespace _L
open PySem PySem.Spec PyProof.Rows
section
variable {X:Cx}
noncomputable def ztW (K:Xb):V->List V->Hp->VK->Prop:=λx vs H Q=>∃(l b:Addr)(xs zs:List V),x=.ref l/\vs=[.ref b]/\H l=some (.lst xs)/\SqT K H b zs/\xs.length+zs.length<=sizeLine/\Q .non (upd H l (.lst (xs++zs)))
theorem zqn:MtM X "list.extend" (ztW X.K):=by
 intro pins s σ H x vs v us Q I rx rv h;obtain⟨l,b,xs,zs,rfl,rfl,hH,hB,hz,q⟩:=h;cases rx;obtain⟨u,rfl,ru⟩:=rv.one;cases ru;obtain⟨z,its,n,r,hl,e⟩:=I.lstM hH;obtain⟨its2,r2,⟨o2,ho2,hc2,n2,hd2⟩,z2⟩:=I.tuple hB;have l2:=r2.length;have hne:l≠b:=λw=>by subst w;rw[e]at ho2;cases ho2;injection hc2 with z;exact absurd z (by decide)
 refine wpAny_call_entry PySem.F.slot_list_extend ⟨_,e,rfl⟩ PySem.F.entry_list_extend ?_ (PySem.F.args_list_extend_2 _ _);show wpAny _ _ (Builtin.List.listExtendWith (.ref l) (.ref b) .none) _ _ s;unfold Builtin.List.listExtendWith;refine wpAny_bind (wpAny_typeOf (T:="tuple") ⟨o2,ho2,hc2⟩ ?_);have h3:(Value.type "tuple" == Value.type "tuple")=true:=by decide
 rw[if_pos (by rw[h3];simp)];refine wpAny_bind (listItems_at ho2 hd2 (wpAny_bind (listItems_at e rfl ?_)));have hlong:¬ (!its.toArray.isEmpty&&Builtin.List.listTooLong (its.toArray.size+its2.toArray.size))=true:=by
  rw[zod (by rw[Xq,Xq];lia),Bool.and_false];exact Xw
 rw[if_neg hlong];refine wpAny_bind (listUpdate_at e rfl (wpAny_pure ⟨_,rfl,?_⟩) (by rw[Xq];lia) (by rw[Array.size_append,Xq,Xq];lia));refine⟨.non,_,I.lset (its':=its++its2) (t':=s.toks) hH e (by simp) (r.append r2) (by rw[XB];omega),rfl,q⟩
theorem zhG {ss:List Str}:∀ {its:List Value},StrsAre its ss->Vals (ss.map V.str) its:=by
 induction ss with
 | nil=>intro its r;cases r;exact .nil
 | cons x ss ih=>
  intro its r;cases r with
  | cons _ t r2=>exact .cons ⟨t,rfl⟩ (ih r2)
noncomputable def SetO (P:Program)(w:World)(a:Addr)(xs:List Str):HO:=.ext λh=>_J.zmh P w h a xs
theorem zmj (hc:X.calm=true):zcr X (.type "set") (λxs H Q=>∃(p:Addr) (ss:List Str),xs=[.ref p]/\SqL X.K H p (ss.map V.str)/\ss.length+1<scanBound/\∀l,H l=none->Q (.ref l) (upd H l (SetO X.prog X.w l (ss.foldl _J.addS [])))):=by
 intro pins s σ H xs us Q I r h;obtain⟨p,ss,rfl,hp,hz,q⟩:=h;obtain⟨u,rfl,rx⟩:=vals1 r;cases rx;obtain⟨its,r,ht,_⟩:=I.list hp;have hlen:=r.length;rw[Xc]at hlen;refine _J.zoo (ys:=ss) (I.ok.hd hc) ht.isList (λi v hv=>?_) (by rw[Xq];exact hlen) (by rw[Xq];lia) λh' tk hS kp=>?_
 ·have hv':its[i]? = some v:=by simpa using hv
  have hi:i<its.length:=(Xe.mp hv').1;have e1:(ss.map V.str)[i]? = some (V.str ss[i]):=by simp[show i<ss.length by omega]
  obtain⟨u,q1,q2⟩:=r.get e1;rw[hv']at q1;cases q1;obtain⟨t,e2⟩:=(show ∃t,v=Value.str _ t from q2);exact⟨_,t,by simp[show i<ss.length by omega],e2⟩
 ·refine⟨.ref s.heap.objs.size,_,I.laid (t':=tk) (o:=SetO X.prog X.w s.heap.objs.size (ss.foldl _J.addS [])) kp (Xf _) ?_,rfl,q _ I.fresh⟩;obtain⟨es,ep,t,rc,_⟩:=id hS;obtain⟨o,ho,_⟩:=rc.obj;exact⟨hS,⟨o,ho⟩,λh1 h2 hs k=>_J.KSet.keep hs k⟩
theorem zhH (hc:X.calm=true):zcr X (.builtin "sorted") (λxs H Q=>∃(p:Addr) (ss:List Str),xs=[.ref p]/\H p=some (SetO X.prog X.w p ss)/\ss.length<64/\∀l zs,H l=none->zs.Perm ss->sortedS zs=true->Q (.ref l) (upd H l (.lst (zs.map V.str)))):=by
 intro pins s σ H xs us Q I r h;obtain⟨p,ss,rfl,hp,h64,q⟩:=h;obtain⟨u,rfl,rx⟩:=vals1 r;cases rx;obtain⟨hS,_,_⟩:=(show zbi X.prog X.w H s.heap p (SetO X.prog X.w p ss) from I.hok p _ hp);refine _J.zle (I.ok.hd hc) hS h64 λh1 h' d tk out zs e a1 a2 a3 kp kp' he=>?_;have I1:Inv X pins σ H { s with heap:=h1,drawn:=d,toks:=tk }:=I.call' (ch:=[]) rfl (Un.kept kp) (I.hok.kept kp) I.bare (λ_ z=>nomatch z);have hl2:zs.length=ss.length:=a2.length_eq;refine⟨.ref h1.objs.size,_,I1.laid (h':=h') (t':=tk) (o:=.lst (zs.map V.str)) kp' (Xf _) ?_,rfl,q _ zs (I1.hok.fresh (Xf _)) a2 a3⟩;exact⟨by rw[Xc,sizeLine_eq];lia,out,e,zhG a1,he⟩
end
noncomputable def zso (K:Xb):List V->Hp->VK->Prop:=λxs H Q=>∃p ys,xs=[.ref p]/\((SqL K H p ys/\∀l,H l=none->Q (.ref l) (upd H l (.tup ys)))\/(SqT K H p ys/\Q (.ref p) H))
noncomputable def zqo (K:Xb):List V->Hp->VK->Prop:=λxs H Q=>∃p ys,xs=[.ref p]/\(SqL K H p ys\/SqT K H p ys)/\∀l,H l=none->Q (.ref l) (upd H l (.lst ys))
end _L
namespace _P
open PySem PySem.Spec _L
open PyProof.Rows hiding St
inductive PV where
 | non | bl (b:Bool) | int (i:Int) | str (x:Str) | ty (n:String)
 | tup (ds:List PV) | lst (ds:List PV) | dK (ks:List Key) (ds:List PV) | dT (ks:List (List Key)) (ds:List PV)
noncomputable instance:DecidableEq PV:=λ_ _=>Classical.propDecidable _
noncomputable abbrev FZ:=Addr->Prop
noncomputable def KX (K:Xb)(a:Addr)(xs:List V):Prop:=∃(its:Array Value)(n:Nat),K.lookup a=some { cls:=.type "list",data:=.seq its n }/\its.size<=sizeLine/\Vals xs its.toList
theorem KX.sq {K:Xb}{H:Hp}{a:Addr}{xs:List V}(h:KX K a xs):SqL K H a xs:=by obtain⟨its,n,h1,h2,h3⟩:=h;exact .inr ⟨_,its,n,h1,rfl,rfl,rfl,h2,h3⟩
mutual
noncomputable def Den (K:Xb)(Fz:FZ)(H:Hp):PV->V->Prop
 | .non,v=>v=.non
 | .bl b,v=>v=.bl b
 | .int i,v=>v=.int i
 | .str x,v=>v=.str x
 | .ty n,v=>v=.ty n
 | .tup ds,v=>∃a xs,v=.ref a/\H a=some (.tup xs)/\DenL K Fz H ds xs
 | .lst ds,v=>∃a xs,v=.ref a/\((Fz a/\Rd H a (.lst xs))\/KX K a xs)/\DenL K Fz H ds xs
 | .dK ks ds,v=>∃a xs,v=.ref a/\Fz a/\Rd H a (.dK (ks.zip xs))/\ks.length=xs.length/\DenL K Fz H ds xs
 | .dT ks ds,v=>∃a xs,v=.ref a/\Fz a/\Rd H a (.dT (ks.zip xs))/\ks.length=xs.length/\DenL K Fz H ds xs
noncomputable def DenL (K:Xb)(Fz:FZ)(H:Hp):List PV->List V->Prop
 | [],xs=>xs=[]
 | d::ds,xs=>∃v r,xs=v::r/\Den K Fz H d v/\DenL K Fz H ds r
end
noncomputable def Root (K:Xb)(Fz:FZ)(H:Hp):PV->V->Prop
 | .lst ds,v=>∃a xs,v=.ref a/\(Rd H a (.lst xs)\/KX K a xs)/\DenL K Fz H ds xs
 | .dK ks ds,v=>∃a xs,v=.ref a/\Rd H a (.dK (ks.zip xs))/\ks.length=xs.length/\DenL K Fz H ds xs
 | .dT ks ds,v=>∃a xs,v=.ref a/\Rd H a (.dT (ks.zip xs))/\ks.length=xs.length/\DenL K Fz H ds xs
 | d,v=>Den K Fz H d v
noncomputable def Own (K:Xb)(Fz:FZ)(H:Hp):PV->Addr->Prop
 | .lst ds,a=>∃xs,H a=some (.lst xs)/\DenL K Fz H ds xs
 | .dK ks ds,a=>∃xs,H a=some (.dK (ks.zip xs))/\ks.length=xs.length/\DenL K Fz H ds xs
 | .dT ks ds,a=>∃xs,H a=some (.dT (ks.zip xs))/\ks.length=xs.length/\DenL K Fz H ds xs
 | _,_=>False
noncomputable def Imm:HO->Prop
 | .tup _=>True
 | .frz _ _=>True
 | _=>False
noncomputable def Pl:HO->Prop
 | .lst _=>True
 | .tup _=>True
 | .dK _=>True
 | .dT _=>True
 | _=>False
structure Keep (Fz:FZ)(H H':Hp):Prop where
 rd':∀b u,Pl u->Fz b->Rd H b u->Rd H' b u
 tup:∀b xs,H b=some (.tup xs)->H' b=some (.tup xs)
noncomputable def ziY (Fz:FZ)(H H':Hp):Prop:=∀b o,H b=some o->(Fz b\/Imm o)->H' b=some o
theorem Keep.mk' {Fz:FZ}{H H':Hp}(h:ziY Fz H H'):Keep Fz H H':=
 ⟨λb u _ f r=>by
  rcases r with r | ⟨o,r⟩
  ·exact .inl (h b _ r (.inl f))
  ·exact .inr ⟨o,h b _ r (.inl f)⟩,λb xs r=>h b _ r (.inr trivial)⟩
theorem Keep.of {Fz:FZ}{H H':Hp}(h:Same H H'):Keep Fz H H':=.mk' λb o e _=>h b o e
theorem Keep.rd {Fz:FZ}{H H':Hp}(k:Keep Fz H H'){a:Addr}{u:HO}(pl:Pl u)(hf:Fz a)(h:Rd H a u):Rd H' a u:=k.rd' a u pl hf h
theorem Keep.sqT {K:Xb}{Fz:FZ}{H H':Hp}(k:Keep Fz H H'){a:Addr}{xs:List V}(h:H a=some (.tup xs)):SqT K H' a xs:=SqT.of (k.tup a xs h)
section
variable {K:Xb}{Fz Fz':FZ}{H H':Hp}
mutual
theorem Den.mono (k:Keep Fz H H')(s:∀b,Fz b->Fz' b):∀(d:PV)(v:V),Den K Fz H d v->Den K Fz' H' d v
 | .non,v,h=>by simpa only[Den]using h
 | .bl b,v,h=>by simpa only[Den]using h
 | .int i,v,h=>by simpa only[Den]using h
 | .str x,v,h=>by simpa only[Den]using h
 | .ty n,v,h=>by simpa only[Den]using h
 | .tup ds,v,h=>by
  simp only[Den]at h ⊢;obtain⟨a,xs,e,h1,h2⟩:=h;exact⟨a,xs,e,k.tup a xs h1,DenL.mono k s ds xs h2⟩
 | .lst ds,v,h=>by
  simp only[Den]at h ⊢;obtain⟨a,xs,e,h1,h2⟩:=h;refine⟨a,xs,e,?_,DenL.mono k s ds xs h2⟩;rcases h1 with ⟨f,h1⟩ | h1
  ·exact .inl ⟨s a f,k.rd trivial f h1⟩
  ·exact .inr h1
 | .dK ks ds,v,h=>by
  simp only[Den]at h ⊢;obtain⟨a,xs,e,f,h1,h2,h3⟩:=h;exact⟨a,xs,e,s a f,k.rd trivial f h1,h2,DenL.mono k s ds xs h3⟩
 | .dT ks ds,v,h=>by
  simp only[Den]at h ⊢;obtain⟨a,xs,e,f,h1,h2,h3⟩:=h;exact⟨a,xs,e,s a f,k.rd trivial f h1,h2,DenL.mono k s ds xs h3⟩
theorem DenL.mono (k:Keep Fz H H')(s:∀b,Fz b->Fz' b):∀(ds:List PV)(xs:List V),DenL K Fz H ds xs->DenL K Fz' H' ds xs
 | [],xs,h=>by simpa only[DenL]using h
 | d::ds,xs,h=>by
  simp only[DenL]at h ⊢;obtain⟨v,r,e,h1,h2⟩:=h;exact⟨v,r,e,Den.mono k s d v h1,DenL.mono k s ds r h2⟩
end
theorem Den.root {d:PV}{v:V}(h:Den K Fz H d v):Root K Fz H d v:=by
 cases d with
 | lst ds=>
  simp only[Den]at h;obtain⟨a,xs,e,h1,h2⟩:=h;refine⟨a,xs,e,?_,h2⟩;rcases h1 with ⟨f,h1⟩ | h1
  ·exact .inl h1
  ·exact .inr h1
 | dK ks ds=>
  simp only[Den]at h;obtain⟨a,xs,e,_,h1,h2⟩:=h;exact⟨a,xs,e,h1,h2⟩
 | dT ks ds=>
  simp only[Den]at h;obtain⟨a,xs,e,_,h1,h2⟩:=h;exact⟨a,xs,e,h1,h2⟩
 | non=>exact h
 | bl b=>exact h
 | int i=>exact h
 | str x=>exact h
 | ty n=>exact h
 | tup ds=>exact h
theorem Own.root {d:PV}{a:Addr}(h:Own K Fz H d a):Root K Fz H d (.ref a):=by
 cases d with
 | lst ds=>obtain⟨xs,h1,h2⟩:=h;exact⟨a,xs,rfl,.inl (.inl h1),h2⟩
 | dK ks ds=>obtain⟨xs,h1,h2⟩:=h;exact⟨a,xs,rfl,.inl h1,h2⟩
 | dT ks ds=>obtain⟨xs,h1,h2⟩:=h;exact⟨a,xs,rfl,.inl h1,h2⟩
 | non=>exact h.elim
 | bl b=>exact h.elim
 | int i=>exact h.elim
 | str x=>exact h.elim
 | ty n=>exact h.elim
 | tup ds=>exact h.elim
theorem Own.den {d:PV}{a:Addr}(h:Own K Fz H d a)(f:Fz a):Den K Fz H d (.ref a):=by
 cases d with
 | lst ds=>obtain⟨xs,h1,h2⟩:=h;simp only[Den];exact⟨a,xs,rfl,.inl ⟨f,.inl h1⟩,h2⟩
 | dK ks ds=>obtain⟨xs,h1,h2⟩:=h;simp only[Den];exact⟨a,xs,rfl,f,.inl h1,h2⟩
 | dT ks ds=>obtain⟨xs,h1,h2⟩:=h;simp only[Den];exact⟨a,xs,rfl,f,.inl h1,h2⟩
 | non=>exact h.elim
 | bl b=>exact h.elim
 | int i=>exact h.elim
 | str x=>exact h.elim
 | ty n=>exact h.elim
 | tup ds=>exact h.elim
theorem Own.at {d:PV}{a:Addr}(h:Own K Fz H d a):∃o,H a=some o/\¬ Imm o:=by
 cases d with
 | lst ds=>obtain⟨xs,h1,h2⟩:=h;exact⟨_,h1,λz=>z⟩
 | dK ks ds=>obtain⟨xs,h1,h2⟩:=h;exact⟨_,h1,λz=>z⟩
 | dT ks ds=>obtain⟨xs,h1,h2⟩:=h;exact⟨_,h1,λz=>z⟩
 | non=>exact h.elim
 | bl b=>exact h.elim
 | int i=>exact h.elim
 | str x=>exact h.elim
 | ty n=>exact h.elim
 | tup ds=>exact h.elim
theorem Own.mono {d:PV}{a:Addr}(k:Keep Fz H H')(s:∀b,Fz b->Fz' b)(ha:∀o,H a=some o->H' a=some o)(h:Own K Fz H d a):Own K Fz' H' d a:=by
 cases d with
 | lst ds=>obtain⟨xs,h1,h2⟩:=h;exact⟨xs,ha _ h1,DenL.mono k s _ _ h2⟩
 | dK ks ds=>obtain⟨xs,h1,h2,h3⟩:=h;exact⟨xs,ha _ h1,h2,DenL.mono k s _ _ h3⟩
 | dT ks ds=>obtain⟨xs,h1,h2,h3⟩:=h;exact⟨xs,ha _ h1,h2,DenL.mono k s _ _ h3⟩
 | non=>exact h.elim
 | bl b=>exact h.elim
 | int i=>exact h.elim
 | str x=>exact h.elim
 | ty n=>exact h.elim
 | tup ds=>exact h.elim
theorem Root.mono {d:PV}{v:V}(k:Same H H')(s:∀b,Fz b->Fz' b)(h:Root K Fz H d v):Root K Fz' H' d v:=by
 have rd:∀ {a u},Rd H a u->Rd H' a u:=λ{a u} q=>by
  rcases q with q | ⟨o,q⟩
  ·exact .inl (k _ _ q)
  ·exact .inr ⟨o,k _ _ q⟩
 cases d with
 | lst ds=>obtain⟨a,xs,e,h1,h2⟩:=h;exact⟨a,xs,e,h1.imp rd id,DenL.mono (.of k) s _ _ h2⟩
 | dK ks ds=>obtain⟨a,xs,e,h1,h2,h3⟩:=h;exact⟨a,xs,e,rd h1,h2,DenL.mono (.of k) s _ _ h3⟩
 | dT ks ds=>obtain⟨a,xs,e,h1,h2,h3⟩:=h;exact⟨a,xs,e,rd h1,h2,DenL.mono (.of k) s _ _ h3⟩
 | non=>exact Den.mono (.of k) s _ _ h
 | bl b=>exact Den.mono (.of k) s _ _ h
 | int i=>exact Den.mono (.of k) s _ _ h
 | str x=>exact Den.mono (.of k) s _ _ h
 | ty n=>exact Den.mono (.of k) s _ _ h
 | tup ds=>exact Den.mono (.of k) s _ _ h
theorem DenL.length:∀(ds:List PV)(xs:List V),DenL K Fz H ds xs->ds.length=xs.length
 | [],xs,h=>by simp only[DenL]at h;subst h;rfl
 | d::ds,xs,h=>by
  simp only[DenL]at h;obtain⟨v,r,z,_,h2⟩:=h;subst z;rw[Ya,Ya,DenL.length ds r h2]
theorem DenL.get:∀ {ds:List PV}{xs:List V}{i:Nat}{d:PV},DenL K Fz H ds xs->ds[i]? = some d->∃v,xs[i]? = some v/\Den K Fz H d v
 | [],xs,i,d,h,e=>by simp at e
 | d0::ds,xs,i,d,h,e=>by
  simp only[DenL]at h;obtain⟨v0,r,z,h1,h2⟩:=h;subst z;cases i with
  | zero=>simp at e;subst e;exact⟨v0,rfl,h1⟩
  | succ i=>
   obtain⟨v,q,h⟩:=DenL.get h2 (i:=i) (d:=d) (by simpa using e);exact⟨v,by simpa using q,h⟩
theorem DenL.nil:DenL K Fz H [] []:=by simp only[DenL]
theorem DenL.cons {d:PV}{v:V}{ds:List PV}{xs:List V}(h1:Den K Fz H d v)(h2:DenL K Fz H ds xs):DenL K Fz H (d::ds) (v::xs):=by
 simp only[DenL];exact⟨v,xs,rfl,h1,h2⟩
theorem DenL.append:∀ {ds es:List PV}{xs ys:List V},DenL K Fz H ds xs->DenL K Fz H es ys->DenL K Fz H (ds++es) (xs++ys)
 | [],es,xs,ys,h,g=>by simp only[DenL]at h;subst h;exact g
 | d::ds,es,xs,ys,h,g=>by
  simp only[DenL]at h;obtain⟨v,r,z,h1,h2⟩:=h;subst z;exact DenL.cons h1 (DenL.append h2 g)
theorem DenL.snoc {ds:List PV}{xs:List V}{d:PV}{v:V}(h:DenL K Fz H ds xs)(g:Den K Fz H d v):DenL K Fz H (ds++[d]) (xs++[v]):=h.append (DenL.cons g DenL.nil)
theorem DenL.split:∀ {ds es:List PV}{xs:List V},DenL K Fz H (ds++es) xs->∃ys zs,xs=ys++zs/\DenL K Fz H ds ys/\DenL K Fz H es zs
 | [],es,xs,h=>⟨[],xs,rfl,DenL.nil,h⟩
 | d::ds,es,xs,h=>by
  rw[List.cons_append]at h;simp only[DenL]at h;obtain⟨v,r,z,h1,h2⟩:=h;subst z;obtain⟨ys,zs,e,g1,g2⟩:=DenL.split h2;exact⟨v::ys,zs,by rw[e];rfl,DenL.cons h1 g1,g2⟩
theorem DenL.take {ds:List PV}{xs:List V}(n:Nat)(h:DenL K Fz H ds xs):DenL K Fz H (ds.take n) (xs.take n):=by
 have hl:=h.length;obtain⟨ys,zs,e,g1,g2⟩:=DenL.split (ds:=ds.take n) (es:=ds.drop n) (by rw[Yb];exact h);have h1:=g1.length;subst e;by_cases hn:n<=ds.length
 ·rw[XH,Nat.min_eq_left hn]at h1;rw[List.take_append_of_le_length (by lia),Xi (i:=n) (l:=ys) (by lia)];exact g1
 ·rw[Xi (i:=n) (l:=ds) (by lia),Xi (i:=n) (l:=ys++zs) (by lia)];exact h
theorem DenL.drop {ds:List PV}{xs:List V}(n:Nat)(h:DenL K Fz H ds xs):DenL K Fz H (ds.drop n) (xs.drop n):=by
 have hl:=h.length;obtain⟨ys,zs,e,g1,g2⟩:=DenL.split (ds:=ds.take n) (es:=ds.drop n) (by rw[Yb];exact h);have h1:=g1.length;subst e;by_cases hn:n<=ds.length
 ·rw[XH,Nat.min_eq_left hn]at h1;rw[List.drop_append,Yv (i:=n) (l:=ys) (by lia),show n-ys.length=0 by lia];exact g2
 ·rw[Yv (i:=n) (l:=ds) (by lia),Yv (i:=n) (l:=ys++zs) (by lia)];exact DenL.nil
theorem DenL.eraseIdx:∀ {ds:List PV}{xs:List V}(i:Nat),DenL K Fz H ds xs->DenL K Fz H (ds.eraseIdx i) (xs.eraseIdx i)
 | [],xs,i,h=>by simp only[DenL]at h;subst h;exact DenL.nil
 | d0::ds,xs,i,h=>by
  simp only[DenL]at h;obtain⟨v0,r,z,h1,h2⟩:=h;subst z;cases i with
  | zero=>exact h2
  | succ i=>exact DenL.cons h1 (DenL.eraseIdx i h2)
end
noncomputable abbrev PEnv:=List (Option (PV×Bool))
structure Rel (K:Xb)(Fz:FZ)(ρ:PEnv)(σ:St)(H:Hp):Prop where
 al:∀b,Fz b->H b≠none
 len:ρ.length=σ.length
 frz:∀(i:Nat) (d:PV),ρ[i]? = some (some (d,false))->∃v,σ[i]? = some (some v)/\Den K Fz H d v
 own:∀(i:Nat) (d:PV),ρ[i]? = some (some (d,true))->∃a,σ[i]? = some (some (.ref a))/\¬ Fz a/\Own K Fz H d a
 inj:∀(i j:Nat) (d e:PV) (a:Addr),ρ[i]? = some (some (d,true))->ρ[j]? = some (some (e,true))->σ[i]? = some (some (.ref a))->σ[j]? = some (some (.ref a))->i=j
noncomputable def zaI (ρ:PEnv)(σ:St)(a:Addr):Prop:=∃(i:Nat)(d:PV),ρ[i]? = some (some (d,true))/\σ[i]? = some (some (.ref a))
structure Ext (Fz:FZ)(H:Hp)(Fz':FZ)(H':Hp):Prop where
 same:Same H H'
 sub:∀b,Fz b->Fz' b
 new:∀b,Fz' b->Fz b\/H b=none
 al:∀b,Fz' b->H' b≠none
theorem Ext.trans {F1 F2 F3:FZ}{H1 H2 H3:Hp}(a:Ext F1 H1 F2 H2)(b:Ext F2 H2 F3 H3):Ext F1 H1 F3 H3:=
 ⟨a.same.trans b.same,λc h=>b.sub c (a.sub c h),λc h=>by
  rcases b.new c h with h | h
  ·exact a.new c h
  ·exact .inr (a.same.free h),b.al⟩
theorem Ext.add {Fz Fz':FZ}{H H':Hp}{a:Addr}(x:Ext Fz H Fz' H')(h:H a=none)(h':H' a≠none):Ext Fz H (λb=>Fz' b\/b=a) H':=
 ⟨x.same,λb h=>.inl (x.sub b h),λb hb=>by
  rcases hb with hb | rfl
  ·exact x.new b hb
  ·exact .inr h,λb hb=>by
  rcases hb with hb | rfl
  ·exact x.al b hb
  ·exact h'⟩
theorem Ext.laid {Fz Fz':FZ}{H H':Hp}{p:Addr}{o:HO}(x:Ext Fz H Fz' H')(h:H' p=none):Ext Fz H Fz' (upd H' p o):=
 ⟨x.same.trans (λb u e=>by rw[zaf (zay e h)];exact e),x.sub,x.new,λb hb=>by
  by_cases e:b=p
  ·subst e;rw[zag];exact λz=>nomatch z
  ·rw[zaf e];exact x.al b hb⟩
theorem Rel.ext {K:Xb}{Fz Fz':FZ}{ρ:PEnv}{σ:St}{H H':Hp}(R:Rel K Fz ρ σ H)(x:Ext Fz H Fz' H'):Rel K Fz' ρ σ H' where
 al:=x.al
 len:=R.len
 frz i d h:=by
  obtain⟨v,e,q⟩:=R.frz i d h;exact⟨v,e,Den.mono (.of x.same) x.sub d v q⟩
 own i d h:=by
  obtain⟨a,e,n,q⟩:=R.own i d h;refine⟨a,e,λz=>?_,q.mono (.of x.same) x.sub (λo h=>x.same _ _ h)⟩;rcases x.new a z with z | z
  ·exact n z
  ·obtain⟨o,h,_⟩:=q.at;rw[h]at z;cases z
 inj:=R.inj
inductive Kd where
 | frz | new | own (i:Nat)
noncomputable def Opd (K:Xb)(Fz':FZ)(H':Hp)(ρ:PEnv)(σ:St)(H:Hp)(d:PV):Kd->V->Prop
 | .frz,v=>Den K Fz' H' d v
 | .new,v=>∃a,v=.ref a/\H a=none/\¬ Fz' a/\Own K Fz' H' d a
 | .own i,v=>ρ[i]? = some (some (d,true))/\σ[i]? = some (some v)
structure Post (K:Xb)(ρ:PEnv)(σ:St)(Fz:FZ)(H:Hp)(Fz':FZ)(H':Hp)(d:PV)(k:Kd)(v:V):Prop where
 ext:Ext Fz H Fz' H'
 opd:Opd K Fz' H' ρ σ H d k v
theorem Post.root {K:Xb}{ρ:PEnv}{σ:St}{Fz Fz':FZ}{H H':Hp}{d:PV}{k:Kd}{v:V}(R:Rel K Fz ρ σ H)(p:Post K ρ σ Fz H Fz' H' d k v):Root K Fz' H' d v:=by
 cases k with
 | frz=>exact Den.root p.opd
 | new=>obtain⟨a,e,_,_,h⟩:=p.opd;subst e;exact h.root
 | own i=>
  obtain⟨h1,h2⟩:=p.opd;obtain⟨a,e,_,q⟩:=(R.ext p.ext).own i d h1;rw[h2]at e;cases e;exact q.root
theorem Post.frozen {K:Xb}{ρ:PEnv}{σ:St}{Fz Fz':FZ}{H H':Hp}{d:PV}{k:Kd}{v:V}(hk:k=.frz\/k=.new)(p:Post K ρ σ Fz H Fz' H' d k v) :
  ∃Fz2,Ext Fz H Fz2 H'/\(∀b,Fz' b->Fz2 b)/\Den K Fz2 H' d v:=by
 rcases hk with rfl | rfl
 ·exact⟨Fz',p.ext,λ_ h=>h,p.opd⟩
 ·obtain⟨a,e,hn,_,h⟩:=p.opd;subst e;exact⟨λb=>Fz' b\/b=a,p.ext.add hn (by obtain⟨o,e,_⟩:=h.at;rw[e];exact λz=>nomatch z),λ_ h=>.inl h,(h.mono (Fz':=λb=>Fz' b\/b=a) (Keep.of (Same.refl _)) (λ_ h=>.inl h) (λ_ h=>h)).den (.inr rfl)⟩
noncomputable abbrev TPE:=PEnv->(PV->Kd->Prop)->Prop
noncomputable abbrev TPT:=PEnv->(Bool->Prop)->Prop
noncomputable abbrev TPA:=PEnv->(List (PV×Kd)->Prop)->Prop
noncomputable def lift (K:Xb)(t:TPE):TE:=λσ H Q=>∃ρ Fz,Rel K Fz ρ σ H/\t ρ λd k=>∀v Fz' H',Post K ρ σ Fz H Fz' H' d k v->Q v H'
noncomputable def liftT (K:Xb)(t:TPT):TT:=λσ H Q=>∃ρ Fz,Rel K Fz ρ σ H/\t ρ λb=>∀Fz' H',Ext Fz H Fz' H'->Q b H'
structure PuE (X:Cx)(e:Expr)(t:TPE):Prop where
 mono:∀ρ Q Q',(∀d k,Q d k->Q' d k)->t ρ Q->t ρ Q'
 run:PE X e (lift X.K t)
structure PuT (X:Cx)(e:Expr)(t:TPT):Prop where
 mono:∀ρ Q Q',(∀b,Q b->Q' b)->t ρ Q->t ρ Q'
 run:PT X e (liftT X.K t)
theorem PE.weak {X:Cx}{e:Expr}{t t':TE}(h:PE X e t)(w:∀σ H Q,t' σ H Q->t σ H Q):PE X e t':=λpins s σ H Q I q=>h pins s σ H Q I (w σ H Q q)
theorem PT.weak {X:Cx}{e:Expr}{t t':TT}(h:PT X e t)(w:∀σ H Q,t' σ H Q->t σ H Q):PT X e t':=λpins s σ H Q I q=>h pins s σ H Q I (w σ H Q q)
theorem ztX {X:Cx}{a b:Expr}{ta tb:TPE}(ha:PuE X a ta)(hb:PuE X b tb){σ:St}{H:Hp}{R:V->V->Hp->Prop}
  (ρ:PEnv) (Fz:FZ) (Re:Rel X.K Fz ρ σ H)
  (h:ta ρ λd kd=>tb ρ λe ke=>∀x y Fz1 H1 Fz2 H2,Post X.K ρ σ Fz H Fz1 H1 d kd x->Post X.K ρ σ Fz1 H1 Fz2 H2 e ke y->R x y H2) :
  lift X.K ta σ H λx H1=>lift X.K tb σ H1 λy H2=>R x y H2:=
 ⟨ρ,Fz,Re,ha.mono ρ _ _ (λd kd q v Fz1 H1 p1=>⟨ρ,Fz1,Re.ext p1.ext,hb.mono ρ _ _ (λe ke q w Fz2 H2 p2=>q v w Fz1 H1 Fz2 H2 p1 p2) q⟩) h⟩
end _P
namespace _P
open PySem PySem.Spec _L
open PyProof.Rows hiding St
section
variable {K:Xb}{ρ:PEnv}{σ:St}{Fz Fz1 Fz2:FZ}{H H1 H2:Hp}{d:PV}{k:Kd}{v:V}
theorem Opd.ext (x:Ext Fz1 H1 Fz2 H2)(h:Opd K Fz1 H1 ρ σ H d k v):Opd K Fz2 H2 ρ σ H d k v:=by
 cases k with
 | frz=>exact Den.mono (.of x.same) x.sub _ _ h
 | new=>
  obtain⟨a,e,hn,nf,o⟩:=h;refine⟨a,e,hn,λz=>?_,o.mono (.of x.same) x.sub (λo h=>x.same _ _ h)⟩;rcases x.new a z with z | z
  ·exact nf z
  ·obtain⟨o',h,_⟩:=o.at;rw[h]at z;cases z
 | own i=>exact h
theorem Opd.back (s:Same H H1)(h:Opd K Fz2 H2 ρ σ H1 d k v):Opd K Fz2 H2 ρ σ H d k v:=by
 cases k with
 | frz=>exact h
 | new=>obtain⟨a,e,hn,r⟩:=h;exact⟨a,e,s.free hn,r⟩
 | own i=>exact h
theorem Opd.up (h:Opd K Fz2 H2 [] [] H d k v):Opd K Fz2 H2 ρ σ H d k v:=by
 cases k with
 | frz=>exact h
 | new=>exact h
 | own i=>obtain⟨z,_⟩:=h;simp at z
theorem Post.behind (x:Ext Fz H Fz1 H1)(p:Post K [] [] Fz1 H1 Fz2 H2 d k v):Post K ρ σ Fz H Fz2 H2 d k v:=
 ⟨x.trans p.ext,(p.opd.up (ρ:=ρ) (σ:=σ)).back x.same⟩
theorem Post.then(x:Ext Fz H Fz1 H1)(p:Post K ρ σ Fz1 H1 Fz2 H2 d k v):Post K ρ σ Fz H Fz2 H2 d k v:=
 ⟨x.trans p.ext,p.opd.back x.same⟩
theorem Post.val (al:∀b,Fz b->H b≠none)(h:Den K Fz H d v):Post K ρ σ Fz H Fz H d .frz v:=⟨⟨Same.refl H,λ_ h=>h,λ_ h=>.inl h,al⟩,h⟩
end
noncomputable def pVar (i:Nat):TPE:=λρ Q=>match ρ[i]? with
 | some (some (d,b))=>Q d (if b then .own i else .frz)
 | _=>False
theorem zgL {i:Nat}{ρ:PEnv}{Q:PV->Kd->Prop}:pVar i ρ Q↔∃d b,ρ[i]? = some (some (d,b))/\Q d (if b then .own i else .frz):=by
 unfold pVar;cases h:ρ[i]? with
 | none=>simp
 | some x=>
  cases x with
  | none=>simp
  | some p=>
   obtain⟨d,b⟩:=p;constructor
   ·exact λq=>⟨d,b,rfl,q⟩
   ·rintro⟨d',b',e,q⟩;cases e;exact q
noncomputable def pC (d:PV):TPE:=λ_ Q=>Q d .frz
section
variable {X:Cx}
theorem zab (i:Nat){x:Str}{pos:Pos}(hN:autoParam (X.N[i]? = some x) aU0)(hv:autoParam (Vis X.env.scope x) aU4)(hd:autoParam ((x == ("__debug__" : Str))=false) aU1)
  (hcd:autoParam ((x == ("__classdict__" : Str))=false) aU1):PuE X (.Name x pos) (pVar i) where
 mono ρ Q Q' m h:=by obtain⟨d,b,e,q⟩:=zgL.mp h;exact zgL.mpr ⟨d,b,e,m _ _ q⟩
 run:=PE.weak (zdm hN hv hd hcd) λσ H Q h=>by
  obtain⟨ρ,Fz,R,h⟩:=h;obtain⟨d,b,e,q⟩:=zgL.mp h;cases b with
  | false=>
   obtain⟨v,e1,h1⟩:=R.frz i d e;exact⟨v,e1,q v Fz H (.val R.al h1)⟩
  | true=>
   obtain⟨a,e1,_,_⟩:=R.own i d e;exact⟨_,e1,q _ Fz H ⟨⟨Same.refl H,λ_ h=>h,λ_ h=>.inl h,R.al⟩,e,e1⟩⟩
theorem zdR {e:Expr}{d:PV}{v:V}(h:PE X e (tC v))(hd:∀Fz H,Den X.K Fz H d v):PuE X e (pC d) where
 mono ρ Q Q' m h:=m _ _ h
 run:=PE.weak h λσ H Q h=>by
  obtain⟨ρ,Fz,R,q⟩:=h;exact q v Fz H (.val R.al (hd Fz H))
theorem zai {i j pos}:PuE X (.Constant (.int i) j pos) (pC (.int i)):=zdR zrw λ_ _=>by simp only[Den]
theorem ziZ {b j pos}:PuE X (.Constant (.bool b) j pos) (pC (.bl b)):=zdR ztD λ_ _=>by simp only[Den]
theorem zsp {j pos}:PuE X (.Constant .none j pos) (pC .non):=zdR zrx λ_ _=>by simp only[Den]
theorem zsq {x j pos}:PuE X (.Constant (.str x) j pos) (pC (.str x)):=zdR zry λ_ _=>by simp only[Den]
theorem zsr {x:Str}{T:String}{pos:Pos}(hg:Gl X x)(hm:X.mg x=none)(hv:bootBuiltins x=some (.type T))(hn:autoParam (x≠"__name__") aU1) (hd:autoParam ((x == ("__debug__" : Str))=false) aU1):PuE X (.Name x pos) (pC (.ty T)):=
 zdR (zpT (v:=.ty T) hg hm hv rfl hn hd) λ_ _=>by simp only[Den]
end
noncomputable abbrev P2:=PV->PV->(PV->Kd->Prop)->Prop
structure POp (K:Xb)(r:R2)(p:P2):Prop where
 mono:∀d e Q Q',(∀z k,Q z k->Q' z k)->p d e Q->p d e Q'
 run:∀Fz H x y d e Q,(∀b,Fz b->H b≠none)->Root K Fz H d x->Root K Fz H e y->p d e (λz k=>∀v Fz' H',Post K [] [] Fz H Fz' H' z k v->Q v H')->r x y H Q
noncomputable def t2 (p:P2)(ta tb:TPE):TPE:=λρ Q=>ta ρ λd _=>tb ρ λe _=>p d e Q
section
variable {X:Cx}{a b:Expr}{ta tb:TPE}{pos:Pos}{r:R2}{p:P2}
theorem zep (hp:POp X.K r p)(ha:PuE X a ta)(hb:PuE X b tb):∀ρ Q Q',(∀d k,Q d k->Q' d k)->t2 p ta tb ρ Q->t2 p ta tb ρ Q':=
 λρ Q Q' m h=>ha.mono ρ _ _ (λd _ h=>hb.mono ρ _ _ (λe _ h=>hp.mono d e _ _ m h) h) h
theorem zhI (hp:POp X.K r p)(ha:PuE X a ta)(hb:PuE X b tb){σ:St}{H:Hp}{Q:VK}(h:lift X.K (t2 p ta tb) σ H Q):tOp r (lift X.K ta) (lift X.K tb) σ H Q:=by
 obtain⟨ρ,Fz,R,h⟩:=h;refine ztX ha hb ρ Fz R (ha.mono ρ _ _ (λd kd h=>hb.mono ρ _ _ (λe ke h=>?_) h) h);intro x y Fz1 H1 Fz2 H2 p1 p2;have R1:=R.ext p1.ext;refine hp.run Fz2 H2 x y d e Q p2.ext.al ((p1.root R).mono p2.ext.same p2.ext.sub) (p2.root R1) (hp.mono d e _ _ (λz k q v Fz' H' p3=>?_) h);exact q v Fz' H' (p3.behind (p1.ext.trans p2.ext))
theorem zhJ {op:Operator}(ho:OpR X (binaryOp op) r)(hp:POp X.K r p)(ha:PuE X a ta)(hb:PuE X b tb):PuE X (.BinOp a op b pos) (t2 p ta tb):=
 ⟨zep hp ha hb,PE.weak (ztL ho ha.run hb.run) λ_ _ _ h=>zhI hp ha hb h⟩
theorem zss {op:CmpOp}(ho:OpR X (compareOp op) r)(hp:POp X.K r p)(ha:PuE X a ta)(hb:PuE X b tb)(hm:autoParam (behindInMarks op b=false) aU5):PuE X (.Compare a [op] [b] pos) (t2 p ta tb):=
 ⟨zep hp ha hb,PE.weak (zpX ho ha.run hb.run hm) λ_ _ _ h=>zhI hp ha hb h⟩
noncomputable def blP (d:PV)(Q:Bool->Prop):Prop:=match d with
 | .bl b=>Q b
 | _=>False
theorem zja {d:PV}{Q:Bool->Prop}:blP d Q↔∃b,d=.bl b/\Q b:=by
 unfold blP;constructor
 ·intro h;cases d<;>first | exact⟨_,rfl,h⟩ | exact h.elim
 ·rintro⟨b,rfl,q⟩;exact q
theorem zop {d:PV}{Q Q':Bool->Prop}(m:∀b,Q b->Q' b)(h:blP d Q):blP d Q':=by
 obtain⟨b,e,q⟩:=zja.mp h;exact zja.mpr ⟨b,e,m b q⟩
noncomputable def tBl (te:TPE):TPT:=λρ Q=>te ρ λd _=>blP d Q
theorem zfs {op:CmpOp}(ho:OpR X (compareOp op) r)(hp:POp X.K r p)(ha:PuE X a ta)(hb:PuE X b tb)(hm:autoParam (behindInMarks op b=false) aU5):PuT X (.Compare a [op] [b] pos) (tBl (t2 p ta tb)) where
 mono ρ Q Q' m h:=zep hp ha hb ρ _ _ (λd _ q=>zop m q) h
 run:=PT.weak (zpY ho ha.run hb.run hm) λσ H Q h=>by
  obtain⟨ρ,Fz,R,h⟩:=h;refine zhI hp ha hb ⟨ρ,Fz,R,zep hp ha hb ρ _ _ (λd k q v Fz' H' p=>?_) h⟩;obtain⟨b,e,q⟩:=zja.mp q;refine⟨b,?_,q Fz' H' p.ext⟩;subst e;have w:=p.root R;simpa only[Root,Den]using w
theorem ztY (ho:IxR X r)(hp:POp X.K r p)(ha:PuE X a ta)(hb:PuE X b tb)(hs:autoParam (zgD b) aU6):PuE X (.Subscript a b pos) (t2 p ta tb):=
 ⟨zep hp ha hb,PE.weak (zrV ho ha.run hb.run hs) λ_ _ _ h=>zhI hp ha hb h⟩
end
noncomputable def i2 (C:Int->Int->Prop)(g:Int->Int->PV):P2:=λd e Q=>∃i j,d=.int i/\e=.int j/\C i j/\Q (g i j) .frz
noncomputable def i0 (g:Int->Int->PV):P2:=λd e Q=>∃i j,d=.int i/\e=.int j/\Q (g i j) .frz
section
variable {K:Xb}
theorem zjQ {C:Int->Int->Prop}{g:Int->Int->Int}:POp K (rI C λi j=>.int (g i j)) (i2 C λi j=>.int (g i j)) where
 mono d e Q Q' m h:=by obtain⟨i,j,e1,e2,c,q⟩:=h;exact⟨i,j,e1,e2,c,m _ _ q⟩
 run Fz H x y d e Q al rx ry h:=by
  obtain⟨i,j,rfl,rfl,c,q⟩:=h;simp only[Root,Den]at rx ry;exact⟨i,j,rx,ry,c,q _ Fz H (.val al (by simp only[Den]))⟩
theorem zmk {g:Int->Int->Int}:POp K (rI0 λi j=>.int (g i j)) (i0 λi j=>.int (g i j)) where
 mono d e Q Q' m h:=by obtain⟨i,j,e1,e2,q⟩:=h;exact⟨i,j,e1,e2,m _ _ q⟩
 run Fz H x y d e Q al rx ry h:=by
  obtain⟨i,j,rfl,rfl,q⟩:=h;simp only[Root,Den]at rx ry;exact⟨i,j,rx,ry,q _ Fz H (.val al (by simp only[Den]))⟩
theorem zoq {g:Int->Int->Bool}:POp K (rI0 λi j=>.bl (g i j)) (i0 λi j=>.bl (g i j)) where
 mono d e Q Q' m h:=by obtain⟨i,j,e1,e2,q⟩:=h;exact⟨i,j,e1,e2,m _ _ q⟩
 run Fz H x y d e Q al rx ry h:=by
  obtain⟨i,j,rfl,rfl,q⟩:=h;simp only[Root,Den]at rx ry;exact⟨i,j,rx,ry,q _ Fz H (.val al (by simp only[Den]))⟩
end
section
variable {X:Cx}{a b:Expr}{ta tb:TPE}{pos:Pos}
noncomputable abbrev pAdd:=t2 (i0 λi j=>.int (i+j))
noncomputable abbrev pSub:=t2 (i0 λi j=>.int (i-j))
noncomputable abbrev pMul:=t2 (i2 CMul λi j=>.int (i*j))
noncomputable abbrev pMod:=t2 (i2 (λ_ j=>0<j) λi j=>.int (i % j))
noncomputable abbrev pPow:=t2 (i2 CPow λi j=>.int (i ^ j.toNat))
noncomputable abbrev pShr:=t2 (i2 (λ_ j=>0<=j) λi j=>.int (i / 2 ^ j.toNat))
noncomputable abbrev pGt:=t2 (i0 λi j=>.bl (decide (j<i)))
theorem zbL (ha:PuE X a ta)(hb:PuE X b tb):PuE X (.BinOp a .Add b pos) (pAdd ta tb):=zhJ zrK zmk ha hb
theorem zst (ha:PuE X a ta)(hb:PuE X b tb):PuE X (.BinOp a .Sub b pos) (pSub ta tb):=zhJ zrL zmk ha hb
theorem zeK (ha:PuE X a ta)(hb:PuE X b tb):PuE X (.BinOp a .Mult b pos) (pMul ta tb):=zhJ zrM zjQ ha hb
theorem zbl (ha:PuE X a ta)(hb:PuE X b tb):PuE X (.BinOp a .Mod b pos) (pMod ta tb):=zhJ zrN zjQ ha hb
theorem zsu (ha:PuE X a ta)(hb:PuE X b tb):PuE X (.BinOp a .Pow b pos) (pPow ta tb):=zhJ zrO zjQ ha hb
theorem zpr (ha:PuE X a ta)(hb:PuE X b tb):PuE X (.BinOp a .RShift b pos) (pShr ta tb):=zhJ zrP zjQ ha hb
end
noncomputable def plain:Nat->PV->Bool
 | _,.non=>true
 | _,.int _=>true
 | _,.str _=>true
 | n+1,.tup ds=>ds.all (plain n)
 | n+1,.lst ds=>ds.all (plain n)
 | _,_=>false
theorem zcV {K:Xb}{Fz:FZ}{H:Hp}{x:V}(h:Root K Fz H .non x):x=.non:=by simpa only[Root,Den]using h
theorem zaK {K:Xb}{Fz:FZ}{H:Hp}{x:V}{i:Int}(h:Root K Fz H (.int i) x):x=.int i:=by simpa only[Root,Den]using h
theorem zjb {K:Xb}{Fz:FZ}{H:Hp}{x:V}{i:Bool}(h:Root K Fz H (.bl i) x):x=.bl i:=by simpa only[Root,Den]using h
theorem zbB {K:Xb}{Fz:FZ}{H:Hp}{x:V}{i:Str}(h:Root K Fz H (.str i) x):x=.str i:=by simpa only[Root,Den]using h
theorem zba {K:Xb}{Fz:FZ}{H:Hp}{x:V}{ds:List PV}(h:Root K Fz H (.tup ds) x):∃a xs,x=.ref a/\SqT K H a xs/\DenL K Fz H ds xs:=by
 simp only[Root,Den]at h;obtain⟨a,xs,e,h1,h2⟩:=h;exact⟨a,xs,e,SqT.of h1,h2⟩
theorem zdS {K:Xb}{Fz:FZ}{H:Hp}{x:V}{ds:List PV}(h:Root K Fz H (.tup ds) x):∃a xs,x=.ref a/\H a=some (.tup xs)/\DenL K Fz H ds xs:=by simpa only[Root,Den]using h
theorem zan {K:Xb}{Fz:FZ}{H:Hp}{x:V}{ds:List PV}(h:Root K Fz H (.lst ds) x):∃a xs,x=.ref a/\SqL K H a xs/\DenL K Fz H ds xs:=by
 simp only[Root]at h;obtain⟨a,xs,e,h1,h2⟩:=h;exact⟨a,xs,e,h1.elim (λh=>.inl h) KX.sq,h2⟩
theorem zhK {K:Xb}{Fz:FZ}{H:Hp}{x:V}{ds:List PV}(h:Root K Fz H (.lst ds) x):∃a xs,x=.ref a/\(Rd H a (.lst xs)\/KX K a xs)/\DenL K Fz H ds xs:=by simpa only[Root]using h
theorem df {p:Prop} [Decidable p] (h:¬ p){Y:Bool->Prop}(y:Y false):Y (decide p):=by rw[decide_eq_false h];exact y
theorem dn {p:Prop} [Decidable p] (h:¬ p){Y:Bool->Prop}(y:Y true):Y (!decide p):=by rw[decide_eq_false h];exact y
section
variable {X:Cx}{pins:List (Addr×Obj)}{σ:St}{H:Hp}{s:Shared}{Fz Fz':FZ}
theorem zdT (I:Inv X pins σ H s){a:Addr}{xs ys:List V}(h1:SqL X.K H a xs)(h2:SqT X.K H a ys):False:=by
 obtain⟨its,r,p,_⟩:=I.list h1;obtain⟨its2,r2,p2,_⟩:=I.tuple h2;exact SeqAt.ne_of_list_tuple p.isList (show s.heap.IsTuple a its2.toArray from p2) rfl
theorem zgM (I:Inv X pins σ H s):∀(n:Nat)(d e:PV)(x:V),plain n d=true->plain n e=true->Root X.K Fz H d x->Root X.K Fz' H e x->d=e:=by
 intro n;induction n with
 | zero=>
  intro d e x pd pe h g;cases d<;>first
   | (simp only[plain]at pd;exact absurd pd (by decide))
   | (cases e<;>first
     | (simp only[plain]at pe;exact absurd pe (by decide))
     | (simp only[Root,Den]at h g;subst h;first | (cases g;rfl) | cases g))
 | succ n ih=>
  have all:∀(ds es:List PV) (xs:List V),ds.all (plain n)=true->es.all (plain n)=true->DenL X.K Fz H ds xs->DenL X.K Fz' H es xs->ds=es:=by
   intro ds;induction ds with
   | nil=>
    intro es xs _ _ h g;simp only[DenL]at h;subst h;cases es with
    | nil=>rfl
    | cons e es=>simp only[DenL]at g;obtain⟨_,_,z,_⟩:=g;cases z
   | cons d ds ihd=>
    intro es xs pd pe h g;simp only[DenL]at h;obtain⟨v,r,z,h1,h2⟩:=h;subst z;cases es with
    | nil=>simp only[DenL]at g;cases g
    | cons e es=>
     simp only[DenL]at g;obtain⟨v',r',z,g1,g2⟩:=g;cases z;rw[List.all_cons,YF]at pd pe;rw[ih d e v pd.1 pe.1 h1.root g1.root,ihd es r pd.2 pe.2 h2 g2]
  intro d e x pd pe h g;cases d with
  | tup ds=>
   simp only[plain]at pd;simp only[Root,Den]at h;obtain⟨a,xs,rfl,h1,h2⟩:=h;cases e with
   | tup es=>
    simp only[plain]at pe;simp only[Root,Den]at g;obtain⟨b,ys,z,g1,g2⟩:=g;cases z;have e1:=I.zhp (SqT.of h1) (SqT.of g1);subst e1;rw[all ds es xs pd pe h2 g2]
   | lst es=>
    obtain⟨b,ys,z,g1,g2⟩:=zan g;cases z;exact(zdT I g1 (SqT.of h1)).elim
   | non=>simp only[Root,Den]at g;cases g
   | int i=>simp only[Root,Den]at g;cases g
   | str i=>simp only[Root,Den]at g;cases g
   | bl _=>simp only[plain]at pe;exact absurd pe (by decide)
   | ty _=>simp only[plain]at pe;exact absurd pe (by decide)
   | dK _ _=>simp only[plain]at pe;exact absurd pe (by decide)
   | dT _ _=>simp only[plain]at pe;exact absurd pe (by decide)
  | lst ds=>
   simp only[plain]at pd;obtain⟨a,xs,rfl,h1,h2⟩:=zan h;cases e with
   | lst es=>
    simp only[plain]at pe;obtain⟨b,ys,z,g1,g2⟩:=zan g;cases z;have e1:=I.zdI h1 g1;subst e1;rw[all ds es xs pd pe h2 g2]
   | tup es=>
    simp only[Root,Den]at g;obtain⟨b,ys,z,g1,g2⟩:=g;cases z;exact(zdT I h1 (SqT.of g1)).elim
   | non=>simp only[Root,Den]at g;cases g
   | int i=>simp only[Root,Den]at g;cases g
   | str i=>simp only[Root,Den]at g;cases g
   | bl _=>simp only[plain]at pe;exact absurd pe (by decide)
   | ty _=>simp only[plain]at pe;exact absurd pe (by decide)
   | dK _ _=>simp only[plain]at pe;exact absurd pe (by decide)
   | dT _ _=>simp only[plain]at pe;exact absurd pe (by decide)
  | bl _=>simp only[plain]at pd;exact absurd pd (by decide)
  | ty _=>simp only[plain]at pd;exact absurd pd (by decide)
  | dK _ _=>simp only[plain]at pd;exact absurd pd (by decide)
  | dT _ _=>simp only[plain]at pd;exact absurd pd (by decide)
  | non=>
   have h':=zcV h;subst h';cases e with
   | non=>rfl
   | int i=>exact nomatch zaK g
   | str i=>exact nomatch zbB g
   | tup ds=>obtain⟨_,_,z,_⟩:=zba g;exact nomatch z
   | lst ds=>obtain⟨_,_,z,_⟩:=zan g;exact nomatch z
   | _=>simp only[plain]at pe;exact absurd pe (by decide)
  | int i=>
   have h':=zaK h;subst h';cases e with
   | non=>exact nomatch zcV g
   | int j=>have:=zaK g;injection this with this;rw[this]
   | str i=>exact nomatch zbB g
   | tup ds=>obtain⟨_,_,z,_⟩:=zba g;exact nomatch z
   | lst ds=>obtain⟨_,_,z,_⟩:=zan g;exact nomatch z
   | _=>simp only[plain]at pe;exact absurd pe (by decide)
  | str i=>
   have h':=zbB h;subst h';cases e with
   | non=>exact nomatch zcV g
   | int j=>exact nomatch zaK g
   | str j=>have:=zbB g;injection this with this;rw[this]
   | tup ds=>obtain⟨_,_,z,_⟩:=zba g;exact nomatch z
   | lst ds=>obtain⟨_,_,z,_⟩:=zan g;exact nomatch z
   | _=>simp only[plain]at pe;exact absurd pe (by decide)
theorem zml {ds es:List PV}{n:Nat}(hn:n=min ds.length es.length):((XZ n).all λj=>decide (ds[j]? = es[j]?))=true↔∀j,j<ds.length->j<es.length->ds[j]? = es[j]?:=by
 rw[XV];constructor
 ·intro h j h1 h2;exact of_decide_eq_true (h j (Yp.mpr (by lia)))
 ·intro h j hj;have:=Yp.mp hj;exact decide_eq_true (h j (by lia) (by lia))
theorem zhL {ds es:List PV}(hl:ds.length=es.length):(∀j,j<ds.length->j<es.length->ds[j]? = es[j]?)↔ds=es:=by
 constructor
 ·intro h;apply List.ext_getElem?;intro j;by_cases hj:j<ds.length
  ·exact h j hj (by lia)
  ·rw[XG (by lia),XG (by lia)]
 ·rintro rfl _ _ _;rfl
theorem zft (ds es:List PV):((XZ (min ds.length es.length)).all (λj=>decide (ds[j]? = es[j]?))&&ds.length == es.length)=decide (ds=es):=by
 by_cases hlen:ds.length=es.length
 ·have hb':(ds.length == es.length)=true:=by simp;omega
  rw[hb',Bool.and_true];by_cases h:ds=es
  ·rw[(zml rfl).mpr ((zhL hlen).mpr h),decide_eq_true h]
  ·rw[decide_eq_false h];cases hq:(XZ (min ds.length es.length)).all (λj=>decide (ds[j]? = es[j]?))with
   | false=>rfl
   | true=>exact absurd ((zhL hlen).mp ((zml rfl).mp hq)) h
 ·have hb':(ds.length == es.length)=false:=by rw[beq_eq_false_iff_ne];exact hlen
  rw[hb',Bool.and_false,decide_eq_false (λz=>hlen (by rw[z]))]
theorem zjc {ds es:List PV}(hlen:ds.length=es.length):((XZ ds.length).all (λj=>decide (ds[j]? = es[j]?)))=decide (ds=es):=by
 have q:=zft ds es;rw[hlen,Nat.min_self]at q;rw[hlen];simpa using q
theorem zjR {i j:Int}:decide (PV.int i=PV.int j)=(i == j):=by
 rw[Bool.eq_iff_iff];simp
theorem zjS {i j:Str}:decide (PV.str i=PV.str j)=(i == j):=by
 rw[Bool.eq_iff_iff];simp
theorem zor {i j:List PV}:decide (PV.tup i=PV.tup j)=decide (i=j):=by
 rw[Bool.eq_iff_iff];simp
theorem zos {i j:List PV}:decide (PV.lst i=PV.lst j)=decide (i=j):=by
 rw[Bool.eq_iff_iff];simp
theorem zjT {A:Around}{n:Nat}{ds es:List PV}{xs ys:List V}{its its2:List Value}(I:Inv X pins σ H s)(r1:Vals xs its)(r2:Vals ys its2)(h1:DenL X.K Fz H ds xs)(h2:DenL X.K Fz' H es ys)(pd:ds.all (plain n)=true)(pe:es.all (plain n)=true)
  (ih:∀(d e:PV) (x y:V) (u v:Value),plain n d=true->plain n e=true->Den X.K Fz H d x->Den X.K Fz' H e y->RelV x u->RelV y v->SeqAt.EqAt A s u v (decide (d=e))) :
  ∀j (h1:j<its.toArray.size) (h2:j<its2.toArray.size),SeqAt.EqAt A s its.toArray[j] its2.toArray[j] (decide (ds[j]? = es[j]?)):=λj h1' h2'=>by
 have l1:=r1.length;have l2:=r2.length;have l3:=h1.length;have l4:=h2.length;rw[Xq]at h1' h2';have e1:ds[j]? = some ds[j]:=Xa (by omega);have e2:es[j]? = some es[j]:=Xa (by omega);obtain⟨x,e3,q3⟩:=h1.get e1;obtain⟨y,e4,q4⟩:=h2.get e2;obtain⟨u1,q1,r1'⟩:=r1.get e3;obtain⟨u2,q2,r2'⟩:=r2.get e4;have f1:its.toArray[j]=u1:=by
  have:its[j]? = some its[j]:=Xa h1';rw[q1]at this;simpa using (Option.some.inj this).symm
 have f2:its2.toArray[j]=u2:=by
  have:its2[j]? = some its2[j]:=Xa h2';rw[q2]at this;simpa using (Option.some.inj this).symm
 rw[f1,f2];have w:decide (ds[j]=es[j])=decide (ds[j]? = es[j]?):=by
  rw[e1,e2];by_cases h:ds[j]=es[j]
  ·rw[decide_eq_true h,decide_eq_true (by rw[h])]
  ·rw[decide_eq_false h,decide_eq_false (λz=>h (Option.some.inj z))]
 rw[<- w];exact ih _ _ _ _ _ _ (XV.mp pd _ (Yr _)) (XV.mp pe _ (Yr _)) q3 q4 r1' r2'
inductive Leaf:PV->Value->Prop
 | non:Leaf .non .none
 | int (i:Int) (t:Tok):Leaf (.int i) (.int i t)
 | str (i:Str) (t:Tok):Leaf (.str i) (.str i t)
theorem zmm {K:Xb}{Fz:FZ}{H:Hp}{d:PV}{x:V}{u:Value}(hp:plain 0 d=true)(hx:Root K Fz H d x)(rx:RelV x u):Leaf d u:=by
 cases d with
 | non=>rw[zcV hx]at rx;cases rx;exact .non
 | int i=>rw[zaK hx]at rx;obtain⟨t,rfl⟩:=rx;exact .int i t
 | str i=>rw[zbB hx]at rx;obtain⟨t,rfl⟩:=rx;exact .str i t
 | _=>simp only[plain]at hp;exact absurd hp (by decide)
theorem zqp {A:Around}{s:Shared}{d e:PV}{u v:Value}(h1:Leaf d u)(h2:Leaf e v):SeqAt.RcAt A s u v (decide (d=e))/\SeqAt.RcNeAt A s u v (!decide (d=e))/\SeqAt.EqAt A s u v (decide (d=e)):=by
 have no:∀ {d e:PV} {u v:Value},d≠e->SeqAt.RcAt A s u v false->SeqAt.RcNeAt A s u v true->SeqAt.EqAt A s u v false->SeqAt.RcAt A s u v (decide (d=e))/\SeqAt.RcNeAt A s u v (!decide (d=e))/\SeqAt.EqAt A s u v (decide (d=e)):=λh a b c=>by rw[decide_eq_false h];exact⟨a,b,c⟩
 cases h1<;>cases h2
 ·rw[decide_eq_true rfl];exact⟨SeqAt.RcAt.none_none,SeqAt.RcNeAt.none_none,SeqAt.EqAt.same _⟩
 ·exact no (λz=>nomatch z) (SeqAt.RcAt.none_int _ _) (SeqAt.RcNeAt.none_int _ _) (SeqAt.EqAt.none_int _ _)
 ·exact no (λz=>nomatch z) (SeqAt.RcAt.none_str _ _) (SeqAt.RcNeAt.none_str _ _) (SeqAt.EqAt.none_str _ _)
 ·exact no (λz=>nomatch z) (SeqAt.RcAt.int_none _ _) (SeqAt.RcNeAt.int_none _ _) (SeqAt.EqAt.int_none _ _)
 ·rw[zjR];exact⟨SeqAt.RcAt.int_int _ _ _ _,SeqAt.RcNeAt.int_int _ _ _ _,SeqAt.EqAt.int_int _ _ _ _⟩
 ·exact no (λz=>nomatch z) (SeqAt.RcAt.int_str _ _ _ _) (SeqAt.RcNeAt.int_str _ _ _ _) (SeqAt.EqAt.int_str _ _ _ _)
 ·exact no (λz=>nomatch z) (SeqAt.RcAt.str_none _ _) (SeqAt.RcNeAt.str_none _ _) (SeqAt.EqAt.str_none _ _)
 ·exact no (λz=>nomatch z) (SeqAt.RcAt.str_int _ _ _ _) (SeqAt.RcNeAt.str_int _ _ _ _) (SeqAt.EqAt.str_int _ _ _ _)
 ·rw[zjS];exact⟨SeqAt.RcAt.str_str _ _ _ _,SeqAt.RcNeAt.str_str _ _ _ _,SeqAt.EqAt.str_str _ _ _ _⟩
theorem zqq (I:Inv X pins σ H s):∀(n:Nat)(A:Around)(d e:PV)(x y:V)(u v:Value),plain n d=true->plain n e=true->A.units+n<cLine->Root X.K Fz H d x->Root X.K Fz' H e y->RelV x u->RelV y v->
  SeqAt.RcAt A s u v (decide (d=e))/\SeqAt.RcNeAt A s u v (!decide (d=e))/\SeqAt.EqAt A s u v (decide (d=e)):=by
 intro n;induction n with
 | zero=>exact λA d e x y u v pd pe hu hx hy rx ry=>zqp (zmm pd hx rx) (zmm pe hy ry)
 | succ n ih=>
  intro A d e x y u v pd pe hu hx hy rx ry;have hA:A.units<cLine:=by lia
  have iha:∀(d e:PV) (x y:V) (u v:Value),plain n d=true->plain n e=true->Den X.K Fz H d x->Den X.K Fz' H e y->RelV x u->RelV y v->SeqAt.EqAt A.in1 s u v (decide (d=e)):=
   λd e x y u v pd pe h1 h2 r1 r2=>(ih A.in1 d e x y u v pd pe (by show A.units+1+n<cLine;lia) h1.root h2.root r1 r2).2.2
  have lower:∀c:PV,(∀ds,c≠.tup ds)->(∀ds,c≠.lst ds)->plain (n+1) c=true->plain n c=true:=λc h1 h2 hc=>by
   cases c with
   | tup ds=>exact absurd rfl (h1 ds)
   | lst ds=>exact absurd rfl (h2 ds)
   | non=>cases n<;>rfl
   | int i=>cases n<;>rfl
   | str i=>cases n<;>rfl
   | bl _=>simp only[plain]at hc;exact absurd hc (by decide)
   | ty _=>simp only[plain]at hc;exact absurd hc (by decide)
   | dK _ _=>simp only[plain]at hc;exact absurd hc (by decide)
   | dT _ _=>simp only[plain]at hc;exact absurd hc (by decide)
  have hA':A.units+n<cLine:=by lia
  cases d with
  | tup ds=>
   have hx':=hx;simp only[Root,Den]at hx;obtain⟨a,xs,rfl,ha,h1⟩:=hx;cases rx;obtain⟨its,r1,p1,z1⟩:=I.tuple (SqT.of ha);have p1':s.heap.IsTuple a its.toArray:=p1;cases e with
   | tup es=>
    have hy':=hy;simp only[Root,Den]at hy;obtain⟨b,ys,rfl,hb,h2⟩:=hy;cases ry;obtain⟨its2,r2,p2,z2⟩:=I.tuple (SqT.of hb);have p2':s.heap.IsTuple b its2.toArray:=p2;have he:=zjT I r1 r2 h1 h2 (by simpa only[plain]using pd) (by simpa only[plain]using pe) iha;have w:((XZ (min its.toArray.size its2.toArray.size)).all (λj=>decide (ds[j]? = es[j]?))&&its.toArray.size == its2.toArray.size)=decide (PV.tup ds=PV.tup es):=by
     rw[Xq,Xq,<- r1.length,<- r2.length,<- h1.length,<- h2.length,zft,zor]
    have q:=SeqAt.RcAt.tuples p1' p2' hA he;have q':=SeqAt.RcNeAt.tuples p1' p2' hA he;rw[w]at q q';refine⟨q,q',?_⟩;by_cases hab:a=b
    ·subst hab;rw[zgM I (n+1) _ _ _ pd pe hx' hy',decide_eq_true rfl];exact SeqAt.EqAt.same _
    ·exact SeqAt.EqAt.of_refs hab q
   | lst es=>
    obtain⟨b,ys,rfl,hb,h2⟩:=zan hy;cases ry;obtain⟨its2,r2,p2,z2⟩:=I.list hb;exact⟨df (λz=>nomatch z) (SeqAt.RcAt.tuple_list p1' p2.isList hA),dn (λz=>nomatch z) (SeqAt.RcNeAt.tuple_list p1' p2.isList hA),df (λz=>nomatch z) (SeqAt.EqAt.tuple_list p1' p2.isList hA)⟩
   | non=>simp only[Root,Den]at hy;subst hy;cases ry;exact⟨df (λz=>nomatch z) (SeqAt.RcAt.tuple_none p1' hA),dn (λz=>nomatch z) (SeqAt.RcNeAt.tuple_none p1' hA),df (λz=>nomatch z) (SeqAt.EqAt.tuple_none p1' hA)⟩
   | int i=>simp only[Root,Den]at hy;subst hy;obtain⟨t,rfl⟩:=ry;exact⟨df (λz=>nomatch z) (SeqAt.RcAt.tuple_int i t p1' hA),dn (λz=>nomatch z) (SeqAt.RcNeAt.tuple_int i t p1' hA),df (λz=>nomatch z) (SeqAt.EqAt.tuple_int i t p1' hA)⟩
   | str i=>simp only[Root,Den]at hy;subst hy;obtain⟨t,rfl⟩:=ry;exact⟨df (λz=>nomatch z) (SeqAt.RcAt.tuple_str i t p1' hA),dn (λz=>nomatch z) (SeqAt.RcNeAt.tuple_str i t p1' hA),df (λz=>nomatch z) (SeqAt.EqAt.tuple_str i t p1' hA)⟩
   | bl _=>simp only[plain]at pe;exact absurd pe (by decide)
   | ty _=>simp only[plain]at pe;exact absurd pe (by decide)
   | dK _ _=>simp only[plain]at pe;exact absurd pe (by decide)
   | dT _ _=>simp only[plain]at pe;exact absurd pe (by decide)
  | lst ds=>
   have hx':=hx;obtain⟨a,xs,rfl,ha,h1⟩:=zan hx;cases rx;obtain⟨its,r1,p1,z1⟩:=I.list ha;have p1':=p1.isList;cases e with
   | lst es=>
    have hy':=hy;obtain⟨b,ys,rfl,hb,h2⟩:=zan hy;cases ry;obtain⟨its2,r2,p2,z2⟩:=I.list hb;have he:=zjT I r1 r2 h1 h2 (by simpa only[plain]using pd) (by simpa only[plain]using pe) iha;have l1:=r1.length;have l2:=r2.length;have l3:=h1.length;have l4:=h2.length;have key:SeqAt.RcAt A s (.ref a) (.ref b) (decide (PV.lst ds=PV.lst es))/\SeqAt.RcNeAt A s (.ref a) (.ref b) (!decide (PV.lst ds=PV.lst es)):=by
     by_cases hlen:ds.length=es.length
     ·have w:(XZ its.toArray.size).all (λj=>decide (ds[j]? = es[j]?))=decide (PV.lst ds=PV.lst es):=by
       rw[Xq,<- l1,<- l3,zjc hlen,zos]
      have q:=SeqAt.RcAt.lists p1' p2.isList (by rw[Xq,Xq];lia) hA he;have q':=SeqAt.RcNeAt.lists p1' p2.isList (by rw[Xq,Xq];lia) hA he;rw[w]at q q';exact⟨q,q'⟩
     ·have hne:(its.toArray.size != its2.toArray.size)=true:=by rw[Xq,Xq];simp;lia
      rw[decide_eq_false (λz=>hlen (by rw[PV.lst.inj z]))];exact⟨SeqAt.RcAt.lists_lengths p1' p2.isList hne hA,SeqAt.RcNeAt.lists_lengths p1' p2.isList hne hA⟩
    refine⟨key.1,key.2,?_⟩;by_cases hab:a=b
    ·subst hab;rw[zgM I (n+1) _ _ _ pd pe hx' hy',decide_eq_true rfl];exact SeqAt.EqAt.same _
    ·exact SeqAt.EqAt.of_refs hab key.1
   | tup es=>
    simp only[Root,Den]at hy;obtain⟨b,ys,rfl,hb,h2⟩:=hy;cases ry;obtain⟨its2,r2,p2,z2⟩:=I.tuple (SqT.of hb);have p2':s.heap.IsTuple b its2.toArray:=p2;exact⟨df (λz=>nomatch z) (SeqAt.RcAt.list_tuple p1' p2' hA),dn (λz=>nomatch z) (SeqAt.RcNeAt.list_tuple p1' p2' hA),df (λz=>nomatch z) (SeqAt.EqAt.list_tuple p1' p2' hA)⟩
   | non=>simp only[Root,Den]at hy;subst hy;cases ry;exact⟨df (λz=>nomatch z) (SeqAt.RcAt.list_none p1' hA),dn (λz=>nomatch z) (SeqAt.RcNeAt.list_none p1' hA),df (λz=>nomatch z) (SeqAt.EqAt.list_none p1' hA)⟩
   | int i=>simp only[Root,Den]at hy;subst hy;obtain⟨t,rfl⟩:=ry;exact⟨df (λz=>nomatch z) (SeqAt.RcAt.list_int i t p1' hA),dn (λz=>nomatch z) (SeqAt.RcNeAt.list_int i t p1' hA),df (λz=>nomatch z) (SeqAt.EqAt.list_int i t p1' hA)⟩
   | str i=>simp only[Root,Den]at hy;subst hy;obtain⟨t,rfl⟩:=ry;exact⟨df (λz=>nomatch z) (SeqAt.RcAt.list_str i t p1' hA),dn (λz=>nomatch z) (SeqAt.RcNeAt.list_str i t p1' hA),df (λz=>nomatch z) (SeqAt.EqAt.list_str i t p1' hA)⟩
   | bl _=>simp only[plain]at pe;exact absurd pe (by decide)
   | ty _=>simp only[plain]at pe;exact absurd pe (by decide)
   | dK _ _=>simp only[plain]at pe;exact absurd pe (by decide)
   | dT _ _=>simp only[plain]at pe;exact absurd pe (by decide)
  | bl _=>simp only[plain]at pd;exact absurd pd (by decide)
  | ty _=>simp only[plain]at pd;exact absurd pd (by decide)
  | dK _ _=>simp only[plain]at pd;exact absurd pd (by decide)
  | dT _ _=>simp only[plain]at pd;exact absurd pd (by decide)
  | non=>
   cases e with
   | tup es=>
    simp only[Root,Den]at hx hy;subst hx;cases rx;obtain⟨b,ys,rfl,hb,h2⟩:=hy;cases ry;obtain⟨its2,r2,p2,z2⟩:=I.tuple (SqT.of hb);have p2':s.heap.IsTuple b its2.toArray:=p2;exact⟨df (λz=>nomatch z) (SeqAt.RcAt.none_tuple p2' hA),dn (λz=>nomatch z) (SeqAt.RcNeAt.none_tuple p2' hA),df (λz=>nomatch z) (SeqAt.EqAt.none_tuple p2' hA)⟩
   | lst es=>
    simp only[Root,Den]at hx;subst hx;cases rx;obtain⟨b,ys,rfl,hb,h2⟩:=zan hy;cases ry;obtain⟨its2,r2,p2,z2⟩:=I.list hb;exact⟨df (λz=>nomatch z) (SeqAt.RcAt.none_list p2.isList hA),dn (λz=>nomatch z) (SeqAt.RcNeAt.none_list p2.isList hA),df (λz=>nomatch z) (SeqAt.EqAt.none_list p2.isList hA)⟩
   | _=>exact ih A _ _ x y u v (lower _ (λ_ z=>nomatch z) (λ_ z=>nomatch z) pd) (lower _ (λ_ z=>nomatch z) (λ_ z=>nomatch z) pe) hA' hx hy rx ry
  | int i=>
   cases e with
   | tup es=>
    simp only[Root,Den]at hx hy;subst hx;obtain⟨t,rfl⟩:=rx;obtain⟨b,ys,rfl,hb,h2⟩:=hy;cases ry;obtain⟨its2,r2,p2,z2⟩:=I.tuple (SqT.of hb);have p2':s.heap.IsTuple b its2.toArray:=p2;exact⟨df (λz=>nomatch z) (SeqAt.RcAt.int_tuple i t p2' hA),dn (λz=>nomatch z) (SeqAt.RcNeAt.int_tuple i t p2' hA),df (λz=>nomatch z) (SeqAt.EqAt.int_tuple i t p2' hA)⟩
   | lst es=>
    simp only[Root,Den]at hx;subst hx;obtain⟨t,rfl⟩:=rx;obtain⟨b,ys,rfl,hb,h2⟩:=zan hy;cases ry;obtain⟨its2,r2,p2,z2⟩:=I.list hb;exact⟨df (λz=>nomatch z) (SeqAt.RcAt.int_list i t p2.isList hA),dn (λz=>nomatch z) (SeqAt.RcNeAt.int_list i t p2.isList hA),df (λz=>nomatch z) (SeqAt.EqAt.int_list i t p2.isList hA)⟩
   | _=>exact ih A _ _ x y u v (lower _ (λ_ z=>nomatch z) (λ_ z=>nomatch z) pd) (lower _ (λ_ z=>nomatch z) (λ_ z=>nomatch z) pe) hA' hx hy rx ry
  | str i=>
   cases e with
   | tup es=>
    simp only[Root,Den]at hx hy;subst hx;obtain⟨t,rfl⟩:=rx;obtain⟨b,ys,rfl,hb,h2⟩:=hy;cases ry;obtain⟨its2,r2,p2,z2⟩:=I.tuple (SqT.of hb);have p2':s.heap.IsTuple b its2.toArray:=p2;exact⟨df (λz=>nomatch z) (SeqAt.RcAt.str_tuple i t p2' hA),dn (λz=>nomatch z) (SeqAt.RcNeAt.str_tuple i t p2' hA),df (λz=>nomatch z) (SeqAt.EqAt.str_tuple i t p2' hA)⟩
   | lst es=>
    simp only[Root,Den]at hx;subst hx;obtain⟨t,rfl⟩:=rx;obtain⟨b,ys,rfl,hb,h2⟩:=zan hy;cases ry;obtain⟨its2,r2,p2,z2⟩:=I.list hb;exact⟨df (λz=>nomatch z) (SeqAt.RcAt.str_list i t p2.isList hA),dn (λz=>nomatch z) (SeqAt.RcNeAt.str_list i t p2.isList hA),df (λz=>nomatch z) (SeqAt.EqAt.str_list i t p2.isList hA)⟩
   | _=>exact ih A _ _ x y u v (lower _ (λ_ z=>nomatch z) (λ_ z=>nomatch z) pd) (lower _ (λ_ z=>nomatch z) (λ_ z=>nomatch z) pe) hA' hx hy rx ry
end
noncomputable def rEqP (K:Xb)(neg:Bool):R2:=λx y H Q=>∃Fz d e,Root K Fz H d x/\Root K Fz H e y/\plain 6 d=true/\plain 6 e=true/\Q (.bl (if neg then !decide (d=e) else decide (d=e))) H
noncomputable def pEq (neg:Bool):P2:=λd e Q=>plain 6 d=true/\plain 6 e=true/\Q (.bl (if neg then !decide (d=e) else decide (d=e))) .frz
section
variable {X:Cx}
theorem zps (hu:X.A.units+16<cLine):OpR X (compareOp .Eq) (rEqP X.K false):=by
 intro pins s σ H x y v u Q I rx ry h;obtain⟨Fz,d,e,hx,hy,pd,pe,q⟩:=h;exact(zqq I 6 X.A d e x y v u pd pe (by lia) hx hy rx ry).1 X.prog X.w X.xe _ ⟨.bl _,H,I,rfl,q⟩
theorem zsv (hu:X.A.units+16<cLine):OpR X (compareOp .NotEq) (rEqP X.K true):=by
 intro pins s σ H x y v u Q I rx ry h;obtain⟨Fz,d,e,hx,hy,pd,pe,q⟩:=h;exact(zqq I 6 X.A d e x y v u pd pe (by lia) hx hy rx ry).2.1 X.prog X.w X.xe _ ⟨.bl _,H,I,rfl,q⟩
theorem zmn {K:Xb}{neg:Bool}:POp K (rEqP K neg) (pEq neg) where
 mono d e Q Q' m h:=⟨h.1,h.2.1,m _ _ h.2.2⟩
 run Fz H x y d e Q al rx ry h:=⟨Fz,d,e,rx,ry,h.1,h.2.1,h.2.2 _ Fz H (.val al (by simp only[Den]))⟩
end
section
variable {X:Cx}{a b c:Expr}{ta tb:TPE}{tA tB':TPT}{pos:Pos}{rest:List Expr}
structure PuW (X:Cx)(e:Expr)(t:TPT):Prop where
 mono:∀ρ Q Q',(∀b,Q b->Q' b)->t ρ Q->t ρ Q'
 run:PW X e (liftT X.K t)
theorem PuW.t {e:Expr}{t:TPT}(h:PuW X e t):PuT X e t:=⟨h.mono,h.run.pt⟩
noncomputable def zcJ (t u:TPT):TPT:=λρ Q=>t ρ λc=>if c=true then u ρ Q else Q false
noncomputable def tOrP (t u:TPT):TPT:=λρ Q=>t ρ λc=>if c=true then Q true else u ρ Q
noncomputable def zdu (t:TPT):TPT:=λρ Q=>t ρ λc=>Q (!c)
theorem PW.weak {e:Expr}{t t':TT}(h:PW X e t)(w:∀σ H Q,t' σ H Q->t σ H Q):PW X e t':=λwhole pins s σ H Q I q=>h whole pins s σ H Q I (w σ H Q q)
theorem zot (ha:PuT X a tA):PuW X (.BoolOp .And [a] pos) tA:=⟨ha.mono,zpU ha.run⟩
theorem zmo (ha:PuT X a tA):PuW X (.BoolOp .Or [a] pos) tA:=⟨ha.mono,zrA ha.run⟩
theorem and_mono (m1:∀ρ (Q Q':Bool->Prop),(∀b,Q b->Q' b)->tA ρ Q->tA ρ Q')(m2:∀ρ (Q Q':Bool->Prop),(∀b,Q b->Q' b)->tB' ρ Q->tB' ρ Q') :
  ∀ρ (Q Q':Bool->Prop),(∀b,Q b->Q' b)->zcJ tA tB' ρ Q->zcJ tA tB' ρ Q':=λρ Q Q' m h=>m1 ρ _ _ (λc q=>by
 cases c with
 | true=>rw[if_pos rfl]at q ⊢;exact m2 ρ _ _ m q
 | false=>rw[if_neg Xw]at q ⊢;exact m _ q) h
theorem or_mono (m1:∀ρ (Q Q':Bool->Prop),(∀b,Q b->Q' b)->tA ρ Q->tA ρ Q')(m2:∀ρ (Q Q':Bool->Prop),(∀b,Q b->Q' b)->tB' ρ Q->tB' ρ Q') :
  ∀ρ (Q Q':Bool->Prop),(∀b,Q b->Q' b)->tOrP tA tB' ρ Q->tOrP tA tB' ρ Q':=λρ Q Q' m h=>m1 ρ _ _ (λc q=>by
 cases c with
 | false=>rw[if_neg Xw]at q ⊢;exact m2 ρ _ _ m q
 | true=>rw[if_pos rfl]at q ⊢;exact m _ q) h
theorem zqr (ha:PuT X a tA)(hb:PuW X (.BoolOp .And (b::rest) pos) tB'):PuW X (.BoolOp .And (a::b::rest) pos) (zcJ tA tB') where
 mono:=and_mono ha.mono hb.mono
 run:=PW.weak (zrB ha.run hb.run) λσ H Q h=>by
  obtain⟨ρ,Fz,R,h⟩:=h;refine⟨ρ,Fz,R,ha.mono ρ _ _ (λc q Fz' H' x=>?_) h⟩;cases c with
  | true=>
   rw[if_pos rfl]at q ⊢;exact⟨ρ,Fz',R.ext x,hb.mono ρ _ _ (λb q Fz2 H2 x2=>q Fz2 H2 (x.trans x2)) q⟩
  | false=>rw[if_neg Xw]at q ⊢;exact q Fz' H' x
theorem zpt (ha:PuT X a tA)(hb:PuW X (.BoolOp .Or (b::rest) pos) tB'):PuW X (.BoolOp .Or (a::b::rest) pos) (tOrP tA tB') where
 mono:=or_mono ha.mono hb.mono
 run:=PW.weak (ztE ha.run hb.run) λσ H Q h=>by
  obtain⟨ρ,Fz,R,h⟩:=h;refine⟨ρ,Fz,R,ha.mono ρ _ _ (λc q Fz' H' x=>?_) h⟩;cases c with
  | false=>
   rw[if_neg Xw]at q ⊢;exact⟨ρ,Fz',R.ext x,hb.mono ρ _ _ (λb q Fz2 H2 x2=>q Fz2 H2 (x.trans x2)) q⟩
  | true=>rw[if_pos rfl]at q ⊢;exact q Fz' H' x
theorem zjd (ha:PuT X a tA):PuT X (.UnaryOp .Not a pos) (zdu tA) where
 mono ρ Q Q' m h:=ha.mono ρ _ _ (λc q=>m _ q) h
 run:=PT.weak (zrC ha.run) λσ H Q h=>h
noncomputable def TruP:PV->Bool->Prop
 | .non,k=>k=false
 | .bl b,k=>k=b
 | .int i,k=>k=(i != 0)
 | .str y,k=>y.length<=sizeLine/\k=((y.length:Int) != 0)
 | .tup ds,k=>k = !ds.isEmpty
 | .lst ds,k=>k = !ds.isEmpty
 | _,_=>False
noncomputable def tTru (te:TPE):TPT:=λρ Q=>te ρ λd _=>∃k,TruP d k/\Q k
theorem TruP.v {K:Xb}{Fz:FZ}{H:Hp}{d:PV}{x:V}{k:Bool}(r:Root K Fz H d x)(t:TruP d k):TruV K x H k:=by
 cases d with
 | non=>cases zcV r;exact t
 | bl b=>cases zjb r;exact t
 | int i=>cases zaK r;exact t
 | str y=>cases zbB r;exact t
 | tup ds=>
  obtain⟨a,xs,rfl,h1,h2⟩:=zba r;refine .inr (.inl ⟨xs,h1,?_⟩);have hl:=h2.length;have t':k = !ds.isEmpty:=t;rw[t'];cases ds<;>cases xs<;>simp_all
 | lst ds=>
  obtain⟨a,xs,rfl,h1,h2⟩:=zan r;refine .inl ⟨xs,h1,?_⟩;have hl:=h2.length;have t':k = !ds.isEmpty:=t;rw[t'];cases ds<;>cases xs<;>simp_all
 | ty _=>exact t.elim
 | dK _ _=>exact t.elim
 | dT _ _=>exact t.elim
theorem zfu (ha:PuE X a ta)(he:autoParam (∀whole,isTrue a X.env whole=(do let v <- whole;standAt a.pos;holding [v] (truthy v))) aU3):PuT X a (tTru ta) where
 mono ρ Q Q' m h:=ha.mono ρ _ _ (λd k q57q=>by obtain⟨b,e,q⟩:=q57q;exact⟨b,e,m b q⟩) h
 run:=PT.weak (znY ha.run he) λσ H Q h=>by
  obtain⟨ρ,Fz,R,h⟩:=h;exact⟨ρ,Fz,R,ha.mono ρ _ _ (λd k q58q v Fz' H' p=>by obtain⟨b,e,q⟩:=q58q;exact⟨b,TruP.v (p.root R) e,q Fz' H' p.ext⟩) h⟩
noncomputable def zdc (ta tb:TPE):TPE:=λρ Q=>ta ρ λd _=>∃c,d=.bl c/\if c=true then tb ρ Q else Q (.bl false) .frz
theorem zsw {op}{t:TPE}(h:PuE X a t):PuE X (.BoolOp op [a] pos) t:=⟨h.mono,zrD h.run⟩
theorem zsx (ha:PuE X a ta)(hb:PuE X (.BoolOp .And (b::rest) pos) tb):PuE X (.BoolOp .And (a::b::rest) pos) (zdc ta tb) where
 mono ρ Q Q' m h:=ha.mono ρ _ _ (λd k ⟨c,e,q⟩=>⟨c,e,by
  cases c with
  | true=>rw[if_pos rfl]at q ⊢;exact hb.mono ρ _ _ m q
  | false=>rw[if_neg Xw]at q ⊢;exact m _ _ q⟩) h
 run:=PE.weak (zrE ha.run hb.run) λσ H Q h=>by
  obtain⟨ρ,Fz,R,h⟩:=h;refine⟨ρ,Fz,R,ha.mono ρ _ _ (λd k ⟨c,e,q⟩ v Fz' H' p=>⟨c,?_,?_⟩) h⟩
  ·subst e;exact zjb (p.root R)
  ·cases c with
   | true=>
    rw[if_pos rfl]at q ⊢;exact⟨ρ,Fz',R.ext p.ext,hb.mono ρ _ _ (λd k q v Fz2 H2 p2=>q v Fz2 H2 (p2.then p.ext)) q⟩
   | false=>rw[if_neg Xw]at q ⊢;exact q _ Fz' H' ⟨p.ext,by show Den _ _ _ _ _;simp only[Den]⟩
noncomputable def tIfE (t:TPT)(ta tb:TPE):TPE:=λρ Q=>t ρ λc=>if c=true then ta ρ Q else tb ρ Q
theorem zou (hc:PuT X c tA)(ha:PuE X a ta)(hb:PuE X b tb):PuE X (.IfExp c a b pos) (tIfE tA ta tb) where
 mono ρ Q Q' m h:=hc.mono ρ _ _ (λd q=>by
  cases d with
  | true=>rw[if_pos rfl]at q ⊢;exact ha.mono ρ _ _ m q
  | false=>rw[if_neg Xw]at q ⊢;exact hb.mono ρ _ _ m q) h
 run:=PE.weak (znT hc.run ha.run hb.run) λσ H Q h=>by
  obtain⟨ρ,Fz,R,h⟩:=h;refine⟨ρ,Fz,R,hc.mono ρ _ _ (λc q Fz' H' x=>?_) h⟩;cases c with
  | true=>
   rw[if_pos rfl]at q ⊢;exact⟨ρ,Fz',R.ext x,ha.mono ρ _ _ (λd k q v Fz2 H2 p2=>q v Fz2 H2 (p2.then x)) q⟩
  | false=>
   rw[if_neg Xw]at q ⊢;exact⟨ρ,Fz',R.ext x,hb.mono ρ _ _ (λd k q v Fz2 H2 p2=>q v Fz2 H2 (p2.then x)) q⟩
end
noncomputable abbrev OpdL (K:Xb)(Fz':FZ)(H':Hp)(ρ:PEnv)(σ:St)(H:Hp):List (PV×Kd)->List V->Prop:=Paired λp v=>Opd K Fz' H' ρ σ H p.1 p.2 v
noncomputable def zqs (K:Xb)(t:TPA):TA:=λσ H Q=>∃ρ Fz,Rel K Fz ρ σ H/\t ρ λops=>∀vs Fz' H',Ext Fz H Fz' H'->OpdL K Fz' H' ρ σ H ops vs->Q vs H'
structure PuA (X:Cx)(es:List Expr)(t:TPA):Prop where
 mono:∀ρ Q Q',(∀ops,Q ops->Q' ops)->t ρ Q->t ρ Q'
 run:PA X es (zqs X.K t)
theorem PA.weak {X:Cx}{es:List Expr}{t t':TA}(h:PA X es t)(w:∀σ H Q,t' σ H Q->t σ H Q):PA X es t':=λpos pins s σ H Q I q=>h pos pins s σ H Q I (w σ H Q q)
noncomputable def pNil:TPA:=λ_ Q=>Q []
noncomputable def zby (te:TPE)(t:TPA):TPA:=λρ Q=>te ρ λd k=>t ρ λops=>Q ((d,k)::ops)
theorem OpdL.back {K:Xb}{ρ:PEnv}{σ:St}{Fz2:FZ}{H H1 H2:Hp}(s:Same H H1):∀ {ops:List (PV×Kd)}{vs:List V},OpdL K Fz2 H2 ρ σ H1 ops vs->OpdL K Fz2 H2 ρ σ H ops vs
 | _,_,.nil=>.nil
 | _,_,.cons h t=>.cons (Opd.back s h) (OpdL.back s t)
section
variable {X:Cx}{e:Expr}{es:List Expr}{te:TPE}{t:TPA}{pos:Pos}
theorem zad:PuA X [] pNil where
 mono ρ Q Q' m h:=m _ h
 run:=PA.weak zcF λσ H Q h=>by
  obtain⟨ρ,Fz,R,h⟩:=h;exact h [] Fz H ⟨Same.refl H,λ_ h=>h,λ_ h=>.inl h,R.al⟩ .nil
theorem zaa (ha:PuE X e te)(hr:PuA X es t)(hs:autoParam (starEach (e::es) X.env=(false,eval e X.env)::starEach es X.env) aU0):PuA X (e::es) (zby te t) where
 mono ρ Q Q' m h:=ha.mono ρ _ _ (λd k h=>hr.mono ρ _ _ (λops h=>m _ h) h) h
 run:=PA.weak (zca ha.run hr.run hs) λσ H Q h=>by
  obtain⟨ρ,Fz,R,h⟩:=h;refine⟨ρ,Fz,R,ha.mono ρ _ _ (λd k h v Fz1 H1 p=>?_) h⟩;refine⟨ρ,Fz1,R.ext p.ext,hr.mono ρ _ _ (λops h vs Fz2 H2 x o=>?_) h⟩;exact h (v::vs) Fz2 H2 (p.ext.trans x) (.cons (Opd.ext x p.opd) (OpdL.back p.ext.same o))
end
noncomputable def zov (K:Xb)(Fz:FZ)(H:Hp):List PV->List V->Prop:=Paired (Root K Fz H)
theorem OpdL.root {K:Xb}{ρ:PEnv}{σ:St}{Fz Fz':FZ}{H H':Hp}(R:Rel K Fz ρ σ H)(x:Ext Fz H Fz' H'):∀ {ops:List (PV×Kd)}{vs:List V},OpdL K Fz' H' ρ σ H ops vs->zov K Fz' H' (ops.map (·.1)) vs
 | _,_,.nil=>.nil
 | _,_,.cons h t=>.cons (Post.root R ⟨x,h⟩) (OpdL.root R x t)
noncomputable def noOwn:List (PV×Kd)->Bool
 | []=>true
 | (_,.own _)::_=>false
 | _::r=>noOwn r
theorem OpdL.frozen {K:Xb}{ρ:PEnv}{σ:St}{Fz Fz':FZ}{H H':Hp}(x:Ext Fz H Fz' H'):∀ {ops:List (PV×Kd)}{vs:List V},noOwn ops=true->OpdL K Fz' H' ρ σ H ops vs->
  ∃Fz2,Ext Fz H Fz2 H'/\(∀b,Fz' b->Fz2 b)/\DenL K Fz2 H' (ops.map (·.1)) vs
 | _,_,_,.nil=>⟨Fz',x,λ_ h=>h,DenL.nil⟩
 | (d,k)::ops,v::vs,hn,.cons h t=>by
  cases k with
  | own i=>exact absurd hn Xw
  | frz=>
   obtain⟨F2,x2,s2,h2⟩:=OpdL.frozen x (ops:=ops) hn t;exact⟨F2,x2,s2,DenL.cons (Den.mono (Keep.of (Same.refl _)) s2 _ _ h) h2⟩
  | new=>
   obtain⟨F2,x2,s2,h2⟩:=OpdL.frozen x (ops:=ops) hn t;obtain⟨a,e,hn',_,o⟩:=h;subst e;refine⟨λb=>F2 b\/b=a,x2.add hn' (by obtain⟨o',e,_⟩:=o.at;rw[e];exact λz=>nomatch z),λb h=>.inl (s2 b h),DenL.cons ?_ (DenL.mono (Keep.of (Same.refl _)) (λb h=>.inl h) _ _ h2)⟩;exact(o.mono (Fz':=λb=>F2 b\/b=a) (Keep.of (Same.refl _)) (λb h=>.inl (s2 b h)) (λ_ h=>h)).den (.inr rfl)
noncomputable def pTup (t:TPA):TPE:=λρ Q=>t ρ λops=>noOwn ops=true/\ops.length<=sizeLine/\Q (.tup (ops.map (·.1))) .frz
noncomputable def pLst (t:TPA):TPE:=λρ Q=>t ρ λops=>noOwn ops=true/\ops.length<=sizeLine/\Q (.lst (ops.map (·.1))) .new
section
variable {X:Cx}{es:List Expr}{t:TPA}{pos:Pos}
theorem zmp {x1}(h:PuA X es t):PuE X (.Tuple es x1 pos) (pTup t) where
 mono ρ Q Q' m q:=h.mono ρ _ _ (λops q=>⟨q.1,q.2.1,m _ _ q.2.2⟩) q
 run:=PE.weak (zrS h.run) λσ H Q q=>by
  obtain⟨ρ,Fz,R,q⟩:=q;refine⟨ρ,Fz,R,h.mono ρ _ _ (λops q vs Fz' H' x o=>?_) q⟩;obtain⟨hn,hl,q⟩:=q;obtain⟨F2,x2,s2,h2⟩:=o.frozen x hn;have len:=h2.length;rw[Xc]at len;refine⟨by lia,λp hp=>q _ F2 _ ⟨x2.laid hp,?_⟩⟩;show Den _ _ _ _ _;simp only[Den];refine⟨p,vs,rfl,zag,DenL.mono (Keep.of (λb u e=>by rw[zaf (zay e hp)];exact e)) (λ_ h=>h) _ _ h2⟩
theorem zbm (h:PuA X es t):PuE X (.List es pos) (pLst t) where
 mono ρ Q Q' m q:=h.mono ρ _ _ (λops q=>⟨q.1,q.2.1,m _ _ q.2.2⟩) q
 run:=PE.weak (zpn h.run) λσ H Q q=>by
  obtain⟨ρ,Fz,R,q⟩:=q;refine⟨ρ,Fz,R,h.mono ρ _ _ (λops q vs Fz' H' x o=>?_) q⟩;obtain⟨hn,hl,q⟩:=q;obtain⟨F2,x2,s2,h2⟩:=o.frozen x hn;have len:=h2.length;rw[Xc]at len;refine⟨by lia,λp hp=>q _ F2 _ ⟨x2.laid hp,p,rfl,x.same.free hp,λz=>x2.al p z hp,vs,zag,?_⟩⟩;exact DenL.mono (Keep.of (λb u e=>by rw[zaf (zay e hp)];exact e)) (λ_ h=>h) _ _ h2
end
mutual
noncomputable def zbI:PV->Bool
 | .tup ds=>zaX ds
 | .lst _=>false
 | .dK _ _=>false
 | .dT _ _=>false
 | _=>true
noncomputable def zaX:List PV->Bool
 | []=>true
 | d::ds=>zbI d&&zaX ds
end
section
variable {K:Xb}{Fz Fz':FZ}{H:Hp}
mutual
theorem zfv:∀(d:PV)(v:V),zbI d=true->Den K Fz H d v->Den K Fz' H d v
 | .non,v,_,h=>by simpa only[Den]using h
 | .bl b,v,_,h=>by simpa only[Den]using h
 | .int i,v,_,h=>by simpa only[Den]using h
 | .str x,v,_,h=>by simpa only[Den]using h
 | .ty n,v,_,h=>by simpa only[Den]using h
 | .tup ds,v,n,h=>by
  simp only[zbI]at n;simp only[Den]at h ⊢;obtain⟨a,xs,e,h1,h2⟩:=h;exact⟨a,xs,e,h1,zct ds xs n h2⟩
 | .lst ds,v,n,h=>by simp only[zbI]at n;exact absurd n (by decide)
 | .dK ks ds,v,n,h=>by simp only[zbI]at n;exact absurd n (by decide)
 | .dT ks ds,v,n,h=>by simp only[zbI]at n;exact absurd n (by decide)
theorem zct:∀(ds:List PV)(xs:List V),zaX ds=true->DenL K Fz H ds xs->DenL K Fz' H ds xs
 | [],xs,_,h=>by simpa only[DenL]using h
 | d::ds,xs,n,h=>by
  simp only[zaX,YF]at n;simp only[DenL]at h ⊢;obtain⟨v,r,e,h1,h2⟩:=h;exact⟨v,r,e,zfv d v n.1 h1,zct ds r n.2 h2⟩
end
end
noncomputable def zbD:PV->Kd->Bool
 | .lst ds,.new=>zaX ds
 | .dK _ ds,.new=>zaX ds
 | .dT _ ds,.new=>zaX ds
 | d,_=>zbI d
theorem zlf {K:Xb}{Fz Fz':FZ}{H H':Hp}{d:PV}{k:Kd}{v:V}(n:zbD d k=true)(hal:∀b,Fz' b->H b≠none)(h:Opd K Fz H' [] [] H d k v):Opd K Fz' H' [] [] H d k v:=by
 cases k with
 | frz=>
  have n':zbI d=true:=by cases d<;>exact n
  exact zfv d v n' h
 | own i=>exact h
 | new=>
  obtain⟨a,e,hn,_,o⟩:=h;refine⟨a,e,hn,λz=>hal a z hn,?_⟩;cases d with
  | lst ds=>obtain⟨xs,h1,h2⟩:=o;exact⟨xs,h1,zct ds xs n h2⟩
  | dK ks ds=>obtain⟨xs,h1,h2,h3⟩:=o;exact⟨xs,h1,h2,zct ds xs n h3⟩
  | dT ks ds=>obtain⟨xs,h1,h2,h3⟩:=o;exact⟨xs,h1,h2,zct ds xs n h3⟩
  | non=>exact o.elim
  | bl b=>exact o.elim
  | int i=>exact o.elim
  | str x=>exact o.elim
  | ty n=>exact o.elim
  | tup ds=>exact o.elim
noncomputable abbrev PF:=List PV->(PV->Kd->Prop)->Prop
noncomputable def zbE (F:PF):Prop:=∀ds Q Q',(∀d k,Q d k->Q' d k)->F ds Q->F ds Q'
noncomputable def spP (K:Xb)(F:PF):Sp:=λvs H Q _=>∃Fz ds,(∀b,Fz b->H b≠none)/\DenL K Fz H ds vs/\F ds λd k=>∀v Fz' H',Post K [] [] Fz H Fz' H' d k v->Q v H'
theorem OpdL.all {K:Xb}{ρ:PEnv}{σ:St}{Fz Fz':FZ}{H H':Hp}(R:Rel K Fz ρ σ H)(x:Ext Fz H Fz' H'):∀ {ops:List (PV×Kd)}{vs:List V},OpdL K Fz' H' ρ σ H ops vs->
  ∃Fz2,(∀b,Fz' b->Fz2 b)/\(∀b,Fz2 b->H' b≠none)/\DenL K Fz2 H' (ops.map (·.1)) vs
 | _,_,.nil=>⟨Fz',λ_ h=>h,x.al,DenL.nil⟩
 | (d,k)::ops,v::vs,.cons h t=>by
  obtain⟨F2,s2,a2,h2⟩:=OpdL.all R x t;have addr:∀a,v=.ref a->Own K Fz' H' d a->∃Fz2,(∀b,Fz' b->Fz2 b)/\(∀b,Fz2 b->H' b≠none)/\DenL K Fz2 H' ((d,k)::ops |>.map (·.1)) (v::vs):=λa e o=>by
   subst e;refine⟨λb=>F2 b\/b=a,λb h=>.inl (s2 b h),λb hb=>?_,DenL.cons ?_ (DenL.mono (Keep.of (Same.refl _)) (λb h=>.inl h) _ _ h2)⟩
   ·rcases hb with hb | rfl
    ·exact a2 b hb
    ·obtain⟨o',e,_⟩:=o.at;rw[e];exact λz=>nomatch z
   ·exact(o.mono (Fz':=λb=>F2 b\/b=a) (Keep.of (Same.refl _)) (λb h=>.inl (s2 b h)) (λ_ h=>h)).den (.inr rfl)
  cases k with
  | frz=>exact⟨F2,s2,a2,DenL.cons (Den.mono (Keep.of (Same.refl _)) s2 _ _ h) h2⟩
  | new=>obtain⟨a,e,_,_,o⟩:=h;exact addr a e o
  | own i=>
   obtain⟨h1,h2'⟩:=h;obtain⟨a,e,_,o⟩:=(R.ext x).own i d h1;rw[h2']at e;cases e;exact addr a rfl o
noncomputable def zbn (F:PF)(t:TPA):TPE:=λρ Q=>t ρ λops=>F (ops.map (·.1)) λd k=>(noOwn ops=true\/zbD d k=true)/\Q d k
section
variable {X:Cx}{k:Nat}{f:Addr}{fd:FuncData}{ps:List Str}{F:PF}{x:Str}{p pos:Pos}{e:Expr}{es:List Expr}{t:TPA}
theorem zow {σ:St}{H:Hp}{Q:VK}(ha:PuA X es t)(m:zbE F)(h:lift X.K (zbn F t) σ H Q):zrT (spP X.K F) [] E0 (zqs X.K t) σ H Q:=by
 obtain⟨ρ,Fz,R,h⟩:=h;refine⟨ρ,Fz,R,ha.mono ρ _ _ (λops h vs Fz' H' x o=>?_) h⟩;show spP X.K F (vs++[]) H' Q E0;rw[YE];by_cases hn:noOwn ops=true
 ·obtain⟨F2,x2,s2,h2⟩:=o.frozen x hn;refine⟨F2,ops.map (·.1),x2.al,h2,m _ _ _ (λd k q v Fz3 H3 p3=>?_) h⟩;exact q.2 v Fz3 H3 (p3.behind x2)
 ·obtain⟨F2,s2,a2,h2⟩:=o.all R x;refine⟨F2,ops.map (·.1),a2,h2,m _ _ _ (λd k q v Fz3 H3 p3=>?_) h⟩;have nm:zbD d k=true:=q.1.resolve_left hn;have al:∀b,Fz' b->H3 b≠none:=λb hb z=>x.al b hb (p3.ext.same.free z);refine q.2 v Fz' H3 ⟨⟨x.same.trans p3.ext.same,x.sub,x.new,al⟩,?_⟩;exact((zlf nm x.al p3.opd).up).back x.same
theorem zak (G:FnOk X.prog X.w X.K X.mg X.base CX0 k f fd ps (spP X.K F))(m:zbE F)(hr:Room k X.A)(hg:Gl X x)(hm:X.mg x=some (.ref f))(hk:XS X.K (.ref f)=true)(hb:Binds X.K fd ps [])(ha:PuA X (e::es) t)
  (hd:autoParam ((x == ("__debug__" : Str))=false) aU1) (he:autoParam (starEach (e::es) X.env=(false,eval e X.env)::starEach es X.env) aU0) (hpl:autoParam ((backTo pos (starEach es X.env)).any (·.1)=false) aU0) :
  PuE X (.Call (.Name x p) (e::es) [] pos) (zbn F t) where
 mono ρ Q Q' mm h:=ha.mono ρ _ _ (λops h=>m _ _ _ (λd k q=>⟨q.1,mm _ _ q.2⟩) h) h
 run:=PE.weak (zpZ G hr hg hm hk hb .nil ztV ha.run hd he hpl) λσ H Q h=>zow ha m h
end
structure zeq (K:Xb)(r:List V->Hp->VK->Prop)(p:PF):Prop where
 mono:zbE p
 run:∀Fz H ds vs Q,(∀b,Fz b->H b≠none)->zov K Fz H ds vs->p ds (λz k=>∀v Fz' H',Post K [] [] Fz H Fz' H' z k v->Q v H')->r vs H Q
noncomputable def tB (p:PF)(t:TPA):TPE:=λρ Q=>t ρ λops=>p (ops.map (·.1)) Q
section
variable {X:Cx}{x:Str}{p pos:Pos}{e:Expr}{es:List Expr}{t:TPA}{id T:String}{r:List V->Hp->VK->Prop}{pf:PF}
theorem zsy {σ:St}{H:Hp}{Q:VK}(ha:PuA X es t)(m:zeq X.K r pf)(h:lift X.K (tB pf t) σ H Q):tCB r (zqs X.K t) σ H Q:=by
 obtain⟨ρ,Fz,R,h⟩:=h;refine⟨ρ,Fz,R,ha.mono ρ _ _ (λops h vs Fz' H' x o=>?_) h⟩;exact m.run Fz' H' _ vs Q x.al (o.root R x) (m.mono _ _ _ (λd k q v Fz3 H3 p3=>q v Fz3 H3 (p3.behind x)) h)
theorem zcn (hc:zcr X (.builtin id) r)(m:zeq X.K r pf)(hg:Gl X x)(hm:X.mg x=none)(hv:bootBuiltins x=some (.builtin id))(ha:PuA X (e::es) t)(hn:autoParam (x≠"__name__") aU1) (hdb:autoParam ((x == ("__debug__" : Str))=false) aU1)
  (he:autoParam (starEach (e::es) X.env=(false,eval e X.env)::starEach es X.env) aU0) (hpl:autoParam ((backTo pos (starEach es X.env)).any (·.1)=false) aU0):PuE X (.Call (.Name x p) (e::es) [] pos) (tB pf t) where
 mono ρ Q Q' mm h:=ha.mono ρ _ _ (λops h=>m.mono _ _ _ mm h) h
 run:=PE.weak (zeU hc hg hm hv ha.run hn hdb he hpl) λσ H Q h=>zsy ha m h
theorem zhM (hc:zcr X (.type T) r)(m:zeq X.K r pf)(hg:Gl X x)(hm:X.mg x=none)(hv:bootBuiltins x=some (.type T))(ha:PuA X (e::es) t)(hn:autoParam (x≠"__name__") aU1) (hdb:autoParam ((x == ("__debug__" : Str))=false) aU1)
  (he:autoParam (starEach (e::es) X.env=(false,eval e X.env)::starEach es X.env) aU0) (hpl:autoParam ((backTo pos (starEach es X.env)).any (·.1)=false) aU0):PuE X (.Call (.Name x p) (e::es) [] pos) (tB pf t) where
 mono ρ Q Q' mm h:=ha.mono ρ _ _ (λops h=>m.mono _ _ _ mm h) h
 run:=PE.weak (zfm hc hg hm hv ha.run hn hdb he hpl) λσ H Q h=>zsy ha m h
end
end _P
namespace _P
open PySem PySem.Spec _L
open PyProof.Rows hiding St
structure POut where
 nx:PEnv->Prop
 rt:PV->Kd->Prop
 bk:PEnv->Prop
 ct:PEnv->Prop
structure POut.le (O O':POut):Prop where
 nx:∀ρ,O.nx ρ->O'.nx ρ
 rt:∀d k,O.rt d k->O'.rt d k
 bk:∀ρ,O.bk ρ->O'.bk ρ
 ct:∀ρ,O.ct ρ->O'.ct ρ
noncomputable abbrev TPS:=PEnv->POut->Prop
noncomputable def Hold (t:TPS)(O:POut)(ρ:PEnv):Prop:=t ρ O
noncomputable def zsz (c:TPT)(ρ:PEnv)(Q:Bool->Prop):Prop:=c ρ Q
theorem zbv {c:TPT}{ρ:PEnv}{Q:Bool->Prop}(h:c ρ Q):zsz c ρ Q:=h
theorem hold {t:TPS}{O:POut}{ρ:PEnv}(h:t ρ O):Hold t O ρ:=h
structure Step (ρ:PEnv)(σ:St)(Fz:FZ)(H:Hp)(Fz':FZ)(H':Hp):Prop where
 sub:∀b,Fz b->Fz' b
 new:∀b,Fz' b->Fz b\/H b=none\/zaI ρ σ b
 keep:∀b o,H b=some o->¬ zaI ρ σ b->H' b=some o
noncomputable def zau (ρ:PEnv)(σ:St)(H:Hp)(ρ':PEnv)(σ':St):Prop:=∀b,zaI ρ' σ' b->zaI ρ σ b\/H b=none
theorem Step.of {ρ:PEnv}{σ:St}{Fz Fz':FZ}{H H':Hp}(x:Ext Fz H Fz' H'):Step ρ σ Fz H Fz' H':=
 ⟨x.sub,λb h=>(x.new b h).elim .inl (λh=>.inr (.inl h)),λb o e _=>x.same b o e⟩
theorem Step.none {ρ:PEnv}{σ:St}{Fz Fz':FZ}{H H':Hp}(s:Step ρ σ Fz H Fz' H'){b:Addr}(h:H' b=Option.none):H b=Option.none\/zaI ρ σ b:=by
 by_cases o:zaI ρ σ b
 ·exact .inr o
 ·cases e:H b with
  | none=>exact .inl rfl
  | some u=>rw[s.keep b u e o]at h;cases h
theorem Step.trans {ρ ρ':PEnv}{σ σ':St}{F1 F2 F3:FZ}{H1 H2 H3:Hp}(a:Step ρ σ F1 H1 F2 H2)(oi:zau ρ σ H1 ρ' σ')(b:Step ρ' σ' F2 H2 F3 H3):Step ρ σ F1 H1 F3 H3:=
 ⟨λc h=>b.sub c (a.sub c h),λc h=>by
  rcases b.new c h with h | h | h
  ·exact a.new c h
  ·exact .inr (a.none h)
  ·exact .inr ((oi c h).symm),λc o e n=>by
  refine b.keep c o (a.keep c o e n) λz=>?_;rcases oi c z with z | z
  ·exact n z
  ·rw[e]at z;cases z⟩
theorem zau.trans {ρ ρ' ρ'':PEnv}{σ σ' σ'':St}{F1 F2:FZ}{H1 H2:Hp}(a:Step ρ σ F1 H1 F2 H2)(oi:zau ρ σ H1 ρ' σ')(oj:zau ρ' σ' H2 ρ'' σ''):zau ρ σ H1 ρ'' σ'':=λc h=>by
 rcases oj c h with h | h
 ·exact oi c h
 ·exact(a.none h).symm
theorem zau.refl (ρ:PEnv)(σ:St)(H:Hp):zau ρ σ H ρ σ:=λ_ h=>.inl h
noncomputable def Ret (K:Xb)(ρ:PEnv)(σ:St)(H:Hp)(Fz':FZ)(H':Hp)(d:PV):Kd->V->Prop
 | .frz,v=>Den K Fz' H' d v
 | .new,v=>∃a,v=.ref a/\¬ Fz' a/\Own K Fz' H' d a/\(zaI ρ σ a\/H a=none)
 | .own _,_=>False
noncomputable def zeS (K:Xb)(D:Ends)(ρ:PEnv)(σ:St)(Fz:FZ)(H:Hp):POut where
 nx:=λρ'=>∀σ' Fz' H',Step ρ σ Fz H Fz' H'->zau ρ σ H ρ' σ'->Rel K Fz' ρ' σ' H'->D.nx σ' H'
 bk:=λρ'=>∀σ' Fz' H',Step ρ σ Fz H Fz' H'->zau ρ σ H ρ' σ'->Rel K Fz' ρ' σ' H'->D.bk σ' H'
 ct:=λρ'=>∀σ' Fz' H',Step ρ σ Fz H Fz' H'->zau ρ σ H ρ' σ'->Rel K Fz' ρ' σ' H'->D.ct σ' H'
 rt:=λd k=>∀v Fz' H',Step ρ σ Fz H Fz' H'->(∀b,Fz' b->H' b≠none)->Ret K ρ σ H Fz' H' d k v->D.rt v H'
noncomputable def zox (K:Xb)(t:TPS):TS:=λD σ H=>∃ρ Fz,Rel K Fz ρ σ H/\t ρ (zeS K D ρ σ Fz H)
structure PuS (X:Cx)(st:Stmt)(t:TPS):Prop where
 mono:∀ρ O O',O.le O'->t ρ O->t ρ O'
 run:PS X st (zox X.K t)
structure PuSs (X:Cx)(st:List Stmt)(t:TPS):Prop where
 mono:∀ρ O O',O.le O'->t ρ O->t ρ O'
 run:PSs X st (zox X.K t)
theorem PS.weak {X:Cx}{e:Stmt}{t t':TS}(h:PS X e t)(w:∀D σ H,t' D σ H->t D σ H):PS X e t':=λpins s σ H D I q=>h pins s σ H D I (w D σ H q)
theorem PSs.weak {X:Cx}{e:List Stmt}{t t':TS}(h:PSs X e t)(w:∀D σ H,t' D σ H->t D σ H):PSs X e t':=λpins s σ H D I q=>h pins s σ H D I (w D σ H q)
theorem zoy {K:Xb}{D D':Ends}{ρ ρ':PEnv}{σ σ':St}{Fz Fz':FZ}{H H':Hp}(s:Step ρ σ Fz H Fz' H')(oi:zau ρ σ H ρ' σ')(h1:∀σ H,D.nx σ H->D'.nx σ H)(h2:∀v H,D.rt v H->D'.rt v H)(h3:∀σ H,D.bk σ H->D'.bk σ H)(h4:∀σ H,D.ct σ H->D'.ct σ H) :
  (zeS K D ρ σ Fz H).le (zeS K D' ρ' σ' Fz' H') where
 nx ρ2 q σ2 F2 H2 s2 o2 R2:=h1 _ _ (q σ2 F2 H2 (s.trans oi s2) (zau.trans s oi o2) R2)
 bk ρ2 q σ2 F2 H2 s2 o2 R2:=h3 _ _ (q σ2 F2 H2 (s.trans oi s2) (zau.trans s oi o2) R2)
 ct ρ2 q σ2 F2 H2 s2 o2 R2:=h4 _ _ (q σ2 F2 H2 (s.trans oi s2) (zau.trans s oi o2) R2)
 rt d k q v F2 H2 s2 al r:=h2 _ _ (q v F2 H2 (s.trans oi s2) al (by
  cases k with
  | frz=>exact r
  | own i=>exact r
  | new=>
   obtain⟨a,e,nf,o,w⟩:=r;refine⟨a,e,nf,o,?_⟩;rcases w with w | w
   ·exact oi a w
   ·exact(s.none w).symm))
theorem zcu {K:Xb}{D:Ends}{ρ ρ':PEnv}{σ σ':St}{Fz Fz':FZ}{H H':Hp}(s:Step ρ σ Fz H Fz' H')(oi:zau ρ σ H ρ' σ'):(zeS K D ρ σ Fz H).le (zeS K D ρ' σ' Fz' H'):=
 zoy s oi (λ_ _ h=>h) (λ_ _ h=>h) (λ_ _ h=>h) (λ_ _ h=>h)
section
variable {X:Cx}{st:Stmt}{rest:List Stmt}{t u:TPS}{e:Expr}{te:TPE}{pos:Pos}
noncomputable def zdv:TPS:=λρ O=>O.nx ρ
noncomputable def pSeq (t u:TPS):TPS:=λρ O=>t ρ { O with nx:=Hold u O }
theorem zbT:PuSs X [] zdv where
 mono ρ O O' m h:=m.nx _ h
 run:=PSs.weak zlC λD σ H h=>by
  obtain⟨ρ,Fz,R,h⟩:=h;exact h σ Fz H (.of ⟨Same.refl H,λ_ h=>h,λ_ h=>.inl h,R.al⟩) (zau.refl ρ σ H) R
theorem zah (h1:PuS X st t):PuSs X [st] t:=⟨h1.mono,zlD h1.run⟩
theorem zae (h1:PuS X st t)(h2:PuSs X rest u):PuSs X (st::rest) (pSeq t u) where
 mono ρ O O' m h:=h1.mono ρ { O with nx:=λρ'=>u ρ' O } _ ⟨λρ' q=>h2.mono ρ' _ _ m q,m.rt,m.bk,m.ct⟩ h
 run:=PSs.weak (zcT h1.run h2.run) λD σ H h=>by
  obtain⟨ρ,Fz,R,h⟩:=h;refine⟨ρ,Fz,R,h1.mono ρ { zeS X.K D ρ σ Fz H with nx:=λρ'=>u ρ' (zeS X.K D ρ σ Fz H) } _ ⟨λρ' q=>?_,λ_ _ q=>q,λ_ q=>q,λ_ q=>q⟩ h⟩;intro σ' Fz' H' s oi R';exact⟨ρ',Fz',R',h2.mono ρ' _ _ (zcu s oi) q⟩
noncomputable def pRet (te:TPE):TPS:=λρ O=>te ρ λd k=>O.rt d (match k with | .frz=>.frz | _=>.new)
theorem zar (he:PuE X e te):PuS X (.Return (some e) pos) (pRet te) where
 mono ρ O O' m h:=he.mono ρ _ _ (λ_ _ q=>m.rt _ _ q) h
 run:=PS.weak (zrF he.run) λD σ H h=>by
  obtain⟨ρ,Fz,R,h⟩:=h;refine⟨ρ,Fz,R,he.mono ρ _ _ (λd k q v Fz' H' p=>q v Fz' H' (.of p.ext) p.ext.al ?_) h⟩;cases k with
  | frz=>exact p.opd
  | new=>obtain⟨a,e,hn,nf,o⟩:=p.opd;exact⟨a,e,nf,o,.inr hn⟩
  | own i=>
   obtain⟨h1,h2⟩:=p.opd;obtain⟨a,e,nf,o⟩:=(R.ext p.ext).own i d h1;rw[h2]at e;cases e;exact⟨a,rfl,nf,o,.inl ⟨i,d,h1,h2⟩⟩
noncomputable def pIf (c:TPT)(t u:TPS):TPS:=λρ O=>c ρ λb=>if b=true then Hold t O ρ else Hold u O ρ
theorem zdU {c:Expr}{a b:List Stmt}{tc:TPT}(hc:PuT X c tc)(ha:PuSs X a t)(hb:PuSs X b u):PuS X (.If c a b pos) (pIf tc t u) where
 mono ρ O O' m h:=hc.mono ρ _ _ (λd q=>by
  cases d with
  | true=>rw[if_pos rfl]at q ⊢;exact ha.mono ρ _ _ m q
  | false=>rw[if_neg Xw]at q ⊢;exact hb.mono ρ _ _ m q) h
 run:=PS.weak (zrG hc.run ha.run hb.run) λD σ H h=>by
  obtain⟨ρ,Fz,R,h⟩:=h;refine⟨ρ,Fz,R,hc.mono ρ _ _ (λd q Fz' H' x=>?_) h⟩;cases d with
  | true=>
   rw[if_pos rfl]at q ⊢;exact⟨ρ,Fz',R.ext x,ha.mono ρ _ _ (zcu (.of x) (zau.refl ρ σ H)) q⟩
  | false=>
   rw[if_neg Xw]at q ⊢;exact⟨ρ,Fz',R.ext x,hb.mono ρ _ _ (zcu (.of x) (zau.refl ρ σ H)) q⟩
noncomputable def zbe (i:Nat)(ρ:PEnv):PEnv:=match ρ[i]? with
 | some (some (d,true))=>ρ.set i (some (d,false))
 | _=>ρ
noncomputable def pFrz (i:Nat)(t:TPS):TPS:=λρ O=>t (zbe i ρ) O
end
section
variable {K:Xb}{Fz:FZ}{ρ:PEnv}{σ:St}{H:Hp}
theorem Rel.set {i:Nat}{d:PV}{v:V}(R:Rel K Fz ρ σ H)(h:Den K Fz H d v):Rel K Fz (ρ.set i (some (d,false))) (σ.set i (some v)) H where
 al:=R.al
 len:=by rw[Yt,Yt];exact R.len
 frz j e he:=by
  by_cases hij:i=j
  ·subst hij;by_cases hi:i<ρ.length
   ·rw[Xs hi]at he;cases he;exact⟨v,by rw[Xs (by rw[<- R.len];exact hi)],h⟩
   ·rw[XX (by lia),XG (by lia)]at he;cases he
  ·rw[Xo hij]at he ⊢;exact R.frz j e he
 own j e he:=by
  by_cases hij:i=j
  ·subst hij;by_cases hi:i<ρ.length
   ·rw[Xs hi]at he;cases he
   ·rw[XX (by lia),XG (by lia)]at he;cases he
  ·rw[Xo hij]at he ⊢;exact R.own j e he
 inj j k d' e a h1 h2 h3 h4:=by
  have nj:i≠j:=λz=>by
   subst z;by_cases hi:i<ρ.length
   ·rw[Xs hi]at h1;cases h1
   ·rw[XX (by lia),XG (by lia)]at h1;cases h1
  have nk:i≠k:=λz=>by
   subst z;by_cases hi:i<ρ.length
   ·rw[Xs hi]at h2;cases h2
   ·rw[XX (by lia),XG (by lia)]at h2;cases h2
  rw[Xo nj]at h1 h3;rw[Xo nk]at h2 h4;exact R.inj j k d' e a h1 h2 h3 h4
theorem zer {i:Nat}{d:PV}{v:V}:∀b,zaI (ρ.set i (some (d,false))) (σ.set i (some v)) b->zaI ρ σ b:=λb ⟨j,e,h1,h2⟩=>by
 have nj:i≠j:=λz=>by
  subst z;by_cases hi:i<ρ.length
  ·rw[Xs hi]at h1;cases h1
  ·rw[XX (by lia),XG (by lia)]at h1;cases h1
 rw[Xo nj]at h1 h2;exact⟨j,e,h1,h2⟩
theorem Rel.zsA {i:Nat}{d:PV}{a:Addr}(R:Rel K Fz ρ σ H)(nf:¬ Fz a)(h:Own K Fz H d a)(hno:¬ zaI ρ σ a):Rel K Fz (ρ.set i (some (d,true))) (σ.set i (some (.ref a))) H where
 al:=R.al
 len:=by rw[Yt,Yt];exact R.len
 frz j e he:=by
  by_cases hij:i=j
  ·subst hij;by_cases hi:i<ρ.length
   ·rw[Xs hi]at he;cases he
   ·rw[XX (by lia),XG (by lia)]at he;cases he
  ·rw[Xo hij]at he ⊢;exact R.frz j e he
 own j e he:=by
  by_cases hij:i=j
  ·subst hij;by_cases hi:i<ρ.length
   ·rw[Xs hi]at he;cases he;exact⟨a,by rw[Xs (by rw[<- R.len];exact hi)],nf,h⟩
   ·rw[XX (by lia),XG (by lia)]at he;cases he
  ·rw[Xo hij]at he ⊢;exact R.own j e he
 inj j k d' e b h1 h2 h3 h4:=by
  by_cases hj:i=j
  ·by_cases hk:i=k
   ·rw[<- hj,<- hk]
   ·subst hj;rw[Xo hk]at h2 h4;by_cases hi:i<σ.length
    ·rw[Xs hi]at h3;cases h3;exact absurd ⟨k,e,h2,h4⟩ hno
    ·rw[XX (by lia),XG (by lia)]at h3;cases h3
  ·by_cases hk:i=k
   ·subst hk;rw[Xo hj]at h1 h3;by_cases hi:i<σ.length
    ·rw[Xs hi]at h4;cases h4;exact absurd ⟨j,d',h1,h3⟩ hno
    ·rw[XX (by lia),XG (by lia)]at h4;cases h4
   ·rw[Xo hj]at h1 h3;rw[Xo hk]at h2 h4;exact R.inj j k d' e b h1 h2 h3 h4
theorem zlg {i:Nat}{d:PV}{a:Addr}:∀b,zaI (ρ.set i (some (d,true))) (σ.set i (some (.ref a))) b->b=a\/zaI ρ σ b:=λb ⟨j,e,h1,h2⟩=>by
 by_cases hij:i=j
 ·subst hij;by_cases hi:i<σ.length
  ·rw[Xs hi]at h2;cases h2;exact .inl rfl
  ·rw[XX (by lia),XG (by lia)]at h2;cases h2
 ·rw[Xo hij]at h1 h2;exact .inr ⟨j,e,h1,h2⟩
theorem Rel.frozen {i:Nat}(R:Rel K Fz ρ σ H):∃Fz',Rel K Fz' (zbe i ρ) σ H/\Step ρ σ Fz H Fz' H/\zau ρ σ H (zbe i ρ) σ:=by
 unfold zbe;split
 ·rename_i d he
  obtain⟨a,e,nf,o⟩:=R.own i d he;have R2:Rel K (λb=>Fz b\/b=a) (ρ.set i (some (d,false))) (σ.set i (some (.ref a))) H:=by
   have hno:∀j d',i≠j->ρ[j]? = some (some (d',true))->σ[j]?≠some (some (.ref a)):=λj d' hne h1 h2=>hne (R.inj i j d d' a he h1 e h2);have hal:∀b,(Fz b\/b=a)->H b≠none:=λb hb=>by
    rcases hb with hb | rfl
    ·exact R.al b hb
    ·obtain⟨o',q,_⟩:=o.at;rw[q];exact λz=>nomatch z
   refine⟨hal,by rw[Yt,Yt];exact R.len,λj e' he'=>?_,λj e' he'=>?_,λj k d' e' b h1 h2 h3 h4=>?_⟩
   ·by_cases hij:i=j
    ·subst hij;have hi:i<ρ.length:=(Xe.mp he).1;rw[Xs hi]at he';cases he';exact⟨_,by rw[Xs (by rw[<- R.len];exact hi)],(o.mono (Fz':=λb=>Fz b\/b=a) (Keep.of (Same.refl _)) (λ_ h=>.inl h) (λ_ h=>h)).den (.inr rfl)⟩
    ·rw[Xo hij]at he' ⊢;obtain⟨v,q1,q2⟩:=R.frz j e' he';exact⟨v,q1,Den.mono (Keep.of (Same.refl _)) (λ_ h=>.inl h) _ _ q2⟩
   ·have hij:i≠j:=λz=>by
     subst z;have hi:i<ρ.length:=(Xe.mp he).1;rw[Xs hi]at he';cases he'
    rw[Xo hij]at he' ⊢;obtain⟨b,q1,q2,q3⟩:=R.own j e' he';refine⟨b,q1,λz=>?_,q3.mono (Keep.of (Same.refl _)) (λ_ h=>.inl h) (λ_ h=>h)⟩;rcases z with z | z
    ·exact q2 z
    ·subst z;exact hno j e' hij he' q1
   ·have hi:i<ρ.length:=(Xe.mp he).1;have nj:i≠j:=λz=>by subst z;rw[Xs hi]at h1;cases h1
    have nk:i≠k:=λz=>by subst z;rw[Xs hi]at h2;cases h2
    rw[Xo nj]at h1 h3;rw[Xo nk]at h2 h4;exact R.inj j k d' e' b h1 h2 h3 h4
  have es:σ.set i (some (.ref a))=σ:=List.ext_getElem? λj=>by
   by_cases hij:i=j
   ·subst hij;rw[Xs (Xe.mp e).1,e]
   ·rw[Xo hij]
  refine⟨λb=>Fz b\/b=a,by rw[es]at R2;exact R2,⟨λ_ h=>.inl h,λb hb=>?_,λb o e _=>e⟩,λb hb=>?_⟩
  ·rcases hb with hb | rfl
   ·exact .inl hb
   ·exact .inr (.inr ⟨i,d,he,e⟩)
  ·have:=zer (ρ:=ρ) (σ:=σ) (i:=i) (d:=d) (v:=.ref a) b (by rw[es];exact hb);exact .inl this
 ·exact⟨Fz,R,.of ⟨Same.refl H,λ_ h=>h,λ_ h=>.inl h,R.al⟩,zau.refl ρ σ H⟩
end
section
variable {X:Cx}{st:Stmt}{sts:List Stmt}{t:TPS}
theorem zaY (i:Nat)(h:PuS X st t):PuS X st (pFrz i t) where
 mono ρ O O' m q:=h.mono _ _ _ m q
 run:=PS.weak h.run λD σ H q=>by
  obtain⟨ρ,Fz,R,q⟩:=q;obtain⟨F2,R2,s2,o2⟩:=R.frozen (i:=i);exact⟨_,F2,R2,h.mono _ _ _ (zcu s2 o2) q⟩
end
noncomputable def pSet (i:Nat)(te:TPE):TPS:=λρ O=>te ρ λd k=>match k with
 | .frz=>O.nx (ρ.set i (some (d,false)))
 | .new=>O.nx (ρ.set i (some (d,true)))
 | .own _=>False
theorem zjU {X:Cx}{e:Expr}{te:TPE}{i:Nat}(he:PuE X e te){D:Ends}{σ:St}{H:Hp}(h:zox X.K (pSet i te) D σ H):tAsg (lift X.K te) (zkU i) D σ H:=by
 obtain⟨ρ,Fz,R,h⟩:=h;refine⟨ρ,Fz,R,he.mono ρ _ _ (λd k q v Fz' H' p=>?_) h⟩;show D.nx (σ.set i (some v)) H';have R':=R.ext p.ext;cases k with
 | frz=>exact(show(zeS X.K D ρ σ Fz H).nx (ρ.set i (some (d,false))) from q) _ Fz' H' (.of p.ext) (λb hb=>.inl (zer b hb)) (R'.set p.opd)
 | own j=>exact q.elim
 | new=>
  obtain⟨a,e,hn,nf,o⟩:=p.opd;subst e;have hno:¬ zaI ρ σ a:=λ⟨j,e,h1,h2⟩=>by
   obtain⟨b,q1,_,q2⟩:=R.own j e h1;rw[h2]at q1;cases q1;obtain⟨o',q3,_⟩:=q2.at;rw[hn]at q3;cases q3
  refine(show(zeS X.K D ρ σ Fz H).nx (ρ.set i (some (d,true))) from q) _ Fz' H' (.of p.ext) (λb hb=>?_) (R'.zsA nf o hno);rcases zlg b hb with rfl | hb
  ·exact .inr hn
  ·exact .inl hb
theorem zhN {X:Cx}{e:Expr}{te:TPE}{i:Nat}(he:PuE X e te):∀ρ O O',POut.le O O'->pSet i te ρ O->pSet i te ρ O':=λρ O O' m h=>he.mono ρ _ _ (λd k q=>by
 cases k with
 | frz=>exact m.nx _ q
 | new=>exact m.nx _ q
 | own j=>exact q) h
section
variable {X:Cx}{e:Expr}{te:TPE}{pos:Pos}
theorem zal {i:Nat}{x:Str}{pos':Pos}(hN:X.N.Nodup)(hi:X.N[i]? = some x)(hx:Loc X.env.scope x)(he:PuE X e te)(hs:autoParam (swapsWith e (some (.Name x pos')) pos.line X.env=pure false) aU0)(hf:autoParam (X.fn x=true\/X.env.scope.names.lookup x=some .local) aU2) :
  PuS X (.Assign [.Name x pos'] e pos) (pSet i te):=
 ⟨zhN he,PS.weak (zjG hN hi hx he.run hs hf) λ_ _ _ h=>zjU he h⟩
end
noncomputable abbrev TPG:=PV->PEnv->(PEnv->Prop)->Prop
noncomputable abbrev TPGs:=List PV->PEnv->(PEnv->Prop)->Prop
noncomputable def zmq (K:Xb)(t:TPG):TG:=λv σ H Q=>∃ρ Fz d,Rel K Fz ρ σ H/\Den K Fz H d v/\t d ρ λρ'=>∀σ',Rel K Fz ρ' σ' H->(∀b,zaI ρ' σ' b->zaI ρ σ b)->Q σ' H
noncomputable def zsB (K:Xb)(t:TPGs):TGs:=λvs σ H Q=>∃ρ Fz ds,Rel K Fz ρ σ H/\DenL K Fz H ds vs/\t ds ρ λρ'=>∀σ',Rel K Fz ρ' σ' H->(∀b,zaI ρ' σ' b->zaI ρ σ b)->Q σ' H
structure PuG (X:Cx)(tg:Expr)(t:TPG):Prop where
 mono:∀d ρ Q Q',(∀ρ,Q ρ->Q' ρ)->t d ρ Q->t d ρ Q'
 run:PG X tg (zmq X.K t)
structure PuGs (X:Cx)(tgs:List Expr)(t:TPGs):Prop where
 mono:∀ds ρ Q Q',(∀ρ,Q ρ->Q' ρ)->t ds ρ Q->t ds ρ Q'
 run:PGs X tgs (zsB X.K t)
theorem PG.weak {X:Cx}{e:Expr}{t t':TG}(h:PG X e t)(w:∀v σ H Q,t' v σ H Q->t v σ H Q):PG X e t':=λpins s σ H v u Q I r q=>h pins s σ H v u Q I r (w v σ H Q q)
theorem PGs.weak {X:Cx}{e:List Expr}{t t':TGs}(h:PGs X e t)(w:∀v σ H Q,t' v σ H Q->t v σ H Q):PGs X e t':=λpins s σ H v u Q I r q=>h pins s σ H v u Q I r (w v σ H Q q)
noncomputable def zbf (i:Nat):TPG:=λd ρ Q=>Q (ρ.set i (some (d,false)))
noncomputable def zcK:TPGs:=λds ρ Q=>ds=[]/\Q ρ
noncomputable def zbp (t:TPG)(u:TPGs):TPGs:=λds ρ Q=>∃d r,ds=d::r/\t d ρ λρ'=>u r ρ' Q
noncomputable def zcL (n:Nat)(t:TPGs):TPG:=λd ρ Q=>∃ds,d=.tup ds/\ds.length=n/\t ds ρ Q
section
variable {X:Cx}{pos:Pos}
theorem zaj {i:Nat}{x:Str}(hN:X.N.Nodup)(hi:X.N[i]? = some x)(hx:Loc X.env.scope x)(hf:autoParam (X.fn x=true\/X.env.scope.names.lookup x=some .local) aU2):PuG X (.Name x pos) (zbf i) where
 mono d ρ Q Q' m h:=m _ h
 run:=PG.weak (ziS hN hi hx hf) λv σ H Q h=>by
  obtain⟨ρ,Fz,d,R,hd,h⟩:=h;exact h _ (R.set hd) (λb hb=>zer b hb)
theorem zeX:PuGs X [] zcK where
 mono d ρ Q Q' m h:=⟨h.1,m _ h.2⟩
 run:=PGs.weak zpV λv σ H Q h=>by
  obtain⟨ρ,Fz,ds,R,hd,e,h⟩:=h;subst e;simp only[DenL]at hd;exact⟨hd,h σ R (λ_ h=>h)⟩
theorem zbF {e:Expr}{es:List Expr}{t:TPG}{u:TPGs}(h1:PuG X e t)(h2:PuGs X es u)
  (hs:autoParam ((assignEach (e::es) X.env).map (·.2)=assign e X.env::(assignEach es X.env).map (·.2)) aU0):PuGs X (e::es) (zbp t u) where
 mono ds ρ Q Q' m h:=by
  obtain⟨d,r,e,h⟩:=h;exact⟨d,r,e,h1.mono d ρ _ _ (λρ' q=>h2.mono r ρ' _ _ m q) h⟩
 run:=PGs.weak (znU h1.run h2.run hs) λvs σ H Q h=>by
  obtain⟨ρ,Fz,ds,R,hd,d,r,e,h⟩:=h;subst e;simp only[DenL]at hd;obtain⟨v,rs,e,d1,d2⟩:=hd;subst e;refine⟨v,rs,rfl,ρ,Fz,d,R,d1,h1.mono d ρ _ _ (λρ' q σ' R' o'=>?_) h⟩;exact⟨ρ',Fz,r,R',d2,h2.mono r ρ' _ _ (λρ2 q σ2 R2 o2=>q σ2 R2 (λb hb=>o' b (o2 b hb))) q⟩
theorem zgN {es:List Expr}{k:Nat}{t:TPGs}{n:Nat}(hc:X.calm=true)(h:PuGs X es t)
  (hn:autoParam ((assignEach es X.env).length=n) aU0) (hst:autoParam ((assignEach es X.env).findIdx? (·.1)=none) aU0):PuG X (.Tuple es k pos) (zcL n t) where
 mono d ρ Q Q' m q:=by
  obtain⟨ds,e,l,q⟩:=q;exact⟨ds,e,l,h.mono ds ρ _ _ m q⟩
 run:=PG.weak (zrH hc h.run hn hst) λv σ H Q q=>by
  obtain⟨ρ,Fz,d,R,hd,ds,e,l,q⟩:=q;subst e;simp only[Den]at hd;obtain⟨a,xs,e,h1,h2⟩:=hd;have hl:=h2.length;exact⟨a,xs,e,SqT.of h1,by lia,ρ,Fz,ds,R,h2,q⟩
end
noncomputable def LocG (k:Nat)(t:TPG):Prop:=∀d ρ Q,t d ρ Q->t d ρ λρ'=>Q ρ'/\ρ'.length=ρ.length/\∀j,k<=j->ρ'[j]? = ρ[j]?
noncomputable def zsC (k:Nat)(t:TPGs):Prop:=∀d ρ Q,t d ρ Q->t d ρ λρ'=>Q ρ'/\ρ'.length=ρ.length/\∀j,k<=j->ρ'[j]? = ρ[j]?
theorem zaC {k i:Nat}(h:i<k):LocG k (zbf i):=λd ρ Q q=>⟨q,by rw[Yt],λj hj=>by rw[Xo (by lia)]⟩
theorem zje {k n:Nat}{t:TPGs}(h:zsC k t):LocG k (zcL n t):=λd ρ Q q=>by
 obtain⟨ds,e,l,q⟩:=q;exact⟨ds,e,l,h ds ρ _ q⟩
noncomputable abbrev TPI:=PEnv->(List PV->Bool->Prop)->Prop
noncomputable def Walk (K:Xb)(Fz:FZ)(o:Bool)(J:It)(its:List PV)(H:Hp):Prop:=∀H2,(Same H H2\/(o=false/\ziY Fz H H2))->∀i:Nat,
 (∀d,its[i]? = some d->J.go i H2/\∀x H3,J.yld i H2 x H3->Same H2 H3/\Den K Fz H3 d x)/\(its.length<=i->J.stop i H2)
noncomputable def zsD (K:Xb)(t:TPI):TI:=λσ H R=>∃ρ Fz,Rel K Fz ρ σ H/\t ρ λits o=>∀J Fz' H',Ext Fz H Fz' H'->Walk K Fz' o J its H'->R J H'
structure PuI (X:Cx)(tg iter:Expr)(t:TPI):Prop where
 mono:∀ρ Q Q',(∀its o,Q its o->Q' its o)->t ρ Q->t ρ Q'
 run:PI X tg iter (zsD X.K t)
theorem PI.weak {X:Cx}{tg e:Expr}{t t':TI}(h:PI X tg e t)(w:∀σ H Q,t' σ H Q->t σ H Q):PI X tg e t':=λpins s σ H Q I q=>h pins s σ H Q I (w σ H Q q)
noncomputable def isOwn:Kd->Bool
 | .own _=>true
 | _=>false
noncomputable def iLst (te:TPE):TPI:=λρ Q=>te ρ λd k=>∃ds,d=.lst ds/\Q ds (isOwn k)
noncomputable def zdw (te:TPE):TPI:=λρ Q=>te ρ λd k=>∃ds,d=.tup ds/\Q ds false
section
variable {X:Cx}{tg e:Expr}{te:TPE}
theorem zas (he:PuE X e te):PuI X tg e (iLst te) where
 mono ρ Q Q' m h:=he.mono ρ _ _ (λd k q64q=>by obtain⟨ds,e,q⟩:=q64q;exact⟨ds,e,m _ _ q⟩) h
 run:=PI.weak (zpW he.run) λσ H Rr h=>by
  obtain⟨ρ,Fz,R,h⟩:=h;refine⟨ρ,Fz,R,he.mono ρ _ _ (λd k q v Fz' H' p=>?_) h⟩;obtain⟨ds,e,q⟩:=q;subst e;have rt:=p.root R;obtain⟨a,xs,rfl,h1,h2⟩:=zan rt;refine⟨a,rfl,⟨xs,h1⟩,?_⟩;have walk:∀(F2:FZ) (o:Bool),(∀b,Fz' b->F2 b)->(∀H2,(Same H' H2\/(o=false/\ziY F2 H' H2))->SqL X.K H2 a xs/\Keep F2 H' H2)->Walk X.K F2 o (Itl X.K a) ds H':=λF2 o s2 st H2 hH i=>by
   obtain⟨g1,g2⟩:=st H2 hH;have g3:DenL X.K F2 H2 ds xs:=DenL.mono g2 (λ_ h=>h) _ _ (DenL.mono (Keep.of (Same.refl _)) s2 _ _ h2);have hl:=g3.length;refine⟨λd hd=>?_,λhi=>⟨xs,g1,by lia⟩⟩;obtain⟨v,q1,q2⟩:=g3.get hd;exact⟨⟨xs,v,g1,q1⟩,λx H3 ⟨e,y⟩=>by
    subst e;have:=y xs g1;rw[q1]at this;cases this;exact⟨Same.refl _,q2⟩⟩
  cases k with
  | own i=>exact q _ Fz' H' p.ext (walk Fz' true (λ_ h=>h) λH2 hH=>by
    rcases hH with hH | ⟨z,_⟩
    ·exact⟨hH.seq h1,.of hH⟩
    ·cases z)
  | frz=>
   have pd:Den X.K Fz' H' (.lst ds) (.ref a):=p.opd;simp only[Den]at pd;obtain⟨a',xs',e,h3,h4⟩:=pd;cases e;refine q _ Fz' H' p.ext ?_;intro H2 hH i;have kp:Keep Fz' H' H2:=hH.elim (λz=>.of z) (λz=>.mk' z.2);have g1:SqL X.K H2 a xs':=h3.elim (λh=>.inl (kp.rd trivial h.1 h.2)) KX.sq;have g3:DenL X.K Fz' H2 ds xs':=DenL.mono kp (λ_ h=>h) _ _ h4;have hl:=g3.length;refine⟨λd hd=>?_,λhi=>⟨xs',g1,by lia⟩⟩;obtain⟨v,q1,q2⟩:=g3.get hd;exact⟨⟨xs',v,g1,q1⟩,λx H3 ⟨e,y⟩=>by
    subst e;have:=y xs' g1;rw[q1]at this;cases this;exact⟨Same.refl _,q2⟩⟩
  | new=>
   obtain⟨b,e,hn,nf,o⟩:=p.opd;cases e;obtain⟨xs',o1,o2⟩:=o;refine q _ (λb=>Fz' b\/b=a) H' (p.ext.add hn (by rw[o1];exact λz=>nomatch z)) ?_;intro H2 hH i;have kp:Keep (λb=>Fz' b\/b=a) H' H2:=hH.elim (λz=>.of z) (λz=>.mk' z.2);have g1:SqL X.K H2 a xs':=.inl (kp.rd trivial (.inr rfl) (.inl o1));have g3:DenL X.K (λb=>Fz' b\/b=a) H2 ds xs':=DenL.mono kp (λ_ h=>h) _ _ (DenL.mono (Keep.of (Same.refl _)) (λ_ h=>.inl h) _ _ o2);have hl:=g3.length;refine⟨λd hd=>?_,λhi=>⟨xs',g1,by lia⟩⟩;obtain⟨v,q1,q2⟩:=g3.get hd;exact⟨⟨xs',v,g1,q1⟩,λx H3 ⟨e,y⟩=>by
    subst e;have:=y xs' g1;rw[q1]at this;cases this;exact⟨Same.refl _,q2⟩⟩
theorem zjf (he:PuE X e te):PuI X tg e (zdw te) where
 mono ρ Q Q' m h:=he.mono ρ _ _ (λd k q68q=>by obtain⟨ds,e,q⟩:=q68q;exact⟨ds,e,m _ _ q⟩) h
 run:=PI.weak (zrJ he.run) λσ H Rr h=>by
  obtain⟨ρ,Fz,R,h⟩:=h;refine⟨ρ,Fz,R,he.mono ρ _ _ (λd k q v Fz' H' p=>?_) h⟩;obtain⟨ds,e,q⟩:=q;subst e;obtain⟨a,xs,rfl,h1,h2⟩:=zdS (p.root R);refine⟨a,rfl,⟨xs,SqT.of h1⟩,q _ Fz' H' p.ext ?_⟩;intro H2 hH i;have kp:Keep Fz' H' H2:=hH.elim (λz=>.of z) (λz=>.mk' z.2);have g1:SqT X.K H2 a xs:=kp.sqT h1;have g3:DenL X.K Fz' H2 ds xs:=DenL.mono kp (λ_ h=>h) _ _ h2;have hl:=g3.length;refine⟨λd hd=>?_,λhi=>⟨xs,g1,by lia⟩⟩;obtain⟨v,q1,q2⟩:=g3.get hd;exact⟨⟨xs,v,g1,q1⟩,λx H3 ⟨e,y⟩=>by
   subst e;have:=y xs g1;rw[q1]at this;cases this;exact⟨Same.refl _,q2⟩⟩
end
noncomputable def rngP (lo:Int)(n:Nat):List PV:=(XZ n).map λ(i:Nat)=>PV.int (lo+i)
theorem zbU (lo:Int)(n:Nat):(rngP lo n).length=n:=by simp[rngP]
theorem zco {lo:Int}{n i:Nat}{d:PV}(h:(rngP lo n)[i]? = some d):i<n/\d=.int (lo+i):=by
 have hi:i<n:=by have:=(Xe.mp h).1;rw[zbU]at this;exact this
 refine⟨hi,?_⟩;unfold rngP at h;rw[Xd,List.getElem?_range hi]at h;exact(Option.some.inj h).symm
noncomputable def zbj (t:TPA):TPI:=λρ Q=>t ρ λops=>∃j:Int,ops.map (·.1)=[.int j]/\-(2 ^ 62)<=j/\j<2 ^ 62/\Q (rngP 0 j.toNat) false
theorem zoz {K:Xb}{Fz:FZ}{lo:Int}{n:Nat}{H:Hp}:Walk K Fz false (Itr lo n) (rngP lo n) H:=λH2 _ i=>by
 refine⟨λd hd=>?_,λhi=>by rw[zbU]at hi;exact hi⟩;obtain⟨h1,rfl⟩:=zco hd;exact⟨h1,λx H3 q70q=>by obtain⟨e,y⟩:=q70q;subst e y;exact⟨Same.refl _,by simp only[Den]⟩⟩
section
variable {X:Cx}{tg a b:Expr}{t:TPA}{p pos:Pos}
theorem zbz (hg:Gl X "range") (hm:X.mg "range" = none) (ha:PuA X [a] t) (hs:autoParam (starEach [a] X.env=[(false,eval a X.env)]) aU0):PuI X tg (.Call (.Name "range" p) [a] [] pos) (zbj t) where
 mono ρ Q Q' m h:=ha.mono ρ _ _ (λops q71q=>by obtain⟨j,e,h1,h2,q⟩:=q71q;exact⟨j,e,h1,h2,m _ _ q⟩) h
 run:=PI.weak (zlG hg hm ha.run hs) λσ H Rr h=>by
  obtain⟨ρ,Fz,R,h⟩:=h;refine⟨ρ,Fz,R,ha.mono ρ _ _ (λops q vs Fz' H' x o=>?_) h⟩;obtain⟨j,e,h1,h2,q⟩:=q;have rl:=o.root R x;rw[e]at rl;cases rl with
  | cons r1 r2=>
   cases r2;exact⟨j,by rw[zaK r1],h1,h2,q _ Fz' H' x zoz⟩
end
noncomputable def pFor (ti:TPI)(g:TPG)(tb:TPS):TPS:=λρ O=>ti ρ λits o=>o=false/\∃Inv:Nat->PEnv->Prop,Inv 0 ρ/\
 (∀i d ρ',its[i]? = some d->Inv i ρ'->g d ρ' (Hold tb { O with nx:=Inv (i+1),ct:=Inv (i+1),bk:=O.nx }))/\∀ρ',Inv its.length ρ'->O.nx ρ'
noncomputable def zcb (c:TPT)(tb:TPS):TPS:=λρ O=>∃Inv:Nat->PEnv->Prop,(∃m,Inv m ρ)/\∀m ρ',Inv m ρ'->zsz c ρ' λb=>if b=true
 then Hold tb { O with nx:=λρ2=>∃m',m'<m/\Inv m' ρ2,ct:=λρ2=>∃m',m'<m/\Inv m' ρ2,bk:=O.nx } ρ' else O.nx ρ'
theorem Step.kept {K:Xb}{ρ:PEnv}{σ:St}{Fz Fz':FZ}{H H':Hp}(R:Rel K Fz ρ σ H)(s:Step ρ σ Fz H Fz' H'):ziY Fz H H':=λb o e w=>by
 refine s.keep b o e λ q72q=>?_;obtain⟨i,d,h1,h2⟩:=q72q;obtain⟨a,q1,q2,q3⟩:=R.own i d h1;rw[h2]at q1;cases q1;rcases w with w | w
 ·exact q2 w
 ·obtain⟨o',q4,q5⟩:=q3.at;rw[e]at q4;cases q4;exact q5 w
section
variable {X:Cx}{tg iter c:Expr}{body:List Stmt}{ti:TPI}{g:TPG}{tb:TPS}{tc:TPT}{pos:Pos}
theorem zgO (hgm:∀d ρ Q Q',(∀ρ,Q ρ->Q' ρ)->g d ρ Q->g d ρ Q')(hbm:∀ρ O O',POut.le O O'->tb ρ O->tb ρ O'){K:Xb}{ρ:PEnv}{σ:St}{Fz1:FZ}{H1:Hp}{D:Ends}{J:It}{its:List PV}{O:POut}(R1:Rel K Fz1 ρ σ H1)(wk:Walk K Fz1 false J its H1)(Iv:Nat->PEnv->Prop)(h0:Iv 0 ρ)
  (hstep:∀i d ρ',its[i]? = some d->Iv i ρ'->g d ρ' (Hold tb { O with nx:=Iv (i+1),ct:=Iv (i+1),bk:=O.nx })) (hO:O.le (zeS K D ρ σ Fz1 H1)) (hdone:∀ρ',Iv its.length ρ'->O.nx ρ') :
  ∃W:Nat->Nat->St->Hp->Prop,(∃m,W 0 m σ H1)/\∀i m σ H,W i m σ H->
   (J.stop i H/\D.nx σ H)\/(J.go i H/\∃N:St->Hp->Prop,(∀σ' H',N σ' H'->∃m',m'<m/\W (i+1) m' σ' H')/\∀x H',J.yld i H x H'->zmq K g x σ H' λσ2 H2=>zox K tb { D with nx:=N,ct:=N,bk:=D.nx } σ2 H2):=by
 refine⟨λi m σ' H'=>m=its.length-i/\i<=its.length/\∃ρ' F',Rel K F' ρ' σ' H'/\Iv i ρ'/\Step ρ σ Fz1 H1 F' H'/\zau ρ σ H1 ρ' σ',
  ⟨its.length,by lia,XU _,ρ,Fz1,R1,h0,.of ⟨Same.refl _,λ_ h=>h,λ_ h=>.inl h,R1.al⟩,zau.refl ρ σ H1⟩,?_⟩
 rintro i m σ' H' ⟨rfl,hle,ρ',F',R',hI,s',o'⟩;have kp:ziY Fz1 H1 H':=s'.kept R1;obtain⟨wgo,wstop⟩:=wk H' (.inr ⟨rfl,kp⟩) i;by_cases hlt:i<its.length
 ·obtain⟨go,yl⟩:=wgo its[i] (Xa hlt);refine .inr ⟨go,λσ2 H2=>∃ρ2 F2,Rel K F2 ρ2 σ2 H2/\Iv (i+1) ρ2/\Step ρ σ Fz1 H1 F2 H2/\zau ρ σ H1 ρ2 σ2,λσ2 H2 hN=>⟨its.length-(i+1),by omega,rfl,hlt,hN⟩,λxv H2 y=>?_⟩;obtain⟨sm,dn⟩:=yl xv H2 y;have x2:Ext F' H' F' H2:=⟨sm,λ_ h=>h,λ_ h=>.inl h,λb hb z=>R'.al b hb (sm.free z)⟩;refine⟨ρ',F',its[i],R'.ext x2,Den.mono (Keep.of (Same.refl _)) s'.sub _ _ dn,hgm _ ρ' _ _ (λρ2 q σ2 R2 o2=>?_) (hstep i its[i] ρ' (Xa hlt) hI)⟩;have so:zau ρ σ H1 ρ2 σ2:=λb hb=>o' b (o2 b hb);have st:Step ρ σ Fz1 H1 F' H2:=s'.trans o' (.of x2);refine⟨ρ2,F',R2,hbm ρ2 { O with nx:=Iv (i+1),ct:=Iv (i+1),bk:=O.nx } _ ⟨λρ3 q σ3 F3 H3 s3 o3 R3=>?_,λd k q v F3 H3 s3 al r=>?_,λρ3 q σ3 F3 H3 s3 o3 R3=>?_,λρ3 q σ3 F3 H3 s3 o3 R3=>?_⟩ q⟩
  ·exact⟨ρ3,F3,R3,q,st.trans so s3,zau.trans st so o3⟩
  ·refine hO.rt d k q v F3 H3 (st.trans so s3) al ?_;cases k with
   | frz=>exact r
   | own j=>exact r
   | new=>
    obtain⟨a,e,nf,ow,w⟩:=r;refine⟨a,e,nf,ow,?_⟩;rcases w with w | w
    ·exact so a w
    ·exact(st.none w).symm
  ·exact hO.nx ρ3 q σ3 F3 H3 (st.trans so s3) (zau.trans st so o3) R3
  ·exact⟨ρ3,F3,R3,q,st.trans so s3,zau.trans st so o3⟩
 ·have e:i=its.length:=by lia
  subst e;exact .inl ⟨wstop (Xf _),hO.nx ρ' (hdone ρ' hI) σ' F' H' s' o' R'⟩
theorem zhO (him:∀ρ Q Q',(∀its o,Q its o->Q' its o)->ti ρ Q->ti ρ Q')(hgm:∀d ρ Q Q',(∀ρ,Q ρ->Q' ρ)->g d ρ Q->g d ρ Q')(hbm:∀ρ O O',POut.le O O'->tb ρ O->tb ρ O'):∀ρ O O',POut.le O O'->pFor ti g tb ρ O->pFor ti g tb ρ O':=λρ O O' m h=>
 him ρ _ _ (λits o q73q=>by obtain⟨e,I,h0,hs,hd⟩:=q73q;exact⟨e,I,h0,λi d ρ' hi hI=>hgm d ρ' _ _ (λρ2 q=>hbm ρ2 { O with nx:=I (i+1),ct:=I (i+1),bk:=O.nx } _ ⟨λ_ q=>q,m.rt,m.nx,λ_ q=>q⟩ q) (hs i d ρ' hi hI),λρ' hI=>m.nx _ (hd ρ' hI)⟩) h
theorem zcz (hc:X.calm=true)(hp:PassesOwn (model X.prog X.w) X.A X.env X.xe)(hi:PuI X tg iter ti)(hg:PuG X tg g)(hb:PuSs X body tb)(hs:autoParam (∀x,foldedSetIterable iter X.env x=pure x) aU3):PuS X (.For tg iter body [] pos) (pFor ti g tb) where
 mono:=zhO hi.mono hg.mono hb.mono
 run:=PS.weak (zlI hp hc hi.run hg.run hb.run hs) λD σ H h=>by
  obtain⟨ρ,Fz,R,h⟩:=h;refine⟨ρ,Fz,R,hi.mono ρ _ _ (λits o q J Fz1 H1 x wk=>?_) h⟩;obtain⟨rfl,Iv,h0,hstep,hdone⟩:=q;exact zgO hg.mono hb.mono (R.ext x) wk Iv h0 hstep (zcu (.of x) (zau.refl ρ σ H)) hdone
theorem zmr (hp:PassesOwn (model X.prog X.w) X.A X.env X.xe)(hc:PuT X c tc)(hb:PuSs X body tb):PuS X (.While c body [] pos) (zcb tc tb) where
 mono ρ O O' m h:=by
  obtain⟨Iv,h0,h⟩:=h;refine⟨Iv,h0,λn ρ' hI=>hc.mono ρ' _ _ (λb q=>?_) (h n ρ' hI)⟩;cases b with
  | true=>rw[if_pos rfl]at q ⊢;exact hb.mono ρ' { O with nx:=λρ2=>∃m',m'<n/\Iv m' ρ2,ct:=λρ2=>∃m',m'<n/\Iv m' ρ2,bk:=O.nx } _ ⟨λ_ q=>q,m.rt,m.nx,λ_ q=>q⟩ q
  | false=>rw[if_neg Xw]at q ⊢;exact m.nx _ q
 run:=PS.weak (znV hp hc.run hb.run) λD σ H h=>by
  obtain⟨ρ,Fz,R,Iv,⟨m0,h0⟩,h⟩:=h;refine⟨λm σ' H'=>∃ρ' F',Rel X.K F' ρ' σ' H'/\Iv m ρ'/\Step ρ σ Fz H F' H'/\zau ρ σ H ρ' σ',
   ⟨m0,ρ,Fz,R,h0,.of ⟨Same.refl _,λ_ h=>h,λ_ h=>.inl h,R.al⟩,zau.refl ρ σ H⟩,?_⟩
  rintro m σ' H' ⟨ρ',F',R',hI,s',o'⟩;refine⟨ρ',F',R',hc.mono ρ' _ _ (λb q F2 H2 x2=>?_) (h m ρ' hI)⟩;have st:Step ρ σ Fz H F2 H2:=s'.trans o' (.of x2);cases b with
  | true=>
   rw[if_pos rfl]at q;refine iteT ?_;refine⟨λσ3 H3=>∃m',m'<m/\∃ρ3 F3,Rel X.K F3 ρ3 σ3 H3/\Iv m' ρ3/\Step ρ σ Fz H F3 H3/\zau ρ σ H ρ3 σ3,λσ3 H3 hN=>hN,ρ',F2,R'.ext x2,hb.mono ρ' _ _ ⟨λρ3 q σ3 F3 H3 s3 o3 R3=>?_,λd k q v F3 H3 s3 al r=>?_,λρ3 q σ3 F3 H3 s3 o3 R3=>?_,λρ3 q σ3 F3 H3 s3 o3 R3=>?_⟩ q⟩
   ·obtain⟨m',hm,hI'⟩:=q;exact⟨m',hm,ρ3,F3,R3,hI',st.trans o' s3,zau.trans st o' o3⟩
   ·refine q v F3 H3 (st.trans o' s3) al ?_;cases k with
    | frz=>exact r
    | own j=>exact r
    | new=>
     obtain⟨a,e,nf,ow,w⟩:=r;refine⟨a,e,nf,ow,?_⟩;rcases w with w | w
     ·exact o' a w
     ·exact(st.none w).symm
   ·exact q σ3 F3 H3 (st.trans o' s3) (zau.trans st o' o3) R3
   ·obtain⟨m',hm,hI'⟩:=q;exact⟨m',hm,ρ3,F3,R3,hI',st.trans o' s3,zau.trans st o' o3⟩
  | false=>
   rw[if_neg Xw]at q;exact iteF (q σ' F2 H2 st o' (R'.ext x2))
end
theorem _root_._L.Same.upd' {H H':Hp}{l:Addr}{o:HO}(s:Same H H')(h:H l=none):Same H (_L.upd H' l o):=λb u e=>by
 rw[zaf (zay e h)];exact s b u e
structure PuTs (X:Cx)(ifs:List Expr)(t:TPT):Prop where
 mono:∀ρ Q Q',(∀b,Q b->Q' b)->t ρ Q->t ρ Q'
 run:PTs X ifs (liftT X.K t)
noncomputable def zdd:TPT:=λ_ Q=>Q true
theorem PTs.weak {X:Cx}{e:List Expr}{t t':TT}(h:PTs X e t)(w:∀σ H Q,t' σ H Q->t σ H Q):PTs X e t':=λpins s σ H Q I q=>h pins s σ H Q I (w σ H Q q)
theorem zaU {X:Cx}:PuTs X [] zdd where
 mono ρ Q Q' m h:=m _ h
 run:=PTs.weak zlX λσ H Q h=>by
  obtain⟨ρ,Fz,R,h⟩:=h;exact h Fz H ⟨Same.refl H,λ_ h=>h,λ_ h=>.inl h,R.al⟩
theorem zcA {X:Cx}{c:Expr}{t:TPT}(h:PuT X c t):PuTs X [c] t:=⟨h.mono,zqj h.run⟩
noncomputable def blkP (k:Nat)(js:List Nat)(ρ:PEnv):PEnv:=List.replicate k none++js.map λj=>(ρ[j]?).getD none
noncomputable def zcv (k:Nat)(js:List Nat)(ti:TPI)(g:TPG)(tt:TPT)(te:TPE):TPE:=λρ Q=>ti ρ λits _=>its.length<=sizeLine/\∃Pv:Nat->List PV->Prop,Pv 0 []/\
 (∀i d out,its[i]? = some d->out.length<=i->Pv i out->g d (blkP k js ρ) λρ2=>tt ρ2 λb=>if b=true then te ρ2 λe ke=>isOwn ke=false/\Pv (i+1) (out++[e]) else Pv (i+1) out)/\
 ∀out,out.length<=its.length->Pv its.length out->Q (.lst out) .new
structure PBlk (X:Cx)(N:List Str)(sc:Scope)(tg:Expr)(ifs:List Expr)(elt:Expr)(g:TPG)(tt:TPT)(te:TPE):Prop where
 tgt:∀C cells fp s H,PuG (cxB X N sc C cells fp s H) tg g
 tst:∀C cells fp s H,PuTs (cxB X N sc C cells fp s H) ifs tt
 val:∀C cells fp s H,PuE (cxB X N sc C cells fp s H) elt te
theorem PBlk.blk {X:Cx}{N:List Str}{sc:Scope}{tg:Expr}{ifs:List Expr}{elt:Expr}{g:TPG}{tt:TPT}{te:TPE}(B:PBlk X N sc tg ifs elt g tt te):Blk X N sc tg ifs elt (zmq X.K g) (liftT X.K tt) (lift X.K te):=
 ⟨λC cells fp s H=>(B.tgt C cells fp s H).run,λC cells fp s H=>(B.tst C cells fp s H).run,λC cells fp s H=>(B.val C cells fp s H).run⟩
theorem zdx {k:Nat}{js:List Nat}{ρ:PEnv}{i:Nat}{d:PV}{b:Bool}(h:(blkP k js ρ)[i]? = some (some (d,b))):∃i' j,i=k+i'/\js[i']? = some j/\ρ[j]? = some (some (d,b)):=by
 unfold blkP at h;have hik:k<=i:=by
  by_cases hik:k<=i
  ·exact hik
  ·rw[Yg (by simp;lia),List.getElem?_replicate]at h;split at h<;>cases h
 obtain⟨i',rfl⟩:∃i',i=k+i':=⟨i-k,by lia⟩;rw[XQ (by simp),List.length_replicate,show k+i'-k=i' by lia,Xd]at h;cases hj:js[i']? with
 | none=>rw[hj]at h;cases h
 | some j=>
  rw[hj]at h;refine⟨i',j,rfl,hj,?_⟩;have h':(ρ[j]?).getD none=some (d,b):=Option.some.inj h;cases q:ρ[j]? with
  | none=>rw[q]at h';cases h'
  | some o=>rw[q]at h';exact congrArg some h'
theorem zcM {k:Nat}{js:List Nat}{σ:St}{i' j:Nat}{o:Option V}(hj:js[i']? = some j)(h:σ[j]? = some o):(zdM k js σ)[k+i']? = some o:=by
 unfold zdM;rw[XQ (by simp),List.length_replicate,show k+i'-k=i' by lia,Xd,hj];show some ((σ[j]?).getD none)=_;rw[h];rfl
theorem Rel.block {K:Xb}{Fz:FZ}{ρ:PEnv}{σ:St}{H:Hp}{k:Nat}{js:List Nat}(R:Rel K Fz ρ σ H)(nd:js.Nodup):Rel K Fz (blkP k js ρ) (zdM k js σ) H where
 al:=R.al
 len:=by unfold blkP zdM;simp
 frz i d h:=by
  obtain⟨i',j,rfl,hj,h⟩:=zdx h;obtain⟨v,e,q⟩:=R.frz j d h;exact⟨v,zcM hj e,q⟩
 own i d h:=by
  obtain⟨i',j,rfl,hj,h⟩:=zdx h;obtain⟨a,e,n,q⟩:=R.own j d h;exact⟨a,zcM hj e,n,q⟩
 inj i1 i2 d e a h1 h2 h3 h4:=by
  obtain⟨i',j,rfl,hj,h1⟩:=zdx h1;obtain⟨i'',j',rfl,hj',h2⟩:=zdx h2;obtain⟨a1,e1,_,_⟩:=R.own j d h1;obtain⟨a2,e2,_,_⟩:=R.own j' e h2;rw[zcM hj e1]at h3;rw[zcM hj' e2]at h4;have ea1:a1=a:=by have:=Option.some.inj (Option.some.inj h3);injection this
  have ea2:a2=a:=by have:=Option.some.inj (Option.some.inj h4);injection this
  subst ea1;subst ea2;have ej:=R.inj j j' d e _ h1 h2 e1 e2;subst ej;have l1:i'<js.length:=(Xe.mp hj).1;have e1':i'=i'':=(List.getElem?_inj l1 nd).mp (hj.trans hj'.symm);rw[e1']
theorem zqt {ρ:PEnv}{σ:St}{k:Nat}{js:List Nat}{Fz:FZ}{K:Xb}{H:Hp}(R:Rel K Fz ρ σ H){b:Addr}(h:zaI (blkP k js ρ) (zdM k js σ) b):zaI ρ σ b:=by
 obtain⟨i,d,h1,h2⟩:=h;obtain⟨i',j,rfl,hj,h1⟩:=zdx h1;obtain⟨a1,e1,_,_⟩:=R.own j d h1;rw[zcM hj e1]at h2;cases h2;exact⟨j,d,h1,e1⟩
theorem Rel.zms {K:Xb}{Fz:FZ}{ρ ρ':PEnv}{σ:St}{H:Hp}{k:Nat}{js:List Nat}(R:Rel K Fz ρ' σ H)(hl:ρ'.length=(blkP k js ρ).length)(hs:∀j,k<=j->ρ'[j]? = (blkP k js ρ)[j]?):Rel K Fz (blkP k js ρ) σ H:=by
 have tr:∀i d b,(blkP k js ρ)[i]? = some (some (d,b))->ρ'[i]? = some (some (d,b)):=λi d b h=>by
  obtain⟨i',j,rfl,_⟩:=zdx h;rw[hs _ (by lia)];exact h
 exact⟨R.al,by rw[<- hl];exact R.len,λi d h=>R.frz i d (tr _ _ _ h),λi d h=>R.own i d (tr _ _ _ h),λi j d e a h1 h2=>R.inj i j d e a (tr _ _ _ h1) (tr _ _ _ h2)⟩
theorem Rel.other {K:Xb}{Fz:FZ}{ρ:PEnv}{σ:St}{H:Hp}{l:Addr}{o u:HO}(R:Rel K Fz ρ σ H)(h:H l=some u)(hi:¬ Imm u)(nf:¬ Fz l)(no:¬ zaI ρ σ l):Rel K Fz ρ σ (upd H l o):=by
 have kp:Keep Fz H (upd H l o):=.mk' λb w e hw=>by
  have ne:b≠l:=λz=>by
   subst z;rcases hw with hw | hw
   ·exact nf hw
   ·rw[h]at e;cases e;exact hi hw
  rw[zaf ne];exact e
 refine⟨λb hb=>?_,R.len,λi d e=>?_,λi d e=>?_,R.inj⟩
 ·have ne:b≠l:=λz=>by subst z;exact nf hb
  rw[zaf ne];exact R.al b hb
 ·obtain⟨v,q1,q2⟩:=R.frz i d e;exact⟨v,q1,Den.mono kp (λ_ h=>h) _ _ q2⟩
 ·obtain⟨a,q1,q2,q3⟩:=R.own i d e;refine⟨a,q1,q2,q3.mono kp (λ_ h=>h) λw hw=>?_⟩;have ne:a≠l:=λz=>by subst z;exact no ⟨i,d,e,q1⟩
  rw[zaf ne];exact hw
section
variable {X:Cx}{elt tg iter:Expr}{ifs:List Expr}{sc:Scope}{pos:Pos}{N:List Str}{k:Nat}{js:List Nat}{ti:TPI}{g:TPG}{tt:TPT}{te:TPE}
theorem zmt (hi:PuI X tg iter ti)(B:PBlk X N sc tg ifs elt g tt te):∀ρ Q Q',(∀d k,Q d k->Q' d k)->zcv k js ti g tt te ρ Q->zcv k js ti g tt te ρ Q':=
 λρ Q Q' m h=>hi.mono ρ _ _ (λits o q74q=>by obtain⟨hz,Pv,h0,hs,hd⟩:=q74q;exact⟨hz,Pv,h0,hs,λout hl hp=>m _ _ (hd out hl hp)⟩) h
theorem zmu (nd:js.Nodup)(hloc:LocG k g)(B:PBlk X N sc tg ifs elt g tt te){ρ:PEnv}{σ:St}{H H1:Hp}{Fz1:FZ}{o:Bool}{J:It}{its:List PV}{l:Addr}{Rr:Hp->Prop}(R1:Rel X.K Fz1 ρ σ H1)(wk:Walk X.K Fz1 o J its H1)(hl:H1 l=none)(hz:its.length<=sizeLine)(Pv:Nat->List PV->Prop)(h0:Pv 0 [])
  (hstep:∀i d out,its[i]? = some d->out.length<=i->Pv i out->g d (blkP k js ρ) λρ2=>tt ρ2 λb=>if b=true then te ρ2 λe ke=>isOwn ke=false/\Pv (i+1) (out++[e]) else Pv (i+1) out)
  (hdone:∀F' out xs H',Ext Fz1 H1 F' H'->H' l=some (.lst xs)->DenL X.K F' H' out xs->¬ F' l->out.length<=its.length->Pv its.length out->Rr H') :
  zlY J (zmq X.K g) (liftT X.K tt) (lift X.K te) l (zdM k js σ) H1 Rr:=by
 have mg:=(B.tgt 0 [] [] X.s₀ H).mono;have mt:=(B.tst 0 [] [] X.s₀ H).mono;have me:=(B.val 0 [] [] X.s₀ H).mono;have nf1:¬ Fz1 l:=λz=>R1.al l z hl;have no1:¬ zaI ρ σ l:=λ⟨i,d,h1,h2⟩=>by
  obtain⟨a,q1,_,q3⟩:=R1.own i d h1;rw[h2]at q1;cases q1;obtain⟨o',q4,_⟩:=q3.at;rw[hl]at q4;cases q4
 refine⟨λi m σ' H'=>m=its.length-i/\i<=its.length/\∃F' out xs,Rel X.K F' (blkP k js ρ) σ' H'/\(∀b,zaI (blkP k js ρ) σ' b->zaI ρ σ b)/\H' l=some (.lst xs)/\DenL X.K F' H' out xs/\¬ F' l/\out.length<=i/\Pv i out/\Same H1 H'/\(∀b,Fz1 b->F' b)/\(∀b,F' b->Fz1 b\/H1 b=none),
  ⟨its.length,by lia,XU _,Fz1,[],[],?_,λb hb=>zqt R1 hb,zag,DenL.nil,nf1,XU _,h0,(Same.refl H1).upd' hl,λ_ h=>h,λ_ h=>.inl h⟩,?_⟩
 ·have x0:Ext Fz1 H1 Fz1 (upd H1 l (.lst [])):=Ext.laid ⟨Same.refl _,λ_ h=>h,λ_ h=>.inl h,R1.al⟩ hl;exact(R1.block nd).ext x0
 rintro i m σ' H' ⟨rfl,hle,F',out,xs,Rb,ob,hlx,hout,nfl,hol,hP,sm,s1,s2⟩;obtain⟨wgo,wstop⟩:=wk H' (.inl sm) i;by_cases hlt:i<its.length
 ·obtain⟨go,yl⟩:=wgo its[i] (Xa hlt);refine .inr ⟨go,λxv H2 y=>?_⟩;obtain⟨sm2,dn⟩:=yl xv H2 y;have x2:Ext F' H' F' H2:=⟨sm2,λ_ h=>h,λ_ h=>.inl h,λb hb z=>Rb.al b hb (sm2.free z)⟩;refine⟨blkP k js ρ,F',its[i],Rb.ext x2,Den.mono (Keep.of (Same.refl _)) s1 _ _ dn,mg _ _ _ _ (λρ2 ⟨q,l2,a2⟩ σ2 R2 o2=>?_) (hloc _ _ _ (hstep i its[i] out (Xa hlt) hol hP))⟩;refine⟨ρ2,F',R2,mt ρ2 _ _ (λb q F4 H4 x4=>?_) q⟩;have R4:Rel X.K F4 ρ2 σ2 H4:=R2.ext x4;have own2:∀b,zaI (blkP k js ρ) σ2 b->zaI ρ σ b:=λb ⟨j,d,h1,h2⟩=>by
   refine ob b (o2 b ⟨j,d,?_,h2⟩);obtain⟨i',j',e,_⟩:=zdx h1;rw[a2 j (by lia)];exact h1
  have hl4:H4 l=some (.lst xs):=x4.same _ _ (sm2 _ _ hlx);have nf4:¬ F4 l:=λz=>by
   rcases x4.new l z with z | z
   ·exact nfl z
   ·rw[sm2 _ _ hlx]at z;cases z
  cases b with
  | false=>
   rw[if_neg Xw]at q;refine iteF ⟨its.length-(i+1),by lia,rfl,hlt,F4,out,xs,Rel.zms R4 l2 a2,own2,hl4,DenL.mono (.of (sm2.trans x4.same)) x4.sub _ _ hout,nf4,by lia,q,sm.trans (sm2.trans x4.same),λb hb=>x4.sub b (s1 b hb),λb hb=>?_⟩;rcases x4.new b hb with z | z
   ·exact s2 b z
   ·exact .inr (sm.free (sm2.free z))
  | true=>
   rw[if_pos rfl]at q;refine iteT ⟨ρ2,F4,R4,me ρ2 _ _ (λe ke q78q v F5 H5 p5=>?_) q⟩;obtain⟨hk,q⟩:=q78q;have hk':ke=.frz\/ke=.new:=by
    cases ke with
    | frz=>exact .inl rfl
    | new=>exact .inr rfl
    | own j=>cases hk
   obtain⟨F6,x6,s6,d6⟩:=p5.frozen hk';have hl5:H5 l=some (.lst xs):=x6.same _ _ hl4;have nf6:¬ F6 l:=λz=>by
    rcases x6.new l z with z | z
    ·exact nf4 z
    ·rw[hl4]at z;cases z
   have R6:Rel X.K F6 ρ2 σ2 H5:=R4.ext x6;have Rb6:Rel X.K F6 (blkP k js ρ) σ2 H5:=Rel.zms R6 l2 a2;have no6:¬ zaI (blkP k js ρ) σ2 l:=λz=>no1 (own2 l z);have kp:Keep F6 H5 (upd H5 l (.lst (xs++[v]))):=.mk' λb w e hw=>by
    have ne:b≠l:=λz=>by
     subst z;rcases hw with hw | hw
     ·exact nf6 hw
     ·rw[hl5]at e;cases e;exact hw
    rw[zaf ne];exact e
   have hxl:=hout.length;refine⟨xs,hl5,by lia,its.length-(i+1),by lia,rfl,hlt,F6,out++[e],xs++[v],Rb6.other hl5 (λz=>z) nf6 no6,own2,zag,?_,nf6,by rw[XB];simp;omega,q,?_,λb hb=>x6.sub b (x4.sub b (s1 b hb)),λb hb=>?_⟩
   ·exact DenL.mono kp (λ_ h=>h) _ _ (DenL.snoc (DenL.mono (.of (sm2.trans (x4.same.trans x6.same))) (λb hb=>x6.sub b (x4.sub b hb)) _ _ hout) d6)
   ·exact(sm.trans (sm2.trans (x4.same.trans x6.same))).upd' hl
   ·rcases x6.new b hb with z | z
    ·rcases x4.new b z with z | z
     ·exact s2 b z
     ·exact .inr (sm.free (sm2.free z))
    ·exact .inr (sm.free (sm2.free (x4.same.free z)))
 ·have e:i=its.length:=by lia
  subst e;exact .inl ⟨wstop (Xf _),hdone F' out xs H' ⟨sm,s1,s2,Rb.al⟩ hlx hout nfl hol hP⟩
theorem zhP (nd:js.Nodup)(hloc:LocG k g)(hi:PuI X tg iter ti)(B:PBlk X N sc tg ifs elt g tt te){σ:St}{H:Hp}{Q:VK}(h:lift X.K (zcv k js ti g tt te) σ H Q) :
  zqk k js (zsD X.K ti) (zmq X.K g) (liftT X.K tt) (lift X.K te) σ H Q:=by
 obtain⟨ρ,Fz,R,h⟩:=h;refine⟨ρ,Fz,R,hi.mono ρ _ _ (λits o q J Fz1 H1 x wk l hl=>?_) h⟩;obtain⟨hz,Pv,h0,hstep,hdone⟩:=q;refine zmu (H:=H) nd hloc B (R.ext x) wk hl hz Pv h0 hstep λF' out xs H' x' hlx hout nfl hol hP=>?_;exact hdone out hol hP _ F' H' ⟨x.trans x',l,rfl,x.same.free hl,nfl,xs,hlx,hout⟩
theorem zaG (hc:X.calm=true)(S:zcx X N k js sc)(nd:js.Nodup)(hloc:LocG k g)(hi:PuI X tg iter ti)(B:PBlk X N sc tg ifs elt g tt te)(hs:autoParam (∀x,foldedSetIterable iter X.env x=pure x) aU3) :
  PuE X (.ListComp elt [⟨tg,iter,ifs,0⟩] sc pos) (zcv k js ti g tt te):=
 ⟨zmt hi B,PE.weak (zql hc S hi.run B.blk hs) λ_ _ _ h=>zhP nd hloc hi B h⟩
theorem zjV {i:Nat}{x:Str}{pos' pos2:Pos}(hc:X.calm=true)(S:zcx X N k js sc)(nd:js.Nodup)(hloc:LocG k g)(hi:PuI X tg iter ti)(B:PBlk X N sc tg ifs elt g tt te)(hN:X.N.Nodup)(hx:X.N[i]? = some x)(hk:X.env.scope.names.lookup x=some .local)
  (hsw:autoParam (swapsWith (.ListComp elt [⟨tg,iter,ifs,0⟩] sc pos) (some (.Name x pos')) pos2.line X.env=pure true) aU0) (hs:autoParam (∀x,foldedSetIterable iter X.env x=pure x) aU3) :
  PuS X (.Assign [.Name x pos'] (.ListComp elt [⟨tg,iter,ifs,0⟩] sc pos) pos2) (pSet i (zcv k js ti g tt te)) where
 mono:=zhN (zaG (pos:=pos) hc S nd hloc hi B hs)
 run:=PS.weak (zlZ hc S hi.run B.blk hN hx hk hsw hs) λD σ H h=>by
  have q:=zjU (zaG (pos:=pos) hc S nd hloc hi B hs) h;exact zhP nd hloc hi B q
end
noncomputable def zbg (N:List Str)(ds:List PV):PEnv:=ds.map (λd=>some (d,false))++List.replicate (N.length-ds.length) none
noncomputable def zbM (Q:PV->Kd->Prop):POut:=⟨λ_=>Q .non .frz,Q,λ_=>False,λ_=>False⟩
theorem zqu {K:Xb}{F:PF}{ps:List Str}(h:∀ds Q,F ds Q->ds.length=ps.length):∀vs H Q E,spP K F vs H Q E->vs.length=ps.length:=λvs H Q E q79q=>by obtain⟨Fz,ds,_,hd,q⟩:=q79q;rw[<- hd.length];exact h _ _ q
theorem zmv {K:Xb}{Fz:FZ}{H:Hp}{N:List Str}{ds:List PV}{vs:List V}(al:∀b,Fz b->H b≠none)(h:DenL K Fz H ds vs):Rel K Fz (zbg N ds) (start N vs) H/\∀σ b,¬ zaI (zbg N ds) σ b:=by
 have hl:=h.length;have get:∀(i:Nat) (d:PV) (b:Bool),(zbg N ds)[i]? = some (some (d,b))->b=false/\ds[i]? = some d:=λi d b e=>by
  unfold zbg at e;by_cases hi:i<ds.length
  ·rw[Yg (by simpa using hi),Xd,Xa hi]at e;have e':(some (ds[i],false):Option (PV×Bool))=some (d,b):=Option.some.inj e;have e2:=Option.some.inj e';exact⟨(congrArg Prod.snd e2).symm,by rw[Xa hi];exact congrArg some (congrArg Prod.fst e2)⟩
  ·rw[XQ (by simpa using hi),List.getElem?_replicate]at e;split at e<;>cases e
 refine⟨⟨al,by unfold zbg _L.start;simp[hl],λi d e=>?_,λi d e=>?_,λi j d e a h1=>?_⟩,λσ b ⟨i,d,e,_⟩=>?_⟩
 ·obtain⟨_,e'⟩:=get i d false e;obtain⟨v,q1,q2⟩:=h.get e';have hi:i<vs.length:=(Xe.mp q1).1;refine⟨v,?_,q2⟩;unfold _L.start;rw[Yg (by simpa using hi),Xd,q1];rfl
 ·exact absurd (get i d true e).1 (by decide)
 ·exact absurd (get i d true h1).1 (by decide)
 ·exact absurd (get i d true e).1 (by decide)
section
variable {P:Program}{w:World}{K:Xb}{mg:Str->Option Value}{base:Heap}
theorem zaH {x qual:Str}{st:Stmt}{f:Addr}{fd:FuncData}{N ps:List Str}{k:Nat}{F:PF}(Fn:Fun K x qual st f fd)(S:zaw N ps (zac st))(len:∀ds Q,F ds Q->ds.length=ps.length)
  (hbody:∀(cdv:Value) (A:Around) (outer:List Env) (s:Shared) (H:Hp) (E:XK),Room k (A.deeper (envOfC qual (zac st) s.heap.objs.size f cdv))->
   ∃t,PuSs (cxOf CX0 P w K mg base N qual (zac st) f cdv A outer s H E).nox (zap st) t/\∀ds Q,F ds Q->t (zbg N ds) (zbM Q)):FnOk P w K mg base CX0 (k+1) f fd ps (spP K F):=by
 refine Fn.ok S (zqu len) (λcdv A outer s H vs Q E hr h=>?_);obtain⟨t,ht,hq⟩:=hbody cdv A outer s H E hr;obtain⟨Fz,ds,al,hd,h⟩:=h;obtain⟨R,no⟩:=zmv (N:=N) al hd;refine⟨_,ht.run,zbg N ds,Fz,R,ht.mono _ (zbM _) _ ⟨λρ' q σ' F' H' s' o' R'=>?_,λd k q v F' H' s' al' r=>?_,λ_ z=>z.elim,λ_ z=>z.elim⟩ (hq ds _ h)⟩
 ·exact q .non F' H' ⟨⟨λb o e=>s'.keep b o e (no _ b),s'.sub,λb hb=>(s'.new b hb).elim .inl (λz=>z.elim .inr (λz=>(no _ b z).elim)),R'.al⟩,by show Den _ _ _ _ _;simp only[Den]⟩
 ·refine q v F' H' ⟨⟨λb o e=>s'.keep b o e (no _ b),s'.sub,λb hb=>(s'.new b hb).elim .inl (λz=>z.elim .inr (λz=>(no _ b z).elim)),al'⟩,?_⟩;cases k with
  | frz=>exact r
  | own i=>exact r.elim
  | new=>
   obtain⟨a,e,nf,o,w⟩:=r;exact⟨a,e,w.resolve_left (no _ a),nf,o⟩
end
theorem Rel.mut {K:Xb}{Fz:FZ}{ρ:PEnv}{σ:St}{H:Hp}{i:Nat}{d d':PV}{a:Addr}{o u:HO}(R:Rel K Fz ρ σ H)(hi:ρ[i]? = some (some (d,true)))(hs:σ[i]? = some (some (.ref a)))(hu:H a=some u)
  (ho:Own K Fz (upd H a o) d' a):Rel K Fz (ρ.set i (some (d',true))) σ (upd H a o)/\Step ρ σ Fz H Fz (upd H a o)/\zau ρ σ H (ρ.set i (some (d',true))) σ:=by
 obtain⟨a',e',nf,ow⟩:=R.own i d hi;rw[hs]at e';cases e';have hil:i<ρ.length:=(Xe.mp hi).1;have im:¬ Imm u:=by obtain⟨o',q1,q2⟩:=ow.at;rw[hu]at q1;cases q1;exact q2
 have kp:Keep Fz H (upd H a o):=.mk' λb w e hw=>by
  have ne:b≠a:=λz=>by
   subst z;rcases hw with hw | hw
   ·exact nf hw
   ·rw[hu]at e;cases e;exact im hw
  rw[zaf ne];exact e
 have st:∀j e,(ρ.set i (some (d',true)))[j]? = some (some (e,true))->∃e0,ρ[j]? = some (some (e0,true)):=λj e h=>by
  by_cases hij:i=j
  ·subst hij;exact⟨d,hi⟩
  ·rw[Xo hij]at h;exact⟨e,h⟩
 refine⟨⟨λb hb=>?_,by rw[Yt];exact R.len,λj e h=>?_,λj e h=>?_,λj k e1 e2 b h1 h2 h3 h4=>?_⟩,⟨λ_ h=>h,λ_ h=>.inl h,λb w e n=>?_⟩,λb ⟨j,e,h1,h2⟩=>?_⟩
 ·have ne:b≠a:=λz=>by subst z;exact nf hb
  rw[zaf ne];exact R.al b hb
 ·by_cases hij:i=j
  ·subst hij;rw[Xs hil]at h;cases h
  ·rw[Xo hij]at h;obtain⟨v,q1,q2⟩:=R.frz j e h;exact⟨v,q1,Den.mono kp (λ_ h=>h) _ _ q2⟩
 ·by_cases hij:i=j
  ·subst hij;rw[Xs hil]at h;cases h;exact⟨a,hs,nf,ho⟩
  ·rw[Xo hij]at h;obtain⟨b,q1,q2,q3⟩:=R.own j e h;refine⟨b,q1,q2,q3.mono kp (λ_ h=>h) λw hw=>?_⟩;have ne:b≠a:=λz=>by subst z;exact hij (R.inj i j d e _ hi h hs q1)
   rw[zaf ne];exact hw
 ·obtain⟨e1',g1⟩:=st j e1 h1;obtain⟨e2',g2⟩:=st k e2 h2;exact R.inj j k e1' e2' b g1 g2 h3 h4
 ·have ne:b≠a:=λz=>by subst z;exact n ⟨i,d,hi,hs⟩
  rw[zaf ne];exact e
 ·obtain⟨e',g⟩:=st j e h1;exact .inl ⟨j,e',g,h2⟩
noncomputable abbrev TPM:=PEnv->(PV->PEnv->Prop)->Prop
noncomputable def liftM (K:Xb)(t:TPM):TE:=λσ H Q=>∃ρ Fz,Rel K Fz ρ σ H/\t ρ λd ρ'=>∀v Fz' H',Step ρ σ Fz H Fz' H'->zau ρ σ H ρ' σ->Rel K Fz' ρ' σ H'->Den K Fz' H' d v->Q v H'
structure PuM (X:Cx)(e:Expr)(t:TPM):Prop where
 mono:∀ρ Q Q',(∀d ρ,Q d ρ->Q' d ρ)->t ρ Q->t ρ Q'
 run:PE X e (liftM X.K t)
noncomputable def mApp (i:Nat)(te:TPE):TPM:=λρ Q=>∃ds,ρ[i]? = some (some (.lst ds,true))/\ds.length<sizeLine/\te ρ λd k=>isOwn k=false/\Q .non (ρ.set i (some (.lst (ds++[d]),true)))
noncomputable def zdy (i:Nat)(te:TPM):TPM:=λρ Q=>∃ds0,ρ[i]? = some (some (.lst ds0,true))/\te ρ λd ρ'=>∃ds,ρ'[i]? = some (some (.lst ds,true))/\ds.length<sizeLine/\Q .non (ρ'.set i (some (.lst (ds++[d]),true)))
noncomputable def zcc (i:Nat)(te:TPE):TPM:=λρ Q=>∃ds,ρ[i]? = some (some (.lst ds,true))/\te ρ λe _=>∃(j:Int)(k:Nat)(d:PV),e=.int j/\-(2 ^ 63)<=j/\j<2 ^ 63/\seqIndex? j ds.length=some k/\ds[k]? = some d/\Q d (ρ.set i (some (.lst (ds.eraseIdx k),true)))
noncomputable def zdz (i:Nat)(te:TPE):TPM:=λρ Q=>∃ds,ρ[i]? = some (some (.lst ds,true))/\te ρ λd _=>∃es,d=.tup es/\ds.length+es.length<=sizeLine/\Q .non (ρ.set i (some (.lst (ds++es),true)))
theorem zcN {K:Xb}{Fz:FZ}{ρ:PEnv}{σ:St}{H:Hp}{i:Nat}{ds:List PV}(R:Rel K Fz ρ σ H)(h:ρ[i]? = some (some (.lst ds,true))):∃a xs,σ[i]? = some (some (.ref a))/\H a=some (.lst xs)/\DenL K Fz H ds xs/\¬ Fz a:=by
 obtain⟨a,e,nf,xs,h1,h2⟩:=R.own i _ h;exact⟨a,xs,e,h1,h2,nf⟩
theorem DenL.rew {K:Xb}{Fz:FZ}{H:Hp}{ds:List PV}{xs ys:List V}{a:Addr}{o:HO}(ha:H a=some (.lst ys))(nf:¬ Fz a)(h:DenL K Fz H ds xs):DenL K Fz (upd H a o) ds xs:=
 DenL.mono (.mk' λb w e hw=>by
  have ne:b≠a:=λz=>by
   subst z;rcases hw with hw | hw
   ·exact nf hw
   ·rw[ha]at e;cases e;exact hw
  rw[zaf ne];exact e) (λ_ h=>h) _ _ h
section
variable {X:Cx}{x:Str}{e:Expr}{te:TPE}{tm:TPM}{p apos cpos:Pos}
theorem zbX (i:Nat)(he:PuE X e te)(hN:autoParam (X.N[i]? = some x) aU0)(hv:autoParam (Vis X.env.scope x) aU4)(hd:autoParam ((x == ("__debug__" : Str))=false) aU1) (hcd:autoParam ((x == ("__classdict__" : Str))=false) aU1)
  (hbase:autoParam (attributeBase (.Name x p) "append" X.env (eval (.Name x p) X.env)=eval (.Name x p) X.env) aU0)
  (hfew:autoParam (((backTo cpos (starEach [e] X.env)).all (λx=>!x.1)&&(backToKw cpos (keywordEach [] X.env)).all (λx=>x.1.isSome)&&decide ([e].length+([]:List Keyword).length+(if ([]:List Keyword).isEmpty then 0 else 1)<30))=true) aU0)
  (hline:autoParam ((apos.endLine == cpos.line)=true) aU0) (hs:autoParam (starEach [e] X.env=(false,eval e X.env)::starEach [] X.env) aU0) (hplain:autoParam ((backTo cpos (starEach [] X.env)).any (·.1)=false) aU0):PuM X (.Call (.Attribute (.Name x p) "append" apos) [e] [] cpos) (mApp i te) where
 mono ρ Q Q' m h:=by
  obtain⟨ds,e1,e2,h⟩:=h;exact⟨ds,e1,e2,he.mono ρ _ _ (λd k q82q=>by obtain⟨hk,q⟩:=q82q;exact⟨hk,m _ _ q⟩) h⟩
 run:=PE.weak (zlN PySem.F.plainAttrs_list PySem.F.slot_list_append PySem.F.type_list_append zdL (zdm hN hv hd hcd) (zca he.run zcF hs) hbase hfew hline hs hplain) λσ H Q h=>by
  obtain⟨ρ,Fz,R,ds,e1,e2,h⟩:=h;obtain⟨a,xs,hs,ha,hd,nf⟩:=zcN R e1;refine⟨_,hs,.inl ⟨rfl,xs,SqL.of ha⟩,ρ,Fz,R,he.mono ρ _ _ (λd k q v F1 H1 p1=>?_) h⟩;obtain⟨hk,q⟩:=q;have hk':k=.frz\/k=.new:=by
   cases k with
   | frz=>exact .inl rfl
   | new=>exact .inr rfl
   | own j=>cases hk
  obtain⟨F2,x2,s2,d2⟩:=p1.frozen hk';have R2:=R.ext x2;obtain⟨a',xs',hs',ha',hd',nf'⟩:=zcN R2 e1;rw[hs]at hs';cases hs';have hl:=hd'.length;refine⟨a,xs',v,rfl,rfl,ha',by lia,?_⟩;have ow:Own X.K F2 (upd H1 a (.lst (xs'++[v]))) (.lst (ds++[d])) a:=⟨_,zag,(DenL.rew ha' nf' (DenL.snoc hd' d2))⟩;obtain⟨R3,s3,o3⟩:=R2.mut e1 hs ha' ow;exact q .non F2 _ ((Step.of x2).trans (zau.refl ρ σ H) s3) (zau.trans (Step.of x2) (zau.refl ρ σ H) o3) R3 (by simp only[Den])
theorem zfw (i:Nat)(he:PuM X e tm)(hN:autoParam (X.N[i]? = some x) aU0)(hv:autoParam (Vis X.env.scope x) aU4)(hd:autoParam ((x == ("__debug__" : Str))=false) aU1) (hcd:autoParam ((x == ("__classdict__" : Str))=false) aU1)
  (hbase:autoParam (attributeBase (.Name x p) "append" X.env (eval (.Name x p) X.env)=eval (.Name x p) X.env) aU0)
  (hfew:autoParam (((backTo cpos (starEach [e] X.env)).all (λx=>!x.1)&&(backToKw cpos (keywordEach [] X.env)).all (λx=>x.1.isSome)&&decide ([e].length+([]:List Keyword).length+(if ([]:List Keyword).isEmpty then 0 else 1)<30))=true) aU0)
  (hline:autoParam ((apos.endLine == cpos.line)=true) aU0) (hs:autoParam (starEach [e] X.env=(false,eval e X.env)::starEach [] X.env) aU0) (hplain:autoParam ((backTo cpos (starEach [] X.env)).any (·.1)=false) aU0):PuM X (.Call (.Attribute (.Name x p) "append" apos) [e] [] cpos) (zdy i tm) where
 mono ρ Q Q' m h:=by
  obtain⟨ds0,e0,h⟩:=h;exact⟨ds0,e0,he.mono ρ _ _ (λd ρ' q83q=>by obtain⟨ds,e1,e2,q⟩:=q83q;exact⟨ds,e1,e2,m _ _ q⟩) h⟩
 run:=PE.weak (zlN PySem.F.plainAttrs_list PySem.F.slot_list_append PySem.F.type_list_append zdL (zdm hN hv hd hcd) (zca he.run zcF hs) hbase hfew hline hs hplain) λσ H Q h=>by
  obtain⟨ρ,Fz,R,ds0,e0,h⟩:=h;obtain⟨a,xs,hs,ha,hd,nf⟩:=zcN R e0;refine⟨_,hs,.inl ⟨rfl,xs,SqL.of ha⟩,ρ,Fz,R,he.mono ρ _ _ (λd ρ1 q v F1 H1 s1 o1 R1 d1=>?_) h⟩;obtain⟨ds,e1,e2,q⟩:=q;obtain⟨a',xs',hs',ha',hd',nf'⟩:=zcN R1 e1;rw[hs]at hs';cases hs';have hl:=hd'.length;refine⟨a,xs',v,rfl,rfl,ha',by lia,?_⟩;have ow:Own X.K F1 (upd H1 a (.lst (xs'++[v]))) (.lst (ds++[d])) a:=⟨_,zag,(DenL.rew ha' nf' (DenL.snoc hd' d1))⟩;obtain⟨R3,s3,o3⟩:=R1.mut e1 hs ha' ow;exact q .non F1 _ (s1.trans o1 s3) (zau.trans s1 o1 o3) R3 (by simp only[Den])
theorem zhQ (i:Nat)(he:PuE X e te)(hN:autoParam (X.N[i]? = some x) aU0)(hv:autoParam (Vis X.env.scope x) aU4)(hd:autoParam ((x == ("__debug__" : Str))=false) aU1) (hcd:autoParam ((x == ("__classdict__" : Str))=false) aU1)
  (hbase:autoParam (attributeBase (.Name x p) "pop" X.env (eval (.Name x p) X.env)=eval (.Name x p) X.env) aU0)
  (hfew:autoParam (((backTo cpos (starEach [e] X.env)).all (λx=>!x.1)&&(backToKw cpos (keywordEach [] X.env)).all (λx=>x.1.isSome)&&decide ([e].length+([]:List Keyword).length+(if ([]:List Keyword).isEmpty then 0 else 1)<30))=true) aU0)
  (hline:autoParam ((apos.endLine == cpos.line)=true) aU0) (hs:autoParam (starEach [e] X.env=(false,eval e X.env)::starEach [] X.env) aU0) (hplain:autoParam ((backTo cpos (starEach [] X.env)).any (·.1)=false) aU0):PuM X (.Call (.Attribute (.Name x p) "pop" apos) [e] [] cpos) (zcc i te) where
 mono ρ Q Q' m h:=by
  obtain⟨ds,e1,h⟩:=h;exact⟨ds,e1,he.mono ρ _ _ (λd _ q84q=>by obtain⟨j,k,c,q1,q2,q3,q4,q5,q⟩:=q84q;exact⟨j,k,c,q1,q2,q3,q4,q5,m _ _ q⟩) h⟩
 run:=PE.weak (zlN PySem.F.plainAttrs_list PySem.F.slot_list_pop PySem.F.type_list_pop zoe (zdm hN hv hd hcd) (zca he.run zcF hs) hbase hfew hline hs hplain) λσ H Q h=>by
  obtain⟨ρ,Fz,R,ds,e1,h⟩:=h;obtain⟨a,xs,hs,ha,hd,nf⟩:=zcN R e1;refine⟨_,hs,.inl ⟨rfl,xs,SqL.of ha⟩,ρ,Fz,R,he.mono ρ _ _ (λd k q v F1 H1 p1=>?_) h⟩;obtain⟨j,k,c,rfl,q2,q3,q4,q5,q⟩:=q;have R2:=R.ext p1.ext;obtain⟨a',xs',hs',ha',hd',nf'⟩:=zcN R2 e1;rw[hs]at hs';cases hs';have hl:=hd'.length;obtain⟨y,y1,y2⟩:=hd'.get q5;refine⟨a,xs',j,k,y,rfl,by rw[zaK (p1.root R)],ha',q2,q3,by rw[<- hl];exact q4,y1,?_⟩;have ow:Own X.K F1 (upd H1 a (.lst (xs'.eraseIdx k))) (.lst (ds.eraseIdx k)) a:=⟨_,zag,(DenL.rew ha' nf' (DenL.eraseIdx k hd'))⟩;obtain⟨R3,s3,o3⟩:=R2.mut e1 hs ha' ow;refine q y F1 _ ((Step.of p1.ext).trans (zau.refl ρ σ H) s3) (zau.trans (Step.of p1.ext) (zau.refl ρ σ H) o3) R3 ?_;have:=DenL.rew (o:=.lst (xs'.eraseIdx k)) ha' nf' (DenL.cons y2 DenL.nil);simp only[DenL]at this;obtain⟨v',r',e',g1,_⟩:=this;cases e';exact g1
theorem zoA (i:Nat)(he:PuE X e te)(hN:autoParam (X.N[i]? = some x) aU0)(hv:autoParam (Vis X.env.scope x) aU4)(hd:autoParam ((x == ("__debug__" : Str))=false) aU1) (hcd:autoParam ((x == ("__classdict__" : Str))=false) aU1)
  (hbase:autoParam (attributeBase (.Name x p) "extend" X.env (eval (.Name x p) X.env)=eval (.Name x p) X.env) aU0)
  (hfew:autoParam (((backTo cpos (starEach [e] X.env)).all (λx=>!x.1)&&(backToKw cpos (keywordEach [] X.env)).all (λx=>x.1.isSome)&&decide ([e].length+([]:List Keyword).length+(if ([]:List Keyword).isEmpty then 0 else 1)<30))=true) aU0)
  (hline:autoParam ((apos.endLine == cpos.line)=true) aU0) (hs:autoParam (starEach [e] X.env=(false,eval e X.env)::starEach [] X.env) aU0) (hplain:autoParam ((backTo cpos (starEach [] X.env)).any (·.1)=false) aU0):PuM X (.Call (.Attribute (.Name x p) "extend" apos) [e] [] cpos) (zdz i te) where
 mono ρ Q Q' m h:=by
  obtain⟨ds,e1,h⟩:=h;exact⟨ds,e1,he.mono ρ _ _ (λd _ q85q=>by obtain⟨es,q1,q2,q⟩:=q85q;exact⟨es,q1,q2,m _ _ q⟩) h⟩
 run:=PE.weak (zlN PySem.F.plainAttrs_list PySem.F.slot_list_extend PySem.F.type_list_extend zqn (zdm hN hv hd hcd) (zca he.run zcF hs) hbase hfew hline hs hplain) λσ H Q h=>by
  obtain⟨ρ,Fz,R,ds,e1,h⟩:=h;obtain⟨a,xs,hs,ha,hd,nf⟩:=zcN R e1;refine⟨_,hs,.inl ⟨rfl,xs,SqL.of ha⟩,ρ,Fz,R,he.mono ρ _ _ (λd k q v F1 H1 p1=>?_) h⟩;obtain⟨es,rfl,q2,q⟩:=q;have R2:=R.ext p1.ext;obtain⟨a',xs',hs',ha',hd',nf'⟩:=zcN R2 e1;rw[hs]at hs';cases hs';obtain⟨b,zs,rfl,hb,hz⟩:=zba (p1.root R);have hl:=hd'.length;have hl2:=hz.length;refine⟨a,b,xs',zs,rfl,rfl,ha',hb,by lia,?_⟩;have ow:Own X.K F1 (upd H1 a (.lst (xs'++zs))) (.lst (ds++es)) a:=⟨_,zag,(DenL.rew ha' nf' (hd'.append hz))⟩;obtain⟨R3,s3,o3⟩:=R2.mut e1 hs ha' ow;exact q .non F1 _ ((Step.of p1.ext).trans (zau.refl ρ σ H) s3) (zau.trans (Step.of p1.ext) (zau.refl ρ σ H) o3) R3 (by simp only[Den])
noncomputable def zbN (tm:TPM):TPS:=λρ O=>tm ρ λ_ ρ'=>O.nx ρ'
variable {pos:Pos}
theorem zbq (he:PuM X e tm)(hs:autoParam (swapsWith e none pos.line X.env=pure false) aU0):PuS X (.Expr e pos) (zbN tm) where
 mono ρ O O' m h:=he.mono ρ _ _ (λ_ _ q=>m.nx _ q) h
 run:=PS.weak (zlE he.run hs) λD σ H h=>by
  obtain⟨ρ,Fz,R,h⟩:=h;exact⟨ρ,Fz,R,he.mono ρ _ _ (λd ρ' q v F' H' s' o' R' _=>q σ F' H' s' o' R') h⟩
end
theorem zmw {K:Xb}{Fz:FZ}{H:Hp}{ds:List PV}{xs:List V}{i:Int}{d:PV}(h:DenL K Fz H ds xs)(e:atI ds i=some d):∃v,atI xs i=some v/\Den K Fz H d v:=by
 unfold atI at e ⊢;rw[<- h.length];cases q:ixN ds.length i with
 | none=>rw[q]at e;cases e
 | some j=>
  rw[q]at e;obtain⟨v,h1,h2⟩:=h.get (i:=j) (d:=d) e;exact⟨v,h1,h2⟩
noncomputable def ixV (d e x:PV):Prop:=(∃ds i,(d=.lst ds\/d=.tup ds)/\e=.int i/\atI ds i=some x)\/∃z i c,d=.str z/\e=.int i/\z.length<=sizeLine/\atI z.cps.toList i=some c/\x=.str ⟨#[c]⟩
noncomputable def pIx:P2:=λd e Q=>∃x,ixV d e x/\Q x .frz
theorem ztZ {K:Xb}:POp K (rIx K) pIx where
 mono d e Q Q' m h:=by obtain⟨x,h,q⟩:=h;exact⟨x,h,m _ _ q⟩
 run Fz H x y d e Q al rx ry h:=by
  obtain⟨x',h,q⟩:=h;rcases h with ⟨ds,i,e1,rfl,e3⟩ | ⟨z,i,c,rfl,rfl,e3,e4,rfl⟩
  ·rcases e1 with rfl | rfl
   ·obtain⟨a,xs,rfl,h1,h2⟩:=zan rx;obtain⟨v,g1,g2⟩:=zmw h2 e3;exact .inl ⟨a,xs,i,v,rfl,zaK ry,h1,g1,q v Fz H (.val al g2)⟩
   ·obtain⟨a,xs,rfl,h1,h2⟩:=zba rx;obtain⟨v,g1,g2⟩:=zmw h2 e3;exact .inr (.inl ⟨a,xs,i,v,rfl,zaK ry,h1,g1,q v Fz H (.val al g2)⟩)
  ·exact .inr (.inr ⟨z,i,c,zbB rx,zaK ry,e3,e4,q _ Fz H (.val al (by simp only[Den]))⟩)
section
variable {X:Cx}{a b:Expr}{ta tb:TPE}{pos:Pos}
theorem zax (ha:PuE X a ta)(hb:PuE X b tb)(hs:autoParam (zgD b) aU6):PuE X (.Subscript a b pos) (t2 pIx ta tb):=ztY zrY ztZ ha hb hs
theorem zqv (hu:X.A.units+16<cLine)(ha:PuE X a ta)(hb:PuE X b tb)(hm:autoParam (behindInMarks .Eq b=false) aU5):PuE X (.Compare a [.Eq] [b] pos) (t2 (pEq false) ta tb):=zss (zps hu) zmn ha hb hm
theorem zpu (hu:X.A.units+16<cLine)(ha:PuE X a ta)(hb:PuE X b tb)(hm:autoParam (behindInMarks .Eq b=false) aU5):PuT X (.Compare a [.Eq] [b] pos) (tBl (t2 (pEq false) ta tb)):=zfs (zps hu) zmn ha hb hm
theorem zeL (hu:X.A.units+16<cLine)(ha:PuE X a ta)(hb:PuE X b tb)(hm:autoParam (behindInMarks .NotEq b=false) aU5):PuT X (.Compare a [.NotEq] [b] pos) (tBl (t2 (pEq true) ta tb)):=zfs (zsv hu) zmn ha hb hm
theorem zsE (ha:PuE X a ta)(hb:PuE X b tb)(hm:autoParam (behindInMarks .Gt b=false) aU5):PuT X (.Compare a [.Gt] [b] pos) (tBl (pGt ta tb)):=zfs ztN zoq ha hb hm
end
noncomputable def rInP (K:Xb)(neg:Bool):R2:=λx y H Q=>∃Fz d ds p xs,Root K Fz H d x/\y=.ref p/\(SqL K H p xs\/SqT K H p xs)/\DenL K Fz H ds xs/\plain 6 d=true/\ds.all (plain 6)=true/\Q (.bl (if neg then !decide (d∈ds) else decide (d∈ds))) H
noncomputable def pIn (neg:Bool):P2:=λd e Q=>∃ds,(e=.lst ds\/e=.tup ds)/\plain 6 d=true/\ds.all (plain 6)=true/\Q (.bl (if neg then !decide (d∈ds) else decide (d∈ds))) .frz
theorem zsF {K:Xb}{neg:Bool}:POp K (rInP K neg) (pIn neg) where
 mono d e Q Q' m h:=by obtain⟨ds,e1,e2,e3,q⟩:=h;exact⟨ds,e1,e2,e3,m _ _ q⟩
 run Fz H x y d e Q al rx ry h:=by
  obtain⟨ds,e1,e2,e3,q⟩:=h;rcases e1 with rfl | rfl
  ·obtain⟨a,xs,rfl,h1,h2⟩:=zan ry;exact⟨Fz,d,ds,a,xs,rx,rfl,.inl h1,h2,e2,e3,q _ Fz H (.val al (by simp only[Den]))⟩
  ·obtain⟨a,xs,rfl,h1,h2⟩:=zba ry;exact⟨Fz,d,ds,a,xs,rx,rfl,.inr h1,h2,e2,e3,q _ Fz H (.val al (by simp only[Den]))⟩
noncomputable def dcd (p:Prop):Bool:=@decide p (Classical.propDecidable p)
theorem zjW {p:Prop}(h:p):dcd p=true:=@decide_eq_true p (Classical.propDecidable p) h
theorem zmx {p:Prop}(h:¬ p):dcd p=false:=@decide_eq_false p (Classical.propDecidable p) h
theorem zqw {p:Prop}:dcd p=true↔p:=@decide_eq_true_iff p (Classical.propDecidable p)
section
variable {X:Cx}{pins:List (Addr×Obj)}{σ:St}{H:Hp}{s:Shared}{Fz:FZ}
theorem zeY (I:Inv X pins σ H s){A:Around}(hu:A.units+16<cLine){d:PV}{ds:List PV}{x:V}{xs:List V}{v:Value}{its:List Value}(hx:Root X.K Fz H d x)(rx:RelV x v)(r:Vals xs its)(h:DenL X.K Fz H ds xs)(pd:plain 6 d=true)(ps:ds.all (plain 6)=true) :
  ∃e:Value->Bool,(∀y,y∈its.toArray->SeqAt.EqAt A.in1 s y v (e y))/\its.toArray.any e=decide (d∈ds):=by
 refine⟨λu=>dcd (∃j:Nat,its[j]? = some u/\ds[j]? = some d),λu hu'=>?_,?_⟩
 ·obtain⟨j,hj⟩:=List.mem_iff_getElem?.mp (show u∈its by simpa using hu');have l1:=r.length;have l2:=h.length;have hjl:j<its.length:=(Xe.mp hj).1;have e1:ds[j]? = some ds[j]:=Xa (by omega);obtain⟨y,e2,q2⟩:=h.get e1;obtain⟨u',e3,q3⟩:=r.get e2;rw[hj]at e3;cases e3;have pj:plain 6 ds[j]=true:=XV.mp ps _ (Yr _);have w:dcd (∃j':Nat,its[j']? = some u/\ds[j']? = some d)=decide (ds[j]=d):=by
   by_cases hd:ds[j]=d
   ·rw[decide_eq_true hd,zjW ⟨j,hj,by rw[e1,hd]⟩]
   ·rw[decide_eq_false hd];refine zmx ?_;rintro⟨j',g1,g2⟩;obtain⟨y',e2',q2'⟩:=h.get g2;obtain⟨u',e3',q3'⟩:=r.get e2';rw[g1]at e3';cases e3';have ey:y=y':=q3.inj q3';subst ey;exact hd (zgM I 6 _ _ _ pj pd q2.root q2'.root)
  show SeqAt.EqAt A.in1 s u v (dcd (∃j':Nat,its[j']? = some u/\ds[j']? = some d));rw[w];exact(zqq I 6 A.in1 ds[j] d y x u v pj pd (by show A.units+1+6<cLine;lia) q2.root hx q3 rx).2.2
 ·have l1:=r.length;have l2:=h.length;by_cases hd:d∈ds
  ·rw[decide_eq_true hd];obtain⟨j,hj⟩:=List.mem_iff_getElem?.mp hd;have hjl:j<ds.length:=(Xe.mp hj).1;rw[Array.any_eq_true];refine⟨j,by simpa using (by lia:j<its.length),?_⟩;refine zjW ⟨j,?_,hj⟩;simp
  ·rw[decide_eq_false hd];rw[Array.any_eq_false];intro i hi;intro z;obtain⟨j,g1,g2⟩:=zqw.mp z;exact hd (Xn g2)
theorem zsG (hu:X.A.units+16<cLine):OpR X (compareOp .In) (rInP X.K false):=by
 intro pins s σ H x y v u Q I rx ry h;obtain⟨Fz,d,ds,p,xs,hx,rfl,hq,hd,p1,p2,q⟩:=h;cases ry;rcases hq with hq | hq
 ·obtain⟨its,r,pl,hz⟩:=I.list hq;obtain⟨e,h1,h2⟩:=zeY I hu hx rx r hd p1 p2;exact SeqAt.in_listAt e pl.isList h1 ⟨.bl _,H,I,rfl,by rw[h2];exact q⟩
 ·obtain⟨its,r,pl,hz⟩:=I.tuple hq;obtain⟨e,h1,h2⟩:=zeY I hu hx rx r hd p1 p2;exact SeqAt.in_tupleAt e pl h1 ⟨.bl _,H,I,rfl,by rw[h2];exact q⟩
theorem zmy (hu:X.A.units+16<cLine):OpR X (compareOp .NotIn) (rInP X.K true):=by
 intro pins s σ H x y v u Q I rx ry h;obtain⟨Fz,d,ds,p,xs,hx,rfl,hq,hd,p1,p2,q⟩:=h;cases ry;rcases hq with hq | hq
 ·obtain⟨its,r,pl,hz⟩:=I.list hq;obtain⟨e,h1,h2⟩:=zeY I hu hx rx r hd p1 p2;exact SeqAt.notIn_listAt e pl.isList h1 ⟨.bl _,H,I,rfl,by rw[h2];exact q⟩
 ·obtain⟨its,r,pl,hz⟩:=I.tuple hq;obtain⟨e,h1,h2⟩:=zeY I hu hx rx r hd p1 p2;exact SeqAt.notIn_tupleAt e pl h1 ⟨.bl _,H,I,rfl,by rw[h2];exact q⟩
variable {a b:Expr}{ta tb:TPE}{pos:Pos}
theorem zjX (hu:X.A.units+16<cLine)(ha:PuE X a ta)(hb:PuE X b tb)(hm:autoParam (behindInMarks .In b=false) aU5):PuT X (.Compare a [.In] [b] pos) (tBl (t2 (pIn false) ta tb)):=zfs (zsG hu) zsF ha hb hm
theorem zdV (hu:X.A.units+16<cLine)(ha:PuE X a ta)(hb:PuE X b tb)(hm:autoParam (behindInMarks .NotIn b=false) aU5):PuT X (.Compare a [.NotIn] [b] pos) (tBl (t2 (pIn true) ta tb)):=zfs (zmy hu) zsF ha hb hm
end
theorem zsH:bootBuiltins "list" = some (.type "list"):=by decide +kernel
theorem zpv:bootBuiltins "tuple" = some (.type "tuple"):=by decide +kernel
theorem bSet:bootBuiltins "set" = some (.type "set"):=by decide +kernel
theorem bLen:bootBuiltins "len" = some (.builtin "len"):=by decide +kernel
theorem zgP:bootBuiltins "sorted" = some (.builtin "sorted"):=by decide +kernel
theorem bIsi:bootBuiltins "isinstance" = some (.builtin "isinstance"):=by decide +kernel
theorem bMin:bootBuiltins "min" = some (.builtin "min"):=by decide +kernel
theorem zdo {K:Xb}{Fz:FZ}{H:Hp}{d:PV}{vs:List V}(h:zov K Fz H [d] vs):∃v,vs=[v]/\Root K Fz H d v:=by
 cases h with
 | cons r t=>cases t;exact⟨_,rfl,r⟩
theorem zmz {K:Xb}{Fz:FZ}{H:Hp}{d e:PV}{vs:List V}(h:zov K Fz H [d,e] vs):∃v u,vs=[v,u]/\Root K Fz H d v/\Root K Fz H e u:=by
 cases h with
 | cons r t=>
  cases t with
  | cons r2 t=>cases t;exact⟨_,_,rfl,r,r2⟩
theorem Post.newL {K:Xb}{Fz:FZ}{H:Hp}{p:Addr}{ds:List PV}{xs:List V}(al:∀b,Fz b->H b≠none)(hp:H p=none)(h:DenL K Fz H ds xs):Post K [] [] Fz H Fz (upd H p (.lst xs)) (.lst ds) .new (.ref p):=
 ⟨Ext.laid ⟨Same.refl H,λ_ h=>h,λ_ h=>.inl h,al⟩ hp,p,rfl,hp,λz=>al p z hp,xs,zag,DenL.mono (Keep.of (λb u e=>by rw[zaf (zay e hp)];exact e)) (λ_ h=>h) _ _ h⟩
theorem Post.newT {K:Xb}{Fz:FZ}{H:Hp}{p:Addr}{ds:List PV}{xs:List V}(al:∀b,Fz b->H b≠none)(hp:H p=none)(h:DenL K Fz H ds xs):Post K [] [] Fz H Fz (upd H p (.tup xs)) (.tup ds) .frz (.ref p):=by
 refine⟨Ext.laid ⟨Same.refl H,λ_ h=>h,λ_ h=>.inl h,al⟩ hp,?_⟩;show Den _ _ _ _ _;simp only[Den];exact⟨p,xs,rfl,zag,DenL.mono (Keep.of (λb u e=>by rw[zaf (zay e hp)];exact e)) (λ_ h=>h) _ _ h⟩
noncomputable def LenP:PV->Nat->Prop
 | .str y,n=>y.length<=sizeLine/\n=y.length
 | .lst ds,n=>n=ds.length
 | .tup ds,n=>n=ds.length
 | .dK ks _,n=>n=ks.length
 | _,_=>False
noncomputable def fLen:PF:=λds Q=>∃d n,ds=[d]/\LenP d n/\Q (.int n) .frz
noncomputable def rLen (K:Xb):List V->Hp->VK->Prop:=λxs H Q=>(∃x n,xs=[x]/\LenV K x H n/\Q (.int n) H)\/∃a kvs,xs=[.ref a]/\Rd H a (.dK kvs)/\Q (.int kvs.length) H
theorem zmA {X:Cx}:zcr X (.builtin "len") (rLen X.K):=by
 intro pins s σ H xs us Q I r h;rcases h with h | ⟨a,kvs,rfl,ha,q⟩
 ·exact zoa pins s σ H xs us Q I r h
 ·obtain⟨u,rfl,ru⟩:=vals1 r;cases ru;exact ztU I ha λt s' I'=>⟨.int kvs.length,H,I',⟨t,rfl⟩,q⟩
theorem zsI {K:Xb}:zeq K (rLen K) fLen where
 mono ds Q Q' m h:=by obtain⟨d,n,e1,e2,q⟩:=h;exact⟨d,n,e1,e2,m _ _ q⟩
 run Fz H ds vs Q al r h:=by
  obtain⟨d,n,rfl,e,q⟩:=h;obtain⟨v,rfl,rv⟩:=zdo r;have q':=q (.int n) Fz H (.val al (by simp only[Den]));cases d with
  | str y=>cases zbB rv;exact .inl ⟨_,n,rfl,e,q'⟩
  | lst ds=>obtain⟨a,xs,rfl,h1,h2⟩:=zan rv;exact .inl ⟨_,n,rfl,.inl ⟨xs,h1,by rw[<- h2.length];exact e⟩,q'⟩
  | tup ds=>obtain⟨a,xs,rfl,h1,h2⟩:=zba rv;exact .inl ⟨_,n,rfl,.inr ⟨xs,h1,by rw[<- h2.length];exact e⟩,q'⟩
  | dK ks ds=>
   simp only[Root]at rv;obtain⟨a,xs,rfl,h1,h2,h3⟩:=rv;have e':n=ks.length:=e;refine .inr ⟨a,_,rfl,h1,?_⟩;rw[List.length_zip,<- h2,Nat.min_self,<- e'];exact q'
  | non=>exact e.elim
  | bl b=>exact e.elim
  | int i=>exact e.elim
  | ty n=>exact e.elim
  | dT ks ds=>exact e.elim
noncomputable def zde:PF:=λds Q=>∃es,(ds=[.lst es]\/ds=[.tup es])/\Q (.lst es) .new
noncomputable def zbO:PF:=λds Q=>∃es,(ds=[.lst es]\/ds=[.tup es])/\Q (.tup es) .frz
theorem zqx {K:Xb}:zeq K (zqo K) zde where
 mono ds Q Q' m h:=by obtain⟨es,e,q⟩:=h;exact⟨es,e,m _ _ q⟩
 run Fz H ds vs Q al r h:=by
  obtain⟨es,e,q⟩:=h;rcases e with rfl | rfl
  ·obtain⟨v,rfl,rv⟩:=zdo r;obtain⟨a,xs,rfl,h1,h2⟩:=zan rv;exact⟨a,xs,rfl,.inl h1,λl hl=>q _ Fz _ (.newL al hl h2)⟩
  ·obtain⟨v,rfl,rv⟩:=zdo r;obtain⟨a,xs,rfl,h1,h2⟩:=zba rv;exact⟨a,xs,rfl,.inr h1,λl hl=>q _ Fz _ (.newL al hl h2)⟩
theorem zoB {K:Xb}:zeq K (zso K) zbO where
 mono ds Q Q' m h:=by obtain⟨es,e,q⟩:=h;exact⟨es,e,m _ _ q⟩
 run Fz H ds vs Q al r h:=by
  obtain⟨es,e,q⟩:=h;rcases e with rfl | rfl
  ·obtain⟨v,rfl,rv⟩:=zdo r;obtain⟨a,xs,rfl,h1,h2⟩:=zan rv;exact⟨a,xs,rfl,.inl ⟨h1,λl hl=>q _ Fz _ (.newT al hl h2)⟩⟩
  ·obtain⟨v,rfl,rv⟩:=zdo r;obtain⟨a,xs,rfl,h1,h2⟩:=zdS rv;exact⟨a,xs,rfl,.inr ⟨SqT.of h1,q _ Fz H (.val al (by simp only[Den];exact⟨a,xs,rfl,h1,h2⟩))⟩⟩
theorem zhR {K:Xb}{Fz:FZ}{H:Hp}:∀ {ss:List Str}{xs:List V},DenL K Fz H (ss.map PV.str) xs->xs=ss.map V.str
 | [],xs,h=>by rw[List.map_nil]at h;simp only[DenL]at h;exact h
 | s::r,xs,h=>by
  rw[Xy]at h;simp only[DenL]at h;obtain⟨v,t,z,h1,h2⟩:=h;simp only[Den]at h1;subst z h1;rw[Xy,zhR h2]
theorem zfx {K:Xb}{Fz:FZ}{H:Hp}:∀(ss:List Str),DenL K Fz H (ss.map PV.str) (ss.map V.str)
 | []=>DenL.nil
 | s::r=>by rw[Xy,Xy];exact DenL.cons (by simp only[Den]) (zfx r)
section
variable {X:Cx}{e:Expr}{es:List Expr}{te:TPE}{t:TPA}{p p1 p2 pos pos2:Pos}
theorem zbr (hg:Gl X "len") (hm:X.mg "len" = none) (ha:PuA X (e::es) t) (he:autoParam (starEach (e::es) X.env=(false,eval e X.env)::starEach es X.env) aU0) (hpl:autoParam ((backTo pos (starEach es X.env)).any (·.1)=false) aU0):PuE X (.Call (.Name "len" p) (e::es) [] pos) (tB fLen t):=
 zcn zmA zsI hg hm bLen ha (by decide) (by decide) he hpl
theorem zmB (hg:Gl X "list") (hm:X.mg "list" = none) (ha:PuA X (e::es) t) (he:autoParam (starEach (e::es) X.env=(false,eval e X.env)::starEach es X.env) aU0) (hpl:autoParam ((backTo pos (starEach es X.env)).any (·.1)=false) aU0):PuE X (.Call (.Name "list" p) (e::es) [] pos) (tB zde t):=
 zhM zhx zqx hg hm zsH ha (by decide) (by decide) he hpl
theorem zcB (hg:Gl X "tuple") (hm:X.mg "tuple" = none) (ha:PuA X (e::es) t) (he:autoParam (starEach (e::es) X.env=(false,eval e X.env)::starEach es X.env) aU0) (hpl:autoParam ((backTo pos (starEach es X.env)).any (·.1)=false) aU0):PuE X (.Call (.Name "tuple" p) (e::es) [] pos) (tB zbO t):=
 zhM zgG zoB hg hm zpv ha (by decide) (by decide) he hpl
noncomputable def zaP (te:TPE):TPE:=λρ Q=>te ρ λd _=>∃ss:List Str,d=.lst (ss.map PV.str)/\ss.length<64/\∀zs,zs.Nodup->(∀x,x∈zs↔x∈ss)->sortedS zs=true->Q (.lst (zs.map PV.str)) .new
theorem zgm:∀(ys xs:List Str),xs.Nodup->(ys.foldl _J.addS xs).Nodup
 | [],_,h=>h
 | y::ys,xs,h=>by
  rw[YK];refine zgm ys _ ?_;unfold _J.addS;split
  ·exact h
  ·rename_i hy
   exact Yi.mpr ⟨hy,h⟩
theorem zlh (hc:X.calm=true)(hg:Gl X "sorted") (hm:X.mg "sorted" = none) (hg2:Gl X "set") (hm2:X.mg "set" = none) (he:PuE X e te)
  (hs1:autoParam (starEach [e] X.env=(false,eval e X.env)::starEach [] X.env) aU0) (hpl1:autoParam ((backTo pos2 (starEach [] X.env)).any (·.1)=false) aU0)
  (hs2:autoParam (starEach [Expr.Call (.Name "set" p2) [e] [] pos2] X.env=(false,eval (Expr.Call (.Name "set" p2) [e] [] pos2) X.env)::starEach [] X.env) aU0) (hpl2:autoParam ((backTo pos (starEach [] X.env)).any (·.1)=false) aU0) :
  PuE X (.Call (.Name "sorted" p) [.Call (.Name "set" p2) [e] [] pos2] [] pos) (zaP te) where
 mono ρ Q Q' m h:=he.mono ρ _ _ (λd k q86q=>by obtain⟨ss,e1,e2,q⟩:=q86q;exact⟨ss,e1,e2,λzs h1 h2 h3=>m _ _ (q zs h1 h2 h3)⟩) h
 run:=PE.weak (zeU (zhH hc) hg hm zgP (zca (zfm (zmj hc) hg2 hm2 bSet (zca he.run zcF hs1) (by decide) (by decide) hs1 hpl1) zcF hs2) (by decide) (by decide) hs2 hpl2) λσ H Q h=>by
  obtain⟨ρ,Fz,R,h⟩:=h;refine⟨ρ,Fz,R,he.mono ρ _ _ (λd k q v F1 H1 p1=>?_) h⟩;obtain⟨ss,rfl,e2,q⟩:=q;obtain⟨a,xs,rfl,h1,h2⟩:=zan (p1.root R);have:=zhR h2;subst this;refine⟨a,ss,rfl,h1,by unfold scanBound;lia,λst hst=>?_⟩;have q1:=_J.zfr ss [];simp only[List.length_nil,Nat.zero_add]at q1;refine⟨st,_,rfl,zag,by lia,λl zs hl hz hs=>?_⟩;have hne:l≠st:=λz=>by subst z;rw[zag]at hl;cases hl
  have hl':H1 l=none:=by rw[zaf hne]at hl;exact hl
  have x2:Ext F1 H1 F1 (upd H1 st (SetO X.prog X.w st (ss.foldl _J.addS []))):=Ext.laid ⟨Same.refl _,λ_ h=>h,λ_ h=>.inl h,p1.ext.al⟩ hst;have p3:Post X.K [] [] F1 (upd H1 st (SetO X.prog X.w st (ss.foldl _J.addS []))) F1 (upd (upd H1 st (SetO X.prog X.w st (ss.foldl _J.addS []))) l (.lst (zs.map V.str))) (.lst (zs.map PV.str)) .new (.ref l):=Post.newL x2.al hl (zfx zs);refine q zs (hz.nodup_iff.mpr (zgm ss [] List.nodup_nil)) (λx=>?_) hs _ F1 _ (p3.behind (p1.ext.trans x2));rw[hz.mem_iff,_J.zhE];simp
end
noncomputable def tyP:PV->String
 | .non=>"NoneType"
 | .bl _=>"bool"
 | .int _=>"int"
 | .str _=>"str"
 | .ty _=>"type"
 | .tup _=>"tuple"
 | .lst _=>"list"
 | .dK _ _=>"dict"
 | .dT _ _=>"dict"
theorem zjY {X:Cx}{pins:List (Addr×Obj)}{σ:St}{H:Hp}{s:Shared}{Fz:FZ}{d:PV}{x:V}{u:Value}(I:Inv X pins σ H s)(r:Root X.K Fz H d x)(rx:RelV x u)(hd:∀n,d≠.ty n):∃P:Heap->Prop,PySem.W.KitX X.K u (.type (tyP d)) P/\P s.heap/\u≠.builtin "__main__.__loader__#opaque":=by
 cases d with
 | non=>cases zcV r;cases (show u=Value.none from rx);exact⟨_,PySem.W.kitx_none,True.intro,λz=>nomatch z⟩
 | bl y=>cases zjb r;cases (show u=Value.bool y from rx);exact⟨_,PySem.W.kitx_bool,True.intro,λz=>nomatch z⟩
 | int i=>cases zaK r;obtain⟨t,q⟩:=(show ∃t,u=Value.int i t from rx);cases q;exact⟨_,PySem.W.kitx_int,True.intro,λz=>nomatch z⟩
 | str y=>cases zbB r;obtain⟨t,q⟩:=(show ∃t,u=Value.str y t from rx);cases q;exact⟨_,PySem.W.kitx_str,True.intro,λz=>nomatch z⟩
 | ty n=>exact absurd rfl (hd n)
 | lst ds=>
  obtain⟨a,xs,rfl,h1,_⟩:=zan r;cases (show u=Value.ref a from rx);obtain⟨its,_,⟨o,n,e,c,_⟩,_⟩:=I.list h1;exact⟨_,PySem.W.kitx_list,⟨o,e,c⟩,λz=>nomatch z⟩
 | tup ds=>
  obtain⟨a,xs,rfl,h1,_⟩:=zba r;cases (show u=Value.ref a from rx);obtain⟨its,_,⟨o,e,c,_⟩,_⟩:=I.tuple h1;exact⟨_,PySem.W.kitx_tuple,⟨o,e,c⟩,λz=>nomatch z⟩
 | dK ks ds=>
  simp only[Root]at r;obtain⟨a,xs,rfl,h1,_⟩:=r;cases (show u=Value.ref a from rx);obtain⟨_,_,vs,_,o,es,ep,e,ex,_⟩:=zfZ I.hok h1;exact⟨_,PySem.W.kitx_dict,⟨o,e,ex.1⟩,λz=>nomatch z⟩
 | dT ks ds=>
  simp only[Root]at r;obtain⟨a,xs,rfl,h1,_⟩:=r;cases (show u=Value.ref a from rx);obtain⟨_,_,vs,_,o,es,ep,e,ex,_⟩:=zlO I.hok h1;exact⟨_,PySem.W.kitx_dict,⟨o,e,ex.1⟩,λz=>nomatch z⟩
noncomputable def fIsi (K:Xb):PF:=λds Q=>(∃d c,ds=[d,.ty c]/\(∀n,d≠.ty n)/\∃b,PySem.W.kitOne K (.type (tyP d)) (.type c)=some b/\Q (.bl b) .frz)\/
 ∃d es,ds=[d,.tup es]/\(∀n,d≠.ty n)/\∃(cs:List String) (b:Bool),es=cs.map PV.ty/\PySem.W.kitAny K (.type (tyP d)) (cs.map Value.type)=some b/\Q (.bl b) .frz
noncomputable def zsJ (K:Xb):List V->Hp->VK->Prop:=λxs H Q=>∃Fz d x b,Root K Fz H d x/\(∀n,d≠.ty n)/\((∃c,xs=[x,.ty c]/\PySem.W.kitOne K (.type (tyP d)) (.type c)=some b)\/∃(p:Addr)(cs:List String),xs=[x,.ref p]/\SqT K H p (cs.map V.ty)/\PySem.W.kitAny K (.type (tyP d)) (cs.map Value.type)=some b)/\Q (.bl b) H
theorem zmC {X:Cx}:zcr X (.builtin "isinstance") (zsJ X.K):=by
 intro pins s σ H xs us Q I r h;obtain⟨Fz,d,x,b,rt,hd,e,q⟩:=h;rcases e with ⟨c,rfl,e⟩ | ⟨p,cs,rfl,hp,e⟩
 ·obtain⟨u,w',rfl,r1,r2⟩:=vals2 r;cases r2;obtain⟨P,Z,hP,ne⟩:=zjY I rt r1 hd;exact PySem.W.kia_one Z I.kIn hP e ne λtk=>⟨.bl b,H,I.tok tk,rfl,q⟩
 ·obtain⟨u,w',rfl,r1,r2⟩:=vals2 r;cases r2;obtain⟨P,Z,hP,ne⟩:=zjY I rt r1 hd;obtain⟨its,rv,⟨⟨cls,dd,data,sl⟩,ho,hc,n,hdt⟩,hzz⟩:=I.tuple hp;simp only at hc hdt;subst hc hdt;have ei:its=cs.map Value.type:=by
   clear hp ho e hzz;induction cs generalizing its with
   | nil=>cases rv;rfl
   | cons c cs ih=>
    cases rv with
    | cons q1 q2=>rw[show _=Value.type c from q1,ih _ q2];rfl
  subst ei;exact PySem.W.kia_tup Z I.kIn hP ho e ne λtk=>⟨.bl b,H,I.tok tk,rfl,q⟩
theorem zjZ {K:Xb}{Fz:FZ}{H:Hp}:∀ {ss:List String}{xs:List V},DenL K Fz H (ss.map PV.ty) xs->xs=ss.map V.ty
 | [],xs,h=>by rw[List.map_nil]at h;simp only[DenL]at h;exact h
 | s::r,xs,h=>by
  rw[Xy]at h;simp only[DenL]at h;obtain⟨v,t,z,h1,h2⟩:=h;simp only[Den]at h1;subst z h1;rw[Xy,zjZ h2]
theorem zsK {K:Xb}:zeq K (zsJ K) (fIsi K) where
 mono ds Q Q' m h:=by
  rcases h with ⟨d,c,e,hd,b,e2,q⟩ | ⟨d,es,e,hd,cs,b,e2,e3,q⟩
  ·exact .inl ⟨d,c,e,hd,b,e2,m _ _ q⟩
  ·exact .inr ⟨d,es,e,hd,cs,b,e2,e3,m _ _ q⟩
 run Fz H ds vs Q al r h:=by
  rcases h with ⟨d,c,rfl,hd,b,e,q⟩ | ⟨d,es,rfl,hd,cs,b,rfl,e,q⟩
  ·have q':=q (.bl b) Fz H (.val al (by simp only[Den]));obtain⟨v,u,rfl,r1,r2⟩:=zmz r;simp only[Root,Den]at r2;subst r2;exact⟨Fz,d,v,b,r1,hd,.inl ⟨c,rfl,e⟩,q'⟩
  ·have q':=q (.bl b) Fz H (.val al (by simp only[Den]));obtain⟨v,u,rfl,r1,r2⟩:=zmz r;obtain⟨a,xs,rfl,h1,h2⟩:=zba r2;have:=zjZ h2;subst this;exact⟨Fz,d,v,b,r1,hd,.inr ⟨a,cs,rfl,h1,e⟩,q'⟩
section
variable {X:Cx}{e:Expr}{es:List Expr}{te:TPE}{t:TPA}{p p1 p2 pos pos2:Pos}
theorem zpw {K:Xb}(hK:X.K=K)(hg:Gl X "isinstance") (hm:X.mg "isinstance" = none) (ha:PuA X (e::es) t) (he:autoParam (starEach (e::es) X.env=(false,eval e X.env)::starEach es X.env) aU0) (hpl:autoParam ((backTo pos (starEach es X.env)).any (·.1)=false) aU0):PuE X (.Call (.Name "isinstance" p) (e::es) [] pos) (tB (fIsi K) t):=by
 subst hK;exact zcn zmC zsK hg hm bIsi ha (by decide) (by decide) he hpl
end
noncomputable abbrev TPO:=PEnv->(Option Int->Prop)->Prop
noncomputable def zua (K:Xb)(t:TPO):TO:=λσ H Q=>∃ρ Fz,Rel K Fz ρ σ H/\t ρ λo=>∀Fz' H',Ext Fz H Fz' H'->Q o H'
structure PuO (X:Cx)(e:Option Expr)(t:TPO):Prop where
 mono:∀ρ Q Q',(∀o,Q o->Q' o)->t ρ Q->t ρ Q'
 run:PO X e (zua X.K t)
theorem PO.weak {X:Cx}{e:Option Expr}{t t':TO}(h:PO X e t)(w:∀σ H Q,t' σ H Q->t σ H Q):PO X e t':=λpins s σ H Q I q=>h pins s σ H Q I (w σ H Q q)
noncomputable def zdf:TPO:=λ_ Q=>Q none
noncomputable def zdg (te:TPE):TPO:=λρ Q=>te ρ λd _=>∃i,d=.int i/\Q (some i)
theorem zgQ {X:Cx}:PuO X none zdf where
 mono ρ Q Q' m h:=m _ h
 run:=PO.weak zqd λσ H Q h=>by
  obtain⟨ρ,Fz,R,h⟩:=h;exact h Fz H ⟨Same.refl H,λ_ h=>h,λ_ h=>.inl h,R.al⟩
theorem zgR {X:Cx}{e:Expr}{te:TPE}(h:PuE X e te):PuO X (some e) (zdg te) where
 mono ρ Q Q' m q:=h.mono ρ _ _ (λd k q87q=>by obtain⟨i,e,q⟩:=q87q;exact⟨i,e,m _ q⟩) q
 run:=PO.weak (zqe h.run) λσ H Q q=>by
  obtain⟨ρ,Fz,R,q⟩:=q;exact⟨ρ,Fz,R,h.mono ρ _ _ (λd k q88q v F1 H1 p1=>by obtain⟨i,e,q⟩:=q88q;exact⟨i,by subst e;exact zaK (p1.root R),q F1 H1 p1.ext⟩) q⟩
noncomputable def cutP (xs:List PV)(lo hi:Option Int):List PV:=(xs.drop (_H.sIx xs.length 0 lo)).take (_H.sIx xs.length xs.length hi-_H.sIx xs.length 0 lo)
noncomputable def pSlL (te:TPE)(tl th:TPO):TPE:=λρ Q=>te ρ λd _=>tl ρ λl=>th ρ λu=>∃ds,d=.lst ds/\Q (.lst (cutP ds l u)) .new
theorem zqy {K:Xb}{Fz:FZ}{H:Hp}{ds:List PV}{xs:List V}{lo hi:Option Int}(h:DenL K Fz H ds xs):DenL K Fz H (cutP ds lo hi) (cutV xs lo hi):=by
 unfold cutP cutV;rw[h.length];exact(h.drop _).take _
section
variable {X:Cx}{e a b:Expr}{te ta tb:TPE}{lo hi:Option Expr}{tl th:TPO}{pos p2:Pos}
theorem zgS (he:PuE X e te)(hl:PuO X lo tl)(hu:PuO X hi th):PuE X (.Subscript e (.Slice lo hi none p2) pos) (pSlL te tl th) where
 mono ρ Q Q' m h:=he.mono ρ _ _ (λd k h=>hl.mono ρ _ _ (λl h=>hu.mono ρ _ _ (λu q89q=>by obtain⟨ds,e,q⟩:=q89q;exact⟨ds,e,m _ _ q⟩) h) h) h
 run:=PE.weak (zoc zqh he.run hl.run hu.run) λσ H Q h=>by
  obtain⟨ρ,Fz,R,h⟩:=h;refine⟨ρ,Fz,R,he.mono ρ _ _ (λd k q v F1 H1 p1=>?_) h⟩;refine⟨ρ,F1,R.ext p1.ext,hl.mono ρ _ _ (λl q F2 H2 x2=>?_) q⟩;refine⟨ρ,F2,(R.ext p1.ext).ext x2,hu.mono ρ _ _ (λu q3 F3 H3 x3=>?_) q⟩;obtain⟨ds,e3,q4⟩:=q3;subst e3;obtain⟨a,xs,rfl,h1,h2⟩:=zan (((p1.root R).mono x2.same x2.sub).mono x3.same x3.sub);exact⟨a,xs,rfl,h1,λp hp=>q4 _ F3 _ ((Post.newL x3.al hp (zqy h2)).behind (p1.ext.trans (x2.trans x3)))⟩
noncomputable def zsL (K:Xb):R2:=λx y H Q=>∃l b xs zs,x=.ref l/\y=.ref b/\(Rd H l (.lst xs)\/KX K l xs)/\(Rd H b (.lst zs)\/KX K b zs)/\xs.length+zs.length<=sizeLine/\∀p,H p=none->Q (.ref p) (upd H p (.lst (xs++zs)))
theorem zsM {pins:List (Addr×Obj)}{σ:St}{H:Hp}{s:Shared}{l:Addr}{xs:List V}(I:Inv X pins σ H s)(h:Rd H l (.lst xs)\/KX X.K l xs):∃(its:List Value)(n:Nat),Vals xs its/\s.heap.get? l=some { cls:=.type "list",data:=.seq its.toArray n }:=by
 rcases h with h | ⟨its,n,h1,_,h3⟩
 ·obtain⟨z,its,n,r,e⟩:=(show zbi X.prog X.w H s.heap l (.lst xs) from h.ok I.hok);exact⟨its,n,r,e⟩
 ·exact⟨its.toList,n,h3,by rw[Array.toArray_toList];exact I.kIn l _ h1⟩
theorem zqz:OpR X (binaryOp .Add) (zsL X.K):=by
 intro pins s σ H x y v u Q I rx ry h;obtain⟨l,b,xs,zs,rfl,rfl,hH,hB,hz,q⟩:=h;cases rx;cases ry;obtain⟨its,n,r,e⟩:=zsM I hH;obtain⟨its2,n2,r2,e2⟩:=zsM I hB;have l1:=r.length;have l2:=r2.length;refine PySem.P.add_list e e2 ?_ (by rw[Xq,Xq];lia);have ea:its.toArray++its2.toArray=(its++its2).toArray:=by simp
 rw[ea];exact⟨.ref _,_,I.lnew (t':=s.toks) (r.append r2) (by rw[XB];omega),rfl,q _ I.fresh⟩
noncomputable def pCat:P2:=λd e Q=>∃ds es,d=.lst ds/\e=.lst es/\ds.length+es.length<=sizeLine/\Q (.lst (ds++es)) .new
theorem zsN {K:Xb}:POp K (zsL K) pCat where
 mono d e Q Q' m h:=by obtain⟨ds,es,e1,e2,e3,q⟩:=h;exact⟨ds,es,e1,e2,e3,m _ _ q⟩
 run Fz H x y d e Q al rx ry h:=by
  obtain⟨ds,es,rfl,rfl,e3,q⟩:=h;obtain⟨a,xs,rfl,h1,h2⟩:=zhK rx;obtain⟨b,ys,rfl,g1,g2⟩:=zhK ry;have l1:=h2.length;have l2:=g2.length;exact⟨a,b,xs,ys,rfl,rfl,h1,g1,by lia,λp hp=>q _ Fz _ (.newL al hp (h2.append g2))⟩
theorem zsO (ha:PuE X a ta)(hb:PuE X b tb):PuE X (.BinOp a .Add b pos) (t2 pCat ta tb):=zhJ zqz zsN ha hb
end
structure Fx (K:Xb)(mg:Str->Option Value)(x:Str)(st:Stmt)(ps:List Str)(f:Addr)(fd:FuncData):Prop where
 fn:Fun K x x st f fd
 bd:Binds K fd ps []
 mg:mg x=some (.ref f)
structure Bl (mg:Str->Option Value):Prop where
 range:mg "range" = none
 len:mg "len" = none
 list:mg "list" = none
 tuple:mg "tuple" = none
 sorted:mg "sorted" = none
 set:mg "set" = none
 isi:mg "isinstance" = none
 str:mg "str" = none
 int:mg "int" = none
 bool:mg "bool" = none
 dict:mg "dict" = none
 enumerate:mg "enumerate" = none
 zip:mg "zip" = none
 min:mg "min" = none
 max:mg "max" = none
 sum:mg "sum" = none
 all:mg "all" = none
 any:mg "any" = none
 reversed:mg "reversed" = none
 abs:mg "abs" = none
 ord:mg "ord" = none
theorem zka {K:Xb}{T:String}:PySem.W.kitOne K (.type T) (.type T)=some true:=by
 unfold PySem.W.kitOne;rw[if_pos (by simp)]
theorem loc2 {k i j:Nat}(h:i<k)(h2:j<k):zsC k (zbp (zbf i) (zbp (zbf j) zcK)):=λds ρ Q ⟨d,r,e,d2,r2,e2,q⟩=>
 ⟨d,r,e,d2,r2,e2,q.1,q.2,by rw[Yt,Yt],λl hl=>by rw[Xo (by lia),Xo (by lia)]⟩
theorem zmD {P:Program}{w:World}{K:Xb}{mg mb:Str->Option Value}{CX:CXT}{k:Nat}{fa a:Addr}{fd:FuncData}{x:Str}{sp:Sp}{s₁:Shared}{vs:List Value}{ns:List Int}
  (KX:K.In s₁.heap) (hns:s₁.heap.Ns mainGlobals mg) (hb:s₁.heap.Ns builtinsNs mb) (hbb:∀x:Str,x≠"__name__"->mb x=bootBuiltins x) (hlim:s₁.heap.NoLimit) (hg:s₁.gens = #[])
  (ha:s₁.heap.get? a=some { cls:=.type "list",data:=.seq vs.toArray }) (hi:IntsAre vs ns) (hl:ns.length<=sizeLine) (hr:Room k callerA)
  (F:∀base:Heap,K.In base->base.Ns mainGlobals mg->FnOk P w K mg base CX k fa fd [x] sp) (hbind:∀(s:Shared) (u:Value),BindsTo s fd ⟨[u],[]⟩ [(x,u)])
  (hsp:∀H:Hp,Only H->(Rd H a (.lst (ns.map V.int))\/_P.KX K a (ns.map V.int))->sp [.ref a] H (λv _=>v=.bl true) λ_ _ _=>False)
  (hCX:∀H e s',CX [] H s₁ (λ_ _ _=>False) e s'->False) :
  codeAny (model P w) callerA (.call (.ref fa) ⟨[.ref a],[]⟩) (λr s'=>r=.ok (.ret (.bool true))/\OldK s₁.heap s'.heap/\s'.os=s₁.os/\AllBare s'.gens) s₁:=by
 have rv:=zhB hi;have lenV:=hi.length;have core:∀H:Hp,Only H->(Rd H a (.lst (ns.map V.int))\/_P.KX K a (ns.map V.int))->HOk P w H s₁.heap->(∀b,H b≠none->b=a)->(H a≠none->K.lookup a=none)->
   codeAny (model P w) callerA (.call (.ref fa) ⟨[.ref a],[]⟩) (λr s'=>r=.ok (.ret (.bool true))/\OldK s₁.heap s'.heap/\s'.os=s₁.os/\AllBare s'.gens) s₁:=by
  intro H hO hS hok hA hK;have base_of:∀ {b:Addr} {o:Obj},s₁.heap.get? b=some o->H b=none->(hidT s₁.heap H).get? b=some o:=λe n=>znS e n;have noA:∀ {b:Addr} {o:Obj} {es:Array DictEntry} {ep:Nat},s₁.heap.get? b=some o->o.data=.dict es ep->H b=none:=λ{b o es ep} e d=>by
   cases q:H b with
   | none=>rfl
   | some u=>
    have e':b=a:=hA b (by rw[q];simp);subst e';rw[ha]at e;cases e;have d':Data.seq vs.toArray _=Data.dict es ep:=d;cases d'
  have nsK:∀ {b:Addr} {m:Str->Option Value},s₁.heap.Ns b m->(hidT s₁.heap H).Ns b m:=λ{b m} ⟨o,es,ep,e,d,r⟩=>⟨o,es,ep,base_of e (noA e d),d,r⟩;have hKb:K.In (hidT s₁.heap H):=λb o e=>base_of (KX b o e) (by
   cases q:H b with
   | none=>rfl
   | some u=>
    have e':b=a:=hA b (by rw[q];simp);subst e';rw[hK (by rw[q];simp)]at e;cases e)
  have hM:Mod K mg (hidT s₁.heap H):=⟨hKb,nsK hns,⟨mb,nsK hb,hbb⟩,let ⟨mc,h1,h2⟩:=hlim;⟨mc,nsK h1,h2⟩⟩;have e0:Env0 P w K mg (hidT s₁.heap H) callerA [] s₁ H:=⟨rfl,hM,λb o e=>zpQ e,Nat.le_of_eq (zly _ _),trivial,λb hb=>absurd (show b∈([]:List Addr) from hb) (by simp),hok,.of_eq hg⟩;refine codeAny_mono ((F _ hKb (nsK hns)).run callerA [] s₁ H ⟨[.ref a],[]⟩ [.ref a] [.ref a] _ _ hr e0 (hbind s₁ (.ref a)) (.cons rfl .nil) (hsp H hO hS)) λr s' h=>?_;cases r with
  | error e=>exact(hCX H e s' h).elim
  | ok fl=>
   cases fl with
   | next=>exact False.elim h
   | brk=>exact False.elim h
   | cont=>exact False.elim h
   | ret u=>
    obtain⟨v,H',os,bare,un,hok',r',q⟩:=h;have q':v=.bl true:=q;subst q';obtain rfl:u=Value.bool true:=r';refine⟨rfl,OldK.of_keep λb o e=>?_,os,bare⟩;cases q:H b with
    | none=>exact un.keep b o e q (by intro z;exact absurd (show b∈([]:List Addr) from z) (by simp)) (by simp)
    | some u=>
     rcases hO b with z | ⟨ob,xs,z⟩
     ·rw[q]at z;cases z
     ·have z2:=un.frzs b ob _ z;obtain⟨e1,_⟩:=hok b _ z;obtain⟨e2,_⟩:=hok' b _ z2;rw[e]at e1;cases e1;exact e2
 cases hk:K.lookup a with
 | some o=>
  have e:=KX a o hk;rw[ha]at e;cases e;refine core (λ_=>none) (λ_=>.inl rfl) (.inr ⟨vs.toArray,_,hk,by rw[Xq,lenV];exact hl,by simpa using rv⟩) (λb u z=>by have z':(none:Option HO)=some u:=z;cases z') (λb z=>absurd rfl z) λz=>absurd rfl z
 | none=>
  refine core (λb=>if b=a then some (.frz { cls:=.type "list",data:=.seq vs.toArray } (.lst (ns.map V.int))) else none) (λb=>?_) (.inl (.inr ⟨{ cls:=.type "list",data:=.seq vs.toArray },if_pos rfl⟩)) (λb u z=>?_) (λb z=>?_) λ_=>hk
  ·by_cases hb:b=a
   ·exact .inr ⟨_,_,if_pos hb⟩
   ·exact .inl (if_neg hb)
  ·by_cases hb:b=a
   ·have z':=(if_pos hb).symm.trans z;cases z';subst hb;exact⟨ha,by rw[Xc];exact hl,vs,_,rv,ha⟩
   ·have z':=(if_neg hb).symm.trans z;cases z'
  ·by_cases hb:b=a
   ·exact hb
   ·exact absurd (if_neg hb) z
theorem zhS {K:Xb}{Fz:FZ}{H:Hp}:∀(ns:List Int),DenL K Fz H (ns.map PV.int) (ns.map V.int)
 | []=>DenL.nil
 | n::r=>by rw[Xy,Xy];exact DenL.cons (by simp only[Den]) (zhS r)
theorem zsP {K:Xb}{H:Hp}{a:Addr}{ns:List Int}{F:PF}{E:XK}(m:zbE F)(h:Rd H a (.lst (ns.map V.int))\/KX K a (ns.map V.int))(hF:F [.lst (ns.map PV.int)] λd k=>d=.bl true):spP K F [.ref a] H (λv _=>v=.bl true) E:=by
 refine⟨λb=>H b≠none,[.lst (ns.map PV.int)],λb hb=>hb,DenL.cons ?_ DenL.nil,m _ _ _ (λd k e v F' H' p=>?_) hF⟩
 ·simp only[Den];refine⟨a,ns.map V.int,rfl,?_,zhS ns⟩;rcases h with h | h
  ·refine .inl ⟨?_,h⟩;rcases h with h | ⟨o,h⟩<;>(show H a≠none;rw[h];exact λz=>nomatch z)
  ·exact .inr h
 ·subst e;cases k with
  | frz=>have q:Den K F' H' (.bl true) v:=p.opd;simpa only[Den]using q
  | new=>obtain⟨b,_,_,_,o⟩:=p.opd;exact o.elim
  | own i=>obtain⟨z,_⟩:=p.opd;simp at z
theorem zub {l:PySem.W.OpenLaw}{k:Nat}{q:Program}{loose:List Str}{XP:(Str->Option Value)->Heap->Prop}{YP:World->Heap->Prop}{d:DefRec}{K:Params->Xb}{FL:PF}{x:Str}
  (hn:l.most=some 63) (hdf:d.params.defaults=[]) (hr:Room k callerA) (m:zbE FL)
  (hY:∀(w:World) (h:Heap),YP w h->(K w.params).In h)
  (F:∀(w:World) (mg:Str->Option Value) (fa:Addr) (h:Heap),(K w.params).In h->h.Ns mainGlobals mg->mg d.name=some (.ref fa)->
   ∃fd:FuncData,(∀(s:Shared) (u:Value),BindsTo s fd ⟨[u],[]⟩ [(x,u)])/\∀base:Heap,(K w.params).In base->base.Ns mainGlobals mg->FnOk l.prog w (K w.params) mg base CX0 k fa fd [x] (spP (K w.params) FL))
  (hF:∀ns:List Int,ns.length<=63->FL [.lst (ns.map PV.int)] λd k=>d=.bl true) :
  PySem.W.WalkO q loose XP YP l.row.toRowW d [] (λf vs=>PySem.call f vs):=by
 refine _A.ziW hn hdf λw s₀ s₁ mg mb fa o pm cd doc a vs ns G Y ho hd hcd hmg hobj hints hlen hg=>?_;have KX:=hY w _ Y;obtain⟨fd,hb,hFn⟩:=F w mg fa _ KX G.T.g hmg;exact zmD KX G.T.g G.T.b G.T.builtins G.T.nolimit hg hobj hints (Ye hlen (by decide)) hr hFn hb (λH hO hS=>zsP m hS (hF ns hlen)) λH e s' z=>z
end _P
namespace _L
open PySem PySem.Spec PyProof.Rows
noncomputable def zcG (d:Addr)(H:Hp):Hp:=match H d with
 | some (.frz _ u)=>upd H d u
 | _=>H
noncomputable def Sw:HO->Prop
 | .dK _=>True
 | .dT _=>True
 | .frz _ _=>True
 | _=>False
section
variable {X:Cx}{pins:List (Addr×Obj)}{σ:List (Option V)}{H:Hp}{s:Shared}{d:Addr}{u v:HO}
theorem HOk.swap {P:Program}{w:World}{h:Heap}(ok:HOk P w H h)(e:H d=some u)(hu:Sw u)(new:zbi P w (upd H d v) h d v):HOk P w (upd H d v) h:=λb o q=>by
 by_cases hb:b=d
 ·subst hb;rw[zag]at q;cases q;exact new
 ·rw[zaf hb]at q;refine(ok b o q).stay (λc v hc r=>r) (λc r=>?_) λc xs r=>?_
  ·have ne:c≠d:=λz=>by subst z;rw[e]at r;cases r;exact hu
   rw[zaf ne];exact r
  ·have ne:c≠d:=λz=>by subst z;rw[e]at r;cases r;exact hu
   rw[zaf ne];exact r
theorem Inv.swap (I:Inv X pins σ H s)(e:H d=some u)(hu:Sw u)(hf:∀o t,X.H₀ d≠some (.frz o t))(new:zbi X.prog X.w (upd H d v) s.heap d v):Inv X pins σ (upd H d v) s:=by
 have ne:∀b,H b=none->b≠d:=λb n z=>by subst z;rw[e]at n;cases n
 refine⟨I.ok,I.os,I.bare,⟨I.base.keep,I.base.slot,λb o q n hx=>?_,I.base.there,λb xs q=>?_,λb o t q=>?_,λb ps q=>?_⟩,I.loc,I.cell,?_,λx c q=>?_,λp hp=>?_,I.hok.swap e hu new,I.len⟩
 ·have:=I.base.free b o q n hx;rw[zaf (ne b this)];exact this
 ·have:=I.base.tups b xs q;have nb:b≠d:=λz=>by subst z;rw[e]at this;cases this;exact hu
  rw[zaf nb];exact this
 ·have nb:b≠d:=λz=>by subst z;exact hf o t q
  rw[zaf nb];exact I.base.frzs b o t q
 ·obtain⟨more,q'⟩:=I.base.tbls b ps q;have nb:b≠d:=λz=>by subst z;rw[e]at q';cases q';exact hu
  exact⟨more,by rw[zaf nb];exact q'⟩
 ·rw[zaf (ne _ I.free)];exact I.free
 ·rw[zaf (ne _ (I.freeC x c q))];exact I.freeC x c q
 ·obtain⟨p1,p2,p3⟩:=I.pin p hp;exact⟨p1,by rw[zaf (ne _ p2)];exact p2,p3⟩
theorem Inv.zsQ (I:Inv X pins σ H s)(e:H d=some u)(hu:∀o t,u≠.frz o t):∀o t,X.H₀ d≠some (.frz o t):=λo t q=>by
 have:=I.base.frzs d o t q;rw[e]at this;exact hu o t (Option.some.inj this)
theorem Inv.zqA {kvs:List (Key×V)}(I:Inv X pins σ H s)(e:H d=some (.dK kvs)):∃o,s.heap.get? d=some o/\Inv X pins σ (upd H d (.frz o (.dK kvs))) s:=by
 obtain⟨z1,z2,vs,r,o,es,ep,ho,rest⟩:=(show zbi X.prog X.w H s.heap d (.dK kvs) from I.hok d _ e);exact⟨o,ho,I.swap e trivial (I.zsQ e λ_ _ z=>nomatch z) ⟨ho,z1,z2,vs,r,o,es,ep,ho,rest⟩⟩
theorem Inv.thaw (I:Inv X pins σ H s)(hf:∀o t,X.H₀ d≠some (.frz o t)):Inv X pins σ (zcG d H) s:=by
 unfold zcG;split
 ·rename_i o t e
  obtain⟨ho,ot⟩:=(show zbi X.prog X.w H s.heap d (.frz o t) from I.hok d _ e);refine I.swap e trivial hf ?_;refine ot.stay (λc v hc r=>r) (λc r=>?_) λc xs r=>?_
  ·have ne:c≠d:=λz=>by subst z;rw[e]at r;cases r
   rw[zaf ne];exact r
  ·have ne:c≠d:=λz=>by subst z;rw[e]at r;cases r
   rw[zaf ne];exact r
 ·exact I
end
noncomputable def ItK (d:Addr)(o:Obj)(kvs:List (Key×V)):It:=
 ⟨λi H=>H d=some (.frz o (.dK kvs))/\i<kvs.length,λi H x H'=>H'=H/\∃kv,kvs[i]? = some kv/\x=kV kv.1,λi H=>H d=some (.frz o (.dK kvs))/\kvs.length<=i⟩
noncomputable def ItV (d:Addr)(o:Obj)(kvs:List (Key×V)):It:=
 ⟨λi H=>H d=some (.frz o (.dK kvs))/\i<kvs.length,λi H x H'=>H'=H/\∃kv,kvs[i]? = some kv/\x=kv.2,λi H=>H d=some (.frz o (.dK kvs))/\kvs.length<=i⟩
section
variable {P:Program}{w:World}{K:Xb}{tg:Expr}
theorem zpx {kvs:List (Key×V)}{vs:List (Key×Value)}{i:Nat}{kv:Key×V}(r:KV kvs vs)(h:kvs[i]? = some kv):∃u,vs[i]? = some (kv.1,u)/\RelV kv.2 u:=by
 induction r generalizing i with
 | nil=>simp at h
 | @cons p q ps qs h1 h2 ih=>
  cases i with
  | zero=>simp at h;subst h;exact⟨q.2,by simp[h1.1],h1.2⟩
  | succ i=>simpa using ih (by simpa using h)
theorem zqB {k:Key}{u:Value}(h:(zaD P w).is k u=true):RelV (kV k) u:=by
 have h':ziP k u=true:=h;rcases zaF h' with ⟨i,t,rfl,rfl⟩ | ⟨x,t,rfl,rfl⟩
 ·exact⟨t,rfl⟩
 ·exact⟨t,rfl⟩
theorem zkb {X:Cx}{pins:List (Addr×Obj)}{σ:St}{H:Hp}{s:Shared}{d:Addr}{o:Obj}{kvs:List (Key×V)}(I:Inv X pins σ H s)(e:H d=some (.frz o (.dK kvs))):s.heap.get? d=some o/\(d == sysModules)=false/\∃vs ep,KV kvs vs/\s.heap.DictAt (zaD X.prog X.w) d vs ep:=by
 obtain⟨ho,_,hs,vs,r,hd⟩:=(show zbi X.prog X.w H s.heap d (.frz o (.dK kvs)) from I.hok d _ e);obtain⟨ep,hd⟩:=hd.dictAt;exact⟨ho,hs,vs,ep,r,hd⟩
theorem zmE {X:Cx}{pins:List (Addr×Obj)}{σ:St}{H:Hp}{s:Shared}{d:Addr}{o:Obj}{kvs:List (Key×V)}{es:Array DictEntry}{ep:Nat}(I:Inv X pins σ H s)(e:H d=some (.frz o (.dK kvs)))(hd:o.data=.dict es ep):(d == sysModules)=false/\∃vs,KV kvs vs/\s.heap.DictAt (zaD X.prog X.w) d vs ep:=by
 obtain⟨ho,hs,vs,ep',r,o',es',ho',c,hd',rest⟩:=zkb I e;rw[ho]at ho';cases ho';rw[hd]at hd';injection hd' with e1 e2;subst e1 e2;exact⟨hs,vs,r,o,es,ho,c,hd,rest⟩
theorem zmF (d it:Addr)(o:Obj)(kvs:List (Key×V)){es:Array DictEntry}{ep:Nat}(hd:o.data=.dict es ep):Turn P w K tg (ItK d o kvs) [it] it (λi h=>h.IsKeyIter it d i kvs.length ep) where
 mem:=by simp
 obj:=λi h st b hb=>by
  have e:b=it:=by simpa using hb
  subst e;obtain⟨o,e,c,d⟩:=st;exact⟨o,e,λv z=>by rw[d]at z;cases z⟩
 keep:=λi h h' st k=>by
  obtain⟨o,e,r⟩:=st;exact⟨o,k it (by simp) o e,r⟩
 item:=by
  intro X hP hw hK hc i pins s σ H E I hf st hg;subst hP hw hK;obtain⟨hq,hi⟩:=hg;obtain⟨hs,vs,r,hm⟩:=zmE I hq hd;have hl:kvs.length=vs.length:=KV.length r;obtain⟨u,hu,ru⟩:=zpx r (Xa hi);obtain⟨f0,f1,f2,f3,f4,f5⟩:=hf it (by simp);rw[hl]at st;refine wpAny_pyNext_dict_item st hm hu λkey h' hk st' sb=>?_;have I1:Inv X pins σ H { s with heap:=h' }:=I.turned (t':=s.toks) (λb o hb e=>(sb.2 b hb).trans e) f0 f1 f3 f4 f5;obtain⟨o,e,c,d⟩:=id st';exact⟨key,rfl,znW (s:={ s with heap:=h' }) e c d (by decide) ⟨kV kvs[i].1,H,I1,zqB hk,⟨rfl,kvs[i],Xa hi,rfl⟩,by rw[hl];exact st',λb hb=>(hf b hb).1⟩⟩
 done:=by
  intro X hP hw hK hc i pins s σ H E I hf st hg;subst hP hw hK;obtain⟨hq,hi⟩:=hg;obtain⟨hs,vs,r,hm⟩:=zmE I hq hd;have hl:kvs.length=vs.length:=KV.length r;obtain⟨f0,f1,f2,f3,f4,f5⟩:=hf it (by simp);rw[hl]at st;exact wpAny_pyNext_dict_end (I.ok.hd hc) st hm (XG (by lia)) λh' eb=>⟨rfl,I.turned (t':=s.toks) (λb o hb e=>eb b o hb e) f0 f1 f3 f4 f5⟩
 self:=λ_ _ _ _ _ st h=>wpAny_pyIter_keyiter st h
end
section
variable {X:Cx}{tg l:Expr}{td:TE}{apos cpos:Pos}
noncomputable def zli (X:Cx)(d:Addr):Prop:=∀o t,X.H₀ d≠some (.frz o t)
noncomputable def iD (X:Cx)(It':Addr->Obj->List (Key×V)->It)(td:TE):TI:=λσ H R=>td σ H λx H1=>∃d kvs,x=.ref d/\((H1 d=some (.dK kvs)/\(zli X d->∀o,R (It' d o kvs) (upd H1 d (.frz o (.dK kvs)))))\/∃o,H1 d=some (.frz o (.dK kvs))/\R (It' d o kvs) H1)
theorem zsR {It':Addr->Obj->List (Key×V)->It}{pins:List (Addr×Obj)}{σ:St}{H1:Hp}{s:Shared}{R:It->Hp->Prop}{d:Addr}{kvs:List (Key×V)}(I:Inv X pins σ H1 s)(h:(H1 d=some (.dK kvs)/\(zli X d->∀o,R (It' d o kvs) (upd H1 d (.frz o (.dK kvs)))))\/∃o,H1 d=some (.frz o (.dK kvs))/\R (It' d o kvs) H1) :
  ∃(o:Obj) (es:Array DictEntry) (ep:Nat) (H2:Hp),o.data=.dict es ep/\Inv X pins σ H2 s/\H2 d=some (.frz o (.dK kvs))/\R (It' d o kvs) H2:=by
 have dat:∀ {H2:Hp} {o:Obj},Inv X pins σ H2 s->H2 d=some (.frz o (.dK kvs))->∃es ep,o.data=.dict es ep:=λ{H2 o} I2 e=>by
  obtain⟨ho,_,vs,ep,_,o',es,ho',_,hd',_⟩:=zkb I2 e;rw[ho]at ho';cases ho';exact⟨es,ep,hd'⟩
 rcases h with ⟨e,h⟩ | ⟨o,e,h⟩
 ·obtain⟨o,ho,I2⟩:=I.zqA e;obtain⟨es,ep,q⟩:=dat I2 zag;exact⟨o,es,ep,_,q,I2,zag,h (I.zsQ e λ_ _ z=>nomatch z) o⟩
 ·obtain⟨es,ep,q⟩:=dat I e;exact⟨o,es,ep,H1,q,I,e,h⟩
theorem zqC (hl:PE X l td):PI X tg l (iD X ItK td):=by
 intro pins s σ H R I h;refine thn (hl pins s σ H _ I h) λv s1 q91q=>?_;obtain⟨x,H1,I1,r1,q1⟩:=q91q;obtain⟨d,kvs,e,q1⟩:=q1;subst e;cases r1;obtain⟨o,es,ep,H2,hd,I2,e2,q2⟩:=zsR I1 q1;obtain⟨hs,vs,r,hm⟩:=zmE I2 e2 hd;have hl:kvs.length=vs.length:=KV.length r;refine wpAny_pyIter_dict hs hm ?_;refine⟨s1.heap.objs.size,[s1.heap.objs.size],_,_,H2,rfl,I2.kept (t':=s1.toks) λb o e=>Xh _ e,zmF d _ o kvs hd,⟨_,XC _ rfl,rfl,by rw[hl];rfl⟩,λb hb=>?_,q2⟩;have e:b=s1.heap.objs.size:=by simpa using hb
 subst e;exact I2.fpOk (Xf _) (I2.hok.fresh (Xf _))
noncomputable def zkc (X:Cx)(D:Ends):Ends:=⟨λσ H=>D.nx σ H\/∃d,zli X d/\D.nx σ (zcG d H),λv H=>D.rt v H\/∃d,zli X d/\D.rt v (zcG d H),λσ H=>D.bk σ H\/∃d,zli X d/\D.bk σ (zcG d H),λσ H=>D.ct σ H\/∃d,zli X d/\D.ct σ (zcG d H)⟩
theorem PS.star {X:Cx}{st:Stmt}{t:TS}(h:PS X st t):PS X st (λD σ H=>t (zkc X D) σ H):=by
 intro pins s σ H D I q;refine thn (h pins s σ H (zkc X D) I q) λf s1 q1=>?_;cases f with
 | next=>
  obtain⟨σ',H',I',q' | ⟨d,hf,q'⟩⟩:=q1
  ·exact⟨σ',H',I',q'⟩
  ·exact⟨σ',_,I'.thaw hf,q'⟩
 | brk=>
  obtain⟨σ',H',I',q' | ⟨d,hf,q'⟩⟩:=q1
  ·exact⟨σ',H',I',q'⟩
  ·exact⟨σ',_,I'.thaw hf,q'⟩
 | cont=>
  obtain⟨σ',H',I',q' | ⟨d,hf,q'⟩⟩:=q1
  ·exact⟨σ',H',I',q'⟩
  ·exact⟨σ',_,I'.thaw hf,q'⟩
 | ret u=>
  obtain⟨v,σ',H',I',r',q' | ⟨d,hf,q'⟩⟩:=q1
  ·exact⟨v,σ',H',I',r',q'⟩
  ·exact⟨v,σ',_,I'.thaw hf,r',q'⟩
end
end _L
namespace _P
open PySem PySem.Spec _L
open PyProof.Rows hiding St
noncomputable def keyP:Key->PV
 | .inl i=>.int i
 | .inr x=>.str x
theorem zqD {K:Xb}{Fz:FZ}{H:Hp}(k:Key):Den K Fz H (keyP k) (kV k):=by
 cases k<;>simp only[keyP,kV,Den]
theorem zip_get {ks:List Key}{xs:List V}{i:Nat}{kv:Key×V}(h:(ks.zip xs)[i]? = some kv):ks[i]? = some kv.1/\xs[i]? = some kv.2:=by
 rw[List.getElem?_zip_eq_some]at h;exact h
section
variable {K:Xb}{Fz F':FZ}{ρ:PEnv}{σ:St}{H H1 H':Hp}{d:Addr}{o:Obj}{kvs:List (Key×V)}
theorem zfy (e:H1 d=some (.dK kvs)):Keep Fz H1 (upd H1 d (.frz o (.dK kvs))) where
 rd' b u pl f r:=by
  by_cases hb:b=d
  ·subst hb;rcases r with r | ⟨o',r⟩
   ·rw[e]at r;cases r;exact .inr ⟨o,zag⟩
   ·rw[e]at r;cases r
  ·rcases r with r | ⟨o',r⟩
   ·exact .inl (by rw[zaf hb];exact r)
   ·exact .inr ⟨o',by rw[zaf hb];exact r⟩
 tup b xs r:=by
  have hb:b≠d:=λz=>by subst z;rw[e]at r;cases r
  rw[zaf hb];exact r
theorem zes {u:HO}(e:H' d=some (.frz o u)):zcG d H'=upd H' d u:=by unfold zcG;rw[e]
theorem zhT (e:H' d=some (.frz o (.dK kvs))):Keep F' H' (zcG d H') where
 rd' b u pl f r:=by
  rw[zes e];by_cases hb:b=d
  ·subst hb;rcases r with r | ⟨o',r⟩
   ·rw[e]at r;cases r;exact pl.elim
   ·rw[e]at r;cases r;exact .inl zag
  ·rcases r with r | ⟨o',r⟩
   ·exact .inl (by rw[zaf hb];exact r)
   ·exact .inr ⟨o',by rw[zaf hb];exact r⟩
 tup b xs r:=by
  rw[zes e];have hb:b≠d:=λz=>by subst z;rw[e]at r;cases r
  rw[zaf hb];exact r
theorem Rel.keep (R:Rel K Fz ρ σ H)(kp:Keep Fz H H')(ha:∀b,Fz b->H' b≠none)(ho:∀a w,¬ Fz a->H a=some w->H' a=some w):Rel K Fz ρ σ H':=
 ⟨ha,R.len,λi d e=>by
  obtain⟨v,q1,q2⟩:=R.frz i d e;exact⟨v,q1,Den.mono kp (λ_ h=>h) _ _ q2⟩,λi d e=>by
  obtain⟨a,q1,q2,q3⟩:=R.own i d e;exact⟨a,q1,q2,q3.mono kp (λ_ h=>h) λw hw=>ho a w q2 hw⟩,R.inj⟩
theorem Rel.freeze (R:Rel K Fz ρ σ H1)(f:Fz d)(e:H1 d=some (.dK kvs)):Rel K Fz ρ σ (upd H1 d (.frz o (.dK kvs))):=
 R.keep (zfy e) (λb hb=>by
  by_cases z:b=d
  ·subst z;rw[zag];exact λz=>nomatch z
  ·rw[zaf z];exact R.al b hb) λa w na hw=>by
  have:a≠d:=λz=>by subst z;exact na f
  rw[zaf this];exact hw
theorem Rel.thaw (R:Rel K F' ρ σ H')(f:F' d)(e:H' d=some (.frz o (.dK kvs))):Rel K F' ρ σ (zcG d H'):=by
 have kp:=zhT (F':=F') e;rw[zes e]at kp ⊢;exact R.keep kp (λb hb=>by
  by_cases z:b=d
  ·subst z;rw[zag];exact λz=>nomatch z
  ·rw[zaf z];exact R.al b hb) λa w na hw=>by
  have:a≠d:=λz=>by subst z;exact na f
  rw[zaf this];exact hw
theorem Step.thaw (s:Step ρ σ Fz (upd H1 d (.frz o (.dK kvs))) F' H')(e:H1 d=some (.dK kvs))(no:¬ zaI ρ σ d):Step ρ σ Fz H1 F' (zcG d H'):=by
 have e':H' d=some (.frz o (.dK kvs)):=s.keep d _ zag no;rw[zes e'];refine⟨s.sub,λb hb=>?_,λb w hw n=>?_⟩
 ·rcases s.new b hb with z | z | z
  ·exact .inl z
  ·by_cases hbd:b=d
   ·subst hbd;rw[zag]at z;cases z
   ·rw[zaf hbd]at z;exact .inr (.inl z)
  ·exact .inr (.inr z)
 ·by_cases hbd:b=d
  ·subst hbd;rw[e]at hw;cases hw;exact zag
  ·rw[zaf hbd];exact s.keep b w (by rw[zaf hbd];exact hw) n
end
noncomputable def zmG (V2:Bool):List Key->List PV->List PV:=λks ds=>if V2 then ds else ks.map keyP
noncomputable def iDic (V2:Bool)(te:TPE):TPI:=λρ Q=>te ρ λd k=>∃ks ds,d=.dK ks ds/\Q (zmG V2 ks ds) (isOwn k)
noncomputable def ItX (V2:Bool):Addr->Obj->List (Key×V)->It:=if V2 then ItV else ItK
theorem zhU {K:Xb}{Fz:FZ}{V2:Bool}{d:Addr}{o:Obj}{ks:List Key}{ds:List PV}{xs:List V}{H:Hp}(hl:ks.length=xs.length)(f:Fz d)(e:H d=some (.frz o (.dK (ks.zip xs))))(hd:DenL K Fz H ds xs)(ow:Bool)
  (hst:∀H2,(Same H H2\/(ow=false/\ziY Fz H H2))->H2 d=some (.frz o (.dK (ks.zip xs)))/\Keep Fz H H2):Walk K Fz ow (ItX V2 d o (ks.zip xs)) (zmG V2 ks ds) H:=λH2 hH i=>by
 obtain⟨e2,kp⟩:=hst H2 hH;have g3:DenL K Fz H2 ds xs:=DenL.mono kp (λ_ h=>h) _ _ hd;have hlen:=g3.length;have zl:(ks.zip xs).length=xs.length:=by rw[List.length_zip];lia
 cases V2 with
 | true=>
  refine⟨λc hc=>?_,λhi=>⟨e2,by rw[zl];have:ds.length<=i:=hi;lia⟩⟩;have hc':ds[i]? = some c:=hc;obtain⟨v,q1,q2⟩:=g3.get hc';have hi:i<xs.length:=(Xe.mp q1).1;refine⟨⟨e2,by lia⟩,λx H3 q92q=>?_⟩;obtain⟨e3,kv,y1,y2⟩:=q92q;subst e3;have:=(zip_get y1).2;rw[q1]at this;cases this;subst y2;exact⟨Same.refl _,q2⟩
 | false=>
  refine⟨λc hc=>?_,λhi=>⟨e2,by rw[zl];have:(ks.map keyP).length<=i:=hi;rw[Xc]at this;lia⟩⟩;have hc':(ks.map keyP)[i]? = some c:=hc;rw[Xd]at hc';cases hk:ks[i]? with
  | none=>rw[hk]at hc';cases hc'
  | some k=>
   rw[hk]at hc';cases hc';have hi:i<ks.length:=(Xe.mp hk).1;refine⟨⟨e2,by lia⟩,λx H3 q93q=>?_⟩;obtain⟨e3,kv,y1,y2⟩:=q93q;subst e3;have:=(zip_get y1).1;rw[hk]at this;cases this;subst y2;exact⟨Same.refl _,zqD _⟩
structure PuID (X:Cx)(tg iter:Expr)(V2:Bool)(te:TPE):Prop where
 mono:∀ρ Q Q',(∀d k,Q d k->Q' d k)->te ρ Q->te ρ Q'
 run:PI X tg iter (iD X (ItX V2) (lift X.K te))
theorem zmH {X:Cx}{tg e:Expr}{te:TPE}(he:PuE X e te):PuID X tg e false te:=⟨he.mono,zqC he.run⟩
theorem zmI {X:Cx}{tg iter:Expr}{V2:Bool}{te:TPE}(h:PuID X tg iter V2 te):∀ρ Q Q',(∀its o,Q its o->Q' its o)->iDic V2 te ρ Q->iDic V2 te ρ Q':=λρ Q Q' m q=>h.mono ρ _ _ (λd k q94q=>by obtain⟨ks,ds,e,q⟩:=q94q;exact⟨ks,ds,e,m _ _ q⟩) q
section
variable {X:Cx}{tg iter:Expr}{body:List Stmt}{V2:Bool}{te:TPE}{g:TPG}{tb:TPS}{pos:Pos}
theorem zoC (hc:X.calm=true)(hp:PassesOwn (model X.prog X.w) X.A X.env X.xe)(hi:PuID X tg iter V2 te)(hg:PuG X tg g)(hb:PuSs X body tb)(hs:autoParam (∀x,foldedSetIterable iter X.env x=pure x) aU3):PuS X (.For tg iter body [] pos) (pFor (iDic V2 te) g tb) where
 mono:=zhO (zmI hi) hg.mono hb.mono
 run:=PS.weak (zlI hp hc hi.run hg.run hb.run hs).star λD σ H h=>by
  obtain⟨ρ,Fz,R,h⟩:=h;refine⟨ρ,Fz,R,hi.mono ρ _ _ (λd k q v Fz1 H1 p=>?_) h⟩;obtain⟨ks,ds,rfl,ho,Iv,h0,hstep,hdone⟩:=q;have hk:k=.frz\/k=.new:=by
   cases k with
   | frz=>exact .inl rfl
   | new=>exact .inr rfl
   | own j=>cases ho
  obtain⟨F2,x2,s2,dn⟩:=p.frozen hk;simp only[Den]at dn;obtain⟨a,xs,rfl,fa,hr,hl,hd⟩:=dn;have R2:=R.ext x2;have no:¬ zaI ρ σ a:=λ⟨i,e,h1,h2⟩=>by
   obtain⟨b,q1,q2,_⟩:=R2.own i e h1;rw[h2]at q1;cases q1;exact q2 fa
  refine⟨a,ks.zip xs,rfl,?_⟩;rcases hr with hr | ⟨o,hr⟩
  ·refine .inl ⟨hr,λnf o=>?_⟩;have kf:=zfy (Fz:=F2) (o:=o) hr;have R3:Rel X.K F2 ρ σ (upd H1 a (.frz o (.dK (ks.zip xs)))):=R2.freeze fa hr;refine zgO hg.mono hb.mono R3 (zhU hl fa zag (DenL.mono kf (λ_ h=>h) _ _ hd) false λH2 hH=>?_) Iv h0 hstep ?_ hdone
   ·rcases hH with hH | ⟨_,hH⟩
    ·exact⟨hH _ _ zag,.of hH⟩
    ·exact⟨hH _ _ zag (.inr trivial),.mk' hH⟩
   ·have tr:∀ {F' H'},Step ρ σ F2 (upd H1 a (.frz o (.dK (ks.zip xs)))) F' H'->H' a=some (.frz o (.dK (ks.zip xs)))/\F' a/\Step ρ σ Fz H F' (zcG a H'):=λ{F' H'} s'=>
     ⟨s'.keep _ _ zag no,s'.sub _ fa,(Step.of x2).trans (zau.refl ρ σ H) (s'.thaw hr no)⟩
    have ow:∀ {ρ' σ'},zau ρ σ (upd H1 a (.frz o (.dK (ks.zip xs)))) ρ' σ'->zau ρ σ H ρ' σ':=λ{ρ' σ'} o' b hb=>by
     rcases o' b hb with z | z
     ·exact .inl z
     ·by_cases hba:b=a
      ·subst hba;rw[zag]at z;cases z
      ·rw[zaf hba]at z;exact .inr (x2.same.free z)
    refine⟨λρ' q σ' F' H' s' o' R'=>?_,λe ke q v F' H' s' al' r'=>?_,λρ' q σ' F' H' s' o' R'=>?_,λρ' q σ' F' H' s' o' R'=>?_⟩
    ·obtain⟨t1,t2,t3⟩:=tr s';exact .inr ⟨a,nf,q σ' F' _ t3 (ow o') (R'.thaw t2 t1)⟩
    ·obtain⟨t1,t2,t3⟩:=tr s';have kp:=zhT (F':=F') t1;refine .inr ⟨a,nf,q v F' _ t3 (λb hb=>?_) ?_⟩
     ·rw[zes t1];by_cases hba:b=a
      ·subst hba;rw[zag];exact λz=>nomatch z
      ·rw[zaf hba];exact al' b hb
     ·cases ke with
      | frz=>exact Den.mono kp (λ_ h=>h) _ _ r'
      | own j=>exact r'
      | new=>
       obtain⟨c,e,nfc,oc,w⟩:=r';have hca:c≠a:=λz=>by subst z;exact nfc t2
       refine⟨c,e,nfc,oc.mono kp (λ_ h=>h) (λw hw=>by rw[zes t1,zaf hca];exact hw),?_⟩;rcases w with w | w
       ·exact .inl w
       ·rw[zaf hca]at w;exact .inr (x2.same.free w)
    ·obtain⟨t1,t2,t3⟩:=tr s';exact .inr ⟨a,nf,q σ' F' _ t3 (ow o') (R'.thaw t2 t1)⟩
    ·obtain⟨t1,t2,t3⟩:=tr s';exact .inr ⟨a,nf,q σ' F' _ t3 (ow o') (R'.thaw t2 t1)⟩
  ·refine .inr ⟨o,hr,zgO hg.mono hb.mono R2 (zhU hl fa hr hd false λH2 hH=>?_) Iv h0 hstep ?_ hdone⟩
   ·rcases hH with hH | ⟨_,hH⟩
    ·exact⟨hH _ _ hr,.of hH⟩
    ·exact⟨hH _ _ hr (.inr trivial),.mk' hH⟩
   ·have le:=zcu (K:=X.K) (D:=D) (Step.of x2) (zau.refl ρ σ H);exact⟨λρ' q σ' F' H' s' o' R'=>.inl (le.nx ρ' q σ' F' H' s' o' R'),λe ke q v F' H' s' al' r'=>.inl (le.rt e ke q v F' H' s' al' r'),λρ' q σ' F' H' s' o' R'=>.inl (le.bk ρ' q σ' F' H' s' o' R'),λρ' q σ' F' H' s' o' R'=>.inl (le.ct ρ' q σ' F' H' s' o' R')⟩
end
noncomputable def dgP {κ:Type} [DecidableEq κ] (ks:List κ)(ds:List PV)(k:κ):Option PV:=((ks.zip ds).find? λkv=>decide (kv.1=k)).map (·.2)
section
variable {K:Xb}{Fz:FZ}{H:Hp}
theorem zhV {κ:Type} [DecidableEq κ]:∀(ks:List κ)(ds:List PV)(xs:List V)(k:κ),DenL K Fz H ds xs->(∀d,dgP ks ds k=some d->∃v,valV (ks.zip xs) k=some v/\Den K Fz H d v)/\(dgP ks ds k=none->valV (ks.zip xs) k=none)
 | [],ds,xs,k,h=>⟨λd e=>by simp[dgP]at e,λ_=>rfl⟩
 | c::ks,[],xs,k,h=>by
  simp only[DenL]at h;subst h;exact⟨λd e=>by simp[dgP]at e,λ_=>rfl⟩
 | c::ks,d0::ds,xs,k,h=>by
  simp only[DenL]at h;obtain⟨v,r,rfl,h1,h2⟩:=h;have ih:=zhV ks ds r k h2;by_cases e:c=k
  ·subst e;refine⟨λd hd=>⟨v,by simp[valV],?_⟩,λhn=>?_⟩
   ·have:d0=d:=by simpa[dgP]using hd
    subst this;exact h1
   ·simp[dgP]at hn
  ·refine⟨λd hd=>?_,λhn=>?_⟩
   ·have:dgP ks ds k=some d:=by simpa[dgP,Ys,e]using hd
    obtain⟨w,q1,q2⟩:=ih.1 d this;exact⟨w,by simpa[valV,Ys,e]using q1,q2⟩
   ·have:dgP ks ds k=none:=by simpa[dgP,Ys,e]using hn
    have:=ih.2 this;simpa[valV,Ys,e]using this
theorem zeZ {k:Key}{x:V}(h:Root K Fz H (keyP k) x):x=kV k:=by
 cases k<;>simpa only[keyP,kV,Root,Den]using h
theorem zqE {ks:List Key}{ds:List PV}{x:V}(h:Root K Fz H (.dK ks ds) x):∃a xs,x=.ref a/\Rd H a (.dK (ks.zip xs))/\ks.length=xs.length/\DenL K Fz H ds xs:=by
 simpa only[Root]using h
noncomputable def rDI (neg:Bool):R2:=λy x H Q=>∃a o,x=.ref a/\DGet H a y o/\Q (.bl (if neg then !o.isSome else o.isSome)) H
noncomputable def pDI (neg:Bool):P2:=λe d Q=>∃ks ds k,d=.dK ks ds/\e=keyP k/\Q (.bl (if neg then !(dgP ks ds k).isSome else(dgP ks ds k).isSome)) .frz
theorem zsS {neg:Bool}:POp K (rDI neg) (pDI neg) where
 mono d e Q Q' m h:=by obtain⟨ks,ds,k,e1,e2,q⟩:=h;exact⟨ks,ds,k,e1,e2,m _ _ q⟩
 run Fz H x y d e Q al rx ry h:=by
  obtain⟨ks,ds,k,rfl,rfl,q⟩:=h;obtain⟨a,xs,rfl,r,hl,hd⟩:=zqE ry;obtain rfl:=zeZ rx;have e4:(valV (ks.zip xs) k).isSome=(dgP ks ds k).isSome:=by
   cases e:dgP ks ds k with
   | none=>rw[(zhV ks ds xs k hd).2 e];rfl
   | some d'=>obtain⟨v,e5,_⟩:=(zhV ks ds xs k hd).1 d' e;rw[e5];rfl
  refine⟨a,valV (ks.zip xs) k,rfl,.inl ⟨_,k,r,rfl,rfl⟩,?_⟩;rw[e4];exact q _ Fz H (.val al (by simp only[Den]))
end
noncomputable def zdh:PF:=λds Q=>∃i j:Int,ds=[.int i,.int j]/\Q (.int (if j<i then j else i)) .frz
theorem zqF {K:Xb}:zeq K (λxs H Q=>∃i j,xs=[V.int i,.int j]/\Q (.int (if j<i then j else i)) H) zdh where
 mono ds Q Q' m h:=by obtain⟨i,j,e,q⟩:=h;exact⟨i,j,e,m _ _ q⟩
 run Fz H ds vs Q al hr h:=by
  obtain⟨i,j,rfl,q⟩:=h;obtain⟨u,v,rfl,h1,h2⟩:=zmz hr;exact⟨i,j,by rw[zaK h1,zaK h2],q _ Fz H (.val al (by simp only[Den]))⟩
section
variable {X:Cx}{e:Expr}{es:List Expr}{t:TPA}{p pos:Pos}
theorem zqG (hc:X.calm=true)(hg:Gl X "min") (hm:X.mg "min" = none) (ha:PuA X (e::es) t) (he:autoParam (starEach (e::es) X.env=(false,eval e X.env)::starEach es X.env) aU0) (hpl:autoParam ((backTo pos (starEach es X.env)).any (·.1)=false) aU0):PuE X (.Call (.Name "min" p) (e::es) [] pos) (tB zdh t):=
 zcn (zlJ hc) zqF hg hm bMin ha (by decide) (by decide) he hpl
end
theorem DenL.rew' {K:Xb}{Fz:FZ}{H:Hp}{ds:List PV}{xs:List V}{a:Addr}{o u:HO}(ha:H a=some u)(hi:¬ Imm u)(nf:¬ Fz a)(h:DenL K Fz H ds xs):DenL K Fz (upd H a o) ds xs:=
 DenL.mono (.mk' λb w e hw=>by
  have ne:b≠a:=λz=>by
   subst z;rcases hw with hw | hw
   ·exact nf hw
   ·rw[ha]at e;cases e;exact hi hw
  rw[zaf ne];exact e) (λ_ h=>h) _ _ h
theorem zmJ {K:Xb}{Fz:FZ}{ρ:PEnv}{σ:St}{H:Hp}{i:Nat}{ks:List Key}{ds:List PV}(R:Rel K Fz ρ σ H)(h:ρ[i]? = some (some (.dK ks ds,true))):∃a xs,σ[i]? = some (some (.ref a))/\H a=some (.dK (ks.zip xs))/\ks.length=xs.length/\DenL K Fz H ds xs/\¬ Fz a:=by
 obtain⟨a,e,nf,xs,h1,h2,h3⟩:=R.own i _ h;exact⟨a,xs,e,h1,h2,h3,nf⟩
theorem zgT {k:Kd}(hk:isOwn k=false):k=.frz\/k=.new:=by
 cases k with
 | frz=>exact .inl rfl
 | new=>exact .inr rfl
 | own j=>cases hk
noncomputable def putD (ks:List Key)(ds:List PV)(k:Key)(d:PV):List PV:=(ks.zip ds).map λkv=>if kv.1=k then d else kv.2
theorem zmK {ks:List Key}{xs:List V}{k:Key}{v:V}:(ks.zip xs).map (λkv=>if kv.1=k then(kv.1,v) else kv)=ks.zip ((ks.zip xs).map λkv=>if kv.1=k then v else kv.2):=by
 induction ks generalizing xs with
 | nil=>rfl
 | cons c ks ih=>
  cases xs with
  | nil=>rfl
  | cons x xs=>
   simp only[List.zip_cons_cons,Xy,ih];by_cases e:c=k<;>simp[e]
theorem zjg {K:Xb}{Fz:FZ}{H:Hp}(k:Key){d:PV}{v:V}(hd:Den K Fz H d v):∀(ks:List Key)(ds:List PV)(xs:List V),DenL K Fz H ds xs->DenL K Fz H (putD ks ds k d) ((ks.zip xs).map λkv=>if kv.1=k then v else kv.2)
 | [],ds,xs,h=>DenL.nil
 | c::ks,[],xs,h=>by simp only[DenL]at h;subst h;exact DenL.nil
 | c::ks,d0::ds,xs,h=>by
  simp only[DenL]at h;obtain⟨w,r,rfl,h1,h2⟩:=h;have ih:=zjg k hd ks ds r h2;simp only[putD,List.zip_cons_cons,Xy]at ih ⊢;by_cases e:c=k
  ·rw[if_pos e,if_pos e];exact DenL.cons hd ih
  ·rw[if_neg e,if_neg e];exact DenL.cons h1 ih
noncomputable def hasK (ks:List Key)(c:Key):Bool:=ks.any λc'=>decide (c'=c)
noncomputable def zcd (i:Nat)(ti tv:TPE):TPS:=λρ O=>tv ρ λd k=>isOwn k=false/\∃ks ds,ρ[i]? = some (some (.dK ks ds,true))/\ks.length<sizeLine/\ti ρ λe _=>∃c:Key,e=keyP c/\
 O.nx (ρ.set i (some (if hasK ks c=true then .dK ks (putD ks ds c d) else .dK (ks++[c]) (ds++[d]),true)))
theorem zmL {ks:List Key}{xs:List V}{c:Key}(h:ks.length=xs.length):((ks.zip xs).any λkv=>decide (kv.1=c))=hasK ks c:=by
 unfold hasK;induction ks generalizing xs with
 | nil=>simp
 | cons d ks ih=>
  cases xs with
  | nil=>simp at h
  | cons x xs=>
   simp only[List.zip_cons_cons,List.any_cons,ih (by simpa using h)]
section
variable {X:Cx}{x:Str}{ei ev:Expr}{ti tv:TPE}{p pos pos' apos cpos:Pos}
theorem zmM (i:Nat)(hu:X.A.units+1<cLine)(hi:PuE X ei ti)(hv:PuE X ev tv)(hN:autoParam (X.N[i]? = some x) aU0)(hvs:autoParam (Vis X.env.scope x) aU4)(hd:autoParam ((x == ("__debug__" : Str))=false) aU1) (hcd:autoParam ((x == ("__classdict__" : Str))=false) aU1)
  (hs:autoParam (swapsWith ev (some (.Subscript (.Name x p) ei pos')) pos.line X.env=pure false) aU0):PuS X (.Assign [.Subscript (.Name x p) ei pos'] ev pos) (zcd i ti tv) where
 mono ρ O O' m h:=hv.mono ρ _ _ (λd k q96q=>by obtain⟨hk,ks,ds,e1,e2,h⟩:=q96q;exact⟨hk,ks,ds,e1,e2,hi.mono ρ _ _ (λe _ q97q=>by obtain⟨c,q1,q⟩:=q97q;exact⟨c,q1,m.nx _ q⟩) h⟩) h
 run:=PS.weak (zlQ hu (zdm hN hvs hd hcd) hi.run hv.run hs) λD σ H h=>by
  obtain⟨ρ,Fz,R,h⟩:=h;refine⟨ρ,Fz,R,hv.mono ρ _ _ (λd k q v F1 H1 p1=>?_) h⟩;obtain⟨hk,ks,ds,e1,e2,q⟩:=q;obtain⟨F2,x2,s2,d2⟩:=p1.frozen (zgT hk);have R2:=R.ext x2;obtain⟨a,xs,hs,ha,_,hd,nf⟩:=zmJ R2 e1;refine⟨_,hs,ρ,F2,R2,hi.mono ρ _ _ (λe ke q u F3 H3 p3=>?_) q⟩;obtain⟨c,rfl,q⟩:=q;have R3:=R2.ext p3.ext;obtain⟨a',xs',hs',ha',hl',hd',nf'⟩:=zmJ R3 e1;rw[hs]at hs';cases hs';obtain rfl:=zeZ (p3.root R2);refine⟨a,_,rfl,DPut.k ha' (by rw[List.length_zip];lia),?_⟩;have d3:=Den.mono (.of p3.ext.same) p3.ext.sub _ _ d2;have x3:=x2.trans p3.ext;have ow:Own X.K F3 (upd H3 a (.dK (putK (ks.zip xs') c v))) (if hasK ks c=true then .dK ks (putD ks ds c d) else .dK (ks++[c]) (ds++[d])) a:=by
   unfold putK;rw[zmL hl'];by_cases hc:hasK ks c=true
   ·rw[if_pos hc,if_pos hc,zmK];exact⟨_,zag,by simp[hl'],DenL.rew' ha' (λz=>z) nf' (zjg c d3 ks ds xs' hd')⟩
   ·rw[if_neg hc,if_neg hc];refine⟨xs'++[v],?_,by simp[hl'],DenL.rew' ha' (λz=>z) nf' (DenL.snoc hd' d3)⟩;rw[zag,List.zip_append hl'];rfl
  obtain⟨R4,s4,o4⟩:=R3.mut e1 hs ha' ow;exact q σ F3 _ ((Step.of x3).trans (zau.refl ρ σ H) s4) (zau.trans (Step.of x3) (zau.refl ρ σ H) o4) R4
end
theorem bAll:bootBuiltins "all" = some (.builtin "all"):=by decide +kernel
section
variable {X:Cx}
theorem zmN (hc:X.calm=true):zcr X (.builtin "all") (λxs H Q=>∃(p:Addr) (bs:List Bool),xs=[V.ref p]/\SqL X.K H p (bs.map V.bl)/\Q (.bl (bs.all id)) H):=by
 intro pins s σ H xs us Q I r h;obtain⟨p,bs,rfl,hq,q⟩:=h;obtain⟨u,rfl,rx⟩:=vals1 r;cases rx;obtain⟨its,r',pl,hz⟩:=I.list hq;have hL:=pl.isList;have hpl:p<s.heap.objs.size:=by obtain⟨_,x,_⟩:=hL;exact XA x
 have hlen:its.length=bs.length:=by rw[<- r'.length];simp
 refine call_all_walk (wpAny_pyIter_list hL ?_);refine⟨_,[_,p],[_],_,_,_,λi=>bs.getD i true,rfl,Walks.list (A:=X.A.in1) (I.ok.hd hc) _ p (XJ hpl) its.toArray,⟨⟨_,XC _ rfl,rfl,rfl⟩,hL.push _⟩,?_,λh' tk hk=>?_⟩
 ·intro i v s' Q' E' hP hQ;have hv:its[i]? = some v:=by simpa using hP
  have hi:i<bs.length:=by rw[<- hlen];exact(Xe.mp hv).1
  obtain⟨v',hv',rv⟩:=r'.get (i:=i) (x:=.bl bs[i]) (by simp[hi]);rw[hv]at hv';cases hv';cases rv;refine wpAny_truthy_bool ?_;have:bs.getD i true=bs[i]:=by rw[Xk,Xa hi];rfl
  rw[<- this];exact hQ
 ·refine⟨.bl (bs.all id),H,I.kept (t':=tk) (λb o x=>hk b o ?_ (Xh _ x)),?_,q⟩
  ·have:=XA x;simp;exact XJ this
  ·have:(XZ its.toArray.size).all (λi=>bs.getD i true)=bs.all id:=by
    rw[Xq,hlen];rw[Bool.eq_iff_iff,XV,XV];constructor
    ·intro h x hx;obtain⟨i,hi,e⟩:=List.getElem_of_mem hx;have:=h i (Yp.mpr hi);rw[Xk,Xa hi]at this;simpa[<- e]using this
    ·intro h i hi;have hi:=Yp.mp hi;rw[Xk,Xa hi];simpa using h _ (Yr hi)
   show RelV _ _;rw[this];rfl
theorem zkd {K:Xb}{Fz:FZ}{H:Hp}:∀ {bs:List Bool}{xs:List V},DenL K Fz H (bs.map PV.bl) xs->xs=bs.map V.bl
 | [],xs,h=>by simpa only[XT,DenL]using h
 | b::bs,xs,h=>by
  simp only[XT,DenL,Den]at h;obtain⟨v,r,rfl,rfl,h⟩:=h;rw[zkd h];rfl
noncomputable def fAll:PF:=λds Q=>∃bs:List Bool,ds=[.lst (bs.map PV.bl)]/\Q (.bl (bs.all id)) .frz
theorem zsT:zeq X.K (λxs H Q=>∃(p:Addr)(bs:List Bool),xs=[V.ref p]/\SqL X.K H p (bs.map V.bl)/\Q (.bl (bs.all id)) H) fAll where
 mono ds Q Q' m h:=by obtain⟨bs,e,q⟩:=h;exact⟨bs,e,m _ _ q⟩
 run Fz H ds vs Q al hr h:=by
  obtain⟨bs,rfl,q⟩:=h;obtain⟨v,rfl,h1⟩:=zdo hr;obtain⟨a,xs,rfl,h2,h3⟩:=zan h1;rw[zkd h3]at h2;exact⟨a,bs,rfl,h2,q _ Fz H (.val al (by simp only[Den]))⟩
variable {e:Expr}{es:List Expr}{t:TPA}{p pos:Pos}
theorem zsU (hc:X.calm=true)(hg:Gl X "all") (hm:X.mg "all" = none) (ha:PuA X (e::es) t) (he:autoParam (starEach (e::es) X.env=(false,eval e X.env)::starEach es X.env) aU0) (hpl:autoParam ((backTo pos (starEach es X.env)).any (·.1)=false) aU0):PuE X (.Call (.Name "all" p) (e::es) [] pos) (tB fAll t):=
 zcn (zmN hc) zsT hg hm bAll ha (by decide) (by decide) he hpl
end
theorem hu1 {A:Around}(h:A.units+16<cLine):A.units+1<cLine:=by lia
noncomputable abbrev PFM:=PV->List PV->(PV->PV->Prop)->Prop
structure FOut where
 nx:PEnv->Prop
 rt:PEnv->Prop
structure FOut.le (O O':FOut):Prop where
 nx:∀ρ,O.nx ρ->O'.nx ρ
 rt:∀ρ,O.rt ρ->O'.rt ρ
noncomputable abbrev TPF:=PEnv->FOut->Prop
inductive BX where
 | L (ds:List PV)
 | K (ks:List Key) (ds:List PV)
 | T (ks:List (List Key)) (ds:List PV)
noncomputable def BX.cts:BX->List PV
 | .L ds=>ds
 | .K _ ds=>ds
 | .T _ ds=>ds
noncomputable def BX.pv:BX->PV
 | .L ds=>.lst ds
 | .K ks ds=>.dK ks ds
 | .T ks ds=>.dT ks ds
noncomputable def BX.ok:BX->Prop
 | .L _=>True
 | .K ks ds=>ks.length=ds.length
 | .T ks ds=>ks.length=ds.length
noncomputable def BX.obj:BX->List Addr->HO
 | .L _,bs=>.lst (bs.map V.ref)
 | .K ks _,bs=>.dK (ks.zip (bs.map V.ref))
 | .T ks _,bs=>.dT (ks.zip (bs.map V.ref))
noncomputable def OwnL (K:Xb)(Fz:FZ)(H:Hp):List PV->List Addr->Prop
 | [],bs=>bs=[]
 | d::ds,bs=>∃b r,bs=b::r/\Own K Fz H d b/\OwnL K Fz H ds r
theorem OwnL.length {K:Xb}{Fz:FZ}{H:Hp}:∀ {ds:List PV}{bs:List Addr},OwnL K Fz H ds bs->ds.length=bs.length
 | [],bs,h=>by unfold OwnL at h;subst h;rfl
 | d::ds,bs,h=>by
  unfold OwnL at h;obtain⟨b,r,rfl,_,h⟩:=h;simp[OwnL.length h]
theorem OwnL.mono {K:Xb}{Fz Fz':FZ}{H H':Hp}(k:Keep Fz H H')(s:∀b,Fz b->Fz' b):∀ {ds:List PV}{bs:List Addr},(∀b∈bs,∀o,H b=some o->H' b=some o)->OwnL K Fz H ds bs->OwnL K Fz' H' ds bs
 | [],bs,ha,h=>by unfold OwnL at h ⊢;exact h
 | d::ds,bs,ha,h=>by
  unfold OwnL at h ⊢;obtain⟨b,r,rfl,h1,h⟩:=h;exact⟨b,r,rfl,h1.mono k s (ha b (Xj ..)),OwnL.mono k s (λc hc=>ha c (Xg _ hc)) h⟩
theorem OwnL.get {K:Xb}{Fz:FZ}{H:Hp}:∀ {ds:List PV}{bs:List Addr}{j:Nat}{d:PV},OwnL K Fz H ds bs->ds[j]? = some d->∃b,bs[j]? = some b/\Own K Fz H d b
 | [],bs,j,d,h,e=>by simp at e
 | d0::ds,bs,j,d,h,e=>by
  unfold OwnL at h;obtain⟨b,r,rfl,h1,h⟩:=h;cases j with
  | zero=>rw[List.getElem?_cons_zero]at e;cases e;exact⟨b,rfl,h1⟩
  | succ j=>rw[List.getElem?_cons_succ]at e ⊢;exact OwnL.get h e
theorem OwnL.has {K:Xb}{Fz:FZ}{H:Hp}:∀ {ds:List PV}{bs:List Addr}{b:Addr},OwnL K Fz H ds bs->b∈bs->∃o,H b=some o/\¬ Imm o
 | [],bs,b,h,e=>by unfold OwnL at h;subst h;cases e
 | d::ds,bs,b,h,e=>by
  unfold OwnL at h;obtain⟨b0,r,rfl,h1,h⟩:=h;rcases Xx.mp e with rfl | e
  ·exact h1.at
  ·exact OwnL.has h e
theorem OwnL.den {K:Xb}{Fz:FZ}{H:Hp}:∀ {ds:List PV}{bs:List Addr},OwnL K Fz H ds bs->(∀b∈bs,Fz b)->DenL K Fz H ds (bs.map V.ref)
 | [],bs,h,_=>by unfold OwnL at h;subst h;exact DenL.nil
 | d::ds,bs,h,f=>by
  unfold OwnL at h;obtain⟨b,r,rfl,h1,h⟩:=h;exact DenL.cons (h1.den (f b (Xj ..))) (OwnL.den h λc hc=>f c (Xg _ hc))
theorem OwnL.put {K:Xb}{Fz:FZ}{H:Hp}{o u:HO}{b:Addr}{d:PV}(hu:H b=some u)(im:¬ Imm u)(nf:¬ Fz b)(hb:Own K Fz (upd H b o) d b):∀ {ds:List PV}{bs:List Addr}{j:Nat},OwnL K Fz H ds bs->bs.Nodup->bs[j]? = some b->OwnL K Fz (upd H b o) (ds.set j d) bs
 | [],bs,j,h,_,e=>by unfold OwnL at h;subst h;simp at e
 | d0::ds,bs,j,h,nd,e=>by
  have kp:Keep Fz H (upd H b o):=.mk' λc w e9 hw=>by
   have ne:c≠b:=λz=>by
    subst z;rcases hw with hw | hw
    ·exact nf hw
    ·rw[hu]at e9;cases e9;exact im hw
   rw[zaf ne];exact e9
  unfold OwnL at h;obtain⟨b0,r,rfl,h1,h⟩:=h;rw[Yi]at nd;cases j with
  | zero=>
   rw[List.getElem?_cons_zero]at e;cases e;rw[List.set_cons_zero];unfold OwnL;refine⟨b,r,rfl,hb,h.mono kp (λ_ h=>h) λc hc w hw=>?_⟩;have ne:c≠b:=λz=>nd.1 (by rw[<- z];exact hc);rw[zaf ne];exact hw
  | succ j=>
   rw[List.getElem?_cons_succ]at e;rw[List.set_cons_succ];have ne:b0≠b:=λz=>nd.1 (z▸Xn e);unfold OwnL;exact⟨b0,r,rfl,h1.mono kp (λ_ h=>h) λw hw=>(by rw[zaf ne];exact hw),OwnL.put hu im nf hb h nd.2 e⟩
theorem OwnL.snoc {K:Xb}{Fz:FZ}{H:Hp}{d:PV}{b:Addr}(hb:Own K Fz H d b):∀ {ds:List PV}{bs:List Addr},OwnL K Fz H ds bs->OwnL K Fz H (ds++[d]) (bs++[b])
 | [],bs,h=>by
  unfold OwnL at h;subst h;show OwnL K Fz H [d] [b];unfold OwnL;exact⟨b,[],rfl,hb,by unfold OwnL;rfl⟩
 | d0::ds,bs,h=>by
  unfold OwnL at h;obtain⟨b0,r,rfl,h1,h⟩:=h;show OwnL K Fz H (d0::(ds++[d])) (b0::(r++[b]));unfold OwnL;exact⟨b0,_,rfl,h1,OwnL.snoc hb h⟩
structure Box (K:Xb)(Fz:FZ)(H:Hp)(β:BX)(a:Addr)(bs:List Addr):Prop where
 at_:H a=some (β.obj bs)
 ok:β.ok
 own:OwnL K Fz H β.cts bs
 nd:(a::bs).Nodup
 nf:∀b∈a::bs,¬ Fz b
theorem BX.nim (β:BX)(bs:List Addr):¬ Imm (β.obj bs):=by cases β<;>exact λz=>z
theorem Box.has {K:Xb}{Fz:FZ}{H:Hp}{β:BX}{a:Addr}{bs:List Addr}(B:Box K Fz H β a bs){b:Addr}(h:b∈a::bs):∃o,H b=some o/\¬ Imm o:=by
 rcases Xx.mp h with rfl | h
 ·exact⟨_,B.at_,β.nim bs⟩
 ·exact B.own.has h
theorem Box.keep {K:Xb}{Fz Fz':FZ}{H H':Hp}{β:BX}{a:Addr}{bs:List Addr}(B:Box K Fz H β a bs)(k:Keep Fz H H')(s:∀b,Fz b->Fz' b)(ha:∀b∈a::bs,∀o,H b=some o->H' b=some o)(nf:∀b∈a::bs,¬ Fz' b):Box K Fz' H' β a bs:=
 ⟨ha a (Xj ..) _ B.at_,B.ok,B.own.mono k s λb hb=>ha b (Xg _ hb),B.nd,nf⟩
theorem Box.ext {K:Xb}{Fz Fz':FZ}{H H':Hp}{β:BX}{a:Addr}{bs:List Addr}(B:Box K Fz H β a bs)(x:Ext Fz H Fz' H'):Box K Fz' H' β a bs:=
 B.keep (.of x.same) x.sub (λb _ o e=>x.same b o e) λb hb z=>by
  obtain⟨o,e,_⟩:=B.has hb;rcases x.new b z with z | z
  ·exact B.nf b hb z
  ·rw[e]at z;cases z
structure RelB (K:Xb)(Fz:FZ)(ρ:PEnv)(β:BX)(σ:St)(H:Hp)(z:Nat)(a:Addr)(bs:List Addr):Prop where
 rel:Rel K Fz ρ σ H
 hz:ρ[z]? = some none
 sz:σ[z]? = some (some (.ref a))
 box:Box K Fz H β a bs
 no:∀b∈a::bs,¬ zaI ρ σ b
theorem RelB.ext {K:Xb}{Fz Fz':FZ}{ρ:PEnv}{β:BX}{σ:St}{H H':Hp}{z:Nat}{a:Addr}{bs:List Addr}(R:RelB K Fz ρ β σ H z a bs)(x:Ext Fz H Fz' H'):RelB K Fz' ρ β σ H' z a bs:=
 ⟨R.rel.ext x,R.hz,R.sz,R.box.ext x,R.no⟩
structure zbs (O:Addr->Prop)(Fz:FZ)(H:Hp)(Fz':FZ)(H':Hp):Prop where
 sub:∀b,Fz b->Fz' b
 new:∀b,Fz' b->Fz b\/H b=none\/O b
 keep:∀b o,H b=some o->¬ O b->H' b=some o
noncomputable def InO (O:Addr->Prop)(H:Hp)(O':Addr->Prop):Prop:=∀b,O' b->O b\/H b=none
theorem zbs.of {O:Addr->Prop}{Fz Fz':FZ}{H H':Hp}(x:Ext Fz H Fz' H'):zbs O Fz H Fz' H':=
 ⟨x.sub,λb h=>(x.new b h).elim .inl (λh=>.inr (.inl h)),λb o e _=>x.same b o e⟩
theorem zbs.none {O:Addr->Prop}{Fz Fz':FZ}{H H':Hp}(s:zbs O Fz H Fz' H'){b:Addr}(h:H' b=Option.none):H b=Option.none\/O b:=by
 by_cases o:O b
 ·exact .inr o
 ·cases e:H b with
  | none=>exact .inl rfl
  | some u=>rw[s.keep b u e o]at h;cases h
theorem zbs.trans {O O':Addr->Prop}{F1 F2 F3:FZ}{H1 H2 H3:Hp}(a:zbs O F1 H1 F2 H2)(oi:InO O H1 O')(b:zbs O' F2 H2 F3 H3):zbs O F1 H1 F3 H3:=
 ⟨λc h=>b.sub c (a.sub c h),λc h=>by
  rcases b.new c h with h | h | h
  ·exact a.new c h
  ·exact .inr (a.none h)
  ·exact .inr ((oi c h).symm),λc o e n=>by
  refine b.keep c o (a.keep c o e n) λz=>?_;rcases oi c z with z | z
  ·exact n z
  ·rw[e]at z;cases z⟩
theorem InO.trans {O O' O'':Addr->Prop}{F1 F2:FZ}{H1 H2:Hp}(a:zbs O F1 H1 F2 H2)(oi:InO O H1 O')(oj:InO O' H2 O''):InO O H1 O'':=λc h=>by
 rcases oj c h with h | h
 ·exact oi c h
 ·exact(a.none h).symm
theorem InO.refl {O:Addr->Prop}{H:Hp}:InO O H O:=λ_ h=>.inl h
noncomputable def OB (ρ:PEnv)(σ:St)(A:List Addr):Addr->Prop:=λb=>zaI ρ σ b\/b∈A
structure BOut where
 nx:PEnv->BX->Prop
 rt:PV->Kd->Prop
 bk:PEnv->BX->Prop
 ct:PEnv->BX->Prop
structure BOut.le (O O':BOut):Prop where
 nx:∀ρ β,O.nx ρ β->O'.nx ρ β
 rt:∀d k,O.rt d k->O'.rt d k
 bk:∀ρ β,O.bk ρ β->O'.bk ρ β
 ct:∀ρ β,O.ct ρ β->O'.ct ρ β
noncomputable abbrev TPB:=PEnv->BX->BOut->Prop
noncomputable def zgb (t:TPB)(O:BOut)(ρ:PEnv)(β:BX):Prop:=t ρ β O
theorem zdW {t:TPB}{O:BOut}{ρ:PEnv}{β:BX}(h:t ρ β O):zgb t O ρ β:=h
noncomputable def RetO (K:Xb)(O:Addr->Prop)(H:Hp)(Fz':FZ)(H':Hp)(d:PV):Kd->V->Prop
 | .frz,v=>Den K Fz' H' d v
 | .new,v=>∃a,v=.ref a/\¬ Fz' a/\Own K Fz' H' d a/\(O a\/H a=none)
 | .own _,_=>False
theorem RetO.back {K:Xb}{O O':Addr->Prop}{F1 F2 Fz':FZ}{H1 H2 H':Hp}{d:PV}{k:Kd}{v:V}(s:zbs O F1 H1 F2 H2)(oi:InO O H1 O')(r:RetO K O' H2 Fz' H' d k v):RetO K O H1 Fz' H' d k v:=by
 cases k with
 | frz=>exact r
 | own i=>exact r
 | new=>
  obtain⟨a,e,nf,o,w⟩:=r;refine⟨a,e,nf,o,?_⟩;rcases w with w | w
  ·exact oi a w
  ·exact(s.none w).symm
noncomputable def goB (K:Xb)(z:Nat)(E:St->Hp->Prop)(O:Addr->Prop)(Fz:FZ)(H:Hp)(ρ':PEnv)(β':BX):Prop:=
 ∀σ' Fz' H' a' bs',zbs O Fz H Fz' H'->InO O H (OB ρ' σ' (a'::bs'))->RelB K Fz' ρ' β' σ' H' z a' bs'->E σ' H'
noncomputable def outB (K:Xb)(z:Nat)(D:Ends)(O:Addr->Prop)(Fz:FZ)(H:Hp):BOut where
 nx:=goB K z D.nx O Fz H
 bk:=goB K z D.bk O Fz H
 ct:=goB K z D.ct O Fz H
 rt:=λd k=>∀v Fz' H',zbs O Fz H Fz' H'->(∀b,Fz' b->H' b≠none)->RetO K O H Fz' H' d k v->D.rt v H'
noncomputable def zqH (K:Xb)(z:Nat)(t:TPB):TS:=λD σ H=>∃ρ Fz β a bs,RelB K Fz ρ β σ H z a bs/\t ρ β (outB K z D (OB ρ σ (a::bs)) Fz H)
structure PuB1 (X:Cx)(z:Nat)(st:Stmt)(t:TPB):Prop where
 mono:∀ρ β O O',BOut.le O O'->t ρ β O->t ρ β O'
 run:PS X st (zqH X.K z t)
structure PuB (X:Cx)(z:Nat)(st:List Stmt)(t:TPB):Prop where
 mono:∀ρ β O O',BOut.le O O'->t ρ β O->t ρ β O'
 run:PSs X st (zqH X.K z t)
theorem zqI {K:Xb}{z:Nat}{D D':Ends}{O O':Addr->Prop}{Fz Fz':FZ}{H H':Hp}(s:zbs O Fz H Fz' H')(oi:InO O H O')(h1:∀σ H,D.nx σ H->D'.nx σ H)(h2:∀v H,D.rt v H->D'.rt v H)(h3:∀σ H,D.bk σ H->D'.bk σ H)(h4:∀σ H,D.ct σ H->D'.ct σ H) :
  (outB K z D O Fz H).le (outB K z D' O' Fz' H') where
 nx ρ2 β2 q σ2 F2 H2 a2 bs2 s2 o2 R2:=h1 _ _ (q σ2 F2 H2 a2 bs2 (s.trans oi s2) (InO.trans s oi o2) R2)
 bk ρ2 β2 q σ2 F2 H2 a2 bs2 s2 o2 R2:=h3 _ _ (q σ2 F2 H2 a2 bs2 (s.trans oi s2) (InO.trans s oi o2) R2)
 ct ρ2 β2 q σ2 F2 H2 a2 bs2 s2 o2 R2:=h4 _ _ (q σ2 F2 H2 a2 bs2 (s.trans oi s2) (InO.trans s oi o2) R2)
 rt d k q v F2 H2 s2 al r:=h2 _ _ (q v F2 H2 (s.trans oi s2) al (r.back s oi))
theorem zfa {K:Xb}{z:Nat}{D:Ends}{O O':Addr->Prop}{Fz Fz':FZ}{H H':Hp}(s:zbs O Fz H Fz' H')(oi:InO O H O'):(outB K z D O Fz H).le (outB K z D O' Fz' H'):=
 zqI s oi (λ_ _ h=>h) (λ_ _ h=>h) (λ_ _ h=>h) (λ_ _ h=>h)
theorem zbs.stay {K:Xb}{O:Addr->Prop}{Fz:FZ}{ρ:PEnv}{σ:St}{H:Hp}(R:Rel K Fz ρ σ H):zbs O Fz H Fz H:=.of ⟨Same.refl H,λ_ h=>h,λ_ h=>.inl h,R.al⟩
theorem RelB.frozen {K:Xb}{Fz:FZ}{ρ:PEnv}{β:BX}{σ:St}{H:Hp}{z:Nat}{a:Addr}{bs:List Addr}(R:RelB K Fz ρ β σ H z a bs):Rel K (λb=>Fz b\/b∈a::bs) (ρ.set z (some (β.pv,false))) σ H:=by
 have hz:z<ρ.length:=(Xe.mp R.hz).1;have hd:Den K (λb=>Fz b\/b∈a::bs) H β.pv (.ref a):=by
  have hl:=R.box.own.length;have hok:=R.box.ok;have ow:=(R.box.own.mono (Fz':=λb=>Fz b\/b∈a::bs) (Keep.of (Same.refl H)) (λ_ h=>.inl h) (λ_ _ _ h=>h)).den λb hb=>.inr (Xg _ hb);have hat:=R.box.at_;cases β with
  | L ds=>show Den _ _ _ (.lst ds) _;simp only[Den];exact⟨a,_,rfl,.inl ⟨.inr (Xj ..),.inl hat⟩,ow⟩
  | K ks ds=>show Den _ _ _ (.dK ks ds) _;simp only[Den];exact⟨a,_,rfl,.inr (Xj ..),.inl hat,by rw[Xc,<- hl];exact hok,ow⟩
  | T ks ds=>show Den _ _ _ (.dT ks ds) _;simp only[Den];exact⟨a,_,rfl,.inr (Xj ..),.inl hat,by rw[Xc,<- hl];exact hok,ow⟩
 refine⟨λb hb=>?_,by rw[Yt];exact R.rel.len,λj e he=>?_,λj e he=>?_,λj k d' e' b h1 h2 h3 h4=>?_⟩
 ·rcases hb with hb | hb
  ·exact R.rel.al b hb
  ·obtain⟨o,e,_⟩:=R.box.has hb;rw[e];exact λz=>nomatch z
 ·by_cases hj:z=j
  ·subst hj;rw[Xs hz]at he;cases he;exact⟨_,R.sz,hd⟩
  ·rw[Xo hj]at he;obtain⟨v,q1,q2⟩:=R.rel.frz j e he;exact⟨v,q1,Den.mono (Keep.of (Same.refl _)) (λ_ h=>.inl h) _ _ q2⟩
 ·have hj:z≠j:=λy=>by
   subst y;rw[Xs hz]at he;cases he
  rw[Xo hj]at he;obtain⟨b,q1,q2,q3⟩:=R.rel.own j e he;refine⟨b,q1,λy=>?_,q3.mono (Keep.of (Same.refl _)) (λ_ h=>.inl h) (λ_ h=>h)⟩;rcases y with y | y
  ·exact q2 y
  ·exact R.no b y ⟨j,e,he,q1⟩
 ·have nj:z≠j:=λy=>by subst y;rw[Xs hz]at h1;cases h1
  have nk:z≠k:=λy=>by subst y;rw[Xs hz]at h2;cases h2
  rw[Xo nj]at h1;rw[Xo nk]at h2;exact R.rel.inj j k d' e' b h1 h2 h3 h4
theorem zgU {ρ:PEnv}{σ:St}{z:Nat}{d:PV}:∀b,zaI (ρ.set z (some (d,false))) σ b->zaI ρ σ b:=λb ⟨j,e,h1,h2⟩=>by
 have nj:z≠j:=λy=>by
  subst y;by_cases hi:z<ρ.length
  ·rw[Xs hi]at h1;cases h1
  ·rw[XX (by lia),XG (by lia)]at h1;cases h1
 rw[Xo nj]at h1;exact⟨j,e,h1,h2⟩
noncomputable def rdE (z:Nat)(te:TPE)(ρ:PEnv)(β:BX)(Q:PV->Prop):Prop:=te (ρ.set z (some (β.pv,false))) λd k=>k=.frz/\zbI d=true/\Q d
noncomputable def rdT (z:Nat)(tc:TPT)(ρ:PEnv)(β:BX)(Q:Bool->Prop):Prop:=tc (ρ.set z (some (β.pv,false))) Q
theorem zgn {X:Cx}{e:Expr}{te:TPE}(he:PuE X e te){Fz:FZ}{ρ:PEnv}{β:BX}{σ:St}{H:Hp}{z:Nat}{a:Addr}{bs:List Addr}(R:RelB X.K Fz ρ β σ H z a bs){Q:PV->Prop}{W:V->Hp->Prop}
  (h:rdE z te ρ β Q) (hw:∀d v H',Q d->zbI d=true->Ext Fz H Fz H'->Den X.K Fz H' d v->W v H'):lift X.K te σ H W:=by
 refine⟨_,_,R.frozen,he.mono _ _ _ (λd k q v Fz' H' p=>?_) h⟩;obtain⟨rfl,nm,q⟩:=q;refine hw d v H' q nm ⟨p.ext.same,λ_ h=>h,λ_ h=>.inl h,λb hb y=>R.rel.al b hb (p.ext.same.free y)⟩ (zfv d v nm p.opd)
theorem zqJ {X:Cx}{c:Expr}{tc:TPT}(hc:PuT X c tc){Fz:FZ}{ρ:PEnv}{β:BX}{σ:St}{H:Hp}{z:Nat}{a:Addr}{bs:List Addr}(R:RelB X.K Fz ρ β σ H z a bs){Q:Bool->Prop}{W:Bool->Hp->Prop}
  (h:rdT z tc ρ β Q) (hw:∀b H',Q b->Ext Fz H Fz H'->W b H'):liftT X.K tc σ H W:=by
 refine⟨_,_,R.frozen,hc.mono _ _ _ (λb q Fz' H' x=>?_) h⟩;exact hw b H' q ⟨x.same,λ_ h=>h,λ_ h=>.inl h,λb hb y=>R.rel.al b hb (x.same.free y)⟩
section
variable {X:Cx}{z:Nat}{st:Stmt}{rest a b body:List Stmt}{t u:TPB}{e c:Expr}{te:TPE}{tc:TPT}{pos pos' p:Pos}{x:Str}
noncomputable def zbP:TPB:=λρ β O=>O.nx ρ β
noncomputable def zdi (t u:TPB):TPB:=λρ β O=>t ρ β { O with nx:=zgb u O }
theorem zgV:PuB X z [] zbP where
 mono ρ β O O' m h:=m.nx _ _ h
 run:=PSs.weak zlC λD σ H h=>by
  obtain⟨ρ,Fz,β,a,bs,R,h⟩:=h;exact h σ Fz H a bs (zbs.stay R.rel) InO.refl R
theorem zfz (h1:PuB1 X z st t):PuB X z [st] t:=⟨h1.mono,zlD h1.run⟩
theorem zcW (h1:PuB1 X z st t)(h2:PuB X z rest u):PuB X z (st::rest) (zdi t u) where
 mono ρ β O O' m h:=h1.mono ρ β { O with nx:=λρ' β'=>u ρ' β' O } _ ⟨λρ' β' q=>h2.mono ρ' β' O O' m q,m.rt,m.bk,m.ct⟩ h
 run:=PSs.weak (zcT h1.run h2.run) λD σ H h=>by
  obtain⟨ρ,Fz,β,a,bs,R,h⟩:=h;refine⟨ρ,Fz,β,a,bs,R,h1.mono ρ β { outB X.K z D (OB ρ σ (a::bs)) Fz H with nx:=λρ' β'=>u ρ' β' (outB X.K z D (OB ρ σ (a::bs)) Fz H) } _ ⟨λρ' β' q=>?_,λ_ _ q=>q,λ_ _ q=>q,λ_ _ q=>q⟩ h⟩;intro σ' Fz' H' a' bs' s oi R';exact⟨ρ',Fz',β',a',bs',R',h2.mono ρ' β' _ _ (zfa s oi) q⟩
noncomputable def bxIf (tc:TPT)(t u:TPB)(z:Nat):TPB:=λρ β O=>rdT z tc ρ β λb=>if b=true then zgb t O ρ β else zgb u O ρ β
theorem zmO (hc:PuT X c tc)(ha:PuB X z a t)(hb:PuB X z b u):PuB1 X z (.If c a b pos) (bxIf tc t u z) where
 mono ρ β O O' m h:=hc.mono _ _ _ (λb q=>by
  cases b with
  | true=>rw[if_pos rfl]at q ⊢;exact ha.mono ρ β _ _ m q
  | false=>rw[if_neg Xw]at q ⊢;exact hb.mono ρ β _ _ m q) h
 run:=PS.weak (zrG hc.run ha.run hb.run) λD σ H h=>by
  obtain⟨ρ,Fz,β,a,bs,R,h⟩:=h;refine zqJ hc R h λb H' q x=>?_;have le:=zfa (K:=X.K) (z:=z) (D:=D) (O:=OB ρ σ (a::bs)) (.of x) InO.refl;cases b with
  | true=>rw[if_pos rfl]at q;exact iteT ⟨ρ,Fz,β,a,bs,R.ext x,ha.mono ρ β _ _ le q⟩
  | false=>rw[if_neg Xw]at q;exact iteF ⟨ρ,Fz,β,a,bs,R.ext x,hb.mono ρ β _ _ le q⟩
noncomputable def zdA (i z:Nat)(te:TPE):TPB:=λρ β O=>rdE z te ρ β λd=>O.nx (ρ.set i (some (d,false))) β
theorem RelB.set {K:Xb}{Fz:FZ}{ρ:PEnv}{β:BX}{σ:St}{H:Hp}{z i:Nat}{a:Addr}{bs:List Addr}{d:PV}{v:V}(R:RelB K Fz ρ β σ H z a bs)(h:Den K Fz H d v)(hi:i≠z):RelB K Fz (ρ.set i (some (d,false))) β (σ.set i (some v)) H z a bs:=
 ⟨R.rel.set h,by rw[Xo hi];exact R.hz,by rw[Xo hi];exact R.sz,R.box,λb hb y=>R.no b hb (zer b y)⟩
theorem OB.set {ρ:PEnv}{σ:St}{i:Nat}{d:PV}{v:V}{A:List Addr}{H:Hp}:InO (OB ρ σ A) H (OB (ρ.set i (some (d,false))) (σ.set i (some v)) A):=λb hb=>by
 rcases hb with hb | hb
 ·exact .inl (.inl (zer b hb))
 ·exact .inl (.inr hb)
theorem zjh {i:Nat}(hN:X.N.Nodup)(hi:X.N[i]? = some x)(hx:Loc X.env.scope x)(he:PuE X e te)(hiz:autoParam (i≠z) aU1)(hs:autoParam (swapsWith e (some (.Name x pos')) pos.line X.env=pure false) aU0)(hf:autoParam (X.fn x=true\/X.env.scope.names.lookup x=some .local) aU2) :
  PuB1 X z (.Assign [.Name x pos'] e pos) (zdA i z te) where
 mono ρ β O O' m h:=he.mono _ _ _ (λd k q99q=>by obtain⟨e1,e2,q⟩:=q99q;exact⟨e1,e2,m.nx _ _ q⟩) h
 run:=PS.weak (zjG hN hi hx he.run hs hf) λD σ H h=>by
  obtain⟨ρ,Fz,β,a,bs,R,h⟩:=h;refine zgn he R h λd v H' q nm x dv=>?_;exact q (σ.set i (some v)) Fz H' a bs (.of x) OB.set ((R.ext x).set dv hiz)
noncomputable def zdB (ti:TPI)(i:Nat)(tb:TPB):TPB:=λρ β O=>ti ρ λits o=>o=false/\∃Iv:Nat->PEnv->BX->Prop,Iv 0 ρ β/\(∀k d ρ' β',its[k]? = some d->Iv k ρ' β'->zgb tb { O with nx:=Iv (k+1),ct:=Iv (k+1),bk:=O.nx } (ρ'.set i (some (d,false))) β')/\∀ρ' β',Iv its.length ρ' β'->O.nx ρ' β'
theorem zji {i:Nat}{iter:Expr}{ti:TPI}(hN:X.N.Nodup)(hi:X.N[i]? = some x)(hx:Loc X.env.scope x)(hc:X.calm=true)(hp:PassesOwn (model X.prog X.w) X.A X.env X.xe)(hit:PuI X (.Name x p) iter ti)(hb:PuB X z body t)(hiz:autoParam (i≠z) aU1)
  (hf:autoParam (X.fn x=true\/X.env.scope.names.lookup x=some .local) aU2) (hs:autoParam (∀x,foldedSetIterable iter X.env x=pure x) aU3):PuB1 X z (.For (.Name x p) iter body [] pos) (zdB ti i t) where
 mono ρ β O O' m h:=hit.mono ρ _ _ (λits o q100q=>by obtain⟨e,I,h0,hs,hd⟩:=q100q;exact⟨e,I,h0,λk d ρ' β' hk hI=>hb.mono _ _ { O with nx:=I (k+1),ct:=I (k+1),bk:=O.nx } _ ⟨λ_ _ q=>q,m.rt,m.nx,λ_ _ q=>q⟩ (hs k d ρ' β' hk hI),λρ' β' hI=>m.nx _ _ (hd ρ' β' hI)⟩) h
 run:=PS.weak (zlI hp hc hit.run (ziS hN hi hx hf) hb.run hs) λD σ H h=>by
  obtain⟨ρ,Fz,β,a,bs,R,h⟩:=h;refine⟨ρ,Fz,R.rel,hit.mono ρ _ _ (λits o q J Fz1 H1 x wk=>?_) h⟩;obtain⟨rfl,Iv,h0,hstep,hdone⟩:=q;have R1:=R.ext x;have le:=zfa (K:=X.K) (z:=z) (D:=D) (O:=OB ρ σ (a::bs)) (.of x) InO.refl;refine⟨λi m σ' H'=>m=its.length-i/\i<=its.length/\∃ρ' F' β' a' bs',RelB X.K F' ρ' β' σ' H' z a' bs'/\Iv i ρ' β'/\zbs (OB ρ σ (a::bs)) Fz1 H1 F' H'/\InO (OB ρ σ (a::bs)) H1 (OB ρ' σ' (a'::bs')),
   ⟨its.length,by lia,XU _,ρ,Fz1,β,a,bs,R1,h0,zbs.stay R1.rel,InO.refl⟩,?_⟩
  rintro k m σ' H' ⟨rfl,hle,ρ',F',β',a',bs',R',hI,s',o'⟩;have kp:ziY Fz1 H1 H':=λb o e w=>by
   refine s'.keep b o e λy=>?_;rcases y with ⟨i,d,h1,h2⟩ | y
   ·obtain⟨a0,q1,q2,q3⟩:=R1.rel.own i d h1;rw[h2]at q1;cases q1;rcases w with w | w
    ·exact q2 w
    ·obtain⟨o',q4,q5⟩:=q3.at;rw[e]at q4;cases q4;exact q5 w
   ·rcases w with w | w
    ·exact R1.box.nf b y w
    ·obtain⟨o',q4,q5⟩:=R1.box.has y;rw[e]at q4;cases q4;exact q5 w
  obtain⟨wgo,wstop⟩:=wk H' (.inr ⟨rfl,kp⟩) k;by_cases hlt:k<its.length
  ·obtain⟨go,yl⟩:=wgo its[k] (Xa hlt);refine .inr ⟨go,λσ2 H2=>∃ρ2 F2 β2 a2 bs2,RelB X.K F2 ρ2 β2 σ2 H2 z a2 bs2/\Iv (k+1) ρ2 β2/\zbs (OB ρ σ (a::bs)) Fz1 H1 F2 H2/\InO (OB ρ σ (a::bs)) H1 (OB ρ2 σ2 (a2::bs2)),λσ2 H2 hN=>⟨its.length-(k+1),by omega,rfl,hlt,hN⟩,λxv H2 y=>?_⟩;obtain⟨sm,dn⟩:=yl xv H2 y;have x2:Ext F' H' F' H2:=⟨sm,λ_ h=>h,λ_ h=>.inl h,λb hb z=>R'.rel.al b hb (sm.free z)⟩;have R2:=(R'.ext x2).set (i:=i) (Den.mono (Keep.of (Same.refl _)) s'.sub _ _ dn) hiz;have so:InO (OB ρ σ (a::bs)) H1 (OB (ρ'.set i (some (its[k],false))) (σ'.set i (some xv)) (a'::bs')):=λb hb=>by
    rcases hb with hb | hb
    ·exact o' b (.inl (zer b hb))
    ·exact o' b (.inr hb)
   have st:zbs (OB ρ σ (a::bs)) Fz1 H1 F' H2:=s'.trans o' (.of x2);refine⟨_,F',β',a',bs',R2,hb.mono _ _ { outB X.K z D (OB ρ σ (a::bs)) Fz H with nx:=Iv (k+1),ct:=Iv (k+1),bk:=(outB X.K z D (OB ρ σ (a::bs)) Fz H).nx } _ ⟨λρ3 β3 q σ3 F3 H3 a3 bs3 s3 o3 R3=>?_,λd k q v F3 H3 s3 al r=>?_,λρ3 β3 q σ3 F3 H3 a3 bs3 s3 o3 R3=>?_,λρ3 β3 q σ3 F3 H3 a3 bs3 s3 o3 R3=>?_⟩ (hstep k its[k] ρ' β' (Xa hlt) hI)⟩
   ·exact⟨ρ3,F3,β3,a3,bs3,R3,q,st.trans so s3,InO.trans st so o3⟩
   ·exact le.rt d k q v F3 H3 (st.trans so s3) al (r.back st so)
   ·exact le.nx ρ3 β3 q σ3 F3 H3 a3 bs3 (st.trans so s3) (InO.trans st so o3) R3
   ·exact⟨ρ3,F3,β3,a3,bs3,R3,q,st.trans so s3,InO.trans st so o3⟩
  ·have e:k=its.length:=by lia
   subst e;exact .inl ⟨wstop (Xf _),le.nx ρ' β' (hdone ρ' β' hI) σ' F' H' a' bs' s' o' R'⟩
noncomputable def zbQ (z:Nat)(t:TPS):TPB:=λρ β O=>Hold t { nx:=λ_=>False,rt:=O.rt,bk:=λ_=>False,ct:=λ_=>False } (ρ.set z (some (β.pv,false)))
theorem zke {t:TPS}(h:PuSs X rest t):PuB X z rest (zbQ z t) where
 mono ρ β O O' m q:=h.mono _ { nx:=λ_=>False,rt:=O.rt,bk:=λ_=>False,ct:=λ_=>False } _ ⟨λ_ q=>q.elim,m.rt,λ_ q=>q.elim,λ_ q=>q.elim⟩ q
 run:=PSs.weak h.run λD σ H q=>by
  obtain⟨ρ,Fz,β,a,bs,R,q⟩:=q;have RF:=R.frozen;refine⟨_,_,RF,h.mono _ { nx:=λ_=>False,rt:=(outB X.K z D (OB ρ σ (a::bs)) Fz H).rt,bk:=λ_=>False,ct:=λ_=>False } _ ⟨λ_ q=>q.elim,λd k q v Fz' H' s al r=>?_,λ_ q=>q.elim,λ_ q=>q.elim⟩ q⟩;refine q v Fz' H' ⟨λb hb=>s.sub b (.inl hb),λb hb=>?_,λb o e n=>s.keep b o e λy=>n (.inl (zgU b y))⟩ al ?_
  ·rcases s.new b hb with (y | y) | y | y
   ·exact .inl y
   ·exact .inr (.inr (.inr y))
   ·exact .inr (.inl y)
   ·exact .inr (.inr (.inl (zgU b y)))
  ·cases k with
   | frz=>exact r
   | own i=>exact r
   | new=>
    obtain⟨a0,e,nf,o,w⟩:=r;refine⟨a0,e,nf,o,?_⟩;rcases w with w | w
    ·exact .inl (.inl (zgU a0 w))
    ·exact .inr w
end
theorem Rel.unset {K:Xb}{Fz:FZ}{ρ:PEnv}{σ:St}{H:Hp}{i:Nat}{v:V}(R:Rel K Fz ρ σ H):Rel K Fz (ρ.set i none) (σ.set i (some v)) H:=by
 have ne:∀(j:Nat) (p:PV×Bool),(ρ.set i none)[j]? = some (some p)->i≠j/\ρ[j]? = some (some p):=λj p h=>by
  have nj:i≠j:=λz=>by
   subst z;by_cases hi:i<ρ.length
   ·rw[Xs hi]at h;cases h
   ·rw[XX (by lia),XG (by lia)]at h;cases h
  rw[Xo nj]at h;exact⟨nj,h⟩
 refine⟨R.al,by rw[Yt,Yt];exact R.len,λj d h=>?_,λj d h=>?_,λj k d e a h1 h2 h3 h4=>?_⟩
 ·obtain⟨nj,h⟩:=ne j _ h;rw[Xo nj];exact R.frz j d h
 ·obtain⟨nj,h⟩:=ne j _ h;rw[Xo nj];exact R.own j d h
 ·obtain⟨nj,h1⟩:=ne j _ h1;obtain⟨nk,h2⟩:=ne k _ h2;rw[Xo nj]at h3;rw[Xo nk]at h4;exact R.inj j k d e a h1 h2 h3 h4
theorem zbG {ρ:PEnv}{σ:St}{i:Nat}{v:V}:∀b,zaI (ρ.set i none) (σ.set i (some v)) b->zaI ρ σ b:=λb ⟨j,e,h1,h2⟩=>by
 have nj:i≠j:=λz=>by
  subst z;by_cases hi:i<ρ.length
  ·rw[Xs hi]at h1;cases h1
  ·rw[XX (by lia),XG (by lia)]at h1;cases h1
 rw[Xo nj]at h1 h2;exact⟨j,e,h1,h2⟩
theorem RelB.put {K:Xb}{Fz:FZ}{ρ:PEnv}{β:BX}{σ:St}{H:Hp}{z:Nat}{a:Addr}{bs:List Addr}{j:Nat}{b:Addr}{d:PV}{o u:HO}(R:RelB K Fz ρ β σ H z a bs)(hb:bs[j]? = some b)(hu:H b=some u)(im:¬ Imm u)(ow:Own K Fz (upd H b o) d b)
  (β':BX) (hc:β'.cts=β.cts.set j d) (ho:β'.obj bs=β.obj bs) (hk:β'.ok):RelB K Fz ρ β' σ (upd H b o) z a bs/\zbs (OB ρ σ (a::bs)) Fz H Fz (upd H b o):=by
 have hm:b∈a::bs:=Xg _ (Xn hb);have nf:=R.box.nf b hm;have no:=R.no b hm;have nd:=R.box.nd;rw[Yi]at nd;have nea:a≠b:=λy=>nd.1 (by rw[y];exact Xn hb);refine⟨⟨R.rel.other hu im nf no,R.hz,R.sz,⟨by rw[zaf nea,ho];exact R.box.at_,hk,by rw[hc];exact OwnL.put hu im nf ow R.box.own nd.2 hb,R.box.nd,R.box.nf⟩,R.no⟩,⟨λ_ h=>h,λ_ h=>.inl h,λc w e n=>?_⟩⟩;have ne:c≠b:=λy=>n (.inr (by rw[y];exact hm));rw[zaf ne];exact e
section
variable {X:Cx}{z:Nat}{ei e:Expr}{ti te:TPE}{x:Str}{p p1 apos cpos pos:Pos}
noncomputable def zdj (z:Nat)(ti te:TPE):TPB:=λρ β O=>rdE z ti ρ β λdi=>∃(i:Int)(n:Nat)(ds es:List PV),di=.int i/\β=.L ds/\ixN ds.length i=some n/\ds[n]? = some (.lst es)/\es.length<sizeLine/\rdE z te ρ β λd=>O.nx ρ (.L (ds.set n (.lst (es++[d]))))
theorem zmP (hi:PuE X ei ti)(he:PuE X e te)(hN:autoParam (X.N[z]? = some x) aU0)(hv:autoParam (Vis X.env.scope x) aU4)(hd:autoParam ((x == ("__debug__" : Str))=false) aU1) (hcd:autoParam ((x == ("__classdict__" : Str))=false) aU1)
  (hix:autoParam (zgD ei) aU6) (hbase:autoParam (attributeBase (.Subscript (.Name x p) ei p1) "append" X.env (eval (.Subscript (.Name x p) ei p1) X.env)=eval (.Subscript (.Name x p) ei p1) X.env) aU0)
  (hfew:autoParam (((backTo cpos (starEach [e] X.env)).all (λx=>!x.1)&&(backToKw cpos (keywordEach [] X.env)).all (λx=>x.1.isSome)&&decide ([e].length+([]:List Keyword).length+(if ([]:List Keyword).isEmpty then 0 else 1)<30))=true) aU0)
  (hline:autoParam ((apos.endLine == cpos.line)=true) aU0) (hst:autoParam (starEach [e] X.env=(false,eval e X.env)::starEach [] X.env) aU0) (hplain:autoParam ((backTo cpos (starEach [] X.env)).any (·.1)=false) aU0)
  (hs:autoParam (swapsWith (.Call (.Attribute (.Subscript (.Name x p) ei p1) "append" apos) [e] [] cpos) none pos.line X.env=pure false) aU0) :
  PuB1 X z (.Expr (.Call (.Attribute (.Subscript (.Name x p) ei p1) "append" apos) [e] [] cpos) pos) (zdj z ti te) where
 mono ρ β O O' m h:=hi.mono _ _ _ (λd k q102q=>by obtain⟨e1,e2,i,n,ds,es,q1,q2,q3,q4,q5,q⟩:=q102q;exact⟨e1,e2,i,n,ds,es,q1,q2,q3,q4,q5,he.mono _ _ _ (λd k q103q=>by obtain⟨e1,e2,q⟩:=q103q;exact⟨e1,e2,m.nx _ _ q⟩) q⟩) h
 run:=PS.weak (zlE (zlN PySem.F.plainAttrs_list PySem.F.slot_list_append PySem.F.type_list_append zdL (zrV zlM (zdm hN hv hd hcd) hi.run hix) (zca he.run zcF hst) hbase hfew hline hst hplain) hs) λD σ H h=>by
  obtain⟨ρ,Fz,β,a,bs,R,h⟩:=h;refine⟨_,R.sz,zgn hi R h λdi iv H1 q nm x1 dv=>?_⟩;obtain⟨i,n,ds,es,rfl,rfl,q3,q4,q5,q⟩:=q;have R1:=R.ext x1;obtain⟨b,hb,ow⟩:=R1.box.own.get q4;have hlen:=R1.box.own.length;have hiv:iv=.int i:=by simpa only[Den]using dv
  subst hiv;have hat:atI (bs.map V.ref) i=some (V.ref b):=by
   unfold atI;rw[Xc,<- hlen];show(ixN ds.length i).bind _=_;rw[q3];show(bs.map V.ref)[n]? = _;rw[Xd,hb];rfl
  obtain⟨xs,hbx,hxs⟩:=ow;refine⟨a,_,i,.ref b,rfl,rfl,SqL.of R1.box.at_,hat,.inl ⟨rfl,xs,SqL.of hbx⟩,zgn he R1 q λd v H2 q nm2 x2 dv2=>?_⟩;have R2:=R1.ext x2;have hbx2:=x2.same _ _ hbx;have hl2:=hxs.length;have nfb:¬ Fz b:=R2.box.nf b (Xg _ (Xn hb));refine⟨b,xs,v,rfl,rfl,hbx2,by lia,?_⟩;have hxs2:=DenL.snoc (DenL.mono (.of x2.same) (λ_ h=>h) _ _ hxs) dv2;have ow2:Own X.K Fz (upd H2 b (.lst (xs++[v]))) (.lst (es++[d])) b:=⟨_,zag,DenL.rew hbx2 nfb hxs2⟩;obtain⟨R3,s3⟩:=R2.put hb hbx2 (λy=>y) ow2 (.L (ds.set n (.lst (es++[d])))) rfl rfl trivial;exact q σ Fz _ a bs ((zbs.of (x1.trans x2)).trans InO.refl s3) InO.refl R3
end
section
variable {X:Cx}{z:Nat}{tg iter:Expr}{sc:Scope}{pos pos' pos2 pos3:Pos}{N:List Str}{ti:TPI}{t:TPB}{x y:Str}{rest:List Stmt}
noncomputable def zaz (z:Nat)(ti:TPI)(t:TPB):TPS:=λρ O=>z<ρ.length/\ti ρ λits o=>its.length<=sizeLine/\zgb t { nx:=λ_ _=>False,rt:=O.rt,bk:=λ_ _=>False,ct:=λ_ _=>False } (ρ.set z none) (.L (List.replicate its.length (.lst [])))
theorem zeM {K:Xb}{Fz:FZ}{H:Hp}:∀ {bs:List Addr},(∀b∈bs,H b=some (.lst []))->OwnL K Fz H (List.replicate bs.length (.lst [])) bs
 | [],_=>by unfold OwnL;rfl
 | b::bs,h=>by
  rw[Ya,List.replicate_succ];unfold OwnL;exact⟨b,bs,rfl,⟨[],h b (Xj ..),DenL.nil⟩,zeM λc hc=>h c (Xg _ hc)⟩
theorem zhW {pos4:Pos}(hc:X.calm=true)(S:zcx X N 1 [] sc)(hi:PuI X (.Name y pos3) iter ti)(hg:∀C cells fp s H,PG (cxB X N sc C cells fp s H) (.Name y pos3) (zkU 0))(hN:X.N.Nodup)(hx:X.N[z]? = some x)(hk:X.env.scope.names.lookup x=some .local)
  (hr:PuB X z rest t) (hsw:autoParam (swapsWith (.ListComp (.List [] pos') [⟨.Name y pos3,iter,[],0⟩] sc pos) (some (.Name x pos4)) pos2.line X.env=pure true) aU0) (hs:autoParam (∀x,foldedSetIterable iter X.env x=pure x) aU3) :
  PuSs X (.Assign [.Name x pos4] (.ListComp (.List [] pos') [⟨.Name y pos3,iter,[],0⟩] sc pos) pos2::rest) (zaz z ti t) where
 mono ρ O O' m h:=⟨h.1,hi.mono ρ _ _ (λits o q104q=>by obtain⟨e,q⟩:=q104q;exact⟨e,hr.mono _ _ { nx:=λ_ _=>False,rt:=O.rt,bk:=λ_ _=>False,ct:=λ_ _=>False } _ ⟨λ_ _ q=>q.elim,m.rt,λ_ _ q=>q.elim,λ_ _ q=>q.elim⟩ q⟩) h.2⟩
 run:=PSs.weak (zcT (zlZ hc S hi.run ⟨hg,λ_ _ _ _ _=>zlX,λ_ _ _ _ _=>zpn zcF⟩ hN hx hk hsw hs) hr.run) λD σ H h=>by
  obtain⟨ρ,Fz,R,hzl,h⟩:=h;refine⟨ρ,Fz,R,hi.mono ρ _ _ (λits o q J Fz1 H1 x1 wk l hl=>?_) h⟩;obtain⟨hz,q⟩:=q;refine⟨λi m σ' H'=>m=its.length-i/\i<=its.length/\∃bs:List Addr,bs.length=i/\H' l=some (.lst (bs.map V.ref))/\(∀b∈bs,H' b=some (.lst []))/\(l::bs).Nodup/\(∀b∈l::bs,H1 b=none)/\Same H1 H',
   ⟨its.length,by lia,XU _,[],rfl,zag,λb hb=>by simp at hb,by simp,λb hb=>by simp at hb;rw[hb];exact hl,(Same.refl H1).upd' hl⟩,?_⟩
  rintro i m σ' H' ⟨rfl,hle,bs,hbl,hlx,hbs,hnd,hfr,sm⟩;obtain⟨wgo,wstop⟩:=wk H' (.inl sm) i;by_cases hlt:i<its.length
  ·obtain⟨go,yl⟩:=wgo its[i] (Xa hlt);refine .inr ⟨go,λxv H2 y=>?_⟩;obtain⟨sm2,_⟩:=yl xv H2 y;have hl2:=sm2 _ _ hlx;simp only[zkU,zlW,if_true];refine⟨XU _,λb hb=>?_⟩;have hbl':b≠l:=λe=>by rw[e,hl2]at hb;cases hb
   have hbn:H1 b=none:=sm.free (sm2.free hb);have hbm:b∉bs:=λe=>by rw[sm2 _ _ (hbs b e)]at hb;cases hb
   refine⟨bs.map V.ref,by rw[zaf (Ne.symm hbl')];exact hl2,by rw[Xc];lia,its.length-(i+1),by lia,rfl,hlt,bs++[b],by simp[hbl],by rw[zag,Xm];rfl,λc hc=>?_,?_,λc hc=>?_,?_⟩
   ·rcases Xr.mp hc with hc | hc
    ·have n1:c≠l:=λe=>(Yi.mp hnd).1 (by rw[<- e];exact hc);have n2:c≠b:=λe=>hbm (by rw[<- e];exact hc);rw[zaf n1,zaf n2];exact sm2 _ _ (hbs c hc)
    ·have:=Xl.mp hc;subst this;rw[zaf hbl',zag]
   ·rw[Yi]at hnd ⊢;refine⟨λe=>?_,?_⟩
    ·rcases Xr.mp e with e | e
     ·exact hnd.1 e
     ·exact hbl' (Xl.mp e).symm
    ·rw[YB];exact⟨hnd.2,by simp,λc hc d hd e=>hbm (by rw[<- Xl.mp hd,<- e];exact hc)⟩
   ·rcases Xx.mp hc with rfl | hc
    ·exact hl
    ·rcases Xr.mp hc with hc | hc
     ·exact hfr c (Xg _ hc)
     ·rw[Xl.mp hc];exact hbn
   ·exact((sm.trans sm2).upd' hbn).upd' hl
  ·have e:i=its.length:=by lia
   subst e;refine .inl ⟨wstop (Xf _),?_⟩;have nfr:∀b∈l::bs,¬ Fz1 b:=λb hb w=>x1.al b w (hfr b hb);have x2:Ext Fz1 H1 Fz1 H':=⟨sm,λ_ h=>h,λ_ h=>.inl h,λb hb w=>x1.al b hb (sm.free w)⟩;have x3:=x1.trans x2;have hno:∀b∈l::bs,¬ zaI ρ σ b:=λb hb ⟨j,d,h1,h2⟩=>by
    obtain⟨a,q1,_,q3⟩:=R.own j d h1;rw[h2]at q1;cases q1;obtain⟨o',q4,_⟩:=q3.at;have:=x1.same _ _ q4;rw[hfr b hb]at this;cases this
   have hzN:z<σ.length:=by rw[<- R.len];exact hzl
   have Rb:RelB X.K Fz1 (ρ.set z none) (.L (List.replicate its.length (.lst []))) (σ.set z (some (.ref l))) H' z l bs:=
    ⟨(R.ext x3).unset,Xs (by rw[R.len];exact hzN),Xs hzN,⟨hlx,trivial,by show OwnL _ _ _ (List.replicate its.length _) bs;rw[<- hbl];exact zeM hbs,hnd,nfr⟩,λb hb w=>hno b hb (zbG b w)⟩
   refine⟨_,Fz1,_,l,bs,Rb,hr.mono _ _ { nx:=λ_ _=>False,rt:=(zeS X.K D ρ σ Fz H).rt,bk:=λ_ _=>False,ct:=λ_ _=>False } _ ⟨λ_ _ q=>q.elim,λd k q v Fz' H'' s al r=>?_,λ_ _ q=>q.elim,λ_ _ q=>q.elim⟩ q⟩;have s0:zbs (zaI ρ σ) Fz H Fz1 H':=.of x3;have oi:InO (zaI ρ σ) H (OB (ρ.set z none) (σ.set z (some (.ref l))) (l::bs)):=λb hb=>by
    rcases hb with hb | hb
    ·exact .inl (zbG b hb)
    ·exact .inr (x1.same.free (hfr b hb))
   have s1:=s0.trans oi s;have r1:=r.back s0 oi;refine q v Fz' H'' ⟨s1.sub,s1.new,s1.keep⟩ al ?_;cases k with
   | frz=>exact r1
   | own i=>exact r1
   | new=>exact r1
end
end _P
namespace _L
open PySem PySem.Spec PyProof.Rows
section
variable {X:Cx}{pins:List (Addr×Obj)}{σ:List (Option V)}{H:Hp}{s:Shared}{h':Heap}
theorem Inv.zet {t':Nat}{ch:List Addr}(I:Inv X pins σ H s)(k:∀b o,b∉ch->s.heap.get? b=some o->h'.get? b=some o)(hf:∀b∈ch,FpOk X pins H b):Inv X pins σ H { s with heap:=h',toks:=t' }:=by
 have nit:∀b u,H b=some u->b∉ch:=λb u e z=>by rw[(hf b z).1]at e;cases e
 refine I.step (g':=s.gens) (d':=s.drawn) (ch:=ch) (λb hb=>?_) (λb o _ _ hc e _=>k b o hc e) (λb o _ _ hc e _=>⟨o.slots,k b o hc e⟩) (λ_ _ _ _ n=>n)
  (λb o hc e=>⟨o,k b o hc e⟩) (λ_ _ e=>e) (λ_ _ _ e=>e) (λb ps e=>⟨#[],by rw[e];simp⟩) (λm hm=>?_) (λb u e=>?_) I.bare
 ·obtain⟨_,f1,_,f3,f4,f5⟩:=hf b hb;exact⟨f3,f1,f4,f5⟩
 ·obtain⟨o,es,ep,ho,r⟩:=hm;exact⟨o,es,ep,k _ o (λz=>(hf _ z).2.1 rfl) ho,r⟩
 ·refine(I.hok b u e).stay (λc v hc q=>k c v ?_ q) (λ_ q=>q) λ_ _ q=>q;rcases hc with z | z
  ·rw[z];exact nit b u e
  ·exact nit c _ z
end
noncomputable def Ite (K:Xb)(a:Addr):It:=
 ⟨λi H=>∃xs x,SqL K H a xs/\xs[i]? = some x,λi H x H'=>∃p y,x=.ref p/\H p=none/\(∀xs,SqL K H a xs->xs[i]? = some y)/\H'=upd H p (.tup [.int (i:Int),y]),λi H=>∃xs,SqL K H a xs/\xs.length<=i⟩
theorem zmQ {P:Program}{w:World}{K:Xb}{elts:List Expr}{x1:Nat}{pos:Pos}(a e it:Addr)(hne:e≠it):Turn P w K (.Tuple elts x1 pos) (Ite K a) [e,it] e (λi h=>(∃old,IsEnum h e it (i:Int) old)/\h.IsListIter it a i) where
 mem:=by simp
 obj:=λi h st b hb=>by
  obtain⟨⟨old,he⟩,o,ho,c,d⟩:=st;rcases Xx.mp hb with rfl | hb
  ·exact⟨_,he,λv z=>by cases z⟩
  ·have:=Xl.mp hb;subst this;exact⟨o,ho,λv z=>by rw[d]at z;cases z⟩
 keep:=λi h h' st k=>by
  obtain⟨⟨old,he⟩,hit⟩:=st;exact⟨⟨old,k e (by simp) _ he⟩,hit.at λo q=>k it (by simp) o q⟩
 item:=by
  intro X hP hw hK hc i pins s σ H E I hf st hg;subst hP hw hK;obtain⟨⟨old,he⟩,hit⟩:=st;obtain⟨xs,x,hq,hx⟩:=hg;obtain⟨its,rv,p,hz⟩:=I.list hq;obtain⟨u,hu,ru⟩:=rv.get hx;have hfr:H s.heap.objs.size=none:=I.hok.fresh (Xf _);have heS:e<s.heap.objs.size:=XA he;have hiS:it<s.heap.objs.size:=by obtain⟨o,ho,_⟩:=id hit;exact XA ho
  refine wpAny_pyNext_enum_item he hit p.isList (x:=u) (by simpa using hu) hne λh1 heo hit1 ht1 hz1 hk1=>⟨.ref s.heap.objs.size,rfl,?_⟩;refine wpAny_letOwnedTupleGo_enum heo λh2 he2 hs2=>?_;replace hs2:Yh e h1 h2:=hs2;have I1:=I.laid (a:=s.heap.objs.size) (o:=.tup [.int (i:Int),x]) (h':=s.heap.push { cls:=.type "tuple",data:=.seq #[.int i s.toks,u] }) (t':=s.toks+1) (λb u e=>Xh _ e) (Xf _)
   ⟨by show 2<=sizeLine;decide,[.int i s.toks,u],.cons ⟨_,rfl⟩ (.cons ru .nil),zcE.new _ _⟩
  have hfp:∀b∈[e,it],FpOk X pins (upd H s.heap.objs.size (.tup [.int (i:Int),x])) b:=λb hb=>by
   obtain⟨f0,fr⟩:=hf b hb;have hbS:b≠s.heap.objs.size:=by
    rcases Xx.mp hb with rfl | hb
    ·exact XJ heS
    ·rw[Xl.mp hb];exact XJ hiS
   exact⟨by rw[zaf hbS];exact f0,fr⟩
  have I2:=I1.zet (h':=h2) (t':=s.toks+1) (ch:=[e,it]) (λb o hb eb=>by
   have hb1:b≠e:=λz=>hb (by simp[z]);have hb2:b≠it:=λz=>hb (by simp[z]);refine(hs2.2 b hb1).trans ?_;rcases Heap.get?_push_cases eb with ⟨rfl,rfl⟩ | eb
   ·exact ht1
   ·exact hk1 b o hb1 hb2 eb) hfp
  refine⟨.ref s.heap.objs.size,_,I2,rfl,⟨_,x,rfl,hfr,λys hy=>by rw[I.zdI hy hq];exact hx,rfl⟩,⟨⟨u,?_⟩,?_⟩,λb hb=>(hfp b hb).1⟩
  ·have:((i+1:Nat):Int)=(i:Int)+1:=by lia
   rw[this];exact he2
  ·exact hit1.extBut hs2.extBut (Ne.symm hne)
 done:=by
  intro X hP hw hK hc i pins s σ H E I hf st hg;subst hP hw hK;obtain⟨⟨old,he⟩,hit⟩:=st;obtain⟨xs,hq,hx⟩:=hg;obtain⟨its,rv,p,hz⟩:=I.list hq;have hl:=rv.length;obtain⟨f0,f1,f2,f3,f4,f5⟩:=hf it (by simp);exact wpAny_pyNext_enum_end (I.ok.hd hc) he hit p.isList (by simp;lia) λh' eb=>⟨rfl,I.turned (t':=s.toks) (λb o hb e=>eb b o hb e) f0 f1 f3 f4 f5⟩
 self:=λ_ _ _ _ _ st h=>by obtain⟨⟨old,he⟩,_⟩:=st;exact wpAny_pyIter_enum he h
section
variable {X:Cx}{elts:List Expr}{x1:Nat}{tpos p pos:Pos}{e e2:Expr}{te te2:TE}
theorem zfA:bootBuiltins "enumerate" = some (.type "enumerate"):=by decide +kernel
noncomputable def zuc (K:Xb)(te:TE):TI:=λσ H R=>te σ H λx H1=>∃a,x=.ref a/\(∃xs,SqL K H1 a xs)/\R (Ite K a) H1
theorem zqK (hg:Gl X "enumerate") (hm:X.mg "enumerate" = none) (he:PE X e te) (hs1:autoParam (starEach [e] X.env=(false,eval e X.env)::starEach [] X.env) aU0) (hpl1:autoParam ((backTo pos (starEach [] X.env)).any (·.1)=false) aU0) :
  PI X (.Tuple elts x1 tpos) (.Call (.Name "enumerate" p) [e] [] pos) (zuc X.K te):=by
 intro pins s σ H R I h;refine wpAny_Call_Name_kw (zeG I hg hm zfA ?_ (by decide) (by decide));refine PyProof.Rows.callWith_type1 ?_ hs1 hpl1;rw[hs1];show wpAny _ _ (spliced ((false,eval _ X.env)::backTo pos (starEach [] X.env))) _ _ s;refine Calls.spliced_cons (thn (he pins s σ H _ I h) λu s1 ⟨x,H1,I1,r1,a,ex,⟨xs,hq⟩,q⟩=>Calls.spliced_nil ?_);subst ex;obtain rfl:u=Value.ref a:=r1;obtain⟨its,r,pl,hz⟩:=I1.list hq;refine call_enumerate_list pl.isList λh' hE hit hsz hk=>?_;refine wpAny_pyIter_enum (s:={ s1 with heap:=h' }) hE ?_;have I2:Inv X pins σ H1 { s1 with heap:=h' }:=I1.kept (t':=s1.toks) hk;refine⟨s1.heap.objs.size+1,[s1.heap.objs.size+1,s1.heap.objs.size],_,_,H1,rfl,I2,zmQ a _ _ (Nat.succ_ne_self _),⟨⟨_,hE⟩,hit⟩,λb hb=>?_,q⟩;have hb':s1.heap.objs.size<=b:=by
  rcases Xx.mp hb with rfl | hb
  ·exact Nat.le_succ _
  ·rw[Xl.mp hb];exact Xf _
 exact I1.fpOk hb' (I1.hok.fresh hb')
end
end _L
namespace _P
open PySem PySem.Spec _L
open PyProof.Rows hiding St
noncomputable def zjj (ds:List PV):List PV:=(XZ ds.length).map λ(i:Nat)=>.tup [.int (i:Int),ds.getD i .non]
theorem zfB {ds:List PV}{i:Nat}{d:PV}(h:(zjj ds)[i]? = some d):∃x,ds[i]? = some x/\d=.tup [.int (i:Int),x]:=by
 unfold zjj at h;rw[Xd]at h;rcases YG i ds.length with hi | hi
 ·rw[List.getElem?_range hi]at h;cases h;exact⟨ds[i],Xa hi,by show PV.tup [PV.int (i:Int),ds.getD i PV.non]=_;rw[Xk,Xa hi];rfl⟩
 ·rw[XG (by simpa using hi)]at h;cases h
theorem zdX (ds:List PV):(zjj ds).length=ds.length:=by simp[zjj]
noncomputable def zbR (te:TPE):TPI:=λρ Q=>te ρ λd k=>∃ds,d=.lst ds/\Q (zjj ds) (isOwn k)
section
variable {X:Cx}{elts:List Expr}{x1:Nat}{tpos p pos:Pos}{e:Expr}{te:TPE}
theorem zkf (hg:Gl X "enumerate") (hm:X.mg "enumerate" = none) (he:PuE X e te) (hs1:autoParam (starEach [e] X.env=(false,eval e X.env)::starEach [] X.env) aU0) (hpl1:autoParam ((backTo pos (starEach [] X.env)).any (·.1)=false) aU0) :
  PuI X (.Tuple elts x1 tpos) (.Call (.Name "enumerate" p) [e] [] pos) (zbR te) where
 mono ρ Q Q' m h:=he.mono ρ _ _ (λd k q107q=>by obtain⟨ds,e,q⟩:=q107q;exact⟨ds,e,m _ _ q⟩) h
 run:=PI.weak (zqK hg hm he.run hs1 hpl1) λσ H Rr h=>by
  obtain⟨ρ,Fz,R,h⟩:=h;refine⟨ρ,Fz,R,he.mono ρ _ _ (λd k q v Fz' H' p=>?_) h⟩;obtain⟨ds,e,q⟩:=q;subst e;have rt:=p.root R;obtain⟨a,xs,rfl,h1,h2⟩:=zan rt;refine⟨a,rfl,⟨xs,h1⟩,?_⟩;have one:∀(F2:FZ) (H2:Hp) (zs:List V),SqL X.K H2 a zs->DenL X.K F2 H2 ds zs->∀i:Nat,(∀d,(zjj ds)[i]? = some d->(Ite X.K a).go i H2/\∀x H3,(Ite X.K a).yld i H2 x H3->Same H2 H3/\Den X.K F2 H3 d x)/\((zjj ds).length<=i->(Ite X.K a).stop i H2):=λF2 H2 zs g1 g3 i=>by
   have hl:=g3.length;refine⟨λd hd=>?_,λhi=>⟨zs,g1,by rw[zdX]at hi;lia⟩⟩;obtain⟨x,hx,rfl⟩:=zfB hd;obtain⟨v,q1,q2⟩:=g3.get hx;refine⟨⟨zs,v,g1,q1⟩,λy H3 q108q=>?_⟩;obtain⟨pp,w,ey,hn,gy,e3⟩:=q108q;subst ey e3;have exy:=gy zs g1;rw[q1]at exy;cases exy;have sm:Same H2 (upd H2 pp (.tup [.int (i:Int),v])):=λb o hb=>by rw[zaf (zay hb hn)];exact hb
   refine⟨sm,?_⟩;simp only[Den];exact⟨pp,_,rfl,zag,DenL.cons (by simp only[Den]) (DenL.cons (Den.mono (.of sm) (λ_ h=>h) _ _ q2) DenL.nil)⟩
  cases k with
  | own i=>
   refine q _ Fz' H' p.ext λH2 hH=>?_;rcases hH with hH | ⟨z,_⟩
   ·exact one Fz' H2 xs (hH.seq h1) (DenL.mono (.of hH) (λ_ h=>h) _ _ h2)
   ·cases z
  | frz=>
   have pd:Den X.K Fz' H' (.lst ds) (.ref a):=p.opd;simp only[Den]at pd;obtain⟨a',xs',e,h3,h4⟩:=pd;cases e;refine q _ Fz' H' p.ext λH2 hH=>?_;have kp:Keep Fz' H' H2:=hH.elim (λz=>.of z) (λz=>.mk' z.2);exact one Fz' H2 xs' (h3.elim (λh=>.inl (kp.rd trivial h.1 h.2)) KX.sq) (DenL.mono kp (λ_ h=>h) _ _ h4)
  | new=>
   obtain⟨b,e,hn,nf,o⟩:=p.opd;cases e;obtain⟨xs',o1,o2⟩:=o;refine q _ (λb=>Fz' b\/b=a) H' (p.ext.add hn (by rw[o1];exact λz=>nomatch z)) λH2 hH=>?_;have kp:Keep (λb=>Fz' b\/b=a) H' H2:=hH.elim (λz=>.of z) (λz=>.mk' z.2);exact one _ H2 xs' (.inl (kp.rd trivial (.inr rfl) (.inl o1))) (DenL.mono kp (λ_ h=>h) _ _ (DenL.mono (Keep.of (Same.refl _)) (λ_ h=>.inl h) _ _ o2))
end
end _P
namespace _L
open PySem PySem.Spec PyProof.Rows
noncomputable def Itz (K:Xb)(a b:Addr):It:=
  ⟨λi H=>∃xs ys x y,SqL K H a xs/\xs[i]? = some x/\SqL K H b ys/\ys[i]? = some y,
   λi H x H'=>∃p u v,x=.ref p/\H p=none/\(∀xs,SqL K H a xs->xs[i]? = some u)/\(∀ys,SqL K H b ys->ys[i]? = some v)/\H'=upd H p (.tup [u,v]),
   λi H=>∃xs ys,SqL K H a xs/\SqL K H b ys/\(xs.length<=i\/ys.length<=i)⟩
theorem zoD {P:Program}{w:World}{K:Xb}{elts:List Expr}{x1:Nat}{pos:Pos}(a b z TI TO i1 i2:Addr)(D:ZipApart z TI TO i1 i2 a b) :
  Turn P w K (.Tuple elts x1 pos) (Itz K a b) [z,TI,TO,i1,i2] z (λi h=>IsZip h z TI TO .none/\IsPair h TI (.ref i1) (.ref i2)/\(∃u v,IsPair h TO u v)/\h.IsListIter i1 a i/\h.IsListIter i2 b i) where
 mem:=by simp
 obj:=λi h st c hc=>by
  obtain⟨h1,h2,⟨u,v,h3⟩,⟨o4,h4,_,d4⟩,⟨o5,h5,_,d5⟩⟩:=st;simp only[Xx,List.not_mem_nil,or_false]at hc;rcases hc with rfl | rfl | rfl | rfl | rfl
  ·exact⟨_,h1,λv z=>by cases z⟩
  ·exact⟨_,h2,λv z=>by cases z⟩
  ·exact⟨_,h3,λv z=>by cases z⟩
  ·exact⟨_,h4,λv z=>by rw[d4]at z;cases z⟩
  ·exact⟨_,h5,λv z=>by rw[d5]at z;cases z⟩
 keep:=λi h h' st k=>by
  obtain⟨h1,h2,⟨u,v,h3⟩,h4,h5⟩:=st;exact⟨k z (by simp) _ h1,k TI (by simp) _ h2,⟨u,v,k TO (by simp) _ h3⟩,h4.at λo q=>k i1 (by simp) o q,h5.at λo q=>k i2 (by simp) o q⟩
 item:=by
  intro X hP hw hK hc i pins s σ H E I hf st hg;subst hP hw hK;obtain⟨h1,h2,⟨c1,c2,h3⟩,h4,h5⟩:=st;obtain⟨xs,ys,x,y,hq,hx,hq2,hy⟩:=hg;obtain⟨its,rv,p,hz⟩:=I.list hq;obtain⟨u,hu,ru⟩:=rv.get hx;obtain⟨its2,rv2,p2,hz2⟩:=I.list hq2;obtain⟨u2,hu2,ru2⟩:=rv2.get hy;have hfr:H s.heap.objs.size=none:=I.hok.fresh (Xf _);have lt:∀c∈[z,TI,TO,i1,i2],c<s.heap.objs.size:=λc hc=>by
   simp only[Xx,List.not_mem_nil,or_false]at hc;rcases hc with rfl | rfl | rfl | rfl | rfl
   ·exact XA h1
   ·exact XA h2
   ·exact XA h3
   ·obtain⟨o,ho,_⟩:=id h4;exact XA ho
   ·obtain⟨o,ho,_⟩:=id h5;exact XA ho
  refine wpAny_pyNext_zip_item D h1 h2 h3 h4 h5 p.isList p2.isList (x:=u) (y:=u2) (by simpa using hu) (by simpa using hu2) λhp1 g1 g3 g4 g5 gt gz gk=>⟨.ref s.heap.objs.size,rfl,?_⟩;refine wpAny_letOwnedTupleGo_zip g1 λhp2 k1 ks=>?_;replace ks:Yh z hp1 hp2:=ks;have I1:=I.laid (a:=s.heap.objs.size) (o:=.tup [x,y]) (h':=s.heap.push { cls:=.type "tuple",data:=.seq #[u,u2] }) (t':=s.toks) (λb u e=>Xh _ e) (Xf _)
   ⟨by show 2<=sizeLine;decide,[u,u2],.cons ru (.cons ru2 .nil),zcE.new _ _⟩
  have hfp:∀c∈[z,TI,TO,i1,i2],FpOk X pins (upd H s.heap.objs.size (.tup [x,y])) c:=λc hc=>by
   obtain⟨f0,fr⟩:=hf c hc;exact⟨by rw[zaf (XJ (lt c hc))];exact f0,fr⟩
  have I2:=I1.zet (h':=hp2) (t':=s.toks) (ch:=[z,TI,TO,i1,i2]) (λc o hc ec=>by
   have n1:c≠z:=λe=>hc (by simp[e]);refine(ks.2 c n1).trans ?_;rcases Heap.get?_push_cases ec with ⟨rfl,rfl⟩ | ec
   ·exact gt
   ·exact gk c o n1 (λe=>hc (by simp[e])) (λe=>hc (by simp[e])) (λe=>hc (by simp[e])) ec) hfp
  refine⟨.ref s.heap.objs.size,_,I2,rfl,⟨_,x,y,rfl,hfr,λzs hz=>by rw[I.zdI hz hq];exact hx,λzs hz=>by rw[I.zdI hz hq2];exact hy,rfl⟩,⟨k1,?_,⟨u,u2,?_⟩,?_,?_⟩,λc hc=>(hfp c hc).1⟩
  ·exact(ks.2 TI D.TIz).trans (gk TI _ D.TIz D.TITO D.TIi1 D.TIi2 h2)
  ·exact(ks.2 TO D.TOz).trans g3
  ·exact g4.extBut ks.extBut D.i1z
  ·exact g5.extBut ks.extBut D.i2z
 done:=by
  intro X hP hw hK hc i pins s σ H E I hf st hg;subst hP hw hK;obtain⟨h1,h2,⟨c1,c2,h3⟩,h4,h5⟩:=st;obtain⟨xs,ys,hq,hq2,hx⟩:=hg;obtain⟨its,rv,p,hz⟩:=I.list hq;obtain⟨its2,rv2,p2,hz2⟩:=I.list hq2;have hl:=rv.length;have hl2:=rv2.length;refine wpAny_pyNext_zip_end (I.ok.hd hc) D h1 h2 h3 h4 h5 p.isList p2.isList (hx.imp (λe=>by simp;lia) (λe=>by simp;lia)) λh' gk=>⟨rfl,?_⟩;exact I.zet (t':=s.toks) (ch:=[z,TI,TO,i1,i2]) (λc o hc ec=>gk c o (λe=>hc (by simp[e])) (λe=>hc (by simp[e])) (λe=>hc (by simp[e])) (λe=>hc (by simp[e])) ec) hf
 self:=λ_ _ _ _ _ st h=>wpAny_pyIter_zip st.1 h
section
variable {X:Cx}{elts:List Expr}{x1:Nat}{tpos p pos:Pos}{e e2:Expr}{t:TA}
theorem zmR:bootBuiltins "zip" = some (.type "zip"):=by decide +kernel
noncomputable def iZip (K:Xb)(t:TA):TI:=λσ H R=>t σ H λvs H1=>∃a b,vs=[.ref a,.ref b]/\(∃xs,SqL K H1 a xs)/\(∃ys,SqL K H1 b ys)/\R (Itz K a b) H1
theorem zsV (hg:Gl X "zip") (hm:X.mg "zip" = none) (ha:PA X [e,e2] t) (he:autoParam (starEach [e,e2] X.env=(false,eval e X.env)::starEach [e2] X.env) aU0) (hpl:autoParam ((backTo pos (starEach [e2] X.env)).any (·.1)=false) aU0) :
  PI X (.Tuple elts x1 tpos) (.Call (.Name "zip" p) [e,e2] [] pos) (iZip X.K t):=by
 intro pins s σ H R I h;refine wpAny_Call_Name_kw (zeG I hg hm zmR ?_ (by decide) (by decide));refine PyProof.Rows.callWith_type1 (thn (ha pos pins s σ H _ I h) λus s1 q109q=>?_) he hpl;obtain⟨vs,H1,I1,r1,a,b,ev,⟨xs,hq⟩,⟨ys,hq2⟩,q⟩:=q109q;subst ev;obtain⟨u1,u2,rfl,r2,r3⟩:=vals2 r1;obtain rfl:u1=Value.ref a:=r2;obtain rfl:u2=Value.ref b:=r3;obtain⟨its,r,pl,hz⟩:=I1.list hq;obtain⟨its2,r',pl2,hz2⟩:=I1.list hq2;have ha':@LT.lt Nat _ a s1.heap.objs.size:=by obtain⟨o,ho,_⟩:=pl.isList;exact XA ho
 have hb':@LT.lt Nat _ b s1.heap.objs.size:=by obtain⟨o,ho,_⟩:=pl2.isList;exact XA ho
 refine call_zip_2 pl.isList pl2.isList λh' g1 g2 g3 g4 g5 gz gk=>?_;refine wpAny_pyIter_zip (s:={ s1 with heap:=h' }) g1 ?_;have I2:Inv X pins σ H1 { s1 with heap:=h' }:=I1.kept (t':=s1.toks) gk;have D:ZipApart (s1.heap.objs.size+4) (s1.heap.objs.size+2) (s1.heap.objs.size+3) s1.heap.objs.size (s1.heap.objs.size+1) a b:=by constructor<;>first | exact XJ (by lia) | exact Nat.ne_of_gt (by lia)
 refine⟨_,_,_,_,H1,rfl,I2,zoD a b _ _ _ _ _ D,⟨g1,g2,⟨_,_,g3⟩,g4,g5⟩,λc hc=>?_,q⟩;have hc':s1.heap.objs.size<=c:=by
  simp only[Xx,List.not_mem_nil,or_false]at hc;rcases hc with rfl | rfl | rfl | rfl | rfl<;>lia
 exact I1.fpOk hc' (I1.hok.fresh hc')
end
end _L
namespace _P
open PySem PySem.Spec _L
open PyProof.Rows hiding St
noncomputable def zipP (ds es:List PV):List PV:=List.zipWith (λd e=>.tup [d,e]) ds es
theorem zkg {ds es:List PV}{i:Nat}{d:PV}(h:(zipP ds es)[i]? = some d):∃x y,ds[i]? = some x/\es[i]? = some y/\d=.tup [x,y]:=by
 unfold zipP at h;rw[List.getElem?_zipWith]at h;cases h1:ds[i]? with
 | none=>rw[h1]at h;cases h
 | some x=>
  cases h2:es[i]? with
  | none=>rw[h1,h2]at h;cases h
  | some y=>rw[h1,h2]at h;cases h;exact⟨x,y,rfl,rfl,rfl⟩
theorem zgW (ds es:List PV):(zipP ds es).length=min ds.length es.length:=by simp[zipP]
noncomputable def zdC (t:TPA):TPI:=λρ Q=>t ρ λops=>noOwn ops=true/\∃ds es,ops.map (·.1)=[.lst ds,.lst es]/\Q (zipP ds es) false
section
variable {X:Cx}{elts:List Expr}{x1:Nat}{tpos p pos:Pos}{e e2:Expr}{t:TPA}
theorem zqL (hg:Gl X "zip") (hm:X.mg "zip" = none) (ha:PuA X [e,e2] t) (he:autoParam (starEach [e,e2] X.env=(false,eval e X.env)::starEach [e2] X.env) aU0) (hpl:autoParam ((backTo pos (starEach [e2] X.env)).any (·.1)=false) aU0) :
  PuI X (.Tuple elts x1 tpos) (.Call (.Name "zip" p) [e,e2] [] pos) (zdC t) where
 mono ρ Q Q' m h:=ha.mono ρ _ _ (λops q110q=>by obtain⟨e1,ds,es,e,q⟩:=q110q;exact⟨e1,ds,es,e,m _ _ q⟩) h
 run:=PI.weak (zsV hg hm ha.run he hpl) λσ H Rr h=>by
  obtain⟨ρ,Fz,R,h⟩:=h;refine⟨ρ,Fz,R,ha.mono ρ _ _ (λops q vs Fz' H' x o=>?_) h⟩;obtain⟨hn,ds,es,eo,q⟩:=q;obtain⟨F2,x2,s2,d2⟩:=o.frozen x hn;rw[eo]at d2;simp only[DenL]at d2;obtain⟨v1,r1,rfl,d1,v2,r2,rfl,d3,rfl⟩:=d2;simp only[Den]at d1 d3;obtain⟨a,xs,rfl,a1,a2⟩:=d1;obtain⟨b,ys,rfl,b1,b2⟩:=d3;have sq:∀ {c:Addr} {zs:List V} {H2:Hp},Keep F2 H' H2->((F2 c/\Rd H' c (.lst zs))\/KX X.K c zs)->SqL X.K H2 c zs:=λkp h=>h.elim (λh=>.inl (kp.rd trivial h.1 h.2)) KX.sq;refine⟨a,b,rfl,⟨xs,sq (.of (Same.refl _)) a1⟩,⟨ys,sq (.of (Same.refl _)) b1⟩,q _ F2 H' x2 λH2 hH i=>?_⟩;have kp:Keep F2 H' H2:=hH.elim (λz=>.of z) (λz=>.mk' z.2);have g1:=sq kp a1;have g2:=sq kp b1;have m1:=DenL.mono kp (λ_ h=>h) _ _ a2;have m2:=DenL.mono kp (λ_ h=>h) _ _ b2;have l1:=m1.length;have l2:=m2.length;refine⟨λd hd=>?_,λhi=>⟨xs,ys,g1,g2,by rw[zgW]at hi;lia⟩⟩;obtain⟨u,w,hu,hw,rfl⟩:=zkg hd;obtain⟨v,q1,q2⟩:=m1.get hu;obtain⟨v',q3,q4⟩:=m2.get hw;refine⟨⟨xs,ys,v,v',g1,q1,g2,q3⟩,λy H3 q111q=>?_⟩;obtain⟨pp,c1,c2,ey,hnp,gy,gy2,e3⟩:=q111q;subst ey e3;have e1:=gy xs g1;rw[q1]at e1;cases e1;have e2:=gy2 ys g2;rw[q3]at e2;cases e2;have sm:Same H2 (upd H2 pp (.tup [v,v'])):=λb o hb=>by rw[zaf (zay hb hnp)];exact hb
  refine⟨sm,?_⟩;simp only[Den];exact⟨pp,_,rfl,zag,DenL.cons (Den.mono (.of sm) (λ_ h=>h) _ _ q2) (DenL.cons (Den.mono (.of sm) (λ_ h=>h) _ _ q4) DenL.nil)⟩
end
end _P
namespace PySem.SeqAt
open MeetsSeq
theorem zhX {M:Model}{A:Around}{E:Value->Shared->Prop}{s:Shared}{β:Type}{a b:Nat}{f:Nat->β->Sem (ForInStep β)}(I:Nat->β->Shared->Prop)(Q:β->Shared->Prop)
  (turn:∀i c s,a<=i->i<b->I i c s->wpAny M A (f i c) (λr s'=>match r with | .yield c'=>I (i+1) c' s' | .done c'=>Q c' s') E s)
  (fin:∀c s,I (max a b) c s->Q c s) (c:β) (h:I a c s):wpAny M A (forIn ([a:b]:Std.Legacy.Range) c f) Q E s:=by
 rw[Std.Legacy.Range.forIn_eq_forIn_range'];have hz:([a:b]:Std.Legacy.Range).size=b-a:=by simp[Std.Legacy.Range.size]
 show wpAny M A (forIn (List.range' a ([a:b]:Std.Legacy.Range).size 1) c f) Q E s;rw[hz];refine wpAny_forIn_list f (λl c s=>∃i,a<=i/\i<=max a b/\l=List.range' i (max a b-i) 1/\I i c s) Q ?_ ?_ _ c ⟨a,Xf _,by omega,by congr 1;omega,h⟩
 ·rintro x rest c s ⟨i,h1,h2,hl,hI⟩;have lt:i<max a b:=by
   rcases YG i (max a b)with h' | h'
   ·exact h'
   ·rw[show max a b-i=0 by lia]at hl;simp at hl
  obtain⟨n,hn⟩:∃n,max a b-i=n+1:=⟨max a b-i-1,by lia⟩;rw[hn,List.range'_succ]at hl;obtain⟨rfl,rfl⟩:=List.cons.inj hl;refine wpAny_mono (turn x c s h1 (by lia) hI) (λr s' h'=>?_) λ_ _ h'=>h';cases r with
  | done c'=>exact h'
  | yield c'=>exact⟨x+1,by lia,by lia,by congr 1;lia,h'⟩
 ·rintro c s ⟨i,h1,h2,hl,hI⟩;have e:i=max a b:=by
   rcases YG i (max a b)with h' | h'
   ·obtain⟨n,hn⟩:∃n,max a b-i=n+1:=⟨max a b-i-1,by lia⟩;rw[hn,List.range'_succ]at hl;simp at hl
   ·lia
  subst e;exact fin _ _ hI
theorem zgX (l:Addr)(items:Array Value)(n:Nat)(dd:Option Addr)(sl:Array (Option Value))(x:Value)(e:Value->Bool)(j:Nat)(hj:j<items.size)
  (hit:e items[j]=true) (hno:∀m (hm:m<items.size),m<j->e items[m]=false) :
  Meets (Builtin.«tuple.index» ⟨[.ref l,x],[]⟩)
   (λA R s=>s.heap.get? l=some { cls:=.type "tuple",dict:=dd,data:=.seq items n,slots:=sl }/\(∀y,y∈items->EqAt A.in1 s y x (e y))/\R (.ok (.ret (.int j s.toks))) { s with toks:=s.toks+1 }):=
 .of_wp λprog w A R s h=>by
  obtain⟨hp,g,d,tk,os⟩:=s;obtain⟨hl,he,h⟩:=h
  wp_walk using wpAny_loadPart' hl,zhX (λi (b:Option _×Unit) s'=>b.1=none/\s'=⟨hp,g,d,tk,os⟩/\i<=j) _
  case turn=>
   rintro i b s' h0 hi ⟨hb,rfl,hij⟩;have hi':i<items.size:=by lia
   rw[show items[i]? = some items[i] from Array.getElem?_eq_getElem hi'];refine wpAny_bind (he _ (Array.getElem_mem hi') prog w _ _ ?_);by_cases ej:i=j
   ·subst ej;rw[hit]
    wp_walk
    exact⟨_,rfl,h⟩
   ·rw[hno i hi' (by lia)]
    wp_walk
    exact⟨rfl,rfl,by lia⟩
  case fin=>
   rintro b s' ⟨hb,rfl,hij⟩;exact absurd hij (by lia)
  case h=>exact⟨rfl,rfl,XU _⟩
end PySem.SeqAt
namespace _L
open PySem PySem.Spec PyProof.Rows
section
variable {X:Cx}
noncomputable def rIdx (sq:Hp->Addr->List V->Prop):V->List V->Hp->VK->Prop:=λx vs H Q=>∃(p:Addr)(xs:List V)(y:V)(j:Nat),x=.ref p/\vs=[y]/\sq H p xs/\zdK y=true/\xs.all zdK=true/\(∃w,xs[j]? = some w/\eqV w y=true)/\(∀m w,m<j->xs[m]? = some w->eqV w y=false)/\Q (.int (j:Int)) H
theorem zmS:∀ {xs:List V}{us:List Value}{m:Nat}{u:Value},Vals xs us->us[m]? = some u->∃w,xs[m]? = some w/\RelV w u
 | _,_,m,u,.nil,h=>by simp at h
 | x::xs,v::us,0,u,.cons r t,h=>by simp at h;subst h;exact⟨x,rfl,r⟩
 | x::xs,v::us,m+1,u,.cons r t,h=>by simpa using zmS t (by simpa using h)
theorem zqM {xs:List V}{m:Nat}{w:V}(f:xs.all zdK=true)(h:xs[m]? = some w):zdK w=true:=XV.mp f w (Xn h)
theorem zhY {xs:List V}{its:List Value}{y:V}{j:Nat}(r:Vals xs its)(fs:xs.all zdK=true)(h1:∃w,xs[j]? = some w/\eqV w y=true)(h2:∀m w,m<j->xs[m]? = some w->eqV w y=false) :
  ∃hj:j<its.toArray.size,eqU y its.toArray[j]=true/\∀m (hm:m<its.toArray.size),m<j->eqU y its.toArray[m]=false:=by
 have hl:=r.length;obtain⟨w,hw,ew⟩:=h1;have hj:j<xs.length:=(Xe.mp hw).1;have hj':j<its.length:=by lia
 have at_:∀m (hm:m<its.length),∀w,xs[m]? = some w->eqU y its[m]=eqV w y:=λm hm w hx=>by
  obtain⟨w',q1,q2⟩:=zmS r (Xa hm);rw[hx]at q1;cases q1;exact zpo q2 (zqM fs hx)
 refine⟨by simpa using hj',?_,λm hm hlt=>?_⟩
 ·have:=at_ j hj' w hw;simpa[ew]using this
 ·have hm':m<its.length:=by simpa using hm
  have hx:xs[m]? = some xs[m]:=Xa (by omega);have:=at_ m hm' _ hx;rw[h2 m _ hlt hx]at this;simpa using this
theorem zmT:MtR X "list.index" (rIdx λH p xs=>SqL X.K H p xs):=by
 intro pins s σ H x vs v us Q I rx rv h;obtain⟨p,xs,y,j,rfl,rfl,hq,fy,fs,h1,h2,q⟩:=h;cases rx;obtain⟨u,rfl,ru⟩:=rv.one;obtain⟨its,r,pl,hz⟩:=I.list hq;obtain⟨hj,e1,e2⟩:=zhY r fs h1 h2;obtain⟨⟨cls,dd,data,sl⟩,n,ho,hc,hd,hs⟩:=id pl;simp only at hc hd hs;subst hc hd hs;have hl:=r.length;have hz':=hz;rw[sizeLine_eq]at hz';have hj2:j<its.length:=by simpa using hj
 exact call_meets PySem.F.slot_list_index ⟨_,ho,rfl⟩ PySem.F.entry_list_index (PySem.F.args_list_index_2 _ _) (SeqAt.list_indexAt p its.toArray n _ sl u (eqU y) j hj (by lia) e1 e2) ⟨ho,λz hz=>zgF ru fy r fs z (by simpa using hz),⟨.int (j:Int),H,I.tok _,⟨_,rfl⟩,q⟩⟩
theorem zmU:MtR X "tuple.index" (rIdx λH p xs=>SqT X.K H p xs):=by
 intro pins s σ H x vs v us Q I rx rv h;obtain⟨p,xs,y,j,rfl,rfl,hq,fy,fs,h1,h2,q⟩:=h;cases rx;obtain⟨u,rfl,ru⟩:=rv.one;obtain⟨its,r,pl,hz⟩:=I.tuple hq;obtain⟨hj,e1,e2⟩:=zhY r fs h1 h2;obtain⟨⟨cls,dd,data,sl⟩,ho,hc,n,hd⟩:=id pl;simp only at hc hd;subst hc hd;exact call_meets PySem.F.slot_tuple_index ⟨_,ho,rfl⟩ PySem.F.entry_tuple_index (PySem.F.args_tuple_index_2 _ _) (SeqAt.zgX p its.toArray n dd sl u (eqU y) j hj e1 e2) ⟨ho,λz hz=>zgF ru fy r fs z (by simpa using hz),⟨.int (j:Int),H,I.tok _,⟨_,rfl⟩,q⟩⟩
theorem Inv.zsW {pins:List (Addr×Obj)}{σ:St}{H:Hp}{s:Shared}{a:Addr}{xs:List V}(I:Inv X pins σ H s)(h:SqT X.K H a xs):∃ob,s.heap.get? a=some ob/\ob.cls=.type "tuple"/\ob.dict=none:=by
 rcases h with h | ⟨o,its,n,hk,hc,hs,hz,r,hd⟩
 ·obtain⟨z,its,r,o,h1,h2,h3,h4⟩:=h.ok I.hok;exact⟨o,h1,h2,h4⟩
 ·exact⟨o,I.kIn a o hk,hc,hd⟩
variable {o e:Expr}{to te:TE}{name:Str}{apos cpos:Pos}{id:String}{r:V->List V->Hp->VK->Prop}
end
end _L
namespace _P
open PySem PySem.Spec _L
open PyProof.Rows hiding St
noncomputable def zfC:PV->Bool
 | .non=>true
 | .int _=>true
 | .str _=>true
 | _=>false
noncomputable def idxP (ds:List PV)(e:PV):Nat:=ds.findIdx λx=>decide (x=e)
section
variable {K:Xb}{Fz:FZ}{H:Hp}
theorem zkh {d:PV}{v:V}(f:zfC d=true)(h:Den K Fz H d v):zdK v=true:=by
 cases d with
 | non=>simp only[Den]at h;subst h;rfl
 | int i=>simp only[Den]at h;subst h;rfl
 | str x=>simp only[Den]at h;subst h;rfl
 | _=>exact absurd (show false=true from f) Xw
theorem zmV {d e:PV}{v w:V}(fd:zfC d=true)(fe:zfC e=true)(hd:Den K Fz H d v)(he:Den K Fz H e w):eqV v w=decide (d=e):=by
 cases d with
 | non=>
  simp only[Den]at hd;subst hd;cases e with
  | non=>simp only[Den]at he;subst he;simp[eqV]
  | int i=>simp only[Den]at he;subst he;simp[eqV]
  | str x=>simp only[Den]at he;subst he;simp[eqV]
  | _=>exact absurd (show false=true from fe) Xw
 | int i=>
  simp only[Den]at hd;subst hd;cases e with
  | non=>simp only[Den]at he;subst he;simp[eqV]
  | int i=>simp only[Den]at he;subst he;rw[zjR];rfl
  | str x=>simp only[Den]at he;subst he;simp[eqV]
  | _=>exact absurd (show false=true from fe) Xw
 | str x=>
  simp only[Den]at hd;subst hd;cases e with
  | non=>simp only[Den]at he;subst he;simp[eqV]
  | int i=>simp only[Den]at he;subst he;simp[eqV]
  | str x=>simp only[Den]at he;subst he;rw[zjS];rfl
  | _=>exact absurd (show false=true from fe) Xw
 | _=>exact absurd (show false=true from fd) Xw
theorem zhZ:∀ {ds:List PV}{xs:List V},ds.all zfC=true->DenL K Fz H ds xs->xs.all zdK=true
 | [],xs,_,h=>by simp only[DenL]at h;subst h;rfl
 | d::ds,xs,f,h=>by
  simp only[DenL]at h;obtain⟨v,r,rfl,h1,h2⟩:=h;rw[List.all_cons,YF]at f ⊢;exact⟨zkh f.1 h1,zhZ f.2 h2⟩
theorem zqN {ds:List PV}{xs:List V}{e:PV}{y:V}(f:ds.all zfC=true)(fe:zfC e=true)(h:DenL K Fz H ds xs)(hy:Den K Fz H e y)(hm:e∈ds) :
  (∃w,xs[idxP ds e]? = some w/\eqV w y=true)/\∀m w,m<idxP ds e->xs[m]? = some w->eqV w y=false:=by
 have hi:idxP ds e<ds.length:=List.findIdx_lt_length_of_exists ⟨e,hm,by simp⟩;have hl:=h.length;refine⟨?_,λm w hlt hw=>?_⟩
 ·obtain⟨w,q1,q2⟩:=h.get (Xa hi);refine⟨w,q1,?_⟩;have:=List.findIdx_getElem (p:=λx=>decide (x=e)) (xs:=ds) (w:=hi);rw[zmV (XV.mp f _ (Yr hi)) fe q2 hy];exact this
 ·have hm':m<ds.length:=by
   have:=(Xe.mp hw).1;lia
  obtain⟨w',q1,q2⟩:=h.get (Xa hm');rw[hw]at q1;cases q1;rw[zmV (XV.mp f _ (Yr hm')) fe q2 hy];have:=List.not_of_lt_findIdx (p:=λx=>decide (x=e)) (xs:=ds) hlt;simpa using this
end
theorem zmW {K:Xb}{Fz:FZ}{H:Hp}{d:PV}{v:V}(f:zfC d=true)(h:Root K Fz H d v):Den K Fz H d v:=by
 cases d with
 | non=>exact h
 | int i=>exact h
 | str x=>exact h
 | _=>exact absurd (show false=true from f) Xw
end _P
namespace _L
open PySem PySem.Spec PyProof.Rows
section
variable {X:Cx}
theorem zmX (hc:X.calm=true):zcr X (.builtin "sum") (λxs H Q=>∃(p:Addr) (ns:List Int),xs=[V.ref p]/\SqL X.K H p (ns.map V.int)/\Q (.int ns.sum) H):=by
 intro pins s σ H xs us Q I r h;obtain⟨p,ns,rfl,hq,q⟩:=h;obtain⟨u,rfl,rx⟩:=vals1 r;cases rx;obtain⟨its,r',pl,hz⟩:=I.list hq;have hI:IntsAre its ns:=intsAre_of r';have hl:=pl.isList;have hall:=hI.allInts;obtain⟨zs,ez⟩:=hall.items;rw[ez]at hl;refine sum_intListG (I.ok.hd hc) hl λh' tk t' hk=>?_;have en:preSum (numAt zs) zs.size=ns.sum:=by
  have e1:numsOf its.toArray.toList=ns:=hI.numsOf;rw[ez,nums_intItems]at e1;rw[preSum_eq,Xi (by simp),e1]
 rw[en];exact⟨.int ns.sum,H,I.kept hk,⟨_,rfl⟩,q⟩
theorem zmY (hc:X.calm=true){pins:List (Addr×Obj)}{σ:St}{H:Hp}{p it:Addr}{as:List Addr}{yss:List (List V)}{R:Result->Shared->Prop}(hq:SqL X.K H p (as.map V.ref))(hl:as.length=yss.length)(hy:∀(i:Nat) a ys,as[i]? = some a->yss[i]? = some ys->SqL X.K H a ys)(hf:FpOk X pins H it) :
  ∀(k i:Nat) (s:Shared),as.length-i=k->i<=as.length->Inv X pins σ H s->s.heap.IsListIter it p i->(∀s',Inv X pins σ H s'->R (.ok (.ret (.bool ((yss.drop i).all λys=>!ys.isEmpty)))) s')->codeAny (model X.prog X.w) X.A (.builtin "all.loop" ⟨[.ref it],[]⟩) R s:=by
 intro k;obtain⟨f0,f1,f2,f3,f4,f5⟩:=hf;induction k with
 | zero=>
  intro i s hk hi I st hR;obtain⟨its,rv,pl,hz⟩:=I.list hq;have hlen:=rv.length;rw[Xc]at hlen;refine codeAny_builtin F.entry_all_loop ?_;rw[Around.under_plainId F.plain_all_loop _];show wpAny _ X.A.in1 (pyNext (.ref it) >>= _) _ _ s;refine wpAny_bind (wpAny_pyNext_list_end (I.ok.hd hc) st pl.isList (by simp;lia) λh' eb=>?_);have I1:Inv X pins σ H { s with heap:=h' }:=I.turned (t':=s.toks) (λb o hb e=>eb b o hb e) f0 f1 f3 f4 f5;refine wpAny_bind (wpAny_rule (wpAny_pure ?_));have:=hR _ I1;rw[Yv (by lia)]at this;exact this
 | succ k ih=>
  intro i s hk hi I st hR;obtain⟨its,rv,pl,hz⟩:=I.list hq;have hlt:i<as.length:=by lia
  have hlt2:i<yss.length:=by lia
  obtain⟨u,hu,ru⟩:=rv.get (i:=i) (x:=.ref as[i]) (by simp[hlt]);cases ru;have hys:=hy i _ _ (Xa hlt) (Xa hlt2);have hd:yss.drop i=yss[i]::yss.drop (i+1):=YD hlt2;refine codeAny_builtin F.entry_all_loop ?_;rw[Around.under_plainId F.plain_all_loop _];show wpAny _ X.A.in1 (pyNext (.ref it) >>= _) _ _ s;refine wpAny_bind (wpAny_pyNext_list_item st pl.isList (x:=.ref as[i]) (by simpa using hu) λh' st' sb=>?_);have I1:Inv X pins σ H { s with heap:=h' }:=I.turned (t':=s.toks) (λb o hb e=>(sb.2 b hb).trans e) f0 f1 f3 f4 f5;obtain⟨its2,rv2,pl2,hz2⟩:=I1.list hys;have hlen2:=rv2.length;rw[sizeLine_eq]at hz2;refine wpAny_bind (wpAny_holding (wpAny_truthy_list pl2.isList (by simp only[Xq];lia) ?_));refine wpAny_bind (wpAny_letGo ?_);rw[zem rv2];have I2:=I1.tok (s.toks+1+1);cases hb:(yss[i]).isEmpty with
  | false=>
   refine wpAny_pure ⟨plainId_quiet F.plain_all_loop _,ih (i+1) _ (by lia) hlt I2 st' λs' I'=>?_⟩;have:=hR s' I';rw[hd,List.all_cons,hb]at this;simpa using this
  | true=>
   refine wpAny_bind (wpAny_rule (wpAny_pure ?_));have:=hR _ I2;rw[hd,List.all_cons,hb]at this;simpa using this
theorem zmZ (hc:X.calm=true):zcr X (.builtin "all") (λxs H Q=>∃(p:Addr) (as:List Addr) (yss:List (List V)),xs=[V.ref p]/\SqL X.K H p (as.map V.ref)/\as.length=yss.length/\(∀(i:Nat) a ys,as[i]? = some a->yss[i]? = some ys->SqL X.K H a ys)/\Q (.bl (yss.all λys=>!ys.isEmpty)) H):=by
 intro pins s σ H xs us Q I r h;obtain⟨p,as,yss,rfl,hq,hl,hy,q⟩:=h;obtain⟨u,rfl,rx⟩:=vals1 r;cases rx;obtain⟨its,r',pl,hz⟩:=I.list hq;have I1:Inv X pins σ H { s with heap:=s.heap.push { cls:=.type "list_iterator",data:=.fields #[.ref p,.int 0 0] } }:=I.kept (t':=s.toks) λb o e=>Xh _ e;refine call_function_tree F.kind_all F.plain_all F.entry_all (F.args_all1 _) ?_;unfold Builtin.«all»;refine wpAny_bind (m:=oneArg "all" _) (wpAny_pure ?_);refine wpAny_bind (wpAny_pyIter_list pl.isList (wpAny_pure ⟨plainId_quiet F.plain_all_loop _,?_⟩));refine zmY hc hq hl hy (I.fpOk (Xf _) (I.hok.fresh (Xf _))) _ 0 _ rfl (XU _) I1 ⟨_,XC _ rfl,rfl,rfl⟩ λs' I'=>?_;exact⟨.bl _,H,I',rfl,by simpa using q⟩
end
end _L
namespace _P
open PySem PySem.Spec _L
open PyProof.Rows hiding St
section
variable {X:Cx}
noncomputable def fSum:PF:=λds Q=>∃ns:List Int,ds=[.lst (ns.map PV.int)]/\Q (.int ns.sum) .frz
theorem zgo {K:Xb}{Fz:FZ}{H:Hp}:∀ {ns:List Int}{xs:List V},DenL K Fz H (ns.map PV.int) xs->xs=ns.map V.int
 | [],xs,h=>by simpa only[XT,DenL]using h
 | n::ns,xs,h=>by
  simp only[XT,DenL,Den]at h;obtain⟨v,r,rfl,rfl,h⟩:=h;rw[zgo h];rfl
theorem zsX:zeq X.K (λxs H Q=>∃(p:Addr)(ns:List Int),xs=[V.ref p]/\SqL X.K H p (ns.map V.int)/\Q (.int ns.sum) H) fSum where
 mono ds Q Q' m h:=by obtain⟨ns,e,q⟩:=h;exact⟨ns,e,m _ _ q⟩
 run Fz H ds vs Q al hr h:=by
  obtain⟨ns,rfl,q⟩:=h;obtain⟨v,rfl,h1⟩:=zdo hr;obtain⟨a,xs,rfl,h2,h3⟩:=zan h1;rw[zgo h3]at h2;exact⟨a,ns,rfl,h2,q _ Fz H (.val al (by simp only[Den]))⟩
noncomputable def fOrd:PF:=λds Q=>∃x:Str,ds=[.str x]/\x.length=1/\Q (.int (x.cps.getD 0 0:Nat)) .frz
theorem zsY:zeq X.K (λxs H Q=>∃x,xs=[V.str x]/\x.length=1/\Q (.int (x.cps.getD 0 0:Nat)) H) fOrd where
 mono ds Q Q' m h:=by obtain⟨x,e,e2,q⟩:=h;exact⟨x,e,e2,m _ _ q⟩
 run Fz H ds vs Q al hr h:=by
  obtain⟨x,rfl,e2,q⟩:=h;obtain⟨v,rfl,h1⟩:=zdo hr;exact⟨x,by rw[zbB h1],e2,q _ Fz H (.val al (by simp only[Den]))⟩
noncomputable def zdk:PF:=λds Q=>∃dss:List (List PV),ds=[.lst (dss.map PV.lst)]/\Q (.bl (dss.all λd=>!d.isEmpty)) .frz
theorem zia {K:Xb}{Fz:FZ}{H:Hp}:∀ {dss:List (List PV)}{xs:List V},DenL K Fz H (dss.map PV.lst) xs->∃(as:List Addr)(yss:List (List V)),xs=as.map V.ref/\as.length=yss.length/\(∀(i:Nat) a ys,as[i]? = some a->yss[i]? = some ys->SqL K H a ys)/\(yss.all λys=>!ys.isEmpty)=dss.all λd=>!d.isEmpty
 | [],xs,h=>by
  simp only[XT,DenL]at h;exact⟨[],[],by rw[h];rfl,rfl,λi a ys h=>by simp at h,rfl⟩
 | d::dss,xs,h=>by
  simp only[XT,DenL,Den]at h;obtain⟨v,r,rfl,⟨a,ys,rfl,h1,h2⟩,h⟩:=h;obtain⟨as,yss,e,el,hs,hb⟩:=zia h;have hl:=h2.length;refine⟨a::as,ys::yss,by rw[e];rfl,by simp[el],λi b zs q1 q2=>?_,?_⟩
  ·cases i with
   | zero=>simp at q1 q2;subst q1 q2;exact h1.elim (λz=>.inl z.2) KX.sq
   | succ i=>exact hs i b zs (by simpa using q1) (by simpa using q2)
  ·rw[List.all_cons,List.all_cons,hb];cases d with
   | nil=>cases ys with
    | nil=>rfl
    | cons _ _=>simp at hl
   | cons _ _=>cases ys with
    | nil=>simp at hl
    | cons _ _=>rfl
theorem zqO:zeq X.K (λxs H Q=>∃(p:Addr)(as:List Addr)(yss:List (List V)),xs=[V.ref p]/\SqL X.K H p (as.map V.ref)/\as.length=yss.length/\(∀(i:Nat) a ys,as[i]? = some a->yss[i]? = some ys->SqL X.K H a ys)/\Q (.bl (yss.all λys=>!ys.isEmpty)) H) zdk where
 mono ds Q Q' m h:=by obtain⟨ns,e,q⟩:=h;exact⟨ns,e,m _ _ q⟩
 run Fz H ds vs Q al hr h:=by
  obtain⟨dss,rfl,q⟩:=h;obtain⟨v,rfl,h1⟩:=zdo hr;obtain⟨a,xs,rfl,h2,h3⟩:=zan h1;obtain⟨as,yss,rfl,el,hs,hb⟩:=zia h3;exact⟨a,as,yss,rfl,h2,el,hs,q _ Fz H (.val al (by simp only[Den];rw[hb]))⟩
variable {e:Expr}{es:List Expr}{t:TPA}{p pos:Pos}
theorem bSum:bootBuiltins "sum" = some (.builtin "sum"):=by decide +kernel
theorem bOrd:bootBuiltins "ord" = some (.builtin "ord"):=by decide +kernel
theorem zud:bootBuiltins "all" = some (.builtin "all"):=by decide +kernel
theorem zsZ (hc:X.calm=true)(hg:Gl X "sum") (hm:X.mg "sum" = none) (ha:PuA X (e::es) t) (he:autoParam (starEach (e::es) X.env=(false,eval e X.env)::starEach es X.env) aU0) (hpl:autoParam ((backTo pos (starEach es X.env)).any (·.1)=false) aU0):PuE X (.Call (.Name "sum" p) (e::es) [] pos) (tB fSum t):=
 zcn (zmX hc) zsX hg hm bSum ha (by decide) (by decide) he hpl
theorem zta (hg:Gl X "ord") (hm:X.mg "ord" = none) (ha:PuA X (e::es) t) (he:autoParam (starEach (e::es) X.env=(false,eval e X.env)::starEach es X.env) aU0) (hpl:autoParam ((backTo pos (starEach es X.env)).any (·.1)=false) aU0):PuE X (.Call (.Name "ord" p) (e::es) [] pos) (tB fOrd t):=
 zcn znZ zsY hg hm bOrd ha (by decide) (by decide) he hpl
theorem zqP (hc:X.calm=true)(hg:Gl X "all") (hm:X.mg "all" = none) (ha:PuA X (e::es) t) (he:autoParam (starEach (e::es) X.env=(false,eval e X.env)::starEach es X.env) aU0) (hpl:autoParam ((backTo pos (starEach es X.env)).any (·.1)=false) aU0):PuE X (.Call (.Name "all" p) (e::es) [] pos) (tB zdk t):=
 zcn (zmZ hc) zqO hg hm zud ha (by decide) (by decide) he hpl
end
section
variable {X:Cx}{pos:Pos}
noncomputable def zdD:TPE:=λ_ Q=>Q (.dK [] []) .new
theorem zna:PuE X (.Dict [] [] pos) zdD where
 mono ρ Q Q' m h:=m _ _ h
 run:=PE.weak zjJ λσ H Q h=>by
  obtain⟨ρ,Fz,R,h⟩:=h;exact λp hp=>h _ Fz _ ⟨Ext.laid ⟨Same.refl H,λ_ h=>h,λ_ h=>.inl h,R.al⟩ hp,p,rfl,hp,λz=>R.al p z hp,[],zag,rfl,DenL.nil⟩
end
noncomputable def keyT (k:List Key):PV:=.tup (k.map keyP)
section
variable {K:Xb}{Fz:FZ}{H:Hp}
theorem zib:∀ {k:List Key}{xs:List V},DenL K Fz H (k.map keyP) xs->xs=k.map kV
 | [],xs,h=>by simpa only[XT,DenL]using h
 | c::k,xs,h=>by
  simp only[XT,DenL]at h;obtain⟨v,r,rfl,h1,h2⟩:=h;rw[zib h2,zeZ (show Root K Fz H (keyP c) v by cases c<;>exact h1)];rfl
theorem zic {k:List Key}{x:V}(h:Root K Fz H (keyT k) x):∃b,x=.ref b/\H b=some (.tup (k.map kV)):=by
 obtain⟨b,xs,rfl,h1,h2⟩:=zdS h;rw[zib h2]at h1;exact⟨b,rfl,h1⟩
end
section
variable {X:Cx}{a b c:Expr}{ta tb tc:TPE}{pos apos cpos:Pos}
theorem zqQ {p:P2}(hp:POp X.K (rDI false) p)(ha:PuE X a ta)(hb:PuE X b tb){σ:St}{H:Hp}{Q:VK}(h:lift X.K (t2 p ta tb) σ H Q):tDIn (lift X.K ta) (lift X.K tb) σ H Q:=by
 have:=zhI hp ha hb h;exact this
theorem ztb (hu:X.A.units+1<cLine)(ha:PuE X a ta)(hb:PuE X b tb)(hm:autoParam (behindInMarks .In b=false) aU0):PuE X (.Compare a [.In] [b] pos) (t2 (pDI false) ta tb):=
 ⟨zep zsS ha hb,PE.weak (zrz (zsg hu ha.run hb.run) hm) λ_ _ _ h=>zqQ zsS ha hb h⟩
noncomputable def zce (ta tb tc:TPE):TPE:=λρ Q=>ta ρ λd kd=>∃ks ds,d=.dT ks ds/\isOwn kd=false/\tb ρ λe _=>∃k,e=keyT k/\tc ρ λf kf=>isOwn kf=false/\Q ((dgP ks ds k).getD f) .frz
theorem zoE (hu:X.A.units+1<cLine)(ha:PuE X a ta)(hb:PuE X b tb)(hc:PuE X c tc)(m:autoParam (M2 X a "get" apos b c cpos) aU7):PuE X (.Call (.Attribute a "get" apos) [b,c] [] cpos) (zce ta tb tc) where
 mono ρ Q Q' mm h:=ha.mono ρ _ _ (λd _ q112q=>by obtain⟨ks,ds,e1,e2,h⟩:=q112q;exact⟨ks,ds,e1,e2,hb.mono ρ _ _ (λe _ q113q=>by obtain⟨k,e3,h⟩:=q113q;exact⟨k,e3,hc.mono ρ _ _ (λf _ q114q=>by obtain⟨e4,q⟩:=q114q;exact⟨e4,mm _ _ q⟩) h⟩) h⟩) h
 run:=PE.weak (zoj hu ha.run hb.run hc.run m) λσ H Q h=>by
  obtain⟨ρ,Fz,R,h⟩:=h;refine⟨ρ,Fz,R,ha.mono ρ _ _ (λd kd q v F1 H1 p1=>?_) h⟩;obtain⟨ks,ds,rfl,ho,q⟩:=q;obtain⟨F1',x1,s1,d1⟩:=p1.frozen (zgT ho);have R1:=R.ext x1;simp only[Den]at d1;obtain⟨a,xs,rfl,f1,r1,l1,dl1⟩:=d1;refine⟨a,rfl,.inr ⟨_,r1⟩,ρ,F1',R1,hb.mono ρ _ _ (λe ke q w F2 H2 p2=>?_) q⟩;obtain⟨k,rfl,q⟩:=q;have R2:=R1.ext p2.ext;obtain⟨bb,rfl,hbb⟩:=zic (p2.root R1);refine⟨ρ,F2,R2,hc.mono ρ _ _ (λf kf q u F3 H3 p3=>?_) q⟩;obtain⟨ho3,q⟩:=q;obtain⟨F4,x4,s4,d4⟩:=p3.frozen (zgT ho3);have kp:Keep F1' H1 H3:=.of (p2.ext.same.trans x4.same);have sb:∀b,F1' b->F4 b:=λb h=>x4.sub b (p2.ext.sub b h);have r3:Rd H3 a (.dT (ks.zip xs)):=kp.rd trivial f1 r1;have dl3:DenL X.K F4 H3 ds xs:=DenL.mono kp sb _ _ dl1;refine⟨valV (ks.zip xs) k,.inr ⟨_,k,bb,r3,rfl,x4.same _ _ hbb,rfl⟩,q _ F4 H3 ⟨(x1.trans p2.ext).trans x4,?_⟩⟩;show Den _ _ _ _ _;cases e:dgP ks ds k with
  | none=>rw[(zhV ks ds xs k dl3).2 e];exact d4
  | some d'=>obtain⟨v,e5,h5⟩:=(zhV ks ds xs k dl3).1 d' e;rw[e5];exact h5
end
end _P
namespace PySem
section
variable {prog:Program}{w:World}{K:Type} [DecidableEq K] {knd:HeapKind prog w K}{A:Around}{E:Value->Shared->Prop}{s:Shared}
theorem zeu {d a:Addr}{xs:List (K×Addr×Value)}{k:K}{v:Value}{Q:Value->Shared->Prop}(hu:knd.room A)(hkey:knd.is s.heap k a)(hm:s.heap.DictOfH knd d xs)
  (there:∀p,atKey xs k=some p->Q p.2 { s with toks:=s.toks+knd.draws k })
  (fresh:atKey xs k=none->∀h',h'.DictOfH knd d (storedH xs k a v)->Yh d s.heap h'->Q v { s with heap:=h',toks:=s.toks+knd.draws k })
  (hsz:xs.length<=sizeLine):wpAny (model prog w) A (dictSetDefault d (.ref a) v) Q E s:=by
 obtain⟨ob,es,ep,hob,hcl,hdt,hes,hks,hnd⟩:=hm;unfold dictSetDefault;refine wpAny_holding ?_;refine wpAny_bind (knd.pyHash hu hkey (wpAny_bind (wpAny_dictFind_heap (s:={ s with toks:=s.toks+knd.draws k }) hu hkey hob hdt hes hks hnd (λhno=>?_) λj q hj=>?_)))
 ·have hk0:=atKey_none_of_get hno;have hnew:k∉xs.map (·.1):=not_mem_keys_of_get hno;refine wpAny_bind (wpAny_rule (wpAny_bind (wpAny_updateDictKeys (hz:=by have e:=size_of_entries hes;lia) (s:={ s with toks:=s.toks+knd.draws k }) hob hdt (wpAny_pure (fresh hk0 _ ?_ (Yh.update ..))))));refine⟨_,_,ep+1,Yl _ hob (Obj.isFreed_of_dict (Obj.data_mapDictKeys hdt _)),hcl.mapDictKeys _,Obj.data_mapDictKeys hdt _,?_,?_,?_⟩<;>rw[storedH_new hk0]
  ·simp[hes,entryOfKey]
  ·intro y hy;rcases Xr.mp hy with hy | hy
   ·exact knd.keeps (hks y hy) hob hdt (Yh.update ..)
   ·have:=Xl.mp hy;subst this;exact knd.keeps hkey hob hdt (Yh.update ..)
  ·rw[Xm,YB];exact⟨hnd,by simp,λy hy z hz e=>hnew (by have:=Xl.mp hz;rw[e,this]at hy;exact hy)⟩
 ·refine wpAny_bind (wpAny_dictEntries (s:={ s with toks:=s.toks+knd.draws k }) hob hdt ?_);rw[entry_at hes j,hj];exact wpAny_bind (wpAny_rule (wpAny_pure (there q (atKey_of_get hnd hj))))
end
section
variable {prog:Program}{w:World}{K:Type} [DecidableEq K] (knd:HeapKind prog w K)(d a:Addr)
theorem zew (hd:(d == sysModules)=false)(v:Value) :
  MeetsIn prog w (Builtin.«dict.setdefault» ⟨[.ref d,.ref a,v],[]⟩) (λA R s=>knd.room A.in1/\∃k xs,knd.is s.heap k a/\s.heap.DictOfH knd d xs/\xs.length<=sizeLine/\
   (∀p,atKey xs k=some p->R (.ok (.ret p.2)) { s with toks:=s.toks+knd.draws k })/\
   (atKey xs k=none->∀h',h'.DictOfH knd d (storedH xs k a v)->Yh d s.heap h'->R (.ok (.ret v)) { s with heap:=h',toks:=s.toks+knd.draws k })):=
 .of_wp λA R s qa5=>by
  obtain⟨hu,k,xs,hkey,hm,hsz,h1,h2⟩:=qa5;unfold Builtin.«dict.setdefault»;refine wpAny_bind ?_;unfold Builtin.Dict.keyAndDefault;refine wpAny_bind (wpAny_notOrdered_dict hm.typeIs (wpAny_pure ?_));show wpAny _ _ (if (d == sysModules)=true then _ else(dictSetDefault d (.ref a) v >>= _)) _ _ s
  rw[if_neg (by rw[hd];exact Xw)];exact wpAny_bind (zeu hu hkey hm (λp hp=>wpAny_pure ⟨_,rfl,h1 p hp⟩) (λhn h' hm' hs=>wpAny_pure ⟨_,rfl,h2 hn h' hm' hs⟩) hsz)
end
end PySem
namespace _L
open PySem PySem.Spec PyProof.Rows
section
variable {X:Cx}{pins:List (Addr×Obj)}{σ:St}{H:Hp}{s:Shared}{a b:Addr}{kvs:List (List Key×V)}{k:List Key}{z:V}{r:Value}{A:Around}{E:Value->Shared->Prop}
theorem znb {Q:Value->Shared->Prop}(hu:A.units+1<cLine)(I:Inv X pins σ H s)(e:H a=some (.dT kvs))(eb:H b=some (.tup (k.map kV)))(l:kvs.length<sizeLine)(rz:RelV z r)
  (h1:∀v w' s',valV kvs k=some v->Inv X pins σ H s'->RelV v w'->Q w' s') (h2:valV kvs k=none->∀s',Inv X pins σ (upd H a (.dT (putK kvs k z))) s'->Q r s') :
  wpAny (model X.prog X.w) A (call (.builtin "dict.setdefault") [.ref a,.ref b,r]) Q E s:=by
 obtain⟨hz,hd,xs,rel,dd⟩:=zsd I.hok e;have hl:(putK kvs k z).length<=sizeLine:=by have:=zds kvs k z;lia
 have rv:=rel.val k;refine call_meetsIn PySem.F.slot_dict_setdefault dd.typeIs PySem.F.entry_dict_setdefault (PySem.F.args_dict_setdefault_3 _ _ _) (zew (tupleKind (zaD X.prog X.w)) a b hd r)
  ⟨tupleKind_room_in1 hu,k,xs,zhA I.hok eb,dd,by rw[<- Paired.length rel];exact hz,λp hp=>?_,λhn h' dd' hs=>?_⟩
 ·rw[hp]at rv;cases hv:valV kvs k with
  | none=>rw[hv]at rv;cases rv
  | some v=>
   rw[hv]at rv;exact h1 v p.2 _ hv (I.tok _) rv
 ·have hvn:valV kvs k=none:=by
   rw[hn]at rv;cases hv:valV kvs k with
   | none=>rfl
   | some v=>rw[hv]at rv;cases rv
  refine h2 hvn _ ?_;obtain⟨q,es,ep,hq,g2,g3,g4,_,g5⟩:=dd';refine ziV I (by rw[e];exact True.intro) hs ⟨q,hq⟩ ⟨hl,hd,_,(rel.put k eb rz).keeps λc ys ec=>?_,q,es,ep,hq,g2,g3,g4,g5⟩;rw[zaf (zrv ec e (λy=>nomatch y))];exact ec
end
noncomputable def zue (td ty tx:TE):TE:=λσ H Q=>td σ H λx H1=>∃a,x=.ref a/\IsD H1 a/\ty σ H1 λy H2=>tx σ H2 λz H3=>∃kvs k b,H3 a=some (.dT kvs)/\y=.ref b/\H3 b=some (.tup (k.map kV))/\kvs.length<sizeLine/\
 (∀v,valV kvs k=some v->Q v H3)/\(valV kvs k=none->Q z (upd H3 a (.dT (putK kvs k z))))
section
variable {X:Cx}{o e f:Expr}{apos cpos:Pos}{td ty tx:TE}
theorem zqR (hu:X.A.units+1<cLine)(ho:PE X o td)(he:PE X e ty)(hf:PE X f tx)(m:M2 X o "setdefault" apos e f cpos):PE X (.Call (.Attribute o "setdefault" apos) [e,f] [] cpos) (zue td ty tx):=by
 intro pins s σ H Q I h;refine wpAny_Call_method m.base m.few m.line PySem.F.plainAttrs_dict PySem.F.slot_dict_setdefault PySem.F.type_dict_setdefault (thn (ho pins s σ H _ I h) λu s1 q116q=>?_);obtain⟨x,H1,I1,rx,a,ex,d,q1⟩:=q116q;subst ex;obtain rfl:u=Value.ref a:=rx;obtain⟨t1,t2,_⟩:=zpq I1 d;refine⟨t1,t2,?_⟩;rw[m.trees];refine Calls.callWith_builtin rfl (Calls.evalArgs_plain (Calls.spliced_cons (thn (he pins s1 σ H1 _ I1 q1) λiv s2 ⟨y,H2,I2,ry,q2⟩=>
  Calls.spliced_cons (thn (hf pins s2 σ H2 _ I2 q2) λfv s3 qa3=>Calls.spliced_nil ?_))))
 obtain⟨z,H3,I3,rz,kvs,k,b,ea,ey,eb,hl,q3,q4⟩:=qa3;subst ey;obtain rfl:iv=Value.ref b:=ry;exact znb hu I3 ea eb hl rz (λv w' s' hv I' rv=>⟨v,H3,I',rv,q3 v hv⟩) λhn s' I'=>⟨z,_,I',rz,q4 hn⟩
end
end _L
namespace _P
open PySem PySem.Spec _L
open PyProof.Rows hiding St
noncomputable def hasT (ks:List (List Key))(k:List Key):Bool:=ks.any λc=>decide (c=k)
theorem zgY {ks:List (List Key)}{k:List Key}:hasT ks k=true↔k∈ks:=by
 unfold hasT;rw[List.any_eq_true];constructor
 ·rintro⟨c,hc,e⟩;have:c=k:=by simpa using e
  rw[<- this];exact hc
 ·exact λh=>⟨k,h,by simp⟩
noncomputable def zcC (ks:List (List Key))(ds:List PV)(k:List Key):List (List Key)×List PV:=if hasT ks k=true then(ks,ds) else(ks++[k],ds++[.dK [] []])
noncomputable def zid (cs:List Key)(es:List PV)(c:Key)(d:PV):PV:=if hasK cs c=true then .dK cs (putD cs es c d) else .dK (cs++[c]) (es++[d])
noncomputable def ixK (ks:List (List Key))(k:List Key):Nat:=ks.findIdx λx=>decide (x=k)
noncomputable def zcf (z iy:Nat)(tk ti tv:TPE):TPB:=λρ β O=>∃ks ds,β=.T ks ds/\iy<ρ.length/\rdE z tk ρ β λdk=>∃k,dk=keyT k/\ks.length<sizeLine/\
 rdE z tv (ρ.set iy none) (.T (zcC ks ds k).1 (zcC ks ds k).2) λdv=>rdE z ti (ρ.set iy none) (.T (zcC ks ds k).1 (zcC ks ds k).2) λdi=>∃c cs es,di=keyP c/\(zcC ks ds k).2[ixK (zcC ks ds k).1 k]? = some (.dK cs es)/\cs.length<sizeLine/\
  O.nx (ρ.set iy none) (.T (zcC ks ds k).1 ((zcC ks ds k).2.set (ixK (zcC ks ds k).1 k) (zid cs es c dv)))
theorem znc {ks:List (List Key)}{vs:List V}{k:List Key}(hl:ks.length=vs.length):valV (ks.zip vs) k=none↔k∉ks:=by
 unfold valV;rw[Option.map_eq_none_iff,List.find?_eq_none];constructor
 ·intro h hk;obtain⟨i,hi,e⟩:=List.getElem_of_mem hk;have:=h (ks[i],vs[i]'(by lia)) (by
   rw[YH];exact⟨i,by simp;lia,by simp⟩)
  simp[e]at this
 ·intro h x hx;have:=(List.of_mem_zip (a:=x.1) (b:=x.2) hx).1;simp;exact λz=>h (z▸this)
theorem znd {ks:List (List Key)}{vs:List V}{k:List Key}{v:V}(hl:ks.length=vs.length)(h:valV (ks.zip vs) k=some v):k∈ks/\vs[ixK ks k]? = some v:=by
 induction ks generalizing vs with
 | nil=>simp[valV]at h
 | cons c ks ih=>
  cases vs with
  | nil=>simp at hl
  | cons x vs=>
   by_cases e:c=k
   ·subst e;have:x=v:=by simpa[valV]using h
    subst this;exact⟨Xj ..,by simp[ixK,List.findIdx_cons]⟩
   ·have h':valV (ks.zip vs) k=some v:=by simpa[valV,Ys,e]using h
    obtain⟨q1,q2⟩:=ih (by simpa using hl) h';refine⟨Xg _ q1,?_⟩;have:ixK (c::ks) k=ixK ks k+1:=by unfold ixK;simp[List.findIdx_cons,e]
    rw[this,List.getElem?_cons_succ];exact q2
theorem zjk {ks:List (List Key)}{k:List Key}(h:k∉ks):ixK (ks++[k]) k=ks.length:=by
 unfold ixK;induction ks with
 | nil=>simp[List.findIdx_cons]
 | cons c ks ih=>
  have e:¬ c=k:=λz=>h (z▸Xj ..);have:=ih λz=>h (Xg _ z);simp[List.findIdx_cons,e,this]
theorem zoF {ks:List (List Key)}{vs:List V}{k:List Key}{v:V}(hl:ks.length=vs.length)(h:k∉ks):putK (ks.zip vs) k v=(ks++[k]).zip (vs++[v]):=by
 unfold putK;have:((ks.zip vs).any λkv=>decide (kv.1=k))=false:=by
  rw[List.any_eq_false];intro x hx;have:=(List.of_mem_zip (a:=x.1) (b:=x.2) hx).1;simp;exact λz=>h (z▸this)
 rw[this,List.zip_append hl];rfl
section
variable {X:Cx}{z iy:Nat}{ek ei ev:Expr}{tk ti tv:TPE}{x y:Str}{rest:List Stmt}{t:TPB}{p p1 p2 p3 p4 apos cpos pos1 pos2 dpos:Pos}
theorem zoG (hu:X.A.units+1<cLine)(hN:X.N.Nodup)(hk:PuE X ek tk)(hi:PuE X ei ti)(hv:PuE X ev tv)(hr:PuB X z rest t)(hz:autoParam (X.N[z]? = some x) aU0)(hy:autoParam (X.N[iy]? = some y) aU0)(hly:Loc X.env.scope y:=by first | exact Or.inl rfl | exact Or.inr rfl)(hzy:autoParam (iy≠z) aU1)
  (hvx:autoParam (Vis X.env.scope x) aU4) (hvy:autoParam (Vis X.env.scope y) aU4) (hd:autoParam ((x == ("__debug__" : Str))=false) aU1) (hcd:autoParam ((x == ("__classdict__" : Str))=false) aU1) (hd2:autoParam ((y == ("__debug__" : Str))=false) aU1) (hcd2:autoParam ((y == ("__classdict__" : Str))=false) aU1)
  (m:autoParam (M2 X (.Name x p) "setdefault" apos ek (.Dict [] [] dpos) cpos) aU7) (hs1:autoParam (swapsWith (.Call (.Attribute (.Name x p) "setdefault" apos) [ek,.Dict [] [] dpos] [] cpos) (some (.Name y p1)) pos1.line X.env=pure false) aU0)
  (hf:autoParam (X.fn y=true\/X.env.scope.names.lookup y=some .local) aU2) (hs2:autoParam (swapsWith ev (some (.Subscript (.Name y p2) ei p3)) pos2.line X.env=pure false) aU0) :
  PuB X z (.Assign [.Name y p1] (.Call (.Attribute (.Name x p) "setdefault" apos) [ek,.Dict [] [] dpos] [] cpos) pos1::.Assign [.Subscript (.Name y p2) ei p3] ev pos2::rest) (zdi (zcf z iy tk ti tv) t) where
 mono ρ β O O' m h:=by
  obtain⟨ks,ds,e0,el,h⟩:=h;exact⟨ks,ds,e0,el,hk.mono _ _ _ (λd k q119q=>by obtain⟨e1,e2,kk,q2,q3,q⟩:=q119q;exact⟨e1,e2,kk,q2,q3,hv.mono _ _ _ (λd k q120q=>by obtain⟨e1,e2,q⟩:=q120q;exact⟨e1,e2,hi.mono _ _ _ (λd k q121q=>by obtain⟨e1,e2,c,cs,es,q1,q2,q3,q⟩:=q121q;exact⟨e1,e2,c,cs,es,q1,q2,q3,hr.mono _ _ _ _ m q⟩) q⟩) q⟩) h⟩
 run:=PSs.weak (zcT (zjG hN hy hly (zqR hu (zdm hz hvx hd hcd) hk.run zjJ m) hs1 hf) (zcT (zlQ hu (zdm hy hvy hd2 hcd2) hi.run hv.run hs2) hr.run)) λD σ H h=>by
  obtain⟨ρ,Fz,β,a,bs,R,ks,ds,rfl,hiyl,h⟩:=h;have hok:ks.length=ds.length:=R.box.ok;have hbl:=R.box.own.length;have hbl:ds.length=bs.length:=hbl;have fin:∀(k:List Key) (H':Hp) (ks1:List (List Key)) (ds1:List PV) (bs1:List Addr) (bb:Addr),RelB X.K Fz (ρ.set iy none) (.T ks1 ds1) (σ.set iy (some (.ref bb))) H' z a bs1->bs1[ixK ks1 k]? = some bb->zbs (OB ρ σ (a::bs)) Fz H Fz H'->InO (OB ρ σ (a::bs)) H (OB (ρ.set iy none) (σ.set iy (some (.ref bb))) (a::bs1))->
    (rdE z tv (ρ.set iy none) (.T ks1 ds1) λdv=>rdE z ti (ρ.set iy none) (.T ks1 ds1) λdi=>∃c cs es,di=keyP c/\ds1[ixK ks1 k]? = some (.dK cs es)/\cs.length<sizeLine/\zgb t (outB X.K z D (OB ρ σ (a::bs)) Fz H) (ρ.set iy none) (.T ks1 (ds1.set (ixK ks1 k) (zid cs es c dv))))->
    tSeq (zsf (tVar iy) (lift X.K ti) (lift X.K tv)) (zqH X.K z t) D (σ.set iy (some (.ref bb))) H':=λk H' ks1 ds1 bs1 bb RB hbb st oi q=>by
   refine zgn hv RB q λdv v H2 q nm2 x2 dv2=>⟨.ref bb,Xs (by rw[<- R.rel.len];exact hiyl),zgn hi (RB.ext x2) q λdi u H3 q nm3 x3 du=>?_⟩;obtain⟨c,cs,es,rfl,hcs,hcl,q⟩:=q;have RB3:=(RB.ext x2).ext x3;obtain⟨b',hb',ow⟩:=RB3.box.own.get (show(BX.T ks1 ds1).cts[ixK ks1 k]? = _ from hcs);rw[hbb]at hb';cases hb';obtain⟨xs,hbx,hxl,hxs⟩:=ow;have hu':u=kV c:=zeZ du.root;subst hu';have nfb:¬ Fz bb:=RB3.box.nf bb (Xg _ (Xn hbb));refine⟨bb,_,rfl,DPut.k hbx (by rw[List.length_zip];lia),?_⟩;have d3:=Den.mono (.of x3.same) (λ_ h=>h) _ _ dv2;have ow2:Own X.K Fz (upd H3 bb (.dK (putK (cs.zip xs) c v))) (zid cs es c dv) bb:=by
    unfold zid putK;rw[zmL hxl];by_cases hc:hasK cs c=true
    ·rw[if_pos hc,if_pos hc,zmK];exact⟨_,zag,by simp[hxl],DenL.rew' hbx (λz=>z) nfb (zjg c d3 cs es xs hxs)⟩
    ·rw[if_neg hc,if_neg hc];refine⟨xs++[v],?_,by simp[hxl],DenL.rew' hbx (λz=>z) nfb (DenL.snoc hxs d3)⟩;rw[zag,List.zip_append hxl];rfl
   have hok1:ks1.length=ds1.length:=RB3.box.ok;obtain⟨R4,s4⟩:=RB3.put hbb hbx (λy=>y) ow2 (.T ks1 (ds1.set (ixK ks1 k) (zid cs es c dv))) rfl rfl (by show ks1.length=(ds1.set _ _).length;rw[Yt];exact hok1);have s5:zbs (OB ρ σ (a::bs)) Fz H Fz _:=st.trans oi ((zbs.of (x2.trans x3)).trans InO.refl s4);exact⟨_,Fz,_,a,bs1,R4,hr.mono _ _ _ _ (zfa s5 oi) q⟩
  refine⟨_,R.sz,a,rfl,.inr ⟨_,.inl R.box.at_⟩,zgn hk R h λdk w H1 q nm x1 dw p hp=>?_⟩;obtain⟨k,rfl,hkl,q⟩:=q;have R1:=R.ext x1;have x2:Ext Fz H1 Fz (upd H1 p (.dK [])):=Ext.laid ⟨Same.refl _,λ_ h=>h,λ_ h=>.inl h,R1.rel.al⟩ hp;have R2:=R1.ext x2;obtain⟨b,rfl,hb⟩:=zic (Den.root dw);have hl2:ks.length=(bs.map V.ref).length:=by rw[Xc];lia
  refine⟨ks.zip (bs.map V.ref),k,b,R2.box.at_,rfl,x2.same _ _ hb,by rw[List.length_zip];lia,λv hv0=>?_,λhn=>?_⟩
  ·obtain⟨hkm,hat⟩:=znd hl2 hv0;rw[Xd]at hat;cases hbb:bs[ixK ks k]? with
   | none=>rw[hbb]at hat;cases hat
   | some bb=>
    rw[hbb]at hat;cases hat;have es:zcC ks ds k=(ks,ds):=by unfold zcC;rw[if_pos (zgY.mpr hkm)]
    rw[es]at q;exact fin k _ ks ds bs bb ⟨R2.rel.unset,by rw[Xo hzy];exact R2.hz,by rw[Xo hzy];exact R2.sz,R2.box,λb hb w=>R2.no b hb (zbG b w)⟩ hbb (.of (x1.trans x2)) (λb hb=>.inl (hb.imp (zbG b) id)) q
  ·have hkm:k∉ks:=(znc hl2).mp hn;have es:zcC ks ds k=(ks++[k],ds++[.dK [] []]):=by unfold zcC;rw[if_neg (λz=>hkm (zgY.mp z))]
   rw[es]at q;rw[zoF hl2 hkm];have hpb:∀c∈a::bs,c≠p:=λc hc e=>by
    obtain⟨o,ho,_⟩:=R1.box.has hc;rw[e,hp]at ho;cases ho
   have hpa:a≠p:=hpb a (Xj ..);have nfp:¬ Fz p:=λw=>R1.rel.al p w hp;have nop:¬ zaI ρ σ p:=λ⟨i,d,g1,g2⟩=>by
    obtain⟨a0,q1,_,q3⟩:=R1.rel.own i d g1;rw[g2]at q1;cases q1;obtain⟨o,q4,_⟩:=q3.at;rw[hp]at q4;cases q4
   have hat2:(upd H1 p (HO.dK [])) a=some ((BX.T ks ds).obj bs):=R2.box.at_;have kp:Keep Fz (upd H1 p (.dK [])) (upd (upd H1 p (.dK [])) a (.dT ((ks++[k]).zip (bs.map V.ref++[.ref p])))):=.mk' λc o e hw=>by
    have ne:c≠a:=λy=>by
     subst y;rcases hw with hw | hw
     ·exact R2.box.nf c (Xj ..) hw
     ·rw[hat2]at e;cases e;exact hw
    rw[zaf ne];exact e
   have hbs:∀c∈bs,c≠a:=λc hc e=>(Yi.mp R.box.nd).1 (by rw[<- e];exact hc);have rel3:=R2.rel.other (o:=.dT ((ks++[k]).zip (bs.map V.ref++[.ref p]))) hat2 (λy=>y) (R2.box.nf a (Xj ..)) (R2.no a (Xj ..));have Rn:RelB X.K Fz (ρ.set iy none) (.T (ks++[k]) (ds++[.dK [] []])) (σ.set iy (some (.ref p))) (upd (upd H1 p (.dK [])) a (.dT ((ks++[k]).zip (bs.map V.ref++[.ref p])))) z a (bs++[p]):=by
    refine⟨rel3.unset,by rw[Xo hzy];exact R2.hz,by rw[Xo hzy];exact R2.sz,⟨?_,?_,?_,?_,λc hc=>?_⟩,λc hc w=>?_⟩
    ·show _=some (HO.dT ((ks++[k]).zip ((bs++[p]).map V.ref)));rw[zag,Xm];rfl
    ·show(ks++[k]).length=(ds++[_]).length;simp[hok]
    ·show OwnL _ _ _ (ds++[_]) (bs++[p]);have op:Own X.K Fz (upd (upd H1 p (.dK [])) a (.dT ((ks++[k]).zip (bs.map V.ref++[.ref p])))) (.dK [] []) p:=⟨[],by rw[zaf (Ne.symm hpa),zag];rfl,rfl,DenL.nil⟩;refine OwnL.snoc op (R2.box.own.mono kp (λ_ h=>h) λc hc o ho=>?_);rw[zaf (hbs c hc)];exact ho
    ·have nd:=Yi.mp R.box.nd;rw[Yi];refine⟨λhm=>?_,?_⟩
     ·rcases Xr.mp hm with hm | hm
      ·exact nd.1 hm
      ·exact hpa (Xl.mp hm)
     ·rw[YB];exact⟨nd.2,by simp,λc hc d hd e=>hpb c (Xg _ hc) (by rw[e,Xl.mp hd])⟩
    ·rcases Xx.mp hc with rfl | hc
     ·exact R2.box.nf _ (Xj ..)
     ·rcases Xr.mp hc with hc | hc
      ·exact R2.box.nf c (Xg _ hc)
      ·rw[Xl.mp hc];exact nfp
    ·have w:=zbG c w;rcases Xx.mp hc with rfl | hc
     ·exact R2.no _ (Xj ..) w
     ·rcases Xr.mp hc with hc | hc
      ·exact R2.no c (Xg _ hc) w
      ·rw[Xl.mp hc]at w;exact nop w
   refine fin k _ (ks++[k]) (ds++[.dK [] []]) (bs++[p]) p Rn ?_ ?_ ?_ q
   ·rw[zjk hkm];have:ks.length=bs.length:=by lia
    rw[this,XQ (Xf _),Nat.sub_self];rfl
   ·refine(zbs.of (x1.trans x2)).trans InO.refl ⟨λ_ h=>h,λ_ h=>.inl h,λc o e n=>?_⟩;have ne:c≠a:=λy=>n (.inr (by rw[y];exact Xj ..));rw[zaf ne];exact e
   ·intro c hc;rcases hc with hc | hc
    ·exact .inl (.inl (zbG c hc))
    ·rcases Xx.mp hc with rfl | hc
     ·exact .inl (.inr (Xj ..))
     ·rcases Xr.mp hc with hc | hc
      ·exact .inl (.inr (Xg _ hc))
      ·rw[Xl.mp hc];exact .inr (x1.same.free hp)
end
section
variable {X:Cx}{z:Nat}{pos pos' pos2:Pos}{t:TPB}{x:Str}{rest:List Stmt}
noncomputable def zcg (z:Nat)(t:TPB):TPS:=λρ O=>z<ρ.length/\zgb t { nx:=λ_ _=>False,rt:=O.rt,bk:=λ_ _=>False,ct:=λ_ _=>False } (ρ.set z none) (.T [] [])
theorem zne (hN:X.N.Nodup)(hx:X.N[z]? = some x)(hl:Loc X.env.scope x)(hr:PuB X z rest t)(hs:autoParam (swapsWith (.Dict [] [] pos) (some (.Name x pos')) pos2.line X.env=pure false) aU0)(hf:autoParam (X.fn x=true\/X.env.scope.names.lookup x=some .local) aU2) :
  PuSs X (.Assign [.Name x pos'] (.Dict [] [] pos) pos2::rest) (zcg z t) where
 mono ρ O O' m h:=⟨h.1,hr.mono _ _ { nx:=λ_ _=>False,rt:=O.rt,bk:=λ_ _=>False,ct:=λ_ _=>False } _ ⟨λ_ _ q=>q.elim,m.rt,λ_ _ q=>q.elim,λ_ _ q=>q.elim⟩ h.2⟩
 run:=PSs.weak (zcT (zjG hN hx hl zoi hs hf) hr.run) λD σ H h=>by
  obtain⟨ρ,Fz,R,hzl,q⟩:=h;intro l hp;have x2:Ext Fz H Fz (upd H l (.dT [])):=Ext.laid ⟨Same.refl _,λ_ h=>h,λ_ h=>.inl h,R.al⟩ hp;have nfl:¬ Fz l:=λw=>R.al l w hp;have nol:¬ zaI ρ σ l:=λ⟨i,d,g1,g2⟩=>by
   obtain⟨a0,q1,_,q3⟩:=R.own i d g1;rw[g2]at q1;cases q1;obtain⟨o,q4,_⟩:=q3.at;rw[hp]at q4;cases q4
  have hzN:z<σ.length:=by rw[<- R.len];exact hzl
  have Rb:RelB X.K Fz (ρ.set z none) (.T [] []) (σ.set z (some (.ref l))) (upd H l (.dT [])) z l []:=
   ⟨(R.ext x2).unset,Xs hzl,Xs hzN,⟨zag,rfl,by show OwnL _ _ _ [] [];unfold OwnL;rfl,by simp,λb hb=>by rw[Xl.mp hb];exact nfl⟩,λb hb w=>by rw[Xl.mp hb]at w;exact nol (zbG l w)⟩
  refine⟨_,Fz,_,l,[],Rb,hr.mono _ _ { nx:=λ_ _=>False,rt:=(zeS X.K D ρ σ Fz H).rt,bk:=λ_ _=>False,ct:=λ_ _=>False } _ ⟨λ_ _ q=>q.elim,λd k q v Fz' H'' s al r=>?_,λ_ _ q=>q.elim,λ_ _ q=>q.elim⟩ q⟩;have s0:zbs (zaI ρ σ) Fz H Fz (upd H l (.dT [])):=.of x2;have oi:InO (zaI ρ σ) H (OB (ρ.set z none) (σ.set z (some (.ref l))) [l]):=λb hb=>by
   rcases hb with hb | hb
   ·exact .inl (zbG b hb)
   ·rw[Xl.mp hb];exact .inr hp
  have s1:=s0.trans oi s;have r1:=r.back s0 oi;refine q v Fz' H'' ⟨s1.sub,s1.new,s1.keep⟩ al ?_;cases k with
  | frz=>exact r1
  | own i=>exact r1
  | new=>exact r1
end
end _P
namespace _L
open PySem PySem.Spec PyProof.Rows
section
variable {X:Cx}{o e:Expr}{to te:TE}{apos cpos:Pos}
theorem zoH (ho:PE X o to)(he:PE X e te)(m:M1 X o "index" apos e cpos) :
  PE X (.Call (.Attribute o "index" apos) [e] [] cpos) (λσ H Q=>to σ H λx H1=>∃a xs,x=.ref a/\(SqL X.K H1 a xs\/SqT X.K H1 a xs)/\te σ H1 λy H2=>∃zs,(SqL X.K H1 a xs/\SqL X.K H2 a zs\/SqT X.K H1 a xs/\SqT X.K H2 a zs)/\∃j:Nat,zdK y=true/\zs.all zdK=true/\(∃w,zs[j]? = some w/\eqV w y=true)/\(∀m w,m<j->zs[m]? = some w->eqV w y=false)/\Q (.int (j:Int)) H2):=by
 intro pins s σ H Q I h;refine wpAny_Call_method_late m.base m.few m.line rfl (thn (ho pins s σ H _ I h) λu s1 q124q=>?_);obtain⟨x,H1,I1,rx,a,xs,ex,d,q1⟩:=q124q;subst ex;obtain rfl:u=Value.ref a:=rx;rcases d with d | d
 ·obtain⟨its,rv,⟨ob,n,h1,h2,h3,h4⟩,hz⟩:=I1.list d;refine⟨"list","list.index",PySem.F.plainAttrs_list,PySem.F.slot_list_index,PySem.F.type_list_index,⟨ob,h1,h2⟩,λb q=>by cases q;exact⟨ob,h1,h3⟩,?_⟩;rw[m.trees];refine Calls.callWith_builtin rfl (Calls.evalArgs_plain (Calls.spliced_cons (thn (he pins s1 σ H1 _ I1 q1) λiv s2 qa2=>Calls.spliced_nil ?_)));obtain⟨y,H2,I2,ry,zs,hsq,j,f1,f2,g1,g2,q2⟩:=qa2;rcases hsq with ⟨_,hsq⟩ | ⟨hst,_⟩
  ·exact zmT pins s2 σ H2 (.ref a) [y] (.ref a) [iv] Q I2 rfl (.cons ry .nil) ⟨a,zs,y,j,rfl,rfl,hsq,f1,f2,g1,g2,q2⟩
  ·exact(_P.zdT I1 d hst).elim
 ·obtain⟨ob,h1,h2,h4⟩:=I1.zsW d;refine⟨"tuple","tuple.index",PySem.F.plainAttrs_tuple,PySem.F.slot_tuple_index,PySem.F.type_tuple_index,⟨ob,h1,h2⟩,λb q=>by cases q;exact⟨ob,h1,h4⟩,?_⟩;rw[m.trees];refine Calls.callWith_builtin rfl (Calls.evalArgs_plain (Calls.spliced_cons (thn (he pins s1 σ H1 _ I1 q1) λiv s2 qa2=>Calls.spliced_nil ?_)));obtain⟨y,H2,I2,ry,zs,hsq,j,f1,f2,g1,g2,q2⟩:=qa2;rcases hsq with ⟨hsl,_⟩ | ⟨_,hsq⟩
  ·exact(_P.zdT I1 hsl d).elim
  ·exact zmU pins s2 σ H2 (.ref a) [y] (.ref a) [iv] Q I2 rfl (.cons ry .nil) ⟨a,zs,y,j,rfl,rfl,hsq,f1,f2,g1,g2,q2⟩
end
end _L
namespace _P
open PySem PySem.Spec _L
open PyProof.Rows hiding St
noncomputable def pIdx (to te:TPE):TPE:=λρ Q=>to ρ λd _=>∃ds,(d=.lst ds\/d=.tup ds)/\ds.all zfC=true/\te ρ λe _=>zfC e=true/\e∈ds/\Q (.int (idxP ds e:Int)) .frz
section
variable {X:Cx}{o e:Expr}{to te:TPE}{apos cpos:Pos}
theorem zgZ (ho:PuE X o to)(he:PuE X e te)(m:autoParam (M1 X o "index" apos e cpos) aU7):PuE X (.Call (.Attribute o "index" apos) [e] [] cpos) (pIdx to te) where
 mono ρ Q Q' mm h:=ho.mono ρ _ _ (λd _ q127q=>by obtain⟨ds,e1,e2,h⟩:=q127q;exact⟨ds,e1,e2,he.mono ρ _ _ (λe _ q128q=>by obtain⟨q1,q2,q⟩:=q128q;exact⟨q1,q2,mm _ _ q⟩) h⟩) h
 run:=PE.weak (zoH ho.run he.run m) λσ H Q h=>by
  obtain⟨ρ,Fz,R,h⟩:=h;refine⟨ρ,Fz,R,ho.mono ρ _ _ (λd k q v F1 H1 p1=>?_) h⟩;obtain⟨ds,hd,f,q⟩:=q;have rt:=p1.root R;obtain⟨a,xs,rfl,hsq,hsq2,h2⟩:∃a xs,v=.ref a/\(SqL X.K H1 a xs\/SqT X.K H1 a xs)/\(∀H2,Same H1 H2->(SqL X.K H1 a xs/\SqL X.K H2 a xs\/SqT X.K H1 a xs/\SqT X.K H2 a xs))/\DenL X.K F1 H1 ds xs:=by
   rcases hd with rfl | rfl
   ·obtain⟨a,xs,rfl,h1,h2⟩:=zan rt;exact⟨a,xs,rfl,.inl h1,λH2 s=>.inl ⟨h1,s.seq h1⟩,h2⟩
   ·obtain⟨a,xs,rfl,h1,h2⟩:=zdS rt;exact⟨a,xs,rfl,.inr (SqT.of h1),λH2 s=>.inr ⟨SqT.of h1,SqT.of (s _ _ h1)⟩,h2⟩
  refine⟨a,xs,rfl,hsq,ρ,F1,R.ext p1.ext,he.mono ρ _ _ (λe ke q w F2 H2 p2=>?_) q⟩;obtain⟨fe,hm,q⟩:=q;have h3:=DenL.mono (.of p2.ext.same) p2.ext.sub _ _ h2;have hy:=zmW fe (p2.root (R.ext p1.ext));obtain⟨g1,g2⟩:=zqN f fe h3 hy hm;exact⟨xs,hsq2 H2 p2.ext.same,idxP ds e,zkh fe hy,zhZ f h3,g1,g2,q _ F2 H2 ⟨p1.ext.trans p2.ext,by show Den _ _ _ _ _;simp only[Den]⟩⟩
end
end _P
namespace _L
open PySem PySem.Spec PyProof.Rows
section
variable {X:Cx}
theorem zqS (hc:X.calm=true){pins:List (Addr×Obj)}{σ:St}{H:Hp}{p it S:Addr}{as:List Addr}{kvss:List (List (Key×V))}{R:Result->Shared->Prop}(hq:SqL X.K H p (as.map V.ref))(hl:as.length=kvss.length)
  (hy:∀(i:Nat) a kvs,as[i]? = some a->kvss[i]? = some kvs->Rd H a (.dK kvs)) (hne:it≠S) (hf:∀b∈[it,S],FpOk X pins H b)
  (hR:∀(j:Nat) (a:Addr) s',as[j]? = some a->(∀m,m<kvss.length->(kvss.getD j []).length<=(kvss.getD m []).length)->Inv X pins σ H s'->R (.ok (.ret (.ref a))) s') :
  ∀(k i:Nat) (s:Shared) (b:Nat) (a:Addr) (t:Tok) (c:Nat),as.length-i=k->i<=as.length->Inv X pins σ H s->s.heap.IsListIter it p i->as[b]? = some a->(∀m,m<i->(kvss.getD b []).length<=(kvss.getD m []).length)->
   s.heap.get? S=some { cls:=.type "list",dict:=none,data:=.seq #[.ref a,.int ((kvss.getD b []).length:Nat) t] c,slots:=#[] }->
   codeAny (model X.prog X.w) X.A (.builtin "min.loop" ⟨[.ref it,.builtin "len",.ref S],[]⟩) R s:=by
 have hname:(toString "min"++toString ".loop" : String) = "min.loop":=by decide
 have fit:=hf it (by simp);obtain⟨f0,f1,f2,f3,f4,f5⟩:=fit;intro k;induction k with
 | zero=>
  intro i s b a t c hk hi I st hb hmin hS;obtain⟨its,rv,pl,hz⟩:=I.list hq;have hlen:=rv.length;rw[Xc]at hlen;refine codeAny_builtin F.entry_min_loop ?_;rw[Around.under_plainId F.plain_min_loop _];show wpAny _ X.A.in1 (seqItems? (.ref S) >>= _) _ _ s;refine wpAny_bind (wpAny_seqItems hS rfl ?_);show wpAny _ X.A.in1 (tryCatch (pyNext (.ref it)) _ >>= _) _ _ s;refine wpAny_bind (wpAny_tryCatch (wpAny_pyNext_list_end (I.ok.hd hc) st pl.isList (by simp;lia) λh' eb=>?_));have hS':h'.get? S=_:=eb S _ (Ne.symm hne) hS;show wpAny _ X.A.in1 (updateSeq S (λ_=>#[]) >>= _) _ _ _;refine wpAny_bind (wpAny_updateSeq hS' rfl (wpAny_bind (wpAny_letGo (wpAny_pure ?_))));refine hR b a _ hb (λm hm=>hmin m (by lia)) ?_;have I1:Inv X pins σ H { s with heap:=h' }:=I.turned (t':=s.toks) (λb o hb e=>eb b o hb e) f0 f1 f3 f4 f5;exact I1.zet (t':=s.toks) (ch:=[it,S]) (λd o hd e=>(Yj _ _ (λz:S=d=>hd (by simp[z]))).trans e) hf
 | succ k ih=>
  intro i s b a t c hk hi I st hb hmin hS;obtain⟨its,rv,pl,hz⟩:=I.list hq;have hlt:i<as.length:=by lia
  have hlt2:i<kvss.length:=by lia
  obtain⟨u,hu,ru⟩:=rv.get (i:=i) (x:=.ref as[i]) (by simp[hlt]);cases ru;have hd:=hy i _ _ (Xa hlt) (Xa hlt2);have hgd:kvss.getD i []=kvss[i]:=by rw[Xk,Xa hlt2];rfl
  refine codeAny_builtin F.entry_min_loop ?_;rw[Around.under_plainId F.plain_min_loop _];show wpAny _ X.A.in1 (seqItems? (.ref S) >>= _) _ _ s;refine wpAny_bind (wpAny_seqItems hS rfl ?_);show wpAny _ X.A.in1 (tryCatch (pyNext (.ref it)) _ >>= _) _ _ s;refine wpAny_bind (wpAny_tryCatch (wpAny_pyNext_list_item st pl.isList (x:=.ref as[i]) (by simpa using hu) λh' st' sb=>?_));have I1:Inv X pins σ H { s with heap:=h' }:=I.turned (t':=s.toks) (λb o hb e=>(sb.2 b hb).trans e) f0 f1 f3 f4 f5;have hS':h'.get? S=_:=(sb.2 S (Ne.symm hne)).trans hS;show wpAny _ X.A.in1 (tryCatch (holding [.ref as[i]] (call (.builtin "len") [.ref as[i]])) _ >>= _) _ _ _;obtain⟨z1,z2,vs,rel,dd⟩:=zfZ I1.hok hd;refine wpAny_bind (wpAny_tryCatch (wpAny_holding (call_len_dict z2 dd (by rw[<- rel.length];rw[sizeLine_eq]at z1;lia) ?_)));have hvl:(vs.length:Int)=((kvss.getD i []).length:Nat):=by rw[hgd];exact congrArg _ rel.length.symm
  rw[hvl];have I2:=I1.tok (s.toks+1+1);have cmp:CmpOf X.prog X.w X.A.in1 .Lt (λ(m:Nat) v=>∃t,v=.int ((kvss.getD m []).length:Nat) t) (λm m'=>decide (((kvss.getD m []).length:Int)<((kvss.getD m' []).length:Nat))):=CmpOf.ints_lt (λm=>((kvss.getD m []).length:Nat)) λ_ _ h=>h;show wpAny _ X.A.in1 (tryCatch (holding [.ref as[i],.int _ _] (richCompare .Lt (.int _ _) (.int _ t) >>= _)) _ >>= _) _ _ _;refine wpAny_bind (wpAny_tryCatch (wpAny_holding (wpAny_bind (cmp i b _ _ _ _ _ ⟨_,rfl⟩ ⟨_,rfl⟩ ?_))));refine wpAny_bind (wpAny_holding (wpAny_truthy_bool ?_));refine wpAny_bind (wpAny_letGo (wpAny_pure ?_));by_cases hlt3:((kvss.getD i []).length:Int)<((kvss.getD b []).length:Nat)
  ·have e9:(λm m':Nat=>decide (((kvss.getD m []).length:Int)<((kvss.getD m' []).length:Nat))) i b=true:=decide_eq_true hlt3;rw[if_pos e9];refine wpAny_bind (wpAny_updateSeq hS' rfl (wpAny_bind (wpAny_letGo ?_)));rw[hname];refine wpAny_pure ⟨plainId_quiet F.plain_min_loop _,ih (i+1) _ i as[i] _ _ (by lia) hlt ?_ ?_ (Xa hlt) (λm hm=>?_) (Yl _ hS' rfl)⟩
   ·exact I2.zet (t':=s.toks+1+1) (ch:=[it,S]) (λd o hd e=>(Yj _ _ (λz:S=d=>hd (by simp[z]))).trans e) hf
   ·exact st'.at λo e=>(Yj _ _ (λz:S=it=>hne z.symm)).trans e
   ·rcases Nat.lt_succ_iff_lt_or_eq.mp hm with hm | rfl
    ·have:=hmin m hm;lia
    ·exact Xf _
  ·have e9:¬ (λm m':Nat=>decide (((kvss.getD m []).length:Int)<((kvss.getD m' []).length:Nat))) i b=true:=by show ¬ decide _=true;simpa using hlt3
   rw[if_neg e9];refine wpAny_bind (wpAny_letGo ?_);rw[hname];refine wpAny_pure ⟨plainId_quiet F.plain_min_loop _,ih (i+1) _ b a t c (by lia) hlt I2 st' hb (λm hm=>?_) hS'⟩;rcases Nat.lt_succ_iff_lt_or_eq.mp hm with hm | rfl
   ·exact hmin m hm
   ·omega
theorem zha (hc:X.calm=true){pins:List (Addr×Obj)}{σ:St}{H:Hp}{p it S:Addr}{as:List Addr}{kvss:List (List (Key×V))}{R:Result->Shared->Prop}{s:Shared}{c:Nat}(hq:SqL X.K H p (as.map V.ref))(hl:as.length=kvss.length)(h0:0<as.length)
  (hy:∀(i:Nat) a kvs,as[i]? = some a->kvss[i]? = some kvs->Rd H a (.dK kvs)) (hne:it≠S) (hf:∀b∈[it,S],FpOk X pins H b) (I:Inv X pins σ H s) (st:s.heap.IsListIter it p 0) (hS:s.heap.get? S=some { cls:=.type "list",dict:=none,data:=.seq #[] c,slots:=#[] })
  (hR:∀(j:Nat) (a:Addr) s',as[j]? = some a->(∀m,m<kvss.length->(kvss.getD j []).length<=(kvss.getD m []).length)->Inv X pins σ H s'->R (.ok (.ret (.ref a))) s') :
  codeAny (model X.prog X.w) X.A (.builtin "min.loop" ⟨[.ref it,.builtin "len",.ref S],[]⟩) R s:=by
 have hname:(toString "min"++toString ".loop" : String) = "min.loop":=by decide
 obtain⟨f0,f1,f2,f3,f4,f5⟩:=hf it (by simp);obtain⟨its,rv,pl,hz⟩:=I.list hq;have hlt2:0<kvss.length:=by lia
 obtain⟨u,hu,ru⟩:=rv.get (i:=0) (x:=.ref as[0]) (by simp[h0]);cases ru;have hd:=hy 0 _ _ (Xa h0) (Xa hlt2);have hgd:kvss.getD 0 []=kvss[0]:=by rw[Xk,Xa hlt2];rfl
 refine codeAny_builtin F.entry_min_loop ?_;rw[Around.under_plainId F.plain_min_loop _];show wpAny _ X.A.in1 (seqItems? (.ref S) >>= _) _ _ s;refine wpAny_bind (wpAny_seqItems hS rfl ?_);show wpAny _ X.A.in1 (tryCatch (pyNext (.ref it)) _ >>= _) _ _ s;refine wpAny_bind (wpAny_tryCatch (wpAny_pyNext_list_item st pl.isList (x:=.ref as[0]) (by simpa using hu) λh' st' sb=>?_));have I1:Inv X pins σ H { s with heap:=h' }:=I.turned (t':=s.toks) (λb o hb e=>(sb.2 b hb).trans e) f0 f1 f3 f4 f5;have hS':h'.get? S=_:=(sb.2 S (Ne.symm hne)).trans hS;show wpAny _ X.A.in1 (tryCatch (holding [.ref as[0]] (call (.builtin "len") [.ref as[0]])) _ >>= _) _ _ _;obtain⟨z1,z2,vs,rel,dd⟩:=zfZ I1.hok hd;refine wpAny_bind (wpAny_tryCatch (wpAny_holding (call_len_dict z2 dd (by rw[<- rel.length];rw[sizeLine_eq]at z1;lia) ?_)));have hvl:(vs.length:Int)=((kvss.getD 0 []).length:Nat):=by rw[hgd];exact congrArg _ rel.length.symm
 rw[hvl];have I2:=I1.tok (s.toks+1+1);show wpAny _ X.A.in1 (updateSeq S (λ_=>#[.ref as[0],.int _ _]) >>= _) _ _ _;refine wpAny_bind (wpAny_updateSeq hS' rfl ?_);rw[hname];refine wpAny_pure ⟨plainId_quiet F.plain_min_loop _,zqS hc hq hl hy hne hf hR _ 1 _ 0 as[0] _ _ rfl h0 ?_ ?_ (Xa h0) (λm hm=>?_) (Yl _ hS' rfl)⟩
 ·exact I2.zet (t':=s.toks+1+1) (ch:=[it,S]) (λd o hd e=>(Yj _ _ (λz:S=d=>hd (by simp[z]))).trans e) hf
 ·exact st'.at λo e=>(Yj _ _ (λz:S=it=>hne z.symm)).trans e
 ·have:m=0:=by lia
  subst this;exact Xf _
theorem zie (a b:Value):argsOk "min" ⟨[a],[("key",b)]⟩:=by unfold argsOk;kernel_rfl
theorem zif {prog:Program}{w:World}{A:Around}{E:Value->Shared->Prop}{s:Shared}{id:String}{bt:Builtin}{args:List Value}{kw:List (Str×Value)}{Q:Value->Shared->Prop}(hk:builtinKind id=none)(hp:plainId id=true)(hb:entryFor table id=some bt)(ha:argsOk id ⟨args,kw⟩)
  (hc:wpAny (model prog w) A.in1 (bt ⟨args,kw⟩) (λfin s'=>match fin with
   | .done f=>(match (Except.ok f:Result)with | .ok (.ret v)=>Q v s' | .ok _=>False | .error e=>E e s')
   | .again c'=>c'.quiet=true/\codeAny (model prog w) A c' (λr s'=>match r with | .ok (.ret v)=>Q v s' | .ok _=>False | .error e=>E e s') s') E s) :
  wpAny (model prog w) A (call (.builtin id) args kw) Q E s:=by
 refine wpAny_call (codeAny_call_builtin hp hb ?_);simp only[checkBuiltinCall,hk];cases sg:Manifest.signature? id with
 | none=>exact wpAny_pure hc
 | some g=>
  have h2:Bind.checkArgs id g ⟨args,kw⟩=pure ():=by simpa only[argsOk,sg]using ha
  simp only[h2];exact wpAny_pure hc
noncomputable def zqT (K:Xb)(te:TE):TE:=λσ H Q=>te σ H λx H1=>∃(p:Addr)(as:List Addr)(kvss:List (List (Key×V))),x=.ref p/\SqL K H1 p (as.map V.ref)/\as.length=kvss.length/\0<as.length/\(∀(i:Nat) a kvs,as[i]? = some a->kvss[i]? = some kvs->Rd H1 a (.dK kvs))/\
 ∀(j:Nat) (a:Addr),as[j]? = some a->(∀m,m<kvss.length->(kvss.getD j []).length<=(kvss.getD m []).length)->Q (.ref a) H1
variable {e:Expr}{te:TE}{p p2 kp pos:Pos}
theorem znf (hc:X.calm=true)(hg:Gl X "min") (hm:X.mg "min" = none) (hg2:Gl X "len") (hm2:X.mg "len" = none) (he:PE X e te) (hs:autoParam (starEach [e] X.env=(false,eval e X.env)::starEach [] X.env) aU0)
  (hbt:autoParam (backTo pos (starEach [e] X.env)=(false,eval e X.env)::backTo pos (starEach [] X.env)) aU0) (hpl:autoParam ((backTo pos (starEach [e] X.env)).any (·.1)=false) aU0):PE X (.Call (.Name "min" p) [e] [⟨some "key",.Name "len" p2,kp⟩] pos) (zqT X.K te):=by
 intro pins s σ H Q I h;refine wpAny_Call_Name_kw (zeG I hg hm (show bootBuiltins "min" = some (.builtin "min") by decide +kernel) ?_ (by decide) (by decide));refine callWith_kw ?_ hbt hpl;rw[hbt];refine Calls.spliced_cons (thn (he pins s σ H _ I h) λu s1 qa1=>Calls.spliced_nil ?_);obtain⟨x,H1,I1,r1,l,as,kvss,ex,hq,hl,h0,hy,q⟩:=qa1;subst ex;obtain rfl:u=Value.ref l:=r1;refine kws_cons (zeG I1 hg2 hm2 (show bootBuiltins "len" = some (.builtin "len") by decide +kernel) (kws_nil ?_) (by decide) (by decide));obtain⟨its,rv,pl,hz⟩:=I1.list hq;have hname:(toString "min"++toString ".loop" : String) = "min.loop":=by decide
 refine zif F.kind_min F.plain_min F.entry_min (zie _ _) ?_;show wpAny _ X.A.in1 (Builtin.Builtins.bindParams "min" ["key","default"] 0 ⟨[],[("key",.builtin "len")]⟩ >>= _) _ _ s1;refine wpAny_bind (wpAny_of_eq (show Builtin.Builtins.bindParams "min" ["key","default"] 0 ⟨[],[("key",.builtin "len")]⟩=pure [some (.builtin "len"),none] from rfl) ?_);refine wpAny_bind (wpAny_pure ?_);refine wpAny_bind (wpAny_pyIter_list pl.isList ?_);refine wpAny_bind (wpAny_newObj_type ?_);rw[hname];have I2:Inv X pins σ H1 { s1 with heap:=s1.heap.push { cls:=.type "list_iterator",data:=.fields #[.ref l,.int 0 0] } }:=I1.kept (t':=s1.toks) λb o e=>Xh _ e;have I3:Inv X pins σ H1 { s1 with heap:=(s1.heap.push { cls:=.type "list_iterator",data:=.fields #[.ref l,.int 0 0] }).push { cls:=.type "list",data:=.seq #[] } }:=I2.kept (t':=s1.toks) λb o e=>Xh _ e;have hsz:(s1.heap.push { cls:=.type "list_iterator",data:=.fields #[.ref l,.int 0 0] }).objs.size=s1.heap.objs.size+1:=Heap.size_push ..;have hne:s1.heap.objs.size≠(s1.heap.push { cls:=.type "list_iterator",data:=.fields #[.ref l,.int 0 0] }).objs.size:=by rw[hsz];exact XJ (Nat.lt_succ_self _)
 have hf:∀b∈[s1.heap.objs.size,(s1.heap.push { cls:=.type "list_iterator",data:=.fields #[.ref l,.int 0 0] }).objs.size],FpOk X pins H1 b:=λb hb=>by
  have hb':s1.heap.objs.size<=b:=by
   rcases Xx.mp hb with rfl | hb
   ·exact Xf _
   ·rw[Xl.mp hb,hsz];exact Nat.le_succ _
  exact I1.fpOk hb' (I1.hok.fresh hb')
 have st0:((s1.heap.push { cls:=.type "list_iterator",data:=.fields #[.ref l,.int 0 0] }).push { cls:=.type "list",data:=.seq #[] }).IsListIter s1.heap.objs.size l 0:=⟨_,Xh _ (XC _ rfl),rfl,rfl⟩;refine wpAny_pure ⟨plainId_quiet F.plain_min_loop _,zha hc hq hl h0 hy hne hf I3 st0 (XC _ rfl) λj a s' hj hmin I'=>?_⟩;exact⟨.ref a,H1,I',rfl,q j a hj hmin⟩
end
end _L
namespace _P
open PySem PySem.Spec _L
open PyProof.Rows hiding St
theorem zki {K:Xb}{Fz:FZ}{H:Hp}:∀ {kss:List (List Key×List PV)}{xs:List V},DenL K Fz H (kss.map λp=>PV.dK p.1 p.2) xs->∃(as:List Addr)(yss:List (List V)),xs=as.map V.ref/\as.length=kss.length/\yss.length=kss.length/\
  (∀(i:Nat) a p ys,as[i]? = some a->kss[i]? = some p->yss[i]? = some ys->Fz a/\Rd H a (.dK (p.1.zip ys))/\p.1.length=ys.length/\DenL K Fz H p.2 ys)
 | [],xs,h=>by
  simp only[XT,DenL]at h;exact⟨[],[],by rw[h];rfl,rfl,rfl,λi a p ys h=>by simp at h⟩
 | q::kss,xs,h=>by
  simp only[XT,DenL,Den]at h;obtain⟨v,r,rfl,⟨a,ys,rfl,h1,h2,h3,h4⟩,h⟩:=h;obtain⟨as,yss,e,e1,e2,hs⟩:=zki h;refine⟨a::as,ys::yss,by rw[e];rfl,by simp[e1],by simp[e2],λi b p zs q1 q2 q3=>?_⟩;cases i with
  | zero=>simp at q1 q2 q3;subst q1 q2 q3;exact⟨h1,h2,h3,h4⟩
  | succ i=>exact hs i b p zs (by simpa using q1) (by simpa using q2) (by simpa using q3)
noncomputable def zjl (te:TPE):TPE:=λρ Q=>te ρ λd k=>isOwn k=false/\∃kss:List (List Key×List PV),d=.lst (kss.map λp=>PV.dK p.1 p.2)/\0<kss.length/\∀p∈kss,(∀q∈kss,p.1.length<=q.1.length)->Q (.dK p.1 p.2) .frz
section
variable {X:Cx}{e:Expr}{te:TPE}{p p2 kp pos:Pos}
theorem zng (hc:X.calm=true)(hg:Gl X "min") (hm:X.mg "min" = none) (hg2:Gl X "len") (hm2:X.mg "len" = none) (he:PuE X e te) (hs:autoParam (starEach [e] X.env=(false,eval e X.env)::starEach [] X.env) aU0)
  (hbt:autoParam (backTo pos (starEach [e] X.env)=(false,eval e X.env)::backTo pos (starEach [] X.env)) aU0) (hpl:autoParam ((backTo pos (starEach [e] X.env)).any (·.1)=false) aU0):PuE X (.Call (.Name "min" p) [e] [⟨some "key",.Name "len" p2,kp⟩] pos) (zjl te) where
 mono ρ Q Q' m h:=he.mono ρ _ _ (λd k q130q=>by obtain⟨e1,kss,e2,e3,q⟩:=q130q;exact⟨e1,kss,e2,e3,λp hp hq=>m _ _ (q p hp hq)⟩) h
 run:=PE.weak (znf hc hg hm hg2 hm2 he.run hs hbt hpl) λσ H Q h=>by
  obtain⟨ρ,Fz,R,h⟩:=h;refine⟨ρ,Fz,R,he.mono ρ _ _ (λd k q v F1 H1 p1=>?_) h⟩;obtain⟨ho,kss,rfl,h0,q⟩:=q;obtain⟨F2,x2,s2,d2⟩:=p1.frozen (zgT ho);simp only[Den]at d2;obtain⟨a,xs,rfl,h1,h2⟩:=d2;obtain⟨as,yss,rfl,e1,e2,hs⟩:=zki h2;have hget:∀(i:Nat) (hi:i<kss.length),((kss.zip yss).map λz=>z.1.1.zip z.2)[i]? = some ((kss[i]).1.zip (yss[i]'(by lia))):=λi hi=>by
   rw[Xd,Xa (by simp;lia)];simp
  have hlen:∀(i:Nat) (hi:i<kss.length),(((kss.zip yss).map λz=>z.1.1.zip z.2).getD i []).length=(kss[i]).1.length:=λi hi=>by
   rw[Xk,hget i hi];obtain⟨_,_,q3,_⟩:=hs i (as[i]'(by lia)) kss[i] (yss[i]'(by lia)) (Xa (by lia)) (Xa hi) (Xa (by lia));simp[q3]
  refine⟨a,as,(kss.zip yss).map λz=>z.1.1.zip z.2,rfl,h1.elim (λz=>.inl z.2) KX.sq,by simp;lia,by lia,λi b kvs q1 q2=>?_,λj b hj hmin=>?_⟩
  ·have hi:i<kss.length:=by have:=(Xe.mp q1).1;lia
   rw[hget i hi]at q2;cases q2;exact(hs i b kss[i] (yss[i]'(by lia)) q1 (Xa hi) (Xa (by lia))).2.1
  ·have hji:j<kss.length:=by have:=(Xe.mp hj).1;lia
   obtain⟨q1,q2,q3,q4⟩:=hs j b kss[j] (yss[j]'(by lia)) hj (Xa hji) (Xa (by lia));refine q kss[j] (Yr hji) (λr hr=>?_) _ F2 H1 ⟨x2,?_⟩
   ·obtain⟨m,hm,rfl⟩:=List.getElem_of_mem hr;have:=hmin m (by simp;lia);rw[hlen j hji,hlen m hm]at this;exact this
   ·show Den _ _ _ _ _;simp only[Den];exact⟨b,_,rfl,q1,q2,q3,q4⟩
end
section
variable {X:Cx}{a b:Expr}{ta tb:TPE}{pos:Pos}
theorem zoI {prog:Program}{w:World}{A:Around}{E:Value->Shared->Prop}{s:Shared}{t b:Addr}{vs ws:List Value}{Q:Value->Shared->Prop}(ht:IsTup s.heap t vs.toArray)(hb:IsTup s.heap b ws.toArray)(hv:vs=[])
  (h:Q (.ref b) s):wpAny (model prog w) A (binaryOp .Add (.ref t) (.ref b)) Q E s:=by
 obtain⟨o,ho,hc,n,hd⟩:=ht;obtain⟨o2,ho2,hc2,n2,hd2⟩:=hb;cases o with | mk cls dd data sl=>
 cases o2 with | mk cls2 dd2 data2 sl2=>
 cases hc;cases hd;cases hc2;cases hd2;have he:vs.toArray.isEmpty=true:=by rw[hv];rfl
 have m:=tuple_addW0 t b vs.toArray ws.toArray n n2 dd dd2 sl sl2 he;exact concat_meets ⟨_,ho,rfl⟩ ⟨_,ho2,rfl⟩ noFill_tuple_add seq_tuple_add PySem.F.slot_tuple_add PySem.F.entry_tuple_add (PySem.F.args_tuple_add_2 _ _) m ⟨ho,ho2,h⟩
noncomputable def zpy (K:Xb):R2:=λx y H Q=>∃l r xs zs,x=.ref l/\y=.ref r/\SqT K H l xs/\SqT K H r zs/\xs.length+zs.length<=sizeLine/\
 (xs=[]->Q (.ref r) H)/\(zs=[]->Q (.ref l) H)/\∀p,H p=none->Q (.ref p) (upd H p (.tup (xs++zs)))
theorem zoJ:OpR X (binaryOp .Add) (zpy X.K):=by
 intro pins s σ H x y v u Q I rx ry h;obtain⟨l,r,xs,zs,rfl,rfl,hl,hr,hz,q0,q1,q2⟩:=h;by_cases hx:xs=[]
 ·cases rx;cases ry;obtain⟨its,r1,p1,_⟩:=I.tuple hl;obtain⟨its2,r2,p2,_⟩:=I.tuple hr;exact zoI p1 p2 (r1.zgC.mpr hx) ⟨.ref r,H,I,rfl,q0 hx⟩
 ·exact zqf pins s σ H (.ref l) (.ref r) v u Q I rx ry ⟨l,r,xs,zs,rfl,rfl,hl,hr,hx,hz,q1,λ_=>q2⟩
noncomputable def zlj:P2:=λd e Q=>∃ds es,d=.tup ds/\e=.tup es/\ds.length+es.length<=sizeLine/\Q (.tup (ds++es)) .frz
theorem zqU {K:Xb}:POp K (zpy K) zlj where
 mono d e Q Q' m h:=by obtain⟨ds,es,e1,e2,e3,q⟩:=h;exact⟨ds,es,e1,e2,e3,m _ _ q⟩
 run Fz H x y d e Q al rx ry h:=by
  obtain⟨ds,es,rfl,rfl,e3,q⟩:=h;have dx:Den K Fz H (.tup ds) x:=rx;have dy:Den K Fz H (.tup es) y:=ry;obtain⟨l,xs,rfl,h1,h2⟩:=zba rx;obtain⟨r,ys,rfl,g1,g2⟩:=zba ry;have l1:=h2.length;have l2:=g2.length;refine⟨l,r,xs,ys,rfl,rfl,h1,g1,by lia,λz=>?_,λz=>?_,λp hp=>q _ Fz _ (.newT al hp (h2.append g2))⟩
  ·have:ds=[]:=XI.mp (by rw[z]at l1;simpa using l1);subst this;exact q _ Fz _ (.val al dy)
  ·have:es=[]:=XI.mp (by rw[z]at l2;simpa using l2);subst this;rw[YE]at q;exact q _ Fz _ (.val al dx)
theorem zqV (ha:PuE X a ta)(hb:PuE X b tb):PuE X (.BinOp a .Add b pos) (t2 zlj ta tb):=zhJ zoJ zqU ha hb
end
section
variable {X:Cx}{a:Expr}{ta:TPE}{pos:Pos}
noncomputable def pNeg (ta:TPE):TPE:=λρ Q=>ta ρ λd _=>∃i:Int,d=.int i/\Q (.int (-i)) .frz
theorem zig (ha:PuE X a ta):PuE X (.UnaryOp .USub a pos) (pNeg ta) where
 mono ρ Q Q' m h:=ha.mono ρ _ _ (λd k q131q=>by obtain⟨c,e,q⟩:=q131q;exact⟨c,e,m _ _ q⟩) h
 run:=PE.weak (ztM zrQ ha.run) λσ H Q h=>by
  obtain⟨ρ,Fz,R,h⟩:=h;refine⟨ρ,Fz,R,ha.mono ρ _ _ (λd k ⟨c,e,q⟩ v Fz' H' p=>⟨c,?_,q _ Fz' H' ⟨p.ext,by show Den _ _ _ _ _;simp only[Den]⟩⟩) h⟩;subst e;exact zaK (p.root R)
end
end _P
namespace _K
open PySem PySem.Spec PyProof.Rows
noncomputable def leS (a b:Str):Prop:=a.cps.toList<=b.cps.toList
theorem znh {a b c:Str}(h1:leS a b)(h2:leS b c):leS a c:=List.le_trans h1 h2
theorem zih {a b:Str}(h1:leS a b)(h2:leS b a):a=b:=by
 have e:a.cps.toList=b.cps.toList:=List.le_antisymm h1 h2;cases a;cases b;simp only[Str.mk.injEq];exact Array.toList_inj.mp e
theorem ztc {a b:Str}(h:ltCps b.cps.toList a.cps.toList=false):leS a b:=by
 rw[ltCps_eq]at h;exact List.not_lt.mp (of_decide_eq_false h)
theorem zii:∀(p:Str)(l:List Str),risingS p l=true->(p::l).Pairwise leS
 | p,[],_=>List.pairwise_singleton _ _
 | p,x::r,h=>by
  have h':(!ltCps x.cps.toList p.cps.toList&&risingS x r)=true:=h;rw[YF]at h';have h1:leS p x:=ztc (by simpa using h'.1);have ih:=zii x r h'.2;refine List.pairwise_cons.mpr ⟨λy hy=>?_,ih⟩;rcases Xx.mp hy with e | hy
  ·rw[e];exact h1
  ·exact znh h1 ((List.pairwise_cons.mp ih).1 y hy)
theorem zij:∀(l:List Str),sortedS l=true->l.Pairwise leS
 | [],_=>List.Pairwise.nil
 | x::r,h=>zii x r h
theorem zgp:∀ {xs ys:List Str},xs.Pairwise leS->ys.Pairwise leS->xs.Nodup->ys.Nodup->(∀x,x∈xs↔x∈ys)->xs=ys
 | [],[],_,_,_,_,_=>rfl
 | [],y::ys,_,_,_,_,h=>absurd ((h y).mpr Xj) (by simp)
 | x::xs,[],_,_,_,_,h=>absurd ((h x).mp Xj) (by simp)
 | x::xs,y::ys,p,q,n,m,h=>by
  obtain⟨p1,p2⟩:=List.pairwise_cons.mp p;obtain⟨q1,q2⟩:=List.pairwise_cons.mp q;obtain⟨n1,n2⟩:=Yi.mp n;obtain⟨m1,m2⟩:=Yi.mp m;have e:x=y:=by
   rcases Xx.mp ((h x).mp Xj)with e | hx
   ·exact e
   ·rcases Xx.mp ((h y).mpr Xj)with e | hy
    ·exact e.symm
    ·exact zih (p1 y hy) (q1 x hx)
  subst e;rw[zgp p2 q2 n2 m2 λz=>?_];constructor
  ·intro hz;rcases Xx.mp ((h z).mp (Xg _ hz))with e | hz'
   ·subst e;exact absurd hz n1
   ·exact hz'
  ·intro hz;rcases Xx.mp ((h z).mpr (Xg _ hz))with e | hz'
   ·subst e;exact absurd hz m1
   ·exact hz'
noncomputable def mix (c j:Int):Int:=
 if c % 2=1/\c / 2 ^ 27≠0 then(c / 2 ^ (1+20*j).toNat) % 1048576
 else(((c*(2*j+3)+j) % 2147483629*((c*(2*j+3)+j) % 2147483629)+1)*48271 % 2147483629)*(((c*(2*j+3)+j) % 2147483629*((c*(2*j+3)+j) % 2147483629)+1)*48271 % 2147483629) % 2147483587
theorem zch (c j:Int):0<=mix c j:=by
 unfold mix;split
 ·exact Yn _ (by decide)
 ·exact Yn _ (by decide)
noncomputable def abc (n:Nat):Str:=⟨#[65+n]⟩
noncomputable def stepOf (i:Nat):Nat:=[1,3,5,7,9,11].getD i 1
noncomputable def zaV (start step:Nat):List Str:=(XZ 6).map λk=>abc ((start+step*k) % 26)
theorem zgc:∀start,start<26->∀i,i<6->((XZ 6).map λk=>(start+stepOf i*k) % 26).Nodup:=by decide +kernel
theorem zqW {a b:Nat}(h:abc a=abc b):a=b:=by
 unfold abc at h;simp only[Str.mk.injEq,Array.mk.injEq,List.cons.injEq]at h;lia
theorem zbb (start i:Nat)(h1:start<26)(h2:i<6):(zaV start (stepOf i)).Nodup:=by
 have h:=zgc start h1 i h2;unfold zaV;rw[show((XZ 6).map λk=>abc ((start+stepOf i*k) % 26))=((XZ 6).map λk=>(start+stepOf i*k) % 26).map abc by rw[Ym];rfl];exact List.Pairwise.map abc (λa b hab e=>hab (zqW e)) h
end _K
namespace _S
open PySem PyProof.Rows
section
variable {σ α:Type}{M:Model}{A:Around}{E:Value->Shared->Prop}{s:Shared}{c:Prop}{dc:Decidable c}{Q:α->σ->Prop}{st:σ}
theorem zpz {L H:Nat}(h:¬ L>=H):L<=L+(H-L) / 2/\L+(H-L) / 2<H:=by lia
theorem zqX {L H:Nat}(h:¬ L>=H):L<=(L+H) / 2/\(L+H) / 2<H:=by lia
theorem zaN {x y:StateT σ Sem α}(h1:c->wpS M A E s x Q st)(h2:¬ c->wpS M A E s y Q st):wpS M A E s (if c then x else y) Q st:=by
 split
 ·exact h1 ‹_›
 ·exact h2 ‹_›
theorem zpA {x y:StateT σ Sem α}(R:σ->Prop)(key:∀st2,R st2->wpS M A E s y Q st2)(h1:c->(∀st2,R st2->wpS M A E s y Q st2)->wpS M A E s x Q st)(h2:¬ c->R st):wpS M A E s (if c then x else y) Q st:=by
 split
 ·exact h1 ‹_› key
 ·exact key _ (h2 ‹_›)
theorem ztd {γ:Type}{g:γ->StateT σ Sem α}{v:γ}(h:∀z,wpS M A E s (g z) Q st):∀u:γ,wpS M A E s (if c then g u else g v) Q st:=λu=>by
 split<;>exact h _
theorem zkj {γ δ:Type}{g m:γ->δ->StateT σ Sem α}{H:γ->δ->Prop}(P:γ->δ->Prop)(key:∀x y,P x y->wpS M A E s (g x y) Q st)(h1:∀u v,H u v->c->(∀x y,P x y->wpS M A E s (g x y) Q st)->wpS M A E s (m u v) Q st)(h2:∀u v,H u v->¬ c->P u v):∀u v,H u v->wpS M A E s (if c then m u v else g u v) Q st:=λu v hH=>by
 by_cases h:c
 ·rw[if_pos h];exact h1 u v hH h key
 ·rw[if_neg h];exact key _ _ (h2 u v hH h)
end
noncomputable def gal:Bool->Keyed->Array Keyed->Nat->Nat->Nat->StateT SortSt Sem (Option Nat):=sortPriv% PySem.Builtin.gallop
structure Cmp (prog:Program)(w:World)(A:Around)(E:Value->Shared->Prop)(s:Shared)(k:SortKind)(P:Keyed->Prop)(f:Keyed->Keyed->Bool):Prop where
 run:∀ {x y:Keyed} {Q:Option Bool->SortSt->Prop} {st:SortSt},P x->P y->kindOf st=k->Q (some (f x y)) st->wpS (model prog w) A E s (lt' x y) Q st
section
variable {prog:Program}{w:World}{A:Around}{E:Value->Shared->Prop}{s:Shared}{k:SortKind}{P:Keyed->Prop}{f:Keyed->Keyed->Bool}
noncomputable def beyB (f:Keyed->Keyed->Bool)(l:Bool)(key:Keyed)(a:Array Keyed)(b i:Nat):Bool:=match a[b+i]? with
 | some x=>if l then f x key else !f key x
 | none=>false
theorem zaA {a:Array Keyed}{i:Nat}{x:Keyed}{Q:Keyed->SortSt->Prop}{st:SortSt}(hx:a[i]? = some x)(h:Q x st):wpS (model prog w) A E s (elem' a i) Q st:=by
 rw[elem'_eq,hx];exact wpS_pure h
theorem zte (C:Cmp prog w A E s k P f){l:Bool}{key:Keyed}{a:Array Keyed}{b i:Nat}{Q:Option Bool->SortSt->Prop}{st:SortSt}(hi:b+i<a.size)(hP:∀(j:Nat) x,a[j]? = some x->P x)(hk:P key)(hst:kindOf st=k)(h:Q (some (beyB f l key a b i)) st) :
  wpS (model prog w) A E s (do let x <- elem' a (b+i);if l=true then lt' x key else do let r <- lt' key x;pure (Option.map (λx=>!x) r)) Q st:=by
 have hx:a[b+i]? = some (a[b+i]):=getElem?_pos a (b+i) hi;have hp:=hP _ _ hx;unfold beyB at h;rw[hx]at h;refine wpS_bind (zaA hx ?_);cases l with
 | true=>rw[if_pos rfl];exact C.run hp hk hst h
 | false=>
  rw[if_neg (by decide)];refine wpS_bind (C.run hk hp hst ?_);exact wpS_pure h
structure Cut (B:Nat->Bool)(n r:Nat):Prop where
 le:r<=n
 below:∀i,i<r->B i=true
 above:∀i,r<=i->i<n->B i=false
theorem zgq (C:Cmp prog w A E s k P f){l:Bool}{key:Keyed}{a:Array Keyed}{b n h:Nat}{Q:Option Nat->SortSt->Prop}{st:SortSt}(hh:h<n)(hn:b+n<=a.size)(hP:∀(j:Nat) x,a[j]? = some x->P x)(hk:P key)(hst:kindOf st=k)
  (hm:∀i j,i<=j->j<n->beyB f l key a b j=true->beyB f l key a b i=true) (hQ:∀r,Cut (beyB f l key a b) n r->Q (some r) st):wpS (model prog w) A E s (gal l key a b n h) Q st:=by
 generalize hB:beyB f l key a b=B at hm hQ;have bey:∀ {i:Nat} {R:Option Bool->SortSt->Prop},i<n->R (some (B i)) st->wpS (model prog w) A E s (do let x <- elem' a (b+i);if l=true then lt' x key else do let r <- lt' key x;pure (Option.map (λx=>!x) r)) R st:=
  λ{i} {R} hi hr=>zte C (by lia) hP hk hst (by rw[hB];exact hr)
 have hmF:∀i j,i<=j->j<n->B i=false->B j=false:=λi j h1 h2 h3=>by
  cases hj:B j with
  | false=>rfl
  | true=>rw[hm i j h1 h2 hj]at h3;cases h3
 refine wpS_bind (bey hh ?_);dsimp only;cases hb:B h with
 | true=>
  rw[if_pos rfl];refine wpS_bind (wpS_mono (wpS_forRange (I:=λx c st'=>st'=st/\∃lastofs ofs,c=(none,lastofs,ofs)/\lastofs<ofs/\x<ofs/\h+lastofs<n/\B (h+lastofs)=true)
   (Q:=λc st'=>st'=st/\∃lastofs ofs,c=(none,lastofs,ofs)/\lastofs<ofs/\h+lastofs<n/\B (h+lastofs)=true/\(n-h<=ofs\/(h+ofs<n/\B (h+ofs)=false))) ?step ?fin ⟨rfl,0,1,rfl,by lia,by lia,by omega,hb⟩) ?post)
  case fin=>
   rintro c st' ⟨rfl,lo,os,rfl,h1,h2,h3,h4⟩;exact⟨rfl,lo,os,rfl,h1,h3,h4,.inl (by lia)⟩
  case step=>
   rintro x c st' _ hx ⟨rfl,lo,os,rfl,h1,h2,h3,h4⟩;dsimp only;by_cases hge:os>=n-h
   ·rw[if_pos hge];exact wpS_pure ⟨rfl,lo,os,rfl,h1,h3,h4,.inl hge⟩
   ·rw[if_neg hge];refine wpS_bind (bey (by lia) ?_);dsimp only;cases hv:B (h+os)with
    | true=>
     rw[if_neg (by decide)];exact wpS_pure ⟨rfl,os,2*os+1,rfl,by lia,by lia,by lia,hv⟩
    | false=>
     rw[if_pos (by decide)];exact wpS_pure ⟨rfl,lo,os,rfl,h1,h3,h4,.inr ⟨by lia,hv⟩⟩
  case post=>
   rintro c st' ⟨rfl,lo,os,rfl,h1,h3,h4,h5⟩;dsimp only;have b1:∀i,i<h+lo+1->B i=true:=λi hi=>hm i (h+lo) (by lia) h3 h4;have b2:∀i,h+min os (n-h)<=i->i<n->B i=false:=λi hi1 hi2=>by
    rcases h5 with h5 | ⟨h5,h6⟩
    ·lia
    ·exact hmF (h+os) i (by lia) hi2 h6
   have b3:h+lo+1<=h+min os (n-h):=by omega
   have b4:h+min os (n-h)<=n:=by omega
   generalize h+lo+1=L at b1 b3;generalize h+min os (n-h)=H at b2 b3 b4;refine wpS_bind (wpS_mono (wpS_forRange (I:=λx c st2=>st2=st'/\∃L H,c=(none,L,H)/\L<=H/\H<=n/\H-L<=n-x/\(∀i,i<L->B i=true)/\(∀i,H<=i->i<n->B i=false))
    (Q:=λc st2=>st2=st'/\∃H,c=(none,H,H)/\Cut B n H) ?hstep ?hfin ⟨rfl,L,H,rfl,b3,b4,by lia,b1,b2⟩) ?hpost)
   case hfin=>
    rintro c st2 ⟨rfl,L,H,rfl,g1,g2,g3,g4,g5⟩;have:L=H:=by lia
    subst this;exact⟨rfl,L,rfl,⟨g2,g4,g5⟩⟩
   case hstep=>
    rintro x c st2 _ hx ⟨rfl,L,H,rfl,g1,g2,g3,g4,g5⟩;dsimp only;by_cases hge:L>=H
    ·rw[if_pos hge];have:L=H:=by lia
     subst this;exact wpS_pure ⟨rfl,L,rfl,⟨g2,g4,g5⟩⟩
    ·rw[if_neg hge];obtain⟨hmi,hmid⟩:=zpz hge;generalize L+(H-L) / 2=md at hmi hmid ⊢;refine wpS_bind (bey (by lia) ?_);dsimp only;cases hv:B md with
     | true=>
      rw[if_pos rfl];exact wpS_pure ⟨rfl,_,H,rfl,by lia,g2,by lia,λi hi=>hm i _ (by lia) (by lia) hv,g5⟩
     | false=>
      rw[if_neg (by decide)];exact wpS_pure ⟨rfl,L,_,rfl,by omega,by lia,by lia,g4,λi h1 h2=>hmF _ i h1 h2 hv⟩
   case hpost=>
    rintro c st2 ⟨rfl,H,rfl,hc⟩;exact wpS_pure (hQ H hc)
 | false=>
  rw[if_neg (by decide)];refine wpS_bind (wpS_mono (wpS_forRange (I:=λx c st'=>st'=st/\∃lastofs ofs,c=(none,lastofs,ofs)/\lastofs<ofs/\x<ofs/\lastofs<=h/\B (h-lastofs)=false)
   (Q:=λc st'=>st'=st/\∃lastofs ofs,c=(none,lastofs,ofs)/\lastofs<ofs/\lastofs<=h/\B (h-lastofs)=false/\(h+1<=ofs\/(ofs<=h/\B (h-ofs)=true))) ?step ?fin ⟨rfl,0,1,rfl,by lia,by lia,by lia,hb⟩) ?post)
  case fin=>
   rintro c st' ⟨rfl,lo,os,rfl,h1,h2,h3,h4⟩;exact⟨rfl,lo,os,rfl,h1,h3,h4,.inl (by lia)⟩
  case step=>
   rintro x c st' _ hx ⟨rfl,lo,os,rfl,h1,h2,h3,h4⟩;dsimp only;by_cases hge:os>=h+1
   ·rw[if_pos hge];exact wpS_pure ⟨rfl,lo,os,rfl,h1,h3,h4,.inl hge⟩
   ·rw[if_neg hge];refine wpS_bind (bey (by lia) ?_);dsimp only;cases hv:B (h-os)with
    | true=>
     rw[if_pos rfl];exact wpS_pure ⟨rfl,lo,os,rfl,h1,h3,h4,.inr ⟨by lia,hv⟩⟩
    | false=>
     rw[if_neg (by decide)];exact wpS_pure ⟨rfl,os,2*os+1,rfl,by lia,by lia,by lia,hv⟩
  case post=>
   rintro c st' ⟨rfl,lo,os,rfl,h1,h3,h4,h5⟩;dsimp only;have b1:∀i,i<h+1-min os (h+1)->B i=true:=λi hi=>by
    rcases h5 with h5 | ⟨h5,h6⟩
    ·omega
    ·exact hm i (h-os) (by omega) (by lia) h6
   have b2:∀i,h-lo<=i->i<n->B i=false:=λi hi1 hi2=>hmF (h-lo) i hi1 hi2 h4;have b3:h+1-min os (h+1)<=h-lo:=by omega
   have b4:h-lo<=n:=by lia
   generalize h+1-min os (h+1)=L at b1 b3;generalize h-lo=H at b2 b3 b4;refine wpS_bind (wpS_mono (wpS_forRange (I:=λx c st2=>st2=st'/\∃L H,c=(none,L,H)/\L<=H/\H<=n/\H-L<=n-x/\(∀i,i<L->B i=true)/\(∀i,H<=i->i<n->B i=false))
    (Q:=λc st2=>st2=st'/\∃H,c=(none,H,H)/\Cut B n H) ?hstep ?hfin ⟨rfl,L,H,rfl,b3,b4,by lia,b1,b2⟩) ?hpost)
   case hfin=>
    rintro c st2 ⟨rfl,L,H,rfl,g1,g2,g3,g4,g5⟩;have:L=H:=by lia
    subst this;exact⟨rfl,L,rfl,⟨g2,g4,g5⟩⟩
   case hstep=>
    rintro x c st2 _ hx ⟨rfl,L,H,rfl,g1,g2,g3,g4,g5⟩;dsimp only;by_cases hge:L>=H
    ·rw[if_pos hge];have:L=H:=by lia
     subst this;exact wpS_pure ⟨rfl,L,rfl,⟨g2,g4,g5⟩⟩
    ·rw[if_neg hge];obtain⟨hmi,hmid⟩:=zpz hge;generalize L+(H-L) / 2=md at hmi hmid ⊢;refine wpS_bind (bey (by lia) ?_);dsimp only;cases hv:B md with
     | true=>
      rw[if_pos rfl];exact wpS_pure ⟨rfl,_,H,rfl,by lia,g2,by lia,λi hi=>hm i _ (by lia) (by lia) hv,g5⟩
     | false=>
      rw[if_neg (by decide)];exact wpS_pure ⟨rfl,L,_,rfl,by omega,by lia,by lia,g4,λi h1 h2=>hmF _ i h1 h2 hv⟩
   case hpost=>
    rintro c st2 ⟨rfl,H,rfl,hc⟩;exact wpS_pure (hQ H hc)
end
structure Mid {α:Type}(R:α->α->Prop)(a b out:List α)(ia ib:Nat):Prop where
 pm:(out++(a.drop ia++b.drop ib)).Perm (a++b)
 sa:(out++a.drop ia).Pairwise R
 sb:(out++b.drop ib).Pairwise R
structure Good {α:Type}(R:α->α->Prop)(a b out:List α):Prop where
 pm:out.Perm (a++b)
 so:out.Pairwise R
section
variable {α:Type}{R:α->α->Prop}{a b out:List α}{ia ib:Nat}
theorem Mid.runA (h:Mid R a b out ia ib)(k:Nat)(hR:∀x∈(a.drop ia).take k,∀z∈b.drop ib,R x z):Mid R a b (out++(a.drop ia).take k) (ia+k) ib:=by
 have e:a.drop ia=(a.drop ia).take k++a.drop (ia+k):=by rw[<- List.drop_drop,Yb]
 refine⟨?_,?_,?_⟩
 ·have:=h.pm;rw[e]at this;simpa[XE]using this
 ·have:=h.sa;rw[e]at this;simpa[XE]using this
 ·have h1:=h.sa;have h2:=h.sb;rw[e,<- XE,XM]at h1;rw[XM]at h2 ⊢;refine⟨h1.1,h2.2.1,λx hx z hz=>?_⟩;rcases Xr.mp hx with hx | hx
  ·exact h2.2.2 x hx z hz
  ·exact hR x hx z hz
theorem Mid.flip (h:Mid R a b out ia ib):Mid R b a out ib ia:=⟨(YC.append_left out Yy).trans (h.pm.trans Yy),h.sb,h.sa⟩
theorem Mid.runB (h:Mid R a b out ia ib)(k:Nat)(hR:∀x∈(b.drop ib).take k,∀z∈a.drop ia,R x z):Mid R a b (out++(b.drop ib).take k) ia (ib+k):=(h.flip.runA k hR).flip
theorem take_one {l:List α}{i:Nat}{x:α}(h:l[i]? = some x):(l.drop i).take 1=[x]:=by
 obtain⟨hi,e⟩:=Xe.mp h;rw[YD hi,e];rfl
theorem Mid.one (h:Mid R a b out ia ib){x:α}(hx:a[ia]? = some x)(hR:∀z∈b.drop ib,R x z):Mid R a b (out++[x]) (ia+1) ib:=by
 have:=h.runA 1 (by rw[take_one hx];intro y hy;rw[Xl.mp hy];exact hR)
 rwa [take_one hx]at this
theorem Mid.oneB (h:Mid R a b out ia ib){x:α}(hx:b[ib]? = some x)(hR:∀z∈a.drop ia,R x z):Mid R a b (out++[x]) ia (ib+1):=(h.flip.one hx hR).flip
theorem Mid.endB (h:Mid R a b out ia ib)(hb:b.length<=ib):Good R a b (out++a.drop ia++b.drop ib):=by
 have e:b.drop ib=[]:=Yv hb;have h1:=h.pm;rw[e,YE]at h1 ⊢;exact⟨h1,h.sa⟩
theorem Mid.endA (h:Mid R a b out ia ib)(ha:a.length<=ia):Good R a b (out++a.drop ia++b.drop ib):=by
 have e:a.drop ia=[]:=Yv ha;have h1:=h.pm;rw[e,List.nil_append]at h1;rw[e,YE];exact⟨h1,h.sb⟩
theorem Mid.last (h:Mid R a b out ia ib)(hR:∀y∈b.drop ib,∀z∈a.drop ia,R y z):Good R a b (out++b.drop ib++a.drop ia):=by
 refine⟨?_,?_⟩
 ·rw[XE];exact(YC.append_left out Yy).trans h.pm
 ·have h1:=XM.mp h.sa;rw[XM];refine⟨h.sb,h1.2.1,λx hx z hz=>?_⟩;rcases Xr.mp hx with hx | hx
  ·exact h1.2.2 x hx z hz
  ·exact hR x hx z hz
end
noncomputable def mLo:Array Keyed->Array Keyed->StateT SortSt Sem (Array Keyed):=sortPriv% PySem.Builtin.mergeLo
noncomputable def setG:Nat->StateT SortSt Sem Unit:=sortPriv% PySem.Builtin.setMinGallop
structure Same (st st':SortSt):Prop where
 kind:kindOf st'=kindOf st
 arr:arrOf st'=arrOf st
 pend:pendingOf st'=pendingOf st
 failed:failedOf st'=failedOf st
theorem Same.refl (st:SortSt):Same st st:=⟨rfl,rfl,rfl,rfl⟩
theorem zaS {α:Type}(a:Array α)(i:Nat):(a.extract i a.size).toList=a.toList.drop i:=by
 rw[Array.toList_extract,YL,Xi (by simp)]
theorem zjm {α:Type}(a:Array α)(i k:Nat):(a.extract i (i+k)).toList=(a.toList.drop i).take k:=by
 rw[Array.toList_extract,YL,Nat.add_sub_cancel_left]
structure Tot (f:Keyed->Keyed->Bool)(P:Keyed->Prop):Prop where
 asym:∀x y,P x->P y->f x y=true->f y x=false
 tr:∀x y z,P x->P y->P z->f y x=false->f z y=false->f z x=false
noncomputable abbrev Le (f:Keyed->Keyed->Bool)(x y:Keyed):Prop:=f y x=false
section
variable {prog:Program}{w:World}{A:Around}{E:Value->Shared->Prop}{s:Shared}{k:SortKind}{P:Keyed->Prop}{f:Keyed->Keyed->Bool}
theorem zhb {g:Nat}{Q:Unit->SortSt->Prop}{st st0:SortSt}(hs:Same st0 st)(h:∀st',Same st0 st'->Q () st'):wpS (model prog w) A E s (setG g) Q st:=
 wpS_modify (h _ ⟨hs.kind,hs.arr,hs.pend,hs.failed⟩)
theorem zfD {a:Array Keyed}(h:∀(j:Nat) x,a[j]? = some x->P x):∀x∈a.toList,P x:=λx hx=>by
 obtain⟨j,hj,e⟩:=List.getElem_of_mem hx;exact h j x (by rw[<- Xu,Xa hj,e])
theorem zhc {l:List Keyed}{i:Nat}{x:Keyed}(T:Tot f P)(hP:∀x∈l,P x)(hs:l.Pairwise (Le f))(hx:l[i]? = some x){y:Keyed}(hy:P y)(hyx:Le f y x):∀z∈l.drop i,Le f y z:=λz hz=>by
 obtain⟨hi,e⟩:=Xe.mp hx;have hd:=hs.drop (i:=i);rw[YD hi,e]at hz hd;rcases Xx.mp hz with rfl | hz2
 ·exact hyx
 ·exact T.tr y x z hy (hP x (Xn hx)) (hP z (List.mem_of_mem_drop hz2)) hyx (List.rel_of_pairwise_cons hd hz2)
theorem zbS {l:Bool}{key:Keyed}{a:Array Keyed}{b i:Nat}(h:b+i<a.size):beyB f l key a b i=if l then f a[b+i] key else !f key a[b+i]:=by
 unfold beyB;rw[getElem?_pos a (b+i) h]
theorem zjn {a:Array Keyed}(hs:a.toList.Pairwise (Le f)){i j:Nat}(hij:i<j)(hj:j<a.size):Le f (a[i]'(by lia)) a[j]:=by
 have:=List.pairwise_iff_getElem.mp hs i j (by simp;lia) (by simpa using hj) hij;simpa using this
theorem zfb (T:Tot f P){l:Bool}{key:Keyed}{a:Array Keyed}{b n:Nat}(hn:b+n<=a.size)(hP:∀(j:Nat) x,a[j]? = some x->P x)(hk:P key)(hs:a.toList.Pairwise (Le f)):∀i j,i<=j->j<n->beyB f l key a b j=true->beyB f l key a b i=true:=by
 intro i j hij hj h;rcases Nat.lt_or_eq_of_le hij with hlt | rfl
 ·have hi':b+i<a.size:=by lia
  have hj':b+j<a.size:=by lia
  have pi:P a[b+i]:=hP _ _ (getElem?_pos a _ hi');have pj:P a[b+j]:=hP _ _ (getElem?_pos a _ hj');have hle:Le f a[b+i] a[b+j]:=zjn hs (by lia) hj';rw[zbS hj']at h;rw[zbS hi'];cases l with
  | true=>
   simp only[if_true]at h ⊢;cases hc:f a[b+i] key with
   | true=>rfl
   | false=>rw[T.tr key a[b+i] a[b+j] hk pi pj hc hle]at h;cases h
  | false=>
   simp only[Xz,if_false]at h ⊢;have h:f key a[b+j]=false:=by simpa using h
   rw[T.tr a[b+i] a[b+j] key pi pj hk hle h];rfl
 ·exact h
theorem zdE {a:Array Keyed}{i k:Nat}(hk:i+k<=a.size){x:Keyed}(hx:x∈(a.toList.drop i).take k):∃j,∃h:i+j<a.size,j<k/\x=a[i+j]:=by
 obtain⟨j,hj,e⟩:=List.getElem_of_mem hx;rw[XH,List.length_drop,Xv]at hj;refine⟨j,by lia,by omega,?_⟩;rw[<- e];simp
theorem ztf (C:Cmp prog w A E s k P f)(T:Tot f P){a b:Array Keyed}{Q:Array Keyed->SortSt->Prop}{st:SortSt}(hst:kindOf st=k)(ha:0<a.size)(hb:0<b.size)(hPa:∀(j:Nat) x,a[j]? = some x->P x)(hPb:∀(j:Nat) x,b[j]? = some x->P x)
  (sa:a.toList.Pairwise (Le f)) (sb:b.toList.Pairwise (Le f)) (h0:f b[0] a[0]=true) (hl:∀y∈b.toList,Le f y (a[a.size-1]'(by omega)))
  (hQ:∀out st',Good (Le f) a.toList b.toList out.toList->Same st st'->Q out st'):wpS (model prog w) A E s (mLo a b) Q st:=by
 have pa:=zfD hPa;have pb:=zfD hPb;have la:a.toList.length=a.size:=Xv;have lb:b.toList.length=b.size:=Xv;have ga:∀ {i:Nat},(hi:i<a.size)->a[i]? = some a[i]:=λ{i} hi=>getElem?_pos a i hi;have gb:∀ {i:Nat},(hi:i<b.size)->b[i]? = some b[i]:=λ{i} hi=>getElem?_pos b i hi;have gla:∀ {i:Nat},(hi:i<a.size)->a.toList[i]? = some a[i]:=λ{i} hi=>by rw[Xu];exact ga hi
 have glb:∀ {i:Nat},(hi:i<b.size)->b.toList[i]? = some b[i]:=λ{i} hi=>by rw[Xu];exact gb hi
 have Pa:∀ {i:Nat},(hi:i<a.size)->P a[i]:=λ{i} hi=>hPa i _ (ga hi);have Pb:∀ {i:Nat},(hi:i<b.size)->P b[i]:=λ{i} hi=>hPb i _ (gb hi);have stB:∀ {out:List Keyed} {ia ib:Nat},Mid (Le f) a.toList b.toList out ia ib->(h1:ia<a.size)->(h2:ib<b.size)->f b[ib] a[ia]=true->Mid (Le f) a.toList b.toList (out++[b[ib]]) ia (ib+1):=
  λm h1 h2 hf=>m.oneB (glb h2) (zhc T pa sa (gla h1) (Pb h2) (T.asym _ _ (Pb h2) (Pa h1) hf))
 have stA:∀ {out:List Keyed} {ia ib:Nat},Mid (Le f) a.toList b.toList out ia ib->(h1:ia<a.size)->(h2:ib<b.size)->f b[ib] a[ia]=false->Mid (Le f) a.toList b.toList (out++[a[ia]]) (ia+1) ib:=
  λm h1 h2 hf=>m.one (gla h1) (zhc T pb sb (glb h2) (Pa h1) hf)
 have lst:∀ {out:List Keyed} {ia ib:Nat},Mid (Le f) a.toList b.toList out ia ib->ia+1=a.size->Good (Le f) a.toList b.toList (out++b.toList.drop ib++a.toList.drop ia):=λ{out ia ib} m h1=>
  m.last λy hy z hz=>by
   have e:a.toList.drop ia=[a[a.size-1]'(by lia)]:=by
    rw[YD (by lia),Yv (by lia)]
    congr 1
    rw[Array.getElem_toList]
    congr 1
    lia
   rw[e]at hz;rw[Xl.mp hz];exact hl y (List.mem_of_mem_drop hy)
 have start:Mid (Le f) a.toList b.toList [b[0]] 0 1:=by
  have:Mid (Le f) a.toList b.toList [] 0 0:=⟨by simp,by simpa using sa,by simpa using sb⟩;exact stB this ha hb h0
 refine wpS_bind (wpS_lift (wpAny_rule ⟨rfl,?_⟩));refine wpS_bind (zaA (gb hb) ?_);refine zaN (λhb1=>?_) (λhb1=>?_)
 ·refine wpS_pure (hQ _ _ ?_ (.refl st));have e:1=b.size:=by simpa using hb1
  rw[Xp,Xp,zaS,zaS];exact start.endB (by lia)
 refine zaN (λha1=>?_) (λha1=>?_)
 ·refine wpS_pure (hQ _ _ ?_ (.refl st));have e:0+1=a.size:=by simpa using ha1
  rw[Xp,Xp,zaS,zaS];exact lst start (by omega)
 have hb2:1<b.size:=by have:¬ 1=b.size:=(by simpa using hb1);lia
 have ha2:0+1<a.size:=by have:¬ 0+1=a.size:=(by simpa using ha1);lia
 refine wpS_bind (wpS_get ?_);refine wpS_bind (wpS_mono (wpS_forRange
  (I:=λx c st'=>Same st st'/\∃out ia ib mg,c=(none,out,ia,ib,mg)/\Mid (Le f) a.toList b.toList out.toList ia ib/\ia+1<a.size/\ib<b.size/\x+1<=ia+ib)
  (Q:=λc st'=>Same st st'/\∃out,c.1=some out/\Good (Le f) a.toList b.toList out.toList) ?step ?fin ⟨.refl st,_,0,1,_,rfl,by simpa using start,ha2,hb2,by lia⟩) ?post)
 case fin=>
  rintro c st' ⟨_,out,ia,ib,mg,rfl,_,h1,h2,h3⟩;exfalso
  lia
 case post=>
  rintro⟨c1,c2⟩ st' ⟨hs,out,e,g⟩;simp only at e;subst e;exact wpS_pure (hQ _ _ g hs)
 case step=>
  rintro x c st1 _ hx ⟨hs,out,ia,ib,mg,rfl,m,h1,h2,h3⟩;show wpS _ _ _ _ (bind _ _) _ _;dsimp -zeta only;refine wpS_bind (wpS_mono (wpS_forRange
   (I:=λx c st'=>Same st st'/\∃out ia2 ib2 ac bc,c=(none,out,ia2,ib2,ac,bc)/\Mid (Le f) a.toList b.toList out.toList ia2 ib2/\ia2+1<a.size/\ib2<b.size/\x+(ia+ib)<=ia2+ib2)
   (Q:=λc st'=>Same st st'/\((∃out,c.1=some out/\Good (Le f) a.toList b.toList out.toList)\/∃out ia2 ib2 ac bc,c=(none,out,ia2,ib2,ac,bc)/\Mid (Le f) a.toList b.toList out.toList ia2 ib2/\ia2+1<a.size/\ib2<b.size/\1+(ia+ib)<=ia2+ib2)) ?step1 ?fin1 ⟨hs,out,ia,ib,0,0,rfl,m,h1,h2,by lia⟩) ?post1)
  case fin1=>
   rintro c st' ⟨_,out,ia2,ib2,ac,bc,rfl,_,h1,h2,h3⟩;exfalso
   lia
  case step1=>
   rintro y c st2 _ hy ⟨hs2,out2,ia2,ib2,ac,bc,rfl,m2,g1,g2,g3⟩;dsimp only;refine wpS_bind (zaA (gb g2) (wpS_bind (zaA (ga (show ia2<a.size by lia)) (wpS_bind (C.run (Pb g2) (Pa _) (by rw[hs2.kind];exact hst) ?_)))));dsimp only;cases hf:f b[ib2] (a[ia2]'(by lia))with
   | true=>
    have m3:=stB m2 (by lia) g2 hf;rw[<- Array.toList_push]at m3;rw[if_pos rfl];refine wpS_bind (zaA (gb g2) ?_);refine zaN (λe1=>?_) (λe1=>?_)
    ·have e1:ib2+1=b.size:=by simpa using e1
     refine wpS_pure ⟨hs2,.inl ⟨_,rfl,?_⟩⟩;rw[Xp,Xp,zaS,zaS];exact m3.endB (by lia)
    ·have e1:¬ ib2+1=b.size:=by simpa using e1
     refine zaN (λe2=>?_) (λe2=>?_)
     ·exact wpS_pure ⟨hs2,.inr ⟨_,_,_,_,_,rfl,m3,g1,by lia,by lia⟩⟩
     ·exact wpS_pure ⟨hs2,_,_,_,_,_,rfl,m3,g1,by lia,by lia⟩
   | false=>
    have m3:=stA m2 (by lia) g2 hf;rw[<- Array.toList_push]at m3;rw[if_neg (by decide)];refine wpS_bind (zaA (ga (show ia2<a.size by lia)) ?_);refine zaN (λe1=>?_) (λe1=>?_)
    ·have e1:ia2+1+1=a.size:=by simpa using e1
     refine wpS_pure ⟨hs2,.inl ⟨_,rfl,?_⟩⟩;rw[Xp,Xp,zaS,zaS];exact lst m3 e1
    ·have e1:¬ ia2+1+1=a.size:=by simpa using e1
     refine zaN (λe2=>?_) (λe2=>?_)
     ·exact wpS_pure ⟨hs2,.inr ⟨_,_,_,_,_,rfl,m3,by lia,g2,by lia⟩⟩
     ·exact wpS_pure ⟨hs2,_,_,_,_,_,rfl,m3,by lia,g2,by lia⟩
  case post1=>
   rintro c st2 ⟨hs2,hc⟩;rcases hc with ⟨out2,e,g⟩ | ⟨out2,ia2,ib2,ac,bc,rfl,m2,g1,g2,g3⟩
   ·obtain⟨c1,c2⟩:=c;simp only at e;subst e;exact wpS_pure ⟨hs2,_,rfl,g⟩
   show wpS _ _ _ _ (bind _ _) _ _;dsimp -zeta only;refine wpS_bind (wpS_lift (wpAny_rule ⟨rfl,?_⟩));refine wpS_bind (wpS_mono (wpS_forRange
    (I:=λx c st'=>Same st st'/\∃out ia3 ib3 mg ac bc,c=(none,out,ia3,ib3,mg,ac,bc)/\Mid (Le f) a.toList b.toList out.toList ia3 ib3/\ia3+1<a.size/\ib3<b.size/\x+(ia2+ib2)<=ia3+ib3)
    (Q:=λc st'=>Same st st'/\((∃out,c.1=some out/\Good (Le f) a.toList b.toList out.toList)\/∃out ia3 ib3 mg ac bc,c=(none,out,ia3,ib3,mg,ac,bc)/\Mid (Le f) a.toList b.toList out.toList ia3 ib3/\ia3+1<a.size/\ib3<b.size/\ia2+ib2<=ia3+ib3)) ?step2 ?fin2 ⟨hs2,out2,ia2,ib2,_,ac,bc,rfl,m2,g1,g2,by lia⟩) ?post2)
   case fin2=>
    rintro c st' ⟨_,out,ia2,ib2,mg,ac,bc,rfl,_,h1,h2,h3⟩;exfalso
    lia
   case post2=>
    rintro c st3 ⟨hs3,hc⟩;rcases hc with ⟨out3,e,g⟩ | ⟨out3,ia3,ib3,mg3,ac3,bc3,rfl,m3,q1,q2,q3⟩
    ·obtain⟨c1,c2⟩:=c;simp only at e;subst e;exact wpS_pure ⟨hs3,_,rfl,g⟩
    dsimp only;refine wpS_bind (zhb hs3 λst4 hs4=>?_);exact wpS_pure ⟨hs4,_,_,_,_,rfl,m3,q1,q2,by lia⟩
   case step2=>
    rintro y c st3 _ hy ⟨hs3,out3,ia3,ib3,mg3,ac3,bc3,rfl,m3,q1,q2,q3⟩;have nA:ia3+(a.size-ia3)<=a.size:=by lia
    show wpS _ _ _ _ (ite _ _ _) _ _;dsimp -zeta only;generalize mg3-1=mu;revert mu;refine ztd λmgX=>?_;refine wpS_bind (zhb hs3 λst4 hs4=>?_);refine wpS_bind (zaA (gb q2) (wpS_bind ?_));refine zgq C (l:=false) (key:=b[ib3]) (a:=a) (b:=ia3) (n:=a.size-ia3) (h:=0) (by lia) nA hPa (Pb q2) (by rw[hs4.kind];exact hst) (zfb T nA hPa (Pb q2) sa) λkk cut=>?_;have c1:=cut.le;have m4:=m3.runA kk λx hx=>by
     obtain⟨j,hj,hjk,rfl⟩:=zdE (by lia) hx;have:=cut.below j hjk;rw[zbS hj]at this;simp only[Xz,if_false]at this;exact zhc T pb sb (glb q2) (Pa hj) (show f b[ib3] a[ia3+j]=false by simpa using this)
    have c2:∀(h:ia3+kk<a.size),f b[ib3] a[ia3+kk]=true:=λh=>by
     have:=cut.above kk (Xf _) (by lia);rw[zbS h]at this;simp only[Xz,if_false]at this;simpa using this
    show wpS _ _ _ _ (ite _ _ _) _ _;dsimp -zeta only;have HH:=And.intro m4 (And.intro c1 (And.intro c2 (And.intro q1 q3)));clear c1 c2 m4 cut nA m3 q1 q3;revert HH;revert ia3;revert out3;refine zkj (λo i=>Mid (Le f) a.toList b.toList o.toList i ib3/\i+1<a.size/\(∀(h:i<a.size),f b[ib3] a[i]=true)/\y+(ia2+ib2)<=i+ib3) ?_ (λout3 ia3 ⟨m4,c1,c2,q1,q3⟩ hk0 key=>?_) λout3 ia3 ⟨m4,c1,c2,q1,q3⟩ hk0=>?_
    rotate_left
    ·refine zaN (λe1=>?_) (λe1=>?_)
     ·refine wpS_pure ⟨hs4,.inl ⟨_,rfl,?_⟩⟩;rw[Xp,Xp,Xp,zaS,zaS,zjm];exact lst m4 (by simpa using e1)
     refine zaN (λe2=>?_) (λe2=>?_)
     ·have e2:ia3+kk=a.size:=by simpa using e2
      refine wpS_pure ⟨hs4,.inl ⟨_,rfl,?_⟩⟩;rw[Xp,Xp,Xp,zaS,zaS,zjm];exact m4.endA (by lia)
     have e1:¬ ia3+kk+1=a.size:=by simpa using e1
     have e2:¬ ia3+kk=a.size:=by simpa using e2
     rw[<- zjm,<- Xp]at m4;exact key _ _ ⟨m4,by omega,c2,by lia⟩
    ·have hk0:kk=0:=Nat.eq_zero_of_not_pos hk0;subst hk0;rw[Nat.add_zero,List.take_zero,YE]at m4;exact⟨m4,q1,c2,by omega⟩
    rintro outX iaX ⟨m4,gX,fX,qX⟩;have gX':iaX<a.size:=by lia
    have m5:=stB m4 gX' q2 (fX gX');rw[<- Array.toList_push]at m5;refine wpS_bind (zaA (gb q2) ?_);refine zaN (λe3=>?_) (λe3=>?_)
    ·have e3:ib3+1=b.size:=by simpa using e3
     refine wpS_pure ⟨hs4,.inl ⟨_,rfl,?_⟩⟩;rw[Xp,Xp,zaS,zaS];exact m5.endB (by lia)
    have e3:¬ ib3+1=b.size:=by simpa using e3
    have nB:(ib3+1)+(b.size-(ib3+1))<=b.size:=by lia
    refine wpS_bind (zaA (ga gX') (wpS_bind ?_));refine zgq C (l:=true) (key:=a[iaX]) (a:=b) (b:=ib3+1) (n:=b.size-(ib3+1)) (h:=0) (by lia) nB hPb (Pa gX') (by rw[hs4.kind];exact hst) (zfb T nB hPb (Pa gX') sb) λk2 cut2=>?_;have d1:=cut2.le;have m6:=m5.runB k2 λx hx=>by
     obtain⟨j,hj,hjk,rfl⟩:=zdE (by lia) hx;have:=cut2.below j hjk;rw[zbS hj]at this;simp only[if_true]at this;exact zhc T pa sa (gla gX') (Pb hj) (T.asym _ _ (Pb hj) (Pa gX') this)
    have d2:∀(h:ib3+1+k2<b.size),f b[ib3+1+k2] a[iaX]=false:=λh=>by
     have:=cut2.above k2 (Xf _) (by lia);rw[zbS h]at this;simpa only[if_true]using this
    have l3:ib3+1<b.size:=by lia
    have qY:y+1+(ia2+ib2)<=iaX+(ib3+1):=by lia
    clear m5 cut2 e3 nB m4 fX;generalize outX.push b[ib3]=outY at m6;show wpS _ _ _ _ (ite _ _ _) _ _;dsimp -zeta only;generalize ib3+1=ib4 at m6 d1 d2 l3 qY ⊢;have HH:=And.intro m6 (And.intro d1 (And.intro d2 (And.intro l3 qY)));clear m6 d1 d2 l3 qY;revert HH;revert ib4;revert outY;refine zkj (γ:=Array Keyed) (δ:=Nat) (λo i=>Mid (Le f) a.toList b.toList o.toList iaX i/\i<b.size/\(∀(h:i<b.size),f b[i] a[iaX]=false)/\y+1+(ia2+ib2)<=iaX+i) ?_ (λoutY ib4 ⟨m6,d1,d2,l3,qY⟩ hk2 key=>?_) λoutY ib4 ⟨m6,d1,d2,l3,qY⟩ hk2=>?_
    rotate_left
    ·refine zaN (λe4=>?_) (λe4=>?_)
     ·have e4:ib4+k2=b.size:=by simpa using e4
      refine wpS_pure ⟨hs4,.inl ⟨_,rfl,?_⟩⟩;rw[Xp,Xp,Xp,zaS,zaS,zjm];exact m6.endB (by lia)
     have e4:¬ ib4+k2=b.size:=by simpa using e4
     rw[<- zjm,<- Xp]at m6;exact key _ _ ⟨m6,by omega,d2,by lia⟩
    ·have hk2:k2=0:=Nat.eq_zero_of_not_pos hk2;subst hk2;rw[Nat.add_zero,List.take_zero,YE]at m6;exact⟨m6,l3,d2,qY⟩
    rintro outZ ibZ ⟨m6,gY,fY,qY⟩;have m7:=stA m6 gX' gY (fY gY);rw[<- Array.toList_push]at m7;refine wpS_bind (zaA (ga gX') ?_);refine zaN (λe5=>?_) (λe5=>?_)
    ·refine wpS_pure ⟨hs4,.inl ⟨_,rfl,?_⟩⟩;rw[Xp,Xp,zaS,zaS];exact lst m7 (by simpa using e5)
    have e5:¬ iaX+1+1=a.size:=by simpa using e5
    split
    ·exact wpS_pure ⟨hs4,.inr ⟨_,_,_,_,_,_,rfl,m7,by lia,gY,by lia⟩⟩
    ·exact wpS_pure ⟨hs4,_,_,_,_,_,_,rfl,m7,by lia,gY,by lia⟩
end
noncomputable def mHi:Array Keyed->Array Keyed->StateT SortSt Sem (Array Keyed):=sortPriv% PySem.Builtin.mergeHi
structure Up {α:Type}(R:α->α->Prop)(a b O:List α)(na nb:Nat):Prop where
 pm:(a.take na++(b.take nb++O)).Perm (a++b)
 sa:(a.take na++O).Pairwise R
 sb:(b.take nb++O).Pairwise R
section
variable {α:Type}{R:α->α->Prop}{a b O:List α}{na nb:Nat}
theorem ztg {l:List α}{i n:Nat}(h:i<=n):l.take n=l.take i++(l.take n).drop i:=by
 have:=(Yb i (l.take n)).symm
 rwa [List.take_take,Nat.min_eq_left h]at this
theorem Up.flip (h:Up R a b O na nb):Up R b a O nb na:=by
 refine⟨?_,h.sb,h.sa⟩;refine YC.trans ?_ (h.pm.trans Yy);rw[<- XE,<- XE];exact YC.append_right O Yy
theorem Up.runA (h:Up R a b O na nb){i:Nat}(hi:i<=na)(hR:∀z∈b.take nb,∀x∈(a.take na).drop i,R z x):Up R a b ((a.take na).drop i++O) i nb:=by
 have e:=ztg (l:=a) hi;refine⟨?_,?_,?_⟩
 ·refine YC.trans ?_ h.pm;have e2:a.take na++(b.take nb++O)=a.take i++((a.take na).drop i++(b.take nb++O)):=by
   rw[<- XE (a.take i),<- e]
  rw[e2];refine YC.append_left _ ?_;rw[<- XE,<- XE];exact YC.append_right O Yy
 ·rw[<- XE,<- e];exact h.sa
 ·have h1:=h.sa;have h2:=XM.mp h.sb;rw[e,XE]at h1;have h1:=(XM.mp h1).2.1;rw[XM];refine⟨h2.1,h1,λz hz x hx=>?_⟩;rcases Xr.mp hx with hx | hx
  ·exact hR z hz x hx
  ·exact h2.2.2 z hz x hx
theorem Up.runB (h:Up R a b O na nb){i:Nat}(hi:i<=nb)(hR:∀z∈a.take na,∀x∈(b.take nb).drop i,R z x):Up R a b ((b.take nb).drop i++O) na i:=(h.flip.runA hi hR).flip
theorem zpB {l:List α}{i:Nat}{x:α}(h:l[i]? = some x):(l.take (i+1)).drop i=[x]:=by
 obtain⟨hi,e⟩:=Xe.mp h;rw[List.drop_take,YD hi,e,Nat.add_sub_cancel_left];rfl
theorem Up.one (h:Up R a b O (na+1) nb){x:α}(hx:a[na]? = some x)(hR:∀z∈b.take nb,R z x):Up R a b (x::O) na nb:=by
 have:=h.runA (i:=na) (by lia) (by rw[zpB hx];intro z hz y hy;rw[Xl.mp hy];exact hR z hz)
 rwa [zpB hx]at this
theorem Up.oneB (h:Up R a b O na (nb+1)){x:α}(hx:b[nb]? = some x)(hR:∀z∈a.take na,R z x):Up R a b (x::O) na nb:=(h.flip.one hx hR).flip
theorem Up.endA (h:Up R a b O 0 nb):Good R a b (a.take 0++b.take nb++O):=⟨by rw[XE];exact h.pm,by simpa using h.sb⟩
theorem Up.endB (h:Up R a b O na 0):Good R a b (a.take na++b.take 0++O):=⟨by rw[XE];exact h.pm,by simpa using h.sa⟩
theorem Up.first (h:Up R a b O na nb)(hR:∀y∈b.take nb,∀z∈a.take na,R y z):Good R a b (b.take nb++a.take na++O):=by
 refine⟨?_,?_⟩
 ·refine YC.trans ?_ h.pm;rw[<- XE];exact YC.append_right O Yy
 ·have h1:=XM.mp h.sb;rw[XE,XM];refine⟨h1.1,h.sa,λy hy z hz=>?_⟩;rcases Xr.mp hz with hz | hz
  ·exact hR y hy z hz
  ·exact h1.2.2 y hy z hz
end
theorem zbw {α:Type}(a:Array α)(n:Nat):(a.extract 0 n).toList=a.toList.take n:=by
 rw[Array.toList_extract,YL,List.drop_zero,Nat.sub_zero]
theorem zni {α:Type}(a:Array α)(i n:Nat):(a.extract i n).toList=(a.toList.take n).drop i:=by
 rw[Array.toList_extract,YL,List.drop_take]
section
variable {prog:Program}{w:World}{A:Around}{E:Value->Shared->Prop}{s:Shared}{k:SortKind}{P:Keyed->Prop}{f:Keyed->Keyed->Bool}
theorem zhd {a:Array Keyed}{n:Nat}{x:Keyed}(hx:x∈a.toList.take n):∃j,∃h:j<a.size,j<n/\x=a[j]:=by
 obtain⟨j,hj,e⟩:=List.getElem_of_mem hx;rw[XH,Xv]at hj;exact⟨j,by lia,by lia,by rw[<- e];simp⟩
theorem mem_mid {a:Array Keyed}{i n:Nat}{x:Keyed}(hx:x∈(a.toList.take n).drop i):∃j,∃h:j<a.size,i<=j/\j<n/\x=a[j]:=by
 obtain⟨j,hj,e⟩:=List.getElem_of_mem hx;rw[List.length_drop,XH,Xv]at hj;exact⟨i+j,by omega,by lia,by omega,by rw[<- e];simp⟩
theorem zhe (T:Tot f P){a:Array Keyed}(hP:∀(j:Nat) x,a[j]? = some x->P x)(hs:a.toList.Pairwise (Le f)){n:Nat}(hn:n<a.size){y:Keyed}(hy:P y)(hxy:Le f a[n] y):∀z∈a.toList.take (n+1),Le f z y:=λz hz=>by
 obtain⟨j,hj,hjn,rfl⟩:=zhd hz;rcases Nat.lt_or_eq_of_le (Nat.le_of_lt_succ hjn)with h | rfl
 ·exact T.tr a[j] a[n] y (hP j _ (getElem?_pos a j hj)) (hP n _ (getElem?_pos a n hn)) hy (zjn hs h hn) hxy
 ·exact hxy
end
theorem Up.zoK {α:Type}{R:α->α->Prop}{a b O:List α}{na nb:Nat}(h:Up R a b O na nb)(e:na=0):Good R a b (a.take na++b.take nb++O):=by subst e;exact h.endA
theorem Up.zuf {α:Type}{R:α->α->Prop}{a b O:List α}{na nb:Nat}(h:Up R a b O na nb)(e:nb=0):Good R a b (a.take na++b.take nb++O):=by subst e;exact h.endB
section
variable {prog:Program}{w:World}{A:Around}{E:Value->Shared->Prop}{s:Shared}{k:SortKind}{P:Keyed->Prop}{f:Keyed->Keyed->Bool}
theorem zth (C:Cmp prog w A E s k P f)(T:Tot f P){a b:Array Keyed}{Q:Array Keyed->SortSt->Prop}{st:SortSt}(hst:kindOf st=k)(ha:0<a.size)(hb:0<b.size)(hPa:∀(j:Nat) x,a[j]? = some x->P x)(hPb:∀(j:Nat) x,b[j]? = some x->P x)
  (sa:a.toList.Pairwise (Le f)) (sb:b.toList.Pairwise (Le f)) (h0:f b[0] a[0]=true) (hl:∀y∈b.toList,Le f y (a[a.size-1]'(by omega)))
  (hQ:∀out st',Good (Le f) a.toList b.toList out.toList->Same st st'->Q out st'):wpS (model prog w) A E s (mHi a b) Q st:=by
 have pa:=zfD hPa;have pb:=zfD hPb;have la:a.toList.length=a.size:=Xv;have lb:b.toList.length=b.size:=Xv;have ga:∀ {i:Nat},(hi:i<a.size)->a[i]? = some a[i]:=λ{i} hi=>getElem?_pos a i hi;have gb:∀ {i:Nat},(hi:i<b.size)->b[i]? = some b[i]:=λ{i} hi=>getElem?_pos b i hi;have gla:∀ {i:Nat},(hi:i<a.size)->a.toList[i]? = some a[i]:=λ{i} hi=>by rw[Xu];exact ga hi
 have glb:∀ {i:Nat},(hi:i<b.size)->b.toList[i]? = some b[i]:=λ{i} hi=>by rw[Xu];exact gb hi
 have Pa:∀ {i:Nat},(hi:i<a.size)->P a[i]:=λ{i} hi=>hPa i _ (ga hi);have Pb:∀ {i:Nat},(hi:i<b.size)->P b[i]:=λ{i} hi=>hPb i _ (gb hi);have stA:∀ {O:List Keyed} {n m:Nat},Up (Le f) a.toList b.toList O (n+1) (m+1)->(h1:n<a.size)->(h2:m<b.size)->f b[m] a[n]=true->Up (Le f) a.toList b.toList (a[n]::O) n (m+1):=
  λu h1 h2 hf=>u.one (gla h1) (zhe T hPb sb h2 (Pa h1) (T.asym _ _ (Pb h2) (Pa h1) hf))
 have stB:∀ {O:List Keyed} {n m:Nat},Up (Le f) a.toList b.toList O (n+1) (m+1)->(h1:n<a.size)->(h2:m<b.size)->f b[m] a[n]=false->Up (Le f) a.toList b.toList (b[m]::O) (n+1) m:=
  λu h1 h2 hf=>u.oneB (glb h2) (zhe T hPa sa h1 (Pb h2) hf)
 have fst:∀ {O:List Keyed} {n m:Nat},Up (Le f) a.toList b.toList O n m->m=1->Good (Le f) a.toList b.toList (b.toList.take m++a.toList.take n++O):=λ{O n m} u em=>
  u.first λy hy z hz=>by
   obtain⟨i,hi,hi1,rfl⟩:=zhd hy;obtain⟨j,hj,_,rfl⟩:=zhd hz;have:i=0:=by lia
   subst this;have h1:=T.asym _ _ (Pb hb) (Pa ha) h0;rcases Nat.eq_zero_or_pos j with rfl | hj0
   ·exact h1
   ·exact T.tr _ _ _ (Pb hb) (Pa ha) (Pa hj) h1 (zjn sa hj0 hj)
 have start:Up (Le f) a.toList b.toList [a[a.size-1]'(by lia)] (a.size-1) b.size:=by
  have h:Up (Le f) a.toList b.toList [] (a.size-1+1) b.size:=by
   refine⟨?_,?_,?_⟩
   ·rw[Xi (by lia),Xi (by lia),YE]
   ·rw[Xi (by lia),YE];exact sa
   ·rw[Xi (by lia),YE];exact sb
  exact h.one (gla (by lia)) λz hz=>hl z (List.mem_of_mem_take hz)
 refine wpS_bind (wpS_lift (wpAny_rule ⟨rfl,?_⟩));refine wpS_bind (zaA (ga (show a.size-1<a.size by lia)) ?_);refine zaN (λha1=>?_) (λha1=>?_)
 ·have e:a.size-1=0:=by simpa using ha1
  refine wpS_pure (hQ _ _ ?_ (.refl st));rw[Xp,Xp,zbw,zbw,Yq];exact start.zoK e
 refine zaN (λhb1=>?_) (λhb1=>?_)
 ·have e:b.size=1:=by simpa using hb1
  refine wpS_pure (hQ _ _ ?_ (.refl st));rw[Xp,Xp,zbw,zbw,Yq];exact fst start e
 have ha2:1<=a.size-1:=by have:¬ a.size-1=0:=(by simpa using ha1);lia
 have hb2:2<=b.size:=by have:¬ b.size=1:=(by simpa using hb1);lia
 refine wpS_bind (wpS_get ?_);refine wpS_bind (wpS_mono (wpS_forRange
  (I:=λx c st'=>Same st st'/\∃out na nb mg,c=(none,na,nb,out,mg)/\Up (Le f) a.toList b.toList out.toList.reverse na nb/\1<=na/\2<=nb/\na<=a.size/\nb<=b.size/\x+(na+nb)+1<=a.size+b.size)
  (Q:=λc st'=>Same st st'/\∃out,c.1=some out/\Good (Le f) a.toList b.toList out.toList) ?step ?fin ⟨.refl st,_,a.size-1,b.size,_,rfl,by simpa using start,ha2,hb2,by lia,by lia,by lia⟩) ?post)
 case fin=>
  rintro c st' ⟨_,out,na,nb,mg,rfl,_,h1,h2,h3,h4,h5⟩;exfalso
  lia
 case post=>
  rintro⟨c1,c2⟩ st' ⟨hs,out,e,g⟩;simp only at e;subst e;exact wpS_pure (hQ _ _ g hs)
 case step=>
  rintro x c st1 _ hx ⟨hs,out,na,nb,mg,rfl,u,h1,h2,h3,h4,h5⟩;show wpS _ _ _ _ (bind _ _) _ _;dsimp -zeta only;refine wpS_bind (wpS_mono (wpS_forRange
   (I:=λx c st'=>Same st st'/\∃out n2 m2 ac bc,c=(none,n2+1,m2+1,out,ac,bc)/\Up (Le f) a.toList b.toList out.toList.reverse (n2+1) (m2+1)/\1<=m2/\n2<a.size/\m2<b.size/\x+(n2+m2+2)<=na+nb)
   (Q:=λc st'=>Same st st'/\((∃out,c.1=some out/\Good (Le f) a.toList b.toList out.toList)\/∃out n2 m2 ac bc,c=(none,n2+1,m2+1,out,ac,bc)/\Up (Le f) a.toList b.toList out.toList.reverse (n2+1) (m2+1)/\1<=m2/\n2<a.size/\m2<b.size/\1+(n2+m2+2)<=na+nb)) ?step1 ?fin1 ?ini1) ?post1)
  case ini1=>
   obtain⟨n,rfl⟩:∃n,na=n+1:=⟨na-1,by lia⟩;obtain⟨m,rfl⟩:∃m,nb=m+1:=⟨nb-1,by lia⟩;exact⟨hs,out,n,m,0,0,rfl,u,by lia,by lia,by lia,by lia⟩
  case fin1=>
   rintro c st' ⟨_,out,n2,m2,ac,bc,rfl,_,h1,h2,h3,h4⟩;exfalso
   lia
  case step1=>
   rintro y c st2 _ hy ⟨hs2,out2,n2,m2,ac,bc,rfl,u2,g1,g2,g3,g4⟩;dsimp only;refine wpS_bind (zaA (gb g3) (wpS_bind (zaA (ga g2) (wpS_bind (C.run (Pb g3) (Pa g2) (by rw[hs2.kind];exact hst) ?_)))));simp only[Nat.add_sub_cancel];cases hf:f b[m2] a[n2]with
   | true=>
    have u3:=stA u2 g2 g3 hf;have er:a[n2]::out2.toList.reverse=(out2.push a[n2]).toList.reverse:=by simp
    rw[er]at u3;rw[if_pos rfl];refine wpS_bind (zaA (ga g2) ?_);refine zaN (λe1=>?_) (λe1=>?_)
    ·refine wpS_pure ⟨hs2,.inl ⟨_,rfl,?_⟩⟩;rw[Xp,Xp,zbw,zbw,Yq];exact u3.zoK (by simpa using e1)
    ·have e1:¬ n2=0:=by simpa using e1
     obtain⟨n3,rfl⟩:∃n3,n2=n3+1:=⟨n2-1,by lia⟩;refine zaN (λe2=>?_) (λe2=>?_)
     ·exact wpS_pure ⟨hs2,.inr ⟨_,_,_,_,_,rfl,u3,g1,by lia,g3,by lia⟩⟩
     ·exact wpS_pure ⟨hs2,_,_,_,_,_,rfl,u3,g1,by lia,g3,by lia⟩
   | false=>
    have u3:=stB u2 g2 g3 hf;have er:b[m2]::out2.toList.reverse=(out2.push b[m2]).toList.reverse:=by simp
    rw[er]at u3;rw[if_neg (by decide)];refine wpS_bind (zaA (gb g3) ?_);refine zaN (λe1=>?_) (λe1=>?_)
    ·refine wpS_pure ⟨hs2,.inl ⟨_,rfl,?_⟩⟩;rw[Xp,Xp,zbw,zbw,Yq];exact fst u3 (by simpa using e1)
    ·have e1:¬ m2=1:=by simpa using e1
     obtain⟨m3,rfl⟩:∃m3,m2=m3+1:=⟨m2-1,by lia⟩;refine zaN (λe2=>?_) (λe2=>?_)
     ·exact wpS_pure ⟨hs2,.inr ⟨_,_,_,_,_,rfl,u3,by lia,g2,by lia,by lia⟩⟩
     ·exact wpS_pure ⟨hs2,_,_,_,_,_,rfl,u3,by lia,g2,by lia,by lia⟩
  case post1=>
   rintro c st2 ⟨hs2,hc⟩;rcases hc with ⟨out2,e,g⟩ | ⟨out2,n2,m2,ac,bc,rfl,u2,g1,g2,g3,g4⟩
   ·obtain⟨c1,c2⟩:=c;simp only at e;subst e;exact wpS_pure ⟨hs2,_,rfl,g⟩
   show wpS _ _ _ _ (bind _ _) _ _;dsimp -zeta only;refine wpS_bind (wpS_lift (wpAny_rule ⟨rfl,?_⟩));refine wpS_bind (wpS_mono (wpS_forRange
    (I:=λx c st'=>Same st st'/\∃out n3 m3 mg ac bc,c=(none,n3+1,m3+1,out,mg,ac,bc)/\Up (Le f) a.toList b.toList out.toList.reverse (n3+1) (m3+1)/\1<=m3/\n3<a.size/\m3<b.size/\x+(n3+m3)<=n2+m2)
    (Q:=λc st'=>Same st st'/\((∃out,c.1=some out/\Good (Le f) a.toList b.toList out.toList)\/∃out n3 m3 mg ac bc,c=(none,n3+1,m3+1,out,mg,ac,bc)/\Up (Le f) a.toList b.toList out.toList.reverse (n3+1) (m3+1)/\1<=m3/\n3<a.size/\m3<b.size/\n3+m3<=n2+m2)) ?step2 ?fin2 ⟨hs2,out2,n2,m2,_,ac,bc,rfl,u2,g1,g2,g3,by lia⟩) ?post2)
   case fin2=>
    rintro c st' ⟨_,out,n3,m3,mg,ac,bc,rfl,_,h1,h2,h3,h4⟩;exfalso
    lia
   case post2=>
    rintro c st3 ⟨hs3,hc⟩;rcases hc with ⟨out3,e,g⟩ | ⟨out3,n3,m3,mg3,ac3,bc3,rfl,u3,q1,q2,q3,q4⟩
    ·obtain⟨c1,c2⟩:=c;simp only at e;subst e;exact wpS_pure ⟨hs3,_,rfl,g⟩
    dsimp only;refine wpS_bind (zhb hs3 λst4 hs4=>?_);exact wpS_pure ⟨hs4,_,_,_,_,rfl,u3,by lia,by lia,by lia,by lia,by lia⟩
   case step2=>
    rintro y c st3 _ hy ⟨hs3,out3,n3,m3,mg3,ac3,bc3,rfl,u3,q1,q2,q3,q4⟩;show wpS _ _ _ _ (ite _ _ _) _ _;dsimp -zeta only;generalize mg3-1=mu;revert mu;refine ztd λmgX=>?_;refine wpS_bind (zhb hs3 λst4 hs4=>?_);have hk4:kindOf st4=k:=by rw[hs4.kind];exact hst
    have nA:0+(n3+1)<=a.size:=by lia
    refine wpS_bind (zaA (gb q3) (wpS_bind ?_));refine zgq C (l:=false) (key:=b[m3]) (a:=a) (b:=0) (n:=n3+1) (h:=n3+1-1) (by lia) nA hPa (Pb q3) hk4 (zfb T nA hPa (Pb q3) sa) λi1 cut=>?_;have c1:=cut.le;have c2:∀(j:Nat) (h:j<a.size),i1<=j->j<n3+1->f b[m3] a[j]=true:=λj h h1 h2=>by
     have:=cut.above j h1 h2;rw[zbS (by lia)]at this;simpa using this
    have c3:∀(j:Nat) (h:j<a.size),j<i1->f b[m3] a[j]=false:=λj h h1=>by
     have:=cut.below j h1;rw[zbS (by lia)]at this;simpa using this
    have u4:=u3.runA c1 λz hz x hx=>by
     obtain⟨j,hj,h1,h2,rfl⟩:=mem_mid hx;exact zhe T hPb sb q3 (Pa hj) (T.asym _ _ (Pb q3) (Pa hj) (c2 j hj h1 h2)) z hz
    clear cut c2;show wpS _ _ _ _ (ite _ _ _) _ _;dsimp -zeta only;generalize hn4:n3+1=n4 at u4 c1 q4 nA ⊢;generalize hac:n4-i1=ac4;have q5:y+(n4-1+m3)<=n2+m2:=by lia
    have q6:0<n4:=by lia
    have HH:=And.intro u4 (And.intro c1 (And.intro c3 (And.intro q5 (And.intro q6 (And.intro nA hac)))));clear u4 c1 c3 q5 q6 nA u3 q2 q4 hn4 hac;revert HH;revert n4;revert out3;refine zkj (γ:=Array Keyed) (δ:=Nat) (λo n=>Up (Le f) a.toList b.toList o.toList.reverse n (m3+1)/\0<n/\n<=a.size/\(∀(h:n-1<a.size),f b[m3] a[n-1]=false)/\y+(n-1+m3)<=n2+m2) ?_ (λout3 n4 ⟨u4,c1,c3,q5,q6,nA,hac⟩ hk0 key=>?_) λout3 n4 ⟨u4,c1,c3,q5,q6,nA,hac⟩ hk0=>?_
    rotate_left
    ·have er:(a.toList.take n4).drop i1++out3.toList.reverse=(out3++(a.extract i1 n4).reverse).toList.reverse:=by
      rw[Xp,Yq,List.reverse_append,List.reverse_reverse,zni]
     rw[er]at u4;clear er;refine zaN (λe1=>?_) (λe1=>?_)
     ·refine wpS_pure ⟨hs4,.inl ⟨_,rfl,?_⟩⟩;rw[Xp,Xp,zbw,zbw,Yq];exact u4.zoK (by simpa using e1)
     have e1:¬ i1=0:=by simpa using e1
     exact key _ _ ⟨u4,by lia,by lia,λh=>c3 _ h (by lia),by lia⟩
    ·have hk0:i1=n4:=by omega
     subst hk0;have en:(a.toList.take i1).drop i1=[]:=Yv (by rw[XH];lia);rw[en,List.nil_append]at u4;exact⟨u4,q6,by lia,λh=>c3 _ h (by omega),q5⟩
    rintro outX n5 ⟨u4,p1,p2,fX',qX⟩;obtain⟨nX,rfl⟩:∃nX,n5=nX+1:=⟨n5-1,by lia⟩;have gX:nX<a.size:=by lia
    have fX:f b[m3] a[nX]=false:=fX' gX;have qX:y+(nX+m3)<=n2+m2:=qX;clear fX' p1 p2;have u5:=stB u4 gX q3 fX;have er:b[m3]::outX.toList.reverse=(outX.push b[m3]).toList.reverse:=by simp
    rw[er]at u5;clear er;refine wpS_bind (zaA (gb q3) ?_);simp only[Nat.add_sub_cancel];generalize outX.push b[m3]=outY at u5;refine zaN (λe3=>?_) (λe3=>?_)
    ·refine wpS_pure ⟨hs4,.inl ⟨_,rfl,?_⟩⟩;rw[Xp,Xp,zbw,zbw,Yq];exact fst u5 (by simpa using e3)
    have e3:¬ m3=1:=by simpa using e3
    have nB:0+m3<=b.size:=by lia
    refine wpS_bind (zaA (ga gX) (wpS_bind ?_));refine zgq C (l:=true) (key:=a[nX]) (a:=b) (b:=0) (n:=m3) (h:=m3-1) (by omega) nB hPb (Pa gX) hk4 (zfb T nB hPb (Pa gX) sb) λi2 cut2=>?_;have d1:=cut2.le;have d2:∀(j:Nat) (h:j<b.size),i2<=j->j<m3->f b[j] a[nX]=false:=λj h h1 h2=>by
     have:=cut2.above j h1 h2;rw[zbS (by lia)]at this;simpa using this
    have d3:∀(j:Nat) (h:j<b.size),j<i2->f b[j] a[nX]=true:=λj h h1=>by
     have:=cut2.below j h1;rw[zbS (by lia)]at this;simpa using this
    have u6:=u5.runB d1 λz hz x hx=>by
     obtain⟨j,hj,h1,h2,rfl⟩:=mem_mid hx;exact zhe T hPa sa gX (Pb hj) (d2 j hj h1 h2) z hz
    clear cut2 d2 u5 u4;show wpS _ _ _ _ (ite _ _ _) _ _;have q7:y+1+(nX+(m3-1))<=n2+m2:=by lia
    have q8:2<=m3:=by lia
    clear fX e3 qX;generalize m3=m4 at u6 d1 q7 q8 nB ⊢;generalize hbc:m4-i2=bc4;have HH:=And.intro u6 (And.intro d1 (And.intro q7 (And.intro q8 (And.intro nB hbc))));clear u6 d1 q7 q8 nB hbc;revert HH;revert m4;revert outY;refine zkj (γ:=Array Keyed) (δ:=Nat) (λo m=>Up (Le f) a.toList b.toList o.toList.reverse (nX+1) m/\2<=m/\m<=b.size/\(∀(h:m-1<b.size),f b[m-1] a[nX]=true)/\y+1+(nX+(m-1))<=n2+m2) ?_ (λoutY m4 ⟨u6,d1,q7,q8,nB,hbc⟩ hk2 key=>?_) λoutY m4 ⟨u6,d1,q7,q8,nB,hbc⟩ hk2=>?_
    rotate_left
    ·have er:(b.toList.take m4).drop i2++outY.toList.reverse=(outY++(b.extract i2 m4).reverse).toList.reverse:=by
      rw[Xp,Yq,List.reverse_append,List.reverse_reverse,zni]
     rw[er]at u6;clear er;refine zaN (λe4=>?_) (λe4=>?_)
     ·refine wpS_pure ⟨hs4,.inl ⟨_,rfl,?_⟩⟩;rw[Xp,Xp,zbw,zbw,Yq];exact fst u6 (by simpa using e4)
     have e4:¬ i2=1:=by simpa using e4
     refine zaN (λe5=>?_) (λe5=>?_)
     ·refine wpS_pure ⟨hs4,.inl ⟨_,rfl,?_⟩⟩;rw[Xp,Xp,zbw,zbw,Yq];exact u6.zuf (by simpa using e5)
     have e5:¬ i2=0:=by simpa using e5
     exact key _ _ ⟨u6,by lia,by lia,λh=>d3 _ h (by lia),by lia⟩
    ·have hk2:i2=m4:=by omega
     subst hk2;have en:(b.toList.take i2).drop i2=[]:=Yv (by rw[XH];lia);rw[en,List.nil_append]at u6;exact⟨u6,q8,by lia,λh=>d3 _ h (by omega),q7⟩
    rintro outZ m5 ⟨u6,p1,p2,fZ',qZ⟩;obtain⟨mZ,rfl⟩:∃mZ,m5=mZ+1:=⟨m5-1,by lia⟩;have gZ:mZ<b.size:=by lia
    have fZ:f b[mZ] a[nX]=true:=fZ' gZ;have g1Z:1<=mZ:=by lia
    have qZ:y+1+(nX+mZ)<=n2+m2:=qZ;have u7:=stA u6 gX gZ fZ;have er:a[nX]::outZ.toList.reverse=(outZ.push a[nX]).toList.reverse:=by simp
    rw[er]at u7;clear er;refine wpS_bind (zaA (ga gX) ?_);refine zaN (λe6=>?_) (λe6=>?_)
    ·refine wpS_pure ⟨hs4,.inl ⟨_,rfl,?_⟩⟩;rw[Xp,Xp,zbw,zbw,Yq];exact u7.zoK (by simpa using e6)
    have e6:¬ nX=0:=by simpa using e6
    obtain⟨nW,rfl⟩:∃nW,nX=nW+1:=⟨nX-1,by lia⟩;split
    ·exact wpS_pure ⟨hs4,.inr ⟨_,_,_,_,_,_,rfl,u7,g1Z,by lia,gZ,by lia⟩⟩
    ·exact wpS_pure ⟨hs4,_,_,_,_,_,_,rfl,u7,g1Z,by lia,gZ,by lia⟩
end
noncomputable def mAt:Nat->StateT SortSt Sem Bool:=sortPriv% PySem.Builtin.mergeAt
theorem zkk {α:Type}:∀(m:List α)(a:Array α)(s n:Nat),s+n+m.length<=a.size->((m.zipIdx n).foldl (λa (p:α×Nat)=>a.setIfInBounds (s+p.2) p.1) a).toList=a.toList.take (s+n)++m++a.toList.drop (s+n+m.length)
 | [],a,s,n,h=>by simp
 | x::m,a,s,n,h=>by
  rw[List.zipIdx_cons,YK,zkk m _ s (n+1) (by simp at h ⊢;lia)];simp only[Array.toList_setIfInBounds,Ya]at h ⊢;have hs:s+n<a.toList.length:=by simp;lia
  rw[List.take_set,List.drop_set_of_lt (by lia)];have e1:(a.toList.take (s+(n+1))).set (s+n) x=a.toList.take (s+n)++[x]:=by
   rw[show s+(n+1)=s+n+1 by lia,XD,Xa hs];rw[List.set_append_right _ _ (by rw[XH];lia)];rw[XH,Nat.min_eq_left (Nat.le_of_lt hs),Nat.sub_self];rfl
  rw[e1,show s+(n+1)+m.length=s+n+(m.length+1) by lia];simp
theorem joined {f:Keyed->Keyed->Bool}{P:Keyed->Prop}(T:Tot f P){A0 A1 B0 B1 m:List Keyed}(hP:∀x∈A0++A1++(B0++B1),P x)(sa:(A0++A1).Pairwise (Le f))(sb:(B0++B1).Pairwise (Le f))(g:Good (Le f) A1 B0 m)
  (h1:∀x∈A0,∀y∈B0++B1,Le f x y) (h2:∀x∈A1,∀y∈B1,Le f x y):(A0++m++B1).Pairwise (Le f)/\(A0++m++B1).Perm (A0++A1++(B0++B1)):=by
 have a:=XM.mp sa;have b:=XM.mp sb;refine⟨?_,?_⟩
 ·rw[XE,XM,XM];refine⟨a.1,⟨g.so,b.2.1,λx hx y hy=>?_⟩,λx hx y hy=>?_⟩
  ·rcases Xr.mp (g.pm.mem_iff.mp hx)with h | h
   ·exact h2 x h y hy
   ·exact b.2.2 x h y hy
  ·rcases Xr.mp hy with hy | hy
   ·rcases Xr.mp (g.pm.mem_iff.mp hy)with h | h
    ·exact a.2.2 x hx y h
    ·exact h1 x hx y (Xr.mpr (.inl h))
   ·exact h1 x hx y (Xr.mpr (.inr hy))
 ·rw[XE,XE];refine YC.append_left _ ?_;rw[<- XE];exact YC.append_right _ g.pm
section
variable {prog:Program}{w:World}{A:Around}{E:Value->Shared->Prop}{s:Shared}{k:SortKind}{P:Keyed->Prop}{f:Keyed->Keyed->Bool}
theorem zti {x:SortSt}{Q:PUnit->SortSt->Prop}{st:SortSt}(h:Q ⟨⟩ x):wpS (model prog w) A E s (set x:StateT SortSt Sem PUnit) Q st:=by
 unfold wpS;rw[StateT.run_set];exact wpAny_pure ⟨rfl,h⟩
noncomputable def Run (f:Keyed->Keyed->Bool)(a:Array Keyed)(lo hi:Nat):Prop:=∀(i j:Nat)(hj:j<a.size)(hij:i<j),lo<=i->j<hi->Le f (a[i]'(by lia)) a[j]
theorem zkl (T:Tot f P){l:Bool}{key:Keyed}{a:Array Keyed}{b n:Nat}(hn:b+n<=a.size)(hP:∀(j:Nat) x,a[j]? = some x->P x)(hk:P key)(hs:Run f a b (b+n)):∀i j,i<=j->j<n->beyB f l key a b j=true->beyB f l key a b i=true:=by
 intro i j hij hj h;rcases Nat.lt_or_eq_of_le hij with hlt | rfl
 ·have hi':b+i<a.size:=by lia
  have hj':b+j<a.size:=by lia
  have pi:P a[b+i]:=hP _ _ (getElem?_pos a _ hi');have pj:P a[b+j]:=hP _ _ (getElem?_pos a _ hj');have hle:Le f a[b+i] a[b+j]:=hs _ _ hj' (by lia) (by lia) (by lia);rw[zbS hj']at h;rw[zbS hi'];cases l with
  | true=>
   simp only[if_true]at h ⊢;cases hc:f a[b+i] key with
   | true=>rfl
   | false=>rw[T.tr key a[b+i] a[b+j] hk pi pj hc hle]at h;cases h
  | false=>
   simp only[Xz,if_false]at h ⊢;have h:f key a[b+j]=false:=by simpa using h
   rw[T.tr a[b+i] a[b+j] key pi pj hk hle h];rfl
 ·exact h
theorem znj {a:Array Keyed}{lo n:Nat}(hs:Run f a lo (lo+n))(hn:lo+n<=a.size):((a.toList.drop lo).take n).Pairwise (Le f):=by
 rw[List.pairwise_iff_getElem];intro i j hi hj hij;rw[XH,List.length_drop,Xv]at hi hj;have:=hs (lo+i) (lo+j) (by lia) (by lia) (by lia) (by lia);simpa using this
theorem zcX (T:Tot f P){x:Keyed}(hx:P x):Le f x x:=by
 cases h:f x x with
 | false=>exact h
 | true=>have:=T.asym x x hx hx h;rw[h]at this;cases this
theorem ztj (C:Cmp prog w A E s k P f)(T:Tot f P){i sa na pw nb pw2:Nat}{Q:Bool->SortSt->Prop}{st:SortSt}(hst:kindOf st=k)(hfl:failedOf st=none)(h1:(pendingOf st)[i]? = some (sa,na,pw))(h2:(pendingOf st)[i+1]? = some (sa+na,nb,pw2))(hna:0<na)(hnb:0<nb)
  (hsz:sa+na+nb<=(arrOf st).size) (hP:∀(j:Nat) x,(arrOf st)[j]? = some x->P x) (r1:Run f (arrOf st) sa (sa+na)) (r2:Run f (arrOf st) (sa+na) (sa+na+nb))
  (hQ:∀st' S,kindOf st'=k->failedOf st'=none->pendingOf st'=((pendingOf st).setIfInBounds i (sa,na+nb,pw)).eraseIdxIfInBounds (i+1)->S.Pairwise (Le f)->S.Perm (((arrOf st).toList.drop sa).take (na+nb))->
   (arrOf st').toList=(arrOf st).toList.take sa++S++(arrOf st).toList.drop (sa+na+nb)->Q true st'):wpS (model prog w) A E s (mAt i) Q st:=by
 refine wpS_bind (wpS_get ?_);rw[h1,h2];refine wpS_bind (zti ?_);dsimp only[arrOf]at hsz hP r1 r2 hQ;generalize harr:(sortPriv% PySem.Builtin.SortState.a) st=a at *;have hl:a.toList.length=a.size:=Xv;have ga:∀ {i:Nat},(hi:i<a.size)->a[i]? = some a[i]:=λ{i} hi=>getElem?_pos a i hi;have Pa:∀ {i:Nat},(hi:i<a.size)->P a[i]:=λ{i} hi=>hP i _ (ga hi);have pl:=zfD hP;have hb0:sa+na<a.size:=by lia
 refine wpS_bind (zaA (ga hb0) (wpS_bind ?_));refine zgq C (l:=false) (key:=a[sa+na]) (a:=a) (b:=sa) (n:=na) (h:=0) (by omega) (by lia) hP (Pa hb0) hst (zkl T (by lia) hP (Pa hb0) r1) λk1 cut=>?_;have c1:=cut.le;have c2:∀(j:Nat) (h:sa+j<a.size),j<k1->Le f a[sa+j] a[sa+na]:=λj h hj=>by
  have:=cut.below j hj;rw[zbS h]at this;simpa using this
 have c3:k1<na->f a[sa+na] (a[sa+k1]'(by lia))=true:=λhj=>by
  have:=cut.above k1 (Xf _) hj;rw[zbS (by lia)]at this;simpa using this
 have eA:(a.toList.drop sa).take na=(a.toList.drop sa).take k1++(a.toList.drop (sa+k1)).take (na-k1):=by
  have:=List.take_add (l:=a.toList.drop sa) (i:=k1) (j:=na-k1);rw[List.drop_drop]at this;rw[<- this];congr 1;lia
 have eS:(a.toList.drop sa).take (na+nb)=(a.toList.drop sa).take na++(a.toList.drop (sa+na)).take nb:=by
  rw[List.take_add,List.drop_drop]
 have eT:a.toList.take (sa+k1)=a.toList.take sa++(a.toList.drop sa).take k1:=List.take_add;have pA:=znj r1 (by lia);have pB:=znj r2 (by omega);have leB:∀x,P x->Le f x a[sa+na]->∀y∈(a.toList.drop (sa+na)).take nb,Le f x y:=λx px hx y hy=>by
  obtain⟨j,hj,hjn,rfl⟩:=zdE (by omega) hy;rcases Nat.eq_zero_or_pos j with rfl | h0
  ·exact hx
  ·exact T.tr _ _ _ px (Pa hb0) (Pa hj) hx (r2 _ _ hj (by lia) (by lia) (by lia))
 have hA0:∀x∈(a.toList.drop sa).take k1,∀y∈(a.toList.drop (sa+na)).take nb,Le f x y:=λx hx=>by
  obtain⟨j,hj,hjk,rfl⟩:=zdE (by lia) hx;exact leB _ (Pa hj) (c2 j hj hjk)
 dsimp only;refine zaN (λe1=>?_) (λe1=>?_)
 ·have e1:na-k1=0:=by simpa using e1
  have ek:k1=na:=by lia
  subst ek;refine wpS_pure (hQ _ ((a.toList.drop sa).take (k1+nb)) hst hfl rfl ?_ (.refl _) ?_)
  ·rw[eS,XM];exact⟨pA,pB,hA0⟩
  ·show a.toList=_;rw[Nat.add_assoc,<- List.drop_drop,XE,Yb,Yb]
 have e1:¬ na-k1=0:=by simpa using e1
 have elast:sa+k1+(na-k1)-1=sa+na-1:=by rw[Nat.add_assoc,Nat.add_sub_cancel' (show k1<=na by omega)]
 rw[elast];have hla:sa+na-1<a.size:=by omega
 refine wpS_bind (zaA (ga hla) (wpS_bind ?_));refine zgq C (l:=true) (key:=a[sa+na-1]) (a:=a) (b:=sa+na) (n:=nb) (h:=nb-1) (by lia) (by omega) hP (Pa hla) hst (zkl T (by omega) hP (Pa hla) r2) λk2 cut2=>?_;have d1:=cut2.le;have d2:∀(j:Nat) (h:sa+na+j<a.size),j<k2->f a[sa+na+j] a[sa+na-1]=true:=λj h hj=>by
  have:=cut2.below j hj;rw[zbS h]at this;simpa using this
 have d3:∀(j:Nat) (h:sa+na+j<a.size),k2<=j->j<nb->Le f a[sa+na-1] a[sa+na+j]:=λj h h1 h2=>by
  have:=cut2.above j h1 h2;rw[zbS h]at this;simpa using this
 have leL:∀x∈(a.toList.drop sa).take na,Le f x a[sa+na-1]:=λx hx=>by
  obtain⟨j,hj,hjn,rfl⟩:=zdE (by lia) hx;by_cases e:j=na-1
  ·have:sa+j=sa+na-1:=by lia
   simp only[this];exact zcX T (Pa hla)
  ·exact r1 _ _ hla (by omega) (by lia) (by omega)
 have eB:(a.toList.drop (sa+na)).take nb=(a.toList.drop (sa+na)).take k2++(a.toList.drop (sa+na+k2)).take (nb-k2):=by
  have:=List.take_add (l:=a.toList.drop (sa+na)) (i:=k2) (j:=nb-k2);rw[List.drop_drop]at this;rw[<- this];congr 1;lia
 have hB1:∀x∈(a.toList.drop sa).take na,∀y∈(a.toList.drop (sa+na+k2)).take (nb-k2),Le f x y:=λx hx y hy=>by
  obtain⟨j,hj,hjn,rfl⟩:=zdE (by lia) hy;have px:P x:=pl x (List.mem_of_mem_drop (List.mem_of_mem_take hx));have q:=d3 (k2+j) (by lia) (by lia) (by lia);simp only[<- Nat.add_assoc]at q;exact T.tr _ _ _ px (Pa hla) (Pa hj) (leL x hx) q
 dsimp only;refine zaN (λe2=>?_) (λe2=>?_)
 ·have e2:k2=0:=by simpa using e2
  subst e2;refine wpS_pure (hQ _ ((a.toList.drop sa).take (na+nb)) hst hfl rfl ?_ (.refl _) ?_)
  ·rw[eS,XM];exact⟨pA,pB,hB1⟩
  ·show a.toList=_;rw[Nat.add_assoc,<- List.drop_drop,XE,Yb,Yb]
 have e2:¬ k2=0:=by simpa using e2
 have hX:(a.extract (sa+k1) (sa+na)).toList=(a.toList.drop (sa+k1)).take (na-k1):=by
  have:=zjm a (sa+k1) (na-k1)
  rwa [show sa+k1+(na-k1)=sa+na by omega]at this
 have hY:(a.extract (sa+na) (sa+na+k2)).toList=(a.toList.drop (sa+na)).take k2:=zjm a (sa+na) k2;have sX:(a.extract (sa+k1) (sa+na)).size=na-k1:=by rw[Array.size_extract,Nat.min_eq_left (show sa+na<=a.size by lia),Nat.add_sub_add_left]
 have sY:(a.extract (sa+na) (sa+na+k2)).size=k2:=by rw[Array.size_extract,Nat.min_eq_left (show sa+na+k2<=a.size by lia),Nat.add_sub_cancel_left]
 have PX:∀(j:Nat) x,(a.extract (sa+k1) (sa+na))[j]? = some x->P x:=λj x h=>by
  rw[<- Xu,hX]at h;exact pl x (List.mem_of_mem_drop (List.mem_of_mem_take (Xn h)))
 have PY:∀(j:Nat) x,(a.extract (sa+na) (sa+na+k2))[j]? = some x->P x:=λj x h=>by
  rw[<- Xu,hY]at h;exact pl x (List.mem_of_mem_drop (List.mem_of_mem_take (Xn h)))
 have pA':=pA;rw[eA]at pA';have pB':=pB;rw[eB]at pB';have soX:(a.extract (sa+k1) (sa+na)).toList.Pairwise (Le f):=by rw[hX];exact(XM.mp pA').2.1
 have soY:(a.extract (sa+na) (sa+na+k2)).toList.Pairwise (Le f):=by rw[hY];exact(XM.mp pB').1
 have f0:f ((a.extract (sa+na) (sa+na+k2))[0]'(by lia)) ((a.extract (sa+k1) (sa+na))[0]'(by lia))=true:=by
  have:=c3 (by lia);simpa using this
 have fl:∀y∈(a.extract (sa+na) (sa+na+k2)).toList,Le f y ((a.extract (sa+k1) (sa+na))[(a.extract (sa+k1) (sa+na)).size-1]'(by lia)):=λy hy=>by
  rw[hY]at hy;obtain⟨j,hj,hjn,rfl⟩:=zdE (by lia) hy;have e:sa+k1+((a.extract (sa+k1) (sa+na)).size-1)=sa+na-1:=by rw[sX];lia
  rw[Array.getElem_extract];simp only[e];exact T.asym _ _ (Pa hj) (Pa hla) (d2 j hj hjn)
 by_cases e3:na-k1<=k2;rw[if_pos e3];refine wpS_bind (ztf C T hst (by lia) (by lia) PX PY soX soY f0 fl λm st2 g sm=>?_)
 rotate_left
 rw[if_neg e3];refine wpS_bind (zth C T hst (by lia) (by lia) PX PY soX soY f0 fl λm st2 g sm=>?_)
 all_goals
  rw[hX,hY]at g;have lm:m.toList.length=(na-k1)+k2:=by
   rw[g.pm.length_eq,XB,<- hX,<- hY,Xv,Xv,sX,sY]
  obtain⟨j1,j2⟩:=joined T (A0:=(a.toList.drop sa).take k1) (B1:=(a.toList.drop (sa+na+k2)).take (nb-k2)) (P:=P) (λx hx=>by
   rcases Xr.mp hx with hx | hx<;>rcases Xr.mp hx with hx | hx<;>exact pl x (List.mem_of_mem_drop (List.mem_of_mem_take hx))) pA' pB' g
   (λx hx y hy=>hA0 x hx y (by rw[eB];exact hy)) (λx hx y hy=>hB1 x (by rw[eA];exact Xr.mpr (.inr hx)) y hy)
  have e4:failedOf st2=none:=by rw[sm.failed];exact hfl
  have e5:arrOf st2=a:=sm.arr;refine wpS_bind (wpS_modify (wpS_bind (wpS_get (wpS_pure ?_))));have e6:(failedOf st2).isNone=true:=by rw[e4];rfl
  show Q (failedOf st2).isNone _;rw[e6];refine hQ _ _ (by show kindOf st2=k;rw[sm.kind];exact hst) e4 (by show pendingOf st2=_;exact sm.pend) j1 (j2.trans (by rw[eS,eA,eB])) ?_;show(m.toList.zipIdx.foldl (λa (p:Keyed×Nat)=>a.setIfInBounds (sa+k1+p.2) p.1) (arrOf st2)).toList=_;rw[e5];have:=zkk m.toList a (sa+k1) 0 (by rw[lm];omega);rw[this,Nat.add_zero,lm,eT];have e7:a.toList.drop (sa+k1+(na-k1+k2))=(a.toList.drop (sa+na+k2)).take (nb-k2)++a.toList.drop (sa+na+nb):=by
   have:=(Yb (nb-k2) (a.toList.drop (sa+na+k2))).symm;rw[List.drop_drop,show sa+na+k2+(nb-k2)=sa+na+nb by lia]at this;rw[show sa+k1+(na-k1+k2)=sa+na+k2 by omega];exact this
  rw[e7];simp only[XE]
end
noncomputable def bin:Nat->Nat->Nat->StateT SortSt Sem Bool:=sortPriv% PySem.Builtin.binarySort
noncomputable def cnt:Nat->Nat->StateT SortSt Sem (Option Nat):=sortPriv% PySem.Builtin.countRun
section
variable {prog:Program}{w:World}{A:Around}{E:Value->Shared->Prop}{s:Shared}{k:SortKind}{P:Keyed->Prop}{f:Keyed->Keyed->Bool}
structure Moved (a a':Array Keyed)(lo hi:Nat):Prop where
 pm:a'.Perm a
 out:∀j:Nat,j<lo\/hi<=j->a'[j]? = a[j]?
theorem Moved.refl (a:Array Keyed)(lo hi:Nat):Moved a a lo hi:=⟨.refl _,λ_ _=>rfl⟩
theorem Moved.trans {a b c:Array Keyed}{lo hi:Nat}(h:Moved a b lo hi)(g:Moved b c lo hi):Moved a c lo hi:=⟨g.pm.trans h.pm,λj hj=>(g.out j hj).trans (h.out j hj)⟩
theorem Moved.size {a a':Array Keyed}{lo hi:Nat}(h:Moved a a' lo hi):a'.size=a.size:=h.pm.size_eq
theorem Moved.all {a a':Array Keyed}{lo hi:Nat}(h:Moved a a' lo hi)(hP:∀(j:Nat) x,a[j]? = some x->P x):∀(j:Nat) x,a'[j]? = some x->P x:=λj x e=>by
 have h1:x∈a'.toList:=Xn (by rw[Xu];exact e);exact zfD hP x ((Array.perm_iff_toList_perm.mp h.pm).mem_iff.mp h1)
theorem zex (C:Cmp prog w A E s k P f){st:SortSt}{a:Array Keyed}{i j:Nat}{Q:Option Bool->SortSt->Prop}(hst:kindOf st=k)(ha:arrOf st=a)(hP:∀(j:Nat) x,a[j]? = some x->P x)(hi:i<a.size)(hj:j<a.size)
  (h:Q (some (f a[i] a[j])) st):wpS (model prog w) A E s (ltAt' i j) Q st:=by
 subst ha;have gi:=getElem?_pos (arrOf st) i hi;have gj:=getElem?_pos (arrOf st) j hj;rw[ltAt'_eq];refine wpS_bind (wpS_get ?_);exact wpS_bind (zaA gi (wpS_bind (zaA gj (C.run (hP _ _ gi) (hP _ _ gj) hst h))))
theorem ztk (C:Cmp prog w A E s k P f)(T:Tot f P){lo n ok:Nat}{Q:Bool->SortSt->Prop}{st:SortSt}(hst:kindOf st=k)(hn:lo+n<=(arrOf st).size)(hok:ok<=n)(hP:∀(j:Nat) x,(arrOf st)[j]? = some x->P x)(hr:Run f (arrOf st) lo (lo+ok))
  (hQ:∀a',Moved (arrOf st) a' lo (lo+n)->Run f a' lo (lo+n)->Q true (setArr st a')):wpS (model prog w) A E s (bin lo n ok) Q st:=by
 refine wpS_bind (wpS_mono (wpS_forRange (I:=λx c st'=>c=(none,())/\∃a',st'=setArr st a'/\Moved (arrOf st) a' lo (lo+n)/\Run f a' lo (lo+min x n))
  (Q:=λc st'=>c=(none,())/\∃a',st'=setArr st a'/\Moved (arrOf st) a' lo (lo+n)/\Run f a' lo (lo+n)) ?step ?fin ⟨rfl,arrOf st,rfl,.refl _ _ _,?ini⟩) ?post)
 case ini=>
  intro i j hj hij h1 h2;by_cases h0:ok=0
  ·lia
  ·exact hr i j hj hij h1 (by lia)
 case fin=>
  rintro c st' ⟨hc,a',e,m,r⟩;exact⟨hc,a',e,m,by rwa [show min (max (max ok 1) n) n=n by lia]at r⟩
 case post=>
  rintro c st' ⟨rfl,a',rfl,m,r⟩;exact wpS_pure (hQ a' m r)
 case step=>
  rintro x c st' hx1 hx2 ⟨rfl,a',rfl,m,r⟩;rw[show min x n=x by lia]at r;have hs:=m.size;have hx:lo+x<a'.size:=by lia
  have hP':=m.all hP;have Pa:∀ {i:Nat},(hi:i<a'.size)->P a'[i]:=λ{i} hi=>hP' i _ (getElem?_pos a' i hi);refine wpS_bind (wpS_mono (wpS_forRange (I:=λy c st2=>st2=setArr st a'/\∃l r,c=(none,l,r)/\l<=r/\r<=x/\r-l<=x-y/\(∀(i:Nat) (h:lo+i<a'.size),i<l->Le f a'[lo+i] a'[lo+x])/\(∀(i:Nat) (h:lo+i<a'.size),r<=i->i<x->f a'[lo+x] a'[lo+i]=true))
   (Q:=λc st2=>st2=setArr st a'/\∃l r,c=(none,l,r)/\l<=x/\(∀(i:Nat) (h:lo+i<a'.size),i<l->Le f a'[lo+i] a'[lo+x])/\(∀(i:Nat) (h:lo+i<a'.size),l<=i->i<x->f a'[lo+x] a'[lo+i]=true)) ?istep ?ifin ⟨rfl,0,x,rfl,by lia,by lia,by lia,λi _ h=>by lia,λi _ h1 h2=>by lia⟩) ?ipost)
  case ifin=>
   rintro c st2 ⟨rfl,l,r,rfl,g1,g2,g3,g4,g5⟩;have:l=r:=by lia
   subst this;exact⟨rfl,l,l,rfl,g2,g4,g5⟩
  case istep=>
   rintro y c st2 _ hy ⟨rfl,l,r2,rfl,g1,g2,g3,g4,g5⟩;dsimp only;refine zaN (λhge=>?_) (λhge=>?_)
   ·have:l=r2:=by lia
    subst this;exact wpS_pure ⟨rfl,l,l,rfl,g2,g4,g5⟩
   ·obtain⟨m1,m2⟩:=zqX hge;generalize (l+r2) / 2=md at m1 m2 ⊢;have hmid:lo+md<a'.size:=by lia
    refine wpS_bind (zex C (st:=setArr st a') (a:=a') hst rfl hP' hx hmid ?_);cases hv:f a'[lo+x] a'[lo+md]with
    | true=>
     dsimp only;rw[if_pos rfl];refine wpS_pure ⟨rfl,l,_,rfl,by omega,by lia,by omega,g4,λi h h1 h2=>?_⟩;rcases Nat.lt_or_eq_of_le h1 with h3 | h3
     ·cases hw:f a'[lo+x] a'[lo+i]with
      | true=>rfl
      | false=>
       have:=T.tr _ _ _ (Pa hmid) (Pa h) (Pa hx) (r _ _ h (by lia) (by lia) (by lia)) hw;rw[hv]at this;cases this
     ·simp only[<- h3];exact hv
    | false=>
     dsimp only;rw[if_neg (by decide)];refine wpS_pure ⟨rfl,_,r2,rfl,by lia,by omega,by lia,λi h h1=>?_,g5⟩;rcases Nat.lt_or_eq_of_le (Nat.le_of_lt_succ h1)with h3 | h3
     ·exact T.tr _ _ _ (Pa h) (Pa hmid) (Pa hx) (r _ _ hmid (by lia) (by lia) (by lia)) hv
     ·simp only[h3];exact hv
  case ipost=>
   rintro c st2 ⟨rfl,l,r2,rfl,g1,g4,g5⟩;dsimp only;have hd:lo+x-(lo+l)=x-l:=by lia
   have gt:∀(i:Nat) (h:i<(bubble a' (lo+x) (lo+x-(lo+l))).size),∃i',∃h':i'<a'.size,(bubble a' (lo+x) (lo+x-(lo+l)))[i]=a'[i']/\((i=lo+l/\i'=lo+x)\/(lo+l<i/\i<=lo+x/\i'=i-1)\/((i<lo+l\/lo+x<i)/\i'=i)):=λi h=>by
    have e:=getElem?_bubble hx (lo+x-(lo+l)) (by lia) i;rw[bubble_size]at h;rw[getElem?_pos _ i (by rw[bubble_size];exact h),show lo+x-(lo+x-(lo+l))=lo+l by omega]at e;by_cases h1:i=lo+l
    ·rw[if_pos h1,getElem?_pos a' _ hx]at e;exact⟨lo+x,hx,Option.some.inj e,.inl ⟨h1,rfl⟩⟩
    ·rw[if_neg h1]at e;by_cases h2:lo+l<i/\i<=lo+x
     ·rw[if_pos h2,getElem?_pos a' (i-1) (by omega)]at e;exact⟨i-1,by omega,Option.some.inj e,.inr (.inl ⟨h2.1,h2.2,rfl⟩)⟩
     ·rw[if_neg h2,getElem?_pos a' i h]at e;exact⟨i,h,Option.some.inj e,.inr (.inr ⟨by lia,rfl⟩)⟩
   refine wpS_bind (wpS_modify (wpS_pure ⟨rfl,bubble a' (lo+x) (lo+x-(lo+l)),rfl,m.trans ⟨bubble_perm _ _ _,λj hj=>?_⟩,?_⟩))
   ·rw[getElem?_bubble hx _ (by lia),if_neg (by omega),if_neg (by omega)]
   ·rw[show min (x+1) n=x+1 by lia];intro i j hj hij h1 h2;obtain⟨i',hi',ei,ci⟩:=gt i (by lia);obtain⟨j',hj',ej,cj⟩:=gt j hj;rw[ei,ej];rcases ci with ⟨c1,rfl⟩ | ⟨c1,c2,rfl⟩ | ⟨c1,rfl⟩<;>rcases cj with ⟨d1,rfl⟩ | ⟨d1,d2,rfl⟩ | ⟨d1,rfl⟩
    ·lia
    ·have q:=g5 (j-1-lo) (by lia) (by lia) (by lia);simp only[show lo+(j-1-lo)=j-1 by lia]at q;exact T.asym _ _ (Pa hx) (Pa hj') q
    ·lia
    ·lia
    ·exact r _ _ hj' (by omega) (by lia) (by omega)
    ·lia
    ·have q:=g4 (i'-lo) (by lia) (by lia);simp only[show lo+(i'-lo)=i' by lia]at q;exact q
    ·exact r _ _ hj' (by lia) (by omega) (by omega)
    ·exact r _ _ hj' (by omega) (by omega) (by lia)
end
section
variable {prog:Program}{w:World}{A:Around}{E:Value->Shared->Prop}{s:Shared}{k:SortKind}{P:Keyed->Prop}{f:Keyed->Keyed->Bool}
noncomputable def Dec (f:Keyed->Keyed->Bool)(a:Array Keyed)(lo hi:Nat):Prop:=∀(i j:Nat)(hj:j<a.size)(hij:i<j),lo<=i->j<hi->Le f a[j] (a[i]'(by lia))
noncomputable def Alike (f:Keyed->Keyed->Bool)(a:Array Keyed)(p q:Nat):Prop:=∀(i j:Nat)(hi:i<a.size)(hj:j<a.size),p<=i->i<q->p<=j->j<q->Le f a[i] a[j]
noncomputable abbrev rev (a:Array Keyed)(i j:Nat):Array Keyed:=mirror a i j ((j-i) / 2)
theorem zkm {a:Array Keyed}{p q:Nat}(hq:q<=a.size)(i:Nat)(h:i<(rev a p q).size):∃i',∃h':i'<a.size,(rev a p q)[i]=a[i']/\((p<=i/\i<q/\i'=p+q-1-i)\/((i<p\/q<=i)/\i'=i)):=by
 have e:=getElem?_mirror_all (i:=p) hq i;rw[getElem?_pos _ i h]at e;rw[mirror_size]at h;by_cases h1:p<=i/\i<q
 ·rw[if_pos h1,getElem?_pos a _ (show p+q-1-i<a.size by omega)]at e;exact⟨_,by omega,Option.some.inj e,.inl ⟨h1.1,h1.2,rfl⟩⟩
 ·rw[if_neg h1,getElem?_pos a i h]at e;exact⟨i,h,Option.some.inj e,.inr ⟨by lia,rfl⟩⟩
theorem zdY {a:Array Keyed}{p q lo hi:Nat}(hq:q<=a.size)(h1:lo<=p)(h2:q<=hi):Moved a (rev a p q) lo hi:=⟨mirror_perm _ _ _ _,λj hj=>by rw[getElem?_mirror_all hq,if_neg (by lia)]⟩
theorem zqY {a:Array Keyed}{p q:Nat}(hq:q<=a.size)(h:Dec f a p q):Run f (rev a p q) p q:=by
 intro i j hj hij h1 h2;obtain⟨i',hi',ei,ci⟩:=zkm (p:=p) hq i (by lia);obtain⟨j',hj',ej,cj⟩:=zkm hq j hj;rw[ei,ej];rcases ci with ⟨c1,c2,rfl⟩ | ⟨c1,rfl⟩<;>rcases cj with ⟨d1,d2,rfl⟩ | ⟨d1,rfl⟩
 ·exact h _ _ hi' (by lia) (by omega) (by lia)
 all_goals lia
theorem zjo {a:Array Keyed}{lo hi p q:Nat}(hh:hi<=a.size)(h1:lo<=p)(h2:q<=hi)(h:Dec f a lo hi)(e:Alike f a p q):Dec f (rev a p q) lo hi:=by
 intro i j hj hij g1 g2;have hqa:q<=a.size:=by lia
 obtain⟨i',hi',ei,ci⟩:=zkm (p:=p) hqa i (by lia);obtain⟨j',hj',ej,cj⟩:=zkm hqa j hj;rw[ei,ej];rcases ci with ⟨c1,c2,rfl⟩ | ⟨c1,rfl⟩<;>rcases cj with ⟨d1,d2,rfl⟩ | ⟨d1,rfl⟩
 ·exact e _ _ hj' hi' (by lia) (by omega) (by lia) (by lia)
 ·exact h _ _ hj' (by omega) (by lia) (by omega)
 ·exact h _ _ hj' (by lia) (by omega) (by omega)
 ·exact h _ _ hj' (by omega) (by omega) (by omega)
theorem Run.more (T:Tot f P){a:Array Keyed}(hP:∀(j:Nat) x,a[j]? = some x->P x){lo n:Nat}(h0:1<=n)(hn:lo+n<a.size)(h:Run f a lo (lo+n))(hf:f a[lo+n] (a[lo+n-1]'(by omega))=false):Run f a lo (lo+(n+1)):=by
 intro i j hj hij h1 h2;have Pa:∀ {i:Nat},(hi:i<a.size)->P a[i]:=λ{i} hi=>hP i _ (getElem?_pos a i hi);by_cases e:j=lo+n
 ·subst e;by_cases e2:i=lo+n-1
  ·subst e2;exact hf
  ·exact T.tr _ _ _ (Pa _) (Pa (show lo+n-1<a.size by lia)) (Pa hj) (h i (lo+n-1) (by lia) (by lia) h1 (by lia)) hf
 ·exact h i j hj hij h1 (by lia)
theorem Dec.more (T:Tot f P){a:Array Keyed}(hP:∀(j:Nat) x,a[j]? = some x->P x){lo n:Nat}(h0:1<=n)(hn:lo+n<a.size)(h:Dec f a lo (lo+n))(hf:Le f a[lo+n] (a[lo+n-1]'(by lia))):Dec f a lo (lo+(n+1)):=by
 intro i j hj hij h1 h2;have Pa:∀ {i:Nat},(hi:i<a.size)->P a[i]:=λ{i} hi=>hP i _ (getElem?_pos a i hi);by_cases e:j=lo+n
 ·subst e;by_cases e2:i=lo+n-1
  ·subst e2;exact hf
  ·exact T.tr _ _ _ (Pa hj) (Pa (show lo+n-1<a.size by lia)) (Pa _) hf (h i (lo+n-1) (by lia) (by lia) h1 (by lia))
 ·exact h i j hj hij h1 (by lia)
theorem Alike.more (T:Tot f P){a:Array Keyed}(hP:∀(j:Nat) x,a[j]? = some x->P x){p q:Nat}(hp:p<q)(hq:q<a.size)(h:Alike f a p q)(h1:Le f a[q] (a[q-1]'(by omega)))(h2:Le f (a[q-1]'(by omega)) a[q]):Alike f a p (q+1):=by
 intro i j hi hj g1 g2 g3 g4;have Pa:∀ {i:Nat},(hi:i<a.size)->P a[i]:=λ{i} hi=>hP i _ (getElem?_pos a i hi);have hq1:q-1<a.size:=by omega
 by_cases e1:i=q
 ·subst e1;by_cases e2:j=i
  ·subst e2;exact zcX T (Pa hi)
  ·exact T.tr _ _ _ (Pa hi) (Pa hq1) (Pa hj) h1 (h _ _ hq1 hj (by lia) (by lia) g3 (by lia))
 ·by_cases e2:j=q
  ·subst e2;exact T.tr _ _ _ (Pa hi) (Pa hq1) (Pa hj) (h _ _ hi hq1 g1 (by lia) (by lia) (by lia)) h2
  ·exact h i j hi hj g1 (by lia) g3 (by lia)
theorem zfE (T:Tot f P){a:Array Keyed}(hP:∀(j:Nat) x,a[j]? = some x->P x){p q:Nat}(h:q=p+1):Alike f a p q:=by
 intro i j hi hj g1 g2 g3 g4;have:i=j:=by lia
 subst this;exact zcX T (hP i _ (getElem?_pos a i hi))
theorem ztl (C:Cmp prog w A E s k P f)(T:Tot f P){lo n:Nat}{Q:Option Nat->SortSt->Prop}{st:SortSt}(hst:kindOf st=k)(h0:1<=n)(hn:lo+n<=(arrOf st).size)(hP:∀(j:Nat) x,(arrOf st)[j]? = some x->P x)
  (hQ:∀a' m,1<=m->m<=n->Moved (arrOf st) a' lo (lo+n)->Run f a' lo (lo+m)->Q (some m) (setArr st a')):wpS (model prog w) A E s (cnt lo n) Q st:=by
 refine wpS_bind (wpS_mono (wpS_forRange (I:=λx c st'=>st'=st/\c=(none,x)/\x<=n/\Run f (arrOf st) lo (lo+x))
  (Q:=λc st'=>st'=st/\∃x,c=(none,x)/\1<=x/\x<=n/\Run f (arrOf st) lo (lo+x)/\(x<n->∃h:lo+x<(arrOf st).size,f (arrOf st)[lo+x] ((arrOf st)[lo+x-1]'(by omega))=true)) ?step ?fin ⟨rfl,rfl,h0,λi j _ _ _ _=>by lia⟩) ?post)
 case fin=>
  rintro c st' ⟨rfl,rfl,h1,h2⟩;exact⟨rfl,_,rfl,by lia,h1,h2,λh=>by omega⟩
 case step=>
  rintro x c st' hx1 hx2 ⟨rfl,rfl,h1,h2⟩;dsimp only;refine wpS_bind (zex C hst rfl hP (show lo+x<(arrOf st').size by lia) (show lo+x-1<(arrOf st').size by lia) ?_);cases hv:f ((arrOf st')[lo+x]'(by lia)) ((arrOf st')[lo+x-1]'(by lia))with
  | true=>
   dsimp only;rw[if_pos rfl];exact wpS_pure ⟨rfl,x,rfl,hx1,by omega,h2,λ_=>⟨by lia,hv⟩⟩
  | false=>
   dsimp only;rw[if_neg (by decide)];exact wpS_pure ⟨rfl,rfl,by lia,h2.more T hP hx1 (by lia) hv⟩
 case post=>
  rintro c st' ⟨rfl,x,rfl,h1,h2,h3,h4⟩;dsimp only;have Pa:∀ {i:Nat},(hi:i<(arrOf st').size)->P (arrOf st')[i]:=λ{i} hi=>hP i _ (getElem?_pos (arrOf st') i hi);refine zaN (λe1=>?_) (λe1=>?_)
  ·have e1:x=n:=by simpa using e1
   exact wpS_pure (hQ (arrOf st') x h1 h2 (.refl _ _ _) h3)
  have e1:¬ x=n:=by simpa using e1
  obtain⟨hx,hv⟩:=h4 (by lia);have hx1:lo+x-1<(arrOf st').size:=by omega
  have hdn:Le f (arrOf st')[lo+x] (arrOf st')[lo+x-1]:=T.asym _ _ (Pa hx) (Pa hx1) hv;refine zpA (λst2=>∃a1,st2=setArr st' a1/\Moved (arrOf st') a1 lo (lo+n)/\Dec f a1 lo (lo+(x+1))) ?_ (λe2 key=>?_) (λe2=>⟨arrOf st',rfl,.refl _ _ _,Dec.more T hP h1 hx (λi j _ _ _ _=>by lia) hdn⟩)
  rotate_left
  ·refine wpS_bind (zex C hst rfl hP (show lo<(arrOf st').size by lia) hx1 ?_);cases hw:f ((arrOf st')[lo]'(by lia)) (arrOf st')[lo+x-1]with
   | true=>
    dsimp only;rw[if_pos rfl];exact wpS_pure (hQ (arrOf st') x h1 h2 (.refl _ _ _) h3)
   | false=>
    dsimp only;rw[if_neg (by decide)];have al:Alike f (arrOf st') lo (lo+x):=λi j hi hj g1 g2 g3 g4=>by
     rcases Nat.lt_trichotomy i j with h | h | h
     ·exact h3 i j hj h g1 g4
     ·subst h;exact zcX T (Pa hi)
     ·have q1:Le f (arrOf st')[i] (arrOf st')[lo+x-1]:=by
       by_cases e:i=lo+x-1
       ·subst e;exact zcX T (Pa hi)
       ·exact h3 _ _ hx1 (by lia) g1 (by lia)
      have hlo:lo<(arrOf st').size:=by lia
      have q2:Le f (arrOf st')[lo] (arrOf st')[j]:=by
       by_cases e:j=lo
       ·subst e;exact zcX T (Pa hj)
       ·exact h3 _ _ hj (by lia) (by lia) (by omega)
      exact T.tr _ _ _ (Pa hi) (Pa hx1) (Pa hj) q1 (T.tr _ _ _ (Pa hx1) (Pa hlo) (Pa hj) hw q2)
    have dc:Dec f (arrOf st') lo (lo+x):=λi j hj hij g1 g2=>al j i hj (by lia) (by lia) g2 g1 (by lia);exact wpS_bind (wpS_modify (key _ ⟨_,rfl,zdY (by lia) (by lia) (by lia),zjo (by lia) (by lia) (by lia) (dc.more T hP h1 hx hdn) al⟩))
  rintro st2 ⟨a1,rfl,m1,D1⟩;refine wpS_bind (wpS_lift (wpAny_rule ⟨rfl,?_⟩));refine wpS_bind (wpS_mono (wpS_forRange
   (I:=λy c st2=>∃a2 neq,st2=setArr st' a2/\c=(none,y,neq)/\y<=n/\neq<y/\Moved (arrOf st') a2 lo (lo+n)/\Dec f a2 lo (lo+y)/\Alike f a2 (lo+y-(neq+1)) (lo+y))
   (Q:=λc st2=>∃a2 y neq,st2=setArr st' a2/\c=(none,y,neq)/\x+1<=y/\y<=n/\neq<y/\Moved (arrOf st') a2 lo (lo+n)/\Dec f a2 lo (lo+y)/\Alike f a2 (lo+y-(neq+1)) (lo+y)) ?step2 ?fin2 ⟨a1,0,rfl,rfl,by lia,by lia,m1,D1,zfE T (m1.all hP) (by lia)⟩) ?post2)
  case fin2=>
   rintro c st2 ⟨a2,neq,rfl,rfl,g1,g2,g3,g4,g5⟩;exact⟨a2,_,neq,rfl,rfl,by lia,g1,g2,g3,g4,g5⟩
  case step2=>
   rintro y c st2 hy1 hy2 ⟨a2,neq,rfl,rfl,g1,g2,g3,g4,g5⟩;have hs2:=g3.size;have hP2:=g3.all hP;have hy:lo+y<a2.size:=by lia
   have hyp:lo+y-1<a2.size:=by omega
   have Pb:∀ {i:Nat},(hi:i<a2.size)->P a2[i]:=λ{i} hi=>hP2 i _ (getElem?_pos a2 i hi);dsimp only;refine wpS_bind (zex C (st:=setArr st' a2) (a:=a2) hst rfl hP2 hy hyp ?_);cases hc:f a2[lo+y] a2[lo+y-1]with
   | true=>
    dsimp only;rw[if_pos rfl];have D2:=g4.more T hP2 (by lia) hy (T.asym _ _ (Pb hy) (Pb hyp) hc);refine zaN (λhq=>?_) (λhq=>?_)
    ·have m2:=g3.trans (zdY (p:=lo+y-(neq+1)) (q:=lo+y) (lo:=lo) (hi:=lo+n) (show lo+y<=a2.size by lia) (by lia) (by lia));have D3:=zjo (p:=lo+y-(neq+1)) (q:=lo+y) (show lo+(y+1)<=a2.size by lia) (by lia) (by lia) D2 g5;exact wpS_bind (wpS_modify (wpS_pure ⟨rev a2 (lo+y-(neq+1)) (lo+y),0,rfl,rfl,by lia,by lia,m2,D3,zfE T (m2.all hP) (by lia)⟩))
    ·exact wpS_pure ⟨a2,0,rfl,rfl,by lia,by lia,g3,D2,zfE T hP2 (by lia)⟩
   | false=>
    dsimp only;rw[if_neg (by decide)];refine wpS_bind (zex C (st:=setArr st' a2) (a:=a2) hst rfl hP2 hyp hy ?_);cases hd:f a2[lo+y-1] a2[lo+y]with
    | true=>
     dsimp only;rw[if_pos rfl];exact wpS_pure ⟨a2,y,neq,rfl,rfl,by omega,by omega,g2,g3,g4,g5⟩
    | false=>
     dsimp only;rw[if_neg (by decide)];have D2:=g4.more T hP2 (by lia) hy hd;have A2:=g5.more T hP2 (by omega) hy hd hc;refine wpS_pure ⟨a2,neq+1,rfl,rfl,by lia,by lia,g3,D2,?_⟩;rw[show lo+(y+1)-(neq+1+1)=lo+y-(neq+1) by lia,show lo+(y+1)=lo+y+1 by lia];exact A2
  case post2=>
   rintro c st2 ⟨a2,y,neq,rfl,rfl,g0,g1,g2,g3,g4,g5⟩;have hs2:=g3.size;dsimp only;refine zpA (λst3=>∃a3,st3=setArr st' a3/\Moved (arrOf st') a3 lo (lo+n)/\Dec f a3 lo (lo+y)) ?_ (λhq key=>wpS_bind (wpS_modify (key _ ⟨_,rfl,g3.trans (zdY (by lia) (by lia) (by lia)),zjo (by lia) (by lia) (by lia) g4 g5⟩))) (λhq=>⟨a2,rfl,g3,g4⟩);rintro st3 ⟨a3,rfl,m3,D3⟩;have hs3:=m3.size;refine wpS_bind (wpS_modify ?_);obtain⟨a4,m4,R4,hg⟩:∃a4,Moved (arrOf st') a4 lo (lo+n)/\Run f a4 lo (lo+y)/\setArr st' (rev a3 lo (lo+y))=setArr st' a4:=
    ⟨_,m3.trans (zdY (by lia) (by lia) (by lia)),zqY (by lia) D3,rfl⟩
   show wpS _ _ _ _ _ _ (setArr st' (rev a3 lo (lo+y)));rw[hg];clear hg;have hs4:=m4.size;have hP4:=m4.all hP;refine wpS_bind (wpS_mono (wpS_forRange (I:=λz c st2=>st2=setArr st' a4/\c=(none,z)/\z<=n/\Run f a4 lo (lo+z))
    (Q:=λc st2=>st2=setArr st' a4/\∃z,c=(none,z)/\1<=z/\z<=n/\Run f a4 lo (lo+z)) ?step3 ?fin3 ⟨rfl,rfl,g1,R4⟩) ?post3)
   case fin3=>
    rintro c st2 ⟨rfl,rfl,k1,k2⟩;exact⟨rfl,_,rfl,by lia,k1,k2⟩
   case post3=>
    rintro c st2 ⟨rfl,z,rfl,k1,k2,k3⟩;exact wpS_pure (hQ a4 z k1 k2 m4 k3)
   case step3=>
    rintro z c st2 hz1 hz2 ⟨rfl,rfl,k1,k2⟩;dsimp only;refine wpS_bind (zex C (st:=setArr st' a4) (a:=a4) hst rfl hP4 (show lo+z<a4.size by lia) (show lo+z-1<a4.size by lia) ?_);cases hc:f (a4[lo+z]'(by lia)) (a4[lo+z-1]'(by lia))with
    | true=>
     dsimp only;rw[if_pos rfl];exact wpS_pure ⟨rfl,z,rfl,by lia,by omega,k2⟩
    | false=>
     dsimp only;rw[if_neg (by decide)];exact wpS_pure ⟨rfl,rfl,by lia,k2.more T hP4 (by lia) (by lia) hc⟩
end
variable {P:Keyed->Prop}{f:Keyed->Keyed->Bool}
noncomputable def Stk (f:Keyed->Keyed->Bool)(a:Array Keyed):Nat->List (Nat×Nat×Nat)->Nat->Prop
 | s,[],hi=>s=hi
 | s,e::r,hi=>e.1=s/\0<e.2.1/\Run f a s (s+e.2.1)/\Stk f a (s+e.2.1) r hi
theorem Run.congr {a a':Array Keyed}{lo hi:Nat}(h:Run f a lo hi)(hs:a'.size=a.size)(he:∀j:Nat,lo<=j->j<hi->a'[j]? = a[j]?):Run f a' lo hi:=by
 intro i j hj hij h1 h2;have e1:=he i h1 (by lia);have e2:=he j (by lia) h2;rw[getElem?_pos a' i (by lia),getElem?_pos a i (by lia)]at e1;rw[getElem?_pos a' j hj,getElem?_pos a j (by lia)]at e2;rw[Option.some.inj e1,Option.some.inj e2];exact h i j (by lia) hij h1 h2
theorem Stk.le {a:Array Keyed}:∀ {l:List (Nat×Nat×Nat)}{s hi:Nat},Stk f a s l hi->s+l.length<=hi
 | [],s,hi,h=>by have:s=hi:=h;simp[this]
 | e::r,s,hi,⟨h1,h2,h3,h4⟩=>by have:=Stk.le h4;rw[Ya];lia
theorem Stk.congr {a a':Array Keyed}(hs:a'.size=a.size):∀ {l:List (Nat×Nat×Nat)}{s hi:Nat},Stk f a s l hi->(∀j:Nat,s<=j->j<hi->a'[j]? = a[j]?)->Stk f a' s l hi
 | [],s,hi,h,_=>h
 | e::r,s,hi,⟨h1,h2,h3,h4⟩,he=>by
  have:=h4.le;exact⟨h1,h2,h3.congr hs λj g1 g2=>he j g1 (by lia),Stk.congr hs h4 λj g1 g2=>he j (by lia) g2⟩
theorem Stk.append {a:Array Keyed}:∀ {l m:List (Nat×Nat×Nat)}{s hi:Nat},Stk f a s (l++m) hi↔∃t,Stk f a s l t/\Stk f a t m hi
 | [],m,s,hi=>⟨λh=>⟨s,rfl,h⟩,λ⟨t,h1,h2⟩=>by have:s=t:=h1;rw[this];exact h2⟩
 | e::r,m,s,hi=>by
  constructor
  ·rintro⟨h1,h2,h3,h4⟩;obtain⟨t,g1,g2⟩:=Stk.append.mp h4;exact⟨t,⟨h1,h2,h3,g1⟩,g2⟩
  ·rintro⟨t,⟨h1,h2,h3,h4⟩,g⟩;exact⟨h1,h2,h3,Stk.append.mpr ⟨t,h4,g⟩⟩
theorem Stk.snoc {a:Array Keyed}{l:List (Nat×Nat×Nat)}{s lo n p:Nat}(h:Stk f a s l lo)(hn:0<n)(r:Run f a lo (lo+n)):Stk f a s (l++[(lo,n,p)]) (lo+n):=Stk.append.mpr ⟨lo,h,rfl,hn,r,rfl⟩
theorem Stk.merge {a a':Array Keyed}{pre post:List (Nat×Nat×Nat)}{sa na pw sb nb pw2 s hi:Nat}(h:Stk f a s (pre++(sa,na,pw)::(sb,nb,pw2)::post) hi)(hs:a'.size=a.size)(ho:∀j:Nat,j<sa\/sa+na+nb<=j->a'[j]? = a[j]?)(r:Run f a' sa (sa+na+nb)) :
  Stk f a' s (pre++(sa,na+nb,pw)::post) hi:=by
 obtain⟨t,h1,h2,h3,h4,h5,h6,h7,h8⟩:=Stk.append.mp h;simp only at h2 h3 h4 h5 h6 h7 h8;subst h2;refine Stk.append.mpr ⟨sa,h1.congr hs λj g1 g2=>ho j (.inl g2),rfl,by show 0<na+nb;lia,?_,?_⟩
 ·show Run f a' sa (sa+(na+nb));rw[<- Nat.add_assoc];exact r
 ·show Stk f a' (sa+(na+nb)) post hi;rw[<- Nat.add_assoc];exact h8.congr hs λj g1 g2=>ho j (.inr g1)
theorem zoL {p:Array (Nat×Nat×Nat)}{pre post:List (Nat×Nat×Nat)}{e1 e2 e:Nat×Nat×Nat}(h:p.toList=pre++e1::e2::post):((p.setIfInBounds pre.length e).eraseIdxIfInBounds (pre.length+1)).toList=pre++e::post:=by
 have hsz:p.size=pre.length+(post.length+2):=by rw[<- Xv,h];simp
 rw[Array.eraseIdxIfInBounds,dif_pos (by simp;lia)];simp[h,List.eraseIdx_append_of_length_le]
theorem znk {a a':Array Keyed}{S:List Keyed}{sa n:Nat}(hn:sa+n<=a.size)(so:S.Pairwise (Le f))(pm:S.Perm ((a.toList.drop sa).take n))(e:a'.toList=a.toList.take sa++S++a.toList.drop (sa+n)) :
  a'.Perm a/\a'.size=a.size/\(∀j:Nat,j<sa\/sa+n<=j->a'[j]? = a[j]?)/\Run f a' sa (sa+n):=by
 have hl:a.toList.length=a.size:=Xv;have hS:S.length=n:=by rw[pm.length_eq,XH,List.length_drop];lia
 have ht:(a.toList.take sa).length=sa:=by rw[XH];lia
 have hp:a'.Perm a:=by
  rw[Array.perm_iff_toList_perm,e];have e2:a.toList=a.toList.take sa++(a.toList.drop sa).take n++a.toList.drop (sa+n):=by
   rw[<- List.drop_drop,XE,Yb,Yb]
  refine YC.trans ?_ (YC.of_eq e2.symm);exact YC.append_right _ (YC.append_left _ pm)
 refine⟨hp,hp.size_eq,λj hj=>?_,λi j hj hij h1 h2=>?_⟩
 ·rw[<- Xu,<- Xu,e];rcases hj with hj | hj
  ·rw[XE,Yg (by lia),List.getElem?_take_of_lt hj]
  ·rw[XQ (by rw[XB];lia),XB,List.getElem?_drop]
   congr 1
   lia
 ·have at':∀(i:Nat) (h:i<a'.size),sa<=i->(h2:i<sa+n)->a'[i]=S[i-sa]'(by lia):=λi h g1 g2=>by
   have:a'.toList[i]? = S[i-sa]?:=by
    rw[e,XE,XQ (by lia),ht,Yg (by lia)]
   rw[Xu,getElem?_pos a' i h,Xa (by lia)]at this;exact Option.some.inj this
  rw[at' i (by lia) h1 (by lia),at' j hj (by lia) h2];exact List.pairwise_iff_getElem.mp so _ _ _ _ (by lia)
noncomputable def srt:StateT SortSt Sem Unit:=sortPriv% PySem.Builtin.sortRuns
section
variable {prog:Program}{w:World}{A:Around}{E:Value->Shared->Prop}{s:Shared}{k:SortKind}{P:Keyed->Prop}{f:Keyed->Keyed->Bool}
structure Inv (f:Keyed->Keyed->Bool)(k:SortKind)(a:Array Keyed)(st:SortSt)(lo:Nat):Prop where
 kind:kindOf st=k
 failed:failedOf st=none
 pm:(arrOf st).Perm a
 stk:Stk f (arrOf st) 0 (pendingOf st).toList lo
theorem zkn (C:Cmp prog w A E s k P f)(T:Tot f P){a:Array Keyed}{i lo:Nat}{Q:Bool->SortSt->Prop}{st:SortSt}(hP:∀(j:Nat) x,a[j]? = some x->P x)(I:Inv f k a st lo)(hlo:lo<=a.size)(hi:i+1<(pendingOf st).size)
  (hQ:∀st',Inv f k a st' lo->(pendingOf st').size+1=(pendingOf st).size->(∀j:Nat,lo<=j->(arrOf st')[j]? = (arrOf st)[j]?)->Q true st'):wpS (model prog w) A E s (mAt i) Q st:=by
 have hlen:(pendingOf st).toList.length=(pendingOf st).size:=Xv;have hsz:(arrOf st).size=a.size:=I.pm.size_eq;obtain⟨pre,⟨sa,na,pw⟩,⟨sb,nb,pw2⟩,post,hl,hpre⟩:∃pre e1 e2 post,(pendingOf st).toList=pre++e1::e2::post/\pre.length=i:=by
  refine⟨(pendingOf st).toList.take i,(pendingOf st).toList[i],(pendingOf st).toList[i+1],(pendingOf st).toList.drop (i+2),?_,by rw[XH];lia⟩;rw[<- YD,<- YD,Yb]
 have hst:=I.stk;rw[hl]at hst;obtain⟨t,h1,h2,h3,h4,h5,h6,h7,h8⟩:=Stk.append.mp hst;simp only at h2 h3 h4 h5 h6 h7 h8;subst h2;subst h5;have hle:=h8.le;have g1:(pendingOf st)[i]? = some (sa,na,pw):=by rw[<- Xu,hl,<- hpre];simp
 have g2:(pendingOf st)[i+1]? = some (sa+na,nb,pw2):=by rw[<- Xu,hl,<- hpre];simp
 have hP':∀(j:Nat) x,(arrOf st)[j]? = some x->P x:=(Moved.all (lo:=0) (hi:=(arrOf st).size+a.size) ⟨I.pm,λj hj=>by
  rcases hj with hj | hj
  ·lia
  ·rw[getElem?_neg (arrOf st) j (by omega),getElem?_neg a j (by omega)]⟩ hP)
 refine ztj C T I.kind I.failed g1 g2 h3 h6 (by lia) hP' h4 h7 λst' S q1 q2 q3 q4 q5 q6=>?_;rw[Nat.add_assoc]at q6;obtain⟨r1,r2,r3,r4⟩:=znk (by lia) q4 q5 q6;have hpl:(pendingOf st').toList=pre++(sa,na+nb,pw)::post:=by rw[q3,<- hpre];exact zoL hl
 refine hQ st' ⟨q1,q2,r1.trans I.pm,?_⟩ ?_ λj hj=>r3 j (.inr (by lia))
 ·rw[hpl];exact hst.merge r2 (λj hj=>r3 j (by lia)) (by rw[Nat.add_assoc];exact r4)
 ·have e1:(pendingOf st').size=(pendingOf st').toList.length:=Xv.symm;rw[e1,hpl,<- hlen,hl];simp
  lia
end
section
variable {prog:Program}{w:World}{A:Around}{E:Value->Shared->Prop}{s:Shared}{k:SortKind}{P:Keyed->Prop}{f:Keyed->Keyed->Bool}
theorem Stk.modify {a:Array Keyed}{g:Nat×Nat×Nat->Nat×Nat×Nat}(hg:∀e,(g e).1=e.1/\(g e).2.1=e.2.1):∀ {l:List (Nat×Nat×Nat)}{i s hi:Nat},Stk f a s l hi->Stk f a s (l.modify i g) hi
 | [],i,s,hi,h=>by cases i<;>exact h
 | e::r,0,s,hi,⟨h1,h2,h3,h4⟩=>by
  show Stk f a s (g e::r) hi;have:=hg e;exact⟨by rw[this.1];exact h1,by rw[this.2];exact h2,by rw[this.2];exact h3,by rw[this.2];exact h4⟩
 | e::r,i+1,s,hi,⟨h1,h2,h3,h4⟩=>by
  show Stk f a s (e::r.modify i g) hi;exact⟨h1,h2,h3,Stk.modify hg h4⟩
theorem Inv.moved {a:Array Keyed}{st:SortSt}{lo n:Nat}(I:Inv f k a st lo){a':Array Keyed}(m:Moved (arrOf st) a' lo n):Inv f k a (setArr st a') lo:=
 ⟨I.kind,I.failed,m.pm.trans I.pm,I.stk.congr m.size λj _ h=>m.out j (.inl h)⟩
theorem Inv.all {a:Array Keyed}{st:SortSt}{lo:Nat}(I:Inv f k a st lo)(hP:∀(j:Nat) x,a[j]? = some x->P x):∀(j:Nat) x,(arrOf st)[j]? = some x->P x:=λj x e=>by
 have h1:x∈(arrOf st).toList:=Xn (by rw[Xu];exact e);exact zfD hP x ((Array.perm_iff_toList_perm.mp I.pm).mem_iff.mp h1)
theorem Inv.push {a:Array Keyed}{st:SortSt}{lo n:Nat}(I:Inv f k a st lo)(hn:1<=n)(r:Run f (arrOf st) lo (lo+n)):Inv f k a (SortSt.mk' (kindOf st) (arrOf st) ((pendingOf st).push (lo,n,0)) (gallopOf st) (failedOf st)) (lo+n):=
 ⟨I.kind,I.failed,I.pm,by show Stk f (arrOf st) 0 ((pendingOf st).push (lo,n,0)).toList (lo+n);rw[Array.toList_push];exact I.stk.snoc (by lia) r⟩
theorem Inv.power {a:Array Keyed}{st:SortSt}{lo i:Nat}(I:Inv f k a st lo){g:Nat×Nat×Nat->Nat×Nat×Nat}(hg:∀e,(g e).1=e.1/\(g e).2.1=e.2.1):Inv f k a (SortSt.mk' (kindOf st) (arrOf st) ((pendingOf st).modify i g) (gallopOf st) (failedOf st)) lo:=
 ⟨I.kind,I.failed,I.pm,by show Stk f (arrOf st) 0 ((pendingOf st).modify i g).toList lo;rw[Array.toList_modify];exact I.stk.modify hg⟩
theorem zqZ {c:Prop} [Decidable c] {n:Nat}(h:¬ n<=1):(if c then n-2-1 else n-2)+1<n:=by split<;>omega
theorem zpC {α:Type}{c:Prop} [Decidable c] {m1 m2:StateT SortSt Sem α}{Q:α->SortSt->Prop}{st:SortSt}(h1:c->wpS (model prog w) A E s m1 Q st)(h2:¬ c->wpS (model prog w) A E s m2 Q st):wpS (model prog w) A E s (if c then m1 else m2) Q st:=by
 by_cases h:c
 ·rw[if_pos h];exact h1 h
 ·rw[if_neg h];exact h2 h
theorem ztm (C:Cmp prog w A E s k P f)(T:Tot f P){Q:Unit->SortSt->Prop}{st:SortSt}(hst:kindOf st=k)(hfl:failedOf st=none)(hpn:pendingOf st = #[])(hP:∀(j:Nat) x,(arrOf st)[j]? = some x->P x)
  (hQ:∀st',(arrOf st').Perm (arrOf st)->failedOf st'=none->(arrOf st').toList.Pairwise (Le f)->Q () st'):wpS (model prog w) A E s srt Q st:=by
 refine wpS_bind (wpS_get ?_);refine wpS_bind (wpS_mono (wpS_forRange (I:=λx c st'=>∃lo,c=(none,lo)/\lo<=(arrOf st).size/\x<=lo/\Inv f k (arrOf st) st' lo)
  (Q:=λc st'=>∃lo,c=(none,lo)/\lo=(arrOf st).size/\Inv f k (arrOf st) st' lo) ?step ?fin ⟨0,rfl,by lia,by lia,hst,hfl,.refl _,by rw[hpn];rfl⟩) ?post)
 case fin=>
  rintro c st' ⟨lo,rfl,h1,h2,I⟩;change max 0 (arrOf st).size<=lo at h2;exact⟨lo,rfl,by lia,I⟩
 case post=>
  rintro c st' ⟨lo,rfl,rfl,I⟩;have hle:=I.stk.le;rw[Xv]at hle;refine wpS_bind (wpS_mono (wpS_forRange (I:=λx c st2=>c=(none,())/\(pendingOf st2).size+x<=(arrOf st).size/\Inv f k (arrOf st) st2 (arrOf st).size)
   (Q:=λc st2=>c=(none,())/\(pendingOf st2).size<=1/\Inv f k (arrOf st) st2 (arrOf st).size) ?step9 ?fin9 ⟨rfl,by lia,I⟩) ?post9)
  case fin9=>
   rintro c st2 ⟨rfl,h1,I2⟩;change (pendingOf st2).size+max 0 (arrOf st).size<=(arrOf st).size at h1;exact⟨rfl,by lia,I2⟩
  case post9=>
   rintro c st2 ⟨rfl,h1,I2⟩;refine wpS_pure (hQ st2 I2.pm I2.failed ?_);have hsz:(arrOf st2).size=(arrOf st).size:=I2.pm.size_eq;have hr:Run f (arrOf st2) 0 (0+(arrOf st2).size):=by
    have hs:=I2.stk;have hl:(pendingOf st2).toList.length<=1:=by rw[Xv];exact h1
    cases hp:(pendingOf st2).toList with
    | nil=>
     rw[hp]at hs;have:0=(arrOf st).size:=hs;intro i j hj hij _ h2
     lia
    | cons e r=>
     rw[hp]at hs hl;have:r=[]:=XI.mp (by simp at hl;exact XI.mpr hl);subst this;obtain⟨g1,g2,g3,g4⟩:=hs;have:0+e.2.1=(arrOf st).size:=g4;rw[this]at g3;rw[hsz,Nat.zero_add];exact g3
   have:=znj hr (by lia)
   rwa [List.drop_zero,Xi (by rw[Xv];exact Xf _)]at this
  case step9=>
   rintro x c st2 _ hx ⟨rfl,h1,I2⟩;refine wpS_bind (wpS_get ?_);by_cases e1:(pendingOf st2).size<=1
   ·rw[if_pos e1];exact wpS_pure ⟨rfl,e1,I2⟩
   rw[if_neg e1];refine wpS_bind (zkn C T hP I2 (Xf _) ?_ λst3 I3 h3 _=>?_)
   ·exact zqZ e1
   ·exact wpS_pure ⟨rfl,by lia,I3⟩
 case step=>
  rintro x c st1 _ hx ⟨lo,rfl,h1,h2,I⟩;by_cases e1:lo>=(arrOf st).size
  ·rw[if_pos e1];exact wpS_pure ⟨lo,rfl,by lia,I⟩
  rw[if_neg e1];have hsz:(arrOf st1).size=(arrOf st).size:=I.pm.size_eq;refine wpS_bind (ztl C T I.kind (show 1<=(arrOf st).size-lo by lia) (show lo+((arrOf st).size-lo)<=(arrOf st1).size by lia) (I.all hP) λa1 m q1 q2 mv r1=>?_);have I1:=I.moved mv;have hs1:=mv.size;have q2':m<=(arrOf st).size-lo:=q2;refine zpC (λe2=>?_) (λe2=>?_);generalize hmr:(sortPriv% PySem.Builtin.minRun) _ _ _=mr at *;refine wpS_bind (wpS_lift (wpAny_rule ⟨rfl,?_⟩));refine wpS_bind (ztk C T I1.kind (show lo+min ((arrOf st).size-lo) mr<=a1.size by lia) (by omega) (I1.all hP) r1 λa2 mv2 r2=>?_);rw[if_neg (by decide)];obtain⟨nn,hnn⟩:∃nn,nn=min ((arrOf st).size-lo) mr:=⟨_,rfl⟩;obtain⟨stX,IX,rX,hg⟩:∃stX,Inv f k (arrOf st) stX lo/\Run f (arrOf stX) lo (lo+min ((arrOf st).size-lo) mr)/\setArr (setArr st1 a1) a2=stX:=⟨_,I1.moved mv2,r2,rfl⟩;show wpS _ _ _ _ _ _ (setArr (setArr st1 a1) a2);rw[hg];clear hg;have n1:1<=min ((arrOf st).size-lo) mr:=by lia
  have n2:lo+min ((arrOf st).size-lo) mr<=(arrOf st).size:=by lia
  rotate_left
  obtain⟨stX,IX,rX,hg⟩:∃stX,Inv f k (arrOf st) stX lo/\Run f (arrOf stX) lo (lo+m)/\setArr st1 a1=stX:=⟨_,I1,r1,rfl⟩;show wpS _ _ _ _ _ _ (setArr st1 a1);rw[hg];clear hg;have n1:1<=m:=by omega
  have n2:lo+m<=(arrOf st).size:=by lia
  all_goals
   refine wpS_bind (wpS_get ?_);rcases hb:(pendingOf stX).back? with _ | ⟨s1,l1,p1⟩
   ·dsimp only;exact wpS_bind (wpS_modify (wpS_pure ⟨_,rfl,n2,by lia,IX.push n1 rX⟩))
   ·dsimp only;refine wpS_bind (wpS_mono (wpS_forRange (I:=λy c st2=>c=(none,())/\Inv f k (arrOf st) st2 lo/\(∀j:Nat,lo<=j->(arrOf st2)[j]? = (arrOf stX)[j]?))
     (Q:=λc st2=>c=(none,())/\Inv f k (arrOf st) st2 lo/\(∀j:Nat,lo<=j->(arrOf st2)[j]? = (arrOf stX)[j]?)) ?step5 ?fin5 ⟨rfl,IX,λ_ _=>rfl⟩) ?post5)
    case fin5=>exact λc st2 h=>h
    case post5=>
     rintro c st2 ⟨rfl,I2,o2⟩;dsimp only;have r2:=rX.congr (a':=arrOf st2) (by rw[I2.pm.size_eq,IX.pm.size_eq]) λj g1 _=>o2 j g1;refine wpS_bind (wpS_modify (wpS_bind (wpS_modify (wpS_pure ⟨_,rfl,n2,by lia,?_⟩))));exact Inv.push (Inv.power I2 (λe=>⟨rfl,rfl⟩)) n1 r2
    case step5=>
     rintro y c st2 _ hy ⟨rfl,I2,o2⟩;refine wpS_bind (wpS_get ?_);by_cases hp:(pendingOf st2).size > 1
     ·rw[if_pos hp,getElem?_pos (pendingOf st2) ((pendingOf st2).size-2) (by lia)];dsimp only;refine zpC (λe3=>?_) (λe3=>?_)
      ·exact wpS_pure ⟨rfl,I2,o2⟩
      ·refine wpS_bind (zkn C T hP I2 (by omega) (show(pendingOf st2).size-2+1<(pendingOf st2).size by lia) λst3 I3 h3 o3=>?_);rw[if_neg (by decide)];exact wpS_pure ⟨rfl,I3,λj hj=>(o3 j hj).trans (o2 j hj)⟩
     ·rw[if_neg hp];exact wpS_pure ⟨rfl,I2,o2⟩
end
noncomputable def ltI:List Int->List Int->Bool
 | [],[]=>false
 | [],_::_=>true
 | _::_,[]=>false
 | x::xs,y::ys=>if x=y then ltI xs ys else decide (x<y)
theorem zdZ:∀x y:List Int,ltI x y=true->ltI y x=false
 | [],[],h=>rfl
 | [],_::_,h=>rfl
 | _::_,[],h=>by cases h
 | a::x,b::y,h=>by
  unfold ltI at h ⊢;by_cases e:a=b
  ·rw[if_pos e]at h;rw[if_pos e.symm];exact zdZ x y h
  ·rw[if_neg e]at h;rw[if_neg (λz=>e z.symm)];have:=of_decide_eq_true h;exact decide_eq_false (by lia)
theorem zfF:∀x y:List Int,ltI x y=false->ltI y x=false->x=y
 | [],[],_,_=>rfl
 | [],_::_,h,_=>by cases h
 | _::_,[],_,h=>by cases h
 | a::x,b::y,h1,h2=>by
  unfold ltI at h1 h2;by_cases e:a=b
  ·rw[if_pos e]at h1;rw[if_pos e.symm]at h2;rw[e,zfF x y h1 h2]
  ·rw[if_neg e]at h1;rw[if_neg (λz=>e z.symm)]at h2;have:=of_decide_eq_false h1;have:=of_decide_eq_false h2;exact absurd (show a=b by lia) e
theorem zea:∀x y z:List Int,ltI x y=true->ltI y z=true->ltI x z=true
 | [],[],_,h,_=>by cases h
 | [],_::_,[],_,h=>by cases h
 | [],_::_,_::_,_,_=>rfl
 | _::_,[],_,h,_=>by cases h
 | _::_,_::_,[],_,h=>by cases h
 | a::x,b::y,c::z,h1,h2=>by
  unfold ltI at h1 h2 ⊢;by_cases e:a=b
  ·rw[if_pos e]at h1;by_cases e2:b=c
   ·rw[if_pos e2]at h2;rw[if_pos (e.trans e2)];exact zea x y z h1 h2
   ·rw[if_neg e2]at h2;rw[if_neg (by rw[e];exact e2),e];exact h2
  ·rw[if_neg e]at h1;have l1:=of_decide_eq_true h1;by_cases e2:b=c
   ·rw[if_neg (by rw[<- e2];exact e),<- e2];exact h1
   ·rw[if_neg e2]at h2;have l2:=of_decide_eq_true h2;rw[if_neg (by lia)];exact decide_eq_true (by lia)
theorem zra:∀x y:List Int,x.zip y=[]->ltI x y=decide (x.length<y.length)
 | [],[],_=>rfl
 | [],_::_,_=>by simp[ltI]
 | _::_,[],_=>by simp[ltI]
 | _::_,_::_,h=>by cases h
noncomputable def TupAt (h:Heap)(v:Value)(ns:List Int):Prop:=∃a o vs n,v=.ref a/\h.get? a=some o/\o.cls=.type "tuple"/\o.data=.seq (List.toArray vs) n/\IntsAre vs ns
theorem TupAt.inj {h:Heap}{v:Value}{ns ms:List Int}(h1:TupAt h v ns)(h2:TupAt h v ms):ns=ms:=by
 obtain⟨a,o,vs,n,rfl,e,_,d,i⟩:=h1;obtain⟨a2,o2,vs2,n2,ea,e2,_,d2,i2⟩:=h2;cases ea;rw[e]at e2;cases e2;rw[d]at d2;cases d2;rw[<- i.nums,<- i2.nums]
open Classical in
noncomputable def gOf (h:Heap)(v:Value):List Int:=if z:∃ns,TupAt h v ns then z.choose else[]
theorem zko {h:Heap}{v:Value}{ns:List Int}(z:TupAt h v ns):gOf h v=ns:=by
 unfold gOf;have hz:∃ns,TupAt h v ns:=⟨ns,z⟩;rw[dif_pos hz];exact hz.choose_spec.inj z
section
variable {prog:Program}{w:World}{M:Model}{A:Around}{E:Value->Shared->Prop}{s:Shared}
theorem zik {α β:Type}(f:α->β->Sem (ForInStep β))(I:List α->β->Prop){Q:β->Shared->Prop}
  (hstep:∀x rest b,I (x::rest) b->wpAny M A (f x b) (λr s'=>s'=s/\match r with | .done b'=>Q b' s | .yield b'=>I rest b') E s)
  (hend:∀b,I [] b->Q b s):∀(l:List α) (b:β),I l b->wpAny M A (forIn l b f) Q E s
 | [],b,h=>by rw[List.forIn_nil];exact wpAny_pure (hend _ h)
 | x::rest,b,h=>by
  rw[List.forIn_cons];refine wpAny_bind (wpAny_mono (hstep x rest b h) (λr s' h'=>?_) λ_ _ e=>e);obtain⟨es,h'⟩:=h';rw[es];cases r with
  | done b'=>exact wpAny_pure h'
  | yield b'=>exact zik f I hstep hend rest b' h'
theorem znl {a b:Int}{t u:Tok}{o:Bool}{Q:Bool->Shared->Prop}(h:Q (decide (a<b)) s):wpAny (model prog w) A (oneLt' o (.int a t) (.int b u)) Q E s:=by
 cases o with
 | true=>exact oneLt_int h
 | false=>
  rw[oneLt'_eq];simp only[Xz,if_false];refine wpAny_bind (wpAny_lt_int (Q:=λr s'=>wpAny (model prog w) A (truthOfDropped r) Q E s') ?_);exact wpAny_truthy_bool h
theorem znm {k:Bool}{x y:Value}{ns ms:List Int}{Q:Bool->Shared->Prop}(hx:TupAt s.heap x ns)(hy:TupAt s.heap y ms)(h:Q (ltI ns ms) s):wpAny (model prog w) A (keyLt' (tuples' k) x y) Q E s:=by
 obtain⟨a,o,vs,n,rfl,e,_,d,i⟩:=hx;obtain⟨b,o2,ws,n2,rfl,e2,_,d2,i2⟩:=hy;refine wpAny_bind (listItems_at e d (wpAny_bind (listItems_at e2 d2 ?_)));refine wpAny_bind (zik _ (I:=λl c=>c=(none,PUnit.unit)/\∃vs' ws' ns' ms' j,l=(vs'.zip ws').zipIdx j/\IntsAre vs' ns'/\IntsAre ws' ms'/\ltI ns ms=ltI ns' ms'/\ns'.length+ms.length=ms'.length+ns.length) ?step ?fin _ _ ⟨rfl,vs,ws,ns,ms,0,rfl,i,i2,rfl,by lia⟩)
 case fin=>
  rintro c ⟨rfl,vs',ws',ns',ms',j,hl,i3,i4,h1,h2⟩;dsimp only;have hz:ns'.zip ms'=[]:=by
   have q:(vs'.zip ws').length=0:=by have:=congrArg List.length hl;simpa using this.symm
   rw[List.length_zip]at q;have l3:=i3.nums;have l4:=i4.nums;have l3:=congrArg List.length l3;have l4:=congrArg List.length l4;rw[Xc]at l3 l4;refine XI.mp ?_;rw[List.length_zip,<- l3,<- l4];exact q
  rw[h1,zra _ _ hz]at h;have l1:=congrArg List.length i.nums;have l2:=congrArg List.length i2.nums;rw[Xc]at l1 l2;have hd:decide (ns'.length<ms'.length)=decide (vs.toArray.size<ws.toArray.size):=by
   rw[Xq,Xq,l1,l2];by_cases q:ns'.length<ms'.length
   ·rw[decide_eq_true q,decide_eq_true (by lia)]
   ·rw[decide_eq_false q,decide_eq_false (by lia)]
  rw[hd]at h;exact wpAny_pure h
 case step=>
  rintro⟨⟨p,q⟩,j0⟩ rest c ⟨rfl,vs',ws',ns',ms',j,hl,i3,i4,h1,h2⟩;cases i3 with
  | nil=>simp at hl
  | @cons n1 t1 vs1 ns1 i3=>
   cases i4 with
   | nil=>simp at hl
   | @cons m1 u1 ws1 ms1 i4=>
    rw[List.zip_cons_cons,List.zipIdx_cons]at hl;obtain⟨hl1,hl2⟩:=List.cons.inj hl;cases hl1;dsimp only;refine wpAny_bind (wpAny_eqBool_int ?_);by_cases e3:n1=m1
    ·subst e3;rw[if_neg (by simp)];refine wpAny_pure ⟨rfl,rfl,vs1,ws1,ns1,ms1,_,hl2,i3,i4,?_,?_⟩
     ·rw[h1,ltI,if_pos rfl]
     ·rw[Ya,Ya]at h2;lia
    ·rw[if_pos (by simpa using e3)];refine wpAny_bind (znl ?_);refine wpAny_pure ⟨rfl,?_⟩;dsimp only;rw[h1,ltI,if_neg e3]at h;exact wpAny_pure h
theorem zrb (k:Bool):Cmp prog w A E s (tuples' k) (λx=>∃ns,TupAt s.heap x.1 ns) (λx y=>ltI (gOf s.heap x.1) (gOf s.heap y.1)) where
 run {x y Q st} hx hy hk h:=by
  obtain⟨ns,hx⟩:=hx;obtain⟨ms,hy⟩:=hy;rw[zko hx,zko hy]at h;rw[lt'_eq];refine wpS_bind (wpS_get ?_);rw[hk];refine wpS_bind (wpS_lift (wpAny_attempt (znm hx hy ⟨rfl,?_⟩)));exact wpS_pure h
end
theorem zeb {x y z:List Int}(h1:ltI y x=false)(h2:ltI z y=false):ltI z x=false:=by
 cases h:ltI z x with
 | false=>rfl
 | true=>
  cases h3:ltI x y with
  | true=>rw[zea _ _ _ h h3]at h2;cases h2
  | false=>rw[zfF _ _ h3 h1]at h;rw[h]at h2;cases h2
theorem zrc (h:Heap):Tot (λx y=>ltI (gOf h x.1) (gOf h y.1)) (λx=>∃ns,TupAt h x.1 ns) where
 asym x y _ _ e:=zdZ _ _ e
 tr x y z _ _ _ h1 h2:=zeb h1 h2
theorem zil {α β:Type}{φ:α->β}{l m:List β}(h:l.Perm m):∀us:List α,m=us.map φ->∃us':List α,us'.Perm us/\l=us'.map φ:=by
 induction h with
 | nil=>intro us e;exact⟨us,.refl _,by rw[<- e]⟩
 | @cons x l1 l2 hp ih=>
  intro us e;cases us with
  | nil=>cases e
  | cons u us=>
   rw[Xy]at e;have e1:=(List.cons.inj e).1;have e2:=(List.cons.inj e).2;obtain⟨us',h1,h2⟩:=ih us e2;exact⟨u::us',h1.cons u,by rw[Xy,h2,e1]⟩
 | @swap x y l1=>
  intro us e
  match us,e with
  | u::v::us,e=>
   rw[Xy,Xy]at e;have e1:=(List.cons.inj e).1;have e2:=(List.cons.inj (List.cons.inj e).2).1;have e3:=(List.cons.inj (List.cons.inj e).2).2;exact⟨v::u::us,.swap _ _ _,by rw[Xy,Xy,e1,e2,e3]⟩
 | trans _ _ ih1 ih2=>
  intro us e;obtain⟨u2,h1,h2⟩:=ih2 us e;obtain⟨u3,h3,h4⟩:=ih1 u2 h2;exact⟨u3,h3.trans h1,h4⟩
section
variable {prog:Program}{w:World}{M:Model}{A:Around}{E:Value->Shared->Prop}{s:Shared}
theorem zkp {α β:Type}{g:α->Sem β}{φ:α->β}:∀(vs:List α){Q:List β->Shared->Prop},(∀v∈vs,∀ {Q':β->Shared->Prop},Q' (φ v) s->wpAny M A (g v) Q' E s)->Q (vs.map φ) s->wpAny M A (vs.mapM g) Q E s
 | [],Q,_,h=>by rw[List.mapM_nil];exact wpAny_pure h
 | v::vs,Q,hg,h=>by
  rw[List.mapM_cons];refine wpAny_bind (hg v Xj (wpAny_bind (zkp vs (λu hu=>hg u (Xg _ hu)) (wpAny_pure ?_))));exact h
theorem znn {α β:Type}{g:α->Sem β}{φ:α->β}(vs:List α){Q:Array β->Shared->Prop}(hg:∀v∈vs,∀ {Q':β->Shared->Prop},Q' (φ v) s->wpAny M A (g v) Q' E s)(h:Q (vs.map φ).toArray s):wpAny M A (vs.toArray.mapM g) Q E s:=by
 rw[List.mapM_toArray,map_eq_pure_bind];exact wpAny_bind (zkp vs hg (wpAny_pure h))
noncomputable def zgd (h:Heap)(v:Value):Option Value:=match v with
 | .ref a=>match h.get? a with
  | some o=>match o.data with
   | .seq xs _=>xs[0]?
   | _=>none
  | none=>none
 | _=>none
theorem zkq {v:Value}{ns:List Int}(hv:TupAt s.heap v ns)(hn:ns≠[]):(∃n t,zgd s.heap v=some (.int n t))/\∀ {Q:Option Value->Shared->Prop},Q (zgd s.heap v) s->wpAny M A (firstOfTuple' v) Q E s:=by
 obtain⟨a,o,vs,n,rfl,e,c,d,i⟩:=hv;have hf:zgd s.heap (.ref a)=vs.toArray[0]?:=by unfold zgd;dsimp only;rw[e];dsimp only;rw[d]
 refine⟨?_,λ{Q} h=>?_⟩
 ·rw[hf];cases i with
  | nil=>exact absurd rfl hn
  | cons n t i=>exact⟨n,t,rfl⟩
 ·refine wpAny_bind (wpAny_typeOf (T:="tuple") ⟨o,e,c⟩ ?_);rw[if_neg (by decide)];refine wpAny_bind (listItems_at e d (wpAny_pure ?_));rw[<- hf];exact h
theorem zoM {vs:List Value}{Q:SortKind->Shared->Prop}(hv:∀v∈vs,∃ns,TupAt s.heap v ns/\ns≠[])(h1:vs≠[])(h:Q (tuples' true) s):wpAny M A (keyKind' vs.toArray) Q E s:=by
 rw[keyKind'_eq];have hi:∀v∈vs,∃n t,zgd s.heap v=some (.int n t):=λv hm=>by
  obtain⟨ns,z1,z2⟩:=hv v hm;exact(zkq (M:=M) (A:=A) (E:=E) z1 z2).1
 refine wpAny_bind (znn (φ:=zgd s.heap) vs (λv hm {Q'} q=>?_) ?_)
 ·obtain⟨ns,z1,z2⟩:=hv v hm;exact(zkq z1 z2).2 q
 have ha:((vs.map (zgd s.heap)).toArray.all λx=>x.isSome)=true:=by
  rw[List.all_toArray,List.all_map,XV];intro v hm;obtain⟨n,t,e⟩:=hi v hm;show(zgd s.heap v).isSome=true;rw[e];rfl
 rw[if_pos ha];have hx:∃us:List Value,(vs.map (zgd s.heap)).filterMap id=us/\us≠[]/\∀u∈us,∃n t,u=Value.int n t:=by
  refine⟨_,rfl,?_,λu hu=>?_⟩
  ·cases vs with
   | nil=>exact absurd rfl h1
   | cons v vs=>
    obtain⟨n,t,e⟩:=hi v Xj;rw[Xy,e];simp
  ·rw[List.mem_filterMap]at hu;obtain⟨o,ho,e⟩:=hu;obtain⟨v,hm,rfl⟩:=Xt.mp ho;obtain⟨n,t,e2⟩:=hi v hm;have e:zgd s.heap v=some u:=e;rw[e2]at e;exact⟨n,t,(Option.some.inj e).symm⟩
 obtain⟨us,e1,e2,e3⟩:=hx;refine wpAny_bind (wpAny_rule ?_);rw[List.filterMap_toArray,e1,oneTypeOnly'_eq,List.mapM_toArray,mapM_typeOf_ints (intsAre_map us e3)];simp only[map_pure,pure_bind];cases us with
 | nil=>exact absurd rfl e2
 | cons u us=>
  have h0:(XT (λ_=>Value.type "int") (u::us)).toArray[0]? = some (Value.type "int"):=rfl;have hall:((XT (λ_=>Value.type "int") (u::us)).toArray.all λx=>x == Value.type "int")=true:=by
   rw[List.all_toArray,List.all_map,XV];intro _ _;rfl
  rw[h0];simp only[hall,if_true,pure_bind];exact wpAny_pure h
noncomputable abbrev refsOf (us:List (Addr×List Int)):List Value:=us.map λu=>Value.ref u.1
theorem zec:∀us:List (Addr×List Int),(refsOf us).zip (refsOf us)=us.map λu=>(Value.ref u.1,Value.ref u.1)
 | []=>rfl
 | u::us=>by show(_,_)::(refsOf us).zip (refsOf us)=_;rw[zec us];rfl
theorem zed {a:Addr}{us:List (Addr×List Int)}{n:Nat}{P:Fin->Shared->Prop}(ho:s.heap.get? a=some (seqObj "list" (refsOf us).toArray n)) (hT:∀u∈us,TupAt s.heap (.ref u.1) u.2/\u.2≠[]) (hsz:us.length<=sizeLine)
  (h:∀us',us'.Perm us->(us'.map (·.2)).Pairwise (λx y=>ltI y x=false)->P (.done (.ret .none)) { s with heap:=sortedHeap s.heap a (refsOf us) (refsOf us').toArray }) :
  wpAny (model prog w) A (Builtin.«list.sort» ⟨[.ref a],[]⟩) P E s:=by
 rw[list_sort_plain];have ha:a<s.heap.objs.size:=XA ho;refine wpAny_bind (listItems_at ho rfl (wpAny_bind (listUpdate_at ho rfl ?_ (hsz:=by rw[Xq,Xc];exact hsz) (hsz2:=XU _))));obtain⟨e1,ho1⟩:∃e1,(s.heap.update a (Obj.mapSeq λ_=>#[])).get? a=some (seqObj "list" #[] e1):=⟨_,get?_update_seq ho (λ_=>#[])⟩;refine wpAny_bind (seqEpoch_at ho1 rfl (wpAny_bind (wpAny_newTuple (wpAny_bind (wpAny_newList (wpAny_holding ?_))))));obtain⟨h6,eh⟩:∃h6,h6=(((s.heap.update a (Obj.mapSeq λ_=>#[])).push (seqObj "tuple" (refsOf us).toArray 0)).push (seqObj "list" #[] 0)):=⟨_,rfl⟩;have kp:∀b,b<s.heap.objs.size->h6.get? b=(s.heap.update a (Obj.mapSeq λ_=>#[])).get? b:=λb hb=>by
  rw[eh,Heap.get?_push_ne _ _ _ (by rw[size_push',Heap.size_update];exact XJ (YN hb)),Heap.get?_push_ne _ _ _ (by rw[Heap.size_update];exact XJ hb)]
 have ho6:h6.get? a=some (seqObj "list" #[] e1):=by rw[kp a ha];exact ho1
 have hT6:∀u∈us,TupAt h6 (.ref u.1) u.2:=λu hu=>by
  obtain⟨b,o,vs,m,e,hb,c,d,i⟩:=(hT u hu).1;cases e;have hne:u.1≠a:=λz=>by rw[z,ho]at hb;cases hb;injection c with c;exact absurd c (by decide)
  refine⟨u.1,o,vs,m,rfl,?_,c,d,i⟩;rw[kp u.1 (XA hb),Yj _ _ (Ne.symm hne)];exact hb
 show wpAny (model prog w) A _ P E { s with heap:=(((s.heap.update a (Obj.mapSeq λ_=>#[])).push (seqObj "tuple" (refsOf us).toArray 0)).push (seqObj "list" #[] 0)) };have hfin:∀us':List (Addr×List Int),us'.Perm us->(us'.map (·.2)).Pairwise (λx y=>ltI y x=false)->P (.done (.ret .none)) { s with heap:=h6.update a (Obj.mapSeq λ_=>(refsOf us').toArray) }:=by
  rw[eh];exact h
 rw[<- eh];dsimp only;by_cases h2:(refsOf us).toArray.size<2
 ·rw[if_pos h2,if_pos h2];refine wpAny_bind (wpAny_pure ?_);rw[StateT.run_pure];refine wpAny_bind (wpAny_pure (wpAny_bind (seqEpoch_at ho6 rfl (wpAny_bind (listUpdate_at ho6 rfl ?_ (hsz:=XU _) (hsz2:=?_))))))
  ·simp only[bne_self_eq_false,Xz,if_false];have e2:Array.map (λx=>x.2) (arrOf (SortSt.mk' general' ((refsOf us).toArray.zip (refsOf us).toArray) #[] 7 none))=(refsOf us).toArray:=by
    show Array.map (λx=>x.2) ((refsOf us).toArray.zip (refsOf us).toArray)=_;rw[List.zip_toArray,zec,List.map_toArray,Ym];rfl
   refine wpAny_pure ?_;have q:=hfin us (.refl _) (by
    rw[Xq,Xc]at h2
    match us,h2 with
    | [],_=>exact List.Pairwise.nil
    | [u],_=>simp)
   rw[<- e2]at q;exact q
  ·rw[Array.size_map];show((refsOf us).toArray.zip (refsOf us).toArray).size<=_;rw[List.zip_toArray,Xq,zec,Xc];lia
 ·rw[if_neg h2,if_neg h2];have hpos:us≠[]:=λz=>by subst z;exact h2 (by decide)
  refine wpAny_bind (zoM (s:={ s with heap:=h6 }) (λv hv=>?_) (λz=>hpos (List.map_eq_nil_iff.mp z)) ?_)
  ·obtain⟨u,hu,rfl⟩:=Xt.mp hv;exact⟨u.2,hT6 u hu,(hT u hu).2⟩
  have hW:=ztm (prog:=prog) (w:=w) (A:=A) (E:=E) (s:={ s with heap:=h6 }) (zrb (s:={ s with heap:=h6 }) true) (zrc h6) (st:=SortSt.mk' (tuples' true) ((refsOf us).toArray.zip (refsOf us).toArray) #[] 7 none)
   (Q:=λ_ st'=>(arrOf st').Perm ((refsOf us).toArray.zip (refsOf us).toArray)/\failedOf st'=none/\(arrOf st').toList.Pairwise (Le λx y=>ltI (gOf h6 x.1) (gOf h6 y.1))) rfl rfl rfl (λj x hx=>?_) (λst' a1 a2 a3=>⟨a1,a2,a3⟩)
  ·refine wpAny_bind (wpAny_mono hW ?_ λ_ _ e=>e);rintro⟨⟨⟩,st'⟩ s' ⟨rfl,hp,hf,hs⟩;dsimp only;have hpl:(arrOf st').toList.Perm (us.map λu=>(Value.ref u.1,Value.ref u.1)):=by
    have q:=Array.perm_iff_toList_perm.mp hp;rw[List.zip_toArray,zec]at q;exact q
   obtain⟨us',p1,p2⟩:=zil hpl us rfl;have e2:Array.map (λx=>x.2) (arrOf st')=(refsOf us').toArray:=by
    have e3:arrOf st'=(us'.map λu=>(Value.ref u.1,Value.ref u.1)).toArray:=by rw[<- p2,Array.toArray_toList]
    rw[e3,List.map_toArray,Ym];rfl
   refine wpAny_bind (seqEpoch_at ho6 rfl (wpAny_bind (listUpdate_at ho6 rfl ?_ (hsz:=XU _) (hsz2:=?_))))
   ·rw[hf];simp only[bne_self_eq_false,Xz,if_false];refine wpAny_pure ?_;have q:=hfin us' p1 (by
     rw[p2,List.pairwise_map]at hs;rw[List.pairwise_map];refine hs.imp_of_mem λ{x y} hx hy z=>?_;have z:ltI (gOf h6 (.ref y.1)) (gOf h6 (.ref x.1))=false:=z;rw[zko (hT6 y (p1.mem_iff.mp hy)),zko (hT6 x (p1.mem_iff.mp hx))]at z;exact z)
    rw[<- e2]at q;exact q
   ·show(Array.map (λx=>x.2) (arrOf st')).size<=_;rw[e2,Xq,Xc,p1.length_eq];lia
  ·have hm:x∈(us.map λu=>(Value.ref u.1,Value.ref u.1)):=by
    have hx:((refsOf us).toArray.zip (refsOf us).toArray)[j]? = some x:=hx;rw[List.zip_toArray,zec,List.getElem?_toArray]at hx;exact Xn hx
   obtain⟨u,hu,rfl⟩:=Xt.mp hm;exact⟨u.2,hT6 u hu⟩
theorem zjp {l:Addr}{us:List (Addr×List Int)}{Q:Value->Shared->Prop}(hl:s.heap.IsList l (refsOf us).toArray)(hT:∀u∈us,TupAt s.heap (.ref u.1) u.2/\u.2≠[])(hsz:us.length<=sizeLine)
  (h:∀us',us'.Perm us->(us'.map (·.2)).Pairwise (λx y=>ltI y x=false)->Q (.ref (s.heap.objs.size+1)) { s with heap:=sortedAll s.heap (refsOf us) (refsOf us').toArray }) :
  wpAny (model prog w) A (call (.builtin "sorted") [.ref l]) Q E s:=by
 refine Calls.call_function_entry kind_sorted plain_sorted entry_sorted (args_sorted1 _) ?_;unfold Builtin.«sorted»;refine wpAny_bind (m:=checkCount "sorted" 1 1 _) (wpAny_pure (wpAny_bind (collect_list hl (wpAny_bind (wpAny_newList ?_)) (hsz:=by rw[Xc];exact hsz))));obtain⟨h5,eh⟩:∃h5,h5=(s.heap.push (seqObj "list" #[] 0)).update s.heap.objs.size (Obj.mapSeq (·++(refsOf us).toArray)):=⟨_,rfl⟩;have hz:h5.objs.size=s.heap.objs.size+1:=by rw[eh,Heap.size_update,size_push']
 have hoL:(h5.push (seqObj "list" (refsOf us).toArray 0)).get? (s.heap.objs.size+1)=some (seqObj "list" (refsOf us).toArray 0):=by rw[<- hz];exact XC _ rfl
 have kp:∀b o,s.heap.get? b=some o->(h5.push (seqObj "list" (refsOf us).toArray 0)).get? b=some o:=λb o e=>by
  have hb:=XA e;rw[Heap.get?_push_ne _ _ _ (by rw[hz];exact XJ (YN hb)),eh,Yj _ _ (Nat.ne_of_gt hb),Heap.get?_push_ne _ _ _ (XJ hb)];exact e
 have hfin:∀us',us'.Perm us->(us'.map (·.2)).Pairwise (λx y=>ltI y x=false)->Q (.ref (s.heap.objs.size+1)) { s with heap:=sortedHeap (h5.push (seqObj "list" (refsOf us).toArray 0)) (s.heap.objs.size+1) (refsOf us) (refsOf us').toArray }:=by
  rw[eh];exact h
 show wpAny _ _ _ _ _ { s with heap:=((s.heap.push (seqObj "list" #[] 0)).update s.heap.objs.size (Obj.mapSeq (·++(refsOf us).toArray))).push (seqObj "list" (refsOf us).toArray 0) };rw[<- eh,hz];refine wpAny_bind (wpAny_holding (wpAny_call_entry slot_list_sort ⟨_,hoL,rfl⟩ entry_list_sort (zed (s:={ s with heap:=h5.push (seqObj "list" (refsOf us).toArray 0) }) hoL (λu hu=>?_) hsz λus' a1 a2=>⟨_,rfl,?_⟩) (args_list_sort _)))
 ·obtain⟨⟨b,o,vs,m,e,hb,c,d,i⟩,z⟩:=hT u hu;exact⟨⟨b,o,vs,m,e,kp b o hb,c,d,i⟩,z⟩
 ·exact wpAny_pure ⟨_,rfl,hfin us' a1 a2⟩
end
end _S
namespace _L
open PySem PySem.Spec PyProof.Rows
theorem zfG:∀ {us:List (Addr×List Int)}{its:List Value},Vals (us.map λu=>V.ref u.1) its->its=_S.refsOf us
 | [],_,r=>by cases r;rfl
 | u::us,_,r=>by
  cases r with
  | cons r1 r2=>
   have e:_=Value.ref u.1:=r1;rw[e,zfG r2];rfl
theorem zfH:∀(us:List (Addr×List Int)),Vals (us.map λu=>V.ref u.1) (_S.refsOf us)
 | []=>.nil
 | u::us=>.cons rfl (zfH us)
theorem ints_of:∀ {ns:List Int}{its:List Value},Vals (ns.map V.int) its->IntsAre its ns
 | [],_,r=>by cases r;exact .nil
 | n::ns,_,r=>by
  cases r with
  | cons r1 r2=>
   obtain⟨t,rfl⟩:=(show ∃t,_=Value.int n t from r1);exact .cons n t (ints_of r2)
noncomputable def zjq (v d:Addr):HO:=.ext λh=>PySem.W.KdlKeysView h v d
section
variable {X:Cx}
theorem zlk:zcr X (.builtin "sorted") (λxs H Q=>∃(p:Addr) (us:List (Addr×List Int)),xs=[.ref p]/\SqL X.K H p (us.map λu=>V.ref u.1)/\(∀u∈us,SqT X.K H u.1 (u.2.map V.int)/\u.2≠[])/\
  ∀(l:Addr) (us':List (Addr×List Int)),H l=none->us'.Perm us->(us'.map (·.2)).Pairwise (λx y=>_S.ltI y x=false)->Q (.ref l) (upd H l (.lst (us'.map λu=>V.ref u.1)))):=by
 intro pins s σ H xs us Q I r h;obtain⟨p,us,rfl,hp,hT,q⟩:=h;obtain⟨u,rfl,rx⟩:=vals1 r;cases rx;obtain⟨its,r,ht,hz⟩:=I.list hp;have ei:=zfG r;subst ei;rw[Xc]at hz;refine _S.zjp ht.isList (λu hu=>?_) (by omega) λus' a1 a2=>?_
 ·obtain⟨h1,h2⟩:=hT u hu;obtain⟨its2,rv,⟨o,ho,hc,n,hd⟩,_⟩:=I.tuple h1;exact⟨⟨u.1,o,its2,n,rfl,ho,hc,hd,ints_of rv⟩,h2⟩
 ·obtain⟨e,he⟩:=sortedAll_at s.heap (_S.refsOf us) (_S.refsOf us').toArray;have kp:∀b o,s.heap.get? b=some o->(sortedAll s.heap (_S.refsOf us) (_S.refsOf us').toArray).get? b=some o:=λ_ _=>sortedAll_old;refine⟨.ref (s.heap.objs.size+1),_,I.laid (t':=s.toks) (o:=.lst (us'.map λu=>V.ref u.1)) kp (Nat.le_succ _) ?_,rfl,q _ us' (I.hok.fresh (Nat.le_succ _)) a1 a2⟩;exact⟨by rw[Xc,a1.length_eq];exact hz,_S.refsOf us',e,zfH us',he⟩
theorem zrd:MtR X "dict.keys" (λx xs H Q=>∃(d:Addr) (kvs:List (Key×V)),x=.ref d/\xs=[]/\Rd H d (.dK kvs)/\∀v,H v=none->Q (.ref v) (upd H v (zjq v d))):=by
 intro pins s σ H x xs v us Q I rx rv h;obtain⟨d,kvs,rfl,rfl,hq,q⟩:=h;cases rx;cases rv;obtain⟨z,lo,vs,rel,dd⟩:=zfZ I.hok hq;refine call_meetsIn PySem.F.slot_dict_keys dd.typeIs PySem.F.entry_dict_keys (PySem.F.args_dict_keys_1 _) (PySem.W.kdl_meets_keys (zaD X.prog X.w) d lo) ⟨⟨vs,dd⟩,?_⟩;refine⟨.ref s.heap.objs.size,_,I.laid (t':=s.toks) (o:=zjq s.heap.objs.size d) (λb o e=>Xh _ e) (Xf _) ?_,rfl,q _ I.fresh⟩;exact⟨⟨_,XC _ rfl,rfl,rfl⟩,⟨_,XC _ rfl⟩,λh1 h2 q141q k=>by obtain⟨o,e,c⟩:=q141q;exact⟨o,k o e,c⟩⟩
end
end _L
namespace _P
open PySem PySem.Spec _L
open PyProof.Rows hiding St
open _S (ltI zdZ zfF zea zeb)
section
variable {X:Cx}
theorem zhf (hc:X.calm=true):zcr X (.builtin "sorted") (λxs H Q=>∃(v d:Addr) (kvs:List (Key×V)) (ss:List Str),xs=[.ref v]/\H v=some (zjq v d)/\Rd H d (.dK kvs)/\kvs.map (·.1)=ss.map Sum.inr/\ss.length<64/\∀(l:Addr) (zs:List Str),H l=none->zs.Perm ss->sortedS zs=true->Q (.ref l) (upd H l (.lst (zs.map V.str)))):=by
 intro pins s σ H xs us Q I r h;obtain⟨v,d,kvs,ss,rfl,hv,hq,hk,h64,q⟩:=h;obtain⟨u,rfl,rx⟩:=vals1 r;cases rx;obtain⟨hS,_,_⟩:=(show zbi X.prog X.w H s.heap v (zjq v d) from I.hok v _ hv);obtain⟨z,lo,vs,rel,dd⟩:=zfZ I.hok hq;obtain⟨ep,hat⟩:=dd.dictAt;have hlen:kvs.length=vs.length:=KV.length rel;have hks:kvs.length=ss.length:=by have:=congrArg List.length hk;simpa using this
 refine Calls.call_function_entry kind_sorted plain_sorted entry_sorted (args_sorted1 _) ?_;unfold Builtin.«sorted»;refine wpAny_bind (m:=checkCount "sorted" 1 1 _) (wpAny_pure ?_);refine wpAny_bind (PySem.W.kdu_collect (A:=X.A.in1) (PySem.W.kdl_keys (knd:=zaD X.prog X.w) (kvs:=vs) (ep:=ep)) (I.ok.hd hc) ⟨hS,hat⟩ (by rw[sizeLine_eq];lia) λh1 tk acc kp hacc=>?_);have hst:StrsAre acc.toList ss:=by
  obtain⟨hs,hv⟩:=hacc;have key:∀(l:List Value) (ss:List Str) (n:Nat),l.length=ss.length->(∀(j:Nat) v,l[j]? = some v->∃(x:Str) (t:Tok),ss[j]? = some x/\v=Value.str x t)->StrsAre l ss:=by
   intro l;induction l with
   | nil=>intro ss n hl _;cases ss with
    | nil=>exact .nil
    | cons _ _=>simp at hl
   | cons y l ih=>intro ss n hl hh;cases ss with
    | nil=>simp at hl
    | cons x ss=>
     obtain⟨x',t,e1,e2⟩:=hh 0 y rfl;cases e1;rw[e2];exact .cons x t (ih ss n (by simpa using hl) λj v hj=>hh (j+1) v (by simpa using hj))
  refine key acc.toList ss 0 (by rw[Xv,hs];lia) λj u hu=>?_;obtain⟨k,x,hx,hk2⟩:=hv j u (by rw[<- Xu];exact hu);have hj:j<kvs.length:=by have:=(Xe.mp hx).1;lia
  have hkj:kvs[j]? = some kvs[j]:=Xa hj;obtain⟨u2,hu2,_⟩:=zpx rel hkj;rw[hx]at hu2;have ek:k=kvs[j].1:=by cases hu2;rfl
  have es:(kvs.map (·.1))[j]? = (ss.map Sum.inr)[j]?:=by rw[hk]
  rw[Xd,Xd,hkj]at es;have hjs:j<ss.length:=by lia
  rw[Xa hjs]at es;have es:kvs[j].1=Sum.inr ss[j]:=Option.some.inj es;rw[ek,es]at hk2;obtain⟨t,e⟩:=Value.isStrOf_shape (show Value.isStrOf ss[j] u=true from hk2);exact⟨ss[j],t,Xa hjs,e⟩
 have hl64:acc.toList.length<64:=by rw[StrsAre.length hst];exact h64
 refine _J.zjP (s:={ s with heap:=h1,toks:=tk }) hst hl64 λh' out zs e a1 a2 a3 kp' he=>?_;have I1:Inv X pins σ H { s with heap:=h1,toks:=tk }:=I.kept (t':=tk) kp;have hl2:zs.length=ss.length:=a2.length_eq;refine⟨.ref h1.objs.size,_,I1.laid (h':=h') (t':=tk) (o:=.lst (zs.map V.str)) kp' (Xf _) ?_,rfl,q _ zs (I1.hok.fresh (Xf _)) a2 a3⟩;exact⟨by rw[Xc,sizeLine_eq];lia,out,e,zhG a1,he⟩
end
noncomputable def sortI (ss:List (List Int)):List (List Int):=ss.mergeSort λa b=>!ltI b a
theorem sortI_perm (ss:List (List Int)):(sortI ss).Perm ss:=List.mergeSort_perm ss _
theorem zkr (ss:List (List Int)):(sortI ss).Pairwise (λx y=>ltI y x=false):=by
 have h:=List.pairwise_mergeSort (le:=λa b:List Int=>!ltI b a) (λa b c h1 h2=>by
  simp only[Bool.not_eq_true']at h1 h2 ⊢;exact zeb h1 h2) (λa b=>by
  cases h:ltI b a with
  | false=>rfl
  | true=>rw[zdZ _ _ h];rfl) ss
 exact h.imp λ{a b} z=>by simpa using z
theorem zee:∀ {l m:List (List Int)},l.Perm m->l.Pairwise (λx y=>ltI y x=false)->m.Pairwise (λx y=>ltI y x=false)->l=m
 | [],m,h,_,_=>(List.nil_perm.mp h).symm
 | a::l,[],h,_,_=>absurd h.length_eq (by simp)
 | a::l,b::m,h,h1,h2=>by
  have e:a=b:=by
   rcases Xx.mp (h.mem_iff.mp Xj)with z | z
   ·exact z
   ·rcases Xx.mp (h.symm.mem_iff.mp (Xj (a:=b) (l:=m)))with y | y
    ·exact y.symm
    ·exact zfF _ _ ((List.pairwise_cons.mp h2).1 a z) ((List.pairwise_cons.mp h1).1 b y)
  subst e;rw[zee ((List.perm_cons a).mp h) (List.pairwise_cons.mp h1).2 (List.pairwise_cons.mp h2).2]
theorem zks {zs ss:List (List Int)}(h:zs.Perm ss)(hp:zs.Pairwise (λx y=>ltI y x=false)):zs=sortI ss:=zee (h.trans (sortI_perm ss).symm) hp (zkr ss)
theorem zkt {K:Xb}{Fz:FZ}{H:Hp}:∀ {ss:List Int}{xs:List V},DenL K Fz H (ss.map PV.int) xs->xs=ss.map V.int
 | [],xs,h=>by rw[List.map_nil]at h;simp only[DenL]at h;exact h
 | s::r,xs,h=>by
  rw[Xy]at h;simp only[DenL]at h;obtain⟨v,t,z,h1,h2⟩:=h;simp only[Den]at h1;subst z h1;rw[Xy,zkt h2]
theorem zku {K:Xb}{Fz:FZ}{H:Hp}:∀(ss:List Int),DenL K Fz H (ss.map PV.int) (ss.map V.int)
 | []=>DenL.nil
 | s::r=>by rw[Xy,Xy];exact DenL.cons (by simp only[Den]) (zku r)
theorem zfI {K:Xb}{Fz:FZ}{H:Hp}:∀ {ss:List (List Int)}{xs:List V},DenL K Fz H (ss.map λr=>PV.tup (r.map PV.int)) xs->∃us:List (Addr×List Int),xs=us.map (λu=>V.ref u.1)/\us.map (·.2)=ss/\∀u∈us,H u.1=some (.tup (u.2.map V.int))
 | [],xs,h=>by rw[List.map_nil]at h;simp only[DenL]at h;exact⟨[],h,rfl,λu hu=>by cases hu⟩
 | s::r,xs,h=>by
  rw[Xy]at h;simp only[DenL]at h;obtain⟨v,t,z,h1,h2⟩:=h;simp only[Den]at h1;obtain⟨p,ys,e1,e2,e3⟩:=h1;have e4:=zkt e3;subst e4;obtain⟨us,g1,g2,g3⟩:=zfI h2;refine⟨(p,s)::us,by rw[z,e1,g1];rfl,by rw[Xy,g2],λu hu=>?_⟩;rcases Xx.mp hu with rfl | hu
  ·exact e2
  ·exact g3 u hu
theorem zfJ {K:Xb}{Fz:FZ}{H:Hp}:∀(us:List (Addr×List Int)),(∀u∈us,H u.1=some (.tup (u.2.map V.int)))->DenL K Fz H ((us.map (·.2)).map λr=>PV.tup (r.map PV.int)) (us.map λu=>V.ref u.1)
 | [],_=>DenL.nil
 | u::us,h=>by
  rw[Xy,Xy,Xy];refine DenL.cons ?_ (zfJ us λv hv=>h v (Xg _ hv));simp only[Den];exact⟨u.1,_,rfl,h u Xj,zku u.2⟩
noncomputable def zgr:PF:=λds Q=>∃ss:List (List Int),ds=[.lst (ss.map λr=>PV.tup (r.map PV.int))]/\(∀r∈ss,r≠[])/\Q (.lst ((sortI ss).map λr=>PV.tup (r.map PV.int))) .new
theorem zoN {X:Cx}:zeq X.K (λxs H Q=>∃(p:Addr)(us:List (Addr×List Int)),xs=[.ref p]/\SqL X.K H p (us.map λu=>V.ref u.1)/\(∀u∈us,SqT X.K H u.1 (u.2.map V.int)/\u.2≠[])/\
  ∀(l:Addr) (us':List (Addr×List Int)),H l=none->us'.Perm us->(us'.map (·.2)).Pairwise (λx y=>_S.ltI y x=false)->Q (.ref l) (upd H l (.lst (us'.map λu=>V.ref u.1)))) zgr where
 mono ds Q Q' m h:=by obtain⟨ss,e1,e2,q⟩:=h;exact⟨ss,e1,e2,m _ _ q⟩
 run Fz H ds vs Q al r h:=by
  obtain⟨ss,rfl,e2,q⟩:=h;obtain⟨v,rfl,rv⟩:=zdo r;obtain⟨a,xs,rfl,h1,h2⟩:=zan rv;obtain⟨us,rfl,g2,g3⟩:=zfI h2;refine⟨a,us,rfl,h1,λu hu=>⟨SqT.of (g3 u hu),e2 _ (by rw[<- g2];exact Xt.mpr ⟨u,hu,rfl⟩)⟩,λl us' hl hz hs=>?_⟩;have ez:us'.map (·.2)=sortI ss:=zks (by rw[<- g2];exact hz.map _) hs;have hd:DenL X.K Fz H ((us'.map (·.2)).map λr=>PV.tup (r.map PV.int)) (us'.map λu=>V.ref u.1):=zfJ us' λu hu=>g3 u (hz.mem_iff.mp hu);rw[ez]at hd;exact q _ Fz _ (.newL al hl hd)
section
variable {X:Cx}{e:Expr}{es:List Expr}{te:TPE}{t:TPA}{x:Str}{p p1 p2 q1 pos pos2 apos cpos:Pos}
theorem zfc (hg:Gl X "sorted") (hm:X.mg "sorted" = none) (ha:PuA X (e::es) t) (he:autoParam (starEach (e::es) X.env=(false,eval e X.env)::starEach es X.env) aU0) (hpl:autoParam ((backTo pos (starEach es X.env)).any (·.1)=false) aU0):PuE X (.Call (.Name "sorted" p) (e::es) [] pos) (tB zgr t):=
 zcn zlk zoN hg hm zgP ha (by decide) (by decide) he hpl
noncomputable def zim (i:Nat):TPE:=λρ Q=>∃(ss:List Str)(ds:List PV),ρ[i]? = some (some (.dK (ss.map Sum.inr) ds,true))/\ss.length<64/\∀zs:List Str,zs.Perm ss->sortedS zs=true->Q (.lst (zs.map PV.str)) .new
theorem zjr (i:Nat)(hc:X.calm=true)(hg:Gl X "sorted") (hm:X.mg "sorted" = none) (hN:autoParam (X.N[i]? = some x) aU0) (hv:autoParam (Vis X.env.scope x) aU4) (hd:autoParam ((x == ("__debug__" : Str))=false) aU1) (hcd:autoParam ((x == ("__classdict__" : Str))=false) aU1)
  (hbase:autoParam (attributeBase (.Name x q1) "keys" X.env (eval (.Name x q1) X.env)=eval (.Name x q1) X.env) aU0) (hline:autoParam ((apos.endLine == cpos.line)=true) aU0)
  (hs2:autoParam (starEach [Expr.Call (.Attribute (.Name x q1) "keys" apos) [] [] cpos] X.env=(false,eval (Expr.Call (.Attribute (.Name x q1) "keys" apos) [] [] cpos) X.env)::starEach [] X.env) aU0) (hpl2:autoParam ((backTo pos (starEach [] X.env)).any (·.1)=false) aU0) :
  PuE X (.Call (.Name "sorted" p) [.Call (.Attribute (.Name x q1) "keys" apos) [] [] cpos] [] pos) (zim i) where
 mono ρ Q Q' m h:=by obtain⟨ss,ds,e1,e2,q⟩:=h;exact⟨ss,ds,e1,e2,λzs h1 h2=>m _ _ (q zs h1 h2)⟩
 run:=PE.weak (zeU (zhf hc) hg hm zgP (zca (zsa PySem.F.plainAttrs_dict PySem.F.slot_dict_keys PySem.F.type_dict_keys zrd (zdm hN hv hd hcd) hbase hline) zcF hs2) (by decide) (by decide) hs2 hpl2) λσ H Q h=>by
  obtain⟨ρ,Fz,R,ss,ds,e1,e2,q⟩:=h;obtain⟨a,xs,hs,ha,hl,hdn,nf⟩:=zmJ R e1;refine⟨_,hs,.inr (.inr (.inl ⟨rfl,.inl ⟨_,ha⟩⟩)),a,(ss.map Sum.inr).zip xs,rfl,rfl,.inl ha,λv hv=>?_⟩;have hne:a≠v:=λz=>by subst z;rw[ha]at hv;cases hv
  have x2:Ext Fz H Fz (upd H v (zjq v a)):=Ext.laid ⟨Same.refl _,λ_ h=>h,λ_ h=>.inl h,R.al⟩ hv;refine⟨v,a,(ss.map Sum.inr).zip xs,ss,rfl,zag,.inl (by rw[zaf hne];exact ha),List.map_fst_zip (by lia),e2,λl zs hl hz hs=>?_⟩;have p3:Post X.K [] [] Fz (upd H v (zjq v a)) Fz (upd (upd H v (zjq v a)) l (.lst (zs.map V.str))) (.lst (zs.map PV.str)) .new (.ref l):=Post.newL x2.al hl (zfx zs);exact q zs hz hs _ Fz _ (p3.behind x2)
end
end _P
namespace _J
open PySem
noncomputable abbrev tb (m:Nat):SetTable:={ SetTable.fresh 0 0 true with mask:=m }
noncomputable def pth (m:Nat)(h:Int):Nat->SetTable.Probe
 | 0=>(tb m).probeStart h
 | n+1=>(tb m).advance (pth m h n)
noncomputable def hdP (m:Nat)(h:Int):Nat->Nat×Nat
 | 0=>(SetTable.bits h % (m+1),SetTable.bits h)
 | k+1=>SetTable.leap m (hdP m h k).1 (hdP m h k).2
noncomputable def ixP (m:Nat)(h:Int):Nat->Nat
 | 0=>0
 | k+1=>ixP m h k+(Yo m (hdP m h k).1-(hdP m h k).1)+1
theorem zno (m i:Nat):i<=Yo m i/\Yo m i<=i+9/\(i<=m->Yo m i<=m):=by
 unfold Yo;split<;>lia
theorem znp (m:Nat)(h:Int):∀k,(hdP m h k).1<=m
 | 0=>Nat.le_of_lt_succ (Nat.mod_lt _ (Nat.succ_pos _))
 | k+1=>Nat.le_of_lt_succ (Nat.mod_lt _ (Nat.succ_pos _))
theorem zey (m:Nat)(h:Int):∀k r,r<=Yo m (hdP m h k).1-(hdP m h k).1->
  pth m h (ixP m h k+r)={ j:=(hdP m h k).1+r,more:=Yo m (hdP m h k).1-(hdP m h k).1-r,i:=(hdP m h k).1,perturb:=(hdP m h k).2,dummy:=none }
 | 0,0,_=>rfl
 | k+1,0,_=>by
  have q:=zey m h k _ (Xf _);show(tb m).advance (pth m h (ixP m h k+(Yo m (hdP m h k).1-(hdP m h k).1)))=_;rw[q];unfold SetTable.advance;rw[if_neg (by simp)];rfl
 | k,r+1,hr=>by
  have q:=zey m h k r (by lia);show(tb m).advance (pth m h (ixP m h k+r))=_;rw[q];unfold SetTable.advance;rw[if_pos (show _ > 0 by dsimp only;omega)];rfl
termination_by k r=>(k,r)
theorem zpD (m:Nat)(h:Int):∀k,ixP m h k<=10*k
 | 0=>Xf _
 | k+1=>by
  have:=zpD m h k;have:=zno m (hdP m h k).1;show ixP m h k+_+1<=_;lia
theorem zpE (m:Nat)(h:Int)(n:Nat):∃k r,r<=Yo m (hdP m h k).1-(hdP m h k).1/\n=ixP m h k+r:=by
 induction n with
 | zero=>exact⟨0,0,XU _,rfl⟩
 | succ n ih=>
  obtain⟨k,r,hr,e⟩:=ih;by_cases c:r=Yo m (hdP m h k).1-(hdP m h k).1
  ·exact⟨k+1,0,XU _,by rw[e,c];rfl⟩
  ·exact⟨k,r+1,by lia,by lia⟩
theorem zpF (m:Nat)(h:Int)(n:Nat):(pth m h n).j<=m:=by
 obtain⟨k,r,hr,rfl⟩:=zpE m h n;rw[zey m h k r hr];have:=znp m h k;have:=(zno m (hdP m h k).1).2.2 this;dsimp only;omega
theorem ztn (m:Nat)(h:Int)(n:Nat):(pth m h n).dummy=none:=by
 obtain⟨k,r,hr,rfl⟩:=zpE m h n;rw[zey m h k r hr]
theorem znq (m:Nat)(h:Int):∀k,(hdP m h k).2=SetTable.bits h / 32 ^ k
 | 0=>by show SetTable.bits h=_;simp
 | k+1=>by
  show(hdP m h k).2 / 32=_;rw[znq m h k,Nat.div_div_eq_div_mul,Nat.pow_succ]
theorem zre (h:Int):SetTable.bits h<2 ^ 64:=by
 unfold SetTable.bits;have h1:h % (2 ^ 64:Int)<2 ^ 64:=Yw h (by decide);have h2:0<=h % (2 ^ 64:Int):=Yn h (by decide);lia
noncomputable def lcg (m:Nat):Nat->Nat->Nat
 | 0,i=>i
 | k+1,i=>lcg m k ((i*5+1) % (m+1))
theorem znr (m:Nat)(h:Int):∀k K,13<=K->(hdP m h (K+k)).1=lcg m k (hdP m h K).1
 | 0,K,_=>rfl
 | k+1,K,hK=>by
  have q:=znr m h k (K+1) (by lia);rw[show K+1+k=K+(k+1) by lia]at q;rw[q];show lcg m k (((hdP m h K).1*5+1+(hdP m h K).2 / 32) % (m+1))=lcg m k (((hdP m h K).1*5+1) % (m+1));have z:(hdP m h K).2 / 32=0:=by
   rw[znq];have h1:=zre h;have h2:SetTable.bits h / 32 ^ K=0:=by
    apply Nat.div_eq_of_lt;exact XR h1 (Ye (show 2 ^ 64<=32 ^ 13 by decide) (Nat.pow_le_pow_right (by decide) hK))
   rw[h2]
  rw[z,Nat.add_zero]
noncomputable abbrev okM (m:Nat):Prop:=m=7\/m=31\/m=127
noncomputable def orb (m:Nat):Nat->Nat->List Nat
 | 0,_=>[]
 | n+1,i=>i::orb m n ((i*5+1) % (m+1))
theorem zns (m:Nat):∀(n k i:Nat),k<n->(orb m n i)[k]? = some (lcg m k i)
 | n+1,0,i,_=>rfl
 | n+1,k+1,i,h=>by
  show(orb m n _)[k]? = _;exact zns m n k _ (by lia)
theorem zjs (m:Nat):∀n i,(orb m n i).length=n
 | 0,_=>rfl
 | n+1,i=>by show(orb m n _).length+1=_;rw[zjs]
theorem zhg (m:Nat):∀a b i,lcg m (a+b) i=lcg m b (lcg m a i)
 | 0,b,i=>by rw[Nat.zero_add];rfl
 | a+1,b,i=>by
  rw[show a+1+b=(a+b)+1 by lia];exact zhg m a b _
noncomputable def covB (m:Nat):Bool:=(XZ (m+1)).all (λe=>(orb m (m+1) 0).contains e)&&(orb m (m+2) 0)[m+1]? == some 0
theorem cov7:covB 7=true:=by decide +kernel
theorem zug:covB 31=true:=by decide +kernel
theorem zto:covB 127=true:=by decide +kernel
theorem cov {m:Nat}(hm:okM m){i e:Nat}(hi:i<=m)(he:e<=m):∃k,k<=m/\lcg m k i=e:=by
 have c:covB m=true:=by
  rcases hm with rfl | rfl | rfl
  ·exact cov7
  ·exact zug
  ·exact zto
 unfold covB at c;rw[YF]at c;obtain⟨c1,c2⟩:=c;have at0:∀e,e<=m->∃k,k<=m/\lcg m k 0=e:=λe he=>by
  have h1:=XV.mp c1 e (Yp.mpr (by lia));have h2:e∈orb m (m+1) 0:=by simpa using h1
  obtain⟨k,hk,q⟩:=YH.mp h2;rw[zjs]at hk;have q2:=zns m (m+1) k 0 hk;rw[Xa (by rw[zjs];exact hk),q]at q2;exact⟨k,by lia,(Option.some.inj q2).symm⟩
 have per:lcg m (m+1) 0=0:=by
  have q:=eq_of_beq c2;rw[zns m (m+2) (m+1) 0 (by lia)]at q;exact Option.some.inj q
 obtain⟨x,hx,ex⟩:=at0 i hi;obtain⟨y,hy,ey⟩:=at0 e he;rcases YG y x with z | z
 ·refine⟨m+1-x+y,by lia,?_⟩;rw[<- ex,<- zhg,show x+(m+1-x+y)=(m+1)+y by lia,zhg,per];exact ey
 ·refine⟨y-x,by lia,?_⟩;rw[<- ex,<- zhg,show x+(y-x)=y by lia];exact ey
theorem zpG {m:Nat}(hm:okM m)(h:Int){e:Nat}(he:e<=m):∃k,k<=m+13/\(hdP m h k).1=e:=by
 obtain⟨k,hk,q⟩:=cov hm (znp m h 13) he;exact⟨13+k,by lia,by rw[znr m h k 13 (by lia)];exact q⟩
theorem least {p:Nat->Prop}(n:Nat)(hn:p n):∃k,k<=n/\p k/\∀i,i<k->¬ p i:=by
 induction n using Nat.strongRecOn with
 | ind n ih=>
  by_cases h:∃i,i<n/\p i
  ·obtain⟨i,hi,pi⟩:=h;obtain⟨k,h1,h2,h3⟩:=ih i hi pi;exact⟨k,by lia,h2,h3⟩
  ·exact⟨n,Xf _,hn,λi hi pi=>h ⟨i,hi,pi⟩⟩
theorem zll {m:Nat}(hm:okM m)(h:Int){l:List Nat}(hz:∃e,e<=m/\e∉l):∃N,N<=10*(m+13)/\(pth m h N).j∉l/\∀d,d<N->(pth m h d).j∈l:=by
 obtain⟨e,he,hn⟩:=hz;obtain⟨k,hk,q⟩:=zpG hm h he;have e1:=zey m h k 0 (XU _);have e2:(pth m h (ixP m h k)).j=e:=by rw[show ixP m h k=ixP m h k+0 from rfl,e1];exact q
 obtain⟨N,h1,h2,h3⟩:=least (p:=λn=>(pth m h n).j∉l) (ixP m h k) (by rw[e2];exact hn);have:=zpD m h k;exact⟨N,by lia,h2,λd hd=>Classical.byContradiction (h3 d hd)⟩
theorem zin {l:List Nat}{m:Nat}(hl:l.length<m+1):∃e,e<=m/\e∉l:=by
 refine Classical.byContradiction λhno=>?_;have hall:∀e,e<m+1->e∈l:=λe he=>Classical.byContradiction λhn=>hno ⟨e,by lia,hn⟩;have:∀(k:Nat) (l:List Nat),(∀e,e<k->e∈l)->k<=l.length:=by
  intro k;induction k with
  | zero=>intro l _;exact XU _
  | succ k ih=>
   intro l h;have h1:=h k (Nat.lt_succ_self k);have h2:=ih (l.erase k) λe he=>(List.mem_erase_of_ne (XJ he)).mpr (h e (by lia));rw[List.length_erase_of_mem h1]at h2;have:0<l.length:=List.length_pos_of_mem h1;lia
 have:=this (m+1) l hall;lia
section
variable {t:SetTable}
theorem znt (ha:Asc t.place){j:Nat}(hj:j∈t.place.toList):∃i,t.slot j=.live i/\t.place[i]? = some j:=by
 obtain⟨h1,h2,h3⟩:=zeV ha j;obtain⟨i,hi,e⟩:=YH.mp hj;have hi':i<t.place.size:=by simpa using hi
 have e':t.place.getD i 0=j:=by simpa[Array.getD,hi']using e
 have q1:¬ i<Yc t.place j:=λz=>by have:=h2 i z;lia
 have q2:i=Yc t.place j:=by
  rcases YG (Yc t.place j) i with z | z
  ·have:=ha.lt z hi';have:=h3 (Yc t.place j) (Xf _) (by lia);omega
  ·lia
 have q3:t.place[i]? = some j:=by rw[<- Xu,Xa hi,e]
 refine⟨i,?_,q3⟩;unfold SetTable.slot;rw[<- q2];dsimp only;rw[if_pos (by rw[q3];simp)]
theorem zlm (hd:t.dummies = #[]){j:Nat}(hj:j∉t.place.toList):t.slot j=.empty:=by
 unfold SetTable.slot;dsimp only;rw[if_neg,if_neg]
 ·rw[hd];unfold SetTable.has;simp
 ·intro z;have q:=eq_of_beq z;exact hj (Xn (by rw[Xu];exact q))
theorem zpH (ha:Asc t.place)(hd:t.dummies = #[])(g:Nat->Int)(h:Int){N:Nat}(hN:(pth t.mask h N).j∉t.place.toList)(hL:∀d,d<N->(pth t.mask h d).j∈t.place.toList):∀(fuel c:Nat),c<=N->N-c<fuel->
  (∃e i,c<=e/\e<N/\t.slot (pth t.mask h e).j=.live i/\t.place[i]? = some (pth t.mask h e).j/\g i=h/\SetTable.probe.go t g h fuel (pth t.mask h c)=some (.candidate (pth t.mask h e).j i (pth t.mask h (e+1)))/\∀d i',c<=d->d<e->t.place[i']? = some (pth t.mask h d).j->g i'≠h)\/
  (SetTable.probe.go t g h fuel (pth t.mask h c)=some (.empty (pth t.mask h N).j none)/\∀d i',c<=d->d<N->t.place[i']? = some (pth t.mask h d).j->g i'≠h)
 | 0,c,_,hf=>absurd hf (Nat.not_lt_zero _)
 | fuel+1,c,hc,hf=>by
  by_cases e:c=N
  ·subst e;refine .inr ⟨?_,λd i' h1 h2=>by lia⟩;unfold SetTable.probe.go;rw[zlm hd hN,ztn]
  ·obtain⟨i,hs,hp⟩:=znt ha (hL c (by lia));have step:t.advance (pth t.mask h c)=pth t.mask h (c+1):=rfl;have uniq:∀i',t.place[i']? = some (pth t.mask h c).j->i'=i:=λi' hi'=>by
    have nd:t.place.toList.Nodup:=ha.imp λh=>XJ h;have e1:t.place.toList[i']? = some (pth t.mask h c).j:=by rw[Xu];exact hi'
    have e2:t.place.toList[i]? = some (pth t.mask h c).j:=by rw[Xu];exact hp
    exact(List.getElem?_inj (Xe.mp e1).1 nd).mp (e1.trans e2.symm)
   by_cases gi:g i=h
   ·refine .inl ⟨c,i,Xf _,by lia,hs,hp,gi,?_,λd i' h1 h2=>by lia⟩;unfold SetTable.probe.go;rw[hs];dsimp only;rw[if_pos (by rw[gi];simp),step]
   ·have un:SetTable.probe.go t g h (fuel+1) (pth t.mask h c)=SetTable.probe.go t g h fuel (pth t.mask h (c+1)):=by
     conv=>lhs;unfold SetTable.probe.go
     rw[hs];dsimp only;rw[if_neg (by simpa using gi),step]
    rw[un];have no:∀i',t.place[i']? = some (pth t.mask h c).j->g i'≠h:=λi' hi'=>by rw[uniq i' hi'];exact gi
    rcases zpH ha hd g h hN hL fuel (c+1) (by lia) (by lia)with ⟨e',i',q1,q2,q3,q4,q5,q6,q7⟩ | ⟨q1,q2⟩
    ·refine .inl ⟨e',i',by lia,q2,q3,q4,q5,q6,λd i2 h1 h2 h3=>?_⟩;rcases Nat.eq_or_lt_of_le h1 with z | z
     ·subst z;exact no i2 h3
     ·exact q7 d i2 z h2 h3
    ·refine .inr ⟨q1,λd i2 h1 h2 h3=>?_⟩;rcases Nat.eq_or_lt_of_le h1 with z | z
     ·subst z;exact no i2 h3
     ·exact q2 d i2 z h2 h3
end
structure TabS (t:SetTable)(es:Array (Int×Value)):Prop where
 msk:okM t.mask
 asc:Asc t.place
 dm:t.dummies = #[]
 sz:t.place.size=es.size
 le:∀j∈t.place.toList,j<=t.mask
 way:∀(i j:Nat) (e:Int×Value),es[i]? = some e->t.place[i]? = some j->∃n,(pth t.mask e.1 n).j=j/\∀m,m<n->(pth t.mask e.1 m).j∈t.place.toList
theorem TabS.free {t:SetTable}{es:Array (Int×Value)}(T:TabS t es)(hl:es.size<=t.mask)(h:Int):∃N,N<=10*(t.mask+13)/\(pth t.mask h N).j∉t.place.toList/\∀d,d<N->(pth t.mask h d).j∈t.place.toList:=
 zll T.msk h (zin (by rw[Xv,T.sz];lia))
theorem zfd {α:Type}(xs:Array α)(p:Nat)(x:α):(Yf xs p x).toList=xs.toList.take p++x::xs.toList.drop p:=by
 unfold Yf;simp[Array.toList_extract,YL,Xi]
theorem znu {α:Type}{xs:Array α}{p:Nat}(hp:p<=xs.size)(x:α)(i:Nat):(Yf xs p x)[i]? = if i<p then xs[i]? else if i=p then some x else xs[i-1]?:=by
 rw[<- Xu,zfd];have hl:(xs.toList.take p).length=p:=by rw[XH,Xv];lia
 by_cases h1:i<p
 ·rw[if_pos h1,Yg (by lia),List.getElem?_take_of_lt h1,Xu]
 ·rw[if_neg h1,XQ (by lia),hl];by_cases h2:i=p
  ·subst h2;rw[if_pos rfl,Nat.sub_self];rfl
  ·rw[if_neg h2];obtain⟨d,rfl⟩:∃d,i=p+1+d:=⟨i-p-1,by lia⟩;rw[show p+1+d-p=d+1 by lia,List.getElem?_cons_succ,List.getElem?_drop,Xu]
   congr 1
   lia
theorem zjt {xs:Array Nat}{p x j:Nat}:j∈(Yf xs p x).toList↔j=x\/j∈xs.toList:=by
 rw[zfd,Xr,Xx]
 conv=>rhs;rw[<- Yb p xs.toList]
 rw[Xr];constructor
 ·rintro(h | h | h)
  ·exact .inr (.inl h)
  ·exact .inl h
  ·exact .inr (.inr h)
 ·rintro(h | h | h)
  ·exact .inr (.inl h)
  ·exact .inl h
  ·exact .inr (.inr h)
theorem zkv {α:Type}{xs:Array α}{p:Nat}(x:α):(Yf xs p x).size=xs.size+1:=by
 rw[<- Xv,zfd];simp;lia
theorem TabS.put {t:SetTable}{es:Array (Int×Value)}(T:TabS t es){h:Int}{x:Value}{N:Nat}(hN:(pth t.mask h N).j∉t.place.toList)(hL:∀d,d<N->(pth t.mask h d).j∈t.place.toList) :
  (t.put (pth t.mask h N).j).1.mask=t.mask/\(t.put (pth t.mask h N).j).1.led=t.led/\(t.put (pth t.mask h N).j).1.plain=t.plain/\TabS (t.put (pth t.mask h N).j).1 (Yf es (t.put (pth t.mask h N).j).2 (h,x)):=by
 have hhas:SetTable.has t.dummies (pth t.mask h N).j=false:=by rw[T.dm];unfold SetTable.has;simp
 have hp:=(zeV T.asc (pth t.mask h N).j).1;have hne:¬ (t.place[Yc t.place (pth t.mask h N).j]? == some (pth t.mask h N).j)=true:=λz=>hN (Xn (by rw[Xu];exact eq_of_beq z));have ha:=zgk T.asc hne;unfold SetTable.put;rw[hhas];dsimp only;generalize hpp:Yc t.place (pth t.mask h N).j=p at hp ha;refine⟨rfl,rfl,rfl,⟨T.msk,ha,T.dm,?_,λj hj=>?_,λi j e he hj=>?_⟩⟩
 ·show(Yf t.place p _).size=_;rw[zkv,zkv,T.sz]
 ·rcases zjt.mp hj with rfl | hj
  ·exact zpF _ _ _
  ·exact T.le j hj
 ·have he:(Yf es p (h,x))[i]? = some e:=he;have hj:(Yf t.place p (pth t.mask h N).j)[i]? = some j:=hj;rw[znu (by rw[<- T.sz];exact hp)]at he;rw[znu hp]at hj;have old:∀i',es[i']? = some e->t.place[i']? = some j->∃n,(pth t.mask e.1 n).j=j/\∀m,m<n->(pth t.mask e.1 m).j∈(Yf t.place p (pth t.mask h N).j).toList:=λi' h1 h2=>by
   obtain⟨n,q1,q2⟩:=T.way i' j e h1 h2;exact⟨n,q1,λm hm=>zjt.mpr (.inr (q2 m hm))⟩
  by_cases c1:i<p
  ·rw[if_pos c1]at he hj;exact old i he hj
  ·rw[if_neg c1]at he hj;by_cases c2:i=p
   ·rw[if_pos c2]at he hj;cases he;cases hj;exact⟨N,rfl,λm hm=>zjt.mpr (.inr (hL m hm))⟩
   ·rw[if_neg c2]at he hj;exact old _ he hj
theorem TabS.fresh (a b:Nat)(l:Bool):TabS (.fresh a b l) #[]:=⟨.inl rfl,List.Pairwise.nil,rfl,rfl,λj hj=>(by cases hj),λi j e he=>(by simp at he)⟩
structure Own (m:Nat)(ow:Array (Option Nat))(hs:List Int):Prop where
 sz:ow.size=m+1
 at_:∀(k:Nat) (h:Int),hs[k]? = some h->∃j n,ow[j]? = some (some k)/\(pth m h n).j=j/\∀d,d<n->∃q,ow[(pth m h d).j]? = some (some q)
 lt:∀(j k:Nat),ow[j]? = some (some k)->k<hs.length
 one:∀(j j' k:Nat),ow[j]? = some (some k)->ow[j']? = some (some k)->j=j'
theorem Own.start (m:Nat):Own m (Array.replicate (m+1) none) []:=by
 refine⟨by simp,λk h e=>by simp at e,λj k e=>?_,λj j' k e=>?_⟩ <;>
 ·rw[Array.getElem?_replicate]at e;split at e<;>simp at e
theorem Own.gap {m:Nat}{ow:Array (Option Nat)}{hs:List Int}(O:Own m ow hs)(hl:hs.length<=m):∃e,e<=m/\ow[e]? = some none:=by
 have hc:∀k,∃j,k<hs.length->ow[j]? = some (some k):=λk=>by
  by_cases hk:k<hs.length
  ·obtain⟨j,n,h1,_⟩:=O.at_ k hs[k] (Xa hk);exact⟨j,λ_=>h1⟩
  ·exact⟨0,λz=>absurd z hk⟩
 obtain⟨e,he,hn⟩:=zin (l:=(XZ hs.length).map λk=>(hc k).choose) (m:=m) (by simp;lia);refine⟨e,he,?_⟩;have hlt:e<ow.size:=by rw[O.sz];lia
 rw[getElem?_pos ow e hlt];cases c:ow[e]with
 | none=>rfl
 | some k=>
  exfalso;have h1:ow[e]? = some (some k):=by rw[getElem?_pos ow e hlt,c]
  have hk:=O.lt e k h1;have h2:=(hc k).choose_spec hk;have:=O.one _ _ _ h1 h2;exact hn (Xt.mpr ⟨k,Yp.mpr hk,this.symm⟩)
theorem zln {p:Nat->Bool}{n r:Nat}(h:(XZ n).find? p=some r):p r=true/\r<n/\∀i,i<r->p i=false:=by
 rw[List.find?_range_eq_some]at h;obtain⟨h1,h2,h3⟩:=h;exact⟨h1,Yp.mp h2,λi hi=>by simpa using h3 i hi⟩
theorem znv {m:Nat}{ow:Array (Option Nat)}(hz:ow.size=m+1)(h:Int){K:Nat}(hK:ow[(hdP m h K).1]? = some none):∀(fuel k:Nat),k<=K->K-k<fuel->(∀d,d<ixP m h k->∃q,ow[(pth m h d).j]? = some (some q))->
  ∃N,SetTable.layClean.free m ow fuel (hdP m h k).1 (hdP m h k).2=some (pth m h N).j/\ow[(pth m h N).j]? = some none/\∀d,d<N->∃q,ow[(pth m h d).j]? = some (some q)
 | 0,k,_,hf,_=>absurd hf (Nat.not_lt_zero _)
 | fuel+1,k,hk,hf,hb=>by
  obtain⟨r0,r9,rm⟩:=zno m (hdP m h k).1;have rm:=rm (znp m h k);have val:∀r,r<=Yo m (hdP m h k).1-(hdP m h k).1->(pth m h (ixP m h k+r)).j=(hdP m h k).1+r:=λr hr=>by rw[zey m h k r hr]
  have isN:∀r,r<=Yo m (hdP m h k).1-(hdP m h k).1->((ow.getD ((hdP m h k).1+r) (some 0)).isNone=true/\ow[(hdP m h k).1+r]? = some none)\/((ow.getD ((hdP m h k).1+r) (some 0)).isNone=false/\∃q,ow[(hdP m h k).1+r]? = some (some q)):=λr hr=>by
   have hlt:(hdP m h k).1+r<ow.size:=by rw[hz];lia
   have e1:ow.getD ((hdP m h k).1+r) (some 0)=ow[(hdP m h k).1+r]:=by simp[Array.getD,hlt]
   rw[e1,getElem?_pos ow _ hlt];cases ow[(hdP m h k).1+r]with
   | none=>exact .inl ⟨rfl,rfl⟩
   | some q=>exact .inr ⟨rfl,q,rfl⟩
  unfold SetTable.layClean.free;cases hr:(XZ (Yo m (hdP m h k).1+1-(hdP m h k).1)).find? λk'=>(ow.getD ((hdP m h k).1+k') (some 0)).isNone with
  | some r=>
   obtain⟨p1,p2,p3⟩:=zln hr;have hr':r<=Yo m (hdP m h k).1-(hdP m h k).1:=by lia
   refine⟨ixP m h k+r,by rw[val r hr'],?_,λd hd=>?_⟩
   ·rw[val r hr'];rcases isN r hr' with ⟨_,q⟩ | ⟨q,_⟩
    ·exact q
    ·rw[p1]at q;cases q
   ·rcases YG d (ixP m h k)with z | z
    ·exact hb d z
    ·obtain⟨i,rfl⟩:∃i,d=ixP m h k+i:=⟨d-ixP m h k,by lia⟩;rw[val i (by lia)];rcases isN i (by lia)with ⟨q,_⟩ | ⟨_,q⟩
     ·rw[p3 i (by lia)]at q;cases q
     ·exact q
  | none=>
   have hall:=List.find?_eq_none.mp hr;have no:∀r,r<=Yo m (hdP m h k).1-(hdP m h k).1->∃q,ow[(hdP m h k).1+r]? = some (some q):=λr hr'=>by
    rcases isN r hr' with ⟨q,_⟩ | ⟨_,q⟩
    ·exact absurd q (hall r (Yp.mpr (by lia)))
    ·exact q
   have hne:k≠K:=λz=>by
    subst z;obtain⟨q,e⟩:=no 0 (XU _);rw[Nat.add_zero,hK]at e;cases e
   dsimp only;exact znv hz h hK fuel (k+1) (by lia) (by lia) λd hd=>by
    rcases YG d (ixP m h k)with z | z
    ·exact hb d z
    ·have hd:d<ixP m h k+(Yo m (hdP m h k).1-(hdP m h k).1)+1:=hd;obtain⟨i,rfl⟩:∃i,d=ixP m h k+i:=⟨d-ixP m h k,by lia⟩;rw[val i (by lia)];exact no i (by lia)
theorem Own.put {m:Nat}{ow:Array (Option Nat)}{hs:List Int}(O:Own m ow hs){h:Int}{N:Nat}(hN:ow[(pth m h N).j]? = some none)(hL:∀d,d<N->∃q,ow[(pth m h d).j]? = some (some q)) :
  Own m (ow.setIfInBounds (pth m h N).j (some hs.length)) (hs++[h]):=by
 have hlt:(pth m h N).j<ow.size:=by rw[O.sz];exact Nat.lt_succ_of_le (zpF m h N)
 have get:∀j:Nat,(ow.setIfInBounds (pth m h N).j (some hs.length))[j]? = if (pth m h N).j=j then some (some hs.length) else ow[j]?:=λj=>by
  rw[Array.getElem?_setIfInBounds];by_cases c:(pth m h N).j=j
  ·rw[if_pos c,if_pos c,if_pos hlt]
  ·rw[if_neg c,if_neg c]
 have up:∀(j q:Nat),ow[j]? = some (some q)->∃q,(ow.setIfInBounds (pth m h N).j (some hs.length))[j]? = some (some q):=λj q e=>by
  rw[get];split
  ·exact⟨_,rfl⟩
  ·exact⟨q,e⟩
 refine⟨by rw[Array.size_setIfInBounds];exact O.sz,λk h' e=>?_,λj k e=>?_,λj j' k e e'=>?_⟩
 ·rcases YG k hs.length with z | z
  ·rw[Yg z]at e;obtain⟨j,n,h1,h2,h3⟩:=O.at_ k h' e;refine⟨j,n,?_,h2,λd hd=>?_⟩
   ·rw[get,if_neg (λc=>by rw[<- c,hN]at h1;cases h1)];exact h1
   ·obtain⟨q,hq⟩:=h3 d hd;exact up _ _ hq
  ·have hk:k=hs.length:=by
    have:=(Xe.mp e).1;rw[XB]at this;simp at this;lia
   subst hk;rw[XQ (Xf _),Nat.sub_self]at e;cases e;refine⟨(pth m h N).j,N,by rw[get,if_pos rfl],rfl,λd hd=>?_⟩;obtain⟨q,hq⟩:=hL d hd;exact up _ _ hq
 ·rw[get]at e;rw[XB];split at e
  ·cases e;simp
  ·have:=O.lt j k e;lia
 ·rw[get]at e e';split at e
  ·rename_i c
   cases e;split at e'
   ·rename_i c';rw[<- c,<- c']
   ·have:=O.lt _ _ e';lia
  ·split at e'
   ·cases e';have:=O.lt _ _ e;lia
   ·exact O.one _ _ _ e e'
noncomputable abbrev layF (m:Nat)(acc:Option (Array (Option Nat)×Nat))(h:Int):Option (Array (Option Nat)×Nat):=do
 let (owner,k) <- acc;let j <- SetTable.layClean.free m owner (SetTable.turns m) (SetTable.bits h % (m+1)) (SetTable.bits h)
 pure (owner.setIfInBounds j (some k),k+1)
theorem znw {m:Nat}(hm:okM m):∀(rest hs:List Int)(ow:Array (Option Nat)),Own m ow hs->hs.length+rest.length<=m->∃ow',rest.foldl (layF m) (some (ow,hs.length))=some (ow',hs.length+rest.length)/\Own m ow' (hs++rest)
 | [],hs,ow,O,_=>⟨ow,rfl,by rw[YE];exact O⟩
 | h::rest,hs,ow,O,hl=>by
  rw[Ya]at hl;obtain⟨e,he,hn⟩:=O.gap (by lia);obtain⟨K,hK,eK⟩:=zpG hm h he;obtain⟨N,g1,g2,g3⟩:=znv O.sz h (K:=K) (by rw[eK];exact hn) (SetTable.turns m) 0 (XU _) (by unfold SetTable.turns;lia) (λd hd=>absurd hd (Nat.not_lt_zero _));have O':=O.put g2 g3;obtain⟨ow',e1,e2⟩:=znw hm rest (hs++[h]) _ O' (by rw[XB];simp;lia);have st:layF m (some (ow,hs.length)) h=some (ow.setIfInBounds (pth m h N).j (some hs.length),(hs++[h]).length):=by
   show(SetTable.layClean.free m ow (SetTable.turns m) (hdP m h 0).1 (hdP m h 0).2 >>= λj=>pure (ow.setIfInBounds j (some hs.length),hs.length+1))=_;rw[g1,XB];rfl
  refine⟨ow',?_,by rw[XE]at e2;exact e2⟩;rw[YK,st,e1,XB]
  congr 2
  simp;lia
theorem znx {es:Array (Int×Value)}:∀ {l:List Nat}(_:∀k∈l,k<es.size)(i:Nat),(l.filterMap λk=>es[k]?)[i]? = (l[i]?).bind λk=>es[k]?
 | [],_,i=>by simp
 | k::l,h,i=>by
  have hk:=h k Xj;rw[List.filterMap_cons_some (getElem?_pos es k hk)];cases i with
  | zero=>rw[List.getElem?_cons_zero,List.getElem?_cons_zero];exact(getElem?_pos es k hk).symm
  | succ i=>rw[List.getElem?_cons_succ,List.getElem?_cons_succ];exact znx (λk' h'=>h k' (Xg _ h')) i
theorem zpI {es:Array (Int×Value)}:∀ {l:List Nat}(_:∀k∈l,k<es.size),(l.filterMap λk=>es[k]?).length=l.length
 | [],_=>rfl
 | k::l,h=>by
  rw[List.filterMap_cons_some (getElem?_pos es k (h k Xj)),Ya,Ya,zpI λk' h'=>h k' (Xg _ h')]
theorem zoO (es:Array (Int×Value)):((XZ es.size).filterMap λk=>es[k]?)=es.toList:=by
 apply List.ext_getElem?;intro i;rw[znx (λk hk=>Yp.mp hk)];by_cases hi:i<es.size
 ·rw[List.getElem?_range hi,Xu];rfl
 ·rw[XG (by simp;lia),XG (by simp;lia)];rfl
theorem zny {t:SetTable}{es:Array (Int×Value)}{n:Nat}(hm:okM (YO n-1))(hl:es.size<=YO n-1):∃t' order,t.relaid (es.map (·.1)) n=some (t',order)/\(order.filterMap (es[·]?)).toList.Perm es.toList/\t'.mask=YO n-1/\t'.led=t.led/\TabS t' (order.filterMap (es[·]?)):=by
 generalize hmm:YO n-1=m at hm hl;obtain⟨ow,e1,O⟩:=znw hm (es.map (·.1)).toList [] _ (Own.start m) (by simp;omega);rw[List.nil_append]at O;have hcl:SetTable.layClean m (es.map (·.1))=some ow:=by
  show Option.map (·.1) ((es.map (·.1)).foldl (layF m) (some (Array.replicate (m+1) none,0)))=_;rw[<- Array.foldl_toList];exact congrArg (Option.map (·.1)) e1
 have hsz:(es.map (·.1)).toList.length=es.size:=by simp
 obtain⟨live,hlive⟩:∃live,live=(XZ (m+1)).filterMap λj=>(ow.getD j none).map (j,·):=⟨_,rfl⟩;have hrl:t.relaid (es.map (·.1)) n=some ({ mask:=m,place:=(live.map (·.1)).toArray,dummies:=#[],finger:=t.finger,led:=t.led,moves:=t.movedTo m,plain:=t.plain },(live.map (·.2)).toArray):=by
  unfold SetTable.relaid SetTable.laid;rw[hmm,hcl,hlive];rfl
 have mem:∀j k,(j,k)∈live↔ow[j]? = some (some k):=λj k=>by
  rw[hlive,List.mem_filterMap];constructor
  ·rintro⟨j',hj',e⟩;have hlt:j'<ow.size:=by rw[O.sz];exact Yp.mp hj'
   have e2:ow.getD j' none=ow[j']:=by simp[Array.getD,hlt]
   rw[e2]at e;cases c:ow[j']with
   | none=>rw[c]at e;cases e
   | some q=>rw[c]at e;cases e;rw[getElem?_pos ow _ hlt,c]
  ·intro e;obtain⟨hlt,c⟩:=Array.getElem?_eq_some_iff.mp e;refine⟨j,Yp.mpr (by rw[<- O.sz];exact hlt),?_⟩;have e2:ow.getD j none=ow[j]:=by simp[Array.getD,hlt]
   rw[e2,c];rfl
 obtain⟨ha,_⟩:=zgl hrl;have ha:(live.map (·.1)).Pairwise (· < ·):=ha;have ndl:live.Nodup:=(List.pairwise_map.mp ha).imp λ{a b} h e=>by rw[e]at h;exact YJ _ h
 have nd2:(live.map (·.2)).Nodup:=by
  rw[List.Nodup,List.pairwise_map];refine ndl.imp_of_mem λ{a b} h1 h2 hne e=>hne ?_;obtain⟨j,k⟩:=a;obtain⟨j',k'⟩:=b;have e:k=k':=e;subst e;rw[O.one j j' k ((mem _ _).mp h1) ((mem _ _).mp h2)]
 have lt2:∀k∈live.map (·.2),k<es.size:=λk hk=>by
  obtain⟨⟨j,k'⟩,h1,rfl⟩:=Xt.mp hk;have:=O.lt _ _ ((mem _ _).mp h1);rw[hsz]at this;exact this
 have perm:(live.map (·.2)).Perm (XZ es.size):=(List.perm_ext_iff_of_nodup nd2 List.nodup_range).mpr λk=>by
  constructor
  ·exact λhk=>Yp.mpr (lt2 k hk)
  ·intro hk;have hk:=Yp.mp hk;obtain⟨j,_,h1,_⟩:=O.at_ k _ (Xa (show k<(es.map (·.1)).toList.length by rw[hsz];exact hk));exact Xt.mpr ⟨(j,k),(mem _ _).mpr h1,rfl⟩
 have eL:((live.map (·.2)).toArray.filterMap (es[·]?)).toList=(live.map (·.2)).filterMap λk=>es[k]?:=by rw[List.filterMap_toArray]
 refine⟨_,_,hrl,?_,rfl,rfl,⟨hm,ha,rfl,?_,λj hj=>?_,λi j e he hj=>?_⟩⟩
 ·rw[eL,<- zoO es];exact perm.filterMap _
 ·show(live.map (·.1)).toArray.size=_;have q:=congrArg List.length eL;rw[Xv,zpI lt2]at q;rw[q];simp
 ·obtain⟨⟨j',k⟩,h1,rfl⟩:=Xt.mp hj;have:=(Array.getElem?_eq_some_iff.mp ((mem _ _).mp h1)).1;rw[O.sz]at this;exact Nat.le_of_lt_succ this
 ·have hj:(live.map (·.1))[i]? = some j:=by rw[<- List.getElem?_toArray];exact hj
  have he:((live.map (·.2)).filterMap λk=>es[k]?)[i]? = some e:=by rw[<- eL,Xu];exact he
  rw[znx lt2,Xd]at he;rw[Xd]at hj;cases c:live[i]? with
  | none=>rw[c]at hj;cases hj
  | some p=>
   obtain⟨j',k⟩:=p;rw[c]at hj he;cases hj;have he:es[k]? = some e:=he;have h1:=(mem _ _).mp (Xn c);obtain⟨j2,n2,g1,g2,g3⟩:=O.at_ k e.1 (by rw[Xu,Array.getElem?_map,he];rfl);have:=O.one _ _ _ h1 g1;subst this;refine⟨n2,g2,λd hd=>?_⟩;obtain⟨q,hq⟩:=g3 d hd;exact Xt.mpr ⟨(_,q),(mem _ _).mpr hq,rfl⟩
open PySem PySem.Spec PyProof.Rows
section
variable {prog:Program}{w:World}{A:Around}{E:Value->Shared->Prop}{s:Shared}
noncomputable abbrev TK (prog:Program)(w:World)(h:Heap)(y:List Int)(b:Addr):Prop:=IsTupleKey (PySem.intKind prog w) h y b
noncomputable abbrev tH (prog:Program)(w:World)(y:List Int):Int:=tupleKeyHash (PySem.intKind prog w) y
theorem items_int {x:List Int}{vs:List Value}(h:ItemsAre (PySem.intKind prog w) x vs):∀v∈vs,∃n t,v=Value.int n t:=by
 induction h with
 | nil=>intro v hv;cases hv
 | cons h1 _ ih=>
  intro v hv;rcases Xx.mp hv with rfl | hv
  ·obtain⟨t,rfl⟩:=Value.isInt_shape h1;exact⟨_,t,rfl⟩
  ·exact ih v hv
theorem zkw {x:List Int}{b:Addr}{Q:Bool->Shared->Prop}(hk:TK prog w s.heap x b)(h:Q false s):wpAny (model prog w) A (ofAClassStatement 8 (.ref b)) Q E s:=by
 have hT:=hk.typeIs;obtain⟨o,items,n,ho,_,hd,hi⟩:=hk;unfold ofAClassStatement;refine wpAny_bind (wpAny_typeOf hT ?_);show wpAny _ _ (pure true >>= _) _ _ s;refine wpAny_bind (wpAny_pure ?_);simp only[Bool.not_true,Xz,if_false];refine wpAny_bind (wpAny_seqItems ho hd ?_);refine wpAny_bind ?_;show wpAny _ _ (forIn items _ _) _ _ s;rw[<- Array.forIn_toList];refine wpAny_forIn_list _ (λrest r s'=>r.1=none/\s'=s/\∀v∈rest,∃n t,v=Value.int n t) _ ?_ ?_ _ _ ⟨rfl,rfl,items_int hi⟩
 ·rintro v rest r s' ⟨hr,rfl,hall⟩;obtain⟨n,t,rfl⟩:=hall v Xj;refine wpAny_bind (m:=ofAClassStatement 7 (.int n t)) (wpAny_pure ?_);simp only[Xz,if_false];exact wpAny_pure ⟨rfl,rfl,λu hu'=>hall u (Xg _ hu')⟩
 ·rintro⟨r1,r2⟩ s' ⟨hr,rfl,_⟩;simp only at hr;subst hr;exact wpAny_pure h
theorem zuh {x:List Int}{b:Addr}{Q:Bool->Shared->Prop}(hk:TK prog w s.heap x b)(h:Q true s):wpAny (model prog w) A (hashByValue 8 (.ref b)) Q E s:=by
 have hT:=hk.typeIs;obtain⟨o,items,n,ho,_,hd,hi⟩:=hk;show wpAny _ _ (bind (specialOf (.ref b) "__hash__") _) _ _ s;refine wpAny_bind (wpAny_specialOf hT PySem.F.slot_tuple_hash.lookup ?_);dsimp only;refine wpAny_bind (wpAny_seqItems ho hd ?_);dsimp only[Option.getD];refine wpAny_bind ?_;show wpAny _ _ (forIn items _ _) _ _ s;rw[<- Array.forIn_toList];refine wpAny_forIn_list _ (λrest r s'=>r.1=none/\s'=s/\∀v∈rest,∃n t,v=Value.int n t) _ ?_ ?_ _ _ ⟨rfl,rfl,items_int hi⟩
 ·rintro v rest r s' ⟨hr,rfl,hall⟩;obtain⟨n,t,rfl⟩:=hall v Xj;refine wpAny_bind (m:=hashByValue 7 (.int n t)) (wpAny_pure ?_);simp only[Bool.not_true,Xz,if_false];exact wpAny_pure ⟨rfl,rfl,λu hu'=>hall u (Xg _ hu')⟩
 ·rintro⟨r1,r2⟩ s' ⟨hr,rfl,_⟩;simp only at hr;subst hr;exact wpAny_pure h
theorem ztp {x:List Int}{b:Addr}{vs:List Value}{Q:Bool->Shared->Prop}(hk:TK prog w s.heap x b)(hv:∀v∈vs,∃y c,v=.ref c/\TK prog w s.heap y c)(h:Q false s):wpAny (model prog w) A (searchCouldBeSeen (.ref b) vs) Q E s:=by
 unfold searchCouldBeSeen;refine wpAny_bind (wpAny_forIn_list _ (λrest r s'=>r.1=none/\s'=s/\∀v∈rest,∃y c,v=.ref c/\TK prog w s.heap y c) _ ?_ ?_ _ _ ⟨rfl,rfl,hv⟩)
 ·rintro v rest r s' ⟨hr,rfl,hall⟩;obtain⟨y,c,rfl,hy⟩:=hall v Xj;have hrest:=λu hu'=>hall u (Xg _ hu');dsimp only;split
  ·exact wpAny_pure ⟨rfl,rfl,hrest⟩
  ·refine wpAny_bind (wpAny_eqIsQuiet_tuple hk ?_);simp only[Bool.not_true,Xz,if_false];refine wpAny_bind (wpAny_eqIsQuiet_tuple hy ?_);simp only[Bool.not_true,Xz,if_false];refine wpAny_bind (zkw hk ?_);simp only[Xz,if_false];refine wpAny_bind (zkw hy ?_);simp only[Xz,if_false];exact wpAny_pure ⟨rfl,rfl,hrest⟩
 ·rintro⟨r1,r2⟩ s' ⟨hr,rfl,_⟩;simp only at hr;subst hr;exact wpAny_pure h
theorem zrf {α:Type}{c:Prop}{dc:Decidable c}{m:Sem Bool}{u T:Sem α}{Q:α->Shared->Prop}(hm:∀Q':Bool->Shared->Prop,Q' false s->wpAny (model prog w) A m Q' E s)(h:wpAny (model prog w) A T Q E s):wpAny (model prog w) A (if c then(m >>= λb=>if b=true then u else T) else T) Q E s:=by
 split
 ·refine wpAny_bind (hm _ ?_);rw[if_neg Xw];exact h
 ·exact h
noncomputable def Ents (prog:Program)(w:World)(h:Heap)(es:Array (Int×Value)):Prop:=∀(i:Nat) e,es[i]? = some e->∃x c,e=(tH prog w x,Value.ref c)/\TK prog w h x c
theorem zio {a b:Addr}{es:Array (Int×Value)}{ep:Nat}{t:SetTable}{y:List Int}{Q:SetFound->Shared->Prop}(hu:A.units<cLine)(r:Rec w s.heap a es ep t)(T:TabS t es)(hE:Ents prog w s.heap es)(hb:TK prog w s.heap y b)
  {N:Nat} (hN:(pth t.mask (tH prog w y) N).j∉t.place.toList) (hL:∀d,d<N->(pth t.mask (tH prog w y) d).j∈t.place.toList) (hNb:N<=10*(t.mask+13))
  (h1:(∃(i:Nat) (e:Int×Value) (c:Addr),es[i]? = some e/\e.2=.ref c/\TK prog w s.heap y c)->Q (.there none) s) (h2:(∀(i:Nat) (e:Int×Value) (c:Addr),es[i]? = some e->e.2=.ref c->¬ TK prog w s.heap y c)->Q (.free (pth t.mask (tH prog w y) N).j false) s) :
  ∀(fuel c:Nat) (st:Option SetTable.Probe),c<=N->N-c<fuel->st.getD (t.probeStart (tH prog w y))=pth t.mask (tH prog w y) c->(∀(d i:Nat) (e:Int×Value) (q:Addr),d<c->t.place[i]? = some (pth t.mask (tH prog w y) d).j->es[i]? = some e->e.2=.ref q->¬ TK prog w s.heap y q)->
   wpAny (model prog w) A (setSearchFrom a (.ref b) (tH prog w y) true fuel st) Q E s
 | 0,c,_,_,hf,_,_=>absurd hf (Nat.not_lt_zero _)
 | fuel+1,c,st,hc,hf,hst,hseen=>by
  have hodd:t.gaveWay=false:=by
   unfold SetTable.gaveWay;rcases T.msk with e | e | e<;>rw[e]<;>rfl
  have gm:=zpH T.asc T.dm (λi=>(es[i]?.map (·.1)).getD 0) (tH prog w y) hN hL (10*SetTable.turns t.mask) c hc (by unfold SetTable.turns;lia);have hcol:∀(d i:Nat) (e:Int×Value) (q:Addr),t.place[i]? = some (pth t.mask (tH prog w y) d).j->(λi=>(es[i]?.map (·.1)).getD 0) i≠tH prog w y->es[i]? = some e->e.2=.ref q->¬ TK prog w s.heap y q:=λd i e q hp hg he e2 hq=>by
   obtain⟨x,c',rfl,hx⟩:=hE i e he;cases e2;have:=hx.inj hq;subst this;refine hg ?_;show(es[i]?.map (·.1)).getD 0=_;rw[he];rfl
  show wpAny _ _ (bind (setState a) _) _ _ s;refine wpAny_bind (zaJ r ?_);dsimp only;rw[hodd];simp only[Xz,if_false];rw[hst];generalize hpr:t.probe _ _ _=pr;rcases gm with ⟨e,i,g1,g2,g3,g4,g5,g6,g7⟩ | ⟨g1,g2⟩
  ·have e6:pr=_:=hpr.symm.trans g6;rw[e6];obtain⟨hi,e0⟩:∃hi:i<es.size,es[i]? = some es[i]:=by
    have hp:i<t.place.size:=(Array.getElem?_eq_some_iff.mp g4).1;rw[T.sz]at hp;exact⟨hp,Array.getElem?_eq_getElem hp⟩
   obtain⟨x,q,ex,hx⟩:=hE i _ e0;rw[ex]at e0;have hstill:∀(d i':Nat) (e':Int×Value) (q':Addr),x≠y->d<e+1->t.place[i']? = some (pth t.mask (tH prog w y) d).j->es[i']? = some e'->e'.2=.ref q'->¬ TK prog w s.heap y q':=λd i' e' q' hne hd hp he' e2=>by
    rcases YG d c with z | z
    ·exact hseen d i' e' q' z hp he' e2
    ·rcases YG d e with z2 | z2
     ·exact hcol d i' e' q' hp (g7 d i' z z2 hp) he' e2
     ·have hde:d=e:=by lia
      subst hde;have nd:t.place.toList.Nodup:=T.asc.imp λh=>XJ h;have q1:t.place.toList[i']? = some (pth t.mask (tH prog w y) d).j:=by rw[Xu];exact hp
      have q2:t.place.toList[i]? = some (pth t.mask (tH prog w y) d).j:=by rw[Xu];exact g4
      have hii:i'=i:=(List.getElem?_inj (Xe.mp q1).1 nd).mp (q1.trans q2.symm);subst hii;rw[e0]at he';cases he';cases e2;intro hq;exact hne (hx.inj hq)
   have hvs:∀v∈(es.filter λz=>z.1 == tH prog w y).toList.map (·.2),∃y c,v=.ref c/\TK prog w s.heap y c:=λv hv=>by
    obtain⟨z,hz,rfl⟩:=Xt.mp hv;have hz:z∈es:=by
     have:=Array.mem_toList_iff.mp hz;exact(Array.mem_filter.mp this).1
    obtain⟨k,hk,ek⟩:=Array.mem_iff_getElem.mp hz;obtain⟨x',c',e',hx'⟩:=hE k z (by rw[Array.getElem?_eq_getElem hk,ek]);rw[e'];exact⟨x',c',rfl,hx'⟩
   refine zrf (λQ' hq=>ztp hb hvs hq) ?_;rw[e0];dsimp only;refine wpAny_bind (wpAny_holding (wpAny_eqBool_tuple hu hx hb ?_));refine wpAny_bind (zaJ r ?_);by_cases hxy:x=y
   ·subst hxy;rw[decide_eq_true rfl];simp only[Bool.and_true,if_true];exact wpAny_pure (h1 ⟨i,_,q,e0,rfl,hx⟩)
   ·rw[decide_eq_false hxy];have hsm:t.sameMemory t.moves t.mask=some true:=by unfold SetTable.sameMemory;simp
    dsimp only;simp only[Bool.and_false,Xz,if_false,hsm,if_true,g3,e0];refine wpAny_bind (wpAny_isSame_ref_self ?_);simp only[if_true];refine wpAny_bind (wpAny_pure ?_);dsimp only;exact zio hu r T hE hb hN hL hNb h1 h2 fuel (e+1) (some (pth t.mask (tH prog w y) (e+1))) (by lia) (by lia) rfl (λd i' e' q' hd=>hstill d i' e' q' hxy hd)
  ·have e1:pr=_:=hpr.symm.trans g1;rw[e1];dsimp only;refine wpAny_pure (h2 λi e q he e2 hq=>?_);obtain⟨x,q',rfl,hx⟩:=hE i e he;cases e2;have:=hx.inj hq;subst this;have hip:i<t.place.size:=by rw[T.sz];exact(Array.getElem?_eq_some_iff.mp he).1
   obtain⟨n,w1,w2⟩:=T.way i _ _ he (Array.getElem?_eq_getElem hip);dsimp only at w1 w2;have hpl:t.place[i]? = some (pth t.mask (tH prog w x) n).j:=by rw[w1];exact Array.getElem?_eq_getElem hip
   have hin:(pth t.mask (tH prog w x) n).j∈t.place.toList:=Xn (by rw[Xu];exact hpl);have hn:n<N:=by
    rcases Nat.lt_trichotomy n N with z | z | z
    ·exact z
    ·subst z;exact absurd hin hN
    ·exact absurd (w2 N z) hN
   rcases YG n c with z | z
   ·exact hseen n i _ _ z hpl he rfl hx
   ·exact hcol n i _ _ hpl (g2 n i z hn hpl) he rfl hx
end
noncomputable abbrev PA2:=List Int×Addr
noncomputable abbrev ent (prog:Program)(w:World)(p:PA2):Int×Value:=(tH prog w p.1,.ref p.2)
structure Few (t:SetTable)(n:Nat):Prop where
 all:n<=76
 a:t.mask=7->n<=4
 b:t.mask=31->n<=18
noncomputable def HSet (prog:Program)(w:World)(h:Heap)(a:Addr)(ps:List PA2):Prop:=
 ∃es ep t,Rec w h a es ep t/\TabS t es/\Few t es.size/\es.toList.Perm (ps.map (ent prog w))/\(∀p∈ps,TK prog w h p.1 p.2)/\(ps.map (·.1)).Nodup
noncomputable def addP (ps:List PA2)(p:PA2):List PA2:=if p.1∈ps.map (·.1) then ps else p::ps
theorem zoP (ps:List PA2)(p:PA2):(addP ps p).length<=ps.length+1:=by
 unfold addP;split
 ·lia
 ·simp
theorem zoQ {ps:List PA2}{p q:PA2}(h:q∈addP ps p):q=p\/q∈ps:=by
 unfold addP at h;split at h
 ·exact .inr h
 ·exact Xx.mp h
theorem zfK:∀(qs ps:List PA2),(qs.foldl addP ps).length<=ps.length+qs.length
 | [],ps=>by simp
 | q::qs,ps=>by
  rw[YK];have h1:=zfK qs (addP ps q);have h2:=zoP ps q;rw[Ya];lia
theorem zfL:∀(qs ps:List PA2)(q:PA2),q∈qs.foldl addP ps->q∈ps\/q∈qs
 | [],ps,q,h=>.inl h
 | p::qs,ps,q,h=>by
  rcases zfL qs _ q h with z | z
  ·rcases zoQ z with rfl | z
   ·exact .inr Xj
   ·exact .inl z
  ·exact .inr (Xg _ z)
theorem zgs:∀(qs ps:List PA2)(y:List Int),y∈(qs.foldl addP ps).map (·.1)↔y∈ps.map (·.1)\/y∈qs.map (·.1)
 | [],ps,y=>by simp
 | p::qs,ps,y=>by
  rw[YK,zgs qs,Xy,Xx];unfold addP;split
  ·rename_i hp
   constructor
   ·rintro(h | h)
    ·exact .inl h
    ·exact .inr (.inr h)
   ·rintro(h | rfl | h)
    ·exact .inl h
    ·exact .inl hp
    ·exact .inr h
  ·rw[Xy,Xx];constructor
   ·rintro((h | h) | h)
    ·exact .inr (.inl h)
    ·exact .inl h
    ·exact .inr (.inr h)
   ·rintro(h | h | h)
    ·exact .inl (.inr h)
    ·exact .inl (.inl h)
    ·exact .inr h
section
variable {prog:Program}{w:World}{A:Around}{E:Value->Shared->Prop}{s:Shared}{a:Addr}
theorem TK.keep {h h':Heap}{y:List Int}{b:Addr}(x:TK prog w h y b)(k:∀o,h.get? b=some o->h'.get? b=some o):TK prog w h' y b:=by obtain⟨o,i,n,e,r⟩:=x;exact⟨o,i,n,k o e,r⟩
theorem TK.ne {h:Heap}{y:List Int}{b:Addr}{es:Array (Int×Value)}{ep:Nat}{t:SetTable}(x:TK prog w h y b)(r:Rec w h a es ep t):b≠a:=λe=>by
 subst e;obtain⟨o,i,n,e,c,d,_⟩:=x;obtain⟨o',e',_,d'⟩:=r.obj;rw[e]at e';cases e';rw[d]at d';cases d'
theorem TK.but {h h':Heap}{y:List Int}{b:Addr}{es:Array (Int×Value)}{ep:Nat}{t:SetTable}(x:TK prog w h y b)(r:Rec w h a es ep t)(k:Yh a h h'):TK prog w h' y b:=
 TK.keep x λo e=>(k.2 b (TK.ne x r)).trans e
theorem HSet.keep {h h':Heap}{ps:List PA2}(S:HSet prog w h a ps)(k:∀b o,(b=a\/b∈ps.map (·.2))->h.get? b=some o->h'.get? b=some o):HSet prog w h' a ps:=by
 obtain⟨es,ep,t,r,T,F,p,q,n⟩:=S;exact⟨es,ep,t,r.keep λo e=>k a o (.inl rfl) e,T,F,p,λx hx=>TK.keep (q x hx) λo e=>k _ o (.inr (Xt.mpr ⟨x,hx,rfl⟩)) e,n⟩
theorem HSet.ne {h:Heap}{ps:List PA2}{y:List Int}{b:Addr}(S:HSet prog w h a ps)(x:TK prog w h y b):b≠a:=by obtain⟨_,_,_,r,_⟩:=S;exact TK.ne x r
theorem zkx {α:Type}(xs:Array α)(p:Nat)(x:α):(Yf xs p x).toList.Perm (x::xs.toList):=by
 rw[zfd];exact List.perm_middle.trans (by rw[Yb])
theorem zpJ {t:SetTable}{es:Array (Int×Value)}(T:TabS t es)(h:es.size<=t.mask):t.fits es.size=true:=by
 unfold SetTable.fits SetTable.fill;rw[T.sz,T.dm];simp[h]
theorem addT {ps:List PA2}{y:List Int}{b:Addr}{Q:Bool->Shared->Prop}(hu:A.units<cLine)(hk:TK prog w s.heap y b)(S:HSet prog w s.heap a ps)(hroom:ps.length+1<=76)
  (h:∀h' bl,Yh a s.heap h'->HSet prog w h' a (addP ps (y,b))->Q bl { s with heap:=h' }):wpAny (model prog w) A (setAddHashed a (.ref b) (tH prog w y)) Q E s:=by
 have S0:=S;obtain⟨es,ep,t,r,T,F,hp,hT,nd⟩:=S;have hsz:es.size=ps.length:=by rw[<- Xv,hp.length_eq,Xc]
 have hlm:es.size+1<=t.mask:=by
  rcases T.msk with e | e | e
  ·have:=F.a e;lia
  ·have:=F.b e;lia
  ·lia
 have hE:Ents prog w s.heap es:=λi e he=>by
  have:e∈ps.map (ent prog w):=hp.mem_iff.mp (Xn (by rw[Xu];exact he));obtain⟨p,h1,rfl⟩:=Xt.mp this;exact⟨p.1,p.2,rfl,hT p h1⟩
 obtain⟨N,n1,n2,n3⟩:=T.free (by lia) (tH prog w y);unfold setAddHashed;refine wpAny_holding ?_;show wpAny _ _ (bind (setState a) _) _ _ s;refine wpAny_bind (zaJ r ?_);dsimp only;have hns:byScan (.ref b) es=false:=rfl;rw[hns];simp only[Xz,if_false];unfold setSearch;refine wpAny_bind (zio hu r T hE hk n2 n3 n1 (λhex=>?_) (λhno=>?_) 100000 0 none (XU _) (by rcases T.msk with e | e | e<;>rw[e]at n1<;>lia) rfl (λd i e q hd=>absurd hd (Nat.not_lt_zero _)))
 ·obtain⟨i,e,c,e1,e2,e3⟩:=hex;obtain⟨p,h1,rfl⟩:=Xt.mp (hp.mem_iff.mp (Xn (by rw[Xu];exact e1)));cases e2;have hy:y∈ps.map (·.1):=Xt.mpr ⟨p,h1,(hT p h1).inj e3⟩;have ea:addP ps (y,b)=ps:=by unfold addP;rw[if_pos hy]
  have q:=h s.heap false (Yh.refl a s.heap) (by rw[ea];exact S0);exact wpAny_pure q
 ·have hy:y∉ps.map (·.1):=λz=>by
   obtain⟨p,h1,rfl⟩:=Xt.mp z;have:ent prog w p∈es.toList:=hp.mem_iff.mpr (Xt.mpr ⟨p,h1,rfl⟩);obtain⟨i,hi,e⟩:=YH.mp this;exact hno i _ p.2 (by rw[<- Xu,Xa hi,e]) rfl (hT p h1)
  have ea:addP ps (y,b)=(y,b)::ps:=by unfold addP;rw[if_neg hy]
  rw[ea]at h;refine wpAny_bind (zaJ r ?_);obtain⟨m1,l1,pl1,T1⟩:=T.put (x:=.ref b) n2 n3;generalize hput:t.put (pth t.mask (tH prog w y) N).j=tp at m1 l1 pl1 T1 ⊢;obtain⟨t1,ix⟩:=tp;dsimp only at m1 l1 pl1 T1 ⊢;have z1:(Yf es ix (tH prog w y,Value.ref b)).size=es.size+1:=by
   rw[<- Xv,(zkx _ _ _).length_eq,Ya,Xv]
  have p1:(Yf es ix (tH prog w y,Value.ref b)).toList.Perm (((y,b)::ps).map (ent prog w)):=(zkx _ _ _).trans (hp.cons _);have nd1:(((y,b)::ps).map (·.1)).Nodup:=Yi.mpr ⟨hy,nd⟩;generalize hes:Yf es ix (tH prog w y,Value.ref b)=es1 at T1 z1 p1 ⊢;have f1:t1.fits es1.size=true:=zpJ T1 (by rw[z1,m1];exact hlm);have sc:scanBound > 1000:=by decide
  have b1:es1.size<scanBound:=by lia
  have r1:=zgK (w:=w) r f1 l1 ⟨T1.asc,T1.dm⟩ b1;have sb1:=Yh.update s.heap a (Obj.putSet es1 t1);have hT1:∀p∈(y,b)::ps,TK prog w (s.heap.update a (Obj.putSet es1 t1)) p.1 p.2:=λp hp'=>by
   rcases Xx.mp hp' with rfl | hp'
   ·exact TK.but hk r sb1
   ·exact TK.but (hT p hp') r sb1
  have tail:wpAny (model prog w) A (do
    storeSet a es1 t1
    if (!false&&t1.tooFull)=true then do
     setRelay a (YI (es.size+1))
     pure true
    else pure true) Q E s:=by
   refine wpAny_bind (zdQ r b1 ?_);have hfull:t1.tooFull=decide ((es.size+1)*5>=t.mask*3):=by
    unfold SetTable.tooFull SetTable.fill;rw[T1.sz,T1.dm,m1,z1];rfl
   by_cases hf:(es.size+1)*5>=t.mask*3
   ·rw[hfull,decide_eq_true hf];simp only[Bool.not_false,Bool.and_true,if_true];unfold setRelay;have hgr:∃m,YO (YI (es.size+1))=m+1/\((m=31/\es.size+1=5)\/(m=127/\es.size+1=19)):=by
     rcases T.msk with e | e | e
     ·have:=F.a e;have e5:es.size=4:=by lia
      rw[e5];exact⟨31,by decide,.inl ⟨rfl,rfl⟩⟩
     ·have:=F.b e;have e5:es.size=18:=by lia
      rw[e5];exact⟨127,by decide,.inr ⟨rfl,rfl⟩⟩
     ·lia
    obtain⟨m,g1,g2⟩:=hgr;obtain⟨t2,order,e1,e2,e3,e4,T2⟩:=zny (t:=t1) (es:=es1) (n:=YI (es.size+1)) (by rw[g1];rcases g2 with ⟨z,_⟩ | ⟨z,_⟩<;>rw[z]<;>simp[okM]) (by rw[g1,z1];lia)
    have z2:(order.filterMap (es1[·]?)).size=es1.size:=by rw[<- Xv,e2.length_eq,Xv]
    refine wpAny_bind (wpAny_bind (zaJ r1 ?_));dsimp only;have hsl:¬ YO (YI (es.size+1)) > sizeLine:=by
     rw[g1];have:sizeLine > 1000:=by decide
     rcases g2 with ⟨z,_⟩ | ⟨z,_⟩<;>lia
    rw[if_neg hsl,e1];refine wpAny_bind ?_;show wpAny _ _ (if ((order.filterMap (es1[·]?)).size != es1.size)=true then _ else _) _ _ _
    rw[if_neg (by rw[z2];simp)];refine wpAny_pure (zdQ (s:={ s with heap:=s.heap.update a (Obj.putSet es1 t1) }) r1 (by rw[z2];exact b1) (wpAny_pure ?_));have f2:t2.fits (order.filterMap (es1[·]?)).size=true:=zpJ T2 (by rw[z2,z1,e3,g1];lia);have r2:=zgK (w:=w) r1 f2 e4 ⟨T2.asc,T2.dm⟩ (by rw[z2];exact b1);have sb2:=Yh.update (s.heap.update a (Obj.putSet es1 t1)) a (Obj.putSet (order.filterMap (es1[·]?)) t2);refine h _ true (sb1.trans sb2) ⟨_,_,t2,r2,T2,⟨by lia,λe=>?_,λe=>?_⟩,e2.trans p1,λp hp'=>TK.but (hT1 p hp') r1 sb2,nd1⟩
    ·rw[e3,g1]at e;lia
    ·rw[e3,g1]at e;lia
   ·rw[hfull,decide_eq_false hf];simp only[Bool.not_false,Bool.and_false,Xz,if_false];exact wpAny_pure (h _ true sb1 ⟨es1,_,t1,r1,T1,⟨by lia,λe=>by rw[m1]at e;rw[e]at hf;lia,λe=>by rw[m1]at e;rw[e]at hf;lia⟩,p1,hT1,nd1⟩)
  cases hpl:t1.plain with
  | true=>
   simp only[if_true];refine wpAny_bind (zuh hk ?_);exact tail
  | false=>
   simp only[Xz,if_false];refine wpAny_bind (wpAny_pure ?_);exact tail
end
theorem zoR {prog:Program}{w:World}{h:Heap}{a:Addr}(e:h.get? a=some (zbx w)):HSet prog w h a []:=by
 refine⟨#[],0,_,⟨⟨_,e,⟨rfl,rfl,rfl⟩,rfl⟩,by rfl,?_,List.Pairwise.nil,rfl,by decide⟩,TabS.fresh _ _ _,⟨by decide,λ_=>by decide,λ_=>by decide⟩,by simp,λp hp=>(by cases hp),List.nodup_nil⟩;show(!byText w)=true\/byText w=true;cases byText w
 ·exact .inl rfl
 ·exact .inr rfl
section
variable {prog:Program}{w:World}{A:Around}{R:Result->Shared->Prop}{I:Addr}{fp wr:List Addr}{G:Array GenState->Array GenState->Prop}{n:Nat}{P:Nat->Value->Prop}{St:Nat->Shared->Prop}
theorem ziq (hu:A.in1.units<cLine)(W:WalksS prog w A.in1 I fp wr G n P St)(S:Addr)(hSf:S∉fp)(ps:List PA2)(hn:ps.length=n)(hval:∀i v,P i v->∃p,ps[i]? = some p/\v=.ref p.2)(hw:∀p∈ps,p.2∉S::wr)(hb:n<=76) :
  ∀(k i:Nat) (s:Shared),n-i=k->i<=n->St i s->(∀p∈ps,TK prog w s.heap p.1 p.2)->HSet prog w s.heap S ((ps.take i).foldl addP [])->
   (∀s',Moved (S::wr) G s s'->HSet prog w s'.heap S (ps.foldl addP [])->R (.ok (.ret .none)) s')->
   codeAny (model prog w) A (.builtin "set.update.loop" ⟨[.ref S,.ref I],[]⟩) R s:=by
 have hSw:S∉wr:=λh=>hSf (W.sub _ h);have hsub:∀i,∀q∈((ps.take i).foldl addP []),q∈ps:=λi q hq=>by
  rcases zfL _ _ q hq with z | z
  ·cases z
  ·exact List.mem_of_mem_take z
 intro k;induction k with
 | zero=>
  intro i s hk hi hst hT hS hR;have hin:i=n:=by lia
  subst hin;refine codeAny_builtin PyProof.Rows.F.entry_set_update_loop ?_;rw[Around.under_plainId PyProof.Rows.F.plain_set_update_loop _];show wpAny _ A.in1 (pyNext (.ref I) >>= _) _ _ s;refine wpAny_bind (W.done s _ _ hst λs' hm=>wpAny_pure (hR s' (hm.mono λb hb=>Xg _ hb) ?_));have hS2:=hS.keep (h':=s'.heap) λb o hb e=>hm.heap b o (by
   rcases hb with rfl | hb
   ·exact hSw
   ·obtain⟨q,hq,rfl⟩:=Xt.mp hb;exact λz=>hw q (hsub i q hq) (Xg _ z)) e
  rw[Xi (by lia)]at hS2;exact hS2
 | succ k ih=>
  intro i s hk hi hst hT hS hR;have hlt:i<n:=by lia
  refine codeAny_builtin PyProof.Rows.F.entry_set_update_loop ?_;rw[Around.under_plainId PyProof.Rows.F.plain_set_update_loop _];show wpAny _ A.in1 (pyNext (.ref I) >>= _) _ _ s;refine wpAny_bind (W.item i s _ _ hlt hst λv s' hP hst' hm=>?_);obtain⟨p,hp,rfl⟩:=hval i v hP;have hpm:p∈ps:=Xn hp;have hT':∀p∈ps,TK prog w s'.heap p.1 p.2:=λq hq=>TK.keep (hT q hq) λo e=>hm.heap _ o (λz=>hw q hq (Xg _ z)) e;have hS':=hS.keep (h':=s'.heap) λb o hb e=>hm.heap b o (by
   rcases hb with rfl | hb
   ·exact hSw
   ·obtain⟨q,hq,rfl⟩:=Xt.mp hb;exact λz=>hw q (hsub i q hq) (Xg _ z)) e
  show wpAny _ A.in1 (holding [.ref p.2] (setAdd S (.ref p.2)) >>= _) _ _ s';refine wpAny_bind (wpAny_holding ?_);unfold setAdd;refine wpAny_holding (wpAny_bind (wpAny_pyHash_tuple hu (hT' p hpm) ?_));have hroom:((ps.take i).foldl addP []).length+1<=76:=by
   have q:=zfK (ps.take i) [];rw[XH]at q;simp at q;lia
  refine addT (s:={ s' with toks:=s'.toks+(p.1.length+1) }) hu (hT' p hpm) hS' hroom λh' b hsb hS2=>?_;have hSi:HSet prog w h' S ((ps.take (i+1)).foldl addP []):=by
   rw[XD,hp,List.foldl_append];exact hS2
  refine wpAny_pure ⟨plainId_quiet PyProof.Rows.F.plain_set_update_loop _,ih (i+1) _ (by lia) hlt (W.frame _ s' _ _ hst' (Nat.le_add_right _ _) λb hb o e=>?_) (λq hq=>TK.keep (hT' q hq) λo e=>(hsb.2 _ (hS'.ne (hT' q hq))).trans e) hSi λs'' hm'' hS''=>?_⟩
  ·rw[hsb.2 b (λh:b=S=>hSf (by rw[<- h];exact hb))];exact e
  ·refine hR s'' (Moved.trans W.gtrans ((hm.mono λb hb=>Xg _ hb).then_heap (Nat.le_add_right _ _) λb o hb e=>?_) hm'') hS'';rw[hsb.2 b (λh:b=S=>hb (by rw[h];exact Xj))];exact e
end
section
variable {prog:Program}{w:World}{A:Around}{E:Value->Shared->Prop}{s:Shared}
theorem zfM {l:Addr}{ps:List PA2}{Q:Value->Shared->Prop}(hu:A.units+16<cLine)(hh:A.handled=none)(hl:s.heap.IsList l (ps.map λp=>Value.ref p.2).toArray)(hT:∀p∈ps,TK prog w s.heap p.1 p.2)(hb:ps.length<=76)
  (h:∀(h':Heap) (tk:Nat),HSet prog w h' s.heap.objs.size (ps.foldl addP [])->(∀b o,s.heap.get? b=some o->h'.get? b=some o)->Q (.ref s.heap.objs.size) { s with heap:=h',toks:=tk }) :
  wpAny (model prog w) A (call (.type "set") [.ref l]) Q E s:=by
 refine zhF (SP:=λh S=>HSet prog w h S (ps.foldl addP [])) hh hl (λ{A' R I fp wr G P St} W S hA hSf hP hlt s1 kp hst hS hR=>?_) h;refine ziq (by show A'.units+1<_;lia) W S hSf ps (by simp) (λi v hv=>?_) (λp hp=>?_) (by simp;omega) _ 0 s1 rfl (XU _) hst (λp hp=>TK.keep (hT p hp) λo e=>kp _ o e) (zoR hS) hR
 ·have:=hP i v hv;rw[List.getElem?_toArray,Xd]at this;cases e:ps[i]? with
  | none=>rw[e]at this;cases this
  | some p=>rw[e]at this;cases this;exact⟨p,rfl,rfl⟩
 ·obtain⟨o,_,_,ho,_⟩:=hT p hp;exact hlt _ (XA ho)
end
open PySem PySem.Spec PyProof.Rows _S
theorem zgt {α β:Type}{f:α->β}:∀ {l:List β}{m:List α},l.Perm (m.map f)->∃m':List α,m'.Perm m/\l=m'.map f
 | [],m,h=>by
  have:=List.nil_perm.mp h;have:m=[]:=List.map_eq_nil_iff.mp this;subst this;exact⟨[],.refl _,rfl⟩
 | x::l,m,h=>by
  obtain⟨a,ha,rfl⟩:=Xt.mp (h.mem_iff.mp Xj);obtain⟨m1,m2,rfl⟩:=List.append_of_mem ha;have h2:(f a::l).Perm (f a::(m1++m2).map f):=h.trans (by rw[Xm,Xm,Xy];exact List.perm_middle);obtain⟨m',q1,q2⟩:=zgt ((List.perm_cons _).mp h2);exact⟨a::m',(q1.cons a).trans List.perm_middle.symm,by rw[q2];rfl⟩
noncomputable def RSet (prog:Program)(w:World)(h:Heap)(a:Addr)(ps:List PA2):Prop:=∃es ep t,Rec w h a es ep t/\es.toList.Perm (ps.map (ent prog w))
theorem HSet.rset {prog:Program}{w:World}{h:Heap}{a:Addr}{ps:List PA2}(S:HSet prog w h a ps):RSet prog w h a ps:=by obtain⟨es,ep,t,r,_,_,p,_⟩:=S;exact⟨es,ep,t,r,p⟩
theorem RSet.keep {prog:Program}{w:World}{h h':Heap}{a:Addr}{ps:List PA2}(S:RSet prog w h a ps)(k:∀o,h.get? a=some o->h'.get? a=some o):RSet prog w h' a ps:=by obtain⟨es,ep,t,r,p⟩:=S;exact⟨es,ep,t,r.keep k,p⟩
section
variable {prog:Program}{w:World}{A:Around}{E:Value->Shared->Prop}{s:Shared}{a:Addr}
theorem zju {ps:List PA2}{Q:Value->Shared->Prop}(hh:A.handled=none)(S:RSet prog w s.heap a ps)(hT:∀p∈ps,TupAt s.heap (.ref p.2) p.1/\p.1≠[])(hsz:ps.length<=sizeLine)
  (h:∀(h1 h':Heap) (d:Drawn) (tk:Nat) (us:List (Addr×List Int)) (e:Nat),us.Perm (ps.map λp=>(p.2,p.1))->(us.map (·.2)).Pairwise (λx y=>ltI y x=false)->(∀b o,s.heap.get? b=some o->h1.get? b=some o)->(∀b o,h1.get? b=some o->h'.get? b=some o)->h'.get? h1.objs.size=some { cls:=.type "list",data:=.seq (refsOf us).toArray e }->
   Q (.ref h1.objs.size) { s with heap:=h',drawn:=d,toks:=tk }):wpAny (model prog w) A (call (.builtin "sorted") [.ref a]) Q E s:=by
 refine Calls.call_function_entry kind_sorted plain_sorted entry_sorted (args_sorted1 _) ?_;unfold Builtin.«sorted»;refine wpAny_bind (m:=checkCount "sorted" 1 1 _) (wpAny_pure ?_);obtain⟨es,ep,t,r,hp⟩:=S;refine wpAny_bind (zfq (by simpa using hh) r λh1 d tk order ho kp=>?_);have ho2:order.Perm ((ps.map λp=>(p.2,p.1)).map λu:Addr×List Int=>Value.ref u.1):=by
  refine ho.trans ((hp.map _).trans ?_);rw[Ym,Ym];exact .refl _
 obtain⟨us,hu,rfl⟩:=zgt ho2;have hlen:us.length=ps.length:=by rw[hu.length_eq,Xc]
 refine wpAny_bind (wpAny_newList ?_);have hoL:(h1.push (seqObj "list" (refsOf us).toArray 0)).get? h1.objs.size=some (seqObj "list" (refsOf us).toArray 0):=XC _ rfl;refine wpAny_bind (wpAny_holding (wpAny_call_entry slot_list_sort ⟨_,hoL,rfl⟩ entry_list_sort (zed (s:={ s with heap:=h1.push (seqObj "list" (refsOf us).toArray 0),drawn:=d,toks:=tk }) hoL (λu hu'=>?_) (by lia) λus' a1 a2=>⟨_,rfl,?_⟩) (args_list_sort _)))
 ·obtain⟨p,hp',rfl⟩:=Xt.mp (hu.mem_iff.mp hu');obtain⟨⟨b,o,vs,m,e,hb,c⟩,z⟩:=hT p hp';exact⟨⟨b,o,vs,m,e,Xh _ (kp b o hb),c⟩,z⟩
 ·obtain⟨e,he⟩:=sortedHeap_at (out:=(refsOf us').toArray) hoL;refine wpAny_pure ⟨_,rfl,h h1 _ d tk us' e (a1.trans hu) a2 kp (λb o hb=>?_) he⟩;have hlt:b<h1.objs.size:=XA hb;rw[sortedHeap_old (XJ hlt) (by rw[size_push'];exact YN hlt)];exact Xh _ hb
end
end _J
namespace _L
open PySem PySem.Spec PyProof.Rows
theorem zky {P:Program}{w:World}:∀ {ns:List Int}{its:List Value},Vals (ns.map V.int) its->ItemsAre (PySem.intKind P w) ns its
 | [],_,r=>by cases r;exact .nil
 | n::ns,_,r=>by
  cases r with
  | cons r1 r2=>
   obtain⟨t,rfl⟩:=(show ∃t,_=Value.int n t from r1);exact .cons (intKind_is _ _ n t) (zky r2)
noncomputable def zjv (P:Program)(w:World)(a:Addr)(ps:List _J.PA2):HO:=.ext λh=>_J.RSet P w h a ps
noncomputable abbrev swp (us:List (Addr×List Int)):List _J.PA2:=us.map λu=>(u.2,u.1)
section
variable {X:Cx}
theorem zfM (hu:X.A.units+16<cLine)(hc:X.calm=true):zcr X (.type "set") (λxs H Q=>∃(p:Addr) (us:List (Addr×List Int)),xs=[.ref p]/\SqL X.K H p (us.map λu=>V.ref u.1)/\(∀u∈us,SqT X.K H u.1 (u.2.map V.int))/\us.length<=76/\∀l,H l=none->Q (.ref l) (upd H l (zjv X.prog X.w l ((swp us).foldl _J.addP [])))):=by
 intro pins s σ H xs us Q I r h;obtain⟨p,us,rfl,hp,hT,hz,q⟩:=h;obtain⟨u,rfl,rx⟩:=vals1 r;cases rx;obtain⟨its,r,ht,_⟩:=I.list hp;have ei:=zfG r;subst ei;have er:_S.refsOf us=(swp us).map λp=>Value.ref p.2:=by unfold swp;rw[Ym];rfl
 refine _J.zfM (ps:=swp us) hu (I.ok.hd hc) (by rw[<- er];exact ht.isList) (λp hp'=>?_) (by unfold swp;rw[Xc];exact hz) λh' tk hS kp=>?_
 ·obtain⟨u,hu,rfl⟩:=Xt.mp hp';obtain⟨its2,rv,⟨o,ho,hc,n,hd⟩,_⟩:=I.tuple (hT u hu);exact⟨o,_,n,ho,hc,hd,zky rv⟩
 ·refine⟨.ref s.heap.objs.size,_,I.laid (t':=tk) (o:=zjv X.prog X.w s.heap.objs.size ((swp us).foldl _J.addP [])) kp (Xf _) ?_,rfl,q _ I.fresh⟩;have hS:=hS.rset;obtain⟨es,ep,t,rc,_⟩:=id hS;obtain⟨o,ho,_⟩:=rc.obj;exact⟨hS,⟨o,ho⟩,λh1 h2 hs k=>_J.RSet.keep hs k⟩
theorem zhh (hc:X.calm=true):zcr X (.builtin "sorted") (λxs H Q=>∃(p:Addr) (ps:List _J.PA2),xs=[.ref p]/\H p=some (zjv X.prog X.w p ps)/\(∀u∈ps,SqT X.K H u.2 (u.1.map V.int)/\u.1≠[])/\ps.length<=76/\
  ∀(l:Addr) (us:List (Addr×List Int)),H l=none->us.Perm (ps.map λp=>(p.2,p.1))->(us.map (·.2)).Pairwise (λx y=>_S.ltI y x=false)->Q (.ref l) (upd H l (.lst (us.map λu=>V.ref u.1)))):=by
 intro pins s σ H xs us Q I r h;obtain⟨p,ps,rfl,hp,hT,hz,q⟩:=h;obtain⟨u,rfl,rx⟩:=vals1 r;cases rx;obtain⟨hS,_,_⟩:=(show zbi X.prog X.w H s.heap p (zjv X.prog X.w p ps) from I.hok p _ hp);have hsl:=sizeLine_eq;refine _J.zju (I.ok.hd hc) hS (λu hu=>?_) (by lia) λh1 h' d tk us e a1 a2 kp kp' he=>?_
 ·obtain⟨g1,g2⟩:=hT u hu;obtain⟨its2,rv,⟨o,ho,hc,n,hd⟩,_⟩:=I.tuple g1;exact⟨⟨u.2,o,its2,n,rfl,ho,hc,hd,ints_of rv⟩,g2⟩
 ·have I1:Inv X pins σ H { s with heap:=h1,drawn:=d,toks:=tk }:=I.call' (ch:=[]) rfl (Un.kept kp) (I.hok.kept kp) I.bare (λ_ z=>nomatch z);have hl2:us.length=ps.length:=by rw[a1.length_eq,Xc]
  refine⟨.ref h1.objs.size,_,I1.laid (h':=h') (t':=tk) (o:=.lst (us.map λu=>V.ref u.1)) kp' (Xf _) ?_,rfl,q _ us (I1.hok.fresh (Xf _)) a1 a2⟩;exact⟨by rw[Xc];lia,_S.refsOf us,e,zfH us,he⟩
end
end _L
namespace _P
open PySem PySem.Spec _L
open PyProof.Rows hiding St
section
variable {X:Cx}{e:Expr}{te:TPE}{p p2 pos pos2:Pos}
noncomputable def zir (te:TPE):TPE:=λρ Q=>te ρ λd _=>∃ss:List (List Int),d=.lst (ss.map λr=>PV.tup (r.map PV.int))/\(∀r∈ss,r≠[])/\ss.length<=76/\∀zs:List (List Int),zs.Nodup->zs.Pairwise (λx y=>_S.ltI y x=false)->(∀x,x∈zs↔x∈ss)->Q (.lst (zs.map λr=>PV.tup (r.map PV.int))) .new
theorem zgu:∀(qs ps:List _J.PA2),(ps.map (·.1)).Nodup->((qs.foldl _J.addP ps).map (·.1)).Nodup
 | [],_,h=>h
 | q::qs,ps,h=>by
  rw[YK];refine zgu qs _ ?_;unfold _J.addP;split
  ·exact h
  ·rename_i hy
   exact Yi.mpr ⟨hy,h⟩
theorem zjw (hu:X.A.units+16<cLine)(hc:X.calm=true)(hg:Gl X "sorted") (hm:X.mg "sorted" = none) (hg2:Gl X "set") (hm2:X.mg "set" = none) (he:PuE X e te)
  (hs1:autoParam (starEach [e] X.env=(false,eval e X.env)::starEach [] X.env) aU0) (hpl1:autoParam ((backTo pos2 (starEach [] X.env)).any (·.1)=false) aU0)
  (hs2:autoParam (starEach [Expr.Call (.Name "set" p2) [e] [] pos2] X.env=(false,eval (Expr.Call (.Name "set" p2) [e] [] pos2) X.env)::starEach [] X.env) aU0) (hpl2:autoParam ((backTo pos (starEach [] X.env)).any (·.1)=false) aU0) :
  PuE X (.Call (.Name "sorted" p) [.Call (.Name "set" p2) [e] [] pos2] [] pos) (zir te) where
 mono ρ Q Q' m h:=he.mono ρ _ _ (λd k q142q=>by obtain⟨ss,e1,e2,e3,q⟩:=q142q;exact⟨ss,e1,e2,e3,λzs h1 h2 h3=>m _ _ (q zs h1 h2 h3)⟩) h
 run:=PE.weak (zeU (zhh hc) hg hm zgP (zca (zfm (zfM hu hc) hg2 hm2 bSet (zca he.run zcF hs1) (by decide) (by decide) hs1 hpl1) zcF hs2) (by decide) (by decide) hs2 hpl2) λσ H Q h=>by
  obtain⟨ρ,Fz,R,h⟩:=h;refine⟨ρ,Fz,R,he.mono ρ _ _ (λd k q v F1 H1 p1=>?_) h⟩;obtain⟨ss,rfl,e2,e3,q⟩:=q;obtain⟨a,xs,rfl,h1,h2⟩:=zan (p1.root R);obtain⟨us,rfl,g2,g3⟩:=zfI h2;have hlen:us.length=ss.length:=by rw[<- g2,Xc]
  have hmem:∀u∈(swp us).foldl _J.addP [],(u.2,u.1)∈us:=λu hu=>by
   rcases _J.zfL _ _ u hu with z | z
   ·cases z
   ·obtain⟨v,hv,rfl⟩:=Xt.mp z;exact hv
  refine⟨a,us,rfl,h1,λu hu=>SqT.of (g3 u hu),by lia,λst hst=>?_⟩;have hne:∀u∈us,u.1≠st:=λu hu z=>by have:=g3 u hu;rw[z,hst]at this;cases this
  have hq1:=_J.zfK (swp us) [];unfold swp at hq1;rw[Xc]at hq1;simp only[List.length_nil,Nat.zero_add]at hq1;have x2:Ext F1 H1 F1 (upd H1 st (zjv X.prog X.w st ((swp us).foldl _J.addP []))):=Ext.laid ⟨Same.refl _,λ_ h=>h,λ_ h=>.inl h,p1.ext.al⟩ hst;refine⟨st,_,rfl,zag,λu hu=>⟨SqT.of (by rw[zaf (hne _ (hmem u hu))];exact g3 _ (hmem u hu)),e2 _ (by rw[<- g2];exact Xt.mpr ⟨_,hmem u hu,rfl⟩)⟩,by unfold swp;lia,λl us' hl hz hs=>?_⟩;have hmem':∀u∈us',u∈us:=λu hu=>by
   obtain⟨p,hp,rfl⟩:=Xt.mp (hz.mem_iff.mp hu);exact hmem p hp
  have hk:(us'.map (·.2)).Perm (((swp us).foldl _J.addP []).map (·.1)):=by
   have:=hz.map (·.2);rw[Ym]at this;exact this
  have p3:Post X.K [] [] F1 (upd H1 st (zjv X.prog X.w st ((swp us).foldl _J.addP []))) F1 (upd (upd H1 st (zjv X.prog X.w st ((swp us).foldl _J.addP []))) l (.lst (us'.map λu=>V.ref u.1))) (.lst ((us'.map (·.2)).map λr=>PV.tup (r.map PV.int))) .new (.ref l):=
   Post.newL x2.al hl (zfJ us' λu hu=>by rw[zaf (hne _ (hmem' u hu))];exact g3 _ (hmem' u hu))
  refine q (us'.map (·.2)) (hk.nodup_iff.mpr (zgu _ _ List.nodup_nil)) hs (λx=>?_) _ F1 _ (p3.behind (p1.ext.trans x2));rw[hk.mem_iff,_J.zgs,<- g2];unfold swp;rw[Ym];constructor
  ·rintro(z | z)
   ·cases z
   ·exact z
  ·exact .inr
end
end _P
namespace _Q
open PySem PySem.Spec _L _P
open PyProof.Rows hiding St
noncomputable def top (i:Nat):Stmt:=PySem.Challenge.pw_joinwood_k52_whole_by_letters.main.body.getD i (.Pass ⟨0,0,0,0⟩)
noncomputable abbrev zaL:Stmt:=top 1
noncomputable abbrev zaW:Stmt:=top 2
noncomputable abbrev zbt:Stmt:=top 3
noncomputable abbrev zaO:Stmt:=top 4
noncomputable abbrev zaB:Stmt:=top 5
noncomputable abbrev zci:Stmt:=top 7
noncomputable abbrev zbc:Stmt:=top 8
noncomputable abbrev zaQ:Stmt:=top 10
noncomputable abbrev zao:Stmt:=top 11
noncomputable abbrev zav:Stmt:=top 12
noncomputable abbrev zbu:Stmt:=top 13
noncomputable abbrev sMix:Stmt:=top 15
noncomputable abbrev zbC:Stmt:=top 16
noncomputable abbrev zef:Stmt:=top 17
noncomputable abbrev zbV:Stmt:=top 18
noncomputable abbrev zez:Stmt:=top 19
noncomputable abbrev zcO:Stmt:=top 20
noncomputable abbrev zeg:Stmt:=top 21
noncomputable abbrev zcH:Stmt:=top 22
noncomputable abbrev sCut:Stmt:=top 23
noncomputable abbrev sLaw:Stmt:=top 24
noncomputable def ixS (ls:List Str)(w:Str):Nat:=idxP (ls.map PV.str) (.str w)
theorem zcI {ls:List Str}{w:Str}(h:w∈ls):ixS ls w<ls.length:=by
 have:idxP (ls.map PV.str) (.str w)<(ls.map PV.str).length:=List.findIdx_lt_length_of_exists ⟨.str w,Xt.mpr ⟨w,h,rfl⟩,by simp⟩;simpa[ixS]using this
noncomputable def cellsOf (row:List PV)(ls ws:List Str):List PV:=ws.map λw=>row.getD (ixS ls w) .non
noncomputable def zcp:PF:=λds Q=>∃(row:List PV)(lp:PV)(ls ws:List Str),ds=[.tup row,lp,.lst (ws.map PV.str)]/\(lp=.lst (ls.map PV.str)\/lp=.tup (ls.map PV.str))/\(∀w∈ws,w∈ls)/\ls.length=row.length/\ws.length<=100/\Q (.tup (cellsOf row ls ws)) .frz
theorem zcP:zbE zcp:=λds Q Q' m q143q=>by obtain⟨a,b,c,d,e,h1,h2,h3,h4,q⟩:=q143q;exact⟨a,b,c,d,e,h1,h2,h3,h4,m _ _ q⟩
theorem zfN (ls:List Str):(ls.map PV.str).all zfC=true:=by simp[zfC]
open Lean in
def puM:MacroM (TSyntax `tactic):=do
 let es<-("zcp pFrz zbe zjl zlj zfe zcQ zfO pNeg fMix zei zfi zgr zbZ zbW zbH zbA fNames zim zda zeD zcZ zir ziB znK zkP zkQ fCut".splitOn " ").filterM λn=>return !(<-Macro.resolveGlobalName n.toName).isEmpty;let ls<-("pSeq zdi zbP bxIf zdA zdB zbQ zdj zaz zcg zcf rdE rdT BX.pv pIdx fSum fOrd zdk zdD zce zbR zdC zbI pSet pRet pIf zdv zbN mApp zdy zcc zdz zbf zcK zbp zcL t2 i0 i2 pVar pC zby pNil pTup pLst noOwn isOwn tBl blP zcJ tOrP zdu tTru zdd TruP zdc tIfE pEq pIn pIx ixV pCat _P.tB fLen LenP zde zbO fIsi zbn zaP pSlL zdf zdg zcv zbj iLst zdw pDI zdh fAll zcd iDic pFor zcb _P.plain zbg zbM blkP List.map_cons List.map_nil List.length_cons List.length_nil List.cons_append List.nil_append List.replicate List.getElem?_cons_zero List.getElem?_cons_succ List.getElem?_nil Option.getD_some Option.getD_none List.set_cons_zero List.set_cons_succ List.cons.injEq Option.some.injEq Prod.mk.injEq PV.int.injEq PV.bl.injEq PV.str.injEq PV.lst.injEq PV.tup.injEq PV.ty.injEq PV.dK.injEq exists_eq_left' exists_eq_left exists_eq' exists_eq exists_and_left exists_and_right exists_eq_right true_and and_true reduceCtorEq false_and and_false false_or or_false exists_false exists_const Bool.false_eq_true if_true if_false and_assoc ite_true ite_false Bool.not_eq_true' decide_eq_true_eq decide_eq_false_iff_not Bool.not_false Bool.not_true true_or or_true not_true_eq_false not_false_eq_true Bool.and_eq_true Nat.zero_add Nat.sub_self Nat.reduceAdd Nat.reduceSub implies_true ne_eq zbD zaX Bool.true_and Bool.and_true List.all_nil".splitOn " "++es).toArray.mapM λn=>`(Lean.Parser.Tactic.simpLemma|$(mkIdent n.toName):term)
 `(tactic|first|(dsimp only[$ls,*];try simp only[$ls,*])|simp only[$ls,*])
local macro_rules | `(tactic| walk_at "pu")=>puM
local macro_rules | `(tactic| walk_at "go")=>`(tactic| ((first | (with_reducible refine hold ?_) | (with_reducible refine zbv ?_) | (with_reducible refine zdW ?_));walk_at "pu"))
local macro_rules | `(tactic| walk_at "side")=>`(tactic| first | assumption | decide | lia | exact⟨by decide,by decide⟩ | exact⟨by decide,by decide,by decide⟩ | exact Or.inl ⟨by lia,by lia⟩ | exact Or.inr ⟨by lia,by lia⟩)
local macro_rules | `(tactic| walk_at "auto")=>`(tactic| repeat (first | ((with_reducible refine hold ?_);walk_at "pu") | ((with_reducible refine zbv ?_);walk_at "pu") | ((with_reducible refine And.intro ?_ ?_);(· walk_at "side"))))
section
variable {P:Program}{w:World}{K:Xb}{mg:Str->Option Value}{base:Heap}
theorem zis:zaw ["row","letters","wanted"] ["row","letters","wanted"] (zac zaL):=⟨rfl,rfl,rfl,by decide +kernel,rfl,by decide +kernel,by decide +kernel⟩
theorem zeA {f:Addr}{fd:FuncData}(F:Fun K "cells_of" "cells_of" zaL f fd) (B:Bl mg):FnOk P w K mg base CX0 1 f fd ["row","letters","wanted"] (spP K zcp):=by
 refine zaH F zis (λds Q q144q=>by obtain⟨a,b,c,d,e,_⟩:=q144q;rw[e];rfl) (λcdv A outer s H E hr=>?_);have hu:(A.deeper (envOfC "cells_of" (zac zaL) s.heap.objs.size f cdv)).units+16<cLine:=by have q:=hr.units;lia
 have nd:=zis.nd;refine⟨_,(zah (zar (zcB rfl B.tuple (zaa (zaG (N:=["letter","row","letters"]) (k:=1) (js:=[0,1]) rfl (zcm (sup:=zac zaL) (XN:=["row","letters","wanted"]) rfl rfl (by decide +kernel)) (by decide) (zaC (by decide)) (zas (zab 2)) ⟨λ_ _ _ _ _=>(zaj (i:=0) (by show(["letter","row","letters"]:List Str).Nodup;decide +kernel) rfl (Or.inl rfl)),λ_ _ _ _ _=>zaU,λ_ _ _ _ _=>(zax (zab 1) (zgZ (zab 2) (zab 0)))⟩) zad)))),λds Q h=>?_⟩;obtain⟨row,lp,ls,ws,rfl,hlp,hws,hll,h100,q⟩:=h;walk_at "pu";refine⟨by rw[Xc,sizeLine_eq];lia,λi out=>out=cellsOf row ls (ws.take i),rfl,?_,?_⟩
 ·rintro i d out hd-rfl;rw[Xd]at hd;cases hw:ws[i]? with
  | none=>rw[hw]at hd;cases hd
  | some x=>
   rw[hw]at hd;cases hd;have hx:=hws x (Xn hw);have hi:=zcI hx;refine⟨ls.map PV.str,hlp,zfN ls,rfl,Xt.mpr ⟨x,hx,rfl⟩,row[ixS ls x]'(by lia),zaR (Xa (show ixS ls x<row.length by lia)),?_⟩;show _=_;rw[XD,hw];unfold cellsOf;rw[Xm]
   congr 1
   simp[Xa (show ixS ls x<row.length by lia)]
 ·rintro out-rfl;rw[Xc,Xi (Xf _)];exact q
end
noncomputable abbrev zbJ:=List (List Int×List Int)
noncomputable def keyI (κ:List Int):List Key:=κ.map λi=>(Sum.inl i:Key)
noncomputable def dkI (cs:List Int):PV:=.dK (keyI cs) (cs.map λ_=>.bl true)
noncomputable def gks (g:zbJ):List (List Key):=g.map λp=>keyI p.1
noncomputable def gvs (g:zbJ):List PV:=g.map λp=>dkI p.2
noncomputable def zpK (g:zbJ):PV:=.dT (gks g) (gvs g)
noncomputable def rowI (r:List Int):PV:=.tup (r.map PV.int)
theorem zhi {a b:List Int}(h:keyI a=keyI b):a=b:=by
 unfold keyI at h;exact List.map_inj_right (λx y e=>by injection e) |>.mp h
theorem zpL (κ:List Int):keyT (keyI κ)=rowI κ:=by
 unfold keyT keyI rowI;rw[Ym];rfl
noncomputable def addC (cs:List Int)(c:Int):List Int:=if c∈cs then cs else cs++[c]
noncomputable def zbK (g:zbJ)(κ:List Int)(c:Int):zbJ:=if g.any (λp=>decide (p.1=κ))=true then g.map (λp=>if p.1=κ then(p.1,addC p.2 c) else p) else g++[(κ,[c])]
theorem zoS (g:zbJ)(κ:List Int)(c:Int):(zbK g κ c).map (·.1)=if g.any (λp=>decide (p.1=κ))=true then g.map (·.1) else g.map (·.1)++[κ]:=by
 unfold zbK;split
 ·rw[Ym];refine YM λp _=>?_;show(if p.1=κ then(p.1,addC p.2 c) else p).1=p.1
  split<;>rfl
 ·rw[Xm];rfl
theorem zoT {g:zbJ}{κ:List Int}{c:Int}(h:(g.map (·.1)).Nodup):((zbK g κ c).map (·.1)).Nodup:=by
 rw[zoS];split
 ·exact h
 ·rename_i hn
  rw[YB];refine⟨h,by simp,λx hx y hy e=>hn ?_⟩;rw[List.any_eq_true];obtain⟨p,hp,rfl⟩:=Xt.mp hx;exact⟨p,hp,by rw[decide_eq_true_iff,e];exact Xl.mp hy⟩
theorem znz (g:zbJ)(κ:List Int):hasT (gks g) (keyI κ)=g.any λp=>decide (p.1=κ):=by
 unfold hasT gks;rw[List.any_map]
 congr 1
 funext p;show decide (keyI p.1=keyI κ)=decide (p.1=κ);by_cases e:p.1=κ
 ·simp[e]
 ·have:¬ keyI p.1=keyI κ:=λz=>e (zhi z);simp[e,this]
theorem putI (cs:List Int)(c:Int):zid (keyI cs) (cs.map λ_=>.bl true) (.inl c) (.bl true)=dkI (addC cs c):=by
 have hk:hasK (keyI cs) (.inl c)=decide (c∈cs):=by
  unfold hasK keyI;rw[List.any_map,Bool.eq_iff_iff,List.any_eq_true,decide_eq_true_iff];constructor
  ·rintro⟨x,hx,e⟩;have:x=c:=by simpa using e
   rw[<- this];exact hx
  ·exact λh=>⟨c,h,by simp⟩
 unfold zid addC dkI;rw[hk];by_cases h:c∈cs
 ·rw[if_pos (decide_eq_true h),if_pos h]
  congr 1
  unfold putD keyI;rw[List.zip_map',Ym];refine YM λx _=>?_;show(if (Sum.inl x:Key)=Sum.inl c then PV.bl true else PV.bl true)=_
  split<;>rfl
 ·rw[if_neg (by simpa using h),if_neg h];unfold keyI;rw[Xm,Xm];rfl
theorem ztq {g:zbJ}{κ:List Int}(h:g.any (λp=>decide (p.1=κ))=true)(nd:(g.map (·.1)).Nodup):∃(j:Nat)(cs:List Int),ixK (gks g) (keyI κ)=j/\g[j]? = some (κ,cs)/\∀(m:Nat) p,g[m]? = some p->(p.1=κ↔m=j):=by
 have hex:∃x∈gks g,decide (x=keyI κ)=true:=by
  obtain⟨p,hp,e⟩:=List.any_eq_true.mp h;have e:p.1=κ:=by simpa using e
  exact⟨keyI p.1,Xt.mpr ⟨p,hp,rfl⟩,by rw[e];simp⟩
 obtain⟨j,hj,hlt,hat⟩:∃j,ixK (gks g) (keyI κ)=j/\j<(gks g).length/\(gks g)[j]? = some (keyI κ):=by
  have hlt:(gks g).findIdx (λx=>decide (x=keyI κ))<(gks g).length:=List.findIdx_lt_length_of_exists hex;have:=List.findIdx_getElem (p:=λx=>decide (x=keyI κ)) (xs:=gks g) (w:=hlt);exact⟨(gks g).findIdx (λx=>decide (x=keyI κ)),rfl,hlt,by rw[Xa hlt];exact congrArg some (by simpa using this)⟩
 have hq:∃q,g[j]? = some q/\q.1=κ:=by
  unfold gks at hat;rw[Xd]at hat;cases hg:g[j]? with
  | none=>rw[hg]at hat;cases hat
  | some q=>rw[hg]at hat;exact⟨q,rfl,zhi (Option.some.inj hat)⟩
 obtain⟨q,hq,hk⟩:=hq;refine⟨j,q.2,hj,by rw[hq];congr 1;exact Prod.ext hk rfl,λm p hm=>?_⟩;constructor
 ·intro e;have h1:(g.map (·.1))[m]? = some κ:=by rw[Xd,hm,<- e];rfl
  have h2:(g.map (·.1))[j]? = some κ:=by rw[Xd,hq,<- hk];rfl
  exact(List.getElem?_inj (by have:=(Xe.mp hm).1;simpa using this) nd).mp (h1.trans h2.symm)
 ·intro e;subst e;rw[hq]at hm;rw[<- Option.some.inj hm];exact hk
theorem zoU {g:zbJ}(nd:(g.map (·.1)).Nodup)(κ:List Int)(c:Int):∃cs:List Int,(zcC (gks g) (gvs g) (keyI κ)).2[ixK (zcC (gks g) (gvs g) (keyI κ)).1 (keyI κ)]? = some (dkI cs)/\(cs=[]\/∃κ',(κ',cs)∈g)/\
  (BX.T (zcC (gks g) (gvs g) (keyI κ)).1 ((zcC (gks g) (gvs g) (keyI κ)).2.set (ixK (zcC (gks g) (gvs g) (keyI κ)).1 (keyI κ)) (zid (keyI cs) (cs.map λ_=>.bl true) (.inl c) (.bl true))))=.T (gks (zbK g κ c)) (gvs (zbK g κ c)):=by
 unfold zcC;rw[znz];by_cases h:g.any (λp=>decide (p.1=κ))=true
 ·rw[if_pos h];obtain⟨j,cs,e1,e2,e3⟩:=ztq h nd;refine⟨cs,?_,.inr ⟨κ,Xn e2⟩,?_⟩
  ·show(gvs g)[ixK (gks g) (keyI κ)]? = _;rw[e1];unfold gvs;rw[Xd,e2];rfl
  ·rw[putI];show BX.T (gks g) ((gvs g).set (ixK (gks g) (keyI κ)) (dkI (addC cs c)))=_;rw[e1];have hg:zbK g κ c=g.map (λp=>if p.1=κ then(p.1,addC p.2 c) else p):=by unfold zbK;rw[if_pos h]
   rw[hg]
   congr 1
   ·unfold gks;rw[Ym];refine YM λp _=>?_;show keyI p.1=keyI (if p.1=κ then(p.1,addC p.2 c) else p).1
    split<;>rfl
   ·refine List.ext_getElem? λm=>?_;unfold gvs;rw[List.getElem?_set,Xd,Xd,Xd];by_cases em:j=m
    ·subst em;have hjl:j<(g.map λp=>dkI p.2).length:=by have:=(Xe.mp e2).1;simpa using this
     rw[if_pos rfl,if_pos hjl,e2];simp
    ·rw[if_neg em];cases hm:g[m]? with
     | none=>rfl
     | some p=>
      have:¬ p.1=κ:=λz=>em ((e3 m p hm).mp z).symm;simp[this]
 ·rw[if_neg h];have hk:keyI κ∉gks g:=λz=>h (by rw[<- znz];exact zgY.mpr z);refine⟨[],?_,.inl rfl,?_⟩
  ·show(gvs g++[PV.dK [] []])[ixK (gks g++[keyI κ]) (keyI κ)]? = _;rw[zjk hk];have:(gks g).length=(gvs g).length:=by simp[gks,gvs]
   rw[this,XQ (Xf _),Nat.sub_self];rfl
  ·rw[putI];show BX.T (gks g++[keyI κ]) ((gvs g++[PV.dK [] []]).set (ixK (gks g++[keyI κ]) (keyI κ)) _)=_;rw[zjk hk];have:(gks g).length=(gvs g).length:=by simp[gks,gvs]
   rw[this,List.set_append_right _ _ (Xf _),Nat.sub_self];have hg:zbK g κ c=g++[(κ,[c])]:=by unfold zbK;rw[if_neg h]
   rw[hg];unfold gks gvs;rw[Xm,Xm];rfl
noncomputable def zam (row:List Int)(ls ws:List Str):List Int:=ws.map λw=>row.getD (ixS ls w) 0
theorem zjx {row:List Int}{ls ws:List Str}(hl:ls.length=row.length)(hw:∀w∈ws,w∈ls):PV.tup (cellsOf (row.map PV.int) ls ws)=rowI (zam row ls ws):=by
 unfold rowI zam cellsOf;rw[Ym]
 congr 1
 refine YM λw hm=>?_;have hi:=zcI (hw w hm);have h1:(row.map PV.int).getD (ixS ls w) .non=PV.int (row[ixS ls w]'(by lia)):=by
  rw[Xk,Xd,Xa (by lia)];rfl
 have h2:row.getD (ixS ls w) 0=row[ixS ls w]'(by lia):=by
  rw[Xk,Xa (by lia)];rfl
 show(row.map PV.int).getD (ixS ls w) .non=PV.int (row.getD (ixS ls w) 0);rw[h1,h2]
noncomputable def zaE (ls ea:List Str):List Str:=ls.filter λx=>decide (x∈ea)
noncomputable def zaT (ls ea:List Str)(x:Str)(rows:List (List Int)):zbJ:=rows.foldl (λg r=>zbK g (zam r ls (zaE ls ea)) (r.getD (ixS ls x) 0)) []
structure znA (ls:List Str)(rows:List (List Int)):Prop where
 many:rows.length<=10000
 wide:∀r∈rows,r.length=ls.length
noncomputable def zfe:PF:=λds Q=>∃(ls ea:List Str)(x:Str)(rows:List (List Int)),ds=[.tup (ls.map PV.str),.lst (rows.map rowI),.lst (ea.map PV.str),.str x]/\ls.length<=100/\x∈ls/\znA ls rows/\Q (.tup [.lst ((zaE ls ea).map PV.str),zpK (zaT ls ea x rows)]) .frz
theorem zit:zbE zfe:=λds Q Q' m q145q=>by obtain⟨a,b,c,d,e,h1,h2,h3,q⟩:=q145q;exact⟨a,b,c,d,e,h1,h2,h3,m _ _ q⟩
theorem zkz:∀(rows:List (List Int))(g:zbJ)(k:List Int->List Int)(c:List Int->Int),(g.map (·.1)).Nodup->((rows.foldl (λg r=>zbK g (k r) (c r)) g).map (·.1)).Nodup
 | [],g,k,c,h=>h
 | r::rows,g,k,c,h=>zkz rows _ k c (zoT h)
theorem znB (g:zbJ)(κ:List Int)(c:Int):(zbK g κ c).length<=g.length+1:=by
 unfold zbK;split
 ·rw[Xc];lia
 ·rw[XB];simp
theorem zoV (cs:List Int)(c:Int):(addC cs c).length<=cs.length+1:=by
 unfold addC;split
 ·lia
 ·simp
theorem zjy {g:zbJ}{κ:List Int}{c:Int}{M:Nat}(h:∀p∈g,p.2.length<=M):∀p∈zbK g κ c,p.2.length<=M+1:=by
 unfold zbK;split
 ·intro p hp;obtain⟨q,hq,rfl⟩:=Xt.mp hp;have h1:=h q hq;have h2:=zoV q.2 c;by_cases e:q.1=κ
  ·rw[if_pos e];show(addC q.2 c).length<=_;lia
  ·rw[if_neg e];lia
 ·intro p hp;rcases Xr.mp hp with hp | hp
  ·have:=h p hp;lia
  ·rw[Xl.mp hp];simp
theorem zgv:∀(rows:List (List Int))(g:zbJ)(k:List Int->List Int)(c:List Int->Int)(M:Nat),(∀p∈g,p.2.length<=M)->(rows.foldl (λg r=>zbK g (k r) (c r)) g).length<=g.length+rows.length/\∀p∈rows.foldl (λg r=>zbK g (k r) (c r)) g,p.2.length<=M+rows.length
 | [],g,k,c,M,h=>⟨by simp,by simpa using h⟩
 | r::rows,g,k,c,M,h=>by
  obtain⟨h1,h2⟩:=zgv rows (zbK g (k r) (c r)) k c (M+1) (zjy h);have h3:=znB g (k r) (c r);refine⟨by rw[YK,Ya];lia,λp hp=>?_⟩;have:=h2 p hp;rw[Ya];lia
theorem zcw (r:List Int):zaX (r.map PV.int)=true:=by
 induction r with
 | nil=>rfl
 | cons a r ih=>simp[zaX,zbI,ih]
theorem zcj (r:List Str):(r.map PV.str).all (_P.plain 6)=true:=by simp[_P.plain]
theorem zaZ {x:Str}{r:List Str}:PV.str x∈r.map PV.str↔x∈r:=by simp
section
variable {P:Program}{w:World}{K:Xb}{mg:Str->Option Value}{base:Heap}
theorem ziu:zaw ["letters","rows","earlier","letter","known","place","choices","row","cells"] ["letters","rows","earlier","letter"] (zac zaW):=⟨rfl,rfl,rfl,by decide +kernel,rfl,by decide +kernel,by decide +kernel⟩
theorem zlo {f f1:Addr}{fd fd1:FuncData}(F:Fun K "guide_of" "guide_of" zaW f fd) (CellsOf:Fx K mg "cells_of" zaL ["row","letters","wanted"] f1 fd1) (B:Bl mg):FnOk P w K mg base CX0 2 f fd ["letters","rows","earlier","letter"] (spP K zfe):=by
 have GCellsOf:FnOk P w K mg base CX0 1 f1 fd1 ["row","letters","wanted"] (spP K zcp):=zeA CellsOf.fn B;refine zaH F ziu (λds Q q146q=>by obtain⟨a,b,c,d,e,_⟩:=q146q;rw[e];rfl) (λcdv A outer s H E hr=>?_);have hu:(A.deeper (envOfC "guide_of" (zac zaW) s.heap.objs.size f cdv)).units+16<cLine:=by have q:=hr.units;lia
 have nd:=ziu.nd;refine⟨_,(zae (zjV (i:=4) (N:=["name","earlier"]) (k:=1) (js:=[2]) rfl (zcm (sup:=zac zaW) (XN:=["letters","rows","earlier","letter","known","place","choices","row","cells"]) rfl rfl (by decide +kernel)) (by decide) (zaC (by decide)) (zjf (zab 0)) ⟨λ_ _ _ _ _=>(zaj (i:=0) (by show(["name","earlier"]:List Str).Nodup;decide +kernel) rfl (Or.inl rfl)),λ_ _ _ _ _=>(zcA (zjX hu (zab 0) (zab 1))),λ_ _ _ _ _=>(zab 0)⟩ nd rfl rfl)
   (zae (zal (i:=5) nd rfl (Or.inl rfl) (zgZ (zab 0) (zab 3)))
   (zne (z:=6) nd rfl (Or.inl rfl) (zcW (zji (i:=7) nd rfl (Or.inl rfl) rfl PassesOwn.never (zas (zab 1)) (zoG (iy:=8) (hu1 hu) nd (zak GCellsOf zcP hr rfl CellsOf.mg CellsOf.fn.kp CellsOf.bd (zaa (zab 7) (zaa (zab 0) (zaa (zab 4) zad)))) (zax (zab 7) (zab 5)) ziZ zgV))
   (zke (zah (zaY 4 (zar (zmp (zaa (zab 4) (zaa (zab 6) zad))))))))))),λds Q h=>?_⟩
 obtain⟨ls,ea,x,rows,rfl,hl100,hx,rok,q⟩:=h;have hsz:=sizeLine_eq;walk_at "pu";refine⟨by rw[Xc];lia,λi out=>out=(zaE (ls.take i) ea).map PV.str,rfl,?_,?_⟩
 ·rintro i d out hd-rfl;rw[Xd]at hd;cases hw:ls[i]? with
  | none=>rw[hw]at hd;cases hd
  | some y=>
   rw[hw]at hd;cases hd;refine⟨rfl,zcj ea,ite2 (λe=>?_) (λe=>?_)⟩
   ·have hy:y∈ea:=zaZ.mp e;show _=_;rw[XD,hw];unfold zaE;simp[hy]
   ·have hy:¬ y∈ea:=λz=>e (zaZ.mpr z);show _=_;rw[XD,hw];unfold zaE;simp[hy]
 ·rintro out-rfl;rw[Xc,Xi (Xf _)];walk_at "go";refine⟨zfN ls,rfl,zaZ.mpr hx,?_⟩;walk_at "go";refine⟨by decide,?_⟩;walk_at "go";obtain⟨Iv,hIv⟩:∃Iv:Nat->PEnv->BX->Prop,∀i ρ β,Iv i ρ β↔∃(k7:Option (PV×Bool)),ρ=[some (PV.tup (XT PV.str ls),false),some (PV.lst (XT rowI rows),false),some (PV.lst (XT PV.str ea),false),some (PV.str x,false),
    some (PV.lst (XT PV.str (zaE ls ea)),true),some (PV.int (ixS ls x:Int),false),none,k7,none]/\β=.T (gks (zaT ls ea x (rows.take i))) (gvs (zaT ls ea x (rows.take i))):=⟨_,λ_ _ _=>Iff.rfl⟩
  refine⟨Iv,(hIv _ _ _).mpr ⟨none,rfl,rfl⟩,?_,?_⟩
  ·intro i d ρ β hd hI;obtain⟨k7,rfl,rfl⟩:=(hIv _ _ _).mp hI;rw[Xd]at hd;cases hr2:rows[i]? with
   | none=>rw[hr2]at hd;cases hd
   | some r=>
    rw[hr2]at hd;cases hd;have hrl:=rok.wide r (Xn hr2);have hkn:∀w∈zaE ls ea,w∈ls:=λw hw=>(Yd.mp hw).1;have hkl:(zaE ls ea).length<=100:=Ye (Yz _ _) hl100;have hil:i<rows.length:=(Xe.mp hr2).1;have htl:(rows.take i).length<=10000:=by rw[XH];have:=rok.many;lia
    obtain⟨gl,gc⟩:=zgv (rows.take i) [] (λr=>zam r ls (zaE ls ea)) (λr=>r.getD (ixS ls x) 0) 0 (λp hp=>by cases hp);have gn:=zkz (rows.take i) [] (λr=>zam r ls (zaE ls ea)) (λr=>r.getD (ixS ls x) 0) List.nodup_nil;have hcI:=zjx (row:=r) hrl.symm hkn;have hci:cellsOf (r.map PV.int) ls (zaE ls ea)=(zam r ls (zaE ls ea)).map PV.int:=by
     unfold rowI at hcI;injection hcI
    have hxi:=zcI hx;obtain⟨cs,b1,b2,b3⟩:=zoU (g:=zaT ls ea x (rows.take i)) gn (zam r ls (zaE ls ea)) (r.getD (ixS ls x) 0);have hcl:cs.length<=10000:=by
     rcases b2 with rfl | ⟨κ,hκ⟩
     ·simp
     ·have:=gc _ hκ;simp only at this;lia
    have hstep:zaT ls ea x (rows.take (i+1))=zbK (zaT ls ea x (rows.take i)) (zam r ls (zaE ls ea)) (r.getD (ixS ls x) 0):=by
     unfold zaT;rw[XD,hr2,List.foldl_append];rfl
    walk_at "go";refine⟨_,_,rfl,by decide,_,rfl,ls,zaE ls ea,rfl,rfl,hkn,by rw[Xc];lia,hkl,?_,?_,keyI (zam r ls (zaE ls ea)),?_,?_,PV.int (r.getD (ixS ls x) 0),.inl ⟨_,.inr rfl,?_⟩,rfl,.inl (r.getD (ixS ls x) 0),rfl,_,_,b1,?_,?_⟩
    ·rw[hci];exact zcw _
    ·rw[hci];exact zcw _
    ·rw[zpL];exact hcI
    ·have:(gks (zaT ls ea x (rows.take i))).length<=10000:=by
      unfold gks;rw[Xc];have h0:(zaT ls ea x (rows.take i)).length<=(0:Nat)+(rows.take i).length:=gl;lia
     lia
    ·refine zaR ?_;rw[Xd,Xa (show ixS ls x<r.length by lia),Xk,Xa (show ixS ls x<r.length by lia)];rfl
    ·unfold keyI;rw[Xc];lia
    ·walk_at "go";refine(hIv _ _ _).mpr ⟨_,rfl,?_⟩;rw[hstep];exact b3
  ·intro ρ β hI;obtain⟨k7,rfl,rfl⟩:=(hIv _ _ _).mp hI;rw[Xc,Xi (Xf _)];walk_at "go";walk_at "go";exact⟨by decide,q⟩
end
noncomputable abbrev GP:=List Str×zbJ
noncomputable def gAt (g:zbJ)(κ:List Int):List Int:=((g.find? λp=>decide (p.1=κ)).map (·.2)).getD []
theorem ztr (g:zbJ)(κ:List Int):(dgP (gks g) (gvs g) (keyI κ)).getD (.dK [] [])=dkI (gAt g κ):=by
 induction g with
 | nil=>rfl
 | cons p g ih=>
  unfold dgP gks gvs gAt at *;simp only[Xy,List.zip_cons_cons,Ys];by_cases e:p.1=κ
  ·rw[decide_eq_true e,decide_eq_true (congrArg keyI e)];rfl
  ·have:¬ keyI p.1=keyI κ:=λz=>e (zhi z);rw[decide_eq_false e,decide_eq_false this];exact ih
theorem znC (g:zbJ)(κ:List Int):gAt g κ=[]\/∃e∈g,gAt g κ=e.2:=by
 unfold gAt;cases h:g.find? λp=>decide (p.1=κ)with
 | none=>exact .inl rfl
 | some e=>exact .inr ⟨e,List.mem_of_find?_eq_some h,rfl⟩
theorem zui (cs:List Int)(c:Int):(dgP (keyI cs) (cs.map λ_=>PV.bl true) (.inl c)).isSome=decide (c∈cs):=by
 induction cs with
 | nil=>rfl
 | cons a cs ih=>
  unfold dgP keyI at *;simp only[Xy,List.zip_cons_cons,Ys];by_cases e:a=c
  ·subst e;simp
  ·have h2:¬ (Sum.inl a:Key)=Sum.inl c:=λz=>e (by injection z);rw[decide_eq_false h2];simp only;rw[ih];have:¬ c=a:=λz=>e z.symm;simp[this]
noncomputable def zaq (p:List Int)(ea:List Str)(gs:List GP):List (List Int):=gs.map λg=>gAt g.2 (zam p ea g.1)
noncomputable def inAll (ch:List (List Int))(c:Int):Bool:=(ch.map λd=>decide (c∈d)).all id
theorem ziv {ch:List (List Int)}{c:Int}:inAll ch c=true↔∀d∈ch,c∈d:=by
 unfold inAll;rw[List.all_map,XV];simp
structure zlp (parts:List (List Int))(ea:List Str)(gs:List GP)(L:List (List Int)):Prop where
 mem:∀q,q∈L↔∃p∈parts,∃c,q=p++[c]/\inAll (zaq p ea gs) c=true
 nd:parts.Nodup->(∀g∈gs,∀e∈g.2,e.2.Nodup)->L.Nodup
theorem zlp.step {parts L:List (List Int)}{ea:List Str}{gs:List GP}(h:zlp parts ea gs L)(p:List Int){cs:List Int}(hcs:cs∈zaq p ea gs):zlp (parts++[p]) ea gs (L++(cs.filter (inAll (zaq p ea gs))).map λc=>p++[c]) where
 mem q:=by
  rw[Xr,h.mem,Xt];constructor
  ·rintro(⟨r,hr,c,rfl,hc⟩ | ⟨c,hc,rfl⟩)
   ·exact⟨r,Xr.mpr (.inl hr),c,rfl,hc⟩
   ·exact⟨p,Xr.mpr (.inr (Xl.mpr rfl)),c,rfl,(Yd.mp hc).2⟩
  ·rintro⟨r,hr,c,rfl,hc⟩;rcases Xr.mp hr with hr | hr
   ·exact .inl ⟨r,hr,c,rfl,hc⟩
   ·rw[Xl.mp hr]at hc ⊢;exact .inr ⟨c,Yd.mpr ⟨ziv.mp hc cs hcs,hc⟩,rfl⟩
 nd hp hg:=by
  rw[YB]at hp;obtain⟨h1,_,h3⟩:=hp;rw[YB];have hcn:cs.Nodup:=by
   obtain⟨g,hg2,rfl⟩:=Xt.mp hcs;rcases znC g.2 (zam p ea g.1)with e | ⟨e,he,e2⟩
   ·rw[e];exact List.nodup_nil
   ·rw[e2];exact hg g hg2 e he
  refine⟨h.nd h1 hg,(hcn.filter _).map _ (λa b hab z=>hab (by simpa using z)),λa ha b hb e=>?_⟩;obtain⟨r,hr,c,rfl,_⟩:=(h.mem a).mp ha;obtain⟨c2,_,rfl⟩:=Xt.mp hb;exact h3 r hr p (Xl.mpr rfl) (List.append_inj_left' e rfl)
noncomputable def gpP (g:GP):PV:=.tup [.lst (g.1.map PV.str),zpK g.2]
structure GpOk (ea:List Str)(M:Nat)(g:GP):Prop where
 sub:∀w∈g.1,w∈ea
 few:g.1.length<=100
 cells:∀e∈g.2,e.2.length<=M
noncomputable def zfO:PF:=λds Q=>∃(parts:List (List Int))(ea:List Str)(gs:List GP)(M:Nat),ds=[.lst (parts.map rowI),.lst (ea.map PV.str),.lst (gs.map gpP)]/\gs≠[]/\gs.length<=100/\ea.length<=100/\(∀p∈parts,p.length=ea.length)/\(∀g∈gs,GpOk ea M g)/\parts.length*M<=100000/\
 ∀L,zlp parts ea gs L->L.length<=parts.length*M->Q (.lst (L.map rowI)) .new
theorem zjz:zbE zfO:=λds Q Q' m q147q=>by obtain⟨a,b,c,d,e,h1,h2,h3,h4,h5,h6,q⟩:=q147q;exact⟨a,b,c,d,e,h1,h2,h3,h4,h5,h6,λL g l=>m _ _ (q L g l)⟩
section
variable {P:Program}{w:World}{K:Xb}{mg:Str->Option Value}{base:Heap}
theorem zkA:zaw ["parts","earlier","guides","grown","part","choices","cell"] ["parts","earlier","guides"] (zac zbt):=⟨rfl,rfl,rfl,by decide +kernel,rfl,by decide +kernel,by decide +kernel⟩
theorem znD {f f1:Addr}{fd fd1:FuncData}(F:Fun K "longer" "longer" zbt f fd) (CellsOf:Fx K mg "cells_of" zaL ["row","letters","wanted"] f1 fd1) (B:Bl mg):FnOk P w K mg base CX0 2 f fd ["parts","earlier","guides"] (spP K zfO):=by
 have GCellsOf:FnOk P w K mg base CX0 1 f1 fd1 ["row","letters","wanted"] (spP K zcp):=zeA CellsOf.fn B;refine zaH F zkA (λds Q q148q=>by obtain⟨a,b,c,d,e,_⟩:=q148q;rw[e];rfl) (λcdv A outer s H E hr=>?_);have hu:(A.deeper (envOfC "longer" (zac zbt) s.heap.objs.size f cdv)).units+16<cLine:=by have q:=hr.units;lia
 have nd:=zkA.nd;refine⟨_,(zae (zal (i:=3) nd rfl (Or.inl rfl) (zbm zad))
   (zae (zcz rfl PassesOwn.never (zas (zab 0)) (zaj (i:=4) nd rfl (Or.inr rfl)) (zae (zjV (i:=5) (N:=["known","found","earlier","part"]) (k:=2) (js:=[1,4]) rfl (zcm (sup:=zac zbt) (XN:=["parts","earlier","guides","grown","part","choices","cell"]) rfl rfl (by decide +kernel)) (by decide) (zje (loc2 (by decide) (by decide))) (zas (zab 2)) ⟨λ_ _ _ _ _=>(zgN (n:=2) rfl (zbF (zaj (i:=0) (by show(["known","found","earlier","part"]:List Str).Nodup;decide +kernel) rfl (Or.inl rfl)) (zbF (zaj (i:=1) (by show(["known","found","earlier","part"]:List Str).Nodup;decide +kernel) rfl (Or.inl rfl)) zeX))),λ_ _ _ _ _=>zaU,λ_ _ _ _ _=>(zoE (hu1 hu) (zab 1) (zak GCellsOf zcP hr rfl CellsOf.mg CellsOf.fn.kp CellsOf.bd (zaa (zab 3) (zaa (zab 2) (zaa (zab 0) zad)))) zna)⟩ nd rfl rfl)
   (zah (zaY 5 (zoC rfl PassesOwn.never (zmH (zng rfl rfl B.min rfl B.len (zab 5))) (zaj (i:=6) nd rfl (Or.inr rfl)) (zah (zdU (zfu (zsU rfl rfl B.all (zaa (zaG (N:=["cells","cell"]) (k:=1) (js:=[6]) rfl (zcm (sup:=zac zbt) (XN:=["parts","earlier","guides","grown","part","choices","cell"]) rfl rfl (by decide +kernel)) (by decide) (zaC (by decide)) (zas (zab 5)) ⟨λ_ _ _ _ _=>(zaj (i:=0) (by show(["cells","cell"]:List Str).Nodup;decide +kernel) rfl (Or.inl rfl)),λ_ _ _ _ _=>zaU,λ_ _ _ _ _=>(ztb (hu1 hu) (zab 1) (zab 0))⟩) zad))) (zah (zbq (zbX 3 (zqV (zab 4) (zmp (zaa (zab 6) zad)))))) zbT)))))))
   (zah (zar (zab 3))))),λds Q h=>?_⟩
 obtain⟨parts,ea,gs,M,rfl,hgs,hg100,he100,hpl,hok,hM,q⟩:=h;have hsz:=sizeLine_eq;walk_at "pu";walk_at "auto";obtain⟨Iv,hIv⟩:∃Iv:Nat->PEnv->Prop,∀i ρ,Iv i ρ↔∃(L:List (List Int)) (k4 k5 k6:Option (PV×Bool)),zlp (parts.take i) ea gs L/\L.length<=i*M/\ρ=[some (PV.lst (XT rowI parts),false),some (PV.lst (XT PV.str ea),false),
     some (PV.lst (XT gpP gs),false),some (PV.lst (L.map rowI),true),k4,k5,k6]:=⟨_,λ_ _=>Iff.rfl⟩
 refine⟨Iv,(hIv _ _).mpr ⟨[],none,none,none,⟨λq=>by simp,λ_ _=>List.nodup_nil⟩,by simp,rfl⟩,?_,?_⟩
 ·intro i d ρ hd hI;obtain⟨L,k4,k5,k6,hG,hL,rfl⟩:=(hIv _ _).mp hI;rw[Xd]at hd;cases hp:parts[i]? with
  | none=>rw[hp]at hd;cases hd
  | some p=>
   rw[hp]at hd;cases hd;have hpm:=Xn hp;have hpe:=hpl p hpm;have hip:i<parts.length:=(Xe.mp hp).1;have hiM:(i+1)*M<=100000:=Ye (Nat.mul_le_mul_right M hip) hM;have htk:parts.take (i+1)=parts.take i++[p]:=by rw[XD,hp];rfl
   walk_at "go";refine⟨by rw[Xc];lia,λj out=>out=(zaq p ea (gs.take j)).map dkI,rfl,?_,?_⟩
   ·rintro j d out hd-rfl;rw[Xd]at hd;cases hg:gs[j]? with
    | none=>rw[hg]at hd;cases hd
    | some g=>
     rw[hg]at hd;cases hd;have gok:=hok g (Xn hg);have hcI:=zjx (row:=p) (ls:=ea) (ws:=g.1) hpe.symm gok.sub;refine⟨_,rfl,rfl,_,_,rfl,_,_,rfl,rfl,gks g.2,gvs g.2,rfl,p.map PV.int,rfl,ea,g.1,rfl,rfl,gok.sub,by rw[Xc];lia,gok.few,keyI (zam p ea g.1),by rw[zpL];exact hcI,?_⟩;show _=_;rw[ztr,XD,hg];unfold zaq;rw[Xm,Xm];rfl
   ·rintro out-rfl;rw[Xc,Xi (Xf _)];walk_at "go";have hcl:(zaq p ea gs).length=gs.length:=by unfold zaq;rw[Xc]
    have hg0:0<gs.length:=List.length_pos_iff.mpr hgs;refine⟨(zaq p ea gs).map λcs=>(keyI cs,cs.map λ_=>PV.bl true),by rw[Ym];rfl,by rw[Xc];lia,λz hz _=>?_⟩;obtain⟨cs,hcs,rfl⟩:=Xt.mp hz;have hcsM:cs.length<=M:=by
     obtain⟨g,hg2,rfl⟩:=Xt.mp hcs;rcases znC g.2 (zam p ea g.1)with e | ⟨e,he,e2⟩
     ·rw[e];exact XU _
     ·rw[e2];exact(hok g hg2).cells e he
    have hwk:zmG false (keyI cs) (cs.map λ_=>PV.bl true)=cs.map PV.int:=by
     show(keyI cs).map keyP=_;unfold keyI;rw[Ym];rfl
    simp only[hwk];obtain⟨Jv,hJv⟩:∃Jv:Nat->PEnv->Prop,∀j ρ,Jv j ρ↔∃(k6:Option (PV×Bool)),ρ=[some (PV.lst (XT rowI parts),false),some (PV.lst (XT PV.str ea),false),
     some (PV.lst (XT gpP gs),false),some (PV.lst ((L++((cs.take j).filter (inAll (zaq p ea gs))).map λc=>p++[c]).map rowI),true),some (rowI p,false),some (PV.lst ((zaq p ea gs).map dkI),false),k6]:=⟨_,λ_ _=>Iff.rfl⟩
    refine⟨Jv,(hJv _ _).mpr ⟨k6,by simp⟩,?_,?_⟩
    ·intro j d ρ hd hJ;obtain⟨k6,rfl⟩:=(hJv _ _).mp hJ;rw[Xd]at hd;cases hc:cs[j]? with
     | none=>rw[hc]at hd;cases hd
     | some c=>
      rw[hc]at hd;cases hd;have hjc:j<cs.length:=(Xe.mp hc).1;have hfl:((cs.take j).filter (inAll (zaq p ea gs))).length<=j:=Ye (Yz _ _) (by rw[XH];lia);walk_at "go";refine⟨by rw[Xc];lia,λm out=>out=(((zaq p ea gs).take m).map λd=>decide (c∈d)).map PV.bl,rfl,?_,?_⟩
      ·rintro m d out hd-rfl;rw[Xd]at hd;cases hx:(zaq p ea gs)[m]? with
       | none=>rw[hx]at hd;cases hd
       | some x=>
        rw[hx]at hd;cases hd;refine⟨keyI x,x.map λ_=>PV.bl true,rfl,.inl c,rfl,?_⟩;show _=_;rw[zui,XD,hx,Xm,Xm];rfl
      ·rintro out-rfl;rw[Xc,Xi (Xf _)];refine⟨_,rfl,?_⟩;refine ite2 (λe=>?_) (λe=>?_)
       ·walk_at "go";refine⟨by rw[Xc,XB,Xc];rw[Nat.add_mul]at hiM;lia,by lia,p.map PV.int,rfl,by rw[Xc];lia,?_⟩;refine(hJv _ _).mpr ⟨some (.int c,false),?_⟩;have e:inAll (zaq p ea gs) c=true:=e;rw[XD,hc];simp[Yx,e,rowI]
       ·walk_at "go";refine(hJv _ _).mpr ⟨some (.int c,false),?_⟩;have e:¬ inAll (zaq p ea gs) c=true:=e;rw[XD,hc];simp[Yx,e]
    ·intro ρ hJ;obtain⟨k6,rfl⟩:=(hJv _ _).mp hJ;rw[Xc,Xi (Xf _)];refine(hIv _ _).mpr ⟨_,_,_,_,by rw[htk];exact hG.step p hcs,?_,rfl⟩;rw[XB,Xc];have:=Yz (inAll (zaq p ea gs)) cs;rw[Nat.add_mul];lia
 ·intro ρ hI;obtain⟨L,k4,k5,k6,hG,hL,rfl⟩:=(hIv _ _).mp hI;rw[Xc]at hG hL;rw[Xi (Xf _)]at hG;walk_at "go";exact q L hG hL
end
theorem zrg (g:zbJ)(κ':List Int)(c':Int)(κ:List Int):gAt (g.map λp=>if p.1=κ' then(p.1,addC p.2 c') else p) κ=if κ'=κ/\g.any (λp=>decide (p.1=κ'))=true then addC (gAt g κ) c' else gAt g κ:=by
 induction g with
 | nil=>simp[gAt]
 | cons a g ih=>
  by_cases e:a.1=κ
  ·by_cases e2:κ'=κ
   ·subst e2;have hany:((a::g).any λp=>decide (p.1=κ'))=true:=by simp[e]
    rw[if_pos ⟨rfl,hany⟩];unfold gAt;rw[Xy,if_pos e];simp[e]
   ·have hn:¬ a.1=κ':=λz=>e2 (z.symm.trans e);rw[if_neg (λz=>e2 z.1)];unfold gAt;rw[Xy,if_neg hn];simp[e]
  ·have h1:¬ (if a.1=κ' then(a.1,addC a.2 c') else a).1=κ:=by split<;>exact e
   have hl:gAt ((a::g).map λp=>if p.1=κ' then(p.1,addC p.2 c') else p) κ=gAt (g.map λp=>if p.1=κ' then(p.1,addC p.2 c') else p) κ:=by
    unfold gAt;rw[Xy,Ys,decide_eq_false h1]
   have hr:gAt (a::g) κ=gAt g κ:=by
    unfold gAt;rw[Ys,decide_eq_false e]
   rw[hl,hr,ih];by_cases e2:κ'=κ
   ·subst e2;have:((a::g).any λp=>decide (p.1=κ'))=g.any λp=>decide (p.1=κ'):=by simp[e]
    rw[this]
   ·rw[if_neg (λz=>e2 z.1),if_neg (λz=>e2 z.1)]
theorem zoW {g:zbJ}{κ:List Int}(h:¬ g.any (λp=>decide (p.1=κ))=true):g.find? (λp=>decide (p.1=κ))=none:=by
 rw[List.find?_eq_none];intro x hx e;exact h (List.any_eq_true.mpr ⟨x,hx,e⟩)
theorem zoX (g:zbJ)(κ':List Int)(c':Int)(κ:List Int):gAt (zbK g κ' c') κ=if κ'=κ then addC (gAt g κ) c' else gAt g κ:=by
 unfold zbK;by_cases h:g.any (λp=>decide (p.1=κ'))=true
 ·rw[if_pos h,zrg];by_cases e:κ'=κ
  ·rw[if_pos ⟨e,h⟩,if_pos e]
  ·rw[if_neg (λz=>e z.1),if_neg e]
 ·rw[if_neg h];unfold gAt;rw[List.find?_append];by_cases e:κ'=κ
  ·subst e;rw[zoW h,if_pos rfl];simp[addC]
  ·rw[if_neg e];simp[e]
theorem zkB {cs:List Int}{c d:Int}:d∈addC cs c↔d∈cs\/c=d:=by
 unfold addC;split
 ·constructor
  ·exact .inl
  ·rintro(h | rfl)
   ·exact h
   ·assumption
 ·rw[Xr,Xl];constructor<;>(rintro(h | h);exact .inl h;exact .inr h.symm)
theorem zrh {cs:List Int}{c:Int}(h:cs.Nodup):(addC cs c).Nodup:=by
 unfold addC;split
 ·exact h
 ·rename_i hn
  rw[YB];exact⟨h,by simp,λa ha b hb e=>hn (by rw[<- Xl.mp hb,<- e];exact ha)⟩
theorem zgw:∀(rows:List (List Int))(g:zbJ)(k:List Int->List Int)(c:List Int->Int)(κ:List Int)(d:Int),d∈gAt (rows.foldl (λg r=>zbK g (k r) (c r)) g) κ↔d∈gAt g κ\/∃r∈rows,k r=κ/\c r=d
 | [],g,k,c,κ,d=>by simp
 | r::rows,g,k,c,κ,d=>by
  rw[YK,zgw rows,zoX];by_cases e:k r=κ
  ·rw[if_pos e,zkB];constructor
   ·rintro((h | h) | ⟨r2,h1,h2⟩)
    ·exact .inl h
    ·exact .inr ⟨r,Xj,e,h⟩
    ·exact .inr ⟨r2,Xg _ h1,h2⟩
   ·rintro(h | ⟨r2,h1,h2,h3⟩)
    ·exact .inl (.inl h)
    ·rcases Xx.mp h1 with rfl | h1
     ·exact .inl (.inr h3)
     ·exact .inr ⟨r2,h1,h2,h3⟩
  ·rw[if_neg e];constructor
   ·rintro(h | ⟨r2,h1,h2⟩)
    ·exact .inl h
    ·exact .inr ⟨r2,Xg _ h1,h2⟩
   ·rintro(h | ⟨r2,h1,h2,h3⟩)
    ·exact .inl h
    ·rcases Xx.mp h1 with rfl | h1
     ·exact absurd h2 e
     ·exact .inr ⟨r2,h1,h2,h3⟩
theorem zoY (ls ea:List Str)(x:Str)(rows:List (List Int))(κ:List Int)(d:Int):d∈gAt (zaT ls ea x rows) κ↔∃r∈rows,zam r ls (zaE ls ea)=κ/\r.getD (ixS ls x) 0=d:=by
 unfold zaT;rw[zgw];constructor
 ·rintro(h | h)
  ·exact absurd h (by simp[gAt])
  ·exact h
 ·exact .inr
theorem znE {g:zbJ}{κ:List Int}{c:Int}{Z:List Int->Prop}(h0:Z [c])(hs:∀cs,Z cs->Z (addC cs c))(h:∀p∈g,Z p.2):∀p∈zbK g κ c,Z p.2:=by
 unfold zbK;split
 ·intro p hp;obtain⟨q,hq,rfl⟩:=Xt.mp hp;by_cases e:q.1=κ
  ·rw[if_pos e];exact hs _ (h q hq)
  ·rw[if_neg e];exact h q hq
 ·intro p hp;rcases Xr.mp hp with hp | hp
  ·exact h p hp
  ·rw[Xl.mp hp];exact h0
theorem ziw {Z:List Int->Prop}:∀(rows:List (List Int))(g:zbJ)(k:List Int->List Int)(c:List Int->Int),(∀r∈rows,Z [c r])->(∀r∈rows,∀cs,Z cs->Z (addC cs (c r)))->(∀p∈g,Z p.2)->∀p∈rows.foldl (λg r=>zbK g (k r) (c r)) g,Z p.2
 | [],g,k,c,h0,hs,h=>h
 | r::rows,g,k,c,h0,hs,h=>ziw rows _ k c (λr2 m=>h0 r2 (Xg _ m)) (λr2 m=>hs r2 (Xg _ m)) (znE (h0 r Xj) (hs r Xj) h)
theorem zjA (ls ea:List Str){x:Str}{rows:List (List Int)}(hx:x∈ls)(hw:∀r∈rows,r.length=ls.length){vals:List Int}(hv:∀r∈rows,∀c∈r,c∈vals):∀e∈zaT ls ea x rows,e.2.Nodup/\∀c∈e.2,c∈vals:=by
 unfold zaT;have hc:∀r∈rows,r.getD (ixS ls x) 0∈vals:=λr hr=>by
  have hi:ixS ls x<r.length:=by rw[hw r hr];exact zcI hx
  rw[Xk,Xa hi];exact hv r hr _ (Yr hi)
 refine ziw (Z:=λcs=>cs.Nodup/\∀c∈cs,c∈vals) rows [] _ _ (λr hr=>⟨by simp,λc hm=>by rw[Xl.mp hm];exact hc r hr⟩) (λr hr cs h=>⟨zrh h.1,λc hm=>?_⟩) (λp hp=>by cases hp);rcases zkB.mp hm with h2 | rfl
 ·exact h.2 c h2
 ·exact hc r hr
theorem zff {ea:List Str}{w:Str}(l:List Str)(h:w∈ea):ixS (ea++l) w=ixS ea w:=by
 have hl:=zcI h;unfold ixS idxP at hl ⊢;rw[Xm,List.findIdx_append,if_pos (by simpa using hl)]
theorem znF {ea:List Str}{x:Str}(h:x∉ea):ixS (ea++[x]) x=ea.length:=by
 unfold ixS idxP;have h1:(ea.map PV.str).findIdx (λy=>decide (y=PV.str x))=(ea.map PV.str).length:=by
  rw[List.findIdx_eq_length];intro y hy;obtain⟨z,hz,rfl⟩:=Xt.mp hy;exact decide_eq_false λe=>h (by injection e with e;rw[<- e];exact hz)
 rw[Xm,List.findIdx_append,if_neg (by rw[h1];lia)];simp
noncomputable def Fits (ls:List Str)(t:List (List Int))(ea:List Str)(p:List Int):Prop:=∃r∈t,∀w∈ls,w∈ea->p.getD (ixS ea w) 0=r.getD (ixS ls w) 0
noncomputable abbrev Tab:=List Str×List (List Int)
structure Parts (tabs:List Tab)(ea:List Str)(L:List (List Int)):Prop where
 nd:L.Nodup
 mem:∀p,p∈L↔p.length=ea.length/\∀b∈tabs,Fits b.1 b.2 ea p
noncomputable def zaM (tabs:List Tab)(ea:List Str)(x:Str):List GP:=(tabs.filter λb=>decide (x∈b.1)).map λb=>(zaE b.1 ea,zaT b.1 ea x b.2)
theorem Parts.start (tabs:List Tab):Parts tabs [] (if (tabs.all λb=>!b.2.isEmpty)=true then[[]] else[]):=by
 refine⟨by split<;>simp,λp=>?_⟩;have key:(tabs.all λb=>!b.2.isEmpty)=true↔∀b∈tabs,Fits b.1 b.2 [] []:=by
  rw[XV];refine⟨λh b hb=>?_,λh b hb=>?_⟩
  ·have:=h b hb;cases ht:b.2 with
   | nil=>rw[ht]at this;simp at this
   | cons r t=>exact⟨r,Xj,λw _ hw=>by cases hw⟩
  ·obtain⟨r,hr,_⟩:=h b hb;cases ht:b.2 with
   | nil=>rw[ht]at hr;cases hr
   | cons r t=>rfl
 by_cases h:(tabs.all λb=>!b.2.isEmpty)=true
 ·rw[if_pos h,Xl];constructor
  ·rintro rfl;exact⟨rfl,key.mp h⟩
  ·rintro⟨e,_⟩;exact XI.mp e
 ·rw[if_neg h];constructor
  ·intro z;cases z
  ·rintro⟨e,z⟩;have:p=[]:=XI.mp e;subst this;exact absurd (key.mpr z) h
theorem zix {r p:List Int}{ls ea ks:List Str}:zam r ls ks=zam p ea ks↔∀w∈ks,r.getD (ixS ls w) 0=p.getD (ixS ea w) 0:=by
 unfold zam;rw[List.map_inj_left]
theorem zeh {p:List Int}{c:Int}{i:Nat}(h:i<p.length):(p++[c]).getD i 0=p.getD i 0:=by
 rw[Xk,Xk,Yg h]
theorem zkC (p:List Int)(c:Int):(p++[c]).getD p.length 0=c:=by
 rw[Xk,XQ (Xf _),Nat.sub_self];rfl
theorem zoZ {ls ea:List Str}{t:List (List Int)}{p:List Int}{c:Int}{x:Str}(hx:x∉ea)(hl:p.length=ea.length)(h:Fits ls t (ea++[x]) (p++[c])):Fits ls t ea p:=by
 obtain⟨r,hr,h⟩:=h;refine⟨r,hr,λw hw he=>?_⟩;have:=h w hw (Xr.mpr (.inl he));rw[zff [x] he,zeh (by rw[hl];exact zcI he)]at this;exact this
theorem zkD {ls ea:List Str}{t:List (List Int)}{p:List Int}{c:Int}{x:Str}(hx:x∉ea)(hl:p.length=ea.length)(hm:x∈ls):Fits ls t (ea++[x]) (p++[c])↔c∈gAt (zaT ls ea x t) (zam p ea (zaE ls ea)):=by
 rw[zoY];constructor
 ·rintro⟨r,hr,h⟩;refine⟨r,hr,zix.mpr λw hw=>?_,?_⟩
  ·obtain⟨h1,h2⟩:=Yd.mp hw;have h2:w∈ea:=by simpa using h2
   have:=h w h1 (Xr.mpr (.inl h2));rw[zff [x] h2,zeh (by rw[hl];exact zcI h2)]at this;exact this.symm
  ·have:=h x hm (Xr.mpr (.inr (Xl.mpr rfl)));rw[znF hx,<- hl,zkC]at this;exact this.symm
 ·rintro⟨r,hr,h1,h2⟩;refine⟨r,hr,λw hw he=>?_⟩;rcases Xr.mp he with he | he
  ·rw[zff [x] he,zeh (by rw[hl];exact zcI he)];exact(zix.mp h1 w (Yd.mpr ⟨hw,by simpa using he⟩)).symm
  ·have:=Xl.mp he;subst this;rw[znF hx,<- hl,zkC];exact h2.symm
theorem zlq {ls ea:List Str}{t:List (List Int)}{p:List Int}{c:Int}{x:Str}(hl:p.length=ea.length)(hm:x∉ls)(h:Fits ls t ea p):Fits ls t (ea++[x]) (p++[c]):=by
 obtain⟨r,hr,h⟩:=h;refine⟨r,hr,λw hw he=>?_⟩;rcases Xr.mp he with he | he
 ·rw[zff [x] he,zeh (by rw[hl];exact zcI he)];exact h w hw he
 ·exact absurd (Xl.mp he▸hw) hm
theorem zgx {tabs:List Tab}{ea:List Str}{x:Str}{p:List Int}{c:Int}:inAll (zaq p ea (zaM tabs ea x)) c=true↔∀b∈tabs,x∈b.1->c∈gAt (zaT b.1 ea x b.2) (zam p ea (zaE b.1 ea)):=by
 rw[ziv];unfold zaq zaM;constructor
 ·intro h b hb hx;exact h _ (Xt.mpr ⟨_,Xt.mpr ⟨b,Yd.mpr ⟨hb,by simpa using hx⟩,rfl⟩,rfl⟩)
 ·intro h d hd;obtain⟨g,hg,rfl⟩:=Xt.mp hd;obtain⟨b,hb,rfl⟩:=Xt.mp hg;obtain⟨h1,h2⟩:=Yd.mp hb;exact h b h1 (by simpa using h2)
theorem Parts.step {tabs:List Tab}{ea:List Str}{x:Str}{L L':List (List Int)}(h:Parts tabs ea L)(hx:x∉ea)(hG:zlp L ea (zaM tabs ea x) L')(hn:∀g∈zaM tabs ea x,∀e∈g.2,e.2.Nodup):Parts tabs (ea++[x]) L':=by
 refine⟨hG.nd h.nd hn,λq=>?_⟩;rw[hG.mem];constructor
 ·rintro⟨p,hp,c,rfl,hc⟩;obtain⟨hl,hf⟩:=(h.mem p).mp hp;refine⟨by simp[hl],λb hb=>?_⟩;by_cases hm:x∈b.1
  ·exact(zkD hx hl hm).mpr (zgx.mp hc b hb hm)
  ·exact zlq hl hm (hf b hb)
 ·rintro⟨hl,hf⟩;rw[XB]at hl;have hne:q≠[]:=λe=>by subst e;simp at hl
  have e:=(List.dropLast_concat_getLast hne).symm;have hl2:q.dropLast.length=ea.length:=by rw[List.length_dropLast];simp at hl;lia
  rw[e]at hf;refine⟨q.dropLast,(h.mem _).mpr ⟨hl2,λb hb=>zoZ hx hl2 (hf b hb)⟩,q.getLast hne,e,zgx.mpr λb hb hm=>(zkD hx hl2 hm).mp (hf b hb)⟩
noncomputable def shpP (tabs:List Tab):PV:=.lst (tabs.map λb=>.tup (b.1.map PV.str))
noncomputable def tblP (t:List (List Int)):PV:=.lst (t.map rowI)
noncomputable def rwsP (tabs:List Tab):PV:=.lst (tabs.map λb=>tblP b.2)
structure TabsOk (tabs:List Tab)(order:List Str)(vals:List Int):Prop where
 few:tabs.length<=100
 ls:∀b∈tabs,b.1.length<=100
 rows:∀b∈tabs,znA b.1 b.2
 cells:∀b∈tabs,∀r∈b.2,∀c∈r,c∈vals
 nd:order.Nodup
 short:order.length<=100
 all:∀x∈order,∃b∈tabs,x∈b.1
 v1:1<=vals.length
 size:vals.length ^ order.length<=100000
structure ToOk (tabs:List Tab):Prop where
 few:tabs.length<=100
 ls:∀b∈tabs,b.1.length<=100
 rows:∀b∈tabs,znA b.1 b.2
noncomputable def zcQ:PF:=λds Q=>∃(tabs:List Tab)(ea:List Str)(x:Str),ds=[shpP tabs,rwsP tabs,.lst (ea.map PV.str),.str x]/\ToOk tabs/\Q (.lst ((zaM tabs ea x).map gpP)) .new
theorem zhj:zbE zcQ:=λds Q Q' m q149q=>by obtain⟨a,b,c,e,h1,q⟩:=q149q;exact⟨a,b,c,e,h1,m _ _ q⟩
noncomputable def lvP (Ls:List (List (List Int))):PV:=.lst (Ls.map λL=>.lst (L.map rowI))
structure zdp (tabs:List Tab)(order:List Str)(vals:List Int)(n:Nat)(Ls:List (List (List Int))):Prop where
 len:Ls.length=n+1
 at_:∀i L,Ls[i]? = some L->Parts tabs (order.take i) L/\L.length<=vals.length ^ i
noncomputable def zbA:PF:=λds Q=>∃(tabs:List Tab)(order:List Str)(vals:List Int),ds=[shpP tabs,rwsP tabs,.lst (order.map PV.str)]/\TabsOk tabs order vals/\∀Ls,zdp tabs order vals order.length Ls->Q (lvP Ls) .new
theorem zck:zbE zbA:=λds Q Q' m q150q=>by obtain⟨a,b,c,e,h1,q⟩:=q150q;exact⟨a,b,c,e,h1,λL g=>m _ _ (q L g)⟩
theorem sub_len:∀ {l m:List Int},l.Nodup->(∀c∈l,c∈m)->l.length<=m.length
 | [],m,_,_=>XU _
 | a::l,m,h,hs=>by
  rw[Yi]at h;have ha:=hs a Xj;have:=sub_len (m:=m.erase a) h.2 (λc hc=>(List.mem_erase_of_ne (λe=>h.1 (by rw[<- e];exact hc))).mpr (hs c (Xg _ hc)));rw[List.length_erase_of_mem ha]at this;have:=List.length_pos_of_mem ha;rw[Ya];lia
theorem zfP (ds:List PV)(i:Nat):cutP ds none (some (i:Int))=ds.take i:=by
 unfold cutP;rw[_H.zob,_H.zqb,List.drop_zero,Nat.sub_zero];by_cases h:i<=ds.length
 ·rw[Nat.min_eq_left h]
 ·rw[Nat.min_eq_right (by lia),Xi (Xf _),Xi (by lia)]
theorem zhk {ds:List PV}{d:PV}(h:ds[ds.length-1]? = some d):atI ds (-1)=some d:=by
 have hl:ds.length-1<ds.length:=(Xe.mp h).1;unfold atI ixN;rw[if_neg (by decide),if_pos (by lia)];have e:((-1:Int)+(ds.length:Int)).toNat=ds.length-1:=by lia
 rw[e];exact h
section
variable {P:Program}{w:World}{K:Xb}{mg:Str->Option Value}{base:Heap}
theorem zgy:zaw ["shape","rows","earlier","letter"] ["shape","rows","earlier","letter"] (zac zaO):=⟨rfl,rfl,rfl,by decide +kernel,rfl,by decide +kernel,by decide +kernel⟩
theorem zjB {f f1 f2:Addr}{fd fd1 fd2:FuncData}(F:Fun K "guides_to" "guides_to" zaO f fd) (CellsOf:Fx K mg "cells_of" zaL ["row","letters","wanted"] f1 fd1) (GuideOf:Fx K mg "guide_of" zaW ["letters","rows","earlier","letter"] f2 fd2) (B:Bl mg):FnOk P w K mg base CX0 3 f fd ["shape","rows","earlier","letter"] (spP K zcQ):=by
 have GGuideOf:FnOk P w K mg base CX0 2 f2 fd2 ["letters","rows","earlier","letter"] (spP K zfe):=zlo GuideOf.fn CellsOf B;refine zaH F zgy (λds Q q151q=>by obtain⟨a,b,c,e,_⟩:=q151q;rw[e];rfl) (λcdv A outer s H E hr=>?_);have hu:(A.deeper (envOfC "guides_to" (zac zaO) s.heap.objs.size f cdv)).units+16<cLine:=by have q:=hr.units;lia
 have nd:=zgy.nd;refine⟨_,(zah (zar (zaG (N:=["own","table","earlier","letter"]) (k:=2) (js:=[2,3]) rfl (zcm (sup:=zac zaO) (XN:=["shape","rows","earlier","letter"]) rfl rfl (by decide +kernel)) (by decide) (zje (loc2 (by decide) (by decide))) (zqL rfl B.zip (zaa (zab 0) (zaa (zab 1) zad))) ⟨λ_ _ _ _ _=>(zgN (n:=2) rfl (zbF (zaj (i:=0) (by show(["own","table","earlier","letter"]:List Str).Nodup;decide +kernel) rfl (Or.inl rfl)) (zbF (zaj (i:=1) (by show(["own","table","earlier","letter"]:List Str).Nodup;decide +kernel) rfl (Or.inl rfl)) zeX))),λ_ _ _ _ _=>(zcA (zjX hu (zab 3) (zab 0))),λ_ _ _ _ _=>(zak GGuideOf zit hr rfl GuideOf.mg GuideOf.fn.kp GuideOf.bd (zaa (zab 0) (zaa (zab 1) (zaa (zab 2) (zaa (zab 3) zad)))))⟩))),λds Q h=>?_⟩;obtain⟨tabs,ea,x,rfl,ok,q⟩:=h;have hsz:=sizeLine_eq;have hf:=ok.few;walk_at "pu";refine⟨_,rfl,_,rfl,?_⟩;refine⟨by rw[zgW,Xc,Xc];lia,λj out=>out=(zaM (tabs.take j) ea x).map gpP,rfl,?_,?_⟩
 ·rintro j d out hd-rfl;obtain⟨u,v,hu2,hv2,rfl⟩:=zkg hd;rw[Xd]at hu2 hv2;cases hb:tabs[j]? with
  | none=>rw[hb]at hu2;cases hu2
  | some b=>
   rw[hb]at hu2 hv2;cases hu2;cases hv2;have hbm:=Xn hb;have htl:tabs.take (j+1)=tabs.take j++[b]:=by rw[XD,hb];rfl
   refine⟨_,rfl,?_⟩;walk_at "pu";refine⟨zcj b.1,ite2 (λe=>?_) (λe=>?_)⟩
   ·have hm:x∈b.1:=zaZ.mp e;refine⟨b.1,rfl,ea,x,b.2,rfl,rfl,rfl,ok.ls b hbm,hm,ok.rows b hbm,?_⟩;have hg1:zaM (tabs.take (j+1)) ea x=zaM (tabs.take j) ea x++[(zaE b.1 ea,zaT b.1 ea x b.2)]:=by
     rw[htl];unfold zaM;rw[Yx,Xm];simp[hm]
    rw[hg1,Xm];rfl
   ·have hm:¬ x∈b.1:=λz=>e (zaZ.mpr z);have hg1:zaM (tabs.take (j+1)) ea x=zaM (tabs.take j) ea x:=by
     rw[htl];unfold zaM;rw[Yx,Xm];simp[hm]
    rw[hg1]
 ·rintro out-rfl;rw[zgW,Xc,Xc,Nat.min_self,Xi (Xf _)];exact q
theorem zeN:zaw ["shape","rows","order","found","place","letter","earlier"] ["shape","rows","order"] (zac zaB):=⟨rfl,rfl,rfl,by decide +kernel,rfl,by decide +kernel,by decide +kernel⟩
theorem zcD {f f1 f2 f3 f4:Addr}{fd fd1 fd2 fd3 fd4:FuncData}(F:Fun K "parts_along" "parts_along" zaB f fd) (CellsOf:Fx K mg "cells_of" zaL ["row","letters","wanted"] f1 fd1) (GuideOf:Fx K mg "guide_of" zaW ["letters","rows","earlier","letter"] f2 fd2) (Longer:Fx K mg "longer" zbt ["parts","earlier","guides"] f3 fd3) (GuidesTo:Fx K mg "guides_to" zaO ["shape","rows","earlier","letter"] f4 fd4) (B:Bl mg):FnOk P w K mg base CX0 4 f fd ["shape","rows","order"] (spP K zbA):=by
 have GGuidesTo:FnOk P w K mg base CX0 3 f4 fd4 ["shape","rows","earlier","letter"] (spP K zcQ):=zjB GuidesTo.fn CellsOf GuideOf B;have GLonger:FnOk P w K mg base CX0 3 f3 fd3 ["parts","earlier","guides"] (spP K zfO):=(znD Longer.fn CellsOf B).mono (by decide);refine zaH F zeN (λds Q q152q=>by obtain⟨a,b,c,e,_⟩:=q152q;rw[e];rfl) (λcdv A outer s H E hr=>?_);have hu:(A.deeper (envOfC "parts_along" (zac zaB) s.heap.objs.size f cdv)).units+16<cLine:=by have q:=hr.units;lia
 have nd:=zeN.nd;refine⟨_,(zae (zal (i:=3) nd rfl (Or.inl rfl) (zbm (zaa (zou (zfu (zqP rfl rfl B.all (zaa (zab 1) zad))) (zbm (zaa (zmp zad) zad)) (zbm zad)) zad)))
   (zae (zcz rfl PassesOwn.never (zkf rfl B.enumerate (zab 2)) (zgN (n:=2) rfl (zbF (zaj (i:=4) nd rfl (Or.inl rfl)) (zbF (zaj (i:=5) nd rfl (Or.inl rfl)) zeX))) (zae (zal (i:=6) nd rfl (Or.inl rfl) (zgS (zab 2) zgQ (zgR (zab 4))))
   (zah (zaY 6 (zbq (zbX 3 (zak GLonger zjz hr rfl Longer.mg Longer.fn.kp Longer.bd (zaa (zax (zab 3) (zig zai)) (zaa (zab 6) (zaa (zak GGuidesTo zhj hr rfl GuidesTo.mg GuidesTo.fn.kp GuidesTo.bd (zaa (zab 0) (zaa (zab 1) (zaa (zab 6) (zaa (zab 5) zad))))) zad))))))))))
   (zah (zar (zab 3))))),λds Q h=>?_⟩
 obtain⟨tabs,order,vals,rfl,ok,q⟩:=h;have hsz:=sizeLine_eq;walk_at "pu";have hh:∀L0:List (List Int),Parts tabs [] L0->L0.length<=1->Hold
       (pSeq
        (pFor (zbR (pVar 2)) (zcL 2 (zbp (zbf 4) (zbp (zbf 5) zcK)))
         (pSeq (pSet 6 (pSlL (pVar 2) zdf (zdg (pVar 4))))
          (pFrz 6
           (zbN
            (mApp 3
             (zbn zfO
              (zby (t2 pIx (pVar 3) (pNeg (pC (PV.int 1))))
               (zby (pVar 6)
                (zby
                 (zbn zcQ
                  (zby (pVar 0) (zby (pVar 1) (zby (pVar 6) (zby (pVar 5) pNil)))))
                 pNil)))))))))
        (pRet (pVar 3)))
       {nx:=λx=>Q PV.non Kd.frz,rt:=Q,bk:=λx=>False,ct:=λx=>False }
       [some (shpP tabs,false),some (rwsP tabs,false),some (PV.lst (XT PV.str order),false),
        some (lvP [L0],true),none,none,none]:=by
  intro L0 hP0 hL0;walk_at "go";obtain⟨Iv,hIv⟩:∃Iv:Nat->PEnv->Prop,∀i ρ,Iv i ρ↔∃(Ls:List (List (List Int))) (k4 k5 k6:Option (PV×Bool)),zdp tabs order vals i Ls/\ρ=[some (shpP tabs,false),some (rwsP tabs,false),some (PV.lst (XT PV.str order),false),
        some (lvP Ls,true),k4,k5,k6]:=⟨_,λ_ _=>Iff.rfl⟩
  refine⟨Iv,(hIv _ _).mpr ⟨[L0],none,none,none,⟨rfl,λi L e=>?_⟩,rfl⟩,?_,?_⟩
  ·match i,e with
   | 0,e=>cases e;exact⟨by simpa using hP0,by simpa using hL0⟩
   | i+1,e=>simp at e
  ·intro i d ρ hd hI;obtain⟨Ls,k4,k5,k6,hLs,rfl⟩:=(hIv _ _).mp hI;obtain⟨x,hx,rfl⟩:=zfB hd;rw[Xd]at hx;cases ho:order[i]? with
   | none=>rw[ho]at hx;cases hx
   | some x=>
    rw[ho]at hx;cases hx;refine⟨_,rfl,?_⟩;walk_at "pu";have hio:i<order.length:=(Xe.mp ho).1;have hxo:x∈order:=Xn ho;have htk:order.take (i+1)=order.take i++[x]:=by rw[XD,ho];rfl
    have hxn:x∉order.take i:=λz=>by
     have h1:(order.take (i+1)).Nodup:=(List.take_sublist _ _).nodup ok.nd;rw[htk,YB]at h1;exact h1.2.2 x z x (Xl.mpr rfl) rfl
    have hlen:=hLs.len;have hlast:Ls[i]? = some (Ls[i]'(by lia)):=Xa (by lia);obtain⟨hP,hL⟩:=hLs.at_ i _ hlast;generalize Ls[i]'(by lia)=L at hlast hP hL;walk_at "go";rw[zfP,<- List.map_take];walk_at "go";have hgc:∀g∈zaM tabs (order.take i) x,(∀w∈g.1,w∈order.take i)/\g.1.length<=100/\∀e∈g.2,e.2.Nodup/\e.2.length<=vals.length:=λg hg=>by
     obtain⟨b,hb,rfl⟩:=Xt.mp hg;obtain⟨h1,h2⟩:=Yd.mp hb;have h2:x∈b.1:=by simpa using h2
     refine⟨λw hw=>by have:=(Yd.mp hw).2;simpa using this,Ye (Yz _ _) (ok.ls b h1),λe he=>?_⟩;obtain⟨n1,n2⟩:=zjA b.1 (order.take i) h2 (ok.rows b h1).wide (ok.cells b h1) e he;exact⟨n1,sub_len n1 n2⟩
    have hpow:L.length*vals.length<=100000:=by
     refine Ye (Nat.mul_le_mul_right _ hL) ?_;rw[<- Nat.pow_succ];exact Ye (Nat.pow_le_pow_right ok.v1 hio) ok.size
    have hlo:(order.take i).length<=100:=by rw[XH];have:=ok.short;lia
    have hso:=ok.short;refine⟨_,rfl,by rw[Xc];lia,PV.lst (L.map rowI),.inl ⟨_,.inl rfl,zhk ?_⟩,tabs,rfl,rfl,order.take i,rfl,⟨ok.few,ok.ls,ok.rows⟩,L,rfl,order.take i,rfl,zaM tabs (order.take i) x,rfl,?_,?_,hlo,λp hp=>((hP.mem p).mp hp).1,vals.length,λg hg=>⟨(hgc g hg).1,(hgc g hg).2.1,λe he=>((hgc g hg).2.2 e he).2⟩,hpow,λL' hG hl=>?_⟩
    ·rw[Xc,hlen,Nat.add_sub_cancel,Xd,hlast];rfl
    ·obtain⟨b,hb,hx⟩:=ok.all x hxo;have:(zaE b.1 (order.take i),zaT b.1 (order.take i) x b.2)∈zaM tabs (order.take i) x:=Xt.mpr ⟨b,Yd.mpr ⟨hb,by simpa using hx⟩,rfl⟩;exact List.ne_nil_of_mem this
    ·unfold zaM;rw[Xc];exact Ye (Yz _ _) ok.few
    ·refine(hIv _ _).mpr ⟨Ls++[L'],_,_,_,⟨by rw[XB,hlen];rfl,λj M e=>?_⟩,by unfold lvP;rw[Xm];rfl⟩;rcases YG j Ls.length with hj | hj
     ·rw[Yg hj]at e;exact hLs.at_ j M e
     ·rw[XQ hj]at e;have hj0:j-Ls.length=0:=by
       rcases Nat.eq_zero_or_pos (j-Ls.length)with z | z
       ·exact z
       ·rw[XG (by simp;lia)]at e;cases e
      rw[hj0]at e;have e:L'=M:=Option.some.inj e;have hji:j=i+1:=by lia
      rw[<- e,hji,htk];refine⟨hP.step hxn hG λg hg e he=>((hgc g hg).2.2 e he).1,Ye hl ?_⟩;rw[Nat.pow_succ];exact Nat.mul_le_mul_right _ hL
  ·intro ρ hI;obtain⟨Ls,k4,k5,k6,hLs,rfl⟩:=(hIv _ _).mp hI;rw[zdX,Xc]at hLs;walk_at "go";exact q Ls hLs
 refine⟨tabs.map λb=>b.2.map rowI,by unfold rwsP tblP;rw[Ym];rfl,?_⟩;have hst:=Parts.start tabs;have hall:((tabs.map λb=>b.2.map rowI).all λd=>!d.isEmpty)=tabs.all λb=>!b.2.isEmpty:=by
  rw[List.all_map]
  congr 1
  funext b;show(!(b.2.map rowI).isEmpty) = !b.2.isEmpty;cases b.2<;>rfl
 rw[hall];refine ite2 (λe=>?_) (λe=>?_)
 ·rw[if_pos e]at hst;exact⟨by lia,by lia,by lia,hh _ hst (by simp)⟩
 ·rw[if_neg e]at hst;exact⟨by lia,by lia,hh _ hst (by simp)⟩
end
open _K (mix zch abc stepOf zaV zbb)
noncomputable def fMix:PF:=λds Q=>∃c j:Int,ds=[.int c,.int j]/\0<=j/\j<=1000/\Q (.int (mix c j)) .frz
theorem zbh:zbE fMix:=λds Q Q' m q153q=>by obtain⟨c,j,e,h1,h2,q⟩:=q153q;exact⟨c,j,e,h1,h2,m _ _ q⟩
section
variable {P:Program}{w:World}{K:Xb}{mg:Str->Option Value}{base:Heap}
theorem zts:zaw ["_law_cell","_law_j","_law_number"] ["_law_cell","_law_j"] (zac sMix):=⟨rfl,rfl,rfl,by decide +kernel,rfl,by decide +kernel,by decide +kernel⟩
theorem zgz {f:Addr}{fd:FuncData}(F:Fun K "_law_mix" "_law_mix" sMix f fd):FnOk P w K mg base CX0 1 f fd ["_law_cell","_law_j"] (spP K fMix):=by
 refine zaH F zts (λds Q q154q=>by obtain⟨c,j,e,_⟩:=q154q;rw[e];rfl) (λcdv A outer s H E hr=>?_);have hu:(A.deeper (envOfC "_law_mix" (zac sMix) s.heap.objs.size f cdv)).units+16<cLine:=by have q:=hr.units;lia
 have nd:=zts.nd;refine⟨_,(zae (zdU (PuW.t (zqr (zpu hu (zbl (zab 0) zai) zai) (zot (zeL hu (zpr (zab 0) zai) zai)))) (zah (zar (zbl (zpr (zab 0) (zbL zai (zeK zai (zab 1)))) zai))) zbT)
   (zae (zal (i:=2) nd rfl (Or.inl rfl) (zbl (zbL (zeK (zab 0) (zbL (zeK zai (zab 1)) zai)) (zab 1)) zai))
   (zae (zal (i:=2) nd rfl (Or.inl rfl) (zbl (zeK (zbL (zeK (zab 2) (zab 2)) zai) zai) zai))
   (zah (zar (zbl (zeK (zab 2) (zab 2)) zai)))))),λds Q h=>?_⟩
 obtain⟨c,j,rfl,h0,h1,q⟩:=h;have n1:=Yn (c*(2*j+3)+j) (show(2147483629:Int)≠0 by decide);have n2:=Yw (c*(2*j+3)+j) (show(0:Int)<2147483629 by decide);have b2:∀z:Int,CMul (z % 2147483629) (z % 2147483629):=λz=>.inl ⟨by lia,by lia⟩;have els:¬ (c % 2=1/\c / 2 ^ 27≠0)->Q (.int ((((c*(2*j+3)+j) % 2147483629*((c*(2*j+3)+j) % 2147483629)+1)*48271 % 2147483629)*(((c*(2*j+3)+j) % 2147483629*((c*(2*j+3)+j) % 2147483629)+1)*48271 % 2147483629) % 2147483587)) .frz:=λhn=>by
  unfold mix at q;rw[if_neg hn]at q;exact q
 walk_at "pu";refine⟨by decide,ite2 (λe1=>⟨by decide,ite2 (λe2=>?a) (λe2=>?b)⟩) (λe1=>?c)⟩
 case a=>
  walk_at "auto";unfold mix at q;rw[if_pos ⟨e1,e2⟩]at q;exact q
 case b=>
  walk_at "auto";exact els λz=>e2 z.2
 case c=>
  walk_at "auto";exact els λz=>e1 z.1
theorem take_snoc {α:Type}{l:List α}{i:Nat}{o:α}(h:l[i]? = some o):l.take i++[o]=l.take (i+1):=by rw[XD,h];rfl
noncomputable def zcY (c:Int):List Str:=zaV (mix c 1 % 26).toNat (stepOf (mix c 2 % 6).toNat)
theorem zjC (c:Int):(zcY c).Nodup:=zbb _ _ (by lia) (by lia)
theorem ziy (c:Int):(zcY c).length=6:=by simp[zcY,zaV]
noncomputable abbrev ABC:Str:="ABCDEFGHIJKLMNOPQRSTUVWXYZ"
theorem ztt:∀n:Nat,n<26->ABC.cps.toList[n]? = some (65+n):=by decide +kernel
theorem zri:ABC.length=26:=by decide +kernel
theorem zpa:∀n:Nat,n<6->atI [PV.int 1,PV.int 3,PV.int 5,PV.int 7,PV.int 9,PV.int 11] (n:Int)=some (PV.int (stepOf n)):=λn h=>zaR (by
 match n,h with
 | 0,_=>rfl
 | 1,_=>rfl
 | 2,_=>rfl
 | 3,_=>rfl
 | 4,_=>rfl
 | 5,_=>rfl)
noncomputable def nLet (c:Int):Nat:=(2+mix c 3 % 5).toNat
theorem zfQ (c:Int):2<=nLet c/\nLet c<=6:=by unfold nLet;lia
noncomputable def letS (c:Int):List Str:=(zcY c).take (nLet c)
theorem zrj (c:Int):(letS c).Nodup:=(List.take_sublist _ _).nodup (zjC c)
theorem zfg (c:Int):(letS c).length=nLet c:=by unfold letS;rw[XH,ziy];have:=zfQ c;lia
noncomputable def zei:PF:=λds Q=>∃c:Int,ds=[.int c]/\Q (.lst ((letS c).map PV.str)) .new
theorem ziz:zbE zei:=λds Q Q' m q155q=>by obtain⟨c,e,q⟩:=q155q;exact⟨c,e,m _ _ q⟩
theorem ziA:zaw ["_law_cell","_law_letters_here","_law_start","_law_step"] ["_law_cell"] (zac zbC):=⟨rfl,rfl,rfl,by decide +kernel,rfl,by decide +kernel,by decide +kernel⟩
theorem zlr {f fM:Addr}{fd fdM:FuncData}(F:Fun K "_law_letters" "_law_letters" zbC f fd) (Mix:Fx K mg "_law_mix" sMix ["_law_cell","_law_j"] fM fdM) (B:Bl mg):FnOk P w K mg base CX0 2 f fd ["_law_cell"] (spP K zei):=by
 have GMix:FnOk P w K mg base CX0 1 fM fdM ["_law_cell","_law_j"] (spP K fMix):=zgz Mix.fn;refine zaH F ziA (λds Q q156q=>by obtain⟨c,e,_⟩:=q156q;rw[e];rfl) (λcdv A outer s H E hr=>?_);have hu:(A.deeper (envOfC "_law_letters" (zac zbC) s.heap.objs.size f cdv)).units+16<cLine:=by have q:=hr.units;lia
 have nd:=ziA.nd;refine⟨_,(zae (zal (i:=1) nd rfl (Or.inr rfl) zsq)
   (zae (zal (i:=2) nd rfl (Or.inr rfl) (zbl (zak GMix zbh hr rfl Mix.mg Mix.fn.kp Mix.bd (zaa (zab 0) (zaa zai zad))) zai))
   (zae (zal (i:=3) nd rfl (Or.inr rfl) (zax (zbm (zaa zai (zaa zai (zaa zai (zaa zai (zaa zai (zaa zai zad))))))) (zbl (zak GMix zbh hr rfl Mix.mg Mix.fn.kp Mix.bd (zaa (zab 0) (zaa zai zad))) zai)))
   (zah (zar (zaG (N:=["_law_k","_law_letters_here","_law_start","_law_step"]) (k:=1) (js:=[1,2,3]) rfl (zcm (sup:=zac zbC) (XN:=["_law_cell","_law_letters_here","_law_start","_law_step"]) rfl rfl (by decide +kernel)) (by decide) (zaC (by decide)) (zbz rfl B.range (zaa (zbL zai (zbl (zak GMix zbh hr rfl Mix.mg Mix.fn.kp Mix.bd (zaa (zab 0) (zaa zai zad))) zai)) zad)) ⟨λ_ _ _ _ _=>(zaj (i:=0) (by show(["_law_k","_law_letters_here","_law_start","_law_step"]:List Str).Nodup;decide +kernel) rfl (Or.inl rfl)),λ_ _ _ _ _=>zaU,λ_ _ _ _ _=>(zax (zab 1) (zbl (zbL (zab 2) (zeK (zab 3) (zab 0))) zai))⟩)))))),λds Q h=>?_⟩
 obtain⟨c,rfl,q⟩:=h;have m1:=zch c 1;have m2:=zch c 2;have m3:=zch c 3;have e1:mix c 1 % 26=((mix c 1 % 26).toNat:Int):=by lia
 have e2:mix c 2 % 6=((mix c 2 % 6).toNat:Int):=by lia
 have nl:=zfQ c;walk_at "pu";walk_at "auto";refine⟨_,by rw[e2];exact zpa _ (by lia),?_⟩;walk_at "go";have hl:(rngP 0 (2+mix c 3 % 5).toNat).length=nLet c:=zbU 0 _;refine⟨by decide,by decide,by decide,by lia,by lia,by rw[hl,sizeLine_eq];lia,λi out=>out=((letS c).map PV.str).take i,rfl,?_,?_⟩
 ·rintro i d out hd-rfl;obtain⟨hi,rfl⟩:=zco hd;have hi6:i<nLet c:=hi;have n0:((mix c 1 % 26)+(stepOf (mix c 2 % 6).toNat:Int)*(0+(i:Int))) % 26=((((mix c 1 % 26).toNat+stepOf (mix c 2 % 6).toNat*i) % 26:Nat):Int):=by
   rw[Int.zero_add,e1];lia
  refine⟨_,rfl,.inr ⟨by lia,by lia⟩,by decide,by rw[zri];decide,_,⟨65+((mix c 1 % 26).toNat+stepOf (mix c 2 % 6).toNat*i) % 26,?_,rfl⟩,take_snoc ?_⟩
  ·rw[n0];exact zaR (ztt _ (Nat.mod_lt _ (by decide)))
  ·unfold letS;rw[Xd,List.getElem?_take_of_lt hi6];unfold zcY zaV;simp[List.getElem?_range (show i<6 by lia),abc]
 ·rintro out-rfl;rw[hl,Xi (by rw[Xc,zfg];exact Xf _)];exact q
end
theorem zhl:∀(l:List Str)(i:Nat)(h:i<l.length),(l[i]::l.eraseIdx i).Perm l
 | a::l,0,_=>.refl _
 | a::l,i+1,h=>(YC.swap a _ _).trans (.cons a (zhl l i (by simpa using h)))
theorem zeB {α β:Type}(f:α->β):∀(l:List α)(i:Nat),(l.map f).eraseIdx i=(l.eraseIdx i).map f
 | [],_=>rfl
 | _::_,0=>rfl
 | x::r,i+1=>by rw[Xy,List.eraseIdx_cons_succ,List.eraseIdx_cons_succ,Xy,zeB f r i]
noncomputable def zfR (c:Int)(i k n:Nat):Nat:=(mix c (11+4*(i:Int)+(k:Int)) % (n:Int)).toNat
theorem zkE {c:Int}{i k n:Nat}(h:0<n):zfR c i k n<n:=by
 unfold zfR;have:=Yn (mix c (11+4*(i:Int)+(k:Int))) (show(n:Int)≠0 by lia);have:=Yw (mix c (11+4*(i:Int)+(k:Int))) (show(0:Int)<n by lia);lia
noncomputable def popN (c:Int)(i:Nat):Nat->List Str×List Str
 | 0=>(letS c,[])
 | k+1=>((popN c i k).1.eraseIdx (zfR c i k (popN c i k).1.length),(popN c i k).2++[(popN c i k).1.getD (zfR c i k (popN c i k).1.length) ⟨#[]⟩])
theorem zfS (c:Int)(i:Nat):∀k:Nat,k<=nLet c->(popN c i k).1.length+k=nLet c/\(popN c i k).2.length=k/\((popN c i k).1++(popN c i k).2).Perm (letS c)
 | 0,_=>⟨zfg c,rfl,by simp[popN]⟩
 | k+1,h=>by
  obtain⟨h1,h2,h3⟩:=zfS c i k (by lia);have hk:zfR c i k (popN c i k).1.length<(popN c i k).1.length:=zkE (by lia);refine⟨?_,?_,?_⟩
  ·show((popN c i k).1.eraseIdx _).length+(k+1)=_;rw[YA hk];lia
  ·show((popN c i k).2++[_]).length=_;rw[XB,h2];rfl
  ·refine YC.trans ?_ h3;show((popN c i k).1.eraseIdx _++((popN c i k).2++[_])).Perm _;rw[Xk,Xa hk,<- XE];refine Yy.trans ?_;show((popN c i k).1[zfR c i k (popN c i k).1.length]::((popN c i k).1.eraseIdx _++(popN c i k).2)).Perm _;exact(zhl _ _ hk).append_right _
noncomputable def nPat (c:Int)(i:Nat):Nat:=(1+mix c (5+(i:Int)) % min 4 (nLet c:Int)).toNat
theorem zfT (c:Int)(i:Nat):1<=nPat c i/\nPat c i<=4/\nPat c i<=nLet c:=by
 unfold nPat;have:=zfQ c;have h0:(0:Int)<min 4 (nLet c:Int):=by lia
 have:=Yn (mix c (5+(i:Int))) (Int.ne_of_gt h0);have:=Yw (mix c (5+(i:Int))) h0;omega
noncomputable def patS (c:Int)(i:Nat):List Str:=(popN c i (nPat c i)).2
theorem zkF (c:Int)(i:Nat):(patS c i).length=nPat c i:=(zfS c i _ (zfT c i).2.2).2.1
theorem zkG (c:Int)(i:Nat):∀x∈patS c i,x∈letS c:=λx hx=>(zfS c i _ (zfT c i).2.2).2.2.mem_iff.mp (Xr.mpr (.inr hx))
theorem zrk (c:Int)(i:Nat):(patS c i).Nodup:=(YB.mp ((zfS c i _ (zfT c i).2.2).2.2.nodup_iff.mpr (zrj c))).2.1
noncomputable def nShp (c:Int):Nat:=(1+mix c 4 % 6).toNat
theorem znG (c:Int):1<=nShp c/\nShp c<=6:=by unfold nShp;lia
noncomputable def shpS (c:Int):List (List Str):=(XZ (nShp c)).map (patS c)
noncomputable def shpV (sh:List (List Str)):PV:=.lst (sh.map λls=>.tup (ls.map PV.str))
noncomputable def ziB:PF:=λds Q=>∃c:Int,ds=[.int c]/\Q (shpV (shpS c)) .new
theorem zgA:zbE ziB:=λds Q Q' m q157q=>by obtain⟨c,e,q⟩:=q157q;exact⟨c,e,m _ _ q⟩
section
variable {P:Program}{w:World}{K:Xb}{mg:Str->Option Value}{base:Heap}
theorem znH:zaw ["_law_cell","_law_letters_here","_law_found","_law_i","_law_some","_law_pattern","_law_k"] ["_law_cell"] (zac zef):=⟨rfl,rfl,rfl,by decide +kernel,rfl,by decide +kernel,by decide +kernel⟩
theorem zpb {f fM fL:Addr}{fd fdM fdL:FuncData}(F:Fun K "_law_shape" "_law_shape" zef f fd) (Mix:Fx K mg "_law_mix" sMix ["_law_cell","_law_j"] fM fdM) (Letters:Fx K mg "_law_letters" zbC ["_law_cell"] fL fdL) (B:Bl mg):FnOk P w K mg base CX0 3 f fd ["_law_cell"] (spP K ziB):=by
 have GMix:FnOk P w K mg base CX0 2 fM fdM ["_law_cell","_law_j"] (spP K fMix):=(zgz Mix.fn).mono (by decide);have GLetters:FnOk P w K mg base CX0 2 fL fdL ["_law_cell"] (spP K zei):=zlr Letters.fn Mix B;refine zaH F znH (λds Q q158q=>by obtain⟨c,e,_⟩:=q158q;rw[e];rfl) (λcdv A outer s H E hr=>?_);have hu:(A.deeper (envOfC "_law_shape" (zac zef) s.heap.objs.size f cdv)).units+16<cLine:=by have q:=hr.units;lia
 have nd:=znH.nd;refine⟨_,(zae (zal (i:=1) nd rfl (Or.inl rfl) (zak GLetters ziz hr rfl Letters.mg Letters.fn.kp Letters.bd (zaa (zab 0) zad)))
   (zae (zal (i:=2) nd rfl (Or.inl rfl) (zbm zad))
   (zae (zcz rfl PassesOwn.never (zbz rfl B.range (zaa (zbL zai (zbl (zak GMix zbh hr rfl Mix.mg Mix.fn.kp Mix.bd (zaa (zab 0) (zaa zai zad))) zai)) zad)) (zaj (i:=3) nd rfl (Or.inl rfl)) (zae (zal (i:=4) nd rfl (Or.inl rfl) (zmB rfl B.list (zaa (zab 1) zad)))
   (zae (zal (i:=5) nd rfl (Or.inl rfl) (zbm zad))
   (zae (zcz rfl PassesOwn.never (zbz rfl B.range (zaa (zbL zai (zbl (zak GMix zbh hr rfl Mix.mg Mix.fn.kp Mix.bd (zaa (zab 0) (zaa (zbL zai (zab 3)) zad))) (zqG rfl rfl B.min (zaa zai (zaa (zbr rfl B.len (zaa (zab 1) zad)) zad))))) zad)) (zaj (i:=6) nd rfl (Or.inl rfl)) (zah (zbq (zfw 5 (zhQ 4 (zbl (zak GMix zbh hr rfl Mix.mg Mix.fn.kp Mix.bd (zaa (zab 0) (zaa (zbL (zbL zai (zeK zai (zab 3))) (zab 6)) zad))) (zbr rfl B.len (zaa (zab 4) zad))))))))
   (zah (zbq (zbX 2 (zcB rfl B.tuple (zaa (zab 5) zad)))))))))
   (zah (zar (zab 2)))))),λds Q h=>?_⟩
 obtain⟨c,rfl,q⟩:=h;have m4:=zch c 4;walk_at "pu";walk_at "auto";have nsl:=znG c;have nll:=zfQ c;have hl:(rngP 0 (1+mix c 4 % 6).toNat).length=nShp c:=zbU 0 _;have hsz:=sizeLine_eq;have hlet:=zfg c;obtain⟨Iv,hIv⟩:∃Iv:Nat->PEnv->Prop,∀i ρ,Iv i ρ↔∃(k3 k4 k5 k6:Option (PV×Bool)),ρ=[some (PV.int c,false),some (PV.lst (XT PV.str (letS c)),true),some (PV.lst (((XZ i).map (patS c)).map λls=>PV.tup (ls.map PV.str)),true),k3,k4,k5,k6]:=⟨_,λ_ _=>Iff.rfl⟩;refine⟨Iv,(hIv _ _).mpr ⟨none,none,none,none,rfl⟩,?_,?_⟩
 ·intro i d ρ hd hI;obtain⟨k3,k4,k5,k6,rfl⟩:=(hIv _ _).mp hI;obtain⟨hi,rfl⟩:=zco hd;have hi6:i<nShp c:=hi;rw[Int.zero_add];have npl:=zfT c i;have hlp:(rngP 0 (1+mix c (5+(i:Int)) % min 4 (nLet c:Int)).toNat).length=nPat c i:=zbU 0 _;walk_at "go";walk_at "go";refine⟨by lia,?_⟩;walk_at "go";have hmn:(if ((XT PV.str (letS c)).length:Int)<4 then((XT PV.str (letS c)).length:Int) else 4)=min 4 (nLet c:Int):=by
   rw[Xc,hlet];split<;>lia
  have h0:(0:Int)<min 4 (nLet c:Int):=by omega
  have r1:=Yn (mix c (5+(i:Int))) (Int.ne_of_gt h0);have r2:=Yw (mix c (5+(i:Int))) h0;rw[hmn];obtain⟨Jv,hJv⟩:∃Jv:Nat->PEnv->Prop,∀k ρ,Jv k ρ↔∃(k6:Option (PV×Bool)),ρ=[some (PV.int c,false),some (PV.lst (XT PV.str (letS c)),true),some (PV.lst (((XZ i).map (patS c)).map λls=>PV.tup (ls.map PV.str)),true),
   some (PV.int (i:Int),false),some (PV.lst ((popN c i k).1.map PV.str),true),some (PV.lst ((popN c i k).2.map PV.str),true),k6]:=⟨_,λ_ _=>Iff.rfl⟩
  refine⟨by lia,by lia,h0,by lia,by lia,Jv,(hJv _ _).mpr ⟨k6,rfl⟩,?_,?_⟩
  ·intro k d ρ hd hJ;obtain⟨k6,rfl⟩:=(hJv _ _).mp hJ;obtain⟨hk,rfl⟩:=zco hd;have hk:k<nPat c i:=hk;rw[Int.zero_add];obtain⟨p1,p2,p3⟩:=zfS c i k (by lia);have hpos:0<(popN c i k).1.length:=by lia
   have hx:=zkE (c:=c) (i:=i) (k:=k) hpos;have b1:=Yn (mix c (11+4*(i:Int)+(k:Int))) (show((popN c i k).1.length:Int)≠0 by lia);have b2:=Yw (mix c (11+4*(i:Int)+(k:Int))) (show(0:Int)<((popN c i k).1.length:Int) by lia);walk_at "go";rw[Xc];refine⟨.inl ⟨by lia,by lia⟩,by lia,by lia,by lia,by lia,by lia,zfR c i k (popN c i k).1.length,seqIndex_of b1 b2,_,by rw[Xd,Xa hx];rfl,by rw[Xc];lia,(hJv _ _).mpr ⟨some (PV.int (k:Int),false),?_⟩⟩;have g1:(popN c i k).1.getD (zfR c i k (popN c i k).1.length) ⟨#[]⟩=(popN c i k).1[zfR c i k (popN c i k).1.length]:=by
    rw[Xk,Xa hx];rfl
   rw[zeB];show _=[_,_,_,_,some (PV.lst (((popN c i k).1.eraseIdx (zfR c i k (popN c i k).1.length)).map PV.str),true),some (PV.lst (((popN c i k).2++[(popN c i k).1.getD (zfR c i k (popN c i k).1.length) ⟨#[]⟩]).map PV.str),true),_];rw[g1,Xm];rfl
  ·intro ρ hJ;obtain⟨k6,rfl⟩:=(hJv _ _).mp hJ;rw[hlp];walk_at "go";refine⟨by simp;lia,(hIv _ _).mpr ⟨some (PV.int (i:Int),false),some (PV.lst (XT PV.str (popN c i (nPat c i)).1),true),some (PV.lst (XT PV.str (popN c i (nPat c i)).2),true),k6,?_⟩⟩;rw[List.range_succ,Xm,Xm];rfl
 ·intro ρ hI;obtain⟨k3,k4,k5,k6,rfl⟩:=(hIv _ _).mp hI;rw[hl];walk_at "go";exact q
end
noncomputable def far (c:Int):Int:=c % (10 ^ 60-1)
noncomputable def numS (c:Int):List Int:=[[far c,0],[far c,-far c,far c+1],[0,-far c,1]].getD (mix c 40 % 3).toNat []
theorem zfh (c:Int):2<=(numS c).length/\(numS c).length<=3:=by
 unfold numS;have h:(mix c 40 % 3).toNat<3:=by lia
 generalize (mix c 40 % 3).toNat=n at h
 match n,h with
 | 0,_=>exact⟨by show 2<=_;simp,by simp⟩
 | 1,_=>exact⟨by show 2<=_;simp,by simp⟩
 | 2,_=>exact⟨by show 2<=_;simp,by simp⟩
noncomputable def zfi:PF:=λds Q=>∃c:Int,ds=[.int c]/\Q (.lst ((numS c).map PV.int)) .frz
theorem ziC:zbE zfi:=λds Q Q' m q159q=>by obtain⟨c,e,q⟩:=q159q;exact⟨c,e,m _ _ q⟩
section
variable {P:Program}{w:World}{K:Xb}{mg:Str->Option Value}{base:Heap}
theorem ziD:zaw ["_law_cell","_law_far"] ["_law_cell"] (zac zbV):=⟨rfl,rfl,rfl,by decide +kernel,rfl,by decide +kernel,by decide +kernel⟩
theorem zls {f fM:Addr}{fd fdM:FuncData}(F:Fun K "_law_numbers" "_law_numbers" zbV f fd) (Mix:Fx K mg "_law_mix" sMix ["_law_cell","_law_j"] fM fdM) (B:Bl mg):FnOk P w K mg base CX0 2 f fd ["_law_cell"] (spP K zfi):=by
 have GMix:FnOk P w K mg base CX0 1 fM fdM ["_law_cell","_law_j"] (spP K fMix):=zgz Mix.fn;refine zaH F ziD (λds Q q160q=>by obtain⟨c,e,_⟩:=q160q;rw[e];rfl) (λcdv A outer s H E hr=>?_);have hu:(A.deeper (envOfC "_law_numbers" (zac zbV) s.heap.objs.size f cdv)).units+16<cLine:=by have q:=hr.units;lia
 have nd:=ziD.nd;refine⟨_,(zae (zal (i:=1) nd rfl (Or.inl rfl) (zbl (zab 0) (zst (zsu zai zai) zai)))
   (zah (zar (zax (zbm (zaa (zbm (zaa (zab 1) (zaa zai zad))) (zaa (zbm (zaa (zab 1) (zaa (zig (zab 1)) (zaa (zbL (zab 1) zai) zad)))) (zaa (zbm (zaa zai (zaa (zig (zab 1)) (zaa zai zad)))) zad)))) (zbl (zak GMix zbh hr rfl Mix.mg Mix.fn.kp Mix.bd (zaa (zab 0) (zaa zai zad))) zai))))),λds Q h=>?_⟩
 obtain⟨c,rfl,q⟩:=h;walk_at "pu";walk_at "auto";have m:=zch c 40;have e2:mix c 40 % 3=((mix c 40 % 3).toNat:Int):=by lia
 have h3:(mix c 40 % 3).toNat<3:=by lia
 refine⟨.lst ((numS c).map PV.int),?_,q⟩;rw[e2];refine zaR ?_;unfold numS;generalize (mix c 40 % 3).toNat=n at h3
 match n,h3 with
 | 0,_=>rfl
 | 1,_=>rfl
 | 2,_=>rfl
end
open _S (ltI zdZ zfF zea zeb)
theorem znI {ls:List Str}{w:Str}(h:w∈ls):ls[ixS ls w]? = some w:=by
 have h1:(ls.map PV.str).findIdx (λy=>decide (y=PV.str w))<(ls.map PV.str).length:=List.findIdx_lt_length_of_exists ⟨.str w,Xt.mpr ⟨w,h,rfl⟩,by simp⟩;have h2:=List.findIdx_getElem (p:=λy=>decide (y=PV.str w)) (xs:=ls.map PV.str) (w:=h1);have h3:(ls.map PV.str)[(ls.map PV.str).findIdx (λy=>decide (y=PV.str w))]? = some (PV.str w):=by rw[Xa h1];exact congrArg some (of_decide_eq_true h2)
 rw[Xd]at h3;show ls[(ls.map PV.str).findIdx (λy=>decide (y=PV.str w))]? = some w;cases e:ls[(ls.map PV.str).findIdx (λy=>decide (y=PV.str w))]? with
 | none=>rw[e]at h3;cases h3
 | some y=>rw[e]at h3;cases h3;rfl
theorem zpM {ls:List Str}(nd:ls.Nodup){w:Str}{i:Nat}(h:ls[i]? = some w):ixS ls w=i:=by
 have hm:=Xn h;have h1:=zcI hm;exact(List.getElem?_inj h1 nd).mp ((znI hm).trans h.symm)
theorem zbY (row:List Int)(ls ws:List Str):(zam row ls ws).length=ws.length:=by unfold zam;rw[Xc]
theorem zcR {row:List Int}{ls ws:List Str}{w:Str}(h:w∈ws):(zam row ls ws).getD (ixS ws w) 0=row.getD (ixS ls w) 0:=by
 unfold zam;rw[Xk,Xd,znI h];rfl
theorem zcS {row:List Int}{A B C:List Str}(h:∀w∈C,w∈B):zam (zam row A B) B C=zam row A C:=by
 show C.map _=C.map _;exact YM λw hw=>zcR (h w hw)
theorem zdF {row:List Int}{ls:List Str}(nd:ls.Nodup)(hl:row.length=ls.length):zam row ls ls=row:=by
 refine List.ext_getElem? λi=>?_;unfold zam;rw[Xd];cases h:ls[i]? with
 | none=>
  have:ls.length<=i:=by simpa using h
  simp;lia
 | some w=>
  have hi:i<ls.length:=(Xe.mp h).1;rw[Option.map_some,zpM nd h,Xk,Xa (show i<row.length by lia)];rfl
theorem ziE {ls:List Str}{t:List (List Int)}{order names:List Str}{p:List Int}(hm:∀w,w∈order↔w∈names):Fits ls t names (zam p order names)↔Fits ls t order p:=by
 constructor
 ·rintro⟨r,hr,h⟩;exact⟨r,hr,λw hw ho=>by rw[<- h w hw ((hm w).mp ho),zcR ((hm w).mp ho)]⟩
 ·rintro⟨r,hr,h⟩;exact⟨r,hr,λw hw hn=>by rw[<- h w hw ((hm w).mpr hn),zcR hn]⟩
theorem Parts.move {tabs:List Tab}{order names:List Str}{L:List (List Int)}(hP:Parts tabs order L)(no:order.Nodup)(nn:names.Nodup)(hm:∀w,w∈order↔w∈names):Parts tabs names (L.map λp=>zam p order names):=by
 refine⟨?_,λq=>?_⟩
 ·rw[List.Nodup,List.pairwise_map];refine hP.nd.imp_of_mem λ{a b} h1 h2 hab e=>hab ?_;have l1:=((hP.mem a).mp h1).1;have l2:=((hP.mem b).mp h2).1;have e1:zam (zam a order names) names order=a:=by rw[zcS λw hw=>(hm w).mp hw,zdF no l1]
  have e2:zam (zam b order names) names order=b:=by rw[zcS λw hw=>(hm w).mp hw,zdF no l2]
  rw[<- e1,<- e2,e]
 ·rw[Xt];constructor
  ·rintro⟨p,hp,rfl⟩;exact⟨zbY _ _ _,λb hb=>(ziE hm).mpr (((hP.mem p).mp hp).2 b hb)⟩
  ·rintro⟨h1,h2⟩;have eq:zam (zam q names order) order names=q:=by rw[zcS λw hw=>(hm w).mpr hw,zdF nn h1]
   exact⟨zam q names order,(hP.mem _).mpr ⟨zbY _ _ _,λb hb=>(ziE λw=>(hm w).symm).mpr (h2 b hb)⟩,eq⟩
theorem Parts.perm {tabs:List Tab}{ea:List Str}{L M:List (List Int)}(h1:Parts tabs ea L)(h2:Parts tabs ea M):L.Perm M:=(List.perm_ext_iff_of_nodup h1.nd h2.nd).mpr λp=>(h1.mem p).trans (h2.mem p).symm
theorem Parts.sorted {tabs:List Tab}{ea:List Str}{L M:List (List Int)}(h1:Parts tabs ea L)(h2:Parts tabs ea M):sortI L=sortI M:=zks ((sortI_perm L).trans (h1.perm h2)) (zkr L)
theorem Parts.sort {tabs:List Tab}{ea:List Str}{L:List (List Int)}(h:Parts tabs ea L):Parts tabs ea (sortI L):=⟨(sortI_perm L).nodup_iff.mpr h.nd,λp=>(sortI_perm L).mem_iff.trans (h.mem p)⟩
noncomputable def cutS (ls ea:List Str):List Str:=ls.filter λw=>decide (w∈ea)
theorem zkH {ls ea:List Str}{t t':List (List Int)}{p:List Int}(ht:∀r,r∈t'↔∃r0∈t,zam r0 ls (cutS ls ea)=r):Fits (cutS ls ea) t' ea p↔Fits ls t ea p:=by
 have hin:∀w,w∈cutS ls ea↔w∈ls/\w∈ea:=λw=>by unfold cutS;rw[Yd];simp
 constructor
 ·rintro⟨r,hr,h⟩;obtain⟨r0,h0,rfl⟩:=(ht r).mp hr;refine⟨r0,h0,λw hw he=>?_⟩;have hc:=(hin w).mpr ⟨hw,he⟩;rw[h w hc he,zcR hc]
 ·rintro⟨r0,h0,h⟩;refine⟨_,(ht _).mpr ⟨r0,h0,rfl⟩,λw hc he=>?_⟩;rw[h w ((hin w).mp hc).1 he,zcR hc]
structure Names (sh:List (List Str))(ns:List Str):Prop where
 nd:ns.Nodup
 mem:∀x,x∈ns↔∃p∈sh,x∈p
 srt:sortedS ns=true
theorem Names.uniq {sh:List (List Str)}{a b:List Str}(h1:Names sh a)(h2:Names sh b):a=b:=
 _K.zgp (_K.zij a h1.srt) (_K.zij b h2.srt) h1.nd h2.nd λx=>(h1.mem x).trans (h2.mem x).symm
noncomputable def ordS (x:Str):Int:=((x.cps.getD 0 0:Nat):Int)
noncomputable def put1 (F:List (List (List Int)))(i:Nat)(r:List Int):List (List (List Int)):=if r∈F.getD i [] then F else F.set i (F.getD i []++[r])
structure RW (sh:List (List Str))(nums:List Int)(F:List (List (List Int)))(n:Nat):Prop where
 len:F.length=sh.length
 row:∀i l,F[i]? = some l->l.length<=n/\∀r∈l,r.length=(sh.getD i []).length/\∀c∈r,c∈nums
theorem RW.start (sh:List (List Str))(nums:List Int):RW sh nums (sh.map λ_=>[]) 0:=by
 refine⟨by simp,λi l h=>?_⟩;rw[Xd]at h;cases e:sh[i]? with
 | none=>rw[e]at h;cases h
 | some x=>rw[e]at h;cases h;exact⟨by simp,λr hr=>by cases hr⟩
theorem RW.weak {sh:List (List Str)}{nums:List Int}{F:List (List (List Int))}{n m:Nat}(h:RW sh nums F n)(hm:n<=m):RW sh nums F m:=⟨h.len,λi l e=>⟨Ye (h.row i l e).1 hm,(h.row i l e).2⟩⟩
theorem RW.put {sh:List (List Str)}{nums:List Int}{F:List (List (List Int))}{n i:Nat}{r:List Int}(h:RW sh nums F n)(hi:i<sh.length)(hr:r.length=(sh.getD i []).length)(hc:∀c∈r,c∈nums):RW sh nums (put1 F i r) (n+1):=by
 unfold put1;split
 ·exact h.weak (Nat.le_succ _)
 ·have hiF:i<F.length:=by rw[h.len];exact hi
  refine⟨by rw[Yt];exact h.len,λj l e=>?_⟩;rw[List.getElem?_set]at e;by_cases hij:i=j
  ·subst hij;rw[if_pos rfl,if_pos hiF]at e;have e:=Option.some.inj e;have g:F.getD i []=F[i]:=by rw[Xk,Xa hiF];rfl
   obtain⟨h1,h2⟩:=h.row i F[i] (Xa hiF);rw[g]at e;rw[<- e];refine⟨by rw[XB];simp;omega,λr' hr'=>?_⟩;rcases Xr.mp hr' with hr' | hr'
   ·exact h2 r' hr'
   ·rw[Xl.mp hr'];exact⟨hr,hc⟩
  ·rw[if_neg hij]at e;obtain⟨h1,h2⟩:=h.row j l e;exact⟨by lia,h2⟩
noncomputable def zdl (c:Int)(n:Nat):Nat:=(mix c 1 % (n:Int)).toNat
theorem zkI {c:Int}{n:Nat}(h:0<n):zdl c n<n:=by
 unfold zdl;have:=Yn (mix c 1) (show(n:Int)≠0 by lia);have:=Yw (mix c 1) (show(0:Int)<n by lia);lia
noncomputable def numAt (nums:List Int)(i:Int):Int:=nums.getD (i % (nums.length:Int)).toNat 0
theorem zhm {nums:List Int}{i:Int}(h:0<nums.length):(i % (nums.length:Int)).toNat<nums.length:=by
 have:=Yn i (show(nums.length:Int)≠0 by lia);have:=Yw i (show(0:Int)<nums.length by lia);lia
theorem ziF {nums:List Int}{i:Int}(h:0<nums.length):numAt nums i∈nums:=by
 unfold numAt;rw[Xk,Xa (zhm h)];exact Yr _
noncomputable def rowOf (nums:List Int)(c:Int)(k:Nat):List Int:=(XZ k).map λ(j:Nat)=>numAt nums (mix c (2+(j:Int)))
noncomputable def zeO (nums:List Int)(ls:List Str):List Int:=ls.map λw=>numAt nums (ordS w)
noncomputable def rws1 (sh:List (List Str))(nums:List Int)(cells:List Int):List (List (List Int)):=cells.foldl (λF c=>put1 F (zdl c sh.length) (rowOf nums c (sh.getD (zdl c sh.length) []).length)) (sh.map λ_=>[])
noncomputable def rws2 (sh:List (List Str))(nums:List Int)(F:List (List (List Int)))(m:Nat):List (List (List Int)):=(XZ m).foldl (λF i=>put1 F i (zeO nums (sh.getD i []))) F
noncomputable def rws3 (sh:List (List Str))(nums:List Int)(cells:List Int)(total:Int):List (List (List Int)):=if mix total 41 % 2=1 then rws2 sh nums (rws1 sh nums cells) sh.length else rws1 sh nums cells
theorem zkJ {nums:List Int}(h:0<nums.length)(c:Int)(k:Nat):(rowOf nums c k).length=k/\∀x∈rowOf nums c k,x∈nums:=by
 refine⟨by simp[rowOf],λx hx=>?_⟩;obtain⟨j,_,rfl⟩:=Xt.mp hx;exact ziF h
theorem ziG {nums:List Int}(h:0<nums.length)(ls:List Str):(zeO nums ls).length=ls.length/\∀x∈zeO nums ls,x∈nums:=by
 refine⟨by simp[zeO],λx hx=>?_⟩;obtain⟨j,_,rfl⟩:=Xt.mp hx;exact ziF h
theorem znJ (sh:List (List Str))(nums:List Int)(cells:List Int)(c:Int):rws1 sh nums (cells++[c])=put1 (rws1 sh nums cells) (zdl c sh.length) (rowOf nums c (sh.getD (zdl c sh.length) []).length):=by
 unfold rws1;rw[List.foldl_append];rfl
theorem ziH (sh:List (List Str))(nums:List Int)(F:List (List (List Int)))(m:Nat):rws2 sh nums F (m+1)=put1 (rws2 sh nums F m) m (zeO nums (sh.getD m [])):=by
 unfold rws2;rw[List.range_succ,List.foldl_append];rfl
theorem RW.fold {sh:List (List Str)}{nums:List Int}(hs:0<sh.length)(hn:0<nums.length):∀(cells:List Int)(F:List (List (List Int)))(n:Nat),RW sh nums F n->RW sh nums (cells.foldl (λF c=>put1 F (zdl c sh.length) (rowOf nums c (sh.getD (zdl c sh.length) []).length)) F) (n+cells.length)
 | [],F,n,h=>h
 | c::cells,F,n,h=>by
  have:=RW.fold hs hn cells _ (n+1) (h.put (i:=zdl c sh.length) (r:=rowOf nums c (sh.getD (zdl c sh.length) []).length) (zkI hs) (zkJ hn c _).1 (zkJ hn c _).2);rw[YK,Ya,show n+(cells.length+1)=n+1+cells.length by lia];exact this
theorem rw1 {sh:List (List Str)}{nums:List Int}(hs:0<sh.length)(hn:0<nums.length)(cells:List Int):RW sh nums (rws1 sh nums cells) cells.length:=by
 have:=RW.fold hs hn cells _ 0 (RW.start sh nums);rw[Nat.zero_add]at this;exact this
theorem rw2 {sh:List (List Str)}{nums:List Int}(hn:0<nums.length){F:List (List (List Int))}{n:Nat}(h:RW sh nums F n):∀m,m<=sh.length->RW sh nums (rws2 sh nums F m) (n+m)
 | 0,_=>h
 | m+1,hm=>by
  rw[ziH];exact(rw2 hn h m (by lia)).put (by lia) (ziG hn _).1 (ziG hn _).2
theorem rw3 {sh:List (List Str)}{nums:List Int}(hs:0<sh.length)(hn:0<nums.length)(cells:List Int)(total:Int):RW sh nums (rws3 sh nums cells total) (cells.length+sh.length):=by
 unfold rws3;split
 ·exact rw2 hn (rw1 hs hn cells) _ (Xf _)
 ·exact(rw1 hs hn cells).weak (by lia)
noncomputable def rwsS (sh:List (List Str))(cells:List Int)(total:Int):List (List (List Int)):=(rws3 sh (numS total) cells total).map sortI
structure ShOk (sh:List (List Str)):Prop where
 pos:0<sh.length
 few:sh.length<=6
 pat:∀ls∈sh,1<=ls.length/\ls.length<=4/\ls.Nodup/\∀x∈ls,x.length=1
noncomputable def znK:PF:=λds Q=>∃(sh:List (List Str))(cells:List Int)(total:Int),ds=[shpV sh,.lst (cells.map PV.int),.int total]/\ShOk sh/\cells.length<=63/\Q (.lst ((rwsS sh cells total).map tblP)) .new
theorem ziI:zbE znK:=λds Q Q' m q161q=>by obtain⟨a,b,c,e,h1,h2,q⟩:=q161q;exact⟨a,b,c,e,h1,h2,m _ _ q⟩
theorem zlt (l:List (List Int)):(l.map rowI).all (_P.plain 6)=true:=by
 rw[List.all_map,XV];intro r _;show _P.plain 6 (PV.tup (r.map PV.int))=true;simp[_P.plain]
theorem zpc {a b:List Int}(h:rowI a=rowI b):a=b:=by
 unfold rowI at h;injection h with h;exact List.map_inj_right (λx y e=>by injection e) |>.mp h
theorem zkK {r:List Int}{l:List (List Int)}:rowI r∈l.map rowI↔r∈l:=by
 rw[Xt];constructor
 ·rintro⟨x,hx,e⟩;rw[<- zpc e];exact hx
 ·exact λh=>⟨r,h,rfl⟩
theorem ztu {n m:Nat}(h:m<n):ixN n (m:Int)=some m:=by
 unfold ixN;rw[if_pos (by lia),if_pos (by lia)];simp
theorem zkL {O:BOut}{a0 a1 a2 a3 a5:Option (PV×Bool)}{F:List (List (List Int))}{n:Nat}{l:List (List Int)}{r:List Int}(hl:F[n]? = some l)(hs:l.length<sizeLine)(h:O.nx [a0,a1,a2,a3,none,a5,some (.int (n:Int),false),some (rowI r,false)] (BX.L ((put1 F n r).map tblP))) :
  zgb (bxIf (tBl (t2 (pIn true) (pVar 7) (t2 pIx (pVar 4) (pVar 6)))) (zdj 4 (pVar 6) (pVar 7)) zbP 4) O [a0,a1,a2,a3,none,a5,some (.int (n:Int),false),some (rowI r,false)] (BX.L (F.map tblP)):=by
 have hg:F.getD n []=l:=by rw[Xk,hl];rfl
 have hnl:n<F.length:=(Xe.mp hl).1;walk_at "go";refine⟨tblP l,zaR (by rw[Xd,hl];rfl),l.map rowI,.inl rfl,by unfold rowI;simp[_P.plain],zlt l,ite2 (λe=>?_) (λe=>?_)⟩
 ·have hm:¬ r∈l:=λz=>e (zkK.mpr z);walk_at "go";have e2:(put1 F n r).map tblP=(F.map tblP).set n (.lst (l.map rowI++[rowI r])):=by
   unfold put1;rw[hg,if_neg hm,List.map_set]
   congr 1
   unfold tblP;rw[Xm];rfl
  rw[e2]at h;exact⟨n,_,rfl,ztu (by rw[Xc];exact hnl),l.map rowI,by rw[Xd,hl];rfl,by rw[Xc];exact hs,zcw r,h⟩
 ·have hm:r∈l:=Classical.byContradiction λz=>e λy=>z (zkK.mp y);walk_at "go";have e2:put1 F n r=F:=by unfold put1;rw[hg,if_pos hm]
  rw[e2]at h;exact h
section
variable {P:Program}{w:World}{K:Xb}{mg:Str->Option Value}{base:Heap}
theorem zpN:zaw ["_law_shape_here","_law_cells","_law_total","_law_numbers_here","_law_found","_law_cell","_law_i","_law_row"] ["_law_shape_here","_law_cells","_law_total"] (zac zez):=⟨rfl,rfl,rfl,by decide +kernel,rfl,by decide +kernel,by decide +kernel⟩
theorem zrl {f fM fN:Addr}{fd fdM fdN:FuncData}(F:Fun K "_law_rows" "_law_rows" zez f fd) (Mix:Fx K mg "_law_mix" sMix ["_law_cell","_law_j"] fM fdM) (Numbers:Fx K mg "_law_numbers" zbV ["_law_cell"] fN fdN) (B:Bl mg):FnOk P w K mg base CX0 3 f fd ["_law_shape_here","_law_cells","_law_total"] (spP K znK):=by
 have GMix:FnOk P w K mg base CX0 2 fM fdM ["_law_cell","_law_j"] (spP K fMix):=(zgz Mix.fn).mono (by decide);have GNumbers:FnOk P w K mg base CX0 2 fN fdN ["_law_cell"] (spP K zfi):=zls Numbers.fn Mix B;refine zaH F zpN (λds Q q162q=>by obtain⟨a,b,c,e,_⟩:=q162q;rw[e];rfl) (λcdv A outer s H E hr=>?_);have hu:(A.deeper (envOfC "_law_rows" (zac zez) s.heap.objs.size f cdv)).units+16<cLine:=by have q:=hr.units;lia
 have nd:=zpN.nd;refine⟨_,(zae (zal (i:=3) nd rfl (Or.inr rfl) (zak GNumbers ziC hr rfl Numbers.mg Numbers.fn.kp Numbers.bd (zaa (zab 2) zad)))
   (zhW (N:=["_law_pattern"]) (z:=4) rfl (zcm (sup:=zac zez) (XN:=["_law_shape_here","_law_cells","_law_total","_law_numbers_here","_law_found","_law_cell","_law_i","_law_row"]) rfl rfl (by decide +kernel)) (zas (zab 0)) (λ_ _ _ _ _=>ziS (i:=0) (by show(["_law_pattern"]:List Str).Nodup;decide +kernel) rfl (Or.inl rfl)) nd rfl rfl (zcW (zji (i:=5) nd rfl (Or.inr rfl) rfl PassesOwn.never (zas (zab 1)) (zcW (zjh (i:=6) nd rfl (Or.inl rfl) (zbl (zak GMix zbh hr rfl Mix.mg Mix.fn.kp Mix.bd (zaa (zab 5) (zaa zai zad))) (zbr rfl B.len (zaa (zab 0) zad))))
   (zcW (zjh (i:=7) nd rfl (Or.inl rfl) (zcB rfl B.tuple (zaa (zaG (N:=["_law_k","_law_numbers_here","_law_cell"]) (k:=1) (js:=[3,5]) rfl (zcm (sup:=zac zez) (XN:=["_law_shape_here","_law_cells","_law_total","_law_numbers_here","_law_found","_law_cell","_law_i","_law_row"]) rfl rfl (by decide +kernel)) (by decide) (zaC (by decide)) (zbz rfl B.range (zaa (zbr rfl B.len (zaa (zax (zab 0) (zab 6)) zad)) zad)) ⟨λ_ _ _ _ _=>(zaj (i:=0) (by show(["_law_k","_law_numbers_here","_law_cell"]:List Str).Nodup;decide +kernel) rfl (Or.inl rfl)),λ_ _ _ _ _=>zaU,λ_ _ _ _ _=>(zax (zab 1) (zbl (zak GMix zbh hr rfl Mix.mg Mix.fn.kp Mix.bd (zaa (zab 2) (zaa (zbL zai (zab 0)) zad))) (zbr rfl B.len (zaa (zab 1) zad))))⟩) zad)))
   (zfz (zmO (zdV hu (zab 7) (zax (zab 4) (zab 6))) (zfz (zmP (zab 6) (zab 7))) zgV)))))
   (zcW (zmO (zpu hu (zbl (zak GMix zbh hr rfl Mix.mg Mix.fn.kp Mix.bd (zaa (zab 2) (zaa zai zad))) zai) zai) (zfz (zji (i:=6) nd rfl (Or.inl rfl) rfl PassesOwn.never (zbz rfl B.range (zaa (zbr rfl B.len (zaa (zab 0) zad)) zad)) (zcW (zjh (i:=7) nd rfl (Or.inl rfl) (zcB rfl B.tuple (zaa (zaG (N:=["_law_letter","_law_numbers_here"]) (k:=1) (js:=[3]) rfl (zcm (sup:=zac zez) (XN:=["_law_shape_here","_law_cells","_law_total","_law_numbers_here","_law_found","_law_cell","_law_i","_law_row"]) rfl rfl (by decide +kernel)) (by decide) (zaC (by decide)) (zjf (zax (zab 0) (zab 6))) ⟨λ_ _ _ _ _=>(zaj (i:=0) (by show(["_law_letter","_law_numbers_here"]:List Str).Nodup;decide +kernel) rfl (Or.inl rfl)),λ_ _ _ _ _=>zaU,λ_ _ _ _ _=>(zax (zab 1) (zbl (zta rfl B.ord (zaa (zab 0) zad)) (zbr rfl B.len (zaa (zab 1) zad))))⟩) zad)))
   (zfz (zmO (zdV hu (zab 7) (zax (zab 4) (zab 6))) (zfz (zmP (zab 6) (zab 7))) zgV))))) zgV)
   (zke (zah (zar (zaG (N:=["_law_lines"]) (k:=1) (js:=[]) rfl (zcm (sup:=zac zez) (XN:=["_law_shape_here","_law_cells","_law_total","_law_numbers_here","_law_found","_law_cell","_law_i","_law_row"]) rfl rfl (by decide +kernel)) (by decide) (zaC (by decide)) (zas (zab 4)) ⟨λ_ _ _ _ _=>(zaj (i:=0) (by show(["_law_lines"]:List Str).Nodup;decide +kernel) rfl (Or.inl rfl)),λ_ _ _ _ _=>zaU,λ_ _ _ _ _=>(zfc rfl B.sorted (zaa (zab 0) zad))⟩)))))))),λds Q h=>?_⟩
 obtain⟨sh,cells,total,rfl,ok,h63,q⟩:=h;have hsz:=sizeLine_eq;walk_at "pu";walk_at "auto";have hfew:=ok.few;have hpos:=ok.pos;have hn:=zfh total;refine⟨_,rfl,by rw[Xc];lia,?_⟩;have hβ0:List.replicate (sh.map λls=>PV.tup (ls.map PV.str)).length (PV.lst [])=(rws1 sh (numS total) (cells.take 0)).map tblP:=by
  unfold rws1;rw[Xc,List.take_zero,List.foldl_nil,Ym];show _=sh.map (Function.const _ (PV.lst []));rw[List.map_const]
 rw[hβ0];walk_at "go";obtain⟨Iv,hIv⟩:∃Iv:Nat->PEnv->BX->Prop,∀i ρ β,Iv i ρ β↔∃(k5 k6 k7:Option (PV×Bool)),ρ=[some (shpV sh,false),some (PV.lst (XT PV.int cells),false),some (PV.int total,false),
      some (PV.lst (XT PV.int (numS total)),false),none,k5,k6,k7]/\β=.L ((rws1 sh (numS total) (cells.take i)).map tblP):=⟨_,λ_ _ _=>Iff.rfl⟩
 refine⟨Iv,(hIv _ _ _).mpr ⟨none,none,none,rfl,rfl⟩,?_,?_⟩
 ·intro i d ρ β hd hI;obtain⟨k5,k6,k7,rfl,rfl⟩:=(hIv _ _ _).mp hI;rw[Xd]at hd;cases hc:cells[i]? with
  | none=>rw[hc]at hd;cases hd
  | some c=>
   rw[hc]at hd;cases hd;have m1:=zch c 1;have hix:=zkI (c:=c) hpos;walk_at "go";refine⟨by decide,by decide,_,rfl,by rw[Xc];lia,?_⟩;have em:mix c 1 % ((sh.map λls=>PV.tup (ls.map PV.str)).length:Int)=((zdl c sh.length:Nat):Int):=by
    rw[Xc];have:=Yn (mix c 1) (show(sh.length:Int)≠0 by lia);unfold zdl;lia
   rw[em];obtain⟨ls,hls⟩:∃ls,sh[zdl c sh.length]? = some ls:=⟨_,Xa hix⟩;have hlg:sh.getD (zdl c sh.length) []=ls:=by rw[Xk,hls];rfl
   have hp:=ok.pat ls (Xn hls);have hR:=rw1 hpos (show 0<(numS total).length by lia) (cells.take i);have hst:rws1 sh (numS total) (cells.take (i+1))=put1 (rws1 sh (numS total) (cells.take i)) (zdl c sh.length) (rowOf (numS total) c ls.length):=by
    rw[XD,hc];show rws1 sh (numS total) (cells.take i++[c])=_;rw[znJ,hlg]
   generalize rws1 sh (numS total) (cells.take i)=F0 at hR hst;walk_at "go";have hlen:(rngP 0 ((ls.map PV.str).length:Int).toNat).length=ls.length:=by rw[zbU,Xc];simp
   have hp4:=hp.2.1;refine⟨PV.tup (ls.map PV.str),.inl ⟨_,.inl rfl,zaR (by rw[Xd,hls];rfl)⟩,_,rfl,by lia,by rw[Xc];lia,by rw[hlen];lia,λk out=>out=(rowOf (numS total) c k).map PV.int,rfl,?_,?_⟩
   ·rintro k d out hd-rfl;obtain⟨hk,rfl⟩:=zco hd;rw[Int.zero_add];have hk:k<ls.length:=by rw[Xc]at hk;lia
    have hnl:(0:Int)<((numS total).map PV.int).length:=by rw[Xc];lia
    refine⟨(k:Int),rfl,by lia,by lia,hnl,PV.int (numAt (numS total) (mix c (2+(k:Int)))),?_,?_⟩
    ·rw[Xc];have e0:=Yn (mix c (2+(k:Int))) (show((numS total).length:Int)≠0 by lia);have hlt:=zhm (nums:=numS total) (i:=mix c (2+(k:Int))) (by lia);have e1:mix c (2+(k:Int)) % ((numS total).length:Int)=(((mix c (2+(k:Int)) % ((numS total).length:Int)).toNat:Nat):Int):=by lia
     rw[e1];refine zaR ?_;rw[Xd,Xa hlt];unfold numAt;rw[Xk,Xa hlt];rfl
    ·show _=_;unfold rowOf;rw[List.range_succ,Xm,Xm];rfl
   ·rintro out-rfl;rw[hlen];have hix2:zdl c sh.length<F0.length:=by rw[hR.len];exact hix
    have hF:=Xa hix2;have hz:=(hR.row _ _ hF).1;refine⟨zcw _,zkL hF (by rw[XH]at hz;lia) ((hIv _ _ _).mpr ⟨_,_,_,rfl,by rw[hst]⟩)⟩
 ·intro ρ β hI;obtain⟨k5,k6,k7,rfl,rfl⟩:=(hIv _ _ _).mp hI;rw[Xc,Xi (Xf _)];have fin:∀(F:List (List (List Int))) (k5 k6 k7:Option (PV×Bool)),rws3 sh (numS total) cells total=F->zgb
         (zbQ 4 (pRet (zcv 1 [] (iLst (pVar 4)) (zbf 0) zdd (_P.tB zgr (zby (pVar 0) pNil)))))
         {nx:=λx x_1=>False,rt:=Q,bk:=λx x_1=>False,ct:=λx x_1=>False }
      [some (shpV sh,false),some (PV.lst (XT PV.int cells),false),some (PV.int total,false),
       some (PV.lst (XT PV.int (numS total)),false),none,k5,k6,k7]
      (BX.L (XT tblP F)):=by
   intro F k5 k6 k7 hF;have hR:=rw3 hpos (show 0<(numS total).length by lia) cells total;have hq:rwsS sh cells total=F.map sortI:=by unfold rwsS;rw[hF]
   rw[hF]at hR;rw[hq]at q;walk_at "go";walk_at "go";refine⟨by rw[Xc,hR.len];lia,λi out=>out=((F.take i).map sortI).map tblP,rfl,?_,?_⟩
   ·rintro i d out hd-rfl;rw[Xd]at hd;cases hl:F[i]? with
    | none=>rw[hl]at hd;cases hd
    | some l=>
     rw[hl]at hd;cases hd;obtain⟨r1,r2⟩:=hR.row i l hl;refine⟨l,rfl,λr hr z=>?_,?_⟩
     ·have hw:=(r2 r hr).1;rw[z]at hw;have hi:i<sh.length:=by rw[<- hR.len];exact(Xe.mp hl).1
      have hg:sh.getD i []=sh[i]:=by rw[Xk,Xa hi];rfl
      rw[hg]at hw;have:=(ok.pat _ (Yr hi)).1;simp at hw;lia
     ·show _=_;rw[XD,hl,Xm,Xm];rfl
   ·rintro out-rfl;rw[Xc,Xi (Xf _)];exact q
  walk_at "go";refine⟨by decide,by decide,by decide,ite2 (λe=>?_) (λe=>?_)⟩
  ·walk_at "go";have hlen:(rngP 0 ((sh.map λls=>PV.tup (ls.map PV.str)).length:Int).toNat).length=sh.length:=by rw[zbU,Xc];simp
   obtain⟨Jv,hJv⟩:∃Jv:Nat->PEnv->BX->Prop,∀i ρ β,Jv i ρ β↔∃(k5 k6 k7:Option (PV×Bool)),ρ=[some (shpV sh,false),some (PV.lst (XT PV.int cells),false),some (PV.int total,false),
      some (PV.lst (XT PV.int (numS total)),false),none,k5,k6,k7]/\β=.L ((rws2 sh (numS total) (rws1 sh (numS total) cells) i).map tblP):=⟨_,λ_ _ _=>Iff.rfl⟩
   refine⟨_,rfl,by lia,by rw[Xc];lia,Jv,(hJv _ _ _).mpr ⟨_,_,_,rfl,rfl⟩,?_,?_⟩
   ·intro i d ρ β hd hJ;obtain⟨k5,k6,k7,rfl,rfl⟩:=(hJv _ _ _).mp hJ;obtain⟨hi,rfl⟩:=zco hd;rw[Int.zero_add];have hi:i<sh.length:=by rw[Xc]at hi;lia
    obtain⟨ls,hls⟩:∃ls,sh[i]? = some ls:=⟨_,Xa hi⟩;have hlg:sh.getD i []=ls:=by rw[Xk,hls];rfl
    have hp:=ok.pat ls (Xn hls);have hp4:=hp.2.1;have hR:=rw2 (show 0<(numS total).length by lia) (rw1 hpos (show 0<(numS total).length by lia) cells) i (by lia);have hst:rws2 sh (numS total) (rws1 sh (numS total) cells) (i+1)=put1 (rws2 sh (numS total) (rws1 sh (numS total) cells) i) i (zeO (numS total) ls):=by rw[ziH,hlg]
    generalize rws2 sh (numS total) (rws1 sh (numS total) cells) i=F0 at hR hst;walk_at "go";refine⟨PV.tup (ls.map PV.str),.inl ⟨_,.inl rfl,zaR (by rw[Xd,hls];rfl)⟩,_,rfl,by rw[Xc];lia,λk out=>out=(zeO (numS total) (ls.take k)).map PV.int,rfl,?_,?_⟩
    ·rintro k d out hd-rfl;rw[Xd]at hd;cases hx:ls[k]? with
     | none=>rw[hx]at hd;cases hd
     | some x=>
      rw[hx]at hd;cases hd;have hnl:(0:Int)<((numS total).map PV.int).length:=by rw[Xc];lia
      refine⟨x,rfl,hp.2.2.2 x (Xn hx),hnl,PV.int (numAt (numS total) (ordS x)),?_,?_⟩
      ·rw[Xc];show atI _ (ordS x % _)=_;have e0:=Yn (ordS x) (show((numS total).length:Int)≠0 by lia);have hlt:=zhm (nums:=numS total) (i:=ordS x) (by lia);have e1:ordS x % ((numS total).length:Int)=(((ordS x % ((numS total).length:Int)).toNat:Nat):Int):=by lia
       rw[e1];refine zaR ?_;rw[Xd,Xa hlt];unfold numAt;rw[Xk,Xa hlt];rfl
      ·show _=_;unfold zeO;rw[XD,hx,Xm,Xm];rfl
    ·rintro out-rfl;rw[Xc,Xi (Xf _)];have hix2:i<F0.length:=by rw[hR.len];exact hi
     have hF:=Xa hix2;have hz:=(hR.row _ _ hF).1;refine⟨zcw _,zkL hF (by lia) ((hJv _ _ _).mpr ⟨_,_,_,rfl,by rw[hst]⟩)⟩
   ·intro ρ β hJ;obtain⟨k5,k6,k7,rfl,rfl⟩:=(hJv _ _ _).mp hJ;rw[hlen];exact fin _ _ _ _ (by unfold rws3;rw[if_pos e])
  ·walk_at "go";exact fin _ _ _ _ (by unfold rws3;rw[if_neg e])
end
noncomputable def zbZ:PF:=λds Q=>∃sh:List (List Str),ds=[shpV sh]/\sh.length<=6/\(∀p∈sh,p.length<=4)/\∀zs:List Str,Names sh zs->Q (.lst (zs.map PV.str)) .new
theorem zdq:zbE zbZ:=λds Q Q' m q163q=>by obtain⟨sh,e,h1,h2,q⟩:=q163q;exact⟨sh,e,h1,h2,λzs g=>m _ _ (q zs g)⟩
noncomputable def zrm (sh:List (List Str))(x:Str)(i:Nat):Bool:=decide (x∈sh.getD i [])
noncomputable def znL (sh:List (List Str))(x:Str)(n:Nat):List PV:=((XZ n).filter (zrm sh x)).map λ(i:Nat)=>PV.int (i:Int)
noncomputable def zbW:PF:=λds Q=>∃(sh:List (List Str))(x:Str),ds=[shpV sh,.str x]/\sh.length<=6/\Q (.lst (znL sh x sh.length)) .new
theorem zeC:zbE zbW:=λds Q Q' m q164q=>by obtain⟨sh,x,e,h,q⟩:=q164q;exact⟨sh,x,e,h,m _ _ q⟩
noncomputable def zbH:PF:=λds Q=>∃sh:List (List Str),ds=[shpV sh]/\sh.length<=6/\(∀p∈sh,p.length<=4)/\∀zs:List Str,zs.Nodup->(∀x,x∈zs↔∃p∈sh,x∈p)->Q (.lst (zs.map PV.str)) .new
theorem zeT:zbE zbH:=λds Q Q' m q165q=>by obtain⟨sh,e,h1,h2,q⟩:=q165q;exact⟨sh,e,h1,h2,λzs g1 g2=>m _ _ (q zs g1 g2)⟩
theorem ztv {α:Type}{p:α->Bool}{x:α}(h:p x=true):[x].filter p=[x]:=by simp[h]
theorem ztw {α:Type}{p:α->Bool}{x:α}(h:p x=false):[x].filter p=[]:=by simp[h]
theorem znM {sh:List (List Str)}{ns:List Str}(nd:ns.Nodup)(h:∀x,x∈ns↔∃p∈sh,x∈p)(h4:∀p∈sh,p.length<=4):ns.length<=4*sh.length:=by
 have h1:∀x∈ns,x∈sh.flatten:=λx hx=>by
  obtain⟨p,hp,hxp⟩:=(h x).mp hx;exact List.mem_flatten.mpr ⟨p,hp,hxp⟩
 have h2:ns.length<=sh.flatten.length:=List.Nodup.length_le_of_subset nd h1;refine Ye h2 ?_;clear h h1 h2 nd;induction sh with
 | nil=>simp
 | cons p sh ih=>
  rw[List.flatten_cons,XB,Ya];have:=h4 p Xj;have:=ih λq hq=>h4 q (Xg _ hq);lia
section
variable {P:Program}{w:World}{K:Xb}{mg:Str->Option Value}{base:Heap}
theorem zfU:zaw ["shape","found","letters"] ["shape"] (zac zaQ):=⟨rfl,rfl,rfl,by decide +kernel,rfl,by decide +kernel,by decide +kernel⟩
theorem zeP {f:Addr}{fd:FuncData}(F:Fun K "letters_of" "letters_of" zaQ f fd) (B:Bl mg):FnOk P w K mg base CX0 1 f fd ["shape"] (spP K zbZ):=by
 refine zaH F zfU (λds Q q166q=>by obtain⟨c,e,_⟩:=q166q;rw[e];rfl) (λcdv A outer s H E hr=>?_);have hu:(A.deeper (envOfC "letters_of" (zac zaQ) s.heap.objs.size f cdv)).units+16<cLine:=by have q:=hr.units;lia
 have nd:=zfU.nd;refine⟨_,(zae (zal (i:=1) nd rfl (Or.inl rfl) (zbm zad))
   (zae (zcz rfl PassesOwn.never (zas (zab 0)) (zaj (i:=2) nd rfl (Or.inl rfl)) (zah (zbq (zoA 1 (zab 2)))))
   (zah (zar (zlh rfl rfl B.sorted rfl B.set (zab 1)))))),λds Q h=>?_⟩
 obtain⟨sh,rfl,h6,h4,q⟩:=h;walk_at "pu";walk_at "auto";obtain⟨Iv,hIv⟩:∃Iv:Nat->PEnv->Prop,∀i ρ,Iv i ρ↔∃(fs:List Str) (kv:Option (PV×Bool)),ρ=[some (shpV sh,false),some (PV.lst (fs.map PV.str),true),kv]/\fs.length<=4*i/\∀x,x∈fs↔∃p∈sh.take i,x∈p:=⟨_,λ_ _=>Iff.rfl⟩;refine⟨_,rfl,Iv,(hIv _ _).mpr ⟨[],none,rfl,XU _,λx=>by simp⟩,?_,?_⟩
 ·intro i d ρ hd hI;obtain⟨fs,kv,rfl,l1,hm⟩:=(hIv _ _).mp hI;rw[Xd]at hd;cases hp:sh[i]? with
  | none=>rw[hp]at hd;cases hd
  | some p=>
   rw[hp]at hd;cases hd;have hil:i<sh.length:=(Xe.mp hp).1;have hle:=h4 p (Xn hp);walk_at "go";refine⟨by rw[Xc,Xc,sizeLine_eq];lia,(hIv _ _).mpr ⟨fs++p,_,by rw[Xm],by rw[XB];lia,λy=>?_⟩⟩;rw[Xr,hm,XD,hp];simp only[Option.toList_some,Xr,Xl];constructor
   ·rintro(⟨p,h1,h2⟩ | h)
    ·exact⟨p,.inl h1,h2⟩
    ·exact⟨_,.inr rfl,h⟩
   ·rintro⟨p,h1 | rfl,h2⟩
    ·exact .inl ⟨p,h1,h2⟩
    ·exact .inr h2
 ·intro ρ hI;obtain⟨fs,kv,rfl,l1,hm⟩:=(hIv _ _).mp hI;rw[Xc]at l1 hm;walk_at "go";refine⟨fs,rfl,by lia,λzs n1 n2 n3=>q zs ⟨n1,λx=>?_,n3⟩⟩;rw[n2,hm,Xi (Xf _)]
theorem zdr:zaw ["shape","letter"] ["shape","letter"] (zac zao):=⟨rfl,rfl,rfl,by decide +kernel,rfl,by decide +kernel,by decide +kernel⟩
theorem zfV {f:Addr}{fd:FuncData}(F:Fun K "patterns_with" "patterns_with" zao f fd) (B:Bl mg):FnOk P w K mg base CX0 1 f fd ["shape","letter"] (spP K zbW):=by
 refine zaH F zdr (λds Q q167q=>by obtain⟨c,x,e,_⟩:=q167q;rw[e];rfl) (λcdv A outer s H E hr=>?_);have hu:(A.deeper (envOfC "patterns_with" (zac zao) s.heap.objs.size f cdv)).units+16<cLine:=by have q:=hr.units;lia
 have nd:=zdr.nd;refine⟨_,(zah (zar (zaG (N:=["i","letters","letter"]) (k:=2) (js:=[1]) rfl (zcm (sup:=zac zao) (XN:=["shape","letter"]) rfl rfl (by decide +kernel)) (by decide) (zje (loc2 (by decide) (by decide))) (zkf rfl B.enumerate (zab 0)) ⟨λ_ _ _ _ _=>(zgN (n:=2) rfl (zbF (zaj (i:=0) (by show(["i","letters","letter"]:List Str).Nodup;decide +kernel) rfl (Or.inl rfl)) (zbF (zaj (i:=1) (by show(["i","letters","letter"]:List Str).Nodup;decide +kernel) rfl (Or.inl rfl)) zeX))),λ_ _ _ _ _=>(zcA (zjX hu (zab 2) (zab 1))),λ_ _ _ _ _=>(zab 0)⟩))),λds Q h=>?_⟩;obtain⟨sh,x,rfl,h6,q⟩:=h;have hsz:=sizeLine_eq;walk_at "pu";refine⟨_,rfl,?_⟩;refine⟨by rw[zdX,Xc];lia,λi out=>out=znL sh x i,rfl,?_,?_⟩
 ·rintro i d out hd-rfl;obtain⟨y,hy,rfl⟩:=zfB hd;rw[Xd]at hy;cases hp:sh[i]? with
  | none=>rw[hp]at hy;cases hy
  | some p=>
   rw[hp]at hy;cases hy;refine⟨_,rfl,?_⟩;walk_at "pu";have hw:zrm sh x i=decide (x∈p):=by unfold zrm;rw[Xk,hp];rfl
   refine⟨zcj p,ite2 (λe=>?_) (λe=>?_)⟩
   ·have hm:x∈p:=zaZ.mp e;show _=_;unfold znL;rw[List.range_succ,Yx,Xm];simp[hw,hm]
   ·have hm:¬ x∈p:=λz=>e (zaZ.mpr z);show _=_;unfold znL;rw[List.range_succ,Yx,Xm];simp[hw,hm]
 ·rintro out-rfl;rw[zdX,Xc];exact q
theorem zej:zaw ["shape","letters","shared"] ["shape"] (zac zav):=⟨rfl,rfl,rfl,by decide +kernel,rfl,by decide +kernel,by decide +kernel⟩
theorem zge {f f1 f2:Addr}{fd fd1 fd2:FuncData}(F:Fun K "shared_first" "shared_first" zav f fd) (LettersOf:Fx K mg "letters_of" zaQ ["shape"] f1 fd1) (PatternsWith:Fx K mg "patterns_with" zao ["shape","letter"] f2 fd2) (B:Bl mg):FnOk P w K mg base CX0 2 f fd ["shape"] (spP K zbH):=by
 have GLettersOf:FnOk P w K mg base CX0 1 f1 fd1 ["shape"] (spP K zbZ):=zeP LettersOf.fn B;have GPatternsWith:FnOk P w K mg base CX0 1 f2 fd2 ["shape","letter"] (spP K zbW):=zfV PatternsWith.fn B;refine zaH F zej (λds Q q168q=>by obtain⟨c,e,_⟩:=q168q;rw[e];rfl) (λcdv A outer s H E hr=>?_);have hu:(A.deeper (envOfC "shared_first" (zac zav) s.heap.objs.size f cdv)).units+16<cLine:=by have q:=hr.units;lia
 have nd:=zej.nd;refine⟨_,(zae (zal (i:=1) nd rfl (Or.inl rfl) (zak GLettersOf zdq hr rfl LettersOf.mg LettersOf.fn.kp LettersOf.bd (zaa (zab 0) zad)))
   (zae (zaY 1 (zal (i:=2) nd rfl (Or.inr rfl) (zaG (N:=["letter","shape"]) (k:=1) (js:=[0]) rfl (zcm (sup:=zac zav) (XN:=["shape","letters","shared"]) rfl rfl (by decide +kernel)) (by decide) (zaC (by decide)) (zas (zab 1)) ⟨λ_ _ _ _ _=>(zaj (i:=0) (by show(["letter","shape"]:List Str).Nodup;decide +kernel) rfl (Or.inl rfl)),λ_ _ _ _ _=>(zcA (zsE (zbr rfl B.len (zaa (zak GPatternsWith zeC hr rfl PatternsWith.mg PatternsWith.fn.kp PatternsWith.bd (zaa (zab 1) (zaa (zab 0) zad))) zad)) zai)),λ_ _ _ _ _=>(zab 0)⟩)))
   (zah (zaY 2 (zar (zsO (zab 2) (zaG (N:=["letter","shared"]) (k:=1) (js:=[2]) rfl (zcm (sup:=zac zav) (XN:=["shape","letters","shared"]) rfl rfl (by decide +kernel)) (by decide) (zaC (by decide)) (zas (zab 1)) ⟨λ_ _ _ _ _=>(zaj (i:=0) (by show(["letter","shared"]:List Str).Nodup;decide +kernel) rfl (Or.inl rfl)),λ_ _ _ _ _=>(zcA (zdV hu (zab 0) (zab 1))),λ_ _ _ _ _=>(zab 0)⟩))))))),λds Q h=>?_⟩
 obtain⟨sh,rfl,h6,h4,q⟩:=h;have hsz:=sizeLine_eq;walk_at "pu";refine⟨sh,rfl,h6,h4,λns hn=>?_⟩;have hl:=znM hn.nd hn.mem h4;obtain⟨g,hg⟩:∃g:Str->Bool,∀x,g x=decide (1<(znL sh x sh.length).length):=⟨_,λ_=>rfl⟩;walk_at "go";refine⟨by rw[Xc];lia,λi out=>out=((ns.take i).filter g).map PV.str,rfl,?_,?_⟩
 ·rintro i d out hd-rfl;rw[Xd]at hd;cases hx:ns[i]? with
  | none=>rw[hx]at hd;cases hd
  | some x=>
   rw[hx]at hd;cases hd;have htk:ns.take (i+1)=ns.take i++[x]:=by rw[XD,hx];rfl
   refine⟨sh,rfl,x,rfl,h6,ite2 (λe=>?_) (λe=>?_)⟩
   ·have hgx:g x=true:=by rw[hg];exact decide_eq_true (by lia)
    show _=_;rw[htk,Yx,Xm];simp[hgx]
   ·have hgx:g x=false:=by rw[hg];exact decide_eq_false (by lia)
    show _=_;rw[htk,Yx,Xm];simp[hgx]
 ·rintro out-rfl;rw[Xc,Xi (Xf _)];walk_at "go";refine⟨by rw[Xc];lia,λi out=>out=((ns.take i).filter λx=>decide (x∉ns.filter g)).map PV.str,rfl,?_,?_⟩
  ·rintro i d out hd-rfl;rw[Xd]at hd;cases hx:ns[i]? with
   | none=>rw[hx]at hd;cases hd
   | some x=>
    rw[hx]at hd;cases hd;have htk:ns.take (i+1)=ns.take i++[x]:=by rw[XD,hx];rfl
    refine⟨rfl,zcj _,ite2 (λe=>?_) (λe=>?_)⟩
    ·have hm:x∉ns.filter g:=λz=>e (zaZ.mpr z);show _=_;rw[htk,Yx,Xm,ztv (p:=λx=>decide (x∉ns.filter g)) (decide_eq_true hm)];rfl
    ·have hm:x∈ns.filter g:=Classical.byContradiction λz=>e λy=>z (zaZ.mp y);show _=_;rw[htk,Yx,Xm,ztw (p:=λx=>decide (x∉ns.filter g)) (decide_eq_false λz=>z hm)];simp
  ·rintro out-rfl;rw[show ns.take (XT PV.str ns).length=ns from Xi (by rw[Xc];exact Xf _)];have l1:=Yz g ns;have l2:=Yz (λx=>decide (x∉ns.filter g)) ns;refine⟨by rw[Xc,Xc];lia,?_⟩;rw[<- Xm];refine q _ ?_ λx=>?_
   ·rw[YB];refine⟨hn.nd.filter _,hn.nd.filter _,λa ha b hb e=>?_⟩;have h2:=(Yd.mp hb).2;rw[<- e]at h2;exact(of_decide_eq_true h2) ha
   ·rw[Xr,<- hn.mem];constructor
    ·rintro(h | h)
     ·exact(Yd.mp h).1
     ·exact(Yd.mp h).1
    ·intro h;by_cases hm:x∈ns.filter g
     ·exact .inl hm
     ·exact .inr (Yd.mpr ⟨h,decide_eq_true hm⟩)
end
structure zgf (tabs:List Tab)(cells:List Int):Prop where
 pos:0<tabs.length
 few:tabs.length<=6
 pat:∀b∈tabs,1<=b.1.length/\b.1.length<=4
 rows:∀b∈tabs,b.2.length<=76/\∀r∈b.2,r.length=b.1.length/\∀c∈r,c∈cells
 six:∀ns:List Str,ns.Nodup->(∀x∈ns,∃b∈tabs,x∈b.1)->ns.length<=6
 three:1<=cells.length/\cells.length<=3
theorem zgf.tabs {tabs:List Tab}{order:List Str}{cells:List Int}(ok:zgf tabs cells)(no:order.Nodup)(hm:∀x∈order,∃b∈tabs,x∈b.1):TabsOk tabs order cells:=by
 have hf:=ok.few;have hsix:=ok.six order no hm;exact⟨by lia,λb hb=>by have:=(ok.pat b hb).2;lia,λb hb=>⟨by have:=(ok.rows b hb).1;lia,λr hr=>((ok.rows b hb).2 r hr).1⟩,λb hb r hr=>((ok.rows b hb).2 r hr).2,no,by lia,hm,ok.three.1,Ye (Nat.pow_le_pow_left ok.three.2 _) (Ye (Nat.pow_le_pow_right (by lia) (show order.length<=6 by omega)) (by decide))⟩
theorem zgf.ne {tabs:List Tab}{names:List Str}{cells:List Int}(ok:zgf tabs cells)(hn:Names (tabs.map (·.1)) names):names≠[]:=λz=>by
 have h0:=ok.pos;obtain⟨b,hb⟩:∃b,b∈tabs:=⟨tabs[0],Yr _⟩;have h1:=(ok.pat b hb).1;have:b.1[0]∈names:=(hn.mem _).mpr ⟨b.1,Xt.mpr ⟨b,hb,rfl⟩,Yr _⟩;rw[z]at this;cases this
theorem Names.tab {tabs:List Tab}{names:List Str}(hn:Names (tabs.map (·.1)) names)(x:Str):x∈names↔∃b∈tabs,x∈b.1:=by
 rw[hn.mem];constructor
 ·rintro⟨p,hp,hx⟩;obtain⟨b,hb,rfl⟩:=Xt.mp hp;exact⟨b,hb,hx⟩
 ·rintro⟨b,hb,hx⟩;exact⟨b.1,Xt.mpr ⟨b,hb,rfl⟩,hx⟩
noncomputable def zcZ:PF:=λds Q=>∃(tabs:List Tab)(cells:List Int),ds=[shpP tabs,rwsP tabs]/\zgf tabs cells/\∀names L,Names (tabs.map (·.1)) names->Parts tabs names L->L.length<=100000->Q (.lst ((sortI L).map rowI)) .new
theorem zeQ:zbE zcZ:=λds Q Q' m q169q=>by obtain⟨a,c,e,h,q⟩:=q169q;exact⟨a,c,e,h,λn L h0 h1 h2=>m _ _ (q n L h0 h1 h2)⟩
noncomputable def zda:PF:=λds Q=>∃(tabs:List Tab)(order:List Str)(vals:List Int),ds=[shpP tabs,rwsP tabs,.lst (order.map PV.str)]/\TabsOk tabs order vals/\order≠[]/\∀L,Parts tabs order L->L.length<=100000->Q (.lst ((sortI L).map rowI)) .new
theorem zgg:zbE zda:=λds Q Q' m q170q=>by obtain⟨a,b,c,e,h,h1,q⟩:=q170q;exact⟨a,b,c,e,h,h1,λL h1 h2=>m _ _ (q L h1 h2)⟩
structure Lens (tabs:List Tab)(order:List Str)(ns:List Nat):Prop where
 len:ns.length=order.length+1
 at_:∀(k n:Nat),ns[k]? = some n->∃L,Parts tabs (order.take k) L/\L.length=n
noncomputable def zeD:PF:=λds Q=>∃(tabs:List Tab)(order:List Str)(vals:List Int),ds=[shpP tabs,rwsP tabs,.lst (order.map PV.str)]/\TabsOk tabs order vals/\∀ns,Lens tabs order ns->Q (.lst (ns.map λ(n:Nat)=>PV.int (n:Int))) .new
theorem zfW:zbE zeD:=λds Q Q' m q171q=>by obtain⟨a,b,c,e,h1,q⟩:=q171q;exact⟨a,b,c,e,h1,λns h=>m _ _ (q ns h)⟩
theorem zkM (tabs:List Tab):shpP tabs=shpV (tabs.map (·.1)):=by unfold shpP shpV;rw[Ym];rfl
section
variable {P:Program}{w:World}{K:Xb}{mg:Str->Option Value}{base:Heap}
theorem ziJ:zaw ["shape","rows","order","letters"] ["shape","rows"] (zac zbu):=⟨rfl,rfl,rfl,by decide +kernel,rfl,by decide +kernel,by decide +kernel⟩
theorem zgB {f f1 f2 f3 f4 f5 f6 f7 f8:Addr}{fd fd1 fd2 fd3 fd4 fd5 fd6 fd7 fd8:FuncData}(F:Fun K "answers" "answers" zbu f fd) (CellsOf:Fx K mg "cells_of" zaL ["row","letters","wanted"] f1 fd1) (GuideOf:Fx K mg "guide_of" zaW ["letters","rows","earlier","letter"] f2 fd2) (Longer:Fx K mg "longer" zbt ["parts","earlier","guides"] f3 fd3) (GuidesTo:Fx K mg "guides_to" zaO ["shape","rows","earlier","letter"] f4 fd4)
  (PartsAlong:Fx K mg "parts_along" zaB ["shape","rows","order"] f5 fd5) (LettersOf:Fx K mg "letters_of" zaQ ["shape"] f6 fd6) (PatternsWith:Fx K mg "patterns_with" zao ["shape","letter"] f7 fd7) (SharedFirst:Fx K mg "shared_first" zav ["shape"] f8 fd8) (B:Bl mg):FnOk P w K mg base CX0 5 f fd ["shape","rows"] (spP K zcZ):=by
 have GCellsOf:FnOk P w K mg base CX0 4 f1 fd1 ["row","letters","wanted"] (spP K zcp):=(zeA CellsOf.fn B).mono (by decide);have GPartsAlong:FnOk P w K mg base CX0 4 f5 fd5 ["shape","rows","order"] (spP K zbA):=zcD PartsAlong.fn CellsOf GuideOf Longer GuidesTo B;have GLettersOf:FnOk P w K mg base CX0 4 f6 fd6 ["shape"] (spP K zbZ):=(zeP LettersOf.fn B).mono (by decide);have GSharedFirst:FnOk P w K mg base CX0 4 f8 fd8 ["shape"] (spP K zbH):=(zge SharedFirst.fn LettersOf PatternsWith B).mono (by decide);refine zaH F ziJ (λds Q q172q=>by obtain⟨a,c,e,_⟩:=q172q;rw[e];rfl) (λcdv A outer s H E hr=>?_);have hu:(A.deeper (envOfC "answers" (zac zbu) s.heap.objs.size f cdv)).units+16<cLine:=by have q:=hr.units;lia
 have nd:=ziJ.nd;refine⟨_,(zae (zal (i:=2) nd rfl (Or.inr rfl) (zak GSharedFirst zeT hr rfl SharedFirst.mg SharedFirst.fn.kp SharedFirst.bd (zaa (zab 0) zad)))
   (zae (zal (i:=3) nd rfl (Or.inr rfl) (zak GLettersOf zdq hr rfl LettersOf.mg LettersOf.fn.kp LettersOf.bd (zaa (zab 0) zad)))
   (zah (zaY 3 (zaY 2 (zar (zfc rfl B.sorted (zaa (zaG (N:=["part","order","letters"]) (k:=1) (js:=[2,3]) rfl (zcm (sup:=zac zbu) (XN:=["shape","rows","order","letters"]) rfl rfl (by decide +kernel)) (by decide) (zaC (by decide)) (zas (zax (zak GPartsAlong zck hr rfl PartsAlong.mg PartsAlong.fn.kp PartsAlong.bd (zaa (zab 0) (zaa (zab 1) (zaa (zab 2) zad)))) (zig zai))) ⟨λ_ _ _ _ _=>(zaj (i:=0) (by show(["part","order","letters"]:List Str).Nodup;decide +kernel) rfl (Or.inl rfl)),λ_ _ _ _ _=>zaU,λ_ _ _ _ _=>(zak GCellsOf zcP hr rfl CellsOf.mg CellsOf.fn.kp CellsOf.bd (zaa (zab 0) (zaa (zab 1) (zaa (zab 2) zad))))⟩) zad)))))))),λds Q h=>?_⟩
 obtain⟨tabs,cells,rfl,ok,q⟩:=h;have hsz:=sizeLine_eq;have h4:∀p∈tabs.map (·.1),p.length<=4:=λp hp=>by obtain⟨b,hb,rfl⟩:=Xt.mp hp;exact(ok.pat b hb).2
 have h6:(tabs.map (·.1)).length<=6:=by rw[Xc];exact ok.few
 walk_at "pu";refine⟨tabs.map (·.1),zkM tabs,h6,h4,λorder no om=>?_⟩;walk_at "go";refine⟨tabs.map (·.1),zkM tabs,h6,h4,λns hn=>?_⟩;have hmem:∀w,w∈order↔w∈ns:=λw=>(om w).trans (hn.mem w).symm;have hlen:order.length=ns.length:=((List.perm_ext_iff_of_nodup no hn.nd).mpr hmem).length_eq;have hsix:=ok.six ns hn.nd λx hx=>(hn.tab x).mp hx;have hthree:=ok.three;walk_at "go";have hTO:TabsOk tabs order cells:=ok.tabs no λx hx=>(hn.tab x).mp ((hmem x).mp hx);have hne:=ok.ne hn;refine⟨tabs,rfl,rfl,order,rfl,cells,hTO,λLs hLs=>?_⟩;have hll:=hLs.len;have hlast:Ls[order.length]? = some (Ls[order.length]'(by lia)):=Xa (by lia);obtain⟨hP,hL⟩:=hLs.at_ _ _ hlast;generalize Ls[order.length]'(by lia)=L at hlast hP hL;rw[Xi (Xf _)]at hP;have hLL:L.length<=100000:=Ye hL hTO.size;refine⟨PV.lst (L.map rowI),.inl ⟨_,.inl rfl,zhk (by rw[Xc,hll,Nat.add_sub_cancel,Xd,hlast];rfl)⟩,_,rfl,by rw[Xc];lia,λi out=>out=((L.take i).map λp=>zam p order ns).map rowI,rfl,?_,?_⟩
 ·rintro i d out hd-rfl;rw[Xd]at hd;cases hp:L[i]? with
  | none=>rw[hp]at hd;cases hd
  | some p=>
   rw[hp]at hd;cases hd;have hpl:=((hP.mem p).mp (Xn hp)).1;have hsub:∀w∈ns,w∈order:=λw hw=>(hmem w).mpr hw;refine⟨_,rfl,order,ns,rfl,rfl,hsub,by rw[Xc];lia,by lia,?_⟩;show _=_;rw[zjx hpl.symm hsub,XD,hp,Xm,Xm];rfl
 ·rintro out-rfl;rw[Xc,Xi (Xf _)];refine⟨L.map λp=>zam p order ns,rfl,λr hr z=>?_,?_⟩
  ·obtain⟨p,_,rfl⟩:=Xt.mp hr;have:=zbY p order ns;rw[z]at this;exact hne (XI.mp this.symm)
  ·exact q _ _ hn (hP.move no hn.nd hmem) (by rw[Xc];exact hLL)
theorem zfX:zaw ["shape","rows","order"] ["shape","rows","order"] (zac zbc):=⟨rfl,rfl,rfl,by decide +kernel,rfl,by decide +kernel,by decide +kernel⟩
theorem ziK {f f1 f2 f3 f4 f5:Addr}{fd fd1 fd2 fd3 fd4 fd5:FuncData}(F:Fun K "by_letters" "by_letters" zbc f fd) (CellsOf:Fx K mg "cells_of" zaL ["row","letters","wanted"] f1 fd1) (GuideOf:Fx K mg "guide_of" zaW ["letters","rows","earlier","letter"] f2 fd2) (Longer:Fx K mg "longer" zbt ["parts","earlier","guides"] f3 fd3) (GuidesTo:Fx K mg "guides_to" zaO ["shape","rows","earlier","letter"] f4 fd4)
  (PartsAlong:Fx K mg "parts_along" zaB ["shape","rows","order"] f5 fd5) (B:Bl mg):FnOk P w K mg base CX0 5 f fd ["shape","rows","order"] (spP K zda):=by
 have GPartsAlong:FnOk P w K mg base CX0 4 f5 fd5 ["shape","rows","order"] (spP K zbA):=zcD PartsAlong.fn CellsOf GuideOf Longer GuidesTo B;refine zaH F zfX (λds Q q173q=>by obtain⟨a,b,c,e,_⟩:=q173q;rw[e];rfl) (λcdv A outer s H E hr=>?_);have hu:(A.deeper (envOfC "by_letters" (zac zbc) s.heap.objs.size f cdv)).units+16<cLine:=by have q:=hr.units;lia
 have nd:=zfX.nd;refine⟨_,(zah (zar (zfc rfl B.sorted (zaa (zax (zak GPartsAlong zck hr rfl PartsAlong.mg PartsAlong.fn.kp PartsAlong.bd (zaa (zab 0) (zaa (zab 1) (zaa (zab 2) zad)))) (zig zai)) zad)))),λds Q h=>?_⟩;obtain⟨tabs,order,vals,rfl,ok,hne,q⟩:=h;have hsz:=sizeLine_eq;walk_at "pu";refine⟨tabs,rfl,rfl,order,rfl,vals,ok,λLs hLs=>?_⟩;have hll:=hLs.len;have hlast:Ls[order.length]? = some (Ls[order.length]'(by lia)):=Xa (by lia);obtain⟨hP,hL⟩:=hLs.at_ _ _ hlast;generalize Ls[order.length]'(by lia)=L at hlast hP hL;rw[Xi (Xf _)]at hP;have hLL:L.length<=100000:=Ye hL ok.size;refine⟨PV.lst (L.map rowI),.inl ⟨_,.inl rfl,zhk (by rw[Xc,hll,Nat.add_sub_cancel,Xd,hlast];rfl)⟩,L,rfl,λr hr z=>?_,q L hP hLL⟩;have:=((hP.mem r).mp hr).1;rw[z]at this;exact hne (XI.mp this.symm)
theorem zkN:zaw ["shape","rows","order"] ["shape","rows","order"] (zac zci):=⟨rfl,rfl,rfl,by decide +kernel,rfl,by decide +kernel,by decide +kernel⟩
theorem ziL {f f1 f2 f3 f4 f5:Addr}{fd fd1 fd2 fd3 fd4 fd5:FuncData}(F:Fun K "levels" "levels" zci f fd) (CellsOf:Fx K mg "cells_of" zaL ["row","letters","wanted"] f1 fd1) (GuideOf:Fx K mg "guide_of" zaW ["letters","rows","earlier","letter"] f2 fd2) (Longer:Fx K mg "longer" zbt ["parts","earlier","guides"] f3 fd3) (GuidesTo:Fx K mg "guides_to" zaO ["shape","rows","earlier","letter"] f4 fd4)
  (PartsAlong:Fx K mg "parts_along" zaB ["shape","rows","order"] f5 fd5) (B:Bl mg):FnOk P w K mg base CX0 5 f fd ["shape","rows","order"] (spP K zeD):=by
 have GPartsAlong:FnOk P w K mg base CX0 4 f5 fd5 ["shape","rows","order"] (spP K zbA):=zcD PartsAlong.fn CellsOf GuideOf Longer GuidesTo B;refine zaH F zkN (λds Q q174q=>by obtain⟨a,b,c,e,_⟩:=q174q;rw[e];rfl) (λcdv A outer s H E hr=>?_);have hu:(A.deeper (envOfC "levels" (zac zci) s.heap.objs.size f cdv)).units+16<cLine:=by have q:=hr.units;lia
 have nd:=zkN.nd;refine⟨_,(zah (zar (zaG (N:=["parts"]) (k:=1) (js:=[]) rfl (zcm (sup:=zac zci) (XN:=["shape","rows","order"]) rfl rfl (by decide +kernel)) (by decide) (zaC (by decide)) (zas (zak GPartsAlong zck hr rfl PartsAlong.mg PartsAlong.fn.kp PartsAlong.bd (zaa (zab 0) (zaa (zab 1) (zaa (zab 2) zad))))) ⟨λ_ _ _ _ _=>(zaj (i:=0) (by show(["parts"]:List Str).Nodup;decide +kernel) rfl (Or.inl rfl)),λ_ _ _ _ _=>zaU,λ_ _ _ _ _=>(zbr rfl B.len (zaa (zab 0) zad))⟩))),λds Q h=>?_⟩;obtain⟨tabs,order,vals,rfl,ok,q⟩:=h;have hsz:=sizeLine_eq;walk_at "pu";refine⟨tabs,rfl,rfl,order,rfl,vals,ok,λLs hLs=>?_⟩;have hll:=hLs.len;have hso:=ok.short;refine⟨_,rfl,by rw[Xc];lia,λi out=>out=((Ls.take i).map List.length).map λ(n:Nat)=>PV.int (n:Int),rfl,?_,?_⟩
 ·rintro i d out hd-rfl;rw[Xd]at hd;cases hL:Ls[i]? with
  | none=>rw[hL]at hd;cases hd
  | some L=>
   rw[hL]at hd;cases hd;refine⟨_,rfl,?_⟩;show _=_;rw[Xc,XD,hL,Xm,Xm];rfl
 ·rintro out-rfl;rw[Xc,Xi (Xf _)];refine q _ ⟨by rw[Xc,hll],λk n hn=>?_⟩;rw[Xd]at hn;cases hL:Ls[k]? with
  | none=>rw[hL]at hn;cases hn
  | some L=>
   rw[hL]at hn;cases hn;exact⟨L,(hLs.at_ k L hL).1,rfl⟩
end
noncomputable def keyS (fs:List Str):List Key:=fs.map Sum.inr
noncomputable def addL (fs:List Str)(x:Str):List Str:=if x∈fs then fs else fs++[x]
theorem ztx (fs:List Str)(x:Str):hasK (keyS fs) (.inr x)=decide (x∈fs):=by
 unfold hasK keyS;rw[List.any_map,Bool.eq_iff_iff,List.any_eq_true,decide_eq_true_iff];constructor
 ·rintro⟨y,hy,e⟩;have:y=x:=by simpa using e
  rw[<- this];exact hy
 ·exact λh=>⟨x,h,by simp⟩
theorem zrn {fs:List Str}{x:Str}(h:fs.Nodup):(addL fs x).Nodup:=by
 unfold addL;split
 ·exact h
 ·rename_i hn
  rw[YB];exact⟨h,by simp,λa ha b hb e=>hn (by rw[<- Xl.mp hb,<- e];exact ha)⟩
theorem zpd {fs:List Str}{x y:Str}:y∈addL fs x↔y∈fs\/y=x:=by
 unfold addL;split
 ·constructor
  ·exact .inl
  ·rintro(h | rfl)
   ·exact h
   ·assumption
 ·rw[Xr,Xl]
theorem zpe (fs:List Str)(x:Str):(addL fs x).length<=fs.length+1:=by
 unfold addL;split
 ·lia
 ·simp
theorem putS (gs:List Str)(x:Str):(if hasK (keyS gs) (.inr x)=true then PV.dK (keyS gs) (putD (keyS gs) (gs.map λ_=>PV.bl true) (.inr x) (PV.bl true)) else PV.dK (keyS gs++[.inr x]) ((gs.map λ_=>PV.bl true)++[PV.bl true]))=PV.dK (keyS (addL gs x)) ((addL gs x).map λ_=>PV.bl true):=by
 rw[ztx];unfold addL;by_cases h:x∈gs
 ·rw[if_pos (decide_eq_true h),if_pos h]
  congr 1
  unfold putD keyS;rw[List.zip_map',Ym];refine YM λy _=>?_;show(if (Sum.inr y:Key)=Sum.inr x then PV.bl true else PV.bl true)=_
  split<;>rfl
 ·rw[if_neg (by simpa using h),if_neg h];unfold keyS;rw[Xm,Xm];rfl
noncomputable def zek (c:Int)(n:Nat):Nat:=(mix c (50+(n:Int)) % (n:Int)).toNat
theorem zkO {c:Int}{n:Nat}(h:0<n):zek c n<n:=by
 unfold zek;have:=Yn (mix c (50+(n:Int))) (show(n:Int)≠0 by lia);have:=Yw (mix c (50+(n:Int))) (show(0:Int)<n by lia);lia
noncomputable def ordF (c:Int):Nat->List Str->List Str
 | 0,_=>[]
 | n+1,l=>l.getD (zek c l.length) ⟨#[]⟩::ordF c n (l.eraseIdx (zek c l.length))
theorem ziM (c:Int):∀(n:Nat)(l:List Str),l.length=n->(ordF c n l).Perm l
 | 0,l,h=>by rw[XI.mp h];exact .refl _
 | n+1,l,h=>by
  have hi:zek c l.length<l.length:=zkO (by lia);show(l.getD _ _::ordF c n _).Perm l;rw[Xk,Xa hi];exact((ziM c n _ (by rw[YA hi];lia)).cons _).trans (zhl l _ hi)
noncomputable def ordN (c:Int)(l:List Str):List Str:=ordF c l.length l
structure SmOk (sh:List (List Str)):Prop where
 few:sh.length<=6
 pat:∀p∈sh,p.length<=4
 nms:∀names,Names sh names->names.length<=6
noncomputable def fNames:PF:=λds Q=>∃sh:List (List Str),ds=[shpV sh]/\SmOk sh/\∀names,Names sh names->Q (.lst (names.map PV.str)) .new
theorem zeE:zbE fNames:=λds Q Q' m q175q=>by obtain⟨a,e,h,q⟩:=q175q;exact⟨a,e,h,λn h1=>m _ _ (q n h1)⟩
noncomputable def zkP:PF:=λds Q=>∃(sh:List (List Str))(c:Int),ds=[shpV sh,.int c]/\SmOk sh/\∀names,Names sh names->Q (.lst ((ordN c names).map PV.str)) .new
theorem zlu:zbE zkP:=λds Q Q' m q176q=>by obtain⟨a,b,e,h,q⟩:=q176q;exact⟨a,b,e,h,λn h1=>m _ _ (q n h1)⟩
theorem zdG (r:List Str):(r.map PV.str).all (_P.plain 5)=true:=by simp[_P.plain]
section
variable {P:Program}{w:World}{K:Xb}{mg:Str->Option Value}{base:Heap}
theorem znN:zaw ["_law_shape_here","_law_known","_law_pattern","_law_letter"] ["_law_shape_here"] (zac zcO):=⟨rfl,rfl,rfl,by decide +kernel,rfl,by decide +kernel,by decide +kernel⟩
theorem zhn {f:Addr}{fd:FuncData}(F:Fun K "_law_names" "_law_names" zcO f fd) (B:Bl mg):FnOk P w K mg base CX0 1 f fd ["_law_shape_here"] (spP K fNames):=by
 refine zaH F znN (λds Q q177q=>by obtain⟨a,e,_⟩:=q177q;rw[e];rfl) (λcdv A outer s H E hr=>?_);have hu:(A.deeper (envOfC "_law_names" (zac zcO) s.heap.objs.size f cdv)).units+16<cLine:=by have q:=hr.units;lia
 have nd:=znN.nd;refine⟨_,(zae (zal (i:=1) nd rfl (Or.inl rfl) zna)
   (zae (zcz rfl PassesOwn.never (zas (zab 0)) (zaj (i:=2) nd rfl (Or.inl rfl)) (zah (zcz rfl PassesOwn.never (zjf (zab 2)) (zaj (i:=3) nd rfl (Or.inl rfl)) (zah (zmM 1 (hu1 hu) (zab 3) ziZ)))))
   (zah (zar (zjr 1 rfl rfl B.sorted))))),λds Q h=>?_⟩
 obtain⟨sh,rfl,ok,q⟩:=h;have hsz:=sizeLine_eq;have hf:=ok.few;walk_at "pu";walk_at "auto";obtain⟨Iv,hIv⟩:∃Iv:Nat->PEnv->Prop,∀i ρ,Iv i ρ↔∃(fs:List Str) (k3 k4:Option (PV×Bool)),fs.Nodup/\fs.length<=4*i/\(∀x,x∈fs↔∃p∈sh.take i,x∈p)/\ρ=[some (shpV sh,false),some (PV.dK (keyS fs) (fs.map λ_=>PV.bl true),true),
       k3,k4]:=⟨_,λ_ _=>Iff.rfl⟩
 refine⟨_,rfl,Iv,(hIv _ _).mpr ⟨[],none,none,List.nodup_nil,by simp,λx=>by simp,rfl⟩,?_,?_⟩
 ·intro i d ρ hd hI;obtain⟨fs,k3,k4,n1,n2,n3,rfl⟩:=(hIv _ _).mp hI;rw[Xd]at hd;cases hb:sh[i]? with
  | none=>rw[hb]at hd;cases hd
  | some b=>
   rw[hb]at hd;cases hd;have hbm:=Xn hb;have hil:i<sh.length:=(Xe.mp hb).1;have hb4:=ok.pat b hbm;have htk:sh.take (i+1)=sh.take i++[b]:=by rw[XD,hb];rfl
   walk_at "go";obtain⟨Jv,hJv⟩:∃Jv:Nat->PEnv->Prop,∀j ρ,Jv j ρ↔∃(gs:List Str) (k4:Option (PV×Bool)),gs.Nodup/\gs.length<=4*i+j/\(∀x,x∈gs↔x∈fs\/x∈b.take j)/\ρ=[some (shpV sh,false),some (PV.dK (keyS gs) (gs.map λ_=>PV.bl true),true),
       some (PV.tup (b.map PV.str),false),k4]:=⟨_,λ_ _=>Iff.rfl⟩
   refine⟨Jv,(hJv _ _).mpr ⟨fs,k4,n1,by omega,λx=>by simp,rfl⟩,?_,?_⟩
   ·intro j d ρ hd hJ;obtain⟨gs,k4,g1,g2,g3,rfl⟩:=(hJv _ _).mp hJ;rw[Xd]at hd;cases hx:b[j]? with
    | none=>rw[hx]at hd;cases hd
    | some x=>
     rw[hx]at hd;cases hd;have hjl:j<b.length:=(Xe.mp hx).1;walk_at "go";have hg:gs.length<sizeLine:=by lia
     refine⟨by unfold keyS;rw[Xc];exact hg,.inr x,rfl,(hJv _ _).mpr ⟨addL gs x,_,zrn g1,by have:=zpe gs x;lia,λy=>?_,by rw[putS]⟩⟩;rw[zpd,g3,XD,hx];simp only[Option.toList_some,Xr,Xl];constructor
     ·rintro((h | h) | h)
      ·exact .inl h
      ·exact .inr (.inl h)
      ·exact .inr (.inr h)
     ·rintro(h | h | h)
      ·exact .inl (.inl h)
      ·exact .inl (.inr h)
      ·exact .inr h
   ·intro ρ hJ;obtain⟨gs,k4,g1,g2,g3,rfl⟩:=(hJv _ _).mp hJ;rw[Xc]at g2 g3;rw[Xi (Xf _)]at g3;refine(hIv _ _).mpr ⟨gs,_,k4,g1,by lia,λx=>?_,rfl⟩;rw[g3,n3,htk];simp only[Xr,Xl];constructor
    ·rintro(⟨p,h1,h2⟩ | h)
     ·exact⟨p,.inl h1,h2⟩
     ·exact⟨_,.inr rfl,h⟩
    ·rintro⟨p,h1 | rfl,h2⟩
     ·exact .inl ⟨p,h1,h2⟩
     ·exact .inr h2
 ·intro ρ hI;obtain⟨fs,k3,k4,n1,n2,n3,rfl⟩:=(hIv _ _).mp hI;rw[Xc]at n2 n3;rw[Xi (Xf _)]at n3;walk_at "go";refine⟨fs,rfl,by lia,λzs z1 z2=>?_⟩;have hn:Names sh zs:=⟨z1.nodup_iff.mpr n1,λx=>z1.mem_iff.trans (n3 x),z2⟩;exact q zs hn
theorem znO:zaw ["_law_shape_here","_law_cell","_law_some","_law_found"] ["_law_shape_here","_law_cell"] (zac zeg):=⟨rfl,rfl,rfl,by decide +kernel,rfl,by decide +kernel,by decide +kernel⟩
theorem zpf {f fM fN:Addr}{fd fdM fdN:FuncData}(F:Fun K "_law_order" "_law_order" zeg f fd) (Mix:Fx K mg "_law_mix" sMix ["_law_cell","_law_j"] fM fdM) (Names:Fx K mg "_law_names" zcO ["_law_shape_here"] fN fdN) (B:Bl mg):FnOk P w K mg base CX0 2 f fd ["_law_shape_here","_law_cell"] (spP K zkP):=by
 have GMix:FnOk P w K mg base CX0 1 fM fdM ["_law_cell","_law_j"] (spP K fMix):=zgz Mix.fn;have GNames:FnOk P w K mg base CX0 1 fN fdN ["_law_shape_here"] (spP K fNames):=zhn Names.fn B;refine zaH F znO (λds Q q178q=>by obtain⟨a,b,e,_⟩:=q178q;rw[e];rfl) (λcdv A outer s H E hr=>?_);have hu:(A.deeper (envOfC "_law_order" (zac zeg) s.heap.objs.size f cdv)).units+16<cLine:=by have q:=hr.units;lia
 have nd:=znO.nd;refine⟨_,(zae (zal (i:=2) nd rfl (Or.inl rfl) (zak GNames zeE hr rfl Names.mg Names.fn.kp Names.bd (zaa (zab 0) zad)))
   (zae (zal (i:=3) nd rfl (Or.inl rfl) (zbm zad))
   (zae (zmr PassesOwn.never (zeL hu (zab 2) (zbm zad)) (zah (zbq (zfw 3 (zhQ 2 (zbl (zak GMix zbh hr rfl Mix.mg Mix.fn.kp Mix.bd (zaa (zab 1) (zaa (zbL zai (zbr rfl B.len (zaa (zab 2) zad))) zad))) (zbr rfl B.len (zaa (zab 2) zad))))))))
   (zah (zar (zab 3)))))),λds Q h=>?_⟩
 obtain⟨sh,c,rfl,ok,q⟩:=h;have hsz:=sizeLine_eq;have hf:=ok.few;walk_at "pu";walk_at "auto";refine⟨sh,rfl,ok,λzs hn=>?_⟩;have hsix:=ok.nms zs hn;have q:=q zs hn;walk_at "go";refine⟨by lia,?_⟩;walk_at "go";obtain⟨Wv,hWv⟩:∃Wv:Nat->PEnv->Prop,∀m ρ,Wv m ρ↔∃(l f:List Str),l.length=m/\l.length+f.length<=6/\f++ordF c l.length l=ordN c zs/\ρ=[some (shpV sh,false),some (PV.int c,false),some (PV.lst (XT PV.str l),true),some (PV.lst (f.map PV.str),true)]:=⟨_,λ_ _=>Iff.rfl⟩;refine⟨Wv,⟨_,(hWv _ _).mpr ⟨zs,[],rfl,by simp;omega,rfl,rfl⟩⟩,?_⟩;intro m ρ hW;obtain⟨l,f,rfl,w1,w2,rfl⟩:=(hWv _ _).mp hW;walk_at "go";refine⟨by lia,zdG l,ite2 (λe=>?_) (λe=>?_)⟩
 ·have hl0:0<l.length:=List.length_pos_iff.mpr λz=>e (by rw[z];rfl);have hx:=zkO (c:=c) hl0;have b1:=Yn (mix c (50+(l.length:Int))) (show(l.length:Int)≠0 by lia);have b2:=Yw (mix c (50+(l.length:Int))) (show(0:Int)<(l.length:Int) by lia);walk_at "go";rw[Xc];refine⟨by lia,by lia,by lia,by lia,by lia,zek c l.length,seqIndex_of b1 b2,_,by rw[Xd,Xa hx];rfl,by rw[Xc];lia,l.length-1,by lia,(hWv _ _).mpr ⟨l.eraseIdx (zek c l.length),f++[l[zek c l.length]],by rw[YA hx],by rw[YA hx,XB];simp;lia,?_,by rw[zeB,Xm];rfl⟩⟩;rw[<- w2,YA hx];obtain⟨n,hn2⟩:∃n,l.length=n+1:=⟨l.length-1,by lia⟩;have hg:ordF c l.length l=l[zek c l.length]::ordF c (l.length-1) (l.eraseIdx (zek c l.length)):=by
   have e2:ordF c (n+1) l=l.getD (zek c l.length) ⟨#[]⟩::ordF c n (l.eraseIdx (zek c l.length)):=rfl;have e3:l.getD (zek c l.length) ⟨#[]⟩=l[zek c l.length]:=by rw[Xk,Xa hx];rfl
   have e4:l.length-1=n:=by lia
   rw[e4];rw[e3]at e2;rw[<- e2]
   congr 1
  rw[hg,XE];rfl
 ·have hl:l=[]:=Classical.byContradiction λz=>e λy=>z (List.map_eq_nil_iff.mp y);subst hl;walk_at "go";rw[<- w2]at q;simpa[ordF]using q
end
structure zpg (tabs:List Tab)(order:List Str):Prop where
 nd:order.Nodup
 mem:∀x,x∈order↔∃b∈tabs,x∈b.1
noncomputable def zkQ:PF:=λds Q=>∃(tabs:List Tab)(order names:List Str)(cells:List Int)(L:List (List Int)),ds=[shpP tabs,rwsP tabs,.lst (order.map PV.str),.lst ((sortI L).map rowI)]/\SmOk (tabs.map (·.1))/\zgf tabs cells/\zpg tabs order/\Names (tabs.map (·.1)) names/\Parts tabs names L/\L.length<=100000/\Q (.bl true) .frz
theorem zlv:zbE zkQ:=λds Q Q' m q179q=>by obtain⟨a,b,c,d,f,e,h0,h1,h2,h3,h4,h5,q⟩:=q179q;exact⟨a,b,c,d,f,e,h0,h1,h2,h3,h4,h5,m _ _ q⟩
theorem ziN (n:Nat)(sh:List (List Str)):_P.plain (n+3) (shpV sh)=true:=by
 unfold shpV;show(sh.map _).all (_P.plain (n+2))=true;rw[List.all_map,XV];intro r _;show _P.plain (n+2) (PV.tup (r.map PV.str))=true;simp[_P.plain]
theorem zeF (n:Nat)(l:List (List (List Int))):(l.map tblP).all (_P.plain (n+3))=true:=by
 rw[List.all_map,XV];intro r _;show _P.plain (n+3) (PV.lst (r.map rowI))=true;show(r.map rowI).all (_P.plain (n+2))=true;rw[List.all_map,XV];intro x _;show _P.plain (n+2) (PV.tup (x.map PV.int))=true;simp[_P.plain]
theorem zfY (n:Nat)(l:List (List Int)):(l.map rowI).all (_P.plain (n+2))=true:=by
 rw[List.all_map,XV];intro r _;show _P.plain (n+2) (PV.tup (r.map PV.int))=true;simp[_P.plain]
section
variable {P:Program}{w:World}{K:Xb}{mg:Str->Option Value}{base:Heap}
theorem znP:zaw ["_law_shape_here","_law_rows_here","_law_order_here","_law_every","_law_names_here","_law_due","_law_kept","_law_found","_law_counts"] ["_law_shape_here","_law_rows_here","_law_order_here","_law_every"] (zac zcH):=⟨rfl,rfl,rfl,by decide +kernel,rfl,by decide +kernel,by decide +kernel⟩
theorem zph {f f1 f2 f3:Addr}{fd fd1 fd2 fd3:FuncData}(F:Fun K "_law_along" "_law_along" zcH f fd) (Names:Fx K mg "_law_names" zcO ["_law_shape_here"] f1 fd1) (ByLetters:Fx K mg "by_letters" zbc ["shape","rows","order"] f2 fd2) (GByLetters:FnOk P w K mg base CX0 5 f2 fd2 ["shape","rows","order"] (spP K zda)) (zdp:Fx K mg "levels" zci ["shape","rows","order"] f3 fd3) (GLevels:FnOk P w K mg base CX0 5 f3 fd3 ["shape","rows","order"] (spP K zeD)) (B:Bl mg):FnOk P w K mg base CX0 6 f fd ["_law_shape_here","_law_rows_here","_law_order_here","_law_every"] (spP K zkQ):=by
 have GNames:FnOk P w K mg base CX0 5 f1 fd1 ["_law_shape_here"] (spP K fNames):=(zhn Names.fn B).mono (by decide);refine zaH F znP (λds Q q180q=>by obtain⟨a,b,c,d,f,e,_⟩:=q180q;rw[e];rfl) (λcdv A outer s H E hr=>?_);have hu:(A.deeper (envOfC "_law_along" (zac zcH) s.heap.objs.size f cdv)).units+16<cLine:=by have q:=hr.units;lia
 have nd:=znP.nd;refine⟨_,(zae (zal (i:=4) nd rfl (Or.inr rfl) (zak GNames zeE hr rfl Names.mg Names.fn.kp Names.bd (zaa (zab 0) zad)))
   (zae (zaY 4 (zal (i:=5) nd rfl (Or.inl rfl) (zfc rfl B.sorted (zaa (zaG (N:=["_law_answer","_law_order_here","_law_names_here"]) (k:=1) (js:=[2,4]) rfl (zcm (sup:=zac zcH) (XN:=["_law_shape_here","_law_rows_here","_law_order_here","_law_every","_law_names_here","_law_due","_law_kept","_law_found","_law_counts"]) rfl rfl (by decide +kernel)) (by decide) (zaC (by decide)) (zas (zab 3)) ⟨λ_ _ _ _ _=>(zaj (i:=0) (by show(["_law_answer","_law_order_here","_law_names_here"]:List Str).Nodup;decide +kernel) rfl (Or.inr rfl)),λ_ _ _ _ _=>zaU,λ_ _ _ _ _=>(zcB rfl B.tuple (zaa (zaG (N:=["_law_letter","_law_answer","_law_names_here"]) (k:=1) (js:=[0,2]) rfl (zcm (sup:=zdn ⟨.function,[(".0",.local),("_law_answer",.cell),("tuple",.globalImplicit),("_law_names_here",.free),("_law_order_here",.free)],false,false,[]⟩ (zac zcH)) (XN:=["_law_answer","_law_order_here","_law_names_here"]) rfl rfl (by decide +kernel)) (by decide) (zaC (by decide)) (zas (zab 1)) ⟨λ_ _ _ _ _=>(zaj (i:=0) (by show(["_law_letter","_law_answer","_law_names_here"]:List Str).Nodup;decide +kernel) rfl (Or.inl rfl)),λ_ _ _ _ _=>zaU,λ_ _ _ _ _=>(zax (zab 1) (zgZ (zab 2) (zab 0)))⟩) zad))⟩) zad))))
   (zae (zal (i:=6) nd rfl (Or.inl rfl) (zmB rfl B.list (zaa (zab 2) zad)))
   (zae (zal (i:=7) nd rfl (Or.inl rfl) (zak GByLetters zgg hr rfl ByLetters.mg ByLetters.fn.kp ByLetters.bd (zaa (zab 0) (zaa (zab 1) (zaa (zab 2) zad)))))
   (zae (zdU (PuW.t (zpt (zjd (zfu (zpw (K:=K) rfl rfl B.isi (zaa (zab 7) (zaa (zsr rfl B.list zsH) zad))))) (zmo (zeL hu (zab 7) (zab 5))))) (zah (zar ziZ)) zbT)
   (zae (zdU (zeL hu (zaG (N:=["_law_answer"]) (k:=1) (js:=[]) rfl (zcm (sup:=zac zcH) (XN:=["_law_shape_here","_law_rows_here","_law_order_here","_law_every","_law_names_here","_law_due","_law_kept","_law_found","_law_counts"]) rfl rfl (by decide +kernel)) (by decide) (zaC (by decide)) (zas (zab 7)) ⟨λ_ _ _ _ _=>(zaj (i:=0) (by show(["_law_answer"]:List Str).Nodup;decide +kernel) rfl (Or.inl rfl)),λ_ _ _ _ _=>(zcA (zjd (zfu (zpw (K:=K) rfl rfl B.isi (zaa (zab 0) (zaa (zsr rfl B.tuple zpv) zad)))))),λ_ _ _ _ _=>(zab 0)⟩) (zbm zad)) (zah (zar ziZ)) zbT)
   (zae (zal (i:=8) nd rfl (Or.inl rfl) (zak GLevels zfW hr rfl zdp.mg zdp.fn.kp zdp.bd (zaa (zab 0) (zaa (zab 1) (zaa (zab 2) zad)))))
   (zae (zdU (PuW.t (zpt (zeL hu (zax (zab 8) (zbr rfl B.len (zaa (zab 2) zad))) (zbr rfl B.len (zaa (zab 5) zad))) (zmo (zeL hu (zbr rfl B.len (zaa (zab 8) zad)) (zbL (zbr rfl B.len (zaa (zab 2) zad)) zai))))) (zah (zar ziZ)) zbT)
   (zae (zbq (zbX 7 zsp))
   (zah (zar (zqv hu (zab 2) (zab 6))))))))))))),λds Q h=>?_⟩
 obtain⟨tabs,order,names,cells,L,rfl,sm,ok,oo,hn,hP,hL,q⟩:=h;have hsz:=sizeLine_eq;walk_at "pu";refine⟨tabs.map (·.1),zkM tabs,sm,λns hns=>?_⟩;have en:=hns.uniq hn;subst en;have hm:∀x,x∈ns↔x∈order:=λx=>(hn.tab x).trans (oo.mem x).symm;have hone:=ok.ne hn;have h6:=ok.six ns hn.nd λx hx=>(hn.tab x).mp hx;have hol:order.length=ns.length:=((List.perm_ext_iff_of_nodup oo.nd hn.nd).mpr λx=>(hm x).symm).length_eq;have hPs:=hP.sort;have hsl:(sortI L).length<=100000:=by rw[(sortI_perm L).length_eq];exact hL
 generalize sortI L=M at hPs hsl;have hPo:=hPs.move hn.nd oo.nd hm;walk_at "go";refine⟨by rw[Xc];lia,λi out=>out=((M.take i).map λp=>zam p ns order).map rowI,rfl,?_,?_⟩
 ·rintro i d out hd-rfl;rw[Xd]at hd;cases hp:M[i]? with
  | none=>rw[hp]at hd;cases hd
  | some p=>
   rw[hp]at hd;cases hd;have hpl:=((hPs.mem p).mp (Xn hp)).1;refine⟨by rw[Xc];lia,λk out=>out=(zam p ns (order.take k)).map PV.int,rfl,?_,?_⟩
   ·rintro k d out hd-rfl;rw[Xd]at hd;cases hx:order[k]? with
    | none=>rw[hx]at hd;cases hd
    | some x=>
     rw[hx]at hd;cases hd;have hxn:=(hm x).mpr (Xn hx);have hi:ixS ns x<p.length:=by rw[hpl];exact zcI hxn
     refine⟨zfN ns,rfl,Xt.mpr ⟨x,hxn,rfl⟩,PV.int (p[ixS ns x]),.inl ⟨p.map PV.int,.inr rfl,zaR (by rw[Xd,show idxP (ns.map PV.str) (PV.str x)=ixS ns x from rfl,Xa hi];rfl)⟩,?_⟩;show _=_;unfold zam;rw[XD,hx,Xm,Xm]
     congr 1
     simp[Xa hi]
   ·rintro out-rfl;rw[Xc,Xi (Xf _)];show _=_;rw[XD,hp,Xm,Xm];rfl
 ·rintro out-rfl;rw[Xc,Xi (Xf _)];refine⟨M.map λp=>zam p ns order,rfl,λr hr z=>?_,?_⟩
  ·obtain⟨p,_,rfl⟩:=Xt.mp hr;have:=zbY p ns order;rw[z]at this;rw[hol]at this;exact hone (XI.mp this.symm)
  ·generalize (M.map λp=>zam p ns order)=D at hPo;walk_at "go";walk_at "go";refine⟨tabs,rfl,rfl,order,rfl,⟨cells,ok.tabs oo.nd λx hx=>(oo.mem x).mp hx⟩,λz=>hone (XI.mp (by rw[<- hol,z];rfl)),λN hN hNl=>?_⟩;have eN:=hN.sorted hPo;rw[eN];have hS:=hPo.sort;have hSl:(sortI D).length=N.length:=by rw[<- eN];exact(sortI_perm N).length_eq
   rw[show(sortI D).map (λr=>PV.tup (r.map PV.int))=(sortI D).map rowI from rfl];generalize sortI D=S at hS hSl;walk_at "go";refine⟨true,zka,?_⟩;rw[if_neg (by decide)];refine⟨zfY 3 _,zfY 3 _,?_⟩;walk_at "go";walk_at "go";refine⟨by rw[Xc];lia,λ_ out=>out=[],rfl,λi d out hd _ ho=>?_,λout _ ho=>?_⟩
   ·rw[Xd]at hd;cases hx:S[i]? with
    | none=>rw[hx]at hd;cases hd
    | some x=>
     rw[hx]at hd;cases hd;refine⟨λn z=>(by unfold rowI at z;exact PV.noConfusion z),true,zka,?_⟩;rw[if_neg (by decide)];exact ho
   ·have ho:out=[]:=ho;subst ho;refine⟨XU _,rfl,?_⟩;rw[if_neg (λz=>z rfl)];walk_at "go";walk_at "go";refine⟨tabs,rfl,rfl,order,rfl,⟨cells,ok.tabs oo.nd λx hx=>(oo.mem x).mp hx⟩,λks hks=>?_⟩;have hkl:=hks.len;obtain⟨M2,hM2,e2⟩:=hks.at_ order.length _ (Xa (by lia));rw[Xi (Xf _)]at hM2;have hkS:ks[order.length]'(by lia)=S.length:=by rw[<- e2];exact(hM2.perm hS).length_eq
    walk_at "go";rw[Xc,Xc,Xc];refine⟨PV.int (S.length:Int),zaR (by rw[Xd,Xa (show order.length<ks.length by lia),hkS];rfl),rfl,?_⟩;rw[if_neg (λz=>z rfl),if_neg (λz=>z (by rw[hkl];rfl))];walk_at "go";walk_at "go";refine⟨by rw[Xc];lia,?_⟩;walk_at "go";refine⟨zdG _,zdG _,?_⟩;rw[decide_eq_true trivial];exact q
end
structure CutB (ea:List Str)(b b':Tab):Prop where
 fst:b'.1=cutS b.1 ea
 snd:∀r,r∈b'.2↔∃r0∈b.2,zam r0 b.1 (cutS b.1 ea)=r
 len:b'.2.length<=b.2.length
structure CutT (ea:List Str)(tabs Ts:List Tab):Prop where
 of:∀b'∈Ts,b'.1≠[]/\∃b∈tabs,CutB ea b b'
 to:∀b∈tabs,cutS b.1 ea≠[]->∃b'∈Ts,CutB ea b b'
 len:Ts.length<=tabs.length
theorem CutT.start (ea:List Str):CutT ea [] []:=⟨λb h=>(by cases h),λb h=>(by cases h),Xf _⟩
theorem CutT.skip {ea:List Str}{tabs Ts:List Tab}{b:Tab}(h:CutT ea tabs Ts)(hb:cutS b.1 ea=[]):CutT ea (tabs++[b]) Ts:=by
 refine⟨λb' h'=>?_,λc hc hne=>?_,by rw[XB];have:=h.len;lia⟩
 ·obtain⟨h1,c,hc,h2⟩:=h.of b' h';exact⟨h1,c,Xr.mpr (.inl hc),h2⟩
 ·rcases Xr.mp hc with hc | hc
  ·exact h.to c hc hne
  ·rw[Xl.mp hc]at hne;exact absurd hb hne
theorem CutT.add {ea:List Str}{tabs Ts:List Tab}{b b':Tab}(h:CutT ea tabs Ts)(hne:b'.1≠[])(hb:CutB ea b b'):CutT ea (tabs++[b]) (Ts++[b']):=by
 refine⟨λc' h'=>?_,λc hc hcn=>?_,by rw[XB,XB];have:=h.len;simp;omega⟩
 ·rcases Xr.mp h' with h' | h'
  ·obtain⟨h1,c,hc,h2⟩:=h.of c' h';exact⟨h1,c,Xr.mpr (.inl hc),h2⟩
  ·rw[Xl.mp h'];exact⟨hne,b,Xr.mpr (.inr Xj),hb⟩
 ·rcases Xr.mp hc with hc | hc
  ·obtain⟨c',h1,h2⟩:=h.to c hc hcn;exact⟨c',Xr.mpr (.inl h1),h2⟩
  ·rw[Xl.mp hc];exact⟨b',Xr.mpr (.inr Xj),hb⟩
theorem zfj {ls ea:List Str}{w:Str}:w∈cutS ls ea↔w∈ls/\w∈ea:=by unfold cutS;rw[Yd];simp
theorem CutT.letters {ea:List Str}{tabs Ts:List Tab}(h:CutT ea tabs Ts)(he:∀x∈ea,∃b∈tabs,x∈b.1)(x:Str):(∃b∈Ts,x∈b.1)↔x∈ea:=by
 constructor
 ·rintro⟨b',h1,hx⟩;obtain⟨_,b,_,hb⟩:=h.of b' h1;rw[hb.fst]at hx;exact(zfj.mp hx).2
 ·intro hx;obtain⟨b,hb,hxb⟩:=he x hx;have hc:=zfj.mpr ⟨hxb,hx⟩;obtain⟨b',h1,h2⟩:=h.to b hb (λz=>by rw[z]at hc;cases hc);exact⟨b',h1,by rw[h2.fst];exact hc⟩
theorem CutT.fits {ea:List Str}{tabs Ts:List Tab}(h:CutT ea tabs Ts)(hne:∀b∈tabs,b.2≠[])(p:List Int):(∀b∈Ts,Fits b.1 b.2 ea p)↔∀b∈tabs,Fits b.1 b.2 ea p:=by
 constructor
 ·intro hf b hb;by_cases hc:cutS b.1 ea=[]
  ·obtain⟨r,hr⟩:=List.exists_mem_of_ne_nil _ (hne b hb);refine⟨r,hr,λw hw he=>?_⟩;have:=zfj.mpr ⟨hw,he⟩;rw[hc]at this;cases this
  ·obtain⟨b',h1,h2⟩:=h.to b hb hc;have:=hf b' h1;rw[h2.fst]at this;exact(zkH h2.snd).mp this
 ·intro hf b' hb';obtain⟨_,b,hb,h2⟩:=h.of b' hb';rw[h2.fst];exact(zkH h2.snd).mpr (hf b hb)
theorem CutT.ok {ea:List Str}{tabs Ts:List Tab}{cells:List Int}(h:CutT ea tabs Ts)(ok:zgf tabs cells)(he:∀x∈ea,∃b∈tabs,x∈b.1)(h0:ea≠[]):zgf Ts cells:=by
 refine⟨?_,Ye h.len ok.few,λb' hb'=>?_,λb' hb'=>?_,λns nn hns=>ok.six ns nn λx hx=>?_,ok.three⟩
 ·obtain⟨x,hx⟩:=List.exists_mem_of_ne_nil _ h0;obtain⟨b,hb,_⟩:=(h.letters he x).mpr hx;exact List.length_pos_of_mem hb
 ·obtain⟨h1,b,hb,h2⟩:=h.of b' hb';refine⟨List.length_pos_iff.mpr h1,Ye ?_ (ok.pat b hb).2⟩;rw[h2.fst];exact Yz _ _
 ·obtain⟨h1,b,hb,h2⟩:=h.of b' hb';refine⟨Ye h2.len (ok.rows b hb).1,λr hr=>?_⟩;obtain⟨r0,hr0,rfl⟩:=(h2.snd r).mp hr;obtain⟨l0,c0⟩:=(ok.rows b hb).2 r0 hr0;refine⟨by rw[zbY,h2.fst],λc hc=>?_⟩;obtain⟨w,hw,rfl⟩:=Xt.mp hc;have hi:ixS b.1 w<r0.length:=by rw[l0];exact zcI (zfj.mp hw).1
  refine c0 _ ?_;rw[Xk,Xa hi];exact Yr hi
 ·obtain⟨b',hb',hxb⟩:=hns x hx;exact he x ((h.letters he x).mp ⟨b',hb',hxb⟩)
noncomputable def atS (ls ea:List Str)(n:Nat):List Nat:=(XZ n).filter λj=>decide (ls.getD j ⟨#[]⟩∈ea)
theorem znQ {α:Type}(ls:List α)(d:α):(XZ ls.length).map (λj=>ls.getD j d)=ls:=by
 refine List.ext_getElem? λi=>?_;rw[Xd];by_cases hi:i<ls.length
 ·rw[List.getElem?_range hi,Xa hi];simp[hi]
 ·rw[XG (by simp;lia),XG (by lia)];rfl
theorem zpO (ls ea:List Str):(atS ls ea ls.length).map (λj=>ls.getD j ⟨#[]⟩)=cutS ls ea:=by
 unfold atS cutS
 conv=>rhs;rw[<- znQ ls ⟨#[]⟩,List.filter_map]
 rfl
theorem zpi {ls ea:List Str}(nd:ls.Nodup)(r:List Int):(atS ls ea ls.length).map (λj=>r.getD j 0)=zam r ls (cutS ls ea):=by
 rw[<- zpO];unfold zam;rw[Ym];refine YM λj hj=>?_;have hj:j<ls.length:=Yp.mp (Yd.mp hj).1;show _=r.getD (ixS ls (ls.getD j ⟨#[]⟩)) 0;rw[zpM nd (i:=j) (by rw[Xk,Xa hj];rfl)]
theorem zkR (ls ea:List Str)(n:Nat):atS ls ea (n+1)=if ls.getD n ⟨#[]⟩∈ea then atS ls ea n++[n] else atS ls ea n:=by
 unfold atS;rw[List.range_succ,Yx];by_cases h:ls.getD n ⟨#[]⟩∈ea
 ·rw[if_pos h,ztv (p:=λj=>decide (ls.getD j ⟨#[]⟩∈ea)) (decide_eq_true h)]
 ·rw[if_neg h,ztw (p:=λj=>decide (ls.getD j ⟨#[]⟩∈ea)) (decide_eq_false h),YE]
theorem zjD (n:Nat)(l:List Nat)(f:Nat->Int):(l.map λk=>PV.int (f k)).all (_P.plain n)=true:=by
 rw[List.all_map,XV];intro k _;cases n<;>rfl
noncomputable def fCut:PF:=λds Q=>∃(tabs:List Tab)(order:List Str)(k:Nat)(cells:List Int),ds=[shpP tabs,rwsP tabs,.lst (order.map PV.str),.int (k:Int)]/\zgf tabs cells/\zpg tabs order/\1<=k/\k<=order.length/\(∀b∈tabs,b.2≠[]/\b.1.Nodup)/\∀L,Parts tabs (order.take k) L->Q (.int (L.length:Int)) .frz
theorem zpj:zbE fCut:=λds Q Q' m q181q=>by obtain⟨a,b,c,d,e,h1,h2,h3,h4,h5,q⟩:=q181q;exact⟨a,b,c,d,e,h1,h2,h3,h4,h5,λL h=>m _ _ (q L h)⟩
section
variable {P:Program}{w:World}{K:Xb}{mg:Str->Option Value}{base:Heap}
theorem zty:zaw ["_law_shape_here","_law_rows_here","_law_order_here","_law_k","_law_some","_law_patterns","_law_lines","_law_i","_law_at"] ["_law_shape_here","_law_rows_here","_law_order_here","_law_k"] (zac sCut):=⟨rfl,rfl,rfl,by decide +kernel,rfl,by decide +kernel,by decide +kernel⟩
theorem ztz {f f1:Addr}{fd fd1:FuncData}(F:Fun K "_law_cut" "_law_cut" sCut f fd) (Answers:Fx K mg "answers" zbu ["shape","rows"] f1 fd1) (GAnswers:FnOk P w K mg base CX0 5 f1 fd1 ["shape","rows"] (spP K zcZ)) (B:Bl mg):FnOk P w K mg base CX0 6 f fd ["_law_shape_here","_law_rows_here","_law_order_here","_law_k"] (spP K fCut):=by
 refine zaH F zty (λds Q q182q=>by obtain⟨a,b,c,d,e,_⟩:=q182q;rw[e];rfl) (λcdv A outer s H E hr=>?_);have hu:(A.deeper (envOfC "_law_cut" (zac sCut) s.heap.objs.size f cdv)).units+16<cLine:=by have q:=hr.units;lia
 have nd:=zty.nd;refine⟨_,(zae (zal (i:=4) nd rfl (Or.inr rfl) (zgS (zab 2) zgQ (zgR (zab 3))))
   (zae (zal (i:=5) nd rfl (Or.inl rfl) (zbm zad))
   (zae (zal (i:=6) nd rfl (Or.inl rfl) (zbm zad))
   (zae (zaY 4 (zcz rfl PassesOwn.never (zbz rfl B.range (zaa (zbr rfl B.len (zaa (zab 0) zad)) zad)) (zaj (i:=7) nd rfl (Or.inr rfl)) (zae (zal (i:=8) nd rfl (Or.inr rfl) (zaG (N:=["_law_j","_law_shape_here","_law_some","_law_i"]) (k:=1) (js:=[0,4,7]) rfl (zcm (sup:=zac sCut) (XN:=["_law_shape_here","_law_rows_here","_law_order_here","_law_k","_law_some","_law_patterns","_law_lines","_law_i","_law_at"]) rfl rfl (by decide +kernel)) (by decide) (zaC (by decide)) (zbz rfl B.range (zaa (zbr rfl B.len (zaa (zax (zab 0) (zab 7)) zad)) zad)) ⟨λ_ _ _ _ _=>(zaj (i:=0) (by show(["_law_j","_law_shape_here","_law_some","_law_i"]:List Str).Nodup;decide +kernel) rfl (Or.inl rfl)),λ_ _ _ _ _=>(zcA (zjX hu (zax (zax (zab 1) (zab 3)) (zab 0)) (zab 2))),λ_ _ _ _ _=>(zab 0)⟩))
   (zah (zdU (zeL hu (zab 8) (zbm zad)) (zae (zaY 8 (zbq (zbX 5 (zcB rfl B.tuple (zaa (zaG (N:=["_law_j","_law_shape_here","_law_i"]) (k:=1) (js:=[0,7]) rfl (zcm (sup:=zac sCut) (XN:=["_law_shape_here","_law_rows_here","_law_order_here","_law_k","_law_some","_law_patterns","_law_lines","_law_i","_law_at"]) rfl rfl (by decide +kernel)) (by decide) (zaC (by decide)) (zas (zab 8)) ⟨λ_ _ _ _ _=>(zaj (i:=0) (by show(["_law_j","_law_shape_here","_law_i"]:List Str).Nodup;decide +kernel) rfl (Or.inl rfl)),λ_ _ _ _ _=>zaU,λ_ _ _ _ _=>(zax (zax (zab 1) (zab 2)) (zab 0))⟩) zad)))))
   (zah (zbq (zbX 6 (zjw hu rfl rfl B.sorted rfl B.set (zaG (N:=["_law_row","_law_at"]) (k:=1) (js:=[8]) rfl (zcm (sup:=zac sCut) (XN:=["_law_shape_here","_law_rows_here","_law_order_here","_law_k","_law_some","_law_patterns","_law_lines","_law_i","_law_at"]) rfl rfl (by decide +kernel)) (by decide) (zaC (by decide)) (zas (zax (zab 1) (zab 7))) ⟨λ_ _ _ _ _=>(zaj (i:=0) (by show(["_law_row","_law_at"]:List Str).Nodup;decide +kernel) rfl (Or.inr rfl)),λ_ _ _ _ _=>zaU,λ_ _ _ _ _=>(zcB rfl B.tuple (zaa (zaG (N:=["_law_j","_law_row"]) (k:=1) (js:=[0]) rfl (zcm (sup:=zdn ⟨.function,[(".0",.local),("_law_row",.cell),("tuple",.globalImplicit),("_law_at",.free)],false,false,[]⟩ (zac sCut)) (XN:=["_law_row","_law_at"]) rfl rfl (by decide +kernel)) (by decide) (zaC (by decide)) (zas (zab 1)) ⟨λ_ _ _ _ _=>(zaj (i:=0) (by show(["_law_j","_law_row"]:List Str).Nodup;decide +kernel) rfl (Or.inl rfl)),λ_ _ _ _ _=>zaU,λ_ _ _ _ _=>(zax (zab 1) (zab 0))⟩) zad))⟩)))))) zbT)))))
   (zah (zaY 6 (zaY 5 (zar (zbr rfl B.len (zaa (zak GAnswers zeQ hr rfl Answers.mg Answers.fn.kp Answers.bd (zaa (zab 5) (zaa (zab 6) zad))) zad)))))))))),λds Q h=>?_⟩
 obtain⟨tabs,order,k,cells,rfl,ok,oo,hk1,hk2,hne,q⟩:=h;have hsz:=sizeLine_eq;have hf:=ok.few;walk_at "pu";rw[zfP,<- List.map_take];generalize hea:order.take k=ea;rw[hea]at q;have hel:ea.length<=6:=by rw[<- hea,XH];have:=ok.six order oo.nd λx hx=>(oo.mem x).mp hx;lia
 walk_at "go";refine⟨XU _,?_⟩;walk_at "go";refine⟨XU _,?_⟩;walk_at "go";have hlenR:(rngP 0 ((tabs.map λb=>PV.tup (b.1.map PV.str)).length:Int).toNat).length=tabs.length:=by rw[zbU,Xc];simp
 obtain⟨Iv,hIv⟩:∃Iv:Nat->PEnv->Prop,∀i ρ,Iv i ρ↔∃(Ts:List Tab) (k7 k8:Option (PV×Bool)),CutT ea (tabs.take i) Ts/\ρ=[some (shpP tabs,false),some (rwsP tabs,false),some (PV.lst (order.map PV.str),false),some (PV.int (k:Int),false),some (PV.lst (ea.map PV.str),false),some (shpP Ts,true),some (rwsP Ts,true),k7,k8]:=⟨_,λ_ _=>Iff.rfl⟩;refine⟨_,rfl,by lia,by rw[Xc];lia,Iv,(hIv _ _).mpr ⟨[],none,none,CutT.start ea,rfl⟩,?_,?_⟩
 ·intro i d ρ hd hI;obtain⟨Ts,k7,k8,hC,rfl⟩:=(hIv _ _).mp hI;obtain⟨hi,rfl⟩:=zco hd;rw[Int.zero_add];have hi:i<tabs.length:=by rw[Xc]at hi;lia
  obtain⟨b,hb⟩:∃b,tabs[i]? = some b:=⟨_,Xa hi⟩;have hbm:=Xn hb;have hb4:=(ok.pat b hbm).2;have rok:=ok.rows b hbm;have hat:atI (tabs.map λb=>PV.tup (b.1.map PV.str)) (i:Int)=some (PV.tup (b.1.map PV.str)):=zaR (by rw[Xd,hb];rfl);have htb:tabs.take (i+1)=tabs.take i++[b]:=by rw[XD,hb];rfl
  walk_at "go";have hlen:(rngP 0 ((b.1.map PV.str).length:Int).toNat).length=b.1.length:=by rw[zbU,Xc];simp
  refine⟨PV.tup (b.1.map PV.str),.inl ⟨_,.inl rfl,hat⟩,_,rfl,by lia,by rw[Xc];lia,by rw[hlen];lia,λj out=>out=(atS b.1 ea j).map λ(j:Nat)=>PV.int (j:Int),rfl,?_,?_⟩
  ·rintro j d out hd-rfl;obtain⟨hj,rfl⟩:=zco hd;rw[Int.zero_add];have hj:j<b.1.length:=by rw[Xc]at hj;lia
   have hg:b.1[j]? = some (b.1.getD j ⟨#[]⟩):=by rw[Xk,Xa hj];rfl
   refine⟨_,.inl ⟨_,.inl rfl,hat⟩,PV.str (b.1.getD j ⟨#[]⟩),.inl ⟨_,.inr rfl,_,rfl,zaR (by rw[Xd,hg];rfl)⟩,rfl,zcj ea,ite2 (λe=>?_) (λe=>?_)⟩
   ·show _=_;rw[zkR,if_pos (zaZ.mp e),Xm];rfl
   ·show _=_;rw[zkR,if_neg (λz=>e (zaZ.mpr z))]
  ·rintro out-rfl;rw[hlen];have hal:(atS b.1 ea b.1.length).length<=4:=by unfold atS;have:=Yz (λj=>decide (b.1.getD j ⟨#[]⟩∈ea)) (XZ b.1.length);rw[List.length_range]at this;lia
   have hcut:=zpO b.1 ea;have hce:=λr=>zpi (ea:=ea) (hne b hbm).2 r;have haj:∀j∈atS b.1 ea b.1.length,j<b.1.length:=λj hj=>Yp.mp (Yd.mp hj).1;generalize atS b.1 ea b.1.length=at1 at hal hcut hce haj;walk_at "go";refine⟨XU _,zjD 5 at1 (λj=>(j:Int)),ite2 (λe=>?_) (λe=>?_)⟩
   ·have hne1:cutS b.1 ea≠[]:=λz=>e (by rw[<- hcut]at z;rw[List.map_eq_nil_iff.mp z];rfl);have hTl:=hC.len;rw[XH]at hTl;walk_at "go";refine⟨_,rfl,by rw[Xc];lia,by rw[Xc];lia,λm out=>out=((at1.take m).map λj=>b.1.getD j ⟨#[]⟩).map PV.str,rfl,?_,?_⟩
    ·rintro m d out hd-rfl;rw[Xd]at hd;cases hx:at1[m]? with
     | none=>rw[hx]at hd;cases hd
     | some j=>
      rw[hx]at hd;cases hd;have hj:=haj j (Xn hx);have hg:b.1[j]? = some (b.1.getD j ⟨#[]⟩):=by rw[Xk,Xa hj];rfl
      refine⟨_,.inl ⟨_,.inl rfl,hat⟩,PV.str (b.1.getD j ⟨#[]⟩),.inl ⟨_,.inr rfl,_,rfl,zaR (by rw[Xd,hg];rfl)⟩,?_⟩;show _=_;rw[XD,hx,Xm,Xm];rfl
    ·rintro out-rfl;rw[Xc,Xi (Xf _),hcut];walk_at "go";have hrow:∀r:List Int,(at1.take at1.length).map (λj=>r.getD j 0)=zam r b.1 (cutS b.1 ea):=λr=>by rw[Xi (Xf _)];exact hce r
     refine⟨_,rfl,by rw[Xc];lia,tblP b.2,.inl ⟨_,.inl rfl,zaR (by rw[Xd,hb];rfl)⟩,_,rfl,by rw[Xc];have:=rok.1;lia,λm out=>out=((b.2.take m).map λr=>zam r b.1 (cutS b.1 ea)).map rowI,rfl,?_,?_⟩
     ·rintro m d out hd-rfl;rw[Xd]at hd;cases hx:b.2[m]? with
      | none=>rw[hx]at hd;cases hd
      | some r=>
       rw[hx]at hd;cases hd;have hrl:=(rok.2 r (Xn hx)).1;refine⟨by rw[Xc];lia,λn out=>out=((at1.take n).map λj=>r.getD j 0).map PV.int,rfl,?_,?_⟩
       ·rintro n d out hd-rfl;rw[Xd]at hd;cases hy:at1[n]? with
        | none=>rw[hy]at hd;cases hd
        | some j=>
         rw[hy]at hd;cases hd;have hj:=haj j (Xn hy);have hg:r[j]? = some (r.getD j 0):=by rw[Xk,Xa (show j<r.length by lia)];rfl
         refine⟨PV.int (r.getD j 0),.inl ⟨_,.inr rfl,_,rfl,zaR (by rw[Xd,hg];rfl)⟩,?_⟩;show _=_;rw[XD,hy,Xm,Xm];rfl
       ·rintro out-rfl;show _=_;rw[Xc,hrow,XD,hx,Xm,Xm];rfl
     ·rintro out-rfl;rw[Xc,Xi (Xf _)];refine⟨b.2.map λr=>zam r b.1 (cutS b.1 ea),rfl,λr hr z=>?_,by rw[Xc];exact rok.1,λzs z1 z2 z3=>(hIv _ _).mpr ⟨Ts++[(cutS b.1 ea,zs)],some (PV.int (i:Int),false),some (PV.lst (at1.map λ(j:Nat)=>PV.int (j:Int)),false),?_,?_⟩⟩
      ·obtain⟨r0,_,rfl⟩:=Xt.mp hr;have:=zbY r0 b.1 (cutS b.1 ea);rw[z]at this;exact hne1 (XI.mp this.symm)
      ·rw[htb];refine hC.add hne1 ⟨rfl,λr=>(z3 r).trans Xt,?_⟩;have:=List.Nodup.length_le_of_subset z1 (λr hr=>(z3 r).mp hr);rw[Xc]at this;exact this
      ·unfold shpP rwsP;rw[Xm,Xm];rfl
   ·have hc0:cutS b.1 ea=[]:=by rw[<- hcut];exact congrArg (XT _) (List.map_eq_nil_iff.mp (Classical.byContradiction e))
    walk_at "go";exact(hIv _ _).mpr ⟨Ts,_,_,by rw[htb];exact hC.skip hc0,rfl⟩
 ·intro ρ hI;obtain⟨Ts,k7,k8,hC,rfl⟩:=(hIv _ _).mp hI;rw[hlenR,Xi (Xf _)]at hC;walk_at "go";have he:∀x∈ea,∃b∈tabs,x∈b.1:=λx hx=>(oo.mem x).mp (by rw[<- hea]at hx;exact List.mem_of_mem_take hx);have hnd:ea.Nodup:=by rw[<- hea];exact oo.nd.sublist (List.take_sublist _ _)
  have h0:ea≠[]:=λz=>by
   have h1:ea.length=min k order.length:=by rw[<- hea,XH]
   rw[z,List.length_nil]at h1;lia
  refine⟨Ts,rfl,rfl,⟨cells,hC.ok ok he h0⟩,λnames L hn hP hL=>?_⟩;have hm:∀x,x∈names↔x∈ea:=λx=>(hn.tab x).trans (hC.letters he x);have hP2:=hP.move hn.nd hnd hm;have hP3:Parts tabs ea (L.map λp=>zam p names ea):=⟨hP2.nd,λp=>(hP2.mem p).trans (and_congr_right λ_=>hC.fits (λb hb=>(hne b hb).1) p)⟩;have:=q _ hP3;rw[Xc]at this;rw[Xc,(sortI_perm L).length_eq];exact this
end
noncomputable def fLaw:PF:=λds Q=>∃ns:List Int,ds=[.lst (ns.map PV.int)]/\ns.length<=63/\Q (.bl true) .frz
theorem zpk:zbE fLaw:=λds Q Q' m q183q=>by obtain⟨l,e,h,q⟩:=q183q;exact⟨l,e,h,m _ _ q⟩
noncomputable def zcl (total:Int)(cells:List Int):List Tab:=(shpS total).zip (rwsS (shpS total) cells total)
theorem zpl (c:Int):∀x∈letS c,x.length=1:=λx hx=>by
 have hx:=(List.take_sublist _ _).mem hx;unfold zcY zaV at hx;obtain⟨k,_,rfl⟩:=Xt.mp hx;rfl
theorem zdH (c:Int):ShOk (shpS c):=by
 have h:=znG c;have hl:(shpS c).length=nShp c:=by simp[shpS]
 refine⟨by lia,by lia,λls hm=>?_⟩;obtain⟨i,_,rfl⟩:=Xt.mp hm;have hp:=zfT c i;exact⟨by rw[zkF];exact hp.1,by rw[zkF];exact hp.2.1,zrk c i,λx hx=>zpl c x (zkG c i x hx)⟩
theorem zkS (sh:List (List Str))(hs:0<sh.length)(cells:List Int)(total:Int):(rwsS sh cells total).length=sh.length:=by
 unfold rwsS;rw[Xc];exact(rw3 hs (by have:=zfh total;lia) cells total).len
theorem znR {sh:List (List Str)}(hs:0<sh.length)(cells:List Int)(total:Int){i:Nat}{l:List (List Int)}(h:(rwsS sh cells total)[i]? = some l):l.length<=cells.length+sh.length/\∀r∈l,r.length=(sh.getD i []).length/\∀c∈r,c∈numS total:=by
 unfold rwsS at h;rw[Xd]at h;cases e:(rws3 sh (numS total) cells total)[i]? with
 | none=>rw[e]at h;cases h
 | some l0=>
  rw[e]at h;have h:=Option.some.inj h;obtain⟨h1,h2⟩:=(rw3 hs (by have:=zfh total;lia) cells total).row i l0 e;have hp:=sortI_perm l0;rw[<- h];exact⟨by rw[hp.length_eq];exact h1,λr hr=>h2 r (hp.mem_iff.mp hr)⟩
theorem zro {α β:Type}{a:List α}{b:List β}(h:a.length=b.length):(a.zip b).map (·.1)=a:=List.map_fst_zip (by lia)
theorem zrp {α β:Type}{a:List α}{b:List β}(h:a.length=b.length):(a.zip b).map (·.2)=b:=List.map_snd_zip (by lia)
theorem zdb {total:Int}{cells:List Int}{b:Tab}(h:b∈zcl total cells):b.1∈shpS total/\b.2.length<=cells.length+6/\∀r∈b.2,r.length=b.1.length/\∀c∈r,c∈numS total:=by
 have ok:=zdH total;obtain⟨i,hi,e⟩:=YH.mp h;have hz:=Xa hi;rw[e]at hz;unfold zcl at hz;rw[List.getElem?_zip_eq_some]at hz;obtain⟨z1,z2⟩:=hz;obtain⟨h1,h2⟩:=znR ok.pos cells total z2;have hg:(shpS total).getD i []=b.1:=by rw[Xk,z1];rfl
 rw[hg]at h2;have:=ok.few;exact⟨Xn z1,by lia,h2⟩
theorem zel (total:Int)(cells:List Int):(zcl total cells).map (·.1)=shpS total:=zro (zkS _ (zdH total).pos cells total).symm
theorem zkT (total:Int)(cells:List Int):(zcl total cells).map (·.2)=rwsS (shpS total) cells total:=zrp (zkS _ (zdH total).pos cells total).symm
theorem zfk (total:Int)(cells:List Int):shpP (zcl total cells)=shpV (shpS total):=by rw[zkM,zel]
theorem zfl (total:Int)(cells:List Int):rwsP (zcl total cells)=.lst ((rwsS (shpS total) cells total).map tblP):=by
 unfold rwsP;rw[<- zkT,Ym];rfl
theorem ziO {total:Int}{names:List Str}(hnd:names.Nodup)(h:∀x∈names,∃p∈shpS total,x∈p):names.length<=6:=by
 have h1:∀x∈names,x∈letS total:=λx hx=>by
  obtain⟨p,hp,hxp⟩:=h x hx;obtain⟨i,_,rfl⟩:=Xt.mp hp;exact zkG total i x hxp
 have h2:=List.Nodup.length_le_of_subset hnd h1;rw[zfg]at h2;have:=zfQ total;lia
theorem zrq (total:Int):SmOk (shpS total):=
 ⟨(zdH total).few,λp hp=>((zdH total).pat p hp).2.1,λnames hn=>ziO hn.nd λx hx=>(hn.mem x).mp hx⟩
theorem ztA {total:Int}{cells:List Int}(h:cells.length<=63):zgf (zcl total cells) (numS total):=by
 have ok:=zdH total;have hl:(zcl total cells).length=(shpS total).length:=by rw[<- zel total cells,Xc]
 have nl:=zfh total;exact⟨by rw[hl];exact ok.pos,by rw[hl];exact ok.few,λb hb=>⟨(ok.pat _ (zdb hb).1).1,(ok.pat _ (zdb hb).1).2.1⟩,
  λb hb=>⟨by have:=(zdb hb).2.1;lia,λr hr=>(zdb hb).2.2 r hr⟩,λns nn hns=>ziO nn λx hx=>by
   obtain⟨b,hb,hxb⟩:=hns x hx;exact⟨b.1,(zdb hb).1,hxb⟩,by lia,by lia⟩
theorem zpP {total:Int}{cells:List Int}{names order:List Str}(hn:Names (shpS total) names)(hp:order.Perm names):zpg (zcl total cells) order:=by
 refine⟨hp.nodup_iff.mpr hn.nd,λx=>hp.mem_iff.trans ?_⟩;rw[<- zel total cells]at hn;exact hn.tab x
section
variable {P:Program}{w:World}{K:Xb}{mg:Str->Option Value}{base:Heap}
theorem ztB:zaw ["_law_script","_law_cells","_law_total","_law_shape_here","_law_rows_here","_law_every","_law_order_here","_law_some","_law_k"] ["_law_script"] (zac sLaw):=⟨rfl,rfl,rfl,by decide +kernel,rfl,by decide +kernel,by decide +kernel⟩
theorem ztC {f f1 f2 f3 f4 f5 f6 f7 f8 f9:Addr}{fd fd1 fd2 fd3 fd4 fd5 fd6 fd7 fd8 fd9:FuncData}(F:Fun K "law" "law" sLaw f fd) (Mix:Fx K mg "_law_mix" sMix ["_law_cell","_law_j"] f1 fd1) (GMix:FnOk P w K mg base CX0 6 f1 fd1 ["_law_cell","_law_j"] (spP K fMix)) (Shape:Fx K mg "_law_shape" zef ["_law_cell"] f2 fd2) (GShape:FnOk P w K mg base CX0 6 f2 fd2 ["_law_cell"] (spP K ziB)) (Rows:Fx K mg "_law_rows" zez ["_law_shape_here","_law_cells","_law_total"] f3 fd3) (GRows:FnOk P w K mg base CX0 6 f3 fd3 ["_law_shape_here","_law_cells","_law_total"] (spP K znK))
  (Answers:Fx K mg "answers" zbu ["shape","rows"] f4 fd4) (GAnswers:FnOk P w K mg base CX0 6 f4 fd4 ["shape","rows"] (spP K zcZ)) (Names:Fx K mg "_law_names" zcO ["_law_shape_here"] f5 fd5) (GNames:FnOk P w K mg base CX0 6 f5 fd5 ["_law_shape_here"] (spP K fNames)) (Order:Fx K mg "_law_order" zeg ["_law_shape_here","_law_cell"] f6 fd6) (GOrder:FnOk P w K mg base CX0 6 f6 fd6 ["_law_shape_here","_law_cell"] (spP K zkP))
  (Along:Fx K mg "_law_along" zcH ["_law_shape_here","_law_rows_here","_law_order_here","_law_every"] f7 fd7) (GAlong:FnOk P w K mg base CX0 6 f7 fd7 ["_law_shape_here","_law_rows_here","_law_order_here","_law_every"] (spP K zkQ)) (zdp:Fx K mg "levels" zci ["shape","rows","order"] f8 fd8) (GLevels:FnOk P w K mg base CX0 6 f8 fd8 ["shape","rows","order"] (spP K zeD)) (Cut:Fx K mg "_law_cut" sCut ["_law_shape_here","_law_rows_here","_law_order_here","_law_k"] f9 fd9) (GCut:FnOk P w K mg base CX0 6 f9 fd9 ["_law_shape_here","_law_rows_here","_law_order_here","_law_k"] (spP K fCut)) (B:Bl mg):FnOk P w K mg base CX0 7 f fd ["_law_script"] (spP K fLaw):=by
 refine zaH F ztB (λds Q q184q=>by obtain⟨c,e,_⟩:=q184q;rw[e];rfl) (λcdv A outer s H E hr=>?_);have hu:(A.deeper (envOfC "law" (zac sLaw) s.heap.objs.size f cdv)).units+16<cLine:=by have q:=hr.units;lia
 have nd:=ztB.nd;refine⟨_,(zae (zal (i:=1) nd rfl (Or.inl rfl) (zgS (zab 0) zgQ (zgR zai)))
   (zae (zal (i:=2) nd rfl (Or.inl rfl) (zsZ rfl rfl B.sum (zaa (zab 1) zad)))
   (zae (zal (i:=3) nd rfl (Or.inl rfl) (zak GShape zgA hr rfl Shape.mg Shape.fn.kp Shape.bd (zaa (zab 2) zad)))
   (zae (zaY 3 (zaY 1 (zal (i:=4) nd rfl (Or.inl rfl) (zak GRows ziI hr rfl Rows.mg Rows.fn.kp Rows.bd (zaa (zab 3) (zaa (zab 1) (zaa (zab 2) zad)))))))
   (zae (zaY 4 (zal (i:=5) nd rfl (Or.inl rfl) (zak GAnswers zeQ hr rfl Answers.mg Answers.fn.kp Answers.bd (zaa (zab 3) (zaa (zab 4) zad)))))
   (zae (zal (i:=6) nd rfl (Or.inl rfl) (zak GOrder zlu hr rfl Order.mg Order.fn.kp Order.bd (zaa (zab 3) (zaa (zab 2) zad))))
   (zae (zaY 6 (zaY 5 (zcz rfl PassesOwn.never (zas (zbm (zaa (zab 6) (zaa (zak GNames zeE hr rfl Names.mg Names.fn.kp Names.bd (zaa (zab 3) zad)) zad)))) (zaj (i:=7) nd rfl (Or.inl rfl)) (zah (zdU (zjd (zfu (zak GAlong zlv hr rfl Along.mg Along.fn.kp Along.bd (zaa (zab 3) (zaa (zab 4) (zaa (zab 7) (zaa (zab 5) zad))))))) (zah (zar ziZ)) zbT)))))
   (zae (zdU (zdV hu (zbm zad) (zab 4)) (zae (zal (i:=8) nd rfl (Or.inl rfl) (zbL zai (zbl (zak GMix zbh hr rfl Mix.mg Mix.fn.kp Mix.bd (zaa (zab 2) (zaa zai zad))) (zbr rfl B.len (zaa (zab 6) zad)))))
   (zah (zdU (zeL hu (zax (zak GLevels zfW hr rfl zdp.mg zdp.fn.kp zdp.bd (zaa (zab 3) (zaa (zab 4) (zaa (zab 6) zad)))) (zab 8)) (zak GCut zpj hr rfl Cut.mg Cut.fn.kp Cut.bd (zaa (zab 3) (zaa (zab 4) (zaa (zab 6) (zaa (zab 8) zad)))))) (zah (zar ziZ)) zbT))) zbT)
   (zah (zar (zsx (zqv hu (zab 3) (zak GShape zgA hr rfl Shape.mg Shape.fn.kp Shape.bd (zaa (zab 2) zad))) (zsw (zqv hu (zab 4) (zak GRows ziI hr rfl Rows.mg Rows.fn.kp Rows.bd (zaa (zab 3) (zaa (zab 1) (zaa (zab 2) zad))))))))))))))))),λds Q h=>?_⟩
 obtain⟨ns,rfl,h63,q⟩:=h;have hsz:=sizeLine_eq;walk_at "pu";have hcut:∃ms:List Int,cutP (ns.map PV.int) none (some 59)=ms.map PV.int/\ms.length<=63:=by
  refine⟨ns.take 59,by rw[show(59:Int)=((59:Nat):Int) from rfl,zfP,List.map_take],by rw[XH];lia⟩
 obtain⟨ms,hcut,hms⟩:=hcut;rw[hcut];walk_at "go";refine⟨ms,rfl,?_⟩;generalize hT:ms.sum=total;walk_at "go";have sok:=zdH total;have aok:=ztA (total:=total) hms;walk_at "go";refine⟨shpS total,rfl,ms,rfl,sok,hms,?_⟩;walk_at "go";refine⟨zcl total ms,(zfk total ms).symm,(zfl total ms).symm,⟨numS total,aok⟩,λnames L hn hP hL=>?_⟩;have hn':=hn;rw[zel]at hn';walk_at "go";refine⟨shpS total,rfl,zrq total,λnames2 hn2=>?_⟩;have en:=hn2.uniq hn';subst en;have hpo:=ziM total names2.length names2 rfl;change (ordN total names2).Perm names2 at hpo;generalize ordN total names2=order at hpo;walk_at "go";refine⟨shpS total,rfl,zrq total,λnames3 hn3=>?_⟩;have en3:=hn3.uniq hn';subst en3;obtain⟨Iv,hIv⟩:∃Iv:Nat->PEnv->Prop,∀i ρ,Iv i ρ↔∃k7:Option (PV×Bool),ρ=[some (PV.lst (XT PV.int ns),false),some (PV.lst (XT PV.int ms),false),
           some (PV.int total,false),some (shpV (shpS total),false),
           some (PV.lst (XT tblP (rwsS (shpS total) ms total)),false),
           some (PV.lst (XT rowI (sortI L)),false),some (PV.lst (XT PV.str order),false),k7,none]:=⟨_,λ_ _=>Iff.rfl⟩
 refine⟨by lia,Iv,(hIv _ _).mpr ⟨none,rfl⟩,?_,?_⟩
 ·intro i d ρ hd hI;obtain⟨k7,rfl⟩:=(hIv _ _).mp hI;obtain⟨o,ho,rfl⟩:∃o:List Str,o.Perm names3/\d=PV.lst (o.map PV.str):=by
   match i,hd with
   | 0,hd=>cases hd;exact⟨order,hpo,rfl⟩
   | 1,hd=>cases hd;exact⟨names3,.refl _,rfl⟩
   | i+2,hd=>simp at hd
  walk_at "go";refine⟨zcl total ms,(zfk total ms).symm,(zfl total ms).symm,o,rfl,names3,numS total,L,rfl,by rw[zel];exact zrq total,aok,zpP hn' ho,hn,hP,hL,?_⟩;walk_at "go";exact(hIv _ _).mpr ⟨_,rfl⟩
 ·intro ρ hI;obtain⟨k7,rfl⟩:=(hIv _ _).mp hI;have fin:∀k8:Option (PV×Bool),Hold (pRet
               (zdc (t2 (pEq false) (pVar 3) (zbn ziB (zby (pVar 2) pNil)))
                (t2 (pEq false) (pVar 4)
                 (zbn znK (zby (pVar 3) (zby (pVar 1) (zby (pVar 2) pNil)))))))
             {nx:=λx=>Q PV.non Kd.frz,rt:=Q,bk:=λx=>False,ct:=λx=>False } [some (PV.lst (XT PV.int ns),false),some (PV.lst (XT PV.int ms),false),
           some (PV.int total,false),some (shpV (shpS total),false),
           some (PV.lst (XT tblP (rwsS (shpS total) ms total)),false),
           some (PV.lst (XT rowI (sortI L)),false),some (PV.lst (XT PV.str order),false),k7,k8]:=by
   intro k8;walk_at "go";refine⟨ziN 3 _,ziN 3 _,shpS total,rfl,ms,rfl,sok,hms,zeF 2 _,zeF 2 _,?_⟩;rw[decide_eq_true rfl];exact q
  walk_at "go";refine⟨XU _,zeF 3 _,ite2 (λe=>?_) (λe=>?_)⟩
  ·have hne:∀b∈zcl total ms,b.2≠[]/\b.1.Nodup:=λb hb=>⟨λz=>e (Xt.mpr ⟨b.2,by rw[<- zkT];exact Xt.mpr ⟨b,hb,rfl⟩,by rw[z];rfl⟩),(sok.pat _ (zdb hb).1).2.2.1⟩;have hon:0<order.length:=by
    have:=aok.ne hn;rw[hpo.length_eq];exact List.length_pos_iff.mpr this
   have oo:zpg (zcl total ms) order:=zpP hn' hpo;have h6:=aok.six order oo.nd λx hx=>(oo.mem x).mp hx;have m1:=zch total 45;have b1:=Yn (mix total 45) (show(order.length:Int)≠0 by lia);have b2:=Yw (mix total 45) (show(0:Int)<(order.length:Int) by lia);walk_at "go";rw[Xc];obtain⟨kk,hkk⟩:∃kk:Nat,1+mix total 45 % (order.length:Int)=(kk:Int):=⟨(1+mix total 45 % (order.length:Int)).toNat,by lia⟩;rw[hkk];refine⟨by decide,by decide,by lia,?_⟩;walk_at "go";refine⟨zcl total ms,(zfk total ms).symm,(zfl total ms).symm,order,rfl,⟨numS total,aok.tabs oo.nd λx hx=>(oo.mem x).mp hx⟩,λks hks=>?_⟩;have hkl:=hks.len;have hkt:kk<ks.length:=by lia
   obtain⟨M2,hM2,e2⟩:=hks.at_ kk _ (Xa hkt);refine⟨PV.int (M2.length:Int),zaR (by rw[Xd,Xa hkt,<- e2];rfl),zcl total ms,(zfk total ms).symm,(zfl total ms).symm,order,rfl,kk,rfl,⟨_,aok⟩,oo,by lia,by lia,hne,λL1 hL1=>⟨rfl,?_⟩⟩;rw[if_neg (λz=>z (by rw[(hM2.perm hL1).length_eq]))];walk_at "go";exact fin _
  ·walk_at "go";exact fin _
end
theorem zpm:∀ns:List Int,ns.length<=63->fLaw [.lst (ns.map PV.int)] λd k=>d=.bl true:=λns h=>⟨ns,rfl,h,rfl⟩
theorem len1 {us:List Value}{s0:Str}(h:us.length=[s0].length):∃a0,us=[a0]:=by obtain⟨a0,us,rfl⟩:=XL h;have h:=Nat.succ.inj h;rw[XI.mp h];exact⟨a0,rfl⟩
theorem len2 {us:List Value}{s0 s1:Str}(h:us.length=[s0,s1].length):∃a0 a1,us=[a0,a1]:=by obtain⟨a0,us,rfl⟩:=XL h;have h:=Nat.succ.inj h;obtain⟨a1,us,rfl⟩:=XL h;have h:=Nat.succ.inj h;rw[XI.mp h];exact⟨a0,a1,rfl⟩
theorem len3 {us:List Value}{s0 s1 s2:Str}(h:us.length=[s0,s1,s2].length):∃a0 a1 a2,us=[a0,a1,a2]:=by obtain⟨a0,us,rfl⟩:=XL h;have h:=Nat.succ.inj h;obtain⟨a1,us,rfl⟩:=XL h;have h:=Nat.succ.inj h;obtain⟨a2,us,rfl⟩:=XL h;have h:=Nat.succ.inj h;rw[XI.mp h];exact⟨a0,a1,a2,rfl⟩
theorem len4 {us:List Value}{s0 s1 s2 s3:Str}(h:us.length=[s0,s1,s2,s3].length):∃a0 a1 a2 a3,us=[a0,a1,a2,a3]:=by obtain⟨a0,us,rfl⟩:=XL h;have h:=Nat.succ.inj h;obtain⟨a1,us,rfl⟩:=XL h;have h:=Nat.succ.inj h;obtain⟨a2,us,rfl⟩:=XL h;have h:=Nat.succ.inj h;obtain⟨a3,us,rfl⟩:=XL h;have h:=Nat.succ.inj h;rw[XI.mp h];exact⟨a0,a1,a2,a3,rfl⟩
theorem all_mk {l:PySem.W.OpenLaw}{w:World}{K:Xb}{h:Heap}{mg:Str->Option Value}{fa f0 f1 f2 f3 f4 f5 f6 f7 f8 f9 f10 f11 f12 f13 f14 f15 f16 f17 f18 f19 f20:Addr}(X:K.In h)(G:h.Ns mainGlobals mg)(hfa:mg "law" = some (.ref fa))
  {od0 an0 od1 an1 od2 an2 od3 an3 od4 an4 od5 an5 od6 an6 od7 an7 od8 an8 od9 an9 od10 an10 od11 an11 od12 an12 od13 an13 od14 an14 od15 an15 od16 an16 od17 an17 od18 an18 od19 an19 od20 an20:Option Addr} {sl0 sl1 sl2 sl3 sl4 sl5 sl6 sl7 sl8 sl9 sl10 sl11 sl12 sl13 sl14 sl15 sl16 sl17 sl18 sl19 sl20:Array (Option Value)} {oc0 kV0 dc0 pm0 cd0 ct0 oc1 kV1 dc1 pm1 cd1 ct1 oc2 kV2 dc2 pm2 cd2 ct2 oc3 kV3 dc3 pm3 cd3 ct3 oc4 kV4 dc4 pm4 cd4 ct4 oc5 kV5 dc5 pm5 cd5 ct5 oc6 kV6 dc6 pm6 cd6 ct6 oc7 kV7 dc7 pm7 cd7 ct7 oc8 kV8 dc8 pm8 cd8 ct8 oc9 kV9 dc9 pm9 cd9 ct9 oc10 kV10 dc10 pm10 cd10 ct10 oc11 kV11 dc11 pm11 cd11 ct11 oc12 kV12 dc12 pm12 cd12 ct12 oc13 kV13 dc13 pm13 cd13 ct13 oc14 kV14 dc14 pm14 cd14 ct14 oc15 kV15 dc15 pm15 cd15 ct15 oc16 kV16 dc16 pm16 cd16 ct16 oc17 kV17 dc17 pm17 cd17 ct17 oc18 kV18 dc18 pm18 cd18 ct18 oc19 kV19 dc19 pm19 cd19 ct19 oc20 kV20 dc20 pm20 cd20 ct20:Value}
  (a0:XF K mainGlobals "cells_of" = some (some (.ref f0))) (l0:K.lookup f0=some ⟨oc0,od0,.func (XY "cells_of" "cells_of" (zat zaL) (zap zaL) (zac zaL) .none kV0 dc0 pm0 an0 cd0 ct0),sl0⟩) (c0:XW K cd0 "cells_of" = true) (k0:XS K (.ref f0)=true)
  (a1:XF K mainGlobals "guide_of" = some (some (.ref f1))) (l1:K.lookup f1=some ⟨oc1,od1,.func (XY "guide_of" "guide_of" (zat zaW) (zap zaW) (zac zaW) .none kV1 dc1 pm1 an1 cd1 ct1),sl1⟩) (c1:XW K cd1 "guide_of" = true) (k1:XS K (.ref f1)=true)
  (a2:XF K mainGlobals "longer" = some (some (.ref f2))) (l2:K.lookup f2=some ⟨oc2,od2,.func (XY "longer" "longer" (zat zbt) (zap zbt) (zac zbt) .none kV2 dc2 pm2 an2 cd2 ct2),sl2⟩) (c2:XW K cd2 "longer" = true) (k2:XS K (.ref f2)=true)
  (a3:XF K mainGlobals "guides_to" = some (some (.ref f3))) (l3:K.lookup f3=some ⟨oc3,od3,.func (XY "guides_to" "guides_to" (zat zaO) (zap zaO) (zac zaO) .none kV3 dc3 pm3 an3 cd3 ct3),sl3⟩) (c3:XW K cd3 "guides_to" = true) (k3:XS K (.ref f3)=true)
  (a4:XF K mainGlobals "parts_along" = some (some (.ref f4))) (l4:K.lookup f4=some ⟨oc4,od4,.func (XY "parts_along" "parts_along" (zat zaB) (zap zaB) (zac zaB) .none kV4 dc4 pm4 an4 cd4 ct4),sl4⟩) (c4:XW K cd4 "parts_along" = true) (k4:XS K (.ref f4)=true)
  (a5:XF K mainGlobals "levels" = some (some (.ref f5))) (l5:K.lookup f5=some ⟨oc5,od5,.func (XY "levels" "levels" (zat zci) (zap zci) (zac zci) .none kV5 dc5 pm5 an5 cd5 ct5),sl5⟩) (c5:XW K cd5 "levels" = true) (k5:XS K (.ref f5)=true)
  (a6:XF K mainGlobals "by_letters" = some (some (.ref f6))) (l6:K.lookup f6=some ⟨oc6,od6,.func (XY "by_letters" "by_letters" (zat zbc) (zap zbc) (zac zbc) .none kV6 dc6 pm6 an6 cd6 ct6),sl6⟩) (c6:XW K cd6 "by_letters" = true) (k6:XS K (.ref f6)=true)
  (a7:XF K mainGlobals "letters_of" = some (some (.ref f7))) (l7:K.lookup f7=some ⟨oc7,od7,.func (XY "letters_of" "letters_of" (zat zaQ) (zap zaQ) (zac zaQ) .none kV7 dc7 pm7 an7 cd7 ct7),sl7⟩) (c7:XW K cd7 "letters_of" = true) (k7:XS K (.ref f7)=true)
  (a8:XF K mainGlobals "patterns_with" = some (some (.ref f8))) (l8:K.lookup f8=some ⟨oc8,od8,.func (XY "patterns_with" "patterns_with" (zat zao) (zap zao) (zac zao) .none kV8 dc8 pm8 an8 cd8 ct8),sl8⟩) (c8:XW K cd8 "patterns_with" = true) (k8:XS K (.ref f8)=true)
  (a9:XF K mainGlobals "shared_first" = some (some (.ref f9))) (l9:K.lookup f9=some ⟨oc9,od9,.func (XY "shared_first" "shared_first" (zat zav) (zap zav) (zac zav) .none kV9 dc9 pm9 an9 cd9 ct9),sl9⟩) (c9:XW K cd9 "shared_first" = true) (k9:XS K (.ref f9)=true)
  (a10:XF K mainGlobals "answers" = some (some (.ref f10))) (l10:K.lookup f10=some ⟨oc10,od10,.func (XY "answers" "answers" (zat zbu) (zap zbu) (zac zbu) .none kV10 dc10 pm10 an10 cd10 ct10),sl10⟩) (c10:XW K cd10 "answers" = true) (k10:XS K (.ref f10)=true)
  (a11:XF K mainGlobals "_law_mix" = some (some (.ref f11))) (l11:K.lookup f11=some ⟨oc11,od11,.func (XY "_law_mix" "_law_mix" (zat sMix) (zap sMix) (zac sMix) .none kV11 dc11 pm11 an11 cd11 ct11),sl11⟩) (c11:XW K cd11 "_law_mix" = true) (k11:XS K (.ref f11)=true)
  (a12:XF K mainGlobals "_law_letters" = some (some (.ref f12))) (l12:K.lookup f12=some ⟨oc12,od12,.func (XY "_law_letters" "_law_letters" (zat zbC) (zap zbC) (zac zbC) .none kV12 dc12 pm12 an12 cd12 ct12),sl12⟩) (c12:XW K cd12 "_law_letters" = true) (k12:XS K (.ref f12)=true)
  (a13:XF K mainGlobals "_law_shape" = some (some (.ref f13))) (l13:K.lookup f13=some ⟨oc13,od13,.func (XY "_law_shape" "_law_shape" (zat zef) (zap zef) (zac zef) .none kV13 dc13 pm13 an13 cd13 ct13),sl13⟩) (c13:XW K cd13 "_law_shape" = true) (k13:XS K (.ref f13)=true)
  (a14:XF K mainGlobals "_law_numbers" = some (some (.ref f14))) (l14:K.lookup f14=some ⟨oc14,od14,.func (XY "_law_numbers" "_law_numbers" (zat zbV) (zap zbV) (zac zbV) .none kV14 dc14 pm14 an14 cd14 ct14),sl14⟩) (c14:XW K cd14 "_law_numbers" = true) (k14:XS K (.ref f14)=true)
  (a15:XF K mainGlobals "_law_rows" = some (some (.ref f15))) (l15:K.lookup f15=some ⟨oc15,od15,.func (XY "_law_rows" "_law_rows" (zat zez) (zap zez) (zac zez) .none kV15 dc15 pm15 an15 cd15 ct15),sl15⟩) (c15:XW K cd15 "_law_rows" = true) (k15:XS K (.ref f15)=true)
  (a16:XF K mainGlobals "_law_names" = some (some (.ref f16))) (l16:K.lookup f16=some ⟨oc16,od16,.func (XY "_law_names" "_law_names" (zat zcO) (zap zcO) (zac zcO) .none kV16 dc16 pm16 an16 cd16 ct16),sl16⟩) (c16:XW K cd16 "_law_names" = true) (k16:XS K (.ref f16)=true)
  (a17:XF K mainGlobals "_law_order" = some (some (.ref f17))) (l17:K.lookup f17=some ⟨oc17,od17,.func (XY "_law_order" "_law_order" (zat zeg) (zap zeg) (zac zeg) .none kV17 dc17 pm17 an17 cd17 ct17),sl17⟩) (c17:XW K cd17 "_law_order" = true) (k17:XS K (.ref f17)=true)
  (a18:XF K mainGlobals "_law_along" = some (some (.ref f18))) (l18:K.lookup f18=some ⟨oc18,od18,.func (XY "_law_along" "_law_along" (zat zcH) (zap zcH) (zac zcH) .none kV18 dc18 pm18 an18 cd18 ct18),sl18⟩) (c18:XW K cd18 "_law_along" = true) (k18:XS K (.ref f18)=true)
  (a19:XF K mainGlobals "_law_cut" = some (some (.ref f19))) (l19:K.lookup f19=some ⟨oc19,od19,.func (XY "_law_cut" "_law_cut" (zat sCut) (zap sCut) (zac sCut) .none kV19 dc19 pm19 an19 cd19 ct19),sl19⟩) (c19:XW K cd19 "_law_cut" = true) (k19:XS K (.ref f19)=true)
  (a20:XF K mainGlobals "law" = some (some (.ref f20))) (l20:K.lookup f20=some ⟨oc20,od20,.func (XY "law" "law" (zat sLaw) (zap sLaw) (zac sLaw) .none kV20 dc20 pm20 an20 cd20 ct20),sl20⟩) (c20:XW K cd20 "law" = true) (k20:XS K (.ref f20)=true)
  (z0:XF K mainGlobals "range" = some none)
  (z1:XF K mainGlobals "len" = some none)
  (z2:XF K mainGlobals "list" = some none)
  (z3:XF K mainGlobals "tuple" = some none)
  (z4:XF K mainGlobals "sorted" = some none)
  (z5:XF K mainGlobals "set" = some none)
  (z6:XF K mainGlobals "isinstance" = some none)
  (z7:XF K mainGlobals "str" = some none)
  (z8:XF K mainGlobals "int" = some none)
  (z9:XF K mainGlobals "bool" = some none)
  (z10:XF K mainGlobals "dict" = some none)
  (z11:XF K mainGlobals "enumerate" = some none)
  (z12:XF K mainGlobals "zip" = some none)
  (z13:XF K mainGlobals "min" = some none)
  (z14:XF K mainGlobals "max" = some none)
  (z15:XF K mainGlobals "sum" = some none)
  (z16:XF K mainGlobals "all" = some none)
  (z17:XF K mainGlobals "any" = some none)
  (z18:XF K mainGlobals "reversed" = some none)
  (z19:XF K mainGlobals "abs" = some none)
  (z20:XF K mainGlobals "ord" = some none) :
  ∃fd:FuncData,(∀(s:Shared) (v:Value),BindsTo s fd ⟨[v],[]⟩ [("_law_script",v)])/\∀base:Heap,K.In base->base.Ns mainGlobals mg->FnOk l.prog w K mg base CX0 7 fa fd ["_law_script"] (spP K fLaw):=by
 have e:=hfa.symm.trans (Yk X G a20);cases e;have F0:=zbd (st:=zaL) l0 c0 k0;have X0:Fx K mg "cells_of" zaL ["row","letters","wanted"] f0 _:=⟨F0,F0.binds (ps:=["row","letters","wanted"]) λ_ _ _ _ _ _ us hl=>by obtain⟨_,_,_,rfl⟩:=len3 hl;rfl,Yk X G a0⟩;have F1:=zbd (st:=zaW) l1 c1 k1;have X1:Fx K mg "guide_of" zaW ["letters","rows","earlier","letter"] f1 _:=⟨F1,F1.binds (ps:=["letters","rows","earlier","letter"]) λ_ _ _ _ _ _ us hl=>by obtain⟨_,_,_,_,rfl⟩:=len4 hl;rfl,Yk X G a1⟩;have F2:=zbd (st:=zbt) l2 c2 k2;have X2:Fx K mg "longer" zbt ["parts","earlier","guides"] f2 _:=⟨F2,F2.binds (ps:=["parts","earlier","guides"]) λ_ _ _ _ _ _ us hl=>by obtain⟨_,_,_,rfl⟩:=len3 hl;rfl,Yk X G a2⟩;have F3:=zbd (st:=zaO) l3 c3 k3;have X3:Fx K mg "guides_to" zaO ["shape","rows","earlier","letter"] f3 _:=⟨F3,F3.binds (ps:=["shape","rows","earlier","letter"]) λ_ _ _ _ _ _ us hl=>by obtain⟨_,_,_,_,rfl⟩:=len4 hl;rfl,Yk X G a3⟩;have F4:=zbd (st:=zaB) l4 c4 k4;have X4:Fx K mg "parts_along" zaB ["shape","rows","order"] f4 _:=⟨F4,F4.binds (ps:=["shape","rows","order"]) λ_ _ _ _ _ _ us hl=>by obtain⟨_,_,_,rfl⟩:=len3 hl;rfl,Yk X G a4⟩;have F5:=zbd (st:=zci) l5 c5 k5;have X5:Fx K mg "levels" zci ["shape","rows","order"] f5 _:=⟨F5,F5.binds (ps:=["shape","rows","order"]) λ_ _ _ _ _ _ us hl=>by obtain⟨_,_,_,rfl⟩:=len3 hl;rfl,Yk X G a5⟩;have F6:=zbd (st:=zbc) l6 c6 k6;have X6:Fx K mg "by_letters" zbc ["shape","rows","order"] f6 _:=⟨F6,F6.binds (ps:=["shape","rows","order"]) λ_ _ _ _ _ _ us hl=>by obtain⟨_,_,_,rfl⟩:=len3 hl;rfl,Yk X G a6⟩;have F7:=zbd (st:=zaQ) l7 c7 k7;have X7:Fx K mg "letters_of" zaQ ["shape"] f7 _:=⟨F7,F7.binds (ps:=["shape"]) λ_ _ _ _ _ _ us hl=>by obtain⟨_,rfl⟩:=len1 hl;rfl,Yk X G a7⟩;have F8:=zbd (st:=zao) l8 c8 k8;have X8:Fx K mg "patterns_with" zao ["shape","letter"] f8 _:=⟨F8,F8.binds (ps:=["shape","letter"]) λ_ _ _ _ _ _ us hl=>by obtain⟨_,_,rfl⟩:=len2 hl;rfl,Yk X G a8⟩;have F9:=zbd (st:=zav) l9 c9 k9;have X9:Fx K mg "shared_first" zav ["shape"] f9 _:=⟨F9,F9.binds (ps:=["shape"]) λ_ _ _ _ _ _ us hl=>by obtain⟨_,rfl⟩:=len1 hl;rfl,Yk X G a9⟩;have F10:=zbd (st:=zbu) l10 c10 k10;have X10:Fx K mg "answers" zbu ["shape","rows"] f10 _:=⟨F10,F10.binds (ps:=["shape","rows"]) λ_ _ _ _ _ _ us hl=>by obtain⟨_,_,rfl⟩:=len2 hl;rfl,Yk X G a10⟩;have F11:=zbd (st:=sMix) l11 c11 k11;have X11:Fx K mg "_law_mix" sMix ["_law_cell","_law_j"] f11 _:=⟨F11,F11.binds (ps:=["_law_cell","_law_j"]) λ_ _ _ _ _ _ us hl=>by obtain⟨_,_,rfl⟩:=len2 hl;rfl,Yk X G a11⟩;have F12:=zbd (st:=zbC) l12 c12 k12;have X12:Fx K mg "_law_letters" zbC ["_law_cell"] f12 _:=⟨F12,F12.binds (ps:=["_law_cell"]) λ_ _ _ _ _ _ us hl=>by obtain⟨_,rfl⟩:=len1 hl;rfl,Yk X G a12⟩;have F13:=zbd (st:=zef) l13 c13 k13;have X13:Fx K mg "_law_shape" zef ["_law_cell"] f13 _:=⟨F13,F13.binds (ps:=["_law_cell"]) λ_ _ _ _ _ _ us hl=>by obtain⟨_,rfl⟩:=len1 hl;rfl,Yk X G a13⟩;have F14:=zbd (st:=zbV) l14 c14 k14;have X14:Fx K mg "_law_numbers" zbV ["_law_cell"] f14 _:=⟨F14,F14.binds (ps:=["_law_cell"]) λ_ _ _ _ _ _ us hl=>by obtain⟨_,rfl⟩:=len1 hl;rfl,Yk X G a14⟩;have F15:=zbd (st:=zez) l15 c15 k15;have X15:Fx K mg "_law_rows" zez ["_law_shape_here","_law_cells","_law_total"] f15 _:=⟨F15,F15.binds (ps:=["_law_shape_here","_law_cells","_law_total"]) λ_ _ _ _ _ _ us hl=>by obtain⟨_,_,_,rfl⟩:=len3 hl;rfl,Yk X G a15⟩;have F16:=zbd (st:=zcO) l16 c16 k16;have X16:Fx K mg "_law_names" zcO ["_law_shape_here"] f16 _:=⟨F16,F16.binds (ps:=["_law_shape_here"]) λ_ _ _ _ _ _ us hl=>by obtain⟨_,rfl⟩:=len1 hl;rfl,Yk X G a16⟩;have F17:=zbd (st:=zeg) l17 c17 k17;have X17:Fx K mg "_law_order" zeg ["_law_shape_here","_law_cell"] f17 _:=⟨F17,F17.binds (ps:=["_law_shape_here","_law_cell"]) λ_ _ _ _ _ _ us hl=>by obtain⟨_,_,rfl⟩:=len2 hl;rfl,Yk X G a17⟩;have F18:=zbd (st:=zcH) l18 c18 k18;have X18:Fx K mg "_law_along" zcH ["_law_shape_here","_law_rows_here","_law_order_here","_law_every"] f18 _:=⟨F18,F18.binds (ps:=["_law_shape_here","_law_rows_here","_law_order_here","_law_every"]) λ_ _ _ _ _ _ us hl=>by obtain⟨_,_,_,_,rfl⟩:=len4 hl;rfl,Yk X G a18⟩;have F19:=zbd (st:=sCut) l19 c19 k19;have X19:Fx K mg "_law_cut" sCut ["_law_shape_here","_law_rows_here","_law_order_here","_law_k"] f19 _:=⟨F19,F19.binds (ps:=["_law_shape_here","_law_rows_here","_law_order_here","_law_k"]) λ_ _ _ _ _ _ us hl=>by obtain⟨_,_,_,_,rfl⟩:=len4 hl;rfl,Yk X G a19⟩;have F20:=zbd (st:=sLaw) l20 c20 k20;have B:Bl mg:=⟨XO X G z0,XO X G z1,XO X G z2,XO X G z3,XO X G z4,XO X G z5,XO X G z6,XO X G z7,XO X G z8,XO X G z9,XO X G z10,XO X G z11,XO X G z12,XO X G z13,XO X G z14,XO X G z15,XO X G z16,XO X G z17,XO X G z18,XO X G z19,XO X G z20⟩;exact⟨XY "law" "law" (zat sLaw) (zap sLaw) (zac sLaw) .none kV20 dc20 pm20 an20 cd20 ct20,λs v=>.of_eq rfl,λbase _ _=>ztC F20 X11 ((zgz X11.fn).mono (by decide)) X13 ((zpb X13.fn X11 X12 B).mono (by decide)) X15 ((zrl X15.fn X11 X14 B).mono (by decide)) X10 ((zgB X10.fn X0 X1 X2 X3 X4 X7 X8 X9 B).mono (by decide)) X16 ((zhn X16.fn B).mono (by decide)) X17 ((zpf X17.fn X11 X16 B).mono (by decide)) X18 (zph X18.fn X16 X6 (ziK X6.fn X0 X1 X2 X3 X4 B) X5 (ziL X5.fn X0 X1 X2 X3 X4 B) B) X5 ((ziL X5.fn X0 X1 X2 X3 X4 B).mono (by decide)) X19 (ztz X19.fn X10 (zgB X10.fn X0 X1 X2 X3 X4 X7 X8 X9 B) B) B⟩
end _Q
open PySem PySem.W
set_option maxRecDepth 100000 in
set_option maxHeartbeats 0 in
theorem PySem.Challenge.cw_joinwood_k52_whole_by_letters_holds : PySem.Challenge.rw_joinwood_k52_whole_by_letters.Holds := by
 w_on;o_law;k_head;(case hw=>w_witness2)
 k_fill
 refine _P.zub (l:=PySem.Challenge.rw_joinwood_k52_whole_by_letters) (k:=7) (FL:=_Q.fLaw) (x:="_law_script") rfl rfl ⟨rfl,by decide,by decide⟩ _Q.zpk (fun w h Y=>PySem.W.kIn_of Y) ?F _Q.zpm
 case F=>
  intro w mg fa h KX G hmg
  refine' _Q.all_mk KX G hmg ?a0 ?l0 ?c0 ?k0 ?a1 ?l1 ?c1 ?k1 ?a2 ?l2 ?c2 ?k2 ?a3 ?l3 ?c3 ?k3 ?a4 ?l4 ?c4 ?k4 ?a5 ?l5 ?c5 ?k5 ?a6 ?l6 ?c6 ?k6 ?a7 ?l7 ?c7 ?k7 ?a8 ?l8 ?c8 ?k8 ?a9 ?l9 ?c9 ?k9 ?a10 ?l10 ?c10 ?k10 ?a11 ?l11 ?c11 ?k11 ?a12 ?l12 ?c12 ?k12 ?a13 ?l13 ?c13 ?k13 ?a14 ?l14 ?c14 ?k14 ?a15 ?l15 ?c15 ?k15 ?a16 ?l16 ?c16 ?k16 ?a17 ?l17 ?c17 ?k17 ?a18 ?l18 ?c18 ?k18 ?a19 ?l19 ?c19 ?k19 ?a20 ?l20 ?c20 ?k20 ?z0 ?z1 ?z2 ?z3 ?z4 ?z5 ?z6 ?z7 ?z8 ?z9 ?z10 ?z11 ?z12 ?z13 ?z14 ?z15 ?z16 ?z17 ?z18 ?z19 ?z20
  (case a0=>k_is)
  (case l0=>k_is)
  (case c0=>k_is)
  (case k0=>k_is)
  (case a1=>k_is)
  (case l1=>k_is)
  (case c1=>k_is)
  (case k1=>k_is)
  (case a2=>k_is)
  (case l2=>k_is)
  (case c2=>k_is)
  (case k2=>k_is)
  (case a3=>k_is)
  (case l3=>k_is)
  (case c3=>k_is)
  (case k3=>k_is)
  (case a4=>k_is)
  (case l4=>k_is)
  (case c4=>k_is)
  (case k4=>k_is)
  (case a5=>k_is)
  (case l5=>k_is)
  (case c5=>k_is)
  (case k5=>k_is)
  (case a6=>k_is)
  (case l6=>k_is)
  (case c6=>k_is)
  (case k6=>k_is)
  (case a7=>k_is)
  (case l7=>k_is)
  (case c7=>k_is)
  (case k7=>k_is)
  (case a8=>k_is)
  (case l8=>k_is)
  (case c8=>k_is)
  (case k8=>k_is)
  (case a9=>k_is)
  (case l9=>k_is)
  (case c9=>k_is)
  (case k9=>k_is)
  (case a10=>k_is)
  (case l10=>k_is)
  (case c10=>k_is)
  (case k10=>k_is)
  (case a11=>k_is)
  (case l11=>k_is)
  (case c11=>k_is)
  (case k11=>k_is)
  (case a12=>k_is)
  (case l12=>k_is)
  (case c12=>k_is)
  (case k12=>k_is)
  (case a13=>k_is)
  (case l13=>k_is)
  (case c13=>k_is)
  (case k13=>k_is)
  (case a14=>k_is)
  (case l14=>k_is)
  (case c14=>k_is)
  (case k14=>k_is)
  (case a15=>k_is)
  (case l15=>k_is)
  (case c15=>k_is)
  (case k15=>k_is)
  (case a16=>k_is)
  (case l16=>k_is)
  (case c16=>k_is)
  (case k16=>k_is)
  (case a17=>k_is)
  (case l17=>k_is)
  (case c17=>k_is)
  (case k17=>k_is)
  (case a18=>k_is)
  (case l18=>k_is)
  (case c18=>k_is)
  (case k18=>k_is)
  (case a19=>k_is)
  (case l19=>k_is)
  (case c19=>k_is)
  (case k19=>k_is)
  (case a20=>k_is)
  (case l20=>k_is)
  (case c20=>k_is)
  (case k20=>k_is)
  (case z0=>k_is)
  (case z1=>k_is)
  (case z2=>k_is)
  (case z3=>k_is)
  (case z4=>k_is)
  (case z5=>k_is)
  (case z6=>k_is)
  (case z7=>k_is)
  (case z8=>k_is)
  (case z9=>k_is)
  (case z10=>k_is)
  (case z11=>k_is)
  (case z12=>k_is)
  (case z13=>k_is)
  (case z14=>k_is)
  (case z15=>k_is)
  (case z16=>k_is)
  (case z17=>k_is)
  (case z18=>k_is)
  (case z19=>k_is)
  (case z20=>k_is)
#print axioms PySem.Challenge.cw_joinwood_k52_whole_by_letters_holds
