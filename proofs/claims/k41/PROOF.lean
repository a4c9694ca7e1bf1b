import PyProof.Rows.All
import Wide.All
import OpenK.AllK
import Wide.FinOn
import Lean
import PyProof.EqAt
import PyProof.EqKinds
import PyProof.TupleCall
import PyProof.NeKinds
import PyProof.AttrMissHeap
import PyProof.EnumMake
import PyProof.DictUpdate
import KE.KDictOf
import KE.KDictList
import PyProof.MaxThree
import PyProof.ListStr
import PyProof.ConsumeWalk
import PyProof.SliceStr2
import PyProof.StrBlockI
import PyProof.EnumStmt
import PyProof.ZipIter
import KE.KRevIter
import PyProof.Rows.CallKwBuiltin
import PyProof.Rows.SeqMore
import PyProof.Rows.SortRuns
import PyProof.Rows.SortPure
import PyProof.Rows.SortShell
import PyProof.Dict
import PyProof.TupleOfStr
import PyProof.Rows.StrRules
import PyProof.ExcBaseAll.ValueError
import PyProof.ExcArgsOwn
import PyProof.ExcAttrAll.ValueError
import KE.KIsAll
import PyProof.StrWalks
import PyProof.StrBlockH
import PyProof.Rows.CountFlat
import KE.KIntText
import KE.IntTextLaws
import PyProof.CallStr
import PyProof.StrOps2
import KE.RegKIsAll
import PySem.Challenge.RW_joinwood_k41_weights
set_option Elab.async false
set_option linter.all false
set_option maxRecDepth 100000
set_option maxHeartbeats 4000000
open PySem.W renaming Frag->Xa,keepIn->Xq,nsIn->Xt,codeIn->Xu,fnOf->Xv,mg_none_of->Xy,findIn->XF,mg_of->XS,emptyDict->Ys,isFn->Yw,instObj->YF
open List renaming length_map->Xb,getElem?_set_ne->Xc,getElem?_eq_some_iff->Xd,getElem?_set_self->Xg,mem_cons_of_mem->Xh,size_toArray->Xj,getElem?_map->Xk,getElem?_eq_getElem->Xl,mem_cons_self->Xm,map_append->Xn,mem_cons->Xo,range->Xp,length_append->Xr,exists_cons_of_length_eq_add_one->Xw,length_range->Xz,getElem?_eq_none->XA,mem_singleton->XB,set_eq_of_length_le->XC,mem_append_right->XG,mem_of_getElem?->XI,map_cons->XJ,getD_eq_getElem?_getD->XL,length_cons->XM,take_of_length_le->XQ,mem_append->XT,map->XV,mem_map->XW,length_take->XX,all_eq_true->XY,length_set->XZ,range_succ->Yc,length_eq_zero_iff->Ye,nodup_cons->Yg,lookup_cons->Yh,getElem?_range->Yi,mem_range->Yl,mem_append_left->Ym,getElem_mem->Yq,length_singleton->Yt,zip_cons_cons->Yx,getElem?_append_right->YA,getElem?_append_left->YD,length_nil->YG,map_congr_left->YH,cons_append->YJ,length_replicate->YL,map_map->YN
open PySem.Heap renaming get?_push_of_some->Xe,lt_size->Xs,get?_push_size->Xx,get?_update_self->Yb,SameBut->Yj,size_push->Yz,get?_update_other->YB
open Nat renaming le_refl->Xf,ne_of_lt->XD,lt_of_lt_of_le->XE,lt_succ_self->XO,lt_succ_of_lt->XR,zero_le->Yf,lt_irrefl->Yo,le_trans->Yu,le_of_lt->Yv
open Bool renaming false_ne_true->Xi,false_eq_true->XU,and_eq_true->Yp
open Int renaming toNat_natCast->XH,mul_zero->Yd,mul_comm->Yk,emod_lt_of_pos->Yn,mul_nonpos_of_nonpos_of_nonneg->Yy,emod_nonneg->YC,mul_le_mul_of_nonneg_right->YE,le_of_lt->YI,le_of_mul_le_mul_left->YM,zero_mul->YO
open PySem.SetTable renaming below->Ya,grown->YK
open Array renaming length_toList->Yr
theorem aU0x (h:True:=by rfl):True:=h
abbrev aU0:Lean.Syntax:=aU0x._auto_1
theorem aU1x (h:True:=by decide):True:=h
abbrev aU1:Lean.Syntax:=aU1x._auto_1
theorem aU2x (h:True:=by first | exact Or.inl rfl | exact Or.inr (Or.inl rfl) | exact Or.inr (Or.inr rfl)):True:=h
abbrev aU2:Lean.Syntax:=aU2x._auto_1
theorem aU3x (h:True:=by first | exact .inl rfl | exact .inr rfl | assumption):True:=h
abbrev aU3:Lean.Syntax:=aU3x._auto_1
theorem aU4x (h:True:=by first | exact zcE _ | rfl):True:=h
abbrev aU4:Lean.Syntax:=aU4x._auto_1
theorem aU5x (h:True:=by intro _;rfl):True:=h
abbrev aU5:Lean.Syntax:=aU5x._auto_1
theorem aU6x (h:True:=by exact λ_ _=>rfl):True:=h
abbrev aU6:Lean.Syntax:=aU6x._auto_1
namespace L2
open PySem PySem.Spec PyProof.Rows
noncomputable abbrev Key:=Sum Int Str
noncomputable def zjr:Key->Value->Bool
 | .inl k,v=>Value.isInt k v
 | .inr x,v=>Value.isStrOf x v
noncomputable def keyH (w:World):Key->Int
 | .inl k=>hashInt k
 | .inr x=>hashStr w x
theorem zaG:∀ {k:Key}{v:Value},zjr k v=true->(∃i t,k=Sum.inl i/\v=Value.int i t)\/(∃x t,k=Sum.inr x/\v=Value.str x t)
 | .inl i,v,h=>by
  obtain⟨t,e⟩:=Value.isInt_shape (k:=i) (v:=v) h;exact .inl ⟨i,t,rfl,e⟩
 | .inr x,v,h=>by
  obtain⟨t,e⟩:=Value.isStrOf_shape (x:=x) (v:=v) h;exact .inr ⟨x,t,rfl,e⟩
theorem zjX (i:Int)(t:Tok):zjr (.inl i) (.int i t)=true:=by simp[zjr,Value.isInt]
theorem zjY (x:Str)(t:Tok):zjr (.inr x) (.str x t)=true:=by simp[zjr,Value.isStrOf]
theorem zoW (a b:Int):decide ((Sum.inl a:Key)=Sum.inl b)=(a == b):=by
 by_cases e:a=b
 ·subst e;simp
 ·have h:¬ (Sum.inl a:Key)=Sum.inl b:=λq=>e (Sum.inl.inj q);rw[decide_eq_false h];exact(beq_eq_false_iff_ne.mpr e).symm
theorem zoX (a b:Str):decide ((Sum.inr a:Key)=Sum.inr b)=decide (a=b):=by
 by_cases e:a=b
 ·subst e;simp
 ·have h:¬ (Sum.inr a:Key)=Sum.inr b:=λq=>e (Sum.inr.inj q);rw[decide_eq_false h,decide_eq_false e]
theorem zoY (a:Int)(b:Str):decide ((Sum.inl a:Key)=Sum.inr b)=false:=decide_eq_false (λq=>nomatch q)
theorem zoZ (a:Str)(b:Int):decide ((Sum.inr a:Key)=Sum.inl b)=false:=decide_eq_false (λq=>nomatch q)
noncomputable def zbO (prog:Program)(w:World):PySem.KeyKind prog w Key where
 is:=zjr
 hash:=keyH w
 inj:=λv a b ha hb=>by
  rcases zaG ha with ⟨i,t,rfl,rfl⟩ | ⟨x,t,rfl,rfl⟩
  ·rcases zaG hb with ⟨j,u,rfl,e⟩ | ⟨y,u,rfl,e⟩
   ·injection e with e1 _;rw[e1]
   ·exact nomatch e
  ·rcases zaG hb with ⟨j,u,rfl,e⟩ | ⟨y,u,rfl,e⟩
   ·exact nomatch e
   ·injection e with e1 _;rw[e1]
 byValue:=λk v h=>by
  rcases zaG h with ⟨i,t,rfl,rfl⟩ | ⟨x,t,rfl,rfl⟩<;>rfl
 pyHash:=λhv h=>by
  rcases zaG hv with ⟨i,t,rfl,rfl⟩ | ⟨x,t,rfl,rfl⟩
  ·exact wpAny_pyHash_int h
  ·exact wpAny_pyHash_str h
 eqBool:=λhu hv h=>by
  rcases zaG hu with ⟨i,t,rfl,rfl⟩ | ⟨x,t,rfl,rfl⟩
  ·rcases zaG hv with ⟨j,u,rfl,rfl⟩ | ⟨y,u,rfl,rfl⟩
   ·rw[zoW]at h;exact wpAny_eqBool_int h
   ·rw[zoY]at h;exact SeqAt.EqAt.int_str i t y u _ _ _ _ h
  ·rcases zaG hv with ⟨j,u,rfl,rfl⟩ | ⟨y,u,rfl,rfl⟩
   ·rw[zoZ]at h;exact SeqAt.EqAt.str_int x t j u _ _ _ _ h
   ·rw[zoX]at h;exact wpAny_eqBool_str h
 «strs»:=λk x t v h=>by
  rcases zaG h with ⟨i,u,rfl,e⟩ | ⟨y,u,rfl,e⟩
  ·exact nomatch e
  ·injection e with e1 _;subst e1;cases v<;>rfl
theorem zhL (prog:Program)(w:World)(i:Int)(t:Tok):(zbO prog w).is (.inl i) (.int i t)=true:=zjX i t
theorem zhM (prog:Program)(w:World)(x:Str)(t:Tok):(zbO prog w).is (.inr x) (.str x t)=true:=zjY x t
inductive V where
 | non | bl (b:Bool) | int (i:Int) | str (x:Str) | byt (b:Array UInt8) | flt (b:UInt64) | ref (a:Addr) | ty (n:String)
 deriving DecidableEq
noncomputable def RelV:V->Value->Prop
 | .non,u=>u=Value.none
 | .bl b,u=>u=Value.bool b
 | .int i,u=>∃t,u=Value.int i t
 | .str x,u=>∃t,u=Value.str x t
 | .byt b,u=>∃t,u=Value.bytes b t
 | .flt b,u=>∃t,u=Value.float b t
 | .ref a,u=>u=Value.ref a
 | .ty n,u=>u=Value.type n
noncomputable abbrev Vals:List V->List Value->Prop:=Paired RelV
theorem Vals.length {xs:List V}{us:List Value}(r:Vals xs us):xs.length=us.length:=Paired.length r
theorem Vals.get:∀ {xs:List V}{us:List Value}{i:Nat}{x:V},Vals xs us->xs[i]? = some x->∃u,us[i]? = some u/\RelV x u
 | _,_,_,_,.nil,e=>by simp at e
 | _,_,0,_,.cons r _,e=>by simp at e;subst e;exact⟨_,rfl,r⟩
 | _,_,i+1,x,.cons _ t,e=>by
  obtain⟨u,h1,h2⟩:=Vals.get (i:=i) (x:=x) t (by simpa using e);exact⟨u,by simpa using h1,h2⟩
theorem Vals.set {x:V}{u:Value}(r:RelV x u):∀ {xs:List V}{us:List Value}(i:Nat),Vals xs us->Vals (xs.set i x) (us.set i u)
 | _,_,_,.nil=>.nil
 | _,_,0,.cons _ t=>.cons r t
 | _,_,i+1,.cons q t=>.cons q (Vals.set r i t)
theorem Vals.append:∀ {xs ys:List V}{us ws:List Value},Vals xs us->Vals ys ws->Vals (xs++ys) (us++ws):=by
 intro xs ys us ws h s;induction h with
 | nil=>exact s
 | cons r t ih=>exact .cons r ih
theorem Vals.take:∀ {xs:List V}{us:List Value}(n:Nat),Vals xs us->Vals (xs.take n) (us.take n)
 | _,_,0,_=>.nil
 | _,_,_+1,.nil=>.nil
 | _,_,n+1,.cons r t=>.cons r (Vals.take n t)
theorem Vals.drop:∀ {xs:List V}{us:List Value}(n:Nat),Vals xs us->Vals (xs.drop n) (us.drop n)
 | _,_,0,r=>r
 | _,_,_+1,.nil=>.nil
 | _,_,n+1,.cons _ t=>Vals.drop n t
noncomputable def RelO:Option V->Option Value->Prop
 | some v,some u=>RelV v u
 | none,none=>True
 | _,_=>False
noncomputable def KV {κ:Type}:List (κ×V)->List (κ×Value)->Prop:=Paired λ(p:κ×V)(q:κ×Value)=>p.1=q.1/\RelV p.2 q.2
noncomputable def kV:Key->V
 | .inl i=>.int i
 | .inr x=>.str x
inductive HO where
  | lst (xs:List V)
  | tup (xs:List V)
  | dK (kvs:List (Key×V)) | dT (kvs:List (List Key×V))
  | set (S:Int->Bool) (n:Nat)
  | ins (C dx:Addr) (fs:List (Str×V))
  | own (x:Addr)
  | xd (fs:List (Str×V))
  | met (f x:Addr)
  | rng (lo hi:Int)
  | frz (o:Obj) (u:HO)
  | tbl (ps:Array Value)
  | ext (φ:Heap->Prop)
noncomputable abbrev Hp:=Addr->Option HO
noncomputable def upd (H:Hp)(a:Addr)(o:HO):Hp:=λb=>if b=a then some o else H b
theorem zak {H:Hp}{a:Addr}{o:HO}:upd H a o a=some o:=by unfold upd;rw[if_pos rfl]
theorem zai {H:Hp}{a b:Addr}{o:HO}(h:b≠a):upd H a o b=H b:=by unfold upd;rw[if_neg h]
theorem zay {H:Hp}{a b:Addr}{o:HO}(h:H a=some o)(h':H b=none):a≠b:=by
 intro e;subst e;rw[h]at h';cases h'
noncomputable def zcH (h:Heap)(a:Addr)(its:Array Value):Prop:=∃o,h.get? a=some o/\o.cls=.type "tuple"/\(∃n,o.data=.seq its n)/\o.dict=none
theorem zcH.tup {h:Heap}{a:Addr}{its:Array Value}(p:zcH h a its):IsTup h a its:=by obtain⟨o,e,c,⟨n,d⟩,_⟩:=p;exact⟨o,e,c,n,d⟩
theorem zcH.lt {h:Heap}{a:Addr}{its:Array Value}(p:zcH h a its):a<h.objs.size:=p.tup.lt
theorem zcH.new (h:Heap)(items:Array Value):zcH (h.push { cls:=.type "tuple",data:=.seq items }) h.objs.size items:=⟨_,Xx _ rfl,rfl,⟨_,rfl⟩,rfl⟩
section
variable (P:Program)(w:World)
noncomputable def zca (H:Hp)(h:Heap)(a:Addr):HO->Prop
 | .lst xs=>xs.length<=sizeLine/\∃(its:List Value) (n:Nat),Vals xs its/\h.get? a=some { cls:=.type "list",data:=.seq its.toArray n }
 | .tup xs=>xs.length<=sizeLine/\∃its:List Value,Vals xs its/\zcH h a its.toArray
 | .dK kvs=>kvs.length<=sizeLine/\(a == sysModules)=false/\∃vs,KV kvs vs/\h.DictOf (zbO P w) a vs
 | .dT kvs=>kvs.length<=sizeLine/\(a == sysModules)=false/\∃xs:List (List Key×Addr×Value),
   Paired (λ(p:List Key×V) (q:List Key×Addr×Value)=>p.1=q.1/\H q.2.1=some (.tup (p.1.map kV))/\RelV p.2 q.2.2) kvs xs/\
   ∃o es ep,h.get? a=some o/\o.ExactDict/\o.data=.dict es ep/\es.toList=xs.map (entryOfKey (tupleKind (zbO P w)))/\(xs.map (·.1)).Nodup
 | .set S n=>h.SetOf (intKind P w) a S n
 | .ins C dx fs=>H dx=some (.own a)/\fs.length<=1000/\dx≠a/\h.get? a=some (YF C dx)/\
   ∃mA,h.Ns1 dx mA/\(∀f,RelO (fs.lookup f) (mA f))/\PySem.Within mA (fs.map (·.1))
 | .own _=>∃o,h.get? a=some o
 | .xd fs=>∃mA,h.Ns1 a mA/\∀f,RelO (fs.lookup f) (mA f)
 | .rng lo hi=>∃t u v,h.get? a=some { cls:=.type "range",data:=.fields #[.int lo t,.int hi u,.int 1 v] }
 | .frz o u=>h.get? a=some o/\zca H h a u
 | .tbl ps=>h.get? a=some { cls:=.none,data:=.fields ps }
 | .met f x=>h.get? a=some (PySem.W.methodObj (.ref f) (.ref x))
 | .ext φ=>φ h/\(∃o,h.get? a=some o)/\∀h1 h2:Heap,φ h1->(∀o,h1.get? a=some o->h2.get? a=some o)->φ h2
noncomputable def HOk (H:Hp)(h:Heap):Prop:=∀a o,H a=some o->zca P w H h a o
end
section
variable {P:Program}{w:World}{H H':Hp}{h h':Heap}{a:Addr}{o:HO}
theorem zca.lt (x:zca P w H h a o):a<h.objs.size:=by
 cases o with
 | lst xs=>obtain⟨_,_,_,_,e⟩:=x;exact Xs e
 | tup xs=>obtain⟨_,_,_,p⟩:=x;exact p.lt
 | dK kvs=>obtain⟨_,_,_,_,o,_,_,e,_⟩:=x;exact Xs e
 | dT kvs=>obtain⟨_,_,_,_,o,_,_,e,_⟩:=x;exact Xs e
 | set S n=>obtain⟨o,_,_,_,e,_⟩:=x;exact Xs e
 | ins C dx fs=>obtain⟨_,_,_,e,_⟩:=x;exact Xs e
 | own y=>obtain⟨_,e⟩:=x;exact Xs e
 | xd fs=>obtain⟨_,⟨_,_,_,e,_⟩,_⟩:=x;exact Xs e
 | rng lo hi=>obtain⟨_,_,_,e⟩:=x;exact Xs e
 | frz ob u=>obtain⟨e,_⟩:=x;exact Xs e
 | tbl ps=>exact Xs (show h.get? a=some _ from x)
 | met f y=>exact Xs (show h.get? a=some _ from x)
 | ext φ=>obtain⟨_,⟨_,e⟩,_⟩:=x;exact Xs e
theorem Paired.mapP {α β:Type}{F G:α->β->Prop}:∀ {l₁:List α}{l₂:List β},Paired F l₁ l₂->(∀a b,F a b->G a b)->Paired G l₁ l₂:=by
 intro l₁ l₂ h f;induction h with
 | nil=>exact .nil
 | cons r t ih=>exact .cons (f _ _ r) ih
theorem zca.stay (x:zca P w H h a o)(k:∀b u,(b=a\/H b=some (.own a))->h.get? b=some u->h'.get? b=some u)
  (ho:∀b,H b=some (.own a)->H' b=some (.own a)) (ht:∀b xs,H b=some (.tup xs)->H' b=some (.tup xs)):zca P w H' h' a o:=by
 induction o with
 | lst xs=>obtain⟨z,its,n,r,e⟩:=x;exact⟨z,its,n,r,k _ _ (.inl rfl) e⟩
 | tup xs=>obtain⟨z,its,r,ob,e,c⟩:=x;exact⟨z,its,r,ob,k _ _ (.inl rfl) e,c⟩
 | dK kvs=>obtain⟨z,y,vs,r,ob,es,ep,e,c⟩:=x;exact⟨z,y,vs,r,ob,es,ep,k _ _ (.inl rfl) e,c⟩
 | dT kvs=>
  obtain⟨z,y,xs,r,ob,es,ep,e,c⟩:=x;exact⟨z,y,xs,Paired.mapP r λp q z=>⟨z.1,ht _ _ z.2.1,z.2.2⟩,ob,es,ep,k _ _ (.inl rfl) e,c⟩
 | set S n=>obtain⟨ob,es,ep,t,e,c⟩:=x;exact⟨ob,es,ep,t,k _ _ (.inl rfl) e,c⟩
 | ins C dx fs=>
  obtain⟨d,z,ne,e,mA,⟨od,es,ep,e2,c⟩,r⟩:=x;exact⟨ho _ d,z,ne,k _ _ (.inl rfl) e,mA,⟨od,es,ep,k _ _ (.inr d) e2,c⟩,r⟩
 | own y=>obtain⟨ob,e⟩:=x;exact⟨ob,k _ _ (.inl rfl) e⟩
 | xd fs=>obtain⟨mA,⟨od,es,ep,e,c⟩,r⟩:=x;exact⟨mA,⟨od,es,ep,k _ _ (.inl rfl) e,c⟩,r⟩
 | rng lo hi=>obtain⟨t,u,v,e⟩:=x;exact⟨t,u,v,k _ _ (.inl rfl) e⟩
 | frz ob u ih=>obtain⟨e,q⟩:=x;exact⟨k _ _ (.inl rfl) e,ih q⟩
 | tbl ps=>
  have e:h.get? a=some { cls:=.none,data:=.fields ps }:=x;show h'.get? a=some { cls:=.none,data:=.fields ps };exact k a _ (.inl rfl) e
 | met f y=>
  have e:h.get? a=some (PySem.W.methodObj (.ref f) (.ref y)):=x;show h'.get? a=some (PySem.W.methodObj (.ref f) (.ref y));exact k a _ (.inl rfl) e
 | ext φ=>obtain⟨p,⟨o,e⟩,st⟩:=x;exact⟨st _ _ p λo q=>k _ _ (.inl rfl) q,⟨o,k _ _ (.inl rfl) e⟩,st⟩
theorem HOk.lt (x:HOk P w H h)(e:H a=some o):a<h.objs.size:=(x a o e).lt
theorem HOk.fresh (x:HOk P w H h)(e:h.objs.size<=a):H a=none:=by
 cases q:H a with
 | none=>rfl
 | some u=>exact absurd (XE (x.lt q) e) (Yo _)
theorem HOk.kept (x:HOk P w H h)(k:∀b u,h.get? b=some u->h'.get? b=some u):HOk P w H h':=λa o e=>
 (x a o e).stay (λb u _ q=>k b u q) (λ_ q=>q) λ_ _ q=>q
theorem HOk.laid (x:HOk P w H h)(k:∀b u,h.get? b=some u->h'.get? b=some u)(hp:h.objs.size<=a)(new:zca P w (upd H a o) h' a o):HOk P w (upd H a o) h':=λb u e=>by
 have hn:=x.fresh hp;by_cases hb:b=a
 ·subst hb;rw[zak]at e;cases e;exact new
 ·rw[zai hb]at e;exact(x b u e).stay (λc v _ q=>k c v q) (λc q=>by rw[zai (zay q hn)];exact q) λc xs q=>by rw[zai (zay q hn)];exact q
end
noncomputable def Rd (H:Hp)(a:Addr)(u:HO):Prop:=H a=some u\/∃o,H a=some (.frz o u)
theorem Rd.ok {P:Program}{w:World}{H:Hp}{h:Heap}{a:Addr}{u:HO}(r:Rd H a u)(x:HOk P w H h):zca P w H h a u:=by
 rcases r with r | ⟨o,r⟩
 ·exact x a u r
 ·obtain⟨_,q⟩:=x a _ r;exact q
noncomputable def Mut:Option HO->Prop
 | some (.lst _)=>True
 | some (.dK _)=>True
 | some (.dT _)=>True
 | some (.set _ _)=>True
 | some (.ins _ _ _)=>True
 | some (.ext _)=>True
 | _=>False
section
variable {P:Program}{w:World}{H:Hp}{h h':Heap}{x e:Addr}{o':HO}
theorem HOk.write (ok:HOk P w H h)(mu:Mut (H x))(he:e=x\/H e=some (.own x))(k:∀b u,b≠e->h.get? b=some u->h'.get? b=some u)(heo:∃u,h'.get? e=some u)
  (new:zca P w (upd H x o') h' x o'):HOk P w (upd H x o') h':=λb u q=>by
 have nown:∀c y,H c=some (.own y)->c≠x:=λc y r z=>by subst z;rw[r]at mu;exact mu
 have ntup:∀c xs,H c=some (.tup xs)->c≠x:=λc xs r z=>by subst z;rw[r]at mu;exact mu
 by_cases hb:b=x
 ·subst hb;rw[zak]at q;cases q;exact new
 ·rw[zai hb]at q;by_cases hbe:b=e
  ·have q':H b=some (.own x):=by
    rcases he with z | z
    ·exact absurd (hbe.trans z) hb
    ·rw[hbe];exact z
   rw[q]at q';cases q';obtain⟨v,hv⟩:=heo;exact⟨v,by rw[hbe];exact hv⟩
  ·refine(ok b u q).stay (λc v hc r=>k c v ?_ r) (λc r=>by rw[zai (nown c b r)];exact r) λc xs r=>by rw[zai (ntup c xs r)];exact r
   rcases hc with rfl | hc
   ·exact hbe
   ·rintro rfl;rcases he with z | z
    ·exact nown c b hc z
    ·rw[hc]at z;cases z;exact hb rfl
end
structure Un (fs ex:List Addr)(H H':Hp)(h h':Heap):Prop where
 keep:∀b o,h.get? b=some o->H b=none->b∉fs->b∉ex->h'.get? b=some o
 slot:∀b o,h.get? b=some o->H b=none->b∈fs->b∉ex->∃sl,h'.get? b=some { o with slots:=sl }
 free:∀b o,h.get? b=some o->H b=none->b∉ex->H' b=none
 there:∀b o,h.get? b=some o->b∉ex->∃o',h'.get? b=some o'
 tups:∀b xs,H b=some (.tup xs)->H' b=some (.tup xs)
 frzs:∀b o u,H b=some (.frz o u)->H' b=some (.frz o u)
 tbls:∀b ps,H b=some (.tbl ps)->∃more,H' b=some (.tbl (ps++more))
section
variable {fs fs' ex ex':List Addr}{H H1 H2:Hp}{h h1 h2 h':Heap}{a x e:Addr}{o:HO}
theorem Un.any (u:Un fs ex H H1 h h1){b:Addr}{ob:Obj}(q:h.get? b=some ob)(n:H b=none)(hx:b∉ex):∃sl,h1.get? b=some { ob with slots:=sl }:=by
 by_cases hb:b∈fs
 ·exact u.slot b ob q n hb hx
 ·exact⟨ob.slots,u.keep b ob q n hb hx⟩
theorem Un.trans (a:Un fs ex H H1 h h1)(b:Un fs ex H1 H2 h1 h2):Un fs ex H H2 h h2 where
 keep:=λc ob q n hc hx=>b.keep c ob (a.keep c ob q n hc hx) (a.free c ob q n hx) hc hx
 slot:=λc ob q n hc hx=>by
  obtain⟨sl,e1⟩:=a.slot c ob q n hc hx;obtain⟨sl',e2⟩:=b.slot c _ e1 (a.free c ob q n hx) hc hx;exact⟨sl',e2⟩
 free:=λc ob q n hx=>by
  obtain⟨o',e1⟩:=a.there c ob q hx;exact b.free c o' e1 (a.free c ob q n hx) hx
 there:=λc ob q hx=>by
  obtain⟨o',e1⟩:=a.there c ob q hx;exact b.there c o' e1 hx
 tups:=λc xs q=>b.tups c xs (a.tups c xs q)
 frzs:=λc ob xs q=>b.frzs c ob xs (a.frzs c ob xs q)
 tbls:=λc ps q=>by
  obtain⟨m1,e1⟩:=a.tbls c ps q;obtain⟨m2,e2⟩:=b.tbls c _ e1;exact⟨m1++m2,by rw[e2,Array.append_assoc]⟩
theorem Un.kept (k:∀b u,h.get? b=some u->h'.get? b=some u):Un fs ex H H h h':=
 ⟨λb ob q _ _ _=>k b ob q,λb ob q _ _ _=>⟨ob.slots,k b ob q⟩,λ_ _ _ n _=>n,λb ob q _=>⟨ob,k b ob q⟩,λ_ _ q=>q,λ_ _ _ q=>q,λ_ ps q=>⟨#[],by rw[q];simp⟩⟩
theorem Un.refl:Un fs ex H H h h:=Un.kept λ_ _ q=>q
theorem Un.laid (k:∀b u,h.get? b=some u->h'.get? b=some u)(hp:h.objs.size<=a)(hn:H a=none):Un fs ex H (upd H a o) h h' where
 keep:=λb u q _ _ _=>k b u q
 slot:=λb u q _ _ _=>⟨u.slots,k b u q⟩
 free:=λb u q n _=>by rw[zai (XD (XE (Xs q) hp))];exact n
 there:=λb u q _=>⟨u,k b u q⟩
 tups:=λb xs q=>by rw[zai (zay q hn)];exact q
 frzs:=λb u xs q=>by rw[zai (zay q hn)];exact q
 tbls:=λb ps q=>⟨#[],by rw[zai (zay q hn),q];simp⟩
theorem Un.write (mu:Mut (H x))(he:e=x\/H e=some (.own x))(k:∀b u,b≠e->h.get? b=some u->h'.get? b=some u)(heo:∃u,h'.get? e=some u):Un fs ex H (upd H x o) h h':=by
 have hx:∀b,H b=none->b≠x:=λb n z=>by subst z;rw[n]at mu;exact mu
 have hb:∀b,H b=none->b≠e:=λb n z=>by
  subst z;rcases he with r | r
  ·exact hx b n r
  ·rw[n]at r;cases r
 have hm:∀b u,H b=some u->¬ Mut (some u)->b≠x:=λb u q nm z=>by subst z;rw[q]at mu;exact nm mu
 refine⟨λb u q n _ _=>k b u (hb b n) q,λb u q n _ _=>⟨u.slots,k b u (hb b n) q⟩,λb u q n _=>by rw[zai (hx b n)];exact n,λb u q _=>?_,
  λb xs q=>by rw[zai (hm b _ q λz=>z)];exact q,λb u xs q=>by rw[zai (hm b _ q λz=>z)];exact q,λb ps q=>⟨#[],by rw[zai (hm b _ q λz=>z),q];simp⟩⟩
 by_cases hbe:b=e
 ·subst hbe;exact heo
 ·exact⟨u,k b u hbe q⟩
end
noncomputable def trk (h:Heap)(H:Hp):List Addr:=(Xp h.objs.size).filter λa=>(H a).isSome
noncomputable def hidT (h:Heap)(H:Hp):Heap:=PySem.W.hideAll h (trk h H)
theorem zjZ (h:Heap)(H:Hp):(hidT h H).objs.size=h.objs.size:=PySem.W.hideAll_size _ _
theorem zlZ {h:Heap}{H:Hp}{b:Addr}{o:Obj}(e:h.get? b=some o)(n:H b=none):(hidT h H).get? b=some o:=
 PySem.W.hideAll_get _ e λhm=>by
  have q:(H b).isSome=true:=(List.mem_filter.mp hm).2;rw[n]at q;simp at q
theorem znF {h:Heap}{H:Hp}{b:Addr}{o:Obj}(e:(hidT h H).get? b=some o):h.get? b=some o/\H b=none:=by
 have e':h.get? b=some o:=PySem.W.of_hideAll (trk h H) e;refine⟨e',?_⟩;cases q:H b with
 | none=>rfl
 | some x=>
  have hm:b∈trk h H:=List.mem_filter.mpr ⟨Yl.mpr (Xs e'),by simp[q]⟩;have z:(hidT h H).get? b=none:=PySem.W.hideAll_none (trk h H) hm;rw[z]at e;cases e
noncomputable def znG (g h:Heap)(L:Addr):List (Addr×Obj):=(Xp h.objs.size).filterMap λa=>if a=L\/(g.get? a).isSome=true then none else(h.get? a).map λo=>(a,o)
noncomputable def rest (g h:Heap)(L d:Addr):List (Addr×Obj):=(znG g h L).filter λp=>decide (p.1≠d)
structure Mod (K:Xa)(mg:Str->Option Value)(base:Heap):Prop where
 kin:K.In base
 glob:base.Ns mainGlobals mg
 blt:∃mb,base.Ns builtinsNs mb/\∀x:Str,x≠"__name__"->mb x=bootBuiltins x
 nolimit:base.NoLimit
structure Cx where
 prog:Program
 w:World
 K:Xa
 mg:Str->Option Value
 base:Heap
 A:Around
 N:List Str
 s₀:Shared
 H₀:Hp
 env:Env
 outer:List Env
 stack:List Env
 ex:List Addr
 fn:Str->Bool
 calm:Bool
 pn:List (Addr×Obj)
 xe:Value->Shared->Prop
noncomputable def frs (l:List Env):List Addr:=l.filterMap (·.frame)
noncomputable abbrev Cx.fs (X:Cx):List Addr:=frs X.outer
noncomputable def Vis (sc:Scope)(x:Str):Prop:=sc.names.lookup x=some .local\/sc.names.lookup x=some .cell\/sc.names.lookup x=some .free
noncomputable def Loc (sc:Scope)(x:Str):Prop:=sc.names.lookup x=some .local\/sc.names.lookup x=some .cell
noncomputable def Look (env:Env)(h:Heap)(m:Str->Option Value)(x:Str)(u:Value):Prop:=
 (env.kindOf x=some .local/\m x=some u)\/((env.kindOf x=some .cell\/env.kindOf x=some .free)/\∃c,env.cells.lookup x=some c/\h.IsCell c (some u))
structure Cx.Ok (X:Cx):Prop where
 mod:Mod X.K X.mg X.base
 kind:X.env.scope.kind=.function
 glob:X.env.globals=mainGlobals
 blt:X.env.builtins=builtinsNs
 above:X.s₀.heap.objs.size<=X.env.locals
 inj:∀x y c,X.env.cells.lookup x=some c->X.env.cells.lookup y=some c->x=y
 has:∀x,(X.env.kindOf x=some .cell\/X.env.kindOf x=some .free)->∃c,X.env.cells.lookup x=some c
 cab:∀x c,X.fn x=true->X.env.cells.lookup x=some c->X.s₀.heap.objs.size<=c
 hd:X.calm=true->X.A.handled=none
 frames:X.A.frames=some X.stack
 stk:X.stack=X.outer\/(X.stack=X.env::X.outer/\X.env.frame=some X.env.locals)
 exf:∀b∈X.ex,b≠X.env.locals/\∀x c,X.env.cells.lookup x=some c->c≠b
 bs:∀b o,X.base.get? b=some o->X.s₀.heap.get? b=some o/\X.H₀ b=none
 bsz:X.base.objs.size<=X.s₀.heap.objs.size
 noex:∀b o,X.base.get? b=some o->b∉X.ex
 exfs:∀b∈X.ex,b∉X.fs
 funs:X.s₀.heap.FunFrames X.base X.outer
 frf:∀b∈X.fs,X.H₀ b=none
structure Inv (X:Cx)(pins:List (Addr×Obj))(σ:List (Option V))(H:Hp)(s:Shared):Prop where
 ok:X.Ok
 os:s.os=X.s₀.os
 bare:AllBare s.gens
 base:Un X.fs X.ex X.H₀ H X.s₀.heap s.heap
 loc:∃m,s.heap.Ns X.env.locals m/\∀(i:Nat) (x:Str) (v:V),X.N[i]? = some x->σ[i]? = some (some v)->Vis X.env.scope x->∃u,RelV v u/\Look X.env s.heap m x u
 cell:∀x c,X.env.cells.lookup x=some c->∃v,s.heap.IsCell c v
 free:H X.env.locals=none
 freeC:∀x c,X.env.cells.lookup x=some c->H c=none
 pin:∀p∈X.pn++pins,s.heap.get? p.1=some p.2/\H p.1=none/\p.1≠X.env.locals/\p.1∉X.fs/\∀v,p.2.data≠.cell v
 hok:HOk X.prog X.w H s.heap
 len:σ.length=X.N.length
section
variable {X:Cx}{pins:List (Addr×Obj)}{σ:List (Option V)}{H H':Hp}{s:Shared}{h':Heap}
theorem Cx.Ok.nofr (ok:X.Ok){b:Addr}{o:Obj}(e:X.base.get? b=some o):b∉X.fs:=λhb=>by
 have:=(ok.funs.mem hb).1;rw[e]at this;cases this
theorem Inv.bs (I:Inv X pins σ H s):∀b o,X.base.get? b=some o->s.heap.get? b=some o/\H b=none:=λb o e=>
 ⟨I.base.keep b o (I.ok.bs b o e).1 (I.ok.bs b o e).2 (I.ok.nofr e) (I.ok.noex b o e),I.base.free b o (I.ok.bs b o e).1 (I.ok.bs b o e).2 (I.ok.noex b o e)⟩
theorem Inv.bk (I:Inv X pins σ H s):∀b o,X.base.get? b=some o->s.heap.get? b=some o:=λb o e=>(I.bs b o e).1
theorem Inv.mod (I:Inv X pins σ H s):Mod X.K X.mg X.base:=I.ok.mod
theorem Inv.kIn (I:Inv X pins σ H s):X.K.In s.heap:=I.ok.mod.kin.keeps I.bk
theorem Inv.lt (I:Inv X pins σ H s):X.env.locals<s.heap.objs.size:=let ⟨_,hn,_⟩:=I.loc;hn.lt
theorem Inv.sz (I:Inv X pins σ H s):X.s₀.heap.objs.size<=s.heap.objs.size:=Yu I.ok.above (Yv I.lt)
theorem Inv.nofs (I:Inv X pins σ H s){a:Addr}(h:s.heap.objs.size<=a):a∉X.fs:=λhb=>by
 obtain⟨_,o,ho,_⟩:=I.ok.funs.mem hb;exact absurd (XE (Xs ho) (Yu I.sz h)) (Yo _)
theorem Inv.cne (I:Inv X pins σ H s):∀x c,X.env.cells.lookup x=some c->c≠X.env.locals:=λx c e z=>by
 obtain⟨v,o,ho,hd⟩:=I.cell x c e;obtain⟨m,⟨o',es,ep,ho',hd',_⟩,_⟩:=I.loc;rw[z,ho']at ho;cases ho;rw[hd']at hd;cases hd
theorem Inv.funs (I:Inv X pins σ H s):s.heap.FunFrames X.base X.outer:=by
 have all:∀(l:List Env),(∀b∈frs l,b∈X.fs)->X.s₀.heap.FunFrames X.base l->s.heap.FunFrames X.base l:=by
  intro l;induction l with
  | nil=>intro _ _;trivial
  | cons env r ih=>
   intro hs hl;obtain⟨hk,⟨L,o,hf,hn,ho,hd⟩,hr⟩:=hl;have hL:L∈X.fs:=hs L (by unfold frs;rw[List.filterMap_cons,hf];exact Xm);obtain⟨sl,e⟩:=I.base.slot L o ho (I.ok.frf L hL) hL λz=>I.ok.exfs L z hL;exact⟨hk,⟨L,_,hf,hn,e,hd⟩,ih (λb hb=>hs b (by unfold frs;rw[List.filterMap_cons,hf];exact Xh _ hb)) hr⟩
 exact all X.outer (λ_ hb=>hb) I.ok.funs
theorem Inv.stack (I:Inv X pins σ H s):s.heap.FunFrames X.base X.stack:=by
 rcases I.ok.stk with e | ⟨e,hf⟩
 ·rw[e];exact I.funs
 ·rw[e];obtain⟨m,hn,_⟩:=I.loc;refine .cons (by rw[I.ok.kind];decide) hf hn ?_ I.funs;exact Heap.get?_none_of_le (Yu I.ok.bsz I.ok.above)
theorem Inv.zka (I:Inv X pins σ H s):∀b∈frs X.stack,b∈X.env.locals::X.fs:=λb hb=>by
 rcases I.ok.stk with e | ⟨e,hf⟩
 ·rw[e]at hb;exact Xh _ hb
 ·rw[e]at hb;unfold frs at hb;rw[List.filterMap_cons,hf]at hb;exact hb
theorem Inv.zkb (I:Inv X pins σ H s):∀b∈frs X.stack,H b=none:=λb hb=>by
 rcases Xo.mp (I.zka b hb)with e | hb
 ·rw[e];exact I.free
 ·obtain⟨_,o,ho,_⟩:=I.ok.funs.mem hb;exact I.base.free b o ho (I.ok.frf b hb) λz=>I.ok.exfs b z hb
theorem Inv.step {g':Array GenState}{t':Nat}{d':Drawn}{ch:List Addr}(I:Inv X pins σ H s)
  (hch:∀b∈ch,(b∈X.ex\/X.s₀.heap.objs.size<=b)/\b≠X.env.locals/\(∀x c,X.env.cells.lookup x=some c->c≠b)/\∀p∈X.pn++pins,p.1≠b)
  (keep:∀b o,b≠X.env.locals->b∉X.fs->b∉ch->s.heap.get? b=some o->H b=none->h'.get? b=some o)
  (slot:∀b o,b≠X.env.locals->b∈X.fs->b∉ch->s.heap.get? b=some o->H b=none->∃sl,h'.get? b=some { o with slots:=sl }) (free:∀b o,b∉ch->s.heap.get? b=some o->H b=none->H' b=none)
  (there:∀b o,b∉ch->s.heap.get? b=some o->∃o',h'.get? b=some o')
  (tups:∀b xs,H b=some (.tup xs)->H' b=some (.tup xs)) (frzs:∀b o u,H b=some (.frz o u)->H' b=some (.frz o u)) (tbls:∀b ps,H b=some (.tbl ps)->∃more,H' b=some (.tbl (ps++more)))
  (ns:∀m,s.heap.Ns X.env.locals m->h'.Ns X.env.locals m) (hok:HOk X.prog X.w H' h') (hg:AllBare g') :
  Inv X pins σ H' { s with heap:=h',gens:=g',drawn:=d',toks:=t' }:=by
 have neL:∀b o,X.s₀.heap.get? b=some o->b≠X.env.locals:=λb o e=>XD (XE (Xs e) I.ok.above);have neC:∀b o,X.s₀.heap.get? b=some o->b∉X.ex->b∉ch:=λb o e hx hb=>by
  rcases(hch b hb).1 with z | z
  ·exact hx z
  ·exact absurd (XE (Xs e) z) (Yo _)
 have cellK:∀x c,X.env.cells.lookup x=some c->∀v,s.heap.IsCell c v->h'.IsCell c v:=λx c e v ⟨o,ho,hd⟩=>by
  have nch:c∉ch:=λz=>(hch c z).2.2.1 x c e rfl;by_cases hc:c∈X.fs
  ·obtain⟨sl,q⟩:=slot c o (I.cne x c e) hc nch ho (I.freeC x c e);exact⟨_,q,hd⟩
  ·exact⟨o,keep c o (I.cne x c e) hc nch ho (I.freeC x c e),hd⟩
 refine⟨I.ok,I.os,hg,⟨λb o e n hb hx=>?_,λb o e n hb hx=>?_,λb o e n hx=>?_,λb o e hx=>?_,λb xs e=>tups b xs (I.base.tups b xs e),λb o xs e=>frzs b o xs (I.base.frzs b o xs e),λb ps e=>?_⟩,?_,λx c e=>?_,?_,λx c e=>?_,λp hp=>?_,hok,I.len⟩
 ·exact keep b o (neL b o e) hb (neC b o e hx) (I.base.keep b o e n hb hx) (I.base.free b o e n hx)
 ·obtain⟨sl,e1⟩:=I.base.slot b o e n hb hx;obtain⟨sl',e2⟩:=slot b _ (neL b o e) hb (neC b o e hx) e1 (I.base.free b o e n hx);exact⟨sl',e2⟩
 ·obtain⟨o',e1⟩:=I.base.there b o e hx;exact free b o' (neC b o e hx) e1 (I.base.free b o e n hx)
 ·obtain⟨o',e1⟩:=I.base.there b o e hx;exact there b o' (neC b o e hx) e1
 ·obtain⟨m1,e1⟩:=I.base.tbls b ps e;obtain⟨m2,e2⟩:=tbls b _ e1;exact⟨m1++m2,by rw[e2,Array.append_assoc]⟩
 ·obtain⟨m,hn,hl⟩:=I.loc;refine⟨m,ns m hn,λi x v e1 e2 e3=>?_⟩;obtain⟨u,r,l⟩:=hl i x v e1 e2 e3;refine⟨u,r,?_⟩;rcases l with l | ⟨k,c,e,z⟩
  ·exact .inl l
  ·exact .inr ⟨k,c,e,cellK x c e _ z⟩
 ·obtain⟨v,z⟩:=I.cell x c e;exact⟨v,cellK x c e v z⟩
 ·obtain⟨m,⟨o,_,_,ho,_⟩,_⟩:=I.loc;exact free _ o (λz=>(hch _ z).2.1 rfl) ho I.free
 ·obtain⟨v,o,ho,hd⟩:=I.cell x c e;exact free c o (λz=>(hch c z).2.2.1 x c e rfl) ho (I.freeC x c e)
 ·obtain⟨e,n,ne,nf,d⟩:=I.pin p hp;have nch:p.1∉ch:=λz=>(hch p.1 z).2.2.2 p hp rfl;exact⟨keep p.1 p.2 ne nf nch e n,free p.1 p.2 nch e n,ne,nf,d⟩
theorem Inv.un {t':Nat}(I:Inv X pins σ H s)(u:Un X.fs [] H H' s.heap h')(hok:HOk X.prog X.w H' h'):Inv X pins σ H' { s with heap:=h',toks:=t' }:=by
 obtain⟨m,⟨o,es,ep,ho,r⟩,_⟩:=id I.loc;obtain⟨sl,hL⟩:=u.any ho I.free (by simp);exact I.step (g':=s.gens) (d':=s.drawn) (ch:=[]) (λ_ z=>nomatch z) (λb o _ hb _ e n=>u.keep b o e n hb (by simp)) (λb o _ hb _ e n=>u.slot b o e n hb (by simp)) (λb o _ e n=>u.free b o e n (by simp)) (λb o _ e=>u.there b o e (by simp)) u.tups u.frzs u.tbls (λm' hm=>by
  obtain⟨o',es',ep',ho',r'⟩:=hm;rw[ho]at ho';cases ho';exact⟨_,es',ep',hL,r'⟩) hok I.bare
theorem Inv.call {g':Array GenState}{t':Nat}{d':Drawn}{ch:List Addr}(I:Inv X pins σ H s)(u:Un (frs X.stack) ch H H' s.heap h')(hok:HOk X.prog X.w H' h')(hg:AllBare g')
  (hch:∀b∈ch,(b∈X.ex\/X.s₀.heap.objs.size<=b)/\b≠X.env.locals/\(∀x c,X.env.cells.lookup x=some c->c≠b)/\∀p∈X.pn++pins,p.1≠b) :
  Inv X pins σ H' { s with heap:=h',gens:=g',drawn:=d',toks:=t' }:=by
 obtain⟨m,⟨o,es,ep,ho,r⟩,_⟩:=id I.loc;obtain⟨sl,hL⟩:=u.any ho I.free λz=>(hch _ z).2.1 rfl;exact I.step (ch:=ch) hch (λb o hL hb hc e n=>u.keep b o e n (λz=>(Xo.mp (I.zka b z)).elim hL hb) hc) (λb o _ _ hc e n=>u.any e n hc) (λb o hc e n=>u.free b o e n hc) (λb o hc e=>u.there b o e hc) u.tups u.frzs u.tbls (λm' hm=>by
  obtain⟨o',es',ep',ho',r'⟩:=hm;rw[ho]at ho';cases ho';exact⟨_,es',ep',hL,r'⟩) hok hg
theorem Inv.turned {t':Nat}{it:Addr}(I:Inv X pins σ H s)(k:∀b o,b≠it->s.heap.get? b=some o->h'.get? b=some o)(hn:H it=none)(hL:it≠X.env.locals)
  (h1:it∈X.ex\/X.s₀.heap.objs.size<=it) (h2:∀x c,X.env.cells.lookup x=some c->c≠it) (h3:∀p∈X.pn++pins,p.1≠it):Inv X pins σ H { s with heap:=h',toks:=t' }:=by
 have nit:∀b u,H b=some u->b≠it:=λb u e z=>by rw[z,hn]at e;cases e
 refine I.step (g':=s.gens) (d':=s.drawn) (ch:=[it]) (λb hb=>?_) (λb o _ _ hc e _=>k b o (λz=>hc (by simp[z])) e) (λb o _ _ hc e _=>⟨o.slots,k b o (λz=>hc (by simp[z])) e⟩) (λ_ _ _ _ n=>n)
  (λb o hc e=>⟨o,k b o (λz=>hc (by simp[z])) e⟩) (λ_ _ e=>e) (λ_ _ _ e=>e) (λb ps e=>⟨#[],by rw[e];simp⟩) (λm hm=>?_) (λb u e=>?_) I.bare
 ·have e:b=it:=by simpa using hb
  subst e;exact⟨h1,hL,h2,h3⟩
 ·obtain⟨o,es,ep,ho,r⟩:=hm;exact⟨o,es,ep,k _ o (Ne.symm hL) ho,r⟩
 ·refine(I.hok b u e).stay (λc v hc q=>k c v ?_ q) (λ_ q=>q) λ_ _ q=>q;rcases hc with z | z
  ·rw[z];exact nit b u e
  ·exact nit c _ z
theorem Inv.tok (I:Inv X pins σ H s)(t:Nat):Inv X pins σ H { s with toks:=t }:=I.un (h':=s.heap) (t':=t) Un.refl I.hok
theorem Inv.kept {t':Nat}(I:Inv X pins σ H s)(k:∀b u,s.heap.get? b=some u->h'.get? b=some u):Inv X pins σ H { s with heap:=h',toks:=t' }:=I.un (Un.kept k) (I.hok.kept k)
theorem Inv.laid {a:Addr}{o:HO}{t':Nat}(I:Inv X pins σ H s)(k:∀b u,s.heap.get? b=some u->h'.get? b=some u)(hp:s.heap.objs.size<=a)(new:zca X.prog X.w (upd H a o) h' a o) :
  Inv X pins σ (upd H a o) { s with heap:=h',toks:=t' }:=I.un (Un.laid k hp (I.hok.fresh hp)) (I.hok.laid k hp new)
theorem Inv.write {x e:Addr}{o:HO}{t':Nat}(I:Inv X pins σ H s)(mu:Mut (H x))(he:e=x\/H e=some (.own x))(k:∀b u,b≠e->s.heap.get? b=some u->h'.get? b=some u)(heo:∃u,h'.get? e=some u)
  (new:zca X.prog X.w (upd H x o) h' x o):Inv X pins σ (upd H x o) { s with heap:=h',toks:=t' }:=I.un (Un.write mu he k heo) (I.hok.write mu he k heo new)
theorem Inv.zkc {pins':List (Addr×Obj)}(I:Inv X pins σ H s)(h:∀p∈pins',s.heap.get? p.1=some p.2/\H p.1=none/\p.1≠X.env.locals/\p.1∉X.fs/\∀v,p.2.data≠.cell v):Inv X pins' σ H s:=
 ⟨I.ok,I.os,I.bare,I.base,I.loc,I.cell,I.free,I.freeC,λp hp=>(XT.mp hp).elim (λz=>I.pin p (Ym _ z)) (h p),I.hok,I.len⟩
theorem zin {N:List Str}(hN:N.Nodup){i j:Nat}{x:Str}(a:N[i]? = some x)(b:N[j]? = some x):i=j:=by
 obtain⟨h1,e1⟩:=Xd.mp a;obtain⟨h2,e2⟩:=Xd.mp b;exact(List.getElem_inj hN).mp (e1.trans e2.symm)
theorem zgI {M:Model}{A:Around}{E:Value->Shared->Prop}{i:Nat}{x:Str}{v:V}{u:Value}{Q:Unit->Shared->Prop}(I:Inv X pins σ H s)(hN:X.N.Nodup)(hi:X.N[i]? = some x)(hx:Loc X.env.scope x)(r:RelV v u)
  (h:∀s',Inv X pins (σ.set i (some v)) H s'->(∃a,Yj a s.heap s'.heap/\(a=X.env.locals\/X.env.cells.lookup x=some a))->Q () s') (hf:autoParam (X.fn x=true\/X.env.scope.names.lookup x=some .local) aU3):wpAny M A (storeName X.env x u) Q E s:=by
 obtain⟨m,hn,hl⟩:=id I.loc;have hcls:(X.env.scope.kind == .class||(X.env.scope.kind == .module&&X.env.locals != X.env.globals))=false:=by rw[I.ok.kind];rfl
 have hiσ:i<σ.length:=by rw[I.len];exact(Xd.mp hi).1
 have cne:=I.cne;have tracked:∀ {a:Addr} {h':Heap},(∃o,s.heap.get? a=some o/\H a=none)->Yj a s.heap h'->HOk X.prog X.w H h':=λ{a h'} ha hs b ob e=>by
  obtain⟨_,_,hfree⟩:=ha;refine(I.hok b ob e).stay (λc w' hc q=>(hs.2 c ?_).trans q) (λ_ q=>q) λ_ _ q=>q;rintro rfl;rcases hc with rfl | hc
  ·rw[hfree]at e;cases e
  ·rw[hfree]at hc;cases hc
 rcases hx with hk | hk
 ·refine wpAny_storeName_local hk hn (λh' hn' hs=>?_) hcls;obtain⟨oL,_,_,hoL,_⟩:=id hn;refine h _ ⟨I.ok,I.os,I.bare,⟨λb o e n hb hx=>?_,λb o e n hb hx=>?_,I.base.free,λb o e hx=>?_,I.base.tups,I.base.frzs,I.base.tbls⟩,⟨_,hn',λj y v' e1 e2 e3=>?_⟩,λy c e=>?_,I.free,I.freeC,λp hp=>?_,tracked ⟨oL,hoL,I.free⟩ hs,by simpa using I.len⟩ ⟨_,hs,.inl rfl⟩
  ·exact(hs.2 b (XD (XE (Xs e) I.ok.above))).trans (I.base.keep b o e n hb hx)
  ·obtain⟨sl,e1⟩:=I.base.slot b o e n hb hx;exact⟨sl,(hs.2 b (XD (XE (Xs e) I.ok.above))).trans e1⟩
  ·obtain⟨o',e1⟩:=I.base.there b o e hx;exact⟨o',(hs.2 b (XD (XE (Xs e) I.ok.above))).trans e1⟩
  ·by_cases hj:j=i
   ·subst hj;rw[hi]at e1;cases e1;rw[Xg hiσ]at e2;cases e2;exact⟨u,r,.inl ⟨hk,by simp⟩⟩
   ·rw[Xc (Ne.symm hj)]at e2;obtain⟨u',r',q⟩:=hl j y v' e1 e2 e3;refine⟨u',r',?_⟩;rcases q with ⟨k,e⟩ | ⟨k,c,e,z⟩
    ·refine .inl ⟨k,?_⟩;have:y≠x:=λe=>hj (zin hN e1 (e▸hi));simp[this,e]
    ·exact .inr ⟨k,c,e,z.sameBut hs (cne y c e)⟩
  ·obtain⟨w',z⟩:=I.cell y c e;exact⟨w',z.sameBut hs (cne y c e)⟩
  ·obtain⟨e,n,ne,nf,d⟩:=I.pin p hp;exact⟨(hs.2 p.1 ne).trans e,n,ne,nf,d⟩
 ·have hfn:X.fn x=true:=by
   rcases hf with z | z
   ·exact z
   ·rw[z]at hk;cases hk
  obtain⟨c,hc⟩:=I.ok.has x (.inl hk);obtain⟨w',z⟩:=I.cell x c hc;refine wpAny_storeName_cell I.ok.kind hk hc z (λh' hc' hs=>?_);obtain⟨oc,hoc,hocd⟩:=id z;refine h { s with heap:=h' } ⟨I.ok,I.os,I.bare,⟨λb o e n hb hx=>?_,λb o e n hb hx=>?_,I.base.free,λb o e hx=>?_,I.base.tups,I.base.frzs,I.base.tbls⟩,⟨m,hn.sameBut hs (Ne.symm (cne x c hc)),λj y v' e1 e2 e3=>?_⟩,λy c' e=>?_,I.free,I.freeC,λp hp=>?_,tracked ⟨oc,hoc,I.freeC x c hc⟩ hs,by simpa using I.len⟩ ⟨c,hs,.inr hc⟩
  ·exact(hs.2 b (XD (XE (Xs e) (I.ok.cab x c hfn hc)))).trans (I.base.keep b o e n hb hx)
  ·obtain⟨sl,e1⟩:=I.base.slot b o e n hb hx;exact⟨sl,(hs.2 b (XD (XE (Xs e) (I.ok.cab x c hfn hc)))).trans e1⟩
  ·obtain⟨o',e1⟩:=I.base.there b o e hx;exact⟨o',(hs.2 b (XD (XE (Xs e) (I.ok.cab x c hfn hc)))).trans e1⟩
  ·by_cases hj:j=i
   ·subst hj;rw[hi]at e1;cases e1;rw[Xg hiσ]at e2;cases e2;exact⟨u,r,.inr ⟨.inl hk,c,hc,hc'⟩⟩
   ·rw[Xc (Ne.symm hj)]at e2;obtain⟨u',r',q⟩:=hl j y v' e1 e2 e3;refine⟨u',r',?_⟩;rcases q with q | ⟨k,c',e,z'⟩
    ·exact .inl q
    ·refine .inr ⟨k,c',e,z'.sameBut hs ?_⟩;rintro rfl;exact hj (zin hN e1 (I.ok.inj _ _ _ e hc▸hi))
  ·by_cases hcc:c'=c
   ·subst hcc;exact⟨_,hc'⟩
   ·obtain⟨w2,z2⟩:=I.cell y c' e;exact⟨w2,z2.sameBut hs hcc⟩
  ·obtain⟨e,n,ne,nf,d⟩:=I.pin p hp;refine⟨(hs.2 p.1 ?_).trans e,n,ne,nf,d⟩;intro q;rw[q,hoc]at e;have q':oc=p.2:=Option.some.inj e;exact d w' (by rw[<- q'];exact hocd)
theorem zeH {M:Model}{A:Around}{E:Value->Shared->Prop}{i:Nat}{x:Str}{v:V}{u:Value}{Q:Unit->Shared->Prop}(I:Inv X pins σ H s)(hN:X.N.Nodup)(hi:X.N[i]? = some x)(hx:Loc X.env.scope x)(r:RelV v u)
  (h:∀s',Inv X pins (σ.set i (some v)) H s'->Q () s') (hf:autoParam (X.fn x=true\/X.env.scope.names.lookup x=some .local) aU3):wpAny M A (storeName X.env x u) Q E s:=
 zgI I hN hi hx r (λs' I' _=>h s' I') hf
theorem Inv.call' {s':Shared}{ch:List Addr}(I:Inv X pins σ H s)(ho:s'.os=s.os)(u:Un (frs X.stack) ch H H' s.heap s'.heap)(hok:HOk X.prog X.w H' s'.heap)(hg:AllBare s'.gens)
  (hch:∀b∈ch,(b∈X.ex\/X.s₀.heap.objs.size<=b)/\b≠X.env.locals/\(∀x c,X.env.cells.lookup x=some c->c≠b)/\∀p∈X.pn++pins,p.1≠b):Inv X pins σ H' s':=by
 obtain⟨h',g',d',t',o'⟩:=s';have e:o'=s.os:=ho;subst e;exact I.call (g':=g') (t':=t') (d':=d') u hok hg hch
end
noncomputable abbrev XK:=Value->Option Addr->Hp->Prop
noncomputable abbrev St:=List (Option V)
noncomputable abbrev VK:=V->Hp->Prop
noncomputable abbrev TE:=St->Hp->VK->Prop
noncomputable abbrev TT:=St->Hp->(Bool->Hp->Prop)->Prop
noncomputable abbrev TA:=St->Hp->(List V->Hp->Prop)->Prop
structure Ends where
 nx:St->Hp->Prop
 rt:VK
 bk:St->Hp->Prop:=λ_ _=>False
 ct:St->Hp->Prop:=λ_ _=>False
noncomputable abbrev TS:=Ends->St->Hp->Prop
noncomputable def EP (X:Cx)(pins:List (Addr×Obj))(σ:St)(Q:VK)(u:Value)(s':Shared):Prop:=∃v H',Inv X pins σ H' s'/\RelV v u/\Q v H'
noncomputable def TP (X:Cx)(pins:List (Addr×Obj))(σ:St)(Q:Bool->Hp->Prop)(b:Bool)(s':Shared):Prop:=∃H',Inv X pins σ H' s'/\Q b H'
noncomputable def AP (X:Cx)(pins:List (Addr×Obj))(σ:St)(Q:List V->Hp->Prop)(us:List Value)(s':Shared):Prop:=∃vs H',Inv X pins σ H' s'/\Vals vs us/\Q vs H'
noncomputable def SP (X:Cx)(pins:List (Addr×Obj))(D:Ends)(f:Flow)(s':Shared):Prop:=
 match f with
 | .next=>∃σ' H',Inv X pins σ' H' s'/\D.nx σ' H'
 | .brk=>∃σ' H',Inv X pins σ' H' s'/\D.bk σ' H'
 | .cont=>∃σ' H',Inv X pins σ' H' s'/\D.ct σ' H'
 | .ret u=>∃v σ' H',Inv X pins σ' H' s'/\RelV v u/\D.rt v H'
noncomputable def PE (X:Cx)(e:Expr)(t:TE):Prop:=
 ∀(pins:List (Addr×Obj)) (s:Shared) (σ:St) (H:Hp) (Q:VK),Inv X pins σ H s->t σ H Q->wpAny (model X.prog X.w) X.A (eval e X.env) (EP X pins σ Q) X.xe s
noncomputable def PT (X:Cx)(e:Expr)(t:TT):Prop:=
 ∀(pins:List (Addr×Obj)) (s:Shared) (σ:St) (H:Hp) (Q:Bool->Hp->Prop),Inv X pins σ H s->t σ H Q->wpAny (model X.prog X.w) X.A (isTrue e X.env (eval e X.env)) (TP X pins σ Q) X.xe s
noncomputable def PW (X:Cx)(e:Expr)(t:TT):Prop:=
 ∀(whole:Sem Value) (pins:List (Addr×Obj)) (s:Shared) (σ:St) (H:Hp) (Q:Bool->Hp->Prop),Inv X pins σ H s->t σ H Q->wpAny (model X.prog X.w) X.A (isTrue e X.env whole) (TP X pins σ Q) X.xe s
theorem PW.pt {X:Cx}{e:Expr}{t:TT}(h:PW X e t):PT X e t:=h _
noncomputable def PA (X:Cx)(es:List Expr)(t:TA):Prop:=
 ∀(pos:Pos) (pins:List (Addr×Obj)) (s:Shared) (σ:St) (H:Hp) (Q:List V->Hp->Prop),Inv X pins σ H s->t σ H Q->wpAny (model X.prog X.w) X.A (spliced (backTo pos (starEach es X.env))) (AP X pins σ Q) X.xe s
noncomputable def PS (X:Cx)(st:Stmt)(t:TS):Prop:=
 ∀(pins:List (Addr×Obj)) (s:Shared) (σ:St) (H:Hp) (D:Ends),Inv X pins σ H s->t D σ H->wpAny (model X.prog X.w) X.A (exec st X.env) (SP X pins D) X.xe s
noncomputable def PSs (X:Cx)(st:List Stmt)(t:TS):Prop:=
 ∀(pins:List (Addr×Obj)) (s:Shared) (σ:St) (H:Hp) (D:Ends),Inv X pins σ H s->t D σ H->wpAny (model X.prog X.w) X.A (execs st X.env) (SP X pins D) X.xe s
theorem thn {α:Type}{t:Sem α}{Q Q':α->Shared->Prop}{M:Model}{A:Around}{E:Value->Shared->Prop}{s:Shared}(h:wpAny M A t Q E s)(hQ:∀a s,Q a s->Q' a s):wpAny M A t Q' E s:=wpAny_mono h hQ λ_ _ x=>x
section
variable {X:Cx}
noncomputable def tVar (i:Nat):TE:=λσ H Q=>∃v,σ[i]? = some (some v)/\Q v H
noncomputable def tC (v:V):TE:=λ_ H Q=>Q v H
theorem zbb {i:Nat}{x:Str}{pos:Pos}(hN:X.N[i]? = some x)(hv:Vis X.env.scope x)(hd:autoParam ((x == ("__debug__" : Str))=false) aU1) (hcd:autoParam ((x == ("__classdict__" : Str))=false) aU1):PE X (.Name x pos) (tVar i):=by
 intro pins s σ H Q I h;obtain⟨v,e,h⟩:=h;obtain⟨m,hn,hl⟩:=I.loc;obtain⟨u,r,l⟩:=hl i x v hN e hv;have fin:EP X pins σ Q u s:=⟨v,H,I,r,h⟩;rcases l with ⟨hk,hm⟩ | ⟨hk,c,hc,hcell⟩
 ·exact wpAny_Name (wpAny_loadName_local I.ok.kind hk hn hm fin) hd
 ·rcases hk with hk | hk
  ·exact wpAny_Name (wpAny_loadName_cell I.ok.kind hk hc hcell fin) hd
  ·exact wpAny_Name (wpAny_loadName_free I.ok.kind hk hc hcell fin hcd) hd
theorem zgJ {i j pos}:PE X (.Constant (.int i) j pos) (tC (.int i)):=λ_ _ _ H _ I h=>wpAny_Constant_int ⟨.int i,H,I.tok _,⟨_,rfl⟩,h⟩
theorem zpa {b j pos}:PE X (.Constant (.bool b) j pos) (tC (.bl b)):=λ_ _ _ H _ I h=>Constant_bool ⟨.bl b,H,I,rfl,h⟩
theorem znf {j pos}:PE X (.Constant .none j pos) (tC .non):=λ_ _ _ H _ I h=>Constant_none ⟨.non,H,I,rfl,h⟩
theorem zpb {x j pos}:PE X (.Constant (.str x) j pos) (tC (.str x)):=λ_ _ _ H _ I h=>Calls.Constant_str ⟨.str x,H,I.tok _,⟨_,rfl⟩,h⟩
noncomputable def Gl (X:Cx)(x:Str):Prop:=X.env.kindOf x=some .globalImplicit
theorem zkd {E:Value->Shared->Prop}{pins:List (Addr×Obj)}{s:Shared}{σ:St}{H:Hp}{x:Str}{u:Value}{pos:Pos}{Q:Value->Shared->Prop}(I:Inv X pins σ H s)(hg:Gl X x)(hm:X.mg x=some u)(h:Q u s)
  (hd:autoParam ((x == ("__debug__" : Str))=false) aU1):wpAny (model X.prog X.w) X.A (eval (.Name x pos) X.env) Q E s:=
 Calls.Name_function_global I.ok.kind hg (Calls.loadGlobal_global (by rw[I.ok.glob];exact I.mod.glob.keeps I.bk) hm h) hd
theorem zfI {E:Value->Shared->Prop}{pins:List (Addr×Obj)}{s:Shared}{σ:St}{H:Hp}{x:Str}{u:Value}{pos:Pos}{Q:Value->Shared->Prop}(I:Inv X pins σ H s)(hg:Gl X x)(hm:X.mg x=none)(hv:bootBuiltins x=some u)(h:Q u s)
  (hn:autoParam (x≠"__name__") aU1) (hd:autoParam ((x == ("__debug__" : Str))=false) aU1):wpAny (model X.prog X.w) X.A (eval (.Name x pos) X.env) Q E s:=by
 obtain⟨mb,h1,h2⟩:=I.mod.blt;exact Calls.Name_function_global I.ok.kind hg (Calls.loadGlobal_builtin (by rw[I.ok.glob];exact I.mod.glob.keeps I.bk) hm (by rw[I.ok.blt];exact h1.keeps I.bk) ((h2 x hn).trans hv) h) hd
theorem znH {x:Str}{v:V}{u:Value}{pos:Pos}(hg:Gl X x)(hm:X.mg x=none)(hv:bootBuiltins x=some u)(r:RelV v u)(hn:autoParam (x≠"__name__") aU1) (hd:autoParam ((x == ("__debug__" : Str))=false) aU1):PE X (.Name x pos) (tC v):=
 λ_ _ _ H _ I h=>zfI I hg hm hv ⟨v,H,I,r,h⟩ hn hd
variable {a b:Expr}{ta tb:TE}{pos:Pos}
noncomputable def tB (t:TE):TT:=λσ H Q=>t σ H λx H1=>∃c,x=.bl c/\Q c H1
variable {tA tB':TT}{rest:List Expr}
noncomputable def tAnd (t u:TT):TT:=λσ H Q=>t σ H λc H1=>if c=true then u σ H1 Q else Q false H1
noncomputable def tOr (t u:TT):TT:=λσ H Q=>t σ H λc H1=>if c=true then Q true H1 else u σ H1 Q
noncomputable def tNot (t:TT):TT:=λσ H Q=>t σ H λc H1=>Q (!c) H1
theorem znI (ha:PT X a tA):PW X (.BoolOp .And [a] pos) tA:=by
 intro wh pins s σ H Q I h;refine isTrue_and (thn (ha pins s σ H Q I h) λc s1 e=>?_);cases c with
 | true=>exact isTrue_and_nil e
 | false=>exact e
theorem zpc (ha:PT X a tA):PW X (.BoolOp .Or [a] pos) tA:=by
 intro wh pins s σ H Q I h;refine isTrue_or (thn (ha pins s σ H Q I h) λc s1 e=>?_);cases c with
 | false=>exact isTrue_or_nil e
 | true=>exact e
theorem zpd (ha:PT X a tA)(hb:PW X (.BoolOp .And (b::rest) pos) tB'):PW X (.BoolOp .And (a::b::rest) pos) (tAnd tA tB'):=by
 intro wh pins s σ H Q I h;refine isTrue_and (thn (ha pins s σ H _ I h) λc s1 q1q=>?_);obtain⟨H1,I1,q1⟩:=q1q;cases c with
 | true=>exact hb wh pins s1 σ H1 Q I1 q1
 | false=>exact⟨H1,I1,q1⟩
theorem zqH (ha:PT X a tA)(hb:PW X (.BoolOp .Or (b::rest) pos) tB'):PW X (.BoolOp .Or (a::b::rest) pos) (tOr tA tB'):=by
 intro wh pins s σ H Q I h;refine isTrue_or (thn (ha pins s σ H _ I h) λc s1 q2q=>?_);obtain⟨H1,I1,q1⟩:=q2q;cases c with
 | true=>exact⟨H1,I1,q1⟩
 | false=>exact hb wh pins s1 σ H1 Q I1 q1
theorem zpe (ha:PT X a tA):PT X (.UnaryOp .Not a pos) (tNot tA):=by
 intro pins s σ H Q I h;exact isTrue_not (ha pins s σ H (λc H1=>Q (!c) H1) I h)
noncomputable def zqI (ta tb:TE):TE:=λσ H Q=>ta σ H λx H1=>∃c,x=.bl c/\if c=true then tb σ H1 Q else Q (.bl false) H1
noncomputable def zqJ (ta:TE):TE:=λσ H Q=>ta σ H λx H1=>∃c,x=.bl c/\Q (.bl (!c)) H1
theorem zpf {op}{t:TE}(h:PE X a t):PE X (.BoolOp op [a] pos) t:=λpins s σ H Q I hw=>BoolOp_one (h pins s σ H Q I hw)
theorem zpg (ha:PE X a ta)(hb:PE X (.BoolOp .And (b::rest) pos) tb):PE X (.BoolOp .And (a::b::rest) pos) (zqI ta tb):=by
 intro pins s σ H Q I h;refine BoolOp_and (thn (ha pins s σ H _ I h) λv s1 q3q=>?_);obtain⟨x,H1,I1,r1,q1⟩:=q3q;obtain⟨c,rfl,q1⟩:=q1;cases r1;refine wpAny_truthy_bool ?_;cases c with
 | true=>exact hb pins s1 σ H1 Q I1 q1
 | false=>exact⟨.bl false,H1,I1,rfl,q1⟩
theorem zph (ha:PE X a ta):PE X (.UnaryOp .Not a pos) (zqJ ta):=by
 intro pins s σ H Q I h;refine UnaryOp_ (thn (ha pins s σ H _ I h) λv s1 q4q=>?_);obtain⟨x,H1,I1,r1,q1⟩:=q4q;obtain⟨c,rfl,q1⟩:=q1;cases r1;exact not_of (wpAny_truthy_bool ⟨.bl (!c),H1,I1,rfl,q1⟩)
noncomputable def tIf (t:TT)(ta tb:TE):TE:=λσ H Q=>t σ H λc H1=>if c=true then ta σ H1 Q else tb σ H1 Q
theorem zma {c:Expr}(hc:PT X c tA)(ha:PE X a ta)(hb:PE X b tb):PE X (.IfExp c a b pos) (tIf tA ta tb):=by
 intro pins s σ H Q I h;refine wpAny_IfExp (thn (hc pins s σ H _ I h) λd s1 q5q=>?_);obtain⟨H1,I1,q1⟩:=q5q;cases d with
 | true=>exact ha pins s1 σ H1 Q I1 q1
 | false=>exact hb pins s1 σ H1 Q I1 q1
end
noncomputable def SqL (K:Xa)(H:Hp)(a:Addr)(xs:List V):Prop:=
 Rd H a (.lst xs)\/
  ∃(o:Obj) (its:Array Value) (n:Nat),K.lookup a=some o/\o.cls=.type "list"/\o.dict=none/\o.data=.seq its n/\its.size<=sizeLine/\Vals xs its.toList
noncomputable def SqT (K:Xa)(H:Hp)(a:Addr)(xs:List V):Prop:=
 Rd H a (.tup xs)\/
  ∃(o:Obj) (its:Array Value) (n:Nat),K.lookup a=some o/\o.cls=.type "tuple"/\o.data=.seq its n/\its.size<=sizeLine/\Vals xs its.toList/\o.dict=none
noncomputable def absV:Value->Option V
 | .none=>some .non
 | .bool b=>some (.bl b)
 | .int i _=>some (.int i)
 | .str x _=>some (.str x)
 | .bytes b _=>some (.byt b)
 | .float b _=>some (.flt b)
 | .ref a=>some (.ref a)
 | .type n=>some (.ty n)
 | _=>none
theorem RelV.abs {x:V}{u:Value}(r:RelV x u):absV u=some x:=by
 cases x with
 | non=>cases r;rfl
 | bl _=>cases r;rfl
 | int _=>obtain⟨t,rfl⟩:=r;rfl
 | str _=>obtain⟨t,rfl⟩:=r;rfl
 | byt _=>obtain⟨t,rfl⟩:=r;rfl
 | flt _=>obtain⟨t,rfl⟩:=r;rfl
 | ref _=>cases r;rfl
 | ty _=>cases r;rfl
theorem RelV.inj {x y:V}{u:Value}(r:RelV x u)(q:RelV y u):x=y:=Option.some.inj (r.abs.symm.trans q.abs)
theorem Vals.inj:∀ {xs ys:List V}{us:List Value},Vals xs us->Vals ys us->xs=ys:=by
 intro xs ys us h;induction h generalizing ys with
 | nil=>intro h2;cases h2;rfl
 | cons r t ih=>
  intro h2;cases h2 with
  | cons r' t'=>rw[r.inj r',ih t']
section
variable {X:Cx}{pins:List (Addr×Obj)}{σ:St}{H:Hp}{s:Shared}{a:Addr}{xs ys:List V}
theorem SqL.of {K:Xa}(h:H a=some (.lst xs)):SqL K H a xs:=.inl (.inl h)
theorem SqT.of {K:Xa}(h:H a=some (.tup xs)):SqT K H a xs:=.inl (.inl h)
theorem Inv.list (I:Inv X pins σ H s)(h:SqL X.K H a xs):∃its:List Value,Vals xs its/\PlainL s.heap a its.toArray/\xs.length<=sizeLine:=by
 rcases h with h | ⟨o,its,n,hk,hc,hd,hs,hz,r⟩
 ·obtain⟨z,its,n,r,e⟩:=h.ok I.hok;exact⟨its,r,⟨_,n,e,rfl,rfl,rfl⟩,z⟩
 ·refine⟨its.toList,r,⟨o,n,I.kIn a o hk,hc,hd,by simpa using hs⟩,?_⟩;have e:=r.length;simp only[Yr]at e;lia
theorem Inv.tuple (I:Inv X pins σ H s)(h:SqT X.K H a xs):∃its:List Value,Vals xs its/\IsTup s.heap a its.toArray/\xs.length<=sizeLine:=by
 rcases h with h | ⟨o,its,n,hk,hc,hs,hz,r,_⟩
 ·obtain⟨z,its,r,p⟩:=h.ok I.hok;exact⟨its,r,p.tup,z⟩
 ·refine⟨its.toList,r,⟨o,I.kIn a o hk,hc,n,by simpa using hs⟩,?_⟩;have e:=r.length;simp only[Yr]at e;lia
theorem Inv.zdz (I:Inv X pins σ H s)(h:SqL X.K H a xs)(h':SqL X.K H a ys):xs=ys:=by
 obtain⟨its,r,⟨o,n,e,_,_,d⟩,_⟩:=I.list h;obtain⟨its',r',⟨o',n',e',_,_,d'⟩,_⟩:=I.list h';rw[e]at e';cases e';rw[d]at d';injection d' with d1 _;have:its=its':=by simpa using congrArg Array.toList d1
 subst this;exact r.inj r'
theorem Inv.zgK (I:Inv X pins σ H s)(h:SqT X.K H a xs)(h':SqT X.K H a ys):xs=ys:=by
 obtain⟨its,r,⟨o,e,_,n,d⟩,_⟩:=I.tuple h;obtain⟨its',r',⟨o',e',_,n',d'⟩,_⟩:=I.tuple h';rw[e]at e';cases e';rw[d]at d';injection d' with d1 _;have:its=its':=by simpa using congrArg Array.toList d1
 subst this;exact r.inj r'
end
noncomputable abbrev Cx.wish (X:Cx)(E:Value->Shared->Prop):Cx:={ X with xe:=E }
noncomputable abbrev Cx.nox (X:Cx):Cx:=X.wish λ_ _=>False
theorem Cx.Ok.wish {X:Cx}(ok:X.Ok)(E:Value->Shared->Prop):(X.wish E).Ok:=
 ⟨ok.mod,ok.kind,ok.glob,ok.blt,ok.above,ok.inj,ok.has,ok.cab,ok.hd,ok.frames,ok.stk,ok.exf,ok.bs,ok.bsz,ok.noex,ok.exfs,ok.funs,ok.frf⟩
theorem Cx.Ok.zex {X:Cx}{E:Value->Shared->Prop}(ok:(X.wish E).Ok):X.Ok:=
 ⟨ok.mod,ok.kind,ok.glob,ok.blt,ok.above,ok.inj,ok.has,ok.cab,ok.hd,ok.frames,ok.stk,ok.exf,ok.bs,ok.bsz,ok.noex,ok.exfs,ok.funs,ok.frf⟩
section
variable {X:Cx}{pins:List (Addr×Obj)}{σ:St}{H:Hp}{s:Shared}{E:Value->Shared->Prop}
theorem Inv.wish (I:Inv X pins σ H s)(E:Value->Shared->Prop):Inv (X.wish E) pins σ H s:=⟨I.ok.wish E,I.os,I.bare,I.base,I.loc,I.cell,I.free,I.freeC,I.pin,I.hok,I.len⟩
theorem Inv.zex (I:Inv (X.wish E) pins σ H s):Inv X pins σ H s:=⟨I.ok.zex,I.os,I.bare,I.base,I.loc,I.cell,I.free,I.freeC,I.pin,I.hok,I.len⟩
theorem SP.zex {D:Ends}{f:Flow}{s':Shared}(h:SP (X.wish E) pins D f s'):SP X pins D f s':=by
 cases f with
 | next=>obtain⟨σ',H',I,q⟩:=h;exact⟨σ',H',I.zex,q⟩
 | brk=>obtain⟨σ',H',I,q⟩:=h;exact⟨σ',H',I.zex,q⟩
 | cont=>obtain⟨σ',H',I,q⟩:=h;exact⟨σ',H',I.zex,q⟩
 | ret u=>obtain⟨v,σ',H',I,r,q⟩:=h;exact⟨v,σ',H',I.zex,r,q⟩
theorem PSs.nox {st:List Stmt}{t:TS}(h:PSs X.nox st t):PSs X st t:=λpins s σ H D I hw=>
 wpAny_mono (h pins s σ H D (I.wish _) hw) (λ_ _ q=>q.zex) λ_ _ z=>False.elim z
end
section
variable {X:Cx}{st:Stmt}{rest:List Stmt}{t u:TS}{e:Expr}{te:TE}{pos:Pos}
noncomputable def zqK:TS:=λD σ H=>D.nx σ H
noncomputable def tSeq (t u:TS):TS:=λD σ H=>t { D with nx:=u D } σ H
theorem zhN:PSs X [] zqK:=λ_ _ σ H _ I h=>wpAny_execs_nil ⟨σ,H,I,h⟩
theorem zaK (h1:PS X st t)(h2:PSs X rest u):PSs X (st::rest) (tSeq t u):=by
 intro pins s σ H D I h;refine wpAny_execs_cons (thn (h1 pins s σ H { D with nx:=u D } I h) λf s1 q=>?_);cases f with
 | next=>
  obtain⟨σ',H',I',q⟩:=q;exact h2 pins s1 σ' H' D I' q
 | ret v=>exact q
 | brk=>exact q
 | cont=>exact q
theorem zeb (h1:PS X st t):PSs X [st] t:=by
 intro pins s σ H D I h;refine wpAny_execs_cons (thn (h1 pins s σ H D I h) λf s1 q=>?_);cases f with
 | next=>exact wpAny_execs_nil q
 | ret v=>exact q
 | brk=>exact q
 | cont=>exact q
theorem Inv.quiet {pins:List (Addr×Obj)}{σ:St}{H:Hp}{s:Shared}(I:Inv X pins σ H s):interactive X.env=false:=by simp[interactive,I.ok.kind]
noncomputable def zqL (te:TE):TS:=λD σ H=>te σ H λ_ H1=>D.nx σ H1
theorem zga (he:PE X e te)(hs:autoParam (swapsWith e none pos.line X.env=pure false) aU0):PS X (.Expr e pos) (zqL te):=by
 intro pins s σ H D I h;exact wpAny_Expr_any (thn (he pins s σ H _ I h) λv s1 q6q=>by obtain⟨x,H1,I1,r1,q1⟩:=q6q;exact⟨σ,H1,I1,q1⟩) I.quiet hs
noncomputable def tRet (te:TE):TS:=λD σ H=>te σ H D.rt
theorem zke (he:PE X e te):PS X (.Return (some e) pos) (tRet te):=by
 intro pins s σ H D I h;exact wpAny_Return_some (thn (he pins s σ H _ I h) λv s1 q7q=>by obtain⟨x,H1,I1,r1,q1⟩:=q7q;exact⟨x,σ,H1,I1,r1,q1⟩)
noncomputable def tIfS (c:TT)(t u:TS):TS:=λD σ H=>c σ H λb H1=>if b=true then t D σ H1 else u D σ H1
theorem znJ {c:Expr}{a b:List Stmt}{tc:TT}(hc:PT X c tc)(ha:PSs X a t)(hb:PSs X b u):PS X (.If c a b pos) (tIfS tc t u):=by
 intro pins s σ H D I h;refine wpAny_If (thn (hc pins s σ H _ I h) λd s1 q8q=>?_);obtain⟨H1,I1,q1⟩:=q8q;cases d with
 | true=>exact ha pins s1 σ H1 D I1 q1
 | false=>exact hb pins s1 σ H1 D I1 q1
end
noncomputable abbrev TG:=V->St->Hp->(St->Hp->Prop)->Prop
noncomputable abbrev TGs:=List V->St->Hp->(St->Hp->Prop)->Prop
noncomputable def PG (X:Cx)(target:Expr)(t:TG):Prop:=
 ∀(pins:List (Addr×Obj)) (s:Shared) (σ:St) (H:Hp) (v:V) (u:Value) (Q:St->Hp->Prop),Inv X pins σ H s->RelV v u->t v σ H Q->
  wpAny (model X.prog X.w) X.A (assign target X.env u) (λ_ s'=>∃σ' H',Inv X pins σ' H' s'/\Q σ' H') X.xe s
noncomputable def PGs (X:Cx)(ts:List Expr)(t:TGs):Prop:=
 ∀(pins:List (Addr×Obj)) (s:Shared) (σ:St) (H:Hp) (vs:List V) (us:List Value) (Q:St->Hp->Prop),Inv X pins σ H s->Vals vs us->t vs σ H Q->
  wpAny (model X.prog X.w) X.A (assignInOrder ((assignEach ts X.env).map (·.2)) us) (λ_ s'=>∃σ' H',Inv X pins σ' H' s'/\Q σ' H') X.xe s
noncomputable abbrev TSet:=V->V->V->Hp->(Hp->Prop)->Prop
noncomputable def PSet (X:Cx)(t:TSet):Prop:=
 ∀(pins:List (Addr×Obj)) (s:Shared) (σ:St) (H:Hp) (o i v:V) (ov iv u:Value) (Q:Hp->Prop),Inv X pins σ H s->RelV o ov->RelV i iv->RelV v u->t o i v H Q->
  wpAny (model X.prog X.w) X.A (setItem ov iv u) (λ_ s'=>∃H',Inv X pins σ H' s'/\Q H') X.xe s
section
variable {X:Cx}{pos:Pos}
noncomputable def zkf (i:Nat):TG:=λv σ H Q=>Q (σ.set i (some v)) H
theorem znK {i:Nat}{x:Str}(hN:X.N.Nodup)(hi:X.N[i]? = some x)(hx:Loc X.env.scope x)(hf:autoParam (X.fn x=true\/X.env.scope.names.lookup x=some .local) aU3):PG X (.Name x pos) (zkf i):=by
 intro pins s σ H v u Q I r h;exact wpAny_assign_Name (zeH I hN hi hx r (λs' I'=>⟨_,H,I',h⟩) hf)
noncomputable def gNil:TGs:=λvs σ H Q=>vs=[]/\Q σ H
noncomputable def zqM (t:TG)(u:TGs):TGs:=λvs σ H Q=>∃v r,vs=v::r/\t v σ H λσ' H'=>u r σ' H' Q
theorem znL:PGs X [] gNil:=by
 intro pins s σ H vs us Q I r h;obtain⟨e,h⟩:=h;subst e;cases r;exact assignInOrder_nil ⟨σ,H,I,h⟩
theorem zmb {e:Expr}{es:List Expr}{t:TG}{u:TGs}(h1:PG X e t)(h2:PGs X es u)
  (hs:autoParam ((assignEach (e::es) X.env).map (·.2)=assign e X.env::(assignEach es X.env).map (·.2)) aU0):PGs X (e::es) (zqM t u):=by
 intro pins s σ H vs us Q I r h;obtain⟨v,vr,e1,h⟩:=h;subst e1;cases r with
 | cons r rr=>
  rw[hs];refine assignInOrder_cons (thn (h1 pins s σ H _ _ _ I r h) λ_ s1 q9q=>?_);obtain⟨σ1,H1,I1,q1⟩:=q9q;exact h2 pins s1 σ1 H1 _ _ Q I1 rr q1
noncomputable def gTup (K:Xa)(n:Nat)(t:TGs):TG:=λv σ H Q=>∃a xs,v=.ref a/\SqT K H a xs/\xs.length=n/\t xs σ H Q
theorem zpi {es:List Expr}{k:Nat}{t:TGs}{n:Nat}(hc:X.calm=true)(h:PGs X es t)
  (hn:autoParam ((assignEach es X.env).length=n) aU0) (hst:autoParam ((assignEach es X.env).findIdx? (·.1)=none) aU0):PG X (.Tuple es k pos) (gTup X.K n t):=by
 intro pins s σ H v u Q I r hw;obtain⟨a,xs,e1,hq,hl,hw⟩:=hw;subst e1;cases r;obtain⟨its,rv,ht,hz⟩:=I.tuple hq;refine assign_Tuple_tuple (I.ok.hd hc) ht (by simp[hn,<- hl,rv.length]) hst λh' hx=>?_;have I1:Inv X pins σ H { s with heap:=h' }:=I.kept (t':=s.toks) λb o e=>hx b o (XD (Xs e)) e;exact h pins _ σ H xs _ Q I1 (by simpa using rv) hw
noncomputable def gSub (to ti:TE)(t:TSet):TG:=λv σ H Q=>to σ H λo H1=>ti σ H1 λi H2=>t o i v H2 λH3=>Q σ H3
theorem zng {o i:Expr}{to ti:TE}{t:TSet}(ho:PE X o to)(hi:PE X i ti)(hs:PSet X t)
  (ha:autoParam (∀v,assign (.Subscript o i pos) X.env v=(do
   let ov <- holding [v] (eval o X.env);let iv <- holding [v,ov] (eval i X.env)
   standAt pos
   holding [v,ov,iv] (setItem ov iv v)
   release [v,ov,iv] [])) aU5):PG X (.Subscript o i pos) (gSub to ti t):=by
 intro pins s σ H v u Q I r h;rw[ha];refine wpAny_bind (wpAny_holding (thn (ho pins s σ H _ I h) λov s1 q10q=>?_));obtain⟨x,H1,I1,r1,q1⟩:=q10q;refine wpAny_bind (wpAny_holding (thn (hi pins s1 σ H1 _ I1 q1) λiv s2 q11q=>?_));obtain⟨y,H2,I2,r2,q2⟩:=q11q;refine wpAny_bind (wpAny_standAt (wpAny_bind (wpAny_holding (thn (hs pins s2 σ H2 x y v ov iv u _ I2 r1 r2 r q2) λ_ s3 q12q=>?_))));obtain⟨H3,I3,q3⟩:=q12q;exact wpAny_release ⟨σ,H3,I3,q3⟩
noncomputable def tAsg (te:TE)(g:TG):TS:=λD σ H=>te σ H λx H1=>g x σ H1 D.nx
theorem znh {tg e:Expr}{te:TE}{g:TG}(he:PE X e te)(hg:PG X tg g)(hs:autoParam (swapsWithSole [tg] e pos.line X.env=pure false) aU0)(hw:autoParam (swappedStores [tg] e X.env=pure none) aU0)
  (h1:autoParam ((assignEach [tg] X.env).map (·.2)=[assign tg X.env]) aU0):PS X (.Assign [tg] e pos) (tAsg te g):=by
 intro pins s σ H D I h;refine wpAny_Assign_stores (thn (he pins s σ H _ I h) λv s1 q13q=>?_) hs hw;obtain⟨x,H1,I1,r1,q1⟩:=q13q;rw[h1];exact thn (hg pins s1 σ H1 x v _ I1 r1 q1) λ_ s2 q=>q
theorem zeN {i:Nat}{x:Str}{e:Expr}{te:TE}{pos':Pos}(hN:X.N.Nodup)(hi:X.N[i]? = some x)(hx:Loc X.env.scope x)(he:PE X e te)(hs:autoParam (swapsWith e (some (.Name x pos')) pos.line X.env=pure false) aU0)(hf:autoParam (X.fn x=true\/X.env.scope.names.lookup x=some .local) aU3) :
  PS X (.Assign [.Name x pos'] e pos) (tAsg te (zkf i)):=by
 intro pins s σ H D I h;refine wpAny_Assign_Name (thn (he pins s σ H _ I h) λv s1 q14q=>?_) hs;obtain⟨y,H1,I1,r1,q1⟩:=q14q;exact zeH I1 hN hi hx r1 (λs2 I2=>⟨_,H1,I2,q1⟩) hf
noncomputable def tPar (i j:Nat)(ta:TA):TS:=λD σ H=>ta σ H λvs H1=>∃v w,vs=[v,w]/\D.nx ((σ.set i (some v)).set j (some w)) H1
theorem zpj {i j:Nat}{x y:Str}{a b:Expr}{ta:TA}{px py pt:Pos} {kt k2 pt2}(hc:X.calm=true)(hN:X.N.Nodup)(hi:X.N[i]? = some x)(hj:X.N[j]? = some y)(hij:i≠j)
  (hx:X.env.scope.names.lookup x=some .local) (hy:X.env.scope.names.lookup y=some .local) (ha:PA X [a,b] ta)
  (hw:swappedStores [.Tuple [.Name x px,.Name y py] kt pt] (.Tuple [a,b] k2 pt2) X.env=pure (some [x,y]))
  (hs:autoParam (swapsWithSole [.Tuple [.Name x px,.Name y py] kt pt] (.Tuple [a,b] k2 pt2) pos.line X.env=pure false) aU0) :
  PS X (.Assign [.Tuple [.Name x px,.Name y py] kt pt] (.Tuple [a,b] k2 pt2) pos) (tPar i j ta):=by
 intro pins s σ H D I h;rw[exec_Assign_arm];refine wpAny_bind (wpAny_standAt ?_);rw[hs];refine wpAny_bind (wpAny_pure ?_);rw[if_neg (by decide)];refine wpAny_bind (Tuple_ (thn (ha _ pins s σ H _ I h) λus s1 q15q=>?_));obtain⟨vs,H1,I1,r1,q1⟩:=q15q;obtain⟨v,w,e1,q1⟩:=q1;subst e1;obtain⟨u1,u2,rfl,rv,rw'⟩:∃u1 u2,us=[u1,u2]/\RelV v u1/\RelV w u2:=by
  cases r1 with
  | cons p q=>
   cases q with
   | cons p' q'=>
    cases q';exact⟨_,_,rfl,p,p'⟩
 refine wpAny_newObj_type ?_ (by show 2<=sizeLine;decide);have I2:Inv X pins σ H1 { s1 with heap:=s1.heap.push { cls:=.type "tuple",data:=.seq [u1,u2].toArray } }:=I1.kept (t':=s1.toks) λb o e=>Xe _ e;rw[hw];refine wpAny_bind (wpAny_pure ?_);show wpAny (model X.prog X.w) X.A (do rule "assign.swapped-stores";let items <- unpackItems (.ref s1.heap.objs.size) 2 none;assignInOrder [λv=>bindName X.env y v,λv=>bindName X.env x v] items.reverse;pure Flow.next) _ _ _
 refine wpAny_bind (wpAny_rule (wpAny_bind (unpackItems_tuple (items:=#[u1,u2]) (I.ok.hd hc) (IsTup.new s1.heap _) λh' hx'=>?_)));have I3:=I2.kept (h':=h') (t':=s1.toks) λb o e=>hx' b o (XD (Xs e)) e;show wpAny _ _ (assignInOrder [λv=>bindName X.env y v,λv=>bindName X.env x v] [u2,u1] >>= λ_=>pure Flow.next) _ _ _
 refine wpAny_bind (assignInOrder_cons (wpAny_bindName (zeH I3 hN hj (.inl hy) rw' (λs2 I4=>?_) (.inr hy))));refine assignInOrder_cons (wpAny_bindName (zeH I4 hN hi (.inl hx) rv (λs3 I5=>assignInOrder_nil (wpAny_pure ?_)) (.inr hx)));rw[List.set_comm _ _ (Ne.symm hij)]at I5;exact⟨_,H1,I5,q1⟩
end
section
variable {X:Cx}{pos:Pos}
noncomputable def zpk (c:TT)(tb:TS):TS:=λD σ H=>∃W:Nat->St->Hp->Prop,(∃m,W m σ H)/\∀m σ H,W m σ H->
 c σ H λb H1=>if b=true then ∃N:St->Hp->Prop,(∀σ' H',N σ' H'->∃m',m'<m/\W m' σ' H')/\tb { D with nx:=N,ct:=N,bk:=D.nx } σ H1 else D.nx σ H1
theorem zio {c:Expr}{body:List Stmt}{tc:TT}{tb:TS}(hp:PassesOwn (model X.prog X.w) X.A X.env X.xe)(hc:PT X c tc)(hb:PSs X body tb):PS X (.While c body [] pos) (zpk tc tb):=by
 intro pins s σ H D I h;obtain⟨W,⟨m0,w0⟩,turn⟩:=h;refine wpAny_While (codeAny_whileLoop (λn s'=>∃σ' H',Inv X pins σ' H' s'/\W n σ' H') ?_ m0 ⟨σ,H,I,w0⟩);rintro n s1 ⟨σ1,H1,I1,w1⟩;refine wpAny_passesOwn hp (thn (hc pins s1 σ1 H1 _ I1 (turn n σ1 H1 w1)) λb s2 q16q=>?_);obtain⟨H2,I2,q2⟩:=q16q;cases b with
 | true=>
  obtain⟨N,hN,q2⟩:=q2;rw[if_pos rfl];refine wpAny_passesOwn hp (thn (hb pins s2 σ1 H2 _ I2 q2) λf s3 q3=>?_);cases f with
  | next=>
   obtain⟨σ3,H3,I3,n3⟩:=q3;obtain⟨m',hm,w3⟩:=hN σ3 H3 n3;exact⟨m',hm,σ3,H3,I3,w3⟩
  | cont=>
   obtain⟨σ3,H3,I3,n3⟩:=q3;obtain⟨m',hm,w3⟩:=hN σ3 H3 n3;exact⟨m',hm,σ3,H3,I3,w3⟩
  | brk=>exact q3
  | ret v=>exact q3
 | false=>
  rw[if_neg Xi];exact wpAny_execs_nil ⟨σ1,H2,I2,q2⟩
end
structure It where
 go:Nat->Hp->Prop
 yld:Nat->Hp->V->Hp->Prop
 stop:Nat->Hp->Prop
noncomputable def FpOk (X:Cx)(pins:List (Addr×Obj))(H:Hp)(b:Addr):Prop:=
 H b=none/\b≠X.env.locals/\b∉X.fs/\(b∈X.ex\/X.s₀.heap.objs.size<=b)/\(∀x c,X.env.cells.lookup x=some c->c≠b)/\∀p∈X.pn++pins,p.1≠b
theorem Inv.fpOk {X:Cx}{pins:List (Addr×Obj)}{σ:St}{H H':Hp}{s:Shared}{b:Addr}(I:Inv X pins σ H s)(hb:s.heap.objs.size<=b)(hn:H' b=none):FpOk X pins H' b:=by
 refine⟨hn,Nat.ne_of_gt (XE I.lt hb),I.nofs hb,.inr (Yu I.sz hb),λx c e z=>?_,λp hp z=>?_⟩
 ·obtain⟨v,q⟩:=I.cell x c e;exact absurd (XE q.lt (by rw[z];exact hb)) (Yo _)
 ·exact absurd (XE (Xs (I.pin p hp).1) (by rw[z];exact hb)) (Yo _)
structure Turn (P:Program)(w:World)(K:Xa)(tg:Expr)(J:It)(fp:List Addr)(it:Addr)(tn:Nat->Heap->Prop):Prop where
 mem:it∈fp
 obj:∀i h,tn i h->∀b∈fp,∃o,h.get? b=some o/\∀v,o.data≠.cell v
 keep:∀i h h',tn i h->(∀b∈fp,∀o,h.get? b=some o->h'.get? b=some o)->tn i h'
 item:∀(X:Cx),X.prog=P->X.w=w->X.K=K->X.calm=true->∀(i:Nat) (pins:List (Addr×Obj)) (s:Shared) (σ:St) (H:Hp) (E:Value->Shared->Prop),Inv X pins σ H s->(∀b∈fp,FpOk X pins H b)->tn i s.heap->J.go i H->
  wpAny (model P w) X.A (pyNext (.ref it)) (λr s1=>∃u,r=some u/\
   wpAny (model P w) X.A (letOwnedTupleGo tg (.ref it) u) (λ_ s2=>∃x H',Inv X pins σ H' s2/\RelV x u/\J.yld i H x H'/\tn (i+1) s2.heap/\∀b∈fp,H' b=none) E s1) E s
 done:∀(X:Cx),X.prog=P->X.w=w->X.K=K->X.calm=true->∀(i:Nat) (pins:List (Addr×Obj)) (s:Shared) (σ:St) (H:Hp) (E:Value->Shared->Prop),Inv X pins σ H s->(∀b∈fp,FpOk X pins H b)->tn i s.heap->J.stop i H->
  wpAny (model P w) X.A (pyNext (.ref it)) (λr s1=>r=none/\Inv X pins σ H s1) E s
 self:∀(A:Around) (i:Nat) (s:Shared) (Q:Value->Shared->Prop) (E:Value->Shared->Prop),tn i s.heap->Q (.ref it) s->wpAny (model P w) A (pyIter (.ref it)) Q E s
noncomputable abbrev TI:=St->Hp->(It->Hp->Prop)->Prop
noncomputable def PIE (X:Cx)(pins:List (Addr×Obj))(σ:St)(tg:Expr)(R:It->Hp->Prop)(itv:Value)(s2:Shared):Prop:=
 ∃(it:Addr) (fp:List Addr) (tn:Nat->Heap->Prop) (J:It) (H':Hp),itv=.ref it/\Inv X pins σ H' s2/\Turn X.prog X.w X.K tg J fp it tn/\tn 0 s2.heap/\(∀b∈fp,FpOk X pins H' b)/\R J H'
noncomputable def PI (X:Cx)(tg iter:Expr)(wi:TI):Prop:=
 ∀(pins:List (Addr×Obj)) (s:Shared) (σ:St) (H:Hp) (R:It->Hp->Prop),Inv X pins σ H s->wi σ H R->
  wpAny (model X.prog X.w) X.A (eval iter X.env) (λv s1=>wpAny (model X.prog X.w) X.A (pyIter v) (PIE X pins σ tg R) X.xe s1) X.xe s
theorem znM {M:Model}{A:Around}{E:Value->Shared->Prop}{s:Shared}{tg:Expr}{it:Addr}{u:Value}{o:Obj}{n:String}{vs:Array Value}{Q:Unit->Shared->Prop}(ho:s.heap.get? it=some o)(hc:o.cls=.type n)(hd:o.data=.fields vs)
    (hn:["enumerate","zip","dict_itemiterator","dict_reverseitemiterator","odict_iterator","itertools.zip_longest","itertools.pairwise"].contains n=false) (hQ:Q () s):wpAny M A (letOwnedTupleGo tg (.ref it) u) Q E s:=by
  unfold letOwnedTupleGo;cases tg<;>first
    | exact wpAny_pure hQ
    | (cases u<;>first
        | exact wpAny_pure hQ
        | (refine wpAny_bind (wpAny_load ho ?_)
           rw[hc,hd];show wpAny M A (if (["enumerate","zip","dict_itemiterator","dict_reverseitemiterator","odict_iterator","itertools.zip_longest","itertools.pairwise"].contains n&&vs[0]? == some (rawInt _))=true then _ else _) Q E s
           rw[if_neg (by intro h;rw[hn,Bool.false_and]at h;cases h)];exact wpAny_pure hQ))
noncomputable def Itl (K:Xa)(a:Addr):It:=
 ⟨λi H=>∃xs x,SqL K H a xs/\xs[i]? = some x,λi H x H'=>H'=H/\∀xs,SqL K H a xs->xs[i]? = some x,λi H=>∃xs,SqL K H a xs/\xs.length<=i⟩
noncomputable def Itt (K:Xa)(a:Addr):It:=
 ⟨λi H=>∃xs x,SqT K H a xs/\xs[i]? = some x,λi H x H'=>H'=H/\∀xs,SqT K H a xs->xs[i]? = some x,λi H=>∃xs,SqT K H a xs/\xs.length<=i⟩
noncomputable def Itr (lo:Int)(n:Nat):It:=⟨λi _=>i<n,λi H x H'=>H'=H/\x=.int (lo+i),λi _=>n<=i⟩
theorem zkg {P:Program}{w:World}{K:Xa}{tg:Expr}(a it:Addr):Turn P w K tg (Itl K a) [it] it (λi h=>h.IsListIter it a i) where
 mem:=by simp
 obj:=λi h st b hb=>by
  have e:b=it:=by simpa using hb
  subst e;obtain⟨o,e,c,d⟩:=st;exact⟨o,e,λv z=>by rw[d]at z;cases z⟩
 keep:=λi h h' st k=>st.at λo e=>k it (by simp) o e
 item:=by
  intro X hP hw hK hc i pins s σ H E I hf st hg;subst hP hw hK;obtain⟨xs,x,hq,hx⟩:=hg;obtain⟨its,rv,p,hz⟩:=I.list hq;obtain⟨u,hu,ru⟩:=rv.get hx;obtain⟨f0,f1,f2,f3,f4,f5⟩:=hf it (by simp);refine wpAny_pyNext_list_item st p.isList (x:=u) (by simpa using hu) λh' st' sb=>?_;have I1:Inv X pins σ H { s with heap:=h' }:=I.turned (t':=s.toks) (λb o hb e=>(sb.2 b hb).trans e) f0 f1 f3 f4 f5;obtain⟨o,e,c,d⟩:=id st';exact⟨u,rfl,znM (s:={ s with heap:=h' }) e c d (by decide) ⟨x,H,I1,ru,⟨rfl,λys hy=>by rw[I.zdz hy hq];exact hx⟩,st',λb hb=>(hf b hb).1⟩⟩
 done:=by
  intro X hP hw hK hc i pins s σ H E I hf st hg;subst hP hw hK;obtain⟨xs,hq,hx⟩:=hg;obtain⟨its,rv,p,hz⟩:=I.list hq;obtain⟨f0,f1,f2,f3,f4,f5⟩:=hf it (by simp);have hl:=rv.length;exact wpAny_pyNext_list_end (I.ok.hd hc) st p.isList (by simp;lia) λh' eb=>⟨rfl,I.turned (t':=s.toks) (λb o hb e=>eb b o hb e) f0 f1 f3 f4 f5⟩
 self:=λ_ _ _ _ _ st h=>wpAny_pyIter_listiter st h
theorem zjs {P:Program}{w:World}{K:Xa}{tg:Expr}(a it:Addr):Turn P w K tg (Itt K a) [it] it (λi h=>h.IsTupleIter it a i) where
 mem:=by simp
 obj:=λi h st b hb=>by
  have e:b=it:=by simpa using hb
  subst e;obtain⟨o,e,c,d⟩:=st;exact⟨o,e,λv z=>by rw[d]at z;cases z⟩
 keep:=λi h h' st k=>st.at λo e=>k it (by simp) o e
 item:=by
  intro X hP hw hK hc i pins s σ H E I hf st hg;subst hP hw hK;obtain⟨xs,x,hq,hx⟩:=hg;obtain⟨its,rv,p,hz⟩:=I.tuple hq;obtain⟨u,hu,ru⟩:=rv.get hx;obtain⟨f0,f1,f2,f3,f4,f5⟩:=hf it (by simp);refine wpAny_pyNext_tuple_item st (show s.heap.IsTuple a its.toArray from p) (x:=u) (by simpa using hu) λh' st' sb=>?_;have I1:Inv X pins σ H { s with heap:=h' }:=I.turned (t':=s.toks) (λb o hb e=>(sb.2 b hb).trans e) f0 f1 f3 f4 f5;obtain⟨o,e,c,d⟩:=id st';exact⟨u,rfl,znM (s:={ s with heap:=h' }) e c d (by decide) ⟨x,H,I1,ru,⟨rfl,λys hy=>by rw[I.zgK hy hq];exact hx⟩,st',λb hb=>(hf b hb).1⟩⟩
 done:=by
  intro X hP hw hK hc i pins s σ H E I hf st hg;subst hP hw hK;obtain⟨xs,hq,hx⟩:=hg;obtain⟨its,rv,p,hz⟩:=I.tuple hq;obtain⟨f0,f1,f2,f3,f4,f5⟩:=hf it (by simp);have hl:=rv.length;exact wpAny_pyNext_tuple_end (I.ok.hd hc) st (show s.heap.IsTuple a its.toArray from p) (by simp;lia) λh' eb=>⟨rfl,I.turned (t':=s.toks) (λb o hb e=>eb b o hb e) f0 f1 f3 f4 f5⟩
 self:=λ_ _ _ _ _ st h=>wpAny_pyIter_tupleiter st h
theorem zjt {P:Program}{w:World}{K:Xa}{tg:Expr}(it:Addr)(lo:Int)(n:Nat):Turn P w K tg (Itr lo n) [it] it (λi h=>IsRangeIter h it (lo+(i:Nat)*1) ((n:Int)-(i:Nat)) 1) where
 mem:=by simp
 obj:=λi h st b hb=>by
  have e:b=it:=by simpa using hb
  subst e;exact⟨_,st,λv z=>by
   have z':Data.fields _=Data.cell v:=z;cases z'⟩
 keep:=λi h h' st k=>k it (by simp) _ st
 item:=by
  intro X hP hw hK hc i pins s σ H E I hf st hg;subst hP hw hK;obtain⟨f0,f1,f2,f3,f4,f5⟩:=hf it (by simp);have W:=Walks.range (prog:=X.prog) (w:=X.w) (I.ok.hd hc) it lo 1 n;refine W.item i s _ _ hg st λv h' tk hv st' kk=>?_;obtain⟨t,rfl⟩:=hv;have I1:Inv X pins σ H { s with heap:=h',toks:=tk }:=I.turned (λb o hb e=>kk b o (by simpa using hb) e) f0 f1 f3 f4 f5;refine⟨_,rfl,znM (s:={ s with heap:=h',toks:=tk }) (n:="range_iterator") st' rfl rfl (by decide) ⟨.int (lo+i),H,I1,⟨t,?_⟩,⟨rfl,rfl⟩,st',λb hb=>(hf b hb).1⟩⟩;rw[Int.mul_one]
 done:=by
  intro X hP hw hK hc i pins s σ H E I hf st hg;subst hP hw hK;obtain⟨f0,f1,f2,f3,f4,f5⟩:=hf it (by simp);exact wpAny_pyNext_range_end (I.ok.hd hc) st (by have:n<=i:=hg;lia) λh' eb=>⟨rfl,I.turned (t':=s.toks) (λb o hb e=>eb b o hb e) f0 f1 f3 f4 f5⟩
 self:=λ_ _ _ _ _ st h=>wpAny_pyIter_rangeiter st h
section
variable {X:Cx}{tg:Expr}
noncomputable def zqN (K:Xa)(tl:TE):TI:=λσ H R=>tl σ H λx H1=>∃a,x=.ref a/\(∃xs,SqL K H1 a xs)/\R (Itl K a) H1
noncomputable def iTup (K:Xa)(tl:TE):TI:=λσ H R=>tl σ H λx H1=>∃a,x=.ref a/\(∃xs,SqT K H1 a xs)/\R (Itt K a) H1
theorem znN {l:Expr}{tl:TE}(hl:PE X l tl):PI X tg l (zqN X.K tl):=by
 intro pins s σ H R I h;refine thn (hl pins s σ H _ I h) λv s1 q17q=>?_;obtain⟨x,H1,I1,r1,q1⟩:=q17q;obtain⟨a,e,⟨xs,hq⟩,q⟩:=q1;subst e;cases r1;obtain⟨its,rv,p,hz⟩:=I1.list hq;refine wpAny_pyIter_list p.isList ?_;refine⟨s1.heap.objs.size,[s1.heap.objs.size],_,_,H1,rfl,I1.kept (t':=s1.toks) λb o e=>Xe _ e,zkg a _,⟨_,Xx _ rfl,rfl,rfl⟩,λb hb=>?_,q⟩;have e:b=s1.heap.objs.size:=by simpa using hb
 subst e;exact I1.fpOk (Xf _) (I1.hok.fresh (Xf _))
theorem zpl {l:Expr}{tl:TE}(hl:PE X l tl):PI X tg l (iTup X.K tl):=by
 intro pins s σ H R I h;refine thn (hl pins s σ H _ I h) λv s1 q18q=>?_;obtain⟨x,H1,I1,r1,q1⟩:=q18q;obtain⟨a,e,⟨xs,hq⟩,q⟩:=q1;subst e;cases r1;obtain⟨its,rv,p,hz⟩:=I1.tuple hq;refine wpAny_pyIter_tuple (show s1.heap.IsTuple a its.toArray from p) ?_;refine⟨s1.heap.objs.size,[s1.heap.objs.size],_,_,H1,rfl,I1.kept (t':=s1.toks) λb o e=>Xe _ e,zjs a _,⟨_,Xx _ rfl,rfl,rfl⟩,λb hb=>?_,q⟩;have e:b=s1.heap.objs.size:=by simpa using hb
 subst e;exact I1.fpOk (Xf _) (I1.hok.fresh (Xf _))
theorem zmc {pins:List (Addr×Obj)}{σ:St}{H:Hp}{s:Shared}{R:It->Hp->Prop}{E:Value->Shared->Prop}{lo hi:Int}{t u v:Tok}{tk:Nat}(I:Inv X pins σ H s)(h1:-(2 ^ 62)<=lo)(h2:lo<2 ^ 62)(h3:-(2 ^ 62)<=hi)(h4:hi<2 ^ 62)
  (q:R (Itr lo (hi-lo).toNat) H):wpAny (model X.prog X.w) X.A (pyIter (.ref s.heap.objs.size)) (PIE X pins σ tg R) E { s with heap:=s.heap.push { cls:=.type "range",data:=.fields #[.int lo t,.int hi u,.int 1 v] },toks:=tk }:=by
 refine wpAny_pyIter_range (IsRange.new ..) (small_one h1 h2 h3 h4) ?_;have I1:Inv X pins σ H { s with heap:=s.heap.push { cls:=.type "range",data:=.fields #[.int lo t,.int hi u,.int 1 v] },toks:=tk }:=I.kept λb o e=>Xe _ e;refine⟨(s.heap.push { cls:=.type "range",data:=.fields #[.int lo t,.int hi u,.int 1 v] }).objs.size,[(s.heap.push { cls:=.type "range",data:=.fields #[.int lo t,.int hi u,.int 1 v] }).objs.size],_,_,H,rfl,
  I1.kept (t':=tk) λb o e=>Xe _ e,zjt _ lo (hi-lo).toNat,?_,λb hb=>?_,q⟩
 ·have e1:lo+((0:Nat):Int)*1=lo:=by simp
  have e2:(((hi-lo).toNat:Nat):Int)-((0:Nat):Int)=Builtin.Range.rangeSize lo hi 1:=by rw[rangeSize_one];split<;>lia
  show IsRangeIter _ _ (lo+((0:Nat):Int)*1) ((((hi-lo).toNat:Nat):Int)-((0:Nat):Int)) 1;rw[e1,e2];exact Xx _ rfl
 ·have e:b=(s.heap.push { cls:=.type "range",data:=.fields #[.int lo t,.int hi u,.int 1 v] }).objs.size:=by simpa using hb
  subst e;exact I1.fpOk (Xf _) (I1.hok.fresh (Xf _))
noncomputable def zqO (ta:TA):TI:=λσ H R=>ta σ H λvs H1=>∃j:Int,vs=[.int j]/\-(2 ^ 62)<=j/\j<2 ^ 62/\R (Itr 0 j.toNat) H1
theorem zkh {a:Expr}{ta:TA}{p pos:Pos}(hg:Gl X "range") (hm:X.mg "range" = none) (ha:PA X [a] ta) (hs:autoParam (starEach [a] X.env=[(false,eval a X.env)]) aU0):PI X tg (.Call (.Name "range" p) [a] [] pos) (zqO ta):=by
 intro pins s σ H R I h;refine Call_ (zfI I hg hm boot_range (PyProof.Rows.callWith_type1 (thn (ha pos pins s σ H _ I h) λus s1 q19q=>?_) hs rfl));obtain⟨vs,H1,I1,r1,q1⟩:=q19q;obtain⟨j,e,q1,q2,q⟩:=q1;subst e;cases r1 with
 | cons r rr=>
  cases rr;obtain⟨t,rfl⟩:=r;exact call_range_1 (zmc I1 (by lia) (by lia) q1 q2 (by simpa using q))
noncomputable def tFor (wi:TI)(g:TG)(tb:TS):TS:=λD σ H=>wi σ H λJ H1=>∃W:Nat->Nat->St->Hp->Prop,(∃m,W 0 m σ H1)/\∀i m σ H,W i m σ H->
 (J.stop i H/\D.nx σ H)\/(J.go i H/\∃N:St->Hp->Prop,(∀σ' H',N σ' H'->∃m',m'<m/\W (i+1) m' σ' H')/\∀x H',J.yld i H x H'->g x σ H' λσ2 H2=>tb { D with nx:=N,ct:=N,bk:=D.nx } σ2 H2)
noncomputable def zgL (fp:List Addr)(h:Heap):List (Addr×Obj):=fp.filterMap λb=>(h.get? b).map λo=>(b,o)
theorem zda {fp:List Addr}{h:Heap}{b:Addr}{o:Obj}(hb:b∈fp)(e:h.get? b=some o):(b,o)∈zgL fp h:=List.mem_filterMap.mpr ⟨b,hb,by rw[e];rfl⟩
theorem zki {fp:List Addr}{h:Heap}{p:Addr×Obj}(hp:p∈zgL fp h):p.1∈fp/\h.get? p.1=some p.2:=by
 obtain⟨b,hb,e⟩:=List.mem_filterMap.mp hp;cases q:h.get? b with
 | none=>rw[q]at e;cases e
 | some o=>
  rw[q]at e;have e':(b,o)=p:=Option.some.inj e;subst e';exact⟨hb,q⟩
theorem Inv.pinned {pins:List (Addr×Obj)}{σ:St}{H:Hp}{s:Shared}{fp:List Addr}(I:Inv X pins σ H s)(hf:∀b∈fp,FpOk X pins H b)(ho:∀b∈fp,∃o,s.heap.get? b=some o/\∀v,o.data≠.cell v):Inv X (pins++zgL fp s.heap) σ H s:=
 I.zkc λp hp=>(XT.mp hp).elim (λz=>I.pin p (XG _ z)) λz=>by
  obtain⟨hb,e⟩:=zki z;obtain⟨f0,f1,f2,_⟩:=hf p.1 hb;obtain⟨o,e',d⟩:=ho p.1 hb;rw[e]at e';cases e';exact⟨e,f0,f1,f2,d⟩
theorem Inv.zdA {pins pl:List (Addr×Obj)}{σ:St}{H:Hp}{s:Shared}(I:Inv X (pins++pl) σ H s):Inv X pins σ H s:=I.zkc λp hp=>I.pin p (XG _ (Ym _ hp))
theorem zpm {iter:Expr}{body:List Stmt}{wi:TI}{g:TG}{tb:TS}{pos:Pos}(hp:PassesOwn (model X.prog X.w) X.A X.env X.xe)(hc:X.calm=true)(hi:PI X tg iter wi)(hg:PG X tg g)(hb:PSs X body tb)
  (hs:autoParam (∀x,foldedSetIterable iter X.env x=pure x) aU5):PS X (.For tg iter body [] pos) (tFor wi g tb):=by
 intro pins s σ H D I h;refine wpAny_For (thn (hi pins s σ H _ I h) λv s1 h1=>thn h1 λitv s2 h2=>?_) hs;obtain⟨it,fp,tn,J,H2,e,I2,T,st2,f2,W,⟨m0,w0⟩,turn⟩:=h2;subst e;have stat:∀ {H':Hp},(∀b∈fp,H' b=none)->∀b∈fp,FpOk X pins H' b:=λhn b hb=>⟨hn b hb,(f2 b hb).2⟩;refine codeAny_forLoop_any (λn s'=>∃i σ' H',Inv X pins σ' H' s'/\tn i s'.heap/\(∀b∈fp,H' b=none)/\W i n σ' H') ?_ m0 ⟨0,σ,H2,I2,st2,λb hb=>(f2 b hb).1,w0⟩;rintro n s3 ⟨i,σ3,H3,I3,st3,fr3,w3⟩;rcases turn i n σ3 H3 w3 with ⟨stop,qn⟩ | ⟨go,N,hN,step⟩
 ·refine wpAny_passesOwn hp (thn (T.done X rfl rfl rfl hc i pins s3 σ3 H3 X.xe I3 (stat fr3) st3 stop) λr s4 q20q=>?_);obtain⟨hr,I4⟩:=q20q;subst hr;exact wpAny_execs_nil ⟨σ3,H3,I4,qn⟩
 ·refine wpAny_passesOwn hp (thn (T.item X rfl rfl rfl hc i pins s3 σ3 H3 X.xe I3 (stat fr3) st3 go) λr s4 q21q=>?_);obtain⟨u,hr,h4⟩:=q21q;subst hr;refine wpAny_passesOwn hp (thn h4 λ_ s5 q22q=>?_);obtain⟨x,H5,I5,r5,y5,st5,fr5⟩:=q22q;have I5':=I5.pinned (stat fr5) (T.obj _ _ st5);refine wpAny_passesOwn hp (thn (hg _ s5 σ3 H5 x u _ I5' r5 (step x H5 y5)) λ_ s6 q23q=>?_);obtain⟨σ6,H6,I6,q6⟩:=q23q;refine wpAny_passesOwn hp (thn (hb _ s6 σ6 H6 _ I6 q6) λf s7 q7=>?_);have again:∀ {σ7:St} {H7:Hp},Inv X (pins++zgL fp s5.heap) σ7 H7 s7->N σ7 H7->∃m,m<n/\∃i σ' H',Inv X pins σ' H' s7/\tn i s7.heap/\(∀b∈fp,H' b=none)/\W i m σ' H':=λ{σ7 H7} I7 n7=>by
   obtain⟨m',hm,w7⟩:=hN σ7 H7 n7;refine⟨m',hm,i+1,σ7,H7,I7.zdA,T.keep _ _ _ st5 λb hb o e=>(I7.pin (b,o) (XG _ (XG _ (zda hb e)))).1,λb hb=>?_,w7⟩;obtain⟨o,e,d⟩:=T.obj _ _ st5 b hb;exact(I7.pin (b,o) (XG _ (XG _ (zda hb e)))).2.1
  cases f with
  | next=>obtain⟨σ7,H7,I7,n7⟩:=q7;exact again I7 n7
  | cont=>obtain⟨σ7,H7,I7,n7⟩:=q7;exact again I7 n7
  | brk=>obtain⟨σ7,H7,I7,q7⟩:=q7;exact⟨σ7,H7,I7.zdA,q7⟩
  | ret v=>obtain⟨x7,σ7,H7,I7,r7,q7⟩:=q7;exact⟨x7,σ7,H7,I7.zdA,r7,q7⟩
end
noncomputable abbrev R2:=V->V->Hp->VK->Prop
noncomputable def OpR (X:Cx)(f:Value->Value->Sem Value)(r:R2):Prop:=
 ∀(pins:List (Addr×Obj)) (s:Shared) (σ:St) (H:Hp) (x y:V) (v u:Value) (Q:VK),Inv X pins σ H s->RelV x v->RelV y u->r x y H Q->
  wpAny (model X.prog X.w) X.A (f v u) (EP X pins σ Q) X.xe s
noncomputable def UnR (X:Cx)(f:Value->Sem Value)(r:V->Hp->VK->Prop):Prop:=
 ∀(pins:List (Addr×Obj)) (s:Shared) (σ:St) (H:Hp) (x:V) (v:Value) (Q:VK),Inv X pins σ H s->RelV x v->r x H Q->
  wpAny (model X.prog X.w) X.A (f v) (EP X pins σ Q) X.xe s
noncomputable def zdf (X:Cx)(f:Value)(r:List V->Hp->VK->Prop):Prop:=
 ∀(pins:List (Addr×Obj)) (s:Shared) (σ:St) (H:Hp) (xs:List V) (us:List Value) (Q:VK),Inv X pins σ H s->Vals xs us->r xs H Q->
  wpAny (model X.prog X.w) X.A (call f us) (EP X pins σ Q) X.xe s
noncomputable def TruR (X:Cx)(r:V->Hp->(Bool->Hp->Prop)->Prop):Prop:=
 ∀(pins:List (Addr×Obj)) (s:Shared) (σ:St) (H:Hp) (x:V) (v:Value) (Q:Bool->Hp->Prop),Inv X pins σ H s->RelV x v->r x H Q->
  wpAny (model X.prog X.w) X.A (truthy v) (TP X pins σ Q) X.xe s
noncomputable def tOp (r:R2)(ta tb:TE):TE:=λσ H Q=>ta σ H λx H1=>tb σ H1 λy H2=>r x y H2 Q
noncomputable def tUn (r:V->Hp->VK->Prop)(ta:TE):TE:=λσ H Q=>ta σ H λx H1=>r x H1 Q
noncomputable def rI (C:Int->Int->Prop)(g:Int->Int->V):R2:=λx y H Q=>∃i j,x=.int i/\y=.int j/\C i j/\Q (g i j) H
noncomputable def rI0 (g:Int->Int->V):R2:=λx y H Q=>∃i j,x=.int i/\y=.int j/\Q (g i j) H
noncomputable def rU (g:Int->V):V->Hp->VK->Prop:=λx H Q=>∃i,x=.int i/\Q (g i) H
section
variable {X:Cx}{a b c:Expr}{ta tb tc:TE}{pos:Pos}
theorem binT (ha:PE X a ta)(hb:PE X b tb){pins:List (Addr×Obj)}{s:Shared}{σ:St}{H:Hp}{R:V->V->Hp->Prop}(I:Inv X pins σ H s)
  (h:ta σ H λx H1=>tb σ H1 λy H2=>R x y H2) {Q:Value->Shared->Prop} {f:Value->Value->Sem Value}
  (hf:∀v u s2 x y H2,Inv X pins σ H2 s2->RelV x v->RelV y u->R x y H2->wpAny (model X.prog X.w) X.A (f v u) Q X.xe s2) :
  wpAny (model X.prog X.w) X.A (eval a X.env) (λv s₁=>wpAny (model X.prog X.w) X.A (eval b X.env) (λu s₂=>wpAny (model X.prog X.w) X.A (f v u) Q X.xe s₂) X.xe s₁) X.xe s:=by
 refine thn (ha pins s σ H _ I h) λv s1 q24q=>?_;obtain⟨x,H1,I1,r1,q1⟩:=q24q;refine thn (hb pins s1 σ H1 _ I1 q1) λu s2 q25q=>?_;obtain⟨y,H2,I2,r2,q2⟩:=q25q;exact hf v u s2 x y H2 I2 r1 r2 q2
theorem zqP {op:Operator}{r:R2}(ho:OpR X (binaryOp op) r)(ha:PE X a ta)(hb:PE X b tb):PE X (.BinOp a op b pos) (tOp r ta tb):=by
 intro pins s σ H Q I h;exact wpAny_BinOp (binT ha hb I h λv u s2 x y H2 I2 rx ry q=>ho pins s2 σ H2 x y v u Q I2 rx ry q)
theorem zqQ {op:UnaryOp}{r:V->Hp->VK->Prop}(ho:UnR X (unaryOp op) r)(ha:PE X a ta):PE X (.UnaryOp op a pos) (tUn r ta):=by
 intro pins s σ H Q I h;exact UnaryOp_ (thn (ha pins s σ H _ I h) λv s1 q26q=>by obtain⟨x,H1,I1,r1,q1⟩:=q26q;exact ho pins s1 σ H1 x v Q I1 r1 q1)
theorem opI {f:Value->Value->Sem Value}{C:Int->Int->Prop}{g:Int->Int->Int}
  (rule:∀(i j:Int) (t u:Tok) (s:Shared) (Q:Value->Shared->Prop) (E:Value->Shared->Prop),C i j->Q (.int (g i j) s.toks) { s with toks:=s.toks+1 }->wpAny (model X.prog X.w) X.A (f (.int i t) (.int j u)) Q E s) :
  OpR X f (rI C λi j=>.int (g i j)):=by
 intro pins s σ H x y v u Q I rx ry h;obtain⟨i,j,rfl,rfl,hc,q⟩:=h;obtain⟨t,rfl⟩:=rx;obtain⟨t',rfl⟩:=ry;exact rule i j t t' s _ _ hc ⟨.int (g i j),H,I.tok _,⟨_,rfl⟩,q⟩
theorem opI0 {f:Value->Value->Sem Value}{g:Int->Int->Int}
  (rule:∀(i j:Int) (t u:Tok) (s:Shared) (Q:Value->Shared->Prop) (E:Value->Shared->Prop),Q (.int (g i j) s.toks) { s with toks:=s.toks+1 }->wpAny (model X.prog X.w) X.A (f (.int i t) (.int j u)) Q E s) :
  OpR X f (rI0 λi j=>.int (g i j)):=by
 intro pins s σ H x y v u Q I rx ry h;obtain⟨i,j,rfl,rfl,q⟩:=h;obtain⟨t,rfl⟩:=rx;obtain⟨t',rfl⟩:=ry;exact rule i j t t' s _ _ ⟨.int (g i j),H,I.tok _,⟨_,rfl⟩,q⟩
theorem opB0 {f:Value->Value->Sem Value}{g:Int->Int->Bool}
  (rule:∀(i j:Int) (t u:Tok) (s:Shared) (Q:Value->Shared->Prop) (E:Value->Shared->Prop),Q (.bool (g i j)) s->wpAny (model X.prog X.w) X.A (f (.int i t) (.int j u)) Q E s) :
  OpR X f (rI0 λi j=>.bl (g i j)):=by
 intro pins s σ H x y v u Q I rx ry h;obtain⟨i,j,rfl,rfl,q⟩:=h;obtain⟨t,rfl⟩:=rx;obtain⟨t',rfl⟩:=ry;exact rule i j t t' s _ _ ⟨.bl (g i j),H,I,rfl,q⟩
noncomputable def CDiv (i j:Int):Prop:=0<j/\j<1073741824
noncomputable def CPow (i j:Int):Prop:=0<=j/\j<=1000000/\i.natAbs<2 ^ 64
noncomputable def CMul (i j:Int):Prop:=(-(2 ^ 64)<i/\i<2 ^ 64)\/(-(2 ^ 64)<j/\j<2 ^ 64)
theorem CMul.ok {i j:Int}(h:CMul i j):IntMulOk i j:=by
 rcases h with ⟨h1,h2⟩ | ⟨h1,h2⟩
 ·exact .of_left (intBits_le_64 h1 h2)
 ·exact .of_right (intBits_le_64 h1 h2)
theorem zpn:OpR X (binaryOp .Add) (rI0 λi j=>.int (i+j)):=opI0 λ_ _ _ _ _ _ _ q=>add_int q
theorem zpo:OpR X (binaryOp .Sub) (rI0 λi j=>.int (i-j)):=opI0 λ_ _ _ _ _ _ _ q=>sub_int q
theorem zpp:OpR X (binaryOp .Mult) (rI CMul λi j=>.int (i*j)):=opI λ_ _ _ _ _ _ _ hc q=>mul_int q hc.ok
theorem znO:OpR X (binaryOp .FloorDiv) (rI CDiv λi j=>.int (i / j)):=opI λi j _ _ _ _ _ hc q=>by
 have h1:(0:Int)<j:=hc.1;have h2:j<1073741824:=hc.2;exact floordiv_int (by lia) (by rw[Int.fdiv_eq_ediv_of_nonneg i (by lia)];exact q) (.inl (PyProof.noPylong_small (by lia)))
theorem zpq:OpR X (binaryOp .Mod) (rI (λ_ j=>0<j) λi j=>.int (i % j)):=opI λi j _ _ _ _ _ hc q=>by
 have h1:(0:Int)<j:=hc;exact mod_int' (by lia) (by rw[Int.fmod_eq_emod_of_nonneg i (by lia)];exact q)
theorem zpr:OpR X (binaryOp .Pow) (rI CPow λi j=>.int (i ^ j.toNat)):=opI λ_ _ _ _ _ _ _ hc q=>pow_int_small hc.1 hc.2.1 hc.2.2 q
theorem unI {f:Value->Sem Value}{g:Int->Int}
  (rule:∀(i:Int) (t:Tok) (s:Shared) (Q:Value->Shared->Prop) (E:Value->Shared->Prop),Q (.int (g i) s.toks) { s with toks:=s.toks+1 }->wpAny (model X.prog X.w) X.A (f (.int i t)) Q E s) :
  UnR X f (rU λi=>.int (g i)):=by
 intro pins s σ H x v Q I rx h;obtain⟨i,rfl,q⟩:=h;obtain⟨t,rfl⟩:=rx;exact rule i t s _ _ ⟨.int (g i),H,I.tok _,⟨_,rfl⟩,q⟩
theorem zps:UnR X (unaryOp .USub) (rU λi=>.int (-i)):=unI λ_ _ _ _ _ q=>neg_int q
end
section
variable {X:Cx}{a b c:Expr}{ta tb tc:TE}{pos:Pos}
theorem zni {pins:List (Addr×Obj)}{σ:St}{H:Hp}{s:Shared}{Q:VK}{k k':Bool}(I:Inv X pins σ H s)(q:Q (.bl k) H)(e:k=k'):EP X pins σ Q (.bool k') s:=by
 subst e;exact⟨.bl k,H,I,rfl,q⟩
theorem zqR:OpR X (compareOp .Lt) (rI0 λi j=>.bl (decide (i<j))):=opB0 λ_ _ _ _ _ _ _ q=>lt_int q
theorem zqS:OpR X (compareOp .Gt) (rI0 λi j=>.bl (decide (j<i))):=opB0 λ_ _ _ _ _ _ _ q=>gt_int q
theorem zpt:OpR X (compareOp .Is) (λx y H Q=>y=.non/\Q (.bl (decide (x=.non))) H):=by
 intro pins s σ H x y v u Q I rx ry h;obtain⟨rfl,q⟩:=h;cases ry;refine is_none_gen (zni I q ?_);cases x<;>first
  | (cases rx;rfl)
  | (obtain⟨t,rfl⟩:=rx;rfl)
theorem znP:OpR X (compareOp .IsNot) (λx y H Q=>y=.non/\Q (.bl (!decide (x=.non))) H):=by
 intro pins s σ H x y v u Q I rx ry h;obtain⟨rfl,q⟩:=h;cases ry;refine isnot_none_gen (zni I q ?_);cases x<;>first
  | (cases rx;rfl)
  | (obtain⟨t,rfl⟩:=rx;rfl)
noncomputable def isObj:HO->Bool
 | .lst _=>true
 | .ins _ _ _=>true
 | _=>false
theorem zcE (b:Expr){op:CmpOp}(h:autoParam (op≠.In) aU1)(h2:autoParam (op≠.NotIn) aU1):behindInMarks op b=false:=by
 have e1:(op == CmpOp.In)=false:=by cases op<;>first | rfl | exact absurd rfl h
 have e2:(op == CmpOp.NotIn)=false:=by cases op<;>first | rfl | exact absurd rfl h2
 cases b<;>simp[behindInMarks,e1,e2]
theorem znQ {op:CmpOp}{r:R2}(ho:OpR X (compareOp op) r)(ha:PE X a ta)(hb:PE X b tb)(hm:behindInMarks op b=false):PE X (.Compare a [op] [b] pos) (tOp r ta tb):=by
 intro pins s σ H Q I h;exact wpAny_Compare1 (binT ha hb I h λv u s2 x y H2 I2 rx ry q=>ho pins s2 σ H2 x y v u Q I2 rx ry q) hm
noncomputable def zqT (t:TE):TT:=λσ H Q=>t σ H λx H'=>∃k,x=.bl k/\Q k H'
theorem znR {op:CmpOp}{r:R2}(ho:OpR X (compareOp op) r)(ha:PE X a ta)(hb:PE X b tb)(hm:behindInMarks op b=false):PT X (.Compare a [op] [b] pos) (zqT (tOp r ta tb)):=by
 intro pins s σ H Q I h;refine wpAny_isTrue_Compare1 (thn (ha pins s σ H _ I h) λv s1 ⟨x,H1,I1,r1,q1⟩=>thn (hb pins s1 σ H1 _ I1 q1) λu s2 ⟨y,H2,I2,r2,q2⟩=>
  thn (ho pins s2 σ H2 x y v u _ I2 r1 r2 q2) λc s3 ⟨z,H3,I3,r3,k,e,q3⟩=>?_) hm
 subst e;cases r3;exact wpAny_truthy_bool ⟨H3,I3,q3⟩
noncomputable def TruV (K:Xa)(x:V)(H:Hp)(k:Bool):Prop:=
 match x with
 | .non=>k=false
 | .bl b=>k=b
 | .int i=>k=(i != 0)
 | .str y=>y.length<=sizeLine/\k=((y.length:Int) != 0)
 | .byt y=>y.size<=sizeLine/\k=((y.size:Int) != 0)
 | .ref p=>(∃xs,SqL K H p xs/\k = !xs.isEmpty)\/(∃xs,SqT K H p xs/\k = !xs.isEmpty)\/∃kvs,H p=some (.dK kvs)/\k = !kvs.isEmpty
 | _=>False
theorem zju {κ:Type}{kvs:List (κ×V)}{vs:List (κ×Value)}(r:KV kvs vs):(!vs.isEmpty) = !kvs.isEmpty:=by
 cases r<;>rfl
theorem zfJ {xs:List V}{its:List Value}(r:Vals xs its):(!its.toArray.isEmpty) = !xs.isEmpty:=by
 cases r<;>simp
theorem zfK:(sizeLine:Nat)<2 ^ 63:=by rw[sizeLine_eq];decide
theorem zpu:TruR X (λx H Q=>∃k,TruV X.K x H k/\Q k H):=by
 intro pins s σ H x v Q I rx h;obtain⟨k,e,q⟩:=h;have hl:=zfK;have hs:sizeLine=16777216:=sizeLine_eq;cases x with
 | non=>
  cases rx;have e':k=false:=e;subst e';exact truthy_none ⟨H,I,q⟩
 | bl b=>
  cases rx;have e':k=b:=e;subst e';exact wpAny_truthy_bool ⟨H,I,q⟩
 | int i=>
  obtain⟨t,rfl⟩:=rx;have e':k=(i != 0):=e;subst e';exact PySem.P.truthy_int ⟨H,I,q⟩
 | str y=>
  obtain⟨t,rfl⟩:=rx;obtain⟨hy,e'⟩:y.length<=sizeLine/\k=((y.length:Int) != 0):=e;subst e';exact PySem.P.truthy_str (by lia) ⟨H,I.tok _,q⟩
 | byt y=>
  obtain⟨t,rfl⟩:=rx;obtain⟨hy,e'⟩:y.size<=sizeLine/\k=((y.size:Int) != 0):=e;subst e';exact PySem.W.truthy_bytes (by lia) ⟨H,I.tok _,q⟩
 | ref p=>
  cases rx;have e':(∃xs,SqL X.K H p xs/\k = !xs.isEmpty)\/(∃xs,SqT X.K H p xs/\k = !xs.isEmpty)\/∃kvs,H p=some (.dK kvs)/\k = !kvs.isEmpty:=e;rcases e' with ⟨xs,hx,e'⟩ | ⟨xs,hx,e'⟩ | ⟨kvs,hx,e'⟩
  ·subst e';obtain⟨its,r,pl,hz⟩:=I.list hx;have hlen:=r.length;exact wpAny_truthy_list pl.isList (by simp only[Xj];lia) ⟨H,I.tok _,by rw[zfJ r];exact q⟩
  ·subst e';obtain⟨its,r,pl,hz⟩:=I.tuple hx;have hlen:=r.length;exact truthy_tuple pl (by simp only[Xj];lia) ⟨H,I.tok _,by rw[zfJ r];exact q⟩
  ·subst e';obtain⟨hz,hS,vs,r,m⟩:kvs.length<=sizeLine/\(p == sysModules)=false/\∃vs,KV kvs vs/\s.heap.DictOf (zbO X.prog X.w) p vs:=I.hok p _ hx;have hlen:kvs.length=vs.length:=Paired.length r;exact wpAny_truthy_dict hS m (by lia) ⟨H,I.tok _,by rw[zju r];exact q⟩
 | _=>exact(show False from e).elim
theorem zmd (ha:PE X a ta)(he:∀whole,isTrue a X.env whole=(do let v <- whole;standAt a.pos;holding [v] (truthy v))) :
  PT X a (λσ H Q=>ta σ H λx H'=>∃k,TruV X.K x H' k/\Q k H'):=by
 intro pins s σ H Q I h;exact isTrue_plain (thn (ha pins s σ H _ I h) λv s1 q30q=>by obtain⟨x,H1,I1,r1,q1⟩:=q30q;exact zpu pins s1 σ H1 x v Q I1 r1 q1) (he _)
theorem vals1 {x:V}{us:List Value}(r:Vals [x] us):∃u,us=[u]/\RelV x u:=by
 cases r with
 | cons r1 r2=>cases r2;exact⟨_,rfl,r1⟩
theorem vals2 {x y:V}{us:List Value}(r:Vals [x,y] us):∃u w',us=[u,w']/\RelV x u/\RelV y w':=by
 cases r with
 | cons r1 r2=>
  cases r2 with
  | cons r3 r4=>cases r4;exact⟨_,_,rfl,r1,r3⟩
theorem zkj (hc:X.calm=true):zdf X (.builtin "max") (λxs H Q=>∃i j,xs=[.int i,.int j]/\Q (.int (if j > i then j else i)) H):=by
 intro pins s σ H xs us Q I r h;obtain⟨i,j,rfl,q⟩:=h;obtain⟨u,w',rfl,⟨t,rfl⟩,⟨t',rfl⟩⟩:=vals2 r;refine max_two_ints (I.ok.hd hc) λh' tk k=>⟨_,H,I.kept k,?_,q⟩;by_cases hj:j > i
 ·rw[if_pos hj,if_pos hj];exact⟨_,rfl⟩
 ·rw[if_neg hj,if_neg hj];exact⟨_,rfl⟩
noncomputable def LenV (K:Xa)(x:V)(H:Hp)(n:Nat):Prop:=
 match x with
 | .str y=>y.length<=sizeLine/\n=y.length
 | .byt y=>y.size<=sizeLine/\n=y.size
 | .ref p=>(∃xs,SqL K H p xs/\n=xs.length)\/∃xs,SqT K H p xs/\n=xs.length
 | _=>False
theorem zme:zdf X (.builtin "len") (λxs H Q=>∃x n,xs=[x]/\LenV X.K x H n/\Q (.int n) H):=by
 intro pins s σ H xs us Q I r h;obtain⟨x,n,rfl,e,q⟩:=h;obtain⟨u,rfl,rx⟩:=vals1 r;have hl:=zfK;have hs:sizeLine=16777216:=sizeLine_eq;cases x with
 | str y=>
  obtain⟨t,rfl⟩:=rx;obtain⟨hy,e'⟩:y.length<=sizeLine/\n=y.length:=e;subst e';exact len_str (by lia) ⟨.int _,H,I.tok _,⟨_,rfl⟩,q⟩
 | byt y=>
  obtain⟨t,rfl⟩:=rx;obtain⟨hy,e'⟩:y.size<=sizeLine/\n=y.size:=e;subst e';exact PySem.W.len_bytes (by lia) ⟨.int _,H,I.tok _,⟨_,rfl⟩,q⟩
 | ref p=>
  cases rx;have e':(∃xs,SqL X.K H p xs/\n=xs.length)\/∃xs,SqT X.K H p xs/\n=xs.length:=e;rcases e' with ⟨xs,hx,e'⟩ | ⟨xs,hx,e'⟩
  ·subst e';obtain⟨its,r',pl,hz⟩:=I.list hx;have hlen:=r'.length;exact Calls.call_len_list pl.isList (by simp only[Xj];lia) ⟨.int xs.length,H,I.tok _,⟨_,by simp only[Xj];rw[hlen]⟩,q⟩
  ·subst e';obtain⟨its,r',pl,hz⟩:=I.tuple hx;have hlen:=r'.length;exact len_tuple pl (by simp only[Xj];lia) ⟨.int xs.length,H,I.tok _,⟨_,by simp only[Xj];rw[hlen]⟩,q⟩
 | _=>exact(show False from e).elim
end
structure ObjM (h:Heap)(x dx C:Addr)(mA:Str->Option Value):Prop where
 obj:h.get? x=some (YF C dx)
 ns:h.Ns1 dx mA
 ne:dx≠x
theorem zkk {h:Heap}{dx:Addr}{mA:Str->Option Value}(n:h.Ns1 dx mA):∃od,h.get? dx=some od/\∀name,PySem.W.lookIn name od=some (mA name):=by
 obtain⟨o,es,ep,ho,hd,hk,_,hm⟩:=n;refine⟨o,ho,λname=>?_⟩;have e:=hm name;unfold nsFind findBy at e;rw[<- Array.find?_toList]at e;unfold PySem.W.lookIn;rw[hd];dsimp only;split
 ·rename_i y q
  rw[q]at e;exact congrArg some e
 ·rename_i q
  rw[q]at e;have a:es.toList.any (·.refKey)=false:=by
   rw[List.any_eq_false];intro y hy;obtain⟨z,t,hkey⟩:=hk y (Array.mem_toList_iff.mp hy);simp[DictEntry.refKey,hkey]
  have a':¬ es.toList.any (·.refKey)=true:=by rw[a];exact Xi
  rw[if_neg a'];exact congrArg some e
theorem ObjM.look {h:Heap}{x dx C:Addr}{mA:Str->Option Value}(I:ObjM h x dx C mA):∃od,PySem.W.InstAt h x (YF C dx) C (some od)/\∀name,PySem.W.lookIn name od=some (mA name):=
 let ⟨od,ho,hl⟩:=zkk I.ns
 ⟨od,⟨I.obj,rfl,rfl,ho⟩,hl⟩
section
variable {prog:Program}{w:World}{A:Around}{E:Value->Shared->Prop}{s:Shared}{K:Xa}{x dx C f:Addr}{mA:Str->Option Value}{name:Str}{v:Value}
theorem get_map {expr:Bool}{Q:Value->Shared->Prop}(X:K.In s.heap)(I:ObjM s.heap x dx C mA)(hg:PySem.W.plainGet K C name=true)(hh:PySem.W.hasDictIn K C=true)
  (ha:XF K (.ref C) name=some none) (hv:mA name=some v) (hv':PySem.W.handedIn v=true) (h:Q v { s with toks:=s.toks+1 }) :
  wpAny (model prog w) A (getAttr (.ref x) name expr) Q E s:=by
 obtain⟨od,J,hl⟩:=I.look;exact PySem.W.get_value X J (PySem.W.plainGet_of hg).1 (PySem.W.findObj_own hh ha rfl (by rw[hl,hv])) hv' h
theorem zmf {pl:Sem Bool}{Q:Value×List Value->Shared->Prop}(X:K.In s.heap)(I:ObjM s.heap x dx C mA)(hg:PySem.W.plainGet K C name=true)
  (hf:XF K (.ref C) name=some (some (.ref f))) (ht:Yw K (.ref f)=true) (hv:mA name=none) (h:Q (.ref f,[.ref x]) s) :
  wpAny (model prog w) A (getMethod (.ref x) name pl) Q E s:=by
 obtain⟨od,J,hl⟩:=I.look;exact PySem.W.method_fn X J (PySem.W.plainGet_of hg).1 (PySem.W.plainGet_of hg).2 hf (beq_iff_eq.mp ht) (by show(PySem.W.lookIn name od).map (·.isSome)=some false;rw[hl,hv];rfl) h
theorem znS {ns:List Str}{Q:Unit->Shared->Prop}(X:K.In s.heap)(I:ObjM s.heap x dx C mA)
  (hs:XF K (.ref C) "__setattr__" = some (some (.builtin "object.__setattr__"))) (hp:PySem.W.plainOver K C=true) (ht:PySem.W.takerIn K C name=some none) (hh:PySem.W.hasDictIn K C=true)
  (hw:PySem.Within mA ns) (hsz:ns.length<=sizeLine)
  (h:∀h',ObjM h' x dx C (λy=>if y=name then some v else mA y)->Yj dx s.heap h'->Q () { s with heap:=h',toks:=s.toks+2 }) :
  wpAny (model prog w) A (setAttr (.ref x) name v) Q E s:=by
 obtain⟨od,J,hl⟩:=I.look;refine PySem.W.set_plain X J hs (PySem.W.osa_open (s:={ s with toks:=s.toks+1 }) (r:=none) X J hp ht λb=>?_);obtain⟨cd,hc,hd'⟩:=PySem.W.any_some hh;have hx:s.heap.get? x=some ⟨.ref C,some dx,.plain,#[]⟩:=I.obj;refine wpAny_bind (wpAny_pure (wpAny_bind (wpAny_bind (wpAny_loadPart hx (wpAny_bind (PySem.W.Looks.here (s:={ s with toks:=s.toks+1 }) (PySem.W.looks_clsIn X hc) ?_))))));rw[hd'];refine wpAny_pure (a:=some dx) (wpAny_bind (wpAny_pure (wpAny_bind ?_)));refine wpAny_nsSet1 (s:={ s with toks:=s.toks+1 }) I.ns λh' hn2 hs2=>?_;obtain⟨oD,esD,epD,hoD,hdD,hcD⟩:=hn2.count (PySem.Within.cons name v hw);refine wpAny_bind (wpAny_lookBehind hoD (by rw[hdD];exact pastItsLine_dict (Yu hcD (by rw[XM];lia))) ?_);exact wpAny_pure (h _ ⟨(hs2.2 _ (Ne.symm I.ne)).trans I.obj,hn2,I.ne⟩ hs2)
theorem zmg {R:Result->Shared->Prop}{vs:List Value}{kw:List (Str×Value)}(X:K.In s.heap)(hm:PySem.W.makesIn K C=true)
  (hi:XF K (.ref C) "__init__" = some (some (.ref f))) (hf:PySem.W.typeIn K (.ref f)=some (.type "function"))
  (h:codeAny (model prog w) (A.under (.builtin "type.__call__" ⟨.ref C::vs,kw⟩)) (.call (.ref f) ⟨.ref (s.heap.objs.size+1)::vs,kw⟩) (PySem.W.InitBack (s.heap.objs.size+1) R)
   {s with heap:=(s.heap.push Ys).push (YF C s.heap.objs.size) }) :
  codeAny (model prog w) A (.call (.ref C) ⟨vs,kw⟩) R s:=by
 obtain⟨hh,g,d,t,os⟩:=s;exact PySem.W.make_core (PySem.W.makes_of X hm) (PySem.W.looks_findIn X hi) (λself=>PySem.W.bind_fn X self hf) (.inl rfl) h
end
noncomputable def putF (f:Str)(v:V):List (Str×V)->List (Str×V)
 | []=>[(f,v)]
 | (g,x)::r=>if g=f then(g,v)::r else(g,x)::putF f v r
theorem zeO (f g:Str)(v:V):∀fs:List (Str×V),(putF f v fs).lookup g=if g=f then some v else fs.lookup g
 | []=>by
  show List.lookup g [(f,v)]=_;by_cases h:g=f
  ·have hb:(g == f)=true:=beq_iff_eq.mpr h;simp only[List.lookup,hb,if_pos h]
  ·have hb:(g == f)=false:=beq_eq_false_iff_ne.mpr h;simp only[List.lookup,hb,if_neg h]
 | (k,x)::r=>by
  have ih:=zeO f g v r;rw[show putF f v ((k,x)::r)=(if k=f then(k,v)::r else(k,x)::putF f v r) from rfl]
  by_cases hk:k=f
  ·rw[if_pos hk];by_cases h:g=k
   ·have hb:(g == k)=true:=beq_iff_eq.mpr h;simp only[List.lookup,hb,if_pos (h.trans hk)]
   ·have hb:(g == k)=false:=beq_eq_false_iff_ne.mpr h;simp only[List.lookup,hb,if_neg (λe:g=f=>h (e.trans hk.symm))]
  ·rw[if_neg hk];by_cases h:g=k
   ·have hb:(g == k)=true:=beq_iff_eq.mpr h;simp only[List.lookup,hb,if_neg (λe:g=f=>hk (h.symm.trans e))]
   ·have hb:(g == k)=false:=beq_eq_false_iff_ne.mpr h;simp only[List.lookup,hb];exact ih
theorem zeP (f:Str)(v:V):∀fs:List (Str×V),f∈(putF f v fs).map (·.1)/\∀g,g∈fs.map (·.1)->g∈(putF f v fs).map (·.1)
 | []=>⟨by simp[putF],λg h=>by simp at h⟩
 | (k,x)::r=>by
  obtain⟨i1,i2⟩:=zeP f v r;rw[show putF f v ((k,x)::r)=(if k=f then(k,v)::r else(k,x)::putF f v r) from rfl]
  by_cases hk:k=f
  ·rw[if_pos hk];subst hk;exact⟨by simp,λg h=>by simpa using h⟩
  ·rw[if_neg hk];refine⟨?_,λg h=>?_⟩
   ·rw[XJ];exact Xh _ i1
   ·rw[XJ]at h ⊢;rcases Xo.mp h with e | e
    ·exact Xo.mpr (.inl e)
    ·exact Xh _ (i2 g e)
theorem zeQ (f:Str)(v:V):∀fs:List (Str×V),(putF f v fs).length<=fs.length+1
 | []=>by simp[putF]
 | (k,x)::r=>by
  have ih:=zeQ f v r;rw[show putF f v ((k,x)::r)=(if k=f then(k,v)::r else(k,x)::putF f v r) from rfl]
  by_cases hk:k=f
  ·rw[if_pos hk,XM,XM];lia
  ·rw[if_neg hk,XM,XM];lia
theorem RelO.some_of {v:V}{o:Option Value}(r:RelO (some v) o):∃u,o=some u/\RelV v u:=by
 cases o with
 | none=>exact(show False from r).elim
 | some u=>exact⟨u,rfl,r⟩
theorem RelO.none_of {o:Option Value}(r:RelO none o):o=none:=by
 cases o with
 | none=>rfl
 | some u=>exact(show False from r).elim
theorem zkl {v:V}{u:Value}(r:RelV v u):PySem.W.handedIn u=true:=by
 cases v with
 | non=>cases (show u=Value.none from r);rfl
 | bl b=>cases (show u=Value.bool b from r);rfl
 | int i=>obtain⟨t,e⟩:=(show ∃t,u=Value.int i t from r);cases e;rfl
 | str x=>obtain⟨t,e⟩:=(show ∃t,u=Value.str x t from r);cases e;rfl
 | byt b=>obtain⟨t,e⟩:=(show ∃t,u=Value.bytes b t from r);cases e;rfl
 | flt b=>obtain⟨t,e⟩:=(show ∃t,u=Value.float b t from r);cases e;rfl
 | ref a=>cases (show u=Value.ref a from r);rfl
 | ty n=>cases (show u=Value.type n from r);rfl
section
variable {P:Program}{w:World}{H H':Hp}{h h':Heap}{a C dx:Addr}{fs fs':List (Str×V)}
theorem zhO (hok:HOk P w H h)(e:H a=some (.ins C dx fs)):∃mA,ObjM h a dx C mA/\(∀f,RelO (fs.lookup f) (mA f))/\PySem.Within mA (fs.map (·.1))/\fs.length<=1000/\H dx=some (.own a):=by
 obtain⟨d,z,ne,ob,mA,n,r,q⟩:=(show zca P w H h a (.ins C dx fs) from hok a _ e);exact⟨mA,⟨ob,n,ne⟩,r,q,z,d⟩
end
structure Cls (K:Xa)(C:Addr):Prop where
 pg:PySem.W.plainGet K C Str.empty=true
 hd:PySem.W.hasDictIn K C=true
 po:PySem.W.plainOver K C=true
 sa:XF K (.ref C) "__setattr__" = some (some (.builtin "object.__setattr__"))
theorem Cls.get {K:Xa}{C:Addr}(c:Cls K C)(f:Str):PySem.W.plainGet K C f=true:=c.pg
noncomputable def zbF (K:Xa)(C:Addr)(f:Str):Prop:=XF K (.ref C) f=some none
theorem zbF.taker {K:Xa}{C:Addr}{f:Str}(n:zbF K C f):PySem.W.takerIn K C f=some none:=by
 unfold PySem.W.takerIn;rw[show XF K (.ref C) f=some none from n];rfl
structure Meth (K:Xa)(C:Addr)(m:Str)(f:Addr):Prop where
 at_:XF K (.ref C) m=some (some (.ref f))
 fn:Yw K (.ref f)=true
 kp:Xq K (.ref f)=true
section
variable {X:Cx}{pins:List (Addr×Obj)}{σ:St}{H:Hp}{s:Shared}{a C dx:Addr}{fs:List (Str×V)}{f:Str}{v:V}{A:Around}{E:Value->Shared->Prop}
theorem zjv {b:Bool}{Q:Value->Shared->Prop}(I:Inv X pins σ H s)(e:H a=some (.ins C dx fs))(c:Cls X.K C)(n:zbF X.K C f)(l:fs.lookup f=some v)
  (h:∀u s',Inv X pins σ H s'->RelV v u->Q u s'):wpAny (model X.prog X.w) A (getAttr (.ref a) f b) Q E s:=by
 obtain⟨mA,O,r,_,_,_⟩:=zhO I.hok e;obtain⟨u,hu,ru⟩:=RelO.some_of (v:=v) (o:=mA f) (by rw[<- l];exact r f);exact get_map I.kIn O (c.get f) c.hd n hu (zkl ru) (h u _ (I.tok _) ru)
theorem zfL {m:Str}{g:Addr}{pl:Sem Bool}{Q:Value×List Value->Shared->Prop}(I:Inv X pins σ H s)(e:H a=some (.ins C dx fs))(c:Cls X.K C)(k:Meth X.K C m g)(l:fs.lookup m=none)
  (h:Q (.ref g,[.ref a]) s):wpAny (model X.prog X.w) A (getMethod (.ref a) m pl) Q E s:=by
 obtain⟨mA,O,r,_,_,_⟩:=zhO I.hok e;have hn:mA m=none:=RelO.none_of (by rw[<- l];exact r m);exact zmf I.kIn O (c.get m) k.at_ k.fn hn h
theorem zjw {y:V}{u:Value}{Q:Unit->Shared->Prop}(I:Inv X pins σ H s)(e:H a=some (.ins C dx fs))(c:Cls X.K C)(n:zbF X.K C f)(hl:fs.length<1000)(ry:RelV y u)
  (h:∀s',Inv X pins σ (upd H a (.ins C dx (putF f y fs))) s'->Q () s'):wpAny (model X.prog X.w) A (setAttr (.ref a) f u) Q E s:=by
 obtain⟨mA,O,r,wi,_,ho⟩:=zhO I.hok e;have hz:(fs.map (·.1)).length<=sizeLine:=by rw[Xb,sizeLine_eq];lia
 refine znS I.kIn O c.sa c.po n.taker c.hd wi hz λh' O' sb=>h _ ?_;have hd:∃o,h'.get? dx=some o:=let ⟨o,_,_,e',_⟩:=O'.ns;⟨o,e'⟩;refine I.write (x:=a) (e:=dx) (by rw[e];exact True.intro) (.inr ho) (λb q hb z=>(sb.2 b hb).trans z) hd ?_;refine⟨by rw[zai O.ne];exact ho,?_,O.ne,O'.obj,_,O'.ns,λg=>?_,λg hg=>?_⟩
 ·have:=zeQ f y fs;lia
 ·show RelO ((putF f y fs).lookup g) (if g=f then some u else mA g)
  rw[zeO];by_cases q:g=f
  ·rw[if_pos q,if_pos q];exact ry
  ·rw[if_neg q,if_neg q];exact r g
 ·by_cases q:g=f
  ·rw[q];exact(zeP f y fs).1
  ·refine(zeP f y fs).2 g (wi g λz=>hg ?_);show(if g=f then some u else mA g)=none
   rw[if_neg q];exact z
theorem Inv.made (I:Inv X pins σ H s):Inv X pins σ (upd (upd H s.heap.objs.size (.own (s.heap.objs.size+1))) (s.heap.objs.size+1) (.ins C s.heap.objs.size []))
  {s with heap:=(s.heap.push Ys).push (YF C s.heap.objs.size) }:=by
 have e1:(s.heap.push Ys).get? s.heap.objs.size=some Ys:=Xx s.heap rfl;have e2:((s.heap.push Ys).push (YF C s.heap.objs.size)).get? (s.heap.objs.size+1)=some (YF C s.heap.objs.size):=by
  have:=Xx (s.heap.push Ys) (o:=YF C s.heap.objs.size) rfl
  rwa [Yz]at this
 have e3:(s.heap.push Ys).Ns s.heap.objs.size (λ_=>none):=⟨Ys,#[],_,e1,rfl,(λe he=>absurd he (by simp)),λ_=>rfl⟩;have I1:=I.laid (a:=s.heap.objs.size) (o:=.own (s.heap.objs.size+1)) (h':=s.heap.push Ys) (t':=s.toks) (λb u q=>Xe _ q) (Xf _) ⟨_,e1⟩;refine I1.laid (a:=s.heap.objs.size+1) (o:=.ins C s.heap.objs.size []) (t':=s.toks) (λb u q=>Xe _ q) (Nat.le_of_eq (Yz _ _)) ?_;have ne:s.heap.objs.size≠s.heap.objs.size+1:=XD (XO _);refine⟨by rw[zai ne,zak],Yf _,ne,e2,λ_=>none,(Heap.Ns1.of_empty e3).at λo q=>Xe _ q,λ_=>True.intro,λy hy=>absurd rfl hy⟩
theorem znT {prog:Program}{w:World}{env:Env}{e:Expr}{f:Str}{pos:Pos}{s:Shared}{Q:Value->Shared->Prop}(hb:attributeBase e f env (eval e env)=eval e env)
  (h:wpAny (model prog w) A (eval e env) (λo s₁=>wpAny (model prog w) A (getAttr o f true) Q E s₁) E s):wpAny (model prog w) A (eval (.Attribute e f pos) env) Q E s:=
 Attribute_any_ h (by rw[arm_eval_Attribute,hb])
end
noncomputable def tFld (K:Xa)(ta:TE)(f:Str):TE:=λσ H Q=>ta σ H λx H1=>∃a C dx fs v,x=.ref a/\H1 a=some (.ins C dx fs)/\Cls K C/\zbF K C f/\fs.lookup f=some v/\Q v H1
noncomputable def sFld (K:Xa)(ta tv:TE)(f:Str):TS:=λD σ H=>tv σ H λy H1=>ta σ H1 λx H2=>∃a C dx fs,x=.ref a/\H2 a=some (.ins C dx fs)/\Cls K C/\zbF K C f/\fs.length<1000/\
 D.nx σ (upd H2 a (.ins C dx (putF f y fs)))
section
variable {X:Cx}{o e value:Expr}{f:Str}{pos pos' tpos:Pos}{ta tv:TE}
theorem znj (he:PE X e ta)(hb:attributeBase e f X.env (eval e X.env)=eval e X.env):PE X (.Attribute e f pos) (tFld X.K ta f):=by
 intro pins s σ H Q I h;refine znT hb (thn (he pins s σ H _ I h) λu s1 q31q=>?_);obtain⟨x,H1,I1,rx,a,C,dx,fs,v,ex,ea,c,n,l,q⟩:=q31q;subst ex;obtain rfl:u=Value.ref a:=rx;exact zjv I1 ea c n l λu' s2 I2 ru=>⟨v,H1,I2,ru,q⟩
theorem ziq (ha:PE X o ta)(hv:PE X value tv)(hs:swapsWith value (some (.Attribute o f pos')) pos.line X.env=pure false):PS X (.Assign [.Attribute o f pos'] value pos) (sFld X.K ta tv f):=by
 intro pins s σ H D I h;refine plainObj_wpAny_Assign_Attribute (thn (hv pins s σ H _ I h) λu s1 ⟨y,H1,I1,ry,q⟩=>thn (ha pins s1 σ H1 _ I1 q) λov s2 q33q=>?_) hs;obtain⟨x,H2,I2,rx,a,C,dx,fs,ex,ea,c,n,l,q2⟩:=q33q;subst ex;obtain rfl:ov=Value.ref a:=rx;exact zjw I2 ea c n l ry λs3 I3=>⟨σ,_,I3,q2⟩
end
structure Room (k:Nat)(A:Around):Prop where
 hd:A.handled=none
 dp:A.depth+3*k+5<recursionLimit
 un:A.units+16*k+200<cLine
theorem Room.mono {j k:Nat}{A:Around}(r:Room k A)(h:j<=k):Room j A:=⟨r.hd,by have:=r.dp;lia,by have:=r.un;lia⟩
theorem Room.deeper {k:Nat}{A:Around}(r:Room (k+1) A)(env:Env):Room k (A.deeper env):=
 ⟨r.hd,by have:=r.dp;show A.depth+1+3*k+5<_;lia,by have:=r.un;show A.units+3+16*k+200<_;lia⟩
theorem zjx {A:Around}{C:Addr}{us:List Value}{kw:List (Str×Value)}:(A.under (.builtin "type.__call__" ⟨.ref C::us,kw⟩)).depth=A.depth+1:=by
 first | rfl | simp[Around.under,Code.weight,Code.isCreation,Code.isGuard,Code.isCaller,Code.frames,Code.isFrame,guardIds]
theorem zjy {A:Around}{C:Addr}{us:List Value}{kw:List (Str×Value)}:(A.under (.builtin "type.__call__" ⟨.ref C::us,kw⟩)).units=A.units+1:=by
 first | rfl | simp[Around.under,Code.cUnits,Code.frames,Code.isFrame]
theorem Room.make {k:Nat}{A:Around}(r:Room (k+1) A)(C:Addr)(us:List Value)(kw:List (Str×Value)):Room k (A.under (.builtin "type.__call__" ⟨.ref C::us,kw⟩)):=
 ⟨r.hd,by have:=r.dp;rw[zjx];lia,by have:=r.un;rw[zjy];lia⟩
theorem Room.depth {k:Nat}{A:Around}(r:Room k A):A.depth<recursionLimit:=by have:=r.dp;lia
theorem Room.units {k:Nat}{A:Around}(r:Room k A):A.units+64<cLine:=by have:=r.un;lia
noncomputable def tNil:TA:=λ_ H Q=>Q [] H
noncomputable def zqU (ta:TE)(tr:TA):TA:=λσ H Q=>ta σ H λx H1=>tr σ H1 λxs H2=>Q (x::xs) H2
section
variable {X:Cx}{e:Expr}{es:List Expr}{te:TE}{t:TA}{pos:Pos}
theorem zcI:PA X [] tNil:=λ_ _ _ _ H Q I h=>Calls.spliced_nil ⟨[],H,I,.nil,h⟩
theorem zaT (ha:PE X e te)(hr:PA X es t)(hs:autoParam (starEach (e::es) X.env=(false,eval e X.env)::starEach es X.env) aU0):PA X (e::es) (zqU te t):=by
 intro pos pins s σ H Q I h;rw[hs];show wpAny _ _ (spliced ((false,eval e X.env)::backTo pos (starEach es X.env))) _ _ s;refine Calls.spliced_cons (thn (ha pins s σ H _ I h) λu s1 q34q=>?_);obtain⟨x,H1,I1,r1,q1⟩:=q34q;exact thn (hr pos pins s1 σ H1 _ I1 q1) λus s2 q35q=>by obtain⟨xs,H2,I2,r2,q2⟩:=q35q;exact⟨x::xs,H2,I2,.cons r1 r2,q2⟩
noncomputable def tTup (t:TA):TE:=λσ H Q=>t σ H λxs H1=>xs.length<=sizeLine/\∀p,H1 p=none->Q (.ref p) (upd H1 p (.tup xs))
noncomputable def tLst (t:TA):TE:=λσ H Q=>t σ H λxs H1=>xs.length<=sizeLine/\∀p,H1 p=none->Q (.ref p) (upd H1 p (.lst xs))
theorem zkm {x1}(h:PA X es t):PE X (.Tuple es x1 pos) (tTup t):=by
 intro pins s σ H Q I hq;refine wpAny_Tuple_spliced (thn (h pos pins s σ H _ I hq) λus s1 ⟨xs,H1,I1,r,z,q⟩=>⟨by rw[<- r.length];exact z,?_⟩);have hf:H1 s1.heap.objs.size=none:=I1.hok.fresh (Xf _);refine⟨.ref s1.heap.objs.size,upd H1 s1.heap.objs.size (.tup xs),I1.laid (t':=s1.toks) (λb u e=>Xe _ e) (Xf _) ?_,rfl,q _ hf⟩;exact⟨z,us,r,zcH.new _ _⟩
theorem znk (h:PA X es t):PE X (.List es pos) (tLst t):=by
 intro pins s σ H Q I hq;refine wpAny_List_spliced (thn (h pos pins s σ H _ I hq) λus s1 ⟨xs,H1,I1,r,z,q⟩=>⟨by rw[<- r.length];exact z,?_⟩);have hf:H1 s1.heap.objs.size=none:=I1.hok.fresh (Xf _);refine⟨.ref s1.heap.objs.size,upd H1 s1.heap.objs.size (.lst xs),I1.laid (t':=s1.toks) (λb u e=>Xe _ e) (Xf _) ?_,rfl,q _ hf⟩;exact⟨z,us,0,r,Xx _ rfl⟩
end
noncomputable abbrev Sp:=List V->Hp->VK->XK->Prop
noncomputable abbrev CXT:=List Env->Hp->Shared->XK->Value->Shared->Prop
structure Env0 (P:Program)(w:World)(K:Xa)(mg:Str->Option Value)(base:Heap)(A:Around)(outer:List Env)(s:Shared)(H:Hp):Prop where
 frames:A.frames=some outer
 mod:Mod K mg base
 bs:∀b o,base.get? b=some o->s.heap.get? b=some o/\H b=none
 bsz:base.objs.size<=s.heap.objs.size
 funs:s.heap.FunFrames base outer
 frf:∀b∈frs outer,H b=none
 hok:HOk P w H s.heap
 bare:AllBare s.gens
noncomputable def CE (outer:List Env)(P:Program)(w:World)(H:Hp)(s:Shared)(Q:VK)(u:Value)(s':Shared):Prop:=
 ∃v H',s'.os=s.os/\AllBare s'.gens/\Un (frs outer) [] H H' s.heap s'.heap/\HOk P w H' s'.heap/\RelV v u/\Q v H'
noncomputable def CR (CX:CXT)(outer:List Env)(P:Program)(w:World)(H:Hp)(s:Shared)(Q:VK)(E:XK)(r:Result)(s':Shared):Prop:=
 match r with
 | .ok (.ret u)=>CE outer P w H s Q u s'
 | .ok _=>False
 | .error e=>CX outer H s E e s'
structure FnOk (P:Program)(w:World)(K:Xa)(mg:Str->Option Value)(base:Heap)(CX:CXT)(k:Nat)(f:Addr)(fd:FuncData)(ps:List Str)(sp:Sp):Prop where
 len:∀vs H Q E,sp vs H Q E->vs.length=ps.length
 run:∀(A:Around) (outer:List Env) (s:Shared) (H:Hp) (args:Args) (us:List Value) (vs:List V) (Q:VK) (E:XK),Room k A->Env0 P w K mg base A outer s H->BindsTo s fd args (ps.zip us)->Vals vs us->sp vs H Q E->
  codeAny (model P w) A (.call (.ref f) args) (CR CX outer P w H s Q E) s
theorem FnOk.mono {P:Program}{w:World}{K:Xa}{mg:Str->Option Value}{base:Heap}{CX:CXT}{j k:Nat}{f:Addr}{fd:FuncData}{ps:List Str}{sp:Sp}(F:FnOk P w K mg base CX j f fd ps sp)(h:j<=k) :
  FnOk P w K mg base CX k f fd ps sp:=⟨F.len,λA outer s H args us vs Q E hr=>F.run A outer s H args us vs Q E (hr.mono h)⟩
theorem FnOk.imp {P:Program}{w:World}{K:Xa}{mg:Str->Option Value}{base:Heap}{CX:CXT}{k:Nat}{f:Addr}{fd:FuncData}{ps:List Str}{sp sp':Sp}(F:FnOk P w K mg base CX k f fd ps sp)
  (h:∀vs H Q E,sp' vs H Q E->sp vs H Q E):FnOk P w K mg base CX k f fd ps sp':=
 ⟨λvs H Q E q=>F.len vs H Q E (h _ _ _ _ q),λA outer s H args us vs Q E hr he hb hv hs=>F.run A outer s H args us vs Q E hr he hb hv (h _ _ _ _ hs)⟩
theorem Env0.make {P:Program}{w:World}{K:Xa}{mg:Str->Option Value}{base:Heap}{A:Around}{outer:List Env}{s:Shared}{H:Hp}(e:Env0 P w K mg base A outer s H)(C:Addr)(us:List Value)(kw:List (Str×Value)) :
  Env0 P w K mg base (A.under (.builtin "type.__call__" ⟨.ref C::us,kw⟩)) outer s H:=⟨by first | exact e.frames | (simpa[Around.under,Code.envs,Code.isFrame,pushEnvs]using e.frames),e.mod,e.bs,e.bsz,e.funs,e.frf,e.hok,e.bare⟩
section
variable {X:Cx}{pins:List (Addr×Obj)}{σ:St}{H:Hp}{s s':Shared}
theorem Inv.env0 (I:Inv X pins σ H s):Env0 X.prog X.w X.K X.mg X.base X.A X.stack s H:=
 ⟨I.ok.frames,I.ok.mod,I.bs,Yu I.ok.bsz I.sz,I.stack,I.zkb,I.hok,I.bare⟩
theorem Inv.after {Q:VK}{u:Value}(I:Inv X pins σ H s)(h:CE X.stack X.prog X.w H s Q u s'):EP X pins σ Q u s':=by
 obtain⟨v,H',os,bare,un,hok,r,q⟩:=h;obtain⟨hh,g,d,t,os'⟩:=s';obtain rfl:os'=s.os:=os;exact⟨v,H',I.call (h':=hh) (g':=g) (d':=d) (t':=t) (ch:=[]) un hok bare (λb z=>absurd z (by simp)),r,q⟩
end
noncomputable def zpv (sp:Sp)(dvs:List V)(E:XK)(t:TA):TE:=λσ H Q=>t σ H λvs H1=>sp (vs++dvs) H1 Q E
noncomputable def zpw (C:Addr)(m:Str)(sp:Sp)(dvs:List V)(E:XK)(ta:TE)(t:TA):TE:=λσ H Q=>ta σ H λx H1=>∃a dx fs,x=.ref a/\H1 a=some (.ins C dx fs)/\fs.lookup m=none/\
 t σ H1 λvs H2=>sp (x::(vs++dvs)) H2 Q E
noncomputable def zqV (C:Addr)(sp:Sp)(dvs:List V)(E:XK)(t:TA):TE:=λσ H Q=>t σ H λvs H1=>∀x dx,H1 x=none->H1 dx=none->dx≠x->
 sp (.ref x::(vs++dvs)) (upd (upd H1 dx (.own x)) x (.ins C dx [])) (λv H2=>v=.non/\Q (.ref x) H2) E
noncomputable def Binds (K:Xa)(fd:FuncData)(ps:List Str)(ds:List Value):Prop:=
 ∀(s:Shared) (us:List Value),K.In s.heap->(us++ds).length=ps.length->BindsTo s fd ⟨us,[]⟩ (ps.zip (us++ds))
theorem Binds.all {K:Xa}{fd:FuncData}{ps:List Str}(h:∀us:List Value,us.length=ps.length->bindArgs fd ⟨us,[]⟩=pure (ps.zip us)):Binds K fd ps []:=λs us _ hl=>by
 rw[List.append_nil]at hl ⊢;exact .of_eq (h us hl)
noncomputable def zeR (CX:CXT)(X:Cx)(E:XK):Prop:=∀(pins:List (Addr×Obj))(σ:St)(H:Hp)(s:Shared)(e:Value)(s':Shared),Inv X pins σ H s->CX X.stack H s E e s'->X.xe e s'
section
variable {X:Cx}{CX:CXT}{k:Nat}{f C:Addr}{fd:FuncData}{ps:List Str}{sp:Sp}{dvs:List V}{ds:List Value}{E:XK}{x m:Str}{p pos apos:Pos}{e o:Expr}{es:List Expr}{ta:TE}{t:TA}
theorem zkn {pins:List (Addr×Obj)}{σ:St}{H:Hp}{s:Shared}{Q:VK}{us:List Value}{vs:List V}(F:FnOk X.prog X.w X.K X.mg X.base CX k f fd ps sp)(hr:Room k X.A)(hb:Binds X.K fd ps ds)(hd:Vals dvs ds)(hx:zeR CX X E)
  (I:Inv X pins σ H s) (r:Vals vs us) (h:sp (vs++dvs) H Q E):wpAny (model X.prog X.w) X.A (call (.ref f) us) (EP X pins σ Q) X.xe s:=by
 have r2:Vals (vs++dvs) (us++ds):=r.append hd;have hl:(us++ds).length=ps.length:=by rw[<- r2.length];exact F.len _ _ _ _ h
 refine wpAny_call (codeAny_mono (F.run X.A X.stack s H ⟨us,[]⟩ (us++ds) (vs++dvs) Q E hr I.env0 (hb s us I.kIn hl) r2 h) λr s' hq=>?_);cases r with
 | error e=>exact hx pins σ H s e s' I hq
 | ok fl=>
  cases fl with
  | ret u=>exact I.after hq
  | next=>exact False.elim hq
  | brk=>exact False.elim hq
  | cont=>exact False.elim hq
theorem zko (F:FnOk X.prog X.w X.K X.mg X.base CX k f fd ps sp)(hr:Room k X.A)(hg:Gl X x)(hm:X.mg x=some (.ref f))(hk:Xq X.K (.ref f)=true)(hb:Binds X.K fd ps ds)(hd:Vals dvs ds)(hx:zeR CX X E)
  (ha:PA X (e::es) t) (hdb:autoParam ((x == ("__debug__" : Str))=false) aU1) (he:autoParam (starEach (e::es) X.env=(false,eval e X.env)::starEach es X.env) aU0) (hpl:autoParam ((backTo pos (starEach es X.env)).any (·.1)=false) aU0) :
  PE X (.Call (.Name x p) (e::es) [] pos) (zpv sp dvs E t):=by
 intro pins s σ H Q I h;refine wpAny_Call_Name_kw (zkd I hg hm ?_ hdb);refine PySem.W.callWith_K (h₀:=X.base) I.ok.mod.kin hk (thn (ha pos pins s σ H _ I h) λus s1 ⟨vs,H1,I1,r,q⟩=>⟨I1.kIn,?_⟩) he hpl;exact zkn F hr hb hd hx I1 r q
theorem zkp {pl:Sem Bool}(he:PE X o ta)(c:Cls X.K C)(hm:Meth X.K C m f)(F:FnOk X.prog X.w X.K X.mg X.base CX k f fd ps sp)(hr:Room k X.A)(hb:Binds X.K fd ps ds)(hd:Vals dvs ds)(hx:zeR CX X E)(ha:PA X (e::es) t)
  (hst:autoParam (starEach (e::es) X.env=(false,eval e X.env)::starEach es X.env) aU0) (hpl:autoParam ((backTo pos (starEach es X.env)).any (·.1)=false) aU0)
  (ht:autoParam (eval (.Call (.Attribute o m apos) (e::es) [] pos) X.env=(do
   let ov <- eval o X.env
   standAt apos.atName
   let (f,first) <- holding [ov] (getMethod ov m pl)
   callWith pos f first (backTo pos (starEach (e::es) X.env)) (backToKw pos (keywordEach [] X.env)))) aU0) :
  PE X (.Call (.Attribute o m apos) (e::es) [] pos) (zpw C m sp dvs E ta t):=by
 intro pins s σ H Q I h;refine PySem.W.methodCall_KW (pl:=pl) (thn (he pins s σ H _ I h) λu s1 q39q=>?_) ht;obtain⟨x,H1,I1,rx,a,dx,fs,ex,ea,l,q⟩:=q39q;subst ex;obtain rfl:u=Value.ref a:=rx;refine zfL I1 ea c hm l ?_;refine PySem.W.callWith_K (first:=[.ref a]) (h₀:=X.base) I.ok.mod.kin hm.kp (thn (ha pos pins s1 σ H1 _ I1 q) λus s2 ⟨vs,H2,I2,r,q2⟩=>⟨I2.kIn,?_⟩) hst hpl
 exact zkn (us:=.ref a::us) (vs:=.ref a::vs) F hr hb hd hx I2 (.cons rfl r) q2
theorem zir {pl:Sem Bool}(he:PE X o ta)(c:Cls X.K C)(hm:Meth X.K C m f)(F:FnOk X.prog X.w X.K X.mg X.base CX k f fd ps sp)(hr:Room k X.A)(hb:Binds X.K fd ps ds)(hd:Vals dvs ds)(hx:zeR CX X E)
  (ht:autoParam (eval (.Call (.Attribute o m apos) [] [] pos) X.env=(do
   let ov <- eval o X.env
   standAt apos.atName
   let (f,first) <- holding [ov] (getMethod ov m pl)
   callWith pos f first (backTo pos (starEach [] X.env)) (backToKw pos (keywordEach [] X.env)))) aU0) :
  PE X (.Call (.Attribute o m apos) [] [] pos) (zpw C m sp dvs E ta tNil):=by
 intro pins s σ H Q I h;refine PySem.W.methodCall_KW (pl:=pl) (thn (he pins s σ H _ I h) λu s1 q41q=>?_) ht;obtain⟨x,H1,I1,rx,a,dx,fs,ex,ea,l,q⟩:=q41q;subst ex;obtain rfl:u=Value.ref a:=rx;refine zfL I1 ea c hm l ?_;exact PySem.W.callWith_K0 (first:=[.ref a]) I1.kIn hm.kp (zkn (us:=[.ref a]) (vs:=[.ref a]) F hr hb hd hx I1 (.cons rfl .nil) q)
structure Mk (K:Xa)(C f:Addr):Prop where
 makes:PySem.W.makesIn K C=true
 init:XF K (.ref C) "__init__" = some (some (.ref f))
 fn:Yw K (.ref f)=true
 kp:Xq K (.ref C)=true
theorem zmh {pins:List (Addr×Obj)}{σ:St}{H:Hp}{s:Shared}{Q:VK}{us:List Value}{vs:List V}(M:Mk X.K C f)(F:FnOk X.prog X.w X.K X.mg X.base CX k f fd ps sp)(hr:Room (k+1) X.A)(hb:Binds X.K fd ps ds)(hd:Vals dvs ds)
  (hx:zeR CX X E) (I:Inv X pins σ H s) (r:Vals vs us)
  (h:∀x dx,H x=none->H dx=none->dx≠x->sp (.ref x::(vs++dvs)) (upd (upd H dx (.own x)) x (.ins C dx [])) (λv H2=>v=.non/\Q (.ref x) H2) E) :
  wpAny (model X.prog X.w) X.A (call (.ref C) us) (EP X pins σ Q) X.xe s:=by
 have hq:=h (s.heap.objs.size+1) s.heap.objs.size (I.hok.fresh (Nat.le_succ _)) (I.hok.fresh (Xf _)) (XD (XO _));have I2:=Inv.made (C:=C) I;have r2:Vals (V.ref (s.heap.objs.size+1)::(vs++dvs)) (Value.ref (s.heap.objs.size+1)::(us++ds)):=.cons rfl (r.append hd);have hl:(Value.ref (s.heap.objs.size+1)::us++ds).length=ps.length:=by
  have e:=r2.length;rw[F.len _ _ _ _ hq]at e;exact e.symm
 refine wpAny_call (zmg (f:=f) I.kIn M.makes M.init (beq_iff_eq.mp M.fn) (codeAny_mono (F.run _ X.stack _ _ ⟨Value.ref (s.heap.objs.size+1)::us,[]⟩ (Value.ref (s.heap.objs.size+1)::(us++ds)) _ _ E (hr.make C us [])
  (I2.env0.make C us []) (hb _ (Value.ref (s.heap.objs.size+1)::us) I2.kIn hl) r2 hq) λr s' hq'=>?_))
 cases r with
 | error e=>exact hx pins σ _ _ e s' I2 hq'
 | ok fl=>
  cases fl with
  | ret u=>
   obtain⟨v,H',I3,rv,ev,q3⟩:=I2.after hq';subst ev;exact⟨rv,⟨V.ref (s.heap.objs.size+1),H',I3,rfl,q3⟩⟩
  | next=>exact False.elim hq'
  | brk=>exact False.elim hq'
  | cont=>exact False.elim hq'
theorem znU (M:Mk X.K C f)(F:FnOk X.prog X.w X.K X.mg X.base CX k f fd ps sp)(hr:Room (k+1) X.A)(hg:Gl X x)(hm:X.mg x=some (.ref C))(hb:Binds X.K fd ps ds)(hd:Vals dvs ds)(hx:zeR CX X E)
  (ha:PA X (e::es) t) (hdb:autoParam ((x == ("__debug__" : Str))=false) aU1) (he:autoParam (starEach (e::es) X.env=(false,eval e X.env)::starEach es X.env) aU0) (hpl:autoParam ((backTo pos (starEach es X.env)).any (·.1)=false) aU0) :
  PE X (.Call (.Name x p) (e::es) [] pos) (zqV C sp dvs E t):=by
 intro pins s σ H Q I h;refine wpAny_Call_Name_kw (zkd I hg hm ?_ hdb);refine PySem.W.callWith_K (h₀:=X.base) I.ok.mod.kin M.kp (thn (ha pos pins s σ H _ I h) λus s1 ⟨vs,H1,I1,r,q⟩=>⟨I1.kIn,?_⟩) he hpl;exact zmh M F hr hb hd hx I1 r q
end
structure zan (N P:List Str)(sc:Scope):Prop where
 kind:sc.kind=.function
 co:sc.isCoroutine=false
 gen:sc.isGenerator=false
 nd:N.Nodup
 pre:N.take P.length=P
 par:∀x∈P,sc.names.lookup x=some .local\/sc.names.lookup x=some .cell
 nofree:∀y∈sc.names,y.2≠.free
theorem zgM {kindOf:Str->Option NameKind}{x:Str}:∀ {binds:List (Str×Value)}{m:Str->Option Value},(∀v,(x,v)∉binds)->bindL kindOf binds m x=m x
 | [],_,_=>rfl
 | (n,v)::r,m,h=>by
  unfold bindL;rw[zgM λw hw=>h w (Xh _ hw)];split
  ·have:x≠n:=by rintro rfl;exact h v Xm
   simp[this]
  ·rfl
theorem zgN {kindOf:Str->Option NameKind}{x:Str}:∀ {binds:List (Str×Value)}{m:Str->Option Value},(∀v,(x,v)∉binds)->bindC kindOf binds m x=m x
 | [],_,_=>rfl
 | (n,v)::r,m,h=>by
  unfold bindC;rw[zgN λw hw=>h w (Xh _ hw)];split
  ·rfl
  ·have:x≠n:=by rintro rfl;exact h v Xm
   simp[this]
theorem zgO {kindOf:Str->Option NameKind}{x:Str}{v:Value}:∀ {P:List Str}{vs:List Value}{i:Nat}{m:Str->Option Value},P.Nodup->P[i]? = some x->vs[i]? = some v->kindOf x=some .local->
  bindL kindOf (P.zip vs) m x=some v
 | [],_,_,_,_,h,_,_=>by simp at h
 | _::_,[],_,_,_,_,h,_=>by simp at h
 | p::P,w::vs,0,m,nd,h1,h2,hk=>by
  simp at h1 h2;subst h1;subst h2;show bindL kindOf ((p,w)::P.zip vs) m p=_;unfold bindL;rw[zgM λv hv=>(Yg.mp nd).1 (List.of_mem_zip hv).1,if_pos hk];simp
 | p::P,w::vs,i+1,m,nd,h1,h2,hk=>by
  show bindL kindOf ((p,w)::P.zip vs) m x=_;unfold bindL;exact zgO (i:=i) (Yg.mp nd).2 (by simpa using h1) (by simpa using h2) hk
theorem zgP {kindOf:Str->Option NameKind}{x:Str}{v:Value}:∀ {P:List Str}{vs:List Value}{i:Nat}{m:Str->Option Value},P.Nodup->P[i]? = some x->vs[i]? = some v->kindOf x≠some .local->
  bindC kindOf (P.zip vs) m x=some v
 | [],_,_,_,_,h,_,_=>by simp at h
 | _::_,[],_,_,_,_,h,_=>by simp at h
 | p::P,w::vs,0,m,nd,h1,h2,hk=>by
  simp at h1 h2;subst h1;subst h2;show bindC kindOf ((p,w)::P.zip vs) m p=_;unfold bindC;rw[zgN λv hv=>(Yg.mp nd).1 (List.of_mem_zip hv).1,if_neg hk];simp
 | p::P,w::vs,i+1,m,nd,h1,h2,hk=>by
  show bindC kindOf ((p,w)::P.zip vs) m x=_;unfold bindC;exact zgP (i:=i) (Yg.mp nd).2 (by simpa using h1) (by simpa using h2) hk
noncomputable def start (N:List Str)(vs:List V):St:=vs.map some++List.replicate (N.length-vs.length) none
noncomputable def cxOf (CX:CXT)(P:Program)(w:World)(K:Xa)(mg:Str->Option Value)(base:Heap)(N:List Str)(qual:Str)(scope:Scope)(f:Addr)(cd:Value)(A:Around)(outer:List Env)(s:Shared)(H:Hp)(E:XK):Cx where
 prog:=P
 w:=w
 K:=K
 mg:=mg
 base:=base
 A:=A.deeper (envOfC qual scope s.heap.objs.size f cd)
 N:=N
 s₀:=s
 H₀:=H
 env:=envOfC qual scope s.heap.objs.size f cd
 outer:=outer
 stack:=envOfC qual scope s.heap.objs.size f cd::outer
 ex:=[]
 calm:=true
 fn:=λ_=>true
 pn:=[]
 xe:=λe s'=>wpAny (model P w) (A.deeper (envOfC qual scope s.heap.objs.size f cd)) (leaving (envOfC qual scope s.heap.objs.size f cd) e) (λ_ s''=>CX outer H s E e s'') (λe' s''=>CX outer H s E e' s'') s'
theorem zis {sc:Scope}{n:Nat}{x:Str}(h:sc.names.lookup x=some .cell):∃c,(cellsFrom n sc.names []).lookup x=some c:=by
 have q:=PySem.W.cellsFrom_some sc.names n [] (.inl h);exact Option.isSome_iff_exists.mp q
theorem zkq {CX:CXT}{P:Program}{w:World}{K:Xa}{mg:Str->Option Value}{base:Heap}{N ps:List Str}{qual:Str}{scope:Scope}{f:Addr}{cd:Value}{A:Around}{outer:List Env}{s s1:Shared}{H:Hp}{E:XK}{us:List Value}{vs:List V}
  (S:zan N ps scope) (hd:A.handled=none) (e0:Env0 P w K mg base A outer s H) (hl:vs.length=ps.length) (r:Vals vs us)
  (x:InCallC s s.heap.objs.size (bindL (envOfC qual scope s.heap.objs.size f cd).kindOf (ps.zip us) λ_=>none) (cellsFrom (s.heap.objs.size+1) scope.names []) (bindC (envOfC qual scope s.heap.objs.size f cd).kindOf (ps.zip us) λ_=>none) s1) :
  Inv (cxOf CX P w K mg base N qual scope f cd A outer s H E) [] (start N vs) H s1:=by
 have hpl:ps.length<=N.length:=by have:=congrArg List.length S.pre;rw[XX]at this;lia
 obtain⟨h1,tk,rfl,hk⟩:=x.done;have noA:∀b:Addr,b∉(cxOf CX P w K mg base N qual scope f cd A outer s H E).ex:=λb z=>absurd (show b∈([]:List Addr) from z) (by simp);refine⟨⟨e0.mod,S.kind,rfl,rfl,Xf _,λy z c h1 h2=>?_,λy hy=>?_,λy c _ h=>?_,λ_=>hd,Around.frames_deeper e0.frames,.inr ⟨rfl,rfl⟩,λb z=>absurd z (noA b),e0.bs,e0.bsz,λb _ _=>noA b,λb z=>absurd z (noA b),e0.funs,e0.frf⟩,
  rfl,e0.bare,Un.kept hk,⟨_,x.toInCall.ns,λi y v h1 h2 h3=>?_⟩,λy c h=>⟨_,x.cell y c h⟩,e0.hok.fresh (Xf _),λy c h=>?_,λp hp=>absurd (show p∈([]:List (Addr×Obj)) from hp) (by simp),e0.hok.kept hk,?_⟩
 ·exact name_of_addr x.apart (PySem.mem_of_lookup h1) (PySem.mem_of_lookup h2)
 ·have hy:scope.names.lookup y=some .cell\/scope.names.lookup y=some .free:=hy;rcases hy with hy | hy
  ·exact zis hy
  ·exact absurd rfl (S.nofree _ (PySem.mem_of_lookup hy))
 ·exact Yv (x.above y c (PySem.mem_of_lookup h))
 ·have hi:i<vs.length:=by
   unfold start at h2;by_cases hi:i<vs.length
   ·exact hi
   ·rw[YA (by simpa using hi)]at h2;rw[List.getElem?_replicate]at h2;split at h2<;>cases h2
  have ha:vs[i]? = some v:=by
   unfold start at h2;rw[YD (by simpa using hi),Xk]at h2;cases e:vs[i]? with
   | none=>rw[e]at h2;cases h2
   | some a=>rw[e]at h2;cases h2;rfl
  obtain⟨u,hu,rv⟩:=r.get ha;have hp:ps[i]? = some y:=by
   rw[<- S.pre,List.getElem?_take_of_lt (by lia)];exact h1
  have ndP:ps.Nodup:=by rw[<- S.pre];exact S.nd.sublist (List.take_sublist _ _)
  refine⟨u,rv,?_⟩;rcases S.par y (XI hp)with k | k
  ·exact .inl ⟨k,zgO ndP hp hu k⟩
  ·obtain⟨c,e⟩:=zis (n:=s.heap.objs.size+1) k;refine .inr ⟨.inl k,c,e,?_⟩;have q:=x.cell y c e;rw[zgP ndP hp hu (by show scope.names.lookup y≠_;rw[k];decide)]at q;exact q
 ·exact e0.hok.fresh (Yv (x.above y c (PySem.mem_of_lookup h)))
 ·unfold start;show _=N.length;rw[Xr,Xb,YL];lia
theorem zqW {CX:CXT}{P:Program}{w:World}{K:Xa}{mg:Str->Option Value}{base:Heap}{k:Nat}{f:Addr}{name qual:Str}{params:Arguments}{body:List Stmt}{scope:Scope}{dV kV doc pm cdv ct oc:Value}{an od:Option Addr}
  {osl:Array (Option Value)} {N ps:List Str} {sp:Sp} (lk:K.lookup f=some ⟨oc,od,.func (Xv name qual params body scope dV kV doc pm an cdv ct),osl⟩) (hcd:Xu K cdv qual=true) (S:zan N ps scope)
  (len:∀vs H Q E,sp vs H Q E->vs.length=ps.length)
  (hbody:∀(A:Around) (outer:List Env) (s:Shared) (H:Hp) (vs:List V) (Q:VK) (E:XK),Room k (A.deeper (envOfC qual scope s.heap.objs.size f cdv))->sp vs H Q E->
   ∃t,PSs (cxOf CX P w K mg base N qual scope f cdv A outer s H E) body t/\t { nx:=λ_ H'=>Q .non H',rt:=Q } (start N vs) H) :
  FnOk P w K mg base CX (k+1) f (Xv name qual params body scope dV kV doc pm an cdv ct) ps sp:=by
 refine⟨len,λA outer s H args us vs Q E hr e0 hb r hsp=>?_⟩;have hl:=len _ _ _ _ hsp;have KX:K.In s.heap:=e0.mod.kin.keeps λb o e=>(e0.bs b o e).1;have lim:s.heap.NoLimit:=e0.mod.nolimit.keeps λb o e=>(e0.bs b o e).1;have hkind:∀y∈ps.zip us,scope.names.lookup y.1=some .local\/(scope.names.lookup y.1=some .cell/\((cellsFrom (s.heap.objs.size+1) scope.names []).lookup y.1).isSome=true):=λ⟨n,v⟩ hy=>by
  rcases S.par n (List.of_mem_zip hy).1 with q | q
  ·exact .inl q
  ·exact .inr ⟨q,PySem.W.cellsFrom_some _ _ _ (.inl q)⟩
 refine codeAny_call_function hr.depth (KX _ _ lk) rfl S.co S.gen rfl (PySem.W.codeRec_of KX hcd) (hb _ _ _ _ ?_);refine wpAny_newFunctionEnv_cells S.kind hkind λenv he s1 x=>?_;subst he;refine⟨lim.keeps x.toInCall.keep,codeAny_func ?_⟩;obtain⟨t,ht,hq⟩:=hbody A outer s H vs Q E (hr.deeper _) hsp;have I:Inv (cxOf CX P w K mg base N qual scope f cdv A outer s H E) [] (start N vs) H s1:=zkq S hr.hd e0 hl r x;refine wpAny_mono (ht [] s1 (start N vs) H _ I hq) (λfl s' hs=>?_) λe s' hs=>hs;have fin:∀ {σ':St} {H':Hp} {v:V} {u:Value},Inv (cxOf CX P w K mg base N qual scope f cdv A outer s H E) [] σ' H' s'->RelV v u->Q v H'->CE outer P w H s Q u s':=
  λ{σ' H' v u} J rv q=>⟨v,H',J.os,J.bare,J.base,J.hok,rv,q⟩
 cases fl with
 | ret u=>
  obtain⟨v,σ',H',J,rv,q⟩:=hs;exact fin J rv q
 | next=>
  obtain⟨σ',H',J,q⟩:=hs;exact fin (v:=V.non) (u:=Value.none) J rfl q
 | brk=>
  obtain⟨_,_,_,q⟩:=hs;exact False.elim q
 | cont=>
  obtain⟨_,_,_,q⟩:=hs;exact False.elim q
section
variable {X:Cx}{x:Str}{p pos:Pos}{e:Expr}{es:List Expr}{t:TA}{id T:String}{r:List V->Hp->VK->Prop}
noncomputable def tCB (r:List V->Hp->VK->Prop)(t:TA):TE:=λσ H Q=>t σ H λvs H1=>r vs H1 Q
theorem zit (hc:zdf X (.builtin id) r)(hg:Gl X x)(hm:X.mg x=none)(hv:bootBuiltins x=some (.builtin id))(ha:PA X (e::es) t)(hn:autoParam (x≠"__name__") aU1) (hdb:autoParam ((x == ("__debug__" : Str))=false) aU1)
  (he:autoParam (starEach (e::es) X.env=(false,eval e X.env)::starEach es X.env) aU0) (hpl:autoParam ((backTo pos (starEach es X.env)).any (·.1)=false) aU0):PE X (.Call (.Name x p) (e::es) [] pos) (tCB r t):=by
 intro pins s σ H Q I h;refine wpAny_Call_Name_kw (zfI I hg hm hv ?_ hn hdb);exact PyProof.Rows.callWith_builtin1 (thn (ha pos pins s σ H _ I h) λus s1 q44q=>by obtain⟨vs,H1,I1,r1,q1⟩:=q44q;exact hc pins s1 σ H1 vs us Q I1 r1 q1) he hpl
theorem zdB (hc:zdf X (.type T) r)(hg:Gl X x)(hm:X.mg x=none)(hv:bootBuiltins x=some (.type T))(ha:PA X (e::es) t)(hn:autoParam (x≠"__name__") aU1) (hdb:autoParam ((x == ("__debug__" : Str))=false) aU1)
  (he:autoParam (starEach (e::es) X.env=(false,eval e X.env)::starEach es X.env) aU0) (hpl:autoParam ((backTo pos (starEach es X.env)).any (·.1)=false) aU0):PE X (.Call (.Name x p) (e::es) [] pos) (tCB r t):=by
 intro pins s σ H Q I h;refine wpAny_Call_Name_kw (zfI I hg hm hv ?_ hn hdb);exact PyProof.Rows.callWith_type1 (thn (ha pos pins s σ H _ I h) λus s1 q45q=>by obtain⟨vs,H1,I1,r1,q1⟩:=q45q;exact hc pins s1 σ H1 vs us Q I1 r1 q1) he hpl
end
end L2
namespace HT
open PySem PyProof.Rows
noncomputable def lexLt:List Int->List Int->Bool
 | [],[]=>false
 | [],_::_=>true
 | _::_,[]=>false
 | x::xs,y::ys=>if x=y then lexLt xs ys else decide (x<y)
theorem zec (x y:Int)(xs ys:List Int):lexLt (x::xs) (y::ys)=if x=y then lexLt xs ys else decide (x<y):=rfl
theorem zdC:lexLt [] []=false:=rfl
theorem zfA (y:Int)(ys:List Int):lexLt [] (y::ys)=true:=rfl
theorem zfB (x:Int)(xs:List Int):lexLt (x::xs) []=false:=rfl
theorem zmi (A:Around)(s:Shared)(a:Int)(t:Tok)(c:Int)(u:Tok):∃e,SeqAt.EqAt A s (.int a t) (.int c u) e/\(e=true↔a=c):=
 ⟨(a == c),SeqAt.EqAt.int_int a t c u,by simp⟩
theorem zmj (A:Around)(s:Shared)(a:Int)(t:Tok)(c:Int)(u:Tok)(prog:Program)(w:World)(E:Value->Shared->Prop)(Q:Value->Shared->Prop)(h:Q (.bool (decide (a<c))) s) :
  wpAny (model prog w) A (richCompare .Lt (.int a t) (.int c u)) Q E s:=
 (PyProof.Rows.lt_int h:wpAny (model prog w) A (compareOp .Lt (.int a t) (.int c u)) Q E s)
section
open PySem.SeqAt
open PySem.MeetsSeq PySem.MeetsSeq2 PySem.MeetsSeq3
theorem zgb (l b:Addr)(items items2:Array Value)(n n2:Nat)(dd dd2:Option Addr)(sl sl2:Array (Option Value))(ns ms:List Int)(hi:IntsAre items.toList ns)(hj:IntsAre items2.toList ms) :
  Meets (Builtin.«tuple.__lt__» ⟨[.ref l,.ref b],[]⟩)
   (λ_ R s=>s.heap.get? l=some { cls:=.type "tuple",dict:=dd,data:=.seq items n,slots:=sl }/\s.heap.get? b=some { cls:=.type "tuple",dict:=dd2,data:=.seq items2 n2,slots:=sl2 }/\
    R (.ok (.ret (.bool (lexLt ns ms)))) s):=
 .of_wp λprog w A R s h=>by
  obtain⟨hp,g,d,tk,os⟩:=s;obtain⟨hl,hb,h⟩:=h;have f2:=AutoSeq1.sub_tuple_tuple;have z1:items.size=ns.length:=by rw[<- hi.length];simp
  have z2:items2.size=ms.length:=by rw[<- hj.length];simp
  wp_walk using wpAny_loadPart' hl,wpAny_loadPart' hb,wpAny_forIn_list _ (λrest b s'=>b.1=none/\s'=⟨hp,g,d,tk,os⟩/\∃(vs ws:List Value) (ns' ms':List Int),rest=vs.zip ws/\
   IntsAre vs ns'/\IntsAre ws ms'/\ns'.length+items2.size=ms'.length+items.size/\R (.ok (.ret (.bool (lexLt ns' ms')))) ⟨hp,g,d,tk,os⟩) _
  case turn=>
   rintro⟨y,x⟩ rest b s' ⟨hb',rfl,vs,ws,ns',ms',hz,hvi,hwi,hlen,hR⟩;cases hvi with
   | nil=>rw[List.zip_nil_left]at hz;cases hz
   | cons a t hvi'=>
    cases hwi with
    | nil=>rw[List.zip_nil_right]at hz;cases hz
    | cons c u hwi'=>
     rw[Yx]at hz;injection hz with hyx hrest;injection hyx with hy hx;subst hy hx;rw[zec]at hR;simp only[XM]at hlen;obtain⟨e,he,hiff⟩:=zmi A.in1 ⟨hp,g,d,tk,os⟩ a t c u;refine wpAny_bind (he prog w _ _ ?_);cases e with
     | true=>
      rw[if_pos (hiff.mp rfl)]at hR
      wp_walk
      exact⟨rfl,rfl,_,_,_,_,hrest,hvi',hwi',by lia,hR⟩
     | false=>
      rw[if_neg (λq=>absurd (hiff.mpr q) Xi)]at hR;have hri:=zmj A.in1 ⟨hp,g,d,tk,os⟩ a t c u prog w
      wp_walk using hri
      exact⟨_,rfl,by simpa using hR⟩
  case fin=>
   rintro⟨b1,b2⟩ s' ⟨hb',rfl,vs,ws,ns',ms',hz,hvi,hwi,hlen,hR⟩;simp only at hb';subst hb';have hv:lexLt ns' ms'=decide (items.size<items2.size):=by
    cases hvi with
    | nil=>
     cases hwi with
     | nil=>
      simp only[YG]at hlen;rw[zdC];exact(decide_eq_false (by lia)).symm
     | cons c u hw=>
      simp only[YG,XM]at hlen;rw[zfA];exact(decide_eq_true (by lia)).symm
    | cons a t hv=>
     cases hwi with
     | nil=>
      simp only[YG,XM]at hlen;rw[zfB];exact(decide_eq_false (by lia)).symm
     | cons c u hw=>
      rw[Yx]at hz;cases hz
   rw[hv]at hR
   wp_walk
   exact⟨_,rfl,by simpa[Builtin.Tuple.tupleCompareSizes]using hR⟩
  case h=>
   exact⟨rfl,rfl,items.toList,items2.toList,ns,ms,rfl,hi,hj,by lia,h⟩
end
section
variable {prog:Program}{w:World}{A:Around}{E:Value->Shared->Prop}{s:Shared}
theorem zjz {l b:Addr}{items items2:Array Value}{ns ms:List Int}{Q:Value->Shared->Prop}(hl:IsTup s.heap l items)(hb:IsTup s.heap b items2)(hi:IntsAre items.toList ns)(hj:IntsAre items2.toList ms)
  (hu:A.units<cLine) (h:Q (.bool (lexLt ns ms)) s):wpAny (model prog w) A (compareOp .Lt (.ref l) (.ref b)) Q E s:=by
 obtain⟨⟨cls,dd,data,sl⟩,ho,hc,n,hd⟩:=id hl;obtain⟨⟨cls2,dd2,data2,sl2⟩,ho2,hc2,n2,hd2⟩:=id hb;simp only at hc hd hc2 hd2;subst hc hd hc2 hd2;exact richCompare_meets_room (op:=.Lt) ⟨_,ho,rfl⟩ ⟨_,ho2,rfl⟩ PySem.F.slot_tuple_lt PySem.F.entry_tuple_lt (PySem.F.args_tuple_lt_2 _ _) (zgb l b items items2 n n2 dd dd2 sl sl2 ns ms hi hj)
  ⟨ho,ho2,show Value.bool (lexLt ns ms)≠Value.notImplemented/\Q (.bool (lexLt ns ms)) s from⟨(λx=>nomatch x),h⟩⟩ hu
noncomputable def sIx (n d:Nat):Option Int->Nat
 | none=>d
 | some v=>if v<0 then(v+(n:Int)).toNat else min v.toNat n
theorem ziu (n d:Nat):sIx n d none=d:=rfl
theorem zdo (n d k:Nat):sIx n d (some (k:Int))=min k n:=by
 show(if (k:Int)<0 then((k:Int)+(n:Int)).toNat else min (k:Int).toNat n)=min k n
 rw[if_neg (by lia),XH]
end
end HT
namespace L2
open PySem PySem.Spec PyProof.Rows
noncomputable abbrev TO:=St->Hp->(Option Int->Hp->Prop)->Prop
noncomputable def PO (X:Cx)(e:Option Expr)(t:TO):Prop:=
 ∀(pins:List (Addr×Obj)) (s:Shared) (σ:St) (H:Hp) (Q:Option Int->Hp->Prop),Inv X pins σ H s->t σ H Q->
  wpAny (model X.prog X.w) X.A (evalPart e X.env) (λu s'=>∃o H',Inv X pins σ H' s'/\IsPart u o/\Q o H') X.xe s
noncomputable def znV:TO:=λ_ H Q=>Q none H
noncomputable def zqX (t:TE):TO:=λσ H Q=>t σ H λx H1=>∃i,x=.int i/\Q (some i) H1
theorem intsAre_of {ns:List Int}:∀ {us:List Value},Vals (ns.map V.int) us->IntsAre us ns:=by
 induction ns with
 | nil=>intro us r;rw[List.map_nil]at r;cases r;exact .nil
 | cons n ns ih=>
  intro us r;rw[XJ]at r;cases r with
  | cons r1 r2=>
   obtain⟨t,e⟩:=r1;subst e;exact .cons n t (ih r2)
section
variable {X:Cx}{e:Expr}{te:TE}{lo hi:Option Expr}{tl th:TO}{pos p2:Pos}
theorem znW:PO X none znV:=by
 intro pins s σ H Q I h;rw[evalPart_none];exact wpAny_pure ⟨none,H,I,.none,h⟩
theorem znX (h:PE X e te):PO X (some e) (zqX te):=by
 intro pins s σ H Q I hw;rw[evalPart_some];refine thn (h pins s σ H _ I hw) λu s1 q46q=>?_;obtain⟨x,H1,I1,r1,q1⟩:=q46q;obtain⟨i,rfl,q⟩:=q1;obtain⟨t,rfl⟩:=r1;exact⟨some i,H1,I1,.int i t,q⟩
noncomputable def SlR (X:Cx)(r:V->Option Int->Option Int->Hp->VK->Prop):Prop:=
 ∀(pins:List (Addr×Obj)) (s:Shared) (σ:St) (H:Hp) (x:V) (v vl vu:Value) (lo hi:Option Int) (sl:Addr) (Q:VK),Inv X pins σ H s->RelV x v->s.heap.IsSliceOf sl vl vu .none->IsPart vl lo->IsPart vu hi->r x lo hi H Q->
  ∃T id,typeLookup (.type T) "__getitem__" = pure (some (.builtin id))/\s.TypeIs v T/\wpAny (model X.prog X.w) X.A (getItem v (.ref sl)) (EP X pins σ Q) X.xe s
noncomputable def tSl (r:V->Option Int->Option Int->Hp->VK->Prop)(te:TE)(tl th:TO):TE:=λσ H Q=>te σ H λx H1=>tl σ H1 λl H2=>th σ H2 λu H3=>r x l u H3 Q
theorem ziv {r:V->Option Int->Option Int->Hp->VK->Prop}(hr:SlR X r)(he:PE X e te)(hl:PO X lo tl)(hu:PO X hi th):PE X (.Subscript e (.Slice lo hi none p2) pos) (tSl r te tl th):=by
 intro pins s σ H Q I h;refine Subscript_ (thn (he pins s σ H _ I h) λv s1 q47q=>?_);obtain⟨x,H1,I1,r1,q1⟩:=q47q;refine wpAny_Slice (thn (hl pins s1 σ H1 _ I1 q1) λvl s2 ⟨l,H2,I2,pl,q2⟩=>thn (hu pins s2 σ H2 _ I2 q2) λvu s3 q49q=>?_);obtain⟨u,H3,I3,pu,q3⟩:=q49q;rw[evalPart_none];refine wpAny_pure ?_;have I4:Inv X pins σ H3 { s3 with heap:=s3.heap.push { cls:=.type "slice",data:=.fields #[vl,vu,.none] } }:=I3.kept (t':=s3.toks) λb ob q=>Xe _ q;obtain⟨T,id,hT,ht,hg⟩:=hr pins { s3 with heap:=s3.heap.push { cls:=.type "slice",data:=.fields #[vl,vu,.none] } } σ H3 x v vl vu l u s3.heap.objs.size Q I4 r1 (Heap.IsSliceOf.new ..) pl pu q3;show wpAny (model X.prog X.w) X.A (subscriptTail e (.Slice lo hi none p2) v (.ref s3.heap.objs.size)) (EP X pins σ Q) X.xe { s3 with heap:=s3.heap.push { cls:=.type "slice",data:=.fields #[vl,vu,.none] } };exact tail_any (ops:=[.ref s3.heap.objs.size,v]) ht hT hg (by with_unfolding_all rfl)
noncomputable def cutV (xs:List V)(lo hi:Option Int):List V:=(xs.drop (HT.sIx xs.length 0 lo)).take (HT.sIx xs.length xs.length hi-HT.sIx xs.length 0 lo)
theorem zhP (xs:List V)(lo hi:Option Int):(cutV xs lo hi).length<=xs.length:=by
 unfold cutV;rw[XX,List.length_drop];lia
noncomputable def rLtT (K:Xa):R2:=λx y H Q=>∃a b ns ms,x=.ref a/\y=.ref b/\SqT K H a (ns.map V.int)/\SqT K H b (ms.map V.int)/\Q (.bl (HT.lexLt ns ms)) H
theorem zpx (hu:X.A.units<cLine):OpR X (compareOp .Lt) (rLtT X.K):=by
 intro pins s σ H x y v u Q I rx ry h;obtain⟨a,b,ns,ms,rfl,rfl,ha,hb,q⟩:=h;cases rx;cases ry;obtain⟨its,r1,p1,_⟩:=I.tuple ha;obtain⟨its2,r2,p2,_⟩:=I.tuple hb;have i1:IntsAre its.toArray.toList ns:=intsAre_of r1;have i2:IntsAre its2.toArray.toList ms:=intsAre_of r2;exact HT.zjz p1 p2 i1 i2 hu ⟨.bl (HT.lexLt ns ms),H,I,rfl,q⟩
end
noncomputable def ixN (n:Nat)(i:Int):Option Nat:=if 0<=i then(if i<n then some i.toNat else none) else if -(n:Int)<=i then some (i+n).toNat else none
noncomputable def atI {α:Type}(xs:List α)(i:Int):Option α:=(ixN xs.length i).bind λj=>xs[j]?
theorem zkr {n:Nat}{i:Int}{j:Nat}(h:ixN n i=some j):seqIndex? i n=some j/\j<n/\-(n:Int)<=i/\i<n:=by
 unfold ixN at h;by_cases h0:0<=i
 ·rw[if_pos h0]at h;by_cases h1:i<n
  ·rw[if_pos h1]at h;have e:i.toNat=j:=Option.some.inj h;exact⟨by rw[seqIndex_of h0 h1,e],by lia,by lia,h1⟩
  ·rw[if_neg h1]at h;cases h
 ·rw[if_neg h0]at h;by_cases h1:-(n:Int)<=i
  ·rw[if_pos h1]at h;have e:(i+n).toNat=j:=Option.some.inj h;exact⟨by rw[seqIndex_neg (by lia) h1,e],by lia,h1,by lia⟩
  ·rw[if_neg h1]at h;cases h
theorem zeS {α:Type}{xs:List α}{i:Int}{v:α}(h:atI xs i=some v):∃j,seqIndex? i xs.length=some j/\xs[j]? = some v/\j<xs.length/\-(xs.length:Int)<=i/\i<xs.length:=by
 unfold atI at h;cases e:ixN xs.length i with
 | none=>rw[e]at h;cases h
 | some j=>
  rw[e]at h;obtain⟨h1,h2,h3,h4⟩:=zkr e;exact⟨j,h1,h,h2,h3,h4⟩
theorem zaB {α:Type}{xs:List α}{j:Nat}{v:α}(h:xs[j]? = some v):atI xs (j:Int)=some v:=by
 have hj:j<xs.length:=(Xd.mp h).1;have e:ixN xs.length (j:Int)=some j:=by
  unfold ixN;rw[if_pos (by lia),if_pos (by lia)];simp
 unfold atI;rw[e];exact h
theorem ziw {α:Type}(xs:List α)(v:α):atI (xs++[v]) (-1)=some v:=by
 have hl:(xs++[v]).length=xs.length+1:=by simp
 have e:ixN (xs++[v]).length (-1)=some xs.length:=by
  unfold ixN;rw[hl,if_neg (by decide),if_pos (by lia)]
  congr 1
  lia
 unfold atI;rw[e];show(xs++[v])[xs.length]? = some v;simp
noncomputable def zdp (b:Expr):Prop:=∀o i,subscripted b false o i=operate [o,i] (getItem o i)
noncomputable def IxR (X:Cx)(r:R2):Prop:=
 ∀(value slice:Expr) (pins:List (Addr×Obj)) (s:Shared) (σ:St) (H:Hp) (x y:V) (v u:Value) (Q:VK),Inv X pins σ H s->RelV x v->RelV y u->r x y H Q->
  subscripted slice false v u=operate [v,u] (getItem v u)->wpAny (model X.prog X.w) X.A (subscriptTail value slice v u) (EP X pins σ Q) X.xe s
noncomputable def MtR (X:Cx)(id:String)(r:V->List V->Hp->VK->Prop):Prop:=
 ∀(pins:List (Addr×Obj)) (s:Shared) (σ:St) (H:Hp) (x:V) (xs:List V) (v:Value) (us:List Value) (Q:VK),Inv X pins σ H s->RelV x v->Vals xs us->r x xs H Q->
  wpAny (model X.prog X.w) X.A (call (.builtin id) (v::us)) (EP X pins σ Q) X.xe s
section
variable {X:Cx}{a b:Expr}{ta tb:TE}{pos:Pos}
theorem IxR.or {r r':R2}(h:IxR X r)(h':IxR X r'):IxR X (λx y H Q=>r x y H Q\/r' x y H Q):=by
 intro value slice pins s σ H x y v u Q I rx ry q hs;rcases q with q | q
 ·exact h value slice pins s σ H x y v u Q I rx ry q hs
 ·exact h' value slice pins s σ H x y v u Q I rx ry q hs
theorem zks {r:R2}(hr:IxR X r)(ha:PE X a ta)(hb:PE X b tb)(hs:zdp b):PE X (.Subscript a b pos) (tOp r ta tb):=by
 intro pins s σ H Q I h;exact Subscript_ (binT ha hb I h λv u s2 x y H2 I2 rx ry q=>hr a b pins s2 σ H2 x y v u Q I2 rx ry q (hs _ _))
noncomputable def rIxL (K:Xa):R2:=λx y H Q=>∃p xs i v,x=.ref p/\y=.int i/\SqL K H p xs/\atI xs i=some v/\Q v H
noncomputable def rIxT (K:Xa):R2:=λx y H Q=>∃p xs i v,x=.ref p/\y=.int i/\SqT K H p xs/\atI xs i=some v/\Q v H
noncomputable def rIxS:R2:=λx y H Q=>∃z i c,x=.str z/\y=.int i/\z.length<=sizeLine/\atI z.cps.toList i=some c/\Q (.str ⟨#[c]⟩) H
theorem znY:IxR X (rIxL X.K):=by
 intro value slice pins s σ H x y v u Q I rx ry h hs;obtain⟨p,xs,i,z,rfl,rfl,hq,he,q⟩:=h;cases rx;obtain⟨t,rfl⟩:=ry;obtain⟨its,r,pl,hz⟩:=I.list hq;obtain⟨j,h1,h2,h3,h4,h5⟩:=zeS he;obtain⟨w,ew,rw'⟩:=r.get h2;have hl:=r.length;have hn:=zfK;have fin:EP X pins σ Q w s:=⟨z,H,I,rw',q⟩;by_cases h0:0<=i
 ·have hj:i.toNat=j:=by
   rw[seqIndex_of h0 h5]at h1;exact Option.some.inj h1
  exact item_listR pl.isList h0 (by lia) (by rw[hj];simpa using ew) fin hs
 ·have hj:(i+(its.toArray.size:Int)).toNat=j:=by
   rw[seqIndex_neg (by lia) h4]at h1;rw[Xj,<- hl];exact Option.some.inj h1
  exact subscriptTail_builtinR (x:=w) pl.isList.typeIs slot_list_getitem.lookup
   (wpAny_getItem_list_neg (Q:=λr s'=>r=w/\EP X pins σ Q r s') pl.isList (by lia) (by rw[Xj]<;>lia) (by lia) (by rw[hj];simpa using ew) ⟨rfl,fin⟩) hs
theorem zpy:IxR X (rIxT X.K):=by
 intro value slice pins s σ H x y v u Q I rx ry h hs;obtain⟨p,xs,i,z,rfl,rfl,hq,he,q⟩:=h;cases rx;obtain⟨t,rfl⟩:=ry;obtain⟨its,r,pl,hz⟩:=I.tuple hq;obtain⟨j,h1,h2,h3,h4,h5⟩:=zeS he;obtain⟨w,ew,rw'⟩:=r.get h2;have hl:=r.length;have hn:=zfK;have fin:EP X pins σ Q w s:=⟨z,H,I,rw',q⟩;exact subscriptTail_builtinR (x:=w) pl.typeIs slot_tuple_getitem.lookup
  (getItem_tuple (j:=j) (Q:=λr s'=>r=w/\EP X pins σ Q r s') pl (by lia) (by lia) (by rw[Xj,<- hl];exact h1) (by simpa using ew) ⟨rfl,fin⟩) hs
theorem zpz:IxR X rIxS:=by
 intro value slice pins s σ H x y v u Q I rx ry h hs;obtain⟨z,i,c,rfl,rfl,hz,he,q⟩:=h;obtain⟨t,rfl⟩:=rx;obtain⟨t',rfl⟩:=ry;obtain⟨j,h1,h2,h3,h4,h5⟩:=zeS he;have hl:z.cps.toList.length=z.length:=by simp[Str.length]
 rw[hl]at h1 h4 h5;have hn:=zfK;exact tail_any (typeIs_str s z t) slot_str_getitem.lookup (getItem_str (c:=c) (by
  have e1:decide (i < -(2 ^ 63:Int))=false:=decide_eq_false (by lia);have e2:decide (i>=2 ^ 63)=false:=decide_eq_false (by lia);rw[e1,e2,Bool.or_false]) (by rw[h1];simpa using h2) ⟨.str ⟨#[c]⟩,H,I.tok _,⟨_,rfl⟩,q⟩) hs
noncomputable def rIx (K:Xa):R2:=λx y H Q=>rIxL K x y H Q\/rIxT K x y H Q\/rIxS x y H Q
theorem zgQ:IxR X (rIx X.K):=znY.or (zpy.or zpz)
theorem zjA (its:List Value)(n j:Nat)(u:Value):Obj.mapSeq (·.setIfInBounds j u) { cls:=.type "list",data:=.seq its.toArray n }={ cls:=.type "list",data:=.seq (its.set j u).toArray n }:=by
 simp[Obj.mapSeq]
theorem Inv.lst {pins:List (Addr×Obj)}{σ:St}{H:Hp}{s:Shared}{p:Addr}{xs:List V}(I:Inv X pins σ H s)(h:H p=some (.lst xs)) :
  ∃(its:List Value) (n:Nat),Vals xs its/\s.heap.get? p=some { cls:=.type "list",data:=.seq its.toArray n }/\xs.length<=sizeLine:=by
 obtain⟨z,its,n,r,e⟩:=I.hok p _ h;exact⟨its,n,r,e,z⟩
theorem Inv.zpA {pins:List (Addr×Obj)}{σ:St}{H:Hp}{s:Shared}{p:Addr}{xs ys:List V}{its its':List Value}{n n':Nat}{f:Obj->Obj}(I:Inv X pins σ H s)(h:H p=some (.lst xs))
  (ho:s.heap.get? p=some { cls:=.type "list",data:=.seq its.toArray n }) (hf:f { cls:=.type "list",data:=.seq its.toArray n }={ cls:=.type "list",data:=.seq its'.toArray n' }) (r:Vals ys its') (hz:ys.length<=sizeLine) (t:Nat) :
  Inv X pins σ (upd H p (.lst ys)) { s with heap:=s.heap.update p f,toks:=t }:=by
 have e:(s.heap.update p f).get? p=some { cls:=.type "list",data:=.seq its'.toArray n' }:=by
  rw[Yb f ho (by rw[hf]<;>rfl),hf]
 refine I.write (x:=p) (e:=p) (by rw[h];trivial) (.inl rfl) (λb u hb q=>(YB _ _ (Ne.symm hb)).trans q) ⟨_,e⟩ ?_;exact⟨hz,its',n',r,e⟩
noncomputable def zqY:V->V->V->Hp->(Hp->Prop)->Prop:=λo i v H Q=>∃p xs k j,o=.ref p/\i=.int k/\H p=some (.lst xs)/\ixN xs.length k=some j/\Q (upd H p (.lst (xs.set j v)))
theorem set_list:PSet X zqY:=by
 intro pins s σ H o i v ov iv u Q I ro ri rv h;obtain⟨p,xs,k,j,rfl,rfl,hp,hj,q⟩:=h;cases ro;obtain⟨t,rfl⟩:=ri;obtain⟨its,n,r,ho,hz⟩:=I.lst hp;obtain⟨h1,h2,h3,h4⟩:=zkr hj;have hl:=r.length;have hn:=zfK;have I':Inv X pins σ (upd H p (.lst (xs.set j v))) { s with heap:=s.heap.update p (Obj.mapSeq (·.setIfInBounds j u)) }:=
  I.zpA hp ho (zjA its n j u) (r.set rv j) (by rw[XZ];exact hz) s.toks
 by_cases h0:0<=k
 ·have hk:k.toNat=j:=by
   rw[seqIndex_of h0 h4]at h1;exact Option.some.inj h1
  exact PySem.W.ki_setAt ho h0 (by lia) (by rw[Xj,<- hl];exact h4) (by rw[hk];exact⟨_,I',q⟩)
 ·have hk:(k+(its.toArray.size:Int)).toNat=j:=by
   rw[seqIndex_neg (by lia) h3]at h1;rw[Xj,<- hl];exact Option.some.inj h1
  exact PySem.W.ki_setBack ho (by lia) (by rw[Xj,<- hl];exact h3) (by lia) (by rw[hk];exact⟨_,I',q⟩)
theorem zgR (lo hi:Option Int)(n:Nat):(sliceBounds lo hi none n).1=((HT.sIx n 0 lo:Nat):Int)/\(sliceBounds lo hi none n).2.1=((HT.sIx n n hi:Nat):Int)/\(sliceBounds lo hi none n).2.2=1:=by
 refine⟨?_,?_,rfl⟩
 ·cases lo with
  | none=>simp[sliceBounds,HT.sIx]
  | some i=>
   simp only[sliceBounds,HT.sIx,Option.getD_none,show(1:Int) > 0 by decide,if_true];by_cases h:i<0
   ·simp only[h,if_true]<;>lia
   ·simp only[h,if_false]<;>lia
 ·cases hi with
  | none=>simp[sliceBounds,HT.sIx]
  | some i=>
   simp only[sliceBounds,HT.sIx,Option.getD_none,show(1:Int) > 0 by decide,if_true];by_cases h:i<0
   ·simp only[h,if_true]<;>lia
   ·simp only[h,if_false]<;>lia
theorem zgc (its:List Value)(lo hi:Option Int):slicePick its.toArray lo hi none=((its.drop (HT.sIx its.length 0 lo)).take (HT.sIx its.length its.length hi-HT.sIx its.length 0 lo)).toArray:=by
 obtain⟨h1,h2,h3⟩:=zgR lo hi its.toArray.size;unfold slicePick;rw[h1,h2,h3];simp only[sliceRange_one,pick_run,Xj]<;>rfl
noncomputable def rSlL (K:Xa):V->Option Int->Option Int->Hp->VK->Prop:=λx lo hi H Q=>∃a xs,x=.ref a/\SqL K H a xs/\∀p,H p=none->Q (.ref p) (upd H p (.lst (cutV xs lo hi)))
theorem znZ:SlR X (rSlL X.K):=by
 intro pins s σ H x v vl vu lo hi sl Q I rx hs pl pu h;obtain⟨a,xs,rfl,hx,q⟩:=h;cases rx;obtain⟨its,r,ht,hz⟩:=I.list hx;have hlen:=r.length;refine⟨"list",_,slot_list_getitem.lookup,ht.isList.typeIs,?_⟩;refine wpAny_getItem_list_slice ht.isList hs pl pu .none (by simp) ?_ (by rw[Xj]<;>lia);rw[zgc,<- hlen];refine⟨.ref s.heap.objs.size,_,I.laid (t':=s.toks) (o:=.lst (cutV xs lo hi)) (λb ob q=>Xe _ q) (Xf _) ?_,rfl,q _ (I.hok.fresh (Xf _))⟩;exact⟨Yu (zhP xs lo hi) hz,_,0,(r.drop (HT.sIx xs.length 0 lo)).take (HT.sIx xs.length xs.length hi-HT.sIx xs.length 0 lo),Xx _ rfl⟩
noncomputable def zdD:V->Bool
 | .non=>true
 | .bl _=>true
 | .int _=>true
 | .str _=>true
 | _=>false
noncomputable def eqV:V->V->Bool
 | .non,.non=>true
 | .bl a,.bl b=>a == b
 | .bl a,.int b=>(if a then 1 else 0) == b
 | .int a,.bl b=>a == (if b then 1 else 0)
 | .int a,.int b=>a == b
 | .str a,.str b=>a == b
 | _,_=>false
theorem zpB {A:Around}{s:Shared}{y x:V}{u v:Value}(ry:RelV y u)(rx:RelV x v)(fy:zdD y=true)(fx:zdD x=true):SeqAt.EqAt A s u v (eqV y x):=by
 cases y with
 | non=>
  cases ry;cases x with
  | non=>cases rx;exact SeqAt.EqAt.same _
  | bl b=>cases rx;exact SeqAt.EqAt.none_bool b
  | int b=>obtain⟨t,rfl⟩:=rx;exact SeqAt.EqAt.none_int b t
  | str b=>obtain⟨t,rfl⟩:=rx;exact SeqAt.EqAt.none_str b t
  | _=>exact absurd (show false=true from fx) Xi
 | bl a=>
  cases ry;cases x with
  | non=>cases rx;exact SeqAt.EqAt.bool_none a
  | bl b=>cases rx;exact SeqAt.EqAt.bool_bool a b
  | int b=>obtain⟨t,rfl⟩:=rx;exact SeqAt.EqAt.bool_int a b t
  | str b=>obtain⟨t,rfl⟩:=rx;exact SeqAt.EqAt.bool_str a b t
  | _=>exact absurd (show false=true from fx) Xi
 | int a=>
  obtain⟨t',rfl⟩:=ry;cases x with
  | non=>cases rx;exact SeqAt.EqAt.int_none a t'
  | bl b=>cases rx;exact SeqAt.EqAt.int_bool a t' b
  | int b=>obtain⟨t,rfl⟩:=rx;exact SeqAt.EqAt.int_int a t' b t
  | str b=>obtain⟨t,rfl⟩:=rx;exact SeqAt.EqAt.int_str a t' b t
  | _=>exact absurd (show false=true from fx) Xi
 | str a=>
  obtain⟨t',rfl⟩:=ry;cases x with
  | non=>cases rx;exact SeqAt.EqAt.str_none a t'
  | bl b=>cases rx;exact SeqAt.EqAt.str_bool a t' b
  | int b=>obtain⟨t,rfl⟩:=rx;exact SeqAt.EqAt.str_int a t' b t
  | str b=>obtain⟨t,rfl⟩:=rx;exact SeqAt.EqAt.str_str a t' b t
  | _=>exact absurd (show false=true from fx) Xi
 | _=>exact absurd (show false=true from fy) Xi
noncomputable def eqU (x:V)(u:Value):Bool:=match u with
 | .none=>eqV .non x
 | .bool b=>eqV (.bl b) x
 | .int i _=>eqV (.int i) x
 | .str z _=>eqV (.str z) x
 | _=>false
theorem znl {x y:V}{u:Value}(r:RelV y u)(f:zdD y=true):eqU x u=eqV y x:=by
 cases y with
 | non=>cases r;rfl
 | bl b=>cases r;rfl
 | int i=>obtain⟨t,rfl⟩:=r;rfl
 | str z=>obtain⟨t,rfl⟩:=r;rfl
 | _=>exact absurd (show false=true from f) Xi
theorem zgd {A:Around}{s:Shared}{x:V}{v:Value}(rx:RelV x v)(fx:zdD x=true):∀ {xs:List V}{us:List Value},Vals xs us->xs.all zdD=true->∀u∈us,SeqAt.EqAt A s u v (eqU x u)
 | _,_,.nil,_=>λu hu=>by cases hu
 | y::xs,u::us,.cons r t,f=>λu' hu=>by
  rw[List.all_cons,Yp]at f;rcases Xo.mp hu with rfl | hu
  ·rw[znl r f.1];exact zpB r rx f.1 fx
  ·exact zgd rx fx t f.2 u' hu
theorem zcJ:zdf X (.type "list") (λxs H Q=>∃p ys,xs=[.ref p]/\(SqL X.K H p ys\/SqT X.K H p ys)/\∀l,H l=none->Q (.ref l) (upd H l (.lst ys))):=by
 intro pins s σ H xs us Q I r h;obtain⟨p,ys,rfl,hq,q⟩:=h;obtain⟨u,rfl,rx⟩:=vals1 r;cases rx;have fin:∀(its:List Value),Vals ys its->ys.length<=sizeLine->∀(h':Heap) (c':Nat),(∀b o',s.heap.get? b=some o'->h'.get? b=some o')->
   h'.get? s.heap.objs.size=some { cls:=.type "list",dict:=none,data:=.seq its.toArray c',slots:=#[] }->EP X pins σ Q (.ref s.heap.objs.size) { s with heap:=h' }:=λits r' hz h' c' kp e=>
  ⟨.ref s.heap.objs.size,_,I.laid (t':=s.toks) kp (Xf _) (show zca X.prog X.w _ h' _ (.lst ys) from⟨hz,its,c',r',e⟩),rfl,q _ (I.hok.fresh (Xf _))⟩
 rcases hq with hq | hq
 ·obtain⟨its,r',pl,hz⟩:=I.list hq;have hlen:=r'.length;obtain⟨o,ho,hc,n,hd⟩:=pl.isList;exact call_list_seq p (.inl rfl) ho hc hd (λh' c' kp e=>fin its r' hz h' c' kp e) (by simp only[Xj]<;>lia)
 ·obtain⟨its,r',pl,hz⟩:=I.tuple hq;have hlen:=r'.length;obtain⟨o,ho,hc,n,hd⟩:=pl;exact call_list_seq p (.inr rfl) ho hc hd (λh' c' kp e=>fin its r' hz h' c' kp e) (by simp only[Xj]<;>lia)
theorem zge:zdf X (.type "tuple") (λxs H Q=>∃p ys,xs=[.ref p]/\((SqL X.K H p ys/\∀l,H l=none->Q (.ref l) (upd H l (.tup ys)))\/(SqT X.K H p ys/\Q (.ref p) H))):=by
 intro pins s σ H xs us Q I r h;obtain⟨p,ys,rfl,h⟩:=h;obtain⟨u,rfl,rx⟩:=vals1 r;cases rx;rcases h with ⟨hq,q⟩ | ⟨hq,q⟩
 ·obtain⟨its,r',pl,hz⟩:=I.list hq;have hlen:=r'.length;refine call_tuple_list pl.isList (λh' kp=>?_) (by simp only[Xj]<;>lia);have I1:Inv X pins σ H { s with heap:=h' }:=I.kept (t':=s.toks) kp;have I2:Inv X pins σ (upd H h'.objs.size (.tup ys)) { s with heap:=h'.push { cls:=.type "tuple",data:=.seq its.toArray } }:=
   I1.laid (t':=s.toks) (λb o e=>Xe _ e) (Xf _) (show zca X.prog X.w _ _ _ (.tup ys) from⟨hz,its,r',zcH.new _ _⟩)
  exact⟨.ref h'.objs.size,_,I2,rfl,q _ (I1.hok.fresh (Xf _))⟩
 ·obtain⟨its,r',pl,hz⟩:=I.tuple hq;exact call_tuple_same pl ⟨.ref p,H,I,rfl,q⟩
noncomputable def tyV (K:Xa)(T:String)(x:V)(H:Hp):Prop:=match x with
 | .str _=>T = "str"
 | .int _=>T = "int"
 | .ref p=>(T = "list"/\∃xs,SqL K H p xs)\/(T = "tuple"/\∃o,K.lookup p=some o/\o.cls=.type "tuple"/\o.dict=none)\/
   (T = "dict"/\((∃kvs,H p=some (.dK kvs))\/∃kvs,H p=some (.dT kvs)))\/(T = "set"/\∃S n,H p=some (.set S n))
 | _=>False
theorem zpC {pins:List (Addr×Obj)}{σ:St}{H:Hp}{s:Shared}{T:String}{x:V}{v:Value}(I:Inv X pins σ H s)(r:RelV x v)(ty:tyV X.K T x H) :
  s.TypeIs v T/\∀a,v=.ref a->∃ob,s.heap.get? a=some ob/\ob.dict=none:=by
 cases x with
 | str z=>
  obtain⟨t,rfl⟩:=r;cases (show T = "str" from ty);exact⟨typeIs_str s z t,λ_ e=>nomatch e⟩
 | int i=>
  obtain⟨t,rfl⟩:=r;cases (show T = "int" from ty);exact⟨typeIs_int s i t,λ_ e=>nomatch e⟩
 | ref p=>
  cases r;rcases ty with ⟨rfl,xs,hq⟩ | ⟨rfl,o,hk,hc,hd⟩ | ⟨rfl,hk⟩ | ⟨rfl,S,n,hk⟩
  ·obtain⟨its,_,pl,_⟩:=I.list hq;refine⟨pl.isList.typeIs,λa e=>?_⟩;cases e;obtain⟨o,n,e,c,hd,_⟩:=pl;exact⟨o,e,hd⟩
  ·refine⟨⟨o,I.kIn p o hk,hc⟩,λa e=>?_⟩;cases e;exact⟨o,I.kIn _ o hk,hd⟩
  ·have z:∃o,s.heap.get? p=some o/\o.ExactDict:=by
    rcases hk with ⟨kvs,hk⟩ | ⟨kvs,hk⟩
    ·obtain⟨_,_,_,_,o,_,_,e,ex,_⟩:=I.hok p _ hk;exact⟨o,e,ex⟩
    ·obtain⟨_,_,_,_,o,_,_,e,ex,_⟩:=I.hok p _ hk;exact⟨o,e,ex⟩
   obtain⟨o,e,ex⟩:=z;refine⟨⟨o,e,ex.1⟩,λa e2=>?_⟩;cases e2;exact⟨o,e,ex.2.1⟩
  ·obtain⟨o,_,_,_,e,ex,_⟩:=I.hok p _ hk;refine⟨⟨o,e,ex.1⟩,λa e2=>?_⟩;cases e2;exact⟨o,e,ex.2.1⟩
 | _=>exact False.elim ty
noncomputable def tBM (K:Xa)(T:String)(r:V->List V->Hp->VK->Prop)(to:TE)(t:TA):TE:=λσ H Q=>to σ H λx H1=>tyV K T x H1/\t σ H1 λxs H2=>r x xs H2 Q
variable {o e:Expr}{es:List Expr}{to:TE}{t:TA}{name:Str}{apos cpos:Pos}{T id:String}{r:V->List V->Hp->VK->Prop}
theorem zoa (pa:PlainAttrs T)(slot:Slot T name id)(hty:typeOf (.builtin id)=pure (.type "method_descriptor")) (hm:MtR X id r) (ho:PE X o to) (ha:PA X (e::es) t)
  (hbase:autoParam (attributeBase o name X.env (eval o X.env)=eval o X.env) aU0)
  (hfew:autoParam (((backTo cpos (starEach (e::es) X.env)).all (λx=>!x.1)&&(backToKw cpos (keywordEach [] X.env)).all (λx=>x.1.isSome)
   && decide ((e::es).length+([]:List Keyword).length+(if ([]:List Keyword).isEmpty then 0 else 1)<30))=true) aU0)
  (hline:autoParam ((apos.endLine == cpos.line)=true) aU0) (hs:autoParam (starEach (e::es) X.env=(false,eval e X.env)::starEach es X.env) aU0) (hplain:autoParam ((backTo cpos (starEach es X.env)).any (·.1)=false) aU0) :
  PE X (.Call (.Attribute o name apos) (e::es) [] cpos) (tBM X.K T r to t):=by
 intro pins s σ H Q I h;refine wpAny_Call_method_late hbase hfew hline rfl (thn (ho pins s σ H _ I h) λv s1 q50q=>?_);obtain⟨x,H1,I1,r1,ty,q1⟩:=q50q;obtain⟨h1,h2⟩:=zpC I1 r1 ty;refine⟨T,id,pa,slot,hty,h1,h2,?_⟩;have hA:=ha cpos pins s1 σ H1 _ I1 q1;rw[hs]at hA ⊢;refine Calls.callWith_builtin (by show(false||(backTo cpos (starEach es X.env)).any (·.1))=false;rw[hplain]<;>rfl) (Calls.evalArgs_plain ?_)
 exact thn hA λus s2 q51q=>by obtain⟨vs,H2,I2,r2,q2⟩:=q51q;exact hm pins s2 σ H2 x vs v us Q I2 r1 r2 q2
end
noncomputable def MtM (X:Cx)(id:String)(r:V->List V->Hp->VK->Prop):Prop:=
 ∀(pins:List (Addr×Obj)) (s:Shared) (σ:St) (H:Hp) (x:V) (xs:List V) (v:Value) (us:List Value) (Q:VK),Inv X pins σ H s->RelV x v->Vals xs us->r x xs H Q->
  wpAny (model X.prog X.w) X.A (call (.builtin id) (v::us)) (EP X pins σ Q) X.xe s
theorem Vals.one:∀ {x:V}{us:List Value},Vals [x] us->∃u,us=[u]/\RelV x u:=by
 intro x us h;cases h with
 | cons r t=>cases t;exact⟨_,rfl,r⟩
section
variable {X:Cx}{pins:List (Addr×Obj)}{σ:St}{H:Hp}{s:Shared}{l b:Addr}{xs ys zs:List V}
theorem Inv.lset {its its':List Value}{n:Nat}{f:Array Value->Array Value}{t':Nat}(I:Inv X pins σ H s)(hH:H l=some (.lst xs))
  (e:s.heap.get? l=some { cls:=.type "list",data:=.seq its.toArray n }) (hf:f its.toArray=its'.toArray) (hv:Vals ys its') (hz:ys.length<=sizeLine) :
  Inv X pins σ (upd H l (.lst ys)) { s with heap:=s.heap.update l (Obj.mapSeq f),toks:=t' }:=by
 have q:=PySem.IsL.update e f;rw[hf]at q;refine I.write (x:=l) (e:=l) (by rw[hH];exact trivial) (.inl rfl) (λb' u hb hu=>(YB s.heap (Obj.mapSeq f) (Ne.symm hb)).trans hu) ⟨_,q⟩ ?_;exact⟨hz,its',_,hv,q⟩
theorem Inv.lnew {its:List Value}{t':Nat}(I:Inv X pins σ H s)(hv:Vals ys its)(hz:ys.length<=sizeLine) :
  Inv X pins σ (upd H s.heap.objs.size (.lst ys)) { s with heap:=s.heap.push { cls:=.type "list",data:=.seq its.toArray },toks:=t' }:=
 I.laid (λ_ _ q=>Xe _ q) (Xf _) ⟨hz,its,0,hv,Xx _ rfl⟩
theorem Inv.fresh (I:Inv X pins σ H s):H s.heap.objs.size=none:=I.hok.fresh (Xf _)
theorem Inv.lstM (I:Inv X pins σ H s)(hH:H l=some (.lst xs)):xs.length<=sizeLine/\∃(its:List Value)(n:Nat),Vals xs its/\xs.length=its.length/\s.heap.get? l=some { cls:=.type "list",data:=.seq its.toArray n }:=by
 obtain⟨z,its,n,r,e⟩:=I.hok l _ hH;exact⟨z,its,n,r,r.length,e⟩
theorem zmk {n:Nat}(h:n<=sizeLine):Builtin.List.listTooLong n=false:=by
 unfold Builtin.List.listTooLong;exact decide_eq_false (by lia)
end
section
variable {X:Cx}
noncomputable def zob:V->List V->Hp->VK->Prop:=λx vs H Q=>∃l xs y,x=.ref l/\vs=[y]/\H l=some (.lst xs)/\xs.length<sizeLine/\Q .non (upd H l (.lst (xs++[y])))
theorem zeT:MtM X "list.append" zob:=by
 intro pins s σ H x vs v us Q I rx rv h;obtain⟨l,xs,y,rfl,rfl,hH,hz,q⟩:=h;cases rx;obtain⟨u,rfl,ru⟩:=rv.one;obtain⟨z,its,n,r,hl,e⟩:=I.lstM hH;refine call_meets F.slot_list_append ⟨_,e,rfl⟩ F.entry_list_append (F.args_list_append_2 _ _) (PySem.list_append l its.toArray n u (by rw[Xj];lia)) ⟨e,?_⟩;refine⟨.non,_,I.lset (its':=its++[u]) hH e (by simp) (r.append (.cons ru .nil)) ?_,rfl,q⟩;rw[Xr,Yt];lia
end
section
variable {κ:Type} [DecidableEq κ]
theorem KV.length {kvs:List (κ×V)}{vs:List (κ×Value)}(r:KV kvs vs):kvs.length=vs.length:=Paired.length r
end
theorem zqZ {P:Program}{w:World}{k:Key}{u:Value}(r:RelV (kV k) u):(zbO P w).is k u=true:=by
 cases k with
 | inl i=>obtain⟨t,e⟩:=(show ∃t,u=Value.int i t from r);subst e;exact zhL P w i t
 | inr x=>obtain⟨t,e⟩:=(show ∃t,u=Value.str x t from r);subst e;exact zhM P w x t
theorem zgS {P:Program}{w:World}:∀ {ks:List Key}{us:List Value},Vals (ks.map kV) us->ItemsAre (zbO P w) ks us
 | [],_,r=>by rw[List.map_nil]at r;cases r;exact .nil
 | k::ks,_,r=>by
  rw[XJ]at r;cases r with
  | cons h t=>exact .cons (zqZ h) (zgS t)
noncomputable abbrev KT (H:Hp):List (List Key×V)->List (List Key×Addr×Value)->Prop:=Paired λp q=>p.1=q.1/\H q.2.1=some (.tup (p.1.map kV))/\RelV p.2 q.2.2
section
variable {P:Program}{w:World}{H:Hp}{h:Heap}{a:Addr}
theorem zpD {u:HO}(ok:HOk P w H h)(e:Rd H a u):zca P w H h a u:=e.ok ok
theorem zpE {kvs:List (Key×V)}(ok:HOk P w H h)(e:Rd H a (.dK kvs)):kvs.length<=sizeLine/\(a == sysModules)=false/\∃vs,KV kvs vs/\h.DictOf (zbO P w) a vs:=
 show zca P w H h a (.dK kvs) from zpD ok e
theorem zpF {ks:List Key}(ok:HOk P w H h)(e:H a=some (.tup (ks.map kV))):(tupleKind (zbO P w)).is h ks a:=by
 obtain⟨_,its,r,o,h1,h2,⟨n,h3⟩,_⟩:=(show zca P w H h a (.tup (ks.map kV)) from ok a _ e);exact⟨o,its.toArray,n,h1,h2,h3,by simpa using zgS r⟩
theorem zra {kvs:List (List Key×V)}(ok:HOk P w H h)(e:Rd H a (.dT kvs)):kvs.length<=sizeLine/\(a == sysModules)=false/\
  ∃xs,KT H kvs xs/\h.DictOfH (tupleKind (zbO P w)) a xs:=by
 obtain⟨z,y,xs,r,o,es,ep,h1,h2,h3,h4,h5⟩:=(show zca P w H h a (.dT kvs) from zpD ok e);refine⟨z,y,xs,r,o,es,ep,h1,h2,h3,h4,λx hx=>?_,h5⟩;have all:∀ {l:List (List Key×V)} {m:List (List Key×Addr×Value)},KT H l m->∀x∈m,(tupleKind (zbO P w)).is h x.1 x.2.1:=by
  intro l m q;induction q with
  | nil=>intro x hx;exact nomatch hx
  | @cons p q ps qs hq t ih=>
   intro x hx;rcases Xo.mp hx with e | hx
   ·subst e;exact zpF ok (by rw[<- hq.1];exact hq.2.1)
   ·exact ih x hx
 exact all r x hx
end
section
variable {X:Cx}{pins:List (Addr×Obj)}{σ:St}{H:Hp}{s:Shared}{a:Addr}{kvs:List (Key×V)}{k:Key}{u:Value}{A:Around}{E:Value->Shared->Prop}
theorem zrb {Q:Value->Shared->Prop}(I:Inv X pins σ H s)(e:Rd H a (.dK kvs))(h:∀t s',Inv X pins σ H s'->Q (.int kvs.length t) s'):wpAny (model X.prog X.w) A (call (.builtin "len") [.ref a]) Q E s:=by
 obtain⟨z,hd,vs,rel,dd⟩:=zpE I.hok e;refine call_len_dict hd dd (by rw[<- rel.length];rw[sizeLine_eq]at z;lia) ?_;rw[<- rel.length];exact h _ _ (I.tok _)
end
structure M1 (X:Cx)(o:Expr)(m:Str)(apos:Pos)(e:Expr)(cpos:Pos):Prop where
 base:attributeBase o m X.env (eval o X.env)=eval o X.env
 few:((backTo cpos (starEach [e] X.env)).all (λx=>!x.1)&&(backToKw cpos (keywordEach [] X.env)).all (λx=>x.1.isSome)
  && decide (([e]:List Expr).length+([]:List Keyword).length+(if ([]:List Keyword).isEmpty then 0 else 1)<30))=true
 line:(apos.endLine == cpos.line)=true
 trees:backTo cpos (starEach [e] X.env)=[(false,eval e X.env)]
end L2
namespace Att
open PySem PySem.W PySem.Calls PyProof.Rows
theorem zeU {P:Params}{h:Heap}:∀(ns:List Int)(vs:List Value),WellAll P h vs (ns.map WData.int)->IntsAre vs ns:=by
 intro ns;induction ns with
 | nil=>
  intro vs w;rw[List.map_nil]at w;cases w;exact .nil
 | cons n ns ih=>
  intro vs w;rw[XJ]at w;cases w with
  | cons a b=>
   cases a;exact .cons _ _ (ih _ b)
theorem zkt {l:OpenLaw}{n:Nat}(hn:l.most=some n){P:Params}{h:Heap}{args:List WData}{vals:List Value}
  (hpre:l.row.toRowW.claim.pre args=true) (hwl:WellAll P h vals args) :
  ∃a vs ns,vals=[Value.ref a]/\args=[WData.list (ns.map WData.int)]/\h.get? a=some { cls:=.type "list",data:=.seq vs.toArray }/\IntsAre vs ns/\ns.length<=n:=by
 have hsh:WShape.hasAll [] args [.list .int]=true:=(pre_splitW hpre).1;have hc:l.pre.holds [] { args:=args }=true:=(pre_splitW hpre).2;obtain⟨d,r,rfl,h1,h2⟩:=hasAllW_cons hsh;obtain rfl:=hasAllW_nil h2;obtain⟨xs,rfl,h3⟩:=hasW_list h1;obtain⟨ns,rfl⟩:=items_int h3;have hlen:ns.length<=n:=by
  unfold OpenLaw.pre at hc;have h4:(WTm.not (.lt (.lit (.int (n:Int))) (.len (.arg 0)))).holds [] { args:=[.list (ns.map .int)] }=true:=by
   have h4:=(holds_andW hc).1;rw[hn]at h4;exact h4
  have h5:=condW_of h4 (w_not (w_lt w_lit (w_len_list (w_arg rfl))));rw[Xb]at h5;refine Nat.le_of_not_lt λq=>?_;have q':(n:Int)<((ns.length:Nat):Int):=by lia
  first
   | (rw[decide_eq_true q']at h5;exact absurd h5 (by decide))
   | (simp at h5;lia)
 cases hwl with
 | cons w1 w2=>
  cases w2;cases w1 with
  | list ho hall=>exact⟨_,_,ns,rfl,rfl,ho,zeU ns _ hall,hlen⟩
theorem zku (l:OpenLaw)(args:List WData):l.row.toRowW.claim.post args (.bool true) args=true:=
 postW_of (r:=l.row.toRowW) (X:=(true == true))
  (show WShape.has [] (.bool true) .bool=true by first | rfl | decide | simp[WShape.has,WShape.arms,WShape.armsAll])
  (show(WTm.eq .res (.lit (.bool true))).value [] { args:=args,res:=some (.bool true),after:=args }=some (.bool (true == true)) from w_eq_bool (w_res rfl) w_lit) rfl
theorem zhQ {l:OpenLaw}{n:Nat}{q:Program}{loose:List Str}{XP:(Str->Option Value)->Heap->Prop}{YP:World->Heap->Prop}{d:DefRec}
  (hn:l.most=some n) (hdf:d.params.defaults=[])
  (call:∀(w:World) (s₀ s₁:Shared) (mg mb:Str->Option Value) (fa:Addr) (o:Obj) (pm cd doc:Value) (a:Addr) (vs:List Value) (ns:List Int),
   Ground q loose [] XP w s₀ mg mb s₁.heap->YP w s₁.heap->
   s₁.heap.get? fa=some o->o.data=.func (docDef d.name d.params d.body d.scope pm cd doc)->s₁.heap.CodeRec cd d.name->mg d.name=some (.ref fa)->
   s₁.heap.get? a=some { cls:=.type "list",data:=.seq vs.toArray }->IntsAre vs ns->ns.length<=n->s₁.gens = #[]->
   codeAny (model l.prog w) callerA (.call (.ref fa) ⟨[.ref a],[]⟩) (λr s'=>r=.ok (.ret (.bool true))/\OldK s₁.heap s'.heap/\s'.os=s₁.os/\AllBare s'.gens) s₁) :
  WalkO q loose XP YP l.row.toRowW d [] (λf vs=>PySem.call f vs):=by
 intro w s₀ s₁ mg mb G Y fa o pm cd doc dV kV ho hd hcd hD hmg hg args vals as hpre hlay hrd hwl hlo;obtain rfl:dV=.none:=Dflts.none hD hdf;obtain rfl:kV=.none:=Dflts.noKw hD;obtain⟨a,vs,ns,rfl,rfl,hobj,hints,hlen⟩:=zkt hn hpre hwl;refine enter_call (codeAny_mono (call w s₀ s₁ mg mb fa o pm cd doc a vs ns G Y ho (fd_plain hd) hcd hmg hobj hints hlen hg) λr s' hq=>?_);obtain⟨rfl,h2,h3,h4⟩:=hq;exact⟨.inl ⟨.bool true,.bool true,[],rfl,λ_=>rfl,.bool true,zku l _,λ_=>⟨List.Pairwise.nil,λ_ hm=>(nomatch hm)⟩⟩,h2,h3,h4⟩
end Att
namespace L2
open PySem PySem.Spec PyProof.Rows
theorem zgT:∀ {vs:List Value}{ns:List Int},IntsAre vs ns->Vals (ns.map V.int) vs
 | _,_,.nil=>.nil
 | _,_,.cons n t h=>.cons ⟨t,rfl⟩ (zgT h)
noncomputable def Only (H:Hp):Prop:=∀b,H b=none\/∃o xs,H b=some (.frz o (.lst xs))
noncomputable abbrev KOf {K:Xa}{h:Heap}(_:K.In h):Xa:=K
noncomputable def zar (s:Stmt):Arguments:=match s with
 | .FunctionDef _ a _ _ _ _ _ _ _ _=>a
 | _=>{ posonlyargs:=[],args:=[],vararg:=none,kwonlyargs:=[],kw_defaults:=[],kwarg:=none,defaults:=[] }
noncomputable def zam (s:Stmt):List Stmt:=match s with
 | .FunctionDef _ _ b _ _ _ _ _ _ _=>b
 | _=>[]
noncomputable def zac (s:Stmt):Scope:=match s with
 | .FunctionDef _ _ _ _ _ _ sc _ _ _=>sc
 | _=>{ kind:=.function,names:=[],isGenerator:=false,isCoroutine:=false }
noncomputable abbrev CX0:CXT:=λ_ _ _ _ _ _=>False
noncomputable abbrev E0:XK:=λ_ _ _=>False
theorem zhR {X:Cx}:zeR CX0 X E0:=λ_ _ _ _ _ _ _ h=>h.elim
structure Fun (K:Xa)(x qual:Str)(st:Stmt)(f:Addr)(fd:FuncData):Prop where
 ex:∃(oc:Value) (od:Option Addr) (kV doc pm:Value) (an:Option Addr) (cdv ct:Value) (osl:Array (Option Value)),
  fd=Xv x qual (zar st) (zam st) (zac st) .none kV doc pm an cdv ct/\K.lookup f=some ⟨oc,od,.func fd,osl⟩/\Xu K cdv qual=true
 kp:Xq K (.ref f)=true
section
variable {P:Program}{w:World}{K:Xa}{mg:Str->Option Value}{base:Heap}
theorem Fun.ok {x qual:Str}{st:Stmt}{f:Addr}{fd:FuncData}{N ps:List Str}{k:Nat}{sp:Sp}(F:Fun K x qual st f fd)(S:zan N ps (zac st))(len:∀vs H Q E,sp vs H Q E->vs.length=ps.length)
  (hbody:∀(cdv:Value) (A:Around) (outer:List Env) (s:Shared) (H:Hp) (vs:List V) (Q:VK) (E:XK),Room k (A.deeper (envOfC qual (zac st) s.heap.objs.size f cdv))->sp vs H Q E->
   ∃t,PSs (cxOf CX0 P w K mg base N qual (zac st) f cdv A outer s H E).nox (zam st) t/\t { nx:=λ_ H'=>Q .non H',rt:=Q } (start N vs) H):FnOk P w K mg base CX0 (k+1) f fd ps sp:=by
 obtain⟨oc,od,kV,doc,pm,an,cdv,ct,osl,rfl,lk,hcd⟩:=F.ex;refine zqW lk hcd S len λA outer s H vs Q E hr hsp=>?_;obtain⟨t,h,q⟩:=hbody cdv A outer s H vs Q E hr hsp;exact⟨t,h.nox,q⟩
theorem Fun.binds {x qual:Str}{st:Stmt}{f:Addr}{fd:FuncData}{ps:List Str}(F:Fun K x qual st f fd)
  (h:∀(kV doc pm:Value) (an:Option Addr) (cdv ct:Value) (us:List Value),us.length=ps.length->bindArgs (Xv x qual (zar st) (zam st) (zac st) .none kV doc pm an cdv ct) ⟨us,[]⟩=pure (ps.zip us)):Binds K fd ps []:=by
 obtain⟨oc,od,kV,doc,pm,an,cdv,ct,osl,rfl,lk,hcd⟩:=F.ex;exact .all (h kV doc pm an cdv ct)
theorem zaC {x qual:Str}{st:Stmt}{f:Addr}{oc:Value}{od an:Option Addr}{osl:Array (Option Value)}{kV doc pm cdv ct:Value}(l:K.lookup f=some ⟨oc,od,.func (Xv x qual (zar st) (zam st) (zac st) .none kV doc pm an cdv ct),osl⟩)
  (c:Xu K cdv qual=true) (k:Xq K (.ref f)=true):Fun K x qual st f (Xv x qual (zar st) (zam st) (zac st) .none kV doc pm an cdv ct):=⟨⟨oc,od,kV,doc,pm,an,cdv,ct,osl,rfl,l,c⟩,k⟩
end
theorem iteF {A B:Prop}(h:B):if false=true then A else B:=by
 rw[if_neg Xi];exact h
theorem iteT {A B:Prop}(h:A):if true=true then A else B:=by
 rw[if_pos rfl];exact h
theorem ite2 {c A B:Prop} [Decidable c] (h1:c->A)(h2:¬ c->B):if c then A else B:=by
 by_cases h:c
 ·rw[if_pos h];exact h1 h
 ·rw[if_neg h];exact h2 h
noncomputable def Same (H H':Hp):Prop:=∀b o,H b=some o->H' b=some o
theorem Same.refl (H:Hp):Same H H:=λ_ _ h=>h
theorem Same.trans {H H1 H2:Hp}(a:Same H H1)(b:Same H1 H2):Same H H2:=λc o h=>b c o (a c o h)
theorem Same.free {H H':Hp}(e:Same H H'){l:Addr}(h:H' l=Option.none):H l=Option.none:=by
 cases q:H l with
 | none=>rfl
 | some o=>
  rw[e l o q]at h;cases h
theorem Same.seq {K:Xa}{H H':Hp}{a:Addr}{xs:List V}(e:Same H H')(h:SqL K H a xs):SqL K H' a xs:=by
 rcases h with (h | ⟨o,h⟩) | h
 ·exact .inl (.inl (e _ _ h))
 ·exact .inl (.inr ⟨o,e _ _ h⟩)
 ·exact .inr h
noncomputable def zaY (env:Env):List (Str×NameKind)->List (Str×Addr)->List (Str×Addr)
 | [],acc=>acc
 | (n,k)::r,acc=>zaY env r (if k == .free then(n,(env.cells.lookup n).getD 0)::acc else acc)
theorem zix {env:Env}(f:Str×NameKind->List (Str×Addr)->Sem (ForInStep (List (Str×Addr))))
  (hf:∀n k cs,f (n,k) cs=if k == .free then(do let a <- cellOf env n;pure (.yield ((n,a)::cs))) else pure (.yield cs)) :
  ∀(l:List (Str×NameKind)) (acc:List (Str×Addr)),(∀n,(n,NameKind.free)∈l->∃c,env.cells.lookup n=some c)->forIn l acc f=pure (zaY env l acc)
 | [],acc,_=>by rw[List.forIn_nil];rfl
 | (n,k)::r,acc,h=>by
  have ih:=zix f hf r;have hr:∀m,(m,NameKind.free)∈r->∃c,env.cells.lookup m=some c:=λm hm=>h m (Xh _ hm);rw[List.forIn_cons,hf];unfold zaY;by_cases hk:(k == NameKind.free)=true
  ·have hk':k=NameKind.free:=by simpa using hk
   subst hk';obtain⟨c,hc⟩:=h n Xm;have e:cellOf env n=pure c:=by unfold cellOf;rw[hc]
   rw[if_pos hk,if_pos hk,e,hc];simp only[pure_bind,Option.getD_some];exact ih _ hr
  ·rw[if_neg hk,if_neg hk];simp only[pure_bind];exact ih _ hr
theorem zkv {scope:Scope}{env:Env}(h:∀n,(n,NameKind.free)∈scope.names->∃c,env.cells.lookup n=some c):closureFor scope env=pure (zaY env scope.names []):=by
 simp only[closureFor];rw[zix (env:=env) _ (λn k cs=>by cases hk:(k == NameKind.free)<;>simp[hk]) scope.names [] h];simp
theorem zfM {env:Env}:∀(l:List (Str×NameKind))(acc:List (Str×Addr)),(∀n,(n,NameKind.free)∈l->∃c,env.cells.lookup n=some c)->(∀n c,(n,c)∈acc->env.cells.lookup n=some c)->
  ∀n c,(n,c)∈zaY env l acc->env.cells.lookup n=some c
 | [],_,_,ha,n,c,hm=>ha n c hm
 | (x,k)::r,acc,h,ha,n,c,hm=>by
  have hr:∀m,(m,NameKind.free)∈r->∃c,env.cells.lookup m=some c:=λm hm=>h m (Xh _ hm);unfold zaY at hm;refine zfM r _ hr (λm d hd=>?_) n c hm;by_cases hk:(k == NameKind.free)=true
  ·have hk':k=NameKind.free:=by simpa using hk
   subst hk';rw[if_pos hk]at hd;rcases Xo.mp hd with e | hd
   ·obtain⟨c',hc'⟩:=h x Xm;cases e;rw[hc'];rfl
   ·exact ha m d hd
  ·rw[if_neg hk]at hd;exact ha m d hd
theorem zed {env:Env}:∀(l:List (Str×NameKind))(acc:List (Str×Addr))(n:Str),((n,NameKind.free)∈l\/(acc.lookup n).isSome=true)->((zaY env l acc).lookup n).isSome=true
 | [],_,_,h=>h.elim (λz=>nomatch z) id
 | (x,k)::r,acc,n,h=>by
  unfold zaY;refine zed r _ n ?_;have up:(acc.lookup n).isSome=true->((if (k == NameKind.free)=true then(x,(env.cells.lookup x).getD 0)::acc else acc).lookup n).isSome=true:=λz=>by
   by_cases hk:(k == NameKind.free)=true
   ·rw[if_pos hk,Yh];cases n == x<;>simp[z]
   ·rw[if_neg hk];exact z
  rcases h with h | h
  ·rcases Xo.mp h with e | h
   ·right;cases e;rw[if_pos (by rfl),Yh];simp
   ·exact .inl h
  ·exact .inr (up h)
theorem zbc:∀(names:List (Str×NameKind))(n:Nat)(acc:List (Str×Addr)),cellsFrom n names acc=cellsFrom n names []++acc
 | [],_,_=>rfl
 | (x,k)::r,n,acc=>by
  unfold cellsFrom;by_cases hk:(k == NameKind.cell)=true
  ·rw[if_pos hk,if_pos hk,zbc r (n+1) ((x,n)::acc),zbc r (n+1) [(x,n)],List.append_assoc];rfl
  ·rw[if_neg hk,if_neg hk];exact zbc r n acc
theorem zci:∀(names:List (Str×NameKind))(n:Nat)(acc:List (Str×Addr))(x:Str)(c:Addr),(x,c)∈cellsFrom n names acc->(x,c)∈acc\/(x,NameKind.cell)∈names
 | [],_,_,_,_,h=>.inl h
 | (y,k)::r,n,acc,x,c,h=>by
  unfold cellsFrom at h;by_cases hk:(k == NameKind.cell)=true
  ·have hk':k=NameKind.cell:=by simpa using hk
   subst hk';rw[if_pos hk]at h;rcases zci r _ _ x c h with h | h
   ·rcases Xo.mp h with e | h
    ·cases e;exact .inr Xm
    ·exact .inl h
   ·exact .inr (Xh _ h)
  ·rw[if_neg hk]at h;rcases zci r _ _ x c h with h | h
   ·exact .inl h
   ·exact .inr (Xh _ h)
noncomputable def zey (sc sup:Scope):Scope:=
 {sc with names:=sc.names.map λ(n,k)=>if (k == .free&&sup.kind == .function&&sup.names.lookup n == some .cell) then(n,.cell) else(n,k) }
noncomputable def cpOk (sup:Scope)(XN N:List Str)(k:Nat)(js:List Nat)(sc:Scope):Bool:=
 sc.kind == .function&&decide N.Nodup&&decide (sc.names.map (·.1)).Nodup&&(sc.names.all λp=>p.2 != .free||(sup.names.lookup p.1 == some .cell||sup.names.lookup p.1 == some .free)) &&
  N.length == k+js.length&&((N.drop k).zip js).all λp=>sc.names.lookup p.1 == some .free&&XN[p.2]? == some p.1
structure zcy (X:Cx)(N:List Str)(k:Nat)(js:List Nat)(sc:Scope):Prop where
 kind:sc.kind=.function
 nd:N.Nodup
 nm:(sc.names.map (·.1)).Nodup
 fr:∀n,(n,NameKind.free)∈sc.names->X.env.kindOf n=some .cell\/X.env.kindOf n=some .free
 len:N.length=k+js.length
 at':∀(i:Nat) (x:Str),N[k+i]? = some x->sc.names.lookup x=some .free/\∃j,js[i]? = some j/\X.N[j]? = some x
theorem zdE {X:Cx}{sup:Scope}{XN N:List Str}{k:Nat}{js:List Nat}{sc:Scope}(hs:X.env.scope=sup)(hn:X.N=XN)(h:cpOk sup XN N k js sc=true):zcy X N k js sc:=by
 subst hs hn;unfold cpOk at h;simp only[Yp,decide_eq_true_eq,beq_iff_eq,XY]at h;obtain⟨⟨⟨⟨⟨h1,h2⟩,h3⟩,h4⟩,h5⟩,h6⟩:=h;refine⟨h1,h2,h3,λn hn=>?_,h5,λi x hi=>?_⟩
 ·have q:=h4 _ hn;simp only[bne_self_eq_false,Bool.false_or,Bool.or_eq_true,beq_iff_eq]at q;exact q
 ·have hi':(N.drop k)[i]? = some x:=by rw[List.getElem?_drop];exact hi
  have hl:k+i<N.length:=(Xd.mp hi).1;have hj:i<js.length:=by lia
  have hm:(x,js[i])∈(N.drop k).zip js:=by
   refine List.mem_iff_getElem?.mpr ⟨i,?_⟩;rw[List.getElem?_zip_eq_some];exact⟨hi',by simp[hj]⟩
  have q:=h6 _ hm;exact⟨q.1,js[i],by simp[hj],q.2⟩
theorem zcz {α:Type}:∀ {l:List (Str×α)}{x:Str}{v:α},(l.map (·.1)).Nodup->(x,v)∈l->l.lookup x=some v
 | (y,u)::r,x,v,nd,h=>by
  rw[XJ,Yg]at nd;rw[Yh];rcases Xo.mp h with e | h
  ·cases e;simp
  ·have ne:x≠y:=λz=>nd.1 (XW.mpr ⟨(x,v),h,z⟩);have hb:(x == y)=false:=by simpa using ne
   rw[hb];exact zcz nd.2 h
noncomputable def zdF (k:Nat)(js:List Nat)(σ:St):St:=List.replicate k none++js.map λj=>(σ[j]?).getD none
noncomputable def cxB (X:Cx)(N:List Str)(sc:Scope)(C:Addr)(cells:List (Str×Addr))(fp:List Addr)(s:Shared)(H:Hp):Cx where
 prog:=X.prog
 w:=X.w
 K:=X.K
 mg:=X.mg
 base:=X.base
 A:=X.A
 N:=N
 s₀:=s
 H₀:=H
 env:={ scope:=zey sc X.env.scope,locals:=C,globals:=X.env.globals,cells:=cells,qual:=X.env.qual,func:=none,code:=X.env.code,frame:=X.env.frame,builtins:=X.env.builtins }
 outer:=X.stack
 stack:=X.stack
 ex:=fp
 fn:=λx=>sc.names.lookup x == some .cell
 calm:=X.calm
 pn:=[]
 xe:=λ_ _=>False
section
variable {X:Cx}{pins:List (Addr×Obj)}{σ:St}{H:Hp}{s:Shared}
theorem zdG {sc sup:Scope}{x:Str}{k:NameKind}(h:(zey sc sup).names.lookup x=some k):sc.names.lookup x=some k\/(sc.names.lookup x=some .free/\k=.cell):=by
 unfold zey at h;dsimp only at h;generalize sc.names=l at h ⊢;induction l with
 | nil=>simp at h
 | cons p r ih=>
  obtain⟨n,kd⟩:=p;rw[XJ,Yh]at h;rw[Yh];dsimp only at h;by_cases hc:(kd == NameKind.free&&sup.kind == ScopeKind.function&&sup.names.lookup n == some NameKind.cell)=true
  ·rw[if_pos hc]at h;dsimp only at h;cases hx:x == n with
   | true=>
    rw[hx]at h;simp only[Yp,beq_iff_eq]at hc;right;exact⟨by rw[hc.1.1],(Option.some.inj h).symm⟩
   | false=>rw[hx]at h;exact ih h
  ·rw[if_neg hc]at h;dsimp only at h;cases hx:x == n with
   | true=>rw[hx]at h;left;exact h
   | false=>rw[hx]at h;exact ih h
theorem zdH {sc sup:Scope}{x:Str}(h:sc.names.lookup x=some .free):(zey sc sup).names.lookup x=some .cell\/(zey sc sup).names.lookup x=some .free:=by
 unfold zey;dsimp only;generalize sc.names=l at h ⊢;induction l with
 | nil=>simp at h
 | cons p r ih=>
  obtain⟨n,kd⟩:=p;rw[Yh]at h;rw[XJ];dsimp only;by_cases hc:(kd == NameKind.free&&sup.kind == ScopeKind.function&&sup.names.lookup n == some NameKind.cell)=true
  ·rw[if_pos hc,Yh];cases hx:x == n with
   | true=>left;rfl
   | false=>rw[hx]at h;exact ih h
  ·rw[if_neg hc,Yh];cases hx:x == n with
   | true=>rw[hx]at h;right;exact h
   | false=>rw[hx]at h;exact ih h
theorem Inv.block {N:List Str}{k:Nat}{js:List Nat}{sc:Scope}{fp:List Addr}(I:Inv X pins σ H s)(S:zcy X N k js sc)(hf:∀b∈fp,FpOk X pins H b)(hfs:∀b∈fp,b<s.heap.objs.size) :
  Inv (cxB X N sc s.heap.objs.size (cellsFrom (s.heap.objs.size+1) sc.names (zaY X.env sc.names [])) fp s H) [] (zdF k js σ) H
   {s with heap:=pushCells (s.heap.push { cls:=.type "dict",data:=.dict #[] }) sc.names }:=by
 have hz:(s.heap.push { cls:=.type "dict",data:=.dict #[] }).objs.size=s.heap.objs.size+1:=Yz ..;have kp:∀b o,s.heap.get? b=some o->(pushCells (s.heap.push { cls:=.type "dict",data:=.dict #[] }) sc.names).get? b=some o:=λb o e=>pushCells_keeps _ _ b o (Xe _ e);have cok:=cellsFrom_ok sc.names (s.heap.push { cls:=.type "dict",data:=.dict #[] }) (s.heap.objs.size+1) [] ⟨λ_ _ hm=>(nomatch hm),List.Pairwise.nil⟩ (by rw[hz];exact Xf _);rw[hz]at cok;have frs':∀n,(n,NameKind.free)∈sc.names->∃c,X.env.cells.lookup n=some c:=λn hn=>I.ok.has n (S.fr n hn);have csub:=zfM (env:=X.env) sc.names [] frs' (λ_ _ z=>nomatch z);have cases_:∀x c,(cellsFrom (s.heap.objs.size+1) sc.names (zaY X.env sc.names [])).lookup x=some c->
   ((cellsFrom (s.heap.objs.size+1) sc.names []).lookup x=some c)\/((cellsFrom (s.heap.objs.size+1) sc.names []).lookup x=none/\(zaY X.env sc.names []).lookup x=some c):=λx c h=>by
  rw[zbc,List.lookup_append]at h;cases q:(cellsFrom (s.heap.objs.size+1) sc.names []).lookup x with
  | some d=>rw[q]at h;left;simpa using h
  | none=>rw[q]at h;right;exact⟨rfl,by simpa using h⟩
 have old:∀x c,(zaY X.env sc.names []).lookup x=some c->X.env.cells.lookup x=some c:=λx c h=>csub x c (PySem.mem_of_lookup h);have oldlt:∀x c,X.env.cells.lookup x=some c->c<s.heap.objs.size:=λx c h=>let ⟨_,q⟩:=I.cell x c h;q.lt;have ownge:∀x c,(cellsFrom (s.heap.objs.size+1) sc.names []).lookup x=some c->s.heap.objs.size+1<=c:=λx c h=>(cok.empty x c (PySem.mem_of_lookup h)).2;refine⟨⟨I.ok.mod,S.kind,I.ok.glob,I.ok.blt,Xf _,?inj,?has,?cab,I.ok.hd,I.ok.frames,.inl rfl,?exf,I.bs,Yu I.ok.bsz I.sz,?noex,?exfs,I.stack,I.zkb⟩,rfl,I.bare,Un.kept kp,?loc,?cell,I.hok.fresh (Xf _),?freeC,λp hp=>absurd (show p∈([]:List (Addr×Obj)) from hp) (by simp),I.hok.kept kp,?len⟩
 case inj=>
  intro x y c hx hy;rcases cases_ x c hx with h1 | ⟨_,h1⟩<;>rcases cases_ y c hy with h2 | ⟨_,h2⟩
  ·exact name_of_addr cok.apart (PySem.mem_of_lookup h1) (PySem.mem_of_lookup h2)
  ·exact absurd (XE (oldlt y c (old y c h2)) (Nat.le_of_succ_le (ownge x c h1))) (Yo _)
  ·exact absurd (XE (oldlt x c (old x c h1)) (Nat.le_of_succ_le (ownge y c h2))) (Yo _)
  ·exact I.ok.inj x y c (old x c h1) (old y c h2)
 case has=>
  intro x hx;have hx':(zey sc X.env.scope).names.lookup x=some .cell\/(zey sc X.env.scope).names.lookup x=some .free:=hx;have q:sc.names.lookup x=some .cell\/sc.names.lookup x=some .free:=by
   rcases hx' with h | h
   ·rcases zdG h with h | ⟨h,_⟩
    ·exact .inl h
    ·exact .inr h
   ·rcases zdG h with h | ⟨h,_⟩
    ·exact .inr h
    ·exact .inr h
  refine Option.isSome_iff_exists.mp (PySem.W.cellsFrom_some sc.names _ _ ?_);rcases q with q | q
  ·exact .inl q
  ·exact .inr (zed _ _ _ (.inl (PySem.mem_of_lookup q)))
 case cab=>
  intro x c hfn hx;have hc:sc.names.lookup x=some .cell:=by simpa[cxB]using hfn
  rcases cases_ x c hx with h | ⟨h,_⟩
  ·have:=ownge x c h;show s.heap.objs.size<=c;lia
  ·have q:=PySem.W.cellsFrom_some sc.names (s.heap.objs.size+1) [] (.inl hc);rw[h]at q;cases q
 case exf=>
  intro b hb;have hlt:=hfs b hb;refine⟨XD hlt,λx c hx=>?_⟩;rcases cases_ x c hx with h | ⟨_,h⟩
  ·exact λz=>absurd (XE (show c<s.heap.objs.size by rw[z];exact hlt) (Nat.le_of_succ_le (ownge x c h))) (Yo _)
  ·exact(hf b hb).2.2.2.2.1 x c (old x c h)
 case noex=>
  intro b o e hb;rcases(hf b hb).2.2.2.1 with z | z
  ·exact I.ok.noex b o e z
  ·exact absurd (XE (Xs (I.ok.bs b o e).1) z) (Yo _)
 case exfs=>
  intro b hb hbf;rcases Xo.mp (I.zka b hbf)with z | z
  ·exact(hf b hb).2.1 z
  ·exact(hf b hb).2.2.1 z
 case loc=>
  refine⟨_,(Heap.Ns.new s.heap (.type "dict")).keeps (pushCells_keeps _ _),λi x v e1 e2 e3=>?_⟩;have hik:k<=i:=by
   unfold zdF at e2;by_cases hik:k<=i
   ·exact hik
   ·rw[YD (by simp;lia),List.getElem?_replicate]at e2;split at e2<;>cases e2
  obtain⟨i',rfl⟩:∃i',i=k+i':=⟨i-k,by lia⟩;obtain⟨hfree,j,hj,hX⟩:=S.at' i' x e1;have e2':(σ[j]?).getD none=some v:=by
   unfold zdF at e2;rw[YA (by simp)]at e2;rw[YL,show k+i'-k=i' by lia,Xk,hj]at e2;exact Option.some.inj e2
  have hσ:σ[j]? = some (some v):=by
   cases q:σ[j]? with
   | none=>rw[q]at e2';cases e2'
   | some o=>rw[q]at e2';exact congrArg some e2'
  have hk:=S.fr x (PySem.mem_of_lookup hfree);obtain⟨m,hn,hl⟩:=I.loc;obtain⟨u,r,l⟩:=hl j x v hX hσ (by rcases hk with h | h;exact .inr (.inl h);exact .inr (.inr h))
  rcases l with ⟨hloc,_⟩ | ⟨_,c,hc,hcell⟩
  ·rcases hk with h | h<;>(rw[h]at hloc;cases hloc)
  ·refine⟨u,r,.inr ⟨zdH hfree,c,?_,hcell.keeps kp⟩⟩;show(cellsFrom (s.heap.objs.size+1) sc.names (zaY X.env sc.names [])).lookup x=some c;have hno:(cellsFrom (s.heap.objs.size+1) sc.names []).lookup x=none:=by
    cases q:(cellsFrom (s.heap.objs.size+1) sc.names []).lookup x with
    | none=>rfl
    | some d=>
     rcases zci _ _ _ x d (PySem.mem_of_lookup q)with z | z
     ·cases z
     ·have:=zcz S.nm z;rw[hfree]at this;cases this
   obtain⟨d,hd⟩:=Option.isSome_iff_exists.mp (zed (env:=X.env) sc.names [] x (.inl (PySem.mem_of_lookup hfree)));have hdc:d=c:=by
    have:=old x d hd;rw[hc]at this;exact(Option.some.inj this).symm
   rw[zbc,List.lookup_append,hno,hd,hdc];rfl
 case cell=>
  intro x c hx;rcases cases_ x c hx with h | ⟨_,h⟩
  ·exact⟨none,(cok.empty x c (PySem.mem_of_lookup h)).1⟩
  ·obtain⟨v,q⟩:=I.cell x c (old x c h);exact⟨v,q.keeps kp⟩
 case freeC=>
  intro x c hx;rcases cases_ x c hx with h | ⟨_,h⟩
  ·exact I.hok.fresh (by have:=ownge x c h;lia)
  ·exact I.freeC x c (old x c h)
 case len=>
  show(zdF k js σ).length=N.length;unfold zdF;rw[Xr,YL,Xb];exact S.len.symm
end
theorem zkw {prog:Program}{w:World}{A:Around}{R:Result->Shared->Prop}{s:Shared}{elt tg iter:Expr}{ifs:List Expr}{scope:Scope}{pos:Pos}{it acc:Value}{env:Env}(J:Nat->Shared->Prop)
  (turn:∀n s,J n s->wpAny (model prog w) A (pyNext it) (λr s1=>match r with
   | none=>R (.ok .next) s1
   | some v=>wpAny (model prog w) A (letOwnedTupleGo tg it v) (λ_ s2=>wpAny (model prog w) A (assign tg env v) (λ_ s3=>
     wpAny (model prog w) A (forIn ifs true λc r=>if r=true then do let ok <- isTrue c env (eval c env);pure (ForInStep.yield ok) else pure (ForInStep.yield r)) (λok s4=>
      if ok=true then wpAny (model prog w) A (eval elt env) (λx s5=>wpAny (model prog w) A (call (.builtin "list.append") [acc,x]) (λ_ s6=>∃m,m<n/\J m s6) (λ_ _=>False) s5) (λ_ _=>False) s4
      else ∃m,m<n/\J m s4) (λ_ _=>False) s3) (λ_ _=>False) s2) (λ_ _=>False) s1) (λ_ _=>False) s)
  (n:Nat) (h:J n s):codeAny (model prog w) A (.compLoop (.ListComp elt [⟨tg,iter,ifs,0⟩] scope pos) 0 it acc env) R s:=by
 refine codeAny_loop rfl J (λn s hI=>wpAny_noted (wpAny_noRaise ?_)) n h;rw[compTurn_list];refine wpAny_bind (wpAny_standAt (wpAny_bind (thn (turn n s hI) λr s1 h1=>?_)));cases r with
 | none=>exact wpAny_pure h1
 | some v=>
  refine wpAny_bind (thn h1 λ_ s2 h2=>wpAny_bind (thn h2 λ_ s3 h3=>wpAny_bind (thn h3 λok s4 h4=>?_)));cases ok with
  | false=>exact wpAny_pure ⟨rfl,by simpa using h4⟩
  | true=>
   rw[if_pos rfl]at h4;exact wpAny_bind (wpAny_bind (thn h4 λx s5 h5=>wpAny_bind (thn h5 λ_ s6 h6=>wpAny_pure (wpAny_pure ⟨rfl,h6⟩))))
theorem zkx {M:Model}{A:Around}{E:Value->Shared->Prop}{s:Shared}{sc:Scope}{globals:Addr}{clo:List (Str×Addr)}{qual:Str}{out:Env}{Q:Env->Shared->Prop}
  (h:Q { scope:=sc,locals:=s.heap.objs.size,globals:=globals,cells:=cellsFrom (s.heap.objs.size+1) sc.names clo,qual:=qual,func:=none,code:=out.code,frame:=out.frame,builtins:=out.builtins }
   {s with heap:=pushCells (s.heap.push { cls:=.type "dict",data:=.dict #[] }) sc.names }) :
  wpAny M A (newFunctionEnv sc globals clo [] qual none .none (some out)) Q E s:=by
 unfold newFunctionEnv;simp only[Option.isSome_some,if_true];refine wpAny_bind (wpAny_alloc (wpAny_bind (wpAny_layCells _ (λname kind cells=>by cases hkc:kind == NameKind.cell<;>simp[hkc]) _ _ _ _ ?_)));rw[show({ s with heap:=s.heap.push { cls:=.type "dict",data:=.dict #[] } }:Shared).heap.objs.size=s.heap.objs.size+1 from Yz ..];simp only[List.forIn_nil];exact wpAny_bind (wpAny_pure (wpAny_pure h))
noncomputable def PTs (X:Cx)(ifs:List Expr)(t:TT):Prop:=
 ∀(pins:List (Addr×Obj)) (s:Shared) (σ:St) (H:Hp) (Q:Bool->Hp->Prop),Inv X pins σ H s->t σ H Q->
  wpAny (model X.prog X.w) X.A (forIn ifs true λc r=>if r=true then do let ok <- isTrue c X.env (eval c X.env);pure (ForInStep.yield ok) else pure (ForInStep.yield r)) (TP X pins σ Q) X.xe s
noncomputable def zoc:TT:=λ_ H Q=>Q true H
theorem zod {X:Cx}:PTs X [] zoc:=λpins s σ H Q I h=>wpAny_tests_nil ⟨H,I,h⟩
theorem zoe {X:Cx}{c:Expr}{t:TT}(h:PT X c t):PTs X [c] t:=λpins s σ H Q I q=>wpAny_tests_one (h pins s σ H Q I q)
noncomputable def zky (J:It)(g:TG)(tt:TT)(te:TE)(l:Addr)(σb:St)(H1:Hp)(R:Hp->Prop):Prop:=
 ∃W:Nat->Nat->St->Hp->Prop,(∃m,W 0 m σb (upd H1 l (.lst [])))/\∀i m σ' H',W i m σ' H'->
  (J.stop i H'/\R H')\/(J.go i H'/\∀x H2,J.yld i H' x H2->g x σ' H2 λσ2 H3=>tt σ2 H3 λb H4=>if b=true
   then te σ2 H4 λv H5=>∃ys,H5 l=some (.lst ys)/\ys.length<sizeLine/\∃m',m'<m/\W (i+1) m' σ2 (upd H5 l (.lst (ys++[v])))
   else ∃m',m'<m/\W (i+1) m' σ2 H4)
noncomputable def zof (k:Nat)(js:List Nat)(wi:TI)(g:TG)(tt:TT)(te:TE):TE:=λσ H Q=>wi σ H λJ H1=>∀l,H1 l=none->zky J g tt te l (zdF k js σ) H1 λH'=>Q (.ref l) H'
section
variable {X:Cx}{elt tg iter:Expr}{ifs:List Expr}{sc:Scope}{pos:Pos}{N:List Str}{k:Nat}{js:List Nat}{wi:TI}{g:TG}{tt:TT}{te:TE}
structure Blk (X:Cx)(N:List Str)(sc:Scope)(tg:Expr)(ifs:List Expr)(elt:Expr)(g:TG)(tt:TT)(te:TE):Prop where
 tgt:∀C cells fp s H,PG (cxB X N sc C cells fp s H) tg g
 tst:∀C cells fp s H,PTs (cxB X N sc C cells fp s H) ifs tt
 val:∀C cells fp s H,PE (cxB X N sc C cells fp s H) elt te
noncomputable def After (X:Cx)(pins:List (Addr×Obj))(σ:St)(R:Addr->Hp->Prop)(acc:Value)(C:Addr)(s':Shared):Prop:=
 ∃(l:Addr) (H':Hp) (m:Str->Option Value),acc=.ref l/\Inv X pins σ H' s'/\s'.heap.Ns C m/\FpOk X pins H' C/\R l H'
theorem ziy {pins:List (Addr×Obj)}{σ:St}{H:Hp}{s:Shared}{R:Addr->Hp->Prop}(hc:X.calm=true)(S:zcy X N k js sc)(hi:PI X tg iter wi)(B:Blk X N sc tg ifs elt g tt te)(I:Inv X pins σ H s)
  (h:wi σ H λJ H1=>∀l,H1 l=none->zky J g tt te l (zdF k js σ) H1 (R l)) :
  wpAny (model X.prog X.w) X.A (eval iter X.env) (λx s1=>wpAny (model X.prog X.w) X.A (pyIter x) (λit s2=>wpAny (model X.prog X.w) X.A (newList []) (λacc s3=>
   wpAny (model X.prog X.w) X.A (newFunctionEnv sc X.env.globals (zaY X.env sc.names []) [] X.env.qual none .none (some X.env)) (λcenv s4=>
    codeAny (model X.prog X.w) X.A (.compStart (.ListComp elt [⟨tg,iter,ifs,0⟩] sc pos) 0 it acc { cenv with scope:=relabel sc X.env })
     (λr s'=>match r with | .ok _=>After X pins σ R acc cenv.locals s' | .error _=>False) s4) X.xe s3) X.xe s2) X.xe s1) X.xe s:=by
 refine thn (hi pins s σ H _ I h) λv s1 h1=>thn h1 λitv s2 h2=>?_;obtain⟨it,fp,tn,J,H2,e,I2,T,st2,f2,hq⟩:=h2;subst e;have hl:H2 s2.heap.objs.size=none:=I2.fresh;have fplt:∀b∈fp,b<s2.heap.objs.size:=λb hb=>by
  obtain⟨o,e,_⟩:=T.obj 0 _ st2 b hb;exact Xs e
 obtain⟨W,⟨m0,w0⟩,turn⟩:=hq _ hl;refine wpAny_newList ?_;have I3:Inv X pins σ (upd H2 s2.heap.objs.size (.lst [])) { s2 with heap:=s2.heap.push { cls:=.type "list",data:=.seq ([]:List Value).toArray } }:=I2.lnew (its:=[]) (t':=s2.toks) .nil (Yf _);have u3:Un (frs X.stack) fp H2 (upd H2 s2.heap.objs.size (.lst [])) s2.heap (s2.heap.push { cls:=.type "list",data:=.seq ([]:List Value).toArray }):=Un.laid (λb o e=>Xe _ e) (Xf _) hl;have hz3:(s2.heap.push { cls:=.type "list",data:=.seq ([]:List Value).toArray }).objs.size=s2.heap.objs.size+1:=Yz ..;have kp3:∀b o,s2.heap.get? b=some o->(s2.heap.push { cls:=.type "list",data:=.seq ([]:List Value).toArray }).get? b=some o:=λb o e=>Xe _ e;have fpn:∀b∈fp,upd H2 s2.heap.objs.size (.lst []) b=none:=λb hb=>by
  rw[zai (XD (fplt b hb))];exact(f2 b hb).1
 generalize hl0:s2.heap.objs.size=l at hl I3 u3 hz3 kp3 fpn w0 turn ⊢;rw[hl0]at fplt;generalize s2.heap.push { cls:=.type "list",data:=.seq ([]:List Value).toArray }=h3 at I3 u3 hz3 kp3 ⊢;generalize upd H2 l (.lst [])=H3 at I3 u3 fpn w0;have f3:∀b∈fp,FpOk X pins H3 b:=λb hb=>⟨fpn b hb,(f2 b hb).2⟩;have I4:=I3.block S f3 (λb hb=>by show b<h3.objs.size;rw[hz3];exact XR (fplt b hb));have kp4:∀b o,s2.heap.get? b=some o->(pushCells (h3.push { cls:=.type "dict",data:=.dict #[] }) sc.names).get? b=some o:=λb o e=>pushCells_keeps _ _ b o (Xe _ (kp3 b o e));refine zkx ?_;have st4:tn 0 (pushCells (h3.push { cls:=.type "dict",data:=.dict #[] }) sc.names):=T.keep 0 _ _ st2 λb _ o e=>kp4 b o e;have stat:∀ {H':Hp},(∀b∈fp,H' b=none)->∀b∈fp,FpOk (cxB X N sc h3.objs.size (cellsFrom (h3.objs.size+1) sc.names (zaY X.env sc.names [])) fp { s2 with heap:=h3 } H3) [] H' b:=λhn b hb=>
  ⟨hn b hb,(I4.ok.exf b hb).1,I4.ok.exfs b hb,.inl hb,(I4.ok.exf b hb).2,λp hp=>absurd (show p∈([]:List (Addr×Obj)) from hp) (by simp)⟩
 generalize hY:cxB X N sc h3.objs.size (cellsFrom (h3.objs.size+1) sc.names (zaY X.env sc.names [])) fp { s2 with heap:=h3 } H3=Y at I4 stat;have loop:codeAny (model X.prog X.w) X.A (.compLoop (.ListComp elt [⟨tg,iter,ifs,0⟩] sc pos) 0 (.ref it) (.ref l) Y.env)
   (λr s'=>match r with | .ok _=>After X pins σ R (.ref l) h3.objs.size s' | .error _=>False) { s2 with heap:=pushCells (h3.push { cls:=.type "dict",data:=.dict #[] }) sc.names }:=by
  subst hY;refine zkw (λn s'=>∃i σ' H',Inv (cxB X N sc h3.objs.size (cellsFrom (h3.objs.size+1) sc.names (zaY X.env sc.names [])) fp { s2 with heap:=h3 } H3) [] σ' H' s'/\tn i s'.heap/\(∀b∈fp,H' b=none)/\W i n σ' H') ?_ m0
   ⟨0,zdF k js σ,H3,I4,st4,fpn,w0⟩
  rintro n s5 ⟨i,σ5,H5,I5,st5,fr5,w5⟩;rcases turn i n σ5 H5 w5 with ⟨stop,qn⟩ | ⟨go,step⟩
  ·refine thn (T.done (cxB X N sc h3.objs.size (cellsFrom (h3.objs.size+1) sc.names (zaY X.env sc.names [])) fp { s2 with heap:=h3 } H3) rfl rfl rfl hc i [] s5 σ5 H5 (λ_ _=>False) I5 (stat fr5) st5 stop) λr s6 q52q=>?_;obtain⟨hr,I6⟩:=q52q;subst hr;obtain⟨m6,hn6,_⟩:=id I6.loc;have IX:Inv X pins σ H5 s6:=I2.call' (ch:=fp) I6.os (u3.trans I6.base) I6.hok I6.bare λb hb=>⟨(f2 b hb).2.2.2.1,(f2 b hb).2.1,(f2 b hb).2.2.2.2.1,(f2 b hb).2.2.2.2.2⟩;exact⟨l,H5,m6,rfl,IX,hn6,I2.fpOk (by show s2.heap.objs.size<=h3.objs.size;rw[hz3,hl0];exact Nat.le_succ _) I6.free,qn⟩
  ·refine thn (T.item (cxB X N sc h3.objs.size (cellsFrom (h3.objs.size+1) sc.names (zaY X.env sc.names [])) fp { s2 with heap:=h3 } H3) rfl rfl rfl hc i [] s5 σ5 H5 (λ_ _=>False) I5 (stat fr5) st5 go) λr s6 q53q=>?_;obtain⟨u,hr,h6⟩:=q53q;subst hr;refine thn h6 λ_ s7 q54q=>?_;obtain⟨x,H7,I7,r7,y7,st7,fr7⟩:=q54q;have I7':=I7.pinned (stat fr7) (T.obj _ _ st7);refine thn (B.tgt _ _ _ _ _ _ s7 σ5 H7 x u _ I7' r7 (step x H7 y7)) λ_ s8 q55q=>?_;obtain⟨σ8,H8,I8,q8⟩:=q55q;refine thn (B.tst _ _ _ _ _ _ s8 σ8 H8 _ I8 q8) λok s9 q56q=>?_;obtain⟨H9,I9,q9⟩:=q56q;have kept:∀ {σ':St} {H':Hp} {s':Shared},Inv (cxB X N sc h3.objs.size (cellsFrom (h3.objs.size+1) sc.names (zaY X.env sc.names [])) fp { s2 with heap:=h3 } H3) ([]++zgL fp s7.heap) σ' H' s'->tn (i+1) s'.heap/\∀b∈fp,H' b=none:=λ{σ' H' s'} I'=>
    ⟨T.keep _ _ _ st7 λb hb o e=>(I'.pin (b,o) (XG _ (XG _ (zda hb e)))).1,λb hb=>by
     obtain⟨o,e,_⟩:=T.obj _ _ st7 b hb;exact(I'.pin (b,o) (XG _ (XG _ (zda hb e)))).2.1⟩
   cases ok with
   | false=>
    rw[if_neg Xi]at q9;rw[if_neg Xi];obtain⟨m',hm,w9⟩:=q9;exact⟨m',hm,i+1,σ8,H9,I9.zdA,(kept I9).1,(kept I9).2,w9⟩
   | true=>
    rw[if_pos rfl]at q9;rw[if_pos rfl];refine thn (B.val _ _ _ _ _ _ s9 σ8 H9 _ I9 q9) λu10 s10 q57q=>?_;obtain⟨y,H10,I10,r10,ys,hys,hlen,m',hm,w10⟩:=q57q;refine thn (zeT _ s10 σ8 H10 (.ref l) [y] (.ref l) [u10] (λ_ H'=>H'=upd H10 l (.lst (ys++[y]))) I10 rfl (.cons r10 .nil) ⟨l,ys,y,rfl,rfl,hys,hlen,rfl⟩) λ_ s11 q58q=>?_;obtain⟨_,H11,I11,_,e11⟩:=q58q;subst e11;exact⟨m',hm,i+1,σ8,_,I11.zdA,(kept I11).1,(kept I11).2,w10⟩
 subst hY;exact codeAny_compStart_list loop (T.self X.A 0 _ _ _ st4 loop)
theorem zfN {X:Cx}(S:zcy X N k js sc):∀x∈sc.names,x.2=.local->sc.names.lookup x.1=some .local:=λx hx hl=>zcz S.nm (by rw[<- hl];exact hx)
theorem zog (hc:X.calm=true)(S:zcy X N k js sc)(hi:PI X tg iter wi)(B:Blk X N sc tg ifs elt g tt te)(hs:autoParam (∀x,foldedSetIterable iter X.env x=pure x) aU5) :
  PE X (.ListComp elt [⟨tg,iter,ifs,0⟩] sc pos) (zof k js wi g tt te):=by
 intro pins s σ H Q I h;rw[eval_ListComp];refine wpAny_comprehension_free (use:=none) rfl hs (zkv λn hn=>I.ok.has n (S.fr n hn)) S.kind (zfN S) ?_;refine thn (ziy (pos:=pos) (R:=λl H'=>Q (.ref l) H') hc S hi B I h) λx s1 h1=>thn h1 λit s2 h2=>thn h2 λacc s3 h3=>thn h3 λcenv s4 h4=>codeAny_mono h4 λr s' hr=>?_;cases r with
 | error e=>exact False.elim hr
 | ok f=>
  obtain⟨l,H',m,rfl,I',hn,⟨f0,f1,f2,f3,f4,f5⟩,q⟩:=hr;exact⟨m,hn,λh' sb=>⟨.ref l,H',I'.turned (t':=s'.toks) (λb o hb e=>sb.extBut b o hb e) f0 f1 f3 f4 f5,rfl,q⟩⟩
theorem zkz {i:Nat}{x:Str}{pos' pos2:Pos}(hc:X.calm=true)(S:zcy X N k js sc)(hi:PI X tg iter wi)(B:Blk X N sc tg ifs elt g tt te)(hN:X.N.Nodup)(hx:X.N[i]? = some x)(hk:X.env.scope.names.lookup x=some .local)
  (hsw:autoParam (swapsWith (.ListComp elt [⟨tg,iter,ifs,0⟩] sc pos) (some (.Name x pos')) pos2.line X.env=pure true) aU0) (hs:autoParam (∀x,foldedSetIterable iter X.env x=pure x) aU5) :
  PS X (.Assign [.Name x pos'] (.ListComp elt [⟨tg,iter,ifs,0⟩] sc pos) pos2) (tAsg (zof k js wi g tt te) (zkf i)):=by
 intro pins s σ H D I h;rw[exec_Assign_Name_used _ _ _ _ hsw];refine wpAny_bind (wpAny_standAt (wpAny_bind ?_));show wpAny _ X.A (do let _ <- comprehension (.ListComp elt [⟨tg,iter,ifs,0⟩] sc pos) sc X.env _ (newList []) false (eval iter X.env) (some (assign (.Name x pos') X.env))) _ _ s
 refine wpAny_bind (thn (wpAny_comprehension_free (use:=some (assign (.Name x pos') X.env)) (Q:=λ_ s'=>SP X pins D .next s') rfl hs (zkv λn hn=>I.ok.has n (S.fr n hn)) S.kind (zfN S) ?_) λ_ s' hq=>wpAny_pure (wpAny_pure hq))
 refine thn (ziy (pos:=pos) (R:=λl H'=>D.nx (σ.set i (some (.ref l))) H') hc S hi B I h) λy s1 h1=>thn h1 λit s2 h2=>thn h2 λacc s3 h3=>thn h3 λcenv s4 h4=>codeAny_mono h4 λr s' hr=>?_;cases r with
 | error e=>exact False.elim hr
 | ok f=>
  obtain⟨l,H',m,rfl,I',hn,⟨f0,f1,f2,f3,f4,f5⟩,q⟩:=hr;refine wpAny_assign_Name (zgI I' hN hx (.inl hk) (show RelV (.ref l) (.ref l) from rfl) (λs'' I'' q59q=>?_) (.inr hk));obtain⟨a,sb,ha⟩:=q59q;have ne:cenv.locals≠a:=by
   rcases ha with z | z
   ·rw[z];exact f1
   ·exact λw=>f4 x a z w.symm
  exact⟨m,hn.sameBut sb ne,λh' sb'=>⟨_,H',I''.turned (t':=s''.toks) (λb o hb e=>sb'.extBut b o hb e) f0 f1 f3 f4 f5,q⟩⟩
end
end L2
namespace JS
open PySem
theorem zee {α:Type}:∀ {l:List α}{i:Nat}(h:i<l.length),(l[i]::l.eraseIdx i).Perm l
 | _::_,0,_=>List.Perm.refl _
 | x::r,i+1,h=>by
  have ih:=zee (l:=r) (i:=i) (by simpa using h);rw[List.eraseIdx_cons_succ];exact(List.Perm.swap x _ _).trans (ih.cons x)
section
variable {M:Model}{A:Around}{E:Value->Shared->Prop}{s:Shared}
theorem zjB {src:Source}{n:Nat}{Q:Nat->Shared->Prop}(hn:n≠0)(h:∀i,i<n->Q i { s with drawn:=s.drawn.bump src }):wpAny M A (choose src n) Q E s:=
 λ_ _ _=>⟨hn,h _ (Nat.mod_lt _ (Nat.pos_of_ne_zero hn))⟩
theorem ziz {α:Type}:∀(n:Nat)(xs:List α)(s:Shared)(Q:List α->Shared->Prop),xs.length<=n->(∀ys d,ys.Perm xs->Q ys { s with drawn:=d })->wpAny M A (drawOrder n xs) Q E s
 | 0,xs,s,Q,h,hq=>by
  have e:xs=[]:=Ye.mp (by lia);subst e;exact wpAny_pure (hq [] s.drawn (List.Perm.refl _))
 | n+1,[],s,Q,_,hq=>wpAny_pure (hq [] s.drawn (List.Perm.refl _))
 | n+1,x::r,s,Q,h,hq=>by
  show wpAny M A (choose .order (x::r).length >>= λi=>match (x::r)[i]? with
   | some y=>drawOrder n ((x::r).eraseIdx i) >>= λys=>pure (y::ys)
   | none=>unsupported "internal:drawOrder") Q E s
  refine wpAny_bind (zjB (by simp) λi hi=>?_);have e:(x::r)[i]? = some (x::r)[i]:=by simp[hi]
  rw[e];refine wpAny_bind (ziz n ((x::r).eraseIdx i) _ _ (by rw[List.length_eraseIdx_of_lt hi];simp at h ⊢;lia) λys d hp=>wpAny_pure (hq _ d ?_));exact(hp.cons _).trans (zee hi)
end
theorem zkA {α:Type}(next:Nat->Nat):∀(fuel k:Nat)(left:List α)(out:Array α),left.length=fuel->(pickOrder.go next fuel k left out).toList.Perm (out.toList++left)
 | 0,k,left,out,h=>by
  have e:left=[]:=Ye.mp h;subst e;simp[pickOrder.go]
 | fuel+1,k,left,out,h=>by
  unfold pickOrder.go;have hi:next k % left.length<left.length:=Nat.mod_lt _ (by lia)
  have e:left[next k % left.length]? = some left[next k % left.length]:=by simp[hi]
  rw[e];dsimp only;refine(zkA next fuel (k+1) _ _ (by rw[List.length_eraseIdx_of_lt hi];lia)).trans ?_
  rw[Array.toList_push,List.append_assoc];exact List.Perm.append_left _ (zee hi)
theorem zgU {α:Type}(next:Nat->Nat)(xs:Array α):(pickOrder next xs).toList.Perm xs.toList:=by
 unfold pickOrder;have h:=zkA next xs.size 0 xs.toList #[] (by simp)
 simpa using h
noncomputable def Asc (xs:Array Nat):Prop:=xs.toList.Pairwise (· < ·)
theorem Asc.lt {xs:Array Nat}(h:Asc xs){i j:Nat}(hij:i<j)(hj:j<xs.size):xs.getD i 0<xs.getD j 0:=by
 have q:=List.pairwise_iff_getElem.mp h i j (by simp;lia) (by simpa using hj) hij;simpa[Array.getD,hj,show i<xs.size by lia]using q
theorem zdI (n:Nat):Asc (Array.range n):=by
 unfold Asc;rw[Array.toList_range];exact List.pairwise_lt_range
theorem zgf (xs:Array Nat)(j:Nat):∀(fuel lo hi:Nat),Asc xs->lo<=hi->hi<=xs.size->hi-lo<=fuel->(∀i,i<lo->xs.getD i 0<j)->(∀i,hi<=i->i<xs.size->¬ xs.getD i 0<j)->
  Ya.go xs j fuel lo hi<=xs.size/\(∀i,i<Ya.go xs j fuel lo hi->xs.getD i 0<j)/\∀i,Ya.go xs j fuel lo hi<=i->i<xs.size->¬ xs.getD i 0<j
 | 0,lo,hi,ha,h1,h2,h3,h4,h5=>by
  have:lo=hi:=by lia
  subst this;exact⟨h2,h4,h5⟩
 | fuel+1,lo,hi,ha,h1,h2,h3,h4,h5=>by
  unfold Ya.go;by_cases h:lo<hi
  ·rw[if_pos h];dsimp only;have hm:(lo+hi) / 2<xs.size:=by lia
   have e:xs.getD ((lo+hi) / 2) j=xs.getD ((lo+hi) / 2) 0:=by simp[Array.getD,hm]
   rw[e];by_cases hc:xs.getD ((lo+hi) / 2) 0<j
   ·rw[if_pos hc];refine zgf xs j fuel _ _ ha (by lia) h2 (by lia) (λi hi'=>?_) h5;rcases Nat.lt_or_ge i ((lo+hi) / 2)with z | z
    ·exact Nat.lt_trans (ha.lt z hm) hc
    ·have:i=(lo+hi) / 2:=by lia
     rw[this];exact hc
   ·rw[if_neg hc];refine zgf xs j fuel _ _ ha (by lia) (by lia) (by lia) h4 λi hi' hs z=>hc ?_;rcases Nat.lt_or_ge ((lo+hi) / 2) i with y | y
    ·exact Nat.lt_trans (ha.lt y hs) z
    ·have:i=(lo+hi) / 2:=by lia
     rw[<- this];exact z
  ·rw[if_neg h];have:lo=hi:=by lia
   subst this;exact⟨h2,h4,h5⟩
theorem ziA {xs:Array Nat}(ha:Asc xs)(j:Nat):Ya xs j<=xs.size/\(∀i,i<Ya xs j->xs.getD i 0<j)/\∀i,Ya xs j<=i->i<xs.size->¬ xs.getD i 0<j:=
 zgf xs j xs.size 0 xs.size ha (Yf _) (Xf _) (by lia) (λi h=>by lia) (λi h1 h2=>by lia)
theorem below_at {xs:Array Nat}(ha:Asc xs){i:Nat}(hi:i<=xs.size):Ya xs (if i=0 then 0 else xs.getD (i-1) 0+1)=i:=by
 obtain⟨h1,h2,h3⟩:=ziA ha (if i=0 then 0 else xs.getD (i-1) 0+1)
 generalize Ya xs (if i=0 then 0 else xs.getD (i-1) 0+1)=r at h1 h2 h3
 by_cases e:i=0
 ·subst e;rw[if_pos rfl]at h2;rcases Nat.eq_zero_or_pos r with z | z
  ·exact z
  ·exact absurd (h2 0 z) (by lia)
 ·rw[if_neg e]at h2 h3;rcases Nat.lt_trichotomy r i with z | z | z
  ·have q:=h3 (i-1) (by lia) (by lia);lia
  ·exact z
  ·have q1:=h2 i z;have q2:=ha.lt (show i-1<i by lia) (show i<xs.size by lia);lia
structure Rec (w:World)(h:Heap)(a:Addr)(es:Array (Int×Value))(ep:Nat)(t:SetTable):Prop where
 obj:∃o,h.get? a=some o/\o.ExactSet/\o.data=.set es ep t
 fits:t.fits es.size=true
 led:t.led=true\/w.params.followText "set-order" = true
 asc:Asc t.place
 dm:t.dummies = #[]
 sz:es.size<scanBound
theorem Rec.keep {w:World}{h h':Heap}{a:Addr}{es:Array (Int×Value)}{ep:Nat}{t:SetTable}(r:Rec w h a es ep t)(k:∀o,h.get? a=some o->h'.get? a=some o):Rec w h' a es ep t:=
 ⟨let ⟨o,e,x⟩:=r.obj;⟨o,k o e,x⟩,r.fits,r.led,r.asc,r.dm,r.sz⟩
theorem Rec.type {w:World}{s:Shared}{a:Addr}{es:Array (Int×Value)}{ep:Nat}{t:SetTable}(r:Rec w s.heap a es ep t):s.TypeIs (.ref a) "set":=
 let ⟨o,e,x,_⟩:=r.obj;⟨o,e,x.1⟩
namespace F
theorem slot_next:Slot "set_iterator" "__next__" "set_iterator.__next__":=.of (owner:="set_iterator") (n:="__next__") (by rw[typeLookup_type,builtinLookup_eq_fast];kernel_rfl) (by decide +kernel) (by decide +kernel) (by decide +kernel) (by first | exact .inl (by decide +kernel) | exact .inr (by decide +kernel)) (by rw[isSubtype_type];kernel_rfl)
theorem entry_next:entryFor table "set_iterator.__next__" = some Builtin.«set_iterator.__next__»:=entryFor_of_tree (by kernel_rfl)
theorem args_next (a:Value):argsOk "set_iterator.__next__" ⟨[a],[]⟩:=by unfold argsOk;kernel_rfl
theorem zgV:Slot "set_iterator" "__iter__" "set_iterator.__iter__":=.of (owner:="set_iterator") (n:="__iter__") (by rw[typeLookup_type,builtinLookup_eq_fast];kernel_rfl) (by decide +kernel) (by decide +kernel) (by decide +kernel) (by first | exact .inl (by decide +kernel) | exact .inr (by decide +kernel)) (by rw[isSubtype_type];kernel_rfl)
theorem zjC:entryFor table "set_iterator.__iter__" = some Builtin.«dict_keyiterator.__iter__»:=entryFor_alias (id':="dict_keyiterator.__iter__") (by kernel_rfl) rfl (by decide +kernel) (by kernel_rfl)
theorem zkB (a:Value):argsOk "set_iterator.__iter__" ⟨[a],[]⟩:=by unfold argsOk;kernel_rfl
theorem zfC:entryFor table "set.__iter__" = some Builtin.«frozenset.__iter__»:=entryFor_alias (id':="frozenset.__iter__") (by kernel_rfl) rfl (by decide +kernel) (by kernel_rfl)
end F
noncomputable abbrev byText (w:World):Bool:=w.params.followText "set-order"
noncomputable abbrev zeE (first:Value)(i n ep:Nat)(a:Addr):Obj:={ cls:=.type "set_iterator",data:=.fields #[first,.int i 0,.ref a,.int n 0,.int ep 0] }
inductive At (w:World) (h:Heap) (it a:Addr) (es:Array (Int×Value)) (ep:Nat) (t:SetTable):List Addr->List Value->Nat->Prop where
 | drawn (tp:Addr) (ps:List Nat) (i:Nat):(tp≠it)->h.get? it=some (zeE (.ref tp) i es.size ep a)->h.IsTuple tp (ps.map λ(p:Nat)=>Value.int (p:Int) 0).toArray->ps.Perm (Xp es.size)->At w h it a es ep t [tp] (ps.map λp=>(es.getD p (0,.none)).2) i
 | text (slot i:Nat):byText w=true->h.get? it=some (zeE (.int slot 0) i es.size ep a)->At w h it a es ep t [] ((pickOrder (w.params.setOrder a ep) es).toList.map (·.2)) i
 | one (slot i:Nat):byText w=false->t.led=true->(t.plain=true\/es.size<=1)->h.get? it=some (zeE (.int slot 0) i es.size ep a)->(slot=if i=0 then 0 else t.place.getD (i-1) 0+1)->At w h it a es ep t [] (es.toList.map (·.2)) i
section
variable {prog:Program}{w:World}{A:Around}{E:Value->Shared->Prop}{s:Shared}{a it:Addr}{es:Array (Int×Value)}{ep:Nat}{t:SetTable}
theorem zbd {Q:(Array (Int×Value)×Nat×SetTable)->Shared->Prop}(r:Rec w s.heap a es ep t)(h:Q (es,ep,t) s):wpAny (model prog w) A (setState a) Q E s:=by
 obtain⟨o,e,_,d⟩:=r.obj;exact wpAny_setState_of e d r.fits h
theorem zeI {slot i n:Nat}{P:PySem.Fin->Shared->Prop}{F:Value->Shared->Prop}(r:Rec w s.heap a es ep t)(ho:s.heap.get? it=some (zeE (.int slot 0) i es.size ep a))
  (h:wpAny (model prog w) A (setNext a slot i ep >>= λm=>match m with
     | some (x,next)=>setField (.ref it) 0 (rawInt next) >>= λ_=>setField (.ref it) 1 (rawInt ((i:Int)+1)) >>= λ_=>ret x
     | none=>setField (.ref it) 2 .none >>= λ_=>newExc (.type "StopIteration") [] >>= λe=>raiseNew e) P F s) :
  wpAny (model prog w) A (Builtin.«set_iterator.__next__» ⟨[.ref it],[]⟩) P F s:=by
 unfold Builtin.«set_iterator.__next__» slotArgs;simp only[List.isEmpty_nil,Bool.not_true,XU,if_false,YG,bne_self_eq_false];refine wpAny_bind (wpAny_pure (wpAny_bind (wpAny_fieldsOf ho rfl ?_)));dsimp only;unfold setEntries;refine wpAny_bind (wpAny_bind (zbd r (wpAny_pure ?_)));simp only[bne_self_eq_false,XU,if_false,XH];exact h
theorem ziB {tp i n:Nat}{items:Array Value}{P:PySem.Fin->Shared->Prop}{F:Value->Shared->Prop}(r:Rec w s.heap a es ep t)(ho:s.heap.get? it=some (zeE (.ref tp) i es.size ep a))(ht:s.heap.IsTuple tp items)
  (h:wpAny (model prog w) A (match items[i]? with
      | some (.int place _)=>setNextDrawn a place.toNat ep >>= λx=>setField (.ref it) 1 (rawInt ((i:Int)+1)) >>= λ_=>ret x
      | some _=>unsupported "internal:set_iterator"
      | none=>setField (.ref it) 0 (rawInt 0) >>= λ_=>setField (.ref it) 2 .none >>= λ_=>newExc (.type "StopIteration") [] >>= λe=>raiseNew e) P F s) :
  wpAny (model prog w) A (Builtin.«set_iterator.__next__» ⟨[.ref it],[]⟩) P F s:=by
 unfold Builtin.«set_iterator.__next__» slotArgs;simp only[List.isEmpty_nil,Bool.not_true,XU,if_false,YG,bne_self_eq_false];refine wpAny_bind (wpAny_pure (wpAny_bind (wpAny_fieldsOf ho rfl ?_)));dsimp only;unfold setEntries;refine wpAny_bind (wpAny_bind (zbd r (wpAny_pure ?_)));simp only[bne_self_eq_false,XU,if_false,XH];obtain⟨o,ho',_,n',hd⟩:=ht;exact wpAny_bind (wpAny_seqItems ho' hd h)
theorem zez {i:Nat}{slot:Nat}{Q:Option (Value×Nat)->Shared->Prop}(r:Rec w s.heap a es ep t)(hb:byText w=true)
  (h:Q (((pickOrder (w.params.setOrder a ep) es)[i]?).map λe=>(e.2,slot)) s):wpAny (model prog w) A (setNext a slot i ep) Q E s:=by
 have hb':w.params.followText "set-order" = true:=hb;unfold setNext setsByText;refine wpAny_bind (zbd r ?_);refine wpAny_bind (wpAny_bind (wpAny_askSetting (wpAny_pure ?_)));simp only[model,hb',if_true,bne_self_eq_false,XU,if_false];unfold setWalk setsByText;refine wpAny_bind (wpAny_bind (zbd r ?_));refine wpAny_bind (wpAny_bind (wpAny_askSetting (wpAny_pure ?_)));simp only[model,hb',if_true];exact wpAny_bind (wpAny_askSetting (wpAny_pure (wpAny_pure h)))
theorem zeV {i:Nat}{slot:Nat}{Q:Option (Value×Nat)->Shared->Prop}(r:Rec w s.heap a es ep t)(hb:byText w=false)(hl:t.led=true)(h1:t.plain=true\/es.size<=1)
  (h:Q (match es[Ya t.place slot]?,t.place[Ya t.place slot]? with | some (_,x),some j=>some (x,j+1) | _,_=>none) s):wpAny (model prog w) A (setNext a slot i ep) Q E s:=by
 have hb':w.params.followText "set-order" = false:=hb;unfold setNext setsByText;refine wpAny_bind (zbd r ?_);refine wpAny_bind (wpAny_bind (wpAny_askSetting (wpAny_pure ?_)));simp only[model,hb',XU,if_false];have hd:(!t.plain&&decide (es.size > 1))=false:=by
  rcases h1 with z | z
  ·rw[z];rfl
  ·rw[decide_eq_false (by lia),Bool.and_false]
 have hm:(!t.led&&!es.isEmpty)=false:=by rw[hl];rfl
 show wpAny (model prog w) A (if (!t.plain&&decide (es.size > 1))=true then _ else((if (!t.led&&!es.isEmpty)=true then unsupported "set:maker-not-led" else pure ()) >>= λ_=>pure _)) Q E s
 rw[hd,hm];exact wpAny_bind (wpAny_pure (wpAny_pure h))
theorem zjD {p:Nat}{x:Value}{hx:Int}{Q:Value->Shared->Prop}(r:Rec w s.heap a es ep t)(hp:es[p]? = some (hx,x))(h:Q x s):wpAny (model prog w) A (setNextDrawn a p ep) Q E s:=by
 unfold setNextDrawn;refine wpAny_bind (zbd r ?_);simp only[bne_self_eq_false,XU,if_false,hp];exact wpAny_pure h
theorem zkC (hh:A.handled=none){R:Option Value->Shared->Prop}(hR:∀h',(∀b o,s.heap.get? b=some o->h'.get? b=some o)->R none { s with heap:=h' }) :
  wpAny (model prog w) A.in1 (newExc (.type "StopIteration") [] >>= λe=>(raiseNew e:Sem PySem.Fin)) (λ_ _=>False)
   (λe s'=>wpAny (model prog w) A (isInstance e (.type "StopIteration") >>= λb=>if b=true then pure none else throw e) R E s') s:=by
 refine wpAny_bind ?_;simp only[newExc,newTuple];refine wpAny_bind (wpAny_newObj_type (wpAny_bind (m:=firstArgMember _ _) (wpAny_of_eq (a:=Value.none) (by first | rfl | (simp only[firstArgMember];rfl)) (wpAny_newObj_type ?_ (by size_fits)))) (by size_fits))
 simp only[raiseNew];refine wpAny_bind (wpAny_handled ?_);rw[show A.in1.handled=none from hh];refine wpAny_bind (wpAny_pure (wpAny_throw ?_));refine wpAny_bind (wpAny_isInstance (T:="StopIteration") (b:=true) ⟨_,Xx _ rfl,rfl⟩ isSubtype_stop ?_);exact wpAny_pure (hR _ λb o e=>Xe _ (Xe _ e))
theorem zcl {first:Value}{i n:Nat}{Q:Option Value->Shared->Prop}(ho:s.heap.get? it=some (zeE first i n ep a))
  (h:wpAny (model prog w) A.in1 (Builtin.«set_iterator.__next__» ⟨[.ref it],[]⟩) (λfin s'=>∃u,fin=.done (.ret u)/\Q (some u) s')
   (λe s'=>wpAny (model prog w) A (isInstance e (.type "StopIteration") >>= λb=>if b=true then pure none else throw e) Q E s') s):wpAny (model prog w) A (pyNext (.ref it)) Q E s:=by
 have hT:s.TypeIs (.ref it) "set_iterator":=⟨_,ho,rfl⟩;unfold pyNext;refine wpAny_bind (wpAny_attempt (wpAny_callSpecial?_slot (name:=Str.ofString "__next__") hT F.slot_next (wpAny_call_entry F.slot_next hT F.entry_next ?_ (F.args_next _))));exact wpAny_mono h (λfin s' q60q=>by obtain⟨u,e,q⟩:=q60q;exact⟨u,e,wpAny_pure q⟩) λ_ _ z=>z
theorem next_item {tq:List Addr}{order:List Value}{i:Nat}{v:Value}{Q:Option Value->Shared->Prop}(r:Rec w s.heap a es ep t)(x:At w s.heap it a es ep t tq order i)(hv:order[i]? = some v)
  (hQ:∀h',At w h' it a es ep t tq order (i+1)->Yj it s.heap h'->Q (some v) { s with heap:=h' }):wpAny (model prog w) A (pyNext (.ref it)) Q E s:=by
 have hc:((i:Int)+1)=((i+1:Nat):Int):=by lia
 cases x with
 | drawn tp ps _ hne ho ht hp=>
  refine zcl ho (ziB (n:=0) r ho ht ?_);rw[Xk]at hv;cases hpi:ps[i]? with
  | none=>rw[hpi]at hv;cases hv
  | some p=>
   rw[hpi]at hv;have hlt:p<es.size:=Yl.mp (hp.mem_iff.mp (XI hpi));have e1:(ps.map λ(p:Nat)=>Value.int (p:Int) 0).toArray[i]? = some (Value.int (p:Int) 0):=by simp[hpi]
   rw[e1];dsimp only;have e2:es[p]? = some (es[p].1,es[p].2):=by simp[hlt]
   have e3:v=es[p].2:=by
    have q:=Option.some.inj hv;rw[<- q];simp[Array.getD,hlt]
   rw[XH];refine wpAny_bind (zjD r e2 (wpAny_bind (wpAny_setField ho rfl (by show 1<5;decide) (wpAny_pure ⟨_,rfl,?_⟩))));rw[<- e3];refine hQ _ (.drawn tp ps (i+1) hne ?_ ?_ hp) (Yj.update ..)
   ·rw[hc];exact Yb _ ho rfl
   ·obtain⟨o,q,c⟩:=ht;exact⟨o,(YB _ _ (Ne.symm hne)).trans q,c⟩
 | text slot _ hb ho=>
  refine zcl ho (zeI (n:=0) r ho (wpAny_bind (zez r hb ?_)));rw[Xk]at hv;cases hpi:(pickOrder (w.params.setOrder a ep) es).toList[i]? with
  | none=>rw[hpi]at hv;cases hv
  | some p=>
   rw[hpi]at hv;have e1:(pickOrder (w.params.setOrder a ep) es)[i]? = some p:=by rw[<- Array.getElem?_toList];exact hpi
   have e3:p.2=v:=Option.some.inj hv;rw[e1];dsimp only[Option.map];rw[e3];have ho1:(s.heap.update it (Obj.mapFields (·.setIfInBounds 0 (rawInt slot)))).get? it=some (zeE (.int slot 0) i es.size ep a):=Yb _ ho rfl;refine wpAny_bind (wpAny_setField ho rfl (by show 0<5;decide) (wpAny_bind (wpAny_setField ho1 rfl (by show 1<5;decide) (wpAny_pure ⟨_,rfl,?_⟩))));refine hQ _ (.text slot (i+1) hb ?_) ((Yj.update ..).trans (Yj.update ..));rw[hc];exact Yb _ ho1 rfl
 | one slot _ hb hl h1 ho h0=>
  refine zcl ho (zeI (n:=0) r ho (wpAny_bind (zeV r hb hl h1 ?_)));have hi:i<es.size:=by
   have q:=(Xd.mp hv).1;simpa using q
  have hps:t.place.size=es.size:=by
   have q:=r.fits;simp only[SetTable.fits,Yp,beq_iff_eq]at q;exact q.1
  have e0:Ya t.place slot=i:=by rw[h0];exact below_at r.asc (by lia)
  have e1:es[i]? = some (es[i].1,es[i].2):=by simp[hi]
  have e3:es[i].2=v:=by
   rw[Xk]at hv;have q:es.toList[i]? = some es[i]:=by simp[hi]
   rw[q]at hv;exact Option.some.inj hv
  have hip:i<t.place.size:=by lia
  obtain⟨pl,hpl⟩:∃pl,t.place[i]? = some pl:=⟨t.place[i],getElem?_pos t.place i hip⟩;have hpd:t.place.getD i 0=pl:=by
   rw[getElem?_pos t.place i hip]at hpl;simp only[Array.getD,hip,dif_pos];exact Option.some.inj hpl
  rw[e0,e1,hpl];dsimp only;rw[e3];have ho1:(s.heap.update it (Obj.mapFields (·.setIfInBounds 0 (rawInt ((pl+1:Nat):Int))))).get? it=some (zeE (.int ((pl+1:Nat):Int) 0) i es.size ep a):=Yb _ ho rfl;refine wpAny_bind (wpAny_setField ho rfl (by show 0<5;decide) (wpAny_bind (wpAny_setField ho1 rfl (by show 1<5;decide) (wpAny_pure ⟨_,rfl,?_⟩))));refine hQ _ (.one (pl+1) (i+1) hb hl h1 ?_ (by rw[if_neg (by lia),Nat.add_sub_cancel,hpd])) ((Yj.update ..).trans (Yj.update ..));rw[hc];exact Yb _ ho1 rfl
theorem zkD {tq:List Addr}{order:List Value}{Q:Option Value->Shared->Prop}(hh:A.handled=none)(r:Rec w s.heap a es ep t)(x:At w s.heap it a es ep t tq order es.size)
  (hQ:∀h',(∀b o,b≠it->s.heap.get? b=some o->h'.get? b=some o)->Q none { s with heap:=h' }):wpAny (model prog w) A (pyNext (.ref it)) Q E s:=by
 have up:∀(k:Nat) (y:Value) (h:Heap) (b:Addr) (o:Obj),b≠it->h.get? b=some o->(h.update it (Obj.mapFields (·.setIfInBounds k y))).get? b=some o:=λk y h b o hb e=>(YB _ _ (Ne.symm hb)).trans e;have two:∀(slot i:Nat),s.heap.get? it=some (zeE (.int slot 0) i es.size ep a)->wpAny (model prog w) A.in1 (setField (.ref it) 2 .none >>= λ_=>newExc (.type "StopIteration") [] >>= λe=>(raiseNew e:Sem PySem.Fin))
   (λfin s'=>∃u,fin=.done (.ret u)/\Q (some u) s') (λe s'=>wpAny (model prog w) A (isInstance e (.type "StopIteration") >>= λb=>if b=true then pure none else throw e) Q E s') s:=λslot i ho=>by
  refine wpAny_bind (wpAny_setField ho rfl (by show 2<5;decide) ?_);exact wpAny_mono (zkC (E:=E) (R:=Q) hh λh' k=>hQ h' λb o hb e=>k b o (up _ _ _ b o hb e)) (λ_ _ z=>z.elim) λ_ _ z=>z
 cases x with
 | drawn tp ps _ hne ho ht hp=>
  refine zcl ho (ziB (n:=0) r ho ht ?_);have e1:(ps.map λ(p:Nat)=>Value.int (p:Int) 0).toArray[es.size]? = none:=by
   have q:=hp.length_eq;rw[Xz]at q;simp[q]
  rw[e1];dsimp only;have ho1:(s.heap.update it (Obj.mapFields (·.setIfInBounds 0 (rawInt 0)))).get? it=some (zeE (.int ((0:Nat):Int) 0) es.size es.size ep a):=Yb _ ho rfl;refine wpAny_bind (wpAny_setField ho rfl (by show 0<5;decide) (wpAny_bind (wpAny_setField ho1 rfl (by show 2<5;decide) ?_)));exact wpAny_mono (zkC (E:=E) (R:=Q) hh λh' k=>hQ h' λb o hb e=>k b o (up _ _ _ b o hb (up _ _ _ b o hb e))) (λ_ _ z=>z.elim) λ_ _ z=>z
 | text slot _ hb ho=>
  refine zcl ho (zeI (n:=0) r ho (wpAny_bind (zez r hb ?_)));have q:=(zgU (w.params.setOrder a ep) es).length_eq;have e1:(pickOrder (w.params.setOrder a ep) es)[es.size]? = none:=by
   simp only[Yr]at q;simp[q]
  rw[e1];dsimp only[Option.map];exact two slot _ ho
 | one slot _ hb hl h1 ho h0=>
  refine zcl ho (zeI (n:=0) r ho (wpAny_bind (zeV r hb hl h1 ?_)));have hps:t.place.size=es.size:=by
   have q:=r.fits;simp only[SetTable.fits,Yp,beq_iff_eq]at q;exact q.1
  have e0:es[Ya t.place slot]? = none:=by
   rw[h0,below_at r.asc (by lia)];simp
  rw[e0];dsimp only;exact two slot _ ho
theorem zkE {Q:Bool->Shared->Prop}(r:Rec w s.heap a es ep t)(h:Q (!byText w&&(!t.plain&&decide (es.size > 1))) s):wpAny (model prog w) A (setDrawn a) Q E s:=by
 unfold setDrawn setsByText;refine wpAny_bind (zbd r ?_);exact wpAny_bind (wpAny_bind (wpAny_askSetting (wpAny_pure (wpAny_pure h))))
theorem At.keep {h h':Heap}{tq:List Addr}{order:List Value}{i:Nat}(x:At w h it a es ep t tq order i)(k:∀b∈it::tq,∀o,h.get? b=some o->h'.get? b=some o):At w h' it a es ep t tq order i:=by
 cases x with
 | drawn tp ps _ hne ho ht hp=>
  obtain⟨o,q,c⟩:=ht;exact .drawn tp ps i hne (k it (by simp) _ ho) ⟨o,k tp (by simp) o q,c⟩ hp
 | text slot _ hb ho=>exact .text slot i hb (k it (by simp) _ ho)
 | one slot _ hb hl h1 ho h0=>exact .one slot i hb hl h1 (k it (by simp) _ ho) h0
theorem At.len {h:Heap}{tq:List Addr}{order:List Value}{i:Nat}(x:At w h it a es ep t tq order i):order.Perm (es.toList.map (·.2)):=by
 cases x with
 | drawn tp ps _ hne ho ht hp=>
  have e:(Xp es.size).map (λp=>(es.getD p (0,Value.none)).2)=es.toList.map (·.2):=by
   apply List.ext_getElem
   ·simp
   ·intro j h1 h2;simp at h1;simp[Array.getD,h1]
  rw[<- e];exact hp.map _
 | text slot _ hb ho=>exact(zgU _ _).map _
 | one slot _ hb hl h1 ho h0=>exact List.Perm.refl _
theorem zml {Q:Value->Shared->Prop}(r:Rec w s.heap a es ep t)
  (h:∀(h':Heap) (d:Drawn) (it:Addr) (tq:List Addr) (order:List Value),(∀b o,s.heap.get? b=some o->h'.get? b=some o)->s.heap.objs.size<=it->(∀b∈it::tq,s.heap.objs.size<=b/\b<h'.objs.size)->At w h' it a es ep t tq order 0->
   Q (.ref it) { s with heap:=h',drawn:=d }):wpAny (model prog w) A (pyIter (.ref a)) Q E s:=by
 refine wpAny_pyIter_slot r.type PySem.F.slot_set_iter (wpAny_call_entry PySem.F.slot_set_iter r.type F.zfC ?_ (PySem.F.args_set_iter_1 _));unfold Builtin.«frozenset.__iter__» Builtin.Frozenset.slot0 slotArgs;simp only[List.isEmpty_nil,Bool.not_true,XU,if_false,YG,bne_self_eq_false,bind_assoc];unfold Builtin.Frozenset.addrOf Builtin.Frozenset.sizeOf setEntries setEpoch;refine wpAny_bind (wpAny_pure ?_);dsimp only;refine wpAny_bind (wpAny_pure ?_);simp only[bind_assoc];refine wpAny_bind (zbd r (wpAny_bind (wpAny_pure (wpAny_bind (wpAny_pure (wpAny_bind (zkE r ?_)))))));cases hd:(!byText w&&(!t.plain&&decide (es.size > 1)))with
 | true=>
  simp only[Yp,Bool.not_eq_true',decide_eq_true_eq]at hd;simp only[if_true,bind_assoc];refine wpAny_bind (ziz es.size (Xp es.size) _ _ (by simp) λps d hp=>?_);refine wpAny_bind (wpAny_newTuple ?_ (by rw[Xb,hp.length_eq,Xz];exact fits_of_scanBound r.sz));dsimp only;have hz:(s.heap.push { cls:=.type "tuple",data:=.seq (ps.map λ(i:Nat)=>rawInt (i:Int)).toArray }).objs.size=s.heap.objs.size+1:=Yz ..;have r1:Rec w (s.heap.push { cls:=.type "tuple",data:=.seq (ps.map λ(i:Nat)=>rawInt (i:Int)).toArray }) a es ep t:=r.keep λo e=>Xe _ e;refine wpAny_bind (zbd (s:={ s with heap:=s.heap.push { cls:=.type "tuple",data:=.seq (ps.map λ(i:Nat)=>rawInt (i:Int)).toArray },drawn:=d }) r1 (wpAny_bind (wpAny_pure (wpAny_bind (wpAny_newObj_type (wpAny_pure ?_))))));refine⟨_,rfl,"set_iterator",_,⟨_,Xx _ rfl,rfl⟩,F.slot_next.lookup,?_⟩;refine h _ d _ [s.heap.objs.size] _ (λb o e=>Xe _ (Xe _ e)) (by rw[hz];exact Nat.le_succ _) (λb hb=>?_)
   (.drawn s.heap.objs.size ps 0 (by rw[hz];exact XD (XO _)) (Xx _ rfl) ⟨_,Xe _ (Xx _ rfl),rfl,_,rfl⟩ hp)
  rw[Yz,hz];rcases Xo.mp hb with e | hb
  ·rw[hz]at e;rw[e];exact⟨Nat.le_succ _,XO _⟩
  ·have e:=XB.mp hb;rw[e];exact⟨Xf _,XR (XO _)⟩
 | false=>
  simp only[XU,if_false];refine wpAny_bind (wpAny_pure (wpAny_bind (zbd r (wpAny_bind (wpAny_pure (wpAny_bind (wpAny_newObj_type (wpAny_pure ?_))))))));refine⟨_,rfl,"set_iterator",_,⟨_,Xx _ rfl,rfl⟩,F.slot_next.lookup,?_⟩;have fin:∀order,At w (s.heap.push (zeE (.int ((0:Nat):Int) 0) 0 es.size ep a)) s.heap.objs.size a es ep t [] order 0->Q (.ref s.heap.objs.size) { s with heap:=s.heap.push (zeE (.int ((0:Nat):Int) 0) 0 es.size ep a) }:=λorder x=>
   h _ s.drawn _ [] order (λb o e=>Xe _ e) (Xf _) (λb hb=>by
    have e:b=s.heap.objs.size:=by simpa using hb
    subst e;rw[Yz];exact⟨Xf _,XO _⟩) x
  cases hb:byText w with
  | true=>exact fin _ (.text 0 0 hb (Xx _ rfl))
  | false=>
   rw[hb]at hd;have hl:t.led=true:=by
    rcases r.led with z | z
    ·exact z
    ·have z':byText w=true:=z;rw[hb]at z';cases z'
   have h1:t.plain=true\/es.size<=1:=by
    cases hp:t.plain with
    | true=>exact .inl rfl
    | false=>
     rw[hp]at hd;simp only[Bool.not_false,Bool.true_and,decide_eq_false_iff_not]at hd;exact .inr (by lia)
   exact fin _ (.one 0 0 hb hl h1 (Xx _ rfl) rfl)
theorem walks {tq:List Addr}{order:List Value}(hh:A.handled=none)(hta:a∉it::tq)(h0:order.length=es.size) :
  WalksS prog w A it (it::a::tq) [it] (λx y=>y=x) es.size (λi v=>order[i]? = some v) (λi s=>Rec w s.heap a es ep t/\At w s.heap it a es ep t tq order i) where
 sub:=λb hb=>by
  have e:b=it:=by simpa using hb
  subst e;exact Xm
 grefl:=λ_=>rfl
 gtrans:=λ_ _ _ h1 h2=>h2.trans h1
 frame:=λi s h' tk st _ k=>⟨st.1.keep λo e=>k a (by simp) o e,st.2.keep λb hb o e=>k b (by
  rcases Xo.mp hb with z | z
  ·subst z;exact Xm
  ·exact Xh _ (Xh _ z)) o e⟩
 item:=λi s Q E hi st hQ=>by
  have hv:order[i]? = some (order[i]'(by lia)):=by simp
  refine next_item st.1 st.2 hv λh' x sb=>?_;have ne:a≠it:=λz=>hta (by rw[z];exact Xm);exact hQ _ _ hv ⟨st.1.keep λo e=>(sb.2 a ne).trans e,x⟩ ⟨λb o hb e=>(sb.2 b (λz=>hb (by simp[z]))).trans e,rfl,rfl,rfl,Xf _⟩
 done:=λs Q E st hQ=>zkD hh st.1 st.2 λh' k=>hQ _ ⟨λb o hb e=>k b o (λz=>hb (by simp[z])) e,rfl,rfl,rfl,Xf _⟩
 self:=λi s Q E st hQ=>by
  have hT:s.TypeIs (.ref it) "set_iterator":=by
   rcases st.2 with ⟨tp,ps,_,_,ho,_⟩ | ⟨slot,_,_,ho⟩ | ⟨slot,_,_,_,_,ho,_⟩
   ·exact⟨_,ho,rfl⟩
   ·exact⟨_,ho,rfl⟩
   ·exact⟨_,ho,rfl⟩
  refine wpAny_pyIter_slot hT F.zgV (wpAny_call_entry F.zgV hT F.zjC ?_ (F.zkB _));show wpAny _ _ (ret (.ref it)) _ _ s;exact wpAny_pure ⟨_,rfl,"set_iterator",_,hT,F.slot_next.lookup,hQ⟩
theorem zhS {Q:List Value->Shared->Prop}(hh:A.handled=none)(r:Rec w s.heap a es ep t)
  (h:∀(h':Heap) (d:Drawn) (tk:Nat) (order:List Value),order.Perm (es.toList.map (·.2))->(∀b o,s.heap.get? b=some o->h'.get? b=some o)->Q order { s with heap:=h',drawn:=d,toks:=tk }):wpAny (model prog w) A (collect (.ref a)) Q E s:=by
 unfold collect;refine wpAny_bind (wpAny_runValue (codeAny_builtin PySem.F.entry_proto_collect ?_));rw[Around.under_plainId PySem.F.plain_proto_collect _];show wpAny _ A.in1 (newList [] >>= λl=>again (.builtin "list.__iadd__" ⟨[l,.ref a],[]⟩)) _ _ s;refine wpAny_bind (wpAny_newList (wpAny_pure ⟨plainId_quiet PySem.F.plain_list_iadd _,codeAny_builtin PySem.F.entry_list_iadd ?_⟩));rw[Around.under_plainId PySem.F.plain_list_iadd _];have hS0:(s.heap.push { cls:=.type "list",data:=.seq ([]:List Value).toArray }).get? s.heap.objs.size=some { cls:=.type "list",data:=.seq ([]:List Value).toArray }:=Xx _ rfl;have hz0:(s.heap.push { cls:=.type "list",data:=.seq ([]:List Value).toArray }).objs.size=s.heap.objs.size+1:=Yz ..;have r0:Rec w (s.heap.push { cls:=.type "list",data:=.seq ([]:List Value).toArray }) a es ep t:=r.keep λo e=>Xe _ e;have haS:a<s.heap.objs.size:=by obtain⟨o,e,_⟩:=r.obj;exact Xs e
 show wpAny _ A.in1 (Builtin.List.listExtendWith (.ref s.heap.objs.size) (.ref a) (.ref s.heap.objs.size)) _ _ { s with heap:=s.heap.push { cls:=.type "list",data:=.seq ([]:List Value).toArray } };unfold Builtin.List.listExtendWith;refine wpAny_bind (wpAny_typeOf (T:="set") r0.type ?_);have h1:Builtin.List.listSameRef (.ref s.heap.objs.size) (.ref a)=false:=by simp[Builtin.List.listSameRef,Nat.ne_of_gt haS]
 have h2:(Value.type "set" == Value.type "list")=false:=by decide
 have h3:(Value.type "set" == Value.type "tuple")=false:=by decide
 simp only[h1,h2,h3,Bool.or_false,XU,if_false];refine wpAny_bind (zml (s:={ s with heap:=s.heap.push { cls:=.type "list",data:=.seq ([]:List Value).toArray } }) r0 λh' d it tq order kp hit hfp x=>?_);have rT:Shared.TypeIs { s with heap:=h',drawn:=d } (.ref a) "set":=(r0.keep λo e=>kp a o e).type;have room:∀ {Q':Bool->Shared->Prop} {A':Around} {E':Value->Shared->Prop},Q' false { s with heap:=h',drawn:=d }->wpAny (model prog w) A' (Builtin.List.listLengthHint (.ref a)) Q' E' { s with heap:=h',drawn:=d }:=λ{Q' A' E'} hq=>by
  unfold Builtin.List.listLengthHint;refine wpAny_bind (wpAny_specialOf rT PySem.F.slot_set_len.lookup ?_);generalize hid:("set.__len__" : String)=id0;wp_delta;rw[show splitId id0=some ("set","__len__") from by subst hid;decide +kernel];subst hid;refine wpAny_bind (wpAny_isInstance (T:="set") (b:=true) rT (by rw[isSubtype_type];kernel_rfl) ?_);refine wpAny_ite_split (λhab=>absurd hab (by decide)) (λ_=>wpAny_ite_split (λ_=>?_) (λhab=>absurd (by decide +kernel) hab));exact wpAny_bind (wpAny_typeOf rT (wpAny_pure hq))
 refine wpAny_bind (wpAny_holding (room ?_));show wpAny _ A.in1 (rule "list.extend.makes-room" >>= λ_=>Builtin.List.listTouch (.ref s.heap.objs.size) >>= λ_=>again (.builtin "list.extend.loop" ⟨[.ref s.heap.objs.size,.ref it,.ref s.heap.objs.size],[]⟩)) _ _ { s with heap:=h',drawn:=d };refine wpAny_bind (wpAny_rule ?_);have hS1:h'.get? s.heap.objs.size=some { cls:=.type "list",data:=.seq ([]:List Value).toArray }:=kp _ _ hS0;refine wpAny_bind ?_;show wpAny _ A.in1 (updateSeq s.heap.objs.size (·.push .none) >>= λ_=>updateSeq s.heap.objs.size (·.pop)) _ _ { s with heap:=h',drawn:=d };refine wpAny_bind (wpAny_updateSeq hS1 rfl ?_);have hS2:=Yb (Obj.mapSeq (·.push Value.none)) hS1 rfl;refine wpAny_updateSeq hS2 rfl ?_;have hS3:=Yb (Obj.mapSeq (·.pop)) hS2 rfl;have oth:∀b o,b≠s.heap.objs.size->h'.get? b=some o->((h'.update s.heap.objs.size (Obj.mapSeq (·.push Value.none))).update s.heap.objs.size (Obj.mapSeq (·.pop))).get? b=some o:=
  λb o hb e=>(YB _ _ (Ne.symm hb)).trans ((YB _ _ (Ne.symm hb)).trans e)
 have hlow:∀b∈it::tq,s.heap.objs.size<b:=λb hb=>by
  have q:=(hfp b hb).1;dsimp only at q;rw[hz0]at q;exact q
 have hta:a∉it::tq:=λz=>Nat.lt_asymm haS (hlow a z);have hSf:s.heap.objs.size∉it::a::tq:=λz=>by
  rcases Xo.mp z with e | z
  ·exact absurd (hlow it Xm) (by rw[<- e];exact Yo _)
  ·rcases Xo.mp z with e | z
   ·exact absurd haS (by rw[<- e];exact Yo _)
   ·exact absurd (hlow _ (Xh _ z)) (Yo _)
 have W:=walks (prog:=prog) (w:=w) (A:=A.in1) (it:=it) (a:=a) (es:=es) (ep:=ep) (t:=t) (tq:=tq) (order:=order) (by simpa using hh) hta (by rw[x.len.length_eq];simp);refine wpAny_pure ⟨plainId_quiet PySem.F.plain_extend_loop _,codeAny_extend_loopS W (fits_of_scanBound r.sz) _ hSf _ es.size 0 _ _ _ rfl (Yf _) ⟨(r0.keep λo e=>kp a o e).keep λo e=>oth a o (XD haS) e,x.keep λb hb o e=>oth b o (Nat.ne_of_gt (hlow b hb)) e⟩ hS3 (ItemsOf.nil _) λs' acc' c' hm hS' hacc=>?_⟩;show wpAny _ A (load s.heap.objs.size >>= _) _ _ s';refine wpAny_bind (wpAny_load hS' (wpAny_pure ?_));have eacc:acc'.toList=order:=by
  apply List.ext_getElem?;intro j;by_cases hj:j<es.size
  ·have q1:acc'[j]? = some (acc'[j]'(by rw[hacc.1];exact hj)):=by simp[hacc.1,hj]
   have q2:=hacc.2 j _ q1;rw[q2,<- q1];simp
  ·have q1:acc'.toList[j]? = none:=by simp[hacc.1];lia
   have q3:order.length=es.size:=by rw[x.len.length_eq];simp
   have q2:order[j]? = none:=by simp[q3];lia
   rw[q1,q2]
 rw[eacc];obtain⟨h2',g2,d2,t2,o2⟩:=s';have e1:g2=s.gens:=hm.gens;have e2:d2=d:=hm.drawn;have e3:o2=s.os:=hm.os;subst e1 e2 e3;refine h h2' d2 t2 order x.len λb o e=>?_;have hb:b<s.heap.objs.size:=Xs e;refine hm.heap b o (λz=>?_) (oth b o (XD hb) (kp b o (Xe _ e)));rcases Xo.mp z with q | q
 ·exact XD hb q
 ·have q':b=it:=by simpa using q
  exact absurd (hlow it Xm) (by rw[<- q'];exact Nat.lt_asymm hb)
end
open PySem PySem.Spec PyProof.Rows
noncomputable def sOf:Value->Str
 | .str x _=>x
 | _=>Str.empty
theorem zfO {t t':SetTable}{hs:Array Int}{n:Nat}{o:Array Nat}(h:t.relaid hs n=some (t',o)):t'.led=t.led/\t'.plain=t.plain:=by
 unfold SetTable.relaid SetTable.laid at h;cases e:SetTable.layClean (SetTable.sizeAbove n-1) hs with
 | none=>rw[e]at h;cases h
 | some ow=>
  rw[e]at h;have q:=Option.some.inj h;rw[<- (Prod.mk.inj q).1];exact⟨rfl,rfl⟩
theorem zjE (t:SetTable)(es:Array (Int×Value))(h:Int)(x:Value):(layNew t es h x).2.1.led=t.led/\(t.plain=false->(layNew t es h x).2.1.plain=false):=by
 unfold layNew;cases e:t.freeSlot h with
 | none=>exact⟨rfl,λ_=>rfl⟩
 | some p=>
  obtain⟨slot,dm⟩:=p;dsimp only;unfold SetTable.orStandIn;split
  ·exact⟨rfl,λz=>z⟩
  ·exact⟨rfl,λ_=>rfl⟩
theorem zkF (t:SetTable)(es:Array (Int×Value))(n:Nat):(relayAll t es n).2.1.led=t.led/\(t.plain=false->(relayAll t es n).2.1.plain=false):=by
 unfold relayAll;cases e:t.relaid (es.map (·.1)) n with
 | none=>exact⟨rfl,λ_=>rfl⟩
 | some p=>
  obtain⟨t',o⟩:=p;dsimp only;split
  ·exact⟨(zfO e).1,λz=>(zfO e).2.trans z⟩
  ·exact⟨rfl,λ_=>rfl⟩
theorem zjF {xs:Array Nat}(ha:Asc xs){j:Nat}(hn:¬ (xs[Ya xs j]? == some j)=true):Asc (SetTable.insertAt xs (Ya xs j) j):=by
 obtain⟨h1,h2,h3⟩:=ziA ha j;generalize Ya xs j=r at h1 h2 h3 hn;have hnot:∀i,r<=i->i<xs.size->j<xs.getD i 0:=λi g1 g2=>by
  have q:=h3 r (Xf _) (by lia);have q2:xs.getD r 0≠j:=λe=>by
   have hr:r<xs.size:=by lia
   have e2:xs[r]=j:=by simpa[Array.getD,hr]using e
   exact hn (by rw[getElem?_pos xs r hr,e2];simp)
  rcases Nat.lt_or_ge r i with z | z
  ·have:=ha.lt z g2;lia
  ·have:i=r:=by lia
   subst this;lia
 have hl:(SetTable.insertAt xs r j).toList=xs.toList.take r++[j]++xs.toList.drop r:=by
  unfold SetTable.insertAt;simp[Array.toList_extract,List.extract_eq_drop_take,XQ]
 unfold Asc;rw[hl,List.pairwise_append,List.pairwise_append];refine⟨⟨List.Pairwise.sublist (List.take_sublist _ _) ha,by simp,λa hm b hb=>?_⟩,List.Pairwise.sublist (List.drop_sublist _ _) ha,λa hm b hb=>?_⟩
 ·rw[XB.mp hb];obtain⟨i,hi,rfl⟩:=List.mem_iff_getElem.mp hm;rw[XX]at hi;rw[List.getElem_take];have q:=h2 i (by lia);simpa[Array.getD,show i<xs.size by lia]using q
 ·obtain⟨i,hi,rfl⟩:=List.mem_iff_getElem.mp hb;rw[List.length_drop,Yr]at hi;rw[List.getElem_drop];have q:=hnot (r+i) (by lia) (by lia);have q:j<xs.toList[r+i]'(by simp;lia):=by simpa[Array.getD,show r+i<xs.size by lia]using q
  rcases XT.mp hm with hm | hm
  ·obtain⟨k,hk,rfl⟩:=List.mem_iff_getElem.mp hm;rw[XX]at hk;rw[List.getElem_take];have q2:=h2 k (by lia);have q2:xs.toList[k]'(by simp;lia)<j:=by simpa[Array.getD,show k<xs.size by lia]using q2
   lia
  ·rw[XB.mp hm];exact q
theorem ziC (t:SetTable)(hd:t.dummies = #[])(g:Nat->Int)(h:Int):∀(fuel:Nat)(p:SetTable.Probe)(j:Nat)(d:Option Nat),p.dummy=none->SetTable.probe.go t g h fuel p=some (.empty j d)->d=none/\t.slot j=.empty
 | 0,p,j,d,hp,e=>by unfold SetTable.probe.go at e;cases e
 | fuel+1,p,j,d,hp,e=>by
  have hadv:(t.advance p).dummy=none:=by unfold SetTable.advance;split<;>exact hp
  have hh:SetTable.has t.dummies p.j=false:=by rw[hd];unfold SetTable.has;simp
  have hno:t.slot p.j≠.dummy:=λz=>by
   unfold SetTable.slot at z;dsimp only at z;rw[hh]at z;simp only[XU,if_false]at z;split at z<;>cases z
  unfold SetTable.probe.go at e;cases hs:t.slot p.j with
  | empty=>rw[hs]at e;cases e;exact⟨hp,hs⟩
  | dummy=>exact absurd hs hno
  | live i=>
   rw[hs]at e;dsimp only at e;split at e
   ·cases e
   ·exact ziC t hd g h fuel _ j d hadv e
theorem zjG {t:SetTable}(ha:Asc t.place)(hd:t.dummies = #[])(es:Array (Int×Value))(h:Int)(x:Value):Asc (layNew t es h x).2.1.place/\(layNew t es h x).2.1.dummies = #[]:=by
 unfold layNew;cases e:t.freeSlot h with
 | none=>exact⟨zdI _,rfl⟩
 | some p=>
  obtain⟨slot,dm⟩:=p;dsimp only;unfold SetTable.orStandIn;split
  ·unfold SetTable.freeSlot at e;have hs:t.slot slot=.empty:=by
    cases hp:t.probe (λ_=>h+1) h (t.probeStart h)with
    | none=>rw[hp]at e;cases e
    | some m=>
     rw[hp]at e;cases m with
     | candidate j i n=>cases e
     | empty j d=>
      obtain⟨q1,q2⟩:=ziC t hd _ _ _ _ _ _ rfl hp;subst q1;cases e;exact q2
   unfold SetTable.put;dsimp only;have hnh:SetTable.has t.dummies slot=false:=by rw[hd];unfold SetTable.has;simp
   rw[hnh];refine⟨zjF ha λz=>?_,hd⟩;unfold SetTable.slot at hs;rw[if_pos z]at hs;cases hs
  ·exact⟨zdI _,rfl⟩
theorem zjH {t t':SetTable}{hs:Array Int}{n:Nat}{o:Array Nat}(h:t.relaid hs n=some (t',o)):Asc t'.place/\t'.dummies = #[]:=by
 unfold SetTable.relaid SetTable.laid at h;cases e:SetTable.layClean (SetTable.sizeAbove n-1) hs with
 | none=>rw[e]at h;cases h
 | some ow=>
  rw[e]at h;have q:=Option.some.inj h;rw[<- (Prod.mk.inj q).1];refine⟨?_,rfl⟩;unfold Asc;dsimp only;rw[List.pairwise_map,List.pairwise_filterMap];refine List.pairwise_lt_range.imp λ{a b} hab p hp q hq=>?_;cases ha:ow.getD a none with
  | none=>rw[ha]at hp;cases hp
  | some x=>
   cases hb:ow.getD b none with
   | none=>rw[hb]at hq;cases hq
   | some y=>rw[ha]at hp;rw[hb]at hq;cases hp;cases hq;exact hab
theorem zkG {t:SetTable}(es:Array (Int×Value))(n:Nat):Asc (relayAll t es n).2.1.place/\(relayAll t es n).2.1.dummies = #[]:=by
 unfold relayAll;cases e:t.relaid (es.map (·.1)) n with
 | none=>exact⟨zdI _,rfl⟩
 | some p=>
  obtain⟨t',o⟩:=p;dsimp only;split
  ·exact zjH e
  ·exact⟨zdI _,rfl⟩
noncomputable def KSet {α:Type} [DecidableEq α] {prog:Program}{w:World}(knd:PySem.KeyKind prog w α)(of:Value->α)(h:Heap)(a:Addr)(xs:List α):Prop:=
 ∃es ep t,Rec w h a es ep t/\ElemsOf knd es.toList/\(es.toList.map λe=>of e.2).Perm xs/\xs.Nodup
noncomputable def addS {α:Type} [DecidableEq α] (xs:List α)(y:α):List α:=if y∈xs then xs else y::xs
noncomputable abbrev zkH (prog:Program)(w:World):Heap->Addr->List Str->Prop:=KSet (PySem.strKind prog w) sOf
section
variable {α:Type} [DecidableEq α] {prog:Program}{w:World}{A:Around}{E:Value->Shared->Prop}{s:Shared}{a:Addr}{knd:PySem.KeyKind prog w α}{of:Value->α}
theorem KSet.keep {h h':Heap}{xs:List α}(S:KSet knd of h a xs)(k:∀o,h.get? a=some o->h'.get? a=some o):KSet knd of h' a xs:=
 let ⟨es,ep,t,r,q⟩:=S;⟨es,ep,t,r.keep k,q⟩
theorem zkI {h:Heap}{es es':Array (Int×Value)}{ep:Nat}{t t':SetTable}(r:Rec w h a es ep t)(hf:t'.fits es'.size=true)(hl:t'.led=t.led)(hp:Asc t'.place/\t'.dummies = #[])(hz:es'.size<scanBound) :
  Rec w (h.update a (Obj.putSet es' t')) a es' (ep+1) t':=by
 obtain⟨o,ho,hex,hd⟩:=r.obj;have hg:(h.update a (Obj.putSet es' t')).get? a=some { o with data:=.set es' (ep+1) t' }:=by
  have q:=Yb (Obj.putSet es' t') ho (by rw[putSet_of es' t' hd];rfl)
  rwa [putSet_of es' t' hd]at q
 exact⟨⟨_,hg,hex,rfl⟩,hf,by rw[hl];exact r.led,hp.1,hp.2,hz⟩
theorem zgW {es es':Array (Int×Value)}{ep:Nat}{t t':SetTable}{Q:Unit->Shared->Prop}(r:Rec w s.heap a es ep t)(hz:es'.size<scanBound)(h:Q () { s with heap:=s.heap.update a (Obj.putSet es' t') }):wpAny (model prog w) A (storeSet a es' t') Q E s:=by
 obtain⟨o,ho,_,hd⟩:=r.obj;exact wpAny_storeSet_of ho hd h (fits_of_scanBound hz)
theorem zpG {es:List (Int×Value)}{y:α}(hof:∀k v,knd.is k v=true->of v=k)(hel:ElemsOf knd es):(∃e∈es,knd.is y e.2=true)↔y∈es.map λe=>of e.2:=by
 constructor
 ·rintro⟨e,he,hi⟩;exact XW.mpr ⟨e,he,hof _ _ hi⟩
 ·intro hm;obtain⟨e,he,q⟩:=XW.mp hm;obtain⟨⟨k,hk,_⟩,_⟩:=hel e he;refine⟨e,he,?_⟩;rw[hof _ _ hk]at q;rw[<- q];exact hk
theorem zpH {xs:List α}{y:α}{x:Value}{Q:Bool->Shared->Prop}(hof:∀k v,knd.is k v=true->of v=k)(hkey:knd.is y x=true)(hsc:x.scannable=true)(S:KSet knd of s.heap a xs)(hroom:xs.length+1<scanBound)
  (h:∀h' b,Yj a s.heap h'->KSet knd of h' a (addS xs y)->Q b { s with heap:=h' }):wpAny (model prog w) A (setAddHashed a x (knd.hash y)) Q E s:=by
 obtain⟨es,ep,t,r,hel,hp,nd⟩:=S;obtain⟨o,ho,hex,hd⟩:=r.obj;have hsz:es.size=xs.length:=by rw[<- hp.length_eq];simp
 have hmem:(∃e∈es.toList,knd.is y e.2=true)↔y∈xs:=(zpG hof hel).trans hp.mem_iff;unfold setAddHashed;refine wpAny_holding ?_;show wpAny _ _ (bind (setState a) _) _ _ s;refine wpAny_bind (zbd r ?_);dsimp only;rw[byScan_of hsc r.sz hel];simp only[if_true];unfold setAddByScan;refine wpAny_bind (wpAny_bind (wpAny_rule (wpAny_bind (wpAny_setScan_of (knd:=knd) hkey ho hd r.fits hel ?_))));cases hr:List.findIdx? (λe=>knd.is y e.2) es.toList with
 | some j=>
  obtain⟨hj,hpj,_⟩:=List.findIdx?_eq_some_iff_getElem.mp hr;have hy:y∈xs:=hmem.mp ⟨_,Yq hj,hpj⟩;have q:=h s.heap false (Yj.refl a s.heap) (by unfold addS;rw[if_pos hy];exact⟨es,ep,t,r,hel,hp,nd⟩);exact wpAny_pure (wpAny_pure q)
 | none=>
  have hy:y∉xs:=λz=>by
   obtain⟨e,he,hpe⟩:=hmem.mpr z;have q:=List.findIdx?_eq_none_iff.mp hr e he;rw[hpe]at q;cases q
  have hgw:∀(b:Bool) {s₁:Shared} {Q':Unit->Shared->Prop},Q' () s₁->wpAny (model prog w) A (match b with | true=>rule "set.scan.the-table-gave-way" | false=>pure ()) Q' E s₁:=λb s₁ Q' hq=>by
   cases b
   ·exact wpAny_pure hq
   ·exact wpAny_rule hq
  have p1:=layNew_perm t es (knd.hash y) x;have f1:=layNew_fits t es (knd.hash y) x;have l1:=zjE t es (knd.hash y) x;have g1:=zjG r.asc r.dm es (knd.hash y) x;generalize hL:layNew t es (knd.hash y) x=L at p1 f1 l1 g1 ⊢;obtain⟨es1,t1,dm,gave⟩:=L;dsimp only at p1 f1 l1 g1 ⊢;rw[Array.toList_push]at p1;have hel1:ElemsOf knd es1.toList:=(hel.push hkey hsc).perm p1;have z1:es1.size=xs.length+1:=by rw[<- Yr,p1.length_eq,Xr,Yr,hsz];rfl
  have b1:es1.size<scanBound:=by rw[z1];exact hroom
  have m1:(es1.toList.map λe=>of e.2).Perm (y::xs):=by
   refine(p1.map _).trans ?_;rw[Xn];refine(List.perm_append_comm).trans ?_;show(of x::es.toList.map λe=>of e.2).Perm _;rw[hof _ _ hkey];exact hp.cons y
  have nd1:(y::xs).Nodup:=Yg.mpr ⟨hy,nd⟩;have eadd:addS xs y=y::xs:=by unfold addS;rw[if_neg hy]
  rw[eadd]at h;refine wpAny_bind (hgw gave ?_);have tail:∀t2:SetTable,t2.fits es1.size=true->t2.led=t.led->(Asc t2.place/\t2.dummies = #[])->wpAny (model prog w) A (do
    storeSet a es1 t2
    if (!dm&&t2.tooFull)=true then do
     (match (relayAll t2 es1 (YK es1.size)).2.2 with | true=>rule "set.scan.the-table-gave-way" | false=>pure ())
     storeSet a (relayAll t2 es1 (YK es1.size)).1 (relayAll t2 es1 (YK es1.size)).2.1
     pure (some true)
    else pure (some true)) (λr s'=>wpAny (model prog w) A (match r with | some added=>pure added | none=>setAddHashedIn a x (knd.hash y) 99999) Q E s') E s:=λt2 f2 l2 p2=>by
   have r2:=zkI (w:=w) r f2 l2 p2 b1;have sb1:=Yj.update s.heap a (Obj.putSet es1 t2);refine wpAny_bind (zgW r b1 ?_);split
   ·have p3:=relayAll_perm t2 es1 (YK es1.size);have f3:=relayAll_fits t2 es1 (YK es1.size);have l3:=zkF t2 es1 (YK es1.size);have g3:=zkG (t:=t2) es1 (YK es1.size);generalize hR:relayAll t2 es1 (YK es1.size)=R at p3 f3 l3 g3 ⊢;obtain⟨es2,t3,gave2⟩:=R;dsimp only at p3 f3 l3 g3 ⊢;have z2:es2.size=es1.size:=by rw[<- Yr,p3.length_eq,Yr]
    refine wpAny_bind (hgw gave2 (wpAny_bind (zgW (s:={ s with heap:=s.heap.update a (Obj.putSet es1 t2) }) r2 (by rw[z2];exact b1) (wpAny_pure (wpAny_pure ?_)))));exact h _ true (sb1.trans (Yj.update _ a _)) ⟨es2,_,t3,zkI r2 f3 l3.1 g3 (by rw[z2];exact b1),hel1.perm p3,(p3.map _).trans m1,nd1⟩
   ·exact wpAny_pure (wpAny_pure (h _ true sb1 ⟨es1,_,t2,r2,hel1,m1,nd1⟩))
  cases hpl:t1.plain with
  | true=>
   simp only[if_true];rw[hashByValue_scannable 8 (x:=x) hsc];refine wpAny_bind (wpAny_pure ?_);cases plainKind x with
   | true=>exact tail t1 f1 l1.1 g1
   | false=>exact tail { t1 with plain:=false } (SetTable.fits_plain_off f1) l1.1 g1
  | false=>
   simp only[XU,if_false];refine wpAny_bind (wpAny_pure ?_);exact tail t1 f1 l1.1 g1
end
section
variable {α:Type} [DecidableEq α]
theorem zmm {xs:List α}{y x:α}:x∈addS xs y↔x=y\/x∈xs:=by
 unfold addS;split
 ·rename_i h
  constructor
  ·exact .inr
  ·rintro(rfl | h')
   ·exact h
   ·exact h'
 ·exact Xo
theorem zmn (xs:List α)(y:α):(addS xs y).length<=xs.length+1:=by
 unfold addS;split
 ·lia
 ·simp
theorem zgX:∀(ys xs:List α)(x:α),x∈ys.foldl addS xs↔x∈xs\/x∈ys
 | [],xs,x=>by simp
 | y::ys,xs,x=>by
  rw[List.foldl_cons,zgX ys (addS xs y) x,zmm,Xo];constructor
  ·rintro((h | h) | h)
   ·exact .inr (.inl h)
   ·exact .inl h
   ·exact .inr (.inr h)
  ·rintro(h | h | h)
   ·exact .inl (.inr h)
   ·exact .inl (.inl h)
   ·exact .inr h
theorem zeW:∀(ys xs:List α),(ys.foldl addS xs).length<=xs.length+ys.length
 | [],xs=>by simp
 | y::ys,xs=>by
  rw[List.foldl_cons];have h1:=zeW ys (addS xs y);have h2:=zmn xs y;rw[XM];lia
end
section
variable {α:Type} [DecidableEq α] {prog:Program}{w:World}{A:Around}{R:Result->Shared->Prop}{I:Addr}{fp wr:List Addr}{G:Array GenState->Array GenState->Prop}{n:Nat}{P:Nat->Value->Prop}{St:Nat->Shared->Prop}{knd:PySem.KeyKind prog w α}{of:Value->α}
theorem zhT (W:WalksS prog w A.in1 I fp wr G n P St)(S:Addr)(hSf:S∉fp)(ys:List α)(hn:ys.length=n)(hof:∀k v,knd.is k v=true->of v=k)(hval:∀i v,P i v->∃y,ys[i]? = some y/\knd.is y v=true/\v.scannable=true)(hb:n+1<scanBound) :
  ∀(k i:Nat) (s:Shared),n-i=k->i<=n->St i s->KSet knd of s.heap S ((ys.take i).foldl addS [])->
   (∀s',Moved (S::wr) G s s'->KSet knd of s'.heap S (ys.foldl addS [])->R (.ok (.ret .none)) s')->
   codeAny (model prog w) A (.builtin "set.update.loop" ⟨[.ref S,.ref I],[]⟩) R s:=by
 have hSw:S∉wr:=λh=>hSf (W.sub _ h);intro k;induction k with
 | zero=>
  intro i s hk hi hst hS hR;have hin:i=n:=by lia
  subst hin;refine codeAny_builtin PyProof.Rows.F.entry_set_update_loop ?_;rw[Around.under_plainId PyProof.Rows.F.plain_set_update_loop _];show wpAny _ A.in1 (pyNext (.ref I) >>= _) _ _ s;refine wpAny_bind (W.done s _ _ hst λs' hm=>wpAny_pure (hR s' (hm.mono λb hb=>Xh _ hb) ?_));rw[XQ (by lia)]at hS;exact hS.keep λo e=>hm.heap S o hSw e
 | succ k ih=>
  intro i s hk hi hst hS hR;have hlt:i<n:=by lia
  refine codeAny_builtin PyProof.Rows.F.entry_set_update_loop ?_;rw[Around.under_plainId PyProof.Rows.F.plain_set_update_loop _];show wpAny _ A.in1 (pyNext (.ref I) >>= _) _ _ s;refine wpAny_bind (W.item i s _ _ hlt hst λv s' hP hst' hm=>?_);obtain⟨y,hy,hkey,hsc⟩:=hval i v hP;have hS':=hS.keep λo e=>hm.heap S o hSw e;show wpAny _ A.in1 (holding [v] (setAdd S v) >>= _) _ _ s';refine wpAny_bind (wpAny_holding ?_);unfold setAdd;refine wpAny_holding (wpAny_bind (knd.pyHash (k:=y) hkey ?_));have hroom:((ys.take i).foldl addS []).length+1<scanBound:=by
   have q:=zeW (ys.take i) [];rw[XX]at q;simp at q;lia
  refine zpH (s:=_) hof hkey hsc hS' hroom λh' b hsb hS2=>?_;have hSi:KSet knd of h' S ((ys.take (i+1)).foldl addS []):=by
   rw[List.take_add_one,hy,List.foldl_append];exact hS2
  refine wpAny_pure ⟨plainId_quiet PyProof.Rows.F.plain_set_update_loop _,ih (i+1) _ (by lia) hlt (W.frame _ s' _ _ hst' (by first | exact Xf _ | exact Nat.le_succ _) λb hb o e=>?_) hSi λs'' hm'' hS''=>?_⟩
  ·rw[hsb.2 b (λh:b=S=>hSf (by rw[<- h];exact hb))];exact e
  ·refine hR s'' (Moved.trans W.gtrans ((hm.mono λb hb=>Xh _ hb).then_heap (by first | exact Xf _ | exact Nat.le_succ _) λb o hb e=>?_) hm'') hS''
   rw[hsb.2 b (λh:b=S=>hb (by rw[h];exact Xm))];exact e
end
noncomputable abbrev zbD (w:World):Obj:={ cls:=.type "set",dict:=none,data:=.set #[] 0 (.fresh 0 0 (!byText w)) }
theorem zmo {α:Type} [DecidableEq α] {prog:Program}{w:World}{knd:PySem.KeyKind prog w α}{of:Value->α}{h:Heap}{a:Addr}(e:h.get? a=some (zbD w)):KSet knd of h a []:=by
 refine⟨#[],0,_,⟨⟨_,e,⟨rfl,rfl,rfl⟩,rfl⟩,by rfl,?_,List.Pairwise.nil,rfl,by decide⟩,λz hz=>by simp at hz,by simp,List.nodup_nil⟩;show(!byText w)=true\/byText w=true;cases byText w
 ·exact .inl rfl
 ·exact .inr rfl
section
variable {prog:Program}{w:World}{A:Around}{E:Value->Shared->Prop}{s:Shared}
theorem zoh (x:Value){Q₁:Value->Shared->Prop}(h:Q₁ (.ref s.heap.objs.size) { s with heap:=s.heap.push (zbD w) }) :
  codeAny (model prog w) A (.call (.builtin "set.__new__") ⟨[.type "set",x],[]⟩) (wants Q₁ E) s:=by
 refine codeAny_of_tree ?_;show wpAny _ A.in1 (do checkBuiltinCall "set.__new__" ⟨[.type "set",x],[]⟩;again (.builtin "set.__new__" ⟨[.type "set",x],[]⟩)) _ _ s
 refine wpAny_bind (wpAny_of_eq (PySem.F.newCall_set_1 x) (wpAny_pure ⟨plainId_quiet PySem.F.plain_set_new _,codeAny_builtin PySem.F.entry_set_new ?_⟩));rw[Around.under_plainId PySem.F.plain_set_new _];unfold Builtin.«set.__new__» Builtin.Frozenset.newClass;have hsub:=sub_set_self;obtain⟨hp,g,d,tk,os⟩:=s;dsimp only
 wp_walk
 refine wpAny_askSetting (wpAny_pure ?_);dsimp only;simp only[newObj];exact wpAny_bind (wpAny_alloc (wpAny_pure (wpAny_pure h)))
theorem zkJ {l:Addr}{items:Array Value}{SP:Heap->Addr->Prop}{Q:Value->Shared->Prop}(hh:A.handled=none)(hl:s.heap.IsList l items)
  (loop:∀ {A':Around} {R:Result->Shared->Prop} {I:Addr} {fp wr:List Addr} {G:Array GenState->Array GenState->Prop} {P:Nat->Value->Prop} {St:Nat->Shared->Prop} (W:WalksS prog w A'.in1 I fp wr G items.size P St) (S:Addr),A'.units<=A.units+8->S∉fp->(∀i v,P i v->items[i]? = some v)->(∀b,b<s.heap.objs.size->b∉S::wr)->∀s1:Shared,(∀b o,s.heap.get? b=some o->s1.heap.get? b=some o)->St 0 s1->s1.heap.get? S=some (zbD w)->(∀s',Moved (S::wr) G s1 s'->SP s'.heap S->R (.ok (.ret .none)) s')->
   codeAny (model prog w) A' (.builtin "set.update.loop" ⟨[.ref S,.ref I],[]⟩) R s1)
  (h:∀(h':Heap) (tk:Nat),SP h' s.heap.objs.size->(∀b o,s.heap.get? b=some o->h'.get? b=some o)->Q (.ref s.heap.objs.size) { s with heap:=h',toks:=tk }) :
  wpAny (model prog w) A (call (.type "set") [.ref l]) Q E s:=by
 obtain⟨c,tl,hmro⟩:=PySem.F.called_set.mro;have hmade:=PySem.F.called_set.made;have hsub:=PySem.F.called_set.sub;refine wpAny_call (codeAny_of_tree ?_);show wpAny _ _ (callAny (.type "set") _) _ _ _;refine wpAny_pure ⟨Code.quiet_builtin _ (by decide +kernel),codeAny_builtin PySem.F.entry_type_call ?_⟩;rw[Around.under_plain (weight_type_call_type "set" [.ref l] []) rfl];have h1:=PySem.F.called_set.notType;have h2:=PySem.F.called_set.canCreate;have hct:=PySem.F.typeCall_set_1 (.ref l)
 repeat (any_goals (first | assumption | wp_step))
 refine codeAny_mono (zoh (.ref l) (E:=E) (Q₁:=λob s1=>ob=.ref s.heap.objs.size/\s1={ s with heap:=s.heap.push (zbD w) }) ⟨rfl,rfl⟩) λr s1 hr=>?_;cases r with
 | error e=>exact hr
 | ok fl=>
  cases fl with
  | ret ob=>
   obtain⟨rfl,rfl⟩:=hr;have hS:(s.heap.push (zbD w)).get? s.heap.objs.size=some (zbD w):=Xx _ rfl;have hT:Shared.TypeIs { s with heap:=s.heap.push (zbD w) } (.ref s.heap.objs.size) "set":=⟨_,hS,rfl⟩;have hli:=PySem.F.called_set.init.lookup;have hbi:=PySem.F.called_set.init.bind (.ref s.heap.objs.size)
   repeat (any_goals (first | assumption | wp_step))
   refine codeAny_mono (codeAny_call_builtin (R:=wants (λr s2=>r=.none/\∃h' tk,s2={ s with heap:=h',toks:=tk }/\SP h' s.heap.objs.size/\∀b o,s.heap.get? b=some o->h'.get? b=some o) E)
    PySem.F.called_set.init.plain PySem.F.entry_set_init (check_set_init_1 hT ?_)) λr₂ s₂ hr₂=>?_
   ·obtain⟨⟨ocls,odict,odata,oslots⟩,hol,hcl,nl,hdl⟩:=hl;simp only at hcl hdl;subst hcl;subst hdl;have hol':(s.heap.push (zbD w)).get? l=some { cls:=.type "list",dict:=odict,data:=.seq items nl,slots:=oslots }:=Xe _ hol;have hsls:=PySem.F.sub_list_set;have hslf:=PySem.F.sub_list_frozenset;have hne:(Value.type "list" == Value.type "dict")=false:=by decide
    have hl1:(s.heap.push (zbD w)).IsList l items:=⟨_,hol',rfl,nl,rfl⟩;unfold Builtin.«set.__init__» noKeywords Builtin.Frozenset.updateFrom;generalize hPI:pyIter=PI
    wp_walk
    subst hPI;refine wpAny_pyIter_list hl1 (wpAny_bind (wpAny_runValue ?_));have hlS:l<s.heap.objs.size:=Xs hol;have hz1:(s.heap.push (zbD w)).objs.size=s.heap.objs.size+1:=Yz ..;have hneI:l≠(s.heap.push (zbD w)).objs.size:=by rw[hz1];exact XD (XR hlS)
    have hSf:s.heap.objs.size∉[(s.heap.push (zbD w)).objs.size,l]:=by
     rw[hz1];intro z;rcases Xo.mp z with e | e
     ·exact absurd e (XD (XO _))
     ·exact absurd (XB.mp e) (Nat.ne_of_gt hlS)
    refine loop ((Walks.list (by simp[hh]) _ l hneI items).toS) s.heap.objs.size ?U hSf (λi v hv=>hv) (λb hb=>?W) _ (λb o e=>Xe _ (Xe _ e)) ⟨⟨_,Xx _ rfl,rfl,rfl⟩,hl1.push _⟩ (Xe _ hS) λs' hm hS'=>?_
    case U=>show A.units+1+1<=_;lia
    case W=>
     intro z;rcases Xo.mp z with q | q
     ·exact XD hb q
     ·have q':=XB.mp q;rw[hz1]at q';exact absurd q' (XD (XR hb))
    obtain⟨h',g',d',tk',os'⟩:=s';have eg:g'=s.gens:=hm.gens;have ed:d'=s.drawn:=hm.drawn;have eo:os'=s.os:=hm.os;subst eg;subst ed;subst eo;refine wpAny_pure (wpAny_pure ⟨rfl,h',tk',rfl,hS',λb o e=>?_⟩);have hb':b<s.heap.objs.size:=Xs e;refine hm.heap b o (λz=>?_) (Xe _ (Xe _ e));rcases Xo.mp z with q | q
    ·exact XD hb' q
    ·have q':=XB.mp q;rw[hz1]at q';exact absurd q' (XD (XR hb'))
   ·cases r₂ with
    | error e=>exact hr₂
    | ok fl₂=>
     cases fl₂ with
     | ret r=>
      obtain⟨rfl,h',tk,rfl,hS',hk'⟩:=hr₂
      repeat (any_goals (first | assumption | wp_step))
      exact h _ _ hS' hk'
     | _=>exact hr₂.elim
  | _=>exact hr.elim
theorem zkK {α:Type} [DecidableEq α] {knd:PySem.KeyKind prog w α}{of:Value->α}{l:Addr}{items:Array Value}{ys:List α}{Q:Value->Shared->Prop}(hof:∀k v,knd.is k v=true->of v=k)(hh:A.handled=none)(hl:s.heap.IsList l items)(hi:∀(i:Nat) v,items[i]? = some v->∃y,ys[i]? = some y/\knd.is y v=true/\v.scannable=true)(hy:ys.length=items.size)(hb:items.size+1<scanBound)
  (h:∀(h':Heap) (tk:Nat),KSet knd of h' s.heap.objs.size (ys.foldl addS [])->(∀b o,s.heap.get? b=some o->h'.get? b=some o)->Q (.ref s.heap.objs.size) { s with heap:=h',toks:=tk }) :
  wpAny (model prog w) A (call (.type "set") [.ref l]) Q E s:=
 zkJ (SP:=λh S=>KSet knd of h S (ys.foldl addS [])) hh hl (λ{A' R I fp wr G P St} W S _ hSf hP _ s1 kp hst hS hR=>zhT W S hSf ys hy hof (λi v hv=>hi i v (hP i v hv)) hb _ 0 s1 rfl (Yf _) hst (zmo hS) hR) h
theorem zmp {l:Addr}{items:Array Value}{ys:List Str}{Q:Value->Shared->Prop}(hh:A.handled=none)(hl:s.heap.IsList l items)(hi:∀(i:Nat) v,items[i]? = some v->∃y t,ys[i]? = some y/\v=.str y t)(hy:ys.length=items.size)(hb:items.size+1<scanBound)
  (h:∀(h':Heap) (tk:Nat),zkH prog w h' s.heap.objs.size (ys.foldl addS [])->(∀b o,s.heap.get? b=some o->h'.get? b=some o)->Q (.ref s.heap.objs.size) { s with heap:=h',toks:=tk }) :
  wpAny (model prog w) A (call (.type "set") [.ref l]) Q E s:=
 zkK (knd:=PySem.strKind prog w) (of:=sOf) (λk v hk=>by obtain⟨t,rfl⟩:=Value.isStrOf_shape (show Value.isStrOf k v=true from hk);rfl) hh hl (λi v hv=>by obtain⟨y,t,e1,rfl⟩:=hi i v hv;exact⟨y,e1,by simp[PySem.strKind,Value.isStrOf],rfl⟩) hy hb h
end
section
variable {prog:Program}{w:World}{A:Around}{E:Value->Shared->Prop}{s:Shared}{a:Addr}
theorem zmq {vs:List Value}{ss:List Str}{Q:Value->Shared->Prop}(hS:StrsAre vs ss)(h64:vs.length<64)
  (h:∀(h':Heap) (out:List Value) (zs:List Str) (e:Nat),StrsAre out zs->zs.Perm ss->sortedS zs=true->(∀b o,s.heap.get? b=some o->h'.get? b=some o)->h'.get? s.heap.objs.size=some { cls:=.type "list",data:=.seq out.toArray e }->Q (.ref s.heap.objs.size) { s with heap:=h' }) :
  wpAny (model prog w) A (newList vs >>= λl=>holding [l] (call (.builtin "list.sort") [l] []) >>= λ_=>ret l) (λfin s'=>∃r,fin=.done (.ret r)/\Q r s') E s:=by
 refine wpAny_bind (wpAny_newList ?_);have hoL:(s.heap.push (seqObj "list" vs.toArray 0)).get? s.heap.objs.size=some (seqObj "list" vs.toArray 0):=Xx _ rfl;refine wpAny_bind (wpAny_holding (wpAny_call_entry slot_list_sort ⟨_,hoL,rfl⟩ entry_list_sort (list_sort_treeK strKind_oneLt hoL hS.keysOf (λv1 v2 rest e=>keyKind_strs (by rw[<- e];exact hS)) h64 λst' a1 a2=>⟨_,rfl,?_⟩) (args_list_sort _)));obtain⟨zs,q1,q2,q3⟩:=sorted_out_str hS a1 a2;obtain⟨e,he⟩:=sortedHeap_at (out:=(arrOf st').map (·.2)) hoL;refine wpAny_pure ⟨_,rfl,h _ ((arrOf st').map (·.2)).toList zs e q1 q2 q3 (λb o hb=>?_) (by rw[Array.toArray_toList];exact he)⟩;have hlt:b<s.heap.objs.size:=Xs hb;rw[sortedHeap_old (XD hlt) (by rw[size_push'];exact XR hlt)];exact Xe _ hb
theorem zjI {xs:List Str}{Q:Value->Shared->Prop}(hh:A.handled=none)(S:zkH prog w s.heap a xs)(h64:xs.length<64)
  (h:∀(h1 h':Heap) (d:Drawn) (tk:Nat) (out:List Value) (zs:List Str) (e:Nat),StrsAre out zs->zs.Perm xs->sortedS zs=true->(∀b o,s.heap.get? b=some o->h1.get? b=some o)->(∀b o,h1.get? b=some o->h'.get? b=some o)->h'.get? h1.objs.size=some { cls:=.type "list",data:=.seq out.toArray e }->
   Q (.ref h1.objs.size) { s with heap:=h',drawn:=d,toks:=tk }):wpAny (model prog w) A (call (.builtin "sorted") [.ref a]) Q E s:=by
 refine Calls.call_function_entry kind_sorted plain_sorted entry_sorted (args_sorted1 _) ?_;unfold Builtin.«sorted»;refine wpAny_bind (m:=checkCount "sorted" 1 1 _) (wpAny_pure ?_);obtain⟨es,ep,t,r,hel,hp,nd⟩:=S;refine wpAny_bind (zhS (by simpa using hh) r λh1 d tk order ho kp=>?_);have hst:∀v∈order,∃x t,v=Value.str x t:=λv hv=>by
  obtain⟨e,he,q⟩:=XW.mp (ho.mem_iff.mp hv);obtain⟨⟨k,hk,_⟩,_⟩:=hel e he;obtain⟨t,q'⟩:=Value.isStrOf_shape (show Value.isStrOf k e.2=true from hk);exact⟨k,t,by rw[<- q];exact q'⟩
 have hS:=strsAre_map order hst;have hperm:(order.map strOf).Perm xs:=by
  refine(ho.map strOf).trans ?_;rw[YN];have e:es.toList.map (strOf ∘ λx=>x.2)=es.toList.map λe=>sOf e.2:=YH λe he=>by
   obtain⟨⟨k,hk,_⟩,_⟩:=hel e he;obtain⟨t,q'⟩:=Value.isStrOf_shape (show Value.isStrOf k e.2=true from hk);show strOf e.2=sOf e.2;rw[q'];rfl
  rw[e];exact hp
 have hlen:order.length<64:=by
  have q:=hperm.length_eq;rw[Xb]at q;lia
 refine zmq (s:={ s with heap:=h1,drawn:=d,toks:=tk }) hS hlen λh' out zs e q1 q2 q3 kp' he=>?_;exact h h1 h' d tk out zs e q1 (q2.trans hperm) q3 kp kp' he
end
end JS
namespace L2
open PySem PySem.Spec PyProof.Rows
inductive D where
 | non | int (i:Int) | str (x:Str) | tup (ds:List D)
noncomputable instance:DecidableEq D:=λ_ _=>Classical.propDecidable _
mutual
noncomputable def Den (H:Hp):D->V->Prop
 | .non,v=>v=.non
 | .int i,v=>v=.int i
 | .str x,v=>v=.str x
 | .tup ds,v=>∃a xs,v=.ref a/\H a=some (.tup xs)/\DenL H ds xs
noncomputable def DenL (H:Hp):List D->List V->Prop
 | [],xs=>xs=[]
 | d::ds,xs=>∃v r,xs=v::r/\Den H d v/\DenL H ds r
end
noncomputable def zpI (H H':Hp):Prop:=∀b xs,H b=some (.tup xs)->H' b=some (.tup xs)
mutual
theorem Den.mono {H H':Hp}(s:zpI H H'):∀(d:D)(v:V),Den H d v->Den H' d v
 | .non,v,h=>by unfold Den at h ⊢;exact h
 | .int i,v,h=>by unfold Den at h ⊢;exact h
 | .str x,v,h=>by unfold Den at h ⊢;exact h
 | .tup ds,v,h=>by
  unfold Den at h ⊢;obtain⟨a,xs,e,h1,h2⟩:=h;exact⟨a,xs,e,s a xs h1,DenL.mono s ds xs h2⟩
theorem DenL.mono {H H':Hp}(s:zpI H H'):∀(ds:List D)(xs:List V),DenL H ds xs->DenL H' ds xs
 | [],xs,h=>by unfold DenL at h ⊢;exact h
 | d::ds,xs,h=>by
  unfold DenL at h ⊢;obtain⟨v,r,e,h1,h2⟩:=h;exact⟨v,r,e,Den.mono s d v h1,DenL.mono s ds r h2⟩
end
mutual
theorem Den.inj {H:Hp}:∀(d e:D)(v:V),Den H d v->Den H e v->d=e
 | .non,e,v,h,g=>by
  unfold Den at h;subst h;cases e<;>unfold Den at g
  ·rfl
  ·cases g
  ·cases g
  ·obtain⟨a,xs,z,_⟩:=g;cases z
 | .int i,e,v,h,g=>by
  unfold Den at h;subst h;cases e<;>unfold Den at g
  ·cases g
  ·injection g with g;rw[g]
  ·cases g
  ·obtain⟨a,xs,z,_⟩:=g;cases z
 | .str x,e,v,h,g=>by
  unfold Den at h;subst h;cases e<;>unfold Den at g
  ·cases g
  ·cases g
  ·injection g with g;rw[g]
  ·obtain⟨a,xs,z,_⟩:=g;cases z
 | .tup ds,e,v,h,g=>by
  unfold Den at h;obtain⟨a,xs,z,h1,h2⟩:=h;subst z;cases e<;>unfold Den at g
  ·cases g
  ·cases g
  ·cases g
  ·obtain⟨b,ys,z,g1,g2⟩:=g;cases z;rw[h1]at g1;cases g1;rw[DenL.inj ds _ xs h2 g2]
theorem DenL.inj {H:Hp}:∀(ds es:List D)(xs:List V),DenL H ds xs->DenL H es xs->ds=es
 | [],es,xs,h,g=>by
  unfold DenL at h;subst h;cases es with
  | nil=>rfl
  | cons e es=>unfold DenL at g;obtain⟨v,r,z,_⟩:=g;cases z
 | d::ds,es,xs,h,g=>by
  unfold DenL at h;obtain⟨v,r,z,h1,h2⟩:=h;subst z;cases es with
  | nil=>unfold DenL at g;cases g
  | cons e es=>
   unfold DenL at g;obtain⟨v',r',z,g1,g2⟩:=g;cases z;rw[Den.inj d e v h1 g1,DenL.inj ds es r h2 g2]
end
mutual
noncomputable def Cmp:D->D->Prop
 | .non,e=>e=.non
 | .int _,e=>∃j,e=.int j
 | .str _,e=>∃y,e=.str y
 | .tup ds,e=>∃es,e=.tup es/\CmpL ds es
noncomputable def CmpL:List D->List D->Prop
 | [],_=>True
 | d::ds,es=>∀e r,es=e::r->Cmp d e/\CmpL ds r
end
mutual
noncomputable def dep:D->Nat
 | .tup ds=>depL ds+1
 | _=>0
noncomputable def depL:List D->Nat
 | []=>0
 | d::ds=>max (dep d) (depL ds)
end
end L2
namespace L2
open PySem PySem.Spec PyProof.Rows
section
variable {X:Cx}
noncomputable def zrc (K:Xa):V->List V->Hp->VK->Prop:=λx vs H Q=>∃(l b:Addr)(xs zs:List V),x=.ref l/\vs=[.ref b]/\H l=some (.lst xs)/\SqT K H b zs/\xs.length+zs.length<=sizeLine/\Q .non (upd H l (.lst (xs++zs)))
theorem zoi:MtM X "list.extend" (zrc X.K):=by
 intro pins s σ H x vs v us Q I rx rv h;obtain⟨l,b,xs,zs,rfl,rfl,hH,hB,hz,q⟩:=h;cases rx;obtain⟨u,rfl,ru⟩:=rv.one;cases ru;obtain⟨z,its,n,r,hl,e⟩:=I.lstM hH;obtain⟨its2,r2,⟨o2,ho2,hc2,n2,hd2⟩,z2⟩:=I.tuple hB;have l2:=r2.length;have hne:l≠b:=λw=>by subst w;rw[e]at ho2;cases ho2;injection hc2 with z;exact absurd z (by decide)
 refine wpAny_call_entry PySem.F.slot_list_extend ⟨_,e,rfl⟩ PySem.F.entry_list_extend ?_ (PySem.F.args_list_extend_2 _ _);show wpAny _ _ (Builtin.List.listExtendWith (.ref l) (.ref b) .none) _ _ s;unfold Builtin.List.listExtendWith;refine wpAny_bind (wpAny_typeOf (T:="tuple") ⟨o2,ho2,hc2⟩ ?_);have h3:(Value.type "tuple" == Value.type "tuple")=true:=by decide
 rw[if_pos (by rw[h3];simp)];refine wpAny_bind (listItems_at ho2 hd2 (wpAny_bind (listItems_at e rfl ?_)));have hlong:¬ (!its.toArray.isEmpty&&Builtin.List.listTooLong (its.toArray.size+its2.toArray.size))=true:=by
  rw[zmk (by rw[Xj,Xj];lia),Bool.and_false];exact Xi
 rw[if_neg hlong];refine wpAny_bind (listUpdate_at e rfl (wpAny_pure ⟨_,rfl,?_⟩) (by rw[Xj];lia) (by rw[Array.size_append,Xj,Xj];lia));refine⟨.non,_,I.lset (its':=its++its2) (t':=s.toks) hH e (by simp) (r.append r2) (by rw[Xr];lia),rfl,q⟩
theorem zjJ {ss:List Str}:∀ {its:List Value},Vals (ss.map V.str) its->StrsAre its ss:=by
 induction ss with
 | nil=>intro its r;cases r;exact .nil
 | cons x ss ih=>
  intro its r;cases r with
  | cons r1 r2=>
   obtain⟨t,rfl⟩:=(show ∃t,_=Value.str x t from r1);exact .cons x t (ih r2)
theorem zgY {ss:List Str}:∀ {its:List Value},StrsAre its ss->Vals (ss.map V.str) its:=by
 induction ss with
 | nil=>intro its r;cases r;exact .nil
 | cons x ss ih=>
  intro its r;cases r with
  | cons _ t r2=>exact .cons ⟨t,rfl⟩ (ih r2)
theorem zjK:zdf X (.builtin "sorted") (λxs H Q=>∃(p:Addr) (ss:List Str),xs=[.ref p]/\SqL X.K H p (ss.map V.str)/\ss.length<64/\∀l zs,H l=none->zs.Perm ss->sortedS zs=true->Q (.ref l) (upd H l (.lst (zs.map V.str)))):=by
 intro pins s σ H xs us Q I r h;obtain⟨p,ss,rfl,hp,h64,q⟩:=h;obtain⟨u,rfl,rx⟩:=vals1 r;cases rx;obtain⟨its,r,ht,hz⟩:=I.list hp;have hlen:=r.length;rw[Xb]at hlen;refine sorted_strs ht.isList (zjJ r) (by lia) λout ss' a1 a2 a3=>?_;obtain⟨e,he⟩:=sortedAll_at s.heap its out;have kp:∀b o,s.heap.get? b=some o->(sortedAll s.heap its out).get? b=some o:=λ_ _=>sortedAll_old;have hl2:ss'.length=ss.length:=a2.length_eq;refine⟨.ref (s.heap.objs.size+1),_,I.laid (t':=s.toks) (o:=.lst (ss'.map V.str)) kp (Nat.le_succ _) ?_,rfl,q _ ss' (I.hok.fresh (Nat.le_succ _)) a2 a3⟩;exact⟨by rw[Xb,hl2];rw[Xb]at hz;exact hz,out.toList,e,zgY a1,by rw[Array.toArray_toList];exact he⟩
noncomputable def SetO (P:Program)(w:World)(a:Addr)(xs:List Str):HO:=.ext λh=>JS.zkH P w h a xs
theorem zkL (hc:X.calm=true):zdf X (.type "set") (λxs H Q=>∃(p:Addr) (ss:List Str),xs=[.ref p]/\SqL X.K H p (ss.map V.str)/\ss.length+1<scanBound/\∀l,H l=none->Q (.ref l) (upd H l (SetO X.prog X.w l (ss.foldl JS.addS [])))):=by
 intro pins s σ H xs us Q I r h;obtain⟨p,ss,rfl,hp,hz,q⟩:=h;obtain⟨u,rfl,rx⟩:=vals1 r;cases rx;obtain⟨its,r,ht,_⟩:=I.list hp;have hlen:=r.length;rw[Xb]at hlen;refine JS.zmp (ys:=ss) (I.ok.hd hc) ht.isList (λi v hv=>?_) (by rw[Xj];exact hlen) (by rw[Xj];lia) λh' tk hS kp=>?_
 ·have hv':its[i]? = some v:=by simpa using hv
  have hi:i<its.length:=(Xd.mp hv').1;have e1:(ss.map V.str)[i]? = some (V.str ss[i]):=by simp[show i<ss.length by lia]
  obtain⟨u,q1,q2⟩:=r.get e1;rw[hv']at q1;cases q1;obtain⟨t,e2⟩:=(show ∃t,v=Value.str _ t from q2);exact⟨_,t,by simp[show i<ss.length by lia],e2⟩
 ·refine⟨.ref s.heap.objs.size,_,I.laid (t':=tk) (o:=SetO X.prog X.w s.heap.objs.size (ss.foldl JS.addS [])) kp (Xf _) ?_,rfl,q _ I.fresh⟩;obtain⟨es,ep,t,rc,_⟩:=id hS;obtain⟨o,ho,_⟩:=rc.obj;exact⟨hS,⟨o,ho⟩,λh1 h2 hs k=>JS.KSet.keep hs k⟩
theorem zgZ (hc:X.calm=true):zdf X (.builtin "sorted") (λxs H Q=>∃(p:Addr) (ss:List Str),xs=[.ref p]/\H p=some (SetO X.prog X.w p ss)/\ss.length<64/\∀l zs,H l=none->zs.Perm ss->sortedS zs=true->Q (.ref l) (upd H l (.lst (zs.map V.str)))):=by
 intro pins s σ H xs us Q I r h;obtain⟨p,ss,rfl,hp,h64,q⟩:=h;obtain⟨u,rfl,rx⟩:=vals1 r;cases rx;obtain⟨hS,_,_⟩:=(show zca X.prog X.w H s.heap p (SetO X.prog X.w p ss) from I.hok p _ hp);refine JS.zjI (I.ok.hd hc) hS h64 λh1 h' d tk out zs e a1 a2 a3 kp kp' he=>?_;have I1:Inv X pins σ H { s with heap:=h1,drawn:=d,toks:=tk }:=I.call' (ch:=[]) rfl (Un.kept kp) (I.hok.kept kp) I.bare (λ_ z=>nomatch z);have hl2:zs.length=ss.length:=a2.length_eq;refine⟨.ref h1.objs.size,_,I1.laid (h':=h') (t':=tk) (o:=.lst (zs.map V.str)) kp' (Xf _) ?_,rfl,q _ zs (I1.hok.fresh (Xf _)) a2 a3⟩;exact⟨by rw[Xb,sizeLine_eq];lia,out,e,zgY a1,he⟩
end
noncomputable def zpJ (K:Xa):List V->Hp->VK->Prop:=λxs H Q=>∃p ys,xs=[.ref p]/\((SqL K H p ys/\∀l,H l=none->Q (.ref l) (upd H l (.tup ys)))\/(SqT K H p ys/\Q (.ref p) H))
noncomputable def zoj (K:Xa):List V->Hp->VK->Prop:=λxs H Q=>∃p ys,xs=[.ref p]/\(SqL K H p ys\/SqT K H p ys)/\∀l,H l=none->Q (.ref l) (upd H l (.lst ys))
end L2
namespace PL
open PySem PySem.Spec L2
open PyProof.Rows hiding St
inductive PV where
 | non | bl (b:Bool) | int (i:Int) | str (x:Str) | ty (n:String)
 | tup (ds:List PV) | lst (ds:List PV) | dK (ks:List Key) (ds:List PV) | dT (ks:List (List Key)) (ds:List PV)
  | obj (C:Addr) (ks:List Str) (ds:List PV)
noncomputable instance:DecidableEq PV:=λ_ _=>Classical.propDecidable _
noncomputable abbrev FZ:=Addr->Prop
noncomputable def KX (K:Xa)(a:Addr)(xs:List V):Prop:=∃(its:Array Value)(n:Nat),K.lookup a=some { cls:=.type "list",data:=.seq its n }/\its.size<=sizeLine/\Vals xs its.toList
theorem KX.sq {K:Xa}{H:Hp}{a:Addr}{xs:List V}(h:KX K a xs):SqL K H a xs:=by obtain⟨its,n,h1,h2,h3⟩:=h;exact .inr ⟨_,its,n,h1,rfl,rfl,rfl,h2,h3⟩
mutual
noncomputable def Den (K:Xa)(Fz:FZ)(H:Hp):PV->V->Prop
 | .non,v=>v=.non
 | .bl b,v=>v=.bl b
 | .int i,v=>v=.int i
 | .str x,v=>v=.str x
 | .ty n,v=>v=.ty n
 | .tup ds,v=>∃a xs,v=.ref a/\H a=some (.tup xs)/\DenL K Fz H ds xs
 | .lst ds,v=>∃a xs,v=.ref a/\((Fz a/\Rd H a (.lst xs))\/KX K a xs)/\DenL K Fz H ds xs
 | .dK ks ds,v=>∃a xs,v=.ref a/\Fz a/\Rd H a (.dK (ks.zip xs))/\ks.length=xs.length/\DenL K Fz H ds xs
 | .dT ks ds,v=>∃a xs,v=.ref a/\Fz a/\Rd H a (.dT (ks.zip xs))/\ks.length=xs.length/\DenL K Fz H ds xs
 | .obj C ks ds,v=>∃a dx xs,v=.ref a/\Fz a/\H a=some (.ins C dx (ks.zip xs))/\ks.length=xs.length/\DenL K Fz H ds xs
noncomputable def DenL (K:Xa)(Fz:FZ)(H:Hp):List PV->List V->Prop
 | [],xs=>xs=[]
 | d::ds,xs=>∃v r,xs=v::r/\Den K Fz H d v/\DenL K Fz H ds r
end
noncomputable def Root (K:Xa)(Fz:FZ)(H:Hp):PV->V->Prop
 | .lst ds,v=>∃a xs,v=.ref a/\(Rd H a (.lst xs)\/KX K a xs)/\DenL K Fz H ds xs
 | .dK ks ds,v=>∃a xs,v=.ref a/\Rd H a (.dK (ks.zip xs))/\ks.length=xs.length/\DenL K Fz H ds xs
 | .dT ks ds,v=>∃a xs,v=.ref a/\Rd H a (.dT (ks.zip xs))/\ks.length=xs.length/\DenL K Fz H ds xs
 | d,v=>Den K Fz H d v
noncomputable def Own (K:Xa)(Fz:FZ)(H:Hp):PV->Addr->Prop
 | .lst ds,a=>∃xs,H a=some (.lst xs)/\DenL K Fz H ds xs
 | .dK ks ds,a=>∃xs,H a=some (.dK (ks.zip xs))/\ks.length=xs.length/\DenL K Fz H ds xs
 | .dT ks ds,a=>∃xs,H a=some (.dT (ks.zip xs))/\ks.length=xs.length/\DenL K Fz H ds xs
 | _,_=>False
noncomputable def Imm:HO->Prop
 | .tup _=>True
 | .frz _ _=>True
 | _=>False
noncomputable def Pl:HO->Prop
 | .lst _=>True
 | .tup _=>True
 | .dK _=>True
 | .dT _=>True
 | _=>False
structure Keep (Fz:FZ)(H H':Hp):Prop where
 rd':∀b u,Pl u->Fz b->Rd H b u->Rd H' b u
 tup:∀b xs,H b=some (.tup xs)->H' b=some (.tup xs)
 ins:∀b C dx fs,Fz b->H b=some (.ins C dx fs)->H' b=some (.ins C dx fs)
noncomputable def zkM (Fz:FZ)(H H':Hp):Prop:=∀b o,H b=some o->(Fz b\/Imm o)->H' b=some o
theorem Keep.mk' {Fz:FZ}{H H':Hp}(h:zkM Fz H H'):Keep Fz H H':=
 ⟨λb u _ f r=>by
  rcases r with r | ⟨o,r⟩
  ·exact .inl (h b _ r (.inl f))
  ·exact .inr ⟨o,h b _ r (.inl f)⟩,λb xs r=>h b _ r (.inr trivial),λb C dx fs f r=>h b _ r (.inl f)⟩
theorem Keep.of {Fz:FZ}{H H':Hp}(h:Same H H'):Keep Fz H H':=.mk' λb o e _=>h b o e
theorem Keep.rd {Fz:FZ}{H H':Hp}(k:Keep Fz H H'){a:Addr}{u:HO}(pl:Pl u)(hf:Fz a)(h:Rd H a u):Rd H' a u:=k.rd' a u pl hf h
theorem Keep.sqT {K:Xa}{Fz:FZ}{H H':Hp}(k:Keep Fz H H'){a:Addr}{xs:List V}(h:H a=some (.tup xs)):SqT K H' a xs:=SqT.of (k.tup a xs h)
section
variable {K:Xa}{Fz Fz':FZ}{H H':Hp}
mutual
theorem Den.mono (k:Keep Fz H H')(s:∀b,Fz b->Fz' b):∀(d:PV)(v:V),Den K Fz H d v->Den K Fz' H' d v
 | .non,v,h=>by simpa only[Den]using h
 | .bl b,v,h=>by simpa only[Den]using h
 | .int i,v,h=>by simpa only[Den]using h
 | .str x,v,h=>by simpa only[Den]using h
 | .ty n,v,h=>by simpa only[Den]using h
 | .tup ds,v,h=>by
  simp only[Den]at h ⊢;obtain⟨a,xs,e,h1,h2⟩:=h;exact⟨a,xs,e,k.tup a xs h1,DenL.mono k s ds xs h2⟩
 | .lst ds,v,h=>by
  simp only[Den]at h ⊢;obtain⟨a,xs,e,h1,h2⟩:=h;refine⟨a,xs,e,?_,DenL.mono k s ds xs h2⟩;rcases h1 with ⟨f,h1⟩ | h1
  ·exact .inl ⟨s a f,k.rd trivial f h1⟩
  ·exact .inr h1
 | .dK ks ds,v,h=>by
  simp only[Den]at h ⊢;obtain⟨a,xs,e,f,h1,h2,h3⟩:=h;exact⟨a,xs,e,s a f,k.rd trivial f h1,h2,DenL.mono k s ds xs h3⟩
 | .dT ks ds,v,h=>by
  simp only[Den]at h ⊢;obtain⟨a,xs,e,f,h1,h2,h3⟩:=h;exact⟨a,xs,e,s a f,k.rd trivial f h1,h2,DenL.mono k s ds xs h3⟩
 | .obj C ks ds,v,h=>by
  simp only[Den]at h ⊢;obtain⟨a,dx,xs,e,f,h1,h2,h3⟩:=h;exact⟨a,dx,xs,e,s a f,k.ins a _ _ _ f h1,h2,DenL.mono k s ds xs h3⟩
theorem DenL.mono (k:Keep Fz H H')(s:∀b,Fz b->Fz' b):∀(ds:List PV)(xs:List V),DenL K Fz H ds xs->DenL K Fz' H' ds xs
 | [],xs,h=>by simpa only[DenL]using h
 | d::ds,xs,h=>by
  simp only[DenL]at h ⊢;obtain⟨v,r,e,h1,h2⟩:=h;exact⟨v,r,e,Den.mono k s d v h1,DenL.mono k s ds r h2⟩
end
theorem Den.root {d:PV}{v:V}(h:Den K Fz H d v):Root K Fz H d v:=by
 cases d with
 | lst ds=>
  simp only[Den]at h;obtain⟨a,xs,e,h1,h2⟩:=h;refine⟨a,xs,e,?_,h2⟩;rcases h1 with ⟨f,h1⟩ | h1
  ·exact .inl h1
  ·exact .inr h1
 | dK ks ds=>
  simp only[Den]at h;obtain⟨a,xs,e,_,h1,h2⟩:=h;exact⟨a,xs,e,h1,h2⟩
 | dT ks ds=>
  simp only[Den]at h;obtain⟨a,xs,e,_,h1,h2⟩:=h;exact⟨a,xs,e,h1,h2⟩
 | non=>exact h
 | bl b=>exact h
 | int i=>exact h
 | str x=>exact h
 | ty n=>exact h
 | tup ds=>exact h
 | obj C ks ds=>exact h
theorem Own.root {d:PV}{a:Addr}(h:Own K Fz H d a):Root K Fz H d (.ref a):=by
 cases d with
 | lst ds=>obtain⟨xs,h1,h2⟩:=h;exact⟨a,xs,rfl,.inl (.inl h1),h2⟩
 | dK ks ds=>obtain⟨xs,h1,h2⟩:=h;exact⟨a,xs,rfl,.inl h1,h2⟩
 | dT ks ds=>obtain⟨xs,h1,h2⟩:=h;exact⟨a,xs,rfl,.inl h1,h2⟩
 | non=>exact h.elim
 | bl b=>exact h.elim
 | int i=>exact h.elim
 | str x=>exact h.elim
 | ty n=>exact h.elim
 | tup ds=>exact h.elim
 | obj C ks ds=>exact h.elim
theorem Own.den {d:PV}{a:Addr}(h:Own K Fz H d a)(f:Fz a):Den K Fz H d (.ref a):=by
 cases d with
 | lst ds=>obtain⟨xs,h1,h2⟩:=h;simp only[Den];exact⟨a,xs,rfl,.inl ⟨f,.inl h1⟩,h2⟩
 | dK ks ds=>obtain⟨xs,h1,h2⟩:=h;simp only[Den];exact⟨a,xs,rfl,f,.inl h1,h2⟩
 | dT ks ds=>obtain⟨xs,h1,h2⟩:=h;simp only[Den];exact⟨a,xs,rfl,f,.inl h1,h2⟩
 | non=>exact h.elim
 | bl b=>exact h.elim
 | int i=>exact h.elim
 | str x=>exact h.elim
 | ty n=>exact h.elim
 | tup ds=>exact h.elim
 | obj C ks ds=>exact h.elim
theorem Own.at {d:PV}{a:Addr}(h:Own K Fz H d a):∃o,H a=some o/\¬ Imm o:=by
 cases d with
 | lst ds=>obtain⟨xs,h1,h2⟩:=h;exact⟨_,h1,λz=>z⟩
 | dK ks ds=>obtain⟨xs,h1,h2⟩:=h;exact⟨_,h1,λz=>z⟩
 | dT ks ds=>obtain⟨xs,h1,h2⟩:=h;exact⟨_,h1,λz=>z⟩
 | non=>exact h.elim
 | bl b=>exact h.elim
 | int i=>exact h.elim
 | str x=>exact h.elim
 | ty n=>exact h.elim
 | tup ds=>exact h.elim
 | obj C ks ds=>exact h.elim
theorem Own.mono {d:PV}{a:Addr}(k:Keep Fz H H')(s:∀b,Fz b->Fz' b)(ha:∀o,H a=some o->H' a=some o)(h:Own K Fz H d a):Own K Fz' H' d a:=by
 cases d with
 | lst ds=>obtain⟨xs,h1,h2⟩:=h;exact⟨xs,ha _ h1,DenL.mono k s _ _ h2⟩
 | dK ks ds=>obtain⟨xs,h1,h2,h3⟩:=h;exact⟨xs,ha _ h1,h2,DenL.mono k s _ _ h3⟩
 | dT ks ds=>obtain⟨xs,h1,h2,h3⟩:=h;exact⟨xs,ha _ h1,h2,DenL.mono k s _ _ h3⟩
 | non=>exact h.elim
 | bl b=>exact h.elim
 | int i=>exact h.elim
 | str x=>exact h.elim
 | ty n=>exact h.elim
 | tup ds=>exact h.elim
 | obj C ks ds=>exact h.elim
theorem Root.mono {d:PV}{v:V}(k:Same H H')(s:∀b,Fz b->Fz' b)(h:Root K Fz H d v):Root K Fz' H' d v:=by
 have rd:∀ {a u},Rd H a u->Rd H' a u:=λ{a u} q=>by
  rcases q with q | ⟨o,q⟩
  ·exact .inl (k _ _ q)
  ·exact .inr ⟨o,k _ _ q⟩
 cases d with
 | lst ds=>obtain⟨a,xs,e,h1,h2⟩:=h;exact⟨a,xs,e,h1.imp rd id,DenL.mono (.of k) s _ _ h2⟩
 | dK ks ds=>obtain⟨a,xs,e,h1,h2,h3⟩:=h;exact⟨a,xs,e,rd h1,h2,DenL.mono (.of k) s _ _ h3⟩
 | dT ks ds=>obtain⟨a,xs,e,h1,h2,h3⟩:=h;exact⟨a,xs,e,rd h1,h2,DenL.mono (.of k) s _ _ h3⟩
 | non=>exact Den.mono (.of k) s _ _ h
 | bl b=>exact Den.mono (.of k) s _ _ h
 | int i=>exact Den.mono (.of k) s _ _ h
 | str x=>exact Den.mono (.of k) s _ _ h
 | ty n=>exact Den.mono (.of k) s _ _ h
 | tup ds=>exact Den.mono (.of k) s _ _ h
 | obj C ks ds=>exact Den.mono (.of k) s _ _ h
theorem DenL.length:∀(ds:List PV)(xs:List V),DenL K Fz H ds xs->ds.length=xs.length
 | [],xs,h=>by simp only[DenL]at h;subst h;rfl
 | d::ds,xs,h=>by
  simp only[DenL]at h;obtain⟨v,r,z,_,h2⟩:=h;subst z;rw[XM,XM,DenL.length ds r h2]
theorem DenL.get:∀ {ds:List PV}{xs:List V}{i:Nat}{d:PV},DenL K Fz H ds xs->ds[i]? = some d->∃v,xs[i]? = some v/\Den K Fz H d v
 | [],xs,i,d,h,e=>by simp at e
 | d0::ds,xs,i,d,h,e=>by
  simp only[DenL]at h;obtain⟨v0,r,z,h1,h2⟩:=h;subst z;cases i with
  | zero=>simp at e;subst e;exact⟨v0,rfl,h1⟩
  | succ i=>
   obtain⟨v,q,h⟩:=DenL.get h2 (i:=i) (d:=d) (by simpa using e);exact⟨v,by simpa using q,h⟩
theorem DenL.nil:DenL K Fz H [] []:=by simp only[DenL]
theorem DenL.cons {d:PV}{v:V}{ds:List PV}{xs:List V}(h1:Den K Fz H d v)(h2:DenL K Fz H ds xs):DenL K Fz H (d::ds) (v::xs):=by
 simp only[DenL];exact⟨v,xs,rfl,h1,h2⟩
theorem DenL.append:∀ {ds es:List PV}{xs ys:List V},DenL K Fz H ds xs->DenL K Fz H es ys->DenL K Fz H (ds++es) (xs++ys)
 | [],es,xs,ys,h,g=>by simp only[DenL]at h;subst h;exact g
 | d::ds,es,xs,ys,h,g=>by
  simp only[DenL]at h;obtain⟨v,r,z,h1,h2⟩:=h;subst z;exact DenL.cons h1 (DenL.append h2 g)
theorem DenL.snoc {ds:List PV}{xs:List V}{d:PV}{v:V}(h:DenL K Fz H ds xs)(g:Den K Fz H d v):DenL K Fz H (ds++[d]) (xs++[v]):=h.append (DenL.cons g DenL.nil)
theorem DenL.split:∀ {ds es:List PV}{xs:List V},DenL K Fz H (ds++es) xs->∃ys zs,xs=ys++zs/\DenL K Fz H ds ys/\DenL K Fz H es zs
 | [],es,xs,h=>⟨[],xs,rfl,DenL.nil,h⟩
 | d::ds,es,xs,h=>by
  rw[YJ]at h;simp only[DenL]at h;obtain⟨v,r,z,h1,h2⟩:=h;subst z;obtain⟨ys,zs,e,g1,g2⟩:=DenL.split h2;exact⟨v::ys,zs,by rw[e];rfl,DenL.cons h1 g1,g2⟩
theorem DenL.take {ds:List PV}{xs:List V}(n:Nat)(h:DenL K Fz H ds xs):DenL K Fz H (ds.take n) (xs.take n):=by
 have hl:=h.length;obtain⟨ys,zs,e,g1,g2⟩:=DenL.split (ds:=ds.take n) (es:=ds.drop n) (by rw[List.take_append_drop];exact h);have h1:=g1.length;subst e;by_cases hn:n<=ds.length
 ·rw[XX,Nat.min_eq_left hn]at h1;rw[List.take_append_of_le_length (by lia),XQ (i:=n) (l:=ys) (by lia)];exact g1
 ·rw[XQ (i:=n) (l:=ds) (by lia),XQ (i:=n) (l:=ys++zs) (by lia)];exact h
theorem DenL.drop {ds:List PV}{xs:List V}(n:Nat)(h:DenL K Fz H ds xs):DenL K Fz H (ds.drop n) (xs.drop n):=by
 have hl:=h.length;obtain⟨ys,zs,e,g1,g2⟩:=DenL.split (ds:=ds.take n) (es:=ds.drop n) (by rw[List.take_append_drop];exact h);have h1:=g1.length;subst e;by_cases hn:n<=ds.length
 ·rw[XX,Nat.min_eq_left hn]at h1;rw[List.drop_append,List.drop_of_length_le (i:=n) (l:=ys) (by lia),show n-ys.length=0 by lia];exact g2
 ·rw[List.drop_of_length_le (i:=n) (l:=ds) (by lia),List.drop_of_length_le (i:=n) (l:=ys++zs) (by lia)];exact DenL.nil
theorem DenL.set:∀ {ds:List PV}{xs:List V}{d:PV}{v:V}(i:Nat),DenL K Fz H ds xs->Den K Fz H d v->DenL K Fz H (ds.set i d) (xs.set i v)
 | [],xs,d,v,i,h,g=>by simp only[DenL]at h;subst h;exact DenL.nil
 | d0::ds,xs,d,v,i,h,g=>by
  simp only[DenL]at h;obtain⟨v0,r,z,h1,h2⟩:=h;subst z;cases i with
  | zero=>exact DenL.cons g h2
  | succ i=>exact DenL.cons h1 (DenL.set i h2 g)
end
noncomputable abbrev PEnv:=List (Option (PV×Bool))
structure Rel (K:Xa)(Fz:FZ)(ρ:PEnv)(σ:St)(H:Hp):Prop where
 al:∀b,Fz b->H b≠none
 len:ρ.length=σ.length
 frz:∀(i:Nat) (d:PV),ρ[i]? = some (some (d,false))->∃v,σ[i]? = some (some v)/\Den K Fz H d v
 own:∀(i:Nat) (d:PV),ρ[i]? = some (some (d,true))->∃a,σ[i]? = some (some (.ref a))/\¬ Fz a/\Own K Fz H d a
 inj:∀(i j:Nat) (d e:PV) (a:Addr),ρ[i]? = some (some (d,true))->ρ[j]? = some (some (e,true))->σ[i]? = some (some (.ref a))->σ[j]? = some (some (.ref a))->i=j
noncomputable def zaM (ρ:PEnv)(σ:St)(a:Addr):Prop:=∃(i:Nat)(d:PV),ρ[i]? = some (some (d,true))/\σ[i]? = some (some (.ref a))
structure Ext (Fz:FZ)(H:Hp)(Fz':FZ)(H':Hp):Prop where
 same:Same H H'
 sub:∀b,Fz b->Fz' b
 new:∀b,Fz' b->Fz b\/H b=none
 al:∀b,Fz' b->H' b≠none
theorem Ext.trans {F1 F2 F3:FZ}{H1 H2 H3:Hp}(a:Ext F1 H1 F2 H2)(b:Ext F2 H2 F3 H3):Ext F1 H1 F3 H3:=
 ⟨a.same.trans b.same,λc h=>b.sub c (a.sub c h),λc h=>by
  rcases b.new c h with h | h
  ·exact a.new c h
  ·exact .inr (a.same.free h),b.al⟩
theorem Ext.add {Fz Fz':FZ}{H H':Hp}{a:Addr}(x:Ext Fz H Fz' H')(h:H a=none)(h':H' a≠none):Ext Fz H (λb=>Fz' b\/b=a) H':=
 ⟨x.same,λb h=>.inl (x.sub b h),λb hb=>by
  rcases hb with hb | rfl
  ·exact x.new b hb
  ·exact .inr h,λb hb=>by
  rcases hb with hb | rfl
  ·exact x.al b hb
  ·exact h'⟩
theorem Ext.laid {Fz Fz':FZ}{H H':Hp}{p:Addr}{o:HO}(x:Ext Fz H Fz' H')(h:H' p=none):Ext Fz H Fz' (upd H' p o):=
 ⟨x.same.trans (λb u e=>by rw[zai (zay e h)];exact e),x.sub,x.new,λb hb=>by
  by_cases e:b=p
  ·subst e;rw[zak];exact λz=>nomatch z
  ·rw[zai e];exact x.al b hb⟩
theorem Rel.ext {K:Xa}{Fz Fz':FZ}{ρ:PEnv}{σ:St}{H H':Hp}(R:Rel K Fz ρ σ H)(x:Ext Fz H Fz' H'):Rel K Fz' ρ σ H' where
 al:=x.al
 len:=R.len
 frz i d h:=by
  obtain⟨v,e,q⟩:=R.frz i d h;exact⟨v,e,Den.mono (.of x.same) x.sub d v q⟩
 own i d h:=by
  obtain⟨a,e,n,q⟩:=R.own i d h;refine⟨a,e,λz=>?_,q.mono (.of x.same) x.sub (λo h=>x.same _ _ h)⟩;rcases x.new a z with z | z
  ·exact n z
  ·obtain⟨o,h,_⟩:=q.at;rw[h]at z;cases z
 inj:=R.inj
inductive Kd where
 | frz | new | own (i:Nat)
noncomputable def Opd (K:Xa)(Fz':FZ)(H':Hp)(ρ:PEnv)(σ:St)(H:Hp)(d:PV):Kd->V->Prop
 | .frz,v=>Den K Fz' H' d v
 | .new,v=>∃a,v=.ref a/\H a=none/\¬ Fz' a/\Own K Fz' H' d a
 | .own i,v=>ρ[i]? = some (some (d,true))/\σ[i]? = some (some v)
structure Post (K:Xa)(ρ:PEnv)(σ:St)(Fz:FZ)(H:Hp)(Fz':FZ)(H':Hp)(d:PV)(k:Kd)(v:V):Prop where
 ext:Ext Fz H Fz' H'
 opd:Opd K Fz' H' ρ σ H d k v
theorem Post.root {K:Xa}{ρ:PEnv}{σ:St}{Fz Fz':FZ}{H H':Hp}{d:PV}{k:Kd}{v:V}(R:Rel K Fz ρ σ H)(p:Post K ρ σ Fz H Fz' H' d k v):Root K Fz' H' d v:=by
 cases k with
 | frz=>exact Den.root p.opd
 | new=>obtain⟨a,e,_,_,h⟩:=p.opd;subst e;exact h.root
 | own i=>
  obtain⟨h1,h2⟩:=p.opd;obtain⟨a,e,_,q⟩:=(R.ext p.ext).own i d h1;rw[h2]at e;cases e;exact q.root
theorem Post.frozen {K:Xa}{ρ:PEnv}{σ:St}{Fz Fz':FZ}{H H':Hp}{d:PV}{k:Kd}{v:V}(hk:k=.frz\/k=.new)(p:Post K ρ σ Fz H Fz' H' d k v) :
  ∃Fz2,Ext Fz H Fz2 H'/\(∀b,Fz' b->Fz2 b)/\Den K Fz2 H' d v:=by
 rcases hk with rfl | rfl
 ·exact⟨Fz',p.ext,λ_ h=>h,p.opd⟩
 ·obtain⟨a,e,hn,_,h⟩:=p.opd;subst e;exact⟨λb=>Fz' b\/b=a,p.ext.add hn (by obtain⟨o,e,_⟩:=h.at;rw[e];exact λz=>nomatch z),λ_ h=>.inl h,(h.mono (Fz':=λb=>Fz' b\/b=a) (Keep.of (Same.refl _)) (λ_ h=>.inl h) (λ_ h=>h)).den (.inr rfl)⟩
noncomputable abbrev TPE:=PEnv->(PV->Kd->Prop)->Prop
noncomputable abbrev TPT:=PEnv->(Bool->Prop)->Prop
noncomputable abbrev TPA:=PEnv->(List (PV×Kd)->Prop)->Prop
noncomputable def lift (K:Xa)(t:TPE):TE:=λσ H Q=>∃ρ Fz,Rel K Fz ρ σ H/\t ρ λd k=>∀v Fz' H',Post K ρ σ Fz H Fz' H' d k v->Q v H'
noncomputable def liftT (K:Xa)(t:TPT):TT:=λσ H Q=>∃ρ Fz,Rel K Fz ρ σ H/\t ρ λb=>∀Fz' H',Ext Fz H Fz' H'->Q b H'
structure PuE (X:Cx)(e:Expr)(t:TPE):Prop where
 mono:∀ρ Q Q',(∀d k,Q d k->Q' d k)->t ρ Q->t ρ Q'
 run:PE X e (lift X.K t)
structure PuT (X:Cx)(e:Expr)(t:TPT):Prop where
 mono:∀ρ Q Q',(∀b,Q b->Q' b)->t ρ Q->t ρ Q'
 run:PT X e (liftT X.K t)
theorem PE.weak {X:Cx}{e:Expr}{t t':TE}(h:PE X e t)(w:∀σ H Q,t' σ H Q->t σ H Q):PE X e t':=λpins s σ H Q I q=>h pins s σ H Q I (w σ H Q q)
theorem PT.weak {X:Cx}{e:Expr}{t t':TT}(h:PT X e t)(w:∀σ H Q,t' σ H Q->t σ H Q):PT X e t':=λpins s σ H Q I q=>h pins s σ H Q I (w σ H Q q)
theorem zrd {X:Cx}{a b:Expr}{ta tb:TPE}(ha:PuE X a ta)(hb:PuE X b tb){σ:St}{H:Hp}{R:V->V->Hp->Prop}
  (ρ:PEnv) (Fz:FZ) (Re:Rel X.K Fz ρ σ H)
  (h:ta ρ λd kd=>tb ρ λe ke=>∀x y Fz1 H1 Fz2 H2,Post X.K ρ σ Fz H Fz1 H1 d kd x->Post X.K ρ σ Fz1 H1 Fz2 H2 e ke y->R x y H2) :
  lift X.K ta σ H λx H1=>lift X.K tb σ H1 λy H2=>R x y H2:=
 ⟨ρ,Fz,Re,ha.mono ρ _ _ (λd kd q v Fz1 H1 p1=>⟨ρ,Fz1,Re.ext p1.ext,hb.mono ρ _ _ (λe ke q w Fz2 H2 p2=>q v w Fz1 H1 Fz2 H2 p1 p2) q⟩) h⟩
end PL
namespace PL
open PySem PySem.Spec L2
open PyProof.Rows hiding St
section
variable {K:Xa}{ρ:PEnv}{σ:St}{Fz Fz1 Fz2:FZ}{H H1 H2:Hp}{d:PV}{k:Kd}{v:V}
theorem Opd.ext (x:Ext Fz1 H1 Fz2 H2)(h:Opd K Fz1 H1 ρ σ H d k v):Opd K Fz2 H2 ρ σ H d k v:=by
 cases k with
 | frz=>exact Den.mono (.of x.same) x.sub _ _ h
 | new=>
  obtain⟨a,e,hn,nf,o⟩:=h;refine⟨a,e,hn,λz=>?_,o.mono (.of x.same) x.sub (λo h=>x.same _ _ h)⟩;rcases x.new a z with z | z
  ·exact nf z
  ·obtain⟨o',h,_⟩:=o.at;rw[h]at z;cases z
 | own i=>exact h
theorem Opd.back (s:Same H H1)(h:Opd K Fz2 H2 ρ σ H1 d k v):Opd K Fz2 H2 ρ σ H d k v:=by
 cases k with
 | frz=>exact h
 | new=>obtain⟨a,e,hn,r⟩:=h;exact⟨a,e,s.free hn,r⟩
 | own i=>exact h
theorem Opd.up (h:Opd K Fz2 H2 [] [] H d k v):Opd K Fz2 H2 ρ σ H d k v:=by
 cases k with
 | frz=>exact h
 | new=>exact h
 | own i=>obtain⟨z,_⟩:=h;simp at z
theorem Post.behind (x:Ext Fz H Fz1 H1)(p:Post K [] [] Fz1 H1 Fz2 H2 d k v):Post K ρ σ Fz H Fz2 H2 d k v:=
 ⟨x.trans p.ext,(p.opd.up (ρ:=ρ) (σ:=σ)).back x.same⟩
theorem Post.then(x:Ext Fz H Fz1 H1)(p:Post K ρ σ Fz1 H1 Fz2 H2 d k v):Post K ρ σ Fz H Fz2 H2 d k v:=
 ⟨x.trans p.ext,p.opd.back x.same⟩
theorem Post.val (al:∀b,Fz b->H b≠none)(h:Den K Fz H d v):Post K ρ σ Fz H Fz H d .frz v:=⟨⟨Same.refl H,λ_ h=>h,λ_ h=>.inl h,al⟩,h⟩
end
noncomputable def pVar (i:Nat):TPE:=λρ Q=>match ρ[i]? with
 | some (some (d,b))=>Q d (if b then .own i else .frz)
 | _=>False
theorem zgg {i:Nat}{ρ:PEnv}{Q:PV->Kd->Prop}:pVar i ρ Q↔∃d b,ρ[i]? = some (some (d,b))/\Q d (if b then .own i else .frz):=by
 unfold pVar;cases h:ρ[i]? with
 | none=>simp
 | some x=>
  cases x with
  | none=>simp
  | some p=>
   obtain⟨d,b⟩:=p;constructor
   ·exact λq=>⟨d,b,rfl,q⟩
   ·rintro⟨d',b',e,q⟩;cases e;exact q
noncomputable def pC (d:PV):TPE:=λ_ Q=>Q d .frz
section
variable {X:Cx}
theorem zaa (i:Nat){x:Str}{pos:Pos}(hN:autoParam (X.N[i]? = some x) aU0)(hv:autoParam (Vis X.env.scope x) aU2)(hd:autoParam ((x == ("__debug__" : Str))=false) aU1)
  (hcd:autoParam ((x == ("__classdict__" : Str))=false) aU1):PuE X (.Name x pos) (pVar i) where
 mono ρ Q Q' m h:=by obtain⟨d,b,e,q⟩:=zgg.mp h;exact zgg.mpr ⟨d,b,e,m _ _ q⟩
 run:=PE.weak (zbb hN hv hd hcd) λσ H Q h=>by
  obtain⟨ρ,Fz,R,h⟩:=h;obtain⟨d,b,e,q⟩:=zgg.mp h;cases b with
  | false=>
   obtain⟨v,e1,h1⟩:=R.frz i d e;exact⟨v,e1,q v Fz H (.val R.al h1)⟩
  | true=>
   obtain⟨a,e1,_,_⟩:=R.own i d e;exact⟨_,e1,q _ Fz H ⟨⟨Same.refl H,λ_ h=>h,λ_ h=>.inl h,R.al⟩,e,e1⟩⟩
theorem zdJ {e:Expr}{d:PV}{v:V}(h:PE X e (tC v))(hd:∀Fz H,Den X.K Fz H d v):PuE X e (pC d) where
 mono ρ Q Q' m h:=m _ _ h
 run:=PE.weak h λσ H Q h=>by
  obtain⟨ρ,Fz,R,q⟩:=h;exact q v Fz H (.val R.al (hd Fz H))
theorem zaf {i j pos}:PuE X (.Constant (.int i) j pos) (pC (.int i)):=zdJ zgJ λ_ _=>by simp only[Den]
theorem zgh {b j pos}:PuE X (.Constant (.bool b) j pos) (pC (.bl b)):=zdJ zpa λ_ _=>by simp only[Den]
theorem zha {j pos}:PuE X (.Constant .none j pos) (pC .non):=zdJ znf λ_ _=>by simp only[Den]
theorem zpK {x j pos}:PuE X (.Constant (.str x) j pos) (pC (.str x)):=zdJ zpb λ_ _=>by simp only[Den]
theorem zmr {x:Str}{T:String}{pos:Pos}(hg:Gl X x)(hm:X.mg x=none)(hv:bootBuiltins x=some (.type T))(hn:autoParam (x≠"__name__") aU1) (hd:autoParam ((x == ("__debug__" : Str))=false) aU1):PuE X (.Name x pos) (pC (.ty T)):=
 zdJ (znH (v:=.ty T) hg hm hv rfl hn hd) λ_ _=>by simp only[Den]
end
noncomputable abbrev P2:=PV->PV->(PV->Kd->Prop)->Prop
structure POp (K:Xa)(r:R2)(p:P2):Prop where
 mono:∀d e Q Q',(∀z k,Q z k->Q' z k)->p d e Q->p d e Q'
 run:∀Fz H x y d e Q,(∀b,Fz b->H b≠none)->Root K Fz H d x->Root K Fz H e y->p d e (λz k=>∀v Fz' H',Post K [] [] Fz H Fz' H' z k v->Q v H')->r x y H Q
noncomputable def t2 (p:P2)(ta tb:TPE):TPE:=λρ Q=>ta ρ λd _=>tb ρ λe _=>p d e Q
section
variable {X:Cx}{a b:Expr}{ta tb:TPE}{pos:Pos}{r:R2}{p:P2}
theorem zeX (hp:POp X.K r p)(ha:PuE X a ta)(hb:PuE X b tb):∀ρ Q Q',(∀d k,Q d k->Q' d k)->t2 p ta tb ρ Q->t2 p ta tb ρ Q':=
 λρ Q Q' m h=>ha.mono ρ _ _ (λd _ h=>hb.mono ρ _ _ (λe _ h=>hp.mono d e _ _ m h) h) h
theorem ziD (hp:POp X.K r p)(ha:PuE X a ta)(hb:PuE X b tb){σ:St}{H:Hp}{Q:VK}(h:lift X.K (t2 p ta tb) σ H Q):tOp r (lift X.K ta) (lift X.K tb) σ H Q:=by
 obtain⟨ρ,Fz,R,h⟩:=h;refine zrd ha hb ρ Fz R (ha.mono ρ _ _ (λd kd h=>hb.mono ρ _ _ (λe ke h=>?_) h) h);intro x y Fz1 H1 Fz2 H2 p1 p2;have R1:=R.ext p1.ext;refine hp.run Fz2 H2 x y d e Q p2.ext.al ((p1.root R).mono p2.ext.same p2.ext.sub) (p2.root R1) (hp.mono d e _ _ (λz k q v Fz' H' p3=>?_) h);exact q v Fz' H' (p3.behind (p1.ext.trans p2.ext))
theorem zhU {op:Operator}(ho:OpR X (binaryOp op) r)(hp:POp X.K r p)(ha:PuE X a ta)(hb:PuE X b tb):PuE X (.BinOp a op b pos) (t2 p ta tb):=
 ⟨zeX hp ha hb,PE.weak (zqP ho ha.run hb.run) λ_ _ _ h=>ziD hp ha hb h⟩
theorem znm {op:CmpOp}(ho:OpR X (compareOp op) r)(hp:POp X.K r p)(ha:PuE X a ta)(hb:PuE X b tb)(hm:autoParam (behindInMarks op b=false) aU4):PuE X (.Compare a [op] [b] pos) (t2 p ta tb):=
 ⟨zeX hp ha hb,PE.weak (znQ ho ha.run hb.run hm) λ_ _ _ h=>ziD hp ha hb h⟩
noncomputable def blP (d:PV)(Q:Bool->Prop):Prop:=match d with
 | .bl b=>Q b
 | _=>False
theorem zhV {d:PV}{Q:Bool->Prop}:blP d Q↔∃b,d=.bl b/\Q b:=by
 unfold blP;constructor
 ·intro h;cases d<;>first | exact⟨_,rfl,h⟩ | exact h.elim
 ·rintro⟨b,rfl,q⟩;exact q
theorem zms {d:PV}{Q Q':Bool->Prop}(m:∀b,Q b->Q' b)(h:blP d Q):blP d Q':=by
 obtain⟨b,e,q⟩:=zhV.mp h;exact zhV.mpr ⟨b,e,m b q⟩
noncomputable def tBl (te:TPE):TPT:=λρ Q=>te ρ λd _=>blP d Q
theorem zcK {op:CmpOp}(ho:OpR X (compareOp op) r)(hp:POp X.K r p)(ha:PuE X a ta)(hb:PuE X b tb)(hm:autoParam (behindInMarks op b=false) aU4):PuT X (.Compare a [op] [b] pos) (tBl (t2 p ta tb)) where
 mono ρ Q Q' m h:=zeX hp ha hb ρ _ _ (λd _ q=>zms m q) h
 run:=PT.weak (znR ho ha.run hb.run hm) λσ H Q h=>by
  obtain⟨ρ,Fz,R,h⟩:=h;refine ziD hp ha hb ⟨ρ,Fz,R,zeX hp ha hb ρ _ _ (λd k q v Fz' H' p=>?_) h⟩;obtain⟨b,e,q⟩:=zhV.mp q;refine⟨b,?_,q Fz' H' p.ext⟩;subst e;have w:=p.root R;simpa only[Root,Den]using w
theorem zre (ho:IxR X r)(hp:POp X.K r p)(ha:PuE X a ta)(hb:PuE X b tb)(hs:autoParam (zdp b) aU6):PuE X (.Subscript a b pos) (t2 p ta tb):=
 ⟨zeX hp ha hb,PE.weak (zks ho ha.run hb.run hs) λ_ _ _ h=>ziD hp ha hb h⟩
end
noncomputable def i2 (C:Int->Int->Prop)(g:Int->Int->PV):P2:=λd e Q=>∃i j,d=.int i/\e=.int j/\C i j/\Q (g i j) .frz
noncomputable def i0 (g:Int->Int->PV):P2:=λd e Q=>∃i j,d=.int i/\e=.int j/\Q (g i j) .frz
section
variable {K:Xa}
theorem ziE {C:Int->Int->Prop}{g:Int->Int->Int}:POp K (rI C λi j=>.int (g i j)) (i2 C λi j=>.int (g i j)) where
 mono d e Q Q' m h:=by obtain⟨i,j,e1,e2,c,q⟩:=h;exact⟨i,j,e1,e2,c,m _ _ q⟩
 run Fz H x y d e Q al rx ry h:=by
  obtain⟨i,j,rfl,rfl,c,q⟩:=h;simp only[Root,Den]at rx ry;exact⟨i,j,rx,ry,c,q _ Fz H (.val al (by simp only[Den]))⟩
theorem zkN {g:Int->Int->Int}:POp K (rI0 λi j=>.int (g i j)) (i0 λi j=>.int (g i j)) where
 mono d e Q Q' m h:=by obtain⟨i,j,e1,e2,q⟩:=h;exact⟨i,j,e1,e2,m _ _ q⟩
 run Fz H x y d e Q al rx ry h:=by
  obtain⟨i,j,rfl,rfl,q⟩:=h;simp only[Root,Den]at rx ry;exact⟨i,j,rx,ry,q _ Fz H (.val al (by simp only[Den]))⟩
theorem ziF {g:Int->Int->Bool}:POp K (rI0 λi j=>.bl (g i j)) (i0 λi j=>.bl (g i j)) where
 mono d e Q Q' m h:=by obtain⟨i,j,e1,e2,q⟩:=h;exact⟨i,j,e1,e2,m _ _ q⟩
 run Fz H x y d e Q al rx ry h:=by
  obtain⟨i,j,rfl,rfl,q⟩:=h;simp only[Root,Den]at rx ry;exact⟨i,j,rx,ry,q _ Fz H (.val al (by simp only[Den]))⟩
end
section
variable {X:Cx}{a b:Expr}{ta tb:TPE}{pos:Pos}
noncomputable abbrev pAdd:=t2 (i0 λi j=>.int (i+j))
noncomputable abbrev pSub:=t2 (i0 λi j=>.int (i-j))
noncomputable abbrev pMul:=t2 (i2 CMul λi j=>.int (i*j))
noncomputable abbrev pMod:=t2 (i2 (λ_ j=>0<j) λi j=>.int (i % j))
noncomputable abbrev pDiv:=t2 (i2 CDiv λi j=>.int (i / j))
noncomputable abbrev pPow:=t2 (i2 CPow λi j=>.int (i ^ j.toNat))
noncomputable abbrev pLt:=t2 (i0 λi j=>.bl (decide (i<j)))
noncomputable abbrev pGt:=t2 (i0 λi j=>.bl (decide (j<i)))
theorem zbq (ha:PuE X a ta)(hb:PuE X b tb):PuE X (.BinOp a .Add b pos) (pAdd ta tb):=zhU zpn zkN ha hb
theorem znn (ha:PuE X a ta)(hb:PuE X b tb):PuE X (.BinOp a .Sub b pos) (pSub ta tb):=zhU zpo zkN ha hb
theorem zcF (ha:PuE X a ta)(hb:PuE X b tb):PuE X (.BinOp a .Mult b pos) (pMul ta tb):=zhU zpp ziE ha hb
theorem zaZ (ha:PuE X a ta)(hb:PuE X b tb):PuE X (.BinOp a .Mod b pos) (pMod ta tb):=zhU zpq ziE ha hb
theorem zeA (ha:PuE X a ta)(hb:PuE X b tb):PuE X (.BinOp a .FloorDiv b pos) (pDiv ta tb):=zhU znO ziE ha hb
theorem zkO (ha:PuE X a ta)(hb:PuE X b tb):PuE X (.BinOp a .Pow b pos) (pPow ta tb):=zhU zpr ziE ha hb
end
noncomputable def plain:Nat->PV->Bool
 | _,.non=>true
 | _,.int _=>true
 | _,.str _=>true
 | n+1,.tup ds=>ds.all (plain n)
 | n+1,.lst ds=>ds.all (plain n)
 | _,_=>false
theorem zbJ {K:Xa}{Fz:FZ}{H:Hp}{x:V}(h:Root K Fz H .non x):x=.non:=by simpa only[Root,Den]using h
theorem zas {K:Xa}{Fz:FZ}{H:Hp}{x:V}{i:Int}(h:Root K Fz H (.int i) x):x=.int i:=by simpa only[Root,Den]using h
theorem zeY {K:Xa}{Fz:FZ}{H:Hp}{x:V}{i:Bool}(h:Root K Fz H (.bl i) x):x=.bl i:=by simpa only[Root,Den]using h
theorem zaW {K:Xa}{Fz:FZ}{H:Hp}{x:V}{i:Str}(h:Root K Fz H (.str i) x):x=.str i:=by simpa only[Root,Den]using h
theorem zaL {K:Xa}{Fz:FZ}{H:Hp}{x:V}{ds:List PV}(h:Root K Fz H (.tup ds) x):∃a xs,x=.ref a/\SqT K H a xs/\DenL K Fz H ds xs:=by
 simp only[Root,Den]at h;obtain⟨a,xs,e,h1,h2⟩:=h;exact⟨a,xs,e,SqT.of h1,h2⟩
theorem zeZ {K:Xa}{Fz:FZ}{H:Hp}{x:V}{ds:List PV}(h:Root K Fz H (.tup ds) x):∃a xs,x=.ref a/\H a=some (.tup xs)/\DenL K Fz H ds xs:=by simpa only[Root,Den]using h
theorem zaq {K:Xa}{Fz:FZ}{H:Hp}{x:V}{ds:List PV}(h:Root K Fz H (.lst ds) x):∃a xs,x=.ref a/\SqL K H a xs/\DenL K Fz H ds xs:=by
 simp only[Root]at h;obtain⟨a,xs,e,h1,h2⟩:=h;exact⟨a,xs,e,h1.elim (λh=>.inl h) KX.sq,h2⟩
theorem zhb {K:Xa}{Fz:FZ}{H:Hp}{x:V}{ds:List PV}(h:Root K Fz H (.lst ds) x):∃a xs,x=.ref a/\(Rd H a (.lst xs)\/KX K a xs)/\DenL K Fz H ds xs:=by simpa only[Root]using h
theorem df {p:Prop} [Decidable p] (h:¬ p){Y:Bool->Prop}(y:Y false):Y (decide p):=by rw[decide_eq_false h];exact y
theorem dn {p:Prop} [Decidable p] (h:¬ p){Y:Bool->Prop}(y:Y true):Y (!decide p):=by rw[decide_eq_false h];exact y
section
variable {X:Cx}{pins:List (Addr×Obj)}{σ:St}{H:Hp}{s:Shared}{Fz Fz':FZ}
theorem zdK (I:Inv X pins σ H s){a:Addr}{xs ys:List V}(h1:SqL X.K H a xs)(h2:SqT X.K H a ys):False:=by
 obtain⟨its,r,p,_⟩:=I.list h1;obtain⟨its2,r2,p2,_⟩:=I.tuple h2;exact SeqAt.ne_of_list_tuple p.isList (show s.heap.IsTuple a its2.toArray from p2) rfl
theorem zgi (I:Inv X pins σ H s):∀(n:Nat)(d e:PV)(x:V),plain n d=true->plain n e=true->Root X.K Fz H d x->Root X.K Fz' H e x->d=e:=by
 intro n;induction n with
 | zero=>
  intro d e x pd pe h g;cases d<;>first
   | (simp only[plain]at pd;exact absurd pd (by decide))
   | (cases e<;>first
     | (simp only[plain]at pe;exact absurd pe (by decide))
     | (simp only[Root,Den]at h g;subst h;first | (cases g;rfl) | cases g))
 | succ n ih=>
  have all:∀(ds es:List PV) (xs:List V),ds.all (plain n)=true->es.all (plain n)=true->DenL X.K Fz H ds xs->DenL X.K Fz' H es xs->ds=es:=by
   intro ds;induction ds with
   | nil=>
    intro es xs _ _ h g;simp only[DenL]at h;subst h;cases es with
    | nil=>rfl
    | cons e es=>simp only[DenL]at g;obtain⟨_,_,z,_⟩:=g;cases z
   | cons d ds ihd=>
    intro es xs pd pe h g;simp only[DenL]at h;obtain⟨v,r,z,h1,h2⟩:=h;subst z;cases es with
    | nil=>simp only[DenL]at g;cases g
    | cons e es=>
     simp only[DenL]at g;obtain⟨v',r',z,g1,g2⟩:=g;cases z;rw[List.all_cons,Yp]at pd pe;rw[ih d e v pd.1 pe.1 h1.root g1.root,ihd es r pd.2 pe.2 h2 g2]
  intro d e x pd pe h g;cases d with
  | tup ds=>
   simp only[plain]at pd;simp only[Root,Den]at h;obtain⟨a,xs,rfl,h1,h2⟩:=h;cases e with
   | tup es=>
    simp only[plain]at pe;simp only[Root,Den]at g;obtain⟨b,ys,z,g1,g2⟩:=g;cases z;have e1:=I.zgK (SqT.of h1) (SqT.of g1);subst e1;rw[all ds es xs pd pe h2 g2]
   | lst es=>
    obtain⟨b,ys,z,g1,g2⟩:=zaq g;cases z;exact(zdK I g1 (SqT.of h1)).elim
   | non=>simp only[Root,Den]at g;cases g
   | int i=>simp only[Root,Den]at g;cases g
   | str i=>simp only[Root,Den]at g;cases g
   | bl _=>simp only[plain]at pe;exact absurd pe (by decide)
   | ty _=>simp only[plain]at pe;exact absurd pe (by decide)
   | dK _ _=>simp only[plain]at pe;exact absurd pe (by decide)
   | dT _ _=>simp only[plain]at pe;exact absurd pe (by decide)
   | obj _ _ _=>simp only[plain]at pe;exact absurd pe (by decide)
  | lst ds=>
   simp only[plain]at pd;obtain⟨a,xs,rfl,h1,h2⟩:=zaq h;cases e with
   | lst es=>
    simp only[plain]at pe;obtain⟨b,ys,z,g1,g2⟩:=zaq g;cases z;have e1:=I.zdz h1 g1;subst e1;rw[all ds es xs pd pe h2 g2]
   | tup es=>
    simp only[Root,Den]at g;obtain⟨b,ys,z,g1,g2⟩:=g;cases z;exact(zdK I h1 (SqT.of g1)).elim
   | non=>simp only[Root,Den]at g;cases g
   | int i=>simp only[Root,Den]at g;cases g
   | str i=>simp only[Root,Den]at g;cases g
   | bl _=>simp only[plain]at pe;exact absurd pe (by decide)
   | ty _=>simp only[plain]at pe;exact absurd pe (by decide)
   | dK _ _=>simp only[plain]at pe;exact absurd pe (by decide)
   | dT _ _=>simp only[plain]at pe;exact absurd pe (by decide)
   | obj _ _ _=>simp only[plain]at pe;exact absurd pe (by decide)
  | bl _=>simp only[plain]at pd;exact absurd pd (by decide)
  | ty _=>simp only[plain]at pd;exact absurd pd (by decide)
  | dK _ _=>simp only[plain]at pd;exact absurd pd (by decide)
  | dT _ _=>simp only[plain]at pd;exact absurd pd (by decide)
  | obj _ _ _=>simp only[plain]at pd;exact absurd pd (by decide)
  | non=>
   have h':=zbJ h;subst h';cases e with
   | non=>rfl
   | int i=>exact nomatch zas g
   | str i=>exact nomatch zaW g
   | tup ds=>obtain⟨_,_,z,_⟩:=zaL g;exact nomatch z
   | lst ds=>obtain⟨_,_,z,_⟩:=zaq g;exact nomatch z
   | _=>simp only[plain]at pe;exact absurd pe (by decide)
  | int i=>
   have h':=zas h;subst h';cases e with
   | non=>exact nomatch zbJ g
   | int j=>have:=zas g;injection this with this;rw[this]
   | str i=>exact nomatch zaW g
   | tup ds=>obtain⟨_,_,z,_⟩:=zaL g;exact nomatch z
   | lst ds=>obtain⟨_,_,z,_⟩:=zaq g;exact nomatch z
   | _=>simp only[plain]at pe;exact absurd pe (by decide)
  | str i=>
   have h':=zaW h;subst h';cases e with
   | non=>exact nomatch zbJ g
   | int j=>exact nomatch zas g
   | str j=>have:=zaW g;injection this with this;rw[this]
   | tup ds=>obtain⟨_,_,z,_⟩:=zaL g;exact nomatch z
   | lst ds=>obtain⟨_,_,z,_⟩:=zaq g;exact nomatch z
   | _=>simp only[plain]at pe;exact absurd pe (by decide)
theorem zkP {ds es:List PV}{n:Nat}(hn:n=min ds.length es.length):((Xp n).all λj=>decide (ds[j]? = es[j]?))=true↔∀j,j<ds.length->j<es.length->ds[j]? = es[j]?:=by
 rw[XY];constructor
 ·intro h j h1 h2;exact of_decide_eq_true (h j (Yl.mpr (by lia)))
 ·intro h j hj;have:=Yl.mp hj;exact decide_eq_true (h j (by lia) (by lia))
theorem zhc {ds es:List PV}(hl:ds.length=es.length):(∀j,j<ds.length->j<es.length->ds[j]? = es[j]?)↔ds=es:=by
 constructor
 ·intro h;apply List.ext_getElem?;intro j;by_cases hj:j<ds.length
  ·exact h j hj (by lia)
  ·rw[XA (by lia),XA (by lia)]
 ·rintro rfl _ _ _;rfl
theorem zfa (ds es:List PV):((Xp (min ds.length es.length)).all (λj=>decide (ds[j]? = es[j]?))&&ds.length == es.length)=decide (ds=es):=by
 by_cases hlen:ds.length=es.length
 ·have hb':(ds.length == es.length)=true:=by simp;lia
  rw[hb',Bool.and_true];by_cases h:ds=es
  ·rw[(zkP rfl).mpr ((zhc hlen).mpr h),decide_eq_true h]
  ·rw[decide_eq_false h];cases hq:(Xp (min ds.length es.length)).all (λj=>decide (ds[j]? = es[j]?))with
   | false=>rfl
   | true=>exact absurd ((zhc hlen).mp ((zkP rfl).mp hq)) h
 ·have hb':(ds.length == es.length)=false:=by rw[beq_eq_false_iff_ne];exact hlen
  rw[hb',Bool.and_false,decide_eq_false (λz=>hlen (by rw[z]))]
theorem zhW {ds es:List PV}(hlen:ds.length=es.length):((Xp ds.length).all (λj=>decide (ds[j]? = es[j]?)))=decide (ds=es):=by
 have q:=zfa ds es;rw[hlen,Nat.min_self]at q;rw[hlen];simpa using q
theorem ziG {i j:Int}:decide (PV.int i=PV.int j)=(i == j):=by
 rw[Bool.eq_iff_iff];simp
theorem ziH {i j:Str}:decide (PV.str i=PV.str j)=(i == j):=by
 rw[Bool.eq_iff_iff];simp
theorem zmt {i j:List PV}:decide (PV.tup i=PV.tup j)=decide (i=j):=by
 rw[Bool.eq_iff_iff];simp
theorem zmu {i j:List PV}:decide (PV.lst i=PV.lst j)=decide (i=j):=by
 rw[Bool.eq_iff_iff];simp
theorem ziI {A:Around}{n:Nat}{ds es:List PV}{xs ys:List V}{its its2:List Value}(I:Inv X pins σ H s)(r1:Vals xs its)(r2:Vals ys its2)(h1:DenL X.K Fz H ds xs)(h2:DenL X.K Fz' H es ys)(pd:ds.all (plain n)=true)(pe:es.all (plain n)=true)
  (ih:∀(d e:PV) (x y:V) (u v:Value),plain n d=true->plain n e=true->Den X.K Fz H d x->Den X.K Fz' H e y->RelV x u->RelV y v->SeqAt.EqAt A s u v (decide (d=e))) :
  ∀j (h1:j<its.toArray.size) (h2:j<its2.toArray.size),SeqAt.EqAt A s its.toArray[j] its2.toArray[j] (decide (ds[j]? = es[j]?)):=λj h1' h2'=>by
 have l1:=r1.length;have l2:=r2.length;have l3:=h1.length;have l4:=h2.length;rw[Xj]at h1' h2';have e1:ds[j]? = some ds[j]:=Xl (by lia);have e2:es[j]? = some es[j]:=Xl (by lia);obtain⟨x,e3,q3⟩:=h1.get e1;obtain⟨y,e4,q4⟩:=h2.get e2;obtain⟨u1,q1,r1'⟩:=r1.get e3;obtain⟨u2,q2,r2'⟩:=r2.get e4;have f1:its.toArray[j]=u1:=by
  have:its[j]? = some its[j]:=Xl h1';rw[q1]at this;simpa using (Option.some.inj this).symm
 have f2:its2.toArray[j]=u2:=by
  have:its2[j]? = some its2[j]:=Xl h2';rw[q2]at this;simpa using (Option.some.inj this).symm
 rw[f1,f2];have w:decide (ds[j]=es[j])=decide (ds[j]? = es[j]?):=by
  rw[e1,e2];by_cases h:ds[j]=es[j]
  ·rw[decide_eq_true h,decide_eq_true (by rw[h])]
  ·rw[decide_eq_false h,decide_eq_false (λz=>h (Option.some.inj z))]
 rw[<- w];exact ih _ _ _ _ _ _ (XY.mp pd _ (Yq _)) (XY.mp pe _ (Yq _)) q3 q4 r1' r2'
inductive Leaf:PV->Value->Prop
 | non:Leaf .non .none
 | int (i:Int) (t:Tok):Leaf (.int i) (.int i t)
 | str (i:Str) (t:Tok):Leaf (.str i) (.str i t)
theorem zkQ {K:Xa}{Fz:FZ}{H:Hp}{d:PV}{x:V}{u:Value}(hp:plain 0 d=true)(hx:Root K Fz H d x)(rx:RelV x u):Leaf d u:=by
 cases d with
 | non=>rw[zbJ hx]at rx;cases rx;exact .non
 | int i=>rw[zas hx]at rx;obtain⟨t,rfl⟩:=rx;exact .int i t
 | str i=>rw[zaW hx]at rx;obtain⟨t,rfl⟩:=rx;exact .str i t
 | _=>simp only[plain]at hp;exact absurd hp (by decide)
theorem zok {A:Around}{s:Shared}{d e:PV}{u v:Value}(h1:Leaf d u)(h2:Leaf e v):SeqAt.RcAt A s u v (decide (d=e))/\SeqAt.RcNeAt A s u v (!decide (d=e))/\SeqAt.EqAt A s u v (decide (d=e)):=by
 have no:∀ {d e:PV} {u v:Value},d≠e->SeqAt.RcAt A s u v false->SeqAt.RcNeAt A s u v true->SeqAt.EqAt A s u v false->SeqAt.RcAt A s u v (decide (d=e))/\SeqAt.RcNeAt A s u v (!decide (d=e))/\SeqAt.EqAt A s u v (decide (d=e)):=λh a b c=>by rw[decide_eq_false h];exact⟨a,b,c⟩
 cases h1<;>cases h2
 ·rw[decide_eq_true rfl];exact⟨SeqAt.RcAt.none_none,SeqAt.RcNeAt.none_none,SeqAt.EqAt.same _⟩
 ·exact no (λz=>nomatch z) (SeqAt.RcAt.none_int _ _) (SeqAt.RcNeAt.none_int _ _) (SeqAt.EqAt.none_int _ _)
 ·exact no (λz=>nomatch z) (SeqAt.RcAt.none_str _ _) (SeqAt.RcNeAt.none_str _ _) (SeqAt.EqAt.none_str _ _)
 ·exact no (λz=>nomatch z) (SeqAt.RcAt.int_none _ _) (SeqAt.RcNeAt.int_none _ _) (SeqAt.EqAt.int_none _ _)
 ·rw[ziG];exact⟨SeqAt.RcAt.int_int _ _ _ _,SeqAt.RcNeAt.int_int _ _ _ _,SeqAt.EqAt.int_int _ _ _ _⟩
 ·exact no (λz=>nomatch z) (SeqAt.RcAt.int_str _ _ _ _) (SeqAt.RcNeAt.int_str _ _ _ _) (SeqAt.EqAt.int_str _ _ _ _)
 ·exact no (λz=>nomatch z) (SeqAt.RcAt.str_none _ _) (SeqAt.RcNeAt.str_none _ _) (SeqAt.EqAt.str_none _ _)
 ·exact no (λz=>nomatch z) (SeqAt.RcAt.str_int _ _ _ _) (SeqAt.RcNeAt.str_int _ _ _ _) (SeqAt.EqAt.str_int _ _ _ _)
 ·rw[ziH];exact⟨SeqAt.RcAt.str_str _ _ _ _,SeqAt.RcNeAt.str_str _ _ _ _,SeqAt.EqAt.str_str _ _ _ _⟩
theorem zol (I:Inv X pins σ H s):∀(n:Nat)(A:Around)(d e:PV)(x y:V)(u v:Value),plain n d=true->plain n e=true->A.units+n<cLine->Root X.K Fz H d x->Root X.K Fz' H e y->RelV x u->RelV y v->
  SeqAt.RcAt A s u v (decide (d=e))/\SeqAt.RcNeAt A s u v (!decide (d=e))/\SeqAt.EqAt A s u v (decide (d=e)):=by
 intro n;induction n with
 | zero=>exact λA d e x y u v pd pe hu hx hy rx ry=>zok (zkQ pd hx rx) (zkQ pe hy ry)
 | succ n ih=>
  intro A d e x y u v pd pe hu hx hy rx ry;have hA:A.units<cLine:=by lia
  have iha:∀(d e:PV) (x y:V) (u v:Value),plain n d=true->plain n e=true->Den X.K Fz H d x->Den X.K Fz' H e y->RelV x u->RelV y v->SeqAt.EqAt A.in1 s u v (decide (d=e)):=
   λd e x y u v pd pe h1 h2 r1 r2=>(ih A.in1 d e x y u v pd pe (by show A.units+1+n<cLine;lia) h1.root h2.root r1 r2).2.2
  have lower:∀c:PV,(∀ds,c≠.tup ds)->(∀ds,c≠.lst ds)->plain (n+1) c=true->plain n c=true:=λc h1 h2 hc=>by
   cases c with
   | tup ds=>exact absurd rfl (h1 ds)
   | lst ds=>exact absurd rfl (h2 ds)
   | non=>cases n<;>rfl
   | int i=>cases n<;>rfl
   | str i=>cases n<;>rfl
   | bl _=>simp only[plain]at hc;exact absurd hc (by decide)
   | ty _=>simp only[plain]at hc;exact absurd hc (by decide)
   | dK _ _=>simp only[plain]at hc;exact absurd hc (by decide)
   | dT _ _=>simp only[plain]at hc;exact absurd hc (by decide)
   | obj _ _ _=>simp only[plain]at hc;exact absurd hc (by decide)
  have hA':A.units+n<cLine:=by lia
  cases d with
  | tup ds=>
   have hx':=hx;simp only[Root,Den]at hx;obtain⟨a,xs,rfl,ha,h1⟩:=hx;cases rx;obtain⟨its,r1,p1,z1⟩:=I.tuple (SqT.of ha);have p1':s.heap.IsTuple a its.toArray:=p1;cases e with
   | tup es=>
    have hy':=hy;simp only[Root,Den]at hy;obtain⟨b,ys,rfl,hb,h2⟩:=hy;cases ry;obtain⟨its2,r2,p2,z2⟩:=I.tuple (SqT.of hb);have p2':s.heap.IsTuple b its2.toArray:=p2;have he:=ziI I r1 r2 h1 h2 (by simpa only[plain]using pd) (by simpa only[plain]using pe) iha;have w:((Xp (min its.toArray.size its2.toArray.size)).all (λj=>decide (ds[j]? = es[j]?))&&its.toArray.size == its2.toArray.size)=decide (PV.tup ds=PV.tup es):=by
     rw[Xj,Xj,<- r1.length,<- r2.length,<- h1.length,<- h2.length,zfa,zmt]
    have q:=SeqAt.RcAt.tuples p1' p2' hA he;have q':=SeqAt.RcNeAt.tuples p1' p2' hA he;rw[w]at q q';refine⟨q,q',?_⟩;by_cases hab:a=b
    ·subst hab;rw[zgi I (n+1) _ _ _ pd pe hx' hy',decide_eq_true rfl];exact SeqAt.EqAt.same _
    ·exact SeqAt.EqAt.of_refs hab q
   | lst es=>
    obtain⟨b,ys,rfl,hb,h2⟩:=zaq hy;cases ry;obtain⟨its2,r2,p2,z2⟩:=I.list hb;exact⟨df (λz=>nomatch z) (SeqAt.RcAt.tuple_list p1' p2.isList hA),dn (λz=>nomatch z) (SeqAt.RcNeAt.tuple_list p1' p2.isList hA),df (λz=>nomatch z) (SeqAt.EqAt.tuple_list p1' p2.isList hA)⟩
   | non=>simp only[Root,Den]at hy;subst hy;cases ry;exact⟨df (λz=>nomatch z) (SeqAt.RcAt.tuple_none p1' hA),dn (λz=>nomatch z) (SeqAt.RcNeAt.tuple_none p1' hA),df (λz=>nomatch z) (SeqAt.EqAt.tuple_none p1' hA)⟩
   | int i=>simp only[Root,Den]at hy;subst hy;obtain⟨t,rfl⟩:=ry;exact⟨df (λz=>nomatch z) (SeqAt.RcAt.tuple_int i t p1' hA),dn (λz=>nomatch z) (SeqAt.RcNeAt.tuple_int i t p1' hA),df (λz=>nomatch z) (SeqAt.EqAt.tuple_int i t p1' hA)⟩
   | str i=>simp only[Root,Den]at hy;subst hy;obtain⟨t,rfl⟩:=ry;exact⟨df (λz=>nomatch z) (SeqAt.RcAt.tuple_str i t p1' hA),dn (λz=>nomatch z) (SeqAt.RcNeAt.tuple_str i t p1' hA),df (λz=>nomatch z) (SeqAt.EqAt.tuple_str i t p1' hA)⟩
   | bl _=>simp only[plain]at pe;exact absurd pe (by decide)
   | ty _=>simp only[plain]at pe;exact absurd pe (by decide)
   | dK _ _=>simp only[plain]at pe;exact absurd pe (by decide)
   | dT _ _=>simp only[plain]at pe;exact absurd pe (by decide)
   | obj _ _ _=>simp only[plain]at pe;exact absurd pe (by decide)
  | lst ds=>
   have hx':=hx;obtain⟨a,xs,rfl,ha,h1⟩:=zaq hx;cases rx;obtain⟨its,r1,p1,z1⟩:=I.list ha;have p1':=p1.isList;cases e with
   | lst es=>
    have hy':=hy;obtain⟨b,ys,rfl,hb,h2⟩:=zaq hy;cases ry;obtain⟨its2,r2,p2,z2⟩:=I.list hb;have he:=ziI I r1 r2 h1 h2 (by simpa only[plain]using pd) (by simpa only[plain]using pe) iha;have l1:=r1.length;have l2:=r2.length;have l3:=h1.length;have l4:=h2.length;have key:SeqAt.RcAt A s (.ref a) (.ref b) (decide (PV.lst ds=PV.lst es))/\SeqAt.RcNeAt A s (.ref a) (.ref b) (!decide (PV.lst ds=PV.lst es)):=by
     by_cases hlen:ds.length=es.length
     ·have w:(Xp its.toArray.size).all (λj=>decide (ds[j]? = es[j]?))=decide (PV.lst ds=PV.lst es):=by
       rw[Xj,<- l1,<- l3,zhW hlen,zmu]
      have q:=SeqAt.RcAt.lists p1' p2.isList (by rw[Xj,Xj];lia) hA he;have q':=SeqAt.RcNeAt.lists p1' p2.isList (by rw[Xj,Xj];lia) hA he;rw[w]at q q';exact⟨q,q'⟩
     ·have hne:(its.toArray.size != its2.toArray.size)=true:=by rw[Xj,Xj];simp;lia
      rw[decide_eq_false (λz=>hlen (by rw[PV.lst.inj z]))];exact⟨SeqAt.RcAt.lists_lengths p1' p2.isList hne hA,SeqAt.RcNeAt.lists_lengths p1' p2.isList hne hA⟩
    refine⟨key.1,key.2,?_⟩;by_cases hab:a=b
    ·subst hab;rw[zgi I (n+1) _ _ _ pd pe hx' hy',decide_eq_true rfl];exact SeqAt.EqAt.same _
    ·exact SeqAt.EqAt.of_refs hab key.1
   | tup es=>
    simp only[Root,Den]at hy;obtain⟨b,ys,rfl,hb,h2⟩:=hy;cases ry;obtain⟨its2,r2,p2,z2⟩:=I.tuple (SqT.of hb);have p2':s.heap.IsTuple b its2.toArray:=p2;exact⟨df (λz=>nomatch z) (SeqAt.RcAt.list_tuple p1' p2' hA),dn (λz=>nomatch z) (SeqAt.RcNeAt.list_tuple p1' p2' hA),df (λz=>nomatch z) (SeqAt.EqAt.list_tuple p1' p2' hA)⟩
   | non=>simp only[Root,Den]at hy;subst hy;cases ry;exact⟨df (λz=>nomatch z) (SeqAt.RcAt.list_none p1' hA),dn (λz=>nomatch z) (SeqAt.RcNeAt.list_none p1' hA),df (λz=>nomatch z) (SeqAt.EqAt.list_none p1' hA)⟩
   | int i=>simp only[Root,Den]at hy;subst hy;obtain⟨t,rfl⟩:=ry;exact⟨df (λz=>nomatch z) (SeqAt.RcAt.list_int i t p1' hA),dn (λz=>nomatch z) (SeqAt.RcNeAt.list_int i t p1' hA),df (λz=>nomatch z) (SeqAt.EqAt.list_int i t p1' hA)⟩
   | str i=>simp only[Root,Den]at hy;subst hy;obtain⟨t,rfl⟩:=ry;exact⟨df (λz=>nomatch z) (SeqAt.RcAt.list_str i t p1' hA),dn (λz=>nomatch z) (SeqAt.RcNeAt.list_str i t p1' hA),df (λz=>nomatch z) (SeqAt.EqAt.list_str i t p1' hA)⟩
   | bl _=>simp only[plain]at pe;exact absurd pe (by decide)
   | ty _=>simp only[plain]at pe;exact absurd pe (by decide)
   | dK _ _=>simp only[plain]at pe;exact absurd pe (by decide)
   | dT _ _=>simp only[plain]at pe;exact absurd pe (by decide)
   | obj _ _ _=>simp only[plain]at pe;exact absurd pe (by decide)
  | bl _=>simp only[plain]at pd;exact absurd pd (by decide)
  | ty _=>simp only[plain]at pd;exact absurd pd (by decide)
  | dK _ _=>simp only[plain]at pd;exact absurd pd (by decide)
  | dT _ _=>simp only[plain]at pd;exact absurd pd (by decide)
  | obj _ _ _=>simp only[plain]at pd;exact absurd pd (by decide)
  | non=>
   cases e with
   | tup es=>
    simp only[Root,Den]at hx hy;subst hx;cases rx;obtain⟨b,ys,rfl,hb,h2⟩:=hy;cases ry;obtain⟨its2,r2,p2,z2⟩:=I.tuple (SqT.of hb);have p2':s.heap.IsTuple b its2.toArray:=p2;exact⟨df (λz=>nomatch z) (SeqAt.RcAt.none_tuple p2' hA),dn (λz=>nomatch z) (SeqAt.RcNeAt.none_tuple p2' hA),df (λz=>nomatch z) (SeqAt.EqAt.none_tuple p2' hA)⟩
   | lst es=>
    simp only[Root,Den]at hx;subst hx;cases rx;obtain⟨b,ys,rfl,hb,h2⟩:=zaq hy;cases ry;obtain⟨its2,r2,p2,z2⟩:=I.list hb;exact⟨df (λz=>nomatch z) (SeqAt.RcAt.none_list p2.isList hA),dn (λz=>nomatch z) (SeqAt.RcNeAt.none_list p2.isList hA),df (λz=>nomatch z) (SeqAt.EqAt.none_list p2.isList hA)⟩
   | _=>exact ih A _ _ x y u v (lower _ (λ_ z=>nomatch z) (λ_ z=>nomatch z) pd) (lower _ (λ_ z=>nomatch z) (λ_ z=>nomatch z) pe) hA' hx hy rx ry
  | int i=>
   cases e with
   | tup es=>
    simp only[Root,Den]at hx hy;subst hx;obtain⟨t,rfl⟩:=rx;obtain⟨b,ys,rfl,hb,h2⟩:=hy;cases ry;obtain⟨its2,r2,p2,z2⟩:=I.tuple (SqT.of hb);have p2':s.heap.IsTuple b its2.toArray:=p2;exact⟨df (λz=>nomatch z) (SeqAt.RcAt.int_tuple i t p2' hA),dn (λz=>nomatch z) (SeqAt.RcNeAt.int_tuple i t p2' hA),df (λz=>nomatch z) (SeqAt.EqAt.int_tuple i t p2' hA)⟩
   | lst es=>
    simp only[Root,Den]at hx;subst hx;obtain⟨t,rfl⟩:=rx;obtain⟨b,ys,rfl,hb,h2⟩:=zaq hy;cases ry;obtain⟨its2,r2,p2,z2⟩:=I.list hb;exact⟨df (λz=>nomatch z) (SeqAt.RcAt.int_list i t p2.isList hA),dn (λz=>nomatch z) (SeqAt.RcNeAt.int_list i t p2.isList hA),df (λz=>nomatch z) (SeqAt.EqAt.int_list i t p2.isList hA)⟩
   | _=>exact ih A _ _ x y u v (lower _ (λ_ z=>nomatch z) (λ_ z=>nomatch z) pd) (lower _ (λ_ z=>nomatch z) (λ_ z=>nomatch z) pe) hA' hx hy rx ry
  | str i=>
   cases e with
   | tup es=>
    simp only[Root,Den]at hx hy;subst hx;obtain⟨t,rfl⟩:=rx;obtain⟨b,ys,rfl,hb,h2⟩:=hy;cases ry;obtain⟨its2,r2,p2,z2⟩:=I.tuple (SqT.of hb);have p2':s.heap.IsTuple b its2.toArray:=p2;exact⟨df (λz=>nomatch z) (SeqAt.RcAt.str_tuple i t p2' hA),dn (λz=>nomatch z) (SeqAt.RcNeAt.str_tuple i t p2' hA),df (λz=>nomatch z) (SeqAt.EqAt.str_tuple i t p2' hA)⟩
   | lst es=>
    simp only[Root,Den]at hx;subst hx;obtain⟨t,rfl⟩:=rx;obtain⟨b,ys,rfl,hb,h2⟩:=zaq hy;cases ry;obtain⟨its2,r2,p2,z2⟩:=I.list hb;exact⟨df (λz=>nomatch z) (SeqAt.RcAt.str_list i t p2.isList hA),dn (λz=>nomatch z) (SeqAt.RcNeAt.str_list i t p2.isList hA),df (λz=>nomatch z) (SeqAt.EqAt.str_list i t p2.isList hA)⟩
   | _=>exact ih A _ _ x y u v (lower _ (λ_ z=>nomatch z) (λ_ z=>nomatch z) pd) (lower _ (λ_ z=>nomatch z) (λ_ z=>nomatch z) pe) hA' hx hy rx ry
end
noncomputable def rEqP (K:Xa)(neg:Bool):R2:=λx y H Q=>∃Fz d e,Root K Fz H d x/\Root K Fz H e y/\plain 6 d=true/\plain 6 e=true/\Q (.bl (if neg then !decide (d=e) else decide (d=e))) H
noncomputable def pEq (neg:Bool):P2:=λd e Q=>plain 6 d=true/\plain 6 e=true/\Q (.bl (if neg then !decide (d=e) else decide (d=e))) .frz
section
variable {X:Cx}
theorem zno (hu:X.A.units+16<cLine):OpR X (compareOp .Eq) (rEqP X.K false):=by
 intro pins s σ H x y v u Q I rx ry h;obtain⟨Fz,d,e,hx,hy,pd,pe,q⟩:=h;exact(zol I 6 X.A d e x y v u pd pe (by lia) hx hy rx ry).1 X.prog X.w X.xe _ ⟨.bl _,H,I,rfl,q⟩
theorem zpL (hu:X.A.units+16<cLine):OpR X (compareOp .NotEq) (rEqP X.K true):=by
 intro pins s σ H x y v u Q I rx ry h;obtain⟨Fz,d,e,hx,hy,pd,pe,q⟩:=h;exact(zol I 6 X.A d e x y v u pd pe (by lia) hx hy rx ry).2.1 X.prog X.w X.xe _ ⟨.bl _,H,I,rfl,q⟩
theorem zkR {K:Xa}{neg:Bool}:POp K (rEqP K neg) (pEq neg) where
 mono d e Q Q' m h:=⟨h.1,h.2.1,m _ _ h.2.2⟩
 run Fz H x y d e Q al rx ry h:=⟨Fz,d,e,rx,ry,h.1,h.2.1,h.2.2 _ Fz H (.val al (by simp only[Den]))⟩
end
section
variable {X:Cx}{a b c:Expr}{ta tb:TPE}{tA tB':TPT}{pos:Pos}{rest:List Expr}
structure PuW (X:Cx)(e:Expr)(t:TPT):Prop where
 mono:∀ρ Q Q',(∀b,Q b->Q' b)->t ρ Q->t ρ Q'
 run:PW X e (liftT X.K t)
theorem PuW.t {e:Expr}{t:TPT}(h:PuW X e t):PuT X e t:=⟨h.mono,h.run.pt⟩
noncomputable def zdg (t u:TPT):TPT:=λρ Q=>t ρ λc=>if c=true then u ρ Q else Q false
noncomputable def tOrP (t u:TPT):TPT:=λρ Q=>t ρ λc=>if c=true then Q true else u ρ Q
noncomputable def zef (t:TPT):TPT:=λρ Q=>t ρ λc=>Q (!c)
theorem PW.weak {e:Expr}{t t':TT}(h:PW X e t)(w:∀σ H Q,t' σ H Q->t σ H Q):PW X e t':=λwhole pins s σ H Q I q=>h whole pins s σ H Q I (w σ H Q q)
theorem zgj (ha:PuT X a tA):PuW X (.BoolOp .And [a] pos) tA:=⟨ha.mono,znI ha.run⟩
theorem zcL (ha:PuT X a tA):PuW X (.BoolOp .Or [a] pos) tA:=⟨ha.mono,zpc ha.run⟩
theorem and_mono (m1:∀ρ (Q Q':Bool->Prop),(∀b,Q b->Q' b)->tA ρ Q->tA ρ Q')(m2:∀ρ (Q Q':Bool->Prop),(∀b,Q b->Q' b)->tB' ρ Q->tB' ρ Q') :
  ∀ρ (Q Q':Bool->Prop),(∀b,Q b->Q' b)->zdg tA tB' ρ Q->zdg tA tB' ρ Q':=λρ Q Q' m h=>m1 ρ _ _ (λc q=>by
 cases c with
 | true=>rw[if_pos rfl]at q ⊢;exact m2 ρ _ _ m q
 | false=>rw[if_neg Xi]at q ⊢;exact m _ q) h
theorem or_mono (m1:∀ρ (Q Q':Bool->Prop),(∀b,Q b->Q' b)->tA ρ Q->tA ρ Q')(m2:∀ρ (Q Q':Bool->Prop),(∀b,Q b->Q' b)->tB' ρ Q->tB' ρ Q') :
  ∀ρ (Q Q':Bool->Prop),(∀b,Q b->Q' b)->tOrP tA tB' ρ Q->tOrP tA tB' ρ Q':=λρ Q Q' m h=>m1 ρ _ _ (λc q=>by
 cases c with
 | false=>rw[if_neg Xi]at q ⊢;exact m2 ρ _ _ m q
 | true=>rw[if_pos rfl]at q ⊢;exact m _ q) h
theorem zhX (ha:PuT X a tA)(hb:PuW X (.BoolOp .And (b::rest) pos) tB'):PuW X (.BoolOp .And (a::b::rest) pos) (zdg tA tB') where
 mono:=and_mono ha.mono hb.mono
 run:=PW.weak (zpd ha.run hb.run) λσ H Q h=>by
  obtain⟨ρ,Fz,R,h⟩:=h;refine⟨ρ,Fz,R,ha.mono ρ _ _ (λc q Fz' H' x=>?_) h⟩;cases c with
  | true=>
   rw[if_pos rfl]at q ⊢;exact⟨ρ,Fz',R.ext x,hb.mono ρ _ _ (λb q Fz2 H2 x2=>q Fz2 H2 (x.trans x2)) q⟩
  | false=>rw[if_neg Xi]at q ⊢;exact q Fz' H' x
theorem zdk (ha:PuT X a tA)(hb:PuW X (.BoolOp .Or (b::rest) pos) tB'):PuW X (.BoolOp .Or (a::b::rest) pos) (tOrP tA tB') where
 mono:=or_mono ha.mono hb.mono
 run:=PW.weak (zqH ha.run hb.run) λσ H Q h=>by
  obtain⟨ρ,Fz,R,h⟩:=h;refine⟨ρ,Fz,R,ha.mono ρ _ _ (λc q Fz' H' x=>?_) h⟩;cases c with
  | false=>
   rw[if_neg Xi]at q ⊢;exact⟨ρ,Fz',R.ext x,hb.mono ρ _ _ (λb q Fz2 H2 x2=>q Fz2 H2 (x.trans x2)) q⟩
  | true=>rw[if_pos rfl]at q ⊢;exact q Fz' H' x
theorem zdq (ha:PuT X a tA):PuT X (.UnaryOp .Not a pos) (zef tA) where
 mono ρ Q Q' m h:=ha.mono ρ _ _ (λc q=>m _ q) h
 run:=PT.weak (zpe ha.run) λσ H Q h=>h
noncomputable def TruP:PV->Bool->Prop
 | .non,k=>k=false
 | .bl b,k=>k=b
 | .int i,k=>k=(i != 0)
 | .str y,k=>y.length<=sizeLine/\k=((y.length:Int) != 0)
 | .tup ds,k=>k = !ds.isEmpty
 | .lst ds,k=>k = !ds.isEmpty
 | _,_=>False
noncomputable def tTru (te:TPE):TPT:=λρ Q=>te ρ λd _=>∃k,TruP d k/\Q k
theorem TruP.v {K:Xa}{Fz:FZ}{H:Hp}{d:PV}{x:V}{k:Bool}(r:Root K Fz H d x)(t:TruP d k):TruV K x H k:=by
 cases d with
 | non=>cases zbJ r;exact t
 | bl b=>cases zeY r;exact t
 | int i=>cases zas r;exact t
 | str y=>cases zaW r;exact t
 | tup ds=>
  obtain⟨a,xs,rfl,h1,h2⟩:=zaL r;refine .inr (.inl ⟨xs,h1,?_⟩);have hl:=h2.length;have t':k = !ds.isEmpty:=t;rw[t'];cases ds<;>cases xs<;>simp_all
 | lst ds=>
  obtain⟨a,xs,rfl,h1,h2⟩:=zaq r;refine .inl ⟨xs,h1,?_⟩;have hl:=h2.length;have t':k = !ds.isEmpty:=t;rw[t'];cases ds<;>cases xs<;>simp_all
 | ty _=>exact t.elim
 | dK _ _=>exact t.elim
 | dT _ _=>exact t.elim
 | obj _ _ _=>exact t.elim
theorem zcM (ha:PuE X a ta)(he:autoParam (∀whole,isTrue a X.env whole=(do let v <- whole;standAt a.pos;holding [v] (truthy v))) aU5):PuT X a (tTru ta) where
 mono ρ Q Q' m h:=ha.mono ρ _ _ (λd k q61q=>by obtain⟨b,e,q⟩:=q61q;exact⟨b,e,m b q⟩) h
 run:=PT.weak (zmd ha.run he) λσ H Q h=>by
  obtain⟨ρ,Fz,R,h⟩:=h;exact⟨ρ,Fz,R,ha.mono ρ _ _ (λd k q62q v Fz' H' p=>by obtain⟨b,e,q⟩:=q62q;exact⟨b,TruP.v (p.root R) e,q Fz' H' p.ext⟩) h⟩
noncomputable def zeg (ta:TPE):TPE:=λρ Q=>ta ρ λd _=>∃c,d=.bl c/\Q (.bl (!c)) .frz
noncomputable def zeh (ta tb:TPE):TPE:=λρ Q=>ta ρ λd _=>∃c,d=.bl c/\if c=true then tb ρ Q else Q (.bl false) .frz
theorem zpM (ha:PuE X a ta):PuE X (.UnaryOp .Not a pos) (zeg ta) where
 mono ρ Q Q' m h:=ha.mono ρ _ _ (λd k q63q=>by obtain⟨c,e,q⟩:=q63q;exact⟨c,e,m _ _ q⟩) h
 run:=PE.weak (zph ha.run) λσ H Q h=>by
  obtain⟨ρ,Fz,R,h⟩:=h;refine⟨ρ,Fz,R,ha.mono ρ _ _ (λd k ⟨c,e,q⟩ v Fz' H' p=>⟨c,?_,q _ Fz' H' ⟨p.ext,by show Den _ _ _ _ _;simp only[Den]⟩⟩) h⟩;subst e;exact zeY (p.root R)
theorem zpN {op}{t:TPE}(h:PuE X a t):PuE X (.BoolOp op [a] pos) t:=⟨h.mono,zpf h.run⟩
theorem zpO (ha:PuE X a ta)(hb:PuE X (.BoolOp .And (b::rest) pos) tb):PuE X (.BoolOp .And (a::b::rest) pos) (zeh ta tb) where
 mono ρ Q Q' m h:=ha.mono ρ _ _ (λd k ⟨c,e,q⟩=>⟨c,e,by
  cases c with
  | true=>rw[if_pos rfl]at q ⊢;exact hb.mono ρ _ _ m q
  | false=>rw[if_neg Xi]at q ⊢;exact m _ _ q⟩) h
 run:=PE.weak (zpg ha.run hb.run) λσ H Q h=>by
  obtain⟨ρ,Fz,R,h⟩:=h;refine⟨ρ,Fz,R,ha.mono ρ _ _ (λd k ⟨c,e,q⟩ v Fz' H' p=>⟨c,?_,?_⟩) h⟩
  ·subst e;exact zeY (p.root R)
  ·cases c with
   | true=>
    rw[if_pos rfl]at q ⊢;exact⟨ρ,Fz',R.ext p.ext,hb.mono ρ _ _ (λd k q v Fz2 H2 p2=>q v Fz2 H2 (p2.then p.ext)) q⟩
   | false=>rw[if_neg Xi]at q ⊢;exact q _ Fz' H' ⟨p.ext,by show Den _ _ _ _ _;simp only[Den]⟩
noncomputable def tIfE (t:TPT)(ta tb:TPE):TPE:=λρ Q=>t ρ λc=>if c=true then ta ρ Q else tb ρ Q
theorem zgk (hc:PuT X c tA)(ha:PuE X a ta)(hb:PuE X b tb):PuE X (.IfExp c a b pos) (tIfE tA ta tb) where
 mono ρ Q Q' m h:=hc.mono ρ _ _ (λd q=>by
  cases d with
  | true=>rw[if_pos rfl]at q ⊢;exact ha.mono ρ _ _ m q
  | false=>rw[if_neg Xi]at q ⊢;exact hb.mono ρ _ _ m q) h
 run:=PE.weak (zma hc.run ha.run hb.run) λσ H Q h=>by
  obtain⟨ρ,Fz,R,h⟩:=h;refine⟨ρ,Fz,R,hc.mono ρ _ _ (λc q Fz' H' x=>?_) h⟩;cases c with
  | true=>
   rw[if_pos rfl]at q ⊢;exact⟨ρ,Fz',R.ext x,ha.mono ρ _ _ (λd k q v Fz2 H2 p2=>q v Fz2 H2 (p2.then x)) q⟩
  | false=>
   rw[if_neg Xi]at q ⊢;exact⟨ρ,Fz',R.ext x,hb.mono ρ _ _ (λd k q v Fz2 H2 p2=>q v Fz2 H2 (p2.then x)) q⟩
end
noncomputable abbrev OpdL (K:Xa)(Fz':FZ)(H':Hp)(ρ:PEnv)(σ:St)(H:Hp):List (PV×Kd)->List V->Prop:=Paired λp v=>Opd K Fz' H' ρ σ H p.1 p.2 v
noncomputable def zom (K:Xa)(t:TPA):TA:=λσ H Q=>∃ρ Fz,Rel K Fz ρ σ H/\t ρ λops=>∀vs Fz' H',Ext Fz H Fz' H'->OpdL K Fz' H' ρ σ H ops vs->Q vs H'
structure PuA (X:Cx)(es:List Expr)(t:TPA):Prop where
 mono:∀ρ Q Q',(∀ops,Q ops->Q' ops)->t ρ Q->t ρ Q'
 run:PA X es (zom X.K t)
theorem PA.weak {X:Cx}{es:List Expr}{t t':TA}(h:PA X es t)(w:∀σ H Q,t' σ H Q->t σ H Q):PA X es t':=λpos pins s σ H Q I q=>h pos pins s σ H Q I (w σ H Q q)
noncomputable def pNil:TPA:=λ_ Q=>Q []
noncomputable def zaE (te:TPE)(t:TPA):TPA:=λρ Q=>te ρ λd k=>t ρ λops=>Q ((d,k)::ops)
theorem OpdL.back {K:Xa}{ρ:PEnv}{σ:St}{Fz2:FZ}{H H1 H2:Hp}(s:Same H H1):∀ {ops:List (PV×Kd)}{vs:List V},OpdL K Fz2 H2 ρ σ H1 ops vs->OpdL K Fz2 H2 ρ σ H ops vs
 | _,_,.nil=>.nil
 | _,_,.cons h t=>.cons (Opd.back s h) (OpdL.back s t)
section
variable {X:Cx}{e:Expr}{es:List Expr}{te:TPE}{t:TPA}{pos:Pos}
theorem zae:PuA X [] pNil where
 mono ρ Q Q' m h:=m _ h
 run:=PA.weak zcI λσ H Q h=>by
  obtain⟨ρ,Fz,R,h⟩:=h;exact h [] Fz H ⟨Same.refl H,λ_ h=>h,λ_ h=>.inl h,R.al⟩ .nil
theorem zab (ha:PuE X e te)(hr:PuA X es t)(hs:autoParam (starEach (e::es) X.env=(false,eval e X.env)::starEach es X.env) aU0):PuA X (e::es) (zaE te t) where
 mono ρ Q Q' m h:=ha.mono ρ _ _ (λd k h=>hr.mono ρ _ _ (λops h=>m _ h) h) h
 run:=PA.weak (zaT ha.run hr.run hs) λσ H Q h=>by
  obtain⟨ρ,Fz,R,h⟩:=h;refine⟨ρ,Fz,R,ha.mono ρ _ _ (λd k h v Fz1 H1 p=>?_) h⟩;refine⟨ρ,Fz1,R.ext p.ext,hr.mono ρ _ _ (λops h vs Fz2 H2 x o=>?_) h⟩;exact h (v::vs) Fz2 H2 (p.ext.trans x) (.cons (Opd.ext x p.opd) (OpdL.back p.ext.same o))
end
noncomputable def zjL (K:Xa)(Fz:FZ)(H:Hp):List PV->List V->Prop:=Paired (Root K Fz H)
theorem OpdL.root {K:Xa}{ρ:PEnv}{σ:St}{Fz Fz':FZ}{H H':Hp}(R:Rel K Fz ρ σ H)(x:Ext Fz H Fz' H'):∀ {ops:List (PV×Kd)}{vs:List V},OpdL K Fz' H' ρ σ H ops vs->zjL K Fz' H' (ops.map (·.1)) vs
 | _,_,.nil=>.nil
 | _,_,.cons h t=>.cons (Post.root R ⟨x,h⟩) (OpdL.root R x t)
noncomputable def noOwn:List (PV×Kd)->Bool
 | []=>true
 | (_,.own _)::_=>false
 | _::r=>noOwn r
theorem OpdL.frozen {K:Xa}{ρ:PEnv}{σ:St}{Fz Fz':FZ}{H H':Hp}(x:Ext Fz H Fz' H'):∀ {ops:List (PV×Kd)}{vs:List V},noOwn ops=true->OpdL K Fz' H' ρ σ H ops vs->
  ∃Fz2,Ext Fz H Fz2 H'/\(∀b,Fz' b->Fz2 b)/\DenL K Fz2 H' (ops.map (·.1)) vs
 | _,_,_,.nil=>⟨Fz',x,λ_ h=>h,DenL.nil⟩
 | (d,k)::ops,v::vs,hn,.cons h t=>by
  cases k with
  | own i=>exact absurd hn Xi
  | frz=>
   obtain⟨F2,x2,s2,h2⟩:=OpdL.frozen x (ops:=ops) hn t;exact⟨F2,x2,s2,DenL.cons (Den.mono (Keep.of (Same.refl _)) s2 _ _ h) h2⟩
  | new=>
   obtain⟨F2,x2,s2,h2⟩:=OpdL.frozen x (ops:=ops) hn t;obtain⟨a,e,hn',_,o⟩:=h;subst e;refine⟨λb=>F2 b\/b=a,x2.add hn' (by obtain⟨o',e,_⟩:=o.at;rw[e];exact λz=>nomatch z),λb h=>.inl (s2 b h),DenL.cons ?_ (DenL.mono (Keep.of (Same.refl _)) (λb h=>.inl h) _ _ h2)⟩;exact(o.mono (Fz':=λb=>F2 b\/b=a) (Keep.of (Same.refl _)) (λb h=>.inl (s2 b h)) (λ_ h=>h)).den (.inr rfl)
noncomputable def pTup (t:TPA):TPE:=λρ Q=>t ρ λops=>noOwn ops=true/\ops.length<=sizeLine/\Q (.tup (ops.map (·.1))) .frz
noncomputable def pLst (t:TPA):TPE:=λρ Q=>t ρ λops=>noOwn ops=true/\ops.length<=sizeLine/\Q (.lst (ops.map (·.1))) .new
section
variable {X:Cx}{es:List Expr}{t:TPA}{pos:Pos}
theorem zkS {x1}(h:PuA X es t):PuE X (.Tuple es x1 pos) (pTup t) where
 mono ρ Q Q' m q:=h.mono ρ _ _ (λops q=>⟨q.1,q.2.1,m _ _ q.2.2⟩) q
 run:=PE.weak (zkm h.run) λσ H Q q=>by
  obtain⟨ρ,Fz,R,q⟩:=q;refine⟨ρ,Fz,R,h.mono ρ _ _ (λops q vs Fz' H' x o=>?_) q⟩;obtain⟨hn,hl,q⟩:=q;obtain⟨F2,x2,s2,h2⟩:=o.frozen x hn;have len:=h2.length;rw[Xb]at len;refine⟨by lia,λp hp=>q _ F2 _ ⟨x2.laid hp,?_⟩⟩;show Den _ _ _ _ _;simp only[Den];refine⟨p,vs,rfl,zak,DenL.mono (Keep.of (λb u e=>by rw[zai (zay e hp)];exact e)) (λ_ h=>h) _ _ h2⟩
theorem zbP (h:PuA X es t):PuE X (.List es pos) (pLst t) where
 mono ρ Q Q' m q:=h.mono ρ _ _ (λops q=>⟨q.1,q.2.1,m _ _ q.2.2⟩) q
 run:=PE.weak (znk h.run) λσ H Q q=>by
  obtain⟨ρ,Fz,R,q⟩:=q;refine⟨ρ,Fz,R,h.mono ρ _ _ (λops q vs Fz' H' x o=>?_) q⟩;obtain⟨hn,hl,q⟩:=q;obtain⟨F2,x2,s2,h2⟩:=o.frozen x hn;have len:=h2.length;rw[Xb]at len;refine⟨by lia,λp hp=>q _ F2 _ ⟨x2.laid hp,p,rfl,x.same.free hp,λz=>x2.al p z hp,vs,zak,?_⟩⟩;exact DenL.mono (Keep.of (λb u e=>by rw[zai (zay e hp)];exact e)) (λ_ h=>h) _ _ h2
end
mutual
noncomputable def zcm:PV->Bool
 | .tup ds=>zbe ds
 | .lst _=>false
 | .dK _ _=>false
 | .dT _ _=>false
 | .obj _ _ _=>false
 | _=>true
noncomputable def zbe:List PV->Bool
 | []=>true
 | d::ds=>zcm d&&zbe ds
end
section
variable {K:Xa}{Fz Fz':FZ}{H:Hp}
mutual
theorem zhd:∀(d:PV)(v:V),zcm d=true->Den K Fz H d v->Den K Fz' H d v
 | .non,v,_,h=>by simpa only[Den]using h
 | .bl b,v,_,h=>by simpa only[Den]using h
 | .int i,v,_,h=>by simpa only[Den]using h
 | .str x,v,_,h=>by simpa only[Den]using h
 | .ty n,v,_,h=>by simpa only[Den]using h
 | .tup ds,v,n,h=>by
  simp only[zcm]at n;simp only[Den]at h ⊢;obtain⟨a,xs,e,h1,h2⟩:=h;exact⟨a,xs,e,h1,zcn ds xs n h2⟩
 | .lst ds,v,n,h=>by simp only[zcm]at n;exact absurd n (by decide)
 | .dK ks ds,v,n,h=>by simp only[zcm]at n;exact absurd n (by decide)
 | .dT ks ds,v,n,h=>by simp only[zcm]at n;exact absurd n (by decide)
theorem zcn:∀(ds:List PV)(xs:List V),zbe ds=true->DenL K Fz H ds xs->DenL K Fz' H ds xs
 | [],xs,_,h=>by simpa only[DenL]using h
 | d::ds,xs,n,h=>by
  simp only[zbe,Yp]at n;simp only[DenL]at h ⊢;obtain⟨v,r,e,h1,h2⟩:=h;exact⟨v,r,e,zhd d v n.1 h1,zcn ds r n.2 h2⟩
end
end
noncomputable def zbA:PV->Kd->Bool
 | .lst ds,.new=>zbe ds
 | .dK _ ds,.new=>zbe ds
 | .dT _ ds,.new=>zbe ds
 | d,_=>zcm d
theorem zfP {K:Xa}{Fz Fz':FZ}{H H':Hp}{d:PV}{k:Kd}{v:V}(n:zbA d k=true)(hal:∀b,Fz' b->H b≠none)(h:Opd K Fz H' [] [] H d k v):Opd K Fz' H' [] [] H d k v:=by
 cases k with
 | frz=>
  have n':zcm d=true:=by cases d<;>exact n
  exact zhd d v n' h
 | own i=>exact h
 | new=>
  obtain⟨a,e,hn,_,o⟩:=h;refine⟨a,e,hn,λz=>hal a z hn,?_⟩;cases d with
  | lst ds=>obtain⟨xs,h1,h2⟩:=o;exact⟨xs,h1,zcn ds xs n h2⟩
  | dK ks ds=>obtain⟨xs,h1,h2,h3⟩:=o;exact⟨xs,h1,h2,zcn ds xs n h3⟩
  | dT ks ds=>obtain⟨xs,h1,h2,h3⟩:=o;exact⟨xs,h1,h2,zcn ds xs n h3⟩
  | non=>exact o.elim
  | bl b=>exact o.elim
  | int i=>exact o.elim
  | str x=>exact o.elim
  | ty n=>exact o.elim
  | tup ds=>exact o.elim
  | obj C ks ds=>exact o.elim
noncomputable abbrev PF:=List PV->(PV->Kd->Prop)->Prop
noncomputable def zaU (F:PF):Prop:=∀ds Q Q',(∀d k,Q d k->Q' d k)->F ds Q->F ds Q'
noncomputable def spP (K:Xa)(F:PF):Sp:=λvs H Q _=>∃Fz ds,(∀b,Fz b->H b≠none)/\DenL K Fz H ds vs/\F ds λd k=>∀v Fz' H',Post K [] [] Fz H Fz' H' d k v->Q v H'
theorem OpdL.all {K:Xa}{ρ:PEnv}{σ:St}{Fz Fz':FZ}{H H':Hp}(R:Rel K Fz ρ σ H)(x:Ext Fz H Fz' H'):∀ {ops:List (PV×Kd)}{vs:List V},OpdL K Fz' H' ρ σ H ops vs->
  ∃Fz2,(∀b,Fz' b->Fz2 b)/\(∀b,Fz2 b->H' b≠none)/\DenL K Fz2 H' (ops.map (·.1)) vs
 | _,_,.nil=>⟨Fz',λ_ h=>h,x.al,DenL.nil⟩
 | (d,k)::ops,v::vs,.cons h t=>by
  obtain⟨F2,s2,a2,h2⟩:=OpdL.all R x t;have addr:∀a,v=.ref a->Own K Fz' H' d a->∃Fz2,(∀b,Fz' b->Fz2 b)/\(∀b,Fz2 b->H' b≠none)/\DenL K Fz2 H' ((d,k)::ops |>.map (·.1)) (v::vs):=λa e o=>by
   subst e;refine⟨λb=>F2 b\/b=a,λb h=>.inl (s2 b h),λb hb=>?_,DenL.cons ?_ (DenL.mono (Keep.of (Same.refl _)) (λb h=>.inl h) _ _ h2)⟩
   ·rcases hb with hb | rfl
    ·exact a2 b hb
    ·obtain⟨o',e,_⟩:=o.at;rw[e];exact λz=>nomatch z
   ·exact(o.mono (Fz':=λb=>F2 b\/b=a) (Keep.of (Same.refl _)) (λb h=>.inl (s2 b h)) (λ_ h=>h)).den (.inr rfl)
  cases k with
  | frz=>exact⟨F2,s2,a2,DenL.cons (Den.mono (Keep.of (Same.refl _)) s2 _ _ h) h2⟩
  | new=>obtain⟨a,e,_,_,o⟩:=h;exact addr a e o
  | own i=>
   obtain⟨h1,h2'⟩:=h;obtain⟨a,e,_,o⟩:=(R.ext x).own i d h1;rw[h2']at e;cases e;exact addr a rfl o
noncomputable def zbQ (F:PF)(t:TPA):TPE:=λρ Q=>t ρ λops=>F (ops.map (·.1)) λd k=>(noOwn ops=true\/zbA d k=true)/\Q d k
section
variable {X:Cx}{k:Nat}{f:Addr}{fd:FuncData}{ps:List Str}{F:PF}{x:Str}{p pos:Pos}{e:Expr}{es:List Expr}{t:TPA}
theorem zmv {σ:St}{H:Hp}{Q:VK}(ha:PuA X es t)(m:zaU F)(h:lift X.K (zbQ F t) σ H Q):zpv (spP X.K F) [] E0 (zom X.K t) σ H Q:=by
 obtain⟨ρ,Fz,R,h⟩:=h;refine⟨ρ,Fz,R,ha.mono ρ _ _ (λops h vs Fz' H' x o=>?_) h⟩;show spP X.K F (vs++[]) H' Q E0;rw[List.append_nil];by_cases hn:noOwn ops=true
 ·obtain⟨F2,x2,s2,h2⟩:=o.frozen x hn;refine⟨F2,ops.map (·.1),x2.al,h2,m _ _ _ (λd k q v Fz3 H3 p3=>?_) h⟩;exact q.2 v Fz3 H3 (p3.behind x2)
 ·obtain⟨F2,s2,a2,h2⟩:=o.all R x;refine⟨F2,ops.map (·.1),a2,h2,m _ _ _ (λd k q v Fz3 H3 p3=>?_) h⟩;have nm:zbA d k=true:=q.1.resolve_left hn;have al:∀b,Fz' b->H3 b≠none:=λb hb z=>x.al b hb (p3.ext.same.free z);refine q.2 v Fz' H3 ⟨⟨x.same.trans p3.ext.same,x.sub,x.new,al⟩,?_⟩;exact((zfP nm x.al p3.opd).up).back x.same
theorem zaw (G:FnOk X.prog X.w X.K X.mg X.base CX0 k f fd ps (spP X.K F))(m:zaU F)(hr:Room k X.A)(hg:Gl X x)(hm:X.mg x=some (.ref f))(hk:Xq X.K (.ref f)=true)(hb:Binds X.K fd ps [])(ha:PuA X (e::es) t)
  (hd:autoParam ((x == ("__debug__" : Str))=false) aU1) (he:autoParam (starEach (e::es) X.env=(false,eval e X.env)::starEach es X.env) aU0) (hpl:autoParam ((backTo pos (starEach es X.env)).any (·.1)=false) aU0) :
  PuE X (.Call (.Name x p) (e::es) [] pos) (zbQ F t) where
 mono ρ Q Q' mm h:=ha.mono ρ _ _ (λops h=>m _ _ _ (λd k q=>⟨q.1,mm _ _ q.2⟩) h) h
 run:=PE.weak (zko G hr hg hm hk hb .nil zhR ha.run hd he hpl) λσ H Q h=>zmv ha m h
end
structure zeF (K:Xa)(r:List V->Hp->VK->Prop)(p:PF):Prop where
 mono:zaU p
 run:∀Fz H ds vs Q,(∀b,Fz b->H b≠none)->zjL K Fz H ds vs->p ds (λz k=>∀v Fz' H',Post K [] [] Fz H Fz' H' z k v->Q v H')->r vs H Q
noncomputable def tB (p:PF)(t:TPA):TPE:=λρ Q=>t ρ λops=>p (ops.map (·.1)) Q
section
variable {X:Cx}{x:Str}{p pos:Pos}{e:Expr}{es:List Expr}{t:TPA}{id T:String}{r:List V->Hp->VK->Prop}{pf:PF}
theorem zpP {σ:St}{H:Hp}{Q:VK}(ha:PuA X es t)(m:zeF X.K r pf)(h:lift X.K (tB pf t) σ H Q):tCB r (zom X.K t) σ H Q:=by
 obtain⟨ρ,Fz,R,h⟩:=h;refine⟨ρ,Fz,R,ha.mono ρ _ _ (λops h vs Fz' H' x o=>?_) h⟩;exact m.run Fz' H' _ vs Q x.al (o.root R x) (m.mono _ _ _ (λd k q v Fz3 H3 p3=>q v Fz3 H3 (p3.behind x)) h)
theorem zdb (hc:zdf X (.builtin id) r)(m:zeF X.K r pf)(hg:Gl X x)(hm:X.mg x=none)(hv:bootBuiltins x=some (.builtin id))(ha:PuA X (e::es) t)(hn:autoParam (x≠"__name__") aU1) (hdb:autoParam ((x == ("__debug__" : Str))=false) aU1)
  (he:autoParam (starEach (e::es) X.env=(false,eval e X.env)::starEach es X.env) aU0) (hpl:autoParam ((backTo pos (starEach es X.env)).any (·.1)=false) aU0):PuE X (.Call (.Name x p) (e::es) [] pos) (tB pf t) where
 mono ρ Q Q' mm h:=ha.mono ρ _ _ (λops h=>m.mono _ _ _ mm h) h
 run:=PE.weak (zit hc hg hm hv ha.run hn hdb he hpl) λσ H Q h=>zpP ha m h
theorem zfb (hc:zdf X (.type T) r)(m:zeF X.K r pf)(hg:Gl X x)(hm:X.mg x=none)(hv:bootBuiltins x=some (.type T))(ha:PuA X (e::es) t)(hn:autoParam (x≠"__name__") aU1) (hdb:autoParam ((x == ("__debug__" : Str))=false) aU1)
  (he:autoParam (starEach (e::es) X.env=(false,eval e X.env)::starEach es X.env) aU0) (hpl:autoParam ((backTo pos (starEach es X.env)).any (·.1)=false) aU0):PuE X (.Call (.Name x p) (e::es) [] pos) (tB pf t) where
 mono ρ Q Q' mm h:=ha.mono ρ _ _ (λops h=>m.mono _ _ _ mm h) h
 run:=PE.weak (zdB hc hg hm hv ha.run hn hdb he hpl) λσ H Q h=>zpP ha m h
end
end PL
namespace PL
open PySem PySem.Spec L2
open PyProof.Rows hiding St
structure POut where
 nx:PEnv->Prop
 rt:PV->Kd->Prop
 bk:PEnv->Prop
 ct:PEnv->Prop
structure POut.le (O O':POut):Prop where
 nx:∀ρ,O.nx ρ->O'.nx ρ
 rt:∀d k,O.rt d k->O'.rt d k
 bk:∀ρ,O.bk ρ->O'.bk ρ
 ct:∀ρ,O.ct ρ->O'.ct ρ
noncomputable abbrev TPS:=PEnv->POut->Prop
noncomputable def Hold (t:TPS)(O:POut)(ρ:PEnv):Prop:=t ρ O
noncomputable def zpQ (c:TPT)(ρ:PEnv)(Q:Bool->Prop):Prop:=c ρ Q
theorem zbK {c:TPT}{ρ:PEnv}{Q:Bool->Prop}(h:c ρ Q):zpQ c ρ Q:=h
theorem hold {t:TPS}{O:POut}{ρ:PEnv}(h:t ρ O):Hold t O ρ:=h
structure Step (ρ:PEnv)(σ:St)(Fz:FZ)(H:Hp)(Fz':FZ)(H':Hp):Prop where
 sub:∀b,Fz b->Fz' b
 new:∀b,Fz' b->Fz b\/H b=none\/zaM ρ σ b
 keep:∀b o,H b=some o->¬ zaM ρ σ b->H' b=some o
noncomputable def zaz (ρ:PEnv)(σ:St)(H:Hp)(ρ':PEnv)(σ':St):Prop:=∀b,zaM ρ' σ' b->zaM ρ σ b\/H b=none
theorem Step.of {ρ:PEnv}{σ:St}{Fz Fz':FZ}{H H':Hp}(x:Ext Fz H Fz' H'):Step ρ σ Fz H Fz' H':=
 ⟨x.sub,λb h=>(x.new b h).elim .inl (λh=>.inr (.inl h)),λb o e _=>x.same b o e⟩
theorem Step.none {ρ:PEnv}{σ:St}{Fz Fz':FZ}{H H':Hp}(s:Step ρ σ Fz H Fz' H'){b:Addr}(h:H' b=Option.none):H b=Option.none\/zaM ρ σ b:=by
 by_cases o:zaM ρ σ b
 ·exact .inr o
 ·cases e:H b with
  | none=>exact .inl rfl
  | some u=>rw[s.keep b u e o]at h;cases h
theorem Step.trans {ρ ρ':PEnv}{σ σ':St}{F1 F2 F3:FZ}{H1 H2 H3:Hp}(a:Step ρ σ F1 H1 F2 H2)(oi:zaz ρ σ H1 ρ' σ')(b:Step ρ' σ' F2 H2 F3 H3):Step ρ σ F1 H1 F3 H3:=
 ⟨λc h=>b.sub c (a.sub c h),λc h=>by
  rcases b.new c h with h | h | h
  ·exact a.new c h
  ·exact .inr (a.none h)
  ·exact .inr ((oi c h).symm),λc o e n=>by
  refine b.keep c o (a.keep c o e n) λz=>?_;rcases oi c z with z | z
  ·exact n z
  ·rw[e]at z;cases z⟩
theorem zaz.trans {ρ ρ' ρ'':PEnv}{σ σ' σ'':St}{F1 F2:FZ}{H1 H2:Hp}(a:Step ρ σ F1 H1 F2 H2)(oi:zaz ρ σ H1 ρ' σ')(oj:zaz ρ' σ' H2 ρ'' σ''):zaz ρ σ H1 ρ'' σ'':=λc h=>by
 rcases oj c h with h | h
 ·exact oi c h
 ·exact(a.none h).symm
theorem zaz.refl (ρ:PEnv)(σ:St)(H:Hp):zaz ρ σ H ρ σ:=λ_ h=>.inl h
noncomputable def Ret (K:Xa)(ρ:PEnv)(σ:St)(H:Hp)(Fz':FZ)(H':Hp)(d:PV):Kd->V->Prop
 | .frz,v=>Den K Fz' H' d v
 | .new,v=>∃a,v=.ref a/\¬ Fz' a/\Own K Fz' H' d a/\(zaM ρ σ a\/H a=none)
 | .own _,_=>False
noncomputable def zfc (K:Xa)(D:Ends)(ρ:PEnv)(σ:St)(Fz:FZ)(H:Hp):POut where
 nx:=λρ'=>∀σ' Fz' H',Step ρ σ Fz H Fz' H'->zaz ρ σ H ρ' σ'->Rel K Fz' ρ' σ' H'->D.nx σ' H'
 bk:=λρ'=>∀σ' Fz' H',Step ρ σ Fz H Fz' H'->zaz ρ σ H ρ' σ'->Rel K Fz' ρ' σ' H'->D.bk σ' H'
 ct:=λρ'=>∀σ' Fz' H',Step ρ σ Fz H Fz' H'->zaz ρ σ H ρ' σ'->Rel K Fz' ρ' σ' H'->D.ct σ' H'
 rt:=λd k=>∀v Fz' H',Step ρ σ Fz H Fz' H'->(∀b,Fz' b->H' b≠none)->Ret K ρ σ H Fz' H' d k v->D.rt v H'
noncomputable def zhY (K:Xa)(t:TPS):TS:=λD σ H=>∃ρ Fz,Rel K Fz ρ σ H/\t ρ (zfc K D ρ σ Fz H)
structure PuS (X:Cx)(st:Stmt)(t:TPS):Prop where
 mono:∀ρ O O',O.le O'->t ρ O->t ρ O'
 run:PS X st (zhY X.K t)
structure PuSs (X:Cx)(st:List Stmt)(t:TPS):Prop where
 mono:∀ρ O O',O.le O'->t ρ O->t ρ O'
 run:PSs X st (zhY X.K t)
theorem PS.weak {X:Cx}{e:Stmt}{t t':TS}(h:PS X e t)(w:∀D σ H,t' D σ H->t D σ H):PS X e t':=λpins s σ H D I q=>h pins s σ H D I (w D σ H q)
theorem PSs.weak {X:Cx}{e:List Stmt}{t t':TS}(h:PSs X e t)(w:∀D σ H,t' D σ H->t D σ H):PSs X e t':=λpins s σ H D I q=>h pins s σ H D I (w D σ H q)
theorem zmw {K:Xa}{D D':Ends}{ρ ρ':PEnv}{σ σ':St}{Fz Fz':FZ}{H H':Hp}(s:Step ρ σ Fz H Fz' H')(oi:zaz ρ σ H ρ' σ')(h1:∀σ H,D.nx σ H->D'.nx σ H)(h2:∀v H,D.rt v H->D'.rt v H)(h3:∀σ H,D.bk σ H->D'.bk σ H)(h4:∀σ H,D.ct σ H->D'.ct σ H) :
  (zfc K D ρ σ Fz H).le (zfc K D' ρ' σ' Fz' H') where
 nx ρ2 q σ2 F2 H2 s2 o2 R2:=h1 _ _ (q σ2 F2 H2 (s.trans oi s2) (zaz.trans s oi o2) R2)
 bk ρ2 q σ2 F2 H2 s2 o2 R2:=h3 _ _ (q σ2 F2 H2 (s.trans oi s2) (zaz.trans s oi o2) R2)
 ct ρ2 q σ2 F2 H2 s2 o2 R2:=h4 _ _ (q σ2 F2 H2 (s.trans oi s2) (zaz.trans s oi o2) R2)
 rt d k q v F2 H2 s2 al r:=h2 _ _ (q v F2 H2 (s.trans oi s2) al (by
  cases k with
  | frz=>exact r
  | own i=>exact r
  | new=>
   obtain⟨a,e,nf,o,w⟩:=r;refine⟨a,e,nf,o,?_⟩;rcases w with w | w
   ·exact oi a w
   ·exact(s.none w).symm))
theorem zbR {K:Xa}{D:Ends}{ρ ρ':PEnv}{σ σ':St}{Fz Fz':FZ}{H H':Hp}(s:Step ρ σ Fz H Fz' H')(oi:zaz ρ σ H ρ' σ'):(zfc K D ρ σ Fz H).le (zfc K D ρ' σ' Fz' H'):=
 zmw s oi (λ_ _ h=>h) (λ_ _ h=>h) (λ_ _ h=>h) (λ_ _ h=>h)
section
variable {X:Cx}{st:Stmt}{rest:List Stmt}{t u:TPS}{e:Expr}{te:TPE}{pos:Pos}
noncomputable def zcN:TPS:=λρ O=>O.nx ρ
noncomputable def pSeq (t u:TPS):TPS:=λρ O=>t ρ { O with nx:=Hold u O }
theorem zaA:PuSs X [] zcN where
 mono ρ O O' m h:=m.nx _ h
 run:=PSs.weak zhN λD σ H h=>by
  obtain⟨ρ,Fz,R,h⟩:=h;exact h σ Fz H (.of ⟨Same.refl H,λ_ h=>h,λ_ h=>.inl h,R.al⟩) (zaz.refl ρ σ H) R
theorem zag (h1:PuS X st t):PuSs X [st] t:=⟨h1.mono,zeb h1.run⟩
theorem zad (h1:PuS X st t)(h2:PuSs X rest u):PuSs X (st::rest) (pSeq t u) where
 mono ρ O O' m h:=h1.mono ρ { O with nx:=λρ'=>u ρ' O } _ ⟨λρ' q=>h2.mono ρ' _ _ m q,m.rt,m.bk,m.ct⟩ h
 run:=PSs.weak (zaK h1.run h2.run) λD σ H h=>by
  obtain⟨ρ,Fz,R,h⟩:=h;refine⟨ρ,Fz,R,h1.mono ρ { zfc X.K D ρ σ Fz H with nx:=λρ'=>u ρ' (zfc X.K D ρ σ Fz H) } _ ⟨λρ' q=>?_,λ_ _ q=>q,λ_ q=>q,λ_ q=>q⟩ h⟩;intro σ' Fz' H' s oi R';exact⟨ρ',Fz',R',h2.mono ρ' _ _ (zbR s oi) q⟩
noncomputable def pRet (te:TPE):TPS:=λρ O=>te ρ λd k=>O.rt d (match k with | .frz=>.frz | _=>.new)
theorem zao (he:PuE X e te):PuS X (.Return (some e) pos) (pRet te) where
 mono ρ O O' m h:=he.mono ρ _ _ (λ_ _ q=>m.rt _ _ q) h
 run:=PS.weak (zke he.run) λD σ H h=>by
  obtain⟨ρ,Fz,R,h⟩:=h;refine⟨ρ,Fz,R,he.mono ρ _ _ (λd k q v Fz' H' p=>q v Fz' H' (.of p.ext) p.ext.al ?_) h⟩;cases k with
  | frz=>exact p.opd
  | new=>obtain⟨a,e,hn,nf,o⟩:=p.opd;exact⟨a,e,nf,o,.inr hn⟩
  | own i=>
   obtain⟨h1,h2⟩:=p.opd;obtain⟨a,e,nf,o⟩:=(R.ext p.ext).own i d h1;rw[h2]at e;cases e;exact⟨a,rfl,nf,o,.inl ⟨i,d,h1,h2⟩⟩
noncomputable def pIf (c:TPT)(t u:TPS):TPS:=λρ O=>c ρ λb=>if b=true then Hold t O ρ else Hold u O ρ
theorem zbB {c:Expr}{a b:List Stmt}{tc:TPT}(hc:PuT X c tc)(ha:PuSs X a t)(hb:PuSs X b u):PuS X (.If c a b pos) (pIf tc t u) where
 mono ρ O O' m h:=hc.mono ρ _ _ (λd q=>by
  cases d with
  | true=>rw[if_pos rfl]at q ⊢;exact ha.mono ρ _ _ m q
  | false=>rw[if_neg Xi]at q ⊢;exact hb.mono ρ _ _ m q) h
 run:=PS.weak (znJ hc.run ha.run hb.run) λD σ H h=>by
  obtain⟨ρ,Fz,R,h⟩:=h;refine⟨ρ,Fz,R,hc.mono ρ _ _ (λd q Fz' H' x=>?_) h⟩;cases d with
  | true=>
   rw[if_pos rfl]at q ⊢;exact⟨ρ,Fz',R.ext x,ha.mono ρ _ _ (zbR (.of x) (zaz.refl ρ σ H)) q⟩
  | false=>
   rw[if_neg Xi]at q ⊢;exact⟨ρ,Fz',R.ext x,hb.mono ρ _ _ (zbR (.of x) (zaz.refl ρ σ H)) q⟩
noncomputable def zdh (i:Nat)(ρ:PEnv):PEnv:=match ρ[i]? with
 | some (some (d,true))=>ρ.set i (some (d,false))
 | _=>ρ
noncomputable def pFrz (i:Nat)(t:TPS):TPS:=λρ O=>t (zdh i ρ) O
end
section
variable {K:Xa}{Fz:FZ}{ρ:PEnv}{σ:St}{H:Hp}
theorem Rel.set {i:Nat}{d:PV}{v:V}(R:Rel K Fz ρ σ H)(h:Den K Fz H d v):Rel K Fz (ρ.set i (some (d,false))) (σ.set i (some v)) H where
 al:=R.al
 len:=by rw[XZ,XZ];exact R.len
 frz j e he:=by
  by_cases hij:i=j
  ·subst hij;by_cases hi:i<ρ.length
   ·rw[Xg hi]at he;cases he;exact⟨v,by rw[Xg (by rw[<- R.len];exact hi)],h⟩
   ·rw[XC (by lia),XA (by lia)]at he;cases he
  ·rw[Xc hij]at he ⊢;exact R.frz j e he
 own j e he:=by
  by_cases hij:i=j
  ·subst hij;by_cases hi:i<ρ.length
   ·rw[Xg hi]at he;cases he
   ·rw[XC (by lia),XA (by lia)]at he;cases he
  ·rw[Xc hij]at he ⊢;exact R.own j e he
 inj j k d' e a h1 h2 h3 h4:=by
  have nj:i≠j:=λz=>by
   subst z;by_cases hi:i<ρ.length
   ·rw[Xg hi]at h1;cases h1
   ·rw[XC (by lia),XA (by lia)]at h1;cases h1
  have nk:i≠k:=λz=>by
   subst z;by_cases hi:i<ρ.length
   ·rw[Xg hi]at h2;cases h2
   ·rw[XC (by lia),XA (by lia)]at h2;cases h2
  rw[Xc nj]at h1 h3;rw[Xc nk]at h2 h4;exact R.inj j k d' e a h1 h2 h3 h4
theorem zfd {i:Nat}{d:PV}{v:V}:∀b,zaM (ρ.set i (some (d,false))) (σ.set i (some v)) b->zaM ρ σ b:=λb ⟨j,e,h1,h2⟩=>by
 have nj:i≠j:=λz=>by
  subst z;by_cases hi:i<ρ.length
  ·rw[Xg hi]at h1;cases h1
  ·rw[XC (by lia),XA (by lia)]at h1;cases h1
 rw[Xc nj]at h1 h2;exact⟨j,e,h1,h2⟩
theorem Rel.znp {i:Nat}{d:PV}{a:Addr}(R:Rel K Fz ρ σ H)(nf:¬ Fz a)(h:Own K Fz H d a)(hno:¬ zaM ρ σ a):Rel K Fz (ρ.set i (some (d,true))) (σ.set i (some (.ref a))) H where
 al:=R.al
 len:=by rw[XZ,XZ];exact R.len
 frz j e he:=by
  by_cases hij:i=j
  ·subst hij;by_cases hi:i<ρ.length
   ·rw[Xg hi]at he;cases he
   ·rw[XC (by lia),XA (by lia)]at he;cases he
  ·rw[Xc hij]at he ⊢;exact R.frz j e he
 own j e he:=by
  by_cases hij:i=j
  ·subst hij;by_cases hi:i<ρ.length
   ·rw[Xg hi]at he;cases he;exact⟨a,by rw[Xg (by rw[<- R.len];exact hi)],nf,h⟩
   ·rw[XC (by lia),XA (by lia)]at he;cases he
  ·rw[Xc hij]at he ⊢;exact R.own j e he
 inj j k d' e b h1 h2 h3 h4:=by
  by_cases hj:i=j
  ·by_cases hk:i=k
   ·rw[<- hj,<- hk]
   ·subst hj;rw[Xc hk]at h2 h4;by_cases hi:i<σ.length
    ·rw[Xg hi]at h3;cases h3;exact absurd ⟨k,e,h2,h4⟩ hno
    ·rw[XC (by lia),XA (by lia)]at h3;cases h3
  ·by_cases hk:i=k
   ·subst hk;rw[Xc hj]at h1 h3;by_cases hi:i<σ.length
    ·rw[Xg hi]at h4;cases h4;exact absurd ⟨j,d',h1,h3⟩ hno
    ·rw[XC (by lia),XA (by lia)]at h4;cases h4
   ·rw[Xc hj]at h1 h3;rw[Xc hk]at h2 h4;exact R.inj j k d' e b h1 h2 h3 h4
theorem zei {i:Nat}{d:PV}{a:Addr}:∀b,zaM (ρ.set i (some (d,true))) (σ.set i (some (.ref a))) b->b=a\/zaM ρ σ b:=λb ⟨j,e,h1,h2⟩=>by
 by_cases hij:i=j
 ·subst hij;by_cases hi:i<σ.length
  ·rw[Xg hi]at h2;cases h2;exact .inl rfl
  ·rw[XC (by lia),XA (by lia)]at h2;cases h2
 ·rw[Xc hij]at h1 h2;exact .inr ⟨j,e,h1,h2⟩
theorem Rel.frozen {i:Nat}(R:Rel K Fz ρ σ H):∃Fz',Rel K Fz' (zdh i ρ) σ H/\Step ρ σ Fz H Fz' H/\zaz ρ σ H (zdh i ρ) σ:=by
 unfold zdh;split
 ·rename_i d he
  obtain⟨a,e,nf,o⟩:=R.own i d he;have R2:Rel K (λb=>Fz b\/b=a) (ρ.set i (some (d,false))) (σ.set i (some (.ref a))) H:=by
   have hno:∀j d',i≠j->ρ[j]? = some (some (d',true))->σ[j]?≠some (some (.ref a)):=λj d' hne h1 h2=>hne (R.inj i j d d' a he h1 e h2);have hal:∀b,(Fz b\/b=a)->H b≠none:=λb hb=>by
    rcases hb with hb | rfl
    ·exact R.al b hb
    ·obtain⟨o',q,_⟩:=o.at;rw[q];exact λz=>nomatch z
   refine⟨hal,by rw[XZ,XZ];exact R.len,λj e' he'=>?_,λj e' he'=>?_,λj k d' e' b h1 h2 h3 h4=>?_⟩
   ·by_cases hij:i=j
    ·subst hij;have hi:i<ρ.length:=(Xd.mp he).1;rw[Xg hi]at he';cases he';exact⟨_,by rw[Xg (by rw[<- R.len];exact hi)],(o.mono (Fz':=λb=>Fz b\/b=a) (Keep.of (Same.refl _)) (λ_ h=>.inl h) (λ_ h=>h)).den (.inr rfl)⟩
    ·rw[Xc hij]at he' ⊢;obtain⟨v,q1,q2⟩:=R.frz j e' he';exact⟨v,q1,Den.mono (Keep.of (Same.refl _)) (λ_ h=>.inl h) _ _ q2⟩
   ·have hij:i≠j:=λz=>by
     subst z;have hi:i<ρ.length:=(Xd.mp he).1;rw[Xg hi]at he';cases he'
    rw[Xc hij]at he' ⊢;obtain⟨b,q1,q2,q3⟩:=R.own j e' he';refine⟨b,q1,λz=>?_,q3.mono (Keep.of (Same.refl _)) (λ_ h=>.inl h) (λ_ h=>h)⟩;rcases z with z | z
    ·exact q2 z
    ·subst z;exact hno j e' hij he' q1
   ·have hi:i<ρ.length:=(Xd.mp he).1;have nj:i≠j:=λz=>by subst z;rw[Xg hi]at h1;cases h1
    have nk:i≠k:=λz=>by subst z;rw[Xg hi]at h2;cases h2
    rw[Xc nj]at h1 h3;rw[Xc nk]at h2 h4;exact R.inj j k d' e' b h1 h2 h3 h4
  have es:σ.set i (some (.ref a))=σ:=List.ext_getElem? λj=>by
   by_cases hij:i=j
   ·subst hij;rw[Xg (Xd.mp e).1,e]
   ·rw[Xc hij]
  refine⟨λb=>Fz b\/b=a,by rw[es]at R2;exact R2,⟨λ_ h=>.inl h,λb hb=>?_,λb o e _=>e⟩,λb hb=>?_⟩
  ·rcases hb with hb | rfl
   ·exact .inl hb
   ·exact .inr (.inr ⟨i,d,he,e⟩)
  ·have:=zfd (ρ:=ρ) (σ:=σ) (i:=i) (d:=d) (v:=.ref a) b (by rw[es];exact hb);exact .inl this
 ·exact⟨Fz,R,.of ⟨Same.refl H,λ_ h=>h,λ_ h=>.inl h,R.al⟩,zaz.refl ρ σ H⟩
end
section
variable {X:Cx}{st:Stmt}{sts:List Stmt}{t:TPS}
theorem zej (i:Nat)(h:PuS X st t):PuS X st (pFrz i t) where
 mono ρ O O' m q:=h.mono _ _ _ m q
 run:=PS.weak h.run λD σ H q=>by
  obtain⟨ρ,Fz,R,q⟩:=q;obtain⟨F2,R2,s2,o2⟩:=R.frozen (i:=i);exact⟨_,F2,R2,h.mono _ _ _ (zbR s2 o2) q⟩
end
noncomputable def pSet (i:Nat)(te:TPE):TPS:=λρ O=>te ρ λd k=>match k with
 | .frz=>O.nx (ρ.set i (some (d,false)))
 | .new=>O.nx (ρ.set i (some (d,true)))
 | .own _=>False
theorem ziJ {X:Cx}{e:Expr}{te:TPE}{i:Nat}(he:PuE X e te){D:Ends}{σ:St}{H:Hp}(h:zhY X.K (pSet i te) D σ H):tAsg (lift X.K te) (zkf i) D σ H:=by
 obtain⟨ρ,Fz,R,h⟩:=h;refine⟨ρ,Fz,R,he.mono ρ _ _ (λd k q v Fz' H' p=>?_) h⟩;show D.nx (σ.set i (some v)) H';have R':=R.ext p.ext;cases k with
 | frz=>exact(show(zfc X.K D ρ σ Fz H).nx (ρ.set i (some (d,false))) from q) _ Fz' H' (.of p.ext) (λb hb=>.inl (zfd b hb)) (R'.set p.opd)
 | own j=>exact q.elim
 | new=>
  obtain⟨a,e,hn,nf,o⟩:=p.opd;subst e;have hno:¬ zaM ρ σ a:=λ⟨j,e,h1,h2⟩=>by
   obtain⟨b,q1,_,q2⟩:=R.own j e h1;rw[h2]at q1;cases q1;obtain⟨o',q3,_⟩:=q2.at;rw[hn]at q3;cases q3
  refine(show(zfc X.K D ρ σ Fz H).nx (ρ.set i (some (d,true))) from q) _ Fz' H' (.of p.ext) (λb hb=>?_) (R'.znp nf o hno);rcases zei b hb with rfl | hb
  ·exact .inr hn
  ·exact .inl hb
theorem zhe {X:Cx}{e:Expr}{te:TPE}{i:Nat}(he:PuE X e te):∀ρ O O',POut.le O O'->pSet i te ρ O->pSet i te ρ O':=λρ O O' m h=>he.mono ρ _ _ (λd k q=>by
 cases k with
 | frz=>exact m.nx _ q
 | new=>exact m.nx _ q
 | own j=>exact q) h
section
variable {X:Cx}{e:Expr}{te:TPE}{pos:Pos}
theorem zaj {i:Nat}{x:Str}{pos':Pos}(hN:X.N.Nodup)(hi:X.N[i]? = some x)(hx:Loc X.env.scope x)(he:PuE X e te)(hs:autoParam (swapsWith e (some (.Name x pos')) pos.line X.env=pure false) aU0)(hf:autoParam (X.fn x=true\/X.env.scope.names.lookup x=some .local) aU3) :
  PuS X (.Assign [.Name x pos'] e pos) (pSet i te):=
 ⟨zhe he,PS.weak (zeN hN hi hx he.run hs hf) λ_ _ _ h=>ziJ he h⟩
end
noncomputable abbrev TPG:=PV->PEnv->(PEnv->Prop)->Prop
noncomputable abbrev TPGs:=List PV->PEnv->(PEnv->Prop)->Prop
noncomputable def zkT (K:Xa)(t:TPG):TG:=λv σ H Q=>∃ρ Fz d,Rel K Fz ρ σ H/\Den K Fz H d v/\t d ρ λρ'=>∀σ',Rel K Fz ρ' σ' H->(∀b,zaM ρ' σ' b->zaM ρ σ b)->Q σ' H
noncomputable def zpR (K:Xa)(t:TPGs):TGs:=λvs σ H Q=>∃ρ Fz ds,Rel K Fz ρ σ H/\DenL K Fz H ds vs/\t ds ρ λρ'=>∀σ',Rel K Fz ρ' σ' H->(∀b,zaM ρ' σ' b->zaM ρ σ b)->Q σ' H
structure PuG (X:Cx)(tg:Expr)(t:TPG):Prop where
 mono:∀d ρ Q Q',(∀ρ,Q ρ->Q' ρ)->t d ρ Q->t d ρ Q'
 run:PG X tg (zkT X.K t)
structure PuGs (X:Cx)(tgs:List Expr)(t:TPGs):Prop where
 mono:∀ds ρ Q Q',(∀ρ,Q ρ->Q' ρ)->t ds ρ Q->t ds ρ Q'
 run:PGs X tgs (zpR X.K t)
theorem PG.weak {X:Cx}{e:Expr}{t t':TG}(h:PG X e t)(w:∀v σ H Q,t' v σ H Q->t v σ H Q):PG X e t':=λpins s σ H v u Q I r q=>h pins s σ H v u Q I r (w v σ H Q q)
theorem PGs.weak {X:Cx}{e:List Expr}{t t':TGs}(h:PGs X e t)(w:∀v σ H Q,t' v σ H Q->t v σ H Q):PGs X e t':=λpins s σ H v u Q I r q=>h pins s σ H v u Q I r (w v σ H Q q)
noncomputable def zbG (i:Nat):TPG:=λd ρ Q=>Q (ρ.set i (some (d,false)))
noncomputable def zdL:TPGs:=λds ρ Q=>ds=[]/\Q ρ
noncomputable def zbS (t:TPG)(u:TPGs):TPGs:=λds ρ Q=>∃d r,ds=d::r/\t d ρ λρ'=>u r ρ' Q
noncomputable def zdM (n:Nat)(t:TPGs):TPG:=λd ρ Q=>∃ds,d=.tup ds/\ds.length=n/\t ds ρ Q
section
variable {X:Cx}{pos:Pos}
theorem zal {i:Nat}{x:Str}(hN:X.N.Nodup)(hi:X.N[i]? = some x)(hx:Loc X.env.scope x)(hf:autoParam (X.fn x=true\/X.env.scope.names.lookup x=some .local) aU3):PuG X (.Name x pos) (zbG i) where
 mono d ρ Q Q' m h:=m _ h
 run:=PG.weak (znK hN hi hx hf) λv σ H Q h=>by
  obtain⟨ρ,Fz,d,R,hd,h⟩:=h;exact h _ (R.set hd) (λb hb=>zfd b hb)
theorem zgl:PuGs X [] zdL where
 mono d ρ Q Q' m h:=⟨h.1,m _ h.2⟩
 run:=PGs.weak znL λv σ H Q h=>by
  obtain⟨ρ,Fz,ds,R,hd,e,h⟩:=h;subst e;simp only[DenL]at hd;exact⟨hd,h σ R (λ_ h=>h)⟩
theorem zco {e:Expr}{es:List Expr}{t:TPG}{u:TPGs}(h1:PuG X e t)(h2:PuGs X es u)
  (hs:autoParam ((assignEach (e::es) X.env).map (·.2)=assign e X.env::(assignEach es X.env).map (·.2)) aU0):PuGs X (e::es) (zbS t u) where
 mono ds ρ Q Q' m h:=by
  obtain⟨d,r,e,h⟩:=h;exact⟨d,r,e,h1.mono d ρ _ _ (λρ' q=>h2.mono r ρ' _ _ m q) h⟩
 run:=PGs.weak (zmb h1.run h2.run hs) λvs σ H Q h=>by
  obtain⟨ρ,Fz,ds,R,hd,d,r,e,h⟩:=h;subst e;simp only[DenL]at hd;obtain⟨v,rs,e,d1,d2⟩:=hd;subst e;refine⟨v,rs,rfl,ρ,Fz,d,R,d1,h1.mono d ρ _ _ (λρ' q σ' R' o'=>?_) h⟩;exact⟨ρ',Fz,r,R',d2,h2.mono r ρ' _ _ (λρ2 q σ2 R2 o2=>q σ2 R2 (λb hb=>o' b (o2 b hb))) q⟩
theorem zhZ {es:List Expr}{k:Nat}{t:TPGs}{n:Nat}(hc:X.calm=true)(h:PuGs X es t)
  (hn:autoParam ((assignEach es X.env).length=n) aU0) (hst:autoParam ((assignEach es X.env).findIdx? (·.1)=none) aU0):PuG X (.Tuple es k pos) (zdM n t) where
 mono d ρ Q Q' m q:=by
  obtain⟨ds,e,l,q⟩:=q;exact⟨ds,e,l,h.mono ds ρ _ _ m q⟩
 run:=PG.weak (zpi hc h.run hn hst) λv σ H Q q=>by
  obtain⟨ρ,Fz,d,R,hd,ds,e,l,q⟩:=q;subst e;simp only[Den]at hd;obtain⟨a,xs,e,h1,h2⟩:=hd;have hl:=h2.length;exact⟨a,xs,e,SqT.of h1,by lia,ρ,Fz,ds,R,h2,q⟩
end
noncomputable def LocG (k:Nat)(t:TPG):Prop:=∀d ρ Q,t d ρ Q->t d ρ λρ'=>Q ρ'/\ρ'.length=ρ.length/\∀j,k<=j->ρ'[j]? = ρ[j]?
noncomputable def zpS (k:Nat)(t:TPGs):Prop:=∀d ρ Q,t d ρ Q->t d ρ λρ'=>Q ρ'/\ρ'.length=ρ.length/\∀j,k<=j->ρ'[j]? = ρ[j]?
theorem zaP {k i:Nat}(h:i<k):LocG k (zbG i):=λd ρ Q q=>⟨q,by rw[XZ],λj hj=>by rw[Xc (by lia)]⟩
theorem zon {k n:Nat}{t:TPGs}(h:zpS k t):LocG k (zdM n t):=λd ρ Q q=>by
 obtain⟨ds,e,l,q⟩:=q;exact⟨ds,e,l,h ds ρ _ q⟩
noncomputable abbrev TPI:=PEnv->(List PV->Bool->Prop)->Prop
noncomputable def Walk (K:Xa)(Fz:FZ)(o:Bool)(J:It)(its:List PV)(H:Hp):Prop:=∀H2,(Same H H2\/(o=false/\zkM Fz H H2))->∀i:Nat,
 (∀d,its[i]? = some d->J.go i H2/\∀x H3,J.yld i H2 x H3->Same H2 H3/\Den K Fz H3 d x)/\(its.length<=i->J.stop i H2)
noncomputable def zpT (K:Xa)(t:TPI):TI:=λσ H R=>∃ρ Fz,Rel K Fz ρ σ H/\t ρ λits o=>∀J Fz' H',Ext Fz H Fz' H'->Walk K Fz' o J its H'->R J H'
structure PuI (X:Cx)(tg iter:Expr)(t:TPI):Prop where
 mono:∀ρ Q Q',(∀its o,Q its o->Q' its o)->t ρ Q->t ρ Q'
 run:PI X tg iter (zpT X.K t)
theorem PI.weak {X:Cx}{tg e:Expr}{t t':TI}(h:PI X tg e t)(w:∀σ H Q,t' σ H Q->t σ H Q):PI X tg e t':=λpins s σ H Q I q=>h pins s σ H Q I (w σ H Q q)
noncomputable def isOwn:Kd->Bool
 | .own _=>true
 | _=>false
noncomputable def iLst (te:TPE):TPI:=λρ Q=>te ρ λd k=>∃ds,d=.lst ds/\Q ds (isOwn k)
noncomputable def zek (te:TPE):TPI:=λρ Q=>te ρ λd k=>∃ds,d=.tup ds/\Q ds false
section
variable {X:Cx}{tg e:Expr}{te:TPE}
theorem zaH (he:PuE X e te):PuI X tg e (iLst te) where
 mono ρ Q Q' m h:=he.mono ρ _ _ (λd k q70q=>by obtain⟨ds,e,q⟩:=q70q;exact⟨ds,e,m _ _ q⟩) h
 run:=PI.weak (znN he.run) λσ H Rr h=>by
  obtain⟨ρ,Fz,R,h⟩:=h;refine⟨ρ,Fz,R,he.mono ρ _ _ (λd k q v Fz' H' p=>?_) h⟩;obtain⟨ds,e,q⟩:=q;subst e;have rt:=p.root R;obtain⟨a,xs,rfl,h1,h2⟩:=zaq rt;refine⟨a,rfl,⟨xs,h1⟩,?_⟩;have walk:∀(F2:FZ) (o:Bool),(∀b,Fz' b->F2 b)->(∀H2,(Same H' H2\/(o=false/\zkM F2 H' H2))->SqL X.K H2 a xs/\Keep F2 H' H2)->Walk X.K F2 o (Itl X.K a) ds H':=λF2 o s2 st H2 hH i=>by
   obtain⟨g1,g2⟩:=st H2 hH;have g3:DenL X.K F2 H2 ds xs:=DenL.mono g2 (λ_ h=>h) _ _ (DenL.mono (Keep.of (Same.refl _)) s2 _ _ h2);have hl:=g3.length;refine⟨λd hd=>?_,λhi=>⟨xs,g1,by lia⟩⟩;obtain⟨v,q1,q2⟩:=g3.get hd;exact⟨⟨xs,v,g1,q1⟩,λx H3 ⟨e,y⟩=>by
    subst e;have:=y xs g1;rw[q1]at this;cases this;exact⟨Same.refl _,q2⟩⟩
  cases k with
  | own i=>exact q _ Fz' H' p.ext (walk Fz' true (λ_ h=>h) λH2 hH=>by
    rcases hH with hH | ⟨z,_⟩
    ·exact⟨hH.seq h1,.of hH⟩
    ·cases z)
  | frz=>
   have pd:Den X.K Fz' H' (.lst ds) (.ref a):=p.opd;simp only[Den]at pd;obtain⟨a',xs',e,h3,h4⟩:=pd;cases e;refine q _ Fz' H' p.ext ?_;intro H2 hH i;have kp:Keep Fz' H' H2:=hH.elim (λz=>.of z) (λz=>.mk' z.2);have g1:SqL X.K H2 a xs':=h3.elim (λh=>.inl (kp.rd trivial h.1 h.2)) KX.sq;have g3:DenL X.K Fz' H2 ds xs':=DenL.mono kp (λ_ h=>h) _ _ h4;have hl:=g3.length;refine⟨λd hd=>?_,λhi=>⟨xs',g1,by lia⟩⟩;obtain⟨v,q1,q2⟩:=g3.get hd;exact⟨⟨xs',v,g1,q1⟩,λx H3 ⟨e,y⟩=>by
    subst e;have:=y xs' g1;rw[q1]at this;cases this;exact⟨Same.refl _,q2⟩⟩
  | new=>
   obtain⟨b,e,hn,nf,o⟩:=p.opd;cases e;obtain⟨xs',o1,o2⟩:=o;refine q _ (λb=>Fz' b\/b=a) H' (p.ext.add hn (by rw[o1];exact λz=>nomatch z)) ?_;intro H2 hH i;have kp:Keep (λb=>Fz' b\/b=a) H' H2:=hH.elim (λz=>.of z) (λz=>.mk' z.2);have g1:SqL X.K H2 a xs':=.inl (kp.rd trivial (.inr rfl) (.inl o1));have g3:DenL X.K (λb=>Fz' b\/b=a) H2 ds xs':=DenL.mono kp (λ_ h=>h) _ _ (DenL.mono (Keep.of (Same.refl _)) (λ_ h=>.inl h) _ _ o2);have hl:=g3.length;refine⟨λd hd=>?_,λhi=>⟨xs',g1,by lia⟩⟩;obtain⟨v,q1,q2⟩:=g3.get hd;exact⟨⟨xs',v,g1,q1⟩,λx H3 ⟨e,y⟩=>by
    subst e;have:=y xs' g1;rw[q1]at this;cases this;exact⟨Same.refl _,q2⟩⟩
theorem zoo (he:PuE X e te):PuI X tg e (zek te) where
 mono ρ Q Q' m h:=he.mono ρ _ _ (λd k q74q=>by obtain⟨ds,e,q⟩:=q74q;exact⟨ds,e,m _ _ q⟩) h
 run:=PI.weak (zpl he.run) λσ H Rr h=>by
  obtain⟨ρ,Fz,R,h⟩:=h;refine⟨ρ,Fz,R,he.mono ρ _ _ (λd k q v Fz' H' p=>?_) h⟩;obtain⟨ds,e,q⟩:=q;subst e;obtain⟨a,xs,rfl,h1,h2⟩:=zeZ (p.root R);refine⟨a,rfl,⟨xs,SqT.of h1⟩,q _ Fz' H' p.ext ?_⟩;intro H2 hH i;have kp:Keep Fz' H' H2:=hH.elim (λz=>.of z) (λz=>.mk' z.2);have g1:SqT X.K H2 a xs:=kp.sqT h1;have g3:DenL X.K Fz' H2 ds xs:=DenL.mono kp (λ_ h=>h) _ _ h2;have hl:=g3.length;refine⟨λd hd=>?_,λhi=>⟨xs,g1,by lia⟩⟩;obtain⟨v,q1,q2⟩:=g3.get hd;exact⟨⟨xs,v,g1,q1⟩,λx H3 ⟨e,y⟩=>by
   subst e;have:=y xs g1;rw[q1]at this;cases this;exact⟨Same.refl _,q2⟩⟩
end
noncomputable def rngP (lo:Int)(n:Nat):List PV:=(Xp n).map λ(i:Nat)=>PV.int (lo+i)
theorem zbf (lo:Int)(n:Nat):(rngP lo n).length=n:=by simp[rngP]
theorem zbz {lo:Int}{n i:Nat}{d:PV}(h:(rngP lo n)[i]? = some d):i<n/\d=.int (lo+i):=by
 have hi:i<n:=by have:=(Xd.mp h).1;rw[zbf]at this;exact this
 refine⟨hi,?_⟩;unfold rngP at h;rw[Xk,Yi hi]at h;exact(Option.some.inj h).symm
noncomputable def zbr (t:TPA):TPI:=λρ Q=>t ρ λops=>∃j:Int,ops.map (·.1)=[.int j]/\-(2 ^ 62)<=j/\j<2 ^ 62/\Q (rngP 0 j.toNat) false
theorem zmx {K:Xa}{Fz:FZ}{lo:Int}{n:Nat}{H:Hp}:Walk K Fz false (Itr lo n) (rngP lo n) H:=λH2 _ i=>by
 refine⟨λd hd=>?_,λhi=>by rw[zbf]at hi;exact hi⟩;obtain⟨h1,rfl⟩:=zbz hd;exact⟨h1,λx H3 q76q=>by obtain⟨e,y⟩:=q76q;subst e y;exact⟨Same.refl _,by simp only[Den]⟩⟩
section
variable {X:Cx}{tg a b:Expr}{t:TPA}{p pos:Pos}
theorem zaQ (hg:Gl X "range") (hm:X.mg "range" = none) (ha:PuA X [a] t) (hs:autoParam (starEach [a] X.env=[(false,eval a X.env)]) aU0):PuI X tg (.Call (.Name "range" p) [a] [] pos) (zbr t) where
 mono ρ Q Q' m h:=ha.mono ρ _ _ (λops q77q=>by obtain⟨j,e,h1,h2,q⟩:=q77q;exact⟨j,e,h1,h2,m _ _ q⟩) h
 run:=PI.weak (zkh hg hm ha.run hs) λσ H Rr h=>by
  obtain⟨ρ,Fz,R,h⟩:=h;refine⟨ρ,Fz,R,ha.mono ρ _ _ (λops q vs Fz' H' x o=>?_) h⟩;obtain⟨j,e,h1,h2,q⟩:=q;have rl:=o.root R x;rw[e]at rl;cases rl with
  | cons r1 r2=>
   cases r2;exact⟨j,by rw[zas r1],h1,h2,q _ Fz' H' x zmx⟩
end
noncomputable def pFor (ti:TPI)(g:TPG)(tb:TPS):TPS:=λρ O=>ti ρ λits o=>o=false/\∃Inv:Nat->PEnv->Prop,Inv 0 ρ/\
 (∀i d ρ',its[i]? = some d->Inv i ρ'->g d ρ' (Hold tb { O with nx:=Inv (i+1),ct:=Inv (i+1),bk:=O.nx }))/\∀ρ',Inv its.length ρ'->O.nx ρ'
noncomputable def zcp (c:TPT)(tb:TPS):TPS:=λρ O=>∃Inv:Nat->PEnv->Prop,(∃m,Inv m ρ)/\∀m ρ',Inv m ρ'->zpQ c ρ' λb=>if b=true
 then Hold tb { O with nx:=λρ2=>∃m',m'<m/\Inv m' ρ2,ct:=λρ2=>∃m',m'<m/\Inv m' ρ2,bk:=O.nx } ρ' else O.nx ρ'
theorem Step.kept {K:Xa}{ρ:PEnv}{σ:St}{Fz Fz':FZ}{H H':Hp}(R:Rel K Fz ρ σ H)(s:Step ρ σ Fz H Fz' H'):zkM Fz H H':=λb o e w=>by
 refine s.keep b o e λ q78q=>?_;obtain⟨i,d,h1,h2⟩:=q78q;obtain⟨a,q1,q2,q3⟩:=R.own i d h1;rw[h2]at q1;cases q1;rcases w with w | w
 ·exact q2 w
 ·obtain⟨o',q4,q5⟩:=q3.at;rw[e]at q4;cases q4;exact q5 w
section
variable {X:Cx}{tg iter c:Expr}{body:List Stmt}{ti:TPI}{g:TPG}{tb:TPS}{tc:TPT}{pos:Pos}
theorem zmy (hgm:∀d ρ Q Q',(∀ρ,Q ρ->Q' ρ)->g d ρ Q->g d ρ Q')(hbm:∀ρ O O',POut.le O O'->tb ρ O->tb ρ O'){K:Xa}{ρ:PEnv}{σ:St}{Fz1:FZ}{H1:Hp}{D:Ends}{J:It}{its:List PV}{O:POut}(R1:Rel K Fz1 ρ σ H1)(wk:Walk K Fz1 false J its H1)(Iv:Nat->PEnv->Prop)(h0:Iv 0 ρ)
  (hstep:∀i d ρ',its[i]? = some d->Iv i ρ'->g d ρ' (Hold tb { O with nx:=Iv (i+1),ct:=Iv (i+1),bk:=O.nx })) (hO:O.le (zfc K D ρ σ Fz1 H1)) (hdone:∀ρ',Iv its.length ρ'->O.nx ρ') :
  ∃W:Nat->Nat->St->Hp->Prop,(∃m,W 0 m σ H1)/\∀i m σ H,W i m σ H->
   (J.stop i H/\D.nx σ H)\/(J.go i H/\∃N:St->Hp->Prop,(∀σ' H',N σ' H'->∃m',m'<m/\W (i+1) m' σ' H')/\∀x H',J.yld i H x H'->zkT K g x σ H' λσ2 H2=>zhY K tb { D with nx:=N,ct:=N,bk:=D.nx } σ2 H2):=by
 refine⟨λi m σ' H'=>m=its.length-i/\i<=its.length/\∃ρ' F',Rel K F' ρ' σ' H'/\Iv i ρ'/\Step ρ σ Fz1 H1 F' H'/\zaz ρ σ H1 ρ' σ',
  ⟨its.length,by lia,Yf _,ρ,Fz1,R1,h0,.of ⟨Same.refl _,λ_ h=>h,λ_ h=>.inl h,R1.al⟩,zaz.refl ρ σ H1⟩,?_⟩
 rintro i m σ' H' ⟨rfl,hle,ρ',F',R',hI,s',o'⟩;have kp:zkM Fz1 H1 H':=s'.kept R1;obtain⟨wgo,wstop⟩:=wk H' (.inr ⟨rfl,kp⟩) i;by_cases hlt:i<its.length
 ·obtain⟨go,yl⟩:=wgo its[i] (Xl hlt);refine .inr ⟨go,λσ2 H2=>∃ρ2 F2,Rel K F2 ρ2 σ2 H2/\Iv (i+1) ρ2/\Step ρ σ Fz1 H1 F2 H2/\zaz ρ σ H1 ρ2 σ2,λσ2 H2 hN=>⟨its.length-(i+1),by lia,rfl,hlt,hN⟩,λxv H2 y=>?_⟩;obtain⟨sm,dn⟩:=yl xv H2 y;have x2:Ext F' H' F' H2:=⟨sm,λ_ h=>h,λ_ h=>.inl h,λb hb z=>R'.al b hb (sm.free z)⟩;refine⟨ρ',F',its[i],R'.ext x2,Den.mono (Keep.of (Same.refl _)) s'.sub _ _ dn,hgm _ ρ' _ _ (λρ2 q σ2 R2 o2=>?_) (hstep i its[i] ρ' (Xl hlt) hI)⟩;have so:zaz ρ σ H1 ρ2 σ2:=λb hb=>o' b (o2 b hb);have st:Step ρ σ Fz1 H1 F' H2:=s'.trans o' (.of x2);refine⟨ρ2,F',R2,hbm ρ2 { O with nx:=Iv (i+1),ct:=Iv (i+1),bk:=O.nx } _ ⟨λρ3 q σ3 F3 H3 s3 o3 R3=>?_,λd k q v F3 H3 s3 al r=>?_,λρ3 q σ3 F3 H3 s3 o3 R3=>?_,λρ3 q σ3 F3 H3 s3 o3 R3=>?_⟩ q⟩
  ·exact⟨ρ3,F3,R3,q,st.trans so s3,zaz.trans st so o3⟩
  ·refine hO.rt d k q v F3 H3 (st.trans so s3) al ?_;cases k with
   | frz=>exact r
   | own j=>exact r
   | new=>
    obtain⟨a,e,nf,ow,w⟩:=r;refine⟨a,e,nf,ow,?_⟩;rcases w with w | w
    ·exact so a w
    ·exact(st.none w).symm
  ·exact hO.nx ρ3 q σ3 F3 H3 (st.trans so s3) (zaz.trans st so o3) R3
  ·exact⟨ρ3,F3,R3,q,st.trans so s3,zaz.trans st so o3⟩
 ·have e:i=its.length:=by lia
  subst e;exact .inl ⟨wstop (Xf _),hO.nx ρ' (hdone ρ' hI) σ' F' H' s' o' R'⟩
theorem zkU (him:∀ρ Q Q',(∀its o,Q its o->Q' its o)->ti ρ Q->ti ρ Q')(hgm:∀d ρ Q Q',(∀ρ,Q ρ->Q' ρ)->g d ρ Q->g d ρ Q')(hbm:∀ρ O O',POut.le O O'->tb ρ O->tb ρ O'):∀ρ O O',POut.le O O'->pFor ti g tb ρ O->pFor ti g tb ρ O':=λρ O O' m h=>
 him ρ _ _ (λits o q79q=>by obtain⟨e,I,h0,hs,hd⟩:=q79q;exact⟨e,I,h0,λi d ρ' hi hI=>hgm d ρ' _ _ (λρ2 q=>hbm ρ2 { O with nx:=I (i+1),ct:=I (i+1),bk:=O.nx } _ ⟨λ_ q=>q,m.rt,m.nx,λ_ q=>q⟩ q) (hs i d ρ' hi hI),λρ' hI=>m.nx _ (hd ρ' hI)⟩) h
theorem zbg (hc:X.calm=true)(hp:PassesOwn (model X.prog X.w) X.A X.env X.xe)(hi:PuI X tg iter ti)(hg:PuG X tg g)(hb:PuSs X body tb)(hs:autoParam (∀x,foldedSetIterable iter X.env x=pure x) aU5):PuS X (.For tg iter body [] pos) (pFor ti g tb) where
 mono:=zkU hi.mono hg.mono hb.mono
 run:=PS.weak (zpm hp hc hi.run hg.run hb.run hs) λD σ H h=>by
  obtain⟨ρ,Fz,R,h⟩:=h;refine⟨ρ,Fz,R,hi.mono ρ _ _ (λits o q J Fz1 H1 x wk=>?_) h⟩;obtain⟨rfl,Iv,h0,hstep,hdone⟩:=q;exact zmy hg.mono hb.mono (R.ext x) wk Iv h0 hstep (zbR (.of x) (zaz.refl ρ σ H)) hdone
theorem zcO (hp:PassesOwn (model X.prog X.w) X.A X.env X.xe)(hc:PuT X c tc)(hb:PuSs X body tb):PuS X (.While c body [] pos) (zcp tc tb) where
 mono ρ O O' m h:=by
  obtain⟨Iv,h0,h⟩:=h;refine⟨Iv,h0,λn ρ' hI=>hc.mono ρ' _ _ (λb q=>?_) (h n ρ' hI)⟩;cases b with
  | true=>rw[if_pos rfl]at q ⊢;exact hb.mono ρ' { O with nx:=λρ2=>∃m',m'<n/\Iv m' ρ2,ct:=λρ2=>∃m',m'<n/\Iv m' ρ2,bk:=O.nx } _ ⟨λ_ q=>q,m.rt,m.nx,λ_ q=>q⟩ q
  | false=>rw[if_neg Xi]at q ⊢;exact m.nx _ q
 run:=PS.weak (zio hp hc.run hb.run) λD σ H h=>by
  obtain⟨ρ,Fz,R,Iv,⟨m0,h0⟩,h⟩:=h;refine⟨λm σ' H'=>∃ρ' F',Rel X.K F' ρ' σ' H'/\Iv m ρ'/\Step ρ σ Fz H F' H'/\zaz ρ σ H ρ' σ',
   ⟨m0,ρ,Fz,R,h0,.of ⟨Same.refl _,λ_ h=>h,λ_ h=>.inl h,R.al⟩,zaz.refl ρ σ H⟩,?_⟩
  rintro m σ' H' ⟨ρ',F',R',hI,s',o'⟩;refine⟨ρ',F',R',hc.mono ρ' _ _ (λb q F2 H2 x2=>?_) (h m ρ' hI)⟩;have st:Step ρ σ Fz H F2 H2:=s'.trans o' (.of x2);cases b with
  | true=>
   rw[if_pos rfl]at q;refine iteT ?_;refine⟨λσ3 H3=>∃m',m'<m/\∃ρ3 F3,Rel X.K F3 ρ3 σ3 H3/\Iv m' ρ3/\Step ρ σ Fz H F3 H3/\zaz ρ σ H ρ3 σ3,λσ3 H3 hN=>hN,ρ',F2,R'.ext x2,hb.mono ρ' _ _ ⟨λρ3 q σ3 F3 H3 s3 o3 R3=>?_,λd k q v F3 H3 s3 al r=>?_,λρ3 q σ3 F3 H3 s3 o3 R3=>?_,λρ3 q σ3 F3 H3 s3 o3 R3=>?_⟩ q⟩
   ·obtain⟨m',hm,hI'⟩:=q;exact⟨m',hm,ρ3,F3,R3,hI',st.trans o' s3,zaz.trans st o' o3⟩
   ·refine q v F3 H3 (st.trans o' s3) al ?_;cases k with
    | frz=>exact r
    | own j=>exact r
    | new=>
     obtain⟨a,e,nf,ow,w⟩:=r;refine⟨a,e,nf,ow,?_⟩;rcases w with w | w
     ·exact o' a w
     ·exact(st.none w).symm
   ·exact q σ3 F3 H3 (st.trans o' s3) (zaz.trans st o' o3) R3
   ·obtain⟨m',hm,hI'⟩:=q;exact⟨m',hm,ρ3,F3,R3,hI',st.trans o' s3,zaz.trans st o' o3⟩
  | false=>
   rw[if_neg Xi]at q;exact iteF (q σ' F2 H2 st o' (R'.ext x2))
end
theorem _root_.L2.Same.upd' {H H':Hp}{l:Addr}{o:HO}(s:Same H H')(h:H l=none):Same H (L2.upd H' l o):=λb u e=>by
 rw[zai (zay e h)];exact s b u e
structure PuTs (X:Cx)(ifs:List Expr)(t:TPT):Prop where
 mono:∀ρ Q Q',(∀b,Q b->Q' b)->t ρ Q->t ρ Q'
 run:PTs X ifs (liftT X.K t)
noncomputable def zel:TPT:=λ_ Q=>Q true
theorem PTs.weak {X:Cx}{e:List Expr}{t t':TT}(h:PTs X e t)(w:∀σ H Q,t' σ H Q->t σ H Q):PTs X e t':=λpins s σ H Q I q=>h pins s σ H Q I (w σ H Q q)
theorem zbh {X:Cx}:PuTs X [] zel where
 mono ρ Q Q' m h:=m _ h
 run:=PTs.weak zod λσ H Q h=>by
  obtain⟨ρ,Fz,R,h⟩:=h;exact h Fz H ⟨Same.refl H,λ_ h=>h,λ_ h=>.inl h,R.al⟩
theorem zgm {X:Cx}{c:Expr}{t:TPT}(h:PuT X c t):PuTs X [c] t:=⟨h.mono,zoe h.run⟩
noncomputable def blkP (k:Nat)(js:List Nat)(ρ:PEnv):PEnv:=List.replicate k none++js.map λj=>(ρ[j]?).getD none
noncomputable def zcG (k:Nat)(js:List Nat)(ti:TPI)(g:TPG)(tt:TPT)(te:TPE):TPE:=λρ Q=>ti ρ λits _=>its.length<=sizeLine/\∃Pv:Nat->List PV->Prop,Pv 0 []/\
 (∀i d out,its[i]? = some d->out.length<=i->Pv i out->g d (blkP k js ρ) λρ2=>tt ρ2 λb=>if b=true then te ρ2 λe ke=>isOwn ke=false/\Pv (i+1) (out++[e]) else Pv (i+1) out)/\
 ∀out,out.length<=its.length->Pv its.length out->Q (.lst out) .new
structure PBlk (X:Cx)(N:List Str)(sc:Scope)(tg:Expr)(ifs:List Expr)(elt:Expr)(g:TPG)(tt:TPT)(te:TPE):Prop where
 tgt:∀C cells fp s H,PuG (cxB X N sc C cells fp s H) tg g
 tst:∀C cells fp s H,PuTs (cxB X N sc C cells fp s H) ifs tt
 val:∀C cells fp s H,PuE (cxB X N sc C cells fp s H) elt te
theorem PBlk.blk {X:Cx}{N:List Str}{sc:Scope}{tg:Expr}{ifs:List Expr}{elt:Expr}{g:TPG}{tt:TPT}{te:TPE}(B:PBlk X N sc tg ifs elt g tt te):Blk X N sc tg ifs elt (zkT X.K g) (liftT X.K tt) (lift X.K te):=
 ⟨λC cells fp s H=>(B.tgt C cells fp s H).run,λC cells fp s H=>(B.tst C cells fp s H).run,λC cells fp s H=>(B.val C cells fp s H).run⟩
theorem zdr {k:Nat}{js:List Nat}{ρ:PEnv}{i:Nat}{d:PV}{b:Bool}(h:(blkP k js ρ)[i]? = some (some (d,b))):∃i' j,i=k+i'/\js[i']? = some j/\ρ[j]? = some (some (d,b)):=by
 unfold blkP at h;have hik:k<=i:=by
  by_cases hik:k<=i
  ·exact hik
  ·rw[YD (by simp;lia),List.getElem?_replicate]at h;split at h<;>cases h
 obtain⟨i',rfl⟩:∃i',i=k+i':=⟨i-k,by lia⟩;rw[YA (by simp),YL,show k+i'-k=i' by lia,Xk]at h;cases hj:js[i']? with
 | none=>rw[hj]at h;cases h
 | some j=>
  rw[hj]at h;refine⟨i',j,rfl,hj,?_⟩;have h':(ρ[j]?).getD none=some (d,b):=Option.some.inj h;cases q:ρ[j]? with
  | none=>rw[q]at h';cases h'
  | some o=>rw[q]at h';exact congrArg some h'
theorem zcP {k:Nat}{js:List Nat}{σ:St}{i' j:Nat}{o:Option V}(hj:js[i']? = some j)(h:σ[j]? = some o):(zdF k js σ)[k+i']? = some o:=by
 unfold zdF;rw[YA (by simp),YL,show k+i'-k=i' by lia,Xk,hj];show some ((σ[j]?).getD none)=_;rw[h];rfl
theorem Rel.block {K:Xa}{Fz:FZ}{ρ:PEnv}{σ:St}{H:Hp}{k:Nat}{js:List Nat}(R:Rel K Fz ρ σ H)(nd:js.Nodup):Rel K Fz (blkP k js ρ) (zdF k js σ) H where
 al:=R.al
 len:=by unfold blkP zdF;simp
 frz i d h:=by
  obtain⟨i',j,rfl,hj,h⟩:=zdr h;obtain⟨v,e,q⟩:=R.frz j d h;exact⟨v,zcP hj e,q⟩
 own i d h:=by
  obtain⟨i',j,rfl,hj,h⟩:=zdr h;obtain⟨a,e,n,q⟩:=R.own j d h;exact⟨a,zcP hj e,n,q⟩
 inj i1 i2 d e a h1 h2 h3 h4:=by
  obtain⟨i',j,rfl,hj,h1⟩:=zdr h1;obtain⟨i'',j',rfl,hj',h2⟩:=zdr h2;obtain⟨a1,e1,_,_⟩:=R.own j d h1;obtain⟨a2,e2,_,_⟩:=R.own j' e h2;rw[zcP hj e1]at h3;rw[zcP hj' e2]at h4;have ea1:a1=a:=by have:=Option.some.inj (Option.some.inj h3);injection this
  have ea2:a2=a:=by have:=Option.some.inj (Option.some.inj h4);injection this
  subst ea1;subst ea2;have ej:=R.inj j j' d e _ h1 h2 e1 e2;subst ej;have l1:i'<js.length:=(Xd.mp hj).1;have e1':i'=i'':=(List.getElem?_inj l1 nd).mp (hj.trans hj'.symm);rw[e1']
theorem zop {ρ:PEnv}{σ:St}{k:Nat}{js:List Nat}{Fz:FZ}{K:Xa}{H:Hp}(R:Rel K Fz ρ σ H){b:Addr}(h:zaM (blkP k js ρ) (zdF k js σ) b):zaM ρ σ b:=by
 obtain⟨i,d,h1,h2⟩:=h;obtain⟨i',j,rfl,hj,h1⟩:=zdr h1;obtain⟨a1,e1,_,_⟩:=R.own j d h1;rw[zcP hj e1]at h2;cases h2;exact⟨j,d,h1,e1⟩
theorem Rel.zkV {K:Xa}{Fz:FZ}{ρ ρ':PEnv}{σ:St}{H:Hp}{k:Nat}{js:List Nat}(R:Rel K Fz ρ' σ H)(hl:ρ'.length=(blkP k js ρ).length)(hs:∀j,k<=j->ρ'[j]? = (blkP k js ρ)[j]?):Rel K Fz (blkP k js ρ) σ H:=by
 have tr:∀i d b,(blkP k js ρ)[i]? = some (some (d,b))->ρ'[i]? = some (some (d,b)):=λi d b h=>by
  obtain⟨i',j,rfl,_⟩:=zdr h;rw[hs _ (by lia)];exact h
 exact⟨R.al,by rw[<- hl];exact R.len,λi d h=>R.frz i d (tr _ _ _ h),λi d h=>R.own i d (tr _ _ _ h),λi j d e a h1 h2=>R.inj i j d e a (tr _ _ _ h1) (tr _ _ _ h2)⟩
theorem Rel.other {K:Xa}{Fz:FZ}{ρ:PEnv}{σ:St}{H:Hp}{l:Addr}{o u:HO}(R:Rel K Fz ρ σ H)(h:H l=some u)(hi:¬ Imm u)(nf:¬ Fz l)(no:¬ zaM ρ σ l):Rel K Fz ρ σ (upd H l o):=by
 have kp:Keep Fz H (upd H l o):=.mk' λb w e hw=>by
  have ne:b≠l:=λz=>by
   subst z;rcases hw with hw | hw
   ·exact nf hw
   ·rw[h]at e;cases e;exact hi hw
  rw[zai ne];exact e
 refine⟨λb hb=>?_,R.len,λi d e=>?_,λi d e=>?_,R.inj⟩
 ·have ne:b≠l:=λz=>by subst z;exact nf hb
  rw[zai ne];exact R.al b hb
 ·obtain⟨v,q1,q2⟩:=R.frz i d e;exact⟨v,q1,Den.mono kp (λ_ h=>h) _ _ q2⟩
 ·obtain⟨a,q1,q2,q3⟩:=R.own i d e;refine⟨a,q1,q2,q3.mono kp (λ_ h=>h) λw hw=>?_⟩;have ne:a≠l:=λz=>by subst z;exact no ⟨i,d,e,q1⟩
  rw[zai ne];exact hw
section
variable {X:Cx}{elt tg iter:Expr}{ifs:List Expr}{sc:Scope}{pos:Pos}{N:List Str}{k:Nat}{js:List Nat}{ti:TPI}{g:TPG}{tt:TPT}{te:TPE}
theorem zhf (hi:PuI X tg iter ti)(B:PBlk X N sc tg ifs elt g tt te):∀ρ Q Q',(∀d k,Q d k->Q' d k)->zcG k js ti g tt te ρ Q->zcG k js ti g tt te ρ Q':=
 λρ Q Q' m h=>hi.mono ρ _ _ (λits o q80q=>by obtain⟨hz,Pv,h0,hs,hd⟩:=q80q;exact⟨hz,Pv,h0,hs,λout hl hp=>m _ _ (hd out hl hp)⟩) h
theorem zkW (nd:js.Nodup)(hloc:LocG k g)(B:PBlk X N sc tg ifs elt g tt te){ρ:PEnv}{σ:St}{H H1:Hp}{Fz1:FZ}{o:Bool}{J:It}{its:List PV}{l:Addr}{Rr:Hp->Prop}(R1:Rel X.K Fz1 ρ σ H1)(wk:Walk X.K Fz1 o J its H1)(hl:H1 l=none)(hz:its.length<=sizeLine)(Pv:Nat->List PV->Prop)(h0:Pv 0 [])
  (hstep:∀i d out,its[i]? = some d->out.length<=i->Pv i out->g d (blkP k js ρ) λρ2=>tt ρ2 λb=>if b=true then te ρ2 λe ke=>isOwn ke=false/\Pv (i+1) (out++[e]) else Pv (i+1) out)
  (hdone:∀F' out xs H',Ext Fz1 H1 F' H'->H' l=some (.lst xs)->DenL X.K F' H' out xs->¬ F' l->out.length<=its.length->Pv its.length out->Rr H') :
  zky J (zkT X.K g) (liftT X.K tt) (lift X.K te) l (zdF k js σ) H1 Rr:=by
 have mg:=(B.tgt 0 [] [] X.s₀ H).mono;have mt:=(B.tst 0 [] [] X.s₀ H).mono;have me:=(B.val 0 [] [] X.s₀ H).mono;have nf1:¬ Fz1 l:=λz=>R1.al l z hl;have no1:¬ zaM ρ σ l:=λ⟨i,d,h1,h2⟩=>by
  obtain⟨a,q1,_,q3⟩:=R1.own i d h1;rw[h2]at q1;cases q1;obtain⟨o',q4,_⟩:=q3.at;rw[hl]at q4;cases q4
 refine⟨λi m σ' H'=>m=its.length-i/\i<=its.length/\∃F' out xs,Rel X.K F' (blkP k js ρ) σ' H'/\(∀b,zaM (blkP k js ρ) σ' b->zaM ρ σ b)/\H' l=some (.lst xs)/\DenL X.K F' H' out xs/\¬ F' l/\out.length<=i/\Pv i out/\Same H1 H'/\(∀b,Fz1 b->F' b)/\(∀b,F' b->Fz1 b\/H1 b=none),
  ⟨its.length,by lia,Yf _,Fz1,[],[],?_,λb hb=>zop R1 hb,zak,DenL.nil,nf1,Yf _,h0,(Same.refl H1).upd' hl,λ_ h=>h,λ_ h=>.inl h⟩,?_⟩
 ·have x0:Ext Fz1 H1 Fz1 (upd H1 l (.lst [])):=Ext.laid ⟨Same.refl _,λ_ h=>h,λ_ h=>.inl h,R1.al⟩ hl;exact(R1.block nd).ext x0
 rintro i m σ' H' ⟨rfl,hle,F',out,xs,Rb,ob,hlx,hout,nfl,hol,hP,sm,s1,s2⟩;obtain⟨wgo,wstop⟩:=wk H' (.inl sm) i;by_cases hlt:i<its.length
 ·obtain⟨go,yl⟩:=wgo its[i] (Xl hlt);refine .inr ⟨go,λxv H2 y=>?_⟩;obtain⟨sm2,dn⟩:=yl xv H2 y;have x2:Ext F' H' F' H2:=⟨sm2,λ_ h=>h,λ_ h=>.inl h,λb hb z=>Rb.al b hb (sm2.free z)⟩;refine⟨blkP k js ρ,F',its[i],Rb.ext x2,Den.mono (Keep.of (Same.refl _)) s1 _ _ dn,mg _ _ _ _ (λρ2 ⟨q,l2,a2⟩ σ2 R2 o2=>?_) (hloc _ _ _ (hstep i its[i] out (Xl hlt) hol hP))⟩;refine⟨ρ2,F',R2,mt ρ2 _ _ (λb q F4 H4 x4=>?_) q⟩;have R4:Rel X.K F4 ρ2 σ2 H4:=R2.ext x4;have own2:∀b,zaM (blkP k js ρ) σ2 b->zaM ρ σ b:=λb ⟨j,d,h1,h2⟩=>by
   refine ob b (o2 b ⟨j,d,?_,h2⟩);obtain⟨i',j',e,_⟩:=zdr h1;rw[a2 j (by lia)];exact h1
  have hl4:H4 l=some (.lst xs):=x4.same _ _ (sm2 _ _ hlx);have nf4:¬ F4 l:=λz=>by
   rcases x4.new l z with z | z
   ·exact nfl z
   ·rw[sm2 _ _ hlx]at z;cases z
  cases b with
  | false=>
   rw[if_neg Xi]at q;refine iteF ⟨its.length-(i+1),by lia,rfl,hlt,F4,out,xs,Rel.zkV R4 l2 a2,own2,hl4,DenL.mono (.of (sm2.trans x4.same)) x4.sub _ _ hout,nf4,by lia,q,sm.trans (sm2.trans x4.same),λb hb=>x4.sub b (s1 b hb),λb hb=>?_⟩;rcases x4.new b hb with z | z
   ·exact s2 b z
   ·exact .inr (sm.free (sm2.free z))
  | true=>
   rw[if_pos rfl]at q;refine iteT ⟨ρ2,F4,R4,me ρ2 _ _ (λe ke q84q v F5 H5 p5=>?_) q⟩;obtain⟨hk,q⟩:=q84q;have hk':ke=.frz\/ke=.new:=by
    cases ke with
    | frz=>exact .inl rfl
    | new=>exact .inr rfl
    | own j=>cases hk
   obtain⟨F6,x6,s6,d6⟩:=p5.frozen hk';have hl5:H5 l=some (.lst xs):=x6.same _ _ hl4;have nf6:¬ F6 l:=λz=>by
    rcases x6.new l z with z | z
    ·exact nf4 z
    ·rw[hl4]at z;cases z
   have R6:Rel X.K F6 ρ2 σ2 H5:=R4.ext x6;have Rb6:Rel X.K F6 (blkP k js ρ) σ2 H5:=Rel.zkV R6 l2 a2;have no6:¬ zaM (blkP k js ρ) σ2 l:=λz=>no1 (own2 l z);have kp:Keep F6 H5 (upd H5 l (.lst (xs++[v]))):=.mk' λb w e hw=>by
    have ne:b≠l:=λz=>by
     subst z;rcases hw with hw | hw
     ·exact nf6 hw
     ·rw[hl5]at e;cases e;exact hw
    rw[zai ne];exact e
   have hxl:=hout.length;refine⟨xs,hl5,by lia,its.length-(i+1),by lia,rfl,hlt,F6,out++[e],xs++[v],Rb6.other hl5 (λz=>z) nf6 no6,own2,zak,?_,nf6,by rw[Xr];simp;lia,q,?_,λb hb=>x6.sub b (x4.sub b (s1 b hb)),λb hb=>?_⟩
   ·exact DenL.mono kp (λ_ h=>h) _ _ (DenL.snoc (DenL.mono (.of (sm2.trans (x4.same.trans x6.same))) (λb hb=>x6.sub b (x4.sub b hb)) _ _ hout) d6)
   ·exact(sm.trans (sm2.trans (x4.same.trans x6.same))).upd' hl
   ·rcases x6.new b hb with z | z
    ·rcases x4.new b z with z | z
     ·exact s2 b z
     ·exact .inr (sm.free (sm2.free z))
    ·exact .inr (sm.free (sm2.free (x4.same.free z)))
 ·have e:i=its.length:=by lia
  subst e;exact .inl ⟨wstop (Xf _),hdone F' out xs H' ⟨sm,s1,s2,Rb.al⟩ hlx hout nfl hol hP⟩
theorem zfe (nd:js.Nodup)(hloc:LocG k g)(hi:PuI X tg iter ti)(B:PBlk X N sc tg ifs elt g tt te){σ:St}{H:Hp}{Q:VK}(h:lift X.K (zcG k js ti g tt te) σ H Q) :
  zof k js (zpT X.K ti) (zkT X.K g) (liftT X.K tt) (lift X.K te) σ H Q:=by
 obtain⟨ρ,Fz,R,h⟩:=h;refine⟨ρ,Fz,R,hi.mono ρ _ _ (λits o q J Fz1 H1 x wk l hl=>?_) h⟩;obtain⟨hz,Pv,h0,hstep,hdone⟩:=q;refine zkW (H:=H) nd hloc B (R.ext x) wk hl hz Pv h0 hstep λF' out xs H' x' hlx hout nfl hol hP=>?_;exact hdone out hol hP _ F' H' ⟨x.trans x',l,rfl,x.same.free hl,nfl,xs,hlx,hout⟩
theorem zbT (hc:X.calm=true)(S:zcy X N k js sc)(nd:js.Nodup)(hloc:LocG k g)(hi:PuI X tg iter ti)(B:PBlk X N sc tg ifs elt g tt te)(hs:autoParam (∀x,foldedSetIterable iter X.env x=pure x) aU5) :
  PuE X (.ListComp elt [⟨tg,iter,ifs,0⟩] sc pos) (zcG k js ti g tt te):=
 ⟨zhf hi B,PE.weak (zog hc S hi.run B.blk hs) λ_ _ _ h=>zfe nd hloc hi B h⟩
theorem zeJ {i:Nat}{x:Str}{pos' pos2:Pos}(hc:X.calm=true)(S:zcy X N k js sc)(nd:js.Nodup)(hloc:LocG k g)(hi:PuI X tg iter ti)(B:PBlk X N sc tg ifs elt g tt te)(hN:X.N.Nodup)(hx:X.N[i]? = some x)(hk:X.env.scope.names.lookup x=some .local)
  (hsw:autoParam (swapsWith (.ListComp elt [⟨tg,iter,ifs,0⟩] sc pos) (some (.Name x pos')) pos2.line X.env=pure true) aU0) (hs:autoParam (∀x,foldedSetIterable iter X.env x=pure x) aU5) :
  PuS X (.Assign [.Name x pos'] (.ListComp elt [⟨tg,iter,ifs,0⟩] sc pos) pos2) (pSet i (zcG k js ti g tt te)) where
 mono:=zhe (zbT (pos:=pos) hc S nd hloc hi B hs)
 run:=PS.weak (zkz hc S hi.run B.blk hN hx hk hsw hs) λD σ H h=>by
  have q:=ziJ (zbT (pos:=pos) hc S nd hloc hi B hs) h;exact zfe nd hloc hi B q
end
noncomputable def zaD (N:List Str)(ds:List PV):PEnv:=ds.map (λd=>some (d,false))++List.replicate (N.length-ds.length) none
noncomputable def zcb (Q:PV->Kd->Prop):POut:=⟨λ_=>Q .non .frz,Q,λ_=>False,λ_=>False⟩
theorem zoq {K:Xa}{F:PF}{ps:List Str}(h:∀ds Q,F ds Q->ds.length=ps.length):∀vs H Q E,spP K F vs H Q E->vs.length=ps.length:=λvs H Q E q85q=>by obtain⟨Fz,ds,_,hd,q⟩:=q85q;rw[<- hd.length];exact h _ _ q
theorem zdN {K:Xa}{Fz:FZ}{H:Hp}{N:List Str}{ds:List PV}{vs:List V}(al:∀b,Fz b->H b≠none)(h:DenL K Fz H ds vs):Rel K Fz (zaD N ds) (start N vs) H/\∀σ b,¬ zaM (zaD N ds) σ b:=by
 have hl:=h.length;have get:∀(i:Nat) (d:PV) (b:Bool),(zaD N ds)[i]? = some (some (d,b))->b=false/\ds[i]? = some d:=λi d b e=>by
  unfold zaD at e;by_cases hi:i<ds.length
  ·rw[YD (by simpa using hi),Xk,Xl hi]at e;have e':(some (ds[i],false):Option (PV×Bool))=some (d,b):=Option.some.inj e;have e2:=Option.some.inj e';exact⟨(congrArg Prod.snd e2).symm,by rw[Xl hi];exact congrArg some (congrArg Prod.fst e2)⟩
  ·rw[YA (by simpa using hi),List.getElem?_replicate]at e;split at e<;>cases e
 refine⟨⟨al,by unfold zaD L2.start;simp[hl],λi d e=>?_,λi d e=>?_,λi j d e a h1=>?_⟩,λσ b ⟨i,d,e,_⟩=>?_⟩
 ·obtain⟨_,e'⟩:=get i d false e;obtain⟨v,q1,q2⟩:=h.get e';have hi:i<vs.length:=(Xd.mp q1).1;refine⟨v,?_,q2⟩;unfold L2.start;rw[YD (by simpa using hi),Xk,q1];rfl
 ·exact absurd (get i d true e).1 (by decide)
 ·exact absurd (get i d true h1).1 (by decide)
 ·exact absurd (get i d true e).1 (by decide)
section
variable {P:Program}{w:World}{K:Xa}{mg:Str->Option Value}{base:Heap}
theorem zax {x qual:Str}{st:Stmt}{f:Addr}{fd:FuncData}{N ps:List Str}{k:Nat}{F:PF}(Fn:Fun K x qual st f fd)(S:zan N ps (zac st))(len:∀ds Q,F ds Q->ds.length=ps.length)
  (hbody:∀(cdv:Value) (A:Around) (outer:List Env) (s:Shared) (H:Hp) (E:XK),Room k (A.deeper (envOfC qual (zac st) s.heap.objs.size f cdv))->
   ∃t,PuSs (cxOf CX0 P w K mg base N qual (zac st) f cdv A outer s H E).nox (zam st) t/\∀ds Q,F ds Q->t (zaD N ds) (zcb Q)):FnOk P w K mg base CX0 (k+1) f fd ps (spP K F):=by
 refine Fn.ok S (zoq len) (λcdv A outer s H vs Q E hr h=>?_);obtain⟨t,ht,hq⟩:=hbody cdv A outer s H E hr;obtain⟨Fz,ds,al,hd,h⟩:=h;obtain⟨R,no⟩:=zdN (N:=N) al hd;refine⟨_,ht.run,zaD N ds,Fz,R,ht.mono _ (zcb _) _ ⟨λρ' q σ' F' H' s' o' R'=>?_,λd k q v F' H' s' al' r=>?_,λ_ z=>z.elim,λ_ z=>z.elim⟩ (hq ds _ h)⟩
 ·exact q .non F' H' ⟨⟨λb o e=>s'.keep b o e (no _ b),s'.sub,λb hb=>(s'.new b hb).elim .inl (λz=>z.elim .inr (λz=>(no _ b z).elim)),R'.al⟩,by show Den _ _ _ _ _;simp only[Den]⟩
 ·refine q v F' H' ⟨⟨λb o e=>s'.keep b o e (no _ b),s'.sub,λb hb=>(s'.new b hb).elim .inl (λz=>z.elim .inr (λz=>(no _ b z).elim)),al'⟩,?_⟩;cases k with
  | frz=>exact r
  | own i=>exact r.elim
  | new=>
   obtain⟨a,e,nf,o,w⟩:=r;exact⟨a,e,w.resolve_left (no _ a),nf,o⟩
end
theorem Rel.mut {K:Xa}{Fz:FZ}{ρ:PEnv}{σ:St}{H:Hp}{i:Nat}{d d':PV}{a:Addr}{o u:HO}(R:Rel K Fz ρ σ H)(hi:ρ[i]? = some (some (d,true)))(hs:σ[i]? = some (some (.ref a)))(hu:H a=some u)
  (ho:Own K Fz (upd H a o) d' a):Rel K Fz (ρ.set i (some (d',true))) σ (upd H a o)/\Step ρ σ Fz H Fz (upd H a o)/\zaz ρ σ H (ρ.set i (some (d',true))) σ:=by
 obtain⟨a',e',nf,ow⟩:=R.own i d hi;rw[hs]at e';cases e';have hil:i<ρ.length:=(Xd.mp hi).1;have im:¬ Imm u:=by obtain⟨o',q1,q2⟩:=ow.at;rw[hu]at q1;cases q1;exact q2
 have kp:Keep Fz H (upd H a o):=.mk' λb w e hw=>by
  have ne:b≠a:=λz=>by
   subst z;rcases hw with hw | hw
   ·exact nf hw
   ·rw[hu]at e;cases e;exact im hw
  rw[zai ne];exact e
 have st:∀j e,(ρ.set i (some (d',true)))[j]? = some (some (e,true))->∃e0,ρ[j]? = some (some (e0,true)):=λj e h=>by
  by_cases hij:i=j
  ·subst hij;exact⟨d,hi⟩
  ·rw[Xc hij]at h;exact⟨e,h⟩
 refine⟨⟨λb hb=>?_,by rw[XZ];exact R.len,λj e h=>?_,λj e h=>?_,λj k e1 e2 b h1 h2 h3 h4=>?_⟩,⟨λ_ h=>h,λ_ h=>.inl h,λb w e n=>?_⟩,λb ⟨j,e,h1,h2⟩=>?_⟩
 ·have ne:b≠a:=λz=>by subst z;exact nf hb
  rw[zai ne];exact R.al b hb
 ·by_cases hij:i=j
  ·subst hij;rw[Xg hil]at h;cases h
  ·rw[Xc hij]at h;obtain⟨v,q1,q2⟩:=R.frz j e h;exact⟨v,q1,Den.mono kp (λ_ h=>h) _ _ q2⟩
 ·by_cases hij:i=j
  ·subst hij;rw[Xg hil]at h;cases h;exact⟨a,hs,nf,ho⟩
  ·rw[Xc hij]at h;obtain⟨b,q1,q2,q3⟩:=R.own j e h;refine⟨b,q1,q2,q3.mono kp (λ_ h=>h) λw hw=>?_⟩;have ne:b≠a:=λz=>by subst z;exact hij (R.inj i j d e _ hi h hs q1)
   rw[zai ne];exact hw
 ·obtain⟨e1',g1⟩:=st j e1 h1;obtain⟨e2',g2⟩:=st k e2 h2;exact R.inj j k e1' e2' b g1 g2 h3 h4
 ·have ne:b≠a:=λz=>by subst z;exact n ⟨i,d,hi,hs⟩
  rw[zai ne];exact e
 ·obtain⟨e',g⟩:=st j e h1;exact .inl ⟨j,e',g,h2⟩
noncomputable abbrev TPM:=PEnv->(PV->PEnv->Prop)->Prop
noncomputable def liftM (K:Xa)(t:TPM):TE:=λσ H Q=>∃ρ Fz,Rel K Fz ρ σ H/\t ρ λd ρ'=>∀v Fz' H',Step ρ σ Fz H Fz' H'->zaz ρ σ H ρ' σ->Rel K Fz' ρ' σ H'->Den K Fz' H' d v->Q v H'
structure PuM (X:Cx)(e:Expr)(t:TPM):Prop where
 mono:∀ρ Q Q',(∀d ρ,Q d ρ->Q' d ρ)->t ρ Q->t ρ Q'
 run:PE X e (liftM X.K t)
noncomputable def mApp (i:Nat)(te:TPE):TPM:=λρ Q=>∃ds,ρ[i]? = some (some (.lst ds,true))/\ds.length<sizeLine/\te ρ λd k=>isOwn k=false/\Q .non (ρ.set i (some (.lst (ds++[d]),true)))
noncomputable def zem (i:Nat)(te:TPE):TPM:=λρ Q=>∃ds,ρ[i]? = some (some (.lst ds,true))/\te ρ λd _=>∃es,d=.tup es/\ds.length+es.length<=sizeLine/\Q .non (ρ.set i (some (.lst (ds++es),true)))
theorem zgn {K:Xa}{Fz:FZ}{ρ:PEnv}{σ:St}{H:Hp}{i:Nat}{ds:List PV}(R:Rel K Fz ρ σ H)(h:ρ[i]? = some (some (.lst ds,true))):∃a xs,σ[i]? = some (some (.ref a))/\H a=some (.lst xs)/\DenL K Fz H ds xs/\¬ Fz a:=by
 obtain⟨a,e,nf,xs,h1,h2⟩:=R.own i _ h;exact⟨a,xs,e,h1,h2,nf⟩
theorem DenL.rew {K:Xa}{Fz:FZ}{H:Hp}{ds:List PV}{xs ys:List V}{a:Addr}{o:HO}(ha:H a=some (.lst ys))(nf:¬ Fz a)(h:DenL K Fz H ds xs):DenL K Fz (upd H a o) ds xs:=
 DenL.mono (.mk' λb w e hw=>by
  have ne:b≠a:=λz=>by
   subst z;rcases hw with hw | hw
   ·exact nf hw
   ·rw[ha]at e;cases e;exact hw
  rw[zai ne];exact e) (λ_ h=>h) _ _ h
section
variable {X:Cx}{x:Str}{e:Expr}{te:TPE}{tm:TPM}{p apos cpos:Pos}
theorem zba (i:Nat)(he:PuE X e te)(hN:autoParam (X.N[i]? = some x) aU0)(hv:autoParam (Vis X.env.scope x) aU2)(hd:autoParam ((x == ("__debug__" : Str))=false) aU1) (hcd:autoParam ((x == ("__classdict__" : Str))=false) aU1)
  (hbase:autoParam (attributeBase (.Name x p) "append" X.env (eval (.Name x p) X.env)=eval (.Name x p) X.env) aU0)
  (hfew:autoParam (((backTo cpos (starEach [e] X.env)).all (λx=>!x.1)&&(backToKw cpos (keywordEach [] X.env)).all (λx=>x.1.isSome)&&decide ([e].length+([]:List Keyword).length+(if ([]:List Keyword).isEmpty then 0 else 1)<30))=true) aU0)
  (hline:autoParam ((apos.endLine == cpos.line)=true) aU0) (hs:autoParam (starEach [e] X.env=(false,eval e X.env)::starEach [] X.env) aU0) (hplain:autoParam ((backTo cpos (starEach [] X.env)).any (·.1)=false) aU0):PuM X (.Call (.Attribute (.Name x p) "append" apos) [e] [] cpos) (mApp i te) where
 mono ρ Q Q' m h:=by
  obtain⟨ds,e1,e2,h⟩:=h;exact⟨ds,e1,e2,he.mono ρ _ _ (λd k q88q=>by obtain⟨hk,q⟩:=q88q;exact⟨hk,m _ _ q⟩) h⟩
 run:=PE.weak (zoa PySem.F.plainAttrs_list PySem.F.slot_list_append PySem.F.type_list_append zeT (zbb hN hv hd hcd) (zaT he.run zcI hs) hbase hfew hline hs hplain) λσ H Q h=>by
  obtain⟨ρ,Fz,R,ds,e1,e2,h⟩:=h;obtain⟨a,xs,hs,ha,hd,nf⟩:=zgn R e1;refine⟨_,hs,.inl ⟨rfl,xs,SqL.of ha⟩,ρ,Fz,R,he.mono ρ _ _ (λd k q v F1 H1 p1=>?_) h⟩;obtain⟨hk,q⟩:=q;have hk':k=.frz\/k=.new:=by
   cases k with
   | frz=>exact .inl rfl
   | new=>exact .inr rfl
   | own j=>cases hk
  obtain⟨F2,x2,s2,d2⟩:=p1.frozen hk';have R2:=R.ext x2;obtain⟨a',xs',hs',ha',hd',nf'⟩:=zgn R2 e1;rw[hs]at hs';cases hs';have hl:=hd'.length;refine⟨a,xs',v,rfl,rfl,ha',by lia,?_⟩;have ow:Own X.K F2 (upd H1 a (.lst (xs'++[v]))) (.lst (ds++[d])) a:=⟨_,zak,(DenL.rew ha' nf' (DenL.snoc hd' d2))⟩;obtain⟨R3,s3,o3⟩:=R2.mut e1 hs ha' ow;exact q .non F2 _ ((Step.of x2).trans (zaz.refl ρ σ H) s3) (zaz.trans (Step.of x2) (zaz.refl ρ σ H) o3) R3 (by simp only[Den])
theorem zmz (i:Nat)(he:PuE X e te)(hN:autoParam (X.N[i]? = some x) aU0)(hv:autoParam (Vis X.env.scope x) aU2)(hd:autoParam ((x == ("__debug__" : Str))=false) aU1) (hcd:autoParam ((x == ("__classdict__" : Str))=false) aU1)
  (hbase:autoParam (attributeBase (.Name x p) "extend" X.env (eval (.Name x p) X.env)=eval (.Name x p) X.env) aU0)
  (hfew:autoParam (((backTo cpos (starEach [e] X.env)).all (λx=>!x.1)&&(backToKw cpos (keywordEach [] X.env)).all (λx=>x.1.isSome)&&decide ([e].length+([]:List Keyword).length+(if ([]:List Keyword).isEmpty then 0 else 1)<30))=true) aU0)
  (hline:autoParam ((apos.endLine == cpos.line)=true) aU0) (hs:autoParam (starEach [e] X.env=(false,eval e X.env)::starEach [] X.env) aU0) (hplain:autoParam ((backTo cpos (starEach [] X.env)).any (·.1)=false) aU0):PuM X (.Call (.Attribute (.Name x p) "extend" apos) [e] [] cpos) (zem i te) where
 mono ρ Q Q' m h:=by
  obtain⟨ds,e1,h⟩:=h;exact⟨ds,e1,he.mono ρ _ _ (λd _ q89q=>by obtain⟨es,q1,q2,q⟩:=q89q;exact⟨es,q1,q2,m _ _ q⟩) h⟩
 run:=PE.weak (zoa PySem.F.plainAttrs_list PySem.F.slot_list_extend PySem.F.type_list_extend zoi (zbb hN hv hd hcd) (zaT he.run zcI hs) hbase hfew hline hs hplain) λσ H Q h=>by
  obtain⟨ρ,Fz,R,ds,e1,h⟩:=h;obtain⟨a,xs,hs,ha,hd,nf⟩:=zgn R e1;refine⟨_,hs,.inl ⟨rfl,xs,SqL.of ha⟩,ρ,Fz,R,he.mono ρ _ _ (λd k q v F1 H1 p1=>?_) h⟩;obtain⟨es,rfl,q2,q⟩:=q;have R2:=R.ext p1.ext;obtain⟨a',xs',hs',ha',hd',nf'⟩:=zgn R2 e1;rw[hs]at hs';cases hs';obtain⟨b,zs,rfl,hb,hz⟩:=zaL (p1.root R);have hl:=hd'.length;have hl2:=hz.length;refine⟨a,b,xs',zs,rfl,rfl,ha',hb,by lia,?_⟩;have ow:Own X.K F1 (upd H1 a (.lst (xs'++zs))) (.lst (ds++es)) a:=⟨_,zak,(DenL.rew ha' nf' (hd'.append hz))⟩;obtain⟨R3,s3,o3⟩:=R2.mut e1 hs ha' ow;exact q .non F1 _ ((Step.of p1.ext).trans (zaz.refl ρ σ H) s3) (zaz.trans (Step.of p1.ext) (zaz.refl ρ σ H) o3) R3 (by simp only[Den])
noncomputable def zbH (tm:TPM):TPS:=λρ O=>tm ρ λ_ ρ'=>O.nx ρ'
variable {pos:Pos}
theorem zbi (he:PuM X e tm)(hs:autoParam (swapsWith e none pos.line X.env=pure false) aU0):PuS X (.Expr e pos) (zbH tm) where
 mono ρ O O' m h:=he.mono ρ _ _ (λ_ _ q=>m.nx _ q) h
 run:=PS.weak (zga he.run hs) λD σ H h=>by
  obtain⟨ρ,Fz,R,h⟩:=h;exact⟨ρ,Fz,R,he.mono ρ _ _ (λd ρ' q v F' H' s' o' R' _=>q σ F' H' s' o' R') h⟩
end
theorem zkX {K:Xa}{Fz:FZ}{H:Hp}{ds:List PV}{xs:List V}{i:Int}{d:PV}(h:DenL K Fz H ds xs)(e:atI ds i=some d):∃v,atI xs i=some v/\Den K Fz H d v:=by
 unfold atI at e ⊢;rw[<- h.length];cases q:ixN ds.length i with
 | none=>rw[q]at e;cases e
 | some j=>
  rw[q]at e;obtain⟨v,h1,h2⟩:=h.get (i:=j) (d:=d) e;exact⟨v,h1,h2⟩
noncomputable def ixV (d e x:PV):Prop:=(∃ds i,(d=.lst ds\/d=.tup ds)/\e=.int i/\atI ds i=some x)\/∃z i c,d=.str z/\e=.int i/\z.length<=sizeLine/\atI z.cps.toList i=some c/\x=.str ⟨#[c]⟩
noncomputable def pIx:P2:=λd e Q=>∃x,ixV d e x/\Q x .frz
theorem zrf {K:Xa}:POp K (rIx K) pIx where
 mono d e Q Q' m h:=by obtain⟨x,h,q⟩:=h;exact⟨x,h,m _ _ q⟩
 run Fz H x y d e Q al rx ry h:=by
  obtain⟨x',h,q⟩:=h;rcases h with ⟨ds,i,e1,rfl,e3⟩ | ⟨z,i,c,rfl,rfl,e3,e4,rfl⟩
  ·rcases e1 with rfl | rfl
   ·obtain⟨a,xs,rfl,h1,h2⟩:=zaq rx;obtain⟨v,g1,g2⟩:=zkX h2 e3;exact .inl ⟨a,xs,i,v,rfl,zas ry,h1,g1,q v Fz H (.val al g2)⟩
   ·obtain⟨a,xs,rfl,h1,h2⟩:=zaL rx;obtain⟨v,g1,g2⟩:=zkX h2 e3;exact .inr (.inl ⟨a,xs,i,v,rfl,zas ry,h1,g1,q v Fz H (.val al g2)⟩)
  ·exact .inr (.inr ⟨z,i,c,zaW rx,zas ry,e3,e4,q _ Fz H (.val al (by simp only[Den]))⟩)
section
variable {X:Cx}{a b:Expr}{ta tb:TPE}{pos:Pos}
theorem zah (ha:PuE X a ta)(hb:PuE X b tb)(hs:autoParam (zdp b) aU6):PuE X (.Subscript a b pos) (t2 pIx ta tb):=zre zgQ zrf ha hb hs
theorem zrg (hu:X.A.units+16<cLine)(ha:PuE X a ta)(hb:PuE X b tb)(hm:autoParam (behindInMarks .Eq b=false) aU4):PuE X (.Compare a [.Eq] [b] pos) (t2 (pEq false) ta tb):=znm (zno hu) zkR ha hb hm
theorem zdO (hu:X.A.units+16<cLine)(ha:PuE X a ta)(hb:PuE X b tb)(hm:autoParam (behindInMarks .Eq b=false) aU4):PuT X (.Compare a [.Eq] [b] pos) (tBl (t2 (pEq false) ta tb)):=zcK (zno hu) zkR ha hb hm
theorem zff (hu:X.A.units+16<cLine)(ha:PuE X a ta)(hb:PuE X b tb)(hm:autoParam (behindInMarks .NotEq b=false) aU4):PuT X (.Compare a [.NotEq] [b] pos) (tBl (t2 (pEq true) ta tb)):=zcK (zpL hu) zkR ha hb hm
theorem zfg (ha:PuE X a ta)(hb:PuE X b tb)(hm:autoParam (behindInMarks .Lt b=false) aU4):PuT X (.Compare a [.Lt] [b] pos) (tBl (pLt ta tb)):=zcK zqR ziF ha hb hm
theorem zhg (ha:PuE X a ta)(hb:PuE X b tb)(hm:autoParam (behindInMarks .Gt b=false) aU4):PuT X (.Compare a [.Gt] [b] pos) (tBl (pGt ta tb)):=zcK zqS ziF ha hb hm
end
noncomputable def rInP (K:Xa)(neg:Bool):R2:=λx y H Q=>∃Fz d ds p xs,Root K Fz H d x/\y=.ref p/\(SqL K H p xs\/SqT K H p xs)/\DenL K Fz H ds xs/\plain 6 d=true/\ds.all (plain 6)=true/\Q (.bl (if neg then !decide (d∈ds) else decide (d∈ds))) H
noncomputable def pIn (neg:Bool):P2:=λd e Q=>∃ds,(e=.lst ds\/e=.tup ds)/\plain 6 d=true/\ds.all (plain 6)=true/\Q (.bl (if neg then !decide (d∈ds) else decide (d∈ds))) .frz
theorem zpU {K:Xa}{neg:Bool}:POp K (rInP K neg) (pIn neg) where
 mono d e Q Q' m h:=by obtain⟨ds,e1,e2,e3,q⟩:=h;exact⟨ds,e1,e2,e3,m _ _ q⟩
 run Fz H x y d e Q al rx ry h:=by
  obtain⟨ds,e1,e2,e3,q⟩:=h;rcases e1 with rfl | rfl
  ·obtain⟨a,xs,rfl,h1,h2⟩:=zaq ry;exact⟨Fz,d,ds,a,xs,rx,rfl,.inl h1,h2,e2,e3,q _ Fz H (.val al (by simp only[Den]))⟩
  ·obtain⟨a,xs,rfl,h1,h2⟩:=zaL ry;exact⟨Fz,d,ds,a,xs,rx,rfl,.inr h1,h2,e2,e3,q _ Fz H (.val al (by simp only[Den]))⟩
noncomputable def dcd (p:Prop):Bool:=@decide p (Classical.propDecidable p)
theorem ziK {p:Prop}(h:p):dcd p=true:=@decide_eq_true p (Classical.propDecidable p) h
theorem zkY {p:Prop}(h:¬ p):dcd p=false:=@decide_eq_false p (Classical.propDecidable p) h
theorem zor {p:Prop}:dcd p=true↔p:=@decide_eq_true_iff p (Classical.propDecidable p)
section
variable {X:Cx}{pins:List (Addr×Obj)}{σ:St}{H:Hp}{s:Shared}{Fz:FZ}
theorem zeK (I:Inv X pins σ H s){A:Around}(hu:A.units+16<cLine){d:PV}{ds:List PV}{x:V}{xs:List V}{v:Value}{its:List Value}(hx:Root X.K Fz H d x)(rx:RelV x v)(r:Vals xs its)(h:DenL X.K Fz H ds xs)(pd:plain 6 d=true)(ps:ds.all (plain 6)=true) :
  ∃e:Value->Bool,(∀y,y∈its.toArray->SeqAt.EqAt A.in1 s y v (e y))/\its.toArray.any e=decide (d∈ds):=by
 refine⟨λu=>dcd (∃j:Nat,its[j]? = some u/\ds[j]? = some d),λu hu'=>?_,?_⟩
 ·obtain⟨j,hj⟩:=List.mem_iff_getElem?.mp (show u∈its by simpa using hu');have l1:=r.length;have l2:=h.length;have hjl:j<its.length:=(Xd.mp hj).1;have e1:ds[j]? = some ds[j]:=Xl (by lia);obtain⟨y,e2,q2⟩:=h.get e1;obtain⟨u',e3,q3⟩:=r.get e2;rw[hj]at e3;cases e3;have pj:plain 6 ds[j]=true:=XY.mp ps _ (Yq _);have w:dcd (∃j':Nat,its[j']? = some u/\ds[j']? = some d)=decide (ds[j]=d):=by
   by_cases hd:ds[j]=d
   ·rw[decide_eq_true hd,ziK ⟨j,hj,by rw[e1,hd]⟩]
   ·rw[decide_eq_false hd];refine zkY ?_;rintro⟨j',g1,g2⟩;obtain⟨y',e2',q2'⟩:=h.get g2;obtain⟨u',e3',q3'⟩:=r.get e2';rw[g1]at e3';cases e3';have ey:y=y':=q3.inj q3';subst ey;exact hd (zgi I 6 _ _ _ pj pd q2.root q2'.root)
  show SeqAt.EqAt A.in1 s u v (dcd (∃j':Nat,its[j']? = some u/\ds[j']? = some d));rw[w];exact(zol I 6 A.in1 ds[j] d y x u v pj pd (by show A.units+1+6<cLine;lia) q2.root hx q3 rx).2.2
 ·have l1:=r.length;have l2:=h.length;by_cases hd:d∈ds
  ·rw[decide_eq_true hd];obtain⟨j,hj⟩:=List.mem_iff_getElem?.mp hd;have hjl:j<ds.length:=(Xd.mp hj).1;rw[Array.any_eq_true];refine⟨j,by simpa using (by lia:j<its.length),?_⟩;refine ziK ⟨j,?_,hj⟩;simp
  ·rw[decide_eq_false hd];rw[Array.any_eq_false];intro i hi;intro z;obtain⟨j,g1,g2⟩:=zor.mp z;exact hd (XI g2)
theorem zpV (hu:X.A.units+16<cLine):OpR X (compareOp .In) (rInP X.K false):=by
 intro pins s σ H x y v u Q I rx ry h;obtain⟨Fz,d,ds,p,xs,hx,rfl,hq,hd,p1,p2,q⟩:=h;cases ry;rcases hq with hq | hq
 ·obtain⟨its,r,pl,hz⟩:=I.list hq;obtain⟨e,h1,h2⟩:=zeK I hu hx rx r hd p1 p2;exact SeqAt.in_listAt e pl.isList h1 ⟨.bl _,H,I,rfl,by rw[h2];exact q⟩
 ·obtain⟨its,r,pl,hz⟩:=I.tuple hq;obtain⟨e,h1,h2⟩:=zeK I hu hx rx r hd p1 p2;exact SeqAt.in_tupleAt e pl h1 ⟨.bl _,H,I,rfl,by rw[h2];exact q⟩
theorem zkZ (hu:X.A.units+16<cLine):OpR X (compareOp .NotIn) (rInP X.K true):=by
 intro pins s σ H x y v u Q I rx ry h;obtain⟨Fz,d,ds,p,xs,hx,rfl,hq,hd,p1,p2,q⟩:=h;cases ry;rcases hq with hq | hq
 ·obtain⟨its,r,pl,hz⟩:=I.list hq;obtain⟨e,h1,h2⟩:=zeK I hu hx rx r hd p1 p2;exact SeqAt.notIn_listAt e pl.isList h1 ⟨.bl _,H,I,rfl,by rw[h2];exact q⟩
 ·obtain⟨its,r,pl,hz⟩:=I.tuple hq;obtain⟨e,h1,h2⟩:=zeK I hu hx rx r hd p1 p2;exact SeqAt.notIn_tupleAt e pl h1 ⟨.bl _,H,I,rfl,by rw[h2];exact q⟩
variable {a b:Expr}{ta tb:TPE}{pos:Pos}
theorem ziL (hu:X.A.units+16<cLine)(ha:PuE X a ta)(hb:PuE X b tb)(hm:autoParam (behindInMarks .In b=false) aU4):PuT X (.Compare a [.In] [b] pos) (tBl (t2 (pIn false) ta tb)):=zcK (zpV hu) zpU ha hb hm
theorem zhh (hu:X.A.units+16<cLine)(ha:PuE X a ta)(hb:PuE X b tb)(hm:autoParam (behindInMarks .NotIn b=false) aU4):PuT X (.Compare a [.NotIn] [b] pos) (tBl (t2 (pIn true) ta tb)):=zcK (zkZ hu) zpU ha hb hm
end
noncomputable def pIsN (neg:Bool):P2:=λd e Q=>e=.non/\Q (.bl (if neg then !decide (d=.non) else decide (d=.non))) .frz
theorem ziM {K:Xa}{Fz:FZ}{H:Hp}{d:PV}{x:V}(r:Root K Fz H d x):decide (x=V.non)=decide (d=.non):=by
 cases d with
 | non=>rw[zbJ r];simp
 | bl b=>rw[zeY r];simp
 | int b=>rw[zas r];simp
 | str b=>rw[zaW r];simp
 | tup ds=>obtain⟨a,xs,rfl,_⟩:=zaL r;simp
 | lst ds=>obtain⟨a,xs,rfl,_⟩:=zaq r;simp
 | ty n=>simp only[Root,Den]at r;rw[r];simp
 | dK ks ds=>simp only[Root]at r;obtain⟨a,xs,rfl,_⟩:=r;simp
 | dT ks ds=>simp only[Root]at r;obtain⟨a,xs,rfl,_⟩:=r;simp
 | obj C ks ds=>simp only[Root,Den]at r;obtain⟨a,dx,xs,rfl,_⟩:=r;simp
theorem zpW {K:Xa}:POp K (λx y H Q=>y=.non/\Q (.bl (decide (x=.non))) H) (pIsN false) where
 mono d e Q Q' m h:=⟨h.1,m _ _ h.2⟩
 run Fz H x y d e Q al rx ry h:=by
  obtain⟨rfl,q⟩:=h;refine⟨zbJ ry,?_⟩;rw[ziM rx];exact q _ Fz H (.val al (by simp only[Den];rfl))
theorem zos {K:Xa}:POp K (λx y H Q=>y=.non/\Q (.bl (!decide (x=.non))) H) (pIsN true) where
 mono d e Q Q' m h:=⟨h.1,m _ _ h.2⟩
 run Fz H x y d e Q al rx ry h:=by
  obtain⟨rfl,q⟩:=h;refine⟨zbJ ry,?_⟩;rw[ziM rx];exact q _ Fz H (.val al (by simp only[Den];rfl))
section
variable {X:Cx}{a b:Expr}{ta tb:TPE}{pos:Pos}
theorem zot (ha:PuE X a ta)(hb:PuE X b tb)(hm:autoParam (behindInMarks .Is b=false) aU4):PuT X (.Compare a [.Is] [b] pos) (tBl (t2 (pIsN false) ta tb)):=zcK zpt zpW ha hb hm
theorem zmA (ha:PuE X a ta)(hb:PuE X b tb)(hm:autoParam (behindInMarks .IsNot b=false) aU4):PuT X (.Compare a [.IsNot] [b] pos) (tBl (t2 (pIsN true) ta tb)):=zcK znP zos ha hb hm
end
theorem zla:bootBuiltins "list" = some (.type "list"):=by decide +kernel
theorem znq:bootBuiltins "tuple" = some (.type "tuple"):=by decide +kernel
theorem bSet:bootBuiltins "set" = some (.type "set"):=by decide +kernel
theorem bInt:bootBuiltins "int" = some (.type "int"):=by decide +kernel
theorem zrh:bootBuiltins "bool" = some (.type "bool"):=by decide +kernel
theorem bLen:bootBuiltins "len" = some (.builtin "len"):=by decide +kernel
theorem zlb:bootBuiltins "sorted" = some (.builtin "sorted"):=by decide +kernel
theorem bIsi:bootBuiltins "isinstance" = some (.builtin "isinstance"):=by decide +kernel
theorem bMax:bootBuiltins "max" = some (.builtin "max"):=by decide +kernel
theorem bMin:bootBuiltins "min" = some (.builtin "min"):=by decide +kernel
theorem zeB {K:Xa}{Fz:FZ}{H:Hp}{d:PV}{vs:List V}(h:zjL K Fz H [d] vs):∃v,vs=[v]/\Root K Fz H d v:=by
 cases h with
 | cons r t=>cases t;exact⟨_,rfl,r⟩
theorem ziN {K:Xa}{Fz:FZ}{H:Hp}{d e:PV}{vs:List V}(h:zjL K Fz H [d,e] vs):∃v u,vs=[v,u]/\Root K Fz H d v/\Root K Fz H e u:=by
 cases h with
 | cons r t=>
  cases t with
  | cons r2 t=>cases t;exact⟨_,_,rfl,r,r2⟩
theorem Post.newL {K:Xa}{Fz:FZ}{H:Hp}{p:Addr}{ds:List PV}{xs:List V}(al:∀b,Fz b->H b≠none)(hp:H p=none)(h:DenL K Fz H ds xs):Post K [] [] Fz H Fz (upd H p (.lst xs)) (.lst ds) .new (.ref p):=
 ⟨Ext.laid ⟨Same.refl H,λ_ h=>h,λ_ h=>.inl h,al⟩ hp,p,rfl,hp,λz=>al p z hp,xs,zak,DenL.mono (Keep.of (λb u e=>by rw[zai (zay e hp)];exact e)) (λ_ h=>h) _ _ h⟩
theorem Post.newT {K:Xa}{Fz:FZ}{H:Hp}{p:Addr}{ds:List PV}{xs:List V}(al:∀b,Fz b->H b≠none)(hp:H p=none)(h:DenL K Fz H ds xs):Post K [] [] Fz H Fz (upd H p (.tup xs)) (.tup ds) .frz (.ref p):=by
 refine⟨Ext.laid ⟨Same.refl H,λ_ h=>h,λ_ h=>.inl h,al⟩ hp,?_⟩;show Den _ _ _ _ _;simp only[Den];exact⟨p,xs,rfl,zak,DenL.mono (Keep.of (λb u e=>by rw[zai (zay e hp)];exact e)) (λ_ h=>h) _ _ h⟩
noncomputable def LenP:PV->Nat->Prop
 | .str y,n=>y.length<=sizeLine/\n=y.length
 | .lst ds,n=>n=ds.length
 | .tup ds,n=>n=ds.length
 | .dK ks _,n=>n=ks.length
 | _,_=>False
noncomputable def fLen:PF:=λds Q=>∃d n,ds=[d]/\LenP d n/\Q (.int n) .frz
noncomputable def rLen (K:Xa):List V->Hp->VK->Prop:=λxs H Q=>(∃x n,xs=[x]/\LenV K x H n/\Q (.int n) H)\/∃a kvs,xs=[.ref a]/\Rd H a (.dK kvs)/\Q (.int kvs.length) H
theorem zlc {X:Cx}:zdf X (.builtin "len") (rLen X.K):=by
 intro pins s σ H xs us Q I r h;rcases h with h | ⟨a,kvs,rfl,ha,q⟩
 ·exact zme pins s σ H xs us Q I r h
 ·obtain⟨u,rfl,ru⟩:=vals1 r;cases ru;exact zrb I ha λt s' I'=>⟨.int kvs.length,H,I',⟨t,rfl⟩,q⟩
theorem zpX {K:Xa}:zeF K (rLen K) fLen where
 mono ds Q Q' m h:=by obtain⟨d,n,e1,e2,q⟩:=h;exact⟨d,n,e1,e2,m _ _ q⟩
 run Fz H ds vs Q al r h:=by
  obtain⟨d,n,rfl,e,q⟩:=h;obtain⟨v,rfl,rv⟩:=zeB r;have q':=q (.int n) Fz H (.val al (by simp only[Den]));cases d with
  | str y=>cases zaW rv;exact .inl ⟨_,n,rfl,e,q'⟩
  | lst ds=>obtain⟨a,xs,rfl,h1,h2⟩:=zaq rv;exact .inl ⟨_,n,rfl,.inl ⟨xs,h1,by rw[<- h2.length];exact e⟩,q'⟩
  | tup ds=>obtain⟨a,xs,rfl,h1,h2⟩:=zaL rv;exact .inl ⟨_,n,rfl,.inr ⟨xs,h1,by rw[<- h2.length];exact e⟩,q'⟩
  | dK ks ds=>
   simp only[Root]at rv;obtain⟨a,xs,rfl,h1,h2,h3⟩:=rv;have e':n=ks.length:=e;refine .inr ⟨a,_,rfl,h1,?_⟩;rw[List.length_zip,<- h2,Nat.min_self,<- e'];exact q'
  | non=>exact e.elim
  | bl b=>exact e.elim
  | int i=>exact e.elim
  | ty n=>exact e.elim
  | dT ks ds=>exact e.elim
  | obj C ks ds=>exact e.elim
noncomputable def zdP:PF:=λds Q=>∃es,(ds=[.lst es]\/ds=[.tup es])/\Q (.lst es) .new
noncomputable def zbI:PF:=λds Q=>∃es,(ds=[.lst es]\/ds=[.tup es])/\Q (.tup es) .frz
theorem zou {K:Xa}:zeF K (zoj K) zdP where
 mono ds Q Q' m h:=by obtain⟨es,e,q⟩:=h;exact⟨es,e,m _ _ q⟩
 run Fz H ds vs Q al r h:=by
  obtain⟨es,e,q⟩:=h;rcases e with rfl | rfl
  ·obtain⟨v,rfl,rv⟩:=zeB r;obtain⟨a,xs,rfl,h1,h2⟩:=zaq rv;exact⟨a,xs,rfl,.inl h1,λl hl=>q _ Fz _ (.newL al hl h2)⟩
  ·obtain⟨v,rfl,rv⟩:=zeB r;obtain⟨a,xs,rfl,h1,h2⟩:=zaL rv;exact⟨a,xs,rfl,.inr h1,λl hl=>q _ Fz _ (.newL al hl h2)⟩
theorem zmB {K:Xa}:zeF K (zpJ K) zbI where
 mono ds Q Q' m h:=by obtain⟨es,e,q⟩:=h;exact⟨es,e,m _ _ q⟩
 run Fz H ds vs Q al r h:=by
  obtain⟨es,e,q⟩:=h;rcases e with rfl | rfl
  ·obtain⟨v,rfl,rv⟩:=zeB r;obtain⟨a,xs,rfl,h1,h2⟩:=zaq rv;exact⟨a,xs,rfl,.inl ⟨h1,λl hl=>q _ Fz _ (.newT al hl h2)⟩⟩
  ·obtain⟨v,rfl,rv⟩:=zeB r;obtain⟨a,xs,rfl,h1,h2⟩:=zeZ rv;exact⟨a,xs,rfl,.inr ⟨SqT.of h1,q _ Fz H (.val al (by simp only[Den];exact⟨a,xs,rfl,h1,h2⟩))⟩⟩
theorem zfh {K:Xa}{Fz:FZ}{H:Hp}:∀ {ss:List Str}{xs:List V},DenL K Fz H (ss.map PV.str) xs->xs=ss.map V.str
 | [],xs,h=>by rw[List.map_nil]at h;simp only[DenL]at h;exact h
 | s::r,xs,h=>by
  rw[XJ]at h;simp only[DenL]at h;obtain⟨v,t,z,h1,h2⟩:=h;simp only[Den]at h1;subst z h1;rw[XJ,zfh h2]
theorem zdQ {K:Xa}{Fz:FZ}{H:Hp}:∀(ss:List Str),DenL K Fz H (ss.map PV.str) (ss.map V.str)
 | []=>DenL.nil
 | s::r=>by rw[XJ,XJ];exact DenL.cons (by simp only[Den]) (zdQ r)
noncomputable def zcc:PF:=λds Q=>∃ss:List Str,ds=[.lst (ss.map PV.str)]/\ss.length<64/\∀zs,zs.Perm ss->sortedS zs=true->Q (.lst (zs.map PV.str)) .new
theorem zmC {X:Cx}:zeF X.K (λxs H Q=>∃(p:Addr)(ss:List Str),xs=[.ref p]/\SqL X.K H p (ss.map V.str)/\ss.length<64/\∀l zs,H l=none->zs.Perm ss->sortedS zs=true->Q (.ref l) (upd H l (.lst (zs.map V.str)))) zcc where
 mono ds Q Q' m h:=by obtain⟨ss,e1,e2,q⟩:=h;exact⟨ss,e1,e2,λzs h1 h2=>m _ _ (q zs h1 h2)⟩
 run Fz H ds vs Q al r h:=by
  obtain⟨ss,rfl,e2,q⟩:=h;obtain⟨v,rfl,rv⟩:=zeB r;obtain⟨a,xs,rfl,h1,h2⟩:=zaq rv;have:=zfh h2;subst this;exact⟨a,ss,rfl,h1,e2,λl zs hl hz hs=>q zs hz hs _ Fz _ (.newL al hl (zdQ zs))⟩
section
variable {X:Cx}{e:Expr}{es:List Expr}{te:TPE}{t:TPA}{p p1 p2 pos pos2:Pos}
theorem zaF (hg:Gl X "len") (hm:X.mg "len" = none) (ha:PuA X (e::es) t) (he:autoParam (starEach (e::es) X.env=(false,eval e X.env)::starEach es X.env) aU0) (hpl:autoParam ((backTo pos (starEach es X.env)).any (·.1)=false) aU0):PuE X (.Call (.Name "len" p) (e::es) [] pos) (tB fLen t):=
 zdb zlc zpX hg hm bLen ha (by decide) (by decide) he hpl
theorem zia (hg:Gl X "list") (hm:X.mg "list" = none) (ha:PuA X (e::es) t) (he:autoParam (starEach (e::es) X.env=(false,eval e X.env)::starEach es X.env) aU0) (hpl:autoParam ((backTo pos (starEach es X.env)).any (·.1)=false) aU0):PuE X (.Call (.Name "list" p) (e::es) [] pos) (tB zdP t):=
 zfb zcJ zou hg hm zla ha (by decide) (by decide) he hpl
theorem zgo (hg:Gl X "tuple") (hm:X.mg "tuple" = none) (ha:PuA X (e::es) t) (he:autoParam (starEach (e::es) X.env=(false,eval e X.env)::starEach es X.env) aU0) (hpl:autoParam ((backTo pos (starEach es X.env)).any (·.1)=false) aU0):PuE X (.Call (.Name "tuple" p) (e::es) [] pos) (tB zbI t):=
 zfb zge zmB hg hm znq ha (by decide) (by decide) he hpl
theorem zmD (hg:Gl X "sorted") (hm:X.mg "sorted" = none) (ha:PuA X (e::es) t) (he:autoParam (starEach (e::es) X.env=(false,eval e X.env)::starEach es X.env) aU0) (hpl:autoParam ((backTo pos (starEach es X.env)).any (·.1)=false) aU0):PuE X (.Call (.Name "sorted" p) (e::es) [] pos) (tB zcc t):=
 zdb zjK zmC hg hm zlb ha (by decide) (by decide) he hpl
noncomputable def zaR (te:TPE):TPE:=λρ Q=>te ρ λd _=>∃ss:List Str,d=.lst (ss.map PV.str)/\ss.length<64/\∀zs,zs.Nodup->(∀x,x∈zs↔x∈ss)->sortedS zs=true->Q (.lst (zs.map PV.str)) .new
theorem zfQ:∀(ys xs:List Str),xs.Nodup->(ys.foldl JS.addS xs).Nodup
 | [],_,h=>h
 | y::ys,xs,h=>by
  rw[List.foldl_cons];refine zfQ ys _ ?_;unfold JS.addS;split
  ·exact h
  ·rename_i hy
   exact Yg.mpr ⟨hy,h⟩
theorem zjM (hc:X.calm=true)(hg:Gl X "sorted") (hm:X.mg "sorted" = none) (hg2:Gl X "set") (hm2:X.mg "set" = none) (he:PuE X e te)
  (hs1:autoParam (starEach [e] X.env=(false,eval e X.env)::starEach [] X.env) aU0) (hpl1:autoParam ((backTo pos2 (starEach [] X.env)).any (·.1)=false) aU0)
  (hs2:autoParam (starEach [Expr.Call (.Name "set" p2) [e] [] pos2] X.env=(false,eval (Expr.Call (.Name "set" p2) [e] [] pos2) X.env)::starEach [] X.env) aU0) (hpl2:autoParam ((backTo pos (starEach [] X.env)).any (·.1)=false) aU0) :
  PuE X (.Call (.Name "sorted" p) [.Call (.Name "set" p2) [e] [] pos2] [] pos) (zaR te) where
 mono ρ Q Q' m h:=he.mono ρ _ _ (λd k q90q=>by obtain⟨ss,e1,e2,q⟩:=q90q;exact⟨ss,e1,e2,λzs h1 h2 h3=>m _ _ (q zs h1 h2 h3)⟩) h
 run:=PE.weak (zit (zgZ hc) hg hm zlb (zaT (zdB (zkL hc) hg2 hm2 bSet (zaT he.run zcI hs1) (by decide) (by decide) hs1 hpl1) zcI hs2) (by decide) (by decide) hs2 hpl2) λσ H Q h=>by
  obtain⟨ρ,Fz,R,h⟩:=h;refine⟨ρ,Fz,R,he.mono ρ _ _ (λd k q v F1 H1 p1=>?_) h⟩;obtain⟨ss,rfl,e2,q⟩:=q;obtain⟨a,xs,rfl,h1,h2⟩:=zaq (p1.root R);have:=zfh h2;subst this;refine⟨a,ss,rfl,h1,by unfold scanBound;lia,λst hst=>?_⟩;have q1:=JS.zeW ss [];simp only[YG,Nat.zero_add]at q1;refine⟨st,_,rfl,zak,by lia,λl zs hl hz hs=>?_⟩;have hne:l≠st:=λz=>by subst z;rw[zak]at hl;cases hl
  have hl':H1 l=none:=by rw[zai hne]at hl;exact hl
  have x2:Ext F1 H1 F1 (upd H1 st (SetO X.prog X.w st (ss.foldl JS.addS []))):=Ext.laid ⟨Same.refl _,λ_ h=>h,λ_ h=>.inl h,p1.ext.al⟩ hst;have p3:Post X.K [] [] F1 (upd H1 st (SetO X.prog X.w st (ss.foldl JS.addS []))) F1 (upd (upd H1 st (SetO X.prog X.w st (ss.foldl JS.addS []))) l (.lst (zs.map V.str))) (.lst (zs.map PV.str)) .new (.ref l):=Post.newL x2.al hl (zdQ zs);refine q zs (hz.nodup_iff.mpr (zfQ ss [] List.nodup_nil)) (λx=>?_) hs _ F1 _ (p3.behind (p1.ext.trans x2));rw[hz.mem_iff,JS.zgX];simp
end
noncomputable def tyP:PV->String
 | .non=>"NoneType"
 | .bl _=>"bool"
 | .int _=>"int"
 | .str _=>"str"
 | .ty _=>"type"
 | .tup _=>"tuple"
 | .lst _=>"list"
 | .dK _ _=>"dict"
 | .dT _ _=>"dict"
 | .obj _ _ _=>"object"
noncomputable def isObj:PV->Bool
 | .obj _ _ _=>true
 | _=>false
noncomputable def NoT (d:PV):Prop:=(∀n,d≠.ty n)/\isObj d=false
theorem ziO {X:Cx}{pins:List (Addr×Obj)}{σ:St}{H:Hp}{s:Shared}{Fz:FZ}{d:PV}{x:V}{u:Value}(I:Inv X pins σ H s)(r:Root X.K Fz H d x)(rx:RelV x u)(hd:NoT d):∃P:Heap->Prop,PySem.W.KitX X.K u (.type (tyP d)) P/\P s.heap/\u≠.builtin "__main__.__loader__#opaque":=by
 cases d with
 | non=>cases zbJ r;cases (show u=Value.none from rx);exact⟨_,PySem.W.kitx_none,True.intro,λz=>nomatch z⟩
 | bl y=>cases zeY r;cases (show u=Value.bool y from rx);exact⟨_,PySem.W.kitx_bool,True.intro,λz=>nomatch z⟩
 | int i=>cases zas r;obtain⟨t,q⟩:=(show ∃t,u=Value.int i t from rx);cases q;exact⟨_,PySem.W.kitx_int,True.intro,λz=>nomatch z⟩
 | str y=>cases zaW r;obtain⟨t,q⟩:=(show ∃t,u=Value.str y t from rx);cases q;exact⟨_,PySem.W.kitx_str,True.intro,λz=>nomatch z⟩
 | ty n=>exact absurd rfl (hd.1 n)
 | obj C ks ds=>exact absurd hd.2 (by simp[isObj])
 | lst ds=>
  obtain⟨a,xs,rfl,h1,_⟩:=zaq r;cases (show u=Value.ref a from rx);obtain⟨its,_,⟨o,n,e,c,_⟩,_⟩:=I.list h1;exact⟨_,PySem.W.kitx_list,⟨o,e,c⟩,λz=>nomatch z⟩
 | tup ds=>
  obtain⟨a,xs,rfl,h1,_⟩:=zaL r;cases (show u=Value.ref a from rx);obtain⟨its,_,⟨o,e,c,_⟩,_⟩:=I.tuple h1;exact⟨_,PySem.W.kitx_tuple,⟨o,e,c⟩,λz=>nomatch z⟩
 | dK ks ds=>
  simp only[Root]at r;obtain⟨a,xs,rfl,h1,_⟩:=r;cases (show u=Value.ref a from rx);obtain⟨_,_,vs,_,o,es,ep,e,ex,_⟩:=zpE I.hok h1;exact⟨_,PySem.W.kitx_dict,⟨o,e,ex.1⟩,λz=>nomatch z⟩
 | dT ks ds=>
  simp only[Root]at r;obtain⟨a,xs,rfl,h1,_⟩:=r;cases (show u=Value.ref a from rx);obtain⟨_,_,vs,_,o,es,ep,e,ex,_⟩:=zra I.hok h1;exact⟨_,PySem.W.kitx_dict,⟨o,e,ex.1⟩,λz=>nomatch z⟩
noncomputable def fIsi (K:Xa):PF:=λds Q=>(∃d c,ds=[d,.ty c]/\NoT d/\∃b,PySem.W.kitOne K (.type (tyP d)) (.type c)=some b/\Q (.bl b) .frz)\/
 ∃d es,ds=[d,.tup es]/\NoT d/\∃(cs:List String) (b:Bool),es=cs.map PV.ty/\PySem.W.kitAny K (.type (tyP d)) (cs.map Value.type)=some b/\Q (.bl b) .frz
noncomputable def zpY (K:Xa):List V->Hp->VK->Prop:=λxs H Q=>∃Fz d x b,Root K Fz H d x/\NoT d/\((∃c,xs=[x,.ty c]/\PySem.W.kitOne K (.type (tyP d)) (.type c)=some b)\/∃(p:Addr)(cs:List String),xs=[x,.ref p]/\SqT K H p (cs.map V.ty)/\PySem.W.kitAny K (.type (tyP d)) (cs.map Value.type)=some b)/\Q (.bl b) H
theorem zld {X:Cx}:zdf X (.builtin "isinstance") (zpY X.K):=by
 intro pins s σ H xs us Q I r h;obtain⟨Fz,d,x,b,rt,hd,e,q⟩:=h;rcases e with ⟨c,rfl,e⟩ | ⟨p,cs,rfl,hp,e⟩
 ·obtain⟨u,w',rfl,r1,r2⟩:=vals2 r;cases r2;obtain⟨P,Z,hP,ne⟩:=ziO I rt r1 hd;exact PySem.W.kia_one Z I.kIn hP e ne λtk=>⟨.bl b,H,I.tok tk,rfl,q⟩
 ·obtain⟨u,w',rfl,r1,r2⟩:=vals2 r;cases r2;obtain⟨P,Z,hP,ne⟩:=ziO I rt r1 hd;obtain⟨its,rv,⟨⟨cls,dd,data,sl⟩,ho,hc,n,hdt⟩,hzz⟩:=I.tuple hp;simp only at hc hdt;subst hc hdt;have ei:its=cs.map Value.type:=by
   clear hp ho e hzz;induction cs generalizing its with
   | nil=>cases rv;rfl
   | cons c cs ih=>
    cases rv with
    | cons q1 q2=>rw[show _=Value.type c from q1,ih _ q2];rfl
  subst ei;exact PySem.W.kia_tup Z I.kIn hP ho e ne λtk=>⟨.bl b,H,I.tok tk,rfl,q⟩
theorem ziP {K:Xa}{Fz:FZ}{H:Hp}:∀ {ss:List String}{xs:List V},DenL K Fz H (ss.map PV.ty) xs->xs=ss.map V.ty
 | [],xs,h=>by rw[List.map_nil]at h;simp only[DenL]at h;exact h
 | s::r,xs,h=>by
  rw[XJ]at h;simp only[DenL]at h;obtain⟨v,t,z,h1,h2⟩:=h;simp only[Den]at h1;subst z h1;rw[XJ,ziP h2]
theorem zpZ {K:Xa}:zeF K (zpY K) (fIsi K) where
 mono ds Q Q' m h:=by
  rcases h with ⟨d,c,e,hd,b,e2,q⟩ | ⟨d,es,e,hd,cs,b,e2,e3,q⟩
  ·exact .inl ⟨d,c,e,hd,b,e2,m _ _ q⟩
  ·exact .inr ⟨d,es,e,hd,cs,b,e2,e3,m _ _ q⟩
 run Fz H ds vs Q al r h:=by
  rcases h with ⟨d,c,rfl,hd,b,e,q⟩ | ⟨d,es,rfl,hd,cs,b,rfl,e,q⟩
  ·have q':=q (.bl b) Fz H (.val al (by simp only[Den]));obtain⟨v,u,rfl,r1,r2⟩:=ziN r;simp only[Root,Den]at r2;subst r2;exact⟨Fz,d,v,b,r1,hd,.inl ⟨c,rfl,e⟩,q'⟩
  ·have q':=q (.bl b) Fz H (.val al (by simp only[Den]));obtain⟨v,u,rfl,r1,r2⟩:=ziN r;obtain⟨a,xs,rfl,h1,h2⟩:=zaL r2;have:=ziP h2;subst this;exact⟨Fz,d,v,b,r1,hd,.inr ⟨a,cs,rfl,h1,e⟩,q'⟩
section
variable {X:Cx}{e:Expr}{es:List Expr}{te:TPE}{t:TPA}{p p1 p2 pos pos2:Pos}
theorem ziQ {K:Xa}(hK:X.K=K)(hg:Gl X "isinstance") (hm:X.mg "isinstance" = none) (ha:PuA X (e::es) t) (he:autoParam (starEach (e::es) X.env=(false,eval e X.env)::starEach es X.env) aU0) (hpl:autoParam ((backTo pos (starEach es X.env)).any (·.1)=false) aU0):PuE X (.Call (.Name "isinstance" p) (e::es) [] pos) (tB (fIsi K) t):=by
 subst hK;exact zdb zld zpZ hg hm bIsi ha (by decide) (by decide) he hpl
end
noncomputable abbrev TPO:=PEnv->(Option Int->Prop)->Prop
noncomputable def zri (K:Xa)(t:TPO):TO:=λσ H Q=>∃ρ Fz,Rel K Fz ρ σ H/\t ρ λo=>∀Fz' H',Ext Fz H Fz' H'->Q o H'
structure PuO (X:Cx)(e:Option Expr)(t:TPO):Prop where
 mono:∀ρ Q Q',(∀o,Q o->Q' o)->t ρ Q->t ρ Q'
 run:PO X e (zri X.K t)
theorem PO.weak {X:Cx}{e:Option Expr}{t t':TO}(h:PO X e t)(w:∀σ H Q,t' σ H Q->t σ H Q):PO X e t':=λpins s σ H Q I q=>h pins s σ H Q I (w σ H Q q)
noncomputable def zds:TPO:=λ_ Q=>Q none
noncomputable def zdu (te:TPE):TPO:=λρ Q=>te ρ λd _=>∃i,d=.int i/\Q (some i)
theorem zdR {X:Cx}:PuO X none zds where
 mono ρ Q Q' m h:=m _ h
 run:=PO.weak znW λσ H Q h=>by
  obtain⟨ρ,Fz,R,h⟩:=h;exact h Fz H ⟨Same.refl H,λ_ h=>h,λ_ h=>.inl h,R.al⟩
theorem zbj {X:Cx}{e:Expr}{te:TPE}(h:PuE X e te):PuO X (some e) (zdu te) where
 mono ρ Q Q' m q:=h.mono ρ _ _ (λd k q91q=>by obtain⟨i,e,q⟩:=q91q;exact⟨i,e,m _ q⟩) q
 run:=PO.weak (znX h.run) λσ H Q q=>by
  obtain⟨ρ,Fz,R,q⟩:=q;exact⟨ρ,Fz,R,h.mono ρ _ _ (λd k q92q v F1 H1 p1=>by obtain⟨i,e,q⟩:=q92q;exact⟨i,by subst e;exact zas (p1.root R),q F1 H1 p1.ext⟩) q⟩
noncomputable def cutP (xs:List PV)(lo hi:Option Int):List PV:=(xs.drop (HT.sIx xs.length 0 lo)).take (HT.sIx xs.length xs.length hi-HT.sIx xs.length 0 lo)
noncomputable def pSlL (te:TPE)(tl th:TPO):TPE:=λρ Q=>te ρ λd _=>tl ρ λl=>th ρ λu=>∃ds,d=.lst ds/\Q (.lst (cutP ds l u)) .new
theorem zov {K:Xa}{Fz:FZ}{H:Hp}{ds:List PV}{xs:List V}{lo hi:Option Int}(h:DenL K Fz H ds xs):DenL K Fz H (cutP ds lo hi) (cutV xs lo hi):=by
 unfold cutP cutV;rw[h.length];exact(h.drop _).take _
section
variable {X:Cx}{e a b:Expr}{te ta tb:TPE}{lo hi:Option Expr}{tl th:TPO}{pos p2:Pos}
theorem zcA (he:PuE X e te)(hl:PuO X lo tl)(hu:PuO X hi th):PuE X (.Subscript e (.Slice lo hi none p2) pos) (pSlL te tl th) where
 mono ρ Q Q' m h:=he.mono ρ _ _ (λd k h=>hl.mono ρ _ _ (λl h=>hu.mono ρ _ _ (λu q93q=>by obtain⟨ds,e,q⟩:=q93q;exact⟨ds,e,m _ _ q⟩) h) h) h
 run:=PE.weak (ziv znZ he.run hl.run hu.run) λσ H Q h=>by
  obtain⟨ρ,Fz,R,h⟩:=h;refine⟨ρ,Fz,R,he.mono ρ _ _ (λd k q v F1 H1 p1=>?_) h⟩;refine⟨ρ,F1,R.ext p1.ext,hl.mono ρ _ _ (λl q F2 H2 x2=>?_) q⟩;refine⟨ρ,F2,(R.ext p1.ext).ext x2,hu.mono ρ _ _ (λu q3 F3 H3 x3=>?_) q⟩;obtain⟨ds,e3,q4⟩:=q3;subst e3;obtain⟨a,xs,rfl,h1,h2⟩:=zaq (((p1.root R).mono x2.same x2.sub).mono x3.same x3.sub);exact⟨a,xs,rfl,h1,λp hp=>q4 _ F3 _ ((Post.newL x3.al hp (zov h2)).behind (p1.ext.trans (x2.trans x3)))⟩
noncomputable def zqa (K:Xa):R2:=λx y H Q=>∃l b xs zs,x=.ref l/\y=.ref b/\(Rd H l (.lst xs)\/KX K l xs)/\(Rd H b (.lst zs)\/KX K b zs)/\xs.length+zs.length<=sizeLine/\∀p,H p=none->Q (.ref p) (upd H p (.lst (xs++zs)))
theorem zqb {pins:List (Addr×Obj)}{σ:St}{H:Hp}{s:Shared}{l:Addr}{xs:List V}(I:Inv X pins σ H s)(h:Rd H l (.lst xs)\/KX X.K l xs):∃(its:List Value)(n:Nat),Vals xs its/\s.heap.get? l=some { cls:=.type "list",data:=.seq its.toArray n }:=by
 rcases h with h | ⟨its,n,h1,_,h3⟩
 ·obtain⟨z,its,n,r,e⟩:=(show zca X.prog X.w H s.heap l (.lst xs) from h.ok I.hok);exact⟨its,n,r,e⟩
 ·exact⟨its.toList,n,h3,by rw[Array.toArray_toList];exact I.kIn l _ h1⟩
theorem zow:OpR X (binaryOp .Add) (zqa X.K):=by
 intro pins s σ H x y v u Q I rx ry h;obtain⟨l,b,xs,zs,rfl,rfl,hH,hB,hz,q⟩:=h;cases rx;cases ry;obtain⟨its,n,r,e⟩:=zqb I hH;obtain⟨its2,n2,r2,e2⟩:=zqb I hB;have l1:=r.length;have l2:=r2.length;refine PySem.P.add_list e e2 ?_ (by rw[Xj,Xj];lia);have ea:its.toArray++its2.toArray=(its++its2).toArray:=by simp
 rw[ea];exact⟨.ref _,_,I.lnew (t':=s.toks) (r.append r2) (by rw[Xr];lia),rfl,q _ I.fresh⟩
noncomputable def pCat:P2:=λd e Q=>∃ds es,d=.lst ds/\e=.lst es/\ds.length+es.length<=sizeLine/\Q (.lst (ds++es)) .new
theorem zqc {K:Xa}:POp K (zqa K) pCat where
 mono d e Q Q' m h:=by obtain⟨ds,es,e1,e2,e3,q⟩:=h;exact⟨ds,es,e1,e2,e3,m _ _ q⟩
 run Fz H x y d e Q al rx ry h:=by
  obtain⟨ds,es,rfl,rfl,e3,q⟩:=h;obtain⟨a,xs,rfl,h1,h2⟩:=zhb rx;obtain⟨b,ys,rfl,g1,g2⟩:=zhb ry;have l1:=h2.length;have l2:=g2.length;exact⟨a,b,xs,ys,rfl,rfl,h1,g1,by lia,λp hp=>q _ Fz _ (.newL al hp (h2.append g2))⟩
theorem zcQ (ha:PuE X a ta)(hb:PuE X b tb):PuE X (.BinOp a .Add b pos) (t2 pCat ta tb):=zhU zow zqc ha hb
end
theorem ziR {K:Xa}{Fz:FZ}{H:Hp}{f:Str}{d:PV}:∀ {ks:List Str}{ds:List PV}{xs:List V},DenL K Fz H ds xs->(ks.zip ds).lookup f=some d->∃v,(ks.zip xs).lookup f=some v/\Den K Fz H d v
 | [],ds,xs,h,e=>by simp at e
 | k::ks,[],xs,h,e=>by simp at e
 | k::ks,d0::ds,xs,h,e=>by
  simp only[DenL]at h;obtain⟨v0,r,z,h1,h2⟩:=h;subst z;rw[Yx,Yh]at e ⊢;cases hk:(f == k)with
  | true=>rw[hk]at e;cases e;exact⟨v0,rfl,h1⟩
  | false=>rw[hk]at e;exact ziR h2 e
theorem zcR {α β:Type}{f:Str}:∀ {ks:List Str}{xs:List α},f∉ks->(ks.zip xs).lookup f=none
 | [],xs,h=>by simp
 | k::ks,[],h=>by simp
 | k::ks,x::xs,h=>by
  rw[Yx,Yh];have h1:(f == k)=false:=by rw[beq_eq_false_iff_ne];exact λe=>h (e▸Xm ..)
  rw[h1];exact zcR (α:=α) (β:=β) λz=>h (Xh _ z)
theorem zib {K:Xa}{Fz:FZ}{H:Hp}{C:Addr}{ks:List Str}{ds:List PV}{v:V}(h:Den K Fz H (.obj C ks ds) v):∃a dx xs,v=.ref a/\Fz a/\H a=some (.ins C dx (ks.zip xs))/\ks.length=xs.length/\DenL K Fz H ds xs:=by
 simpa only[Den]using h
section
variable {X:Cx}{o e:Expr}{es:List Expr}{te to:TPE}{t:TPA}{C:Addr}{f m:Str}{pos apos:Pos}
noncomputable def pFld (C:Addr)(f:Str)(te:TPE):TPE:=λρ Q=>te ρ λd _=>∃ks ds v,d=.obj C ks ds/\(ks.zip ds).lookup f=some v/\Q v .frz
theorem zaV (c:Cls X.K C)(n:zbF X.K C f)(he:PuE X e te)(hb:autoParam (attributeBase e f X.env (eval e X.env)=eval e X.env) aU0):PuE X (.Attribute e f pos) (pFld C f te) where
 mono ρ Q Q' mm h:=he.mono ρ _ _ (λd k q94q=>by obtain⟨ks,ds,v,e1,e2,q⟩:=q94q;exact⟨ks,ds,v,e1,e2,mm _ _ q⟩) h
 run:=PE.weak (znj he.run hb) λσ H Q h=>by
  obtain⟨ρ,Fz,R,h⟩:=h;refine⟨ρ,Fz,R,he.mono ρ _ _ (λd k q v F1 H1 p1=>?_) h⟩;obtain⟨ks,ds,w,rfl,l,q⟩:=q;obtain⟨a,dx,xs,rfl,_,h1,h2,h3⟩:=zib (p1.root R);obtain⟨u,l',dn⟩:=ziR h3 l;exact⟨a,C,dx,_,u,rfl,h1,c,n,l',q u F1 H1 ⟨p1.ext,dn⟩⟩
noncomputable def zcq (C:Addr)(m:Str)(F:PF)(to:TPE)(t:TPA):TPE:=λρ Q=>to ρ λd _=>∃ks ds,d=.obj C ks ds/\m∉ks/\t ρ λops=>F (d::ops.map (·.1)) λd' k=>(noOwn ops=true\/zbA d' k=true)/\Q d' k
theorem zgp {pl:Sem Bool}{k:Nat}{fa:Addr}{fd:FuncData}{ps:List Str}{F:PF}(c:Cls X.K C)(hm:Meth X.K C m fa)(G:FnOk X.prog X.w X.K X.mg X.base CX0 k fa fd ps (spP X.K F))(mf:zaU F)(hr:Room k X.A)(hb:Binds X.K fd ps [])(ho:PuE X o to)(ha:PuA X (e::es) t)
  (hst:autoParam (starEach (e::es) X.env=(false,eval e X.env)::starEach es X.env) aU0) (hpl:autoParam ((backTo pos (starEach es X.env)).any (·.1)=false) aU0)
  (ht:autoParam (eval (.Call (.Attribute o m apos) (e::es) [] pos) X.env=(do
   let ov <- eval o X.env
   standAt apos.atName
   let (f,first) <- holding [ov] (getMethod ov m pl)
   callWith pos f first (backTo pos (starEach (e::es) X.env)) (backToKw pos (keywordEach [] X.env)))) aU0) :
  PuE X (.Call (.Attribute o m apos) (e::es) [] pos) (zcq C m F to t) where
 mono ρ Q Q' mm h:=ho.mono ρ _ _ (λd k q95q=>by obtain⟨ks,ds,e1,e2,h⟩:=q95q;exact⟨ks,ds,e1,e2,ha.mono ρ _ _ (λops h=>mf _ _ _ (λd k q=>⟨q.1,mm _ _ q.2⟩) h) h⟩) h
 run:=PE.weak (zkp (pl:=pl) ho.run c hm G hr hb .nil zhR ha.run hst hpl ht) λσ H Q h=>by
  obtain⟨ρ,Fz,R,h⟩:=h;refine⟨ρ,Fz,R,ho.mono ρ _ _ (λd kd q v F1 H1 p1=>?_) h⟩;obtain⟨ks,ds,rfl,hn,q⟩:=q;obtain⟨a,dx,xs,rfl,hf,h1,h2,h3⟩:=zib (p1.root R);have dobj:Den X.K F1 H1 (.obj C ks ds) (.ref a):=p1.root R;refine⟨a,dx,_,rfl,h1,zcR (α:=V) (β:=V) hn,ρ,F1,R.ext p1.ext,ha.mono ρ _ _ (λops h vs F2 H2 x o=>?_) q⟩;show spP X.K F (.ref a::(vs++[])) H2 Q E0;rw[List.append_nil];by_cases hno:noOwn ops=true
  ·obtain⟨F3,x3,s3,h3'⟩:=o.frozen x hno;refine⟨F3,.obj C ks ds::ops.map (·.1),x3.al,DenL.cons (Den.mono (.of x3.same) (λb hb=>x3.sub b hb) _ _ dobj) h3',mf _ _ _ (λd k q v F4 H4 p4=>?_) h⟩;exact q.2 v F4 H4 (p4.behind (p1.ext.trans x3))
  ·obtain⟨F3,s3,a3,h3'⟩:=o.all (R.ext p1.ext) x;refine⟨F3,.obj C ks ds::ops.map (·.1),a3,DenL.cons (Den.mono (.of x.same) (λb hb=>s3 b (x.sub b hb)) _ _ dobj) h3',mf _ _ _ (λd k q v F4 H4 p4=>?_) h⟩;have nm:zbA d k=true:=q.1.resolve_left hno;have al:∀b,F2 b->H4 b≠none:=λb hb z=>x.al b hb (p4.ext.same.free z);refine q.2 v F2 H4 ⟨⟨p1.ext.same.trans (x.same.trans p4.ext.same),λb hb=>x.sub b (p1.ext.sub b hb),λb hb=>?_,al⟩,?_⟩
   ·rcases x.new b hb with z | z
    ·exact p1.ext.new b z
    ·exact .inr (p1.ext.same.free z)
   ·exact((zfP nm x.al p4.opd).up).back (p1.ext.same.trans x.same)
end
structure Fx (K:Xa)(mg:Str->Option Value)(x:Str)(st:Stmt)(ps:List Str)(f:Addr)(fd:FuncData):Prop where
 fn:Fun K x x st f fd
 bd:Binds K fd ps []
 mg:mg x=some (.ref f)
structure Bl (mg:Str->Option Value):Prop where
 range:mg "range" = none
 len:mg "len" = none
 list:mg "list" = none
 tuple:mg "tuple" = none
 sorted:mg "sorted" = none
 set:mg "set" = none
 isi:mg "isinstance" = none
 str:mg "str" = none
 int:mg "int" = none
 bool:mg "bool" = none
 dict:mg "dict" = none
 enumerate:mg "enumerate" = none
 zip:mg "zip" = none
 min:mg "min" = none
 max:mg "max" = none
 sum:mg "sum" = none
 all:mg "all" = none
 any:mg "any" = none
 reversed:mg "reversed" = none
 abs:mg "abs" = none
 ord:mg "ord" = none
theorem zle {K:Xa}{T c:String}{b:Bool}(h1:PySem.W.kitMeta c=true)(h2:(fastBuiltinMro T).map (·.contains (.type c))=some b)(h3:(Value.type T == Value.type c)=false):PySem.W.kitOne K (.type T) (.type c)=some b:=by
 unfold PySem.W.kitOne PySem.W.kitCls;rw[if_neg (by rw[h3];decide)];dsimp only;rw[if_pos h1];exact h2
theorem zgq {K:Xa}{T:String}:PySem.W.kitOne K (.type T) (.type T)=some true:=by
 unfold PySem.W.kitOne;rw[if_pos (by simp)]
theorem zhi {K:Xa}:PySem.W.kitOne K (.type "int") (.type "bool")=some false:=zle (by decide +kernel) (by decide +kernel) (by decide +kernel)
theorem loc2 {k i j:Nat}(h:i<k)(h2:j<k):zpS k (zbS (zbG i) (zbS (zbG j) zdL)):=λds ρ Q ⟨d,r,e,d2,r2,e2,q⟩=>
 ⟨d,r,e,d2,r2,e2,q.1,q.2,by rw[XZ,XZ],λl hl=>by rw[Xc (by lia),Xc (by lia)]⟩
theorem zlf {P:Program}{w:World}{K:Xa}{mg mb:Str->Option Value}{CX:CXT}{k:Nat}{fa a:Addr}{fd:FuncData}{x:Str}{sp:Sp}{s₁:Shared}{vs:List Value}{ns:List Int}
  (KX:K.In s₁.heap) (hns:s₁.heap.Ns mainGlobals mg) (hb:s₁.heap.Ns builtinsNs mb) (hbb:∀x:Str,x≠"__name__"->mb x=bootBuiltins x) (hlim:s₁.heap.NoLimit) (hg:s₁.gens = #[])
  (ha:s₁.heap.get? a=some { cls:=.type "list",data:=.seq vs.toArray }) (hi:IntsAre vs ns) (hl:ns.length<=sizeLine) (hr:Room k callerA)
  (F:∀base:Heap,K.In base->base.Ns mainGlobals mg->FnOk P w K mg base CX k fa fd [x] sp) (hbind:∀(s:Shared) (u:Value),BindsTo s fd ⟨[u],[]⟩ [(x,u)])
  (hsp:∀H:Hp,Only H->(Rd H a (.lst (ns.map V.int))\/PL.KX K a (ns.map V.int))->sp [.ref a] H (λv _=>v=.bl true) λ_ _ _=>False)
  (hCX:∀H e s',CX [] H s₁ (λ_ _ _=>False) e s'->False) :
  codeAny (model P w) callerA (.call (.ref fa) ⟨[.ref a],[]⟩) (λr s'=>r=.ok (.ret (.bool true))/\OldK s₁.heap s'.heap/\s'.os=s₁.os/\AllBare s'.gens) s₁:=by
 have rv:=zgT hi;have lenV:=hi.length;have core:∀H:Hp,Only H->(Rd H a (.lst (ns.map V.int))\/PL.KX K a (ns.map V.int))->HOk P w H s₁.heap->(∀b,H b≠none->b=a)->(H a≠none->K.lookup a=none)->
   codeAny (model P w) callerA (.call (.ref fa) ⟨[.ref a],[]⟩) (λr s'=>r=.ok (.ret (.bool true))/\OldK s₁.heap s'.heap/\s'.os=s₁.os/\AllBare s'.gens) s₁:=by
  intro H hO hS hok hA hK;have base_of:∀ {b:Addr} {o:Obj},s₁.heap.get? b=some o->H b=none->(hidT s₁.heap H).get? b=some o:=λe n=>zlZ e n;have noA:∀ {b:Addr} {o:Obj} {es:Array DictEntry} {ep:Nat},s₁.heap.get? b=some o->o.data=.dict es ep->H b=none:=λ{b o es ep} e d=>by
   cases q:H b with
   | none=>rfl
   | some u=>
    have e':b=a:=hA b (by rw[q];simp);subst e';rw[ha]at e;cases e;have d':Data.seq vs.toArray _=Data.dict es ep:=d;cases d'
  have nsK:∀ {b:Addr} {m:Str->Option Value},s₁.heap.Ns b m->(hidT s₁.heap H).Ns b m:=λ{b m} ⟨o,es,ep,e,d,r⟩=>⟨o,es,ep,base_of e (noA e d),d,r⟩;have hKb:K.In (hidT s₁.heap H):=λb o e=>base_of (KX b o e) (by
   cases q:H b with
   | none=>rfl
   | some u=>
    have e':b=a:=hA b (by rw[q];simp);subst e';rw[hK (by rw[q];simp)]at e;cases e)
  have hM:Mod K mg (hidT s₁.heap H):=⟨hKb,nsK hns,⟨mb,nsK hb,hbb⟩,let ⟨mc,h1,h2⟩:=hlim;⟨mc,nsK h1,h2⟩⟩;have e0:Env0 P w K mg (hidT s₁.heap H) callerA [] s₁ H:=⟨rfl,hM,λb o e=>znF e,Nat.le_of_eq (zjZ _ _),trivial,λb hb=>absurd (show b∈([]:List Addr) from hb) (by simp),hok,.of_eq hg⟩;refine codeAny_mono ((F _ hKb (nsK hns)).run callerA [] s₁ H ⟨[.ref a],[]⟩ [.ref a] [.ref a] _ _ hr e0 (hbind s₁ (.ref a)) (.cons rfl .nil) (hsp H hO hS)) λr s' h=>?_;cases r with
  | error e=>exact(hCX H e s' h).elim
  | ok fl=>
   cases fl with
   | next=>exact False.elim h
   | brk=>exact False.elim h
   | cont=>exact False.elim h
   | ret u=>
    obtain⟨v,H',os,bare,un,hok',r',q⟩:=h;have q':v=.bl true:=q;subst q';obtain rfl:u=Value.bool true:=r';refine⟨rfl,OldK.of_keep λb o e=>?_,os,bare⟩;cases q:H b with
    | none=>exact un.keep b o e q (by intro z;exact absurd (show b∈([]:List Addr) from z) (by simp)) (by simp)
    | some u=>
     rcases hO b with z | ⟨ob,xs,z⟩
     ·rw[q]at z;cases z
     ·have z2:=un.frzs b ob _ z;obtain⟨e1,_⟩:=hok b _ z;obtain⟨e2,_⟩:=hok' b _ z2;rw[e]at e1;cases e1;exact e2
 cases hk:K.lookup a with
 | some o=>
  have e:=KX a o hk;rw[ha]at e;cases e;refine core (λ_=>none) (λ_=>.inl rfl) (.inr ⟨vs.toArray,_,hk,by rw[Xj,lenV];exact hl,by simpa using rv⟩) (λb u z=>by have z':(none:Option HO)=some u:=z;cases z') (λb z=>absurd rfl z) λz=>absurd rfl z
 | none=>
  refine core (λb=>if b=a then some (.frz { cls:=.type "list",data:=.seq vs.toArray } (.lst (ns.map V.int))) else none) (λb=>?_) (.inl (.inr ⟨{ cls:=.type "list",data:=.seq vs.toArray },if_pos rfl⟩)) (λb u z=>?_) (λb z=>?_) λ_=>hk
  ·by_cases hb:b=a
   ·exact .inr ⟨_,_,if_pos hb⟩
   ·exact .inl (if_neg hb)
  ·by_cases hb:b=a
   ·have z':=(if_pos hb).symm.trans z;cases z';subst hb;exact⟨ha,by rw[Xb];exact hl,vs,_,rv,ha⟩
   ·have z':=(if_neg hb).symm.trans z;cases z'
  ·by_cases hb:b=a
   ·exact hb
   ·exact absurd (if_neg hb) z
theorem zhj {K:Xa}{Fz:FZ}{H:Hp}:∀(ns:List Int),DenL K Fz H (ns.map PV.int) (ns.map V.int)
 | []=>DenL.nil
 | n::r=>by rw[XJ,XJ];exact DenL.cons (by simp only[Den]) (zhj r)
theorem zqd {K:Xa}{H:Hp}{a:Addr}{ns:List Int}{F:PF}{E:XK}(m:zaU F)(h:Rd H a (.lst (ns.map V.int))\/KX K a (ns.map V.int))(hF:F [.lst (ns.map PV.int)] λd k=>d=.bl true):spP K F [.ref a] H (λv _=>v=.bl true) E:=by
 refine⟨λb=>H b≠none,[.lst (ns.map PV.int)],λb hb=>hb,DenL.cons ?_ DenL.nil,m _ _ _ (λd k e v F' H' p=>?_) hF⟩
 ·simp only[Den];refine⟨a,ns.map V.int,rfl,?_,zhj ns⟩;rcases h with h | h
  ·refine .inl ⟨?_,h⟩;rcases h with h | ⟨o,h⟩<;>(show H a≠none;rw[h];exact λz=>nomatch z)
  ·exact .inr h
 ·subst e;cases k with
  | frz=>have q:Den K F' H' (.bl true) v:=p.opd;simpa only[Den]using q
  | new=>obtain⟨b,_,_,_,o⟩:=p.opd;exact o.elim
  | own i=>obtain⟨z,_⟩:=p.opd;simp at z
theorem zrj {l:PySem.W.OpenLaw}{k:Nat}{q:Program}{loose:List Str}{XP:(Str->Option Value)->Heap->Prop}{YP:World->Heap->Prop}{d:DefRec}{K:Params->Xa}{FL:PF}{x:Str}
  (hn:l.most=some 63) (hdf:d.params.defaults=[]) (hr:Room k callerA) (m:zaU FL)
  (hY:∀(w:World) (h:Heap),YP w h->(K w.params).In h)
  (F:∀(w:World) (mg:Str->Option Value) (fa:Addr) (h:Heap),(K w.params).In h->h.Ns mainGlobals mg->mg d.name=some (.ref fa)->
   ∃fd:FuncData,(∀(s:Shared) (u:Value),BindsTo s fd ⟨[u],[]⟩ [(x,u)])/\∀base:Heap,(K w.params).In base->base.Ns mainGlobals mg->FnOk l.prog w (K w.params) mg base CX0 k fa fd [x] (spP (K w.params) FL))
  (hF:∀ns:List Int,ns.length<=63->FL [.lst (ns.map PV.int)] λd k=>d=.bl true) :
  PySem.W.WalkO q loose XP YP l.row.toRowW d [] (λf vs=>PySem.call f vs):=by
 refine Att.zhQ hn hdf λw s₀ s₁ mg mb fa o pm cd doc a vs ns G Y ho hd hcd hmg hobj hints hlen hg=>?_;have KX:=hY w _ Y;obtain⟨fd,hb,hFn⟩:=F w mg fa _ KX G.T.g hmg;exact zlf KX G.T.g G.T.b G.T.builtins G.T.nolimit hg hobj hints (Yu hlen (by decide)) hr hFn hb (λH hO hS=>zqd m hS (hF ns hlen)) λH e s' z=>z
noncomputable def zdS:PF:=λds Q=>∃i j:Int,ds=[.int i,.int j]/\Q (.int (if j > i then j else i)) .frz
theorem zox {K:Xa}:zeF K (λxs H Q=>∃i j,xs=[V.int i,.int j]/\Q (.int (if j > i then j else i)) H) zdS where
 mono ds Q Q' m h:=by obtain⟨i,j,e,q⟩:=h;exact⟨i,j,e,m _ _ q⟩
 run Fz H ds vs Q al hr h:=by
  obtain⟨i,j,rfl,q⟩:=h;obtain⟨u,v,rfl,h1,h2⟩:=ziN hr;exact⟨i,j,by rw[zas h1,zas h2],q _ Fz H (.val al (by simp only[Den]))⟩
section
variable {X:Cx}{e:Expr}{es:List Expr}{t:TPA}{p pos:Pos}
theorem zoy (hc:X.calm=true)(hg:Gl X "max") (hm:X.mg "max" = none) (ha:PuA X (e::es) t) (he:autoParam (starEach (e::es) X.env=(false,eval e X.env)::starEach es X.env) aU0) (hpl:autoParam ((backTo pos (starEach es X.env)).any (·.1)=false) aU0):PuE X (.Call (.Name "max" p) (e::es) [] pos) (tB zdS t):=
 zdb (zkj hc) zox hg hm bMax ha (by decide) (by decide) he hpl
end
theorem DenL.rew' {K:Xa}{Fz:FZ}{H:Hp}{ds:List PV}{xs:List V}{a:Addr}{o u:HO}(ha:H a=some u)(hi:¬ Imm u)(nf:¬ Fz a)(h:DenL K Fz H ds xs):DenL K Fz (upd H a o) ds xs:=
 DenL.mono (.mk' λb w e hw=>by
  have ne:b≠a:=λz=>by
   subst z;rcases hw with hw | hw
   ·exact nf hw
   ·rw[ha]at e;cases e;exact hi hw
  rw[zai ne];exact e) (λ_ h=>h) _ _ h
theorem zlg {k:Kd}(hk:isOwn k=false):k=.frz\/k=.new:=by
 cases k with
 | frz=>exact .inl rfl
 | new=>exact .inr rfl
 | own j=>cases hk
theorem zjN {P:Nat->Value->Prop}{acc:Array Value}{xs:List V}(h:ItemsOf P acc xs.length)(f:∀(i:Nat)(v:Value)(x:V),xs[i]? = some x->P i v->RelV x v):Vals xs acc.toList:=by
 obtain⟨hs,hv⟩:=h;obtain⟨acc⟩:=acc;simp only[Xj]at hs;have:∀(xs:List V) (its:List Value) (n:Nat),its.length=xs.length->(∀(j:Nat) (v:Value) (x:V),its[j]? = some v->xs[j]? = some x->RelV x v)->Vals xs its:=by
  intro xs;induction xs with
  | nil=>intro its n hl _;cases its with
   | nil=>exact .nil
   | cons _ _=>simp at hl
  | cons x xs ih=>intro its n hl hr;cases its with
   | nil=>simp at hl
   | cons u us=>exact .cons (hr 0 u x rfl rfl) (ih us n (by simpa using hl) λj v y h1 h2=>hr (j+1) v y (by simpa using h1) (by simpa using h2))
 exact this xs acc 0 hs λj v x h1 h2=>f j v x h2 (hv j v (by simpa using h1))
section
variable {X:Cx}
theorem zjO (hc:X.calm=true):zdf X (.type "list") (λxs H Q=>∃x:Str,xs=[V.str x]/\x.length<=sizeLine/\∀l,H l=none->Q (.ref l) (upd H l (.lst ((signs x).map V.str)))):=by
 intro pins s σ H xs us Q I r h;obtain⟨x,rfl,hz,q⟩:=h;obtain⟨u,rfl,t,rfl⟩:=vals1 r;refine call_list_str (I.ok.hd hc) x t (hn:=hz) λh' tk acc c kp e hacc=>?_;have hl:x.cps.size=((signs x).map V.str).length:=by simp[signs]
 rw[hl]at hacc;have rv:Vals ((signs x).map V.str) acc.toList:=zjN hacc λi v y hy ⟨c,u,hc,ev⟩=>by
  subst ev;have:y=.str ⟨#[c]⟩:=by
   simp only[signs,Xk,Array.getElem?_toList,hc,Option.map_some]at hy;exact(Option.some.inj hy).symm
  subst this;exact⟨u,rfl⟩
 exact⟨.ref s.heap.objs.size,_,I.laid (t':=tk) kp (Xf _) (show zca X.prog X.w _ h' _ (.lst ((signs x).map V.str)) from⟨by rw[<- hl];exact hz,acc.toList,c,rv,by simpa using e⟩),rfl,q _ (I.hok.fresh (Xf _))⟩
noncomputable def zcd:PF:=λds Q=>∃x:Str,ds=[.str x]/\x.length<=sizeLine/\Q (.lst ((signs x).map PV.str)) .new
theorem zmE:zeF X.K (λxs H Q=>∃x:Str,xs=[V.str x]/\x.length<=sizeLine/\∀l,H l=none->Q (.ref l) (upd H l (.lst ((signs x).map V.str)))) zcd where
 mono ds Q Q' m h:=by obtain⟨x,e,e2,q⟩:=h;exact⟨x,e,e2,m _ _ q⟩
 run Fz H ds vs Q al hr h:=by
  obtain⟨x,rfl,e2,q⟩:=h;obtain⟨v,rfl,h1⟩:=zeB hr;exact⟨x,by rw[zaW h1],e2,λl hl=>q _ Fz _ (.newL al hl (zdQ _))⟩
variable {e:Expr}{es:List Expr}{t:TPA}{p pos:Pos}
theorem zmF (hc:X.calm=true)(hg:Gl X "list") (hm:X.mg "list" = none) (ha:PuA X (e::es) t) (he:autoParam (starEach (e::es) X.env=(false,eval e X.env)::starEach es X.env) aU0) (hpl:autoParam ((backTo pos (starEach es X.env)).any (·.1)=false) aU0):PuE X (.Call (.Name "list" p) (e::es) [] pos) (tB zcd t):=
 zfb (zjO hc) zmE hg hm zla ha (by decide) (by decide) he hpl
theorem zlh (hc:X.calm=true):zdf X (.builtin "min") (λxs H Q=>∃i j k,xs=[V.int i,.int j,.int k]/\Q (.int (if j<i then(if k<j then k else j) else(if k<i then k else i))) H):=by
 intro pins s σ H xs us Q I r h;obtain⟨i,j,k,rfl,q⟩:=h;obtain⟨u,us2,rfl,⟨t,rfl⟩,r2⟩:∃u us2,us=u::us2/\RelV (.int i) u/\Vals [V.int j,.int k] us2:=by cases r with | cons a b=>exact⟨_,_,rfl,a,b⟩
 obtain⟨u1,u2,rfl,⟨t1,rfl⟩,⟨t2,rfl⟩⟩:=vals2 r2;refine min_three_ints (I.ok.hd hc) λh' tk kp=>⟨_,H,I.kept kp,?_,q⟩;by_cases h1:j<i
 ·rw[if_pos h1,if_pos h1];by_cases h2:k<j
  ·rw[if_pos h2,if_pos h2];exact⟨_,rfl⟩
  ·rw[if_neg h2,if_neg h2];exact⟨_,rfl⟩
 ·rw[if_neg h1,if_neg h1];by_cases h2:k<i
  ·rw[if_pos h2,if_pos h2];exact⟨_,rfl⟩
  ·rw[if_neg h2,if_neg h2];exact⟨_,rfl⟩
noncomputable def zdv:PF:=λds Q=>∃i j k:Int,ds=[.int i,.int j,.int k]/\Q (.int (if j<i then(if k<j then k else j) else(if k<i then k else i))) .frz
theorem zqe {K:Xa}{Fz:FZ}{H:Hp}{d e f:PV}{vs:List V}(h:zjL K Fz H [d,e,f] vs):∃v u w,vs=[v,u,w]/\Root K Fz H d v/\Root K Fz H e u/\Root K Fz H f w:=by
 cases h with
 | cons a b=>
  obtain⟨u,w,rfl,h1,h2⟩:=ziN b;exact⟨_,u,w,rfl,a,h1,h2⟩
theorem zoz {K:Xa}:zeF K (λxs H Q=>∃i j k,xs=[V.int i,.int j,.int k]/\Q (.int (if j<i then(if k<j then k else j) else(if k<i then k else i))) H) zdv where
 mono ds Q Q' m h:=by obtain⟨i,j,k,e,q⟩:=h;exact⟨i,j,k,e,m _ _ q⟩
 run Fz H ds vs Q al hr h:=by
  obtain⟨i,j,k,rfl,q⟩:=h;obtain⟨u,v,w,rfl,h1,h2,h3⟩:=zqe hr;exact⟨i,j,k,by rw[zas h1,zas h2,zas h3],q _ Fz H (.val al (by simp only[Den]))⟩
theorem zoA (hc:X.calm=true)(hg:Gl X "min") (hm:X.mg "min" = none) (ha:PuA X (e::es) t) (he:autoParam (starEach (e::es) X.env=(false,eval e X.env)::starEach es X.env) aU0) (hpl:autoParam ((backTo pos (starEach es X.env)).any (·.1)=false) aU0):PuE X (.Call (.Name "min" p) (e::es) [] pos) (tB zdv t):=
 zdb (zlh hc) zoz hg hm bMin ha (by decide) (by decide) he hpl
theorem zqf:SlR X (λx lo hi H Q=>∃z:Str,x=.str z/\z.length<=sizeLine/\Q (.str (Txt.slice z lo hi)) H):=by
 intro pins s σ H x v vl vu lo hi sl Q I rx hs pl pu h;obtain⟨z,rfl,hz,q⟩:=h;obtain⟨t,rfl⟩:=rx;refine⟨"str",_,PySem.F.slot_str_getitem.lookup,typeIs_str _ _ _,?_⟩;have fin:∀(l u:Option (Int×Tok)),s.heap.IsSlice sl l u none->l.map (·.1)=lo->u.map (·.1)=hi->wpAny (model X.prog X.w) X.A (getItem (.str z t) (.ref sl)) (EP X pins σ Q) X.xe s:=λl u h1 h2 h3=>by
  subst h2 h3;refine wpAny_getItem_str_slice (st:=none) h1 rfl (post_val_or_str ⟨Yu (Txt.slice_le z _ _) hz,λt' k=>?_⟩);exact⟨.str (Txt.slice z (l.map (·.1)) (u.map (·.1))),H,I.tok _,⟨t',rfl⟩,q⟩
 cases pl with
 | none=>cases pu with
  | none=>exact fin none none hs rfl rfl
  | int j t2=>exact fin none (some (j,t2)) hs rfl rfl
 | int i t1=>cases pu with
  | none=>exact fin (some (i,t1)) none hs rfl rfl
  | int j t2=>exact fin (some (i,t1)) (some (j,t2)) hs rfl rfl
noncomputable def pSlS (te:TPE)(tl th:TPO):TPE:=λρ Q=>te ρ λd _=>tl ρ λl=>th ρ λu=>∃z:Str,d=.str z/\z.length<=sizeLine/\Q (.str (Txt.slice z l u)) .frz
variable {e:Expr}{te:TPE}{lo hi:Option Expr}{tl th:TPO}{p2 pos:Pos}
theorem zli (he:PuE X e te)(hl:PuO X lo tl)(hu:PuO X hi th):PuE X (.Subscript e (.Slice lo hi none p2) pos) (pSlS te tl th) where
 mono ρ Q Q' m h:=he.mono ρ _ _ (λd k h=>hl.mono ρ _ _ (λl h=>hu.mono ρ _ _ (λu q98q=>by obtain⟨ds,e,e2,q⟩:=q98q;exact⟨ds,e,e2,m _ _ q⟩) h) h) h
 run:=PE.weak (ziv zqf he.run hl.run hu.run) λσ H Q h=>by
  obtain⟨ρ,Fz,R,h⟩:=h;refine⟨ρ,Fz,R,he.mono ρ _ _ (λd k q v F1 H1 p1=>?_) h⟩;refine⟨ρ,F1,R.ext p1.ext,hl.mono ρ _ _ (λl q F2 H2 x2=>?_) q⟩;refine⟨ρ,F2,(R.ext p1.ext).ext x2,hu.mono ρ _ _ (λu q3 F3 H3 x3=>?_) q⟩;obtain⟨z,e3,e4,q4⟩:=q3;subst e3;exact⟨z,zaW (p1.root R),e4,q4 _ F3 _ ((Post.val x3.al (by simp only[Den])).behind (p1.ext.trans (x2.trans x3)))⟩
end
noncomputable abbrev PFM:=PV->List PV->(PV->PV->Prop)->Prop
structure FOut where
 nx:PEnv->Prop
 rt:PEnv->Prop
structure FOut.le (O O':FOut):Prop where
 nx:∀ρ,O.nx ρ->O'.nx ρ
 rt:∀ρ,O.rt ρ->O'.rt ρ
noncomputable abbrev TPF:=PEnv->FOut->Prop
inductive BX where
 | L (ds:List PV)
 | K (ks:List Key) (ds:List PV)
 | T (ks:List (List Key)) (ds:List PV)
noncomputable def BX.ok:BX->Prop
 | .L _=>True
 | .K ks ds=>ks.length=ds.length
 | .T ks ds=>ks.length=ds.length
noncomputable def BX.obj:BX->List Addr->HO
 | .L _,bs=>.lst (bs.map V.ref)
 | .K ks _,bs=>.dK (ks.zip (bs.map V.ref))
 | .T ks _,bs=>.dT (ks.zip (bs.map V.ref))
structure BOut where
 nx:PEnv->BX->Prop
 rt:PV->Kd->Prop
 bk:PEnv->BX->Prop
 ct:PEnv->BX->Prop
structure BOut.le (O O':BOut):Prop where
 nx:∀ρ β,O.nx ρ β->O'.nx ρ β
 rt:∀d k,O.rt d k->O'.rt d k
 bk:∀ρ β,O.bk ρ β->O'.bk ρ β
 ct:∀ρ β,O.ct ρ β->O'.ct ρ β
noncomputable abbrev TPB:=PEnv->BX->BOut->Prop
theorem Rel.unset {K:Xa}{Fz:FZ}{ρ:PEnv}{σ:St}{H:Hp}{i:Nat}{v:V}(R:Rel K Fz ρ σ H):Rel K Fz (ρ.set i none) (σ.set i (some v)) H:=by
 have ne:∀(j:Nat) (p:PV×Bool),(ρ.set i none)[j]? = some (some p)->i≠j/\ρ[j]? = some (some p):=λj p h=>by
  have nj:i≠j:=λz=>by
   subst z;by_cases hi:i<ρ.length
   ·rw[Xg hi]at h;cases h
   ·rw[XC (by lia),XA (by lia)]at h;cases h
  rw[Xc nj]at h;exact⟨nj,h⟩
 refine⟨R.al,by rw[XZ,XZ];exact R.len,λj d h=>?_,λj d h=>?_,λj k d e a h1 h2 h3 h4=>?_⟩
 ·obtain⟨nj,h⟩:=ne j _ h;rw[Xc nj];exact R.frz j d h
 ·obtain⟨nj,h⟩:=ne j _ h;rw[Xc nj];exact R.own j d h
 ·obtain⟨nj,h1⟩:=ne j _ h1;obtain⟨nk,h2⟩:=ne k _ h2;rw[Xc nj]at h3;rw[Xc nk]at h4;exact R.inj j k d e a h1 h2 h3 h4
theorem zcS {ρ:PEnv}{σ:St}{i:Nat}{v:V}:∀b,zaM (ρ.set i none) (σ.set i (some v)) b->zaM ρ σ b:=λb ⟨j,e,h1,h2⟩=>by
 have nj:i≠j:=λz=>by
  subst z;by_cases hi:i<ρ.length
  ·rw[Xg hi]at h1;cases h1
  ·rw[XC (by lia),XA (by lia)]at h1;cases h1
 rw[Xc nj]at h1 h2;exact⟨j,e,h1,h2⟩
end PL
namespace L2
open PySem PySem.Spec PyProof.Rows
section
variable {X:Cx}{pins:List (Addr×Obj)}{σ:List (Option V)}{H:Hp}{s:Shared}{h':Heap}
theorem Inv.zic {t':Nat}{ch:List Addr}(I:Inv X pins σ H s)(k:∀b o,b∉ch->s.heap.get? b=some o->h'.get? b=some o)(hf:∀b∈ch,FpOk X pins H b):Inv X pins σ H { s with heap:=h',toks:=t' }:=by
 have nit:∀b u,H b=some u->b∉ch:=λb u e z=>by rw[(hf b z).1]at e;cases e
 refine I.step (g':=s.gens) (d':=s.drawn) (ch:=ch) (λb hb=>?_) (λb o _ _ hc e _=>k b o hc e) (λb o _ _ hc e _=>⟨o.slots,k b o hc e⟩) (λ_ _ _ _ n=>n)
  (λb o hc e=>⟨o,k b o hc e⟩) (λ_ _ e=>e) (λ_ _ _ e=>e) (λb ps e=>⟨#[],by rw[e];simp⟩) (λm hm=>?_) (λb u e=>?_) I.bare
 ·obtain⟨_,f1,_,f3,f4,f5⟩:=hf b hb;exact⟨f3,f1,f4,f5⟩
 ·obtain⟨o,es,ep,ho,r⟩:=hm;exact⟨o,es,ep,k _ o (λz=>(hf _ z).2.1 rfl) ho,r⟩
 ·refine(I.hok b u e).stay (λc v hc q=>k c v ?_ q) (λ_ q=>q) λ_ _ q=>q;rcases hc with z | z
  ·rw[z];exact nit b u e
  ·exact nit c _ z
end
noncomputable def Ite (K:Xa)(a:Addr):It:=
 ⟨λi H=>∃xs x,SqL K H a xs/\xs[i]? = some x,λi H x H'=>∃p y,x=.ref p/\H p=none/\(∀xs,SqL K H a xs->xs[i]? = some y)/\H'=upd H p (.tup [.int (i:Int),y]),λi H=>∃xs,SqL K H a xs/\xs.length<=i⟩
theorem zlj {P:Program}{w:World}{K:Xa}{elts:List Expr}{x1:Nat}{pos:Pos}(a e it:Addr)(hne:e≠it):Turn P w K (.Tuple elts x1 pos) (Ite K a) [e,it] e (λi h=>(∃old,IsEnum h e it (i:Int) old)/\h.IsListIter it a i) where
 mem:=by simp
 obj:=λi h st b hb=>by
  obtain⟨⟨old,he⟩,o,ho,c,d⟩:=st;rcases Xo.mp hb with rfl | hb
  ·exact⟨_,he,λv z=>by cases z⟩
  ·have:=XB.mp hb;subst this;exact⟨o,ho,λv z=>by rw[d]at z;cases z⟩
 keep:=λi h h' st k=>by
  obtain⟨⟨old,he⟩,hit⟩:=st;exact⟨⟨old,k e (by simp) _ he⟩,hit.at λo q=>k it (by simp) o q⟩
 item:=by
  intro X hP hw hK hc i pins s σ H E I hf st hg;subst hP hw hK;obtain⟨⟨old,he⟩,hit⟩:=st;obtain⟨xs,x,hq,hx⟩:=hg;obtain⟨its,rv,p,hz⟩:=I.list hq;obtain⟨u,hu,ru⟩:=rv.get hx;have hfr:H s.heap.objs.size=none:=I.hok.fresh (Xf _);have heS:e<s.heap.objs.size:=Xs he;have hiS:it<s.heap.objs.size:=by obtain⟨o,ho,_⟩:=id hit;exact Xs ho
  refine wpAny_pyNext_enum_item he hit p.isList (x:=u) (by simpa using hu) hne λh1 heo hit1 ht1 hz1 hk1=>⟨.ref s.heap.objs.size,rfl,?_⟩;refine wpAny_letOwnedTupleGo_enum heo λh2 he2 hs2=>?_;replace hs2:Yj e h1 h2:=hs2;have I1:=I.laid (a:=s.heap.objs.size) (o:=.tup [.int (i:Int),x]) (h':=s.heap.push { cls:=.type "tuple",data:=.seq #[.int i s.toks,u] }) (t':=s.toks+1) (λb u e=>Xe _ e) (Xf _)
   ⟨by show 2<=sizeLine;decide,[.int i s.toks,u],.cons ⟨_,rfl⟩ (.cons ru .nil),zcH.new _ _⟩
  have hfp:∀b∈[e,it],FpOk X pins (upd H s.heap.objs.size (.tup [.int (i:Int),x])) b:=λb hb=>by
   obtain⟨f0,fr⟩:=hf b hb;have hbS:b≠s.heap.objs.size:=by
    rcases Xo.mp hb with rfl | hb
    ·exact XD heS
    ·rw[XB.mp hb];exact XD hiS
   exact⟨by rw[zai hbS];exact f0,fr⟩
  have I2:=I1.zic (h':=h2) (t':=s.toks+1) (ch:=[e,it]) (λb o hb eb=>by
   have hb1:b≠e:=λz=>hb (by simp[z]);have hb2:b≠it:=λz=>hb (by simp[z]);refine(hs2.2 b hb1).trans ?_;rcases Heap.get?_push_cases eb with ⟨rfl,rfl⟩ | eb
   ·exact ht1
   ·exact hk1 b o hb1 hb2 eb) hfp
  refine⟨.ref s.heap.objs.size,_,I2,rfl,⟨_,x,rfl,hfr,λys hy=>by rw[I.zdz hy hq];exact hx,rfl⟩,⟨⟨u,?_⟩,?_⟩,λb hb=>(hfp b hb).1⟩
  ·have:((i+1:Nat):Int)=(i:Int)+1:=by lia
   rw[this];exact he2
  ·exact hit1.extBut hs2.extBut (Ne.symm hne)
 done:=by
  intro X hP hw hK hc i pins s σ H E I hf st hg;subst hP hw hK;obtain⟨⟨old,he⟩,hit⟩:=st;obtain⟨xs,hq,hx⟩:=hg;obtain⟨its,rv,p,hz⟩:=I.list hq;have hl:=rv.length;obtain⟨f0,f1,f2,f3,f4,f5⟩:=hf it (by simp);exact wpAny_pyNext_enum_end (I.ok.hd hc) he hit p.isList (by simp;lia) λh' eb=>⟨rfl,I.turned (t':=s.toks) (λb o hb e=>eb b o hb e) f0 f1 f3 f4 f5⟩
 self:=λ_ _ _ _ _ st h=>by obtain⟨⟨old,he⟩,_⟩:=st;exact wpAny_pyIter_enum he h
section
variable {X:Cx}{elts:List Expr}{x1:Nat}{tpos p pos:Pos}{e e2:Expr}{te te2:TE}
theorem zfi:bootBuiltins "enumerate" = some (.type "enumerate"):=by decide +kernel
noncomputable def zrk (K:Xa)(te:TE):TI:=λσ H R=>te σ H λx H1=>∃a,x=.ref a/\(∃xs,SqL K H1 a xs)/\R (Ite K a) H1
theorem zoB (hg:Gl X "enumerate") (hm:X.mg "enumerate" = none) (he:PE X e te) (hs1:autoParam (starEach [e] X.env=(false,eval e X.env)::starEach [] X.env) aU0) (hpl1:autoParam ((backTo pos (starEach [] X.env)).any (·.1)=false) aU0) :
  PI X (.Tuple elts x1 tpos) (.Call (.Name "enumerate" p) [e] [] pos) (zrk X.K te):=by
 intro pins s σ H R I h;refine wpAny_Call_Name_kw (zfI I hg hm zfi ?_ (by decide) (by decide));refine PyProof.Rows.callWith_type1 ?_ hs1 hpl1;rw[hs1];show wpAny _ _ (spliced ((false,eval _ X.env)::backTo pos (starEach [] X.env))) _ _ s;refine Calls.spliced_cons (thn (he pins s σ H _ I h) λu s1 q100q=>Calls.spliced_nil ?_);obtain⟨x,H1,I1,r1,a,ex,⟨xs,hq⟩,q⟩:=q100q;subst ex;obtain rfl:u=Value.ref a:=r1;obtain⟨its,r,pl,hz⟩:=I1.list hq;refine call_enumerate_list pl.isList λh' hE hit hsz hk=>?_;refine wpAny_pyIter_enum (s:={ s1 with heap:=h' }) hE ?_;have I2:Inv X pins σ H1 { s1 with heap:=h' }:=I1.kept (t':=s1.toks) hk;refine⟨s1.heap.objs.size+1,[s1.heap.objs.size+1,s1.heap.objs.size],_,_,H1,rfl,I2,zlj a _ _ (Nat.succ_ne_self _),⟨⟨_,hE⟩,hit⟩,λb hb=>?_,q⟩;have hb':s1.heap.objs.size<=b:=by
  rcases Xo.mp hb with rfl | hb
  ·exact Nat.le_succ _
  ·rw[XB.mp hb];exact Xf _
 exact I1.fpOk hb' (I1.hok.fresh hb')
end
end L2
namespace PL
open PySem PySem.Spec L2
open PyProof.Rows hiding St
noncomputable def zid (ds:List PV):List PV:=(Xp ds.length).map λ(i:Nat)=>.tup [.int (i:Int),ds.getD i .non]
theorem zfj {ds:List PV}{i:Nat}{d:PV}(h:(zid ds)[i]? = some d):∃x,ds[i]? = some x/\d=.tup [.int (i:Int),x]:=by
 unfold zid at h;rw[Xk]at h;rcases Nat.lt_or_ge i ds.length with hi | hi
 ·rw[Yi hi]at h;cases h;exact⟨ds[i],Xl hi,by show PV.tup [PV.int (i:Int),ds.getD i PV.non]=_;rw[XL,Xl hi];rfl⟩
 ·rw[XA (by simpa using hi)]at h;cases h
theorem zfk (ds:List PV):(zid ds).length=ds.length:=by simp[zid]
noncomputable def zcr (te:TPE):TPI:=λρ Q=>te ρ λd k=>∃ds,d=.lst ds/\Q (zid ds) (isOwn k)
section
variable {X:Cx}{elts:List Expr}{x1:Nat}{tpos p pos:Pos}{e:Expr}{te:TPE}
theorem ziS (hg:Gl X "enumerate") (hm:X.mg "enumerate" = none) (he:PuE X e te) (hs1:autoParam (starEach [e] X.env=(false,eval e X.env)::starEach [] X.env) aU0) (hpl1:autoParam ((backTo pos (starEach [] X.env)).any (·.1)=false) aU0) :
  PuI X (.Tuple elts x1 tpos) (.Call (.Name "enumerate" p) [e] [] pos) (zcr te) where
 mono ρ Q Q' m h:=he.mono ρ _ _ (λd k q101q=>by obtain⟨ds,e,q⟩:=q101q;exact⟨ds,e,m _ _ q⟩) h
 run:=PI.weak (zoB hg hm he.run hs1 hpl1) λσ H Rr h=>by
  obtain⟨ρ,Fz,R,h⟩:=h;refine⟨ρ,Fz,R,he.mono ρ _ _ (λd k q v Fz' H' p=>?_) h⟩;obtain⟨ds,e,q⟩:=q;subst e;have rt:=p.root R;obtain⟨a,xs,rfl,h1,h2⟩:=zaq rt;refine⟨a,rfl,⟨xs,h1⟩,?_⟩;have one:∀(F2:FZ) (H2:Hp) (zs:List V),SqL X.K H2 a zs->DenL X.K F2 H2 ds zs->∀i:Nat,(∀d,(zid ds)[i]? = some d->(Ite X.K a).go i H2/\∀x H3,(Ite X.K a).yld i H2 x H3->Same H2 H3/\Den X.K F2 H3 d x)/\((zid ds).length<=i->(Ite X.K a).stop i H2):=λF2 H2 zs g1 g3 i=>by
   have hl:=g3.length;refine⟨λd hd=>?_,λhi=>⟨zs,g1,by rw[zfk]at hi;lia⟩⟩;obtain⟨x,hx,rfl⟩:=zfj hd;obtain⟨v,q1,q2⟩:=g3.get hx;refine⟨⟨zs,v,g1,q1⟩,λy H3 q102q=>?_⟩;obtain⟨pp,w,ey,hn,gy,e3⟩:=q102q;subst ey e3;have exy:=gy zs g1;rw[q1]at exy;cases exy;have sm:Same H2 (upd H2 pp (.tup [.int (i:Int),v])):=λb o hb=>by rw[zai (zay hb hn)];exact hb
   refine⟨sm,?_⟩;simp only[Den];exact⟨pp,_,rfl,zak,DenL.cons (by simp only[Den]) (DenL.cons (Den.mono (.of sm) (λ_ h=>h) _ _ q2) DenL.nil)⟩
  cases k with
  | own i=>
   refine q _ Fz' H' p.ext λH2 hH=>?_;rcases hH with hH | ⟨z,_⟩
   ·exact one Fz' H2 xs (hH.seq h1) (DenL.mono (.of hH) (λ_ h=>h) _ _ h2)
   ·cases z
  | frz=>
   have pd:Den X.K Fz' H' (.lst ds) (.ref a):=p.opd;simp only[Den]at pd;obtain⟨a',xs',e,h3,h4⟩:=pd;cases e;refine q _ Fz' H' p.ext λH2 hH=>?_;have kp:Keep Fz' H' H2:=hH.elim (λz=>.of z) (λz=>.mk' z.2);exact one Fz' H2 xs' (h3.elim (λh=>.inl (kp.rd trivial h.1 h.2)) KX.sq) (DenL.mono kp (λ_ h=>h) _ _ h4)
  | new=>
   obtain⟨b,e,hn,nf,o⟩:=p.opd;cases e;obtain⟨xs',o1,o2⟩:=o;refine q _ (λb=>Fz' b\/b=a) H' (p.ext.add hn (by rw[o1];exact λz=>nomatch z)) λH2 hH=>?_;have kp:Keep (λb=>Fz' b\/b=a) H' H2:=hH.elim (λz=>.of z) (λz=>.mk' z.2);exact one _ H2 xs' (.inl (kp.rd trivial (.inr rfl) (.inl o1))) (DenL.mono kp (λ_ h=>h) _ _ (DenL.mono (Keep.of (Same.refl _)) (λ_ h=>.inl h) _ _ o2))
end
noncomputable abbrev zrt:=List PV->(List Str->List PV->Prop)->Prop
end PL
namespace L2
open PySem PySem.Spec PyProof.Rows
noncomputable def Itz (K:Xa)(a b:Addr):It:=
  ⟨λi H=>∃xs ys x y,SqL K H a xs/\xs[i]? = some x/\SqL K H b ys/\ys[i]? = some y,
   λi H x H'=>∃p u v,x=.ref p/\H p=none/\(∀xs,SqL K H a xs->xs[i]? = some u)/\(∀ys,SqL K H b ys->ys[i]? = some v)/\H'=upd H p (.tup [u,v]),
   λi H=>∃xs ys,SqL K H a xs/\SqL K H b ys/\(xs.length<=i\/ys.length<=i)⟩
theorem zmG {P:Program}{w:World}{K:Xa}{elts:List Expr}{x1:Nat}{pos:Pos}(a b z TI TO i1 i2:Addr)(D:ZipApart z TI TO i1 i2 a b) :
  Turn P w K (.Tuple elts x1 pos) (Itz K a b) [z,TI,TO,i1,i2] z (λi h=>IsZip h z TI TO .none/\IsPair h TI (.ref i1) (.ref i2)/\(∃u v,IsPair h TO u v)/\h.IsListIter i1 a i/\h.IsListIter i2 b i) where
 mem:=by simp
 obj:=λi h st c hc=>by
  obtain⟨h1,h2,⟨u,v,h3⟩,⟨o4,h4,_,d4⟩,⟨o5,h5,_,d5⟩⟩:=st;simp only[Xo,List.not_mem_nil,or_false]at hc;rcases hc with rfl | rfl | rfl | rfl | rfl
  ·exact⟨_,h1,λv z=>by cases z⟩
  ·exact⟨_,h2,λv z=>by cases z⟩
  ·exact⟨_,h3,λv z=>by cases z⟩
  ·exact⟨_,h4,λv z=>by rw[d4]at z;cases z⟩
  ·exact⟨_,h5,λv z=>by rw[d5]at z;cases z⟩
 keep:=λi h h' st k=>by
  obtain⟨h1,h2,⟨u,v,h3⟩,h4,h5⟩:=st;exact⟨k z (by simp) _ h1,k TI (by simp) _ h2,⟨u,v,k TO (by simp) _ h3⟩,h4.at λo q=>k i1 (by simp) o q,h5.at λo q=>k i2 (by simp) o q⟩
 item:=by
  intro X hP hw hK hc i pins s σ H E I hf st hg;subst hP hw hK;obtain⟨h1,h2,⟨c1,c2,h3⟩,h4,h5⟩:=st;obtain⟨xs,ys,x,y,hq,hx,hq2,hy⟩:=hg;obtain⟨its,rv,p,hz⟩:=I.list hq;obtain⟨u,hu,ru⟩:=rv.get hx;obtain⟨its2,rv2,p2,hz2⟩:=I.list hq2;obtain⟨u2,hu2,ru2⟩:=rv2.get hy;have hfr:H s.heap.objs.size=none:=I.hok.fresh (Xf _);have lt:∀c∈[z,TI,TO,i1,i2],c<s.heap.objs.size:=λc hc=>by
   simp only[Xo,List.not_mem_nil,or_false]at hc;rcases hc with rfl | rfl | rfl | rfl | rfl
   ·exact Xs h1
   ·exact Xs h2
   ·exact Xs h3
   ·obtain⟨o,ho,_⟩:=id h4;exact Xs ho
   ·obtain⟨o,ho,_⟩:=id h5;exact Xs ho
  refine wpAny_pyNext_zip_item D h1 h2 h3 h4 h5 p.isList p2.isList (x:=u) (y:=u2) (by simpa using hu) (by simpa using hu2) λhp1 g1 g3 g4 g5 gt gz gk=>⟨.ref s.heap.objs.size,rfl,?_⟩;refine wpAny_letOwnedTupleGo_zip g1 λhp2 k1 ks=>?_;replace ks:Yj z hp1 hp2:=ks;have I1:=I.laid (a:=s.heap.objs.size) (o:=.tup [x,y]) (h':=s.heap.push { cls:=.type "tuple",data:=.seq #[u,u2] }) (t':=s.toks) (λb u e=>Xe _ e) (Xf _)
   ⟨by show 2<=sizeLine;decide,[u,u2],.cons ru (.cons ru2 .nil),zcH.new _ _⟩
  have hfp:∀c∈[z,TI,TO,i1,i2],FpOk X pins (upd H s.heap.objs.size (.tup [x,y])) c:=λc hc=>by
   obtain⟨f0,fr⟩:=hf c hc;exact⟨by rw[zai (XD (lt c hc))];exact f0,fr⟩
  have I2:=I1.zic (h':=hp2) (t':=s.toks) (ch:=[z,TI,TO,i1,i2]) (λc o hc ec=>by
   have n1:c≠z:=λe=>hc (by simp[e]);refine(ks.2 c n1).trans ?_;rcases Heap.get?_push_cases ec with ⟨rfl,rfl⟩ | ec
   ·exact gt
   ·exact gk c o n1 (λe=>hc (by simp[e])) (λe=>hc (by simp[e])) (λe=>hc (by simp[e])) ec) hfp
  refine⟨.ref s.heap.objs.size,_,I2,rfl,⟨_,x,y,rfl,hfr,λzs hz=>by rw[I.zdz hz hq];exact hx,λzs hz=>by rw[I.zdz hz hq2];exact hy,rfl⟩,⟨k1,?_,⟨u,u2,?_⟩,?_,?_⟩,λc hc=>(hfp c hc).1⟩
  ·exact(ks.2 TI D.TIz).trans (gk TI _ D.TIz D.TITO D.TIi1 D.TIi2 h2)
  ·exact(ks.2 TO D.TOz).trans g3
  ·exact g4.extBut ks.extBut D.i1z
  ·exact g5.extBut ks.extBut D.i2z
 done:=by
  intro X hP hw hK hc i pins s σ H E I hf st hg;subst hP hw hK;obtain⟨h1,h2,⟨c1,c2,h3⟩,h4,h5⟩:=st;obtain⟨xs,ys,hq,hq2,hx⟩:=hg;obtain⟨its,rv,p,hz⟩:=I.list hq;obtain⟨its2,rv2,p2,hz2⟩:=I.list hq2;have hl:=rv.length;have hl2:=rv2.length;refine wpAny_pyNext_zip_end (I.ok.hd hc) D h1 h2 h3 h4 h5 p.isList p2.isList (hx.imp (λe=>by simp;lia) (λe=>by simp;lia)) λh' gk=>⟨rfl,?_⟩;exact I.zic (t':=s.toks) (ch:=[z,TI,TO,i1,i2]) (λc o hc ec=>gk c o (λe=>hc (by simp[e])) (λe=>hc (by simp[e])) (λe=>hc (by simp[e])) (λe=>hc (by simp[e])) ec) hf
 self:=λ_ _ _ _ _ st h=>wpAny_pyIter_zip st.1 h
section
variable {X:Cx}{elts:List Expr}{x1:Nat}{tpos p pos:Pos}{e e2:Expr}{t:TA}
theorem zlk:bootBuiltins "zip" = some (.type "zip"):=by decide +kernel
noncomputable def iZip (K:Xa)(t:TA):TI:=λσ H R=>t σ H λvs H1=>∃a b,vs=[.ref a,.ref b]/\(∃xs,SqL K H1 a xs)/\(∃ys,SqL K H1 b ys)/\R (Itz K a b) H1
theorem zqg (hg:Gl X "zip") (hm:X.mg "zip" = none) (ha:PA X [e,e2] t) (he:autoParam (starEach [e,e2] X.env=(false,eval e X.env)::starEach [e2] X.env) aU0) (hpl:autoParam ((backTo pos (starEach [e2] X.env)).any (·.1)=false) aU0) :
  PI X (.Tuple elts x1 tpos) (.Call (.Name "zip" p) [e,e2] [] pos) (iZip X.K t):=by
 intro pins s σ H R I h;refine wpAny_Call_Name_kw (zfI I hg hm zlk ?_ (by decide) (by decide));refine PyProof.Rows.callWith_type1 (thn (ha pos pins s σ H _ I h) λus s1 q103q=>?_) he hpl;obtain⟨vs,H1,I1,r1,a,b,ev,⟨xs,hq⟩,⟨ys,hq2⟩,q⟩:=q103q;subst ev;obtain⟨u1,u2,rfl,r2,r3⟩:=vals2 r1;obtain rfl:u1=Value.ref a:=r2;obtain rfl:u2=Value.ref b:=r3;obtain⟨its,r,pl,hz⟩:=I1.list hq;obtain⟨its2,r',pl2,hz2⟩:=I1.list hq2;have ha':@LT.lt Nat _ a s1.heap.objs.size:=by obtain⟨o,ho,_⟩:=pl.isList;exact Xs ho
 have hb':@LT.lt Nat _ b s1.heap.objs.size:=by obtain⟨o,ho,_⟩:=pl2.isList;exact Xs ho
 refine call_zip_2 pl.isList pl2.isList λh' g1 g2 g3 g4 g5 gz gk=>?_;refine wpAny_pyIter_zip (s:={ s1 with heap:=h' }) g1 ?_;have I2:Inv X pins σ H1 { s1 with heap:=h' }:=I1.kept (t':=s1.toks) gk;have D:ZipApart (s1.heap.objs.size+4) (s1.heap.objs.size+2) (s1.heap.objs.size+3) s1.heap.objs.size (s1.heap.objs.size+1) a b:=by constructor<;>first | exact XD (by lia) | exact Nat.ne_of_gt (by lia)
 refine⟨_,_,_,_,H1,rfl,I2,zmG a b _ _ _ _ _ D,⟨g1,g2,⟨_,_,g3⟩,g4,g5⟩,λc hc=>?_,q⟩;have hc':s1.heap.objs.size<=c:=by
  simp only[Xo,List.not_mem_nil,or_false]at hc;rcases hc with rfl | rfl | rfl | rfl | rfl<;>lia
 exact I1.fpOk hc' (I1.hok.fresh hc')
end
end L2
namespace PL
open PySem PySem.Spec L2
open PyProof.Rows hiding St
noncomputable def zipP (ds es:List PV):List PV:=List.zipWith (λd e=>.tup [d,e]) ds es
theorem ziT {ds es:List PV}{i:Nat}{d:PV}(h:(zipP ds es)[i]? = some d):∃x y,ds[i]? = some x/\es[i]? = some y/\d=.tup [x,y]:=by
 unfold zipP at h;rw[List.getElem?_zipWith]at h;cases h1:ds[i]? with
 | none=>rw[h1]at h;cases h
 | some x=>
  cases h2:es[i]? with
  | none=>rw[h1,h2]at h;cases h
  | some y=>rw[h1,h2]at h;cases h;exact⟨x,y,rfl,rfl,rfl⟩
theorem zgr (ds es:List PV):(zipP ds es).length=min ds.length es.length:=by simp[zipP]
noncomputable def zen (t:TPA):TPI:=λρ Q=>t ρ λops=>noOwn ops=true/\∃ds es,ops.map (·.1)=[.lst ds,.lst es]/\Q (zipP ds es) false
section
variable {X:Cx}{elts:List Expr}{x1:Nat}{tpos p pos:Pos}{e e2:Expr}{t:TPA}
theorem zoC (hg:Gl X "zip") (hm:X.mg "zip" = none) (ha:PuA X [e,e2] t) (he:autoParam (starEach [e,e2] X.env=(false,eval e X.env)::starEach [e2] X.env) aU0) (hpl:autoParam ((backTo pos (starEach [e2] X.env)).any (·.1)=false) aU0) :
  PuI X (.Tuple elts x1 tpos) (.Call (.Name "zip" p) [e,e2] [] pos) (zen t) where
 mono ρ Q Q' m h:=ha.mono ρ _ _ (λops q104q=>by obtain⟨e1,ds,es,e,q⟩:=q104q;exact⟨e1,ds,es,e,m _ _ q⟩) h
 run:=PI.weak (zqg hg hm ha.run he hpl) λσ H Rr h=>by
  obtain⟨ρ,Fz,R,h⟩:=h;refine⟨ρ,Fz,R,ha.mono ρ _ _ (λops q vs Fz' H' x o=>?_) h⟩;obtain⟨hn,ds,es,eo,q⟩:=q;obtain⟨F2,x2,s2,d2⟩:=o.frozen x hn;rw[eo]at d2;simp only[DenL]at d2;obtain⟨v1,r1,rfl,d1,v2,r2,rfl,d3,rfl⟩:=d2;simp only[Den]at d1 d3;obtain⟨a,xs,rfl,a1,a2⟩:=d1;obtain⟨b,ys,rfl,b1,b2⟩:=d3;have sq:∀ {c:Addr} {zs:List V} {H2:Hp},Keep F2 H' H2->((F2 c/\Rd H' c (.lst zs))\/KX X.K c zs)->SqL X.K H2 c zs:=λkp h=>h.elim (λh=>.inl (kp.rd trivial h.1 h.2)) KX.sq;refine⟨a,b,rfl,⟨xs,sq (.of (Same.refl _)) a1⟩,⟨ys,sq (.of (Same.refl _)) b1⟩,q _ F2 H' x2 λH2 hH i=>?_⟩;have kp:Keep F2 H' H2:=hH.elim (λz=>.of z) (λz=>.mk' z.2);have g1:=sq kp a1;have g2:=sq kp b1;have m1:=DenL.mono kp (λ_ h=>h) _ _ a2;have m2:=DenL.mono kp (λ_ h=>h) _ _ b2;have l1:=m1.length;have l2:=m2.length;refine⟨λd hd=>?_,λhi=>⟨xs,ys,g1,g2,by rw[zgr]at hi;lia⟩⟩;obtain⟨u,w,hu,hw,rfl⟩:=ziT hd;obtain⟨v,q1,q2⟩:=m1.get hu;obtain⟨v',q3,q4⟩:=m2.get hw;refine⟨⟨xs,ys,v,v',g1,q1,g2,q3⟩,λy H3 q105q=>?_⟩;obtain⟨pp,c1,c2,ey,hnp,gy,gy2,e3⟩:=q105q;subst ey e3;have e1:=gy xs g1;rw[q1]at e1;cases e1;have e2:=gy2 ys g2;rw[q3]at e2;cases e2;have sm:Same H2 (upd H2 pp (.tup [v,v'])):=λb o hb=>by rw[zai (zay hb hnp)];exact hb
  refine⟨sm,?_⟩;simp only[Den];exact⟨pp,_,rfl,zak,DenL.cons (Den.mono (.of sm) (λ_ h=>h) _ _ q2) (DenL.cons (Den.mono (.of sm) (λ_ h=>h) _ _ q4) DenL.nil)⟩
end
end PL
namespace PySem.SeqAt
open MeetsSeq
theorem zhk {M:Model}{A:Around}{E:Value->Shared->Prop}{s:Shared}{β:Type}{a b:Nat}{f:Nat->β->Sem (ForInStep β)}(I:Nat->β->Shared->Prop)(Q:β->Shared->Prop)
  (turn:∀i c s,a<=i->i<b->I i c s->wpAny M A (f i c) (λr s'=>match r with | .yield c'=>I (i+1) c' s' | .done c'=>Q c' s') E s)
  (fin:∀c s,I (max a b) c s->Q c s) (c:β) (h:I a c s):wpAny M A (forIn ([a:b]:Std.Legacy.Range) c f) Q E s:=by
 rw[Std.Legacy.Range.forIn_eq_forIn_range'];have hz:([a:b]:Std.Legacy.Range).size=b-a:=by simp[Std.Legacy.Range.size]
 show wpAny M A (forIn (List.range' a ([a:b]:Std.Legacy.Range).size 1) c f) Q E s;rw[hz];refine wpAny_forIn_list f (λl c s=>∃i,a<=i/\i<=max a b/\l=List.range' i (max a b-i) 1/\I i c s) Q ?_ ?_ _ c ⟨a,Xf _,by lia,by congr 1;lia,h⟩
 ·rintro x rest c s ⟨i,h1,h2,hl,hI⟩;have lt:i<max a b:=by
   rcases Nat.lt_or_ge i (max a b)with h' | h'
   ·exact h'
   ·rw[show max a b-i=0 by lia]at hl;simp at hl
  obtain⟨n,hn⟩:∃n,max a b-i=n+1:=⟨max a b-i-1,by lia⟩;rw[hn,List.range'_succ]at hl;obtain⟨rfl,rfl⟩:=List.cons.inj hl;refine wpAny_mono (turn x c s h1 (by lia) hI) (λr s' h'=>?_) λ_ _ h'=>h';cases r with
  | done c'=>exact h'
  | yield c'=>exact⟨x+1,by lia,by lia,by congr 1;lia,h'⟩
 ·rintro c s ⟨i,h1,h2,hl,hI⟩;have e:i=max a b:=by
   rcases Nat.lt_or_ge i (max a b)with h' | h'
   ·obtain⟨n,hn⟩:∃n,max a b-i=n+1:=⟨max a b-i-1,by lia⟩;rw[hn,List.range'_succ]at hl;simp at hl
   ·lia
  subst e;exact fin _ _ hI
theorem zgs (l:Addr)(items:Array Value)(n:Nat)(dd:Option Addr)(sl:Array (Option Value))(x:Value)(e:Value->Bool)(j:Nat)(hj:j<items.size)
  (hit:e items[j]=true) (hno:∀m (hm:m<items.size),m<j->e items[m]=false) :
  Meets (Builtin.«tuple.index» ⟨[.ref l,x],[]⟩)
   (λA R s=>s.heap.get? l=some { cls:=.type "tuple",dict:=dd,data:=.seq items n,slots:=sl }/\(∀y,y∈items->EqAt A.in1 s y x (e y))/\R (.ok (.ret (.int j s.toks))) { s with toks:=s.toks+1 }):=
 .of_wp λprog w A R s h=>by
  obtain⟨hp,g,d,tk,os⟩:=s;obtain⟨hl,he,h⟩:=h
  wp_walk using wpAny_loadPart' hl,zhk (λi (b:Option _×Unit) s'=>b.1=none/\s'=⟨hp,g,d,tk,os⟩/\i<=j) _
  case turn=>
   rintro i b s' h0 hi ⟨hb,rfl,hij⟩;have hi':i<items.size:=by lia
   rw[show items[i]? = some items[i] from Array.getElem?_eq_getElem hi'];refine wpAny_bind (he _ (Array.getElem_mem hi') prog w _ _ ?_);by_cases ej:i=j
   ·subst ej;rw[hit]
    wp_walk
    exact⟨_,rfl,h⟩
   ·rw[hno i hi' (by lia)]
    wp_walk
    exact⟨rfl,rfl,by lia⟩
  case fin=>
   rintro b s' ⟨hb,rfl,hij⟩;exact absurd hij (by lia)
  case h=>exact⟨rfl,rfl,Yf _⟩
end PySem.SeqAt
namespace L2
open PySem PySem.Spec PyProof.Rows
section
variable {X:Cx}
noncomputable def rIdx (sq:Hp->Addr->List V->Prop):V->List V->Hp->VK->Prop:=λx vs H Q=>∃(p:Addr)(xs:List V)(y:V)(j:Nat),x=.ref p/\vs=[y]/\sq H p xs/\zdD y=true/\xs.all zdD=true/\(∃w,xs[j]? = some w/\eqV w y=true)/\(∀m w,m<j->xs[m]? = some w->eqV w y=false)/\Q (.int (j:Int)) H
theorem zll:∀ {xs:List V}{us:List Value}{m:Nat}{u:Value},Vals xs us->us[m]? = some u->∃w,xs[m]? = some w/\RelV w u
 | _,_,m,u,.nil,h=>by simp at h
 | x::xs,v::us,0,u,.cons r t,h=>by simp at h;subst h;exact⟨x,rfl,r⟩
 | x::xs,v::us,m+1,u,.cons r t,h=>by simpa using zll t (by simpa using h)
theorem zoD {xs:List V}{m:Nat}{w:V}(f:xs.all zdD=true)(h:xs[m]? = some w):zdD w=true:=XY.mp f w (XI h)
theorem zhl {xs:List V}{its:List Value}{y:V}{j:Nat}(r:Vals xs its)(fs:xs.all zdD=true)(h1:∃w,xs[j]? = some w/\eqV w y=true)(h2:∀m w,m<j->xs[m]? = some w->eqV w y=false) :
  ∃hj:j<its.toArray.size,eqU y its.toArray[j]=true/\∀m (hm:m<its.toArray.size),m<j->eqU y its.toArray[m]=false:=by
 have hl:=r.length;obtain⟨w,hw,ew⟩:=h1;have hj:j<xs.length:=(Xd.mp hw).1;have hj':j<its.length:=by lia
 have at_:∀m (hm:m<its.length),∀w,xs[m]? = some w->eqU y its[m]=eqV w y:=λm hm w hx=>by
  obtain⟨w',q1,q2⟩:=zll r (Xl hm);rw[hx]at q1;cases q1;exact znl q2 (zoD fs hx)
 refine⟨by simpa using hj',?_,λm hm hlt=>?_⟩
 ·have:=at_ j hj' w hw;simpa[ew]using this
 ·have hm':m<its.length:=by simpa using hm
  have hx:xs[m]? = some xs[m]:=Xl (by lia);have:=at_ m hm' _ hx;rw[h2 m _ hlt hx]at this;simpa using this
theorem zlm:MtR X "list.index" (rIdx λH p xs=>SqL X.K H p xs):=by
 intro pins s σ H x vs v us Q I rx rv h;obtain⟨p,xs,y,j,rfl,rfl,hq,fy,fs,h1,h2,q⟩:=h;cases rx;obtain⟨u,rfl,ru⟩:=rv.one;obtain⟨its,r,pl,hz⟩:=I.list hq;obtain⟨hj,e1,e2⟩:=zhl r fs h1 h2;obtain⟨⟨cls,dd,data,sl⟩,n,ho,hc,hd,hs⟩:=id pl;simp only at hc hd hs;subst hc hd hs;have hl:=r.length;have hz':=hz;rw[sizeLine_eq]at hz';have hj2:j<its.length:=by simpa using hj
 exact call_meets PySem.F.slot_list_index ⟨_,ho,rfl⟩ PySem.F.entry_list_index (PySem.F.args_list_index_2 _ _) (SeqAt.list_indexAt p its.toArray n _ sl u (eqU y) j hj (by lia) e1 e2) ⟨ho,λz hz=>zgd ru fy r fs z (by simpa using hz),⟨.int (j:Int),H,I.tok _,⟨_,rfl⟩,q⟩⟩
theorem zln:MtR X "tuple.index" (rIdx λH p xs=>SqT X.K H p xs):=by
 intro pins s σ H x vs v us Q I rx rv h;obtain⟨p,xs,y,j,rfl,rfl,hq,fy,fs,h1,h2,q⟩:=h;cases rx;obtain⟨u,rfl,ru⟩:=rv.one;obtain⟨its,r,pl,hz⟩:=I.tuple hq;obtain⟨hj,e1,e2⟩:=zhl r fs h1 h2;obtain⟨⟨cls,dd,data,sl⟩,ho,hc,n,hd⟩:=id pl;simp only at hc hd;subst hc hd;exact call_meets PySem.F.slot_tuple_index ⟨_,ho,rfl⟩ PySem.F.entry_tuple_index (PySem.F.args_tuple_index_2 _ _) (SeqAt.zgs p its.toArray n dd sl u (eqU y) j hj e1 e2) ⟨ho,λz hz=>zgd ru fy r fs z (by simpa using hz),⟨.int (j:Int),H,I.tok _,⟨_,rfl⟩,q⟩⟩
theorem Inv.zqh {pins:List (Addr×Obj)}{σ:St}{H:Hp}{s:Shared}{a:Addr}{xs:List V}(I:Inv X pins σ H s)(h:SqT X.K H a xs):∃ob,s.heap.get? a=some ob/\ob.cls=.type "tuple"/\ob.dict=none:=by
 rcases h with h | ⟨o,its,n,hk,hc,hs,hz,r,hd⟩
 ·obtain⟨z,its,r,o,h1,h2,h3,h4⟩:=h.ok I.hok;exact⟨o,h1,h2,h4⟩
 ·exact⟨o,I.kIn a o hk,hc,hd⟩
variable {o e:Expr}{to te:TE}{name:Str}{apos cpos:Pos}{id:String}{r:V->List V->Hp->VK->Prop}
end
end L2
namespace PL
open PySem PySem.Spec L2
open PyProof.Rows hiding St
noncomputable def zfD:PV->Bool
 | .non=>true
 | .int _=>true
 | .str _=>true
 | _=>false
noncomputable def idxP (ds:List PV)(e:PV):Nat:=ds.findIdx λx=>decide (x=e)
section
variable {K:Xa}{Fz:FZ}{H:Hp}
theorem ziU {d:PV}{v:V}(f:zfD d=true)(h:Den K Fz H d v):zdD v=true:=by
 cases d with
 | non=>simp only[Den]at h;subst h;rfl
 | int i=>simp only[Den]at h;subst h;rfl
 | str x=>simp only[Den]at h;subst h;rfl
 | _=>exact absurd (show false=true from f) Xi
theorem zlo {d e:PV}{v w:V}(fd:zfD d=true)(fe:zfD e=true)(hd:Den K Fz H d v)(he:Den K Fz H e w):eqV v w=decide (d=e):=by
 cases d with
 | non=>
  simp only[Den]at hd;subst hd;cases e with
  | non=>simp only[Den]at he;subst he;simp[eqV]
  | int i=>simp only[Den]at he;subst he;simp[eqV]
  | str x=>simp only[Den]at he;subst he;simp[eqV]
  | _=>exact absurd (show false=true from fe) Xi
 | int i=>
  simp only[Den]at hd;subst hd;cases e with
  | non=>simp only[Den]at he;subst he;simp[eqV]
  | int i=>simp only[Den]at he;subst he;rw[ziG];rfl
  | str x=>simp only[Den]at he;subst he;simp[eqV]
  | _=>exact absurd (show false=true from fe) Xi
 | str x=>
  simp only[Den]at hd;subst hd;cases e with
  | non=>simp only[Den]at he;subst he;simp[eqV]
  | int i=>simp only[Den]at he;subst he;simp[eqV]
  | str x=>simp only[Den]at he;subst he;rw[ziH];rfl
  | _=>exact absurd (show false=true from fe) Xi
 | _=>exact absurd (show false=true from fd) Xi
theorem zhm:∀ {ds:List PV}{xs:List V},ds.all zfD=true->DenL K Fz H ds xs->xs.all zdD=true
 | [],xs,_,h=>by simp only[DenL]at h;subst h;rfl
 | d::ds,xs,f,h=>by
  simp only[DenL]at h;obtain⟨v,r,rfl,h1,h2⟩:=h;rw[List.all_cons,Yp]at f ⊢;exact⟨ziU f.1 h1,zhm f.2 h2⟩
theorem zoE {ds:List PV}{xs:List V}{e:PV}{y:V}(f:ds.all zfD=true)(fe:zfD e=true)(h:DenL K Fz H ds xs)(hy:Den K Fz H e y)(hm:e∈ds) :
  (∃w,xs[idxP ds e]? = some w/\eqV w y=true)/\∀m w,m<idxP ds e->xs[m]? = some w->eqV w y=false:=by
 have hi:idxP ds e<ds.length:=List.findIdx_lt_length_of_exists ⟨e,hm,by simp⟩;have hl:=h.length;refine⟨?_,λm w hlt hw=>?_⟩
 ·obtain⟨w,q1,q2⟩:=h.get (Xl hi);refine⟨w,q1,?_⟩;have:=List.findIdx_getElem (p:=λx=>decide (x=e)) (xs:=ds) (w:=hi);rw[zlo (XY.mp f _ (Yq hi)) fe q2 hy];exact this
 ·have hm':m<ds.length:=by
   have:=(Xd.mp hw).1;lia
  obtain⟨w',q1,q2⟩:=h.get (Xl hm');rw[hw]at q1;cases q1;rw[zlo (XY.mp f _ (Yq hm')) fe q2 hy];have:=List.not_of_lt_findIdx (p:=λx=>decide (x=e)) (xs:=ds) hlt;simpa using this
end
theorem zlp {K:Xa}{Fz:FZ}{H:Hp}{d:PV}{v:V}(f:zfD d=true)(h:Root K Fz H d v):Den K Fz H d v:=by
 cases d with
 | non=>exact h
 | int i=>exact h
 | str x=>exact h
 | _=>exact absurd (show false=true from f) Xi
end PL
namespace L2
open PySem PySem.Spec PyProof.Rows
section
variable {X:Cx}
theorem zlq (hc:X.calm=true):zdf X (.builtin "sum") (λxs H Q=>∃(p:Addr) (ns:List Int),xs=[V.ref p]/\SqL X.K H p (ns.map V.int)/\Q (.int ns.sum) H):=by
 intro pins s σ H xs us Q I r h;obtain⟨p,ns,rfl,hq,q⟩:=h;obtain⟨u,rfl,rx⟩:=vals1 r;cases rx;obtain⟨its,r',pl,hz⟩:=I.list hq;have hI:IntsAre its ns:=intsAre_of r';have hl:=pl.isList;have hall:=hI.allInts;obtain⟨zs,ez⟩:=hall.items;rw[ez]at hl;refine sum_intListG (I.ok.hd hc) hl λh' tk t' hk=>?_;have en:preSum (numAt zs) zs.size=ns.sum:=by
  have e1:numsOf its.toArray.toList=ns:=hI.numsOf;rw[ez,nums_intItems]at e1;rw[preSum_eq,XQ (by simp),e1]
 rw[en];exact⟨.int ns.sum,H,I.kept hk,⟨_,rfl⟩,q⟩
end
end L2
namespace PL
open PySem PySem.Spec L2
open PyProof.Rows hiding St
section
variable {X:Cx}
noncomputable def fSum:PF:=λds Q=>∃ns:List Int,ds=[.lst (ns.map PV.int)]/\Q (.int ns.sum) .frz
theorem zfR {K:Xa}{Fz:FZ}{H:Hp}:∀ {ns:List Int}{xs:List V},DenL K Fz H (ns.map PV.int) xs->xs=ns.map V.int
 | [],xs,h=>by simpa only[XV,DenL]using h
 | n::ns,xs,h=>by
  simp only[XV,DenL,Den]at h;obtain⟨v,r,rfl,rfl,h⟩:=h;rw[zfR h];rfl
theorem zqi:zeF X.K (λxs H Q=>∃(p:Addr)(ns:List Int),xs=[V.ref p]/\SqL X.K H p (ns.map V.int)/\Q (.int ns.sum) H) fSum where
 mono ds Q Q' m h:=by obtain⟨ns,e,q⟩:=h;exact⟨ns,e,m _ _ q⟩
 run Fz H ds vs Q al hr h:=by
  obtain⟨ns,rfl,q⟩:=h;obtain⟨v,rfl,h1⟩:=zeB hr;obtain⟨a,xs,rfl,h2,h3⟩:=zaq h1;rw[zfR h3]at h2;exact⟨a,ns,rfl,h2,q _ Fz H (.val al (by simp only[Den]))⟩
variable {e:Expr}{es:List Expr}{t:TPA}{p pos:Pos}
theorem bSum:bootBuiltins "sum" = some (.builtin "sum"):=by decide +kernel
theorem ziV (hc:X.calm=true)(hg:Gl X "sum") (hm:X.mg "sum" = none) (ha:PuA X (e::es) t) (he:autoParam (starEach (e::es) X.env=(false,eval e X.env)::starEach es X.env) aU0) (hpl:autoParam ((backTo pos (starEach es X.env)).any (·.1)=false) aU0):PuE X (.Call (.Name "sum" p) (e::es) [] pos) (tB fSum t):=
 zdb (zlq hc) zqi hg hm bSum ha (by decide) (by decide) he hpl
end
end PL
namespace L2
open PySem PySem.Spec PyProof.Rows
section
variable {X:Cx}{o e:Expr}{to te:TE}{apos cpos:Pos}
theorem zmH (ho:PE X o to)(he:PE X e te)(m:M1 X o "index" apos e cpos) :
  PE X (.Call (.Attribute o "index" apos) [e] [] cpos) (λσ H Q=>to σ H λx H1=>∃a xs,x=.ref a/\(SqL X.K H1 a xs\/SqT X.K H1 a xs)/\te σ H1 λy H2=>∃zs,(SqL X.K H1 a xs/\SqL X.K H2 a zs\/SqT X.K H1 a xs/\SqT X.K H2 a zs)/\∃j:Nat,zdD y=true/\zs.all zdD=true/\(∃w,zs[j]? = some w/\eqV w y=true)/\(∀m w,m<j->zs[m]? = some w->eqV w y=false)/\Q (.int (j:Int)) H2):=by
 intro pins s σ H Q I h;refine wpAny_Call_method_late m.base m.few m.line rfl (thn (ho pins s σ H _ I h) λu s1 q106q=>?_);obtain⟨x,H1,I1,rx,a,xs,ex,d,q1⟩:=q106q;subst ex;obtain rfl:u=Value.ref a:=rx;rcases d with d | d
 ·obtain⟨its,rv,⟨ob,n,h1,h2,h3,h4⟩,hz⟩:=I1.list d;refine⟨"list","list.index",PySem.F.plainAttrs_list,PySem.F.slot_list_index,PySem.F.type_list_index,⟨ob,h1,h2⟩,λb q=>by cases q;exact⟨ob,h1,h3⟩,?_⟩;rw[m.trees];refine Calls.callWith_builtin rfl (Calls.evalArgs_plain (Calls.spliced_cons (thn (he pins s1 σ H1 _ I1 q1) λiv s2 q107q=>Calls.spliced_nil ?_)));obtain⟨y,H2,I2,ry,zs,hsq,j,f1,f2,g1,g2,q2⟩:=q107q;rcases hsq with ⟨_,hsq⟩ | ⟨hst,_⟩
  ·exact zlm pins s2 σ H2 (.ref a) [y] (.ref a) [iv] Q I2 rfl (.cons ry .nil) ⟨a,zs,y,j,rfl,rfl,hsq,f1,f2,g1,g2,q2⟩
  ·exact(PL.zdK I1 d hst).elim
 ·obtain⟨ob,h1,h2,h4⟩:=I1.zqh d;refine⟨"tuple","tuple.index",PySem.F.plainAttrs_tuple,PySem.F.slot_tuple_index,PySem.F.type_tuple_index,⟨ob,h1,h2⟩,λb q=>by cases q;exact⟨ob,h1,h4⟩,?_⟩;rw[m.trees];refine Calls.callWith_builtin rfl (Calls.evalArgs_plain (Calls.spliced_cons (thn (he pins s1 σ H1 _ I1 q1) λiv s2 q108q=>Calls.spliced_nil ?_)));obtain⟨y,H2,I2,ry,zs,hsq,j,f1,f2,g1,g2,q2⟩:=q108q;rcases hsq with ⟨hsl,_⟩ | ⟨_,hsq⟩
  ·exact(PL.zdK I1 hsl d).elim
  ·exact zln pins s2 σ H2 (.ref a) [y] (.ref a) [iv] Q I2 rfl (.cons ry .nil) ⟨a,zs,y,j,rfl,rfl,hsq,f1,f2,g1,g2,q2⟩
end
end L2
namespace PL
open PySem PySem.Spec L2
open PyProof.Rows hiding St
noncomputable def pIdx (to te:TPE):TPE:=λρ Q=>to ρ λd _=>∃ds,(d=.lst ds\/d=.tup ds)/\ds.all zfD=true/\te ρ λe _=>zfD e=true/\e∈ds/\Q (.int (idxP ds e:Int)) .frz
section
variable {X:Cx}{o e:Expr}{to te:TPE}{apos cpos:Pos}
theorem zmI (ho:PuE X o to)(he:PuE X e te)(m:M1 X o "index" apos e cpos:=by exact⟨rfl,rfl,rfl,rfl⟩):PuE X (.Call (.Attribute o "index" apos) [e] [] cpos) (pIdx to te) where
 mono ρ Q Q' mm h:=ho.mono ρ _ _ (λd _ q109q=>by obtain⟨ds,e1,e2,h⟩:=q109q;exact⟨ds,e1,e2,he.mono ρ _ _ (λe _ q110q=>by obtain⟨q1,q2,q⟩:=q110q;exact⟨q1,q2,mm _ _ q⟩) h⟩) h
 run:=PE.weak (zmH ho.run he.run m) λσ H Q h=>by
  obtain⟨ρ,Fz,R,h⟩:=h;refine⟨ρ,Fz,R,ho.mono ρ _ _ (λd k q v F1 H1 p1=>?_) h⟩;obtain⟨ds,hd,f,q⟩:=q;have rt:=p1.root R;obtain⟨a,xs,rfl,hsq,hsq2,h2⟩:∃a xs,v=.ref a/\(SqL X.K H1 a xs\/SqT X.K H1 a xs)/\(∀H2,Same H1 H2->(SqL X.K H1 a xs/\SqL X.K H2 a xs\/SqT X.K H1 a xs/\SqT X.K H2 a xs))/\DenL X.K F1 H1 ds xs:=by
   rcases hd with rfl | rfl
   ·obtain⟨a,xs,rfl,h1,h2⟩:=zaq rt;exact⟨a,xs,rfl,.inl h1,λH2 s=>.inl ⟨h1,s.seq h1⟩,h2⟩
   ·obtain⟨a,xs,rfl,h1,h2⟩:=zeZ rt;exact⟨a,xs,rfl,.inr (SqT.of h1),λH2 s=>.inr ⟨SqT.of h1,SqT.of (s _ _ h1)⟩,h2⟩
  refine⟨a,xs,rfl,hsq,ρ,F1,R.ext p1.ext,he.mono ρ _ _ (λe ke q w F2 H2 p2=>?_) q⟩;obtain⟨fe,hm,q⟩:=q;have h3:=DenL.mono (.of p2.ext.same) p2.ext.sub _ _ h2;have hy:=zlp fe (p2.root (R.ext p1.ext));obtain⟨g1,g2⟩:=zoE f fe h3 hy hm;exact⟨xs,hsq2 H2 p2.ext.same,idxP ds e,ziU fe hy,zhm f h3,g1,g2,q _ F2 H2 ⟨p1.ext.trans p2.ext,by show Den _ _ _ _ _;simp only[Den]⟩⟩
end
section
variable {X:Cx}{a:Expr}{ta:TPE}{pos:Pos}
noncomputable def pNeg (ta:TPE):TPE:=λρ Q=>ta ρ λd _=>∃i:Int,d=.int i/\Q (.int (-i)) .frz
theorem zfl (ha:PuE X a ta):PuE X (.UnaryOp .USub a pos) (pNeg ta) where
 mono ρ Q Q' m h:=ha.mono ρ _ _ (λd k q111q=>by obtain⟨c,e,q⟩:=q111q;exact⟨c,e,m _ _ q⟩) h
 run:=PE.weak (zqQ zps ha.run) λσ H Q h=>by
  obtain⟨ρ,Fz,R,h⟩:=h;refine⟨ρ,Fz,R,ha.mono ρ _ _ (λd k ⟨c,e,q⟩ v Fz' H' p=>⟨c,?_,q _ Fz' H' ⟨p.ext,by show Den _ _ _ _ _;simp only[Den]⟩⟩) h⟩;subst e;exact zas (p.root R)
end
end PL
namespace Srt
open PySem PyProof.Rows
structure Cmp (prog:Program)(w:World)(A:Around)(E:Value->Shared->Prop)(s:Shared)(k:SortKind)(P:Keyed->Prop)(f:Keyed->Keyed->Bool):Prop where
 run:∀ {x y:Keyed} {Q:Option Bool->SortSt->Prop} {st:SortSt},P x->P y->kindOf st=k->Q (some (f x y)) st->wpS (model prog w) A E s (lt' x y) Q st
structure Same (st st':SortSt):Prop where
 kind:kindOf st'=kindOf st
 arr:arrOf st'=arrOf st
 pend:pendingOf st'=pendingOf st
 failed:failedOf st'=failedOf st
noncomputable abbrev Le (f:Keyed->Keyed->Bool)(x y:Keyed):Prop:=f y x=false
section
variable {prog:Program}{w:World}{A:Around}{E:Value->Shared->Prop}{s:Shared}{k:SortKind}{P:Keyed->Prop}{f:Keyed->Keyed->Bool}
noncomputable def Run (f:Keyed->Keyed->Bool)(a:Array Keyed)(lo hi:Nat):Prop:=∀(i j:Nat)(hj:j<a.size)(hij:i<j),lo<=i->j<hi->Le f (a[i]'(by lia)) a[j]
end
noncomputable def bin:Nat->Nat->Nat->StateT SortSt Sem Bool:=sortPriv% PySem.Builtin.binarySort
section
variable {prog:Program}{w:World}{A:Around}{E:Value->Shared->Prop}{s:Shared}{k:SortKind}{P:Keyed->Prop}{f:Keyed->Keyed->Bool}
structure Moved (a a':Array Keyed)(lo hi:Nat):Prop where
 pm:a'.Perm a
 out:∀j:Nat,j<lo\/hi<=j->a'[j]? = a[j]?
end
variable {P:Keyed->Prop}{f:Keyed->Keyed->Bool}
noncomputable def Stk (f:Keyed->Keyed->Bool)(a:Array Keyed):Nat->List (Nat×Nat×Nat)->Nat->Prop
 | s,[],hi=>s=hi
 | s,e::r,hi=>e.1=s/\0<e.2.1/\Run f a s (s+e.2.1)/\Stk f a (s+e.2.1) r hi
noncomputable def srt:StateT SortSt Sem Unit:=sortPriv% PySem.Builtin.sortRuns
section
variable {prog:Program}{w:World}{A:Around}{E:Value->Shared->Prop}{s:Shared}{k:SortKind}{P:Keyed->Prop}{f:Keyed->Keyed->Bool}
structure Inv (f:Keyed->Keyed->Bool)(k:SortKind)(a:Array Keyed)(st:SortSt)(lo:Nat):Prop where
 kind:kindOf st=k
 failed:failedOf st=none
 pm:(arrOf st).Perm a
 stk:Stk f (arrOf st) 0 (pendingOf st).toList lo
end
noncomputable def ltI:List Int->List Int->Bool
 | [],[]=>false
 | [],_::_=>true
 | _::_,[]=>false
 | x::xs,y::ys=>if x=y then ltI xs ys else decide (x<y)
end Srt
namespace JS
open PySem
noncomputable abbrev tb (m:Nat):SetTable:={ SetTable.fresh 0 0 true with mask:=m }
noncomputable def pth (m:Nat)(h:Int):Nat->SetTable.Probe
 | 0=>(tb m).probeStart h
 | n+1=>(tb m).advance (pth m h n)
structure Own (m:Nat)(ow:Array (Option Nat))(hs:List Int):Prop where
 sz:ow.size=m+1
 at_:∀(k:Nat) (h:Int),hs[k]? = some h->∃j n,ow[j]? = some (some k)/\(pth m h n).j=j/\∀d,d<n->∃q,ow[(pth m h d).j]? = some (some q)
 lt:∀(j k:Nat),ow[j]? = some (some k)->k<hs.length
 one:∀(j j' k:Nat),ow[j]? = some (some k)->ow[j']? = some (some k)->j=j'
open PySem PySem.Spec PyProof.Rows
section
variable {prog:Program}{w:World}{A:Around}{E:Value->Shared->Prop}{s:Shared}
noncomputable abbrev tH (prog:Program)(w:World)(y:List Int):Int:=tupleKeyHash (PySem.intKind prog w) y
end
noncomputable abbrev PA2:=List Int×Addr
noncomputable abbrev ent (prog:Program)(w:World)(p:PA2):Int×Value:=(tH prog w p.1,.ref p.2)
end JS
namespace PL
open PySem PySem.Spec L2
open PyProof.Rows hiding St
structure Mx (K:Xa)(C:Addr)(x qual:Str)(st:Stmt)(ps:List Str)(f:Addr)(fd:FuncData):Prop where
 fn:Fun K x qual st f fd
 bd:Binds K fd ps []
 me:Meth K C x f
noncomputable def zcj:Stmt->List Stmt
 | .ClassDef _ _ _ b _ _ _ _ _ _ _=>b
 | _=>[]
noncomputable abbrev TPN:=PEnv->List Str->List PV->(List Str->List PV->Prop)->Prop
structure RelN (K:Xa)(Fz:FZ)(ρ:PEnv)(σ:St)(H:Hp)(C x dx:Addr)(ks:List Str)(ds:List PV):Prop where
 rel:Rel K Fz ρ σ H
 hz:ρ[0]? = some none
 sz:σ[0]? = some (some (.ref x))
 nf:¬ Fz x
 no:∀(i:Nat) (d:PV),ρ[i]?≠some (some (d,true))
 at_:∃xs,H x=some (.ins C dx (ks.zip xs))/\ks.length=xs.length/\DenL K Fz H ds xs
theorem zgt {f:Str}{v:V}:∀ {ks:List Str}{xs:List V},ks.length=xs.length->f∉ks->putF f v (ks.zip xs)=(ks++[f]).zip (xs++[v])
 | [],[],_,_=>rfl
 | [],_::_,h,_=>nomatch h
 | _::_,[],h,_=>nomatch h
 | k::ks,x::xs,h,n=>by
  have hk:¬ k=f:=λz=>n (z▸Xm ..);rw[Yx,YJ,YJ,Yx,<- zgt (Nat.succ.inj h) λz=>n (Xh _ z)];show(if k=f then _ else _)=_
  rw[if_neg hk]
theorem RelN.nown {K:Xa}{Fz:FZ}{ρ:PEnv}{σ:St}{H:Hp}{C x dx:Addr}{ks:List Str}{ds:List PV}(R:RelN K Fz ρ σ H C x dx ks ds)(τ:St)(b:Addr):¬ zaM ρ τ b:=λ q113q=>by obtain⟨i,d,h,_⟩:=q113q;exact R.no i d h
theorem RelN.ext {K:Xa}{Fz Fz':FZ}{ρ:PEnv}{σ:St}{H H':Hp}{C x dx:Addr}{ks:List Str}{ds:List PV}(R:RelN K Fz ρ σ H C x dx ks ds)(e:Ext Fz H Fz' H'):RelN K Fz' ρ σ H' C x dx ks ds:=by
 obtain⟨xs,h1,h2,h3⟩:=R.at_;refine⟨R.rel.ext e,R.hz,R.sz,λz=>?_,R.no,xs,e.same _ _ h1,h2,DenL.mono (.of e.same) e.sub _ _ h3⟩;rcases e.new x z with w | w
 ·exact R.nf w
 ·rw[h1]at w;cases w
theorem RelN.fld {K:Xa}{Fz:FZ}{ρ:PEnv}{σ:St}{H:Hp}{C x dx:Addr}{ks:List Str}{ds:List PV}{xs:List V}{f:Str}{d:PV}{v:V}(R:RelN K Fz ρ σ H C x dx ks ds)(h1:H x=some (.ins C dx (ks.zip xs)))(h2:ks.length=xs.length)(h3:DenL K Fz H ds xs)(hf:f∉ks)(hd:Den K Fz H d v) :
  RelN K Fz ρ σ (upd H x (.ins C dx (putF f v (ks.zip xs)))) C x dx (ks++[f]) (ds++[d]):=by
 refine⟨R.rel.other h1 (λz=>z) R.nf (R.nown σ x),R.hz,R.sz,R.nf,R.no,xs++[v],?_,by rw[Xr,Xr,h2];rfl,DenL.rew' h1 (λz=>z) R.nf (DenL.snoc h3 hd)⟩;rw[zak,zgt h2 hf]
section
variable {K:Xa}{F F':FZ}{H H':Hp}{ρ:PEnv}{σ:St}
theorem Rel.grow (R:Rel K F ρ σ H)(no:∀(i:Nat)(d:PV),ρ[i]?≠some (some (d,true)))(s:Same H H')(sub:∀b,F b->F' b)(al:∀b,F' b->H' b≠none):Rel K F' ρ σ H' where
 al:=al
 len:=R.len
 frz i d e:=by
  obtain⟨v,q1,q2⟩:=R.frz i d e;exact⟨v,q1,Den.mono (.of s) sub _ _ q2⟩
 own i d e:=absurd e (no i d)
 inj i j d e a h:=absurd h (no i d)
theorem znr {b:Addr}{u o:HO}(h:H b=some u)(r:Rd H b o):u=o\/∃w,u=.frz w o:=by
 rcases r with r | ⟨w,r⟩
 ·rw[h]at r;cases r;exact .inl rfl
 ·rw[h]at r;cases r;exact .inr ⟨w,rfl⟩
variable {x L C dx:Addr}{fs:List (Str×V)}{fv:List V}
end
theorem zhn {f:Str}{v:V}:∀ {ks:List Str}{xs:List V},ks.length=xs.length->f∉ks->((ks++[f]).zip (xs++[v])).lookup f=some v
 | [],[],_,_=>by simp
 | [],_::_,h,_=>nomatch h
 | _::_,[],h,_=>nomatch h
 | k::ks,x::xs,h,n=>by
  rw[YJ,YJ,Yx,Yh,show(f == k)=false by rw[beq_eq_false_iff_ne];exact λz=>n (z▸Xm ..)];exact zhn (Nat.succ.inj h) λz=>n (Xh _ z)
theorem zlr {n m:Nat}(h:m<n):ixN n (m:Int)=some m:=by
 unfold ixN;rw[if_pos (by lia),if_pos (by lia)];rfl
structure MO (K:Xa)(Fz:FZ)(H:Hp)(C x dx L:Addr)(ks:List Str)(f:Str)(ds:List PV)(hs:List Int):Prop where
 nf:¬ Fz x
 nfL:¬ Fz L
 xL:x≠L
 at_:∃xs,H x=some (.ins C dx ((ks++[f]).zip (xs++[.ref L])))/\ks.length=xs.length/\DenL K Fz H ds xs
 li:H L=some (.lst (hs.map V.int))
structure zdi (x L:Addr)(Fz:FZ)(H:Hp)(Fz':FZ)(H':Hp):Prop where
 old:∀b o,b≠x->b≠L->H b=some o->H' b=some o
 sub:∀b,Fz b->Fz' b
 new:∀b,Fz' b->Fz b\/H b=none
 al:∀b,Fz' b->H' b≠none
theorem zdi.trans {x L:Addr}{F1 F2 F3:FZ}{H1 H2 H3:Hp}(a:zdi x L F1 H1 F2 H2)(b:zdi x L F2 H2 F3 H3)(nx:¬ F3 x)(nL:¬ F3 L):zdi x L F1 H1 F3 H3 where
 old c o h1 h2 e:=b.old c o h1 h2 (a.old c o h1 h2 e)
 sub c h:=b.sub c (a.sub c h)
 new c h:=by
  rcases b.new c h with w | w
  ·exact a.new c w
  ·cases e:H1 c with
   | none=>exact .inr rfl
   | some o=>rw[a.old c o (λz=>nx (z▸h)) (λz=>nL (z▸h)) e]at w;cases w
 al:=b.al
noncomputable abbrev PMz:=List PV->List Int->List PV->(List PV->List Int->Prop)->Prop
noncomputable def zmJ (F:PMz):Prop:=∀ds hs as Q Q',(∀a b,Q a b->Q' a b)->F ds hs as Q->F ds hs as Q'
noncomputable def spZ (K:Xa)(C:Addr)(ks:List Str)(f:Str)(F:PMz):Sp:=λvs H Q _=>∃(x dx L:Addr)(ws:List V)(Fz:FZ)(ds:List PV)(hs:List Int)(as:List PV),vs=.ref x::ws/\MO K Fz H C x dx L ks f ds hs/\(∀b,Fz b->H b≠none)/\DenL K Fz H as ws/\
 F ds hs as λds' hs'=>∀Fz' H',zdi x L Fz H Fz' H'->MO K Fz' H' C x dx L ks f ds' hs'->Q .non H'
noncomputable abbrev objOf (C:Addr)(ks:List Str)(f:Str)(ds:List PV)(hs:List Int):PV:=.obj C (ks++[f]) (ds++[.lst (hs.map PV.int)])
structure RelM (K:Xa)(Fz:FZ)(ρ:PEnv)(σ:St)(H:Hp)(C x dx L:Addr)(ks:List Str)(f:Str)(ds:List PV)(hs:List Int):Prop where
 rel:Rel K Fz ρ σ H
 sz:σ[0]? = some (some (.ref x))
 no:∀(i:Nat) (d:PV),ρ[i]?≠some (some (d,true))
 mo:MO K Fz H C x dx L ks f ds hs
section
variable {K:Xa}{Fz F':FZ}{ρ:PEnv}{σ:St}{H H':Hp}{C x dx L:Addr}{ks:List Str}{f:Str}{ds:List PV}{hs:List Int}
theorem zbU:∀(hs:List Int),DenL K Fz H (hs.map PV.int) (hs.map V.int)
 | []=>DenL.nil
 | s::r=>by rw[XJ,XJ];exact DenL.cons (by simp only[Den]) (zbU r)
theorem MO.den (m:MO K Fz H C x dx L ks f ds hs):Den K (λb=>Fz b\/b=x\/b=L) H (objOf C ks f ds hs) (.ref x):=by
 obtain⟨xs,h1,h2,h3⟩:=m.at_;simp only[Den];refine⟨x,dx,xs++[.ref L],rfl,.inr (.inl rfl),h1,by rw[Xr,Xr,h2];rfl,DenL.snoc (DenL.mono (Keep.of (Same.refl _)) (λ_ h=>.inl h) _ _ h3) ?_⟩;simp only[Den];exact⟨L,_,rfl,.inl ⟨.inr (.inr rfl),.inl m.li⟩,zbU hs⟩
theorem MO.alive (m:MO K Fz H C x dx L ks f ds hs)(al:∀b,Fz b->H b≠none):∀b,(Fz b\/b=x\/b=L)->H b≠none:=λb hb=>by
 obtain⟨xs,h1,_⟩:=m.at_;rcases hb with hb | rfl | rfl
 ·exact al b hb
 ·rw[h1];exact λz=>nomatch z
 ·rw[m.li];exact λz=>nomatch z
theorem RelM.view (R:RelM K Fz ρ σ H C x dx L ks f ds hs):Rel K (λb=>Fz b\/b=x\/b=L) (ρ.set 0 (some (objOf C ks f ds hs,false))) σ H:=by
 have g:=(R.rel.grow R.no (Same.refl _) (λb h=>.inl h) (R.mo.alive R.rel.al)).set (i:=0) R.mo.den;have e:σ.set 0 (some (.ref x))=σ:=by
  have hl:=(Xd.mp R.sz).1;have he:=(Xd.mp R.sz).2;rw[<- he];exact List.set_getElem_self hl
 rw[e]at g;exact g
theorem MO.back (m:MO K Fz H C x dx L ks f ds hs)(e:Ext (λb=>Fz b\/b=x\/b=L) H F' H'):MO K (λb=>F' b/\b≠x/\b≠L) H' C x dx L ks f ds hs/\zdi x L Fz H (λb=>F' b/\b≠x/\b≠L) H':=by
 obtain⟨xs,h1,h2,h3⟩:=m.at_;have sub:∀b,Fz b->F' b/\b≠x/\b≠L:=λb hb=>⟨e.sub b (.inl hb),λz=>m.nf (z▸hb),λz=>m.nfL (z▸hb)⟩;refine⟨⟨λz=>z.2.1 rfl,λz=>z.2.2 rfl,m.xL,⟨xs,e.same _ _ h1,h2,DenL.mono (Keep.of e.same) sub _ _ h3⟩,e.same _ _ m.li⟩,λb o _ _ h=>e.same b o h,sub,λb hb=>?_,λb hb=>e.al b hb.1⟩;rcases e.new b hb.1 with (w | w | w) | w
 ·exact .inl w
 ·exact absurd w hb.2.1
 ·exact absurd w hb.2.2
 ·exact .inr w
theorem RelM.back (R:RelM K Fz ρ σ H C x dx L ks f ds hs)(e:Ext (λb=>Fz b\/b=x\/b=L) H F' H'):RelM K (λb=>F' b/\b≠x/\b≠L) ρ σ H' C x dx L ks f ds hs/\zdi x L Fz H (λb=>F' b/\b≠x/\b≠L) H':=by
 obtain⟨m,s⟩:=R.mo.back e;exact⟨⟨R.rel.grow R.no e.same s.sub s.al,R.sz,R.no,m⟩,s⟩
noncomputable def zeC:PV->Prop
 | .non=>True
 | .int _=>True
 | .bl _=>True
 | .str _=>True
 | _=>False
theorem zfm {d:PV}{v:V}(p:zeC d)(h:Den K Fz H d v){F2:FZ}{H2:Hp}:Den K F2 H2 d v:=by
 cases d<;>first | (simp only[Den]at h ⊢;exact h) | exact p.elim
theorem zcs {d:PV}{v:V}(p:zeC d)(h:Root K Fz H d v):Den K Fz H d v:=by
 cases d<;>first | exact h | exact p.elim
end
noncomputable abbrev TPZ:=PEnv->List PV->List Int->(PEnv->List PV->List Int->Prop)->Prop
noncomputable def outZ (K:Xa)(C x dx L:Addr)(ks:List Str)(f:Str)(D:Ends)(Fz:FZ)(H:Hp)(ρ':PEnv)(ds':List PV)(hs':List Int):Prop:=∀σ' Fz' H',zdi x L Fz H Fz' H'->RelM K Fz' ρ' σ' H' C x dx L ks f ds' hs'->D.nx σ' H'
noncomputable def zqj (K:Xa)(C:Addr)(ks:List Str)(f:Str)(t:TPZ):TS:=λD σ H=>∃ρ Fz x dx L ds hs,RelM K Fz ρ σ H C x dx L ks f ds hs/\t ρ ds hs (outZ K C x dx L ks f D Fz H)
structure PuZ (X:Cx)(C:Addr)(ks:List Str)(f:Str)(st:Stmt)(t:TPZ):Prop where
 mono:∀ρ ds hs Q Q',(∀a b c,Q a b c->Q' a b c)->t ρ ds hs Q->t ρ ds hs Q'
 run:PS X st (zqj X.K C ks f t)
structure PuZs (X:Cx)(C:Addr)(ks:List Str)(f:Str)(st:List Stmt)(t:TPZ):Prop where
 mono:∀ρ ds hs Q Q',(∀a b c,Q a b c->Q' a b c)->t ρ ds hs Q->t ρ ds hs Q'
 run:PSs X st (zqj X.K C ks f t)
noncomputable def zSeq (t u:TPZ):TPZ:=λρ ds hs Q=>t ρ ds hs λρ' ds' hs'=>u ρ' ds' hs' Q
section
variable {X:Cx}{C:Addr}{ks:List Str}{f:Str}{st:Stmt}{rest:List Stmt}{t u:TPZ}{e:Expr}{te:TPE}{pos:Pos}
theorem zgu (h:PuZ X C ks f st t):PuZs X C ks f [st] t:=⟨h.mono,zeb h.run⟩
theorem zdT (h1:PuZ X C ks f st t)(h2:PuZs X C ks f rest u):PuZs X C ks f (st::rest) (zSeq t u) where
 mono ρ ds hs Q Q' m h:=h1.mono _ _ _ _ _ (λa b c q=>h2.mono _ _ _ _ _ m q) h
 run:=PSs.weak (zaK h1.run h2.run) λD σ H h=>by
  obtain⟨ρ,Fz,x,dx,L,ds,hs,R,h⟩:=h;refine⟨ρ,Fz,x,dx,L,ds,hs,R,h1.mono _ _ _ _ _ (λρ' ds' hs' q σ' Fz' H' s R'=>?_) h⟩;exact⟨ρ',Fz',x,dx,L,ds',hs',R',h2.mono _ _ _ _ _ (λa b c q σ2 F2 H2 s2 R2=>q σ2 F2 H2 (s.trans s2 R2.mo.nf R2.mo.nfL) R2) q⟩
theorem RelM.set {K:Xa}{Fz:FZ}{ρ:PEnv}{σ:St}{H:Hp}{x dx L:Addr}{ds:List PV}{hs:List Int}{i:Nat}{d:PV}{v:V}(R:RelM K Fz ρ σ H C x dx L ks f ds hs)(hi:i≠0)(h:Den K Fz H d v):RelM K Fz (ρ.set i (some (d,false))) (σ.set i (some v)) H C x dx L ks f ds hs:=by
 refine⟨R.rel.set h,by rw[Xc hi];exact R.sz,λj d' z=>?_,R.mo⟩;by_cases hj:i=j
 ·subst hj;by_cases hb:i<ρ.length
  ·rw[Xg hb]at z;cases z
  ·rw[XC (by lia),XA (by lia)]at z;cases z
 ·rw[Xc hj]at z;exact R.no j d' z
noncomputable def zSet (C:Addr)(ks:List Str)(f:Str)(i:Nat)(te:TPE):TPZ:=λρ ds hs Q=>i≠0/\te (ρ.set 0 (some (objOf C ks f ds hs,false))) λd _=>zeC d/\Q (ρ.set i (some (d,false))) ds hs
theorem zls {i:Nat}{y:Str}{pos':Pos}(hN:X.N.Nodup)(hi:X.N[i]? = some y)(hx:Loc X.env.scope y)(he:PuE X e te)(hs:autoParam (swapsWith e (some (.Name y pos')) pos.line X.env=pure false) aU0)(hf:autoParam (X.fn y=true\/X.env.scope.names.lookup y=some .local) aU3) :
  PuZ X C ks f (.Assign [.Name y pos'] e pos) (zSet C ks f i te) where
 mono ρ ds hs Q Q' m h:=⟨h.1,he.mono _ _ _ (λd k q=>⟨q.1,m _ _ _ q.2⟩) h.2⟩
 run:=PS.weak (zeN hN hi hx he.run hs hf) λD σ H h=>by
  obtain⟨ρ,Fz,x,dx,L,ds,hs,R,i0,h⟩:=h;refine⟨_,_,R.view,he.mono _ _ _ (λd k q v F1 H1 p1=>?_) h⟩;obtain⟨pd,q⟩:=q;obtain⟨R2,s2⟩:=R.back p1.ext;exact q _ _ H1 s2 (R2.set i0 (zfm pd (zcs pd (p1.root R.view))))
noncomputable def zce (C:Addr)(ks:List Str)(f:Str)(tc:TPT)(tb:TPZ):TPZ:=λρ ds hs Q=>∃Iv:Nat->PEnv->List PV->List Int->Prop,(∃m,Iv m ρ ds hs)/\∀m ρ' ds' hs',Iv m ρ' ds' hs'->tc (ρ'.set 0 (some (objOf C ks f ds' hs',false))) λb=>if b=true then tb ρ' ds' hs' λρ2 ds2 hs2=>∃m',m'<m/\Iv m' ρ2 ds2 hs2 else Q ρ' ds' hs'
theorem zlt {c:Expr}{tc:TPT}{body:List Stmt}{tb:TPZ}(hp:PassesOwn (model X.prog X.w) X.A X.env X.xe)(hc:PuT X c tc)(hb:PuZs X C ks f body tb):PuZ X C ks f (.While c body [] pos) (zce C ks f tc tb) where
 mono ρ ds hs Q Q' m h:=by
  obtain⟨Iv,h0,h⟩:=h;refine⟨Iv,h0,λn ρ' ds' hs' hI=>hc.mono _ _ _ (λb q=>?_) (h n ρ' ds' hs' hI)⟩;cases b with
  | true=>exact q
  | false=>exact m _ _ _ q
 run:=PS.weak (zio hp hc.run hb.run) λD σ H h=>by
  obtain⟨ρ,Fz,x,dx,L,ds,hs,R,Iv,⟨m0,h0⟩,h⟩:=h;refine⟨λm σ' H'=>∃ρ' F' ds' hs',RelM X.K F' ρ' σ' H' C x dx L ks f ds' hs'/\Iv m ρ' ds' hs'/\zdi x L Fz H F' H',⟨m0,ρ,Fz,ds,hs,R,h0,λb o _ _ e=>e,λ_ h=>h,λ_ h=>.inl h,R.rel.al⟩,?_⟩;rintro m σ' H' ⟨ρ',F',ds',hs',R',hI,s'⟩;refine⟨_,_,R'.view,hc.mono _ _ _ (λb q F2 H2 x2=>?_) (h m ρ' ds' hs' hI)⟩;obtain⟨R2,s2⟩:=R'.back x2;have s3:=s'.trans s2 R2.mo.nf R2.mo.nfL;cases b with
  | true=>
   rw[if_pos rfl]at q ⊢;refine⟨λσ3 H3=>∃m',m'<m/\∃ρ3 F3 ds3 hs3,RelM X.K F3 ρ3 σ3 H3 C x dx L ks f ds3 hs3/\Iv m' ρ3 ds3 hs3/\zdi x L Fz H F3 H3,λσ3 H3 hN=>hN,ρ',_,x,dx,L,ds',hs',R2,hb.mono _ _ _ _ _ (λρ3 ds3 hs3 q σ3 F3 H3 s4 R3=>?_) q⟩;obtain⟨m',hm,hI'⟩:=q;exact⟨m',hm,ρ3,F3,ds3,hs3,R3,hI',s3.trans s4 R3.mo.nf R3.mo.nfL⟩
  | false=>
   rw[if_neg Xi]at q ⊢;exact q σ' _ H2 s3 R2
end
section
variable {K:Xa}{Fz F':FZ}{ρ:PEnv}{σ:St}{H H':Hp}{C x dx L:Addr}{ks:List Str}{f:Str}{ds ds':List PV}{hs hs':List Int}
theorem MO.keep (m:MO K Fz H C x dx L ks f ds hs)(s:zdi x L Fz H F' H'):Keep Fz H H':=.mk' λb o e w=>by
 obtain⟨xs,h1,_⟩:=m.at_;refine s.old b o (λz=>?_) (λz=>?_) e
 ·subst z;rcases w with w | w
  ·exact m.nf w
  ·rw[h1]at e;cases e;exact w
 ·subst z;rcases w with w | w
  ·exact m.nfL w
  ·rw[m.li]at e;cases e;exact w
theorem RelM.step (R:RelM K Fz ρ σ H C x dx L ks f ds hs)(s:zdi x L Fz H F' H')(m:MO K F' H' C x dx L ks f ds' hs'):RelM K F' ρ σ H' C x dx L ks f ds' hs' where
 rel:={
  al:=s.al
  len:=R.rel.len
  frz:=λi d e=>by
   obtain⟨v,q1,q2⟩:=R.rel.frz i d e;exact⟨v,q1,Den.mono (R.mo.keep s) s.sub _ _ q2⟩
  own:=λi d e=>absurd e (R.no i d)
  inj:=λi j d e a h=>absurd h (R.no i d) }
 sz:=R.sz
 no:=R.no
 mo:=m
theorem zfS {F2:FZ}{H2:Hp}:∀ {as:List PV}{vs:List V},(∀d∈as,zeC d)->zjL K Fz H as vs->DenL K F2 H2 as vs
 | _,_,_,.nil=>DenL.nil
 | _,_,p,.cons h t=>DenL.cons (zfm (p _ Xm) (zcs (p _ Xm) h)) (zfS (λd hd=>p d (Xh _ hd)) t)
end
noncomputable def zeo (C:Addr)(ks:List Str)(f m:Str)(F:PMz)(ta:TPA):TPZ:=λρ ds hs Q=>m∉ks++[f]/\ta (ρ.set 0 (some (objOf C ks f ds hs,false))) λops=>(∀d∈ops.map (·.1),zeC d)/\F ds hs (ops.map (·.1)) λds' hs'=>Q ρ ds' hs'
section
variable {X:Cx}{C fa:Addr}{ks:List Str}{f m x:Str}{e:Expr}{es:List Expr}{ta:TPA}{F:PMz}{k:Nat}{fd:FuncData}{ps:List Str}{pl:Sem Bool}{p1 apos cpos pos:Pos}
theorem zmK (c:Cls X.K C)(hm:Meth X.K C m fa)(G:FnOk X.prog X.w X.K X.mg X.base CX0 k fa fd ps (spZ X.K C ks f F))(mf:zmJ F)(hr:Room k X.A)(hb:Binds X.K fd ps [])(ha:PuA X (e::es) ta)
  (hx:autoParam (X.N[0]? = some x) aU0) (hv:autoParam (Vis X.env.scope x) aU2) (hd:autoParam ((x == ("__debug__" : Str))=false) aU1) (hcd:autoParam ((x == ("__classdict__" : Str))=false) aU1)
  (hst:autoParam (starEach (e::es) X.env=(false,eval e X.env)::starEach es X.env) aU0) (hpl:autoParam ((backTo cpos (starEach es X.env)).any (·.1)=false) aU0)
  (ht:autoParam (eval (.Call (.Attribute (.Name x p1) m apos) (e::es) [] cpos) X.env=(do
   let ov <- eval (.Name x p1) X.env
   standAt apos.atName
   let (f,first) <- holding [ov] (getMethod ov m pl)
   callWith cpos f first (backTo cpos (starEach (e::es) X.env)) (backToKw cpos (keywordEach [] X.env)))) aU0)
  (hs:autoParam (swapsWith (.Call (.Attribute (.Name x p1) m apos) (e::es) [] cpos) none pos.line X.env=pure false) aU0) :
  PuZ X C ks f (.Expr (.Call (.Attribute (.Name x p1) m apos) (e::es) [] cpos) pos) (zeo C ks f m F ta) where
 mono ρ ds hs Q Q' mm h:=⟨h.1,ha.mono _ _ _ (λops q=>⟨q.1,mf _ _ _ _ _ (λa b q=>mm _ _ _ q) q.2⟩) h.2⟩
 run:=PS.weak (zga (zkp (pl:=pl) (zbb hx hv hd hcd) c hm G hr hb .nil zhR ha.run hst hpl ht) hs) λD σ H h=>by
  obtain⟨ρ,Fz,x,dx,L,ds,hs,R,hmk,h⟩:=h;obtain⟨xs,q1,q2,q3⟩:=R.mo.at_;refine⟨_,R.sz,x,dx,_,rfl,q1,zcR (α:=V) (β:=V) hmk,_,_,R.view,ha.mono _ _ _ (λops h vs F1 H1 x1 o=>?_) h⟩;obtain⟨pd,hF⟩:=h;obtain⟨R2,s2⟩:=R.back x1;show spZ X.K C ks f F (.ref x::(vs++[])) H1 _ E0;rw[List.append_nil];refine⟨x,dx,L,vs,_,ds,hs,ops.map (·.1),rfl,R2.mo,R2.rel.al,zfS pd (o.root R.view x1),mf _ _ _ _ _ (λds' hs' q F3 H3 s3 m3=>?_) hF⟩;exact q σ F3 H3 (s2.trans s3 m3.nf m3.nfL) (R2.step s3 m3)
end
section
variable {P:Program}{w:World}{K:Xa}{mg:Str->Option Value}{base:Heap}
theorem fn_Z {x qual:Str}{st:Stmt}{f0 C:Addr}{fd:FuncData}{N ps ks:List Str}{f:Str}{k:Nat}{F:PMz}(Fn:Fun K x qual st f0 fd)(S:zan N ps (zac st))(len:∀ds hs as Q,F ds hs as Q->as.length+1=ps.length)
  (hbody:∀(cdv:Value) (A:Around) (outer:List Env) (s:Shared) (H:Hp) (E:XK),Room k (A.deeper (envOfC qual (zac st) s.heap.objs.size f0 cdv))->
   ∃t,PuZs (cxOf CX0 P w K mg base N qual (zac st) f0 cdv A outer s H E).nox C ks f (zam st) t/\∀ds hs as Q,F ds hs as Q->t ((zaD N (.non::as)).set 0 none) ds hs λ_ ds' hs'=>Q ds' hs'):FnOk P w K mg base CX0 (k+1) f0 fd ps (spZ K C ks f F):=by
 refine Fn.ok S (λvs H Q E h=>?_) (λcdv A outer s H vs Q E hr h=>?_)
 ·obtain⟨x,dx,L,ws,Fz,ds,hs,as,rfl,_,_,hd,q⟩:=h;rw[XM,<- hd.length];exact len _ _ _ _ q
 obtain⟨t,ht,hq⟩:=hbody cdv A outer s H E hr;obtain⟨x,dx,L,ws,Fz,ds,hs,as,rfl,m,al,hd,h⟩:=h;have hd':DenL K Fz H (.non::as) (.non::ws):=DenL.cons (by simp only[Den]) hd;obtain⟨R,no⟩:=zdN (N:=N) al hd';have es:start N (.ref x::ws)=(start N (.non::ws)).set 0 (some (.ref x)):=rfl;refine⟨_,ht.run,?_⟩;rw[es];refine⟨(zaD N (.non::as)).set 0 none,Fz,x,dx,L,ds,hs,⟨R.unset,rfl,λi d z=>?_,m⟩,ht.mono _ _ _ _ _ (λρ' ds' hs' q σ' Fz' H' s' R'=>q Fz' H' s' R'.mo) (hq ds hs as _ h)⟩;by_cases hi:i=0
 ·subst hi;cases z
 ·rw[Xc (λy=>hi y.symm)]at z;have hlen:i<(zaD N (.non::as)).length:=(Xd.mp z).1;rw[R.len]at hlen;obtain⟨a,q1,_⟩:=R.own i d z;exact no _ a ⟨i,d,z,q1⟩
end
theorem ziW {g f:Str}{v:V}{L:Addr}:∀ {ks:List Str}{xs:List V}{i:Nat},ks.length=xs.length->ks.Nodup->ks[i]? = some g->putF g v ((ks++[f]).zip (xs++[.ref L]))=(ks++[f]).zip (xs.set i v++[.ref L])
 | [],_,i,_,_,h=>by simp at h
 | _::_,[],_,h,_,_=>nomatch h
 | k::ks,x::xs,0,h,n,e=>by
  have e:k=g:=by simpa using e
  subst e;show(if k=k then _ else _)=_
  rw[if_pos rfl];rfl
 | k::ks,x::xs,i+1,h,n,e=>by
  have e:ks[i]? = some g:=by simpa using e
  have hk:¬ k=g:=λz=>(Yg.mp n).1 (z▸XI e);rw[YJ,YJ,Yx];show(if k=g then _ else _)=_
  rw[if_neg hk,ziW (Nat.succ.inj h) (Yg.mp n).2 e];rfl
section
variable {K:Xa}{Fz:FZ}{ρ:PEnv}{σ:St}{H:Hp}{C x dx L:Addr}{ks:List Str}{f g:Str}{ds:List PV}{hs:List Int}{gi:Nat}
theorem RelM.fld (R:RelM K Fz ρ σ H C x dx L ks f ds hs){xs:List V}{d:PV}{v:V}(h1:H x=some (.ins C dx ((ks++[f]).zip (xs++[.ref L]))))(h2:ks.length=xs.length)(h3:DenL K Fz H ds xs)(nd:ks.Nodup)(hg:ks[gi]? = some g)(hd:Den K Fz H d v) :
  RelM K Fz ρ σ (upd H x (.ins C dx (putF g v ((ks++[f]).zip (xs++[.ref L]))))) C x dx L ks f (ds.set gi d) hs/\zdi x L Fz H Fz (upd H x (.ins C dx (putF g v ((ks++[f]).zip (xs++[.ref L]))))):=by
 have nown:¬ zaM ρ σ x:=(λ q114q=>by obtain⟨i,d,h,_⟩:=q114q;exact R.no i d h);refine⟨⟨R.rel.other h1 (λz=>z) R.mo.nf nown,R.sz,R.no,R.mo.nf,R.mo.nfL,R.mo.xL,⟨xs.set gi v,by rw[zak,ziW h2 nd hg],by rw[XZ];exact h2,DenL.rew' h1 (λz=>z) R.mo.nf (DenL.set gi h3 hd)⟩,by rw[zai R.mo.xL.symm];exact R.mo.li⟩,λb o n _ e=>by rw[zai n];exact e,λ_ h=>h,λ_ h=>.inl h,λb hb=>?_⟩;by_cases n:b=x
 ·exact absurd (n▸hb) R.mo.nf
 ·rw[zai n];exact R.rel.al b hb
theorem RelM.put (R:RelM K Fz ρ σ H C x dx L ks f ds hs)(n:Nat)(c:Int):RelM K Fz ρ σ (upd H L (.lst ((hs.map V.int).set n (.int c)))) C x dx L ks f ds (hs.set n c)/\zdi x L Fz H Fz (upd H L (.lst ((hs.map V.int).set n (.int c)))):=by
 have nown:¬ zaM ρ σ L:=(λ q115q=>by obtain⟨i,d,h,_⟩:=q115q;exact R.no i d h);obtain⟨xs,h1,h2,h3⟩:=R.mo.at_;refine⟨⟨R.rel.other R.mo.li (λz=>z) R.mo.nfL nown,R.sz,R.no,R.mo.nf,R.mo.nfL,R.mo.xL,⟨xs,by rw[zai R.mo.xL];exact h1,h2,DenL.rew' R.mo.li (λz=>z) R.mo.nfL h3⟩,by rw[zak,List.map_set]⟩,λb o _ m e=>by rw[zai m];exact e,λ_ h=>h,λ_ h=>.inl h,λb hb=>?_⟩;by_cases m:b=L
 ·exact absurd (m▸hb) R.mo.nfL
 ·rw[zai m];exact R.rel.al b hb
end
noncomputable def zFld (C:Addr)(ks:List Str)(f g:Str)(gi:Nat)(te:TPE):TPZ:=λρ ds hs Q=>ks.Nodup/\ks[gi]? = some g/\ks.length<900/\te (ρ.set 0 (some (objOf C ks f ds hs,false))) λd _=>zeC d/\Q ρ (ds.set gi d) hs
noncomputable def zPut (C:Addr)(ks:List Str)(f:Str)(ti te:TPE):TPZ:=λρ ds hs Q=>f∉ks/\te (ρ.set 0 (some (objOf C ks f ds hs,false))) λd _=>∃c,d=.int c/\ti (ρ.set 0 (some (objOf C ks f ds hs,false))) λe _=>∃n:Nat,e=.int n/\n<hs.length/\Q ρ ds (hs.set n c)
section
variable {X:Cx}{C:Addr}{ks:List Str}{f g x:Str}{e ei:Expr}{te ti:TPE}{gi:Nat}{p p4 p5 p7 pos pos':Pos}
theorem zoF (c:Cls X.K C)(n:zbF X.K C g)(he:PuE X e te)(hN:autoParam (X.N[0]? = some x) aU0)(hv:autoParam (Vis X.env.scope x) aU2)(hd:autoParam ((x == ("__debug__" : Str))=false) aU1) (hcd:autoParam ((x == ("__classdict__" : Str))=false) aU1)
  (hs:autoParam (swapsWith e (some (.Attribute (.Name x p) g pos')) pos.line X.env=pure false) aU0):PuZ X C ks f (.Assign [.Attribute (.Name x p) g pos'] e pos) (zFld C ks f g gi te) where
 mono ρ ds hs Q Q' m h:=⟨h.1,h.2.1,h.2.2.1,he.mono _ _ _ (λd k q=>⟨q.1,m _ _ _ q.2⟩) h.2.2.2⟩
 run:=PS.weak (ziq (zbb hN hv hd hcd) he.run hs) λD σ H h=>by
  obtain⟨ρ,Fz,x,dx,L,ds,hs,R,nd,hg,hl,h⟩:=h;refine⟨_,_,R.view,he.mono _ _ _ (λd k q v F1 H1 p1=>?_) h⟩;obtain⟨pd,q⟩:=q;obtain⟨R2,s2⟩:=R.back p1.ext;obtain⟨xs,h1,h2,h3⟩:=R2.mo.at_;obtain⟨R3,s3⟩:=R2.fld h1 h2 h3 nd hg (zfm pd (zcs pd (p1.root R.view)));exact⟨_,R2.sz,x,C,dx,_,rfl,h1,c,n,by rw[List.length_zip,Xr,Xr];simp only[Yt];lia,q σ _ _ (s2.trans s3 R3.mo.nf R3.mo.nfL) R3⟩
theorem zoG (c:Cls X.K C)(n:zbF X.K C f)(hi:PuE X ei ti)(he:PuE X e te)(hN:autoParam (X.N[0]? = some x) aU0)(hv:autoParam (Vis X.env.scope x) aU2)(hd:autoParam ((x == ("__debug__" : Str))=false) aU1) (hcd:autoParam ((x == ("__classdict__" : Str))=false) aU1)
  (hbf:autoParam (attributeBase (.Name x p4) f X.env (eval (.Name x p4) X.env)=eval (.Name x p4) X.env) aU0)
  (hw1:autoParam (swapsWithSole [.Subscript (.Attribute (.Name x p4) f p5) ei p7] e pos.line X.env=pure false) aU0) (hw2:autoParam (swappedStores [.Subscript (.Attribute (.Name x p4) f p5) ei p7] e X.env=pure none) aU0)
  (h1:autoParam ((assignEach [.Subscript (.Attribute (.Name x p4) f p5) ei p7] X.env).map (·.2)=[assign (.Subscript (.Attribute (.Name x p4) f p5) ei p7) X.env]) aU0)
  (hasg:autoParam (∀v,assign (.Subscript (.Attribute (.Name x p4) f p5) ei p7) X.env v=(do
   let ov <- holding [v] (eval (.Attribute (.Name x p4) f p5) X.env);let iv <- holding [v,ov] (eval ei X.env)
   standAt p7
   holding [v,ov,iv] (setItem ov iv v)
   release [v,ov,iv] [])) aU5):PuZ X C ks f (.Assign [.Subscript (.Attribute (.Name x p4) f p5) ei p7] e pos) (zPut C ks f ti te) where
 mono ρ ds hs Q Q' m h:=⟨h.1,he.mono _ _ _ (λd k q116q=>by obtain⟨c,e1,q⟩:=q116q;exact⟨c,e1,hi.mono _ _ _ (λd k q117q=>by obtain⟨n,e2,e3,q⟩:=q117q;exact⟨n,e2,e3,m _ _ _ q⟩) q⟩) h.2⟩
 run:=PS.weak (znh he.run (zng (znj (zbb hN hv hd hcd) hbf) hi.run set_list hasg) hw1 hw2 h1) λD σ H h=>by
  obtain⟨ρ,Fz,x,dx,L,ds,hs,R,hfk,h⟩:=h;refine⟨_,_,R.view,he.mono _ _ _ (λd k q v F1 H1 p1=>?_) h⟩;obtain⟨cc,rfl,q⟩:=q;have ev:=zas (p1.root R.view);obtain⟨R2,s2⟩:=R.back p1.ext;obtain⟨xs,a1,a2,a3⟩:=R2.mo.at_;refine⟨_,R2.sz,x,C,dx,_,.ref L,rfl,a1,c,n,zhn a2 hfk,_,_,R2.view,hi.mono _ _ _ (λd k q v2 F2 H2 p2=>?_) q⟩;obtain⟨nn,rfl,hn,q⟩:=q;have ev2:=zas (p2.root R2.view);obtain⟨R3,s3⟩:=R2.back p2.ext;obtain⟨R4,s4⟩:=R3.put nn cc;refine⟨L,_,nn,nn,rfl,ev2,R3.mo.li,by rw[Xb];exact zlr hn,?_⟩;rw[ev];exact q σ _ _ ((s2.trans s3 R3.mo.nf R3.mo.nfL).trans s4 R4.mo.nf R4.mo.nfL) R4
end
noncomputable def zep (hs:List Int)(d:PV):Prop:=∃is:List Int,d=.lst (is.map PV.int)/\is.length≠hs.length
section
variable {K:Xa}{Fz F':FZ}{ρ:PEnv}{σ:St}{H H':Hp}{C x dx L:Addr}{ks:List Str}{f:Str}{ds:List PV}{hs:List Int}
theorem zbs:∀ {is:List Int}{xs:List V},DenL K Fz H (is.map PV.int) xs->xs=is.map V.int
 | [],xs,h=>by rw[List.map_nil]at h;simp only[DenL]at h;exact h
 | s::r,xs,h=>by
  rw[XJ]at h;simp only[DenL]at h;obtain⟨v,t,z,h1,h2⟩:=h;simp only[Den]at h1;subst z h1;rw[XJ,zbs h2]
theorem MO.drop (m:MO K Fz H C x dx L ks f ds hs){d:PV}{v:V}(r:zep hs d)(h:Den K F' H d v):Den K (λb=>F' b/\b≠x/\b≠L) H d v:=by
 obtain⟨is,rfl,hl⟩:=r;obtain⟨ys,h1,_⟩:=m.at_;simp only[Den]at h ⊢;obtain⟨a,xs,rfl,h2,h3⟩:=h;have e:=zbs h3;subst e;refine⟨a,_,rfl,?_,zbU is⟩;rcases h2 with ⟨f1,f2⟩ | h2
 ·refine .inl ⟨⟨f1,λz=>?_,λz=>?_⟩,f2⟩
  ·subst z;rcases znr h1 f2 with w | ⟨_,w⟩<;>cases w
  ·subst z;rcases znr m.li f2 with w | ⟨_,w⟩
   ·injection w with w;have:=congrArg List.length w;rw[Xb,Xb]at this;exact hl this.symm
   ·cases w
 ·exact .inr h2
theorem MO.zqk (m:MO K Fz H C x dx L ks f ds hs):∀ {rows:List PV}{xs:List V},(∀r∈rows,zep hs r)->DenL K F' H rows xs->DenL K (λb=>F' b/\b≠x/\b≠L) H rows xs
 | [],xs,_,h=>by simpa only[DenL]using h
 | d::rows,xs,g,h=>by
  simp only[DenL]at h;obtain⟨v,r,rfl,h1,h2⟩:=h;exact DenL.cons (m.drop (g d Xm) h1) (MO.zqk m (λr hr=>g r (Xh _ hr)) h2)
end
noncomputable def zeq (C:Addr)(ks:List Str)(f:Str)(i:Nat)(te:TPE):TPZ:=λρ ds hs Q=>i≠0/\te (ρ.set 0 (some (objOf C ks f ds hs,false))) λd k=>k=.frz/\zep hs d/\Q (ρ.set i (some (d,false))) ds hs
section
variable {X:Cx}{C:Addr}{ks:List Str}{f:Str}{e:Expr}{te:TPE}{pos:Pos}
theorem zmL {i:Nat}{y:Str}{pos':Pos}(hN:X.N.Nodup)(hi:X.N[i]? = some y)(hx:Loc X.env.scope y)(he:PuE X e te)(hs:autoParam (swapsWith e (some (.Name y pos')) pos.line X.env=pure false) aU0)(hf:autoParam (X.fn y=true\/X.env.scope.names.lookup y=some .local) aU3) :
  PuZ X C ks f (.Assign [.Name y pos'] e pos) (zeq C ks f i te) where
 mono ρ ds hs Q Q' m h:=⟨h.1,he.mono _ _ _ (λd k q=>⟨q.1,q.2.1,m _ _ _ q.2.2⟩) h.2⟩
 run:=PS.weak (zeN hN hi hx he.run hs hf) λD σ H h=>by
  obtain⟨ρ,Fz,x,dx,L,ds,hs,R,i0,h⟩:=h;refine⟨_,_,R.view,he.mono _ _ _ (λd k q v F1 H1 p1=>?_) h⟩;obtain⟨rfl,pd,q⟩:=q;obtain⟨R2,s2⟩:=R.back p1.ext;exact q _ _ H1 s2 (R2.set i0 (R2.mo.drop pd p1.opd))
end
section
variable {K:Xa}{Fz:FZ}{ρ:PEnv}{σ:St}{H:Hp}{C x dx L a:Addr}{ks:List Str}{f:Str}{ds:List PV}{hs:List Int}{o u:HO}
theorem RelM.other (R:RelM K Fz ρ σ H C x dx L ks f ds hs)(h:H a=some u)(hi:¬ Imm u)(nf:¬ Fz a)(nx:a≠x)(nL:a≠L):RelM K Fz ρ σ (upd H a o) C x dx L ks f ds hs:=by
 obtain⟨xs,h1,h2,h3⟩:=R.mo.at_;exact⟨R.rel.other h hi nf (λ q118q=>by obtain⟨i,d,z,_⟩:=q118q;exact R.no i d z),R.sz,R.no,R.mo.nf,R.mo.nfL,R.mo.xL,⟨xs,by rw[zai nx.symm];exact h1,h2,DenL.rew' h hi nf h3⟩,by rw[zai nL.symm];exact R.mo.li⟩
theorem RelM.freeze (R:RelM K Fz ρ σ H C x dx L ks f ds hs)(h:H a≠none)(nx:a≠x)(nL:a≠L):RelM K (λb=>Fz b\/b=a) ρ σ H C x dx L ks f ds hs:=by
 obtain⟨xs,h1,h2,h3⟩:=R.mo.at_;have al:∀b,(Fz b\/b=a)->H b≠none:=λb hb=>by
  rcases hb with hb | rfl
  ·exact R.rel.al b hb
  ·exact h
 refine⟨R.rel.grow R.no (Same.refl _) (λ_ h=>.inl h) al,R.sz,R.no,λz=>?_,λz=>?_,R.mo.xL,⟨xs,h1,h2,DenL.mono (Keep.of (Same.refl _)) (λ_ h=>.inl h) _ _ h3⟩,R.mo.li⟩
 ·exact z.elim R.mo.nf λz=>nx z.symm
 ·exact z.elim R.mo.nfL λz=>nL z.symm
end
noncomputable def zct (C:Addr)(ks:List Str)(f g:Str)(gi iy:Nat)(te t3 ti:TPE)(u:TPZ):TPZ:=λρ ds hs Q=>iy≠0/\iy<ρ.length/\ks.Nodup/\ks[gi]? = some g/\ks.length<900/\te (ρ.set 0 (some (objOf C ks f ds hs,false))) λd k=>k=.new/\∃rows,d=.lst rows/\(∀r∈rows,zep hs r)/\
 t3 ((ρ.set iy none).set 0 (some (objOf C ks f ds hs,false))) λd3 k3=>k3=.frz/\zep hs d3/\ti ((ρ.set iy none).set 0 (some (objOf C ks f ds hs,false))) λe _=>∃n:Nat,e=.int n/\n<rows.length/\u (ρ.set iy none) (ds.set gi (.lst (rows.set n d3))) hs Q
structure zql (X:Cx)(st:Stmt)(i:Nat)(te:TPE):Prop where
 mono:∀ρ Q Q',(∀d k,Q d k->Q' d k)->te ρ Q->te ρ Q'
 run:PS X st (tAsg (lift X.K te) (zkf i))
theorem zmM {X:Cx}{N:List Str}{k:Nat}{js:List Nat}{sc:Scope}{tg iter elt:Expr}{ifs:List Expr}{ti:TPI}{g:TPG}{tt:TPT}{te:TPE}{i:Nat}{x:Str}{pos pos' pos2:Pos}(hc:X.calm=true)(S:zcy X N k js sc)(nd:js.Nodup)(hloc:LocG k g)(hi:PuI X tg iter ti)(B:PBlk X N sc tg ifs elt g tt te)(hN:X.N.Nodup)(hx:X.N[i]? = some x)(hk:X.env.scope.names.lookup x=some .local)
  (hsw:autoParam (swapsWith (.ListComp elt [⟨tg,iter,ifs,0⟩] sc pos) (some (.Name x pos')) pos2.line X.env=pure true) aU0) (hs:autoParam (∀x,foldedSetIterable iter X.env x=pure x) aU5) :
  zql X (.Assign [.Name x pos'] (.ListComp elt [⟨tg,iter,ifs,0⟩] sc pos) pos2) i (zcG k js ti g tt te):=
 ⟨zhf hi B,PS.weak (zkz hc S hi.run B.blk hN hx hk hsw hs) λD σ H h=>zfe nd hloc hi B h⟩
section
variable {X:Cx}{C:Addr}{ks:List Str}{f g x y:Str}{e ei e3:Expr}{te ti t3:TPE}{gi iy:Nat}{u:TPZ}{rest:List Stmt}{p p4 p5 p6 p7 p8 pos pos' pos2 pos3:Pos}
theorem zlu (c:Cls X.K C)(n:zbF X.K C g)(he:zql X (.Assign [.Name y p4] e pos) iy te)(h3:PuE X e3 t3)(hi:PuE X ei ti)(hr:PuZs X C ks f rest u)(hyi:X.N[iy]? = some y)
  (hx:autoParam (X.N[0]? = some x) aU0) (hv:autoParam (Vis X.env.scope x) aU2) (hd:autoParam ((x == ("__debug__" : Str))=false) aU1) (hcd:autoParam ((x == ("__classdict__" : Str))=false) aU1)
  (hvy:autoParam (Vis X.env.scope y) aU2) (hdy:autoParam ((y == ("__debug__" : Str))=false) aU1) (hcy:autoParam ((y == ("__classdict__" : Str))=false) aU1)
  (hw1:autoParam (swapsWithSole [.Subscript (.Name y p5) ei p7] e3 pos2.line X.env=pure false) aU0) (hw2:autoParam (swappedStores [.Subscript (.Name y p5) ei p7] e3 X.env=pure none) aU0)
  (h1:autoParam ((assignEach [.Subscript (.Name y p5) ei p7] X.env).map (·.2)=[assign (.Subscript (.Name y p5) ei p7) X.env]) aU0)
  (hasg:autoParam (∀v,assign (.Subscript (.Name y p5) ei p7) X.env v=(do
   let ov <- holding [v] (eval (.Name y p5) X.env);let iv <- holding [v,ov] (eval ei X.env)
   standAt p7
   holding [v,ov,iv] (setItem ov iv v)
   release [v,ov,iv] [])) aU5)
  (hs4:autoParam (swapsWith (.Name y p8) (some (.Attribute (.Name x p) g pos')) pos3.line X.env=pure false) aU0) :
  PuZs X C ks f (.Assign [.Name y p4] e pos::.Assign [.Subscript (.Name y p5) ei p7] e3 pos2::.Assign [.Attribute (.Name x p) g pos'] (.Name y p8) pos3::rest) (zct C ks f g gi iy te t3 ti u) where
 mono ρ ds hs Q Q' m h:=by
  obtain⟨a1,a0,a2,a3,a4,h⟩:=h;exact⟨a1,a0,a2,a3,a4,he.mono _ _ _ (λd k q119q=>by obtain⟨b1,rows,b2,b3,h⟩:=q119q;exact⟨b1,rows,b2,b3,h3.mono _ _ _ (λd k q120q=>by obtain⟨c1,c2,h⟩:=q120q;exact⟨c1,c2,hi.mono _ _ _ (λd k q121q=>by obtain⟨n,d1,d2,h⟩:=q121q;exact⟨n,d1,d2,hr.mono _ _ _ _ _ m h⟩) h⟩) h⟩) h⟩
 run:=PSs.weak (zaK he.run (zaK (znh h3.run (zng (zbb hyi hvy hdy hcy) hi.run set_list hasg) hw1 hw2 h1) (zaK (ziq (zbb hx hv hd hcd) (zbb hyi hvy hdy hcy) hs4) hr.run))) λD σ H h=>by
  obtain⟨ρ,Fz,x,dx,L,ds,hs,R,i0,il,nd,hg,hl,h⟩:=h;refine⟨_,_,R.view,he.mono _ _ _ (λd k q v F1 H1 p1=>?_) h⟩;obtain⟨rfl,rows,rfl,hrows,q⟩:=q;obtain⟨px,a,rfl,ha0,nfa,xs,ha1,hden⟩:=p1;have hx0:H x≠none:=by obtain⟨_,w,_⟩:=R.mo.at_;rw[w];exact λz=>nomatch z
  have hL0:H L≠none:=by rw[R.mo.li];exact λz=>nomatch z
  have nax:a≠x:=λz=>hx0 (z▸ha0);have naL:a≠L:=λz=>hL0 (z▸ha0);obtain⟨R2,s2⟩:=R.back px;have hden2:=R2.mo.zqk hrows hden;have hsl:iy<σ.length:=by rw[<- R.rel.len];exact il
  have R3:RelM X.K (λb=>F1 b/\b≠x/\b≠L) (ρ.set iy none) (σ.set iy (some (.ref a))) H1 C x dx L ks f ds hs:=by
   refine⟨R2.rel.unset,by rw[Xc i0];exact R2.sz,λj d' z=>?_,R2.mo⟩;by_cases hj:iy=j
   ·subst hj;rw[Xg il]at z;cases z
   ·rw[Xc hj]at z;exact R2.no j d' z
  refine⟨_,_,R3.view,h3.mono _ _ _ (λd3 k3 q v3 F4 H4 p4=>?_) q⟩;obtain⟨rfl,hr3,q⟩:=q;obtain⟨R4,s4⟩:=R3.back p4.ext;have d3':=R4.mo.drop hr3 p4.opd;have ha4:=p4.ext.same _ _ ha1;have nf4:¬ F4 a:=λz=>by
   rcases p4.ext.new a z with (w | w | w) | w
   ·exact nfa w.1
   ·exact nax w
   ·exact naL w
   ·rw[ha1]at w;cases w
  refine⟨_,Xg hsl,_,_,R4.view,hi.mono _ _ _ (λd k q v5 F5 H5 p5=>?_) q⟩;obtain⟨nn,rfl,hn,q⟩:=q;have ev:=zas (p5.root R4.view);obtain⟨R5,s5⟩:=R4.back p5.ext;have ha5:=p5.ext.same _ _ ha4;have nf5:¬ (F5 a/\a≠x/\a≠L):=λz=>by
   rcases p5.ext.new a z.1 with (w | w | w) | w
   ·exact nf4 w.1
   ·exact nax w
   ·exact naL w
   ·rw[ha4]at w;cases w
  have hlen:=hden.length;refine⟨a,xs,nn,nn,rfl,ev,ha5,by rw[<- hlen];exact zlr hn,?_⟩;have R6:=R5.other (o:=.lst (xs.set nn v3)) ha5 (λz=>z) nf5 nax naL;have dn5:DenL X.K (λb=>F5 b/\b≠x/\b≠L) H5 (rows.set nn d3) (xs.set nn v3):=DenL.set nn (DenL.mono (Keep.of (p4.ext.same.trans p5.ext.same)) (λb hb=>s5.sub b (s4.sub b hb)) _ _ hden2) (Den.mono (Keep.of p5.ext.same) s5.sub _ _ d3');have dn6:DenL X.K (λb=>F5 b/\b≠x/\b≠L) (upd H5 a (.lst (xs.set nn v3))) (rows.set nn d3) (xs.set nn v3):=DenL.rew' ha5 (λz=>z) nf5 dn5;have R7:=R6.freeze (a:=a) (by rw[zak];exact λz=>nomatch z) nax naL;obtain⟨zs,b1,b2,b3⟩:=R7.mo.at_;have dl:Den X.K (λb=>(F5 b/\b≠x/\b≠L)\/b=a) (upd H5 a (.lst (xs.set nn v3))) (.lst (rows.set nn d3)) (.ref a):=by
   simp only[Den];exact⟨a,_,rfl,.inl ⟨.inr rfl,.inl zak⟩,DenL.mono (Keep.of (Same.refl _)) (λ_ h=>.inl h) _ _ dn6⟩
  obtain⟨R8,s8⟩:=R7.fld b1 b2 b3 nd hg dl;refine⟨_,Xg hsl,_,R7.sz,x,C,dx,_,rfl,b1,c,n,by rw[List.length_zip,Xr,Xr];simp only[Yt];lia,?_⟩;have st5:zdi x L Fz H (λb=>F5 b/\b≠x/\b≠L) H5:=(s2.trans s4 R4.mo.nf R4.mo.nfL).trans s5 R5.mo.nf R5.mo.nfL;have st8:zdi x L Fz H (λb=>(F5 b/\b≠x/\b≠L)\/b=a) (upd (upd H5 a (.lst (xs.set nn v3))) x (.ins C dx (putF g (.ref a) ((ks++[f]).zip (zs++[.ref L]))))):=by
   refine⟨λb o n1 n2 w=>?_,λb hb=>.inl (st5.sub b hb),λb hb=>?_,s8.al⟩
   ·have nb:b≠a:=λz=>by rw[z,ha0]at w;cases w
    exact s8.old b o n1 n2 (by rw[zai nb];exact st5.old b o n1 n2 w)
   ·rcases hb with hb | rfl
    ·exact st5.new b hb
    ·exact .inr ha0
  exact⟨ρ.set iy none,_,x,dx,L,_,hs,R8,hr.mono _ _ _ _ _ (λρ' ds' hs' q σ' Fz' H' s' R'=>q σ' Fz' H' (st8.trans s' R'.mo.nf R'.mo.nfL) R') q⟩
end
structure zho (x:Addr)(Fz:FZ)(H:Hp)(Fz':FZ)(H':Hp):Prop where
 old:∀b o,b≠x->H b=some o->H' b=some o
 sub:∀b,Fz b->Fz' b
 new:∀b,Fz' b->Fz b\/H b=none
 al:∀b,Fz' b->H' b≠none
theorem zho.behind {x:Addr}{Fz F1 Fz':FZ}{H H1 H':Hp}{o:HO}(e:Ext Fz H F1 H1)(m:zho x F1 (upd H1 x o) Fz' H'):zho x Fz H Fz' H' where
 old b u n h:=m.old b u n (by rw[zai n];exact e.same b u h)
 sub b h:=m.sub b (e.sub b h)
 new b h:=by
  rcases m.new b h with w | w
  ·exact e.new b w
  ·by_cases n:b=x
   ·subst n;rw[zak]at w;cases w
   ·rw[zai n]at w;exact .inr (e.same.free w)
 al:=m.al
noncomputable abbrev zfT:=List PV->(List PV->List Int->Prop)->Prop
noncomputable def zns (F:zfT):Prop:=∀as Q Q',(∀a b,Q a b->Q' a b)->F as Q->F as Q'
noncomputable def zgv (K:Xa)(C:Addr)(ks:List Str)(f:Str)(F:zfT):Sp:=λvs H Q _=>∃(x dx:Addr)(ws:List V)(Fz:FZ)(as:List PV),vs=.ref x::ws/\H x=some (.ins C dx [])/\H dx=some (.own x)/\¬ Fz x/\¬ Fz dx/\(∀b,Fz b->H b≠none)/\DenL K Fz H as ws/\
 F as λds hs=>∀Fz' H' L,H L=none->zho x Fz H Fz' H'->MO K Fz' H' C x dx L ks f ds hs->Q .non H'
noncomputable abbrev TNZ:=PEnv->List Str->List PV->(List PV->List Int->Prop)->Prop
noncomputable def zqm (K:Xa)(C:Addr)(kf:List Str)(f:Str)(t:TNZ):TS:=λD σ H=>∃ρ Fz x dx ks ds,RelN K Fz ρ σ H C x dx ks ds/\t ρ ks ds λds' hs'=>∀σ' Fz' H' L,H L=none->zho x Fz H Fz' H'->MO K Fz' H' C x dx L kf f ds' hs'->D.nx σ' H'
structure PuNZ (X:Cx)(C:Addr)(kf:List Str)(f:Str)(sts:List Stmt)(t:TNZ):Prop where
 mono:∀ρ ks ds Q Q',(∀a b,Q a b->Q' a b)->t ρ ks ds Q->t ρ ks ds Q'
 run:PSs X sts (zqm X.K C kf f t)
noncomputable def zer (g:Str)(te:TPE)(t:TNZ):TNZ:=λρ ks ds Q=>g∉ks/\ks.length<1000/\te ρ λd k=>isOwn k=false/\t ρ (ks++[g]) (ds++[d]) Q
section
variable {X:Cx}{C:Addr}{kf:List Str}{e:Expr}{f g x:Str}{te:TPE}{t:TNZ}{rest:List Stmt}{p pos pos':Pos}
theorem zgw (c:Cls X.K C)(n:zbF X.K C g)(he:PuE X e te)(hr:PuNZ X C kf f rest t)(hN:autoParam (X.N[0]? = some x) aU0)(hv:autoParam (Vis X.env.scope x) aU2)(hd:autoParam ((x == ("__debug__" : Str))=false) aU1) (hcd:autoParam ((x == ("__classdict__" : Str))=false) aU1)
  (hs:autoParam (swapsWith e (some (.Attribute (.Name x p) g pos')) pos.line X.env=pure false) aU0):PuNZ X C kf f (.Assign [.Attribute (.Name x p) g pos'] e pos::rest) (zer g te t) where
 mono ρ ks ds Q Q' m h:=⟨h.1,h.2.1,he.mono ρ _ _ (λd k q122q=>by obtain⟨hk,q⟩:=q122q;exact⟨hk,hr.mono _ _ _ _ _ m q⟩) h.2.2⟩
 run:=PSs.weak (zaK (ziq (zbb hN hv hd hcd) he.run hs) hr.run) λD σ H h=>by
  obtain⟨ρ,Fz,x,dx,ks,ds,R,hf,hk,h⟩:=h;refine⟨ρ,Fz,R.rel,he.mono ρ _ _ (λd k q v F1 H1 p1=>?_) h⟩;obtain⟨hk',q⟩:=q;obtain⟨F2,x2,s2,d2⟩:=p1.frozen (zlg hk');have R2:=R.ext x2;obtain⟨xs,h1,h2,h3⟩:=R2.at_;refine⟨_,R2.sz,x,C,dx,_,rfl,h1,c,n,by rw[List.length_zip];lia,?_⟩;refine⟨ρ,F2,x,dx,_,_,R2.fld h1 h2 h3 hf d2,hr.mono _ _ _ _ _ (λa b q σ' Fz' H' L hL m mo=>q σ' Fz' H' L ?_ (m.behind x2) mo) q⟩;by_cases z:L=x
  ·rw[z,zak]at hL;cases hL
  ·rw[zai z]at hL;exact x2.same.free hL
end
section
variable {P:Program}{w:World}{K:Xa}{mg:Str->Option Value}{base:Heap}
theorem zmN {x qual:Str}{st:Stmt}{f0 C:Addr}{fd:FuncData}{N ps kf:List Str}{f:Str}{k:Nat}{FI:zfT}(Fn:Fun K x qual st f0 fd)(S:zan N ps (zac st))(len:∀ds Q,FI ds Q->ds.length+1=ps.length)
  (hbody:∀(cdv:Value) (A:Around) (outer:List Env) (s:Shared) (H:Hp) (E:XK),Room k (A.deeper (envOfC qual (zac st) s.heap.objs.size f0 cdv))->
   ∃t,PuNZ (cxOf CX0 P w K mg base N qual (zac st) f0 cdv A outer s H E).nox C kf f (zam st) t/\∀ds Q,FI ds Q->t ((zaD N (.non::ds)).set 0 none) [] [] Q):FnOk P w K mg base CX0 (k+1) f0 fd ps (zgv K C kf f FI):=by
 refine Fn.ok S (λvs H Q E h=>?_) (λcdv A outer s H vs Q E hr h=>?_)
 ·obtain⟨x,dx,ws,Fz,ds,rfl,_,_,_,_,_,hd,q⟩:=h;rw[XM,<- hd.length];exact len _ _ q
 obtain⟨t,ht,hq⟩:=hbody cdv A outer s H E hr;obtain⟨x,dx,ws,Fz,ds,rfl,hx,hdx,nx,ndx,al,hd,h⟩:=h;have hd':DenL K Fz H (.non::ds) (.non::ws):=DenL.cons (by simp only[Den]) hd;obtain⟨R,no⟩:=zdN (N:=N) al hd';have es:start N (.ref x::ws)=(start N (.non::ws)).set 0 (some (.ref x)):=rfl;refine⟨_,ht.run,?_⟩;rw[es];refine⟨(zaD N (.non::ds)).set 0 none,Fz,x,dx,[],[],⟨R.unset,rfl,rfl,nx,λi d z=>?_,[],hx,rfl,DenL.nil⟩,ht.mono _ _ _ _ _ (λds' hs' q σ' Fz' H' L hL m mo=>q Fz' H' L hL m mo) (hq ds _ h)⟩;by_cases hi:i=0
 ·subst hi;cases z
 ·rw[Xc (λy=>hi y.symm)]at z;have hlen:i<(zaD N (.non::ds)).length:=(Xd.mp z).1;rw[R.len]at hlen;obtain⟨a,q1,_⟩:=R.own i d z;exact no _ a ⟨i,d,z,q1⟩
end
noncomputable def zbt (C:Addr)(m:Str)(F:PF)(to:TPE):TPE:=λρ Q=>to ρ λd _=>∃ks ds,d=.obj C ks ds/\m∉ks/\F [d] Q
theorem zdc {X:Cx}{o:Expr}{to:TPE}{C:Addr}{m:Str}{pos apos:Pos}{pl:Sem Bool}{k:Nat}{fa:Addr}{fd:FuncData}{ps:List Str}{F:PF}(c:Cls X.K C)(hm:Meth X.K C m fa)(G:FnOk X.prog X.w X.K X.mg X.base CX0 k fa fd ps (spP X.K F))(mf:zaU F)(hr:Room k X.A)(hb:Binds X.K fd ps [])(ho:PuE X o to)
  (ht:autoParam (eval (.Call (.Attribute o m apos) [] [] pos) X.env=(do
   let ov <- eval o X.env
   standAt apos.atName
   let (f,first) <- holding [ov] (getMethod ov m pl)
   callWith pos f first (backTo pos (starEach [] X.env)) (backToKw pos (keywordEach [] X.env)))) aU0) :
  PuE X (.Call (.Attribute o m apos) [] [] pos) (zbt C m F to) where
 mono ρ Q Q' mm h:=ho.mono ρ _ _ (λd k q123q=>by obtain⟨ks,ds,e1,e2,h⟩:=q123q;exact⟨ks,ds,e1,e2,mf _ _ _ mm h⟩) h
 run:=PE.weak (zir (pl:=pl) ho.run c hm G hr hb .nil zhR ht) λσ H Q h=>by
  obtain⟨ρ,Fz,R,h⟩:=h;refine⟨ρ,Fz,R,ho.mono ρ _ _ (λd kd q v F1 H1 p1=>?_) h⟩;obtain⟨ks,ds,rfl,hn,q⟩:=q;obtain⟨a,dx,xs,rfl,hf,h1,h2,h3⟩:=zib (p1.root R);have dobj:Den X.K F1 H1 (.obj C ks ds) (.ref a):=p1.root R;refine⟨a,dx,_,rfl,h1,zcR (α:=V) (β:=V) hn,F1,[.obj C ks ds],(R.ext p1.ext).al,DenL.cons dobj DenL.nil,mf _ _ _ (λd k q v F4 H4 p4=>?_) q⟩;exact q v F4 H4 (p4.behind p1.ext)
theorem zho.ahead {x:Addr}{Fz F1 Fz':FZ}{H H1 H':Hp}(e:Ext Fz H F1 H1)(m:zho x F1 H1 Fz' H'):zho x Fz H Fz' H' where
 old b u n h:=m.old b u n (e.same b u h)
 sub b h:=m.sub b (e.sub b h)
 new b h:=by
  rcases m.new b h with w | w
  ·exact e.new b w
  ·exact .inr (e.same.free w)
 al:=m.al
noncomputable def zes (i:Nat)(te:TPE)(t:TNZ):TNZ:=λρ ks ds Q=>i≠0/\te ρ λd k=>isOwn k=false/\t (ρ.set i (some (d,false))) ks ds Q
theorem zmO {X:Cx}{C:Addr}{kf:List Str}{e:Expr}{f y:Str}{te:TPE}{t:TNZ}{rest:List Stmt}{pos pos':Pos}{i:Nat}(hN:X.N.Nodup)(hi:X.N[i]? = some y)(hx:Loc X.env.scope y)(he:PuE X e te)(hr:PuNZ X C kf f rest t)
  (hs:autoParam (swapsWith e (some (.Name y pos')) pos.line X.env=pure false) aU0) (hf:autoParam (X.fn y=true\/X.env.scope.names.lookup y=some .local) aU3):PuNZ X C kf f (.Assign [.Name y pos'] e pos::rest) (zes i te t) where
 mono ρ ks ds Q Q' m h:=⟨h.1,he.mono ρ _ _ (λd k q124q=>by obtain⟨hk,q⟩:=q124q;exact⟨hk,hr.mono _ _ _ _ _ m q⟩) h.2⟩
 run:=PSs.weak (zaK (zeN hN hi hx he.run hs hf) hr.run) λD σ H h=>by
  obtain⟨ρ,Fz,x,dx,ks,ds,R,i0,h⟩:=h;refine⟨ρ,Fz,R.rel,he.mono ρ _ _ (λd k q v F1 H1 p1=>?_) h⟩;obtain⟨hk',q⟩:=q;obtain⟨F2,x2,s2,d2⟩:=p1.frozen (zlg hk');have R2:=R.ext x2;refine⟨ρ.set i (some (d,false)),F2,x,dx,ks,ds,⟨R2.rel.set d2,by rw[Xc i0];exact R2.hz,by rw[Xc i0];exact R2.sz,R2.nf,λj d' z=>?_,R2.at_⟩,hr.mono _ _ _ _ _ (λa b q σ' Fz' H' L hL m mo=>q σ' Fz' H' L (x2.same.free hL) (m.ahead x2) mo) q⟩;by_cases hj:i=j
  ·subst hj;by_cases hb:i<ρ.length
   ·rw[Xg hb]at z;cases z
   ·rw[XC (by lia),XA (by lia)]at z;cases z
  ·rw[Xc hj]at z;exact R2.no j d' z
theorem RelN.view {K:Xa}{Fz:FZ}{ρ:PEnv}{σ:St}{H:Hp}{C x dx:Addr}{ks:List Str}{ds:List PV}(R:RelN K Fz ρ σ H C x dx ks ds):Rel K (λb=>Fz b\/b=x) (ρ.set 0 (some (.obj C ks ds,false))) σ H:=by
 obtain⟨xs,h1,h2,h3⟩:=R.at_;have al:∀b,(Fz b\/b=x)->H b≠none:=λb hb=>by
  rcases hb with hb | rfl
  ·exact R.rel.al b hb
  ·rw[h1];exact λz=>nomatch z
 have dn:Den K (λb=>Fz b\/b=x) H (.obj C ks ds) (.ref x):=by
  simp only[Den];exact⟨x,dx,xs,rfl,.inr rfl,h1,h2,DenL.mono (Keep.of (Same.refl _)) (λ_ h=>.inl h) _ _ h3⟩
 have g:=(R.rel.grow R.no (Same.refl _) (λb h=>.inl h) al).set (i:=0) dn;have e:σ.set 0 (some (.ref x))=σ:=by
  have hl:=(Xd.mp R.sz).1;have he:=(Xd.mp R.sz).2;rw[<- he];exact List.set_getElem_self hl
 rw[e]at g;exact g
noncomputable def zbu (C:Addr)(kf:List Str)(f:Str)(te:TPE):TNZ:=λρ ks ds Q=>ks=kf/\f∉ks/\ks.length<1000/\te (ρ.set 0 (some (.obj C ks ds,false))) λd k=>k=.new/\∃hs:List Int,d=.lst (hs.map PV.int)/\Q ds hs
theorem zjP {X:Cx}{C:Addr}{kf:List Str}{e:Expr}{f x:Str}{te:TPE}{p pos pos':Pos}(c:Cls X.K C)(n:zbF X.K C f)(he:PuE X e te)(hN:autoParam (X.N[0]? = some x) aU0)(hv:autoParam (Vis X.env.scope x) aU2)(hd:autoParam ((x == ("__debug__" : Str))=false) aU1) (hcd:autoParam ((x == ("__classdict__" : Str))=false) aU1)
  (hs:autoParam (swapsWith e (some (.Attribute (.Name x p) f pos')) pos.line X.env=pure false) aU0):PuNZ X C kf f [.Assign [.Attribute (.Name x p) f pos'] e pos] (zbu C kf f te) where
 mono ρ ks ds Q Q' m h:=⟨h.1,h.2.1,h.2.2.1,he.mono _ _ _ (λd k q125q=>by obtain⟨e1,hs,e2,q⟩:=q125q;exact⟨e1,hs,e2,m _ _ q⟩) h.2.2.2⟩
 run:=PSs.weak (zeb (ziq (zbb hN hv hd hcd) he.run hs)) λD σ H h=>by
  obtain⟨ρ,Fz,x,dx,ks,ds,R,rfl,hf,hk,h⟩:=h;refine⟨_,_,R.view,he.mono _ _ _ (λd k q v F1 H1 p1=>?_) h⟩;obtain⟨rfl,hs,rfl,q⟩:=q;obtain⟨px,L,rfl,hl0,nfL,xs0,hL,hds0⟩:=p1;have e0:=zbs hds0;subst e0;obtain⟨xs,g1,g2,g3⟩:=R.at_;have hxL:x≠L:=λz=>by rw[z,hl0]at g1;cases g1
  have g1':=px.same _ _ g1;have sub:∀b,Fz b->F1 b/\b≠x:=λb hb=>⟨px.sub b (.inl hb),λz=>R.nf (z▸hb)⟩;have g3':DenL X.K (λb=>F1 b/\b≠x) H1 ds xs:=DenL.mono (Keep.of px.same) sub _ _ g3;have nfx:¬ (F1 x/\x≠x):=λz=>z.2 rfl;refine⟨_,R.sz,x,C,dx,_,rfl,g1',c,n,by rw[List.length_zip];lia,?_⟩;refine q σ (λb=>F1 b/\b≠x) _ L hl0 ⟨λb o nb h=>by rw[zai nb];exact px.same b o h,sub,λb hb=>?_,λb hb=>?_⟩ ⟨nfx,λz=>nfL z.1,hxL,⟨xs,by rw[zak,zgt g2 hf],g2,DenL.rew' g1' (λz=>z) nfx g3'⟩,by rw[zai hxL.symm];exact hL⟩
  ·rcases px.new b hb.1 with (w | w) | w
   ·exact .inl w
   ·exact absurd w hb.2
   ·exact .inr w
  ·rw[zai hb.2];exact px.al b hb.1
noncomputable def pLtT:P2:=λd e Q=>∃ns ms:List Int,d=.tup (ns.map PV.int)/\e=.tup (ms.map PV.int)/\Q (.bl (HT.lexLt ns ms)) .frz
theorem zqn {K:Xa}:POp K (rLtT K) pLtT where
 mono d e Q Q' m h:=by obtain⟨i,j,e1,e2,q⟩:=h;exact⟨i,j,e1,e2,m _ _ q⟩
 run Fz H x y d e Q al rx ry h:=by
  obtain⟨ns,ms,rfl,rfl,q⟩:=h;obtain⟨a,xs,rfl,h1,h2⟩:=zaL rx;obtain⟨b,ys,rfl,h3,h4⟩:=zaL ry;rw[zbs h2]at h1;rw[zbs h4]at h3;exact⟨a,b,ns,ms,rfl,rfl,h1,h3,q _ Fz H (.val al (by simp only[Den]))⟩
theorem zqo {X:Cx}{a b:Expr}{ta tb:TPE}{pos:Pos}(hu:X.A.units+16<cLine)(ha:PuE X a ta)(hb:PuE X b tb)(hm:autoParam (behindInMarks .Lt b=false) aU4):PuE X (.Compare a [.Lt] [b] pos) (t2 pLtT ta tb):=znm (zpx (by lia)) zqn ha hb hm
noncomputable def pPar (i j:Nat)(ta:TPA):TPS:=λρ O=>ta ρ λops=>∃d e,ops.map (·.1)=[d,e]/\zeC d/\zeC e/\O.nx ((ρ.set i (some (d,false))).set j (some (e,false)))
theorem zoH {X:Cx}{i j:Nat}{x y:Str}{a b:Expr}{ta:TPA}{px py pt pos:Pos} {kt k2 pt2}(hc:X.calm=true)(hN:X.N.Nodup)(hi:X.N[i]? = some x)(hj:X.N[j]? = some y)(hij:i≠j)
  (hx:X.env.scope.names.lookup x=some .local) (hy:X.env.scope.names.lookup y=some .local) (ha:PuA X [a,b] ta)
  (hw:autoParam (swappedStores [.Tuple [.Name x px,.Name y py] kt pt] (.Tuple [a,b] k2 pt2) X.env=pure (some [x,y])) aU0)
  (hs:autoParam (swapsWithSole [.Tuple [.Name x px,.Name y py] kt pt] (.Tuple [a,b] k2 pt2) pos.line X.env=pure false) aU0) :
  PuS X (.Assign [.Tuple [.Name x px,.Name y py] kt pt] (.Tuple [a,b] k2 pt2) pos) (pPar i j ta) where
 mono ρ O O' m h:=ha.mono ρ _ _ (λops q126q=>by obtain⟨d,e,h1,h2,h3,q⟩:=q126q;exact⟨d,e,h1,h2,h3,m.nx _ q⟩) h
 run:=PS.weak (zpj hc hN hi hj hij hx hy ha.run hw hs) λD σ H h=>by
  obtain⟨ρ,Fz,R,h⟩:=h;refine⟨ρ,Fz,R,ha.mono ρ _ _ (λops q vs F1 H1 x1 o=>?_) h⟩;obtain⟨d,e,h1,h2,h3,q⟩:=q;have rt:=o.root R x1;rw[h1]at rt;cases rt with
  | cons r1 rt=>
   cases rt with
   | cons r2 rt=>
    cases rt;have R1:=(R.ext x1).set (i:=i) (zcs h2 r1);have R2:=R1.set (i:=j) (zcs h3 r2);exact⟨_,_,rfl,q _ F1 H1 (.of x1) (λb hb=>.inl (zfd b (zfd b hb))) R2⟩
noncomputable abbrev TPR:=PEnv->(Int->List Int->List Int->Prop)->Prop
structure Tri (H:Hp)(t a b:Addr)(i:Int)(ws ys:List Int):Prop where
 at_:H t=some (.tup [.int i,.ref a,.ref b])
 la:H a=some (.lst (ws.map V.int))
 lb:H b=some (.lst (ys.map V.int))
 ne:a≠b
noncomputable def outR (D:Ends)(ρ:PEnv)(σ:St)(Fz:FZ)(H:Hp)(i:Int)(ws ys:List Int):Prop:=∀t a b F' H',Step ρ σ Fz H F' H'->Tri H' t a b i ws ys->¬ F' a->¬ F' b->D.rt (.ref t) H'
noncomputable def zrl (K:Xa)(t:TPR):TS:=λD σ H=>∃ρ Fz,Rel K Fz ρ σ H/\t ρ (outR D ρ σ Fz H)
structure PuR (X:Cx)(st:List Stmt)(t:TPR):Prop where
 mono:∀ρ Q Q',(∀i ws ys,Q i ws ys->Q' i ws ys)->t ρ Q->t ρ Q'
 run:PSs X st (zrl X.K t)
noncomputable def zlv (t:TPR)(Q:Int->List Int->List Int->Prop)(ρ:PEnv):Prop:=t ρ Q
theorem zmP {t:TPR}{Q:Int->List Int->List Int->Prop}{ρ:PEnv}(h:t ρ Q):zlv t Q ρ:=h
theorem zlw {D:Ends}{ρ ρ':PEnv}{σ σ':St}{Fz Fz':FZ}{H H':Hp}(s:Step ρ σ Fz H Fz' H')(oi:zaz ρ σ H ρ' σ')(i:Int)(ws ys:List Int)(q:outR D ρ σ Fz H i ws ys):outR D ρ' σ' Fz' H' i ws ys:=
 λt a b F2 H2 s2 tr na nb=>q t a b F2 H2 (s.trans oi s2) tr na nb
noncomputable def rSeq (t:TPS)(u:TPR):TPR:=λρ Q=>t ρ ⟨zlv u Q,λ_ _=>False,λ_=>False,λ_=>False⟩
theorem zgx {X:Cx}{st:Stmt}{rest:List Stmt}{t:TPS}{u:TPR}(h1:PuS X st t)(h2:PuR X rest u):PuR X (st::rest) (rSeq t u) where
 mono ρ Q Q' m h:=h1.mono ρ ⟨zlv u Q,λ_ _=>False,λ_=>False,λ_=>False⟩ _ ⟨λρ' q=>h2.mono ρ' _ _ m q,λ_ _ q=>q,λ_ q=>q,λ_ q=>q⟩ h
 run:=PSs.weak (zaK h1.run h2.run) λD σ H h=>by
  obtain⟨ρ,Fz,R,h⟩:=h;exact⟨ρ,Fz,R,h1.mono ρ ⟨zlv u (outR D ρ σ Fz H),λ_ _=>False,λ_=>False,λ_=>False⟩ _ ⟨λρ' q σ' Fz' H' s oi R'=>⟨ρ',Fz',R',h2.mono ρ' _ _ (zlw s oi) q⟩,λ_ _ q=>q.elim,λ_ q=>q.elim,λ_ q=>q.elim⟩ h⟩
noncomputable def rRet (ix iy:Nat)(te:TPE):TPR:=λρ Q=>ix≠iy/\te ρ λd _=>∃i,d=.int i/\∃ws ys:List Int,ρ[ix]? = some (some (.lst (ws.map PV.int),true))/\ρ[iy]? = some (some (.lst (ys.map PV.int),true))/\Q i ws ys
theorem zoI {X:Cx}{e:Expr}{te:TPE}{ix iy k1:Nat}{x y:Str}{p1 p2 tp pos:Pos}(he:PuE X e te)(hx:X.N[ix]? = some x)(hy:X.N[iy]? = some y)
  (hvx:autoParam (Vis X.env.scope x) aU2) (hvy:autoParam (Vis X.env.scope y) aU2)
  (hdx:autoParam ((x == ("__debug__" : Str))=false) aU1) (hcx:autoParam ((x == ("__classdict__" : Str))=false) aU1) (hdy:autoParam ((y == ("__debug__" : Str))=false) aU1) (hcy:autoParam ((y == ("__classdict__" : Str))=false) aU1)
  (h1:autoParam (starEach [e,.Name x p1,.Name y p2] X.env=(false,eval e X.env)::starEach [.Name x p1,.Name y p2] X.env) aU0) (h2:autoParam (starEach [.Name x p1,.Name y p2] X.env=(false,eval (.Name x p1) X.env)::starEach [.Name y p2] X.env) aU0) (h3:autoParam (starEach [.Name y p2] X.env=(false,eval (.Name y p2) X.env)::starEach [] X.env) aU0) :
  PuR X [.Return (some (.Tuple [e,.Name x p1,.Name y p2] k1 tp)) pos] (rRet ix iy te) where
 mono ρ Q Q' m h:=⟨h.1,he.mono ρ _ _ (λd k q127q=>by obtain⟨i,e1,ws,ys,e2,e3,q⟩:=q127q;exact⟨i,e1,ws,ys,e2,e3,m _ _ _ q⟩) h.2⟩
 run:=PSs.weak (zeb (zke (zkm (zaT he.run (zaT (zbb hx hvx hdx hcx) (zaT (zbb hy hvy hdy hcy) zcI h3) h2) h1)))) λD σ H h=>by
  obtain⟨ρ,Fz,R,hne,h⟩:=h;refine⟨ρ,Fz,R,he.mono ρ _ _ (λd k q v F1 H1 p1=>?_) h⟩;obtain⟨i,rfl,ws,ys,e2,e3,q⟩:=q;have ev:=zas (p1.root R);subst ev;have R1:=R.ext p1.ext;obtain⟨a,a1,a2,xs,a3,a4⟩:=R1.own ix _ e2;obtain⟨b,b1,b2,zs,b3,b4⟩:=R1.own iy _ e3;have ea:=zbs a4;have eb:=zbs b4;subst ea;subst eb;refine⟨_,a1,_,b1,(by show 3<=sizeLine;decide),λp hp=>?_⟩;have na:a≠p:=λz=>by rw[z,hp]at a3;cases a3
  have nb:b≠p:=λz=>by rw[z,hp]at b3;cases b3
  refine q p a b F1 _ (Step.of (p1.ext.laid hp)) ⟨zak,by rw[zai na];exact a3,by rw[zai nb];exact b3,λz=>hne (R1.inj ix iy _ _ a e2 e3 a1 (by rw[z];exact b1))⟩ a2 b2
noncomputable def zcu (C:Addr)(ks:List Str)(f m:Str)(iy:Nat)(FI:zfT)(FS:PMz)(ta:TPA)(u:TPR):TPR:=λρ O=>m∉ks++[f]/\iy<ρ.length/\ta ρ λops=>noOwn ops=true/\FI (ops.map (·.1)) λds hs=>FS ds hs [] λds' hs'=>zlv u O (ρ.set iy (some (objOf C ks f ds' hs',false)))
section
variable {X:Cx}{C fi fm:Addr}{ks:List Str}{f m cn y:Str}{iy:Nat}{e:Expr}{es:List Expr}{ta:TPA}{u:TPR}{rest:List Stmt}{ki km:Nat}{fdi fdm:FuncData}{psi psm:List Str}{FI:zfT}{FS:PMz}{pl:Sem Bool}{p1 p2 p3 apos cpos cpos2 pos pos2:Pos}
theorem zlx (M:Mk X.K C fi)(c:Cls X.K C)(hm:Meth X.K C m fm)(GI:FnOk X.prog X.w X.K X.mg X.base CX0 ki fi fdi psi (zgv X.K C ks f FI))(GS:FnOk X.prog X.w X.K X.mg X.base CX0 km fm fdm psm (spZ X.K C ks f FS))(mI:zns FI)(mS:zmJ FS)(hri:Room (ki+1) X.A)(hrm:Room km X.A)
  (hg:Gl X cn) (hmg:X.mg cn=some (.ref C)) (hbi:Binds X.K fdi psi []) (hbm:Binds X.K fdm psm []) (ha:PuA X (e::es) ta) (hr:PuR X rest u) (hN:X.N.Nodup) (hyi:X.N[iy]? = some y) (hy:Loc X.env.scope y)
  (hdb:autoParam ((cn == ("__debug__" : Str))=false) aU1) (hst:autoParam (starEach (e::es) X.env=(false,eval e X.env)::starEach es X.env) aU0) (hpl:autoParam ((backTo cpos (starEach es X.env)).any (·.1)=false) aU0)
  (hvy:autoParam (Vis X.env.scope y) aU2) (hdy:autoParam ((y == ("__debug__" : Str))=false) aU1) (hcy:autoParam ((y == ("__classdict__" : Str))=false) aU1)
  (hs:autoParam (swapsWith (.Call (.Name cn p2) (e::es) [] cpos) (some (.Name y p1)) pos.line X.env=pure false) aU0) (hf:autoParam (X.fn y=true\/X.env.scope.names.lookup y=some .local) aU3)
  (ht:autoParam (eval (.Call (.Attribute (.Name y p3) m apos) [] [] cpos2) X.env=(do
   let ov <- eval (.Name y p3) X.env
   standAt apos.atName
   let (f,first) <- holding [ov] (getMethod ov m pl)
   callWith cpos2 f first (backTo cpos2 (starEach [] X.env)) (backToKw cpos2 (keywordEach [] X.env)))) aU0)
  (hs2:autoParam (swapsWith (.Call (.Attribute (.Name y p3) m apos) [] [] cpos2) none pos2.line X.env=pure false) aU0) :
  PuR X (.Assign [.Name y p1] (.Call (.Name cn p2) (e::es) [] cpos) pos::.Expr (.Call (.Attribute (.Name y p3) m apos) [] [] cpos2) pos2::rest) (zcu C ks f m iy FI FS ta u) where
 mono ρ O O' le h:=⟨h.1,h.2.1,ha.mono ρ _ _ (λops q=>⟨q.1,mI _ _ _ (λds hs q=>mS _ _ _ _ _ (λds' hs' q=>hr.mono _ _ _ le q) q) q.2⟩) h.2.2⟩
 run:=PSs.weak (zaK (zeN hN hyi hy (znU M GI hri hg hmg hbi .nil zhR ha.run hdb hst hpl) hs hf) (zaK (zga (zir (pl:=pl) (zbb hyi hvy hdy hcy) c hm GS hrm hbm .nil zhR ht) hs2) hr.run)) λD σ H h=>by
  obtain⟨ρ,Fz,R,hmk,il,h⟩:=h;refine⟨ρ,Fz,R,ha.mono ρ _ _ (λops h vs F1 H1 x1 o=>?_) h⟩;obtain⟨hno,h⟩:=h;intro a dx ha' hdx hne;obtain⟨F2,x2,s2,h2⟩:=o.frozen x1 hno;rw[List.append_nil];have nfa:¬ F2 a:=λz=>x2.al a z ha';have nfd:¬ F2 dx:=λz=>x2.al dx z hdx;have sm:Same H1 (upd (upd H1 dx (.own a)) a (.ins C dx [])):=λb o' hb=>by
   have n1:b≠a:=λz=>by rw[z,ha']at hb;cases hb
   have n2:b≠dx:=λz=>by rw[z,hdx]at hb;cases hb
   rw[zai n1,zai n2];exact hb
  refine⟨a,dx,vs,F2,ops.map (·.1),rfl,zak,by rw[zai hne];exact zak,nfa,nfd,λb hb z=>x2.al b hb (sm.free z),DenL.mono (.of sm) (λ_ h=>h) _ _ h2,mI _ _ _ (λds hs q F3 H3 L hL md mo=>⟨rfl,?_⟩) h⟩;obtain⟨xs,g1,g2,g3⟩:=mo.at_;have hsl:iy<σ.length:=by rw[<- R.len];exact il
  refine⟨_,Xg hsl,a,dx,_,rfl,g1,zcR (α:=V) (β:=V) hmk,?_⟩;refine⟨a,dx,L,[],F3,ds,hs,[],rfl,mo,md.al,DenL.nil,mS _ _ _ _ _ (λds' hs' q F4 H4 s4 m4=>?_) q⟩;have hL1:H1 L=none:=sm.free hL;have sm4:Same H1 H4:=λb o' hb=>by
   have n1:b≠a:=λz=>by rw[z,ha']at hb;cases hb
   have n2:b≠L:=λz=>by rw[z,hL1]at hb;cases hb
   exact s4.old b o' n1 n2 (md.old b o' n1 (sm b o' hb))
  have ex:Ext Fz H (λb=>F4 b\/b=a\/b=L) H4:=by
   refine⟨x2.same.trans sm4,λb hb=>.inl (s4.sub b (md.sub b (x2.sub b hb))),λb hb=>?_,m4.alive s4.al⟩;rcases hb with hb | rfl | rfl
   ·have na:b≠a:=λz=>m4.nf (z▸hb);rcases s4.new b hb with w | w
    ·rcases md.new b w with w | w
     ·exact x2.new b w
     ·exact .inr (x2.same.free (sm.free w))
    ·refine .inr (x2.same.free ?_);cases hb1:H1 b with
     | none=>rfl
     | some o'=>rw[md.old b o' na (sm b o' hb1)]at w;cases w
   ·exact .inr (x2.same.free ha')
   ·exact .inr (x2.same.free hL1)
  have R5:=(R.ext ex).set (i:=iy) m4.den;refine⟨_,_,R5,hr.mono _ _ _ (zlw (Step.of ex) λb q128q=>?_) q⟩;obtain⟨j,d,z1,z2⟩:=q128q;by_cases hj:iy=j
  ·subst hj;rw[Xg il]at z1;cases z1
  ·rw[Xc hj]at z1 z2;exact .inl ⟨j,d,z1,z2⟩
end
noncomputable abbrev PFR:=List PV->(Int->List Int->List Int->Prop)->Prop
noncomputable def zoJ (F:PFR):Prop:=∀ds Q Q',(∀i ws ys,Q i ws ys->Q' i ws ys)->F ds Q->F ds Q'
noncomputable def spR (K:Xa)(F:PFR):Sp:=λvs H Q _=>∃Fz ds,(∀b,Fz b->H b≠none)/\DenL K Fz H ds vs/\F ds λi ws ys=>∀t a b H',Same H H'->Tri H' t a b i ws ys->¬ Fz a->¬ Fz b->Q (.ref t) H'
section
variable {P:Program}{w:World}{K:Xa}{mg:Str->Option Value}{base:Heap}
theorem fn_R {x qual:Str}{st:Stmt}{f:Addr}{fd:FuncData}{N ps:List Str}{k:Nat}{F:PFR}(Fn:Fun K x qual st f fd)(S:zan N ps (zac st))(len:∀ds Q,F ds Q->ds.length=ps.length)
  (hbody:∀(cdv:Value) (A:Around) (outer:List Env) (s:Shared) (H:Hp) (E:XK),Room k (A.deeper (envOfC qual (zac st) s.heap.objs.size f cdv))->
   ∃t,PuR (cxOf CX0 P w K mg base N qual (zac st) f cdv A outer s H E).nox (zam st) t/\∀ds Q,F ds Q->t (zaD N ds) Q):FnOk P w K mg base CX0 (k+1) f fd ps (spR K F):=by
 refine Fn.ok S (λvs H Q E q129q=>by obtain⟨Fz,ds,_,hd,q⟩:=q129q;rw[<- hd.length];exact len _ _ q) (λcdv A outer s H vs Q E hr h=>?_);obtain⟨t,ht,hq⟩:=hbody cdv A outer s H E hr;obtain⟨Fz,ds,al,hd,h⟩:=h;obtain⟨R,no⟩:=zdN (N:=N) al hd;exact⟨_,ht.run,zaD N ds,Fz,R,ht.mono _ _ _ (λi ws ys q t a b F' H' s' tr na nb=>q t a b H' (λb o e=>s'.keep b o e (no _ b)) tr (λz=>na (s'.sub _ z)) (λz=>nb (s'.sub _ z))) (hq ds _ h)⟩
theorem FnOk.told {k:Nat}{f:Addr}{fd:FuncData}{ps:List Str}{F:PFR}(mF:zoJ F)(G:FnOk P w K mg base CX0 k f fd ps (spR K F)):FnOk P w K mg base CX0 k f fd ps (spP K λds Q=>F ds λi ws ys=>Q (.tup [.int i,.lst (ws.map PV.int),.lst (ys.map PV.int)]) .frz):=G.imp λvs H Q E h=>by
 obtain⟨Fz,ds,al,hd,h⟩:=h;refine⟨λb=>H b≠none,ds,λ_ h=>h,DenL.mono (Keep.of (Same.refl _)) al _ _ hd,mF _ _ _ (λi ws ys q t a b H' sm tr na nb=>?_) h⟩;have ha:H a=none:=Decidable.byContradiction λz=>na z;have hb:H b=none:=Decidable.byContradiction λz=>nb z;refine q (.ref t) (λc=>Fz c\/c=a\/c=b) H' ⟨⟨sm,λ_ h=>.inl h,λc hc=>?_,λc hc=>?_⟩,?_⟩
 ·rcases hc with hc | rfl | rfl
  ·exact .inl hc
  ·exact .inr ha
  ·exact .inr hb
 ·rcases hc with hc | rfl | rfl
  ·exact λz=>al c hc (sm.free z)
  ·rw[tr.la];exact λz=>nomatch z
  ·rw[tr.lb];exact λz=>nomatch z
 ·show Den _ _ _ _ _;simp only[Den,DenL];exact⟨t,_,rfl,tr.at_,_,_,rfl,rfl,_,_,rfl,⟨a,_,rfl,.inl ⟨.inr (.inl rfl),.inl tr.la⟩,zbU ws⟩,_,_,rfl,⟨b,_,rfl,.inl ⟨.inr (.inr rfl),.inl tr.lb⟩,zbU ys⟩,rfl⟩
end
theorem Tri.same {H H':Hp}{t a b:Addr}{i:Int}{ws ys:List Int}(r:Tri H t a b i ws ys)(s:Same H H'):Tri H' t a b i ws ys:=⟨s _ _ r.at_,s _ _ r.la,s _ _ r.lb,r.ne⟩
noncomputable abbrev triP (i:Int)(ws ys:List Int):PV:=.tup [.int i,.lst (ws.map PV.int),.lst (ys.map PV.int)]
theorem Tri.den {K:Xa}{F:FZ}{H:Hp}{t a b:Addr}{i:Int}{ws ys:List Int}(r:Tri H t a b i ws ys)(ha:F a)(hb:F b):Den K F H (triP i ws ys) (.ref t):=by
 simp only[Den,DenL];exact⟨t,_,rfl,r.at_,_,_,rfl,rfl,_,_,rfl,⟨a,_,rfl,.inl ⟨ha,.inl r.la⟩,zbU ws⟩,_,_,rfl,⟨b,_,rfl,.inl ⟨hb,.inl r.lb⟩,zbU ys⟩,rfl⟩
section
variable {X:Cx}{it is_:Nat}{x sx:Str}{rest:List Stmt}{u:TPS}{q0 q1 q2 q3 q4 q5 q6 q7 q8 q9 r0 r1 r2 r3 r4 r5 r6 r7:Pos}{j1 j2 j3 j4 j5 k1:Nat}
theorem zmQ (hrest:PuSs X rest u)(hi:X.N[it]? = some x)
  (hv:autoParam (Vis X.env.scope x) aU2) (hd:autoParam ((x == ("__debug__" : Str))=false) aU1) (hcd:autoParam ((x == ("__classdict__" : Str))=false) aU1)
  (hs:autoParam (swapsWith (.Call (.Attribute (.Subscript (.Name x q0) (.Constant (.int 1) j1 q1) q2) "append" q3) [.Constant .none j2 q4] [] q5) none q6.line X.env=pure false) aU0)
  (hb:autoParam (attributeBase (.Subscript (.Name x q0) (.Constant (.int 1) j1 q1) q2) "append" X.env (eval (.Subscript (.Name x q0) (.Constant (.int 1) j1 q1) q2) X.env)=eval (.Subscript (.Name x q0) (.Constant (.int 1) j1 q1) q2) X.env) aU0)
  (hfw:autoParam (((backTo q5 (starEach [.Constant .none j2 q4] X.env)).all (λx=>!x.1)&&(backToKw q5 (keywordEach [] X.env)).all (λx=>x.1.isSome)&&decide ([Expr.Constant .none j2 q4].length+([]:List Keyword).length+(if ([]:List Keyword).isEmpty then 0 else 1)<30))=true) aU0)
  (hln:autoParam ((q3.endLine == q5.line)=true) aU0) (hst:autoParam (starEach [.Constant .none j2 q4] X.env=(false,eval (.Constant .none j2 q4) X.env)::starEach [] X.env) aU0) (hp:autoParam ((backTo q5 (starEach [] X.env)).any (·.1)=false) aU0) (hpl:autoParam (zdp (.Constant (.int 1) j1 q1)) aU6) :
  PSs X (.Expr (.Call (.Attribute (.Subscript (.Name x q0) (.Constant (.int 1) j1 q1) q2) "append" q3) [.Constant .none j2 q4] [] q5) q6::rest)
   (λD σ H=>∃t a b i ws ys,σ[it]? = some (some (.ref t))/\Tri H t a b i ws ys/\ws.length<sizeLine/\zhY X.K u D σ (upd H a (.lst (ws.map V.int++[.non])))):=
 PSs.weak (zaK (zga (zoa PySem.F.plainAttrs_list PySem.F.slot_list_append PySem.F.type_list_append zeT (zks zgQ (zbb hi hv hd hcd) zgJ hpl) (zaT znf zcI hst) hb hfw hln hst hp) hs) hrest.run) λD σ H h=>by
  obtain⟨t,a,b,i,ws,ys,h1,tr,hz,h⟩:=h;exact⟨_,h1,.inr (.inl ⟨t,_,1,.ref a,rfl,rfl,SqT.of tr.at_,rfl,.inl ⟨rfl,_,SqL.of tr.la⟩,a,_,.non,rfl,rfl,tr.la,by rw[Xb];exact hz,h⟩)⟩
theorem zoK (hi:X.N[it]? = some x)(hsi:X.N[is_]? = some sx)(hg:Gl X "list") (hm:X.mg "list" = none)
  (hv:autoParam (Vis X.env.scope x) aU2) (hd:autoParam ((x == ("__debug__" : Str))=false) aU1) (hcd:autoParam ((x == ("__classdict__" : Str))=false) aU1)
  (hvs:autoParam (Vis X.env.scope sx) aU2) (hds:autoParam ((sx == ("__debug__" : Str))=false) aU1) (hcs:autoParam ((sx == ("__classdict__" : Str))=false) aU1)
  (e1:autoParam (starEach [.Name sx q0,.Tuple [.Subscript (.Name x q1) (.Constant (.int 0) j1 q2) q3,.Call (.Name "list" q4) [.Subscript (.Name x q5) (.Constant (.int 1) j2 q6) q7] [] q8,.Call (.Name "list" q9) [.Subscript (.Name x r0) (.Constant (.int 2) j3 r1) r2] [] r3] k1 r4] X.env=(false,eval (.Name sx q0) X.env)::starEach [.Tuple [.Subscript (.Name x q1) (.Constant (.int 0) j1 q2) q3,.Call (.Name "list" q4) [.Subscript (.Name x q5) (.Constant (.int 1) j2 q6) q7] [] q8,.Call (.Name "list" q9) [.Subscript (.Name x r0) (.Constant (.int 2) j3 r1) r2] [] r3] k1 r4] X.env) aU0)
  (e2:autoParam (starEach [.Tuple [.Subscript (.Name x q1) (.Constant (.int 0) j1 q2) q3,.Call (.Name "list" q4) [.Subscript (.Name x q5) (.Constant (.int 1) j2 q6) q7] [] q8,.Call (.Name "list" q9) [.Subscript (.Name x r0) (.Constant (.int 2) j3 r1) r2] [] r3] k1 r4] X.env=(false,eval (.Tuple [.Subscript (.Name x q1) (.Constant (.int 0) j1 q2) q3,.Call (.Name "list" q4) [.Subscript (.Name x q5) (.Constant (.int 1) j2 q6) q7] [] q8,.Call (.Name "list" q9) [.Subscript (.Name x r0) (.Constant (.int 2) j3 r1) r2] [] r3] k1 r4) X.env)::starEach [] X.env) aU0)
  (e3:autoParam (starEach [.Subscript (.Name x q1) (.Constant (.int 0) j1 q2) q3,.Call (.Name "list" q4) [.Subscript (.Name x q5) (.Constant (.int 1) j2 q6) q7] [] q8,.Call (.Name "list" q9) [.Subscript (.Name x r0) (.Constant (.int 2) j3 r1) r2] [] r3] X.env=(false,eval (.Subscript (.Name x q1) (.Constant (.int 0) j1 q2) q3) X.env)::starEach [.Call (.Name "list" q4) [.Subscript (.Name x q5) (.Constant (.int 1) j2 q6) q7] [] q8,.Call (.Name "list" q9) [.Subscript (.Name x r0) (.Constant (.int 2) j3 r1) r2] [] r3] X.env) aU0)
  (e4:autoParam (starEach [.Call (.Name "list" q4) [.Subscript (.Name x q5) (.Constant (.int 1) j2 q6) q7] [] q8,.Call (.Name "list" q9) [.Subscript (.Name x r0) (.Constant (.int 2) j3 r1) r2] [] r3] X.env=(false,eval (.Call (.Name "list" q4) [.Subscript (.Name x q5) (.Constant (.int 1) j2 q6) q7] [] q8) X.env)::starEach [.Call (.Name "list" q9) [.Subscript (.Name x r0) (.Constant (.int 2) j3 r1) r2] [] r3] X.env) aU0)
  (e5:autoParam (starEach [.Call (.Name "list" q9) [.Subscript (.Name x r0) (.Constant (.int 2) j3 r1) r2] [] r3] X.env=(false,eval (.Call (.Name "list" q9) [.Subscript (.Name x r0) (.Constant (.int 2) j3 r1) r2] [] r3) X.env)::starEach [] X.env) aU0)
  (e6:autoParam (starEach [.Subscript (.Name x q5) (.Constant (.int 1) j2 q6) q7] X.env=(false,eval (.Subscript (.Name x q5) (.Constant (.int 1) j2 q6) q7) X.env)::starEach [] X.env) aU0)
  (e7:autoParam (starEach [.Subscript (.Name x r0) (.Constant (.int 2) j3 r1) r2] X.env=(false,eval (.Subscript (.Name x r0) (.Constant (.int 2) j3 r1) r2) X.env)::starEach [] X.env) aU0)
  (p6:autoParam ((backTo q8 (starEach [] X.env)).any (·.1)=false) aU0) (p7:autoParam ((backTo r3 (starEach [] X.env)).any (·.1)=false) aU0)
  (l1:autoParam (zdp (.Constant (.int 0) j1 q2)) aU6) (l2:autoParam (zdp (.Constant (.int 1) j2 q6)) aU6) (l3:autoParam (zdp (.Constant (.int 2) j3 r1)) aU6) :
  PE X (.List [.Name sx q0,.Tuple [.Subscript (.Name x q1) (.Constant (.int 0) j1 q2) q3,.Call (.Name "list" q4) [.Subscript (.Name x q5) (.Constant (.int 1) j2 q6) q7] [] q8,.Call (.Name "list" q9) [.Subscript (.Name x r0) (.Constant (.int 2) j3 r1) r2] [] r3] k1 r4] r5)
   (λσ H Q=>∃t a b i ws ys sv,σ[it]? = some (some (.ref t))/\Tri H t a b i ws ys/\σ[is_]? = some (some sv)/\∀c d p H',Same H H'->H c=none->H d=none->H p=none->c≠p->d≠p->(∃t',Tri H' t' c d i ws ys/\H' p=some (.lst [sv,.ref t']))->Q (.ref p) H'):=
 PE.weak (znk (zaT (zbb hsi hvs hds hcs) (zaT (zkm (zaT (zks zgQ (zbb hi hv hd hcd) zgJ l1) (zaT (zdB zcJ hg hm zla (zaT (zks zgQ (zbb hi hv hd hcd) zgJ l2) zcI e6) (by decide) (by decide) e6 p6) (zaT (zdB zcJ hg hm zla (zaT (zks zgQ (zbb hi hv hd hcd) zgJ l3) zcI e7) (by decide) (by decide) e7 p7) zcI e5) e4) e3)) zcI e2) e1)) λσ H Q h=>by
  obtain⟨t,a,b,i,ws,ys,sv,h1,tr,h2,q⟩:=h;refine⟨sv,h2,_,h1,.inr (.inl ⟨t,_,0,.int i,rfl,rfl,SqT.of tr.at_,rfl,_,h1,.inr (.inl ⟨t,_,1,.ref a,rfl,rfl,SqT.of tr.at_,rfl,a,_,rfl,.inl (SqL.of tr.la),λc hc=>?_⟩)⟩)⟩;have s1:Same H (upd H c (.lst (ws.map V.int))):=(Same.refl H).upd' hc;have tr1:=tr.same s1;refine⟨_,h1,.inr (.inl ⟨t,_,2,.ref b,rfl,rfl,SqT.of tr1.at_,rfl,b,_,rfl,.inl (SqL.of tr1.lb),λd hd=>?_⟩)⟩;have s2:Same H (upd (upd H c (.lst (ws.map V.int))) d (.lst (ys.map V.int))):=s1.upd' (s1.free hd);have ncd:c≠d:=λz=>by rw[<- z,zak]at hd;cases hd
  refine⟨by show 3<=sizeLine;decide,λt' ht'=>⟨by show 2<=sizeLine;decide,λp hp=>?_⟩⟩;have nc:c≠t':=λz=>by rw[<- z,zai ncd,zak]at ht';cases ht'
  have ndt:d≠t':=λz=>by rw[<- z,zak]at ht';cases ht'
  have s3:=s2.upd' (o:=.tup [.int i,.ref c,.ref d]) (s2.free ht');have s4:=s3.upd' (o:=.lst [sv,.ref t']) (s3.free hp);have pt:t'≠p:=λz=>by rw[<- z,zak]at hp;cases hp
  have pd:d≠p:=λz=>by rw[<- z,zai ndt,zak]at hp;cases hp
  have pc:c≠p:=λz=>by rw[<- z,zai nc,zai ncd,zak]at hp;cases hp
  refine q c d p _ s4 hc (by rw[zai (Ne.symm ncd)]at hd;exact hd) (s3.free hp) pc pd ⟨t',⟨by rw[zai pt,zak],by rw[zai pc,zai nc,zai ncd,zak],by rw[zai pd,zai ndt,zak],ncd⟩,zak⟩
end
theorem zmR {X:Cx}{st:List Stmt}{t:TPS}(i:Nat)(h:PuSs X st t):PuSs X st (pFrz i t) where
 mono ρ O O' m q:=h.mono _ _ _ m q
 run:=PSs.weak h.run λD σ H q=>by
  obtain⟨ρ,Fz,R,q⟩:=q;obtain⟨F2,R2,s2,o2⟩:=R.frozen (i:=i);exact⟨_,F2,R2,h.mono _ _ _ (zbR s2 o2) q⟩
noncomputable def zet (it iy is_:Nat)(F:PFR)(ta:TPA)(tc tc2:TPT)(u:TPS):TPS:=λρ O=>it<ρ.length/\iy<ρ.length/\it≠iy/\it≠is_/\ta ρ λops=>noOwn ops=true/\F (ops.map (·.1)) λi ws ys=>ws.length<sizeLine/\
 tc (ρ.set it (some (triP i ws ys,false))) λb=>if b=true then O.rt (.bl false) .frz else
 tc2 (ρ.set it (some (triP i ws ys,false))) λb2=>if b2=true then(∃d,ρ[is_]? = some (some (d,false))/\Hold u O ((ρ.set it none).set iy (some (.lst [d,triP i ws ys],true)))) else Hold u O (ρ.set it none)
section
variable {X:Cx}{it iy is_ k:Nat}{f:Addr}{fd:FuncData}{ps:List Str}{F:PFR}{x y sx fx:Str}{e c c2:Expr}{es:List Expr}{ta:TPA}{tc tc2:TPT}{rest:List Stmt}{u:TPS}{p0 p1 p2 p3 p4 p5 p6 p7 p8 p9 q0 q1 q2 q3 q4 q5 q6 q7 q8 q9 r0 r1 r2 r3 r4 r5 r6 r7 r8 r9 v0 v1 v2 v3 v4 v5 v6:Pos}{j0 j1 j2 j3 j4 j5 k1:Nat}
theorem zly (G:FnOk X.prog X.w X.K X.mg X.base CX0 k f fd ps (spR X.K F))(mF:zoJ F)(hr:Room k X.A)(hg:Gl X fx)(hm:X.mg fx=some (.ref f))(hk:Xq X.K (.ref f)=true)(hb:Binds X.K fd ps [])(ha:PuA X (e::es) ta)(hc:PuT X c tc)(hc2:PuT X c2 tc2)(hrest:PuSs X rest u)
  (hgl:Gl X "list") (hml:X.mg "list" = none) (hN:X.N.Nodup) (hi:X.N[it]? = some x) (hlx:Loc X.env.scope x) (hy:X.N[iy]? = some y) (hly:Loc X.env.scope y) (hsi:X.N[is_]? = some sx)
  (happ:PSs X (.Expr (.Call (.Attribute (.Subscript (.Name x v0) (.Constant (.int 1) j4 v1) v2) "append" v3) [.Constant .none j5 v4] [] v5) v6::rest) (λD σ H=>∃t a b i ws ys,σ[it]? = some (some (.ref t))/\Tri H t a b i ws ys/\ws.length<sizeLine/\zhY X.K u D σ (upd H a (.lst (ws.map V.int++[.non])))))
  (hcopy:PE X (.List [.Name sx q0,.Tuple [.Subscript (.Name x q1) (.Constant (.int 0) j1 q2) q3,.Call (.Name "list" q4) [.Subscript (.Name x q5) (.Constant (.int 1) j2 q6) q7] [] q8,.Call (.Name "list" q9) [.Subscript (.Name x r0) (.Constant (.int 2) j3 r1) r2] [] r3] k1 r4] r5)
   (λσ H Q=>∃t a b i ws ys sv,σ[it]? = some (some (.ref t))/\Tri H t a b i ws ys/\σ[is_]? = some (some sv)/\∀c d p H',Same H H'->H c=none->H d=none->H p=none->c≠p->d≠p->(∃t',Tri H' t' c d i ws ys/\H' p=some (.lst [sv,.ref t']))->Q (.ref p) H'))
  (hdf:autoParam ((fx == ("__debug__" : Str))=false) aU1) (he:autoParam (starEach (e::es) X.env=(false,eval e X.env)::starEach es X.env) aU0) (hpl:autoParam ((backTo p1 (starEach es X.env)).any (·.1)=false) aU0)
  (hs1:autoParam (swapsWith (.Call (.Name fx p0) (e::es) [] p1) (some (.Name x p2)) p3.line X.env=pure false) aU0) (hf:autoParam (X.fn x=true\/X.env.scope.names.lookup x=some .local) aU3) (hfy:autoParam (X.fn y=true\/X.env.scope.names.lookup y=some .local) aU3)
  (hs2:autoParam (swapsWith (.List [.Name sx q0,.Tuple [.Subscript (.Name x q1) (.Constant (.int 0) j1 q2) q3,.Call (.Name "list" q4) [.Subscript (.Name x q5) (.Constant (.int 1) j2 q6) q7] [] q8,.Call (.Name "list" q9) [.Subscript (.Name x r0) (.Constant (.int 2) j3 r1) r2] [] r3] k1 r4] r5) (some (.Name y p7)) p8.line X.env=pure false) aU0) :
  PuSs X (.Assign [.Name x p2] (.Call (.Name fx p0) (e::es) [] p1) p3::.If c [.Return (some (.Constant (.bool false) j0 p4)) p5] [] p6::
   .If c2 [.Assign [.Name y p7] (.List [.Name sx q0,.Tuple [.Subscript (.Name x q1) (.Constant (.int 0) j1 q2) q3,.Call (.Name "list" q4) [.Subscript (.Name x q5) (.Constant (.int 1) j2 q6) q7] [] q8,.Call (.Name "list" q9) [.Subscript (.Name x r0) (.Constant (.int 2) j3 r1) r2] [] r3] k1 r4] r5) p8] [] p9::
   .Expr (.Call (.Attribute (.Subscript (.Name x v0) (.Constant (.int 1) j4 v1) v2) "append" v3) [.Constant .none j5 v4] [] v5) v6::rest) (zet it iy is_ F ta tc tc2 u) where
 mono ρ O O' m h:=by
  refine⟨h.1,h.2.1,h.2.2.1,h.2.2.2.1,ha.mono ρ _ _ (λops q=>⟨q.1,mF _ _ _ (λi ws ys q=>⟨q.1,hc.mono _ _ _ (λb q=>?_) q.2⟩) q.2⟩) h.2.2.2.2⟩;cases b with
  | true=>rw[if_pos rfl]at q ⊢;exact m.rt _ _ q
  | false=>
   rw[if_neg Xi]at q ⊢;refine hc2.mono _ _ _ (λb q=>?_) q;cases b with
   | true=>rw[if_pos rfl]at q ⊢;obtain⟨d,h1,q⟩:=q;exact⟨d,h1,hrest.mono _ _ _ m q⟩
   | false=>rw[if_neg Xi]at q ⊢;exact hrest.mono _ _ _ m q
 run:=PSs.weak (zaK (zeN hN hi hlx (zko G hr hg hm hk hb .nil zhR ha.run hdf he hpl) hs1 hf) (zaK (znJ hc.run (zeb (zke zpa)) zhN) (zaK (znJ hc2.run (zeb (zeN hN hy hly hcopy hs2 hfy)) zhN) happ))) λD σ H h=>by
  obtain⟨ρ,Fz,R,hit,hiy,hne,hns,h⟩:=h;refine⟨ρ,Fz,R,ha.mono ρ _ _ (λops q vs F1 H1 x1 o=>?_) h⟩;obtain⟨hn,q⟩:=q;show spR X.K F (vs++[]) H1 _ E0;rw[List.append_nil];obtain⟨F2,x2,s2,h2⟩:=o.frozen x1 hn;refine⟨λb=>H1 b≠none,ops.map (·.1),λ_ h=>h,DenL.mono (Keep.of (Same.refl _)) x2.al _ _ h2,mF _ _ _ (λi ws ys q t a b H3 sm tr na nb=>?_) q⟩;obtain⟨hz,q⟩:=q;have ha1:H1 a=none:=Decidable.byContradiction λz=>na z;have hb1:H1 b=none:=Decidable.byContradiction λz=>nb z;have ha0:H a=none:=x2.same.free ha1;have hb0:H b=none:=x2.same.free hb1;have nfa:¬ Fz a:=λz=>R.al a z ha0;have nfb:¬ Fz b:=λz=>R.al b z hb0;have noA:∀c,H c=none->¬ zaM ρ σ c:=λc hc ⟨j,d,h1,h2⟩=>by
   obtain⟨a',w1,_,w3⟩:=R.own j d h1;rw[h2]at w1;cases w1;obtain⟨o',w4,_⟩:=w3.at;rw[hc]at w4;cases w4
  have hsl:it<σ.length:=by rw[<- R.len];exact hit
  have x3:Ext Fz H (λc=>F2 c\/c=a\/c=b) H3:=by
   refine⟨x2.same.trans sm,λc hc=>.inl (x2.sub c hc),λc hc=>?_,λc hc=>?_⟩
   ·rcases hc with hc | rfl | rfl
    ·exact x2.new c hc
    ·exact .inr ha0
    ·exact .inr hb0
   ·rcases hc with hc | rfl | rfl
    ·exact λz=>x2.al c hc (sm.free z)
    ·rw[tr.la];exact λz=>nomatch z
    ·rw[tr.lb];exact λz=>nomatch z
  have V3:Rel X.K (λc=>F2 c\/c=a\/c=b) (ρ.set it (some (triP i ws ys,false))) (σ.set it (some (.ref t))) H3:=(R.ext x3).set (tr.den (.inr (.inl rfl)) (.inr (.inr rfl)));refine⟨_,_,V3,hc.mono _ _ _ (λb1 q F4 H4 x4=>?_) q⟩;cases b1 with
  | true=>
   rw[if_pos rfl]at q;have x34:=x3.trans x4;exact iteT (q (.bl false) F4 H4 (Step.of x34) x34.al (by show Den _ _ _ _ _;simp only[Den]))
  | false=>
   rw[if_neg Xi]at q;refine iteF ?_;refine⟨_,_,V3.ext x4,hc2.mono _ _ _ (λb2 q F5 H5 x5=>?_) q⟩;have x35:=x3.trans (x4.trans x5);have sm5:Same H3 H5:=x4.same.trans x5.same;have tr5:=tr.same sm5;have fin:∀(ρ':PEnv) (σ':St) (F':FZ) (H':Hp),Ext Fz H F' H'->Tri H' t a b i ws ys->¬ F' a->Rel X.K F' ρ' σ' H'->σ'[it]? = some (some (.ref t))->zaz ρ σ H ρ' σ'->¬ zaM ρ' σ' a->u ρ' (zfc X.K D ρ σ Fz H)->
     ∃t a b i ws ys,σ'[it]? = some (some (.ref t))/\Tri H' t a b i ws ys/\ws.length<sizeLine/\zhY X.K u D σ' (upd H' a (.lst (ws.map V.int++[.non]))):=λρ' σ' F' H' x' tr' nf' R' st' oi' no' q=>by
    refine⟨t,a,b,i,ws,ys,st',tr',hz,ρ',F',R'.other tr'.la (λz=>z) nf' no',hrest.mono _ _ _ (zbR (Step.of ?_) oi') q⟩;refine⟨λc o e=>?_,x'.sub,x'.new,λc hc=>?_⟩
    ·have n:c≠a:=λz=>by rw[z,ha0]at e;cases e
     rw[zai n];exact x'.same c o e
    ·have n:c≠a:=λz=>nf' (z▸hc);rw[zai n];exact x'.al c hc
   have x6:Ext Fz H (λc=>F5 c/\c≠a/\c≠b) H5:=⟨x35.same,λc hc=>⟨x35.sub c hc,λz=>nfa (z▸hc),λz=>nfb (z▸hc)⟩,λc hc=>x35.new c hc.1,λc hc=>x35.al c hc.1⟩;have oiu:zaz ρ σ H (ρ.set it none) (σ.set it (some (.ref t))):=λc hc=>.inl (zcS c hc);cases b2 with
   | false=>
    rw[if_neg Xi]at q;refine iteF ?_;exact fin _ _ _ _ x6 tr5 (λz=>z.2.1 rfl) (R.ext x6).unset (Xg hsl) oiu (λz=>noA a ha0 (zcS a z)) q
   | true=>
    rw[if_pos rfl]at q;refine iteT ?_;obtain⟨d,hd,q⟩:=q;obtain⟨sv,hsv,dsv⟩:=R.frz is_ d hd;refine⟨t,a,b,i,ws,ys,sv,Xg hsl,tr5,by rw[Xc hns];exact hsv,λc c' p H9 s9 hc hc' hp ncp ncp' ⟨t',tr9,hp9⟩=>?_⟩;have h0:∀z,H5 z=none->H z=none:=λz hz=>x35.same.free hz;have x9:Ext Fz H (λz=>(F5 z/\z≠a/\z≠b)\/z=c\/z=c') H9:=by
     refine⟨x6.same.trans s9,λz hz=>.inl (x6.sub z hz),λz hz=>?_,λz hz=>?_⟩
     ·rcases hz with hz | rfl | rfl
      ·exact x6.new z hz
      ·exact .inr (h0 _ hc)
      ·exact .inr (h0 _ hc')
     ·rcases hz with hz | rfl | rfl
      ·exact λw=>x6.al z hz (s9.free w)
      ·rw[tr9.la];exact λz=>nomatch z
      ·rw[tr9.lb];exact λz=>nomatch z
    have tr9a:=tr5.same s9;have nca:a≠c:=λz=>by rw[<- z,tr5.la]at hc;cases hc
    have nca':a≠c':=λz=>by rw[<- z,tr5.la]at hc';cases hc'
    have npa:a≠p:=λz=>by rw[<- z,tr5.la]at hp;cases hp
    have nfp:¬ ((F5 p/\p≠a/\p≠b)\/p=c\/p=c'):=λz=>by
     rcases z with z | z | z
     ·exact x6.al p z hp
     ·exact ncp z.symm
     ·exact ncp' z.symm
    have R9:=R.ext x9;have ow:Own X.K (λz=>(F5 z/\z≠a/\z≠b)\/z=c\/z=c') H9 (.lst [d,triP i ws ys]) p:=⟨_,hp9,DenL.cons (Den.mono (Keep.of x9.same) x9.sub _ _ dsv) (DenL.cons (tr9.den (.inr (.inl rfl)) (.inr (.inr rfl))) DenL.nil)⟩;have nop:¬ zaM (ρ.set it none) (σ.set it (some (.ref t))) p:=λz=>noA p (h0 p hp) (zcS p z);refine fin _ _ _ _ x9 tr9a (λz=>?_) (R9.unset.znp (i:=iy) nfp ow nop) (by rw[Xc (Ne.symm hne)];exact Xg hsl) (λz hz=>?_) (λz=>?_) q
    ·rcases z with z | z | z
     ·exact z.2.1 rfl
     ·exact nca z
     ·exact nca' z
    ·rcases zei z hz with rfl | hz
     ·exact .inr (h0 _ hp)
     ·exact .inl (zcS z hz)
    ·rcases zei a z with z | z
     ·exact npa z
     ·exact noA a ha0 (zcS a z)
end
end PL
set_option maxHeartbeats 1000000
namespace M41
noncomputable def sm:Nat->(Nat->Int)->Int
 | 0,_=>0
 | n+1,f=>sm n f+f n
theorem zau:∀ {n:Nat}{f g:Nat->Int},(∀k,k<n->f k=g k)->sm n f=sm n g
 | 0,_,_,_=>rfl
 | n+1,f,g,h=>by rw[sm,sm,zau λk hk=>h k (XR hk),h n (XO n)]
theorem zcv:∀ {n:Nat}{f g:Nat->Int}{a b:Int},sm n (λk=>a*f k+b*g k)=a*sm n f+b*sm n g
 | 0,_,_,_,_=>by simp[sm]
 | n+1,f,g,a,b=>by rw[sm,sm,sm,zcv];grind
theorem zfn {n:Nat}{f:Nat->Int}(c:Int):c*sm n f=sm n λk=>c*f k:=by
 have:=zcv (n:=n) (f:=f) (g:=f) (a:=c) (b:=0);rw[YO,Int.add_zero]at this;rw[<- this];exact zau λl _=>by lia
theorem zfo {n:Nat}{f:Nat->Int}(h:∀k,k<n->f k=0):sm n f=0:=by
 rw[zau h];induction n with
 | zero=>rfl
 | succ n ih=>rw[sm,ih (λk hk=>h k (XR hk))];rfl
theorem zcT:∀ {n i:Nat}{f:Nat->Int},i<n->(∀k,k<n->k≠i->f k=0)->sm n f=f i
 | n+1,i,f,hi,h=>by
  rw[sm];by_cases e:i=n
  ·rw[zfo λk hk=>h k (XR hk) (by lia),e];lia
  ·rw[zcT (i:=i) (by lia) λk hk=>h k (XR hk),h n (XO n) (λz=>e z.symm)];lia
theorem zmS:∀ {n:Nat}{f:Nat->Int},(∀k,k<n->0<=f k)->0<=sm n f
 | 0,_,_=>Int.le_refl 0
 | n+1,f,h=>by
  have:=zmS λk hk=>h k (XR hk);have:=h n (XO n);rw[sm];lia
theorem zlz:∀ {n:Nat}{f:Nat->Int},0<sm n f->∃k,k<n/\0<f k
 | 0,_,h=>absurd h (Int.lt_irrefl 0)
 | n+1,f,h=>by
  by_cases e:0<f n
  ·exact⟨n,XO n,e⟩
  ·rw[sm]at h;obtain⟨k,hk,h2⟩:=zlz (n:=n) (f:=f) (by lia);exact⟨k,XR hk,h2⟩
theorem ziX {f:Nat->Nat->Int}(hf:∀k l,l<k->f k l = - f l (k-1)):∀n,sm (n+1) (λk=>sm n (f k))=0
 | 0=>rfl
 | n+1=>by
  have ih:=ziX hf n;have e1:sm (n+1) (λk=>sm (n+1) (f k))=sm (n+1) (λk=>sm n (f k))+sm (n+1) λk=>f k n:=by
   rw[show(λk=>sm (n+1) (f k))=λk=>1*sm n (f k)+1*f k n from funext λk=>by rw[sm];lia,zcv];lia
  have e2:sm (n+1) (f (n+1))=sm (n+1) λk=>(-1)*f k n+0*f k n:=zau λk hk=>by rw[hf _ _ hk,Nat.add_sub_cancel];lia
  rw[sm,e1,ih,e2,zcv];lia
noncomputable abbrev Mt:=Nat->Nat->Int
noncomputable def sg (k:Nat):Int:=if k % 2=0 then 1 else -1
theorem zoL (k:Nat):sg (k+1) = - sg k:=by unfold sg;split<;>split<;>lia
noncomputable def rm (k:Nat)(v:Nat->Int):Nat->Int:=λj=>if j<k then v j else v (j+1)
noncomputable def D:Nat->Mt->Int
 | 0,_=>1
 | n+1,B=>sm (n+1) λk=>sg k*B 0 k*D n λr=>rm k (B (r+1))
noncomputable def up (B:Mt)(r:Nat)(v:Nat->Int):Mt:=λs=>if s=r then v else B s
theorem zbv {B:Mt}{r:Nat}{v:Nat->Int}:up B r v r=v:=if_pos rfl
theorem zeG {B:Mt}{r s:Nat}{v:Nat->Int}(h:s≠r):up B r v s=B s:=if_neg h
theorem zrm {B:Mt}{r:Nat}{u v:Nat->Int}:up (up B r u) r v=up B r v:=funext λs=>by unfold up;split<;>rfl
theorem zeu {B:Mt}{r s:Nat}{u v:Nat->Int}(h:r≠s):up (up B r u) s v=up (up B s v) r u:=funext λq=>by unfold up;split<;>split<;>first | rfl | lia
theorem zcU {B:Mt}{r:Nat}:up B r (B r)=B:=funext λs=>by unfold up;split<;>simp_all
theorem zoM {B:Mt}{r k:Nat}{v:Nat->Int}:(λs=>rm k (up B (r+1) v (s+1)))=up (λs=>rm k (B (s+1))) r (rm k v):=funext λs=>by unfold up;simp only[Nat.add_right_cancel_iff];split<;>rfl
theorem zlA {B:Mt}{k:Nat}{v:Nat->Int}:(λs=>rm k (up B 0 v (s+1)))=λs=>rm k (B (s+1)):=rfl
theorem zie:∀ {n r:Nat}{B:Mt}{x y:Nat->Int}{a b:Int},r<n->D n (up B r λj=>a*x j+b*y j)=a*D n (up B r x)+b*D n (up B r y)
 | n+1,0,B,x,y,a,b,_=>by
  rw[D,D,D,<- zcv];refine zau λk _=>?_;rw[zlA,zlA,zlA,zbv,zbv,zbv];grind
 | n+1,r+1,B,x,y,a,b,h=>by
  rw[D,D,D,<- zcv];refine zau λk _=>?_;have e:rm k (λj=>a*x j+b*y j)=λj=>a*rm k x j+b*rm k y j:=funext λj=>by unfold rm;split<;>rfl
  rw[zoM,zoM,zoM,e,zie (Nat.lt_of_succ_lt_succ h)];show sg k*B 0 k*_=_*(sg k*B 0 k*_)+_*(sg k*B 0 k*_)
  grind
theorem zqp {n r:Nat}{B:Mt}{x:Nat->Int}(c:Int)(hr:r<n):c*D n (up B r x)=D n (up B r λj=>c*x j):=by
 have:=zie (B:=B) (x:=x) (y:=x) (a:=c) (b:=0) hr;rw[YO,Int.add_zero]at this;rw[<- this];congr 2;funext j;lia
theorem zgy:∀ {n:Nat}{B C:Mt},(∀r k,r<n->k<n->B r k=C r k)->D n B=D n C
 | 0,_,_,_=>rfl
 | n+1,B,C,h=>by
  rw[D,D];refine zau λk hk=>?_;rw[h 0 k (Nat.succ_pos n) hk,zgy λr j hr hj=>?_];unfold rm;split
  ·exact h _ _ (Nat.succ_lt_succ hr) (XR hj)
  ·exact h _ _ (Nat.succ_lt_succ hr) (Nat.succ_lt_succ hj)
theorem zrn {k l:Nat}(h:l<k)(v:Nat->Int):rm l (rm k v)=rm (k-1) (rm l v):=funext λj=>by
 unfold rm;by_cases h1:j<l
 ·rw[if_pos h1,if_pos (show j<k by lia),if_pos (show j<k-1 by lia),if_pos h1]
 ·rw[if_neg h1];by_cases h2:j+1<k
  ·rw[if_pos h2,if_pos (show j<k-1 by lia),if_neg h1]
  ·rw[if_neg h2,if_neg (show ¬ j<k-1 by lia),if_neg (show ¬ j+1<l by lia)]
theorem zoN:∀ {n r:Nat}{B:Mt},r+1<n->B r=B (r+1)->D n B=0
 | n+2,0,B,_,e=>by
  rw[D];have q:=ziX (f:=λk l=>sg k*B 0 k*(sg l*rm k (B 0) l*D n λr=>rm l (rm k (B (r+2))))) (λk l h=>?_) (n+1)
  ·rw[<- q];refine zau λk hk=>?_;rw[D];rw[zfn,<- e]
  ·show _ = -(sg l*B 0 l*(sg (k-1)*rm l (B 0) (k-1)*_));have e1:rm k (B 0) l=B 0 l:=if_pos h;have e2:rm l (B 0) (k-1)=B 0 k:=by unfold rm;rw[if_neg (by lia),Nat.sub_add_cancel (by lia)]
   have e3:sg k = - sg (k-1):=by rw[<- zoL,Nat.sub_add_cancel (by lia)]
   have e4:(λr=>rm (k-1) (rm l (B (r+2))))=λr=>rm l (rm k (B (r+2))):=funext λr=>(zrn h _).symm;rw[e1,e2,e3,e4];grind
 | n+1,r+1,B,h,e=>by
  rw[D];refine zfo λk _=>?_;rw[zoN (r:=r) (Nat.lt_of_succ_lt_succ h) (by show rm k (B (r+1))=rm k (B (r+1+1));rw[e]),Yd]
theorem znt {n r s:Nat}{B:Mt}{x y:Nat->Int}(hr:r<n)(hs:s<n)(hne:r≠s)(alt:∀z,D n (up (up B r z) s z)=0):D n (up (up B r x) s y) = - D n (up (up B r y) s x):=by
 have h:=alt λj=>1*x j+1*y j;rw[zie hs,zeu hne,zeu hne,zie hr,zie hr,<- zeu hne,<- zeu hne,<- zeu hne,<- zeu hne,alt x,alt y]at h;lia
theorem zoO:∀ {d n r s:Nat}{B:Mt},s=r+1+d->s<n->B r=B s->D n B=0
 | 0,n,r,s,B,e,h,hb=>zoN (r:=r) (by lia) (by rw[hb,e])
 | d+1,n,r,s,B,e,h,hb=>by
  have hne:s-1≠s:=by lia
  have a1:∀z,D n (up (up B (s-1) z) s z)=0:=λz=>zoN (r:=s-1) (by lia) (by rw[Nat.sub_add_cancel (by lia),zbv,zeG hne,zbv]);have q:=znt (x:=B (s-1)) (y:=B s) (by lia) h hne a1;have e0:up (up B (s-1) (B (s-1))) s (B s)=B:=by rw[zcU,zcU]
  rw[e0]at q;rw[q,zoO (d:=d) (r:=r) (s:=s-1) (by lia) (by lia) (by rw[zeG (show r≠s by lia),zeG (show r≠s-1 by lia),zeG hne,zbv,hb])];rfl
theorem zlB {n r s:Nat}{B:Mt}(hr:r<n)(hs:s<n)(hne:r≠s)(h:B r=B s):D n B=0:=by
 by_cases z:r<s
 ·exact zoO (d:=s-r-1) (by lia) hs h
 ·exact zoO (d:=r-s-1) (by lia) hr h.symm
theorem zqq {n r s:Nat}{B:Mt}{x y:Nat->Int}(hr:r<n)(hs:s<n)(hne:r≠s):D n (up (up B r x) s y) = - D n (up (up B r y) s x):=
 znt hr hs hne λz=>zlB hr hs hne (by rw[zbv,zeG hne,zbv])
theorem zlC {n r:Nat}{B:Mt}(hr:r<n):∀(m:Nat)(t:Nat->Int)(u:Nat->Nat->Int),D n (up B r λj=>sm m λk=>t k*u k j)=sm m λk=>t k*D n (up B r (u k))
 | 0,t,u=>by
  have:=zie (B:=B) (x:=λ_=>0) (y:=λ_=>0) (a:=0) (b:=0) hr;rw[YO,YO]at this;exact this
 | m+1,t,u=>by
  have:=zie (B:=B) (x:=λj=>sm m λk=>t k*u k j) (y:=u m) (a:=1) (b:=t m) hr;rw[zlC hr m,Int.one_mul]at this;rw[sm,<- this]
  congr 1;congr 1;funext j
  rw[sm,Int.one_mul]
noncomputable def fac:Nat->Int
 | 0=>1
 | n+1=>(n+1)*fac n
theorem D_le:∀ {n:Nat}{B:Mt},(∀r k,-1<=B r k/\B r k<=1)->-fac n<=D n B/\D n B<=fac n
 | 0,_,_=>⟨by show(-1:Int)<=1;decide,Int.le_refl 1⟩
 | n+1,B,h=>by
  have key:∀(m:Nat) (f:Nat->Int) (c:Int),(∀k,-c<=f k/\f k<=c)->-(m*c)<=sm m f/\sm m f<=m*c:=by
   intro m f c hf;induction m with
   | zero=>simp[sm]
   | succ m ih=>
    have:=hf m;rw[sm,Int.natCast_succ,Int.add_mul,Int.one_mul];lia
  rw[D];have:=key (n+1) (λk=>sg k*B 0 k*D n λr=>rm k (B (r+1))) (fac n) λk=>by
   have d:=D_le (n:=n) (B:=λr=>rm k (B (r+1))) λr j=>by unfold rm;split<;>exact h _ _
   have hb:=h 0 k;have hs:sg k=1\/sg k = -1:=by unfold sg;split<;>simp
   generalize D n _=x at *;have:B 0 k = -1\/B 0 k=0\/B 0 k=1:=by lia
   rcases hs with e | e<;>rcases this with f | f | f<;>rw[e,f]<;>lia
  rw[fac];simpa using this
end M41
set_option maxHeartbeats 1000000
namespace M41
theorem zqr {n i r:Nat}{f:Nat->Int}(hi:i<n)(hr:r<n)(hne:i≠r)(h:∀k,k<n->k≠i->k≠r->f k=0):sm n f=f i+f r:=by
 have e:sm n f=sm n λk=>1*(if k=i then f i else 0)+1*(if k=r then f r else 0):=zau λk hk=>by
  by_cases z:k=i
  ·subst z;rw[if_pos rfl,if_neg hne];lia
  ·by_cases y:k=r
   ·subst y;rw[if_neg z,if_pos rfl];lia
   ·rw[h k hk z y,if_neg z,if_neg y];rfl
 rw[e,zcv,zcT hi λk _ z=>if_neg z,zcT hr λk _ z=>if_neg z,if_pos rfl,if_pos rfl];lia
theorem zlD {n r:Nat}{B:Mt}{x y:Nat->Int}(h:∀k,k<n->x k=y k):D n (up B r x)=D n (up B r y):=zgy λs k _ hk=>by
 unfold up;split
 ·exact h k hk
 ·rfl
structure Pb where
 m:Nat
 n:Nat
 col:Nat->Nat->Int
 spare:∀k,k<m->∀j,j<=m->col (n+k) j=if j=k then 1 else 0
 rhs:∀k,k<m->col (n+m) k=1
 rhsm:col (n+m) m=0
 bin:∀c,c<n->∀k,k<m->col c k=0\/col c k=1
 low:∀c,c<n->col c m = -1
 has:∀c,c<n->∃k,k<m/\col c k=1
section
variable (p:Pb)
noncomputable def em:Nat->Int:=λk=>if k=p.m then 1 else 0
noncomputable def Bs (h:List Nat):Mt:=λr=>if r<p.m then p.col (h.getD r 0) else em p
noncomputable def tb (h:List Nat)(r c:Nat):Int:=D (p.m+1) (up (Bs p h) r (p.col c))
noncomputable def bt (h:List Nat):Int:=D (p.m+1) (Bs p h)
structure Gd (h:List Nat):Prop where
 len:h.length=p.m
 lt:∀i,i<p.m->h.getD i 0<p.n+p.m
 pos:0<bt p h
 rhs:∀i,i<p.m->0<=tb p h i (p.n+p.m)
 cr:∀c k,k<=p.m->bt p h*p.col c k=sm (p.m+1) λr=>tb p h r c*Bs p h r k
variable {p}{h:List Nat}{i j r c k:Nat}
theorem Pb.nn (hc:c<p.n+p.m)(hk:k<p.m):0<=p.col c k:=by
 by_cases z:c<p.n
 ·rcases p.bin c z k hk with e | e<;>rw[e]<;>decide
 ·have:=p.spare (c-p.n) (by lia) k (by lia);rw[show p.n+(c-p.n)=c by lia]at this;rw[this];split<;>decide
theorem Pb.np (hc:c<p.n+p.m):p.col c p.m<=0:=by
 by_cases z:c<p.n
 ·rw[p.low c z];decide
 ·have:=p.spare (c-p.n) (by lia) p.m (Xf _);rw[show p.n+(c-p.n)=c by lia]at this;rw[this,if_neg (by lia)];decide
theorem Pb.one (hc:c<p.n+p.m):∃k,k<p.m/\p.col c k=1:=by
 by_cases z:c<p.n
 ·exact p.has c z
 ·refine⟨c-p.n,by lia,?_⟩;have:=p.spare (c-p.n) (by lia) (c-p.n) (by lia);rw[show p.n+(c-p.n)=c by lia,if_pos rfl]at this;exact this
theorem Bs_m:Bs p h p.m=em p:=if_neg (Yo _)
theorem zhp (hr:r<p.m):Bs p h r=p.col (h.getD r 0):=if_pos hr
theorem ziY (hi:i<p.m)(hl:h.length=p.m):Bs p (h.set i j)=up (Bs p h) i (p.col j):=funext λr=>by
 unfold Bs up;by_cases z:r=i
 ·subst z;rw[if_pos hi,if_pos rfl];congr 1;simp[List.getD,hl,hi]
 ·rw[if_neg z];show(if r<p.m then p.col ((h.set i j).getD r 0) else em p)=if r<p.m then p.col (h.getD r 0) else em p
  simp only[List.getD];rw[Xc (λe=>z e.symm)]
theorem ziZ (hi:i<p.m)(hl:h.length=p.m):bt p (h.set i j)=tb p h i j:=by unfold bt tb;rw[ziY hi hl]
theorem zja (hi:i<p.m)(hl:h.length=p.m):tb p (h.set i j) i c=tb p h i c:=by unfold tb;rw[ziY hi hl,zrm]
theorem zcV (hk:k<p.m)(hr:r<=p.m):tb p h r (h.getD k 0)=if r=k then bt p h else 0:=by
 unfold tb bt;rw[<- zhp hk];split
 ·rename_i e;subst e;rw[zcU]
 ·rename_i e
  exact zlB (r:=r) (s:=k) (by lia) (by lia) e (by rw[zbv,zeG (λz=>e z.symm)])
theorem turn (g:Gd p h)(hi:i<p.m)(hr:r<=p.m)(hne:r≠i):bt p h*tb p (h.set i j) r c=tb p h i j*tb p h r c-tb p h r j*tb p h i c:=by
 have hr1:r<p.m+1:=by lia
 have hi1:i<p.m+1:=by lia
 have e1:bt p h*tb p (h.set i j) r c=D (p.m+1) (up (up (Bs p h) i (p.col j)) r λk=>sm (p.m+1) λs=>tb p h s c*Bs p h s k):=by
  show bt p h*D _ (up (Bs p (h.set i j)) r (p.col c))=_;rw[ziY hi g.len,zqp _ hr1];exact zlD λk hk=>g.cr c k (by lia)
 have e2:∀s,s<p.m+1->s≠i->s≠r->tb p h s c*D (p.m+1) (up (up (Bs p h) i (p.col j)) r (Bs p h s))=0:=λs hs z1 z2=>by
  rw[zlB (r:=r) (s:=s) hr1 hs (λe=>z2 e.symm) (by rw[zbv,zeG z2,zeG z1]),Yd]
 have e3:D (p.m+1) (up (up (Bs p h) i (p.col j)) r (Bs p h r))=tb p h i j:=by
  have:up (Bs p h) i (p.col j) r=Bs p h r:=zeG hne;rw[<- this,zcU];rfl
 have e4:D (p.m+1) (up (up (Bs p h) i (p.col j)) r (Bs p h i)) = - tb p h r j:=by
  rw[zqq hi1 hr1 (λe=>hne e.symm),zcU];rfl
 rw[e1,zlC hr1,zqr hi1 hr1 (λe=>hne e.symm) e2,e3,e4,Int.mul_neg,Yk,Yk (tb p h r c)];lia
theorem zhq (hr:r<=p.m):tb p h r c=sm p.m (λk=>p.col c k*tb p h r (p.n+k))+p.col c p.m*(if r=p.m then bt p h else 0):=by
 have hr1:r<p.m+1:=by lia
 have e1:tb p h r c=D (p.m+1) (up (Bs p h) r λj=>sm (p.m+1) λk=>p.col c k*(if j=k then 1 else 0)):=by
  refine zlD λk hk=>?_;rw[zcT (f:=λl=>p.col c l*if k=l then 1 else 0) hk λl _ z=>by rw[if_neg (λe=>z e.symm),Yd],if_pos rfl,Int.mul_one]
 rw[e1,zlC (u:=λk j=>if j=k then 1 else 0) hr1,sm]
 congr 1
 ·refine zau λk hk=>?_
  congr 1
  exact zlD λl hl=>(p.spare k hk l (by lia)).symm
 ·congr 1
  have e2:(λj=>if j=p.m then(1:Int) else 0)=Bs p h p.m:=Bs_m.symm
  rw[e2];split
  ·rename_i e;subst e;rw[zcU];rfl
  ·rename_i e
   exact zlB (r:=r) (s:=p.m) hr1 (XO _) e (by rw[zbv,zeG (λz=>e z.symm)])
theorem across {hD:List Nat}(g:Gd p h):bt p h*tb p hD p.m c=sm p.m (λi=>tb p h i c*tb p hD p.m (h.getD i 0))+tb p h p.m c*bt p hD:=by
 have hm:p.m<p.m+1:=XO _;have e1:bt p h*tb p hD p.m c=D (p.m+1) (up (Bs p hD) p.m λk=>sm (p.m+1) λs=>tb p h s c*Bs p h s k):=by
  show bt p h*D _ (up (Bs p hD) p.m (p.col c))=_;rw[zqp _ hm];exact zlD λk hk=>g.cr c k (by lia)
 rw[e1,zlC hm,sm]
 congr 1
 ·refine zau λi hi=>?_;rw[zhp hi];rfl
 ·congr 1
  have e2:Bs p h p.m=Bs p hD p.m:=by rw[Bs_m,Bs_m]
  rw[e2,zcU];rfl
theorem zqs (g:Gd p h)(hi:i<p.m)(hk:k<=p.m):bt p (h.set i j)*p.col c k=sm (p.m+1) λr=>tb p (h.set i j) r c*Bs p (h.set i j) r k:=by
 have hb:=g.pos;refine Int.eq_of_mul_eq_mul_left (Int.ne_of_gt hb) ?_;have e1:bt p h*(sm (p.m+1) λr=>tb p (h.set i j) r c*Bs p (h.set i j) r k)=sm (p.m+1) λr=>1*(tb p h i j*(tb p h r c*Bs p h r k)+(- tb p h i c)*(tb p h r j*Bs p h r k))+1*(if r=i then tb p h i c*(bt p h*p.col j k) else 0):=by
  rw[zfn];refine zau λr hr=>?_;rw[ziY hi g.len];by_cases z:r=i
  ·subst z;rw[if_pos rfl,zja hi g.len,zbv]
   grind
  ·rw[if_neg z,zeG z,<- Int.mul_assoc,turn g hi (by lia) z]
   grind
 rw[e1,zcv,zcv,<- g.cr c k hk,<- g.cr j k hk,zcT (i:=i) (by lia) λl _ z=>if_neg z,if_pos rfl,ziZ hi g.len]
 grind
theorem ends (g:Gd p h)(hj:j<p.n+p.m):∃i,i<p.m/\0<tb p h i j:=by
 obtain⟨k,hk,e⟩:=p.one hj;have q:=g.cr j k (by lia);rw[e,Int.mul_one,sm,Bs_m]at q;have z:em p k=0:=if_neg (by lia);rw[z,Yd,Int.add_zero]at q;obtain⟨i,hi,hp⟩:=zlz (n:=p.m) (f:=λr=>tb p h r j*Bs p h r k) (by rw[<- q];exact g.pos);refine⟨i,hi,?_⟩;rw[zhp hi]at hp;have:=p.nn (g.lt i hi) hk;exact Decidable.byContradiction λz=>by
  have:=Yy (Int.not_lt.mp z) this;lia
theorem zqt (g:Gd p h):0<=tb p h p.m (p.n+p.m):=by
 have q:=g.cr (p.n+p.m) p.m (Xf _);rw[p.rhsm,Yd,sm,Bs_m]at q;have z:em p p.m=1:=if_pos rfl;rw[z,Int.mul_one]at q;have:=zmS (n:=p.m) (f:=λr=>(-1)*(tb p h r (p.n+p.m)*Bs p h r p.m)+0*0) λr hr=>by
  rw[zhp hr];have h1:=g.rhs r hr;have h2:=p.np (g.lt r hr);have:=Int.mul_nonpos_of_nonneg_of_nonpos h1 h2;lia
 rw[zcv (g:=λ_=>0)]at this;lia
end
end M41
set_option maxHeartbeats 1000000
namespace M41
theorem ratio {a b c d e f:Int}(hd:0<d)(hf:0<f)(hb:0<b)(h1:a*d<=c*b)(h2:c*f<=e*d):a*f<=e*b:=by
 refine YM ?_ hd;have q1:=YE h1 (YI hf);have q2:=YE h2 (YI hb);have e1:d*(a*f)=a*d*f:=by rw[Yk a d,Int.mul_assoc]
 have e2:c*b*f=c*f*b:=Int.mul_right_comm _ _ _;have e3:d*(e*b)=e*d*b:=by rw[Yk e d,Int.mul_assoc]
 rw[e1,e3];exact Int.le_trans q1 (e2▸q2)
theorem zgz {a b c d e f:Int}(hd:0<d)(hf:0<f)(hb:0<b)(h:a*d<c*b/\c*f<=e*d\/a*d<=c*b/\c*f<e*d):a*f<e*b:=by
 refine Int.lt_of_mul_lt_mul_left ?_ (YI hd);have e1:d*(a*f)=a*d*f:=by rw[Yk a d,Int.mul_assoc]
 have e2:c*b*f=c*f*b:=Int.mul_right_comm _ _ _;have e3:d*(e*b)=e*d*b:=by rw[Yk e d,Int.mul_assoc]
 rw[e1,e3];rcases h with ⟨h1,h2⟩ | ⟨h1,h2⟩
 ·exact Int.lt_of_lt_of_le (Int.mul_lt_mul_of_pos_right h1 hf) (e2▸YE h2 (YI hb))
 ·exact Int.lt_of_le_of_lt (YE h1 (YI hf)) (e2▸Int.mul_lt_mul_of_pos_right h2 hb)
theorem zcf {P:Nat->Prop}:∀ {y x:Nat},x<y->P x->¬ P y->∃e,x<=e/\e<y/\P e/\¬ P (e+1)
 | y+1,x,h,hx,hy=>by
  by_cases z:P y
  ·exact⟨y,by lia,XO y,z,hy⟩
  ·have:x≠y:=λe=>z (e▸hx);obtain⟨e,h1,h2,h3⟩:=zcf (y:=y) (x:=x) (by lia) hx z;exact⟨e,h1,by lia,h3⟩
section
variable {p:Pb}{h:List Nat}{i j r c k:Nat}
structure Ent (p:Pb)(h:List Nat)(j:Nat):Prop where
 lt:j<p.n+p.m
 neg:tb p h p.m j<0
 first:∀c,c<j->0<=tb p h p.m c
structure Lev (p:Pb)(h:List Nat)(j i:Nat):Prop where
 lt:i<p.m
 pos:0<tb p h i j
 best:∀r,r<p.m->0<tb p h r j->tb p h i (p.n+p.m)*tb p h r j<tb p h r (p.n+p.m)*tb p h i j\/(tb p h i (p.n+p.m)*tb p h r j=tb p h r (p.n+p.m)*tb p h i j/\h.getD i 0<=h.getD r 0)
theorem zdU (hl:i<h.length):(h.set i j).getD r 0=if r=i then j else h.getD r 0:=by
 simp only[List.getD];split
 ·rename_i e;subst e;simp[hl]
 ·rename_i e;rw[Xc (λz=>e z.symm)]
theorem Gd.zjb (g:Gd p h)(hk:k<p.m)(hj:tb p h p.m j≠0):h.getD k 0≠j:=λe=>hj (by rw[<- e,zcV hk (Xf _),if_neg (by lia)])
theorem Gd.step (g:Gd p h)(he:j<p.n+p.m)(hv:Lev p h j i):Gd p (h.set i j):=by
 have hil:i<h.length:=by rw[g.len];exact hv.lt
 refine⟨by rw[XZ,g.len],λr hr=>?_,by rw[ziZ hv.lt g.len];exact hv.pos,λr hr=>?_,λc k hk=>zqs g hv.lt hk⟩
 ·rw[zdU hil];split
  ·exact he
  ·exact g.lt r hr
 ·by_cases z:r=i
  ·subst z;rw[zja hv.lt g.len];exact g.rhs r hr
  ·have q:=turn (j:=j) (c:=p.n+p.m) g hv.lt (Yv hr) z;have h1:=g.rhs r hr;have h2:=g.rhs i hv.lt;refine YM ?_ g.pos;rw[Yd,q];by_cases y:0<tb p h r j
   ·have:=hv.best r hr y;rw[Yk (tb p h i j),Yk (tb p h r j)];lia
   ·have q1:=Int.mul_nonneg (YI hv.pos) h1;have q2:=Yy (Int.not_lt.mp y) h2;lia
theorem zmT {f:Nat->List Nat}{J I:Nat->Nat}{L:Nat}(hL:0<L)(hg:∀t,t<L->Gd p (f t))(hJ:∀t,t<L->Ent p (f t) (J t))(hI:∀t,t<L->Lev p (f t) (J t) (I t))(hs:∀t,t<L->f (t+1)=(f t).set (I t) (J t))(he:f L=f 0):False:=by
 have gd:∀t,t<=L->Gd p (f t):=λt ht=>by
  by_cases z:t=L
  ·rw[z,he];exact hg 0 hL
  ·exact hg t (by lia)
 have lenf:∀t,t<L->I t<(f t).length:=λt ht=>by rw[(hg t ht).len];exact(hI t ht).lt
 have bs:∀t,t<L->bt p (f (t+1))=tb p (f t) (I t) (J t):=λt ht=>by rw[hs t ht,ziZ (hI t ht).lt (hg t ht).len]
 have one:∀t,t<L->bt p (f t)*tb p (f (t+1)) p.m (p.n+p.m)=bt p (f (t+1))*tb p (f t) p.m (p.n+p.m)-tb p (f t) p.m (J t)*tb p (f t) (I t) (p.n+p.m):=λt ht=>by
  rw[bs t ht,hs t ht];exact turn (hg t ht) (hI t ht).lt (Xf _) (by have:=(hI t ht).lt;lia)
 have le1:∀t,t<L->tb p (f t) p.m (p.n+p.m)*bt p (f (t+1))<=tb p (f (t+1)) p.m (p.n+p.m)*bt p (f t):=λt ht=>by
  have q:=one t ht;have:=Yy (YI (hJ t ht).neg) ((hg t ht).rhs _ (hI t ht).lt);rw[Yk,Yk (tb p (f (t+1)) _ _)];lia
 have le:∀s t,s<=t->t<=L->tb p (f s) p.m (p.n+p.m)*bt p (f t)<=tb p (f t) p.m (p.n+p.m)*bt p (f s):=by
  intro s t hst ht;induction t with
  | zero=>
   have z:s=0:=by lia
   subst z;exact Int.le_refl _
  | succ t ih=>
   by_cases z:s=t+1
   ·rw[z];exact Int.le_refl _
   ·exact ratio (gd t (by lia)).pos (gd (t+1) ht).pos (gd s (by lia)).pos (ih (by lia) (by lia)) (le1 t (by lia))
 have idle:∀t,t<L->tb p (f t) (I t) (p.n+p.m)=0:=λt ht=>by
  have hn:=(hg t ht).rhs _ (hI t ht).lt;refine Decidable.byContradiction λz=>?_;have st:tb p (f t) p.m (p.n+p.m)*bt p (f (t+1))<tb p (f (t+1)) p.m (p.n+p.m)*bt p (f t):=by
   have q:=one t ht;have:=Int.mul_neg_of_neg_of_pos (hJ t ht).neg (show 0<tb p (f t) (I t) (p.n+p.m) by lia);rw[Yk,Yk (tb p (f (t+1)) _ _)];lia
  have q1:=zgz (gd t (by lia)).pos (gd (t+1) ht).pos (gd 0 (by lia)).pos (.inr ⟨le 0 t (by lia) (by lia),st⟩);have q2:=zgz (gd (t+1) ht).pos (gd L (Xf _)).pos (gd 0 (by lia)).pos (.inl ⟨q1,le (t+1) L ht (Xf _)⟩);rw[he]at q2;exact Int.lt_irrefl _ q2
 have row1:∀r,r<p.m->∀t,t<L->(tb p (f t) r (p.n+p.m)=0↔tb p (f (t+1)) r (p.n+p.m)=0):=λr hr t ht=>by
  have b0:=(gd t (by lia)).pos;have b1:=(gd (t+1) ht).pos;by_cases z:r=I t
  ·rw[hs t ht,z,zja (hI t ht).lt (hg t ht).len]
  ·have q:=turn (j:=J t) (c:=p.n+p.m) (hg t ht) (hI t ht).lt (Yv hr) z;rw[idle t ht,Yd,Int.sub_zero,<- bs t ht,<- hs t ht]at q;constructor
   ·intro e;rw[e,Yd]at q;exact(Int.mul_eq_zero.mp q).resolve_left (by lia)
   ·intro e;rw[e,Yd]at q;exact(Int.mul_eq_zero.mp q.symm).resolve_left (by lia)
 have row:∀r,r<p.m->∀t,t<=L->(tb p (f 0) r (p.n+p.m)=0↔tb p (f t) r (p.n+p.m)=0):=λr hr t ht=>by
  induction t with
  | zero=>exact Iff.rfl
  | succ t ih=>exact(ih (by lia)).trans (row1 r hr t (by lia))
 obtain⟨d,hd,hmax⟩:∃d,d<L/\∀s,s<L->J s<=J d:=by
  have:∀n,n<L->∃d,d<=n/\∀s,s<=n->J s<=J d:=λn=>by
   induction n with
   | zero=>exact λ_=>⟨0,Xf _,λs hs=>by rw[Nat.le_zero.mp hs];exact Xf _⟩
   | succ n ih=>
    intro hn;obtain⟨d,h1,h2⟩:=ih (by lia);by_cases z:J d<=J (n+1)
    ·exact⟨n+1,Xf _,λs hs=>by
      by_cases y:s=n+1
      ·rw[y];exact Xf _
      ·exact Yu (h2 s (by lia)) z⟩
    ·exact⟨d,by lia,λs hs=>by
      by_cases y:s=n+1
      ·rw[y];lia
      ·exact h2 s (by lia)⟩
  obtain⟨d,h1,h2⟩:=this (L-1) (by lia);exact⟨d,by lia,λs hs=>h2 s (by lia)⟩
 let Hd:Nat->Nat->Prop:=λx t=>∃k,k<p.m/\(f t).getD k 0=x;have out:∀t,t<L->¬ Hd (J t) t:=(λt ht q132q=>by obtain⟨k,hk,e⟩:=q132q;exact(hg t ht).zjb hk (Int.ne_of_lt (hJ t ht).neg) e);have into:∀x t,t<L->¬ Hd x t->Hd x (t+1)->J t=x:=λx t ht h1 ⟨k,hk,e⟩=>by
  rw[hs t ht,zdU (lenf t ht)]at e;split at e
  ·exact e
  ·exact absurd ⟨k,hk,e⟩ h1
 have gone:∀x t,t<L->Hd x t->¬ Hd x (t+1)->(f t).getD (I t) 0=x:=λx t ht ⟨k,hk,e⟩ h2=>by
  by_cases z:k=I t
  ·rw[<- z];exact e
  ·exact absurd ⟨k,hk,by rw[hs t ht,zdU (lenf t ht),if_neg z];exact e⟩ h2
 have wrap:∀x,Hd x L↔Hd x 0:=λx=>by
  show(∃k,k<p.m/\(f L).getD k 0=x)↔_;rw[he]
 have fresh:Hd (J d) (d+1):=⟨I d,(hI d hd).lt,by rw[hs d hd,zdU (lenf d hd),if_pos rfl]⟩;obtain⟨e,heL,he1,he2⟩:∃e,e<L/\Hd (J d) e/\¬ Hd (J d) (e+1):=by
  by_cases z:Hd (J d) L
  ·have h0:=(wrap _).mp z;have d0:0<d:=Nat.pos_of_ne_zero λy=>out d hd (by rw[y];rw[y]at h0;exact h0);obtain⟨e,_,h2,h3,h4⟩:=zcf (P:=Hd (J d)) d0 h0 (out d hd);exact⟨e,by lia,h3,h4⟩
  ·have:d+1≠L:=λy=>z (y▸fresh);obtain⟨e,_,h2,h3,h4⟩:=zcf (P:=Hd (J d)) (show d+1<L by lia) fresh z;exact⟨e,h2,h3,h4⟩
 have eL:=gone _ e heL he1 he2;have gE:=hg e heL;have vE:=hI e heL;have hne:J e≠J d:=λz=>out e heL (z▸he1);have hlt:J e<J d:=by have:=hmax e heL;lia
 have q:=across (hD:=f d) (c:=J e) gE;have q1:=Int.mul_nonneg (YI gE.pos) ((hJ d hd).first _ hlt)
 have q2:=Int.mul_neg_of_neg_of_pos (hJ e heL).neg (hg d hd).pos;rw[q]at q1;obtain⟨i,hi,hp⟩:=zlz (n:=p.m) (f:=λi=>tb p (f e) i (J e)*tb p (f d) p.m ((f e).getD i 0)) (by lia);have hz:tb p (f d) p.m ((f e).getD i 0)≠0:=λz=>by rw[z,Yd]at hp;exact Int.lt_irrefl _ hp
 generalize hx:(f e).getD i 0=x at hp hz;have xd:¬ Hd x d:=(λ q135q=>by obtain⟨k,hk,y⟩:=q135q;exact(hg d hd).zjb hk hz y);have xe:Hd x e:=⟨i,hi,hx⟩;have hde:d≠e:=λy=>xd (y▸xe);have hxm:x<=J d:=by
  by_cases y:d<e
  ·obtain⟨u,h1,h2,h3,h4⟩:=zcf (P:=λt=>¬ Hd x t) y xd (λz=>z xe);rw[<- into x u (by lia) h3 (Classical.not_not.mp h4)];exact hmax u (by lia)
  ·by_cases z:Hd x 0
   ·obtain⟨u,h1,h2,h3,h4⟩:=zcf (P:=λt=>¬ Hd x t) hd xd (λv=>v ((wrap x).mpr z));rw[<- into x u (by lia) h3 (Classical.not_not.mp h4)];exact hmax u (by lia)
   ·have e0:0<e:=Nat.pos_of_ne_zero λv=>z (v▸xe);obtain⟨u,h1,h2,h3,h4⟩:=zcf (P:=λt=>¬ Hd x t) e0 z (λv=>v xe);rw[<- into x u (by lia) h3 (Classical.not_not.mp h4)];exact hmax u (by lia)
 have hi0:tb p (f e) i (p.n+p.m)=0:=by
  have key:∃u,u<L/\I u=i:=by
   have mv:∀u,u<L->((f u).getD i 0=x)≠((f (u+1)).getD i 0=x)->I u=i:=λu hu hv=>Decidable.byContradiction λz=>hv (by rw[hs u hu,zdU (lenf u hu),if_neg λy=>z y.symm]);by_cases y:d<e
   ·obtain⟨u,h1,h2,h3,h4⟩:=zcf (P:=λt=>¬ (f t).getD i 0=x) y (λz=>xd ⟨i,hi,z⟩) (λz=>z hx);exact⟨u,by lia,mv u (by lia) λz=>h4 λv=>h3 (z▸v)⟩
   ·obtain⟨u,h1,h2,h3,h4⟩:=zcf (P:=λt=>(f t).getD i 0=x) (show e<d by lia) hx (λz=>xd ⟨i,hi,z⟩);exact⟨u,by lia,mv u (by lia) λz=>h4 (z▸h3)⟩
  obtain⟨u,hu,rfl⟩:=key;exact(row _ hi e (by lia)).mp ((row _ hi u (by lia)).mpr (idle u hu))
 by_cases hxd:x=J d
 ·have hie:i=I e:=by
   have e1:=zcV (p:=p) (h:=f e) (k:=i) (r:=I e) hi (Yv vE.lt);have e2:=zcV (p:=p) (h:=f e) (k:=I e) (r:=I e) vE.lt (Yv vE.lt);rw[if_pos rfl,eL,<- hxd,<- hx,e1]at e2;refine Decidable.byContradiction λz=>?_;rw[if_neg λy=>z y.symm]at e2;have:=gE.pos;lia
  have h1:=vE.pos;rw[<- hie]at h1;have:=Int.mul_neg_of_pos_of_neg h1 (hJ d hd).neg;rw[<- hxd]at this;lia
 ·have hnn:=(hJ d hd).first x (by lia)
  have hpos:0<tb p (f e) i (J e):=by
   refine Decidable.byContradiction λz=>?_;have:=Yy (Int.not_lt.mp z) hnn;lia
  rcases vE.best i hi hpos with b | ⟨_,b⟩
  ·rw[idle e heL,hi0,YO,YO]at b;exact Int.lt_irrefl _ b
  ·rw[eL,hx]at b;lia
end
end M41
set_option maxHeartbeats 1000000
namespace M41
theorem zlE:∀ {m n:Nat}{f:Nat->Nat->Int},sm m (λi=>sm n (f i))=sm n λk=>sm m λi=>f i k
 | 0,n,f=>(zfo λ_ _=>rfl).symm
 | m+1,n,f=>by
  rw[sm,zlE];have:=zcv (n:=n) (f:=λk=>sm m λi=>f i k) (g:=f m) (a:=1) (b:=1);rw[Int.one_mul,Int.one_mul]at this;rw[<- this];exact zau λk _=>by rw[sm];lia
theorem zro {n:Nat}{f g:Nat->Int}(h:∀k,k<n->f k<=g k):sm n f<=sm n g:=by
 have:=zmS (n:=n) (f:=λk=>1*g k+(-1)*f k) λk hk=>by have:=h k hk;lia
 rw[zcv]at this;lia
theorem D_id:∀n,D n (λr k=>if k=r then 1 else 0)=1
 | 0=>rfl
 | n+1=>by
  rw[D,zcT (i:=0) (Nat.succ_pos n) λk _ hk=>by rw[if_neg hk];lia];have e:(λr=>rm 0 λk=>if k=r+1 then(1:Int) else 0)=λr k=>if k=r then 1 else 0:=funext λr=>funext λk=>by
   unfold rm;rw[if_neg (by lia)];show(if k+1=r+1 then(1:Int) else 0)=_
   by_cases z:k=r
   ·rw[if_pos z,if_pos (by lia)]
   ·rw[if_neg z,if_neg (by lia)]
  rw[e,D_id n];rfl
section
variable {p:Pb}{h:List Nat}{i j r c k:Nat}
noncomputable def start (p:Pb):List Nat:=(Xp p.m).map λi=>p.n+i
theorem zjc (hi:i<p.m):(start p).getD i 0=p.n+i:=by simp[start,List.getD,hi]
theorem zdV (hr:r<=p.m)(hk:k<=p.m):Bs p (start p) r k=if k=r then 1 else 0:=by
 by_cases z:r<p.m
 ·rw[zhp z,zjc z,p.spare r z k hk]
 ·have:r=p.m:=by lia
  subst this;rw[Bs_m];rfl
theorem zeL:bt p (start p)=1:=by
 rw[<- D_id (p.m+1)];exact zgy λr k hr hk=>zdV (by lia) (by lia)
theorem tb_start (hr:r<=p.m):tb p (start p) r c=p.col c r:=by
 have hr1:r<p.m+1:=by lia
 have e1:tb p (start p) r c=D (p.m+1) (up (Bs p (start p)) r λj=>sm (p.m+1) λk=>p.col c k*Bs p (start p) k j):=zlD λk hk=>by
  rw[zcT hk λl hl z=>by rw[zdV (by lia) (by lia),if_neg (λe=>z e.symm),Yd],zdV (by lia) (by lia),if_pos rfl,Int.mul_one]
 rw[e1,zlC hr1,zcT hr1 λl hl z=>by rw[zlB (r:=r) (s:=l) hr1 hl (λe=>z e.symm) (by rw[zbv,zeG z]),Yd],zcU];show _*bt p (start p)=_;rw[zeL,Int.mul_one]
theorem Gd.start:Gd p (start p) where
 len:=by simp[M41.start]
 lt i hi:=by rw[zjc hi];lia
 pos:=by rw[zeL];decide
 rhs i hi:=by rw[tb_start (by lia),p.rhs i hi];decide
 cr c k hk:=by
  rw[zeL,Int.one_mul,zcT (i:=k) (by lia) λl hl z=>by rw[zdV (by lia) hk,if_neg (λe=>z e.symm),Yd],zdV hk hk,if_pos rfl,Int.mul_one,tb_start hk]
theorem Pb.le1 (hc:c<=p.n+p.m)(hk:k<=p.m):-1<=p.col c k/\p.col c k<=1:=by
 by_cases z:c<p.n
 ·by_cases y:k<p.m
  ·rcases p.bin c z k y with e | e<;>rw[e]<;>decide
  ·have:k=p.m:=by lia
   rw[this,p.low c z];decide
 ·by_cases y:c<p.n+p.m
  ·have:=p.spare (c-p.n) (by lia) k hk;rw[show p.n+(c-p.n)=c by lia]at this;rw[this];split<;>decide
  ·have:c=p.n+p.m:=by lia
   subst this;by_cases x:k<p.m
   ·rw[p.rhs k x];decide
   ·have:k=p.m:=by lia
    rw[this,p.rhsm];decide
theorem Gd.small (g:Gd p h)(hm:p.m<=6)(hr:r<=p.m)(hc:c<=p.n+p.m):-5040<=tb p h r c/\tb p h r c<=5040:=by
 have e:tb p h r c=D (p.m+1) λs k=>if s<=p.m/\k<=p.m then up (Bs p h) r (p.col c) s k else 0:=zgy λs k hs hk=>by rw[if_pos ⟨by lia,by lia⟩]
 have:=D_le (n:=p.m+1) (B:=λs k=>if s<=p.m/\k<=p.m then up (Bs p h) r (p.col c) s k else 0) λs k=>by
  split
  ·rename_i z
   unfold up;split
   ·exact Pb.le1 hc z.2
   ·by_cases y:s<p.m
    ·rw[zhp y];exact Pb.le1 (Yv (g.lt s y)) z.2
    ·have:s=p.m:=by lia
     rw[this,Bs_m];unfold em;split<;>decide
  ·decide
 rw[<- e]at this;have f:fac (p.m+1)<=5040:=by
  have:p.m=0\/p.m=1\/p.m=2\/p.m=3\/p.m=4\/p.m=5\/p.m=6:=by lia
  rcases this with z | z | z | z | z | z | z<;>rw[z]<;>decide
 lia
noncomputable def pr (p:Pb)(h:List Nat)(c:Nat):Int:=sm p.m λr=>if h.getD r 0=c then tb p h r (p.n+p.m) else 0
theorem zlF (g:Gd p h)(hk:k<p.m):pr p h (h.getD k 0)=tb p h k (p.n+p.m):=by
 unfold pr;rw[zcT hk λr hr z=>if_neg λe=>?_,if_pos rfl];have e1:=zcV (p:=p) (h:=h) (k:=r) (r:=k) hr (by lia);rw[e,zcV hk (by lia),if_pos rfl,if_neg λy=>z y.symm]at e1;have:=g.pos;lia
theorem znu (hc:∀k,k<p.m->h.getD k 0≠c):pr p h c=0:=zfo λr hr=>if_neg (hc r hr)
theorem zrp (g:Gd p h):0<=pr p h c:=zmS λr hr=>by
 split
 ·exact g.rhs r hr
 ·decide
theorem znv (f:Nat->Int):sm p.n (λc=>f c*pr p h c)=sm p.m λr=>tb p h r (p.n+p.m)*if h.getD r 0<p.n then f (h.getD r 0) else 0:=by
 have e:sm p.n (λc=>f c*pr p h c)=sm p.n λc=>sm p.m λr=>f c*if h.getD r 0=c then tb p h r (p.n+p.m) else 0:=zau λc _=>by unfold pr;rw[zfn]
 rw[e,zlE];refine zau λr hr=>?_;split
 ·rename_i z
  rw[zcT z λc _ y=>by rw[if_neg λe=>y e.symm,Yd],if_pos rfl,Yk]
 ·rename_i z
  rw[Yd];exact zfo λc hc=>by rw[if_neg (by lia),Yd]
theorem cost (g:Gd p h)(hk:k<p.m):sm p.n (λc=>p.col c k*pr p h c)<=bt p h:=by
 have q:=g.cr (p.n+p.m) k (by lia);rw[p.rhs k hk,Int.mul_one,sm,Bs_m]at q;have z:em p k=0:=if_neg (by lia);rw[z,Yd,Int.add_zero]at q;rw[znv,q];refine zro λr hr=>?_;rw[zhp hr];have h1:=g.rhs r hr;have h2:=p.nn (g.lt r hr) hk;refine Int.mul_le_mul_of_nonneg_left ?_ h1;split
 ·exact Int.le_refl _
 ·exact h2
theorem cover (hc:c<p.n)(hn:0<=tb p h p.m c):bt p h<=sm p.m λk=>p.col c k*tb p h p.m (p.n+k):=by
 have q:=zhq (p:=p) (h:=h) (c:=c) (Xf p.m);rw[if_pos rfl,p.low c hc]at q;lia
theorem both (g:Gd p h):(sm p.m λk=>tb p h p.m (p.n+k))=sm p.n λc=>pr p h c:=by
 have q:=zhq (p:=p) (h:=h) (c:=p.n+p.m) (Xf p.m);rw[if_pos rfl,p.rhsm,YO,Int.add_zero,zau (g:=λk=>tb p h p.m (p.n+k)) λk hk=>by rw[p.rhs k hk,Int.one_mul]]at q;have r:=g.cr (p.n+p.m) p.m (Xf _);rw[p.rhsm,Yd,sm,Bs_m,show em p p.m=1 from if_pos rfl,Int.mul_one]at r;have s:=znv (p:=p) (h:=h) λ_=>1;rw[zau (g:=λc=>pr p h c) λc _=>Int.one_mul _]at s;rw[<- q,s];have e:(sm p.m λr=>tb p h r (p.n+p.m)*Bs p h r p.m)=sm p.m λr=>(-1)*(tb p h r (p.n+p.m)*if h.getD r 0<p.n then 1 else 0)+0*0:=zau λr hr=>by
  rw[zhp hr];split
  ·rename_i z;rw[p.low _ z];lia
  ·rename_i z
   have:=p.spare (h.getD r 0-p.n) (by have:=g.lt r hr;lia) p.m (Xf _);rw[show p.n+(h.getD r 0-p.n)=h.getD r 0 by lia,if_neg (by have:=g.lt r hr;lia)]at this;rw[this];lia
 rw[e,zcv (g:=λ_=>0)]at r;lia
noncomputable def code:List Nat->Nat
 | []=>0
 | x::l=>x+16*code l
theorem zlG:∀ {l:List Nat},(∀x∈l,x<16)->code l<16 ^ l.length
 | [],_=>by decide
 | x::l,h=>by
  have h1:=h x Xm;have h2:=zlG λy hy=>h y (Xh _ hy);rw[code,XM,Nat.pow_succ];lia
theorem code_inj:∀ {l m:List Nat},l.length=m.length->(∀x∈l,x<16)->(∀x∈m,x<16)->code l=code m->l=m
 | [],[],_,_,_,_=>rfl
 | x::l,y::m,hl,h1,h2,e=>by
  rw[code,code]at e;have a:=h1 x Xm;have b:=h2 y Xm;have:x=y:=by lia
  subst this;rw[code_inj (Nat.succ.inj hl) (λz hz=>h1 z (Xh _ hz)) (λz hz=>h2 z (Xh _ hz)) (by lia)]
theorem znw:∀ {b t:Nat}{g:Nat->Nat},(∀s,s<t->g s<b)->(∀s u,s<u->u<t->g s≠g u)->t<=b
 | 0,t,g,h1,h2=>Nat.le_of_not_lt λz=>absurd (h1 0 z) (Nat.not_lt_zero _)
 | b+1,0,g,h1,h2=>Yf _
 | b+1,t+1,g,h1,h2=>by
  have:=znw (b:=b) (t:=t) (g:=λs=>if g s=b then g t else g s) (λs hs=>?_) (λs u hsu hu=>?_)
  ·lia
  ·have q1:=h1 s (by lia);have q2:=h1 t (by lia);have q3:=h2 s t hs (by lia);show(if g s=b then g t else g s)<b
   split<;>lia
  ·have q1:=h2 s u hsu (by lia);have q2:=h2 s t (by lia) (by lia);have q3:=h2 u t hu (by lia);show(if g s=b then g t else g s)≠if g u=b then g t else g u
   split<;>split<;>lia
theorem short {f:Nat->List Nat}{J I:Nat->Nat}{t:Nat}(hm:p.n+p.m<=16)(hg:∀s,s<t->Gd p (f s))(hJ:∀s,s<t->Ent p (f s) (J s))(hI:∀s,s<t->Lev p (f s) (J s) (I s))(hs:∀s,s+1<t->f (s+1)=(f s).set (I s) (J s)):t<=16 ^ p.m:=by
 have lt16:∀s,s<t->∀x∈f s,x<16:=λs h x hx=>by
  obtain⟨i,hi,e⟩:=List.getElem_of_mem hx;have:=(hg s h).lt i (by rw[<- (hg s h).len];exact hi);simp only[List.getD,Xl hi,Option.getD_some]at this;lia
 refine znw (g:=λs=>code (f s)) (λs h=>?_) (λs u hsu hu e=>?_)
 ·have:=zlG (lt16 s h);rw[(hg s h).len]at this;exact this
 ·have e:=code_inj (by rw[(hg s (by lia)).len,(hg u hu).len]) (lt16 s (by lia)) (lt16 u hu) e;exact zmT (p:=p) (f:=λv=>f (s+v)) (J:=λv=>J (s+v)) (I:=λv=>I (s+v)) (L:=u-s) (by lia) (λv hv=>hg _ (by lia)) (λv hv=>hJ _ (by lia)) (λv hv=>hI _ (by lia)) (λv hv=>hs (s+v) (by lia)) (by
   show f (s+(u-s))=f (s+0);rw[show s+(u-s)=u by lia];exact e.symm)
end
end M41
namespace K01
open PySem PySem.Spec PyProof.Rows
noncomputable def leS (a b:Str):Prop:=a.cps.toList<=b.cps.toList
theorem zlH {a b c:Str}(h1:leS a b)(h2:leS b c):leS a c:=List.le_trans h1 h2
theorem zhr {a b:Str}(h1:leS a b)(h2:leS b a):a=b:=by
 have e:a.cps.toList=b.cps.toList:=List.le_antisymm h1 h2;cases a;cases b;simp only[Str.mk.injEq];exact Array.toList_inj.mp e
theorem zqu {a b:Str}(h:ltCps b.cps.toList a.cps.toList=false):leS a b:=by
 rw[ltCps_eq]at h;exact List.not_lt.mp (of_decide_eq_false h)
theorem zhs:∀(p:Str)(l:List Str),risingS p l=true->(p::l).Pairwise leS
 | p,[],_=>List.pairwise_singleton _ _
 | p,x::r,h=>by
  have h':(!ltCps x.cps.toList p.cps.toList&&risingS x r)=true:=h;rw[Yp]at h';have h1:leS p x:=zqu (by simpa using h'.1);have ih:=zhs x r h'.2;refine List.pairwise_cons.mpr ⟨λy hy=>?_,ih⟩;rcases Xo.mp hy with e | hy
  ·rw[e];exact h1
  ·exact zlH h1 ((List.pairwise_cons.mp ih).1 y hy)
theorem zht:∀(l:List Str),sortedS l=true->l.Pairwise leS
 | [],_=>List.Pairwise.nil
 | x::r,h=>zhs x r h
theorem zfU:∀ {xs ys:List Str},xs.Pairwise leS->ys.Pairwise leS->xs.Nodup->ys.Nodup->(∀x,x∈xs↔x∈ys)->xs=ys
 | [],[],_,_,_,_,_=>rfl
 | [],y::ys,_,_,_,_,h=>absurd ((h y).mpr Xm) (by simp)
 | x::xs,[],_,_,_,_,h=>absurd ((h x).mp Xm) (by simp)
 | x::xs,y::ys,p,q,n,m,h=>by
  obtain⟨p1,p2⟩:=List.pairwise_cons.mp p;obtain⟨q1,q2⟩:=List.pairwise_cons.mp q;obtain⟨n1,n2⟩:=Yg.mp n;obtain⟨m1,m2⟩:=Yg.mp m;have e:x=y:=by
   rcases Xo.mp ((h x).mp Xm)with e | hx
   ·exact e
   ·rcases Xo.mp ((h y).mpr Xm)with e | hy
    ·exact e.symm
    ·exact zhr (p1 y hy) (q1 x hx)
  subst e;rw[zfU p2 q2 n2 m2 λz=>?_];constructor
  ·intro hz;rcases Xo.mp ((h z).mp (Xh _ hz))with e | hz'
   ·subst e;exact absurd hz n1
   ·exact hz'
  ·intro hz;rcases Xo.mp ((h z).mpr (Xh _ hz))with e | hz'
   ·subst e;exact absurd hz m1
   ·exact hz'
end K01
namespace PL
open PySem PySem.Spec L2
open PyProof.Rows hiding St
noncomputable abbrev PFB:=List PV->(List PV->Prop)->Prop
noncomputable abbrev TXS:=(Addr->Prop)->TPS
noncomputable abbrev TXE:=(Addr->Prop)->TPE
noncomputable abbrev PFX:=List PV->(PV->Kd->Prop)->(Addr->Prop)->Prop
noncomputable abbrev TXI:=(Addr->Prop)->TPI
section
variable {X:Cx}{o e a b:Expr}{to te ta tb:TPE}{es:List Expr}{t:TPA}{p pos apos cpos:Pos}
noncomputable def fAny:PF:=λds Q=>∃bs:List Bool,ds=[.lst (bs.map PV.bl)]/\Q (.bl (bs.any id)) .frz
end
end PL
namespace Q41
open PySem PySem.Spec L2 PL
open PyProof.Rows hiding St
noncomputable def top (i:Nat):Stmt:=PySem.Challenge.pw_joinwood_k41_weights.main.body.getD i (.Pass ⟨0,0,0,0⟩)
noncomputable abbrev zaI:Stmt:=top 1
noncomputable abbrev zat:Stmt:=top 3
noncomputable abbrev sGcd:Stmt:=top 5
noncomputable abbrev zbk:Stmt:=top 6
noncomputable abbrev zdl:Stmt:=top 8
noncomputable abbrev zcg:Stmt:=top 9
noncomputable abbrev zbE:Stmt:=top 10
noncomputable abbrev zbl:Stmt:=top 11
noncomputable abbrev sAny:Stmt:=top 12
noncomputable abbrev zfE:Stmt:=top 13
noncomputable abbrev zgA:Stmt:=top 14
noncomputable abbrev zdW:Stmt:=top 15
noncomputable abbrev zbm:Stmt:=top 16
noncomputable abbrev zbL:Stmt:=top 17
noncomputable abbrev zbM:Stmt:=top 18
noncomputable abbrev zcB:Stmt:=top 19
noncomputable abbrev zcW:Stmt:=top 20
noncomputable abbrev sLaw:Stmt:=top 21
noncomputable abbrev zdm:Stmt:=(zcj (top 4)).getD 0 (.Pass ⟨0,0,0,0⟩)
noncomputable abbrev sCol:Stmt:=(zcj (top 4)).getD 1 (.Pass ⟨0,0,0,0⟩)
noncomputable abbrev zbV:Stmt:=(zcj (top 4)).getD 2 (.Pass ⟨0,0,0,0⟩)
noncomputable abbrev zfF:Stmt:=(zcj (top 4)).getD 3 (.Pass ⟨0,0,0,0⟩)
noncomputable abbrev zaX:Stmt:=(zcj (top 4)).getD 4 (.Pass ⟨0,0,0,0⟩)
noncomputable abbrev zfp:Stmt:=(zcj (top 4)).getD 5 (.Pass ⟨0,0,0,0⟩)
noncomputable abbrev zcC:Stmt:=(zcj (top 4)).getD 6 (.Pass ⟨0,0,0,0⟩)
noncomputable abbrev zdn:Stmt:=(zcj (top 4)).getD 7 (.Pass ⟨0,0,0,0⟩)
noncomputable abbrev zck:Stmt:=(zcj (top 4)).getD 8 (.Pass ⟨0,0,0,0⟩)
noncomputable abbrev zcD:Stmt:=(zcj (top 4)).getD 9 (.Pass ⟨0,0,0,0⟩)
theorem take_snoc {α:Type}{l:List α}{i:Nat}{o:α}(h:l[i]? = some o):l.take i++[o]=l.take (i+1):=by rw[List.take_add_one,h];rfl
theorem zcw (n:Nat)(ss:List Str):(ss.map PV.str).all (PL.plain n)=true:=by
 rw[XY];intro d hd;obtain⟨x,_,rfl⟩:=XW.mp hd;cases n<;>rfl
theorem zch {x:Str}{r:List Str}:PV.str x∈r.map PV.str↔x∈r:=by simp
noncomputable def ltsP (ls:List Str):PV:=.tup (ls.map PV.str)
noncomputable def shpP (sh:List (List Str)):PV:=.lst (sh.map ltsP)
structure Names (sh:List (List Str))(ns:List Str):Prop where
 nd:ns.Nodup
 mem:∀x,x∈ns↔∃p∈sh,x∈p
 srt:sortedS ns=true
theorem Names.uniq {sh:List (List Str)}{a b:List Str}(h1:Names sh a)(h2:Names sh b):a=b:=
 K01.zfU (K01.zht a h1.srt) (K01.zht b h2.srt) h1.nd h2.nd λx=>(h1.mem x).trans (h2.mem x).symm
structure Shp (sh:List (List Str)):Prop where
 m1:1<=sh.length
 m6:sh.length<=6
 wid:∀p∈sh,p.length<=4
 six:∀ns:List Str,ns.Nodup->(∀x∈ns,∃p∈sh,x∈p)->ns.length<=6
noncomputable def zav:PF:=λds Q=>∃sh:List (List Str),ds=[shpP sh]/\Shp sh/\∀zs:List Str,Names sh zs->Q (.lst (zs.map PV.str)) .new
theorem zfG:zaU zav:=λds Q Q' m q136q=>by obtain⟨sh,e,h1,q⟩:=q136q;exact⟨sh,e,h1,λzs g=>m _ _ (q zs g)⟩
noncomputable def zaJ (sh:List (List Str))(L:List Str)(c k:Nat):Int:=
 if c<L.length then if k<sh.length then if L.getD c Str.empty∈sh.getD k [] then 1 else 0 else -1
 else if c<L.length+sh.length then if k=c-L.length then 1 else 0 else if k<sh.length then 1 else 0
noncomputable def pbOf {sh:List (List Str)}{L:List Str}(h:Names sh L):M41.Pb where
 m:=sh.length
 n:=L.length
 col:=zaJ sh L
 spare k hk j hj:=by unfold zaJ;rw[if_neg (by lia),if_pos (by lia),show L.length+k-L.length=k by lia]
 rhs k hk:=by unfold zaJ;rw[if_neg (by lia),if_neg (by lia),if_pos hk]
 rhsm:=by unfold zaJ;rw[if_neg (by lia),if_neg (by lia),if_neg (by lia)]
 bin c hc k hk:=by
  unfold zaJ;rw[if_pos hc,if_pos hk];split
  ·exact .inr rfl
  ·exact .inl rfl
 low c hc:=by unfold zaJ;rw[if_pos hc,if_neg (by lia)]
 has c hc:=by
  have e:L[c]? = some (L.getD c Str.empty):=by rw[XL,Xl hc];rfl
  obtain⟨p,hp,hx⟩:=(h.mem _).mp (XI e);obtain⟨k,hk,hg⟩:=List.getElem_of_mem hp;refine⟨k,hk,?_⟩;unfold zaJ;rw[if_pos hc,if_pos hk,if_pos];rw[show sh.getD k []=p by rw[XL,Xl hk,hg];rfl];exact hx
noncomputable def rowC (p:M41.Pb)(g:Nat->Int):PV:=.lst (((Xp (p.n+p.m+1)).map g).map PV.int)
noncomputable def zhu (p:M41.Pb)(g:Nat->Nat->Int):PV:=.lst ((Xp (p.m+1)).map λr=>rowC p (g r))
noncomputable def zap:PF:=λds Q=>∃(sh:List (List Str))(L:List Str)(h:Names sh L),ds=[shpP sh,.lst (L.map PV.str)]/\Shp sh/\Q (zhu (pbOf h) λr c=>zaJ sh L c r) .new
theorem zfq:zaU zap:=λds Q Q' m q137q=>by obtain⟨a,b,c,e,h,q⟩:=q137q;exact⟨a,b,c,e,h,m _ _ q⟩
theorem zfr (n m:Nat)(g:Nat->Int):((Xp (n+m+1)).map g).map PV.int=(Xp n).map (λc=>PV.int (g c))++(Xp m).map (λj=>PV.int (g (n+j)))++[PV.int (g (n+m))]:=by
 rw[YN,Yc,List.range_add,Xn,Xn,YN];rfl
open Lean in
def puM:MacroM (TSyntax `tactic):=do
 let es<-("fCol zbn zdj zaS zdx zbo zcX zcY zbX zby fGcd zaN zbp zcx zbY zaO zbC zfH fAny zim zdY zfy zdd zde zcZ zea".splitOn " ").filterM λn=>return !(<-Macro.resolveGlobalName n.toName).isEmpty;let ls<-("pSeq pIdx fSum zcr zen zcm pSet pRet pIf zcN zbH mApp zem zbG zdL zbS zdM t2 i0 i2 pVar pC zaE pNil pTup pLst noOwn isOwn tBl blP zdg tOrP zef tTru zel TruP zeg zeh tIfE pEq pIn pIsN pIx ixV pCat PL.tB fLen LenP zdP zbI zcc fIsi NoT PL.isObj pFld zcq zbQ zaR pSlL zds zdu zcG zbr iLst zek zdS zdv zcd pSlS pFor zcp PL.plain zaD zcb blkP List.map_cons List.map_nil List.length_cons List.length_nil List.cons_append List.nil_append List.replicate List.getElem?_cons_zero List.getElem?_cons_succ List.getElem?_nil Option.getD_some Option.getD_none List.set_cons_zero List.set_cons_succ List.cons.injEq Option.some.injEq Prod.mk.injEq PV.int.injEq PV.bl.injEq PV.str.injEq PV.lst.injEq PV.tup.injEq PV.ty.injEq PV.dK.injEq exists_eq_left' exists_eq_left exists_eq' exists_eq exists_and_left exists_and_right exists_eq_right true_and and_true reduceCtorEq false_and and_false false_or or_false exists_false exists_const Bool.false_eq_true if_true if_false and_assoc ite_true ite_false Bool.not_eq_true' decide_eq_true_eq decide_eq_false_iff_not Bool.not_false Bool.not_true true_or or_true not_true_eq_false not_false_eq_true Bool.and_eq_true Nat.zero_add Nat.sub_self Nat.reduceAdd Nat.reduceSub implies_true ne_eq zbA zbe Bool.true_and Bool.and_true List.all_nil pFrz zdh pNeg zSeq zSet zce zeo zFld zPut zeq zct zer zes zbu zet triP zcu rSeq rRet zbt pLtT pPar ltsP shpP zav zap".splitOn " "++es).toArray.mapM λn=>`(Lean.Parser.Tactic.simpLemma|$(mkIdent n.toName):term)
 `(tactic|first|(dsimp only[$ls,*];try simp only[$ls,*])|simp only[$ls,*])
local macro_rules | `(tactic| walk_at "pu")=>puM
local macro_rules | `(tactic| walk_at "go")=>`(tactic| ((first | (with_reducible refine hold ?_) | (with_reducible refine zbK ?_) | (with_reducible refine holdB ?_));walk_at "pu"))
local macro_rules | `(tactic| walk_at "side")=>`(tactic| first | assumption | decide | lia | exact⟨by decide,by decide⟩ | exact⟨by decide,by decide,by decide⟩ | exact Or.inl ⟨by lia,by lia⟩ | exact Or.inr ⟨by lia,by lia⟩)
local macro_rules | `(tactic| walk_at "auto")=>`(tactic| repeat (first | ((with_reducible refine hold ?_);walk_at "pu") | ((with_reducible refine zbK ?_);walk_at "pu") | ((with_reducible refine And.intro ?_ ?_);(· walk_at "side"))))
section
variable {P:Program}{w:World}{K:Xa}{mg:Str->Option Value}{base:Heap}
theorem zfs:zan ["shape","found","letters"] ["shape"] (zac zaI):=⟨rfl,rfl,rfl,by decide +kernel,rfl,by decide +kernel,by decide +kernel⟩
theorem zhv {f:Addr}{fd:FuncData}(F:Fun K "letters_of" "letters_of" zaI f fd) (B:Bl mg):FnOk P w K mg base CX0 1 f fd ["shape"] (spP K zav):=by
 refine zax F zfs (λds Q q138q=>by obtain⟨c,e,_⟩:=q138q;rw[e];rfl) (λcdv A outer s H E hr=>?_);have hu:(A.deeper (envOfC "letters_of" (zac zaI) s.heap.objs.size f cdv)).units+16<cLine:=by have q:=hr.units;lia
 have nd:=zfs.nd;refine⟨_,(zad (zaj (i:=1) nd rfl (Or.inl rfl) (zbP zae))
   (zad (zbg rfl PassesOwn.never (zaH (zaa 0)) (zal (i:=2) nd rfl (Or.inl rfl)) (zag (zbi (zmz 1 (zaa 2)))))
   (zag (zao (zjM rfl rfl B.sorted rfl B.set (zaa 1)))))),λds Q h=>?_⟩
 obtain⟨sh,rfl,S,q⟩:=h;have h6:=S.m6;have h4:=S.wid;walk_at "pu";walk_at "auto";obtain⟨Iv,hIv⟩:∃Iv:Nat->PEnv->Prop,∀i ρ,Iv i ρ↔∃(fs:List Str) (kv:Option (PV×Bool)),ρ=[some (PV.lst (sh.map ltsP),false),some (PV.lst (fs.map PV.str),true),kv]/\fs.length<=4*i/\∀x,x∈fs↔∃p∈sh.take i,x∈p:=⟨_,λ_ _=>Iff.rfl⟩;refine⟨Iv,(hIv _ _).mpr ⟨[],none,rfl,Yf _,λx=>by simp⟩,?_,?_⟩
 ·intro i d ρ hd hI;obtain⟨fs,kv,rfl,l1,hm⟩:=(hIv _ _).mp hI;rw[Xk]at hd;cases hp:sh[i]? with
  | none=>rw[hp]at hd;cases hd
  | some p=>
   rw[hp]at hd;cases hd;have hil:i<sh.length:=(Xd.mp hp).1;have hle:=h4 p (XI hp);walk_at "go";refine⟨by rw[Xb,Xb,sizeLine_eq];lia,(hIv _ _).mpr ⟨fs++p,_,by rw[Xn],by rw[Xr];lia,λy=>?_⟩⟩;rw[XT,hm,List.take_add_one,hp];simp only[Option.toList_some,XT,XB];constructor
   ·rintro(⟨p,h1,h2⟩ | h)
    ·exact⟨p,.inl h1,h2⟩
    ·exact⟨_,.inr rfl,h⟩
   ·rintro⟨p,h1 | rfl,h2⟩
    ·exact .inl ⟨p,h1,h2⟩
    ·exact .inr h2
 ·intro ρ hI;obtain⟨fs,kv,rfl,l1,hm⟩:=(hIv _ _).mp hI;rw[Xb]at l1 hm;walk_at "go";refine⟨fs,rfl,by lia,λzs n1 n2 n3=>q zs ⟨n1,λx=>?_,n3⟩⟩;rw[n2,hm,XQ (Xf _)]
theorem zeD:zan ["shape","letters","lines","i","own","has","spare"] ["shape","letters"] (zac zat):=⟨rfl,rfl,rfl,by decide +kernel,rfl,by decide +kernel,by decide +kernel⟩
theorem zgB {f:Addr}{fd:FuncData}(F:Fun K "first_lines" "first_lines" zat f fd) (B:Bl mg):FnOk P w K mg base CX0 1 f fd ["shape","letters"] (spP K zap):=by
 refine zax F zeD (λds Q q139q=>by obtain⟨a,b,c,e,_⟩:=q139q;rw[e];rfl) (λcdv A outer s H E hr=>?_);have hu:(A.deeper (envOfC "first_lines" (zac zat) s.heap.objs.size f cdv)).units+16<cLine:=by have q:=hr.units;lia
 have nd:=zeD.nd;refine⟨_,(zad (zaj (i:=2) nd rfl (Or.inl rfl) (zbP zae))
   (zad (zbg rfl PassesOwn.never (ziS rfl B.enumerate (zaa 0)) (zhZ (n:=2) rfl (zco (zal (i:=3) nd rfl (Or.inr rfl)) (zco (zal (i:=4) nd rfl (Or.inr rfl)) zgl))) (zad (zeJ (i:=5) (N:=["letter","own"]) (k:=1) (js:=[4]) rfl (zdE (sup:=zac zat) (XN:=["shape","letters","lines","i","own","has","spare"]) rfl rfl (by decide +kernel)) (by decide) (zaP (by decide)) (zaH (zaa 1)) ⟨λ_ _ _ _ _=>(zal (i:=0) (by show(["letter","own"]:List Str).Nodup;decide +kernel) rfl (Or.inl rfl)),λ_ _ _ _ _=>zbh,λ_ _ _ _ _=>(zgk (ziL hu (zaa 0) (zaa 1)) zaf zaf)⟩ nd rfl rfl)
   (zad (zeJ (i:=6) (N:=["j","i"]) (k:=1) (js:=[3]) rfl (zdE (sup:=zac zat) (XN:=["shape","letters","lines","i","own","has","spare"]) rfl rfl (by decide +kernel)) (by decide) (zaP (by decide)) (zaQ rfl B.range (zab (zaF rfl B.len (zab (zaa 0) zae)) zae)) ⟨λ_ _ _ _ _=>(zal (i:=0) (by show(["j","i"]:List Str).Nodup;decide +kernel) rfl (Or.inl rfl)),λ_ _ _ _ _=>zbh,λ_ _ _ _ _=>(zgk (zdO hu (zaa 0) (zaa 1)) zaf zaf)⟩ nd rfl rfl)
   (zag (zbi (zba 2 (zcQ (zcQ (zaa 5) (zaa 6)) (zbP (zab zaf zae)))))))))
   (zad (zbi (zba 2 (zcQ (zcQ (zbT (N:=["letter"]) (k:=1) (js:=[]) rfl (zdE (sup:=zac zat) (XN:=["shape","letters","lines","i","own","has","spare"]) rfl rfl (by decide +kernel)) (by decide) (zaP (by decide)) (zaH (zaa 1)) ⟨λ_ _ _ _ _=>(zal (i:=0) (by show(["letter"]:List Str).Nodup;decide +kernel) rfl (Or.inl rfl)),λ_ _ _ _ _=>zbh,λ_ _ _ _ _=>(zfl zaf)⟩) (zbT (N:=["own"]) (k:=1) (js:=[]) rfl (zdE (sup:=zac zat) (XN:=["shape","letters","lines","i","own","has","spare"]) rfl rfl (by decide +kernel)) (by decide) (zaP (by decide)) (zaH (zaa 0)) ⟨λ_ _ _ _ _=>(zal (i:=0) (by show(["own"]:List Str).Nodup;decide +kernel) rfl (Or.inl rfl)),λ_ _ _ _ _=>zbh,λ_ _ _ _ _=>zaf⟩)) (zbP (zab zaf zae)))))
   (zag (zao (zaa 2)))))),λds Q h=>?_⟩
 obtain⟨sh,L,hN,rfl,S,q⟩:=h;have h6:=S.m6;have hL:=S.six L hN.nd λx hx=>(hN.mem x).mp hx;have hsz:=sizeLine_eq;walk_at "pu";walk_at "auto";obtain⟨Iv,hIv⟩:∃Iv:Nat->PEnv->Prop,∀i ρ,Iv i ρ↔∃(k1 k2 k3 k4:Option (PV×Bool)),ρ=[some (PV.lst (XV ltsP sh),false),some (PV.lst (XV PV.str L),false),some (PV.lst ((Xp i).map λr=>rowC (pbOf hN) λc=>zaJ sh L c r),true),k1,k2,k3,k4]:=⟨_,λ_ _=>Iff.rfl⟩;refine⟨Iv,(hIv _ _).mpr ⟨_,_,_,_,rfl⟩,?_,?_⟩
 ·intro i d ρ hd hI;obtain⟨k1,k2,k3,k4,rfl⟩:=(hIv _ _).mp hI;obtain⟨x,hx,rfl⟩:=zfj hd;rw[Xk]at hx;cases hp:sh[i]? with
  | none=>rw[hp]at hx;cases hx
  | some p=>
   rw[hp]at hx;cases hx;have hi:=(Xd.mp hp).1;have hg:sh.getD i []=p:=by rw[XL,hp];rfl
   refine⟨_,rfl,rfl,_,_,rfl,_,_,rfl,rfl,?_⟩;walk_at "go";refine⟨by rw[Xb];lia,λk out=>out=(Xp k).map λc=>PV.int (zaJ sh L c i),rfl,?_,?_⟩
   ·rintro k d out hd-rfl;rw[Xk]at hd;cases hl:L[k]? with
    | none=>rw[hl]at hd;cases hd
    | some l=>
     rw[hl]at hd;cases hd;have hk:=(Xd.mp hl).1;have hc:zaJ sh L k i=if l∈p then 1 else 0:=by
      unfold zaJ;rw[if_pos hk,if_pos hi,hg,XL,hl];rfl
     refine⟨rfl,zcw _ _,?_⟩;have hz:∀z:Int,zaJ sh L k i=z->(Xp k).map (λc=>PV.int (zaJ sh L c i))++[PV.int z]=(Xp (k+1)).map λc=>PV.int (zaJ sh L c i):=λz e=>by rw[Yc,Xn,List.map_singleton,e]
     refine ite2 (λe=>hz 1 ?_) (λe=>hz 0 ?_)
     ·rw[hc,if_pos (zch.mp e)]
     ·rw[hc,if_neg λz=>e (zch.mpr z)]
   ·rintro out-rfl;walk_at "go";simp only[Xb,zbf];refine⟨by lia,by lia,by lia,λk out=>out=(Xp k).map λj=>PV.int (zaJ sh L (L.length+j) i),rfl,?_,?_⟩
    ·rintro k d out hd-rfl;obtain⟨hk,rfl⟩:=zbz hd;have hc:zaJ sh L (L.length+k) i=if i=k then 1 else 0:=by
      unfold zaJ;rw[if_neg (by lia),if_pos (by lia),show L.length+k-L.length=k by lia]
     have hz:∀z:Int,zaJ sh L (L.length+k) i=z->(Xp k).map (λj=>PV.int (zaJ sh L (L.length+j) i))++[PV.int z]=(Xp (k+1)).map λj=>PV.int (zaJ sh L (L.length+j) i):=λz e=>by rw[Yc,Xn,List.map_singleton,e]
     refine⟨rfl,ite2 (λe=>hz 1 ?_) (λe=>hz 0 ?_)⟩
     ·have:=PV.int.inj e;rw[hc,if_pos (by lia)]
     ·rw[hc,if_neg λz=>e (by rw[z,Int.zero_add])]
    ·rintro out-rfl;walk_at "go";simp only[Xb,Xz,Xr];have e:(Xp i).map (λr=>rowC (pbOf hN) λc=>zaJ sh L c r)++[PV.lst ((Xp L.length).map (λc=>PV.int (zaJ sh L c i))++(Xp (sh.length:Int).toNat).map (λj=>PV.int (zaJ sh L (L.length+j) i))++[PV.int 1])]=(Xp (i+1)).map λr=>rowC (pbOf hN) λc=>zaJ sh L c r:=by
      rw[Yc,Xn,List.map_singleton,XH]
      congr 2
      unfold rowC;rw[zfr];show _=PV.lst (_++_++[PV.int (zaJ sh L (L.length+sh.length) i)]);rw[show zaJ sh L (L.length+sh.length) i=1 from(pbOf hN).rhs i hi];rfl
     rw[e];exact⟨by lia,by lia,by lia,by lia,(hIv _ _).mpr ⟨_,_,_,_,rfl⟩⟩
 ·intro ρ hI;obtain⟨k1,k2,k3,k4,rfl⟩:=(hIv _ _).mp hI;walk_at "go";rw[zfk];simp only[Xb,Xz,Xr];refine⟨by lia,by lia,λk out=>out=(Xp k).map λc=>PV.int (-1),rfl,?_,?_⟩
  ·rintro k d out hd-rfl;show _=_;rw[Yc,Xn];rfl
  ·rintro out-rfl;refine⟨by lia,λk out=>out=(Xp k).map λc=>PV.int 0,rfl,?_,?_⟩
   ·rintro k d out hd-rfl;show _=_;rw[Yc,Xn];rfl
   ·rintro out-rfl;simp only[Xb,Xz];refine⟨by lia,by lia,by lia,?_⟩;walk_at "go";have e:(Xp sh.length).map (λr=>rowC (pbOf hN) λc=>zaJ sh L c r)++[PV.lst ((Xp L.length).map (λc=>PV.int (-1))++(Xp sh.length).map (λc=>PV.int 0)++[PV.int 0])]=(Xp (sh.length+1)).map λr=>rowC (pbOf hN) λc=>zaJ sh L c r:=by
     rw[Yc,Xn,List.map_singleton]
     congr 2
     unfold rowC;rw[zfr];show _=PV.lst (_++_++[PV.int (zaJ sh L (L.length+sh.length) sh.length)]);rw[show zaJ sh L (L.length+sh.length) sh.length=0 from(pbOf hN).rhsm]
     congr 3
     ·exact YH λc hc=>congrArg PV.int ((pbOf hN).low c (Yl.mp hc)).symm
     ·refine YH λc hc=>congrArg PV.int ?_;have hc:=Yl.mp hc;show 0=zaJ sh L (L.length+c) sh.length;unfold zaJ;rw[if_neg (by lia),if_pos (by lia),if_neg (by lia)]
    rw[e];exact q
end
open M41 (Pb Gd tb bt Ent Lev)
structure TF (K:Xa)(C:Addr):Prop where
 c:Cls K C
 width:zbF K C "width"
 bottom:zbF K C "bottom"
 lines:zbF K C "lines"
 held:zbF K C "held"
noncomputable abbrev bks:List Str:=["width","bottom","lines"]
noncomputable def brdD (p:Pb)(h:List Nat):List PV:=[.int p.n,.int (bt p h),zhu p (tb p h)]
noncomputable def zbw (h:List Nat):List Int:=h.map λ(k:Nat)=>(k:Int)
noncomputable def brdP (C:Addr)(p:Pb)(h:List Nat):PV:=objOf C bks "held" (brdD p h) (zbw h)
structure Sm (p:Pb):Prop where
 m1:1<=p.m
 m6:p.m<=6
 n6:p.n<=6
theorem zfV {p:Pb}{g:Nat->Int}{c:Nat}(h:c<=p.n+p.m):atI (((Xp (p.n+p.m+1)).map g).map PV.int) ((c:Nat):Int)=some (.int (g c)):=zaB (by simp[Yi (show c<p.n+p.m+1 by lia)])
theorem zgC {p:Pb}{g:Nat->Int}:atI (((Xp (p.n+p.m+1)).map g).map PV.int) (-1)=some (.int (g (p.n+p.m))):=by
 rw[Yc,Xn,Xn];exact L2.ziw _ _
theorem zdw {p:Pb}{g:Nat->Nat->Int}{r:Nat}(h:r<=p.m):atI ((Xp (p.m+1)).map λr=>rowC p (g r)) ((r:Nat):Int)=some (rowC p (g r)):=zaB (by simp[Yi (show r<p.m+1 by lia)])
theorem zhw {p:Pb}{g:Nat->Nat->Int}:atI ((Xp (p.m+1)).map λr=>rowC p (g r)) (-1)=some (rowC p (g p.m)):=by
 rw[Yc,Xn];exact L2.ziw _ _
theorem zgD {p:Pb}{h:List Nat}(G:Gd p h){i:Nat}(hi:i<p.m):atI ((zbw h).map PV.int) ((i:Nat):Int)=some (.int (h.getD i 0:Nat)):=by
 have hl:i<h.length:=by rw[G.len];exact hi
 refine zaB ?_;unfold zbw;rw[Xk,Xk,XL,Xl hl];rfl
noncomputable def fCol (C:Addr):PF:=λds Q=>∃(p:Pb)(h:List Nat),ds=[brdP C p h]/\Gd p h/\Sm p/\(∀j:Nat,Ent p h j->Q (.int j) .frz)/\((∀c,c<p.n+p.m->0<=tb p h p.m c)->Q .non .frz)
theorem zjd {C:Addr}:zaU (fCol C):=λds Q Q' m q140q=>by obtain⟨a,b,e,h1,h2,q1,q2⟩:=q140q;exact⟨a,b,e,h1,h2,λj h=>m _ _ (q1 j h),λh=>m _ _ (q2 h)⟩
noncomputable def soon (p:Pb)(h:List Nat)(i k j:Nat):Bool:=HT.lexLt [tb p h i (p.n+p.m)*tb p h k j,(h.getD i 0:Nat)] [tb p h k (p.n+p.m)*tb p h i j,(h.getD k 0:Nat)]
theorem zje {p:Pb}{h:List Nat}{i k j:Nat}:soon p h i k j=true↔tb p h i (p.n+p.m)*tb p h k j<tb p h k (p.n+p.m)*tb p h i j\/(tb p h i (p.n+p.m)*tb p h k j=tb p h k (p.n+p.m)*tb p h i j/\h.getD i 0<h.getD k 0):=by
 unfold soon;rw[HT.zec,HT.zec,HT.zdC];generalize tb p h i (p.n+p.m)*tb p h k j=a;generalize tb p h k (p.n+p.m)*tb p h i j=b;split
 ·split
  ·rw[XU,false_iff];lia
  ·rw[decide_eq_true_eq];lia
 ·rw[decide_eq_true_eq];lia
noncomputable def sle (p:Pb)(h:List Nat)(j i r:Nat):Prop:=tb p h i (p.n+p.m)*tb p h r j<tb p h r (p.n+p.m)*tb p h i j\/(tb p h i (p.n+p.m)*tb p h r j=tb p h r (p.n+p.m)*tb p h i j/\h.getD i 0<=h.getD r 0)
theorem zqv {p:Pb}{h:List Nat}{j k i r:Nat}(hk:0<tb p h k j)(hi:0<tb p h i j)(hr:0<tb p h r j)(h1:sle p h j k i)(h2:sle p h j i r):sle p h j k r:=by
 unfold sle at *;have e1:=M41.ratio (a:=tb p h k (p.n+p.m)) (b:=tb p h k j) (c:=tb p h i (p.n+p.m)) (d:=tb p h i j) (e:=tb p h r (p.n+p.m)) (f:=tb p h r j) hi hr hk;have e2:=M41.zgz (a:=tb p h k (p.n+p.m)) (b:=tb p h k j) (c:=tb p h i (p.n+p.m)) (d:=tb p h i j) (e:=tb p h r (p.n+p.m)) (f:=tb p h r j) hi hr hk;have e3:=M41.ratio (a:=tb p h r (p.n+p.m)) (b:=tb p h r j) (c:=tb p h i (p.n+p.m)) (d:=tb p h i j) (e:=tb p h k (p.n+p.m)) (f:=tb p h k j) hi hk hr;rcases h1 with h1 | ⟨h1,g1⟩
 ·exact .inl (e2 (.inl ⟨h1,h2.elim YI λz=>Int.le_of_eq z.1⟩))
 ·rcases h2 with h2 | ⟨h2,g2⟩
  ·exact .inl (e2 (.inr ⟨Int.le_of_eq h1,h2⟩))
  ·exact .inr ⟨Int.le_antisymm (e1 (Int.le_of_eq h1) (Int.le_of_eq h2)) (e3 (Int.le_of_eq h2.symm) (Int.le_of_eq h1.symm)),Yu g1 g2⟩
structure LevK (p:Pb)(h:List Nat)(j k i:Nat):Prop where
 lt:i<k
 pos:0<tb p h i j
 best:∀r,r<k->0<tb p h r j->sle p h j i r
theorem LevK.keep {p:Pb}{h:List Nat}{j k i:Nat}(L:LevK p h j k i)(e:¬ 0<tb p h k j\/¬ soon p h k i j=true):LevK p h j (k+1) i:=by
 refine⟨XR L.lt,L.pos,λr hr hp=>?_⟩;by_cases z:r=k
 ·subst z;rcases e with e | e
  ·exact absurd hp e
  ·rw[zje]at e;unfold sle;lia
 ·exact L.best r (by lia) hp
theorem LevK.new {p:Pb}{h:List Nat}{j k i:Nat}(L:LevK p h j k i)(hk:0<tb p h k j)(e:soon p h k i j=true):LevK p h j (k+1) k:=by
 have h1:sle p h j k i:=by
  rw[zje]at e;unfold sle;lia
 refine⟨XO k,hk,λr hr hp=>?_⟩;by_cases z:r=k
 ·subst z;exact .inr ⟨rfl,Xf _⟩
 ·exact zqv hk L.pos hp h1 (L.best r (by lia) hp)
noncomputable def zbn (C:Addr):PF:=λds Q=>∃(p:Pb)(h:List Nat)(i k j:Nat),ds=[brdP C p h,.int i,.int k,.int j]/\Gd p h/\Sm p/\i<p.m/\k<p.m/\j<p.n+p.m/\Q (.bl (soon p h i k j)) .frz
theorem zif {C:Addr}:zaU (zbn C):=λds Q Q' m q141q=>by obtain⟨a,b,c,d,e,f,h1,h2,h3,h4,h5,q⟩:=q141q;exact⟨a,b,c,d,e,f,h1,h2,h3,h4,h5,m _ _ q⟩
noncomputable def zdj (C:Addr):PF:=λds Q=>∃(p:Pb)(h:List Nat)(j:Nat),ds=[brdP C p h,.int j]/\Gd p h/\Sm p/\j<p.n+p.m/\∀i:Nat,Lev p h j i->Q (.int i) .frz
theorem zlI {C:Addr}:zaU (zdj C):=λds Q Q' m q142q=>by obtain⟨a,b,c,e,h1,h2,h3,q⟩:=q142q;exact⟨a,b,c,e,h1,h2,h3,λi h=>m _ _ (q i h)⟩
section
variable {P:Program}{w:World}{K:Xa}{mg:Str->Option Value}{base:Heap}
theorem zqw:zan ["self","column","gain"] ["self"] (zac sCol):=⟨rfl,rfl,rfl,by decide +kernel,rfl,by decide +kernel,by decide +kernel⟩
theorem zqx {C f:Addr}{fd:FuncData}(F:Fun K "column_to_raise" "Board.column_to_raise" sCol f fd) (T:TF K C) (B:Bl mg):FnOk P w K mg base CX0 1 f fd ["self"] (spP K (fCol C)):=by
 refine zax F zqw (λds Q q143q=>by obtain⟨a,b,e,_⟩:=q143q;rw[e];rfl) (λcdv A outer s H E hr=>?_);have hu:(A.deeper (envOfC "Board.column_to_raise" (zac sCol) s.heap.objs.size f cdv)).units+16<cLine:=by have q:=hr.units;lia
 have nd:=zqw.nd;refine⟨_,(zad (zbg rfl PassesOwn.never (ziS rfl B.enumerate (zah (zaV T.c T.lines (zaa 0)) (zfl zaf))) (zhZ (n:=2) rfl (zco (zal (i:=1) nd rfl (Or.inl rfl)) (zco (zal (i:=2) nd rfl (Or.inl rfl)) zgl))) (zag (zbB (zfg (zaa 2) zaf) (zag (zao (zaa 1))) zaA)))
   (zag (zao zha))),λds Q h=>?_⟩
 obtain⟨p,h,rfl,G,S,q1,q2⟩:=h;have hsz:=sizeLine_eq;walk_at "pu";refine⟨_,_,rfl,_,rfl,_,.inl ⟨_,.inl rfl,zhw⟩,_,rfl,?_⟩;obtain⟨Iv,hIv⟩:∃Iv:Nat->PEnv->Prop,∀i ρ,Iv i ρ↔∃(k1 k2:Option (PV×Bool)),ρ=[some (brdP C p h,false),k1,k2]/\∀c,c<i->0<=tb p h p.m c:=⟨_,λ_ _=>Iff.rfl⟩;refine⟨Iv,(hIv _ _).mpr ⟨_,_,rfl,λc hc=>absurd hc (Nat.not_lt_zero _)⟩,?_,?_⟩
 ·intro i d ρ hd hI;obtain⟨k1,k2,rfl,hnn⟩:=(hIv _ _).mp hI;obtain⟨x,hx,rfl⟩:=zfj hd;have hi:i<p.n+p.m+1:=by
   have:=(Xd.mp hx).1;simpa using this
  have hx':x=.int (tb p h p.m i):=by
   rw[Xk,Xk,Yi hi]at hx;exact(Option.some.inj hx).symm
  subst hx';refine⟨_,rfl,rfl,_,_,rfl,_,_,rfl,rfl,?_⟩;walk_at "go";refine ite2 (λe=>?_) (λe=>?_)
  ·walk_at "go";refine q1 i ⟨?_,e,hnn⟩;by_cases z:i=p.n+p.m
   ·have:=M41.zqt G;rw[z]at e;lia
   ·lia
  ·walk_at "go";refine(hIv _ _).mpr ⟨_,_,rfl,λc hc=>?_⟩;by_cases z:c=i
   ·subst z;lia
   ·exact hnn c (by lia)
 ·intro ρ hI;obtain⟨k1,k2,rfl,hnn⟩:=(hIv _ _).mp hI;rw[zfk,Xb,Xb,Xz]at hnn;walk_at "go";exact q2 λc hc=>hnn c (by lia)
theorem zjf:zan ["self","i","j","column","one","other"] ["self","i","j","column"] (zac zbV):=⟨rfl,rfl,rfl,by decide +kernel,rfl,by decide +kernel,by decide +kernel⟩
theorem zlJ {C f:Addr}{fd:FuncData}(F:Fun K "ends_sooner" "Board.ends_sooner" zbV f fd) (T:TF K C) (B:Bl mg):FnOk P w K mg base CX0 1 f fd ["self","i","j","column"] (spP K (zbn C)):=by
 refine zax F zjf (λds Q q144q=>by obtain⟨a,b,c,d,e,h,_⟩:=q144q;rw[h];rfl) (λcdv A outer s H E hr=>?_);have hu:(A.deeper (envOfC "Board.ends_sooner" (zac zbV) s.heap.objs.size f cdv)).units+16<cLine:=by have q:=hr.units;lia
 have nd:=zjf.nd;refine⟨_,(zad (zaj (i:=4) nd rfl (Or.inl rfl) (zcF (zah (zah (zaV T.c T.lines (zaa 0)) (zaa 1)) (zfl zaf)) (zah (zah (zaV T.c T.lines (zaa 0)) (zaa 2)) (zaa 3))))
   (zad (zaj (i:=5) nd rfl (Or.inl rfl) (zcF (zah (zah (zaV T.c T.lines (zaa 0)) (zaa 2)) (zfl zaf)) (zah (zah (zaV T.c T.lines (zaa 0)) (zaa 1)) (zaa 3))))
   (zag (zao (zqo hu (zkS (zab (zaa 4) (zab (zah (zaV T.c T.held (zaa 0)) (zaa 1)) zae))) (zkS (zab (zaa 5) (zab (zah (zaV T.c T.held (zaa 0)) (zaa 2)) zae)))))))),λds Q h=>?_⟩
 obtain⟨p,h,i,k,j,rfl,G,S,hi,hk,hj,q⟩:=h;have hsz:=sizeLine_eq;walk_at "pu";have b1:=G.small S.m6 (show i<=p.m by lia) (show p.n+p.m<=p.n+p.m by lia);have b2:=G.small S.m6 (show k<=p.m by lia) (show j<=p.n+p.m by lia);have b3:=G.small S.m6 (show k<=p.m by lia) (show p.n+p.m<=p.n+p.m by lia);have b4:=G.small S.m6 (show i<=p.m by lia) (show j<=p.n+p.m by lia);refine⟨_,_,rfl,_,rfl,_,.inl ⟨_,.inl rfl,zdw (show i<=p.m by lia)⟩,_,.inl ⟨_,.inl rfl,zgC⟩,_,_,rfl,_,rfl,_,.inl ⟨_,.inl rfl,zdw (show k<=p.m by lia)⟩,_,.inl ⟨_,.inl rfl,zfV (show j<=p.n+p.m by lia)⟩,_,rfl,_,rfl,.inl ⟨by lia,by lia⟩,?_⟩;walk_at "go";refine⟨_,_,rfl,_,rfl,_,.inl ⟨_,.inl rfl,zdw (show k<=p.m by lia)⟩,_,.inl ⟨_,.inl rfl,zgC⟩,_,_,rfl,_,rfl,_,.inl ⟨_,.inl rfl,zdw (show i<=p.m by lia)⟩,_,.inl ⟨_,.inl rfl,zfV (show j<=p.n+p.m by lia)⟩,_,rfl,_,rfl,.inl ⟨by lia,by lia⟩,?_⟩;walk_at "go";exact⟨_,_,rfl,_,rfl,_,.inl ⟨_,.inl rfl,zgD G hi⟩,by lia,_,_,rfl,_,rfl,_,.inl ⟨_,.inl rfl,zgD G hk⟩,by lia,[_,_],rfl,[_,_],rfl,q⟩
theorem znx:zan ["self","column","found","i"] ["self","column"] (zac zfF):=⟨rfl,rfl,rfl,by decide +kernel,rfl,by decide +kernel,by decide +kernel⟩
theorem zoP {C f f1:Addr}{fd fd1:FuncData}(F:Fun K "line_that_ends" "Board.line_that_ends" zfF f fd) (T:TF K C) (Sooner:Mx K C "ends_sooner" "Board.ends_sooner" zbV ["self","i","j","column"] f1 fd1) (B:Bl mg):FnOk P w K mg base CX0 2 f fd ["self","column"] (spP K (zdj C)):=by
 have GSooner:FnOk P w K mg base CX0 1 f1 fd1 ["self","i","j","column"] (spP K (zbn C)):=zlJ Sooner.fn T B;refine zax F znx (λds Q q145q=>by obtain⟨a,b,c,h,_⟩:=q145q;rw[h];rfl) (λcdv A outer s H E hr=>?_);have hu:(A.deeper (envOfC "Board.line_that_ends" (zac zfF) s.heap.objs.size f cdv)).units+16<cLine:=by have q:=hr.units;lia
 have nd:=znx.nd;refine⟨_,(zad (zaj (i:=2) nd rfl (Or.inl rfl) zha)
   (zad (zbg rfl PassesOwn.never (zaQ rfl B.range (zab (zaF rfl B.len (zab (zaV T.c T.held (zaa 0)) zae)) zae)) (zal (i:=3) nd rfl (Or.inl rfl)) (zag (zbB (PuW.t (zhX (zhg (zah (zah (zaV T.c T.lines (zaa 0)) (zaa 3)) (zaa 1)) zaf) (zgj (PuW.t (zdk (zot (zaa 2) zha) (zcL (zcM (zgp T.c Sooner.me GSooner zif hr Sooner.bd (zaa 0) (zab (zaa 3) (zab (zaa 2) (zab (zaa 1) zae))))))))))) (zag (zaj (i:=2) nd rfl (Or.inl rfl) (zaa 3))) zaA)))
   (zag (zao (zaa 2))))),λds Q h=>?_⟩
 obtain⟨p,h,j,rfl,G,S,hj,q⟩:=h;have hsz:=sizeLine_eq;walk_at "pu";walk_at "go";obtain⟨i1,hi1,hp1⟩:=M41.ends G hj;have hm6:=S.m6;have hhl:(XV PV.int (zbw h)).length=p.m:=by rw[Xb];unfold zbw;rw[Xb];exact G.len
 refine⟨_,_,rfl,_,rfl,_,rfl,by rw[hhl];lia,by rw[hhl];lia,?_⟩;rw[hhl,XH];obtain⟨Iv,hIv⟩:∃Iv:Nat->PEnv->Prop,∀k ρ,Iv k ρ↔∃(v:PV) (k1:Option (PV×Bool)),ρ=[some (brdP C p h,false),some (PV.int j,false),some (v,false),k1]/\((v=.non/\∀r,r<k->¬ 0<tb p h r j)\/∃i:Nat,v=.int i/\LevK p h j k i):=⟨_,λ_ _=>Iff.rfl⟩;refine⟨Iv,(hIv _ _).mpr ⟨_,_,rfl,.inl ⟨rfl,λr hr=>absurd hr (Nat.not_lt_zero _)⟩⟩,?_,?_⟩
 ·intro k d ρ hd hI;obtain⟨v,k1,rfl,hv⟩:=(hIv _ _).mp hI;obtain⟨hk,rfl⟩:=zbz hd;rw[Int.zero_add];walk_at "go";refine⟨_,_,rfl,_,rfl,_,.inl ⟨_,.inl rfl,zdw (show k<=p.m by lia)⟩,_,.inl ⟨_,.inl rfl,zfV (show j<=p.n+p.m by lia)⟩,_,rfl,?_⟩;refine ite2 (λe=>?_) (λe=>?_)
  ·rcases hv with ⟨rfl,hn⟩ | ⟨i,rfl,L⟩
   ·rw[if_pos rfl];walk_at "go";refine(hIv _ _).mpr ⟨_,_,rfl,.inr ⟨k,rfl,XO k,e,λr hr hp=>?_⟩⟩;by_cases y:r=k
    ·subst y;exact .inr ⟨rfl,Xf _⟩
    ·exact absurd hp (hn r (by lia))
   ·have hik:=L.lt;rw[if_neg λz=>nomatch z];refine⟨_,⟨_,rfl⟩,by decide,p,h,rfl,k,rfl,i,rfl,j,rfl,G,S,hk,by lia,hj,ite2 (λe2=>?_) (λe2=>?_)⟩
    ·walk_at "go";exact(hIv _ _).mpr ⟨_,_,rfl,.inr ⟨k,rfl,L.new e e2⟩⟩
    ·walk_at "go";exact(hIv _ _).mpr ⟨_,_,rfl,.inr ⟨i,rfl,L.keep (.inr e2)⟩⟩
  ·walk_at "go";refine(hIv _ _).mpr ⟨_,_,rfl,hv.imp (λz=>⟨z.1,λr hr=>?_⟩) λz=>?_⟩
   ·by_cases y:r=k
    ·subst y;lia
    ·exact z.2 r (by lia)
   ·obtain⟨i,ei,L⟩:=z;exact⟨i,ei,L.keep (.inl (by lia))⟩
 ·intro ρ hI;obtain⟨v,k1,rfl,hv⟩:=(hIv _ _).mp hI;rw[zbf]at hv;walk_at "go";rcases hv with ⟨rfl,hn⟩ | ⟨i,rfl,L⟩
  ·exact absurd hp1 (hn i1 hi1)
  ·exact q i ⟨L.lt,L.pos,L.best⟩
end
noncomputable def woC (p:Pb)(h:List Nat)(i j r c:Nat):Int:=(tb p h r c*tb p h i j-tb p h r j*tb p h i c) / bt p h
theorem zjg {p:Pb}{h:List Nat}(G:Gd p h)(S:Sm p):bt p h<=5040:=by
 have h1:=S.m1;have e:=M41.zcV (p:=p) (h:=h) (k:=0) (r:=0) (by lia) (by lia);rw[if_pos rfl]at e;rw[<- e];exact(G.small S.m6 (by lia) (Yv (G.lt 0 (by lia)))).2
noncomputable def zaS (C:Addr):PF:=λds Q=>∃(p:Pb)(h:List Nat)(r i j:Nat),ds=[brdP C p h,rowC p (tb p h r),rowC p (tb p h i),.int j]/\Gd p h/\Sm p/\r<=p.m/\i<p.m/\j<p.n+p.m/\Q (rowC p (woC p h i j r)) .new
theorem zhx {C:Addr}:zaU (zaS C):=λds Q Q' m q146q=>by obtain⟨a,b,c,d,e,f,h1,h2,h3,h4,h5,q⟩:=q146q;exact⟨a,b,c,d,e,f,h1,h2,h3,h4,h5,m _ _ q⟩
noncomputable def zdx:PMz:=λds hs as Q=>∃(p:Pb)(h:List Nat)(i j:Nat),ds=brdD p h/\hs=zbw h/\as=[.int i,.int j]/\Gd p h/\Sm p/\j<p.n+p.m/\Lev p h j i/\Q (brdD p (h.set i j)) (zbw (h.set i j))
theorem zlK:zmJ zdx:=λds hs as Q Q' m q147q=>by obtain⟨a,b,c,d,e,f,h1,h2,h3,h4,h5,q⟩:=q147q;exact⟨a,b,c,d,e,f,h1,h2,h3,h4,h5,m _ _ q⟩
theorem zft {p:Pb}{h:List Nat}(G:Gd p h)(g:Nat->Int):zep (zbw h) (rowC p g):=by
 refine⟨_,rfl,?_⟩;unfold zbw;rw[Xb,Xb,Xz,G.len];lia
theorem zhy {p:Pb}{h:List Nat}{i j:Nat}(G:Gd p h)(hi:i<p.m):((Xp (p.m+1)).map λr=>rowC p (woC p h i j r)).set i (rowC p (tb p h i))=(Xp (p.m+1)).map λr=>rowC p (tb p (h.set i j) r):=by
 refine List.ext_getElem (by simp) λr h1 h2=>?_;rw[List.getElem_set,List.getElem_map,List.getElem_map,List.getElem_range];have hr:r<p.m+1:=by simpa using h2
 by_cases e:i=r
 ·subst e;rw[if_pos rfl];exact congrArg (rowC p) (funext λc=>(M41.zja hi G.len).symm)
 ·rw[if_neg e];refine congrArg (rowC p) (funext λc=>?_);have ht:=M41.turn (j:=j) (c:=c) (r:=r) G hi (by lia) (λz=>e z.symm);unfold woC;rw[show tb p h r c*tb p h i j-tb p h r j*tb p h i c=bt p h*tb p (h.set i j) r c by rw[ht,Yk (tb p h r c)]];exact Int.mul_ediv_cancel_left _ (Int.ne_of_gt G.pos)
section
variable {P:Program}{w:World}{K:Xa}{mg:Str->Option Value}{base:Heap}
theorem zhz:zan ["self","line","turned","column"] ["self","line","turned","column"] (zac zaX):=⟨rfl,rfl,rfl,by decide +kernel,rfl,by decide +kernel,by decide +kernel⟩
theorem zjQ {C f:Addr}{fd:FuncData}(F:Fun K "without" "Board.without" zaX f fd) (T:TF K C) (B:Bl mg):FnOk P w K mg base CX0 1 f fd ["self","line","turned","column"] (spP K (zaS C)):=by
 refine zax F zhz (λds Q q148q=>by obtain⟨a,b,c,d,e,h,_⟩:=q148q;rw[h];rfl) (λcdv A outer s H E hr=>?_);have hu:(A.deeper (envOfC "Board.without" (zac zaX) s.heap.objs.size f cdv)).units+16<cLine:=by have q:=hr.units;lia
 have nd:=zhz.nd;refine⟨_,(zag (zao (zbT (N:=["cell","other","self","line","turned","column"]) (k:=2) (js:=[0,1,2,3]) rfl (zdE (sup:=zac zaX) (XN:=["self","line","turned","column"]) rfl rfl (by decide +kernel)) (by decide) (zon (loc2 (by decide) (by decide))) (zoC rfl B.zip (zab (zaa 1) (zab (zaa 2) zae))) ⟨λ_ _ _ _ _=>(zhZ (n:=2) rfl (zco (zal (i:=0) (by show(["cell","other","self","line","turned","column"]:List Str).Nodup;decide +kernel) rfl (Or.inl rfl)) (zco (zal (i:=1) (by show(["cell","other","self","line","turned","column"]:List Str).Nodup;decide +kernel) rfl (Or.inl rfl)) zgl))),λ_ _ _ _ _=>zbh,λ_ _ _ _ _=>(zeA (znn (zcF (zaa 0) (zah (zaa 4) (zaa 5))) (zcF (zah (zaa 3) (zaa 5)) (zaa 1))) (zaV T.c T.bottom (zaa 2)))⟩))),λds Q h=>?_⟩;obtain⟨p,h,r,i,j,rfl,G,S,hr',hi,hj,q⟩:=h;have hsz:=sizeLine_eq;have h1:=S.m6;have h2:=S.n6;walk_at "pu";refine⟨_,rfl,_,rfl,by rw[zgr,Xb,Xb,Xz,Xb,Xb,Xz];lia,λk out=>out=(Xp k).map λc=>PV.int (woC p h i j r c),rfl,?_,?_⟩
 ·rintro k d out hd-rfl;obtain⟨x,y,hx,hy,rfl⟩:=ziT hd;have hk:k<p.n+p.m+1:=by
   have:=(Xd.mp hx).1;simpa using this
  rw[Xk,Xk,Yi hk]at hx hy;cases hx;cases hy;refine⟨_,rfl,rfl,_,_,rfl,_,_,rfl,rfl,?_⟩;walk_at "pu";have b1:=G.small S.m6 (show r<=p.m by lia) (show k<=p.n+p.m by lia);have b2:=G.small S.m6 (show i<=p.m by lia) (show k<=p.n+p.m by lia);refine⟨_,.inl ⟨_,.inl rfl,zfV (show j<=p.n+p.m by lia)⟩,_,rfl,.inl ⟨by lia,by lia⟩,_,.inl ⟨_,.inl rfl,zfV (show j<=p.n+p.m by lia)⟩,_,rfl,.inr ⟨by lia,by lia⟩,_,_,rfl,_,rfl,_,rfl,?_,?_⟩
  ·have:=zjg G S;exact⟨G.pos,by lia⟩
  ·show _=_;rw[Yc,Xn];rfl
 ·rintro out-rfl;rw[zgr,Xb,Xb,Xz,Xb,Xb,Xz,Nat.min_self];have e:PV.lst ((Xp (p.n+p.m+1)).map λc=>PV.int (woC p h i j r c))=rowC p (woC p h i j r):=by unfold rowC;rw[YN];rfl
  rw[e];exact q
theorem zny:zan ["self","i","column","turned","lines"] ["self","i","column"] (zac zfp):=⟨rfl,rfl,rfl,by decide +kernel,rfl,by decide +kernel,by decide +kernel⟩
theorem zoQ {C f f1:Addr}{fd fd1:FuncData}(F:Fun K "turn" "Board.turn" zfp f fd) (T:TF K C) (Without:Mx K C "without" "Board.without" zaX ["self","line","turned","column"] f1 fd1) (B:Bl mg):FnOk P w K mg base CX0 2 f fd ["self","i","column"] (spZ K C bks "held" zdx):=by
 have GWithout:FnOk P w K mg base CX0 1 f1 fd1 ["self","line","turned","column"] (spP K (zaS C)):=zjQ Without.fn T B;refine fn_Z F zny (λds hs as Q q149q=>by obtain⟨a,b,c,d,e,g,h,_⟩:=q149q;rw[h];rfl) (λcdv A outer s H E hr=>?_);have hu:(A.deeper (envOfC "Board.turn" (zac zfp) s.heap.objs.size f cdv)).units+16<cLine:=by have q:=hr.units;lia
 have nd:=zny.nd;refine⟨_,(zdT (zmL (i:=3) nd rfl (Or.inr rfl) (zah (zaV T.c T.lines (zaa 0)) (zaa 1)))
   (zlu T.c T.lines (gi:=2) (iy:=4) (zmM (N:=["line","self","column","turned"]) (k:=1) (js:=[0,2,3]) rfl (zdE (sup:=zac zfp) (XN:=["self","i","column","turned","lines"]) rfl rfl (by decide +kernel)) (by decide) (zaP (by decide)) (zaH (zaV T.c T.lines (zaa 0))) ⟨λ_ _ _ _ _=>(zal (i:=0) (by show(["line","self","column","turned"]:List Str).Nodup;decide +kernel) rfl (Or.inl rfl)),λ_ _ _ _ _=>zbh,λ_ _ _ _ _=>(zgp T.c Without.me GWithout zhx hr Without.bd (zaa 1) (zab (zaa 0) (zab (zaa 3) (zab (zaa 2) zae))))⟩ nd rfl rfl) (zaa 3) (zaa 1)
   (zdT (zoG T.c T.held (zaa 1) (zaa 2))
   (zgu (zoF T.c T.bottom (gi:=1) (zah (zaa 3) (zaa 2))))) rfl)),λds hs as Q h=>?_⟩
 obtain⟨p,h,i,j,rfl,rfl,rfl,G,S,hj,L,q⟩:=h;have hsz:=sizeLine_eq;walk_at "pu";have hi:=L.lt;have hm:=S.m6;refine⟨_,_,rfl,_,rfl,_,.inl ⟨_,.inl rfl,zdw (show i<=p.m by lia)⟩,zft G _,by decide,by decide,by decide,_,_,rfl,_,rfl,_,rfl,by rw[Xb,Xz];lia,λk out=>out=(Xp k).map λr=>rowC p (woC p h i j r),rfl,?_,?_⟩
 ·rintro k d out hd-rfl;have hk:k<p.m+1:=by
   have:=(Xd.mp hd).1;simpa using this
  rw[Xk,Yi hk]at hd;cases hd;refine⟨_,⟨_,rfl⟩,by decide,p,h,rfl,k,rfl,i,rfl,j,rfl,G,S,by lia,hi,hj,?_⟩;show _=_;rw[Yc,Xn];rfl
 ·rintro out-rfl;rw[Xb,Xz,Xb,Xz];have hhl:(zbw h).length=p.m:=by unfold zbw;rw[Xb];exact G.len
  refine⟨λr hr=>?_,zft G _,i,rfl,by lia,by decide,i,rfl,by lia,by decide,by decide,?_⟩
  ·obtain⟨r',_,rfl⟩:=XW.mp hr;exact zft G _
  ·refine⟨_,.inl ⟨_,.inl rfl,zfV (show j<=p.n+p.m by lia)⟩,trivial,?_⟩;rw[zhy G hi];have e1:((brdD p h).set 2 (PV.lst ((Xp (p.m+1)).map λr=>rowC p (tb p (h.set i j) r)))).set 1 (PV.int (tb p h i j))=brdD p (h.set i j):=by
    rw[<- M41.ziZ hi G.len];rfl
   have e2:(zbw h).set i (j:Int)=zbw (h.set i j):=by unfold zbw;rw[List.map_set]
   rw[e1,e2];exact q
end
structure Hist (p:Pb)(f:Nat->List Nat)(J I:Nat->Nat)(t:Nat):Prop where
 zero:f 0=M41.start p
 gd:∀s,s<=t->Gd p (f s)
 ent:∀s,s<t->Ent p (f s) (J s)
 lev:∀s,s<t->Lev p (f s) (J s) (I s)
 nxt:∀s,s<t->f (s+1)=(f s).set (I s) (J s)
theorem Hist.snoc {p:Pb}{f:Nat->List Nat}{J I:Nat->Nat}{t i j:Nat}(X:Hist p f J I t)(e:Ent p (f t) j)(l:Lev p (f t) j i):∃f' J' I',Hist p f' J' I' (t+1)/\f' (t+1)=(f t).set i j:=by
 refine⟨λs=>if s<=t then f s else(f t).set i j,λs=>if s<t then J s else j,λs=>if s<t then I s else i,⟨?_,λs hs=>?_,λs hs=>?_,λs hs=>?_,λs hs=>?_⟩,if_neg (by lia)⟩
 ·rw[if_pos (Yf _)];exact X.zero
 ·by_cases z:s<=t
  ·rw[if_pos z];exact X.gd s z
  ·rw[if_neg z];exact(X.gd t (Xf _)).step e.lt l
 ·rw[if_pos (by lia)];by_cases z:s<t
  ·rw[if_pos z];exact X.ent s z
  ·rw[if_neg z,show s=t by lia];exact e
 ·rw[if_pos (by lia)];by_cases z:s<t
  ·rw[if_pos z,if_pos z];exact X.lev s z
  ·rw[if_neg z,if_neg z,show s=t by lia];exact l
 ·rw[if_pos (show s<=t by lia)];by_cases z:s<t
  ·rw[if_pos z,if_pos z,if_pos (show s+1<=t by lia)];exact X.nxt s z
  ·rw[if_neg z,if_neg z,if_neg (by lia),show s=t by lia]
theorem Hist.few {p:Pb}{f:Nat->List Nat}{J I:Nat->Nat}{t:Nat}(X:Hist p f J I t)(S:Sm p):t<=16 ^ p.m:=by
 have h1:=S.m6;have h2:=S.n6;exact M41.short (by lia) (λs hs=>X.gd s (by lia)) X.ent X.lev λs hs=>X.nxt s (by lia)
theorem Ent.uniq {p:Pb}{h:List Nat}{i j:Nat}(a:Ent p h i)(b:Ent p h j):i=j:=by
 have a1:=a.neg;have b1:=b.neg;rcases Nat.lt_trichotomy i j with z | z | z
 ·have:=b.first i z;lia
 ·exact z
 ·have:=a.first j z;lia
theorem Lev.uniq {p:Pb}{h:List Nat}{i k j:Nat}(G:Gd p h)(a:Lev p h j i)(b:Lev p h j k):i=k:=by
 have e1:=a.best k b.lt b.pos;have e2:=b.best i a.lt a.pos;have e3:h.getD i 0=h.getD k 0:=by lia
 have g1:=M41.zcV (p:=p) (h:=h) (k:=i) (r:=i) a.lt (Yv a.lt);have g2:=M41.zcV (p:=p) (h:=h) (k:=k) (r:=i) b.lt (Yv a.lt);rw[e3,if_pos rfl]at g1;have:=G.pos;by_cases z:i=k
 ·exact z
 ·rw[if_neg z,g1]at g2;lia
noncomputable def Done (p:Pb)(h:List Nat):Prop:=∃f J I t,Hist p f J I t/\f t=h/\∀c,c<p.n+p.m->0<=tb p h p.m c
theorem Done.gd {p:Pb}{h:List Nat}(a:Done p h):Gd p h:=by
 obtain⟨f,J,I,t,X,e,_⟩:=a;rw[<- e];exact X.gd t (Xf _)
theorem Done.nn {p:Pb}{h:List Nat}(a:Done p h):∀c,c<p.n+p.m->0<=tb p h p.m c:=by
 obtain⟨f,J,I,t,X,e,q⟩:=a;exact q
theorem Done.uniq {p:Pb}{h h':List Nat}(a:Done p h)(b:Done p h'):h=h':=by
 obtain⟨f,J,I,t,X,e,q⟩:=a;obtain⟨f',J',I',t',X',e',q'⟩:=b;have same:∀s,s<=t->s<=t'->f s=f' s:=by
  intro s;induction s with
  | zero=>intro _ _;rw[X.zero,X'.zero]
  | succ s ih=>
   intro h1 h2;have i1:=ih (by lia) (by lia);have x1:=X.ent s (by lia);have x2:=X'.ent s (by lia);rw[<- i1]at x2;have j1:=Ent.uniq x1 x2;have l1:=X.lev s (by lia);have l2:=X'.lev s (by lia);rw[<- i1,<- j1]at l2;rw[X.nxt s (by lia),X'.nxt s (by lia),<- i1,<- j1,Lev.uniq (X.gd s (by lia)) l1 l2]
 rcases Nat.lt_trichotomy t t' with z | z | z
 ·have x:=X'.ent t z;rw[<- same t (Xf _) (by lia),e]at x;have:=q _ x.lt;have:=x.neg;lia
 ·subst z;rw[<- e,<- e',same t (Xf _) (Xf _)]
 ·have x:=X.ent t' z;rw[same t' (by lia) (Xf _),e']at x;have:=q' _ x.lt;have:=x.neg;lia
theorem seqW {C:Addr}{ks:List Str}{f:Str}{t tb:TPZ}{tc:TPT}{ρ:PEnv}{ds:List PV}{hs:List Int}{Q:PEnv->List PV->List Int->Prop}(Iv:Nat->PEnv->List PV->List Int->Prop)
  (h2:∀m ρ' ds' hs',Iv m ρ' ds' hs'->tc (ρ'.set 0 (some (objOf C ks f ds' hs',false))) λb=>if b=true then tb ρ' ds' hs' λρ2 ds2 hs2=>∃m',m'<m/\Iv m' ρ2 ds2 hs2 else Q ρ' ds' hs')
  (h1:∀W:TPZ,(∀ρ' ds' hs',(∃m,Iv m ρ' ds' hs')->W ρ' ds' hs' Q)->t ρ ds hs λρ' ds' hs'=>W ρ' ds' hs' Q):zSeq t (zce C ks f tc tb) ρ ds hs Q:=h1 _ λρ' ds' hs' h=>⟨Iv,h,h2⟩
noncomputable def zbo:PMz:=λds hs as Q=>∃p:Pb,ds=brdD p (M41.start p)/\hs=zbw (M41.start p)/\as=[]/\Sm p/\∀h,Done p h->Q (brdD p h) (zbw h)
theorem zig:zmJ zbo:=λds hs as Q Q' m q150q=>by obtain⟨a,e,f,h1,h2,q⟩:=q150q;exact⟨a,e,f,h1,h2,λh x=>m _ _ (q h x)⟩
section
variable {P:Program}{w:World}{K:Xa}{mg:Str->Option Value}{base:Heap}
theorem zjh:zan ["self","column"] ["self"] (zac zcC):=⟨rfl,rfl,rfl,by decide +kernel,rfl,by decide +kernel,by decide +kernel⟩
theorem zlL {C f f1 f2 f3 f4 f5:Addr}{fd fd1 fd2 fd3 fd4 fd5:FuncData}(F:Fun K "settle" "Board.settle" zcC f fd) (T:TF K C) (Without:Mx K C "without" "Board.without" zaX ["self","line","turned","column"] f1 fd1) (Sooner:Mx K C "ends_sooner" "Board.ends_sooner" zbV ["self","i","j","column"] f2 fd2) (Line:Mx K C "line_that_ends" "Board.line_that_ends" zfF ["self","column"] f3 fd3) (Col:Mx K C "column_to_raise" "Board.column_to_raise" sCol ["self"] f4 fd4) (Turn:Mx K C "turn" "Board.turn" zfp ["self","i","column"] f5 fd5) (B:Bl mg):FnOk P w K mg base CX0 3 f fd ["self"] (spZ K C bks "held" zbo):=by
 have GLine:FnOk P w K mg base CX0 2 f3 fd3 ["self","column"] (spP K (zdj C)):=zoP Line.fn T Sooner B;have GCol:FnOk P w K mg base CX0 2 f4 fd4 ["self"] (spP K (fCol C)):=(zqx Col.fn T B).mono (by decide);have GTurn:FnOk P w K mg base CX0 2 f5 fd5 ["self","i","column"] (spZ K C bks "held" zdx):=zoQ Turn.fn T Without B;refine fn_Z F zjh (λds hs as Q q151q=>by obtain⟨a,e,g,h,_⟩:=q151q;rw[h];rfl) (λcdv A outer s H E hr=>?_);have hu:(A.deeper (envOfC "Board.settle" (zac zcC) s.heap.objs.size f cdv)).units+16<cLine:=by have q:=hr.units;lia
 have nd:=zjh.nd;refine⟨_,(zdT (zls (i:=1) nd rfl (Or.inl rfl) (zdc T.c Col.me GCol zjd hr Col.bd (zaa 0)))
   (zgu (zlt PassesOwn.never (zmA (zaa 1) zha) (zdT (zmK T.c Turn.me GTurn zlK hr Turn.bd (zab (zgp T.c Line.me GLine zlI hr Line.bd (zaa 0) (zab (zaa 1) zae)) (zab (zaa 1) zae)))
   (zgu (zls (i:=1) nd rfl (Or.inl rfl) (zdc T.c Col.me GCol zjd hr Col.bd (zaa 0)))))))),λds hs as Q h=>?_⟩
 obtain⟨p,rfl,rfl,rfl,S,q⟩:=h;obtain⟨Iv,hIv⟩:∃Iv:Nat->PEnv->List PV->List Int->Prop,∀m ρ ds hs,Iv m ρ ds hs↔∃f J I t v,Hist p f J I t/\ds=brdD p (f t)/\hs=zbw (f t)/\ρ=[none,some (v,false)]/\m+t=16 ^ p.m/\((∃j:Nat,v=.int j/\Ent p (f t) j)\/(v=.non/\∀c,c<p.n+p.m->0<=tb p (f t) p.m c)):=⟨_,λ_ _ _ _=>Iff.rfl⟩;refine seqW Iv (λm ρ ds hs hI=>?_) λW hW=>?_
 ·obtain⟨f,J,I,t,v,X,rfl,rfl,rfl,hmt,hv⟩:=(hIv _ _ _ _).mp hI;have G:=X.gd t (Xf _);walk_at "pu";rcases hv with ⟨j,rfl,E⟩ | ⟨rfl,hn⟩
  ·rw[if_pos (λz=>nomatch z)];refine⟨by decide,_,⟨_,rfl⟩,by decide,p,f t,rfl,j,rfl,G,S,E.lt,λi L=>?_⟩;obtain⟨f',J',I',X',e'⟩:=X.snoc E L;have few:=X'.few S;have G':=X'.gd (t+1) (Xf _);refine⟨λd hd=>by rcases Xo.mp hd with rfl | hd;exact trivial;rw[XB.mp hd];exact trivial,p,f t,rfl,rfl,i,rfl,j,rfl,G,S,E.lt,L,?_⟩
   rw[<- e'];exact⟨_,⟨_,rfl⟩,by decide,p,f' (t+1),rfl,G',S,λj E=>⟨trivial,m-1,by lia,(hIv _ _ _ _).mpr ⟨f',J',I',t+1,_,X',rfl,rfl,rfl,by lia,.inl ⟨j,rfl,E⟩⟩⟩,λhn=>⟨trivial,m-1,by lia,(hIv _ _ _ _).mpr ⟨f',J',I',t+1,_,X',rfl,rfl,rfl,by lia,.inr ⟨rfl,hn⟩⟩⟩⟩
  ·rw[if_neg (λz=>z rfl)];exact q _ ⟨f,J,I,t,X,rfl,hn⟩
 ·have Z:Hist p (λ_=>M41.start p) (λ_=>0) (λ_=>0) 0:=⟨rfl,λ_ _=>Gd.start,λs hs=>absurd hs (Nat.not_lt_zero _),λs hs=>absurd hs (Nat.not_lt_zero _),λs hs=>absurd hs (Nat.not_lt_zero _)⟩;walk_at "pu";exact⟨_,⟨_,rfl⟩,by decide,p,M41.start p,rfl,Gd.start,S,λj E=>⟨trivial,hW _ _ _ ⟨_,(hIv _ _ _ _).mpr ⟨_,_,_,0,_,Z,rfl,rfl,rfl,rfl,.inl ⟨j,rfl,E⟩⟩⟩⟩,λhn=>⟨trivial,hW _ _ _ ⟨_,(hIv _ _ _ _).mpr ⟨_,_,_,0,_,Z,rfl,rfl,rfl,rfl,.inr ⟨rfl,hn⟩⟩⟩⟩⟩
end
theorem zmU {sh:List (List Str)}{L:List Str}(S:Shp sh)(h:Names sh L):Sm (pbOf h):=⟨S.m1,S.m6,S.six L h.nd λx hx=>(h.mem x).mp hx⟩
noncomputable def zcX:zfT:=λas Q=>∃sh:List (List Str),as=[shpP sh]/\Shp sh/\∀(L:List Str)(h:Names sh L),Q (brdD (pbOf h) (M41.start (pbOf h))) (zbw (M41.start (pbOf h)))
theorem zjR:zns zcX:=λas Q Q' m q152q=>by obtain⟨a,e,h,q⟩:=q152q;exact⟨a,e,h,λL x=>m _ _ (q L x)⟩
noncomputable def zcY (C:Addr):PF:=λds Q=>∃(p:Pb)(h:List Nat)(c:Nat),ds=[brdP C p h,.int c]/\Gd p h/\Sm p/\Q (.int (M41.pr p h c)) .frz
theorem zjS {C:Addr}:zaU (zcY C):=λds Q Q' m q153q=>by obtain⟨a,b,c,e,h1,h2,q⟩:=q153q;exact⟨a,b,c,e,h1,h2,m _ _ q⟩
noncomputable def zbW (p:Pb)(h:List Nat):List Int:=(Xp p.n).map λc=>M41.pr p h c
noncomputable def zbx (p:Pb)(h:List Nat):List Int:=(Xp p.m).map λk=>tb p h p.m (p.n+k)
noncomputable def zbX (C:Addr):PF:=λds Q=>∃(p:Pb)(h:List Nat),ds=[brdP C p h]/\Gd p h/\Sm p/\Q (.lst ((zbW p h).map PV.int)) .new
theorem zfu {C:Addr}:zaU (zbX C):=λds Q Q' m q154q=>by obtain⟨a,b,e,h1,h2,q⟩:=q154q;exact⟨a,b,e,h1,h2,m _ _ q⟩
noncomputable def zby (C:Addr):PF:=λds Q=>∃(p:Pb)(h:List Nat),ds=[brdP C p h]/\Gd p h/\Sm p/\Q (.lst ((zbx p h).map PV.int)) .new
theorem zfv {C:Addr}:zaU (zby C):=λds Q Q' m q155q=>by obtain⟨a,b,e,h1,h2,q⟩:=q155q;exact⟨a,b,e,h1,h2,m _ _ q⟩
theorem zqy {ds:List PV}{e:PV}(h:e∈ds):idxP ds e<ds.length/\ds[idxP ds e]? = some e:=by
 have h1:idxP ds e<ds.length:=List.findIdx_lt_length_of_exists ⟨e,h,decide_eq_true rfl⟩;refine⟨h1,?_⟩;have h2:=List.findIdx_getElem (p:=λx=>decide (x=e)) (xs:=ds) (w:=h1);rw[Xl h1];exact congrArg some (of_decide_eq_true h2)
section
variable {P:Program}{w:World}{K:Xa}{mg:Str->Option Value}{base:Heap}
theorem zlM:zan ["self","shape","letters"] ["self","shape"] (zac zdm):=⟨rfl,rfl,rfl,by decide +kernel,rfl,by decide +kernel,by decide +kernel⟩
theorem zmV {C f f1 f2:Addr}{fd fd1 fd2:FuncData}(F:Fun K "__init__" "Board.__init__" zdm f fd) (T:TF K C) (LettersOf:Fx K mg "letters_of" zaI ["shape"] f1 fd1) (FirstLines:Fx K mg "first_lines" zat ["shape","letters"] f2 fd2) (B:Bl mg):FnOk P w K mg base CX0 2 f fd ["self","shape"] (zgv K C bks "held" zcX):=by
 have GLettersOf:FnOk P w K mg base CX0 1 f1 fd1 ["shape"] (spP K zav):=zhv LettersOf.fn B;have GFirstLines:FnOk P w K mg base CX0 1 f2 fd2 ["shape","letters"] (spP K zap):=zgB FirstLines.fn B;refine zmN F zlM (λas Q q156q=>by obtain⟨a,e,_⟩:=q156q;rw[e];rfl) (λcdv A outer s H E hr=>?_);have hu:(A.deeper (envOfC "Board.__init__" (zac zdm) s.heap.objs.size f cdv)).units+16<cLine:=by have q:=hr.units;lia
 have nd:=zlM.nd;refine⟨_,(zmO (i:=2) nd rfl (Or.inl rfl) (zaw GLettersOf zfG hr rfl LettersOf.mg LettersOf.fn.kp LettersOf.bd (zab (zaa 1) zae))
   (zgw T.c T.width (zaF rfl B.len (zab (zaa 2) zae))
   (zgw T.c T.bottom zaf
   (zgw T.c T.lines (zaw GFirstLines zfq hr rfl FirstLines.mg FirstLines.fn.kp FirstLines.bd (zab (zaa 1) (zab (zaa 2) zae)))
   (zjP T.c T.held (zbT (N:=["i","self"]) (k:=1) (js:=[0]) rfl (zdE (sup:=zac zdm) (XN:=["self","shape","letters"]) rfl rfl (by decide +kernel)) (by decide) (zaP (by decide)) (zaQ rfl B.range (zab (zaF rfl B.len (zab (zaa 1) zae)) zae)) ⟨λ_ _ _ _ _=>(zal (i:=0) (by show(["i","self"]:List Str).Nodup;decide +kernel) rfl (Or.inl rfl)),λ_ _ _ _ _=>zbh,λ_ _ _ _ _=>(zbq (zaV T.c T.width (zaa 1)) (zaa 0))⟩)))))),λas Q h=>?_⟩
 obtain⟨sh,rfl,S,q⟩:=h;have hsz:=sizeLine_eq;walk_at "pu";refine⟨sh,rfl,S,λL hN=>⟨by decide,by decide,by decide,by decide,by decide,by decide,sh,rfl,L,rfl,S,by decide,by decide,?_⟩⟩;have h6:=S.m6;rw[Xb,XH,zbf];refine⟨by lia,by lia,by lia,hN,λk out=>out=(zbw ((Xp k).map λi=>L.length+i)).map PV.int,rfl,?_,?_⟩
 ·rintro k d out hd-rfl;obtain⟨hk,rfl⟩:=zbz hd;refine⟨_,_,rfl,_,rfl,_,rfl,_,rfl,?_⟩;show _=_;unfold zbw;rw[Yc,Xn,Xn,Xn];show _++[PV.int (((L.map PV.str).length:Nat)+(0+(k:Int)))]=_++[PV.int ((L.length+k:Nat):Int)];rw[Xb,Int.zero_add];rfl
 ·rintro out-rfl;refine⟨_,rfl,?_⟩;have e:([PV.int ((L.map PV.str).length:Nat),PV.int 1,zhu (pbOf hN) λr c=>zaJ sh L c r]:List PV)=brdD (pbOf hN) (M41.start (pbOf hN)):=by
   unfold brdD;rw[M41.zeL,Xb];have e2:zhu (pbOf hN) (λr c=>zaJ sh L c r)=zhu (pbOf hN) (tb (pbOf hN) (M41.start (pbOf hN))):=
    congrArg PV.lst (YH λr hr=>congrArg (rowC (pbOf hN)) (funext λc=>(M41.tb_start (p:=pbOf hN) (c:=c) (Nat.le_of_lt_succ (Yl.mp hr))).symm))
   rw[e2];rfl
  rw[e];exact q L hN
theorem zlN:zan ["self","column"] ["self","column"] (zac zdn):=⟨rfl,rfl,rfl,by decide +kernel,rfl,by decide +kernel,by decide +kernel⟩
theorem zmW {C f:Addr}{fd:FuncData}(F:Fun K "price" "Board.price" zdn f fd) (T:TF K C) (B:Bl mg):FnOk P w K mg base CX0 1 f fd ["self","column"] (spP K (zcY C)):=by
 refine zax F zlN (λds Q q157q=>by obtain⟨a,b,c,e,_⟩:=q157q;rw[e];rfl) (λcdv A outer s H E hr=>?_);have hu:(A.deeper (envOfC "Board.price" (zac zdn) s.heap.objs.size f cdv)).units+16<cLine:=by have q:=hr.units;lia
 have nd:=zlN.nd;refine⟨_,(zag (zao (zgk (ziL hu (zaa 1) (zaV T.c T.held (zaa 0))) (zah (zah (zaV T.c T.lines (zaa 0)) (zmI (zaV T.c T.held (zaa 0)) (zaa 1))) (zfl zaf)) zaf))),λds Q h=>?_⟩;obtain⟨p,h,c,rfl,G,S,q⟩:=h;have hsz:=sizeLine_eq;walk_at "pu";have hpl:((zbw h).map PV.int).all (PL.plain 6)=true:=by
  rw[XY];intro d hd;obtain⟨x,_,rfl⟩:=XW.mp hd;rfl
 have hfl:((zbw h).map PV.int).all zfD=true:=by
  rw[XY];intro d hd;obtain⟨x,_,rfl⟩:=XW.mp hd;rfl
 refine⟨_,_,rfl,_,rfl,_,.inl rfl,hpl,ite2 (λe=>?_) (λe=>?_)⟩
 ·obtain⟨h1,h2⟩:=zqy e;have hk:idxP ((zbw h).map PV.int) (PV.int c)<p.m:=by
   rw[Xb]at h1;unfold zbw at h1 ⊢;rw[Xb,G.len]at h1;exact h1
  have h3:=(zgD G hk).symm.trans (zaB h2);have hc:h.getD (idxP ((zbw h).map PV.int) (PV.int c)) 0=c:=by
   have:=PV.int.inj (Option.some.inj h3);lia
  refine⟨_,_,rfl,_,rfl,_,_,rfl,_,rfl,_,.inl rfl,hfl,rfl,e,_,.inl ⟨_,.inl rfl,zdw (Yv hk)⟩,_,.inl ⟨_,.inl rfl,zgC⟩,?_⟩;rw[<- M41.zlF G hk,hc];exact q
 ·rw[M41.znu λk hk z=>e ?_]at q
  ·exact q
  ·have h3:=zgD G hk;rw[z]at h3;have hl:k<((zbw h).map PV.int).length:=by unfold zbw;rw[Xb,Xb,G.len];exact hk
   rw[zaB (Xl hl)]at h3;rw[<- Option.some.inj h3];exact Yq hl
theorem zji:zan ["self"] ["self"] (zac zck):=⟨rfl,rfl,rfl,by decide +kernel,rfl,by decide +kernel,by decide +kernel⟩
theorem zlO {C f f1:Addr}{fd fd1:FuncData}(F:Fun K "prices" "Board.prices" zck f fd) (T:TF K C) (Price:Mx K C "price" "Board.price" zdn ["self","column"] f1 fd1) (B:Bl mg):FnOk P w K mg base CX0 2 f fd ["self"] (spP K (zbX C)):=by
 have GPrice:FnOk P w K mg base CX0 1 f1 fd1 ["self","column"] (spP K (zcY C)):=zmW Price.fn T B;refine zax F zji (λds Q q158q=>by obtain⟨a,b,e,_⟩:=q158q;rw[e];rfl) (λcdv A outer s H E hr=>?_);have hu:(A.deeper (envOfC "Board.prices" (zac zck) s.heap.objs.size f cdv)).units+16<cLine:=by have q:=hr.units;lia
 have nd:=zji.nd;refine⟨_,(zag (zao (zbT (N:=["column","self"]) (k:=1) (js:=[0]) rfl (zdE (sup:=zac zck) (XN:=["self"]) rfl rfl (by decide +kernel)) (by decide) (zaP (by decide)) (zaQ rfl B.range (zab (zaV T.c T.width (zaa 0)) zae)) ⟨λ_ _ _ _ _=>(zal (i:=0) (by show(["column","self"]:List Str).Nodup;decide +kernel) rfl (Or.inl rfl)),λ_ _ _ _ _=>zbh,λ_ _ _ _ _=>(zgp T.c Price.me GPrice zjS hr Price.bd (zaa 1) (zab (zaa 0) zae))⟩))),λds Q h=>?_⟩;obtain⟨p,h,rfl,G,S,q⟩:=h;have hsz:=sizeLine_eq;walk_at "pu";have hn6:=S.n6;refine⟨_,_,rfl,_,rfl,_,rfl,by lia,by lia,?_⟩;rw[XH,zbf];refine⟨by lia,λk out=>out=((Xp k).map λc=>M41.pr p h c).map PV.int,rfl,?_,?_⟩
 ·rintro k d out hd-rfl;obtain⟨hk,rfl⟩:=zbz hd;refine⟨_,⟨_,rfl⟩,by decide,p,h,rfl,k,by rw[Int.zero_add],G,S,?_⟩;show _=_;rw[Yc,Xn,Xn];rfl
 ·rintro out-rfl;exact q
theorem zjj:zan ["self"] ["self"] (zac zcD):=⟨rfl,rfl,rfl,by decide +kernel,rfl,by decide +kernel,by decide +kernel⟩
theorem zlP {C f:Addr}{fd:FuncData}(F:Fun K "worths" "Board.worths" zcD f fd) (T:TF K C) (B:Bl mg):FnOk P w K mg base CX0 1 f fd ["self"] (spP K (zby C)):=by
 refine zax F zjj (λds Q q159q=>by obtain⟨a,b,e,_⟩:=q159q;rw[e];rfl) (λcdv A outer s H E hr=>?_);have hu:(A.deeper (envOfC "Board.worths" (zac zcD) s.heap.objs.size f cdv)).units+16<cLine:=by have q:=hr.units;lia
 have nd:=zjj.nd;refine⟨_,(zag (zao (zcA (zah (zaV T.c T.lines (zaa 0)) (zfl zaf)) (zbj (zaV T.c T.width (zaa 0))) (zbj (zfl zaf))))),λds Q h=>?_⟩;obtain⟨p,h,rfl,G,S,q⟩:=h;have hsz:=sizeLine_eq;walk_at "pu";refine⟨_,_,rfl,_,rfl,_,.inl ⟨_,.inl rfl,zhw⟩,_,_,rfl,_,rfl,_,rfl,_,rfl,?_⟩;have e:cutP (((Xp (p.n+p.m+1)).map (tb p h p.m)).map PV.int) (some (p.n:Int)) (some (-1))=(zbx p h).map PV.int:=by
  unfold cutP;rw[HT.zdo,Xb,Xb,Xz,show HT.sIx (p.n+p.m+1) (p.n+p.m+1) (some (-1))=p.n+p.m by unfold HT.sIx;simp;lia,Nat.min_eq_left (by lia),zfr,List.append_assoc,List.drop_left' (by rw[Xb,Xz]),List.take_left' (by rw[Xb,Xz];lia)];unfold zbx;rw[YN];rfl
 rw[e];exact q
end
noncomputable def gcdL (a:Nat)(l:List Int):Nat:=l.foldl (λa x=>Nat.gcd a x.toNat) a
noncomputable def Lo (l:List Int):Prop:=∀x∈l,0<=x/\x<=5040
theorem zqz {a b:Nat}(h1:a<=5040)(h2:b<=5040):Nat.gcd a b<=5040:=by
 rcases Nat.eq_zero_or_pos b with rfl | z
 ·rw[Nat.gcd_zero_right];exact h1
 ·exact Yu (Nat.gcd_le_right a z) h2
theorem zgE:∀ {l:List Int}{a:Nat},a<=5040->Lo l->gcdL a l<=5040
 | [],a,h,_=>h
 | x::l,a,h,hl=>by
  have:=hl x Xm;exact zgE (l:=l) (zqz h (by lia)) λy hy=>hl y (Xh _ hy)
theorem Lo.take {l:List Int}(h:Lo l)(i:Nat):Lo (l.take i):=λx hx=>h x (List.mem_of_mem_take hx)
theorem zhA (l:List Int)(a:Nat)(x:Int):gcdL a (l++[x])=Nat.gcd (gcdL a l) x.toNat:=by unfold gcdL;rw[List.foldl_append];rfl
noncomputable def fGcd:PF:=λds Q=>∃l:List Int,ds=[.lst (l.map PV.int)]/\Lo l/\Q (.int (gcdL 0 l)) .frz
theorem zmX:zaU fGcd:=λds Q Q' m q160q=>by obtain⟨a,e,h,q⟩:=q160q;exact⟨a,e,h,m _ _ q⟩
theorem euclid (a b:Nat):Nat.gcd b (a % b)=Nat.gcd a b:=by rw[Nat.gcd_comm a b,Nat.gcd_rec b a,Nat.gcd_comm]
noncomputable def allI (p:Pb)(h:List Nat):List Int:=bt p h::(zbx p h++zbW p h)
noncomputable def gP (p:Pb)(h:List Nat):Nat:=gcdL 0 (allI p h)
noncomputable def dI (p:Pb)(h:List Nat):Int:=bt p h / (gP p h:Int)
noncomputable def wsI (p:Pb)(h:List Nat):List Int:=(zbx p h).map λ(x:Int)=>x / (gP p h:Int)
noncomputable def ysI (p:Pb)(h:List Nat):List Int:=(zbW p h).map λ(x:Int)=>x / (gP p h:Int)
noncomputable def wtP (p:Pb)(h:List Nat):PV:=.tup [.int (dI p h),.lst ((wsI p h).map PV.int),.lst ((ysI p h).map PV.int)]
structure Ix (K:Xa)(mg:Str->Option Value)(C:Addr)(x qual:Str)(st:Stmt)(ps:List Str)(f:Addr)(fd:FuncData):Prop where
 fn:Fun K "__init__" qual st f fd
 bd:Binds K fd ps []
 make:Mk K C f
 mg:mg x=some (.ref C)
noncomputable def zaN:PFR:=λds Q=>∃sh:List (List Str),ds=[shpP sh]/\Shp sh/\∀(L:List Str)(hN:Names sh L)(h:List Nat),Done (pbOf hN) h->Q (dI (pbOf hN) h) (wsI (pbOf hN) h) (ysI (pbOf hN) h)
theorem zdX:zoJ zaN:=λds Q Q' m q161q=>by obtain⟨a,e,h,q⟩:=q161q;exact⟨a,e,h,λL hN h x=>m _ _ _ (q L hN h x)⟩
noncomputable def zbp:PF:=λds Q=>∃sh:List (List Str),ds=[shpP sh]/\Shp sh/\∀(L:List Str)(hN:Names sh L)(h:List Nat),Done (pbOf hN) h->Q (wtP (pbOf hN) h) .frz
theorem zhB:zaU zbp:=λds Q Q' m q162q=>by obtain⟨a,e,h,q⟩:=q162q;exact⟨a,e,h,λL hN h x=>m _ _ (q L hN h x)⟩
theorem znz {p:Pb}{h:List Nat}(G:Gd p h)(S:Sm p)(nn:∀c,c<p.n+p.m->0<=tb p h p.m c):Lo (allI p h):=by
 intro x hx;rcases Xo.mp hx with rfl | hx
 ·have:=G.pos;have:=zjg G S;lia
 rcases XT.mp hx with hx | hx
 ·obtain⟨k,hk,rfl⟩:=XW.mp hx;have hk:=Yl.mp hk;have b:=G.small S.m6 (Xf p.m) (show p.n+k<=p.n+p.m by lia);exact⟨nn _ (by lia),b.2⟩
 ·obtain⟨c,hc,rfl⟩:=XW.mp hx;refine⟨M41.zrp G,?_⟩;by_cases z:∃k,k<p.m/\h.getD k 0=c
  ·obtain⟨k,hk,rfl⟩:=z;rw[M41.zlF G hk];exact(G.small S.m6 (Yv hk) (Xf _)).2
  ·rw[M41.znu λk hk e=>z ⟨k,hk,e⟩];decide
theorem zhC:∀(l:List Int)(a:Nat),gcdL a l ∣ a
 | [],a=>Nat.dvd_refl a
 | x::l,a=>Nat.dvd_trans (zhC l (Nat.gcd a x.toNat)) (Nat.gcd_dvd_left ..)
theorem zgF:∀ {l:List Int}{a:Nat}{x:Int},x∈l->gcdL a l ∣ x.toNat
 | y::l,a,x,h=>by
  rcases Xo.mp h with rfl | h
  ·exact Nat.dvd_trans (zhC l (Nat.gcd a x.toNat)) (Nat.gcd_dvd_right ..)
  ·exact zgF (l:=l) (a:=Nat.gcd a y.toNat) h
theorem znA {p:Pb}{h:List Nat}(G:Gd p h):0<gP p h:=by
 have h1:gP p h ∣ (bt p h).toNat:=zgF Xm;have:=G.pos;exact Nat.pos_of_dvd_of_pos h1 (by lia)
section
variable {P:Program}{w:World}{K:Xa}{mg:Str->Option Value}{base:Heap}
theorem zqA:zan ["numbers","found","number","rest","last"] ["numbers"] (zac sGcd):=⟨rfl,rfl,rfl,by decide +kernel,rfl,by decide +kernel,by decide +kernel⟩
theorem zqB {f:Addr}{fd:FuncData}(F:Fun K "greatest_divisor" "greatest_divisor" sGcd f fd) (B:Bl mg):FnOk P w K mg base CX0 1 f fd ["numbers"] (spP K fGcd):=by
 refine zax F zqA (λds Q q163q=>by obtain⟨a,e,_⟩:=q163q;rw[e];rfl) (λcdv A outer s H E hr=>?_);have hu:(A.deeper (envOfC "greatest_divisor" (zac sGcd) s.heap.objs.size f cdv)).units+16<cLine:=by have q:=hr.units;lia
 have nd:=zqA.nd;refine⟨_,(zad (zaj (i:=1) nd rfl (Or.inl rfl) zaf)
   (zad (zbg rfl PassesOwn.never (zaH (zaa 0)) (zal (i:=2) nd rfl (Or.inl rfl)) (zad (zaj (i:=3) nd rfl (Or.inl rfl) (zaa 2))
   (zag (zcO PassesOwn.never (zff hu (zaa 3) zaf) (zad (zaj (i:=4) nd rfl (Or.inl rfl) (zaa 3))
   (zad (zaj (i:=3) nd rfl (Or.inl rfl) (zaZ (zaa 1) (zaa 4)))
   (zag (zaj (i:=1) nd rfl (Or.inl rfl) (zaa 4)))))))))
   (zag (zao (zaa 1))))),λds Q h=>?_⟩
 obtain⟨l,rfl,hl,q⟩:=h;walk_at "pu";walk_at "auto";obtain⟨Iv,hIv⟩:∃Iv:Nat->PEnv->Prop,∀i ρ,Iv i ρ↔∃k1 k2 k3:Option (PV×Bool),ρ=[some (PV.lst (l.map PV.int),false),some (PV.int (gcdL 0 (l.take i)),false),k1,k2,k3]:=⟨_,λ_ _=>Iff.rfl⟩;refine⟨Iv,(hIv _ _).mpr ⟨_,_,_,rfl⟩,?_,?_⟩
 ·intro i d ρ hd hI;obtain⟨k1,k2,k3,rfl⟩:=(hIv _ _).mp hI;rw[Xk]at hd;cases hx:l[i]? with
  | none=>rw[hx]at hd;cases hd
  | some x=>
   rw[hx]at hd;cases hd;obtain⟨x0,x1⟩:=hl x (XI hx);obtain⟨b0,rfl⟩:∃b0:Nat,x=b0:=⟨x.toNat,by lia⟩;have ha0:=zgE (Yf 5040) (hl.take i);have hn:gcdL 0 (l.take (i+1))=Nat.gcd (gcdL 0 (l.take i)) b0:=by rw[<- take_snoc hx,zhA,XH]
   walk_at "go";walk_at "go";obtain⟨Iw,hIw⟩:∃Iw:Nat->PEnv->Prop,∀m ρ,Iw m ρ↔∃(a:Nat) (k3:Option (PV×Bool)),ρ=[some (PV.lst (l.map PV.int),false),some (PV.int a,false),some (PV.int b0,false),some (PV.int m,false),k3]/\a<=5040/\m<=5040/\Nat.gcd a m=Nat.gcd (gcdL 0 (l.take i)) b0:=⟨_,λ_ _=>Iff.rfl⟩;refine⟨Iw,⟨b0,(hIw _ _).mpr ⟨_,k3,rfl,ha0,by lia,rfl⟩⟩,λm ρ hI=>?_⟩;obtain⟨a,k3,rfl,ha,hm,hg⟩:=(hIw _ _).mp hI;walk_at "go";by_cases e:m=0
   ·subst e;rw[if_neg (by simp)];rw[Nat.gcd_zero_right]at hg;exact(hIv _ _).mpr ⟨_,_,_,by rw[hn,<- hg]⟩
   ·rw[if_pos (by simpa using e)];walk_at "go";walk_at "go";have hlt:=Nat.mod_lt a (show 0<m by lia);have ec:(a:Int) % (m:Int)=((a % m:Nat):Int):=(Int.natCast_emod a m).symm;rw[ec];refine⟨by lia,?_⟩;walk_at "go";exact⟨a % m,hlt,(hIw _ _).mpr ⟨m,_,rfl,hm,by lia,by rw[euclid,hg]⟩⟩
 ·intro ρ hI;obtain⟨k1,k2,k3,rfl⟩:=(hIv _ _).mp hI;rw[Xb,List.take_length];walk_at "go";exact q
theorem zhD:zan ["shape","board","shared","w","y"] ["shape"] (zac zbk):=⟨rfl,rfl,rfl,by decide +kernel,rfl,by decide +kernel,by decide +kernel⟩
theorem zih {C f f0 f1 f2 f3 f4 f5 f6 f7 f8 f9 g0 g1 g2:Addr}{fd fd0 fd1 fd2 fd3 fd4 fd5 fd6 fd7 fd8 fd9 gd0 gd1 gd2:FuncData}(F:Fun K "weights" "weights" zbk f fd) (T:TF K C) (BInit:Ix K mg C "Board" "Board.__init__" zdm ["self","shape"] f0 fd0) (Without:Mx K C "without" "Board.without" zaX ["self","line","turned","column"] f1 fd1) (Sooner:Mx K C "ends_sooner" "Board.ends_sooner" zbV ["self","i","j","column"] f2 fd2) (Line:Mx K C "line_that_ends" "Board.line_that_ends" zfF ["self","column"] f3 fd3) (Col:Mx K C "column_to_raise" "Board.column_to_raise" sCol ["self"] f4 fd4) (Turn:Mx K C "turn" "Board.turn" zfp ["self","i","column"] f5 fd5)
  (Settle:Mx K C "settle" "Board.settle" zcC ["self"] f6 fd6) (Price:Mx K C "price" "Board.price" zdn ["self","column"] f7 fd7) (Prices:Mx K C "prices" "Board.prices" zck ["self"] f8 fd8) (Worths:Mx K C "worths" "Board.worths" zcD ["self"] f9 fd9) (LettersOf:Fx K mg "letters_of" zaI ["shape"] g0 gd0) (FirstLines:Fx K mg "first_lines" zat ["shape","letters"] g1 gd1) (Gcd:Fx K mg "greatest_divisor" sGcd ["numbers"] g2 gd2) (B:Bl mg):FnOk P w K mg base CX0 4 f fd ["shape"] (spR K zaN):=by
 have GBInit:FnOk P w K mg base CX0 2 f0 fd0 ["self","shape"] (zgv K C bks "held" zcX):=zmV BInit.fn T LettersOf FirstLines B;have GSettle:FnOk P w K mg base CX0 3 f6 fd6 ["self"] (spZ K C bks "held" zbo):=zlL Settle.fn T Without Sooner Line Col Turn B;have GPrices:FnOk P w K mg base CX0 3 f8 fd8 ["self"] (spP K (zbX C)):=(zlO Prices.fn T Price B).mono (by decide);have GWorths:FnOk P w K mg base CX0 3 f9 fd9 ["self"] (spP K (zby C)):=(zlP Worths.fn T B).mono (by decide);have GGcd:FnOk P w K mg base CX0 3 g2 gd2 ["numbers"] (spP K fGcd):=(zqB Gcd.fn B).mono (by decide);refine fn_R F zhD (λds Q q164q=>by obtain⟨a,e,_⟩:=q164q;rw[e];rfl) (λcdv A outer s H E hr=>?_);have hu:(A.deeper (envOfC "weights" (zac zbk) s.heap.objs.size f cdv)).units+16<cLine:=by have q:=hr.units;lia
 have nd:=zhD.nd;refine⟨_,(zlx BInit.make T.c Settle.me GBInit GSettle zjR zig hr hr rfl BInit.mg BInit.bd Settle.bd (zab (zaa 0) zae)
   (zgx (zaj (i:=2) nd rfl (Or.inr rfl) (zaw GGcd zmX hr rfl Gcd.mg Gcd.fn.kp Gcd.bd (zab (zcQ (zcQ (zbP (zab (zaV T.c T.bottom (zaa 1)) zae)) (zdc T.c Worths.me GWorths zfv hr Worths.bd (zaa 1))) (zdc T.c Prices.me GPrices zfu hr Prices.bd (zaa 1))) zae)))
   (zgx (zeJ (i:=3) (N:=["worth","shared"]) (k:=1) (js:=[2]) rfl (zdE (sup:=zac zbk) (XN:=["shape","board","shared","w","y"]) rfl rfl (by decide +kernel)) (by decide) (zaP (by decide)) (zaH (zdc T.c Worths.me GWorths zfv hr Worths.bd (zaa 1))) ⟨λ_ _ _ _ _=>(zal (i:=0) (by show(["worth","shared"]:List Str).Nodup;decide +kernel) rfl (Or.inl rfl)),λ_ _ _ _ _=>zbh,λ_ _ _ _ _=>(zeA (zaa 0) (zaa 1))⟩ nd rfl rfl)
   (zgx (zeJ (i:=4) (N:=["price","shared"]) (k:=1) (js:=[2]) rfl (zdE (sup:=zac zbk) (XN:=["shape","board","shared","w","y"]) rfl rfl (by decide +kernel)) (by decide) (zaP (by decide)) (zaH (zdc T.c Prices.me GPrices zfu hr Prices.bd (zaa 1))) ⟨λ_ _ _ _ _=>(zal (i:=0) (by show(["price","shared"]:List Str).Nodup;decide +kernel) rfl (Or.inl rfl)),λ_ _ _ _ _=>zbh,λ_ _ _ _ _=>(zeA (zaa 0) (zaa 1))⟩ nd rfl rfl)
   (zoI (ix:=3) (iy:=4) (zeA (zaV T.c T.bottom (zaa 1)) (zaa 2)) rfl rfl)))) nd (iy:=1) rfl (Or.inl rfl)),λds Q h=>?_⟩
 obtain⟨sh,rfl,S,q⟩:=h;have hsz:=sizeLine_eq;walk_at "pu";refine⟨by decide,by decide,sh,rfl,S,λL hN=>⟨pbOf hN,rfl,rfl,zmU S hN,λh D=>?_⟩⟩;have q:=q L hN h D;have M:=zmU S hN;generalize pbOf hN=p at *;have G:=D.gd;have lo:=znz G M D.nn;have h1:=M.m6;have h2:=M.n6;have lw:(zbx p h).length=p.m:=by unfold zbx;rw[Xb,Xz]
 have lp:(zbW p h).length=p.n:=by unfold zbW;rw[Xb,Xz]
 refine zmP ?_;walk_at "pu";refine⟨_,_,rfl,_,rfl,by lia,_,⟨_,rfl⟩,by decide,p,h,rfl,G,M,by rw[Xb];lia,_,⟨_,rfl⟩,by decide,p,h,rfl,G,M,by rw[Xb,Xb];lia,allI p h,by unfold allI;rw[XJ,Xn],lo,?_⟩;have gp:=znA G;have gl:gP p h<=5040:=zgE (Yf 5040) lo;rw[show gcdL 0 (allI p h)=gP p h from rfl];refine zmP ?_;walk_at "pu";refine⟨_,⟨_,rfl⟩,by decide,p,h,rfl,G,M,by rw[Xb];lia,λk out=>out=(((zbx p h).take k).map λ(x:Int)=>x / (gP p h:Int)).map PV.int,rfl,?_,?_⟩
 ·rintro k d out hd-rfl;rw[Xk]at hd;cases hx:(zbx p h)[k]? with
  | none=>rw[hx]at hd;cases hd
  | some x=>
   rw[hx]at hd;cases hd;refine⟨x,rfl,⟨by lia,by lia⟩,?_⟩;show _=_;rw[<- take_snoc hx,Xn,Xn];rfl
 ·rintro out-rfl;rw[Xb,XQ (Xf _)];refine zmP ?_;walk_at "pu";refine⟨_,⟨_,rfl⟩,by decide,p,h,rfl,G,M,by rw[Xb];lia,λk out=>out=(((zbW p h).take k).map λ(x:Int)=>x / (gP p h:Int)).map PV.int,rfl,?_,?_⟩
  ·rintro k d out hd-rfl;rw[Xk]at hd;cases hx:(zbW p h)[k]? with
   | none=>rw[hx]at hd;cases hd
   | some x=>
    rw[hx]at hd;cases hd;refine⟨x,rfl,⟨by lia,by lia⟩,?_⟩;show _=_;rw[<- take_snoc hx,Xn,Xn];rfl
  ·rintro out-rfl;rw[Xb,XQ (Xf _)];refine zmP ?_;walk_at "pu";exact⟨by decide,_,_,rfl,_,rfl,_,rfl,⟨by lia,by lia⟩,_,rfl,_,rfl,q⟩
theorem zhE {k:Nat}{f:Addr}{fd:FuncData}{ps:List Str}(G:FnOk P w K mg base CX0 k f fd ps (spR K zaN)):FnOk P w K mg base CX0 k f fd ps (spP K zbp):=FnOk.told zdX G
end
noncomputable def mixed (c k:Int):Int:=if c > 10 ^ 8 then(c / 1000 / (10 ^ 7) ^ k.toNat) % 10 ^ 7 else
 let o:=(c % 2147483647+40503*k*k+17*k)*48271 % 2147483647
 o*(o % 65537+3*k+1) % 2147483629
noncomputable def zcx:PF:=λds Q=>∃c k:Int,ds=[.int c,.int k]/\0<=k/\k<=1000/\Q (.int (mixed c k)) .frz
theorem zbN:zaU zcx:=λds Q Q' m q165q=>by obtain⟨c,j,e,h1,h2,q⟩:=q165q;exact⟨c,j,e,h1,h2,m _ _ q⟩
noncomputable def zbY:PF:=λds Q=>∃(c many:Int)(es:List PV)(x:PV),ds=[.int c,x,.int many]/\(x=.lst es\/x=.tup es)/\es.length<=100/\
 ∀told left:List PV,(told++left).Perm es->told.length=min many.toNat es.length->Q (.lst told) .new
theorem zdy:zaU zbY:=λds Q Q' m q166q=>by obtain⟨c,n,es,x,e,h1,h2,q⟩:=q166q;exact⟨c,n,es,x,e,h1,h2,λt l a b=>m _ _ (q t l a b)⟩
noncomputable abbrev ABC:Str:="ABCDEFGHIJKLMNOPQRSTUVWXYZ"
noncomputable def zii (n:Nat):List Str:=(Xp 6).map λi=>⟨#[65+n+i]⟩
theorem zoR:∀n:Nat,n<21->signs (Txt.slice ABC (some (n:Int)) (some ((n:Int)+6)))=zii n:=by decide +kernel
theorem zqC:∀n:Nat,n<21->(Txt.slice ABC (some (n:Int)) (some ((n:Int)+6))).length=6:=by decide +kernel
theorem zew (n:Nat):(zii n).length=6:=by simp[zii]
noncomputable def zfw (c:Int):Nat:=(mixed c 1 % 21).toNat
noncomputable def zaO:PF:=λds Q=>∃c:Int,ds=[.int c]/\Q (.lst ((zii (zfw c)).map PV.str)) .new
theorem zgG:zaU zaO:=λds Q Q' m q167q=>by obtain⟨c,e,q⟩:=q167q;exact⟨c,e,m _ _ q⟩
theorem zij:∀ {L:List Str}{told:List PV},(∀d∈told,d∈L.map PV.str)->∃ts:List Str,told=ts.map PV.str/\∀x∈ts,x∈L
 | L,[],_=>⟨[],rfl,λx h=>by cases h⟩
 | L,d::told,h=>by
  obtain⟨ts,e,h2⟩:=zij (L:=L) (told:=told) λd hd=>h d (Xh _ hd);obtain⟨x,hx,rfl⟩:=XW.mp (h d (Xm ..));exact⟨x::ts,by rw[e];rfl,λy hy=>by rcases Xo.mp hy with rfl | hy;exact hx;exact h2 y hy⟩
theorem zlQ {L:List Str}{told left:List PV}(h:(told++left).Perm (L.map PV.str)):∃ts:List Str,told=ts.map PV.str/\∀x∈ts,x∈L:=
 zij λd hd=>h.mem_iff.mp (Ym _ hd)
theorem zeS {l:List PV}{i:Int}(h0:0<=i)(h1:i<l.length):∃x,atI l i=some x/\l[i.toNat]? = some x:=by
 obtain⟨n,rfl⟩:∃n:Nat,i=n:=⟨i.toNat,by lia⟩;have hn:n<l.length:=by lia
 exact⟨l[n],zaB (by simp[hn]),by simp[hn]⟩
theorem znB (l:List PV){i:Int}(h0:0<=i)(h1:i<=l.length):cutP l none (some i)=l.take i.toNat:=by
 obtain⟨n,rfl⟩:∃n:Nat,i=n:=⟨i.toNat,by lia⟩;unfold cutP;rw[HT.zdo,HT.ziu,Nat.min_eq_left (by lia)];simp
theorem zjk (l:List PV){i:Int}(h0:0<=i)(h1:i<=l.length):cutP l (some i) none=l.drop i.toNat:=by
 obtain⟨n,rfl⟩:∃n:Nat,i=n:=⟨i.toNat,by lia⟩;unfold cutP;rw[HT.zdo,HT.ziu,Nat.min_eq_left (by lia),XQ (by simp)];simp
section
variable {P:Program}{w:World}{K:Xa}{mg:Str->Option Value}{base:Heap}
theorem zlR:zan ["_law_cell","_law_k","_law_left","_law_j","_law_one"] ["_law_cell","_law_k"] (zac zcg):=⟨rfl,rfl,rfl,by decide +kernel,rfl,by decide +kernel,by decide +kernel⟩
theorem zeM {f:Addr}{fd:FuncData}(F:Fun K "_law_mixed" "_law_mixed" zcg f fd) (B:Bl mg):FnOk P w K mg base CX0 1 f fd ["_law_cell","_law_k"] (spP K zcx):=by
 refine zax F zlR (λds Q q168q=>by obtain⟨c,j,e,_⟩:=q168q;rw[e];rfl) (λcdv A outer s H E hr=>?_);have hu:(A.deeper (envOfC "_law_mixed" (zac zcg) s.heap.objs.size f cdv)).units+16<cLine:=by have q:=hr.units;lia
 have nd:=zlR.nd;refine⟨_,(zad (zbB (zhg (zaa 0) (zkO zaf zaf)) (zad (zaj (i:=2) nd rfl (Or.inl rfl) (zeA (zaa 0) zaf))
   (zad (zbg rfl PassesOwn.never (zaQ rfl B.range (zab (zaa 1) zae)) (zal (i:=3) nd rfl (Or.inl rfl)) (zag (zaj (i:=2) nd rfl (Or.inl rfl) (zeA (zaa 2) (zkO zaf zaf)))))
   (zag (zao (zaZ (zaa 2) (zkO zaf zaf)))))) zaA)
   (zad (zaj (i:=4) nd rfl (Or.inl rfl) (zaZ (zcF (zbq (zbq (zaZ (zaa 0) zaf) (zcF (zcF zaf (zaa 1)) (zaa 1))) (zcF zaf (zaa 1))) zaf) zaf))
   (zag (zao (zaZ (zcF (zaa 4) (zbq (zbq (zaZ (zaa 4) zaf) (zcF zaf (zaa 1))) zaf)) zaf))))),λds Q h=>?_⟩
 obtain⟨c,k,rfl,h0,h1,q⟩:=h;walk_at "pu";have p7:(10:Int) ^ Int.toNat 7=10000000:=by decide
 have p8:(10:Int) ^ Int.toNat 8=100000000:=by decide
 refine⟨⟨by decide,by decide,by decide⟩,ite2 (λe1=>?a) (λe1=>?b)⟩
 case a=>
  walk_at "auto";obtain⟨Iv,hIv⟩:∃Iv:Nat->PEnv->Prop,∀i ρ,Iv i ρ↔∃kv:Option (PV×Bool),ρ=[some (PV.int c,false),some (PV.int k,false),some (PV.int (c / 1000 / (10 ^ 7) ^ i),false),kv,none]:=⟨_,λ_ _=>Iff.rfl⟩;refine⟨Iv,(hIv _ _).mpr ⟨none,by simp⟩,?_,?_⟩
  ·intro i d ρ hd hI;obtain⟨kv,rfl⟩:=(hIv _ _).mp hI;obtain⟨hi,rfl⟩:=zbz hd;walk_at "go";walk_at "auto";refine(hIv _ _).mpr ⟨some (PV.int (0+(i:Int)),false),?_⟩;have e3:c / 1000 / (10 ^ 7) ^ i / 10 ^ Int.toNat 7=c / 1000 / (10 ^ 7) ^ (i+1):=by
    rw[p7,show((10:Int) ^ 7)=10000000 from by decide,Int.pow_succ,Int.ediv_ediv_of_nonneg (Int.pow_nonneg (by decide))]
   rw[e3]
  ·intro ρ hI;obtain⟨kv,rfl⟩:=(hIv _ _).mp hI;rw[zbf];walk_at "auto";unfold mixed at q;rw[if_pos (by lia)]at q;exact q
 case b=>
  walk_at "auto";unfold mixed at q;rw[if_neg (by lia)]at q;exact q
theorem zjl:zan ["_law_cell","_law_some","_law_many","_law_left","_law_told","_law_at"] ["_law_cell","_law_some","_law_many"] (zac zbE):=⟨rfl,rfl,rfl,by decide +kernel,rfl,by decide +kernel,by decide +kernel⟩
theorem zfx {f fM:Addr}{fd fdM:FuncData}(F:Fun K "_law_picked" "_law_picked" zbE f fd) (Mixed:Fx K mg "_law_mixed" zcg ["_law_cell","_law_k"] fM fdM) (B:Bl mg):FnOk P w K mg base CX0 2 f fd ["_law_cell","_law_some","_law_many"] (spP K zbY):=by
 have GMixed:FnOk P w K mg base CX0 1 fM fdM ["_law_cell","_law_k"] (spP K zcx):=zeM Mixed.fn B;refine zax F zjl (λds Q q169q=>by obtain⟨c,n,es,x,e,_⟩:=q169q;rw[e];rfl) (λcdv A outer s H E hr=>?_);have hu:(A.deeper (envOfC "_law_picked" (zac zbE) s.heap.objs.size f cdv)).units+16<cLine:=by have q:=hr.units;lia
 have nd:=zjl.nd;refine⟨_,(zad (zaj (i:=3) nd rfl (Or.inl rfl) (zia rfl B.list (zab (zaa 1) zae)))
   (zad (zaj (i:=4) nd rfl (Or.inl rfl) (zbP zae))
   (zad (zcO PassesOwn.never (PuW.t (zhX (zfg (zaF rfl B.len (zab (zaa 4) zae)) (zaa 2)) (zgj (zhg (zaF rfl B.len (zab (zaa 3) zae)) zaf)))) (zad (zaj (i:=5) nd rfl (Or.inl rfl) (zaZ (zaw GMixed zbN hr rfl Mixed.mg Mixed.fn.kp Mixed.bd (zab (zaa 0) (zab (zbq zaf (zaF rfl B.len (zab (zaa 4) zae))) zae))) (zaF rfl B.len (zab (zaa 3) zae))))
   (zad (zbi (zba 4 (zah (zaa 3) (zaa 5))))
   (zag (zaj (i:=3) nd rfl (Or.inl rfl) (zcQ (zcA (zaa 3) zdR (zbj (zaa 5))) (zcA (zaa 3) (zbj (zbq (zaa 5) zaf)) zdR)))))))
   (zag (zao (zaa 4)))))),λds Q h=>?_⟩
 obtain⟨c,many,es,x,rfl,hx,hz,q⟩:=h;walk_at "pu";refine⟨es,hx,?_⟩;walk_at "auto";obtain⟨Iv,hIv⟩:∃Iv:Nat->PEnv->Prop,∀m ρ,Iv m ρ↔∃(told left:List PV) (kv:Option (PV×Bool)),ρ=[some (PV.int c,false),some (x,false),some (PV.int many,false),some (PV.lst left,true),some (PV.lst told,true),kv]/\
   (told++left).Perm es/\told.length<=many.toNat/\m=left.length:=⟨_,λ_ _=>Iff.rfl⟩
 refine⟨Iv,⟨_,(hIv _ _).mpr ⟨[],es,none,rfl,by simp,Yf _,rfl⟩⟩,?_⟩;intro m ρ hI;obtain⟨told,left,kv,rfl,hp,hm,rfl⟩:=(hIv _ _).mp hI;have hlen:=hp.length_eq;rw[Xr]at hlen;walk_at "go";have fin:(told.length=min many.toNat es.length)->Hold (pRet (pVar 4)) { nx:=λx=>Q PV.non Kd.frz,rt:=Q,bk:=λx=>False,ct:=λx=>False }
    [some (PV.int c,false),some (x,false),some (PV.int many,false),some (PV.lst left,true),some (PV.lst told,true),kv]:=λhl=>by
  walk_at "go";exact q told left hp hl
 refine ite2 (λe1=>ite2 (λe2=>?_) (λe2=>fin (by lia))) (λe1=>fin (by lia));have hl0:0<left.length:=by lia
 have n1:=YC (mixed c (3+(told.length:Int))) (show(left.length:Int)≠0 by lia);have n2:=Yn (mixed c (3+(told.length:Int))) (show(0:Int)<left.length by lia);obtain⟨y,hy,hy2⟩:=zeS n1 n2;walk_at "go";walk_at "auto";generalize hat:mixed c (3+(told.length:Int)) % (left.length:Int)=at_ at *;refine⟨by rw[sizeLine_eq];lia,y,hy,?_⟩;walk_at "go";rw[znB left n1 (by lia),zjk left (i:=at_+1) (by lia) (by lia)];have hn:at_.toNat<left.length:=by lia
 have e3:(at_+1).toNat=at_.toNat+1:=by lia
 rw[e3];have hsp:left=left.take at_.toNat++y::left.drop (at_.toNat+1):=by
  rw[Xl hn]at hy2;cases hy2;rw[List.getElem_cons_drop,List.take_append_drop]
 refine⟨by rw[XX,List.length_drop,sizeLine_eq];lia,left.length-1,by lia,(hIv _ _).mpr ⟨told++[y],_,_,rfl,?_,by rw[Xr,Yt];lia,by rw[Xr,XX,List.length_drop];lia⟩⟩;refine List.Perm.trans ?_ hp
 conv=>rhs;rw[hsp]
 rw[List.append_assoc];refine List.Perm.append_left _ ?_;exact(List.perm_middle (a:=y) (l₁:=left.take at_.toNat) (l₂:=left.drop (at_.toNat+1))).symm
theorem zfW:zan ["_law_cell","_law_first"] ["_law_cell"] (zac zbl):=⟨rfl,rfl,rfl,by decide +kernel,rfl,by decide +kernel,by decide +kernel⟩
theorem zik {f fM:Addr}{fd fdM:FuncData}(F:Fun K "_law_alphabet" "_law_alphabet" zbl f fd) (Mixed:Fx K mg "_law_mixed" zcg ["_law_cell","_law_k"] fM fdM) (B:Bl mg):FnOk P w K mg base CX0 2 f fd ["_law_cell"] (spP K zaO):=by
 have GMixed:FnOk P w K mg base CX0 1 fM fdM ["_law_cell","_law_k"] (spP K zcx):=zeM Mixed.fn B;refine zax F zfW (λds Q q170q=>by obtain⟨c,e,_⟩:=q170q;rw[e];rfl) (λcdv A outer s H E hr=>?_);have hu:(A.deeper (envOfC "_law_alphabet" (zac zbl) s.heap.objs.size f cdv)).units+16<cLine:=by have q:=hr.units;lia
 have nd:=zfW.nd;refine⟨_,(zad (zaj (i:=1) nd rfl (Or.inl rfl) (zaZ (zaw GMixed zbN hr rfl Mixed.mg Mixed.fn.kp Mixed.bd (zab (zaa 0) (zab zaf zae))) zaf))
   (zag (zao (zmF rfl rfl B.list (zab (zli zpK (zbj (zaa 1)) (zbj (zbq (zaa 1) zaf))) zae))))),λds Q h=>?_⟩
 obtain⟨c,rfl,q⟩:=h;have n1:=YC (mixed c 1) (show(21:Int)≠0 by decide);have n2:=Yn (mixed c 1) (show(0:Int)<21 by decide);have e1:mixed c 1 % 21=(zfw c:Int):=by unfold zfw;lia
 have h21:zfw c<21:=by lia
 walk_at "pu";walk_at "auto";rw[e1];refine⟨by rw[zqC _ h21,sizeLine_eq];lia,?_⟩;rw[zoR _ h21];exact q
end
noncomputable def Pats (L:List Str)(n:Nat)(sh:List (List Str)):Prop:=sh.length=n/\∀p∈sh,p.length<=4/\∀x∈p,x∈L
theorem Pats.snoc {L:List Str}{n:Nat}{sh:List (List Str)}{p:List Str}(h:Pats L n sh)(h1:p.length<=4)(h2:∀x∈p,x∈L):Pats L (n+1) (sh++[p]):=
 ⟨by rw[Xr,h.1];rfl,λq hq=>by
  rcases XT.mp hq with hq | hq
  ·exact h.2 q hq
  ·rw[XB]at hq;subst hq;exact⟨h1,h2⟩⟩
noncomputable def zbC:PF:=λds Q=>∃(cs:List Int)(a many:Int),ds=[.lst (cs.map PV.int),.int a,.int many]/\0<=a/\a<=1000/\0<=many/\many<=100/\∀zs:List Int,zs.length=many.toNat->Q (.lst (zs.map PV.int)) .new
theorem zgH:zaU zbC:=λds Q Q' m q171q=>by obtain⟨cs,a,n,e,h1,h2,h3,h4,q⟩:=q171q;exact⟨cs,a,n,e,h1,h2,h3,h4,λzs h=>m _ _ (q zs h)⟩
theorem cget {cs:List Int}{i:Nat}(h:i<cs.length){j:Int}(hj:j=i):atI (cs.map PV.int) j=some (.int cs[i]):=by
 subst hj;exact zaB (by simp[h])
structure zbZ (L:List Str)(n:Nat)(sh:List (List Str))(ps:List (Option Nat)):Prop where
 pats:Pats L n sh
 plen:ps.length=n
 ne:∀p∈sh,p≠[]
noncomputable def parP:Option Nat->PV
 | none=>.non
 | some p=>.int p
theorem zbZ.snoc {L:List Str}{n m:Nat}{sh:List (List Str)}{ps:List (Option Nat)}{new ts:List Str}{par:Option Nat}(T:zbZ L n sh ps)(N:∀x∈new,x∈L)(h4:(new.take m++ts).length<=4)(hne:new.take m++ts≠[])
  (hp:(par=none/\n=0/\ts=[])\/∃j q,par=some j/\j<n/\sh[j]? = some q/\∀x∈ts,x∈q):zbZ L (n+1) (sh++[new.take m++ts]) (ps++[par])/\∀x∈new.drop m,x∈L:=by
 have hsub:∀x∈new.take m++ts,x∈L:=λx hx=>by
  rcases XT.mp hx with hx | hx
  ·exact N x (List.mem_of_mem_take hx)
  ·rcases hp with ⟨_,_,e⟩ | ⟨j,q,_,_,hq,hs⟩
   ·rw[e]at hx;cases hx
   ·exact(T.pats.2 q (XI hq)).2 x (hs x hx)
 refine⟨⟨T.pats.snoc h4 hsub,by rw[Xr,T.plen];rfl,λp hp=>?_⟩,λx hx=>N x (List.mem_of_mem_drop hx)⟩;rcases XT.mp hp with hp | hp
 ·exact T.ne p hp
 ·rw[XB]at hp;subst hp;exact hne
theorem zbZ.nil (L:List Str):zbZ L 0 [] []:=⟨⟨rfl,λp hp=>by cases hp⟩,rfl,λp hp=>(by cases hp)⟩
noncomputable def zfH:PF:=λds Q=>∃(cs:List Int)(L:List Str),ds=[.lst (cs.map PV.int),.lst (L.map PV.str)]/\cs.length<=6/\L.length=6/\∀sh ps,zbZ L cs.length sh ps->Q (.tup [.lst (sh.map ltsP),.lst (ps.map parP)]) .frz
theorem zlS:zaU zfH:=λds Q Q' m q172q=>by obtain⟨cs,L,e,h1,h2,q⟩:=q172q;exact⟨cs,L,e,h1,h2,λsh ps a=>m _ _ (q sh ps a)⟩
section
variable {P:Program}{w:World}{K:Xa}{mg:Str->Option Value}{base:Heap}
theorem zfX:zan ["_law_cells","_law_at","_law_many","_law_told"] ["_law_cells","_law_at","_law_many"] (zac zbm):=⟨rfl,rfl,rfl,by decide +kernel,rfl,by decide +kernel,by decide +kernel⟩
theorem zil {f:Addr}{fd:FuncData}(F:Fun K "_law_filled_up" "_law_filled_up" zbm f fd) (B:Bl mg):FnOk P w K mg base CX0 1 f fd ["_law_cells","_law_at","_law_many"] (spP K zbC):=by
 refine zax F zfX (λds Q q173q=>by obtain⟨c,a,n,e,_⟩:=q173q;rw[e];rfl) (λcdv A outer s H E hr=>?_);have hu:(A.deeper (envOfC "_law_filled_up" (zac zbm) s.heap.objs.size f cdv)).units+16<cLine:=by have q:=hr.units;lia
 have nd:=zfX.nd;refine⟨_,(zad (zaj (i:=3) nd rfl (Or.inl rfl) (zcA (zaa 0) (zbj (zaa 1)) (zbj (zbq (zaa 1) (zaa 2)))))
   (zad (zcO PassesOwn.never (zfg (zaF rfl B.len (zab (zaa 3) zae)) (zaa 2)) (zag (zbi (zba 3 (zbq (zcF zaf (zaF rfl B.len (zab (zaa 3) zae))) (zcF zaf (zaa 1)))))))
   (zag (zao (zaa 3))))),λds Q h=>?_⟩
 obtain⟨cs,a,many,rfl,ha,ha2,hm,hm2,q⟩:=h;walk_at "pu";walk_at "auto";obtain⟨zs,hzs,hzl⟩:∃zs:List Int,cutP (cs.map PV.int) (some a) (some (a+many))=zs.map PV.int/\zs.length<=many.toNat:=by
  obtain⟨n,rfl⟩:∃n:Nat,a=n:=⟨a.toNat,by lia⟩;obtain⟨m,rfl⟩:∃m:Nat,many=m:=⟨many.toNat,by lia⟩;refine⟨(cs.drop (min n cs.length)).take (min (n+m) cs.length-min n cs.length),?_,?_⟩
  ·unfold cutP;rw[HT.zdo,show((n:Int)+(m:Int))=((n+m:Nat):Int) by lia,HT.zdo,Xb,List.map_take,List.map_drop]
  ·rw[XX,List.length_drop];lia
 rw[hzs];obtain⟨Iv,hIv⟩:∃Iv:Nat->PEnv->Prop,∀m ρ,Iv m ρ↔∃zs:List Int,ρ=[some (PV.lst (cs.map PV.int),false),some (PV.int a,false),some (PV.int many,false),some (PV.lst (zs.map PV.int),true)]/\zs.length<=many.toNat/\m=many.toNat-zs.length:=⟨_,λ_ _=>Iff.rfl⟩;refine⟨Iv,⟨_,(hIv _ _).mpr ⟨zs,rfl,hzl,rfl⟩⟩,?_⟩;intro m ρ hI;obtain⟨zs,rfl,hl,rfl⟩:=(hIv _ _).mp hI;walk_at "go";refine ite2 (λe1=>?_) (λe1=>?_)
 ·rw[Xb]at e1;walk_at "go";rw[Xb];refine⟨by rw[sizeLine_eq];lia,.inl ⟨by decide,by decide⟩,.inl ⟨by decide,by decide⟩,_,?_,(hIv _ _).mpr ⟨zs++[7*(zs.length:Int)+3*a],by rw[Xn];rfl,?_,rfl⟩⟩
  all_goals (rw[Xr,Yt];lia)
 ·rw[Xb]at e1;walk_at "go";exact q zs (by lia)
noncomputable abbrev tFin:TPS:=pSeq (pSet 8 (PL.tB zdv (zaE (pVar 8) (zaE (pSub (pC (PV.int 4)) (PL.tB fLen (zaE (pVar 6) pNil))) (zaE (PL.tB fLen (zaE (pVar 4) pNil)) pNil)))))
        (pSeq (zbH (mApp 2 (PL.tB zbI (zaE (t2 pCat (pSlL (pVar 4) zds (zdu (pVar 8))) (pVar 6)) pNil))))
         (pSeq (pSet 4 (pSlL (pVar 4) (zdu (pVar 8)) zds)) (zbH (mApp 3 (pVar 7)))))
noncomputable abbrev zrq:TPS:=pSeq (pSet 8 (pMod (zbQ zcx (zaE (t2 pIx (pVar 0) (pVar 5)) (zaE (pC (PV.int 22)) pNil))) (pC (PV.int 3))))
      (pSeq
       (pIf
        (zdg (tBl (t2 (pEq false) (PL.tB fLen (zaE (pVar 6) pNil)) (pC (PV.int 0))))
         (tOrP (tBl (t2 (pEq false) (pVar 8) (pC (PV.int 0))))
          (tBl (t2 (pEq false) (PL.tB fLen (zaE (pVar 4) pNil)) (pC (PV.int 0))))))
        (pSeq (pSet 8 (pC (PV.int 1)))
         (pIf (tBl (t2 (pEq false) (PL.tB fLen (zaE (pVar 4) pNil)) (pC (PV.int 0))))
          (pSet 6 (pLst (zaE (t2 pIx (t2 pIx (pVar 2) (pVar 7)) (pC (PV.int 0))) pNil))) zcN))
        zcN) tFin)
theorem znC:zan ["_law_cells","_law_letters_here","_law_shape_here","_law_parents","_law_new","_law_k","_law_pattern","_law_parent","_law_more"] ["_law_cells","_law_letters_here"] (zac zgA):=⟨rfl,rfl,rfl,by decide +kernel,rfl,by decide +kernel,by decide +kernel⟩
theorem zoS {f fM fP:Addr}{fd fdM fdP:FuncData}(F:Fun K "_law_tree" "_law_tree" zgA f fd) (Mixed:Fx K mg "_law_mixed" zcg ["_law_cell","_law_k"] fM fdM) (Picked:Fx K mg "_law_picked" zbE ["_law_cell","_law_some","_law_many"] fP fdP) (B:Bl mg):FnOk P w K mg base CX0 3 f fd ["_law_cells","_law_letters_here"] (spP K zfH):=by
 have GMixed:FnOk P w K mg base CX0 2 fM fdM ["_law_cell","_law_k"] (spP K zcx):=(zeM Mixed.fn B).mono (by decide);have GPicked:FnOk P w K mg base CX0 2 fP fdP ["_law_cell","_law_some","_law_many"] (spP K zbY):=zfx Picked.fn Mixed B;refine zax F znC (λds Q q174q=>by obtain⟨c,L,e,_⟩:=q174q;rw[e];rfl) (λcdv A outer s H E hr=>?_);have hu:(A.deeper (envOfC "_law_tree" (zac zgA) s.heap.objs.size f cdv)).units+16<cLine:=by have q:=hr.units;lia
 have nd:=znC.nd;refine⟨_,(zad (zaj (i:=2) nd rfl (Or.inl rfl) (zbP zae))
   (zad (zaj (i:=3) nd rfl (Or.inl rfl) (zbP zae))
   (zad (zaj (i:=4) nd rfl (Or.inl rfl) (zia rfl B.list (zab (zaa 1) zae)))
   (zad (zbg rfl PassesOwn.never (zaQ rfl B.range (zab (zaF rfl B.len (zab (zaa 0) zae)) zae)) (zal (i:=5) nd rfl (Or.inl rfl)) (zad (zaj (i:=6) nd rfl (Or.inl rfl) (zbP zae))
   (zad (zaj (i:=7) nd rfl (Or.inl rfl) zha)
   (zad (zbB (zhg (zaa 5) zaf) (zad (zaj (i:=7) nd rfl (Or.inl rfl) (zaZ (zaw GMixed zbN hr rfl Mixed.mg Mixed.fn.kp Mixed.bd (zab (zah (zaa 0) (zaa 5)) (zab zaf zae))) (zaa 5)))
   (zag (zaj (i:=6) nd rfl (Or.inl rfl) (zaw GPicked zdy hr rfl Picked.mg Picked.fn.kp Picked.bd (zab (zah (zaa 0) (zaa 5)) (zab (zah (zaa 2) (zaa 7)) (zab (zaZ (zaw GMixed zbN hr rfl Mixed.mg Mixed.fn.kp Mixed.bd (zab (zah (zaa 0) (zaa 5)) (zab zaf zae))) zaf) zae))))))) zaA)
   (zad (zaj (i:=8) nd rfl (Or.inl rfl) (zaZ (zaw GMixed zbN hr rfl Mixed.mg Mixed.fn.kp Mixed.bd (zab (zah (zaa 0) (zaa 5)) (zab zaf zae))) zaf))
   (zad (zbB (PuW.t (zhX (zdO hu (zaF rfl B.len (zab (zaa 6) zae)) zaf) (zgj (PuW.t (zdk (zdO hu (zaa 8) zaf) (zcL (zdO hu (zaF rfl B.len (zab (zaa 4) zae)) zaf))))))) (zad (zaj (i:=8) nd rfl (Or.inl rfl) zaf)
   (zag (zbB (zdO hu (zaF rfl B.len (zab (zaa 4) zae)) zaf) (zag (zaj (i:=6) nd rfl (Or.inl rfl) (zbP (zab (zah (zah (zaa 2) (zaa 7)) zaf) zae)))) zaA))) zaA)
   (zad (zaj (i:=8) nd rfl (Or.inl rfl) (zoA rfl rfl B.min (zab (zaa 8) (zab (znn zaf (zaF rfl B.len (zab (zaa 6) zae))) (zab (zaF rfl B.len (zab (zaa 4) zae)) zae)))))
   (zad (zbi (zba 2 (zgo rfl B.tuple (zab (zcQ (zcA (zaa 4) zdR (zbj (zaa 8))) (zaa 6)) zae))))
   (zad (zaj (i:=4) nd rfl (Or.inl rfl) (zcA (zaa 4) (zbj (zaa 8)) zdR))
   (zag (zbi (zba 3 (zaa 7)))))))))))))
   (zag (zej 3 (zej 2 (zao (zkS (zab (zaa 2) (zab (zaa 3) zae))))))))))),λds Q h=>?_⟩
 obtain⟨cs,L,rfl,h6,hL,q⟩:=h;walk_at "pu";walk_at "auto";rw[Xb];obtain⟨Iv,hIv⟩:∃Iv:Nat->PEnv->Prop,∀i ρ,Iv i ρ↔∃(sh:List (List Str)) (ps:List (Option Nat)) (new:List Str) (k1 k2 k3 k4:Option (PV×Bool)),ρ=[some (PV.lst (cs.map PV.int),false),some (PV.lst (L.map PV.str),false),some (PV.lst (sh.map ltsP),true),some (PV.lst (ps.map parP),true),some (PV.lst (new.map PV.str),true),k1,k2,k3,k4]/\
   zbZ L i sh ps/\(∀x∈new,x∈L)/\(i=0->new=L):=⟨_,λ_ _=>Iff.rfl⟩
 refine⟨by lia,Iv,(hIv _ _).mpr ⟨[],[],L,none,none,none,none,rfl,.nil L,λ_ h=>h,λ_=>rfl⟩,?_,?_⟩
 ·intro i d ρ hd hI;obtain⟨sh,ps,new,k1,k2,k3,k4,rfl,T,N,hN0⟩:=(hIv _ _).mp hI;obtain⟨hi,rfl⟩:=zbz hd;have hi':i<cs.length:=by lia
  have hpl:=T.plen;have hsl:=T.pats.1;have fin:∀(ts:List Str) (par:Option Nat) (more:Int) (kv:Option (PV×Bool)),ts.length<=2->0<=more->more<=3->((par=none/\i=0/\ts=[])\/∃j q,par=some j/\j<i/\sh[j]? = some q/\∀x∈ts,x∈q)->(ts=[]->1<=more/\new≠[])->
    Hold tFin { nx:=Iv (i+1),rt:=Q,bk:=Hold (pFrz 3 (pFrz 2 (pRet (pTup (zaE (pVar 2) (zaE (pVar 3) pNil)))))) { nx:=λx=>Q PV.non Kd.frz,rt:=Q,bk:=λx=>False,ct:=λx=>False },ct:=Iv (i+1) }
    [some (PV.lst (XV PV.int cs),false),some (PV.lst (XV PV.str L),false),some (PV.lst (XV ltsP sh),true),some (PV.lst (XV parP ps),true),some (PV.lst (XV PV.str new),true),some (PV.int (0+↑i),false),some (PV.lst (ts.map PV.str),true),some (parP par,false),some (PV.int more,false)]:=by
   intro ts par more kv tn2 m0 m3 hp hemp;walk_at "go";rw[Xb,Xb];obtain⟨m,hm⟩:∃m:Int,m=(if 4-(ts.length:Int)<more then if (new.length:Int)<4-(ts.length:Int) then(new.length:Int) else 4-(ts.length:Int) else if (new.length:Int)<more then(new.length:Int) else more):=⟨_,rfl⟩
   rw[<- hm];have hm0:0<=m:=by split at hm<;>split at hm<;>lia
   have hm1:m<=new.length:=by split at hm<;>split at hm<;>lia
   have hm2:m+ts.length<=4:=by split at hm<;>split at hm<;>lia
   have hm3:ts=[]->1<=m:=λz=>by
    obtain⟨z1,z2⟩:=hemp z;have z3:0<new.length:=List.length_pos_iff.mpr z2;split at hm<;>split at hm<;>lia
   clear hm;walk_at "go";have cut1:cutP (new.map PV.str) none (some m)=(new.take m.toNat).map PV.str:=by rw[znB _ hm0 (by rw[Xb];exact hm1),List.map_take]
   have cut2:cutP (new.map PV.str) (some m) none=(new.drop m.toNat).map PV.str:=by rw[zjk _ hm0 (by rw[Xb];exact hm1),List.map_drop]
   rw[cut1];simp only[Xb,XX];refine⟨by rw[sizeLine_eq];lia,by rw[sizeLine_eq];lia,?_⟩;walk_at "go";walk_at "go";rw[cut2];obtain⟨T2,N2⟩:=T.snoc (m:=m.toNat) (ts:=ts) (par:=par) N (by rw[Xr,XX];lia) (λz=>by
    rw[List.append_eq_nil_iff]at z;have z1:=hm3 z.2;have z2:=congrArg List.length z.1;rw[XX,YG]at z2;lia) hp
   have e1:(sh++[new.take m.toNat++ts]).map ltsP=sh.map ltsP++[PV.tup ((new.take m.toNat).map PV.str++ts.map PV.str)]:=by rw[Xn];simp only[XJ,List.map_nil,ltsP,Xn]
   have e2:(ps++[par]).map parP=ps.map parP++[parP par]:=by rw[Xn];rfl
   refine⟨by rw[Xb,sizeLine_eq];lia,(hIv _ _).mpr ⟨sh++[new.take m.toNat++ts],ps++[par],new.drop m.toNat,_,_,_,_,by rw[e1,e2],T2,N2,λz=>by lia⟩⟩
  have rest:∀(ts:List Str) (par:Option Nat) (kv:Option (PV×Bool)),ts.length<=2->((par=none/\i=0/\ts=[])\/∃j q,par=some j/\j<i/\sh[j]? = some q/\∀x∈ts,x∈q)->
    Hold zrq { nx:=Iv (i+1),rt:=Q,bk:=Hold (pFrz 3 (pFrz 2 (pRet (pTup (zaE (pVar 2) (zaE (pVar 3) pNil)))))) { nx:=λx=>Q PV.non Kd.frz,rt:=Q,bk:=λx=>False,ct:=λx=>False },ct:=Iv (i+1) }
    [some (PV.lst (XV PV.int cs),false),some (PV.lst (XV PV.str L),false),some (PV.lst (XV ltsP sh),true),some (PV.lst (XV parP ps),true),some (PV.lst (XV PV.str new),true),some (PV.int (0+↑i),false),some (PV.lst (ts.map PV.str),true),some (parP par,false),kv]:=by
   intro ts par kv tn2 hp;walk_at "go";refine⟨_,cget hi' (by lia),_,rfl,by decide,by decide,by decide,?_⟩;generalize mixed cs[i] 22=c22;have n1:=YC c22 (show(3:Int)≠0 by decide);have n2:=Yn c22 (show(0:Int)<3 by decide);walk_at "go";have mid:∀v:PV,ts=[]->Hold (pSeq (pSet 8 (pC (PV.int 1)))
     (pIf (tBl (PL.t2 (pEq false) (PL.tB fLen (zaE (pVar 4) pNil)) (pC (PV.int 0))))
      (pSet 6 (pLst (zaE (PL.t2 pIx (PL.t2 pIx (pVar 2) (pVar 7)) (pC (PV.int 0))) pNil))) zcN))
    {nx:=Hold tFin { nx:=Iv (i+1),rt:=Q,bk:=Hold (pFrz 3 (pFrz 2 (pRet (pTup (zaE (pVar 2) (zaE (pVar 3) pNil)))))) { nx:=λx=>Q PV.non Kd.frz,rt:=Q,bk:=λx=>False,ct:=λx=>False },ct:=Iv (i+1) },
     rt:=Q,bk:=Hold (pFrz 3 (pFrz 2 (pRet (pTup (zaE (pVar 2) (zaE (pVar 3) pNil)))))) { nx:=λx=>Q PV.non Kd.frz,rt:=Q,bk:=λx=>False,ct:=λx=>False },ct:=Iv (i+1) }
    [some (PV.lst (XV PV.int cs),false),some (PV.lst (XV PV.str L),false),some (PV.lst (XV ltsP sh),true),some (PV.lst (XV parP ps),true),some (PV.lst (XV PV.str new),true),some (PV.int (0+↑i),false),
     some (PV.lst (XV PV.str ts),true),some (parP par,false),some (v,false)]:=by
    intro v hts;subst hts;walk_at "go";walk_at "go";rw[Xb];refine ite2 (λe=>?_) (λe=>?_)
    ·walk_at "go";rcases hp with ⟨_,hi0,_⟩ | ⟨j,p,rfl,hj,hq,_⟩
     ·have:=hN0 hi0;rw[this]at e;lia
     ·have hpm:=XI hq;have hne:=T.ne p hpm;have hpl0:0<p.length:=List.length_pos_iff.mpr hne;have hat:atI (sh.map ltsP) (j:Int)=some (ltsP p):=zaB (by rw[Xk,hq];rfl);have hat2:atI (p.map PV.str) 0=some (.str p[0]):=zaB (j:=0) (by simp[hpl0]);refine⟨_,⟨_,rfl,hat⟩,_,.inl ⟨_,.inr rfl,hat2⟩,by decide,?_⟩;exact fin [p[0]] (some j) 1 none (by simp) (by decide) (by decide) (.inr ⟨j,p,rfl,hj,hq,λx hx=>by rw[XB]at hx;subst hx;exact Yq _⟩) λz=>by cases z
    ·walk_at "go";exact fin [] par 1 none (Yf _) (by decide) (by decide) hp λ_=>⟨by decide,λz=>e (by rw[z];rfl)⟩
   have plain0:∀v:Int,ts≠[]\/(1<=v/\new≠[])->0<=v->v<=3->Hold zcN
    {nx:=Hold tFin { nx:=Iv (i+1),rt:=Q,bk:=Hold (pFrz 3 (pFrz 2 (pRet (pTup (zaE (pVar 2) (zaE (pVar 3) pNil)))))) { nx:=λx=>Q PV.non Kd.frz,rt:=Q,bk:=λx=>False,ct:=λx=>False },ct:=Iv (i+1) },
     rt:=Q,bk:=Hold (pFrz 3 (pFrz 2 (pRet (pTup (zaE (pVar 2) (zaE (pVar 3) pNil)))))) { nx:=λx=>Q PV.non Kd.frz,rt:=Q,bk:=λx=>False,ct:=λx=>False },ct:=Iv (i+1) }
    [some (PV.lst (XV PV.int cs),false),some (PV.lst (XV PV.str L),false),some (PV.lst (XV ltsP sh),true),some (PV.lst (XV parP ps),true),some (PV.lst (XV PV.str new),true),some (PV.int (0+↑i),false),
     some (PV.lst (XV PV.str ts),true),some (parP par,false),some (PV.int v,false)]:=by
    intro v hv h0 h3;walk_at "go";exact fin ts par v none tn2 h0 h3 hp λz=>hv.elim (λy=>absurd z y) id
   refine ite2 (λe1=>ite2 (λe2=>?_) (λe2=>ite2 (λe3=>?_) (λe3=>?_))) (λe1=>?_)
   ·exact mid _ (Ye.mp (by rw[Xb]at e1;lia))
   ·exact mid _ (Ye.mp (by rw[Xb]at e1;lia))
   ·exact plain0 _ (.inr ⟨by lia,λz=>e3 (by rw[z];rfl)⟩) (by lia) (by lia)
   ·exact plain0 _ (.inl λz=>e1 (by rw[z];rfl)) (by lia) (by lia)
  walk_at "go";refine⟨Yf _,?_⟩;walk_at "go";walk_at "go";refine ite2 (λe1=>?_) (λe1=>?_)
  ·walk_at "go";refine⟨_,cget hi' (by lia),_,rfl,by decide,by decide,by lia,?_⟩;have n1:=YC (mixed cs[i] 20) (show(0+(i:Int))≠0 by lia);have n2:=Yn (mixed cs[i] 20) (show(0:Int)<0+(i:Int) by lia);generalize mixed cs[i] 20 % (0+(i:Int))=pj at *;obtain⟨j,rfl⟩:∃j:Nat,pj=j:=⟨pj.toNat,by lia⟩;have hj:j<sh.length:=by lia
   have hat:atI (sh.map ltsP) (j:Int)=some (ltsP sh[j]):=zaB (by simp[hj]);have hjm:=Yq hj;have hj4:=(T.pats.2 _ hjm).1;have n3:=YC (mixed cs[i] 21) (show(3:Int)≠0 by decide);have n4:=Yn (mixed cs[i] 21) (show(0:Int)<3 by decide);walk_at "go";refine⟨_,cget hi' (by lia),_,hat,_,cget hi' (by lia),_,rfl,by decide,by decide,by decide,⟨_,rfl⟩,_,.inr rfl,by rw[Xb];lia,λtold left hp hl=>?_⟩;obtain⟨ts,rfl,hts⟩:=zlQ hp;rw[Xb,Xb]at hl;exact rest ts (some j) k4 (by lia) (.inr ⟨j,sh[j],rfl,by lia,by simp[hj],hts⟩)
  ·walk_at "go";exact rest [] none k4 (Yf _) (.inl ⟨rfl,by lia,rfl⟩)
 ·intro ρ hI;obtain⟨sh,ps,new,k1,k2,k3,k4,rfl,T,N,hN0⟩:=(hIv _ _).mp hI;rw[zbf]at T;walk_at "go";exact⟨by decide,q sh ps (by simpa using T)⟩
end
theorem Pats.nil (L:List Str):Pats L 0 []:=⟨rfl,λp hp=>by cases hp⟩
theorem Pats.shp {L:List Str}{n:Nat}{sh:List (List Str)}(h:Pats L n sh)(h1:1<=n)(h6:n<=6)(hL:L.length=6):Shp sh:=by
 refine⟨by rw[h.1];exact h1,by rw[h.1];exact h6,λp hp=>(h.2 p hp).1,λns hn hs=>?_⟩;rw[<- hL];refine List.Nodup.length_le_of_subset hn λx hx=>?_;obtain⟨p,hp,hxp⟩:=hs x hx;exact(h.2 p hp).2 x hxp
noncomputable def fAny:PF:=λds Q=>∃(cs:List Int)(L:List Str),ds=[.lst (cs.map PV.int),.lst (L.map PV.str)]/\cs.length<=6/\L.length=6/\∀sh,Pats L cs.length sh->Q (.lst (sh.map ltsP)) .new
theorem zmY:zaU fAny:=λds Q Q' m q175q=>by obtain⟨cs,L,e,h1,h2,q⟩:=q175q;exact⟨cs,L,e,h1,h2,λsh a=>m _ _ (q sh a)⟩
noncomputable def zim:PF:=λds Q=>∃(cs:List Int)(L:List Str),ds=[.lst (cs.map PV.int),.lst (L.map PV.str)]/\cs.length<=6/\L.length=6/\∀sh,Pats L cs.length sh->Q (.lst (sh.map ltsP)) .new
theorem zlT:zaU zim:=λds Q Q' m q176q=>by obtain⟨cs,L,e,h1,h2,q⟩:=q176q;exact⟨cs,L,e,h1,h2,λsh a=>m _ _ (q sh a)⟩
noncomputable def zdY:PF:=λds Q=>∃(c:Int)(cs:List Int),ds=[.int c,.lst (cs.map PV.int)]/\1<=cs.length/\cs.length<=6/\∀sh,Shp sh->Q (.lst (sh.map ltsP)) .new/\Q (.lst (sh.map ltsP)) .frz
theorem zjT:zaU zdY:=λds Q Q' m q177q=>by obtain⟨c,cs,e,h1,h2,q⟩:=q177q;exact⟨c,cs,e,h1,h2,λsh a=>⟨m _ _ (q sh a).1,m _ _ (q sh a).2⟩⟩
theorem znD {L:List Str}{i:Int}(h0:0<=i)(h1:i<L.length):∃s,s∈L/\atI (L.map PV.str) i=some (.str s):=by
 obtain⟨n,rfl⟩:∃n:Nat,i=n:=⟨i.toNat,by lia⟩;have hn:n<L.length:=by lia
 exact⟨L[n],Yq hn,zaB (by simp[hn])⟩
section
variable {P:Program}{w:World}{K:Xa}{mg:Str->Option Value}{base:Heap}
theorem zqD:zan ["_law_cells","_law_letters_here"] ["_law_cells","_law_letters_here"] (zac sAny):=⟨rfl,rfl,rfl,by decide +kernel,rfl,by decide +kernel,by decide +kernel⟩
theorem zqE {f fM fP:Addr}{fd fdM fdP:FuncData}(F:Fun K "_law_any" "_law_any" sAny f fd) (Mixed:Fx K mg "_law_mixed" zcg ["_law_cell","_law_k"] fM fdM) (Picked:Fx K mg "_law_picked" zbE ["_law_cell","_law_some","_law_many"] fP fdP) (B:Bl mg):FnOk P w K mg base CX0 3 f fd ["_law_cells","_law_letters_here"] (spP K fAny):=by
 have GMixed:FnOk P w K mg base CX0 2 fM fdM ["_law_cell","_law_k"] (spP K zcx):=(zeM Mixed.fn B).mono (by decide);have GPicked:FnOk P w K mg base CX0 2 fP fdP ["_law_cell","_law_some","_law_many"] (spP K zbY):=zfx Picked.fn Mixed B;refine zax F zqD (λds Q q178q=>by obtain⟨c,L,e,_⟩:=q178q;rw[e];rfl) (λcdv A outer s H E hr=>?_);have hu:(A.deeper (envOfC "_law_any" (zac sAny) s.heap.objs.size f cdv)).units+16<cLine:=by have q:=hr.units;lia
 have nd:=zqD.nd;refine⟨_,(zag (zao (zbT (N:=["_law_cell","_law_letters_here"]) (k:=1) (js:=[1]) rfl (zdE (sup:=zac sAny) (XN:=["_law_cells","_law_letters_here"]) rfl rfl (by decide +kernel)) (by decide) (zaP (by decide)) (zaH (zaa 0)) ⟨λ_ _ _ _ _=>(zal (i:=0) (by show(["_law_cell","_law_letters_here"]:List Str).Nodup;decide +kernel) rfl (Or.inl rfl)),λ_ _ _ _ _=>zbh,λ_ _ _ _ _=>(zgo rfl B.tuple (zab (zaw GPicked zdy hr rfl Picked.mg Picked.fn.kp Picked.bd (zab (zaa 0) (zab (zaa 1) (zab (zbq zaf (zaZ (zaw GMixed zbN hr rfl Mixed.mg Mixed.fn.kp Mixed.bd (zab (zaa 0) (zab zaf zae))) zaf)) zae)))) zae))⟩))),λds Q h=>?_⟩;obtain⟨cs,L,rfl,h6,hL,q⟩:=h;have hsz:=sizeLine_eq;walk_at "pu";refine⟨by rw[Xb];lia,λk out=>∃sh,out=sh.map ltsP/\Pats L k sh,⟨[],rfl,.nil L⟩,?_,?_⟩
 ·rintro k d out hd - ⟨sh,rfl,hP⟩;rw[Xk]at hd;cases hc:cs[k]? with
  | none=>rw[hc]at hd;cases hd
  | some c=>
   rw[hc]at hd;cases hd;have n1:=YC (mixed c 2) (show(4:Int)≠0 by decide);have n2:=Yn (mixed c 2) (show(0:Int)<4 by decide);refine⟨c,rfl,by decide,by decide,by decide,⟨c,rfl⟩,by rw[Xb];lia,λtold left hp hl=>?_⟩;obtain⟨ts,rfl,hts⟩:=zlQ hp;rw[Xb,Xb]at hl;exact⟨sh++[ts],by rw[Xn];rfl,hP.snoc (by lia) hts⟩
 ·rintro out - ⟨sh,rfl,hP⟩;rw[Xb]at hP;exact q sh hP
theorem znE:zan ["_law_cells","_law_letters_here","_law_many","_law_told","_law_k","_law_pattern"] ["_law_cells","_law_letters_here"] (zac zfE):=⟨rfl,rfl,rfl,by decide +kernel,rfl,by decide +kernel,by decide +kernel⟩
theorem zoT {f fM fP:Addr}{fd fdM fdP:FuncData}(F:Fun K "_law_ring" "_law_ring" zfE f fd) (Mixed:Fx K mg "_law_mixed" zcg ["_law_cell","_law_k"] fM fdM) (Picked:Fx K mg "_law_picked" zbE ["_law_cell","_law_some","_law_many"] fP fdP) (B:Bl mg):FnOk P w K mg base CX0 3 f fd ["_law_cells","_law_letters_here"] (spP K zim):=by
 have GPicked:FnOk P w K mg base CX0 2 fP fdP ["_law_cell","_law_some","_law_many"] (spP K zbY):=zfx Picked.fn Mixed B;refine zax F znE (λds Q q179q=>by obtain⟨c,L,e,_⟩:=q179q;rw[e];rfl) (λcdv A outer s H E hr=>?_);have hu:(A.deeper (envOfC "_law_ring" (zac zfE) s.heap.objs.size f cdv)).units+16<cLine:=by have q:=hr.units;lia
 have nd:=znE.nd;refine⟨_,(zad (zaj (i:=2) nd rfl (Or.inl rfl) (zoy rfl rfl B.max (zab zaf (zab (zaF rfl B.len (zab (zaa 0) zae)) zae))))
   (zad (zaj (i:=3) nd rfl (Or.inl rfl) (zbP zae))
   (zad (zbg rfl PassesOwn.never (zaQ rfl B.range (zab (zaF rfl B.len (zab (zaa 0) zae)) zae)) (zal (i:=4) nd rfl (Or.inl rfl)) (zad (zaj (i:=5) nd rfl (Or.inr rfl) (zbP (zab (zah (zaa 1) (zaZ (zaa 4) zaf)) (zab (zah (zaa 1) (zaZ (zaZ (zbq (zaa 4) zaf) (zaa 2)) zaf)) zae))))
   (zad (zbB (zdO hu (zaZ (zah (zaa 0) (zaa 4)) zaf) zaf) (zag (zaj (i:=5) nd rfl (Or.inr rfl) (zcQ (zaa 5) (zaw GPicked zdy hr rfl Picked.mg Picked.fn.kp Picked.bd (zab (zah (zaa 0) (zaa 4)) (zab (zbT (N:=["_law_letter","_law_pattern"]) (k:=1) (js:=[5]) rfl (zdE (sup:=zac zfE) (XN:=["_law_cells","_law_letters_here","_law_many","_law_told","_law_k","_law_pattern"]) rfl rfl (by decide +kernel)) (by decide) (zaP (by decide)) (zaH (zaa 1)) ⟨λ_ _ _ _ _=>(zal (i:=0) (by show(["_law_letter","_law_pattern"]:List Str).Nodup;decide +kernel) rfl (Or.inl rfl)),λ_ _ _ _ _=>(zgm (zhh hu (zaa 0) (zaa 1))),λ_ _ _ _ _=>(zaa 0)⟩) (zab zaf zae))))))) zaA)
   (zag (zbi (zba 3 (zgo rfl B.tuple (zab (zaa 5) zae))))))))
   (zag (zao (zaa 3)))))),λds Q h=>?_⟩
 obtain⟨cs,L,rfl,h6,hL,q⟩:=h;have hsz:=sizeLine_eq;walk_at "pu";walk_at "auto";rw[Xb,XH,zbf];obtain⟨many,hmany⟩:∃many:Int,many=(if (cs.length:Int) > 2 then(cs.length:Int) else 2):=⟨_,rfl⟩
 have hm2:2<=many/\many<=6:=by split at hmany<;>lia
 rw[<- hmany];clear hmany;obtain⟨Iv,hIv⟩:∃Iv:Nat->PEnv->Prop,∀i ρ,Iv i ρ↔∃(sh:List (List Str)) (k1 k2:Option (PV×Bool)),ρ=[some (PV.lst (cs.map PV.int),false),some (PV.lst (L.map PV.str),false),some (PV.int many,false),some (PV.lst (sh.map ltsP),true),k1,k2]/\Pats L i sh:=⟨_,λ_ _=>Iff.rfl⟩;refine⟨by lia,Iv,(hIv _ _).mpr ⟨[],_,_,rfl,.nil L⟩,?_,?_⟩
 ·intro i d ρ hd hI;obtain⟨sh,k1,k2,rfl,hP⟩:=(hIv _ _).mp hI;obtain⟨hi,rfl⟩:=zbz hd;rw[Int.zero_add];have hsl:=hP.1;have a1:=YC (i:Int) (show(6:Int)≠0 by decide);have a2:=Yn (i:Int) (show(0:Int)<6 by decide);have a3:=YC (((i:Int)+1) % many) (show(6:Int)≠0 by decide);have a4:=Yn (((i:Int)+1) % many) (show(0:Int)<6 by decide);obtain⟨s1,hs1,e1⟩:=znD (L:=L) a1 (by lia);obtain⟨s2,hs2,e2⟩:=znD (L:=L) a3 (by lia);walk_at "go";refine⟨by decide,_,e1,by lia,by decide,_,e2,by lia,?_⟩;have hi':i<cs.length:=by lia
  have fin:∀(ts:List Str),ts.length<=4->(∀x∈ts,x∈L)->Hold (zbH (mApp 3 (PL.tB zbI (zaE (pVar 5) pNil)))) { nx:=Iv (i+1),rt:=Q,bk:=Hold (pRet (pVar 3)) { nx:=λx=>Q PV.non Kd.frz,rt:=Q,bk:=λx=>False,ct:=λx=>False },ct:=Iv (i+1) }
    [some (PV.lst (cs.map PV.int),false),some (PV.lst (L.map PV.str),false),some (PV.int many,false),some (PV.lst (sh.map ltsP),true),some (PV.int i,false),some (PV.lst (ts.map PV.str),true)]:=λts h4 hts=>by
   walk_at "go";exact⟨by rw[Xb];lia,(hIv _ _).mpr ⟨sh++[ts],_,_,by rw[Xn];rfl,hP.snoc h4 hts⟩⟩
  have hs12:∀x∈[s1,s2],x∈L:=λx hx=>by
   rcases Xo.mp hx with rfl | hx
   ·exact hs1
   ·rw[XB.mp hx];exact hs2
  walk_at "go";refine⟨_,cget hi' rfl,_,rfl,by decide,ite2 (λe=>?_) (λe=>?_)⟩
  ·walk_at "go";refine⟨_,cget hi' rfl,by rw[Xb];lia,λk out=>∀d∈out,d∈L.map PV.str,λd hd=>(by cases hd),?_,λout ho hout=>⟨⟨_,rfl⟩,by rw[Xb]at ho;lia,λtold left hp hl=>?_⟩⟩
   ·intro k d out hd _ hP;have hdm:=XI hd;obtain⟨x,_,rfl⟩:=XW.mp hdm;refine⟨rfl,rfl,ite2 (λ_=>?_) (λ_=>hP)⟩;intro y hy;rcases XT.mp hy with hy | hy
    ·exact hP y hy
    ·rw[XB.mp hy];exact hdm
   ·obtain⟨ts,rfl,hts⟩:=zij (L:=L) (told:=told) λd hd=>hout d (hp.mem_iff.mp (Ym _ hd));rw[Xb]at hl;have hl1:ts.length<=1:=by rw[hl];exact Nat.min_le_left ..
    refine⟨by rw[Xb];lia,?_⟩;exact fin (s1::s2::ts) (by rw[XM,XM];lia) λx hx=>by
     rcases Xo.mp hx with rfl | hx
     ·exact hs1
     rcases Xo.mp hx with rfl | hx
     ·exact hs2
     ·exact hts x hx
  ·exact fin [s1,s2] (show 2<=4 by decide) hs12
 ·intro ρ hI;obtain⟨sh,k1,k2,rfl,hP⟩:=(hIv _ _).mp hI;walk_at "go";exact q sh hP
theorem zlU:zan ["_law_head","_law_cells","_law_letters_here"] ["_law_head","_law_cells"] (zac zdW):=⟨rfl,rfl,rfl,by decide +kernel,rfl,by decide +kernel,by decide +kernel⟩
theorem zmZ {f f1 f2 f3 f4 f5 f6:Addr}{fd fd1 fd2 fd3 fd4 fd5 fd6:FuncData}(F:Fun K "_law_shape" "_law_shape" zdW f fd) (Mixed:Fx K mg "_law_mixed" zcg ["_law_cell","_law_k"] f1 fd1) (Picked:Fx K mg "_law_picked" zbE ["_law_cell","_law_some","_law_many"] f2 fd2) (Alphabet:Fx K mg "_law_alphabet" zbl ["_law_cell"] f3 fd3) (Any:Fx K mg "_law_any" sAny ["_law_cells","_law_letters_here"] f4 fd4) (Ring:Fx K mg "_law_ring" zfE ["_law_cells","_law_letters_here"] f5 fd5) (Tree:Fx K mg "_law_tree" zgA ["_law_cells","_law_letters_here"] f6 fd6) (B:Bl mg):FnOk P w K mg base CX0 4 f fd ["_law_head","_law_cells"] (spP K zdY):=by
 have GAlphabet:FnOk P w K mg base CX0 3 f3 fd3 ["_law_cell"] (spP K zaO):=(zik Alphabet.fn Mixed B).mono (by decide);have GAny:FnOk P w K mg base CX0 3 f4 fd4 ["_law_cells","_law_letters_here"] (spP K fAny):=zqE Any.fn Mixed Picked B;have GRing:FnOk P w K mg base CX0 3 f5 fd5 ["_law_cells","_law_letters_here"] (spP K zim):=zoT Ring.fn Mixed Picked B;have GTree:FnOk P w K mg base CX0 3 f6 fd6 ["_law_cells","_law_letters_here"] (spP K zfH):=zoS Tree.fn Mixed Picked B;refine zax F zlU (λds Q q180q=>by obtain⟨c,L,e,_⟩:=q180q;rw[e];rfl) (λcdv A outer s H E hr=>?_);have hu:(A.deeper (envOfC "_law_shape" (zac zdW) s.heap.objs.size f cdv)).units+16<cLine:=by have q:=hr.units;lia
 have nd:=zlU.nd;refine⟨_,(zad (zaj (i:=2) nd rfl (Or.inl rfl) (zaw GAlphabet zgG hr rfl Alphabet.mg Alphabet.fn.kp Alphabet.bd (zab (zaa 0) zae)))
   (zad (zej 2 (zbB (zdO hu (zaZ (zeA (zaa 0) zaf) zaf) zaf) (zag (zao (zaw GAny zmY hr rfl Any.mg Any.fn.kp Any.bd (zab (zaa 1) (zab (zaa 2) zae))))) zaA))
   (zad (zbB (zdO hu (zaZ (zeA (zaa 0) zaf) zaf) zaf) (zag (zao (zaw GRing zlT hr rfl Ring.mg Ring.fn.kp Ring.bd (zab (zaa 1) (zab (zaa 2) zae))))) zaA)
   (zag (zao (zah (zaw GTree zlS hr rfl Tree.mg Tree.fn.kp Tree.bd (zab (zaa 1) (zab (zaa 2) zae))) zaf)))))),λds Q h=>?_⟩
 obtain⟨c,cs,rfl,h1,h6,q⟩:=h;have hsz:=sizeLine_eq;walk_at "pu";walk_at "auto";refine ite2 (λe=>?_) (λe=>?_)
 ·walk_at "go";exact⟨cs,rfl,zii (zfw c),rfl,h6,zew _,λsh hP=>(q sh (hP.shp h1 h6 (zew _))).1⟩
 ·walk_at "go";walk_at "go";refine⟨⟨by decide,by decide⟩,by decide,ite2 (λe=>?_) (λe=>?_)⟩
  ·walk_at "go";exact⟨cs,rfl,zii (zfw c),rfl,h6,zew _,λsh hP=>(q sh (hP.shp h1 h6 (zew _))).1⟩
  ·walk_at "go";walk_at "go";exact⟨cs,rfl,zii (zfw c),rfl,h6,zew _,λsh ps T=>⟨_,zaB (j:=0) rfl,(q sh (T.pats.shp h1 h6 (zew _))).2⟩⟩
end
noncomputable def zfy:PF:=λds Q=>∃i:Int,ds=[.int i]/\Q (.bl true) .frz
theorem zfY:zaU zfy:=λds Q Q' m q181q=>by obtain⟨i,e,q⟩:=q181q;exact⟨i,e,m _ _ q⟩
noncomputable def zdd:PF:=λds Q=>∃sh:List (List Str),ds=[shpP sh]/\Shp sh/\∀zs:List Str,Names sh zs->Q (.lst (zs.map PV.str)) .new
theorem zhF:zaU zdd:=λds Q Q' m q182q=>by obtain⟨sh,e,h1,q⟩:=q182q;exact⟨sh,e,h1,λzs g=>m _ _ (q zs g)⟩
noncomputable def zde:PF:=λds Q=>∃a b:Nat,ds=[.int a,.int b]/\a<=5040/\b<=5040/\Q (.int (Nat.gcd a b)) .frz
theorem zhG:zaU zde:=λds Q Q' m q183q=>by obtain⟨a,b,e,h1,h2,q⟩:=q183q;exact⟨a,b,e,h1,h2,m _ _ q⟩
noncomputable def zcZ:PF:=λds Q=>∃l:List Int,ds=[.lst (l.map PV.int),.int (l.length:Nat)]/\(∀x∈l,0<=x)/\Q (.bl true) .frz
theorem zfz:zaU zcZ:=λds Q Q' m q184q=>by obtain⟨a,e,h1,q⟩:=q184q;exact⟨a,e,h1,m _ _ q⟩
section
variable {P:Program}{w:World}{K:Xa}{mg:Str->Option Value}{base:Heap}
theorem zlV:zan ["_law_found"] ["_law_found"] (zac zdl):=⟨rfl,rfl,rfl,by decide +kernel,rfl,by decide +kernel,by decide +kernel⟩
theorem zjm {f:Addr}{fd:FuncData}(F:Fun K "_law_whole" "_law_whole" zdl f fd) (B:Bl mg):FnOk P w K mg base CX0 1 f fd ["_law_found"] (spP K zfy):=by
 refine zax F zlV (λds Q q185q=>by obtain⟨c,e,_⟩:=q185q;rw[e];rfl) (λcdv A outer s H E hr=>?_);have hu:(A.deeper (envOfC "_law_whole" (zac zdl) s.heap.objs.size f cdv)).units+16<cLine:=by have q:=hr.units;lia
 have nd:=zlV.nd;refine⟨_,(zag (zao (zpO (ziQ (K:=K) rfl rfl B.isi (zab (zaa 0) (zab (zmr rfl B.int bInt) zae))) (zpN (zpM (ziQ (K:=K) rfl rfl B.isi (zab (zaa 0) (zab (zmr rfl B.bool zrh) zae)))))))),λds Q h=>?_⟩;obtain⟨i,rfl,q⟩:=h;walk_at "pu";exact⟨true,zgq,iteT ⟨false,zhi,q⟩⟩
theorem zhH:zan ["_law_shape_here","_law_told","_law_pattern","_law_letter"] ["_law_shape_here"] (zac zbL):=⟨rfl,rfl,rfl,by decide +kernel,rfl,by decide +kernel,by decide +kernel⟩
theorem zjU {f:Addr}{fd:FuncData}(F:Fun K "_law_letters" "_law_letters" zbL f fd) (B:Bl mg):FnOk P w K mg base CX0 1 f fd ["_law_shape_here"] (spP K zdd):=by
 refine zax F zhH (λds Q q186q=>by obtain⟨a,e,_⟩:=q186q;rw[e];rfl) (λcdv A outer s H E hr=>?_);have hu:(A.deeper (envOfC "_law_letters" (zac zbL) s.heap.objs.size f cdv)).units+16<cLine:=by have q:=hr.units;lia
 have nd:=zhH.nd;refine⟨_,(zad (zaj (i:=1) nd rfl (Or.inl rfl) (zbP zae))
   (zad (zbg rfl PassesOwn.never (zaH (zaa 0)) (zal (i:=2) nd rfl (Or.inl rfl)) (zag (zbg rfl PassesOwn.never (zoo (zaa 2)) (zal (i:=3) nd rfl (Or.inl rfl)) (zag (zbB (zhh hu (zaa 3) (zaa 1)) (zag (zbi (zba 1 (zaa 3)))) zaA)))))
   (zag (zao (zmD rfl B.sorted (zab (zaa 1) zae)))))),λds Q h=>?_⟩
 obtain⟨sh,rfl,S,q⟩:=h;have hsz:=sizeLine_eq;walk_at "pu";walk_at "auto";obtain⟨Iv,hIv⟩:∃Iv:Nat->PEnv->Prop,∀i ρ,Iv i ρ↔∃(zs:List Str) (v1 v2:Option (PV×Bool)),ρ=[some (PV.lst (sh.map ltsP),false),some (PV.lst (zs.map PV.str),true),v1,v2]/\zs.Nodup/\(∀l,l∈zs↔∃p∈sh.take i,l∈p):=⟨_,λ_ _=>Iff.rfl⟩;refine⟨Iv,(hIv _ _).mpr ⟨[],none,none,rfl,List.nodup_nil,λl=>by simp⟩,?_,?_⟩
 ·intro i d ρ hd hI;obtain⟨zs,v1,v2,rfl,hn,hm⟩:=(hIv _ _).mp hI;rw[Xk]at hd;cases hp:sh[i]? with
  | none=>rw[hp]at hd;cases hd
  | some p=>
   rw[hp]at hd;cases hd;have htk:∀l:Str,(∃q∈sh.take (i+1),l∈q)↔(∃q∈sh.take i,l∈q)\/l∈p:=λl=>by
    rw[<- take_snoc hp];constructor
    ·rintro⟨q,h1,h2⟩;rcases XT.mp h1 with h1 | h1
     ·exact .inl ⟨q,h1,h2⟩
     ·rw[XB.mp h1]at h2;exact .inr h2
    ·rintro(⟨q,h1,h2⟩ | h)
     ·exact⟨q,Ym _ h1,h2⟩
     ·exact⟨p,XG _ Xm,h⟩
   walk_at "go";obtain⟨Iw,hIw⟩:∃Iw:Nat->PEnv->Prop,∀j ρ,Iw j ρ↔∃(ys:List Str) (v3:Option (PV×Bool)),ρ=[some (PV.lst (sh.map ltsP),false),some (PV.lst (ys.map PV.str),true),some (PV.tup (p.map PV.str),false),v3]/\ys.Nodup/\(∀l,l∈ys↔(∃q∈sh.take i,l∈q)\/l∈p.take j):=⟨_,λ_ _=>Iff.rfl⟩;refine⟨Iw,(hIw _ _).mpr ⟨zs,v2,rfl,hn,λl=>by rw[hm l,List.take_zero];simp⟩,?_,?_⟩
   ·intro j d ρ hd hI;obtain⟨ys,v3,rfl,hn2,hm2⟩:=(hIw _ _).mp hI;rw[Xk]at hd;cases hx:p[j]? with
    | none=>rw[hx]at hd;cases hd
    | some x=>
     rw[hx]at hd;cases hd;have hyl:=S.six ys hn2 λl hl=>by
      rcases(hm2 l).mp hl with ⟨q,h1,h2⟩ | h
      ·exact⟨q,List.mem_of_mem_take h1,h2⟩
      ·exact⟨p,XI hp,List.mem_of_mem_take h⟩
     walk_at "go";refine⟨zcw _ _,ite2 (λe=>?_) (λe=>?_)⟩
     ·walk_at "go";have hx2:x∉ys:=λz=>e (zch.mpr z);refine⟨by rw[Xb];lia,(hIw _ _).mpr ⟨ys++[x],some (PV.str x,false),by rw[Xn];rfl,?_,λl=>?_⟩⟩
      ·rw[List.nodup_append];exact⟨hn2,Yg.mpr ⟨List.not_mem_nil,List.nodup_nil⟩,λa ha b hb z=>hx2 (by rw[<- XB.mp hb,<- z];exact ha)⟩
      ·rw[<- take_snoc hx,XT,XT,hm2 l,or_assoc]
     ·walk_at "go";have hx2:x∈ys:=zch.mp (Decidable.not_not.mp e);refine(hIw _ _).mpr ⟨ys,some (PV.str x,false),rfl,hn2,λl=>?_⟩;rw[<- take_snoc hx,XT,<- or_assoc,<- hm2 l,XB];exact⟨.inl,λz=>z.elim id λy=>y▸hx2⟩
   ·intro ρ hI;obtain⟨ys,v3,rfl,hn2,hm2⟩:=(hIw _ _).mp hI;rw[Xb,List.take_length]at hm2;exact(hIv _ _).mpr ⟨ys,_,v3,rfl,hn2,λl=>(hm2 l).trans (htk l).symm⟩
 ·intro ρ hI;obtain⟨zs,v1,v2,rfl,hn,hm⟩:=(hIv _ _).mp hI;rw[Xb,List.take_length]at hm;have hzl:=S.six zs hn λl hl=>(hm l).mp hl;walk_at "go";exact⟨zs,rfl,by lia,λys hy hs=>q ys ⟨hy.nodup_iff.mpr hn,λl=>(hy.mem_iff).trans (hm l),hs⟩⟩
theorem zhI:zan ["_law_one","_law_other"] ["_law_one","_law_other"] (zac zbM):=⟨rfl,rfl,rfl,by decide +kernel,rfl,by decide +kernel,by decide +kernel⟩
theorem zjV {f:Addr}{fd:FuncData}(F:Fun K "_law_divisor" "_law_divisor" zbM f fd) (B:Bl mg):FnOk P w K mg base CX0 1 f fd ["_law_one","_law_other"] (spP K zde):=by
 refine zax F zhI (λds Q q187q=>by obtain⟨a,b,e,_⟩:=q187q;rw[e];rfl) (λcdv A outer s H E hr=>?_);have hu:(A.deeper (envOfC "_law_divisor" (zac zbM) s.heap.objs.size f cdv)).units+16<cLine:=by have q:=hr.units;lia
 have nd:=zhI.nd;refine⟨_,(zad (zcO PassesOwn.never (zff hu (zaa 1) zaf) (zag (zoH rfl nd (i:=0) (j:=1) rfl rfl (by decide) rfl rfl (zab (zaa 1) (zab (zaZ (zaa 0) (zaa 1)) zae)))))
   (zag (zao (zaa 0)))),λds Q h=>?_⟩
 obtain⟨a,b,rfl,ha,hb,q⟩:=h;have hsz:=sizeLine_eq;walk_at "pu";obtain⟨Iv,hIv⟩:∃Iv:Nat->PEnv->Prop,∀m ρ,Iv m ρ↔∃c:Nat,ρ=[some (PV.int c,false),some (PV.int m,false)]/\c<=5040/\m<=5040/\Nat.gcd c m=Nat.gcd a b:=⟨_,λ_ _=>Iff.rfl⟩;refine⟨Iv,⟨b,(hIv _ _).mpr ⟨a,rfl,ha,hb,rfl⟩⟩,λm ρ hI=>?_⟩;obtain⟨c,rfl,hc,hm,hg⟩:=(hIv _ _).mp hI;walk_at "go";by_cases e:m=0
 ·subst e;rw[if_neg (by simp)];rw[Nat.gcd_zero_right]at hg;walk_at "go";rw[hg];exact q
 ·rw[if_pos (by simpa using e)];walk_at "go";have ec:(c:Int) % (m:Int)=((c % m:Nat):Int):=(Int.natCast_emod c m).symm;rw[ec];have hlt:=Nat.mod_lt c (show 0<m by lia);exact⟨by lia,trivial,trivial,c % m,hlt,(hIv _ _).mpr ⟨m,rfl,hm,by lia,by rw[euclid,hg]⟩⟩
theorem zjn:zan ["_law_found","_law_many","_law_one"] ["_law_found","_law_many"] (zac zcB):=⟨rfl,rfl,rfl,by decide +kernel,rfl,by decide +kernel,by decide +kernel⟩
theorem zlW {f f1:Addr}{fd fd1:FuncData}(F:Fun K "_law_is_list" "_law_is_list" zcB f fd) (Whole:Fx K mg "_law_whole" zdl ["_law_found"] f1 fd1) (B:Bl mg):FnOk P w K mg base CX0 2 f fd ["_law_found","_law_many"] (spP K zcZ):=by
 have GWhole:FnOk P w K mg base CX0 1 f1 fd1 ["_law_found"] (spP K zfy):=zjm Whole.fn B;refine zax F zjn (λds Q q188q=>by obtain⟨a,e,_⟩:=q188q;rw[e];rfl) (λcdv A outer s H E hr=>?_);have hu:(A.deeper (envOfC "_law_is_list" (zac zcB) s.heap.objs.size f cdv)).units+16<cLine:=by have q:=hr.units;lia
 have nd:=zjn.nd;refine⟨_,(zad (zbB (PuW.t (zdk (zdq (zcM (ziQ (K:=K) rfl rfl B.isi (zab (zaa 0) (zab (zmr rfl B.list zla) zae))))) (zcL (zff hu (zaF rfl B.len (zab (zaa 0) zae)) (zaa 1))))) (zag (zao zgh)) zaA)
   (zad (zbg rfl PassesOwn.never (zaH (zaa 0)) (zal (i:=2) nd rfl (Or.inl rfl)) (zag (zbB (PuW.t (zdk (zdq (zcM (zaw GWhole zfY hr rfl Whole.mg Whole.fn.kp Whole.bd (zab (zaa 2) zae)))) (zcL (zfg (zaa 2) zaf)))) (zag (zao zgh)) zaA)))
   (zag (zao zgh)))),λds Q h=>?_⟩
 obtain⟨l,rfl,hl,q⟩:=h;walk_at "pu";refine⟨true,zgq,?_⟩;rw[if_neg (λz=>nomatch z),if_neg (by rw[Xb];exact λz=>z rfl)];walk_at "go";obtain⟨Iv,hIv⟩:∃Iv:Nat->PEnv->Prop,∀i ρ,Iv i ρ↔∃v:Option (PV×Bool),ρ=[some (PV.lst (l.map PV.int),false),some (PV.int (l.length:Nat),false),v]:=⟨_,λ_ _=>Iff.rfl⟩;walk_at "go";refine⟨Iv,(hIv _ _).mpr ⟨_,rfl⟩,?_,?_⟩
 ·intro i d ρ hd hI;obtain⟨v,rfl⟩:=(hIv _ _).mp hI;rw[Xk]at hd;cases hx:l[i]? with
  | none=>rw[hx]at hd;cases hd
  | some x=>
   rw[hx]at hd;cases hd;have x0:=hl x (XI hx);walk_at "go";rw[if_neg (by lia)];exact(hIv _ _).mpr ⟨_,rfl⟩
 ·intro ρ hI;obtain⟨v,rfl⟩:=(hIv _ _).mp hI;walk_at "go";exact q
end
open M41 (Pb Gd tb bt sm)
noncomputable def wI (p:Pb)(h:List Nat)(k:Nat):Int:=tb p h p.m (p.n+k) / (gP p h:Int)
noncomputable def yI (p:Pb)(h:List Nat)(c:Nat):Int:=M41.pr p h c / (gP p h:Int)
theorem zhJ (p:Pb)(h:List Nat):wsI p h=(Xp p.m).map (wI p h):=by unfold wsI zbx;rw[YN];rfl
theorem zjo (p:Pb)(h:List Nat):ysI p h=(Xp p.n).map (yI p h):=by unfold ysI zbW;rw[YN];rfl
theorem zna {g x:Int}{n:Nat}(hg:g=n)(hx:0<=x)(hd:n ∣ x.toNat):x=g*(x / g):=by
 obtain⟨k,hk⟩:=hd;have e:x=(n:Int)*(k:Int):=by rw[<- Int.natCast_mul,<- hk];lia
 rw[hg,Int.mul_ediv_cancel' ⟨(k:Int),e⟩]
structure zdZ (p:Pb)(h:List Nat):Prop where
 g0:0<(gP p h:Int)
 d:bt p h=(gP p h:Int)*dI p h
 w:∀k,k<p.m->tb p h p.m (p.n+k)=(gP p h:Int)*wI p h k
 y:∀c,c<p.n->M41.pr p h c=(gP p h:Int)*yI p h c
 d1:1<=dI p h
 w0:∀x∈wsI p h,0<=x
 y0:∀x∈ysI p h,0<=x
 d5:dI p h<=5040
 lo:Lo (wsI p h++ysI p h)
theorem scaled {p:Pb}{h:List Nat}(D:Done p h)(S:Sm p):zdZ p h:=by
 have G:=D.gd;have lo:=znz G S D.nn;have g0:0<(gP p h:Int):=by have:=znA G;lia
 have mem:∀x∈allI p h,x=(gP p h:Int)*(x / (gP p h:Int)):=λx hx=>zna rfl (lo x hx).1 (zgF hx);have hb:=mem (bt p h) Xm;have low:∀x∈allI p h,0<=x / (gP p h:Int)/\x / (gP p h:Int)<=5040:=λx hx=>⟨Int.ediv_nonneg (lo x hx).1 (YI g0),Int.le_trans (Int.ediv_le_self _ (lo x hx).1) (lo x hx).2⟩;refine⟨g0,hb,λk hk=>mem _ (Xh _ (Ym _ (XW.mpr ⟨k,Yl.mpr hk,rfl⟩))),λc hc=>mem _ (Xh _ (XG _ (XW.mpr ⟨c,Yl.mpr hc,rfl⟩))),?_,λx hx=>?_,λx hx=>?_,(low _ Xm).2,λx hx=>?_⟩
 ·have bp:=G.pos;have hb':bt p h=(gP p h:Int)*dI p h:=hb;have z:0<dI p h*(gP p h:Int):=by rw[Yk,<- hb'];exact bp
  exact Int.pos_of_mul_pos_left z g0
 ·obtain⟨y,hy,rfl⟩:=XW.mp hx;exact(low y (Xh _ (Ym _ hy))).1
 ·obtain⟨y,hy,rfl⟩:=XW.mp hx;exact(low y (Xh _ (XG _ hy))).1
 ·rcases XT.mp hx with hx | hx
  ·obtain⟨y,hy,rfl⟩:=XW.mp hx;exact low y (Xh _ (Ym _ hy))
  ·obtain⟨y,hy,rfl⟩:=XW.mp hx;exact low y (Xh _ (XG _ hy))
theorem zlX (f:Nat->Int):∀n,((Xp n).map f).sum=sm n f
 | 0=>rfl
 | n+1=>by rw[Yc,Xn,List.sum_append,zlX f n];simp[M41.sm]
theorem zjp (g:Nat):∀(l:List Int)(a:Nat),(∀x∈l,0<=x)->gcdL (g*a) (l.map λ(x:Int)=>(g:Int)*x)=g*gcdL a l
 | [],a,_=>rfl
 | x::l,a,h=>by
  have hx:=h x Xm;show gcdL (Nat.gcd (g*a) ((g:Int)*x).toNat) (l.map λ(x:Int)=>(g:Int)*x)=g*gcdL (Nat.gcd a x.toNat) l;obtain⟨n,rfl⟩:∃n:Nat,x=n:=⟨x.toNat,by lia⟩;rw[<- Int.natCast_mul,XH,XH,Nat.gcd_mul_left];exact zjp g l _ λy hy=>h y (Xh _ hy)
theorem zdZ.one {p:Pb}{h:List Nat}(X:zdZ p h):gcdL (dI p h).toNat (wsI p h++ysI p h)=1:=by
 have hd:=X.d;have hd1:=X.d1;have g0:=X.g0;obtain⟨d,hd'⟩:∃d:Nat,dI p h=d:=⟨(dI p h).toNat,by lia⟩;have e1:(zbx p h++zbW p h)=(wsI p h++ysI p h).map λ(x:Int)=>((gP p h:Nat):Int)*x:=by
  rw[Xn,zhJ,zjo,YN,YN];unfold zbx zbW
  congr 1
  ·exact YH λk hk=>X.w k (Yl.mp hk)
  ·exact YH λk hk=>X.y k (Yl.mp hk)
 have e2:gP p h=gcdL (bt p h).toNat (zbx p h++zbW p h):=by
  show gcdL (Nat.gcd 0 (bt p h).toNat) _=_;rw[Nat.gcd_zero_left]
 have e3:=zjp (gP p h) (wsI p h++ysI p h) d λx hx=>by
  rcases XT.mp hx with hx | hx
  ·exact X.w0 x hx
  ·exact X.y0 x hx
 rw[<- e1,show gP p h*d=(bt p h).toNat by rw[hd,hd',<- Int.natCast_mul,XH],<- e2]at e3;rw[hd',XH];have g1:0<gP p h:=by lia
 exact(Nat.mul_left_cancel g1 (by rw[Nat.mul_one];exact e3)).symm
theorem zdZ.sums {p:Pb}{h:List Nat}(X:zdZ p h)(G:Gd p h):(wsI p h).sum=(ysI p h).sum:=by
 rw[zhJ,zjo,zlX,zlX];have e:=M41.both G;rw[M41.zau λk hk=>X.w k hk,M41.zau λc hc=>X.y c hc,<- M41.zfn,<- M41.zfn]at e;exact Int.eq_of_mul_eq_mul_left (Int.ne_of_gt X.g0) e
theorem zdZ.cover {p:Pb}{h:List Nat}{c:Nat}(X:zdZ p h)(nn:∀c,c<p.n+p.m->0<=tb p h p.m c)(hc:c<p.n):dI p h<=sm p.m λk=>p.col c k*wI p h k:=by
 have e:=M41.cover hc (nn c (by lia));rw[M41.zau (g:=λk=>(gP p h:Int)*(p.col c k*wI p h k)) λk hk=>by rw[X.w k hk,Int.mul_left_comm],<- M41.zfn,X.d]at e;exact YM e X.g0
theorem zdZ.cost {p:Pb}{h:List Nat}{k:Nat}(X:zdZ p h)(G:Gd p h)(hk:k<p.m):(sm p.n λc=>p.col c k*yI p h c)<=dI p h:=by
 have e:=M41.cost G hk;rw[M41.zau (g:=λc=>(gP p h:Int)*(p.col c k*yI p h c)) λc hc=>by rw[X.y c hc,Int.mul_left_comm],<- M41.zfn,X.d]at e;exact YM e X.g0
noncomputable def zea:PF:=λds Q=>∃(sh:List (List Str))(L:List Str)(hN:Names sh L)(h:List Nat),ds=[shpP sh,wtP (pbOf hN) h]/\Shp sh/\Done (pbOf hN) h/\Q (.bl true) .frz
theorem zjW:zaU zea:=λds Q Q' m q189q=>by obtain⟨a,b,c,d,e,h1,h2,q⟩:=q189q;exact⟨a,b,c,d,e,h1,h2,m _ _ q⟩
theorem seqK {t u:TPS}{ρ:PEnv}{O:POut}(h:∀N:PEnv->Prop,(∀ρ',Hold u O ρ'->N ρ')->Hold t ⟨N,O.rt,O.bk,O.ct⟩ ρ):Hold (pSeq t u) O ρ:=h _ λ_ x=>x
theorem zrr {p:Pb}{h:List Nat}{k:Nat}(hk:k<p.m):atI ((wsI p h).map PV.int) ((k:Nat):Int)=some (.int (wI p h k)):=zaB (by rw[zhJ,Xk,Xk,Yi hk];rfl)
theorem zrs {p:Pb}{h:List Nat}{k:Nat}(hk:k<p.n):atI ((ysI p h).map PV.int) ((k:Nat):Int)=some (.int (yI p h k)):=zaB (by rw[zjo,Xk,Xk,Yi hk];rfl)
noncomputable def Come (f:Nat->Int)(k:Nat)(out:List PV):Prop:=∃xs:List Int,out=xs.map PV.int/\xs.sum=sm k f
theorem Come.yes {f:Nat->Int}{k:Nat}{out:List PV}{x:Int}(h:Come f k out)(e:f k=x):Come f (k+1) (out++[.int x]):=by
 obtain⟨xs,rfl,h⟩:=h;refine⟨xs++[x],by rw[Xn];rfl,?_⟩;rw[List.sum_append,h,<- e];show _+(f k+0)=sm k f+f k;rw[Int.add_zero]
theorem Come.no {f:Nat->Int}{k:Nat}{out:List PV}(h:Come f k out)(e:f k=0):Come f (k+1) out:=by
 obtain⟨xs,rfl,h⟩:=h;refine⟨xs,rfl,?_⟩;rw[h];show sm k f=sm k f+f k;rw[e,Int.add_zero]
section
variable {P:Program}{w:World}{K:Xa}{mg:Str->Option Value}{base:Heap}
theorem zlY:zan ["_law_shape_here","_law_told","_law_letters_here","_law_by","_law_one","_law_letter","_law_pattern"] ["_law_shape_here","_law_told"] (zac zcW):=⟨rfl,rfl,rfl,by decide +kernel,rfl,by decide +kernel,by decide +kernel⟩
theorem znb {f f1 f2 f3 f4:Addr}{fd fd1 fd2 fd3 fd4:FuncData}(F:Fun K "_law_right" "_law_right" zcW f fd) (Whole:Fx K mg "_law_whole" zdl ["_law_found"] f1 fd1) (Letters:Fx K mg "_law_letters" zbL ["_law_shape_here"] f2 fd2) (IsList:Fx K mg "_law_is_list" zcB ["_law_found","_law_many"] f3 fd3) (Divisor:Fx K mg "_law_divisor" zbM ["_law_one","_law_other"] f4 fd4) (B:Bl mg):FnOk P w K mg base CX0 3 f fd ["_law_shape_here","_law_told"] (spP K zea):=by
 have GWhole:FnOk P w K mg base CX0 2 f1 fd1 ["_law_found"] (spP K zfy):=(zjm Whole.fn B).mono (by decide);have GLetters:FnOk P w K mg base CX0 2 f2 fd2 ["_law_shape_here"] (spP K zdd):=(zjU Letters.fn B).mono (by decide);have GIsList:FnOk P w K mg base CX0 2 f3 fd3 ["_law_found","_law_many"] (spP K zcZ):=zlW IsList.fn Whole B;have GDivisor:FnOk P w K mg base CX0 2 f4 fd4 ["_law_one","_law_other"] (spP K zde):=(zjV Divisor.fn B).mono (by decide);refine zax F zlY (λds Q q190q=>by obtain⟨a,b,c,d,e,_⟩:=q190q;rw[e];rfl) (λcdv A outer s H E hr=>?_);have hu:(A.deeper (envOfC "_law_right" (zac zcW) s.heap.objs.size f cdv)).units+16<cLine:=by have q:=hr.units;lia
 have nd:=zlY.nd;refine⟨_,(zad (zaj (i:=2) nd rfl (Or.inr rfl) (zaw GLetters zhF hr rfl Letters.mg Letters.fn.kp Letters.bd (zab (zaa 0) zae)))
   (zad (zej 2 (zbB (PuW.t (zdk (zdq (zcM (ziQ (K:=K) rfl rfl B.isi (zab (zaa 1) (zab (zmr rfl B.tuple znq) zae))))) (zdk (zff hu (zaF rfl B.len (zab (zaa 1) zae)) zaf) (zdk (zdq (zcM (zaw GWhole zfY hr rfl Whole.mg Whole.fn.kp Whole.bd (zab (zah (zaa 1) zaf) zae)))) (zcL (zfg (zah (zaa 1) zaf) zaf)))))) (zag (zao zgh)) zaA))
   (zad (zbB (PuW.t (zdk (zdq (zcM (zaw GIsList zfz hr rfl IsList.mg IsList.fn.kp IsList.bd (zab (zah (zaa 1) zaf) (zab (zaF rfl B.len (zab (zaa 0) zae)) zae))))) (zcL (zdq (zcM (zaw GIsList zfz hr rfl IsList.mg IsList.fn.kp IsList.bd (zab (zah (zaa 1) zaf) (zab (zaF rfl B.len (zab (zaa 2) zae)) zae)))))))) (zag (zao zgh)) zaA)
   (zad (zaj (i:=3) nd rfl (Or.inl rfl) (zah (zaa 1) zaf))
   (zad (zbg rfl PassesOwn.never (zaH (zcQ (zah (zaa 1) zaf) (zah (zaa 1) zaf))) (zal (i:=4) nd rfl (Or.inl rfl)) (zag (zaj (i:=3) nd rfl (Or.inl rfl) (zaw GDivisor zhG hr rfl Divisor.mg Divisor.fn.kp Divisor.bd (zab (zaa 3) (zab (zaa 4) zae))))))
   (zad (zbB (PuW.t (zdk (zff hu (zaa 3) zaf) (zcL (zff hu (ziV rfl rfl B.sum (zab (zah (zaa 1) zaf) zae)) (ziV rfl rfl B.sum (zab (zah (zaa 1) zaf) zae)))))) (zag (zao zgh)) zaA)
   (zad (zbg rfl PassesOwn.never (zaH (zaa 2)) (zal (i:=5) nd rfl (Or.inr rfl)) (zag (zbB (zfg (ziV rfl rfl B.sum (zab (zbT (N:=["_law_i","_law_shape_here","_law_told","_law_letter"]) (k:=1) (js:=[0,1,5]) rfl (zdE (sup:=zac zcW) (XN:=["_law_shape_here","_law_told","_law_letters_here","_law_by","_law_one","_law_letter","_law_pattern"]) rfl rfl (by decide +kernel)) (by decide) (zaP (by decide)) (zaQ rfl B.range (zab (zaF rfl B.len (zab (zaa 0) zae)) zae)) ⟨λ_ _ _ _ _=>(zal (i:=0) (by show(["_law_i","_law_shape_here","_law_told","_law_letter"]:List Str).Nodup;decide +kernel) rfl (Or.inl rfl)),λ_ _ _ _ _=>(zgm (ziL hu (zaa 3) (zah (zaa 1) (zaa 0)))),λ_ _ _ _ _=>(zah (zah (zaa 2) zaf) (zaa 0))⟩) zae)) (zah (zaa 1) zaf)) (zag (zao zgh)) zaA)))
   (zad (zbg rfl PassesOwn.never (zaH (zaa 0)) (zal (i:=6) nd rfl (Or.inr rfl)) (zag (zbB (zhg (ziV rfl rfl B.sum (zab (zbT (N:=["_law_k","_law_told","_law_letters_here","_law_pattern"]) (k:=1) (js:=[1,2,6]) rfl (zdE (sup:=zac zcW) (XN:=["_law_shape_here","_law_told","_law_letters_here","_law_by","_law_one","_law_letter","_law_pattern"]) rfl rfl (by decide +kernel)) (by decide) (zaP (by decide)) (zaQ rfl B.range (zab (zaF rfl B.len (zab (zaa 2) zae)) zae)) ⟨λ_ _ _ _ _=>(zal (i:=0) (by show(["_law_k","_law_told","_law_letters_here","_law_pattern"]:List Str).Nodup;decide +kernel) rfl (Or.inl rfl)),λ_ _ _ _ _=>(zgm (ziL hu (zah (zaa 2) (zaa 0)) (zaa 3))),λ_ _ _ _ _=>(zah (zah (zaa 1) zaf) (zaa 0))⟩) zae)) (zah (zaa 1) zaf)) (zag (zao zgh)) zaA)))
   (zag (zao zgh)))))))))),λds Q h=>?_⟩
 obtain⟨sh,L,hN,h,rfl,S,D,q⟩:=h;have hsz:=sizeLine_eq;walk_at "pu";refine⟨sh,rfl,S,λzs hz=>?_⟩;rw[Names.uniq hz hN];clear hz zs;have M:=zmU S hN;have G:=D.gd;have X:=scaled D M;have nn:=D.nn;have hm1:=M.m1;have hm6:=M.m6;have hn6:=M.n6;have hmL:(pbOf hN).m=sh.length:=rfl;have hnL:(pbOf hN).n=L.length:=rfl;have hcol:∀c k,c<L.length->k<sh.length->(pbOf hN).col c k=if L.getD c Str.empty∈sh.getD k [] then 1 else 0:=λc k hc hk=>by
  show zaJ sh L c k=_;unfold zaJ;rw[if_pos hc,if_pos hk]
 generalize pbOf hN=p at *;have lw:(wsI p h).length=p.m:=by rw[zhJ,Xb,Xz]
 have ly:(ysI p h).length=p.n:=by rw[zjo,Xb,Xz]
 refine seqK λN1 hN1=>?_;walk_at "go";have at0:atI [PV.int (dI p h),PV.lst ((wsI p h).map PV.int),PV.lst ((ysI p h).map PV.int)] 0=some (.int (dI p h)):=zaB (j:=0) rfl;have at1:atI [PV.int (dI p h),PV.lst ((wsI p h).map PV.int),PV.lst ((ysI p h).map PV.int)] 1=some (.lst ((wsI p h).map PV.int)):=zaB (j:=1) rfl;have at2:atI [PV.int (dI p h),PV.lst ((wsI p h).map PV.int),PV.lst ((ysI p h).map PV.int)] 2=some (.lst ((ysI p h).map PV.int)):=zaB (j:=2) rfl;have hd1:=X.d1;refine⟨(λn z=>nomatch z),rfl,true,zgq,?_⟩;rw[if_neg (λz=>nomatch z)];refine⟨3,rfl,?_⟩;rw[if_neg (λz=>z rfl)];refine⟨_,.inl ⟨_,.inr rfl,at0⟩,⟨_,rfl⟩,_,.inl ⟨_,.inr rfl,at0⟩,_,rfl,?_⟩;rw[if_neg (by lia)];refine hN1 _ (seqK λN2 hN2=>?_);walk_at "go";refine⟨_,.inl ⟨_,.inr rfl,at1⟩,_,rfl,by rw[Xb];lia,X.w0,_,.inl ⟨_,.inr rfl,at2⟩,_,rfl,by rw[Xb];lia,X.y0,hN2 _ ?_⟩;clear hN2 N2 hN1 N1;walk_at "go";refine⟨_,.inl ⟨_,.inr rfl,at0⟩,seqK λN1 hN1=>?_⟩;walk_at "go";refine⟨_,.inl ⟨_,.inr rfl,at1⟩,_,.inl ⟨_,.inr rfl,at2⟩,_,rfl,_,rfl,by rw[Xb,Xb];lia,?_⟩;rw[<- Xn];have d5:=X.d5;have hlo:=X.lo;obtain⟨Iv,hIv⟩:∃Iv:Nat->PEnv->Prop,∀i ρ,Iv i ρ↔∃v4:Option (PV×Bool),ρ=[some (PV.lst (XV ltsP sh),false),some (wtP p h,false),some (PV.lst (XV PV.str L),false),some (PV.int (gcdL (dI p h).toNat ((wsI p h++ysI p h).take i):Nat),false),v4,none,none]:=⟨_,λ_ _=>Iff.rfl⟩;refine⟨Iv,(hIv _ _).mpr ⟨none,?_⟩,?_,?_⟩
 ·rw[List.take_zero];show[_,_,_,some (PV.int (dI p h),false),_,_,_]=[_,_,_,some (PV.int ((dI p h).toNat:Nat),false),_,_,_];rw[Int.toNat_of_nonneg (by lia)]
 ·intro i d ρ hd hI;obtain⟨v4,rfl⟩:=(hIv _ _).mp hI;rw[Xk]at hd;cases hx:(wsI p h++ysI p h)[i]? with
  | none=>rw[hx]at hd;cases hd
  | some x=>
   rw[hx]at hd;cases hd;obtain⟨x0,x5⟩:=hlo x (XI hx);have hg5:=zgE (a:=(dI p h).toNat) (by lia) (hlo.take i);obtain⟨b,rfl⟩:∃b:Nat,x=b:=⟨x.toNat,by lia⟩;walk_at "go";refine⟨_,rfl,b,rfl,hg5,by lia,(hIv _ _).mpr ⟨some (PV.int (b:Nat),false),?_⟩⟩;rw[<- take_snoc hx,zhA,XH]
 ·intro ρ hI;obtain⟨v4,rfl⟩:=(hIv _ _).mp hI;rw[Xb,List.take_length,X.one];refine hN1 _ ?_;clear hI hIv Iv hN1 N1;refine seqK λN1 hN1=>?_;walk_at "go";rw[if_neg (λz=>z rfl)];refine⟨_,.inl ⟨_,.inr rfl,at1⟩,_,rfl,_,.inl ⟨_,.inr rfl,at2⟩,_,rfl,?_⟩;rw[if_neg (λz=>z (X.sums G))];refine hN1 _ ?_;clear hN1 N1;refine seqK λN1 hN1=>?_;walk_at "go";obtain⟨Iv,hIv⟩:∃Iv:Nat->PEnv->Prop,∀i ρ,Iv i ρ↔∃v5:Option (PV×Bool),ρ=[some (PV.lst (XV ltsP sh),false),some (wtP p h,false),some (PV.lst (XV PV.str L),false),some (PV.int (1:Nat),false),v4,v5,none]:=⟨_,λ_ _=>Iff.rfl⟩;refine⟨Iv,(hIv _ _).mpr ⟨_,rfl⟩,?_,?_⟩
  ·intro c d ρ hd hI;obtain⟨v5,rfl⟩:=(hIv _ _).mp hI;rw[Xk]at hd;cases hl:L[c]? with
   | none=>rw[hl]at hd;cases hd
   | some l=>
    rw[hl]at hd;cases hd;have hc:=(Xd.mp hl).1;have hlc:L.getD c Str.empty=l:=by rw[XL,hl];rfl
    walk_at "go";rw[Xb,XH,zbf];refine⟨by lia,by lia,by lia,Come (λk=>p.col c k*wI p h k),⟨[],rfl,rfl⟩,?_,?_⟩
    ·intro k d out hd _ hP;obtain⟨hk,rfl⟩:=zbz hd;rw[Int.zero_add];have hsk:sh[k]? = some (sh.getD k []):=by rw[XL,Xl hk];rfl
     have hck:=hcol c k hc hk;rw[hlc]at hck;refine⟨_,⟨_,rfl,zaB (by rw[Xk,hsk];rfl)⟩,_,.inr rfl,zcw _ _,ite2 (λe=>?_) (λe=>?_)⟩
     ·refine⟨_,.inl ⟨_,.inr rfl,at1⟩,_,.inl ⟨_,.inl rfl,_,rfl,zrr (by lia)⟩,hP.yes ?_⟩;show p.col c k*wI p h k=_;rw[hck,if_pos (zch.mp e),Int.one_mul]
     ·refine hP.no ?_;show p.col c k*wI p h k=_;rw[hck,if_neg (λz=>e (zch.mpr z)),YO]
    ·rintro out - ⟨xs,rfl,hs⟩;have:=X.cover nn (show c<p.n by lia);refine⟨xs,rfl,_,.inl ⟨_,.inr rfl,at0⟩,_,rfl,?_⟩;rw[if_neg (by rw[hs,<- hmL];lia)];exact(hIv _ _).mpr ⟨_,rfl⟩
  ·intro ρ hI;obtain⟨v5,rfl⟩:=(hIv _ _).mp hI;refine hN1 _ ?_;clear hI hIv Iv hN1 N1;refine seqK λN1 hN1=>?_;walk_at "go";obtain⟨Iv,hIv⟩:∃Iv:Nat->PEnv->Prop,∀i ρ,Iv i ρ↔∃v6:Option (PV×Bool),ρ=[some (PV.lst (XV ltsP sh),false),some (wtP p h,false),some (PV.lst (XV PV.str L),false),some (PV.int (1:Nat),false),v4,v5,v6]:=⟨_,λ_ _=>Iff.rfl⟩;refine⟨Iv,(hIv _ _).mpr ⟨_,rfl⟩,?_,?_⟩
   ·intro k d ρ hd hI;obtain⟨v6,rfl⟩:=(hIv _ _).mp hI;rw[Xk]at hd;cases hp:sh[k]? with
    | none=>rw[hp]at hd;cases hd
    | some pt=>
     rw[hp]at hd;cases hd;have hk:=(Xd.mp hp).1;have hpk:sh.getD k []=pt:=by rw[XL,hp];rfl
     walk_at "go";rw[Xb,XH,zbf];refine⟨by lia,by lia,by lia,Come (λc=>p.col c k*yI p h c),⟨[],rfl,rfl⟩,?_,?_⟩
     ·intro c d out hd _ hP;obtain⟨hc,rfl⟩:=zbz hd;rw[Int.zero_add];have hck:=hcol c k hc hk;rw[hpk]at hck;have hLc:L[c]? = some (L.getD c Str.empty):=by rw[XL,Xl hc];rfl
      refine⟨_,⟨_,rfl,zaB (by rw[Xk,hLc];rfl)⟩,rfl,zcw _ _,ite2 (λe=>?_) (λe=>?_)⟩
      ·refine⟨_,.inl ⟨_,.inr rfl,at2⟩,_,.inl ⟨_,.inl rfl,_,rfl,zrs (by lia)⟩,hP.yes ?_⟩;show p.col c k*yI p h c=_;rw[hck,if_pos (zch.mp e),Int.one_mul]
      ·refine hP.no ?_;show p.col c k*yI p h c=_;rw[hck,if_neg (λz=>e (zch.mpr z)),YO]
     ·rintro out - ⟨xs,rfl,hs⟩;have:=X.cost G (show k<p.m by lia);refine⟨xs,rfl,_,.inl ⟨_,.inr rfl,at0⟩,_,rfl,?_⟩;rw[if_neg (by rw[hs,<- hnL];lia)];exact(hIv _ _).mpr ⟨_,rfl⟩
   ·intro ρ hI;obtain⟨v6,rfl⟩:=(hIv _ _).mp hI;refine hN1 _ ?_;walk_at "go";exact q
end
noncomputable def fLaw:PF:=λds Q=>∃ns:List Int,ds=[.lst (ns.map PV.int)]/\ns.length<=63/\Q (.bl true) .frz
theorem znc:zaU fLaw:=λds Q Q' m q191q=>by obtain⟨ns,e,h,q⟩:=q191q;exact⟨ns,e,h,m _ _ q⟩
theorem znd (xs:List PV)(k:Nat):cutP xs none (some (k:Int))=xs.take k:=by
 unfold cutP;have h1:HT.sIx xs.length 0 none=0:=rfl;rw[h1,List.drop_zero,Nat.sub_zero];by_cases h:k<=xs.length
 ·have:HT.sIx xs.length xs.length (some (k:Int))=k:=by rw[HT.zdo];lia
  rw[this]
 ·have:HT.sIx xs.length xs.length (some (k:Int))=xs.length:=by rw[HT.zdo];lia
  rw[this,List.take_length,XQ (by lia)]
noncomputable def zoU (xs:List PV):Prop:=xs=[]\/∃(sh:List (List Str))(L:List Str)(hN:Names sh L)(h:List Nat),xs=[shpP sh,wtP (pbOf hN) h]/\Shp sh/\Done (pbOf hN) h
theorem zoV {sh:List (List Str)}{L L':List Str}{hN:Names sh L}{hN':Names sh L'}{h h':List Nat}(d:Done (pbOf hN) h)(d':Done (pbOf hN') h'):wtP (pbOf hN) h=wtP (pbOf hN') h':=by
 have e:=Names.uniq hN hN';subst e;rw[Done.uniq d d']
theorem zfZ (n:Nat)(l:List Int):(l.map PV.int).all (PL.plain n)=true:=by
 rw[XY];intro d hd;obtain⟨x,_,rfl⟩:=XW.mp hd;cases n<;>rfl
theorem zjq (p:M41.Pb)(h:List Nat):PL.plain 6 (wtP p h)=true:=by
 show[PV.int (dI p h),PV.lst ((wsI p h).map PV.int),PV.lst ((ysI p h).map PV.int)].all (PL.plain 5)=true;rw[XY];intro d hd;rcases Xo.mp hd with rfl | hd
 ·rfl
 rcases Xo.mp hd with rfl | hd
 ·exact zfZ 4 _
 ·rw[XB.mp hd];exact zfZ 4 _
theorem zhK (sh:List (List Str)):PL.plain 6 (PV.lst (sh.map ltsP))=true:=by
 show(sh.map ltsP).all (PL.plain 5)=true;rw[XY];intro e he;obtain⟨p,_,rfl⟩:=XW.mp he;exact zcw 4 p
section
variable {P:Program}{w:World}{K:Xa}{mg:Str->Option Value}{base:Heap}
theorem zqF:zan ["_law_script","_law_cells","_law_at","_law_first","_law_many","_law_shape_here","_law_handed","_law_told"] ["_law_script"] (zac sLaw):=⟨rfl,rfl,rfl,by decide +kernel,rfl,by decide +kernel,by decide +kernel⟩
theorem zqG {f f1 f2 f3 f4:Addr}{fd fd1 fd2 fd3 fd4:FuncData}(F:Fun K "law" "law" sLaw f fd) (Shape:Fx K mg "_law_shape" zdW ["_law_head","_law_cells"] f1 fd1) (GShape:FnOk P w K mg base CX0 5 f1 fd1 ["_law_head","_law_cells"] (spP K zdY)) (FilledUp:Fx K mg "_law_filled_up" zbm ["_law_cells","_law_at","_law_many"] f2 fd2) (GFilledUp:FnOk P w K mg base CX0 5 f2 fd2 ["_law_cells","_law_at","_law_many"] (spP K zbC))
  (Weights:Fx K mg "weights" zbk ["shape"] f3 fd3) (GWeightsR:FnOk P w K mg base CX0 5 f3 fd3 ["shape"] (spR K zaN)) (Right:Fx K mg "_law_right" zcW ["_law_shape_here","_law_told"] f4 fd4) (GRight:FnOk P w K mg base CX0 5 f4 fd4 ["_law_shape_here","_law_told"] (spP K zea)) (B:Bl mg):FnOk P w K mg base CX0 6 f fd ["_law_script"] (spP K fLaw):=by
 have GWeights:=zhE GWeightsR;refine zax F zqF (λds Q q192q=>by obtain⟨a,e,_⟩:=q192q;rw[e];rfl) (λcdv A outer s H E hr=>?_);have hu:(A.deeper (envOfC "law" (zac sLaw) s.heap.objs.size f cdv)).units+16<cLine:=by have q:=hr.units;lia
 have nd:=zqF.nd;refine⟨_,(zad (zaj (i:=1) nd rfl (Or.inl rfl) (zcQ (zcA (zaa 0) zdR (zbj zaf)) (zbP (zab zaf zae))))
   (zad (zaj (i:=2) nd rfl (Or.inl rfl) zaf)
   (zad (zaj (i:=3) nd rfl (Or.inl rfl) (zbP zae))
   (zad (zej 1 (zcO PassesOwn.never (zfg (zaa 2) (zaF rfl B.len (zab (zaa 1) zae))) (zad (zaj (i:=4) nd rfl (Or.inl rfl) (zbq zaf (zaZ (zah (zaa 1) (zaa 2)) zaf)))
   (zad (zaj (i:=5) nd rfl (Or.inl rfl) (zaw GShape zjT hr rfl Shape.mg Shape.fn.kp Shape.bd (zab (zah (zaa 1) (zaa 2)) (zab (zaw GFilledUp zgH hr rfl FilledUp.mg FilledUp.fn.kp FilledUp.bd (zab (zaa 1) (zab (zbq (zaa 2) zaf) (zab (zaa 4) zae)))) zae))))
   (zad (zej 5 (zaj (i:=6) nd rfl (Or.inl rfl) (zia rfl B.list (zab (zaa 5) zae))))
   (zmR 6 (zly GWeightsR zdX hr rfl Weights.mg Weights.fn.kp Weights.bd (zab (zaa 6) zae) (PuW.t (zdk (zdq (zcM (zaw GRight zjW hr rfl Right.mg Right.fn.kp Right.bd (zab (zaa 5) (zab (zaa 7) zae))))) (zcL (zff hu (zaa 6) (zaa 5))))) (zdO hu (zaF rfl B.len (zab (zaa 3) zae)) zaf)
   (zag (zaj (i:=2) nd rfl (Or.inl rfl) (zbq (zbq (zaa 2) zaf) (zaa 4)))) rfl B.list nd (it:=7) rfl (Or.inl rfl) (iy:=3) rfl (Or.inl rfl) (is_:=5) rfl (zmQ (zag (zaj (i:=2) nd rfl (Or.inl rfl) (zbq (zbq (zaa 2) zaf) (zaa 4)))) rfl) (zoK rfl rfl rfl B.list))))))))
   (zag (zao (zrg hu (zaw GWeights zhB hr rfl Weights.mg Weights.fn.kp Weights.bd (zab (zah (zaa 3) zaf) zae)) (zah (zaa 3) zaf)))))))),λds Q h=>?_⟩
 obtain⟨ns,rfl,hns,q⟩:=h;have hsz:=sizeLine_eq;walk_at "pu";obtain⟨cs,hcs,hcl⟩:∃cs:List Int,cutP (ns.map PV.int) none (some 63)=cs.map PV.int/\cs.length<=63:=by
  have e:cutP (ns.map PV.int) none (some 63)=((ns.map PV.int).take 63):=znd _ 63;exact⟨ns.take 63,by rw[e,List.map_take],by rw[XX];lia⟩
 rw[hcs,show cs.map PV.int++[PV.int 0]=(cs++[0]).map PV.int by rw[Xn];rfl];have hdl:(cs++[(0:Int)]).length<=64:=by rw[Xr,Yt];lia
 have hd0:0<(cs++[(0:Int)]).length:=by rw[Xr,Yt];lia
 generalize cs++[(0:Int)]=ds at hdl hd0;refine⟨by lia,by rw[Xb];lia,?_⟩;walk_at "go";walk_at "auto";obtain⟨Iv,hIv⟩:∃Iv:Nat->PEnv->Prop,∀m ρ,Iv m ρ↔∃(a:Nat) (xs:List PV) (v4 v5 v6 v7:Option (PV×Bool)),ρ=[some (PV.lst (ns.map PV.int),false),some (PV.lst (ds.map PV.int),false),some (PV.int a,false),some (PV.lst xs,true),v4,v5,v6,v7]/\zoU xs/\(a=0\/xs≠[])/\m=ds.length-a:=⟨_,λ_ _=>Iff.rfl⟩;refine⟨Iv,⟨_,(hIv _ _).mpr ⟨0,[],_,_,_,_,rfl,.inl rfl,.inl rfl,rfl⟩⟩,?_⟩;intro m ρ hI;obtain⟨a,xs,v4,v5,v6,v7,rfl,hF,hne,rfl⟩:=(hIv _ _).mp hI;walk_at "go";rw[Xb];refine ite2 (λhlt=>?_) (λhge=>?_)
 ·have hal:a<ds.length:=by lia
  have n1:=YC ds[a] (show(6:Int)≠0 by decide);have n2:=Yn ds[a] (show(0:Int)<6 by decide);walk_at "go";refine⟨_,cget hal rfl,_,rfl,by decide,?_⟩;obtain⟨mn,hmn⟩:∃mn:Nat,1+ds[a] % 6=mn:=⟨(1+ds[a] % 6).toNat,by lia⟩;rw[hmn];walk_at "go";refine⟨_,cget hal rfl,⟨ds,rfl⟩,by lia,by lia,by lia,by lia,λzs hz=>⟨⟨_,rfl⟩,zs,rfl,by lia,by lia,λsh S=>?_⟩⟩;refine(λ(key:∀bb:Bool,Hold (pSeq _ _) _ [_,_,_,_,_,some (PV.lst (XV ltsP sh),bb),_,_])=>⟨key true,key false⟩) ?_;intro bb;refine seqK λN hN=>(λ(fin:N [some (PV.lst (ns.map PV.int),false),some (PV.lst (ds.map PV.int),false),some (PV.int a,false),some (PV.lst xs,true),some (PV.int mn,false),some (PV.lst (sh.map ltsP),false),some (PV.lst (sh.map ltsP),true),v7])=>?_) (hN _ ?_)
  ·cases bb
   ·walk_at "go";exact fin
   ·walk_at "go";exact fin
  ·clear hN N;walk_at "go";refine⟨by decide,by decide,by decide,by decide,sh,rfl,S,λL hN h D=>⟨?_,sh,rfl,L,hN,h,rfl,S,D,zhK sh,zhK sh,?_⟩⟩
   ·have:=(zmU S hN).m6;rw[zhJ,Xb,Xz];lia
   have e:((a:Int)+1+(mn:Int))=((a+1+mn:Nat):Int):=by lia
   refine ite2 (λh0=>?_) (λh0=>?_)
   ·walk_at "go";rw[e];exact⟨_,(by lia:ds.length-(a+1+mn)<ds.length-a),(hIv _ _).mpr ⟨_,_,_,_,_,_,rfl,.inr ⟨sh,L,hN,h,rfl,S,D⟩,.inr (λz=>nomatch z),rfl⟩⟩
   ·walk_at "go";rw[e];exact⟨_,(by lia:ds.length-(a+1+mn)<ds.length-a),(hIv _ _).mpr ⟨_,_,_,_,_,_,rfl,hF,.inr (λz=>h0 (by rw[z];rfl)),rfl⟩⟩
 ·have ha0:a≠0:=by lia
  rcases hF with rfl | ⟨sh,L,hN,h,rfl,S,D⟩
  ·exact absurd rfl (hne.resolve_left ha0)
  ·walk_at "go";have hplw:PL.plain 6 (wtP (pbOf hN) h)=true:=zjq _ _;refine⟨_,zaB (j:=0) rfl,sh,rfl,S,λL' hN' h' D'=>⟨_,zaB (j:=1) rfl,zjq _ _,hplw,?_⟩⟩;rw[zoV D' D,decide_eq_true rfl];exact q
end
theorem zne:∀ns:List Int,ns.length<=63->fLaw [.lst (ns.map PV.int)] λd k=>d=.bl true:=λns h=>⟨ns,rfl,h,rfl⟩
theorem len1 {us:List Value}{s0:Str}(h:us.length=[s0].length):∃a0,us=[a0]:=by obtain⟨a0,us,rfl⟩:=Xw h;have h:=Nat.succ.inj h;rw[Ye.mp h];exact⟨a0,rfl⟩
theorem len2 {us:List Value}{s0 s1:Str}(h:us.length=[s0,s1].length):∃a0 a1,us=[a0,a1]:=by obtain⟨a0,us,rfl⟩:=Xw h;have h:=Nat.succ.inj h;obtain⟨a1,us,rfl⟩:=Xw h;have h:=Nat.succ.inj h;rw[Ye.mp h];exact⟨a0,a1,rfl⟩
theorem len3 {us:List Value}{s0 s1 s2:Str}(h:us.length=[s0,s1,s2].length):∃a0 a1 a2,us=[a0,a1,a2]:=by obtain⟨a0,us,rfl⟩:=Xw h;have h:=Nat.succ.inj h;obtain⟨a1,us,rfl⟩:=Xw h;have h:=Nat.succ.inj h;obtain⟨a2,us,rfl⟩:=Xw h;have h:=Nat.succ.inj h;rw[Ye.mp h];exact⟨a0,a1,a2,rfl⟩
theorem len4 {us:List Value}{s0 s1 s2 s3:Str}(h:us.length=[s0,s1,s2,s3].length):∃a0 a1 a2 a3,us=[a0,a1,a2,a3]:=by obtain⟨a0,us,rfl⟩:=Xw h;have h:=Nat.succ.inj h;obtain⟨a1,us,rfl⟩:=Xw h;have h:=Nat.succ.inj h;obtain⟨a2,us,rfl⟩:=Xw h;have h:=Nat.succ.inj h;obtain⟨a3,us,rfl⟩:=Xw h;have h:=Nat.succ.inj h;rw[Ye.mp h];exact⟨a0,a1,a2,a3,rfl⟩
theorem all_mk  {l:PySem.W.OpenLaw}{w:World}{K:Xa}{h:Heap}{mg:Str->Option Value}{fa f0 f1 f2 f3 f4 f5 f6 f7 f8 f9 f10 f11 f12 f13 f14 f15 f16 f17 f18 f19 f20 f21 f22 f23 f24 f25 f26 f27 g0:Addr}(X:K.In h)(G:h.Ns mainGlobals mg)(hfa:mg "law" = some (.ref fa))
  {od0 an0 od1 an1 od2 an2 od3 an3 od4 an4 od5 an5 od6 an6 od7 an7 od8 an8 od9 an9 od10 an10 od11 an11 od12 an12 od13 an13 od14 an14 od15 an15 od16 an16 od17 an17 od18 an18 od19 an19 od20 an20 od21 an21 od22 an22 od23 an23 od24 an24 od25 an25 od26 an26 od27 an27:Option Addr} {sl0 sl1 sl2 sl3 sl4 sl5 sl6 sl7 sl8 sl9 sl10 sl11 sl12 sl13 sl14 sl15 sl16 sl17 sl18 sl19 sl20 sl21 sl22 sl23 sl24 sl25 sl26 sl27:Array (Option Value)} {oc0 kV0 dc0 pm0 cd0 ct0 oc1 kV1 dc1 pm1 cd1 ct1 oc2 kV2 dc2 pm2 cd2 ct2 oc3 kV3 dc3 pm3 cd3 ct3 oc4 kV4 dc4 pm4 cd4 ct4 oc5 kV5 dc5 pm5 cd5 ct5 oc6 kV6 dc6 pm6 cd6 ct6 oc7 kV7 dc7 pm7 cd7 ct7 oc8 kV8 dc8 pm8 cd8 ct8 oc9 kV9 dc9 pm9 cd9 ct9 oc10 kV10 dc10 pm10 cd10 ct10 oc11 kV11 dc11 pm11 cd11 ct11 oc12 kV12 dc12 pm12 cd12 ct12 oc13 kV13 dc13 pm13 cd13 ct13 oc14 kV14 dc14 pm14 cd14 ct14 oc15 kV15 dc15 pm15 cd15 ct15 oc16 kV16 dc16 pm16 cd16 ct16 oc17 kV17 dc17 pm17 cd17 ct17 oc18 kV18 dc18 pm18 cd18 ct18 oc19 kV19 dc19 pm19 cd19 ct19 oc20 kV20 dc20 pm20 cd20 ct20 oc21 kV21 dc21 pm21 cd21 ct21 oc22 kV22 dc22 pm22 cd22 ct22 oc23 kV23 dc23 pm23 cd23 ct23 oc24 kV24 dc24 pm24 cd24 ct24 oc25 kV25 dc25 pm25 cd25 ct25 oc26 kV26 dc26 pm26 cd26 ct26 oc27 kV27 dc27 pm27 cd27 ct27:Value}
  (a0:Xt K mainGlobals "letters_of" = some (some (.ref f0))) (l0:K.lookup f0=some ⟨oc0,od0,.func (Xv "letters_of" "letters_of" (zar zaI) (zam zaI) (zac zaI) .none kV0 dc0 pm0 an0 cd0 ct0),sl0⟩) (c0:Xu K cd0 "letters_of" = true) (k0:Xq K (.ref f0)=true)
  (a1:Xt K mainGlobals "first_lines" = some (some (.ref f1))) (l1:K.lookup f1=some ⟨oc1,od1,.func (Xv "first_lines" "first_lines" (zar zat) (zam zat) (zac zat) .none kV1 dc1 pm1 an1 cd1 ct1),sl1⟩) (c1:Xu K cd1 "first_lines" = true) (k1:Xq K (.ref f1)=true)
  (a2:Xt K mainGlobals "greatest_divisor" = some (some (.ref f2))) (l2:K.lookup f2=some ⟨oc2,od2,.func (Xv "greatest_divisor" "greatest_divisor" (zar sGcd) (zam sGcd) (zac sGcd) .none kV2 dc2 pm2 an2 cd2 ct2),sl2⟩) (c2:Xu K cd2 "greatest_divisor" = true) (k2:Xq K (.ref f2)=true)
  (a3:Xt K mainGlobals "weights" = some (some (.ref f3))) (l3:K.lookup f3=some ⟨oc3,od3,.func (Xv "weights" "weights" (zar zbk) (zam zbk) (zac zbk) .none kV3 dc3 pm3 an3 cd3 ct3),sl3⟩) (c3:Xu K cd3 "weights" = true) (k3:Xq K (.ref f3)=true)
  (a4:Xt K mainGlobals "_law_whole" = some (some (.ref f4))) (l4:K.lookup f4=some ⟨oc4,od4,.func (Xv "_law_whole" "_law_whole" (zar zdl) (zam zdl) (zac zdl) .none kV4 dc4 pm4 an4 cd4 ct4),sl4⟩) (c4:Xu K cd4 "_law_whole" = true) (k4:Xq K (.ref f4)=true)
  (a5:Xt K mainGlobals "_law_mixed" = some (some (.ref f5))) (l5:K.lookup f5=some ⟨oc5,od5,.func (Xv "_law_mixed" "_law_mixed" (zar zcg) (zam zcg) (zac zcg) .none kV5 dc5 pm5 an5 cd5 ct5),sl5⟩) (c5:Xu K cd5 "_law_mixed" = true) (k5:Xq K (.ref f5)=true)
  (a6:Xt K mainGlobals "_law_picked" = some (some (.ref f6))) (l6:K.lookup f6=some ⟨oc6,od6,.func (Xv "_law_picked" "_law_picked" (zar zbE) (zam zbE) (zac zbE) .none kV6 dc6 pm6 an6 cd6 ct6),sl6⟩) (c6:Xu K cd6 "_law_picked" = true) (k6:Xq K (.ref f6)=true)
  (a7:Xt K mainGlobals "_law_alphabet" = some (some (.ref f7))) (l7:K.lookup f7=some ⟨oc7,od7,.func (Xv "_law_alphabet" "_law_alphabet" (zar zbl) (zam zbl) (zac zbl) .none kV7 dc7 pm7 an7 cd7 ct7),sl7⟩) (c7:Xu K cd7 "_law_alphabet" = true) (k7:Xq K (.ref f7)=true)
  (a8:Xt K mainGlobals "_law_any" = some (some (.ref f8))) (l8:K.lookup f8=some ⟨oc8,od8,.func (Xv "_law_any" "_law_any" (zar sAny) (zam sAny) (zac sAny) .none kV8 dc8 pm8 an8 cd8 ct8),sl8⟩) (c8:Xu K cd8 "_law_any" = true) (k8:Xq K (.ref f8)=true)
  (a9:Xt K mainGlobals "_law_ring" = some (some (.ref f9))) (l9:K.lookup f9=some ⟨oc9,od9,.func (Xv "_law_ring" "_law_ring" (zar zfE) (zam zfE) (zac zfE) .none kV9 dc9 pm9 an9 cd9 ct9),sl9⟩) (c9:Xu K cd9 "_law_ring" = true) (k9:Xq K (.ref f9)=true)
  (a10:Xt K mainGlobals "_law_tree" = some (some (.ref f10))) (l10:K.lookup f10=some ⟨oc10,od10,.func (Xv "_law_tree" "_law_tree" (zar zgA) (zam zgA) (zac zgA) .none kV10 dc10 pm10 an10 cd10 ct10),sl10⟩) (c10:Xu K cd10 "_law_tree" = true) (k10:Xq K (.ref f10)=true)
  (a11:Xt K mainGlobals "_law_shape" = some (some (.ref f11))) (l11:K.lookup f11=some ⟨oc11,od11,.func (Xv "_law_shape" "_law_shape" (zar zdW) (zam zdW) (zac zdW) .none kV11 dc11 pm11 an11 cd11 ct11),sl11⟩) (c11:Xu K cd11 "_law_shape" = true) (k11:Xq K (.ref f11)=true)
  (a12:Xt K mainGlobals "_law_filled_up" = some (some (.ref f12))) (l12:K.lookup f12=some ⟨oc12,od12,.func (Xv "_law_filled_up" "_law_filled_up" (zar zbm) (zam zbm) (zac zbm) .none kV12 dc12 pm12 an12 cd12 ct12),sl12⟩) (c12:Xu K cd12 "_law_filled_up" = true) (k12:Xq K (.ref f12)=true)
  (a13:Xt K mainGlobals "_law_letters" = some (some (.ref f13))) (l13:K.lookup f13=some ⟨oc13,od13,.func (Xv "_law_letters" "_law_letters" (zar zbL) (zam zbL) (zac zbL) .none kV13 dc13 pm13 an13 cd13 ct13),sl13⟩) (c13:Xu K cd13 "_law_letters" = true) (k13:Xq K (.ref f13)=true)
  (a14:Xt K mainGlobals "_law_divisor" = some (some (.ref f14))) (l14:K.lookup f14=some ⟨oc14,od14,.func (Xv "_law_divisor" "_law_divisor" (zar zbM) (zam zbM) (zac zbM) .none kV14 dc14 pm14 an14 cd14 ct14),sl14⟩) (c14:Xu K cd14 "_law_divisor" = true) (k14:Xq K (.ref f14)=true)
  (a15:Xt K mainGlobals "_law_is_list" = some (some (.ref f15))) (l15:K.lookup f15=some ⟨oc15,od15,.func (Xv "_law_is_list" "_law_is_list" (zar zcB) (zam zcB) (zac zcB) .none kV15 dc15 pm15 an15 cd15 ct15),sl15⟩) (c15:Xu K cd15 "_law_is_list" = true) (k15:Xq K (.ref f15)=true)
  (a16:Xt K mainGlobals "_law_right" = some (some (.ref f16))) (l16:K.lookup f16=some ⟨oc16,od16,.func (Xv "_law_right" "_law_right" (zar zcW) (zam zcW) (zac zcW) .none kV16 dc16 pm16 an16 cd16 ct16),sl16⟩) (c16:Xu K cd16 "_law_right" = true) (k16:Xq K (.ref f16)=true)
  (a17:Xt K mainGlobals "law" = some (some (.ref f17))) (l17:K.lookup f17=some ⟨oc17,od17,.func (Xv "law" "law" (zar sLaw) (zam sLaw) (zac sLaw) .none kV17 dc17 pm17 an17 cd17 ct17),sl17⟩) (c17:Xu K cd17 "law" = true) (k17:Xq K (.ref f17)=true)
  (z0:Xt K mainGlobals "range" = some none)
  (z1:Xt K mainGlobals "len" = some none)
  (z2:Xt K mainGlobals "list" = some none)
  (z3:Xt K mainGlobals "tuple" = some none)
  (z4:Xt K mainGlobals "sorted" = some none)
  (z5:Xt K mainGlobals "set" = some none)
  (z6:Xt K mainGlobals "isinstance" = some none)
  (z7:Xt K mainGlobals "str" = some none)
  (z8:Xt K mainGlobals "int" = some none)
  (z9:Xt K mainGlobals "bool" = some none)
  (z10:Xt K mainGlobals "dict" = some none)
  (z11:Xt K mainGlobals "enumerate" = some none)
  (z12:Xt K mainGlobals "zip" = some none)
  (z13:Xt K mainGlobals "min" = some none)
  (z14:Xt K mainGlobals "max" = some none)
  (z15:Xt K mainGlobals "sum" = some none)
  (z16:Xt K mainGlobals "all" = some none)
  (z17:Xt K mainGlobals "any" = some none)
  (z18:Xt K mainGlobals "reversed" = some none)
  (z19:Xt K mainGlobals "abs" = some none)
  (z20:Xt K mainGlobals "ord" = some none)
  (y0:Xt K mainGlobals "Board" = some (some (.ref g0)))
  (a18:XF K (.ref g0) "__init__" = some (some (.ref f18))) (l18:K.lookup f18=some ⟨oc18,od18,.func (Xv "__init__" "Board.__init__" (zar zdm) (zam zdm) (zac zdm) .none kV18 dc18 pm18 an18 cd18 ct18),sl18⟩) (c18:Xu K cd18 "Board.__init__" = true) (k18:Xq K (.ref f18)=true) (m18:Yw K (.ref f18)=true)
  (a19:XF K (.ref g0) "column_to_raise" = some (some (.ref f19))) (l19:K.lookup f19=some ⟨oc19,od19,.func (Xv "column_to_raise" "Board.column_to_raise" (zar sCol) (zam sCol) (zac sCol) .none kV19 dc19 pm19 an19 cd19 ct19),sl19⟩) (c19:Xu K cd19 "Board.column_to_raise" = true) (k19:Xq K (.ref f19)=true) (m19:Yw K (.ref f19)=true)
  (a20:XF K (.ref g0) "ends_sooner" = some (some (.ref f20))) (l20:K.lookup f20=some ⟨oc20,od20,.func (Xv "ends_sooner" "Board.ends_sooner" (zar zbV) (zam zbV) (zac zbV) .none kV20 dc20 pm20 an20 cd20 ct20),sl20⟩) (c20:Xu K cd20 "Board.ends_sooner" = true) (k20:Xq K (.ref f20)=true) (m20:Yw K (.ref f20)=true)
  (a21:XF K (.ref g0) "line_that_ends" = some (some (.ref f21))) (l21:K.lookup f21=some ⟨oc21,od21,.func (Xv "line_that_ends" "Board.line_that_ends" (zar zfF) (zam zfF) (zac zfF) .none kV21 dc21 pm21 an21 cd21 ct21),sl21⟩) (c21:Xu K cd21 "Board.line_that_ends" = true) (k21:Xq K (.ref f21)=true) (m21:Yw K (.ref f21)=true)
  (a22:XF K (.ref g0) "without" = some (some (.ref f22))) (l22:K.lookup f22=some ⟨oc22,od22,.func (Xv "without" "Board.without" (zar zaX) (zam zaX) (zac zaX) .none kV22 dc22 pm22 an22 cd22 ct22),sl22⟩) (c22:Xu K cd22 "Board.without" = true) (k22:Xq K (.ref f22)=true) (m22:Yw K (.ref f22)=true)
  (a23:XF K (.ref g0) "turn" = some (some (.ref f23))) (l23:K.lookup f23=some ⟨oc23,od23,.func (Xv "turn" "Board.turn" (zar zfp) (zam zfp) (zac zfp) .none kV23 dc23 pm23 an23 cd23 ct23),sl23⟩) (c23:Xu K cd23 "Board.turn" = true) (k23:Xq K (.ref f23)=true) (m23:Yw K (.ref f23)=true)
  (a24:XF K (.ref g0) "settle" = some (some (.ref f24))) (l24:K.lookup f24=some ⟨oc24,od24,.func (Xv "settle" "Board.settle" (zar zcC) (zam zcC) (zac zcC) .none kV24 dc24 pm24 an24 cd24 ct24),sl24⟩) (c24:Xu K cd24 "Board.settle" = true) (k24:Xq K (.ref f24)=true) (m24:Yw K (.ref f24)=true)
  (a25:XF K (.ref g0) "price" = some (some (.ref f25))) (l25:K.lookup f25=some ⟨oc25,od25,.func (Xv "price" "Board.price" (zar zdn) (zam zdn) (zac zdn) .none kV25 dc25 pm25 an25 cd25 ct25),sl25⟩) (c25:Xu K cd25 "Board.price" = true) (k25:Xq K (.ref f25)=true) (m25:Yw K (.ref f25)=true)
  (a26:XF K (.ref g0) "prices" = some (some (.ref f26))) (l26:K.lookup f26=some ⟨oc26,od26,.func (Xv "prices" "Board.prices" (zar zck) (zam zck) (zac zck) .none kV26 dc26 pm26 an26 cd26 ct26),sl26⟩) (c26:Xu K cd26 "Board.prices" = true) (k26:Xq K (.ref f26)=true) (m26:Yw K (.ref f26)=true)
  (a27:XF K (.ref g0) "worths" = some (some (.ref f27))) (l27:K.lookup f27=some ⟨oc27,od27,.func (Xv "worths" "Board.worths" (zar zcD) (zam zcD) (zac zcD) .none kV27 dc27 pm27 an27 cd27 ct27),sl27⟩) (c27:Xu K cd27 "Board.worths" = true) (k27:Xq K (.ref f27)=true) (m27:Yw K (.ref f27)=true)
  (mk0:PySem.W.makesIn K g0=true)
  (kc0:Xq K (.ref g0)=true)
  (tc1:PySem.W.plainGet K g0 Str.empty=true)
  (tc2:PySem.W.hasDictIn K g0=true)
  (tc3:PySem.W.plainOver K g0=true)
  (tc4:XF K (.ref g0) "__setattr__" = some (some (.builtin "object.__setattr__")))
  (t_width:XF K (.ref g0) "width" = some none)
  (t_bottom:XF K (.ref g0) "bottom" = some none)
  (t_lines:XF K (.ref g0) "lines" = some none)
  (t_held:XF K (.ref g0) "held" = some none) :
  ∃fd:FuncData,(∀(s:Shared) (v:Value),BindsTo s fd ⟨[v],[]⟩ [("_law_script",v)])/\∀base:Heap,K.In base->base.Ns mainGlobals mg->FnOk l.prog w K mg base CX0 6 fa fd ["_law_script"] (spP K fLaw):=by
 have e:=hfa.symm.trans (XS X G a17);cases e;have F0:=zaC (st:=zaI) l0 c0 k0;have X0:Fx K mg "letters_of" zaI ["shape"] f0 _:=⟨F0,F0.binds (ps:=["shape"]) λ_ _ _ _ _ _ us hl=>by obtain⟨_,rfl⟩:=len1 hl;rfl,XS X G a0⟩;have F1:=zaC (st:=zat) l1 c1 k1;have X1:Fx K mg "first_lines" zat ["shape","letters"] f1 _:=⟨F1,F1.binds (ps:=["shape","letters"]) λ_ _ _ _ _ _ us hl=>by obtain⟨_,_,rfl⟩:=len2 hl;rfl,XS X G a1⟩;have F2:=zaC (st:=sGcd) l2 c2 k2;have X2:Fx K mg "greatest_divisor" sGcd ["numbers"] f2 _:=⟨F2,F2.binds (ps:=["numbers"]) λ_ _ _ _ _ _ us hl=>by obtain⟨_,rfl⟩:=len1 hl;rfl,XS X G a2⟩;have F3:=zaC (st:=zbk) l3 c3 k3;have X3:Fx K mg "weights" zbk ["shape"] f3 _:=⟨F3,F3.binds (ps:=["shape"]) λ_ _ _ _ _ _ us hl=>by obtain⟨_,rfl⟩:=len1 hl;rfl,XS X G a3⟩;have F4:=zaC (st:=zdl) l4 c4 k4;have X4:Fx K mg "_law_whole" zdl ["_law_found"] f4 _:=⟨F4,F4.binds (ps:=["_law_found"]) λ_ _ _ _ _ _ us hl=>by obtain⟨_,rfl⟩:=len1 hl;rfl,XS X G a4⟩;have F5:=zaC (st:=zcg) l5 c5 k5;have X5:Fx K mg "_law_mixed" zcg ["_law_cell","_law_k"] f5 _:=⟨F5,F5.binds (ps:=["_law_cell","_law_k"]) λ_ _ _ _ _ _ us hl=>by obtain⟨_,_,rfl⟩:=len2 hl;rfl,XS X G a5⟩;have F6:=zaC (st:=zbE) l6 c6 k6;have X6:Fx K mg "_law_picked" zbE ["_law_cell","_law_some","_law_many"] f6 _:=⟨F6,F6.binds (ps:=["_law_cell","_law_some","_law_many"]) λ_ _ _ _ _ _ us hl=>by obtain⟨_,_,_,rfl⟩:=len3 hl;rfl,XS X G a6⟩;have F7:=zaC (st:=zbl) l7 c7 k7;have X7:Fx K mg "_law_alphabet" zbl ["_law_cell"] f7 _:=⟨F7,F7.binds (ps:=["_law_cell"]) λ_ _ _ _ _ _ us hl=>by obtain⟨_,rfl⟩:=len1 hl;rfl,XS X G a7⟩;have F8:=zaC (st:=sAny) l8 c8 k8;have X8:Fx K mg "_law_any" sAny ["_law_cells","_law_letters_here"] f8 _:=⟨F8,F8.binds (ps:=["_law_cells","_law_letters_here"]) λ_ _ _ _ _ _ us hl=>by obtain⟨_,_,rfl⟩:=len2 hl;rfl,XS X G a8⟩;have F9:=zaC (st:=zfE) l9 c9 k9;have X9:Fx K mg "_law_ring" zfE ["_law_cells","_law_letters_here"] f9 _:=⟨F9,F9.binds (ps:=["_law_cells","_law_letters_here"]) λ_ _ _ _ _ _ us hl=>by obtain⟨_,_,rfl⟩:=len2 hl;rfl,XS X G a9⟩;have F10:=zaC (st:=zgA) l10 c10 k10;have X10:Fx K mg "_law_tree" zgA ["_law_cells","_law_letters_here"] f10 _:=⟨F10,F10.binds (ps:=["_law_cells","_law_letters_here"]) λ_ _ _ _ _ _ us hl=>by obtain⟨_,_,rfl⟩:=len2 hl;rfl,XS X G a10⟩;have F11:=zaC (st:=zdW) l11 c11 k11;have X11:Fx K mg "_law_shape" zdW ["_law_head","_law_cells"] f11 _:=⟨F11,F11.binds (ps:=["_law_head","_law_cells"]) λ_ _ _ _ _ _ us hl=>by obtain⟨_,_,rfl⟩:=len2 hl;rfl,XS X G a11⟩;have F12:=zaC (st:=zbm) l12 c12 k12;have X12:Fx K mg "_law_filled_up" zbm ["_law_cells","_law_at","_law_many"] f12 _:=⟨F12,F12.binds (ps:=["_law_cells","_law_at","_law_many"]) λ_ _ _ _ _ _ us hl=>by obtain⟨_,_,_,rfl⟩:=len3 hl;rfl,XS X G a12⟩;have F13:=zaC (st:=zbL) l13 c13 k13;have X13:Fx K mg "_law_letters" zbL ["_law_shape_here"] f13 _:=⟨F13,F13.binds (ps:=["_law_shape_here"]) λ_ _ _ _ _ _ us hl=>by obtain⟨_,rfl⟩:=len1 hl;rfl,XS X G a13⟩;have F14:=zaC (st:=zbM) l14 c14 k14;have X14:Fx K mg "_law_divisor" zbM ["_law_one","_law_other"] f14 _:=⟨F14,F14.binds (ps:=["_law_one","_law_other"]) λ_ _ _ _ _ _ us hl=>by obtain⟨_,_,rfl⟩:=len2 hl;rfl,XS X G a14⟩;have F15:=zaC (st:=zcB) l15 c15 k15;have X15:Fx K mg "_law_is_list" zcB ["_law_found","_law_many"] f15 _:=⟨F15,F15.binds (ps:=["_law_found","_law_many"]) λ_ _ _ _ _ _ us hl=>by obtain⟨_,_,rfl⟩:=len2 hl;rfl,XS X G a15⟩;have F16:=zaC (st:=zcW) l16 c16 k16;have X16:Fx K mg "_law_right" zcW ["_law_shape_here","_law_told"] f16 _:=⟨F16,F16.binds (ps:=["_law_shape_here","_law_told"]) λ_ _ _ _ _ _ us hl=>by obtain⟨_,_,rfl⟩:=len2 hl;rfl,XS X G a16⟩;have F17:=zaC (st:=sLaw) l17 c17 k17;have F18:=zaC (st:=zdm) l18 c18 k18;have X18:Ix K mg g0 "Board" "Board.__init__" zdm ["self","shape"] f18 _:=⟨F18,F18.binds (ps:=["self","shape"]) λ_ _ _ _ _ _ us hl=>by obtain⟨_,_,rfl⟩:=len2 hl;rfl,⟨mk0,a18,m18,kc0⟩,XS X G y0⟩;have F19:=zaC (st:=sCol) l19 c19 k19;have X19:Mx K g0 "column_to_raise" "Board.column_to_raise" sCol ["self"] f19 _:=⟨F19,F19.binds (ps:=["self"]) λ_ _ _ _ _ _ us hl=>by obtain⟨_,rfl⟩:=len1 hl;rfl,⟨a19,m19,k19⟩⟩;have F20:=zaC (st:=zbV) l20 c20 k20;have X20:Mx K g0 "ends_sooner" "Board.ends_sooner" zbV ["self","i","j","column"] f20 _:=⟨F20,F20.binds (ps:=["self","i","j","column"]) λ_ _ _ _ _ _ us hl=>by obtain⟨_,_,_,_,rfl⟩:=len4 hl;rfl,⟨a20,m20,k20⟩⟩;have F21:=zaC (st:=zfF) l21 c21 k21;have X21:Mx K g0 "line_that_ends" "Board.line_that_ends" zfF ["self","column"] f21 _:=⟨F21,F21.binds (ps:=["self","column"]) λ_ _ _ _ _ _ us hl=>by obtain⟨_,_,rfl⟩:=len2 hl;rfl,⟨a21,m21,k21⟩⟩;have F22:=zaC (st:=zaX) l22 c22 k22;have X22:Mx K g0 "without" "Board.without" zaX ["self","line","turned","column"] f22 _:=⟨F22,F22.binds (ps:=["self","line","turned","column"]) λ_ _ _ _ _ _ us hl=>by obtain⟨_,_,_,_,rfl⟩:=len4 hl;rfl,⟨a22,m22,k22⟩⟩;have F23:=zaC (st:=zfp) l23 c23 k23;have X23:Mx K g0 "turn" "Board.turn" zfp ["self","i","column"] f23 _:=⟨F23,F23.binds (ps:=["self","i","column"]) λ_ _ _ _ _ _ us hl=>by obtain⟨_,_,_,rfl⟩:=len3 hl;rfl,⟨a23,m23,k23⟩⟩;have F24:=zaC (st:=zcC) l24 c24 k24;have X24:Mx K g0 "settle" "Board.settle" zcC ["self"] f24 _:=⟨F24,F24.binds (ps:=["self"]) λ_ _ _ _ _ _ us hl=>by obtain⟨_,rfl⟩:=len1 hl;rfl,⟨a24,m24,k24⟩⟩;have F25:=zaC (st:=zdn) l25 c25 k25;have X25:Mx K g0 "price" "Board.price" zdn ["self","column"] f25 _:=⟨F25,F25.binds (ps:=["self","column"]) λ_ _ _ _ _ _ us hl=>by obtain⟨_,_,rfl⟩:=len2 hl;rfl,⟨a25,m25,k25⟩⟩;have F26:=zaC (st:=zck) l26 c26 k26;have X26:Mx K g0 "prices" "Board.prices" zck ["self"] f26 _:=⟨F26,F26.binds (ps:=["self"]) λ_ _ _ _ _ _ us hl=>by obtain⟨_,rfl⟩:=len1 hl;rfl,⟨a26,m26,k26⟩⟩;have F27:=zaC (st:=zcD) l27 c27 k27;have X27:Mx K g0 "worths" "Board.worths" zcD ["self"] f27 _:=⟨F27,F27.binds (ps:=["self"]) λ_ _ _ _ _ _ us hl=>by obtain⟨_,rfl⟩:=len1 hl;rfl,⟨a27,m27,k27⟩⟩;have B:Bl mg:=⟨Xy X G z0,Xy X G z1,Xy X G z2,Xy X G z3,Xy X G z4,Xy X G z5,Xy X G z6,Xy X G z7,Xy X G z8,Xy X G z9,Xy X G z10,Xy X G z11,Xy X G z12,Xy X G z13,Xy X G z14,Xy X G z15,Xy X G z16,Xy X G z17,Xy X G z18,Xy X G z19,Xy X G z20⟩;have T:TF K g0:=⟨⟨tc1,tc2,tc3,tc4⟩,t_width,t_bottom,t_lines,t_held⟩;exact⟨Xv "law" "law" (zar sLaw) (zam sLaw) (zac sLaw) .none kV17 dc17 pm17 an17 cd17 ct17,λs v=>.of_eq rfl,λbase _ _=>zqG F17 X11 ((zmZ X11.fn X5 X6 X7 X8 X9 X10 B).mono (by decide)) X12 ((zil X12.fn B).mono (by decide)) X3 ((zih X3.fn T X18 X22 X20 X21 X19 X23 X24 X25 X26 X27 X0 X1 X2 B).mono (by decide)) X16 ((znb X16.fn X4 X13 X15 X14 B).mono (by decide)) B⟩
end Q41
open PySem PySem.W
set_option maxRecDepth 100000 in
set_option maxHeartbeats 0 in
theorem PySem.Challenge.cw_joinwood_k41_weights_holds : PySem.Challenge.rw_joinwood_k41_weights.Holds := by
 w_on;o_law;k_head;(case hw=>w_witness2)
 k_fill
 refine PL.zrj (l:=PySem.Challenge.rw_joinwood_k41_weights) (k:=6) (FL:=Q41.fLaw) (x:="_law_script") rfl rfl ⟨rfl,by decide,by decide⟩ Q41.znc (fun w h Y=>PySem.W.kIn_of Y) ?F Q41.zne
 case F=>
  intro w mg fa h KX G hmg
  refine' Q41.all_mk KX G hmg ?a0 ?l0 ?c0 ?k0 ?a1 ?l1 ?c1 ?k1 ?a2 ?l2 ?c2 ?k2 ?a3 ?l3 ?c3 ?k3 ?a4 ?l4 ?c4 ?k4 ?a5 ?l5 ?c5 ?k5 ?a6 ?l6 ?c6 ?k6 ?a7 ?l7 ?c7 ?k7 ?a8 ?l8 ?c8 ?k8 ?a9 ?l9 ?c9 ?k9 ?a10 ?l10 ?c10 ?k10 ?a11 ?l11 ?c11 ?k11 ?a12 ?l12 ?c12 ?k12 ?a13 ?l13 ?c13 ?k13 ?a14 ?l14 ?c14 ?k14 ?a15 ?l15 ?c15 ?k15 ?a16 ?l16 ?c16 ?k16 ?a17 ?l17 ?c17 ?k17 ?z0 ?z1 ?z2 ?z3 ?z4 ?z5 ?z6 ?z7 ?z8 ?z9 ?z10 ?z11 ?z12 ?z13 ?z14 ?z15 ?z16 ?z17 ?z18 ?z19 ?z20 ?y0 ?a18 ?l18 ?c18 ?k18 ?m18 ?a19 ?l19 ?c19 ?k19 ?m19 ?a20 ?l20 ?c20 ?k20 ?m20 ?a21 ?l21 ?c21 ?k21 ?m21 ?a22 ?l22 ?c22 ?k22 ?m22 ?a23 ?l23 ?c23 ?k23 ?m23 ?a24 ?l24 ?c24 ?k24 ?m24 ?a25 ?l25 ?c25 ?k25 ?m25 ?a26 ?l26 ?c26 ?k26 ?m26 ?a27 ?l27 ?c27 ?k27 ?m27 ?mk0 ?kc0 ?tc1 ?tc2 ?tc3 ?tc4 ?t_width ?t_bottom ?t_lines ?t_held
  (case a0=>k_is)
  (case l0=>k_is)
  (case c0=>k_is)
  (case k0=>k_is)
  (case a1=>k_is)
  (case l1=>k_is)
  (case c1=>k_is)
  (case k1=>k_is)
  (case a2=>k_is)
  (case l2=>k_is)
  (case c2=>k_is)
  (case k2=>k_is)
  (case a3=>k_is)
  (case l3=>k_is)
  (case c3=>k_is)
  (case k3=>k_is)
  (case a4=>k_is)
  (case l4=>k_is)
  (case c4=>k_is)
  (case k4=>k_is)
  (case a5=>k_is)
  (case l5=>k_is)
  (case c5=>k_is)
  (case k5=>k_is)
  (case a6=>k_is)
  (case l6=>k_is)
  (case c6=>k_is)
  (case k6=>k_is)
  (case a7=>k_is)
  (case l7=>k_is)
  (case c7=>k_is)
  (case k7=>k_is)
  (case a8=>k_is)
  (case l8=>k_is)
  (case c8=>k_is)
  (case k8=>k_is)
  (case a9=>k_is)
  (case l9=>k_is)
  (case c9=>k_is)
  (case k9=>k_is)
  (case a10=>k_is)
  (case l10=>k_is)
  (case c10=>k_is)
  (case k10=>k_is)
  (case a11=>k_is)
  (case l11=>k_is)
  (case c11=>k_is)
  (case k11=>k_is)
  (case a12=>k_is)
  (case l12=>k_is)
  (case c12=>k_is)
  (case k12=>k_is)
  (case a13=>k_is)
  (case l13=>k_is)
  (case c13=>k_is)
  (case k13=>k_is)
  (case a14=>k_is)
  (case l14=>k_is)
  (case c14=>k_is)
  (case k14=>k_is)
  (case a15=>k_is)
  (case l15=>k_is)
  (case c15=>k_is)
  (case k15=>k_is)
  (case a16=>k_is)
  (case l16=>k_is)
  (case c16=>k_is)
  (case k16=>k_is)
  (case a17=>k_is)
  (case l17=>k_is)
  (case c17=>k_is)
  (case k17=>k_is)
  (case z0=>k_is)
  (case z1=>k_is)
  (case z2=>k_is)
  (case z3=>k_is)
  (case z4=>k_is)
  (case z5=>k_is)
  (case z6=>k_is)
  (case z7=>k_is)
  (case z8=>k_is)
  (case z9=>k_is)
  (case z10=>k_is)
  (case z11=>k_is)
  (case z12=>k_is)
  (case z13=>k_is)
  (case z14=>k_is)
  (case z15=>k_is)
  (case z16=>k_is)
  (case z17=>k_is)
  (case z18=>k_is)
  (case z19=>k_is)
  (case z20=>k_is)
  (case y0=>k_is)
  (case a18=>k_is)
  (case l18=>k_is)
  (case c18=>k_is)
  (case k18=>k_is)
  (case m18=>k_is)
  (case a19=>k_is)
  (case l19=>k_is)
  (case c19=>k_is)
  (case k19=>k_is)
  (case m19=>k_is)
  (case a20=>k_is)
  (case l20=>k_is)
  (case c20=>k_is)
  (case k20=>k_is)
  (case m20=>k_is)
  (case a21=>k_is)
  (case l21=>k_is)
  (case c21=>k_is)
  (case k21=>k_is)
  (case m21=>k_is)
  (case a22=>k_is)
  (case l22=>k_is)
  (case c22=>k_is)
  (case k22=>k_is)
  (case m22=>k_is)
  (case a23=>k_is)
  (case l23=>k_is)
  (case c23=>k_is)
  (case k23=>k_is)
  (case m23=>k_is)
  (case a24=>k_is)
  (case l24=>k_is)
  (case c24=>k_is)
  (case k24=>k_is)
  (case m24=>k_is)
  (case a25=>k_is)
  (case l25=>k_is)
  (case c25=>k_is)
  (case k25=>k_is)
  (case m25=>k_is)
  (case a26=>k_is)
  (case l26=>k_is)
  (case c26=>k_is)
  (case k26=>k_is)
  (case m26=>k_is)
  (case a27=>k_is)
  (case l27=>k_is)
  (case c27=>k_is)
  (case k27=>k_is)
  (case m27=>k_is)
  (case mk0=>first | k_is | k_exc | kit_is | kernel_rfl)
  (case kc0=>first | k_is | k_exc | kit_is | kernel_rfl)
  (case tc1=>first | k_is | k_exc | kit_is | kernel_rfl)
  (case tc2=>first | k_is | k_exc | kit_is | kernel_rfl)
  (case tc3=>first | k_is | k_exc | kit_is | kernel_rfl)
  (case tc4=>first | k_is | k_exc | kit_is | kernel_rfl)
  (case t_width=>first | k_is | k_exc | kit_is | kernel_rfl)
  (case t_bottom=>first | k_is | k_exc | kit_is | kernel_rfl)
  (case t_lines=>first | k_is | k_exc | kit_is | kernel_rfl)
  (case t_held=>first | k_is | k_exc | kit_is | kernel_rfl)
#print axioms PySem.Challenge.cw_joinwood_k41_weights_holds
