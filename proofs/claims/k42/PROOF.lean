import PyProof.Rows.All
import Wide.All
import OpenK.AllK
import Wide.FinOn
import Lean
import PyProof.EqAt
import PyProof.EqKinds
import PyProof.TupleCall
import PyProof.NeKinds
import PyProof.AttrMissHeap
import PyProof.EnumMake
import PyProof.DictUpdate
import KE.KDictOf
import KE.KDictList
import PyProof.MaxThree
import PyProof.ListStr
import PyProof.ConsumeWalk
import PyProof.SliceStr2
import PyProof.StrBlockI
import PyProof.EnumStmt
import PyProof.ZipIter
import KE.KRevIter
import PyProof.Rows.CallKwBuiltin
import PyProof.Rows.SeqMore
import PyProof.Rows.SortRuns
import PyProof.Rows.SortPure
import PyProof.Rows.SortShell
import PyProof.Dict
import PyProof.TupleOfStr
import PyProof.Rows.StrRules
import PyProof.ExcBaseAll.ValueError
import PyProof.ExcArgsOwn
import PyProof.ExcAttrAll.ValueError
import KE.KIsAll
import PyProof.StrWalks
import PyProof.StrBlockH
import PyProof.Rows.CountFlat
import KE.KIntText
import KE.IntTextLaws
import PyProof.CallStr
import PyProof.StrOps2
import KE.RegKIsAll
import PySem.Challenge.RW_joinwood_k42_filled_to_the_bound
set_option Elab.async false
set_option linter.all false
set_option maxRecDepth 100000
set_option maxHeartbeats 4000000
open PySem.W renaming Frag->Xa,nsIn->Xc,findIn->Xt,mg_none_of->XB,mg_of->XH,emptyDict->Yv,instObj->YG,keepIn->YJ
open List renaming length_map->Xb,getElem?_eq_some_iff->Xd,getElem?_eq_getElem->Xf,getElem?_set_ne->Xh,getElem?_map->Xi,size_toArray->Xj,map_append->Xk,getElem?_set_self->Xl,mem_cons_of_mem->Xn,mem_cons_self->Xp,length_append->Xq,mem_of_getElem?->Xr,range->Xs,mem_cons->Xu,mem_singleton->Xw,map_cons->Xy,exists_cons_of_length_eq_add_one->Xz,length_range->XA,getElem?_eq_none->XC,getD_eq_getElem?_getD->XE,set_eq_of_length_le->XF,length_cons->XG,mem_map->XI,take_of_length_le->XJ,mem_append_right->XM,length_take->XR,nodup_cons->XT,all_eq_true->XV,length_eq_zero_iff->XW,take_length->XY,mem_append->XZ,length_set->Ya,range_succ->Yb,zip_cons_cons->Yc,mem_range->Yk,lookup_cons->Yl,getElem_mem->Yo,mem_append_left->Yq,find?_cons->Ys,getElem?_range->Yu,getElem?_append_right->YA,length_nil->YC,length_zip->YD,getElem?_append_left->YE,length_singleton->YF,cons_append->YI,nodup_nil->YL,length_replicate->YM,take_append_drop->YN
open PySem.Heap renaming get?_push_of_some->Xe,lt_size->Xm,get?_push_size->Xv,get?_update_self->Ye,SameBut->Yf,size_push->Yw,get?_update_other->YB
open Nat renaming le_refl->Xg,ne_of_lt->Xx,lt_of_lt_of_le->XD,le_trans->XO,lt_succ_self->XQ,lt_succ_of_lt->XS,ne_of_gt->Yg,zero_le->Yh,lt_irrefl->Yr,le_of_lt->Yx,pow_le_pow_right->Yz
open Bool renaming false_ne_true->Xo,false_eq_true->XL,and_eq_true->Yn
open Int renaming toNat_natCast->XU,mul_comm->XX,mul_zero->Yi,emod_lt_of_pos->Yj,emod_nonneg->Ym,mul_le_mul_of_nonneg_right->Yt,mul_nonpos_of_nonpos_of_nonneg->Yy,le_of_lt->YH
open PySem.SetTable renaming below->Yd,grown->YK
open Array renaming length_toList->Yp,getElem?_eq_getElem->YO
theorem aU0x (h:True:=by rfl):True:=h
abbrev aU0:Lean.Syntax:=aU0x._auto_1
theorem aU1x (h:True:=by decide):True:=h
abbrev aU1:Lean.Syntax:=aU1x._auto_1
theorem aU2x (h:True:=by first | exact Or.inl rfl | exact Or.inr (Or.inl rfl) | exact Or.inr (Or.inr rfl)):True:=h
abbrev aU2:Lean.Syntax:=aU2x._auto_1
theorem aU3x (h:True:=by intro _;rfl):True:=h
abbrev aU3:Lean.Syntax:=aU3x._auto_1
theorem aU4x (h:True:=by first | exact zcX _ | rfl):True:=h
abbrev aU4:Lean.Syntax:=aU4x._auto_1
theorem aU5x (h:True:=by first | exact .inl rfl | exact .inr rfl | assumption):True:=h
abbrev aU5:Lean.Syntax:=aU5x._auto_1
theorem aU6x (h:True:=by exact λ_ _=>rfl):True:=h
abbrev aU6:Lean.Syntax:=aU6x._auto_1
namespace _L
open PySem PySem.Spec PyProof.Rows
noncomputable abbrev Key:=Sum Int Str
noncomputable def ziT:Key->Value->Bool
 | .inl k,v=>Value.isInt k v
 | .inr x,v=>Value.isStrOf x v
noncomputable def keyH (w:World):Key->Int
 | .inl k=>hashInt k
 | .inr x=>hashStr w x
theorem zaJ:∀ {k:Key}{v:Value},ziT k v=true->(∃i t,k=Sum.inl i/\v=Value.int i t)\/(∃x t,k=Sum.inr x/\v=Value.str x t)
 | .inl i,v,h=>by
  obtain⟨t,e⟩:=Value.isInt_shape (k:=i) (v:=v) h;exact .inl ⟨i,t,rfl,e⟩
 | .inr x,v,h=>by
  obtain⟨t,e⟩:=Value.isStrOf_shape (x:=x) (v:=v) h;exact .inr ⟨x,t,rfl,e⟩
theorem zlw (i:Int)(t:Tok):ziT (.inl i) (.int i t)=true:=by simp[ziT,Value.isInt]
theorem zlx (x:Str)(t:Tok):ziT (.inr x) (.str x t)=true:=by simp[ziT,Value.isStrOf]
theorem zrw (a b:Int):decide ((Sum.inl a:Key)=Sum.inl b)=(a == b):=by
 by_cases e:a=b
 ·subst e;simp
 ·have h:¬ (Sum.inl a:Key)=Sum.inl b:=λq=>e (Sum.inl.inj q);rw[decide_eq_false h];exact(beq_eq_false_iff_ne.mpr e).symm
theorem zrx (a b:Str):decide ((Sum.inr a:Key)=Sum.inr b)=decide (a=b):=by
 by_cases e:a=b
 ·subst e;simp
 ·have h:¬ (Sum.inr a:Key)=Sum.inr b:=λq=>e (Sum.inr.inj q);rw[decide_eq_false h,decide_eq_false e]
theorem zry (a:Int)(b:Str):decide ((Sum.inl a:Key)=Sum.inr b)=false:=decide_eq_false (λq=>nomatch q)
theorem zrz (a:Str)(b:Int):decide ((Sum.inr a:Key)=Sum.inl b)=false:=decide_eq_false (λq=>nomatch q)
noncomputable def zaK (prog:Program)(w:World):PySem.KeyKind prog w Key where
 is:=ziT
 hash:=keyH w
 inj:=λv a b ha hb=>by
  rcases zaJ ha with ⟨i,t,rfl,rfl⟩ | ⟨x,t,rfl,rfl⟩
  ·rcases zaJ hb with ⟨j,u,rfl,e⟩ | ⟨y,u,rfl,e⟩
   ·injection e with e1 _;rw[e1]
   ·exact nomatch e
  ·rcases zaJ hb with ⟨j,u,rfl,e⟩ | ⟨y,u,rfl,e⟩
   ·exact nomatch e
   ·injection e with e1 _;rw[e1]
 byValue:=λk v h=>by
  rcases zaJ h with ⟨i,t,rfl,rfl⟩ | ⟨x,t,rfl,rfl⟩<;>rfl
 pyHash:=λhv h=>by
  rcases zaJ hv with ⟨i,t,rfl,rfl⟩ | ⟨x,t,rfl,rfl⟩
  ·exact wpAny_pyHash_int h
  ·exact wpAny_pyHash_str h
 eqBool:=λhu hv h=>by
  rcases zaJ hu with ⟨i,t,rfl,rfl⟩ | ⟨x,t,rfl,rfl⟩
  ·rcases zaJ hv with ⟨j,u,rfl,rfl⟩ | ⟨y,u,rfl,rfl⟩
   ·rw[zrw]at h;exact wpAny_eqBool_int h
   ·rw[zry]at h;exact SeqAt.EqAt.int_str i t y u _ _ _ _ h
  ·rcases zaJ hv with ⟨j,u,rfl,rfl⟩ | ⟨y,u,rfl,rfl⟩
   ·rw[zrz]at h;exact SeqAt.EqAt.str_int x t j u _ _ _ _ h
   ·rw[zrx]at h;exact wpAny_eqBool_str h
 «strs»:=λk x t v h=>by
  rcases zaJ h with ⟨i,u,rfl,e⟩ | ⟨y,u,rfl,e⟩
  ·exact nomatch e
  ·injection e with e1 _;subst e1;cases v<;>rfl
theorem zfu (prog:Program)(w:World)(i:Int)(t:Tok):(zaK prog w).is (.inl i) (.int i t)=true:=zlw i t
theorem zfv (prog:Program)(w:World)(x:Str)(t:Tok):(zaK prog w).is (.inr x) (.str x t)=true:=zlx x t
inductive V where
 | non | bl (b:Bool) | int (i:Int) | str (x:Str) | byt (b:Array UInt8) | flt (b:UInt64) | ref (a:Addr) | ty (n:String)
 deriving DecidableEq
noncomputable def RelV:V->Value->Prop
 | .non,u=>u=Value.none
 | .bl b,u=>u=Value.bool b
 | .int i,u=>∃t,u=Value.int i t
 | .str x,u=>∃t,u=Value.str x t
 | .byt b,u=>∃t,u=Value.bytes b t
 | .flt b,u=>∃t,u=Value.float b t
 | .ref a,u=>u=Value.ref a
 | .ty n,u=>u=Value.type n
noncomputable abbrev Vals:List V->List Value->Prop:=Paired RelV
theorem Vals.length {xs:List V}{us:List Value}(r:Vals xs us):xs.length=us.length:=Paired.length r
theorem Vals.get:∀ {xs:List V}{us:List Value}{i:Nat}{x:V},Vals xs us->xs[i]? = some x->∃u,us[i]? = some u/\RelV x u
 | _,_,_,_,.nil,e=>by simp at e
 | _,_,0,_,.cons r _,e=>by simp at e;subst e;exact⟨_,rfl,r⟩
 | _,_,i+1,x,.cons _ t,e=>by
  obtain⟨u,h1,h2⟩:=Vals.get (i:=i) (x:=x) t (by simpa using e);exact⟨u,by simpa using h1,h2⟩
theorem Vals.set {x:V}{u:Value}(r:RelV x u):∀ {xs:List V}{us:List Value}(i:Nat),Vals xs us->Vals (xs.set i x) (us.set i u)
 | _,_,_,.nil=>.nil
 | _,_,0,.cons _ t=>.cons r t
 | _,_,i+1,.cons q t=>.cons q (Vals.set r i t)
theorem Vals.append:∀ {xs ys:List V}{us ws:List Value},Vals xs us->Vals ys ws->Vals (xs++ys) (us++ws):=by
 intro xs ys us ws h s;induction h with
 | nil=>exact s
 | cons r t ih=>exact .cons r ih
theorem Vals.take:∀ {xs:List V}{us:List Value}(n:Nat),Vals xs us->Vals (xs.take n) (us.take n)
 | _,_,0,_=>.nil
 | _,_,_+1,.nil=>.nil
 | _,_,n+1,.cons r t=>.cons r (Vals.take n t)
theorem Vals.drop:∀ {xs:List V}{us:List Value}(n:Nat),Vals xs us->Vals (xs.drop n) (us.drop n)
 | _,_,0,r=>r
 | _,_,_+1,.nil=>.nil
 | _,_,n+1,.cons _ t=>Vals.drop n t
noncomputable def RelO:Option V->Option Value->Prop
 | some v,some u=>RelV v u
 | none,none=>True
 | _,_=>False
noncomputable def KV {κ:Type}:List (κ×V)->List (κ×Value)->Prop:=Paired λ(p:κ×V)(q:κ×Value)=>p.1=q.1/\RelV p.2 q.2
noncomputable def kV:Key->V
 | .inl i=>.int i
 | .inr x=>.str x
inductive HO where
  | lst (xs:List V)
  | tup (xs:List V)
  | dK (kvs:List (Key×V)) | dT (kvs:List (List Key×V))
  | set (S:Int->Bool) (n:Nat)
  | ins (C dx:Addr) (fs:List (Str×V))
  | own (x:Addr)
  | xd (fs:List (Str×V))
  | met (f x:Addr)
  | rng (lo hi:Int)
  | frz (o:Obj) (u:HO)
  | tbl (ps:Array Value)
  | ext (φ:Heap->Prop)
noncomputable abbrev Hp:=Addr->Option HO
noncomputable def upd (H:Hp)(a:Addr)(o:HO):Hp:=λb=>if b=a then some o else H b
theorem zaj {H:Hp}{a:Addr}{o:HO}:upd H a o a=some o:=by unfold upd;rw[if_pos rfl]
theorem zah {H:Hp}{a b:Addr}{o:HO}(h:b≠a):upd H a o b=H b:=by unfold upd;rw[if_neg h]
theorem ztx {H:Hp}{a b:Addr}{o u:HO}(h:H a=some o)(h':H b=some u)(d:o≠u):a≠b:=by
 intro e;subst e;rw[h]at h';exact d (Option.some.inj h')
theorem zaE {H:Hp}{a b:Addr}{o:HO}(h:H a=some o)(h':H b=none):a≠b:=by
 intro e;subst e;rw[h]at h';cases h'
noncomputable def zcF (h:Heap)(a:Addr)(its:Array Value):Prop:=∃o,h.get? a=some o/\o.cls=.type "tuple"/\(∃n,o.data=.seq its n)/\o.dict=none
theorem zcF.tup {h:Heap}{a:Addr}{its:Array Value}(p:zcF h a its):IsTup h a its:=by obtain⟨o,e,c,⟨n,d⟩,_⟩:=p;exact⟨o,e,c,n,d⟩
theorem zcF.lt {h:Heap}{a:Addr}{its:Array Value}(p:zcF h a its):a<h.objs.size:=p.tup.lt
theorem zcF.new (h:Heap)(items:Array Value):zcF (h.push { cls:=.type "tuple",data:=.seq items }) h.objs.size items:=⟨_,Xv _ rfl,rfl,⟨_,rfl⟩,rfl⟩
section
variable (P:Program)(w:World)
noncomputable def zbt (H:Hp)(h:Heap)(a:Addr):HO->Prop
 | .lst xs=>xs.length<=sizeLine/\∃(its:List Value) (n:Nat),Vals xs its/\h.get? a=some { cls:=.type "list",data:=.seq its.toArray n }
 | .tup xs=>xs.length<=sizeLine/\∃its:List Value,Vals xs its/\zcF h a its.toArray
 | .dK kvs=>kvs.length<=sizeLine/\(a == sysModules)=false/\∃vs,KV kvs vs/\h.DictOf (zaK P w) a vs
 | .dT kvs=>kvs.length<=sizeLine/\(a == sysModules)=false/\∃xs:List (List Key×Addr×Value),
   Paired (λ(p:List Key×V) (q:List Key×Addr×Value)=>p.1=q.1/\H q.2.1=some (.tup (p.1.map kV))/\RelV p.2 q.2.2) kvs xs/\
   ∃o es ep,h.get? a=some o/\o.ExactDict/\o.data=.dict es ep/\es.toList=xs.map (entryOfKey (tupleKind (zaK P w)))/\(xs.map (·.1)).Nodup
 | .set S n=>h.SetOf (intKind P w) a S n
 | .ins C dx fs=>H dx=some (.own a)/\fs.length<=1000/\dx≠a/\h.get? a=some (YG C dx)/\
   ∃mA,h.Ns1 dx mA/\(∀f,RelO (fs.lookup f) (mA f))/\PySem.Within mA (fs.map (·.1))
 | .own _=>∃o,h.get? a=some o
 | .xd fs=>∃mA,h.Ns1 a mA/\∀f,RelO (fs.lookup f) (mA f)
 | .rng lo hi=>∃t u v,h.get? a=some { cls:=.type "range",data:=.fields #[.int lo t,.int hi u,.int 1 v] }
 | .frz o u=>h.get? a=some o/\zbt H h a u
 | .tbl ps=>h.get? a=some { cls:=.none,data:=.fields ps }
 | .met f x=>h.get? a=some (PySem.W.methodObj (.ref f) (.ref x))
 | .ext φ=>φ h/\(∃o,h.get? a=some o)/\∀h1 h2:Heap,φ h1->(∀o,h1.get? a=some o->h2.get? a=some o)->φ h2
noncomputable def HOk (H:Hp)(h:Heap):Prop:=∀a o,H a=some o->zbt P w H h a o
end
section
variable {P:Program}{w:World}{H H':Hp}{h h':Heap}{a:Addr}{o:HO}
theorem zbt.lt (x:zbt P w H h a o):a<h.objs.size:=by
 cases o with
 | lst xs=>obtain⟨_,_,_,_,e⟩:=x;exact Xm e
 | tup xs=>obtain⟨_,_,_,p⟩:=x;exact p.lt
 | dK kvs=>obtain⟨_,_,_,_,o,_,_,e,_⟩:=x;exact Xm e
 | dT kvs=>obtain⟨_,_,_,_,o,_,_,e,_⟩:=x;exact Xm e
 | set S n=>obtain⟨o,_,_,_,e,_⟩:=x;exact Xm e
 | ins C dx fs=>obtain⟨_,_,_,e,_⟩:=x;exact Xm e
 | own y=>obtain⟨_,e⟩:=x;exact Xm e
 | xd fs=>obtain⟨_,⟨_,_,_,e,_⟩,_⟩:=x;exact Xm e
 | rng lo hi=>obtain⟨_,_,_,e⟩:=x;exact Xm e
 | frz ob u=>obtain⟨e,_⟩:=x;exact Xm e
 | tbl ps=>exact Xm (show h.get? a=some _ from x)
 | met f y=>exact Xm (show h.get? a=some _ from x)
 | ext φ=>obtain⟨_,⟨_,e⟩,_⟩:=x;exact Xm e
theorem Paired.mapP {α β:Type}{F G:α->β->Prop}:∀ {l₁:List α}{l₂:List β},Paired F l₁ l₂->(∀a b,F a b->G a b)->Paired G l₁ l₂:=by
 intro l₁ l₂ h f;induction h with
 | nil=>exact .nil
 | cons r t ih=>exact .cons (f _ _ r) ih
theorem zbt.stay (x:zbt P w H h a o)(k:∀b u,(b=a\/H b=some (.own a))->h.get? b=some u->h'.get? b=some u)
  (ho:∀b,H b=some (.own a)->H' b=some (.own a)) (ht:∀b xs,H b=some (.tup xs)->H' b=some (.tup xs)):zbt P w H' h' a o:=by
 induction o with
 | lst xs=>obtain⟨z,its,n,r,e⟩:=x;exact⟨z,its,n,r,k _ _ (.inl rfl) e⟩
 | tup xs=>obtain⟨z,its,r,ob,e,c⟩:=x;exact⟨z,its,r,ob,k _ _ (.inl rfl) e,c⟩
 | dK kvs=>obtain⟨z,y,vs,r,ob,es,ep,e,c⟩:=x;exact⟨z,y,vs,r,ob,es,ep,k _ _ (.inl rfl) e,c⟩
 | dT kvs=>
  obtain⟨z,y,xs,r,ob,es,ep,e,c⟩:=x;exact⟨z,y,xs,Paired.mapP r λp q z=>⟨z.1,ht _ _ z.2.1,z.2.2⟩,ob,es,ep,k _ _ (.inl rfl) e,c⟩
 | set S n=>obtain⟨ob,es,ep,t,e,c⟩:=x;exact⟨ob,es,ep,t,k _ _ (.inl rfl) e,c⟩
 | ins C dx fs=>
  obtain⟨d,z,ne,e,mA,⟨od,es,ep,e2,c⟩,r⟩:=x;exact⟨ho _ d,z,ne,k _ _ (.inl rfl) e,mA,⟨od,es,ep,k _ _ (.inr d) e2,c⟩,r⟩
 | own y=>obtain⟨ob,e⟩:=x;exact⟨ob,k _ _ (.inl rfl) e⟩
 | xd fs=>obtain⟨mA,⟨od,es,ep,e,c⟩,r⟩:=x;exact⟨mA,⟨od,es,ep,k _ _ (.inl rfl) e,c⟩,r⟩
 | rng lo hi=>obtain⟨t,u,v,e⟩:=x;exact⟨t,u,v,k _ _ (.inl rfl) e⟩
 | frz ob u ih=>obtain⟨e,q⟩:=x;exact⟨k _ _ (.inl rfl) e,ih q⟩
 | tbl ps=>
  have e:h.get? a=some { cls:=.none,data:=.fields ps }:=x;show h'.get? a=some { cls:=.none,data:=.fields ps };exact k a _ (.inl rfl) e
 | met f y=>
  have e:h.get? a=some (PySem.W.methodObj (.ref f) (.ref y)):=x;show h'.get? a=some (PySem.W.methodObj (.ref f) (.ref y));exact k a _ (.inl rfl) e
 | ext φ=>obtain⟨p,⟨o,e⟩,st⟩:=x;exact⟨st _ _ p λo q=>k _ _ (.inl rfl) q,⟨o,k _ _ (.inl rfl) e⟩,st⟩
theorem HOk.lt (x:HOk P w H h)(e:H a=some o):a<h.objs.size:=(x a o e).lt
theorem HOk.fresh (x:HOk P w H h)(e:h.objs.size<=a):H a=none:=by
 cases q:H a with
 | none=>rfl
 | some u=>exact absurd (XD (x.lt q) e) (Yr _)
theorem HOk.kept (x:HOk P w H h)(k:∀b u,h.get? b=some u->h'.get? b=some u):HOk P w H h':=λa o e=>
 (x a o e).stay (λb u _ q=>k b u q) (λ_ q=>q) λ_ _ q=>q
theorem HOk.laid (x:HOk P w H h)(k:∀b u,h.get? b=some u->h'.get? b=some u)(hp:h.objs.size<=a)(new:zbt P w (upd H a o) h' a o):HOk P w (upd H a o) h':=λb u e=>by
 have hn:=x.fresh hp;by_cases hb:b=a
 ·subst hb;rw[zaj]at e;cases e;exact new
 ·rw[zah hb]at e;exact(x b u e).stay (λc v _ q=>k c v q) (λc q=>by rw[zah (zaE q hn)];exact q) λc xs q=>by rw[zah (zaE q hn)];exact q
end
noncomputable def Rd (H:Hp)(a:Addr)(u:HO):Prop:=H a=some u\/∃o,H a=some (.frz o u)
theorem Rd.ok {P:Program}{w:World}{H:Hp}{h:Heap}{a:Addr}{u:HO}(r:Rd H a u)(x:HOk P w H h):zbt P w H h a u:=by
 rcases r with r | ⟨o,r⟩
 ·exact x a u r
 ·obtain⟨_,q⟩:=x a _ r;exact q
noncomputable def Mut:Option HO->Prop
 | some (.lst _)=>True
 | some (.dK _)=>True
 | some (.dT _)=>True
 | some (.set _ _)=>True
 | some (.ins _ _ _)=>True
 | some (.ext _)=>True
 | _=>False
section
variable {P:Program}{w:World}{H:Hp}{h h':Heap}{x e:Addr}{o':HO}
theorem HOk.write (ok:HOk P w H h)(mu:Mut (H x))(he:e=x\/H e=some (.own x))(k:∀b u,b≠e->h.get? b=some u->h'.get? b=some u)(heo:∃u,h'.get? e=some u)
  (new:zbt P w (upd H x o') h' x o'):HOk P w (upd H x o') h':=λb u q=>by
 have nown:∀c y,H c=some (.own y)->c≠x:=λc y r z=>by subst z;rw[r]at mu;exact mu
 have ntup:∀c xs,H c=some (.tup xs)->c≠x:=λc xs r z=>by subst z;rw[r]at mu;exact mu
 by_cases hb:b=x
 ·subst hb;rw[zaj]at q;cases q;exact new
 ·rw[zah hb]at q;by_cases hbe:b=e
  ·have q':H b=some (.own x):=by
    rcases he with z | z
    ·exact absurd (hbe.trans z) hb
    ·rw[hbe];exact z
   rw[q]at q';cases q';obtain⟨v,hv⟩:=heo;exact⟨v,by rw[hbe];exact hv⟩
  ·refine(ok b u q).stay (λc v hc r=>k c v ?_ r) (λc r=>by rw[zah (nown c b r)];exact r) λc xs r=>by rw[zah (ntup c xs r)];exact r
   rcases hc with rfl | hc
   ·exact hbe
   ·rintro rfl;rcases he with z | z
    ·exact nown c b hc z
    ·rw[hc]at z;cases z;exact hb rfl
end
structure Un (fs ex:List Addr)(H H':Hp)(h h':Heap):Prop where
 keep:∀b o,h.get? b=some o->H b=none->b∉fs->b∉ex->h'.get? b=some o
 slot:∀b o,h.get? b=some o->H b=none->b∈fs->b∉ex->∃sl,h'.get? b=some { o with slots:=sl }
 free:∀b o,h.get? b=some o->H b=none->b∉ex->H' b=none
 there:∀b o,h.get? b=some o->b∉ex->∃o',h'.get? b=some o'
 tups:∀b xs,H b=some (.tup xs)->H' b=some (.tup xs)
 frzs:∀b o u,H b=some (.frz o u)->H' b=some (.frz o u)
 tbls:∀b ps,H b=some (.tbl ps)->∃more,H' b=some (.tbl (ps++more))
section
variable {fs fs' ex ex':List Addr}{H H1 H2:Hp}{h h1 h2 h':Heap}{a x e:Addr}{o:HO}
theorem Un.any (u:Un fs ex H H1 h h1){b:Addr}{ob:Obj}(q:h.get? b=some ob)(n:H b=none)(hx:b∉ex):∃sl,h1.get? b=some { ob with slots:=sl }:=by
 by_cases hb:b∈fs
 ·exact u.slot b ob q n hb hx
 ·exact⟨ob.slots,u.keep b ob q n hb hx⟩
theorem Un.trans (a:Un fs ex H H1 h h1)(b:Un fs ex H1 H2 h1 h2):Un fs ex H H2 h h2 where
 keep:=λc ob q n hc hx=>b.keep c ob (a.keep c ob q n hc hx) (a.free c ob q n hx) hc hx
 slot:=λc ob q n hc hx=>by
  obtain⟨sl,e1⟩:=a.slot c ob q n hc hx;obtain⟨sl',e2⟩:=b.slot c _ e1 (a.free c ob q n hx) hc hx;exact⟨sl',e2⟩
 free:=λc ob q n hx=>by
  obtain⟨o',e1⟩:=a.there c ob q hx;exact b.free c o' e1 (a.free c ob q n hx) hx
 there:=λc ob q hx=>by
  obtain⟨o',e1⟩:=a.there c ob q hx;exact b.there c o' e1 hx
 tups:=λc xs q=>b.tups c xs (a.tups c xs q)
 frzs:=λc ob xs q=>b.frzs c ob xs (a.frzs c ob xs q)
 tbls:=λc ps q=>by
  obtain⟨m1,e1⟩:=a.tbls c ps q;obtain⟨m2,e2⟩:=b.tbls c _ e1;exact⟨m1++m2,by rw[e2,Array.append_assoc]⟩
theorem Un.kept (k:∀b u,h.get? b=some u->h'.get? b=some u):Un fs ex H H h h':=
 ⟨λb ob q _ _ _=>k b ob q,λb ob q _ _ _=>⟨ob.slots,k b ob q⟩,λ_ _ _ n _=>n,λb ob q _=>⟨ob,k b ob q⟩,λ_ _ q=>q,λ_ _ _ q=>q,λ_ ps q=>⟨#[],by rw[q];simp⟩⟩
theorem Un.refl:Un fs ex H H h h:=Un.kept λ_ _ q=>q
theorem Un.laid (k:∀b u,h.get? b=some u->h'.get? b=some u)(hp:h.objs.size<=a)(hn:H a=none):Un fs ex H (upd H a o) h h' where
 keep:=λb u q _ _ _=>k b u q
 slot:=λb u q _ _ _=>⟨u.slots,k b u q⟩
 free:=λb u q n _=>by rw[zah (Xx (XD (Xm q) hp))];exact n
 there:=λb u q _=>⟨u,k b u q⟩
 tups:=λb xs q=>by rw[zah (zaE q hn)];exact q
 frzs:=λb u xs q=>by rw[zah (zaE q hn)];exact q
 tbls:=λb ps q=>⟨#[],by rw[zah (zaE q hn),q];simp⟩
theorem Un.write (mu:Mut (H x))(he:e=x\/H e=some (.own x))(k:∀b u,b≠e->h.get? b=some u->h'.get? b=some u)(heo:∃u,h'.get? e=some u):Un fs ex H (upd H x o) h h':=by
 have hx:∀b,H b=none->b≠x:=λb n z=>by subst z;rw[n]at mu;exact mu
 have hb:∀b,H b=none->b≠e:=λb n z=>by
  subst z;rcases he with r | r
  ·exact hx b n r
  ·rw[n]at r;cases r
 have hm:∀b u,H b=some u->¬ Mut (some u)->b≠x:=λb u q nm z=>by subst z;rw[q]at mu;exact nm mu
 refine⟨λb u q n _ _=>k b u (hb b n) q,λb u q n _ _=>⟨u.slots,k b u (hb b n) q⟩,λb u q n _=>by rw[zah (hx b n)];exact n,λb u q _=>?_,
  λb xs q=>by rw[zah (hm b _ q λz=>z)];exact q,λb u xs q=>by rw[zah (hm b _ q λz=>z)];exact q,λb ps q=>⟨#[],by rw[zah (hm b _ q λz=>z),q];simp⟩⟩
 by_cases hbe:b=e
 ·subst hbe;exact heo
 ·exact⟨u,k b u hbe q⟩
end
noncomputable def trk (h:Heap)(H:Hp):List Addr:=(Xs h.objs.size).filter λa=>(H a).isSome
noncomputable def hidT (h:Heap)(H:Hp):Heap:=PySem.W.hideAll h (trk h H)
theorem zly (h:Heap)(H:Hp):(hidT h H).objs.size=h.objs.size:=PySem.W.hideAll_size _ _
theorem znQ {h:Heap}{H:Hp}{b:Addr}{o:Obj}(e:h.get? b=some o)(n:H b=none):(hidT h H).get? b=some o:=
 PySem.W.hideAll_get _ e λhm=>by
  have q:(H b).isSome=true:=(List.mem_filter.mp hm).2;rw[n]at q;simp at q
theorem zpP {h:Heap}{H:Hp}{b:Addr}{o:Obj}(e:(hidT h H).get? b=some o):h.get? b=some o/\H b=none:=by
 have e':h.get? b=some o:=PySem.W.of_hideAll (trk h H) e;refine⟨e',?_⟩;cases q:H b with
 | none=>rfl
 | some x=>
  have hm:b∈trk h H:=List.mem_filter.mpr ⟨Yk.mpr (Xm e'),by simp[q]⟩;have z:(hidT h H).get? b=none:=PySem.W.hideAll_none (trk h H) hm;rw[z]at e;cases e
noncomputable def zpQ (g h:Heap)(L:Addr):List (Addr×Obj):=(Xs h.objs.size).filterMap λa=>if a=L\/(g.get? a).isSome=true then none else(h.get? a).map λo=>(a,o)
noncomputable def rest (g h:Heap)(L d:Addr):List (Addr×Obj):=(zpQ g h L).filter λp=>decide (p.1≠d)
structure Mod (K:Xa)(mg:Str->Option Value)(base:Heap):Prop where
 kin:K.In base
 glob:base.Ns mainGlobals mg
 blt:∃mb,base.Ns builtinsNs mb/\∀x:Str,x≠"__name__"->mb x=bootBuiltins x
 nolimit:base.NoLimit
structure Cx where
 prog:Program
 w:World
 K:Xa
 mg:Str->Option Value
 base:Heap
 A:Around
 N:List Str
 s₀:Shared
 H₀:Hp
 env:Env
 outer:List Env
 stack:List Env
 ex:List Addr
 fn:Str->Bool
 calm:Bool
 pn:List (Addr×Obj)
 xe:Value->Shared->Prop
noncomputable def frs (l:List Env):List Addr:=l.filterMap (·.frame)
noncomputable abbrev Cx.fs (X:Cx):List Addr:=frs X.outer
noncomputable def Vis (sc:Scope)(x:Str):Prop:=sc.names.lookup x=some .local\/sc.names.lookup x=some .cell\/sc.names.lookup x=some .free
noncomputable def Loc (sc:Scope)(x:Str):Prop:=sc.names.lookup x=some .local\/sc.names.lookup x=some .cell
noncomputable def Look (env:Env)(h:Heap)(m:Str->Option Value)(x:Str)(u:Value):Prop:=
 (env.kindOf x=some .local/\m x=some u)\/((env.kindOf x=some .cell\/env.kindOf x=some .free)/\∃c,env.cells.lookup x=some c/\h.IsCell c (some u))
structure Cx.Ok (X:Cx):Prop where
 mod:Mod X.K X.mg X.base
 kind:X.env.scope.kind=.function
 glob:X.env.globals=mainGlobals
 blt:X.env.builtins=builtinsNs
 above:X.s₀.heap.objs.size<=X.env.locals
 inj:∀x y c,X.env.cells.lookup x=some c->X.env.cells.lookup y=some c->x=y
 has:∀x,(X.env.kindOf x=some .cell\/X.env.kindOf x=some .free)->∃c,X.env.cells.lookup x=some c
 cab:∀x c,X.fn x=true->X.env.cells.lookup x=some c->X.s₀.heap.objs.size<=c
 hd:X.calm=true->X.A.handled=none
 frames:X.A.frames=some X.stack
 stk:X.stack=X.outer\/(X.stack=X.env::X.outer/\X.env.frame=some X.env.locals)
 exf:∀b∈X.ex,b≠X.env.locals/\∀x c,X.env.cells.lookup x=some c->c≠b
 bs:∀b o,X.base.get? b=some o->X.s₀.heap.get? b=some o/\X.H₀ b=none
 bsz:X.base.objs.size<=X.s₀.heap.objs.size
 noex:∀b o,X.base.get? b=some o->b∉X.ex
 exfs:∀b∈X.ex,b∉X.fs
 funs:X.s₀.heap.FunFrames X.base X.outer
 frf:∀b∈X.fs,X.H₀ b=none
structure Inv (X:Cx)(pins:List (Addr×Obj))(σ:List (Option V))(H:Hp)(s:Shared):Prop where
 ok:X.Ok
 os:s.os=X.s₀.os
 bare:AllBare s.gens
 base:Un X.fs X.ex X.H₀ H X.s₀.heap s.heap
 loc:∃m,s.heap.Ns X.env.locals m/\∀(i:Nat) (x:Str) (v:V),X.N[i]? = some x->σ[i]? = some (some v)->Vis X.env.scope x->∃u,RelV v u/\Look X.env s.heap m x u
 cell:∀x c,X.env.cells.lookup x=some c->∃v,s.heap.IsCell c v
 free:H X.env.locals=none
 freeC:∀x c,X.env.cells.lookup x=some c->H c=none
 pin:∀p∈X.pn++pins,s.heap.get? p.1=some p.2/\H p.1=none/\p.1≠X.env.locals/\p.1∉X.fs/\∀v,p.2.data≠.cell v
 hok:HOk X.prog X.w H s.heap
 len:σ.length=X.N.length
section
variable {X:Cx}{pins:List (Addr×Obj)}{σ:List (Option V)}{H H':Hp}{s:Shared}{h':Heap}
theorem Cx.Ok.nofr (ok:X.Ok){b:Addr}{o:Obj}(e:X.base.get? b=some o):b∉X.fs:=λhb=>by
 have:=(ok.funs.mem hb).1;rw[e]at this;cases this
theorem Inv.bs (I:Inv X pins σ H s):∀b o,X.base.get? b=some o->s.heap.get? b=some o/\H b=none:=λb o e=>
 ⟨I.base.keep b o (I.ok.bs b o e).1 (I.ok.bs b o e).2 (I.ok.nofr e) (I.ok.noex b o e),I.base.free b o (I.ok.bs b o e).1 (I.ok.bs b o e).2 (I.ok.noex b o e)⟩
theorem Inv.bk (I:Inv X pins σ H s):∀b o,X.base.get? b=some o->s.heap.get? b=some o:=λb o e=>(I.bs b o e).1
theorem Inv.mod (I:Inv X pins σ H s):Mod X.K X.mg X.base:=I.ok.mod
theorem Inv.kIn (I:Inv X pins σ H s):X.K.In s.heap:=I.ok.mod.kin.keeps I.bk
theorem Inv.lt (I:Inv X pins σ H s):X.env.locals<s.heap.objs.size:=let ⟨_,hn,_⟩:=I.loc;hn.lt
theorem Inv.sz (I:Inv X pins σ H s):X.s₀.heap.objs.size<=s.heap.objs.size:=XO I.ok.above (Yx I.lt)
theorem Inv.nofs (I:Inv X pins σ H s){a:Addr}(h:s.heap.objs.size<=a):a∉X.fs:=λhb=>by
 obtain⟨_,o,ho,_⟩:=I.ok.funs.mem hb;exact absurd (XD (Xm ho) (XO I.sz h)) (Yr _)
theorem Inv.cne (I:Inv X pins σ H s):∀x c,X.env.cells.lookup x=some c->c≠X.env.locals:=λx c e z=>by
 obtain⟨v,o,ho,hd⟩:=I.cell x c e;obtain⟨m,⟨o',es,ep,ho',hd',_⟩,_⟩:=I.loc;rw[z,ho']at ho;cases ho;rw[hd']at hd;cases hd
theorem Inv.funs (I:Inv X pins σ H s):s.heap.FunFrames X.base X.outer:=by
 have all:∀(l:List Env),(∀b∈frs l,b∈X.fs)->X.s₀.heap.FunFrames X.base l->s.heap.FunFrames X.base l:=by
  intro l;induction l with
  | nil=>intro _ _;trivial
  | cons env r ih=>
   intro hs hl;obtain⟨hk,⟨L,o,hf,hn,ho,hd⟩,hr⟩:=hl;have hL:L∈X.fs:=hs L (by unfold frs;rw[List.filterMap_cons,hf];exact Xp);obtain⟨sl,e⟩:=I.base.slot L o ho (I.ok.frf L hL) hL λz=>I.ok.exfs L z hL;exact⟨hk,⟨L,_,hf,hn,e,hd⟩,ih (λb hb=>hs b (by unfold frs;rw[List.filterMap_cons,hf];exact Xn _ hb)) hr⟩
 exact all X.outer (λ_ hb=>hb) I.ok.funs
theorem Inv.stack (I:Inv X pins σ H s):s.heap.FunFrames X.base X.stack:=by
 rcases I.ok.stk with e | ⟨e,hf⟩
 ·rw[e];exact I.funs
 ·rw[e];obtain⟨m,hn,_⟩:=I.loc;refine .cons (by rw[I.ok.kind];decide) hf hn ?_ I.funs;exact Heap.get?_none_of_le (XO I.ok.bsz I.ok.above)
theorem Inv.zlz (I:Inv X pins σ H s):∀b∈frs X.stack,b∈X.env.locals::X.fs:=λb hb=>by
 rcases I.ok.stk with e | ⟨e,hf⟩
 ·rw[e]at hb;exact Xn _ hb
 ·rw[e]at hb;unfold frs at hb;rw[List.filterMap_cons,hf]at hb;exact hb
theorem Inv.zlA (I:Inv X pins σ H s):∀b∈frs X.stack,H b=none:=λb hb=>by
 rcases Xu.mp (I.zlz b hb)with e | hb
 ·rw[e];exact I.free
 ·obtain⟨_,o,ho,_⟩:=I.ok.funs.mem hb;exact I.base.free b o ho (I.ok.frf b hb) λz=>I.ok.exfs b z hb
theorem Inv.step {g':Array GenState}{t':Nat}{d':Drawn}{ch:List Addr}(I:Inv X pins σ H s)
  (hch:∀b∈ch,(b∈X.ex\/X.s₀.heap.objs.size<=b)/\b≠X.env.locals/\(∀x c,X.env.cells.lookup x=some c->c≠b)/\∀p∈X.pn++pins,p.1≠b)
  (keep:∀b o,b≠X.env.locals->b∉X.fs->b∉ch->s.heap.get? b=some o->H b=none->h'.get? b=some o)
  (slot:∀b o,b≠X.env.locals->b∈X.fs->b∉ch->s.heap.get? b=some o->H b=none->∃sl,h'.get? b=some { o with slots:=sl }) (free:∀b o,b∉ch->s.heap.get? b=some o->H b=none->H' b=none)
  (there:∀b o,b∉ch->s.heap.get? b=some o->∃o',h'.get? b=some o')
  (tups:∀b xs,H b=some (.tup xs)->H' b=some (.tup xs)) (frzs:∀b o u,H b=some (.frz o u)->H' b=some (.frz o u)) (tbls:∀b ps,H b=some (.tbl ps)->∃more,H' b=some (.tbl (ps++more)))
  (ns:∀m,s.heap.Ns X.env.locals m->h'.Ns X.env.locals m) (hok:HOk X.prog X.w H' h') (hg:AllBare g') :
  Inv X pins σ H' { s with heap:=h',gens:=g',drawn:=d',toks:=t' }:=by
 have neL:∀b o,X.s₀.heap.get? b=some o->b≠X.env.locals:=λb o e=>Xx (XD (Xm e) I.ok.above);have neC:∀b o,X.s₀.heap.get? b=some o->b∉X.ex->b∉ch:=λb o e hx hb=>by
  rcases(hch b hb).1 with z | z
  ·exact hx z
  ·exact absurd (XD (Xm e) z) (Yr _)
 have cellK:∀x c,X.env.cells.lookup x=some c->∀v,s.heap.IsCell c v->h'.IsCell c v:=λx c e v ⟨o,ho,hd⟩=>by
  have nch:c∉ch:=λz=>(hch c z).2.2.1 x c e rfl;by_cases hc:c∈X.fs
  ·obtain⟨sl,q⟩:=slot c o (I.cne x c e) hc nch ho (I.freeC x c e);exact⟨_,q,hd⟩
  ·exact⟨o,keep c o (I.cne x c e) hc nch ho (I.freeC x c e),hd⟩
 refine⟨I.ok,I.os,hg,⟨λb o e n hb hx=>?_,λb o e n hb hx=>?_,λb o e n hx=>?_,λb o e hx=>?_,λb xs e=>tups b xs (I.base.tups b xs e),λb o xs e=>frzs b o xs (I.base.frzs b o xs e),λb ps e=>?_⟩,?_,λx c e=>?_,?_,λx c e=>?_,λp hp=>?_,hok,I.len⟩
 ·exact keep b o (neL b o e) hb (neC b o e hx) (I.base.keep b o e n hb hx) (I.base.free b o e n hx)
 ·obtain⟨sl,e1⟩:=I.base.slot b o e n hb hx;obtain⟨sl',e2⟩:=slot b _ (neL b o e) hb (neC b o e hx) e1 (I.base.free b o e n hx);exact⟨sl',e2⟩
 ·obtain⟨o',e1⟩:=I.base.there b o e hx;exact free b o' (neC b o e hx) e1 (I.base.free b o e n hx)
 ·obtain⟨o',e1⟩:=I.base.there b o e hx;exact there b o' (neC b o e hx) e1
 ·obtain⟨m1,e1⟩:=I.base.tbls b ps e;obtain⟨m2,e2⟩:=tbls b _ e1;exact⟨m1++m2,by rw[e2,Array.append_assoc]⟩
 ·obtain⟨m,hn,hl⟩:=I.loc;refine⟨m,ns m hn,λi x v e1 e2 e3=>?_⟩;obtain⟨u,r,l⟩:=hl i x v e1 e2 e3;refine⟨u,r,?_⟩;rcases l with l | ⟨k,c,e,z⟩
  ·exact .inl l
  ·exact .inr ⟨k,c,e,cellK x c e _ z⟩
 ·obtain⟨v,z⟩:=I.cell x c e;exact⟨v,cellK x c e v z⟩
 ·obtain⟨m,⟨o,_,_,ho,_⟩,_⟩:=I.loc;exact free _ o (λz=>(hch _ z).2.1 rfl) ho I.free
 ·obtain⟨v,o,ho,hd⟩:=I.cell x c e;exact free c o (λz=>(hch c z).2.2.1 x c e rfl) ho (I.freeC x c e)
 ·obtain⟨e,n,ne,nf,d⟩:=I.pin p hp;have nch:p.1∉ch:=λz=>(hch p.1 z).2.2.2 p hp rfl;exact⟨keep p.1 p.2 ne nf nch e n,free p.1 p.2 nch e n,ne,nf,d⟩
theorem Inv.un {t':Nat}(I:Inv X pins σ H s)(u:Un X.fs [] H H' s.heap h')(hok:HOk X.prog X.w H' h'):Inv X pins σ H' { s with heap:=h',toks:=t' }:=by
 obtain⟨m,⟨o,es,ep,ho,r⟩,_⟩:=id I.loc;obtain⟨sl,hL⟩:=u.any ho I.free (by simp);exact I.step (g':=s.gens) (d':=s.drawn) (ch:=[]) (λ_ z=>nomatch z) (λb o _ hb _ e n=>u.keep b o e n hb (by simp)) (λb o _ hb _ e n=>u.slot b o e n hb (by simp)) (λb o _ e n=>u.free b o e n (by simp)) (λb o _ e=>u.there b o e (by simp)) u.tups u.frzs u.tbls (λm' hm=>by
  obtain⟨o',es',ep',ho',r'⟩:=hm;rw[ho]at ho';cases ho';exact⟨_,es',ep',hL,r'⟩) hok I.bare
theorem Inv.call {g':Array GenState}{t':Nat}{d':Drawn}{ch:List Addr}(I:Inv X pins σ H s)(u:Un (frs X.stack) ch H H' s.heap h')(hok:HOk X.prog X.w H' h')(hg:AllBare g')
  (hch:∀b∈ch,(b∈X.ex\/X.s₀.heap.objs.size<=b)/\b≠X.env.locals/\(∀x c,X.env.cells.lookup x=some c->c≠b)/\∀p∈X.pn++pins,p.1≠b) :
  Inv X pins σ H' { s with heap:=h',gens:=g',drawn:=d',toks:=t' }:=by
 obtain⟨m,⟨o,es,ep,ho,r⟩,_⟩:=id I.loc;obtain⟨sl,hL⟩:=u.any ho I.free λz=>(hch _ z).2.1 rfl;exact I.step (ch:=ch) hch (λb o hL hb hc e n=>u.keep b o e n (λz=>(Xu.mp (I.zlz b z)).elim hL hb) hc) (λb o _ _ hc e n=>u.any e n hc) (λb o hc e n=>u.free b o e n hc) (λb o hc e=>u.there b o e hc) u.tups u.frzs u.tbls (λm' hm=>by
  obtain⟨o',es',ep',ho',r'⟩:=hm;rw[ho]at ho';cases ho';exact⟨_,es',ep',hL,r'⟩) hok hg
theorem Inv.turned {t':Nat}{it:Addr}(I:Inv X pins σ H s)(k:∀b o,b≠it->s.heap.get? b=some o->h'.get? b=some o)(hn:H it=none)(hL:it≠X.env.locals)
  (h1:it∈X.ex\/X.s₀.heap.objs.size<=it) (h2:∀x c,X.env.cells.lookup x=some c->c≠it) (h3:∀p∈X.pn++pins,p.1≠it):Inv X pins σ H { s with heap:=h',toks:=t' }:=by
 have nit:∀b u,H b=some u->b≠it:=λb u e z=>by rw[z,hn]at e;cases e
 refine I.step (g':=s.gens) (d':=s.drawn) (ch:=[it]) (λb hb=>?_) (λb o _ _ hc e _=>k b o (λz=>hc (by simp[z])) e) (λb o _ _ hc e _=>⟨o.slots,k b o (λz=>hc (by simp[z])) e⟩) (λ_ _ _ _ n=>n)
  (λb o hc e=>⟨o,k b o (λz=>hc (by simp[z])) e⟩) (λ_ _ e=>e) (λ_ _ _ e=>e) (λb ps e=>⟨#[],by rw[e];simp⟩) (λm hm=>?_) (λb u e=>?_) I.bare
 ·have e:b=it:=by simpa using hb
  subst e;exact⟨h1,hL,h2,h3⟩
 ·obtain⟨o,es,ep,ho,r⟩:=hm;exact⟨o,es,ep,k _ o (Ne.symm hL) ho,r⟩
 ·refine(I.hok b u e).stay (λc v hc q=>k c v ?_ q) (λ_ q=>q) λ_ _ q=>q;rcases hc with z | z
  ·rw[z];exact nit b u e
  ·exact nit c _ z
theorem Inv.tok (I:Inv X pins σ H s)(t:Nat):Inv X pins σ H { s with toks:=t }:=I.un (h':=s.heap) (t':=t) Un.refl I.hok
theorem Inv.kept {t':Nat}(I:Inv X pins σ H s)(k:∀b u,s.heap.get? b=some u->h'.get? b=some u):Inv X pins σ H { s with heap:=h',toks:=t' }:=I.un (Un.kept k) (I.hok.kept k)
theorem Inv.laid {a:Addr}{o:HO}{t':Nat}(I:Inv X pins σ H s)(k:∀b u,s.heap.get? b=some u->h'.get? b=some u)(hp:s.heap.objs.size<=a)(new:zbt X.prog X.w (upd H a o) h' a o) :
  Inv X pins σ (upd H a o) { s with heap:=h',toks:=t' }:=I.un (Un.laid k hp (I.hok.fresh hp)) (I.hok.laid k hp new)
theorem Inv.write {x e:Addr}{o:HO}{t':Nat}(I:Inv X pins σ H s)(mu:Mut (H x))(he:e=x\/H e=some (.own x))(k:∀b u,b≠e->s.heap.get? b=some u->h'.get? b=some u)(heo:∃u,h'.get? e=some u)
  (new:zbt X.prog X.w (upd H x o) h' x o):Inv X pins σ (upd H x o) { s with heap:=h',toks:=t' }:=I.un (Un.write mu he k heo) (I.hok.write mu he k heo new)
theorem Inv.zlB {pins':List (Addr×Obj)}(I:Inv X pins σ H s)(h:∀p∈pins',s.heap.get? p.1=some p.2/\H p.1=none/\p.1≠X.env.locals/\p.1∉X.fs/\∀v,p.2.data≠.cell v):Inv X pins' σ H s:=
 ⟨I.ok,I.os,I.bare,I.base,I.loc,I.cell,I.free,I.freeC,λp hp=>(XZ.mp hp).elim (λz=>I.pin p (Yq _ z)) (h p),I.hok,I.len⟩
theorem zjw {N:List Str}(hN:N.Nodup){i j:Nat}{x:Str}(a:N[i]? = some x)(b:N[j]? = some x):i=j:=by
 obtain⟨h1,e1⟩:=Xd.mp a;obtain⟨h2,e2⟩:=Xd.mp b;exact(List.getElem_inj hN).mp (e1.trans e2.symm)
theorem zhC {M:Model}{A:Around}{E:Value->Shared->Prop}{i:Nat}{x:Str}{v:V}{u:Value}{Q:Unit->Shared->Prop}(I:Inv X pins σ H s)(hN:X.N.Nodup)(hi:X.N[i]? = some x)(hx:Loc X.env.scope x)(r:RelV v u)
  (h:∀s',Inv X pins (σ.set i (some v)) H s'->(∃a,Yf a s.heap s'.heap/\(a=X.env.locals\/X.env.cells.lookup x=some a))->Q () s') (hf:autoParam (X.fn x=true\/X.env.scope.names.lookup x=some .local) aU5):wpAny M A (storeName X.env x u) Q E s:=by
 obtain⟨m,hn,hl⟩:=id I.loc;have hcls:(X.env.scope.kind == .class||(X.env.scope.kind == .module&&X.env.locals != X.env.globals))=false:=by rw[I.ok.kind];rfl
 have hiσ:i<σ.length:=by rw[I.len];exact(Xd.mp hi).1
 have cne:=I.cne;have tracked:∀ {a:Addr} {h':Heap},(∃o,s.heap.get? a=some o/\H a=none)->Yf a s.heap h'->HOk X.prog X.w H h':=λ{a h'} ha hs b ob e=>by
  obtain⟨_,_,hfree⟩:=ha;refine(I.hok b ob e).stay (λc w' hc q=>(hs.2 c ?_).trans q) (λ_ q=>q) λ_ _ q=>q;rintro rfl;rcases hc with rfl | hc
  ·rw[hfree]at e;cases e
  ·rw[hfree]at hc;cases hc
 rcases hx with hk | hk
 ·refine wpAny_storeName_local hk hn (λh' hn' hs=>?_) hcls;obtain⟨oL,_,_,hoL,_⟩:=id hn;refine h _ ⟨I.ok,I.os,I.bare,⟨λb o e n hb hx=>?_,λb o e n hb hx=>?_,I.base.free,λb o e hx=>?_,I.base.tups,I.base.frzs,I.base.tbls⟩,⟨_,hn',λj y v' e1 e2 e3=>?_⟩,λy c e=>?_,I.free,I.freeC,λp hp=>?_,tracked ⟨oL,hoL,I.free⟩ hs,by simpa using I.len⟩ ⟨_,hs,.inl rfl⟩
  ·exact(hs.2 b (Xx (XD (Xm e) I.ok.above))).trans (I.base.keep b o e n hb hx)
  ·obtain⟨sl,e1⟩:=I.base.slot b o e n hb hx;exact⟨sl,(hs.2 b (Xx (XD (Xm e) I.ok.above))).trans e1⟩
  ·obtain⟨o',e1⟩:=I.base.there b o e hx;exact⟨o',(hs.2 b (Xx (XD (Xm e) I.ok.above))).trans e1⟩
  ·by_cases hj:j=i
   ·subst hj;rw[hi]at e1;cases e1;rw[Xl hiσ]at e2;cases e2;exact⟨u,r,.inl ⟨hk,by simp⟩⟩
   ·rw[Xh (Ne.symm hj)]at e2;obtain⟨u',r',q⟩:=hl j y v' e1 e2 e3;refine⟨u',r',?_⟩;rcases q with ⟨k,e⟩ | ⟨k,c,e,z⟩
    ·refine .inl ⟨k,?_⟩;have:y≠x:=λe=>hj (zjw hN e1 (e▸hi));simp[this,e]
    ·exact .inr ⟨k,c,e,z.sameBut hs (cne y c e)⟩
  ·obtain⟨w',z⟩:=I.cell y c e;exact⟨w',z.sameBut hs (cne y c e)⟩
  ·obtain⟨e,n,ne,nf,d⟩:=I.pin p hp;exact⟨(hs.2 p.1 ne).trans e,n,ne,nf,d⟩
 ·have hfn:X.fn x=true:=by
   rcases hf with z | z
   ·exact z
   ·rw[z]at hk;cases hk
  obtain⟨c,hc⟩:=I.ok.has x (.inl hk);obtain⟨w',z⟩:=I.cell x c hc;refine wpAny_storeName_cell I.ok.kind hk hc z (λh' hc' hs=>?_);obtain⟨oc,hoc,hocd⟩:=id z;refine h { s with heap:=h' } ⟨I.ok,I.os,I.bare,⟨λb o e n hb hx=>?_,λb o e n hb hx=>?_,I.base.free,λb o e hx=>?_,I.base.tups,I.base.frzs,I.base.tbls⟩,⟨m,hn.sameBut hs (Ne.symm (cne x c hc)),λj y v' e1 e2 e3=>?_⟩,λy c' e=>?_,I.free,I.freeC,λp hp=>?_,tracked ⟨oc,hoc,I.freeC x c hc⟩ hs,by simpa using I.len⟩ ⟨c,hs,.inr hc⟩
  ·exact(hs.2 b (Xx (XD (Xm e) (I.ok.cab x c hfn hc)))).trans (I.base.keep b o e n hb hx)
  ·obtain⟨sl,e1⟩:=I.base.slot b o e n hb hx;exact⟨sl,(hs.2 b (Xx (XD (Xm e) (I.ok.cab x c hfn hc)))).trans e1⟩
  ·obtain⟨o',e1⟩:=I.base.there b o e hx;exact⟨o',(hs.2 b (Xx (XD (Xm e) (I.ok.cab x c hfn hc)))).trans e1⟩
  ·by_cases hj:j=i
   ·subst hj;rw[hi]at e1;cases e1;rw[Xl hiσ]at e2;cases e2;exact⟨u,r,.inr ⟨.inl hk,c,hc,hc'⟩⟩
   ·rw[Xh (Ne.symm hj)]at e2;obtain⟨u',r',q⟩:=hl j y v' e1 e2 e3;refine⟨u',r',?_⟩;rcases q with q | ⟨k,c',e,z'⟩
    ·exact .inl q
    ·refine .inr ⟨k,c',e,z'.sameBut hs ?_⟩;rintro rfl;exact hj (zjw hN e1 (I.ok.inj _ _ _ e hc▸hi))
  ·by_cases hcc:c'=c
   ·subst hcc;exact⟨_,hc'⟩
   ·obtain⟨w2,z2⟩:=I.cell y c' e;exact⟨w2,z2.sameBut hs hcc⟩
  ·obtain⟨e,n,ne,nf,d⟩:=I.pin p hp;refine⟨(hs.2 p.1 ?_).trans e,n,ne,nf,d⟩;intro q;rw[q,hoc]at e;have q':oc=p.2:=Option.some.inj e;exact d w' (by rw[<- q'];exact hocd)
theorem zjx {M:Model}{A:Around}{E:Value->Shared->Prop}{i:Nat}{x:Str}{v:V}{u:Value}{Q:Unit->Shared->Prop}(I:Inv X pins σ H s)(hN:X.N.Nodup)(hi:X.N[i]? = some x)(hx:Loc X.env.scope x)(r:RelV v u)
  (h:∀s',Inv X pins (σ.set i (some v)) H s'->Q () s') (hf:autoParam (X.fn x=true\/X.env.scope.names.lookup x=some .local) aU5):wpAny M A (storeName X.env x u) Q E s:=
 zhC I hN hi hx r (λs' I' _=>h s' I') hf
theorem Inv.call' {s':Shared}{ch:List Addr}(I:Inv X pins σ H s)(ho:s'.os=s.os)(u:Un (frs X.stack) ch H H' s.heap s'.heap)(hok:HOk X.prog X.w H' s'.heap)(hg:AllBare s'.gens)
  (hch:∀b∈ch,(b∈X.ex\/X.s₀.heap.objs.size<=b)/\b≠X.env.locals/\(∀x c,X.env.cells.lookup x=some c->c≠b)/\∀p∈X.pn++pins,p.1≠b):Inv X pins σ H' s':=by
 obtain⟨h',g',d',t',o'⟩:=s';have e:o'=s.os:=ho;subst e;exact I.call (g':=g') (t':=t') (d':=d') u hok hg hch
end
noncomputable abbrev XK:=Value->Option Addr->Hp->Prop
noncomputable abbrev St:=List (Option V)
noncomputable abbrev VK:=V->Hp->Prop
noncomputable abbrev TE:=St->Hp->VK->Prop
noncomputable abbrev TT:=St->Hp->(Bool->Hp->Prop)->Prop
noncomputable abbrev TA:=St->Hp->(List V->Hp->Prop)->Prop
structure Ends where
 nx:St->Hp->Prop
 rt:VK
 bk:St->Hp->Prop:=λ_ _=>False
 ct:St->Hp->Prop:=λ_ _=>False
noncomputable abbrev TS:=Ends->St->Hp->Prop
noncomputable def EP (X:Cx)(pins:List (Addr×Obj))(σ:St)(Q:VK)(u:Value)(s':Shared):Prop:=∃v H',Inv X pins σ H' s'/\RelV v u/\Q v H'
noncomputable def TP (X:Cx)(pins:List (Addr×Obj))(σ:St)(Q:Bool->Hp->Prop)(b:Bool)(s':Shared):Prop:=∃H',Inv X pins σ H' s'/\Q b H'
noncomputable def AP (X:Cx)(pins:List (Addr×Obj))(σ:St)(Q:List V->Hp->Prop)(us:List Value)(s':Shared):Prop:=∃vs H',Inv X pins σ H' s'/\Vals vs us/\Q vs H'
noncomputable def SP (X:Cx)(pins:List (Addr×Obj))(D:Ends)(f:Flow)(s':Shared):Prop:=
 match f with
 | .next=>∃σ' H',Inv X pins σ' H' s'/\D.nx σ' H'
 | .brk=>∃σ' H',Inv X pins σ' H' s'/\D.bk σ' H'
 | .cont=>∃σ' H',Inv X pins σ' H' s'/\D.ct σ' H'
 | .ret u=>∃v σ' H',Inv X pins σ' H' s'/\RelV v u/\D.rt v H'
noncomputable def PE (X:Cx)(e:Expr)(t:TE):Prop:=
 ∀(pins:List (Addr×Obj)) (s:Shared) (σ:St) (H:Hp) (Q:VK),Inv X pins σ H s->t σ H Q->wpAny (model X.prog X.w) X.A (eval e X.env) (EP X pins σ Q) X.xe s
noncomputable def PT (X:Cx)(e:Expr)(t:TT):Prop:=
 ∀(pins:List (Addr×Obj)) (s:Shared) (σ:St) (H:Hp) (Q:Bool->Hp->Prop),Inv X pins σ H s->t σ H Q->wpAny (model X.prog X.w) X.A (isTrue e X.env (eval e X.env)) (TP X pins σ Q) X.xe s
noncomputable def PW (X:Cx)(e:Expr)(t:TT):Prop:=
 ∀(whole:Sem Value) (pins:List (Addr×Obj)) (s:Shared) (σ:St) (H:Hp) (Q:Bool->Hp->Prop),Inv X pins σ H s->t σ H Q->wpAny (model X.prog X.w) X.A (isTrue e X.env whole) (TP X pins σ Q) X.xe s
theorem PW.pt {X:Cx}{e:Expr}{t:TT}(h:PW X e t):PT X e t:=h _
noncomputable def PA (X:Cx)(es:List Expr)(t:TA):Prop:=
 ∀(pos:Pos) (pins:List (Addr×Obj)) (s:Shared) (σ:St) (H:Hp) (Q:List V->Hp->Prop),Inv X pins σ H s->t σ H Q->wpAny (model X.prog X.w) X.A (spliced (backTo pos (starEach es X.env))) (AP X pins σ Q) X.xe s
noncomputable def PS (X:Cx)(st:Stmt)(t:TS):Prop:=
 ∀(pins:List (Addr×Obj)) (s:Shared) (σ:St) (H:Hp) (D:Ends),Inv X pins σ H s->t D σ H->wpAny (model X.prog X.w) X.A (exec st X.env) (SP X pins D) X.xe s
noncomputable def PSs (X:Cx)(st:List Stmt)(t:TS):Prop:=
 ∀(pins:List (Addr×Obj)) (s:Shared) (σ:St) (H:Hp) (D:Ends),Inv X pins σ H s->t D σ H->wpAny (model X.prog X.w) X.A (execs st X.env) (SP X pins D) X.xe s
theorem thn {α:Type}{t:Sem α}{Q Q':α->Shared->Prop}{M:Model}{A:Around}{E:Value->Shared->Prop}{s:Shared}(h:wpAny M A t Q E s)(hQ:∀a s,Q a s->Q' a s):wpAny M A t Q' E s:=wpAny_mono h hQ λ_ _ x=>x
section
variable {X:Cx}
noncomputable def tVar (i:Nat):TE:=λσ H Q=>∃v,σ[i]? = some (some v)/\Q v H
noncomputable def tC (v:V):TE:=λ_ H Q=>Q v H
theorem zco {i:Nat}{x:Str}{pos:Pos}(hN:X.N[i]? = some x)(hv:Vis X.env.scope x)(hd:autoParam ((x == ("__debug__" : Str))=false) aU1) (hcd:autoParam ((x == ("__classdict__" : Str))=false) aU1):PE X (.Name x pos) (tVar i):=by
 intro pins s σ H Q I h;obtain⟨v,e,h⟩:=h;obtain⟨m,hn,hl⟩:=I.loc;obtain⟨u,r,l⟩:=hl i x v hN e hv;have fin:EP X pins σ Q u s:=⟨v,H,I,r,h⟩;rcases l with ⟨hk,hm⟩ | ⟨hk,c,hc,hcell⟩
 ·exact wpAny_Name (wpAny_loadName_local I.ok.kind hk hn hm fin) hd
 ·rcases hk with hk | hk
  ·exact wpAny_Name (wpAny_loadName_cell I.ok.kind hk hc hcell fin) hd
  ·exact wpAny_Name (wpAny_loadName_free I.ok.kind hk hc hcell fin hcd) hd
theorem zrA {i j pos}:PE X (.Constant (.int i) j pos) (tC (.int i)):=λ_ _ _ H _ I h=>wpAny_Constant_int ⟨.int i,H,I.tok _,⟨_,rfl⟩,h⟩
theorem zty {b j pos}:PE X (.Constant (.bool b) j pos) (tC (.bl b)):=λ_ _ _ H _ I h=>Constant_bool ⟨.bl b,H,I,rfl,h⟩
theorem zrB {j pos}:PE X (.Constant .none j pos) (tC .non):=λ_ _ _ H _ I h=>Constant_none ⟨.non,H,I,rfl,h⟩
theorem zrC {x j pos}:PE X (.Constant (.str x) j pos) (tC (.str x)):=λ_ _ _ H _ I h=>Calls.Constant_str ⟨.str x,H,I.tok _,⟨_,rfl⟩,h⟩
noncomputable def Gl (X:Cx)(x:Str):Prop:=X.env.kindOf x=some .globalImplicit
theorem zlC {E:Value->Shared->Prop}{pins:List (Addr×Obj)}{s:Shared}{σ:St}{H:Hp}{x:Str}{u:Value}{pos:Pos}{Q:Value->Shared->Prop}(I:Inv X pins σ H s)(hg:Gl X x)(hm:X.mg x=some u)(h:Q u s)
  (hd:autoParam ((x == ("__debug__" : Str))=false) aU1):wpAny (model X.prog X.w) X.A (eval (.Name x pos) X.env) Q E s:=
 Calls.Name_function_global I.ok.kind hg (Calls.loadGlobal_global (by rw[I.ok.glob];exact I.mod.glob.keeps I.bk) hm h) hd
theorem zfe {E:Value->Shared->Prop}{pins:List (Addr×Obj)}{s:Shared}{σ:St}{H:Hp}{x:Str}{u:Value}{pos:Pos}{Q:Value->Shared->Prop}(I:Inv X pins σ H s)(hg:Gl X x)(hm:X.mg x=none)(hv:bootBuiltins x=some u)(h:Q u s)
  (hn:autoParam (x≠"__name__") aU1) (hd:autoParam ((x == ("__debug__" : Str))=false) aU1):wpAny (model X.prog X.w) X.A (eval (.Name x pos) X.env) Q E s:=by
 obtain⟨mb,h1,h2⟩:=I.mod.blt;exact Calls.Name_function_global I.ok.kind hg (Calls.loadGlobal_builtin (by rw[I.ok.glob];exact I.mod.glob.keeps I.bk) hm (by rw[I.ok.blt];exact h1.keeps I.bk) ((h2 x hn).trans hv) h) hd
theorem zpR {x:Str}{v:V}{u:Value}{pos:Pos}(hg:Gl X x)(hm:X.mg x=none)(hv:bootBuiltins x=some u)(r:RelV v u)(hn:autoParam (x≠"__name__") aU1) (hd:autoParam ((x == ("__debug__" : Str))=false) aU1):PE X (.Name x pos) (tC v):=
 λ_ _ _ H _ I h=>zfe I hg hm hv ⟨v,H,I,r,h⟩ hn hd
variable {a b:Expr}{ta tb:TE}{pos:Pos}
noncomputable def tB (t:TE):TT:=λσ H Q=>t σ H λx H1=>∃c,x=.bl c/\Q c H1
variable {tA tB':TT}{rest:List Expr}
noncomputable def tAnd (t u:TT):TT:=λσ H Q=>t σ H λc H1=>if c=true then u σ H1 Q else Q false H1
noncomputable def tOr (t u:TT):TT:=λσ H Q=>t σ H λc H1=>if c=true then Q true H1 else u σ H1 Q
noncomputable def tNot (t:TT):TT:=λσ H Q=>t σ H λc H1=>Q (!c) H1
theorem zpS (ha:PT X a tA):PW X (.BoolOp .And [a] pos) tA:=by
 intro wh pins s σ H Q I h;refine isTrue_and (thn (ha pins s σ H Q I h) λc s1 e=>?_);cases c with
 | true=>exact isTrue_and_nil e
 | false=>exact e
theorem zrD (ha:PT X a tA):PW X (.BoolOp .Or [a] pos) tA:=by
 intro wh pins s σ H Q I h;refine isTrue_or (thn (ha pins s σ H Q I h) λc s1 e=>?_);cases c with
 | false=>exact isTrue_or_nil e
 | true=>exact e
theorem zrE (ha:PT X a tA)(hb:PW X (.BoolOp .And (b::rest) pos) tB'):PW X (.BoolOp .And (a::b::rest) pos) (tAnd tA tB'):=by
 intro wh pins s σ H Q I h;refine isTrue_and (thn (ha pins s σ H _ I h) λc s1 q1q=>?_);obtain⟨H1,I1,q1⟩:=q1q;cases c with
 | true=>exact hb wh pins s1 σ H1 Q I1 q1
 | false=>exact⟨H1,I1,q1⟩
theorem ztz (ha:PT X a tA)(hb:PW X (.BoolOp .Or (b::rest) pos) tB'):PW X (.BoolOp .Or (a::b::rest) pos) (tOr tA tB'):=by
 intro wh pins s σ H Q I h;refine isTrue_or (thn (ha pins s σ H _ I h) λc s1 q2q=>?_);obtain⟨H1,I1,q1⟩:=q2q;cases c with
 | true=>exact⟨H1,I1,q1⟩
 | false=>exact hb wh pins s1 σ H1 Q I1 q1
theorem zrF (ha:PT X a tA):PT X (.UnaryOp .Not a pos) (tNot tA):=by
 intro pins s σ H Q I h;exact isTrue_not (ha pins s σ H (λc H1=>Q (!c) H1) I h)
noncomputable def ztA (ta tb:TE):TE:=λσ H Q=>ta σ H λx H1=>∃c,x=.bl c/\if c=true then tb σ H1 Q else Q (.bl false) H1
noncomputable def ztB (ta:TE):TE:=λσ H Q=>ta σ H λx H1=>∃c,x=.bl c/\Q (.bl (!c)) H1
theorem zrG {op}{t:TE}(h:PE X a t):PE X (.BoolOp op [a] pos) t:=λpins s σ H Q I hw=>BoolOp_one (h pins s σ H Q I hw)
theorem zrH (ha:PE X a ta)(hb:PE X (.BoolOp .And (b::rest) pos) tb):PE X (.BoolOp .And (a::b::rest) pos) (ztA ta tb):=by
 intro pins s σ H Q I h;refine BoolOp_and (thn (ha pins s σ H _ I h) λv s1 q3q=>?_);obtain⟨x,H1,I1,r1,q1⟩:=q3q;obtain⟨c,rfl,q1⟩:=q1;cases r1;refine wpAny_truthy_bool ?_;cases c with
 | true=>exact hb pins s1 σ H1 Q I1 q1
 | false=>exact⟨.bl false,H1,I1,rfl,q1⟩
theorem zrI (ha:PE X a ta):PE X (.UnaryOp .Not a pos) (ztB ta):=by
 intro pins s σ H Q I h;refine UnaryOp_ (thn (ha pins s σ H _ I h) λv s1 q4q=>?_);obtain⟨x,H1,I1,r1,q1⟩:=q4q;obtain⟨c,rfl,q1⟩:=q1;cases r1;exact not_of (wpAny_truthy_bool ⟨.bl (!c),H1,I1,rfl,q1⟩)
noncomputable def tIf (t:TT)(ta tb:TE):TE:=λσ H Q=>t σ H λc H1=>if c=true then ta σ H1 Q else tb σ H1 Q
theorem znR {c:Expr}(hc:PT X c tA)(ha:PE X a ta)(hb:PE X b tb):PE X (.IfExp c a b pos) (tIf tA ta tb):=by
 intro pins s σ H Q I h;refine wpAny_IfExp (thn (hc pins s σ H _ I h) λd s1 q5q=>?_);obtain⟨H1,I1,q1⟩:=q5q;cases d with
 | true=>exact ha pins s1 σ H1 Q I1 q1
 | false=>exact hb pins s1 σ H1 Q I1 q1
end
noncomputable def SqL (K:Xa)(H:Hp)(a:Addr)(xs:List V):Prop:=
 Rd H a (.lst xs)\/
  ∃(o:Obj) (its:Array Value) (n:Nat),K.lookup a=some o/\o.cls=.type "list"/\o.dict=none/\o.data=.seq its n/\its.size<=sizeLine/\Vals xs its.toList
noncomputable def SqT (K:Xa)(H:Hp)(a:Addr)(xs:List V):Prop:=
 Rd H a (.tup xs)\/
  ∃(o:Obj) (its:Array Value) (n:Nat),K.lookup a=some o/\o.cls=.type "tuple"/\o.data=.seq its n/\its.size<=sizeLine/\Vals xs its.toList/\o.dict=none
noncomputable def absV:Value->Option V
 | .none=>some .non
 | .bool b=>some (.bl b)
 | .int i _=>some (.int i)
 | .str x _=>some (.str x)
 | .bytes b _=>some (.byt b)
 | .float b _=>some (.flt b)
 | .ref a=>some (.ref a)
 | .type n=>some (.ty n)
 | _=>none
theorem RelV.abs {x:V}{u:Value}(r:RelV x u):absV u=some x:=by
 cases x with
 | non=>cases r;rfl
 | bl _=>cases r;rfl
 | int _=>obtain⟨t,rfl⟩:=r;rfl
 | str _=>obtain⟨t,rfl⟩:=r;rfl
 | byt _=>obtain⟨t,rfl⟩:=r;rfl
 | flt _=>obtain⟨t,rfl⟩:=r;rfl
 | ref _=>cases r;rfl
 | ty _=>cases r;rfl
theorem RelV.inj {x y:V}{u:Value}(r:RelV x u)(q:RelV y u):x=y:=Option.some.inj (r.abs.symm.trans q.abs)
theorem Vals.inj:∀ {xs ys:List V}{us:List Value},Vals xs us->Vals ys us->xs=ys:=by
 intro xs ys us h;induction h generalizing ys with
 | nil=>intro h2;cases h2;rfl
 | cons r t ih=>
  intro h2;cases h2 with
  | cons r' t'=>rw[r.inj r',ih t']
section
variable {X:Cx}{pins:List (Addr×Obj)}{σ:St}{H:Hp}{s:Shared}{a:Addr}{xs ys:List V}
theorem SqL.of {K:Xa}(h:H a=some (.lst xs)):SqL K H a xs:=.inl (.inl h)
theorem SqT.of {K:Xa}(h:H a=some (.tup xs)):SqT K H a xs:=.inl (.inl h)
theorem Inv.list (I:Inv X pins σ H s)(h:SqL X.K H a xs):∃its:List Value,Vals xs its/\PlainL s.heap a its.toArray/\xs.length<=sizeLine:=by
 rcases h with h | ⟨o,its,n,hk,hc,hd,hs,hz,r⟩
 ·obtain⟨z,its,n,r,e⟩:=h.ok I.hok;exact⟨its,r,⟨_,n,e,rfl,rfl,rfl⟩,z⟩
 ·refine⟨its.toList,r,⟨o,n,I.kIn a o hk,hc,hd,by simpa using hs⟩,?_⟩;have e:=r.length;simp only[Yp]at e;lia
theorem Inv.tuple (I:Inv X pins σ H s)(h:SqT X.K H a xs):∃its:List Value,Vals xs its/\IsTup s.heap a its.toArray/\xs.length<=sizeLine:=by
 rcases h with h | ⟨o,its,n,hk,hc,hs,hz,r,_⟩
 ·obtain⟨z,its,r,p⟩:=h.ok I.hok;exact⟨its,r,p.tup,z⟩
 ·refine⟨its.toList,r,⟨o,I.kIn a o hk,hc,n,by simpa using hs⟩,?_⟩;have e:=r.length;simp only[Yp]at e;lia
theorem Inv.zec (I:Inv X pins σ H s)(h:SqL X.K H a xs)(h':SqL X.K H a ys):xs=ys:=by
 obtain⟨its,r,⟨o,n,e,_,_,d⟩,_⟩:=I.list h;obtain⟨its',r',⟨o',n',e',_,_,d'⟩,_⟩:=I.list h';rw[e]at e';cases e';rw[d]at d';injection d' with d1 _;have:its=its':=by simpa using congrArg Array.toList d1
 subst this;exact r.inj r'
theorem Inv.zhD (I:Inv X pins σ H s)(h:SqT X.K H a xs)(h':SqT X.K H a ys):xs=ys:=by
 obtain⟨its,r,⟨o,e,_,n,d⟩,_⟩:=I.tuple h;obtain⟨its',r',⟨o',e',_,n',d'⟩,_⟩:=I.tuple h';rw[e]at e';cases e';rw[d]at d';injection d' with d1 _;have:its=its':=by simpa using congrArg Array.toList d1
 subst this;exact r.inj r'
end
noncomputable abbrev Cx.wish (X:Cx)(E:Value->Shared->Prop):Cx:={ X with xe:=E }
noncomputable abbrev Cx.nox (X:Cx):Cx:=X.wish λ_ _=>False
theorem Cx.Ok.wish {X:Cx}(ok:X.Ok)(E:Value->Shared->Prop):(X.wish E).Ok:=
 ⟨ok.mod,ok.kind,ok.glob,ok.blt,ok.above,ok.inj,ok.has,ok.cab,ok.hd,ok.frames,ok.stk,ok.exf,ok.bs,ok.bsz,ok.noex,ok.exfs,ok.funs,ok.frf⟩
theorem Cx.Ok.zff {X:Cx}{E:Value->Shared->Prop}(ok:(X.wish E).Ok):X.Ok:=
 ⟨ok.mod,ok.kind,ok.glob,ok.blt,ok.above,ok.inj,ok.has,ok.cab,ok.hd,ok.frames,ok.stk,ok.exf,ok.bs,ok.bsz,ok.noex,ok.exfs,ok.funs,ok.frf⟩
section
variable {X:Cx}{pins:List (Addr×Obj)}{σ:St}{H:Hp}{s:Shared}{E:Value->Shared->Prop}
theorem Inv.wish (I:Inv X pins σ H s)(E:Value->Shared->Prop):Inv (X.wish E) pins σ H s:=⟨I.ok.wish E,I.os,I.bare,I.base,I.loc,I.cell,I.free,I.freeC,I.pin,I.hok,I.len⟩
theorem Inv.zff (I:Inv (X.wish E) pins σ H s):Inv X pins σ H s:=⟨I.ok.zff,I.os,I.bare,I.base,I.loc,I.cell,I.free,I.freeC,I.pin,I.hok,I.len⟩
theorem SP.zff {D:Ends}{f:Flow}{s':Shared}(h:SP (X.wish E) pins D f s'):SP X pins D f s':=by
 cases f with
 | next=>obtain⟨σ',H',I,q⟩:=h;exact⟨σ',H',I.zff,q⟩
 | brk=>obtain⟨σ',H',I,q⟩:=h;exact⟨σ',H',I.zff,q⟩
 | cont=>obtain⟨σ',H',I,q⟩:=h;exact⟨σ',H',I.zff,q⟩
 | ret u=>obtain⟨v,σ',H',I,r,q⟩:=h;exact⟨v,σ',H',I.zff,r,q⟩
theorem PSs.nox {st:List Stmt}{t:TS}(h:PSs X.nox st t):PSs X st t:=λpins s σ H D I hw=>
 wpAny_mono (h pins s σ H D (I.wish _) hw) (λ_ _ q=>q.zff) λ_ _ z=>False.elim z
end
section
variable {X:Cx}{st:Stmt}{rest:List Stmt}{t u:TS}{e:Expr}{te:TE}{pos:Pos}
noncomputable def ztC:TS:=λD σ H=>D.nx σ H
noncomputable def tSeq (t u:TS):TS:=λD σ H=>t { D with nx:=u D } σ H
theorem zpT:PSs X [] ztC:=λ_ _ σ H _ I h=>wpAny_execs_nil ⟨σ,H,I,h⟩
theorem zbZ (h1:PS X st t)(h2:PSs X rest u):PSs X (st::rest) (tSeq t u):=by
 intro pins s σ H D I h;refine wpAny_execs_cons (thn (h1 pins s σ H { D with nx:=u D } I h) λf s1 q=>?_);cases f with
 | next=>
  obtain⟨σ',H',I',q⟩:=q;exact h2 pins s1 σ' H' D I' q
 | ret v=>exact q
 | brk=>exact q
 | cont=>exact q
theorem ziU (h1:PS X st t):PSs X [st] t:=by
 intro pins s σ H D I h;refine wpAny_execs_cons (thn (h1 pins s σ H D I h) λf s1 q=>?_);cases f with
 | next=>exact wpAny_execs_nil q
 | ret v=>exact q
 | brk=>exact q
 | cont=>exact q
theorem Inv.quiet {pins:List (Addr×Obj)}{σ:St}{H:Hp}{s:Shared}(I:Inv X pins σ H s):interactive X.env=false:=by simp[interactive,I.ok.kind]
noncomputable def ztD (te:TE):TS:=λD σ H=>te σ H λ_ H1=>D.nx σ H1
theorem ziV (he:PE X e te)(hs:autoParam (swapsWith e none pos.line X.env=pure false) aU0):PS X (.Expr e pos) (ztD te):=by
 intro pins s σ H D I h;exact wpAny_Expr_any (thn (he pins s σ H _ I h) λv s1 q6q=>by obtain⟨x,H1,I1,r1,q1⟩:=q6q;exact⟨σ,H1,I1,q1⟩) I.quiet hs
noncomputable def tRet (te:TE):TS:=λD σ H=>te σ H D.rt
theorem zrJ (he:PE X e te):PS X (.Return (some e) pos) (tRet te):=by
 intro pins s σ H D I h;exact wpAny_Return_some (thn (he pins s σ H _ I h) λv s1 q7q=>by obtain⟨x,H1,I1,r1,q1⟩:=q7q;exact⟨x,σ,H1,I1,r1,q1⟩)
noncomputable def tIfS (c:TT)(t u:TS):TS:=λD σ H=>c σ H λb H1=>if b=true then t D σ H1 else u D σ H1
theorem ztE {c:Expr}{a b:List Stmt}{tc:TT}(hc:PT X c tc)(ha:PSs X a t)(hb:PSs X b u):PS X (.If c a b pos) (tIfS tc t u):=by
 intro pins s σ H D I h;refine wpAny_If (thn (hc pins s σ H _ I h) λd s1 q8q=>?_);obtain⟨H1,I1,q1⟩:=q8q;cases d with
 | true=>exact ha pins s1 σ H1 D I1 q1
 | false=>exact hb pins s1 σ H1 D I1 q1
end
noncomputable abbrev TG:=V->St->Hp->(St->Hp->Prop)->Prop
noncomputable abbrev TGs:=List V->St->Hp->(St->Hp->Prop)->Prop
noncomputable def PG (X:Cx)(target:Expr)(t:TG):Prop:=
 ∀(pins:List (Addr×Obj)) (s:Shared) (σ:St) (H:Hp) (v:V) (u:Value) (Q:St->Hp->Prop),Inv X pins σ H s->RelV v u->t v σ H Q->
  wpAny (model X.prog X.w) X.A (assign target X.env u) (λ_ s'=>∃σ' H',Inv X pins σ' H' s'/\Q σ' H') X.xe s
noncomputable def PGs (X:Cx)(ts:List Expr)(t:TGs):Prop:=
 ∀(pins:List (Addr×Obj)) (s:Shared) (σ:St) (H:Hp) (vs:List V) (us:List Value) (Q:St->Hp->Prop),Inv X pins σ H s->Vals vs us->t vs σ H Q->
  wpAny (model X.prog X.w) X.A (assignInOrder ((assignEach ts X.env).map (·.2)) us) (λ_ s'=>∃σ' H',Inv X pins σ' H' s'/\Q σ' H') X.xe s
noncomputable abbrev TSet:=V->V->V->Hp->(Hp->Prop)->Prop
noncomputable def PSet (X:Cx)(t:TSet):Prop:=
 ∀(pins:List (Addr×Obj)) (s:Shared) (σ:St) (H:Hp) (o i v:V) (ov iv u:Value) (Q:Hp->Prop),Inv X pins σ H s->RelV o ov->RelV i iv->RelV v u->t o i v H Q->
  wpAny (model X.prog X.w) X.A (setItem ov iv u) (λ_ s'=>∃H',Inv X pins σ H' s'/\Q H') X.xe s
section
variable {X:Cx}{pos:Pos}
noncomputable def zlD (i:Nat):TG:=λv σ H Q=>Q (σ.set i (some v)) H
theorem zpU {i:Nat}{x:Str}(hN:X.N.Nodup)(hi:X.N[i]? = some x)(hx:Loc X.env.scope x)(hf:autoParam (X.fn x=true\/X.env.scope.names.lookup x=some .local) aU5):PG X (.Name x pos) (zlD i):=by
 intro pins s σ H v u Q I r h;exact wpAny_assign_Name (zjx I hN hi hx r (λs' I'=>⟨_,H,I',h⟩) hf)
noncomputable def gNil:TGs:=λvs σ H Q=>vs=[]/\Q σ H
noncomputable def ztF (t:TG)(u:TGs):TGs:=λvs σ H Q=>∃v r,vs=v::r/\t v σ H λσ' H'=>u r σ' H' Q
theorem zpV:PGs X [] gNil:=by
 intro pins s σ H vs us Q I r h;obtain⟨e,h⟩:=h;subst e;cases r;exact assignInOrder_nil ⟨σ,H,I,h⟩
theorem znS {e:Expr}{es:List Expr}{t:TG}{u:TGs}(h1:PG X e t)(h2:PGs X es u)
  (hs:autoParam ((assignEach (e::es) X.env).map (·.2)=assign e X.env::(assignEach es X.env).map (·.2)) aU0):PGs X (e::es) (ztF t u):=by
 intro pins s σ H vs us Q I r h;obtain⟨v,vr,e1,h⟩:=h;subst e1;cases r with
 | cons r rr=>
  rw[hs];refine assignInOrder_cons (thn (h1 pins s σ H _ _ _ I r h) λ_ s1 q9q=>?_);obtain⟨σ1,H1,I1,q1⟩:=q9q;exact h2 pins s1 σ1 H1 _ _ Q I1 rr q1
noncomputable def gTup (K:Xa)(n:Nat)(t:TGs):TG:=λv σ H Q=>∃a xs,v=.ref a/\SqT K H a xs/\xs.length=n/\t xs σ H Q
theorem zrK {es:List Expr}{k:Nat}{t:TGs}{n:Nat}(hc:X.calm=true)(h:PGs X es t)
  (hn:autoParam ((assignEach es X.env).length=n) aU0) (hst:autoParam ((assignEach es X.env).findIdx? (·.1)=none) aU0):PG X (.Tuple es k pos) (gTup X.K n t):=by
 intro pins s σ H v u Q I r hw;obtain⟨a,xs,e1,hq,hl,hw⟩:=hw;subst e1;cases r;obtain⟨its,rv,ht,hz⟩:=I.tuple hq;refine assign_Tuple_tuple (I.ok.hd hc) ht (by simp[hn,<- hl,rv.length]) hst λh' hx=>?_;have I1:Inv X pins σ H { s with heap:=h' }:=I.kept (t':=s.toks) λb o e=>hx b o (Xx (Xm e)) e;exact h pins _ σ H xs _ Q I1 (by simpa using rv) hw
noncomputable def gSub (to ti:TE)(t:TSet):TG:=λv σ H Q=>to σ H λo H1=>ti σ H1 λi H2=>t o i v H2 λH3=>Q σ H3
theorem zpk {o i:Expr}{to ti:TE}{t:TSet}(ho:PE X o to)(hi:PE X i ti)(hs:PSet X t)
  (ha:autoParam (∀v,assign (.Subscript o i pos) X.env v=(do
   let ov <- holding [v] (eval o X.env);let iv <- holding [v,ov] (eval i X.env)
   standAt pos
   holding [v,ov,iv] (setItem ov iv v)
   release [v,ov,iv] [])) aU3):PG X (.Subscript o i pos) (gSub to ti t):=by
 intro pins s σ H v u Q I r h;rw[ha];refine wpAny_bind (wpAny_holding (thn (ho pins s σ H _ I h) λov s1 q10q=>?_));obtain⟨x,H1,I1,r1,q1⟩:=q10q;refine wpAny_bind (wpAny_holding (thn (hi pins s1 σ H1 _ I1 q1) λiv s2 q11q=>?_));obtain⟨y,H2,I2,r2,q2⟩:=q11q;refine wpAny_bind (wpAny_standAt (wpAny_bind (wpAny_holding (thn (hs pins s2 σ H2 x y v ov iv u _ I2 r1 r2 r q2) λ_ s3 q12q=>?_))));obtain⟨H3,I3,q3⟩:=q12q;exact wpAny_release ⟨σ,H3,I3,q3⟩
noncomputable def tAsg (te:TE)(g:TG):TS:=λD σ H=>te σ H λx H1=>g x σ H1 D.nx
theorem zlE {tg e:Expr}{te:TE}{g:TG}(he:PE X e te)(hg:PG X tg g)(hs:autoParam (swapsWithSole [tg] e pos.line X.env=pure false) aU0)(hw:autoParam (swappedStores [tg] e X.env=pure none) aU0)
  (h1:autoParam ((assignEach [tg] X.env).map (·.2)=[assign tg X.env]) aU0):PS X (.Assign [tg] e pos) (tAsg te g):=by
 intro pins s σ H D I h;refine wpAny_Assign_stores (thn (he pins s σ H _ I h) λv s1 q13q=>?_) hs hw;obtain⟨x,H1,I1,r1,q1⟩:=q13q;rw[h1];exact thn (hg pins s1 σ H1 x v _ I1 r1 q1) λ_ s2 q=>q
theorem zhE {i:Nat}{x:Str}{e:Expr}{te:TE}{pos':Pos}(hN:X.N.Nodup)(hi:X.N[i]? = some x)(hx:Loc X.env.scope x)(he:PE X e te)(hs:autoParam (swapsWith e (some (.Name x pos')) pos.line X.env=pure false) aU0)(hf:autoParam (X.fn x=true\/X.env.scope.names.lookup x=some .local) aU5) :
  PS X (.Assign [.Name x pos'] e pos) (tAsg te (zlD i)):=by
 intro pins s σ H D I h;refine wpAny_Assign_Name (thn (he pins s σ H _ I h) λv s1 q14q=>?_) hs;obtain⟨y,H1,I1,r1,q1⟩:=q14q;exact zjx I1 hN hi hx r1 (λs2 I2=>⟨_,H1,I2,q1⟩) hf
end
section
variable {X:Cx}{pos:Pos}
noncomputable def zrL (c:TT)(tb:TS):TS:=λD σ H=>∃W:Nat->St->Hp->Prop,(∃m,W m σ H)/\∀m σ H,W m σ H->
 c σ H λb H1=>if b=true then ∃N:St->Hp->Prop,(∀σ' H',N σ' H'->∃m',m'<m/\W m' σ' H')/\tb { D with nx:=N,ct:=N,bk:=D.nx } σ H1 else D.nx σ H1
theorem zjy {c:Expr}{body:List Stmt}{tc:TT}{tb:TS}(hp:PassesOwn (model X.prog X.w) X.A X.env X.xe)(hc:PT X c tc)(hb:PSs X body tb):PS X (.While c body [] pos) (zrL tc tb):=by
 intro pins s σ H D I h;obtain⟨W,⟨m0,w0⟩,turn⟩:=h;refine wpAny_While (codeAny_whileLoop (λn s'=>∃σ' H',Inv X pins σ' H' s'/\W n σ' H') ?_ m0 ⟨σ,H,I,w0⟩);rintro n s1 ⟨σ1,H1,I1,w1⟩;refine wpAny_passesOwn hp (thn (hc pins s1 σ1 H1 _ I1 (turn n σ1 H1 w1)) λb s2 q15q=>?_);obtain⟨H2,I2,q2⟩:=q15q;cases b with
 | true=>
  obtain⟨N,hN,q2⟩:=q2;rw[if_pos rfl];refine wpAny_passesOwn hp (thn (hb pins s2 σ1 H2 _ I2 q2) λf s3 q3=>?_);cases f with
  | next=>
   obtain⟨σ3,H3,I3,n3⟩:=q3;obtain⟨m',hm,w3⟩:=hN σ3 H3 n3;exact⟨m',hm,σ3,H3,I3,w3⟩
  | cont=>
   obtain⟨σ3,H3,I3,n3⟩:=q3;obtain⟨m',hm,w3⟩:=hN σ3 H3 n3;exact⟨m',hm,σ3,H3,I3,w3⟩
  | brk=>exact q3
  | ret v=>exact q3
 | false=>
  rw[if_neg Xo];exact wpAny_execs_nil ⟨σ1,H2,I2,q2⟩
end
structure It where
 go:Nat->Hp->Prop
 yld:Nat->Hp->V->Hp->Prop
 stop:Nat->Hp->Prop
noncomputable def FpOk (X:Cx)(pins:List (Addr×Obj))(H:Hp)(b:Addr):Prop:=
 H b=none/\b≠X.env.locals/\b∉X.fs/\(b∈X.ex\/X.s₀.heap.objs.size<=b)/\(∀x c,X.env.cells.lookup x=some c->c≠b)/\∀p∈X.pn++pins,p.1≠b
theorem Inv.fpOk {X:Cx}{pins:List (Addr×Obj)}{σ:St}{H H':Hp}{s:Shared}{b:Addr}(I:Inv X pins σ H s)(hb:s.heap.objs.size<=b)(hn:H' b=none):FpOk X pins H' b:=by
 refine⟨hn,Yg (XD I.lt hb),I.nofs hb,.inr (XO I.sz hb),λx c e z=>?_,λp hp z=>?_⟩
 ·obtain⟨v,q⟩:=I.cell x c e;exact absurd (XD q.lt (by rw[z];exact hb)) (Yr _)
 ·exact absurd (XD (Xm (I.pin p hp).1) (by rw[z];exact hb)) (Yr _)
structure Turn (P:Program)(w:World)(K:Xa)(tg:Expr)(J:It)(fp:List Addr)(it:Addr)(tn:Nat->Heap->Prop):Prop where
 mem:it∈fp
 obj:∀i h,tn i h->∀b∈fp,∃o,h.get? b=some o/\∀v,o.data≠.cell v
 keep:∀i h h',tn i h->(∀b∈fp,∀o,h.get? b=some o->h'.get? b=some o)->tn i h'
 item:∀(X:Cx),X.prog=P->X.w=w->X.K=K->X.calm=true->∀(i:Nat) (pins:List (Addr×Obj)) (s:Shared) (σ:St) (H:Hp) (E:Value->Shared->Prop),Inv X pins σ H s->(∀b∈fp,FpOk X pins H b)->tn i s.heap->J.go i H->
  wpAny (model P w) X.A (pyNext (.ref it)) (λr s1=>∃u,r=some u/\
   wpAny (model P w) X.A (letOwnedTupleGo tg (.ref it) u) (λ_ s2=>∃x H',Inv X pins σ H' s2/\RelV x u/\J.yld i H x H'/\tn (i+1) s2.heap/\∀b∈fp,H' b=none) E s1) E s
 done:∀(X:Cx),X.prog=P->X.w=w->X.K=K->X.calm=true->∀(i:Nat) (pins:List (Addr×Obj)) (s:Shared) (σ:St) (H:Hp) (E:Value->Shared->Prop),Inv X pins σ H s->(∀b∈fp,FpOk X pins H b)->tn i s.heap->J.stop i H->
  wpAny (model P w) X.A (pyNext (.ref it)) (λr s1=>r=none/\Inv X pins σ H s1) E s
 self:∀(A:Around) (i:Nat) (s:Shared) (Q:Value->Shared->Prop) (E:Value->Shared->Prop),tn i s.heap->Q (.ref it) s->wpAny (model P w) A (pyIter (.ref it)) Q E s
noncomputable abbrev TI:=St->Hp->(It->Hp->Prop)->Prop
noncomputable def PIE (X:Cx)(pins:List (Addr×Obj))(σ:St)(tg:Expr)(R:It->Hp->Prop)(itv:Value)(s2:Shared):Prop:=
 ∃(it:Addr) (fp:List Addr) (tn:Nat->Heap->Prop) (J:It) (H':Hp),itv=.ref it/\Inv X pins σ H' s2/\Turn X.prog X.w X.K tg J fp it tn/\tn 0 s2.heap/\(∀b∈fp,FpOk X pins H' b)/\R J H'
noncomputable def PI (X:Cx)(tg iter:Expr)(wi:TI):Prop:=
 ∀(pins:List (Addr×Obj)) (s:Shared) (σ:St) (H:Hp) (R:It->Hp->Prop),Inv X pins σ H s->wi σ H R->
  wpAny (model X.prog X.w) X.A (eval iter X.env) (λv s1=>wpAny (model X.prog X.w) X.A (pyIter v) (PIE X pins σ tg R) X.xe s1) X.xe s
theorem zpW {M:Model}{A:Around}{E:Value->Shared->Prop}{s:Shared}{tg:Expr}{it:Addr}{u:Value}{o:Obj}{n:String}{vs:Array Value}{Q:Unit->Shared->Prop}(ho:s.heap.get? it=some o)(hc:o.cls=.type n)(hd:o.data=.fields vs)
    (hn:["enumerate","zip","dict_itemiterator","dict_reverseitemiterator","odict_iterator","itertools.zip_longest","itertools.pairwise"].contains n=false) (hQ:Q () s):wpAny M A (letOwnedTupleGo tg (.ref it) u) Q E s:=by
  unfold letOwnedTupleGo;cases tg<;>first
    | exact wpAny_pure hQ
    | (cases u<;>first
        | exact wpAny_pure hQ
        | (refine wpAny_bind (wpAny_load ho ?_)
           rw[hc,hd];show wpAny M A (if (["enumerate","zip","dict_itemiterator","dict_reverseitemiterator","odict_iterator","itertools.zip_longest","itertools.pairwise"].contains n&&vs[0]? == some (rawInt _))=true then _ else _) Q E s
           rw[if_neg (by intro h;rw[hn,Bool.false_and]at h;cases h)];exact wpAny_pure hQ))
noncomputable def Itl (K:Xa)(a:Addr):It:=
 ⟨λi H=>∃xs x,SqL K H a xs/\xs[i]? = some x,λi H x H'=>H'=H/\∀xs,SqL K H a xs->xs[i]? = some x,λi H=>∃xs,SqL K H a xs/\xs.length<=i⟩
noncomputable def Itt (K:Xa)(a:Addr):It:=
 ⟨λi H=>∃xs x,SqT K H a xs/\xs[i]? = some x,λi H x H'=>H'=H/\∀xs,SqT K H a xs->xs[i]? = some x,λi H=>∃xs,SqT K H a xs/\xs.length<=i⟩
noncomputable def Itr (lo:Int)(n:Nat):It:=⟨λi _=>i<n,λi H x H'=>H'=H/\x=.int (lo+i),λi _=>n<=i⟩
theorem zlF {P:Program}{w:World}{K:Xa}{tg:Expr}(a it:Addr):Turn P w K tg (Itl K a) [it] it (λi h=>h.IsListIter it a i) where
 mem:=by simp
 obj:=λi h st b hb=>by
  have e:b=it:=by simpa using hb
  subst e;obtain⟨o,e,c,d⟩:=st;exact⟨o,e,λv z=>by rw[d]at z;cases z⟩
 keep:=λi h h' st k=>st.at λo e=>k it (by simp) o e
 item:=by
  intro X hP hw hK hc i pins s σ H E I hf st hg;subst hP hw hK;obtain⟨xs,x,hq,hx⟩:=hg;obtain⟨its,rv,p,hz⟩:=I.list hq;obtain⟨u,hu,ru⟩:=rv.get hx;obtain⟨f0,f1,f2,f3,f4,f5⟩:=hf it (by simp);refine wpAny_pyNext_list_item st p.isList (x:=u) (by simpa using hu) λh' st' sb=>?_;have I1:Inv X pins σ H { s with heap:=h' }:=I.turned (t':=s.toks) (λb o hb e=>(sb.2 b hb).trans e) f0 f1 f3 f4 f5;obtain⟨o,e,c,d⟩:=id st';exact⟨u,rfl,zpW (s:={ s with heap:=h' }) e c d (by decide) ⟨x,H,I1,ru,⟨rfl,λys hy=>by rw[I.zec hy hq];exact hx⟩,st',λb hb=>(hf b hb).1⟩⟩
 done:=by
  intro X hP hw hK hc i pins s σ H E I hf st hg;subst hP hw hK;obtain⟨xs,hq,hx⟩:=hg;obtain⟨its,rv,p,hz⟩:=I.list hq;obtain⟨f0,f1,f2,f3,f4,f5⟩:=hf it (by simp);have hl:=rv.length;exact wpAny_pyNext_list_end (I.ok.hd hc) st p.isList (by simp;lia) λh' eb=>⟨rfl,I.turned (t':=s.toks) (λb o hb e=>eb b o hb e) f0 f1 f3 f4 f5⟩
 self:=λ_ _ _ _ _ st h=>wpAny_pyIter_listiter st h
theorem zkE {P:Program}{w:World}{K:Xa}{tg:Expr}(a it:Addr):Turn P w K tg (Itt K a) [it] it (λi h=>h.IsTupleIter it a i) where
 mem:=by simp
 obj:=λi h st b hb=>by
  have e:b=it:=by simpa using hb
  subst e;obtain⟨o,e,c,d⟩:=st;exact⟨o,e,λv z=>by rw[d]at z;cases z⟩
 keep:=λi h h' st k=>st.at λo e=>k it (by simp) o e
 item:=by
  intro X hP hw hK hc i pins s σ H E I hf st hg;subst hP hw hK;obtain⟨xs,x,hq,hx⟩:=hg;obtain⟨its,rv,p,hz⟩:=I.tuple hq;obtain⟨u,hu,ru⟩:=rv.get hx;obtain⟨f0,f1,f2,f3,f4,f5⟩:=hf it (by simp);refine wpAny_pyNext_tuple_item st (show s.heap.IsTuple a its.toArray from p) (x:=u) (by simpa using hu) λh' st' sb=>?_;have I1:Inv X pins σ H { s with heap:=h' }:=I.turned (t':=s.toks) (λb o hb e=>(sb.2 b hb).trans e) f0 f1 f3 f4 f5;obtain⟨o,e,c,d⟩:=id st';exact⟨u,rfl,zpW (s:={ s with heap:=h' }) e c d (by decide) ⟨x,H,I1,ru,⟨rfl,λys hy=>by rw[I.zhD hy hq];exact hx⟩,st',λb hb=>(hf b hb).1⟩⟩
 done:=by
  intro X hP hw hK hc i pins s σ H E I hf st hg;subst hP hw hK;obtain⟨xs,hq,hx⟩:=hg;obtain⟨its,rv,p,hz⟩:=I.tuple hq;obtain⟨f0,f1,f2,f3,f4,f5⟩:=hf it (by simp);have hl:=rv.length;exact wpAny_pyNext_tuple_end (I.ok.hd hc) st (show s.heap.IsTuple a its.toArray from p) (by simp;lia) λh' eb=>⟨rfl,I.turned (t':=s.toks) (λb o hb e=>eb b o hb e) f0 f1 f3 f4 f5⟩
 self:=λ_ _ _ _ _ st h=>wpAny_pyIter_tupleiter st h
theorem zkF {P:Program}{w:World}{K:Xa}{tg:Expr}(it:Addr)(lo:Int)(n:Nat):Turn P w K tg (Itr lo n) [it] it (λi h=>IsRangeIter h it (lo+(i:Nat)*1) ((n:Int)-(i:Nat)) 1) where
 mem:=by simp
 obj:=λi h st b hb=>by
  have e:b=it:=by simpa using hb
  subst e;exact⟨_,st,λv z=>by
   have z':Data.fields _=Data.cell v:=z;cases z'⟩
 keep:=λi h h' st k=>k it (by simp) _ st
 item:=by
  intro X hP hw hK hc i pins s σ H E I hf st hg;subst hP hw hK;obtain⟨f0,f1,f2,f3,f4,f5⟩:=hf it (by simp);have W:=Walks.range (prog:=X.prog) (w:=X.w) (I.ok.hd hc) it lo 1 n;refine W.item i s _ _ hg st λv h' tk hv st' kk=>?_;obtain⟨t,rfl⟩:=hv;have I1:Inv X pins σ H { s with heap:=h',toks:=tk }:=I.turned (λb o hb e=>kk b o (by simpa using hb) e) f0 f1 f3 f4 f5;refine⟨_,rfl,zpW (s:={ s with heap:=h',toks:=tk }) (n:="range_iterator") st' rfl rfl (by decide) ⟨.int (lo+i),H,I1,⟨t,?_⟩,⟨rfl,rfl⟩,st',λb hb=>(hf b hb).1⟩⟩;rw[Int.mul_one]
 done:=by
  intro X hP hw hK hc i pins s σ H E I hf st hg;subst hP hw hK;obtain⟨f0,f1,f2,f3,f4,f5⟩:=hf it (by simp);exact wpAny_pyNext_range_end (I.ok.hd hc) st (by have:n<=i:=hg;lia) λh' eb=>⟨rfl,I.turned (t':=s.toks) (λb o hb e=>eb b o hb e) f0 f1 f3 f4 f5⟩
 self:=λ_ _ _ _ _ st h=>wpAny_pyIter_rangeiter st h
section
variable {X:Cx}{tg:Expr}
noncomputable def ztG (K:Xa)(tl:TE):TI:=λσ H R=>tl σ H λx H1=>∃a,x=.ref a/\(∃xs,SqL K H1 a xs)/\R (Itl K a) H1
noncomputable def iTup (K:Xa)(tl:TE):TI:=λσ H R=>tl σ H λx H1=>∃a,x=.ref a/\(∃xs,SqT K H1 a xs)/\R (Itt K a) H1
theorem zpX {l:Expr}{tl:TE}(hl:PE X l tl):PI X tg l (ztG X.K tl):=by
 intro pins s σ H R I h;refine thn (hl pins s σ H _ I h) λv s1 q16q=>?_;obtain⟨x,H1,I1,r1,q1⟩:=q16q;obtain⟨a,e,⟨xs,hq⟩,q⟩:=q1;subst e;cases r1;obtain⟨its,rv,p,hz⟩:=I1.list hq;refine wpAny_pyIter_list p.isList ?_;refine⟨s1.heap.objs.size,[s1.heap.objs.size],_,_,H1,rfl,I1.kept (t':=s1.toks) λb o e=>Xe _ e,zlF a _,⟨_,Xv _ rfl,rfl,rfl⟩,λb hb=>?_,q⟩;have e:b=s1.heap.objs.size:=by simpa using hb
 subst e;exact I1.fpOk (Xg _) (I1.hok.fresh (Xg _))
theorem zrM {l:Expr}{tl:TE}(hl:PE X l tl):PI X tg l (iTup X.K tl):=by
 intro pins s σ H R I h;refine thn (hl pins s σ H _ I h) λv s1 q17q=>?_;obtain⟨x,H1,I1,r1,q1⟩:=q17q;obtain⟨a,e,⟨xs,hq⟩,q⟩:=q1;subst e;cases r1;obtain⟨its,rv,p,hz⟩:=I1.tuple hq;refine wpAny_pyIter_tuple (show s1.heap.IsTuple a its.toArray from p) ?_;refine⟨s1.heap.objs.size,[s1.heap.objs.size],_,_,H1,rfl,I1.kept (t':=s1.toks) λb o e=>Xe _ e,zkE a _,⟨_,Xv _ rfl,rfl,rfl⟩,λb hb=>?_,q⟩;have e:b=s1.heap.objs.size:=by simpa using hb
 subst e;exact I1.fpOk (Xg _) (I1.hok.fresh (Xg _))
theorem znT {pins:List (Addr×Obj)}{σ:St}{H:Hp}{s:Shared}{R:It->Hp->Prop}{E:Value->Shared->Prop}{lo hi:Int}{t u v:Tok}{tk:Nat}(I:Inv X pins σ H s)(h1:-(2 ^ 62)<=lo)(h2:lo<2 ^ 62)(h3:-(2 ^ 62)<=hi)(h4:hi<2 ^ 62)
  (q:R (Itr lo (hi-lo).toNat) H):wpAny (model X.prog X.w) X.A (pyIter (.ref s.heap.objs.size)) (PIE X pins σ tg R) E { s with heap:=s.heap.push { cls:=.type "range",data:=.fields #[.int lo t,.int hi u,.int 1 v] },toks:=tk }:=by
 refine wpAny_pyIter_range (IsRange.new ..) (small_one h1 h2 h3 h4) ?_;have I1:Inv X pins σ H { s with heap:=s.heap.push { cls:=.type "range",data:=.fields #[.int lo t,.int hi u,.int 1 v] },toks:=tk }:=I.kept λb o e=>Xe _ e;refine⟨(s.heap.push { cls:=.type "range",data:=.fields #[.int lo t,.int hi u,.int 1 v] }).objs.size,[(s.heap.push { cls:=.type "range",data:=.fields #[.int lo t,.int hi u,.int 1 v] }).objs.size],_,_,H,rfl,
  I1.kept (t':=tk) λb o e=>Xe _ e,zkF _ lo (hi-lo).toNat,?_,λb hb=>?_,q⟩
 ·have e1:lo+((0:Nat):Int)*1=lo:=by simp
  have e2:(((hi-lo).toNat:Nat):Int)-((0:Nat):Int)=Builtin.Range.rangeSize lo hi 1:=by rw[rangeSize_one];split<;>lia
  show IsRangeIter _ _ (lo+((0:Nat):Int)*1) ((((hi-lo).toNat:Nat):Int)-((0:Nat):Int)) 1;rw[e1,e2];exact Xv _ rfl
 ·have e:b=(s.heap.push { cls:=.type "range",data:=.fields #[.int lo t,.int hi u,.int 1 v] }).objs.size:=by simpa using hb
  subst e;exact I1.fpOk (Xg _) (I1.hok.fresh (Xg _))
noncomputable def ztH (ta:TA):TI:=λσ H R=>ta σ H λvs H1=>∃j:Int,vs=[.int j]/\-(2 ^ 62)<=j/\j<2 ^ 62/\R (Itr 0 j.toNat) H1
theorem zlG {a:Expr}{ta:TA}{p pos:Pos}(hg:Gl X "range") (hm:X.mg "range" = none) (ha:PA X [a] ta) (hs:autoParam (starEach [a] X.env=[(false,eval a X.env)]) aU0):PI X tg (.Call (.Name "range" p) [a] [] pos) (ztH ta):=by
 intro pins s σ H R I h;refine Call_ (zfe I hg hm boot_range (PyProof.Rows.callWith_type1 (thn (ha pos pins s σ H _ I h) λus s1 q18q=>?_) hs rfl));obtain⟨vs,H1,I1,r1,q1⟩:=q18q;obtain⟨j,e,q1,q2,q⟩:=q1;subst e;cases r1 with
 | cons r rr=>
  cases rr;obtain⟨t,rfl⟩:=r;exact call_range_1 (znT I1 (by lia) (by lia) q1 q2 (by simpa using q))
noncomputable def tFor (wi:TI)(g:TG)(tb:TS):TS:=λD σ H=>wi σ H λJ H1=>∃W:Nat->Nat->St->Hp->Prop,(∃m,W 0 m σ H1)/\∀i m σ H,W i m σ H->
 (J.stop i H/\D.nx σ H)\/(J.go i H/\∃N:St->Hp->Prop,(∀σ' H',N σ' H'->∃m',m'<m/\W (i+1) m' σ' H')/\∀x H',J.yld i H x H'->g x σ H' λσ2 H2=>tb { D with nx:=N,ct:=N,bk:=D.nx } σ2 H2)
noncomputable def zhF (fp:List Addr)(h:Heap):List (Addr×Obj):=fp.filterMap λb=>(h.get? b).map λo=>(b,o)
theorem zdy {fp:List Addr}{h:Heap}{b:Addr}{o:Obj}(hb:b∈fp)(e:h.get? b=some o):(b,o)∈zhF fp h:=List.mem_filterMap.mpr ⟨b,hb,by rw[e];rfl⟩
theorem zlH {fp:List Addr}{h:Heap}{p:Addr×Obj}(hp:p∈zhF fp h):p.1∈fp/\h.get? p.1=some p.2:=by
 obtain⟨b,hb,e⟩:=List.mem_filterMap.mp hp;cases q:h.get? b with
 | none=>rw[q]at e;cases e
 | some o=>
  rw[q]at e;have e':(b,o)=p:=Option.some.inj e;subst e';exact⟨hb,q⟩
theorem Inv.pinned {pins:List (Addr×Obj)}{σ:St}{H:Hp}{s:Shared}{fp:List Addr}(I:Inv X pins σ H s)(hf:∀b∈fp,FpOk X pins H b)(ho:∀b∈fp,∃o,s.heap.get? b=some o/\∀v,o.data≠.cell v):Inv X (pins++zhF fp s.heap) σ H s:=
 I.zlB λp hp=>(XZ.mp hp).elim (λz=>I.pin p (XM _ z)) λz=>by
  obtain⟨hb,e⟩:=zlH z;obtain⟨f0,f1,f2,_⟩:=hf p.1 hb;obtain⟨o,e',d⟩:=ho p.1 hb;rw[e]at e';cases e';exact⟨e,f0,f1,f2,d⟩
theorem Inv.zed {pins pl:List (Addr×Obj)}{σ:St}{H:Hp}{s:Shared}(I:Inv X (pins++pl) σ H s):Inv X pins σ H s:=I.zlB λp hp=>I.pin p (XM _ (Yq _ hp))
theorem zpl {iter:Expr}{body:List Stmt}{wi:TI}{g:TG}{tb:TS}{pos:Pos}(hp:PassesOwn (model X.prog X.w) X.A X.env X.xe)(hc:X.calm=true)(hi:PI X tg iter wi)(hg:PG X tg g)(hb:PSs X body tb)
  (hs:autoParam (∀x,foldedSetIterable iter X.env x=pure x) aU3):PS X (.For tg iter body [] pos) (tFor wi g tb):=by
 intro pins s σ H D I h;refine wpAny_For (thn (hi pins s σ H _ I h) λv s1 h1=>thn h1 λitv s2 h2=>?_) hs;obtain⟨it,fp,tn,J,H2,e,I2,T,st2,f2,W,⟨m0,w0⟩,turn⟩:=h2;subst e;have stat:∀ {H':Hp},(∀b∈fp,H' b=none)->∀b∈fp,FpOk X pins H' b:=λhn b hb=>⟨hn b hb,(f2 b hb).2⟩;refine codeAny_forLoop_any (λn s'=>∃i σ' H',Inv X pins σ' H' s'/\tn i s'.heap/\(∀b∈fp,H' b=none)/\W i n σ' H') ?_ m0 ⟨0,σ,H2,I2,st2,λb hb=>(f2 b hb).1,w0⟩;rintro n s3 ⟨i,σ3,H3,I3,st3,fr3,w3⟩;rcases turn i n σ3 H3 w3 with ⟨stop,qn⟩ | ⟨go,N,hN,step⟩
 ·refine wpAny_passesOwn hp (thn (T.done X rfl rfl rfl hc i pins s3 σ3 H3 X.xe I3 (stat fr3) st3 stop) λr s4 q19q=>?_);obtain⟨hr,I4⟩:=q19q;subst hr;exact wpAny_execs_nil ⟨σ3,H3,I4,qn⟩
 ·refine wpAny_passesOwn hp (thn (T.item X rfl rfl rfl hc i pins s3 σ3 H3 X.xe I3 (stat fr3) st3 go) λr s4 q20q=>?_);obtain⟨u,hr,h4⟩:=q20q;subst hr;refine wpAny_passesOwn hp (thn h4 λ_ s5 q21q=>?_);obtain⟨x,H5,I5,r5,y5,st5,fr5⟩:=q21q;have I5':=I5.pinned (stat fr5) (T.obj _ _ st5);refine wpAny_passesOwn hp (thn (hg _ s5 σ3 H5 x u _ I5' r5 (step x H5 y5)) λ_ s6 q22q=>?_);obtain⟨σ6,H6,I6,q6⟩:=q22q;refine wpAny_passesOwn hp (thn (hb _ s6 σ6 H6 _ I6 q6) λf s7 q7=>?_);have again:∀ {σ7:St} {H7:Hp},Inv X (pins++zhF fp s5.heap) σ7 H7 s7->N σ7 H7->∃m,m<n/\∃i σ' H',Inv X pins σ' H' s7/\tn i s7.heap/\(∀b∈fp,H' b=none)/\W i m σ' H':=λ{σ7 H7} I7 n7=>by
   obtain⟨m',hm,w7⟩:=hN σ7 H7 n7;refine⟨m',hm,i+1,σ7,H7,I7.zed,T.keep _ _ _ st5 λb hb o e=>(I7.pin (b,o) (XM _ (XM _ (zdy hb e)))).1,λb hb=>?_,w7⟩;obtain⟨o,e,d⟩:=T.obj _ _ st5 b hb;exact(I7.pin (b,o) (XM _ (XM _ (zdy hb e)))).2.1
  cases f with
  | next=>obtain⟨σ7,H7,I7,n7⟩:=q7;exact again I7 n7
  | cont=>obtain⟨σ7,H7,I7,n7⟩:=q7;exact again I7 n7
  | brk=>obtain⟨σ7,H7,I7,q7⟩:=q7;exact⟨σ7,H7,I7.zed,q7⟩
  | ret v=>obtain⟨x7,σ7,H7,I7,r7,q7⟩:=q7;exact⟨x7,σ7,H7,I7.zed,r7,q7⟩
end
noncomputable abbrev R2:=V->V->Hp->VK->Prop
noncomputable def OpR (X:Cx)(f:Value->Value->Sem Value)(r:R2):Prop:=
 ∀(pins:List (Addr×Obj)) (s:Shared) (σ:St) (H:Hp) (x y:V) (v u:Value) (Q:VK),Inv X pins σ H s->RelV x v->RelV y u->r x y H Q->
  wpAny (model X.prog X.w) X.A (f v u) (EP X pins σ Q) X.xe s
noncomputable def UnR (X:Cx)(f:Value->Sem Value)(r:V->Hp->VK->Prop):Prop:=
 ∀(pins:List (Addr×Obj)) (s:Shared) (σ:St) (H:Hp) (x:V) (v:Value) (Q:VK),Inv X pins σ H s->RelV x v->r x H Q->
  wpAny (model X.prog X.w) X.A (f v) (EP X pins σ Q) X.xe s
noncomputable def zdh (X:Cx)(f:Value)(r:List V->Hp->VK->Prop):Prop:=
 ∀(pins:List (Addr×Obj)) (s:Shared) (σ:St) (H:Hp) (xs:List V) (us:List Value) (Q:VK),Inv X pins σ H s->Vals xs us->r xs H Q->
  wpAny (model X.prog X.w) X.A (call f us) (EP X pins σ Q) X.xe s
noncomputable def TruR (X:Cx)(r:V->Hp->(Bool->Hp->Prop)->Prop):Prop:=
 ∀(pins:List (Addr×Obj)) (s:Shared) (σ:St) (H:Hp) (x:V) (v:Value) (Q:Bool->Hp->Prop),Inv X pins σ H s->RelV x v->r x H Q->
  wpAny (model X.prog X.w) X.A (truthy v) (TP X pins σ Q) X.xe s
noncomputable def tOp (r:R2)(ta tb:TE):TE:=λσ H Q=>ta σ H λx H1=>tb σ H1 λy H2=>r x y H2 Q
noncomputable def tUn (r:V->Hp->VK->Prop)(ta:TE):TE:=λσ H Q=>ta σ H λx H1=>r x H1 Q
noncomputable def rI (C:Int->Int->Prop)(g:Int->Int->V):R2:=λx y H Q=>∃i j,x=.int i/\y=.int j/\C i j/\Q (g i j) H
noncomputable def rI0 (g:Int->Int->V):R2:=λx y H Q=>∃i j,x=.int i/\y=.int j/\Q (g i j) H
noncomputable def rU (g:Int->V):V->Hp->VK->Prop:=λx H Q=>∃i,x=.int i/\Q (g i) H
section
variable {X:Cx}{a b c:Expr}{ta tb tc:TE}{pos:Pos}
theorem binT (ha:PE X a ta)(hb:PE X b tb){pins:List (Addr×Obj)}{s:Shared}{σ:St}{H:Hp}{R:V->V->Hp->Prop}(I:Inv X pins σ H s)
  (h:ta σ H λx H1=>tb σ H1 λy H2=>R x y H2) {Q:Value->Shared->Prop} {f:Value->Value->Sem Value}
  (hf:∀v u s2 x y H2,Inv X pins σ H2 s2->RelV x v->RelV y u->R x y H2->wpAny (model X.prog X.w) X.A (f v u) Q X.xe s2) :
  wpAny (model X.prog X.w) X.A (eval a X.env) (λv s₁=>wpAny (model X.prog X.w) X.A (eval b X.env) (λu s₂=>wpAny (model X.prog X.w) X.A (f v u) Q X.xe s₂) X.xe s₁) X.xe s:=by
 refine thn (ha pins s σ H _ I h) λv s1 q23q=>?_;obtain⟨x,H1,I1,r1,q1⟩:=q23q;refine thn (hb pins s1 σ H1 _ I1 q1) λu s2 q24q=>?_;obtain⟨y,H2,I2,r2,q2⟩:=q24q;exact hf v u s2 x y H2 I2 r1 r2 q2
theorem ztI {op:Operator}{r:R2}(ho:OpR X (binaryOp op) r)(ha:PE X a ta)(hb:PE X b tb):PE X (.BinOp a op b pos) (tOp r ta tb):=by
 intro pins s σ H Q I h;exact wpAny_BinOp (binT ha hb I h λv u s2 x y H2 I2 rx ry q=>ho pins s2 σ H2 x y v u Q I2 rx ry q)
theorem ztJ {op:UnaryOp}{r:V->Hp->VK->Prop}(ho:UnR X (unaryOp op) r)(ha:PE X a ta):PE X (.UnaryOp op a pos) (tUn r ta):=by
 intro pins s σ H Q I h;exact UnaryOp_ (thn (ha pins s σ H _ I h) λv s1 q25q=>by obtain⟨x,H1,I1,r1,q1⟩:=q25q;exact ho pins s1 σ H1 x v Q I1 r1 q1)
theorem opI {f:Value->Value->Sem Value}{C:Int->Int->Prop}{g:Int->Int->Int}
  (rule:∀(i j:Int) (t u:Tok) (s:Shared) (Q:Value->Shared->Prop) (E:Value->Shared->Prop),C i j->Q (.int (g i j) s.toks) { s with toks:=s.toks+1 }->wpAny (model X.prog X.w) X.A (f (.int i t) (.int j u)) Q E s) :
  OpR X f (rI C λi j=>.int (g i j)):=by
 intro pins s σ H x y v u Q I rx ry h;obtain⟨i,j,rfl,rfl,hc,q⟩:=h;obtain⟨t,rfl⟩:=rx;obtain⟨t',rfl⟩:=ry;exact rule i j t t' s _ _ hc ⟨.int (g i j),H,I.tok _,⟨_,rfl⟩,q⟩
theorem opI0 {f:Value->Value->Sem Value}{g:Int->Int->Int}
  (rule:∀(i j:Int) (t u:Tok) (s:Shared) (Q:Value->Shared->Prop) (E:Value->Shared->Prop),Q (.int (g i j) s.toks) { s with toks:=s.toks+1 }->wpAny (model X.prog X.w) X.A (f (.int i t) (.int j u)) Q E s) :
  OpR X f (rI0 λi j=>.int (g i j)):=by
 intro pins s σ H x y v u Q I rx ry h;obtain⟨i,j,rfl,rfl,q⟩:=h;obtain⟨t,rfl⟩:=rx;obtain⟨t',rfl⟩:=ry;exact rule i j t t' s _ _ ⟨.int (g i j),H,I.tok _,⟨_,rfl⟩,q⟩
theorem opB0 {f:Value->Value->Sem Value}{g:Int->Int->Bool}
  (rule:∀(i j:Int) (t u:Tok) (s:Shared) (Q:Value->Shared->Prop) (E:Value->Shared->Prop),Q (.bool (g i j)) s->wpAny (model X.prog X.w) X.A (f (.int i t) (.int j u)) Q E s) :
  OpR X f (rI0 λi j=>.bl (g i j)):=by
 intro pins s σ H x y v u Q I rx ry h;obtain⟨i,j,rfl,rfl,q⟩:=h;obtain⟨t,rfl⟩:=rx;obtain⟨t',rfl⟩:=ry;exact rule i j t t' s _ _ ⟨.bl (g i j),H,I,rfl,q⟩
noncomputable def CDiv (i j:Int):Prop:=0<j/\j<1073741824
noncomputable def CPow (i j:Int):Prop:=0<=j/\j<=1000000/\i.natAbs<2 ^ 64
noncomputable def CMul (i j:Int):Prop:=(-(2 ^ 64)<i/\i<2 ^ 64)\/(-(2 ^ 64)<j/\j<2 ^ 64)
theorem CMul.ok {i j:Int}(h:CMul i j):IntMulOk i j:=by
 rcases h with ⟨h1,h2⟩ | ⟨h1,h2⟩
 ·exact .of_left (intBits_le_64 h1 h2)
 ·exact .of_right (intBits_le_64 h1 h2)
theorem zrN:OpR X (binaryOp .Add) (rI0 λi j=>.int (i+j)):=opI0 λ_ _ _ _ _ _ _ q=>add_int q
theorem zrO:OpR X (binaryOp .Sub) (rI0 λi j=>.int (i-j)):=opI0 λ_ _ _ _ _ _ _ q=>sub_int q
theorem zrP:OpR X (binaryOp .Mult) (rI CMul λi j=>.int (i*j)):=opI λ_ _ _ _ _ _ _ hc q=>mul_int q hc.ok
theorem zpY:OpR X (binaryOp .FloorDiv) (rI CDiv λi j=>.int (i / j)):=opI λi j _ _ _ _ _ hc q=>by
 have h1:(0:Int)<j:=hc.1;have h2:j<1073741824:=hc.2;exact floordiv_int (by lia) (by rw[Int.fdiv_eq_ediv_of_nonneg i (by lia)];exact q) (.inl (PyProof.noPylong_small (by lia)))
theorem zrQ:OpR X (binaryOp .Mod) (rI (λ_ j=>0<j) λi j=>.int (i % j)):=opI λi j _ _ _ _ _ hc q=>by
 have h1:(0:Int)<j:=hc;exact mod_int' (by lia) (by rw[Int.fmod_eq_emod_of_nonneg i (by lia)];exact q)
theorem zrR:OpR X (binaryOp .Pow) (rI CPow λi j=>.int (i ^ j.toNat)):=opI λ_ _ _ _ _ _ _ hc q=>pow_int_small hc.1 hc.2.1 hc.2.2 q
theorem unI {f:Value->Sem Value}{g:Int->Int}
  (rule:∀(i:Int) (t:Tok) (s:Shared) (Q:Value->Shared->Prop) (E:Value->Shared->Prop),Q (.int (g i) s.toks) { s with toks:=s.toks+1 }->wpAny (model X.prog X.w) X.A (f (.int i t)) Q E s) :
  UnR X f (rU λi=>.int (g i)):=by
 intro pins s σ H x v Q I rx h;obtain⟨i,rfl,q⟩:=h;obtain⟨t,rfl⟩:=rx;exact rule i t s _ _ ⟨.int (g i),H,I.tok _,⟨_,rfl⟩,q⟩
theorem zrS:UnR X (unaryOp .USub) (rU λi=>.int (-i)):=unI λ_ _ _ _ _ q=>neg_int q
end
section
variable {X:Cx}{a b c:Expr}{ta tb tc:TE}{pos:Pos}
theorem zpm {pins:List (Addr×Obj)}{σ:St}{H:Hp}{s:Shared}{Q:VK}{k k':Bool}(I:Inv X pins σ H s)(q:Q (.bl k) H)(e:k=k'):EP X pins σ Q (.bool k') s:=by
 subst e;exact⟨.bl k,H,I,rfl,q⟩
theorem ztK:OpR X (compareOp .Lt) (rI0 λi j=>.bl (decide (i<j))):=opB0 λ_ _ _ _ _ _ _ q=>lt_int q
theorem ztL:OpR X (compareOp .Gt) (rI0 λi j=>.bl (decide (j<i))):=opB0 λ_ _ _ _ _ _ _ q=>gt_int q
theorem zrT:OpR X (compareOp .Is) (λx y H Q=>y=.non/\Q (.bl (decide (x=.non))) H):=by
 intro pins s σ H x y v u Q I rx ry h;obtain⟨rfl,q⟩:=h;cases ry;refine is_none_gen (zpm I q ?_);cases x<;>first
  | (cases rx;rfl)
  | (obtain⟨t,rfl⟩:=rx;rfl)
theorem zpZ:OpR X (compareOp .IsNot) (λx y H Q=>y=.non/\Q (.bl (!decide (x=.non))) H):=by
 intro pins s σ H x y v u Q I rx ry h;obtain⟨rfl,q⟩:=h;cases ry;refine isnot_none_gen (zpm I q ?_);cases x<;>first
  | (cases rx;rfl)
  | (obtain⟨t,rfl⟩:=rx;rfl)
noncomputable def isObj:HO->Bool
 | .lst _=>true
 | .ins _ _ _=>true
 | _=>false
theorem zcX (b:Expr){op:CmpOp}(h:autoParam (op≠.In) aU1)(h2:autoParam (op≠.NotIn) aU1):behindInMarks op b=false:=by
 have e1:(op == CmpOp.In)=false:=by cases op<;>first | rfl | exact absurd rfl h
 have e2:(op == CmpOp.NotIn)=false:=by cases op<;>first | rfl | exact absurd rfl h2
 cases b<;>simp[behindInMarks,e1,e2]
theorem zqa {op:CmpOp}{r:R2}(ho:OpR X (compareOp op) r)(ha:PE X a ta)(hb:PE X b tb)(hm:behindInMarks op b=false):PE X (.Compare a [op] [b] pos) (tOp r ta tb):=by
 intro pins s σ H Q I h;exact wpAny_Compare1 (binT ha hb I h λv u s2 x y H2 I2 rx ry q=>ho pins s2 σ H2 x y v u Q I2 rx ry q) hm
noncomputable def ztM (t:TE):TT:=λσ H Q=>t σ H λx H'=>∃k,x=.bl k/\Q k H'
theorem zqb {op:CmpOp}{r:R2}(ho:OpR X (compareOp op) r)(ha:PE X a ta)(hb:PE X b tb)(hm:behindInMarks op b=false):PT X (.Compare a [op] [b] pos) (ztM (tOp r ta tb)):=by
 intro pins s σ H Q I h;refine wpAny_isTrue_Compare1 (thn (ha pins s σ H _ I h) λv s1 ⟨x,H1,I1,r1,q1⟩=>thn (hb pins s1 σ H1 _ I1 q1) λu s2 ⟨y,H2,I2,r2,q2⟩=>
  thn (ho pins s2 σ H2 x y v u _ I2 r1 r2 q2) λc s3 ⟨z,H3,I3,r3,k,e,q3⟩=>?_) hm
 subst e;cases r3;exact wpAny_truthy_bool ⟨H3,I3,q3⟩
noncomputable def TruV (K:Xa)(x:V)(H:Hp)(k:Bool):Prop:=
 match x with
 | .non=>k=false
 | .bl b=>k=b
 | .int i=>k=(i != 0)
 | .str y=>y.length<=sizeLine/\k=((y.length:Int) != 0)
 | .byt y=>y.size<=sizeLine/\k=((y.size:Int) != 0)
 | .ref p=>(∃xs,SqL K H p xs/\k = !xs.isEmpty)\/(∃xs,SqT K H p xs/\k = !xs.isEmpty)\/∃kvs,H p=some (.dK kvs)/\k = !kvs.isEmpty
 | _=>False
theorem zkG {κ:Type}{kvs:List (κ×V)}{vs:List (κ×Value)}(r:KV kvs vs):(!vs.isEmpty) = !kvs.isEmpty:=by
 cases r<;>rfl
theorem zgp {xs:List V}{its:List Value}(r:Vals xs its):(!its.toArray.isEmpty) = !xs.isEmpty:=by
 cases r<;>simp
theorem zgq:(sizeLine:Nat)<2 ^ 63:=by rw[sizeLine_eq];decide
theorem zrU:TruR X (λx H Q=>∃k,TruV X.K x H k/\Q k H):=by
 intro pins s σ H x v Q I rx h;obtain⟨k,e,q⟩:=h;have hl:=zgq;have hs:sizeLine=16777216:=sizeLine_eq;cases x with
 | non=>
  cases rx;have e':k=false:=e;subst e';exact truthy_none ⟨H,I,q⟩
 | bl b=>
  cases rx;have e':k=b:=e;subst e';exact wpAny_truthy_bool ⟨H,I,q⟩
 | int i=>
  obtain⟨t,rfl⟩:=rx;have e':k=(i != 0):=e;subst e';exact PySem.P.truthy_int ⟨H,I,q⟩
 | str y=>
  obtain⟨t,rfl⟩:=rx;obtain⟨hy,e'⟩:y.length<=sizeLine/\k=((y.length:Int) != 0):=e;subst e';exact PySem.P.truthy_str (by lia) ⟨H,I.tok _,q⟩
 | byt y=>
  obtain⟨t,rfl⟩:=rx;obtain⟨hy,e'⟩:y.size<=sizeLine/\k=((y.size:Int) != 0):=e;subst e';exact PySem.W.truthy_bytes (by lia) ⟨H,I.tok _,q⟩
 | ref p=>
  cases rx;have e':(∃xs,SqL X.K H p xs/\k = !xs.isEmpty)\/(∃xs,SqT X.K H p xs/\k = !xs.isEmpty)\/∃kvs,H p=some (.dK kvs)/\k = !kvs.isEmpty:=e;rcases e' with ⟨xs,hx,e'⟩ | ⟨xs,hx,e'⟩ | ⟨kvs,hx,e'⟩
  ·subst e';obtain⟨its,r,pl,hz⟩:=I.list hx;have hlen:=r.length;exact wpAny_truthy_list pl.isList (by simp only[Xj];lia) ⟨H,I.tok _,by rw[zgp r];exact q⟩
  ·subst e';obtain⟨its,r,pl,hz⟩:=I.tuple hx;have hlen:=r.length;exact truthy_tuple pl (by simp only[Xj];lia) ⟨H,I.tok _,by rw[zgp r];exact q⟩
  ·subst e';obtain⟨hz,hS,vs,r,m⟩:kvs.length<=sizeLine/\(p == sysModules)=false/\∃vs,KV kvs vs/\s.heap.DictOf (zaK X.prog X.w) p vs:=I.hok p _ hx;have hlen:kvs.length=vs.length:=Paired.length r;exact wpAny_truthy_dict hS m (by lia) ⟨H,I.tok _,by rw[zkG r];exact q⟩
 | _=>exact(show False from e).elim
theorem znU (ha:PE X a ta)(he:∀whole,isTrue a X.env whole=(do let v <- whole;standAt a.pos;holding [v] (truthy v))) :
  PT X a (λσ H Q=>ta σ H λx H'=>∃k,TruV X.K x H' k/\Q k H'):=by
 intro pins s σ H Q I h;exact isTrue_plain (thn (ha pins s σ H _ I h) λv s1 q29q=>by obtain⟨x,H1,I1,r1,q1⟩:=q29q;exact zrU pins s1 σ H1 x v Q I1 r1 q1) (he _)
theorem vals1 {x:V}{us:List Value}(r:Vals [x] us):∃u,us=[u]/\RelV x u:=by
 cases r with
 | cons r1 r2=>cases r2;exact⟨_,rfl,r1⟩
theorem vals2 {x y:V}{us:List Value}(r:Vals [x,y] us):∃u w',us=[u,w']/\RelV x u/\RelV y w':=by
 cases r with
 | cons r1 r2=>
  cases r2 with
  | cons r3 r4=>cases r4;exact⟨_,_,rfl,r1,r3⟩
theorem zlI (hc:X.calm=true):zdh X (.builtin "max") (λxs H Q=>∃i j,xs=[.int i,.int j]/\Q (.int (if j > i then j else i)) H):=by
 intro pins s σ H xs us Q I r h;obtain⟨i,j,rfl,q⟩:=h;obtain⟨u,w',rfl,⟨t,rfl⟩,⟨t',rfl⟩⟩:=vals2 r;refine max_two_ints (I.ok.hd hc) λh' tk k=>⟨_,H,I.kept k,?_,q⟩;by_cases hj:j > i
 ·rw[if_pos hj,if_pos hj];exact⟨_,rfl⟩
 ·rw[if_neg hj,if_neg hj];exact⟨_,rfl⟩
noncomputable def LenV (K:Xa)(x:V)(H:Hp)(n:Nat):Prop:=
 match x with
 | .str y=>y.length<=sizeLine/\n=y.length
 | .byt y=>y.size<=sizeLine/\n=y.size
 | .ref p=>(∃xs,SqL K H p xs/\n=xs.length)\/∃xs,SqT K H p xs/\n=xs.length
 | _=>False
theorem znV:zdh X (.builtin "len") (λxs H Q=>∃x n,xs=[x]/\LenV X.K x H n/\Q (.int n) H):=by
 intro pins s σ H xs us Q I r h;obtain⟨x,n,rfl,e,q⟩:=h;obtain⟨u,rfl,rx⟩:=vals1 r;have hl:=zgq;have hs:sizeLine=16777216:=sizeLine_eq;cases x with
 | str y=>
  obtain⟨t,rfl⟩:=rx;obtain⟨hy,e'⟩:y.length<=sizeLine/\n=y.length:=e;subst e';exact len_str (by lia) ⟨.int _,H,I.tok _,⟨_,rfl⟩,q⟩
 | byt y=>
  obtain⟨t,rfl⟩:=rx;obtain⟨hy,e'⟩:y.size<=sizeLine/\n=y.size:=e;subst e';exact PySem.W.len_bytes (by lia) ⟨.int _,H,I.tok _,⟨_,rfl⟩,q⟩
 | ref p=>
  cases rx;have e':(∃xs,SqL X.K H p xs/\n=xs.length)\/∃xs,SqT X.K H p xs/\n=xs.length:=e;rcases e' with ⟨xs,hx,e'⟩ | ⟨xs,hx,e'⟩
  ·subst e';obtain⟨its,r',pl,hz⟩:=I.list hx;have hlen:=r'.length;exact Calls.call_len_list pl.isList (by simp only[Xj];lia) ⟨.int xs.length,H,I.tok _,⟨_,by simp only[Xj];rw[hlen]⟩,q⟩
  ·subst e';obtain⟨its,r',pl,hz⟩:=I.tuple hx;have hlen:=r'.length;exact len_tuple pl (by simp only[Xj];lia) ⟨.int xs.length,H,I.tok _,⟨_,by simp only[Xj];rw[hlen]⟩,q⟩
 | _=>exact(show False from e).elim
end
structure ObjM (h:Heap)(x dx C:Addr)(mA:Str->Option Value):Prop where
 obj:h.get? x=some (YG C dx)
 ns:h.Ns1 dx mA
 ne:dx≠x
theorem zlJ {h:Heap}{dx:Addr}{mA:Str->Option Value}(n:h.Ns1 dx mA):∃od,h.get? dx=some od/\∀name,PySem.W.lookIn name od=some (mA name):=by
 obtain⟨o,es,ep,ho,hd,hk,_,hm⟩:=n;refine⟨o,ho,λname=>?_⟩;have e:=hm name;unfold nsFind findBy at e;rw[<- Array.find?_toList]at e;unfold PySem.W.lookIn;rw[hd];dsimp only;split
 ·rename_i y q
  rw[q]at e;exact congrArg some e
 ·rename_i q
  rw[q]at e;have a:es.toList.any (·.refKey)=false:=by
   rw[List.any_eq_false];intro y hy;obtain⟨z,t,hkey⟩:=hk y (Array.mem_toList_iff.mp hy);simp[DictEntry.refKey,hkey]
  have a':¬ es.toList.any (·.refKey)=true:=by rw[a];exact Xo
  rw[if_neg a'];exact congrArg some e
theorem ObjM.look {h:Heap}{x dx C:Addr}{mA:Str->Option Value}(I:ObjM h x dx C mA):∃od,PySem.W.InstAt h x (YG C dx) C (some od)/\∀name,PySem.W.lookIn name od=some (mA name):=
 let ⟨od,ho,hl⟩:=zlJ I.ns
 ⟨od,⟨I.obj,rfl,rfl,ho⟩,hl⟩
section
variable {prog:Program}{w:World}{A:Around}{E:Value->Shared->Prop}{s:Shared}{K:Xa}{x dx C f:Addr}{mA:Str->Option Value}{name:Str}{v:Value}
theorem get_map {expr:Bool}{Q:Value->Shared->Prop}(X:K.In s.heap)(I:ObjM s.heap x dx C mA)(hg:PySem.W.plainGet K C name=true)(hh:PySem.W.hasDictIn K C=true)
  (ha:Xt K (.ref C) name=some none) (hv:mA name=some v) (hv':PySem.W.handedIn v=true) (h:Q v { s with toks:=s.toks+1 }) :
  wpAny (model prog w) A (getAttr (.ref x) name expr) Q E s:=by
 obtain⟨od,J,hl⟩:=I.look;exact PySem.W.get_value X J (PySem.W.plainGet_of hg).1 (PySem.W.findObj_own hh ha rfl (by rw[hl,hv])) hv' h
theorem znW {pl:Sem Bool}{Q:Value×List Value->Shared->Prop}(X:K.In s.heap)(I:ObjM s.heap x dx C mA)(hg:PySem.W.plainGet K C name=true)
  (hf:Xt K (.ref C) name=some (some (.ref f))) (ht:PySem.W.isFn K (.ref f)=true) (hv:mA name=none) (h:Q (.ref f,[.ref x]) s) :
  wpAny (model prog w) A (getMethod (.ref x) name pl) Q E s:=by
 obtain⟨od,J,hl⟩:=I.look;exact PySem.W.method_fn X J (PySem.W.plainGet_of hg).1 (PySem.W.plainGet_of hg).2 hf (beq_iff_eq.mp ht) (by show(PySem.W.lookIn name od).map (·.isSome)=some false;rw[hl,hv];rfl) h
theorem zqc {ns:List Str}{Q:Unit->Shared->Prop}(X:K.In s.heap)(I:ObjM s.heap x dx C mA)
  (hs:Xt K (.ref C) "__setattr__" = some (some (.builtin "object.__setattr__"))) (hp:PySem.W.plainOver K C=true) (ht:PySem.W.takerIn K C name=some none) (hh:PySem.W.hasDictIn K C=true)
  (hw:PySem.Within mA ns) (hsz:ns.length<=sizeLine)
  (h:∀h',ObjM h' x dx C (λy=>if y=name then some v else mA y)->Yf dx s.heap h'->Q () { s with heap:=h',toks:=s.toks+2 }) :
  wpAny (model prog w) A (setAttr (.ref x) name v) Q E s:=by
 obtain⟨od,J,hl⟩:=I.look;refine PySem.W.set_plain X J hs (PySem.W.osa_open (s:={ s with toks:=s.toks+1 }) (r:=none) X J hp ht λb=>?_);obtain⟨cd,hc,hd'⟩:=PySem.W.any_some hh;have hx:s.heap.get? x=some ⟨.ref C,some dx,.plain,#[]⟩:=I.obj;refine wpAny_bind (wpAny_pure (wpAny_bind (wpAny_bind (wpAny_loadPart hx (wpAny_bind (PySem.W.Looks.here (s:={ s with toks:=s.toks+1 }) (PySem.W.looks_clsIn X hc) ?_))))));rw[hd'];refine wpAny_pure (a:=some dx) (wpAny_bind (wpAny_pure (wpAny_bind ?_)));refine wpAny_nsSet1 (s:={ s with toks:=s.toks+1 }) I.ns λh' hn2 hs2=>?_;obtain⟨oD,esD,epD,hoD,hdD,hcD⟩:=hn2.count (PySem.Within.cons name v hw);refine wpAny_bind (wpAny_lookBehind hoD (by rw[hdD];exact pastItsLine_dict (XO hcD (by rw[XG];lia))) ?_);exact wpAny_pure (h _ ⟨(hs2.2 _ (Ne.symm I.ne)).trans I.obj,hn2,I.ne⟩ hs2)
theorem znX {R:Result->Shared->Prop}{vs:List Value}{kw:List (Str×Value)}(X:K.In s.heap)(hm:PySem.W.makesIn K C=true)
  (hi:Xt K (.ref C) "__init__" = some (some (.ref f))) (hf:PySem.W.typeIn K (.ref f)=some (.type "function"))
  (h:codeAny (model prog w) (A.under (.builtin "type.__call__" ⟨.ref C::vs,kw⟩)) (.call (.ref f) ⟨.ref (s.heap.objs.size+1)::vs,kw⟩) (PySem.W.InitBack (s.heap.objs.size+1) R)
   {s with heap:=(s.heap.push Yv).push (YG C s.heap.objs.size) }) :
  codeAny (model prog w) A (.call (.ref C) ⟨vs,kw⟩) R s:=by
 obtain⟨hh,g,d,t,os⟩:=s;exact PySem.W.make_core (PySem.W.makes_of X hm) (PySem.W.looks_findIn X hi) (λself=>PySem.W.bind_fn X self hf) (.inl rfl) h
end
noncomputable def putF (f:Str)(v:V):List (Str×V)->List (Str×V)
 | []=>[(f,v)]
 | (g,x)::r=>if g=f then(g,v)::r else(g,x)::putF f v r
theorem zfw (f g:Str)(v:V):∀fs:List (Str×V),(putF f v fs).lookup g=if g=f then some v else fs.lookup g
 | []=>by
  show List.lookup g [(f,v)]=_;by_cases h:g=f
  ·have hb:(g == f)=true:=beq_iff_eq.mpr h;simp only[List.lookup,hb,if_pos h]
  ·have hb:(g == f)=false:=beq_eq_false_iff_ne.mpr h;simp only[List.lookup,hb,if_neg h]
 | (k,x)::r=>by
  have ih:=zfw f g v r;rw[show putF f v ((k,x)::r)=(if k=f then(k,v)::r else(k,x)::putF f v r) from rfl]
  by_cases hk:k=f
  ·rw[if_pos hk];by_cases h:g=k
   ·have hb:(g == k)=true:=beq_iff_eq.mpr h;simp only[List.lookup,hb,if_pos (h.trans hk)]
   ·have hb:(g == k)=false:=beq_eq_false_iff_ne.mpr h;simp only[List.lookup,hb,if_neg (λe:g=f=>h (e.trans hk.symm))]
  ·rw[if_neg hk];by_cases h:g=k
   ·have hb:(g == k)=true:=beq_iff_eq.mpr h;simp only[List.lookup,hb,if_neg (λe:g=f=>hk (h.symm.trans e))]
   ·have hb:(g == k)=false:=beq_eq_false_iff_ne.mpr h;simp only[List.lookup,hb];exact ih
theorem zfx (f:Str)(v:V):∀fs:List (Str×V),f∈(putF f v fs).map (·.1)/\∀g,g∈fs.map (·.1)->g∈(putF f v fs).map (·.1)
 | []=>⟨by simp[putF],λg h=>by simp at h⟩
 | (k,x)::r=>by
  obtain⟨i1,i2⟩:=zfx f v r;rw[show putF f v ((k,x)::r)=(if k=f then(k,v)::r else(k,x)::putF f v r) from rfl]
  by_cases hk:k=f
  ·rw[if_pos hk];subst hk;exact⟨by simp,λg h=>by simpa using h⟩
  ·rw[if_neg hk];refine⟨?_,λg h=>?_⟩
   ·rw[Xy];exact Xn _ i1
   ·rw[Xy]at h ⊢;rcases Xu.mp h with e | e
    ·exact Xu.mpr (.inl e)
    ·exact Xn _ (i2 g e)
theorem zfy (f:Str)(v:V):∀fs:List (Str×V),(putF f v fs).length<=fs.length+1
 | []=>by simp[putF]
 | (k,x)::r=>by
  have ih:=zfy f v r;rw[show putF f v ((k,x)::r)=(if k=f then(k,v)::r else(k,x)::putF f v r) from rfl]
  by_cases hk:k=f
  ·rw[if_pos hk,XG,XG];lia
  ·rw[if_neg hk,XG,XG];lia
theorem RelO.some_of {v:V}{o:Option Value}(r:RelO (some v) o):∃u,o=some u/\RelV v u:=by
 cases o with
 | none=>exact(show False from r).elim
 | some u=>exact⟨u,rfl,r⟩
theorem RelO.none_of {o:Option Value}(r:RelO none o):o=none:=by
 cases o with
 | none=>rfl
 | some u=>exact(show False from r).elim
theorem zlK {v:V}{u:Value}(r:RelV v u):PySem.W.handedIn u=true:=by
 cases v with
 | non=>cases (show u=Value.none from r);rfl
 | bl b=>cases (show u=Value.bool b from r);rfl
 | int i=>obtain⟨t,e⟩:=(show ∃t,u=Value.int i t from r);cases e;rfl
 | str x=>obtain⟨t,e⟩:=(show ∃t,u=Value.str x t from r);cases e;rfl
 | byt b=>obtain⟨t,e⟩:=(show ∃t,u=Value.bytes b t from r);cases e;rfl
 | flt b=>obtain⟨t,e⟩:=(show ∃t,u=Value.float b t from r);cases e;rfl
 | ref a=>cases (show u=Value.ref a from r);rfl
 | ty n=>cases (show u=Value.type n from r);rfl
section
variable {P:Program}{w:World}{H H':Hp}{h h':Heap}{a C dx:Addr}{fs fs':List (Str×V)}
theorem ziW (hok:HOk P w H h)(e:H a=some (.ins C dx fs)):∃mA,ObjM h a dx C mA/\(∀f,RelO (fs.lookup f) (mA f))/\PySem.Within mA (fs.map (·.1))/\fs.length<=1000/\H dx=some (.own a):=by
 obtain⟨d,z,ne,ob,mA,n,r,q⟩:=(show zbt P w H h a (.ins C dx fs) from hok a _ e);exact⟨mA,⟨ob,n,ne⟩,r,q,z,d⟩
end
structure Cls (K:Xa)(C:Addr):Prop where
 pg:PySem.W.plainGet K C Str.empty=true
 hd:PySem.W.hasDictIn K C=true
 po:PySem.W.plainOver K C=true
 sa:Xt K (.ref C) "__setattr__" = some (some (.builtin "object.__setattr__"))
theorem Cls.get {K:Xa}{C:Addr}(c:Cls K C)(f:Str):PySem.W.plainGet K C f=true:=c.pg
noncomputable def zbX (K:Xa)(C:Addr)(f:Str):Prop:=Xt K (.ref C) f=some none
theorem zbX.taker {K:Xa}{C:Addr}{f:Str}(n:zbX K C f):PySem.W.takerIn K C f=some none:=by
 unfold PySem.W.takerIn;rw[show Xt K (.ref C) f=some none from n];rfl
structure Meth (K:Xa)(C:Addr)(m:Str)(f:Addr):Prop where
 at_:Xt K (.ref C) m=some (some (.ref f))
 fn:PySem.W.isFn K (.ref f)=true
 kp:YJ K (.ref f)=true
section
variable {X:Cx}{pins:List (Addr×Obj)}{σ:St}{H:Hp}{s:Shared}{a C dx:Addr}{fs:List (Str×V)}{f:Str}{v:V}{A:Around}{E:Value->Shared->Prop}
theorem zkH {b:Bool}{Q:Value->Shared->Prop}(I:Inv X pins σ H s)(e:H a=some (.ins C dx fs))(c:Cls X.K C)(n:zbX X.K C f)(l:fs.lookup f=some v)
  (h:∀u s',Inv X pins σ H s'->RelV v u->Q u s'):wpAny (model X.prog X.w) A (getAttr (.ref a) f b) Q E s:=by
 obtain⟨mA,O,r,_,_,_⟩:=ziW I.hok e;obtain⟨u,hu,ru⟩:=RelO.some_of (v:=v) (o:=mA f) (by rw[<- l];exact r f);exact get_map I.kIn O (c.get f) c.hd n hu (zlK ru) (h u _ (I.tok _) ru)
theorem zgr {m:Str}{g:Addr}{pl:Sem Bool}{Q:Value×List Value->Shared->Prop}(I:Inv X pins σ H s)(e:H a=some (.ins C dx fs))(c:Cls X.K C)(k:Meth X.K C m g)(l:fs.lookup m=none)
  (h:Q (.ref g,[.ref a]) s):wpAny (model X.prog X.w) A (getMethod (.ref a) m pl) Q E s:=by
 obtain⟨mA,O,r,_,_,_⟩:=ziW I.hok e;have hn:mA m=none:=RelO.none_of (by rw[<- l];exact r m);exact znW I.kIn O (c.get m) k.at_ k.fn hn h
theorem zkI {y:V}{u:Value}{Q:Unit->Shared->Prop}(I:Inv X pins σ H s)(e:H a=some (.ins C dx fs))(c:Cls X.K C)(n:zbX X.K C f)(hl:fs.length<1000)(ry:RelV y u)
  (h:∀s',Inv X pins σ (upd H a (.ins C dx (putF f y fs))) s'->Q () s'):wpAny (model X.prog X.w) A (setAttr (.ref a) f u) Q E s:=by
 obtain⟨mA,O,r,wi,_,ho⟩:=ziW I.hok e;have hz:(fs.map (·.1)).length<=sizeLine:=by rw[Xb,sizeLine_eq];lia
 refine zqc I.kIn O c.sa c.po n.taker c.hd wi hz λh' O' sb=>h _ ?_;have hd:∃o,h'.get? dx=some o:=let ⟨o,_,_,e',_⟩:=O'.ns;⟨o,e'⟩;refine I.write (x:=a) (e:=dx) (by rw[e];exact True.intro) (.inr ho) (λb q hb z=>(sb.2 b hb).trans z) hd ?_;refine⟨by rw[zah O.ne];exact ho,?_,O.ne,O'.obj,_,O'.ns,λg=>?_,λg hg=>?_⟩
 ·have:=zfy f y fs;lia
 ·show RelO ((putF f y fs).lookup g) (if g=f then some u else mA g)
  rw[zfw];by_cases q:g=f
  ·rw[if_pos q,if_pos q];exact ry
  ·rw[if_neg q,if_neg q];exact r g
 ·by_cases q:g=f
  ·rw[q];exact(zfx f y fs).1
  ·refine(zfx f y fs).2 g (wi g λz=>hg ?_);show(if g=f then some u else mA g)=none
   rw[if_neg q];exact z
theorem Inv.made (I:Inv X pins σ H s):Inv X pins σ (upd (upd H s.heap.objs.size (.own (s.heap.objs.size+1))) (s.heap.objs.size+1) (.ins C s.heap.objs.size []))
  {s with heap:=(s.heap.push Yv).push (YG C s.heap.objs.size) }:=by
 have e1:(s.heap.push Yv).get? s.heap.objs.size=some Yv:=Xv s.heap rfl;have e2:((s.heap.push Yv).push (YG C s.heap.objs.size)).get? (s.heap.objs.size+1)=some (YG C s.heap.objs.size):=by
  have:=Xv (s.heap.push Yv) (o:=YG C s.heap.objs.size) rfl
  rwa [Yw]at this
 have e3:(s.heap.push Yv).Ns s.heap.objs.size (λ_=>none):=⟨Yv,#[],_,e1,rfl,(λe he=>absurd he (by simp)),λ_=>rfl⟩;have I1:=I.laid (a:=s.heap.objs.size) (o:=.own (s.heap.objs.size+1)) (h':=s.heap.push Yv) (t':=s.toks) (λb u q=>Xe _ q) (Xg _) ⟨_,e1⟩;refine I1.laid (a:=s.heap.objs.size+1) (o:=.ins C s.heap.objs.size []) (t':=s.toks) (λb u q=>Xe _ q) (Nat.le_of_eq (Yw _ _)) ?_;have ne:s.heap.objs.size≠s.heap.objs.size+1:=Xx (XQ _);refine⟨by rw[zah ne,zaj],Yh _,ne,e2,λ_=>none,(Heap.Ns1.of_empty e3).at λo q=>Xe _ q,λ_=>True.intro,λy hy=>absurd rfl hy⟩
theorem zqd {prog:Program}{w:World}{env:Env}{e:Expr}{f:Str}{pos:Pos}{s:Shared}{Q:Value->Shared->Prop}(hb:attributeBase e f env (eval e env)=eval e env)
  (h:wpAny (model prog w) A (eval e env) (λo s₁=>wpAny (model prog w) A (getAttr o f true) Q E s₁) E s):wpAny (model prog w) A (eval (.Attribute e f pos) env) Q E s:=
 Attribute_any_ h (by rw[arm_eval_Attribute,hb])
end
noncomputable def tFld (K:Xa)(ta:TE)(f:Str):TE:=λσ H Q=>ta σ H λx H1=>∃a C dx fs v,x=.ref a/\H1 a=some (.ins C dx fs)/\Cls K C/\zbX K C f/\fs.lookup f=some v/\Q v H1
noncomputable def sFld (K:Xa)(ta tv:TE)(f:Str):TS:=λD σ H=>tv σ H λy H1=>ta σ H1 λx H2=>∃a C dx fs,x=.ref a/\H2 a=some (.ins C dx fs)/\Cls K C/\zbX K C f/\fs.length<1000/\
 D.nx σ (upd H2 a (.ins C dx (putF f y fs)))
section
variable {X:Cx}{o e value:Expr}{f:Str}{pos pos' tpos:Pos}{ta tv:TE}
theorem zpn (he:PE X e ta)(hb:attributeBase e f X.env (eval e X.env)=eval e X.env):PE X (.Attribute e f pos) (tFld X.K ta f):=by
 intro pins s σ H Q I h;refine zqd hb (thn (he pins s σ H _ I h) λu s1 q30q=>?_);obtain⟨x,H1,I1,rx,a,C,dx,fs,v,ex,ea,c,n,l,q⟩:=q30q;subst ex;obtain rfl:u=Value.ref a:=rx;exact zkH I1 ea c n l λu' s2 I2 ru=>⟨v,H1,I2,ru,q⟩
theorem zjz (ha:PE X o ta)(hv:PE X value tv)(hs:swapsWith value (some (.Attribute o f pos')) pos.line X.env=pure false):PS X (.Assign [.Attribute o f pos'] value pos) (sFld X.K ta tv f):=by
 intro pins s σ H D I h;refine plainObj_wpAny_Assign_Attribute (thn (hv pins s σ H _ I h) λu s1 ⟨y,H1,I1,ry,q⟩=>thn (ha pins s1 σ H1 _ I1 q) λov s2 q32q=>?_) hs;obtain⟨x,H2,I2,rx,a,C,dx,fs,ex,ea,c,n,l,q2⟩:=q32q;subst ex;obtain rfl:ov=Value.ref a:=rx;exact zkI I2 ea c n l ry λs3 I3=>⟨σ,_,I3,q2⟩
end
structure Room (k:Nat)(A:Around):Prop where
 hd:A.handled=none
 dp:A.depth+3*k+5<recursionLimit
 un:A.units+16*k+200<cLine
theorem Room.mono {j k:Nat}{A:Around}(r:Room k A)(h:j<=k):Room j A:=⟨r.hd,by have:=r.dp;lia,by have:=r.un;lia⟩
theorem Room.deeper {k:Nat}{A:Around}(r:Room (k+1) A)(env:Env):Room k (A.deeper env):=
 ⟨r.hd,by have:=r.dp;show A.depth+1+3*k+5<_;lia,by have:=r.un;show A.units+3+16*k+200<_;lia⟩
theorem zkJ {A:Around}{C:Addr}{us:List Value}{kw:List (Str×Value)}:(A.under (.builtin "type.__call__" ⟨.ref C::us,kw⟩)).depth=A.depth+1:=by
 first | rfl | simp[Around.under,Code.weight,Code.isCreation,Code.isGuard,Code.isCaller,Code.frames,Code.isFrame,guardIds]
theorem zkK {A:Around}{C:Addr}{us:List Value}{kw:List (Str×Value)}:(A.under (.builtin "type.__call__" ⟨.ref C::us,kw⟩)).units=A.units+1:=by
 first | rfl | simp[Around.under,Code.cUnits,Code.frames,Code.isFrame]
theorem Room.make {k:Nat}{A:Around}(r:Room (k+1) A)(C:Addr)(us:List Value)(kw:List (Str×Value)):Room k (A.under (.builtin "type.__call__" ⟨.ref C::us,kw⟩)):=
 ⟨r.hd,by have:=r.dp;rw[zkJ];lia,by have:=r.un;rw[zkK];lia⟩
theorem Room.depth {k:Nat}{A:Around}(r:Room k A):A.depth<recursionLimit:=by have:=r.dp;lia
theorem Room.units {k:Nat}{A:Around}(r:Room k A):A.units+64<cLine:=by have:=r.un;lia
noncomputable def tNil:TA:=λ_ H Q=>Q [] H
noncomputable def ztN (ta:TE)(tr:TA):TA:=λσ H Q=>ta σ H λx H1=>tr σ H1 λxs H2=>Q (x::xs) H2
section
variable {X:Cx}{e:Expr}{es:List Expr}{te:TE}{t:TA}{pos:Pos}
theorem zgs:PA X [] tNil:=λ_ _ _ _ H Q I h=>Calls.spliced_nil ⟨[],H,I,.nil,h⟩
theorem zeP (ha:PE X e te)(hr:PA X es t)(hs:autoParam (starEach (e::es) X.env=(false,eval e X.env)::starEach es X.env) aU0):PA X (e::es) (ztN te t):=by
 intro pos pins s σ H Q I h;rw[hs];show wpAny _ _ (spliced ((false,eval e X.env)::backTo pos (starEach es X.env))) _ _ s;refine Calls.spliced_cons (thn (ha pins s σ H _ I h) λu s1 q33q=>?_);obtain⟨x,H1,I1,r1,q1⟩:=q33q;exact thn (hr pos pins s1 σ H1 _ I1 q1) λus s2 q34q=>by obtain⟨xs,H2,I2,r2,q2⟩:=q34q;exact⟨x::xs,H2,I2,.cons r1 r2,q2⟩
noncomputable def tTup (t:TA):TE:=λσ H Q=>t σ H λxs H1=>xs.length<=sizeLine/\∀p,H1 p=none->Q (.ref p) (upd H1 p (.tup xs))
noncomputable def tLst (t:TA):TE:=λσ H Q=>t σ H λxs H1=>xs.length<=sizeLine/\∀p,H1 p=none->Q (.ref p) (upd H1 p (.lst xs))
theorem zrV {x1}(h:PA X es t):PE X (.Tuple es x1 pos) (tTup t):=by
 intro pins s σ H Q I hq;refine wpAny_Tuple_spliced (thn (h pos pins s σ H _ I hq) λus s1 ⟨xs,H1,I1,r,z,q⟩=>⟨by rw[<- r.length];exact z,?_⟩);have hf:H1 s1.heap.objs.size=none:=I1.hok.fresh (Xg _);refine⟨.ref s1.heap.objs.size,upd H1 s1.heap.objs.size (.tup xs),I1.laid (t':=s1.toks) (λb u e=>Xe _ e) (Xg _) ?_,rfl,q _ hf⟩;exact⟨z,us,r,zcF.new _ _⟩
theorem zrW (h:PA X es t):PE X (.List es pos) (tLst t):=by
 intro pins s σ H Q I hq;refine wpAny_List_spliced (thn (h pos pins s σ H _ I hq) λus s1 ⟨xs,H1,I1,r,z,q⟩=>⟨by rw[<- r.length];exact z,?_⟩);have hf:H1 s1.heap.objs.size=none:=I1.hok.fresh (Xg _);refine⟨.ref s1.heap.objs.size,upd H1 s1.heap.objs.size (.lst xs),I1.laid (t':=s1.toks) (λb u e=>Xe _ e) (Xg _) ?_,rfl,q _ hf⟩;exact⟨z,us,0,r,Xv _ rfl⟩
end
noncomputable abbrev Sp:=List V->Hp->VK->XK->Prop
noncomputable abbrev CXT:=List Env->Hp->Shared->XK->Value->Shared->Prop
structure Env0 (P:Program)(w:World)(K:Xa)(mg:Str->Option Value)(base:Heap)(A:Around)(outer:List Env)(s:Shared)(H:Hp):Prop where
 frames:A.frames=some outer
 mod:Mod K mg base
 bs:∀b o,base.get? b=some o->s.heap.get? b=some o/\H b=none
 bsz:base.objs.size<=s.heap.objs.size
 funs:s.heap.FunFrames base outer
 frf:∀b∈frs outer,H b=none
 hok:HOk P w H s.heap
 bare:AllBare s.gens
noncomputable def CE (outer:List Env)(P:Program)(w:World)(H:Hp)(s:Shared)(Q:VK)(u:Value)(s':Shared):Prop:=
 ∃v H',s'.os=s.os/\AllBare s'.gens/\Un (frs outer) [] H H' s.heap s'.heap/\HOk P w H' s'.heap/\RelV v u/\Q v H'
noncomputable def CR (CX:CXT)(outer:List Env)(P:Program)(w:World)(H:Hp)(s:Shared)(Q:VK)(E:XK)(r:Result)(s':Shared):Prop:=
 match r with
 | .ok (.ret u)=>CE outer P w H s Q u s'
 | .ok _=>False
 | .error e=>CX outer H s E e s'
structure FnOk (P:Program)(w:World)(K:Xa)(mg:Str->Option Value)(base:Heap)(CX:CXT)(k:Nat)(f:Addr)(fd:FuncData)(ps:List Str)(sp:Sp):Prop where
 len:∀vs H Q E,sp vs H Q E->vs.length=ps.length
 run:∀(A:Around) (outer:List Env) (s:Shared) (H:Hp) (args:Args) (us:List Value) (vs:List V) (Q:VK) (E:XK),Room k A->Env0 P w K mg base A outer s H->BindsTo s fd args (ps.zip us)->Vals vs us->sp vs H Q E->
  codeAny (model P w) A (.call (.ref f) args) (CR CX outer P w H s Q E) s
theorem FnOk.mono {P:Program}{w:World}{K:Xa}{mg:Str->Option Value}{base:Heap}{CX:CXT}{j k:Nat}{f:Addr}{fd:FuncData}{ps:List Str}{sp:Sp}(F:FnOk P w K mg base CX j f fd ps sp)(h:j<=k) :
  FnOk P w K mg base CX k f fd ps sp:=⟨F.len,λA outer s H args us vs Q E hr=>F.run A outer s H args us vs Q E (hr.mono h)⟩
theorem Env0.make {P:Program}{w:World}{K:Xa}{mg:Str->Option Value}{base:Heap}{A:Around}{outer:List Env}{s:Shared}{H:Hp}(e:Env0 P w K mg base A outer s H)(C:Addr)(us:List Value)(kw:List (Str×Value)) :
  Env0 P w K mg base (A.under (.builtin "type.__call__" ⟨.ref C::us,kw⟩)) outer s H:=⟨by first | exact e.frames | (simpa[Around.under,Code.envs,Code.isFrame,pushEnvs]using e.frames),e.mod,e.bs,e.bsz,e.funs,e.frf,e.hok,e.bare⟩
section
variable {X:Cx}{pins:List (Addr×Obj)}{σ:St}{H:Hp}{s s':Shared}
theorem Inv.env0 (I:Inv X pins σ H s):Env0 X.prog X.w X.K X.mg X.base X.A X.stack s H:=
 ⟨I.ok.frames,I.ok.mod,I.bs,XO I.ok.bsz I.sz,I.stack,I.zlA,I.hok,I.bare⟩
theorem Inv.after {Q:VK}{u:Value}(I:Inv X pins σ H s)(h:CE X.stack X.prog X.w H s Q u s'):EP X pins σ Q u s':=by
 obtain⟨v,H',os,bare,un,hok,r,q⟩:=h;obtain⟨hh,g,d,t,os'⟩:=s';obtain rfl:os'=s.os:=os;exact⟨v,H',I.call (h':=hh) (g':=g) (d':=d) (t':=t) (ch:=[]) un hok bare (λb z=>absurd z (by simp)),r,q⟩
end
noncomputable def zrX (sp:Sp)(dvs:List V)(E:XK)(t:TA):TE:=λσ H Q=>t σ H λvs H1=>sp (vs++dvs) H1 Q E
noncomputable def zrY (C:Addr)(m:Str)(sp:Sp)(dvs:List V)(E:XK)(ta:TE)(t:TA):TE:=λσ H Q=>ta σ H λx H1=>∃a dx fs,x=.ref a/\H1 a=some (.ins C dx fs)/\fs.lookup m=none/\
 t σ H1 λvs H2=>sp (x::(vs++dvs)) H2 Q E
noncomputable def ztO (C:Addr)(sp:Sp)(dvs:List V)(E:XK)(t:TA):TE:=λσ H Q=>t σ H λvs H1=>∀x dx,H1 x=none->H1 dx=none->dx≠x->
 sp (.ref x::(vs++dvs)) (upd (upd H1 dx (.own x)) x (.ins C dx [])) (λv H2=>v=.non/\Q (.ref x) H2) E
noncomputable def Binds (K:Xa)(fd:FuncData)(ps:List Str)(ds:List Value):Prop:=
 ∀(s:Shared) (us:List Value),K.In s.heap->(us++ds).length=ps.length->BindsTo s fd ⟨us,[]⟩ (ps.zip (us++ds))
theorem Binds.all {K:Xa}{fd:FuncData}{ps:List Str}(h:∀us:List Value,us.length=ps.length->bindArgs fd ⟨us,[]⟩=pure (ps.zip us)):Binds K fd ps []:=λs us _ hl=>by
 rw[List.append_nil]at hl ⊢;exact .of_eq (h us hl)
noncomputable def zfz (CX:CXT)(X:Cx)(E:XK):Prop:=∀(pins:List (Addr×Obj))(σ:St)(H:Hp)(s:Shared)(e:Value)(s':Shared),Inv X pins σ H s->CX X.stack H s E e s'->X.xe e s'
section
variable {X:Cx}{CX:CXT}{k:Nat}{f C:Addr}{fd:FuncData}{ps:List Str}{sp:Sp}{dvs:List V}{ds:List Value}{E:XK}{x m:Str}{p pos apos:Pos}{e o:Expr}{es:List Expr}{ta:TE}{t:TA}
theorem zlL {pins:List (Addr×Obj)}{σ:St}{H:Hp}{s:Shared}{Q:VK}{us:List Value}{vs:List V}(F:FnOk X.prog X.w X.K X.mg X.base CX k f fd ps sp)(hr:Room k X.A)(hb:Binds X.K fd ps ds)(hd:Vals dvs ds)(hx:zfz CX X E)
  (I:Inv X pins σ H s) (r:Vals vs us) (h:sp (vs++dvs) H Q E):wpAny (model X.prog X.w) X.A (call (.ref f) us) (EP X pins σ Q) X.xe s:=by
 have r2:Vals (vs++dvs) (us++ds):=r.append hd;have hl:(us++ds).length=ps.length:=by rw[<- r2.length];exact F.len _ _ _ _ h
 refine wpAny_call (codeAny_mono (F.run X.A X.stack s H ⟨us,[]⟩ (us++ds) (vs++dvs) Q E hr I.env0 (hb s us I.kIn hl) r2 h) λr s' hq=>?_);cases r with
 | error e=>exact hx pins σ H s e s' I hq
 | ok fl=>
  cases fl with
  | ret u=>exact I.after hq
  | next=>exact False.elim hq
  | brk=>exact False.elim hq
  | cont=>exact False.elim hq
theorem zqe (F:FnOk X.prog X.w X.K X.mg X.base CX k f fd ps sp)(hr:Room k X.A)(hg:Gl X x)(hm:X.mg x=some (.ref f))(hk:YJ X.K (.ref f)=true)(hb:Binds X.K fd ps ds)(hd:Vals dvs ds)(hx:zfz CX X E)
  (ha:PA X (e::es) t) (hdb:autoParam ((x == ("__debug__" : Str))=false) aU1) (he:autoParam (starEach (e::es) X.env=(false,eval e X.env)::starEach es X.env) aU0) (hpl:autoParam ((backTo pos (starEach es X.env)).any (·.1)=false) aU0) :
  PE X (.Call (.Name x p) (e::es) [] pos) (zrX sp dvs E t):=by
 intro pins s σ H Q I h;refine wpAny_Call_Name_kw (zlC I hg hm ?_ hdb);refine PySem.W.callWith_K (h₀:=X.base) I.ok.mod.kin hk (thn (ha pos pins s σ H _ I h) λus s1 ⟨vs,H1,I1,r,q⟩=>⟨I1.kIn,?_⟩) he hpl;exact zlL F hr hb hd hx I1 r q
theorem zlM {pl:Sem Bool}(he:PE X o ta)(c:Cls X.K C)(hm:Meth X.K C m f)(F:FnOk X.prog X.w X.K X.mg X.base CX k f fd ps sp)(hr:Room k X.A)(hb:Binds X.K fd ps ds)(hd:Vals dvs ds)(hx:zfz CX X E)(ha:PA X (e::es) t)
  (hst:autoParam (starEach (e::es) X.env=(false,eval e X.env)::starEach es X.env) aU0) (hpl:autoParam ((backTo pos (starEach es X.env)).any (·.1)=false) aU0)
  (ht:autoParam (eval (.Call (.Attribute o m apos) (e::es) [] pos) X.env=(do
   let ov <- eval o X.env
   standAt apos.atName
   let (f,first) <- holding [ov] (getMethod ov m pl)
   callWith pos f first (backTo pos (starEach (e::es) X.env)) (backToKw pos (keywordEach [] X.env)))) aU0) :
  PE X (.Call (.Attribute o m apos) (e::es) [] pos) (zrY C m sp dvs E ta t):=by
 intro pins s σ H Q I h;refine PySem.W.methodCall_KW (pl:=pl) (thn (he pins s σ H _ I h) λu s1 q38q=>?_) ht;obtain⟨x,H1,I1,rx,a,dx,fs,ex,ea,l,q⟩:=q38q;subst ex;obtain rfl:u=Value.ref a:=rx;refine zgr I1 ea c hm l ?_;refine PySem.W.callWith_K (first:=[.ref a]) (h₀:=X.base) I.ok.mod.kin hm.kp (thn (ha pos pins s1 σ H1 _ I1 q) λus s2 ⟨vs,H2,I2,r,q2⟩=>⟨I2.kIn,?_⟩) hst hpl
 exact zlL (us:=.ref a::us) (vs:=.ref a::vs) F hr hb hd hx I2 (.cons rfl r) q2
theorem zjA {pl:Sem Bool}(he:PE X o ta)(c:Cls X.K C)(hm:Meth X.K C m f)(F:FnOk X.prog X.w X.K X.mg X.base CX k f fd ps sp)(hr:Room k X.A)(hb:Binds X.K fd ps ds)(hd:Vals dvs ds)(hx:zfz CX X E)
  (ht:autoParam (eval (.Call (.Attribute o m apos) [] [] pos) X.env=(do
   let ov <- eval o X.env
   standAt apos.atName
   let (f,first) <- holding [ov] (getMethod ov m pl)
   callWith pos f first (backTo pos (starEach [] X.env)) (backToKw pos (keywordEach [] X.env)))) aU0) :
  PE X (.Call (.Attribute o m apos) [] [] pos) (zrY C m sp dvs E ta tNil):=by
 intro pins s σ H Q I h;refine PySem.W.methodCall_KW (pl:=pl) (thn (he pins s σ H _ I h) λu s1 q40q=>?_) ht;obtain⟨x,H1,I1,rx,a,dx,fs,ex,ea,l,q⟩:=q40q;subst ex;obtain rfl:u=Value.ref a:=rx;refine zgr I1 ea c hm l ?_;exact PySem.W.callWith_K0 (first:=[.ref a]) I1.kIn hm.kp (zlL (us:=[.ref a]) (vs:=[.ref a]) F hr hb hd hx I1 (.cons rfl .nil) q)
structure Mk (K:Xa)(C f:Addr):Prop where
 makes:PySem.W.makesIn K C=true
 init:Xt K (.ref C) "__init__" = some (some (.ref f))
 fn:PySem.W.isFn K (.ref f)=true
 kp:YJ K (.ref C)=true
theorem znY {pins:List (Addr×Obj)}{σ:St}{H:Hp}{s:Shared}{Q:VK}{us:List Value}{vs:List V}(M:Mk X.K C f)(F:FnOk X.prog X.w X.K X.mg X.base CX k f fd ps sp)(hr:Room (k+1) X.A)(hb:Binds X.K fd ps ds)(hd:Vals dvs ds)
  (hx:zfz CX X E) (I:Inv X pins σ H s) (r:Vals vs us)
  (h:∀x dx,H x=none->H dx=none->dx≠x->sp (.ref x::(vs++dvs)) (upd (upd H dx (.own x)) x (.ins C dx [])) (λv H2=>v=.non/\Q (.ref x) H2) E) :
  wpAny (model X.prog X.w) X.A (call (.ref C) us) (EP X pins σ Q) X.xe s:=by
 have hq:=h (s.heap.objs.size+1) s.heap.objs.size (I.hok.fresh (Nat.le_succ _)) (I.hok.fresh (Xg _)) (Xx (XQ _));have I2:=Inv.made (C:=C) I;have r2:Vals (V.ref (s.heap.objs.size+1)::(vs++dvs)) (Value.ref (s.heap.objs.size+1)::(us++ds)):=.cons rfl (r.append hd);have hl:(Value.ref (s.heap.objs.size+1)::us++ds).length=ps.length:=by
  have e:=r2.length;rw[F.len _ _ _ _ hq]at e;exact e.symm
 refine wpAny_call (znX (f:=f) I.kIn M.makes M.init (beq_iff_eq.mp M.fn) (codeAny_mono (F.run _ X.stack _ _ ⟨Value.ref (s.heap.objs.size+1)::us,[]⟩ (Value.ref (s.heap.objs.size+1)::(us++ds)) _ _ E (hr.make C us [])
  (I2.env0.make C us []) (hb _ (Value.ref (s.heap.objs.size+1)::us) I2.kIn hl) r2 hq) λr s' hq'=>?_))
 cases r with
 | error e=>exact hx pins σ _ _ e s' I2 hq'
 | ok fl=>
  cases fl with
  | ret u=>
   obtain⟨v,H',I3,rv,ev,q3⟩:=I2.after hq';subst ev;exact⟨rv,⟨V.ref (s.heap.objs.size+1),H',I3,rfl,q3⟩⟩
  | next=>exact False.elim hq'
  | brk=>exact False.elim hq'
  | cont=>exact False.elim hq'
theorem zqf (M:Mk X.K C f)(F:FnOk X.prog X.w X.K X.mg X.base CX k f fd ps sp)(hr:Room (k+1) X.A)(hg:Gl X x)(hm:X.mg x=some (.ref C))(hb:Binds X.K fd ps ds)(hd:Vals dvs ds)(hx:zfz CX X E)
  (ha:PA X (e::es) t) (hdb:autoParam ((x == ("__debug__" : Str))=false) aU1) (he:autoParam (starEach (e::es) X.env=(false,eval e X.env)::starEach es X.env) aU0) (hpl:autoParam ((backTo pos (starEach es X.env)).any (·.1)=false) aU0) :
  PE X (.Call (.Name x p) (e::es) [] pos) (ztO C sp dvs E t):=by
 intro pins s σ H Q I h;refine wpAny_Call_Name_kw (zlC I hg hm ?_ hdb);refine PySem.W.callWith_K (h₀:=X.base) I.ok.mod.kin M.kp (thn (ha pos pins s σ H _ I h) λus s1 ⟨vs,H1,I1,r,q⟩=>⟨I1.kIn,?_⟩) he hpl;exact znY M F hr hb hd hx I1 r q
end
structure zap (N P:List Str)(sc:Scope):Prop where
 kind:sc.kind=.function
 co:sc.isCoroutine=false
 gen:sc.isGenerator=false
 nd:N.Nodup
 pre:N.take P.length=P
 par:∀x∈P,sc.names.lookup x=some .local\/sc.names.lookup x=some .cell
 nofree:∀y∈sc.names,y.2≠.free
theorem zhG {kindOf:Str->Option NameKind}{x:Str}:∀ {binds:List (Str×Value)}{m:Str->Option Value},(∀v,(x,v)∉binds)->bindL kindOf binds m x=m x
 | [],_,_=>rfl
 | (n,v)::r,m,h=>by
  unfold bindL;rw[zhG λw hw=>h w (Xn _ hw)];split
  ·have:x≠n:=by rintro rfl;exact h v Xp
   simp[this]
  ·rfl
theorem zhH {kindOf:Str->Option NameKind}{x:Str}:∀ {binds:List (Str×Value)}{m:Str->Option Value},(∀v,(x,v)∉binds)->bindC kindOf binds m x=m x
 | [],_,_=>rfl
 | (n,v)::r,m,h=>by
  unfold bindC;rw[zhH λw hw=>h w (Xn _ hw)];split
  ·rfl
  ·have:x≠n:=by rintro rfl;exact h v Xp
   simp[this]
theorem zhI {kindOf:Str->Option NameKind}{x:Str}{v:Value}:∀ {P:List Str}{vs:List Value}{i:Nat}{m:Str->Option Value},P.Nodup->P[i]? = some x->vs[i]? = some v->kindOf x=some .local->
  bindL kindOf (P.zip vs) m x=some v
 | [],_,_,_,_,h,_,_=>by simp at h
 | _::_,[],_,_,_,_,h,_=>by simp at h
 | p::P,w::vs,0,m,nd,h1,h2,hk=>by
  simp at h1 h2;subst h1;subst h2;show bindL kindOf ((p,w)::P.zip vs) m p=_;unfold bindL;rw[zhG λv hv=>(XT.mp nd).1 (List.of_mem_zip hv).1,if_pos hk];simp
 | p::P,w::vs,i+1,m,nd,h1,h2,hk=>by
  show bindL kindOf ((p,w)::P.zip vs) m x=_;unfold bindL;exact zhI (i:=i) (XT.mp nd).2 (by simpa using h1) (by simpa using h2) hk
theorem zhJ {kindOf:Str->Option NameKind}{x:Str}{v:Value}:∀ {P:List Str}{vs:List Value}{i:Nat}{m:Str->Option Value},P.Nodup->P[i]? = some x->vs[i]? = some v->kindOf x≠some .local->
  bindC kindOf (P.zip vs) m x=some v
 | [],_,_,_,_,h,_,_=>by simp at h
 | _::_,[],_,_,_,_,h,_=>by simp at h
 | p::P,w::vs,0,m,nd,h1,h2,hk=>by
  simp at h1 h2;subst h1;subst h2;show bindC kindOf ((p,w)::P.zip vs) m p=_;unfold bindC;rw[zhH λv hv=>(XT.mp nd).1 (List.of_mem_zip hv).1,if_neg hk];simp
 | p::P,w::vs,i+1,m,nd,h1,h2,hk=>by
  show bindC kindOf ((p,w)::P.zip vs) m x=_;unfold bindC;exact zhJ (i:=i) (XT.mp nd).2 (by simpa using h1) (by simpa using h2) hk
noncomputable def start (N:List Str)(vs:List V):St:=vs.map some++List.replicate (N.length-vs.length) none
noncomputable def cxOf (CX:CXT)(P:Program)(w:World)(K:Xa)(mg:Str->Option Value)(base:Heap)(N:List Str)(qual:Str)(scope:Scope)(f:Addr)(cd:Value)(A:Around)(outer:List Env)(s:Shared)(H:Hp)(E:XK):Cx where
 prog:=P
 w:=w
 K:=K
 mg:=mg
 base:=base
 A:=A.deeper (envOfC qual scope s.heap.objs.size f cd)
 N:=N
 s₀:=s
 H₀:=H
 env:=envOfC qual scope s.heap.objs.size f cd
 outer:=outer
 stack:=envOfC qual scope s.heap.objs.size f cd::outer
 ex:=[]
 calm:=true
 fn:=λ_=>true
 pn:=[]
 xe:=λe s'=>wpAny (model P w) (A.deeper (envOfC qual scope s.heap.objs.size f cd)) (leaving (envOfC qual scope s.heap.objs.size f cd) e) (λ_ s''=>CX outer H s E e s'') (λe' s''=>CX outer H s E e' s'') s'
theorem zjB {sc:Scope}{n:Nat}{x:Str}(h:sc.names.lookup x=some .cell):∃c,(cellsFrom n sc.names []).lookup x=some c:=by
 have q:=PySem.W.cellsFrom_some sc.names n [] (.inl h);exact Option.isSome_iff_exists.mp q
theorem zlN {CX:CXT}{P:Program}{w:World}{K:Xa}{mg:Str->Option Value}{base:Heap}{N ps:List Str}{qual:Str}{scope:Scope}{f:Addr}{cd:Value}{A:Around}{outer:List Env}{s s1:Shared}{H:Hp}{E:XK}{us:List Value}{vs:List V}
  (S:zap N ps scope) (hd:A.handled=none) (e0:Env0 P w K mg base A outer s H) (hl:vs.length=ps.length) (r:Vals vs us)
  (x:InCallC s s.heap.objs.size (bindL (envOfC qual scope s.heap.objs.size f cd).kindOf (ps.zip us) λ_=>none) (cellsFrom (s.heap.objs.size+1) scope.names []) (bindC (envOfC qual scope s.heap.objs.size f cd).kindOf (ps.zip us) λ_=>none) s1) :
  Inv (cxOf CX P w K mg base N qual scope f cd A outer s H E) [] (start N vs) H s1:=by
 have hpl:ps.length<=N.length:=by have:=congrArg List.length S.pre;rw[XR]at this;lia
 obtain⟨h1,tk,rfl,hk⟩:=x.done;have noA:∀b:Addr,b∉(cxOf CX P w K mg base N qual scope f cd A outer s H E).ex:=λb z=>absurd (show b∈([]:List Addr) from z) (by simp);refine⟨⟨e0.mod,S.kind,rfl,rfl,Xg _,λy z c h1 h2=>?_,λy hy=>?_,λy c _ h=>?_,λ_=>hd,Around.frames_deeper e0.frames,.inr ⟨rfl,rfl⟩,λb z=>absurd z (noA b),e0.bs,e0.bsz,λb _ _=>noA b,λb z=>absurd z (noA b),e0.funs,e0.frf⟩,
  rfl,e0.bare,Un.kept hk,⟨_,x.toInCall.ns,λi y v h1 h2 h3=>?_⟩,λy c h=>⟨_,x.cell y c h⟩,e0.hok.fresh (Xg _),λy c h=>?_,λp hp=>absurd (show p∈([]:List (Addr×Obj)) from hp) (by simp),e0.hok.kept hk,?_⟩
 ·exact name_of_addr x.apart (PySem.mem_of_lookup h1) (PySem.mem_of_lookup h2)
 ·have hy:scope.names.lookup y=some .cell\/scope.names.lookup y=some .free:=hy;rcases hy with hy | hy
  ·exact zjB hy
  ·exact absurd rfl (S.nofree _ (PySem.mem_of_lookup hy))
 ·exact Yx (x.above y c (PySem.mem_of_lookup h))
 ·have hi:i<vs.length:=by
   unfold start at h2;by_cases hi:i<vs.length
   ·exact hi
   ·rw[YA (by simpa using hi)]at h2;rw[List.getElem?_replicate]at h2;split at h2<;>cases h2
  have ha:vs[i]? = some v:=by
   unfold start at h2;rw[YE (by simpa using hi),Xi]at h2;cases e:vs[i]? with
   | none=>rw[e]at h2;cases h2
   | some a=>rw[e]at h2;cases h2;rfl
  obtain⟨u,hu,rv⟩:=r.get ha;have hp:ps[i]? = some y:=by
   rw[<- S.pre,List.getElem?_take_of_lt (by lia)];exact h1
  have ndP:ps.Nodup:=by rw[<- S.pre];exact S.nd.sublist (List.take_sublist _ _)
  refine⟨u,rv,?_⟩;rcases S.par y (Xr hp)with k | k
  ·exact .inl ⟨k,zhI ndP hp hu k⟩
  ·obtain⟨c,e⟩:=zjB (n:=s.heap.objs.size+1) k;refine .inr ⟨.inl k,c,e,?_⟩;have q:=x.cell y c e;rw[zhJ ndP hp hu (by show scope.names.lookup y≠_;rw[k];decide)]at q;exact q
 ·exact e0.hok.fresh (Yx (x.above y c (PySem.mem_of_lookup h)))
 ·unfold start;show _=N.length;rw[Xq,Xb,YM];lia
theorem znZ {CX:CXT}{P:Program}{w:World}{K:Xa}{mg:Str->Option Value}{base:Heap}{k:Nat}{f:Addr}{name qual:Str}{params:Arguments}{body:List Stmt}{scope:Scope}{dV kV doc pm cdv ct oc:Value}{an od:Option Addr}
  {osl:Array (Option Value)} {N ps:List Str} {sp:Sp} (lk:K.lookup f=some ⟨oc,od,.func (PySem.W.fnOf name qual params body scope dV kV doc pm an cdv ct),osl⟩) (hcd:PySem.W.codeIn K cdv qual=true) (S:zap N ps scope)
  (len:∀vs H Q E,sp vs H Q E->vs.length=ps.length)
  (hbody:∀(A:Around) (outer:List Env) (s:Shared) (H:Hp) (vs:List V) (Q:VK) (E:XK),Room k (A.deeper (envOfC qual scope s.heap.objs.size f cdv))->sp vs H Q E->
   ∃t,PSs (cxOf CX P w K mg base N qual scope f cdv A outer s H E) body t/\t { nx:=λ_ H'=>Q .non H',rt:=Q } (start N vs) H) :
  FnOk P w K mg base CX (k+1) f (PySem.W.fnOf name qual params body scope dV kV doc pm an cdv ct) ps sp:=by
 refine⟨len,λA outer s H args us vs Q E hr e0 hb r hsp=>?_⟩;have hl:=len _ _ _ _ hsp;have KX:K.In s.heap:=e0.mod.kin.keeps λb o e=>(e0.bs b o e).1;have lim:s.heap.NoLimit:=e0.mod.nolimit.keeps λb o e=>(e0.bs b o e).1;have hkind:∀y∈ps.zip us,scope.names.lookup y.1=some .local\/(scope.names.lookup y.1=some .cell/\((cellsFrom (s.heap.objs.size+1) scope.names []).lookup y.1).isSome=true):=λ⟨n,v⟩ hy=>by
  rcases S.par n (List.of_mem_zip hy).1 with q | q
  ·exact .inl q
  ·exact .inr ⟨q,PySem.W.cellsFrom_some _ _ _ (.inl q)⟩
 refine codeAny_call_function hr.depth (KX _ _ lk) rfl S.co S.gen rfl (PySem.W.codeRec_of KX hcd) (hb _ _ _ _ ?_);refine wpAny_newFunctionEnv_cells S.kind hkind λenv he s1 x=>?_;subst he;refine⟨lim.keeps x.toInCall.keep,codeAny_func ?_⟩;obtain⟨t,ht,hq⟩:=hbody A outer s H vs Q E (hr.deeper _) hsp;have I:Inv (cxOf CX P w K mg base N qual scope f cdv A outer s H E) [] (start N vs) H s1:=zlN S hr.hd e0 hl r x;refine wpAny_mono (ht [] s1 (start N vs) H _ I hq) (λfl s' hs=>?_) λe s' hs=>hs;have fin:∀ {σ':St} {H':Hp} {v:V} {u:Value},Inv (cxOf CX P w K mg base N qual scope f cdv A outer s H E) [] σ' H' s'->RelV v u->Q v H'->CE outer P w H s Q u s':=
  λ{σ' H' v u} J rv q=>⟨v,H',J.os,J.bare,J.base,J.hok,rv,q⟩
 cases fl with
 | ret u=>
  obtain⟨v,σ',H',J,rv,q⟩:=hs;exact fin J rv q
 | next=>
  obtain⟨σ',H',J,q⟩:=hs;exact fin (v:=V.non) (u:=Value.none) J rfl q
 | brk=>
  obtain⟨_,_,_,q⟩:=hs;exact False.elim q
 | cont=>
  obtain⟨_,_,_,q⟩:=hs;exact False.elim q
section
variable {X:Cx}{x:Str}{p pos:Pos}{e:Expr}{es:List Expr}{t:TA}{id T:String}{r:List V->Hp->VK->Prop}
noncomputable def tCB (r:List V->Hp->VK->Prop)(t:TA):TE:=λσ H Q=>t σ H λvs H1=>r vs H1 Q
theorem zjC (hc:zdh X (.builtin id) r)(hg:Gl X x)(hm:X.mg x=none)(hv:bootBuiltins x=some (.builtin id))(ha:PA X (e::es) t)(hn:autoParam (x≠"__name__") aU1) (hdb:autoParam ((x == ("__debug__" : Str))=false) aU1)
  (he:autoParam (starEach (e::es) X.env=(false,eval e X.env)::starEach es X.env) aU0) (hpl:autoParam ((backTo pos (starEach es X.env)).any (·.1)=false) aU0):PE X (.Call (.Name x p) (e::es) [] pos) (tCB r t):=by
 intro pins s σ H Q I h;refine wpAny_Call_Name_kw (zfe I hg hm hv ?_ hn hdb);exact PyProof.Rows.callWith_builtin1 (thn (ha pos pins s σ H _ I h) λus s1 q43q=>by obtain⟨vs,H1,I1,r1,q1⟩:=q43q;exact hc pins s1 σ H1 vs us Q I1 r1 q1) he hpl
theorem zhK (hc:zdh X (.type T) r)(hg:Gl X x)(hm:X.mg x=none)(hv:bootBuiltins x=some (.type T))(ha:PA X (e::es) t)(hn:autoParam (x≠"__name__") aU1) (hdb:autoParam ((x == ("__debug__" : Str))=false) aU1)
  (he:autoParam (starEach (e::es) X.env=(false,eval e X.env)::starEach es X.env) aU0) (hpl:autoParam ((backTo pos (starEach es X.env)).any (·.1)=false) aU0):PE X (.Call (.Name x p) (e::es) [] pos) (tCB r t):=by
 intro pins s σ H Q I h;refine wpAny_Call_Name_kw (zfe I hg hm hv ?_ hn hdb);exact PyProof.Rows.callWith_type1 (thn (ha pos pins s σ H _ I h) λus s1 q44q=>by obtain⟨vs,H1,I1,r1,q1⟩:=q44q;exact hc pins s1 σ H1 vs us Q I1 r1 q1) he hpl
end
end _L
namespace _H
open PySem PyProof.Rows
noncomputable def lexLt:List Int->List Int->Bool
 | [],[]=>false
 | [],_::_=>true
 | _::_,[]=>false
 | x::xs,y::ys=>if x=y then lexLt xs ys else decide (x<y)
theorem zeQ (x y:Int)(xs ys:List Int):lexLt (x::xs) (y::ys)=if x=y then lexLt xs ys else decide (x<y):=rfl
theorem zee:lexLt [] []=false:=rfl
theorem zgg (y:Int)(ys:List Int):lexLt [] (y::ys)=true:=rfl
theorem zgh (x:Int)(xs:List Int):lexLt (x::xs) []=false:=rfl
theorem zoa (A:Around)(s:Shared)(a:Int)(t:Tok)(c:Int)(u:Tok):∃e,SeqAt.EqAt A s (.int a t) (.int c u) e/\(e=true↔a=c):=
 ⟨(a == c),SeqAt.EqAt.int_int a t c u,by simp⟩
theorem zob (A:Around)(s:Shared)(a:Int)(t:Tok)(c:Int)(u:Tok)(prog:Program)(w:World)(E:Value->Shared->Prop)(Q:Value->Shared->Prop)(h:Q (.bool (decide (a<c))) s) :
  wpAny (model prog w) A (richCompare .Lt (.int a t) (.int c u)) Q E s:=
 (PyProof.Rows.lt_int h:wpAny (model prog w) A (compareOp .Lt (.int a t) (.int c u)) Q E s)
section
open PySem.SeqAt
open PySem.MeetsSeq PySem.MeetsSeq2 PySem.MeetsSeq3
theorem zgO (l b:Addr)(items items2:Array Value)(n n2:Nat)(dd dd2:Option Addr)(sl sl2:Array (Option Value))(ns ms:List Int)(hi:IntsAre items.toList ns)(hj:IntsAre items2.toList ms) :
  Meets (Builtin.«tuple.__lt__» ⟨[.ref l,.ref b],[]⟩)
   (λ_ R s=>s.heap.get? l=some { cls:=.type "tuple",dict:=dd,data:=.seq items n,slots:=sl }/\s.heap.get? b=some { cls:=.type "tuple",dict:=dd2,data:=.seq items2 n2,slots:=sl2 }/\
    R (.ok (.ret (.bool (lexLt ns ms)))) s):=
 .of_wp λprog w A R s h=>by
  obtain⟨hp,g,d,tk,os⟩:=s;obtain⟨hl,hb,h⟩:=h;have f2:=AutoSeq1.sub_tuple_tuple;have z1:items.size=ns.length:=by rw[<- hi.length];simp
  have z2:items2.size=ms.length:=by rw[<- hj.length];simp
  wp_walk using wpAny_loadPart' hl,wpAny_loadPart' hb,wpAny_forIn_list _ (λrest b s'=>b.1=none/\s'=⟨hp,g,d,tk,os⟩/\∃(vs ws:List Value) (ns' ms':List Int),rest=vs.zip ws/\
   IntsAre vs ns'/\IntsAre ws ms'/\ns'.length+items2.size=ms'.length+items.size/\R (.ok (.ret (.bool (lexLt ns' ms')))) ⟨hp,g,d,tk,os⟩) _
  case turn=>
   rintro⟨y,x⟩ rest b s' ⟨hb',rfl,vs,ws,ns',ms',hz,hvi,hwi,hlen,hR⟩;cases hvi with
   | nil=>rw[List.zip_nil_left]at hz;cases hz
   | cons a t hvi'=>
    cases hwi with
    | nil=>rw[List.zip_nil_right]at hz;cases hz
    | cons c u hwi'=>
     rw[Yc]at hz;injection hz with hyx hrest;injection hyx with hy hx;subst hy hx;rw[zeQ]at hR;simp only[XG]at hlen;obtain⟨e,he,hiff⟩:=zoa A.in1 ⟨hp,g,d,tk,os⟩ a t c u;refine wpAny_bind (he prog w _ _ ?_);cases e with
     | true=>
      rw[if_pos (hiff.mp rfl)]at hR
      wp_walk
      exact⟨rfl,rfl,_,_,_,_,hrest,hvi',hwi',by lia,hR⟩
     | false=>
      rw[if_neg (λq=>absurd (hiff.mpr q) Xo)]at hR;have hri:=zob A.in1 ⟨hp,g,d,tk,os⟩ a t c u prog w
      wp_walk using hri
      exact⟨_,rfl,by simpa using hR⟩
  case fin=>
   rintro⟨b1,b2⟩ s' ⟨hb',rfl,vs,ws,ns',ms',hz,hvi,hwi,hlen,hR⟩;simp only at hb';subst hb';have hv:lexLt ns' ms'=decide (items.size<items2.size):=by
    cases hvi with
    | nil=>
     cases hwi with
     | nil=>
      simp only[YC]at hlen;rw[zee];exact(decide_eq_false (by lia)).symm
     | cons c u hw=>
      simp only[YC,XG]at hlen;rw[zgg];exact(decide_eq_true (by lia)).symm
    | cons a t hv=>
     cases hwi with
     | nil=>
      simp only[YC,XG]at hlen;rw[zgh];exact(decide_eq_false (by lia)).symm
     | cons c u hw=>
      rw[Yc]at hz;cases hz
   rw[hv]at hR
   wp_walk
   exact⟨_,rfl,by simpa[Builtin.Tuple.tupleCompareSizes]using hR⟩
  case h=>
   exact⟨rfl,rfl,items.toList,items2.toList,ns,ms,rfl,hi,hj,by lia,h⟩
end
section
variable {prog:Program}{w:World}{A:Around}{E:Value->Shared->Prop}{s:Shared}
theorem zkL {l b:Addr}{items items2:Array Value}{ns ms:List Int}{Q:Value->Shared->Prop}(hl:IsTup s.heap l items)(hb:IsTup s.heap b items2)(hi:IntsAre items.toList ns)(hj:IntsAre items2.toList ms)
  (hu:A.units<cLine) (h:Q (.bool (lexLt ns ms)) s):wpAny (model prog w) A (compareOp .Lt (.ref l) (.ref b)) Q E s:=by
 obtain⟨⟨cls,dd,data,sl⟩,ho,hc,n,hd⟩:=id hl;obtain⟨⟨cls2,dd2,data2,sl2⟩,ho2,hc2,n2,hd2⟩:=id hb;simp only at hc hd hc2 hd2;subst hc hd hc2 hd2;exact richCompare_meets_room (op:=.Lt) ⟨_,ho,rfl⟩ ⟨_,ho2,rfl⟩ PySem.F.slot_tuple_lt PySem.F.entry_tuple_lt (PySem.F.args_tuple_lt_2 _ _) (zgO l b items items2 n n2 dd dd2 sl sl2 ns ms hi hj)
  ⟨ho,ho2,show Value.bool (lexLt ns ms)≠Value.notImplemented/\Q (.bool (lexLt ns ms)) s from⟨(λx=>nomatch x),h⟩⟩ hu
theorem zqg {t b:Addr}{vs ws:List Value}{Q:Value->Shared->Prop}(ht:IsTup s.heap t vs.toArray)(hb:IsTup s.heap b ws.toArray)(hv:vs≠[])
  (h1:ws=[]->Q (.ref t) s) (h2:ws≠[]->Q (.ref s.heap.objs.size) { s with heap:=s.heap.push { cls:=.type "tuple",data:=.seq (vs++ws).toArray } })
  (hsz:vs.length+ws.length<=sizeLine):wpAny (model prog w) A (binaryOp .Add (.ref t) (.ref b)) Q E s:=by
 obtain⟨⟨cls,dd,data,sl⟩,ho,hc,n,hd⟩:=id ht;obtain⟨⟨cls2,dd2,data2,sl2⟩,ho2,hc2,n2,hd2⟩:=id hb;simp only at hc hd hc2 hd2;subst hc hd hc2 hd2;have e:vs.toArray++ws.toArray=(vs++ws).toArray:=by simp
 by_cases hw:ws=[]
 ·exact concat_meets ⟨_,ho,rfl⟩ ⟨_,ho2,rfl⟩ noFill_tuple_add seq_tuple_add PySem.F.slot_tuple_add PySem.F.entry_tuple_add (PySem.F.args_tuple_add_2 _ _)
   (tuple_addW1 t b vs.toArray ws.toArray n n2 dd dd2 sl sl2 (by simpa using hv) (by simp[hw])) ⟨ho,ho2,h1 hw⟩
 ·refine concat_meets ⟨_,ho,rfl⟩ ⟨_,ho2,rfl⟩ noFill_tuple_add seq_tuple_add PySem.F.slot_tuple_add PySem.F.entry_tuple_add (PySem.F.args_tuple_add_2 _ _)
   (tuple_addW2 t b vs.toArray ws.toArray n n2 dd dd2 sl sl2 (by simpa using hv) (by simpa using hw) (by rw[Xj,Xj];exact hsz)) ⟨ho,ho2,?_⟩
  rw[e];exact h2 hw
noncomputable def sIx (n d:Nat):Option Int->Nat
 | none=>d
 | some v=>if v<0 then(v+(n:Int)).toNat else min v.toNat n
theorem zjD (n d:Nat):sIx n d none=d:=rfl
theorem zdQ (n d k:Nat):sIx n d (some (k:Int))=min k n:=by
 show(if (k:Int)<0 then((k:Int)+(n:Int)).toNat else min (k:Int).toNat n)=min k n
 rw[if_neg (by lia),XU]
end
end _H
namespace _L
open PySem PySem.Spec PyProof.Rows
noncomputable abbrev TO:=St->Hp->(Option Int->Hp->Prop)->Prop
noncomputable def PO (X:Cx)(e:Option Expr)(t:TO):Prop:=
 ∀(pins:List (Addr×Obj)) (s:Shared) (σ:St) (H:Hp) (Q:Option Int->Hp->Prop),Inv X pins σ H s->t σ H Q->
  wpAny (model X.prog X.w) X.A (evalPart e X.env) (λu s'=>∃o H',Inv X pins σ H' s'/\IsPart u o/\Q o H') X.xe s
noncomputable def zqh:TO:=λ_ H Q=>Q none H
noncomputable def ztP (t:TE):TO:=λσ H Q=>t σ H λx H1=>∃i,x=.int i/\Q (some i) H1
theorem intsAre_of {ns:List Int}:∀ {us:List Value},Vals (ns.map V.int) us->IntsAre us ns:=by
 induction ns with
 | nil=>intro us r;rw[List.map_nil]at r;cases r;exact .nil
 | cons n ns ih=>
  intro us r;rw[Xy]at r;cases r with
  | cons r1 r2=>
   obtain⟨t,e⟩:=r1;subst e;exact .cons n t (ih r2)
section
variable {X:Cx}{e:Expr}{te:TE}{lo hi:Option Expr}{tl th:TO}{pos p2:Pos}
theorem zqi:PO X none zqh:=by
 intro pins s σ H Q I h;rw[evalPart_none];exact wpAny_pure ⟨none,H,I,.none,h⟩
theorem zqj (h:PE X e te):PO X (some e) (ztP te):=by
 intro pins s σ H Q I hw;rw[evalPart_some];refine thn (h pins s σ H _ I hw) λu s1 q45q=>?_;obtain⟨x,H1,I1,r1,q1⟩:=q45q;obtain⟨i,rfl,q⟩:=q1;obtain⟨t,rfl⟩:=r1;exact⟨some i,H1,I1,.int i t,q⟩
noncomputable def SlR (X:Cx)(r:V->Option Int->Option Int->Hp->VK->Prop):Prop:=
 ∀(pins:List (Addr×Obj)) (s:Shared) (σ:St) (H:Hp) (x:V) (v vl vu:Value) (lo hi:Option Int) (sl:Addr) (Q:VK),Inv X pins σ H s->RelV x v->s.heap.IsSliceOf sl vl vu .none->IsPart vl lo->IsPart vu hi->r x lo hi H Q->
  ∃T id,typeLookup (.type T) "__getitem__" = pure (some (.builtin id))/\s.TypeIs v T/\wpAny (model X.prog X.w) X.A (getItem v (.ref sl)) (EP X pins σ Q) X.xe s
noncomputable def tSl (r:V->Option Int->Option Int->Hp->VK->Prop)(te:TE)(tl th:TO):TE:=λσ H Q=>te σ H λx H1=>tl σ H1 λl H2=>th σ H2 λu H3=>r x l u H3 Q
theorem zjE {r:V->Option Int->Option Int->Hp->VK->Prop}(hr:SlR X r)(he:PE X e te)(hl:PO X lo tl)(hu:PO X hi th):PE X (.Subscript e (.Slice lo hi none p2) pos) (tSl r te tl th):=by
 intro pins s σ H Q I h;refine Subscript_ (thn (he pins s σ H _ I h) λv s1 q46q=>?_);obtain⟨x,H1,I1,r1,q1⟩:=q46q;refine wpAny_Slice (thn (hl pins s1 σ H1 _ I1 q1) λvl s2 ⟨l,H2,I2,pl,q2⟩=>thn (hu pins s2 σ H2 _ I2 q2) λvu s3 q48q=>?_);obtain⟨u,H3,I3,pu,q3⟩:=q48q;rw[evalPart_none];refine wpAny_pure ?_;have I4:Inv X pins σ H3 { s3 with heap:=s3.heap.push { cls:=.type "slice",data:=.fields #[vl,vu,.none] } }:=I3.kept (t':=s3.toks) λb ob q=>Xe _ q;obtain⟨T,id,hT,ht,hg⟩:=hr pins { s3 with heap:=s3.heap.push { cls:=.type "slice",data:=.fields #[vl,vu,.none] } } σ H3 x v vl vu l u s3.heap.objs.size Q I4 r1 (Heap.IsSliceOf.new ..) pl pu q3;show wpAny (model X.prog X.w) X.A (subscriptTail e (.Slice lo hi none p2) v (.ref s3.heap.objs.size)) (EP X pins σ Q) X.xe { s3 with heap:=s3.heap.push { cls:=.type "slice",data:=.fields #[vl,vu,.none] } };exact tail_any (ops:=[.ref s3.heap.objs.size,v]) ht hT hg (by with_unfolding_all rfl)
noncomputable def cutV (xs:List V)(lo hi:Option Int):List V:=(xs.drop (_H.sIx xs.length 0 lo)).take (_H.sIx xs.length xs.length hi-_H.sIx xs.length 0 lo)
theorem ziX (xs:List V)(lo hi:Option Int):(cutV xs lo hi).length<=xs.length:=by
 unfold cutV;rw[XR,List.length_drop];lia
noncomputable def rLtT (K:Xa):R2:=λx y H Q=>∃a b ns ms,x=.ref a/\y=.ref b/\SqT K H a (ns.map V.int)/\SqT K H b (ms.map V.int)/\Q (.bl (_H.lexLt ns ms)) H
theorem zrZ (hu:X.A.units<cLine):OpR X (compareOp .Lt) (rLtT X.K):=by
 intro pins s σ H x y v u Q I rx ry h;obtain⟨a,b,ns,ms,rfl,rfl,ha,hb,q⟩:=h;cases rx;cases ry;obtain⟨its,r1,p1,_⟩:=I.tuple ha;obtain⟨its2,r2,p2,_⟩:=I.tuple hb;have i1:IntsAre its.toArray.toList ns:=intsAre_of r1;have i2:IntsAre its2.toArray.toList ms:=intsAre_of r2;exact _H.zkL p1 p2 i1 i2 hu ⟨.bl (_H.lexLt ns ms),H,I,rfl,q⟩
noncomputable def ztQ (K:Xa):R2:=λx y H Q=>∃a b xs ys,x=.ref a/\y=.ref b/\SqT K H a xs/\SqT K H b ys/\xs≠[]/\xs.length+ys.length<=sizeLine/\
 (ys=[]->Q (.ref a) H)/\(ys≠[]->∀p,H p=none->Q (.ref p) (upd H p (.tup (xs++ys))))
theorem Vals.zgP {xs:List V}{us:List Value}(r:Vals xs us):us=[]↔xs=[]:=by
 cases r with
 | nil=>simp
 | cons _ _=>simp
theorem zqk:OpR X (binaryOp .Add) (ztQ X.K):=by
 intro pins s σ H x y v u Q I rx ry h;obtain⟨a,b,xs,ys,rfl,rfl,ha,hb,hx,hz,q1,q2⟩:=h;cases rx;cases ry;obtain⟨its,r1,p1,_⟩:=I.tuple ha;obtain⟨its2,r2,p2,_⟩:=I.tuple hb;refine _H.zqg p1 p2 (λz=>hx (r1.zgP.mp z)) (λz=>⟨.ref a,H,I,rfl,q1 (r2.zgP.mp z)⟩) (λz=>?_) (by rw[<- r1.length,<- r2.length];exact hz);refine⟨.ref s.heap.objs.size,_,I.laid (t':=s.toks) (o:=.tup (xs++ys)) (λb ob q=>Xe _ q) (Xg _) ?_,rfl,q2 (λw=>z (r2.zgP.mpr w)) _ (I.hok.fresh (Xg _))⟩;exact⟨by rw[Xq];exact hz,_,r1.append r2,zcF.new _ _⟩
end
noncomputable def ixN (n:Nat)(i:Int):Option Nat:=if 0<=i then(if i<n then some i.toNat else none) else if -(n:Int)<=i then some (i+n).toNat else none
noncomputable def atI {α:Type}(xs:List α)(i:Int):Option α:=(ixN xs.length i).bind λj=>xs[j]?
theorem zlO {n:Nat}{i:Int}{j:Nat}(h:ixN n i=some j):seqIndex? i n=some j/\j<n/\-(n:Int)<=i/\i<n:=by
 unfold ixN at h;by_cases h0:0<=i
 ·rw[if_pos h0]at h;by_cases h1:i<n
  ·rw[if_pos h1]at h;have e:i.toNat=j:=Option.some.inj h;exact⟨by rw[seqIndex_of h0 h1,e],by lia,by lia,h1⟩
  ·rw[if_neg h1]at h;cases h
 ·rw[if_neg h0]at h;by_cases h1:-(n:Int)<=i
  ·rw[if_pos h1]at h;have e:(i+n).toNat=j:=Option.some.inj h;exact⟨by rw[seqIndex_neg (by lia) h1,e],by lia,h1,by lia⟩
  ·rw[if_neg h1]at h;cases h
theorem zfA {α:Type}{xs:List α}{i:Int}{v:α}(h:atI xs i=some v):∃j,seqIndex? i xs.length=some j/\xs[j]? = some v/\j<xs.length/\-(xs.length:Int)<=i/\i<xs.length:=by
 unfold atI at h;cases e:ixN xs.length i with
 | none=>rw[e]at h;cases h
 | some j=>
  rw[e]at h;obtain⟨h1,h2,h3,h4⟩:=zlO e;exact⟨j,h1,h,h2,h3,h4⟩
theorem zbd {α:Type}{xs:List α}{j:Nat}{v:α}(h:xs[j]? = some v):atI xs (j:Int)=some v:=by
 have hj:j<xs.length:=(Xd.mp h).1;have e:ixN xs.length (j:Int)=some j:=by
  unfold ixN;rw[if_pos (by lia),if_pos (by lia)];simp
 unfold atI;rw[e];exact h
theorem zjF {α:Type}(xs:List α)(v:α):atI (xs++[v]) (-1)=some v:=by
 have hl:(xs++[v]).length=xs.length+1:=by simp
 have e:ixN (xs++[v]).length (-1)=some xs.length:=by
  unfold ixN;rw[hl,if_neg (by decide),if_pos (by lia)]
  congr 1
  lia
 unfold atI;rw[e];show(xs++[v])[xs.length]? = some v;simp
noncomputable def ziY (b:Expr):Prop:=∀o i,subscripted b false o i=operate [o,i] (getItem o i)
noncomputable def IxR (X:Cx)(r:R2):Prop:=
 ∀(value slice:Expr) (pins:List (Addr×Obj)) (s:Shared) (σ:St) (H:Hp) (x y:V) (v u:Value) (Q:VK),Inv X pins σ H s->RelV x v->RelV y u->r x y H Q->
  subscripted slice false v u=operate [v,u] (getItem v u)->wpAny (model X.prog X.w) X.A (subscriptTail value slice v u) (EP X pins σ Q) X.xe s
noncomputable def MtR (X:Cx)(id:String)(r:V->List V->Hp->VK->Prop):Prop:=
 ∀(pins:List (Addr×Obj)) (s:Shared) (σ:St) (H:Hp) (x:V) (xs:List V) (v:Value) (us:List Value) (Q:VK),Inv X pins σ H s->RelV x v->Vals xs us->r x xs H Q->
  wpAny (model X.prog X.w) X.A (call (.builtin id) (v::us)) (EP X pins σ Q) X.xe s
section
variable {X:Cx}{a b:Expr}{ta tb:TE}{pos:Pos}
theorem IxR.or {r r':R2}(h:IxR X r)(h':IxR X r'):IxR X (λx y H Q=>r x y H Q\/r' x y H Q):=by
 intro value slice pins s σ H x y v u Q I rx ry q hs;rcases q with q | q
 ·exact h value slice pins s σ H x y v u Q I rx ry q hs
 ·exact h' value slice pins s σ H x y v u Q I rx ry q hs
theorem ztR {r:R2}(hr:IxR X r)(ha:PE X a ta)(hb:PE X b tb)(hs:ziY b):PE X (.Subscript a b pos) (tOp r ta tb):=by
 intro pins s σ H Q I h;exact Subscript_ (binT ha hb I h λv u s2 x y H2 I2 rx ry q=>hr a b pins s2 σ H2 x y v u Q I2 rx ry q (hs _ _))
noncomputable def rIxL (K:Xa):R2:=λx y H Q=>∃p xs i v,x=.ref p/\y=.int i/\SqL K H p xs/\atI xs i=some v/\Q v H
noncomputable def rIxT (K:Xa):R2:=λx y H Q=>∃p xs i v,x=.ref p/\y=.int i/\SqT K H p xs/\atI xs i=some v/\Q v H
noncomputable def rIxS:R2:=λx y H Q=>∃z i c,x=.str z/\y=.int i/\z.length<=sizeLine/\atI z.cps.toList i=some c/\Q (.str ⟨#[c]⟩) H
theorem zql:IxR X (rIxL X.K):=by
 intro value slice pins s σ H x y v u Q I rx ry h hs;obtain⟨p,xs,i,z,rfl,rfl,hq,he,q⟩:=h;cases rx;obtain⟨t,rfl⟩:=ry;obtain⟨its,r,pl,hz⟩:=I.list hq;obtain⟨j,h1,h2,h3,h4,h5⟩:=zfA he;obtain⟨w,ew,rw'⟩:=r.get h2;have hl:=r.length;have hn:=zgq;have fin:EP X pins σ Q w s:=⟨z,H,I,rw',q⟩;by_cases h0:0<=i
 ·have hj:i.toNat=j:=by
   rw[seqIndex_of h0 h5]at h1;exact Option.some.inj h1
  exact item_listR pl.isList h0 (by lia) (by rw[hj];simpa using ew) fin hs
 ·have hj:(i+(its.toArray.size:Int)).toNat=j:=by
   rw[seqIndex_neg (by lia) h4]at h1;rw[Xj,<- hl];exact Option.some.inj h1
  exact subscriptTail_builtinR (x:=w) pl.isList.typeIs slot_list_getitem.lookup
   (wpAny_getItem_list_neg (Q:=λr s'=>r=w/\EP X pins σ Q r s') pl.isList (by lia) (by rw[Xj]<;>lia) (by lia) (by rw[hj];simpa using ew) ⟨rfl,fin⟩) hs
theorem zsa:IxR X (rIxT X.K):=by
 intro value slice pins s σ H x y v u Q I rx ry h hs;obtain⟨p,xs,i,z,rfl,rfl,hq,he,q⟩:=h;cases rx;obtain⟨t,rfl⟩:=ry;obtain⟨its,r,pl,hz⟩:=I.tuple hq;obtain⟨j,h1,h2,h3,h4,h5⟩:=zfA he;obtain⟨w,ew,rw'⟩:=r.get h2;have hl:=r.length;have hn:=zgq;have fin:EP X pins σ Q w s:=⟨z,H,I,rw',q⟩;exact subscriptTail_builtinR (x:=w) pl.typeIs slot_tuple_getitem.lookup
  (getItem_tuple (j:=j) (Q:=λr s'=>r=w/\EP X pins σ Q r s') pl (by lia) (by lia) (by rw[Xj,<- hl];exact h1) (by simpa using ew) ⟨rfl,fin⟩) hs
theorem zsb:IxR X rIxS:=by
 intro value slice pins s σ H x y v u Q I rx ry h hs;obtain⟨z,i,c,rfl,rfl,hz,he,q⟩:=h;obtain⟨t,rfl⟩:=rx;obtain⟨t',rfl⟩:=ry;obtain⟨j,h1,h2,h3,h4,h5⟩:=zfA he;have hl:z.cps.toList.length=z.length:=by simp[Str.length]
 rw[hl]at h1 h4 h5;have hn:=zgq;exact tail_any (typeIs_str s z t) slot_str_getitem.lookup (getItem_str (c:=c) (by
  have e1:decide (i < -(2 ^ 63:Int))=false:=decide_eq_false (by lia);have e2:decide (i>=2 ^ 63)=false:=decide_eq_false (by lia);rw[e1,e2,Bool.or_false]) (by rw[h1];simpa using h2) ⟨.str ⟨#[c]⟩,H,I.tok _,⟨_,rfl⟩,q⟩) hs
noncomputable def rIx (K:Xa):R2:=λx y H Q=>rIxL K x y H Q\/rIxT K x y H Q\/rIxS x y H Q
theorem zsc:IxR X (rIx X.K):=zql.or (zsa.or zsb)
theorem zkM (its:List Value)(n j:Nat)(u:Value):Obj.mapSeq (·.setIfInBounds j u) { cls:=.type "list",data:=.seq its.toArray n }={ cls:=.type "list",data:=.seq (its.set j u).toArray n }:=by
 simp[Obj.mapSeq]
theorem Inv.lst {pins:List (Addr×Obj)}{σ:St}{H:Hp}{s:Shared}{p:Addr}{xs:List V}(I:Inv X pins σ H s)(h:H p=some (.lst xs)) :
  ∃(its:List Value) (n:Nat),Vals xs its/\s.heap.get? p=some { cls:=.type "list",data:=.seq its.toArray n }/\xs.length<=sizeLine:=by
 obtain⟨z,its,n,r,e⟩:=I.hok p _ h;exact⟨its,n,r,e,z⟩
theorem Inv.zsd {pins:List (Addr×Obj)}{σ:St}{H:Hp}{s:Shared}{p:Addr}{xs ys:List V}{its its':List Value}{n n':Nat}{f:Obj->Obj}(I:Inv X pins σ H s)(h:H p=some (.lst xs))
  (ho:s.heap.get? p=some { cls:=.type "list",data:=.seq its.toArray n }) (hf:f { cls:=.type "list",data:=.seq its.toArray n }={ cls:=.type "list",data:=.seq its'.toArray n' }) (r:Vals ys its') (hz:ys.length<=sizeLine) (t:Nat) :
  Inv X pins σ (upd H p (.lst ys)) { s with heap:=s.heap.update p f,toks:=t }:=by
 have e:(s.heap.update p f).get? p=some { cls:=.type "list",data:=.seq its'.toArray n' }:=by
  rw[Ye f ho (by rw[hf]<;>rfl),hf]
 refine I.write (x:=p) (e:=p) (by rw[h];trivial) (.inl rfl) (λb u hb q=>(YB _ _ (Ne.symm hb)).trans q) ⟨_,e⟩ ?_;exact⟨hz,its',n',r,e⟩
noncomputable def ztS:V->V->V->Hp->(Hp->Prop)->Prop:=λo i v H Q=>∃p xs k j,o=.ref p/\i=.int k/\H p=some (.lst xs)/\ixN xs.length k=some j/\Q (upd H p (.lst (xs.set j v)))
theorem set_list:PSet X ztS:=by
 intro pins s σ H o i v ov iv u Q I ro ri rv h;obtain⟨p,xs,k,j,rfl,rfl,hp,hj,q⟩:=h;cases ro;obtain⟨t,rfl⟩:=ri;obtain⟨its,n,r,ho,hz⟩:=I.lst hp;obtain⟨h1,h2,h3,h4⟩:=zlO hj;have hl:=r.length;have hn:=zgq;have I':Inv X pins σ (upd H p (.lst (xs.set j v))) { s with heap:=s.heap.update p (Obj.mapSeq (·.setIfInBounds j u)) }:=
  I.zsd hp ho (zkM its n j u) (r.set rv j) (by rw[Ya];exact hz) s.toks
 by_cases h0:0<=k
 ·have hk:k.toNat=j:=by
   rw[seqIndex_of h0 h4]at h1;exact Option.some.inj h1
  exact PySem.W.ki_setAt ho h0 (by lia) (by rw[Xj,<- hl];exact h4) (by rw[hk];exact⟨_,I',q⟩)
 ·have hk:(k+(its.toArray.size:Int)).toNat=j:=by
   rw[seqIndex_neg (by lia) h3]at h1;rw[Xj,<- hl];exact Option.some.inj h1
  exact PySem.W.ki_setBack ho (by lia) (by rw[Xj,<- hl];exact h3) (by lia) (by rw[hk];exact⟨_,I',q⟩)
theorem zhL (lo hi:Option Int)(n:Nat):(sliceBounds lo hi none n).1=((_H.sIx n 0 lo:Nat):Int)/\(sliceBounds lo hi none n).2.1=((_H.sIx n n hi:Nat):Int)/\(sliceBounds lo hi none n).2.2=1:=by
 refine⟨?_,?_,rfl⟩
 ·cases lo with
  | none=>simp[sliceBounds,_H.sIx]
  | some i=>
   simp only[sliceBounds,_H.sIx,Option.getD_none,show(1:Int) > 0 by decide,if_true];by_cases h:i<0
   ·simp only[h,if_true]<;>lia
   ·simp only[h,if_false]<;>lia
 ·cases hi with
  | none=>simp[sliceBounds,_H.sIx]
  | some i=>
   simp only[sliceBounds,_H.sIx,Option.getD_none,show(1:Int) > 0 by decide,if_true];by_cases h:i<0
   ·simp only[h,if_true]<;>lia
   ·simp only[h,if_false]<;>lia
theorem zgQ (its:List Value)(lo hi:Option Int):slicePick its.toArray lo hi none=((its.drop (_H.sIx its.length 0 lo)).take (_H.sIx its.length its.length hi-_H.sIx its.length 0 lo)).toArray:=by
 obtain⟨h1,h2,h3⟩:=zhL lo hi its.toArray.size;unfold slicePick;rw[h1,h2,h3];simp only[sliceRange_one,pick_run,Xj]<;>rfl
noncomputable def rSlL (K:Xa):V->Option Int->Option Int->Hp->VK->Prop:=λx lo hi H Q=>∃a xs,x=.ref a/\SqL K H a xs/\∀p,H p=none->Q (.ref p) (upd H p (.lst (cutV xs lo hi)))
theorem zqm:SlR X (rSlL X.K):=by
 intro pins s σ H x v vl vu lo hi sl Q I rx hs pl pu h;obtain⟨a,xs,rfl,hx,q⟩:=h;cases rx;obtain⟨its,r,ht,hz⟩:=I.list hx;have hlen:=r.length;refine⟨"list",_,slot_list_getitem.lookup,ht.isList.typeIs,?_⟩;refine wpAny_getItem_list_slice ht.isList hs pl pu .none (by simp) ?_ (by rw[Xj]<;>lia);rw[zgQ,<- hlen];refine⟨.ref s.heap.objs.size,_,I.laid (t':=s.toks) (o:=.lst (cutV xs lo hi)) (λb ob q=>Xe _ q) (Xg _) ?_,rfl,q _ (I.hok.fresh (Xg _))⟩;exact⟨XO (ziX xs lo hi) hz,_,0,(r.drop (_H.sIx xs.length 0 lo)).take (_H.sIx xs.length xs.length hi-_H.sIx xs.length 0 lo),Xv _ rfl⟩
noncomputable def zef:V->Bool
 | .non=>true
 | .bl _=>true
 | .int _=>true
 | .str _=>true
 | _=>false
noncomputable def eqV:V->V->Bool
 | .non,.non=>true
 | .bl a,.bl b=>a == b
 | .bl a,.int b=>(if a then 1 else 0) == b
 | .int a,.bl b=>a == (if b then 1 else 0)
 | .int a,.int b=>a == b
 | .str a,.str b=>a == b
 | _,_=>false
theorem zse {A:Around}{s:Shared}{y x:V}{u v:Value}(ry:RelV y u)(rx:RelV x v)(fy:zef y=true)(fx:zef x=true):SeqAt.EqAt A s u v (eqV y x):=by
 cases y with
 | non=>
  cases ry;cases x with
  | non=>cases rx;exact SeqAt.EqAt.same _
  | bl b=>cases rx;exact SeqAt.EqAt.none_bool b
  | int b=>obtain⟨t,rfl⟩:=rx;exact SeqAt.EqAt.none_int b t
  | str b=>obtain⟨t,rfl⟩:=rx;exact SeqAt.EqAt.none_str b t
  | _=>exact absurd (show false=true from fx) Xo
 | bl a=>
  cases ry;cases x with
  | non=>cases rx;exact SeqAt.EqAt.bool_none a
  | bl b=>cases rx;exact SeqAt.EqAt.bool_bool a b
  | int b=>obtain⟨t,rfl⟩:=rx;exact SeqAt.EqAt.bool_int a b t
  | str b=>obtain⟨t,rfl⟩:=rx;exact SeqAt.EqAt.bool_str a b t
  | _=>exact absurd (show false=true from fx) Xo
 | int a=>
  obtain⟨t',rfl⟩:=ry;cases x with
  | non=>cases rx;exact SeqAt.EqAt.int_none a t'
  | bl b=>cases rx;exact SeqAt.EqAt.int_bool a t' b
  | int b=>obtain⟨t,rfl⟩:=rx;exact SeqAt.EqAt.int_int a t' b t
  | str b=>obtain⟨t,rfl⟩:=rx;exact SeqAt.EqAt.int_str a t' b t
  | _=>exact absurd (show false=true from fx) Xo
 | str a=>
  obtain⟨t',rfl⟩:=ry;cases x with
  | non=>cases rx;exact SeqAt.EqAt.str_none a t'
  | bl b=>cases rx;exact SeqAt.EqAt.str_bool a t' b
  | int b=>obtain⟨t,rfl⟩:=rx;exact SeqAt.EqAt.str_int a t' b t
  | str b=>obtain⟨t,rfl⟩:=rx;exact SeqAt.EqAt.str_str a t' b t
  | _=>exact absurd (show false=true from fx) Xo
 | _=>exact absurd (show false=true from fy) Xo
noncomputable def eqU (x:V)(u:Value):Bool:=match u with
 | .none=>eqV .non x
 | .bool b=>eqV (.bl b) x
 | .int i _=>eqV (.int i) x
 | .str z _=>eqV (.str z) x
 | _=>false
theorem zpo {x y:V}{u:Value}(r:RelV y u)(f:zef y=true):eqU x u=eqV y x:=by
 cases y with
 | non=>cases r;rfl
 | bl b=>cases r;rfl
 | int i=>obtain⟨t,rfl⟩:=r;rfl
 | str z=>obtain⟨t,rfl⟩:=r;rfl
 | _=>exact absurd (show false=true from f) Xo
theorem zgR {A:Around}{s:Shared}{x:V}{v:Value}(rx:RelV x v)(fx:zef x=true):∀ {xs:List V}{us:List Value},Vals xs us->xs.all zef=true->∀u∈us,SeqAt.EqAt A s u v (eqU x u)
 | _,_,.nil,_=>λu hu=>by cases hu
 | y::xs,u::us,.cons r t,f=>λu' hu=>by
  rw[List.all_cons,Yn]at f;rcases Xu.mp hu with rfl | hu
  ·rw[zpo r f.1];exact zse r rx f.1 fx
  ·exact zgR rx fx t f.2 u' hu
theorem zhM:zdh X (.type "list") (λxs H Q=>∃p ys,xs=[.ref p]/\(SqL X.K H p ys\/SqT X.K H p ys)/\∀l,H l=none->Q (.ref l) (upd H l (.lst ys))):=by
 intro pins s σ H xs us Q I r h;obtain⟨p,ys,rfl,hq,q⟩:=h;obtain⟨u,rfl,rx⟩:=vals1 r;cases rx;have fin:∀(its:List Value),Vals ys its->ys.length<=sizeLine->∀(h':Heap) (c':Nat),(∀b o',s.heap.get? b=some o'->h'.get? b=some o')->
   h'.get? s.heap.objs.size=some { cls:=.type "list",dict:=none,data:=.seq its.toArray c',slots:=#[] }->EP X pins σ Q (.ref s.heap.objs.size) { s with heap:=h' }:=λits r' hz h' c' kp e=>
  ⟨.ref s.heap.objs.size,_,I.laid (t':=s.toks) kp (Xg _) (show zbt X.prog X.w _ h' _ (.lst ys) from⟨hz,its,c',r',e⟩),rfl,q _ (I.hok.fresh (Xg _))⟩
 rcases hq with hq | hq
 ·obtain⟨its,r',pl,hz⟩:=I.list hq;have hlen:=r'.length;obtain⟨o,ho,hc,n,hd⟩:=pl.isList;exact call_list_seq p (.inl rfl) ho hc hd (λh' c' kp e=>fin its r' hz h' c' kp e) (by simp only[Xj]<;>lia)
 ·obtain⟨its,r',pl,hz⟩:=I.tuple hq;have hlen:=r'.length;obtain⟨o,ho,hc,n,hd⟩:=pl;exact call_list_seq p (.inr rfl) ho hc hd (λh' c' kp e=>fin its r' hz h' c' kp e) (by simp only[Xj]<;>lia)
theorem zgS:zdh X (.type "tuple") (λxs H Q=>∃p ys,xs=[.ref p]/\((SqL X.K H p ys/\∀l,H l=none->Q (.ref l) (upd H l (.tup ys)))\/(SqT X.K H p ys/\Q (.ref p) H))):=by
 intro pins s σ H xs us Q I r h;obtain⟨p,ys,rfl,h⟩:=h;obtain⟨u,rfl,rx⟩:=vals1 r;cases rx;rcases h with ⟨hq,q⟩ | ⟨hq,q⟩
 ·obtain⟨its,r',pl,hz⟩:=I.list hq;have hlen:=r'.length;refine call_tuple_list pl.isList (λh' kp=>?_) (by simp only[Xj]<;>lia);have I1:Inv X pins σ H { s with heap:=h' }:=I.kept (t':=s.toks) kp;have I2:Inv X pins σ (upd H h'.objs.size (.tup ys)) { s with heap:=h'.push { cls:=.type "tuple",data:=.seq its.toArray } }:=
   I1.laid (t':=s.toks) (λb o e=>Xe _ e) (Xg _) (show zbt X.prog X.w _ _ _ (.tup ys) from⟨hz,its,r',zcF.new _ _⟩)
  exact⟨.ref h'.objs.size,_,I2,rfl,q _ (I1.hok.fresh (Xg _))⟩
 ·obtain⟨its,r',pl,hz⟩:=I.tuple hq;exact call_tuple_same pl ⟨.ref p,H,I,rfl,q⟩
noncomputable def tyV (K:Xa)(T:String)(x:V)(H:Hp):Prop:=match x with
 | .str _=>T = "str"
 | .int _=>T = "int"
 | .ref p=>(T = "list"/\∃xs,SqL K H p xs)\/(T = "tuple"/\∃o,K.lookup p=some o/\o.cls=.type "tuple"/\o.dict=none)\/
   (T = "dict"/\((∃kvs,H p=some (.dK kvs))\/∃kvs,H p=some (.dT kvs)))\/(T = "set"/\∃S n,H p=some (.set S n))
 | _=>False
theorem zsf {pins:List (Addr×Obj)}{σ:St}{H:Hp}{s:Shared}{T:String}{x:V}{v:Value}(I:Inv X pins σ H s)(r:RelV x v)(ty:tyV X.K T x H) :
  s.TypeIs v T/\∀a,v=.ref a->∃ob,s.heap.get? a=some ob/\ob.dict=none:=by
 cases x with
 | str z=>
  obtain⟨t,rfl⟩:=r;cases (show T = "str" from ty);exact⟨typeIs_str s z t,λ_ e=>nomatch e⟩
 | int i=>
  obtain⟨t,rfl⟩:=r;cases (show T = "int" from ty);exact⟨typeIs_int s i t,λ_ e=>nomatch e⟩
 | ref p=>
  cases r;rcases ty with ⟨rfl,xs,hq⟩ | ⟨rfl,o,hk,hc,hd⟩ | ⟨rfl,hk⟩ | ⟨rfl,S,n,hk⟩
  ·obtain⟨its,_,pl,_⟩:=I.list hq;refine⟨pl.isList.typeIs,λa e=>?_⟩;cases e;obtain⟨o,n,e,c,hd,_⟩:=pl;exact⟨o,e,hd⟩
  ·refine⟨⟨o,I.kIn p o hk,hc⟩,λa e=>?_⟩;cases e;exact⟨o,I.kIn _ o hk,hd⟩
  ·have z:∃o,s.heap.get? p=some o/\o.ExactDict:=by
    rcases hk with ⟨kvs,hk⟩ | ⟨kvs,hk⟩
    ·obtain⟨_,_,_,_,o,_,_,e,ex,_⟩:=I.hok p _ hk;exact⟨o,e,ex⟩
    ·obtain⟨_,_,_,_,o,_,_,e,ex,_⟩:=I.hok p _ hk;exact⟨o,e,ex⟩
   obtain⟨o,e,ex⟩:=z;refine⟨⟨o,e,ex.1⟩,λa e2=>?_⟩;cases e2;exact⟨o,e,ex.2.1⟩
  ·obtain⟨o,_,_,_,e,ex,_⟩:=I.hok p _ hk;refine⟨⟨o,e,ex.1⟩,λa e2=>?_⟩;cases e2;exact⟨o,e,ex.2.1⟩
 | _=>exact False.elim ty
noncomputable def tBM (K:Xa)(T:String)(r:V->List V->Hp->VK->Prop)(to:TE)(t:TA):TE:=λσ H Q=>to σ H λx H1=>tyV K T x H1/\t σ H1 λxs H2=>r x xs H2 Q
variable {o e:Expr}{es:List Expr}{to:TE}{t:TA}{name:Str}{apos cpos:Pos}{T id:String}{r:V->List V->Hp->VK->Prop}
theorem zqn (pa:PlainAttrs T)(slot:Slot T name id)(hty:typeOf (.builtin id)=pure (.type "method_descriptor")) (hm:MtR X id r) (ho:PE X o to) (ha:PA X (e::es) t)
  (hbase:autoParam (attributeBase o name X.env (eval o X.env)=eval o X.env) aU0)
  (hfew:autoParam (((backTo cpos (starEach (e::es) X.env)).all (λx=>!x.1)&&(backToKw cpos (keywordEach [] X.env)).all (λx=>x.1.isSome)
   && decide ((e::es).length+([]:List Keyword).length+(if ([]:List Keyword).isEmpty then 0 else 1)<30))=true) aU0)
  (hline:autoParam ((apos.endLine == cpos.line)=true) aU0) (hs:autoParam (starEach (e::es) X.env=(false,eval e X.env)::starEach es X.env) aU0) (hplain:autoParam ((backTo cpos (starEach es X.env)).any (·.1)=false) aU0) :
  PE X (.Call (.Attribute o name apos) (e::es) [] cpos) (tBM X.K T r to t):=by
 intro pins s σ H Q I h;refine wpAny_Call_method_late hbase hfew hline rfl (thn (ho pins s σ H _ I h) λv s1 q49q=>?_);obtain⟨x,H1,I1,r1,ty,q1⟩:=q49q;obtain⟨h1,h2⟩:=zsf I1 r1 ty;refine⟨T,id,pa,slot,hty,h1,h2,?_⟩;have hA:=ha cpos pins s1 σ H1 _ I1 q1;rw[hs]at hA ⊢;refine Calls.callWith_builtin (by show(false||(backTo cpos (starEach es X.env)).any (·.1))=false;rw[hplain]<;>rfl) (Calls.evalArgs_plain ?_)
 exact thn hA λus s2 q50q=>by obtain⟨vs,H2,I2,r2,q2⟩:=q50q;exact hm pins s2 σ H2 x vs v us Q I2 r1 r2 q2
end
noncomputable def MtM (X:Cx)(id:String)(r:V->List V->Hp->VK->Prop):Prop:=
 ∀(pins:List (Addr×Obj)) (s:Shared) (σ:St) (H:Hp) (x:V) (xs:List V) (v:Value) (us:List Value) (Q:VK),Inv X pins σ H s->RelV x v->Vals xs us->r x xs H Q->
  wpAny (model X.prog X.w) X.A (call (.builtin id) (v::us)) (EP X pins σ Q) X.xe s
theorem Vals.one:∀ {x:V}{us:List Value},Vals [x] us->∃u,us=[u]/\RelV x u:=by
 intro x us h;cases h with
 | cons r t=>cases t;exact⟨_,rfl,r⟩
section
variable {X:Cx}{pins:List (Addr×Obj)}{σ:St}{H:Hp}{s:Shared}{l b:Addr}{xs ys zs:List V}
theorem Inv.lset {its its':List Value}{n:Nat}{f:Array Value->Array Value}{t':Nat}(I:Inv X pins σ H s)(hH:H l=some (.lst xs))
  (e:s.heap.get? l=some { cls:=.type "list",data:=.seq its.toArray n }) (hf:f its.toArray=its'.toArray) (hv:Vals ys its') (hz:ys.length<=sizeLine) :
  Inv X pins σ (upd H l (.lst ys)) { s with heap:=s.heap.update l (Obj.mapSeq f),toks:=t' }:=by
 have q:=PySem.IsL.update e f;rw[hf]at q;refine I.write (x:=l) (e:=l) (by rw[hH];exact trivial) (.inl rfl) (λb' u hb hu=>(YB s.heap (Obj.mapSeq f) (Ne.symm hb)).trans hu) ⟨_,q⟩ ?_;exact⟨hz,its',_,hv,q⟩
theorem Inv.lnew {its:List Value}{t':Nat}(I:Inv X pins σ H s)(hv:Vals ys its)(hz:ys.length<=sizeLine) :
  Inv X pins σ (upd H s.heap.objs.size (.lst ys)) { s with heap:=s.heap.push { cls:=.type "list",data:=.seq its.toArray },toks:=t' }:=
 I.laid (λ_ _ q=>Xe _ q) (Xg _) ⟨hz,its,0,hv,Xv _ rfl⟩
theorem Inv.fresh (I:Inv X pins σ H s):H s.heap.objs.size=none:=I.hok.fresh (Xg _)
theorem Inv.lstM (I:Inv X pins σ H s)(hH:H l=some (.lst xs)):xs.length<=sizeLine/\∃(its:List Value)(n:Nat),Vals xs its/\xs.length=its.length/\s.heap.get? l=some { cls:=.type "list",data:=.seq its.toArray n }:=by
 obtain⟨z,its,n,r,e⟩:=I.hok l _ hH;exact⟨z,its,n,r,r.length,e⟩
theorem zjG {n:Nat}(h:n<=sizeLine):Builtin.List.listTooLong n=false:=by
 unfold Builtin.List.listTooLong;exact decide_eq_false (by lia)
end
section
variable {X:Cx}
noncomputable def zqo:V->List V->Hp->VK->Prop:=λx vs H Q=>∃l xs y,x=.ref l/\vs=[y]/\H l=some (.lst xs)/\xs.length<sizeLine/\Q .non (upd H l (.lst (xs++[y])))
theorem zhN:MtM X "list.append" zqo:=by
 intro pins s σ H x vs v us Q I rx rv h;obtain⟨l,xs,y,rfl,rfl,hH,hz,q⟩:=h;cases rx;obtain⟨u,rfl,ru⟩:=rv.one;obtain⟨z,its,n,r,hl,e⟩:=I.lstM hH;refine call_meets F.slot_list_append ⟨_,e,rfl⟩ F.entry_list_append (F.args_list_append_2 _ _) (PySem.list_append l its.toArray n u (by rw[Xj];lia)) ⟨e,?_⟩;refine⟨.non,_,I.lset (its':=its++[u]) hH e (by simp) (r.append (.cons ru .nil)) ?_,rfl,q⟩;rw[Xq,YF];lia
noncomputable def zqp:V->List V->Hp->VK->Prop:=λx vs H Q=>∃l b xs zs,x=.ref l/\vs=[.ref b]/\H l=some (.lst xs)/\H b=some (.lst zs)/\xs.length+zs.length<=sizeLine/\Q .non (upd H l (.lst (xs++zs)))
theorem zlP:MtM X "list.extend" zqp:=by
 intro pins s σ H x vs v us Q I rx rv h;obtain⟨l,b,xs,zs,rfl,rfl,hH,hB,hz,q⟩:=h;cases rx;obtain⟨u,rfl,ru⟩:=rv.one;cases ru;obtain⟨z,its,n,r,hl,e⟩:=I.lstM hH;obtain⟨z2,its2,n2,r2,hl2,e2⟩:=I.lstM hB;have hsz:its.toArray.size+its2.toArray.size<=sizeLine:=by rw[Xj,Xj];lia
 have hlong:¬ (!its.toArray.isEmpty&&Builtin.List.listTooLong (its.toArray.size+its2.toArray.size))=true:=by
  rw[zjG hsz,Bool.and_false];exact Xo
 refine call_meets F.slot_list_extend ⟨_,e,rfl⟩ F.entry_list_extend (F.args_list_extend_2 _ _)
  (AutoSeq1.list_extend_list_list_0 l its.toArray n b its2.toArray n2 hlong (by rw[Xj];lia) (by lia)) ⟨e,e2,?_⟩
 refine⟨.non,_,I.lset (its':=its++its2) hH e (by simp) (r.append r2) ?_,rfl,q⟩;rw[Xq];lia
end
section
variable {κ:Type} [DecidableEq κ]
noncomputable def valV (kvs:List (κ×V))(k:κ):Option V:=(kvs.find? λkv=>decide (kv.1=k)).map (·.2)
noncomputable def putK (kvs:List (κ×V))(k:κ)(v:V):List (κ×V):=
 if (kvs.any λkv=>decide (kv.1=k))=true then kvs.map (λkv=>if kv.1=k then(kv.1,v) else kv) else kvs++[(k,v)]
theorem zgT {p:κ×V}{r:List (κ×V)}{k:κ}(e:p.1=k):valV (p::r) k=some p.2:=by simp[valV,Ys,e]
theorem zgU {p:κ×V}{r:List (κ×V)}{k:κ}(e:¬ p.1=k):valV (p::r) k=valV r k:=by simp[valV,Ys,e]
theorem zjH (k:κ):∀kvs:List (κ×V),(kvs.any λkv=>decide (kv.1=k))=(valV kvs k).isSome
 | []=>rfl
 | p::r=>by
  rw[List.any_cons];by_cases e:p.1=k
  ·simp only[zgT e,decide_eq_true e,Bool.true_or,Option.isSome_some]
  ·rw[zgU e,decide_eq_false e,Bool.false_or];exact zjH k r
theorem zfB (kvs:List (κ×V))(k:κ)(v:V):(putK kvs k v).length<=kvs.length+1:=by
 unfold putK;split
 ·rw[Xb];lia
 ·rw[Xq,XG,YC];lia
theorem RelO.zlQ {o:Option V}{u:Option Value}(r:RelO o u):o.isSome=u.isSome:=by
 cases o with
 | none=>cases u with
  | none=>rfl
  | some _=>exact(show False from r).elim
 | some _=>cases u with
  | none=>exact(show False from r).elim
  | some _=>rfl
theorem KV.val {kvs:List (κ×V)}{vs:List (κ×Value)}(r:KV kvs vs)(k:κ):RelO (valV kvs k) (valueAt vs k):=by
 unfold KV at r;induction r with
 | nil=>exact True.intro
 | @cons p q ps qs h t ih=>
  obtain⟨h1,h2⟩:=h;by_cases e:p.1=k
  ·have e':q.1=k:=h1.symm.trans e;have b:valueAt (q::qs) k=some q.2:=by simp[valueAt,Ys,e']
   rw[zgT e,b];exact h2
  ·have e':¬ q.1=k:=λz=>e (h1.trans z);have b:valueAt (q::qs) k=valueAt qs k:=by simp[valueAt,Ys,e']
   rw[zgU e,b];exact ih
theorem KV.any {kvs:List (κ×V)}{vs:List (κ×Value)}(r:KV kvs vs)(k:κ):(kvs.any λkv=>decide (kv.1=k))=vs.any λkv=>decide (kv.1=k):=by
 unfold KV at r;induction r with
 | nil=>rfl
 | cons h t ih=>rw[List.any_cons,List.any_cons,ih,h.1]
theorem KV.repl {kvs:List (κ×V)}{vs:List (κ×Value)}(r:KV kvs vs)(k:κ){y:V}{u:Value}(ry:RelV y u) :
  KV (kvs.map λkv=>if kv.1=k then(kv.1,y) else kv) (vs.map λkv=>if kv.1=k then(kv.1,u) else kv):=by
 unfold KV at r ⊢;induction r with
 | nil=>exact .nil
 | @cons p q ps qs h t ih=>
  rw[Xy,Xy];refine .cons ?_ ih;obtain⟨h1,h2⟩:=h;by_cases e:p.1=k
  ·rw[if_pos e,if_pos (h1.symm.trans e)];exact⟨h1,ry⟩
  ·rw[if_neg e,if_neg (λz=>e (h1.trans z))];exact⟨h1,h2⟩
theorem KV.put {kvs:List (κ×V)}{vs:List (κ×Value)}(r:KV kvs vs)(k:κ){y:V}{u:Value}(ry:RelV y u):KV (putK kvs k y) (stored vs k u):=by
 unfold putK stored;rw[r.any k];by_cases e:(vs.any λkv=>decide (kv.1=k))=true
 ·rw[if_pos e,if_pos e];exact r.repl k ry
 ·rw[if_neg e,if_neg e];exact Paired.snoc r ⟨rfl,ry⟩
theorem KV.length {kvs:List (κ×V)}{vs:List (κ×Value)}(r:KV kvs vs):kvs.length=vs.length:=Paired.length r
end
theorem zqq {P:Program}{w:World}{k:Key}{u:Value}(r:RelV (kV k) u):(zaK P w).is k u=true:=by
 cases k with
 | inl i=>obtain⟨t,e⟩:=(show ∃t,u=Value.int i t from r);subst e;exact zfu P w i t
 | inr x=>obtain⟨t,e⟩:=(show ∃t,u=Value.str x t from r);subst e;exact zfv P w x t
theorem zhO {P:Program}{w:World}:∀ {ks:List Key}{us:List Value},Vals (ks.map kV) us->ItemsAre (zaK P w) ks us
 | [],_,r=>by rw[List.map_nil]at r;cases r;exact .nil
 | k::ks,_,r=>by
  rw[Xy]at r;cases r with
  | cons h t=>exact .cons (zqq h) (zhO t)
noncomputable abbrev KT (H:Hp):List (List Key×V)->List (List Key×Addr×Value)->Prop:=Paired λp q=>p.1=q.1/\H q.2.1=some (.tup (p.1.map kV))/\RelV p.2 q.2.2
theorem KT.val {H:Hp}{kvs:List (List Key×V)}{xs:List (List Key×Addr×Value)}(r:KT H kvs xs)(k:List Key):RelO (valV kvs k) ((atKey xs k).map (·.2)):=by
 induction r with
 | nil=>exact True.intro
 | @cons p q ps qs h t ih=>
  obtain⟨h1,_,h2⟩:=h;by_cases e:p.1=k
  ·have e':q.1=k:=h1.symm.trans e;have b:atKey (q::qs) k=some q.2:=by simp[atKey,Ys,e']
   rw[zgT e,b];exact h2
  ·have e':¬ q.1=k:=λz=>e (h1.trans z);have b:atKey (q::qs) k=atKey qs k:=by simp[atKey,Ys,e']
   rw[zgU e,b];exact ih
theorem KT.repl {H:Hp}{kvs:List (List Key×V)}{xs:List (List Key×Addr×Value)}(r:KT H kvs xs)(k:List Key){y:V}{u:Value}(ry:RelV y u) :
  KT H (kvs.map λkv=>if kv.1=k then(kv.1,y) else kv) (xs.map (putAt k u)):=by
 induction r with
 | nil=>exact .nil
 | @cons p q ps qs h t ih=>
  rw[Xy,Xy];refine .cons ?_ ih;obtain⟨h1,h2,h3⟩:=h;unfold putAt;by_cases e:p.1=k
  ·rw[if_pos e,if_pos (h1.symm.trans e)];exact⟨h1,h2,ry⟩
  ·rw[if_neg e,if_neg (λz=>e (h1.trans z))];exact⟨h1,h2,h3⟩
theorem KT.put {H:Hp}{kvs:List (List Key×V)}{xs:List (List Key×Addr×Value)}(r:KT H kvs xs)(k:List Key){b:Addr}{y:V}{u:Value}(hb:H b=some (.tup (k.map kV)))(ry:RelV y u) :
  KT H (putK kvs k y) (storedH xs k b u):=by
 have e:(kvs.any λkv=>decide (kv.1=k))=(atKey xs k).isSome:=by
  rw[zjH,(r.val k).zlQ,Option.isSome_map]
 unfold putK storedH;rw[e];by_cases q:(atKey xs k).isSome=true
 ·rw[if_pos q,if_pos q];exact r.repl k ry
 ·rw[if_neg q,if_neg q];exact Paired.snoc r ⟨rfl,hb,ry⟩
theorem KT.keeps {H H':Hp}{kvs:List (List Key×V)}{xs:List (List Key×Addr×Value)}(r:KT H kvs xs)(ht:∀b ys,H b=some (.tup ys)->H' b=some (.tup ys)):KT H' kvs xs:=
 Paired.mapP r λ_ _ z=>⟨z.1,ht _ _ z.2.1,z.2.2⟩
section
variable {P:Program}{w:World}{H:Hp}{h:Heap}{a:Addr}
theorem zsg {u:HO}(ok:HOk P w H h)(e:Rd H a u):zbt P w H h a u:=e.ok ok
theorem zlR {kvs:List (Key×V)}(ok:HOk P w H h)(e:Rd H a (.dK kvs)):kvs.length<=sizeLine/\(a == sysModules)=false/\∃vs,KV kvs vs/\h.DictOf (zaK P w) a vs:=
 show zbt P w H h a (.dK kvs) from zsg ok e
theorem ztT {kvs:List (Key×V)}(ok:HOk P w H h)(e:H a=some (.dK kvs)):kvs.length<=sizeLine/\(a == sysModules)=false/\∃vs,KV kvs vs/\h.DictOf (zaK P w) a vs:=zlR ok (.inl e)
theorem zlS {ks:List Key}(ok:HOk P w H h)(e:H a=some (.tup (ks.map kV))):(tupleKind (zaK P w)).is h ks a:=by
 obtain⟨_,its,r,o,h1,h2,⟨n,h3⟩,_⟩:=(show zbt P w H h a (.tup (ks.map kV)) from ok a _ e);exact⟨o,its.toArray,n,h1,h2,h3,by simpa using zhO r⟩
theorem zoc {kvs:List (List Key×V)}(ok:HOk P w H h)(e:Rd H a (.dT kvs)):kvs.length<=sizeLine/\(a == sysModules)=false/\
  ∃xs,KT H kvs xs/\h.DictOfH (tupleKind (zaK P w)) a xs:=by
 obtain⟨z,y,xs,r,o,es,ep,h1,h2,h3,h4,h5⟩:=(show zbt P w H h a (.dT kvs) from zsg ok e);refine⟨z,y,xs,r,o,es,ep,h1,h2,h3,h4,λx hx=>?_,h5⟩;have all:∀ {l:List (List Key×V)} {m:List (List Key×Addr×Value)},KT H l m->∀x∈m,(tupleKind (zaK P w)).is h x.1 x.2.1:=by
  intro l m q;induction q with
  | nil=>intro x hx;exact nomatch hx
  | @cons p q ps qs hq t ih=>
   intro x hx;rcases Xu.mp hx with e | hx
   ·subst e;exact zlS ok (by rw[<- hq.1];exact hq.2.1)
   ·exact ih x hx
 exact all r x hx
theorem ztU {kvs:List (List Key×V)}(ok:HOk P w H h)(e:H a=some (.dT kvs)):kvs.length<=sizeLine/\(a == sysModules)=false/\
  ∃xs,KT H kvs xs/\h.DictOfH (tupleKind (zaK P w)) a xs:=zoc ok (.inl e)
end
noncomputable def DGet (H:Hp)(a:Addr)(y:V)(r:Option V):Prop:=
 (∃kvs k,Rd H a (.dK kvs)/\y=kV k/\r=valV kvs k)\/∃kvs k b,Rd H a (.dT kvs)/\y=.ref b/\H b=some (.tup (k.map kV))/\r=valV kvs k
noncomputable def DPut (H:Hp)(a:Addr)(y v:V)(H':Hp):Prop:=
 (∃kvs k,H a=some (.dK kvs)/\y=kV k/\kvs.length<sizeLine/\H'=upd H a (.dK (putK kvs k v)))\/
 ∃kvs k b,H a=some (.dT kvs)/\y=.ref b/\H b=some (.tup (k.map kV))/\kvs.length<sizeLine/\H'=upd H a (.dT (putK kvs k v))
theorem DPut.k {H:Hp}{a:Addr}{kvs:List (Key×V)}{k:Key}{v:V}(e:H a=some (.dK kvs))(hl:kvs.length<sizeLine):DPut H a (kV k) v (upd H a (.dK (putK kvs k v))):=.inl ⟨kvs,k,e,rfl,hl,rfl⟩
section
variable {X:Cx}{pins:List (Addr×Obj)}{σ:St}{H:Hp}{s:Shared}{a:Addr}{y v:V}{u r:Value}{o:Option V}{A:Around}{E:Value->Shared->Prop}
theorem Inv.big (I:Inv X pins σ H s):sysModules<s.heap.objs.size:=by
 have h:mainGlobals<s.heap.objs.size:=(I.mod.glob.keeps I.bk).lt;exact Nat.lt_trans (by decide) h
theorem zlT {Q:Value->Shared->Prop}(hu:A.units+1<cLine)(I:Inv X pins σ H s)(g:DGet H a y (some v))(ry:RelV y u)(h:∀w' s',Inv X pins σ H s'->RelV v w'->Q w' s') :
  wpAny (model X.prog X.w) A (getItem (.ref a) u) Q E s:=by
 rcases g with ⟨kvs,k,e,ey,l⟩ | ⟨kvs,k,b,e,ey,eb,l⟩
 ·subst ey;obtain⟨z,hd,vs,rel,dd⟩:=zlR I.hok e;obtain⟨w',hw,rw'⟩:=RelO.some_of (v:=v) (o:=valueAt vs k) (by rw[l];exact rel.val k);exact wpAny_getItem_of (zqq ry) dd.mapOf hw (h w' _ (I.tok _) rw')
 ·subst ey;cases (show u=Value.ref b from ry);obtain⟨z,hd,xs,rel,dd⟩:=zoc I.hok e;obtain⟨w',hw,rw'⟩:=RelO.some_of (v:=v) (o:=(atKey xs k).map (·.2)) (by rw[l];exact rel.val k);obtain⟨p,hp,hp2⟩:=Option.map_eq_some_iff.mp hw;refine wpAny_getItem_heap (tupleKind_room_in1 hu) (zlS I.hok eb) dd hp ?_;rw[hp2];exact h w' _ (I.tok _) rw'
theorem zlU {h':Heap}{t':Nat}{ob:HO}(I:Inv X pins σ H s)(mu:Mut (H a))(hs:Yf a s.heap h')(he:∃q,h'.get? a=some q)(new:zbt X.prog X.w (upd H a ob) h' a ob) :
  Inv X pins σ (upd H a ob) { s with heap:=h',toks:=t' }:=
 I.write (x:=a) (e:=a) mu (.inl rfl) (λb q hb z=>(hs.2 b hb).trans z) he new
theorem zpp {P:Program}{w:World}{H':Hp}{h':Heap}{kvs:List (Key×V)}{vs:List (Key×Value)}(z:kvs.length<=sizeLine)(hd:(a == sysModules)=false)(rel:KV kvs vs)(dd:h'.DictOf (zaK P w) a vs) :
  zbt P w H' h' a (.dK kvs):=⟨z,hd,vs,rel,dd⟩
theorem zlV {H':Hp}{Q:Unit->Shared->Prop}(hu:A.units+1<cLine)(I:Inv X pins σ H s)(g:DPut H a y v H')(ry:RelV y u)(rv:RelV v r)(h:∀s',Inv X pins σ H' s'->Q () s') :
  wpAny (model X.prog X.w) A (setItem (.ref a) u r) Q E s:=by
 rcases g with ⟨kvs,k,e,ey,l,eH⟩ | ⟨kvs,k,b,e,ey,eb,l,eH⟩
 ·subst ey eH;obtain⟨z,hd,vs,rel,dd⟩:=ztT I.hok e;have hz:vs.length<=sizeLine:=by rw[<- rel.length];exact z
  have hl:(putK kvs k v).length<=sizeLine:=by have:=zfB kvs k v;lia
  refine wpAny_setItem_pairs (hsz:=hz) (zqq ry) dd λh' dd' hs=>h _ ?_;have he:∃q,h'.get? a=some q:=let ⟨q,_,_,hq,_⟩:=dd';⟨q,hq⟩;exact zlU I (by rw[e];exact True.intro) hs he (zpp hl hd (rel.put k rv) dd')
 ·subst ey eH;cases (show u=Value.ref b from ry);obtain⟨z,hd,xs,rel,dd⟩:=ztU I.hok e;have hz:xs.length<=sizeLine:=by rw[<- Paired.length rel];exact z
  have hl:(putK kvs k v).length<=sizeLine:=by have:=zfB kvs k v;lia
  refine wpAny_setItem_heap (hsz:=hz) (tupleKind_room_in1 hu) (zlS I.hok eb) dd λh' dd' hs=>h _ ?_;obtain⟨q,es,ep,hq,h2,h3,h4,_,h5⟩:=dd';refine zlU I (by rw[e];exact True.intro) hs ⟨q,hq⟩ ⟨hl,hd,_,(rel.put k eb rv).keeps λc ys ec=>?_,q,es,ep,hq,h2,h3,h4,h5⟩;rw[zah (ztx ec e (λz=>nomatch z))];exact ec
end
section
variable {X:Cx}{pins:List (Addr×Obj)}{σ:St}{H:Hp}{s:Shared}{a:Addr}{kvs:List (Key×V)}{k:Key}{u:Value}{A:Around}{E:Value->Shared->Prop}
theorem ztV {Q:Value->Shared->Prop}(I:Inv X pins σ H s)(e:Rd H a (.dK kvs))(h:∀t s',Inv X pins σ H s'->Q (.int kvs.length t) s'):wpAny (model X.prog X.w) A (call (.builtin "len") [.ref a]) Q E s:=by
 obtain⟨z,hd,vs,rel,dd⟩:=zlR I.hok e;refine call_len_dict hd dd (by rw[<- rel.length];rw[sizeLine_eq]at z;lia) ?_;rw[<- rel.length];exact h _ _ (I.tok _)
end
noncomputable def NoSl (i:Expr):Prop:=∀ov iv,subscripted i false ov iv=operate [ov,iv] (getItem ov iv)
theorem zqr {prog:Program}{w:World}{A:Around}{E:Value->Shared->Prop}{s:Shared}{env:Env}{value slice:Expr}{pos:Pos}{T id:String}{Q:Value->Shared->Prop}
  (hl:typeLookup (.type T) "__getitem__" = pure (some (.builtin id))) (hs:NoSl slice)
  (h:wpAny (model prog w) A (eval value env) (λo s₁=>wpAny (model prog w) A (eval slice env) (λi s₂=>s₂.TypeIs o T/\wpAny (model prog w) A (getItem o i) Q E s₂) E s₁) E s) :
  wpAny (model prog w) A (eval (.Subscript value slice pos) env) Q E s:=by
 refine Subscript_ (wpAny_mono h (λo s₁ h₁=>wpAny_mono h₁ (λi s₂ h₂=>?_) λ_ _ x=>x) λ_ _ x=>x);obtain⟨hT,h₂⟩:=h₂;unfold subscriptTail;refine wpAny_bind ?_;rw[getitemInPython_of_ne hT.not_modules];refine wpAny_bind (wpAny_specialOf hT hl ?_);have fin:wpAny (model prog w) A (subscripted slice false o i) (λr s₃=>wpAny (model prog w) A (letTemporaryGo value o r >>= λ_=>pure r) Q E s₃) E s₂:=by
  rw[hs o i];exact wpAny_operating (wpAny_mono h₂ (λr s₃ h₃=>wpAny_bind (wpAny_letTemporaryGo (wpAny_pure h₃))) λ_ _ x=>x)
 first
  | exact wpAny_pure (wpAny_bind fin)
  | exact wpAny_bind (wpAny_pure (wpAny_bind fin))
  | exact wpAny_bind fin
theorem ziZ {X:Cx}{pins:List (Addr×Obj)}{σ:St}{H:Hp}{s:Shared}{a:Addr}{y:V}{o:Option V}(I:Inv X pins σ H s)(g:DGet H a y o):s.TypeIs (.ref a) "dict":=by
 rcases g with ⟨kvs,k,e,_,_⟩ | ⟨kvs,k,b,e,_,_,_⟩
 ·obtain⟨_,_,vs,_,dd⟩:=zlR I.hok e;exact dd.typeIs
 ·obtain⟨_,_,xs,_,dd⟩:=zoc I.hok e;exact dd.typeIs
noncomputable def ztW (td ty:TE):TE:=λσ H Q=>td σ H λx H1=>ty σ H1 λy H2=>∃a v,x=.ref a/\DGet H2 a y (some v)/\Q v H2
noncomputable def ztX (td ty tv:TE):TS:=λD σ H=>tv σ H λv H1=>td σ H1 λx H2=>ty σ H2 λy H3=>∃a H4,x=.ref a/\DPut H3 a y v H4/\D.nx σ H4
section
variable {X:Cx}{o i e value:Expr}{pos pos' tpos:Pos}{td ty tv:TE}
theorem zqs (hu:X.A.units+1<cLine)(ho:PE X o td)(hi:PE X i ty)(hs:NoSl i):PE X (.Subscript o i pos) (ztW td ty):=by
 intro pins s σ H Q I h;refine zqr PySem.F.slot_dict_getitem.lookup hs (thn (ho pins s σ H _ I h) λu s1 ⟨x,H1,I1,rx,q1⟩=>thn (hi pins s1 σ H1 _ I1 q1) λiv s2 q52q=>?_);obtain⟨y,H2,I2,ry,a,v,ex,g,q2⟩:=q52q;subst ex;obtain rfl:u=Value.ref a:=rx;exact⟨ziZ I2 g,zlT hu I2 g ry λw' s3 I3 rw'=>⟨v,H2,I3,rw',q2⟩⟩
theorem zqt (hu:X.A.units+1<cLine)(ho:PE X o td)(hi:PE X i ty)(hv:PE X value tv)(hs:swapsWith value (some (.Subscript o i pos')) pos.line X.env=pure false) :
  PS X (.Assign [.Subscript o i pos'] value pos) (ztX td ty tv):=by
 intro pins s σ H D I h;refine wpAny_Assign_Subscript (thn (hv pins s σ H _ I h) λr s1 ⟨v,H1,I1,rv,q1⟩=>thn (ho pins s1 σ H1 _ I1 q1) λu s2 ⟨x,H2,I2,rx,q2⟩=>thn (hi pins s2 σ H2 _ I2 q2) λiv s3 q55q=>?_) hs;obtain⟨y,H3,I3,ry,a,H4,ex,g,q3⟩:=q55q;subst ex;obtain rfl:u=Value.ref a:=rx;exact zlV hu I3 g ry rv λs4 I4=>⟨σ,H4,I4,q3⟩
end
theorem zod {P:Program}{w:World}{H:Hp}(h:Heap)(hb:sysModules<h.objs.size):zbt P w H (h.push { cls:=.type "dict",data:=.dict #[] }) h.objs.size (.dK []):=
 ⟨Yh _,beq_eq_false_iff_ne.mpr (Ne.symm (Xx hb)),[],.nil,Heap.DictOf.new h⟩
noncomputable def zsh:TE:=λ_ H Q=>∀p,H p=none->Q (.ref p) (upd H p (.dK []))
section
variable {X:Cx}{pos:Pos}
theorem zoe:PE X (.Dict [] [] pos) zsh:=λpins s σ H Q I h=>
 wpAny_Dict_empty ⟨.ref s.heap.objs.size,_,I.laid (a:=s.heap.objs.size) (o:=.dK []) (t':=s.toks) (λ_ _ q=>Xe _ q) (Xg _) (zod s.heap I.big),rfl,h _ (I.hok.fresh (Xg _))⟩
end
structure M1 (X:Cx)(o:Expr)(m:Str)(apos:Pos)(e:Expr)(cpos:Pos):Prop where
 base:attributeBase o m X.env (eval o X.env)=eval o X.env
 few:((backTo cpos (starEach [e] X.env)).all (λx=>!x.1)&&(backToKw cpos (keywordEach [] X.env)).all (λx=>x.1.isSome)
  && decide (([e]:List Expr).length+([]:List Keyword).length+(if ([]:List Keyword).isEmpty then 0 else 1)<30))=true
 line:(apos.endLine == cpos.line)=true
 trees:backTo cpos (starEach [e] X.env)=[(false,eval e X.env)]
end _L
namespace _A
open PySem PySem.W PySem.Calls PyProof.Rows
theorem zfC {P:Params}{h:Heap}:∀(ns:List Int)(vs:List Value),WellAll P h vs (ns.map WData.int)->IntsAre vs ns:=by
 intro ns;induction ns with
 | nil=>
  intro vs w;rw[List.map_nil]at w;cases w;exact .nil
 | cons n ns ih=>
  intro vs w;rw[Xy]at w;cases w with
  | cons a b=>
   cases a;exact .cons _ _ (ih _ b)
theorem zlW {l:OpenLaw}{n:Nat}(hn:l.most=some n){P:Params}{h:Heap}{args:List WData}{vals:List Value}
  (hpre:l.row.toRowW.claim.pre args=true) (hwl:WellAll P h vals args) :
  ∃a vs ns,vals=[Value.ref a]/\args=[WData.list (ns.map WData.int)]/\h.get? a=some { cls:=.type "list",data:=.seq vs.toArray }/\IntsAre vs ns/\ns.length<=n:=by
 have hsh:WShape.hasAll [] args [.list .int]=true:=(pre_splitW hpre).1;have hc:l.pre.holds [] { args:=args }=true:=(pre_splitW hpre).2;obtain⟨d,r,rfl,h1,h2⟩:=hasAllW_cons hsh;obtain rfl:=hasAllW_nil h2;obtain⟨xs,rfl,h3⟩:=hasW_list h1;obtain⟨ns,rfl⟩:=items_int h3;have hlen:ns.length<=n:=by
  unfold OpenLaw.pre at hc;have h4:(WTm.not (.lt (.lit (.int (n:Int))) (.len (.arg 0)))).holds [] { args:=[.list (ns.map .int)] }=true:=by
   have h4:=(holds_andW hc).1;rw[hn]at h4;exact h4
  have h5:=condW_of h4 (w_not (w_lt w_lit (w_len_list (w_arg rfl))));rw[Xb]at h5;refine Nat.le_of_not_lt λq=>?_;have q':(n:Int)<((ns.length:Nat):Int):=by lia
  first
   | (rw[decide_eq_true q']at h5;exact absurd h5 (by decide))
   | (simp at h5;lia)
 cases hwl with
 | cons w1 w2=>
  cases w2;cases w1 with
  | list ho hall=>exact⟨_,_,ns,rfl,rfl,ho,zfC ns _ hall,hlen⟩
theorem zlX (l:OpenLaw)(args:List WData):l.row.toRowW.claim.post args (.bool true) args=true:=
 postW_of (r:=l.row.toRowW) (X:=(true == true))
  (show WShape.has [] (.bool true) .bool=true by first | rfl | decide | simp[WShape.has,WShape.arms,WShape.armsAll])
  (show(WTm.eq .res (.lit (.bool true))).value [] { args:=args,res:=some (.bool true),after:=args }=some (.bool (true == true)) from w_eq_bool (w_res rfl) w_lit) rfl
theorem zja {l:OpenLaw}{n:Nat}{q:Program}{loose:List Str}{XP:(Str->Option Value)->Heap->Prop}{YP:World->Heap->Prop}{d:DefRec}
  (hn:l.most=some n) (hdf:d.params.defaults=[])
  (call:∀(w:World) (s₀ s₁:Shared) (mg mb:Str->Option Value) (fa:Addr) (o:Obj) (pm cd doc:Value) (a:Addr) (vs:List Value) (ns:List Int),
   Ground q loose [] XP w s₀ mg mb s₁.heap->YP w s₁.heap->
   s₁.heap.get? fa=some o->o.data=.func (docDef d.name d.params d.body d.scope pm cd doc)->s₁.heap.CodeRec cd d.name->mg d.name=some (.ref fa)->
   s₁.heap.get? a=some { cls:=.type "list",data:=.seq vs.toArray }->IntsAre vs ns->ns.length<=n->s₁.gens = #[]->
   codeAny (model l.prog w) callerA (.call (.ref fa) ⟨[.ref a],[]⟩) (λr s'=>r=.ok (.ret (.bool true))/\OldK s₁.heap s'.heap/\s'.os=s₁.os/\AllBare s'.gens) s₁) :
  WalkO q loose XP YP l.row.toRowW d [] (λf vs=>PySem.call f vs):=by
 intro w s₀ s₁ mg mb G Y fa o pm cd doc dV kV ho hd hcd hD hmg hg args vals as hpre hlay hrd hwl hlo;obtain rfl:dV=.none:=Dflts.none hD hdf;obtain rfl:kV=.none:=Dflts.noKw hD;obtain⟨a,vs,ns,rfl,rfl,hobj,hints,hlen⟩:=zlW hn hpre hwl;refine enter_call (codeAny_mono (call w s₀ s₁ mg mb fa o pm cd doc a vs ns G Y ho (fd_plain hd) hcd hmg hobj hints hlen hg) λr s' hq=>?_);obtain⟨rfl,h2,h3,h4⟩:=hq;exact⟨.inl ⟨.bool true,.bool true,[],rfl,λ_=>rfl,.bool true,zlX l _,λ_=>⟨List.Pairwise.nil,λ_ hm=>(nomatch hm)⟩⟩,h2,h3,h4⟩
end _A
namespace _L
open PySem PySem.Spec PyProof.Rows
theorem zhP:∀ {vs:List Value}{ns:List Int},IntsAre vs ns->Vals (ns.map V.int) vs
 | _,_,.nil=>.nil
 | _,_,.cons n t h=>.cons ⟨t,rfl⟩ (zhP h)
noncomputable def Only (H:Hp):Prop:=∀b,H b=none\/∃o xs,H b=some (.frz o (.lst xs))
noncomputable abbrev KOf {K:Xa}{h:Heap}(_:K.In h):Xa:=K
noncomputable def zam (s:Stmt):Arguments:=match s with
 | .FunctionDef _ a _ _ _ _ _ _ _ _=>a
 | _=>{ posonlyargs:=[],args:=[],vararg:=none,kwonlyargs:=[],kw_defaults:=[],kwarg:=none,defaults:=[] }
noncomputable def zal (s:Stmt):List Stmt:=match s with
 | .FunctionDef _ _ b _ _ _ _ _ _ _=>b
 | _=>[]
noncomputable def zac (s:Stmt):Scope:=match s with
 | .FunctionDef _ _ _ _ _ _ sc _ _ _=>sc
 | _=>{ kind:=.function,names:=[],isGenerator:=false,isCoroutine:=false }
noncomputable abbrev CX0:CXT:=λ_ _ _ _ _ _=>False
noncomputable abbrev E0:XK:=λ_ _ _=>False
theorem zkN {X:Cx}:zfz CX0 X E0:=λ_ _ _ _ _ _ _ h=>h.elim
structure Fun (K:Xa)(x qual:Str)(st:Stmt)(f:Addr)(fd:FuncData):Prop where
 ex:∃(oc:Value) (od:Option Addr) (kV doc pm:Value) (an:Option Addr) (cdv ct:Value) (osl:Array (Option Value)),
  fd=PySem.W.fnOf x qual (zam st) (zal st) (zac st) .none kV doc pm an cdv ct/\K.lookup f=some ⟨oc,od,.func fd,osl⟩/\PySem.W.codeIn K cdv qual=true
 kp:YJ K (.ref f)=true
section
variable {P:Program}{w:World}{K:Xa}{mg:Str->Option Value}{base:Heap}
theorem Fun.ok {x qual:Str}{st:Stmt}{f:Addr}{fd:FuncData}{N ps:List Str}{k:Nat}{sp:Sp}(F:Fun K x qual st f fd)(S:zap N ps (zac st))(len:∀vs H Q E,sp vs H Q E->vs.length=ps.length)
  (hbody:∀(cdv:Value) (A:Around) (outer:List Env) (s:Shared) (H:Hp) (vs:List V) (Q:VK) (E:XK),Room k (A.deeper (envOfC qual (zac st) s.heap.objs.size f cdv))->sp vs H Q E->
   ∃t,PSs (cxOf CX0 P w K mg base N qual (zac st) f cdv A outer s H E).nox (zal st) t/\t { nx:=λ_ H'=>Q .non H',rt:=Q } (start N vs) H):FnOk P w K mg base CX0 (k+1) f fd ps sp:=by
 obtain⟨oc,od,kV,doc,pm,an,cdv,ct,osl,rfl,lk,hcd⟩:=F.ex;refine znZ lk hcd S len λA outer s H vs Q E hr hsp=>?_;obtain⟨t,h,q⟩:=hbody cdv A outer s H vs Q E hr hsp;exact⟨t,h.nox,q⟩
theorem Fun.binds {x qual:Str}{st:Stmt}{f:Addr}{fd:FuncData}{ps:List Str}(F:Fun K x qual st f fd)
  (h:∀(kV doc pm:Value) (an:Option Addr) (cdv ct:Value) (us:List Value),us.length=ps.length->bindArgs (PySem.W.fnOf x qual (zam st) (zal st) (zac st) .none kV doc pm an cdv ct) ⟨us,[]⟩=pure (ps.zip us)):Binds K fd ps []:=by
 obtain⟨oc,od,kV,doc,pm,an,cdv,ct,osl,rfl,lk,hcd⟩:=F.ex;exact .all (h kV doc pm an cdv ct)
theorem zpq {x qual:Str}{st:Stmt}{f:Addr}{oc:Value}{od an:Option Addr}{osl:Array (Option Value)}{kV doc pm cdv ct:Value}(l:K.lookup f=some ⟨oc,od,.func (PySem.W.fnOf x qual (zam st) (zal st) (zac st) .none kV doc pm an cdv ct),osl⟩)
  (c:PySem.W.codeIn K cdv qual=true) (k:YJ K (.ref f)=true):Fun K x qual st f (PySem.W.fnOf x qual (zam st) (zal st) (zac st) .none kV doc pm an cdv ct):=⟨⟨oc,od,kV,doc,pm,an,cdv,ct,osl,rfl,l,c⟩,k⟩
end
theorem iteF {A B:Prop}(h:B):if false=true then A else B:=by
 rw[if_neg Xo];exact h
theorem iteT {A B:Prop}(h:A):if true=true then A else B:=by
 rw[if_pos rfl];exact h
theorem ite2 {c A B:Prop} [Decidable c] (h1:c->A)(h2:¬ c->B):if c then A else B:=by
 by_cases h:c
 ·rw[if_pos h];exact h1 h
 ·rw[if_neg h];exact h2 h
noncomputable def Same (H H':Hp):Prop:=∀b o,H b=some o->H' b=some o
theorem Same.refl (H:Hp):Same H H:=λ_ _ h=>h
theorem Same.trans {H H1 H2:Hp}(a:Same H H1)(b:Same H1 H2):Same H H2:=λc o h=>b c o (a c o h)
theorem Same.free {H H':Hp}(e:Same H H'){l:Addr}(h:H' l=Option.none):H l=Option.none:=by
 cases q:H l with
 | none=>rfl
 | some o=>
  rw[e l o q]at h;cases h
theorem Same.seq {K:Xa}{H H':Hp}{a:Addr}{xs:List V}(e:Same H H')(h:SqL K H a xs):SqL K H' a xs:=by
 rcases h with (h | ⟨o,h⟩) | h
 ·exact .inl (.inl (e _ _ h))
 ·exact .inl (.inr ⟨o,e _ _ h⟩)
 ·exact .inr h
noncomputable def zbp (env:Env):List (Str×NameKind)->List (Str×Addr)->List (Str×Addr)
 | [],acc=>acc
 | (n,k)::r,acc=>zbp env r (if k == .free then(n,(env.cells.lookup n).getD 0)::acc else acc)
theorem zjI {env:Env}(f:Str×NameKind->List (Str×Addr)->Sem (ForInStep (List (Str×Addr))))
  (hf:∀n k cs,f (n,k) cs=if k == .free then(do let a <- cellOf env n;pure (.yield ((n,a)::cs))) else pure (.yield cs)) :
  ∀(l:List (Str×NameKind)) (acc:List (Str×Addr)),(∀n,(n,NameKind.free)∈l->∃c,env.cells.lookup n=some c)->forIn l acc f=pure (zbp env l acc)
 | [],acc,_=>by rw[List.forIn_nil];rfl
 | (n,k)::r,acc,h=>by
  have ih:=zjI f hf r;have hr:∀m,(m,NameKind.free)∈r->∃c,env.cells.lookup m=some c:=λm hm=>h m (Xn _ hm);rw[List.forIn_cons,hf];unfold zbp;by_cases hk:(k == NameKind.free)=true
  ·have hk':k=NameKind.free:=by simpa using hk
   subst hk';obtain⟨c,hc⟩:=h n Xp;have e:cellOf env n=pure c:=by unfold cellOf;rw[hc]
   rw[if_pos hk,if_pos hk,e,hc];simp only[pure_bind,Option.getD_some];exact ih _ hr
  ·rw[if_neg hk,if_neg hk];simp only[pure_bind];exact ih _ hr
theorem zlY {scope:Scope}{env:Env}(h:∀n,(n,NameKind.free)∈scope.names->∃c,env.cells.lookup n=some c):closureFor scope env=pure (zbp env scope.names []):=by
 simp only[closureFor];rw[zjI (env:=env) _ (λn k cs=>by cases hk:(k == NameKind.free)<;>simp[hk]) scope.names [] h];simp
theorem zgt {env:Env}:∀(l:List (Str×NameKind))(acc:List (Str×Addr)),(∀n,(n,NameKind.free)∈l->∃c,env.cells.lookup n=some c)->(∀n c,(n,c)∈acc->env.cells.lookup n=some c)->
  ∀n c,(n,c)∈zbp env l acc->env.cells.lookup n=some c
 | [],_,_,ha,n,c,hm=>ha n c hm
 | (x,k)::r,acc,h,ha,n,c,hm=>by
  have hr:∀m,(m,NameKind.free)∈r->∃c,env.cells.lookup m=some c:=λm hm=>h m (Xn _ hm);unfold zbp at hm;refine zgt r _ hr (λm d hd=>?_) n c hm;by_cases hk:(k == NameKind.free)=true
  ·have hk':k=NameKind.free:=by simpa using hk
   subst hk';rw[if_pos hk]at hd;rcases Xu.mp hd with e | hd
   ·obtain⟨c',hc'⟩:=h x Xp;cases e;rw[hc'];rfl
   ·exact ha m d hd
  ·rw[if_neg hk]at hd;exact ha m d hd
theorem zeR {env:Env}:∀(l:List (Str×NameKind))(acc:List (Str×Addr))(n:Str),((n,NameKind.free)∈l\/(acc.lookup n).isSome=true)->((zbp env l acc).lookup n).isSome=true
 | [],_,_,h=>h.elim (λz=>nomatch z) id
 | (x,k)::r,acc,n,h=>by
  unfold zbp;refine zeR r _ n ?_;have up:(acc.lookup n).isSome=true->((if (k == NameKind.free)=true then(x,(env.cells.lookup x).getD 0)::acc else acc).lookup n).isSome=true:=λz=>by
   by_cases hk:(k == NameKind.free)=true
   ·rw[if_pos hk,Yl];cases n == x<;>simp[z]
   ·rw[if_neg hk];exact z
  rcases h with h | h
  ·rcases Xu.mp h with e | h
   ·right;cases e;rw[if_pos (by rfl),Yl];simp
   ·exact .inl h
  ·exact .inr (up h)
theorem zbu:∀(names:List (Str×NameKind))(n:Nat)(acc:List (Str×Addr)),cellsFrom n names acc=cellsFrom n names []++acc
 | [],_,_=>rfl
 | (x,k)::r,n,acc=>by
  unfold cellsFrom;by_cases hk:(k == NameKind.cell)=true
  ·rw[if_pos hk,if_pos hk,zbu r (n+1) ((x,n)::acc),zbu r (n+1) [(x,n)],List.append_assoc];rfl
  ·rw[if_neg hk,if_neg hk];exact zbu r n acc
theorem zcx:∀(names:List (Str×NameKind))(n:Nat)(acc:List (Str×Addr))(x:Str)(c:Addr),(x,c)∈cellsFrom n names acc->(x,c)∈acc\/(x,NameKind.cell)∈names
 | [],_,_,_,_,h=>.inl h
 | (y,k)::r,n,acc,x,c,h=>by
  unfold cellsFrom at h;by_cases hk:(k == NameKind.cell)=true
  ·have hk':k=NameKind.cell:=by simpa using hk
   subst hk';rw[if_pos hk]at h;rcases zcx r _ _ x c h with h | h
   ·rcases Xu.mp h with e | h
    ·cases e;exact .inr Xp
    ·exact .inl h
   ·exact .inr (Xn _ h)
  ·rw[if_neg hk]at h;rcases zcx r _ _ x c h with h | h
   ·exact .inl h
   ·exact .inr (Xn _ h)
noncomputable def zeg (sc sup:Scope):Scope:=
 {sc with names:=sc.names.map λ(n,k)=>if (k == .free&&sup.kind == .function&&sup.names.lookup n == some .cell) then(n,.cell) else(n,k) }
noncomputable def cpOk (sup:Scope)(XN N:List Str)(k:Nat)(js:List Nat)(sc:Scope):Bool:=
 sc.kind == .function&&decide N.Nodup&&decide (sc.names.map (·.1)).Nodup&&(sc.names.all λp=>p.2 != .free||(sup.names.lookup p.1 == some .cell||sup.names.lookup p.1 == some .free)) &&
  N.length == k+js.length&&((N.drop k).zip js).all λp=>sc.names.lookup p.1 == some .free&&XN[p.2]? == some p.1
structure zcK (X:Cx)(N:List Str)(k:Nat)(js:List Nat)(sc:Scope):Prop where
 kind:sc.kind=.function
 nd:N.Nodup
 nm:(sc.names.map (·.1)).Nodup
 fr:∀n,(n,NameKind.free)∈sc.names->X.env.kindOf n=some .cell\/X.env.kindOf n=some .free
 len:N.length=k+js.length
 at':∀(i:Nat) (x:Str),N[k+i]? = some x->sc.names.lookup x=some .free/\∃j,js[i]? = some j/\X.N[j]? = some x
theorem zdi {X:Cx}{sup:Scope}{XN N:List Str}{k:Nat}{js:List Nat}{sc:Scope}(hs:X.env.scope=sup)(hn:X.N=XN)(h:cpOk sup XN N k js sc=true):zcK X N k js sc:=by
 subst hs hn;unfold cpOk at h;simp only[Yn,decide_eq_true_eq,beq_iff_eq,XV]at h;obtain⟨⟨⟨⟨⟨h1,h2⟩,h3⟩,h4⟩,h5⟩,h6⟩:=h;refine⟨h1,h2,h3,λn hn=>?_,h5,λi x hi=>?_⟩
 ·have q:=h4 _ hn;simp only[bne_self_eq_false,Bool.false_or,Bool.or_eq_true,beq_iff_eq]at q;exact q
 ·have hi':(N.drop k)[i]? = some x:=by rw[List.getElem?_drop];exact hi
  have hl:k+i<N.length:=(Xd.mp hi).1;have hj:i<js.length:=by lia
  have hm:(x,js[i])∈(N.drop k).zip js:=by
   refine List.mem_iff_getElem?.mpr ⟨i,?_⟩;rw[List.getElem?_zip_eq_some];exact⟨hi',by simp[hj]⟩
  have q:=h6 _ hm;exact⟨q.1,js[i],by simp[hj],q.2⟩
theorem zcL {α:Type}:∀ {l:List (Str×α)}{x:Str}{v:α},(l.map (·.1)).Nodup->(x,v)∈l->l.lookup x=some v
 | (y,u)::r,x,v,nd,h=>by
  rw[Xy,XT]at nd;rw[Yl];rcases Xu.mp h with e | h
  ·cases e;simp
  ·have ne:x≠y:=λz=>nd.1 (XI.mpr ⟨(x,v),h,z⟩);have hb:(x == y)=false:=by simpa using ne
   rw[hb];exact zcL nd.2 h
noncomputable def zeh (k:Nat)(js:List Nat)(σ:St):St:=List.replicate k none++js.map λj=>(σ[j]?).getD none
noncomputable def cxB (X:Cx)(N:List Str)(sc:Scope)(C:Addr)(cells:List (Str×Addr))(fp:List Addr)(s:Shared)(H:Hp):Cx where
 prog:=X.prog
 w:=X.w
 K:=X.K
 mg:=X.mg
 base:=X.base
 A:=X.A
 N:=N
 s₀:=s
 H₀:=H
 env:={ scope:=zeg sc X.env.scope,locals:=C,globals:=X.env.globals,cells:=cells,qual:=X.env.qual,func:=none,code:=X.env.code,frame:=X.env.frame,builtins:=X.env.builtins }
 outer:=X.stack
 stack:=X.stack
 ex:=fp
 fn:=λx=>sc.names.lookup x == some .cell
 calm:=X.calm
 pn:=[]
 xe:=λ_ _=>False
section
variable {X:Cx}{pins:List (Addr×Obj)}{σ:St}{H:Hp}{s:Shared}
theorem zei {sc sup:Scope}{x:Str}{k:NameKind}(h:(zeg sc sup).names.lookup x=some k):sc.names.lookup x=some k\/(sc.names.lookup x=some .free/\k=.cell):=by
 unfold zeg at h;dsimp only at h;generalize sc.names=l at h ⊢;induction l with
 | nil=>simp at h
 | cons p r ih=>
  obtain⟨n,kd⟩:=p;rw[Xy,Yl]at h;rw[Yl];dsimp only at h;by_cases hc:(kd == NameKind.free&&sup.kind == ScopeKind.function&&sup.names.lookup n == some NameKind.cell)=true
  ·rw[if_pos hc]at h;dsimp only at h;cases hx:x == n with
   | true=>
    rw[hx]at h;simp only[Yn,beq_iff_eq]at hc;right;exact⟨by rw[hc.1.1],(Option.some.inj h).symm⟩
   | false=>rw[hx]at h;exact ih h
  ·rw[if_neg hc]at h;dsimp only at h;cases hx:x == n with
   | true=>rw[hx]at h;left;exact h
   | false=>rw[hx]at h;exact ih h
theorem zej {sc sup:Scope}{x:Str}(h:sc.names.lookup x=some .free):(zeg sc sup).names.lookup x=some .cell\/(zeg sc sup).names.lookup x=some .free:=by
 unfold zeg;dsimp only;generalize sc.names=l at h ⊢;induction l with
 | nil=>simp at h
 | cons p r ih=>
  obtain⟨n,kd⟩:=p;rw[Yl]at h;rw[Xy];dsimp only;by_cases hc:(kd == NameKind.free&&sup.kind == ScopeKind.function&&sup.names.lookup n == some NameKind.cell)=true
  ·rw[if_pos hc,Yl];cases hx:x == n with
   | true=>left;rfl
   | false=>rw[hx]at h;exact ih h
  ·rw[if_neg hc,Yl];cases hx:x == n with
   | true=>rw[hx]at h;right;exact h
   | false=>rw[hx]at h;exact ih h
theorem Inv.block {N:List Str}{k:Nat}{js:List Nat}{sc:Scope}{fp:List Addr}(I:Inv X pins σ H s)(S:zcK X N k js sc)(hf:∀b∈fp,FpOk X pins H b)(hfs:∀b∈fp,b<s.heap.objs.size) :
  Inv (cxB X N sc s.heap.objs.size (cellsFrom (s.heap.objs.size+1) sc.names (zbp X.env sc.names [])) fp s H) [] (zeh k js σ) H
   {s with heap:=pushCells (s.heap.push { cls:=.type "dict",data:=.dict #[] }) sc.names }:=by
 have hz:(s.heap.push { cls:=.type "dict",data:=.dict #[] }).objs.size=s.heap.objs.size+1:=Yw ..;have kp:∀b o,s.heap.get? b=some o->(pushCells (s.heap.push { cls:=.type "dict",data:=.dict #[] }) sc.names).get? b=some o:=λb o e=>pushCells_keeps _ _ b o (Xe _ e);have cok:=cellsFrom_ok sc.names (s.heap.push { cls:=.type "dict",data:=.dict #[] }) (s.heap.objs.size+1) [] ⟨λ_ _ hm=>(nomatch hm),List.Pairwise.nil⟩ (by rw[hz];exact Xg _);rw[hz]at cok;have frs':∀n,(n,NameKind.free)∈sc.names->∃c,X.env.cells.lookup n=some c:=λn hn=>I.ok.has n (S.fr n hn);have csub:=zgt (env:=X.env) sc.names [] frs' (λ_ _ z=>nomatch z);have cases_:∀x c,(cellsFrom (s.heap.objs.size+1) sc.names (zbp X.env sc.names [])).lookup x=some c->
   ((cellsFrom (s.heap.objs.size+1) sc.names []).lookup x=some c)\/((cellsFrom (s.heap.objs.size+1) sc.names []).lookup x=none/\(zbp X.env sc.names []).lookup x=some c):=λx c h=>by
  rw[zbu,List.lookup_append]at h;cases q:(cellsFrom (s.heap.objs.size+1) sc.names []).lookup x with
  | some d=>rw[q]at h;left;simpa using h
  | none=>rw[q]at h;right;exact⟨rfl,by simpa using h⟩
 have old:∀x c,(zbp X.env sc.names []).lookup x=some c->X.env.cells.lookup x=some c:=λx c h=>csub x c (PySem.mem_of_lookup h);have oldlt:∀x c,X.env.cells.lookup x=some c->c<s.heap.objs.size:=λx c h=>let ⟨_,q⟩:=I.cell x c h;q.lt;have ownge:∀x c,(cellsFrom (s.heap.objs.size+1) sc.names []).lookup x=some c->s.heap.objs.size+1<=c:=λx c h=>(cok.empty x c (PySem.mem_of_lookup h)).2;refine⟨⟨I.ok.mod,S.kind,I.ok.glob,I.ok.blt,Xg _,?inj,?has,?cab,I.ok.hd,I.ok.frames,.inl rfl,?exf,I.bs,XO I.ok.bsz I.sz,?noex,?exfs,I.stack,I.zlA⟩,rfl,I.bare,Un.kept kp,?loc,?cell,I.hok.fresh (Xg _),?freeC,λp hp=>absurd (show p∈([]:List (Addr×Obj)) from hp) (by simp),I.hok.kept kp,?len⟩
 case inj=>
  intro x y c hx hy;rcases cases_ x c hx with h1 | ⟨_,h1⟩<;>rcases cases_ y c hy with h2 | ⟨_,h2⟩
  ·exact name_of_addr cok.apart (PySem.mem_of_lookup h1) (PySem.mem_of_lookup h2)
  ·exact absurd (XD (oldlt y c (old y c h2)) (Nat.le_of_succ_le (ownge x c h1))) (Yr _)
  ·exact absurd (XD (oldlt x c (old x c h1)) (Nat.le_of_succ_le (ownge y c h2))) (Yr _)
  ·exact I.ok.inj x y c (old x c h1) (old y c h2)
 case has=>
  intro x hx;have hx':(zeg sc X.env.scope).names.lookup x=some .cell\/(zeg sc X.env.scope).names.lookup x=some .free:=hx;have q:sc.names.lookup x=some .cell\/sc.names.lookup x=some .free:=by
   rcases hx' with h | h
   ·rcases zei h with h | ⟨h,_⟩
    ·exact .inl h
    ·exact .inr h
   ·rcases zei h with h | ⟨h,_⟩
    ·exact .inr h
    ·exact .inr h
  refine Option.isSome_iff_exists.mp (PySem.W.cellsFrom_some sc.names _ _ ?_);rcases q with q | q
  ·exact .inl q
  ·exact .inr (zeR _ _ _ (.inl (PySem.mem_of_lookup q)))
 case cab=>
  intro x c hfn hx;have hc:sc.names.lookup x=some .cell:=by simpa[cxB]using hfn
  rcases cases_ x c hx with h | ⟨h,_⟩
  ·have:=ownge x c h;show s.heap.objs.size<=c;lia
  ·have q:=PySem.W.cellsFrom_some sc.names (s.heap.objs.size+1) [] (.inl hc);rw[h]at q;cases q
 case exf=>
  intro b hb;have hlt:=hfs b hb;refine⟨Xx hlt,λx c hx=>?_⟩;rcases cases_ x c hx with h | ⟨_,h⟩
  ·exact λz=>absurd (XD (show c<s.heap.objs.size by rw[z];exact hlt) (Nat.le_of_succ_le (ownge x c h))) (Yr _)
  ·exact(hf b hb).2.2.2.2.1 x c (old x c h)
 case noex=>
  intro b o e hb;rcases(hf b hb).2.2.2.1 with z | z
  ·exact I.ok.noex b o e z
  ·exact absurd (XD (Xm (I.ok.bs b o e).1) z) (Yr _)
 case exfs=>
  intro b hb hbf;rcases Xu.mp (I.zlz b hbf)with z | z
  ·exact(hf b hb).2.1 z
  ·exact(hf b hb).2.2.1 z
 case loc=>
  refine⟨_,(Heap.Ns.new s.heap (.type "dict")).keeps (pushCells_keeps _ _),λi x v e1 e2 e3=>?_⟩;have hik:k<=i:=by
   unfold zeh at e2;by_cases hik:k<=i
   ·exact hik
   ·rw[YE (by simp;lia),List.getElem?_replicate]at e2;split at e2<;>cases e2
  obtain⟨i',rfl⟩:∃i',i=k+i':=⟨i-k,by lia⟩;obtain⟨hfree,j,hj,hX⟩:=S.at' i' x e1;have e2':(σ[j]?).getD none=some v:=by
   unfold zeh at e2;rw[YA (by simp)]at e2;rw[YM,show k+i'-k=i' by lia,Xi,hj]at e2;exact Option.some.inj e2
  have hσ:σ[j]? = some (some v):=by
   cases q:σ[j]? with
   | none=>rw[q]at e2';cases e2'
   | some o=>rw[q]at e2';exact congrArg some e2'
  have hk:=S.fr x (PySem.mem_of_lookup hfree);obtain⟨m,hn,hl⟩:=I.loc;obtain⟨u,r,l⟩:=hl j x v hX hσ (by rcases hk with h | h;exact .inr (.inl h);exact .inr (.inr h))
  rcases l with ⟨hloc,_⟩ | ⟨_,c,hc,hcell⟩
  ·rcases hk with h | h<;>(rw[h]at hloc;cases hloc)
  ·refine⟨u,r,.inr ⟨zej hfree,c,?_,hcell.keeps kp⟩⟩;show(cellsFrom (s.heap.objs.size+1) sc.names (zbp X.env sc.names [])).lookup x=some c;have hno:(cellsFrom (s.heap.objs.size+1) sc.names []).lookup x=none:=by
    cases q:(cellsFrom (s.heap.objs.size+1) sc.names []).lookup x with
    | none=>rfl
    | some d=>
     rcases zcx _ _ _ x d (PySem.mem_of_lookup q)with z | z
     ·cases z
     ·have:=zcL S.nm z;rw[hfree]at this;cases this
   obtain⟨d,hd⟩:=Option.isSome_iff_exists.mp (zeR (env:=X.env) sc.names [] x (.inl (PySem.mem_of_lookup hfree)));have hdc:d=c:=by
    have:=old x d hd;rw[hc]at this;exact(Option.some.inj this).symm
   rw[zbu,List.lookup_append,hno,hd,hdc];rfl
 case cell=>
  intro x c hx;rcases cases_ x c hx with h | ⟨_,h⟩
  ·exact⟨none,(cok.empty x c (PySem.mem_of_lookup h)).1⟩
  ·obtain⟨v,q⟩:=I.cell x c (old x c h);exact⟨v,q.keeps kp⟩
 case freeC=>
  intro x c hx;rcases cases_ x c hx with h | ⟨_,h⟩
  ·exact I.hok.fresh (by have:=ownge x c h;lia)
  ·exact I.freeC x c (old x c h)
 case len=>
  show(zeh k js σ).length=N.length;unfold zeh;rw[Xq,YM,Xb];exact S.len.symm
end
theorem zlZ {prog:Program}{w:World}{A:Around}{R:Result->Shared->Prop}{s:Shared}{elt tg iter:Expr}{ifs:List Expr}{scope:Scope}{pos:Pos}{it acc:Value}{env:Env}(J:Nat->Shared->Prop)
  (turn:∀n s,J n s->wpAny (model prog w) A (pyNext it) (λr s1=>match r with
   | none=>R (.ok .next) s1
   | some v=>wpAny (model prog w) A (letOwnedTupleGo tg it v) (λ_ s2=>wpAny (model prog w) A (assign tg env v) (λ_ s3=>
     wpAny (model prog w) A (forIn ifs true λc r=>if r=true then do let ok <- isTrue c env (eval c env);pure (ForInStep.yield ok) else pure (ForInStep.yield r)) (λok s4=>
      if ok=true then wpAny (model prog w) A (eval elt env) (λx s5=>wpAny (model prog w) A (call (.builtin "list.append") [acc,x]) (λ_ s6=>∃m,m<n/\J m s6) (λ_ _=>False) s5) (λ_ _=>False) s4
      else ∃m,m<n/\J m s4) (λ_ _=>False) s3) (λ_ _=>False) s2) (λ_ _=>False) s1) (λ_ _=>False) s)
  (n:Nat) (h:J n s):codeAny (model prog w) A (.compLoop (.ListComp elt [⟨tg,iter,ifs,0⟩] scope pos) 0 it acc env) R s:=by
 refine codeAny_loop rfl J (λn s hI=>wpAny_noted (wpAny_noRaise ?_)) n h;rw[compTurn_list];refine wpAny_bind (wpAny_standAt (wpAny_bind (thn (turn n s hI) λr s1 h1=>?_)));cases r with
 | none=>exact wpAny_pure h1
 | some v=>
  refine wpAny_bind (thn h1 λ_ s2 h2=>wpAny_bind (thn h2 λ_ s3 h3=>wpAny_bind (thn h3 λok s4 h4=>?_)));cases ok with
  | false=>exact wpAny_pure ⟨rfl,by simpa using h4⟩
  | true=>
   rw[if_pos rfl]at h4;exact wpAny_bind (wpAny_bind (thn h4 λx s5 h5=>wpAny_bind (thn h5 λ_ s6 h6=>wpAny_pure (wpAny_pure ⟨rfl,h6⟩))))
theorem zma {M:Model}{A:Around}{E:Value->Shared->Prop}{s:Shared}{sc:Scope}{globals:Addr}{clo:List (Str×Addr)}{qual:Str}{out:Env}{Q:Env->Shared->Prop}
  (h:Q { scope:=sc,locals:=s.heap.objs.size,globals:=globals,cells:=cellsFrom (s.heap.objs.size+1) sc.names clo,qual:=qual,func:=none,code:=out.code,frame:=out.frame,builtins:=out.builtins }
   {s with heap:=pushCells (s.heap.push { cls:=.type "dict",data:=.dict #[] }) sc.names }) :
  wpAny M A (newFunctionEnv sc globals clo [] qual none .none (some out)) Q E s:=by
 unfold newFunctionEnv;simp only[Option.isSome_some,if_true];refine wpAny_bind (wpAny_alloc (wpAny_bind (wpAny_layCells _ (λname kind cells=>by cases hkc:kind == NameKind.cell<;>simp[hkc]) _ _ _ _ ?_)));rw[show({ s with heap:=s.heap.push { cls:=.type "dict",data:=.dict #[] } }:Shared).heap.objs.size=s.heap.objs.size+1 from Yw ..];simp only[List.forIn_nil];exact wpAny_bind (wpAny_pure (wpAny_pure h))
noncomputable def PTs (X:Cx)(ifs:List Expr)(t:TT):Prop:=
 ∀(pins:List (Addr×Obj)) (s:Shared) (σ:St) (H:Hp) (Q:Bool->Hp->Prop),Inv X pins σ H s->t σ H Q->
  wpAny (model X.prog X.w) X.A (forIn ifs true λc r=>if r=true then do let ok <- isTrue c X.env (eval c X.env);pure (ForInStep.yield ok) else pure (ForInStep.yield r)) (TP X pins σ Q) X.xe s
noncomputable def zqu:TT:=λ_ H Q=>Q true H
theorem zqv {X:Cx}:PTs X [] zqu:=λpins s σ H Q I h=>wpAny_tests_nil ⟨H,I,h⟩
theorem zqw {X:Cx}{c:Expr}{t:TT}(h:PT X c t):PTs X [c] t:=λpins s σ H Q I q=>wpAny_tests_one (h pins s σ H Q I q)
noncomputable def zmb (J:It)(g:TG)(tt:TT)(te:TE)(l:Addr)(σb:St)(H1:Hp)(R:Hp->Prop):Prop:=
 ∃W:Nat->Nat->St->Hp->Prop,(∃m,W 0 m σb (upd H1 l (.lst [])))/\∀i m σ' H',W i m σ' H'->
  (J.stop i H'/\R H')\/(J.go i H'/\∀x H2,J.yld i H' x H2->g x σ' H2 λσ2 H3=>tt σ2 H3 λb H4=>if b=true
   then te σ2 H4 λv H5=>∃ys,H5 l=some (.lst ys)/\ys.length<sizeLine/\∃m',m'<m/\W (i+1) m' σ2 (upd H5 l (.lst (ys++[v])))
   else ∃m',m'<m/\W (i+1) m' σ2 H4)
noncomputable def zqx (k:Nat)(js:List Nat)(wi:TI)(g:TG)(tt:TT)(te:TE):TE:=λσ H Q=>wi σ H λJ H1=>∀l,H1 l=none->zmb J g tt te l (zeh k js σ) H1 λH'=>Q (.ref l) H'
section
variable {X:Cx}{elt tg iter:Expr}{ifs:List Expr}{sc:Scope}{pos:Pos}{N:List Str}{k:Nat}{js:List Nat}{wi:TI}{g:TG}{tt:TT}{te:TE}
structure Blk (X:Cx)(N:List Str)(sc:Scope)(tg:Expr)(ifs:List Expr)(elt:Expr)(g:TG)(tt:TT)(te:TE):Prop where
 tgt:∀C cells fp s H,PG (cxB X N sc C cells fp s H) tg g
 tst:∀C cells fp s H,PTs (cxB X N sc C cells fp s H) ifs tt
 val:∀C cells fp s H,PE (cxB X N sc C cells fp s H) elt te
noncomputable def After (X:Cx)(pins:List (Addr×Obj))(σ:St)(R:Addr->Hp->Prop)(acc:Value)(C:Addr)(s':Shared):Prop:=
 ∃(l:Addr) (H':Hp) (m:Str->Option Value),acc=.ref l/\Inv X pins σ H' s'/\s'.heap.Ns C m/\FpOk X pins H' C/\R l H'
theorem zjJ {pins:List (Addr×Obj)}{σ:St}{H:Hp}{s:Shared}{R:Addr->Hp->Prop}(hc:X.calm=true)(S:zcK X N k js sc)(hi:PI X tg iter wi)(B:Blk X N sc tg ifs elt g tt te)(I:Inv X pins σ H s)
  (h:wi σ H λJ H1=>∀l,H1 l=none->zmb J g tt te l (zeh k js σ) H1 (R l)) :
  wpAny (model X.prog X.w) X.A (eval iter X.env) (λx s1=>wpAny (model X.prog X.w) X.A (pyIter x) (λit s2=>wpAny (model X.prog X.w) X.A (newList []) (λacc s3=>
   wpAny (model X.prog X.w) X.A (newFunctionEnv sc X.env.globals (zbp X.env sc.names []) [] X.env.qual none .none (some X.env)) (λcenv s4=>
    codeAny (model X.prog X.w) X.A (.compStart (.ListComp elt [⟨tg,iter,ifs,0⟩] sc pos) 0 it acc { cenv with scope:=relabel sc X.env })
     (λr s'=>match r with | .ok _=>After X pins σ R acc cenv.locals s' | .error _=>False) s4) X.xe s3) X.xe s2) X.xe s1) X.xe s:=by
 refine thn (hi pins s σ H _ I h) λv s1 h1=>thn h1 λitv s2 h2=>?_;obtain⟨it,fp,tn,J,H2,e,I2,T,st2,f2,hq⟩:=h2;subst e;have hl:H2 s2.heap.objs.size=none:=I2.fresh;have fplt:∀b∈fp,b<s2.heap.objs.size:=λb hb=>by
  obtain⟨o,e,_⟩:=T.obj 0 _ st2 b hb;exact Xm e
 obtain⟨W,⟨m0,w0⟩,turn⟩:=hq _ hl;refine wpAny_newList ?_;have I3:Inv X pins σ (upd H2 s2.heap.objs.size (.lst [])) { s2 with heap:=s2.heap.push { cls:=.type "list",data:=.seq ([]:List Value).toArray } }:=I2.lnew (its:=[]) (t':=s2.toks) .nil (Yh _);have u3:Un (frs X.stack) fp H2 (upd H2 s2.heap.objs.size (.lst [])) s2.heap (s2.heap.push { cls:=.type "list",data:=.seq ([]:List Value).toArray }):=Un.laid (λb o e=>Xe _ e) (Xg _) hl;have hz3:(s2.heap.push { cls:=.type "list",data:=.seq ([]:List Value).toArray }).objs.size=s2.heap.objs.size+1:=Yw ..;have kp3:∀b o,s2.heap.get? b=some o->(s2.heap.push { cls:=.type "list",data:=.seq ([]:List Value).toArray }).get? b=some o:=λb o e=>Xe _ e;have fpn:∀b∈fp,upd H2 s2.heap.objs.size (.lst []) b=none:=λb hb=>by
  rw[zah (Xx (fplt b hb))];exact(f2 b hb).1
 generalize hl0:s2.heap.objs.size=l at hl I3 u3 hz3 kp3 fpn w0 turn ⊢;rw[hl0]at fplt;generalize s2.heap.push { cls:=.type "list",data:=.seq ([]:List Value).toArray }=h3 at I3 u3 hz3 kp3 ⊢;generalize upd H2 l (.lst [])=H3 at I3 u3 fpn w0;have f3:∀b∈fp,FpOk X pins H3 b:=λb hb=>⟨fpn b hb,(f2 b hb).2⟩;have I4:=I3.block S f3 (λb hb=>by show b<h3.objs.size;rw[hz3];exact XS (fplt b hb));have kp4:∀b o,s2.heap.get? b=some o->(pushCells (h3.push { cls:=.type "dict",data:=.dict #[] }) sc.names).get? b=some o:=λb o e=>pushCells_keeps _ _ b o (Xe _ (kp3 b o e));refine zma ?_;have st4:tn 0 (pushCells (h3.push { cls:=.type "dict",data:=.dict #[] }) sc.names):=T.keep 0 _ _ st2 λb _ o e=>kp4 b o e;have stat:∀ {H':Hp},(∀b∈fp,H' b=none)->∀b∈fp,FpOk (cxB X N sc h3.objs.size (cellsFrom (h3.objs.size+1) sc.names (zbp X.env sc.names [])) fp { s2 with heap:=h3 } H3) [] H' b:=λhn b hb=>
  ⟨hn b hb,(I4.ok.exf b hb).1,I4.ok.exfs b hb,.inl hb,(I4.ok.exf b hb).2,λp hp=>absurd (show p∈([]:List (Addr×Obj)) from hp) (by simp)⟩
 generalize hY:cxB X N sc h3.objs.size (cellsFrom (h3.objs.size+1) sc.names (zbp X.env sc.names [])) fp { s2 with heap:=h3 } H3=Y at I4 stat;have loop:codeAny (model X.prog X.w) X.A (.compLoop (.ListComp elt [⟨tg,iter,ifs,0⟩] sc pos) 0 (.ref it) (.ref l) Y.env)
   (λr s'=>match r with | .ok _=>After X pins σ R (.ref l) h3.objs.size s' | .error _=>False) { s2 with heap:=pushCells (h3.push { cls:=.type "dict",data:=.dict #[] }) sc.names }:=by
  subst hY;refine zlZ (λn s'=>∃i σ' H',Inv (cxB X N sc h3.objs.size (cellsFrom (h3.objs.size+1) sc.names (zbp X.env sc.names [])) fp { s2 with heap:=h3 } H3) [] σ' H' s'/\tn i s'.heap/\(∀b∈fp,H' b=none)/\W i n σ' H') ?_ m0
   ⟨0,zeh k js σ,H3,I4,st4,fpn,w0⟩
  rintro n s5 ⟨i,σ5,H5,I5,st5,fr5,w5⟩;rcases turn i n σ5 H5 w5 with ⟨stop,qn⟩ | ⟨go,step⟩
  ·refine thn (T.done (cxB X N sc h3.objs.size (cellsFrom (h3.objs.size+1) sc.names (zbp X.env sc.names [])) fp { s2 with heap:=h3 } H3) rfl rfl rfl hc i [] s5 σ5 H5 (λ_ _=>False) I5 (stat fr5) st5 stop) λr s6 q56q=>?_;obtain⟨hr,I6⟩:=q56q;subst hr;obtain⟨m6,hn6,_⟩:=id I6.loc;have IX:Inv X pins σ H5 s6:=I2.call' (ch:=fp) I6.os (u3.trans I6.base) I6.hok I6.bare λb hb=>⟨(f2 b hb).2.2.2.1,(f2 b hb).2.1,(f2 b hb).2.2.2.2.1,(f2 b hb).2.2.2.2.2⟩;exact⟨l,H5,m6,rfl,IX,hn6,I2.fpOk (by show s2.heap.objs.size<=h3.objs.size;rw[hz3,hl0];exact Nat.le_succ _) I6.free,qn⟩
  ·refine thn (T.item (cxB X N sc h3.objs.size (cellsFrom (h3.objs.size+1) sc.names (zbp X.env sc.names [])) fp { s2 with heap:=h3 } H3) rfl rfl rfl hc i [] s5 σ5 H5 (λ_ _=>False) I5 (stat fr5) st5 go) λr s6 q57q=>?_;obtain⟨u,hr,h6⟩:=q57q;subst hr;refine thn h6 λ_ s7 q58q=>?_;obtain⟨x,H7,I7,r7,y7,st7,fr7⟩:=q58q;have I7':=I7.pinned (stat fr7) (T.obj _ _ st7);refine thn (B.tgt _ _ _ _ _ _ s7 σ5 H7 x u _ I7' r7 (step x H7 y7)) λ_ s8 q59q=>?_;obtain⟨σ8,H8,I8,q8⟩:=q59q;refine thn (B.tst _ _ _ _ _ _ s8 σ8 H8 _ I8 q8) λok s9 q60q=>?_;obtain⟨H9,I9,q9⟩:=q60q;have kept:∀ {σ':St} {H':Hp} {s':Shared},Inv (cxB X N sc h3.objs.size (cellsFrom (h3.objs.size+1) sc.names (zbp X.env sc.names [])) fp { s2 with heap:=h3 } H3) ([]++zhF fp s7.heap) σ' H' s'->tn (i+1) s'.heap/\∀b∈fp,H' b=none:=λ{σ' H' s'} I'=>
    ⟨T.keep _ _ _ st7 λb hb o e=>(I'.pin (b,o) (XM _ (XM _ (zdy hb e)))).1,λb hb=>by
     obtain⟨o,e,_⟩:=T.obj _ _ st7 b hb;exact(I'.pin (b,o) (XM _ (XM _ (zdy hb e)))).2.1⟩
   cases ok with
   | false=>
    rw[if_neg Xo]at q9;rw[if_neg Xo];obtain⟨m',hm,w9⟩:=q9;exact⟨m',hm,i+1,σ8,H9,I9.zed,(kept I9).1,(kept I9).2,w9⟩
   | true=>
    rw[if_pos rfl]at q9;rw[if_pos rfl];refine thn (B.val _ _ _ _ _ _ s9 σ8 H9 _ I9 q9) λu10 s10 q61q=>?_;obtain⟨y,H10,I10,r10,ys,hys,hlen,m',hm,w10⟩:=q61q;refine thn (zhN _ s10 σ8 H10 (.ref l) [y] (.ref l) [u10] (λ_ H'=>H'=upd H10 l (.lst (ys++[y]))) I10 rfl (.cons r10 .nil) ⟨l,ys,y,rfl,rfl,hys,hlen,rfl⟩) λ_ s11 q62q=>?_;obtain⟨_,H11,I11,_,e11⟩:=q62q;subst e11;exact⟨m',hm,i+1,σ8,_,I11.zed,(kept I11).1,(kept I11).2,w10⟩
 subst hY;exact codeAny_compStart_list loop (T.self X.A 0 _ _ _ st4 loop)
theorem zgu {X:Cx}(S:zcK X N k js sc):∀x∈sc.names,x.2=.local->sc.names.lookup x.1=some .local:=λx hx hl=>zcL S.nm (by rw[<- hl];exact hx)
theorem zqy (hc:X.calm=true)(S:zcK X N k js sc)(hi:PI X tg iter wi)(B:Blk X N sc tg ifs elt g tt te)(hs:autoParam (∀x,foldedSetIterable iter X.env x=pure x) aU3) :
  PE X (.ListComp elt [⟨tg,iter,ifs,0⟩] sc pos) (zqx k js wi g tt te):=by
 intro pins s σ H Q I h;rw[eval_ListComp];refine wpAny_comprehension_free (use:=none) rfl hs (zlY λn hn=>I.ok.has n (S.fr n hn)) S.kind (zgu S) ?_;refine thn (zjJ (pos:=pos) (R:=λl H'=>Q (.ref l) H') hc S hi B I h) λx s1 h1=>thn h1 λit s2 h2=>thn h2 λacc s3 h3=>thn h3 λcenv s4 h4=>codeAny_mono h4 λr s' hr=>?_;cases r with
 | error e=>exact False.elim hr
 | ok f=>
  obtain⟨l,H',m,rfl,I',hn,⟨f0,f1,f2,f3,f4,f5⟩,q⟩:=hr;exact⟨m,hn,λh' sb=>⟨.ref l,H',I'.turned (t':=s'.toks) (λb o hb e=>sb.extBut b o hb e) f0 f1 f3 f4 f5,rfl,q⟩⟩
theorem zmc {i:Nat}{x:Str}{pos' pos2:Pos}(hc:X.calm=true)(S:zcK X N k js sc)(hi:PI X tg iter wi)(B:Blk X N sc tg ifs elt g tt te)(hN:X.N.Nodup)(hx:X.N[i]? = some x)(hk:X.env.scope.names.lookup x=some .local)
  (hsw:autoParam (swapsWith (.ListComp elt [⟨tg,iter,ifs,0⟩] sc pos) (some (.Name x pos')) pos2.line X.env=pure true) aU0) (hs:autoParam (∀x,foldedSetIterable iter X.env x=pure x) aU3) :
  PS X (.Assign [.Name x pos'] (.ListComp elt [⟨tg,iter,ifs,0⟩] sc pos) pos2) (tAsg (zqx k js wi g tt te) (zlD i)):=by
 intro pins s σ H D I h;rw[exec_Assign_Name_used _ _ _ _ hsw];refine wpAny_bind (wpAny_standAt (wpAny_bind ?_));show wpAny _ X.A (do let _ <- comprehension (.ListComp elt [⟨tg,iter,ifs,0⟩] sc pos) sc X.env _ (newList []) false (eval iter X.env) (some (assign (.Name x pos') X.env))) _ _ s
 refine wpAny_bind (thn (wpAny_comprehension_free (use:=some (assign (.Name x pos') X.env)) (Q:=λ_ s'=>SP X pins D .next s') rfl hs (zlY λn hn=>I.ok.has n (S.fr n hn)) S.kind (zgu S) ?_) λ_ s' hq=>wpAny_pure (wpAny_pure hq))
 refine thn (zjJ (pos:=pos) (R:=λl H'=>D.nx (σ.set i (some (.ref l))) H') hc S hi B I h) λy s1 h1=>thn h1 λit s2 h2=>thn h2 λacc s3 h3=>thn h3 λcenv s4 h4=>codeAny_mono h4 λr s' hr=>?_;cases r with
 | error e=>exact False.elim hr
 | ok f=>
  obtain⟨l,H',m,rfl,I',hn,⟨f0,f1,f2,f3,f4,f5⟩,q⟩:=hr;refine wpAny_assign_Name (zhC I' hN hx (.inl hk) (show RelV (.ref l) (.ref l) from rfl) (λs'' I'' q63q=>?_) (.inr hk));obtain⟨a,sb,ha⟩:=q63q;have ne:cenv.locals≠a:=by
   rcases ha with z | z
   ·rw[z];exact f1
   ·exact λw=>f4 x a z w.symm
  exact⟨m,hn.sameBut sb ne,λh' sb'=>⟨_,H',I''.turned (t':=s''.toks) (λb o hb e=>sb'.extBut b o hb e) f0 f1 f3 f4 f5,q⟩⟩
end
end _L
namespace _J
open PySem
theorem zeS {α:Type}:∀ {l:List α}{i:Nat}(h:i<l.length),(l[i]::l.eraseIdx i).Perm l
 | _::_,0,_=>List.Perm.refl _
 | x::r,i+1,h=>by
  have ih:=zeS (l:=r) (i:=i) (by simpa using h);rw[List.eraseIdx_cons_succ];exact(List.Perm.swap x _ _).trans (ih.cons x)
section
variable {M:Model}{A:Around}{E:Value->Shared->Prop}{s:Shared}
theorem zkO {src:Source}{n:Nat}{Q:Nat->Shared->Prop}(hn:n≠0)(h:∀i,i<n->Q i { s with drawn:=s.drawn.bump src }):wpAny M A (choose src n) Q E s:=
 λ_ _ _=>⟨hn,h _ (Nat.mod_lt _ (Nat.pos_of_ne_zero hn))⟩
theorem zjK {α:Type}:∀(n:Nat)(xs:List α)(s:Shared)(Q:List α->Shared->Prop),xs.length<=n->(∀ys d,ys.Perm xs->Q ys { s with drawn:=d })->wpAny M A (drawOrder n xs) Q E s
 | 0,xs,s,Q,h,hq=>by
  have e:xs=[]:=XW.mp (by lia);subst e;exact wpAny_pure (hq [] s.drawn (List.Perm.refl _))
 | n+1,[],s,Q,_,hq=>wpAny_pure (hq [] s.drawn (List.Perm.refl _))
 | n+1,x::r,s,Q,h,hq=>by
  show wpAny M A (choose .order (x::r).length >>= λi=>match (x::r)[i]? with
   | some y=>drawOrder n ((x::r).eraseIdx i) >>= λys=>pure (y::ys)
   | none=>unsupported "internal:drawOrder") Q E s
  refine wpAny_bind (zkO (by simp) λi hi=>?_);have e:(x::r)[i]? = some (x::r)[i]:=by simp[hi]
  rw[e];refine wpAny_bind (zjK n ((x::r).eraseIdx i) _ _ (by rw[List.length_eraseIdx_of_lt hi];simp at h ⊢;lia) λys d hp=>wpAny_pure (hq _ d ?_));exact(hp.cons _).trans (zeS hi)
end
theorem zmd {α:Type}(next:Nat->Nat):∀(fuel k:Nat)(left:List α)(out:Array α),left.length=fuel->(pickOrder.go next fuel k left out).toList.Perm (out.toList++left)
 | 0,k,left,out,h=>by
  have e:left=[]:=XW.mp h;subst e;simp[pickOrder.go]
 | fuel+1,k,left,out,h=>by
  unfold pickOrder.go;have hi:next k % left.length<left.length:=Nat.mod_lt _ (by lia)
  have e:left[next k % left.length]? = some left[next k % left.length]:=by simp[hi]
  rw[e];dsimp only;refine(zmd next fuel (k+1) _ _ (by rw[List.length_eraseIdx_of_lt hi];lia)).trans ?_
  rw[Array.toList_push,List.append_assoc];exact List.Perm.append_left _ (zeS hi)
theorem zhQ {α:Type}(next:Nat->Nat)(xs:Array α):(pickOrder next xs).toList.Perm xs.toList:=by
 unfold pickOrder;have h:=zmd next xs.size 0 xs.toList #[] (by simp)
 simpa using h
noncomputable def Asc (xs:Array Nat):Prop:=xs.toList.Pairwise (· < ·)
theorem Asc.lt {xs:Array Nat}(h:Asc xs){i j:Nat}(hij:i<j)(hj:j<xs.size):xs.getD i 0<xs.getD j 0:=by
 have q:=List.pairwise_iff_getElem.mp h i j (by simp;lia) (by simpa using hj) hij;simpa[Array.getD,hj,show i<xs.size by lia]using q
theorem zek (n:Nat):Asc (Array.range n):=by
 unfold Asc;rw[Array.toList_range];exact List.pairwise_lt_range
theorem zgV (xs:Array Nat)(j:Nat):∀(fuel lo hi:Nat),Asc xs->lo<=hi->hi<=xs.size->hi-lo<=fuel->(∀i,i<lo->xs.getD i 0<j)->(∀i,hi<=i->i<xs.size->¬ xs.getD i 0<j)->
  Yd.go xs j fuel lo hi<=xs.size/\(∀i,i<Yd.go xs j fuel lo hi->xs.getD i 0<j)/\∀i,Yd.go xs j fuel lo hi<=i->i<xs.size->¬ xs.getD i 0<j
 | 0,lo,hi,ha,h1,h2,h3,h4,h5=>by
  have:lo=hi:=by lia
  subst this;exact⟨h2,h4,h5⟩
 | fuel+1,lo,hi,ha,h1,h2,h3,h4,h5=>by
  unfold Yd.go;by_cases h:lo<hi
  ·rw[if_pos h];dsimp only;have hm:(lo+hi) / 2<xs.size:=by lia
   have e:xs.getD ((lo+hi) / 2) j=xs.getD ((lo+hi) / 2) 0:=by simp[Array.getD,hm]
   rw[e];by_cases hc:xs.getD ((lo+hi) / 2) 0<j
   ·rw[if_pos hc];refine zgV xs j fuel _ _ ha (by lia) h2 (by lia) (λi hi'=>?_) h5;rcases Nat.lt_or_ge i ((lo+hi) / 2)with z | z
    ·exact Nat.lt_trans (ha.lt z hm) hc
    ·have:i=(lo+hi) / 2:=by lia
     rw[this];exact hc
   ·rw[if_neg hc];refine zgV xs j fuel _ _ ha (by lia) (by lia) (by lia) h4 λi hi' hs z=>hc ?_;rcases Nat.lt_or_ge ((lo+hi) / 2) i with y | y
    ·exact Nat.lt_trans (ha.lt y hs) z
    ·have:i=(lo+hi) / 2:=by lia
     rw[<- this];exact z
  ·rw[if_neg h];have:lo=hi:=by lia
   subst this;exact⟨h2,h4,h5⟩
theorem zjL {xs:Array Nat}(ha:Asc xs)(j:Nat):Yd xs j<=xs.size/\(∀i,i<Yd xs j->xs.getD i 0<j)/\∀i,Yd xs j<=i->i<xs.size->¬ xs.getD i 0<j:=
 zgV xs j xs.size 0 xs.size ha (Yh _) (Xg _) (by lia) (λi h=>by lia) (λi h1 h2=>by lia)
theorem below_at {xs:Array Nat}(ha:Asc xs){i:Nat}(hi:i<=xs.size):Yd xs (if i=0 then 0 else xs.getD (i-1) 0+1)=i:=by
 obtain⟨h1,h2,h3⟩:=zjL ha (if i=0 then 0 else xs.getD (i-1) 0+1)
 generalize Yd xs (if i=0 then 0 else xs.getD (i-1) 0+1)=r at h1 h2 h3
 by_cases e:i=0
 ·subst e;rw[if_pos rfl]at h2;rcases Nat.eq_zero_or_pos r with z | z
  ·exact z
  ·exact absurd (h2 0 z) (by lia)
 ·rw[if_neg e]at h2 h3;rcases Nat.lt_trichotomy r i with z | z | z
  ·have q:=h3 (i-1) (by lia) (by lia);lia
  ·exact z
  ·have q1:=h2 i z;have q2:=ha.lt (show i-1<i by lia) (show i<xs.size by lia);lia
structure Rec (w:World)(h:Heap)(a:Addr)(es:Array (Int×Value))(ep:Nat)(t:SetTable):Prop where
 obj:∃o,h.get? a=some o/\o.ExactSet/\o.data=.set es ep t
 fits:t.fits es.size=true
 led:t.led=true\/w.params.followText "set-order" = true
 asc:Asc t.place
 dm:t.dummies = #[]
 sz:es.size<scanBound
theorem Rec.keep {w:World}{h h':Heap}{a:Addr}{es:Array (Int×Value)}{ep:Nat}{t:SetTable}(r:Rec w h a es ep t)(k:∀o,h.get? a=some o->h'.get? a=some o):Rec w h' a es ep t:=
 ⟨let ⟨o,e,x⟩:=r.obj;⟨o,k o e,x⟩,r.fits,r.led,r.asc,r.dm,r.sz⟩
theorem Rec.type {w:World}{s:Shared}{a:Addr}{es:Array (Int×Value)}{ep:Nat}{t:SetTable}(r:Rec w s.heap a es ep t):s.TypeIs (.ref a) "set":=
 let ⟨o,e,x,_⟩:=r.obj;⟨o,e,x.1⟩
namespace F
theorem slot_next:Slot "set_iterator" "__next__" "set_iterator.__next__":=.of (owner:="set_iterator") (n:="__next__") (by rw[typeLookup_type,builtinLookup_eq_fast];kernel_rfl) (by decide +kernel) (by decide +kernel) (by decide +kernel) (by first | exact .inl (by decide +kernel) | exact .inr (by decide +kernel)) (by rw[isSubtype_type];kernel_rfl)
theorem entry_next:entryFor table "set_iterator.__next__" = some Builtin.«set_iterator.__next__»:=entryFor_of_tree (by kernel_rfl)
theorem args_next (a:Value):argsOk "set_iterator.__next__" ⟨[a],[]⟩:=by unfold argsOk;kernel_rfl
theorem zhR:Slot "set_iterator" "__iter__" "set_iterator.__iter__":=.of (owner:="set_iterator") (n:="__iter__") (by rw[typeLookup_type,builtinLookup_eq_fast];kernel_rfl) (by decide +kernel) (by decide +kernel) (by decide +kernel) (by first | exact .inl (by decide +kernel) | exact .inr (by decide +kernel)) (by rw[isSubtype_type];kernel_rfl)
theorem zkP:entryFor table "set_iterator.__iter__" = some Builtin.«dict_keyiterator.__iter__»:=entryFor_alias (id':="dict_keyiterator.__iter__") (by kernel_rfl) rfl (by decide +kernel) (by kernel_rfl)
theorem zme (a:Value):argsOk "set_iterator.__iter__" ⟨[a],[]⟩:=by unfold argsOk;kernel_rfl
theorem zgi:entryFor table "set.__iter__" = some Builtin.«frozenset.__iter__»:=entryFor_alias (id':="frozenset.__iter__") (by kernel_rfl) rfl (by decide +kernel) (by kernel_rfl)
end F
noncomputable abbrev byText (w:World):Bool:=w.params.followText "set-order"
noncomputable abbrev zfk (first:Value)(i n ep:Nat)(a:Addr):Obj:={ cls:=.type "set_iterator",data:=.fields #[first,.int i 0,.ref a,.int n 0,.int ep 0] }
inductive At (w:World) (h:Heap) (it a:Addr) (es:Array (Int×Value)) (ep:Nat) (t:SetTable):List Addr->List Value->Nat->Prop where
 | drawn (tp:Addr) (ps:List Nat) (i:Nat):(tp≠it)->h.get? it=some (zfk (.ref tp) i es.size ep a)->h.IsTuple tp (ps.map λ(p:Nat)=>Value.int (p:Int) 0).toArray->ps.Perm (Xs es.size)->At w h it a es ep t [tp] (ps.map λp=>(es.getD p (0,.none)).2) i
 | text (slot i:Nat):byText w=true->h.get? it=some (zfk (.int slot 0) i es.size ep a)->At w h it a es ep t [] ((pickOrder (w.params.setOrder a ep) es).toList.map (·.2)) i
 | one (slot i:Nat):byText w=false->t.led=true->(t.plain=true\/es.size<=1)->h.get? it=some (zfk (.int slot 0) i es.size ep a)->(slot=if i=0 then 0 else t.place.getD (i-1) 0+1)->At w h it a es ep t [] (es.toList.map (·.2)) i
section
variable {prog:Program}{w:World}{A:Around}{E:Value->Shared->Prop}{s:Shared}{a it:Addr}{es:Array (Int×Value)}{ep:Nat}{t:SetTable}
theorem zbv {Q:(Array (Int×Value)×Nat×SetTable)->Shared->Prop}(r:Rec w s.heap a es ep t)(h:Q (es,ep,t) s):wpAny (model prog w) A (setState a) Q E s:=by
 obtain⟨o,e,_,d⟩:=r.obj;exact wpAny_setState_of e d r.fits h
theorem zfn {slot i n:Nat}{P:PySem.Fin->Shared->Prop}{F:Value->Shared->Prop}(r:Rec w s.heap a es ep t)(ho:s.heap.get? it=some (zfk (.int slot 0) i es.size ep a))
  (h:wpAny (model prog w) A (setNext a slot i ep >>= λm=>match m with
     | some (x,next)=>setField (.ref it) 0 (rawInt next) >>= λ_=>setField (.ref it) 1 (rawInt ((i:Int)+1)) >>= λ_=>ret x
     | none=>setField (.ref it) 2 .none >>= λ_=>newExc (.type "StopIteration") [] >>= λe=>raiseNew e) P F s) :
  wpAny (model prog w) A (Builtin.«set_iterator.__next__» ⟨[.ref it],[]⟩) P F s:=by
 unfold Builtin.«set_iterator.__next__» slotArgs;simp only[List.isEmpty_nil,Bool.not_true,XL,if_false,YC,bne_self_eq_false];refine wpAny_bind (wpAny_pure (wpAny_bind (wpAny_fieldsOf ho rfl ?_)));dsimp only;unfold setEntries;refine wpAny_bind (wpAny_bind (zbv r (wpAny_pure ?_)));simp only[bne_self_eq_false,XL,if_false,XU];exact h
theorem zjM {tp i n:Nat}{items:Array Value}{P:PySem.Fin->Shared->Prop}{F:Value->Shared->Prop}(r:Rec w s.heap a es ep t)(ho:s.heap.get? it=some (zfk (.ref tp) i es.size ep a))(ht:s.heap.IsTuple tp items)
  (h:wpAny (model prog w) A (match items[i]? with
      | some (.int place _)=>setNextDrawn a place.toNat ep >>= λx=>setField (.ref it) 1 (rawInt ((i:Int)+1)) >>= λ_=>ret x
      | some _=>unsupported "internal:set_iterator"
      | none=>setField (.ref it) 0 (rawInt 0) >>= λ_=>setField (.ref it) 2 .none >>= λ_=>newExc (.type "StopIteration") [] >>= λe=>raiseNew e) P F s) :
  wpAny (model prog w) A (Builtin.«set_iterator.__next__» ⟨[.ref it],[]⟩) P F s:=by
 unfold Builtin.«set_iterator.__next__» slotArgs;simp only[List.isEmpty_nil,Bool.not_true,XL,if_false,YC,bne_self_eq_false];refine wpAny_bind (wpAny_pure (wpAny_bind (wpAny_fieldsOf ho rfl ?_)));dsimp only;unfold setEntries;refine wpAny_bind (wpAny_bind (zbv r (wpAny_pure ?_)));simp only[bne_self_eq_false,XL,if_false,XU];obtain⟨o,ho',_,n',hd⟩:=ht;exact wpAny_bind (wpAny_seqItems ho' hd h)
theorem zfg {i:Nat}{slot:Nat}{Q:Option (Value×Nat)->Shared->Prop}(r:Rec w s.heap a es ep t)(hb:byText w=true)
  (h:Q (((pickOrder (w.params.setOrder a ep) es)[i]?).map λe=>(e.2,slot)) s):wpAny (model prog w) A (setNext a slot i ep) Q E s:=by
 have hb':w.params.followText "set-order" = true:=hb;unfold setNext setsByText;refine wpAny_bind (zbv r ?_);refine wpAny_bind (wpAny_bind (wpAny_askSetting (wpAny_pure ?_)));simp only[model,hb',if_true,bne_self_eq_false,XL,if_false];unfold setWalk setsByText;refine wpAny_bind (wpAny_bind (zbv r ?_));refine wpAny_bind (wpAny_bind (wpAny_askSetting (wpAny_pure ?_)));simp only[model,hb',if_true];exact wpAny_bind (wpAny_askSetting (wpAny_pure (wpAny_pure h)))
theorem zfD {i:Nat}{slot:Nat}{Q:Option (Value×Nat)->Shared->Prop}(r:Rec w s.heap a es ep t)(hb:byText w=false)(hl:t.led=true)(h1:t.plain=true\/es.size<=1)
  (h:Q (match es[Yd t.place slot]?,t.place[Yd t.place slot]? with | some (_,x),some j=>some (x,j+1) | _,_=>none) s):wpAny (model prog w) A (setNext a slot i ep) Q E s:=by
 have hb':w.params.followText "set-order" = false:=hb;unfold setNext setsByText;refine wpAny_bind (zbv r ?_);refine wpAny_bind (wpAny_bind (wpAny_askSetting (wpAny_pure ?_)));simp only[model,hb',XL,if_false];have hd:(!t.plain&&decide (es.size > 1))=false:=by
  rcases h1 with z | z
  ·rw[z];rfl
  ·rw[decide_eq_false (by lia),Bool.and_false]
 have hm:(!t.led&&!es.isEmpty)=false:=by rw[hl];rfl
 show wpAny (model prog w) A (if (!t.plain&&decide (es.size > 1))=true then _ else((if (!t.led&&!es.isEmpty)=true then unsupported "set:maker-not-led" else pure ()) >>= λ_=>pure _)) Q E s
 rw[hd,hm];exact wpAny_bind (wpAny_pure (wpAny_pure h))
theorem zkQ {p:Nat}{x:Value}{hx:Int}{Q:Value->Shared->Prop}(r:Rec w s.heap a es ep t)(hp:es[p]? = some (hx,x))(h:Q x s):wpAny (model prog w) A (setNextDrawn a p ep) Q E s:=by
 unfold setNextDrawn;refine wpAny_bind (zbv r ?_);simp only[bne_self_eq_false,XL,if_false,hp];exact wpAny_pure h
theorem zmf (hh:A.handled=none){R:Option Value->Shared->Prop}(hR:∀h',(∀b o,s.heap.get? b=some o->h'.get? b=some o)->R none { s with heap:=h' }) :
  wpAny (model prog w) A.in1 (newExc (.type "StopIteration") [] >>= λe=>(raiseNew e:Sem PySem.Fin)) (λ_ _=>False)
   (λe s'=>wpAny (model prog w) A (isInstance e (.type "StopIteration") >>= λb=>if b=true then pure none else throw e) R E s') s:=by
 refine wpAny_bind ?_;simp only[newExc,newTuple];refine wpAny_bind (wpAny_newObj_type (wpAny_bind (m:=firstArgMember _ _) (wpAny_of_eq (a:=Value.none) (by first | rfl | (simp only[firstArgMember];rfl)) (wpAny_newObj_type ?_ (by size_fits)))) (by size_fits))
 simp only[raiseNew];refine wpAny_bind (wpAny_handled ?_);rw[show A.in1.handled=none from hh];refine wpAny_bind (wpAny_pure (wpAny_throw ?_));refine wpAny_bind (wpAny_isInstance (T:="StopIteration") (b:=true) ⟨_,Xv _ rfl,rfl⟩ isSubtype_stop ?_);exact wpAny_pure (hR _ λb o e=>Xe _ (Xe _ e))
theorem zcG {first:Value}{i n:Nat}{Q:Option Value->Shared->Prop}(ho:s.heap.get? it=some (zfk first i n ep a))
  (h:wpAny (model prog w) A.in1 (Builtin.«set_iterator.__next__» ⟨[.ref it],[]⟩) (λfin s'=>∃u,fin=.done (.ret u)/\Q (some u) s')
   (λe s'=>wpAny (model prog w) A (isInstance e (.type "StopIteration") >>= λb=>if b=true then pure none else throw e) Q E s') s):wpAny (model prog w) A (pyNext (.ref it)) Q E s:=by
 have hT:s.TypeIs (.ref it) "set_iterator":=⟨_,ho,rfl⟩;unfold pyNext;refine wpAny_bind (wpAny_attempt (wpAny_callSpecial?_slot (name:=Str.ofString "__next__") hT F.slot_next (wpAny_call_entry F.slot_next hT F.entry_next ?_ (F.args_next _))));exact wpAny_mono h (λfin s' q64q=>by obtain⟨u,e,q⟩:=q64q;exact⟨u,e,wpAny_pure q⟩) λ_ _ z=>z
theorem next_item {tq:List Addr}{order:List Value}{i:Nat}{v:Value}{Q:Option Value->Shared->Prop}(r:Rec w s.heap a es ep t)(x:At w s.heap it a es ep t tq order i)(hv:order[i]? = some v)
  (hQ:∀h',At w h' it a es ep t tq order (i+1)->Yf it s.heap h'->Q (some v) { s with heap:=h' }):wpAny (model prog w) A (pyNext (.ref it)) Q E s:=by
 have hc:((i:Int)+1)=((i+1:Nat):Int):=by lia
 cases x with
 | drawn tp ps _ hne ho ht hp=>
  refine zcG ho (zjM (n:=0) r ho ht ?_);rw[Xi]at hv;cases hpi:ps[i]? with
  | none=>rw[hpi]at hv;cases hv
  | some p=>
   rw[hpi]at hv;have hlt:p<es.size:=Yk.mp (hp.mem_iff.mp (Xr hpi));have e1:(ps.map λ(p:Nat)=>Value.int (p:Int) 0).toArray[i]? = some (Value.int (p:Int) 0):=by simp[hpi]
   rw[e1];dsimp only;have e2:es[p]? = some (es[p].1,es[p].2):=by simp[hlt]
   have e3:v=es[p].2:=by
    have q:=Option.some.inj hv;rw[<- q];simp[Array.getD,hlt]
   rw[XU];refine wpAny_bind (zkQ r e2 (wpAny_bind (wpAny_setField ho rfl (by show 1<5;decide) (wpAny_pure ⟨_,rfl,?_⟩))));rw[<- e3];refine hQ _ (.drawn tp ps (i+1) hne ?_ ?_ hp) (Yf.update ..)
   ·rw[hc];exact Ye _ ho rfl
   ·obtain⟨o,q,c⟩:=ht;exact⟨o,(YB _ _ (Ne.symm hne)).trans q,c⟩
 | text slot _ hb ho=>
  refine zcG ho (zfn (n:=0) r ho (wpAny_bind (zfg r hb ?_)));rw[Xi]at hv;cases hpi:(pickOrder (w.params.setOrder a ep) es).toList[i]? with
  | none=>rw[hpi]at hv;cases hv
  | some p=>
   rw[hpi]at hv;have e1:(pickOrder (w.params.setOrder a ep) es)[i]? = some p:=by rw[<- Array.getElem?_toList];exact hpi
   have e3:p.2=v:=Option.some.inj hv;rw[e1];dsimp only[Option.map];rw[e3];have ho1:(s.heap.update it (Obj.mapFields (·.setIfInBounds 0 (rawInt slot)))).get? it=some (zfk (.int slot 0) i es.size ep a):=Ye _ ho rfl;refine wpAny_bind (wpAny_setField ho rfl (by show 0<5;decide) (wpAny_bind (wpAny_setField ho1 rfl (by show 1<5;decide) (wpAny_pure ⟨_,rfl,?_⟩))));refine hQ _ (.text slot (i+1) hb ?_) ((Yf.update ..).trans (Yf.update ..));rw[hc];exact Ye _ ho1 rfl
 | one slot _ hb hl h1 ho h0=>
  refine zcG ho (zfn (n:=0) r ho (wpAny_bind (zfD r hb hl h1 ?_)));have hi:i<es.size:=by
   have q:=(Xd.mp hv).1;simpa using q
  have hps:t.place.size=es.size:=by
   have q:=r.fits;simp only[SetTable.fits,Yn,beq_iff_eq]at q;exact q.1
  have e0:Yd t.place slot=i:=by rw[h0];exact below_at r.asc (by lia)
  have e1:es[i]? = some (es[i].1,es[i].2):=by simp[hi]
  have e3:es[i].2=v:=by
   rw[Xi]at hv;have q:es.toList[i]? = some es[i]:=by simp[hi]
   rw[q]at hv;exact Option.some.inj hv
  have hip:i<t.place.size:=by lia
  obtain⟨pl,hpl⟩:∃pl,t.place[i]? = some pl:=⟨t.place[i],getElem?_pos t.place i hip⟩;have hpd:t.place.getD i 0=pl:=by
   rw[getElem?_pos t.place i hip]at hpl;simp only[Array.getD,hip,dif_pos];exact Option.some.inj hpl
  rw[e0,e1,hpl];dsimp only;rw[e3];have ho1:(s.heap.update it (Obj.mapFields (·.setIfInBounds 0 (rawInt ((pl+1:Nat):Int))))).get? it=some (zfk (.int ((pl+1:Nat):Int) 0) i es.size ep a):=Ye _ ho rfl;refine wpAny_bind (wpAny_setField ho rfl (by show 0<5;decide) (wpAny_bind (wpAny_setField ho1 rfl (by show 1<5;decide) (wpAny_pure ⟨_,rfl,?_⟩))));refine hQ _ (.one (pl+1) (i+1) hb hl h1 ?_ (by rw[if_neg (by lia),Nat.add_sub_cancel,hpd])) ((Yf.update ..).trans (Yf.update ..));rw[hc];exact Ye _ ho1 rfl
theorem zmg {tq:List Addr}{order:List Value}{Q:Option Value->Shared->Prop}(hh:A.handled=none)(r:Rec w s.heap a es ep t)(x:At w s.heap it a es ep t tq order es.size)
  (hQ:∀h',(∀b o,b≠it->s.heap.get? b=some o->h'.get? b=some o)->Q none { s with heap:=h' }):wpAny (model prog w) A (pyNext (.ref it)) Q E s:=by
 have up:∀(k:Nat) (y:Value) (h:Heap) (b:Addr) (o:Obj),b≠it->h.get? b=some o->(h.update it (Obj.mapFields (·.setIfInBounds k y))).get? b=some o:=λk y h b o hb e=>(YB _ _ (Ne.symm hb)).trans e;have two:∀(slot i:Nat),s.heap.get? it=some (zfk (.int slot 0) i es.size ep a)->wpAny (model prog w) A.in1 (setField (.ref it) 2 .none >>= λ_=>newExc (.type "StopIteration") [] >>= λe=>(raiseNew e:Sem PySem.Fin))
   (λfin s'=>∃u,fin=.done (.ret u)/\Q (some u) s') (λe s'=>wpAny (model prog w) A (isInstance e (.type "StopIteration") >>= λb=>if b=true then pure none else throw e) Q E s') s:=λslot i ho=>by
  refine wpAny_bind (wpAny_setField ho rfl (by show 2<5;decide) ?_);exact wpAny_mono (zmf (E:=E) (R:=Q) hh λh' k=>hQ h' λb o hb e=>k b o (up _ _ _ b o hb e)) (λ_ _ z=>z.elim) λ_ _ z=>z
 cases x with
 | drawn tp ps _ hne ho ht hp=>
  refine zcG ho (zjM (n:=0) r ho ht ?_);have e1:(ps.map λ(p:Nat)=>Value.int (p:Int) 0).toArray[es.size]? = none:=by
   have q:=hp.length_eq;rw[XA]at q;simp[q]
  rw[e1];dsimp only;have ho1:(s.heap.update it (Obj.mapFields (·.setIfInBounds 0 (rawInt 0)))).get? it=some (zfk (.int ((0:Nat):Int) 0) es.size es.size ep a):=Ye _ ho rfl;refine wpAny_bind (wpAny_setField ho rfl (by show 0<5;decide) (wpAny_bind (wpAny_setField ho1 rfl (by show 2<5;decide) ?_)));exact wpAny_mono (zmf (E:=E) (R:=Q) hh λh' k=>hQ h' λb o hb e=>k b o (up _ _ _ b o hb (up _ _ _ b o hb e))) (λ_ _ z=>z.elim) λ_ _ z=>z
 | text slot _ hb ho=>
  refine zcG ho (zfn (n:=0) r ho (wpAny_bind (zfg r hb ?_)));have q:=(zhQ (w.params.setOrder a ep) es).length_eq;have e1:(pickOrder (w.params.setOrder a ep) es)[es.size]? = none:=by
   simp only[Yp]at q;simp[q]
  rw[e1];dsimp only[Option.map];exact two slot _ ho
 | one slot _ hb hl h1 ho h0=>
  refine zcG ho (zfn (n:=0) r ho (wpAny_bind (zfD r hb hl h1 ?_)));have hps:t.place.size=es.size:=by
   have q:=r.fits;simp only[SetTable.fits,Yn,beq_iff_eq]at q;exact q.1
  have e0:es[Yd t.place slot]? = none:=by
   rw[h0,below_at r.asc (by lia)];simp
  rw[e0];dsimp only;exact two slot _ ho
theorem zmh {Q:Bool->Shared->Prop}(r:Rec w s.heap a es ep t)(h:Q (!byText w&&(!t.plain&&decide (es.size > 1))) s):wpAny (model prog w) A (setDrawn a) Q E s:=by
 unfold setDrawn setsByText;refine wpAny_bind (zbv r ?_);exact wpAny_bind (wpAny_bind (wpAny_askSetting (wpAny_pure (wpAny_pure h))))
theorem At.keep {h h':Heap}{tq:List Addr}{order:List Value}{i:Nat}(x:At w h it a es ep t tq order i)(k:∀b∈it::tq,∀o,h.get? b=some o->h'.get? b=some o):At w h' it a es ep t tq order i:=by
 cases x with
 | drawn tp ps _ hne ho ht hp=>
  obtain⟨o,q,c⟩:=ht;exact .drawn tp ps i hne (k it (by simp) _ ho) ⟨o,k tp (by simp) o q,c⟩ hp
 | text slot _ hb ho=>exact .text slot i hb (k it (by simp) _ ho)
 | one slot _ hb hl h1 ho h0=>exact .one slot i hb hl h1 (k it (by simp) _ ho) h0
theorem At.len {h:Heap}{tq:List Addr}{order:List Value}{i:Nat}(x:At w h it a es ep t tq order i):order.Perm (es.toList.map (·.2)):=by
 cases x with
 | drawn tp ps _ hne ho ht hp=>
  have e:(Xs es.size).map (λp=>(es.getD p (0,Value.none)).2)=es.toList.map (·.2):=by
   apply List.ext_getElem
   ·simp
   ·intro j h1 h2;simp at h1;simp[Array.getD,h1]
  rw[<- e];exact hp.map _
 | text slot _ hb ho=>exact(zhQ _ _).map _
 | one slot _ hb hl h1 ho h0=>exact List.Perm.refl _
theorem zof {Q:Value->Shared->Prop}(r:Rec w s.heap a es ep t)
  (h:∀(h':Heap) (d:Drawn) (it:Addr) (tq:List Addr) (order:List Value),(∀b o,s.heap.get? b=some o->h'.get? b=some o)->s.heap.objs.size<=it->(∀b∈it::tq,s.heap.objs.size<=b/\b<h'.objs.size)->At w h' it a es ep t tq order 0->
   Q (.ref it) { s with heap:=h',drawn:=d }):wpAny (model prog w) A (pyIter (.ref a)) Q E s:=by
 refine wpAny_pyIter_slot r.type PySem.F.slot_set_iter (wpAny_call_entry PySem.F.slot_set_iter r.type F.zgi ?_ (PySem.F.args_set_iter_1 _));unfold Builtin.«frozenset.__iter__» Builtin.Frozenset.slot0 slotArgs;simp only[List.isEmpty_nil,Bool.not_true,XL,if_false,YC,bne_self_eq_false,bind_assoc];unfold Builtin.Frozenset.addrOf Builtin.Frozenset.sizeOf setEntries setEpoch;refine wpAny_bind (wpAny_pure ?_);dsimp only;refine wpAny_bind (wpAny_pure ?_);simp only[bind_assoc];refine wpAny_bind (zbv r (wpAny_bind (wpAny_pure (wpAny_bind (wpAny_pure (wpAny_bind (zmh r ?_)))))));cases hd:(!byText w&&(!t.plain&&decide (es.size > 1)))with
 | true=>
  simp only[Yn,Bool.not_eq_true',decide_eq_true_eq]at hd;simp only[if_true,bind_assoc];refine wpAny_bind (zjK es.size (Xs es.size) _ _ (by simp) λps d hp=>?_);refine wpAny_bind (wpAny_newTuple ?_ (by rw[Xb,hp.length_eq,XA];exact fits_of_scanBound r.sz));dsimp only;have hz:(s.heap.push { cls:=.type "tuple",data:=.seq (ps.map λ(i:Nat)=>rawInt (i:Int)).toArray }).objs.size=s.heap.objs.size+1:=Yw ..;have r1:Rec w (s.heap.push { cls:=.type "tuple",data:=.seq (ps.map λ(i:Nat)=>rawInt (i:Int)).toArray }) a es ep t:=r.keep λo e=>Xe _ e;refine wpAny_bind (zbv (s:={ s with heap:=s.heap.push { cls:=.type "tuple",data:=.seq (ps.map λ(i:Nat)=>rawInt (i:Int)).toArray },drawn:=d }) r1 (wpAny_bind (wpAny_pure (wpAny_bind (wpAny_newObj_type (wpAny_pure ?_))))));refine⟨_,rfl,"set_iterator",_,⟨_,Xv _ rfl,rfl⟩,F.slot_next.lookup,?_⟩;refine h _ d _ [s.heap.objs.size] _ (λb o e=>Xe _ (Xe _ e)) (by rw[hz];exact Nat.le_succ _) (λb hb=>?_)
   (.drawn s.heap.objs.size ps 0 (by rw[hz];exact Xx (XQ _)) (Xv _ rfl) ⟨_,Xe _ (Xv _ rfl),rfl,_,rfl⟩ hp)
  rw[Yw,hz];rcases Xu.mp hb with e | hb
  ·rw[hz]at e;rw[e];exact⟨Nat.le_succ _,XQ _⟩
  ·have e:=Xw.mp hb;rw[e];exact⟨Xg _,XS (XQ _)⟩
 | false=>
  simp only[XL,if_false];refine wpAny_bind (wpAny_pure (wpAny_bind (zbv r (wpAny_bind (wpAny_pure (wpAny_bind (wpAny_newObj_type (wpAny_pure ?_))))))));refine⟨_,rfl,"set_iterator",_,⟨_,Xv _ rfl,rfl⟩,F.slot_next.lookup,?_⟩;have fin:∀order,At w (s.heap.push (zfk (.int ((0:Nat):Int) 0) 0 es.size ep a)) s.heap.objs.size a es ep t [] order 0->Q (.ref s.heap.objs.size) { s with heap:=s.heap.push (zfk (.int ((0:Nat):Int) 0) 0 es.size ep a) }:=λorder x=>
   h _ s.drawn _ [] order (λb o e=>Xe _ e) (Xg _) (λb hb=>by
    have e:b=s.heap.objs.size:=by simpa using hb
    subst e;rw[Yw];exact⟨Xg _,XQ _⟩) x
  cases hb:byText w with
  | true=>exact fin _ (.text 0 0 hb (Xv _ rfl))
  | false=>
   rw[hb]at hd;have hl:t.led=true:=by
    rcases r.led with z | z
    ·exact z
    ·have z':byText w=true:=z;rw[hb]at z';cases z'
   have h1:t.plain=true\/es.size<=1:=by
    cases hp:t.plain with
    | true=>exact .inl rfl
    | false=>
     rw[hp]at hd;simp only[Bool.not_false,Bool.true_and,decide_eq_false_iff_not]at hd;exact .inr (by lia)
   exact fin _ (.one 0 0 hb hl h1 (Xv _ rfl) rfl)
theorem walks {tq:List Addr}{order:List Value}(hh:A.handled=none)(hta:a∉it::tq)(h0:order.length=es.size) :
  WalksS prog w A it (it::a::tq) [it] (λx y=>y=x) es.size (λi v=>order[i]? = some v) (λi s=>Rec w s.heap a es ep t/\At w s.heap it a es ep t tq order i) where
 sub:=λb hb=>by
  have e:b=it:=by simpa using hb
  subst e;exact Xp
 grefl:=λ_=>rfl
 gtrans:=λ_ _ _ h1 h2=>h2.trans h1
 frame:=λi s h' tk st _ k=>⟨st.1.keep λo e=>k a (by simp) o e,st.2.keep λb hb o e=>k b (by
  rcases Xu.mp hb with z | z
  ·subst z;exact Xp
  ·exact Xn _ (Xn _ z)) o e⟩
 item:=λi s Q E hi st hQ=>by
  have hv:order[i]? = some (order[i]'(by lia)):=by simp
  refine next_item st.1 st.2 hv λh' x sb=>?_;have ne:a≠it:=λz=>hta (by rw[z];exact Xp);exact hQ _ _ hv ⟨st.1.keep λo e=>(sb.2 a ne).trans e,x⟩ ⟨λb o hb e=>(sb.2 b (λz=>hb (by simp[z]))).trans e,rfl,rfl,rfl,Xg _⟩
 done:=λs Q E st hQ=>zmg hh st.1 st.2 λh' k=>hQ _ ⟨λb o hb e=>k b o (λz=>hb (by simp[z])) e,rfl,rfl,rfl,Xg _⟩
 self:=λi s Q E st hQ=>by
  have hT:s.TypeIs (.ref it) "set_iterator":=by
   rcases st.2 with ⟨tp,ps,_,_,ho,_⟩ | ⟨slot,_,_,ho⟩ | ⟨slot,_,_,_,_,ho,_⟩
   ·exact⟨_,ho,rfl⟩
   ·exact⟨_,ho,rfl⟩
   ·exact⟨_,ho,rfl⟩
  refine wpAny_pyIter_slot hT F.zhR (wpAny_call_entry F.zhR hT F.zkP ?_ (F.zme _));show wpAny _ _ (ret (.ref it)) _ _ s;exact wpAny_pure ⟨_,rfl,"set_iterator",_,hT,F.slot_next.lookup,hQ⟩
theorem zjb {Q:List Value->Shared->Prop}(hh:A.handled=none)(r:Rec w s.heap a es ep t)
  (h:∀(h':Heap) (d:Drawn) (tk:Nat) (order:List Value),order.Perm (es.toList.map (·.2))->(∀b o,s.heap.get? b=some o->h'.get? b=some o)->Q order { s with heap:=h',drawn:=d,toks:=tk }):wpAny (model prog w) A (collect (.ref a)) Q E s:=by
 unfold collect;refine wpAny_bind (wpAny_runValue (codeAny_builtin PySem.F.entry_proto_collect ?_));rw[Around.under_plainId PySem.F.plain_proto_collect _];show wpAny _ A.in1 (newList [] >>= λl=>again (.builtin "list.__iadd__" ⟨[l,.ref a],[]⟩)) _ _ s;refine wpAny_bind (wpAny_newList (wpAny_pure ⟨plainId_quiet PySem.F.plain_list_iadd _,codeAny_builtin PySem.F.entry_list_iadd ?_⟩));rw[Around.under_plainId PySem.F.plain_list_iadd _];have hS0:(s.heap.push { cls:=.type "list",data:=.seq ([]:List Value).toArray }).get? s.heap.objs.size=some { cls:=.type "list",data:=.seq ([]:List Value).toArray }:=Xv _ rfl;have hz0:(s.heap.push { cls:=.type "list",data:=.seq ([]:List Value).toArray }).objs.size=s.heap.objs.size+1:=Yw ..;have r0:Rec w (s.heap.push { cls:=.type "list",data:=.seq ([]:List Value).toArray }) a es ep t:=r.keep λo e=>Xe _ e;have haS:a<s.heap.objs.size:=by obtain⟨o,e,_⟩:=r.obj;exact Xm e
 show wpAny _ A.in1 (Builtin.List.listExtendWith (.ref s.heap.objs.size) (.ref a) (.ref s.heap.objs.size)) _ _ { s with heap:=s.heap.push { cls:=.type "list",data:=.seq ([]:List Value).toArray } };unfold Builtin.List.listExtendWith;refine wpAny_bind (wpAny_typeOf (T:="set") r0.type ?_);have h1:Builtin.List.listSameRef (.ref s.heap.objs.size) (.ref a)=false:=by simp[Builtin.List.listSameRef,Yg haS]
 have h2:(Value.type "set" == Value.type "list")=false:=by decide
 have h3:(Value.type "set" == Value.type "tuple")=false:=by decide
 simp only[h1,h2,h3,Bool.or_false,XL,if_false];refine wpAny_bind (zof (s:={ s with heap:=s.heap.push { cls:=.type "list",data:=.seq ([]:List Value).toArray } }) r0 λh' d it tq order kp hit hfp x=>?_);have rT:Shared.TypeIs { s with heap:=h',drawn:=d } (.ref a) "set":=(r0.keep λo e=>kp a o e).type;have room:∀ {Q':Bool->Shared->Prop} {A':Around} {E':Value->Shared->Prop},Q' false { s with heap:=h',drawn:=d }->wpAny (model prog w) A' (Builtin.List.listLengthHint (.ref a)) Q' E' { s with heap:=h',drawn:=d }:=λ{Q' A' E'} hq=>by
  unfold Builtin.List.listLengthHint;refine wpAny_bind (wpAny_specialOf rT PySem.F.slot_set_len.lookup ?_);generalize hid:("set.__len__" : String)=id0;wp_delta;rw[show splitId id0=some ("set","__len__") from by subst hid;decide +kernel];subst hid;refine wpAny_bind (wpAny_isInstance (T:="set") (b:=true) rT (by rw[isSubtype_type];kernel_rfl) ?_);refine wpAny_ite_split (λhab=>absurd hab (by decide)) (λ_=>wpAny_ite_split (λ_=>?_) (λhab=>absurd (by decide +kernel) hab));exact wpAny_bind (wpAny_typeOf rT (wpAny_pure hq))
 refine wpAny_bind (wpAny_holding (room ?_));show wpAny _ A.in1 (rule "list.extend.makes-room" >>= λ_=>Builtin.List.listTouch (.ref s.heap.objs.size) >>= λ_=>again (.builtin "list.extend.loop" ⟨[.ref s.heap.objs.size,.ref it,.ref s.heap.objs.size],[]⟩)) _ _ { s with heap:=h',drawn:=d };refine wpAny_bind (wpAny_rule ?_);have hS1:h'.get? s.heap.objs.size=some { cls:=.type "list",data:=.seq ([]:List Value).toArray }:=kp _ _ hS0;refine wpAny_bind ?_;show wpAny _ A.in1 (updateSeq s.heap.objs.size (·.push .none) >>= λ_=>updateSeq s.heap.objs.size (·.pop)) _ _ { s with heap:=h',drawn:=d };refine wpAny_bind (wpAny_updateSeq hS1 rfl ?_);have hS2:=Ye (Obj.mapSeq (·.push Value.none)) hS1 rfl;refine wpAny_updateSeq hS2 rfl ?_;have hS3:=Ye (Obj.mapSeq (·.pop)) hS2 rfl;have oth:∀b o,b≠s.heap.objs.size->h'.get? b=some o->((h'.update s.heap.objs.size (Obj.mapSeq (·.push Value.none))).update s.heap.objs.size (Obj.mapSeq (·.pop))).get? b=some o:=
  λb o hb e=>(YB _ _ (Ne.symm hb)).trans ((YB _ _ (Ne.symm hb)).trans e)
 have hlow:∀b∈it::tq,s.heap.objs.size<b:=λb hb=>by
  have q:=(hfp b hb).1;dsimp only at q;rw[hz0]at q;exact q
 have hta:a∉it::tq:=λz=>Nat.lt_asymm haS (hlow a z);have hSf:s.heap.objs.size∉it::a::tq:=λz=>by
  rcases Xu.mp z with e | z
  ·exact absurd (hlow it Xp) (by rw[<- e];exact Yr _)
  ·rcases Xu.mp z with e | z
   ·exact absurd haS (by rw[<- e];exact Yr _)
   ·exact absurd (hlow _ (Xn _ z)) (Yr _)
 have W:=walks (prog:=prog) (w:=w) (A:=A.in1) (it:=it) (a:=a) (es:=es) (ep:=ep) (t:=t) (tq:=tq) (order:=order) (by simpa using hh) hta (by rw[x.len.length_eq];simp);refine wpAny_pure ⟨plainId_quiet PySem.F.plain_extend_loop _,codeAny_extend_loopS W (fits_of_scanBound r.sz) _ hSf _ es.size 0 _ _ _ rfl (Yh _) ⟨(r0.keep λo e=>kp a o e).keep λo e=>oth a o (Xx haS) e,x.keep λb hb o e=>oth b o (Yg (hlow b hb)) e⟩ hS3 (ItemsOf.nil _) λs' acc' c' hm hS' hacc=>?_⟩;show wpAny _ A (load s.heap.objs.size >>= _) _ _ s';refine wpAny_bind (wpAny_load hS' (wpAny_pure ?_));have eacc:acc'.toList=order:=by
  apply List.ext_getElem?;intro j;by_cases hj:j<es.size
  ·have q1:acc'[j]? = some (acc'[j]'(by rw[hacc.1];exact hj)):=by simp[hacc.1,hj]
   have q2:=hacc.2 j _ q1;rw[q2,<- q1];simp
  ·have q1:acc'.toList[j]? = none:=by simp[hacc.1];lia
   have q3:order.length=es.size:=by rw[x.len.length_eq];simp
   have q2:order[j]? = none:=by simp[q3];lia
   rw[q1,q2]
 rw[eacc];obtain⟨h2',g2,d2,t2,o2⟩:=s';have e1:g2=s.gens:=hm.gens;have e2:d2=d:=hm.drawn;have e3:o2=s.os:=hm.os;subst e1 e2 e3;refine h h2' d2 t2 order x.len λb o e=>?_;have hb:b<s.heap.objs.size:=Xm e;refine hm.heap b o (λz=>?_) (oth b o (Xx hb) (kp b o (Xe _ e)));rcases Xu.mp z with q | q
 ·exact Xx hb q
 ·have q':b=it:=by simpa using q
  exact absurd (hlow it Xp) (by rw[<- q'];exact Nat.lt_asymm hb)
end
open PySem PySem.Spec PyProof.Rows
noncomputable def sOf:Value->Str
 | .str x _=>x
 | _=>Str.empty
theorem zgv {t t':SetTable}{hs:Array Int}{n:Nat}{o:Array Nat}(h:t.relaid hs n=some (t',o)):t'.led=t.led/\t'.plain=t.plain:=by
 unfold SetTable.relaid SetTable.laid at h;cases e:SetTable.layClean (SetTable.sizeAbove n-1) hs with
 | none=>rw[e]at h;cases h
 | some ow=>
  rw[e]at h;have q:=Option.some.inj h;rw[<- (Prod.mk.inj q).1];exact⟨rfl,rfl⟩
theorem zkR (t:SetTable)(es:Array (Int×Value))(h:Int)(x:Value):(layNew t es h x).2.1.led=t.led/\(t.plain=false->(layNew t es h x).2.1.plain=false):=by
 unfold layNew;cases e:t.freeSlot h with
 | none=>exact⟨rfl,λ_=>rfl⟩
 | some p=>
  obtain⟨slot,dm⟩:=p;dsimp only;unfold SetTable.orStandIn;split
  ·exact⟨rfl,λz=>z⟩
  ·exact⟨rfl,λ_=>rfl⟩
theorem zmi (t:SetTable)(es:Array (Int×Value))(n:Nat):(relayAll t es n).2.1.led=t.led/\(t.plain=false->(relayAll t es n).2.1.plain=false):=by
 unfold relayAll;cases e:t.relaid (es.map (·.1)) n with
 | none=>exact⟨rfl,λ_=>rfl⟩
 | some p=>
  obtain⟨t',o⟩:=p;dsimp only;split
  ·exact⟨(zgv e).1,λz=>(zgv e).2.trans z⟩
  ·exact⟨rfl,λ_=>rfl⟩
theorem zkS {xs:Array Nat}(ha:Asc xs){j:Nat}(hn:¬ (xs[Yd xs j]? == some j)=true):Asc (SetTable.insertAt xs (Yd xs j) j):=by
 obtain⟨h1,h2,h3⟩:=zjL ha j;generalize Yd xs j=r at h1 h2 h3 hn;have hnot:∀i,r<=i->i<xs.size->j<xs.getD i 0:=λi g1 g2=>by
  have q:=h3 r (Xg _) (by lia);have q2:xs.getD r 0≠j:=λe=>by
   have hr:r<xs.size:=by lia
   have e2:xs[r]=j:=by simpa[Array.getD,hr]using e
   exact hn (by rw[getElem?_pos xs r hr,e2];simp)
  rcases Nat.lt_or_ge r i with z | z
  ·have:=ha.lt z g2;lia
  ·have:i=r:=by lia
   subst this;lia
 have hl:(SetTable.insertAt xs r j).toList=xs.toList.take r++[j]++xs.toList.drop r:=by
  unfold SetTable.insertAt;simp[Array.toList_extract,List.extract_eq_drop_take,XJ]
 unfold Asc;rw[hl,List.pairwise_append,List.pairwise_append];refine⟨⟨List.Pairwise.sublist (List.take_sublist _ _) ha,by simp,λa hm b hb=>?_⟩,List.Pairwise.sublist (List.drop_sublist _ _) ha,λa hm b hb=>?_⟩
 ·rw[Xw.mp hb];obtain⟨i,hi,rfl⟩:=List.mem_iff_getElem.mp hm;rw[XR]at hi;rw[List.getElem_take];have q:=h2 i (by lia);simpa[Array.getD,show i<xs.size by lia]using q
 ·obtain⟨i,hi,rfl⟩:=List.mem_iff_getElem.mp hb;rw[List.length_drop,Yp]at hi;rw[List.getElem_drop];have q:=hnot (r+i) (by lia) (by lia);have q:j<xs.toList[r+i]'(by simp;lia):=by simpa[Array.getD,show r+i<xs.size by lia]using q
  rcases XZ.mp hm with hm | hm
  ·obtain⟨k,hk,rfl⟩:=List.mem_iff_getElem.mp hm;rw[XR]at hk;rw[List.getElem_take];have q2:=h2 k (by lia);have q2:xs.toList[k]'(by simp;lia)<j:=by simpa[Array.getD,show k<xs.size by lia]using q2
   lia
  ·rw[Xw.mp hm];exact q
theorem zjN (t:SetTable)(hd:t.dummies = #[])(g:Nat->Int)(h:Int):∀(fuel:Nat)(p:SetTable.Probe)(j:Nat)(d:Option Nat),p.dummy=none->SetTable.probe.go t g h fuel p=some (.empty j d)->d=none/\t.slot j=.empty
 | 0,p,j,d,hp,e=>by unfold SetTable.probe.go at e;cases e
 | fuel+1,p,j,d,hp,e=>by
  have hadv:(t.advance p).dummy=none:=by unfold SetTable.advance;split<;>exact hp
  have hh:SetTable.has t.dummies p.j=false:=by rw[hd];unfold SetTable.has;simp
  have hno:t.slot p.j≠.dummy:=λz=>by
   unfold SetTable.slot at z;dsimp only at z;rw[hh]at z;simp only[XL,if_false]at z;split at z<;>cases z
  unfold SetTable.probe.go at e;cases hs:t.slot p.j with
  | empty=>rw[hs]at e;cases e;exact⟨hp,hs⟩
  | dummy=>exact absurd hs hno
  | live i=>
   rw[hs]at e;dsimp only at e;split at e
   ·cases e
   ·exact zjN t hd g h fuel _ j d hadv e
theorem zkT {t:SetTable}(ha:Asc t.place)(hd:t.dummies = #[])(es:Array (Int×Value))(h:Int)(x:Value):Asc (layNew t es h x).2.1.place/\(layNew t es h x).2.1.dummies = #[]:=by
 unfold layNew;cases e:t.freeSlot h with
 | none=>exact⟨zek _,rfl⟩
 | some p=>
  obtain⟨slot,dm⟩:=p;dsimp only;unfold SetTable.orStandIn;split
  ·unfold SetTable.freeSlot at e;have hs:t.slot slot=.empty:=by
    cases hp:t.probe (λ_=>h+1) h (t.probeStart h)with
    | none=>rw[hp]at e;cases e
    | some m=>
     rw[hp]at e;cases m with
     | candidate j i n=>cases e
     | empty j d=>
      obtain⟨q1,q2⟩:=zjN t hd _ _ _ _ _ _ rfl hp;subst q1;cases e;exact q2
   unfold SetTable.put;dsimp only;have hnh:SetTable.has t.dummies slot=false:=by rw[hd];unfold SetTable.has;simp
   rw[hnh];refine⟨zkS ha λz=>?_,hd⟩;unfold SetTable.slot at hs;rw[if_pos z]at hs;cases hs
  ·exact⟨zek _,rfl⟩
theorem zkU {t t':SetTable}{hs:Array Int}{n:Nat}{o:Array Nat}(h:t.relaid hs n=some (t',o)):Asc t'.place/\t'.dummies = #[]:=by
 unfold SetTable.relaid SetTable.laid at h;cases e:SetTable.layClean (SetTable.sizeAbove n-1) hs with
 | none=>rw[e]at h;cases h
 | some ow=>
  rw[e]at h;have q:=Option.some.inj h;rw[<- (Prod.mk.inj q).1];refine⟨?_,rfl⟩;unfold Asc;dsimp only;rw[List.pairwise_map,List.pairwise_filterMap];refine List.pairwise_lt_range.imp λ{a b} hab p hp q hq=>?_;cases ha:ow.getD a none with
  | none=>rw[ha]at hp;cases hp
  | some x=>
   cases hb:ow.getD b none with
   | none=>rw[hb]at hq;cases hq
   | some y=>rw[ha]at hp;rw[hb]at hq;cases hp;cases hq;exact hab
theorem zmj {t:SetTable}(es:Array (Int×Value))(n:Nat):Asc (relayAll t es n).2.1.place/\(relayAll t es n).2.1.dummies = #[]:=by
 unfold relayAll;cases e:t.relaid (es.map (·.1)) n with
 | none=>exact⟨zek _,rfl⟩
 | some p=>
  obtain⟨t',o⟩:=p;dsimp only;split
  ·exact zkU e
  ·exact⟨zek _,rfl⟩
noncomputable def KSet {α:Type} [DecidableEq α] {prog:Program}{w:World}(knd:PySem.KeyKind prog w α)(of:Value->α)(h:Heap)(a:Addr)(xs:List α):Prop:=
 ∃es ep t,Rec w h a es ep t/\ElemsOf knd es.toList/\(es.toList.map λe=>of e.2).Perm xs/\xs.Nodup
noncomputable def addS {α:Type} [DecidableEq α] (xs:List α)(y:α):List α:=if y∈xs then xs else y::xs
noncomputable abbrev zmk (prog:Program)(w:World):Heap->Addr->List Str->Prop:=KSet (PySem.strKind prog w) sOf
section
variable {α:Type} [DecidableEq α] {prog:Program}{w:World}{A:Around}{E:Value->Shared->Prop}{s:Shared}{a:Addr}{knd:PySem.KeyKind prog w α}{of:Value->α}
theorem KSet.keep {h h':Heap}{xs:List α}(S:KSet knd of h a xs)(k:∀o,h.get? a=some o->h'.get? a=some o):KSet knd of h' a xs:=
 let ⟨es,ep,t,r,q⟩:=S;⟨es,ep,t,r.keep k,q⟩
theorem zml {h:Heap}{es es':Array (Int×Value)}{ep:Nat}{t t':SetTable}(r:Rec w h a es ep t)(hf:t'.fits es'.size=true)(hl:t'.led=t.led)(hp:Asc t'.place/\t'.dummies = #[])(hz:es'.size<scanBound) :
  Rec w (h.update a (Obj.putSet es' t')) a es' (ep+1) t':=by
 obtain⟨o,ho,hex,hd⟩:=r.obj;have hg:(h.update a (Obj.putSet es' t')).get? a=some { o with data:=.set es' (ep+1) t' }:=by
  have q:=Ye (Obj.putSet es' t') ho (by rw[putSet_of es' t' hd];rfl)
  rwa [putSet_of es' t' hd]at q
 exact⟨⟨_,hg,hex,rfl⟩,hf,by rw[hl];exact r.led,hp.1,hp.2,hz⟩
theorem zhS {es es':Array (Int×Value)}{ep:Nat}{t t':SetTable}{Q:Unit->Shared->Prop}(r:Rec w s.heap a es ep t)(hz:es'.size<scanBound)(h:Q () { s with heap:=s.heap.update a (Obj.putSet es' t') }):wpAny (model prog w) A (storeSet a es' t') Q E s:=by
 obtain⟨o,ho,_,hd⟩:=r.obj;exact wpAny_storeSet_of ho hd h (fits_of_scanBound hz)
theorem zsi {es:List (Int×Value)}{y:α}(hof:∀k v,knd.is k v=true->of v=k)(hel:ElemsOf knd es):(∃e∈es,knd.is y e.2=true)↔y∈es.map λe=>of e.2:=by
 constructor
 ·rintro⟨e,he,hi⟩;exact XI.mpr ⟨e,he,hof _ _ hi⟩
 ·intro hm;obtain⟨e,he,q⟩:=XI.mp hm;obtain⟨⟨k,hk,_⟩,_⟩:=hel e he;refine⟨e,he,?_⟩;rw[hof _ _ hk]at q;rw[<- q];exact hk
theorem zsj {xs:List α}{y:α}{x:Value}{Q:Bool->Shared->Prop}(hof:∀k v,knd.is k v=true->of v=k)(hkey:knd.is y x=true)(hsc:x.scannable=true)(S:KSet knd of s.heap a xs)(hroom:xs.length+1<scanBound)
  (h:∀h' b,Yf a s.heap h'->KSet knd of h' a (addS xs y)->Q b { s with heap:=h' }):wpAny (model prog w) A (setAddHashed a x (knd.hash y)) Q E s:=by
 obtain⟨es,ep,t,r,hel,hp,nd⟩:=S;obtain⟨o,ho,hex,hd⟩:=r.obj;have hsz:es.size=xs.length:=by rw[<- hp.length_eq];simp
 have hmem:(∃e∈es.toList,knd.is y e.2=true)↔y∈xs:=(zsi hof hel).trans hp.mem_iff;unfold setAddHashed;refine wpAny_holding ?_;show wpAny _ _ (bind (setState a) _) _ _ s;refine wpAny_bind (zbv r ?_);dsimp only;rw[byScan_of hsc r.sz hel];simp only[if_true];unfold setAddByScan;refine wpAny_bind (wpAny_bind (wpAny_rule (wpAny_bind (wpAny_setScan_of (knd:=knd) hkey ho hd r.fits hel ?_))));cases hr:List.findIdx? (λe=>knd.is y e.2) es.toList with
 | some j=>
  obtain⟨hj,hpj,_⟩:=List.findIdx?_eq_some_iff_getElem.mp hr;have hy:y∈xs:=hmem.mp ⟨_,Yo hj,hpj⟩;have q:=h s.heap false (Yf.refl a s.heap) (by unfold addS;rw[if_pos hy];exact⟨es,ep,t,r,hel,hp,nd⟩);exact wpAny_pure (wpAny_pure q)
 | none=>
  have hy:y∉xs:=λz=>by
   obtain⟨e,he,hpe⟩:=hmem.mpr z;have q:=List.findIdx?_eq_none_iff.mp hr e he;rw[hpe]at q;cases q
  have hgw:∀(b:Bool) {s₁:Shared} {Q':Unit->Shared->Prop},Q' () s₁->wpAny (model prog w) A (match b with | true=>rule "set.scan.the-table-gave-way" | false=>pure ()) Q' E s₁:=λb s₁ Q' hq=>by
   cases b
   ·exact wpAny_pure hq
   ·exact wpAny_rule hq
  have p1:=layNew_perm t es (knd.hash y) x;have f1:=layNew_fits t es (knd.hash y) x;have l1:=zkR t es (knd.hash y) x;have g1:=zkT r.asc r.dm es (knd.hash y) x;generalize hL:layNew t es (knd.hash y) x=L at p1 f1 l1 g1 ⊢;obtain⟨es1,t1,dm,gave⟩:=L;dsimp only at p1 f1 l1 g1 ⊢;rw[Array.toList_push]at p1;have hel1:ElemsOf knd es1.toList:=(hel.push hkey hsc).perm p1;have z1:es1.size=xs.length+1:=by rw[<- Yp,p1.length_eq,Xq,Yp,hsz];rfl
  have b1:es1.size<scanBound:=by rw[z1];exact hroom
  have m1:(es1.toList.map λe=>of e.2).Perm (y::xs):=by
   refine(p1.map _).trans ?_;rw[Xk];refine(List.perm_append_comm).trans ?_;show(of x::es.toList.map λe=>of e.2).Perm _;rw[hof _ _ hkey];exact hp.cons y
  have nd1:(y::xs).Nodup:=XT.mpr ⟨hy,nd⟩;have eadd:addS xs y=y::xs:=by unfold addS;rw[if_neg hy]
  rw[eadd]at h;refine wpAny_bind (hgw gave ?_);have tail:∀t2:SetTable,t2.fits es1.size=true->t2.led=t.led->(Asc t2.place/\t2.dummies = #[])->wpAny (model prog w) A (do
    storeSet a es1 t2
    if (!dm&&t2.tooFull)=true then do
     (match (relayAll t2 es1 (YK es1.size)).2.2 with | true=>rule "set.scan.the-table-gave-way" | false=>pure ())
     storeSet a (relayAll t2 es1 (YK es1.size)).1 (relayAll t2 es1 (YK es1.size)).2.1
     pure (some true)
    else pure (some true)) (λr s'=>wpAny (model prog w) A (match r with | some added=>pure added | none=>setAddHashedIn a x (knd.hash y) 99999) Q E s') E s:=λt2 f2 l2 p2=>by
   have r2:=zml (w:=w) r f2 l2 p2 b1;have sb1:=Yf.update s.heap a (Obj.putSet es1 t2);refine wpAny_bind (zhS r b1 ?_);split
   ·have p3:=relayAll_perm t2 es1 (YK es1.size);have f3:=relayAll_fits t2 es1 (YK es1.size);have l3:=zmi t2 es1 (YK es1.size);have g3:=zmj (t:=t2) es1 (YK es1.size);generalize hR:relayAll t2 es1 (YK es1.size)=R at p3 f3 l3 g3 ⊢;obtain⟨es2,t3,gave2⟩:=R;dsimp only at p3 f3 l3 g3 ⊢;have z2:es2.size=es1.size:=by rw[<- Yp,p3.length_eq,Yp]
    refine wpAny_bind (hgw gave2 (wpAny_bind (zhS (s:={ s with heap:=s.heap.update a (Obj.putSet es1 t2) }) r2 (by rw[z2];exact b1) (wpAny_pure (wpAny_pure ?_)))));exact h _ true (sb1.trans (Yf.update _ a _)) ⟨es2,_,t3,zml r2 f3 l3.1 g3 (by rw[z2];exact b1),hel1.perm p3,(p3.map _).trans m1,nd1⟩
   ·exact wpAny_pure (wpAny_pure (h _ true sb1 ⟨es1,_,t2,r2,hel1,m1,nd1⟩))
  cases hpl:t1.plain with
  | true=>
   simp only[if_true];rw[hashByValue_scannable 8 (x:=x) hsc];refine wpAny_bind (wpAny_pure ?_);cases plainKind x with
   | true=>exact tail t1 f1 l1.1 g1
   | false=>exact tail { t1 with plain:=false } (SetTable.fits_plain_off f1) l1.1 g1
  | false=>
   simp only[XL,if_false];refine wpAny_bind (wpAny_pure ?_);exact tail t1 f1 l1.1 g1
end
section
variable {α:Type} [DecidableEq α]
theorem zog {xs:List α}{y x:α}:x∈addS xs y↔x=y\/x∈xs:=by
 unfold addS;split
 ·rename_i h
  constructor
  ·exact .inr
  ·rintro(rfl | h')
   ·exact h
   ·exact h'
 ·exact Xu
theorem zoh (xs:List α)(y:α):(addS xs y).length<=xs.length+1:=by
 unfold addS;split
 ·lia
 ·simp
theorem zhT:∀(ys xs:List α)(x:α),x∈ys.foldl addS xs↔x∈xs\/x∈ys
 | [],xs,x=>by simp
 | y::ys,xs,x=>by
  rw[List.foldl_cons,zhT ys (addS xs y) x,zog,Xu];constructor
  ·rintro((h | h) | h)
   ·exact .inr (.inl h)
   ·exact .inl h
   ·exact .inr (.inr h)
  ·rintro(h | h | h)
   ·exact .inl (.inr h)
   ·exact .inl (.inl h)
   ·exact .inr h
theorem zfE:∀(ys xs:List α),(ys.foldl addS xs).length<=xs.length+ys.length
 | [],xs=>by simp
 | y::ys,xs=>by
  rw[List.foldl_cons];have h1:=zfE ys (addS xs y);have h2:=zoh xs y;rw[XG];lia
end
section
variable {α:Type} [DecidableEq α] {prog:Program}{w:World}{A:Around}{R:Result->Shared->Prop}{I:Addr}{fp wr:List Addr}{G:Array GenState->Array GenState->Prop}{n:Nat}{P:Nat->Value->Prop}{St:Nat->Shared->Prop}{knd:PySem.KeyKind prog w α}{of:Value->α}
theorem zjc (W:WalksS prog w A.in1 I fp wr G n P St)(S:Addr)(hSf:S∉fp)(ys:List α)(hn:ys.length=n)(hof:∀k v,knd.is k v=true->of v=k)(hval:∀i v,P i v->∃y,ys[i]? = some y/\knd.is y v=true/\v.scannable=true)(hb:n+1<scanBound) :
  ∀(k i:Nat) (s:Shared),n-i=k->i<=n->St i s->KSet knd of s.heap S ((ys.take i).foldl addS [])->
   (∀s',Moved (S::wr) G s s'->KSet knd of s'.heap S (ys.foldl addS [])->R (.ok (.ret .none)) s')->
   codeAny (model prog w) A (.builtin "set.update.loop" ⟨[.ref S,.ref I],[]⟩) R s:=by
 have hSw:S∉wr:=λh=>hSf (W.sub _ h);intro k;induction k with
 | zero=>
  intro i s hk hi hst hS hR;have hin:i=n:=by lia
  subst hin;refine codeAny_builtin PyProof.Rows.F.entry_set_update_loop ?_;rw[Around.under_plainId PyProof.Rows.F.plain_set_update_loop _];show wpAny _ A.in1 (pyNext (.ref I) >>= _) _ _ s;refine wpAny_bind (W.done s _ _ hst λs' hm=>wpAny_pure (hR s' (hm.mono λb hb=>Xn _ hb) ?_));rw[XJ (by lia)]at hS;exact hS.keep λo e=>hm.heap S o hSw e
 | succ k ih=>
  intro i s hk hi hst hS hR;have hlt:i<n:=by lia
  refine codeAny_builtin PyProof.Rows.F.entry_set_update_loop ?_;rw[Around.under_plainId PyProof.Rows.F.plain_set_update_loop _];show wpAny _ A.in1 (pyNext (.ref I) >>= _) _ _ s;refine wpAny_bind (W.item i s _ _ hlt hst λv s' hP hst' hm=>?_);obtain⟨y,hy,hkey,hsc⟩:=hval i v hP;have hS':=hS.keep λo e=>hm.heap S o hSw e;show wpAny _ A.in1 (holding [v] (setAdd S v) >>= _) _ _ s';refine wpAny_bind (wpAny_holding ?_);unfold setAdd;refine wpAny_holding (wpAny_bind (knd.pyHash (k:=y) hkey ?_));have hroom:((ys.take i).foldl addS []).length+1<scanBound:=by
   have q:=zfE (ys.take i) [];rw[XR]at q;simp at q;lia
  refine zsj (s:=_) hof hkey hsc hS' hroom λh' b hsb hS2=>?_;have hSi:KSet knd of h' S ((ys.take (i+1)).foldl addS []):=by
   rw[List.take_add_one,hy,List.foldl_append];exact hS2
  refine wpAny_pure ⟨plainId_quiet PyProof.Rows.F.plain_set_update_loop _,ih (i+1) _ (by lia) hlt (W.frame _ s' _ _ hst' (by first | exact Xg _ | exact Nat.le_succ _) λb hb o e=>?_) hSi λs'' hm'' hS''=>?_⟩
  ·rw[hsb.2 b (λh:b=S=>hSf (by rw[<- h];exact hb))];exact e
  ·refine hR s'' (Moved.trans W.gtrans ((hm.mono λb hb=>Xn _ hb).then_heap (by first | exact Xg _ | exact Nat.le_succ _) λb o hb e=>?_) hm'') hS''
   rw[hsb.2 b (λh:b=S=>hb (by rw[h];exact Xp))];exact e
end
noncomputable abbrev zbT (w:World):Obj:={ cls:=.type "set",dict:=none,data:=.set #[] 0 (.fresh 0 0 (!byText w)) }
theorem zoi {α:Type} [DecidableEq α] {prog:Program}{w:World}{knd:PySem.KeyKind prog w α}{of:Value->α}{h:Heap}{a:Addr}(e:h.get? a=some (zbT w)):KSet knd of h a []:=by
 refine⟨#[],0,_,⟨⟨_,e,⟨rfl,rfl,rfl⟩,rfl⟩,by rfl,?_,List.Pairwise.nil,rfl,by decide⟩,λz hz=>by simp at hz,by simp,YL⟩;show(!byText w)=true\/byText w=true;cases byText w
 ·exact .inl rfl
 ·exact .inr rfl
section
variable {prog:Program}{w:World}{A:Around}{E:Value->Shared->Prop}{s:Shared}
theorem zqz (x:Value){Q₁:Value->Shared->Prop}(h:Q₁ (.ref s.heap.objs.size) { s with heap:=s.heap.push (zbT w) }) :
  codeAny (model prog w) A (.call (.builtin "set.__new__") ⟨[.type "set",x],[]⟩) (wants Q₁ E) s:=by
 refine codeAny_of_tree ?_;show wpAny _ A.in1 (do checkBuiltinCall "set.__new__" ⟨[.type "set",x],[]⟩;again (.builtin "set.__new__" ⟨[.type "set",x],[]⟩)) _ _ s
 refine wpAny_bind (wpAny_of_eq (PySem.F.newCall_set_1 x) (wpAny_pure ⟨plainId_quiet PySem.F.plain_set_new _,codeAny_builtin PySem.F.entry_set_new ?_⟩));rw[Around.under_plainId PySem.F.plain_set_new _];unfold Builtin.«set.__new__» Builtin.Frozenset.newClass;have hsub:=sub_set_self;obtain⟨hp,g,d,tk,os⟩:=s;dsimp only
 wp_walk
 refine wpAny_askSetting (wpAny_pure ?_);dsimp only;simp only[newObj];exact wpAny_bind (wpAny_alloc (wpAny_pure (wpAny_pure h)))
theorem zmm {l:Addr}{items:Array Value}{SP:Heap->Addr->Prop}{Q:Value->Shared->Prop}(hh:A.handled=none)(hl:s.heap.IsList l items)
  (loop:∀ {A':Around} {R:Result->Shared->Prop} {I:Addr} {fp wr:List Addr} {G:Array GenState->Array GenState->Prop} {P:Nat->Value->Prop} {St:Nat->Shared->Prop} (W:WalksS prog w A'.in1 I fp wr G items.size P St) (S:Addr),A'.units<=A.units+8->S∉fp->(∀i v,P i v->items[i]? = some v)->(∀b,b<s.heap.objs.size->b∉S::wr)->∀s1:Shared,(∀b o,s.heap.get? b=some o->s1.heap.get? b=some o)->St 0 s1->s1.heap.get? S=some (zbT w)->(∀s',Moved (S::wr) G s1 s'->SP s'.heap S->R (.ok (.ret .none)) s')->
   codeAny (model prog w) A' (.builtin "set.update.loop" ⟨[.ref S,.ref I],[]⟩) R s1)
  (h:∀(h':Heap) (tk:Nat),SP h' s.heap.objs.size->(∀b o,s.heap.get? b=some o->h'.get? b=some o)->Q (.ref s.heap.objs.size) { s with heap:=h',toks:=tk }) :
  wpAny (model prog w) A (call (.type "set") [.ref l]) Q E s:=by
 obtain⟨c,tl,hmro⟩:=PySem.F.called_set.mro;have hmade:=PySem.F.called_set.made;have hsub:=PySem.F.called_set.sub;refine wpAny_call (codeAny_of_tree ?_);show wpAny _ _ (callAny (.type "set") _) _ _ _;refine wpAny_pure ⟨Code.quiet_builtin _ (by decide +kernel),codeAny_builtin PySem.F.entry_type_call ?_⟩;rw[Around.under_plain (weight_type_call_type "set" [.ref l] []) rfl];have h1:=PySem.F.called_set.notType;have h2:=PySem.F.called_set.canCreate;have hct:=PySem.F.typeCall_set_1 (.ref l)
 repeat (any_goals (first | assumption | wp_step))
 refine codeAny_mono (zqz (.ref l) (E:=E) (Q₁:=λob s1=>ob=.ref s.heap.objs.size/\s1={ s with heap:=s.heap.push (zbT w) }) ⟨rfl,rfl⟩) λr s1 hr=>?_;cases r with
 | error e=>exact hr
 | ok fl=>
  cases fl with
  | ret ob=>
   obtain⟨rfl,rfl⟩:=hr;have hS:(s.heap.push (zbT w)).get? s.heap.objs.size=some (zbT w):=Xv _ rfl;have hT:Shared.TypeIs { s with heap:=s.heap.push (zbT w) } (.ref s.heap.objs.size) "set":=⟨_,hS,rfl⟩;have hli:=PySem.F.called_set.init.lookup;have hbi:=PySem.F.called_set.init.bind (.ref s.heap.objs.size)
   repeat (any_goals (first | assumption | wp_step))
   refine codeAny_mono (codeAny_call_builtin (R:=wants (λr s2=>r=.none/\∃h' tk,s2={ s with heap:=h',toks:=tk }/\SP h' s.heap.objs.size/\∀b o,s.heap.get? b=some o->h'.get? b=some o) E)
    PySem.F.called_set.init.plain PySem.F.entry_set_init (check_set_init_1 hT ?_)) λr₂ s₂ hr₂=>?_
   ·obtain⟨⟨ocls,odict,odata,oslots⟩,hol,hcl,nl,hdl⟩:=hl;simp only at hcl hdl;subst hcl;subst hdl;have hol':(s.heap.push (zbT w)).get? l=some { cls:=.type "list",dict:=odict,data:=.seq items nl,slots:=oslots }:=Xe _ hol;have hsls:=PySem.F.sub_list_set;have hslf:=PySem.F.sub_list_frozenset;have hne:(Value.type "list" == Value.type "dict")=false:=by decide
    have hl1:(s.heap.push (zbT w)).IsList l items:=⟨_,hol',rfl,nl,rfl⟩;unfold Builtin.«set.__init__» noKeywords Builtin.Frozenset.updateFrom;generalize hPI:pyIter=PI
    wp_walk
    subst hPI;refine wpAny_pyIter_list hl1 (wpAny_bind (wpAny_runValue ?_));have hlS:l<s.heap.objs.size:=Xm hol;have hz1:(s.heap.push (zbT w)).objs.size=s.heap.objs.size+1:=Yw ..;have hneI:l≠(s.heap.push (zbT w)).objs.size:=by rw[hz1];exact Xx (XS hlS)
    have hSf:s.heap.objs.size∉[(s.heap.push (zbT w)).objs.size,l]:=by
     rw[hz1];intro z;rcases Xu.mp z with e | e
     ·exact absurd e (Xx (XQ _))
     ·exact absurd (Xw.mp e) (Yg hlS)
    refine loop ((Walks.list (by simp[hh]) _ l hneI items).toS) s.heap.objs.size ?U hSf (λi v hv=>hv) (λb hb=>?W) _ (λb o e=>Xe _ (Xe _ e)) ⟨⟨_,Xv _ rfl,rfl,rfl⟩,hl1.push _⟩ (Xe _ hS) λs' hm hS'=>?_
    case U=>show A.units+1+1<=_;lia
    case W=>
     intro z;rcases Xu.mp z with q | q
     ·exact Xx hb q
     ·have q':=Xw.mp q;rw[hz1]at q';exact absurd q' (Xx (XS hb))
    obtain⟨h',g',d',tk',os'⟩:=s';have eg:g'=s.gens:=hm.gens;have ed:d'=s.drawn:=hm.drawn;have eo:os'=s.os:=hm.os;subst eg;subst ed;subst eo;refine wpAny_pure (wpAny_pure ⟨rfl,h',tk',rfl,hS',λb o e=>?_⟩);have hb':b<s.heap.objs.size:=Xm e;refine hm.heap b o (λz=>?_) (Xe _ (Xe _ e));rcases Xu.mp z with q | q
    ·exact Xx hb' q
    ·have q':=Xw.mp q;rw[hz1]at q';exact absurd q' (Xx (XS hb'))
   ·cases r₂ with
    | error e=>exact hr₂
    | ok fl₂=>
     cases fl₂ with
     | ret r=>
      obtain⟨rfl,h',tk,rfl,hS',hk'⟩:=hr₂
      repeat (any_goals (first | assumption | wp_step))
      exact h _ _ hS' hk'
     | _=>exact hr₂.elim
  | _=>exact hr.elim
theorem zmn {α:Type} [DecidableEq α] {knd:PySem.KeyKind prog w α}{of:Value->α}{l:Addr}{items:Array Value}{ys:List α}{Q:Value->Shared->Prop}(hof:∀k v,knd.is k v=true->of v=k)(hh:A.handled=none)(hl:s.heap.IsList l items)(hi:∀(i:Nat) v,items[i]? = some v->∃y,ys[i]? = some y/\knd.is y v=true/\v.scannable=true)(hy:ys.length=items.size)(hb:items.size+1<scanBound)
  (h:∀(h':Heap) (tk:Nat),KSet knd of h' s.heap.objs.size (ys.foldl addS [])->(∀b o,s.heap.get? b=some o->h'.get? b=some o)->Q (.ref s.heap.objs.size) { s with heap:=h',toks:=tk }) :
  wpAny (model prog w) A (call (.type "set") [.ref l]) Q E s:=
 zmm (SP:=λh S=>KSet knd of h S (ys.foldl addS [])) hh hl (λ{A' R I fp wr G P St} W S _ hSf hP _ s1 kp hst hS hR=>zjc W S hSf ys hy hof (λi v hv=>hi i v (hP i v hv)) hb _ 0 s1 rfl (Yh _) hst (zoi hS) hR) h
theorem zoj {l:Addr}{items:Array Value}{ys:List Str}{Q:Value->Shared->Prop}(hh:A.handled=none)(hl:s.heap.IsList l items)(hi:∀(i:Nat) v,items[i]? = some v->∃y t,ys[i]? = some y/\v=.str y t)(hy:ys.length=items.size)(hb:items.size+1<scanBound)
  (h:∀(h':Heap) (tk:Nat),zmk prog w h' s.heap.objs.size (ys.foldl addS [])->(∀b o,s.heap.get? b=some o->h'.get? b=some o)->Q (.ref s.heap.objs.size) { s with heap:=h',toks:=tk }) :
  wpAny (model prog w) A (call (.type "set") [.ref l]) Q E s:=
 zmn (knd:=PySem.strKind prog w) (of:=sOf) (λk v hk=>by obtain⟨t,rfl⟩:=Value.isStrOf_shape (show Value.isStrOf k v=true from hk);rfl) hh hl (λi v hv=>by obtain⟨y,t,e1,rfl⟩:=hi i v hv;exact⟨y,e1,by simp[PySem.strKind,Value.isStrOf],rfl⟩) hy hb h
end
section
variable {prog:Program}{w:World}{A:Around}{E:Value->Shared->Prop}{s:Shared}{a:Addr}
theorem zok {vs:List Value}{ss:List Str}{Q:Value->Shared->Prop}(hS:StrsAre vs ss)(h64:vs.length<64)
  (h:∀(h':Heap) (out:List Value) (zs:List Str) (e:Nat),StrsAre out zs->zs.Perm ss->sortedS zs=true->(∀b o,s.heap.get? b=some o->h'.get? b=some o)->h'.get? s.heap.objs.size=some { cls:=.type "list",data:=.seq out.toArray e }->Q (.ref s.heap.objs.size) { s with heap:=h' }) :
  wpAny (model prog w) A (newList vs >>= λl=>holding [l] (call (.builtin "list.sort") [l] []) >>= λ_=>ret l) (λfin s'=>∃r,fin=.done (.ret r)/\Q r s') E s:=by
 refine wpAny_bind (wpAny_newList ?_);have hoL:(s.heap.push (seqObj "list" vs.toArray 0)).get? s.heap.objs.size=some (seqObj "list" vs.toArray 0):=Xv _ rfl;refine wpAny_bind (wpAny_holding (wpAny_call_entry slot_list_sort ⟨_,hoL,rfl⟩ entry_list_sort (list_sort_treeK strKind_oneLt hoL hS.keysOf (λv1 v2 rest e=>keyKind_strs (by rw[<- e];exact hS)) h64 λst' a1 a2=>⟨_,rfl,?_⟩) (args_list_sort _)));obtain⟨zs,q1,q2,q3⟩:=sorted_out_str hS a1 a2;obtain⟨e,he⟩:=sortedHeap_at (out:=(arrOf st').map (·.2)) hoL;refine wpAny_pure ⟨_,rfl,h _ ((arrOf st').map (·.2)).toList zs e q1 q2 q3 (λb o hb=>?_) (by rw[Array.toArray_toList];exact he)⟩;have hlt:b<s.heap.objs.size:=Xm hb;rw[sortedHeap_old (Xx hlt) (by rw[size_push'];exact XS hlt)];exact Xe _ hb
theorem zkV {xs:List Str}{Q:Value->Shared->Prop}(hh:A.handled=none)(S:zmk prog w s.heap a xs)(h64:xs.length<64)
  (h:∀(h1 h':Heap) (d:Drawn) (tk:Nat) (out:List Value) (zs:List Str) (e:Nat),StrsAre out zs->zs.Perm xs->sortedS zs=true->(∀b o,s.heap.get? b=some o->h1.get? b=some o)->(∀b o,h1.get? b=some o->h'.get? b=some o)->h'.get? h1.objs.size=some { cls:=.type "list",data:=.seq out.toArray e }->
   Q (.ref h1.objs.size) { s with heap:=h',drawn:=d,toks:=tk }):wpAny (model prog w) A (call (.builtin "sorted") [.ref a]) Q E s:=by
 refine Calls.call_function_entry kind_sorted plain_sorted entry_sorted (args_sorted1 _) ?_;unfold Builtin.«sorted»;refine wpAny_bind (m:=checkCount "sorted" 1 1 _) (wpAny_pure ?_);obtain⟨es,ep,t,r,hel,hp,nd⟩:=S;refine wpAny_bind (zjb (by simpa using hh) r λh1 d tk order ho kp=>?_);have hst:∀v∈order,∃x t,v=Value.str x t:=λv hv=>by
  obtain⟨e,he,q⟩:=XI.mp (ho.mem_iff.mp hv);obtain⟨⟨k,hk,_⟩,_⟩:=hel e he;obtain⟨t,q'⟩:=Value.isStrOf_shape (show Value.isStrOf k e.2=true from hk);exact⟨k,t,by rw[<- q];exact q'⟩
 have hS:=strsAre_map order hst;have hperm:(order.map strOf).Perm xs:=by
  refine(ho.map strOf).trans ?_;rw[List.map_map];have e:es.toList.map (strOf ∘ λx=>x.2)=es.toList.map λe=>sOf e.2:=List.map_congr_left λe he=>by
   obtain⟨⟨k,hk,_⟩,_⟩:=hel e he;obtain⟨t,q'⟩:=Value.isStrOf_shape (show Value.isStrOf k e.2=true from hk);show strOf e.2=sOf e.2;rw[q'];rfl
  rw[e];exact hp
 have hlen:order.length<64:=by
  have q:=hperm.length_eq;rw[Xb]at q;lia
 refine zok (s:={ s with heap:=h1,drawn:=d,toks:=tk }) hS hlen λh' out zs e q1 q2 q3 kp' he=>?_;exact h h1 h' d tk out zs e q1 (q2.trans hperm) q3 kp kp' he
end
end _J
namespace _L
open PySem PySem.Spec PyProof.Rows
inductive D where
 | non | int (i:Int) | str (x:Str) | tup (ds:List D)
noncomputable instance:DecidableEq D:=λ_ _=>Classical.propDecidable _
mutual
noncomputable def Den (H:Hp):D->V->Prop
 | .non,v=>v=.non
 | .int i,v=>v=.int i
 | .str x,v=>v=.str x
 | .tup ds,v=>∃a xs,v=.ref a/\H a=some (.tup xs)/\DenL H ds xs
noncomputable def DenL (H:Hp):List D->List V->Prop
 | [],xs=>xs=[]
 | d::ds,xs=>∃v r,xs=v::r/\Den H d v/\DenL H ds r
end
noncomputable def zsk (H H':Hp):Prop:=∀b xs,H b=some (.tup xs)->H' b=some (.tup xs)
mutual
theorem Den.mono {H H':Hp}(s:zsk H H'):∀(d:D)(v:V),Den H d v->Den H' d v
 | .non,v,h=>by unfold Den at h ⊢;exact h
 | .int i,v,h=>by unfold Den at h ⊢;exact h
 | .str x,v,h=>by unfold Den at h ⊢;exact h
 | .tup ds,v,h=>by
  unfold Den at h ⊢;obtain⟨a,xs,e,h1,h2⟩:=h;exact⟨a,xs,e,s a xs h1,DenL.mono s ds xs h2⟩
theorem DenL.mono {H H':Hp}(s:zsk H H'):∀(ds:List D)(xs:List V),DenL H ds xs->DenL H' ds xs
 | [],xs,h=>by unfold DenL at h ⊢;exact h
 | d::ds,xs,h=>by
  unfold DenL at h ⊢;obtain⟨v,r,e,h1,h2⟩:=h;exact⟨v,r,e,Den.mono s d v h1,DenL.mono s ds r h2⟩
end
mutual
theorem Den.inj {H:Hp}:∀(d e:D)(v:V),Den H d v->Den H e v->d=e
 | .non,e,v,h,g=>by
  unfold Den at h;subst h;cases e<;>unfold Den at g
  ·rfl
  ·cases g
  ·cases g
  ·obtain⟨a,xs,z,_⟩:=g;cases z
 | .int i,e,v,h,g=>by
  unfold Den at h;subst h;cases e<;>unfold Den at g
  ·cases g
  ·injection g with g;rw[g]
  ·cases g
  ·obtain⟨a,xs,z,_⟩:=g;cases z
 | .str x,e,v,h,g=>by
  unfold Den at h;subst h;cases e<;>unfold Den at g
  ·cases g
  ·cases g
  ·injection g with g;rw[g]
  ·obtain⟨a,xs,z,_⟩:=g;cases z
 | .tup ds,e,v,h,g=>by
  unfold Den at h;obtain⟨a,xs,z,h1,h2⟩:=h;subst z;cases e<;>unfold Den at g
  ·cases g
  ·cases g
  ·cases g
  ·obtain⟨b,ys,z,g1,g2⟩:=g;cases z;rw[h1]at g1;cases g1;rw[DenL.inj ds _ xs h2 g2]
theorem DenL.inj {H:Hp}:∀(ds es:List D)(xs:List V),DenL H ds xs->DenL H es xs->ds=es
 | [],es,xs,h,g=>by
  unfold DenL at h;subst h;cases es with
  | nil=>rfl
  | cons e es=>unfold DenL at g;obtain⟨v,r,z,_⟩:=g;cases z
 | d::ds,es,xs,h,g=>by
  unfold DenL at h;obtain⟨v,r,z,h1,h2⟩:=h;subst z;cases es with
  | nil=>unfold DenL at g;cases g
  | cons e es=>
   unfold DenL at g;obtain⟨v',r',z,g1,g2⟩:=g;cases z;rw[Den.inj d e v h1 g1,DenL.inj ds es r h2 g2]
end
mutual
noncomputable def Cmp:D->D->Prop
 | .non,e=>e=.non
 | .int _,e=>∃j,e=.int j
 | .str _,e=>∃y,e=.str y
 | .tup ds,e=>∃es,e=.tup es/\CmpL ds es
noncomputable def CmpL:List D->List D->Prop
 | [],_=>True
 | d::ds,es=>∀e r,es=e::r->Cmp d e/\CmpL ds r
end
mutual
noncomputable def dep:D->Nat
 | .tup ds=>depL ds+1
 | _=>0
noncomputable def depL:List D->Nat
 | []=>0
 | d::ds=>max (dep d) (depL ds)
end
end _L
namespace _L
open PySem PySem.Spec PyProof.Rows
section
variable {X:Cx}
noncomputable def ztY (K:Xa):V->List V->Hp->VK->Prop:=λx vs H Q=>∃(l b:Addr)(xs zs:List V),x=.ref l/\vs=[.ref b]/\H l=some (.lst xs)/\SqT K H b zs/\xs.length+zs.length<=sizeLine/\Q .non (upd H l (.lst (xs++zs)))
theorem zqA:MtM X "list.extend" (ztY X.K):=by
 intro pins s σ H x vs v us Q I rx rv h;obtain⟨l,b,xs,zs,rfl,rfl,hH,hB,hz,q⟩:=h;cases rx;obtain⟨u,rfl,ru⟩:=rv.one;cases ru;obtain⟨z,its,n,r,hl,e⟩:=I.lstM hH;obtain⟨its2,r2,⟨o2,ho2,hc2,n2,hd2⟩,z2⟩:=I.tuple hB;have l2:=r2.length;have hne:l≠b:=λw=>by subst w;rw[e]at ho2;cases ho2;injection hc2 with z;exact absurd z (by decide)
 refine wpAny_call_entry PySem.F.slot_list_extend ⟨_,e,rfl⟩ PySem.F.entry_list_extend ?_ (PySem.F.args_list_extend_2 _ _);show wpAny _ _ (Builtin.List.listExtendWith (.ref l) (.ref b) .none) _ _ s;unfold Builtin.List.listExtendWith;refine wpAny_bind (wpAny_typeOf (T:="tuple") ⟨o2,ho2,hc2⟩ ?_);have h3:(Value.type "tuple" == Value.type "tuple")=true:=by decide
 rw[if_pos (by rw[h3];simp)];refine wpAny_bind (listItems_at ho2 hd2 (wpAny_bind (listItems_at e rfl ?_)));have hlong:¬ (!its.toArray.isEmpty&&Builtin.List.listTooLong (its.toArray.size+its2.toArray.size))=true:=by
  rw[zjG (by rw[Xj,Xj];lia),Bool.and_false];exact Xo
 rw[if_neg hlong];refine wpAny_bind (listUpdate_at e rfl (wpAny_pure ⟨_,rfl,?_⟩) (by rw[Xj];lia) (by rw[Array.size_append,Xj,Xj];lia));refine⟨.non,_,I.lset (its':=its++its2) (t':=s.toks) hH e (by simp) (r.append r2) (by rw[Xq];lia),rfl,q⟩
theorem zkW {ss:List Str}:∀ {its:List Value},Vals (ss.map V.str) its->StrsAre its ss:=by
 induction ss with
 | nil=>intro its r;cases r;exact .nil
 | cons x ss ih=>
  intro its r;cases r with
  | cons r1 r2=>
   obtain⟨t,rfl⟩:=(show ∃t,_=Value.str x t from r1);exact .cons x t (ih r2)
theorem zhU {ss:List Str}:∀ {its:List Value},StrsAre its ss->Vals (ss.map V.str) its:=by
 induction ss with
 | nil=>intro its r;cases r;exact .nil
 | cons x ss ih=>
  intro its r;cases r with
  | cons _ t r2=>exact .cons ⟨t,rfl⟩ (ih r2)
theorem zkX:zdh X (.builtin "sorted") (λxs H Q=>∃(p:Addr) (ss:List Str),xs=[.ref p]/\SqL X.K H p (ss.map V.str)/\ss.length<64/\∀l zs,H l=none->zs.Perm ss->sortedS zs=true->Q (.ref l) (upd H l (.lst (zs.map V.str)))):=by
 intro pins s σ H xs us Q I r h;obtain⟨p,ss,rfl,hp,h64,q⟩:=h;obtain⟨u,rfl,rx⟩:=vals1 r;cases rx;obtain⟨its,r,ht,hz⟩:=I.list hp;have hlen:=r.length;rw[Xb]at hlen;refine sorted_strs ht.isList (zkW r) (by lia) λout ss' a1 a2 a3=>?_;obtain⟨e,he⟩:=sortedAll_at s.heap its out;have kp:∀b o,s.heap.get? b=some o->(sortedAll s.heap its out).get? b=some o:=λ_ _=>sortedAll_old;have hl2:ss'.length=ss.length:=a2.length_eq;refine⟨.ref (s.heap.objs.size+1),_,I.laid (t':=s.toks) (o:=.lst (ss'.map V.str)) kp (Nat.le_succ _) ?_,rfl,q _ ss' (I.hok.fresh (Nat.le_succ _)) a2 a3⟩;exact⟨by rw[Xb,hl2];rw[Xb]at hz;exact hz,out.toList,e,zhU a1,by rw[Array.toArray_toList];exact he⟩
noncomputable def SetO (P:Program)(w:World)(a:Addr)(xs:List Str):HO:=.ext λh=>_J.zmk P w h a xs
theorem zmo (hc:X.calm=true):zdh X (.type "set") (λxs H Q=>∃(p:Addr) (ss:List Str),xs=[.ref p]/\SqL X.K H p (ss.map V.str)/\ss.length+1<scanBound/\∀l,H l=none->Q (.ref l) (upd H l (SetO X.prog X.w l (ss.foldl _J.addS [])))):=by
 intro pins s σ H xs us Q I r h;obtain⟨p,ss,rfl,hp,hz,q⟩:=h;obtain⟨u,rfl,rx⟩:=vals1 r;cases rx;obtain⟨its,r,ht,_⟩:=I.list hp;have hlen:=r.length;rw[Xb]at hlen;refine _J.zoj (ys:=ss) (I.ok.hd hc) ht.isList (λi v hv=>?_) (by rw[Xj];exact hlen) (by rw[Xj];lia) λh' tk hS kp=>?_
 ·have hv':its[i]? = some v:=by simpa using hv
  have hi:i<its.length:=(Xd.mp hv').1;have e1:(ss.map V.str)[i]? = some (V.str ss[i]):=by simp[show i<ss.length by lia]
  obtain⟨u,q1,q2⟩:=r.get e1;rw[hv']at q1;cases q1;obtain⟨t,e2⟩:=(show ∃t,v=Value.str _ t from q2);exact⟨_,t,by simp[show i<ss.length by lia],e2⟩
 ·refine⟨.ref s.heap.objs.size,_,I.laid (t':=tk) (o:=SetO X.prog X.w s.heap.objs.size (ss.foldl _J.addS [])) kp (Xg _) ?_,rfl,q _ I.fresh⟩;obtain⟨es,ep,t,rc,_⟩:=id hS;obtain⟨o,ho,_⟩:=rc.obj;exact⟨hS,⟨o,ho⟩,λh1 h2 hs k=>_J.KSet.keep hs k⟩
theorem zhV (hc:X.calm=true):zdh X (.builtin "sorted") (λxs H Q=>∃(p:Addr) (ss:List Str),xs=[.ref p]/\H p=some (SetO X.prog X.w p ss)/\ss.length<64/\∀l zs,H l=none->zs.Perm ss->sortedS zs=true->Q (.ref l) (upd H l (.lst (zs.map V.str)))):=by
 intro pins s σ H xs us Q I r h;obtain⟨p,ss,rfl,hp,h64,q⟩:=h;obtain⟨u,rfl,rx⟩:=vals1 r;cases rx;obtain⟨hS,_,_⟩:=(show zbt X.prog X.w H s.heap p (SetO X.prog X.w p ss) from I.hok p _ hp);refine _J.zkV (I.ok.hd hc) hS h64 λh1 h' d tk out zs e a1 a2 a3 kp kp' he=>?_;have I1:Inv X pins σ H { s with heap:=h1,drawn:=d,toks:=tk }:=I.call' (ch:=[]) rfl (Un.kept kp) (I.hok.kept kp) I.bare (λ_ z=>nomatch z);have hl2:zs.length=ss.length:=a2.length_eq;refine⟨.ref h1.objs.size,_,I1.laid (h':=h') (t':=tk) (o:=.lst (zs.map V.str)) kp' (Xg _) ?_,rfl,q _ zs (I1.hok.fresh (Xg _)) a2 a3⟩;exact⟨by rw[Xb,sizeLine_eq];lia,out,e,zhU a1,he⟩
end
noncomputable def zsl (K:Xa):List V->Hp->VK->Prop:=λxs H Q=>∃p ys,xs=[.ref p]/\((SqL K H p ys/\∀l,H l=none->Q (.ref l) (upd H l (.tup ys)))\/(SqT K H p ys/\Q (.ref p) H))
noncomputable def zqB (K:Xa):List V->Hp->VK->Prop:=λxs H Q=>∃p ys,xs=[.ref p]/\(SqL K H p ys\/SqT K H p ys)/\∀l,H l=none->Q (.ref l) (upd H l (.lst ys))
end _L
namespace _P
open PySem PySem.Spec _L
open PyProof.Rows hiding St
inductive PV where
 | non | bl (b:Bool) | int (i:Int) | str (x:Str) | ty (n:String)
 | tup (ds:List PV) | lst (ds:List PV) | dK (ks:List Key) (ds:List PV) | dT (ks:List (List Key)) (ds:List PV)
  | obj (C:Addr) (ks:List Str) (ds:List PV)
noncomputable instance:DecidableEq PV:=λ_ _=>Classical.propDecidable _
noncomputable abbrev FZ:=Addr->Prop
noncomputable def KX (K:Xa)(a:Addr)(xs:List V):Prop:=∃(its:Array Value)(n:Nat),K.lookup a=some { cls:=.type "list",data:=.seq its n }/\its.size<=sizeLine/\Vals xs its.toList
theorem KX.sq {K:Xa}{H:Hp}{a:Addr}{xs:List V}(h:KX K a xs):SqL K H a xs:=by obtain⟨its,n,h1,h2,h3⟩:=h;exact .inr ⟨_,its,n,h1,rfl,rfl,rfl,h2,h3⟩
mutual
noncomputable def Den (K:Xa)(Fz:FZ)(H:Hp):PV->V->Prop
 | .non,v=>v=.non
 | .bl b,v=>v=.bl b
 | .int i,v=>v=.int i
 | .str x,v=>v=.str x
 | .ty n,v=>v=.ty n
 | .tup ds,v=>∃a xs,v=.ref a/\H a=some (.tup xs)/\DenL K Fz H ds xs
 | .lst ds,v=>∃a xs,v=.ref a/\((Fz a/\Rd H a (.lst xs))\/KX K a xs)/\DenL K Fz H ds xs
 | .dK ks ds,v=>∃a xs,v=.ref a/\Fz a/\Rd H a (.dK (ks.zip xs))/\ks.length=xs.length/\DenL K Fz H ds xs
 | .dT ks ds,v=>∃a xs,v=.ref a/\Fz a/\Rd H a (.dT (ks.zip xs))/\ks.length=xs.length/\DenL K Fz H ds xs
 | .obj C ks ds,v=>∃a dx xs,v=.ref a/\Fz a/\H a=some (.ins C dx (ks.zip xs))/\ks.length=xs.length/\DenL K Fz H ds xs
noncomputable def DenL (K:Xa)(Fz:FZ)(H:Hp):List PV->List V->Prop
 | [],xs=>xs=[]
 | d::ds,xs=>∃v r,xs=v::r/\Den K Fz H d v/\DenL K Fz H ds r
end
noncomputable def Root (K:Xa)(Fz:FZ)(H:Hp):PV->V->Prop
 | .lst ds,v=>∃a xs,v=.ref a/\(Rd H a (.lst xs)\/KX K a xs)/\DenL K Fz H ds xs
 | .dK ks ds,v=>∃a xs,v=.ref a/\Rd H a (.dK (ks.zip xs))/\ks.length=xs.length/\DenL K Fz H ds xs
 | .dT ks ds,v=>∃a xs,v=.ref a/\Rd H a (.dT (ks.zip xs))/\ks.length=xs.length/\DenL K Fz H ds xs
 | d,v=>Den K Fz H d v
noncomputable def Own (K:Xa)(Fz:FZ)(H:Hp):PV->Addr->Prop
 | .lst ds,a=>∃xs,H a=some (.lst xs)/\DenL K Fz H ds xs
 | .dK ks ds,a=>∃xs,H a=some (.dK (ks.zip xs))/\ks.length=xs.length/\DenL K Fz H ds xs
 | .dT ks ds,a=>∃xs,H a=some (.dT (ks.zip xs))/\ks.length=xs.length/\DenL K Fz H ds xs
 | _,_=>False
noncomputable def Imm:HO->Prop
 | .tup _=>True
 | .frz _ _=>True
 | _=>False
noncomputable def Pl:HO->Prop
 | .lst _=>True
 | .tup _=>True
 | .dK _=>True
 | .dT _=>True
 | _=>False
structure Keep (Fz:FZ)(H H':Hp):Prop where
 rd':∀b u,Pl u->Fz b->Rd H b u->Rd H' b u
 tup:∀b xs,H b=some (.tup xs)->H' b=some (.tup xs)
 ins:∀b C dx fs,Fz b->H b=some (.ins C dx fs)->H' b=some (.ins C dx fs)
noncomputable def zkY (Fz:FZ)(H H':Hp):Prop:=∀b o,H b=some o->(Fz b\/Imm o)->H' b=some o
theorem Keep.mk' {Fz:FZ}{H H':Hp}(h:zkY Fz H H'):Keep Fz H H':=
 ⟨λb u _ f r=>by
  rcases r with r | ⟨o,r⟩
  ·exact .inl (h b _ r (.inl f))
  ·exact .inr ⟨o,h b _ r (.inl f)⟩,λb xs r=>h b _ r (.inr trivial),λb C dx fs f r=>h b _ r (.inl f)⟩
theorem Keep.of {Fz:FZ}{H H':Hp}(h:Same H H'):Keep Fz H H':=.mk' λb o e _=>h b o e
theorem Keep.rd {Fz:FZ}{H H':Hp}(k:Keep Fz H H'){a:Addr}{u:HO}(pl:Pl u)(hf:Fz a)(h:Rd H a u):Rd H' a u:=k.rd' a u pl hf h
theorem Keep.sqT {K:Xa}{Fz:FZ}{H H':Hp}(k:Keep Fz H H'){a:Addr}{xs:List V}(h:H a=some (.tup xs)):SqT K H' a xs:=SqT.of (k.tup a xs h)
section
variable {K:Xa}{Fz Fz':FZ}{H H':Hp}
mutual
theorem Den.mono (k:Keep Fz H H')(s:∀b,Fz b->Fz' b):∀(d:PV)(v:V),Den K Fz H d v->Den K Fz' H' d v
 | .non,v,h=>by simpa only[Den]using h
 | .bl b,v,h=>by simpa only[Den]using h
 | .int i,v,h=>by simpa only[Den]using h
 | .str x,v,h=>by simpa only[Den]using h
 | .ty n,v,h=>by simpa only[Den]using h
 | .tup ds,v,h=>by
  simp only[Den]at h ⊢;obtain⟨a,xs,e,h1,h2⟩:=h;exact⟨a,xs,e,k.tup a xs h1,DenL.mono k s ds xs h2⟩
 | .lst ds,v,h=>by
  simp only[Den]at h ⊢;obtain⟨a,xs,e,h1,h2⟩:=h;refine⟨a,xs,e,?_,DenL.mono k s ds xs h2⟩;rcases h1 with ⟨f,h1⟩ | h1
  ·exact .inl ⟨s a f,k.rd trivial f h1⟩
  ·exact .inr h1
 | .dK ks ds,v,h=>by
  simp only[Den]at h ⊢;obtain⟨a,xs,e,f,h1,h2,h3⟩:=h;exact⟨a,xs,e,s a f,k.rd trivial f h1,h2,DenL.mono k s ds xs h3⟩
 | .dT ks ds,v,h=>by
  simp only[Den]at h ⊢;obtain⟨a,xs,e,f,h1,h2,h3⟩:=h;exact⟨a,xs,e,s a f,k.rd trivial f h1,h2,DenL.mono k s ds xs h3⟩
 | .obj C ks ds,v,h=>by
  simp only[Den]at h ⊢;obtain⟨a,dx,xs,e,f,h1,h2,h3⟩:=h;exact⟨a,dx,xs,e,s a f,k.ins a _ _ _ f h1,h2,DenL.mono k s ds xs h3⟩
theorem DenL.mono (k:Keep Fz H H')(s:∀b,Fz b->Fz' b):∀(ds:List PV)(xs:List V),DenL K Fz H ds xs->DenL K Fz' H' ds xs
 | [],xs,h=>by simpa only[DenL]using h
 | d::ds,xs,h=>by
  simp only[DenL]at h ⊢;obtain⟨v,r,e,h1,h2⟩:=h;exact⟨v,r,e,Den.mono k s d v h1,DenL.mono k s ds r h2⟩
end
theorem Den.root {d:PV}{v:V}(h:Den K Fz H d v):Root K Fz H d v:=by
 cases d with
 | lst ds=>
  simp only[Den]at h;obtain⟨a,xs,e,h1,h2⟩:=h;refine⟨a,xs,e,?_,h2⟩;rcases h1 with ⟨f,h1⟩ | h1
  ·exact .inl h1
  ·exact .inr h1
 | dK ks ds=>
  simp only[Den]at h;obtain⟨a,xs,e,_,h1,h2⟩:=h;exact⟨a,xs,e,h1,h2⟩
 | dT ks ds=>
  simp only[Den]at h;obtain⟨a,xs,e,_,h1,h2⟩:=h;exact⟨a,xs,e,h1,h2⟩
 | non=>exact h
 | bl b=>exact h
 | int i=>exact h
 | str x=>exact h
 | ty n=>exact h
 | tup ds=>exact h
 | obj C ks ds=>exact h
theorem Own.root {d:PV}{a:Addr}(h:Own K Fz H d a):Root K Fz H d (.ref a):=by
 cases d with
 | lst ds=>obtain⟨xs,h1,h2⟩:=h;exact⟨a,xs,rfl,.inl (.inl h1),h2⟩
 | dK ks ds=>obtain⟨xs,h1,h2⟩:=h;exact⟨a,xs,rfl,.inl h1,h2⟩
 | dT ks ds=>obtain⟨xs,h1,h2⟩:=h;exact⟨a,xs,rfl,.inl h1,h2⟩
 | non=>exact h.elim
 | bl b=>exact h.elim
 | int i=>exact h.elim
 | str x=>exact h.elim
 | ty n=>exact h.elim
 | tup ds=>exact h.elim
 | obj C ks ds=>exact h.elim
theorem Own.den {d:PV}{a:Addr}(h:Own K Fz H d a)(f:Fz a):Den K Fz H d (.ref a):=by
 cases d with
 | lst ds=>obtain⟨xs,h1,h2⟩:=h;simp only[Den];exact⟨a,xs,rfl,.inl ⟨f,.inl h1⟩,h2⟩
 | dK ks ds=>obtain⟨xs,h1,h2⟩:=h;simp only[Den];exact⟨a,xs,rfl,f,.inl h1,h2⟩
 | dT ks ds=>obtain⟨xs,h1,h2⟩:=h;simp only[Den];exact⟨a,xs,rfl,f,.inl h1,h2⟩
 | non=>exact h.elim
 | bl b=>exact h.elim
 | int i=>exact h.elim
 | str x=>exact h.elim
 | ty n=>exact h.elim
 | tup ds=>exact h.elim
 | obj C ks ds=>exact h.elim
theorem Own.at {d:PV}{a:Addr}(h:Own K Fz H d a):∃o,H a=some o/\¬ Imm o:=by
 cases d with
 | lst ds=>obtain⟨xs,h1,h2⟩:=h;exact⟨_,h1,λz=>z⟩
 | dK ks ds=>obtain⟨xs,h1,h2⟩:=h;exact⟨_,h1,λz=>z⟩
 | dT ks ds=>obtain⟨xs,h1,h2⟩:=h;exact⟨_,h1,λz=>z⟩
 | non=>exact h.elim
 | bl b=>exact h.elim
 | int i=>exact h.elim
 | str x=>exact h.elim
 | ty n=>exact h.elim
 | tup ds=>exact h.elim
 | obj C ks ds=>exact h.elim
theorem Own.mono {d:PV}{a:Addr}(k:Keep Fz H H')(s:∀b,Fz b->Fz' b)(ha:∀o,H a=some o->H' a=some o)(h:Own K Fz H d a):Own K Fz' H' d a:=by
 cases d with
 | lst ds=>obtain⟨xs,h1,h2⟩:=h;exact⟨xs,ha _ h1,DenL.mono k s _ _ h2⟩
 | dK ks ds=>obtain⟨xs,h1,h2,h3⟩:=h;exact⟨xs,ha _ h1,h2,DenL.mono k s _ _ h3⟩
 | dT ks ds=>obtain⟨xs,h1,h2,h3⟩:=h;exact⟨xs,ha _ h1,h2,DenL.mono k s _ _ h3⟩
 | non=>exact h.elim
 | bl b=>exact h.elim
 | int i=>exact h.elim
 | str x=>exact h.elim
 | ty n=>exact h.elim
 | tup ds=>exact h.elim
 | obj C ks ds=>exact h.elim
theorem Root.mono {d:PV}{v:V}(k:Same H H')(s:∀b,Fz b->Fz' b)(h:Root K Fz H d v):Root K Fz' H' d v:=by
 have rd:∀ {a u},Rd H a u->Rd H' a u:=λ{a u} q=>by
  rcases q with q | ⟨o,q⟩
  ·exact .inl (k _ _ q)
  ·exact .inr ⟨o,k _ _ q⟩
 cases d with
 | lst ds=>obtain⟨a,xs,e,h1,h2⟩:=h;exact⟨a,xs,e,h1.imp rd id,DenL.mono (.of k) s _ _ h2⟩
 | dK ks ds=>obtain⟨a,xs,e,h1,h2,h3⟩:=h;exact⟨a,xs,e,rd h1,h2,DenL.mono (.of k) s _ _ h3⟩
 | dT ks ds=>obtain⟨a,xs,e,h1,h2,h3⟩:=h;exact⟨a,xs,e,rd h1,h2,DenL.mono (.of k) s _ _ h3⟩
 | non=>exact Den.mono (.of k) s _ _ h
 | bl b=>exact Den.mono (.of k) s _ _ h
 | int i=>exact Den.mono (.of k) s _ _ h
 | str x=>exact Den.mono (.of k) s _ _ h
 | ty n=>exact Den.mono (.of k) s _ _ h
 | tup ds=>exact Den.mono (.of k) s _ _ h
 | obj C ks ds=>exact Den.mono (.of k) s _ _ h
theorem DenL.length:∀(ds:List PV)(xs:List V),DenL K Fz H ds xs->ds.length=xs.length
 | [],xs,h=>by simp only[DenL]at h;subst h;rfl
 | d::ds,xs,h=>by
  simp only[DenL]at h;obtain⟨v,r,z,_,h2⟩:=h;subst z;rw[XG,XG,DenL.length ds r h2]
theorem DenL.get:∀ {ds:List PV}{xs:List V}{i:Nat}{d:PV},DenL K Fz H ds xs->ds[i]? = some d->∃v,xs[i]? = some v/\Den K Fz H d v
 | [],xs,i,d,h,e=>by simp at e
 | d0::ds,xs,i,d,h,e=>by
  simp only[DenL]at h;obtain⟨v0,r,z,h1,h2⟩:=h;subst z;cases i with
  | zero=>simp at e;subst e;exact⟨v0,rfl,h1⟩
  | succ i=>
   obtain⟨v,q,h⟩:=DenL.get h2 (i:=i) (d:=d) (by simpa using e);exact⟨v,by simpa using q,h⟩
theorem DenL.nil:DenL K Fz H [] []:=by simp only[DenL]
theorem DenL.cons {d:PV}{v:V}{ds:List PV}{xs:List V}(h1:Den K Fz H d v)(h2:DenL K Fz H ds xs):DenL K Fz H (d::ds) (v::xs):=by
 simp only[DenL];exact⟨v,xs,rfl,h1,h2⟩
theorem DenL.append:∀ {ds es:List PV}{xs ys:List V},DenL K Fz H ds xs->DenL K Fz H es ys->DenL K Fz H (ds++es) (xs++ys)
 | [],es,xs,ys,h,g=>by simp only[DenL]at h;subst h;exact g
 | d::ds,es,xs,ys,h,g=>by
  simp only[DenL]at h;obtain⟨v,r,z,h1,h2⟩:=h;subst z;exact DenL.cons h1 (DenL.append h2 g)
theorem DenL.snoc {ds:List PV}{xs:List V}{d:PV}{v:V}(h:DenL K Fz H ds xs)(g:Den K Fz H d v):DenL K Fz H (ds++[d]) (xs++[v]):=h.append (DenL.cons g DenL.nil)
theorem DenL.split:∀ {ds es:List PV}{xs:List V},DenL K Fz H (ds++es) xs->∃ys zs,xs=ys++zs/\DenL K Fz H ds ys/\DenL K Fz H es zs
 | [],es,xs,h=>⟨[],xs,rfl,DenL.nil,h⟩
 | d::ds,es,xs,h=>by
  rw[YI]at h;simp only[DenL]at h;obtain⟨v,r,z,h1,h2⟩:=h;subst z;obtain⟨ys,zs,e,g1,g2⟩:=DenL.split h2;exact⟨v::ys,zs,by rw[e];rfl,DenL.cons h1 g1,g2⟩
theorem DenL.take {ds:List PV}{xs:List V}(n:Nat)(h:DenL K Fz H ds xs):DenL K Fz H (ds.take n) (xs.take n):=by
 have hl:=h.length;obtain⟨ys,zs,e,g1,g2⟩:=DenL.split (ds:=ds.take n) (es:=ds.drop n) (by rw[YN];exact h);have h1:=g1.length;subst e;by_cases hn:n<=ds.length
 ·rw[XR,Nat.min_eq_left hn]at h1;rw[List.take_append_of_le_length (by lia),XJ (i:=n) (l:=ys) (by lia)];exact g1
 ·rw[XJ (i:=n) (l:=ds) (by lia),XJ (i:=n) (l:=ys++zs) (by lia)];exact h
theorem DenL.drop {ds:List PV}{xs:List V}(n:Nat)(h:DenL K Fz H ds xs):DenL K Fz H (ds.drop n) (xs.drop n):=by
 have hl:=h.length;obtain⟨ys,zs,e,g1,g2⟩:=DenL.split (ds:=ds.take n) (es:=ds.drop n) (by rw[YN];exact h);have h1:=g1.length;subst e;by_cases hn:n<=ds.length
 ·rw[XR,Nat.min_eq_left hn]at h1;rw[List.drop_append,List.drop_of_length_le (i:=n) (l:=ys) (by lia),show n-ys.length=0 by lia];exact g2
 ·rw[List.drop_of_length_le (i:=n) (l:=ds) (by lia),List.drop_of_length_le (i:=n) (l:=ys++zs) (by lia)];exact DenL.nil
theorem DenL.set:∀ {ds:List PV}{xs:List V}{d:PV}{v:V}(i:Nat),DenL K Fz H ds xs->Den K Fz H d v->DenL K Fz H (ds.set i d) (xs.set i v)
 | [],xs,d,v,i,h,g=>by simp only[DenL]at h;subst h;exact DenL.nil
 | d0::ds,xs,d,v,i,h,g=>by
  simp only[DenL]at h;obtain⟨v0,r,z,h1,h2⟩:=h;subst z;cases i with
  | zero=>exact DenL.cons g h2
  | succ i=>exact DenL.cons h1 (DenL.set i h2 g)
end
noncomputable abbrev PEnv:=List (Option (PV×Bool))
structure Rel (K:Xa)(Fz:FZ)(ρ:PEnv)(σ:St)(H:Hp):Prop where
 al:∀b,Fz b->H b≠none
 len:ρ.length=σ.length
 frz:∀(i:Nat) (d:PV),ρ[i]? = some (some (d,false))->∃v,σ[i]? = some (some v)/\Den K Fz H d v
 own:∀(i:Nat) (d:PV),ρ[i]? = some (some (d,true))->∃a,σ[i]? = some (some (.ref a))/\¬ Fz a/\Own K Fz H d a
 inj:∀(i j:Nat) (d e:PV) (a:Addr),ρ[i]? = some (some (d,true))->ρ[j]? = some (some (e,true))->σ[i]? = some (some (.ref a))->σ[j]? = some (some (.ref a))->i=j
noncomputable def zbh (ρ:PEnv)(σ:St)(a:Addr):Prop:=∃(i:Nat)(d:PV),ρ[i]? = some (some (d,true))/\σ[i]? = some (some (.ref a))
structure Ext (Fz:FZ)(H:Hp)(Fz':FZ)(H':Hp):Prop where
 same:Same H H'
 sub:∀b,Fz b->Fz' b
 new:∀b,Fz' b->Fz b\/H b=none
 al:∀b,Fz' b->H' b≠none
theorem Ext.trans {F1 F2 F3:FZ}{H1 H2 H3:Hp}(a:Ext F1 H1 F2 H2)(b:Ext F2 H2 F3 H3):Ext F1 H1 F3 H3:=
 ⟨a.same.trans b.same,λc h=>b.sub c (a.sub c h),λc h=>by
  rcases b.new c h with h | h
  ·exact a.new c h
  ·exact .inr (a.same.free h),b.al⟩
theorem Ext.add {Fz Fz':FZ}{H H':Hp}{a:Addr}(x:Ext Fz H Fz' H')(h:H a=none)(h':H' a≠none):Ext Fz H (λb=>Fz' b\/b=a) H':=
 ⟨x.same,λb h=>.inl (x.sub b h),λb hb=>by
  rcases hb with hb | rfl
  ·exact x.new b hb
  ·exact .inr h,λb hb=>by
  rcases hb with hb | rfl
  ·exact x.al b hb
  ·exact h'⟩
theorem Ext.laid {Fz Fz':FZ}{H H':Hp}{p:Addr}{o:HO}(x:Ext Fz H Fz' H')(h:H' p=none):Ext Fz H Fz' (upd H' p o):=
 ⟨x.same.trans (λb u e=>by rw[zah (zaE e h)];exact e),x.sub,x.new,λb hb=>by
  by_cases e:b=p
  ·subst e;rw[zaj];exact λz=>nomatch z
  ·rw[zah e];exact x.al b hb⟩
theorem Rel.ext {K:Xa}{Fz Fz':FZ}{ρ:PEnv}{σ:St}{H H':Hp}(R:Rel K Fz ρ σ H)(x:Ext Fz H Fz' H'):Rel K Fz' ρ σ H' where
 al:=x.al
 len:=R.len
 frz i d h:=by
  obtain⟨v,e,q⟩:=R.frz i d h;exact⟨v,e,Den.mono (.of x.same) x.sub d v q⟩
 own i d h:=by
  obtain⟨a,e,n,q⟩:=R.own i d h;refine⟨a,e,λz=>?_,q.mono (.of x.same) x.sub (λo h=>x.same _ _ h)⟩;rcases x.new a z with z | z
  ·exact n z
  ·obtain⟨o,h,_⟩:=q.at;rw[h]at z;cases z
 inj:=R.inj
inductive Kd where
 | frz | new | own (i:Nat)
noncomputable def Opd (K:Xa)(Fz':FZ)(H':Hp)(ρ:PEnv)(σ:St)(H:Hp)(d:PV):Kd->V->Prop
 | .frz,v=>Den K Fz' H' d v
 | .new,v=>∃a,v=.ref a/\H a=none/\¬ Fz' a/\Own K Fz' H' d a
 | .own i,v=>ρ[i]? = some (some (d,true))/\σ[i]? = some (some v)
structure Post (K:Xa)(ρ:PEnv)(σ:St)(Fz:FZ)(H:Hp)(Fz':FZ)(H':Hp)(d:PV)(k:Kd)(v:V):Prop where
 ext:Ext Fz H Fz' H'
 opd:Opd K Fz' H' ρ σ H d k v
theorem Post.root {K:Xa}{ρ:PEnv}{σ:St}{Fz Fz':FZ}{H H':Hp}{d:PV}{k:Kd}{v:V}(R:Rel K Fz ρ σ H)(p:Post K ρ σ Fz H Fz' H' d k v):Root K Fz' H' d v:=by
 cases k with
 | frz=>exact Den.root p.opd
 | new=>obtain⟨a,e,_,_,h⟩:=p.opd;subst e;exact h.root
 | own i=>
  obtain⟨h1,h2⟩:=p.opd;obtain⟨a,e,_,q⟩:=(R.ext p.ext).own i d h1;rw[h2]at e;cases e;exact q.root
theorem Post.frozen {K:Xa}{ρ:PEnv}{σ:St}{Fz Fz':FZ}{H H':Hp}{d:PV}{k:Kd}{v:V}(hk:k=.frz\/k=.new)(p:Post K ρ σ Fz H Fz' H' d k v) :
  ∃Fz2,Ext Fz H Fz2 H'/\(∀b,Fz' b->Fz2 b)/\Den K Fz2 H' d v:=by
 rcases hk with rfl | rfl
 ·exact⟨Fz',p.ext,λ_ h=>h,p.opd⟩
 ·obtain⟨a,e,hn,_,h⟩:=p.opd;subst e;exact⟨λb=>Fz' b\/b=a,p.ext.add hn (by obtain⟨o,e,_⟩:=h.at;rw[e];exact λz=>nomatch z),λ_ h=>.inl h,(h.mono (Fz':=λb=>Fz' b\/b=a) (Keep.of (Same.refl _)) (λ_ h=>.inl h) (λ_ h=>h)).den (.inr rfl)⟩
noncomputable abbrev TPE:=PEnv->(PV->Kd->Prop)->Prop
noncomputable abbrev TPT:=PEnv->(Bool->Prop)->Prop
noncomputable abbrev TPA:=PEnv->(List (PV×Kd)->Prop)->Prop
noncomputable def lift (K:Xa)(t:TPE):TE:=λσ H Q=>∃ρ Fz,Rel K Fz ρ σ H/\t ρ λd k=>∀v Fz' H',Post K ρ σ Fz H Fz' H' d k v->Q v H'
noncomputable def liftT (K:Xa)(t:TPT):TT:=λσ H Q=>∃ρ Fz,Rel K Fz ρ σ H/\t ρ λb=>∀Fz' H',Ext Fz H Fz' H'->Q b H'
structure PuE (X:Cx)(e:Expr)(t:TPE):Prop where
 mono:∀ρ Q Q',(∀d k,Q d k->Q' d k)->t ρ Q->t ρ Q'
 run:PE X e (lift X.K t)
structure PuT (X:Cx)(e:Expr)(t:TPT):Prop where
 mono:∀ρ Q Q',(∀b,Q b->Q' b)->t ρ Q->t ρ Q'
 run:PT X e (liftT X.K t)
theorem PE.weak {X:Cx}{e:Expr}{t t':TE}(h:PE X e t)(w:∀σ H Q,t' σ H Q->t σ H Q):PE X e t':=λpins s σ H Q I q=>h pins s σ H Q I (w σ H Q q)
theorem PT.weak {X:Cx}{e:Expr}{t t':TT}(h:PT X e t)(w:∀σ H Q,t' σ H Q->t σ H Q):PT X e t':=λpins s σ H Q I q=>h pins s σ H Q I (w σ H Q q)
theorem ztZ {X:Cx}{a b:Expr}{ta tb:TPE}(ha:PuE X a ta)(hb:PuE X b tb){σ:St}{H:Hp}{R:V->V->Hp->Prop}
  (ρ:PEnv) (Fz:FZ) (Re:Rel X.K Fz ρ σ H)
  (h:ta ρ λd kd=>tb ρ λe ke=>∀x y Fz1 H1 Fz2 H2,Post X.K ρ σ Fz H Fz1 H1 d kd x->Post X.K ρ σ Fz1 H1 Fz2 H2 e ke y->R x y H2) :
  lift X.K ta σ H λx H1=>lift X.K tb σ H1 λy H2=>R x y H2:=
 ⟨ρ,Fz,Re,ha.mono ρ _ _ (λd kd q v Fz1 H1 p1=>⟨ρ,Fz1,Re.ext p1.ext,hb.mono ρ _ _ (λe ke q w Fz2 H2 p2=>q v w Fz1 H1 Fz2 H2 p1 p2) q⟩) h⟩
end _P
namespace _P
open PySem PySem.Spec _L
open PyProof.Rows hiding St
section
variable {K:Xa}{ρ:PEnv}{σ:St}{Fz Fz1 Fz2:FZ}{H H1 H2:Hp}{d:PV}{k:Kd}{v:V}
theorem Opd.ext (x:Ext Fz1 H1 Fz2 H2)(h:Opd K Fz1 H1 ρ σ H d k v):Opd K Fz2 H2 ρ σ H d k v:=by
 cases k with
 | frz=>exact Den.mono (.of x.same) x.sub _ _ h
 | new=>
  obtain⟨a,e,hn,nf,o⟩:=h;refine⟨a,e,hn,λz=>?_,o.mono (.of x.same) x.sub (λo h=>x.same _ _ h)⟩;rcases x.new a z with z | z
  ·exact nf z
  ·obtain⟨o',h,_⟩:=o.at;rw[h]at z;cases z
 | own i=>exact h
theorem Opd.back (s:Same H H1)(h:Opd K Fz2 H2 ρ σ H1 d k v):Opd K Fz2 H2 ρ σ H d k v:=by
 cases k with
 | frz=>exact h
 | new=>obtain⟨a,e,hn,r⟩:=h;exact⟨a,e,s.free hn,r⟩
 | own i=>exact h
theorem Opd.up (h:Opd K Fz2 H2 [] [] H d k v):Opd K Fz2 H2 ρ σ H d k v:=by
 cases k with
 | frz=>exact h
 | new=>exact h
 | own i=>obtain⟨z,_⟩:=h;simp at z
theorem Post.behind (x:Ext Fz H Fz1 H1)(p:Post K [] [] Fz1 H1 Fz2 H2 d k v):Post K ρ σ Fz H Fz2 H2 d k v:=
 ⟨x.trans p.ext,(p.opd.up (ρ:=ρ) (σ:=σ)).back x.same⟩
theorem Post.then(x:Ext Fz H Fz1 H1)(p:Post K ρ σ Fz1 H1 Fz2 H2 d k v):Post K ρ σ Fz H Fz2 H2 d k v:=
 ⟨x.trans p.ext,p.opd.back x.same⟩
theorem Post.val (al:∀b,Fz b->H b≠none)(h:Den K Fz H d v):Post K ρ σ Fz H Fz H d .frz v:=⟨⟨Same.refl H,λ_ h=>h,λ_ h=>.inl h,al⟩,h⟩
end
noncomputable def pVar (i:Nat):TPE:=λρ Q=>match ρ[i]? with
 | some (some (d,b))=>Q d (if b then .own i else .frz)
 | _=>False
theorem zgW {i:Nat}{ρ:PEnv}{Q:PV->Kd->Prop}:pVar i ρ Q↔∃d b,ρ[i]? = some (some (d,b))/\Q d (if b then .own i else .frz):=by
 unfold pVar;cases h:ρ[i]? with
 | none=>simp
 | some x=>
  cases x with
  | none=>simp
  | some p=>
   obtain⟨d,b⟩:=p;constructor
   ·exact λq=>⟨d,b,rfl,q⟩
   ·rintro⟨d',b',e,q⟩;cases e;exact q
noncomputable def pC (d:PV):TPE:=λ_ Q=>Q d .frz
section
variable {X:Cx}
theorem zaa (i:Nat){x:Str}{pos:Pos}(hN:autoParam (X.N[i]? = some x) aU0)(hv:autoParam (Vis X.env.scope x) aU2)(hd:autoParam ((x == ("__debug__" : Str))=false) aU1)
  (hcd:autoParam ((x == ("__classdict__" : Str))=false) aU1):PuE X (.Name x pos) (pVar i) where
 mono ρ Q Q' m h:=by obtain⟨d,b,e,q⟩:=zgW.mp h;exact zgW.mpr ⟨d,b,e,m _ _ q⟩
 run:=PE.weak (zco hN hv hd hcd) λσ H Q h=>by
  obtain⟨ρ,Fz,R,h⟩:=h;obtain⟨d,b,e,q⟩:=zgW.mp h;cases b with
  | false=>
   obtain⟨v,e1,h1⟩:=R.frz i d e;exact⟨v,e1,q v Fz H (.val R.al h1)⟩
  | true=>
   obtain⟨a,e1,_,_⟩:=R.own i d e;exact⟨_,e1,q _ Fz H ⟨⟨Same.refl H,λ_ h=>h,λ_ h=>.inl h,R.al⟩,e,e1⟩⟩
theorem zel {e:Expr}{d:PV}{v:V}(h:PE X e (tC v))(hd:∀Fz H,Den X.K Fz H d v):PuE X e (pC d) where
 mono ρ Q Q' m h:=m _ _ h
 run:=PE.weak h λσ H Q h=>by
  obtain⟨ρ,Fz,R,q⟩:=h;exact q v Fz H (.val R.al (hd Fz H))
theorem zag {i j pos}:PuE X (.Constant (.int i) j pos) (pC (.int i)):=zel zrA λ_ _=>by simp only[Den]
theorem zhW {b j pos}:PuE X (.Constant (.bool b) j pos) (pC (.bl b)):=zel zty λ_ _=>by simp only[Den]
theorem zhX {j pos}:PuE X (.Constant .none j pos) (pC .non):=zel zrB λ_ _=>by simp only[Den]
theorem zsm {x j pos}:PuE X (.Constant (.str x) j pos) (pC (.str x)):=zel zrC λ_ _=>by simp only[Den]
theorem zkZ {x:Str}{T:String}{pos:Pos}(hg:Gl X x)(hm:X.mg x=none)(hv:bootBuiltins x=some (.type T))(hn:autoParam (x≠"__name__") aU1) (hd:autoParam ((x == ("__debug__" : Str))=false) aU1):PuE X (.Name x pos) (pC (.ty T)):=
 zel (zpR (v:=.ty T) hg hm hv rfl hn hd) λ_ _=>by simp only[Den]
end
noncomputable abbrev P2:=PV->PV->(PV->Kd->Prop)->Prop
structure POp (K:Xa)(r:R2)(p:P2):Prop where
 mono:∀d e Q Q',(∀z k,Q z k->Q' z k)->p d e Q->p d e Q'
 run:∀Fz H x y d e Q,(∀b,Fz b->H b≠none)->Root K Fz H d x->Root K Fz H e y->p d e (λz k=>∀v Fz' H',Post K [] [] Fz H Fz' H' z k v->Q v H')->r x y H Q
noncomputable def t2 (p:P2)(ta tb:TPE):TPE:=λρ Q=>ta ρ λd _=>tb ρ λe _=>p d e Q
section
variable {X:Cx}{a b:Expr}{ta tb:TPE}{pos:Pos}{r:R2}{p:P2}
theorem zeT (hp:POp X.K r p)(ha:PuE X a ta)(hb:PuE X b tb):∀ρ Q Q',(∀d k,Q d k->Q' d k)->t2 p ta tb ρ Q->t2 p ta tb ρ Q':=
 λρ Q Q' m h=>ha.mono ρ _ _ (λd _ h=>hb.mono ρ _ _ (λe _ h=>hp.mono d e _ _ m h) h) h
theorem zhY (hp:POp X.K r p)(ha:PuE X a ta)(hb:PuE X b tb){σ:St}{H:Hp}{Q:VK}(h:lift X.K (t2 p ta tb) σ H Q):tOp r (lift X.K ta) (lift X.K tb) σ H Q:=by
 obtain⟨ρ,Fz,R,h⟩:=h;refine ztZ ha hb ρ Fz R (ha.mono ρ _ _ (λd kd h=>hb.mono ρ _ _ (λe ke h=>?_) h) h);intro x y Fz1 H1 Fz2 H2 p1 p2;have R1:=R.ext p1.ext;refine hp.run Fz2 H2 x y d e Q p2.ext.al ((p1.root R).mono p2.ext.same p2.ext.sub) (p2.root R1) (hp.mono d e _ _ (λz k q v Fz' H' p3=>?_) h);exact q v Fz' H' (p3.behind (p1.ext.trans p2.ext))
theorem zgX {op:Operator}(ho:OpR X (binaryOp op) r)(hp:POp X.K r p)(ha:PuE X a ta)(hb:PuE X b tb):PuE X (.BinOp a op b pos) (t2 p ta tb):=
 ⟨zeT hp ha hb,PE.weak (ztI ho ha.run hb.run) λ_ _ _ h=>zhY hp ha hb h⟩
theorem zpr {op:CmpOp}(ho:OpR X (compareOp op) r)(hp:POp X.K r p)(ha:PuE X a ta)(hb:PuE X b tb)(hm:autoParam (behindInMarks op b=false) aU4):PuE X (.Compare a [op] [b] pos) (t2 p ta tb):=
 ⟨zeT hp ha hb,PE.weak (zqa ho ha.run hb.run hm) λ_ _ _ h=>zhY hp ha hb h⟩
noncomputable def blP (d:PV)(Q:Bool->Prop):Prop:=match d with
 | .bl b=>Q b
 | _=>False
theorem zjd {d:PV}{Q:Bool->Prop}:blP d Q↔∃b,d=.bl b/\Q b:=by
 unfold blP;constructor
 ·intro h;cases d<;>first | exact⟨_,rfl,h⟩ | exact h.elim
 ·rintro⟨b,rfl,q⟩;exact q
theorem zol {d:PV}{Q Q':Bool->Prop}(m:∀b,Q b->Q' b)(h:blP d Q):blP d Q':=by
 obtain⟨b,e,q⟩:=zjd.mp h;exact zjd.mpr ⟨b,e,m b q⟩
noncomputable def tBl (te:TPE):TPT:=λρ Q=>te ρ λd _=>blP d Q
theorem zdj {op:CmpOp}(ho:OpR X (compareOp op) r)(hp:POp X.K r p)(ha:PuE X a ta)(hb:PuE X b tb)(hm:autoParam (behindInMarks op b=false) aU4):PuT X (.Compare a [op] [b] pos) (tBl (t2 p ta tb)) where
 mono ρ Q Q' m h:=zeT hp ha hb ρ _ _ (λd _ q=>zol m q) h
 run:=PT.weak (zqb ho ha.run hb.run hm) λσ H Q h=>by
  obtain⟨ρ,Fz,R,h⟩:=h;refine zhY hp ha hb ⟨ρ,Fz,R,zeT hp ha hb ρ _ _ (λd k q v Fz' H' p=>?_) h⟩;obtain⟨b,e,q⟩:=zjd.mp q;refine⟨b,?_,q Fz' H' p.ext⟩;subst e;have w:=p.root R;simpa only[Root,Den]using w
theorem zua (ho:IxR X r)(hp:POp X.K r p)(ha:PuE X a ta)(hb:PuE X b tb)(hs:autoParam (ziY b) aU6):PuE X (.Subscript a b pos) (t2 p ta tb):=
 ⟨zeT hp ha hb,PE.weak (ztR ho ha.run hb.run hs) λ_ _ _ h=>zhY hp ha hb h⟩
end
noncomputable def i2 (C:Int->Int->Prop)(g:Int->Int->PV):P2:=λd e Q=>∃i j,d=.int i/\e=.int j/\C i j/\Q (g i j) .frz
noncomputable def i0 (g:Int->Int->PV):P2:=λd e Q=>∃i j,d=.int i/\e=.int j/\Q (g i j) .frz
section
variable {K:Xa}
theorem zhZ {C:Int->Int->Prop}{g:Int->Int->Int}:POp K (rI C λi j=>.int (g i j)) (i2 C λi j=>.int (g i j)) where
 mono d e Q Q' m h:=by obtain⟨i,j,e1,e2,c,q⟩:=h;exact⟨i,j,e1,e2,c,m _ _ q⟩
 run Fz H x y d e Q al rx ry h:=by
  obtain⟨i,j,rfl,rfl,c,q⟩:=h;simp only[Root,Den]at rx ry;exact⟨i,j,rx,ry,c,q _ Fz H (.val al (by simp only[Den]))⟩
theorem zmp {g:Int->Int->Int}:POp K (rI0 λi j=>.int (g i j)) (i0 λi j=>.int (g i j)) where
 mono d e Q Q' m h:=by obtain⟨i,j,e1,e2,q⟩:=h;exact⟨i,j,e1,e2,m _ _ q⟩
 run Fz H x y d e Q al rx ry h:=by
  obtain⟨i,j,rfl,rfl,q⟩:=h;simp only[Root,Den]at rx ry;exact⟨i,j,rx,ry,q _ Fz H (.val al (by simp only[Den]))⟩
theorem zjO {g:Int->Int->Bool}:POp K (rI0 λi j=>.bl (g i j)) (i0 λi j=>.bl (g i j)) where
 mono d e Q Q' m h:=by obtain⟨i,j,e1,e2,q⟩:=h;exact⟨i,j,e1,e2,m _ _ q⟩
 run Fz H x y d e Q al rx ry h:=by
  obtain⟨i,j,rfl,rfl,q⟩:=h;simp only[Root,Den]at rx ry;exact⟨i,j,rx,ry,q _ Fz H (.val al (by simp only[Den]))⟩
end
section
variable {X:Cx}{a b:Expr}{ta tb:TPE}{pos:Pos}
noncomputable abbrev pAdd:=t2 (i0 λi j=>.int (i+j))
noncomputable abbrev pSub:=t2 (i0 λi j=>.int (i-j))
noncomputable abbrev pMul:=t2 (i2 CMul λi j=>.int (i*j))
noncomputable abbrev pMod:=t2 (i2 (λ_ j=>0<j) λi j=>.int (i % j))
noncomputable abbrev pDiv:=t2 (i2 CDiv λi j=>.int (i / j))
noncomputable abbrev pPow:=t2 (i2 CPow λi j=>.int (i ^ j.toNat))
noncomputable abbrev pLt:=t2 (i0 λi j=>.bl (decide (i<j)))
noncomputable abbrev pGt:=t2 (i0 λi j=>.bl (decide (j<i)))
theorem zbO (ha:PuE X a ta)(hb:PuE X b tb):PuE X (.BinOp a .Add b pos) (pAdd ta tb):=zgX zrN zmp ha hb
theorem zmq (ha:PuE X a ta)(hb:PuE X b tb):PuE X (.BinOp a .Sub b pos) (pSub ta tb):=zgX zrO zmp ha hb
theorem zce (ha:PuE X a ta)(hb:PuE X b tb):PuE X (.BinOp a .Mult b pos) (pMul ta tb):=zgX zrP zhZ ha hb
theorem zbq (ha:PuE X a ta)(hb:PuE X b tb):PuE X (.BinOp a .Mod b pos) (pMod ta tb):=zgX zrQ zhZ ha hb
theorem zem (ha:PuE X a ta)(hb:PuE X b tb):PuE X (.BinOp a .FloorDiv b pos) (pDiv ta tb):=zgX zpY zhZ ha hb
theorem zmr (ha:PuE X a ta)(hb:PuE X b tb):PuE X (.BinOp a .Pow b pos) (pPow ta tb):=zgX zrR zhZ ha hb
end
noncomputable def plain:Nat->PV->Bool
 | _,.non=>true
 | _,.int _=>true
 | _,.str _=>true
 | n+1,.tup ds=>ds.all (plain n)
 | n+1,.lst ds=>ds.all (plain n)
 | _,_=>false
theorem zca {K:Xa}{Fz:FZ}{H:Hp}{x:V}(h:Root K Fz H .non x):x=.non:=by simpa only[Root,Den]using h
theorem zay {K:Xa}{Fz:FZ}{H:Hp}{x:V}{i:Int}(h:Root K Fz H (.int i) x):x=.int i:=by simpa only[Root,Den]using h
theorem zfF {K:Xa}{Fz:FZ}{H:Hp}{x:V}{i:Bool}(h:Root K Fz H (.bl i) x):x=.bl i:=by simpa only[Root,Den]using h
theorem zbk {K:Xa}{Fz:FZ}{H:Hp}{x:V}{i:Str}(h:Root K Fz H (.str i) x):x=.str i:=by simpa only[Root,Den]using h
theorem zaL {K:Xa}{Fz:FZ}{H:Hp}{x:V}{ds:List PV}(h:Root K Fz H (.tup ds) x):∃a xs,x=.ref a/\SqT K H a xs/\DenL K Fz H ds xs:=by
 simp only[Root,Den]at h;obtain⟨a,xs,e,h1,h2⟩:=h;exact⟨a,xs,e,SqT.of h1,h2⟩
theorem zfG {K:Xa}{Fz:FZ}{H:Hp}{x:V}{ds:List PV}(h:Root K Fz H (.tup ds) x):∃a xs,x=.ref a/\H a=some (.tup xs)/\DenL K Fz H ds xs:=by simpa only[Root,Den]using h
theorem zat {K:Xa}{Fz:FZ}{H:Hp}{x:V}{ds:List PV}(h:Root K Fz H (.lst ds) x):∃a xs,x=.ref a/\SqL K H a xs/\DenL K Fz H ds xs:=by
 simp only[Root]at h;obtain⟨a,xs,e,h1,h2⟩:=h;exact⟨a,xs,e,h1.elim (λh=>.inl h) KX.sq,h2⟩
theorem zia {K:Xa}{Fz:FZ}{H:Hp}{x:V}{ds:List PV}(h:Root K Fz H (.lst ds) x):∃a xs,x=.ref a/\(Rd H a (.lst xs)\/KX K a xs)/\DenL K Fz H ds xs:=by simpa only[Root]using h
theorem df {p:Prop} [Decidable p] (h:¬ p){Y:Bool->Prop}(y:Y false):Y (decide p):=by rw[decide_eq_false h];exact y
theorem dn {p:Prop} [Decidable p] (h:¬ p){Y:Bool->Prop}(y:Y true):Y (!decide p):=by rw[decide_eq_false h];exact y
section
variable {X:Cx}{pins:List (Addr×Obj)}{σ:St}{H:Hp}{s:Shared}{Fz Fz':FZ}
theorem zen (I:Inv X pins σ H s){a:Addr}{xs ys:List V}(h1:SqL X.K H a xs)(h2:SqT X.K H a ys):False:=by
 obtain⟨its,r,p,_⟩:=I.list h1;obtain⟨its2,r2,p2,_⟩:=I.tuple h2;exact SeqAt.ne_of_list_tuple p.isList (show s.heap.IsTuple a its2.toArray from p2) rfl
theorem zgY (I:Inv X pins σ H s):∀(n:Nat)(d e:PV)(x:V),plain n d=true->plain n e=true->Root X.K Fz H d x->Root X.K Fz' H e x->d=e:=by
 intro n;induction n with
 | zero=>
  intro d e x pd pe h g;cases d<;>first
   | (simp only[plain]at pd;exact absurd pd (by decide))
   | (cases e<;>first
     | (simp only[plain]at pe;exact absurd pe (by decide))
     | (simp only[Root,Den]at h g;subst h;first | (cases g;rfl) | cases g))
 | succ n ih=>
  have all:∀(ds es:List PV) (xs:List V),ds.all (plain n)=true->es.all (plain n)=true->DenL X.K Fz H ds xs->DenL X.K Fz' H es xs->ds=es:=by
   intro ds;induction ds with
   | nil=>
    intro es xs _ _ h g;simp only[DenL]at h;subst h;cases es with
    | nil=>rfl
    | cons e es=>simp only[DenL]at g;obtain⟨_,_,z,_⟩:=g;cases z
   | cons d ds ihd=>
    intro es xs pd pe h g;simp only[DenL]at h;obtain⟨v,r,z,h1,h2⟩:=h;subst z;cases es with
    | nil=>simp only[DenL]at g;cases g
    | cons e es=>
     simp only[DenL]at g;obtain⟨v',r',z,g1,g2⟩:=g;cases z;rw[List.all_cons,Yn]at pd pe;rw[ih d e v pd.1 pe.1 h1.root g1.root,ihd es r pd.2 pe.2 h2 g2]
  intro d e x pd pe h g;cases d with
  | tup ds=>
   simp only[plain]at pd;simp only[Root,Den]at h;obtain⟨a,xs,rfl,h1,h2⟩:=h;cases e with
   | tup es=>
    simp only[plain]at pe;simp only[Root,Den]at g;obtain⟨b,ys,z,g1,g2⟩:=g;cases z;have e1:=I.zhD (SqT.of h1) (SqT.of g1);subst e1;rw[all ds es xs pd pe h2 g2]
   | lst es=>
    obtain⟨b,ys,z,g1,g2⟩:=zat g;cases z;exact(zen I g1 (SqT.of h1)).elim
   | non=>simp only[Root,Den]at g;cases g
   | int i=>simp only[Root,Den]at g;cases g
   | str i=>simp only[Root,Den]at g;cases g
   | bl _=>simp only[plain]at pe;exact absurd pe (by decide)
   | ty _=>simp only[plain]at pe;exact absurd pe (by decide)
   | dK _ _=>simp only[plain]at pe;exact absurd pe (by decide)
   | dT _ _=>simp only[plain]at pe;exact absurd pe (by decide)
   | obj _ _ _=>simp only[plain]at pe;exact absurd pe (by decide)
  | lst ds=>
   simp only[plain]at pd;obtain⟨a,xs,rfl,h1,h2⟩:=zat h;cases e with
   | lst es=>
    simp only[plain]at pe;obtain⟨b,ys,z,g1,g2⟩:=zat g;cases z;have e1:=I.zec h1 g1;subst e1;rw[all ds es xs pd pe h2 g2]
   | tup es=>
    simp only[Root,Den]at g;obtain⟨b,ys,z,g1,g2⟩:=g;cases z;exact(zen I h1 (SqT.of g1)).elim
   | non=>simp only[Root,Den]at g;cases g
   | int i=>simp only[Root,Den]at g;cases g
   | str i=>simp only[Root,Den]at g;cases g
   | bl _=>simp only[plain]at pe;exact absurd pe (by decide)
   | ty _=>simp only[plain]at pe;exact absurd pe (by decide)
   | dK _ _=>simp only[plain]at pe;exact absurd pe (by decide)
   | dT _ _=>simp only[plain]at pe;exact absurd pe (by decide)
   | obj _ _ _=>simp only[plain]at pe;exact absurd pe (by decide)
  | bl _=>simp only[plain]at pd;exact absurd pd (by decide)
  | ty _=>simp only[plain]at pd;exact absurd pd (by decide)
  | dK _ _=>simp only[plain]at pd;exact absurd pd (by decide)
  | dT _ _=>simp only[plain]at pd;exact absurd pd (by decide)
  | obj _ _ _=>simp only[plain]at pd;exact absurd pd (by decide)
  | non=>
   have h':=zca h;subst h';cases e with
   | non=>rfl
   | int i=>exact nomatch zay g
   | str i=>exact nomatch zbk g
   | tup ds=>obtain⟨_,_,z,_⟩:=zaL g;exact nomatch z
   | lst ds=>obtain⟨_,_,z,_⟩:=zat g;exact nomatch z
   | _=>simp only[plain]at pe;exact absurd pe (by decide)
  | int i=>
   have h':=zay h;subst h';cases e with
   | non=>exact nomatch zca g
   | int j=>have:=zay g;injection this with this;rw[this]
   | str i=>exact nomatch zbk g
   | tup ds=>obtain⟨_,_,z,_⟩:=zaL g;exact nomatch z
   | lst ds=>obtain⟨_,_,z,_⟩:=zat g;exact nomatch z
   | _=>simp only[plain]at pe;exact absurd pe (by decide)
  | str i=>
   have h':=zbk h;subst h';cases e with
   | non=>exact nomatch zca g
   | int j=>exact nomatch zay g
   | str j=>have:=zbk g;injection this with this;rw[this]
   | tup ds=>obtain⟨_,_,z,_⟩:=zaL g;exact nomatch z
   | lst ds=>obtain⟨_,_,z,_⟩:=zat g;exact nomatch z
   | _=>simp only[plain]at pe;exact absurd pe (by decide)
theorem zms {ds es:List PV}{n:Nat}(hn:n=min ds.length es.length):((Xs n).all λj=>decide (ds[j]? = es[j]?))=true↔∀j,j<ds.length->j<es.length->ds[j]? = es[j]?:=by
 rw[XV];constructor
 ·intro h j h1 h2;exact of_decide_eq_true (h j (Yk.mpr (by lia)))
 ·intro h j hj;have:=Yk.mp hj;exact decide_eq_true (h j (by lia) (by lia))
theorem zib {ds es:List PV}(hl:ds.length=es.length):(∀j,j<ds.length->j<es.length->ds[j]? = es[j]?)↔ds=es:=by
 constructor
 ·intro h;apply List.ext_getElem?;intro j;by_cases hj:j<ds.length
  ·exact h j hj (by lia)
  ·rw[XC (by lia),XC (by lia)]
 ·rintro rfl _ _ _;rfl
theorem zfH (ds es:List PV):((Xs (min ds.length es.length)).all (λj=>decide (ds[j]? = es[j]?))&&ds.length == es.length)=decide (ds=es):=by
 by_cases hlen:ds.length=es.length
 ·have hb':(ds.length == es.length)=true:=by simp;lia
  rw[hb',Bool.and_true];by_cases h:ds=es
  ·rw[(zms rfl).mpr ((zib hlen).mpr h),decide_eq_true h]
  ·rw[decide_eq_false h];cases hq:(Xs (min ds.length es.length)).all (λj=>decide (ds[j]? = es[j]?))with
   | false=>rfl
   | true=>exact absurd ((zib hlen).mp ((zms rfl).mp hq)) h
 ·have hb':(ds.length == es.length)=false:=by rw[beq_eq_false_iff_ne];exact hlen
  rw[hb',Bool.and_false,decide_eq_false (λz=>hlen (by rw[z]))]
theorem zje {ds es:List PV}(hlen:ds.length=es.length):((Xs ds.length).all (λj=>decide (ds[j]? = es[j]?)))=decide (ds=es):=by
 have q:=zfH ds es;rw[hlen,Nat.min_self]at q;rw[hlen];simpa using q
theorem zjP {i j:Int}:decide (PV.int i=PV.int j)=(i == j):=by
 rw[Bool.eq_iff_iff];simp
theorem zjQ {i j:Str}:decide (PV.str i=PV.str j)=(i == j):=by
 rw[Bool.eq_iff_iff];simp
theorem zom {i j:List PV}:decide (PV.tup i=PV.tup j)=decide (i=j):=by
 rw[Bool.eq_iff_iff];simp
theorem zon {i j:List PV}:decide (PV.lst i=PV.lst j)=decide (i=j):=by
 rw[Bool.eq_iff_iff];simp
theorem zjR {A:Around}{n:Nat}{ds es:List PV}{xs ys:List V}{its its2:List Value}(I:Inv X pins σ H s)(r1:Vals xs its)(r2:Vals ys its2)(h1:DenL X.K Fz H ds xs)(h2:DenL X.K Fz' H es ys)(pd:ds.all (plain n)=true)(pe:es.all (plain n)=true)
  (ih:∀(d e:PV) (x y:V) (u v:Value),plain n d=true->plain n e=true->Den X.K Fz H d x->Den X.K Fz' H e y->RelV x u->RelV y v->SeqAt.EqAt A s u v (decide (d=e))) :
  ∀j (h1:j<its.toArray.size) (h2:j<its2.toArray.size),SeqAt.EqAt A s its.toArray[j] its2.toArray[j] (decide (ds[j]? = es[j]?)):=λj h1' h2'=>by
 have l1:=r1.length;have l2:=r2.length;have l3:=h1.length;have l4:=h2.length;rw[Xj]at h1' h2';have e1:ds[j]? = some ds[j]:=Xf (by lia);have e2:es[j]? = some es[j]:=Xf (by lia);obtain⟨x,e3,q3⟩:=h1.get e1;obtain⟨y,e4,q4⟩:=h2.get e2;obtain⟨u1,q1,r1'⟩:=r1.get e3;obtain⟨u2,q2,r2'⟩:=r2.get e4;have f1:its.toArray[j]=u1:=by
  have:its[j]? = some its[j]:=Xf h1';rw[q1]at this;simpa using (Option.some.inj this).symm
 have f2:its2.toArray[j]=u2:=by
  have:its2[j]? = some its2[j]:=Xf h2';rw[q2]at this;simpa using (Option.some.inj this).symm
 rw[f1,f2];have w:decide (ds[j]=es[j])=decide (ds[j]? = es[j]?):=by
  rw[e1,e2];by_cases h:ds[j]=es[j]
  ·rw[decide_eq_true h,decide_eq_true (by rw[h])]
  ·rw[decide_eq_false h,decide_eq_false (λz=>h (Option.some.inj z))]
 rw[<- w];exact ih _ _ _ _ _ _ (XV.mp pd _ (Yo _)) (XV.mp pe _ (Yo _)) q3 q4 r1' r2'
inductive Leaf:PV->Value->Prop
 | non:Leaf .non .none
 | int (i:Int) (t:Tok):Leaf (.int i) (.int i t)
 | str (i:Str) (t:Tok):Leaf (.str i) (.str i t)
theorem zmt {K:Xa}{Fz:FZ}{H:Hp}{d:PV}{x:V}{u:Value}(hp:plain 0 d=true)(hx:Root K Fz H d x)(rx:RelV x u):Leaf d u:=by
 cases d with
 | non=>rw[zca hx]at rx;cases rx;exact .non
 | int i=>rw[zay hx]at rx;obtain⟨t,rfl⟩:=rx;exact .int i t
 | str i=>rw[zbk hx]at rx;obtain⟨t,rfl⟩:=rx;exact .str i t
 | _=>simp only[plain]at hp;exact absurd hp (by decide)
theorem zqC {A:Around}{s:Shared}{d e:PV}{u v:Value}(h1:Leaf d u)(h2:Leaf e v):SeqAt.RcAt A s u v (decide (d=e))/\SeqAt.RcNeAt A s u v (!decide (d=e))/\SeqAt.EqAt A s u v (decide (d=e)):=by
 have no:∀ {d e:PV} {u v:Value},d≠e->SeqAt.RcAt A s u v false->SeqAt.RcNeAt A s u v true->SeqAt.EqAt A s u v false->SeqAt.RcAt A s u v (decide (d=e))/\SeqAt.RcNeAt A s u v (!decide (d=e))/\SeqAt.EqAt A s u v (decide (d=e)):=λh a b c=>by rw[decide_eq_false h];exact⟨a,b,c⟩
 cases h1<;>cases h2
 ·rw[decide_eq_true rfl];exact⟨SeqAt.RcAt.none_none,SeqAt.RcNeAt.none_none,SeqAt.EqAt.same _⟩
 ·exact no (λz=>nomatch z) (SeqAt.RcAt.none_int _ _) (SeqAt.RcNeAt.none_int _ _) (SeqAt.EqAt.none_int _ _)
 ·exact no (λz=>nomatch z) (SeqAt.RcAt.none_str _ _) (SeqAt.RcNeAt.none_str _ _) (SeqAt.EqAt.none_str _ _)
 ·exact no (λz=>nomatch z) (SeqAt.RcAt.int_none _ _) (SeqAt.RcNeAt.int_none _ _) (SeqAt.EqAt.int_none _ _)
 ·rw[zjP];exact⟨SeqAt.RcAt.int_int _ _ _ _,SeqAt.RcNeAt.int_int _ _ _ _,SeqAt.EqAt.int_int _ _ _ _⟩
 ·exact no (λz=>nomatch z) (SeqAt.RcAt.int_str _ _ _ _) (SeqAt.RcNeAt.int_str _ _ _ _) (SeqAt.EqAt.int_str _ _ _ _)
 ·exact no (λz=>nomatch z) (SeqAt.RcAt.str_none _ _) (SeqAt.RcNeAt.str_none _ _) (SeqAt.EqAt.str_none _ _)
 ·exact no (λz=>nomatch z) (SeqAt.RcAt.str_int _ _ _ _) (SeqAt.RcNeAt.str_int _ _ _ _) (SeqAt.EqAt.str_int _ _ _ _)
 ·rw[zjQ];exact⟨SeqAt.RcAt.str_str _ _ _ _,SeqAt.RcNeAt.str_str _ _ _ _,SeqAt.EqAt.str_str _ _ _ _⟩
theorem zqD (I:Inv X pins σ H s):∀(n:Nat)(A:Around)(d e:PV)(x y:V)(u v:Value),plain n d=true->plain n e=true->A.units+n<cLine->Root X.K Fz H d x->Root X.K Fz' H e y->RelV x u->RelV y v->
  SeqAt.RcAt A s u v (decide (d=e))/\SeqAt.RcNeAt A s u v (!decide (d=e))/\SeqAt.EqAt A s u v (decide (d=e)):=by
 intro n;induction n with
 | zero=>exact λA d e x y u v pd pe hu hx hy rx ry=>zqC (zmt pd hx rx) (zmt pe hy ry)
 | succ n ih=>
  intro A d e x y u v pd pe hu hx hy rx ry;have hA:A.units<cLine:=by lia
  have iha:∀(d e:PV) (x y:V) (u v:Value),plain n d=true->plain n e=true->Den X.K Fz H d x->Den X.K Fz' H e y->RelV x u->RelV y v->SeqAt.EqAt A.in1 s u v (decide (d=e)):=
   λd e x y u v pd pe h1 h2 r1 r2=>(ih A.in1 d e x y u v pd pe (by show A.units+1+n<cLine;lia) h1.root h2.root r1 r2).2.2
  have lower:∀c:PV,(∀ds,c≠.tup ds)->(∀ds,c≠.lst ds)->plain (n+1) c=true->plain n c=true:=λc h1 h2 hc=>by
   cases c with
   | tup ds=>exact absurd rfl (h1 ds)
   | lst ds=>exact absurd rfl (h2 ds)
   | non=>cases n<;>rfl
   | int i=>cases n<;>rfl
   | str i=>cases n<;>rfl
   | bl _=>simp only[plain]at hc;exact absurd hc (by decide)
   | ty _=>simp only[plain]at hc;exact absurd hc (by decide)
   | dK _ _=>simp only[plain]at hc;exact absurd hc (by decide)
   | dT _ _=>simp only[plain]at hc;exact absurd hc (by decide)
   | obj _ _ _=>simp only[plain]at hc;exact absurd hc (by decide)
  have hA':A.units+n<cLine:=by lia
  cases d with
  | tup ds=>
   have hx':=hx;simp only[Root,Den]at hx;obtain⟨a,xs,rfl,ha,h1⟩:=hx;cases rx;obtain⟨its,r1,p1,z1⟩:=I.tuple (SqT.of ha);have p1':s.heap.IsTuple a its.toArray:=p1;cases e with
   | tup es=>
    have hy':=hy;simp only[Root,Den]at hy;obtain⟨b,ys,rfl,hb,h2⟩:=hy;cases ry;obtain⟨its2,r2,p2,z2⟩:=I.tuple (SqT.of hb);have p2':s.heap.IsTuple b its2.toArray:=p2;have he:=zjR I r1 r2 h1 h2 (by simpa only[plain]using pd) (by simpa only[plain]using pe) iha;have w:((Xs (min its.toArray.size its2.toArray.size)).all (λj=>decide (ds[j]? = es[j]?))&&its.toArray.size == its2.toArray.size)=decide (PV.tup ds=PV.tup es):=by
     rw[Xj,Xj,<- r1.length,<- r2.length,<- h1.length,<- h2.length,zfH,zom]
    have q:=SeqAt.RcAt.tuples p1' p2' hA he;have q':=SeqAt.RcNeAt.tuples p1' p2' hA he;rw[w]at q q';refine⟨q,q',?_⟩;by_cases hab:a=b
    ·subst hab;rw[zgY I (n+1) _ _ _ pd pe hx' hy',decide_eq_true rfl];exact SeqAt.EqAt.same _
    ·exact SeqAt.EqAt.of_refs hab q
   | lst es=>
    obtain⟨b,ys,rfl,hb,h2⟩:=zat hy;cases ry;obtain⟨its2,r2,p2,z2⟩:=I.list hb;exact⟨df (λz=>nomatch z) (SeqAt.RcAt.tuple_list p1' p2.isList hA),dn (λz=>nomatch z) (SeqAt.RcNeAt.tuple_list p1' p2.isList hA),df (λz=>nomatch z) (SeqAt.EqAt.tuple_list p1' p2.isList hA)⟩
   | non=>simp only[Root,Den]at hy;subst hy;cases ry;exact⟨df (λz=>nomatch z) (SeqAt.RcAt.tuple_none p1' hA),dn (λz=>nomatch z) (SeqAt.RcNeAt.tuple_none p1' hA),df (λz=>nomatch z) (SeqAt.EqAt.tuple_none p1' hA)⟩
   | int i=>simp only[Root,Den]at hy;subst hy;obtain⟨t,rfl⟩:=ry;exact⟨df (λz=>nomatch z) (SeqAt.RcAt.tuple_int i t p1' hA),dn (λz=>nomatch z) (SeqAt.RcNeAt.tuple_int i t p1' hA),df (λz=>nomatch z) (SeqAt.EqAt.tuple_int i t p1' hA)⟩
   | str i=>simp only[Root,Den]at hy;subst hy;obtain⟨t,rfl⟩:=ry;exact⟨df (λz=>nomatch z) (SeqAt.RcAt.tuple_str i t p1' hA),dn (λz=>nomatch z) (SeqAt.RcNeAt.tuple_str i t p1' hA),df (λz=>nomatch z) (SeqAt.EqAt.tuple_str i t p1' hA)⟩
   | bl _=>simp only[plain]at pe;exact absurd pe (by decide)
   | ty _=>simp only[plain]at pe;exact absurd pe (by decide)
   | dK _ _=>simp only[plain]at pe;exact absurd pe (by decide)
   | dT _ _=>simp only[plain]at pe;exact absurd pe (by decide)
   | obj _ _ _=>simp only[plain]at pe;exact absurd pe (by decide)
  | lst ds=>
   have hx':=hx;obtain⟨a,xs,rfl,ha,h1⟩:=zat hx;cases rx;obtain⟨its,r1,p1,z1⟩:=I.list ha;have p1':=p1.isList;cases e with
   | lst es=>
    have hy':=hy;obtain⟨b,ys,rfl,hb,h2⟩:=zat hy;cases ry;obtain⟨its2,r2,p2,z2⟩:=I.list hb;have he:=zjR I r1 r2 h1 h2 (by simpa only[plain]using pd) (by simpa only[plain]using pe) iha;have l1:=r1.length;have l2:=r2.length;have l3:=h1.length;have l4:=h2.length;have key:SeqAt.RcAt A s (.ref a) (.ref b) (decide (PV.lst ds=PV.lst es))/\SeqAt.RcNeAt A s (.ref a) (.ref b) (!decide (PV.lst ds=PV.lst es)):=by
     by_cases hlen:ds.length=es.length
     ·have w:(Xs its.toArray.size).all (λj=>decide (ds[j]? = es[j]?))=decide (PV.lst ds=PV.lst es):=by
       rw[Xj,<- l1,<- l3,zje hlen,zon]
      have q:=SeqAt.RcAt.lists p1' p2.isList (by rw[Xj,Xj];lia) hA he;have q':=SeqAt.RcNeAt.lists p1' p2.isList (by rw[Xj,Xj];lia) hA he;rw[w]at q q';exact⟨q,q'⟩
     ·have hne:(its.toArray.size != its2.toArray.size)=true:=by rw[Xj,Xj];simp;lia
      rw[decide_eq_false (λz=>hlen (by rw[PV.lst.inj z]))];exact⟨SeqAt.RcAt.lists_lengths p1' p2.isList hne hA,SeqAt.RcNeAt.lists_lengths p1' p2.isList hne hA⟩
    refine⟨key.1,key.2,?_⟩;by_cases hab:a=b
    ·subst hab;rw[zgY I (n+1) _ _ _ pd pe hx' hy',decide_eq_true rfl];exact SeqAt.EqAt.same _
    ·exact SeqAt.EqAt.of_refs hab key.1
   | tup es=>
    simp only[Root,Den]at hy;obtain⟨b,ys,rfl,hb,h2⟩:=hy;cases ry;obtain⟨its2,r2,p2,z2⟩:=I.tuple (SqT.of hb);have p2':s.heap.IsTuple b its2.toArray:=p2;exact⟨df (λz=>nomatch z) (SeqAt.RcAt.list_tuple p1' p2' hA),dn (λz=>nomatch z) (SeqAt.RcNeAt.list_tuple p1' p2' hA),df (λz=>nomatch z) (SeqAt.EqAt.list_tuple p1' p2' hA)⟩
   | non=>simp only[Root,Den]at hy;subst hy;cases ry;exact⟨df (λz=>nomatch z) (SeqAt.RcAt.list_none p1' hA),dn (λz=>nomatch z) (SeqAt.RcNeAt.list_none p1' hA),df (λz=>nomatch z) (SeqAt.EqAt.list_none p1' hA)⟩
   | int i=>simp only[Root,Den]at hy;subst hy;obtain⟨t,rfl⟩:=ry;exact⟨df (λz=>nomatch z) (SeqAt.RcAt.list_int i t p1' hA),dn (λz=>nomatch z) (SeqAt.RcNeAt.list_int i t p1' hA),df (λz=>nomatch z) (SeqAt.EqAt.list_int i t p1' hA)⟩
   | str i=>simp only[Root,Den]at hy;subst hy;obtain⟨t,rfl⟩:=ry;exact⟨df (λz=>nomatch z) (SeqAt.RcAt.list_str i t p1' hA),dn (λz=>nomatch z) (SeqAt.RcNeAt.list_str i t p1' hA),df (λz=>nomatch z) (SeqAt.EqAt.list_str i t p1' hA)⟩
   | bl _=>simp only[plain]at pe;exact absurd pe (by decide)
   | ty _=>simp only[plain]at pe;exact absurd pe (by decide)
   | dK _ _=>simp only[plain]at pe;exact absurd pe (by decide)
   | dT _ _=>simp only[plain]at pe;exact absurd pe (by decide)
   | obj _ _ _=>simp only[plain]at pe;exact absurd pe (by decide)
  | bl _=>simp only[plain]at pd;exact absurd pd (by decide)
  | ty _=>simp only[plain]at pd;exact absurd pd (by decide)
  | dK _ _=>simp only[plain]at pd;exact absurd pd (by decide)
  | dT _ _=>simp only[plain]at pd;exact absurd pd (by decide)
  | obj _ _ _=>simp only[plain]at pd;exact absurd pd (by decide)
  | non=>
   cases e with
   | tup es=>
    simp only[Root,Den]at hx hy;subst hx;cases rx;obtain⟨b,ys,rfl,hb,h2⟩:=hy;cases ry;obtain⟨its2,r2,p2,z2⟩:=I.tuple (SqT.of hb);have p2':s.heap.IsTuple b its2.toArray:=p2;exact⟨df (λz=>nomatch z) (SeqAt.RcAt.none_tuple p2' hA),dn (λz=>nomatch z) (SeqAt.RcNeAt.none_tuple p2' hA),df (λz=>nomatch z) (SeqAt.EqAt.none_tuple p2' hA)⟩
   | lst es=>
    simp only[Root,Den]at hx;subst hx;cases rx;obtain⟨b,ys,rfl,hb,h2⟩:=zat hy;cases ry;obtain⟨its2,r2,p2,z2⟩:=I.list hb;exact⟨df (λz=>nomatch z) (SeqAt.RcAt.none_list p2.isList hA),dn (λz=>nomatch z) (SeqAt.RcNeAt.none_list p2.isList hA),df (λz=>nomatch z) (SeqAt.EqAt.none_list p2.isList hA)⟩
   | _=>exact ih A _ _ x y u v (lower _ (λ_ z=>nomatch z) (λ_ z=>nomatch z) pd) (lower _ (λ_ z=>nomatch z) (λ_ z=>nomatch z) pe) hA' hx hy rx ry
  | int i=>
   cases e with
   | tup es=>
    simp only[Root,Den]at hx hy;subst hx;obtain⟨t,rfl⟩:=rx;obtain⟨b,ys,rfl,hb,h2⟩:=hy;cases ry;obtain⟨its2,r2,p2,z2⟩:=I.tuple (SqT.of hb);have p2':s.heap.IsTuple b its2.toArray:=p2;exact⟨df (λz=>nomatch z) (SeqAt.RcAt.int_tuple i t p2' hA),dn (λz=>nomatch z) (SeqAt.RcNeAt.int_tuple i t p2' hA),df (λz=>nomatch z) (SeqAt.EqAt.int_tuple i t p2' hA)⟩
   | lst es=>
    simp only[Root,Den]at hx;subst hx;obtain⟨t,rfl⟩:=rx;obtain⟨b,ys,rfl,hb,h2⟩:=zat hy;cases ry;obtain⟨its2,r2,p2,z2⟩:=I.list hb;exact⟨df (λz=>nomatch z) (SeqAt.RcAt.int_list i t p2.isList hA),dn (λz=>nomatch z) (SeqAt.RcNeAt.int_list i t p2.isList hA),df (λz=>nomatch z) (SeqAt.EqAt.int_list i t p2.isList hA)⟩
   | _=>exact ih A _ _ x y u v (lower _ (λ_ z=>nomatch z) (λ_ z=>nomatch z) pd) (lower _ (λ_ z=>nomatch z) (λ_ z=>nomatch z) pe) hA' hx hy rx ry
  | str i=>
   cases e with
   | tup es=>
    simp only[Root,Den]at hx hy;subst hx;obtain⟨t,rfl⟩:=rx;obtain⟨b,ys,rfl,hb,h2⟩:=hy;cases ry;obtain⟨its2,r2,p2,z2⟩:=I.tuple (SqT.of hb);have p2':s.heap.IsTuple b its2.toArray:=p2;exact⟨df (λz=>nomatch z) (SeqAt.RcAt.str_tuple i t p2' hA),dn (λz=>nomatch z) (SeqAt.RcNeAt.str_tuple i t p2' hA),df (λz=>nomatch z) (SeqAt.EqAt.str_tuple i t p2' hA)⟩
   | lst es=>
    simp only[Root,Den]at hx;subst hx;obtain⟨t,rfl⟩:=rx;obtain⟨b,ys,rfl,hb,h2⟩:=zat hy;cases ry;obtain⟨its2,r2,p2,z2⟩:=I.list hb;exact⟨df (λz=>nomatch z) (SeqAt.RcAt.str_list i t p2.isList hA),dn (λz=>nomatch z) (SeqAt.RcNeAt.str_list i t p2.isList hA),df (λz=>nomatch z) (SeqAt.EqAt.str_list i t p2.isList hA)⟩
   | _=>exact ih A _ _ x y u v (lower _ (λ_ z=>nomatch z) (λ_ z=>nomatch z) pd) (lower _ (λ_ z=>nomatch z) (λ_ z=>nomatch z) pe) hA' hx hy rx ry
end
noncomputable def rEqP (K:Xa)(neg:Bool):R2:=λx y H Q=>∃Fz d e,Root K Fz H d x/\Root K Fz H e y/\plain 6 d=true/\plain 6 e=true/\Q (.bl (if neg then !decide (d=e) else decide (d=e))) H
noncomputable def pEq (neg:Bool):P2:=λd e Q=>plain 6 d=true/\plain 6 e=true/\Q (.bl (if neg then !decide (d=e) else decide (d=e))) .frz
section
variable {X:Cx}
theorem zps (hu:X.A.units+16<cLine):OpR X (compareOp .Eq) (rEqP X.K false):=by
 intro pins s σ H x y v u Q I rx ry h;obtain⟨Fz,d,e,hx,hy,pd,pe,q⟩:=h;exact(zqD I 6 X.A d e x y v u pd pe (by lia) hx hy rx ry).1 X.prog X.w X.xe _ ⟨.bl _,H,I,rfl,q⟩
theorem zsn (hu:X.A.units+16<cLine):OpR X (compareOp .NotEq) (rEqP X.K true):=by
 intro pins s σ H x y v u Q I rx ry h;obtain⟨Fz,d,e,hx,hy,pd,pe,q⟩:=h;exact(zqD I 6 X.A d e x y v u pd pe (by lia) hx hy rx ry).2.1 X.prog X.w X.xe _ ⟨.bl _,H,I,rfl,q⟩
theorem zmu {K:Xa}{neg:Bool}:POp K (rEqP K neg) (pEq neg) where
 mono d e Q Q' m h:=⟨h.1,h.2.1,m _ _ h.2.2⟩
 run Fz H x y d e Q al rx ry h:=⟨Fz,d,e,rx,ry,h.1,h.2.1,h.2.2 _ Fz H (.val al (by simp only[Den]))⟩
end
section
variable {X:Cx}{a b c:Expr}{ta tb:TPE}{tA tB':TPT}{pos:Pos}{rest:List Expr}
structure PuW (X:Cx)(e:Expr)(t:TPT):Prop where
 mono:∀ρ Q Q',(∀b,Q b->Q' b)->t ρ Q->t ρ Q'
 run:PW X e (liftT X.K t)
theorem PuW.t {e:Expr}{t:TPT}(h:PuW X e t):PuT X e t:=⟨h.mono,h.run.pt⟩
noncomputable def zdk (t u:TPT):TPT:=λρ Q=>t ρ λc=>if c=true then u ρ Q else Q false
noncomputable def tOrP (t u:TPT):TPT:=λρ Q=>t ρ λc=>if c=true then Q true else u ρ Q
noncomputable def zcM (t:TPT):TPT:=λρ Q=>t ρ λc=>Q (!c)
theorem PW.weak {e:Expr}{t t':TT}(h:PW X e t)(w:∀σ H Q,t' σ H Q->t σ H Q):PW X e t':=λwhole pins s σ H Q I q=>h whole pins s σ H Q I (w σ H Q q)
theorem zgZ (ha:PuT X a tA):PuW X (.BoolOp .And [a] pos) tA:=⟨ha.mono,zpS ha.run⟩
theorem zdR (ha:PuT X a tA):PuW X (.BoolOp .Or [a] pos) tA:=⟨ha.mono,zrD ha.run⟩
theorem and_mono (m1:∀ρ (Q Q':Bool->Prop),(∀b,Q b->Q' b)->tA ρ Q->tA ρ Q')(m2:∀ρ (Q Q':Bool->Prop),(∀b,Q b->Q' b)->tB' ρ Q->tB' ρ Q') :
  ∀ρ (Q Q':Bool->Prop),(∀b,Q b->Q' b)->zdk tA tB' ρ Q->zdk tA tB' ρ Q':=λρ Q Q' m h=>m1 ρ _ _ (λc q=>by
 cases c with
 | true=>rw[if_pos rfl]at q ⊢;exact m2 ρ _ _ m q
 | false=>rw[if_neg Xo]at q ⊢;exact m _ q) h
theorem or_mono (m1:∀ρ (Q Q':Bool->Prop),(∀b,Q b->Q' b)->tA ρ Q->tA ρ Q')(m2:∀ρ (Q Q':Bool->Prop),(∀b,Q b->Q' b)->tB' ρ Q->tB' ρ Q') :
  ∀ρ (Q Q':Bool->Prop),(∀b,Q b->Q' b)->tOrP tA tB' ρ Q->tOrP tA tB' ρ Q':=λρ Q Q' m h=>m1 ρ _ _ (λc q=>by
 cases c with
 | false=>rw[if_neg Xo]at q ⊢;exact m2 ρ _ _ m q
 | true=>rw[if_pos rfl]at q ⊢;exact m _ q) h
theorem zjf (ha:PuT X a tA)(hb:PuW X (.BoolOp .And (b::rest) pos) tB'):PuW X (.BoolOp .And (a::b::rest) pos) (zdk tA tB') where
 mono:=and_mono ha.mono hb.mono
 run:=PW.weak (zrE ha.run hb.run) λσ H Q h=>by
  obtain⟨ρ,Fz,R,h⟩:=h;refine⟨ρ,Fz,R,ha.mono ρ _ _ (λc q Fz' H' x=>?_) h⟩;cases c with
  | true=>
   rw[if_pos rfl]at q ⊢;exact⟨ρ,Fz',R.ext x,hb.mono ρ _ _ (λb q Fz2 H2 x2=>q Fz2 H2 (x.trans x2)) q⟩
  | false=>rw[if_neg Xo]at q ⊢;exact q Fz' H' x
theorem zeo (ha:PuT X a tA)(hb:PuW X (.BoolOp .Or (b::rest) pos) tB'):PuW X (.BoolOp .Or (a::b::rest) pos) (tOrP tA tB') where
 mono:=or_mono ha.mono hb.mono
 run:=PW.weak (ztz ha.run hb.run) λσ H Q h=>by
  obtain⟨ρ,Fz,R,h⟩:=h;refine⟨ρ,Fz,R,ha.mono ρ _ _ (λc q Fz' H' x=>?_) h⟩;cases c with
  | false=>
   rw[if_neg Xo]at q ⊢;exact⟨ρ,Fz',R.ext x,hb.mono ρ _ _ (λb q Fz2 H2 x2=>q Fz2 H2 (x.trans x2)) q⟩
  | true=>rw[if_pos rfl]at q ⊢;exact q Fz' H' x
theorem zcN (ha:PuT X a tA):PuT X (.UnaryOp .Not a pos) (zcM tA) where
 mono ρ Q Q' m h:=ha.mono ρ _ _ (λc q=>m _ q) h
 run:=PT.weak (zrF ha.run) λσ H Q h=>h
noncomputable def TruP:PV->Bool->Prop
 | .non,k=>k=false
 | .bl b,k=>k=b
 | .int i,k=>k=(i != 0)
 | .str y,k=>y.length<=sizeLine/\k=((y.length:Int) != 0)
 | .tup ds,k=>k = !ds.isEmpty
 | .lst ds,k=>k = !ds.isEmpty
 | _,_=>False
noncomputable def tTru (te:TPE):TPT:=λρ Q=>te ρ λd _=>∃k,TruP d k/\Q k
theorem TruP.v {K:Xa}{Fz:FZ}{H:Hp}{d:PV}{x:V}{k:Bool}(r:Root K Fz H d x)(t:TruP d k):TruV K x H k:=by
 cases d with
 | non=>cases zca r;exact t
 | bl b=>cases zfF r;exact t
 | int i=>cases zay r;exact t
 | str y=>cases zbk r;exact t
 | tup ds=>
  obtain⟨a,xs,rfl,h1,h2⟩:=zaL r;refine .inr (.inl ⟨xs,h1,?_⟩);have hl:=h2.length;have t':k = !ds.isEmpty:=t;rw[t'];cases ds<;>cases xs<;>simp_all
 | lst ds=>
  obtain⟨a,xs,rfl,h1,h2⟩:=zat r;refine .inl ⟨xs,h1,?_⟩;have hl:=h2.length;have t':k = !ds.isEmpty:=t;rw[t'];cases ds<;>cases xs<;>simp_all
 | ty _=>exact t.elim
 | dK _ _=>exact t.elim
 | dT _ _=>exact t.elim
 | obj _ _ _=>exact t.elim
theorem zcy (ha:PuE X a ta)(he:autoParam (∀whole,isTrue a X.env whole=(do let v <- whole;standAt a.pos;holding [v] (truthy v))) aU3):PuT X a (tTru ta) where
 mono ρ Q Q' m h:=ha.mono ρ _ _ (λd k q65q=>by obtain⟨b,e,q⟩:=q65q;exact⟨b,e,m b q⟩) h
 run:=PT.weak (znU ha.run he) λσ H Q h=>by
  obtain⟨ρ,Fz,R,h⟩:=h;exact⟨ρ,Fz,R,ha.mono ρ _ _ (λd k q66q v Fz' H' p=>by obtain⟨b,e,q⟩:=q66q;exact⟨b,TruP.v (p.root R) e,q Fz' H' p.ext⟩) h⟩
noncomputable def zep (ta:TPE):TPE:=λρ Q=>ta ρ λd _=>∃c,d=.bl c/\Q (.bl (!c)) .frz
noncomputable def zeq (ta tb:TPE):TPE:=λρ Q=>ta ρ λd _=>∃c,d=.bl c/\if c=true then tb ρ Q else Q (.bl false) .frz
theorem zso (ha:PuE X a ta):PuE X (.UnaryOp .Not a pos) (zep ta) where
 mono ρ Q Q' m h:=ha.mono ρ _ _ (λd k q67q=>by obtain⟨c,e,q⟩:=q67q;exact⟨c,e,m _ _ q⟩) h
 run:=PE.weak (zrI ha.run) λσ H Q h=>by
  obtain⟨ρ,Fz,R,h⟩:=h;refine⟨ρ,Fz,R,ha.mono ρ _ _ (λd k ⟨c,e,q⟩ v Fz' H' p=>⟨c,?_,q _ Fz' H' ⟨p.ext,by show Den _ _ _ _ _;simp only[Den]⟩⟩) h⟩;subst e;exact zfF (p.root R)
theorem zsp {op}{t:TPE}(h:PuE X a t):PuE X (.BoolOp op [a] pos) t:=⟨h.mono,zrG h.run⟩
theorem zsq (ha:PuE X a ta)(hb:PuE X (.BoolOp .And (b::rest) pos) tb):PuE X (.BoolOp .And (a::b::rest) pos) (zeq ta tb) where
 mono ρ Q Q' m h:=ha.mono ρ _ _ (λd k ⟨c,e,q⟩=>⟨c,e,by
  cases c with
  | true=>rw[if_pos rfl]at q ⊢;exact hb.mono ρ _ _ m q
  | false=>rw[if_neg Xo]at q ⊢;exact m _ _ q⟩) h
 run:=PE.weak (zrH ha.run hb.run) λσ H Q h=>by
  obtain⟨ρ,Fz,R,h⟩:=h;refine⟨ρ,Fz,R,ha.mono ρ _ _ (λd k ⟨c,e,q⟩ v Fz' H' p=>⟨c,?_,?_⟩) h⟩
  ·subst e;exact zfF (p.root R)
  ·cases c with
   | true=>
    rw[if_pos rfl]at q ⊢;exact⟨ρ,Fz',R.ext p.ext,hb.mono ρ _ _ (λd k q v Fz2 H2 p2=>q v Fz2 H2 (p2.then p.ext)) q⟩
   | false=>rw[if_neg Xo]at q ⊢;exact q _ Fz' H' ⟨p.ext,by show Den _ _ _ _ _;simp only[Den]⟩
noncomputable def tIfE (t:TPT)(ta tb:TPE):TPE:=λρ Q=>t ρ λc=>if c=true then ta ρ Q else tb ρ Q
theorem zha (hc:PuT X c tA)(ha:PuE X a ta)(hb:PuE X b tb):PuE X (.IfExp c a b pos) (tIfE tA ta tb) where
 mono ρ Q Q' m h:=hc.mono ρ _ _ (λd q=>by
  cases d with
  | true=>rw[if_pos rfl]at q ⊢;exact ha.mono ρ _ _ m q
  | false=>rw[if_neg Xo]at q ⊢;exact hb.mono ρ _ _ m q) h
 run:=PE.weak (znR hc.run ha.run hb.run) λσ H Q h=>by
  obtain⟨ρ,Fz,R,h⟩:=h;refine⟨ρ,Fz,R,hc.mono ρ _ _ (λc q Fz' H' x=>?_) h⟩;cases c with
  | true=>
   rw[if_pos rfl]at q ⊢;exact⟨ρ,Fz',R.ext x,ha.mono ρ _ _ (λd k q v Fz2 H2 p2=>q v Fz2 H2 (p2.then x)) q⟩
  | false=>
   rw[if_neg Xo]at q ⊢;exact⟨ρ,Fz',R.ext x,hb.mono ρ _ _ (λd k q v Fz2 H2 p2=>q v Fz2 H2 (p2.then x)) q⟩
end
noncomputable abbrev OpdL (K:Xa)(Fz':FZ)(H':Hp)(ρ:PEnv)(σ:St)(H:Hp):List (PV×Kd)->List V->Prop:=Paired λp v=>Opd K Fz' H' ρ σ H p.1 p.2 v
noncomputable def zqE (K:Xa)(t:TPA):TA:=λσ H Q=>∃ρ Fz,Rel K Fz ρ σ H/\t ρ λops=>∀vs Fz' H',Ext Fz H Fz' H'->OpdL K Fz' H' ρ σ H ops vs->Q vs H'
structure PuA (X:Cx)(es:List Expr)(t:TPA):Prop where
 mono:∀ρ Q Q',(∀ops,Q ops->Q' ops)->t ρ Q->t ρ Q'
 run:PA X es (zqE X.K t)
theorem PA.weak {X:Cx}{es:List Expr}{t t':TA}(h:PA X es t)(w:∀σ H Q,t' σ H Q->t σ H Q):PA X es t':=λpos pins s σ H Q I q=>h pos pins s σ H Q I (w σ H Q q)
noncomputable def pNil:TPA:=λ_ Q=>Q []
noncomputable def zar (te:TPE)(t:TPA):TPA:=λρ Q=>te ρ λd k=>t ρ λops=>Q ((d,k)::ops)
theorem OpdL.back {K:Xa}{ρ:PEnv}{σ:St}{Fz2:FZ}{H H1 H2:Hp}(s:Same H H1):∀ {ops:List (PV×Kd)}{vs:List V},OpdL K Fz2 H2 ρ σ H1 ops vs->OpdL K Fz2 H2 ρ σ H ops vs
 | _,_,.nil=>.nil
 | _,_,.cons h t=>.cons (Opd.back s h) (OpdL.back s t)
section
variable {X:Cx}{e:Expr}{es:List Expr}{te:TPE}{t:TPA}{pos:Pos}
theorem zae:PuA X [] pNil where
 mono ρ Q Q' m h:=m _ h
 run:=PA.weak zgs λσ H Q h=>by
  obtain⟨ρ,Fz,R,h⟩:=h;exact h [] Fz H ⟨Same.refl H,λ_ h=>h,λ_ h=>.inl h,R.al⟩ .nil
theorem zab (ha:PuE X e te)(hr:PuA X es t)(hs:autoParam (starEach (e::es) X.env=(false,eval e X.env)::starEach es X.env) aU0):PuA X (e::es) (zar te t) where
 mono ρ Q Q' m h:=ha.mono ρ _ _ (λd k h=>hr.mono ρ _ _ (λops h=>m _ h) h) h
 run:=PA.weak (zeP ha.run hr.run hs) λσ H Q h=>by
  obtain⟨ρ,Fz,R,h⟩:=h;refine⟨ρ,Fz,R,ha.mono ρ _ _ (λd k h v Fz1 H1 p=>?_) h⟩;refine⟨ρ,Fz1,R.ext p.ext,hr.mono ρ _ _ (λops h vs Fz2 H2 x o=>?_) h⟩;exact h (v::vs) Fz2 H2 (p.ext.trans x) (.cons (Opd.ext x p.opd) (OpdL.back p.ext.same o))
end
noncomputable def zla (K:Xa)(Fz:FZ)(H:Hp):List PV->List V->Prop:=Paired (Root K Fz H)
theorem OpdL.root {K:Xa}{ρ:PEnv}{σ:St}{Fz Fz':FZ}{H H':Hp}(R:Rel K Fz ρ σ H)(x:Ext Fz H Fz' H'):∀ {ops:List (PV×Kd)}{vs:List V},OpdL K Fz' H' ρ σ H ops vs->zla K Fz' H' (ops.map (·.1)) vs
 | _,_,.nil=>.nil
 | _,_,.cons h t=>.cons (Post.root R ⟨x,h⟩) (OpdL.root R x t)
noncomputable def noOwn:List (PV×Kd)->Bool
 | []=>true
 | (_,.own _)::_=>false
 | _::r=>noOwn r
theorem OpdL.frozen {K:Xa}{ρ:PEnv}{σ:St}{Fz Fz':FZ}{H H':Hp}(x:Ext Fz H Fz' H'):∀ {ops:List (PV×Kd)}{vs:List V},noOwn ops=true->OpdL K Fz' H' ρ σ H ops vs->
  ∃Fz2,Ext Fz H Fz2 H'/\(∀b,Fz' b->Fz2 b)/\DenL K Fz2 H' (ops.map (·.1)) vs
 | _,_,_,.nil=>⟨Fz',x,λ_ h=>h,DenL.nil⟩
 | (d,k)::ops,v::vs,hn,.cons h t=>by
  cases k with
  | own i=>exact absurd hn Xo
  | frz=>
   obtain⟨F2,x2,s2,h2⟩:=OpdL.frozen x (ops:=ops) hn t;exact⟨F2,x2,s2,DenL.cons (Den.mono (Keep.of (Same.refl _)) s2 _ _ h) h2⟩
  | new=>
   obtain⟨F2,x2,s2,h2⟩:=OpdL.frozen x (ops:=ops) hn t;obtain⟨a,e,hn',_,o⟩:=h;subst e;refine⟨λb=>F2 b\/b=a,x2.add hn' (by obtain⟨o',e,_⟩:=o.at;rw[e];exact λz=>nomatch z),λb h=>.inl (s2 b h),DenL.cons ?_ (DenL.mono (Keep.of (Same.refl _)) (λb h=>.inl h) _ _ h2)⟩;exact(o.mono (Fz':=λb=>F2 b\/b=a) (Keep.of (Same.refl _)) (λb h=>.inl (s2 b h)) (λ_ h=>h)).den (.inr rfl)
noncomputable def pTup (t:TPA):TPE:=λρ Q=>t ρ λops=>noOwn ops=true/\ops.length<=sizeLine/\Q (.tup (ops.map (·.1))) .frz
noncomputable def pLst (t:TPA):TPE:=λρ Q=>t ρ λops=>noOwn ops=true/\ops.length<=sizeLine/\Q (.lst (ops.map (·.1))) .new
section
variable {X:Cx}{es:List Expr}{t:TPA}{pos:Pos}
theorem zdI {x1}(h:PuA X es t):PuE X (.Tuple es x1 pos) (pTup t) where
 mono ρ Q Q' m q:=h.mono ρ _ _ (λops q=>⟨q.1,q.2.1,m _ _ q.2.2⟩) q
 run:=PE.weak (zrV h.run) λσ H Q q=>by
  obtain⟨ρ,Fz,R,q⟩:=q;refine⟨ρ,Fz,R,h.mono ρ _ _ (λops q vs Fz' H' x o=>?_) q⟩;obtain⟨hn,hl,q⟩:=q;obtain⟨F2,x2,s2,h2⟩:=o.frozen x hn;have len:=h2.length;rw[Xb]at len;refine⟨by lia,λp hp=>q _ F2 _ ⟨x2.laid hp,?_⟩⟩;show Den _ _ _ _ _;simp only[Den];refine⟨p,vs,rfl,zaj,DenL.mono (Keep.of (λb u e=>by rw[zah (zaE e hp)];exact e)) (λ_ h=>h) _ _ h2⟩
theorem zbF (h:PuA X es t):PuE X (.List es pos) (pLst t) where
 mono ρ Q Q' m q:=h.mono ρ _ _ (λops q=>⟨q.1,q.2.1,m _ _ q.2.2⟩) q
 run:=PE.weak (zrW h.run) λσ H Q q=>by
  obtain⟨ρ,Fz,R,q⟩:=q;refine⟨ρ,Fz,R,h.mono ρ _ _ (λops q vs Fz' H' x o=>?_) q⟩;obtain⟨hn,hl,q⟩:=q;obtain⟨F2,x2,s2,h2⟩:=o.frozen x hn;have len:=h2.length;rw[Xb]at len;refine⟨by lia,λp hp=>q _ F2 _ ⟨x2.laid hp,p,rfl,x.same.free hp,λz=>x2.al p z hp,vs,zaj,?_⟩⟩;exact DenL.mono (Keep.of (λb u e=>by rw[zah (zaE e hp)];exact e)) (λ_ h=>h) _ _ h2
end
mutual
noncomputable def zcz:PV->Bool
 | .tup ds=>zbr ds
 | .lst _=>false
 | .dK _ _=>false
 | .dT _ _=>false
 | .obj _ _ _=>false
 | _=>true
noncomputable def zbr:List PV->Bool
 | []=>true
 | d::ds=>zcz d&&zbr ds
end
section
variable {K:Xa}{Fz Fz':FZ}{H:Hp}
mutual
theorem zic:∀(d:PV)(v:V),zcz d=true->Den K Fz H d v->Den K Fz' H d v
 | .non,v,_,h=>by simpa only[Den]using h
 | .bl b,v,_,h=>by simpa only[Den]using h
 | .int i,v,_,h=>by simpa only[Den]using h
 | .str x,v,_,h=>by simpa only[Den]using h
 | .ty n,v,_,h=>by simpa only[Den]using h
 | .tup ds,v,n,h=>by
  simp only[zcz]at n;simp only[Den]at h ⊢;obtain⟨a,xs,e,h1,h2⟩:=h;exact⟨a,xs,e,h1,zcH ds xs n h2⟩
 | .lst ds,v,n,h=>by simp only[zcz]at n;exact absurd n (by decide)
 | .dK ks ds,v,n,h=>by simp only[zcz]at n;exact absurd n (by decide)
 | .dT ks ds,v,n,h=>by simp only[zcz]at n;exact absurd n (by decide)
theorem zcH:∀(ds:List PV)(xs:List V),zbr ds=true->DenL K Fz H ds xs->DenL K Fz' H ds xs
 | [],xs,_,h=>by simpa only[DenL]using h
 | d::ds,xs,n,h=>by
  simp only[zbr,Yn]at n;simp only[DenL]at h ⊢;obtain⟨v,r,e,h1,h2⟩:=h;exact⟨v,r,e,zic d v n.1 h1,zcH ds r n.2 h2⟩
end
end
noncomputable def zbG:PV->Kd->Bool
 | .lst ds,.new=>zbr ds
 | .dK _ ds,.new=>zbr ds
 | .dT _ ds,.new=>zbr ds
 | d,_=>zcz d
theorem zgw {K:Xa}{Fz Fz':FZ}{H H':Hp}{d:PV}{k:Kd}{v:V}(n:zbG d k=true)(hal:∀b,Fz' b->H b≠none)(h:Opd K Fz H' [] [] H d k v):Opd K Fz' H' [] [] H d k v:=by
 cases k with
 | frz=>
  have n':zcz d=true:=by cases d<;>exact n
  exact zic d v n' h
 | own i=>exact h
 | new=>
  obtain⟨a,e,hn,_,o⟩:=h;refine⟨a,e,hn,λz=>hal a z hn,?_⟩;cases d with
  | lst ds=>obtain⟨xs,h1,h2⟩:=o;exact⟨xs,h1,zcH ds xs n h2⟩
  | dK ks ds=>obtain⟨xs,h1,h2,h3⟩:=o;exact⟨xs,h1,h2,zcH ds xs n h3⟩
  | dT ks ds=>obtain⟨xs,h1,h2,h3⟩:=o;exact⟨xs,h1,h2,zcH ds xs n h3⟩
  | non=>exact o.elim
  | bl b=>exact o.elim
  | int i=>exact o.elim
  | str x=>exact o.elim
  | ty n=>exact o.elim
  | tup ds=>exact o.elim
  | obj C ks ds=>exact o.elim
noncomputable abbrev PF:=List PV->(PV->Kd->Prop)->Prop
noncomputable def zaX (F:PF):Prop:=∀ds Q Q',(∀d k,Q d k->Q' d k)->F ds Q->F ds Q'
noncomputable def spP (K:Xa)(F:PF):Sp:=λvs H Q _=>∃Fz ds,(∀b,Fz b->H b≠none)/\DenL K Fz H ds vs/\F ds λd k=>∀v Fz' H',Post K [] [] Fz H Fz' H' d k v->Q v H'
theorem OpdL.all {K:Xa}{ρ:PEnv}{σ:St}{Fz Fz':FZ}{H H':Hp}(R:Rel K Fz ρ σ H)(x:Ext Fz H Fz' H'):∀ {ops:List (PV×Kd)}{vs:List V},OpdL K Fz' H' ρ σ H ops vs->
  ∃Fz2,(∀b,Fz' b->Fz2 b)/\(∀b,Fz2 b->H' b≠none)/\DenL K Fz2 H' (ops.map (·.1)) vs
 | _,_,.nil=>⟨Fz',λ_ h=>h,x.al,DenL.nil⟩
 | (d,k)::ops,v::vs,.cons h t=>by
  obtain⟨F2,s2,a2,h2⟩:=OpdL.all R x t;have addr:∀a,v=.ref a->Own K Fz' H' d a->∃Fz2,(∀b,Fz' b->Fz2 b)/\(∀b,Fz2 b->H' b≠none)/\DenL K Fz2 H' ((d,k)::ops |>.map (·.1)) (v::vs):=λa e o=>by
   subst e;refine⟨λb=>F2 b\/b=a,λb h=>.inl (s2 b h),λb hb=>?_,DenL.cons ?_ (DenL.mono (Keep.of (Same.refl _)) (λb h=>.inl h) _ _ h2)⟩
   ·rcases hb with hb | rfl
    ·exact a2 b hb
    ·obtain⟨o',e,_⟩:=o.at;rw[e];exact λz=>nomatch z
   ·exact(o.mono (Fz':=λb=>F2 b\/b=a) (Keep.of (Same.refl _)) (λb h=>.inl (s2 b h)) (λ_ h=>h)).den (.inr rfl)
  cases k with
  | frz=>exact⟨F2,s2,a2,DenL.cons (Den.mono (Keep.of (Same.refl _)) s2 _ _ h) h2⟩
  | new=>obtain⟨a,e,_,_,o⟩:=h;exact addr a e o
  | own i=>
   obtain⟨h1,h2'⟩:=h;obtain⟨a,e,_,o⟩:=(R.ext x).own i d h1;rw[h2']at e;cases e;exact addr a rfl o
noncomputable def zaF (F:PF)(t:TPA):TPE:=λρ Q=>t ρ λops=>F (ops.map (·.1)) λd k=>(noOwn ops=true\/zbG d k=true)/\Q d k
section
variable {X:Cx}{k:Nat}{f:Addr}{fd:FuncData}{ps:List Str}{F:PF}{x:Str}{p pos:Pos}{e:Expr}{es:List Expr}{t:TPA}
theorem zoo {σ:St}{H:Hp}{Q:VK}(ha:PuA X es t)(m:zaX F)(h:lift X.K (zaF F t) σ H Q):zrX (spP X.K F) [] E0 (zqE X.K t) σ H Q:=by
 obtain⟨ρ,Fz,R,h⟩:=h;refine⟨ρ,Fz,R,ha.mono ρ _ _ (λops h vs Fz' H' x o=>?_) h⟩;show spP X.K F (vs++[]) H' Q E0;rw[List.append_nil];by_cases hn:noOwn ops=true
 ·obtain⟨F2,x2,s2,h2⟩:=o.frozen x hn;refine⟨F2,ops.map (·.1),x2.al,h2,m _ _ _ (λd k q v Fz3 H3 p3=>?_) h⟩;exact q.2 v Fz3 H3 (p3.behind x2)
 ·obtain⟨F2,s2,a2,h2⟩:=o.all R x;refine⟨F2,ops.map (·.1),a2,h2,m _ _ _ (λd k q v Fz3 H3 p3=>?_) h⟩;have nm:zbG d k=true:=q.1.resolve_left hn;have al:∀b,Fz' b->H3 b≠none:=λb hb z=>x.al b hb (p3.ext.same.free z);refine q.2 v Fz' H3 ⟨⟨x.same.trans p3.ext.same,x.sub,x.new,al⟩,?_⟩;exact((zgw nm x.al p3.opd).up).back x.same
theorem zaq (G:FnOk X.prog X.w X.K X.mg X.base CX0 k f fd ps (spP X.K F))(m:zaX F)(hr:Room k X.A)(hg:Gl X x)(hm:X.mg x=some (.ref f))(hk:YJ X.K (.ref f)=true)(hb:Binds X.K fd ps [])(ha:PuA X (e::es) t)
  (hd:autoParam ((x == ("__debug__" : Str))=false) aU1) (he:autoParam (starEach (e::es) X.env=(false,eval e X.env)::starEach es X.env) aU0) (hpl:autoParam ((backTo pos (starEach es X.env)).any (·.1)=false) aU0) :
  PuE X (.Call (.Name x p) (e::es) [] pos) (zaF F t) where
 mono ρ Q Q' mm h:=ha.mono ρ _ _ (λops h=>m _ _ _ (λd k q=>⟨q.1,mm _ _ q.2⟩) h) h
 run:=PE.weak (zqe G hr hg hm hk hb .nil zkN ha.run hd he hpl) λσ H Q h=>zoo ha m h
end
structure zeU (K:Xa)(r:List V->Hp->VK->Prop)(p:PF):Prop where
 mono:zaX p
 run:∀Fz H ds vs Q,(∀b,Fz b->H b≠none)->zla K Fz H ds vs->p ds (λz k=>∀v Fz' H',Post K [] [] Fz H Fz' H' z k v->Q v H')->r vs H Q
noncomputable def tB (p:PF)(t:TPA):TPE:=λρ Q=>t ρ λops=>p (ops.map (·.1)) Q
section
variable {X:Cx}{x:Str}{p pos:Pos}{e:Expr}{es:List Expr}{t:TPA}{id T:String}{r:List V->Hp->VK->Prop}{pf:PF}
theorem zsr {σ:St}{H:Hp}{Q:VK}(ha:PuA X es t)(m:zeU X.K r pf)(h:lift X.K (tB pf t) σ H Q):tCB r (zqE X.K t) σ H Q:=by
 obtain⟨ρ,Fz,R,h⟩:=h;refine⟨ρ,Fz,R,ha.mono ρ _ _ (λops h vs Fz' H' x o=>?_) h⟩;exact m.run Fz' H' _ vs Q x.al (o.root R x) (m.mono _ _ _ (λd k q v Fz3 H3 p3=>q v Fz3 H3 (p3.behind x)) h)
theorem zcO (hc:zdh X (.builtin id) r)(m:zeU X.K r pf)(hg:Gl X x)(hm:X.mg x=none)(hv:bootBuiltins x=some (.builtin id))(ha:PuA X (e::es) t)(hn:autoParam (x≠"__name__") aU1) (hdb:autoParam ((x == ("__debug__" : Str))=false) aU1)
  (he:autoParam (starEach (e::es) X.env=(false,eval e X.env)::starEach es X.env) aU0) (hpl:autoParam ((backTo pos (starEach es X.env)).any (·.1)=false) aU0):PuE X (.Call (.Name x p) (e::es) [] pos) (tB pf t) where
 mono ρ Q Q' mm h:=ha.mono ρ _ _ (λops h=>m.mono _ _ _ mm h) h
 run:=PE.weak (zjC hc hg hm hv ha.run hn hdb he hpl) λσ H Q h=>zsr ha m h
theorem zfI (hc:zdh X (.type T) r)(m:zeU X.K r pf)(hg:Gl X x)(hm:X.mg x=none)(hv:bootBuiltins x=some (.type T))(ha:PuA X (e::es) t)(hn:autoParam (x≠"__name__") aU1) (hdb:autoParam ((x == ("__debug__" : Str))=false) aU1)
  (he:autoParam (starEach (e::es) X.env=(false,eval e X.env)::starEach es X.env) aU0) (hpl:autoParam ((backTo pos (starEach es X.env)).any (·.1)=false) aU0):PuE X (.Call (.Name x p) (e::es) [] pos) (tB pf t) where
 mono ρ Q Q' mm h:=ha.mono ρ _ _ (λops h=>m.mono _ _ _ mm h) h
 run:=PE.weak (zhK hc hg hm hv ha.run hn hdb he hpl) λσ H Q h=>zsr ha m h
end
end _P
namespace _P
open PySem PySem.Spec _L
open PyProof.Rows hiding St
structure POut where
 nx:PEnv->Prop
 rt:PV->Kd->Prop
 bk:PEnv->Prop
 ct:PEnv->Prop
structure POut.le (O O':POut):Prop where
 nx:∀ρ,O.nx ρ->O'.nx ρ
 rt:∀d k,O.rt d k->O'.rt d k
 bk:∀ρ,O.bk ρ->O'.bk ρ
 ct:∀ρ,O.ct ρ->O'.ct ρ
noncomputable abbrev TPS:=PEnv->POut->Prop
noncomputable def Hold (t:TPS)(O:POut)(ρ:PEnv):Prop:=t ρ O
noncomputable def zss (c:TPT)(ρ:PEnv)(Q:Bool->Prop):Prop:=c ρ Q
theorem zbP {c:TPT}{ρ:PEnv}{Q:Bool->Prop}(h:c ρ Q):zss c ρ Q:=h
theorem hold {t:TPS}{O:POut}{ρ:PEnv}(h:t ρ O):Hold t O ρ:=h
structure Step (ρ:PEnv)(σ:St)(Fz:FZ)(H:Hp)(Fz':FZ)(H':Hp):Prop where
 sub:∀b,Fz b->Fz' b
 new:∀b,Fz' b->Fz b\/H b=none\/zbh ρ σ b
 keep:∀b o,H b=some o->¬ zbh ρ σ b->H' b=some o
noncomputable def zaC (ρ:PEnv)(σ:St)(H:Hp)(ρ':PEnv)(σ':St):Prop:=∀b,zbh ρ' σ' b->zbh ρ σ b\/H b=none
theorem Step.of {ρ:PEnv}{σ:St}{Fz Fz':FZ}{H H':Hp}(x:Ext Fz H Fz' H'):Step ρ σ Fz H Fz' H':=
 ⟨x.sub,λb h=>(x.new b h).elim .inl (λh=>.inr (.inl h)),λb o e _=>x.same b o e⟩
theorem Step.none {ρ:PEnv}{σ:St}{Fz Fz':FZ}{H H':Hp}(s:Step ρ σ Fz H Fz' H'){b:Addr}(h:H' b=Option.none):H b=Option.none\/zbh ρ σ b:=by
 by_cases o:zbh ρ σ b
 ·exact .inr o
 ·cases e:H b with
  | none=>exact .inl rfl
  | some u=>rw[s.keep b u e o]at h;cases h
theorem Step.trans {ρ ρ':PEnv}{σ σ':St}{F1 F2 F3:FZ}{H1 H2 H3:Hp}(a:Step ρ σ F1 H1 F2 H2)(oi:zaC ρ σ H1 ρ' σ')(b:Step ρ' σ' F2 H2 F3 H3):Step ρ σ F1 H1 F3 H3:=
 ⟨λc h=>b.sub c (a.sub c h),λc h=>by
  rcases b.new c h with h | h | h
  ·exact a.new c h
  ·exact .inr (a.none h)
  ·exact .inr ((oi c h).symm),λc o e n=>by
  refine b.keep c o (a.keep c o e n) λz=>?_;rcases oi c z with z | z
  ·exact n z
  ·rw[e]at z;cases z⟩
theorem zaC.trans {ρ ρ' ρ'':PEnv}{σ σ' σ'':St}{F1 F2:FZ}{H1 H2:Hp}(a:Step ρ σ F1 H1 F2 H2)(oi:zaC ρ σ H1 ρ' σ')(oj:zaC ρ' σ' H2 ρ'' σ''):zaC ρ σ H1 ρ'' σ'':=λc h=>by
 rcases oj c h with h | h
 ·exact oi c h
 ·exact(a.none h).symm
theorem zaC.refl (ρ:PEnv)(σ:St)(H:Hp):zaC ρ σ H ρ σ:=λ_ h=>.inl h
noncomputable def Ret (K:Xa)(ρ:PEnv)(σ:St)(H:Hp)(Fz':FZ)(H':Hp)(d:PV):Kd->V->Prop
 | .frz,v=>Den K Fz' H' d v
 | .new,v=>∃a,v=.ref a/\¬ Fz' a/\Own K Fz' H' d a/\(zbh ρ σ a\/H a=none)
 | .own _,_=>False
noncomputable def zgj (K:Xa)(D:Ends)(ρ:PEnv)(σ:St)(Fz:FZ)(H:Hp):POut where
 nx:=λρ'=>∀σ' Fz' H',Step ρ σ Fz H Fz' H'->zaC ρ σ H ρ' σ'->Rel K Fz' ρ' σ' H'->D.nx σ' H'
 bk:=λρ'=>∀σ' Fz' H',Step ρ σ Fz H Fz' H'->zaC ρ σ H ρ' σ'->Rel K Fz' ρ' σ' H'->D.bk σ' H'
 ct:=λρ'=>∀σ' Fz' H',Step ρ σ Fz H Fz' H'->zaC ρ σ H ρ' σ'->Rel K Fz' ρ' σ' H'->D.ct σ' H'
 rt:=λd k=>∀v Fz' H',Step ρ σ Fz H Fz' H'->(∀b,Fz' b->H' b≠none)->Ret K ρ σ H Fz' H' d k v->D.rt v H'
noncomputable def zop (K:Xa)(t:TPS):TS:=λD σ H=>∃ρ Fz,Rel K Fz ρ σ H/\t ρ (zgj K D ρ σ Fz H)
structure PuS (X:Cx)(st:Stmt)(t:TPS):Prop where
 mono:∀ρ O O',O.le O'->t ρ O->t ρ O'
 run:PS X st (zop X.K t)
structure PuSs (X:Cx)(st:List Stmt)(t:TPS):Prop where
 mono:∀ρ O O',O.le O'->t ρ O->t ρ O'
 run:PSs X st (zop X.K t)
theorem PS.weak {X:Cx}{e:Stmt}{t t':TS}(h:PS X e t)(w:∀D σ H,t' D σ H->t D σ H):PS X e t':=λpins s σ H D I q=>h pins s σ H D I (w D σ H q)
theorem PSs.weak {X:Cx}{e:List Stmt}{t t':TS}(h:PSs X e t)(w:∀D σ H,t' D σ H->t D σ H):PSs X e t':=λpins s σ H D I q=>h pins s σ H D I (w D σ H q)
theorem zoq {K:Xa}{D D':Ends}{ρ ρ':PEnv}{σ σ':St}{Fz Fz':FZ}{H H':Hp}(s:Step ρ σ Fz H Fz' H')(oi:zaC ρ σ H ρ' σ')(h1:∀σ H,D.nx σ H->D'.nx σ H)(h2:∀v H,D.rt v H->D'.rt v H)(h3:∀σ H,D.bk σ H->D'.bk σ H)(h4:∀σ H,D.ct σ H->D'.ct σ H) :
  (zgj K D ρ σ Fz H).le (zgj K D' ρ' σ' Fz' H') where
 nx ρ2 q σ2 F2 H2 s2 o2 R2:=h1 _ _ (q σ2 F2 H2 (s.trans oi s2) (zaC.trans s oi o2) R2)
 bk ρ2 q σ2 F2 H2 s2 o2 R2:=h3 _ _ (q σ2 F2 H2 (s.trans oi s2) (zaC.trans s oi o2) R2)
 ct ρ2 q σ2 F2 H2 s2 o2 R2:=h4 _ _ (q σ2 F2 H2 (s.trans oi s2) (zaC.trans s oi o2) R2)
 rt d k q v F2 H2 s2 al r:=h2 _ _ (q v F2 H2 (s.trans oi s2) al (by
  cases k with
  | frz=>exact r
  | own i=>exact r
  | new=>
   obtain⟨a,e,nf,o,w⟩:=r;refine⟨a,e,nf,o,?_⟩;rcases w with w | w
   ·exact oi a w
   ·exact(s.none w).symm))
theorem zcf {K:Xa}{D:Ends}{ρ ρ':PEnv}{σ σ':St}{Fz Fz':FZ}{H H':Hp}(s:Step ρ σ Fz H Fz' H')(oi:zaC ρ σ H ρ' σ'):(zgj K D ρ σ Fz H).le (zgj K D ρ' σ' Fz' H'):=
 zoq s oi (λ_ _ h=>h) (λ_ _ h=>h) (λ_ _ h=>h) (λ_ _ h=>h)
section
variable {X:Cx}{st:Stmt}{rest:List Stmt}{t u:TPS}{e:Expr}{te:TPE}{pos:Pos}
noncomputable def zcA:TPS:=λρ O=>O.nx ρ
noncomputable def pSeq (t u:TPS):TPS:=λρ O=>t ρ { O with nx:=Hold u O }
theorem zaH:PuSs X [] zcA where
 mono ρ O O' m h:=m.nx _ h
 run:=PSs.weak zpT λD σ H h=>by
  obtain⟨ρ,Fz,R,h⟩:=h;exact h σ Fz H (.of ⟨Same.refl H,λ_ h=>h,λ_ h=>.inl h,R.al⟩) (zaC.refl ρ σ H) R
theorem zaf (h1:PuS X st t):PuSs X [st] t:=⟨h1.mono,ziU h1.run⟩
theorem zad (h1:PuS X st t)(h2:PuSs X rest u):PuSs X (st::rest) (pSeq t u) where
 mono ρ O O' m h:=h1.mono ρ { O with nx:=λρ'=>u ρ' O } _ ⟨λρ' q=>h2.mono ρ' _ _ m q,m.rt,m.bk,m.ct⟩ h
 run:=PSs.weak (zbZ h1.run h2.run) λD σ H h=>by
  obtain⟨ρ,Fz,R,h⟩:=h;refine⟨ρ,Fz,R,h1.mono ρ { zgj X.K D ρ σ Fz H with nx:=λρ'=>u ρ' (zgj X.K D ρ σ Fz H) } _ ⟨λρ' q=>?_,λ_ _ q=>q,λ_ q=>q,λ_ q=>q⟩ h⟩;intro σ' Fz' H' s oi R';exact⟨ρ',Fz',R',h2.mono ρ' _ _ (zcf s oi) q⟩
noncomputable def pRet (te:TPE):TPS:=λρ O=>te ρ λd k=>O.rt d (match k with | .frz=>.frz | _=>.new)
theorem zan (he:PuE X e te):PuS X (.Return (some e) pos) (pRet te) where
 mono ρ O O' m h:=he.mono ρ _ _ (λ_ _ q=>m.rt _ _ q) h
 run:=PS.weak (zrJ he.run) λD σ H h=>by
  obtain⟨ρ,Fz,R,h⟩:=h;refine⟨ρ,Fz,R,he.mono ρ _ _ (λd k q v Fz' H' p=>q v Fz' H' (.of p.ext) p.ext.al ?_) h⟩;cases k with
  | frz=>exact p.opd
  | new=>obtain⟨a,e,hn,nf,o⟩:=p.opd;exact⟨a,e,nf,o,.inr hn⟩
  | own i=>
   obtain⟨h1,h2⟩:=p.opd;obtain⟨a,e,nf,o⟩:=(R.ext p.ext).own i d h1;rw[h2]at e;cases e;exact⟨a,rfl,nf,o,.inl ⟨i,d,h1,h2⟩⟩
noncomputable def pIf (c:TPT)(t u:TPS):TPS:=λρ O=>c ρ λb=>if b=true then Hold t O ρ else Hold u O ρ
theorem zbQ {c:Expr}{a b:List Stmt}{tc:TPT}(hc:PuT X c tc)(ha:PuSs X a t)(hb:PuSs X b u):PuS X (.If c a b pos) (pIf tc t u) where
 mono ρ O O' m h:=hc.mono ρ _ _ (λd q=>by
  cases d with
  | true=>rw[if_pos rfl]at q ⊢;exact ha.mono ρ _ _ m q
  | false=>rw[if_neg Xo]at q ⊢;exact hb.mono ρ _ _ m q) h
 run:=PS.weak (ztE hc.run ha.run hb.run) λD σ H h=>by
  obtain⟨ρ,Fz,R,h⟩:=h;refine⟨ρ,Fz,R,hc.mono ρ _ _ (λd q Fz' H' x=>?_) h⟩;cases d with
  | true=>
   rw[if_pos rfl]at q ⊢;exact⟨ρ,Fz',R.ext x,ha.mono ρ _ _ (zcf (.of x) (zaC.refl ρ σ H)) q⟩
  | false=>
   rw[if_neg Xo]at q ⊢;exact⟨ρ,Fz',R.ext x,hb.mono ρ _ _ (zcf (.of x) (zaC.refl ρ σ H)) q⟩
noncomputable def zdl (i:Nat)(ρ:PEnv):PEnv:=match ρ[i]? with
 | some (some (d,true))=>ρ.set i (some (d,false))
 | _=>ρ
noncomputable def pFrz (i:Nat)(t:TPS):TPS:=λρ O=>t (zdl i ρ) O
end
section
variable {K:Xa}{Fz:FZ}{ρ:PEnv}{σ:St}{H:Hp}
theorem Rel.set {i:Nat}{d:PV}{v:V}(R:Rel K Fz ρ σ H)(h:Den K Fz H d v):Rel K Fz (ρ.set i (some (d,false))) (σ.set i (some v)) H where
 al:=R.al
 len:=by rw[Ya,Ya];exact R.len
 frz j e he:=by
  by_cases hij:i=j
  ·subst hij;by_cases hi:i<ρ.length
   ·rw[Xl hi]at he;cases he;exact⟨v,by rw[Xl (by rw[<- R.len];exact hi)],h⟩
   ·rw[XF (by lia),XC (by lia)]at he;cases he
  ·rw[Xh hij]at he ⊢;exact R.frz j e he
 own j e he:=by
  by_cases hij:i=j
  ·subst hij;by_cases hi:i<ρ.length
   ·rw[Xl hi]at he;cases he
   ·rw[XF (by lia),XC (by lia)]at he;cases he
  ·rw[Xh hij]at he ⊢;exact R.own j e he
 inj j k d' e a h1 h2 h3 h4:=by
  have nj:i≠j:=λz=>by
   subst z;by_cases hi:i<ρ.length
   ·rw[Xl hi]at h1;cases h1
   ·rw[XF (by lia),XC (by lia)]at h1;cases h1
  have nk:i≠k:=λz=>by
   subst z;by_cases hi:i<ρ.length
   ·rw[Xl hi]at h2;cases h2
   ·rw[XF (by lia),XC (by lia)]at h2;cases h2
  rw[Xh nj]at h1 h3;rw[Xh nk]at h2 h4;exact R.inj j k d' e a h1 h2 h3 h4
theorem zjg {i:Nat}{d:PV}{v:V}:∀b,zbh (ρ.set i (some (d,false))) (σ.set i (some v)) b->zbh ρ σ b:=λb ⟨j,e,h1,h2⟩=>by
 have nj:i≠j:=λz=>by
  subst z;by_cases hi:i<ρ.length
  ·rw[Xl hi]at h1;cases h1
  ·rw[XF (by lia),XC (by lia)]at h1;cases h1
 rw[Xh nj]at h1 h2;exact⟨j,e,h1,h2⟩
theorem Rel.zst {i:Nat}{d:PV}{a:Addr}(R:Rel K Fz ρ σ H)(nf:¬ Fz a)(h:Own K Fz H d a)(hno:¬ zbh ρ σ a):Rel K Fz (ρ.set i (some (d,true))) (σ.set i (some (.ref a))) H where
 al:=R.al
 len:=by rw[Ya,Ya];exact R.len
 frz j e he:=by
  by_cases hij:i=j
  ·subst hij;by_cases hi:i<ρ.length
   ·rw[Xl hi]at he;cases he
   ·rw[XF (by lia),XC (by lia)]at he;cases he
  ·rw[Xh hij]at he ⊢;exact R.frz j e he
 own j e he:=by
  by_cases hij:i=j
  ·subst hij;by_cases hi:i<ρ.length
   ·rw[Xl hi]at he;cases he;exact⟨a,by rw[Xl (by rw[<- R.len];exact hi)],nf,h⟩
   ·rw[XF (by lia),XC (by lia)]at he;cases he
  ·rw[Xh hij]at he ⊢;exact R.own j e he
 inj j k d' e b h1 h2 h3 h4:=by
  by_cases hj:i=j
  ·by_cases hk:i=k
   ·rw[<- hj,<- hk]
   ·subst hj;rw[Xh hk]at h2 h4;by_cases hi:i<σ.length
    ·rw[Xl hi]at h3;cases h3;exact absurd ⟨k,e,h2,h4⟩ hno
    ·rw[XF (by lia),XC (by lia)]at h3;cases h3
  ·by_cases hk:i=k
   ·subst hk;rw[Xh hj]at h1 h3;by_cases hi:i<σ.length
    ·rw[Xl hi]at h4;cases h4;exact absurd ⟨j,d',h1,h3⟩ hno
    ·rw[XF (by lia),XC (by lia)]at h4;cases h4
   ·rw[Xh hj]at h1 h3;rw[Xh hk]at h2 h4;exact R.inj j k d' e b h1 h2 h3 h4
theorem zlb {i:Nat}{d:PV}{a:Addr}:∀b,zbh (ρ.set i (some (d,true))) (σ.set i (some (.ref a))) b->b=a\/zbh ρ σ b:=λb ⟨j,e,h1,h2⟩=>by
 by_cases hij:i=j
 ·subst hij;by_cases hi:i<σ.length
  ·rw[Xl hi]at h2;cases h2;exact .inl rfl
  ·rw[XF (by lia),XC (by lia)]at h2;cases h2
 ·rw[Xh hij]at h1 h2;exact .inr ⟨j,e,h1,h2⟩
theorem Rel.frozen {i:Nat}(R:Rel K Fz ρ σ H):∃Fz',Rel K Fz' (zdl i ρ) σ H/\Step ρ σ Fz H Fz' H/\zaC ρ σ H (zdl i ρ) σ:=by
 unfold zdl;split
 ·rename_i d he
  obtain⟨a,e,nf,o⟩:=R.own i d he;have R2:Rel K (λb=>Fz b\/b=a) (ρ.set i (some (d,false))) (σ.set i (some (.ref a))) H:=by
   have hno:∀j d',i≠j->ρ[j]? = some (some (d',true))->σ[j]?≠some (some (.ref a)):=λj d' hne h1 h2=>hne (R.inj i j d d' a he h1 e h2);have hal:∀b,(Fz b\/b=a)->H b≠none:=λb hb=>by
    rcases hb with hb | rfl
    ·exact R.al b hb
    ·obtain⟨o',q,_⟩:=o.at;rw[q];exact λz=>nomatch z
   refine⟨hal,by rw[Ya,Ya];exact R.len,λj e' he'=>?_,λj e' he'=>?_,λj k d' e' b h1 h2 h3 h4=>?_⟩
   ·by_cases hij:i=j
    ·subst hij;have hi:i<ρ.length:=(Xd.mp he).1;rw[Xl hi]at he';cases he';exact⟨_,by rw[Xl (by rw[<- R.len];exact hi)],(o.mono (Fz':=λb=>Fz b\/b=a) (Keep.of (Same.refl _)) (λ_ h=>.inl h) (λ_ h=>h)).den (.inr rfl)⟩
    ·rw[Xh hij]at he' ⊢;obtain⟨v,q1,q2⟩:=R.frz j e' he';exact⟨v,q1,Den.mono (Keep.of (Same.refl _)) (λ_ h=>.inl h) _ _ q2⟩
   ·have hij:i≠j:=λz=>by
     subst z;have hi:i<ρ.length:=(Xd.mp he).1;rw[Xl hi]at he';cases he'
    rw[Xh hij]at he' ⊢;obtain⟨b,q1,q2,q3⟩:=R.own j e' he';refine⟨b,q1,λz=>?_,q3.mono (Keep.of (Same.refl _)) (λ_ h=>.inl h) (λ_ h=>h)⟩;rcases z with z | z
    ·exact q2 z
    ·subst z;exact hno j e' hij he' q1
   ·have hi:i<ρ.length:=(Xd.mp he).1;have nj:i≠j:=λz=>by subst z;rw[Xl hi]at h1;cases h1
    have nk:i≠k:=λz=>by subst z;rw[Xl hi]at h2;cases h2
    rw[Xh nj]at h1 h3;rw[Xh nk]at h2 h4;exact R.inj j k d' e' b h1 h2 h3 h4
  have es:σ.set i (some (.ref a))=σ:=List.ext_getElem? λj=>by
   by_cases hij:i=j
   ·subst hij;rw[Xl (Xd.mp e).1,e]
   ·rw[Xh hij]
  refine⟨λb=>Fz b\/b=a,by rw[es]at R2;exact R2,⟨λ_ h=>.inl h,λb hb=>?_,λb o e _=>e⟩,λb hb=>?_⟩
  ·rcases hb with hb | rfl
   ·exact .inl hb
   ·exact .inr (.inr ⟨i,d,he,e⟩)
  ·have:=zjg (ρ:=ρ) (σ:=σ) (i:=i) (d:=d) (v:=.ref a) b (by rw[es];exact hb);exact .inl this
 ·exact⟨Fz,R,.of ⟨Same.refl H,λ_ h=>h,λ_ h=>.inl h,R.al⟩,zaC.refl ρ σ H⟩
end
section
variable {X:Cx}{st:Stmt}{sts:List Stmt}{t:TPS}
theorem zbw (i:Nat)(h:PuS X st t):PuS X st (pFrz i t) where
 mono ρ O O' m q:=h.mono _ _ _ m q
 run:=PS.weak h.run λD σ H q=>by
  obtain⟨ρ,Fz,R,q⟩:=q;obtain⟨F2,R2,s2,o2⟩:=R.frozen (i:=i);exact⟨_,F2,R2,h.mono _ _ _ (zcf s2 o2) q⟩
end
noncomputable def pSet (i:Nat)(te:TPE):TPS:=λρ O=>te ρ λd k=>match k with
 | .frz=>O.nx (ρ.set i (some (d,false)))
 | .new=>O.nx (ρ.set i (some (d,true)))
 | .own _=>False
theorem zjS {X:Cx}{e:Expr}{te:TPE}{i:Nat}(he:PuE X e te){D:Ends}{σ:St}{H:Hp}(h:zop X.K (pSet i te) D σ H):tAsg (lift X.K te) (zlD i) D σ H:=by
 obtain⟨ρ,Fz,R,h⟩:=h;refine⟨ρ,Fz,R,he.mono ρ _ _ (λd k q v Fz' H' p=>?_) h⟩;show D.nx (σ.set i (some v)) H';have R':=R.ext p.ext;cases k with
 | frz=>exact(show(zgj X.K D ρ σ Fz H).nx (ρ.set i (some (d,false))) from q) _ Fz' H' (.of p.ext) (λb hb=>.inl (zjg b hb)) (R'.set p.opd)
 | own j=>exact q.elim
 | new=>
  obtain⟨a,e,hn,nf,o⟩:=p.opd;subst e;have hno:¬ zbh ρ σ a:=λ⟨j,e,h1,h2⟩=>by
   obtain⟨b,q1,_,q2⟩:=R.own j e h1;rw[h2]at q1;cases q1;obtain⟨o',q3,_⟩:=q2.at;rw[hn]at q3;cases q3
  refine(show(zgj X.K D ρ σ Fz H).nx (ρ.set i (some (d,true))) from q) _ Fz' H' (.of p.ext) (λb hb=>?_) (R'.zst nf o hno);rcases zlb b hb with rfl | hb
  ·exact .inr hn
  ·exact .inl hb
theorem zid {X:Cx}{e:Expr}{te:TPE}{i:Nat}(he:PuE X e te):∀ρ O O',POut.le O O'->pSet i te ρ O->pSet i te ρ O':=λρ O O' m h=>he.mono ρ _ _ (λd k q=>by
 cases k with
 | frz=>exact m.nx _ q
 | new=>exact m.nx _ q
 | own j=>exact q) h
section
variable {X:Cx}{e:Expr}{te:TPE}{pos:Pos}
theorem zai {i:Nat}{x:Str}{pos':Pos}(hN:X.N.Nodup)(hi:X.N[i]? = some x)(hx:Loc X.env.scope x)(he:PuE X e te)(hs:autoParam (swapsWith e (some (.Name x pos')) pos.line X.env=pure false) aU0)(hf:autoParam (X.fn x=true\/X.env.scope.names.lookup x=some .local) aU5) :
  PuS X (.Assign [.Name x pos'] e pos) (pSet i te):=
 ⟨zid he,PS.weak (zhE hN hi hx he.run hs hf) λ_ _ _ h=>zjS he h⟩
end
noncomputable abbrev TPG:=PV->PEnv->(PEnv->Prop)->Prop
noncomputable abbrev TPGs:=List PV->PEnv->(PEnv->Prop)->Prop
noncomputable def zmv (K:Xa)(t:TPG):TG:=λv σ H Q=>∃ρ Fz d,Rel K Fz ρ σ H/\Den K Fz H d v/\t d ρ λρ'=>∀σ',Rel K Fz ρ' σ' H->(∀b,zbh ρ' σ' b->zbh ρ σ b)->Q σ' H
noncomputable def zsu (K:Xa)(t:TPGs):TGs:=λvs σ H Q=>∃ρ Fz ds,Rel K Fz ρ σ H/\DenL K Fz H ds vs/\t ds ρ λρ'=>∀σ',Rel K Fz ρ' σ' H->(∀b,zbh ρ' σ' b->zbh ρ σ b)->Q σ' H
structure PuG (X:Cx)(tg:Expr)(t:TPG):Prop where
 mono:∀d ρ Q Q',(∀ρ,Q ρ->Q' ρ)->t d ρ Q->t d ρ Q'
 run:PG X tg (zmv X.K t)
structure PuGs (X:Cx)(tgs:List Expr)(t:TPGs):Prop where
 mono:∀ds ρ Q Q',(∀ρ,Q ρ->Q' ρ)->t ds ρ Q->t ds ρ Q'
 run:PGs X tgs (zsu X.K t)
theorem PG.weak {X:Cx}{e:Expr}{t t':TG}(h:PG X e t)(w:∀v σ H Q,t' v σ H Q->t v σ H Q):PG X e t':=λpins s σ H v u Q I r q=>h pins s σ H v u Q I r (w v σ H Q q)
theorem PGs.weak {X:Cx}{e:List Expr}{t t':TGs}(h:PGs X e t)(w:∀v σ H Q,t' v σ H Q->t v σ H Q):PGs X e t':=λpins s σ H v u Q I r q=>h pins s σ H v u Q I r (w v σ H Q q)
noncomputable def zaZ (i:Nat):TPG:=λd ρ Q=>Q (ρ.set i (some (d,false)))
noncomputable def zdc:TPGs:=λds ρ Q=>ds=[]/\Q ρ
noncomputable def zbg (t:TPG)(u:TPGs):TPGs:=λds ρ Q=>∃d r,ds=d::r/\t d ρ λρ'=>u r ρ' Q
noncomputable def zdd (n:Nat)(t:TPGs):TPG:=λd ρ Q=>∃ds,d=.tup ds/\ds.length=n/\t ds ρ Q
section
variable {X:Cx}{pos:Pos}
theorem zak {i:Nat}{x:Str}(hN:X.N.Nodup)(hi:X.N[i]? = some x)(hx:Loc X.env.scope x)(hf:autoParam (X.fn x=true\/X.env.scope.names.lookup x=some .local) aU5):PuG X (.Name x pos) (zaZ i) where
 mono d ρ Q Q' m h:=m _ h
 run:=PG.weak (zpU hN hi hx hf) λv σ H Q h=>by
  obtain⟨ρ,Fz,d,R,hd,h⟩:=h;exact h _ (R.set hd) (λb hb=>zjg b hb)
theorem zcp:PuGs X [] zdc where
 mono d ρ Q Q' m h:=⟨h.1,m _ h.2⟩
 run:=PGs.weak zpV λv σ H Q h=>by
  obtain⟨ρ,Fz,ds,R,hd,e,h⟩:=h;subst e;simp only[DenL]at hd;exact⟨hd,h σ R (λ_ h=>h)⟩
theorem zaB {e:Expr}{es:List Expr}{t:TPG}{u:TPGs}(h1:PuG X e t)(h2:PuGs X es u)
  (hs:autoParam ((assignEach (e::es) X.env).map (·.2)=assign e X.env::(assignEach es X.env).map (·.2)) aU0):PuGs X (e::es) (zbg t u) where
 mono ds ρ Q Q' m h:=by
  obtain⟨d,r,e,h⟩:=h;exact⟨d,r,e,h1.mono d ρ _ _ (λρ' q=>h2.mono r ρ' _ _ m q) h⟩
 run:=PGs.weak (znS h1.run h2.run hs) λvs σ H Q h=>by
  obtain⟨ρ,Fz,ds,R,hd,d,r,e,h⟩:=h;subst e;simp only[DenL]at hd;obtain⟨v,rs,e,d1,d2⟩:=hd;subst e;refine⟨v,rs,rfl,ρ,Fz,d,R,d1,h1.mono d ρ _ _ (λρ' q σ' R' o'=>?_) h⟩;exact⟨ρ',Fz,r,R',d2,h2.mono r ρ' _ _ (λρ2 q σ2 R2 o2=>q σ2 R2 (λb hb=>o' b (o2 b hb))) q⟩
theorem zdm {es:List Expr}{k:Nat}{t:TPGs}{n:Nat}(hc:X.calm=true)(h:PuGs X es t)
  (hn:autoParam ((assignEach es X.env).length=n) aU0) (hst:autoParam ((assignEach es X.env).findIdx? (·.1)=none) aU0):PuG X (.Tuple es k pos) (zdd n t) where
 mono d ρ Q Q' m q:=by
  obtain⟨ds,e,l,q⟩:=q;exact⟨ds,e,l,h.mono ds ρ _ _ m q⟩
 run:=PG.weak (zrK hc h.run hn hst) λv σ H Q q=>by
  obtain⟨ρ,Fz,d,R,hd,ds,e,l,q⟩:=q;subst e;simp only[Den]at hd;obtain⟨a,xs,e,h1,h2⟩:=hd;have hl:=h2.length;exact⟨a,xs,e,SqT.of h1,by lia,ρ,Fz,ds,R,h2,q⟩
end
noncomputable def LocG (k:Nat)(t:TPG):Prop:=∀d ρ Q,t d ρ Q->t d ρ λρ'=>Q ρ'/\ρ'.length=ρ.length/\∀j,k<=j->ρ'[j]? = ρ[j]?
noncomputable def zsv (k:Nat)(t:TPGs):Prop:=∀d ρ Q,t d ρ Q->t d ρ λρ'=>Q ρ'/\ρ'.length=ρ.length/\∀j,k<=j->ρ'[j]? = ρ[j]?
theorem zaM {k i:Nat}(h:i<k):LocG k (zaZ i):=λd ρ Q q=>⟨q,by rw[Ya],λj hj=>by rw[Xh (by lia)]⟩
theorem zqF {k n:Nat}{t:TPGs}(h:zsv k t):LocG k (zdd n t):=λd ρ Q q=>by
 obtain⟨ds,e,l,q⟩:=q;exact⟨ds,e,l,h ds ρ _ q⟩
noncomputable def pUnp (te:TPE)(g:TPG):TPS:=λρ O=>te ρ λd k=>k=.frz/\g d ρ λρ'=>O.nx ρ'
theorem zqG {X:Cx}{tg e:Expr}{te:TPE}{g:TPG}{pos:Pos}(he:PuE X e te)(hg:PuG X tg g)(hs:autoParam (swapsWithSole [tg] e pos.line X.env=pure false) aU0)(hw:autoParam (swappedStores [tg] e X.env=pure none) aU0)
  (h1:autoParam ((assignEach [tg] X.env).map (·.2)=[assign tg X.env]) aU0):PuS X (.Assign [tg] e pos) (pUnp te g) where
 mono ρ O O' m h:=he.mono ρ _ _ (λd k q=>⟨q.1,hg.mono d ρ _ _ (λρ' q=>m.nx _ q) q.2⟩) h
 run:=PS.weak (zlE he.run hg.run hs hw h1) λD σ H h=>by
  obtain⟨ρ,Fz,R,h⟩:=h;refine⟨ρ,Fz,R,he.mono ρ _ _ (λd k q v Fz' H' p=>?_) h⟩;obtain⟨rfl,q⟩:=q;exact⟨ρ,Fz',d,R.ext p.ext,p.opd,hg.mono d ρ _ _ (λρ' q σ' R' o'=>q σ' Fz' H' (.of p.ext) (λb hb=>.inl (o' b hb)) R') q⟩
noncomputable abbrev TPI:=PEnv->(List PV->Bool->Prop)->Prop
noncomputable def Walk (K:Xa)(Fz:FZ)(o:Bool)(J:It)(its:List PV)(H:Hp):Prop:=∀H2,(Same H H2\/(o=false/\zkY Fz H H2))->∀i:Nat,
 (∀d,its[i]? = some d->J.go i H2/\∀x H3,J.yld i H2 x H3->Same H2 H3/\Den K Fz H3 d x)/\(its.length<=i->J.stop i H2)
noncomputable def zsw (K:Xa)(t:TPI):TI:=λσ H R=>∃ρ Fz,Rel K Fz ρ σ H/\t ρ λits o=>∀J Fz' H',Ext Fz H Fz' H'->Walk K Fz' o J its H'->R J H'
structure PuI (X:Cx)(tg iter:Expr)(t:TPI):Prop where
 mono:∀ρ Q Q',(∀its o,Q its o->Q' its o)->t ρ Q->t ρ Q'
 run:PI X tg iter (zsw X.K t)
theorem PI.weak {X:Cx}{tg e:Expr}{t t':TI}(h:PI X tg e t)(w:∀σ H Q,t' σ H Q->t σ H Q):PI X tg e t':=λpins s σ H Q I q=>h pins s σ H Q I (w σ H Q q)
noncomputable def isOwn:Kd->Bool
 | .own _=>true
 | _=>false
noncomputable def iLst (te:TPE):TPI:=λρ Q=>te ρ λd k=>∃ds,d=.lst ds/\Q ds (isOwn k)
noncomputable def zer (te:TPE):TPI:=λρ Q=>te ρ λd k=>∃ds,d=.tup ds/\Q ds false
section
variable {X:Cx}{tg e:Expr}{te:TPE}
theorem zaN (he:PuE X e te):PuI X tg e (iLst te) where
 mono ρ Q Q' m h:=he.mono ρ _ _ (λd k q74q=>by obtain⟨ds,e,q⟩:=q74q;exact⟨ds,e,m _ _ q⟩) h
 run:=PI.weak (zpX he.run) λσ H Rr h=>by
  obtain⟨ρ,Fz,R,h⟩:=h;refine⟨ρ,Fz,R,he.mono ρ _ _ (λd k q v Fz' H' p=>?_) h⟩;obtain⟨ds,e,q⟩:=q;subst e;have rt:=p.root R;obtain⟨a,xs,rfl,h1,h2⟩:=zat rt;refine⟨a,rfl,⟨xs,h1⟩,?_⟩;have walk:∀(F2:FZ) (o:Bool),(∀b,Fz' b->F2 b)->(∀H2,(Same H' H2\/(o=false/\zkY F2 H' H2))->SqL X.K H2 a xs/\Keep F2 H' H2)->Walk X.K F2 o (Itl X.K a) ds H':=λF2 o s2 st H2 hH i=>by
   obtain⟨g1,g2⟩:=st H2 hH;have g3:DenL X.K F2 H2 ds xs:=DenL.mono g2 (λ_ h=>h) _ _ (DenL.mono (Keep.of (Same.refl _)) s2 _ _ h2);have hl:=g3.length;refine⟨λd hd=>?_,λhi=>⟨xs,g1,by lia⟩⟩;obtain⟨v,q1,q2⟩:=g3.get hd;exact⟨⟨xs,v,g1,q1⟩,λx H3 ⟨e,y⟩=>by
    subst e;have:=y xs g1;rw[q1]at this;cases this;exact⟨Same.refl _,q2⟩⟩
  cases k with
  | own i=>exact q _ Fz' H' p.ext (walk Fz' true (λ_ h=>h) λH2 hH=>by
    rcases hH with hH | ⟨z,_⟩
    ·exact⟨hH.seq h1,.of hH⟩
    ·cases z)
  | frz=>
   have pd:Den X.K Fz' H' (.lst ds) (.ref a):=p.opd;simp only[Den]at pd;obtain⟨a',xs',e,h3,h4⟩:=pd;cases e;refine q _ Fz' H' p.ext ?_;intro H2 hH i;have kp:Keep Fz' H' H2:=hH.elim (λz=>.of z) (λz=>.mk' z.2);have g1:SqL X.K H2 a xs':=h3.elim (λh=>.inl (kp.rd trivial h.1 h.2)) KX.sq;have g3:DenL X.K Fz' H2 ds xs':=DenL.mono kp (λ_ h=>h) _ _ h4;have hl:=g3.length;refine⟨λd hd=>?_,λhi=>⟨xs',g1,by lia⟩⟩;obtain⟨v,q1,q2⟩:=g3.get hd;exact⟨⟨xs',v,g1,q1⟩,λx H3 ⟨e,y⟩=>by
    subst e;have:=y xs' g1;rw[q1]at this;cases this;exact⟨Same.refl _,q2⟩⟩
  | new=>
   obtain⟨b,e,hn,nf,o⟩:=p.opd;cases e;obtain⟨xs',o1,o2⟩:=o;refine q _ (λb=>Fz' b\/b=a) H' (p.ext.add hn (by rw[o1];exact λz=>nomatch z)) ?_;intro H2 hH i;have kp:Keep (λb=>Fz' b\/b=a) H' H2:=hH.elim (λz=>.of z) (λz=>.mk' z.2);have g1:SqL X.K H2 a xs':=.inl (kp.rd trivial (.inr rfl) (.inl o1));have g3:DenL X.K (λb=>Fz' b\/b=a) H2 ds xs':=DenL.mono kp (λ_ h=>h) _ _ (DenL.mono (Keep.of (Same.refl _)) (λ_ h=>.inl h) _ _ o2);have hl:=g3.length;refine⟨λd hd=>?_,λhi=>⟨xs',g1,by lia⟩⟩;obtain⟨v,q1,q2⟩:=g3.get hd;exact⟨⟨xs',v,g1,q1⟩,λx H3 ⟨e,y⟩=>by
    subst e;have:=y xs' g1;rw[q1]at this;cases this;exact⟨Same.refl _,q2⟩⟩
theorem zhb (he:PuE X e te):PuI X tg e (zer te) where
 mono ρ Q Q' m h:=he.mono ρ _ _ (λd k q78q=>by obtain⟨ds,e,q⟩:=q78q;exact⟨ds,e,m _ _ q⟩) h
 run:=PI.weak (zrM he.run) λσ H Rr h=>by
  obtain⟨ρ,Fz,R,h⟩:=h;refine⟨ρ,Fz,R,he.mono ρ _ _ (λd k q v Fz' H' p=>?_) h⟩;obtain⟨ds,e,q⟩:=q;subst e;obtain⟨a,xs,rfl,h1,h2⟩:=zfG (p.root R);refine⟨a,rfl,⟨xs,SqT.of h1⟩,q _ Fz' H' p.ext ?_⟩;intro H2 hH i;have kp:Keep Fz' H' H2:=hH.elim (λz=>.of z) (λz=>.mk' z.2);have g1:SqT X.K H2 a xs:=kp.sqT h1;have g3:DenL X.K Fz' H2 ds xs:=DenL.mono kp (λ_ h=>h) _ _ h2;have hl:=g3.length;refine⟨λd hd=>?_,λhi=>⟨xs,g1,by lia⟩⟩;obtain⟨v,q1,q2⟩:=g3.get hd;exact⟨⟨xs,v,g1,q1⟩,λx H3 ⟨e,y⟩=>by
   subst e;have:=y xs g1;rw[q1]at this;cases this;exact⟨Same.refl _,q2⟩⟩
end
noncomputable def rngP (lo:Int)(n:Nat):List PV:=(Xs n).map λ(i:Nat)=>PV.int (lo+i)
theorem zbe (lo:Int)(n:Nat):(rngP lo n).length=n:=by simp[rngP]
theorem zbL {lo:Int}{n i:Nat}{d:PV}(h:(rngP lo n)[i]? = some d):i<n/\d=.int (lo+i):=by
 have hi:i<n:=by have:=(Xd.mp h).1;rw[zbe]at this;exact this
 refine⟨hi,?_⟩;unfold rngP at h;rw[Xi,Yu hi]at h;exact(Option.some.inj h).symm
noncomputable def zbm (t:TPA):TPI:=λρ Q=>t ρ λops=>∃j:Int,ops.map (·.1)=[.int j]/\-(2 ^ 62)<=j/\j<2 ^ 62/\Q (rngP 0 j.toNat) false
theorem zor {K:Xa}{Fz:FZ}{lo:Int}{n:Nat}{H:Hp}:Walk K Fz false (Itr lo n) (rngP lo n) H:=λH2 _ i=>by
 refine⟨λd hd=>?_,λhi=>by rw[zbe]at hi;exact hi⟩;obtain⟨h1,rfl⟩:=zbL hd;exact⟨h1,λx H3 q80q=>by obtain⟨e,y⟩:=q80q;subst e y;exact⟨Same.refl _,by simp only[Den]⟩⟩
section
variable {X:Cx}{tg a b:Expr}{t:TPA}{p pos:Pos}
theorem zaP (hg:Gl X "range") (hm:X.mg "range" = none) (ha:PuA X [a] t) (hs:autoParam (starEach [a] X.env=[(false,eval a X.env)]) aU0):PuI X tg (.Call (.Name "range" p) [a] [] pos) (zbm t) where
 mono ρ Q Q' m h:=ha.mono ρ _ _ (λops q81q=>by obtain⟨j,e,h1,h2,q⟩:=q81q;exact⟨j,e,h1,h2,m _ _ q⟩) h
 run:=PI.weak (zlG hg hm ha.run hs) λσ H Rr h=>by
  obtain⟨ρ,Fz,R,h⟩:=h;refine⟨ρ,Fz,R,ha.mono ρ _ _ (λops q vs Fz' H' x o=>?_) h⟩;obtain⟨j,e,h1,h2,q⟩:=q;have rl:=o.root R x;rw[e]at rl;cases rl with
  | cons r1 r2=>
   cases r2;exact⟨j,by rw[zay r1],h1,h2,q _ Fz' H' x zor⟩
end
noncomputable def pFor (ti:TPI)(g:TPG)(tb:TPS):TPS:=λρ O=>ti ρ λits o=>o=false/\∃Inv:Nat->PEnv->Prop,Inv 0 ρ/\
 (∀i d ρ',its[i]? = some d->Inv i ρ'->g d ρ' (Hold tb { O with nx:=Inv (i+1),ct:=Inv (i+1),bk:=O.nx }))/\∀ρ',Inv its.length ρ'->O.nx ρ'
noncomputable def zcg (c:TPT)(tb:TPS):TPS:=λρ O=>∃Inv:Nat->PEnv->Prop,(∃m,Inv m ρ)/\∀m ρ',Inv m ρ'->zss c ρ' λb=>if b=true
 then Hold tb { O with nx:=λρ2=>∃m',m'<m/\Inv m' ρ2,ct:=λρ2=>∃m',m'<m/\Inv m' ρ2,bk:=O.nx } ρ' else O.nx ρ'
theorem Step.kept {K:Xa}{ρ:PEnv}{σ:St}{Fz Fz':FZ}{H H':Hp}(R:Rel K Fz ρ σ H)(s:Step ρ σ Fz H Fz' H'):zkY Fz H H':=λb o e w=>by
 refine s.keep b o e λ q82q=>?_;obtain⟨i,d,h1,h2⟩:=q82q;obtain⟨a,q1,q2,q3⟩:=R.own i d h1;rw[h2]at q1;cases q1;rcases w with w | w
 ·exact q2 w
 ·obtain⟨o',q4,q5⟩:=q3.at;rw[e]at q4;cases q4;exact q5 w
section
variable {X:Cx}{tg iter c:Expr}{body:List Stmt}{ti:TPI}{g:TPG}{tb:TPS}{tc:TPT}{pos:Pos}
theorem zhc (hgm:∀d ρ Q Q',(∀ρ,Q ρ->Q' ρ)->g d ρ Q->g d ρ Q')(hbm:∀ρ O O',POut.le O O'->tb ρ O->tb ρ O'){K:Xa}{ρ:PEnv}{σ:St}{Fz1:FZ}{H1:Hp}{D:Ends}{J:It}{its:List PV}{O:POut}(R1:Rel K Fz1 ρ σ H1)(wk:Walk K Fz1 false J its H1)(Iv:Nat->PEnv->Prop)(h0:Iv 0 ρ)
  (hstep:∀i d ρ',its[i]? = some d->Iv i ρ'->g d ρ' (Hold tb { O with nx:=Iv (i+1),ct:=Iv (i+1),bk:=O.nx })) (hO:O.le (zgj K D ρ σ Fz1 H1)) (hdone:∀ρ',Iv its.length ρ'->O.nx ρ') :
  ∃W:Nat->Nat->St->Hp->Prop,(∃m,W 0 m σ H1)/\∀i m σ H,W i m σ H->
   (J.stop i H/\D.nx σ H)\/(J.go i H/\∃N:St->Hp->Prop,(∀σ' H',N σ' H'->∃m',m'<m/\W (i+1) m' σ' H')/\∀x H',J.yld i H x H'->zmv K g x σ H' λσ2 H2=>zop K tb { D with nx:=N,ct:=N,bk:=D.nx } σ2 H2):=by
 refine⟨λi m σ' H'=>m=its.length-i/\i<=its.length/\∃ρ' F',Rel K F' ρ' σ' H'/\Iv i ρ'/\Step ρ σ Fz1 H1 F' H'/\zaC ρ σ H1 ρ' σ',
  ⟨its.length,by lia,Yh _,ρ,Fz1,R1,h0,.of ⟨Same.refl _,λ_ h=>h,λ_ h=>.inl h,R1.al⟩,zaC.refl ρ σ H1⟩,?_⟩
 rintro i m σ' H' ⟨rfl,hle,ρ',F',R',hI,s',o'⟩;have kp:zkY Fz1 H1 H':=s'.kept R1;obtain⟨wgo,wstop⟩:=wk H' (.inr ⟨rfl,kp⟩) i;by_cases hlt:i<its.length
 ·obtain⟨go,yl⟩:=wgo its[i] (Xf hlt);refine .inr ⟨go,λσ2 H2=>∃ρ2 F2,Rel K F2 ρ2 σ2 H2/\Iv (i+1) ρ2/\Step ρ σ Fz1 H1 F2 H2/\zaC ρ σ H1 ρ2 σ2,λσ2 H2 hN=>⟨its.length-(i+1),by lia,rfl,hlt,hN⟩,λxv H2 y=>?_⟩;obtain⟨sm,dn⟩:=yl xv H2 y;have x2:Ext F' H' F' H2:=⟨sm,λ_ h=>h,λ_ h=>.inl h,λb hb z=>R'.al b hb (sm.free z)⟩;refine⟨ρ',F',its[i],R'.ext x2,Den.mono (Keep.of (Same.refl _)) s'.sub _ _ dn,hgm _ ρ' _ _ (λρ2 q σ2 R2 o2=>?_) (hstep i its[i] ρ' (Xf hlt) hI)⟩;have so:zaC ρ σ H1 ρ2 σ2:=λb hb=>o' b (o2 b hb);have st:Step ρ σ Fz1 H1 F' H2:=s'.trans o' (.of x2);refine⟨ρ2,F',R2,hbm ρ2 { O with nx:=Iv (i+1),ct:=Iv (i+1),bk:=O.nx } _ ⟨λρ3 q σ3 F3 H3 s3 o3 R3=>?_,λd k q v F3 H3 s3 al r=>?_,λρ3 q σ3 F3 H3 s3 o3 R3=>?_,λρ3 q σ3 F3 H3 s3 o3 R3=>?_⟩ q⟩
  ·exact⟨ρ3,F3,R3,q,st.trans so s3,zaC.trans st so o3⟩
  ·refine hO.rt d k q v F3 H3 (st.trans so s3) al ?_;cases k with
   | frz=>exact r
   | own j=>exact r
   | new=>
    obtain⟨a,e,nf,ow,w⟩:=r;refine⟨a,e,nf,ow,?_⟩;rcases w with w | w
    ·exact so a w
    ·exact(st.none w).symm
  ·exact hO.nx ρ3 q σ3 F3 H3 (st.trans so s3) (zaC.trans st so o3) R3
  ·exact⟨ρ3,F3,R3,q,st.trans so s3,zaC.trans st so o3⟩
 ·have e:i=its.length:=by lia
  subst e;exact .inl ⟨wstop (Xg _),hO.nx ρ' (hdone ρ' hI) σ' F' H' s' o' R'⟩
theorem zie (him:∀ρ Q Q',(∀its o,Q its o->Q' its o)->ti ρ Q->ti ρ Q')(hgm:∀d ρ Q Q',(∀ρ,Q ρ->Q' ρ)->g d ρ Q->g d ρ Q')(hbm:∀ρ O O',POut.le O O'->tb ρ O->tb ρ O'):∀ρ O O',POut.le O O'->pFor ti g tb ρ O->pFor ti g tb ρ O':=λρ O O' m h=>
 him ρ _ _ (λits o q83q=>by obtain⟨e,I,h0,hs,hd⟩:=q83q;exact⟨e,I,h0,λi d ρ' hi hI=>hgm d ρ' _ _ (λρ2 q=>hbm ρ2 { O with nx:=I (i+1),ct:=I (i+1),bk:=O.nx } _ ⟨λ_ q=>q,m.rt,m.nx,λ_ q=>q⟩ q) (hs i d ρ' hi hI),λρ' hI=>m.nx _ (hd ρ' hI)⟩) h
theorem zaQ (hc:X.calm=true)(hp:PassesOwn (model X.prog X.w) X.A X.env X.xe)(hi:PuI X tg iter ti)(hg:PuG X tg g)(hb:PuSs X body tb)(hs:autoParam (∀x,foldedSetIterable iter X.env x=pure x) aU3):PuS X (.For tg iter body [] pos) (pFor ti g tb) where
 mono:=zie hi.mono hg.mono hb.mono
 run:=PS.weak (zpl hp hc hi.run hg.run hb.run hs) λD σ H h=>by
  obtain⟨ρ,Fz,R,h⟩:=h;refine⟨ρ,Fz,R,hi.mono ρ _ _ (λits o q J Fz1 H1 x wk=>?_) h⟩;obtain⟨rfl,Iv,h0,hstep,hdone⟩:=q;exact zhc hg.mono hb.mono (R.ext x) wk Iv h0 hstep (zcf (.of x) (zaC.refl ρ σ H)) hdone
theorem zdn (hp:PassesOwn (model X.prog X.w) X.A X.env X.xe)(hc:PuT X c tc)(hb:PuSs X body tb):PuS X (.While c body [] pos) (zcg tc tb) where
 mono ρ O O' m h:=by
  obtain⟨Iv,h0,h⟩:=h;refine⟨Iv,h0,λn ρ' hI=>hc.mono ρ' _ _ (λb q=>?_) (h n ρ' hI)⟩;cases b with
  | true=>rw[if_pos rfl]at q ⊢;exact hb.mono ρ' { O with nx:=λρ2=>∃m',m'<n/\Iv m' ρ2,ct:=λρ2=>∃m',m'<n/\Iv m' ρ2,bk:=O.nx } _ ⟨λ_ q=>q,m.rt,m.nx,λ_ q=>q⟩ q
  | false=>rw[if_neg Xo]at q ⊢;exact m.nx _ q
 run:=PS.weak (zjy hp hc.run hb.run) λD σ H h=>by
  obtain⟨ρ,Fz,R,Iv,⟨m0,h0⟩,h⟩:=h;refine⟨λm σ' H'=>∃ρ' F',Rel X.K F' ρ' σ' H'/\Iv m ρ'/\Step ρ σ Fz H F' H'/\zaC ρ σ H ρ' σ',
   ⟨m0,ρ,Fz,R,h0,.of ⟨Same.refl _,λ_ h=>h,λ_ h=>.inl h,R.al⟩,zaC.refl ρ σ H⟩,?_⟩
  rintro m σ' H' ⟨ρ',F',R',hI,s',o'⟩;refine⟨ρ',F',R',hc.mono ρ' _ _ (λb q F2 H2 x2=>?_) (h m ρ' hI)⟩;have st:Step ρ σ Fz H F2 H2:=s'.trans o' (.of x2);cases b with
  | true=>
   rw[if_pos rfl]at q;refine iteT ?_;refine⟨λσ3 H3=>∃m',m'<m/\∃ρ3 F3,Rel X.K F3 ρ3 σ3 H3/\Iv m' ρ3/\Step ρ σ Fz H F3 H3/\zaC ρ σ H ρ3 σ3,λσ3 H3 hN=>hN,ρ',F2,R'.ext x2,hb.mono ρ' _ _ ⟨λρ3 q σ3 F3 H3 s3 o3 R3=>?_,λd k q v F3 H3 s3 al r=>?_,λρ3 q σ3 F3 H3 s3 o3 R3=>?_,λρ3 q σ3 F3 H3 s3 o3 R3=>?_⟩ q⟩
   ·obtain⟨m',hm,hI'⟩:=q;exact⟨m',hm,ρ3,F3,R3,hI',st.trans o' s3,zaC.trans st o' o3⟩
   ·refine q v F3 H3 (st.trans o' s3) al ?_;cases k with
    | frz=>exact r
    | own j=>exact r
    | new=>
     obtain⟨a,e,nf,ow,w⟩:=r;refine⟨a,e,nf,ow,?_⟩;rcases w with w | w
     ·exact o' a w
     ·exact(st.none w).symm
   ·exact q σ3 F3 H3 (st.trans o' s3) (zaC.trans st o' o3) R3
   ·obtain⟨m',hm,hI'⟩:=q;exact⟨m',hm,ρ3,F3,R3,hI',st.trans o' s3,zaC.trans st o' o3⟩
  | false=>
   rw[if_neg Xo]at q;exact iteF (q σ' F2 H2 st o' (R'.ext x2))
end
theorem _root_._L.Same.upd' {H H':Hp}{l:Addr}{o:HO}(s:Same H H')(h:H l=none):Same H (_L.upd H' l o):=λb u e=>by
 rw[zah (zaE e h)];exact s b u e
structure PuTs (X:Cx)(ifs:List Expr)(t:TPT):Prop where
 mono:∀ρ Q Q',(∀b,Q b->Q' b)->t ρ Q->t ρ Q'
 run:PTs X ifs (liftT X.K t)
noncomputable def zes:TPT:=λ_ Q=>Q true
theorem PTs.weak {X:Cx}{e:List Expr}{t t':TT}(h:PTs X e t)(w:∀σ H Q,t' σ H Q->t σ H Q):PTs X e t':=λpins s σ H Q I q=>h pins s σ H Q I (w σ H Q q)
theorem zaO {X:Cx}:PuTs X [] zes where
 mono ρ Q Q' m h:=m _ h
 run:=PTs.weak zqv λσ H Q h=>by
  obtain⟨ρ,Fz,R,h⟩:=h;exact h Fz H ⟨Same.refl H,λ_ h=>h,λ_ h=>.inl h,R.al⟩
theorem zos {X:Cx}{c:Expr}{t:TPT}(h:PuT X c t):PuTs X [c] t:=⟨h.mono,zqw h.run⟩
noncomputable def blkP (k:Nat)(js:List Nat)(ρ:PEnv):PEnv:=List.replicate k none++js.map λj=>(ρ[j]?).getD none
noncomputable def zcP (k:Nat)(js:List Nat)(ti:TPI)(g:TPG)(tt:TPT)(te:TPE):TPE:=λρ Q=>ti ρ λits _=>its.length<=sizeLine/\∃Pv:Nat->List PV->Prop,Pv 0 []/\
 (∀i d out,its[i]? = some d->out.length<=i->Pv i out->g d (blkP k js ρ) λρ2=>tt ρ2 λb=>if b=true then te ρ2 λe ke=>isOwn ke=false/\Pv (i+1) (out++[e]) else Pv (i+1) out)/\
 ∀out,out.length<=its.length->Pv its.length out->Q (.lst out) .new
structure PBlk (X:Cx)(N:List Str)(sc:Scope)(tg:Expr)(ifs:List Expr)(elt:Expr)(g:TPG)(tt:TPT)(te:TPE):Prop where
 tgt:∀C cells fp s H,PuG (cxB X N sc C cells fp s H) tg g
 tst:∀C cells fp s H,PuTs (cxB X N sc C cells fp s H) ifs tt
 val:∀C cells fp s H,PuE (cxB X N sc C cells fp s H) elt te
theorem PBlk.blk {X:Cx}{N:List Str}{sc:Scope}{tg:Expr}{ifs:List Expr}{elt:Expr}{g:TPG}{tt:TPT}{te:TPE}(B:PBlk X N sc tg ifs elt g tt te):Blk X N sc tg ifs elt (zmv X.K g) (liftT X.K tt) (lift X.K te):=
 ⟨λC cells fp s H=>(B.tgt C cells fp s H).run,λC cells fp s H=>(B.tst C cells fp s H).run,λC cells fp s H=>(B.val C cells fp s H).run⟩
theorem zdS {k:Nat}{js:List Nat}{ρ:PEnv}{i:Nat}{d:PV}{b:Bool}(h:(blkP k js ρ)[i]? = some (some (d,b))):∃i' j,i=k+i'/\js[i']? = some j/\ρ[j]? = some (some (d,b)):=by
 unfold blkP at h;have hik:k<=i:=by
  by_cases hik:k<=i
  ·exact hik
  ·rw[YE (by simp;lia),List.getElem?_replicate]at h;split at h<;>cases h
 obtain⟨i',rfl⟩:∃i',i=k+i':=⟨i-k,by lia⟩;rw[YA (by simp),YM,show k+i'-k=i' by lia,Xi]at h;cases hj:js[i']? with
 | none=>rw[hj]at h;cases h
 | some j=>
  rw[hj]at h;refine⟨i',j,rfl,hj,?_⟩;have h':(ρ[j]?).getD none=some (d,b):=Option.some.inj h;cases q:ρ[j]? with
  | none=>rw[q]at h';cases h'
  | some o=>rw[q]at h';exact congrArg some h'
theorem zdo {k:Nat}{js:List Nat}{σ:St}{i' j:Nat}{o:Option V}(hj:js[i']? = some j)(h:σ[j]? = some o):(zeh k js σ)[k+i']? = some o:=by
 unfold zeh;rw[YA (by simp),YM,show k+i'-k=i' by lia,Xi,hj];show some ((σ[j]?).getD none)=_;rw[h];rfl
theorem Rel.block {K:Xa}{Fz:FZ}{ρ:PEnv}{σ:St}{H:Hp}{k:Nat}{js:List Nat}(R:Rel K Fz ρ σ H)(nd:js.Nodup):Rel K Fz (blkP k js ρ) (zeh k js σ) H where
 al:=R.al
 len:=by unfold blkP zeh;simp
 frz i d h:=by
  obtain⟨i',j,rfl,hj,h⟩:=zdS h;obtain⟨v,e,q⟩:=R.frz j d h;exact⟨v,zdo hj e,q⟩
 own i d h:=by
  obtain⟨i',j,rfl,hj,h⟩:=zdS h;obtain⟨a,e,n,q⟩:=R.own j d h;exact⟨a,zdo hj e,n,q⟩
 inj i1 i2 d e a h1 h2 h3 h4:=by
  obtain⟨i',j,rfl,hj,h1⟩:=zdS h1;obtain⟨i'',j',rfl,hj',h2⟩:=zdS h2;obtain⟨a1,e1,_,_⟩:=R.own j d h1;obtain⟨a2,e2,_,_⟩:=R.own j' e h2;rw[zdo hj e1]at h3;rw[zdo hj' e2]at h4;have ea1:a1=a:=by have:=Option.some.inj (Option.some.inj h3);injection this
  have ea2:a2=a:=by have:=Option.some.inj (Option.some.inj h4);injection this
  subst ea1;subst ea2;have ej:=R.inj j j' d e _ h1 h2 e1 e2;subst ej;have l1:i'<js.length:=(Xd.mp hj).1;have e1':i'=i'':=(List.getElem?_inj l1 nd).mp (hj.trans hj'.symm);rw[e1']
theorem zqH {ρ:PEnv}{σ:St}{k:Nat}{js:List Nat}{Fz:FZ}{K:Xa}{H:Hp}(R:Rel K Fz ρ σ H){b:Addr}(h:zbh (blkP k js ρ) (zeh k js σ) b):zbh ρ σ b:=by
 obtain⟨i,d,h1,h2⟩:=h;obtain⟨i',j,rfl,hj,h1⟩:=zdS h1;obtain⟨a1,e1,_,_⟩:=R.own j d h1;rw[zdo hj e1]at h2;cases h2;exact⟨j,d,h1,e1⟩
theorem Rel.zmw {K:Xa}{Fz:FZ}{ρ ρ':PEnv}{σ:St}{H:Hp}{k:Nat}{js:List Nat}(R:Rel K Fz ρ' σ H)(hl:ρ'.length=(blkP k js ρ).length)(hs:∀j,k<=j->ρ'[j]? = (blkP k js ρ)[j]?):Rel K Fz (blkP k js ρ) σ H:=by
 have tr:∀i d b,(blkP k js ρ)[i]? = some (some (d,b))->ρ'[i]? = some (some (d,b)):=λi d b h=>by
  obtain⟨i',j,rfl,_⟩:=zdS h;rw[hs _ (by lia)];exact h
 exact⟨R.al,by rw[<- hl];exact R.len,λi d h=>R.frz i d (tr _ _ _ h),λi d h=>R.own i d (tr _ _ _ h),λi j d e a h1 h2=>R.inj i j d e a (tr _ _ _ h1) (tr _ _ _ h2)⟩
theorem Rel.other {K:Xa}{Fz:FZ}{ρ:PEnv}{σ:St}{H:Hp}{l:Addr}{o u:HO}(R:Rel K Fz ρ σ H)(h:H l=some u)(hi:¬ Imm u)(nf:¬ Fz l)(no:¬ zbh ρ σ l):Rel K Fz ρ σ (upd H l o):=by
 have kp:Keep Fz H (upd H l o):=.mk' λb w e hw=>by
  have ne:b≠l:=λz=>by
   subst z;rcases hw with hw | hw
   ·exact nf hw
   ·rw[h]at e;cases e;exact hi hw
  rw[zah ne];exact e
 refine⟨λb hb=>?_,R.len,λi d e=>?_,λi d e=>?_,R.inj⟩
 ·have ne:b≠l:=λz=>by subst z;exact nf hb
  rw[zah ne];exact R.al b hb
 ·obtain⟨v,q1,q2⟩:=R.frz i d e;exact⟨v,q1,Den.mono kp (λ_ h=>h) _ _ q2⟩
 ·obtain⟨a,q1,q2,q3⟩:=R.own i d e;refine⟨a,q1,q2,q3.mono kp (λ_ h=>h) λw hw=>?_⟩;have ne:a≠l:=λz=>by subst z;exact no ⟨i,d,e,q1⟩
  rw[zah ne];exact hw
section
variable {X:Cx}{elt tg iter:Expr}{ifs:List Expr}{sc:Scope}{pos:Pos}{N:List Str}{k:Nat}{js:List Nat}{ti:TPI}{g:TPG}{tt:TPT}{te:TPE}
theorem zif (hi:PuI X tg iter ti)(B:PBlk X N sc tg ifs elt g tt te):∀ρ Q Q',(∀d k,Q d k->Q' d k)->zcP k js ti g tt te ρ Q->zcP k js ti g tt te ρ Q':=
 λρ Q Q' m h=>hi.mono ρ _ _ (λits o q84q=>by obtain⟨hz,Pv,h0,hs,hd⟩:=q84q;exact⟨hz,Pv,h0,hs,λout hl hp=>m _ _ (hd out hl hp)⟩) h
theorem zmx (nd:js.Nodup)(hloc:LocG k g)(B:PBlk X N sc tg ifs elt g tt te){ρ:PEnv}{σ:St}{H H1:Hp}{Fz1:FZ}{o:Bool}{J:It}{its:List PV}{l:Addr}{Rr:Hp->Prop}(R1:Rel X.K Fz1 ρ σ H1)(wk:Walk X.K Fz1 o J its H1)(hl:H1 l=none)(hz:its.length<=sizeLine)(Pv:Nat->List PV->Prop)(h0:Pv 0 [])
  (hstep:∀i d out,its[i]? = some d->out.length<=i->Pv i out->g d (blkP k js ρ) λρ2=>tt ρ2 λb=>if b=true then te ρ2 λe ke=>isOwn ke=false/\Pv (i+1) (out++[e]) else Pv (i+1) out)
  (hdone:∀F' out xs H',Ext Fz1 H1 F' H'->H' l=some (.lst xs)->DenL X.K F' H' out xs->¬ F' l->out.length<=its.length->Pv its.length out->Rr H') :
  zmb J (zmv X.K g) (liftT X.K tt) (lift X.K te) l (zeh k js σ) H1 Rr:=by
 have mg:=(B.tgt 0 [] [] X.s₀ H).mono;have mt:=(B.tst 0 [] [] X.s₀ H).mono;have me:=(B.val 0 [] [] X.s₀ H).mono;have nf1:¬ Fz1 l:=λz=>R1.al l z hl;have no1:¬ zbh ρ σ l:=λ⟨i,d,h1,h2⟩=>by
  obtain⟨a,q1,_,q3⟩:=R1.own i d h1;rw[h2]at q1;cases q1;obtain⟨o',q4,_⟩:=q3.at;rw[hl]at q4;cases q4
 refine⟨λi m σ' H'=>m=its.length-i/\i<=its.length/\∃F' out xs,Rel X.K F' (blkP k js ρ) σ' H'/\(∀b,zbh (blkP k js ρ) σ' b->zbh ρ σ b)/\H' l=some (.lst xs)/\DenL X.K F' H' out xs/\¬ F' l/\out.length<=i/\Pv i out/\Same H1 H'/\(∀b,Fz1 b->F' b)/\(∀b,F' b->Fz1 b\/H1 b=none),
  ⟨its.length,by lia,Yh _,Fz1,[],[],?_,λb hb=>zqH R1 hb,zaj,DenL.nil,nf1,Yh _,h0,(Same.refl H1).upd' hl,λ_ h=>h,λ_ h=>.inl h⟩,?_⟩
 ·have x0:Ext Fz1 H1 Fz1 (upd H1 l (.lst [])):=Ext.laid ⟨Same.refl _,λ_ h=>h,λ_ h=>.inl h,R1.al⟩ hl;exact(R1.block nd).ext x0
 rintro i m σ' H' ⟨rfl,hle,F',out,xs,Rb,ob,hlx,hout,nfl,hol,hP,sm,s1,s2⟩;obtain⟨wgo,wstop⟩:=wk H' (.inl sm) i;by_cases hlt:i<its.length
 ·obtain⟨go,yl⟩:=wgo its[i] (Xf hlt);refine .inr ⟨go,λxv H2 y=>?_⟩;obtain⟨sm2,dn⟩:=yl xv H2 y;have x2:Ext F' H' F' H2:=⟨sm2,λ_ h=>h,λ_ h=>.inl h,λb hb z=>Rb.al b hb (sm2.free z)⟩;refine⟨blkP k js ρ,F',its[i],Rb.ext x2,Den.mono (Keep.of (Same.refl _)) s1 _ _ dn,mg _ _ _ _ (λρ2 ⟨q,l2,a2⟩ σ2 R2 o2=>?_) (hloc _ _ _ (hstep i its[i] out (Xf hlt) hol hP))⟩;refine⟨ρ2,F',R2,mt ρ2 _ _ (λb q F4 H4 x4=>?_) q⟩;have R4:Rel X.K F4 ρ2 σ2 H4:=R2.ext x4;have own2:∀b,zbh (blkP k js ρ) σ2 b->zbh ρ σ b:=λb ⟨j,d,h1,h2⟩=>by
   refine ob b (o2 b ⟨j,d,?_,h2⟩);obtain⟨i',j',e,_⟩:=zdS h1;rw[a2 j (by lia)];exact h1
  have hl4:H4 l=some (.lst xs):=x4.same _ _ (sm2 _ _ hlx);have nf4:¬ F4 l:=λz=>by
   rcases x4.new l z with z | z
   ·exact nfl z
   ·rw[sm2 _ _ hlx]at z;cases z
  cases b with
  | false=>
   rw[if_neg Xo]at q;refine iteF ⟨its.length-(i+1),by lia,rfl,hlt,F4,out,xs,Rel.zmw R4 l2 a2,own2,hl4,DenL.mono (.of (sm2.trans x4.same)) x4.sub _ _ hout,nf4,by lia,q,sm.trans (sm2.trans x4.same),λb hb=>x4.sub b (s1 b hb),λb hb=>?_⟩;rcases x4.new b hb with z | z
   ·exact s2 b z
   ·exact .inr (sm.free (sm2.free z))
  | true=>
   rw[if_pos rfl]at q;refine iteT ⟨ρ2,F4,R4,me ρ2 _ _ (λe ke q88q v F5 H5 p5=>?_) q⟩;obtain⟨hk,q⟩:=q88q;have hk':ke=.frz\/ke=.new:=by
    cases ke with
    | frz=>exact .inl rfl
    | new=>exact .inr rfl
    | own j=>cases hk
   obtain⟨F6,x6,s6,d6⟩:=p5.frozen hk';have hl5:H5 l=some (.lst xs):=x6.same _ _ hl4;have nf6:¬ F6 l:=λz=>by
    rcases x6.new l z with z | z
    ·exact nf4 z
    ·rw[hl4]at z;cases z
   have R6:Rel X.K F6 ρ2 σ2 H5:=R4.ext x6;have Rb6:Rel X.K F6 (blkP k js ρ) σ2 H5:=Rel.zmw R6 l2 a2;have no6:¬ zbh (blkP k js ρ) σ2 l:=λz=>no1 (own2 l z);have kp:Keep F6 H5 (upd H5 l (.lst (xs++[v]))):=.mk' λb w e hw=>by
    have ne:b≠l:=λz=>by
     subst z;rcases hw with hw | hw
     ·exact nf6 hw
     ·rw[hl5]at e;cases e;exact hw
    rw[zah ne];exact e
   have hxl:=hout.length;refine⟨xs,hl5,by lia,its.length-(i+1),by lia,rfl,hlt,F6,out++[e],xs++[v],Rb6.other hl5 (λz=>z) nf6 no6,own2,zaj,?_,nf6,by rw[Xq];simp;lia,q,?_,λb hb=>x6.sub b (x4.sub b (s1 b hb)),λb hb=>?_⟩
   ·exact DenL.mono kp (λ_ h=>h) _ _ (DenL.snoc (DenL.mono (.of (sm2.trans (x4.same.trans x6.same))) (λb hb=>x6.sub b (x4.sub b hb)) _ _ hout) d6)
   ·exact(sm.trans (sm2.trans (x4.same.trans x6.same))).upd' hl
   ·rcases x6.new b hb with z | z
    ·rcases x4.new b z with z | z
     ·exact s2 b z
     ·exact .inr (sm.free (sm2.free z))
    ·exact .inr (sm.free (sm2.free (x4.same.free z)))
 ·have e:i=its.length:=by lia
  subst e;exact .inl ⟨wstop (Xg _),hdone F' out xs H' ⟨sm,s1,s2,Rb.al⟩ hlx hout nfl hol hP⟩
theorem zfJ (nd:js.Nodup)(hloc:LocG k g)(hi:PuI X tg iter ti)(B:PBlk X N sc tg ifs elt g tt te){σ:St}{H:Hp}{Q:VK}(h:lift X.K (zcP k js ti g tt te) σ H Q) :
  zqx k js (zsw X.K ti) (zmv X.K g) (liftT X.K tt) (lift X.K te) σ H Q:=by
 obtain⟨ρ,Fz,R,h⟩:=h;refine⟨ρ,Fz,R,hi.mono ρ _ _ (λits o q J Fz1 H1 x wk l hl=>?_) h⟩;obtain⟨hz,Pv,h0,hstep,hdone⟩:=q;refine zmx (H:=H) nd hloc B (R.ext x) wk hl hz Pv h0 hstep λF' out xs H' x' hlx hout nfl hol hP=>?_;exact hdone out hol hP _ F' H' ⟨x.trans x',l,rfl,x.same.free hl,nfl,xs,hlx,hout⟩
theorem zbx (hc:X.calm=true)(S:zcK X N k js sc)(nd:js.Nodup)(hloc:LocG k g)(hi:PuI X tg iter ti)(B:PBlk X N sc tg ifs elt g tt te)(hs:autoParam (∀x,foldedSetIterable iter X.env x=pure x) aU3) :
  PuE X (.ListComp elt [⟨tg,iter,ifs,0⟩] sc pos) (zcP k js ti g tt te):=
 ⟨zif hi B,PE.weak (zqy hc S hi.run B.blk hs) λ_ _ _ h=>zfJ nd hloc hi B h⟩
theorem zfo {i:Nat}{x:Str}{pos' pos2:Pos}(hc:X.calm=true)(S:zcK X N k js sc)(nd:js.Nodup)(hloc:LocG k g)(hi:PuI X tg iter ti)(B:PBlk X N sc tg ifs elt g tt te)(hN:X.N.Nodup)(hx:X.N[i]? = some x)(hk:X.env.scope.names.lookup x=some .local)
  (hsw:autoParam (swapsWith (.ListComp elt [⟨tg,iter,ifs,0⟩] sc pos) (some (.Name x pos')) pos2.line X.env=pure true) aU0) (hs:autoParam (∀x,foldedSetIterable iter X.env x=pure x) aU3) :
  PuS X (.Assign [.Name x pos'] (.ListComp elt [⟨tg,iter,ifs,0⟩] sc pos) pos2) (pSet i (zcP k js ti g tt te)) where
 mono:=zid (zbx (pos:=pos) hc S nd hloc hi B hs)
 run:=PS.weak (zmc hc S hi.run B.blk hN hx hk hsw hs) λD σ H h=>by
  have q:=zjS (zbx (pos:=pos) hc S nd hloc hi B hs) h;exact zfJ nd hloc hi B q
end
noncomputable def zaT (N:List Str)(ds:List PV):PEnv:=ds.map (λd=>some (d,false))++List.replicate (N.length-ds.length) none
noncomputable def zba (Q:PV->Kd->Prop):POut:=⟨λ_=>Q .non .frz,Q,λ_=>False,λ_=>False⟩
theorem zqI {K:Xa}{F:PF}{ps:List Str}(h:∀ds Q,F ds Q->ds.length=ps.length):∀vs H Q E,spP K F vs H Q E->vs.length=ps.length:=λvs H Q E q89q=>by obtain⟨Fz,ds,_,hd,q⟩:=q89q;rw[<- hd.length];exact h _ _ q
theorem zfK {K:Xa}{Fz:FZ}{H:Hp}{N:List Str}{ds:List PV}{vs:List V}(al:∀b,Fz b->H b≠none)(h:DenL K Fz H ds vs):Rel K Fz (zaT N ds) (start N vs) H/\∀σ b,¬ zbh (zaT N ds) σ b:=by
 have hl:=h.length;have get:∀(i:Nat) (d:PV) (b:Bool),(zaT N ds)[i]? = some (some (d,b))->b=false/\ds[i]? = some d:=λi d b e=>by
  unfold zaT at e;by_cases hi:i<ds.length
  ·rw[YE (by simpa using hi),Xi,Xf hi]at e;have e':(some (ds[i],false):Option (PV×Bool))=some (d,b):=Option.some.inj e;have e2:=Option.some.inj e';exact⟨(congrArg Prod.snd e2).symm,by rw[Xf hi];exact congrArg some (congrArg Prod.fst e2)⟩
  ·rw[YA (by simpa using hi),List.getElem?_replicate]at e;split at e<;>cases e
 refine⟨⟨al,by unfold zaT _L.start;simp[hl],λi d e=>?_,λi d e=>?_,λi j d e a h1=>?_⟩,λσ b ⟨i,d,e,_⟩=>?_⟩
 ·obtain⟨_,e'⟩:=get i d false e;obtain⟨v,q1,q2⟩:=h.get e';have hi:i<vs.length:=(Xd.mp q1).1;refine⟨v,?_,q2⟩;unfold _L.start;rw[YE (by simpa using hi),Xi,q1];rfl
 ·exact absurd (get i d true e).1 (by decide)
 ·exact absurd (get i d true h1).1 (by decide)
 ·exact absurd (get i d true e).1 (by decide)
section
variable {P:Program}{w:World}{K:Xa}{mg:Str->Option Value}{base:Heap}
theorem zaw {x qual:Str}{st:Stmt}{f:Addr}{fd:FuncData}{N ps:List Str}{k:Nat}{F:PF}(Fn:Fun K x qual st f fd)(S:zap N ps (zac st))(len:∀ds Q,F ds Q->ds.length=ps.length)
  (hbody:∀(cdv:Value) (A:Around) (outer:List Env) (s:Shared) (H:Hp) (E:XK),Room k (A.deeper (envOfC qual (zac st) s.heap.objs.size f cdv))->
   ∃t,PuSs (cxOf CX0 P w K mg base N qual (zac st) f cdv A outer s H E).nox (zal st) t/\∀ds Q,F ds Q->t (zaT N ds) (zba Q)):FnOk P w K mg base CX0 (k+1) f fd ps (spP K F):=by
 refine Fn.ok S (zqI len) (λcdv A outer s H vs Q E hr h=>?_);obtain⟨t,ht,hq⟩:=hbody cdv A outer s H E hr;obtain⟨Fz,ds,al,hd,h⟩:=h;obtain⟨R,no⟩:=zfK (N:=N) al hd;refine⟨_,ht.run,zaT N ds,Fz,R,ht.mono _ (zba _) _ ⟨λρ' q σ' F' H' s' o' R'=>?_,λd k q v F' H' s' al' r=>?_,λ_ z=>z.elim,λ_ z=>z.elim⟩ (hq ds _ h)⟩
 ·exact q .non F' H' ⟨⟨λb o e=>s'.keep b o e (no _ b),s'.sub,λb hb=>(s'.new b hb).elim .inl (λz=>z.elim .inr (λz=>(no _ b z).elim)),R'.al⟩,by show Den _ _ _ _ _;simp only[Den]⟩
 ·refine q v F' H' ⟨⟨λb o e=>s'.keep b o e (no _ b),s'.sub,λb hb=>(s'.new b hb).elim .inl (λz=>z.elim .inr (λz=>(no _ b z).elim)),al'⟩,?_⟩;cases k with
  | frz=>exact r
  | own i=>exact r.elim
  | new=>
   obtain⟨a,e,nf,o,w⟩:=r;exact⟨a,e,w.resolve_left (no _ a),nf,o⟩
end
theorem Rel.mut {K:Xa}{Fz:FZ}{ρ:PEnv}{σ:St}{H:Hp}{i:Nat}{d d':PV}{a:Addr}{o u:HO}(R:Rel K Fz ρ σ H)(hi:ρ[i]? = some (some (d,true)))(hs:σ[i]? = some (some (.ref a)))(hu:H a=some u)
  (ho:Own K Fz (upd H a o) d' a):Rel K Fz (ρ.set i (some (d',true))) σ (upd H a o)/\Step ρ σ Fz H Fz (upd H a o)/\zaC ρ σ H (ρ.set i (some (d',true))) σ:=by
 obtain⟨a',e',nf,ow⟩:=R.own i d hi;rw[hs]at e';cases e';have hil:i<ρ.length:=(Xd.mp hi).1;have im:¬ Imm u:=by obtain⟨o',q1,q2⟩:=ow.at;rw[hu]at q1;cases q1;exact q2
 have kp:Keep Fz H (upd H a o):=.mk' λb w e hw=>by
  have ne:b≠a:=λz=>by
   subst z;rcases hw with hw | hw
   ·exact nf hw
   ·rw[hu]at e;cases e;exact im hw
  rw[zah ne];exact e
 have st:∀j e,(ρ.set i (some (d',true)))[j]? = some (some (e,true))->∃e0,ρ[j]? = some (some (e0,true)):=λj e h=>by
  by_cases hij:i=j
  ·subst hij;exact⟨d,hi⟩
  ·rw[Xh hij]at h;exact⟨e,h⟩
 refine⟨⟨λb hb=>?_,by rw[Ya];exact R.len,λj e h=>?_,λj e h=>?_,λj k e1 e2 b h1 h2 h3 h4=>?_⟩,⟨λ_ h=>h,λ_ h=>.inl h,λb w e n=>?_⟩,λb ⟨j,e,h1,h2⟩=>?_⟩
 ·have ne:b≠a:=λz=>by subst z;exact nf hb
  rw[zah ne];exact R.al b hb
 ·by_cases hij:i=j
  ·subst hij;rw[Xl hil]at h;cases h
  ·rw[Xh hij]at h;obtain⟨v,q1,q2⟩:=R.frz j e h;exact⟨v,q1,Den.mono kp (λ_ h=>h) _ _ q2⟩
 ·by_cases hij:i=j
  ·subst hij;rw[Xl hil]at h;cases h;exact⟨a,hs,nf,ho⟩
  ·rw[Xh hij]at h;obtain⟨b,q1,q2,q3⟩:=R.own j e h;refine⟨b,q1,q2,q3.mono kp (λ_ h=>h) λw hw=>?_⟩;have ne:b≠a:=λz=>by subst z;exact hij (R.inj i j d e _ hi h hs q1)
   rw[zah ne];exact hw
 ·obtain⟨e1',g1⟩:=st j e1 h1;obtain⟨e2',g2⟩:=st k e2 h2;exact R.inj j k e1' e2' b g1 g2 h3 h4
 ·have ne:b≠a:=λz=>by subst z;exact n ⟨i,d,hi,hs⟩
  rw[zah ne];exact e
 ·obtain⟨e',g⟩:=st j e h1;exact .inl ⟨j,e',g,h2⟩
noncomputable abbrev TPM:=PEnv->(PV->PEnv->Prop)->Prop
noncomputable def liftM (K:Xa)(t:TPM):TE:=λσ H Q=>∃ρ Fz,Rel K Fz ρ σ H/\t ρ λd ρ'=>∀v Fz' H',Step ρ σ Fz H Fz' H'->zaC ρ σ H ρ' σ->Rel K Fz' ρ' σ H'->Den K Fz' H' d v->Q v H'
structure PuM (X:Cx)(e:Expr)(t:TPM):Prop where
 mono:∀ρ Q Q',(∀d ρ,Q d ρ->Q' d ρ)->t ρ Q->t ρ Q'
 run:PE X e (liftM X.K t)
noncomputable def mApp (i:Nat)(te:TPE):TPM:=λρ Q=>∃ds,ρ[i]? = some (some (.lst ds,true))/\ds.length<sizeLine/\te ρ λd k=>isOwn k=false/\Q .non (ρ.set i (some (.lst (ds++[d]),true)))
noncomputable def zet (i:Nat)(te:TPE):TPM:=λρ Q=>∃ds,ρ[i]? = some (some (.lst ds,true))/\te ρ λd _=>∃es,d=.tup es/\ds.length+es.length<=sizeLine/\Q .non (ρ.set i (some (.lst (ds++es),true)))
theorem zeV {K:Xa}{Fz:FZ}{ρ:PEnv}{σ:St}{H:Hp}{i:Nat}{ds:List PV}(R:Rel K Fz ρ σ H)(h:ρ[i]? = some (some (.lst ds,true))):∃a xs,σ[i]? = some (some (.ref a))/\H a=some (.lst xs)/\DenL K Fz H ds xs/\¬ Fz a:=by
 obtain⟨a,e,nf,xs,h1,h2⟩:=R.own i _ h;exact⟨a,xs,e,h1,h2,nf⟩
theorem DenL.rew {K:Xa}{Fz:FZ}{H:Hp}{ds:List PV}{xs ys:List V}{a:Addr}{o:HO}(ha:H a=some (.lst ys))(nf:¬ Fz a)(h:DenL K Fz H ds xs):DenL K Fz (upd H a o) ds xs:=
 DenL.mono (.mk' λb w e hw=>by
  have ne:b≠a:=λz=>by
   subst z;rcases hw with hw | hw
   ·exact nf hw
   ·rw[ha]at e;cases e;exact hw
  rw[zah ne];exact e) (λ_ h=>h) _ _ h
section
variable {X:Cx}{x:Str}{e:Expr}{te:TPE}{tm:TPM}{p apos cpos:Pos}
theorem zbs (i:Nat)(he:PuE X e te)(hN:autoParam (X.N[i]? = some x) aU0)(hv:autoParam (Vis X.env.scope x) aU2)(hd:autoParam ((x == ("__debug__" : Str))=false) aU1) (hcd:autoParam ((x == ("__classdict__" : Str))=false) aU1)
  (hbase:autoParam (attributeBase (.Name x p) "append" X.env (eval (.Name x p) X.env)=eval (.Name x p) X.env) aU0)
  (hfew:autoParam (((backTo cpos (starEach [e] X.env)).all (λx=>!x.1)&&(backToKw cpos (keywordEach [] X.env)).all (λx=>x.1.isSome)&&decide ([e].length+([]:List Keyword).length+(if ([]:List Keyword).isEmpty then 0 else 1)<30))=true) aU0)
  (hline:autoParam ((apos.endLine == cpos.line)=true) aU0) (hs:autoParam (starEach [e] X.env=(false,eval e X.env)::starEach [] X.env) aU0) (hplain:autoParam ((backTo cpos (starEach [] X.env)).any (·.1)=false) aU0):PuM X (.Call (.Attribute (.Name x p) "append" apos) [e] [] cpos) (mApp i te) where
 mono ρ Q Q' m h:=by
  obtain⟨ds,e1,e2,h⟩:=h;exact⟨ds,e1,e2,he.mono ρ _ _ (λd k q92q=>by obtain⟨hk,q⟩:=q92q;exact⟨hk,m _ _ q⟩) h⟩
 run:=PE.weak (zqn PySem.F.plainAttrs_list PySem.F.slot_list_append PySem.F.type_list_append zhN (zco hN hv hd hcd) (zeP he.run zgs hs) hbase hfew hline hs hplain) λσ H Q h=>by
  obtain⟨ρ,Fz,R,ds,e1,e2,h⟩:=h;obtain⟨a,xs,hs,ha,hd,nf⟩:=zeV R e1;refine⟨_,hs,.inl ⟨rfl,xs,SqL.of ha⟩,ρ,Fz,R,he.mono ρ _ _ (λd k q v F1 H1 p1=>?_) h⟩;obtain⟨hk,q⟩:=q;have hk':k=.frz\/k=.new:=by
   cases k with
   | frz=>exact .inl rfl
   | new=>exact .inr rfl
   | own j=>cases hk
  obtain⟨F2,x2,s2,d2⟩:=p1.frozen hk';have R2:=R.ext x2;obtain⟨a',xs',hs',ha',hd',nf'⟩:=zeV R2 e1;rw[hs]at hs';cases hs';have hl:=hd'.length;refine⟨a,xs',v,rfl,rfl,ha',by lia,?_⟩;have ow:Own X.K F2 (upd H1 a (.lst (xs'++[v]))) (.lst (ds++[d])) a:=⟨_,zaj,(DenL.rew ha' nf' (DenL.snoc hd' d2))⟩;obtain⟨R3,s3,o3⟩:=R2.mut e1 hs ha' ow;exact q .non F2 _ ((Step.of x2).trans (zaC.refl ρ σ H) s3) (zaC.trans (Step.of x2) (zaC.refl ρ σ H) o3) R3 (by simp only[Den])
theorem zot (i:Nat)(he:PuE X e te)(hN:autoParam (X.N[i]? = some x) aU0)(hv:autoParam (Vis X.env.scope x) aU2)(hd:autoParam ((x == ("__debug__" : Str))=false) aU1) (hcd:autoParam ((x == ("__classdict__" : Str))=false) aU1)
  (hbase:autoParam (attributeBase (.Name x p) "extend" X.env (eval (.Name x p) X.env)=eval (.Name x p) X.env) aU0)
  (hfew:autoParam (((backTo cpos (starEach [e] X.env)).all (λx=>!x.1)&&(backToKw cpos (keywordEach [] X.env)).all (λx=>x.1.isSome)&&decide ([e].length+([]:List Keyword).length+(if ([]:List Keyword).isEmpty then 0 else 1)<30))=true) aU0)
  (hline:autoParam ((apos.endLine == cpos.line)=true) aU0) (hs:autoParam (starEach [e] X.env=(false,eval e X.env)::starEach [] X.env) aU0) (hplain:autoParam ((backTo cpos (starEach [] X.env)).any (·.1)=false) aU0):PuM X (.Call (.Attribute (.Name x p) "extend" apos) [e] [] cpos) (zet i te) where
 mono ρ Q Q' m h:=by
  obtain⟨ds,e1,h⟩:=h;exact⟨ds,e1,he.mono ρ _ _ (λd _ q93q=>by obtain⟨es,q1,q2,q⟩:=q93q;exact⟨es,q1,q2,m _ _ q⟩) h⟩
 run:=PE.weak (zqn PySem.F.plainAttrs_list PySem.F.slot_list_extend PySem.F.type_list_extend zqA (zco hN hv hd hcd) (zeP he.run zgs hs) hbase hfew hline hs hplain) λσ H Q h=>by
  obtain⟨ρ,Fz,R,ds,e1,h⟩:=h;obtain⟨a,xs,hs,ha,hd,nf⟩:=zeV R e1;refine⟨_,hs,.inl ⟨rfl,xs,SqL.of ha⟩,ρ,Fz,R,he.mono ρ _ _ (λd k q v F1 H1 p1=>?_) h⟩;obtain⟨es,rfl,q2,q⟩:=q;have R2:=R.ext p1.ext;obtain⟨a',xs',hs',ha',hd',nf'⟩:=zeV R2 e1;rw[hs]at hs';cases hs';obtain⟨b,zs,rfl,hb,hz⟩:=zaL (p1.root R);have hl:=hd'.length;have hl2:=hz.length;refine⟨a,b,xs',zs,rfl,rfl,ha',hb,by lia,?_⟩;have ow:Own X.K F1 (upd H1 a (.lst (xs'++zs))) (.lst (ds++es)) a:=⟨_,zaj,(DenL.rew ha' nf' (hd'.append hz))⟩;obtain⟨R3,s3,o3⟩:=R2.mut e1 hs ha' ow;exact q .non F1 _ ((Step.of p1.ext).trans (zaC.refl ρ σ H) s3) (zaC.trans (Step.of p1.ext) (zaC.refl ρ σ H) o3) R3 (by simp only[Den])
noncomputable def zbR (tm:TPM):TPS:=λρ O=>tm ρ λ_ ρ'=>O.nx ρ'
variable {pos:Pos}
theorem zbi (he:PuM X e tm)(hs:autoParam (swapsWith e none pos.line X.env=pure false) aU0):PuS X (.Expr e pos) (zbR tm) where
 mono ρ O O' m h:=he.mono ρ _ _ (λ_ _ q=>m.nx _ q) h
 run:=PS.weak (ziV he.run hs) λD σ H h=>by
  obtain⟨ρ,Fz,R,h⟩:=h;exact⟨ρ,Fz,R,he.mono ρ _ _ (λd ρ' q v F' H' s' o' R' _=>q σ F' H' s' o' R') h⟩
end
theorem zmy {K:Xa}{Fz:FZ}{H:Hp}{ds:List PV}{xs:List V}{i:Int}{d:PV}(h:DenL K Fz H ds xs)(e:atI ds i=some d):∃v,atI xs i=some v/\Den K Fz H d v:=by
 unfold atI at e ⊢;rw[<- h.length];cases q:ixN ds.length i with
 | none=>rw[q]at e;cases e
 | some j=>
  rw[q]at e;obtain⟨v,h1,h2⟩:=h.get (i:=j) (d:=d) e;exact⟨v,h1,h2⟩
noncomputable def ixV (d e x:PV):Prop:=(∃ds i,(d=.lst ds\/d=.tup ds)/\e=.int i/\atI ds i=some x)\/∃z i c,d=.str z/\e=.int i/\z.length<=sizeLine/\atI z.cps.toList i=some c/\x=.str ⟨#[c]⟩
noncomputable def pIx:P2:=λd e Q=>∃x,ixV d e x/\Q x .frz
theorem zub {K:Xa}:POp K (rIx K) pIx where
 mono d e Q Q' m h:=by obtain⟨x,h,q⟩:=h;exact⟨x,h,m _ _ q⟩
 run Fz H x y d e Q al rx ry h:=by
  obtain⟨x',h,q⟩:=h;rcases h with ⟨ds,i,e1,rfl,e3⟩ | ⟨z,i,c,rfl,rfl,e3,e4,rfl⟩
  ·rcases e1 with rfl | rfl
   ·obtain⟨a,xs,rfl,h1,h2⟩:=zat rx;obtain⟨v,g1,g2⟩:=zmy h2 e3;exact .inl ⟨a,xs,i,v,rfl,zay ry,h1,g1,q v Fz H (.val al g2)⟩
   ·obtain⟨a,xs,rfl,h1,h2⟩:=zaL rx;obtain⟨v,g1,g2⟩:=zmy h2 e3;exact .inr (.inl ⟨a,xs,i,v,rfl,zay ry,h1,g1,q v Fz H (.val al g2)⟩)
  ·exact .inr (.inr ⟨z,i,c,zbk rx,zay ry,e3,e4,q _ Fz H (.val al (by simp only[Den]))⟩)
section
variable {X:Cx}{a b:Expr}{ta tb:TPE}{pos:Pos}
theorem zao (ha:PuE X a ta)(hb:PuE X b tb)(hs:autoParam (ziY b) aU6):PuE X (.Subscript a b pos) (t2 pIx ta tb):=zua zsc zub ha hb hs
theorem zsx (hu:X.A.units+16<cLine)(ha:PuE X a ta)(hb:PuE X b tb)(hm:autoParam (behindInMarks .Eq b=false) aU4):PuE X (.Compare a [.Eq] [b] pos) (t2 (pEq false) ta tb):=zpr (zps hu) zmu ha hb hm
theorem zfh (hu:X.A.units+16<cLine)(ha:PuE X a ta)(hb:PuE X b tb)(hm:autoParam (behindInMarks .Eq b=false) aU4):PuT X (.Compare a [.Eq] [b] pos) (tBl (t2 (pEq false) ta tb)):=zdj (zps hu) zmu ha hb hm
theorem zig (hu:X.A.units+16<cLine)(ha:PuE X a ta)(hb:PuE X b tb)(hm:autoParam (behindInMarks .NotEq b=false) aU4):PuT X (.Compare a [.NotEq] [b] pos) (tBl (t2 (pEq true) ta tb)):=zdj (zsn hu) zmu ha hb hm
theorem zjT (ha:PuE X a ta)(hb:PuE X b tb)(hm:autoParam (behindInMarks .Lt b=false) aU4):PuT X (.Compare a [.Lt] [b] pos) (tBl (pLt ta tb)):=zdj ztK zjO ha hb hm
theorem zgx (ha:PuE X a ta)(hb:PuE X b tb)(hm:autoParam (behindInMarks .Gt b=false) aU4):PuT X (.Compare a [.Gt] [b] pos) (tBl (pGt ta tb)):=zdj ztL zjO ha hb hm
end
noncomputable def rInP (K:Xa)(neg:Bool):R2:=λx y H Q=>∃Fz d ds p xs,Root K Fz H d x/\y=.ref p/\(SqL K H p xs\/SqT K H p xs)/\DenL K Fz H ds xs/\plain 6 d=true/\ds.all (plain 6)=true/\Q (.bl (if neg then !decide (d∈ds) else decide (d∈ds))) H
noncomputable def pIn (neg:Bool):P2:=λd e Q=>∃ds,(e=.lst ds\/e=.tup ds)/\plain 6 d=true/\ds.all (plain 6)=true/\Q (.bl (if neg then !decide (d∈ds) else decide (d∈ds))) .frz
theorem zsy {K:Xa}{neg:Bool}:POp K (rInP K neg) (pIn neg) where
 mono d e Q Q' m h:=by obtain⟨ds,e1,e2,e3,q⟩:=h;exact⟨ds,e1,e2,e3,m _ _ q⟩
 run Fz H x y d e Q al rx ry h:=by
  obtain⟨ds,e1,e2,e3,q⟩:=h;rcases e1 with rfl | rfl
  ·obtain⟨a,xs,rfl,h1,h2⟩:=zat ry;exact⟨Fz,d,ds,a,xs,rx,rfl,.inl h1,h2,e2,e3,q _ Fz H (.val al (by simp only[Den]))⟩
  ·obtain⟨a,xs,rfl,h1,h2⟩:=zaL ry;exact⟨Fz,d,ds,a,xs,rx,rfl,.inr h1,h2,e2,e3,q _ Fz H (.val al (by simp only[Den]))⟩
noncomputable def dcd (p:Prop):Bool:=@decide p (Classical.propDecidable p)
theorem zjU {p:Prop}(h:p):dcd p=true:=@decide_eq_true p (Classical.propDecidable p) h
theorem zmz {p:Prop}(h:¬ p):dcd p=false:=@decide_eq_false p (Classical.propDecidable p) h
theorem zqJ {p:Prop}:dcd p=true↔p:=@decide_eq_true_iff p (Classical.propDecidable p)
section
variable {X:Cx}{pins:List (Addr×Obj)}{σ:St}{H:Hp}{s:Shared}{Fz:FZ}
theorem zfp (I:Inv X pins σ H s){A:Around}(hu:A.units+16<cLine){d:PV}{ds:List PV}{x:V}{xs:List V}{v:Value}{its:List Value}(hx:Root X.K Fz H d x)(rx:RelV x v)(r:Vals xs its)(h:DenL X.K Fz H ds xs)(pd:plain 6 d=true)(ps:ds.all (plain 6)=true) :
  ∃e:Value->Bool,(∀y,y∈its.toArray->SeqAt.EqAt A.in1 s y v (e y))/\its.toArray.any e=decide (d∈ds):=by
 refine⟨λu=>dcd (∃j:Nat,its[j]? = some u/\ds[j]? = some d),λu hu'=>?_,?_⟩
 ·obtain⟨j,hj⟩:=List.mem_iff_getElem?.mp (show u∈its by simpa using hu');have l1:=r.length;have l2:=h.length;have hjl:j<its.length:=(Xd.mp hj).1;have e1:ds[j]? = some ds[j]:=Xf (by lia);obtain⟨y,e2,q2⟩:=h.get e1;obtain⟨u',e3,q3⟩:=r.get e2;rw[hj]at e3;cases e3;have pj:plain 6 ds[j]=true:=XV.mp ps _ (Yo _);have w:dcd (∃j':Nat,its[j']? = some u/\ds[j']? = some d)=decide (ds[j]=d):=by
   by_cases hd:ds[j]=d
   ·rw[decide_eq_true hd,zjU ⟨j,hj,by rw[e1,hd]⟩]
   ·rw[decide_eq_false hd];refine zmz ?_;rintro⟨j',g1,g2⟩;obtain⟨y',e2',q2'⟩:=h.get g2;obtain⟨u',e3',q3'⟩:=r.get e2';rw[g1]at e3';cases e3';have ey:y=y':=q3.inj q3';subst ey;exact hd (zgY I 6 _ _ _ pj pd q2.root q2'.root)
  show SeqAt.EqAt A.in1 s u v (dcd (∃j':Nat,its[j']? = some u/\ds[j']? = some d));rw[w];exact(zqD I 6 A.in1 ds[j] d y x u v pj pd (by show A.units+1+6<cLine;lia) q2.root hx q3 rx).2.2
 ·have l1:=r.length;have l2:=h.length;by_cases hd:d∈ds
  ·rw[decide_eq_true hd];obtain⟨j,hj⟩:=List.mem_iff_getElem?.mp hd;have hjl:j<ds.length:=(Xd.mp hj).1;rw[Array.any_eq_true];refine⟨j,by simpa using (by lia:j<its.length),?_⟩;refine zjU ⟨j,?_,hj⟩;simp
  ·rw[decide_eq_false hd];rw[Array.any_eq_false];intro i hi;intro z;obtain⟨j,g1,g2⟩:=zqJ.mp z;exact hd (Xr g2)
theorem zsz (hu:X.A.units+16<cLine):OpR X (compareOp .In) (rInP X.K false):=by
 intro pins s σ H x y v u Q I rx ry h;obtain⟨Fz,d,ds,p,xs,hx,rfl,hq,hd,p1,p2,q⟩:=h;cases ry;rcases hq with hq | hq
 ·obtain⟨its,r,pl,hz⟩:=I.list hq;obtain⟨e,h1,h2⟩:=zfp I hu hx rx r hd p1 p2;exact SeqAt.in_listAt e pl.isList h1 ⟨.bl _,H,I,rfl,by rw[h2];exact q⟩
 ·obtain⟨its,r,pl,hz⟩:=I.tuple hq;obtain⟨e,h1,h2⟩:=zfp I hu hx rx r hd p1 p2;exact SeqAt.in_tupleAt e pl h1 ⟨.bl _,H,I,rfl,by rw[h2];exact q⟩
theorem zmA (hu:X.A.units+16<cLine):OpR X (compareOp .NotIn) (rInP X.K true):=by
 intro pins s σ H x y v u Q I rx ry h;obtain⟨Fz,d,ds,p,xs,hx,rfl,hq,hd,p1,p2,q⟩:=h;cases ry;rcases hq with hq | hq
 ·obtain⟨its,r,pl,hz⟩:=I.list hq;obtain⟨e,h1,h2⟩:=zfp I hu hx rx r hd p1 p2;exact SeqAt.notIn_listAt e pl.isList h1 ⟨.bl _,H,I,rfl,by rw[h2];exact q⟩
 ·obtain⟨its,r,pl,hz⟩:=I.tuple hq;obtain⟨e,h1,h2⟩:=zfp I hu hx rx r hd p1 p2;exact SeqAt.notIn_tupleAt e pl h1 ⟨.bl _,H,I,rfl,by rw[h2];exact q⟩
variable {a b:Expr}{ta tb:TPE}{pos:Pos}
theorem zpt (hu:X.A.units+16<cLine)(ha:PuE X a ta)(hb:PuE X b tb)(hm:autoParam (behindInMarks .In b=false) aU4):PuT X (.Compare a [.In] [b] pos) (tBl (t2 (pIn false) ta tb)):=zdj (zsz hu) zsy ha hb hm
theorem zih (hu:X.A.units+16<cLine)(ha:PuE X a ta)(hb:PuE X b tb)(hm:autoParam (behindInMarks .NotIn b=false) aU4):PuT X (.Compare a [.NotIn] [b] pos) (tBl (t2 (pIn true) ta tb)):=zdj (zmA hu) zsy ha hb hm
end
noncomputable def pIsN (neg:Bool):P2:=λd e Q=>e=.non/\Q (.bl (if neg then !decide (d=.non) else decide (d=.non))) .frz
theorem zjV {K:Xa}{Fz:FZ}{H:Hp}{d:PV}{x:V}(r:Root K Fz H d x):decide (x=V.non)=decide (d=.non):=by
 cases d with
 | non=>rw[zca r];simp
 | bl b=>rw[zfF r];simp
 | int b=>rw[zay r];simp
 | str b=>rw[zbk r];simp
 | tup ds=>obtain⟨a,xs,rfl,_⟩:=zaL r;simp
 | lst ds=>obtain⟨a,xs,rfl,_⟩:=zat r;simp
 | ty n=>simp only[Root,Den]at r;rw[r];simp
 | dK ks ds=>simp only[Root]at r;obtain⟨a,xs,rfl,_⟩:=r;simp
 | dT ks ds=>simp only[Root]at r;obtain⟨a,xs,rfl,_⟩:=r;simp
 | obj C ks ds=>simp only[Root,Den]at r;obtain⟨a,dx,xs,rfl,_⟩:=r;simp
theorem zsA {K:Xa}:POp K (λx y H Q=>y=.non/\Q (.bl (decide (x=.non))) H) (pIsN false) where
 mono d e Q Q' m h:=⟨h.1,m _ _ h.2⟩
 run Fz H x y d e Q al rx ry h:=by
  obtain⟨rfl,q⟩:=h;refine⟨zca ry,?_⟩;rw[zjV rx];exact q _ Fz H (.val al (by simp only[Den];rfl))
theorem zqK {K:Xa}:POp K (λx y H Q=>y=.non/\Q (.bl (!decide (x=.non))) H) (pIsN true) where
 mono d e Q Q' m h:=⟨h.1,m _ _ h.2⟩
 run Fz H x y d e Q al rx ry h:=by
  obtain⟨rfl,q⟩:=h;refine⟨zca ry,?_⟩;rw[zjV rx];exact q _ Fz H (.val al (by simp only[Den];rfl))
section
variable {X:Cx}{a b:Expr}{ta tb:TPE}{pos:Pos}
theorem zqL (ha:PuE X a ta)(hb:PuE X b tb)(hm:autoParam (behindInMarks .Is b=false) aU4):PuT X (.Compare a [.Is] [b] pos) (tBl (t2 (pIsN false) ta tb)):=zdj zrT zsA ha hb hm
theorem zou (ha:PuE X a ta)(hb:PuE X b tb)(hm:autoParam (behindInMarks .IsNot b=false) aU4):PuT X (.Compare a [.IsNot] [b] pos) (tBl (t2 (pIsN true) ta tb)):=zdj zpZ zqK ha hb hm
end
theorem zov:bootBuiltins "list" = some (.type "list"):=by decide +kernel
theorem zmB:bootBuiltins "tuple" = some (.type "tuple"):=by decide +kernel
theorem bSet:bootBuiltins "set" = some (.type "set"):=by decide +kernel
theorem zuc:bootBuiltins "dict" = some (.type "dict"):=by decide +kernel
theorem bInt:bootBuiltins "int" = some (.type "int"):=by decide +kernel
theorem zud:bootBuiltins "bool" = some (.type "bool"):=by decide +kernel
theorem bLen:bootBuiltins "len" = some (.builtin "len"):=by decide +kernel
theorem zmC:bootBuiltins "sorted" = some (.builtin "sorted"):=by decide +kernel
theorem bIsi:bootBuiltins "isinstance" = some (.builtin "isinstance"):=by decide +kernel
theorem bMax:bootBuiltins "max" = some (.builtin "max"):=by decide +kernel
theorem bMin:bootBuiltins "min" = some (.builtin "min"):=by decide +kernel
theorem zeu {K:Xa}{Fz:FZ}{H:Hp}{d:PV}{vs:List V}(h:zla K Fz H [d] vs):∃v,vs=[v]/\Root K Fz H d v:=by
 cases h with
 | cons r t=>cases t;exact⟨_,rfl,r⟩
theorem zjW {K:Xa}{Fz:FZ}{H:Hp}{d e:PV}{vs:List V}(h:zla K Fz H [d,e] vs):∃v u,vs=[v,u]/\Root K Fz H d v/\Root K Fz H e u:=by
 cases h with
 | cons r t=>
  cases t with
  | cons r2 t=>cases t;exact⟨_,_,rfl,r,r2⟩
theorem Post.newL {K:Xa}{Fz:FZ}{H:Hp}{p:Addr}{ds:List PV}{xs:List V}(al:∀b,Fz b->H b≠none)(hp:H p=none)(h:DenL K Fz H ds xs):Post K [] [] Fz H Fz (upd H p (.lst xs)) (.lst ds) .new (.ref p):=
 ⟨Ext.laid ⟨Same.refl H,λ_ h=>h,λ_ h=>.inl h,al⟩ hp,p,rfl,hp,λz=>al p z hp,xs,zaj,DenL.mono (Keep.of (λb u e=>by rw[zah (zaE e hp)];exact e)) (λ_ h=>h) _ _ h⟩
theorem Post.newT {K:Xa}{Fz:FZ}{H:Hp}{p:Addr}{ds:List PV}{xs:List V}(al:∀b,Fz b->H b≠none)(hp:H p=none)(h:DenL K Fz H ds xs):Post K [] [] Fz H Fz (upd H p (.tup xs)) (.tup ds) .frz (.ref p):=by
 refine⟨Ext.laid ⟨Same.refl H,λ_ h=>h,λ_ h=>.inl h,al⟩ hp,?_⟩;show Den _ _ _ _ _;simp only[Den];exact⟨p,xs,rfl,zaj,DenL.mono (Keep.of (λb u e=>by rw[zah (zaE e hp)];exact e)) (λ_ h=>h) _ _ h⟩
noncomputable def LenP:PV->Nat->Prop
 | .str y,n=>y.length<=sizeLine/\n=y.length
 | .lst ds,n=>n=ds.length
 | .tup ds,n=>n=ds.length
 | .dK ks _,n=>n=ks.length
 | _,_=>False
noncomputable def fLen:PF:=λds Q=>∃d n,ds=[d]/\LenP d n/\Q (.int n) .frz
noncomputable def rLen (K:Xa):List V->Hp->VK->Prop:=λxs H Q=>(∃x n,xs=[x]/\LenV K x H n/\Q (.int n) H)\/∃a kvs,xs=[.ref a]/\Rd H a (.dK kvs)/\Q (.int kvs.length) H
theorem zmD {X:Cx}:zdh X (.builtin "len") (rLen X.K):=by
 intro pins s σ H xs us Q I r h;rcases h with h | ⟨a,kvs,rfl,ha,q⟩
 ·exact znV pins s σ H xs us Q I r h
 ·obtain⟨u,rfl,ru⟩:=vals1 r;cases ru;exact ztV I ha λt s' I'=>⟨.int kvs.length,H,I',⟨t,rfl⟩,q⟩
theorem zsB {K:Xa}:zeU K (rLen K) fLen where
 mono ds Q Q' m h:=by obtain⟨d,n,e1,e2,q⟩:=h;exact⟨d,n,e1,e2,m _ _ q⟩
 run Fz H ds vs Q al r h:=by
  obtain⟨d,n,rfl,e,q⟩:=h;obtain⟨v,rfl,rv⟩:=zeu r;have q':=q (.int n) Fz H (.val al (by simp only[Den]));cases d with
  | str y=>cases zbk rv;exact .inl ⟨_,n,rfl,e,q'⟩
  | lst ds=>obtain⟨a,xs,rfl,h1,h2⟩:=zat rv;exact .inl ⟨_,n,rfl,.inl ⟨xs,h1,by rw[<- h2.length];exact e⟩,q'⟩
  | tup ds=>obtain⟨a,xs,rfl,h1,h2⟩:=zaL rv;exact .inl ⟨_,n,rfl,.inr ⟨xs,h1,by rw[<- h2.length];exact e⟩,q'⟩
  | dK ks ds=>
   simp only[Root]at rv;obtain⟨a,xs,rfl,h1,h2,h3⟩:=rv;have e':n=ks.length:=e;refine .inr ⟨a,_,rfl,h1,?_⟩;rw[YD,<- h2,Nat.min_self,<- e'];exact q'
  | non=>exact e.elim
  | bl b=>exact e.elim
  | int i=>exact e.elim
  | ty n=>exact e.elim
  | dT ks ds=>exact e.elim
  | obj C ks ds=>exact e.elim
noncomputable def zdA:PF:=λds Q=>∃es,(ds=[.lst es]\/ds=[.tup es])/\Q (.lst es) .new
noncomputable def zbS:PF:=λds Q=>∃es,(ds=[.lst es]\/ds=[.tup es])/\Q (.tup es) .frz
theorem zqM {K:Xa}:zeU K (zqB K) zdA where
 mono ds Q Q' m h:=by obtain⟨es,e,q⟩:=h;exact⟨es,e,m _ _ q⟩
 run Fz H ds vs Q al r h:=by
  obtain⟨es,e,q⟩:=h;rcases e with rfl | rfl
  ·obtain⟨v,rfl,rv⟩:=zeu r;obtain⟨a,xs,rfl,h1,h2⟩:=zat rv;exact⟨a,xs,rfl,.inl h1,λl hl=>q _ Fz _ (.newL al hl h2)⟩
  ·obtain⟨v,rfl,rv⟩:=zeu r;obtain⟨a,xs,rfl,h1,h2⟩:=zaL rv;exact⟨a,xs,rfl,.inr h1,λl hl=>q _ Fz _ (.newL al hl h2)⟩
theorem zow {K:Xa}:zeU K (zsl K) zbS where
 mono ds Q Q' m h:=by obtain⟨es,e,q⟩:=h;exact⟨es,e,m _ _ q⟩
 run Fz H ds vs Q al r h:=by
  obtain⟨es,e,q⟩:=h;rcases e with rfl | rfl
  ·obtain⟨v,rfl,rv⟩:=zeu r;obtain⟨a,xs,rfl,h1,h2⟩:=zat rv;exact⟨a,xs,rfl,.inl ⟨h1,λl hl=>q _ Fz _ (.newT al hl h2)⟩⟩
  ·obtain⟨v,rfl,rv⟩:=zeu r;obtain⟨a,xs,rfl,h1,h2⟩:=zfG rv;exact⟨a,xs,rfl,.inr ⟨SqT.of h1,q _ Fz H (.val al (by simp only[Den];exact⟨a,xs,rfl,h1,h2⟩))⟩⟩
theorem zfL {K:Xa}{Fz:FZ}{H:Hp}:∀ {ss:List Str}{xs:List V},DenL K Fz H (ss.map PV.str) xs->xs=ss.map V.str
 | [],xs,h=>by rw[List.map_nil]at h;simp only[DenL]at h;exact h
 | s::r,xs,h=>by
  rw[Xy]at h;simp only[DenL]at h;obtain⟨v,t,z,h1,h2⟩:=h;simp only[Den]at h1;subst z h1;rw[Xy,zfL h2]
theorem zew {K:Xa}{Fz:FZ}{H:Hp}:∀(ss:List Str),DenL K Fz H (ss.map PV.str) (ss.map V.str)
 | []=>DenL.nil
 | s::r=>by rw[Xy,Xy];exact DenL.cons (by simp only[Den]) (zew r)
noncomputable def zch:PF:=λds Q=>∃ss:List Str,ds=[.lst (ss.map PV.str)]/\ss.length<64/\∀zs,zs.Perm ss->sortedS zs=true->Q (.lst (zs.map PV.str)) .new
theorem zox {X:Cx}:zeU X.K (λxs H Q=>∃(p:Addr)(ss:List Str),xs=[.ref p]/\SqL X.K H p (ss.map V.str)/\ss.length<64/\∀l zs,H l=none->zs.Perm ss->sortedS zs=true->Q (.ref l) (upd H l (.lst (zs.map V.str)))) zch where
 mono ds Q Q' m h:=by obtain⟨ss,e1,e2,q⟩:=h;exact⟨ss,e1,e2,λzs h1 h2=>m _ _ (q zs h1 h2)⟩
 run Fz H ds vs Q al r h:=by
  obtain⟨ss,rfl,e2,q⟩:=h;obtain⟨v,rfl,rv⟩:=zeu r;obtain⟨a,xs,rfl,h1,h2⟩:=zat rv;have:=zfL h2;subst this;exact⟨a,ss,rfl,h1,e2,λl zs hl hz hs=>q zs hz hs _ Fz _ (.newL al hl (zew zs))⟩
section
variable {X:Cx}{e:Expr}{es:List Expr}{te:TPE}{t:TPA}{p p1 p2 pos pos2:Pos}
theorem zaU (hg:Gl X "len") (hm:X.mg "len" = none) (ha:PuA X (e::es) t) (he:autoParam (starEach (e::es) X.env=(false,eval e X.env)::starEach es X.env) aU0) (hpl:autoParam ((backTo pos (starEach es X.env)).any (·.1)=false) aU0):PuE X (.Call (.Name "len" p) (e::es) [] pos) (tB fLen t):=
 zcO zmD zsB hg hm bLen ha (by decide) (by decide) he hpl
theorem zmE (hg:Gl X "list") (hm:X.mg "list" = none) (ha:PuA X (e::es) t) (he:autoParam (starEach (e::es) X.env=(false,eval e X.env)::starEach es X.env) aU0) (hpl:autoParam ((backTo pos (starEach es X.env)).any (·.1)=false) aU0):PuE X (.Call (.Name "list" p) (e::es) [] pos) (tB zdA t):=
 zfI zhM zqM hg hm zov ha (by decide) (by decide) he hpl
theorem zhd (hg:Gl X "tuple") (hm:X.mg "tuple" = none) (ha:PuA X (e::es) t) (he:autoParam (starEach (e::es) X.env=(false,eval e X.env)::starEach es X.env) aU0) (hpl:autoParam ((backTo pos (starEach es X.env)).any (·.1)=false) aU0):PuE X (.Call (.Name "tuple" p) (e::es) [] pos) (tB zbS t):=
 zfI zgS zow hg hm zmB ha (by decide) (by decide) he hpl
theorem zoy (hg:Gl X "sorted") (hm:X.mg "sorted" = none) (ha:PuA X (e::es) t) (he:autoParam (starEach (e::es) X.env=(false,eval e X.env)::starEach es X.env) aU0) (hpl:autoParam ((backTo pos (starEach es X.env)).any (·.1)=false) aU0):PuE X (.Call (.Name "sorted" p) (e::es) [] pos) (tB zch t):=
 zcO zkX zox hg hm zmC ha (by decide) (by decide) he hpl
noncomputable def zbb (te:TPE):TPE:=λρ Q=>te ρ λd _=>∃ss:List Str,d=.lst (ss.map PV.str)/\ss.length<64/\∀zs,zs.Nodup->(∀x,x∈zs↔x∈ss)->sortedS zs=true->Q (.lst (zs.map PV.str)) .new
theorem zgy:∀(ys xs:List Str),xs.Nodup->(ys.foldl _J.addS xs).Nodup
 | [],_,h=>h
 | y::ys,xs,h=>by
  rw[List.foldl_cons];refine zgy ys _ ?_;unfold _J.addS;split
  ·exact h
  ·rename_i hy
   exact XT.mpr ⟨hy,h⟩
theorem zlc (hc:X.calm=true)(hg:Gl X "sorted") (hm:X.mg "sorted" = none) (hg2:Gl X "set") (hm2:X.mg "set" = none) (he:PuE X e te)
  (hs1:autoParam (starEach [e] X.env=(false,eval e X.env)::starEach [] X.env) aU0) (hpl1:autoParam ((backTo pos2 (starEach [] X.env)).any (·.1)=false) aU0)
  (hs2:autoParam (starEach [Expr.Call (.Name "set" p2) [e] [] pos2] X.env=(false,eval (Expr.Call (.Name "set" p2) [e] [] pos2) X.env)::starEach [] X.env) aU0) (hpl2:autoParam ((backTo pos (starEach [] X.env)).any (·.1)=false) aU0) :
  PuE X (.Call (.Name "sorted" p) [.Call (.Name "set" p2) [e] [] pos2] [] pos) (zbb te) where
 mono ρ Q Q' m h:=he.mono ρ _ _ (λd k q94q=>by obtain⟨ss,e1,e2,q⟩:=q94q;exact⟨ss,e1,e2,λzs h1 h2 h3=>m _ _ (q zs h1 h2 h3)⟩) h
 run:=PE.weak (zjC (zhV hc) hg hm zmC (zeP (zhK (zmo hc) hg2 hm2 bSet (zeP he.run zgs hs1) (by decide) (by decide) hs1 hpl1) zgs hs2) (by decide) (by decide) hs2 hpl2) λσ H Q h=>by
  obtain⟨ρ,Fz,R,h⟩:=h;refine⟨ρ,Fz,R,he.mono ρ _ _ (λd k q v F1 H1 p1=>?_) h⟩;obtain⟨ss,rfl,e2,q⟩:=q;obtain⟨a,xs,rfl,h1,h2⟩:=zat (p1.root R);have:=zfL h2;subst this;refine⟨a,ss,rfl,h1,by unfold scanBound;lia,λst hst=>?_⟩;have q1:=_J.zfE ss [];simp only[YC,Nat.zero_add]at q1;refine⟨st,_,rfl,zaj,by lia,λl zs hl hz hs=>?_⟩;have hne:l≠st:=λz=>by subst z;rw[zaj]at hl;cases hl
  have hl':H1 l=none:=by rw[zah hne]at hl;exact hl
  have x2:Ext F1 H1 F1 (upd H1 st (SetO X.prog X.w st (ss.foldl _J.addS []))):=Ext.laid ⟨Same.refl _,λ_ h=>h,λ_ h=>.inl h,p1.ext.al⟩ hst;have p3:Post X.K [] [] F1 (upd H1 st (SetO X.prog X.w st (ss.foldl _J.addS []))) F1 (upd (upd H1 st (SetO X.prog X.w st (ss.foldl _J.addS []))) l (.lst (zs.map V.str))) (.lst (zs.map PV.str)) .new (.ref l):=Post.newL x2.al hl (zew zs);refine q zs (hz.nodup_iff.mpr (zgy ss [] YL)) (λx=>?_) hs _ F1 _ (p3.behind (p1.ext.trans x2));rw[hz.mem_iff,_J.zhT];simp
end
noncomputable def tyP:PV->String
 | .non=>"NoneType"
 | .bl _=>"bool"
 | .int _=>"int"
 | .str _=>"str"
 | .ty _=>"type"
 | .tup _=>"tuple"
 | .lst _=>"list"
 | .dK _ _=>"dict"
 | .dT _ _=>"dict"
 | .obj _ _ _=>"object"
noncomputable def isObj:PV->Bool
 | .obj _ _ _=>true
 | _=>false
noncomputable def NoT (d:PV):Prop:=(∀n,d≠.ty n)/\isObj d=false
theorem zjX {X:Cx}{pins:List (Addr×Obj)}{σ:St}{H:Hp}{s:Shared}{Fz:FZ}{d:PV}{x:V}{u:Value}(I:Inv X pins σ H s)(r:Root X.K Fz H d x)(rx:RelV x u)(hd:NoT d):∃P:Heap->Prop,PySem.W.KitX X.K u (.type (tyP d)) P/\P s.heap/\u≠.builtin "__main__.__loader__#opaque":=by
 cases d with
 | non=>cases zca r;cases (show u=Value.none from rx);exact⟨_,PySem.W.kitx_none,True.intro,λz=>nomatch z⟩
 | bl y=>cases zfF r;cases (show u=Value.bool y from rx);exact⟨_,PySem.W.kitx_bool,True.intro,λz=>nomatch z⟩
 | int i=>cases zay r;obtain⟨t,q⟩:=(show ∃t,u=Value.int i t from rx);cases q;exact⟨_,PySem.W.kitx_int,True.intro,λz=>nomatch z⟩
 | str y=>cases zbk r;obtain⟨t,q⟩:=(show ∃t,u=Value.str y t from rx);cases q;exact⟨_,PySem.W.kitx_str,True.intro,λz=>nomatch z⟩
 | ty n=>exact absurd rfl (hd.1 n)
 | obj C ks ds=>exact absurd hd.2 (by simp[isObj])
 | lst ds=>
  obtain⟨a,xs,rfl,h1,_⟩:=zat r;cases (show u=Value.ref a from rx);obtain⟨its,_,⟨o,n,e,c,_⟩,_⟩:=I.list h1;exact⟨_,PySem.W.kitx_list,⟨o,e,c⟩,λz=>nomatch z⟩
 | tup ds=>
  obtain⟨a,xs,rfl,h1,_⟩:=zaL r;cases (show u=Value.ref a from rx);obtain⟨its,_,⟨o,e,c,_⟩,_⟩:=I.tuple h1;exact⟨_,PySem.W.kitx_tuple,⟨o,e,c⟩,λz=>nomatch z⟩
 | dK ks ds=>
  simp only[Root]at r;obtain⟨a,xs,rfl,h1,_⟩:=r;cases (show u=Value.ref a from rx);obtain⟨_,_,vs,_,o,es,ep,e,ex,_⟩:=zlR I.hok h1;exact⟨_,PySem.W.kitx_dict,⟨o,e,ex.1⟩,λz=>nomatch z⟩
 | dT ks ds=>
  simp only[Root]at r;obtain⟨a,xs,rfl,h1,_⟩:=r;cases (show u=Value.ref a from rx);obtain⟨_,_,vs,_,o,es,ep,e,ex,_⟩:=zoc I.hok h1;exact⟨_,PySem.W.kitx_dict,⟨o,e,ex.1⟩,λz=>nomatch z⟩
noncomputable def fIsi (K:Xa):PF:=λds Q=>(∃d c,ds=[d,.ty c]/\NoT d/\∃b,PySem.W.kitOne K (.type (tyP d)) (.type c)=some b/\Q (.bl b) .frz)\/
 ∃d es,ds=[d,.tup es]/\NoT d/\∃(cs:List String) (b:Bool),es=cs.map PV.ty/\PySem.W.kitAny K (.type (tyP d)) (cs.map Value.type)=some b/\Q (.bl b) .frz
noncomputable def zsC (K:Xa):List V->Hp->VK->Prop:=λxs H Q=>∃Fz d x b,Root K Fz H d x/\NoT d/\((∃c,xs=[x,.ty c]/\PySem.W.kitOne K (.type (tyP d)) (.type c)=some b)\/∃(p:Addr)(cs:List String),xs=[x,.ref p]/\SqT K H p (cs.map V.ty)/\PySem.W.kitAny K (.type (tyP d)) (cs.map Value.type)=some b)/\Q (.bl b) H
theorem zmF {X:Cx}:zdh X (.builtin "isinstance") (zsC X.K):=by
 intro pins s σ H xs us Q I r h;obtain⟨Fz,d,x,b,rt,hd,e,q⟩:=h;rcases e with ⟨c,rfl,e⟩ | ⟨p,cs,rfl,hp,e⟩
 ·obtain⟨u,w',rfl,r1,r2⟩:=vals2 r;cases r2;obtain⟨P,Z,hP,ne⟩:=zjX I rt r1 hd;exact PySem.W.kia_one Z I.kIn hP e ne λtk=>⟨.bl b,H,I.tok tk,rfl,q⟩
 ·obtain⟨u,w',rfl,r1,r2⟩:=vals2 r;cases r2;obtain⟨P,Z,hP,ne⟩:=zjX I rt r1 hd;obtain⟨its,rv,⟨⟨cls,dd,data,sl⟩,ho,hc,n,hdt⟩,hzz⟩:=I.tuple hp;simp only at hc hdt;subst hc hdt;have ei:its=cs.map Value.type:=by
   clear hp ho e hzz;induction cs generalizing its with
   | nil=>cases rv;rfl
   | cons c cs ih=>
    cases rv with
    | cons q1 q2=>rw[show _=Value.type c from q1,ih _ q2];rfl
  subst ei;exact PySem.W.kia_tup Z I.kIn hP ho e ne λtk=>⟨.bl b,H,I.tok tk,rfl,q⟩
theorem zjY {K:Xa}{Fz:FZ}{H:Hp}:∀ {ss:List String}{xs:List V},DenL K Fz H (ss.map PV.ty) xs->xs=ss.map V.ty
 | [],xs,h=>by rw[List.map_nil]at h;simp only[DenL]at h;exact h
 | s::r,xs,h=>by
  rw[Xy]at h;simp only[DenL]at h;obtain⟨v,t,z,h1,h2⟩:=h;simp only[Den]at h1;subst z h1;rw[Xy,zjY h2]
theorem zsD {K:Xa}:zeU K (zsC K) (fIsi K) where
 mono ds Q Q' m h:=by
  rcases h with ⟨d,c,e,hd,b,e2,q⟩ | ⟨d,es,e,hd,cs,b,e2,e3,q⟩
  ·exact .inl ⟨d,c,e,hd,b,e2,m _ _ q⟩
  ·exact .inr ⟨d,es,e,hd,cs,b,e2,e3,m _ _ q⟩
 run Fz H ds vs Q al r h:=by
  rcases h with ⟨d,c,rfl,hd,b,e,q⟩ | ⟨d,es,rfl,hd,cs,b,rfl,e,q⟩
  ·have q':=q (.bl b) Fz H (.val al (by simp only[Den]));obtain⟨v,u,rfl,r1,r2⟩:=zjW r;simp only[Root,Den]at r2;subst r2;exact⟨Fz,d,v,b,r1,hd,.inl ⟨c,rfl,e⟩,q'⟩
  ·have q':=q (.bl b) Fz H (.val al (by simp only[Den]));obtain⟨v,u,rfl,r1,r2⟩:=zjW r;obtain⟨a,xs,rfl,h1,h2⟩:=zaL r2;have:=zjY h2;subst this;exact⟨Fz,d,v,b,r1,hd,.inr ⟨a,cs,rfl,h1,e⟩,q'⟩
section
variable {X:Cx}{e:Expr}{es:List Expr}{te:TPE}{t:TPA}{p p1 p2 pos pos2:Pos}
theorem zgz {K:Xa}(hK:X.K=K)(hg:Gl X "isinstance") (hm:X.mg "isinstance" = none) (ha:PuA X (e::es) t) (he:autoParam (starEach (e::es) X.env=(false,eval e X.env)::starEach es X.env) aU0) (hpl:autoParam ((backTo pos (starEach es X.env)).any (·.1)=false) aU0):PuE X (.Call (.Name "isinstance" p) (e::es) [] pos) (tB (fIsi K) t):=by
 subst hK;exact zcO zmF zsD hg hm bIsi ha (by decide) (by decide) he hpl
end
noncomputable abbrev TPO:=PEnv->(Option Int->Prop)->Prop
noncomputable def zue (K:Xa)(t:TPO):TO:=λσ H Q=>∃ρ Fz,Rel K Fz ρ σ H/\t ρ λo=>∀Fz' H',Ext Fz H Fz' H'->Q o H'
structure PuO (X:Cx)(e:Option Expr)(t:TPO):Prop where
 mono:∀ρ Q Q',(∀o,Q o->Q' o)->t ρ Q->t ρ Q'
 run:PO X e (zue X.K t)
theorem PO.weak {X:Cx}{e:Option Expr}{t t':TO}(h:PO X e t)(w:∀σ H Q,t' σ H Q->t σ H Q):PO X e t':=λpins s σ H Q I q=>h pins s σ H Q I (w σ H Q q)
noncomputable def zdB:TPO:=λ_ Q=>Q none
noncomputable def zdC (te:TPE):TPO:=λρ Q=>te ρ λd _=>∃i,d=.int i/\Q (some i)
theorem zex {X:Cx}:PuO X none zdB where
 mono ρ Q Q' m h:=m _ h
 run:=PO.weak zqi λσ H Q h=>by
  obtain⟨ρ,Fz,R,h⟩:=h;exact h Fz H ⟨Same.refl H,λ_ h=>h,λ_ h=>.inl h,R.al⟩
theorem zby {X:Cx}{e:Expr}{te:TPE}(h:PuE X e te):PuO X (some e) (zdC te) where
 mono ρ Q Q' m q:=h.mono ρ _ _ (λd k q95q=>by obtain⟨i,e,q⟩:=q95q;exact⟨i,e,m _ q⟩) q
 run:=PO.weak (zqj h.run) λσ H Q q=>by
  obtain⟨ρ,Fz,R,q⟩:=q;exact⟨ρ,Fz,R,h.mono ρ _ _ (λd k q96q v F1 H1 p1=>by obtain⟨i,e,q⟩:=q96q;exact⟨i,by subst e;exact zay (p1.root R),q F1 H1 p1.ext⟩) q⟩
noncomputable def cutP (xs:List PV)(lo hi:Option Int):List PV:=(xs.drop (_H.sIx xs.length 0 lo)).take (_H.sIx xs.length xs.length hi-_H.sIx xs.length 0 lo)
noncomputable def pSlL (te:TPE)(tl th:TPO):TPE:=λρ Q=>te ρ λd _=>tl ρ λl=>th ρ λu=>∃ds,d=.lst ds/\Q (.lst (cutP ds l u)) .new
theorem zqN {K:Xa}{Fz:FZ}{H:Hp}{ds:List PV}{xs:List V}{lo hi:Option Int}(h:DenL K Fz H ds xs):DenL K Fz H (cutP ds lo hi) (cutV xs lo hi):=by
 unfold cutP cutV;rw[h.length];exact(h.drop _).take _
section
variable {X:Cx}{e a b:Expr}{te ta tb:TPE}{lo hi:Option Expr}{tl th:TPO}{pos p2:Pos}
theorem zcQ (he:PuE X e te)(hl:PuO X lo tl)(hu:PuO X hi th):PuE X (.Subscript e (.Slice lo hi none p2) pos) (pSlL te tl th) where
 mono ρ Q Q' m h:=he.mono ρ _ _ (λd k h=>hl.mono ρ _ _ (λl h=>hu.mono ρ _ _ (λu q97q=>by obtain⟨ds,e,q⟩:=q97q;exact⟨ds,e,m _ _ q⟩) h) h) h
 run:=PE.weak (zjE zqm he.run hl.run hu.run) λσ H Q h=>by
  obtain⟨ρ,Fz,R,h⟩:=h;refine⟨ρ,Fz,R,he.mono ρ _ _ (λd k q v F1 H1 p1=>?_) h⟩;refine⟨ρ,F1,R.ext p1.ext,hl.mono ρ _ _ (λl q F2 H2 x2=>?_) q⟩;refine⟨ρ,F2,(R.ext p1.ext).ext x2,hu.mono ρ _ _ (λu q3 F3 H3 x3=>?_) q⟩;obtain⟨ds,e3,q4⟩:=q3;subst e3;obtain⟨a,xs,rfl,h1,h2⟩:=zat (((p1.root R).mono x2.same x2.sub).mono x3.same x3.sub);exact⟨a,xs,rfl,h1,λp hp=>q4 _ F3 _ ((Post.newL x3.al hp (zqN h2)).behind (p1.ext.trans (x2.trans x3)))⟩
noncomputable def zsE (K:Xa):R2:=λx y H Q=>∃l b xs zs,x=.ref l/\y=.ref b/\(Rd H l (.lst xs)\/KX K l xs)/\(Rd H b (.lst zs)\/KX K b zs)/\xs.length+zs.length<=sizeLine/\∀p,H p=none->Q (.ref p) (upd H p (.lst (xs++zs)))
theorem zsF {pins:List (Addr×Obj)}{σ:St}{H:Hp}{s:Shared}{l:Addr}{xs:List V}(I:Inv X pins σ H s)(h:Rd H l (.lst xs)\/KX X.K l xs):∃(its:List Value)(n:Nat),Vals xs its/\s.heap.get? l=some { cls:=.type "list",data:=.seq its.toArray n }:=by
 rcases h with h | ⟨its,n,h1,_,h3⟩
 ·obtain⟨z,its,n,r,e⟩:=(show zbt X.prog X.w H s.heap l (.lst xs) from h.ok I.hok);exact⟨its,n,r,e⟩
 ·exact⟨its.toList,n,h3,by rw[Array.toArray_toList];exact I.kIn l _ h1⟩
theorem zqO:OpR X (binaryOp .Add) (zsE X.K):=by
 intro pins s σ H x y v u Q I rx ry h;obtain⟨l,b,xs,zs,rfl,rfl,hH,hB,hz,q⟩:=h;cases rx;cases ry;obtain⟨its,n,r,e⟩:=zsF I hH;obtain⟨its2,n2,r2,e2⟩:=zsF I hB;have l1:=r.length;have l2:=r2.length;refine PySem.P.add_list e e2 ?_ (by rw[Xj,Xj];lia);have ea:its.toArray++its2.toArray=(its++its2).toArray:=by simp
 rw[ea];exact⟨.ref _,_,I.lnew (t':=s.toks) (r.append r2) (by rw[Xq];lia),rfl,q _ I.fresh⟩
noncomputable def pCat:P2:=λd e Q=>∃ds es,d=.lst ds/\e=.lst es/\ds.length+es.length<=sizeLine/\Q (.lst (ds++es)) .new
theorem zsG {K:Xa}:POp K (zsE K) pCat where
 mono d e Q Q' m h:=by obtain⟨ds,es,e1,e2,e3,q⟩:=h;exact⟨ds,es,e1,e2,e3,m _ _ q⟩
 run Fz H x y d e Q al rx ry h:=by
  obtain⟨ds,es,rfl,rfl,e3,q⟩:=h;obtain⟨a,xs,rfl,h1,h2⟩:=zia rx;obtain⟨b,ys,rfl,g1,g2⟩:=zia ry;have l1:=h2.length;have l2:=g2.length;exact⟨a,b,xs,ys,rfl,rfl,h1,g1,by lia,λp hp=>q _ Fz _ (.newL al hp (h2.append g2))⟩
theorem zdp (ha:PuE X a ta)(hb:PuE X b tb):PuE X (.BinOp a .Add b pos) (t2 pCat ta tb):=zgX zqO zsG ha hb
end
theorem zjZ {K:Xa}{Fz:FZ}{H:Hp}{f:Str}{d:PV}:∀ {ks:List Str}{ds:List PV}{xs:List V},DenL K Fz H ds xs->(ks.zip ds).lookup f=some d->∃v,(ks.zip xs).lookup f=some v/\Den K Fz H d v
 | [],ds,xs,h,e=>by simp at e
 | k::ks,[],xs,h,e=>by simp at e
 | k::ks,d0::ds,xs,h,e=>by
  simp only[DenL]at h;obtain⟨v0,r,z,h1,h2⟩:=h;subst z;rw[Yc,Yl]at e ⊢;cases hk:(f == k)with
  | true=>rw[hk]at e;cases e;exact⟨v0,rfl,h1⟩
  | false=>rw[hk]at e;exact zjZ h2 e
theorem zdq {α β:Type}{f:Str}:∀ {ks:List Str}{xs:List α},f∉ks->(ks.zip xs).lookup f=none
 | [],xs,h=>by simp
 | k::ks,[],h=>by simp
 | k::ks,x::xs,h=>by
  rw[Yc,Yl];have h1:(f == k)=false:=by rw[beq_eq_false_iff_ne];exact λe=>h (e▸Xp ..)
  rw[h1];exact zdq (α:=α) (β:=β) λz=>h (Xn _ z)
theorem zjh {K:Xa}{Fz:FZ}{H:Hp}{C:Addr}{ks:List Str}{ds:List PV}{v:V}(h:Den K Fz H (.obj C ks ds) v):∃a dx xs,v=.ref a/\Fz a/\H a=some (.ins C dx (ks.zip xs))/\ks.length=xs.length/\DenL K Fz H ds xs:=by
 simpa only[Den]using h
section
variable {X:Cx}{o e:Expr}{es:List Expr}{te to:TPE}{t:TPA}{C:Addr}{f m:Str}{pos apos:Pos}
noncomputable def pFld (C:Addr)(f:Str)(te:TPE):TPE:=λρ Q=>te ρ λd _=>∃ks ds v,d=.obj C ks ds/\(ks.zip ds).lookup f=some v/\Q v .frz
theorem zbj (c:Cls X.K C)(n:zbX X.K C f)(he:PuE X e te)(hb:autoParam (attributeBase e f X.env (eval e X.env)=eval e X.env) aU0):PuE X (.Attribute e f pos) (pFld C f te) where
 mono ρ Q Q' mm h:=he.mono ρ _ _ (λd k q98q=>by obtain⟨ks,ds,v,e1,e2,q⟩:=q98q;exact⟨ks,ds,v,e1,e2,mm _ _ q⟩) h
 run:=PE.weak (zpn he.run hb) λσ H Q h=>by
  obtain⟨ρ,Fz,R,h⟩:=h;refine⟨ρ,Fz,R,he.mono ρ _ _ (λd k q v F1 H1 p1=>?_) h⟩;obtain⟨ks,ds,w,rfl,l,q⟩:=q;obtain⟨a,dx,xs,rfl,_,h1,h2,h3⟩:=zjh (p1.root R);obtain⟨u,l',dn⟩:=zjZ h3 l;exact⟨a,C,dx,_,u,rfl,h1,c,n,l',q u F1 H1 ⟨p1.ext,dn⟩⟩
noncomputable def zcq (C:Addr)(m:Str)(F:PF)(to:TPE)(t:TPA):TPE:=λρ Q=>to ρ λd _=>∃ks ds,d=.obj C ks ds/\m∉ks/\t ρ λops=>F (d::ops.map (·.1)) λd' k=>(noOwn ops=true\/zbG d' k=true)/\Q d' k
theorem zhe {pl:Sem Bool}{k:Nat}{fa:Addr}{fd:FuncData}{ps:List Str}{F:PF}(c:Cls X.K C)(hm:Meth X.K C m fa)(G:FnOk X.prog X.w X.K X.mg X.base CX0 k fa fd ps (spP X.K F))(mf:zaX F)(hr:Room k X.A)(hb:Binds X.K fd ps [])(ho:PuE X o to)(ha:PuA X (e::es) t)
  (hst:autoParam (starEach (e::es) X.env=(false,eval e X.env)::starEach es X.env) aU0) (hpl:autoParam ((backTo pos (starEach es X.env)).any (·.1)=false) aU0)
  (ht:autoParam (eval (.Call (.Attribute o m apos) (e::es) [] pos) X.env=(do
   let ov <- eval o X.env
   standAt apos.atName
   let (f,first) <- holding [ov] (getMethod ov m pl)
   callWith pos f first (backTo pos (starEach (e::es) X.env)) (backToKw pos (keywordEach [] X.env)))) aU0) :
  PuE X (.Call (.Attribute o m apos) (e::es) [] pos) (zcq C m F to t) where
 mono ρ Q Q' mm h:=ho.mono ρ _ _ (λd k q99q=>by obtain⟨ks,ds,e1,e2,h⟩:=q99q;exact⟨ks,ds,e1,e2,ha.mono ρ _ _ (λops h=>mf _ _ _ (λd k q=>⟨q.1,mm _ _ q.2⟩) h) h⟩) h
 run:=PE.weak (zlM (pl:=pl) ho.run c hm G hr hb .nil zkN ha.run hst hpl ht) λσ H Q h=>by
  obtain⟨ρ,Fz,R,h⟩:=h;refine⟨ρ,Fz,R,ho.mono ρ _ _ (λd kd q v F1 H1 p1=>?_) h⟩;obtain⟨ks,ds,rfl,hn,q⟩:=q;obtain⟨a,dx,xs,rfl,hf,h1,h2,h3⟩:=zjh (p1.root R);have dobj:Den X.K F1 H1 (.obj C ks ds) (.ref a):=p1.root R;refine⟨a,dx,_,rfl,h1,zdq (α:=V) (β:=V) hn,ρ,F1,R.ext p1.ext,ha.mono ρ _ _ (λops h vs F2 H2 x o=>?_) q⟩;show spP X.K F (.ref a::(vs++[])) H2 Q E0;rw[List.append_nil];by_cases hno:noOwn ops=true
  ·obtain⟨F3,x3,s3,h3'⟩:=o.frozen x hno;refine⟨F3,.obj C ks ds::ops.map (·.1),x3.al,DenL.cons (Den.mono (.of x3.same) (λb hb=>x3.sub b hb) _ _ dobj) h3',mf _ _ _ (λd k q v F4 H4 p4=>?_) h⟩;exact q.2 v F4 H4 (p4.behind (p1.ext.trans x3))
  ·obtain⟨F3,s3,a3,h3'⟩:=o.all (R.ext p1.ext) x;refine⟨F3,.obj C ks ds::ops.map (·.1),a3,DenL.cons (Den.mono (.of x.same) (λb hb=>s3 b (x.sub b hb)) _ _ dobj) h3',mf _ _ _ (λd k q v F4 H4 p4=>?_) h⟩;have nm:zbG d k=true:=q.1.resolve_left hno;have al:∀b,F2 b->H4 b≠none:=λb hb z=>x.al b hb (p4.ext.same.free z);refine q.2 v F2 H4 ⟨⟨p1.ext.same.trans (x.same.trans p4.ext.same),λb hb=>x.sub b (p1.ext.sub b hb),λb hb=>?_,al⟩,?_⟩
   ·rcases x.new b hb with z | z
    ·exact p1.ext.new b z
    ·exact .inr (p1.ext.same.free z)
   ·exact((zgw nm x.al p4.opd).up).back (p1.ext.same.trans x.same)
end
structure Fx (K:Xa)(mg:Str->Option Value)(x:Str)(st:Stmt)(ps:List Str)(f:Addr)(fd:FuncData):Prop where
 fn:Fun K x x st f fd
 bd:Binds K fd ps []
 mg:mg x=some (.ref f)
structure Bl (mg:Str->Option Value):Prop where
 range:mg "range" = none
 len:mg "len" = none
 list:mg "list" = none
 tuple:mg "tuple" = none
 sorted:mg "sorted" = none
 set:mg "set" = none
 isi:mg "isinstance" = none
 str:mg "str" = none
 int:mg "int" = none
 bool:mg "bool" = none
 dict:mg "dict" = none
 enumerate:mg "enumerate" = none
 zip:mg "zip" = none
 min:mg "min" = none
 max:mg "max" = none
 sum:mg "sum" = none
 all:mg "all" = none
 any:mg "any" = none
 reversed:mg "reversed" = none
 abs:mg "abs" = none
 ord:mg "ord" = none
theorem zmG {K:Xa}{T c:String}{b:Bool}(h1:PySem.W.kitMeta c=true)(h2:(fastBuiltinMro T).map (·.contains (.type c))=some b)(h3:(Value.type T == Value.type c)=false):PySem.W.kitOne K (.type T) (.type c)=some b:=by
 unfold PySem.W.kitOne PySem.W.kitCls;rw[if_neg (by rw[h3];decide)];dsimp only;rw[if_pos h1];exact h2
theorem zey {K:Xa}{T:String}:PySem.W.kitOne K (.type T) (.type T)=some true:=by
 unfold PySem.W.kitOne;rw[if_pos (by simp)]
theorem zii {K:Xa}:PySem.W.kitOne K (.type "int") (.type "bool")=some false:=zmG (by decide +kernel) (by decide +kernel) (by decide +kernel)
theorem loc2 {k i j:Nat}(h:i<k)(h2:j<k):zsv k (zbg (zaZ i) (zbg (zaZ j) zdc)):=λds ρ Q ⟨d,r,e,d2,r2,e2,q⟩=>
 ⟨d,r,e,d2,r2,e2,q.1,q.2,by rw[Ya,Ya],λl hl=>by rw[Xh (by lia),Xh (by lia)]⟩
theorem zmH {P:Program}{w:World}{K:Xa}{mg mb:Str->Option Value}{CX:CXT}{k:Nat}{fa a:Addr}{fd:FuncData}{x:Str}{sp:Sp}{s₁:Shared}{vs:List Value}{ns:List Int}
  (KX:K.In s₁.heap) (hns:s₁.heap.Ns mainGlobals mg) (hb:s₁.heap.Ns builtinsNs mb) (hbb:∀x:Str,x≠"__name__"->mb x=bootBuiltins x) (hlim:s₁.heap.NoLimit) (hg:s₁.gens = #[])
  (ha:s₁.heap.get? a=some { cls:=.type "list",data:=.seq vs.toArray }) (hi:IntsAre vs ns) (hl:ns.length<=sizeLine) (hr:Room k callerA)
  (F:∀base:Heap,K.In base->base.Ns mainGlobals mg->FnOk P w K mg base CX k fa fd [x] sp) (hbind:∀(s:Shared) (u:Value),BindsTo s fd ⟨[u],[]⟩ [(x,u)])
  (hsp:∀H:Hp,Only H->(Rd H a (.lst (ns.map V.int))\/_P.KX K a (ns.map V.int))->sp [.ref a] H (λv _=>v=.bl true) λ_ _ _=>False)
  (hCX:∀H e s',CX [] H s₁ (λ_ _ _=>False) e s'->False) :
  codeAny (model P w) callerA (.call (.ref fa) ⟨[.ref a],[]⟩) (λr s'=>r=.ok (.ret (.bool true))/\OldK s₁.heap s'.heap/\s'.os=s₁.os/\AllBare s'.gens) s₁:=by
 have rv:=zhP hi;have lenV:=hi.length;have core:∀H:Hp,Only H->(Rd H a (.lst (ns.map V.int))\/_P.KX K a (ns.map V.int))->HOk P w H s₁.heap->(∀b,H b≠none->b=a)->(H a≠none->K.lookup a=none)->
   codeAny (model P w) callerA (.call (.ref fa) ⟨[.ref a],[]⟩) (λr s'=>r=.ok (.ret (.bool true))/\OldK s₁.heap s'.heap/\s'.os=s₁.os/\AllBare s'.gens) s₁:=by
  intro H hO hS hok hA hK;have base_of:∀ {b:Addr} {o:Obj},s₁.heap.get? b=some o->H b=none->(hidT s₁.heap H).get? b=some o:=λe n=>znQ e n;have noA:∀ {b:Addr} {o:Obj} {es:Array DictEntry} {ep:Nat},s₁.heap.get? b=some o->o.data=.dict es ep->H b=none:=λ{b o es ep} e d=>by
   cases q:H b with
   | none=>rfl
   | some u=>
    have e':b=a:=hA b (by rw[q];simp);subst e';rw[ha]at e;cases e;have d':Data.seq vs.toArray _=Data.dict es ep:=d;cases d'
  have nsK:∀ {b:Addr} {m:Str->Option Value},s₁.heap.Ns b m->(hidT s₁.heap H).Ns b m:=λ{b m} ⟨o,es,ep,e,d,r⟩=>⟨o,es,ep,base_of e (noA e d),d,r⟩;have hKb:K.In (hidT s₁.heap H):=λb o e=>base_of (KX b o e) (by
   cases q:H b with
   | none=>rfl
   | some u=>
    have e':b=a:=hA b (by rw[q];simp);subst e';rw[hK (by rw[q];simp)]at e;cases e)
  have hM:Mod K mg (hidT s₁.heap H):=⟨hKb,nsK hns,⟨mb,nsK hb,hbb⟩,let ⟨mc,h1,h2⟩:=hlim;⟨mc,nsK h1,h2⟩⟩;have e0:Env0 P w K mg (hidT s₁.heap H) callerA [] s₁ H:=⟨rfl,hM,λb o e=>zpP e,Nat.le_of_eq (zly _ _),trivial,λb hb=>absurd (show b∈([]:List Addr) from hb) (by simp),hok,.of_eq hg⟩;refine codeAny_mono ((F _ hKb (nsK hns)).run callerA [] s₁ H ⟨[.ref a],[]⟩ [.ref a] [.ref a] _ _ hr e0 (hbind s₁ (.ref a)) (.cons rfl .nil) (hsp H hO hS)) λr s' h=>?_;cases r with
  | error e=>exact(hCX H e s' h).elim
  | ok fl=>
   cases fl with
   | next=>exact False.elim h
   | brk=>exact False.elim h
   | cont=>exact False.elim h
   | ret u=>
    obtain⟨v,H',os,bare,un,hok',r',q⟩:=h;have q':v=.bl true:=q;subst q';obtain rfl:u=Value.bool true:=r';refine⟨rfl,OldK.of_keep λb o e=>?_,os,bare⟩;cases q:H b with
    | none=>exact un.keep b o e q (by intro z;exact absurd (show b∈([]:List Addr) from z) (by simp)) (by simp)
    | some u=>
     rcases hO b with z | ⟨ob,xs,z⟩
     ·rw[q]at z;cases z
     ·have z2:=un.frzs b ob _ z;obtain⟨e1,_⟩:=hok b _ z;obtain⟨e2,_⟩:=hok' b _ z2;rw[e]at e1;cases e1;exact e2
 cases hk:K.lookup a with
 | some o=>
  have e:=KX a o hk;rw[ha]at e;cases e;refine core (λ_=>none) (λ_=>.inl rfl) (.inr ⟨vs.toArray,_,hk,by rw[Xj,lenV];exact hl,by simpa using rv⟩) (λb u z=>by have z':(none:Option HO)=some u:=z;cases z') (λb z=>absurd rfl z) λz=>absurd rfl z
 | none=>
  refine core (λb=>if b=a then some (.frz { cls:=.type "list",data:=.seq vs.toArray } (.lst (ns.map V.int))) else none) (λb=>?_) (.inl (.inr ⟨{ cls:=.type "list",data:=.seq vs.toArray },if_pos rfl⟩)) (λb u z=>?_) (λb z=>?_) λ_=>hk
  ·by_cases hb:b=a
   ·exact .inr ⟨_,_,if_pos hb⟩
   ·exact .inl (if_neg hb)
  ·by_cases hb:b=a
   ·have z':=(if_pos hb).symm.trans z;cases z';subst hb;exact⟨ha,by rw[Xb];exact hl,vs,_,rv,ha⟩
   ·have z':=(if_neg hb).symm.trans z;cases z'
  ·by_cases hb:b=a
   ·exact hb
   ·exact absurd (if_neg hb) z
theorem zij {K:Xa}{Fz:FZ}{H:Hp}:∀(ns:List Int),DenL K Fz H (ns.map PV.int) (ns.map V.int)
 | []=>DenL.nil
 | n::r=>by rw[Xy,Xy];exact DenL.cons (by simp only[Den]) (zij r)
theorem zsH {K:Xa}{H:Hp}{a:Addr}{ns:List Int}{F:PF}{E:XK}(m:zaX F)(h:Rd H a (.lst (ns.map V.int))\/KX K a (ns.map V.int))(hF:F [.lst (ns.map PV.int)] λd k=>d=.bl true):spP K F [.ref a] H (λv _=>v=.bl true) E:=by
 refine⟨λb=>H b≠none,[.lst (ns.map PV.int)],λb hb=>hb,DenL.cons ?_ DenL.nil,m _ _ _ (λd k e v F' H' p=>?_) hF⟩
 ·simp only[Den];refine⟨a,ns.map V.int,rfl,?_,zij ns⟩;rcases h with h | h
  ·refine .inl ⟨?_,h⟩;rcases h with h | ⟨o,h⟩<;>(show H a≠none;rw[h];exact λz=>nomatch z)
  ·exact .inr h
 ·subst e;cases k with
  | frz=>have q:Den K F' H' (.bl true) v:=p.opd;simpa only[Den]using q
  | new=>obtain⟨b,_,_,_,o⟩:=p.opd;exact o.elim
  | own i=>obtain⟨z,_⟩:=p.opd;simp at z
end _P
namespace _L
open PySem PySem.Spec PyProof.Rows
noncomputable def zcY (d:Addr)(H:Hp):Hp:=match H d with
 | some (.frz _ u)=>upd H d u
 | _=>H
noncomputable def Sw:HO->Prop
 | .dK _=>True
 | .dT _=>True
 | .frz _ _=>True
 | _=>False
section
variable {X:Cx}{pins:List (Addr×Obj)}{σ:List (Option V)}{H:Hp}{s:Shared}{d:Addr}{u v:HO}
theorem HOk.swap {P:Program}{w:World}{h:Heap}(ok:HOk P w H h)(e:H d=some u)(hu:Sw u)(new:zbt P w (upd H d v) h d v):HOk P w (upd H d v) h:=λb o q=>by
 by_cases hb:b=d
 ·subst hb;rw[zaj]at q;cases q;exact new
 ·rw[zah hb]at q;refine(ok b o q).stay (λc v hc r=>r) (λc r=>?_) λc xs r=>?_
  ·have ne:c≠d:=λz=>by subst z;rw[e]at r;cases r;exact hu
   rw[zah ne];exact r
  ·have ne:c≠d:=λz=>by subst z;rw[e]at r;cases r;exact hu
   rw[zah ne];exact r
theorem Inv.swap (I:Inv X pins σ H s)(e:H d=some u)(hu:Sw u)(hf:∀o t,X.H₀ d≠some (.frz o t))(new:zbt X.prog X.w (upd H d v) s.heap d v):Inv X pins σ (upd H d v) s:=by
 have ne:∀b,H b=none->b≠d:=λb n z=>by subst z;rw[e]at n;cases n
 refine⟨I.ok,I.os,I.bare,⟨I.base.keep,I.base.slot,λb o q n hx=>?_,I.base.there,λb xs q=>?_,λb o t q=>?_,λb ps q=>?_⟩,I.loc,I.cell,?_,λx c q=>?_,λp hp=>?_,I.hok.swap e hu new,I.len⟩
 ·have:=I.base.free b o q n hx;rw[zah (ne b this)];exact this
 ·have:=I.base.tups b xs q;have nb:b≠d:=λz=>by subst z;rw[e]at this;cases this;exact hu
  rw[zah nb];exact this
 ·have nb:b≠d:=λz=>by subst z;exact hf o t q
  rw[zah nb];exact I.base.frzs b o t q
 ·obtain⟨more,q'⟩:=I.base.tbls b ps q;have nb:b≠d:=λz=>by subst z;rw[e]at q';cases q';exact hu
  exact⟨more,by rw[zah nb];exact q'⟩
 ·rw[zah (ne _ I.free)];exact I.free
 ·rw[zah (ne _ (I.freeC x c q))];exact I.freeC x c q
 ·obtain⟨p1,p2,p3⟩:=I.pin p hp;exact⟨p1,by rw[zah (ne _ p2)];exact p2,p3⟩
theorem Inv.zsI (I:Inv X pins σ H s)(e:H d=some u)(hu:∀o t,u≠.frz o t):∀o t,X.H₀ d≠some (.frz o t):=λo t q=>by
 have:=I.base.frzs d o t q;rw[e]at this;exact hu o t (Option.some.inj this)
theorem Inv.zqP {kvs:List (Key×V)}(I:Inv X pins σ H s)(e:H d=some (.dK kvs)):∃o,s.heap.get? d=some o/\Inv X pins σ (upd H d (.frz o (.dK kvs))) s:=by
 obtain⟨z1,z2,vs,r,o,es,ep,ho,rest⟩:=(show zbt X.prog X.w H s.heap d (.dK kvs) from I.hok d _ e);exact⟨o,ho,I.swap e trivial (I.zsI e λ_ _ z=>nomatch z) ⟨ho,z1,z2,vs,r,o,es,ep,ho,rest⟩⟩
theorem Inv.thaw (I:Inv X pins σ H s)(hf:∀o t,X.H₀ d≠some (.frz o t)):Inv X pins σ (zcY d H) s:=by
 unfold zcY;split
 ·rename_i o t e
  obtain⟨ho,ot⟩:=(show zbt X.prog X.w H s.heap d (.frz o t) from I.hok d _ e);refine I.swap e trivial hf ?_;refine ot.stay (λc v hc r=>r) (λc r=>?_) λc xs r=>?_
  ·have ne:c≠d:=λz=>by subst z;rw[e]at r;cases r
   rw[zah ne];exact r
  ·have ne:c≠d:=λz=>by subst z;rw[e]at r;cases r
   rw[zah ne];exact r
 ·exact I
end
section
variable {P:Program}{w:World}{K:Xa}{tg:Expr}
theorem zsJ {kvs:List (Key×V)}{vs:List (Key×Value)}{i:Nat}{kv:Key×V}(r:KV kvs vs)(h:kvs[i]? = some kv):∃u,vs[i]? = some (kv.1,u)/\RelV kv.2 u:=by
 induction r generalizing i with
 | nil=>simp at h
 | @cons p q ps qs h1 h2 ih=>
  cases i with
  | zero=>simp at h;subst h;exact⟨q.2,by simp[h1.1],h1.2⟩
  | succ i=>simpa using ih (by simpa using h)
theorem zqQ {k:Key}{u:Value}(h:(zaK P w).is k u=true):RelV (kV k) u:=by
 have h':ziT k u=true:=h;rcases zaJ h' with ⟨i,t,rfl,rfl⟩ | ⟨x,t,rfl,rfl⟩
 ·exact⟨t,rfl⟩
 ·exact⟨t,rfl⟩
theorem zka {X:Cx}{pins:List (Addr×Obj)}{σ:St}{H:Hp}{s:Shared}{d:Addr}{o:Obj}{kvs:List (Key×V)}(I:Inv X pins σ H s)(e:H d=some (.frz o (.dK kvs))):s.heap.get? d=some o/\(d == sysModules)=false/\∃vs ep,KV kvs vs/\s.heap.DictAt (zaK X.prog X.w) d vs ep:=by
 obtain⟨ho,_,hs,vs,r,hd⟩:=(show zbt X.prog X.w H s.heap d (.frz o (.dK kvs)) from I.hok d _ e);obtain⟨ep,hd⟩:=hd.dictAt;exact⟨ho,hs,vs,ep,r,hd⟩
theorem zmI {X:Cx}{pins:List (Addr×Obj)}{σ:St}{H:Hp}{s:Shared}{d:Addr}{o:Obj}{kvs:List (Key×V)}{es:Array DictEntry}{ep:Nat}(I:Inv X pins σ H s)(e:H d=some (.frz o (.dK kvs)))(hd:o.data=.dict es ep):(d == sysModules)=false/\∃vs,KV kvs vs/\s.heap.DictAt (zaK X.prog X.w) d vs ep:=by
 obtain⟨ho,hs,vs,ep',r,o',es',ho',c,hd',rest⟩:=zka I e;rw[ho]at ho';cases ho';rw[hd]at hd';injection hd' with e1 e2;subst e1 e2;exact⟨hs,vs,r,o,es,ho,c,hd,rest⟩
end
section
variable {X:Cx}{tg l:Expr}{td:TE}{apos cpos:Pos}
noncomputable def zld (X:Cx)(d:Addr):Prop:=∀o t,X.H₀ d≠some (.frz o t)
noncomputable def iD (X:Cx)(It':Addr->Obj->List (Key×V)->It)(td:TE):TI:=λσ H R=>td σ H λx H1=>∃d kvs,x=.ref d/\((H1 d=some (.dK kvs)/\(zld X d->∀o,R (It' d o kvs) (upd H1 d (.frz o (.dK kvs)))))\/∃o,H1 d=some (.frz o (.dK kvs))/\R (It' d o kvs) H1)
theorem zsK {It':Addr->Obj->List (Key×V)->It}{pins:List (Addr×Obj)}{σ:St}{H1:Hp}{s:Shared}{R:It->Hp->Prop}{d:Addr}{kvs:List (Key×V)}(I:Inv X pins σ H1 s)(h:(H1 d=some (.dK kvs)/\(zld X d->∀o,R (It' d o kvs) (upd H1 d (.frz o (.dK kvs)))))\/∃o,H1 d=some (.frz o (.dK kvs))/\R (It' d o kvs) H1) :
  ∃(o:Obj) (es:Array DictEntry) (ep:Nat) (H2:Hp),o.data=.dict es ep/\Inv X pins σ H2 s/\H2 d=some (.frz o (.dK kvs))/\R (It' d o kvs) H2:=by
 have dat:∀ {H2:Hp} {o:Obj},Inv X pins σ H2 s->H2 d=some (.frz o (.dK kvs))->∃es ep,o.data=.dict es ep:=λ{H2 o} I2 e=>by
  obtain⟨ho,_,vs,ep,_,o',es,ho',_,hd',_⟩:=zka I2 e;rw[ho]at ho';cases ho';exact⟨es,ep,hd'⟩
 rcases h with ⟨e,h⟩ | ⟨o,e,h⟩
 ·obtain⟨o,ho,I2⟩:=I.zqP e;obtain⟨es,ep,q⟩:=dat I2 zaj;exact⟨o,es,ep,_,q,I2,zaj,h (I.zsI e λ_ _ z=>nomatch z) o⟩
 ·obtain⟨es,ep,q⟩:=dat I e;exact⟨o,es,ep,H1,q,I,e,h⟩
noncomputable def zkb (X:Cx)(D:Ends):Ends:=⟨λσ H=>D.nx σ H\/∃d,zld X d/\D.nx σ (zcY d H),λv H=>D.rt v H\/∃d,zld X d/\D.rt v (zcY d H),λσ H=>D.bk σ H\/∃d,zld X d/\D.bk σ (zcY d H),λσ H=>D.ct σ H\/∃d,zld X d/\D.ct σ (zcY d H)⟩
theorem PS.star {X:Cx}{st:Stmt}{t:TS}(h:PS X st t):PS X st (λD σ H=>t (zkb X D) σ H):=by
 intro pins s σ H D I q;refine thn (h pins s σ H (zkb X D) I q) λf s1 q1=>?_;cases f with
 | next=>
  obtain⟨σ',H',I',q' | ⟨d,hf,q'⟩⟩:=q1
  ·exact⟨σ',H',I',q'⟩
  ·exact⟨σ',_,I'.thaw hf,q'⟩
 | brk=>
  obtain⟨σ',H',I',q' | ⟨d,hf,q'⟩⟩:=q1
  ·exact⟨σ',H',I',q'⟩
  ·exact⟨σ',_,I'.thaw hf,q'⟩
 | cont=>
  obtain⟨σ',H',I',q' | ⟨d,hf,q'⟩⟩:=q1
  ·exact⟨σ',H',I',q'⟩
  ·exact⟨σ',_,I'.thaw hf,q'⟩
 | ret u=>
  obtain⟨v,σ',H',I',r',q' | ⟨d,hf,q'⟩⟩:=q1
  ·exact⟨v,σ',H',I',r',q'⟩
  ·exact⟨v,σ',_,I'.thaw hf,r',q'⟩
end
end _L
namespace _P
open PySem PySem.Spec _L
open PyProof.Rows hiding St
noncomputable def keyP:Key->PV
 | .inl i=>.int i
 | .inr x=>.str x
theorem zqR {K:Xa}{Fz:FZ}{H:Hp}(k:Key):Den K Fz H (keyP k) (kV k):=by
 cases k<;>simp only[keyP,kV,Den]
theorem zip_get {ks:List Key}{xs:List V}{i:Nat}{kv:Key×V}(h:(ks.zip xs)[i]? = some kv):ks[i]? = some kv.1/\xs[i]? = some kv.2:=by
 rw[List.getElem?_zip_eq_some]at h;exact h
section
variable {K:Xa}{Fz F':FZ}{ρ:PEnv}{σ:St}{H H1 H':Hp}{d:Addr}{o:Obj}{kvs:List (Key×V)}
theorem zfM (e:H1 d=some (.dK kvs)):Keep Fz H1 (upd H1 d (.frz o (.dK kvs))) where
 rd' b u pl f r:=by
  by_cases hb:b=d
  ·subst hb;rcases r with r | ⟨o',r⟩
   ·rw[e]at r;cases r;exact .inr ⟨o,zaj⟩
   ·rw[e]at r;cases r
  ·rcases r with r | ⟨o',r⟩
   ·exact .inl (by rw[zah hb];exact r)
   ·exact .inr ⟨o',by rw[zah hb];exact r⟩
 tup b xs r:=by
  have hb:b≠d:=λz=>by subst z;rw[e]at r;cases r
  rw[zah hb];exact r
 ins b C dx fs _ r:=by
  have hb:b≠d:=λz=>by subst z;rw[e]at r;cases r
  rw[zah hb];exact r
theorem zdT {u:HO}(e:H' d=some (.frz o u)):zcY d H'=upd H' d u:=by unfold zcY;rw[e]
theorem zik (e:H' d=some (.frz o (.dK kvs))):Keep F' H' (zcY d H') where
 rd' b u pl f r:=by
  rw[zdT e];by_cases hb:b=d
  ·subst hb;rcases r with r | ⟨o',r⟩
   ·rw[e]at r;cases r;exact pl.elim
   ·rw[e]at r;cases r;exact .inl zaj
  ·rcases r with r | ⟨o',r⟩
   ·exact .inl (by rw[zah hb];exact r)
   ·exact .inr ⟨o',by rw[zah hb];exact r⟩
 tup b xs r:=by
  rw[zdT e];have hb:b≠d:=λz=>by subst z;rw[e]at r;cases r
  rw[zah hb];exact r
 ins b C dx fs _ r:=by
  rw[zdT e];have hb:b≠d:=λz=>by subst z;rw[e]at r;cases r
  rw[zah hb];exact r
theorem Rel.keep (R:Rel K Fz ρ σ H)(kp:Keep Fz H H')(ha:∀b,Fz b->H' b≠none)(ho:∀a w,¬ Fz a->H a=some w->H' a=some w):Rel K Fz ρ σ H':=
 ⟨ha,R.len,λi d e=>by
  obtain⟨v,q1,q2⟩:=R.frz i d e;exact⟨v,q1,Den.mono kp (λ_ h=>h) _ _ q2⟩,λi d e=>by
  obtain⟨a,q1,q2,q3⟩:=R.own i d e;exact⟨a,q1,q2,q3.mono kp (λ_ h=>h) λw hw=>ho a w q2 hw⟩,R.inj⟩
theorem Rel.freeze (R:Rel K Fz ρ σ H1)(f:Fz d)(e:H1 d=some (.dK kvs)):Rel K Fz ρ σ (upd H1 d (.frz o (.dK kvs))):=
 R.keep (zfM e) (λb hb=>by
  by_cases z:b=d
  ·subst z;rw[zaj];exact λz=>nomatch z
  ·rw[zah z];exact R.al b hb) λa w na hw=>by
  have:a≠d:=λz=>by subst z;exact na f
  rw[zah this];exact hw
theorem Rel.thaw (R:Rel K F' ρ σ H')(f:F' d)(e:H' d=some (.frz o (.dK kvs))):Rel K F' ρ σ (zcY d H'):=by
 have kp:=zik (F':=F') e;rw[zdT e]at kp ⊢;exact R.keep kp (λb hb=>by
  by_cases z:b=d
  ·subst z;rw[zaj];exact λz=>nomatch z
  ·rw[zah z];exact R.al b hb) λa w na hw=>by
  have:a≠d:=λz=>by subst z;exact na f
  rw[zah this];exact hw
theorem Step.thaw (s:Step ρ σ Fz (upd H1 d (.frz o (.dK kvs))) F' H')(e:H1 d=some (.dK kvs))(no:¬ zbh ρ σ d):Step ρ σ Fz H1 F' (zcY d H'):=by
 have e':H' d=some (.frz o (.dK kvs)):=s.keep d _ zaj no;rw[zdT e'];refine⟨s.sub,λb hb=>?_,λb w hw n=>?_⟩
 ·rcases s.new b hb with z | z | z
  ·exact .inl z
  ·by_cases hbd:b=d
   ·subst hbd;rw[zaj]at z;cases z
   ·rw[zah hbd]at z;exact .inr (.inl z)
  ·exact .inr (.inr z)
 ·by_cases hbd:b=d
  ·subst hbd;rw[e]at hw;cases hw;exact zaj
  ·rw[zah hbd];exact s.keep b w (by rw[zah hbd];exact hw) n
end
noncomputable def dgP {κ:Type} [DecidableEq κ] (ks:List κ)(ds:List PV)(k:κ):Option PV:=((ks.zip ds).find? λkv=>decide (kv.1=k)).map (·.2)
section
variable {K:Xa}{Fz:FZ}{H:Hp}
theorem zpu {κ:Type} [DecidableEq κ]:∀(ks:List κ)(ds:List PV)(xs:List V)(k:κ),DenL K Fz H ds xs->(∀d,dgP ks ds k=some d->∃v,valV (ks.zip xs) k=some v/\Den K Fz H d v)/\(dgP ks ds k=none->valV (ks.zip xs) k=none)
 | [],ds,xs,k,h=>⟨λd e=>by simp[dgP]at e,λ_=>rfl⟩
 | c::ks,[],xs,k,h=>by
  simp only[DenL]at h;subst h;exact⟨λd e=>by simp[dgP]at e,λ_=>rfl⟩
 | c::ks,d0::ds,xs,k,h=>by
  simp only[DenL]at h;obtain⟨v,r,rfl,h1,h2⟩:=h;have ih:=zpu ks ds r k h2;by_cases e:c=k
  ·subst e;refine⟨λd hd=>⟨v,by simp[valV],?_⟩,λhn=>?_⟩
   ·have:d0=d:=by simpa[dgP]using hd
    subst this;exact h1
   ·simp[dgP]at hn
  ·refine⟨λd hd=>?_,λhn=>?_⟩
   ·have:dgP ks ds k=some d:=by simpa[dgP,Ys,e]using hd
    obtain⟨w,q1,q2⟩:=ih.1 d this;exact⟨w,by simpa[valV,Ys,e]using q1,q2⟩
   ·have:dgP ks ds k=none:=by simpa[dgP,Ys,e]using hn
    have:=ih.2 this;simpa[valV,Ys,e]using this
theorem zkc {k:Key}{x:V}(h:Root K Fz H (keyP k) x):x=kV k:=by
 cases k<;>simpa only[keyP,kV,Root,Den]using h
theorem zqS {ks:List Key}{ds:List PV}{x:V}(h:Root K Fz H (.dK ks ds) x):∃a xs,x=.ref a/\Rd H a (.dK (ks.zip xs))/\ks.length=xs.length/\DenL K Fz H ds xs:=by
 simpa only[Root]using h
noncomputable def rDG:R2:=λx y H Q=>∃a v,x=.ref a/\DGet H a y (some v)/\Q v H
noncomputable def pDG:P2:=λd e Q=>∃ks ds k v,d=.dK ks ds/\e=keyP k/\dgP ks ds k=some v/\Q v .frz
theorem zsL:POp K rDG pDG where
 mono d e Q Q' m h:=by obtain⟨ks,ds,k,v,e1,e2,e3,q⟩:=h;exact⟨ks,ds,k,v,e1,e2,e3,m _ _ q⟩
 run Fz H x y d e Q al rx ry h:=by
  obtain⟨ks,ds,k,d',rfl,rfl,e3,q⟩:=h;obtain⟨a,xs,rfl,r,hl,hd⟩:=zqS rx;obtain rfl:=zkc ry;obtain⟨v,e4,h4⟩:=(zpu ks ds xs k hd).1 d' e3;exact⟨a,v,rfl,.inl ⟨_,k,r,rfl,e4.symm⟩,q v Fz H (.val al h4)⟩
end
section
variable {X:Cx}{a b:Expr}{ta tb:TPE}{pos:Pos}
theorem zmJ (hu:X.A.units+1<cLine)(ha:PuE X a ta)(hb:PuE X b tb)(hs:autoParam (NoSl b) aU6):PuE X (.Subscript a b pos) (t2 pDG ta tb):=
 ⟨zeT zsL ha hb,PE.weak (zqs hu ha.run hb.run hs) λ_ _ _ h=>zhY zsL ha hb h⟩
end
noncomputable def zdU:PF:=λds Q=>∃i j:Int,ds=[.int i,.int j]/\Q (.int (if j > i then j else i)) .frz
theorem zqT {K:Xa}:zeU K (λxs H Q=>∃i j,xs=[V.int i,.int j]/\Q (.int (if j > i then j else i)) H) zdU where
 mono ds Q Q' m h:=by obtain⟨i,j,e,q⟩:=h;exact⟨i,j,e,m _ _ q⟩
 run Fz H ds vs Q al hr h:=by
  obtain⟨i,j,rfl,q⟩:=h;obtain⟨u,v,rfl,h1,h2⟩:=zjW hr;exact⟨i,j,by rw[zay h1,zay h2],q _ Fz H (.val al (by simp only[Den]))⟩
section
variable {X:Cx}{e:Expr}{es:List Expr}{t:TPA}{p pos:Pos}
theorem zqU (hc:X.calm=true)(hg:Gl X "max") (hm:X.mg "max" = none) (ha:PuA X (e::es) t) (he:autoParam (starEach (e::es) X.env=(false,eval e X.env)::starEach es X.env) aU0) (hpl:autoParam ((backTo pos (starEach es X.env)).any (·.1)=false) aU0):PuE X (.Call (.Name "max" p) (e::es) [] pos) (tB zdU t):=
 zcO (zlI hc) zqT hg hm bMax ha (by decide) (by decide) he hpl
end
theorem DenL.rew' {K:Xa}{Fz:FZ}{H:Hp}{ds:List PV}{xs:List V}{a:Addr}{o u:HO}(ha:H a=some u)(hi:¬ Imm u)(nf:¬ Fz a)(h:DenL K Fz H ds xs):DenL K Fz (upd H a o) ds xs:=
 DenL.mono (.mk' λb w e hw=>by
  have ne:b≠a:=λz=>by
   subst z;rcases hw with hw | hw
   ·exact nf hw
   ·rw[ha]at e;cases e;exact hi hw
  rw[zah ne];exact e) (λ_ h=>h) _ _ h
theorem zpv {K:Xa}{Fz:FZ}{ρ:PEnv}{σ:St}{H:Hp}{i:Nat}{ks:List Key}{ds:List PV}(R:Rel K Fz ρ σ H)(h:ρ[i]? = some (some (.dK ks ds,true))):∃a xs,σ[i]? = some (some (.ref a))/\H a=some (.dK (ks.zip xs))/\ks.length=xs.length/\DenL K Fz H ds xs/\¬ Fz a:=by
 obtain⟨a,e,nf,xs,h1,h2,h3⟩:=R.own i _ h;exact⟨a,xs,e,h1,h2,h3,nf⟩
theorem zji {k:Kd}(hk:isOwn k=false):k=.frz\/k=.new:=by
 cases k with
 | frz=>exact .inl rfl
 | new=>exact .inr rfl
 | own j=>cases hk
noncomputable def putD (ks:List Key)(ds:List PV)(k:Key)(d:PV):List PV:=(ks.zip ds).map λkv=>if kv.1=k then d else kv.2
theorem zqV {ks:List Key}{xs:List V}{k:Key}{v:V}:(ks.zip xs).map (λkv=>if kv.1=k then(kv.1,v) else kv)=ks.zip ((ks.zip xs).map λkv=>if kv.1=k then v else kv.2):=by
 induction ks generalizing xs with
 | nil=>rfl
 | cons c ks ih=>
  cases xs with
  | nil=>rfl
  | cons x xs=>
   simp only[Yc,Xy,ih];by_cases e:c=k<;>simp[e]
theorem zmK {K:Xa}{Fz:FZ}{H:Hp}(k:Key){d:PV}{v:V}(hd:Den K Fz H d v):∀(ks:List Key)(ds:List PV)(xs:List V),DenL K Fz H ds xs->DenL K Fz H (putD ks ds k d) ((ks.zip xs).map λkv=>if kv.1=k then v else kv.2)
 | [],ds,xs,h=>DenL.nil
 | c::ks,[],xs,h=>by simp only[DenL]at h;subst h;exact DenL.nil
 | c::ks,d0::ds,xs,h=>by
  simp only[DenL]at h;obtain⟨w,r,rfl,h1,h2⟩:=h;have ih:=zmK k hd ks ds r h2;simp only[putD,Yc,Xy]at ih ⊢;by_cases e:c=k
  ·rw[if_pos e,if_pos e];exact DenL.cons hd ih
  ·rw[if_neg e,if_neg e];exact DenL.cons h1 ih
noncomputable def hasK (ks:List Key)(c:Key):Bool:=ks.any λc'=>decide (c'=c)
noncomputable def zci (i:Nat)(ti tv:TPE):TPS:=λρ O=>tv ρ λd k=>isOwn k=false/\∃ks ds,ρ[i]? = some (some (.dK ks ds,true))/\ks.length<sizeLine/\ti ρ λe _=>∃c:Key,e=keyP c/\
 O.nx (ρ.set i (some (if hasK ks c=true then .dK ks (putD ks ds c d) else .dK (ks++[c]) (ds++[d]),true)))
theorem zqW {ks:List Key}{xs:List V}{c:Key}(h:ks.length=xs.length):((ks.zip xs).any λkv=>decide (kv.1=c))=hasK ks c:=by
 unfold hasK;induction ks generalizing xs with
 | nil=>simp
 | cons d ks ih=>
  cases xs with
  | nil=>simp at h
  | cons x xs=>
   simp only[Yc,List.any_cons,ih (by simpa using h)]
section
variable {X:Cx}{x:Str}{ei ev:Expr}{ti tv:TPE}{p pos pos' apos cpos:Pos}
theorem zmL (i:Nat)(hu:X.A.units+1<cLine)(hi:PuE X ei ti)(hv:PuE X ev tv)(hN:autoParam (X.N[i]? = some x) aU0)(hvs:autoParam (Vis X.env.scope x) aU2)(hd:autoParam ((x == ("__debug__" : Str))=false) aU1) (hcd:autoParam ((x == ("__classdict__" : Str))=false) aU1)
  (hs:autoParam (swapsWith ev (some (.Subscript (.Name x p) ei pos')) pos.line X.env=pure false) aU0):PuS X (.Assign [.Subscript (.Name x p) ei pos'] ev pos) (zci i ti tv) where
 mono ρ O O' m h:=hv.mono ρ _ _ (λd k q101q=>by obtain⟨hk,ks,ds,e1,e2,h⟩:=q101q;exact⟨hk,ks,ds,e1,e2,hi.mono ρ _ _ (λe _ q102q=>by obtain⟨c,q1,q⟩:=q102q;exact⟨c,q1,m.nx _ q⟩) h⟩) h
 run:=PS.weak (zqt hu (zco hN hvs hd hcd) hi.run hv.run hs) λD σ H h=>by
  obtain⟨ρ,Fz,R,h⟩:=h;refine⟨ρ,Fz,R,hv.mono ρ _ _ (λd k q v F1 H1 p1=>?_) h⟩;obtain⟨hk,ks,ds,e1,e2,q⟩:=q;obtain⟨F2,x2,s2,d2⟩:=p1.frozen (zji hk);have R2:=R.ext x2;obtain⟨a,xs,hs,ha,_,hd,nf⟩:=zpv R2 e1;refine⟨_,hs,ρ,F2,R2,hi.mono ρ _ _ (λe ke q u F3 H3 p3=>?_) q⟩;obtain⟨c,rfl,q⟩:=q;have R3:=R2.ext p3.ext;obtain⟨a',xs',hs',ha',hl',hd',nf'⟩:=zpv R3 e1;rw[hs]at hs';cases hs';obtain rfl:=zkc (p3.root R2);refine⟨a,_,rfl,DPut.k ha' (by rw[YD];lia),?_⟩;have d3:=Den.mono (.of p3.ext.same) p3.ext.sub _ _ d2;have x3:=x2.trans p3.ext;have ow:Own X.K F3 (upd H3 a (.dK (putK (ks.zip xs') c v))) (if hasK ks c=true then .dK ks (putD ks ds c d) else .dK (ks++[c]) (ds++[d])) a:=by
   unfold putK;rw[zqW hl'];by_cases hc:hasK ks c=true
   ·rw[if_pos hc,if_pos hc,zqV];exact⟨_,zaj,by simp[hl'],DenL.rew' ha' (λz=>z) nf' (zmK c d3 ks ds xs' hd')⟩
   ·rw[if_neg hc,if_neg hc];refine⟨xs'++[v],?_,by simp[hl'],DenL.rew' ha' (λz=>z) nf' (DenL.snoc hd' d3)⟩;rw[zaj,List.zip_append hl'];rfl
  obtain⟨R4,s4,o4⟩:=R3.mut e1 hs ha' ow;exact q σ F3 _ ((Step.of x3).trans (zaC.refl ρ σ H) s4) (zaC.trans (Step.of x3) (zaC.refl ρ σ H) o4) R4
end
end _P
namespace PySem
section
variable {prog:Program}{w:World}{A:Around}{E:Value->Shared->Prop}{s:Shared}
theorem zde {a:Addr}{o:Obj}{Q:Option Obj->Shared->Prop}(ho:s.heap.get? a=some o)(h:Q (some o) s):wpAny (model prog w) A (loadIfAlive a) Q E s:=λΓ p _=>by
 unfold loadIfAlive;rw[Sem.wp_loadIfAlive,ho];rw[Sem.wp_pure];exact h
end
namespace F
theorem zbH:entryFor table "dict.update.loop" = some Builtin.«dict.update.loop»:=entryFor_of_tree (by kernel_rfl)
theorem zaG:plainId "dict.update.loop" = true:=by decide +kernel
end F
end PySem
namespace _P
open PySem PySem.Spec _L
open PyProof.Rows hiding St
theorem bAll:bootBuiltins "all" = some (.builtin "all"):=by decide +kernel
section
variable {X:Cx}
theorem zmM (hc:X.calm=true):zdh X (.builtin "all") (λxs H Q=>∃(p:Addr) (bs:List Bool),xs=[V.ref p]/\SqL X.K H p (bs.map V.bl)/\Q (.bl (bs.all id)) H):=by
 intro pins s σ H xs us Q I r h;obtain⟨p,bs,rfl,hq,q⟩:=h;obtain⟨u,rfl,rx⟩:=vals1 r;cases rx;obtain⟨its,r',pl,hz⟩:=I.list hq;have hL:=pl.isList;have hpl:p<s.heap.objs.size:=by obtain⟨_,x,_⟩:=hL;exact Xm x
 have hlen:its.length=bs.length:=by rw[<- r'.length];simp
 refine call_all_walk (wpAny_pyIter_list hL ?_);refine⟨_,[_,p],[_],_,_,_,λi=>bs.getD i true,rfl,Walks.list (A:=X.A.in1) (I.ok.hd hc) _ p (Xx hpl) its.toArray,⟨⟨_,Xv _ rfl,rfl,rfl⟩,hL.push _⟩,?_,λh' tk hk=>?_⟩
 ·intro i v s' Q' E' hP hQ;have hv:its[i]? = some v:=by simpa using hP
  have hi:i<bs.length:=by rw[<- hlen];exact(Xd.mp hv).1
  obtain⟨v',hv',rv⟩:=r'.get (i:=i) (x:=.bl bs[i]) (by simp[hi]);rw[hv]at hv';cases hv';cases rv;refine wpAny_truthy_bool ?_;have:bs.getD i true=bs[i]:=by rw[XE,Xf hi];rfl
  rw[<- this];exact hQ
 ·refine⟨.bl (bs.all id),H,I.kept (t':=tk) (λb o x=>hk b o ?_ (Xe _ x)),?_,q⟩
  ·have:=Xm x;simp;exact Xx this
  ·have:(Xs its.toArray.size).all (λi=>bs.getD i true)=bs.all id:=by
    rw[Xj,hlen];rw[Bool.eq_iff_iff,XV,XV];constructor
    ·intro h x hx;obtain⟨i,hi,e⟩:=List.getElem_of_mem hx;have:=h i (Yk.mpr hi);rw[XE,Xf hi]at this;simpa[<- e]using this
    ·intro h i hi;have hi:=Yk.mp hi;rw[XE,Xf hi];simpa using h _ (Yo hi)
   show RelV _ _;rw[this];rfl
theorem zkd {K:Xa}{Fz:FZ}{H:Hp}:∀ {bs:List Bool}{xs:List V},DenL K Fz H (bs.map PV.bl) xs->xs=bs.map V.bl
 | [],xs,h=>by simpa only[List.map,DenL]using h
 | b::bs,xs,h=>by
  simp only[List.map,DenL,Den]at h;obtain⟨v,r,rfl,rfl,h⟩:=h;rw[zkd h];rfl
noncomputable def fAll:PF:=λds Q=>∃bs:List Bool,ds=[.lst (bs.map PV.bl)]/\Q (.bl (bs.all id)) .frz
theorem zsM:zeU X.K (λxs H Q=>∃(p:Addr)(bs:List Bool),xs=[V.ref p]/\SqL X.K H p (bs.map V.bl)/\Q (.bl (bs.all id)) H) fAll where
 mono ds Q Q' m h:=by obtain⟨bs,e,q⟩:=h;exact⟨bs,e,m _ _ q⟩
 run Fz H ds vs Q al hr h:=by
  obtain⟨bs,rfl,q⟩:=h;obtain⟨v,rfl,h1⟩:=zeu hr;obtain⟨a,xs,rfl,h2,h3⟩:=zat h1;rw[zkd h3]at h2;exact⟨a,bs,rfl,h2,q _ Fz H (.val al (by simp only[Den]))⟩
variable {e:Expr}{es:List Expr}{t:TPA}{p pos:Pos}
theorem zsN (hc:X.calm=true)(hg:Gl X "all") (hm:X.mg "all" = none) (ha:PuA X (e::es) t) (he:autoParam (starEach (e::es) X.env=(false,eval e X.env)::starEach es X.env) aU0) (hpl:autoParam ((backTo pos (starEach es X.env)).any (·.1)=false) aU0):PuE X (.Call (.Name "all" p) (e::es) [] pos) (tB fAll t):=
 zcO (zmM hc) zsM hg hm bAll ha (by decide) (by decide) he hpl
end
theorem zle {P:Nat->Value->Prop}{acc:Array Value}{xs:List V}(h:ItemsOf P acc xs.length)(f:∀(i:Nat)(v:Value)(x:V),xs[i]? = some x->P i v->RelV x v):Vals xs acc.toList:=by
 obtain⟨hs,hv⟩:=h;obtain⟨acc⟩:=acc;simp only[Xj]at hs;have:∀(xs:List V) (its:List Value) (n:Nat),its.length=xs.length->(∀(j:Nat) (v:Value) (x:V),its[j]? = some v->xs[j]? = some x->RelV x v)->Vals xs its:=by
  intro xs;induction xs with
  | nil=>intro its n hl _;cases its with
   | nil=>exact .nil
   | cons _ _=>simp at hl
  | cons x xs ih=>intro its n hl hr;cases its with
   | nil=>simp at hl
   | cons u us=>exact .cons (hr 0 u x rfl rfl) (ih us n (by simpa using hl) λj v y h1 h2=>hr (j+1) v y (by simpa using h1) (by simpa using h2))
 exact this xs acc 0 hs λj v x h1 h2=>f j v x h2 (hv j v (by simpa using h1))
section
variable {X:Cx}
theorem zlf (hc:X.calm=true):zdh X (.type "list") (λxs H Q=>∃x:Str,xs=[V.str x]/\x.length<=sizeLine/\∀l,H l=none->Q (.ref l) (upd H l (.lst ((signs x).map V.str)))):=by
 intro pins s σ H xs us Q I r h;obtain⟨x,rfl,hz,q⟩:=h;obtain⟨u,rfl,t,rfl⟩:=vals1 r;refine call_list_str (I.ok.hd hc) x t (hn:=hz) λh' tk acc c kp e hacc=>?_;have hl:x.cps.size=((signs x).map V.str).length:=by simp[signs]
 rw[hl]at hacc;have rv:Vals ((signs x).map V.str) acc.toList:=zle hacc λi v y hy ⟨c,u,hc,ev⟩=>by
  subst ev;have:y=.str ⟨#[c]⟩:=by
   simp only[signs,Xi,Array.getElem?_toList,hc,Option.map_some]at hy;exact(Option.some.inj hy).symm
  subst this;exact⟨u,rfl⟩
 exact⟨.ref s.heap.objs.size,_,I.laid (t':=tk) kp (Xg _) (show zbt X.prog X.w _ h' _ (.lst ((signs x).map V.str)) from⟨by rw[<- hl];exact hz,acc.toList,c,rv,by simpa using e⟩),rfl,q _ (I.hok.fresh (Xg _))⟩
noncomputable def zcj:PF:=λds Q=>∃x:Str,ds=[.str x]/\x.length<=sizeLine/\Q (.lst ((signs x).map PV.str)) .new
theorem zoz:zeU X.K (λxs H Q=>∃x:Str,xs=[V.str x]/\x.length<=sizeLine/\∀l,H l=none->Q (.ref l) (upd H l (.lst ((signs x).map V.str)))) zcj where
 mono ds Q Q' m h:=by obtain⟨x,e,e2,q⟩:=h;exact⟨x,e,e2,m _ _ q⟩
 run Fz H ds vs Q al hr h:=by
  obtain⟨x,rfl,e2,q⟩:=h;obtain⟨v,rfl,h1⟩:=zeu hr;exact⟨x,by rw[zbk h1],e2,λl hl=>q _ Fz _ (.newL al hl (zew _))⟩
variable {e:Expr}{es:List Expr}{t:TPA}{p pos:Pos}
theorem zoA (hc:X.calm=true)(hg:Gl X "list") (hm:X.mg "list" = none) (ha:PuA X (e::es) t) (he:autoParam (starEach (e::es) X.env=(false,eval e X.env)::starEach es X.env) aU0) (hpl:autoParam ((backTo pos (starEach es X.env)).any (·.1)=false) aU0):PuE X (.Call (.Name "list" p) (e::es) [] pos) (tB zcj t):=
 zfI (zlf hc) zoz hg hm zov ha (by decide) (by decide) he hpl
theorem zmN (hc:X.calm=true):zdh X (.builtin "min") (λxs H Q=>∃i j k,xs=[V.int i,.int j,.int k]/\Q (.int (if j<i then(if k<j then k else j) else(if k<i then k else i))) H):=by
 intro pins s σ H xs us Q I r h;obtain⟨i,j,k,rfl,q⟩:=h;obtain⟨u,us2,rfl,⟨t,rfl⟩,r2⟩:∃u us2,us=u::us2/\RelV (.int i) u/\Vals [V.int j,.int k] us2:=by cases r with | cons a b=>exact⟨_,_,rfl,a,b⟩
 obtain⟨u1,u2,rfl,⟨t1,rfl⟩,⟨t2,rfl⟩⟩:=vals2 r2;refine min_three_ints (I.ok.hd hc) λh' tk kp=>⟨_,H,I.kept kp,?_,q⟩;by_cases h1:j<i
 ·rw[if_pos h1,if_pos h1];by_cases h2:k<j
  ·rw[if_pos h2,if_pos h2];exact⟨_,rfl⟩
  ·rw[if_neg h2,if_neg h2];exact⟨_,rfl⟩
 ·rw[if_neg h1,if_neg h1];by_cases h2:k<i
  ·rw[if_pos h2,if_pos h2];exact⟨_,rfl⟩
  ·rw[if_neg h2,if_neg h2];exact⟨_,rfl⟩
noncomputable def zdD:PF:=λds Q=>∃i j k:Int,ds=[.int i,.int j,.int k]/\Q (.int (if j<i then(if k<j then k else j) else(if k<i then k else i))) .frz
theorem zsO {K:Xa}{Fz:FZ}{H:Hp}{d e f:PV}{vs:List V}(h:zla K Fz H [d,e,f] vs):∃v u w,vs=[v,u,w]/\Root K Fz H d v/\Root K Fz H e u/\Root K Fz H f w:=by
 cases h with
 | cons a b=>
  obtain⟨u,w,rfl,h1,h2⟩:=zjW b;exact⟨_,u,w,rfl,a,h1,h2⟩
theorem zqX {K:Xa}:zeU K (λxs H Q=>∃i j k,xs=[V.int i,.int j,.int k]/\Q (.int (if j<i then(if k<j then k else j) else(if k<i then k else i))) H) zdD where
 mono ds Q Q' m h:=by obtain⟨i,j,k,e,q⟩:=h;exact⟨i,j,k,e,m _ _ q⟩
 run Fz H ds vs Q al hr h:=by
  obtain⟨i,j,k,rfl,q⟩:=h;obtain⟨u,v,w,rfl,h1,h2,h3⟩:=zsO hr;exact⟨i,j,k,by rw[zay h1,zay h2,zay h3],q _ Fz H (.val al (by simp only[Den]))⟩
theorem zqY (hc:X.calm=true)(hg:Gl X "min") (hm:X.mg "min" = none) (ha:PuA X (e::es) t) (he:autoParam (starEach (e::es) X.env=(false,eval e X.env)::starEach es X.env) aU0) (hpl:autoParam ((backTo pos (starEach es X.env)).any (·.1)=false) aU0):PuE X (.Call (.Name "min" p) (e::es) [] pos) (tB zdD t):=
 zcO (zmN hc) zqX hg hm bMin ha (by decide) (by decide) he hpl
theorem zsP:SlR X (λx lo hi H Q=>∃z:Str,x=.str z/\z.length<=sizeLine/\Q (.str (Txt.slice z lo hi)) H):=by
 intro pins s σ H x v vl vu lo hi sl Q I rx hs pl pu h;obtain⟨z,rfl,hz,q⟩:=h;obtain⟨t,rfl⟩:=rx;refine⟨"str",_,PySem.F.slot_str_getitem.lookup,typeIs_str _ _ _,?_⟩;have fin:∀(l u:Option (Int×Tok)),s.heap.IsSlice sl l u none->l.map (·.1)=lo->u.map (·.1)=hi->wpAny (model X.prog X.w) X.A (getItem (.str z t) (.ref sl)) (EP X pins σ Q) X.xe s:=λl u h1 h2 h3=>by
  subst h2 h3;refine wpAny_getItem_str_slice (st:=none) h1 rfl (post_val_or_str ⟨XO (Txt.slice_le z _ _) hz,λt' k=>?_⟩);exact⟨.str (Txt.slice z (l.map (·.1)) (u.map (·.1))),H,I.tok _,⟨t',rfl⟩,q⟩
 cases pl with
 | none=>cases pu with
  | none=>exact fin none none hs rfl rfl
  | int j t2=>exact fin none (some (j,t2)) hs rfl rfl
 | int i t1=>cases pu with
  | none=>exact fin (some (i,t1)) none hs rfl rfl
  | int j t2=>exact fin (some (i,t1)) (some (j,t2)) hs rfl rfl
noncomputable def pSlS (te:TPE)(tl th:TPO):TPE:=λρ Q=>te ρ λd _=>tl ρ λl=>th ρ λu=>∃z:Str,d=.str z/\z.length<=sizeLine/\Q (.str (Txt.slice z l u)) .frz
variable {e:Expr}{te:TPE}{lo hi:Option Expr}{tl th:TPO}{p2 pos:Pos}
theorem zmO (he:PuE X e te)(hl:PuO X lo tl)(hu:PuO X hi th):PuE X (.Subscript e (.Slice lo hi none p2) pos) (pSlS te tl th) where
 mono ρ Q Q' m h:=he.mono ρ _ _ (λd k h=>hl.mono ρ _ _ (λl h=>hu.mono ρ _ _ (λu q104q=>by obtain⟨ds,e,e2,q⟩:=q104q;exact⟨ds,e,e2,m _ _ q⟩) h) h) h
 run:=PE.weak (zjE zsP he.run hl.run hu.run) λσ H Q h=>by
  obtain⟨ρ,Fz,R,h⟩:=h;refine⟨ρ,Fz,R,he.mono ρ _ _ (λd k q v F1 H1 p1=>?_) h⟩;refine⟨ρ,F1,R.ext p1.ext,hl.mono ρ _ _ (λl q F2 H2 x2=>?_) q⟩;refine⟨ρ,F2,(R.ext p1.ext).ext x2,hu.mono ρ _ _ (λu q3 F3 H3 x3=>?_) q⟩;obtain⟨z,e3,e4,q4⟩:=q3;subst e3;exact⟨z,zbk (p1.root R),e4,q4 _ F3 _ ((Post.val x3.al (by simp only[Den])).behind (p1.ext.trans (x2.trans x3)))⟩
end
theorem hu1 {A:Around}(h:A.units+16<cLine):A.units+1<cLine:=by lia
noncomputable abbrev PFM:=PV->List PV->(PV->PV->Prop)->Prop
structure FOut where
 nx:PEnv->Prop
 rt:PEnv->Prop
structure FOut.le (O O':FOut):Prop where
 nx:∀ρ,O.nx ρ->O'.nx ρ
 rt:∀ρ,O.rt ρ->O'.rt ρ
noncomputable abbrev TPF:=PEnv->FOut->Prop
inductive BX where
 | L (ds:List PV)
 | K (ks:List Key) (ds:List PV)
 | T (ks:List (List Key)) (ds:List PV)
noncomputable def BX.ok:BX->Prop
 | .L _=>True
 | .K ks ds=>ks.length=ds.length
 | .T ks ds=>ks.length=ds.length
noncomputable def BX.obj:BX->List Addr->HO
 | .L _,bs=>.lst (bs.map V.ref)
 | .K ks _,bs=>.dK (ks.zip (bs.map V.ref))
 | .T ks _,bs=>.dT (ks.zip (bs.map V.ref))
structure BOut where
 nx:PEnv->BX->Prop
 rt:PV->Kd->Prop
 bk:PEnv->BX->Prop
 ct:PEnv->BX->Prop
structure BOut.le (O O':BOut):Prop where
 nx:∀ρ β,O.nx ρ β->O'.nx ρ β
 rt:∀d k,O.rt d k->O'.rt d k
 bk:∀ρ β,O.bk ρ β->O'.bk ρ β
 ct:∀ρ β,O.ct ρ β->O'.ct ρ β
noncomputable abbrev TPB:=PEnv->BX->BOut->Prop
theorem Rel.unset {K:Xa}{Fz:FZ}{ρ:PEnv}{σ:St}{H:Hp}{i:Nat}{v:V}(R:Rel K Fz ρ σ H):Rel K Fz (ρ.set i none) (σ.set i (some v)) H:=by
 have ne:∀(j:Nat) (p:PV×Bool),(ρ.set i none)[j]? = some (some p)->i≠j/\ρ[j]? = some (some p):=λj p h=>by
  have nj:i≠j:=λz=>by
   subst z;by_cases hi:i<ρ.length
   ·rw[Xl hi]at h;cases h
   ·rw[XF (by lia),XC (by lia)]at h;cases h
  rw[Xh nj]at h;exact⟨nj,h⟩
 refine⟨R.al,by rw[Ya,Ya];exact R.len,λj d h=>?_,λj d h=>?_,λj k d e a h1 h2 h3 h4=>?_⟩
 ·obtain⟨nj,h⟩:=ne j _ h;rw[Xh nj];exact R.frz j d h
 ·obtain⟨nj,h⟩:=ne j _ h;rw[Xh nj];exact R.own j d h
 ·obtain⟨nj,h1⟩:=ne j _ h1;obtain⟨nk,h2⟩:=ne k _ h2;rw[Xh nj]at h3;rw[Xh nk]at h4;exact R.inj j k d e a h1 h2 h3 h4
end _P
namespace _L
open PySem PySem.Spec PyProof.Rows
section
variable {X:Cx}{pins:List (Addr×Obj)}{σ:List (Option V)}{H:Hp}{s:Shared}{h':Heap}
theorem Inv.zhf {t':Nat}{ch:List Addr}(I:Inv X pins σ H s)(k:∀b o,b∉ch->s.heap.get? b=some o->h'.get? b=some o)(hf:∀b∈ch,FpOk X pins H b):Inv X pins σ H { s with heap:=h',toks:=t' }:=by
 have nit:∀b u,H b=some u->b∉ch:=λb u e z=>by rw[(hf b z).1]at e;cases e
 refine I.step (g':=s.gens) (d':=s.drawn) (ch:=ch) (λb hb=>?_) (λb o _ _ hc e _=>k b o hc e) (λb o _ _ hc e _=>⟨o.slots,k b o hc e⟩) (λ_ _ _ _ n=>n)
  (λb o hc e=>⟨o,k b o hc e⟩) (λ_ _ e=>e) (λ_ _ _ e=>e) (λb ps e=>⟨#[],by rw[e];simp⟩) (λm hm=>?_) (λb u e=>?_) I.bare
 ·obtain⟨_,f1,_,f3,f4,f5⟩:=hf b hb;exact⟨f3,f1,f4,f5⟩
 ·obtain⟨o,es,ep,ho,r⟩:=hm;exact⟨o,es,ep,k _ o (λz=>(hf _ z).2.1 rfl) ho,r⟩
 ·refine(I.hok b u e).stay (λc v hc q=>k c v ?_ q) (λ_ q=>q) λ_ _ q=>q;rcases hc with z | z
  ·rw[z];exact nit b u e
  ·exact nit c _ z
end
noncomputable def Ite (K:Xa)(a:Addr):It:=
 ⟨λi H=>∃xs x,SqL K H a xs/\xs[i]? = some x,λi H x H'=>∃p y,x=.ref p/\H p=none/\(∀xs,SqL K H a xs->xs[i]? = some y)/\H'=upd H p (.tup [.int (i:Int),y]),λi H=>∃xs,SqL K H a xs/\xs.length<=i⟩
theorem zmP {P:Program}{w:World}{K:Xa}{elts:List Expr}{x1:Nat}{pos:Pos}(a e it:Addr)(hne:e≠it):Turn P w K (.Tuple elts x1 pos) (Ite K a) [e,it] e (λi h=>(∃old,IsEnum h e it (i:Int) old)/\h.IsListIter it a i) where
 mem:=by simp
 obj:=λi h st b hb=>by
  obtain⟨⟨old,he⟩,o,ho,c,d⟩:=st;rcases Xu.mp hb with rfl | hb
  ·exact⟨_,he,λv z=>by cases z⟩
  ·have:=Xw.mp hb;subst this;exact⟨o,ho,λv z=>by rw[d]at z;cases z⟩
 keep:=λi h h' st k=>by
  obtain⟨⟨old,he⟩,hit⟩:=st;exact⟨⟨old,k e (by simp) _ he⟩,hit.at λo q=>k it (by simp) o q⟩
 item:=by
  intro X hP hw hK hc i pins s σ H E I hf st hg;subst hP hw hK;obtain⟨⟨old,he⟩,hit⟩:=st;obtain⟨xs,x,hq,hx⟩:=hg;obtain⟨its,rv,p,hz⟩:=I.list hq;obtain⟨u,hu,ru⟩:=rv.get hx;have hfr:H s.heap.objs.size=none:=I.hok.fresh (Xg _);have heS:e<s.heap.objs.size:=Xm he;have hiS:it<s.heap.objs.size:=by obtain⟨o,ho,_⟩:=id hit;exact Xm ho
  refine wpAny_pyNext_enum_item he hit p.isList (x:=u) (by simpa using hu) hne λh1 heo hit1 ht1 hz1 hk1=>⟨.ref s.heap.objs.size,rfl,?_⟩;refine wpAny_letOwnedTupleGo_enum heo λh2 he2 hs2=>?_;replace hs2:Yf e h1 h2:=hs2;have I1:=I.laid (a:=s.heap.objs.size) (o:=.tup [.int (i:Int),x]) (h':=s.heap.push { cls:=.type "tuple",data:=.seq #[.int i s.toks,u] }) (t':=s.toks+1) (λb u e=>Xe _ e) (Xg _)
   ⟨by show 2<=sizeLine;decide,[.int i s.toks,u],.cons ⟨_,rfl⟩ (.cons ru .nil),zcF.new _ _⟩
  have hfp:∀b∈[e,it],FpOk X pins (upd H s.heap.objs.size (.tup [.int (i:Int),x])) b:=λb hb=>by
   obtain⟨f0,fr⟩:=hf b hb;have hbS:b≠s.heap.objs.size:=by
    rcases Xu.mp hb with rfl | hb
    ·exact Xx heS
    ·rw[Xw.mp hb];exact Xx hiS
   exact⟨by rw[zah hbS];exact f0,fr⟩
  have I2:=I1.zhf (h':=h2) (t':=s.toks+1) (ch:=[e,it]) (λb o hb eb=>by
   have hb1:b≠e:=λz=>hb (by simp[z]);have hb2:b≠it:=λz=>hb (by simp[z]);refine(hs2.2 b hb1).trans ?_;rcases Heap.get?_push_cases eb with ⟨rfl,rfl⟩ | eb
   ·exact ht1
   ·exact hk1 b o hb1 hb2 eb) hfp
  refine⟨.ref s.heap.objs.size,_,I2,rfl,⟨_,x,rfl,hfr,λys hy=>by rw[I.zec hy hq];exact hx,rfl⟩,⟨⟨u,?_⟩,?_⟩,λb hb=>(hfp b hb).1⟩
  ·have:((i+1:Nat):Int)=(i:Int)+1:=by lia
   rw[this];exact he2
  ·exact hit1.extBut hs2.extBut (Ne.symm hne)
 done:=by
  intro X hP hw hK hc i pins s σ H E I hf st hg;subst hP hw hK;obtain⟨⟨old,he⟩,hit⟩:=st;obtain⟨xs,hq,hx⟩:=hg;obtain⟨its,rv,p,hz⟩:=I.list hq;have hl:=rv.length;obtain⟨f0,f1,f2,f3,f4,f5⟩:=hf it (by simp);exact wpAny_pyNext_enum_end (I.ok.hd hc) he hit p.isList (by simp;lia) λh' eb=>⟨rfl,I.turned (t':=s.toks) (λb o hb e=>eb b o hb e) f0 f1 f3 f4 f5⟩
 self:=λ_ _ _ _ _ st h=>by obtain⟨⟨old,he⟩,_⟩:=st;exact wpAny_pyIter_enum he h
section
variable {X:Cx}{elts:List Expr}{x1:Nat}{tpos p pos:Pos}{e e2:Expr}{te te2:TE}
theorem zfN:bootBuiltins "enumerate" = some (.type "enumerate"):=by decide +kernel
noncomputable def zuf (K:Xa)(te:TE):TI:=λσ H R=>te σ H λx H1=>∃a,x=.ref a/\(∃xs,SqL K H1 a xs)/\R (Ite K a) H1
theorem zqZ (hg:Gl X "enumerate") (hm:X.mg "enumerate" = none) (he:PE X e te) (hs1:autoParam (starEach [e] X.env=(false,eval e X.env)::starEach [] X.env) aU0) (hpl1:autoParam ((backTo pos (starEach [] X.env)).any (·.1)=false) aU0) :
  PI X (.Tuple elts x1 tpos) (.Call (.Name "enumerate" p) [e] [] pos) (zuf X.K te):=by
 intro pins s σ H R I h;refine wpAny_Call_Name_kw (zfe I hg hm zfN ?_ (by decide) (by decide));refine PyProof.Rows.callWith_type1 ?_ hs1 hpl1;rw[hs1];show wpAny _ _ (spliced ((false,eval _ X.env)::backTo pos (starEach [] X.env))) _ _ s;refine Calls.spliced_cons (thn (he pins s σ H _ I h) λu s1 q105q=>Calls.spliced_nil ?_);obtain⟨x,H1,I1,r1,a,ex,⟨xs,hq⟩,q⟩:=q105q;subst ex;obtain rfl:u=Value.ref a:=r1;obtain⟨its,r,pl,hz⟩:=I1.list hq;refine call_enumerate_list pl.isList λh' hE hit hsz hk=>?_;refine wpAny_pyIter_enum (s:={ s1 with heap:=h' }) hE ?_;have I2:Inv X pins σ H1 { s1 with heap:=h' }:=I1.kept (t':=s1.toks) hk;refine⟨s1.heap.objs.size+1,[s1.heap.objs.size+1,s1.heap.objs.size],_,_,H1,rfl,I2,zmP a _ _ (Nat.succ_ne_self _),⟨⟨_,hE⟩,hit⟩,λb hb=>?_,q⟩;have hb':s1.heap.objs.size<=b:=by
  rcases Xu.mp hb with rfl | hb
  ·exact Nat.le_succ _
  ·rw[Xw.mp hb];exact Xg _
 exact I1.fpOk hb' (I1.hok.fresh hb')
end
end _L
namespace _P
open PySem PySem.Spec _L
open PyProof.Rows hiding St
noncomputable def zjj (ds:List PV):List PV:=(Xs ds.length).map λ(i:Nat)=>.tup [.int (i:Int),ds.getD i .non]
theorem zfO {ds:List PV}{i:Nat}{d:PV}(h:(zjj ds)[i]? = some d):∃x,ds[i]? = some x/\d=.tup [.int (i:Int),x]:=by
 unfold zjj at h;rw[Xi]at h;rcases Nat.lt_or_ge i ds.length with hi | hi
 ·rw[Yu hi]at h;cases h;exact⟨ds[i],Xf hi,by show PV.tup [PV.int (i:Int),ds.getD i PV.non]=_;rw[XE,Xf hi];rfl⟩
 ·rw[XC (by simpa using hi)]at h;cases h
theorem zfP (ds:List PV):(zjj ds).length=ds.length:=by simp[zjj]
noncomputable def zcr (te:TPE):TPI:=λρ Q=>te ρ λd k=>∃ds,d=.lst ds/\Q (zjj ds) (isOwn k)
section
variable {X:Cx}{elts:List Expr}{x1:Nat}{tpos p pos:Pos}{e:Expr}{te:TPE}
theorem zke (hg:Gl X "enumerate") (hm:X.mg "enumerate" = none) (he:PuE X e te) (hs1:autoParam (starEach [e] X.env=(false,eval e X.env)::starEach [] X.env) aU0) (hpl1:autoParam ((backTo pos (starEach [] X.env)).any (·.1)=false) aU0) :
  PuI X (.Tuple elts x1 tpos) (.Call (.Name "enumerate" p) [e] [] pos) (zcr te) where
 mono ρ Q Q' m h:=he.mono ρ _ _ (λd k q106q=>by obtain⟨ds,e,q⟩:=q106q;exact⟨ds,e,m _ _ q⟩) h
 run:=PI.weak (zqZ hg hm he.run hs1 hpl1) λσ H Rr h=>by
  obtain⟨ρ,Fz,R,h⟩:=h;refine⟨ρ,Fz,R,he.mono ρ _ _ (λd k q v Fz' H' p=>?_) h⟩;obtain⟨ds,e,q⟩:=q;subst e;have rt:=p.root R;obtain⟨a,xs,rfl,h1,h2⟩:=zat rt;refine⟨a,rfl,⟨xs,h1⟩,?_⟩;have one:∀(F2:FZ) (H2:Hp) (zs:List V),SqL X.K H2 a zs->DenL X.K F2 H2 ds zs->∀i:Nat,(∀d,(zjj ds)[i]? = some d->(Ite X.K a).go i H2/\∀x H3,(Ite X.K a).yld i H2 x H3->Same H2 H3/\Den X.K F2 H3 d x)/\((zjj ds).length<=i->(Ite X.K a).stop i H2):=λF2 H2 zs g1 g3 i=>by
   have hl:=g3.length;refine⟨λd hd=>?_,λhi=>⟨zs,g1,by rw[zfP]at hi;lia⟩⟩;obtain⟨x,hx,rfl⟩:=zfO hd;obtain⟨v,q1,q2⟩:=g3.get hx;refine⟨⟨zs,v,g1,q1⟩,λy H3 q107q=>?_⟩;obtain⟨pp,w,ey,hn,gy,e3⟩:=q107q;subst ey e3;have exy:=gy zs g1;rw[q1]at exy;cases exy;have sm:Same H2 (upd H2 pp (.tup [.int (i:Int),v])):=λb o hb=>by rw[zah (zaE hb hn)];exact hb
   refine⟨sm,?_⟩;simp only[Den];exact⟨pp,_,rfl,zaj,DenL.cons (by simp only[Den]) (DenL.cons (Den.mono (.of sm) (λ_ h=>h) _ _ q2) DenL.nil)⟩
  cases k with
  | own i=>
   refine q _ Fz' H' p.ext λH2 hH=>?_;rcases hH with hH | ⟨z,_⟩
   ·exact one Fz' H2 xs (hH.seq h1) (DenL.mono (.of hH) (λ_ h=>h) _ _ h2)
   ·cases z
  | frz=>
   have pd:Den X.K Fz' H' (.lst ds) (.ref a):=p.opd;simp only[Den]at pd;obtain⟨a',xs',e,h3,h4⟩:=pd;cases e;refine q _ Fz' H' p.ext λH2 hH=>?_;have kp:Keep Fz' H' H2:=hH.elim (λz=>.of z) (λz=>.mk' z.2);exact one Fz' H2 xs' (h3.elim (λh=>.inl (kp.rd trivial h.1 h.2)) KX.sq) (DenL.mono kp (λ_ h=>h) _ _ h4)
  | new=>
   obtain⟨b,e,hn,nf,o⟩:=p.opd;cases e;obtain⟨xs',o1,o2⟩:=o;refine q _ (λb=>Fz' b\/b=a) H' (p.ext.add hn (by rw[o1];exact λz=>nomatch z)) λH2 hH=>?_;have kp:Keep (λb=>Fz' b\/b=a) H' H2:=hH.elim (λz=>.of z) (λz=>.mk' z.2);exact one _ H2 xs' (.inl (kp.rd trivial (.inr rfl) (.inl o1))) (DenL.mono kp (λ_ h=>h) _ _ (DenL.mono (Keep.of (Same.refl _)) (λ_ h=>.inl h) _ _ o2))
end
noncomputable abbrev zuk:=List PV->(List Str->List PV->Prop)->Prop
end _P
namespace _L
open PySem PySem.Spec PyProof.Rows
noncomputable def Itz (K:Xa)(a b:Addr):It:=
  ⟨λi H=>∃xs ys x y,SqL K H a xs/\xs[i]? = some x/\SqL K H b ys/\ys[i]? = some y,
   λi H x H'=>∃p u v,x=.ref p/\H p=none/\(∀xs,SqL K H a xs->xs[i]? = some u)/\(∀ys,SqL K H b ys->ys[i]? = some v)/\H'=upd H p (.tup [u,v]),
   λi H=>∃xs ys,SqL K H a xs/\SqL K H b ys/\(xs.length<=i\/ys.length<=i)⟩
theorem zoB {P:Program}{w:World}{K:Xa}{elts:List Expr}{x1:Nat}{pos:Pos}(a b z TI TO i1 i2:Addr)(D:ZipApart z TI TO i1 i2 a b) :
  Turn P w K (.Tuple elts x1 pos) (Itz K a b) [z,TI,TO,i1,i2] z (λi h=>IsZip h z TI TO .none/\IsPair h TI (.ref i1) (.ref i2)/\(∃u v,IsPair h TO u v)/\h.IsListIter i1 a i/\h.IsListIter i2 b i) where
 mem:=by simp
 obj:=λi h st c hc=>by
  obtain⟨h1,h2,⟨u,v,h3⟩,⟨o4,h4,_,d4⟩,⟨o5,h5,_,d5⟩⟩:=st;simp only[Xu,List.not_mem_nil,or_false]at hc;rcases hc with rfl | rfl | rfl | rfl | rfl
  ·exact⟨_,h1,λv z=>by cases z⟩
  ·exact⟨_,h2,λv z=>by cases z⟩
  ·exact⟨_,h3,λv z=>by cases z⟩
  ·exact⟨_,h4,λv z=>by rw[d4]at z;cases z⟩
  ·exact⟨_,h5,λv z=>by rw[d5]at z;cases z⟩
 keep:=λi h h' st k=>by
  obtain⟨h1,h2,⟨u,v,h3⟩,h4,h5⟩:=st;exact⟨k z (by simp) _ h1,k TI (by simp) _ h2,⟨u,v,k TO (by simp) _ h3⟩,h4.at λo q=>k i1 (by simp) o q,h5.at λo q=>k i2 (by simp) o q⟩
 item:=by
  intro X hP hw hK hc i pins s σ H E I hf st hg;subst hP hw hK;obtain⟨h1,h2,⟨c1,c2,h3⟩,h4,h5⟩:=st;obtain⟨xs,ys,x,y,hq,hx,hq2,hy⟩:=hg;obtain⟨its,rv,p,hz⟩:=I.list hq;obtain⟨u,hu,ru⟩:=rv.get hx;obtain⟨its2,rv2,p2,hz2⟩:=I.list hq2;obtain⟨u2,hu2,ru2⟩:=rv2.get hy;have hfr:H s.heap.objs.size=none:=I.hok.fresh (Xg _);have lt:∀c∈[z,TI,TO,i1,i2],c<s.heap.objs.size:=λc hc=>by
   simp only[Xu,List.not_mem_nil,or_false]at hc;rcases hc with rfl | rfl | rfl | rfl | rfl
   ·exact Xm h1
   ·exact Xm h2
   ·exact Xm h3
   ·obtain⟨o,ho,_⟩:=id h4;exact Xm ho
   ·obtain⟨o,ho,_⟩:=id h5;exact Xm ho
  refine wpAny_pyNext_zip_item D h1 h2 h3 h4 h5 p.isList p2.isList (x:=u) (y:=u2) (by simpa using hu) (by simpa using hu2) λhp1 g1 g3 g4 g5 gt gz gk=>⟨.ref s.heap.objs.size,rfl,?_⟩;refine wpAny_letOwnedTupleGo_zip g1 λhp2 k1 ks=>?_;replace ks:Yf z hp1 hp2:=ks;have I1:=I.laid (a:=s.heap.objs.size) (o:=.tup [x,y]) (h':=s.heap.push { cls:=.type "tuple",data:=.seq #[u,u2] }) (t':=s.toks) (λb u e=>Xe _ e) (Xg _)
   ⟨by show 2<=sizeLine;decide,[u,u2],.cons ru (.cons ru2 .nil),zcF.new _ _⟩
  have hfp:∀c∈[z,TI,TO,i1,i2],FpOk X pins (upd H s.heap.objs.size (.tup [x,y])) c:=λc hc=>by
   obtain⟨f0,fr⟩:=hf c hc;exact⟨by rw[zah (Xx (lt c hc))];exact f0,fr⟩
  have I2:=I1.zhf (h':=hp2) (t':=s.toks) (ch:=[z,TI,TO,i1,i2]) (λc o hc ec=>by
   have n1:c≠z:=λe=>hc (by simp[e]);refine(ks.2 c n1).trans ?_;rcases Heap.get?_push_cases ec with ⟨rfl,rfl⟩ | ec
   ·exact gt
   ·exact gk c o n1 (λe=>hc (by simp[e])) (λe=>hc (by simp[e])) (λe=>hc (by simp[e])) ec) hfp
  refine⟨.ref s.heap.objs.size,_,I2,rfl,⟨_,x,y,rfl,hfr,λzs hz=>by rw[I.zec hz hq];exact hx,λzs hz=>by rw[I.zec hz hq2];exact hy,rfl⟩,⟨k1,?_,⟨u,u2,?_⟩,?_,?_⟩,λc hc=>(hfp c hc).1⟩
  ·exact(ks.2 TI D.TIz).trans (gk TI _ D.TIz D.TITO D.TIi1 D.TIi2 h2)
  ·exact(ks.2 TO D.TOz).trans g3
  ·exact g4.extBut ks.extBut D.i1z
  ·exact g5.extBut ks.extBut D.i2z
 done:=by
  intro X hP hw hK hc i pins s σ H E I hf st hg;subst hP hw hK;obtain⟨h1,h2,⟨c1,c2,h3⟩,h4,h5⟩:=st;obtain⟨xs,ys,hq,hq2,hx⟩:=hg;obtain⟨its,rv,p,hz⟩:=I.list hq;obtain⟨its2,rv2,p2,hz2⟩:=I.list hq2;have hl:=rv.length;have hl2:=rv2.length;refine wpAny_pyNext_zip_end (I.ok.hd hc) D h1 h2 h3 h4 h5 p.isList p2.isList (hx.imp (λe=>by simp;lia) (λe=>by simp;lia)) λh' gk=>⟨rfl,?_⟩;exact I.zhf (t':=s.toks) (ch:=[z,TI,TO,i1,i2]) (λc o hc ec=>gk c o (λe=>hc (by simp[e])) (λe=>hc (by simp[e])) (λe=>hc (by simp[e])) (λe=>hc (by simp[e])) ec) hf
 self:=λ_ _ _ _ _ st h=>wpAny_pyIter_zip st.1 h
section
variable {X:Cx}{elts:List Expr}{x1:Nat}{tpos p pos:Pos}{e e2:Expr}{t:TA}
theorem zil:bootBuiltins "zip" = some (.type "zip"):=by decide +kernel
noncomputable def iZip (K:Xa)(t:TA):TI:=λσ H R=>t σ H λvs H1=>∃a b,vs=[.ref a,.ref b]/\(∃xs,SqL K H1 a xs)/\(∃ys,SqL K H1 b ys)/\R (Itz K a b) H1
theorem zsQ (hg:Gl X "zip") (hm:X.mg "zip" = none) (ha:PA X [e,e2] t) (he:autoParam (starEach [e,e2] X.env=(false,eval e X.env)::starEach [e2] X.env) aU0) (hpl:autoParam ((backTo pos (starEach [e2] X.env)).any (·.1)=false) aU0) :
  PI X (.Tuple elts x1 tpos) (.Call (.Name "zip" p) [e,e2] [] pos) (iZip X.K t):=by
 intro pins s σ H R I h;refine wpAny_Call_Name_kw (zfe I hg hm zil ?_ (by decide) (by decide));refine PyProof.Rows.callWith_type1 (thn (ha pos pins s σ H _ I h) λus s1 q108q=>?_) he hpl;obtain⟨vs,H1,I1,r1,a,b,ev,⟨xs,hq⟩,⟨ys,hq2⟩,q⟩:=q108q;subst ev;obtain⟨u1,u2,rfl,r2,r3⟩:=vals2 r1;obtain rfl:u1=Value.ref a:=r2;obtain rfl:u2=Value.ref b:=r3;obtain⟨its,r,pl,hz⟩:=I1.list hq;obtain⟨its2,r',pl2,hz2⟩:=I1.list hq2;have ha':@LT.lt Nat _ a s1.heap.objs.size:=by obtain⟨o,ho,_⟩:=pl.isList;exact Xm ho
 have hb':@LT.lt Nat _ b s1.heap.objs.size:=by obtain⟨o,ho,_⟩:=pl2.isList;exact Xm ho
 refine call_zip_2 pl.isList pl2.isList λh' g1 g2 g3 g4 g5 gz gk=>?_;refine wpAny_pyIter_zip (s:={ s1 with heap:=h' }) g1 ?_;have I2:Inv X pins σ H1 { s1 with heap:=h' }:=I1.kept (t':=s1.toks) gk;have D:ZipApart (s1.heap.objs.size+4) (s1.heap.objs.size+2) (s1.heap.objs.size+3) s1.heap.objs.size (s1.heap.objs.size+1) a b:=by constructor<;>first | exact Xx (by lia) | exact Yg (by lia)
 refine⟨_,_,_,_,H1,rfl,I2,zoB a b _ _ _ _ _ D,⟨g1,g2,⟨_,_,g3⟩,g4,g5⟩,λc hc=>?_,q⟩;have hc':s1.heap.objs.size<=c:=by
  simp only[Xu,List.not_mem_nil,or_false]at hc;rcases hc with rfl | rfl | rfl | rfl | rfl<;>lia
 exact I1.fpOk hc' (I1.hok.fresh hc')
end
end _L
namespace _P
open PySem PySem.Spec _L
open PyProof.Rows hiding St
noncomputable def zipP (ds es:List PV):List PV:=List.zipWith (λd e=>.tup [d,e]) ds es
theorem zcR {ds es:List PV}{i:Nat}{d:PV}(h:(zipP ds es)[i]? = some d):∃x y,ds[i]? = some x/\es[i]? = some y/\d=.tup [x,y]:=by
 unfold zipP at h;rw[List.getElem?_zipWith]at h;cases h1:ds[i]? with
 | none=>rw[h1]at h;cases h
 | some x=>
  cases h2:es[i]? with
  | none=>rw[h1,h2]at h;cases h
  | some y=>rw[h1,h2]at h;cases h;exact⟨x,y,rfl,rfl,rfl⟩
theorem zcS (ds es:List PV):(zipP ds es).length=min ds.length es.length:=by simp[zipP]
noncomputable def zdE (t:TPA):TPI:=λρ Q=>t ρ λops=>noOwn ops=true/\∃ds es,ops.map (·.1)=[.lst ds,.lst es]/\Q (zipP ds es) false
section
variable {X:Cx}{elts:List Expr}{x1:Nat}{tpos p pos:Pos}{e e2:Expr}{t:TPA}
theorem zhg (hg:Gl X "zip") (hm:X.mg "zip" = none) (ha:PuA X [e,e2] t) (he:autoParam (starEach [e,e2] X.env=(false,eval e X.env)::starEach [e2] X.env) aU0) (hpl:autoParam ((backTo pos (starEach [e2] X.env)).any (·.1)=false) aU0) :
  PuI X (.Tuple elts x1 tpos) (.Call (.Name "zip" p) [e,e2] [] pos) (zdE t) where
 mono ρ Q Q' m h:=ha.mono ρ _ _ (λops q109q=>by obtain⟨e1,ds,es,e,q⟩:=q109q;exact⟨e1,ds,es,e,m _ _ q⟩) h
 run:=PI.weak (zsQ hg hm ha.run he hpl) λσ H Rr h=>by
  obtain⟨ρ,Fz,R,h⟩:=h;refine⟨ρ,Fz,R,ha.mono ρ _ _ (λops q vs Fz' H' x o=>?_) h⟩;obtain⟨hn,ds,es,eo,q⟩:=q;obtain⟨F2,x2,s2,d2⟩:=o.frozen x hn;rw[eo]at d2;simp only[DenL]at d2;obtain⟨v1,r1,rfl,d1,v2,r2,rfl,d3,rfl⟩:=d2;simp only[Den]at d1 d3;obtain⟨a,xs,rfl,a1,a2⟩:=d1;obtain⟨b,ys,rfl,b1,b2⟩:=d3;have sq:∀ {c:Addr} {zs:List V} {H2:Hp},Keep F2 H' H2->((F2 c/\Rd H' c (.lst zs))\/KX X.K c zs)->SqL X.K H2 c zs:=λkp h=>h.elim (λh=>.inl (kp.rd trivial h.1 h.2)) KX.sq;refine⟨a,b,rfl,⟨xs,sq (.of (Same.refl _)) a1⟩,⟨ys,sq (.of (Same.refl _)) b1⟩,q _ F2 H' x2 λH2 hH i=>?_⟩;have kp:Keep F2 H' H2:=hH.elim (λz=>.of z) (λz=>.mk' z.2);have g1:=sq kp a1;have g2:=sq kp b1;have m1:=DenL.mono kp (λ_ h=>h) _ _ a2;have m2:=DenL.mono kp (λ_ h=>h) _ _ b2;have l1:=m1.length;have l2:=m2.length;refine⟨λd hd=>?_,λhi=>⟨xs,ys,g1,g2,by rw[zcS]at hi;lia⟩⟩;obtain⟨u,w,hu,hw,rfl⟩:=zcR hd;obtain⟨v,q1,q2⟩:=m1.get hu;obtain⟨v',q3,q4⟩:=m2.get hw;refine⟨⟨xs,ys,v,v',g1,q1,g2,q3⟩,λy H3 q110q=>?_⟩;obtain⟨pp,c1,c2,ey,hnp,gy,gy2,e3⟩:=q110q;subst ey e3;have e1:=gy xs g1;rw[q1]at e1;cases e1;have e2:=gy2 ys g2;rw[q3]at e2;cases e2;have sm:Same H2 (upd H2 pp (.tup [v,v'])):=λb o hb=>by rw[zah (zaE hb hnp)];exact hb
  refine⟨sm,?_⟩;simp only[Den];exact⟨pp,_,rfl,zaj,DenL.cons (Den.mono (.of sm) (λ_ h=>h) _ _ q2) (DenL.cons (Den.mono (.of sm) (λ_ h=>h) _ _ q4) DenL.nil)⟩
end
end _P
namespace JZ2
open PySem
section
variable {prog:Program}{w:World}{A:Around}{E:Value->Shared->Prop}{s:Shared}
noncomputable abbrev ZipK (h:Heap)(z TI TO:Addr)(a:Addr)(b:Bool):Prop:=
 h.get? z=some { cls:=.type "zip",dict:=none,data:=.fields #[rawInt a,.bool b,.bool false,.ref TI,.ref TO],slots:=#[] }
noncomputable def ZAt (h:Heap)(z TI TO i1 i2:Addr):Prop:=(IsZip h z TI TO .none/\∃a b,IsPair h TO a b)\/∃a b oa,ZipK h z TI TO a b/\h.get? a=some oa/\a≠z/\a≠i1/\a≠i2
end
end JZ2
namespace PySem.SeqAt
open MeetsSeq
theorem zim {M:Model}{A:Around}{E:Value->Shared->Prop}{s:Shared}{β:Type}{a b:Nat}{f:Nat->β->Sem (ForInStep β)}(I:Nat->β->Shared->Prop)(Q:β->Shared->Prop)
  (turn:∀i c s,a<=i->i<b->I i c s->wpAny M A (f i c) (λr s'=>match r with | .yield c'=>I (i+1) c' s' | .done c'=>Q c' s') E s)
  (fin:∀c s,I (max a b) c s->Q c s) (c:β) (h:I a c s):wpAny M A (forIn ([a:b]:Std.Legacy.Range) c f) Q E s:=by
 rw[Std.Legacy.Range.forIn_eq_forIn_range'];have hz:([a:b]:Std.Legacy.Range).size=b-a:=by simp[Std.Legacy.Range.size]
 show wpAny M A (forIn (List.range' a ([a:b]:Std.Legacy.Range).size 1) c f) Q E s;rw[hz];refine wpAny_forIn_list f (λl c s=>∃i,a<=i/\i<=max a b/\l=List.range' i (max a b-i) 1/\I i c s) Q ?_ ?_ _ c ⟨a,Xg _,by lia,by congr 1;lia,h⟩
 ·rintro x rest c s ⟨i,h1,h2,hl,hI⟩;have lt:i<max a b:=by
   rcases Nat.lt_or_ge i (max a b)with h' | h'
   ·exact h'
   ·rw[show max a b-i=0 by lia]at hl;simp at hl
  obtain⟨n,hn⟩:∃n,max a b-i=n+1:=⟨max a b-i-1,by lia⟩;rw[hn,List.range'_succ]at hl;obtain⟨rfl,rfl⟩:=List.cons.inj hl;refine wpAny_mono (turn x c s h1 (by lia) hI) (λr s' h'=>?_) λ_ _ h'=>h';cases r with
  | done c'=>exact h'
  | yield c'=>exact⟨x+1,by lia,by lia,by congr 1;lia,h'⟩
 ·rintro c s ⟨i,h1,h2,hl,hI⟩;have e:i=max a b:=by
   rcases Nat.lt_or_ge i (max a b)with h' | h'
   ·obtain⟨n,hn⟩:∃n,max a b-i=n+1:=⟨max a b-i-1,by lia⟩;rw[hn,List.range'_succ]at hl;simp at hl
   ·lia
  subst e;exact fin _ _ hI
theorem zhh (l:Addr)(items:Array Value)(n:Nat)(dd:Option Addr)(sl:Array (Option Value))(x:Value)(e:Value->Bool)(j:Nat)(hj:j<items.size)
  (hit:e items[j]=true) (hno:∀m (hm:m<items.size),m<j->e items[m]=false) :
  Meets (Builtin.«tuple.index» ⟨[.ref l,x],[]⟩)
   (λA R s=>s.heap.get? l=some { cls:=.type "tuple",dict:=dd,data:=.seq items n,slots:=sl }/\(∀y,y∈items->EqAt A.in1 s y x (e y))/\R (.ok (.ret (.int j s.toks))) { s with toks:=s.toks+1 }):=
 .of_wp λprog w A R s h=>by
  obtain⟨hp,g,d,tk,os⟩:=s;obtain⟨hl,he,h⟩:=h
  wp_walk using wpAny_loadPart' hl,zim (λi (b:Option _×Unit) s'=>b.1=none/\s'=⟨hp,g,d,tk,os⟩/\i<=j) _
  case turn=>
   rintro i b s' h0 hi ⟨hb,rfl,hij⟩;have hi':i<items.size:=by lia
   rw[show items[i]? = some items[i] from YO hi'];refine wpAny_bind (he _ (Array.getElem_mem hi') prog w _ _ ?_);by_cases ej:i=j
   ·subst ej;rw[hit]
    wp_walk
    exact⟨_,rfl,h⟩
   ·rw[hno i hi' (by lia)]
    wp_walk
    exact⟨rfl,rfl,by lia⟩
  case fin=>
   rintro b s' ⟨hb,rfl,hij⟩;exact absurd hij (by lia)
  case h=>exact⟨rfl,rfl,Yh _⟩
end PySem.SeqAt
namespace _L
open PySem PySem.Spec PyProof.Rows
section
variable {X:Cx}
noncomputable def rIdx (sq:Hp->Addr->List V->Prop):V->List V->Hp->VK->Prop:=λx vs H Q=>∃(p:Addr)(xs:List V)(y:V)(j:Nat),x=.ref p/\vs=[y]/\sq H p xs/\zef y=true/\xs.all zef=true/\(∃w,xs[j]? = some w/\eqV w y=true)/\(∀m w,m<j->xs[m]? = some w->eqV w y=false)/\Q (.int (j:Int)) H
theorem zmQ:∀ {xs:List V}{us:List Value}{m:Nat}{u:Value},Vals xs us->us[m]? = some u->∃w,xs[m]? = some w/\RelV w u
 | _,_,m,u,.nil,h=>by simp at h
 | x::xs,v::us,0,u,.cons r t,h=>by simp at h;subst h;exact⟨x,rfl,r⟩
 | x::xs,v::us,m+1,u,.cons r t,h=>by simpa using zmQ t (by simpa using h)
theorem zra {xs:List V}{m:Nat}{w:V}(f:xs.all zef=true)(h:xs[m]? = some w):zef w=true:=XV.mp f w (Xr h)
theorem zin {xs:List V}{its:List Value}{y:V}{j:Nat}(r:Vals xs its)(fs:xs.all zef=true)(h1:∃w,xs[j]? = some w/\eqV w y=true)(h2:∀m w,m<j->xs[m]? = some w->eqV w y=false) :
  ∃hj:j<its.toArray.size,eqU y its.toArray[j]=true/\∀m (hm:m<its.toArray.size),m<j->eqU y its.toArray[m]=false:=by
 have hl:=r.length;obtain⟨w,hw,ew⟩:=h1;have hj:j<xs.length:=(Xd.mp hw).1;have hj':j<its.length:=by lia
 have at_:∀m (hm:m<its.length),∀w,xs[m]? = some w->eqU y its[m]=eqV w y:=λm hm w hx=>by
  obtain⟨w',q1,q2⟩:=zmQ r (Xf hm);rw[hx]at q1;cases q1;exact zpo q2 (zra fs hx)
 refine⟨by simpa using hj',?_,λm hm hlt=>?_⟩
 ·have:=at_ j hj' w hw;simpa[ew]using this
 ·have hm':m<its.length:=by simpa using hm
  have hx:xs[m]? = some xs[m]:=Xf (by lia);have:=at_ m hm' _ hx;rw[h2 m _ hlt hx]at this;simpa using this
theorem zmR:MtR X "list.index" (rIdx λH p xs=>SqL X.K H p xs):=by
 intro pins s σ H x vs v us Q I rx rv h;obtain⟨p,xs,y,j,rfl,rfl,hq,fy,fs,h1,h2,q⟩:=h;cases rx;obtain⟨u,rfl,ru⟩:=rv.one;obtain⟨its,r,pl,hz⟩:=I.list hq;obtain⟨hj,e1,e2⟩:=zin r fs h1 h2;obtain⟨⟨cls,dd,data,sl⟩,n,ho,hc,hd,hs⟩:=id pl;simp only at hc hd hs;subst hc hd hs;have hl:=r.length;have hz':=hz;rw[sizeLine_eq]at hz';have hj2:j<its.length:=by simpa using hj
 exact call_meets PySem.F.slot_list_index ⟨_,ho,rfl⟩ PySem.F.entry_list_index (PySem.F.args_list_index_2 _ _) (SeqAt.list_indexAt p its.toArray n _ sl u (eqU y) j hj (by lia) e1 e2) ⟨ho,λz hz=>zgR ru fy r fs z (by simpa using hz),⟨.int (j:Int),H,I.tok _,⟨_,rfl⟩,q⟩⟩
theorem zmS:MtR X "tuple.index" (rIdx λH p xs=>SqT X.K H p xs):=by
 intro pins s σ H x vs v us Q I rx rv h;obtain⟨p,xs,y,j,rfl,rfl,hq,fy,fs,h1,h2,q⟩:=h;cases rx;obtain⟨u,rfl,ru⟩:=rv.one;obtain⟨its,r,pl,hz⟩:=I.tuple hq;obtain⟨hj,e1,e2⟩:=zin r fs h1 h2;obtain⟨⟨cls,dd,data,sl⟩,ho,hc,n,hd⟩:=id pl;simp only at hc hd;subst hc hd;exact call_meets PySem.F.slot_tuple_index ⟨_,ho,rfl⟩ PySem.F.entry_tuple_index (PySem.F.args_tuple_index_2 _ _) (SeqAt.zhh p its.toArray n dd sl u (eqU y) j hj e1 e2) ⟨ho,λz hz=>zgR ru fy r fs z (by simpa using hz),⟨.int (j:Int),H,I.tok _,⟨_,rfl⟩,q⟩⟩
theorem Inv.zsR {pins:List (Addr×Obj)}{σ:St}{H:Hp}{s:Shared}{a:Addr}{xs:List V}(I:Inv X pins σ H s)(h:SqT X.K H a xs):∃ob,s.heap.get? a=some ob/\ob.cls=.type "tuple"/\ob.dict=none:=by
 rcases h with h | ⟨o,its,n,hk,hc,hs,hz,r,hd⟩
 ·obtain⟨z,its,r,o,h1,h2,h3,h4⟩:=h.ok I.hok;exact⟨o,h1,h2,h4⟩
 ·exact⟨o,I.kIn a o hk,hc,hd⟩
variable {o e:Expr}{to te:TE}{name:Str}{apos cpos:Pos}{id:String}{r:V->List V->Hp->VK->Prop}
end
end _L
namespace _P
open PySem PySem.Spec _L
open PyProof.Rows hiding St
noncomputable def zgk:PV->Bool
 | .non=>true
 | .int _=>true
 | .str _=>true
 | _=>false
noncomputable def idxP (ds:List PV)(e:PV):Nat:=ds.findIdx λx=>decide (x=e)
section
variable {K:Xa}{Fz:FZ}{H:Hp}
theorem zkf {d:PV}{v:V}(f:zgk d=true)(h:Den K Fz H d v):zef v=true:=by
 cases d with
 | non=>simp only[Den]at h;subst h;rfl
 | int i=>simp only[Den]at h;subst h;rfl
 | str x=>simp only[Den]at h;subst h;rfl
 | _=>exact absurd (show false=true from f) Xo
theorem zmT {d e:PV}{v w:V}(fd:zgk d=true)(fe:zgk e=true)(hd:Den K Fz H d v)(he:Den K Fz H e w):eqV v w=decide (d=e):=by
 cases d with
 | non=>
  simp only[Den]at hd;subst hd;cases e with
  | non=>simp only[Den]at he;subst he;simp[eqV]
  | int i=>simp only[Den]at he;subst he;simp[eqV]
  | str x=>simp only[Den]at he;subst he;simp[eqV]
  | _=>exact absurd (show false=true from fe) Xo
 | int i=>
  simp only[Den]at hd;subst hd;cases e with
  | non=>simp only[Den]at he;subst he;simp[eqV]
  | int i=>simp only[Den]at he;subst he;rw[zjP];rfl
  | str x=>simp only[Den]at he;subst he;simp[eqV]
  | _=>exact absurd (show false=true from fe) Xo
 | str x=>
  simp only[Den]at hd;subst hd;cases e with
  | non=>simp only[Den]at he;subst he;simp[eqV]
  | int i=>simp only[Den]at he;subst he;simp[eqV]
  | str x=>simp only[Den]at he;subst he;rw[zjQ];rfl
  | _=>exact absurd (show false=true from fe) Xo
 | _=>exact absurd (show false=true from fd) Xo
theorem zio:∀ {ds:List PV}{xs:List V},ds.all zgk=true->DenL K Fz H ds xs->xs.all zef=true
 | [],xs,_,h=>by simp only[DenL]at h;subst h;rfl
 | d::ds,xs,f,h=>by
  simp only[DenL]at h;obtain⟨v,r,rfl,h1,h2⟩:=h;rw[List.all_cons,Yn]at f ⊢;exact⟨zkf f.1 h1,zio f.2 h2⟩
theorem zrb {ds:List PV}{xs:List V}{e:PV}{y:V}(f:ds.all zgk=true)(fe:zgk e=true)(h:DenL K Fz H ds xs)(hy:Den K Fz H e y)(hm:e∈ds) :
  (∃w,xs[idxP ds e]? = some w/\eqV w y=true)/\∀m w,m<idxP ds e->xs[m]? = some w->eqV w y=false:=by
 have hi:idxP ds e<ds.length:=List.findIdx_lt_length_of_exists ⟨e,hm,by simp⟩;have hl:=h.length;refine⟨?_,λm w hlt hw=>?_⟩
 ·obtain⟨w,q1,q2⟩:=h.get (Xf hi);refine⟨w,q1,?_⟩;have:=List.findIdx_getElem (p:=λx=>decide (x=e)) (xs:=ds) (w:=hi);rw[zmT (XV.mp f _ (Yo hi)) fe q2 hy];exact this
 ·have hm':m<ds.length:=by
   have:=(Xd.mp hw).1;lia
  obtain⟨w',q1,q2⟩:=h.get (Xf hm');rw[hw]at q1;cases q1;rw[zmT (XV.mp f _ (Yo hm')) fe q2 hy];have:=List.not_of_lt_findIdx (p:=λx=>decide (x=e)) (xs:=ds) hlt;simpa using this
end
theorem zmU {K:Xa}{Fz:FZ}{H:Hp}{d:PV}{v:V}(f:zgk d=true)(h:Root K Fz H d v):Den K Fz H d v:=by
 cases d with
 | non=>exact h
 | int i=>exact h
 | str x=>exact h
 | _=>exact absurd (show false=true from f) Xo
end _P
namespace _L
open PySem PySem.Spec PyProof.Rows
section
variable {X:Cx}
theorem zmV (hc:X.calm=true):zdh X (.builtin "sum") (λxs H Q=>∃(p:Addr) (ns:List Int),xs=[V.ref p]/\SqL X.K H p (ns.map V.int)/\Q (.int ns.sum) H):=by
 intro pins s σ H xs us Q I r h;obtain⟨p,ns,rfl,hq,q⟩:=h;obtain⟨u,rfl,rx⟩:=vals1 r;cases rx;obtain⟨its,r',pl,hz⟩:=I.list hq;have hI:IntsAre its ns:=intsAre_of r';have hl:=pl.isList;have hall:=hI.allInts;obtain⟨zs,ez⟩:=hall.items;rw[ez]at hl;refine sum_intListG (I.ok.hd hc) hl λh' tk t' hk=>?_;have en:preSum (numAt zs) zs.size=ns.sum:=by
  have e1:numsOf its.toArray.toList=ns:=hI.numsOf;rw[ez,nums_intItems]at e1;rw[preSum_eq,XJ (by simp),e1]
 rw[en];exact⟨.int ns.sum,H,I.kept hk,⟨_,rfl⟩,q⟩
end
end _L
namespace _P
open PySem PySem.Spec _L
open PyProof.Rows hiding St
section
variable {X:Cx}
noncomputable def fSum:PF:=λds Q=>∃ns:List Int,ds=[.lst (ns.map PV.int)]/\Q (.int ns.sum) .frz
theorem zgA {K:Xa}{Fz:FZ}{H:Hp}:∀ {ns:List Int}{xs:List V},DenL K Fz H (ns.map PV.int) xs->xs=ns.map V.int
 | [],xs,h=>by simpa only[List.map,DenL]using h
 | n::ns,xs,h=>by
  simp only[List.map,DenL,Den]at h;obtain⟨v,r,rfl,rfl,h⟩:=h;rw[zgA h];rfl
theorem zsS:zeU X.K (λxs H Q=>∃(p:Addr)(ns:List Int),xs=[V.ref p]/\SqL X.K H p (ns.map V.int)/\Q (.int ns.sum) H) fSum where
 mono ds Q Q' m h:=by obtain⟨ns,e,q⟩:=h;exact⟨ns,e,m _ _ q⟩
 run Fz H ds vs Q al hr h:=by
  obtain⟨ns,rfl,q⟩:=h;obtain⟨v,rfl,h1⟩:=zeu hr;obtain⟨a,xs,rfl,h2,h3⟩:=zat h1;rw[zgA h3]at h2;exact⟨a,ns,rfl,h2,q _ Fz H (.val al (by simp only[Den]))⟩
variable {e:Expr}{es:List Expr}{t:TPA}{p pos:Pos}
theorem bSum:bootBuiltins "sum" = some (.builtin "sum"):=by decide +kernel
theorem zsT (hc:X.calm=true)(hg:Gl X "sum") (hm:X.mg "sum" = none) (ha:PuA X (e::es) t) (he:autoParam (starEach (e::es) X.env=(false,eval e X.env)::starEach es X.env) aU0) (hpl:autoParam ((backTo pos (starEach es X.env)).any (·.1)=false) aU0):PuE X (.Call (.Name "sum" p) (e::es) [] pos) (tB fSum t):=
 zcO (zmV hc) zsS hg hm bSum ha (by decide) (by decide) he hpl
end
section
variable {X:Cx}{pos:Pos}
noncomputable def zdV:TPE:=λ_ Q=>Q (.dK [] []) .new
theorem zrc:PuE X (.Dict [] [] pos) zdV where
 mono ρ Q Q' m h:=m _ _ h
 run:=PE.weak zoe λσ H Q h=>by
  obtain⟨ρ,Fz,R,h⟩:=h;exact λp hp=>h _ Fz _ ⟨Ext.laid ⟨Same.refl H,λ_ h=>h,λ_ h=>.inl h,R.al⟩ hp,p,rfl,hp,λz=>R.al p z hp,[],zaj,rfl,DenL.nil⟩
end
end _P
namespace _L
open PySem PySem.Spec PyProof.Rows
section
variable {X:Cx}{o e:Expr}{to te:TE}{apos cpos:Pos}
theorem zoC (ho:PE X o to)(he:PE X e te)(m:M1 X o "index" apos e cpos) :
  PE X (.Call (.Attribute o "index" apos) [e] [] cpos) (λσ H Q=>to σ H λx H1=>∃a xs,x=.ref a/\(SqL X.K H1 a xs\/SqT X.K H1 a xs)/\te σ H1 λy H2=>∃zs,(SqL X.K H1 a xs/\SqL X.K H2 a zs\/SqT X.K H1 a xs/\SqT X.K H2 a zs)/\∃j:Nat,zef y=true/\zs.all zef=true/\(∃w,zs[j]? = some w/\eqV w y=true)/\(∀m w,m<j->zs[m]? = some w->eqV w y=false)/\Q (.int (j:Int)) H2):=by
 intro pins s σ H Q I h;refine wpAny_Call_method_late m.base m.few m.line rfl (thn (ho pins s σ H _ I h) λu s1 q111q=>?_);obtain⟨x,H1,I1,rx,a,xs,ex,d,q1⟩:=q111q;subst ex;obtain rfl:u=Value.ref a:=rx;rcases d with d | d
 ·obtain⟨its,rv,⟨ob,n,h1,h2,h3,h4⟩,hz⟩:=I1.list d;refine⟨"list","list.index",PySem.F.plainAttrs_list,PySem.F.slot_list_index,PySem.F.type_list_index,⟨ob,h1,h2⟩,λb q=>by cases q;exact⟨ob,h1,h3⟩,?_⟩;rw[m.trees];refine Calls.callWith_builtin rfl (Calls.evalArgs_plain (Calls.spliced_cons (thn (he pins s1 σ H1 _ I1 q1) λiv s2 q112q=>Calls.spliced_nil ?_)));obtain⟨y,H2,I2,ry,zs,hsq,j,f1,f2,g1,g2,q2⟩:=q112q;rcases hsq with ⟨_,hsq⟩ | ⟨hst,_⟩
  ·exact zmR pins s2 σ H2 (.ref a) [y] (.ref a) [iv] Q I2 rfl (.cons ry .nil) ⟨a,zs,y,j,rfl,rfl,hsq,f1,f2,g1,g2,q2⟩
  ·exact(_P.zen I1 d hst).elim
 ·obtain⟨ob,h1,h2,h4⟩:=I1.zsR d;refine⟨"tuple","tuple.index",PySem.F.plainAttrs_tuple,PySem.F.slot_tuple_index,PySem.F.type_tuple_index,⟨ob,h1,h2⟩,λb q=>by cases q;exact⟨ob,h1,h4⟩,?_⟩;rw[m.trees];refine Calls.callWith_builtin rfl (Calls.evalArgs_plain (Calls.spliced_cons (thn (he pins s1 σ H1 _ I1 q1) λiv s2 q113q=>Calls.spliced_nil ?_)));obtain⟨y,H2,I2,ry,zs,hsq,j,f1,f2,g1,g2,q2⟩:=q113q;rcases hsq with ⟨hsl,_⟩ | ⟨_,hsq⟩
  ·exact(_P.zen I1 hsl d).elim
  ·exact zmS pins s2 σ H2 (.ref a) [y] (.ref a) [iv] Q I2 rfl (.cons ry .nil) ⟨a,zs,y,j,rfl,rfl,hsq,f1,f2,g1,g2,q2⟩
end
end _L
namespace _P
open PySem PySem.Spec _L
open PyProof.Rows hiding St
noncomputable def pIdx (to te:TPE):TPE:=λρ Q=>to ρ λd _=>∃ds,(d=.lst ds\/d=.tup ds)/\ds.all zgk=true/\te ρ λe _=>zgk e=true/\e∈ds/\Q (.int (idxP ds e:Int)) .frz
section
variable {X:Cx}{o e:Expr}{to te:TPE}{apos cpos:Pos}
theorem zoD (ho:PuE X o to)(he:PuE X e te)(m:M1 X o "index" apos e cpos:=by exact⟨rfl,rfl,rfl,rfl⟩):PuE X (.Call (.Attribute o "index" apos) [e] [] cpos) (pIdx to te) where
 mono ρ Q Q' mm h:=ho.mono ρ _ _ (λd _ q114q=>by obtain⟨ds,e1,e2,h⟩:=q114q;exact⟨ds,e1,e2,he.mono ρ _ _ (λe _ q115q=>by obtain⟨q1,q2,q⟩:=q115q;exact⟨q1,q2,mm _ _ q⟩) h⟩) h
 run:=PE.weak (zoC ho.run he.run m) λσ H Q h=>by
  obtain⟨ρ,Fz,R,h⟩:=h;refine⟨ρ,Fz,R,ho.mono ρ _ _ (λd k q v F1 H1 p1=>?_) h⟩;obtain⟨ds,hd,f,q⟩:=q;have rt:=p1.root R;obtain⟨a,xs,rfl,hsq,hsq2,h2⟩:∃a xs,v=.ref a/\(SqL X.K H1 a xs\/SqT X.K H1 a xs)/\(∀H2,Same H1 H2->(SqL X.K H1 a xs/\SqL X.K H2 a xs\/SqT X.K H1 a xs/\SqT X.K H2 a xs))/\DenL X.K F1 H1 ds xs:=by
   rcases hd with rfl | rfl
   ·obtain⟨a,xs,rfl,h1,h2⟩:=zat rt;exact⟨a,xs,rfl,.inl h1,λH2 s=>.inl ⟨h1,s.seq h1⟩,h2⟩
   ·obtain⟨a,xs,rfl,h1,h2⟩:=zfG rt;exact⟨a,xs,rfl,.inr (SqT.of h1),λH2 s=>.inr ⟨SqT.of h1,SqT.of (s _ _ h1)⟩,h2⟩
  refine⟨a,xs,rfl,hsq,ρ,F1,R.ext p1.ext,he.mono ρ _ _ (λe ke q w F2 H2 p2=>?_) q⟩;obtain⟨fe,hm,q⟩:=q;have h3:=DenL.mono (.of p2.ext.same) p2.ext.sub _ _ h2;have hy:=zmU fe (p2.root (R.ext p1.ext));obtain⟨g1,g2⟩:=zrb f fe h3 hy hm;exact⟨xs,hsq2 H2 p2.ext.same,idxP ds e,zkf fe hy,zio f h3,g1,g2,q _ F2 H2 ⟨p1.ext.trans p2.ext,by show Den _ _ _ _ _;simp only[Den]⟩⟩
end
section
variable {X:Cx}{a b:Expr}{ta tb:TPE}{pos:Pos}
theorem zoE {prog:Program}{w:World}{A:Around}{E:Value->Shared->Prop}{s:Shared}{t b:Addr}{vs ws:List Value}{Q:Value->Shared->Prop}(ht:IsTup s.heap t vs.toArray)(hb:IsTup s.heap b ws.toArray)(hv:vs=[])
  (h:Q (.ref b) s):wpAny (model prog w) A (binaryOp .Add (.ref t) (.ref b)) Q E s:=by
 obtain⟨o,ho,hc,n,hd⟩:=ht;obtain⟨o2,ho2,hc2,n2,hd2⟩:=hb;cases o with | mk cls dd data sl=>
 cases o2 with | mk cls2 dd2 data2 sl2=>
 cases hc;cases hd;cases hc2;cases hd2;have he:vs.toArray.isEmpty=true:=by rw[hv];rfl
 have m:=tuple_addW0 t b vs.toArray ws.toArray n n2 dd dd2 sl sl2 he;exact concat_meets ⟨_,ho,rfl⟩ ⟨_,ho2,rfl⟩ noFill_tuple_add seq_tuple_add PySem.F.slot_tuple_add PySem.F.entry_tuple_add (PySem.F.args_tuple_add_2 _ _) m ⟨ho,ho2,h⟩
noncomputable def zpw (K:Xa):R2:=λx y H Q=>∃l r xs zs,x=.ref l/\y=.ref r/\SqT K H l xs/\SqT K H r zs/\xs.length+zs.length<=sizeLine/\
 (xs=[]->Q (.ref r) H)/\(zs=[]->Q (.ref l) H)/\∀p,H p=none->Q (.ref p) (upd H p (.tup (xs++zs)))
theorem zoF:OpR X (binaryOp .Add) (zpw X.K):=by
 intro pins s σ H x y v u Q I rx ry h;obtain⟨l,r,xs,zs,rfl,rfl,hl,hr,hz,q0,q1,q2⟩:=h;by_cases hx:xs=[]
 ·cases rx;cases ry;obtain⟨its,r1,p1,_⟩:=I.tuple hl;obtain⟨its2,r2,p2,_⟩:=I.tuple hr;exact zoE p1 p2 (r1.zgP.mpr hx) ⟨.ref r,H,I,rfl,q0 hx⟩
 ·exact zqk pins s σ H (.ref l) (.ref r) v u Q I rx ry ⟨l,r,xs,zs,rfl,rfl,hl,hr,hx,hz,q1,λ_=>q2⟩
noncomputable def zdW:P2:=λd e Q=>∃ds es,d=.tup ds/\e=.tup es/\ds.length+es.length<=sizeLine/\Q (.tup (ds++es)) .frz
theorem zrd {K:Xa}:POp K (zpw K) zdW where
 mono d e Q Q' m h:=by obtain⟨ds,es,e1,e2,e3,q⟩:=h;exact⟨ds,es,e1,e2,e3,m _ _ q⟩
 run Fz H x y d e Q al rx ry h:=by
  obtain⟨ds,es,rfl,rfl,e3,q⟩:=h;have dx:Den K Fz H (.tup ds) x:=rx;have dy:Den K Fz H (.tup es) y:=ry;obtain⟨l,xs,rfl,h1,h2⟩:=zaL rx;obtain⟨r,ys,rfl,g1,g2⟩:=zaL ry;have l1:=h2.length;have l2:=g2.length;refine⟨l,r,xs,ys,rfl,rfl,h1,g1,by lia,λz=>?_,λz=>?_,λp hp=>q _ Fz _ (.newT al hp (h2.append g2))⟩
  ·have:ds=[]:=XW.mp (by rw[z]at l1;simpa using l1);subst this;exact q _ Fz _ (.val al dy)
  ·have:es=[]:=XW.mp (by rw[z]at l2;simpa using l2);subst this;rw[List.append_nil]at q;exact q _ Fz _ (.val al dx)
theorem zmW (ha:PuE X a ta)(hb:PuE X b tb):PuE X (.BinOp a .Add b pos) (t2 zdW ta tb):=zgX zoF zrd ha hb
end
section
variable {X:Cx}{a:Expr}{ta:TPE}{pos:Pos}
noncomputable def pNeg (ta:TPE):TPE:=λρ Q=>ta ρ λd _=>∃i:Int,d=.int i/\Q (.int (-i)) .frz
theorem zfQ (ha:PuE X a ta):PuE X (.UnaryOp .USub a pos) (pNeg ta) where
 mono ρ Q Q' m h:=ha.mono ρ _ _ (λd k q116q=>by obtain⟨c,e,q⟩:=q116q;exact⟨c,e,m _ _ q⟩) h
 run:=PE.weak (ztJ zrS ha.run) λσ H Q h=>by
  obtain⟨ρ,Fz,R,h⟩:=h;refine⟨ρ,Fz,R,ha.mono ρ _ _ (λd k ⟨c,e,q⟩ v Fz' H' p=>⟨c,?_,q _ Fz' H' ⟨p.ext,by show Den _ _ _ _ _;simp only[Den]⟩⟩) h⟩;subst e;exact zay (p.root R)
end
end _P
namespace _S
open PySem PyProof.Rows
structure Cmp (prog:Program)(w:World)(A:Around)(E:Value->Shared->Prop)(s:Shared)(k:SortKind)(P:Keyed->Prop)(f:Keyed->Keyed->Bool):Prop where
 run:∀ {x y:Keyed} {Q:Option Bool->SortSt->Prop} {st:SortSt},P x->P y->kindOf st=k->Q (some (f x y)) st->wpS (model prog w) A E s (lt' x y) Q st
structure Same (st st':SortSt):Prop where
 kind:kindOf st'=kindOf st
 arr:arrOf st'=arrOf st
 pend:pendingOf st'=pendingOf st
 failed:failedOf st'=failedOf st
noncomputable abbrev Le (f:Keyed->Keyed->Bool)(x y:Keyed):Prop:=f y x=false
section
variable {prog:Program}{w:World}{A:Around}{E:Value->Shared->Prop}{s:Shared}{k:SortKind}{P:Keyed->Prop}{f:Keyed->Keyed->Bool}
noncomputable def Run (f:Keyed->Keyed->Bool)(a:Array Keyed)(lo hi:Nat):Prop:=∀(i j:Nat)(hj:j<a.size)(hij:i<j),lo<=i->j<hi->Le f (a[i]'(by lia)) a[j]
end
noncomputable def bin:Nat->Nat->Nat->StateT SortSt Sem Bool:=sortPriv% PySem.Builtin.binarySort
section
variable {prog:Program}{w:World}{A:Around}{E:Value->Shared->Prop}{s:Shared}{k:SortKind}{P:Keyed->Prop}{f:Keyed->Keyed->Bool}
structure Moved (a a':Array Keyed)(lo hi:Nat):Prop where
 pm:a'.Perm a
 out:∀j:Nat,j<lo\/hi<=j->a'[j]? = a[j]?
end
variable {P:Keyed->Prop}{f:Keyed->Keyed->Bool}
noncomputable def Stk (f:Keyed->Keyed->Bool)(a:Array Keyed):Nat->List (Nat×Nat×Nat)->Nat->Prop
 | s,[],hi=>s=hi
 | s,e::r,hi=>e.1=s/\0<e.2.1/\Run f a s (s+e.2.1)/\Stk f a (s+e.2.1) r hi
noncomputable def srt:StateT SortSt Sem Unit:=sortPriv% PySem.Builtin.sortRuns
section
variable {prog:Program}{w:World}{A:Around}{E:Value->Shared->Prop}{s:Shared}{k:SortKind}{P:Keyed->Prop}{f:Keyed->Keyed->Bool}
structure Inv (f:Keyed->Keyed->Bool)(k:SortKind)(a:Array Keyed)(st:SortSt)(lo:Nat):Prop where
 kind:kindOf st=k
 failed:failedOf st=none
 pm:(arrOf st).Perm a
 stk:Stk f (arrOf st) 0 (pendingOf st).toList lo
end
noncomputable def ltI:List Int->List Int->Bool
 | [],[]=>false
 | [],_::_=>true
 | _::_,[]=>false
 | x::xs,y::ys=>if x=y then ltI xs ys else decide (x<y)
end _S
namespace _P
open PySem PySem.Spec _L
open PyProof.Rows hiding St
open _S (ltI)
section
variable {X:Cx}{e:Expr}{es:List Expr}{te:TPE}{t:TPA}{x:Str}{p p1 p2 q1 pos pos2 apos cpos:Pos}
noncomputable def zez (i:Nat)(te:TPE):TPM:=λρ Q=>∃ds,ρ[i]? = some (some (.lst ds,true))/\te ρ λd k=>∃es,d=.lst es/\k=.new/\ds.length+es.length<=sizeLine/\Q .non (ρ.set i (some (.lst (ds++es),true)))
theorem zoG (i:Nat)(he:PuE X e te)(hN:autoParam (X.N[i]? = some x) aU0)(hv:autoParam (Vis X.env.scope x) aU2)(hd:autoParam ((x == ("__debug__" : Str))=false) aU1) (hcd:autoParam ((x == ("__classdict__" : Str))=false) aU1)
  (hbase:autoParam (attributeBase (.Name x p) "extend" X.env (eval (.Name x p) X.env)=eval (.Name x p) X.env) aU0)
  (hfew:autoParam (((backTo cpos (starEach [e] X.env)).all (λx=>!x.1)&&(backToKw cpos (keywordEach [] X.env)).all (λx=>x.1.isSome)&&decide ([e].length+([]:List Keyword).length+(if ([]:List Keyword).isEmpty then 0 else 1)<30))=true) aU0)
  (hline:autoParam ((apos.endLine == cpos.line)=true) aU0) (hs:autoParam (starEach [e] X.env=(false,eval e X.env)::starEach [] X.env) aU0) (hplain:autoParam ((backTo cpos (starEach [] X.env)).any (·.1)=false) aU0):PuM X (.Call (.Attribute (.Name x p) "extend" apos) [e] [] cpos) (zez i te) where
 mono ρ Q Q' m h:=by
  obtain⟨ds,e1,h⟩:=h;exact⟨ds,e1,he.mono ρ _ _ (λd _ q118q=>by obtain⟨es,q1,q2,q3,q⟩:=q118q;exact⟨es,q1,q2,q3,m _ _ q⟩) h⟩
 run:=PE.weak (zqn PySem.F.plainAttrs_list PySem.F.slot_list_extend PySem.F.type_list_extend zlP (zco hN hv hd hcd) (zeP he.run zgs hs) hbase hfew hline hs hplain) λσ H Q h=>by
  obtain⟨ρ,Fz,R,ds,e1,h⟩:=h;obtain⟨a,xs,hs,ha,hd,nf⟩:=zeV R e1;refine⟨_,hs,.inl ⟨rfl,xs,SqL.of ha⟩,ρ,Fz,R,he.mono ρ _ _ (λd k q v F1 H1 p1=>?_) h⟩;obtain⟨es,rfl,rfl,q2,q⟩:=q;have R2:=R.ext p1.ext;obtain⟨a',xs',hs',ha',hd',nf'⟩:=zeV R2 e1;rw[hs]at hs';cases hs';obtain⟨pe,b,rfl,hb0,hbf,zs,hb,hz⟩:=p1;have hl:=hd'.length;have hl2:=hz.length;refine⟨a,b,xs',zs,rfl,rfl,ha',hb,by lia,?_⟩;have ow:Own X.K F1 (upd H1 a (.lst (xs'++zs))) (.lst (ds++es)) a:=⟨_,zaj,(DenL.rew ha' nf' (hd'.append hz))⟩;obtain⟨R3,s3,o3⟩:=R2.mut e1 hs ha' ow;exact q .non F1 _ ((Step.of pe).trans (zaC.refl ρ σ H) s3) (zaC.trans (Step.of pe) (zaC.refl ρ σ H) o3) R3 (by simp only[Den])
end
end _P
namespace _J
open PySem
noncomputable abbrev tb (m:Nat):SetTable:={ SetTable.fresh 0 0 true with mask:=m }
noncomputable def pth (m:Nat)(h:Int):Nat->SetTable.Probe
 | 0=>(tb m).probeStart h
 | n+1=>(tb m).advance (pth m h n)
structure Own (m:Nat)(ow:Array (Option Nat))(hs:List Int):Prop where
 sz:ow.size=m+1
 at_:∀(k:Nat) (h:Int),hs[k]? = some h->∃j n,ow[j]? = some (some k)/\(pth m h n).j=j/\∀d,d<n->∃q,ow[(pth m h d).j]? = some (some q)
 lt:∀(j k:Nat),ow[j]? = some (some k)->k<hs.length
 one:∀(j j' k:Nat),ow[j]? = some (some k)->ow[j']? = some (some k)->j=j'
open PySem PySem.Spec PyProof.Rows
section
variable {prog:Program}{w:World}{A:Around}{E:Value->Shared->Prop}{s:Shared}
noncomputable abbrev tH (prog:Program)(w:World)(y:List Int):Int:=tupleKeyHash (PySem.intKind prog w) y
end
noncomputable abbrev PA2:=List Int×Addr
noncomputable abbrev ent (prog:Program)(w:World)(p:PA2):Int×Value:=(tH prog w p.1,.ref p.2)
structure Few (t:SetTable)(n:Nat):Prop where
 all:n<=76
 a:t.mask=7->n<=4
 b:t.mask=31->n<=18
end _J
namespace _P
open PySem PySem.Spec _L
open PyProof.Rows hiding St
noncomputable def zoH (i j:Int):Prop:=i.natAbs<2 ^ 4000/\j.natAbs<2 ^ 4000
theorem bits_le {k:Int}(h:k.natAbs<2 ^ 4000):Builtin.Int.intBits k<=4000:=by
 unfold Builtin.Int.intBits;split
 ·exact Yh _
 ·rcases Nat.eq_zero_or_pos k.natAbs with h0 | hp
  ·rw[h0];decide
  ·exact(Nat.log2_lt (Yg hp)).mpr h
theorem zoH.ok {i j:Int}(h:zoH i j):IntMulOk i j:=by
 have h1:=bits_le h.1;have h2:=bits_le h.2;have h3:Builtin.Int.intTooBig (Builtin.Int.intBits i+Builtin.Int.intBits j)=false:=by
  unfold Builtin.Int.intTooBig;rw[decide_eq_false_iff_not];have hb:(8000:Int)<=bitsLine:=by decide
  lia
 unfold IntMulOk;rw[h3];simp
section
variable {X:Cx}{a b:Expr}{ta tb:TPE}{pos:Pos}
theorem zre:OpR X (binaryOp .Mult) (rI zoH λi j=>.int (i*j)):=opI λ_ _ _ _ _ _ _ hc q=>mul_int q hc.ok
noncomputable abbrev zeA:=t2 (i2 zoH λi j=>.int (i*j))
theorem zrf (ha:PuE X a ta)(hb:PuE X b tb):PuE X (.BinOp a .Mult b pos) (zeA ta tb):=zgX zre zhZ ha hb
end
structure Mx (K:Xa)(C:Addr)(x qual:Str)(st:Stmt)(ps:List Str)(f:Addr)(fd:FuncData):Prop where
 fn:Fun K x qual st f fd
 bd:Binds K fd ps []
 me:Meth K C x f
noncomputable def zcB:Stmt->List Stmt
 | .ClassDef _ _ _ b _ _ _ _ _ _ _=>b
 | _=>[]
noncomputable abbrev TPN:=PEnv->List Str->List PV->(List Str->List PV->Prop)->Prop
structure RelN (K:Xa)(Fz:FZ)(ρ:PEnv)(σ:St)(H:Hp)(C x dx:Addr)(ks:List Str)(ds:List PV):Prop where
 rel:Rel K Fz ρ σ H
 hz:ρ[0]? = some none
 sz:σ[0]? = some (some (.ref x))
 nf:¬ Fz x
 no:∀(i:Nat) (d:PV),ρ[i]?≠some (some (d,true))
 at_:∃xs,H x=some (.ins C dx (ks.zip xs))/\ks.length=xs.length/\DenL K Fz H ds xs
theorem zhi {f:Str}{v:V}:∀ {ks:List Str}{xs:List V},ks.length=xs.length->f∉ks->putF f v (ks.zip xs)=(ks++[f]).zip (xs++[v])
 | [],[],_,_=>rfl
 | [],_::_,h,_=>nomatch h
 | _::_,[],h,_=>nomatch h
 | k::ks,x::xs,h,n=>by
  have hk:¬ k=f:=λz=>n (z▸Xp ..);rw[Yc,YI,YI,Yc,<- zhi (Nat.succ.inj h) λz=>n (Xn _ z)];show(if k=f then _ else _)=_
  rw[if_neg hk]
theorem RelN.nown {K:Xa}{Fz:FZ}{ρ:PEnv}{σ:St}{H:Hp}{C x dx:Addr}{ks:List Str}{ds:List PV}(R:RelN K Fz ρ σ H C x dx ks ds)(τ:St)(b:Addr):¬ zbh ρ τ b:=λ q119q=>by obtain⟨i,d,h,_⟩:=q119q;exact R.no i d h
theorem RelN.ext {K:Xa}{Fz Fz':FZ}{ρ:PEnv}{σ:St}{H H':Hp}{C x dx:Addr}{ks:List Str}{ds:List PV}(R:RelN K Fz ρ σ H C x dx ks ds)(e:Ext Fz H Fz' H'):RelN K Fz' ρ σ H' C x dx ks ds:=by
 obtain⟨xs,h1,h2,h3⟩:=R.at_;refine⟨R.rel.ext e,R.hz,R.sz,λz=>?_,R.no,xs,e.same _ _ h1,h2,DenL.mono (.of e.same) e.sub _ _ h3⟩;rcases e.new x z with w | w
 ·exact R.nf w
 ·rw[h1]at w;cases w
theorem RelN.fld {K:Xa}{Fz:FZ}{ρ:PEnv}{σ:St}{H:Hp}{C x dx:Addr}{ks:List Str}{ds:List PV}{xs:List V}{f:Str}{d:PV}{v:V}(R:RelN K Fz ρ σ H C x dx ks ds)(h1:H x=some (.ins C dx (ks.zip xs)))(h2:ks.length=xs.length)(h3:DenL K Fz H ds xs)(hf:f∉ks)(hd:Den K Fz H d v) :
  RelN K Fz ρ σ (upd H x (.ins C dx (putF f v (ks.zip xs)))) C x dx (ks++[f]) (ds++[d]):=by
 refine⟨R.rel.other h1 (λz=>z) R.nf (R.nown σ x),R.hz,R.sz,R.nf,R.no,xs++[v],?_,by rw[Xq,Xq,h2];rfl,DenL.rew' h1 (λz=>z) R.nf (DenL.snoc h3 hd)⟩;rw[zaj,zhi h2 hf]
section
variable {K:Xa}{F F':FZ}{H H':Hp}{ρ:PEnv}{σ:St}
theorem Rel.grow (R:Rel K F ρ σ H)(no:∀(i:Nat)(d:PV),ρ[i]?≠some (some (d,true)))(s:Same H H')(sub:∀b,F b->F' b)(al:∀b,F' b->H' b≠none):Rel K F' ρ σ H' where
 al:=al
 len:=R.len
 frz i d e:=by
  obtain⟨v,q1,q2⟩:=R.frz i d e;exact⟨v,q1,Den.mono (.of s) sub _ _ q2⟩
 own i d e:=absurd e (no i d)
 inj i j d e a h:=absurd h (no i d)
theorem zpx {b:Addr}{u o:HO}(h:H b=some u)(r:Rd H b o):u=o\/∃w,u=.frz w o:=by
 rcases r with r | ⟨w,r⟩
 ·rw[h]at r;cases r;exact .inl rfl
 ·rw[h]at r;cases r;exact .inr ⟨w,rfl⟩
variable {x L C dx:Addr}{fs:List (Str×V)}{fv:List V}
end
theorem ziq {f:Str}{v:V}:∀ {ks:List Str}{xs:List V},ks.length=xs.length->f∉ks->((ks++[f]).zip (xs++[v])).lookup f=some v
 | [],[],_,_=>by simp
 | [],_::_,h,_=>nomatch h
 | _::_,[],h,_=>nomatch h
 | k::ks,x::xs,h,n=>by
  rw[YI,YI,Yc,Yl,show(f == k)=false by rw[beq_eq_false_iff_ne];exact λz=>n (z▸Xp ..)];exact ziq (Nat.succ.inj h) λz=>n (Xn _ z)
theorem zmX {n m:Nat}(h:m<n):ixN n (m:Int)=some m:=by
 unfold ixN;rw[if_pos (by lia),if_pos (by lia)];rfl
structure MO (K:Xa)(Fz:FZ)(H:Hp)(C x dx L:Addr)(ks:List Str)(f:Str)(ds:List PV)(hs:List Int):Prop where
 nf:¬ Fz x
 nfL:¬ Fz L
 xL:x≠L
 at_:∃xs,H x=some (.ins C dx ((ks++[f]).zip (xs++[.ref L])))/\ks.length=xs.length/\DenL K Fz H ds xs
 li:H L=some (.lst (hs.map V.int))
structure zdF (x L:Addr)(Fz:FZ)(H:Hp)(Fz':FZ)(H':Hp):Prop where
 old:∀b o,b≠x->b≠L->H b=some o->H' b=some o
 sub:∀b,Fz b->Fz' b
 new:∀b,Fz' b->Fz b\/H b=none
 al:∀b,Fz' b->H' b≠none
theorem zdF.trans {x L:Addr}{F1 F2 F3:FZ}{H1 H2 H3:Hp}(a:zdF x L F1 H1 F2 H2)(b:zdF x L F2 H2 F3 H3)(nx:¬ F3 x)(nL:¬ F3 L):zdF x L F1 H1 F3 H3 where
 old c o h1 h2 e:=b.old c o h1 h2 (a.old c o h1 h2 e)
 sub c h:=b.sub c (a.sub c h)
 new c h:=by
  rcases b.new c h with w | w
  ·exact a.new c w
  ·cases e:H1 c with
   | none=>exact .inr rfl
   | some o=>rw[a.old c o (λz=>nx (z▸h)) (λz=>nL (z▸h)) e]at w;cases w
 al:=b.al
noncomputable abbrev PMz:=List PV->List Int->List PV->(List PV->List Int->Prop)->Prop
noncomputable def zoI (F:PMz):Prop:=∀ds hs as Q Q',(∀a b,Q a b->Q' a b)->F ds hs as Q->F ds hs as Q'
noncomputable def spZ (K:Xa)(C:Addr)(ks:List Str)(f:Str)(F:PMz):Sp:=λvs H Q _=>∃(x dx L:Addr)(ws:List V)(Fz:FZ)(ds:List PV)(hs:List Int)(as:List PV),vs=.ref x::ws/\MO K Fz H C x dx L ks f ds hs/\(∀b,Fz b->H b≠none)/\DenL K Fz H as ws/\
 F ds hs as λds' hs'=>∀Fz' H',zdF x L Fz H Fz' H'->MO K Fz' H' C x dx L ks f ds' hs'->Q .non H'
noncomputable abbrev objOf (C:Addr)(ks:List Str)(f:Str)(ds:List PV)(hs:List Int):PV:=.obj C (ks++[f]) (ds++[.lst (hs.map PV.int)])
structure RelM (K:Xa)(Fz:FZ)(ρ:PEnv)(σ:St)(H:Hp)(C x dx L:Addr)(ks:List Str)(f:Str)(ds:List PV)(hs:List Int):Prop where
 rel:Rel K Fz ρ σ H
 sz:σ[0]? = some (some (.ref x))
 no:∀(i:Nat) (d:PV),ρ[i]?≠some (some (d,true))
 mo:MO K Fz H C x dx L ks f ds hs
section
variable {K:Xa}{Fz F':FZ}{ρ:PEnv}{σ:St}{H H':Hp}{C x dx L:Addr}{ks:List Str}{f:Str}{ds:List PV}{hs:List Int}
theorem zfR:∀(hs:List Int),DenL K Fz H (hs.map PV.int) (hs.map V.int)
 | []=>DenL.nil
 | s::r=>by rw[Xy,Xy];exact DenL.cons (by simp only[Den]) (zfR r)
theorem MO.den (m:MO K Fz H C x dx L ks f ds hs):Den K (λb=>Fz b\/b=x\/b=L) H (objOf C ks f ds hs) (.ref x):=by
 obtain⟨xs,h1,h2,h3⟩:=m.at_;simp only[Den];refine⟨x,dx,xs++[.ref L],rfl,.inr (.inl rfl),h1,by rw[Xq,Xq,h2];rfl,DenL.snoc (DenL.mono (Keep.of (Same.refl _)) (λ_ h=>.inl h) _ _ h3) ?_⟩;simp only[Den];exact⟨L,_,rfl,.inl ⟨.inr (.inr rfl),.inl m.li⟩,zfR hs⟩
theorem MO.alive (m:MO K Fz H C x dx L ks f ds hs)(al:∀b,Fz b->H b≠none):∀b,(Fz b\/b=x\/b=L)->H b≠none:=λb hb=>by
 obtain⟨xs,h1,_⟩:=m.at_;rcases hb with hb | rfl | rfl
 ·exact al b hb
 ·rw[h1];exact λz=>nomatch z
 ·rw[m.li];exact λz=>nomatch z
theorem RelM.view (R:RelM K Fz ρ σ H C x dx L ks f ds hs):Rel K (λb=>Fz b\/b=x\/b=L) (ρ.set 0 (some (objOf C ks f ds hs,false))) σ H:=by
 have g:=(R.rel.grow R.no (Same.refl _) (λb h=>.inl h) (R.mo.alive R.rel.al)).set (i:=0) R.mo.den;have e:σ.set 0 (some (.ref x))=σ:=by
  have hl:=(Xd.mp R.sz).1;have he:=(Xd.mp R.sz).2;rw[<- he];exact List.set_getElem_self hl
 rw[e]at g;exact g
theorem MO.back (m:MO K Fz H C x dx L ks f ds hs)(e:Ext (λb=>Fz b\/b=x\/b=L) H F' H'):MO K (λb=>F' b/\b≠x/\b≠L) H' C x dx L ks f ds hs/\zdF x L Fz H (λb=>F' b/\b≠x/\b≠L) H':=by
 obtain⟨xs,h1,h2,h3⟩:=m.at_;have sub:∀b,Fz b->F' b/\b≠x/\b≠L:=λb hb=>⟨e.sub b (.inl hb),λz=>m.nf (z▸hb),λz=>m.nfL (z▸hb)⟩;refine⟨⟨λz=>z.2.1 rfl,λz=>z.2.2 rfl,m.xL,⟨xs,e.same _ _ h1,h2,DenL.mono (Keep.of e.same) sub _ _ h3⟩,e.same _ _ m.li⟩,λb o _ _ h=>e.same b o h,sub,λb hb=>?_,λb hb=>e.al b hb.1⟩;rcases e.new b hb.1 with (w | w | w) | w
 ·exact .inl w
 ·exact absurd w hb.2.1
 ·exact absurd w hb.2.2
 ·exact .inr w
theorem RelM.back (R:RelM K Fz ρ σ H C x dx L ks f ds hs)(e:Ext (λb=>Fz b\/b=x\/b=L) H F' H'):RelM K (λb=>F' b/\b≠x/\b≠L) ρ σ H' C x dx L ks f ds hs/\zdF x L Fz H (λb=>F' b/\b≠x/\b≠L) H':=by
 obtain⟨m,s⟩:=R.mo.back e;exact⟨⟨R.rel.grow R.no e.same s.sub s.al,R.sz,R.no,m⟩,s⟩
noncomputable def zgB:PV->Prop
 | .non=>True
 | .int _=>True
 | .bl _=>True
 | .str _=>True
 | _=>False
theorem zfS {d:PV}{v:V}(p:zgB d)(h:Den K Fz H d v){F2:FZ}{H2:Hp}:Den K F2 H2 d v:=by
 cases d<;>first | (simp only[Den]at h ⊢;exact h) | exact p.elim
theorem zeW {d:PV}{v:V}(p:zgB d)(h:Root K Fz H d v):Den K Fz H d v:=by
 cases d<;>first | exact h | exact p.elim
end
noncomputable abbrev TPZ:=PEnv->List PV->List Int->(PEnv->List PV->List Int->Prop)->Prop
noncomputable def outZ (K:Xa)(C x dx L:Addr)(ks:List Str)(f:Str)(D:Ends)(Fz:FZ)(H:Hp)(ρ':PEnv)(ds':List PV)(hs':List Int):Prop:=∀σ' Fz' H',zdF x L Fz H Fz' H'->RelM K Fz' ρ' σ' H' C x dx L ks f ds' hs'->D.nx σ' H'
noncomputable def zsU (K:Xa)(C:Addr)(ks:List Str)(f:Str)(t:TPZ):TS:=λD σ H=>∃ρ Fz x dx L ds hs,RelM K Fz ρ σ H C x dx L ks f ds hs/\t ρ ds hs (outZ K C x dx L ks f D Fz H)
structure PuZ (X:Cx)(C:Addr)(ks:List Str)(f:Str)(st:Stmt)(t:TPZ):Prop where
 mono:∀ρ ds hs Q Q',(∀a b c,Q a b c->Q' a b c)->t ρ ds hs Q->t ρ ds hs Q'
 run:PS X st (zsU X.K C ks f t)
structure PuZs (X:Cx)(C:Addr)(ks:List Str)(f:Str)(st:List Stmt)(t:TPZ):Prop where
 mono:∀ρ ds hs Q Q',(∀a b c,Q a b c->Q' a b c)->t ρ ds hs Q->t ρ ds hs Q'
 run:PSs X st (zsU X.K C ks f t)
noncomputable def zSeq (t u:TPZ):TPZ:=λρ ds hs Q=>t ρ ds hs λρ' ds' hs'=>u ρ' ds' hs' Q
section
variable {X:Cx}{C:Addr}{ks:List Str}{f:Str}{st:Stmt}{rest:List Stmt}{t u:TPZ}{e:Expr}{te:TPE}{pos:Pos}
theorem zhj (h:PuZ X C ks f st t):PuZs X C ks f [st] t:=⟨h.mono,ziU h.run⟩
theorem zeB (h1:PuZ X C ks f st t)(h2:PuZs X C ks f rest u):PuZs X C ks f (st::rest) (zSeq t u) where
 mono ρ ds hs Q Q' m h:=h1.mono _ _ _ _ _ (λa b c q=>h2.mono _ _ _ _ _ m q) h
 run:=PSs.weak (zbZ h1.run h2.run) λD σ H h=>by
  obtain⟨ρ,Fz,x,dx,L,ds,hs,R,h⟩:=h;refine⟨ρ,Fz,x,dx,L,ds,hs,R,h1.mono _ _ _ _ _ (λρ' ds' hs' q σ' Fz' H' s R'=>?_) h⟩;exact⟨ρ',Fz',x,dx,L,ds',hs',R',h2.mono _ _ _ _ _ (λa b c q σ2 F2 H2 s2 R2=>q σ2 F2 H2 (s.trans s2 R2.mo.nf R2.mo.nfL) R2) q⟩
theorem RelM.set {K:Xa}{Fz:FZ}{ρ:PEnv}{σ:St}{H:Hp}{x dx L:Addr}{ds:List PV}{hs:List Int}{i:Nat}{d:PV}{v:V}(R:RelM K Fz ρ σ H C x dx L ks f ds hs)(hi:i≠0)(h:Den K Fz H d v):RelM K Fz (ρ.set i (some (d,false))) (σ.set i (some v)) H C x dx L ks f ds hs:=by
 refine⟨R.rel.set h,by rw[Xh hi];exact R.sz,λj d' z=>?_,R.mo⟩;by_cases hj:i=j
 ·subst hj;by_cases hb:i<ρ.length
  ·rw[Xl hb]at z;cases z
  ·rw[XF (by lia),XC (by lia)]at z;cases z
 ·rw[Xh hj]at z;exact R.no j d' z
noncomputable def zSet (C:Addr)(ks:List Str)(f:Str)(i:Nat)(te:TPE):TPZ:=λρ ds hs Q=>i≠0/\te (ρ.set 0 (some (objOf C ks f ds hs,false))) λd _=>zgB d/\Q (ρ.set i (some (d,false))) ds hs
theorem zmY {i:Nat}{y:Str}{pos':Pos}(hN:X.N.Nodup)(hi:X.N[i]? = some y)(hx:Loc X.env.scope y)(he:PuE X e te)(hs:autoParam (swapsWith e (some (.Name y pos')) pos.line X.env=pure false) aU0)(hf:autoParam (X.fn y=true\/X.env.scope.names.lookup y=some .local) aU5) :
  PuZ X C ks f (.Assign [.Name y pos'] e pos) (zSet C ks f i te) where
 mono ρ ds hs Q Q' m h:=⟨h.1,he.mono _ _ _ (λd k q=>⟨q.1,m _ _ _ q.2⟩) h.2⟩
 run:=PS.weak (zhE hN hi hx he.run hs hf) λD σ H h=>by
  obtain⟨ρ,Fz,x,dx,L,ds,hs,R,i0,h⟩:=h;refine⟨_,_,R.view,he.mono _ _ _ (λd k q v F1 H1 p1=>?_) h⟩;obtain⟨pd,q⟩:=q;obtain⟨R2,s2⟩:=R.back p1.ext;exact q _ _ H1 s2 (R2.set i0 (zfS pd (zeW pd (p1.root R.view))))
noncomputable def zck (C:Addr)(ks:List Str)(f:Str)(tc:TPT)(tb:TPZ):TPZ:=λρ ds hs Q=>∃Iv:Nat->PEnv->List PV->List Int->Prop,(∃m,Iv m ρ ds hs)/\∀m ρ' ds' hs',Iv m ρ' ds' hs'->tc (ρ'.set 0 (some (objOf C ks f ds' hs',false))) λb=>if b=true then tb ρ' ds' hs' λρ2 ds2 hs2=>∃m',m'<m/\Iv m' ρ2 ds2 hs2 else Q ρ' ds' hs'
theorem zmZ {c:Expr}{tc:TPT}{body:List Stmt}{tb:TPZ}(hp:PassesOwn (model X.prog X.w) X.A X.env X.xe)(hc:PuT X c tc)(hb:PuZs X C ks f body tb):PuZ X C ks f (.While c body [] pos) (zck C ks f tc tb) where
 mono ρ ds hs Q Q' m h:=by
  obtain⟨Iv,h0,h⟩:=h;refine⟨Iv,h0,λn ρ' ds' hs' hI=>hc.mono _ _ _ (λb q=>?_) (h n ρ' ds' hs' hI)⟩;cases b with
  | true=>exact q
  | false=>exact m _ _ _ q
 run:=PS.weak (zjy hp hc.run hb.run) λD σ H h=>by
  obtain⟨ρ,Fz,x,dx,L,ds,hs,R,Iv,⟨m0,h0⟩,h⟩:=h;refine⟨λm σ' H'=>∃ρ' F' ds' hs',RelM X.K F' ρ' σ' H' C x dx L ks f ds' hs'/\Iv m ρ' ds' hs'/\zdF x L Fz H F' H',⟨m0,ρ,Fz,ds,hs,R,h0,λb o _ _ e=>e,λ_ h=>h,λ_ h=>.inl h,R.rel.al⟩,?_⟩;rintro m σ' H' ⟨ρ',F',ds',hs',R',hI,s'⟩;refine⟨_,_,R'.view,hc.mono _ _ _ (λb q F2 H2 x2=>?_) (h m ρ' ds' hs' hI)⟩;obtain⟨R2,s2⟩:=R'.back x2;have s3:=s'.trans s2 R2.mo.nf R2.mo.nfL;cases b with
  | true=>
   rw[if_pos rfl]at q ⊢;refine⟨λσ3 H3=>∃m',m'<m/\∃ρ3 F3 ds3 hs3,RelM X.K F3 ρ3 σ3 H3 C x dx L ks f ds3 hs3/\Iv m' ρ3 ds3 hs3/\zdF x L Fz H F3 H3,λσ3 H3 hN=>hN,ρ',_,x,dx,L,ds',hs',R2,hb.mono _ _ _ _ _ (λρ3 ds3 hs3 q σ3 F3 H3 s4 R3=>?_) q⟩;obtain⟨m',hm,hI'⟩:=q;exact⟨m',hm,ρ3,F3,ds3,hs3,R3,hI',s3.trans s4 R3.mo.nf R3.mo.nfL⟩
  | false=>
   rw[if_neg Xo]at q ⊢;exact q σ' _ H2 s3 R2
end
section
variable {K:Xa}{Fz F':FZ}{ρ:PEnv}{σ:St}{H H':Hp}{C x dx L:Addr}{ks:List Str}{f:Str}{ds ds':List PV}{hs hs':List Int}
theorem MO.keep (m:MO K Fz H C x dx L ks f ds hs)(s:zdF x L Fz H F' H'):Keep Fz H H':=.mk' λb o e w=>by
 obtain⟨xs,h1,_⟩:=m.at_;refine s.old b o (λz=>?_) (λz=>?_) e
 ·subst z;rcases w with w | w
  ·exact m.nf w
  ·rw[h1]at e;cases e;exact w
 ·subst z;rcases w with w | w
  ·exact m.nfL w
  ·rw[m.li]at e;cases e;exact w
theorem RelM.step (R:RelM K Fz ρ σ H C x dx L ks f ds hs)(s:zdF x L Fz H F' H')(m:MO K F' H' C x dx L ks f ds' hs'):RelM K F' ρ σ H' C x dx L ks f ds' hs' where
 rel:={
  al:=s.al
  len:=R.rel.len
  frz:=λi d e=>by
   obtain⟨v,q1,q2⟩:=R.rel.frz i d e;exact⟨v,q1,Den.mono (R.mo.keep s) s.sub _ _ q2⟩
  own:=λi d e=>absurd e (R.no i d)
  inj:=λi j d e a h=>absurd h (R.no i d) }
 sz:=R.sz
 no:=R.no
 mo:=m
theorem zgC {F2:FZ}{H2:Hp}:∀ {as:List PV}{vs:List V},(∀d∈as,zgB d)->zla K Fz H as vs->DenL K F2 H2 as vs
 | _,_,_,.nil=>DenL.nil
 | _,_,p,.cons h t=>DenL.cons (zfS (p _ Xp) (zeW (p _ Xp) h)) (zgC (λd hd=>p d (Xn _ hd)) t)
end
noncomputable def zeC (C:Addr)(ks:List Str)(f m:Str)(F:PMz)(ta:TPA):TPZ:=λρ ds hs Q=>m∉ks++[f]/\ta (ρ.set 0 (some (objOf C ks f ds hs,false))) λops=>(∀d∈ops.map (·.1),zgB d)/\F ds hs (ops.map (·.1)) λds' hs'=>Q ρ ds' hs'
section
variable {X:Cx}{C fa:Addr}{ks:List Str}{f m x:Str}{e:Expr}{es:List Expr}{ta:TPA}{F:PMz}{k:Nat}{fd:FuncData}{ps:List Str}{pl:Sem Bool}{p1 apos cpos pos:Pos}
theorem zoJ (c:Cls X.K C)(hm:Meth X.K C m fa)(G:FnOk X.prog X.w X.K X.mg X.base CX0 k fa fd ps (spZ X.K C ks f F))(mf:zoI F)(hr:Room k X.A)(hb:Binds X.K fd ps [])(ha:PuA X (e::es) ta)
  (hx:autoParam (X.N[0]? = some x) aU0) (hv:autoParam (Vis X.env.scope x) aU2) (hd:autoParam ((x == ("__debug__" : Str))=false) aU1) (hcd:autoParam ((x == ("__classdict__" : Str))=false) aU1)
  (hst:autoParam (starEach (e::es) X.env=(false,eval e X.env)::starEach es X.env) aU0) (hpl:autoParam ((backTo cpos (starEach es X.env)).any (·.1)=false) aU0)
  (ht:autoParam (eval (.Call (.Attribute (.Name x p1) m apos) (e::es) [] cpos) X.env=(do
   let ov <- eval (.Name x p1) X.env
   standAt apos.atName
   let (f,first) <- holding [ov] (getMethod ov m pl)
   callWith cpos f first (backTo cpos (starEach (e::es) X.env)) (backToKw cpos (keywordEach [] X.env)))) aU0)
  (hs:autoParam (swapsWith (.Call (.Attribute (.Name x p1) m apos) (e::es) [] cpos) none pos.line X.env=pure false) aU0) :
  PuZ X C ks f (.Expr (.Call (.Attribute (.Name x p1) m apos) (e::es) [] cpos) pos) (zeC C ks f m F ta) where
 mono ρ ds hs Q Q' mm h:=⟨h.1,ha.mono _ _ _ (λops q=>⟨q.1,mf _ _ _ _ _ (λa b q=>mm _ _ _ q) q.2⟩) h.2⟩
 run:=PS.weak (ziV (zlM (pl:=pl) (zco hx hv hd hcd) c hm G hr hb .nil zkN ha.run hst hpl ht) hs) λD σ H h=>by
  obtain⟨ρ,Fz,x,dx,L,ds,hs,R,hmk,h⟩:=h;obtain⟨xs,q1,q2,q3⟩:=R.mo.at_;refine⟨_,R.sz,x,dx,_,rfl,q1,zdq (α:=V) (β:=V) hmk,_,_,R.view,ha.mono _ _ _ (λops h vs F1 H1 x1 o=>?_) h⟩;obtain⟨pd,hF⟩:=h;obtain⟨R2,s2⟩:=R.back x1;show spZ X.K C ks f F (.ref x::(vs++[])) H1 _ E0;rw[List.append_nil];refine⟨x,dx,L,vs,_,ds,hs,ops.map (·.1),rfl,R2.mo,R2.rel.al,zgC pd (o.root R.view x1),mf _ _ _ _ _ (λds' hs' q F3 H3 s3 m3=>?_) hF⟩;exact q σ F3 H3 (s2.trans s3 m3.nf m3.nfL) (R2.step s3 m3)
end
section
variable {P:Program}{w:World}{K:Xa}{mg:Str->Option Value}{base:Heap}
theorem fn_Z {x qual:Str}{st:Stmt}{f0 C:Addr}{fd:FuncData}{N ps ks:List Str}{f:Str}{k:Nat}{F:PMz}(Fn:Fun K x qual st f0 fd)(S:zap N ps (zac st))(len:∀ds hs as Q,F ds hs as Q->as.length+1=ps.length)
  (hbody:∀(cdv:Value) (A:Around) (outer:List Env) (s:Shared) (H:Hp) (E:XK),Room k (A.deeper (envOfC qual (zac st) s.heap.objs.size f0 cdv))->
   ∃t,PuZs (cxOf CX0 P w K mg base N qual (zac st) f0 cdv A outer s H E).nox C ks f (zal st) t/\∀ds hs as Q,F ds hs as Q->t ((zaT N (.non::as)).set 0 none) ds hs λ_ ds' hs'=>Q ds' hs'):FnOk P w K mg base CX0 (k+1) f0 fd ps (spZ K C ks f F):=by
 refine Fn.ok S (λvs H Q E h=>?_) (λcdv A outer s H vs Q E hr h=>?_)
 ·obtain⟨x,dx,L,ws,Fz,ds,hs,as,rfl,_,_,hd,q⟩:=h;rw[XG,<- hd.length];exact len _ _ _ _ q
 obtain⟨t,ht,hq⟩:=hbody cdv A outer s H E hr;obtain⟨x,dx,L,ws,Fz,ds,hs,as,rfl,m,al,hd,h⟩:=h;have hd':DenL K Fz H (.non::as) (.non::ws):=DenL.cons (by simp only[Den]) hd;obtain⟨R,no⟩:=zfK (N:=N) al hd';have es:start N (.ref x::ws)=(start N (.non::ws)).set 0 (some (.ref x)):=rfl;refine⟨_,ht.run,?_⟩;rw[es];refine⟨(zaT N (.non::as)).set 0 none,Fz,x,dx,L,ds,hs,⟨R.unset,rfl,λi d z=>?_,m⟩,ht.mono _ _ _ _ _ (λρ' ds' hs' q σ' Fz' H' s' R'=>q Fz' H' s' R'.mo) (hq ds hs as _ h)⟩;by_cases hi:i=0
 ·subst hi;cases z
 ·rw[Xh (λy=>hi y.symm)]at z;have hlen:i<(zaT N (.non::as)).length:=(Xd.mp z).1;rw[R.len]at hlen;obtain⟨a,q1,_⟩:=R.own i d z;exact no _ a ⟨i,d,z,q1⟩
end
theorem zkg {g f:Str}{v:V}{L:Addr}:∀ {ks:List Str}{xs:List V}{i:Nat},ks.length=xs.length->ks.Nodup->ks[i]? = some g->putF g v ((ks++[f]).zip (xs++[.ref L]))=(ks++[f]).zip (xs.set i v++[.ref L])
 | [],_,i,_,_,h=>by simp at h
 | _::_,[],_,h,_,_=>nomatch h
 | k::ks,x::xs,0,h,n,e=>by
  have e:k=g:=by simpa using e
  subst e;show(if k=k then _ else _)=_
  rw[if_pos rfl];rfl
 | k::ks,x::xs,i+1,h,n,e=>by
  have e:ks[i]? = some g:=by simpa using e
  have hk:¬ k=g:=λz=>(XT.mp n).1 (z▸Xr e);rw[YI,YI,Yc];show(if k=g then _ else _)=_
  rw[if_neg hk,zkg (Nat.succ.inj h) (XT.mp n).2 e];rfl
section
variable {K:Xa}{Fz:FZ}{ρ:PEnv}{σ:St}{H:Hp}{C x dx L:Addr}{ks:List Str}{f g:Str}{ds:List PV}{hs:List Int}{gi:Nat}
theorem RelM.fld (R:RelM K Fz ρ σ H C x dx L ks f ds hs){xs:List V}{d:PV}{v:V}(h1:H x=some (.ins C dx ((ks++[f]).zip (xs++[.ref L]))))(h2:ks.length=xs.length)(h3:DenL K Fz H ds xs)(nd:ks.Nodup)(hg:ks[gi]? = some g)(hd:Den K Fz H d v) :
  RelM K Fz ρ σ (upd H x (.ins C dx (putF g v ((ks++[f]).zip (xs++[.ref L]))))) C x dx L ks f (ds.set gi d) hs/\zdF x L Fz H Fz (upd H x (.ins C dx (putF g v ((ks++[f]).zip (xs++[.ref L]))))):=by
 have nown:¬ zbh ρ σ x:=(λ q120q=>by obtain⟨i,d,h,_⟩:=q120q;exact R.no i d h);refine⟨⟨R.rel.other h1 (λz=>z) R.mo.nf nown,R.sz,R.no,R.mo.nf,R.mo.nfL,R.mo.xL,⟨xs.set gi v,by rw[zaj,zkg h2 nd hg],by rw[Ya];exact h2,DenL.rew' h1 (λz=>z) R.mo.nf (DenL.set gi h3 hd)⟩,by rw[zah R.mo.xL.symm];exact R.mo.li⟩,λb o n _ e=>by rw[zah n];exact e,λ_ h=>h,λ_ h=>.inl h,λb hb=>?_⟩;by_cases n:b=x
 ·exact absurd (n▸hb) R.mo.nf
 ·rw[zah n];exact R.rel.al b hb
theorem RelM.put (R:RelM K Fz ρ σ H C x dx L ks f ds hs)(n:Nat)(c:Int):RelM K Fz ρ σ (upd H L (.lst ((hs.map V.int).set n (.int c)))) C x dx L ks f ds (hs.set n c)/\zdF x L Fz H Fz (upd H L (.lst ((hs.map V.int).set n (.int c)))):=by
 have nown:¬ zbh ρ σ L:=(λ q121q=>by obtain⟨i,d,h,_⟩:=q121q;exact R.no i d h);obtain⟨xs,h1,h2,h3⟩:=R.mo.at_;refine⟨⟨R.rel.other R.mo.li (λz=>z) R.mo.nfL nown,R.sz,R.no,R.mo.nf,R.mo.nfL,R.mo.xL,⟨xs,by rw[zah R.mo.xL];exact h1,h2,DenL.rew' R.mo.li (λz=>z) R.mo.nfL h3⟩,by rw[zaj,List.map_set]⟩,λb o _ m e=>by rw[zah m];exact e,λ_ h=>h,λ_ h=>.inl h,λb hb=>?_⟩;by_cases m:b=L
 ·exact absurd (m▸hb) R.mo.nfL
 ·rw[zah m];exact R.rel.al b hb
end
noncomputable def zFld (C:Addr)(ks:List Str)(f g:Str)(gi:Nat)(te:TPE):TPZ:=λρ ds hs Q=>ks.Nodup/\ks[gi]? = some g/\ks.length<900/\te (ρ.set 0 (some (objOf C ks f ds hs,false))) λd _=>zgB d/\Q ρ (ds.set gi d) hs
noncomputable def zPut (C:Addr)(ks:List Str)(f:Str)(ti te:TPE):TPZ:=λρ ds hs Q=>f∉ks/\te (ρ.set 0 (some (objOf C ks f ds hs,false))) λd _=>∃c,d=.int c/\ti (ρ.set 0 (some (objOf C ks f ds hs,false))) λe _=>∃n:Nat,e=.int n/\n<hs.length/\Q ρ ds (hs.set n c)
section
variable {X:Cx}{C:Addr}{ks:List Str}{f g x:Str}{e ei:Expr}{te ti:TPE}{gi:Nat}{p p4 p5 p7 pos pos':Pos}
theorem zrg (c:Cls X.K C)(n:zbX X.K C g)(he:PuE X e te)(hN:autoParam (X.N[0]? = some x) aU0)(hv:autoParam (Vis X.env.scope x) aU2)(hd:autoParam ((x == ("__debug__" : Str))=false) aU1) (hcd:autoParam ((x == ("__classdict__" : Str))=false) aU1)
  (hs:autoParam (swapsWith e (some (.Attribute (.Name x p) g pos')) pos.line X.env=pure false) aU0):PuZ X C ks f (.Assign [.Attribute (.Name x p) g pos'] e pos) (zFld C ks f g gi te) where
 mono ρ ds hs Q Q' m h:=⟨h.1,h.2.1,h.2.2.1,he.mono _ _ _ (λd k q=>⟨q.1,m _ _ _ q.2⟩) h.2.2.2⟩
 run:=PS.weak (zjz (zco hN hv hd hcd) he.run hs) λD σ H h=>by
  obtain⟨ρ,Fz,x,dx,L,ds,hs,R,nd,hg,hl,h⟩:=h;refine⟨_,_,R.view,he.mono _ _ _ (λd k q v F1 H1 p1=>?_) h⟩;obtain⟨pd,q⟩:=q;obtain⟨R2,s2⟩:=R.back p1.ext;obtain⟨xs,h1,h2,h3⟩:=R2.mo.at_;obtain⟨R3,s3⟩:=R2.fld h1 h2 h3 nd hg (zfS pd (zeW pd (p1.root R.view)));exact⟨_,R2.sz,x,C,dx,_,rfl,h1,c,n,by rw[YD,Xq,Xq];simp only[YF];lia,q σ _ _ (s2.trans s3 R3.mo.nf R3.mo.nfL) R3⟩
theorem zrh (c:Cls X.K C)(n:zbX X.K C f)(hi:PuE X ei ti)(he:PuE X e te)(hN:autoParam (X.N[0]? = some x) aU0)(hv:autoParam (Vis X.env.scope x) aU2)(hd:autoParam ((x == ("__debug__" : Str))=false) aU1) (hcd:autoParam ((x == ("__classdict__" : Str))=false) aU1)
  (hbf:autoParam (attributeBase (.Name x p4) f X.env (eval (.Name x p4) X.env)=eval (.Name x p4) X.env) aU0)
  (hw1:autoParam (swapsWithSole [.Subscript (.Attribute (.Name x p4) f p5) ei p7] e pos.line X.env=pure false) aU0) (hw2:autoParam (swappedStores [.Subscript (.Attribute (.Name x p4) f p5) ei p7] e X.env=pure none) aU0)
  (h1:autoParam ((assignEach [.Subscript (.Attribute (.Name x p4) f p5) ei p7] X.env).map (·.2)=[assign (.Subscript (.Attribute (.Name x p4) f p5) ei p7) X.env]) aU0)
  (hasg:autoParam (∀v,assign (.Subscript (.Attribute (.Name x p4) f p5) ei p7) X.env v=(do
   let ov <- holding [v] (eval (.Attribute (.Name x p4) f p5) X.env);let iv <- holding [v,ov] (eval ei X.env)
   standAt p7
   holding [v,ov,iv] (setItem ov iv v)
   release [v,ov,iv] [])) aU3):PuZ X C ks f (.Assign [.Subscript (.Attribute (.Name x p4) f p5) ei p7] e pos) (zPut C ks f ti te) where
 mono ρ ds hs Q Q' m h:=⟨h.1,he.mono _ _ _ (λd k q122q=>by obtain⟨c,e1,q⟩:=q122q;exact⟨c,e1,hi.mono _ _ _ (λd k q123q=>by obtain⟨n,e2,e3,q⟩:=q123q;exact⟨n,e2,e3,m _ _ _ q⟩) q⟩) h.2⟩
 run:=PS.weak (zlE he.run (zpk (zpn (zco hN hv hd hcd) hbf) hi.run set_list hasg) hw1 hw2 h1) λD σ H h=>by
  obtain⟨ρ,Fz,x,dx,L,ds,hs,R,hfk,h⟩:=h;refine⟨_,_,R.view,he.mono _ _ _ (λd k q v F1 H1 p1=>?_) h⟩;obtain⟨cc,rfl,q⟩:=q;have ev:=zay (p1.root R.view);obtain⟨R2,s2⟩:=R.back p1.ext;obtain⟨xs,a1,a2,a3⟩:=R2.mo.at_;refine⟨_,R2.sz,x,C,dx,_,.ref L,rfl,a1,c,n,ziq a2 hfk,_,_,R2.view,hi.mono _ _ _ (λd k q v2 F2 H2 p2=>?_) q⟩;obtain⟨nn,rfl,hn,q⟩:=q;have ev2:=zay (p2.root R2.view);obtain⟨R3,s3⟩:=R2.back p2.ext;obtain⟨R4,s4⟩:=R3.put nn cc;refine⟨L,_,nn,nn,rfl,ev2,R3.mo.li,by rw[Xb];exact zmX hn,?_⟩;rw[ev];exact q σ _ _ ((s2.trans s3 R3.mo.nf R3.mo.nfL).trans s4 R4.mo.nf R4.mo.nfL) R4
end
noncomputable def zeX (hs:List Int)(d:PV):Prop:=∃is:List Int,d=.lst (is.map PV.int)/\is.length≠hs.length
section
variable {K:Xa}{Fz F':FZ}{ρ:PEnv}{σ:St}{H H':Hp}{C x dx L:Addr}{ks:List Str}{f:Str}{ds:List PV}{hs:List Int}
theorem zcI:∀ {is:List Int}{xs:List V},DenL K Fz H (is.map PV.int) xs->xs=is.map V.int
 | [],xs,h=>by rw[List.map_nil]at h;simp only[DenL]at h;exact h
 | s::r,xs,h=>by
  rw[Xy]at h;simp only[DenL]at h;obtain⟨v,t,z,h1,h2⟩:=h;simp only[Den]at h1;subst z h1;rw[Xy,zcI h2]
theorem MO.drop (m:MO K Fz H C x dx L ks f ds hs){d:PV}{v:V}(r:zeX hs d)(h:Den K F' H d v):Den K (λb=>F' b/\b≠x/\b≠L) H d v:=by
 obtain⟨is,rfl,hl⟩:=r;obtain⟨ys,h1,_⟩:=m.at_;simp only[Den]at h ⊢;obtain⟨a,xs,rfl,h2,h3⟩:=h;have e:=zcI h3;subst e;refine⟨a,_,rfl,?_,zfR is⟩;rcases h2 with ⟨f1,f2⟩ | h2
 ·refine .inl ⟨⟨f1,λz=>?_,λz=>?_⟩,f2⟩
  ·subst z;rcases zpx h1 f2 with w | ⟨_,w⟩<;>cases w
  ·subst z;rcases zpx m.li f2 with w | ⟨_,w⟩
   ·injection w with w;have:=congrArg List.length w;rw[Xb,Xb]at this;exact hl this.symm
   ·cases w
 ·exact .inr h2
theorem MO.zsV (m:MO K Fz H C x dx L ks f ds hs):∀ {rows:List PV}{xs:List V},(∀r∈rows,zeX hs r)->DenL K F' H rows xs->DenL K (λb=>F' b/\b≠x/\b≠L) H rows xs
 | [],xs,_,h=>by simpa only[DenL]using h
 | d::rows,xs,g,h=>by
  simp only[DenL]at h;obtain⟨v,r,rfl,h1,h2⟩:=h;exact DenL.cons (m.drop (g d Xp) h1) (MO.zsV m (λr hr=>g r (Xn _ hr)) h2)
end
noncomputable def zeD (C:Addr)(ks:List Str)(f:Str)(i:Nat)(te:TPE):TPZ:=λρ ds hs Q=>i≠0/\te (ρ.set 0 (some (objOf C ks f ds hs,false))) λd k=>k=.frz/\zeX hs d/\Q (ρ.set i (some (d,false))) ds hs
section
variable {X:Cx}{C:Addr}{ks:List Str}{f:Str}{e:Expr}{te:TPE}{pos:Pos}
theorem zoK {i:Nat}{y:Str}{pos':Pos}(hN:X.N.Nodup)(hi:X.N[i]? = some y)(hx:Loc X.env.scope y)(he:PuE X e te)(hs:autoParam (swapsWith e (some (.Name y pos')) pos.line X.env=pure false) aU0)(hf:autoParam (X.fn y=true\/X.env.scope.names.lookup y=some .local) aU5) :
  PuZ X C ks f (.Assign [.Name y pos'] e pos) (zeD C ks f i te) where
 mono ρ ds hs Q Q' m h:=⟨h.1,he.mono _ _ _ (λd k q=>⟨q.1,q.2.1,m _ _ _ q.2.2⟩) h.2⟩
 run:=PS.weak (zhE hN hi hx he.run hs hf) λD σ H h=>by
  obtain⟨ρ,Fz,x,dx,L,ds,hs,R,i0,h⟩:=h;refine⟨_,_,R.view,he.mono _ _ _ (λd k q v F1 H1 p1=>?_) h⟩;obtain⟨rfl,pd,q⟩:=q;obtain⟨R2,s2⟩:=R.back p1.ext;exact q _ _ H1 s2 (R2.set i0 (R2.mo.drop pd p1.opd))
end
section
variable {K:Xa}{Fz:FZ}{ρ:PEnv}{σ:St}{H:Hp}{C x dx L a:Addr}{ks:List Str}{f:Str}{ds:List PV}{hs:List Int}{o u:HO}
theorem RelM.other (R:RelM K Fz ρ σ H C x dx L ks f ds hs)(h:H a=some u)(hi:¬ Imm u)(nf:¬ Fz a)(nx:a≠x)(nL:a≠L):RelM K Fz ρ σ (upd H a o) C x dx L ks f ds hs:=by
 obtain⟨xs,h1,h2,h3⟩:=R.mo.at_;exact⟨R.rel.other h hi nf (λ q124q=>by obtain⟨i,d,z,_⟩:=q124q;exact R.no i d z),R.sz,R.no,R.mo.nf,R.mo.nfL,R.mo.xL,⟨xs,by rw[zah nx.symm];exact h1,h2,DenL.rew' h hi nf h3⟩,by rw[zah nL.symm];exact R.mo.li⟩
theorem RelM.freeze (R:RelM K Fz ρ σ H C x dx L ks f ds hs)(h:H a≠none)(nx:a≠x)(nL:a≠L):RelM K (λb=>Fz b\/b=a) ρ σ H C x dx L ks f ds hs:=by
 obtain⟨xs,h1,h2,h3⟩:=R.mo.at_;have al:∀b,(Fz b\/b=a)->H b≠none:=λb hb=>by
  rcases hb with hb | rfl
  ·exact R.rel.al b hb
  ·exact h
 refine⟨R.rel.grow R.no (Same.refl _) (λ_ h=>.inl h) al,R.sz,R.no,λz=>?_,λz=>?_,R.mo.xL,⟨xs,h1,h2,DenL.mono (Keep.of (Same.refl _)) (λ_ h=>.inl h) _ _ h3⟩,R.mo.li⟩
 ·exact z.elim R.mo.nf λz=>nx z.symm
 ·exact z.elim R.mo.nfL λz=>nL z.symm
end
noncomputable def zcs (C:Addr)(ks:List Str)(f g:Str)(gi iy:Nat)(te t3 ti:TPE)(u:TPZ):TPZ:=λρ ds hs Q=>iy≠0/\iy<ρ.length/\ks.Nodup/\ks[gi]? = some g/\ks.length<900/\te (ρ.set 0 (some (objOf C ks f ds hs,false))) λd k=>k=.new/\∃rows,d=.lst rows/\(∀r∈rows,zeX hs r)/\
 t3 ((ρ.set iy none).set 0 (some (objOf C ks f ds hs,false))) λd3 k3=>k3=.frz/\zeX hs d3/\ti ((ρ.set iy none).set 0 (some (objOf C ks f ds hs,false))) λe _=>∃n:Nat,e=.int n/\n<rows.length/\u (ρ.set iy none) (ds.set gi (.lst (rows.set n d3))) hs Q
structure zsW (X:Cx)(st:Stmt)(i:Nat)(te:TPE):Prop where
 mono:∀ρ Q Q',(∀d k,Q d k->Q' d k)->te ρ Q->te ρ Q'
 run:PS X st (tAsg (lift X.K te) (zlD i))
theorem zoL {X:Cx}{N:List Str}{k:Nat}{js:List Nat}{sc:Scope}{tg iter elt:Expr}{ifs:List Expr}{ti:TPI}{g:TPG}{tt:TPT}{te:TPE}{i:Nat}{x:Str}{pos pos' pos2:Pos}(hc:X.calm=true)(S:zcK X N k js sc)(nd:js.Nodup)(hloc:LocG k g)(hi:PuI X tg iter ti)(B:PBlk X N sc tg ifs elt g tt te)(hN:X.N.Nodup)(hx:X.N[i]? = some x)(hk:X.env.scope.names.lookup x=some .local)
  (hsw:autoParam (swapsWith (.ListComp elt [⟨tg,iter,ifs,0⟩] sc pos) (some (.Name x pos')) pos2.line X.env=pure true) aU0) (hs:autoParam (∀x,foldedSetIterable iter X.env x=pure x) aU3) :
  zsW X (.Assign [.Name x pos'] (.ListComp elt [⟨tg,iter,ifs,0⟩] sc pos) pos2) i (zcP k js ti g tt te):=
 ⟨zif hi B,PS.weak (zmc hc S hi.run B.blk hN hx hk hsw hs) λD σ H h=>zfJ nd hloc hi B h⟩
section
variable {X:Cx}{C:Addr}{ks:List Str}{f g x y:Str}{e ei e3:Expr}{te ti t3:TPE}{gi iy:Nat}{u:TPZ}{rest:List Stmt}{p p4 p5 p6 p7 p8 pos pos' pos2 pos3:Pos}
theorem zna (c:Cls X.K C)(n:zbX X.K C g)(he:zsW X (.Assign [.Name y p4] e pos) iy te)(h3:PuE X e3 t3)(hi:PuE X ei ti)(hr:PuZs X C ks f rest u)(hyi:X.N[iy]? = some y)
  (hx:autoParam (X.N[0]? = some x) aU0) (hv:autoParam (Vis X.env.scope x) aU2) (hd:autoParam ((x == ("__debug__" : Str))=false) aU1) (hcd:autoParam ((x == ("__classdict__" : Str))=false) aU1)
  (hvy:autoParam (Vis X.env.scope y) aU2) (hdy:autoParam ((y == ("__debug__" : Str))=false) aU1) (hcy:autoParam ((y == ("__classdict__" : Str))=false) aU1)
  (hw1:autoParam (swapsWithSole [.Subscript (.Name y p5) ei p7] e3 pos2.line X.env=pure false) aU0) (hw2:autoParam (swappedStores [.Subscript (.Name y p5) ei p7] e3 X.env=pure none) aU0)
  (h1:autoParam ((assignEach [.Subscript (.Name y p5) ei p7] X.env).map (·.2)=[assign (.Subscript (.Name y p5) ei p7) X.env]) aU0)
  (hasg:autoParam (∀v,assign (.Subscript (.Name y p5) ei p7) X.env v=(do
   let ov <- holding [v] (eval (.Name y p5) X.env);let iv <- holding [v,ov] (eval ei X.env)
   standAt p7
   holding [v,ov,iv] (setItem ov iv v)
   release [v,ov,iv] [])) aU3)
  (hs4:autoParam (swapsWith (.Name y p8) (some (.Attribute (.Name x p) g pos')) pos3.line X.env=pure false) aU0) :
  PuZs X C ks f (.Assign [.Name y p4] e pos::.Assign [.Subscript (.Name y p5) ei p7] e3 pos2::.Assign [.Attribute (.Name x p) g pos'] (.Name y p8) pos3::rest) (zcs C ks f g gi iy te t3 ti u) where
 mono ρ ds hs Q Q' m h:=by
  obtain⟨a1,a0,a2,a3,a4,h⟩:=h;exact⟨a1,a0,a2,a3,a4,he.mono _ _ _ (λd k q125q=>by obtain⟨b1,rows,b2,b3,h⟩:=q125q;exact⟨b1,rows,b2,b3,h3.mono _ _ _ (λd k q126q=>by obtain⟨c1,c2,h⟩:=q126q;exact⟨c1,c2,hi.mono _ _ _ (λd k q127q=>by obtain⟨n,d1,d2,h⟩:=q127q;exact⟨n,d1,d2,hr.mono _ _ _ _ _ m h⟩) h⟩) h⟩) h⟩
 run:=PSs.weak (zbZ he.run (zbZ (zlE h3.run (zpk (zco hyi hvy hdy hcy) hi.run set_list hasg) hw1 hw2 h1) (zbZ (zjz (zco hx hv hd hcd) (zco hyi hvy hdy hcy) hs4) hr.run))) λD σ H h=>by
  obtain⟨ρ,Fz,x,dx,L,ds,hs,R,i0,il,nd,hg,hl,h⟩:=h;refine⟨_,_,R.view,he.mono _ _ _ (λd k q v F1 H1 p1=>?_) h⟩;obtain⟨rfl,rows,rfl,hrows,q⟩:=q;obtain⟨px,a,rfl,ha0,nfa,xs,ha1,hden⟩:=p1;have hx0:H x≠none:=by obtain⟨_,w,_⟩:=R.mo.at_;rw[w];exact λz=>nomatch z
  have hL0:H L≠none:=by rw[R.mo.li];exact λz=>nomatch z
  have nax:a≠x:=λz=>hx0 (z▸ha0);have naL:a≠L:=λz=>hL0 (z▸ha0);obtain⟨R2,s2⟩:=R.back px;have hden2:=R2.mo.zsV hrows hden;have hsl:iy<σ.length:=by rw[<- R.rel.len];exact il
  have R3:RelM X.K (λb=>F1 b/\b≠x/\b≠L) (ρ.set iy none) (σ.set iy (some (.ref a))) H1 C x dx L ks f ds hs:=by
   refine⟨R2.rel.unset,by rw[Xh i0];exact R2.sz,λj d' z=>?_,R2.mo⟩;by_cases hj:iy=j
   ·subst hj;rw[Xl il]at z;cases z
   ·rw[Xh hj]at z;exact R2.no j d' z
  refine⟨_,_,R3.view,h3.mono _ _ _ (λd3 k3 q v3 F4 H4 p4=>?_) q⟩;obtain⟨rfl,hr3,q⟩:=q;obtain⟨R4,s4⟩:=R3.back p4.ext;have d3':=R4.mo.drop hr3 p4.opd;have ha4:=p4.ext.same _ _ ha1;have nf4:¬ F4 a:=λz=>by
   rcases p4.ext.new a z with (w | w | w) | w
   ·exact nfa w.1
   ·exact nax w
   ·exact naL w
   ·rw[ha1]at w;cases w
  refine⟨_,Xl hsl,_,_,R4.view,hi.mono _ _ _ (λd k q v5 F5 H5 p5=>?_) q⟩;obtain⟨nn,rfl,hn,q⟩:=q;have ev:=zay (p5.root R4.view);obtain⟨R5,s5⟩:=R4.back p5.ext;have ha5:=p5.ext.same _ _ ha4;have nf5:¬ (F5 a/\a≠x/\a≠L):=λz=>by
   rcases p5.ext.new a z.1 with (w | w | w) | w
   ·exact nf4 w.1
   ·exact nax w
   ·exact naL w
   ·rw[ha4]at w;cases w
  have hlen:=hden.length;refine⟨a,xs,nn,nn,rfl,ev,ha5,by rw[<- hlen];exact zmX hn,?_⟩;have R6:=R5.other (o:=.lst (xs.set nn v3)) ha5 (λz=>z) nf5 nax naL;have dn5:DenL X.K (λb=>F5 b/\b≠x/\b≠L) H5 (rows.set nn d3) (xs.set nn v3):=DenL.set nn (DenL.mono (Keep.of (p4.ext.same.trans p5.ext.same)) (λb hb=>s5.sub b (s4.sub b hb)) _ _ hden2) (Den.mono (Keep.of p5.ext.same) s5.sub _ _ d3');have dn6:DenL X.K (λb=>F5 b/\b≠x/\b≠L) (upd H5 a (.lst (xs.set nn v3))) (rows.set nn d3) (xs.set nn v3):=DenL.rew' ha5 (λz=>z) nf5 dn5;have R7:=R6.freeze (a:=a) (by rw[zaj];exact λz=>nomatch z) nax naL;obtain⟨zs,b1,b2,b3⟩:=R7.mo.at_;have dl:Den X.K (λb=>(F5 b/\b≠x/\b≠L)\/b=a) (upd H5 a (.lst (xs.set nn v3))) (.lst (rows.set nn d3)) (.ref a):=by
   simp only[Den];exact⟨a,_,rfl,.inl ⟨.inr rfl,.inl zaj⟩,DenL.mono (Keep.of (Same.refl _)) (λ_ h=>.inl h) _ _ dn6⟩
  obtain⟨R8,s8⟩:=R7.fld b1 b2 b3 nd hg dl;refine⟨_,Xl hsl,_,R7.sz,x,C,dx,_,rfl,b1,c,n,by rw[YD,Xq,Xq];simp only[YF];lia,?_⟩;have st5:zdF x L Fz H (λb=>F5 b/\b≠x/\b≠L) H5:=(s2.trans s4 R4.mo.nf R4.mo.nfL).trans s5 R5.mo.nf R5.mo.nfL;have st8:zdF x L Fz H (λb=>(F5 b/\b≠x/\b≠L)\/b=a) (upd (upd H5 a (.lst (xs.set nn v3))) x (.ins C dx (putF g (.ref a) ((ks++[f]).zip (zs++[.ref L]))))):=by
   refine⟨λb o n1 n2 w=>?_,λb hb=>.inl (st5.sub b hb),λb hb=>?_,s8.al⟩
   ·have nb:b≠a:=λz=>by rw[z,ha0]at w;cases w
    exact s8.old b o n1 n2 (by rw[zah nb];exact st5.old b o n1 n2 w)
   ·rcases hb with hb | rfl
    ·exact st5.new b hb
    ·exact .inr ha0
  exact⟨ρ.set iy none,_,x,dx,L,_,hs,R8,hr.mono _ _ _ _ _ (λρ' ds' hs' q σ' Fz' H' s' R'=>q σ' Fz' H' (st8.trans s' R'.mo.nf R'.mo.nfL) R') q⟩
end
structure zir (x:Addr)(Fz:FZ)(H:Hp)(Fz':FZ)(H':Hp):Prop where
 old:∀b o,b≠x->H b=some o->H' b=some o
 sub:∀b,Fz b->Fz' b
 new:∀b,Fz' b->Fz b\/H b=none
 al:∀b,Fz' b->H' b≠none
theorem zir.behind {x:Addr}{Fz F1 Fz':FZ}{H H1 H':Hp}{o:HO}(e:Ext Fz H F1 H1)(m:zir x F1 (upd H1 x o) Fz' H'):zir x Fz H Fz' H' where
 old b u n h:=m.old b u n (by rw[zah n];exact e.same b u h)
 sub b h:=m.sub b (e.sub b h)
 new b h:=by
  rcases m.new b h with w | w
  ·exact e.new b w
  ·by_cases n:b=x
   ·subst n;rw[zaj]at w;cases w
   ·rw[zah n]at w;exact .inr (e.same.free w)
 al:=m.al
noncomputable abbrev zgD:=List PV->(List PV->List Int->Prop)->Prop
noncomputable def zpy (F:zgD):Prop:=∀as Q Q',(∀a b,Q a b->Q' a b)->F as Q->F as Q'
noncomputable def zhk (K:Xa)(C:Addr)(ks:List Str)(f:Str)(F:zgD):Sp:=λvs H Q _=>∃(x dx:Addr)(ws:List V)(Fz:FZ)(as:List PV),vs=.ref x::ws/\H x=some (.ins C dx [])/\H dx=some (.own x)/\¬ Fz x/\¬ Fz dx/\(∀b,Fz b->H b≠none)/\DenL K Fz H as ws/\
 F as λds hs=>∀Fz' H' L,H L=none->zir x Fz H Fz' H'->MO K Fz' H' C x dx L ks f ds hs->Q .non H'
noncomputable abbrev TNZ:=PEnv->List Str->List PV->(List PV->List Int->Prop)->Prop
noncomputable def zsX (K:Xa)(C:Addr)(kf:List Str)(f:Str)(t:TNZ):TS:=λD σ H=>∃ρ Fz x dx ks ds,RelN K Fz ρ σ H C x dx ks ds/\t ρ ks ds λds' hs'=>∀σ' Fz' H' L,H L=none->zir x Fz H Fz' H'->MO K Fz' H' C x dx L kf f ds' hs'->D.nx σ' H'
structure PuNZ (X:Cx)(C:Addr)(kf:List Str)(f:Str)(sts:List Stmt)(t:TNZ):Prop where
 mono:∀ρ ks ds Q Q',(∀a b,Q a b->Q' a b)->t ρ ks ds Q->t ρ ks ds Q'
 run:PSs X sts (zsX X.K C kf f t)
noncomputable def zeE (g:Str)(te:TPE)(t:TNZ):TNZ:=λρ ks ds Q=>g∉ks/\ks.length<1000/\te ρ λd k=>isOwn k=false/\t ρ (ks++[g]) (ds++[d]) Q
section
variable {X:Cx}{C:Addr}{kf:List Str}{e:Expr}{f g x:Str}{te:TPE}{t:TNZ}{rest:List Stmt}{p pos pos':Pos}
theorem zhl (c:Cls X.K C)(n:zbX X.K C g)(he:PuE X e te)(hr:PuNZ X C kf f rest t)(hN:autoParam (X.N[0]? = some x) aU0)(hv:autoParam (Vis X.env.scope x) aU2)(hd:autoParam ((x == ("__debug__" : Str))=false) aU1) (hcd:autoParam ((x == ("__classdict__" : Str))=false) aU1)
  (hs:autoParam (swapsWith e (some (.Attribute (.Name x p) g pos')) pos.line X.env=pure false) aU0):PuNZ X C kf f (.Assign [.Attribute (.Name x p) g pos'] e pos::rest) (zeE g te t) where
 mono ρ ks ds Q Q' m h:=⟨h.1,h.2.1,he.mono ρ _ _ (λd k q128q=>by obtain⟨hk,q⟩:=q128q;exact⟨hk,hr.mono _ _ _ _ _ m q⟩) h.2.2⟩
 run:=PSs.weak (zbZ (zjz (zco hN hv hd hcd) he.run hs) hr.run) λD σ H h=>by
  obtain⟨ρ,Fz,x,dx,ks,ds,R,hf,hk,h⟩:=h;refine⟨ρ,Fz,R.rel,he.mono ρ _ _ (λd k q v F1 H1 p1=>?_) h⟩;obtain⟨hk',q⟩:=q;obtain⟨F2,x2,s2,d2⟩:=p1.frozen (zji hk');have R2:=R.ext x2;obtain⟨xs,h1,h2,h3⟩:=R2.at_;refine⟨_,R2.sz,x,C,dx,_,rfl,h1,c,n,by rw[YD];lia,?_⟩;refine⟨ρ,F2,x,dx,_,_,R2.fld h1 h2 h3 hf d2,hr.mono _ _ _ _ _ (λa b q σ' Fz' H' L hL m mo=>q σ' Fz' H' L ?_ (m.behind x2) mo) q⟩;by_cases z:L=x
  ·rw[z,zaj]at hL;cases hL
  ·rw[zah z]at hL;exact x2.same.free hL
end
section
variable {P:Program}{w:World}{K:Xa}{mg:Str->Option Value}{base:Heap}
theorem zoM {x qual:Str}{st:Stmt}{f0 C:Addr}{fd:FuncData}{N ps kf:List Str}{f:Str}{k:Nat}{FI:zgD}(Fn:Fun K x qual st f0 fd)(S:zap N ps (zac st))(len:∀ds Q,FI ds Q->ds.length+1=ps.length)
  (hbody:∀(cdv:Value) (A:Around) (outer:List Env) (s:Shared) (H:Hp) (E:XK),Room k (A.deeper (envOfC qual (zac st) s.heap.objs.size f0 cdv))->
   ∃t,PuNZ (cxOf CX0 P w K mg base N qual (zac st) f0 cdv A outer s H E).nox C kf f (zal st) t/\∀ds Q,FI ds Q->t ((zaT N (.non::ds)).set 0 none) [] [] Q):FnOk P w K mg base CX0 (k+1) f0 fd ps (zhk K C kf f FI):=by
 refine Fn.ok S (λvs H Q E h=>?_) (λcdv A outer s H vs Q E hr h=>?_)
 ·obtain⟨x,dx,ws,Fz,ds,rfl,_,_,_,_,_,hd,q⟩:=h;rw[XG,<- hd.length];exact len _ _ q
 obtain⟨t,ht,hq⟩:=hbody cdv A outer s H E hr;obtain⟨x,dx,ws,Fz,ds,rfl,hx,hdx,nx,ndx,al,hd,h⟩:=h;have hd':DenL K Fz H (.non::ds) (.non::ws):=DenL.cons (by simp only[Den]) hd;obtain⟨R,no⟩:=zfK (N:=N) al hd';have es:start N (.ref x::ws)=(start N (.non::ws)).set 0 (some (.ref x)):=rfl;refine⟨_,ht.run,?_⟩;rw[es];refine⟨(zaT N (.non::ds)).set 0 none,Fz,x,dx,[],[],⟨R.unset,rfl,rfl,nx,λi d z=>?_,[],hx,rfl,DenL.nil⟩,ht.mono _ _ _ _ _ (λds' hs' q σ' Fz' H' L hL m mo=>q Fz' H' L hL m mo) (hq ds _ h)⟩;by_cases hi:i=0
 ·subst hi;cases z
 ·rw[Xh (λy=>hi y.symm)]at z;have hlen:i<(zaT N (.non::ds)).length:=(Xd.mp z).1;rw[R.len]at hlen;obtain⟨a,q1,_⟩:=R.own i d z;exact no _ a ⟨i,d,z,q1⟩
end
noncomputable def zct (C:Addr)(ks:List Str)(f m:Str)(iy:Nat)(FI:zgD)(FS:PMz)(ta:TPA)(u:TPS):TPS:=λρ O=>m∉ks++[f]/\iy<ρ.length/\ta ρ λops=>noOwn ops=true/\FI (ops.map (·.1)) λds hs=>FS ds hs [] λds' hs'=>Hold u O (ρ.set iy (some (objOf C ks f ds' hs',false)))
section
variable {X:Cx}{C fi fm:Addr}{ks:List Str}{f m cn y:Str}{iy:Nat}{e:Expr}{es:List Expr}{ta:TPA}{u:TPS}{rest:List Stmt}{ki km:Nat}{fdi fdm:FuncData}{psi psm:List Str}{FI:zgD}{FS:PMz}{pl:Sem Bool}{p1 p2 p3 apos cpos cpos2 pos pos2:Pos}
theorem zlg (M:Mk X.K C fi)(c:Cls X.K C)(hm:Meth X.K C m fm)(GI:FnOk X.prog X.w X.K X.mg X.base CX0 ki fi fdi psi (zhk X.K C ks f FI))(GS:FnOk X.prog X.w X.K X.mg X.base CX0 km fm fdm psm (spZ X.K C ks f FS))(mI:zpy FI)(mS:zoI FS)(hri:Room (ki+1) X.A)(hrm:Room km X.A)
  (hg:Gl X cn) (hmg:X.mg cn=some (.ref C)) (hbi:Binds X.K fdi psi []) (hbm:Binds X.K fdm psm []) (ha:PuA X (e::es) ta) (hr:PuSs X rest u) (hN:X.N.Nodup) (hyi:X.N[iy]? = some y) (hy:Loc X.env.scope y)
  (hdb:autoParam ((cn == ("__debug__" : Str))=false) aU1) (hst:autoParam (starEach (e::es) X.env=(false,eval e X.env)::starEach es X.env) aU0) (hpl:autoParam ((backTo cpos (starEach es X.env)).any (·.1)=false) aU0)
  (hvy:autoParam (Vis X.env.scope y) aU2) (hdy:autoParam ((y == ("__debug__" : Str))=false) aU1) (hcy:autoParam ((y == ("__classdict__" : Str))=false) aU1)
  (hs:autoParam (swapsWith (.Call (.Name cn p2) (e::es) [] cpos) (some (.Name y p1)) pos.line X.env=pure false) aU0) (hf:autoParam (X.fn y=true\/X.env.scope.names.lookup y=some .local) aU5)
  (ht:autoParam (eval (.Call (.Attribute (.Name y p3) m apos) [] [] cpos2) X.env=(do
   let ov <- eval (.Name y p3) X.env
   standAt apos.atName
   let (f,first) <- holding [ov] (getMethod ov m pl)
   callWith cpos2 f first (backTo cpos2 (starEach [] X.env)) (backToKw cpos2 (keywordEach [] X.env)))) aU0)
  (hs2:autoParam (swapsWith (.Call (.Attribute (.Name y p3) m apos) [] [] cpos2) none pos2.line X.env=pure false) aU0) :
  PuSs X (.Assign [.Name y p1] (.Call (.Name cn p2) (e::es) [] cpos) pos::.Expr (.Call (.Attribute (.Name y p3) m apos) [] [] cpos2) pos2::rest) (zct C ks f m iy FI FS ta u) where
 mono ρ O O' le h:=⟨h.1,h.2.1,ha.mono ρ _ _ (λops q=>⟨q.1,mI _ _ _ (λds hs q=>mS _ _ _ _ _ (λds' hs' q=>hr.mono _ _ _ le q) q) q.2⟩) h.2.2⟩
 run:=PSs.weak (zbZ (zhE hN hyi hy (zqf M GI hri hg hmg hbi .nil zkN ha.run hdb hst hpl) hs hf) (zbZ (ziV (zjA (pl:=pl) (zco hyi hvy hdy hcy) c hm GS hrm hbm .nil zkN ht) hs2) hr.run)) λD σ H h=>by
  obtain⟨ρ,Fz,R,hmk,il,h⟩:=h;refine⟨ρ,Fz,R,ha.mono ρ _ _ (λops h vs F1 H1 x1 o=>?_) h⟩;obtain⟨hno,h⟩:=h;intro a dx ha' hdx hne;obtain⟨F2,x2,s2,h2⟩:=o.frozen x1 hno;rw[List.append_nil];have nfa:¬ F2 a:=λz=>x2.al a z ha';have nfd:¬ F2 dx:=λz=>x2.al dx z hdx;have sm:Same H1 (upd (upd H1 dx (.own a)) a (.ins C dx [])):=λb o' hb=>by
   have n1:b≠a:=λz=>by rw[z,ha']at hb;cases hb
   have n2:b≠dx:=λz=>by rw[z,hdx]at hb;cases hb
   rw[zah n1,zah n2];exact hb
  refine⟨a,dx,vs,F2,ops.map (·.1),rfl,zaj,by rw[zah hne];exact zaj,nfa,nfd,λb hb z=>x2.al b hb (sm.free z),DenL.mono (.of sm) (λ_ h=>h) _ _ h2,mI _ _ _ (λds hs q F3 H3 L hL md mo=>⟨rfl,?_⟩) h⟩;obtain⟨xs,g1,g2,g3⟩:=mo.at_;have hsl:iy<σ.length:=by rw[<- R.len];exact il
  refine⟨_,Xl hsl,a,dx,_,rfl,g1,zdq (α:=V) (β:=V) hmk,?_⟩;refine⟨a,dx,L,[],F3,ds,hs,[],rfl,mo,md.al,DenL.nil,mS _ _ _ _ _ (λds' hs' q F4 H4 s4 m4=>?_) q⟩;have hL1:H1 L=none:=sm.free hL;have sm4:Same H1 H4:=λb o' hb=>by
   have n1:b≠a:=λz=>by rw[z,ha']at hb;cases hb
   have n2:b≠L:=λz=>by rw[z,hL1]at hb;cases hb
   exact s4.old b o' n1 n2 (md.old b o' n1 (sm b o' hb))
  have ex:Ext Fz H (λb=>F4 b\/b=a\/b=L) H4:=by
   refine⟨x2.same.trans sm4,λb hb=>.inl (s4.sub b (md.sub b (x2.sub b hb))),λb hb=>?_,m4.alive s4.al⟩;rcases hb with hb | rfl | rfl
   ·have na:b≠a:=λz=>m4.nf (z▸hb);rcases s4.new b hb with w | w
    ·rcases md.new b w with w | w
     ·exact x2.new b w
     ·exact .inr (x2.same.free (sm.free w))
    ·refine .inr (x2.same.free ?_);cases hb1:H1 b with
     | none=>rfl
     | some o'=>rw[md.old b o' na (sm b o' hb1)]at w;cases w
   ·exact .inr (x2.same.free ha')
   ·exact .inr (x2.same.free hL1)
  have R5:=(R.ext ex).set (i:=iy) m4.den;refine⟨_,_,R5,hr.mono _ _ _ (zcf (Step.of ex) λb q129q=>?_) q⟩;obtain⟨j,d,z1,z2⟩:=q129q;by_cases hj:iy=j
  ·subst hj;rw[Xl il]at z1;cases z1
  ·rw[Xh hj]at z1 z2;exact .inl ⟨j,d,z1,z2⟩
end
noncomputable def zbz (C:Addr)(m:Str)(F:PF)(to:TPE):TPE:=λρ Q=>to ρ λd _=>∃ks ds,d=.obj C ks ds/\m∉ks/\F [d] Q
theorem zdz {X:Cx}{o:Expr}{to:TPE}{C:Addr}{m:Str}{pos apos:Pos}{pl:Sem Bool}{k:Nat}{fa:Addr}{fd:FuncData}{ps:List Str}{F:PF}(c:Cls X.K C)(hm:Meth X.K C m fa)(G:FnOk X.prog X.w X.K X.mg X.base CX0 k fa fd ps (spP X.K F))(mf:zaX F)(hr:Room k X.A)(hb:Binds X.K fd ps [])(ho:PuE X o to)
  (ht:autoParam (eval (.Call (.Attribute o m apos) [] [] pos) X.env=(do
   let ov <- eval o X.env
   standAt apos.atName
   let (f,first) <- holding [ov] (getMethod ov m pl)
   callWith pos f first (backTo pos (starEach [] X.env)) (backToKw pos (keywordEach [] X.env)))) aU0) :
  PuE X (.Call (.Attribute o m apos) [] [] pos) (zbz C m F to) where
 mono ρ Q Q' mm h:=ho.mono ρ _ _ (λd k q130q=>by obtain⟨ks,ds,e1,e2,h⟩:=q130q;exact⟨ks,ds,e1,e2,mf _ _ _ mm h⟩) h
 run:=PE.weak (zjA (pl:=pl) ho.run c hm G hr hb .nil zkN ht) λσ H Q h=>by
  obtain⟨ρ,Fz,R,h⟩:=h;refine⟨ρ,Fz,R,ho.mono ρ _ _ (λd kd q v F1 H1 p1=>?_) h⟩;obtain⟨ks,ds,rfl,hn,q⟩:=q;obtain⟨a,dx,xs,rfl,hf,h1,h2,h3⟩:=zjh (p1.root R);have dobj:Den X.K F1 H1 (.obj C ks ds) (.ref a):=p1.root R;refine⟨a,dx,_,rfl,h1,zdq (α:=V) (β:=V) hn,F1,[.obj C ks ds],(R.ext p1.ext).al,DenL.cons dobj DenL.nil,mf _ _ _ (λd k q v F4 H4 p4=>?_) q⟩;exact q v F4 H4 (p4.behind p1.ext)
theorem zir.ahead {x:Addr}{Fz F1 Fz':FZ}{H H1 H':Hp}(e:Ext Fz H F1 H1)(m:zir x F1 H1 Fz' H'):zir x Fz H Fz' H' where
 old b u n h:=m.old b u n (e.same b u h)
 sub b h:=m.sub b (e.sub b h)
 new b h:=by
  rcases m.new b h with w | w
  ·exact e.new b w
  ·exact .inr (e.same.free w)
 al:=m.al
noncomputable def zeF (i:Nat)(te:TPE)(t:TNZ):TNZ:=λρ ks ds Q=>i≠0/\te ρ λd k=>isOwn k=false/\t (ρ.set i (some (d,false))) ks ds Q
theorem zoN {X:Cx}{C:Addr}{kf:List Str}{e:Expr}{f y:Str}{te:TPE}{t:TNZ}{rest:List Stmt}{pos pos':Pos}{i:Nat}(hN:X.N.Nodup)(hi:X.N[i]? = some y)(hx:Loc X.env.scope y)(he:PuE X e te)(hr:PuNZ X C kf f rest t)
  (hs:autoParam (swapsWith e (some (.Name y pos')) pos.line X.env=pure false) aU0) (hf:autoParam (X.fn y=true\/X.env.scope.names.lookup y=some .local) aU5):PuNZ X C kf f (.Assign [.Name y pos'] e pos::rest) (zeF i te t) where
 mono ρ ks ds Q Q' m h:=⟨h.1,he.mono ρ _ _ (λd k q131q=>by obtain⟨hk,q⟩:=q131q;exact⟨hk,hr.mono _ _ _ _ _ m q⟩) h.2⟩
 run:=PSs.weak (zbZ (zhE hN hi hx he.run hs hf) hr.run) λD σ H h=>by
  obtain⟨ρ,Fz,x,dx,ks,ds,R,i0,h⟩:=h;refine⟨ρ,Fz,R.rel,he.mono ρ _ _ (λd k q v F1 H1 p1=>?_) h⟩;obtain⟨hk',q⟩:=q;obtain⟨F2,x2,s2,d2⟩:=p1.frozen (zji hk');have R2:=R.ext x2;refine⟨ρ.set i (some (d,false)),F2,x,dx,ks,ds,⟨R2.rel.set d2,by rw[Xh i0];exact R2.hz,by rw[Xh i0];exact R2.sz,R2.nf,λj d' z=>?_,R2.at_⟩,hr.mono _ _ _ _ _ (λa b q σ' Fz' H' L hL m mo=>q σ' Fz' H' L (x2.same.free hL) (m.ahead x2) mo) q⟩;by_cases hj:i=j
  ·subst hj;by_cases hb:i<ρ.length
   ·rw[Xl hb]at z;cases z
   ·rw[XF (by lia),XC (by lia)]at z;cases z
  ·rw[Xh hj]at z;exact R2.no j d' z
theorem RelN.view {K:Xa}{Fz:FZ}{ρ:PEnv}{σ:St}{H:Hp}{C x dx:Addr}{ks:List Str}{ds:List PV}(R:RelN K Fz ρ σ H C x dx ks ds):Rel K (λb=>Fz b\/b=x) (ρ.set 0 (some (.obj C ks ds,false))) σ H:=by
 obtain⟨xs,h1,h2,h3⟩:=R.at_;have al:∀b,(Fz b\/b=x)->H b≠none:=λb hb=>by
  rcases hb with hb | rfl
  ·exact R.rel.al b hb
  ·rw[h1];exact λz=>nomatch z
 have dn:Den K (λb=>Fz b\/b=x) H (.obj C ks ds) (.ref x):=by
  simp only[Den];exact⟨x,dx,xs,rfl,.inr rfl,h1,h2,DenL.mono (Keep.of (Same.refl _)) (λ_ h=>.inl h) _ _ h3⟩
 have g:=(R.rel.grow R.no (Same.refl _) (λb h=>.inl h) al).set (i:=0) dn;have e:σ.set 0 (some (.ref x))=σ:=by
  have hl:=(Xd.mp R.sz).1;have he:=(Xd.mp R.sz).2;rw[<- he];exact List.set_getElem_self hl
 rw[e]at g;exact g
noncomputable def zbA (C:Addr)(kf:List Str)(f:Str)(te:TPE):TNZ:=λρ ks ds Q=>ks=kf/\f∉ks/\ks.length<1000/\te (ρ.set 0 (some (.obj C ks ds,false))) λd k=>k=.new/\∃hs:List Int,d=.lst (hs.map PV.int)/\Q ds hs
theorem zlh {X:Cx}{C:Addr}{kf:List Str}{e:Expr}{f x:Str}{te:TPE}{p pos pos':Pos}(c:Cls X.K C)(n:zbX X.K C f)(he:PuE X e te)(hN:autoParam (X.N[0]? = some x) aU0)(hv:autoParam (Vis X.env.scope x) aU2)(hd:autoParam ((x == ("__debug__" : Str))=false) aU1) (hcd:autoParam ((x == ("__classdict__" : Str))=false) aU1)
  (hs:autoParam (swapsWith e (some (.Attribute (.Name x p) f pos')) pos.line X.env=pure false) aU0):PuNZ X C kf f [.Assign [.Attribute (.Name x p) f pos'] e pos] (zbA C kf f te) where
 mono ρ ks ds Q Q' m h:=⟨h.1,h.2.1,h.2.2.1,he.mono _ _ _ (λd k q132q=>by obtain⟨e1,hs,e2,q⟩:=q132q;exact⟨e1,hs,e2,m _ _ q⟩) h.2.2.2⟩
 run:=PSs.weak (ziU (zjz (zco hN hv hd hcd) he.run hs)) λD σ H h=>by
  obtain⟨ρ,Fz,x,dx,ks,ds,R,rfl,hf,hk,h⟩:=h;refine⟨_,_,R.view,he.mono _ _ _ (λd k q v F1 H1 p1=>?_) h⟩;obtain⟨rfl,hs,rfl,q⟩:=q;obtain⟨px,L,rfl,hl0,nfL,xs0,hL,hds0⟩:=p1;have e0:=zcI hds0;subst e0;obtain⟨xs,g1,g2,g3⟩:=R.at_;have hxL:x≠L:=λz=>by rw[z,hl0]at g1;cases g1
  have g1':=px.same _ _ g1;have sub:∀b,Fz b->F1 b/\b≠x:=λb hb=>⟨px.sub b (.inl hb),λz=>R.nf (z▸hb)⟩;have g3':DenL X.K (λb=>F1 b/\b≠x) H1 ds xs:=DenL.mono (Keep.of px.same) sub _ _ g3;have nfx:¬ (F1 x/\x≠x):=λz=>z.2 rfl;refine⟨_,R.sz,x,C,dx,_,rfl,g1',c,n,by rw[YD];lia,?_⟩;refine q σ (λb=>F1 b/\b≠x) _ L hl0 ⟨λb o nb h=>by rw[zah nb];exact px.same b o h,sub,λb hb=>?_,λb hb=>?_⟩ ⟨nfx,λz=>nfL z.1,hxL,⟨xs,by rw[zaj,zhi g2 hf],g2,DenL.rew' g1' (λz=>z) nfx g3'⟩,by rw[zah hxL.symm];exact hL⟩
  ·rcases px.new b hb.1 with (w | w) | w
   ·exact .inl w
   ·exact absurd w hb.2
   ·exact .inr w
  ·rw[zah hb.2];exact px.al b hb.1
noncomputable def pLtT:P2:=λd e Q=>∃ns ms:List Int,d=.tup (ns.map PV.int)/\e=.tup (ms.map PV.int)/\Q (.bl (_H.lexLt ns ms)) .frz
theorem zsY {K:Xa}:POp K (rLtT K) pLtT where
 mono d e Q Q' m h:=by obtain⟨i,j,e1,e2,q⟩:=h;exact⟨i,j,e1,e2,m _ _ q⟩
 run Fz H x y d e Q al rx ry h:=by
  obtain⟨ns,ms,rfl,rfl,q⟩:=h;obtain⟨a,xs,rfl,h1,h2⟩:=zaL rx;obtain⟨b,ys,rfl,h3,h4⟩:=zaL ry;rw[zcI h2]at h1;rw[zcI h4]at h3;exact⟨a,b,ns,ms,rfl,rfl,h1,h3,q _ Fz H (.val al (by simp only[Den]))⟩
theorem zsZ {X:Cx}{a b:Expr}{ta tb:TPE}{pos:Pos}(hu:X.A.units+16<cLine)(ha:PuE X a ta)(hb:PuE X b tb)(hm:autoParam (behindInMarks .Lt b=false) aU4):PuE X (.Compare a [.Lt] [b] pos) (t2 pLtT ta tb):=zpr (zrZ (by lia)) zsY ha hb hm
end _P
namespace _Z
open PySem
section
variable {prog:Program}{w:World}{A:Around}{E:Value->Shared->Prop}{s:Shared}
noncomputable abbrev ZipK (h:Heap)(z TI TO:Addr)(a:Addr)(b:Bool):Prop:=
 h.get? z=some { cls:=.type "zip",dict:=none,data:=.fields #[rawInt a,.bool b,.bool false,.ref TI,.ref TO],slots:=#[] }
theorem zis {z TI TO c:Addr}{oc:Obj}{bb:Bool}(hz:ZipK s.heap z TI TO c bb)(hc:s.heap.get? c=some oc):wpAny (model prog w) A (Builtin.SmallTypes.ownedTupleIsFree (.ref z)) (λb s'=>b=false/\∃h',s'={ s with heap:=h' }/\ZipK h' z TI TO c true/\Yf z s.heap h') E s:=by
 unfold Builtin.SmallTypes.ownedTupleIsFree;refine wpAny_bind (wpAny_field hz rfl (x:=rawInt c) rfl ?_);show wpAny _ _ (loadIfAlive ((c:Int).toNat) >>= _) _ _ _;refine wpAny_bind (zde (o:=oc) (by simpa using hc) ?_);show wpAny _ _ (field (.ref z) 1 >>= _) _ _ _;refine wpAny_bind (wpAny_field hz rfl (x:=.bool bb) rfl ?_);cases bb with
 | false=>
  show wpAny _ _ (setField (.ref z) 1 (.bool true) >>= _) _ _ _;refine wpAny_bind (wpAny_setField_rec hz (by simp) λh₅ he₅ hs₅=>?_);exact wpAny_pure ⟨rfl,h₅,rfl,he₅,hs₅⟩
 | true=>exact wpAny_pure ⟨rfl,s.heap,rfl,hz,⟨rfl,λ_ _=>rfl⟩⟩
theorem znb {z TI TO i1 i2 l1 l2 c:Addr}{oc:Obj}{bb:Bool}{k1 k2:Nat}{xs ys:Array Value}{x y:Value}{Q:Value->Shared->Prop}(D:ZipApart z TI TO i1 i2 l1 l2)(hz:ZipK s.heap z TI TO c bb)(hc:s.heap.get? c=some oc)(hTI:IsPair s.heap TI (.ref i1) (.ref i2))(h1:s.heap.IsListIter i1 l1 k1)(h2:s.heap.IsListIter i2 l2 k2)(hl1:s.heap.IsList l1 xs)(hl2:s.heap.IsList l2 ys)(hx:xs[k1]? = some x)(hy:ys[k2]? = some y)
  (hQ:∀h',ZipK h' z TI TO c true->h'.IsListIter i1 l1 (k1+1)->h'.IsListIter i2 l2 (k2+1)->IsPair h' s.heap.objs.size x y->h'.objs.size=s.heap.objs.size+1->(∀c o,c≠z->c≠i1->c≠i2->s.heap.get? c=some o->h'.get? c=some o)->Q (.ref s.heap.objs.size) { s with heap:=h' }) :
  wpAny (model prog w) A (Builtin.«zip.__next__» ⟨[.ref z],[]⟩) (λfin s'=>∃v,fin=.done (.ret v)/\Q v s') E s:=by
 show wpAny _ _ (field (.ref z) 2 >>= _) _ _ _;refine wpAny_bind (wpAny_field hz rfl (x:=.bool false) rfl ?_);show wpAny _ _ (field (.ref z) 3 >>= _) _ _ _;refine wpAny_bind (wpAny_field hz rfl (x:=.ref TI) rfl (wpAny_bind (wpAny_seqItems hTI rfl ?_)));show wpAny _ _ (Builtin.SmallTypes.ownedTupleIsFree (.ref z) >>= _) _ _ _;refine wpAny_bind (wpAny_mono (zis hz hc) ?_ (λ_ _ e=>e));rintro _ _ ⟨rfl,ha,rfl,qa,sa⟩;simp only[XL,if_false];rw[<- Array.forIn_toList];refine wpAny_bind ?_;simp only[List.forIn_cons,List.forIn_nil];refine wpAny_bind (wpAny_bind (wpAny_holding ?_));show wpAny _ _ (Builtin.SmallTypes.nextOf (.ref i1) >>= _) _ _ _;refine wpAny_bind (wpAny_nextOf_list_item (h1.extBut sa.extBut D.i1z) (hl1.extBut sa.extBut D.l1z) hx λhb j1 sb=>wpAny_pure (wpAny_pure ?_));refine wpAny_bind (wpAny_bind (wpAny_holding ?_));show wpAny _ _ (Builtin.SmallTypes.nextOf (.ref i2) >>= _) _ _ _;refine wpAny_bind (wpAny_nextOf_list_item ((h2.extBut sa.extBut D.i2z).extBut sb.extBut D.i12.symm) ((hl2.extBut sa.extBut D.l2z).extBut sb.extBut D.l2i1) hy λhd j2 sd=>wpAny_pure (wpAny_pure (wpAny_pure ?_)));show wpAny _ _ (newTuple [x,y] >>= _) _ _ _;refine wpAny_bind (wpAny_newTuple (wpAny_pure ⟨_,rfl,?_⟩));have e1:hd.objs.size=s.heap.objs.size:=by rw[sd.1,sb.1,sa.1]
 have up:∀o:Obj,∀c,hd.get? c=some o->(hd.push { cls:=.type "tuple",data:=.seq #[x,y] }).get? c=some o:=λo c e=>Xe _ e;show Q (.ref hd.objs.size) _;have gt:IsPair (hd.push { cls:=.type "tuple",data:=.seq #[x,y] }) hd.objs.size x y:=Xv _ rfl;have gz:(hd.push { cls:=.type "tuple",data:=.seq #[x,y] }).objs.size=hd.objs.size+1:=Yw ..;rw[e1]at gt gz ⊢;exact hQ _ (up _ _ (sd.extBut _ _ D.i2z.symm (sb.extBut _ _ D.i1z.symm qa))) ((j1.extBut sd.extBut D.i12).at λo e=>up o _ e) (j2.at λo e=>up o _ e) gt gz λc o c1 c2 c3 e=>up o c (sd.extBut _ _ c3 (sb.extBut _ _ c2 (sa.extBut _ _ c1 e)))
theorem zoO {z TI TO i1 i2 l1 l2 c:Addr}{oc:Obj}{bb:Bool}{k1:Nat}{xs:Array Value}{Q:PySem.Fin->Shared->Prop}(hh:A.handled=none)(D:ZipApart z TI TO i1 i2 l1 l2)(hz:ZipK s.heap z TI TO c bb)(hc:s.heap.get? c=some oc)(hTI:IsPair s.heap TI (.ref i1) (.ref i2))(h1:s.heap.IsListIter i1 l1 k1)(hl1:s.heap.IsList l1 xs)(hx:xs[k1]? = none)
  (hE:∀h' e,(∀c o,c≠z->c≠i1->s.heap.get? c=some o->h'.get? c=some o)->(∃o,h'.get? e=some o/\o.cls=.type "StopIteration")->E (.ref e) { s with heap:=h' }) :
  wpAny (model prog w) A (Builtin.«zip.__next__» ⟨[.ref z],[]⟩) Q E s:=by
 show wpAny _ _ (field (.ref z) 2 >>= _) _ _ _;refine wpAny_bind (wpAny_field hz rfl (x:=.bool false) rfl ?_);show wpAny _ _ (field (.ref z) 3 >>= _) _ _ _;refine wpAny_bind (wpAny_field hz rfl (x:=.ref TI) rfl (wpAny_bind (wpAny_seqItems hTI rfl ?_)));show wpAny _ _ (Builtin.SmallTypes.ownedTupleIsFree (.ref z) >>= _) _ _ _;refine wpAny_bind (wpAny_mono (zis hz hc) ?_ (λ_ _ e=>e));rintro _ _ ⟨rfl,ha,rfl,qa,sa⟩;simp only[XL,if_false];rw[<- Array.forIn_toList];refine wpAny_bind ?_;simp only[List.forIn_cons,List.forIn_nil];refine wpAny_bind (wpAny_bind (wpAny_holding ?_));show wpAny _ _ (Builtin.SmallTypes.nextOf (.ref i1) >>= _) _ _ _;refine wpAny_bind (wpAny_nextOf_list_end hh (h1.extBut sa.extBut D.i1z) (hl1.extBut sa.extBut D.l1z) hx λhb e sb he=>?_);exact hE hb e (λc o c1 c3 y=>sb _ _ c3 (sa.extBut _ _ c1 y)) he
noncomputable def ZAt (h:Heap)(z TI TO i1 i2:Addr):Prop:=(IsZip h z TI TO .none/\∃a b,IsPair h TO a b)\/∃a b oa,ZipK h z TI TO a b/\h.get? a=some oa/\a≠z/\a≠i1/\a≠i2
theorem zoP {z TI TO i1 i2 l1 l2:Addr}{k1 k2:Nat}{xs ys:Array Value}{x y:Value}{Q:Option Value->Shared->Prop}(D:ZipApart z TI TO i1 i2 l1 l2)(hz:ZAt s.heap z TI TO i1 i2)(hTI:IsPair s.heap TI (.ref i1) (.ref i2))(h1:s.heap.IsListIter i1 l1 k1)(h2:s.heap.IsListIter i2 l2 k2)(hl1:s.heap.IsList l1 xs)(hl2:s.heap.IsList l2 ys)(hx:xs[k1]? = some x)(hy:ys[k2]? = some y)
  (hQ:∀h',ZAt h' z TI TO i1 i2->h'.IsListIter i1 l1 (k1+1)->h'.IsListIter i2 l2 (k2+1)->IsPair h' s.heap.objs.size x y->h'.objs.size=s.heap.objs.size+1->(∀c o,c≠z->c≠TO->c≠i1->c≠i2->s.heap.get? c=some o->h'.get? c=some o)->Q (some (.ref s.heap.objs.size)) { s with heap:=h' }) :
  wpAny (model prog w) A (pyNext (.ref z)) Q E s:=by
 have hi1:i1<s.heap.objs.size:=by obtain⟨_,x,_⟩:=h1;exact Xm x
 have hi2:i2<s.heap.objs.size:=by obtain⟨_,x,_⟩:=h2;exact Xm x
 rcases hz with ⟨hz,a,b,hTO⟩ | ⟨a,b,oa,hz,ha,n1,n2,n3⟩
 ·have lz:z<s.heap.objs.size:=Xm hz;refine wpAny_pyNext_zip_item D hz hTI hTO h1 h2 hl1 hl2 hx hy λh' g1 g2 g3 g4 g5 g6 g7=>hQ h' (.inr ⟨_,false,_,g1,g5,Yg lz,Yg hi1,Yg hi2⟩) g3 g4 g5 g6 g7
 ·have hT:s.TypeIs (.ref z) "zip":=⟨_,hz,rfl⟩;unfold pyNext;refine wpAny_bind (wpAny_attempt (wpAny_callSpecial?_slot (name:=Str.ofString "__next__") hT F.slot_zip_next (wpAny_call_entry F.slot_zip_next hT F.entry_zip_next (znb D hz ha hTI h1 h2 hl1 hl2 hx hy λh' g1 g3 g4 g5 g6 g7=>wpAny_pure ?_) (F.args_zip_next_1 _))));exact hQ h' (.inr ⟨a,true,oa,g1,g7 a oa n1 n2 n3 ha,n1,n2,n3⟩) g3 g4 g5 g6 λc o c1 c2 c3 c4 e=>g7 c o c1 c3 c4 e
theorem zri {z TI TO i1 i2 l1 l2:Addr}{k1 k2:Nat}{xs ys:Array Value}{Q:Option Value->Shared->Prop}(hh:A.handled=none)(D:ZipApart z TI TO i1 i2 l1 l2)(hz:ZAt s.heap z TI TO i1 i2)(hTI:IsPair s.heap TI (.ref i1) (.ref i2))(h1:s.heap.IsListIter i1 l1 k1)(h2:s.heap.IsListIter i2 l2 k2)(hl1:s.heap.IsList l1 xs)(hl2:s.heap.IsList l2 ys)(hx:xs[k1]? = none)
  (hQ:∀h',(∀c o,c≠z->c≠TO->c≠i1->c≠i2->s.heap.get? c=some o->h'.get? c=some o)->Q none { s with heap:=h' }):wpAny (model prog w) A (pyNext (.ref z)) Q E s:=by
 rcases hz with ⟨hz,a,b,hTO⟩ | ⟨a,b,oa,hz,ha,n1,n2,n3⟩
 ·exact wpAny_pyNext_zip_end hh D hz hTI hTO h1 h2 hl1 hl2 (.inl hx) hQ
 ·have hT:s.TypeIs (.ref z) "zip":=⟨_,hz,rfl⟩;unfold pyNext;refine wpAny_bind (wpAny_attempt (wpAny_callSpecial?_slot (name:=Str.ofString "__next__") hT F.slot_zip_next (wpAny_call_entry F.slot_zip_next hT F.entry_zip_next (zoO hh D hz ha hTI h1 hl1 hx λh' e hk he=>?_) (F.args_zip_next_1 _))));obtain⟨o,ho,hc⟩:=he;exact wpAny_bind (wpAny_isInstance (T:="StopIteration") (b:=true) ⟨o,ho,hc⟩ isSubtype_stop (wpAny_pure (hQ _ λc o c1 c2 c3 c4 e=>hk c o c1 c3 e)))
end
theorem zdX:typeLookup (.type "zip") "__getattr__" = pure none:=by rw[typeLookup_type,builtinLookup_eq_fast];kernel_rfl
theorem zfl:typeLookup (.type "zip") (Str.ofString "keys")=pure none:=by rw[typeLookup_type,builtinLookup_eq_fast];kernel_rfl
theorem zcC:entryFor table "zip.__getattribute__" = some Builtin.«object.__getattribute__»:=
 entryFor_alias (id':="object.__getattribute__") (by kernel_rfl) (by decide +kernel) (by decide +kernel) (by kernel_rfl)
theorem zli (a:Addr)(xs:Array Value)(sl:Array (Option Value))(name:Str)(u:Tok)(hmiss:typeLookup (.type "zip") name=pure none) (hname:(["__module__","__name__","__qualname__","__doc__","__annotations__"]:List Str).contains name=false) (hsz:name.length+100<=sizeLine:=by size_fits) :
  Meets (Builtin.«object.__getattribute__» ⟨[.ref a,.str name u],[]⟩) (λA R s=>s.heap.get? a=some { cls:=.type "zip",dict:=none,data:=.fields xs,slots:=sl }/\raisesAttr (.ref a) name A R s):=
 Meets.of_wp λprog w A R s hs=>by
  obtain⟨hp,g,d,tk,os⟩:=s;obtain⟨hx,hs⟩:=hs;have hT:(⟨hp,g,d,tk,os⟩:Shared).TypeIs (.ref a) "zip":=⟨_,hx,rfl⟩;unfold Builtin.«object.__getattribute__»
  repeat (any_goals (first | assumption | wp_step))
  simp only[hname,XL,if_false]
  repeat (any_goals (first | assumption | wp_step))
  exact wpAny_raiseAttrError hs.1 hs.2 (attrMsg_fits (by decide +kernel) hsz)
theorem znc {prog:Program}{w:World}{A:Around}{E:Value->Shared->Prop}{s:Shared}{a:Addr}{xs:Array Value}{sl:Array (Option Value)}{Q:Option Value->Shared->Prop}
  (hx:s.heap.get? a=some { cls:=.type "zip",dict:=none,data:=.fields xs,slots:=sl }) (hA:A.handled=none)
  (h:∀h' tk,(∀b o,s.heap.get? b=some o->h'.get? b=some o)->Q none { s with heap:=h',toks:=tk }) :
  wpAny (model prog w) A (getAttr? (.ref a) "keys") Q E s:=by
 obtain⟨hp,g,d,tk,os⟩:=s;have hT:∀tk',(⟨hp,g,d,tk',os⟩:Shared).TypeIs (.ref a) "zip":=λ_=>⟨_,hx,rfl⟩;have f1:=sub_AttributeError;have f3:=F.slot_zip_getattribute.lookup;have f4:=F.slot_zip_getattribute.bind (.ref a);have f5:=zdX;unfold getAttr? getAttrBy? getAttrBy
 repeat (any_goals (first | assumption | exact hT _ | ((with_reducible show wpAny _ _ (call (Value.builtin "zip.__getattribute__") _ _) _ _ _);refine call_meets F.slot_zip_getattribute (hT _) zcC (F.args_zip_getattribute_2 _ _) (zli a xs sl _ _ zfl (by decide +kernel) (by decide +kernel)) ⟨hx,hA,λh' tk' e hx'=>?_⟩) | wp_step))
 obtain⟨t',u',he⟩:=hx'.there;show wpAny _ _ (getattributeRaised _ _ _ _ _ _ _) _ _ _;unfold getattributeRaised
 repeat (any_goals (first | assumption | wp_step))
 exact h h' tk' hx'.keeps
section
variable {prog:Program}{w:World}{A:Around}{E:Value->Shared->Prop}{K:Type} [DecidableEq K] {knd:KeyKind prog w K}
theorem znd {R:Result->Shared->Prop}(hh:A.handled=none)(d z TI TO i1 i2 l1 l2:Addr)(D:ZipApart z TI TO i1 i2 l1 l2)(xs ys:Array Value)(ks:List K)(hkl:ks.length=xs.size)(hkey:∀(i:Nat)(k:K)(x:Value),ks[i]? = some k->xs[i]? = some x->knd.is k x=true)(nd:ks.Nodup)(hlen:xs.size=ys.size)
  (hdz:d≠z) (hdTI:d≠TI) (hdTO:d≠TO) (hd1:d≠i1) (hd2:d≠i2) (hdl1:d≠l1) (hdl2:d≠l2) (hz:xs.size<=sizeLine) :
  ∀(k i:Nat) (s:Shared) (tn:Tok),xs.size-i=k->i<=xs.size->ZAt s.heap z TI TO i1 i2->IsPair s.heap TI (.ref i1) (.ref i2)->s.heap.IsListIter i1 l1 i->s.heap.IsListIter i2 l2 i->s.heap.IsList l1 xs->s.heap.IsList l2 ys->
   s.heap.DictOf knd d ((ks.zip ys.toList).take i)->
   (∀s',s'.heap.DictOf knd d (ks.zip ys.toList)->(∀b o,b≠d->b≠z->b≠TO->b≠i1->b≠i2->s.heap.get? b=some o->s'.heap.get? b=some o)->(∃h' tk,s'={ s with heap:=h',toks:=tk })->R (.ok (.ret .none)) s')->
   codeAny (model prog w) A (.builtin "dict.update.loop" ⟨[.ref d,.ref z,.int i tn,.none],[]⟩) R s:=by
 have hzl:(ks.zip ys.toList).length=xs.size:=by rw[YD,hkl,Yp,<- hlen,Nat.min_self]
 intro k;induction k with
 | zero=>
  intro i s tn hk hi he hTI h1 h2 hl1 hl2 hD hR;have hin:i=xs.size:=by lia
  subst hin;refine codeAny_builtin F.zbH ?_;rw[Around.under_plainId F.zaG _];show wpAny _ A.in1 (pyNext (.ref z) >>= _) _ _ s;refine wpAny_bind (zri (A:=A.in1) hh D he hTI h1 h2 hl1 hl2 (by simp) λh' hx=>?_);show wpAny _ A.in1 (Builtin.Dict.addKeywords d [] >>= _) _ _ _;refine wpAny_bind (wpAny_pure ?_);refine wpAny_pure (hR _ ?_ (λb o _ c1 c2 c3 c4 e=>hx b o c1 c2 c3 c4 e) ⟨h',s.toks,rfl⟩);rw[XJ (by lia)]at hD;obtain⟨o,es,ep,ho,rest⟩:=hD;exact⟨o,es,ep,hx _ _ hdz hdTO hd1 hd2 ho,rest⟩
 | succ k ih=>
  intro i s tn hk hi he hTI h1 h2 hl1 hl2 hD hR;have hlt:i<xs.size:=by lia
  have hly:i<ys.size:=by lia
  have hlk:i<ks.length:=by lia
  refine codeAny_builtin F.zbH ?_;rw[Around.under_plainId F.zaG _];show wpAny _ A.in1 (pyNext (.ref z) >>= _) _ _ s;refine wpAny_bind (zoP D he hTI h1 h2 hl1 hl2 (YO hlt) (YO hly) λh' he' h1' h2' hT hsz hk'=>?_);show wpAny _ A.in1 (holding [Value.ref s.heap.objs.size] _ >>= _) _ _ _;refine wpAny_bind (wpAny_holding ?_);refine wpAny_bind (wpAny_tryCatch ?_);unfold Builtin.Dict.pairItems;refine wpAny_bind (wpAny_typeOf (T:="tuple") ⟨_,hT,rfl⟩ ?_);simp only[show(Value.type "tuple" == Value.type "list")=false from by decide,show(Value.type "tuple" == Value.type "tuple")=true from by decide,Bool.false_or,if_true];refine wpAny_bind (wpAny_seqItems hT rfl (wpAny_pure ?_));show wpAny _ A.in1 (holding [xs[i],ys[i]] (dictSet d xs[i] ys[i])) _ _ _;have hD':h'.DictOf knd d ((ks.zip ys.toList).take i):=by
   obtain⟨o,es,ep,ho,rest⟩:=hD;exact⟨o,es,ep,hk' _ _ hdz hdTO hd1 hd2 ho,rest⟩
  refine wpAny_holding (wpAny_dictSet_pairs (knd:=knd) (k:=ks[i]) (hkey i _ _ (Xf hlk) (YO hlt)) (s:={ s with heap:=h' }) hD' (λh'' hD2 hs=>?_) (by rw[XR];lia));refine wpAny_pure ⟨plainId_quiet F.zaG _,?_⟩;have hnew:stored ((ks.zip ys.toList).take i) ks[i] ys[i]=(ks.zip ys.toList).take (i+1):=by
   have hno:¬ (((ks.zip ys.toList).take i).any λkv=>decide (kv.1=ks[i]))=true:=by
    intro h;rw[List.any_eq_true]at h;obtain⟨kv,hm,hv⟩:=h;have hv':kv.1=ks[i]:=of_decide_eq_true hv;obtain⟨j,hj,e⟩:=List.mem_take_iff_getElem.mp hm;rw[List.getElem_zip]at e;have e1:ks[j]'(by lia)=ks[i]:=by rw[<- hv',<- e]
    have:=(List.getElem?_inj (j:=j) hlk nd).mp (by rw[Xf hlk,Xf (show j<ks.length by lia),e1]);lia
   unfold stored;rw[if_neg hno,List.take_succ,Xf (by lia),List.getElem_zip];simp
  rw[hnew]at hD2;have hkeep:∀b o,b≠d->h'.get? b=some o->h''.get? b=some o:=λb o hb x=>(hs.2 b hb).trans x;refine ih (i+1) _ _ (by lia) hlt ?_ (hkeep _ _ hdTI.symm (hk' TI _ D.TIz D.TITO D.TIi1 D.TIi2 hTI)) (h1'.at λo x=>hkeep _ _ hd1.symm x) (h2'.at λo x=>hkeep _ _ hd2.symm x) ((hl1.at λo x=>hkeep _ _ hdl1.symm (hk' l1 o D.l1z D.l1TO D.l1i1 D.l1i2 x))) ((hl2.at λo x=>hkeep _ _ hdl2.symm (hk' l2 o D.l2z D.l2TO D.l2i1 D.l2i2 x))) hD2 λs' hD3 hk3 e3=>hR s' hD3 (λb o b1 b2 b3 b4 b5 x=>hk3 b o b1 b2 b3 b4 b5 (hkeep b o b1 (hk' b o b2 b3 b4 b5 x))) e3;rcases he' with ⟨he',a,b,hp⟩ | ⟨a,b,oa,he',ha,n1,n2,n3⟩
  ·exact .inl ⟨hkeep _ _ hdz.symm he',a,b,hkeep _ _ hdTO.symm hp⟩
  ·by_cases had:a=d
   ·subst had;obtain⟨o,es,ep,ho,rest⟩:=hD2;exact .inr ⟨a,b,o,hkeep _ _ hdz.symm he',ho,n1,n2,n3⟩
   ·exact .inr ⟨a,b,oa,hkeep _ _ hdz.symm he',hkeep _ _ had ha,n1,n2,n3⟩
variable {s:Shared}
theorem zne {z TI TO i1 i2 l1 l2:Addr}{xs ys:Array Value}{Q:Value->Shared->Prop}(hh:A.handled=none)(D:ZipApart z TI TO i1 i2 l1 l2)(ks:List K)(hkl:ks.length=xs.size)(hkey:∀(i:Nat)(k:K)(x:Value),ks[i]? = some k->xs[i]? = some x->knd.is k x=true)(nd:ks.Nodup)(hlen:xs.size=ys.size)
  (he:IsZip s.heap z TI TO .none) (hTO:IsPair s.heap TO .none .none) (hTI:IsPair s.heap TI (.ref i1) (.ref i2)) (h1:s.heap.IsListIter i1 l1 0) (h2:s.heap.IsListIter i2 l2 0) (hl1:s.heap.IsList l1 xs) (hl2:s.heap.IsList l2 ys) (hz:xs.size<=sizeLine)
  (h:∀h' tk,h'.DictOf knd s.heap.objs.size (ks.zip ys.toList)->(∀b o,b≠z->b≠TO->b≠i1->b≠i2->s.heap.get? b=some o->h'.get? b=some o)->Q (.ref s.heap.objs.size) { s with heap:=h',toks:=tk }) :
  wpAny (model prog w) A (call (.type "dict") [.ref z]) Q E s:=by
 refine callType_codes (Q₁:=λobj s₁=>obj=.ref s.heap.objs.size/\s₁={ s with heap:=s.heap.push { cls:=.type "dict",data:=.dict #[] } }) F.kt_called_dict (F.kt_typeCall_dict_1 _) F.entry_dict_init (kt_code_dict_new _ ⟨rfl,rfl⟩) ?_;rintro obj s₁ ⟨rfl,rfl⟩;have hnew:(s.heap.push { cls:=.type "dict",data:=.dict #[] }).DictOf knd s.heap.objs.size []:=Heap.DictOf.new s.heap;have lz:z<s.heap.objs.size:=Xm he;have lTI:TI<s.heap.objs.size:=Xm hTI;have lTO:TO<s.heap.objs.size:=Xm hTO;have l1':i1<s.heap.objs.size:=by obtain⟨_,x,_⟩:=h1;exact Xm x
 have l2':i2<s.heap.objs.size:=by obtain⟨_,x,_⟩:=h2;exact Xm x
 have ll1:l1<s.heap.objs.size:=by obtain⟨_,x,_⟩:=hl1;exact Xm x
 have ll2:l2<s.heap.objs.size:=by obtain⟨_,x,_⟩:=hl2;exact Xm x
 refine⟨hnew.typeIs,F.args_dict_init_2 _ _,?_⟩;unfold Builtin.«dict.__init__»;refine wpAny_bind ?_;unfold Builtin.Dict.selfAndRest;refine wpAny_bind (wpAny_notOrdered_dict hnew.typeIs ?_);show wpAny _ _ (pure (s.heap.objs.size,[Value.ref z])) _ _ _;refine wpAny_pure ?_;show wpAny _ _ (Builtin.Dict.updateFrom "dict.__init__" s.heap.objs.size (.ref z) [] .none) _ _ _;unfold Builtin.Dict.updateFrom;have he1:IsZip (s.heap.push { cls:=.type "dict",data:=.dict #[] }) z TI TO .none:=Xe _ he;refine wpAny_bind (wpAny_typeOf (T:="zip") ⟨_,he1,rfl⟩ ?_);rw[if_pos (by decide)];refine wpAny_bind (znc (s:={ s with heap:=s.heap.push { cls:=.type "dict",data:=.dict #[] } }) he1 hh λh' tk hk=>?_);rw[if_pos (show(none:Option Value).isNone=true from rfl)];refine wpAny_bind (wpAny_rule ?_);have kp:∀b o,s.heap.get? b=some o->h'.get? b=some o:=λb o x=>hk b o (Xe _ x);refine wpAny_bind (wpAny_pyIter_zip (s:={ s with heap:=h',toks:=tk }) (kp _ _ he) ?_);refine wpAny_pure ⟨plainId_quiet F.zaG _,?_⟩;have hD:h'.DictOf knd s.heap.objs.size []:=by
  obtain⟨o,es,ep,ho,rest⟩:=hnew;exact⟨o,es,ep,hk _ _ ho,rest⟩
 refine znd (knd:=knd) (A:=A.in1) hh s.heap.objs.size z TI TO i1 i2 l1 l2 D xs ys ks hkl hkey nd hlen (Yg lz) (Yg lTI) (Yg lTO) (Yg l1') (Yg l2') (Yg ll1) (Yg ll2) hz xs.size 0 _ _ (by simp) (Yh _)
  (.inl ⟨kp _ _ he,_,_,kp _ _ hTO⟩) (kp _ _ hTI) (h1.at λo x=>kp _ _ x) (h2.at λo x=>kp _ _ x) (hl1.at λo x=>kp _ _ x) (hl2.at λo x=>kp _ _ x) (by simpa using hD) ?_
 rintro s' hD2 hk2 ⟨h3,tk3,rfl⟩;refine⟨rfl,?_⟩;exact h h3 tk3 hD2 λb o b1 b2 b3 b4 x=>hk2 b o (Xx (Xm x)) b1 b2 b3 b4 (kp b o x)
end
end _Z
namespace _P
open PySem PySem.Spec _L
open PyProof.Rows hiding St
theorem zrj {ks:List Key}{ys:List V}{its:List Value}(r:Vals ys its):KV (ks.zip ys) (ks.zip its):=by
 induction r generalizing ks with
 | nil=>cases ks<;>exact .nil
 | cons h1 h2 ih=>
  cases ks with
  | nil=>exact .nil
  | cons k ks=>exact .cons ⟨rfl,h1⟩ ih
theorem zoQ {P:Program}{w:World}{ks:List Key}{its:List Value}(r:Vals (ks.map kV) its)(i:Nat)(k:Key)(x:Value)(h1:ks[i]? = some k)(h2:its[i]? = some x):(zaK P w).is k x=true:=by
 obtain⟨u,hu,ru⟩:=r.get (i:=i) (x:=kV k) (by rw[Xi,h1];rfl);rw[h2]at hu;cases hu;cases k with
 | inl n=>obtain⟨t,rfl⟩:=ru;exact zfu _ _ _ _
 | inr n=>obtain⟨t,rfl⟩:=ru;exact zfv _ _ _ _
section
variable {X:Cx}{e e2:Expr}{t:TA}{p p2 pos pos2:Pos}
noncomputable def zlj (K:Xa)(t:TA):TE:=λσ H Q=>t σ H λvs H1=>∃(a b:Addr)(ks:List Key)(ys:List V),vs=[.ref a,.ref b]/\SqL K H1 a (ks.map kV)/\SqL K H1 b ys/\ks.length=ys.length/\ks.Nodup/\∀l,H1 l=none->Q (.ref l) (upd H1 l (.dK (ks.zip ys)))
theorem zjk (hc:X.calm=true)(hg:Gl X "dict") (hm:X.mg "dict" = none) (hg2:Gl X "zip") (hm2:X.mg "zip" = none) (ha:PA X [e,e2] t)
  (hs1:autoParam (starEach [e,e2] X.env=(false,eval e X.env)::starEach [e2] X.env) aU0) (hpl1:autoParam ((backTo pos2 (starEach [e2] X.env)).any (·.1)=false) aU0)
  (hs2:autoParam (starEach [Expr.Call (.Name "zip" p2) [e,e2] [] pos2] X.env=(false,eval (Expr.Call (.Name "zip" p2) [e,e2] [] pos2) X.env)::starEach [] X.env) aU0) (hpl2:autoParam ((backTo pos (starEach [] X.env)).any (·.1)=false) aU0) :
  PE X (.Call (.Name "dict" p) [.Call (.Name "zip" p2) [e,e2] [] pos2] [] pos) (zlj X.K t):=by
 intro pins s σ H Q I h;refine wpAny_Call_Name_kw (zfe I hg hm zuc ?_ (by decide) (by decide));refine PyProof.Rows.callWith_type1 ?_ hs2 hpl2;rw[hs2];show wpAny _ _ (spliced ((false,eval _ X.env)::backTo pos (starEach [] X.env))) _ _ s;refine Calls.spliced_cons (wpAny_Call_Name_kw (zfe I hg2 hm2 zil ?_ (by decide) (by decide)));refine PyProof.Rows.callWith_type1 (thn (ha pos2 pins s σ H _ I h) λus s1 q133q=>?_) hs1 hpl1;obtain⟨vs,H1,I1,r1,a,b,ks,ys,ev,hq,hq2,hly,nd,q⟩:=q133q;subst ev;obtain⟨u1,u2,rfl,r2,r3⟩:=vals2 r1;obtain rfl:u1=Value.ref a:=r2;obtain rfl:u2=Value.ref b:=r3;obtain⟨its,r,pl,hz⟩:=I1.list hq;obtain⟨its2,r',pl2,hz2⟩:=I1.list hq2;have ha':@LT.lt Nat _ a s1.heap.objs.size:=by obtain⟨o,ho,_⟩:=pl.isList;exact Xm ho
 have hb':@LT.lt Nat _ b s1.heap.objs.size:=by obtain⟨o,ho,_⟩:=pl2.isList;exact Xm ho
 refine call_zip_2 pl.isList pl2.isList λh' g1 g2 g3 g4 g5 gz gk=>Calls.spliced_nil ?_;have D:ZipApart (s1.heap.objs.size+4) (s1.heap.objs.size+2) (s1.heap.objs.size+3) s1.heap.objs.size (s1.heap.objs.size+1) a b:=by constructor<;>first | exact Xx (by lia) | exact Yg (by lia)
 have hlen:=r.length;have hlen2:=r'.length;rw[Xb]at hlen;refine _Z.zne (knd:=zaK X.prog X.w) (s:={ s1 with heap:=h' }) (I1.ok.hd hc) D ks (by simpa using hlen) (λi k x e1 e2=>zoQ r i k x e1 (by simpa using e2)) nd (by simp;lia) g1 g3 g2 g4 g5 (pl.isList.at λo x=>gk a o x) (pl2.isList.at λo x=>gk b o x) (by simp;rw[Xb]at hz;lia) λh2 tk hD hk2=>?_;have kp:∀c o,s1.heap.get? c=some o->h2.get? c=some o:=λc o x=>by
  have hl:@LT.lt Nat _ c s1.heap.objs.size:=Xm x;exact hk2 c o (Xx (by lia)) (Xx (by lia)) (Xx (by lia)) (Xx (by lia)) (gk c o x)
 have hfr:s1.heap.objs.size<=h'.objs.size:=by have z:@LT.lt Nat _ (s1.heap.objs.size+4) h'.objs.size:=Xm g1;lia
 refine⟨.ref h'.objs.size,upd H1 h'.objs.size (.dK (ks.zip ys)),I1.laid (t':=tk) kp hfr (zpp (by rw[YD];rw[Xb]at hz;lia) ?_ (zrj r') ?_),rfl,q _ (I1.hok.fresh hfr)⟩
 ·have hne:h'.objs.size≠sysModules:=Yg (XD I1.big hfr);simpa using hne
 ·simpa using hD
end
theorem zit {K:Xa}{Fz:FZ}{H:Hp}:∀ {ks:List Key}{xs:List V},DenL K Fz H (ks.map keyP) xs->xs=ks.map kV
 | [],xs,h=>by simpa only[List.map_nil,DenL]using h
 | k::ks,xs,h=>by
  simp only[Xy,DenL]at h;obtain⟨x,r,rfl,h1,h2⟩:=h;rw[zit h2,Xy]
  congr 1
  cases k<;>simpa only[keyP,kV,Den]using h1
noncomputable def zaI (t:TPA):TPE:=λρ Q=>t ρ λops=>noOwn ops=true/\∃(ks:List Key)(es:List PV),ops.map (·.1)=[.lst (ks.map keyP),.lst es]/\ks.length=es.length/\ks.Nodup/\Q (.dK ks es) .new
section
variable {X:Cx}{e e2:Expr}{t:TPA}{p p2 pos pos2:Pos}
theorem zjl (hc:X.calm=true)(hg:Gl X "dict") (hm:X.mg "dict" = none) (hg2:Gl X "zip") (hm2:X.mg "zip" = none) (ha:PuA X [e,e2] t)
  (hs1:autoParam (starEach [e,e2] X.env=(false,eval e X.env)::starEach [e2] X.env) aU0) (hpl1:autoParam ((backTo pos2 (starEach [e2] X.env)).any (·.1)=false) aU0)
  (hs2:autoParam (starEach [Expr.Call (.Name "zip" p2) [e,e2] [] pos2] X.env=(false,eval (Expr.Call (.Name "zip" p2) [e,e2] [] pos2) X.env)::starEach [] X.env) aU0) (hpl2:autoParam ((backTo pos (starEach [] X.env)).any (·.1)=false) aU0) :
  PuE X (.Call (.Name "dict" p) [.Call (.Name "zip" p2) [e,e2] [] pos2] [] pos) (zaI t) where
 mono ρ Q Q' m h:=ha.mono ρ _ _ (λops q134q=>by obtain⟨e1,ks,es,e,e4,e5,q⟩:=q134q;exact⟨e1,ks,es,e,e4,e5,m _ _ q⟩) h
 run:=PE.weak (zjk hc hg hm hg2 hm2 ha.run hs1 hpl1 hs2 hpl2) λσ H Q h=>by
  obtain⟨ρ,Fz,R,h⟩:=h;refine⟨ρ,Fz,R,ha.mono ρ _ _ (λops q vs F1 H1 x o=>?_) h⟩;obtain⟨hn,ks,es,eo,hle,nd,q⟩:=q;obtain⟨F2,x2,s2,d2⟩:=o.frozen x hn;rw[eo]at d2;simp only[DenL]at d2;obtain⟨v1,r1,rfl,d1,v2,r2,rfl,d3,rfl⟩:=d2;simp only[Den]at d1 d3;obtain⟨a,xs,rfl,a1,a2⟩:=d1;obtain⟨b,ys,rfl,b1,b2⟩:=d3;have exs:=zit a2;subst exs;have sq:∀ {c:Addr} {zs:List V},((F2 c/\Rd H1 c (.lst zs))\/KX X.K c zs)->SqL X.K H1 c zs:=λh=>h.elim (λh=>.inl h.2) KX.sq;refine⟨a,b,ks,ys,rfl,sq a1,sq b1,by rw[hle,b2.length],nd,λl hl=>q _ F2 _ ⟨x2.laid hl,l,rfl,x2.same.free hl,λz=>x2.al l z hl,ys,zaj,by rw[hle,b2.length],?_⟩⟩;exact DenL.mono (.of ((Same.refl H1).upd' hl)) (λ_ h=>h) _ _ b2
end
end _P
namespace _L
open PySem PySem.Spec PyProof.Rows
noncomputable def ItI (d:Addr)(o:Obj)(kvs:List (Key×V)):It:=
 ⟨λi H=>H d=some (.frz o (.dK kvs))/\i<kvs.length,λi H x H'=>∃p kv,kvs[i]? = some kv/\x=.ref p/\H p=none/\H'=upd H p (.tup [kV kv.1,kv.2]),λi H=>H d=some (.frz o (.dK kvs))/\kvs.length<=i⟩
theorem zdY:entryFor table "dict_itemiterator.__iter__" = some Builtin.«dict_keyiterator.__iter__»:=
 entryFor_alias (id':="dict_keyiterator.__iter__") (by kernel_rfl) rfl (by decide +kernel) (by kernel_rfl)
theorem zhm {prog:Program}{w:World}{A:Around}{E:Value->Shared->Prop}{s:Shared}{it d:Addr}{i n ep:Nat}{ok ov:Value}{Q:Value->Shared->Prop}(hit:IsItemIter s.heap it d i n ep ok ov)(h:Q (.ref it) s):wpAny (model prog w) A (pyIter (.ref it)) Q E s:=by
 have hT:s.TypeIs (.ref it) "dict_itemiterator":=⟨_,hit,rfl⟩;refine wpAny_pyIter_slot hT PySem.F.slot_dict_itemiterator_iter (wpAny_call_entry PySem.F.slot_dict_itemiterator_iter hT zdY ?_ (PySem.F.args_dict_itemiterator_iter_1 _));show wpAny _ _ (ret (.ref it)) _ _ s;exact wpAny_pure ⟨_,rfl,"dict_itemiterator",_,hT,PySem.F.slot_dict_itemiterator_next.lookup,h⟩
theorem zlk {P:Program}{w:World}{K:Xa}{elts:List Expr}{x1:Nat}{pos:Pos}(d it:Addr)(o:Obj)(kvs:List (Key×V)){es:Array DictEntry}{ep:Nat}(hd:o.data=.dict es ep) :
  Turn P w K (.Tuple elts x1 pos) (ItI d o kvs) [it] it (λi h=>∃ok ov,IsItemIter h it d i kvs.length ep ok ov) where
 mem:=by simp
 obj:=λi h st b hb=>by
  have e:b=it:=by simpa using hb
  subst e;obtain⟨ok,ov,st⟩:=st;exact⟨_,st,λv z=>by cases z⟩
 keep:=λi h h' st k=>by
  obtain⟨ok,ov,st⟩:=st;exact⟨ok,ov,k it (by simp) _ st⟩
 item:=by
  intro X hP hw hK hc i pins s σ H E I hf st hg;subst hP hw hK;obtain⟨hq,hi⟩:=hg;obtain⟨ok,ov,st⟩:=st;obtain⟨hs,vs,r,hm⟩:=zmI I hq hd;have hl:kvs.length=vs.length:=KV.length r;obtain⟨u,hu,ru⟩:=zsJ r (Xf hi);rw[hl]at st;have hfr:H s.heap.objs.size=none:=I.hok.fresh (Xg _);have lt:it<s.heap.objs.size:=Xm st;refine wpAny_pyNext_items_item st hm hu λkey h' hk st' ht hsz kp=>⟨.ref s.heap.objs.size,rfl,?_⟩;refine wpAny_letOwnedTupleGo_items st' λhp2 k1 ks=>?_;replace ks:Yf it h' hp2:=ks;have I1:=I.laid (a:=s.heap.objs.size) (o:=.tup [kV kvs[i].1,kvs[i].2]) (h':=s.heap.push { cls:=.type "tuple",data:=.seq #[key,u] }) (t':=s.toks) (λb u e=>Xe _ e) (Xg _)
   ⟨by show 2<=sizeLine;decide,[key,u],.cons (zqQ hk) (.cons ru .nil),zcF.new _ _⟩
  have hfp:∀c∈[it],FpOk X pins (upd H s.heap.objs.size (.tup [kV kvs[i].1,kvs[i].2])) c:=λc hc=>by
   obtain⟨f0,fr⟩:=hf c hc;rw[Xw]at hc;subst hc;exact⟨by rw[zah (Xx lt)];exact f0,fr⟩
  have I2:=I1.zhf (h':=hp2) (t':=s.toks) (ch:=[it]) (λc o hc ec=>by
   have n1:c≠it:=λe=>hc (by simp[e]);refine(ks.2 c n1).trans ?_;rcases Heap.get?_push_cases ec with ⟨rfl,rfl⟩ | ec
   ·exact ht
   ·exact kp c o n1 ec) hfp
  exact⟨.ref s.heap.objs.size,_,I2,rfl,⟨_,kvs[i],Xf hi,rfl,hfr,rfl⟩,⟨key,u,by rw[hl];exact k1⟩,λc hc=>(hfp c hc).1⟩
 done:=by
  intro X hP hw hK hc i pins s σ H E I hf st hg;subst hP hw hK;obtain⟨hq,hi⟩:=hg;obtain⟨ok,ov,st⟩:=st;obtain⟨hs,vs,r,hm⟩:=zmI I hq hd;have hl:kvs.length=vs.length:=KV.length r;obtain⟨f0,f1,f2,f3,f4,f5⟩:=hf it (by simp);rw[hl]at st;exact wpAny_pyNext_items_end (I.ok.hd hc) st hm (XC (by lia)) λh' eb=>⟨rfl,I.turned (t':=s.toks) (λb o hb e=>eb b o hb e) f0 f1 f3 f4 f5⟩
 self:=λ_ _ _ _ _ st h=>by obtain⟨_,_,st⟩:=st;exact zhm st h
section
variable {X:Cx}{l:Expr}{td:TE}{apos cpos:Pos}{elts:List Expr}{x1:Nat}{tpos:Pos}
theorem zoR (ho:PE X l td)(hbase:autoParam (attributeBase l "items" X.env (eval l X.env)=eval l X.env) aU0) (hline:autoParam ((apos.endLine == cpos.line)=true) aU0):PI X (.Tuple elts x1 tpos) (.Call (.Attribute l "items" apos) [] [] cpos) (iD X ItI td):=by
 intro pins s σ H R I h;refine wpAny_Call_method0_late hbase hline (thn (ho pins s σ H _ I h) λv s1 q135q=>?_);obtain⟨x,H1,I1,r1,q1⟩:=q135q;obtain⟨d,kvs,e,q1⟩:=q1;subst e;cases r1;obtain⟨o,es,ep,H2,hd,I2,e2,q2⟩:=zsK I1 q1;obtain⟨hs,vs,r,hm⟩:=zmI I2 e2 hd;have hl:kvs.length=vs.length:=KV.length r;obtain⟨o',es',ho',hc',_⟩:=id hm;refine⟨"dict","dict.items",PySem.F.plainAttrs_dict,PySem.F.slot_dict_items,PySem.F.type_dict_items,hm.dictOf.typeIs,λa e=>by cases e;exact⟨o',ho',hc'.2.1⟩,?_⟩;refine Calls.callWith_builtin rfl (PySem.evalArgs_none ?_);refine call_meetsIn PySem.F.slot_dict_items hm.dictOf.typeIs PySem.F.entry_dict_items (PySem.F.args_dict_items_1 _) (meets_dict_items (zaK X.prog X.w) d hs) ⟨⟨vs,hm.dictOf⟩,?_⟩;have I3:Inv X pins σ H2 { s1 with heap:=s1.heap.push { cls:=.type "dict_items",data:=.fields #[.ref d] } }:=I2.kept (t':=s1.toks) λb o e=>Xe _ e;refine wpAny_pyIter_items (knd:=zaK X.prog X.w) ⟨_,Xv _ rfl,rfl,rfl⟩ (hm.push _) ?_;refine⟨_,[_],_,_,H2,rfl,I3.kept (t':=s1.toks) λb o e=>Xe _ e,zlk d _ o kvs hd,⟨.none,.none,by rw[hl];exact Xv _ rfl⟩,λb hb=>?_,q2⟩;rw[Xw.mp hb];exact I3.fpOk (Xg _) (I3.hok.fresh (Xg _))
end
end _L
namespace _P
open PySem PySem.Spec _L
open PyProof.Rows hiding St
noncomputable def iItm (te:TPE):TPI:=λρ Q=>te ρ λd k=>∃ks ds,d=.dK ks ds/\Q (zipP (ks.map keyP) ds) (isOwn k)
theorem zgE {K:Xa}{Fz:FZ}{d:Addr}{o:Obj}{ks:List Key}{ds:List PV}{xs:List V}{H:Hp}(hl:ks.length=xs.length)(f:Fz d)(e:H d=some (.frz o (.dK (ks.zip xs))))(hd:DenL K Fz H ds xs)(ow:Bool)
  (hst:∀H2,(Same H H2\/(ow=false/\zkY Fz H H2))->H2 d=some (.frz o (.dK (ks.zip xs)))/\Keep Fz H H2):Walk K Fz ow (ItI d o (ks.zip xs)) (zipP (ks.map keyP) ds) H:=λH2 hH i=>by
 obtain⟨e2,kp⟩:=hst H2 hH;have g3:DenL K Fz H2 ds xs:=DenL.mono kp (λ_ h=>h) _ _ hd;have hlen:=g3.length;have zl:(ks.zip xs).length=xs.length:=by rw[YD];lia
 have zp:(zipP (ks.map keyP) ds).length=xs.length:=by rw[zcS,Xb];lia
 refine⟨λc hc=>?_,λhi=>⟨e2,by lia⟩⟩;obtain⟨x,y,hx,hy,rfl⟩:=zcR hc;rw[Xi]at hx;cases hk:ks[i]? with
 | none=>rw[hk]at hx;cases hx
 | some k=>
  rw[hk]at hx;cases hx;obtain⟨v,q1,q2⟩:=g3.get hy;have hi:i<xs.length:=(Xd.mp q1).1;refine⟨⟨e2,by lia⟩,λx H3 q136q=>?_⟩;obtain⟨p,kv,y1,y2,y3,y4⟩:=q136q;have z1:=(zip_get y1).1;have z2:=(zip_get y1).2;rw[hk]at z1;cases z1;rw[q1]at z2;cases z2;subst y2 y4;have sm:Same H2 (upd H2 p (.tup [kV kv.1,kv.2])):=(Same.refl H2).upd' y3;refine⟨sm,?_⟩;simp only[Den];exact⟨p,_,rfl,zaj,DenL.cons (Den.mono (.of sm) (λ_ h=>h) _ _ (zqR _)) (DenL.cons (Den.mono (.of sm) (λ_ h=>h) _ _ q2) DenL.nil)⟩
structure PuII (X:Cx)(tg iter:Expr)(te:TPE):Prop where
 mono:∀ρ Q Q',(∀d k,Q d k->Q' d k)->te ρ Q->te ρ Q'
 run:PI X tg iter (iD X ItI (lift X.K te))
theorem zll {X:Cx}{e:Expr}{te:TPE}{apos cpos tpos:Pos}{elts:List Expr}{x1:Nat}(he:PuE X e te)(hbase:autoParam (attributeBase e "items" X.env (eval e X.env)=eval e X.env) aU0) (hline:autoParam ((apos.endLine == cpos.line)=true) aU0):PuII X (.Tuple elts x1 tpos) (.Call (.Attribute e "items" apos) [] [] cpos) te:=⟨he.mono,zoR he.run hbase hline⟩
theorem znf {X:Cx}{tg iter:Expr}{te:TPE}(h:PuII X tg iter te):∀ρ Q Q',(∀its o,Q its o->Q' its o)->iItm te ρ Q->iItm te ρ Q':=λρ Q Q' m q=>h.mono ρ _ _ (λd k q137q=>by obtain⟨ks,ds,e,q⟩:=q137q;exact⟨ks,ds,e,m _ _ q⟩) q
section
variable {X:Cx}{tg iter:Expr}{body:List Stmt}{te:TPE}{g:TPG}{tb:TPS}{pos:Pos}
theorem zoS (hc:X.calm=true)(hp:PassesOwn (model X.prog X.w) X.A X.env X.xe)(hi:PuII X tg iter te)(hg:PuG X tg g)(hb:PuSs X body tb)(hs:autoParam (∀x,foldedSetIterable iter X.env x=pure x) aU3):PuS X (.For tg iter body [] pos) (pFor (iItm te) g tb) where
 mono:=zie (znf hi) hg.mono hb.mono
 run:=PS.weak (zpl hp hc hi.run hg.run hb.run hs).star λD σ H h=>by
  obtain⟨ρ,Fz,R,h⟩:=h;refine⟨ρ,Fz,R,hi.mono ρ _ _ (λd k q v Fz1 H1 p=>?_) h⟩;obtain⟨ks,ds,rfl,ho,Iv,h0,hstep,hdone⟩:=q;have hk:k=.frz\/k=.new:=by
   cases k with
   | frz=>exact .inl rfl
   | new=>exact .inr rfl
   | own j=>cases ho
  obtain⟨F2,x2,s2,dn⟩:=p.frozen hk;simp only[Den]at dn;obtain⟨a,xs,rfl,fa,hr,hl,hd⟩:=dn;have R2:=R.ext x2;have no:¬ zbh ρ σ a:=λ⟨i,e,h1,h2⟩=>by
   obtain⟨b,q1,q2,_⟩:=R2.own i e h1;rw[h2]at q1;cases q1;exact q2 fa
  refine⟨a,ks.zip xs,rfl,?_⟩;rcases hr with hr | ⟨o,hr⟩
  ·refine .inl ⟨hr,λnf o=>?_⟩;have kf:=zfM (Fz:=F2) (o:=o) hr;have R3:Rel X.K F2 ρ σ (upd H1 a (.frz o (.dK (ks.zip xs)))):=R2.freeze fa hr;refine zhc hg.mono hb.mono R3 (zgE hl fa zaj (DenL.mono kf (λ_ h=>h) _ _ hd) false λH2 hH=>?_) Iv h0 hstep ?_ hdone
   ·rcases hH with hH | ⟨_,hH⟩
    ·exact⟨hH _ _ zaj,.of hH⟩
    ·exact⟨hH _ _ zaj (.inr trivial),.mk' hH⟩
   ·have tr:∀ {F' H'},Step ρ σ F2 (upd H1 a (.frz o (.dK (ks.zip xs)))) F' H'->H' a=some (.frz o (.dK (ks.zip xs)))/\F' a/\Step ρ σ Fz H F' (zcY a H'):=λ{F' H'} s'=>
     ⟨s'.keep _ _ zaj no,s'.sub _ fa,(Step.of x2).trans (zaC.refl ρ σ H) (s'.thaw hr no)⟩
    have ow:∀ {ρ' σ'},zaC ρ σ (upd H1 a (.frz o (.dK (ks.zip xs)))) ρ' σ'->zaC ρ σ H ρ' σ':=λ{ρ' σ'} o' b hb=>by
     rcases o' b hb with z | z
     ·exact .inl z
     ·by_cases hba:b=a
      ·subst hba;rw[zaj]at z;cases z
      ·rw[zah hba]at z;exact .inr (x2.same.free z)
    refine⟨λρ' q σ' F' H' s' o' R'=>?_,λe ke q v F' H' s' al' r'=>?_,λρ' q σ' F' H' s' o' R'=>?_,λρ' q σ' F' H' s' o' R'=>?_⟩
    ·obtain⟨t1,t2,t3⟩:=tr s';exact .inr ⟨a,nf,q σ' F' _ t3 (ow o') (R'.thaw t2 t1)⟩
    ·obtain⟨t1,t2,t3⟩:=tr s';have kp:=zik (F':=F') t1;refine .inr ⟨a,nf,q v F' _ t3 (λb hb=>?_) ?_⟩
     ·rw[zdT t1];by_cases hba:b=a
      ·subst hba;rw[zaj];exact λz=>nomatch z
      ·rw[zah hba];exact al' b hb
     ·cases ke with
      | frz=>exact Den.mono kp (λ_ h=>h) _ _ r'
      | own j=>exact r'
      | new=>
       obtain⟨c,e,nfc,oc,w⟩:=r';have hca:c≠a:=λz=>by subst z;exact nfc t2
       refine⟨c,e,nfc,oc.mono kp (λ_ h=>h) (λw hw=>by rw[zdT t1,zah hca];exact hw),?_⟩;rcases w with w | w
       ·exact .inl w
       ·rw[zah hca]at w;exact .inr (x2.same.free w)
    ·obtain⟨t1,t2,t3⟩:=tr s';exact .inr ⟨a,nf,q σ' F' _ t3 (ow o') (R'.thaw t2 t1)⟩
    ·obtain⟨t1,t2,t3⟩:=tr s';exact .inr ⟨a,nf,q σ' F' _ t3 (ow o') (R'.thaw t2 t1)⟩
  ·refine .inr ⟨o,hr,zhc hg.mono hb.mono R2 (zgE hl fa hr hd false λH2 hH=>?_) Iv h0 hstep ?_ hdone⟩
   ·rcases hH with hH | ⟨_,hH⟩
    ·exact⟨hH _ _ hr,.of hH⟩
    ·exact⟨hH _ _ hr (.inr trivial),.mk' hH⟩
   ·have le:=zcf (K:=X.K) (D:=D) (Step.of x2) (zaC.refl ρ σ H);exact⟨λρ' q σ' F' H' s' o' R'=>.inl (le.nx ρ' q σ' F' H' s' o' R'),λe ke q v F' H' s' al' r'=>.inl (le.rt e ke q v F' H' s' al' r'),λρ' q σ' F' H' s' o' R'=>.inl (le.bk ρ' q σ' F' H' s' o' R'),λρ' q σ' F' H' s' o' R'=>.inl (le.ct ρ' q σ' F' H' s' o' R')⟩
end
end _P
set_option maxHeartbeats 1000000
namespace _M
noncomputable def sm:Nat->(Nat->Int)->Int
 | 0,_=>0
 | n+1,f=>sm n f+f n
theorem zau:∀ {n:Nat}{f g:Nat->Int},(∀k,k<n->f k=g k)->sm n f=sm n g
 | 0,_,_,_=>rfl
 | n+1,f,g,h=>by rw[sm,sm,zau λk hk=>h k (XS hk),h n (XQ n)]
theorem zcJ:∀ {n:Nat}{f g:Nat->Int}{a b:Int},sm n (λk=>a*f k+b*g k)=a*sm n f+b*sm n g
 | 0,_,_,_,_=>by simp[sm]
 | n+1,f,g,a,b=>by rw[sm,sm,sm,zcJ];grind
theorem zdr {n:Nat}{f:Nat->Int}(c:Int):c*sm n f=sm n λk=>c*f k:=by
 have:=zcJ (n:=n) (f:=f) (g:=f) (a:=c) (b:=0);rw[Int.zero_mul,Int.add_zero]at this;rw[<- this];exact zau λl _=>by lia
theorem zfT {n:Nat}{f:Nat->Int}(h:∀k,k<n->f k=0):sm n f=0:=by
 rw[zau h];induction n with
 | zero=>rfl
 | succ n ih=>rw[sm,ih (λk hk=>h k (XS hk))];rfl
theorem zcZ:∀ {n i:Nat}{f:Nat->Int},i<n->(∀k,k<n->k≠i->f k=0)->sm n f=f i
 | n+1,i,f,hi,h=>by
  rw[sm];by_cases e:i=n
  ·rw[zfT λk hk=>h k (XS hk) (by lia),e];lia
  ·rw[zcZ (i:=i) (by lia) λk hk=>h k (XS hk),h n (XQ n) (λz=>e z.symm)];lia
theorem zoT:∀ {n:Nat}{f:Nat->Int},(∀k,k<n->0<=f k)->0<=sm n f
 | 0,_,_=>Int.le_refl 0
 | n+1,f,h=>by
  have:=zoT λk hk=>h k (XS hk);have:=h n (XQ n);rw[sm];lia
theorem zng:∀ {n:Nat}{f:Nat->Int},0<sm n f->∃k,k<n/\0<f k
 | 0,_,h=>absurd h (Int.lt_irrefl 0)
 | n+1,f,h=>by
  by_cases e:0<f n
  ·exact⟨n,XQ n,e⟩
  ·rw[sm]at h;obtain⟨k,hk,h2⟩:=zng (n:=n) (f:=f) (by lia);exact⟨k,XS hk,h2⟩
theorem zkh {f:Nat->Nat->Int}(hf:∀k l,l<k->f k l = - f l (k-1)):∀n,sm (n+1) (λk=>sm n (f k))=0
 | 0=>rfl
 | n+1=>by
  have ih:=zkh hf n;have e1:sm (n+1) (λk=>sm (n+1) (f k))=sm (n+1) (λk=>sm n (f k))+sm (n+1) λk=>f k n:=by
   rw[show(λk=>sm (n+1) (f k))=λk=>1*sm n (f k)+1*f k n from funext λk=>by rw[sm];lia,zcJ];lia
  have e2:sm (n+1) (f (n+1))=sm (n+1) λk=>(-1)*f k n+0*f k n:=zau λk hk=>by rw[hf _ _ hk,Nat.add_sub_cancel];lia
  rw[sm,e1,ih,e2,zcJ];lia
noncomputable abbrev Mt:=Nat->Nat->Int
noncomputable def sg (k:Nat):Int:=if k % 2=0 then 1 else -1
theorem zrk (k:Nat):sg (k+1) = - sg k:=by unfold sg;split<;>split<;>lia
noncomputable def rm (k:Nat)(v:Nat->Int):Nat->Int:=λj=>if j<k then v j else v (j+1)
noncomputable def D:Nat->Mt->Int
 | 0,_=>1
 | n+1,B=>sm (n+1) λk=>sg k*B 0 k*D n λr=>rm k (B (r+1))
noncomputable def up (B:Mt)(r:Nat)(v:Nat->Int):Mt:=λs=>if s=r then v else B s
theorem zbI {B:Mt}{r:Nat}{v:Nat->Int}:up B r v r=v:=if_pos rfl
theorem zfm {B:Mt}{r s:Nat}{v:Nat->Int}(h:s≠r):up B r v s=B s:=if_neg h
theorem zug {B:Mt}{r:Nat}{u v:Nat->Int}:up (up B r u) r v=up B r v:=funext λs=>by unfold up;split<;>rfl
theorem zeY {B:Mt}{r s:Nat}{u v:Nat->Int}(h:r≠s):up (up B r u) s v=up (up B s v) r u:=funext λq=>by unfold up;split<;>split<;>first | rfl | lia
theorem zds {B:Mt}{r:Nat}:up B r (B r)=B:=funext λs=>by unfold up;split<;>simp_all
theorem zrl {B:Mt}{r k:Nat}{v:Nat->Int}:(λs=>rm k (up B (r+1) v (s+1)))=up (λs=>rm k (B (s+1))) r (rm k v):=funext λs=>by unfold up;simp only[Nat.add_right_cancel_iff];split<;>rfl
theorem znh {B:Mt}{k:Nat}{v:Nat->Int}:(λs=>rm k (up B 0 v (s+1)))=λs=>rm k (B (s+1)):=rfl
theorem zjm:∀ {n r:Nat}{B:Mt}{x y:Nat->Int}{a b:Int},r<n->D n (up B r λj=>a*x j+b*y j)=a*D n (up B r x)+b*D n (up B r y)
 | n+1,0,B,x,y,a,b,_=>by
  rw[D,D,D,<- zcJ];refine zau λk _=>?_;rw[znh,znh,znh,zbI,zbI,zbI];grind
 | n+1,r+1,B,x,y,a,b,h=>by
  rw[D,D,D,<- zcJ];refine zau λk _=>?_;have e:rm k (λj=>a*x j+b*y j)=λj=>a*rm k x j+b*rm k y j:=funext λj=>by unfold rm;split<;>rfl
  rw[zrl,zrl,zrl,e,zjm (Nat.lt_of_succ_lt_succ h)];show sg k*B 0 k*_=_*(sg k*B 0 k*_)+_*(sg k*B 0 k*_)
  grind
theorem zta {n r:Nat}{B:Mt}{x:Nat->Int}(c:Int)(hr:r<n):c*D n (up B r x)=D n (up B r λj=>c*x j):=by
 have:=zjm (B:=B) (x:=x) (y:=x) (a:=c) (b:=0) hr;rw[Int.zero_mul,Int.add_zero]at this;rw[<- this];congr 2;funext j;lia
theorem zhn:∀ {n:Nat}{B C:Mt},(∀r k,r<n->k<n->B r k=C r k)->D n B=D n C
 | 0,_,_,_=>rfl
 | n+1,B,C,h=>by
  rw[D,D];refine zau λk hk=>?_;rw[h 0 k (Nat.succ_pos n) hk,zhn λr j hr hj=>?_];unfold rm;split
  ·exact h _ _ (Nat.succ_lt_succ hr) (XS hj)
  ·exact h _ _ (Nat.succ_lt_succ hr) (Nat.succ_lt_succ hj)
theorem zuh {k l:Nat}(h:l<k)(v:Nat->Int):rm l (rm k v)=rm (k-1) (rm l v):=funext λj=>by
 unfold rm;by_cases h1:j<l
 ·rw[if_pos h1,if_pos (show j<k by lia),if_pos (show j<k-1 by lia),if_pos h1]
 ·rw[if_neg h1];by_cases h2:j+1<k
  ·rw[if_pos h2,if_pos (show j<k-1 by lia),if_neg h1]
  ·rw[if_neg h2,if_neg (show ¬ j<k-1 by lia),if_neg (show ¬ j+1<l by lia)]
theorem zrm:∀ {n r:Nat}{B:Mt},r+1<n->B r=B (r+1)->D n B=0
 | n+2,0,B,_,e=>by
  rw[D];have q:=zkh (f:=λk l=>sg k*B 0 k*(sg l*rm k (B 0) l*D n λr=>rm l (rm k (B (r+2))))) (λk l h=>?_) (n+1)
  ·rw[<- q];refine zau λk hk=>?_;rw[D];rw[zdr,<- e]
  ·show _ = -(sg l*B 0 l*(sg (k-1)*rm l (B 0) (k-1)*_));have e1:rm k (B 0) l=B 0 l:=if_pos h;have e2:rm l (B 0) (k-1)=B 0 k:=by unfold rm;rw[if_neg (by lia),Nat.sub_add_cancel (by lia)]
   have e3:sg k = - sg (k-1):=by rw[<- zrk,Nat.sub_add_cancel (by lia)]
   have e4:(λr=>rm (k-1) (rm l (B (r+2))))=λr=>rm l (rm k (B (r+2))):=funext λr=>(zuh h _).symm;rw[e1,e2,e3,e4];grind
 | n+1,r+1,B,h,e=>by
  rw[D];refine zfT λk _=>?_;rw[zrm (r:=r) (Nat.lt_of_succ_lt_succ h) (by show rm k (B (r+1))=rm k (B (r+1+1));rw[e]),Yi]
theorem zpz {n r s:Nat}{B:Mt}{x y:Nat->Int}(hr:r<n)(hs:s<n)(hne:r≠s)(alt:∀z,D n (up (up B r z) s z)=0):D n (up (up B r x) s y) = - D n (up (up B r y) s x):=by
 have h:=alt λj=>1*x j+1*y j;rw[zjm hs,zeY hne,zeY hne,zjm hr,zjm hr,<- zeY hne,<- zeY hne,<- zeY hne,<- zeY hne,alt x,alt y]at h;lia
theorem zrn:∀ {d n r s:Nat}{B:Mt},s=r+1+d->s<n->B r=B s->D n B=0
 | 0,n,r,s,B,e,h,hb=>zrm (r:=r) (by lia) (by rw[hb,e])
 | d+1,n,r,s,B,e,h,hb=>by
  have hne:s-1≠s:=by lia
  have a1:∀z,D n (up (up B (s-1) z) s z)=0:=λz=>zrm (r:=s-1) (by lia) (by rw[Nat.sub_add_cancel (by lia),zbI,zfm hne,zbI]);have q:=zpz (x:=B (s-1)) (y:=B s) (by lia) h hne a1;have e0:up (up B (s-1) (B (s-1))) s (B s)=B:=by rw[zds,zds]
  rw[e0]at q;rw[q,zrn (d:=d) (r:=r) (s:=s-1) (by lia) (by lia) (by rw[zfm (show r≠s by lia),zfm (show r≠s-1 by lia),zfm hne,zbI,hb])];rfl
theorem zni {n r s:Nat}{B:Mt}(hr:r<n)(hs:s<n)(hne:r≠s)(h:B r=B s):D n B=0:=by
 by_cases z:r<s
 ·exact zrn (d:=s-r-1) (by lia) hs h
 ·exact zrn (d:=r-s-1) (by lia) hr h.symm
theorem ztb {n r s:Nat}{B:Mt}{x y:Nat->Int}(hr:r<n)(hs:s<n)(hne:r≠s):D n (up (up B r x) s y) = - D n (up (up B r y) s x):=
 zpz hr hs hne λz=>zni hr hs hne (by rw[zbI,zfm hne,zbI])
theorem znj {n r:Nat}{B:Mt}(hr:r<n):∀(m:Nat)(t:Nat->Int)(u:Nat->Nat->Int),D n (up B r λj=>sm m λk=>t k*u k j)=sm m λk=>t k*D n (up B r (u k))
 | 0,t,u=>by
  have:=zjm (B:=B) (x:=λ_=>0) (y:=λ_=>0) (a:=0) (b:=0) hr;rw[Int.zero_mul,Int.zero_mul]at this;exact this
 | m+1,t,u=>by
  have:=zjm (B:=B) (x:=λj=>sm m λk=>t k*u k j) (y:=u m) (a:=1) (b:=t m) hr;rw[znj hr m,Int.one_mul]at this;rw[sm,<- this]
  congr 1;congr 1;funext j
  rw[sm,Int.one_mul]
noncomputable def fac:Nat->Int
 | 0=>1
 | n+1=>(n+1)*fac n
theorem D_le:∀ {n:Nat}{B:Mt},(∀r k,-1<=B r k/\B r k<=1)->-fac n<=D n B/\D n B<=fac n
 | 0,_,_=>⟨by show(-1:Int)<=1;decide,Int.le_refl 1⟩
 | n+1,B,h=>by
  have key:∀(m:Nat) (f:Nat->Int) (c:Int),(∀k,-c<=f k/\f k<=c)->-(m*c)<=sm m f/\sm m f<=m*c:=by
   intro m f c hf;induction m with
   | zero=>simp[sm]
   | succ m ih=>
    have:=hf m;rw[sm,Int.natCast_succ,Int.add_mul,Int.one_mul];lia
  rw[D];have:=key (n+1) (λk=>sg k*B 0 k*D n λr=>rm k (B (r+1))) (fac n) λk=>by
   have d:=D_le (n:=n) (B:=λr=>rm k (B (r+1))) λr j=>by unfold rm;split<;>exact h _ _
   have hb:=h 0 k;have hs:sg k=1\/sg k = -1:=by unfold sg;split<;>simp
   generalize D n _=x at *;have:B 0 k = -1\/B 0 k=0\/B 0 k=1:=by lia
   rcases hs with e | e<;>rcases this with f | f | f<;>rw[e,f]<;>lia
  rw[fac];simpa using this
end _M
set_option maxHeartbeats 1000000
namespace _M
theorem ztc {n i r:Nat}{f:Nat->Int}(hi:i<n)(hr:r<n)(hne:i≠r)(h:∀k,k<n->k≠i->k≠r->f k=0):sm n f=f i+f r:=by
 have e:sm n f=sm n λk=>1*(if k=i then f i else 0)+1*(if k=r then f r else 0):=zau λk hk=>by
  by_cases z:k=i
  ·subst z;rw[if_pos rfl,if_neg hne];lia
  ·by_cases y:k=r
   ·subst y;rw[if_neg z,if_pos rfl];lia
   ·rw[h k hk z y,if_neg z,if_neg y];rfl
 rw[e,zcJ,zcZ hi λk _ z=>if_neg z,zcZ hr λk _ z=>if_neg z,if_pos rfl,if_pos rfl];lia
theorem znk {n r:Nat}{B:Mt}{x y:Nat->Int}(h:∀k,k<n->x k=y k):D n (up B r x)=D n (up B r y):=zhn λs k _ hk=>by
 unfold up;split
 ·exact h k hk
 ·rfl
structure Pb where
 m:Nat
 n:Nat
 col:Nat->Nat->Int
 spare:∀k,k<m->∀j,j<=m->col (n+k) j=if j=k then 1 else 0
 rhs:∀k,k<m->col (n+m) k=1
 rhsm:col (n+m) m=0
 bin:∀c,c<n->∀k,k<m->col c k=0\/col c k=1
 low:∀c,c<n->col c m = -1
 has:∀c,c<n->∃k,k<m/\col c k=1
section
variable (p:Pb)
noncomputable def em:Nat->Int:=λk=>if k=p.m then 1 else 0
noncomputable def Bs (h:List Nat):Mt:=λr=>if r<p.m then p.col (h.getD r 0) else em p
noncomputable def tb (h:List Nat)(r c:Nat):Int:=D (p.m+1) (up (Bs p h) r (p.col c))
noncomputable def bt (h:List Nat):Int:=D (p.m+1) (Bs p h)
structure Gd (h:List Nat):Prop where
 len:h.length=p.m
 lt:∀i,i<p.m->h.getD i 0<p.n+p.m
 pos:0<bt p h
 rhs:∀i,i<p.m->0<=tb p h i (p.n+p.m)
 cr:∀c k,k<=p.m->bt p h*p.col c k=sm (p.m+1) λr=>tb p h r c*Bs p h r k
variable {p}{h:List Nat}{i j r c k:Nat}
theorem Pb.nn (hc:c<p.n+p.m)(hk:k<p.m):0<=p.col c k:=by
 by_cases z:c<p.n
 ·rcases p.bin c z k hk with e | e<;>rw[e]<;>decide
 ·have:=p.spare (c-p.n) (by lia) k (by lia);rw[show p.n+(c-p.n)=c by lia]at this;rw[this];split<;>decide
theorem Pb.np (hc:c<p.n+p.m):p.col c p.m<=0:=by
 by_cases z:c<p.n
 ·rw[p.low c z];decide
 ·have:=p.spare (c-p.n) (by lia) p.m (Xg _);rw[show p.n+(c-p.n)=c by lia]at this;rw[this,if_neg (by lia)];decide
theorem Pb.one (hc:c<p.n+p.m):∃k,k<p.m/\p.col c k=1:=by
 by_cases z:c<p.n
 ·exact p.has c z
 ·refine⟨c-p.n,by lia,?_⟩;have:=p.spare (c-p.n) (by lia) (c-p.n) (by lia);rw[show p.n+(c-p.n)=c by lia,if_pos rfl]at this;exact this
theorem Bs_m:Bs p h p.m=em p:=if_neg (Yr _)
theorem ziu (hr:r<p.m):Bs p h r=p.col (h.getD r 0):=if_pos hr
theorem zki (hi:i<p.m)(hl:h.length=p.m):Bs p (h.set i j)=up (Bs p h) i (p.col j):=funext λr=>by
 unfold Bs up;by_cases z:r=i
 ·subst z;rw[if_pos hi,if_pos rfl];congr 1;simp[List.getD,hl,hi]
 ·rw[if_neg z];show(if r<p.m then p.col ((h.set i j).getD r 0) else em p)=if r<p.m then p.col (h.getD r 0) else em p
  simp only[List.getD];rw[Xh (λe=>z e.symm)]
theorem zkj (hi:i<p.m)(hl:h.length=p.m):bt p (h.set i j)=tb p h i j:=by unfold bt tb;rw[zki hi hl]
theorem zkk (hi:i<p.m)(hl:h.length=p.m):tb p (h.set i j) i c=tb p h i c:=by unfold tb;rw[zki hi hl,zug]
theorem zdu (hk:k<p.m)(hr:r<=p.m):tb p h r (h.getD k 0)=if r=k then bt p h else 0:=by
 unfold tb bt;rw[<- ziu hk];split
 ·rename_i e;subst e;rw[zds]
 ·rename_i e
  exact zni (r:=r) (s:=k) (by lia) (by lia) e (by rw[zbI,zfm (λz=>e z.symm)])
theorem turn (g:Gd p h)(hi:i<p.m)(hr:r<=p.m)(hne:r≠i):bt p h*tb p (h.set i j) r c=tb p h i j*tb p h r c-tb p h r j*tb p h i c:=by
 have hr1:r<p.m+1:=by lia
 have hi1:i<p.m+1:=by lia
 have e1:bt p h*tb p (h.set i j) r c=D (p.m+1) (up (up (Bs p h) i (p.col j)) r λk=>sm (p.m+1) λs=>tb p h s c*Bs p h s k):=by
  show bt p h*D _ (up (Bs p (h.set i j)) r (p.col c))=_;rw[zki hi g.len,zta _ hr1];exact znk λk hk=>g.cr c k (by lia)
 have e2:∀s,s<p.m+1->s≠i->s≠r->tb p h s c*D (p.m+1) (up (up (Bs p h) i (p.col j)) r (Bs p h s))=0:=λs hs z1 z2=>by
  rw[zni (r:=r) (s:=s) hr1 hs (λe=>z2 e.symm) (by rw[zbI,zfm z2,zfm z1]),Yi]
 have e3:D (p.m+1) (up (up (Bs p h) i (p.col j)) r (Bs p h r))=tb p h i j:=by
  have:up (Bs p h) i (p.col j) r=Bs p h r:=zfm hne;rw[<- this,zds];rfl
 have e4:D (p.m+1) (up (up (Bs p h) i (p.col j)) r (Bs p h i)) = - tb p h r j:=by
  rw[ztb hi1 hr1 (λe=>hne e.symm),zds];rfl
 rw[e1,znj hr1,ztc hi1 hr1 (λe=>hne e.symm) e2,e3,e4,Int.mul_neg,XX,XX (tb p h r c)];lia
theorem ziv (hr:r<=p.m):tb p h r c=sm p.m (λk=>p.col c k*tb p h r (p.n+k))+p.col c p.m*(if r=p.m then bt p h else 0):=by
 have hr1:r<p.m+1:=by lia
 have e1:tb p h r c=D (p.m+1) (up (Bs p h) r λj=>sm (p.m+1) λk=>p.col c k*(if j=k then 1 else 0)):=by
  refine znk λk hk=>?_;rw[zcZ (f:=λl=>p.col c l*if k=l then 1 else 0) hk λl _ z=>by rw[if_neg (λe=>z e.symm),Yi],if_pos rfl,Int.mul_one]
 rw[e1,znj (u:=λk j=>if j=k then 1 else 0) hr1,sm]
 congr 1
 ·refine zau λk hk=>?_
  congr 1
  exact znk λl hl=>(p.spare k hk l (by lia)).symm
 ·congr 1
  have e2:(λj=>if j=p.m then(1:Int) else 0)=Bs p h p.m:=Bs_m.symm
  rw[e2];split
  ·rename_i e;subst e;rw[zds];rfl
  ·rename_i e
   exact zni (r:=r) (s:=p.m) hr1 (XQ _) e (by rw[zbI,zfm (λz=>e z.symm)])
theorem across {hD:List Nat}(g:Gd p h):bt p h*tb p hD p.m c=sm p.m (λi=>tb p h i c*tb p hD p.m (h.getD i 0))+tb p h p.m c*bt p hD:=by
 have hm:p.m<p.m+1:=XQ _;have e1:bt p h*tb p hD p.m c=D (p.m+1) (up (Bs p hD) p.m λk=>sm (p.m+1) λs=>tb p h s c*Bs p h s k):=by
  show bt p h*D _ (up (Bs p hD) p.m (p.col c))=_;rw[zta _ hm];exact znk λk hk=>g.cr c k (by lia)
 rw[e1,znj hm,sm]
 congr 1
 ·refine zau λi hi=>?_;rw[ziu hi];rfl
 ·congr 1
  have e2:Bs p h p.m=Bs p hD p.m:=by rw[Bs_m,Bs_m]
  rw[e2,zds];rfl
theorem ztd (g:Gd p h)(hi:i<p.m)(hk:k<=p.m):bt p (h.set i j)*p.col c k=sm (p.m+1) λr=>tb p (h.set i j) r c*Bs p (h.set i j) r k:=by
 have hb:=g.pos;refine Int.eq_of_mul_eq_mul_left (Int.ne_of_gt hb) ?_;have e1:bt p h*(sm (p.m+1) λr=>tb p (h.set i j) r c*Bs p (h.set i j) r k)=sm (p.m+1) λr=>1*(tb p h i j*(tb p h r c*Bs p h r k)+(- tb p h i c)*(tb p h r j*Bs p h r k))+1*(if r=i then tb p h i c*(bt p h*p.col j k) else 0):=by
  rw[zdr];refine zau λr hr=>?_;rw[zki hi g.len];by_cases z:r=i
  ·subst z;rw[if_pos rfl,zkk hi g.len,zbI]
   grind
  ·rw[if_neg z,zfm z,<- Int.mul_assoc,turn g hi (by lia) z]
   grind
 rw[e1,zcJ,zcJ,<- g.cr c k hk,<- g.cr j k hk,zcZ (i:=i) (by lia) λl _ z=>if_neg z,if_pos rfl,zkj hi g.len]
 grind
theorem ends (g:Gd p h)(hj:j<p.n+p.m):∃i,i<p.m/\0<tb p h i j:=by
 obtain⟨k,hk,e⟩:=p.one hj;have q:=g.cr j k (by lia);rw[e,Int.mul_one,sm,Bs_m]at q;have z:em p k=0:=if_neg (by lia);rw[z,Yi,Int.add_zero]at q;obtain⟨i,hi,hp⟩:=zng (n:=p.m) (f:=λr=>tb p h r j*Bs p h r k) (by rw[<- q];exact g.pos);refine⟨i,hi,?_⟩;rw[ziu hi]at hp;have:=p.nn (g.lt i hi) hk;exact Decidable.byContradiction λz=>by
  have:=Yy (Int.not_lt.mp z) this;lia
theorem zte (g:Gd p h):0<=tb p h p.m (p.n+p.m):=by
 have q:=g.cr (p.n+p.m) p.m (Xg _);rw[p.rhsm,Yi,sm,Bs_m]at q;have z:em p p.m=1:=if_pos rfl;rw[z,Int.mul_one]at q;have:=zoT (n:=p.m) (f:=λr=>(-1)*(tb p h r (p.n+p.m)*Bs p h r p.m)+0*0) λr hr=>by
  rw[ziu hr];have h1:=g.rhs r hr;have h2:=p.np (g.lt r hr);have:=Int.mul_nonpos_of_nonneg_of_nonpos h1 h2;lia
 rw[zcJ (g:=λ_=>0)]at this;lia
end
end _M
set_option maxHeartbeats 1000000
namespace _M
theorem ratio {a b c d e f:Int}(hd:0<d)(hf:0<f)(hb:0<b)(h1:a*d<=c*b)(h2:c*f<=e*d):a*f<=e*b:=by
 refine Int.le_of_mul_le_mul_left ?_ hd;have q1:=Yt h1 (YH hf);have q2:=Yt h2 (YH hb);have e1:d*(a*f)=a*d*f:=by rw[XX a d,Int.mul_assoc]
 have e2:c*b*f=c*f*b:=Int.mul_right_comm _ _ _;have e3:d*(e*b)=e*d*b:=by rw[XX e d,Int.mul_assoc]
 rw[e1,e3];exact Int.le_trans q1 (e2▸q2)
theorem zho {a b c d e f:Int}(hd:0<d)(hf:0<f)(hb:0<b)(h:a*d<c*b/\c*f<=e*d\/a*d<=c*b/\c*f<e*d):a*f<e*b:=by
 refine Int.lt_of_mul_lt_mul_left ?_ (YH hd);have e1:d*(a*f)=a*d*f:=by rw[XX a d,Int.mul_assoc]
 have e2:c*b*f=c*f*b:=Int.mul_right_comm _ _ _;have e3:d*(e*b)=e*d*b:=by rw[XX e d,Int.mul_assoc]
 rw[e1,e3];rcases h with ⟨h1,h2⟩ | ⟨h1,h2⟩
 ·exact Int.lt_of_lt_of_le (Int.mul_lt_mul_of_pos_right h1 hf) (e2▸Yt h2 (YH hb))
 ·exact Int.lt_of_le_of_lt (Yt h1 (YH hf)) (e2▸Int.mul_lt_mul_of_pos_right h2 hb)
theorem zcu {P:Nat->Prop}:∀ {y x:Nat},x<y->P x->¬ P y->∃e,x<=e/\e<y/\P e/\¬ P (e+1)
 | y+1,x,h,hx,hy=>by
  by_cases z:P y
  ·exact⟨y,by lia,XQ y,z,hy⟩
  ·have:x≠y:=λe=>z (e▸hx);obtain⟨e,h1,h2,h3⟩:=zcu (y:=y) (x:=x) (by lia) hx z;exact⟨e,h1,by lia,h3⟩
section
variable {p:Pb}{h:List Nat}{i j r c k:Nat}
structure Ent (p:Pb)(h:List Nat)(j:Nat):Prop where
 lt:j<p.n+p.m
 neg:tb p h p.m j<0
 first:∀c,c<j->0<=tb p h p.m c
structure Lev (p:Pb)(h:List Nat)(j i:Nat):Prop where
 lt:i<p.m
 pos:0<tb p h i j
 best:∀r,r<p.m->0<tb p h r j->tb p h i (p.n+p.m)*tb p h r j<tb p h r (p.n+p.m)*tb p h i j\/(tb p h i (p.n+p.m)*tb p h r j=tb p h r (p.n+p.m)*tb p h i j/\h.getD i 0<=h.getD r 0)
theorem zeG (hl:i<h.length):(h.set i j).getD r 0=if r=i then j else h.getD r 0:=by
 simp only[List.getD];split
 ·rename_i e;subst e;simp[hl]
 ·rename_i e;rw[Xh (λz=>e z.symm)]
theorem Gd.zkl (g:Gd p h)(hk:k<p.m)(hj:tb p h p.m j≠0):h.getD k 0≠j:=λe=>hj (by rw[<- e,zdu hk (Xg _),if_neg (by lia)])
theorem Gd.step (g:Gd p h)(he:j<p.n+p.m)(hv:Lev p h j i):Gd p (h.set i j):=by
 have hil:i<h.length:=by rw[g.len];exact hv.lt
 refine⟨by rw[Ya,g.len],λr hr=>?_,by rw[zkj hv.lt g.len];exact hv.pos,λr hr=>?_,λc k hk=>ztd g hv.lt hk⟩
 ·rw[zeG hil];split
  ·exact he
  ·exact g.lt r hr
 ·by_cases z:r=i
  ·subst z;rw[zkk hv.lt g.len];exact g.rhs r hr
  ·have q:=turn (j:=j) (c:=p.n+p.m) g hv.lt (Yx hr) z;have h1:=g.rhs r hr;have h2:=g.rhs i hv.lt;refine Int.le_of_mul_le_mul_left ?_ g.pos;rw[Yi,q];by_cases y:0<tb p h r j
   ·have:=hv.best r hr y;rw[XX (tb p h i j),XX (tb p h r j)];lia
   ·have q1:=Int.mul_nonneg (YH hv.pos) h1;have q2:=Yy (Int.not_lt.mp y) h2;lia
theorem zoU {f:Nat->List Nat}{J I:Nat->Nat}{L:Nat}(hL:0<L)(hg:∀t,t<L->Gd p (f t))(hJ:∀t,t<L->Ent p (f t) (J t))(hI:∀t,t<L->Lev p (f t) (J t) (I t))(hs:∀t,t<L->f (t+1)=(f t).set (I t) (J t))(he:f L=f 0):False:=by
 have gd:∀t,t<=L->Gd p (f t):=λt ht=>by
  by_cases z:t=L
  ·rw[z,he];exact hg 0 hL
  ·exact hg t (by lia)
 have lenf:∀t,t<L->I t<(f t).length:=λt ht=>by rw[(hg t ht).len];exact(hI t ht).lt
 have bs:∀t,t<L->bt p (f (t+1))=tb p (f t) (I t) (J t):=λt ht=>by rw[hs t ht,zkj (hI t ht).lt (hg t ht).len]
 have one:∀t,t<L->bt p (f t)*tb p (f (t+1)) p.m (p.n+p.m)=bt p (f (t+1))*tb p (f t) p.m (p.n+p.m)-tb p (f t) p.m (J t)*tb p (f t) (I t) (p.n+p.m):=λt ht=>by
  rw[bs t ht,hs t ht];exact turn (hg t ht) (hI t ht).lt (Xg _) (by have:=(hI t ht).lt;lia)
 have le1:∀t,t<L->tb p (f t) p.m (p.n+p.m)*bt p (f (t+1))<=tb p (f (t+1)) p.m (p.n+p.m)*bt p (f t):=λt ht=>by
  have q:=one t ht;have:=Yy (YH (hJ t ht).neg) ((hg t ht).rhs _ (hI t ht).lt);rw[XX,XX (tb p (f (t+1)) _ _)];lia
 have le:∀s t,s<=t->t<=L->tb p (f s) p.m (p.n+p.m)*bt p (f t)<=tb p (f t) p.m (p.n+p.m)*bt p (f s):=by
  intro s t hst ht;induction t with
  | zero=>
   have z:s=0:=by lia
   subst z;exact Int.le_refl _
  | succ t ih=>
   by_cases z:s=t+1
   ·rw[z];exact Int.le_refl _
   ·exact ratio (gd t (by lia)).pos (gd (t+1) ht).pos (gd s (by lia)).pos (ih (by lia) (by lia)) (le1 t (by lia))
 have idle:∀t,t<L->tb p (f t) (I t) (p.n+p.m)=0:=λt ht=>by
  have hn:=(hg t ht).rhs _ (hI t ht).lt;refine Decidable.byContradiction λz=>?_;have st:tb p (f t) p.m (p.n+p.m)*bt p (f (t+1))<tb p (f (t+1)) p.m (p.n+p.m)*bt p (f t):=by
   have q:=one t ht;have:=Int.mul_neg_of_neg_of_pos (hJ t ht).neg (show 0<tb p (f t) (I t) (p.n+p.m) by lia);rw[XX,XX (tb p (f (t+1)) _ _)];lia
  have q1:=zho (gd t (by lia)).pos (gd (t+1) ht).pos (gd 0 (by lia)).pos (.inr ⟨le 0 t (by lia) (by lia),st⟩);have q2:=zho (gd (t+1) ht).pos (gd L (Xg _)).pos (gd 0 (by lia)).pos (.inl ⟨q1,le (t+1) L ht (Xg _)⟩);rw[he]at q2;exact Int.lt_irrefl _ q2
 have row1:∀r,r<p.m->∀t,t<L->(tb p (f t) r (p.n+p.m)=0↔tb p (f (t+1)) r (p.n+p.m)=0):=λr hr t ht=>by
  have b0:=(gd t (by lia)).pos;have b1:=(gd (t+1) ht).pos;by_cases z:r=I t
  ·rw[hs t ht,z,zkk (hI t ht).lt (hg t ht).len]
  ·have q:=turn (j:=J t) (c:=p.n+p.m) (hg t ht) (hI t ht).lt (Yx hr) z;rw[idle t ht,Yi,Int.sub_zero,<- bs t ht,<- hs t ht]at q;constructor
   ·intro e;rw[e,Yi]at q;exact(Int.mul_eq_zero.mp q).resolve_left (by lia)
   ·intro e;rw[e,Yi]at q;exact(Int.mul_eq_zero.mp q.symm).resolve_left (by lia)
 have row:∀r,r<p.m->∀t,t<=L->(tb p (f 0) r (p.n+p.m)=0↔tb p (f t) r (p.n+p.m)=0):=λr hr t ht=>by
  induction t with
  | zero=>exact Iff.rfl
  | succ t ih=>exact(ih (by lia)).trans (row1 r hr t (by lia))
 obtain⟨d,hd,hmax⟩:∃d,d<L/\∀s,s<L->J s<=J d:=by
  have:∀n,n<L->∃d,d<=n/\∀s,s<=n->J s<=J d:=λn=>by
   induction n with
   | zero=>exact λ_=>⟨0,Xg _,λs hs=>by rw[Nat.le_zero.mp hs];exact Xg _⟩
   | succ n ih=>
    intro hn;obtain⟨d,h1,h2⟩:=ih (by lia);by_cases z:J d<=J (n+1)
    ·exact⟨n+1,Xg _,λs hs=>by
      by_cases y:s=n+1
      ·rw[y];exact Xg _
      ·exact XO (h2 s (by lia)) z⟩
    ·exact⟨d,by lia,λs hs=>by
      by_cases y:s=n+1
      ·rw[y];lia
      ·exact h2 s (by lia)⟩
  obtain⟨d,h1,h2⟩:=this (L-1) (by lia);exact⟨d,by lia,λs hs=>h2 s (by lia)⟩
 let Hd:Nat->Nat->Prop:=λx t=>∃k,k<p.m/\(f t).getD k 0=x;have out:∀t,t<L->¬ Hd (J t) t:=(λt ht q139q=>by obtain⟨k,hk,e⟩:=q139q;exact(hg t ht).zkl hk (Int.ne_of_lt (hJ t ht).neg) e);have into:∀x t,t<L->¬ Hd x t->Hd x (t+1)->J t=x:=λx t ht h1 ⟨k,hk,e⟩=>by
  rw[hs t ht,zeG (lenf t ht)]at e;split at e
  ·exact e
  ·exact absurd ⟨k,hk,e⟩ h1
 have gone:∀x t,t<L->Hd x t->¬ Hd x (t+1)->(f t).getD (I t) 0=x:=λx t ht ⟨k,hk,e⟩ h2=>by
  by_cases z:k=I t
  ·rw[<- z];exact e
  ·exact absurd ⟨k,hk,by rw[hs t ht,zeG (lenf t ht),if_neg z];exact e⟩ h2
 have wrap:∀x,Hd x L↔Hd x 0:=λx=>by
  show(∃k,k<p.m/\(f L).getD k 0=x)↔_;rw[he]
 have fresh:Hd (J d) (d+1):=⟨I d,(hI d hd).lt,by rw[hs d hd,zeG (lenf d hd),if_pos rfl]⟩;obtain⟨e,heL,he1,he2⟩:∃e,e<L/\Hd (J d) e/\¬ Hd (J d) (e+1):=by
  by_cases z:Hd (J d) L
  ·have h0:=(wrap _).mp z;have d0:0<d:=Nat.pos_of_ne_zero λy=>out d hd (by rw[y];rw[y]at h0;exact h0);obtain⟨e,_,h2,h3,h4⟩:=zcu (P:=Hd (J d)) d0 h0 (out d hd);exact⟨e,by lia,h3,h4⟩
  ·have:d+1≠L:=λy=>z (y▸fresh);obtain⟨e,_,h2,h3,h4⟩:=zcu (P:=Hd (J d)) (show d+1<L by lia) fresh z;exact⟨e,h2,h3,h4⟩
 have eL:=gone _ e heL he1 he2;have gE:=hg e heL;have vE:=hI e heL;have hne:J e≠J d:=λz=>out e heL (z▸he1);have hlt:J e<J d:=by have:=hmax e heL;lia
 have q:=across (hD:=f d) (c:=J e) gE;have q1:=Int.mul_nonneg (YH gE.pos) ((hJ d hd).first _ hlt)
 have q2:=Int.mul_neg_of_neg_of_pos (hJ e heL).neg (hg d hd).pos;rw[q]at q1;obtain⟨i,hi,hp⟩:=zng (n:=p.m) (f:=λi=>tb p (f e) i (J e)*tb p (f d) p.m ((f e).getD i 0)) (by lia);have hz:tb p (f d) p.m ((f e).getD i 0)≠0:=λz=>by rw[z,Yi]at hp;exact Int.lt_irrefl _ hp
 generalize hx:(f e).getD i 0=x at hp hz;have xd:¬ Hd x d:=(λ q142q=>by obtain⟨k,hk,y⟩:=q142q;exact(hg d hd).zkl hk hz y);have xe:Hd x e:=⟨i,hi,hx⟩;have hde:d≠e:=λy=>xd (y▸xe);have hxm:x<=J d:=by
  by_cases y:d<e
  ·obtain⟨u,h1,h2,h3,h4⟩:=zcu (P:=λt=>¬ Hd x t) y xd (λz=>z xe);rw[<- into x u (by lia) h3 (Classical.not_not.mp h4)];exact hmax u (by lia)
  ·by_cases z:Hd x 0
   ·obtain⟨u,h1,h2,h3,h4⟩:=zcu (P:=λt=>¬ Hd x t) hd xd (λv=>v ((wrap x).mpr z));rw[<- into x u (by lia) h3 (Classical.not_not.mp h4)];exact hmax u (by lia)
   ·have e0:0<e:=Nat.pos_of_ne_zero λv=>z (v▸xe);obtain⟨u,h1,h2,h3,h4⟩:=zcu (P:=λt=>¬ Hd x t) e0 z (λv=>v xe);rw[<- into x u (by lia) h3 (Classical.not_not.mp h4)];exact hmax u (by lia)
 have hi0:tb p (f e) i (p.n+p.m)=0:=by
  have key:∃u,u<L/\I u=i:=by
   have mv:∀u,u<L->((f u).getD i 0=x)≠((f (u+1)).getD i 0=x)->I u=i:=λu hu hv=>Decidable.byContradiction λz=>hv (by rw[hs u hu,zeG (lenf u hu),if_neg λy=>z y.symm]);by_cases y:d<e
   ·obtain⟨u,h1,h2,h3,h4⟩:=zcu (P:=λt=>¬ (f t).getD i 0=x) y (λz=>xd ⟨i,hi,z⟩) (λz=>z hx);exact⟨u,by lia,mv u (by lia) λz=>h4 λv=>h3 (z▸v)⟩
   ·obtain⟨u,h1,h2,h3,h4⟩:=zcu (P:=λt=>(f t).getD i 0=x) (show e<d by lia) hx (λz=>xd ⟨i,hi,z⟩);exact⟨u,by lia,mv u (by lia) λz=>h4 (z▸h3)⟩
  obtain⟨u,hu,rfl⟩:=key;exact(row _ hi e (by lia)).mp ((row _ hi u (by lia)).mpr (idle u hu))
 by_cases hxd:x=J d
 ·have hie:i=I e:=by
   have e1:=zdu (p:=p) (h:=f e) (k:=i) (r:=I e) hi (Yx vE.lt);have e2:=zdu (p:=p) (h:=f e) (k:=I e) (r:=I e) vE.lt (Yx vE.lt);rw[if_pos rfl,eL,<- hxd,<- hx,e1]at e2;refine Decidable.byContradiction λz=>?_;rw[if_neg λy=>z y.symm]at e2;have:=gE.pos;lia
  have h1:=vE.pos;rw[<- hie]at h1;have:=Int.mul_neg_of_pos_of_neg h1 (hJ d hd).neg;rw[<- hxd]at this;lia
 ·have hnn:=(hJ d hd).first x (by lia)
  have hpos:0<tb p (f e) i (J e):=by
   refine Decidable.byContradiction λz=>?_;have:=Yy (Int.not_lt.mp z) hnn;lia
  rcases vE.best i hi hpos with b | ⟨_,b⟩
  ·rw[idle e heL,hi0,Int.zero_mul,Int.zero_mul]at b;exact Int.lt_irrefl _ b
  ·rw[eL,hx]at b;lia
end
end _M
set_option maxHeartbeats 1000000
namespace _M
theorem zhp:∀ {m n:Nat}{f:Nat->Nat->Int},sm m (λi=>sm n (f i))=sm n λk=>sm m λi=>f i k
 | 0,n,f=>(zfT λ_ _=>rfl).symm
 | m+1,n,f=>by
  rw[sm,zhp];have:=zcJ (n:=n) (f:=λk=>sm m λi=>f i k) (g:=f m) (a:=1) (b:=1);rw[Int.one_mul,Int.one_mul]at this;rw[<- this];exact zau λk _=>by rw[sm];lia
theorem zlm {n:Nat}{f g:Nat->Int}(h:∀k,k<n->f k<=g k):sm n f<=sm n g:=by
 have:=zoT (n:=n) (f:=λk=>1*g k+(-1)*f k) λk hk=>by have:=h k hk;lia
 rw[zcJ]at this;lia
theorem D_id:∀n,D n (λr k=>if k=r then 1 else 0)=1
 | 0=>rfl
 | n+1=>by
  rw[D,zcZ (i:=0) (Nat.succ_pos n) λk _ hk=>by rw[if_neg hk];lia];have e:(λr=>rm 0 λk=>if k=r+1 then(1:Int) else 0)=λr k=>if k=r then 1 else 0:=funext λr=>funext λk=>by
   unfold rm;rw[if_neg (by lia)];show(if k+1=r+1 then(1:Int) else 0)=_
   by_cases z:k=r
   ·rw[if_pos z,if_pos (by lia)]
   ·rw[if_neg z,if_neg (by lia)]
  rw[e,D_id n];rfl
section
variable {p:Pb}{h:List Nat}{i j r c k:Nat}
noncomputable def start (p:Pb):List Nat:=(Xs p.m).map λi=>p.n+i
theorem zkm (hi:i<p.m):(start p).getD i 0=p.n+i:=by simp[start,List.getD,hi]
theorem zeH (hr:r<=p.m)(hk:k<=p.m):Bs p (start p) r k=if k=r then 1 else 0:=by
 by_cases z:r<p.m
 ·rw[ziu z,zkm z,p.spare r z k hk]
 ·have:r=p.m:=by lia
  subst this;rw[Bs_m];rfl
theorem zfq:bt p (start p)=1:=by
 rw[<- D_id (p.m+1)];exact zhn λr k hr hk=>zeH (by lia) (by lia)
theorem tb_start (hr:r<=p.m):tb p (start p) r c=p.col c r:=by
 have hr1:r<p.m+1:=by lia
 have e1:tb p (start p) r c=D (p.m+1) (up (Bs p (start p)) r λj=>sm (p.m+1) λk=>p.col c k*Bs p (start p) k j):=znk λk hk=>by
  rw[zcZ hk λl hl z=>by rw[zeH (by lia) (by lia),if_neg (λe=>z e.symm),Yi],zeH (by lia) (by lia),if_pos rfl,Int.mul_one]
 rw[e1,znj hr1,zcZ hr1 λl hl z=>by rw[zni (r:=r) (s:=l) hr1 hl (λe=>z e.symm) (by rw[zbI,zfm z]),Yi],zds];show _*bt p (start p)=_;rw[zfq,Int.mul_one]
theorem Gd.start:Gd p (start p) where
 len:=by simp[_M.start]
 lt i hi:=by rw[zkm hi];lia
 pos:=by rw[zfq];decide
 rhs i hi:=by rw[tb_start (by lia),p.rhs i hi];decide
 cr c k hk:=by
  rw[zfq,Int.one_mul,zcZ (i:=k) (by lia) λl hl z=>by rw[zeH (by lia) hk,if_neg (λe=>z e.symm),Yi],zeH hk hk,if_pos rfl,Int.mul_one,tb_start hk]
theorem Pb.le1 (hc:c<=p.n+p.m)(hk:k<=p.m):-1<=p.col c k/\p.col c k<=1:=by
 by_cases z:c<p.n
 ·by_cases y:k<p.m
  ·rcases p.bin c z k y with e | e<;>rw[e]<;>decide
  ·have:k=p.m:=by lia
   rw[this,p.low c z];decide
 ·by_cases y:c<p.n+p.m
  ·have:=p.spare (c-p.n) (by lia) k hk;rw[show p.n+(c-p.n)=c by lia]at this;rw[this];split<;>decide
  ·have:c=p.n+p.m:=by lia
   subst this;by_cases x:k<p.m
   ·rw[p.rhs k x];decide
   ·have:k=p.m:=by lia
    rw[this,p.rhsm];decide
theorem Gd.small (g:Gd p h)(hm:p.m<=6)(hr:r<=p.m)(hc:c<=p.n+p.m):-5040<=tb p h r c/\tb p h r c<=5040:=by
 have e:tb p h r c=D (p.m+1) λs k=>if s<=p.m/\k<=p.m then up (Bs p h) r (p.col c) s k else 0:=zhn λs k hs hk=>by rw[if_pos ⟨by lia,by lia⟩]
 have:=D_le (n:=p.m+1) (B:=λs k=>if s<=p.m/\k<=p.m then up (Bs p h) r (p.col c) s k else 0) λs k=>by
  split
  ·rename_i z
   unfold up;split
   ·exact Pb.le1 hc z.2
   ·by_cases y:s<p.m
    ·rw[ziu y];exact Pb.le1 (Yx (g.lt s y)) z.2
    ·have:s=p.m:=by lia
     rw[this,Bs_m];unfold em;split<;>decide
  ·decide
 rw[<- e]at this;have f:fac (p.m+1)<=5040:=(by decide:∀k,k<7->fac (k+1)<=5040) _ (by lia);lia
noncomputable def pr (p:Pb)(h:List Nat)(c:Nat):Int:=sm p.m λr=>if h.getD r 0=c then tb p h r (p.n+p.m) else 0
theorem znl (g:Gd p h)(hk:k<p.m):pr p h (h.getD k 0)=tb p h k (p.n+p.m):=by
 unfold pr;rw[zcZ hk λr hr z=>if_neg λe=>?_,if_pos rfl];have e1:=zdu (p:=p) (h:=h) (k:=r) (r:=k) hr (by lia);rw[e,zdu hk (by lia),if_pos rfl,if_neg λy=>z y.symm]at e1;have:=g.pos;lia
theorem zpA (hc:∀k,k<p.m->h.getD k 0≠c):pr p h c=0:=zfT λr hr=>if_neg (hc r hr)
theorem zui (g:Gd p h):0<=pr p h c:=zoT λr hr=>by
 split
 ·exact g.rhs r hr
 ·decide
theorem zpB (f:Nat->Int):sm p.n (λc=>f c*pr p h c)=sm p.m λr=>tb p h r (p.n+p.m)*if h.getD r 0<p.n then f (h.getD r 0) else 0:=by
 have e:sm p.n (λc=>f c*pr p h c)=sm p.n λc=>sm p.m λr=>f c*if h.getD r 0=c then tb p h r (p.n+p.m) else 0:=zau λc _=>by unfold pr;rw[zdr]
 rw[e,zhp];refine zau λr hr=>?_;split
 ·rename_i z
  rw[zcZ z λc _ y=>by rw[if_neg λe=>y e.symm,Yi],if_pos rfl,XX]
 ·rename_i z
  rw[Yi];exact zfT λc hc=>by rw[if_neg (by lia),Yi]
theorem cost (g:Gd p h)(hk:k<p.m):sm p.n (λc=>p.col c k*pr p h c)<=bt p h:=by
 have q:=g.cr (p.n+p.m) k (by lia);rw[p.rhs k hk,Int.mul_one,sm,Bs_m]at q;have z:em p k=0:=if_neg (by lia);rw[z,Yi,Int.add_zero]at q;rw[zpB,q];refine zlm λr hr=>?_;rw[ziu hr];have h1:=g.rhs r hr;have h2:=p.nn (g.lt r hr) hk;refine Int.mul_le_mul_of_nonneg_left ?_ h1;split
 ·exact Int.le_refl _
 ·exact h2
theorem cover (hc:c<p.n)(hn:0<=tb p h p.m c):bt p h<=sm p.m λk=>p.col c k*tb p h p.m (p.n+k):=by
 have q:=ziv (p:=p) (h:=h) (c:=c) (Xg p.m);rw[if_pos rfl,p.low c hc]at q;lia
theorem both (g:Gd p h):(sm p.m λk=>tb p h p.m (p.n+k))=sm p.n λc=>pr p h c:=by
 have q:=ziv (p:=p) (h:=h) (c:=p.n+p.m) (Xg p.m);rw[if_pos rfl,p.rhsm,Int.zero_mul,Int.add_zero,zau (g:=λk=>tb p h p.m (p.n+k)) λk hk=>by rw[p.rhs k hk,Int.one_mul]]at q;have r:=g.cr (p.n+p.m) p.m (Xg _);rw[p.rhsm,Yi,sm,Bs_m,show em p p.m=1 from if_pos rfl,Int.mul_one]at r;have s:=zpB (p:=p) (h:=h) λ_=>1;rw[zau (g:=λc=>pr p h c) λc _=>Int.one_mul _]at s;rw[<- q,s];have e:(sm p.m λr=>tb p h r (p.n+p.m)*Bs p h r p.m)=sm p.m λr=>(-1)*(tb p h r (p.n+p.m)*if h.getD r 0<p.n then 1 else 0)+0*0:=zau λr hr=>by
  rw[ziu hr];split
  ·rename_i z;rw[p.low _ z];lia
  ·rename_i z
   have:=p.spare (h.getD r 0-p.n) (by have:=g.lt r hr;lia) p.m (Xg _);rw[show p.n+(h.getD r 0-p.n)=h.getD r 0 by lia,if_neg (by have:=g.lt r hr;lia)]at this;rw[this];lia
 rw[e,zcJ (g:=λ_=>0)]at r;lia
noncomputable def code:List Nat->Nat
 | []=>0
 | x::l=>x+16*code l
theorem znm:∀ {l:List Nat},(∀x∈l,x<16)->code l<16 ^ l.length
 | [],_=>by decide
 | x::l,h=>by
  have h1:=h x Xp;have h2:=znm λy hy=>h y (Xn _ hy);rw[code,XG,Nat.pow_succ];lia
theorem code_inj:∀ {l m:List Nat},l.length=m.length->(∀x∈l,x<16)->(∀x∈m,x<16)->code l=code m->l=m
 | [],[],_,_,_,_=>rfl
 | x::l,y::m,hl,h1,h2,e=>by
  rw[code,code]at e;have a:=h1 x Xp;have b:=h2 y Xp;have:x=y:=by lia
  subst this;rw[code_inj (Nat.succ.inj hl) (λz hz=>h1 z (Xn _ hz)) (λz hz=>h2 z (Xn _ hz)) (by lia)]
theorem zpC:∀ {b t:Nat}{g:Nat->Nat},(∀s,s<t->g s<b)->(∀s u,s<u->u<t->g s≠g u)->t<=b
 | 0,t,g,h1,h2=>Nat.le_of_not_lt λz=>absurd (h1 0 z) (Nat.not_lt_zero _)
 | b+1,0,g,h1,h2=>Yh _
 | b+1,t+1,g,h1,h2=>by
  have:=zpC (b:=b) (t:=t) (g:=λs=>if g s=b then g t else g s) (λs hs=>?_) (λs u hsu hu=>?_)
  ·lia
  ·have q1:=h1 s (by lia);have q2:=h1 t (by lia);have q3:=h2 s t hs (by lia);show(if g s=b then g t else g s)<b
   split<;>lia
  ·have q1:=h2 s u hsu (by lia);have q2:=h2 s t (by lia) (by lia);have q3:=h2 u t hu (by lia);show(if g s=b then g t else g s)≠if g u=b then g t else g u
   split<;>split<;>lia
theorem short {f:Nat->List Nat}{J I:Nat->Nat}{t:Nat}(hm:p.n+p.m<=16)(hg:∀s,s<t->Gd p (f s))(hJ:∀s,s<t->Ent p (f s) (J s))(hI:∀s,s<t->Lev p (f s) (J s) (I s))(hs:∀s,s+1<t->f (s+1)=(f s).set (I s) (J s)):t<=16 ^ p.m:=by
 have lt16:∀s,s<t->∀x∈f s,x<16:=λs h x hx=>by
  obtain⟨i,hi,e⟩:=List.getElem_of_mem hx;have:=(hg s h).lt i (by rw[<- (hg s h).len];exact hi);simp only[List.getD,Xf hi,Option.getD_some]at this;lia
 refine zpC (g:=λs=>code (f s)) (λs h=>?_) (λs u hsu hu e=>?_)
 ·have:=znm (lt16 s h);rw[(hg s h).len]at this;exact this
 ·have e:=code_inj (by rw[(hg s (by lia)).len,(hg u hu).len]) (lt16 s (by lia)) (lt16 u hu) e;exact zoU (p:=p) (f:=λv=>f (s+v)) (J:=λv=>J (s+v)) (I:=λv=>I (s+v)) (L:=u-s) (by lia) (λv hv=>hg _ (by lia)) (λv hv=>hJ _ (by lia)) (λv hv=>hI _ (by lia)) (λv hv=>hs (s+v) (by lia)) (by
   show f (s+(u-s))=f (s+0);rw[show s+(u-s)=u by lia];exact e.symm)
end
end _M
namespace _K
open PySem PySem.Spec PyProof.Rows
noncomputable def leS (a b:Str):Prop:=a.cps.toList<=b.cps.toList
theorem znn {a b c:Str}(h1:leS a b)(h2:leS b c):leS a c:=List.le_trans h1 h2
theorem ziw {a b:Str}(h1:leS a b)(h2:leS b a):a=b:=by
 have e:a.cps.toList=b.cps.toList:=List.le_antisymm h1 h2;cases a;cases b;simp only[Str.mk.injEq];exact Array.toList_inj.mp e
theorem ztf {a b:Str}(h:ltCps b.cps.toList a.cps.toList=false):leS a b:=by
 rw[ltCps_eq]at h;exact List.not_lt.mp (of_decide_eq_false h)
theorem zix:∀(p:Str)(l:List Str),risingS p l=true->(p::l).Pairwise leS
 | p,[],_=>List.pairwise_singleton _ _
 | p,x::r,h=>by
  have h':(!ltCps x.cps.toList p.cps.toList&&risingS x r)=true:=h;rw[Yn]at h';have h1:leS p x:=ztf (by simpa using h'.1);have ih:=zix x r h'.2;refine List.pairwise_cons.mpr ⟨λy hy=>?_,ih⟩;rcases Xu.mp hy with e | hy
  ·rw[e];exact h1
  ·exact znn h1 ((List.pairwise_cons.mp ih).1 y hy)
theorem ziy:∀(l:List Str),sortedS l=true->l.Pairwise leS
 | [],_=>List.Pairwise.nil
 | x::r,h=>zix x r h
theorem zgF:∀ {xs ys:List Str},xs.Pairwise leS->ys.Pairwise leS->xs.Nodup->ys.Nodup->(∀x,x∈xs↔x∈ys)->xs=ys
 | [],[],_,_,_,_,_=>rfl
 | [],y::ys,_,_,_,_,h=>absurd ((h y).mpr Xp) (by simp)
 | x::xs,[],_,_,_,_,h=>absurd ((h x).mp Xp) (by simp)
 | x::xs,y::ys,p,q,n,m,h=>by
  obtain⟨p1,p2⟩:=List.pairwise_cons.mp p;obtain⟨q1,q2⟩:=List.pairwise_cons.mp q;obtain⟨n1,n2⟩:=XT.mp n;obtain⟨m1,m2⟩:=XT.mp m;have e:x=y:=by
   rcases Xu.mp ((h x).mp Xp)with e | hx
   ·exact e
   ·rcases Xu.mp ((h y).mpr Xp)with e | hy
    ·exact e.symm
    ·exact ziw (p1 y hy) (q1 x hx)
  subst e;rw[zgF p2 q2 n2 m2 λz=>?_];constructor
  ·intro hz;rcases Xu.mp ((h z).mp (Xn _ hz))with e | hz'
   ·subst e;exact absurd hz n1
   ·exact hz'
  ·intro hz;rcases Xu.mp ((h z).mpr (Xn _ hz))with e | hz'
   ·subst e;exact absurd hz m1
   ·exact hz'
end _K
namespace _P
open PySem PySem.Spec _L
open PyProof.Rows hiding St
noncomputable abbrev PFB:=List PV->(List PV->Prop)->Prop
noncomputable abbrev TXS:=(Addr->Prop)->TPS
noncomputable abbrev TXE:=(Addr->Prop)->TPE
noncomputable abbrev PFX:=List PV->(PV->Kd->Prop)->(Addr->Prop)->Prop
noncomputable abbrev TXI:=(Addr->Prop)->TPI
section
variable {X:Cx}{o e a b:Expr}{to te ta tb:TPE}{es:List Expr}{t:TPA}{p pos apos cpos:Pos}
noncomputable def fAny:PF:=λds Q=>∃bs:List Bool,ds=[.lst (bs.map PV.bl)]/\Q (.bl (bs.any id)) .frz
end
end _P
namespace _HK
open PySem PySem.W
noncomputable def frag (h:Heap):Frag:=(Xs h.objs.size).filterMap λa=>(h.get? a).map λo=>(a,o)
theorem zro (h:Heap):(frag h).In h:=by
 intro a o e;unfold frag at e;generalize Xs h.objs.size=l at e;induction l with
 | nil=>cases e
 | cons b l ih=>
  rw[List.filterMap_cons]at e;cases hb:h.get? b with
  | none=>rw[hb]at e;exact ih e
  | some o'=>
   rw[hb]at e;dsimp only[Option.map_some]at e;rw[Yl]at e;by_cases z:a=b
   ·subst z;rw[beq_self_eq_true]at e;cases e;exact hb
   ·rw[beq_false_of_ne z]at e;exact ih e
noncomputable def hook {T:Type}(see:Frag->T)(told:T):Hook:=
 ⟨T,λs=>see (frag s.heap),λ_=>told,λ_ h=>∃K:Frag,K.In h/\see K=told,λ_ s e=>⟨_,zro _,e⟩,λ_ _ _ q143q k=>by obtain⟨K,x,e⟩:=q143q;exact⟨K,x.keeps k,e⟩⟩
noncomputable abbrev Seen:=Option (Str×Str×Arguments×FuncBody×Scope×Addr×List (Str×Addr)×Value×Addr×Bool)
noncomputable def zaz (K:Frag)(v:Option (Option Value)):Seen:=match v with
 | some (some (.ref f))=>(match K.lookup f with
  | some ⟨_,_,.func d,_⟩=>some (d.name,d.qualname,d.params,d.body,d.scope,d.globals,d.closure,d.defaults,d.builtins,codeIn K d.code d.qualname&&keepIn K (.ref f)&&isFn K (.ref f))
  | _=>none)
 | _=>none
noncomputable def zaA (n q:Str)(a:Arguments)(b:List Stmt)(c:Scope):Seen:=some (n,q,a,.stmts b,c,mainGlobals,[],.none,builtinsNs,true)
theorem znZ {K:Frag}{v:Option (Option Value)}{n q:Str}{a:Arguments}{b:List Stmt}{c:Scope}(e:zaz K v=zaA n q a b c) :
  ∃(f:Addr) (oc:Value) (od:Option Addr) (sl:Array (Option Value)) (kV dc pm:Value) (an:Option Addr) (cd ct:Value),v=some (some (.ref f))/\K.lookup f=some ⟨oc,od,.func (fnOf n q a b c .none kV dc pm an cd ct),sl⟩/\codeIn K cd q=true/\keepIn K (.ref f)=true/\isFn K (.ref f)=true:=by
 unfold zaz zaA at e;split at e
 ·rename_i f
  split at e
  ·rename_i oc od d sl hl
   obtain⟨d1,d2,d3,d4,d5,d6,d7,d8,d9,d10,d11,d12,d13,d14,d15⟩:=d;simp only[Option.some.injEq,Prod.mk.injEq,Yn]at e;obtain⟨rfl,rfl,rfl,rfl,rfl,rfl,rfl,rfl,rfl,⟨h1,h2⟩,h3⟩:=e;exact⟨f,_,_,_,_,_,_,_,_,_,rfl,hl,h1,h2,h3⟩
  ·cases e
 ·cases e
noncomputable def ref? (v:Option (Option Value)):Addr:=match v with
 | some (some (.ref a))=>a
 | _=>0
noncomputable def isRef (v:Option (Option Value)):Bool:=match v with
 | some (some (.ref _))=>true
 | _=>false
theorem ztg {v:Option (Option Value)}(e:isRef v=true):v=some (some (.ref (ref? v))):=by
 unfold isRef at e;split at e
 ·rfl
 ·cases e
noncomputable def fdAt (K:Frag)(v:Option (Option Value)):FuncData:=match K.lookup (ref? v)with
 | some ⟨_,_,.func d,_⟩=>d
 | _=>default
structure Def (K:Frag)(n q:Str)(st:Stmt)(v:Option (Option Value)):Prop where
 fn:_L.Fun K n q st (ref? v) (fdAt K v)
 ad:v=some (some (.ref (ref? v)))
 kp:keepIn K (.ref (ref? v))=true
 is:isFn K (.ref (ref? v))=true
theorem zaD {K:Frag}{v:Option (Option Value)}{n q:Str}{st:Stmt}(e:zaz K v=zaA n q (_L.zam st) (_L.zal st) (_L.zac st)):Def K n q st v:=by
 obtain⟨f,oc,od,sl,kV,dc,pm,an,cd,ct,rfl,l,c,k,m⟩:=znZ e;have h:fdAt K (some (some (.ref f)))=fnOf n q (_L.zam st) (_L.zal st) (_L.zac st) .none kV dc pm an cd ct:=by
  unfold fdAt ref?;rw[l]
 exact⟨h▸_L.zpq l c k,rfl,k,m⟩
theorem pick {α:Type}{l m:List α}(h:l=m)(i:Nat):l[i]? = m[i]?:=by rw[h]
end _HK
namespace _P
open PySem PySem.Spec _L
open PyProof.Rows hiding St
theorem zuj {l:PySem.W.OpenLaw}{k:Nat}{q:Program}{loose:List Str}{XP:(Str->Option Value)->Heap->Prop}{YP:World->Heap->Prop}{d:DefRec}{G:Xa->Prop}{FL:PF}{x:Str}
  (hn:l.most=some 63) (hdf:d.params.defaults=[]) (hr:Room k callerA) (m:zaX FL)
  (hY:∀(w:World) (h:Heap),YP w h->∃K:Xa,K.In h/\G K)
  (F:∀(w:World) (mg:Str->Option Value) (fa:Addr) (h:Heap) (K:Xa),G K->K.In h->h.Ns mainGlobals mg->mg d.name=some (.ref fa)->
   ∃fd:FuncData,(∀(s:Shared) (u:Value),BindsTo s fd ⟨[u],[]⟩ [(x,u)])/\∀base:Heap,K.In base->base.Ns mainGlobals mg->FnOk l.prog w K mg base CX0 k fa fd [x] (spP K FL))
  (hF:∀ns:List Int,ns.length<=63->FL [.lst (ns.map PV.int)] λd k=>d=.bl true) :
  PySem.W.WalkO q loose XP YP l.row.toRowW d [] (λf vs=>PySem.call f vs):=by
 refine _A.zja hn hdf λw s₀ s₁ mg mb fa o pm cd doc a vs ns Gd Y ho hd hcd hmg hobj hints hlen hg=>?_;obtain⟨K,KX,gk⟩:=hY w _ Y;obtain⟨fd,hb,hFn⟩:=F w mg fa _ K gk KX Gd.T.g hmg;exact zmH KX Gd.T.g Gd.T.b Gd.T.builtins Gd.T.nolimit hg hobj hints (XO hlen (by decide)) hr hFn hb (λH hO hS=>zsH m hS (hF ns hlen)) λH e s' z=>z
end _P
namespace _Q
open PySem PySem.Spec _L _P
open PyProof.Rows hiding St
noncomputable def top (i:Nat):Stmt:=PySem.Challenge.pw_joinwood_k42_filled_to_the_bound.main.body.getD i (.Pass ⟨0,0,0,0⟩)
noncomputable abbrev zaR:Stmt:=top 1
noncomputable abbrev zax:Stmt:=top 3
noncomputable abbrev sGcd:Stmt:=top 5
noncomputable abbrev zbf:Stmt:=top 6
noncomputable abbrev zdJ:Stmt:=top 7
noncomputable abbrev zeI:Stmt:=top 8
noncomputable abbrev zbM:Stmt:=top 9
noncomputable abbrev zcl:Stmt:=top 10
noncomputable abbrev zdK:Stmt:=top 12
noncomputable abbrev zcv:Stmt:=top 13
noncomputable abbrev zbU:Stmt:=top 14
noncomputable abbrev zbB:Stmt:=top 15
noncomputable abbrev sAny:Stmt:=top 16
noncomputable abbrev zgl:Stmt:=top 17
noncomputable abbrev zhq:Stmt:=top 18
noncomputable abbrev zeJ:Stmt:=top 19
noncomputable abbrev zbC:Stmt:=top 20
noncomputable abbrev zcb:Stmt:=top 21
noncomputable abbrev zcT:Stmt:=top 22
noncomputable abbrev zgm:Stmt:=top 23
noncomputable abbrev zbN:Stmt:=top 24
noncomputable abbrev zeK:Stmt:=top 25
noncomputable abbrev sLaw:Stmt:=top 26
noncomputable abbrev zdL:Stmt:=(zcB (top 4)).getD 0 (.Pass ⟨0,0,0,0⟩)
noncomputable abbrev sCol:Stmt:=(zcB (top 4)).getD 1 (.Pass ⟨0,0,0,0⟩)
noncomputable abbrev zcm:Stmt:=(zcB (top 4)).getD 2 (.Pass ⟨0,0,0,0⟩)
noncomputable abbrev zgn:Stmt:=(zcB (top 4)).getD 3 (.Pass ⟨0,0,0,0⟩)
noncomputable abbrev zbl:Stmt:=(zcB (top 4)).getD 4 (.Pass ⟨0,0,0,0⟩)
noncomputable abbrev zfU:Stmt:=(zcB (top 4)).getD 5 (.Pass ⟨0,0,0,0⟩)
noncomputable abbrev zcU:Stmt:=(zcB (top 4)).getD 6 (.Pass ⟨0,0,0,0⟩)
noncomputable abbrev zdM:Stmt:=(zcB (top 4)).getD 7 (.Pass ⟨0,0,0,0⟩)
noncomputable abbrev zcD:Stmt:=(zcB (top 4)).getD 8 (.Pass ⟨0,0,0,0⟩)
noncomputable abbrev zcV:Stmt:=(zcB (top 4)).getD 9 (.Pass ⟨0,0,0,0⟩)
theorem take_snoc {α:Type}{l:List α}{i:Nat}{o:α}(h:l[i]? = some o):l.take i++[o]=l.take (i+1):=by rw[List.take_add_one,h];rfl
theorem zgG (n:Nat)(ss:List Str):(ss.map PV.str).all (_P.plain n)=true:=by
 rw[XV];intro d hd;obtain⟨x,_,rfl⟩:=XI.mp hd;cases n<;>rfl
theorem zfr {x:Str}{r:List Str}:PV.str x∈r.map PV.str↔x∈r:=by simp
noncomputable def ltsP (ls:List Str):PV:=.tup (ls.map PV.str)
noncomputable def shpP (sh:List (List Str)):PV:=.lst (sh.map ltsP)
structure Names (sh:List (List Str))(ns:List Str):Prop where
 nd:ns.Nodup
 mem:∀x,x∈ns↔∃p∈sh,x∈p
 srt:sortedS ns=true
theorem Names.uniq {sh:List (List Str)}{a b:List Str}(h1:Names sh a)(h2:Names sh b):a=b:=
 _K.zgF (_K.ziy a h1.srt) (_K.ziy b h2.srt) h1.nd h2.nd λx=>(h1.mem x).trans (h2.mem x).symm
structure Shp (sh:List (List Str)):Prop where
 m1:1<=sh.length
 m6:sh.length<=6
 wid:∀p∈sh,p.length<=4
 nd:∀p∈sh,p.Nodup
 six:∀ns:List Str,ns.Nodup->(∀x∈ns,∃p∈sh,x∈p)->ns.length<=6
noncomputable def zav:PF:=λds Q=>∃sh:List (List Str),ds=[shpP sh]/\Shp sh/\∀zs:List Str,Names sh zs->Q (.lst (zs.map PV.str)) .new
theorem zdN:zaX zav:=λds Q Q' m q144q=>by obtain⟨sh,e,h1,q⟩:=q144q;exact⟨sh,e,h1,λzs g=>m _ _ (q zs g)⟩
noncomputable def zaY (sh:List (List Str))(L:List Str)(c k:Nat):Int:=
 if c<L.length then if k<sh.length then if L.getD c Str.empty∈sh.getD k [] then 1 else 0 else -1
 else if c<L.length+sh.length then if k=c-L.length then 1 else 0 else if k<sh.length then 1 else 0
noncomputable def pbOf {sh:List (List Str)}{L:List Str}(h:Names sh L):_M.Pb where
 m:=sh.length
 n:=L.length
 col:=zaY sh L
 spare k hk j hj:=by unfold zaY;rw[if_neg (by lia),if_pos (by lia),show L.length+k-L.length=k by lia]
 rhs k hk:=by unfold zaY;rw[if_neg (by lia),if_neg (by lia),if_pos hk]
 rhsm:=by unfold zaY;rw[if_neg (by lia),if_neg (by lia),if_neg (by lia)]
 bin c hc k hk:=by
  unfold zaY;rw[if_pos hc,if_pos hk];split
  ·exact .inr rfl
  ·exact .inl rfl
 low c hc:=by unfold zaY;rw[if_pos hc,if_neg (by lia)]
 has c hc:=by
  have e:L[c]? = some (L.getD c Str.empty):=by rw[XE,Xf hc];rfl
  obtain⟨p,hp,hx⟩:=(h.mem _).mp (Xr e);obtain⟨k,hk,hg⟩:=List.getElem_of_mem hp;refine⟨k,hk,?_⟩;unfold zaY;rw[if_pos hc,if_pos hk,if_pos];rw[show sh.getD k []=p by rw[XE,Xf hk,hg];rfl];exact hx
noncomputable def rowC (p:_M.Pb)(g:Nat->Int):PV:=.lst (((Xs (p.n+p.m+1)).map g).map PV.int)
noncomputable def ziz (p:_M.Pb)(g:Nat->Nat->Int):PV:=.lst ((Xs (p.m+1)).map λr=>rowC p (g r))
noncomputable def zas:PF:=λds Q=>∃(sh:List (List Str))(L:List Str)(h:Names sh L),ds=[shpP sh,.lst (L.map PV.str)]/\Shp sh/\Q (ziz (pbOf h) λr c=>zaY sh L c r) .new
theorem zfV:zaX zas:=λds Q Q' m q145q=>by obtain⟨a,b,c,e,h,q⟩:=q145q;exact⟨a,b,c,e,h,m _ _ q⟩
theorem zfW (n m:Nat)(g:Nat->Int):((Xs (n+m+1)).map g).map PV.int=(Xs n).map (λc=>PV.int (g c))++(Xs m).map (λj=>PV.int (g (n+j)))++[PV.int (g (n+m))]:=by
 rw[List.map_map,Yb,List.range_add,Xk,Xk,List.map_map];rfl
open Lean in
def puM:MacroM (TSyntax `tactic):=do
 let es<-("fCol zbn zdv zbc zdG zbo zda zdb zbV zbD fGcd zaV zbY zbK zaW zbE zhy tE fAny ziI zdO zdP zcw zeN zbW zcW zgo zeb zge zcc zgf rE".splitOn " ").filterM λn=>return !(<-Macro.resolveGlobalName n.toName).isEmpty;let ls<-("pSeq pIdx fSum zdV zcr zdE zcz pSet pRet pIf zcA zbR mApp zet pUnp zaZ zdc zbg zdd t2 i0 i2 pVar pC zar pNil pTup pLst noOwn isOwn tBl blP zdk tOrP zcM tTru zes TruP zep zeq tIfE pEq pIn pIsN pIx ixV pCat _P.tB fLen LenP zdA zbS zch fIsi NoT _P.isObj pFld zcq zez zaF zbb pSlL zdB zdC zcP zbm iLst zer pDG zdU zdD fAll zcj pSlS zci pFor zcg _P.plain zaT zba blkP List.map_cons List.map_nil List.length_cons List.length_nil List.cons_append List.nil_append List.replicate List.getElem?_cons_zero List.getElem?_cons_succ List.getElem?_nil Option.getD_some Option.getD_none List.set_cons_zero List.set_cons_succ List.cons.injEq Option.some.injEq Prod.mk.injEq PV.int.injEq PV.bl.injEq PV.str.injEq PV.lst.injEq PV.tup.injEq PV.ty.injEq PV.dK.injEq exists_eq_left' exists_eq_left exists_eq' exists_eq exists_and_left exists_and_right exists_eq_right true_and and_true reduceCtorEq false_and and_false false_or or_false exists_false exists_const Bool.false_eq_true if_true if_false and_assoc ite_true ite_false Bool.not_eq_true' decide_eq_true_eq decide_eq_false_iff_not Bool.not_false Bool.not_true true_or or_true not_true_eq_false not_false_eq_true Bool.and_eq_true Nat.zero_add Nat.sub_self Nat.reduceAdd Nat.reduceSub implies_true ne_eq zbG zbr Bool.true_and Bool.and_true List.all_nil pFrz zdl pNeg zSeq zSet zck zeC zFld zPut zeD zcs zeE zeF zbA zct zbz zaI iItm zdW zeA pLtT ltsP shpP zav zas".splitOn " "++es).toArray.mapM λn=>`(Lean.Parser.Tactic.simpLemma|$(mkIdent n.toName):term)
 `(tactic|first|(dsimp only[$ls,*];try simp only[$ls,*])|simp only[$ls,*])
local macro_rules | `(tactic| walk_at "pu")=>puM
local macro_rules | `(tactic| walk_at "go")=>`(tactic| ((first | (with_reducible refine hold ?_) | (with_reducible refine zbP ?_) | (with_reducible refine holdB ?_));walk_at "pu"))
local macro_rules | `(tactic| walk_at "side")=>`(tactic| first | assumption | decide | lia | exact⟨by decide,by decide⟩ | exact⟨by decide,by decide,by decide⟩ | exact Or.inl ⟨by lia,by lia⟩ | exact Or.inr ⟨by lia,by lia⟩)
local macro_rules | `(tactic| walk_at "auto")=>`(tactic| repeat (first | ((with_reducible refine hold ?_);walk_at "pu") | ((with_reducible refine zbP ?_);walk_at "pu") | ((with_reducible refine And.intro ?_ ?_);(· walk_at "side"))))
section
variable {P:Program}{w:World}{K:Xa}{mg:Str->Option Value}{base:Heap}
theorem zfX:zap ["shape","found","letters"] ["shape"] (zac zaR):=⟨rfl,rfl,rfl,by decide +kernel,rfl,by decide +kernel,by decide +kernel⟩
theorem zfi {f:Addr}{fd:FuncData}(F:Fun K "letters_of" "letters_of" zaR f fd) (B:Bl mg):FnOk P w K mg base CX0 1 f fd ["shape"] (spP K zav):=by
 refine zaw F zfX (λds Q q146q=>by obtain⟨c,e,_⟩:=q146q;rw[e];rfl) (λcdv A outer s H E hr=>?_);have hu:(A.deeper (envOfC "letters_of" (zac zaR) s.heap.objs.size f cdv)).units+16<cLine:=by have q:=hr.units;lia
 have nd:=zfX.nd;refine⟨_,(zad (zai (i:=1) nd rfl (Or.inl rfl) (zbF zae))
   (zad (zaQ rfl PassesOwn.never (zaN (zaa 0)) (zak (i:=2) nd rfl (Or.inl rfl)) (zaf (zbi (zot 1 (zaa 2)))))
   (zaf (zan (zlc rfl rfl B.sorted rfl B.set (zaa 1)))))),λds Q h=>?_⟩
 obtain⟨sh,rfl,S,q⟩:=h;have h6:=S.m6;have h4:=S.wid;walk_at "pu";walk_at "auto";obtain⟨Iv,hIv⟩:∃Iv:Nat->PEnv->Prop,∀i ρ,Iv i ρ↔∃(fs:List Str) (kv:Option (PV×Bool)),ρ=[some (PV.lst (sh.map ltsP),false),some (PV.lst (fs.map PV.str),true),kv]/\fs.length<=4*i/\∀x,x∈fs↔∃p∈sh.take i,x∈p:=⟨_,λ_ _=>Iff.rfl⟩;refine⟨Iv,(hIv _ _).mpr ⟨[],none,rfl,Yh _,λx=>by simp⟩,?_,?_⟩
 ·intro i d ρ hd hI;obtain⟨fs,kv,rfl,l1,hm⟩:=(hIv _ _).mp hI;rw[Xi]at hd;cases hp:sh[i]? with
  | none=>rw[hp]at hd;cases hd
  | some p=>
   rw[hp]at hd;cases hd;have hil:i<sh.length:=(Xd.mp hp).1;have hle:=h4 p (Xr hp);walk_at "go";refine⟨by rw[Xb,Xb,sizeLine_eq];lia,(hIv _ _).mpr ⟨fs++p,_,by rw[Xk],by rw[Xq];lia,λy=>?_⟩⟩;rw[XZ,hm,List.take_add_one,hp];simp only[Option.toList_some,XZ,Xw];constructor
   ·rintro(⟨p,h1,h2⟩ | h)
    ·exact⟨p,.inl h1,h2⟩
    ·exact⟨_,.inr rfl,h⟩
   ·rintro⟨p,h1 | rfl,h2⟩
    ·exact .inl ⟨p,h1,h2⟩
    ·exact .inr h2
 ·intro ρ hI;obtain⟨fs,kv,rfl,l1,hm⟩:=(hIv _ _).mp hI;rw[Xb]at l1 hm;walk_at "go";refine⟨fs,rfl,by lia,λzs n1 n2 n3=>q zs ⟨n1,λx=>?_,n3⟩⟩;rw[n2,hm,XJ (Xg _)]
theorem zfj:zap ["shape","letters","lines","i","own","has","spare"] ["shape","letters"] (zac zax):=⟨rfl,rfl,rfl,by decide +kernel,rfl,by decide +kernel,by decide +kernel⟩
theorem zhr {f:Addr}{fd:FuncData}(F:Fun K "first_lines" "first_lines" zax f fd) (B:Bl mg):FnOk P w K mg base CX0 1 f fd ["shape","letters"] (spP K zas):=by
 refine zaw F zfj (λds Q q147q=>by obtain⟨a,b,c,e,_⟩:=q147q;rw[e];rfl) (λcdv A outer s H E hr=>?_);have hu:(A.deeper (envOfC "first_lines" (zac zax) s.heap.objs.size f cdv)).units+16<cLine:=by have q:=hr.units;lia
 have nd:=zfj.nd;refine⟨_,(zad (zai (i:=2) nd rfl (Or.inl rfl) (zbF zae))
   (zad (zaQ rfl PassesOwn.never (zke rfl B.enumerate (zaa 0)) (zdm (n:=2) rfl (zaB (zak (i:=3) nd rfl (Or.inr rfl)) (zaB (zak (i:=4) nd rfl (Or.inr rfl)) zcp))) (zad (zfo (i:=5) (N:=["letter","own"]) (k:=1) (js:=[4]) rfl (zdi (sup:=zac zax) (XN:=["shape","letters","lines","i","own","has","spare"]) rfl rfl (by decide +kernel)) (by decide) (zaM (by decide)) (zaN (zaa 1)) ⟨λ_ _ _ _ _=>(zak (i:=0) (by show(["letter","own"]:List Str).Nodup;decide +kernel) rfl (Or.inl rfl)),λ_ _ _ _ _=>zaO,λ_ _ _ _ _=>(zha (zpt hu (zaa 0) (zaa 1)) zag zag)⟩ nd rfl rfl)
   (zad (zfo (i:=6) (N:=["j","i"]) (k:=1) (js:=[3]) rfl (zdi (sup:=zac zax) (XN:=["shape","letters","lines","i","own","has","spare"]) rfl rfl (by decide +kernel)) (by decide) (zaM (by decide)) (zaP rfl B.range (zab (zaU rfl B.len (zab (zaa 0) zae)) zae)) ⟨λ_ _ _ _ _=>(zak (i:=0) (by show(["j","i"]:List Str).Nodup;decide +kernel) rfl (Or.inl rfl)),λ_ _ _ _ _=>zaO,λ_ _ _ _ _=>(zha (zfh hu (zaa 0) (zaa 1)) zag zag)⟩ nd rfl rfl)
   (zaf (zbi (zbs 2 (zdp (zdp (zaa 5) (zaa 6)) (zbF (zab zag zae)))))))))
   (zad (zbi (zbs 2 (zdp (zdp (zbx (N:=["letter"]) (k:=1) (js:=[]) rfl (zdi (sup:=zac zax) (XN:=["shape","letters","lines","i","own","has","spare"]) rfl rfl (by decide +kernel)) (by decide) (zaM (by decide)) (zaN (zaa 1)) ⟨λ_ _ _ _ _=>(zak (i:=0) (by show(["letter"]:List Str).Nodup;decide +kernel) rfl (Or.inl rfl)),λ_ _ _ _ _=>zaO,λ_ _ _ _ _=>(zfQ zag)⟩) (zbx (N:=["own"]) (k:=1) (js:=[]) rfl (zdi (sup:=zac zax) (XN:=["shape","letters","lines","i","own","has","spare"]) rfl rfl (by decide +kernel)) (by decide) (zaM (by decide)) (zaN (zaa 0)) ⟨λ_ _ _ _ _=>(zak (i:=0) (by show(["own"]:List Str).Nodup;decide +kernel) rfl (Or.inl rfl)),λ_ _ _ _ _=>zaO,λ_ _ _ _ _=>zag⟩)) (zbF (zab zag zae)))))
   (zaf (zan (zaa 2)))))),λds Q h=>?_⟩
 obtain⟨sh,L,hN,rfl,S,q⟩:=h;have h6:=S.m6;have hL:=S.six L hN.nd λx hx=>(hN.mem x).mp hx;have hsz:=sizeLine_eq;walk_at "pu";walk_at "auto";obtain⟨Iv,hIv⟩:∃Iv:Nat->PEnv->Prop,∀i ρ,Iv i ρ↔∃(k1 k2 k3 k4:Option (PV×Bool)),ρ=[some (PV.lst (List.map ltsP sh),false),some (PV.lst (List.map PV.str L),false),some (PV.lst ((Xs i).map λr=>rowC (pbOf hN) λc=>zaY sh L c r),true),k1,k2,k3,k4]:=⟨_,λ_ _=>Iff.rfl⟩;refine⟨Iv,(hIv _ _).mpr ⟨_,_,_,_,rfl⟩,?_,?_⟩
 ·intro i d ρ hd hI;obtain⟨k1,k2,k3,k4,rfl⟩:=(hIv _ _).mp hI;obtain⟨x,hx,rfl⟩:=zfO hd;rw[Xi]at hx;cases hp:sh[i]? with
  | none=>rw[hp]at hx;cases hx
  | some p=>
   rw[hp]at hx;cases hx;have hi:=(Xd.mp hp).1;have hg:sh.getD i []=p:=by rw[XE,hp];rfl
   refine⟨_,rfl,rfl,_,_,rfl,_,_,rfl,rfl,?_⟩;walk_at "go";refine⟨by rw[Xb];lia,λk out=>out=(Xs k).map λc=>PV.int (zaY sh L c i),rfl,?_,?_⟩
   ·rintro k d out hd-rfl;rw[Xi]at hd;cases hl:L[k]? with
    | none=>rw[hl]at hd;cases hd
    | some l=>
     rw[hl]at hd;cases hd;have hk:=(Xd.mp hl).1;have hc:zaY sh L k i=if l∈p then 1 else 0:=by
      unfold zaY;rw[if_pos hk,if_pos hi,hg,XE,hl];rfl
     refine⟨rfl,zgG _ _,?_⟩;have hz:∀z:Int,zaY sh L k i=z->(Xs k).map (λc=>PV.int (zaY sh L c i))++[PV.int z]=(Xs (k+1)).map λc=>PV.int (zaY sh L c i):=λz e=>by rw[Yb,Xk,List.map_singleton,e]
     refine ite2 (λe=>hz 1 ?_) (λe=>hz 0 ?_)
     ·rw[hc,if_pos (zfr.mp e)]
     ·rw[hc,if_neg λz=>e (zfr.mpr z)]
   ·rintro out-rfl;walk_at "go";simp only[Xb,zbe];refine⟨by lia,by lia,by lia,λk out=>out=(Xs k).map λj=>PV.int (zaY sh L (L.length+j) i),rfl,?_,?_⟩
    ·rintro k d out hd-rfl;obtain⟨hk,rfl⟩:=zbL hd;have hc:zaY sh L (L.length+k) i=if i=k then 1 else 0:=by
      unfold zaY;rw[if_neg (by lia),if_pos (by lia),show L.length+k-L.length=k by lia]
     have hz:∀z:Int,zaY sh L (L.length+k) i=z->(Xs k).map (λj=>PV.int (zaY sh L (L.length+j) i))++[PV.int z]=(Xs (k+1)).map λj=>PV.int (zaY sh L (L.length+j) i):=λz e=>by rw[Yb,Xk,List.map_singleton,e]
     refine⟨rfl,ite2 (λe=>hz 1 ?_) (λe=>hz 0 ?_)⟩
     ·have:=PV.int.inj e;rw[hc,if_pos (by lia)]
     ·rw[hc,if_neg λz=>e (by rw[z,Int.zero_add])]
    ·rintro out-rfl;walk_at "go";simp only[Xb,XA,Xq];have e:(Xs i).map (λr=>rowC (pbOf hN) λc=>zaY sh L c r)++[PV.lst ((Xs L.length).map (λc=>PV.int (zaY sh L c i))++(Xs (sh.length:Int).toNat).map (λj=>PV.int (zaY sh L (L.length+j) i))++[PV.int 1])]=(Xs (i+1)).map λr=>rowC (pbOf hN) λc=>zaY sh L c r:=by
      rw[Yb,Xk,List.map_singleton,XU]
      congr 2
      unfold rowC;rw[zfW];show _=PV.lst (_++_++[PV.int (zaY sh L (L.length+sh.length) i)]);rw[show zaY sh L (L.length+sh.length) i=1 from(pbOf hN).rhs i hi];rfl
     rw[e];exact⟨by lia,by lia,by lia,by lia,(hIv _ _).mpr ⟨_,_,_,_,rfl⟩⟩
 ·intro ρ hI;obtain⟨k1,k2,k3,k4,rfl⟩:=(hIv _ _).mp hI;walk_at "go";rw[zfP];simp only[Xb,XA,Xq];refine⟨by lia,by lia,λk out=>out=(Xs k).map λc=>PV.int (-1),rfl,?_,?_⟩
  ·rintro k d out hd-rfl;show _=_;rw[Yb,Xk];rfl
  ·rintro out-rfl;refine⟨by lia,λk out=>out=(Xs k).map λc=>PV.int 0,rfl,?_,?_⟩
   ·rintro k d out hd-rfl;show _=_;rw[Yb,Xk];rfl
   ·rintro out-rfl;simp only[Xb,XA];refine⟨by lia,by lia,by lia,?_⟩;walk_at "go";have e:(Xs sh.length).map (λr=>rowC (pbOf hN) λc=>zaY sh L c r)++[PV.lst ((Xs L.length).map (λc=>PV.int (-1))++(Xs sh.length).map (λc=>PV.int 0)++[PV.int 0])]=(Xs (sh.length+1)).map λr=>rowC (pbOf hN) λc=>zaY sh L c r:=by
     rw[Yb,Xk,List.map_singleton]
     congr 2
     unfold rowC;rw[zfW];show _=PV.lst (_++_++[PV.int (zaY sh L (L.length+sh.length) sh.length)]);rw[show zaY sh L (L.length+sh.length) sh.length=0 from(pbOf hN).rhsm]
     congr 3
     ·exact List.map_congr_left λc hc=>congrArg PV.int ((pbOf hN).low c (Yk.mp hc)).symm
     ·refine List.map_congr_left λc hc=>congrArg PV.int ?_;have hc:=Yk.mp hc;show 0=zaY sh L (L.length+c) sh.length;unfold zaY;rw[if_neg (by lia),if_pos (by lia),if_neg (by lia)]
    rw[e];exact q
end
open _M (Pb Gd tb bt Ent Lev)
structure TF (K:Xa)(C:Addr):Prop where
 c:Cls K C
 width:zbX K C "width"
 bottom:zbX K C "bottom"
 lines:zbX K C "lines"
 held:zbX K C "held"
noncomputable abbrev bks:List Str:=["width","bottom","lines"]
noncomputable def brdD (p:Pb)(h:List Nat):List PV:=[.int p.n,.int (bt p h),ziz p (tb p h)]
noncomputable def zbJ (h:List Nat):List Int:=h.map λ(k:Nat)=>(k:Int)
noncomputable def brdP (C:Addr)(p:Pb)(h:List Nat):PV:=objOf C bks "held" (brdD p h) (zbJ h)
structure Sm (p:Pb):Prop where
 m1:1<=p.m
 m6:p.m<=6
 n6:p.n<=6
theorem zgH {p:Pb}{g:Nat->Int}{c:Nat}(h:c<=p.n+p.m):atI (((Xs (p.n+p.m+1)).map g).map PV.int) ((c:Nat):Int)=some (.int (g c)):=zbd (by simp[Yu (show c<p.n+p.m+1 by lia)])
theorem zhs {p:Pb}{g:Nat->Int}:atI (((Xs (p.n+p.m+1)).map g).map PV.int) (-1)=some (.int (g (p.n+p.m))):=by
 rw[Yb,Xk,Xk];exact _L.zjF _ _
theorem zdZ {p:Pb}{g:Nat->Nat->Int}{r:Nat}(h:r<=p.m):atI ((Xs (p.m+1)).map λr=>rowC p (g r)) ((r:Nat):Int)=some (rowC p (g r)):=zbd (by simp[Yu (show r<p.m+1 by lia)])
theorem ziA {p:Pb}{g:Nat->Nat->Int}:atI ((Xs (p.m+1)).map λr=>rowC p (g r)) (-1)=some (rowC p (g p.m)):=by
 rw[Yb,Xk];exact _L.zjF _ _
theorem zht {p:Pb}{h:List Nat}(G:Gd p h){i:Nat}(hi:i<p.m):atI ((zbJ h).map PV.int) ((i:Nat):Int)=some (.int (h.getD i 0:Nat)):=by
 have hl:i<h.length:=by rw[G.len];exact hi
 refine zbd ?_;unfold zbJ;rw[Xi,Xi,XE,Xf hl];rfl
noncomputable def fCol (C:Addr):PF:=λds Q=>∃(p:Pb)(h:List Nat),ds=[brdP C p h]/\Gd p h/\Sm p/\(∀j:Nat,Ent p h j->Q (.int j) .frz)/\((∀c,c<p.n+p.m->0<=tb p h p.m c)->Q .non .frz)
theorem zkn {C:Addr}:zaX (fCol C):=λds Q Q' m q148q=>by obtain⟨a,b,e,h1,h2,q1,q2⟩:=q148q;exact⟨a,b,e,h1,h2,λj h=>m _ _ (q1 j h),λh=>m _ _ (q2 h)⟩
noncomputable def soon (p:Pb)(h:List Nat)(i k j:Nat):Bool:=_H.lexLt [tb p h i (p.n+p.m)*tb p h k j,(h.getD i 0:Nat)] [tb p h k (p.n+p.m)*tb p h i j,(h.getD k 0:Nat)]
theorem zko {p:Pb}{h:List Nat}{i k j:Nat}:soon p h i k j=true↔tb p h i (p.n+p.m)*tb p h k j<tb p h k (p.n+p.m)*tb p h i j\/(tb p h i (p.n+p.m)*tb p h k j=tb p h k (p.n+p.m)*tb p h i j/\h.getD i 0<h.getD k 0):=by
 unfold soon;rw[_H.zeQ,_H.zeQ,_H.zee];generalize tb p h i (p.n+p.m)*tb p h k j=a;generalize tb p h k (p.n+p.m)*tb p h i j=b;split
 ·split
  ·rw[XL,false_iff];lia
  ·rw[decide_eq_true_eq];lia
 ·rw[decide_eq_true_eq];lia
noncomputable def sle (p:Pb)(h:List Nat)(j i r:Nat):Prop:=tb p h i (p.n+p.m)*tb p h r j<tb p h r (p.n+p.m)*tb p h i j\/(tb p h i (p.n+p.m)*tb p h r j=tb p h r (p.n+p.m)*tb p h i j/\h.getD i 0<=h.getD r 0)
theorem zth {p:Pb}{h:List Nat}{j k i r:Nat}(hk:0<tb p h k j)(hi:0<tb p h i j)(hr:0<tb p h r j)(h1:sle p h j k i)(h2:sle p h j i r):sle p h j k r:=by
 unfold sle at *;have e1:=_M.ratio (a:=tb p h k (p.n+p.m)) (b:=tb p h k j) (c:=tb p h i (p.n+p.m)) (d:=tb p h i j) (e:=tb p h r (p.n+p.m)) (f:=tb p h r j) hi hr hk;have e2:=_M.zho (a:=tb p h k (p.n+p.m)) (b:=tb p h k j) (c:=tb p h i (p.n+p.m)) (d:=tb p h i j) (e:=tb p h r (p.n+p.m)) (f:=tb p h r j) hi hr hk;have e3:=_M.ratio (a:=tb p h r (p.n+p.m)) (b:=tb p h r j) (c:=tb p h i (p.n+p.m)) (d:=tb p h i j) (e:=tb p h k (p.n+p.m)) (f:=tb p h k j) hi hk hr;rcases h1 with h1 | ⟨h1,g1⟩
 ·exact .inl (e2 (.inl ⟨h1,h2.elim YH λz=>Int.le_of_eq z.1⟩))
 ·rcases h2 with h2 | ⟨h2,g2⟩
  ·exact .inl (e2 (.inr ⟨Int.le_of_eq h1,h2⟩))
  ·exact .inr ⟨Int.le_antisymm (e1 (Int.le_of_eq h1) (Int.le_of_eq h2)) (e3 (Int.le_of_eq h2.symm) (Int.le_of_eq h1.symm)),XO g1 g2⟩
structure LevK (p:Pb)(h:List Nat)(j k i:Nat):Prop where
 lt:i<k
 pos:0<tb p h i j
 best:∀r,r<k->0<tb p h r j->sle p h j i r
theorem LevK.keep {p:Pb}{h:List Nat}{j k i:Nat}(L:LevK p h j k i)(e:¬ 0<tb p h k j\/¬ soon p h k i j=true):LevK p h j (k+1) i:=by
 refine⟨XS L.lt,L.pos,λr hr hp=>?_⟩;by_cases z:r=k
 ·subst z;rcases e with e | e
  ·exact absurd hp e
  ·rw[zko]at e;unfold sle;lia
 ·exact L.best r (by lia) hp
theorem LevK.new {p:Pb}{h:List Nat}{j k i:Nat}(L:LevK p h j k i)(hk:0<tb p h k j)(e:soon p h k i j=true):LevK p h j (k+1) k:=by
 have h1:sle p h j k i:=by
  rw[zko]at e;unfold sle;lia
 refine⟨XQ k,hk,λr hr hp=>?_⟩;by_cases z:r=k
 ·subst z;exact .inr ⟨rfl,Xg _⟩
 ·exact zth hk L.pos hp h1 (L.best r (by lia) hp)
noncomputable def zbn (C:Addr):PF:=λds Q=>∃(p:Pb)(h:List Nat)(i k j:Nat),ds=[brdP C p h,.int i,.int k,.int j]/\Gd p h/\Sm p/\i<p.m/\k<p.m/\j<p.n+p.m/\Q (.bl (soon p h i k j)) .frz
theorem zjn {C:Addr}:zaX (zbn C):=λds Q Q' m q149q=>by obtain⟨a,b,c,d,e,f,h1,h2,h3,h4,h5,q⟩:=q149q;exact⟨a,b,c,d,e,f,h1,h2,h3,h4,h5,m _ _ q⟩
noncomputable def zdv (C:Addr):PF:=λds Q=>∃(p:Pb)(h:List Nat)(j:Nat),ds=[brdP C p h,.int j]/\Gd p h/\Sm p/\j<p.n+p.m/\∀i:Nat,Lev p h j i->Q (.int i) .frz
theorem zno {C:Addr}:zaX (zdv C):=λds Q Q' m q150q=>by obtain⟨a,b,c,e,h1,h2,h3,q⟩:=q150q;exact⟨a,b,c,e,h1,h2,h3,λi h=>m _ _ (q i h)⟩
section
variable {P:Program}{w:World}{K:Xa}{mg:Str->Option Value}{base:Heap}
theorem zti:zap ["self","column","gain"] ["self"] (zac sCol):=⟨rfl,rfl,rfl,by decide +kernel,rfl,by decide +kernel,by decide +kernel⟩
theorem ztj {C f:Addr}{fd:FuncData}(F:Fun K "column_to_raise" "Board.column_to_raise" sCol f fd) (T:TF K C) (B:Bl mg):FnOk P w K mg base CX0 1 f fd ["self"] (spP K (fCol C)):=by
 refine zaw F zti (λds Q q151q=>by obtain⟨a,b,e,_⟩:=q151q;rw[e];rfl) (λcdv A outer s H E hr=>?_);have hu:(A.deeper (envOfC "Board.column_to_raise" (zac sCol) s.heap.objs.size f cdv)).units+16<cLine:=by have q:=hr.units;lia
 have nd:=zti.nd;refine⟨_,(zad (zaQ rfl PassesOwn.never (zke rfl B.enumerate (zao (zbj T.c T.lines (zaa 0)) (zfQ zag))) (zdm (n:=2) rfl (zaB (zak (i:=1) nd rfl (Or.inl rfl)) (zaB (zak (i:=2) nd rfl (Or.inl rfl)) zcp))) (zaf (zbQ (zjT (zaa 2) zag) (zaf (zan (zaa 1))) zaH)))
   (zaf (zan zhX))),λds Q h=>?_⟩
 obtain⟨p,h,rfl,G,S,q1,q2⟩:=h;have hsz:=sizeLine_eq;walk_at "pu";refine⟨_,_,rfl,_,rfl,_,.inl ⟨_,.inl rfl,ziA⟩,_,rfl,?_⟩;obtain⟨Iv,hIv⟩:∃Iv:Nat->PEnv->Prop,∀i ρ,Iv i ρ↔∃(k1 k2:Option (PV×Bool)),ρ=[some (brdP C p h,false),k1,k2]/\∀c,c<i->0<=tb p h p.m c:=⟨_,λ_ _=>Iff.rfl⟩;refine⟨Iv,(hIv _ _).mpr ⟨_,_,rfl,λc hc=>absurd hc (Nat.not_lt_zero _)⟩,?_,?_⟩
 ·intro i d ρ hd hI;obtain⟨k1,k2,rfl,hnn⟩:=(hIv _ _).mp hI;obtain⟨x,hx,rfl⟩:=zfO hd;have hi:i<p.n+p.m+1:=by
   have:=(Xd.mp hx).1;simpa using this
  have hx':x=.int (tb p h p.m i):=by
   rw[Xi,Xi,Yu hi]at hx;exact(Option.some.inj hx).symm
  subst hx';refine⟨_,rfl,rfl,_,_,rfl,_,_,rfl,rfl,?_⟩;walk_at "go";refine ite2 (λe=>?_) (λe=>?_)
  ·walk_at "go";refine q1 i ⟨?_,e,hnn⟩;by_cases z:i=p.n+p.m
   ·have:=_M.zte G;rw[z]at e;lia
   ·lia
  ·walk_at "go";refine(hIv _ _).mpr ⟨_,_,rfl,λc hc=>?_⟩;by_cases z:c=i
   ·subst z;lia
   ·exact hnn c (by lia)
 ·intro ρ hI;obtain⟨k1,k2,rfl,hnn⟩:=(hIv _ _).mp hI;rw[zfP,Xb,Xb,XA]at hnn;walk_at "go";exact q2 λc hc=>hnn c (by lia)
theorem zkp:zap ["self","i","j","column","one","other"] ["self","i","j","column"] (zac zcm):=⟨rfl,rfl,rfl,by decide +kernel,rfl,by decide +kernel,by decide +kernel⟩
theorem znp {C f:Addr}{fd:FuncData}(F:Fun K "ends_sooner" "Board.ends_sooner" zcm f fd) (T:TF K C) (B:Bl mg):FnOk P w K mg base CX0 1 f fd ["self","i","j","column"] (spP K (zbn C)):=by
 refine zaw F zkp (λds Q q152q=>by obtain⟨a,b,c,d,e,h,_⟩:=q152q;rw[h];rfl) (λcdv A outer s H E hr=>?_);have hu:(A.deeper (envOfC "Board.ends_sooner" (zac zcm) s.heap.objs.size f cdv)).units+16<cLine:=by have q:=hr.units;lia
 have nd:=zkp.nd;refine⟨_,(zad (zai (i:=4) nd rfl (Or.inl rfl) (zce (zao (zao (zbj T.c T.lines (zaa 0)) (zaa 1)) (zfQ zag)) (zao (zao (zbj T.c T.lines (zaa 0)) (zaa 2)) (zaa 3))))
   (zad (zai (i:=5) nd rfl (Or.inl rfl) (zce (zao (zao (zbj T.c T.lines (zaa 0)) (zaa 2)) (zfQ zag)) (zao (zao (zbj T.c T.lines (zaa 0)) (zaa 1)) (zaa 3))))
   (zaf (zan (zsZ hu (zdI (zab (zaa 4) (zab (zao (zbj T.c T.held (zaa 0)) (zaa 1)) zae))) (zdI (zab (zaa 5) (zab (zao (zbj T.c T.held (zaa 0)) (zaa 2)) zae)))))))),λds Q h=>?_⟩
 obtain⟨p,h,i,k,j,rfl,G,S,hi,hk,hj,q⟩:=h;have hsz:=sizeLine_eq;walk_at "pu";have b1:=G.small S.m6 (show i<=p.m by lia) (show p.n+p.m<=p.n+p.m by lia);have b2:=G.small S.m6 (show k<=p.m by lia) (show j<=p.n+p.m by lia);have b3:=G.small S.m6 (show k<=p.m by lia) (show p.n+p.m<=p.n+p.m by lia);have b4:=G.small S.m6 (show i<=p.m by lia) (show j<=p.n+p.m by lia);refine⟨_,_,rfl,_,rfl,_,.inl ⟨_,.inl rfl,zdZ (show i<=p.m by lia)⟩,_,.inl ⟨_,.inl rfl,zhs⟩,_,_,rfl,_,rfl,_,.inl ⟨_,.inl rfl,zdZ (show k<=p.m by lia)⟩,_,.inl ⟨_,.inl rfl,zgH (show j<=p.n+p.m by lia)⟩,_,rfl,_,rfl,.inl ⟨by lia,by lia⟩,?_⟩;walk_at "go";refine⟨_,_,rfl,_,rfl,_,.inl ⟨_,.inl rfl,zdZ (show k<=p.m by lia)⟩,_,.inl ⟨_,.inl rfl,zhs⟩,_,_,rfl,_,rfl,_,.inl ⟨_,.inl rfl,zdZ (show i<=p.m by lia)⟩,_,.inl ⟨_,.inl rfl,zgH (show j<=p.n+p.m by lia)⟩,_,rfl,_,rfl,.inl ⟨by lia,by lia⟩,?_⟩;walk_at "go";exact⟨_,_,rfl,_,rfl,_,.inl ⟨_,.inl rfl,zht G hi⟩,by lia,_,_,rfl,_,rfl,_,.inl ⟨_,.inl rfl,zht G hk⟩,by lia,[_,_],rfl,[_,_],rfl,q⟩
theorem zpD:zap ["self","column","found","i"] ["self","column"] (zac zgn):=⟨rfl,rfl,rfl,by decide +kernel,rfl,by decide +kernel,by decide +kernel⟩
theorem zrp {C f f1:Addr}{fd fd1:FuncData}(F:Fun K "line_that_ends" "Board.line_that_ends" zgn f fd) (T:TF K C) (Sooner:Mx K C "ends_sooner" "Board.ends_sooner" zcm ["self","i","j","column"] f1 fd1) (B:Bl mg):FnOk P w K mg base CX0 2 f fd ["self","column"] (spP K (zdv C)):=by
 have GSooner:FnOk P w K mg base CX0 1 f1 fd1 ["self","i","j","column"] (spP K (zbn C)):=znp Sooner.fn T B;refine zaw F zpD (λds Q q153q=>by obtain⟨a,b,c,h,_⟩:=q153q;rw[h];rfl) (λcdv A outer s H E hr=>?_);have hu:(A.deeper (envOfC "Board.line_that_ends" (zac zgn) s.heap.objs.size f cdv)).units+16<cLine:=by have q:=hr.units;lia
 have nd:=zpD.nd;refine⟨_,(zad (zai (i:=2) nd rfl (Or.inl rfl) zhX)
   (zad (zaQ rfl PassesOwn.never (zaP rfl B.range (zab (zaU rfl B.len (zab (zbj T.c T.held (zaa 0)) zae)) zae)) (zak (i:=3) nd rfl (Or.inl rfl)) (zaf (zbQ (PuW.t (zjf (zgx (zao (zao (zbj T.c T.lines (zaa 0)) (zaa 3)) (zaa 1)) zag) (zgZ (PuW.t (zeo (zqL (zaa 2) zhX) (zdR (zcy (zhe T.c Sooner.me GSooner zjn hr Sooner.bd (zaa 0) (zab (zaa 3) (zab (zaa 2) (zab (zaa 1) zae))))))))))) (zaf (zai (i:=2) nd rfl (Or.inl rfl) (zaa 3))) zaH)))
   (zaf (zan (zaa 2))))),λds Q h=>?_⟩
 obtain⟨p,h,j,rfl,G,S,hj,q⟩:=h;have hsz:=sizeLine_eq;walk_at "pu";walk_at "go";obtain⟨i1,hi1,hp1⟩:=_M.ends G hj;have hm6:=S.m6;have hhl:(List.map PV.int (zbJ h)).length=p.m:=by rw[Xb];unfold zbJ;rw[Xb];exact G.len
 refine⟨_,_,rfl,_,rfl,_,rfl,by rw[hhl];lia,by rw[hhl];lia,?_⟩;rw[hhl,XU];obtain⟨Iv,hIv⟩:∃Iv:Nat->PEnv->Prop,∀k ρ,Iv k ρ↔∃(v:PV) (k1:Option (PV×Bool)),ρ=[some (brdP C p h,false),some (PV.int j,false),some (v,false),k1]/\((v=.non/\∀r,r<k->¬ 0<tb p h r j)\/∃i:Nat,v=.int i/\LevK p h j k i):=⟨_,λ_ _=>Iff.rfl⟩;refine⟨Iv,(hIv _ _).mpr ⟨_,_,rfl,.inl ⟨rfl,λr hr=>absurd hr (Nat.not_lt_zero _)⟩⟩,?_,?_⟩
 ·intro k d ρ hd hI;obtain⟨v,k1,rfl,hv⟩:=(hIv _ _).mp hI;obtain⟨hk,rfl⟩:=zbL hd;rw[Int.zero_add];walk_at "go";refine⟨_,_,rfl,_,rfl,_,.inl ⟨_,.inl rfl,zdZ (show k<=p.m by lia)⟩,_,.inl ⟨_,.inl rfl,zgH (show j<=p.n+p.m by lia)⟩,_,rfl,?_⟩;refine ite2 (λe=>?_) (λe=>?_)
  ·rcases hv with ⟨rfl,hn⟩ | ⟨i,rfl,L⟩
   ·rw[if_pos rfl];walk_at "go";refine(hIv _ _).mpr ⟨_,_,rfl,.inr ⟨k,rfl,XQ k,e,λr hr hp=>?_⟩⟩;by_cases y:r=k
    ·subst y;exact .inr ⟨rfl,Xg _⟩
    ·exact absurd hp (hn r (by lia))
   ·have hik:=L.lt;rw[if_neg λz=>nomatch z];refine⟨_,⟨_,rfl⟩,by decide,p,h,rfl,k,rfl,i,rfl,j,rfl,G,S,hk,by lia,hj,ite2 (λe2=>?_) (λe2=>?_)⟩
    ·walk_at "go";exact(hIv _ _).mpr ⟨_,_,rfl,.inr ⟨k,rfl,L.new e e2⟩⟩
    ·walk_at "go";exact(hIv _ _).mpr ⟨_,_,rfl,.inr ⟨i,rfl,L.keep (.inr e2)⟩⟩
  ·walk_at "go";refine(hIv _ _).mpr ⟨_,_,rfl,hv.imp (λz=>⟨z.1,λr hr=>?_⟩) λz=>?_⟩
   ·by_cases y:r=k
    ·subst y;lia
    ·exact z.2 r (by lia)
   ·obtain⟨i,ei,L⟩:=z;exact⟨i,ei,L.keep (.inl (by lia))⟩
 ·intro ρ hI;obtain⟨v,k1,rfl,hv⟩:=(hIv _ _).mp hI;rw[zbe]at hv;walk_at "go";rcases hv with ⟨rfl,hn⟩ | ⟨i,rfl,L⟩
  ·exact absurd hp1 (hn i1 hi1)
  ·exact q i ⟨L.lt,L.pos,L.best⟩
end
noncomputable def woC (p:Pb)(h:List Nat)(i j r c:Nat):Int:=(tb p h r c*tb p h i j-tb p h r j*tb p h i c) / bt p h
theorem zkq {p:Pb}{h:List Nat}(G:Gd p h)(S:Sm p):bt p h<=5040:=by
 have h1:=S.m1;have e:=_M.zdu (p:=p) (h:=h) (k:=0) (r:=0) (by lia) (by lia);rw[if_pos rfl]at e;rw[<- e];exact(G.small S.m6 (by lia) (Yx (G.lt 0 (by lia)))).2
noncomputable def zbc (C:Addr):PF:=λds Q=>∃(p:Pb)(h:List Nat)(r i j:Nat),ds=[brdP C p h,rowC p (tb p h r),rowC p (tb p h i),.int j]/\Gd p h/\Sm p/\r<=p.m/\i<p.m/\j<p.n+p.m/\Q (rowC p (woC p h i j r)) .new
theorem ziB {C:Addr}:zaX (zbc C):=λds Q Q' m q154q=>by obtain⟨a,b,c,d,e,f,h1,h2,h3,h4,h5,q⟩:=q154q;exact⟨a,b,c,d,e,f,h1,h2,h3,h4,h5,m _ _ q⟩
noncomputable def zdG:PMz:=λds hs as Q=>∃(p:Pb)(h:List Nat)(i j:Nat),ds=brdD p h/\hs=zbJ h/\as=[.int i,.int j]/\Gd p h/\Sm p/\j<p.n+p.m/\Lev p h j i/\Q (brdD p (h.set i j)) (zbJ (h.set i j))
theorem znq:zoI zdG:=λds hs as Q Q' m q155q=>by obtain⟨a,b,c,d,e,f,h1,h2,h3,h4,h5,q⟩:=q155q;exact⟨a,b,c,d,e,f,h1,h2,h3,h4,h5,m _ _ q⟩
theorem zfY {p:Pb}{h:List Nat}(G:Gd p h)(g:Nat->Int):zeX (zbJ h) (rowC p g):=by
 refine⟨_,rfl,?_⟩;unfold zbJ;rw[Xb,Xb,XA,G.len];lia
theorem ziC {p:Pb}{h:List Nat}{i j:Nat}(G:Gd p h)(hi:i<p.m):((Xs (p.m+1)).map λr=>rowC p (woC p h i j r)).set i (rowC p (tb p h i))=(Xs (p.m+1)).map λr=>rowC p (tb p (h.set i j) r):=by
 refine List.ext_getElem (by simp) λr h1 h2=>?_;rw[List.getElem_set,List.getElem_map,List.getElem_map,List.getElem_range];have hr:r<p.m+1:=by simpa using h2
 by_cases e:i=r
 ·subst e;rw[if_pos rfl];exact congrArg (rowC p) (funext λc=>(_M.zkk hi G.len).symm)
 ·rw[if_neg e];refine congrArg (rowC p) (funext λc=>?_);have ht:=_M.turn (j:=j) (c:=c) (r:=r) G hi (by lia) (λz=>e z.symm);unfold woC;rw[show tb p h r c*tb p h i j-tb p h r j*tb p h i c=bt p h*tb p (h.set i j) r c by rw[ht,XX (tb p h r c)]];exact Int.mul_ediv_cancel_left _ (Int.ne_of_gt G.pos)
section
variable {P:Program}{w:World}{K:Xa}{mg:Str->Option Value}{base:Heap}
theorem ziD:zap ["self","line","turned","column"] ["self","line","turned","column"] (zac zbl):=⟨rfl,rfl,rfl,by decide +kernel,rfl,by decide +kernel,by decide +kernel⟩
theorem zln {C f:Addr}{fd:FuncData}(F:Fun K "without" "Board.without" zbl f fd) (T:TF K C) (B:Bl mg):FnOk P w K mg base CX0 1 f fd ["self","line","turned","column"] (spP K (zbc C)):=by
 refine zaw F ziD (λds Q q156q=>by obtain⟨a,b,c,d,e,h,_⟩:=q156q;rw[h];rfl) (λcdv A outer s H E hr=>?_);have hu:(A.deeper (envOfC "Board.without" (zac zbl) s.heap.objs.size f cdv)).units+16<cLine:=by have q:=hr.units;lia
 have nd:=ziD.nd;refine⟨_,(zaf (zan (zbx (N:=["cell","other","self","line","turned","column"]) (k:=2) (js:=[0,1,2,3]) rfl (zdi (sup:=zac zbl) (XN:=["self","line","turned","column"]) rfl rfl (by decide +kernel)) (by decide) (zqF (loc2 (by decide) (by decide))) (zhg rfl B.zip (zab (zaa 1) (zab (zaa 2) zae))) ⟨λ_ _ _ _ _=>(zdm (n:=2) rfl (zaB (zak (i:=0) (by show(["cell","other","self","line","turned","column"]:List Str).Nodup;decide +kernel) rfl (Or.inl rfl)) (zaB (zak (i:=1) (by show(["cell","other","self","line","turned","column"]:List Str).Nodup;decide +kernel) rfl (Or.inl rfl)) zcp))),λ_ _ _ _ _=>zaO,λ_ _ _ _ _=>(zem (zmq (zce (zaa 0) (zao (zaa 4) (zaa 5))) (zce (zao (zaa 3) (zaa 5)) (zaa 1))) (zbj T.c T.bottom (zaa 2)))⟩))),λds Q h=>?_⟩;obtain⟨p,h,r,i,j,rfl,G,S,hr',hi,hj,q⟩:=h;have hsz:=sizeLine_eq;have h1:=S.m6;have h2:=S.n6;walk_at "pu";refine⟨_,rfl,_,rfl,by rw[zcS,Xb,Xb,XA,Xb,Xb,XA];lia,λk out=>out=(Xs k).map λc=>PV.int (woC p h i j r c),rfl,?_,?_⟩
 ·rintro k d out hd-rfl;obtain⟨x,y,hx,hy,rfl⟩:=zcR hd;have hk:k<p.n+p.m+1:=by
   have:=(Xd.mp hx).1;simpa using this
  rw[Xi,Xi,Yu hk]at hx hy;cases hx;cases hy;refine⟨_,rfl,rfl,_,_,rfl,_,_,rfl,rfl,?_⟩;walk_at "pu";have b1:=G.small S.m6 (show r<=p.m by lia) (show k<=p.n+p.m by lia);have b2:=G.small S.m6 (show i<=p.m by lia) (show k<=p.n+p.m by lia);refine⟨_,.inl ⟨_,.inl rfl,zgH (show j<=p.n+p.m by lia)⟩,_,rfl,.inl ⟨by lia,by lia⟩,_,.inl ⟨_,.inl rfl,zgH (show j<=p.n+p.m by lia)⟩,_,rfl,.inr ⟨by lia,by lia⟩,_,_,rfl,_,rfl,_,rfl,?_,?_⟩
  ·have:=zkq G S;exact⟨G.pos,by lia⟩
  ·show _=_;rw[Yb,Xk];rfl
 ·rintro out-rfl;rw[zcS,Xb,Xb,XA,Xb,Xb,XA,Nat.min_self];have e:PV.lst ((Xs (p.n+p.m+1)).map λc=>PV.int (woC p h i j r c))=rowC p (woC p h i j r):=by unfold rowC;rw[List.map_map];rfl
  rw[e];exact q
theorem zpE:zap ["self","i","column","turned","lines"] ["self","i","column"] (zac zfU):=⟨rfl,rfl,rfl,by decide +kernel,rfl,by decide +kernel,by decide +kernel⟩
theorem zrq {C f f1:Addr}{fd fd1:FuncData}(F:Fun K "turn" "Board.turn" zfU f fd) (T:TF K C) (Without:Mx K C "without" "Board.without" zbl ["self","line","turned","column"] f1 fd1) (B:Bl mg):FnOk P w K mg base CX0 2 f fd ["self","i","column"] (spZ K C bks "held" zdG):=by
 have GWithout:FnOk P w K mg base CX0 1 f1 fd1 ["self","line","turned","column"] (spP K (zbc C)):=zln Without.fn T B;refine fn_Z F zpE (λds hs as Q q157q=>by obtain⟨a,b,c,d,e,g,h,_⟩:=q157q;rw[h];rfl) (λcdv A outer s H E hr=>?_);have hu:(A.deeper (envOfC "Board.turn" (zac zfU) s.heap.objs.size f cdv)).units+16<cLine:=by have q:=hr.units;lia
 have nd:=zpE.nd;refine⟨_,(zeB (zoK (i:=3) nd rfl (Or.inr rfl) (zao (zbj T.c T.lines (zaa 0)) (zaa 1)))
   (zna T.c T.lines (gi:=2) (iy:=4) (zoL (N:=["line","self","column","turned"]) (k:=1) (js:=[0,2,3]) rfl (zdi (sup:=zac zfU) (XN:=["self","i","column","turned","lines"]) rfl rfl (by decide +kernel)) (by decide) (zaM (by decide)) (zaN (zbj T.c T.lines (zaa 0))) ⟨λ_ _ _ _ _=>(zak (i:=0) (by show(["line","self","column","turned"]:List Str).Nodup;decide +kernel) rfl (Or.inl rfl)),λ_ _ _ _ _=>zaO,λ_ _ _ _ _=>(zhe T.c Without.me GWithout ziB hr Without.bd (zaa 1) (zab (zaa 0) (zab (zaa 3) (zab (zaa 2) zae))))⟩ nd rfl rfl) (zaa 3) (zaa 1)
   (zeB (zrh T.c T.held (zaa 1) (zaa 2))
   (zhj (zrg T.c T.bottom (gi:=1) (zao (zaa 3) (zaa 2))))) rfl)),λds hs as Q h=>?_⟩
 obtain⟨p,h,i,j,rfl,rfl,rfl,G,S,hj,L,q⟩:=h;have hsz:=sizeLine_eq;walk_at "pu";have hi:=L.lt;have hm:=S.m6;refine⟨_,_,rfl,_,rfl,_,.inl ⟨_,.inl rfl,zdZ (show i<=p.m by lia)⟩,zfY G _,by decide,by decide,by decide,_,_,rfl,_,rfl,_,rfl,by rw[Xb,XA];lia,λk out=>out=(Xs k).map λr=>rowC p (woC p h i j r),rfl,?_,?_⟩
 ·rintro k d out hd-rfl;have hk:k<p.m+1:=by
   have:=(Xd.mp hd).1;simpa using this
  rw[Xi,Yu hk]at hd;cases hd;refine⟨_,⟨_,rfl⟩,by decide,p,h,rfl,k,rfl,i,rfl,j,rfl,G,S,by lia,hi,hj,?_⟩;show _=_;rw[Yb,Xk];rfl
 ·rintro out-rfl;rw[Xb,XA,Xb,XA];have hhl:(zbJ h).length=p.m:=by unfold zbJ;rw[Xb];exact G.len
  refine⟨λr hr=>?_,zfY G _,i,rfl,by lia,by decide,i,rfl,by lia,by decide,by decide,?_⟩
  ·obtain⟨r',_,rfl⟩:=XI.mp hr;exact zfY G _
  ·refine⟨_,.inl ⟨_,.inl rfl,zgH (show j<=p.n+p.m by lia)⟩,trivial,?_⟩;rw[ziC G hi];have e1:((brdD p h).set 2 (PV.lst ((Xs (p.m+1)).map λr=>rowC p (tb p (h.set i j) r)))).set 1 (PV.int (tb p h i j))=brdD p (h.set i j):=by
    rw[<- _M.zkj hi G.len];rfl
   have e2:(zbJ h).set i (j:Int)=zbJ (h.set i j):=by unfold zbJ;rw[List.map_set]
   rw[e1,e2];exact q
end
structure Hist (p:Pb)(f:Nat->List Nat)(J I:Nat->Nat)(t:Nat):Prop where
 zero:f 0=_M.start p
 gd:∀s,s<=t->Gd p (f s)
 ent:∀s,s<t->Ent p (f s) (J s)
 lev:∀s,s<t->Lev p (f s) (J s) (I s)
 nxt:∀s,s<t->f (s+1)=(f s).set (I s) (J s)
theorem Hist.snoc {p:Pb}{f:Nat->List Nat}{J I:Nat->Nat}{t i j:Nat}(X:Hist p f J I t)(e:Ent p (f t) j)(l:Lev p (f t) j i):∃f' J' I',Hist p f' J' I' (t+1)/\f' (t+1)=(f t).set i j:=by
 refine⟨λs=>if s<=t then f s else(f t).set i j,λs=>if s<t then J s else j,λs=>if s<t then I s else i,⟨?_,λs hs=>?_,λs hs=>?_,λs hs=>?_,λs hs=>?_⟩,if_neg (by lia)⟩
 ·rw[if_pos (Yh _)];exact X.zero
 ·by_cases z:s<=t
  ·rw[if_pos z];exact X.gd s z
  ·rw[if_neg z];exact(X.gd t (Xg _)).step e.lt l
 ·rw[if_pos (by lia)];by_cases z:s<t
  ·rw[if_pos z];exact X.ent s z
  ·rw[if_neg z,show s=t by lia];exact e
 ·rw[if_pos (by lia)];by_cases z:s<t
  ·rw[if_pos z,if_pos z];exact X.lev s z
  ·rw[if_neg z,if_neg z,show s=t by lia];exact l
 ·rw[if_pos (show s<=t by lia)];by_cases z:s<t
  ·rw[if_pos z,if_pos z,if_pos (show s+1<=t by lia)];exact X.nxt s z
  ·rw[if_neg z,if_neg z,if_neg (by lia),show s=t by lia]
theorem Hist.few {p:Pb}{f:Nat->List Nat}{J I:Nat->Nat}{t:Nat}(X:Hist p f J I t)(S:Sm p):t<=16 ^ p.m:=by
 have h1:=S.m6;have h2:=S.n6;exact _M.short (by lia) (λs hs=>X.gd s (by lia)) X.ent X.lev λs hs=>X.nxt s (by lia)
theorem Ent.uniq {p:Pb}{h:List Nat}{i j:Nat}(a:Ent p h i)(b:Ent p h j):i=j:=by
 have a1:=a.neg;have b1:=b.neg;rcases Nat.lt_trichotomy i j with z | z | z
 ·have:=b.first i z;lia
 ·exact z
 ·have:=a.first j z;lia
theorem Lev.uniq {p:Pb}{h:List Nat}{i k j:Nat}(G:Gd p h)(a:Lev p h j i)(b:Lev p h j k):i=k:=by
 have e1:=a.best k b.lt b.pos;have e2:=b.best i a.lt a.pos;have e3:h.getD i 0=h.getD k 0:=by lia
 have g1:=_M.zdu (p:=p) (h:=h) (k:=i) (r:=i) a.lt (Yx a.lt);have g2:=_M.zdu (p:=p) (h:=h) (k:=k) (r:=i) b.lt (Yx a.lt);rw[e3,if_pos rfl]at g1;have:=G.pos;by_cases z:i=k
 ·exact z
 ·rw[if_neg z,g1]at g2;lia
noncomputable def Done (p:Pb)(h:List Nat):Prop:=∃f J I t,Hist p f J I t/\f t=h/\∀c,c<p.n+p.m->0<=tb p h p.m c
theorem Done.gd {p:Pb}{h:List Nat}(a:Done p h):Gd p h:=by
 obtain⟨f,J,I,t,X,e,_⟩:=a;rw[<- e];exact X.gd t (Xg _)
theorem Done.nn {p:Pb}{h:List Nat}(a:Done p h):∀c,c<p.n+p.m->0<=tb p h p.m c:=by
 obtain⟨f,J,I,t,X,e,q⟩:=a;exact q
theorem Done.uniq {p:Pb}{h h':List Nat}(a:Done p h)(b:Done p h'):h=h':=by
 obtain⟨f,J,I,t,X,e,q⟩:=a;obtain⟨f',J',I',t',X',e',q'⟩:=b;have same:∀s,s<=t->s<=t'->f s=f' s:=by
  intro s;induction s with
  | zero=>intro _ _;rw[X.zero,X'.zero]
  | succ s ih=>
   intro h1 h2;have i1:=ih (by lia) (by lia);have x1:=X.ent s (by lia);have x2:=X'.ent s (by lia);rw[<- i1]at x2;have j1:=Ent.uniq x1 x2;have l1:=X.lev s (by lia);have l2:=X'.lev s (by lia);rw[<- i1,<- j1]at l2;rw[X.nxt s (by lia),X'.nxt s (by lia),<- i1,<- j1,Lev.uniq (X.gd s (by lia)) l1 l2]
 rcases Nat.lt_trichotomy t t' with z | z | z
 ·have x:=X'.ent t z;rw[<- same t (Xg _) (by lia),e]at x;have:=q _ x.lt;have:=x.neg;lia
 ·subst z;rw[<- e,<- e',same t (Xg _) (Xg _)]
 ·have x:=X.ent t' z;rw[same t' (by lia) (Xg _),e']at x;have:=q' _ x.lt;have:=x.neg;lia
theorem seqW {C:Addr}{ks:List Str}{f:Str}{t tb:TPZ}{tc:TPT}{ρ:PEnv}{ds:List PV}{hs:List Int}{Q:PEnv->List PV->List Int->Prop}(Iv:Nat->PEnv->List PV->List Int->Prop)
  (h2:∀m ρ' ds' hs',Iv m ρ' ds' hs'->tc (ρ'.set 0 (some (objOf C ks f ds' hs',false))) λb=>if b=true then tb ρ' ds' hs' λρ2 ds2 hs2=>∃m',m'<m/\Iv m' ρ2 ds2 hs2 else Q ρ' ds' hs')
  (h1:∀W:TPZ,(∀ρ' ds' hs',(∃m,Iv m ρ' ds' hs')->W ρ' ds' hs' Q)->t ρ ds hs λρ' ds' hs'=>W ρ' ds' hs' Q):zSeq t (zck C ks f tc tb) ρ ds hs Q:=h1 _ λρ' ds' hs' h=>⟨Iv,h,h2⟩
noncomputable def zbo:PMz:=λds hs as Q=>∃p:Pb,ds=brdD p (_M.start p)/\hs=zbJ (_M.start p)/\as=[]/\Sm p/\∀h,Done p h->Q (brdD p h) (zbJ h)
theorem zjo:zoI zbo:=λds hs as Q Q' m q158q=>by obtain⟨a,e,f,h1,h2,q⟩:=q158q;exact⟨a,e,f,h1,h2,λh x=>m _ _ (q h x)⟩
section
variable {P:Program}{w:World}{K:Xa}{mg:Str->Option Value}{base:Heap}
theorem zkr:zap ["self","column"] ["self"] (zac zcU):=⟨rfl,rfl,rfl,by decide +kernel,rfl,by decide +kernel,by decide +kernel⟩
theorem znr {C f f1 f2 f3 f4 f5:Addr}{fd fd1 fd2 fd3 fd4 fd5:FuncData}(F:Fun K "settle" "Board.settle" zcU f fd) (T:TF K C) (Without:Mx K C "without" "Board.without" zbl ["self","line","turned","column"] f1 fd1) (Sooner:Mx K C "ends_sooner" "Board.ends_sooner" zcm ["self","i","j","column"] f2 fd2) (Line:Mx K C "line_that_ends" "Board.line_that_ends" zgn ["self","column"] f3 fd3) (Col:Mx K C "column_to_raise" "Board.column_to_raise" sCol ["self"] f4 fd4) (Turn:Mx K C "turn" "Board.turn" zfU ["self","i","column"] f5 fd5) (B:Bl mg):FnOk P w K mg base CX0 3 f fd ["self"] (spZ K C bks "held" zbo):=by
 have GLine:FnOk P w K mg base CX0 2 f3 fd3 ["self","column"] (spP K (zdv C)):=zrp Line.fn T Sooner B;have GCol:FnOk P w K mg base CX0 2 f4 fd4 ["self"] (spP K (fCol C)):=(ztj Col.fn T B).mono (by decide);have GTurn:FnOk P w K mg base CX0 2 f5 fd5 ["self","i","column"] (spZ K C bks "held" zdG):=zrq Turn.fn T Without B;refine fn_Z F zkr (λds hs as Q q159q=>by obtain⟨a,e,g,h,_⟩:=q159q;rw[h];rfl) (λcdv A outer s H E hr=>?_);have hu:(A.deeper (envOfC "Board.settle" (zac zcU) s.heap.objs.size f cdv)).units+16<cLine:=by have q:=hr.units;lia
 have nd:=zkr.nd;refine⟨_,(zeB (zmY (i:=1) nd rfl (Or.inl rfl) (zdz T.c Col.me GCol zkn hr Col.bd (zaa 0)))
   (zhj (zmZ PassesOwn.never (zou (zaa 1) zhX) (zeB (zoJ T.c Turn.me GTurn znq hr Turn.bd (zab (zhe T.c Line.me GLine zno hr Line.bd (zaa 0) (zab (zaa 1) zae)) (zab (zaa 1) zae)))
   (zhj (zmY (i:=1) nd rfl (Or.inl rfl) (zdz T.c Col.me GCol zkn hr Col.bd (zaa 0)))))))),λds hs as Q h=>?_⟩
 obtain⟨p,rfl,rfl,rfl,S,q⟩:=h;obtain⟨Iv,hIv⟩:∃Iv:Nat->PEnv->List PV->List Int->Prop,∀m ρ ds hs,Iv m ρ ds hs↔∃f J I t v,Hist p f J I t/\ds=brdD p (f t)/\hs=zbJ (f t)/\ρ=[none,some (v,false)]/\m+t=16 ^ p.m/\((∃j:Nat,v=.int j/\Ent p (f t) j)\/(v=.non/\∀c,c<p.n+p.m->0<=tb p (f t) p.m c)):=⟨_,λ_ _ _ _=>Iff.rfl⟩;refine seqW Iv (λm ρ ds hs hI=>?_) λW hW=>?_
 ·obtain⟨f,J,I,t,v,X,rfl,rfl,rfl,hmt,hv⟩:=(hIv _ _ _ _).mp hI;have G:=X.gd t (Xg _);walk_at "pu";rcases hv with ⟨j,rfl,E⟩ | ⟨rfl,hn⟩
  ·rw[if_pos (λz=>nomatch z)];refine⟨by decide,_,⟨_,rfl⟩,by decide,p,f t,rfl,j,rfl,G,S,E.lt,λi L=>?_⟩;obtain⟨f',J',I',X',e'⟩:=X.snoc E L;have few:=X'.few S;have G':=X'.gd (t+1) (Xg _);refine⟨λd hd=>by rcases Xu.mp hd with rfl | hd;exact trivial;rw[Xw.mp hd];exact trivial,p,f t,rfl,rfl,i,rfl,j,rfl,G,S,E.lt,L,?_⟩
   rw[<- e'];exact⟨_,⟨_,rfl⟩,by decide,p,f' (t+1),rfl,G',S,λj E=>⟨trivial,m-1,by lia,(hIv _ _ _ _).mpr ⟨f',J',I',t+1,_,X',rfl,rfl,rfl,by lia,.inl ⟨j,rfl,E⟩⟩⟩,λhn=>⟨trivial,m-1,by lia,(hIv _ _ _ _).mpr ⟨f',J',I',t+1,_,X',rfl,rfl,rfl,by lia,.inr ⟨rfl,hn⟩⟩⟩⟩
  ·rw[if_neg (λz=>z rfl)];exact q _ ⟨f,J,I,t,X,rfl,hn⟩
 ·have Z:Hist p (λ_=>_M.start p) (λ_=>0) (λ_=>0) 0:=⟨rfl,λ_ _=>Gd.start,λs hs=>absurd hs (Nat.not_lt_zero _),λs hs=>absurd hs (Nat.not_lt_zero _),λs hs=>absurd hs (Nat.not_lt_zero _)⟩;walk_at "pu";exact⟨_,⟨_,rfl⟩,by decide,p,_M.start p,rfl,Gd.start,S,λj E=>⟨trivial,hW _ _ _ ⟨_,(hIv _ _ _ _).mpr ⟨_,_,_,0,_,Z,rfl,rfl,rfl,rfl,.inl ⟨j,rfl,E⟩⟩⟩⟩,λhn=>⟨trivial,hW _ _ _ ⟨_,(hIv _ _ _ _).mpr ⟨_,_,_,0,_,Z,rfl,rfl,rfl,rfl,.inr ⟨rfl,hn⟩⟩⟩⟩⟩
end
theorem zdH {sh:List (List Str)}{L:List Str}(S:Shp sh)(h:Names sh L):Sm (pbOf h):=⟨S.m1,S.m6,S.six L h.nd λx hx=>(h.mem x).mp hx⟩
noncomputable def zda:zgD:=λas Q=>∃sh:List (List Str),as=[shpP sh]/\Shp sh/\∀(L:List Str)(h:Names sh L),Q (brdD (pbOf h) (_M.start (pbOf h))) (zbJ (_M.start (pbOf h)))
theorem zlo:zpy zda:=λas Q Q' m q160q=>by obtain⟨a,e,h,q⟩:=q160q;exact⟨a,e,h,λL x=>m _ _ (q L x)⟩
noncomputable def zdb (C:Addr):PF:=λds Q=>∃(p:Pb)(h:List Nat)(c:Nat),ds=[brdP C p h,.int c]/\Gd p h/\Sm p/\Q (.int (_M.pr p h c)) .frz
theorem zlp {C:Addr}:zaX (zdb C):=λds Q Q' m q161q=>by obtain⟨a,b,c,e,h1,h2,q⟩:=q161q;exact⟨a,b,c,e,h1,h2,m _ _ q⟩
noncomputable def zdw (p:Pb)(h:List Nat):List Int:=(Xs p.n).map λc=>_M.pr p h c
noncomputable def zcE (p:Pb)(h:List Nat):List Int:=(Xs p.m).map λk=>tb p h p.m (p.n+k)
noncomputable def zbV (C:Addr):PF:=λds Q=>∃(p:Pb)(h:List Nat),ds=[brdP C p h]/\Gd p h/\Sm p/\Q (.lst ((zdw p h).map PV.int)) .new
theorem zfZ {C:Addr}:zaX (zbV C):=λds Q Q' m q162q=>by obtain⟨a,b,e,h1,h2,q⟩:=q162q;exact⟨a,b,e,h1,h2,m _ _ q⟩
noncomputable def zbD (C:Addr):PF:=λds Q=>∃(p:Pb)(h:List Nat),ds=[brdP C p h]/\Gd p h/\Sm p/\Q (.lst ((zcE p h).map PV.int)) .new
theorem zga {C:Addr}:zaX (zbD C):=λds Q Q' m q163q=>by obtain⟨a,b,e,h1,h2,q⟩:=q163q;exact⟨a,b,e,h1,h2,m _ _ q⟩
theorem ztk {ds:List PV}{e:PV}(h:e∈ds):idxP ds e<ds.length/\ds[idxP ds e]? = some e:=by
 have h1:idxP ds e<ds.length:=List.findIdx_lt_length_of_exists ⟨e,h,decide_eq_true rfl⟩;refine⟨h1,?_⟩;have h2:=List.findIdx_getElem (p:=λx=>decide (x=e)) (xs:=ds) (w:=h1);rw[Xf h1];exact congrArg some (of_decide_eq_true h2)
section
variable {P:Program}{w:World}{K:Xa}{mg:Str->Option Value}{base:Heap}
theorem zns:zap ["self","shape","letters"] ["self","shape"] (zac zdL):=⟨rfl,rfl,rfl,by decide +kernel,rfl,by decide +kernel,by decide +kernel⟩
theorem zoV {C f f1 f2:Addr}{fd fd1 fd2:FuncData}(F:Fun K "__init__" "Board.__init__" zdL f fd) (T:TF K C) (LettersOf:Fx K mg "letters_of" zaR ["shape"] f1 fd1) (FirstLines:Fx K mg "first_lines" zax ["shape","letters"] f2 fd2) (B:Bl mg):FnOk P w K mg base CX0 2 f fd ["self","shape"] (zhk K C bks "held" zda):=by
 have GLettersOf:FnOk P w K mg base CX0 1 f1 fd1 ["shape"] (spP K zav):=zfi LettersOf.fn B;have GFirstLines:FnOk P w K mg base CX0 1 f2 fd2 ["shape","letters"] (spP K zas):=zhr FirstLines.fn B;refine zoM F zns (λas Q q164q=>by obtain⟨a,e,_⟩:=q164q;rw[e];rfl) (λcdv A outer s H E hr=>?_);have hu:(A.deeper (envOfC "Board.__init__" (zac zdL) s.heap.objs.size f cdv)).units+16<cLine:=by have q:=hr.units;lia
 have nd:=zns.nd;refine⟨_,(zoN (i:=2) nd rfl (Or.inl rfl) (zaq GLettersOf zdN hr rfl LettersOf.mg LettersOf.fn.kp LettersOf.bd (zab (zaa 1) zae))
   (zhl T.c T.width (zaU rfl B.len (zab (zaa 2) zae))
   (zhl T.c T.bottom zag
   (zhl T.c T.lines (zaq GFirstLines zfV hr rfl FirstLines.mg FirstLines.fn.kp FirstLines.bd (zab (zaa 1) (zab (zaa 2) zae)))
   (zlh T.c T.held (zbx (N:=["i","self"]) (k:=1) (js:=[0]) rfl (zdi (sup:=zac zdL) (XN:=["self","shape","letters"]) rfl rfl (by decide +kernel)) (by decide) (zaM (by decide)) (zaP rfl B.range (zab (zaU rfl B.len (zab (zaa 1) zae)) zae)) ⟨λ_ _ _ _ _=>(zak (i:=0) (by show(["i","self"]:List Str).Nodup;decide +kernel) rfl (Or.inl rfl)),λ_ _ _ _ _=>zaO,λ_ _ _ _ _=>(zbO (zbj T.c T.width (zaa 1)) (zaa 0))⟩)))))),λas Q h=>?_⟩
 obtain⟨sh,rfl,S,q⟩:=h;have hsz:=sizeLine_eq;walk_at "pu";refine⟨sh,rfl,S,λL hN=>⟨by decide,by decide,by decide,by decide,by decide,by decide,sh,rfl,L,rfl,S,by decide,by decide,?_⟩⟩;have h6:=S.m6;rw[Xb,XU,zbe];refine⟨by lia,by lia,by lia,hN,λk out=>out=(zbJ ((Xs k).map λi=>L.length+i)).map PV.int,rfl,?_,?_⟩
 ·rintro k d out hd-rfl;obtain⟨hk,rfl⟩:=zbL hd;refine⟨_,_,rfl,_,rfl,_,rfl,_,rfl,?_⟩;show _=_;unfold zbJ;rw[Yb,Xk,Xk,Xk];show _++[PV.int (((L.map PV.str).length:Nat)+(0+(k:Int)))]=_++[PV.int ((L.length+k:Nat):Int)];rw[Xb,Int.zero_add];rfl
 ·rintro out-rfl;refine⟨_,rfl,?_⟩;have e:([PV.int ((L.map PV.str).length:Nat),PV.int 1,ziz (pbOf hN) λr c=>zaY sh L c r]:List PV)=brdD (pbOf hN) (_M.start (pbOf hN)):=by
   unfold brdD;rw[_M.zfq,Xb];have e2:ziz (pbOf hN) (λr c=>zaY sh L c r)=ziz (pbOf hN) (tb (pbOf hN) (_M.start (pbOf hN))):=
    congrArg PV.lst (List.map_congr_left λr hr=>congrArg (rowC (pbOf hN)) (funext λc=>(_M.tb_start (p:=pbOf hN) (c:=c) (Nat.le_of_lt_succ (Yk.mp hr))).symm))
   rw[e2];rfl
  rw[e];exact q L hN
theorem znt:zap ["self","column"] ["self","column"] (zac zdM):=⟨rfl,rfl,rfl,by decide +kernel,rfl,by decide +kernel,by decide +kernel⟩
theorem zoW {C f:Addr}{fd:FuncData}(F:Fun K "price" "Board.price" zdM f fd) (T:TF K C) (B:Bl mg):FnOk P w K mg base CX0 1 f fd ["self","column"] (spP K (zdb C)):=by
 refine zaw F znt (λds Q q165q=>by obtain⟨a,b,c,e,_⟩:=q165q;rw[e];rfl) (λcdv A outer s H E hr=>?_);have hu:(A.deeper (envOfC "Board.price" (zac zdM) s.heap.objs.size f cdv)).units+16<cLine:=by have q:=hr.units;lia
 have nd:=znt.nd;refine⟨_,(zaf (zan (zha (zpt hu (zaa 1) (zbj T.c T.held (zaa 0))) (zao (zao (zbj T.c T.lines (zaa 0)) (zoD (zbj T.c T.held (zaa 0)) (zaa 1))) (zfQ zag)) zag))),λds Q h=>?_⟩;obtain⟨p,h,c,rfl,G,S,q⟩:=h;have hsz:=sizeLine_eq;walk_at "pu";have hpl:((zbJ h).map PV.int).all (_P.plain 6)=true:=by
  rw[XV];intro d hd;obtain⟨x,_,rfl⟩:=XI.mp hd;rfl
 have hfl:((zbJ h).map PV.int).all zgk=true:=by
  rw[XV];intro d hd;obtain⟨x,_,rfl⟩:=XI.mp hd;rfl
 refine⟨_,_,rfl,_,rfl,_,.inl rfl,hpl,ite2 (λe=>?_) (λe=>?_)⟩
 ·obtain⟨h1,h2⟩:=ztk e;have hk:idxP ((zbJ h).map PV.int) (PV.int c)<p.m:=by
   rw[Xb]at h1;unfold zbJ at h1 ⊢;rw[Xb,G.len]at h1;exact h1
  have h3:=(zht G hk).symm.trans (zbd h2);have hc:h.getD (idxP ((zbJ h).map PV.int) (PV.int c)) 0=c:=by
   have:=PV.int.inj (Option.some.inj h3);lia
  refine⟨_,_,rfl,_,rfl,_,_,rfl,_,rfl,_,.inl rfl,hfl,rfl,e,_,.inl ⟨_,.inl rfl,zdZ (Yx hk)⟩,_,.inl ⟨_,.inl rfl,zhs⟩,?_⟩;rw[<- _M.znl G hk,hc];exact q
 ·rw[_M.zpA λk hk z=>e ?_]at q
  ·exact q
  ·have h3:=zht G hk;rw[z]at h3;have hl:k<((zbJ h).map PV.int).length:=by unfold zbJ;rw[Xb,Xb,G.len];exact hk
   rw[zbd (Xf hl)]at h3;rw[<- Option.some.inj h3];exact Yo hl
theorem zks:zap ["self"] ["self"] (zac zcD):=⟨rfl,rfl,rfl,by decide +kernel,rfl,by decide +kernel,by decide +kernel⟩
theorem znu {C f f1:Addr}{fd fd1:FuncData}(F:Fun K "prices" "Board.prices" zcD f fd) (T:TF K C) (Price:Mx K C "price" "Board.price" zdM ["self","column"] f1 fd1) (B:Bl mg):FnOk P w K mg base CX0 2 f fd ["self"] (spP K (zbV C)):=by
 have GPrice:FnOk P w K mg base CX0 1 f1 fd1 ["self","column"] (spP K (zdb C)):=zoW Price.fn T B;refine zaw F zks (λds Q q166q=>by obtain⟨a,b,e,_⟩:=q166q;rw[e];rfl) (λcdv A outer s H E hr=>?_);have hu:(A.deeper (envOfC "Board.prices" (zac zcD) s.heap.objs.size f cdv)).units+16<cLine:=by have q:=hr.units;lia
 have nd:=zks.nd;refine⟨_,(zaf (zan (zbx (N:=["column","self"]) (k:=1) (js:=[0]) rfl (zdi (sup:=zac zcD) (XN:=["self"]) rfl rfl (by decide +kernel)) (by decide) (zaM (by decide)) (zaP rfl B.range (zab (zbj T.c T.width (zaa 0)) zae)) ⟨λ_ _ _ _ _=>(zak (i:=0) (by show(["column","self"]:List Str).Nodup;decide +kernel) rfl (Or.inl rfl)),λ_ _ _ _ _=>zaO,λ_ _ _ _ _=>(zhe T.c Price.me GPrice zlp hr Price.bd (zaa 1) (zab (zaa 0) zae))⟩))),λds Q h=>?_⟩;obtain⟨p,h,rfl,G,S,q⟩:=h;have hsz:=sizeLine_eq;walk_at "pu";have hn6:=S.n6;refine⟨_,_,rfl,_,rfl,_,rfl,by lia,by lia,?_⟩;rw[XU,zbe];refine⟨by lia,λk out=>out=((Xs k).map λc=>_M.pr p h c).map PV.int,rfl,?_,?_⟩
 ·rintro k d out hd-rfl;obtain⟨hk,rfl⟩:=zbL hd;refine⟨_,⟨_,rfl⟩,by decide,p,h,rfl,k,by rw[Int.zero_add],G,S,?_⟩;show _=_;rw[Yb,Xk,Xk];rfl
 ·rintro out-rfl;exact q
theorem zkt:zap ["self"] ["self"] (zac zcV):=⟨rfl,rfl,rfl,by decide +kernel,rfl,by decide +kernel,by decide +kernel⟩
theorem znv {C f:Addr}{fd:FuncData}(F:Fun K "worths" "Board.worths" zcV f fd) (T:TF K C) (B:Bl mg):FnOk P w K mg base CX0 1 f fd ["self"] (spP K (zbD C)):=by
 refine zaw F zkt (λds Q q167q=>by obtain⟨a,b,e,_⟩:=q167q;rw[e];rfl) (λcdv A outer s H E hr=>?_);have hu:(A.deeper (envOfC "Board.worths" (zac zcV) s.heap.objs.size f cdv)).units+16<cLine:=by have q:=hr.units;lia
 have nd:=zkt.nd;refine⟨_,(zaf (zan (zcQ (zao (zbj T.c T.lines (zaa 0)) (zfQ zag)) (zby (zbj T.c T.width (zaa 0))) (zby (zfQ zag))))),λds Q h=>?_⟩;obtain⟨p,h,rfl,G,S,q⟩:=h;have hsz:=sizeLine_eq;walk_at "pu";refine⟨_,_,rfl,_,rfl,_,.inl ⟨_,.inl rfl,ziA⟩,_,_,rfl,_,rfl,_,rfl,_,rfl,?_⟩;have e:cutP (((Xs (p.n+p.m+1)).map (tb p h p.m)).map PV.int) (some (p.n:Int)) (some (-1))=(zcE p h).map PV.int:=by
  unfold cutP;rw[_H.zdQ,Xb,Xb,XA,show _H.sIx (p.n+p.m+1) (p.n+p.m+1) (some (-1))=p.n+p.m by unfold _H.sIx;simp;lia,Nat.min_eq_left (by lia),zfW,List.append_assoc,List.drop_left' (by rw[Xb,XA]),List.take_left' (by rw[Xb,XA];lia)];unfold zcE;rw[List.map_map];rfl
 rw[e];exact q
end
noncomputable def gcdL (a:Nat)(l:List Int):Nat:=l.foldl (λa x=>Nat.gcd a x.toNat) a
noncomputable def Lo (l:List Int):Prop:=∀x∈l,0<=x/\x<=5040
theorem ztl {a b:Nat}(h1:a<=5040)(h2:b<=5040):Nat.gcd a b<=5040:=by
 rcases Nat.eq_zero_or_pos b with rfl | z
 ·rw[Nat.gcd_zero_right];exact h1
 ·exact XO (Nat.gcd_le_right a z) h2
theorem zjp:∀ {l:List Int}{a:Nat},a<=5040->Lo l->gcdL a l<=5040
 | [],a,h,_=>h
 | x::l,a,h,hl=>by
  have:=hl x Xp;exact zjp (l:=l) (ztl h (by lia)) λy hy=>hl y (Xn _ hy)
theorem Lo.take {l:List Int}(h:Lo l)(i:Nat):Lo (l.take i):=λx hx=>h x (List.mem_of_mem_take hx)
theorem znw (l:List Int)(a:Nat)(x:Int):gcdL a (l++[x])=Nat.gcd (gcdL a l) x.toNat:=by unfold gcdL;rw[List.foldl_append];rfl
noncomputable def fGcd:PF:=λds Q=>∃l:List Int,ds=[.lst (l.map PV.int)]/\Lo l/\Q (.int (gcdL 0 l)) .frz
theorem zoX:zaX fGcd:=λds Q Q' m q168q=>by obtain⟨a,e,h,q⟩:=q168q;exact⟨a,e,h,m _ _ q⟩
theorem euclid (a b:Nat):Nat.gcd b (a % b)=Nat.gcd a b:=by rw[Nat.gcd_comm a b,Nat.gcd_rec b a,Nat.gcd_comm]
noncomputable def allI (p:Pb)(h:List Nat):List Int:=bt p h::(zcE p h++zdw p h)
noncomputable def gP (p:Pb)(h:List Nat):Nat:=gcdL 0 (allI p h)
noncomputable def dI (p:Pb)(h:List Nat):Int:=bt p h / (gP p h:Int)
noncomputable def wsI (p:Pb)(h:List Nat):List Int:=(zcE p h).map λ(x:Int)=>x / (gP p h:Int)
noncomputable def ysI (p:Pb)(h:List Nat):List Int:=(zdw p h).map λ(x:Int)=>x / (gP p h:Int)
noncomputable def wtP (p:Pb)(h:List Nat):PV:=.tup [.int (dI p h),.lst ((wsI p h).map PV.int),.lst ((ysI p h).map PV.int)]
structure Ix (K:Xa)(mg:Str->Option Value)(C:Addr)(x qual:Str)(st:Stmt)(ps:List Str)(f:Addr)(fd:FuncData):Prop where
 fn:Fun K "__init__" qual st f fd
 bd:Binds K fd ps []
 make:Mk K C f
 mg:mg x=some (.ref C)
noncomputable def zaV:PF:=λds Q=>∃sh:List (List Str),ds=[shpP sh]/\Shp sh/\∀(L:List Str)(hN:Names sh L)(h:List Nat),Done (pbOf hN) h->Q (wtP (pbOf hN) h) .frz
theorem zdx:zaX zaV:=λds Q Q' m q169q=>by obtain⟨a,e,h,q⟩:=q169q;exact⟨a,e,h,λL hN h x=>m _ _ (q L hN h x)⟩
theorem zpF {p:Pb}{h:List Nat}(G:Gd p h)(S:Sm p)(nn:∀c,c<p.n+p.m->0<=tb p h p.m c):Lo (allI p h):=by
 intro x hx;rcases Xu.mp hx with rfl | hx
 ·have:=G.pos;have:=zkq G S;lia
 rcases XZ.mp hx with hx | hx
 ·obtain⟨k,hk,rfl⟩:=XI.mp hx;have hk:=Yk.mp hk;have b:=G.small S.m6 (Xg p.m) (show p.n+k<=p.n+p.m by lia);exact⟨nn _ (by lia),b.2⟩
 ·obtain⟨c,hc,rfl⟩:=XI.mp hx;refine⟨_M.zui G,?_⟩;by_cases z:∃k,k<p.m/\h.getD k 0=c
  ·obtain⟨k,hk,rfl⟩:=z;rw[_M.znl G hk];exact(G.small S.m6 (Yx hk) (Xg _)).2
  ·rw[_M.zpA λk hk e=>z ⟨k,hk,e⟩];decide
theorem ziE:∀(l:List Int)(a:Nat),gcdL a l ∣ a
 | [],a=>Nat.dvd_refl a
 | x::l,a=>Nat.dvd_trans (ziE l (Nat.gcd a x.toNat)) (Nat.gcd_dvd_left ..)
theorem zhu:∀ {l:List Int}{a:Nat}{x:Int},x∈l->gcdL a l ∣ x.toNat
 | y::l,a,x,h=>by
  rcases Xu.mp h with rfl | h
  ·exact Nat.dvd_trans (ziE l (Nat.gcd a x.toNat)) (Nat.gcd_dvd_right ..)
  ·exact zhu (l:=l) (a:=Nat.gcd a y.toNat) h
theorem zpG {p:Pb}{h:List Nat}(G:Gd p h):0<gP p h:=by
 have h1:gP p h ∣ (bt p h).toNat:=zhu Xp;have:=G.pos;exact Nat.pos_of_dvd_of_pos h1 (by lia)
section
variable {P:Program}{w:World}{K:Xa}{mg:Str->Option Value}{base:Heap}
theorem ztm:zap ["numbers","found","number","rest","last"] ["numbers"] (zac sGcd):=⟨rfl,rfl,rfl,by decide +kernel,rfl,by decide +kernel,by decide +kernel⟩
theorem ztn {f:Addr}{fd:FuncData}(F:Fun K "greatest_divisor" "greatest_divisor" sGcd f fd) (B:Bl mg):FnOk P w K mg base CX0 1 f fd ["numbers"] (spP K fGcd):=by
 refine zaw F ztm (λds Q q170q=>by obtain⟨a,e,_⟩:=q170q;rw[e];rfl) (λcdv A outer s H E hr=>?_);have hu:(A.deeper (envOfC "greatest_divisor" (zac sGcd) s.heap.objs.size f cdv)).units+16<cLine:=by have q:=hr.units;lia
 have nd:=ztm.nd;refine⟨_,(zad (zai (i:=1) nd rfl (Or.inl rfl) zag)
   (zad (zaQ rfl PassesOwn.never (zaN (zaa 0)) (zak (i:=2) nd rfl (Or.inl rfl)) (zad (zai (i:=3) nd rfl (Or.inl rfl) (zaa 2))
   (zaf (zdn PassesOwn.never (zig hu (zaa 3) zag) (zad (zai (i:=4) nd rfl (Or.inl rfl) (zaa 3))
   (zad (zai (i:=3) nd rfl (Or.inl rfl) (zbq (zaa 1) (zaa 4)))
   (zaf (zai (i:=1) nd rfl (Or.inl rfl) (zaa 4)))))))))
   (zaf (zan (zaa 1))))),λds Q h=>?_⟩
 obtain⟨l,rfl,hl,q⟩:=h;walk_at "pu";walk_at "auto";obtain⟨Iv,hIv⟩:∃Iv:Nat->PEnv->Prop,∀i ρ,Iv i ρ↔∃k1 k2 k3:Option (PV×Bool),ρ=[some (PV.lst (l.map PV.int),false),some (PV.int (gcdL 0 (l.take i)),false),k1,k2,k3]:=⟨_,λ_ _=>Iff.rfl⟩;refine⟨Iv,(hIv _ _).mpr ⟨_,_,_,rfl⟩,?_,?_⟩
 ·intro i d ρ hd hI;obtain⟨k1,k2,k3,rfl⟩:=(hIv _ _).mp hI;rw[Xi]at hd;cases hx:l[i]? with
  | none=>rw[hx]at hd;cases hd
  | some x=>
   rw[hx]at hd;cases hd;obtain⟨x0,x1⟩:=hl x (Xr hx);obtain⟨b0,rfl⟩:∃b0:Nat,x=b0:=⟨x.toNat,by lia⟩;have ha0:=zjp (Yh 5040) (hl.take i);have hn:gcdL 0 (l.take (i+1))=Nat.gcd (gcdL 0 (l.take i)) b0:=by rw[<- take_snoc hx,znw,XU]
   walk_at "go";walk_at "go";obtain⟨Iw,hIw⟩:∃Iw:Nat->PEnv->Prop,∀m ρ,Iw m ρ↔∃(a:Nat) (k3:Option (PV×Bool)),ρ=[some (PV.lst (l.map PV.int),false),some (PV.int a,false),some (PV.int b0,false),some (PV.int m,false),k3]/\a<=5040/\m<=5040/\Nat.gcd a m=Nat.gcd (gcdL 0 (l.take i)) b0:=⟨_,λ_ _=>Iff.rfl⟩;refine⟨Iw,⟨b0,(hIw _ _).mpr ⟨_,k3,rfl,ha0,by lia,rfl⟩⟩,λm ρ hI=>?_⟩;obtain⟨a,k3,rfl,ha,hm,hg⟩:=(hIw _ _).mp hI;walk_at "go";by_cases e:m=0
   ·subst e;rw[if_neg (by simp)];rw[Nat.gcd_zero_right]at hg;exact(hIv _ _).mpr ⟨_,_,_,by rw[hn,<- hg]⟩
   ·rw[if_pos (by simpa using e)];walk_at "go";walk_at "go";have hlt:=Nat.mod_lt a (show 0<m by lia);have ec:(a:Int) % (m:Int)=((a % m:Nat):Int):=(Int.natCast_emod a m).symm;rw[ec];refine⟨by lia,?_⟩;walk_at "go";exact⟨a % m,hlt,(hIw _ _).mpr ⟨m,_,rfl,hm,by lia,by rw[euclid,hg]⟩⟩
 ·intro ρ hI;obtain⟨k1,k2,k3,rfl⟩:=(hIv _ _).mp hI;rw[Xb,XY];walk_at "go";exact q
theorem ziF:zap ["shape","board","shared","w","y"] ["shape"] (zac zbf):=⟨rfl,rfl,rfl,by decide +kernel,rfl,by decide +kernel,by decide +kernel⟩
theorem zeZ {C f f0 f1 f2 f3 f4 f5 f6 f7 f8 f9 g0 g1 g2:Addr}{fd fd0 fd1 fd2 fd3 fd4 fd5 fd6 fd7 fd8 fd9 gd0 gd1 gd2:FuncData}(F:Fun K "weights" "weights" zbf f fd) (T:TF K C) (BInit:Ix K mg C "Board" "Board.__init__" zdL ["self","shape"] f0 fd0) (Without:Mx K C "without" "Board.without" zbl ["self","line","turned","column"] f1 fd1) (Sooner:Mx K C "ends_sooner" "Board.ends_sooner" zcm ["self","i","j","column"] f2 fd2) (Line:Mx K C "line_that_ends" "Board.line_that_ends" zgn ["self","column"] f3 fd3) (Col:Mx K C "column_to_raise" "Board.column_to_raise" sCol ["self"] f4 fd4) (Turn:Mx K C "turn" "Board.turn" zfU ["self","i","column"] f5 fd5)
  (Settle:Mx K C "settle" "Board.settle" zcU ["self"] f6 fd6) (Price:Mx K C "price" "Board.price" zdM ["self","column"] f7 fd7) (Prices:Mx K C "prices" "Board.prices" zcD ["self"] f8 fd8) (Worths:Mx K C "worths" "Board.worths" zcV ["self"] f9 fd9) (LettersOf:Fx K mg "letters_of" zaR ["shape"] g0 gd0) (FirstLines:Fx K mg "first_lines" zax ["shape","letters"] g1 gd1) (Gcd:Fx K mg "greatest_divisor" sGcd ["numbers"] g2 gd2) (B:Bl mg):FnOk P w K mg base CX0 4 f fd ["shape"] (spP K zaV):=by
 have GBInit:FnOk P w K mg base CX0 2 f0 fd0 ["self","shape"] (zhk K C bks "held" zda):=zoV BInit.fn T LettersOf FirstLines B;have GSettle:FnOk P w K mg base CX0 3 f6 fd6 ["self"] (spZ K C bks "held" zbo):=znr Settle.fn T Without Sooner Line Col Turn B;have GPrices:FnOk P w K mg base CX0 3 f8 fd8 ["self"] (spP K (zbV C)):=(znu Prices.fn T Price B).mono (by decide);have GWorths:FnOk P w K mg base CX0 3 f9 fd9 ["self"] (spP K (zbD C)):=(znv Worths.fn T B).mono (by decide);have GGcd:FnOk P w K mg base CX0 3 g2 gd2 ["numbers"] (spP K fGcd):=(ztn Gcd.fn B).mono (by decide);refine zaw F ziF (λds Q q171q=>by obtain⟨a,e,_⟩:=q171q;rw[e];rfl) (λcdv A outer s H E hr=>?_);have hu:(A.deeper (envOfC "weights" (zac zbf) s.heap.objs.size f cdv)).units+16<cLine:=by have q:=hr.units;lia
 have nd:=ziF.nd;refine⟨_,(zlg BInit.make T.c Settle.me GBInit GSettle zlo zjo hr hr rfl BInit.mg BInit.bd Settle.bd (zab (zaa 0) zae)
   (zad (zai (i:=2) nd rfl (Or.inr rfl) (zaq GGcd zoX hr rfl Gcd.mg Gcd.fn.kp Gcd.bd (zab (zdp (zdp (zbF (zab (zbj T.c T.bottom (zaa 1)) zae)) (zdz T.c Worths.me GWorths zga hr Worths.bd (zaa 1))) (zdz T.c Prices.me GPrices zfZ hr Prices.bd (zaa 1))) zae)))
   (zad (zfo (i:=3) (N:=["worth","shared"]) (k:=1) (js:=[2]) rfl (zdi (sup:=zac zbf) (XN:=["shape","board","shared","w","y"]) rfl rfl (by decide +kernel)) (by decide) (zaM (by decide)) (zaN (zdz T.c Worths.me GWorths zga hr Worths.bd (zaa 1))) ⟨λ_ _ _ _ _=>(zak (i:=0) (by show(["worth","shared"]:List Str).Nodup;decide +kernel) rfl (Or.inl rfl)),λ_ _ _ _ _=>zaO,λ_ _ _ _ _=>(zem (zaa 0) (zaa 1))⟩ nd rfl rfl)
   (zad (zfo (i:=4) (N:=["price","shared"]) (k:=1) (js:=[2]) rfl (zdi (sup:=zac zbf) (XN:=["shape","board","shared","w","y"]) rfl rfl (by decide +kernel)) (by decide) (zaM (by decide)) (zaN (zdz T.c Prices.me GPrices zfZ hr Prices.bd (zaa 1))) ⟨λ_ _ _ _ _=>(zak (i:=0) (by show(["price","shared"]:List Str).Nodup;decide +kernel) rfl (Or.inl rfl)),λ_ _ _ _ _=>zaO,λ_ _ _ _ _=>(zem (zaa 0) (zaa 1))⟩ nd rfl rfl)
   (zaf (zbw 4 (zbw 3 (zan (zdI (zab (zem (zbj T.c T.bottom (zaa 1)) (zaa 2)) (zab (zaa 3) (zab (zaa 4) zae))))))))))) nd (iy:=1) rfl (Or.inl rfl)),λds Q h=>?_⟩
 obtain⟨sh,rfl,S,q⟩:=h;have hsz:=sizeLine_eq;walk_at "pu";refine⟨by decide,by decide,sh,rfl,S,λL hN=>⟨pbOf hN,rfl,rfl,zdH S hN,λh D=>?_⟩⟩;have q:=q L hN h D;have M:=zdH S hN;generalize pbOf hN=p at *;have G:=D.gd;have lo:=zpF G M D.nn;have h1:=M.m6;have h2:=M.n6;have lw:(zcE p h).length=p.m:=by unfold zcE;rw[Xb,XA]
 have lp:(zdw p h).length=p.n:=by unfold zdw;rw[Xb,XA]
 walk_at "go";refine⟨_,_,rfl,_,rfl,by lia,_,⟨_,rfl⟩,by decide,p,h,rfl,G,M,by rw[Xb];lia,_,⟨_,rfl⟩,by decide,p,h,rfl,G,M,by rw[Xb,Xb];lia,allI p h,by unfold allI;rw[Xy,Xk],lo,?_⟩;have gp:=zpG G;have gl:gP p h<=5040:=zjp (Yh 5040) lo;rw[show gcdL 0 (allI p h)=gP p h from rfl];walk_at "go";refine⟨_,⟨_,rfl⟩,by decide,p,h,rfl,G,M,by rw[Xb];lia,λk out=>out=(((zcE p h).take k).map λ(x:Int)=>x / (gP p h:Int)).map PV.int,rfl,?_,?_⟩
 ·rintro k d out hd-rfl;rw[Xi]at hd;cases hx:(zcE p h)[k]? with
  | none=>rw[hx]at hd;cases hd
  | some x=>
   rw[hx]at hd;cases hd;refine⟨x,rfl,⟨by lia,by lia⟩,?_⟩;show _=_;rw[<- take_snoc hx,Xk,Xk];rfl
 ·rintro out-rfl;rw[Xb,XJ (Xg _)];walk_at "go";refine⟨_,⟨_,rfl⟩,by decide,p,h,rfl,G,M,by rw[Xb];lia,λk out=>out=(((zdw p h).take k).map λ(x:Int)=>x / (gP p h:Int)).map PV.int,rfl,?_,?_⟩
  ·rintro k d out hd-rfl;rw[Xi]at hd;cases hx:(zdw p h)[k]? with
   | none=>rw[hx]at hd;cases hd
   | some x=>
    rw[hx]at hd;cases hd;refine⟨x,rfl,⟨by lia,by lia⟩,?_⟩;show _=_;rw[<- take_snoc hx,Xk,Xk];rfl
  ·rintro out-rfl;rw[Xb,XJ (Xg _)];walk_at "go";exact⟨_,_,rfl,_,rfl,_,rfl,⟨by lia,by lia⟩,by lia,q⟩
end
noncomputable def mixed (c k:Int):Int:=if c > 10 ^ 8 then(c / 1000 / (10 ^ 7) ^ k.toNat) % 10 ^ 7 else
 let o:=(c % 2147483647+40503*k*k+17*k)*48271 % 2147483647
 o*(o % 65537+3*k+1) % 2147483629
noncomputable def zbY:PF:=λds Q=>∃c k:Int,ds=[.int c,.int k]/\0<=k/\k<=1000/\Q (.int (mixed c k)) .frz
theorem zcd:zaX zbY:=λds Q Q' m q172q=>by obtain⟨c,j,e,h1,h2,q⟩:=q172q;exact⟨c,j,e,h1,h2,m _ _ q⟩
noncomputable def zbK:PF:=λds Q=>∃(c many:Int)(es:List PV)(x:PV),ds=[.int c,x,.int many]/\(x=.lst es\/x=.tup es)/\es.length<=100/\
 ∀told left:List PV,(told++left).Perm es->told.length=min many.toNat es.length->Q (.lst told) .new
theorem zea:zaX zbK:=λds Q Q' m q173q=>by obtain⟨c,n,es,x,e,h1,h2,q⟩:=q173q;exact⟨c,n,es,x,e,h1,h2,λt l a b=>m _ _ (q t l a b)⟩
noncomputable abbrev ABC:Str:="ABCDEFGHIJKLMNOPQRSTUVWXYZ"
noncomputable def ziG (n:Nat):List Str:=(Xs 6).map λi=>⟨#[65+n+i]⟩
theorem zrr:∀n:Nat,n<21->signs (Txt.slice ABC (some (n:Int)) (some ((n:Int)+6)))=ziG n:=by decide +kernel
theorem zto:∀n:Nat,n<21->(Txt.slice ABC (some (n:Int)) (some ((n:Int)+6))).length=6:=by decide +kernel
theorem znx:∀n:Nat,n<21->(ziG n).Nodup:=by decide +kernel
theorem zfa (n:Nat):(ziG n).length=6:=by simp[ziG]
noncomputable def zgI (c:Int):Nat:=(mixed c 1 % 21).toNat
theorem zeL (c:Int):zgI c<21:=(Int.toNat_lt (Ym _ (by decide))).mpr (Yj _ (by decide))
noncomputable def zaW:PF:=λds Q=>∃c:Int,ds=[.int c]/\Q (.lst ((ziG (zgI c)).map PV.str)) .new
theorem zhv:zaX zaW:=λds Q Q' m q174q=>by obtain⟨c,e,q⟩:=q174q;exact⟨c,e,m _ _ q⟩
theorem zjq:∀ {L:List Str}{told:List PV},(∀d∈told,d∈L.map PV.str)->∃ts:List Str,told=ts.map PV.str/\∀x∈ts,x∈L
 | L,[],_=>⟨[],rfl,λx h=>by cases h⟩
 | L,d::told,h=>by
  obtain⟨ts,e,h2⟩:=zjq (L:=L) (told:=told) λd hd=>h d (Xn _ hd);obtain⟨x,hx,rfl⟩:=XI.mp (h d (Xp ..));exact⟨x::ts,by rw[e];rfl,λy hy=>by rcases Xu.mp hy with rfl | hy;exact hx;exact h2 y hy⟩
theorem zny {L:List Str}{told left:List PV}(h:(told++left).Perm (L.map PV.str)):∃ts:List Str,told=ts.map PV.str/\∀x∈ts,x∈L:=
 zjq λd hd=>h.mem_iff.mp (Yq _ hd)
theorem zfA {l:List PV}{i:Int}(h0:0<=i)(h1:i<l.length):∃x,atI l i=some x/\l[i.toNat]? = some x:=by
 obtain⟨n,rfl⟩:∃n:Nat,i=n:=⟨i.toNat,by lia⟩;have hn:n<l.length:=by lia
 exact⟨l[n],zbd (by simp[hn]),by simp[hn]⟩
theorem zpH (l:List PV){i:Int}(h0:0<=i)(h1:i<=l.length):cutP l none (some i)=l.take i.toNat:=by
 obtain⟨n,rfl⟩:∃n:Nat,i=n:=⟨i.toNat,by lia⟩;unfold cutP;rw[_H.zdQ,_H.zjD,Nat.min_eq_left (by lia)];simp
theorem zku (l:List PV){i:Int}(h0:0<=i)(h1:i<=l.length):cutP l (some i) none=l.drop i.toNat:=by
 obtain⟨n,rfl⟩:∃n:Nat,i=n:=⟨i.toNat,by lia⟩;unfold cutP;rw[_H.zdQ,_H.zjD,Nat.min_eq_left (by lia),XJ (by simp)];simp
section
variable {P:Program}{w:World}{K:Xa}{mg:Str->Option Value}{base:Heap}
theorem znz:zap ["_law_cell","_law_k","_law_left","_law_j","_law_one"] ["_law_cell","_law_k"] (zac zcv):=⟨rfl,rfl,rfl,by decide +kernel,rfl,by decide +kernel,by decide +kernel⟩
theorem zfs {f:Addr}{fd:FuncData}(F:Fun K "_law_mixed" "_law_mixed" zcv f fd) (B:Bl mg):FnOk P w K mg base CX0 1 f fd ["_law_cell","_law_k"] (spP K zbY):=by
 refine zaw F znz (λds Q q175q=>by obtain⟨c,j,e,_⟩:=q175q;rw[e];rfl) (λcdv A outer s H E hr=>?_);have hu:(A.deeper (envOfC "_law_mixed" (zac zcv) s.heap.objs.size f cdv)).units+16<cLine:=by have q:=hr.units;lia
 have nd:=znz.nd;refine⟨_,(zad (zbQ (zgx (zaa 0) (zmr zag zag)) (zad (zai (i:=2) nd rfl (Or.inl rfl) (zem (zaa 0) zag))
   (zad (zaQ rfl PassesOwn.never (zaP rfl B.range (zab (zaa 1) zae)) (zak (i:=3) nd rfl (Or.inl rfl)) (zaf (zai (i:=2) nd rfl (Or.inl rfl) (zem (zaa 2) (zmr zag zag)))))
   (zaf (zan (zbq (zaa 2) (zmr zag zag)))))) zaH)
   (zad (zai (i:=4) nd rfl (Or.inl rfl) (zbq (zce (zbO (zbO (zbq (zaa 0) zag) (zce (zce zag (zaa 1)) (zaa 1))) (zce zag (zaa 1))) zag) zag))
   (zaf (zan (zbq (zce (zaa 4) (zbO (zbO (zbq (zaa 4) zag) (zce zag (zaa 1))) zag)) zag))))),λds Q h=>?_⟩
 obtain⟨c,k,rfl,h0,h1,q⟩:=h;walk_at "pu";have p7:(10:Int) ^ Int.toNat 7=10000000:=by decide
 have p8:(10:Int) ^ Int.toNat 8=100000000:=by decide
 refine⟨⟨by decide,by decide,by decide⟩,ite2 (λe1=>?a) (λe1=>?b)⟩
 case a=>
  walk_at "auto";obtain⟨Iv,hIv⟩:∃Iv:Nat->PEnv->Prop,∀i ρ,Iv i ρ↔∃kv:Option (PV×Bool),ρ=[some (PV.int c,false),some (PV.int k,false),some (PV.int (c / 1000 / (10 ^ 7) ^ i),false),kv,none]:=⟨_,λ_ _=>Iff.rfl⟩;refine⟨Iv,(hIv _ _).mpr ⟨none,by simp⟩,?_,?_⟩
  ·intro i d ρ hd hI;obtain⟨kv,rfl⟩:=(hIv _ _).mp hI;obtain⟨hi,rfl⟩:=zbL hd;walk_at "go";walk_at "auto";refine(hIv _ _).mpr ⟨some (PV.int (0+(i:Int)),false),?_⟩;have e3:c / 1000 / (10 ^ 7) ^ i / 10 ^ Int.toNat 7=c / 1000 / (10 ^ 7) ^ (i+1):=by
    rw[p7,show((10:Int) ^ 7)=10000000 from by decide,Int.pow_succ,Int.ediv_ediv_of_nonneg (Int.pow_nonneg (by decide))]
   rw[e3]
  ·intro ρ hI;obtain⟨kv,rfl⟩:=(hIv _ _).mp hI;rw[zbe];walk_at "auto";unfold mixed at q;rw[if_pos (by lia)]at q;exact q
 case b=>
  walk_at "auto";unfold mixed at q;rw[if_neg (by lia)]at q;exact q
theorem zkv:zap ["_law_cell","_law_some","_law_many","_law_left","_law_told","_law_at"] ["_law_cell","_law_some","_law_many"] (zac zbU):=⟨rfl,rfl,rfl,by decide +kernel,rfl,by decide +kernel,by decide +kernel⟩
theorem zgb {f fM:Addr}{fd fdM:FuncData}(F:Fun K "_law_picked" "_law_picked" zbU f fd) (Mixed:Fx K mg "_law_mixed" zcv ["_law_cell","_law_k"] fM fdM) (B:Bl mg):FnOk P w K mg base CX0 2 f fd ["_law_cell","_law_some","_law_many"] (spP K zbK):=by
 have GMixed:FnOk P w K mg base CX0 1 fM fdM ["_law_cell","_law_k"] (spP K zbY):=zfs Mixed.fn B;refine zaw F zkv (λds Q q176q=>by obtain⟨c,n,es,x,e,_⟩:=q176q;rw[e];rfl) (λcdv A outer s H E hr=>?_);have hu:(A.deeper (envOfC "_law_picked" (zac zbU) s.heap.objs.size f cdv)).units+16<cLine:=by have q:=hr.units;lia
 have nd:=zkv.nd;refine⟨_,(zad (zai (i:=3) nd rfl (Or.inl rfl) (zmE rfl B.list (zab (zaa 1) zae)))
   (zad (zai (i:=4) nd rfl (Or.inl rfl) (zbF zae))
   (zad (zdn PassesOwn.never (PuW.t (zjf (zjT (zaU rfl B.len (zab (zaa 4) zae)) (zaa 2)) (zgZ (zgx (zaU rfl B.len (zab (zaa 3) zae)) zag)))) (zad (zai (i:=5) nd rfl (Or.inl rfl) (zbq (zaq GMixed zcd hr rfl Mixed.mg Mixed.fn.kp Mixed.bd (zab (zaa 0) (zab (zbO zag (zaU rfl B.len (zab (zaa 4) zae))) zae))) (zaU rfl B.len (zab (zaa 3) zae))))
   (zad (zbi (zbs 4 (zao (zaa 3) (zaa 5))))
   (zaf (zai (i:=3) nd rfl (Or.inl rfl) (zdp (zcQ (zaa 3) zex (zby (zaa 5))) (zcQ (zaa 3) (zby (zbO (zaa 5) zag)) zex)))))))
   (zaf (zan (zaa 4)))))),λds Q h=>?_⟩
 obtain⟨c,many,es,x,rfl,hx,hz,q⟩:=h;walk_at "pu";refine⟨es,hx,?_⟩;walk_at "auto";obtain⟨Iv,hIv⟩:∃Iv:Nat->PEnv->Prop,∀m ρ,Iv m ρ↔∃(told left:List PV) (kv:Option (PV×Bool)),ρ=[some (PV.int c,false),some (x,false),some (PV.int many,false),some (PV.lst left,true),some (PV.lst told,true),kv]/\
   (told++left).Perm es/\told.length<=many.toNat/\m=left.length:=⟨_,λ_ _=>Iff.rfl⟩
 refine⟨Iv,⟨_,(hIv _ _).mpr ⟨[],es,none,rfl,by simp,Yh _,rfl⟩⟩,?_⟩;intro m ρ hI;obtain⟨told,left,kv,rfl,hp,hm,rfl⟩:=(hIv _ _).mp hI;have hlen:=hp.length_eq;rw[Xq]at hlen;walk_at "go";have fin:(told.length=min many.toNat es.length)->Hold (pRet (pVar 4)) { nx:=λx=>Q PV.non Kd.frz,rt:=Q,bk:=λx=>False,ct:=λx=>False }
    [some (PV.int c,false),some (x,false),some (PV.int many,false),some (PV.lst left,true),some (PV.lst told,true),kv]:=λhl=>by
  walk_at "go";exact q told left hp hl
 refine ite2 (λe1=>ite2 (λe2=>?_) (λe2=>fin (by lia))) (λe1=>fin (by lia));have hl0:0<left.length:=by lia
 have n1:=Ym (mixed c (3+(told.length:Int))) (show(left.length:Int)≠0 by lia);have n2:=Yj (mixed c (3+(told.length:Int))) (show(0:Int)<left.length by lia);obtain⟨y,hy,hy2⟩:=zfA n1 n2;walk_at "go";walk_at "auto";generalize hat:mixed c (3+(told.length:Int)) % (left.length:Int)=at_ at *;refine⟨by rw[sizeLine_eq];lia,y,hy,?_⟩;walk_at "go";rw[zpH left n1 (by lia),zku left (i:=at_+1) (by lia) (by lia)];have hn:at_.toNat<left.length:=by lia
 have e3:(at_+1).toNat=at_.toNat+1:=by lia
 rw[e3];have hsp:left=left.take at_.toNat++y::left.drop (at_.toNat+1):=by
  rw[Xf hn]at hy2;cases hy2;rw[List.getElem_cons_drop,YN]
 refine⟨by rw[XR,List.length_drop,sizeLine_eq];lia,left.length-1,by lia,(hIv _ _).mpr ⟨told++[y],_,_,rfl,?_,by rw[Xq,YF];lia,by rw[Xq,XR,List.length_drop];lia⟩⟩;refine List.Perm.trans ?_ hp
 conv=>rhs;rw[hsp]
 rw[List.append_assoc];refine List.Perm.append_left _ ?_;exact(List.perm_middle (a:=y) (l₁:=left.take at_.toNat) (l₂:=left.drop (at_.toNat+1))).symm
theorem zgJ:zap ["_law_cell","_law_first"] ["_law_cell"] (zac zbB):=⟨rfl,rfl,rfl,by decide +kernel,rfl,by decide +kernel,by decide +kernel⟩
theorem zjr {f fM:Addr}{fd fdM:FuncData}(F:Fun K "_law_alphabet" "_law_alphabet" zbB f fd) (Mixed:Fx K mg "_law_mixed" zcv ["_law_cell","_law_k"] fM fdM) (B:Bl mg):FnOk P w K mg base CX0 2 f fd ["_law_cell"] (spP K zaW):=by
 have GMixed:FnOk P w K mg base CX0 1 fM fdM ["_law_cell","_law_k"] (spP K zbY):=zfs Mixed.fn B;refine zaw F zgJ (λds Q q177q=>by obtain⟨c,e,_⟩:=q177q;rw[e];rfl) (λcdv A outer s H E hr=>?_);have hu:(A.deeper (envOfC "_law_alphabet" (zac zbB) s.heap.objs.size f cdv)).units+16<cLine:=by have q:=hr.units;lia
 have nd:=zgJ.nd;refine⟨_,(zad (zai (i:=1) nd rfl (Or.inl rfl) (zbq (zaq GMixed zcd hr rfl Mixed.mg Mixed.fn.kp Mixed.bd (zab (zaa 0) (zab zag zae))) zag))
   (zaf (zan (zoA rfl rfl B.list (zab (zmO zsm (zby (zaa 1)) (zby (zbO (zaa 1) zag))) zae))))),λds Q h=>?_⟩
 obtain⟨c,rfl,q⟩:=h;have e1:mixed c 1 % 21=(zgI c:Int):=(Int.toNat_of_nonneg (Ym _ (by decide))).symm;have h21:=zeL c;walk_at "pu";walk_at "auto";rw[e1];refine⟨by rw[zto _ h21,sizeLine_eq];decide,?_⟩;rw[zrr _ h21];exact q
end
noncomputable def Pats (L:List Str)(n:Nat)(sh:List (List Str)):Prop:=sh.length=n/\∀p∈sh,p.length<=4/\p.Nodup/\∀x∈p,x∈L
theorem Pats.snoc {L:List Str}{n:Nat}{sh:List (List Str)}{p:List Str}(h:Pats L n sh)(h1:p.length<=4)(h0:p.Nodup)(h2:∀x∈p,x∈L):Pats L (n+1) (sh++[p]):=
 ⟨by rw[Xq,h.1];rfl,λq hq=>by
  rcases XZ.mp hq with hq | hq
  ·exact h.2 q hq
  ·rw[Xw]at hq;subst hq;exact⟨h1,h0,h2⟩⟩
noncomputable def zbE:PF:=λds Q=>∃(cs:List Int)(a many:Int),ds=[.lst (cs.map PV.int),.int a,.int many]/\0<=a/\a<=1000/\0<=many/\many<=100/\∀zs:List Int,zs.length=many.toNat->Q (.lst (zs.map PV.int)) .new
theorem zhw:zaX zbE:=λds Q Q' m q178q=>by obtain⟨cs,a,n,e,h1,h2,h3,h4,q⟩:=q178q;exact⟨cs,a,n,e,h1,h2,h3,h4,λzs h=>m _ _ (q zs h)⟩
theorem cget {cs:List Int}{i:Nat}(h:i<cs.length){j:Int}(hj:j=i):atI (cs.map PV.int) j=some (.int cs[i]):=by
 subst hj;exact zbd (by simp[h])
structure zaS (L:List Str)(n:Nat)(sh:List (List Str))(ps:List (Option Nat)):Prop where
 pats:Pats L n sh
 plen:ps.length=n
 ne:∀p∈sh,p≠[]
structure zhx (L:List Str)(sh:List (List Str))(new:List Str):Prop where
 nd:new.Nodup
 sub:∀x∈new,x∈L
 dis:∀p∈sh,∀x∈new,x∉p
theorem zeM {l:List Str}:(l.map PV.str).Nodup↔l.Nodup:=by
 unfold List.Nodup;rw[List.pairwise_map];simp
noncomputable def parP:Option Nat->PV
 | none=>.non
 | some p=>.int p
theorem zaS.snoc {L:List Str}{n m:Nat}{sh:List (List Str)}{ps:List (Option Nat)}{new ts:List Str}{par:Option Nat}(T:zaS L n sh ps)(N:zhx L sh new)(h4:(new.take m++ts).length<=4)(hne:new.take m++ts≠[])
  (hts:ts.Nodup) (hp:(par=none/\n=0/\ts=[])\/∃j q,par=some j/\j<n/\sh[j]? = some q/\∀x∈ts,x∈q):zaS L (n+1) (sh++[new.take m++ts]) (ps++[par])/\zhx L (sh++[new.take m++ts]) (new.drop m):=by
 have hin:∀x∈ts,∃p∈sh,x∈p:=λx hx=>by
  rcases hp with ⟨_,_,e⟩ | ⟨j,q,_,_,hq,hs⟩
  ·rw[e]at hx;cases hx
  ·exact⟨q,Xr hq,hs x hx⟩
 have hsub:∀x∈new.take m++ts,x∈L:=λx hx=>by
  rcases XZ.mp hx with hx | hx
  ·exact N.sub x (List.mem_of_mem_take hx)
  ·obtain⟨p,hp,hxp⟩:=hin x hx;exact(T.pats.2 p hp).2.2 x hxp
 have hnd:(new.take m++ts).Nodup:=by
  rw[List.nodup_append];refine⟨N.nd.sublist (List.take_sublist _ _),hts,λa ha b hb e=>?_⟩;subst e;obtain⟨p,hp,hxp⟩:=hin a hb;exact N.dis p hp a (List.mem_of_mem_take ha) hxp
 refine⟨⟨T.pats.snoc h4 hnd hsub,by rw[Xq,T.plen];rfl,λp hp=>?_⟩,N.nd.sublist (List.drop_sublist _ _),λx hx=>N.sub x (List.mem_of_mem_drop hx),λp hp x hx hxp=>?_⟩
 ·rcases XZ.mp hp with hp | hp
  ·exact T.ne p hp
  ·rw[Xw]at hp;subst hp;exact hne
 ·rcases XZ.mp hp with hp | hp
  ·exact N.dis p hp x (List.mem_of_mem_drop hx) hxp
  ·rw[Xw]at hp;subst hp;rcases XZ.mp hxp with h | h
   ·have hd:=N.nd;rw[<- YN m new,List.nodup_append]at hd;exact hd.2.2 x h x hx rfl
   ·obtain⟨p,hp,hxp⟩:=hin x h;exact N.dis p hp x (List.mem_of_mem_drop hx) hxp
theorem zaS.nil (L:List Str):zaS L 0 [] []:=⟨⟨rfl,λp hp=>by cases hp⟩,rfl,λp hp=>(by cases hp)⟩
noncomputable def zhy:PF:=λds Q=>∃(cs:List Int)(L:List Str),ds=[.lst (cs.map PV.int),.lst (L.map PV.str)]/\cs.length<=6/\L.length=6/\L.Nodup/\∀sh ps,zaS L cs.length sh ps->Q (.tup [.lst (sh.map ltsP),.lst (ps.map parP)]) .frz
theorem znA:zaX zhy:=λds Q Q' m q179q=>by obtain⟨cs,L,e,h1,h2,h3,q⟩:=q179q;exact⟨cs,L,e,h1,h2,h3,λsh ps a=>m _ _ (q sh ps a)⟩
noncomputable def tE (cs:List Int)(L:List Str)(sh:List (List Str))(ps:List (Option Nat))(new:List Str)(k5 k6 k7 k8:Option (PV×Bool)):PEnv:=[some (PV.lst (cs.map PV.int),false),some (PV.lst (L.map PV.str),false),some (PV.lst (sh.map ltsP),true),some (PV.lst (ps.map parP),true),some (PV.lst (new.map PV.str),true),k5,k6,k7,k8]
theorem seqK {t u:TPS}{ρ:PEnv}{O:POut}(h:∀N:PEnv->Prop,(∀ρ',Hold u O ρ'->N ρ')->Hold t ⟨N,O.rt,O.bk,O.ct⟩ ρ):Hold (pSeq t u) O ρ:=h _ λ_ x=>x
section
variable {P:Program}{w:World}{K:Xa}{mg:Str->Option Value}{base:Heap}
theorem zgK:zap ["_law_cells","_law_at","_law_many","_law_told"] ["_law_cells","_law_at","_law_many"] (zac zbC):=⟨rfl,rfl,rfl,by decide +kernel,rfl,by decide +kernel,by decide +kernel⟩
theorem zjs {f:Addr}{fd:FuncData}(F:Fun K "_law_filled_up" "_law_filled_up" zbC f fd) (B:Bl mg):FnOk P w K mg base CX0 1 f fd ["_law_cells","_law_at","_law_many"] (spP K zbE):=by
 refine zaw F zgK (λds Q q180q=>by obtain⟨c,a,n,e,_⟩:=q180q;rw[e];rfl) (λcdv A outer s H E hr=>?_);have hu:(A.deeper (envOfC "_law_filled_up" (zac zbC) s.heap.objs.size f cdv)).units+16<cLine:=by have q:=hr.units;lia
 have nd:=zgK.nd;refine⟨_,(zad (zai (i:=3) nd rfl (Or.inl rfl) (zcQ (zaa 0) (zby (zaa 1)) (zby (zbO (zaa 1) (zaa 2)))))
   (zad (zdn PassesOwn.never (zjT (zaU rfl B.len (zab (zaa 3) zae)) (zaa 2)) (zaf (zbi (zbs 3 (zbO (zce zag (zaU rfl B.len (zab (zaa 3) zae))) (zce zag (zaa 1)))))))
   (zaf (zan (zaa 3))))),λds Q h=>?_⟩
 obtain⟨cs,a,many,rfl,ha,ha2,hm,hm2,q⟩:=h;walk_at "pu";walk_at "auto";obtain⟨zs,hzs,hzl⟩:∃zs:List Int,cutP (cs.map PV.int) (some a) (some (a+many))=zs.map PV.int/\zs.length<=many.toNat:=by
  obtain⟨n,rfl⟩:∃n:Nat,a=n:=⟨a.toNat,by lia⟩;obtain⟨m,rfl⟩:∃m:Nat,many=m:=⟨many.toNat,by lia⟩;refine⟨(cs.drop (min n cs.length)).take (min (n+m) cs.length-min n cs.length),?_,?_⟩
  ·unfold cutP;rw[_H.zdQ,show((n:Int)+(m:Int))=((n+m:Nat):Int) by lia,_H.zdQ,Xb,List.map_take,List.map_drop]
  ·rw[XR];refine XO (Nat.min_le_left ..) (Nat.sub_le_of_le_add ?_);rcases Nat.le_total n cs.length with z | z
   ·rw[Nat.min_eq_left z];exact XO (Nat.min_le_left ..) (by lia)
   ·rw[Nat.min_eq_right z];exact XO (Nat.min_le_right ..) (by lia)
 rw[hzs];obtain⟨Iv,hIv⟩:∃Iv:Nat->PEnv->Prop,∀m ρ,Iv m ρ↔∃zs:List Int,ρ=[some (PV.lst (cs.map PV.int),false),some (PV.int a,false),some (PV.int many,false),some (PV.lst (zs.map PV.int),true)]/\zs.length<=many.toNat/\m=many.toNat-zs.length:=⟨_,λ_ _=>Iff.rfl⟩;refine⟨Iv,⟨_,(hIv _ _).mpr ⟨zs,rfl,hzl,rfl⟩⟩,?_⟩;intro m ρ hI;obtain⟨zs,rfl,hl,rfl⟩:=(hIv _ _).mp hI;walk_at "go";refine ite2 (λe1=>?_) (λe1=>?_)
 ·rw[Xb]at e1;walk_at "go";rw[Xb];refine⟨by rw[sizeLine_eq];lia,.inl ⟨by decide,by decide⟩,.inl ⟨by decide,by decide⟩,_,?_,(hIv _ _).mpr ⟨zs++[7*(zs.length:Int)+3*a],by rw[Xk];rfl,?_,rfl⟩⟩
  all_goals (rw[Xq,YF];lia)
 ·rw[Xb]at e1;walk_at "go";exact q zs (by lia)
noncomputable def tFin:TPS:=pSeq (pSet 8 (_P.tB zdD (zar (pVar 8) (zar (pSub (pC (PV.int 4)) (_P.tB fLen (zar (pVar 6) pNil))) (zar (_P.tB fLen (zar (pVar 4) pNil)) pNil)))))
        (pSeq (zbR (mApp 2 (_P.tB zbS (zar (t2 pCat (pSlL (pVar 4) zdB (zdC (pVar 8))) (pVar 6)) pNil))))
         (pSeq (pSet 4 (pSlL (pVar 4) (zdC (pVar 8)) zdB)) (zbR (mApp 3 (pVar 7)))))
noncomputable def tMid:TPS:=pSeq (pSet 8 (pC (PV.int 1)))
         (pIf (tBl (t2 (pEq false) (_P.tB fLen (zar (pVar 4) pNil)) (pC (PV.int 0))))
          (pSet 6 (pLst (zar (t2 pIx (t2 pIx (pVar 2) (pVar 7)) (pC (PV.int 0))) pNil))) zcA)
noncomputable def ztp:TPS:=pSeq (pSet 8 (pMod (zaF zbY (zar (t2 pIx (pVar 0) (pVar 5)) (zar (pC (PV.int 22)) pNil))) (pC (PV.int 3))))
      (pSeq
       (pIf
        (zdk (tBl (t2 (pEq false) (_P.tB fLen (zar (pVar 6) pNil)) (pC (PV.int 0))))
         (tOrP (tBl (t2 (pEq false) (pVar 8) (pC (PV.int 0))))
          (tBl (t2 (pEq false) (_P.tB fLen (zar (pVar 4) pNil)) (pC (PV.int 0))))))
        tMid
        zcA) tFin)
structure zpI (i:Nat)(sh:List (List Str))(ts:List Str)(par:Option Nat):Prop where
 nd:ts.Nodup
 two:ts.length<=2
 hp:(par=none/\i=0/\ts=[])\/∃j q,par=some j/\j<i/\sh[j]? = some q/\∀x∈ts,x∈q
section
variable {cs:List Int}{L new:List Str}{i:Nat}{sh:List (List Str)}{ps:List (Option Nat)}{O:POut}
theorem zft (T:zaS L i sh ps)(N:zhx L sh new)(h6:i<6)(hO:∀sh' ps' new' k5 k6 k7 k8,zaS L (i+1) sh' ps'->zhx L sh' new'->O.nx (tE cs L sh' ps' new' k5 k6 k7 k8)){ts:List Str}{par:Option Nat}(R:zpI i sh ts par){more:Int}(m0:0<=more)(m3:more<=3)(hemp:ts=[]->1<=more/\new≠[]):Hold tFin O (tE cs L sh ps new (some (PV.int (0+i),false)) (some (PV.lst (ts.map PV.str),true)) (some (parP par,false)) (some (PV.int more,false))):=by
 have tn2:=R.two;have hpl:=T.plen;have hsl:=T.pats.1;unfold tFin;walk_at "go";rw[Xb,Xb];obtain⟨m,hm⟩:∃m:Int,m=(if 4-(ts.length:Int)<more then if (new.length:Int)<4-(ts.length:Int) then(new.length:Int) else 4-(ts.length:Int) else if (new.length:Int)<more then(new.length:Int) else more):=⟨_,rfl⟩
 rw[<- hm];have hm4:0<=m/\m<=new.length/\m+ts.length<=4/\(m=new.length\/m=4-(ts.length:Int)\/m=more):=by split at hm<;>split at hm<;>lia
 obtain⟨hm0,hm1,hm2,hm5⟩:=hm4;have hm3:ts=[]->1<=m:=λz=>by
  obtain⟨z1,z2⟩:=hemp z;have z3:0<new.length:=List.length_pos_iff.mpr z2;have z4:ts.length=0:=by rw[z];rfl
  lia
 clear hm hm5;walk_at "go";have cut1:cutP (new.map PV.str) none (some m)=(new.take m.toNat).map PV.str:=by rw[zpH _ hm0 (by rw[Xb];exact hm1),List.map_take]
 have cut2:cutP (new.map PV.str) (some m) none=(new.drop m.toNat).map PV.str:=by rw[zku _ hm0 (by rw[Xb];exact hm1),List.map_drop]
 rw[cut1];simp only[Xb,XR];refine⟨by rw[sizeLine_eq];lia,by rw[sizeLine_eq];lia,?_⟩;walk_at "go";walk_at "go";rw[cut2];obtain⟨T2,N2⟩:=T.snoc (m:=m.toNat) (ts:=ts) (par:=par) N (by rw[Xq,XR];lia) (λz=>by
  rw[List.append_eq_nil_iff]at z;have z1:=hm3 z.2;have z2:=congrArg List.length z.1;rw[XR,YC]at z2;lia) R.nd R.hp
 have e1:(sh++[new.take m.toNat++ts]).map ltsP=sh.map ltsP++[PV.tup ((new.take m.toNat).map PV.str++ts.map PV.str)]:=by rw[Xk];simp only[Xy,List.map_nil,ltsP,Xk]
 have e2:(ps++[par]).map parP=ps.map parP++[parP par]:=by rw[Xk];rfl
 rw[<- e1,<- e2];exact⟨by rw[Xb,sizeLine_eq];lia,hO _ _ _ _ _ _ _ T2 N2⟩
theorem ziH (T:zaS L i sh ps)(N:zhx L sh new)(h6:i<6)(hi:i<cs.length)(hL:L.length=6)(hN0:i=0->new=L)(hO:∀sh' ps' new' k5 k6 k7 k8,zaS L (i+1) sh' ps'->zhx L sh' new'->O.nx (tE cs L sh' ps' new' k5 k6 k7 k8)){ts:List Str}{par:Option Nat}(R:zpI i sh ts par)(kv:Option (PV×Bool)):Hold ztp O (tE cs L sh ps new (some (PV.int (0+i),false)) (some (PV.lst (ts.map PV.str),true)) (some (parP par,false)) kv):=by
 refine seqK λM hM=>?_;walk_at "go";refine⟨_,cget hi (by lia),_,rfl,by decide,by decide,by decide,hM _ (seqK λM hM=>?_)⟩;generalize mixed cs[i] 22=c22;have n1:=Ym c22 (show(3:Int)≠0 by decide);have n2:=Yj c22 (show(0:Int)<3 by decide);have mid:∀v:PV,ts=[]->Hold tMid ⟨M,O.rt,O.bk,O.ct⟩ (tE cs L sh ps new (some (PV.int (0+i),false)) (some (PV.lst (ts.map PV.str),true)) (some (parP par,false)) (some (v,false))):=by
  intro v hts;subst hts;unfold tMid;walk_at "go";walk_at "go";rw[Xb];refine ite2 (λe=>?_) (λe=>?_)
  ·walk_at "go";rcases R.hp with ⟨_,hi0,_⟩ | ⟨j,p,rfl,hj,hq,_⟩
   ·have:=hN0 hi0;rw[this]at e;lia
   ·have hpm:=Xr hq;have hne:=T.ne p hpm;have hpl0:0<p.length:=List.length_pos_iff.mpr hne;have hat:atI (sh.map ltsP) (j:Int)=some (ltsP p):=zbd (by rw[Xi,hq];rfl);have hat2:atI (p.map PV.str) 0=some (.str p[0]):=zbd (j:=0) (by simp[hpl0]);refine⟨_,⟨_,rfl,hat⟩,_,.inl ⟨_,.inr rfl,hat2⟩,by decide,hM _ ?_⟩;exact zft (ts:=[p[0]]) (par:=some j) T N h6 hO ⟨by simp,by simp,.inr ⟨j,p,rfl,hj,hq,λx hx=>by rw[Xw]at hx;subst hx;exact Yo _⟩⟩ (by decide) (by decide) λz=>by cases z
  ·walk_at "go";exact hM _ (zft T N h6 hO R (by decide) (by decide) λ_=>⟨by decide,λz=>e (by rw[z];rfl)⟩)
 walk_at "go";refine ite2 (λe1=>ite2 (λe2=>?_) (λe2=>ite2 (λe3=>?_) (λe3=>?_))) (λe1=>?_)
 ·exact mid _ (XW.mp (by rw[Xb]at e1;lia))
 ·exact mid _ (XW.mp (by rw[Xb]at e1;lia))
 ·exact hM _ (zft T N h6 hO R (by lia) (by lia) λ_=>⟨by lia,λz=>e3 (by rw[z];rfl)⟩)
 ·exact hM _ (zft T N h6 hO R (by lia) (by lia) λz=>(e1 (by rw[z];rfl)).elim)
noncomputable def ztq:TPS:=pSeq (pSet 6 (pLst pNil)) (pSeq (pSet 7 (pC PV.non)) (pSeq (pIf (tBl (pGt (pVar 5) (pC (PV.int 0)))) (pSeq (pSet 7 (pMod (zaF zbY (zar (t2 pIx (pVar 0) (pVar 5)) (zar (pC (PV.int 20)) pNil))) (pVar 5))) (pSet 6 (zaF zbK (zar (t2 pIx (pVar 0) (pVar 5)) (zar (t2 pIx (pVar 2) (pVar 7)) (zar (pMod (zaF zbY (zar (t2 pIx (pVar 0) (pVar 5)) (zar (pC (PV.int 21)) pNil))) (pC (PV.int 3))) pNil)))))) zcA) ztp))
theorem znB (T:zaS L i sh ps)(N:zhx L sh new)(h6:i<6)(hi:i<cs.length)(hL:L.length=6)(hN0:i=0->new=L)(hO:∀sh' ps' new' k5 k6 k7 k8,zaS L (i+1) sh' ps'->zhx L sh' new'->O.nx (tE cs L sh' ps' new' k5 k6 k7 k8))(k6 k7 k8:Option (PV×Bool)):Hold ztq O (tE cs L sh ps new (some (PV.int (0+i),false)) k6 k7 k8):=by
 have hpl:=T.plen;have hsl:=T.pats.1;refine seqK λM hM=>?_;walk_at "go";refine⟨Yh _,hM _ (seqK λM hM=>?_)⟩;walk_at "go";refine hM _ (seqK λM hM=>?_);walk_at "go";refine ite2 (λe1=>?_) (λe1=>?_)
 ·walk_at "go";refine⟨_,cget hi (by lia),_,rfl,by decide,by decide,by lia,?_⟩;have n1:=Ym (mixed cs[i] 20) (show(0+(i:Int))≠0 by lia);have n2:=Yj (mixed cs[i] 20) (show(0:Int)<0+(i:Int) by lia);generalize mixed cs[i] 20 % (0+(i:Int))=pj at *;obtain⟨j,rfl⟩:∃j:Nat,pj=j:=⟨pj.toNat,by lia⟩;have hj:j<sh.length:=by lia
  have hat:atI (sh.map ltsP) (j:Int)=some (ltsP sh[j]):=zbd (by simp[hj]);have hjm:=Yo hj;have hj4:=(T.pats.2 _ hjm).1;have n3:=Ym (mixed cs[i] 21) (show(3:Int)≠0 by decide);have n4:=Yj (mixed cs[i] 21) (show(0:Int)<3 by decide);walk_at "go";refine⟨_,cget hi (by lia),_,hat,_,cget hi (by lia),_,rfl,by decide,by decide,by decide,⟨_,rfl⟩,_,.inr rfl,by rw[Xb];lia,λtold left hp hl=>hM _ ?_⟩;obtain⟨ts,rfl,hts⟩:=zny hp;rw[Xb,Xb]at hl;have hn:=(T.pats.2 _ hjm).2.1;have hp2:((ts.map PV.str)++left).Nodup:=hp.nodup_iff.mpr (zeM.mpr hn);exact ziH (par:=some j) T N h6 hi hL hN0 hO ⟨zeM.mp (List.nodup_append.mp hp2).1,by lia,.inr ⟨j,sh[j],rfl,by lia,by simp[hj],hts⟩⟩ _
 ·walk_at "go";exact hM _ (ziH (ts:=[]) (par:=none) T N h6 hi hL hN0 hO ⟨YL,Yh _,.inl ⟨rfl,by lia,rfl⟩⟩ _)
end
theorem zpJ:zap ["_law_cells","_law_letters_here","_law_shape_here","_law_parents","_law_new","_law_k","_law_pattern","_law_parent","_law_more"] ["_law_cells","_law_letters_here"] (zac zhq):=⟨rfl,rfl,rfl,by decide +kernel,rfl,by decide +kernel,by decide +kernel⟩
theorem zrs {f fM fP:Addr}{fd fdM fdP:FuncData}(F:Fun K "_law_tree" "_law_tree" zhq f fd) (Mixed:Fx K mg "_law_mixed" zcv ["_law_cell","_law_k"] fM fdM) (Picked:Fx K mg "_law_picked" zbU ["_law_cell","_law_some","_law_many"] fP fdP) (B:Bl mg):FnOk P w K mg base CX0 3 f fd ["_law_cells","_law_letters_here"] (spP K zhy):=by
 have GMixed:FnOk P w K mg base CX0 2 fM fdM ["_law_cell","_law_k"] (spP K zbY):=(zfs Mixed.fn B).mono (by decide);have GPicked:FnOk P w K mg base CX0 2 fP fdP ["_law_cell","_law_some","_law_many"] (spP K zbK):=zgb Picked.fn Mixed B;refine zaw F zpJ (λds Q q181q=>by obtain⟨c,L,e,_⟩:=q181q;rw[e];rfl) (λcdv A outer s H E hr=>?_);have hu:(A.deeper (envOfC "_law_tree" (zac zhq) s.heap.objs.size f cdv)).units+16<cLine:=by have q:=hr.units;lia
 have nd:=zpJ.nd;refine⟨_,(zad (zai (i:=2) nd rfl (Or.inl rfl) (zbF zae))
   (zad (zai (i:=3) nd rfl (Or.inl rfl) (zbF zae))
   (zad (zai (i:=4) nd rfl (Or.inl rfl) (zmE rfl B.list (zab (zaa 1) zae)))
   (zad (zaQ rfl PassesOwn.never (zaP rfl B.range (zab (zaU rfl B.len (zab (zaa 0) zae)) zae)) (zak (i:=5) nd rfl (Or.inl rfl)) (zad (zai (i:=6) nd rfl (Or.inl rfl) (zbF zae))
   (zad (zai (i:=7) nd rfl (Or.inl rfl) zhX)
   (zad (zbQ (zgx (zaa 5) zag) (zad (zai (i:=7) nd rfl (Or.inl rfl) (zbq (zaq GMixed zcd hr rfl Mixed.mg Mixed.fn.kp Mixed.bd (zab (zao (zaa 0) (zaa 5)) (zab zag zae))) (zaa 5)))
   (zaf (zai (i:=6) nd rfl (Or.inl rfl) (zaq GPicked zea hr rfl Picked.mg Picked.fn.kp Picked.bd (zab (zao (zaa 0) (zaa 5)) (zab (zao (zaa 2) (zaa 7)) (zab (zbq (zaq GMixed zcd hr rfl Mixed.mg Mixed.fn.kp Mixed.bd (zab (zao (zaa 0) (zaa 5)) (zab zag zae))) zag) zae))))))) zaH)
   (zad (zai (i:=8) nd rfl (Or.inl rfl) (zbq (zaq GMixed zcd hr rfl Mixed.mg Mixed.fn.kp Mixed.bd (zab (zao (zaa 0) (zaa 5)) (zab zag zae))) zag))
   (zad (zbQ (PuW.t (zjf (zfh hu (zaU rfl B.len (zab (zaa 6) zae)) zag) (zgZ (PuW.t (zeo (zfh hu (zaa 8) zag) (zdR (zfh hu (zaU rfl B.len (zab (zaa 4) zae)) zag))))))) (zad (zai (i:=8) nd rfl (Or.inl rfl) zag)
   (zaf (zbQ (zfh hu (zaU rfl B.len (zab (zaa 4) zae)) zag) (zaf (zai (i:=6) nd rfl (Or.inl rfl) (zbF (zab (zao (zao (zaa 2) (zaa 7)) zag) zae)))) zaH))) zaH)
   (zad (zai (i:=8) nd rfl (Or.inl rfl) (zqY rfl rfl B.min (zab (zaa 8) (zab (zmq zag (zaU rfl B.len (zab (zaa 6) zae))) (zab (zaU rfl B.len (zab (zaa 4) zae)) zae)))))
   (zad (zbi (zbs 2 (zhd rfl B.tuple (zab (zdp (zcQ (zaa 4) zex (zby (zaa 8))) (zaa 6)) zae))))
   (zad (zai (i:=4) nd rfl (Or.inl rfl) (zcQ (zaa 4) (zby (zaa 8)) zex))
   (zaf (zbi (zbs 3 (zaa 7)))))))))))))
   (zaf (zbw 3 (zbw 2 (zan (zdI (zab (zaa 2) (zab (zaa 3) zae))))))))))),λds Q h=>?_⟩
 obtain⟨cs,L,rfl,h6,hL,hLn,q⟩:=h;show Hold (pSeq (pSet 2 (pLst pNil)) (pSeq (pSet 3 (pLst pNil)) (pSeq (pSet 4 (_P.tB zdA (zar (pVar 1) pNil))) (pSeq (pFor (zbm (zar (_P.tB fLen (zar (pVar 0) pNil)) pNil)) (zaZ 5) ztq) (pFrz 3 (pFrz 2 (pRet (pTup (zar (pVar 2) (zar (pVar 3) pNil)))))))))) (zba Q) _;walk_at "pu";walk_at "auto";rw[Xb];obtain⟨Iv,hIv⟩:∃Iv:Nat->PEnv->Prop,∀i ρ,Iv i ρ↔∃(sh:List (List Str)) (ps:List (Option Nat)) (new:List Str) (k1 k2 k3 k4:Option (PV×Bool)),ρ=tE cs L sh ps new k1 k2 k3 k4/\
   zaS L i sh ps/\zhx L sh new/\(i=0->new=L):=⟨_,λ_ _=>Iff.rfl⟩
 refine⟨by lia,Iv,(hIv _ _).mpr ⟨[],[],L,none,none,none,none,rfl,.nil L,⟨hLn,λ_ h=>h,λp hp=>by cases hp⟩,λ_=>rfl⟩,?_,?_⟩
 ·intro i d ρ hd hI;obtain⟨sh,ps,new,k1,k2,k3,k4,rfl,T,N,hN0⟩:=(hIv _ _).mp hI;obtain⟨hi,rfl⟩:=zbL hd;have hi':i<cs.length:=by lia
  exact znB T N (by lia) hi' hL hN0 (λsh' ps' new' k5 k6 k7 k8 T2 N2=>(hIv _ _).mpr ⟨sh',ps',new',k5,k6,k7,k8,rfl,T2,N2,λz=>by lia⟩) _ _ _
 ·intro ρ hI;obtain⟨sh,ps,new,k1,k2,k3,k4,rfl,T,N,hN0⟩:=(hIv _ _).mp hI;rw[zbe]at T;walk_at "go";exact⟨by decide,q sh ps (by simpa using T)⟩
end
theorem Pats.nil (L:List Str):Pats L 0 []:=⟨rfl,λp hp=>by cases hp⟩
theorem Pats.shp {L:List Str}{n:Nat}{sh:List (List Str)}(h:Pats L n sh)(h1:1<=n)(h6:n<=6)(hL:L.length=6):Shp sh:=by
 refine⟨by rw[h.1];exact h1,by rw[h.1];exact h6,λp hp=>(h.2 p hp).1,λp hp=>(h.2 p hp).2.1,λns hn hs=>?_⟩;rw[<- hL];refine List.Nodup.length_le_of_subset hn λx hx=>?_;obtain⟨p,hp,hxp⟩:=hs x hx;exact(h.2 p hp).2.2 x hxp
noncomputable def fAny:PF:=λds Q=>∃(cs:List Int)(L:List Str),ds=[.lst (cs.map PV.int),.lst (L.map PV.str)]/\cs.length<=6/\L.length=6/\L.Nodup/\∀sh,Pats L cs.length sh->Q (.lst (sh.map ltsP)) .new
theorem zoY:zaX fAny:=λds Q Q' m q182q=>by obtain⟨cs,L,e,h1,h2,h3,q⟩:=q182q;exact⟨cs,L,e,h1,h2,h3,λsh a=>m _ _ (q sh a)⟩
noncomputable def ziI:PF:=λds Q=>∃(cs:List Int)(L:List Str),ds=[.lst (cs.map PV.int),.lst (L.map PV.str)]/\cs.length<=6/\L.length=6/\L.Nodup/\∀sh,Pats L cs.length sh->Q (.lst (sh.map ltsP)) .new
theorem znC:zaX ziI:=λds Q Q' m q183q=>by obtain⟨cs,L,e,h1,h2,h3,q⟩:=q183q;exact⟨cs,L,e,h1,h2,h3,λsh a=>m _ _ (q sh a)⟩
noncomputable def zdO:PF:=λds Q=>∃(c:Int)(cs:List Int),ds=[.int c,.lst (cs.map PV.int)]/\1<=cs.length/\cs.length<=6/\∀sh,Shp sh->Q (.lst (sh.map ltsP)) .new/\Q (.lst (sh.map ltsP)) .frz
theorem zlq:zaX zdO:=λds Q Q' m q184q=>by obtain⟨c,cs,e,h1,h2,q⟩:=q184q;exact⟨c,cs,e,h1,h2,λsh a=>⟨m _ _ (q sh a).1,m _ _ (q sh a).2⟩⟩
theorem zpK {L:List Str}{i:Int}(h0:0<=i)(h1:i<L.length):∃s,s∈L/\atI (L.map PV.str) i=some (.str s)/\L[i.toNat]? = some s:=by
 obtain⟨n,rfl⟩:∃n:Nat,i=n:=⟨i.toNat,by lia⟩;have hn:n<L.length:=by lia
 exact⟨L[n],Yo hn,zbd (by simp[hn]),by simp[hn]⟩
section
variable {P:Program}{w:World}{K:Xa}{mg:Str->Option Value}{base:Heap}
theorem ztr:zap ["_law_cells","_law_letters_here"] ["_law_cells","_law_letters_here"] (zac sAny):=⟨rfl,rfl,rfl,by decide +kernel,rfl,by decide +kernel,by decide +kernel⟩
theorem zts {f fM fP:Addr}{fd fdM fdP:FuncData}(F:Fun K "_law_any" "_law_any" sAny f fd) (Mixed:Fx K mg "_law_mixed" zcv ["_law_cell","_law_k"] fM fdM) (Picked:Fx K mg "_law_picked" zbU ["_law_cell","_law_some","_law_many"] fP fdP) (B:Bl mg):FnOk P w K mg base CX0 3 f fd ["_law_cells","_law_letters_here"] (spP K fAny):=by
 have GMixed:FnOk P w K mg base CX0 2 fM fdM ["_law_cell","_law_k"] (spP K zbY):=(zfs Mixed.fn B).mono (by decide);have GPicked:FnOk P w K mg base CX0 2 fP fdP ["_law_cell","_law_some","_law_many"] (spP K zbK):=zgb Picked.fn Mixed B;refine zaw F ztr (λds Q q185q=>by obtain⟨c,L,e,_⟩:=q185q;rw[e];rfl) (λcdv A outer s H E hr=>?_);have hu:(A.deeper (envOfC "_law_any" (zac sAny) s.heap.objs.size f cdv)).units+16<cLine:=by have q:=hr.units;lia
 have nd:=ztr.nd;refine⟨_,(zaf (zan (zbx (N:=["_law_cell","_law_letters_here"]) (k:=1) (js:=[1]) rfl (zdi (sup:=zac sAny) (XN:=["_law_cells","_law_letters_here"]) rfl rfl (by decide +kernel)) (by decide) (zaM (by decide)) (zaN (zaa 0)) ⟨λ_ _ _ _ _=>(zak (i:=0) (by show(["_law_cell","_law_letters_here"]:List Str).Nodup;decide +kernel) rfl (Or.inl rfl)),λ_ _ _ _ _=>zaO,λ_ _ _ _ _=>(zhd rfl B.tuple (zab (zaq GPicked zea hr rfl Picked.mg Picked.fn.kp Picked.bd (zab (zaa 0) (zab (zaa 1) (zab (zbO zag (zbq (zaq GMixed zcd hr rfl Mixed.mg Mixed.fn.kp Mixed.bd (zab (zaa 0) (zab zag zae))) zag)) zae)))) zae))⟩))),λds Q h=>?_⟩;obtain⟨cs,L,rfl,h6,hL,hLn,q⟩:=h;have hsz:=sizeLine_eq;walk_at "pu";refine⟨by rw[Xb];lia,λk out=>∃sh,out=sh.map ltsP/\Pats L k sh,⟨[],rfl,.nil L⟩,?_,?_⟩
 ·rintro k d out hd - ⟨sh,rfl,hP⟩;rw[Xi]at hd;cases hc:cs[k]? with
  | none=>rw[hc]at hd;cases hd
  | some c=>
   rw[hc]at hd;cases hd;have n1:=Ym (mixed c 2) (show(4:Int)≠0 by decide);have n2:=Yj (mixed c 2) (show(0:Int)<4 by decide);refine⟨c,rfl,by decide,by decide,by decide,⟨c,rfl⟩,by rw[Xb];lia,λtold left hp hl=>?_⟩;obtain⟨ts,rfl,hts⟩:=zny hp;rw[Xb,Xb]at hl;have hn2:(ts.map PV.str++left).Nodup:=hp.nodup_iff.mpr (zeM.mpr hLn);exact⟨sh++[ts],by rw[Xk];rfl,hP.snoc (by lia) (zeM.mp (List.nodup_append.mp hn2).1) hts⟩
 ·rintro out - ⟨sh,rfl,hP⟩;rw[Xb]at hP;exact q sh hP
theorem zpL:zap ["_law_cells","_law_letters_here","_law_many","_law_told","_law_k","_law_pattern"] ["_law_cells","_law_letters_here"] (zac zgl):=⟨rfl,rfl,rfl,by decide +kernel,rfl,by decide +kernel,by decide +kernel⟩
theorem zrt {f fM fP:Addr}{fd fdM fdP:FuncData}(F:Fun K "_law_ring" "_law_ring" zgl f fd) (Mixed:Fx K mg "_law_mixed" zcv ["_law_cell","_law_k"] fM fdM) (Picked:Fx K mg "_law_picked" zbU ["_law_cell","_law_some","_law_many"] fP fdP) (B:Bl mg):FnOk P w K mg base CX0 3 f fd ["_law_cells","_law_letters_here"] (spP K ziI):=by
 have GPicked:FnOk P w K mg base CX0 2 fP fdP ["_law_cell","_law_some","_law_many"] (spP K zbK):=zgb Picked.fn Mixed B;refine zaw F zpL (λds Q q186q=>by obtain⟨c,L,e,_⟩:=q186q;rw[e];rfl) (λcdv A outer s H E hr=>?_);have hu:(A.deeper (envOfC "_law_ring" (zac zgl) s.heap.objs.size f cdv)).units+16<cLine:=by have q:=hr.units;lia
 have nd:=zpL.nd;refine⟨_,(zad (zai (i:=2) nd rfl (Or.inl rfl) (zqU rfl rfl B.max (zab zag (zab (zaU rfl B.len (zab (zaa 0) zae)) zae))))
   (zad (zai (i:=3) nd rfl (Or.inl rfl) (zbF zae))
   (zad (zaQ rfl PassesOwn.never (zaP rfl B.range (zab (zaU rfl B.len (zab (zaa 0) zae)) zae)) (zak (i:=4) nd rfl (Or.inl rfl)) (zad (zai (i:=5) nd rfl (Or.inr rfl) (zbF (zab (zao (zaa 1) (zbq (zaa 4) zag)) (zab (zao (zaa 1) (zbq (zbq (zbO (zaa 4) zag) (zaa 2)) zag)) zae))))
   (zad (zbQ (zfh hu (zbq (zao (zaa 0) (zaa 4)) zag) zag) (zaf (zai (i:=5) nd rfl (Or.inr rfl) (zdp (zaa 5) (zaq GPicked zea hr rfl Picked.mg Picked.fn.kp Picked.bd (zab (zao (zaa 0) (zaa 4)) (zab (zbx (N:=["_law_letter","_law_pattern"]) (k:=1) (js:=[5]) rfl (zdi (sup:=zac zgl) (XN:=["_law_cells","_law_letters_here","_law_many","_law_told","_law_k","_law_pattern"]) rfl rfl (by decide +kernel)) (by decide) (zaM (by decide)) (zaN (zaa 1)) ⟨λ_ _ _ _ _=>(zak (i:=0) (by show(["_law_letter","_law_pattern"]:List Str).Nodup;decide +kernel) rfl (Or.inl rfl)),λ_ _ _ _ _=>(zos (zih hu (zaa 0) (zaa 1))),λ_ _ _ _ _=>(zaa 0)⟩) (zab zag zae))))))) zaH)
   (zaf (zbi (zbs 3 (zhd rfl B.tuple (zab (zaa 5) zae))))))))
   (zaf (zan (zaa 3)))))),λds Q h=>?_⟩
 obtain⟨cs,L,rfl,h6,hL,hLn,q⟩:=h;have hsz:=sizeLine_eq;walk_at "pu";walk_at "auto";rw[Xb,XU,zbe];obtain⟨many,hmany⟩:∃many:Int,many=(if (cs.length:Int) > 2 then(cs.length:Int) else 2):=⟨_,rfl⟩
 have hm2:2<=many/\many<=6/\(cs.length:Int)<=many:=by split at hmany<;>lia
 rw[<- hmany];clear hmany;obtain⟨Iv,hIv⟩:∃Iv:Nat->PEnv->Prop,∀i ρ,Iv i ρ↔∃(sh:List (List Str)) (k1 k2:Option (PV×Bool)),ρ=[some (PV.lst (cs.map PV.int),false),some (PV.lst (L.map PV.str),false),some (PV.int many,false),some (PV.lst (sh.map ltsP),true),k1,k2]/\Pats L i sh:=⟨_,λ_ _=>Iff.rfl⟩;refine⟨by lia,Iv,(hIv _ _).mpr ⟨[],_,_,rfl,.nil L⟩,?_,?_⟩
 ·intro i d ρ hd hI;obtain⟨sh,k1,k2,rfl,hP⟩:=(hIv _ _).mp hI;obtain⟨hi,rfl⟩:=zbL hd;rw[Int.zero_add];have hsl:=hP.1;have a1:=Ym (i:Int) (show(6:Int)≠0 by decide);have a2:=Yj (i:Int) (show(0:Int)<6 by decide);have a3:=Ym (((i:Int)+1) % many) (show(6:Int)≠0 by decide);have a4:=Yj (((i:Int)+1) % many) (show(0:Int)<6 by decide);obtain⟨s1,hs1,e1,g1⟩:=zpK (L:=L) a1 (by lia);obtain⟨s2,hs2,e2,g2⟩:=zpK (L:=L) a3 (by lia);have hne:s1≠s2:=λz=>by
   rw[z,<- g2]at g1;have hl1:((i:Int) % 6).toNat<L.length:=by lia
   have e:=(List.getElem?_inj hl1 hLn).mp g1;have ei:(i:Int) % 6=i:=Int.emod_eq_of_lt (by lia) (by lia);have b1:=Ym ((i:Int)+1) (show many≠0 by lia);have b2:=Yj ((i:Int)+1) (show 0<many by lia);have ej:((i:Int)+1) % many % 6=((i:Int)+1) % many:=Int.emod_eq_of_lt b1 (by lia);rw[ei,ej]at e;by_cases hw:(i:Int)+1<many
   ·rw[Int.emod_eq_of_lt (by lia) hw]at e;lia
   ·have:(i:Int)+1=many:=by lia
    rw[this,Int.emod_self]at e;lia
  walk_at "go";refine⟨by decide,_,e1,by lia,by decide,_,e2,by lia,?_⟩;have hi':i<cs.length:=by lia
  have fin:∀(ts:List Str),ts.length<=4->ts.Nodup->(∀x∈ts,x∈L)->Hold (zbR (mApp 3 (_P.tB zbS (zar (pVar 5) pNil)))) { nx:=Iv (i+1),rt:=Q,bk:=Hold (pRet (pVar 3)) { nx:=λx=>Q PV.non Kd.frz,rt:=Q,bk:=λx=>False,ct:=λx=>False },ct:=Iv (i+1) }
    [some (PV.lst (cs.map PV.int),false),some (PV.lst (L.map PV.str),false),some (PV.int many,false),some (PV.lst (sh.map ltsP),true),some (PV.int i,false),some (PV.lst (ts.map PV.str),true)]:=λts h4 hn hts=>by
   walk_at "go";exact⟨by rw[Xb];lia,(hIv _ _).mpr ⟨sh++[ts],_,_,by rw[Xk];rfl,hP.snoc h4 hn hts⟩⟩
  have hs12:∀x∈[s1,s2],x∈L:=λx hx=>by
   rcases Xu.mp hx with rfl | hx
   ·exact hs1
   ·rw[Xw.mp hx];exact hs2
  walk_at "go";refine⟨_,cget hi' rfl,_,rfl,by decide,ite2 (λe=>?_) (λe=>?_)⟩
  ·walk_at "go";refine⟨_,cget hi' rfl,by rw[Xb];lia,λk out=>∀d∈out,d∈L.map PV.str/\d≠PV.str s1/\d≠PV.str s2,λd hd=>(by cases hd),?_,λout ho hout=>⟨⟨_,rfl⟩,by rw[Xb]at ho;lia,λtold left hp hl=>?_⟩⟩
   ·intro k d out hd _ hP;have hdm:=Xr hd;obtain⟨x,_,rfl⟩:=XI.mp hdm;refine⟨rfl,rfl,ite2 (λhnot=>?_) (λ_=>hP)⟩;intro y hy;rcases XZ.mp hy with hy | hy
    ·exact hP y hy
    ·rw[Xw.mp hy];exact⟨hdm,λz=>hnot (by rw[z];exact Xp),λz=>hnot (by rw[z];exact Xn _ Xp)⟩
   ·obtain⟨ts,rfl,hts⟩:=zjq (L:=L) (told:=told) λd hd=>(hout d (hp.mem_iff.mp (Yq _ hd))).1;rw[Xb]at hl;have hl1:ts.length<=1:=by rw[hl];exact Nat.min_le_left ..
    refine⟨by rw[Xb];lia,?_⟩;have hno:∀x∈ts,x≠s1/\x≠s2:=λx hx=>by
     have:=hout (PV.str x) (hp.mem_iff.mp (Yq _ (XI.mpr ⟨x,hx,rfl⟩)));exact⟨λz=>this.2.1 (by rw[z]),λz=>this.2.2 (by rw[z])⟩
    have hnt:ts.Nodup:=by
     cases ts with
     | nil=>exact YL
     | cons x r=>cases r with
      | nil=>exact XT.mpr ⟨List.not_mem_nil,YL⟩
      | cons z r=>simp only[XG]at hl1;lia
    have hn3:(s1::s2::ts).Nodup:=by
     refine XT.mpr ⟨λz=>?_,XT.mpr ⟨λz=>(hno _ z).2 rfl,hnt⟩⟩;rcases Xu.mp z with z | z
     ·exact hne z
     ·exact(hno _ z).1 rfl
    exact fin (s1::s2::ts) (by rw[XG,XG];lia) hn3 λx hx=>by
     rcases Xu.mp hx with rfl | hx
     ·exact hs1
     rcases Xu.mp hx with rfl | hx
     ·exact hs2
     ·exact hts x hx
  ·exact fin [s1,s2] (show 2<=4 by decide) (XT.mpr ⟨λz=>hne (Xw.mp z),XT.mpr ⟨List.not_mem_nil,YL⟩⟩) hs12
 ·intro ρ hI;obtain⟨sh,k1,k2,rfl,hP⟩:=(hIv _ _).mp hI;walk_at "go";exact q sh hP
theorem znD:zap ["_law_head","_law_cells","_law_letters_here"] ["_law_head","_law_cells"] (zac zeJ):=⟨rfl,rfl,rfl,by decide +kernel,rfl,by decide +kernel,by decide +kernel⟩
theorem zoZ {f f1 f2 f3 f4 f5 f6:Addr}{fd fd1 fd2 fd3 fd4 fd5 fd6:FuncData}(F:Fun K "_law_shape" "_law_shape" zeJ f fd) (Mixed:Fx K mg "_law_mixed" zcv ["_law_cell","_law_k"] f1 fd1) (Picked:Fx K mg "_law_picked" zbU ["_law_cell","_law_some","_law_many"] f2 fd2) (Alphabet:Fx K mg "_law_alphabet" zbB ["_law_cell"] f3 fd3) (Any:Fx K mg "_law_any" sAny ["_law_cells","_law_letters_here"] f4 fd4) (Ring:Fx K mg "_law_ring" zgl ["_law_cells","_law_letters_here"] f5 fd5) (Tree:Fx K mg "_law_tree" zhq ["_law_cells","_law_letters_here"] f6 fd6) (B:Bl mg):FnOk P w K mg base CX0 4 f fd ["_law_head","_law_cells"] (spP K zdO):=by
 have GAlphabet:FnOk P w K mg base CX0 3 f3 fd3 ["_law_cell"] (spP K zaW):=(zjr Alphabet.fn Mixed B).mono (by decide);have GAny:FnOk P w K mg base CX0 3 f4 fd4 ["_law_cells","_law_letters_here"] (spP K fAny):=zts Any.fn Mixed Picked B;have GRing:FnOk P w K mg base CX0 3 f5 fd5 ["_law_cells","_law_letters_here"] (spP K ziI):=zrt Ring.fn Mixed Picked B;have GTree:FnOk P w K mg base CX0 3 f6 fd6 ["_law_cells","_law_letters_here"] (spP K zhy):=zrs Tree.fn Mixed Picked B;refine zaw F znD (λds Q q187q=>by obtain⟨c,L,e,_⟩:=q187q;rw[e];rfl) (λcdv A outer s H E hr=>?_);have hu:(A.deeper (envOfC "_law_shape" (zac zeJ) s.heap.objs.size f cdv)).units+16<cLine:=by have q:=hr.units;lia
 have nd:=znD.nd;refine⟨_,(zad (zai (i:=2) nd rfl (Or.inl rfl) (zaq GAlphabet zhv hr rfl Alphabet.mg Alphabet.fn.kp Alphabet.bd (zab (zaa 0) zae)))
   (zad (zbw 2 (zbQ (zfh hu (zbq (zem (zaa 0) zag) zag) zag) (zaf (zan (zaq GAny zoY hr rfl Any.mg Any.fn.kp Any.bd (zab (zaa 1) (zab (zaa 2) zae))))) zaH))
   (zad (zbQ (zfh hu (zbq (zem (zaa 0) zag) zag) zag) (zaf (zan (zaq GRing znC hr rfl Ring.mg Ring.fn.kp Ring.bd (zab (zaa 1) (zab (zaa 2) zae))))) zaH)
   (zaf (zan (zao (zaq GTree znA hr rfl Tree.mg Tree.fn.kp Tree.bd (zab (zaa 1) (zab (zaa 2) zae))) zag)))))),λds Q h=>?_⟩
 obtain⟨c,cs,rfl,h1,h6,q⟩:=h;have hsz:=sizeLine_eq;walk_at "pu";walk_at "auto";refine ite2 (λe=>?_) (λe=>?_)
 ·walk_at "go";exact⟨cs,rfl,ziG (zgI c),rfl,h6,zfa _,znx _ (zeL c),λsh hP=>(q sh (hP.shp h1 h6 (zfa _))).1⟩
 ·walk_at "go";walk_at "go";refine⟨⟨by decide,by decide⟩,by decide,ite2 (λe=>?_) (λe=>?_)⟩
  ·walk_at "go";exact⟨cs,rfl,ziG (zgI c),rfl,h6,zfa _,znx _ (zeL c),λsh hP=>(q sh (hP.shp h1 h6 (zfa _))).1⟩
  ·walk_at "go";walk_at "go";exact⟨cs,rfl,ziG (zgI c),rfl,h6,zfa _,znx _ (zeL c),λsh ps T=>⟨_,zbd (j:=0) rfl,(q sh (T.pats.shp h1 h6 (zfa _))).2⟩⟩
end
noncomputable def zdP:PF:=λds Q=>∃i:Int,ds=[.int i]/\Q (.bl true) .frz
theorem zfb:zaX zdP:=λds Q Q' m q188q=>by obtain⟨i,e,q⟩:=q188q;exact⟨i,e,m _ _ q⟩
noncomputable def zcw:PF:=λds Q=>∃sh:List (List Str),ds=[shpP sh]/\Shp sh/\∀zs:List Str,Names sh zs->Q (.lst (zs.map PV.str)) .new
theorem ziJ:zaX zcw:=λds Q Q' m q189q=>by obtain⟨sh,e,h1,q⟩:=q189q;exact⟨sh,e,h1,λzs g=>m _ _ (q zs g)⟩
noncomputable def zeN:PF:=λds Q=>∃b e:Nat,ds=[.int b,.int e]/\b<2 ^ 64/\e<2 ^ 62/\Q (.int ((b ^ e:Nat):Int)) .frz
theorem zfc:zaX zeN:=λds Q Q' m q190q=>by obtain⟨a,b,e,h1,h2,q⟩:=q190q;exact⟨a,b,e,h1,h2,m _ _ q⟩
noncomputable abbrev zbW:PF:=zeN
theorem zcn:zaX zbW:=zfc
noncomputable def ziK (s:Nat)(r:List Int):List (List Int):=(Xs s).map λ(c:Nat)=>r++[(c:Int)]
noncomputable def zdf (rs:List (List Int))(s:Nat):List (List Int):=rs.flatMap (ziK s)
noncomputable def zdg (ss:List Nat):List (List Int):=ss.foldl zdf [[]]
noncomputable def rowT (r:List Int):PV:=.tup (r.map PV.int)
noncomputable def tabT (ss:List Nat):PV:=.lst ((zdg ss).map rowT)
theorem zgc (ss:List Nat)(s:Nat):zdg (ss++[s])=zdf (zdg ss) s:=by unfold zdg;rw[List.foldl_append];rfl
theorem zhz (s:Nat):∀rs:List (List Int),(zdf rs s).length=rs.length*s
 | []=>by unfold zdf;simp
 | r::rs=>by
  have ih:=zhz s rs;unfold zdf at ih ⊢;rw[List.flatMap_cons,Xq,ih,XG,Nat.succ_mul];unfold ziK;rw[Xb,XA];lia
structure Few (ss:List Nat):Prop where
 n4:ss.length<=4
 le:∀i,(zdg (ss.take i)).length<=60
 lt:∀s∈ss,s<=60
theorem zpa {k s:Nat}{rs:List (List Int)}(h:∀r∈rs,r.length=k):∀r∈zdf rs s,r.length=k+1:=λr hr=>by
 obtain⟨q,hq,hr⟩:=List.mem_flatMap.mp hr;obtain⟨c,_,rfl⟩:=XI.mp hr;rw[Xq,h q hq];rfl
theorem zhA {ss:List Nat}{i:Nat}(h:i<=ss.length):∀r∈zdg (ss.take i),r.length=i:=by
 induction i with
 | zero=>intro r hr;rw[List.take_zero]at hr;rw[Xw.mp hr];rfl
 | succ i ih=>
  have e:ss.take (i+1)=ss.take i++[ss[i]]:=(take_snoc (Xf (by lia))).symm;rw[e,zgc];exact zpa (ih (by lia))
theorem zeO {rs:List (List Int)}{j s:Nat}{r:List Int}(h:rs[j]? = some r):zdf (rs.take (j+1)) s=zdf (rs.take j) s++ziK s r:=by
 rw[<- take_snoc h];unfold zdf;rw[List.flatMap_append,List.flatMap_singleton]
theorem ziL (r:List Int)(k:Nat):(ziK (k+1) r).map rowT=(ziK k r).map rowT++[PV.tup (r.map PV.int++[PV.int (k:Nat)])]:=by
 unfold ziK;rw[Yb,Xk,Xk];show _++[rowT (r++[(k:Int)])]=_;unfold rowT;rw[Xk];rfl
theorem znE {rs:List (List Int)}{j s:Nat}(h:(zdf rs s).length<=60):(zdf (rs.take j) s).length<=60:=by
 rw[zhz]at h ⊢;refine XO (Nat.mul_le_mul_right s ?_) h;rw[XR];lia
noncomputable def zcW:PF:=λds Q=>∃ss:List Nat,ds=[.lst (ss.map λ(s:Nat)=>PV.int s)]/\Few ss/\Q (tabT ss) .frz
theorem ziM:zaX zcW:=λds Q Q' m q191q=>by obtain⟨a,e,h1,q⟩:=q191q;exact⟨a,e,h1,m _ _ q⟩
noncomputable def sizP (L:List Str)(f:Str->Nat):PV:=.dK (L.map Sum.inr) (L.map λx=>PV.int ((f x:Nat):Int))
theorem zpM {L:List Str}{f:Str->Nat}{x:Str}(h:x∈L):dgP (L.map (Sum.inr:Str->Key)) (L.map λx=>PV.int ((f x:Nat):Int)) (.inr x)=some (PV.int ((f x:Nat):Int)):=by
 induction L with
 | nil=>cases h
 | cons k L ih=>
  by_cases hk:k=x
  ·subst hk;simp[dgP]
  ·have ih:=ih ((Xu.mp h).resolve_left λz=>hk z.symm);simp only[dgP,Xy,Yc,Ys]at ih ⊢;simpa[hk]using ih
noncomputable def zgo:PF:=λds Q=>∃(pt L:List Str)(f:Str->Nat),ds=[ltsP pt,sizP L f]/\(∀x∈pt,x∈L)/\Few (pt.map f)/\Q (tabT (pt.map f)) .frz
theorem znF:zaX zgo:=λds Q Q' m q192q=>by obtain⟨a,b,c,e,h1,h2,q⟩:=q192q;exact⟨a,b,c,e,h1,h2,m _ _ q⟩
section
variable {P:Program}{w:World}{K:Xa}{mg:Str->Option Value}{base:Heap}
theorem znG:zap ["_law_found"] ["_law_found"] (zac zdK):=⟨rfl,rfl,rfl,by decide +kernel,rfl,by decide +kernel,by decide +kernel⟩
theorem zkw {f:Addr}{fd:FuncData}(F:Fun K "_law_whole" "_law_whole" zdK f fd) (B:Bl mg):FnOk P w K mg base CX0 1 f fd ["_law_found"] (spP K zdP):=by
 refine zaw F znG (λds Q q193q=>by obtain⟨c,e,_⟩:=q193q;rw[e];rfl) (λcdv A outer s H E hr=>?_);have hu:(A.deeper (envOfC "_law_whole" (zac zdK) s.heap.objs.size f cdv)).units+16<cLine:=by have q:=hr.units;lia
 have nd:=znG.nd;refine⟨_,(zaf (zan (zsq (zgz (K:=K) rfl rfl B.isi (zab (zaa 0) (zab (zkZ rfl B.int bInt) zae))) (zsp (zso (zgz (K:=K) rfl rfl B.isi (zab (zaa 0) (zab (zkZ rfl B.bool zud) zae)))))))),λds Q h=>?_⟩;obtain⟨i,rfl,q⟩:=h;walk_at "pu";exact⟨true,zey,iteT ⟨false,zii,q⟩⟩
theorem ziN:zap ["_law_shape_here","_law_told","_law_pattern","_law_letter"] ["_law_shape_here"] (zac zcb):=⟨rfl,rfl,rfl,by decide +kernel,rfl,by decide +kernel,by decide +kernel⟩
theorem zlr {f:Addr}{fd:FuncData}(F:Fun K "_law_letters" "_law_letters" zcb f fd) (B:Bl mg):FnOk P w K mg base CX0 1 f fd ["_law_shape_here"] (spP K zcw):=by
 refine zaw F ziN (λds Q q194q=>by obtain⟨a,e,_⟩:=q194q;rw[e];rfl) (λcdv A outer s H E hr=>?_);have hu:(A.deeper (envOfC "_law_letters" (zac zcb) s.heap.objs.size f cdv)).units+16<cLine:=by have q:=hr.units;lia
 have nd:=ziN.nd;refine⟨_,(zad (zai (i:=1) nd rfl (Or.inl rfl) (zbF zae))
   (zad (zaQ rfl PassesOwn.never (zaN (zaa 0)) (zak (i:=2) nd rfl (Or.inl rfl)) (zaf (zaQ rfl PassesOwn.never (zhb (zaa 2)) (zak (i:=3) nd rfl (Or.inl rfl)) (zaf (zbQ (zih hu (zaa 3) (zaa 1)) (zaf (zbi (zbs 1 (zaa 3)))) zaH)))))
   (zaf (zan (zoy rfl B.sorted (zab (zaa 1) zae)))))),λds Q h=>?_⟩
 obtain⟨sh,rfl,S,q⟩:=h;have hsz:=sizeLine_eq;walk_at "pu";walk_at "auto";obtain⟨Iv,hIv⟩:∃Iv:Nat->PEnv->Prop,∀i ρ,Iv i ρ↔∃(zs:List Str) (v1 v2:Option (PV×Bool)),ρ=[some (PV.lst (sh.map ltsP),false),some (PV.lst (zs.map PV.str),true),v1,v2]/\zs.Nodup/\(∀l,l∈zs↔∃p∈sh.take i,l∈p):=⟨_,λ_ _=>Iff.rfl⟩;refine⟨Iv,(hIv _ _).mpr ⟨[],none,none,rfl,YL,λl=>by simp⟩,?_,?_⟩
 ·intro i d ρ hd hI;obtain⟨zs,v1,v2,rfl,hn,hm⟩:=(hIv _ _).mp hI;rw[Xi]at hd;cases hp:sh[i]? with
  | none=>rw[hp]at hd;cases hd
  | some p=>
   rw[hp]at hd;cases hd;have htk:∀l:Str,(∃q∈sh.take (i+1),l∈q)↔(∃q∈sh.take i,l∈q)\/l∈p:=λl=>by
    rw[<- take_snoc hp];constructor
    ·rintro⟨q,h1,h2⟩;rcases XZ.mp h1 with h1 | h1
     ·exact .inl ⟨q,h1,h2⟩
     ·rw[Xw.mp h1]at h2;exact .inr h2
    ·rintro(⟨q,h1,h2⟩ | h)
     ·exact⟨q,Yq _ h1,h2⟩
     ·exact⟨p,XM _ Xp,h⟩
   walk_at "go";obtain⟨Iw,hIw⟩:∃Iw:Nat->PEnv->Prop,∀j ρ,Iw j ρ↔∃(ys:List Str) (v3:Option (PV×Bool)),ρ=[some (PV.lst (sh.map ltsP),false),some (PV.lst (ys.map PV.str),true),some (PV.tup (p.map PV.str),false),v3]/\ys.Nodup/\(∀l,l∈ys↔(∃q∈sh.take i,l∈q)\/l∈p.take j):=⟨_,λ_ _=>Iff.rfl⟩;refine⟨Iw,(hIw _ _).mpr ⟨zs,v2,rfl,hn,λl=>by rw[hm l,List.take_zero];simp⟩,?_,?_⟩
   ·intro j d ρ hd hI;obtain⟨ys,v3,rfl,hn2,hm2⟩:=(hIw _ _).mp hI;rw[Xi]at hd;cases hx:p[j]? with
    | none=>rw[hx]at hd;cases hd
    | some x=>
     rw[hx]at hd;cases hd;have hyl:=S.six ys hn2 λl hl=>by
      rcases(hm2 l).mp hl with ⟨q,h1,h2⟩ | h
      ·exact⟨q,List.mem_of_mem_take h1,h2⟩
      ·exact⟨p,Xr hp,List.mem_of_mem_take h⟩
     walk_at "go";refine⟨zgG _ _,ite2 (λe=>?_) (λe=>?_)⟩
     ·walk_at "go";have hx2:x∉ys:=λz=>e (zfr.mpr z);refine⟨by rw[Xb];lia,(hIw _ _).mpr ⟨ys++[x],some (PV.str x,false),by rw[Xk];rfl,?_,λl=>?_⟩⟩
      ·rw[List.nodup_append];exact⟨hn2,XT.mpr ⟨List.not_mem_nil,YL⟩,λa ha b hb z=>hx2 (by rw[<- Xw.mp hb,<- z];exact ha)⟩
      ·rw[<- take_snoc hx,XZ,XZ,hm2 l,or_assoc]
     ·walk_at "go";have hx2:x∈ys:=zfr.mp (Decidable.not_not.mp e);refine(hIw _ _).mpr ⟨ys,some (PV.str x,false),rfl,hn2,λl=>?_⟩;rw[<- take_snoc hx,XZ,<- or_assoc,<- hm2 l,Xw];exact⟨.inl,λz=>z.elim id λy=>y▸hx2⟩
   ·intro ρ hI;obtain⟨ys,v3,rfl,hn2,hm2⟩:=(hIw _ _).mp hI;rw[Xb,XY]at hm2;exact(hIv _ _).mpr ⟨ys,_,v3,rfl,hn2,λl=>(hm2 l).trans (htk l).symm⟩
 ·intro ρ hI;obtain⟨zs,v1,v2,rfl,hn,hm⟩:=(hIv _ _).mp hI;rw[Xb,XY]at hm;have hzl:=S.six zs hn λl hl=>(hm l).mp hl;walk_at "go";exact⟨zs,rfl,by lia,λys hy hs=>q ys ⟨hy.nodup_iff.mpr hn,λl=>(hy.mem_iff).trans (hm l),hs⟩⟩
theorem znH:zap ["base","exponent","product","turn"] ["base","exponent"] (zac zdJ):=⟨rfl,rfl,rfl,by decide +kernel,rfl,by decide +kernel,by decide +kernel⟩
theorem zkx {f:Addr}{fd:FuncData}(F:Fun K "power" "power" zdJ f fd) (B:Bl mg):FnOk P w K mg base CX0 1 f fd ["base","exponent"] (spP K zeN):=by
 refine zaw F znH (λds Q q195q=>by obtain⟨a,b,e,_⟩:=q195q;rw[e];rfl) (λcdv A outer s H E hr=>?_);have hu:(A.deeper (envOfC "power" (zac zdJ) s.heap.objs.size f cdv)).units+16<cLine:=by have q:=hr.units;lia
 have nd:=znH.nd;refine⟨_,(zad (zai (i:=2) nd rfl (Or.inl rfl) zag)
   (zad (zaQ rfl PassesOwn.never (zaP rfl B.range (zab (zaa 1) zae)) (zak (i:=3) nd rfl (Or.inl rfl)) (zaf (zai (i:=2) nd rfl (Or.inl rfl) (zce (zaa 2) (zaa 0)))))
   (zaf (zan (zaa 2))))),λds Q h=>?_⟩
 obtain⟨b,e,rfl,hb,he,q⟩:=h;walk_at "pu";walk_at "go";rw[XU];obtain⟨Iv,hIv⟩:∃Iv:Nat->PEnv->Prop,∀i ρ,Iv i ρ↔∃k1:Option (PV×Bool),ρ=[some (PV.int b,false),some (PV.int e,false),some (PV.int ((b ^ i:Nat):Int),false),k1]:=⟨_,λ_ _=>Iff.rfl⟩;refine⟨by lia,by lia,Iv,(hIv _ _).mpr ⟨_,rfl⟩,?_,?_⟩
 ·intro i d ρ hd hI;obtain⟨k1,rfl⟩:=(hIv _ _).mp hI;walk_at "go";have e:((b ^ i:Nat):Int)*(b:Int)=((b ^ (i+1):Nat):Int):=by rw[Nat.pow_succ,Int.natCast_mul]
  rw[e];exact⟨.inr ⟨by lia,by lia⟩,(hIv _ _).mpr ⟨_,rfl⟩⟩
 ·intro ρ hI;obtain⟨k1,rfl⟩:=(hIv _ _).mp hI;rw[zbe];walk_at "go";exact q
theorem zky:zap ["_law_number","_law_times","_law_told","_law_k"] ["_law_number","_law_times"] (zac zcT):=⟨rfl,rfl,rfl,by decide +kernel,rfl,by decide +kernel,by decide +kernel⟩
theorem znI {f:Addr}{fd:FuncData}(F:Fun K "_law_power" "_law_power" zcT f fd) (B:Bl mg):FnOk P w K mg base CX0 1 f fd ["_law_number","_law_times"] (spP K zbW):=by
 refine zaw F zky (λds Q q196q=>by obtain⟨a,b,e,_⟩:=q196q;rw[e];rfl) (λcdv A outer s H E hr=>?_);have hu:(A.deeper (envOfC "_law_power" (zac zcT) s.heap.objs.size f cdv)).units+16<cLine:=by have q:=hr.units;lia
 have nd:=zky.nd;refine⟨_,(zad (zai (i:=2) nd rfl (Or.inl rfl) zag)
   (zad (zaQ rfl PassesOwn.never (zaP rfl B.range (zab (zaa 1) zae)) (zak (i:=3) nd rfl (Or.inl rfl)) (zaf (zai (i:=2) nd rfl (Or.inl rfl) (zce (zaa 2) (zaa 0)))))
   (zaf (zan (zaa 2))))),λds Q h=>?_⟩
 obtain⟨b,e,rfl,hb,he,q⟩:=h;walk_at "pu";walk_at "go";rw[XU];obtain⟨Iv,hIv⟩:∃Iv:Nat->PEnv->Prop,∀i ρ,Iv i ρ↔∃k1:Option (PV×Bool),ρ=[some (PV.int b,false),some (PV.int e,false),some (PV.int ((b ^ i:Nat):Int),false),k1]:=⟨_,λ_ _=>Iff.rfl⟩;refine⟨by lia,by lia,Iv,(hIv _ _).mpr ⟨_,rfl⟩,?_,?_⟩
 ·intro i d ρ hd hI;obtain⟨k1,rfl⟩:=(hIv _ _).mp hI;walk_at "go";have e:((b ^ i:Nat):Int)*(b:Int)=((b ^ (i+1):Nat):Int):=by rw[Nat.pow_succ,Int.natCast_mul]
  rw[e];exact⟨.inr ⟨by lia,by lia⟩,(hIv _ _).mpr ⟨_,rfl⟩⟩
 ·intro ρ hI;obtain⟨k1,rfl⟩:=(hIv _ _).mp hI;rw[zbe];walk_at "go";exact q
theorem ziO:zap ["sizes","rows","size","grown","row"] ["sizes"] (zac zbM):=⟨rfl,rfl,rfl,by decide +kernel,rfl,by decide +kernel,by decide +kernel⟩
theorem zls {f:Addr}{fd:FuncData}(F:Fun K "all_rows" "all_rows" zbM f fd) (B:Bl mg):FnOk P w K mg base CX0 1 f fd ["sizes"] (spP K zcW):=by
 refine zaw F ziO (λds Q q197q=>by obtain⟨a,e,_⟩:=q197q;rw[e];rfl) (λcdv A outer s H E hr=>?_);have hu:(A.deeper (envOfC "all_rows" (zac zbM) s.heap.objs.size f cdv)).units+16<cLine:=by have q:=hr.units;lia
 have nd:=ziO.nd;refine⟨_,(zad (zai (i:=1) nd rfl (Or.inl rfl) (zbF (zab (zdI zae) zae)))
   (zad (zbw 1 (zaQ rfl PassesOwn.never (zaN (zaa 0)) (zak (i:=2) nd rfl (Or.inl rfl)) (zad (zai (i:=3) nd rfl (Or.inl rfl) (zbF zae))
   (zad (zaQ rfl PassesOwn.never (zaN (zaa 1)) (zak (i:=4) nd rfl (Or.inr rfl)) (zaf (zbi (zoG 3 (zbx (N:=["cell","row"]) (k:=1) (js:=[4]) rfl (zdi (sup:=zac zbM) (XN:=["sizes","rows","size","grown","row"]) rfl rfl (by decide +kernel)) (by decide) (zaM (by decide)) (zaP rfl B.range (zab (zaa 2) zae)) ⟨λ_ _ _ _ _=>(zak (i:=0) (by show(["cell","row"]:List Str).Nodup;decide +kernel) rfl (Or.inl rfl)),λ_ _ _ _ _=>zaO,λ_ _ _ _ _=>(zmW (zaa 1) (zdI (zab (zaa 0) zae)))⟩)))))
   (zaf (zbw 3 (zai (i:=1) nd rfl (Or.inl rfl) (zaa 3))))))))
   (zaf (zan (zaa 1))))),λds Q h=>?_⟩
 obtain⟨ss,rfl,W,q⟩:=h;have hsz:=sizeLine_eq;walk_at "pu";walk_at "auto";obtain⟨Iv,hIv⟩:∃Iv:Nat->PEnv->Prop,∀i ρ,Iv i ρ↔∃k2 k3 k4:Option (PV×Bool),ρ=[some (PV.lst (ss.map λ(s:Nat)=>PV.int s),false),some (PV.lst ((zdg (ss.take i)).map rowT),false),k2,k3,k4]:=⟨_,λ_ _=>Iff.rfl⟩;refine⟨Iv,(hIv _ _).mpr ⟨_,_,_,rfl⟩,?_,?_⟩
 ·intro i d ρ hd hI;obtain⟨k2,k3,k4,rfl⟩:=(hIv _ _).mp hI;rw[Xi]at hd;cases hs:ss[i]? with
  | none=>rw[hs]at hd;cases hd
  | some s=>
   rw[hs]at hd;cases hd;have hi:=(Xd.mp hs).1;have hs60:=W.lt s (Xr hs);have hnx:zdg (ss.take (i+1))=zdf (zdg (ss.take i)) s:=by rw[<- take_snoc hs,zgc]
   have hl60:=W.le (i+1);have hw:=zhA (ss:=ss) (i:=i) (by lia);have h4:=W.n4;rw[hnx]at hl60;generalize zdg (ss.take i)=rs at *;walk_at "go";refine⟨by lia,?_⟩;walk_at "go";obtain⟨Iw,hIw⟩:∃Iw:Nat->PEnv->Prop,∀j ρ,Iw j ρ↔∃k4:Option (PV×Bool),ρ=[some (PV.lst (ss.map λ(s:Nat)=>PV.int s),false),some (PV.lst (rs.map rowT),false),some (PV.int s,false),some (PV.lst ((zdf (rs.take j) s).map rowT),true),k4]:=⟨_,λ_ _=>Iff.rfl⟩;refine⟨Iw,(hIw _ _).mpr ⟨_,by rw[List.take_zero];rfl⟩,?_,?_⟩
   ·intro j d ρ hd hI;obtain⟨k4,rfl⟩:=(hIw _ _).mp hI;rw[Xi]at hd;cases hr:rs[j]? with
    | none=>rw[hr]at hd;cases hd
    | some r=>
     rw[hr]at hd;cases hd;have hrl:=hw r (Xr hr);have hl1:=znE (j:=j+1) hl60;rw[zeO hr,Xq]at hl1;walk_at "go";rw[XU,zbe];refine⟨by lia,by lia,by lia,λk out=>out=(ziK k r).map rowT,rfl,?_,?_⟩
     ·rintro k d out hd-rfl;obtain⟨hk,rfl⟩:=zbL hd;rw[Int.zero_add];refine⟨by lia,_,rfl,by rw[Xb];lia,?_⟩;show _=_;rw[ziL]
     ·rintro out-rfl;rw[<- Xk,<- zeO hr];exact⟨by rw[Xb,Xb];lia,(hIw _ _).mpr ⟨_,rfl⟩⟩
   ·intro ρ hI;obtain⟨k4,rfl⟩:=(hIw _ _).mp hI;rw[Xb,XY];walk_at "go";exact(hIv _ _).mpr ⟨_,_,_,by rw[hnx]⟩
 ·intro ρ hI;obtain⟨k2,k3,k4,rfl⟩:=(hIv _ _).mp hI;rw[Xb,XY];walk_at "go";exact q
theorem zpN:zap ["_law_pattern","_law_sizes","_law_told","_law_letter","_law_more","_law_row"] ["_law_pattern","_law_sizes"] (zac zgm):=⟨rfl,rfl,rfl,by decide +kernel,rfl,by decide +kernel,by decide +kernel⟩
theorem zru {f:Addr}{fd:FuncData}(F:Fun K "_law_grid" "_law_grid" zgm f fd) (B:Bl mg):FnOk P w K mg base CX0 1 f fd ["_law_pattern","_law_sizes"] (spP K zgo):=by
 refine zaw F zpN (λds Q q198q=>by obtain⟨a,b,c,e,_⟩:=q198q;rw[e];rfl) (λcdv A outer s H E hr=>?_);have hu:(A.deeper (envOfC "_law_grid" (zac zgm) s.heap.objs.size f cdv)).units+16<cLine:=by have q:=hr.units;lia
 have nd:=zpN.nd;refine⟨_,(zad (zai (i:=2) nd rfl (Or.inl rfl) (zbF (zab (zdI zae) zae)))
   (zad (zbw 2 (zaQ rfl PassesOwn.never (zhb (zaa 0)) (zak (i:=3) nd rfl (Or.inl rfl)) (zad (zai (i:=4) nd rfl (Or.inl rfl) (zbF zae))
   (zad (zaQ rfl PassesOwn.never (zaN (zaa 2)) (zak (i:=5) nd rfl (Or.inr rfl)) (zaf (zai (i:=4) nd rfl (Or.inl rfl) (zdp (zaa 4) (zbx (N:=["_law_cell","_law_row"]) (k:=1) (js:=[5]) rfl (zdi (sup:=zac zgm) (XN:=["_law_pattern","_law_sizes","_law_told","_law_letter","_law_more","_law_row"]) rfl rfl (by decide +kernel)) (by decide) (zaM (by decide)) (zaP rfl B.range (zab (zmJ (hu1 hu) (zaa 1) (zaa 3)) zae)) ⟨λ_ _ _ _ _=>(zak (i:=0) (by show(["_law_cell","_law_row"]:List Str).Nodup;decide +kernel) rfl (Or.inl rfl)),λ_ _ _ _ _=>zaO,λ_ _ _ _ _=>(zmW (zaa 1) (zdI (zab (zaa 0) zae)))⟩)))))
   (zaf (zbw 4 (zai (i:=2) nd rfl (Or.inl rfl) (zaa 4))))))))
   (zaf (zan (zaa 2))))),λds Q h=>?_⟩
 obtain⟨pt,L,f,rfl,hL,W,q⟩:=h;have hsz:=sizeLine_eq;walk_at "pu";walk_at "auto";obtain⟨Iv,hIv⟩:∃Iv:Nat->PEnv->Prop,∀i ρ,Iv i ρ↔∃k3 k4 k5:Option (PV×Bool),ρ=[some (PV.tup (pt.map PV.str),false),some (sizP L f,false),some (PV.lst ((zdg ((pt.map f).take i)).map rowT),false),k3,k4,k5]:=⟨_,λ_ _=>Iff.rfl⟩;refine⟨Iv,(hIv _ _).mpr ⟨_,_,_,rfl⟩,?_,?_⟩
 ·intro i d ρ hd hI;obtain⟨k3,k4,k5,rfl⟩:=(hIv _ _).mp hI;rw[Xi]at hd;cases hx:pt[i]? with
  | none=>rw[hx]at hd;cases hd
  | some x=>
   rw[hx]at hd;cases hd;have hs:(pt.map f)[i]? = some (f x):=by rw[Xi,hx];rfl
   have hi:=(Xd.mp hs).1;have hs60:=W.lt (f x) (Xr hs);have hnx:zdg ((pt.map f).take (i+1))=zdf (zdg ((pt.map f).take i)) (f x):=by rw[<- take_snoc hs,zgc]
   have hl60:=W.le (i+1);have hw:=zhA (ss:=pt.map f) (i:=i) (by lia);have h4:=W.n4;rw[hnx]at hl60;have hdg:=zpM (f:=f) (hL x (Xr hx));generalize zdg ((pt.map f).take i)=rs at *;walk_at "go";refine⟨by lia,?_⟩;walk_at "go";obtain⟨Iw,hIw⟩:∃Iw:Nat->PEnv->Prop,∀j ρ,Iw j ρ↔∃k5:Option (PV×Bool),ρ=[some (PV.tup (pt.map PV.str),false),some (sizP L f,false),some (PV.lst (rs.map rowT),false),some (PV.str x,false),some (PV.lst ((zdf (rs.take j) (f x)).map rowT),true),k5]:=⟨_,λ_ _=>Iff.rfl⟩;refine⟨Iw,(hIw _ _).mpr ⟨_,by rw[List.take_zero];rfl⟩,?_,?_⟩
   ·intro j d ρ hd hI;obtain⟨k5,rfl⟩:=(hIw _ _).mp hI;rw[Xi]at hd;cases hr:rs[j]? with
    | none=>rw[hr]at hd;cases hd
    | some r=>
     rw[hr]at hd;cases hd;have hrl:=hw r (Xr hr);have hl1:=znE (j:=j+1) hl60;rw[zeO hr,Xq]at hl1;walk_at "go";refine⟨_,_,rfl,.inr x,rfl,_,hdg,_,rfl,?_⟩;rw[XU,zbe];refine⟨by lia,by lia,by lia,λk out=>out=(ziK k r).map rowT,rfl,?_,?_⟩
     ·rintro k d out hd-rfl;obtain⟨hk,rfl⟩:=zbL hd;rw[Int.zero_add];refine⟨by lia,_,rfl,by rw[Xb];lia,?_⟩;show _=_;rw[ziL]
     ·rintro out-rfl;rw[<- Xk,<- zeO hr];exact⟨by rw[Xb,Xb];lia,(hIw _ _).mpr ⟨_,rfl⟩⟩
   ·intro ρ hI;obtain⟨k5,rfl⟩:=(hIw _ _).mp hI;rw[Xb,XY];walk_at "go";exact(hIv _ _).mpr ⟨_,_,_,by rw[hnx]⟩
 ·intro ρ hI;obtain⟨k3,k4,k5,rfl⟩:=(hIv _ _).mp hI;rw[Xb,XJ (by rw[Xb];exact Xg _)];walk_at "go";exact q
end
open _M (Pb Gd tb bt sm)
noncomputable def wI (p:Pb)(h:List Nat)(k:Nat):Int:=tb p h p.m (p.n+k) / (gP p h:Int)
noncomputable def yI (p:Pb)(h:List Nat)(c:Nat):Int:=_M.pr p h c / (gP p h:Int)
theorem zgL (p:Pb)(h:List Nat):wsI p h=(Xs p.m).map (wI p h):=by unfold wsI zcE;rw[List.map_map];rfl
theorem zgM (p:Pb)(h:List Nat):ysI p h=(Xs p.n).map (yI p h):=by unfold ysI zdw;rw[List.map_map];rfl
theorem zpb {g x:Int}{n:Nat}(hg:g=n)(hx:0<=x)(hd:n ∣ x.toNat):x=g*(x / g):=by
 obtain⟨k,hk⟩:=hd;have e:x=(n:Int)*(k:Int):=by rw[<- Int.natCast_mul,<- hk];lia
 rw[hg,Int.mul_ediv_cancel' ⟨(k:Int),e⟩]
structure zgd (p:Pb)(h:List Nat):Prop where
 g0:0<(gP p h:Int)
 d:bt p h=(gP p h:Int)*dI p h
 w:∀k,k<p.m->tb p h p.m (p.n+k)=(gP p h:Int)*wI p h k
 y:∀c,c<p.n->_M.pr p h c=(gP p h:Int)*yI p h c
 d1:1<=dI p h
 w0:∀x∈wsI p h,0<=x
 y0:∀x∈ysI p h,0<=x
 d5:dI p h<=5040
theorem scaled {p:Pb}{h:List Nat}(D:Done p h)(S:Sm p):zgd p h:=by
 have G:=D.gd;have lo:=zpF G S D.nn;have g0:0<(gP p h:Int):=by have:=zpG G;lia
 have mem:∀x∈allI p h,x=(gP p h:Int)*(x / (gP p h:Int)):=λx hx=>zpb rfl (lo x hx).1 (zhu hx);have hb:=mem (bt p h) Xp;have low:∀x∈allI p h,0<=x / (gP p h:Int)/\x / (gP p h:Int)<=5040:=λx hx=>⟨Int.ediv_nonneg (lo x hx).1 (YH g0),Int.le_trans (Int.ediv_le_self _ (lo x hx).1) (lo x hx).2⟩;refine⟨g0,hb,λk hk=>mem _ (Xn _ (Yq _ (XI.mpr ⟨k,Yk.mpr hk,rfl⟩))),λc hc=>mem _ (Xn _ (XM _ (XI.mpr ⟨c,Yk.mpr hc,rfl⟩))),?_,λx hx=>?_,λx hx=>?_,(low _ Xp).2⟩
 ·have bp:=G.pos;have hb':bt p h=(gP p h:Int)*dI p h:=hb;have z:0<dI p h*(gP p h:Int):=by rw[XX,<- hb'];exact bp
  exact Int.pos_of_mul_pos_left z g0
 ·obtain⟨y,hy,rfl⟩:=XI.mp hx;exact(low y (Xn _ (Yq _ hy))).1
 ·obtain⟨y,hy,rfl⟩:=XI.mp hx;exact(low y (Xn _ (XM _ hy))).1
theorem zgN (f:Nat->Int):∀n,((Xs n).map f).sum=sm n f
 | 0=>rfl
 | n+1=>by rw[Yb,Xk,List.sum_append,zgN f n];simp[_M.sm]
theorem zgd.sums {p:Pb}{h:List Nat}(X:zgd p h)(G:Gd p h):(wsI p h).sum=(ysI p h).sum:=by
 rw[zgL,zgM,zgN,zgN];have e:=_M.both G;rw[_M.zau λk hk=>X.w k hk,_M.zau λc hc=>X.y c hc,<- _M.zdr,<- _M.zdr]at e;exact Int.eq_of_mul_eq_mul_left (Int.ne_of_gt X.g0) e
theorem zgd.cover {p:Pb}{h:List Nat}{c:Nat}(X:zgd p h)(nn:∀c,c<p.n+p.m->0<=tb p h p.m c)(hc:c<p.n):dI p h<=sm p.m λk=>p.col c k*wI p h k:=by
 have e:=_M.cover hc (nn c (by lia));rw[_M.zau (g:=λk=>(gP p h:Int)*(p.col c k*wI p h k)) λk hk=>by rw[X.w k hk,Int.mul_left_comm],<- _M.zdr,X.d]at e;exact Int.le_of_mul_le_mul_left e X.g0
theorem zgd.cost {p:Pb}{h:List Nat}{k:Nat}(X:zgd p h)(G:Gd p h)(hk:k<p.m):(sm p.n λc=>p.col c k*yI p h c)<=dI p h:=by
 have e:=_M.cost G hk;rw[_M.zau (g:=λc=>(gP p h:Int)*(p.col c k*yI p h c)) λc hc=>by rw[X.y c hc,Int.mul_left_comm],<- _M.zdr,X.d]at e;exact Int.le_of_mul_le_mul_left e X.g0
noncomputable def dN (p:Pb)(h:List Nat):Nat:=(dI p h).toNat
noncomputable def wN (p:Pb)(h:List Nat)(k:Nat):Nat:=(wI p h k).toNat
noncomputable def yN (p:Pb)(h:List Nat)(c:Nat):Nat:=(yI p h c).toNat
noncomputable def sN:Nat->(Nat->Nat)->Nat
 | 0,_=>0
 | n+1,f=>sN n f+f n
theorem zfd {f:Nat->Nat}{g:Nat->Int}:∀ {n:Nat},(∀k,k<n->((f k:Nat):Int)=g k)->((sN n f:Nat):Int)=sm n g
 | 0,_=>rfl
 | n+1,h=>by
  show((sN n f+f n:Nat):Int)=sm n g+g n;rw[Int.natCast_add,zfd λk hk=>h k (XS hk),h n (XQ n)]
structure Tells (p:Pb)(h:List Nat):Prop where
 d:((dN p h:Nat):Int)=dI p h
 w:∀k,k<p.m->((wN p h k:Nat):Int)=wI p h k
 y:∀c,c<p.n->((yN p h c:Nat):Int)=yI p h c
 one:1<=dN p h
 top:dN p h<=5040
 both:(sm p.m λk=>wI p h k)=sm p.n λc=>yI p h c
 cost:∀k,k<p.m->(sm p.n λc=>p.col c k*yI p h c)<=dI p h
 all:(sm p.m λk=>wI p h k*sm p.n λc=>p.col c k*yI p h c)=dI p h*sm p.m λk=>wI p h k
 few:(sm p.m λk=>wI p h k)<=6*dI p h
theorem zkz (c:Int):∀n,(sm n λ_=>c)=n*c
 | 0=>by simp[_M.sm]
 | n+1=>by
  show(sm n λ_=>c)+c=_;rw[zkz c n,Int.natCast_add,Int.add_mul];lia
theorem tells {p:Pb}{h:List Nat}(D:Done p h)(S:Sm p):Tells p h:=by
 have X:=scaled D S;have G:=D.gd;have d1:=X.d1;have w0:∀k,k<p.m->0<=wI p h k:=λk hk=>X.w0 _ (by rw[zgL];exact XI.mpr ⟨k,Yk.mpr hk,rfl⟩);have y0:∀c,c<p.n->0<=yI p h c:=λc hc=>X.y0 _ (by rw[zgM];exact XI.mpr ⟨c,Yk.mpr hc,rfl⟩);have sw:(sm p.m λk=>wI p h k*sm p.n λc=>p.col c k*yI p h c)=sm p.n λc=>yI p h c*sm p.m λk=>p.col c k*wI p h k:=by
  rw[_M.zau λk _=>_M.zdr (wI p h k),_M.zhp];exact _M.zau λc _=>by
   rw[_M.zdr];exact _M.zau λk _=>by rw[XX (wI p h k),XX (yI p h c),Int.mul_assoc,Int.mul_assoc,XX (yI p h c)]
 have both:(sm p.m λk=>wI p h k)=sm p.n λc=>yI p h c:=by
  have:=X.sums G;rw[zgL,zgM,zgN,zgN]at this;exact this
 refine⟨Int.toNat_of_nonneg (by lia),λk hk=>Int.toNat_of_nonneg (w0 k hk),λc hc=>Int.toNat_of_nonneg (y0 c hc),by unfold dN;lia,by have:=X.d5;unfold dN;lia,both,λk hk=>X.cost G hk,?_,?_⟩
 ·refine Int.le_antisymm ?_ ?_
  ·rw[_M.zdr];exact _M.zlm λk hk=>by rw[XX (dI p h)];exact Int.mul_le_mul_of_nonneg_left (X.cost G hk) (w0 k hk)
  ·rw[sw,both,_M.zdr];exact _M.zlm λc hc=>by rw[XX (dI p h)];exact Int.mul_le_mul_of_nonneg_left (X.cover D.nn hc) (y0 c hc)
 ·have h1:(sm p.n λc=>yI p h c)<=sm p.n λc=>sm p.m λk=>p.col c k*yI p h c:=_M.zlm λc hc=>by
   obtain⟨k,hk,e⟩:=p.has c hc;have:=_M.zlm (n:=p.m) (f:=λj=>if j=k then yI p h c else 0) (g:=λk=>p.col c k*yI p h c) λj hj=>by
    by_cases z:j=k
    ·subst z;rw[if_pos rfl,e,Int.one_mul];exact Int.le_refl _
    ·rw[if_neg z];exact Int.mul_nonneg (_M.Pb.nn (by lia) hj) (y0 c hc)
   rw[_M.zcZ hk λj _ z=>if_neg z,if_pos rfl]at this;exact this
  have h2:(sm p.m λk=>sm p.n λc=>p.col c k*yI p h c)<=sm p.m λ_=>dI p h:=_M.zlm λk hk=>X.cost G hk;rw[zkz]at h2;rw[_M.zhp]at h1;have m6:=S.m6;have h3:(p.m:Int)*dI p h<=6*dI p h:=Yt (by lia) (by lia);rw[both];lia
noncomputable def eN (p:Pb)(h:List Nat)(L:List Str)(x:Str):Nat:=yN p h (L.idxOf x)
noncomputable def szN (p:Pb)(h:List Nat)(L:List Str)(m:Nat)(x:Str):Nat:=m ^ eN p h L x
noncomputable def cN (p:Pb)(h:List Nat)(L:List Str)(pt:List Str):Nat:=(pt.map (eN p h L)).sum
theorem zpc {l m:List Nat}(h:l.Perm m):l.sum=m.sum:=by
 induction h with
 | nil=>rfl
 | cons x _ ih=>rw[List.sum_cons,List.sum_cons,ih]
 | swap x y l=>simp only[List.sum_cons];lia
 | trans _ _ ih1 ih2=>rw[ih1,ih2]
theorem zrv {L:List Str}{c:Nat}{x:Str}(nd:L.Nodup)(h:L[c]? = some x):L.idxOf x=c:=by
 obtain⟨hc,e⟩:=Xd.mp h;rw[<- e];exact nd.idxOf_getElem c hc
theorem zkA {sh:List (List Str)}{L:List Str}{hN:Names sh L}{h:List Nat}{k:Nat}{pt:List Str}(T:Tells (pbOf hN) h)(hk:sh[k]? = some pt):∀i,i<=L.length->((((L.take i).filter λx=>decide (x∈pt)).map (eN (pbOf hN) h L)).sum:Int)=sm i λc=>(pbOf hN).col c k*yI (pbOf hN) h c
 | 0,_=>rfl
 | i+1,hi=>by
  have hil:i<L.length:=by lia
  have hx:L[i]? = some L[i]:=Xf hil;have hkl:=(Xd.mp hk).1;have hcol:(pbOf hN).col i k=if L[i]∈pt then 1 else 0:=by
   show zaY sh L i k=_;unfold zaY;have g1:L.getD i Str.empty=L[i]:=by rw[XE,hx];rfl
   have g2:sh.getD k []=pt:=by rw[XE,hk];rfl
   rw[if_pos hil,if_pos hkl,g1,g2]
  have he:((eN (pbOf hN) h L L[i]:Nat):Int)=yI (pbOf hN) h i:=by
   unfold eN;rw[zrv hN.nd hx];exact T.y i hil
  show _=sm i _+(pbOf hN).col i k*yI (pbOf hN) h i;rw[<- zkA T hk i (by lia),<- take_snoc hx,List.filter_append,Xk,List.sum_append,hcol];by_cases z:L[i]∈pt
  ·rw[List.filter_cons_of_pos (p:=λx=>decide (x∈pt)) (decide_eq_true z),if_pos z,Int.one_mul,<- he];simp
  ·rw[List.filter_cons_of_neg (p:=λx=>decide (x∈pt)) (by simpa using z),if_neg z,Int.zero_mul];simp
theorem znJ {sh:List (List Str)}{L:List Str}{hN:Names sh L}{h:List Nat}{k:Nat}{pt:List Str}(T:Tells (pbOf hN) h)(hk:sh[k]? = some pt)(nd:pt.Nodup):((cN (pbOf hN) h L pt:Nat):Int)=sm L.length λc=>(pbOf hN).col c k*yI (pbOf hN) h c:=by
 have hp:pt.Perm (L.filter λx=>decide (x∈pt)):=(List.perm_ext_iff_of_nodup nd (hN.nd.filter _)).mpr λx=>by
  rw[List.mem_filter,decide_eq_true_eq];exact⟨λhx=>⟨(hN.mem x).mpr ⟨pt,Xr hk,hx⟩,hx⟩,λhx=>hx.2⟩
 have:=zkA T hk L.length (Xg _);rw[XY]at this;rw[<- this];unfold cN;rw[zpc (hp.map (eN (pbOf hN) h L))]
structure Fill {sh:List (List Str)}{L:List Str}(hN:Names sh L)(h:List Nat)(m:Nat):Prop where
 shp:Shp sh
 done:Done (pbOf hN) h
 m1:1<=m
 m4:m<=4
 pow:m ^ dN (pbOf hN) h<=60
theorem Fill.cost {sh:List (List Str)}{L:List Str}{hN:Names sh L}{h:List Nat}{m k:Nat}{pt:List Str}(X:Fill hN h m)(hk:sh[k]? = some pt):cN (pbOf hN) h L pt<=dN (pbOf hN) h:=by
 have T:=tells X.done (zdH X.shp hN);have e:=znJ T hk (X.shp.nd pt (Xr hk));have c:(sm L.length λc=>(pbOf hN).col c k*yI (pbOf hN) h c)<=dI (pbOf hN) h:=T.cost k (Xd.mp hk).1;rw[<- e,<- T.d]at c;lia
noncomputable def znK:List Nat->Nat
 | []=>1
 | s::l=>s*znK l
theorem zkB:∀(ss:List Nat)(rs:List (List Int)),(ss.foldl zdf rs).length=rs.length*znK ss
 | [],rs=>by show rs.length=rs.length*1;rw[Nat.mul_one]
 | s::ss,rs=>by
  show(ss.foldl zdf (zdf rs s)).length=rs.length*(s*znK ss);rw[zkB ss,zhz,Nat.mul_assoc]
theorem zkC (m:Nat)(e:Str->Nat):∀l:List Str,znK (l.map λx=>m ^ e x)=m ^ (l.map e).sum
 | []=>rfl
 | x::l=>by
  show m ^ e x*znK (l.map λx=>m ^ e x)=_;rw[zkC m e l,Xy,List.sum_cons,Nat.pow_add]
theorem zjt (p:Pb)(h:List Nat)(L:List Str)(m:Nat)(pt:List Str):(zdg (pt.map (szN p h L m))).length=m ^ cN p h L pt:=by
 unfold zdg;rw[zkB];show 1*_=_;rw[Nat.one_mul];exact zkC m (eN p h L) pt
theorem zpd (e:Str->Nat)(l:List Str)(i:Nat):((l.take i).map e).sum<=(l.map e).sum:=by
 conv=>rhs;rw[<- YN i l,Xk,List.sum_append]
 lia
theorem zhB (e:Str->Nat){x:Str}:∀ {l:List Str},x∈l->e x<=(l.map e).sum
 | y::l,h=>by
  rw[Xy,List.sum_cons];rcases Xu.mp h with rfl | h
  ·lia
  ·have:=zhB e h;lia
theorem Fill.few {sh:List (List Str)}{L:List Str}{hN:Names sh L}{h:List Nat}{m k:Nat}{pt:List Str}(X:Fill hN h m)(hk:sh[k]? = some pt):Few (pt.map (szN (pbOf hN) h L m)):=by
 have hc:=X.cost hk;have top:∀e,e<=cN (pbOf hN) h L pt->m ^ e<=60:=λe he=>XO (Yz X.m1 (XO he hc)) X.pow;refine⟨by rw[Xb];exact X.shp.wid pt (Xr hk),λi=>?_,λs hs=>?_⟩
 ·rw[<- List.map_take,zjt];exact top _ (zpd _ pt i)
 ·obtain⟨x,hx,rfl⟩:=XI.mp hs;exact top _ (zhB (eN (pbOf hN) h L) hx)
noncomputable def wS (p:Pb)(h:List Nat):Nat:=sN p.m (wN p h)
theorem Fill.all {sh:List (List Str)}{L:List Str}{hN:Names sh L}{h:List Nat}{m:Nat}(X:Fill hN h m):sN sh.length (λk=>cN (pbOf hN) h L (sh.getD k [])*wN (pbOf hN) h k)=dN (pbOf hN) h*wS (pbOf hN) h:=by
 have T:=tells X.done (zdH X.shp hN);have e1:((sN sh.length (λk=>cN (pbOf hN) h L (sh.getD k [])*wN (pbOf hN) h k):Nat):Int)=sm sh.length λk=>wI (pbOf hN) h k*sm L.length λc=>(pbOf hN).col c k*yI (pbOf hN) h c:=zfd λk hk=>by
  have hs:sh[k]? = some (sh.getD k []):=by rw[XE,Xf hk];rfl
  rw[Int.natCast_mul,znJ T hs (X.shp.nd _ (Xr hs)),T.w k hk,XX]
 have e2:((wS (pbOf hN) h:Nat):Int)=sm sh.length λk=>wI (pbOf hN) h k:=zfd λk hk=>T.w k hk;have a:(sm sh.length λk=>wI (pbOf hN) h k*sm L.length λc=>(pbOf hN).col c k*yI (pbOf hN) h c)=dI (pbOf hN) h*sm sh.length λk=>wI (pbOf hN) h k:=T.all;rw[<- e1,<- e2,<- T.d,<- Int.natCast_mul]at a;exact Int.ofNat.inj a
theorem ztt {sh:List (List Str)}{L:List Str}{hN:Names sh L}{h:List Nat}(T:Tells (pbOf hN) h):∀i,i<=L.length->((((L.take i).map (eN (pbOf hN) h L)).sum:Nat):Int)=sm i λc=>yI (pbOf hN) h c
 | 0,_=>rfl
 | i+1,hi=>by
  have hil:i<L.length:=by lia
  have hx:L[i]? = some L[i]:=Xf hil;have he:((eN (pbOf hN) h L L[i]:Nat):Int)=yI (pbOf hN) h i:=by
   unfold eN;rw[zrv hN.nd hx];exact T.y i hil
  show _=sm i _+yI (pbOf hN) h i;rw[<- ztt T i (by lia),<- take_snoc hx,Xk,List.sum_append,<- he];simp
theorem Fill.sum {sh:List (List Str)}{L:List Str}{hN:Names sh L}{h:List Nat}{m:Nat}(X:Fill hN h m):(L.map (eN (pbOf hN) h L)).sum=wS (pbOf hN) h:=by
 have T:=tells X.done (zdH X.shp hN);have e1:=ztt T L.length (Xg _);rw[XY]at e1;have e2:((wS (pbOf hN) h:Nat):Int)=sm sh.length λk=>wI (pbOf hN) h k:=zfd λk hk=>T.w k hk;have b:(sm sh.length λk=>wI (pbOf hN) h k)=sm L.length λc=>yI (pbOf hN) h c:=T.both;rw[<- e1,<- e2]at b;exact(Int.ofNat.inj b).symm
theorem Fill.wle {sh:List (List Str)}{L:List Str}{hN:Names sh L}{h:List Nat}{m:Nat}(X:Fill hN h m):wS (pbOf hN) h<=6*dN (pbOf hN) h:=by
 have T:=tells X.done (zdH X.shp hN);have e2:((wS (pbOf hN) h:Nat):Int)=sm sh.length λk=>wI (pbOf hN) h k:=zfd λk hk=>T.w k hk;have f:(sm sh.length λk=>wI (pbOf hN) h k)<=6*dI (pbOf hN) h:=T.few;rw[<- e2,<- T.d]at f;lia
theorem Fill.small {sh:List (List Str)}{L:List Str}{hN:Names sh L}{h:List Nat}{m:Nat}(X:Fill hN h m):m=1\/dN (pbOf hN) h*wS (pbOf hN) h<=150:=by
 have f:=X.wle;have m1:=X.m1;by_cases z:m=1
 ·exact .inl z
 ·refine .inr ?_;have h2:2 ^ dN (pbOf hN) h<=60:=XO (Nat.pow_le_pow_left (by lia) _) X.pow;have h5:dN (pbOf hN) h<=5:=by
   refine Nat.le_of_lt_succ (Nat.lt_of_not_le λy=>?_);have:=Yz (show 2 > 0 by decide) y;lia
  have hw:wS (pbOf hN) h<=30:=by lia
  exact Nat.mul_le_mul h5 hw
theorem znL {m e:Nat}(h4:m<=4)(h:m=1\/e<=150):m ^ e<2 ^ 4000:=by
 rcases h with rfl | h
 ·rw[Nat.one_pow];exact XD (show 1<2 ^ 1 by decide) (Yz (by decide) (by decide))
 ·have h1:m ^ e<=4 ^ e:=Nat.pow_le_pow_left h4 e;have h2:4 ^ e<=4 ^ 150:=Yz (by decide) h;have h3:(4:Nat) ^ 150=2 ^ 300:=by rw[show(4:Nat)=2 ^ 2 from rfl,<- Nat.pow_mul]
  have h4:(2:Nat) ^ 300<2 ^ 4000:=Nat.pow_lt_pow_right (by decide) (by decide);rw[h3]at h2;exact Nat.lt_of_le_of_lt (XO h1 h2) h4
theorem zju {f:Nat->Nat}:∀ {i n:Nat},i<=n->sN i f<=sN n f
 | i,0,h=>by rw[Nat.le_zero.mp h];exact Xg _
 | i,n+1,h=>by
  by_cases z:i=n+1
  ·rw[z];exact Xg _
  ·have:=zju (f:=f) (show i<=n by lia);show _<=sN n f+f n;lia
noncomputable def ziP {sh:List (List Str)}{L:List Str}(hN:Names sh L)(h:List Nat)(m:Nat):PV:=.lst (sh.map λpt=>tabT (pt.map (szN (pbOf hN) h L m)))
noncomputable def zeb:PF:=λds Q=>∃(sh:List (List Str))(L:List Str)(hN:Names sh L)(h:List Nat)(m:Nat),ds=[shpP sh,.int m]/\Fill hN h m/\Q (ziP hN h m) .new
theorem zjv:zaX zeb:=λds Q Q' m q199q=>by obtain⟨a,b,c,d,e,f,g,q⟩:=q199q;exact⟨a,b,c,d,e,f,g,m _ _ q⟩
noncomputable def zge:PF:=λds Q=>∃(sh:List (List Str))(L:List Str)(hN:Names sh L)(h:List Nat)(m:Nat),ds=[shpP sh,ziP hN h m]/\Fill hN h m/\Q (.tup [.int (dI (pbOf hN) h),.int ((m ^ (dN (pbOf hN) h*wS (pbOf hN) h):Nat):Int)]) .frz
theorem zlt:zaX zge:=λds Q Q' m q200q=>by obtain⟨a,b,c,d,e,f,g,q⟩:=q200q;exact⟨a,b,c,d,e,f,g,m _ _ q⟩
noncomputable def zcc:PF:=λds Q=>∃ss:List Nat,ds=[tabT ss,tabT ss]/\Few ss/\Q (.bl true) .frz
theorem ziQ:zaX zcc:=λds Q Q' m q201q=>by obtain⟨a,e,h1,q⟩:=q201q;exact⟨a,e,h1,m _ _ q⟩
theorem znM (L:List Str):L.map PV.str=(L.map (Sum.inr:Str->Key)).map keyP:=by rw[List.map_map];rfl
theorem zpO {sh:List (List Str)}{L:List Str}{hN:Names sh L}{h:List Nat}(T:Tells (pbOf hN) h):(ysI (pbOf hN) h).map PV.int=L.map λx=>PV.int ((eN (pbOf hN) h L x:Nat):Int):=by
 refine List.ext_getElem ?_ λc h1 h2=>?_
 ·rw[Xb,Xb,zgM,Xb,XA];rfl
 ·have hc:c<L.length:=by rw[Xb]at h2;exact h2
  have e:=zrv hN.nd (Xf hc);simp only[zgM,List.getElem_map,List.getElem_range];unfold eN;rw[e,T.y c hc]
theorem ziR {sh:List (List Str)}{L L':List Str}{hN:Names sh L}{hN':Names sh L'}{h h':List Nat}(d:Done (pbOf hN) h)(d':Done (pbOf hN') h'):L=L'/\h=h':=by
 have e:=Names.uniq hN hN';subst e;exact⟨rfl,Done.uniq d d'⟩
section
variable {P:Program}{w:World}{K:Xa}{mg:Str->Option Value}{base:Heap}
theorem zkD:zap ["shape","m","prices"] ["shape","m"] (zac zcl):=⟨rfl,rfl,rfl,by decide +kernel,rfl,by decide +kernel,by decide +kernel⟩
theorem znN {f f1 f2 f3 f4:Addr}{fd fd1 fd2 fd3 fd4:FuncData}(F:Fun K "filled" "filled" zcl f fd) (LettersOf:Fx K mg "letters_of" zaR ["shape"] f1 fd1) (Weights:Fx K mg "weights" zbf ["shape"] f2 fd2) (GWeights:FnOk P w K mg base CX0 4 f2 fd2 ["shape"] (spP K zaV)) (Power:Fx K mg "power" zdJ ["base","exponent"] f3 fd3) (AllRows:Fx K mg "all_rows" zbM ["sizes"] f4 fd4) (B:Bl mg):FnOk P w K mg base CX0 5 f fd ["shape","m"] (spP K zeb):=by
 have GLettersOf:FnOk P w K mg base CX0 4 f1 fd1 ["shape"] (spP K zav):=(zfi LettersOf.fn B).mono (by decide);have GPower:FnOk P w K mg base CX0 4 f3 fd3 ["base","exponent"] (spP K zeN):=(zkx Power.fn B).mono (by decide);have GAllRows:FnOk P w K mg base CX0 4 f4 fd4 ["sizes"] (spP K zcW):=(zls AllRows.fn B).mono (by decide);refine zaw F zkD (λds Q q202q=>by obtain⟨a,b,c,d,e,h,_⟩:=q202q;rw[h];rfl) (λcdv A outer s H E hr=>?_);have hu:(A.deeper (envOfC "filled" (zac zcl) s.heap.objs.size f cdv)).units+16<cLine:=by have q:=hr.units;lia
 have nd:=zkD.nd;refine⟨_,(zad (zai (i:=2) nd rfl (Or.inr rfl) (zjl rfl rfl B.dict rfl B.zip (zab (zaq GLettersOf zdN hr rfl LettersOf.mg LettersOf.fn.kp LettersOf.bd (zab (zaa 0) zae)) (zab (zao (zaq GWeights zdx hr rfl Weights.mg Weights.fn.kp Weights.bd (zab (zaa 0) zae)) zag) zae))))
   (zaf (zbw 2 (zan (zbx (N:=["letters","m","prices"]) (k:=1) (js:=[1,2]) rfl (zdi (sup:=zac zcl) (XN:=["shape","m","prices"]) rfl rfl (by decide +kernel)) (by decide) (zaM (by decide)) (zaN (zaa 0)) ⟨λ_ _ _ _ _=>(zak (i:=0) (by show(["letters","m","prices"]:List Str).Nodup;decide +kernel) rfl (Or.inl rfl)),λ_ _ _ _ _=>zaO,λ_ _ _ _ _=>(zaq GAllRows ziM hr rfl AllRows.mg AllRows.fn.kp AllRows.bd (zab (zbx (N:=["letter","m","prices"]) (k:=1) (js:=[1,2]) rfl (zdi (sup:=zeg ⟨.function,[(".0",.local),("letters",.local),("all_rows",.globalImplicit),("m",.free),("prices",.free)],false,false,[]⟩ (zac zcl)) (XN:=["letters","m","prices"]) rfl rfl (by decide +kernel)) (by decide) (zaM (by decide)) (zhb (zaa 0)) ⟨λ_ _ _ _ _=>(zak (i:=0) (by show(["letter","m","prices"]:List Str).Nodup;decide +kernel) rfl (Or.inl rfl)),λ_ _ _ _ _=>zaO,λ_ _ _ _ _=>(zaq GPower zfc hr rfl Power.mg Power.fn.kp Power.bd (zab (zaa 1) (zab (zmJ (hu1 hu) (zaa 2) (zaa 0)) zae)))⟩) zae))⟩))))),λds Q h=>?_⟩
 obtain⟨sh,L,hN,h,m,rfl,X,q⟩:=h;have hsz:=sizeLine_eq;have T:=tells X.done (zdH X.shp hN);walk_at "pu";refine⟨sh,rfl,X.shp,λL1 hN1=>⟨sh,rfl,X.shp,λLb hN2 h2 D2=>?_⟩⟩;have e0:=Names.uniq hN1 hN;subst e0;obtain⟨e1,e2⟩:=ziR D2 X.done;subst e1 e2;have h6:=X.shp.m6;have nL:=(zdH X.shp hN).n6;have ll:Lb.length=(ysI (pbOf hN) h2).length:=by rw[zgM,Xb,XA];rfl
 refine⟨_,.inl ⟨_,.inr rfl,zbd (j:=2) rfl⟩,Lb.map Sum.inr,znM Lb,_,rfl,by rw[Xb,Xb];exact ll,?_,?_⟩
 ·show(Lb.map Sum.inr).Pairwise _;rw[List.pairwise_map];exact hN.nd.imp λh z=>h (Sum.inr.inj z)
 rw[zpO T];walk_at "go";refine⟨by rw[Xb];lia,λi out=>out=(sh.take i).map λpt=>tabT (pt.map (szN (pbOf hN) h2 Lb m)),rfl,?_,?_⟩
 ·rintro i d out hd-rfl;rw[Xi]at hd;cases hp:sh[i]? with
  | none=>rw[hp]at hd;cases hd
  | some pt=>
   rw[hp]at hd;cases hd;have hpm:=Xr hp;have h4:=X.shp.wid pt hpm;have W:=X.few hp;have m4:=X.m4;refine⟨_,rfl,by rw[Xb];lia,λj out=>out=((pt.take j).map (szN (pbOf hN) h2 Lb m)).map λ(s:Nat)=>PV.int s,rfl,?_,?_⟩
   ·rintro j d out hd-rfl;rw[Xi]at hd;cases hx:pt[j]? with
    | none=>rw[hx]at hd;cases hd
    | some x=>
     rw[hx]at hd;cases hd;have hxL:x∈Lb:=(hN.mem x).mpr ⟨pt,hpm,Xr hx⟩;have he:eN (pbOf hN) h2 Lb x<=5040:=XO (XO (zhB (eN (pbOf hN) h2 Lb) (Xr hx)) (X.cost hp)) T.top;refine⟨.inr x,rfl,_,zpM hxL,m,rfl,_,rfl,by lia,by lia,?_⟩;show _=_;rw[<- take_snoc hx,Xk,Xk];rfl
   ·rintro out-rfl;rw[Xb,XY];refine⟨_,rfl,W,?_⟩;show _=_;rw[<- take_snoc hp,Xk];rfl
 ·rintro out-rfl;rw[Xb,XY];exact q
theorem znO:zap ["shape","rows","told","product","weight","table"] ["shape","rows"] (zac zeI):=⟨rfl,rfl,rfl,by decide +kernel,rfl,by decide +kernel,by decide +kernel⟩
theorem zpe {f f2 f3:Addr}{fd fd2 fd3:FuncData}(F:Fun K "bound" "bound" zeI f fd) (Weights:Fx K mg "weights" zbf ["shape"] f2 fd2) (GWeights:FnOk P w K mg base CX0 4 f2 fd2 ["shape"] (spP K zaV)) (Power:Fx K mg "power" zdJ ["base","exponent"] f3 fd3) (B:Bl mg):FnOk P w K mg base CX0 5 f fd ["shape","rows"] (spP K zge):=by
 have GPower:FnOk P w K mg base CX0 4 f3 fd3 ["base","exponent"] (spP K zeN):=(zkx Power.fn B).mono (by decide);refine zaw F znO (λds Q q203q=>by obtain⟨a,b,c,d,e,h,_⟩:=q203q;rw[h];rfl) (λcdv A outer s H E hr=>?_);have hu:(A.deeper (envOfC "bound" (zac zeI) s.heap.objs.size f cdv)).units+16<cLine:=by have q:=hr.units;lia
 have nd:=znO.nd;refine⟨_,(zad (zai (i:=2) nd rfl (Or.inl rfl) (zaq GWeights zdx hr rfl Weights.mg Weights.fn.kp Weights.bd (zab (zaa 0) zae)))
   (zad (zai (i:=3) nd rfl (Or.inl rfl) zag)
   (zad (zaQ rfl PassesOwn.never (zhg rfl B.zip (zab (zao (zaa 2) zag) (zab (zaa 1) zae))) (zdm (n:=2) rfl (zaB (zak (i:=4) nd rfl (Or.inl rfl)) (zaB (zak (i:=5) nd rfl (Or.inl rfl)) zcp))) (zaf (zai (i:=3) nd rfl (Or.inl rfl) (zrf (zaa 3) (zaq GPower zfc hr rfl Power.mg Power.fn.kp Power.bd (zab (zaU rfl B.len (zab (zaa 5) zae)) (zab (zaa 4) zae)))))))
   (zaf (zan (zdI (zab (zao (zaa 2) zag) (zab (zaa 3) zae)))))))),λds Q h=>?_⟩
 obtain⟨sh,L,hN,h,m,rfl,X,q⟩:=h;have hsz:=sizeLine_eq;have T:=tells X.done (zdH X.shp hN);walk_at "pu";refine⟨sh,rfl,X.shp,λLb hN2 h2 D2=>?_⟩;obtain⟨e1,e2⟩:=ziR D2 X.done;subst e1 e2;walk_at "go";walk_at "go";have h6:=X.shp.m6;obtain⟨g,hg⟩:∃g:Nat->Nat,∀k,g k=cN (pbOf hN) h2 Lb (sh.getD k [])*wN (pbOf hN) h2 k:=⟨_,λ_=>rfl⟩;have hall:sN sh.length g=dN (pbOf hN) h2*wS (pbOf hN) h2:=by rw[funext hg];exact X.all
 have lim:∀e,e<=sN sh.length g->m ^ e<2 ^ 4000:=λe he=>znL X.m4 (X.small.imp_right λz=>by lia);refine⟨_,.inl ⟨_,.inr rfl,zbd (j:=1) rfl⟩,_,rfl,_,rfl,?_⟩;obtain⟨Iv,hIv⟩:∃Iv:Nat->PEnv->Prop,∀i ρ,Iv i ρ↔∃k4 k5:Option (PV×Bool),ρ=[some (PV.lst (List.map ltsP sh),false),some (ziP hN h2 m,false),some (wtP (pbOf hN2) h2,false),some (PV.int ((m ^ sN i g:Nat):Int),false),k4,k5]:=⟨_,λ_ _=>Iff.rfl⟩;refine⟨Iv,(hIv _ _).mpr ⟨_,_,rfl⟩,?_,?_⟩
 ·intro i d ρ hd hI;obtain⟨k4,k5,rfl⟩:=(hIv _ _).mp hI;obtain⟨x,y,hx,hy,rfl⟩:=zcR hd;rw[Xi]at hy;cases hp:sh[i]? with
  | none=>rw[hp]at hy;cases hy
  | some pt=>
   rw[hp]at hy;cases hy;have hi:=(Xd.mp hp).1;have hx':x=PV.int ((wN (pbOf hN) h2 i:Nat):Int):=by
    rw[zgL,Xi,Xi,Yu (show i<(pbOf hN2).m from hi)]at hx;rw[T.w i hi];exact(Option.some.inj hx).symm
   subst hx';have hgi:g i=cN (pbOf hN) h2 Lb pt*wN (pbOf hN) h2 i:=by rw[hg,XE,hp];rfl
   have hs1:sN (i+1) g=sN i g+g i:=rfl;have hm1:=zju (f:=g) (show i+1<=sh.length by lia);have hlen:=zjt (pbOf hN) h2 Lb m pt;have hc60:m ^ cN (pbOf hN) h2 Lb pt<=60:=XO (Yz X.m1 (X.cost hp)) X.pow;have hw:wN (pbOf hN) h2 i<2 ^ 62:=by
    have b1:=X.wle;have b2:=T.top;have h3:wN (pbOf hN) h2 i<=sN (i+1) (wN (pbOf hN) h2):=Nat.le_add_left _ _;have h4:sN (i+1) (wN (pbOf hN) h2)<=wS (pbOf hN) h2:=zju (show i+1<=sh.length by lia);lia
   refine⟨_,rfl,rfl,_,_,rfl,_,_,rfl,rfl,?_⟩;walk_at "go";refine⟨_,rfl,_,rfl,_,rfl,by rw[Xb,hlen];lia,hw,?_⟩;rw[Xb,hlen];have e1:(m ^ cN (pbOf hN) h2 Lb pt) ^ wN (pbOf hN) h2 i=m ^ g i:=by rw[hgi,Nat.pow_mul]
   have e2:((m ^ sN i g:Nat):Int)*((m ^ g i:Nat):Int)=((m ^ sN (i+1) g:Nat):Int):=by rw[hs1,Nat.pow_add,Int.natCast_mul]
   rw[e1,e2];exact⟨⟨by rw[Int.natAbs_natCast];exact lim _ (by lia),by rw[Int.natAbs_natCast];exact lim _ (by lia)⟩,(hIv _ _).mpr ⟨_,_,rfl⟩⟩
 ·intro ρ hI;obtain⟨k4,k5,rfl⟩:=(hIv _ _).mp hI;rw[zcS,Xb,Xb,zgL,Xb,XA,show min (pbOf hN2).m sh.length=sh.length from Nat.min_self _,hall];walk_at "go";exact⟨_,.inl ⟨_,.inr rfl,zbd (j:=0) rfl⟩,by lia,q⟩
theorem ziS:zap ["_law_found","_law_due","_law_row"] ["_law_found","_law_due"] (zac zbN):=⟨rfl,rfl,rfl,by decide +kernel,rfl,by decide +kernel,by decide +kernel⟩
theorem zlu {f f1:Addr}{fd fd1:FuncData}(F:Fun K "_law_is_lines" "_law_is_lines" zbN f fd) (Whole:Fx K mg "_law_whole" zdK ["_law_found"] f1 fd1) (B:Bl mg):FnOk P w K mg base CX0 2 f fd ["_law_found","_law_due"] (spP K zcc):=by
 have GWhole:FnOk P w K mg base CX0 1 f1 fd1 ["_law_found"] (spP K zdP):=zkw Whole.fn B;refine zaw F ziS (λds Q q204q=>by obtain⟨a,e,_⟩:=q204q;rw[e];rfl) (λcdv A outer s H E hr=>?_);have hu:(A.deeper (envOfC "_law_is_lines" (zac zbN) s.heap.objs.size f cdv)).units+16<cLine:=by have q:=hr.units;lia
 have nd:=ziS.nd;refine⟨_,(zad (zbQ (PuW.t (zeo (zcN (zcy (zgz (K:=K) rfl rfl B.isi (zab (zaa 0) (zab (zkZ rfl B.list zov) zae))))) (zdR (zig hu (zaU rfl B.len (zab (zaa 0) zae)) (zaU rfl B.len (zab (zaa 1) zae)))))) (zaf (zan zhW)) zaH)
   (zad (zaQ rfl PassesOwn.never (zaN (zaa 0)) (zak (i:=2) nd rfl (Or.inl rfl)) (zaf (zbQ (PuW.t (zeo (zcN (zcy (zgz (K:=K) rfl rfl B.isi (zab (zaa 2) (zab (zkZ rfl B.tuple zmB) zae))))) (zdR (zcN (zcy (zsN rfl rfl B.all (zab (zbx (N:=["_law_cell"]) (k:=1) (js:=[]) rfl (zdi (sup:=zac zbN) (XN:=["_law_found","_law_due","_law_row"]) rfl rfl (by decide +kernel)) (by decide) (zaM (by decide)) (zhb (zaa 2)) ⟨λ_ _ _ _ _=>(zak (i:=0) (by show(["_law_cell"]:List Str).Nodup;decide +kernel) rfl (Or.inl rfl)),λ_ _ _ _ _=>zaO,λ_ _ _ _ _=>(zaq GWhole zfb hr rfl Whole.mg Whole.fn.kp Whole.bd (zab (zaa 0) zae))⟩) zae))))))) (zaf (zan zhW)) zaH)))
   (zaf (zan (zsx hu (zaa 0) (zaa 1)))))),λds Q h=>?_⟩
 obtain⟨ss,rfl,W,q⟩:=h;have hsz:=sizeLine_eq;have hl60:=W.le ss.length;rw[XY]at hl60;have hw:=zhA (ss:=ss) (i:=ss.length) (Xg _);rw[XY]at hw;have h4:=W.n4;refine seqK λN hN=>?_;walk_at "go";refine⟨(λn z=>nomatch z),rfl,true,zey,?_⟩;rw[if_neg (λz=>nomatch z)];refine⟨_,rfl,_,rfl,?_⟩;rw[if_neg (λz=>z rfl)];refine hN _ ?_;walk_at "go";obtain⟨Iv,hIv⟩:∃Iv:Nat->PEnv->Prop,∀i ρ,Iv i ρ↔∃k:Option (PV×Bool),ρ=[some (tabT ss,false),some (tabT ss,false),k]:=⟨_,λ_ _=>Iff.rfl⟩;refine⟨_,rfl,Iv,(hIv _ _).mpr ⟨_,rfl⟩,?_,?_⟩
 ·intro i d ρ hd hI;obtain⟨k,rfl⟩:=(hIv _ _).mp hI;rw[Xi]at hd;cases hr:(zdg ss)[i]? with
  | none=>rw[hr]at hd;cases hd
  | some r=>
   rw[hr]at hd;cases hd;have hrl:=hw r (Xr hr);walk_at "go";refine⟨(λn z=>nomatch z),rfl,true,zey,?_⟩;rw[if_neg (λz=>nomatch z)];refine⟨_,rfl,by rw[Xb];lia,λk out=>out=(List.replicate k true).map PV.bl,rfl,?_,?_⟩
   ·rintro k d out hd-rfl;have hdm:=Xr hd;obtain⟨x,_,rfl⟩:=XI.mp hdm;refine⟨⟨_,rfl⟩,?_⟩;show _=_;rw[List.replicate_succ',Xk];rfl
   ·rintro out-rfl;refine⟨_,rfl,?_⟩;rw[if_neg (by rw[List.all_replicate];simp)];exact(hIv _ _).mpr ⟨_,rfl⟩
 ·intro ρ hI;obtain⟨k,rfl⟩:=(hIv _ _).mp hI;walk_at "go";have hpl:_P.plain 6 (tabT ss)=true:=by
   show((zdg ss).map rowT).all (_P.plain 5)=true;rw[XV];intro d hd;obtain⟨r,_,rfl⟩:=XI.mp hd;show(r.map PV.int).all (_P.plain 4)=true;rw[XV];intro e he;obtain⟨x,_,rfl⟩:=XI.mp he;rfl
  refine⟨hpl,hpl,?_⟩;rw[decide_eq_true trivial];exact q
end
noncomputable def zgf:PF:=λds Q=>∃(sh:List (List Str))(m:Nat),ds=[shpP sh,.int m]/\Shp sh/\1<=m/\m<=4/\Q (.bl true) .frz
theorem zlv:zaX zgf:=λds Q Q' m q205q=>by obtain⟨a,b,e,h1,h2,h3,q⟩:=q205q;exact⟨a,b,e,h1,h2,h3,m _ _ q⟩
theorem zpf {L:List Str}{f:Str->Nat}{i:Nat}{l:Str}(nd:L.Nodup)(h:L[i]? = some l):(if hasK ((L.take i).map (Sum.inr:Str->Key)) (.inr l)=true then PV.dK ((L.take i).map Sum.inr) (putD ((L.take i).map Sum.inr) ((L.take i).map λx=>PV.int ((f x:Nat):Int)) (.inr l) (PV.int ((f l:Nat):Int))) else PV.dK ((L.take i).map Sum.inr++[Sum.inr l]) (((L.take i).map λx=>PV.int ((f x:Nat):Int))++[PV.int ((f l:Nat):Int)]))=sizP (L.take (i+1)) f:=by
 have h1:(L.take i++[l]).Nodup:=by rw[take_snoc h];exact nd.sublist (List.take_sublist _ _)
 have hno:¬ hasK ((L.take i).map (Sum.inr:Str->Key)) (.inr l)=true:=λz=>by
  unfold hasK at z;obtain⟨k,h2,h3⟩:=List.any_eq_true.mp z;obtain⟨x,h4,rfl⟩:=XI.mp h2;have h5:x=l:=Sum.inr.inj (of_decide_eq_true h3);subst h5;exact(List.nodup_append.mp h1).2.2 x h4 x Xp rfl
 rw[if_neg hno,<- take_snoc h];unfold sizP;rw[Xk,Xk];rfl
noncomputable def rD:TPS:=pRet (t2 (pEq false) (pVar 13) (pTup (zar (pVar 2) (zar (zaF zbW (zar (pVar 11) (zar (pVar 2) pNil))) pNil))))
noncomputable def rC (K:Xa):TPS:=pSeq (pIf (tOrP (zcM (tTru (_P.tB (fIsi K) (zar (pVar 13) (zar (pC (PV.ty "tuple")) pNil))))) (tOrP (tBl (t2 (pEq true) (_P.tB fLen (zar (pVar 13) pNil)) (pC (PV.int 2)))) (tOrP (zcM (tTru (zaF zdP (zar (t2 pIx (pVar 13) (pC (PV.int 0))) pNil)))) (zcM (tTru (zaF zdP (zar (t2 pIx (pVar 13) (pC (PV.int 1))) pNil))))))) (pRet (pC (PV.bl false))) zcA) rD
noncomputable def rB (K:Xa):TPS:=pSeq (pSet 13 (zaF zge (zar (pVar 0) (zar (pVar 8) pNil)))) (rC K)
noncomputable def rA (K:Xa):TPS:=pSeq (pIf (tBl (t2 (pEq true) (pVar 11) (zaF zbW (zar (pVar 1) (zar (_P.tB fSum (zar (pVar 3) pNil)) pNil))))) (pRet (pC (PV.bl false))) zcA) (rB K)
noncomputable def r9 (K:Xa):TPS:=pSeq (pFor (iItm (pVar 5)) (zdd 2 (zbg (zaZ 6) (zbg (zaZ 12) zdc))) (pSet 11 (pMul (pVar 11) (pVar 12)))) (rA K)
noncomputable def r8 (K:Xa):TPS:=pSeq (pSet 11 (pC (PV.int 1))) (r9 K)
noncomputable def r7 (K:Xa):TPS:=pSeq (pFor (zdE (zar (pVar 8) (zar (pVar 0) pNil))) (zdd 2 (zbg (zaZ 9) (zbg (zaZ 10) zdc)))
 (pIf (tOrP (zcM (tTru (zaF zcc (zar (pVar 9) (zar (zaF zgo (zar (pVar 10) (zar (pVar 5) pNil))) pNil))))) (tBl (pGt (_P.tB fLen (zar (pVar 9) pNil)) (zaF zbW (zar (pVar 1) (zar (pVar 2) pNil)))))) (pRet (pC (PV.bl false))) zcA)) (r8 K)
noncomputable def r6 (K:Xa):TPS:=pSeq (pFrz 8 (pIf (tOrP (zcM (tTru (_P.tB (fIsi K) (zar (pVar 8) (zar (pC (PV.ty "list")) pNil))))) (tBl (t2 (pEq true) (_P.tB fLen (zar (pVar 8) pNil)) (_P.tB fLen (zar (pVar 0) pNil))))) (pRet (pC (PV.bl false))) zcA)) (r7 K)
noncomputable def r5 (K:Xa):TPS:=pSeq (pFrz 5 (pSet 8 (zaF zeb (zar (pVar 0) (zar (pVar 1) pNil))))) (r6 K)
noncomputable def r4 (K:Xa):TPS:=pSeq (pFor (zdE (zar (zaF zcw (zar (pVar 0) pNil)) (zar (pVar 4) pNil))) (zdd 2 (zbg (zaZ 6) (zbg (zaZ 7) zdc))) (zci 5 (pVar 6) (zaF zbW (zar (pVar 1) (zar (pVar 7) pNil))))) (r5 K)
noncomputable def r3 (K:Xa):TPS:=pSeq (pSet 5 zdV) (r4 K)
noncomputable def r2 (K:Xa):TPS:=pSeq (zcg (tBl (pGt (zaF zbW (zar (pVar 1) (zar (pVar 2) pNil))) (pC (PV.int 60)))) (pSet 1 (pSub (pVar 1) (pC (PV.int 1))))) (r3 K)
noncomputable abbrev Ov:=Option (PV×Bool)
noncomputable def rE {sh:List (List Str)}{L:List Str}(hN:Names sh L)(h:List Nat)(m:Nat)(v5 v6 v7 v8 v9 va vb vc vd:Ov):PEnv:=[some (PV.lst (List.map ltsP sh),false),some (PV.int (m:Nat),false),some (PV.int (dN (pbOf hN) h:Nat),false),some (PV.lst (List.map PV.int (wsI (pbOf hN) h)),false),some (PV.lst (List.map (λx=>PV.int ((eN (pbOf hN) h L x:Nat):Int)) L),false),v5,v6,v7,v8,v9,va,vb,vc,vd]
noncomputable abbrev eSiz {sh:List (List Str)}{L:List Str}(hN:Names sh L)(h:List Nat)(m:Nat):Ov:=some (sizP L (szN (pbOf hN) h L m),false)
noncomputable abbrev ztu {sh:List (List Str)}{L:List Str}(hN:Names sh L)(h:List Nat)(m:Nat):Ov:=some (PV.int ((m ^ wS (pbOf hN) h:Nat):Int),false)
section
variable {K:Xa}{Q:PV->Kd->Prop}{sh:List (List Str)}{L:List Str}{hN:Names sh L}{h:List Nat}{m:Nat}
theorem Fill.mw (X:Fill hN h m):m ^ wS (pbOf hN) h<2 ^ 64:=by
 have hwl:=X.wle;have b1:m ^ wS (pbOf hN) h<=m ^ (dN (pbOf hN) h*6):=Yz X.m1 (by lia);have b2:(m ^ dN (pbOf hN) h) ^ 6<=60 ^ 6:=Nat.pow_le_pow_left X.pow 6;rw[Nat.pow_mul]at b1;have b3:(60:Nat) ^ 6<2 ^ 64:=by decide
 lia
theorem sC (X:Fill hN h m)(q:Q (.bl true) .frz)(v5 v6 v7 v8 v9 va vc:Ov):Hold (rC K) (zba Q) (rE hN h m v5 v6 v7 v8 v9 va (ztu hN h m) vc (some (PV.tup [PV.int (dI (pbOf hN) h),PV.int ((m ^ (dN (pbOf hN) h*wS (pbOf hN) h):Nat):Int)],false))):=by
 have T:=tells X.done (zdH X.shp hN);have top:=T.top;have hsz:=sizeLine_eq;have hmw:=X.mw;refine seqK λN hNx=>?_;walk_at "go";refine⟨true,zey,?_⟩;rw[if_neg (λz=>nomatch z),if_neg (λz=>z rfl)];refine⟨_,zbd (j:=0) rfl,⟨_,rfl⟩,_,zbd (j:=1) rfl,⟨_,rfl⟩,hNx _ ?_⟩;clear hNx N;show Hold (pRet _) _ _;walk_at "go";refine⟨_,rfl,_,rfl,hmw,by lia,by lia,rfl,rfl,?_⟩;rw[decide_eq_true ⟨T.d.symm,by rw[<- Nat.pow_mul,Nat.mul_comm]⟩];exact q
theorem sA (X:Fill hN h m)(q:Q (.bl true) .frz)(v5 v6 v7 v9 va vc vd:Ov):Hold (rA K) (zba Q) (rE hN h m v5 v6 v7 (some (ziP hN h m,false)) v9 va (ztu hN h m) vc vd):=by
 have T:=tells X.done (zdH X.shp hN);have top:=T.top;have hwl:=X.wle;have m4:=X.m4;have hws:(wsI (pbOf hN) h).sum=((wS (pbOf hN) h:Nat):Int):=by
  rw[zgL,zgN];exact(zfd λk hk=>T.w k hk).symm
 refine seqK λN hNx=>?_;walk_at "go";refine⟨_,rfl,m,rfl,_,hws,by lia,by lia,?_⟩;rw[if_neg (λz=>z rfl)];refine hNx _ (seqK λN hNx=>?_);walk_at "go";exact⟨sh,rfl,L,hN,h,m,rfl,X,hNx _ (sC X q _ _ _ _ _ _ _)⟩
theorem Fill.c60 (X:Fill hN h m):∀x∈L,szN (pbOf hN) h L m x<=60:=λx hx=>by
 obtain⟨pt,hp,hxp⟩:=(hN.mem x).mp hx;obtain⟨k,hk,e⟩:=List.getElem_of_mem hp;exact(X.few (Xd.mpr ⟨hk,e⟩)).lt _ (XI.mpr ⟨x,hxp,rfl⟩)
theorem s8 (X:Fill hN h m)(q:Q (.bl true) .frz)(v6 v7 v9 va vb vc vd:Ov):Hold (r8 K) (zba Q) (rE hN h m (eSiz hN h m) v6 v7 (some (ziP hN h m,false)) v9 va vb vc vd):=by
 have hc60:=X.c60;refine seqK λN hNx=>?_;walk_at "go";refine hNx _ (seqK λN hNx=>?_);walk_at "go";obtain⟨Iv,hIv⟩:∃Iv:Nat->PEnv->Prop,∀i ρ,Iv i ρ↔∃v6 vc:Ov,ρ=rE hN h m (eSiz hN h m) v6 v7 (some (ziP hN h m,false)) v9 va (some (PV.int ((m ^ ((L.take i).map (eN (pbOf hN) h L)).sum:Nat):Int),false)) vc vd:=⟨_,λ_ _=>Iff.rfl⟩;refine⟨_,_,rfl,Iv,(hIv _ _).mpr ⟨_,_,rfl⟩,?_,?_⟩
 ·intro i d ρ hd hI;obtain⟨v6,vc,rfl⟩:=(hIv _ _).mp hI;obtain⟨x,y,hx,hy,rfl⟩:=zcR hd;rw[<- znM,Xi]at hx;rw[Xi]at hy;cases hl:L[i]? with
  | none=>rw[hl]at hx;cases hx
  | some l=>
   rw[hl]at hx hy;cases hx;cases hy;have h60:=hc60 l (Xr hl);refine⟨_,rfl,rfl,_,_,rfl,_,_,rfl,rfl,?_⟩;walk_at "go";have e:((m ^ ((L.take i).map (eN (pbOf hN) h L)).sum:Nat):Int)*((szN (pbOf hN) h L m l:Nat):Int)=((m ^ ((L.take (i+1)).map (eN (pbOf hN) h L)).sum:Nat):Int):=by
    rw[<- take_snoc hl,Xk,List.sum_append,Nat.pow_add,Int.natCast_mul];simp[szN]
   rw[e];exact⟨.inr ⟨by lia,by lia⟩,(hIv _ _).mpr ⟨_,_,rfl⟩⟩
 ·intro ρ hI;obtain⟨v6,vc,rfl⟩:=(hIv _ _).mp hI;rw[zcS,<- znM,Xb,Xb,Nat.min_self,XY,X.sum];exact hNx _ (sA X q _ _ _ _ _ _ _)
theorem s7 (X:Fill hN h m)(q:Q (.bl true) .frz)(v6 v7 v9 va vb vc vd:Ov):Hold (r7 K) (zba Q) (rE hN h m (eSiz hN h m) v6 v7 (some (ziP hN h m,false)) v9 va vb vc vd):=by
 have T:=tells X.done (zdH X.shp hN);have top:=T.top;have m4:=X.m4;refine seqK λN hNx=>?_;walk_at "go";obtain⟨Iv,hIv⟩:∃Iv:Nat->PEnv->Prop,∀i ρ,Iv i ρ↔∃v9 va:Ov,ρ=rE hN h m (eSiz hN h m) v6 v7 (some (ziP hN h m,false)) v9 va vb vc vd:=⟨_,λ_ _=>Iff.rfl⟩;refine⟨_,rfl,Iv,(hIv _ _).mpr ⟨_,_,rfl⟩,?_,?_⟩
 ·intro i d ρ hd hI;obtain⟨v9,va,rfl⟩:=(hIv _ _).mp hI;obtain⟨x,y,hx,hy,rfl⟩:=zcR hd;rw[Xi]at hx hy;cases hp:sh[i]? with
  | none=>rw[hp]at hx;cases hx
  | some pt=>
   rw[hp]at hx hy;cases hx;cases hy;have hpm:=Xr hp;have W:=X.few hp;have hlen:=zjt (pbOf hN) h L m pt;have hle:m ^ cN (pbOf hN) h L pt<=m ^ dN (pbOf hN) h:=Yz X.m1 (X.cost hp);refine⟨_,rfl,rfl,_,_,rfl,_,_,rfl,rfl,?_⟩;walk_at "go";refine⟨pt,rfl,L,szN (pbOf hN) h L m,rfl,λx hx=>(hN.mem x).mpr ⟨pt,hpm,hx⟩,W,_,rfl,rfl,W,_,rfl,m,rfl,_,rfl,by lia,by lia,?_⟩;rw[if_neg (by rw[Xb,hlen];lia)];exact(hIv _ _).mpr ⟨_,_,rfl⟩
 ·intro ρ hI;obtain⟨v9,va,rfl⟩:=(hIv _ _).mp hI;exact hNx _ (s8 X q _ _ _ _ _ _ _)
theorem s5 (X:Fill hN h m)(q:Q (.bl true) .frz)(v6 v7 v8 v9 va vb vc vd:Ov):Hold (r5 K) (zba Q) (rE hN h m (some (sizP L (szN (pbOf hN) h L m),true)) v6 v7 v8 v9 va vb vc vd):=by
 refine seqK λN hNx=>?_;walk_at "go";refine⟨sh,rfl,L,hN,h,m,rfl,X,hNx _ (seqK λN hNx=>?_)⟩;walk_at "go";refine⟨(λn z=>nomatch z),rfl,true,zey,?_⟩;rw[if_neg (λz=>nomatch z)];refine⟨sh.length,by show _=_;rw[Xb],?_⟩;rw[if_neg (λz=>z (by rw[Xb]))];exact hNx _ (s7 X q _ _ _ _ _ _ _)
theorem s3 (X:Fill hN h m)(q:Q (.bl true) .frz)(v5 v6 v7 v8 v9 va vb vc vd:Ov):Hold (r3 K) (zba Q) (rE hN h m v5 v6 v7 v8 v9 va vb vc vd):=by
 have T:=tells X.done (zdH X.shp hN);have top:=T.top;have m4:=X.m4;have hsz:=sizeLine_eq;have hn6:=(zdH X.shp hN).n6;have he:∀x∈L,eN (pbOf hN) h L x<2 ^ 62:=λx hx=>by
  obtain⟨pt,hp,hxp⟩:=(hN.mem x).mp hx;obtain⟨k,hk,e⟩:=List.getElem_of_mem hp;have h1:=zhB (eN (pbOf hN) h L) hxp;have h2:=X.cost (Xd.mpr ⟨hk,e⟩);unfold cN at h2;lia
 refine seqK λN hNx=>?_;walk_at "go";refine hNx _ (seqK λN hNx=>?_);walk_at "go";refine⟨sh,rfl,X.shp,λzs hz=>?_⟩;rw[Names.uniq hz hN];clear hz zs;obtain⟨Iv,hIv⟩:∃Iv:Nat->PEnv->Prop,∀i ρ,Iv i ρ↔∃v6 v7:Ov,ρ=rE hN h m (some (sizP (L.take i) (szN (pbOf hN) h L m),true)) v6 v7 v8 v9 va vb vc vd:=⟨_,λ_ _=>Iff.rfl⟩;refine⟨Iv,(hIv _ _).mpr ⟨_,_,rfl⟩,?_,?_⟩
 ·intro i d ρ hd hI;obtain⟨v6,v7,rfl⟩:=(hIv _ _).mp hI;obtain⟨x,y,hx,hy,rfl⟩:=zcR hd;rw[Xi]at hx hy;cases hl:L[i]? with
  | none=>rw[hl]at hx;cases hx
  | some l=>
   rw[hl]at hx hy;cases hx;cases hy;have hlL:=Xr hl;refine⟨_,rfl,rfl,_,_,rfl,_,_,rfl,rfl,?_⟩;walk_at "go";refine⟨m,rfl,_,rfl,by lia,he l hlL,_,_,rfl,by rw[Xb,XR];have:L.length<=6:=hn6;lia,.inr l,rfl,?_⟩;rw[show((m ^ eN (pbOf hN) h L l:Nat):Int)=((szN (pbOf hN) h L m l:Nat):Int) from rfl,zpf hN.nd hl];exact(hIv _ _).mpr ⟨_,_,rfl⟩
 ·intro ρ hI;obtain⟨v6,v7,rfl⟩:=(hIv _ _).mp hI;rw[zcS,Xb,Xb,Nat.min_self,XY];exact hNx _ (s5 X q _ _ _ _ _ _ _ _)
theorem s2 (S:Shp sh)(D:Done (pbOf hN) h)(h1:1<=m)(h4:m<=4)(q:Q (.bl true) .frz):Hold (r2 K) (zba Q) (rE hN h m none none none none none none none none none):=by
 have T:=tells D (zdH S hN);have top:=T.top;refine seqK λN hNx=>?_;walk_at "go";obtain⟨Iv,hIv⟩:∃Iv:Nat->PEnv->Prop,∀m ρ,Iv m ρ↔ρ=rE hN h m none none none none none none none none none/\1<=m/\m<=4:=⟨_,λ_ _=>Iff.rfl⟩;refine⟨Iv,⟨m,(hIv _ _).mpr ⟨rfl,h1,h4⟩⟩,λm ρ hI=>?_⟩;obtain⟨rfl,h1,h4⟩:=(hIv _ _).mp hI;walk_at "go";refine⟨m,rfl,dN (pbOf hN) h,rfl,by lia,by lia,ite2 (λe=>?_) (λe=>?_)⟩
 ·have hm2:m≠1:=λz=>by rw[z,Nat.one_pow]at e;lia
  walk_at "go";rw[show(m:Int)-1=((m-1:Nat):Int) by lia];exact⟨m-1,by lia,(hIv _ _).mpr ⟨rfl,by lia,by lia⟩⟩
 exact hNx _ (s3 ⟨S,D,h1,h4,by lia⟩ q _ _ _ _ _ _ _ _ _)
end
section
variable {P:Program}{w:World}{K:Xa}{mg:Str->Option Value}{base:Heap}
theorem znP:zap ["_law_shape_here","_law_m","_law_bottom","_law_some","_law_prices","_law_sizes","_law_letter","_law_price","_law_found","_law_lines","_law_pattern","_law_many","_law_size","_law_told"] ["_law_shape_here","_law_m"] (zac zeK):=⟨rfl,rfl,rfl,by decide +kernel,rfl,by decide +kernel,by decide +kernel⟩
theorem zpg {f f1 f2 f3 f4 f5 f6 f7 f8:Addr}{fd fd1 fd2 fd3 fd4 fd5 fd6 fd7 fd8:FuncData}(F:Fun K "_law_right" "_law_right" zeK f fd) (Whole:Fx K mg "_law_whole" zdK ["_law_found"] f1 fd1) (Letters:Fx K mg "_law_letters" zcb ["_law_shape_here"] f2 fd2) (IsLines:Fx K mg "_law_is_lines" zbN ["_law_found","_law_due"] f3 fd3) (Grid:Fx K mg "_law_grid" zgm ["_law_pattern","_law_sizes"] f4 fd4) (LPower:Fx K mg "_law_power" zcT ["_law_number","_law_times"] f5 fd5)
  (Weights:Fx K mg "weights" zbf ["shape"] f6 fd6) (GWeights:FnOk P w K mg base CX0 5 f6 fd6 ["shape"] (spP K zaV)) (Filled:Fx K mg "filled" zcl ["shape","m"] f7 fd7) (GFilled:FnOk P w K mg base CX0 5 f7 fd7 ["shape","m"] (spP K zeb)) (Bound:Fx K mg "bound" zeI ["shape","rows"] f8 fd8) (GBound:FnOk P w K mg base CX0 5 f8 fd8 ["shape","rows"] (spP K zge)) (B:Bl mg):FnOk P w K mg base CX0 6 f fd ["_law_shape_here","_law_m"] (spP K zgf):=by
 have GWhole:FnOk P w K mg base CX0 5 f1 fd1 ["_law_found"] (spP K zdP):=(zkw Whole.fn B).mono (by decide);have GLetters:FnOk P w K mg base CX0 5 f2 fd2 ["_law_shape_here"] (spP K zcw):=(zlr Letters.fn B).mono (by decide);have GIsLines:FnOk P w K mg base CX0 5 f3 fd3 ["_law_found","_law_due"] (spP K zcc):=(zlu IsLines.fn Whole B).mono (by decide);have GGrid:FnOk P w K mg base CX0 5 f4 fd4 ["_law_pattern","_law_sizes"] (spP K zgo):=(zru Grid.fn B).mono (by decide);have GLPower:FnOk P w K mg base CX0 5 f5 fd5 ["_law_number","_law_times"] (spP K zbW):=(znI LPower.fn B).mono (by decide);refine zaw F znP (λds Q q206q=>by obtain⟨a,b,e,_⟩:=q206q;rw[e];rfl) (λcdv A outer s H E hr=>?_);have hu:(A.deeper (envOfC "_law_right" (zac zeK) s.heap.objs.size f cdv)).units+16<cLine:=by have q:=hr.units;lia
 have nd:=znP.nd;refine⟨_,(zad (zqG (zaq GWeights zdx hr rfl Weights.mg Weights.fn.kp Weights.bd (zab (zaa 0) zae)) (zdm (n:=3) rfl (zaB (zak (i:=2) nd rfl (Or.inl rfl)) (zaB (zak (i:=3) nd rfl (Or.inl rfl)) (zaB (zak (i:=4) nd rfl (Or.inl rfl)) zcp)))))
   (zad (zdn PassesOwn.never (zgx (zaq GLPower zcn hr rfl LPower.mg LPower.fn.kp LPower.bd (zab (zaa 1) (zab (zaa 2) zae))) zag) (zaf (zai (i:=1) nd rfl (Or.inl rfl) (zmq (zaa 1) zag))))
   (zad (zai (i:=5) nd rfl (Or.inl rfl) zrc)
   (zad (zaQ rfl PassesOwn.never (zhg rfl B.zip (zab (zaq GLetters ziJ hr rfl Letters.mg Letters.fn.kp Letters.bd (zab (zaa 0) zae)) (zab (zaa 4) zae))) (zdm (n:=2) rfl (zaB (zak (i:=6) nd rfl (Or.inl rfl)) (zaB (zak (i:=7) nd rfl (Or.inl rfl)) zcp))) (zaf (zmL 5 (hu1 hu) (zaa 6) (zaq GLPower zcn hr rfl LPower.mg LPower.fn.kp LPower.bd (zab (zaa 1) (zab (zaa 7) zae))))))
   (zad (zbw 5 (zai (i:=8) nd rfl (Or.inl rfl) (zaq GFilled zjv hr rfl Filled.mg Filled.fn.kp Filled.bd (zab (zaa 0) (zab (zaa 1) zae)))))
   (zad (zbw 8 (zbQ (PuW.t (zeo (zcN (zcy (zgz (K:=K) rfl rfl B.isi (zab (zaa 8) (zab (zkZ rfl B.list zov) zae))))) (zdR (zig hu (zaU rfl B.len (zab (zaa 8) zae)) (zaU rfl B.len (zab (zaa 0) zae)))))) (zaf (zan zhW)) zaH))
   (zad (zaQ rfl PassesOwn.never (zhg rfl B.zip (zab (zaa 8) (zab (zaa 0) zae))) (zdm (n:=2) rfl (zaB (zak (i:=9) nd rfl (Or.inl rfl)) (zaB (zak (i:=10) nd rfl (Or.inl rfl)) zcp))) (zaf (zbQ (PuW.t (zeo (zcN (zcy (zaq GIsLines ziQ hr rfl IsLines.mg IsLines.fn.kp IsLines.bd (zab (zaa 9) (zab (zaq GGrid znF hr rfl Grid.mg Grid.fn.kp Grid.bd (zab (zaa 10) (zab (zaa 5) zae))) zae))))) (zdR (zgx (zaU rfl B.len (zab (zaa 9) zae)) (zaq GLPower zcn hr rfl LPower.mg LPower.fn.kp LPower.bd (zab (zaa 1) (zab (zaa 2) zae))))))) (zaf (zan zhW)) zaH)))
   (zad (zai (i:=11) nd rfl (Or.inl rfl) zag)
   (zad (zoS rfl PassesOwn.never (zll (zaa 5)) (zdm (n:=2) rfl (zaB (zak (i:=6) nd rfl (Or.inl rfl)) (zaB (zak (i:=12) nd rfl (Or.inl rfl)) zcp))) (zaf (zai (i:=11) nd rfl (Or.inl rfl) (zce (zaa 11) (zaa 12)))))
   (zad (zbQ (zig hu (zaa 11) (zaq GLPower zcn hr rfl LPower.mg LPower.fn.kp LPower.bd (zab (zaa 1) (zab (zsT rfl rfl B.sum (zab (zaa 3) zae)) zae)))) (zaf (zan zhW)) zaH)
   (zad (zai (i:=13) nd rfl (Or.inl rfl) (zaq GBound zlt hr rfl Bound.mg Bound.fn.kp Bound.bd (zab (zaa 0) (zab (zaa 8) zae))))
   (zad (zbQ (PuW.t (zeo (zcN (zcy (zgz (K:=K) rfl rfl B.isi (zab (zaa 13) (zab (zkZ rfl B.tuple zmB) zae))))) (zeo (zig hu (zaU rfl B.len (zab (zaa 13) zae)) zag) (zeo (zcN (zcy (zaq GWhole zfb hr rfl Whole.mg Whole.fn.kp Whole.bd (zab (zao (zaa 13) zag) zae)))) (zdR (zcN (zcy (zaq GWhole zfb hr rfl Whole.mg Whole.fn.kp Whole.bd (zab (zao (zaa 13) zag) zae))))))))) (zaf (zan zhW)) zaH)
   (zaf (zan (zsx hu (zaa 13) (zdI (zab (zaa 2) (zab (zaq GLPower zcn hr rfl LPower.mg LPower.fn.kp LPower.bd (zab (zaa 11) (zab (zaa 2) zae))) zae)))))))))))))))))),λds Q h=>?_⟩
 obtain⟨sh,m0,rfl,S,hm1,hm4,q⟩:=h;have hsz:=sizeLine_eq;show Hold (pSeq _ (r2 K)) (zba Q) _;refine seqK λN hNx=>?_;walk_at "go";refine⟨sh,rfl,S,λL hN h D=>⟨_,rfl,rfl,_,_,rfl,_,_,rfl,_,_,rfl,rfl,hNx _ ?_⟩⟩;have T:=tells D (zdH S hN);rw[<- T.d,zpO T];exact s2 S D hm1 hm4 q
end
noncomputable def fLaw:PF:=λds Q=>∃ns:List Int,ds=[.lst (ns.map PV.int)]/\ns.length<=63/\Q (.bl true) .frz
theorem zph:zaX fLaw:=λds Q Q' m q207q=>by obtain⟨ns,e,h,q⟩:=q207q;exact⟨ns,e,h,m _ _ q⟩
theorem zpi (xs:List PV)(k:Nat):cutP xs none (some (k:Int))=xs.take k:=by
 unfold cutP;have h1:_H.sIx xs.length 0 none=0:=rfl;rw[h1,List.drop_zero,Nat.sub_zero];by_cases h:k<=xs.length
 ·have:_H.sIx xs.length xs.length (some (k:Int))=k:=by rw[_H.zdQ];lia
  rw[this]
 ·have:_H.sIx xs.length xs.length (some (k:Int))=xs.length:=by rw[_H.zdQ];lia
  rw[this,XY,XJ (by lia)]
section
variable {P:Program}{w:World}{K:Xa}{mg:Str->Option Value}{base:Heap}
theorem ztv:zap ["_law_script","_law_cells","_law_at","_law_many","_law_shape_here"] ["_law_script"] (zac sLaw):=⟨rfl,rfl,rfl,by decide +kernel,rfl,by decide +kernel,by decide +kernel⟩
theorem ztw {f f1 f2 f4:Addr}{fd fd1 fd2 fd4:FuncData}(F:Fun K "law" "law" sLaw f fd) (Shape:Fx K mg "_law_shape" zeJ ["_law_head","_law_cells"] f1 fd1) (GShape:FnOk P w K mg base CX0 6 f1 fd1 ["_law_head","_law_cells"] (spP K zdO)) (FilledUp:Fx K mg "_law_filled_up" zbC ["_law_cells","_law_at","_law_many"] f2 fd2) (GFilledUp:FnOk P w K mg base CX0 6 f2 fd2 ["_law_cells","_law_at","_law_many"] (spP K zbE))
  (Right:Fx K mg "_law_right" zeK ["_law_shape_here","_law_m"] f4 fd4) (GRight:FnOk P w K mg base CX0 6 f4 fd4 ["_law_shape_here","_law_m"] (spP K zgf)) (B:Bl mg):FnOk P w K mg base CX0 7 f fd ["_law_script"] (spP K fLaw):=by
 refine zaw F ztv (λds Q q208q=>by obtain⟨a,e,_⟩:=q208q;rw[e];rfl) (λcdv A outer s H E hr=>?_);have hu:(A.deeper (envOfC "law" (zac sLaw) s.heap.objs.size f cdv)).units+16<cLine:=by have q:=hr.units;lia
 have nd:=ztv.nd;refine⟨_,(zad (zai (i:=1) nd rfl (Or.inl rfl) (zdp (zcQ (zaa 0) zex (zby zag)) (zbF (zab zag zae))))
   (zad (zai (i:=2) nd rfl (Or.inl rfl) zag)
   (zad (zbw 1 (zdn PassesOwn.never (zjT (zaa 2) (zaU rfl B.len (zab (zaa 1) zae))) (zad (zai (i:=3) nd rfl (Or.inl rfl) (zbO zag (zbq (zao (zaa 1) (zaa 2)) zag)))
   (zad (zai (i:=4) nd rfl (Or.inl rfl) (zaq GShape zlq hr rfl Shape.mg Shape.fn.kp Shape.bd (zab (zao (zaa 1) (zaa 2)) (zab (zaq GFilledUp zhw hr rfl FilledUp.mg FilledUp.fn.kp FilledUp.bd (zab (zaa 1) (zab (zbO (zaa 2) zag) (zab (zaa 3) zae)))) zae))))
   (zad (zbw 4 (zbQ (zcN (zcy (zaq GRight zlv hr rfl Right.mg Right.fn.kp Right.bd (zab (zaa 4) (zab (zbO zag (zbq (zem (zao (zaa 1) (zaa 2)) zag) zag)) zae))))) (zaf (zan zhW)) zaH))
   (zaf (zai (i:=2) nd rfl (Or.inl rfl) (zbO (zbO (zaa 2) zag) (zaa 3)))))))))
   (zaf (zan zhW))))),λds Q h=>?_⟩
 obtain⟨ns,rfl,hns,q⟩:=h;have hsz:=sizeLine_eq;walk_at "pu";obtain⟨cs,hcs,hcl⟩:∃cs:List Int,cutP (ns.map PV.int) none (some 40)=cs.map PV.int/\cs.length<=63:=by
  have e:cutP (ns.map PV.int) none (some 40)=((ns.map PV.int).take 40):=zpi _ 40;exact⟨ns.take 40,by rw[e,List.map_take],by rw[XR];lia⟩
 rw[hcs,show cs.map PV.int++[PV.int 0]=(cs++[0]).map PV.int by rw[Xk];rfl];have hdl:(cs++[(0:Int)]).length<=64:=by rw[Xq,YF];lia
 generalize cs++[(0:Int)]=ds at hdl;refine⟨by lia,by rw[Xb];lia,?_⟩;walk_at "go";walk_at "auto";obtain⟨Iv,hIv⟩:∃Iv:Nat->PEnv->Prop,∀m ρ,Iv m ρ↔∃(a:Nat) (v3 v4:Option (PV×Bool)),ρ=[some (PV.lst (ns.map PV.int),false),some (PV.lst (ds.map PV.int),false),some (PV.int a,false),v3,v4]/\m=ds.length-a:=⟨_,λ_ _=>Iff.rfl⟩;refine⟨Iv,⟨_,(hIv _ _).mpr ⟨0,_,_,rfl,rfl⟩⟩,?_⟩;intro m ρ hI;obtain⟨a,v3,v4,rfl,rfl⟩:=(hIv _ _).mp hI;walk_at "go";rw[Xb];refine ite2 (λhlt=>?_) (λhge=>?_)
 ·have hal:a<ds.length:=by lia
  have n1:=Ym ds[a] (show(6:Int)≠0 by decide);have n2:=Yj ds[a] (show(0:Int)<6 by decide);walk_at "go";refine⟨_,cget hal rfl,_,rfl,by decide,?_⟩;obtain⟨mn,hmn⟩:∃mn:Nat,1+ds[a] % 6=mn:=⟨(1+ds[a] % 6).toNat,by lia⟩;rw[hmn];walk_at "go";refine⟨_,cget hal rfl,⟨ds,rfl⟩,by lia,by lia,by lia,by lia,λzs hz=>⟨⟨_,rfl⟩,zs,rfl,by lia,by lia,λsh S=>?_⟩⟩;refine(λ(key:∀bb:Bool,Hold (pSeq _ _) _ [_,_,_,_,some (PV.lst (List.map ltsP sh),bb)])=>⟨key true,key false⟩) ?_;intro bb;have p1:=Ym (ds[a] / 18) (show(4:Int)≠0 by decide);have p2:=Yj (ds[a] / 18) (show(0:Int)<4 by decide);obtain⟨mm,hmm⟩:∃mm:Nat,1+ds[a] / 18 % 4=mm:=⟨(1+ds[a] / 18 % 4).toNat,by lia⟩;have e:((a:Int)+1+(mn:Int))=((a+1+mn:Nat):Int):=by lia
  refine seqK λN hN=>(λ(fin:N [some (PV.lst (ns.map PV.int),false),some (PV.lst (ds.map PV.int),false),some (PV.int a,false),some (PV.int mn,false),some (PV.lst (sh.map ltsP),false)])=>?_) (hN _ ?_)
  ·cases bb
   ·walk_at "go";refine⟨_,cget hal rfl,_,rfl,⟨by decide,by decide⟩,by decide,sh,rfl,mm,hmm,S,by lia,by lia,fin⟩
   ·walk_at "go";refine⟨_,cget hal rfl,_,rfl,⟨by decide,by decide⟩,by decide,sh,rfl,mm,hmm,S,by lia,by lia,fin⟩
  ·walk_at "go";rw[e];exact⟨_,(by lia:ds.length-(a+1+mn)<ds.length-a),(hIv _ _).mpr ⟨_,_,_,rfl,rfl⟩⟩
 ·walk_at "go";exact q
end
theorem zpj:∀ns:List Int,ns.length<=63->fLaw [.lst (ns.map PV.int)] λd k=>d=.bl true:=λns h=>⟨ns,rfl,h,rfl⟩
noncomputable def see (K:Xa):List _HK.Seen×List (Option (Option Value))×List Bool×Bool×Bool×Bool×Bool×Bool×Option (Option Value)×Option (Option Value)×Option (Option Value)×Option (Option Value)×Option (Option Value):=
  ([_HK.zaz K (Xc K mainGlobals "letters_of"),_HK.zaz K (Xc K mainGlobals "first_lines"),_HK.zaz K (Xc K mainGlobals "greatest_divisor"),_HK.zaz K (Xc K mainGlobals "weights"),_HK.zaz K (Xc K mainGlobals "power"),_HK.zaz K (Xc K mainGlobals "bound"),_HK.zaz K (Xc K mainGlobals "all_rows"),_HK.zaz K (Xc K mainGlobals "filled"),_HK.zaz K (Xc K mainGlobals "_law_whole"),_HK.zaz K (Xc K mainGlobals "_law_mixed"),_HK.zaz K (Xc K mainGlobals "_law_picked"),_HK.zaz K (Xc K mainGlobals "_law_alphabet"),_HK.zaz K (Xc K mainGlobals "_law_any"),_HK.zaz K (Xc K mainGlobals "_law_ring"),_HK.zaz K (Xc K mainGlobals "_law_tree"),_HK.zaz K (Xc K mainGlobals "_law_shape"),_HK.zaz K (Xc K mainGlobals "_law_filled_up"),_HK.zaz K (Xc K mainGlobals "_law_letters"),_HK.zaz K (Xc K mainGlobals "_law_power"),_HK.zaz K (Xc K mainGlobals "_law_grid"),_HK.zaz K (Xc K mainGlobals "_law_is_lines"),_HK.zaz K (Xc K mainGlobals "_law_right"),_HK.zaz K (Xc K mainGlobals "law"),_HK.zaz K (Xt K (.ref (_HK.ref? (Xc K mainGlobals "Board"))) "__init__"),_HK.zaz K (Xt K (.ref (_HK.ref? (Xc K mainGlobals "Board"))) "column_to_raise"),_HK.zaz K (Xt K (.ref (_HK.ref? (Xc K mainGlobals "Board"))) "ends_sooner"),_HK.zaz K (Xt K (.ref (_HK.ref? (Xc K mainGlobals "Board"))) "line_that_ends"),_HK.zaz K (Xt K (.ref (_HK.ref? (Xc K mainGlobals "Board"))) "without"),_HK.zaz K (Xt K (.ref (_HK.ref? (Xc K mainGlobals "Board"))) "turn"),_HK.zaz K (Xt K (.ref (_HK.ref? (Xc K mainGlobals "Board"))) "settle"),_HK.zaz K (Xt K (.ref (_HK.ref? (Xc K mainGlobals "Board"))) "price"),_HK.zaz K (Xt K (.ref (_HK.ref? (Xc K mainGlobals "Board"))) "prices"),_HK.zaz K (Xt K (.ref (_HK.ref? (Xc K mainGlobals "Board"))) "worths")],
   [Xc K mainGlobals "range",Xc K mainGlobals "len",Xc K mainGlobals "list",Xc K mainGlobals "tuple",Xc K mainGlobals "sorted",Xc K mainGlobals "set",Xc K mainGlobals "isinstance",Xc K mainGlobals "str",Xc K mainGlobals "int",Xc K mainGlobals "bool",Xc K mainGlobals "dict",Xc K mainGlobals "enumerate",Xc K mainGlobals "zip",Xc K mainGlobals "min",Xc K mainGlobals "max",Xc K mainGlobals "sum",Xc K mainGlobals "all",Xc K mainGlobals "any",Xc K mainGlobals "reversed",Xc K mainGlobals "abs",Xc K mainGlobals "ord"],
   [_HK.isRef (Xc K mainGlobals "Board")],
   PySem.W.makesIn K (_HK.ref? (Xc K mainGlobals "Board")),
   YJ K (.ref (_HK.ref? (Xc K mainGlobals "Board"))),
   PySem.W.plainGet K (_HK.ref? (Xc K mainGlobals "Board")) Str.empty,
   PySem.W.hasDictIn K (_HK.ref? (Xc K mainGlobals "Board")),
   PySem.W.plainOver K (_HK.ref? (Xc K mainGlobals "Board")),
   Xt K (.ref (_HK.ref? (Xc K mainGlobals "Board"))) "__setattr__",
   Xt K (.ref (_HK.ref? (Xc K mainGlobals "Board"))) "width",
   Xt K (.ref (_HK.ref? (Xc K mainGlobals "Board"))) "bottom",
   Xt K (.ref (_HK.ref? (Xc K mainGlobals "Board"))) "lines",
   Xt K (.ref (_HK.ref? (Xc K mainGlobals "Board"))) "held")
noncomputable def told:List _HK.Seen×List (Option (Option Value))×List Bool×Bool×Bool×Bool×Bool×Bool×Option (Option Value)×Option (Option Value)×Option (Option Value)×Option (Option Value)×Option (Option Value):=
  ([_HK.zaA "letters_of" "letters_of" (zam zaR) (zal zaR) (zac zaR),_HK.zaA "first_lines" "first_lines" (zam zax) (zal zax) (zac zax),_HK.zaA "greatest_divisor" "greatest_divisor" (zam sGcd) (zal sGcd) (zac sGcd),_HK.zaA "weights" "weights" (zam zbf) (zal zbf) (zac zbf),_HK.zaA "power" "power" (zam zdJ) (zal zdJ) (zac zdJ),_HK.zaA "bound" "bound" (zam zeI) (zal zeI) (zac zeI),_HK.zaA "all_rows" "all_rows" (zam zbM) (zal zbM) (zac zbM),_HK.zaA "filled" "filled" (zam zcl) (zal zcl) (zac zcl),_HK.zaA "_law_whole" "_law_whole" (zam zdK) (zal zdK) (zac zdK),_HK.zaA "_law_mixed" "_law_mixed" (zam zcv) (zal zcv) (zac zcv),_HK.zaA "_law_picked" "_law_picked" (zam zbU) (zal zbU) (zac zbU),_HK.zaA "_law_alphabet" "_law_alphabet" (zam zbB) (zal zbB) (zac zbB),_HK.zaA "_law_any" "_law_any" (zam sAny) (zal sAny) (zac sAny),_HK.zaA "_law_ring" "_law_ring" (zam zgl) (zal zgl) (zac zgl),_HK.zaA "_law_tree" "_law_tree" (zam zhq) (zal zhq) (zac zhq),_HK.zaA "_law_shape" "_law_shape" (zam zeJ) (zal zeJ) (zac zeJ),_HK.zaA "_law_filled_up" "_law_filled_up" (zam zbC) (zal zbC) (zac zbC),_HK.zaA "_law_letters" "_law_letters" (zam zcb) (zal zcb) (zac zcb),_HK.zaA "_law_power" "_law_power" (zam zcT) (zal zcT) (zac zcT),_HK.zaA "_law_grid" "_law_grid" (zam zgm) (zal zgm) (zac zgm),_HK.zaA "_law_is_lines" "_law_is_lines" (zam zbN) (zal zbN) (zac zbN),_HK.zaA "_law_right" "_law_right" (zam zeK) (zal zeK) (zac zeK),_HK.zaA "law" "law" (zam sLaw) (zal sLaw) (zac sLaw),_HK.zaA "__init__" "Board.__init__" (zam zdL) (zal zdL) (zac zdL),_HK.zaA "column_to_raise" "Board.column_to_raise" (zam sCol) (zal sCol) (zac sCol),_HK.zaA "ends_sooner" "Board.ends_sooner" (zam zcm) (zal zcm) (zac zcm),_HK.zaA "line_that_ends" "Board.line_that_ends" (zam zgn) (zal zgn) (zac zgn),_HK.zaA "without" "Board.without" (zam zbl) (zal zbl) (zac zbl),_HK.zaA "turn" "Board.turn" (zam zfU) (zal zfU) (zac zfU),_HK.zaA "settle" "Board.settle" (zam zcU) (zal zcU) (zac zcU),_HK.zaA "price" "Board.price" (zam zdM) (zal zdM) (zac zdM),_HK.zaA "prices" "Board.prices" (zam zcD) (zal zcD) (zac zcD),_HK.zaA "worths" "Board.worths" (zam zcV) (zal zcV) (zac zcV)],
   [some none,some none,some none,some none,some none,some none,some none,some none,some none,some none,some none,some none,some none,some none,some none,some none,some none,some none,some none,some none,some none],
   [true],
   true,
   true,
   true,
   true,
   true,
   some (some (.builtin "object.__setattr__")),
   some none,
   some none,
   some none,
   some none)
theorem len1 {us:List Value}{s0:Str}(h:us.length=[s0].length):∃a0,us=[a0]:=by obtain⟨a0,us,rfl⟩:=Xz h;have h:=Nat.succ.inj h;rw[XW.mp h];exact⟨a0,rfl⟩
theorem len2 {us:List Value}{s0 s1:Str}(h:us.length=[s0,s1].length):∃a0 a1,us=[a0,a1]:=by obtain⟨a0,us,rfl⟩:=Xz h;have h:=Nat.succ.inj h;obtain⟨a1,us,rfl⟩:=Xz h;have h:=Nat.succ.inj h;rw[XW.mp h];exact⟨a0,a1,rfl⟩
theorem len3 {us:List Value}{s0 s1 s2:Str}(h:us.length=[s0,s1,s2].length):∃a0 a1 a2,us=[a0,a1,a2]:=by obtain⟨a0,us,rfl⟩:=Xz h;have h:=Nat.succ.inj h;obtain⟨a1,us,rfl⟩:=Xz h;have h:=Nat.succ.inj h;obtain⟨a2,us,rfl⟩:=Xz h;have h:=Nat.succ.inj h;rw[XW.mp h];exact⟨a0,a1,a2,rfl⟩
theorem len4 {us:List Value}{s0 s1 s2 s3:Str}(h:us.length=[s0,s1,s2,s3].length):∃a0 a1 a2 a3,us=[a0,a1,a2,a3]:=by obtain⟨a0,us,rfl⟩:=Xz h;have h:=Nat.succ.inj h;obtain⟨a1,us,rfl⟩:=Xz h;have h:=Nat.succ.inj h;obtain⟨a2,us,rfl⟩:=Xz h;have h:=Nat.succ.inj h;obtain⟨a3,us,rfl⟩:=Xz h;have h:=Nat.succ.inj h;rw[XW.mp h];exact⟨a0,a1,a2,a3,rfl⟩
theorem all_mk {l:PySem.W.OpenLaw}{w:World}{K:Xa}{h:Heap}{mg:Str->Option Value}{fa:Addr}(E:see K=told)(X:K.In h)(G:h.Ns mainGlobals mg)(hfa:mg "law" = some (.ref fa)) :
  ∃fd:FuncData,(∀(s:Shared) (v:Value),BindsTo s fd ⟨[v],[]⟩ [("_law_script",v)])/\∀base:Heap,K.In base->base.Ns mainGlobals mg->FnOk l.prog w K mg base CX0 7 fa fd ["_law_script"] (spP K fLaw):=by
 have e1:=congrArg Prod.fst (E);have e2:=congrArg Prod.fst (congrArg Prod.snd (E));have e3:=congrArg Prod.fst (congrArg Prod.snd (congrArg Prod.snd (E)));have mk0:=congrArg Prod.fst (congrArg Prod.snd (congrArg Prod.snd (congrArg Prod.snd (E))));have kc0:=congrArg Prod.fst (congrArg Prod.snd (congrArg Prod.snd (congrArg Prod.snd (congrArg Prod.snd (E)))));have tc1:=congrArg Prod.fst (congrArg Prod.snd (congrArg Prod.snd (congrArg Prod.snd (congrArg Prod.snd (congrArg Prod.snd (E))))));have tc2:=congrArg Prod.fst (congrArg Prod.snd (congrArg Prod.snd (congrArg Prod.snd (congrArg Prod.snd (congrArg Prod.snd (congrArg Prod.snd (E)))))));have tc3:=congrArg Prod.fst (congrArg Prod.snd (congrArg Prod.snd (congrArg Prod.snd (congrArg Prod.snd (congrArg Prod.snd (congrArg Prod.snd (congrArg Prod.snd (E))))))));have tc4:=congrArg Prod.fst (congrArg Prod.snd (congrArg Prod.snd (congrArg Prod.snd (congrArg Prod.snd (congrArg Prod.snd (congrArg Prod.snd (congrArg Prod.snd (congrArg Prod.snd (E)))))))));have t_width:=congrArg Prod.fst (congrArg Prod.snd (congrArg Prod.snd (congrArg Prod.snd (congrArg Prod.snd (congrArg Prod.snd (congrArg Prod.snd (congrArg Prod.snd (congrArg Prod.snd (congrArg Prod.snd (E))))))))));have t_bottom:=congrArg Prod.fst (congrArg Prod.snd (congrArg Prod.snd (congrArg Prod.snd (congrArg Prod.snd (congrArg Prod.snd (congrArg Prod.snd (congrArg Prod.snd (congrArg Prod.snd (congrArg Prod.snd (congrArg Prod.snd (E)))))))))));have t_lines:=congrArg Prod.fst (congrArg Prod.snd (congrArg Prod.snd (congrArg Prod.snd (congrArg Prod.snd (congrArg Prod.snd (congrArg Prod.snd (congrArg Prod.snd (congrArg Prod.snd (congrArg Prod.snd (congrArg Prod.snd (congrArg Prod.snd (E))))))))))));have t_held:=congrArg Prod.snd (congrArg Prod.snd (congrArg Prod.snd (congrArg Prod.snd (congrArg Prod.snd (congrArg Prod.snd (congrArg Prod.snd (congrArg Prod.snd (congrArg Prod.snd (congrArg Prod.snd (congrArg Prod.snd (congrArg Prod.snd (E))))))))))));replace mk0:PySem.W.makesIn K (_HK.ref? (Xc K mainGlobals "Board"))=true:=mk0;replace kc0:YJ K (.ref (_HK.ref? (Xc K mainGlobals "Board")))=true:=kc0;replace tc1:PySem.W.plainGet K (_HK.ref? (Xc K mainGlobals "Board")) Str.empty=true:=tc1;replace tc2:PySem.W.hasDictIn K (_HK.ref? (Xc K mainGlobals "Board"))=true:=tc2;replace tc3:PySem.W.plainOver K (_HK.ref? (Xc K mainGlobals "Board"))=true:=tc3;replace tc4:Xt K (.ref (_HK.ref? (Xc K mainGlobals "Board"))) "__setattr__" = some (some (.builtin "object.__setattr__")):=tc4;replace t_width:Xt K (.ref (_HK.ref? (Xc K mainGlobals "Board"))) "width" = some none:=t_width;replace t_bottom:Xt K (.ref (_HK.ref? (Xc K mainGlobals "Board"))) "bottom" = some none:=t_bottom;replace t_lines:Xt K (.ref (_HK.ref? (Xc K mainGlobals "Board"))) "lines" = some none:=t_lines;replace t_held:Xt K (.ref (_HK.ref? (Xc K mainGlobals "Board"))) "held" = some none:=t_held;have y0:=_HK.ztg (v:=Xc K mainGlobals "Board") (Option.some.inj (_HK.pick e3 0));have D0:_HK.Def K "letters_of" "letters_of" zaR (Xc K mainGlobals "letters_of"):=_HK.zaD (Option.some.inj (_HK.pick e1 0));have X0:Fx K mg "letters_of" zaR ["shape"] _ _:=⟨D0.fn,D0.fn.binds (ps:=["shape"]) λ_ _ _ _ _ _ us hl=>by obtain⟨_,rfl⟩:=len1 hl;rfl,XH X G D0.ad⟩;have D1:_HK.Def K "first_lines" "first_lines" zax (Xc K mainGlobals "first_lines"):=_HK.zaD (Option.some.inj (_HK.pick e1 1));have X1:Fx K mg "first_lines" zax ["shape","letters"] _ _:=⟨D1.fn,D1.fn.binds (ps:=["shape","letters"]) λ_ _ _ _ _ _ us hl=>by obtain⟨_,_,rfl⟩:=len2 hl;rfl,XH X G D1.ad⟩;have D2:_HK.Def K "greatest_divisor" "greatest_divisor" sGcd (Xc K mainGlobals "greatest_divisor"):=_HK.zaD (Option.some.inj (_HK.pick e1 2));have X2:Fx K mg "greatest_divisor" sGcd ["numbers"] _ _:=⟨D2.fn,D2.fn.binds (ps:=["numbers"]) λ_ _ _ _ _ _ us hl=>by obtain⟨_,rfl⟩:=len1 hl;rfl,XH X G D2.ad⟩;have D3:_HK.Def K "weights" "weights" zbf (Xc K mainGlobals "weights"):=_HK.zaD (Option.some.inj (_HK.pick e1 3));have X3:Fx K mg "weights" zbf ["shape"] _ _:=⟨D3.fn,D3.fn.binds (ps:=["shape"]) λ_ _ _ _ _ _ us hl=>by obtain⟨_,rfl⟩:=len1 hl;rfl,XH X G D3.ad⟩;have D4:_HK.Def K "power" "power" zdJ (Xc K mainGlobals "power"):=_HK.zaD (Option.some.inj (_HK.pick e1 4));have X4:Fx K mg "power" zdJ ["base","exponent"] _ _:=⟨D4.fn,D4.fn.binds (ps:=["base","exponent"]) λ_ _ _ _ _ _ us hl=>by obtain⟨_,_,rfl⟩:=len2 hl;rfl,XH X G D4.ad⟩;have D5:_HK.Def K "bound" "bound" zeI (Xc K mainGlobals "bound"):=_HK.zaD (Option.some.inj (_HK.pick e1 5));have X5:Fx K mg "bound" zeI ["shape","rows"] _ _:=⟨D5.fn,D5.fn.binds (ps:=["shape","rows"]) λ_ _ _ _ _ _ us hl=>by obtain⟨_,_,rfl⟩:=len2 hl;rfl,XH X G D5.ad⟩;have D6:_HK.Def K "all_rows" "all_rows" zbM (Xc K mainGlobals "all_rows"):=_HK.zaD (Option.some.inj (_HK.pick e1 6));have X6:Fx K mg "all_rows" zbM ["sizes"] _ _:=⟨D6.fn,D6.fn.binds (ps:=["sizes"]) λ_ _ _ _ _ _ us hl=>by obtain⟨_,rfl⟩:=len1 hl;rfl,XH X G D6.ad⟩;have D7:_HK.Def K "filled" "filled" zcl (Xc K mainGlobals "filled"):=_HK.zaD (Option.some.inj (_HK.pick e1 7));have X7:Fx K mg "filled" zcl ["shape","m"] _ _:=⟨D7.fn,D7.fn.binds (ps:=["shape","m"]) λ_ _ _ _ _ _ us hl=>by obtain⟨_,_,rfl⟩:=len2 hl;rfl,XH X G D7.ad⟩;have D8:_HK.Def K "_law_whole" "_law_whole" zdK (Xc K mainGlobals "_law_whole"):=_HK.zaD (Option.some.inj (_HK.pick e1 8));have X8:Fx K mg "_law_whole" zdK ["_law_found"] _ _:=⟨D8.fn,D8.fn.binds (ps:=["_law_found"]) λ_ _ _ _ _ _ us hl=>by obtain⟨_,rfl⟩:=len1 hl;rfl,XH X G D8.ad⟩;have D9:_HK.Def K "_law_mixed" "_law_mixed" zcv (Xc K mainGlobals "_law_mixed"):=_HK.zaD (Option.some.inj (_HK.pick e1 9));have X9:Fx K mg "_law_mixed" zcv ["_law_cell","_law_k"] _ _:=⟨D9.fn,D9.fn.binds (ps:=["_law_cell","_law_k"]) λ_ _ _ _ _ _ us hl=>by obtain⟨_,_,rfl⟩:=len2 hl;rfl,XH X G D9.ad⟩;have D10:_HK.Def K "_law_picked" "_law_picked" zbU (Xc K mainGlobals "_law_picked"):=_HK.zaD (Option.some.inj (_HK.pick e1 10));have X10:Fx K mg "_law_picked" zbU ["_law_cell","_law_some","_law_many"] _ _:=⟨D10.fn,D10.fn.binds (ps:=["_law_cell","_law_some","_law_many"]) λ_ _ _ _ _ _ us hl=>by obtain⟨_,_,_,rfl⟩:=len3 hl;rfl,XH X G D10.ad⟩;have D11:_HK.Def K "_law_alphabet" "_law_alphabet" zbB (Xc K mainGlobals "_law_alphabet"):=_HK.zaD (Option.some.inj (_HK.pick e1 11));have X11:Fx K mg "_law_alphabet" zbB ["_law_cell"] _ _:=⟨D11.fn,D11.fn.binds (ps:=["_law_cell"]) λ_ _ _ _ _ _ us hl=>by obtain⟨_,rfl⟩:=len1 hl;rfl,XH X G D11.ad⟩;have D12:_HK.Def K "_law_any" "_law_any" sAny (Xc K mainGlobals "_law_any"):=_HK.zaD (Option.some.inj (_HK.pick e1 12));have X12:Fx K mg "_law_any" sAny ["_law_cells","_law_letters_here"] _ _:=⟨D12.fn,D12.fn.binds (ps:=["_law_cells","_law_letters_here"]) λ_ _ _ _ _ _ us hl=>by obtain⟨_,_,rfl⟩:=len2 hl;rfl,XH X G D12.ad⟩;have D13:_HK.Def K "_law_ring" "_law_ring" zgl (Xc K mainGlobals "_law_ring"):=_HK.zaD (Option.some.inj (_HK.pick e1 13));have X13:Fx K mg "_law_ring" zgl ["_law_cells","_law_letters_here"] _ _:=⟨D13.fn,D13.fn.binds (ps:=["_law_cells","_law_letters_here"]) λ_ _ _ _ _ _ us hl=>by obtain⟨_,_,rfl⟩:=len2 hl;rfl,XH X G D13.ad⟩;have D14:_HK.Def K "_law_tree" "_law_tree" zhq (Xc K mainGlobals "_law_tree"):=_HK.zaD (Option.some.inj (_HK.pick e1 14));have X14:Fx K mg "_law_tree" zhq ["_law_cells","_law_letters_here"] _ _:=⟨D14.fn,D14.fn.binds (ps:=["_law_cells","_law_letters_here"]) λ_ _ _ _ _ _ us hl=>by obtain⟨_,_,rfl⟩:=len2 hl;rfl,XH X G D14.ad⟩;have D15:_HK.Def K "_law_shape" "_law_shape" zeJ (Xc K mainGlobals "_law_shape"):=_HK.zaD (Option.some.inj (_HK.pick e1 15));have X15:Fx K mg "_law_shape" zeJ ["_law_head","_law_cells"] _ _:=⟨D15.fn,D15.fn.binds (ps:=["_law_head","_law_cells"]) λ_ _ _ _ _ _ us hl=>by obtain⟨_,_,rfl⟩:=len2 hl;rfl,XH X G D15.ad⟩;have D16:_HK.Def K "_law_filled_up" "_law_filled_up" zbC (Xc K mainGlobals "_law_filled_up"):=_HK.zaD (Option.some.inj (_HK.pick e1 16));have X16:Fx K mg "_law_filled_up" zbC ["_law_cells","_law_at","_law_many"] _ _:=⟨D16.fn,D16.fn.binds (ps:=["_law_cells","_law_at","_law_many"]) λ_ _ _ _ _ _ us hl=>by obtain⟨_,_,_,rfl⟩:=len3 hl;rfl,XH X G D16.ad⟩;have D17:_HK.Def K "_law_letters" "_law_letters" zcb (Xc K mainGlobals "_law_letters"):=_HK.zaD (Option.some.inj (_HK.pick e1 17));have X17:Fx K mg "_law_letters" zcb ["_law_shape_here"] _ _:=⟨D17.fn,D17.fn.binds (ps:=["_law_shape_here"]) λ_ _ _ _ _ _ us hl=>by obtain⟨_,rfl⟩:=len1 hl;rfl,XH X G D17.ad⟩;have D18:_HK.Def K "_law_power" "_law_power" zcT (Xc K mainGlobals "_law_power"):=_HK.zaD (Option.some.inj (_HK.pick e1 18));have X18:Fx K mg "_law_power" zcT ["_law_number","_law_times"] _ _:=⟨D18.fn,D18.fn.binds (ps:=["_law_number","_law_times"]) λ_ _ _ _ _ _ us hl=>by obtain⟨_,_,rfl⟩:=len2 hl;rfl,XH X G D18.ad⟩;have D19:_HK.Def K "_law_grid" "_law_grid" zgm (Xc K mainGlobals "_law_grid"):=_HK.zaD (Option.some.inj (_HK.pick e1 19));have X19:Fx K mg "_law_grid" zgm ["_law_pattern","_law_sizes"] _ _:=⟨D19.fn,D19.fn.binds (ps:=["_law_pattern","_law_sizes"]) λ_ _ _ _ _ _ us hl=>by obtain⟨_,_,rfl⟩:=len2 hl;rfl,XH X G D19.ad⟩;have D20:_HK.Def K "_law_is_lines" "_law_is_lines" zbN (Xc K mainGlobals "_law_is_lines"):=_HK.zaD (Option.some.inj (_HK.pick e1 20));have X20:Fx K mg "_law_is_lines" zbN ["_law_found","_law_due"] _ _:=⟨D20.fn,D20.fn.binds (ps:=["_law_found","_law_due"]) λ_ _ _ _ _ _ us hl=>by obtain⟨_,_,rfl⟩:=len2 hl;rfl,XH X G D20.ad⟩;have D21:_HK.Def K "_law_right" "_law_right" zeK (Xc K mainGlobals "_law_right"):=_HK.zaD (Option.some.inj (_HK.pick e1 21));have X21:Fx K mg "_law_right" zeK ["_law_shape_here","_law_m"] _ _:=⟨D21.fn,D21.fn.binds (ps:=["_law_shape_here","_law_m"]) λ_ _ _ _ _ _ us hl=>by obtain⟨_,_,rfl⟩:=len2 hl;rfl,XH X G D21.ad⟩;have D23:_HK.Def K "__init__" "Board.__init__" zdL (Xt K (.ref (_HK.ref? (Xc K mainGlobals "Board"))) "__init__"):=_HK.zaD (Option.some.inj (_HK.pick e1 23));have X23:Ix K mg (_HK.ref? (Xc K mainGlobals "Board")) "Board" "Board.__init__" zdL ["self","shape"] _ _:=⟨D23.fn,D23.fn.binds (ps:=["self","shape"]) λ_ _ _ _ _ _ us hl=>by obtain⟨_,_,rfl⟩:=len2 hl;rfl,⟨mk0,D23.ad,D23.is,kc0⟩,XH X G y0⟩;have D24:_HK.Def K "column_to_raise" "Board.column_to_raise" sCol (Xt K (.ref (_HK.ref? (Xc K mainGlobals "Board"))) "column_to_raise"):=_HK.zaD (Option.some.inj (_HK.pick e1 24));have X24:Mx K (_HK.ref? (Xc K mainGlobals "Board")) "column_to_raise" "Board.column_to_raise" sCol ["self"] _ _:=⟨D24.fn,D24.fn.binds (ps:=["self"]) λ_ _ _ _ _ _ us hl=>by obtain⟨_,rfl⟩:=len1 hl;rfl,⟨D24.ad,D24.is,D24.kp⟩⟩;have D25:_HK.Def K "ends_sooner" "Board.ends_sooner" zcm (Xt K (.ref (_HK.ref? (Xc K mainGlobals "Board"))) "ends_sooner"):=_HK.zaD (Option.some.inj (_HK.pick e1 25));have X25:Mx K (_HK.ref? (Xc K mainGlobals "Board")) "ends_sooner" "Board.ends_sooner" zcm ["self","i","j","column"] _ _:=⟨D25.fn,D25.fn.binds (ps:=["self","i","j","column"]) λ_ _ _ _ _ _ us hl=>by obtain⟨_,_,_,_,rfl⟩:=len4 hl;rfl,⟨D25.ad,D25.is,D25.kp⟩⟩;have D26:_HK.Def K "line_that_ends" "Board.line_that_ends" zgn (Xt K (.ref (_HK.ref? (Xc K mainGlobals "Board"))) "line_that_ends"):=_HK.zaD (Option.some.inj (_HK.pick e1 26));have X26:Mx K (_HK.ref? (Xc K mainGlobals "Board")) "line_that_ends" "Board.line_that_ends" zgn ["self","column"] _ _:=⟨D26.fn,D26.fn.binds (ps:=["self","column"]) λ_ _ _ _ _ _ us hl=>by obtain⟨_,_,rfl⟩:=len2 hl;rfl,⟨D26.ad,D26.is,D26.kp⟩⟩;have D27:_HK.Def K "without" "Board.without" zbl (Xt K (.ref (_HK.ref? (Xc K mainGlobals "Board"))) "without"):=_HK.zaD (Option.some.inj (_HK.pick e1 27));have X27:Mx K (_HK.ref? (Xc K mainGlobals "Board")) "without" "Board.without" zbl ["self","line","turned","column"] _ _:=⟨D27.fn,D27.fn.binds (ps:=["self","line","turned","column"]) λ_ _ _ _ _ _ us hl=>by obtain⟨_,_,_,_,rfl⟩:=len4 hl;rfl,⟨D27.ad,D27.is,D27.kp⟩⟩;have D28:_HK.Def K "turn" "Board.turn" zfU (Xt K (.ref (_HK.ref? (Xc K mainGlobals "Board"))) "turn"):=_HK.zaD (Option.some.inj (_HK.pick e1 28));have X28:Mx K (_HK.ref? (Xc K mainGlobals "Board")) "turn" "Board.turn" zfU ["self","i","column"] _ _:=⟨D28.fn,D28.fn.binds (ps:=["self","i","column"]) λ_ _ _ _ _ _ us hl=>by obtain⟨_,_,_,rfl⟩:=len3 hl;rfl,⟨D28.ad,D28.is,D28.kp⟩⟩;have D29:_HK.Def K "settle" "Board.settle" zcU (Xt K (.ref (_HK.ref? (Xc K mainGlobals "Board"))) "settle"):=_HK.zaD (Option.some.inj (_HK.pick e1 29));have X29:Mx K (_HK.ref? (Xc K mainGlobals "Board")) "settle" "Board.settle" zcU ["self"] _ _:=⟨D29.fn,D29.fn.binds (ps:=["self"]) λ_ _ _ _ _ _ us hl=>by obtain⟨_,rfl⟩:=len1 hl;rfl,⟨D29.ad,D29.is,D29.kp⟩⟩;have D30:_HK.Def K "price" "Board.price" zdM (Xt K (.ref (_HK.ref? (Xc K mainGlobals "Board"))) "price"):=_HK.zaD (Option.some.inj (_HK.pick e1 30));have X30:Mx K (_HK.ref? (Xc K mainGlobals "Board")) "price" "Board.price" zdM ["self","column"] _ _:=⟨D30.fn,D30.fn.binds (ps:=["self","column"]) λ_ _ _ _ _ _ us hl=>by obtain⟨_,_,rfl⟩:=len2 hl;rfl,⟨D30.ad,D30.is,D30.kp⟩⟩;have D31:_HK.Def K "prices" "Board.prices" zcD (Xt K (.ref (_HK.ref? (Xc K mainGlobals "Board"))) "prices"):=_HK.zaD (Option.some.inj (_HK.pick e1 31));have X31:Mx K (_HK.ref? (Xc K mainGlobals "Board")) "prices" "Board.prices" zcD ["self"] _ _:=⟨D31.fn,D31.fn.binds (ps:=["self"]) λ_ _ _ _ _ _ us hl=>by obtain⟨_,rfl⟩:=len1 hl;rfl,⟨D31.ad,D31.is,D31.kp⟩⟩;have D32:_HK.Def K "worths" "Board.worths" zcV (Xt K (.ref (_HK.ref? (Xc K mainGlobals "Board"))) "worths"):=_HK.zaD (Option.some.inj (_HK.pick e1 32));have X32:Mx K (_HK.ref? (Xc K mainGlobals "Board")) "worths" "Board.worths" zcV ["self"] _ _:=⟨D32.fn,D32.fn.binds (ps:=["self"]) λ_ _ _ _ _ _ us hl=>by obtain⟨_,rfl⟩:=len1 hl;rfl,⟨D32.ad,D32.is,D32.kp⟩⟩;obtain⟨fl,oc,od,sl,kV,dc,pm,an,cd,ct,a,l,c,k,_⟩:=_HK.znZ (v:=Xc K mainGlobals "law") (n:="law") (q:="law") (a:=zam sLaw) (b:=zal sLaw) (c:=zac sLaw) (Option.some.inj (_HK.pick e1 22));cases hfa.symm.trans (XH X G a);have F22:=zpq (st:=sLaw) l c k;have B:Bl mg:=⟨XB X G (Option.some.inj (_HK.pick e2 0)),XB X G (Option.some.inj (_HK.pick e2 1)),XB X G (Option.some.inj (_HK.pick e2 2)),XB X G (Option.some.inj (_HK.pick e2 3)),XB X G (Option.some.inj (_HK.pick e2 4)),XB X G (Option.some.inj (_HK.pick e2 5)),XB X G (Option.some.inj (_HK.pick e2 6)),XB X G (Option.some.inj (_HK.pick e2 7)),XB X G (Option.some.inj (_HK.pick e2 8)),XB X G (Option.some.inj (_HK.pick e2 9)),XB X G (Option.some.inj (_HK.pick e2 10)),XB X G (Option.some.inj (_HK.pick e2 11)),XB X G (Option.some.inj (_HK.pick e2 12)),XB X G (Option.some.inj (_HK.pick e2 13)),XB X G (Option.some.inj (_HK.pick e2 14)),XB X G (Option.some.inj (_HK.pick e2 15)),XB X G (Option.some.inj (_HK.pick e2 16)),XB X G (Option.some.inj (_HK.pick e2 17)),XB X G (Option.some.inj (_HK.pick e2 18)),XB X G (Option.some.inj (_HK.pick e2 19)),XB X G (Option.some.inj (_HK.pick e2 20))⟩;have T:TF K (_HK.ref? (Xc K mainGlobals "Board")):=⟨⟨tc1,tc2,tc3,tc4⟩,t_width,t_bottom,t_lines,t_held⟩;exact⟨PySem.W.fnOf "law" "law" (zam sLaw) (zal sLaw) (zac sLaw) .none kV dc pm an cd ct,λs v=>.of_eq rfl,λbase _ _=>ztw F22 X15 ((zoZ X15.fn X9 X10 X11 X12 X13 X14 B).mono (by decide)) X16 ((zjs X16.fn B).mono (by decide)) X21 (zpg X21.fn X8 X17 X20 X19 X18 X3 ((zeZ X3.fn T X23 X27 X25 X26 X24 X28 X29 X30 X31 X32 X0 X1 X2 B).mono (by decide)) X7 (znN X7.fn X0 X3 (zeZ X3.fn T X23 X27 X25 X26 X24 X28 X29 X30 X31 X32 X0 X1 X2 B) X4 X6 B) X5 (zpe X5.fn X3 (zeZ X3.fn T X23 X27 X25 X26 X24 X28 X29 X30 X31 X32 X0 X1 X2 B) X4 B) B) B⟩
end _Q
open PySem PySem.W
set_option maxRecDepth 100000 in
set_option maxHeartbeats 0 in
theorem PySem.Challenge.cw_joinwood_k42_filled_to_the_bound_holds : PySem.Challenge.rw_joinwood_k42_filled_to_the_bound.Holds := by
 w_on;o_law;o_head (_HK.hook _Q.see _Q.told);(case hw=>w_witness2)
 exact _P.zuj (l:=PySem.Challenge.rw_joinwood_k42_filled_to_the_bound) (k:=7) (G:=fun K=>_Q.see K=_Q.told) (FL:=_Q.fLaw) (x:="_law_script") rfl rfl ⟨rfl,by decide,by decide⟩ _Q.zph (fun w h Y=>Y) (fun w mg fa h K E KX G hmg=>_Q.all_mk E KX G hmg) _Q.zpj
#print axioms PySem.Challenge.cw_joinwood_k42_filled_to_the_bound_holds
