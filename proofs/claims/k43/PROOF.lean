import PyProof.Rows.All
import Wide.All
import OpenK.AllK
import Wide.FinOn
import Lean
import PyProof.EqAt
import PyProof.EqKinds
import PyProof.TupleCall
import PyProof.NeKinds
import PyProof.AttrMissHeap
import PyProof.EnumMake
import PyProof.DictUpdate
import KE.KDictOf
import KE.KDictList
import PyProof.MaxThree
import PyProof.ListStr
import PyProof.ConsumeWalk
import PyProof.SliceStr2
import PyProof.StrBlockI
import PyProof.EnumStmt
import PyProof.ZipIter
import KE.KRevIter
import PyProof.Rows.CallKwBuiltin
import PyProof.Rows.SeqMore
import PyProof.Rows.SortRuns
import PyProof.Rows.SortPure
import PyProof.Rows.SortShell
import PyProof.Dict
import PyProof.TupleOfStr
import PyProof.Rows.StrRules
import PyProof.ExcBaseAll.ValueError
import PyProof.ExcArgsOwn
import PyProof.ExcAttrAll.ValueError
import KE.KIsAll
import PyProof.StrWalks
import PyProof.StrBlockH
import PyProof.Rows.CountFlat
import KE.KIntText
import KE.IntTextLaws
import PyProof.CallStr
import PyProof.StrOps2
import KE.RegKIsAll
import PySem.Challenge.RW_joinwood_k43_whole_bound
set_option Elab.async false
set_option linter.all false
set_option maxRecDepth 100000
set_option maxHeartbeats 4000000
open PySem renaming wpAny_bind->Wa,Value->Wb,mainGlobals->Wc,Shared->Wd,Addr->We,wpAny_pure->Wf,starEach->Wg,model->Wh,wpAny->Wi,Program->Wl,sizeLine->Wn,sizeLine_eq->Wo,FuncData->Wr,World->Wt,Around->Wu,bootBuiltins->Ww,behindInMarks->Wx,backTo->Wy,cLine->Wz,eval->WA,Stmt->WC,cellsFrom->WD,wpAny_call_entry->WE,swapsWith->WF,wpAny_holding->WH,compareOp->WJ,wpAny_setField->WK,wpAny_rule->WL,wpAny_Call_Name_kw->WO,wpAny_field->WP,foldedSetIterable->WQ,wpAny_mono->WR,assignEach->WS,wpAny_seqItems->WV,holding->WW,Scope->WX,wpAny_passesOwn->WY,wpAny_truthy_bool->WZ,keywordEach->W0,wpAny_newObj_type->W1,sysModules->W3,attributeBase->W4,wpAny_askSetting->W5,IsPair->W6,codeAny_mono->W8,wpAny_setField_rec->W9,codeAny_builtin->Vb,wpAny_newList->Vd,scanBound->Ve,NameKind->Vg,rawInt->Vi,sliceBounds->Vj,binaryOp->Vk,codeAny->Vl,backToKw->Vm,relayAll->Vn,getMethod->Vp,standAt->Vq
open PyProof.Rows renaming wpS_bind->Wj,wpS_pure->Wm,arrOf->Wp,Keyed->Wq,pendingOf->Ws,SortSt->Wv,envOfC->WB,SortKind->WG,seqObj->WI,wpS_forRange->WM,setArr->WN,wpS_modify->WT,IntsAre->WU,listItems_at->W2,failedOf->W7,wpS_get->Va,wpS_mono->Vc,listUpdate_at->Vf,elem'->Vh,wpS_lift->Vo
open PySem.W renaming Frag->Xa,nsIn->Xc,findIn->Xy,mg_none_of->XG,mg_of->XW,emptyDict->YH
open List renaming length_map->Xb,getElem?_eq_some_iff->Xe,getElem?_eq_getElem->Xg,mem_cons_self->Xh,mem_cons_of_mem->Xi,size_toArray->Xj,getElem?_set_ne->Xk,getElem?_map->Xl,length_append->Xm,map_append->Xn,mem_cons->Xo,getElem?_set_self->Xp,map_cons->Xq,mem_of_getElem?->Xu,mem_singleton->Xv,range->Xz,getD_eq_getElem?_getD->XA,take_of_length_le->XC,mem_map->XD,length_cons->XE,exists_cons_of_length_eq_add_one->XF,all_eq_true->XI,length_range->XM,getElem?_eq_none->XQ,mem_append->XR,lookup_cons->XT,set_eq_of_length_le->XV,nodup_cons->XX,length_take->XY,mem_append_right->XZ,length_singleton->Ya,zip_cons_cons->Yb,getElem_mem->Yd,length_eq_zero_iff->Yf,length_set->Yk,getElem?_zip_eq_some->Yn,length_zip->Yp,range_succ->Yt,getElem?_range->Yw,getElem?_append_right->Yy,map_singleton->Yz,length_nil->YB,find?_cons->YC,not_mem_nil->YD,getElem?_append_left->YG,pairwise_cons->YJ,mem_append_left->YL,mem_of_mem_take->YM,nodup_nil->YQ
open PySem.Heap renaming get?_push_of_some->Xd,lt_size->Xs,get?_push_size->Xw,get?_update_self->Yg,SameBut->Yi,get?_update_other->Yj,size_push->Yr,get?_push_ne->YR
open Nat renaming le_refl->Xf,le_trans->Xx,ne_of_lt->XB,zero_le->XH,lt_succ_of_lt->XJ,lt_of_lt_of_le->XO,lt_succ_self->XS,mul_assoc->Ym,le_of_lt->Ys,le_succ->Yu,mul_comm->Yv,lt_irrefl->YA,pow_succ->YF,ne_of_gt->YN,le_of_eq->YO
open Bool renaming false_ne_true->Xr,false_eq_true->XU,and_eq_true->Yo
open Int renaming toNat_natCast->Yc,emod_lt_of_pos->Yh,emod_nonneg->Yq,mul_comm->YE,mul_zero->YI,mul_nonpos_of_nonpos_of_nonneg->YK
open Array renaming length_toList->Ye,getElem?_toList->Yx
open PySem.SetTable renaming below->Yl
namespace L2
open PySem PySem.Spec PyProof.Rows
abbrev Key:=Sum Int Str
def zkV:Key->Wb->Bool
 | .inl k,v=>Value.isInt k v
 | .inr x,v=>Value.isStrOf x v
def keyH (w:Wt):Key->Int
 | .inl k=>hashInt k
 | .inr x=>hashStr w x
theorem zaQ:∀ {k:Key}{v:Wb},zkV k v=true->(∃i t,k=Sum.inl i/\v=Value.int i t)\/(∃x t,k=Sum.inr x/\v=Value.str x t)
 | .inl i,v,h=>by
  obtain⟨t,e⟩:=Value.isInt_shape (k:=i) (v:=v) h;exact .inl ⟨i,t,rfl,e⟩
 | .inr x,v,h=>by
  obtain⟨t,e⟩:=Value.isStrOf_shape (x:=x) (v:=v) h;exact .inr ⟨x,t,rfl,e⟩
theorem zlN (i:Int)(t:Tok):zkV (.inl i) (.int i t)=true:=by simp[zkV,Value.isInt]
theorem zlO (x:Str)(t:Tok):zkV (.inr x) (.str x t)=true:=by simp[zkV,Value.isStrOf]
theorem zsk (a b:Int):decide ((Sum.inl a:Key)=Sum.inl b)=(a == b):=by
 by_cases e:a=b
 ·subst e;simp
 ·have h:¬ (Sum.inl a:Key)=Sum.inl b:=λq=>e (Sum.inl.inj q);rw[decide_eq_false h];exact(beq_eq_false_iff_ne.mpr e).symm
theorem zsl (a b:Str):decide ((Sum.inr a:Key)=Sum.inr b)=decide (a=b):=by
 by_cases e:a=b
 ·subst e;simp
 ·have h:¬ (Sum.inr a:Key)=Sum.inr b:=λq=>e (Sum.inr.inj q);rw[decide_eq_false h,decide_eq_false e]
theorem zsm (a:Int)(b:Str):decide ((Sum.inl a:Key)=Sum.inr b)=false:=decide_eq_false (λq=>nomatch q)
theorem zsn (a:Str)(b:Int):decide ((Sum.inr a:Key)=Sum.inl b)=false:=decide_eq_false (λq=>nomatch q)
def zbv (prog:Wl)(w:Wt):PySem.KeyKind prog w Key where
 is:=zkV
 hash:=keyH w
 inj:=λv a b ha hb=>by
  rcases zaQ ha with ⟨i,t,rfl,rfl⟩ | ⟨x,t,rfl,rfl⟩
  ·rcases zaQ hb with ⟨j,u,rfl,e⟩ | ⟨y,u,rfl,e⟩
   ·injection e with e1 _;rw[e1]
   ·exact nomatch e
  ·rcases zaQ hb with ⟨j,u,rfl,e⟩ | ⟨y,u,rfl,e⟩
   ·exact nomatch e
   ·injection e with e1 _;rw[e1]
 byValue:=λk v h=>by
  rcases zaQ h with ⟨i,t,rfl,rfl⟩ | ⟨x,t,rfl,rfl⟩<;>rfl
 pyHash:=λhv h=>by
  rcases zaQ hv with ⟨i,t,rfl,rfl⟩ | ⟨x,t,rfl,rfl⟩
  ·exact wpAny_pyHash_int h
  ·exact wpAny_pyHash_str h
 eqBool:=λhu hv h=>by
  rcases zaQ hu with ⟨i,t,rfl,rfl⟩ | ⟨x,t,rfl,rfl⟩
  ·rcases zaQ hv with ⟨j,u,rfl,rfl⟩ | ⟨y,u,rfl,rfl⟩
   ·rw[zsk]at h;exact wpAny_eqBool_int h
   ·rw[zsm]at h;exact SeqAt.EqAt.int_str i t y u _ _ _ _ h
  ·rcases zaQ hv with ⟨j,u,rfl,rfl⟩ | ⟨y,u,rfl,rfl⟩
   ·rw[zsn]at h;exact SeqAt.EqAt.str_int x t j u _ _ _ _ h
   ·rw[zsl]at h;exact wpAny_eqBool_str h
 «strs»:=λk x t v h=>by
  rcases zaQ h with ⟨i,u,rfl,e⟩ | ⟨y,u,rfl,e⟩
  ·exact nomatch e
  ·injection e with e1 _;subst e1;cases v<;>rfl
theorem ziZ (prog:Wl)(w:Wt)(i:Int)(t:Tok):(zbv prog w).is (.inl i) (.int i t)=true:=zlN i t
theorem zja (prog:Wl)(w:Wt)(x:Str)(t:Tok):(zbv prog w).is (.inr x) (.str x t)=true:=zlO x t
inductive V where
 | non | bl (b:Bool) | int (i:Int) | str (x:Str) | byt (b:Array UInt8) | flt (b:UInt64) | ref (a:We) | ty (n:String)
 deriving DecidableEq
def RelV:V->Wb->Prop
 | .non,u=>u=Value.none
 | .bl b,u=>u=Value.bool b
 | .int i,u=>∃t,u=Value.int i t
 | .str x,u=>∃t,u=Value.str x t
 | .byt b,u=>∃t,u=Value.bytes b t
 | .flt b,u=>∃t,u=Value.float b t
 | .ref a,u=>u=Value.ref a
 | .ty n,u=>u=Value.type n
abbrev Vals:List V->List Wb->Prop:=Paired RelV
theorem Vals.length {xs:List V}{us:List Wb}(r:Vals xs us):xs.length=us.length:=Paired.length r
theorem Vals.get:∀ {xs:List V}{us:List Wb}{i:Nat}{x:V},Vals xs us->xs[i]? = some x->∃u,us[i]? = some u/\RelV x u
 | _,_,_,_,.nil,e=>by simp at e
 | _,_,0,_,.cons r _,e=>by simp at e;subst e;exact⟨_,rfl,r⟩
 | _,_,i+1,x,.cons _ t,e=>by
  obtain⟨u,h1,h2⟩:=Vals.get (i:=i) (x:=x) t (by simpa using e);exact⟨u,by simpa using h1,h2⟩
theorem Vals.set {x:V}{u:Wb}(r:RelV x u):∀ {xs:List V}{us:List Wb}(i:Nat),Vals xs us->Vals (xs.set i x) (us.set i u)
 | _,_,_,.nil=>.nil
 | _,_,0,.cons _ t=>.cons r t
 | _,_,i+1,.cons q t=>.cons q (Vals.set r i t)
theorem Vals.append:∀ {xs ys:List V}{us ws:List Wb},Vals xs us->Vals ys ws->Vals (xs++ys) (us++ws):=by
 intro xs ys us ws h s;induction h with
 | nil=>exact s
 | cons r t ih=>exact .cons r ih
theorem Vals.take:∀ {xs:List V}{us:List Wb}(n:Nat),Vals xs us->Vals (xs.take n) (us.take n)
 | _,_,0,_=>.nil
 | _,_,_+1,.nil=>.nil
 | _,_,n+1,.cons r t=>.cons r (Vals.take n t)
theorem Vals.drop:∀ {xs:List V}{us:List Wb}(n:Nat),Vals xs us->Vals (xs.drop n) (us.drop n)
 | _,_,0,r=>r
 | _,_,_+1,.nil=>.nil
 | _,_,n+1,.cons _ t=>Vals.drop n t
def RelO:Option V->Option Wb->Prop
 | some v,some u=>RelV v u
 | none,none=>True
 | _,_=>False
def KV {κ:Type}:List (κ×V)->List (κ×Wb)->Prop:=Paired λ(p:κ×V)(q:κ×Wb)=>p.1=q.1/\RelV p.2 q.2
def kV:Key->V
 | .inl i=>.int i
 | .inr x=>.str x
inductive HO where
  | lst (xs:List V)
  | tup (xs:List V)
  | dK (kvs:List (Key×V)) | dT (kvs:List (List Key×V))
  | set (S:Int->Bool) (n:Nat)
  | ins (C dx:We) (fs:List (Str×V))
  | own (x:We)
  | xd (fs:List (Str×V))
  | met (f x:We)
  | rng (lo hi:Int)
  | frz (o:Obj) (u:HO)
  | tbl (ps:Array Wb)
  | ext (φ:Heap->Prop)
abbrev Hp:=We->Option HO
def upd (H:Hp)(a:We)(o:HO):Hp:=λb=>if b=a then some o else H b
theorem zap {H:Hp}{a:We}{o:HO}:upd H a o a=some o:=by unfold upd;rw[if_pos rfl]
theorem zak {H:Hp}{a b:We}{o:HO}(h:b≠a):upd H a o b=H b:=by unfold upd;rw[if_neg h]
theorem zuw {H:Hp}{a b:We}{o u:HO}(h:H a=some o)(h':H b=some u)(d:o≠u):a≠b:=by
 intro e;subst e;rw[h]at h';exact d (Option.some.inj h')
theorem zaB {H:Hp}{a b:We}{o:HO}(h:H a=some o)(h':H b=none):a≠b:=by
 intro e;subst e;rw[h]at h';cases h'
def zdb (h:Heap)(a:We)(its:Array Wb):Prop:=∃o,h.get? a=some o/\o.cls=.type "tuple"/\(∃n,o.data=.seq its n)/\o.dict=none
theorem zdb.tup {h:Heap}{a:We}{its:Array Wb}(p:zdb h a its):IsTup h a its:=let ⟨o,e,c,⟨n,d⟩,_⟩:=p;⟨o,e,c,n,d⟩
theorem zdb.lt {h:Heap}{a:We}{its:Array Wb}(p:zdb h a its):a<h.objs.size:=p.tup.lt
theorem zdb.new (h:Heap)(items:Array Wb):zdb (h.push { cls:=.type "tuple",data:=.seq items }) h.objs.size items:=⟨_,Xw _ rfl,rfl,⟨_,rfl⟩,rfl⟩
section
variable (P:Wl)(w:Wt)
def zbZ (H:Hp)(h:Heap)(a:We):HO->Prop
 | .lst xs=>xs.length<=Wn/\∃(its:List Wb) (n:Nat),Vals xs its/\h.get? a=some { cls:=.type "list",data:=.seq its.toArray n }
 | .tup xs=>xs.length<=Wn/\∃its:List Wb,Vals xs its/\zdb h a its.toArray
 | .dK kvs=>kvs.length<=Wn/\(a == W3)=false/\∃vs,KV kvs vs/\h.DictOf (zbv P w) a vs
 | .dT kvs=>kvs.length<=Wn/\(a == W3)=false/\∃xs:List (List Key×We×Wb),
   Paired (λ(p:List Key×V) (q:List Key×We×Wb)=>p.1=q.1/\H q.2.1=some (.tup (p.1.map kV))/\RelV p.2 q.2.2) kvs xs/\
   ∃o es ep,h.get? a=some o/\o.ExactDict/\o.data=.dict es ep/\es.toList=xs.map (entryOfKey (tupleKind (zbv P w)))/\(xs.map (·.1)).Nodup
 | .set S n=>h.SetOf (intKind P w) a S n
 | .ins C dx fs=>H dx=some (.own a)/\fs.length<=1000/\dx≠a/\h.get? a=some (PySem.W.instObj C dx)/\
   ∃mA,h.Ns1 dx mA/\(∀f,RelO (fs.lookup f) (mA f))/\PySem.Within mA (fs.map (·.1))
 | .own _=>∃o,h.get? a=some o
 | .xd fs=>∃mA,h.Ns1 a mA/\∀f,RelO (fs.lookup f) (mA f)
 | .rng lo hi=>∃t u v,h.get? a=some { cls:=.type "range",data:=.fields #[.int lo t,.int hi u,.int 1 v] }
 | .frz o u=>h.get? a=some o/\zbZ H h a u
 | .tbl ps=>h.get? a=some { cls:=.none,data:=.fields ps }
 | .met f x=>h.get? a=some (PySem.W.methodObj (.ref f) (.ref x))
 | .ext φ=>φ h/\(∃o,h.get? a=some o)/\∀h1 h2:Heap,φ h1->(∀o,h1.get? a=some o->h2.get? a=some o)->φ h2
def HOk (H:Hp)(h:Heap):Prop:=∀a o,H a=some o->zbZ P w H h a o
end
section
variable {P:Wl}{w:Wt}{H H':Hp}{h h':Heap}{a:We}{o:HO}
theorem zbZ.lt (x:zbZ P w H h a o):a<h.objs.size:=by
 cases o with
 | lst xs=>obtain⟨_,_,_,_,e⟩:=x;exact Xs e
 | tup xs=>obtain⟨_,_,_,p⟩:=x;exact p.lt
 | dK kvs=>obtain⟨_,_,_,_,o,_,_,e,_⟩:=x;exact Xs e
 | dT kvs=>obtain⟨_,_,_,_,o,_,_,e,_⟩:=x;exact Xs e
 | set S n=>obtain⟨o,_,_,_,e,_⟩:=x;exact Xs e
 | ins C dx fs=>obtain⟨_,_,_,e,_⟩:=x;exact Xs e
 | own y=>obtain⟨_,e⟩:=x;exact Xs e
 | xd fs=>obtain⟨_,⟨_,_,_,e,_⟩,_⟩:=x;exact Xs e
 | rng lo hi=>obtain⟨_,_,_,e⟩:=x;exact Xs e
 | frz ob u=>obtain⟨e,_⟩:=x;exact Xs e
 | tbl ps=>exact Xs (show h.get? a=some _ from x)
 | met f y=>exact Xs (show h.get? a=some _ from x)
 | ext φ=>obtain⟨_,⟨_,e⟩,_⟩:=x;exact Xs e
theorem Paired.mapP {α β:Type}{F G:α->β->Prop}:∀ {l₁:List α}{l₂:List β},Paired F l₁ l₂->(∀a b,F a b->G a b)->Paired G l₁ l₂:=by
 intro l₁ l₂ h f;induction h with
 | nil=>exact .nil
 | cons r t ih=>exact .cons (f _ _ r) ih
theorem zbZ.stay (x:zbZ P w H h a o)(k:∀b u,(b=a\/H b=some (.own a))->h.get? b=some u->h'.get? b=some u)
  (ho:∀b,H b=some (.own a)->H' b=some (.own a)) (ht:∀b xs,H b=some (.tup xs)->H' b=some (.tup xs)):zbZ P w H' h' a o:=by
 induction o with
 | lst xs=>obtain⟨z,its,n,r,e⟩:=x;exact⟨z,its,n,r,k _ _ (.inl rfl) e⟩
 | tup xs=>obtain⟨z,its,r,ob,e,c⟩:=x;exact⟨z,its,r,ob,k _ _ (.inl rfl) e,c⟩
 | dK kvs=>obtain⟨z,y,vs,r,ob,es,ep,e,c⟩:=x;exact⟨z,y,vs,r,ob,es,ep,k _ _ (.inl rfl) e,c⟩
 | dT kvs=>
  obtain⟨z,y,xs,r,ob,es,ep,e,c⟩:=x;exact⟨z,y,xs,Paired.mapP r λp q z=>⟨z.1,ht _ _ z.2.1,z.2.2⟩,ob,es,ep,k _ _ (.inl rfl) e,c⟩
 | set S n=>obtain⟨ob,es,ep,t,e,c⟩:=x;exact⟨ob,es,ep,t,k _ _ (.inl rfl) e,c⟩
 | ins C dx fs=>
  obtain⟨d,z,ne,e,mA,⟨od,es,ep,e2,c⟩,r⟩:=x;exact⟨ho _ d,z,ne,k _ _ (.inl rfl) e,mA,⟨od,es,ep,k _ _ (.inr d) e2,c⟩,r⟩
 | own y=>obtain⟨ob,e⟩:=x;exact⟨ob,k _ _ (.inl rfl) e⟩
 | xd fs=>obtain⟨mA,⟨od,es,ep,e,c⟩,r⟩:=x;exact⟨mA,⟨od,es,ep,k _ _ (.inl rfl) e,c⟩,r⟩
 | rng lo hi=>obtain⟨t,u,v,e⟩:=x;exact⟨t,u,v,k _ _ (.inl rfl) e⟩
 | frz ob u ih=>obtain⟨e,q⟩:=x;exact⟨k _ _ (.inl rfl) e,ih q⟩
 | tbl ps=>
  have e:h.get? a=some { cls:=.none,data:=.fields ps }:=x;show h'.get? a=some { cls:=.none,data:=.fields ps };exact k a _ (.inl rfl) e
 | met f y=>
  have e:h.get? a=some (PySem.W.methodObj (.ref f) (.ref y)):=x;show h'.get? a=some (PySem.W.methodObj (.ref f) (.ref y));exact k a _ (.inl rfl) e
 | ext φ=>obtain⟨p,⟨o,e⟩,st⟩:=x;exact⟨st _ _ p λo q=>k _ _ (.inl rfl) q,⟨o,k _ _ (.inl rfl) e⟩,st⟩
theorem HOk.lt (x:HOk P w H h)(e:H a=some o):a<h.objs.size:=(x a o e).lt
theorem HOk.fresh (x:HOk P w H h)(e:h.objs.size<=a):H a=none:=by
 cases q:H a with
 | none=>rfl
 | some u=>exact absurd (XO (x.lt q) e) (YA _)
theorem HOk.kept (x:HOk P w H h)(k:∀b u,h.get? b=some u->h'.get? b=some u):HOk P w H h':=λa o e=>
 (x a o e).stay (λb u _ q=>k b u q) (λ_ q=>q) λ_ _ q=>q
theorem HOk.laid (x:HOk P w H h)(k:∀b u,h.get? b=some u->h'.get? b=some u)(hp:h.objs.size<=a)(new:zbZ P w (upd H a o) h' a o):HOk P w (upd H a o) h':=λb u e=>by
 have hn:=x.fresh hp;by_cases hb:b=a
 ·subst hb;rw[zap]at e;cases e;exact new
 ·rw[zak hb]at e;exact(x b u e).stay (λc v _ q=>k c v q) (λc q=>by rw[zak (zaB q hn)];exact q) λc xs q=>by rw[zak (zaB q hn)];exact q
end
def Rd (H:Hp)(a:We)(u:HO):Prop:=H a=some u\/∃o,H a=some (.frz o u)
theorem Rd.ok {P:Wl}{w:Wt}{H:Hp}{h:Heap}{a:We}{u:HO}(r:Rd H a u)(x:HOk P w H h):zbZ P w H h a u:=by
 rcases r with r | ⟨o,r⟩
 ·exact x a u r
 ·obtain⟨_,q⟩:=x a _ r;exact q
def Mut:Option HO->Prop
 | some (.lst _)=>True
 | some (.dK _)=>True
 | some (.dT _)=>True
 | some (.set _ _)=>True
 | some (.ins _ _ _)=>True
 | some (.ext _)=>True
 | _=>False
section
variable {P:Wl}{w:Wt}{H:Hp}{h h':Heap}{x e:We}{o':HO}
theorem HOk.write (ok:HOk P w H h)(mu:Mut (H x))(he:e=x\/H e=some (.own x))(k:∀b u,b≠e->h.get? b=some u->h'.get? b=some u)(heo:∃u,h'.get? e=some u)
  (new:zbZ P w (upd H x o') h' x o'):HOk P w (upd H x o') h':=λb u q=>by
 have nown:∀c y,H c=some (.own y)->c≠x:=λc y r z=>by subst z;rw[r]at mu;exact mu
 have ntup:∀c xs,H c=some (.tup xs)->c≠x:=λc xs r z=>by subst z;rw[r]at mu;exact mu
 by_cases hb:b=x
 ·subst hb;rw[zap]at q;cases q;exact new
 ·rw[zak hb]at q;by_cases hbe:b=e
  ·have q':H b=some (.own x):=by
    rcases he with z | z
    ·exact absurd (hbe.trans z) hb
    ·rw[hbe];exact z
   rw[q]at q';cases q';obtain⟨v,hv⟩:=heo;exact⟨v,by rw[hbe];exact hv⟩
  ·refine(ok b u q).stay (λc v hc r=>k c v ?_ r) (λc r=>by rw[zak (nown c b r)];exact r) λc xs r=>by rw[zak (ntup c xs r)];exact r
   rcases hc with rfl | hc
   ·exact hbe
   ·rintro rfl;rcases he with z | z
    ·exact nown c b hc z
    ·rw[hc]at z;cases z;exact hb rfl
end
structure Un (fs ex:List We)(H H':Hp)(h h':Heap):Prop where
 keep:∀b o,h.get? b=some o->H b=none->b∉fs->b∉ex->h'.get? b=some o
 slot:∀b o,h.get? b=some o->H b=none->b∈fs->b∉ex->∃sl,h'.get? b=some { o with slots:=sl }
 free:∀b o,h.get? b=some o->H b=none->b∉ex->H' b=none
 there:∀b o,h.get? b=some o->b∉ex->∃o',h'.get? b=some o'
 tups:∀b xs,H b=some (.tup xs)->H' b=some (.tup xs)
 frzs:∀b o u,H b=some (.frz o u)->H' b=some (.frz o u)
 tbls:∀b ps,H b=some (.tbl ps)->∃more,H' b=some (.tbl (ps++more))
section
variable {fs fs' ex ex':List We}{H H1 H2:Hp}{h h1 h2 h':Heap}{a x e:We}{o:HO}
theorem Un.any (u:Un fs ex H H1 h h1){b:We}{ob:Obj}(q:h.get? b=some ob)(n:H b=none)(hx:b∉ex):∃sl,h1.get? b=some { ob with slots:=sl }:=by
 by_cases hb:b∈fs
 ·exact u.slot b ob q n hb hx
 ·exact⟨ob.slots,u.keep b ob q n hb hx⟩
theorem Un.trans (a:Un fs ex H H1 h h1)(b:Un fs ex H1 H2 h1 h2):Un fs ex H H2 h h2 where
 keep:=λc ob q n hc hx=>b.keep c ob (a.keep c ob q n hc hx) (a.free c ob q n hx) hc hx
 slot:=λc ob q n hc hx=>by
  obtain⟨sl,e1⟩:=a.slot c ob q n hc hx;obtain⟨sl',e2⟩:=b.slot c _ e1 (a.free c ob q n hx) hc hx;exact⟨sl',e2⟩
 free:=λc ob q n hx=>by
  obtain⟨o',e1⟩:=a.there c ob q hx;exact b.free c o' e1 (a.free c ob q n hx) hx
 there:=λc ob q hx=>by
  obtain⟨o',e1⟩:=a.there c ob q hx;exact b.there c o' e1 hx
 tups:=λc xs q=>b.tups c xs (a.tups c xs q)
 frzs:=λc ob xs q=>b.frzs c ob xs (a.frzs c ob xs q)
 tbls:=λc ps q=>by
  obtain⟨m1,e1⟩:=a.tbls c ps q;obtain⟨m2,e2⟩:=b.tbls c _ e1;exact⟨m1++m2,by rw[e2,Array.append_assoc]⟩
theorem Un.kept (k:∀b u,h.get? b=some u->h'.get? b=some u):Un fs ex H H h h':=
 ⟨λb ob q _ _ _=>k b ob q,λb ob q _ _ _=>⟨ob.slots,k b ob q⟩,λ_ _ _ n _=>n,λb ob q _=>⟨ob,k b ob q⟩,λ_ _ q=>q,λ_ _ _ q=>q,λ_ ps q=>⟨#[],by rw[q];simp⟩⟩
theorem Un.refl:Un fs ex H H h h:=Un.kept λ_ _ q=>q
theorem Un.laid (k:∀b u,h.get? b=some u->h'.get? b=some u)(hp:h.objs.size<=a)(hn:H a=none):Un fs ex H (upd H a o) h h' where
 keep:=λb u q _ _ _=>k b u q
 slot:=λb u q _ _ _=>⟨u.slots,k b u q⟩
 free:=λb u q n _=>by rw[zak (XB (XO (Xs q) hp))];exact n
 there:=λb u q _=>⟨u,k b u q⟩
 tups:=λb xs q=>by rw[zak (zaB q hn)];exact q
 frzs:=λb u xs q=>by rw[zak (zaB q hn)];exact q
 tbls:=λb ps q=>⟨#[],by rw[zak (zaB q hn),q];simp⟩
theorem Un.write (mu:Mut (H x))(he:e=x\/H e=some (.own x))(k:∀b u,b≠e->h.get? b=some u->h'.get? b=some u)(heo:∃u,h'.get? e=some u):Un fs ex H (upd H x o) h h':=by
 have hx:∀b,H b=none->b≠x:=λb n z=>by subst z;rw[n]at mu;exact mu
 have hb:∀b,H b=none->b≠e:=λb n z=>by
  subst z;rcases he with r | r
  ·exact hx b n r
  ·rw[n]at r;cases r
 have hm:∀b u,H b=some u->¬ Mut (some u)->b≠x:=λb u q nm z=>by subst z;rw[q]at mu;exact nm mu
 refine⟨λb u q n _ _=>k b u (hb b n) q,λb u q n _ _=>⟨u.slots,k b u (hb b n) q⟩,λb u q n _=>by rw[zak (hx b n)];exact n,λb u q _=>?_,
  λb xs q=>by rw[zak (hm b _ q λz=>z)];exact q,λb u xs q=>by rw[zak (hm b _ q λz=>z)];exact q,λb ps q=>⟨#[],by rw[zak (hm b _ q λz=>z),q];simp⟩⟩
 by_cases hbe:b=e
 ·subst hbe;exact heo
 ·exact⟨u,k b u hbe q⟩
end
def trk (h:Heap)(H:Hp):List We:=(Xz h.objs.size).filter λa=>(H a).isSome
def hidT (h:Heap)(H:Hp):Heap:=PySem.W.hideAll h (trk h H)
theorem zlP (h:Heap)(H:Hp):(hidT h H).objs.size=h.objs.size:=PySem.W.hideAll_size _ _
theorem zon {h:Heap}{H:Hp}{b:We}{o:Obj}(e:h.get? b=some o)(n:H b=none):(hidT h H).get? b=some o:=
 PySem.W.hideAll_get _ e λhm=>by
  have q:(H b).isSome=true:=(List.mem_filter.mp hm).2;rw[n]at q;simp at q
theorem zqC {h:Heap}{H:Hp}{b:We}{o:Obj}(e:(hidT h H).get? b=some o):h.get? b=some o/\H b=none:=by
 have e':h.get? b=some o:=PySem.W.of_hideAll (trk h H) e;refine⟨e',?_⟩;cases q:H b with
 | none=>rfl
 | some x=>
  have hm:b∈trk h H:=List.mem_filter.mpr ⟨List.mem_range.mpr (Xs e'),by simp[q]⟩;have z:(hidT h H).get? b=none:=PySem.W.hideAll_none (trk h H) hm;rw[z]at e;cases e
def zqD (g h:Heap)(L:We):List (We×Obj):=(Xz h.objs.size).filterMap λa=>if a=L\/(g.get? a).isSome=true then none else(h.get? a).map λo=>(a,o)
def rest (g h:Heap)(L d:We):List (We×Obj):=(zqD g h L).filter λp=>decide (p.1≠d)
structure Mod (K:Xa)(mg:Str->Option Wb)(base:Heap):Prop where
 kin:K.In base
 glob:base.Ns Wc mg
 blt:∃mb,base.Ns builtinsNs mb/\∀x:Str,x≠"__name__"->mb x=Ww x
 nolimit:base.NoLimit
structure Cx where
 prog:Wl
 w:Wt
 K:Xa
 mg:Str->Option Wb
 base:Heap
 A:Wu
 N:List Str
 s₀:Wd
 H₀:Hp
 env:Env
 outer:List Env
 stack:List Env
 ex:List We
 fn:Str->Bool
 calm:Bool
 pn:List (We×Obj)
 xe:Wb->Wd->Prop
def frs (l:List Env):List We:=l.filterMap (·.frame)
abbrev Cx.fs (X:Cx):List We:=frs X.outer
def Vis (sc:WX)(x:Str):Prop:=sc.names.lookup x=some .local\/sc.names.lookup x=some .cell\/sc.names.lookup x=some .free
def Loc (sc:WX)(x:Str):Prop:=sc.names.lookup x=some .local\/sc.names.lookup x=some .cell
def Look (env:Env)(h:Heap)(m:Str->Option Wb)(x:Str)(u:Wb):Prop:=
 (env.kindOf x=some .local/\m x=some u)\/((env.kindOf x=some .cell\/env.kindOf x=some .free)/\∃c,env.cells.lookup x=some c/\h.IsCell c (some u))
structure Cx.Ok (X:Cx):Prop where
 mod:Mod X.K X.mg X.base
 kind:X.env.scope.kind=.function
 glob:X.env.globals=Wc
 blt:X.env.builtins=builtinsNs
 above:X.s₀.heap.objs.size<=X.env.locals
 inj:∀x y c,X.env.cells.lookup x=some c->X.env.cells.lookup y=some c->x=y
 has:∀x,(X.env.kindOf x=some .cell\/X.env.kindOf x=some .free)->∃c,X.env.cells.lookup x=some c
 cab:∀x c,X.fn x=true->X.env.cells.lookup x=some c->X.s₀.heap.objs.size<=c
 hd:X.calm=true->X.A.handled=none
 frames:X.A.frames=some X.stack
 stk:X.stack=X.outer\/(X.stack=X.env::X.outer/\X.env.frame=some X.env.locals)
 exf:∀b∈X.ex,b≠X.env.locals/\∀x c,X.env.cells.lookup x=some c->c≠b
 bs:∀b o,X.base.get? b=some o->X.s₀.heap.get? b=some o/\X.H₀ b=none
 bsz:X.base.objs.size<=X.s₀.heap.objs.size
 noex:∀b o,X.base.get? b=some o->b∉X.ex
 exfs:∀b∈X.ex,b∉X.fs
 funs:X.s₀.heap.FunFrames X.base X.outer
 frf:∀b∈X.fs,X.H₀ b=none
structure Inv (X:Cx)(pins:List (We×Obj))(σ:List (Option V))(H:Hp)(s:Wd):Prop where
 ok:X.Ok
 os:s.os=X.s₀.os
 bare:AllBare s.gens
 base:Un X.fs X.ex X.H₀ H X.s₀.heap s.heap
 loc:∃m,s.heap.Ns X.env.locals m/\∀(i:Nat) (x:Str) (v:V),X.N[i]? = some x->σ[i]? = some (some v)->Vis X.env.scope x->∃u,RelV v u/\Look X.env s.heap m x u
 cell:∀x c,X.env.cells.lookup x=some c->∃v,s.heap.IsCell c v
 free:H X.env.locals=none
 freeC:∀x c,X.env.cells.lookup x=some c->H c=none
 pin:∀p∈X.pn++pins,s.heap.get? p.1=some p.2/\H p.1=none/\p.1≠X.env.locals/\p.1∉X.fs/\∀v,p.2.data≠.cell v
 hok:HOk X.prog X.w H s.heap
 len:σ.length=X.N.length
section
variable {X:Cx}{pins:List (We×Obj)}{σ:List (Option V)}{H H':Hp}{s:Wd}{h':Heap}
theorem Cx.Ok.nofr (ok:X.Ok){b:We}{o:Obj}(e:X.base.get? b=some o):b∉X.fs:=λhb=>by
 have:=(ok.funs.mem hb).1;rw[e]at this;cases this
theorem Inv.bs (I:Inv X pins σ H s):∀b o,X.base.get? b=some o->s.heap.get? b=some o/\H b=none:=λb o e=>
 ⟨I.base.keep b o (I.ok.bs b o e).1 (I.ok.bs b o e).2 (I.ok.nofr e) (I.ok.noex b o e),I.base.free b o (I.ok.bs b o e).1 (I.ok.bs b o e).2 (I.ok.noex b o e)⟩
theorem Inv.bk (I:Inv X pins σ H s):∀b o,X.base.get? b=some o->s.heap.get? b=some o:=λb o e=>(I.bs b o e).1
theorem Inv.mod (I:Inv X pins σ H s):Mod X.K X.mg X.base:=I.ok.mod
theorem Inv.kIn (I:Inv X pins σ H s):X.K.In s.heap:=I.ok.mod.kin.keeps I.bk
theorem Inv.lt (I:Inv X pins σ H s):X.env.locals<s.heap.objs.size:=let ⟨_,hn,_⟩:=I.loc;hn.lt
theorem Inv.sz (I:Inv X pins σ H s):X.s₀.heap.objs.size<=s.heap.objs.size:=Xx I.ok.above (Ys I.lt)
theorem Inv.nofs (I:Inv X pins σ H s){a:We}(h:s.heap.objs.size<=a):a∉X.fs:=λhb=>by
 obtain⟨_,o,ho,_⟩:=I.ok.funs.mem hb;exact absurd (XO (Xs ho) (Xx I.sz h)) (YA _)
theorem Inv.cne (I:Inv X pins σ H s):∀x c,X.env.cells.lookup x=some c->c≠X.env.locals:=λx c e z=>by
 obtain⟨v,o,ho,hd⟩:=I.cell x c e;obtain⟨m,⟨o',es,ep,ho',hd',_⟩,_⟩:=I.loc;rw[z,ho']at ho;cases ho;rw[hd']at hd;cases hd
theorem Inv.funs (I:Inv X pins σ H s):s.heap.FunFrames X.base X.outer:=by
 have all:∀(l:List Env),(∀b∈frs l,b∈X.fs)->X.s₀.heap.FunFrames X.base l->s.heap.FunFrames X.base l:=by
  intro l;induction l with
  | nil=>intro _ _;trivial
  | cons env r ih=>
   intro hs hl;obtain⟨hk,⟨L,o,hf,hn,ho,hd⟩,hr⟩:=hl;have hL:L∈X.fs:=hs L (by unfold frs;rw[List.filterMap_cons,hf];exact Xh);obtain⟨sl,e⟩:=I.base.slot L o ho (I.ok.frf L hL) hL λz=>I.ok.exfs L z hL;exact⟨hk,⟨L,_,hf,hn,e,hd⟩,ih (λb hb=>hs b (by unfold frs;rw[List.filterMap_cons,hf];exact Xi _ hb)) hr⟩
 exact all X.outer (λ_ hb=>hb) I.ok.funs
theorem Inv.stack (I:Inv X pins σ H s):s.heap.FunFrames X.base X.stack:=by
 rcases I.ok.stk with e | ⟨e,hf⟩
 ·rw[e];exact I.funs
 ·rw[e];obtain⟨m,hn,_⟩:=I.loc;refine .cons (by rw[I.ok.kind];decide) hf hn ?_ I.funs;exact Heap.get?_none_of_le (Xx I.ok.bsz I.ok.above)
theorem Inv.zlQ (I:Inv X pins σ H s):∀b∈frs X.stack,b∈X.env.locals::X.fs:=λb hb=>by
 rcases I.ok.stk with e | ⟨e,hf⟩
 ·rw[e]at hb;exact Xi _ hb
 ·rw[e]at hb;unfold frs at hb;rw[List.filterMap_cons,hf]at hb;exact hb
theorem Inv.zlR (I:Inv X pins σ H s):∀b∈frs X.stack,H b=none:=λb hb=>by
 rcases Xo.mp (I.zlQ b hb)with e | hb
 ·rw[e];exact I.free
 ·obtain⟨_,o,ho,_⟩:=I.ok.funs.mem hb;exact I.base.free b o ho (I.ok.frf b hb) λz=>I.ok.exfs b z hb
theorem Inv.step {g':Array GenState}{t':Nat}{d':Drawn}{ch:List We}(I:Inv X pins σ H s)
  (hch:∀b∈ch,(b∈X.ex\/X.s₀.heap.objs.size<=b)/\b≠X.env.locals/\(∀x c,X.env.cells.lookup x=some c->c≠b)/\∀p∈X.pn++pins,p.1≠b)
  (keep:∀b o,b≠X.env.locals->b∉X.fs->b∉ch->s.heap.get? b=some o->H b=none->h'.get? b=some o)
  (slot:∀b o,b≠X.env.locals->b∈X.fs->b∉ch->s.heap.get? b=some o->H b=none->∃sl,h'.get? b=some { o with slots:=sl }) (free:∀b o,b∉ch->s.heap.get? b=some o->H b=none->H' b=none)
  (there:∀b o,b∉ch->s.heap.get? b=some o->∃o',h'.get? b=some o')
  (tups:∀b xs,H b=some (.tup xs)->H' b=some (.tup xs)) (frzs:∀b o u,H b=some (.frz o u)->H' b=some (.frz o u)) (tbls:∀b ps,H b=some (.tbl ps)->∃more,H' b=some (.tbl (ps++more)))
  (ns:∀m,s.heap.Ns X.env.locals m->h'.Ns X.env.locals m) (hok:HOk X.prog X.w H' h') (hg:AllBare g') :
  Inv X pins σ H' { s with heap:=h',gens:=g',drawn:=d',toks:=t' }:=by
 have neL:∀b o,X.s₀.heap.get? b=some o->b≠X.env.locals:=λb o e=>XB (XO (Xs e) I.ok.above);have neC:∀b o,X.s₀.heap.get? b=some o->b∉X.ex->b∉ch:=λb o e hx hb=>by
  rcases(hch b hb).1 with z | z
  ·exact hx z
  ·exact absurd (XO (Xs e) z) (YA _)
 have cellK:∀x c,X.env.cells.lookup x=some c->∀v,s.heap.IsCell c v->h'.IsCell c v:=λx c e v ⟨o,ho,hd⟩=>by
  have nch:c∉ch:=λz=>(hch c z).2.2.1 x c e rfl;by_cases hc:c∈X.fs
  ·obtain⟨sl,q⟩:=slot c o (I.cne x c e) hc nch ho (I.freeC x c e);exact⟨_,q,hd⟩
  ·exact⟨o,keep c o (I.cne x c e) hc nch ho (I.freeC x c e),hd⟩
 refine⟨I.ok,I.os,hg,⟨λb o e n hb hx=>?_,λb o e n hb hx=>?_,λb o e n hx=>?_,λb o e hx=>?_,λb xs e=>tups b xs (I.base.tups b xs e),λb o xs e=>frzs b o xs (I.base.frzs b o xs e),λb ps e=>?_⟩,?_,λx c e=>?_,?_,λx c e=>?_,λp hp=>?_,hok,I.len⟩
 ·exact keep b o (neL b o e) hb (neC b o e hx) (I.base.keep b o e n hb hx) (I.base.free b o e n hx)
 ·obtain⟨sl,e1⟩:=I.base.slot b o e n hb hx;obtain⟨sl',e2⟩:=slot b _ (neL b o e) hb (neC b o e hx) e1 (I.base.free b o e n hx);exact⟨sl',e2⟩
 ·obtain⟨o',e1⟩:=I.base.there b o e hx;exact free b o' (neC b o e hx) e1 (I.base.free b o e n hx)
 ·obtain⟨o',e1⟩:=I.base.there b o e hx;exact there b o' (neC b o e hx) e1
 ·obtain⟨m1,e1⟩:=I.base.tbls b ps e;obtain⟨m2,e2⟩:=tbls b _ e1;exact⟨m1++m2,by rw[e2,Array.append_assoc]⟩
 ·obtain⟨m,hn,hl⟩:=I.loc;refine⟨m,ns m hn,λi x v e1 e2 e3=>?_⟩;obtain⟨u,r,l⟩:=hl i x v e1 e2 e3;refine⟨u,r,?_⟩;rcases l with l | ⟨k,c,e,z⟩
  ·exact .inl l
  ·exact .inr ⟨k,c,e,cellK x c e _ z⟩
 ·obtain⟨v,z⟩:=I.cell x c e;exact⟨v,cellK x c e v z⟩
 ·obtain⟨m,⟨o,_,_,ho,_⟩,_⟩:=I.loc;exact free _ o (λz=>(hch _ z).2.1 rfl) ho I.free
 ·obtain⟨v,o,ho,hd⟩:=I.cell x c e;exact free c o (λz=>(hch c z).2.2.1 x c e rfl) ho (I.freeC x c e)
 ·obtain⟨e,n,ne,nf,d⟩:=I.pin p hp;have nch:p.1∉ch:=λz=>(hch p.1 z).2.2.2 p hp rfl;exact⟨keep p.1 p.2 ne nf nch e n,free p.1 p.2 nch e n,ne,nf,d⟩
theorem Inv.un {t':Nat}(I:Inv X pins σ H s)(u:Un X.fs [] H H' s.heap h')(hok:HOk X.prog X.w H' h'):Inv X pins σ H' { s with heap:=h',toks:=t' }:=by
 obtain⟨m,⟨o,es,ep,ho,r⟩,_⟩:=id I.loc;obtain⟨sl,hL⟩:=u.any ho I.free (by simp);exact I.step (g':=s.gens) (d':=s.drawn) (ch:=[]) (λ_ z=>nomatch z) (λb o _ hb _ e n=>u.keep b o e n hb (by simp)) (λb o _ hb _ e n=>u.slot b o e n hb (by simp)) (λb o _ e n=>u.free b o e n (by simp)) (λb o _ e=>u.there b o e (by simp)) u.tups u.frzs u.tbls (λm' hm=>by
  obtain⟨o',es',ep',ho',r'⟩:=hm;rw[ho]at ho';cases ho';exact⟨_,es',ep',hL,r'⟩) hok I.bare
theorem Inv.call {g':Array GenState}{t':Nat}{d':Drawn}{ch:List We}(I:Inv X pins σ H s)(u:Un (frs X.stack) ch H H' s.heap h')(hok:HOk X.prog X.w H' h')(hg:AllBare g')
  (hch:∀b∈ch,(b∈X.ex\/X.s₀.heap.objs.size<=b)/\b≠X.env.locals/\(∀x c,X.env.cells.lookup x=some c->c≠b)/\∀p∈X.pn++pins,p.1≠b) :
  Inv X pins σ H' { s with heap:=h',gens:=g',drawn:=d',toks:=t' }:=by
 obtain⟨m,⟨o,es,ep,ho,r⟩,_⟩:=id I.loc;obtain⟨sl,hL⟩:=u.any ho I.free λz=>(hch _ z).2.1 rfl;exact I.step (ch:=ch) hch (λb o hL hb hc e n=>u.keep b o e n (λz=>(Xo.mp (I.zlQ b z)).elim hL hb) hc) (λb o _ _ hc e n=>u.any e n hc) (λb o hc e n=>u.free b o e n hc) (λb o hc e=>u.there b o e hc) u.tups u.frzs u.tbls (λm' hm=>by
  obtain⟨o',es',ep',ho',r'⟩:=hm;rw[ho]at ho';cases ho';exact⟨_,es',ep',hL,r'⟩) hok hg
theorem Inv.turned {t':Nat}{it:We}(I:Inv X pins σ H s)(k:∀b o,b≠it->s.heap.get? b=some o->h'.get? b=some o)(hn:H it=none)(hL:it≠X.env.locals)
  (h1:it∈X.ex\/X.s₀.heap.objs.size<=it) (h2:∀x c,X.env.cells.lookup x=some c->c≠it) (h3:∀p∈X.pn++pins,p.1≠it):Inv X pins σ H { s with heap:=h',toks:=t' }:=by
 have nit:∀b u,H b=some u->b≠it:=λb u e z=>by rw[z,hn]at e;cases e
 refine I.step (g':=s.gens) (d':=s.drawn) (ch:=[it]) (λb hb=>?_) (λb o _ _ hc e _=>k b o (λz=>hc (by simp[z])) e) (λb o _ _ hc e _=>⟨o.slots,k b o (λz=>hc (by simp[z])) e⟩) (λ_ _ _ _ n=>n)
  (λb o hc e=>⟨o,k b o (λz=>hc (by simp[z])) e⟩) (λ_ _ e=>e) (λ_ _ _ e=>e) (λb ps e=>⟨#[],by rw[e];simp⟩) (λm hm=>?_) (λb u e=>?_) I.bare
 ·have e:b=it:=by simpa using hb
  subst e;exact⟨h1,hL,h2,h3⟩
 ·obtain⟨o,es,ep,ho,r⟩:=hm;exact⟨o,es,ep,k _ o (Ne.symm hL) ho,r⟩
 ·refine(I.hok b u e).stay (λc v hc q=>k c v ?_ q) (λ_ q=>q) λ_ _ q=>q;rcases hc with z | z
  ·rw[z];exact nit b u e
  ·exact nit c _ z
theorem Inv.tok (I:Inv X pins σ H s)(t:Nat):Inv X pins σ H { s with toks:=t }:=I.un (h':=s.heap) (t':=t) Un.refl I.hok
theorem Inv.kept {t':Nat}(I:Inv X pins σ H s)(k:∀b u,s.heap.get? b=some u->h'.get? b=some u):Inv X pins σ H { s with heap:=h',toks:=t' }:=I.un (Un.kept k) (I.hok.kept k)
theorem Inv.laid {a:We}{o:HO}{t':Nat}(I:Inv X pins σ H s)(k:∀b u,s.heap.get? b=some u->h'.get? b=some u)(hp:s.heap.objs.size<=a)(new:zbZ X.prog X.w (upd H a o) h' a o) :
  Inv X pins σ (upd H a o) { s with heap:=h',toks:=t' }:=I.un (Un.laid k hp (I.hok.fresh hp)) (I.hok.laid k hp new)
theorem Inv.write {x e:We}{o:HO}{t':Nat}(I:Inv X pins σ H s)(mu:Mut (H x))(he:e=x\/H e=some (.own x))(k:∀b u,b≠e->s.heap.get? b=some u->h'.get? b=some u)(heo:∃u,h'.get? e=some u)
  (new:zbZ X.prog X.w (upd H x o) h' x o):Inv X pins σ (upd H x o) { s with heap:=h',toks:=t' }:=I.un (Un.write mu he k heo) (I.hok.write mu he k heo new)
theorem Inv.zlS {pins':List (We×Obj)}(I:Inv X pins σ H s)(h:∀p∈pins',s.heap.get? p.1=some p.2/\H p.1=none/\p.1≠X.env.locals/\p.1∉X.fs/\∀v,p.2.data≠.cell v):Inv X pins' σ H s:=
 ⟨I.ok,I.os,I.bare,I.base,I.loc,I.cell,I.free,I.freeC,λp hp=>(XR.mp hp).elim (λz=>I.pin p (YL _ z)) (h p),I.hok,I.len⟩
theorem zjG {N:List Str}(hN:N.Nodup){i j:Nat}{x:Str}(a:N[i]? = some x)(b:N[j]? = some x):i=j:=by
 obtain⟨h1,e1⟩:=Xe.mp a;obtain⟨h2,e2⟩:=Xe.mp b;exact(List.getElem_inj hN).mp (e1.trans e2.symm)
theorem zhO {M:Model}{A:Wu}{E:Wb->Wd->Prop}{i:Nat}{x:Str}{v:V}{u:Wb}{Q:Unit->Wd->Prop}(I:Inv X pins σ H s)(hN:X.N.Nodup)(hi:X.N[i]? = some x)(hx:Loc X.env.scope x)(r:RelV v u)
  (h:∀s',Inv X pins (σ.set i (some v)) H s'->(∃a,Yi a s.heap s'.heap/\(a=X.env.locals\/X.env.cells.lookup x=some a))->Q () s') (hf:X.fn x=true\/X.env.scope.names.lookup x=some .local:=by first | exact .inl rfl | exact .inr rfl | assumption):Wi M A (storeName X.env x u) Q E s:=by
 obtain⟨m,hn,hl⟩:=id I.loc;have hcls:(X.env.scope.kind == .class||(X.env.scope.kind == .module&&X.env.locals != X.env.globals))=false:=by rw[I.ok.kind];rfl
 have hiσ:i<σ.length:=by rw[I.len];exact(Xe.mp hi).1
 have cne:=I.cne;have tracked:∀ {a:We} {h':Heap},(∃o,s.heap.get? a=some o/\H a=none)->Yi a s.heap h'->HOk X.prog X.w H h':=λ{a h'} ha hs b ob e=>by
  obtain⟨_,_,hfree⟩:=ha;refine(I.hok b ob e).stay (λc w' hc q=>(hs.2 c ?_).trans q) (λ_ q=>q) λ_ _ q=>q;rintro rfl;rcases hc with rfl | hc
  ·rw[hfree]at e;cases e
  ·rw[hfree]at hc;cases hc
 rcases hx with hk | hk
 ·refine wpAny_storeName_local hk hn (λh' hn' hs=>?_) hcls;obtain⟨oL,_,_,hoL,_⟩:=id hn;refine h _ ⟨I.ok,I.os,I.bare,⟨λb o e n hb hx=>?_,λb o e n hb hx=>?_,I.base.free,λb o e hx=>?_,I.base.tups,I.base.frzs,I.base.tbls⟩,⟨_,hn',λj y v' e1 e2 e3=>?_⟩,λy c e=>?_,I.free,I.freeC,λp hp=>?_,tracked ⟨oL,hoL,I.free⟩ hs,by simpa using I.len⟩ ⟨_,hs,.inl rfl⟩
  ·exact(hs.2 b (XB (XO (Xs e) I.ok.above))).trans (I.base.keep b o e n hb hx)
  ·obtain⟨sl,e1⟩:=I.base.slot b o e n hb hx;exact⟨sl,(hs.2 b (XB (XO (Xs e) I.ok.above))).trans e1⟩
  ·obtain⟨o',e1⟩:=I.base.there b o e hx;exact⟨o',(hs.2 b (XB (XO (Xs e) I.ok.above))).trans e1⟩
  ·by_cases hj:j=i
   ·subst hj;rw[hi]at e1;cases e1;rw[Xp hiσ]at e2;cases e2;exact⟨u,r,.inl ⟨hk,by simp⟩⟩
   ·rw[Xk (Ne.symm hj)]at e2;obtain⟨u',r',q⟩:=hl j y v' e1 e2 e3;refine⟨u',r',?_⟩;rcases q with ⟨k,e⟩ | ⟨k,c,e,z⟩
    ·refine .inl ⟨k,?_⟩;have:y≠x:=λe=>hj (zjG hN e1 (e▸hi));simp[this,e]
    ·exact .inr ⟨k,c,e,z.sameBut hs (cne y c e)⟩
  ·obtain⟨w',z⟩:=I.cell y c e;exact⟨w',z.sameBut hs (cne y c e)⟩
  ·obtain⟨e,n,ne,nf,d⟩:=I.pin p hp;exact⟨(hs.2 p.1 ne).trans e,n,ne,nf,d⟩
 ·have hfn:X.fn x=true:=by
   rcases hf with z | z
   ·exact z
   ·rw[z]at hk;cases hk
  obtain⟨c,hc⟩:=I.ok.has x (.inl hk);obtain⟨w',z⟩:=I.cell x c hc;refine wpAny_storeName_cell I.ok.kind hk hc z (λh' hc' hs=>?_);obtain⟨oc,hoc,hocd⟩:=id z;refine h { s with heap:=h' } ⟨I.ok,I.os,I.bare,⟨λb o e n hb hx=>?_,λb o e n hb hx=>?_,I.base.free,λb o e hx=>?_,I.base.tups,I.base.frzs,I.base.tbls⟩,⟨m,hn.sameBut hs (Ne.symm (cne x c hc)),λj y v' e1 e2 e3=>?_⟩,λy c' e=>?_,I.free,I.freeC,λp hp=>?_,tracked ⟨oc,hoc,I.freeC x c hc⟩ hs,by simpa using I.len⟩ ⟨c,hs,.inr hc⟩
  ·exact(hs.2 b (XB (XO (Xs e) (I.ok.cab x c hfn hc)))).trans (I.base.keep b o e n hb hx)
  ·obtain⟨sl,e1⟩:=I.base.slot b o e n hb hx;exact⟨sl,(hs.2 b (XB (XO (Xs e) (I.ok.cab x c hfn hc)))).trans e1⟩
  ·obtain⟨o',e1⟩:=I.base.there b o e hx;exact⟨o',(hs.2 b (XB (XO (Xs e) (I.ok.cab x c hfn hc)))).trans e1⟩
  ·by_cases hj:j=i
   ·subst hj;rw[hi]at e1;cases e1;rw[Xp hiσ]at e2;cases e2;exact⟨u,r,.inr ⟨.inl hk,c,hc,hc'⟩⟩
   ·rw[Xk (Ne.symm hj)]at e2;obtain⟨u',r',q⟩:=hl j y v' e1 e2 e3;refine⟨u',r',?_⟩;rcases q with q | ⟨k,c',e,z'⟩
    ·exact .inl q
    ·refine .inr ⟨k,c',e,z'.sameBut hs ?_⟩;rintro rfl;exact hj (zjG hN e1 (I.ok.inj _ _ _ e hc▸hi))
  ·by_cases hcc:c'=c
   ·subst hcc;exact⟨_,hc'⟩
   ·obtain⟨w2,z2⟩:=I.cell y c' e;exact⟨w2,z2.sameBut hs hcc⟩
  ·obtain⟨e,n,ne,nf,d⟩:=I.pin p hp;refine⟨(hs.2 p.1 ?_).trans e,n,ne,nf,d⟩;intro q;rw[q,hoc]at e;have q':oc=p.2:=Option.some.inj e;exact d w' (by rw[<- q'];exact hocd)
theorem zjH {M:Model}{A:Wu}{E:Wb->Wd->Prop}{i:Nat}{x:Str}{v:V}{u:Wb}{Q:Unit->Wd->Prop}(I:Inv X pins σ H s)(hN:X.N.Nodup)(hi:X.N[i]? = some x)(hx:Loc X.env.scope x)(r:RelV v u)
  (h:∀s',Inv X pins (σ.set i (some v)) H s'->Q () s') (hf:X.fn x=true\/X.env.scope.names.lookup x=some .local:=by first | exact .inl rfl | exact .inr rfl | assumption):Wi M A (storeName X.env x u) Q E s:=
 zhO I hN hi hx r (λs' I' _=>h s' I') hf
theorem Inv.call' {s':Wd}{ch:List We}(I:Inv X pins σ H s)(ho:s'.os=s.os)(u:Un (frs X.stack) ch H H' s.heap s'.heap)(hok:HOk X.prog X.w H' s'.heap)(hg:AllBare s'.gens)
  (hch:∀b∈ch,(b∈X.ex\/X.s₀.heap.objs.size<=b)/\b≠X.env.locals/\(∀x c,X.env.cells.lookup x=some c->c≠b)/\∀p∈X.pn++pins,p.1≠b):Inv X pins σ H' s':=by
 obtain⟨h',g',d',t',o'⟩:=s';have e:o'=s.os:=ho;subst e;exact I.call (g':=g') (t':=t') (d':=d') u hok hg hch
end
abbrev XK:=Wb->Option We->Hp->Prop
abbrev St:=List (Option V)
abbrev VK:=V->Hp->Prop
abbrev TE:=St->Hp->VK->Prop
abbrev TT:=St->Hp->(Bool->Hp->Prop)->Prop
abbrev TA:=St->Hp->(List V->Hp->Prop)->Prop
structure Ends where
 nx:St->Hp->Prop
 rt:VK
 bk:St->Hp->Prop:=λ_ _=>False
 ct:St->Hp->Prop:=λ_ _=>False
abbrev TS:=Ends->St->Hp->Prop
def EP (X:Cx)(pins:List (We×Obj))(σ:St)(Q:VK)(u:Wb)(s':Wd):Prop:=∃v H',Inv X pins σ H' s'/\RelV v u/\Q v H'
def TP (X:Cx)(pins:List (We×Obj))(σ:St)(Q:Bool->Hp->Prop)(b:Bool)(s':Wd):Prop:=∃H',Inv X pins σ H' s'/\Q b H'
def AP (X:Cx)(pins:List (We×Obj))(σ:St)(Q:List V->Hp->Prop)(us:List Wb)(s':Wd):Prop:=∃vs H',Inv X pins σ H' s'/\Vals vs us/\Q vs H'
def SP (X:Cx)(pins:List (We×Obj))(D:Ends)(f:Flow)(s':Wd):Prop:=
 match f with
 | .next=>∃σ' H',Inv X pins σ' H' s'/\D.nx σ' H'
 | .brk=>∃σ' H',Inv X pins σ' H' s'/\D.bk σ' H'
 | .cont=>∃σ' H',Inv X pins σ' H' s'/\D.ct σ' H'
 | .ret u=>∃v σ' H',Inv X pins σ' H' s'/\RelV v u/\D.rt v H'
def PE (X:Cx)(e:Expr)(t:TE):Prop:=
 ∀(pins:List (We×Obj)) (s:Wd) (σ:St) (H:Hp) (Q:VK),Inv X pins σ H s->t σ H Q->Wi (Wh X.prog X.w) X.A (WA e X.env) (EP X pins σ Q) X.xe s
def PT (X:Cx)(e:Expr)(t:TT):Prop:=
 ∀(pins:List (We×Obj)) (s:Wd) (σ:St) (H:Hp) (Q:Bool->Hp->Prop),Inv X pins σ H s->t σ H Q->Wi (Wh X.prog X.w) X.A (isTrue e X.env (WA e X.env)) (TP X pins σ Q) X.xe s
def PW (X:Cx)(e:Expr)(t:TT):Prop:=
 ∀(whole:Sem Wb) (pins:List (We×Obj)) (s:Wd) (σ:St) (H:Hp) (Q:Bool->Hp->Prop),Inv X pins σ H s->t σ H Q->Wi (Wh X.prog X.w) X.A (isTrue e X.env whole) (TP X pins σ Q) X.xe s
theorem PW.pt {X:Cx}{e:Expr}{t:TT}(h:PW X e t):PT X e t:=h _
def PA (X:Cx)(es:List Expr)(t:TA):Prop:=
 ∀(pos:Pos) (pins:List (We×Obj)) (s:Wd) (σ:St) (H:Hp) (Q:List V->Hp->Prop),Inv X pins σ H s->t σ H Q->Wi (Wh X.prog X.w) X.A (spliced (Wy pos (Wg es X.env))) (AP X pins σ Q) X.xe s
def PS (X:Cx)(st:WC)(t:TS):Prop:=
 ∀(pins:List (We×Obj)) (s:Wd) (σ:St) (H:Hp) (D:Ends),Inv X pins σ H s->t D σ H->Wi (Wh X.prog X.w) X.A (exec st X.env) (SP X pins D) X.xe s
def PSs (X:Cx)(st:List WC)(t:TS):Prop:=
 ∀(pins:List (We×Obj)) (s:Wd) (σ:St) (H:Hp) (D:Ends),Inv X pins σ H s->t D σ H->Wi (Wh X.prog X.w) X.A (execs st X.env) (SP X pins D) X.xe s
theorem thn {α:Type}{t:Sem α}{Q Q':α->Wd->Prop}{M:Model}{A:Wu}{E:Wb->Wd->Prop}{s:Wd}(h:Wi M A t Q E s)(hQ:∀a s,Q a s->Q' a s):Wi M A t Q' E s:=WR h hQ λ_ _ x=>x
section
variable {X:Cx}
def tVar (i:Nat):TE:=λσ H Q=>∃v,σ[i]? = some (some v)/\Q v H
def tC (v:V):TE:=λ_ H Q=>Q v H
theorem zcE {i:Nat}{x:Str}{pos:Pos}(hN:X.N[i]? = some x)(hv:Vis X.env.scope x)(hd:(x == ("__debug__" : Str))=false:=by decide) (hcd:(x == ("__classdict__" : Str))=false:=by decide):PE X (.Name x pos) (tVar i):=by
 intro pins s σ H Q I h;obtain⟨v,e,h⟩:=h;obtain⟨m,hn,hl⟩:=I.loc;obtain⟨u,r,l⟩:=hl i x v hN e hv;have fin:EP X pins σ Q u s:=⟨v,H,I,r,h⟩;rcases l with ⟨hk,hm⟩ | ⟨hk,c,hc,hcell⟩
 ·exact wpAny_Name (wpAny_loadName_local I.ok.kind hk hn hm fin) hd
 ·rcases hk with hk | hk
  ·exact wpAny_Name (wpAny_loadName_cell I.ok.kind hk hc hcell fin) hd
  ·exact wpAny_Name (wpAny_loadName_free I.ok.kind hk hc hcell fin hcd) hd
theorem zso {i j pos}:PE X (.Constant (.int i) j pos) (tC (.int i)):=λ_ _ _ H _ I h=>wpAny_Constant_int ⟨.int i,H,I.tok _,⟨_,rfl⟩,h⟩
theorem zux {b j pos}:PE X (.Constant (.bool b) j pos) (tC (.bl b)):=λ_ _ _ H _ I h=>Constant_bool ⟨.bl b,H,I,rfl,h⟩
theorem zsp {j pos}:PE X (.Constant .none j pos) (tC .non):=λ_ _ _ H _ I h=>Constant_none ⟨.non,H,I,rfl,h⟩
theorem zsq {x j pos}:PE X (.Constant (.str x) j pos) (tC (.str x)):=λ_ _ _ H _ I h=>Calls.Constant_str ⟨.str x,H,I.tok _,⟨_,rfl⟩,h⟩
def Gl (X:Cx)(x:Str):Prop:=X.env.kindOf x=some .globalImplicit
theorem zlT {E:Wb->Wd->Prop}{pins:List (We×Obj)}{s:Wd}{σ:St}{H:Hp}{x:Str}{u:Wb}{pos:Pos}{Q:Wb->Wd->Prop}(I:Inv X pins σ H s)(hg:Gl X x)(hm:X.mg x=some u)(h:Q u s)
  (hd:(x == ("__debug__" : Str))=false:=by decide):Wi (Wh X.prog X.w) X.A (WA (.Name x pos) X.env) Q E s:=
 Calls.Name_function_global I.ok.kind hg (Calls.loadGlobal_global (by rw[I.ok.glob];exact I.mod.glob.keeps I.bk) hm h) hd
theorem zfu {E:Wb->Wd->Prop}{pins:List (We×Obj)}{s:Wd}{σ:St}{H:Hp}{x:Str}{u:Wb}{pos:Pos}{Q:Wb->Wd->Prop}(I:Inv X pins σ H s)(hg:Gl X x)(hm:X.mg x=none)(hv:Ww x=some u)(h:Q u s)
  (hn:x≠"__name__":=by decide) (hd:(x == ("__debug__" : Str))=false:=by decide):Wi (Wh X.prog X.w) X.A (WA (.Name x pos) X.env) Q E s:=by
 obtain⟨mb,h1,h2⟩:=I.mod.blt;exact Calls.Name_function_global I.ok.kind hg (Calls.loadGlobal_builtin (by rw[I.ok.glob];exact I.mod.glob.keeps I.bk) hm (by rw[I.ok.blt];exact h1.keeps I.bk) ((h2 x hn).trans hv) h) hd
theorem zqE {x:Str}{v:V}{u:Wb}{pos:Pos}(hg:Gl X x)(hm:X.mg x=none)(hv:Ww x=some u)(r:RelV v u)(hn:x≠"__name__":=by decide) (hd:(x == ("__debug__" : Str))=false:=by decide):PE X (.Name x pos) (tC v):=
 λ_ _ _ H _ I h=>zfu I hg hm hv ⟨v,H,I,r,h⟩ hn hd
variable {a b:Expr}{ta tb:TE}{pos:Pos}
def PC (X:Cx)(op:CmpOp)(a b:Expr)(t:TE):Prop:=
 ∀(pins:List (We×Obj)) (s:Wd) (σ:St) (H:Hp) (Q:VK),Inv X pins σ H s->t σ H Q->
  Wi (Wh X.prog X.w) X.A (WA a X.env) (λv s₁=>Wi (Wh X.prog X.w) X.A (WA b X.env) (λu s₂=>Wi (Wh X.prog X.w) X.A (WJ op v u) (EP X pins σ Q) X.xe s₂) X.xe s₁) X.xe s
def tB (t:TE):TT:=λσ H Q=>t σ H λx H1=>∃c,x=.bl c/\Q c H1
theorem zsr {op:CmpOp}{t:TE}(h:PC X op a b t)(h1:Wx op b=false:=by first | exact nobehind _ (by decide) (by decide) | rfl):PT X (.Compare a [op] [b] pos) (tB t):=by
 intro pins s σ H Q I hw;refine wpAny_isTrue_Compare1 (thn (h pins s σ H _ I hw) λv s1 h1=>thn h1 λu s2 h2=>thn h2 λc s3 ⟨x,H1,I1,r1,q1⟩=>?_) h1;obtain⟨d,rfl,q⟩:=q1;cases r1;exact WZ ⟨H1,I1,q⟩
variable {tA tB':TT}{rest:List Expr}
def tAnd (t u:TT):TT:=λσ H Q=>t σ H λc H1=>if c=true then u σ H1 Q else Q false H1
def tOr (t u:TT):TT:=λσ H Q=>t σ H λc H1=>if c=true then Q true H1 else u σ H1 Q
def tNot (t:TT):TT:=λσ H Q=>t σ H λc H1=>Q (!c) H1
theorem zqF (ha:PT X a tA):PW X (.BoolOp .And [a] pos) tA:=by
 intro wh pins s σ H Q I h;refine isTrue_and (thn (ha pins s σ H Q I h) λc s1 e=>?_);cases c with
 | true=>exact isTrue_and_nil e
 | false=>exact e
theorem zss (ha:PT X a tA):PW X (.BoolOp .Or [a] pos) tA:=by
 intro wh pins s σ H Q I h;refine isTrue_or (thn (ha pins s σ H Q I h) λc s1 e=>?_);cases c with
 | false=>exact isTrue_or_nil e
 | true=>exact e
theorem zst (ha:PT X a tA)(hb:PW X (.BoolOp .And (b::rest) pos) tB'):PW X (.BoolOp .And (a::b::rest) pos) (tAnd tA tB'):=by
 intro wh pins s σ H Q I h;refine isTrue_and (thn (ha pins s σ H _ I h) λc s1 ⟨H1,I1,q1⟩=>?_);cases c with
 | true=>exact hb wh pins s1 σ H1 Q I1 q1
 | false=>exact⟨H1,I1,q1⟩
theorem zuy (ha:PT X a tA)(hb:PW X (.BoolOp .Or (b::rest) pos) tB'):PW X (.BoolOp .Or (a::b::rest) pos) (tOr tA tB'):=by
 intro wh pins s σ H Q I h;refine isTrue_or (thn (ha pins s σ H _ I h) λc s1 ⟨H1,I1,q1⟩=>?_);cases c with
 | true=>exact⟨H1,I1,q1⟩
 | false=>exact hb wh pins s1 σ H1 Q I1 q1
theorem zsu (ha:PT X a tA):PT X (.UnaryOp .Not a pos) (tNot tA):=by
 intro pins s σ H Q I h;exact isTrue_not (ha pins s σ H (λc H1=>Q (!c) H1) I h)
def zuz (ta tb:TE):TE:=λσ H Q=>ta σ H λx H1=>∃c,x=.bl c/\if c=true then tb σ H1 Q else Q (.bl false) H1
def zuA (ta:TE):TE:=λσ H Q=>ta σ H λx H1=>∃c,x=.bl c/\Q (.bl (!c)) H1
theorem zsv {op}{t:TE}(h:PE X a t):PE X (.BoolOp op [a] pos) t:=λpins s σ H Q I hw=>BoolOp_one (h pins s σ H Q I hw)
theorem zsw (ha:PE X a ta)(hb:PE X (.BoolOp .And (b::rest) pos) tb):PE X (.BoolOp .And (a::b::rest) pos) (zuz ta tb):=by
 intro pins s σ H Q I h;refine BoolOp_and (thn (ha pins s σ H _ I h) λv s1 ⟨x,H1,I1,r1,q1⟩=>?_);obtain⟨c,rfl,q1⟩:=q1;cases r1;refine WZ ?_;cases c with
 | true=>exact hb pins s1 σ H1 Q I1 q1
 | false=>exact⟨.bl false,H1,I1,rfl,q1⟩
theorem zsx (ha:PE X a ta):PE X (.UnaryOp .Not a pos) (zuA ta):=by
 intro pins s σ H Q I h;refine UnaryOp_ (thn (ha pins s σ H _ I h) λv s1 ⟨x,H1,I1,r1,q1⟩=>?_);obtain⟨c,rfl,q1⟩:=q1;cases r1;exact not_of (WZ ⟨.bl (!c),H1,I1,rfl,q1⟩)
def tIf (t:TT)(ta tb:TE):TE:=λσ H Q=>t σ H λc H1=>if c=true then ta σ H1 Q else tb σ H1 Q
theorem zoo {c:Expr}(hc:PT X c tA)(ha:PE X a ta)(hb:PE X b tb):PE X (.IfExp c a b pos) (tIf tA ta tb):=by
 intro pins s σ H Q I h;refine wpAny_IfExp (thn (hc pins s σ H _ I h) λd s1 ⟨H1,I1,q1⟩=>?_);cases d with
 | true=>exact ha pins s1 σ H1 Q I1 q1
 | false=>exact hb pins s1 σ H1 Q I1 q1
end
def SqL (K:Xa)(H:Hp)(a:We)(xs:List V):Prop:=
 Rd H a (.lst xs)\/
  ∃(o:Obj) (its:Array Wb) (n:Nat),K.lookup a=some o/\o.cls=.type "list"/\o.dict=none/\o.data=.seq its n/\its.size<=Wn/\Vals xs its.toList
def SqT (K:Xa)(H:Hp)(a:We)(xs:List V):Prop:=
 Rd H a (.tup xs)\/
  ∃(o:Obj) (its:Array Wb) (n:Nat),K.lookup a=some o/\o.cls=.type "tuple"/\o.data=.seq its n/\its.size<=Wn/\Vals xs its.toList/\o.dict=none
def absV:Wb->Option V
 | .none=>some .non
 | .bool b=>some (.bl b)
 | .int i _=>some (.int i)
 | .str x _=>some (.str x)
 | .bytes b _=>some (.byt b)
 | .float b _=>some (.flt b)
 | .ref a=>some (.ref a)
 | .type n=>some (.ty n)
 | _=>none
theorem RelV.abs {x:V}{u:Wb}(r:RelV x u):absV u=some x:=by
 cases x with
 | non=>cases r;rfl
 | bl _=>cases r;rfl
 | int _=>obtain⟨t,rfl⟩:=r;rfl
 | str _=>obtain⟨t,rfl⟩:=r;rfl
 | byt _=>obtain⟨t,rfl⟩:=r;rfl
 | flt _=>obtain⟨t,rfl⟩:=r;rfl
 | ref _=>cases r;rfl
 | ty _=>cases r;rfl
theorem RelV.inj {x y:V}{u:Wb}(r:RelV x u)(q:RelV y u):x=y:=Option.some.inj (r.abs.symm.trans q.abs)
theorem Vals.inj:∀ {xs ys:List V}{us:List Wb},Vals xs us->Vals ys us->xs=ys:=by
 intro xs ys us h;induction h generalizing ys with
 | nil=>intro h2;cases h2;rfl
 | cons r t ih=>
  intro h2;cases h2 with
  | cons r' t'=>rw[r.inj r',ih t']
section
variable {X:Cx}{pins:List (We×Obj)}{σ:St}{H:Hp}{s:Wd}{a:We}{xs ys:List V}
theorem SqL.of {K:Xa}(h:H a=some (.lst xs)):SqL K H a xs:=.inl (.inl h)
theorem SqT.of {K:Xa}(h:H a=some (.tup xs)):SqT K H a xs:=.inl (.inl h)
theorem Inv.list (I:Inv X pins σ H s)(h:SqL X.K H a xs):∃its:List Wb,Vals xs its/\PlainL s.heap a its.toArray/\xs.length<=Wn:=by
 rcases h with h | ⟨o,its,n,hk,hc,hd,hs,hz,r⟩
 ·obtain⟨z,its,n,r,e⟩:=h.ok I.hok;exact⟨its,r,⟨_,n,e,rfl,rfl,rfl⟩,z⟩
 ·refine⟨its.toList,r,⟨o,n,I.kIn a o hk,hc,hd,by simpa using hs⟩,?_⟩;have e:=r.length;simp only[Ye]at e;lia
theorem Inv.tuple (I:Inv X pins σ H s)(h:SqT X.K H a xs):∃its:List Wb,Vals xs its/\IsTup s.heap a its.toArray/\xs.length<=Wn:=by
 rcases h with h | ⟨o,its,n,hk,hc,hs,hz,r,_⟩
 ·obtain⟨z,its,r,p⟩:=h.ok I.hok;exact⟨its,r,p.tup,z⟩
 ·refine⟨its.toList,r,⟨o,I.kIn a o hk,hc,n,by simpa using hs⟩,?_⟩;have e:=r.length;simp only[Ye]at e;lia
theorem Inv.zeg (I:Inv X pins σ H s)(h:SqL X.K H a xs)(h':SqL X.K H a ys):xs=ys:=by
 obtain⟨its,r,⟨o,n,e,_,_,d⟩,_⟩:=I.list h;obtain⟨its',r',⟨o',n',e',_,_,d'⟩,_⟩:=I.list h';rw[e]at e';cases e';rw[d]at d';injection d' with d1 _;have:its=its':=by simpa using congrArg Array.toList d1
 subst this;exact r.inj r'
theorem Inv.zeh (I:Inv X pins σ H s)(h:SqT X.K H a xs)(h':SqT X.K H a ys):xs=ys:=by
 obtain⟨its,r,⟨o,e,_,n,d⟩,_⟩:=I.tuple h;obtain⟨its',r',⟨o',e',_,n',d'⟩,_⟩:=I.tuple h';rw[e]at e';cases e';rw[d]at d';injection d' with d1 _;have:its=its':=by simpa using congrArg Array.toList d1
 subst this;exact r.inj r'
end
abbrev Cx.wish (X:Cx)(E:Wb->Wd->Prop):Cx:={ X with xe:=E }
abbrev Cx.nox (X:Cx):Cx:=X.wish λ_ _=>False
theorem Cx.Ok.wish {X:Cx}(ok:X.Ok)(E:Wb->Wd->Prop):(X.wish E).Ok:=
 ⟨ok.mod,ok.kind,ok.glob,ok.blt,ok.above,ok.inj,ok.has,ok.cab,ok.hd,ok.frames,ok.stk,ok.exf,ok.bs,ok.bsz,ok.noex,ok.exfs,ok.funs,ok.frf⟩
theorem Cx.Ok.zfc {X:Cx}{E:Wb->Wd->Prop}(ok:(X.wish E).Ok):X.Ok:=
 ⟨ok.mod,ok.kind,ok.glob,ok.blt,ok.above,ok.inj,ok.has,ok.cab,ok.hd,ok.frames,ok.stk,ok.exf,ok.bs,ok.bsz,ok.noex,ok.exfs,ok.funs,ok.frf⟩
section
variable {X:Cx}{pins:List (We×Obj)}{σ:St}{H:Hp}{s:Wd}{E:Wb->Wd->Prop}
theorem Inv.wish (I:Inv X pins σ H s)(E:Wb->Wd->Prop):Inv (X.wish E) pins σ H s:=⟨I.ok.wish E,I.os,I.bare,I.base,I.loc,I.cell,I.free,I.freeC,I.pin,I.hok,I.len⟩
theorem Inv.zfc (I:Inv (X.wish E) pins σ H s):Inv X pins σ H s:=⟨I.ok.zfc,I.os,I.bare,I.base,I.loc,I.cell,I.free,I.freeC,I.pin,I.hok,I.len⟩
theorem SP.zfc {D:Ends}{f:Flow}{s':Wd}(h:SP (X.wish E) pins D f s'):SP X pins D f s':=by
 cases f with
 | next=>obtain⟨σ',H',I,q⟩:=h;exact⟨σ',H',I.zfc,q⟩
 | brk=>obtain⟨σ',H',I,q⟩:=h;exact⟨σ',H',I.zfc,q⟩
 | cont=>obtain⟨σ',H',I,q⟩:=h;exact⟨σ',H',I.zfc,q⟩
 | ret u=>obtain⟨v,σ',H',I,r,q⟩:=h;exact⟨v,σ',H',I.zfc,r,q⟩
theorem PSs.nox {st:List WC}{t:TS}(h:PSs X.nox st t):PSs X st t:=λpins s σ H D I hw=>
 WR (h pins s σ H D (I.wish _) hw) (λ_ _ q=>q.zfc) λ_ _ z=>False.elim z
end
section
variable {X:Cx}{st:WC}{rest:List WC}{t u:TS}{e:Expr}{te:TE}{pos:Pos}
def zuB:TS:=λD σ H=>D.nx σ H
def tSeq (t u:TS):TS:=λD σ H=>t { D with nx:=u D } σ H
theorem zqG:PSs X [] zuB:=λ_ _ σ H _ I h=>wpAny_execs_nil ⟨σ,H,I,h⟩
theorem zcj (h1:PS X st t)(h2:PSs X rest u):PSs X (st::rest) (tSeq t u):=by
 intro pins s σ H D I h;refine wpAny_execs_cons (thn (h1 pins s σ H { D with nx:=u D } I h) λf s1 q=>?_);cases f with
 | next=>
  obtain⟨σ',H',I',q⟩:=q;exact h2 pins s1 σ' H' D I' q
 | ret v=>exact q
 | brk=>exact q
 | cont=>exact q
theorem zjb (h1:PS X st t):PSs X [st] t:=by
 intro pins s σ H D I h;refine wpAny_execs_cons (thn (h1 pins s σ H D I h) λf s1 q=>?_);cases f with
 | next=>exact wpAny_execs_nil q
 | ret v=>exact q
 | brk=>exact q
 | cont=>exact q
theorem Inv.quiet {pins:List (We×Obj)}{σ:St}{H:Hp}{s:Wd}(I:Inv X pins σ H s):interactive X.env=false:=by simp[interactive,I.ok.kind]
def zuC (te:TE):TS:=λD σ H=>te σ H λ_ H1=>D.nx σ H1
theorem zjc (he:PE X e te)(hs:WF e none pos.line X.env=pure false:=by rfl):PS X (.Expr e pos) (zuC te):=by
 intro pins s σ H D I h;exact wpAny_Expr_any (thn (he pins s σ H _ I h) λv s1 ⟨x,H1,I1,r1,q1⟩=>⟨σ,H1,I1,q1⟩) I.quiet hs
def tRet (te:TE):TS:=λD σ H=>te σ H D.rt
theorem zsy (he:PE X e te):PS X (.Return (some e) pos) (tRet te):=by
 intro pins s σ H D I h;exact wpAny_Return_some (thn (he pins s σ H _ I h) λv s1 ⟨x,H1,I1,r1,q1⟩=>⟨x,σ,H1,I1,r1,q1⟩)
def tIfS (c:TT)(t u:TS):TS:=λD σ H=>c σ H λb H1=>if b=true then t D σ H1 else u D σ H1
theorem zuD {c:Expr}{a b:List WC}{tc:TT}(hc:PT X c tc)(ha:PSs X a t)(hb:PSs X b u):PS X (.If c a b pos) (tIfS tc t u):=by
 intro pins s σ H D I h;refine wpAny_If (thn (hc pins s σ H _ I h) λd s1 ⟨H1,I1,q1⟩=>?_);cases d with
 | true=>exact ha pins s1 σ H1 D I1 q1
 | false=>exact hb pins s1 σ H1 D I1 q1
end
abbrev TG:=V->St->Hp->(St->Hp->Prop)->Prop
abbrev TGs:=List V->St->Hp->(St->Hp->Prop)->Prop
def PG (X:Cx)(target:Expr)(t:TG):Prop:=
 ∀(pins:List (We×Obj)) (s:Wd) (σ:St) (H:Hp) (v:V) (u:Wb) (Q:St->Hp->Prop),Inv X pins σ H s->RelV v u->t v σ H Q->
  Wi (Wh X.prog X.w) X.A (assign target X.env u) (λ_ s'=>∃σ' H',Inv X pins σ' H' s'/\Q σ' H') X.xe s
def PGs (X:Cx)(ts:List Expr)(t:TGs):Prop:=
 ∀(pins:List (We×Obj)) (s:Wd) (σ:St) (H:Hp) (vs:List V) (us:List Wb) (Q:St->Hp->Prop),Inv X pins σ H s->Vals vs us->t vs σ H Q->
  Wi (Wh X.prog X.w) X.A (assignInOrder ((WS ts X.env).map (·.2)) us) (λ_ s'=>∃σ' H',Inv X pins σ' H' s'/\Q σ' H') X.xe s
abbrev TSet:=V->V->V->Hp->(Hp->Prop)->Prop
def PSet (X:Cx)(t:TSet):Prop:=
 ∀(pins:List (We×Obj)) (s:Wd) (σ:St) (H:Hp) (o i v:V) (ov iv u:Wb) (Q:Hp->Prop),Inv X pins σ H s->RelV o ov->RelV i iv->RelV v u->t o i v H Q->
  Wi (Wh X.prog X.w) X.A (setItem ov iv u) (λ_ s'=>∃H',Inv X pins σ H' s'/\Q H') X.xe s
section
variable {X:Cx}{pos:Pos}
def zlU (i:Nat):TG:=λv σ H Q=>Q (σ.set i (some v)) H
theorem zqH {i:Nat}{x:Str}(hN:X.N.Nodup)(hi:X.N[i]? = some x)(hx:Loc X.env.scope x)(hf:X.fn x=true\/X.env.scope.names.lookup x=some .local:=by first | exact .inl rfl | exact .inr rfl | assumption):PG X (.Name x pos) (zlU i):=by
 intro pins s σ H v u Q I r h;exact wpAny_assign_Name (zjH I hN hi hx r (λs' I'=>⟨_,H,I',h⟩) hf)
def gNil:TGs:=λvs σ H Q=>vs=[]/\Q σ H
def zuE (t:TG)(u:TGs):TGs:=λvs σ H Q=>∃v r,vs=v::r/\t v σ H λσ' H'=>u r σ' H' Q
theorem zqI:PGs X [] gNil:=by
 intro pins s σ H vs us Q I r h;obtain⟨e,h⟩:=h;subst e;cases r;exact assignInOrder_nil ⟨σ,H,I,h⟩
theorem zop {e:Expr}{es:List Expr}{t:TG}{u:TGs}(h1:PG X e t)(h2:PGs X es u)
  (hs:(WS (e::es) X.env).map (·.2)=assign e X.env::(WS es X.env).map (·.2):=by rfl):PGs X (e::es) (zuE t u):=by
 intro pins s σ H vs us Q I r h;obtain⟨v,vr,e1,h⟩:=h;subst e1;cases r with
 | cons r rr=>
  rw[hs];refine assignInOrder_cons (thn (h1 pins s σ H _ _ _ I r h) λ_ s1 ⟨σ1,H1,I1,q1⟩=>?_);exact h2 pins s1 σ1 H1 _ _ Q I1 rr q1
def gTup (K:Xa)(n:Nat)(t:TGs):TG:=λv σ H Q=>∃a xs,v=.ref a/\SqT K H a xs/\xs.length=n/\t xs σ H Q
theorem zsz {es:List Expr}{k:Nat}{t:TGs}{n:Nat}(hc:X.calm=true)(h:PGs X es t)
  (hn:(WS es X.env).length=n:=by rfl) (hst:(WS es X.env).findIdx? (·.1)=none:=by rfl):PG X (.Tuple es k pos) (gTup X.K n t):=by
 intro pins s σ H v u Q I r hw;obtain⟨a,xs,e1,hq,hl,hw⟩:=hw;subst e1;cases r;obtain⟨its,rv,ht,hz⟩:=I.tuple hq;refine assign_Tuple_tuple (I.ok.hd hc) ht (by simp[hn,<- hl,rv.length]) hst λh' hx=>?_;have I1:Inv X pins σ H { s with heap:=h' }:=I.kept (t':=s.toks) λb o e=>hx b o (XB (Xs e)) e;exact h pins _ σ H xs _ Q I1 (by simpa using rv) hw
def gSub (to ti:TE)(t:TSet):TG:=λv σ H Q=>to σ H λo H1=>ti σ H1 λi H2=>t o i v H2 λH3=>Q σ H3
theorem zpR {o i:Expr}{to ti:TE}{t:TSet}(ho:PE X o to)(hi:PE X i ti)(hs:PSet X t)
  (ha:∀v,assign (.Subscript o i pos) X.env v=(do
   let ov <- WW [v] (WA o X.env);let iv <- WW [v,ov] (WA i X.env)
   Vq pos
   WW [v,ov,iv] (setItem ov iv v)
   release [v,ov,iv] []):=by intro _;rfl):PG X (.Subscript o i pos) (gSub to ti t):=by
 intro pins s σ H v u Q I r h;rw[ha];refine Wa (WH (thn (ho pins s σ H _ I h) λov s1 ⟨x,H1,I1,r1,q1⟩=>?_));refine Wa (WH (thn (hi pins s1 σ H1 _ I1 q1) λiv s2 ⟨y,H2,I2,r2,q2⟩=>?_));refine Wa (wpAny_standAt (Wa (WH (thn (hs pins s2 σ H2 x y v ov iv u _ I2 r1 r2 r q2) λ_ s3 ⟨H3,I3,q3⟩=>?_))));exact wpAny_release ⟨σ,H3,I3,q3⟩
def tAsg (te:TE)(g:TG):TS:=λD σ H=>te σ H λx H1=>g x σ H1 D.nx
theorem zlV {tg e:Expr}{te:TE}{g:TG}(he:PE X e te)(hg:PG X tg g)(hs:swapsWithSole [tg] e pos.line X.env=pure false:=by rfl)(hw:swappedStores [tg] e X.env=pure none:=by rfl)
  (h1:(WS [tg] X.env).map (·.2)=[assign tg X.env]:=by rfl):PS X (.Assign [tg] e pos) (tAsg te g):=by
 intro pins s σ H D I h;refine wpAny_Assign_stores (thn (he pins s σ H _ I h) λv s1 ⟨x,H1,I1,r1,q1⟩=>?_) hs hw;rw[h1];exact thn (hg pins s1 σ H1 x v _ I1 r1 q1) λ_ s2 q=>q
theorem zhP {i:Nat}{x:Str}{e:Expr}{te:TE}{pos':Pos}(hN:X.N.Nodup)(hi:X.N[i]? = some x)(hx:Loc X.env.scope x)(he:PE X e te)(hs:WF e (some (.Name x pos')) pos.line X.env=pure false:=by rfl)(hf:X.fn x=true\/X.env.scope.names.lookup x=some .local:=by first | exact .inl rfl | exact .inr rfl | assumption) :
  PS X (.Assign [.Name x pos'] e pos) (tAsg te (zlU i)):=by
 intro pins s σ H D I h;refine wpAny_Assign_Name (thn (he pins s σ H _ I h) λv s1 ⟨y,H1,I1,r1,q1⟩=>?_) hs;exact zjH I1 hN hi hx r1 (λs2 I2=>⟨_,H1,I2,q1⟩) hf
end
section
variable {X:Cx}{pos:Pos}
def zsA (c:TT)(tb:TS):TS:=λD σ H=>∃W:Nat->St->Hp->Prop,(∃m,W m σ H)/\∀m σ H,W m σ H->
 c σ H λb H1=>if b=true then ∃N:St->Hp->Prop,(∀σ' H',N σ' H'->∃m',m'<m/\W m' σ' H')/\tb { D with nx:=N,ct:=N,bk:=D.nx } σ H1 else D.nx σ H1
theorem zjI {c:Expr}{body:List WC}{tc:TT}{tb:TS}(hp:PassesOwn (Wh X.prog X.w) X.A X.env X.xe)(hc:PT X c tc)(hb:PSs X body tb):PS X (.While c body [] pos) (zsA tc tb):=by
 intro pins s σ H D I h;obtain⟨W,⟨m0,w0⟩,turn⟩:=h;refine wpAny_While (codeAny_whileLoop (λn s'=>∃σ' H',Inv X pins σ' H' s'/\W n σ' H') ?_ m0 ⟨σ,H,I,w0⟩);rintro n s1 ⟨σ1,H1,I1,w1⟩;refine WY hp (thn (hc pins s1 σ1 H1 _ I1 (turn n σ1 H1 w1)) λb s2 ⟨H2,I2,q2⟩=>?_);cases b with
 | true=>
  obtain⟨N,hN,q2⟩:=q2;rw[if_pos rfl];refine WY hp (thn (hb pins s2 σ1 H2 _ I2 q2) λf s3 q3=>?_);cases f with
  | next=>
   obtain⟨σ3,H3,I3,n3⟩:=q3;obtain⟨m',hm,w3⟩:=hN σ3 H3 n3;exact⟨m',hm,σ3,H3,I3,w3⟩
  | cont=>
   obtain⟨σ3,H3,I3,n3⟩:=q3;obtain⟨m',hm,w3⟩:=hN σ3 H3 n3;exact⟨m',hm,σ3,H3,I3,w3⟩
  | brk=>exact q3
  | ret v=>exact q3
 | false=>
  rw[if_neg Xr];exact wpAny_execs_nil ⟨σ1,H2,I2,q2⟩
end
structure It where
 go:Nat->Hp->Prop
 yld:Nat->Hp->V->Hp->Prop
 stop:Nat->Hp->Prop
def FpOk (X:Cx)(pins:List (We×Obj))(H:Hp)(b:We):Prop:=
 H b=none/\b≠X.env.locals/\b∉X.fs/\(b∈X.ex\/X.s₀.heap.objs.size<=b)/\(∀x c,X.env.cells.lookup x=some c->c≠b)/\∀p∈X.pn++pins,p.1≠b
theorem Inv.fpOk {X:Cx}{pins:List (We×Obj)}{σ:St}{H H':Hp}{s:Wd}{b:We}(I:Inv X pins σ H s)(hb:s.heap.objs.size<=b)(hn:H' b=none):FpOk X pins H' b:=by
 refine⟨hn,YN (XO I.lt hb),I.nofs hb,.inr (Xx I.sz hb),λx c e z=>?_,λp hp z=>?_⟩
 ·obtain⟨v,q⟩:=I.cell x c e;exact absurd (XO q.lt (by rw[z];exact hb)) (YA _)
 ·exact absurd (XO (Xs (I.pin p hp).1) (by rw[z];exact hb)) (YA _)
structure Turn (P:Wl)(w:Wt)(K:Xa)(tg:Expr)(J:It)(fp:List We)(it:We)(tn:Nat->Heap->Prop):Prop where
 mem:it∈fp
 obj:∀i h,tn i h->∀b∈fp,∃o,h.get? b=some o/\∀v,o.data≠.cell v
 keep:∀i h h',tn i h->(∀b∈fp,∀o,h.get? b=some o->h'.get? b=some o)->tn i h'
 item:∀(X:Cx),X.prog=P->X.w=w->X.K=K->X.calm=true->∀(i:Nat) (pins:List (We×Obj)) (s:Wd) (σ:St) (H:Hp) (E:Wb->Wd->Prop),Inv X pins σ H s->(∀b∈fp,FpOk X pins H b)->tn i s.heap->J.go i H->
  Wi (Wh P w) X.A (pyNext (.ref it)) (λr s1=>∃u,r=some u/\
   Wi (Wh P w) X.A (letOwnedTupleGo tg (.ref it) u) (λ_ s2=>∃x H',Inv X pins σ H' s2/\RelV x u/\J.yld i H x H'/\tn (i+1) s2.heap/\∀b∈fp,H' b=none) E s1) E s
 done:∀(X:Cx),X.prog=P->X.w=w->X.K=K->X.calm=true->∀(i:Nat) (pins:List (We×Obj)) (s:Wd) (σ:St) (H:Hp) (E:Wb->Wd->Prop),Inv X pins σ H s->(∀b∈fp,FpOk X pins H b)->tn i s.heap->J.stop i H->
  Wi (Wh P w) X.A (pyNext (.ref it)) (λr s1=>r=none/\Inv X pins σ H s1) E s
 self:∀(A:Wu) (i:Nat) (s:Wd) (Q:Wb->Wd->Prop) (E:Wb->Wd->Prop),tn i s.heap->Q (.ref it) s->Wi (Wh P w) A (pyIter (.ref it)) Q E s
abbrev TI:=St->Hp->(It->Hp->Prop)->Prop
def PIE (X:Cx)(pins:List (We×Obj))(σ:St)(tg:Expr)(R:It->Hp->Prop)(itv:Wb)(s2:Wd):Prop:=
 ∃(it:We) (fp:List We) (tn:Nat->Heap->Prop) (J:It) (H':Hp),itv=.ref it/\Inv X pins σ H' s2/\Turn X.prog X.w X.K tg J fp it tn/\tn 0 s2.heap/\(∀b∈fp,FpOk X pins H' b)/\R J H'
def PI (X:Cx)(tg iter:Expr)(wi:TI):Prop:=
 ∀(pins:List (We×Obj)) (s:Wd) (σ:St) (H:Hp) (R:It->Hp->Prop),Inv X pins σ H s->wi σ H R->
  Wi (Wh X.prog X.w) X.A (WA iter X.env) (λv s1=>Wi (Wh X.prog X.w) X.A (pyIter v) (PIE X pins σ tg R) X.xe s1) X.xe s
theorem zqJ {M:Model}{A:Wu}{E:Wb->Wd->Prop}{s:Wd}{tg:Expr}{it:We}{u:Wb}{o:Obj}{n:String}{vs:Array Wb}{Q:Unit->Wd->Prop}(ho:s.heap.get? it=some o)(hc:o.cls=.type n)(hd:o.data=.fields vs)
    (hn:["enumerate","zip","dict_itemiterator","dict_reverseitemiterator","odict_iterator","itertools.zip_longest","itertools.pairwise"].contains n=false) (hQ:Q () s):Wi M A (letOwnedTupleGo tg (.ref it) u) Q E s:=by
  unfold letOwnedTupleGo;cases tg<;>first
    | exact Wf hQ
    | (cases u<;>first
        | exact Wf hQ
        | (refine Wa (wpAny_load ho ?_)
           rw[hc,hd];show Wi M A (if (["enumerate","zip","dict_itemiterator","dict_reverseitemiterator","odict_iterator","itertools.zip_longest","itertools.pairwise"].contains n&&vs[0]? == some (Vi _))=true then _ else _) Q E s
           rw[if_neg (by intro h;rw[hn,Bool.false_and]at h;cases h)];exact Wf hQ))
def Itl (K:Xa)(a:We):It:=
 ⟨λi H=>∃xs x,SqL K H a xs/\xs[i]? = some x,λi H x H'=>H'=H/\∀xs,SqL K H a xs->xs[i]? = some x,λi H=>∃xs,SqL K H a xs/\xs.length<=i⟩
def Itt (K:Xa)(a:We):It:=
 ⟨λi H=>∃xs x,SqT K H a xs/\xs[i]? = some x,λi H x H'=>H'=H/\∀xs,SqT K H a xs->xs[i]? = some x,λi H=>∃xs,SqT K H a xs/\xs.length<=i⟩
def Itr (lo:Int)(n:Nat):It:=⟨λi _=>i<n,λi H x H'=>H'=H/\x=.int (lo+i),λi _=>n<=i⟩
theorem zlW {P:Wl}{w:Wt}{K:Xa}{tg:Expr}(a it:We):Turn P w K tg (Itl K a) [it] it (λi h=>h.IsListIter it a i) where
 mem:=by simp
 obj:=λi h st b hb=>by
  have e:b=it:=by simpa using hb
  subst e;obtain⟨o,e,c,d⟩:=st;exact⟨o,e,λv z=>by rw[d]at z;cases z⟩
 keep:=λi h h' st k=>st.at λo e=>k it (by simp) o e
 item:=by
  intro X hP hw hK hc i pins s σ H E I hf st hg;subst hP hw hK;obtain⟨xs,x,hq,hx⟩:=hg;obtain⟨its,rv,p,hz⟩:=I.list hq;obtain⟨u,hu,ru⟩:=rv.get hx;obtain⟨f0,f1,f2,f3,f4,f5⟩:=hf it (by simp);refine wpAny_pyNext_list_item st p.isList (x:=u) (by simpa using hu) λh' st' sb=>?_;have I1:Inv X pins σ H { s with heap:=h' }:=I.turned (t':=s.toks) (λb o hb e=>(sb.2 b hb).trans e) f0 f1 f3 f4 f5;obtain⟨o,e,c,d⟩:=id st';exact⟨u,rfl,zqJ (s:={ s with heap:=h' }) e c d (by decide) ⟨x,H,I1,ru,⟨rfl,λys hy=>by rw[I.zeg hy hq];exact hx⟩,st',λb hb=>(hf b hb).1⟩⟩
 done:=by
  intro X hP hw hK hc i pins s σ H E I hf st hg;subst hP hw hK;obtain⟨xs,hq,hx⟩:=hg;obtain⟨its,rv,p,hz⟩:=I.list hq;obtain⟨f0,f1,f2,f3,f4,f5⟩:=hf it (by simp);have hl:=rv.length;exact wpAny_pyNext_list_end (I.ok.hd hc) st p.isList (by simp;lia) λh' eb=>⟨rfl,I.turned (t':=s.toks) (λb o hb e=>eb b o hb e) f0 f1 f3 f4 f5⟩
 self:=λ_ _ _ _ _ st h=>wpAny_pyIter_listiter st h
theorem zkW {P:Wl}{w:Wt}{K:Xa}{tg:Expr}(a it:We):Turn P w K tg (Itt K a) [it] it (λi h=>h.IsTupleIter it a i) where
 mem:=by simp
 obj:=λi h st b hb=>by
  have e:b=it:=by simpa using hb
  subst e;obtain⟨o,e,c,d⟩:=st;exact⟨o,e,λv z=>by rw[d]at z;cases z⟩
 keep:=λi h h' st k=>st.at λo e=>k it (by simp) o e
 item:=by
  intro X hP hw hK hc i pins s σ H E I hf st hg;subst hP hw hK;obtain⟨xs,x,hq,hx⟩:=hg;obtain⟨its,rv,p,hz⟩:=I.tuple hq;obtain⟨u,hu,ru⟩:=rv.get hx;obtain⟨f0,f1,f2,f3,f4,f5⟩:=hf it (by simp);refine wpAny_pyNext_tuple_item st (show s.heap.IsTuple a its.toArray from p) (x:=u) (by simpa using hu) λh' st' sb=>?_;have I1:Inv X pins σ H { s with heap:=h' }:=I.turned (t':=s.toks) (λb o hb e=>(sb.2 b hb).trans e) f0 f1 f3 f4 f5;obtain⟨o,e,c,d⟩:=id st';exact⟨u,rfl,zqJ (s:={ s with heap:=h' }) e c d (by decide) ⟨x,H,I1,ru,⟨rfl,λys hy=>by rw[I.zeh hy hq];exact hx⟩,st',λb hb=>(hf b hb).1⟩⟩
 done:=by
  intro X hP hw hK hc i pins s σ H E I hf st hg;subst hP hw hK;obtain⟨xs,hq,hx⟩:=hg;obtain⟨its,rv,p,hz⟩:=I.tuple hq;obtain⟨f0,f1,f2,f3,f4,f5⟩:=hf it (by simp);have hl:=rv.length;exact wpAny_pyNext_tuple_end (I.ok.hd hc) st (show s.heap.IsTuple a its.toArray from p) (by simp;lia) λh' eb=>⟨rfl,I.turned (t':=s.toks) (λb o hb e=>eb b o hb e) f0 f1 f3 f4 f5⟩
 self:=λ_ _ _ _ _ st h=>wpAny_pyIter_tupleiter st h
theorem zkX {P:Wl}{w:Wt}{K:Xa}{tg:Expr}(it:We)(lo:Int)(n:Nat):Turn P w K tg (Itr lo n) [it] it (λi h=>IsRangeIter h it (lo+(i:Nat)*1) ((n:Int)-(i:Nat)) 1) where
 mem:=by simp
 obj:=λi h st b hb=>by
  have e:b=it:=by simpa using hb
  subst e;exact⟨_,st,λv z=>by
   have z':Data.fields _=Data.cell v:=z;cases z'⟩
 keep:=λi h h' st k=>k it (by simp) _ st
 item:=by
  intro X hP hw hK hc i pins s σ H E I hf st hg;subst hP hw hK;obtain⟨f0,f1,f2,f3,f4,f5⟩:=hf it (by simp);have W:=Walks.range (prog:=X.prog) (w:=X.w) (I.ok.hd hc) it lo 1 n;refine W.item i s _ _ hg st λv h' tk hv st' kk=>?_;obtain⟨t,rfl⟩:=hv;have I1:Inv X pins σ H { s with heap:=h',toks:=tk }:=I.turned (λb o hb e=>kk b o (by simpa using hb) e) f0 f1 f3 f4 f5;refine⟨_,rfl,zqJ (s:={ s with heap:=h',toks:=tk }) (n:="range_iterator") st' rfl rfl (by decide) ⟨.int (lo+i),H,I1,⟨t,?_⟩,⟨rfl,rfl⟩,st',λb hb=>(hf b hb).1⟩⟩;rw[Int.mul_one]
 done:=by
  intro X hP hw hK hc i pins s σ H E I hf st hg;subst hP hw hK;obtain⟨f0,f1,f2,f3,f4,f5⟩:=hf it (by simp);exact wpAny_pyNext_range_end (I.ok.hd hc) st (by have:n<=i:=hg;lia) λh' eb=>⟨rfl,I.turned (t':=s.toks) (λb o hb e=>eb b o hb e) f0 f1 f3 f4 f5⟩
 self:=λ_ _ _ _ _ st h=>wpAny_pyIter_rangeiter st h
section
variable {X:Cx}{tg:Expr}
def zuF (K:Xa)(tl:TE):TI:=λσ H R=>tl σ H λx H1=>∃a,x=.ref a/\(∃xs,SqL K H1 a xs)/\R (Itl K a) H1
def iTup (K:Xa)(tl:TE):TI:=λσ H R=>tl σ H λx H1=>∃a,x=.ref a/\(∃xs,SqT K H1 a xs)/\R (Itt K a) H1
theorem zqK {l:Expr}{tl:TE}(hl:PE X l tl):PI X tg l (zuF X.K tl):=by
 intro pins s σ H R I h;refine thn (hl pins s σ H _ I h) λv s1 ⟨x,H1,I1,r1,q1⟩=>?_;obtain⟨a,e,⟨xs,hq⟩,q⟩:=q1;subst e;cases r1;obtain⟨its,rv,p,hz⟩:=I1.list hq;refine wpAny_pyIter_list p.isList ?_;refine⟨s1.heap.objs.size,[s1.heap.objs.size],_,_,H1,rfl,I1.kept (t':=s1.toks) λb o e=>Xd _ e,zlW a _,⟨_,Xw _ rfl,rfl,rfl⟩,λb hb=>?_,q⟩;have e:b=s1.heap.objs.size:=by simpa using hb
 subst e;exact I1.fpOk (Xf _) (I1.hok.fresh (Xf _))
theorem zsB {l:Expr}{tl:TE}(hl:PE X l tl):PI X tg l (iTup X.K tl):=by
 intro pins s σ H R I h;refine thn (hl pins s σ H _ I h) λv s1 ⟨x,H1,I1,r1,q1⟩=>?_;obtain⟨a,e,⟨xs,hq⟩,q⟩:=q1;subst e;cases r1;obtain⟨its,rv,p,hz⟩:=I1.tuple hq;refine wpAny_pyIter_tuple (show s1.heap.IsTuple a its.toArray from p) ?_;refine⟨s1.heap.objs.size,[s1.heap.objs.size],_,_,H1,rfl,I1.kept (t':=s1.toks) λb o e=>Xd _ e,zkW a _,⟨_,Xw _ rfl,rfl,rfl⟩,λb hb=>?_,q⟩;have e:b=s1.heap.objs.size:=by simpa using hb
 subst e;exact I1.fpOk (Xf _) (I1.hok.fresh (Xf _))
theorem zoq {pins:List (We×Obj)}{σ:St}{H:Hp}{s:Wd}{R:It->Hp->Prop}{E:Wb->Wd->Prop}{lo hi:Int}{t u v:Tok}{tk:Nat}(I:Inv X pins σ H s)(h1:-(2 ^ 62)<=lo)(h2:lo<2 ^ 62)(h3:-(2 ^ 62)<=hi)(h4:hi<2 ^ 62)
  (q:R (Itr lo (hi-lo).toNat) H):Wi (Wh X.prog X.w) X.A (pyIter (.ref s.heap.objs.size)) (PIE X pins σ tg R) E { s with heap:=s.heap.push { cls:=.type "range",data:=.fields #[.int lo t,.int hi u,.int 1 v] },toks:=tk }:=by
 refine wpAny_pyIter_range (IsRange.new ..) (small_one h1 h2 h3 h4) ?_;have I1:Inv X pins σ H { s with heap:=s.heap.push { cls:=.type "range",data:=.fields #[.int lo t,.int hi u,.int 1 v] },toks:=tk }:=I.kept λb o e=>Xd _ e;refine⟨(s.heap.push { cls:=.type "range",data:=.fields #[.int lo t,.int hi u,.int 1 v] }).objs.size,[(s.heap.push { cls:=.type "range",data:=.fields #[.int lo t,.int hi u,.int 1 v] }).objs.size],_,_,H,rfl,
  I1.kept (t':=tk) λb o e=>Xd _ e,zkX _ lo (hi-lo).toNat,?_,λb hb=>?_,q⟩
 ·have e1:lo+((0:Nat):Int)*1=lo:=by simp
  have e2:(((hi-lo).toNat:Nat):Int)-((0:Nat):Int)=Builtin.Range.rangeSize lo hi 1:=by rw[rangeSize_one];split<;>lia
  show IsRangeIter _ _ (lo+((0:Nat):Int)*1) ((((hi-lo).toNat:Nat):Int)-((0:Nat):Int)) 1;rw[e1,e2];exact Xw _ rfl
 ·have e:b=(s.heap.push { cls:=.type "range",data:=.fields #[.int lo t,.int hi u,.int 1 v] }).objs.size:=by simpa using hb
  subst e;exact I1.fpOk (Xf _) (I1.hok.fresh (Xf _))
def zuG (ta:TA):TI:=λσ H R=>ta σ H λvs H1=>∃j:Int,vs=[.int j]/\-(2 ^ 62)<=j/\j<2 ^ 62/\R (Itr 0 j.toNat) H1
theorem zlX {a:Expr}{ta:TA}{p pos:Pos}(hg:Gl X "range") (hm:X.mg "range" = none) (ha:PA X [a] ta) (hs:Wg [a] X.env=[(false,WA a X.env)]:=by rfl):PI X tg (.Call (.Name "range" p) [a] [] pos) (zuG ta):=by
 intro pins s σ H R I h;refine Call_ (zfu I hg hm boot_range (PyProof.Rows.callWith_type1 (thn (ha pos pins s σ H _ I h) λus s1 ⟨vs,H1,I1,r1,q1⟩=>?_) hs rfl));obtain⟨j,e,q1,q2,q⟩:=q1;subst e;cases r1 with
 | cons r rr=>
  cases rr;obtain⟨t,rfl⟩:=r;exact call_range_1 (zoq I1 (by lia) (by lia) q1 q2 (by simpa using q))
def tFor (wi:TI)(g:TG)(tb:TS):TS:=λD σ H=>wi σ H λJ H1=>∃W:Nat->Nat->St->Hp->Prop,(∃m,W 0 m σ H1)/\∀i m σ H,W i m σ H->
 (J.stop i H/\D.nx σ H)\/(J.go i H/\∃N:St->Hp->Prop,(∀σ' H',N σ' H'->∃m',m'<m/\W (i+1) m' σ' H')/\∀x H',J.yld i H x H'->g x σ H' λσ2 H2=>tb { D with nx:=N,ct:=N,bk:=D.nx } σ2 H2)
def zhQ (fp:List We)(h:Heap):List (We×Obj):=fp.filterMap λb=>(h.get? b).map λo=>(b,o)
theorem zdz {fp:List We}{h:Heap}{b:We}{o:Obj}(hb:b∈fp)(e:h.get? b=some o):(b,o)∈zhQ fp h:=List.mem_filterMap.mpr ⟨b,hb,by rw[e];rfl⟩
theorem zlY {fp:List We}{h:Heap}{p:We×Obj}(hp:p∈zhQ fp h):p.1∈fp/\h.get? p.1=some p.2:=by
 obtain⟨b,hb,e⟩:=List.mem_filterMap.mp hp;cases q:h.get? b with
 | none=>rw[q]at e;cases e
 | some o=>
  rw[q]at e;have e':(b,o)=p:=Option.some.inj e;subst e';exact⟨hb,q⟩
theorem Inv.pinned {pins:List (We×Obj)}{σ:St}{H:Hp}{s:Wd}{fp:List We}(I:Inv X pins σ H s)(hf:∀b∈fp,FpOk X pins H b)(ho:∀b∈fp,∃o,s.heap.get? b=some o/\∀v,o.data≠.cell v):Inv X (pins++zhQ fp s.heap) σ H s:=
 I.zlS λp hp=>(XR.mp hp).elim (λz=>I.pin p (XZ _ z)) λz=>by
  obtain⟨hb,e⟩:=zlY z;obtain⟨f0,f1,f2,_⟩:=hf p.1 hb;obtain⟨o,e',d⟩:=ho p.1 hb;rw[e]at e';cases e';exact⟨e,f0,f1,f2,d⟩
theorem Inv.zei {pins pl:List (We×Obj)}{σ:St}{H:Hp}{s:Wd}(I:Inv X (pins++pl) σ H s):Inv X pins σ H s:=I.zlS λp hp=>I.pin p (XZ _ (YL _ hp))
theorem zsC {iter:Expr}{body:List WC}{wi:TI}{g:TG}{tb:TS}{pos:Pos}(hp:PassesOwn (Wh X.prog X.w) X.A X.env X.xe)(hc:X.calm=true)(hi:PI X tg iter wi)(hg:PG X tg g)(hb:PSs X body tb)
  (hs:∀x,WQ iter X.env x=pure x:=by intro _;rfl):PS X (.For tg iter body [] pos) (tFor wi g tb):=by
 intro pins s σ H D I h;refine wpAny_For (thn (hi pins s σ H _ I h) λv s1 h1=>thn h1 λitv s2 h2=>?_) hs;obtain⟨it,fp,tn,J,H2,e,I2,T,st2,f2,W,⟨m0,w0⟩,turn⟩:=h2;subst e;have stat:∀ {H':Hp},(∀b∈fp,H' b=none)->∀b∈fp,FpOk X pins H' b:=λhn b hb=>⟨hn b hb,(f2 b hb).2⟩;refine codeAny_forLoop_any (λn s'=>∃i σ' H',Inv X pins σ' H' s'/\tn i s'.heap/\(∀b∈fp,H' b=none)/\W i n σ' H') ?_ m0 ⟨0,σ,H2,I2,st2,λb hb=>(f2 b hb).1,w0⟩;rintro n s3 ⟨i,σ3,H3,I3,st3,fr3,w3⟩;rcases turn i n σ3 H3 w3 with ⟨stop,qn⟩ | ⟨go,N,hN,step⟩
 ·refine WY hp (thn (T.done X rfl rfl rfl hc i pins s3 σ3 H3 X.xe I3 (stat fr3) st3 stop) λr s4 ⟨hr,I4⟩=>?_);subst hr;exact wpAny_execs_nil ⟨σ3,H3,I4,qn⟩
 ·refine WY hp (thn (T.item X rfl rfl rfl hc i pins s3 σ3 H3 X.xe I3 (stat fr3) st3 go) λr s4 ⟨u,hr,h4⟩=>?_);subst hr;refine WY hp (thn h4 λ_ s5 ⟨x,H5,I5,r5,y5,st5,fr5⟩=>?_);have I5':=I5.pinned (stat fr5) (T.obj _ _ st5);refine WY hp (thn (hg _ s5 σ3 H5 x u _ I5' r5 (step x H5 y5)) λ_ s6 ⟨σ6,H6,I6,q6⟩=>?_);refine WY hp (thn (hb _ s6 σ6 H6 _ I6 q6) λf s7 q7=>?_);have again:∀ {σ7:St} {H7:Hp},Inv X (pins++zhQ fp s5.heap) σ7 H7 s7->N σ7 H7->∃m,m<n/\∃i σ' H',Inv X pins σ' H' s7/\tn i s7.heap/\(∀b∈fp,H' b=none)/\W i m σ' H':=λ{σ7 H7} I7 n7=>by
   obtain⟨m',hm,w7⟩:=hN σ7 H7 n7;refine⟨m',hm,i+1,σ7,H7,I7.zei,T.keep _ _ _ st5 λb hb o e=>(I7.pin (b,o) (XZ _ (XZ _ (zdz hb e)))).1,λb hb=>?_,w7⟩;obtain⟨o,e,d⟩:=T.obj _ _ st5 b hb;exact(I7.pin (b,o) (XZ _ (XZ _ (zdz hb e)))).2.1
  cases f with
  | next=>obtain⟨σ7,H7,I7,n7⟩:=q7;exact again I7 n7
  | cont=>obtain⟨σ7,H7,I7,n7⟩:=q7;exact again I7 n7
  | brk=>obtain⟨σ7,H7,I7,q7⟩:=q7;exact⟨σ7,H7,I7.zei,q7⟩
  | ret v=>obtain⟨x7,σ7,H7,I7,r7,q7⟩:=q7;exact⟨x7,σ7,H7,I7.zei,r7,q7⟩
end
abbrev R2:=V->V->Hp->VK->Prop
def OpR (X:Cx)(f:Wb->Wb->Sem Wb)(r:R2):Prop:=
 ∀(pins:List (We×Obj)) (s:Wd) (σ:St) (H:Hp) (x y:V) (v u:Wb) (Q:VK),Inv X pins σ H s->RelV x v->RelV y u->r x y H Q->
  Wi (Wh X.prog X.w) X.A (f v u) (EP X pins σ Q) X.xe s
def UnR (X:Cx)(f:Wb->Sem Wb)(r:V->Hp->VK->Prop):Prop:=
 ∀(pins:List (We×Obj)) (s:Wd) (σ:St) (H:Hp) (x:V) (v:Wb) (Q:VK),Inv X pins σ H s->RelV x v->r x H Q->
  Wi (Wh X.prog X.w) X.A (f v) (EP X pins σ Q) X.xe s
def zde (X:Cx)(f:Wb)(r:List V->Hp->VK->Prop):Prop:=
 ∀(pins:List (We×Obj)) (s:Wd) (σ:St) (H:Hp) (xs:List V) (us:List Wb) (Q:VK),Inv X pins σ H s->Vals xs us->r xs H Q->
  Wi (Wh X.prog X.w) X.A (call f us) (EP X pins σ Q) X.xe s
def TruR (X:Cx)(r:V->Hp->(Bool->Hp->Prop)->Prop):Prop:=
 ∀(pins:List (We×Obj)) (s:Wd) (σ:St) (H:Hp) (x:V) (v:Wb) (Q:Bool->Hp->Prop),Inv X pins σ H s->RelV x v->r x H Q->
  Wi (Wh X.prog X.w) X.A (truthy v) (TP X pins σ Q) X.xe s
def tOp (r:R2)(ta tb:TE):TE:=λσ H Q=>ta σ H λx H1=>tb σ H1 λy H2=>r x y H2 Q
def tUn (r:V->Hp->VK->Prop)(ta:TE):TE:=λσ H Q=>ta σ H λx H1=>r x H1 Q
def rI (C:Int->Int->Prop)(g:Int->Int->V):R2:=λx y H Q=>∃i j,x=.int i/\y=.int j/\C i j/\Q (g i j) H
def rI0 (g:Int->Int->V):R2:=λx y H Q=>∃i j,x=.int i/\y=.int j/\Q (g i j) H
def rU (g:Int->V):V->Hp->VK->Prop:=λx H Q=>∃i,x=.int i/\Q (g i) H
section
variable {X:Cx}{a b c:Expr}{ta tb tc:TE}{pos:Pos}
theorem binT (ha:PE X a ta)(hb:PE X b tb){pins:List (We×Obj)}{s:Wd}{σ:St}{H:Hp}{R:V->V->Hp->Prop}(I:Inv X pins σ H s)
  (h:ta σ H λx H1=>tb σ H1 λy H2=>R x y H2) {Q:Wb->Wd->Prop} {f:Wb->Wb->Sem Wb}
  (hf:∀v u s2 x y H2,Inv X pins σ H2 s2->RelV x v->RelV y u->R x y H2->Wi (Wh X.prog X.w) X.A (f v u) Q X.xe s2) :
  Wi (Wh X.prog X.w) X.A (WA a X.env) (λv s₁=>Wi (Wh X.prog X.w) X.A (WA b X.env) (λu s₂=>Wi (Wh X.prog X.w) X.A (f v u) Q X.xe s₂) X.xe s₁) X.xe s:=by
 refine thn (ha pins s σ H _ I h) λv s1 ⟨x,H1,I1,r1,q1⟩=>?_;refine thn (hb pins s1 σ H1 _ I1 q1) λu s2 ⟨y,H2,I2,r2,q2⟩=>?_;exact hf v u s2 x y H2 I2 r1 r2 q2
theorem zuH {op:Operator}{r:R2}(ho:OpR X (Vk op) r)(ha:PE X a ta)(hb:PE X b tb):PE X (.BinOp a op b pos) (tOp r ta tb):=by
 intro pins s σ H Q I h;exact wpAny_BinOp (binT ha hb I h λv u s2 x y H2 I2 rx ry q=>ho pins s2 σ H2 x y v u Q I2 rx ry q)
theorem zuI {op:UnaryOp}{r:V->Hp->VK->Prop}(ho:UnR X (unaryOp op) r)(ha:PE X a ta):PE X (.UnaryOp op a pos) (tUn r ta):=by
 intro pins s σ H Q I h;exact UnaryOp_ (thn (ha pins s σ H _ I h) λv s1 ⟨x,H1,I1,r1,q1⟩=>ho pins s1 σ H1 x v Q I1 r1 q1)
theorem opI {f:Wb->Wb->Sem Wb}{C:Int->Int->Prop}{g:Int->Int->Int}
  (rule:∀(i j:Int) (t u:Tok) (s:Wd) (Q:Wb->Wd->Prop) (E:Wb->Wd->Prop),C i j->Q (.int (g i j) s.toks) { s with toks:=s.toks+1 }->Wi (Wh X.prog X.w) X.A (f (.int i t) (.int j u)) Q E s) :
  OpR X f (rI C λi j=>.int (g i j)):=by
 intro pins s σ H x y v u Q I rx ry h;obtain⟨i,j,rfl,rfl,hc,q⟩:=h;obtain⟨t,rfl⟩:=rx;obtain⟨t',rfl⟩:=ry;exact rule i j t t' s _ _ hc ⟨.int (g i j),H,I.tok _,⟨_,rfl⟩,q⟩
theorem opI0 {f:Wb->Wb->Sem Wb}{g:Int->Int->Int}
  (rule:∀(i j:Int) (t u:Tok) (s:Wd) (Q:Wb->Wd->Prop) (E:Wb->Wd->Prop),Q (.int (g i j) s.toks) { s with toks:=s.toks+1 }->Wi (Wh X.prog X.w) X.A (f (.int i t) (.int j u)) Q E s) :
  OpR X f (rI0 λi j=>.int (g i j)):=by
 intro pins s σ H x y v u Q I rx ry h;obtain⟨i,j,rfl,rfl,q⟩:=h;obtain⟨t,rfl⟩:=rx;obtain⟨t',rfl⟩:=ry;exact rule i j t t' s _ _ ⟨.int (g i j),H,I.tok _,⟨_,rfl⟩,q⟩
theorem opB0 {f:Wb->Wb->Sem Wb}{g:Int->Int->Bool}
  (rule:∀(i j:Int) (t u:Tok) (s:Wd) (Q:Wb->Wd->Prop) (E:Wb->Wd->Prop),Q (.bool (g i j)) s->Wi (Wh X.prog X.w) X.A (f (.int i t) (.int j u)) Q E s) :
  OpR X f (rI0 λi j=>.bl (g i j)):=by
 intro pins s σ H x y v u Q I rx ry h;obtain⟨i,j,rfl,rfl,q⟩:=h;obtain⟨t,rfl⟩:=rx;obtain⟨t',rfl⟩:=ry;exact rule i j t t' s _ _ ⟨.bl (g i j),H,I,rfl,q⟩
def CDiv (i j:Int):Prop:=0<j/\j<1073741824
def CPow (i j:Int):Prop:=0<=j/\j<=1000000/\i.natAbs<2 ^ 64
def CMul (i j:Int):Prop:=(-(2 ^ 64)<i/\i<2 ^ 64)\/(-(2 ^ 64)<j/\j<2 ^ 64)
theorem CMul.ok {i j:Int}(h:CMul i j):IntMulOk i j:=by
 rcases h with ⟨h1,h2⟩ | ⟨h1,h2⟩
 ·exact .of_left (intBits_le_64 h1 h2)
 ·exact .of_right (intBits_le_64 h1 h2)
theorem zsD:OpR X (Vk .Add) (rI0 λi j=>.int (i+j)):=opI0 λ_ _ _ _ _ _ _ q=>add_int q
theorem zsE:OpR X (Vk .Sub) (rI0 λi j=>.int (i-j)):=opI0 λ_ _ _ _ _ _ _ q=>sub_int q
theorem zsF:OpR X (Vk .Mult) (rI CMul λi j=>.int (i*j)):=opI λ_ _ _ _ _ _ _ hc q=>mul_int q hc.ok
theorem zqL:OpR X (Vk .FloorDiv) (rI CDiv λi j=>.int (i / j)):=opI λi j _ _ _ _ _ hc q=>by
 have h1:(0:Int)<j:=hc.1;have h2:j<1073741824:=hc.2;exact floordiv_int (by lia) (by rw[Int.fdiv_eq_ediv_of_nonneg i (by lia)];exact q) (.inl (PyProof.noPylong_small (by lia)))
theorem zsG:OpR X (Vk .Mod) (rI (λ_ j=>0<j) λi j=>.int (i % j)):=opI λi j _ _ _ _ _ hc q=>by
 have h1:(0:Int)<j:=hc;exact mod_int' (by lia) (by rw[Int.fmod_eq_emod_of_nonneg i (by lia)];exact q)
theorem zsH:OpR X (Vk .Pow) (rI CPow λi j=>.int (i ^ j.toNat)):=opI λ_ _ _ _ _ _ _ hc q=>pow_int_small hc.1 hc.2.1 hc.2.2 q
theorem unI {f:Wb->Sem Wb}{g:Int->Int}
  (rule:∀(i:Int) (t:Tok) (s:Wd) (Q:Wb->Wd->Prop) (E:Wb->Wd->Prop),Q (.int (g i) s.toks) { s with toks:=s.toks+1 }->Wi (Wh X.prog X.w) X.A (f (.int i t)) Q E s) :
  UnR X f (rU λi=>.int (g i)):=by
 intro pins s σ H x v Q I rx h;obtain⟨i,rfl,q⟩:=h;obtain⟨t,rfl⟩:=rx;exact rule i t s _ _ ⟨.int (g i),H,I.tok _,⟨_,rfl⟩,q⟩
theorem zsI:UnR X (unaryOp .USub) (rU λi=>.int (-i)):=unI λ_ _ _ _ _ q=>neg_int q
end
section
variable {X:Cx}{a b c:Expr}{ta tb tc:TE}{pos:Pos}
theorem zpS {pins:List (We×Obj)}{σ:St}{H:Hp}{s:Wd}{Q:VK}{k k':Bool}(I:Inv X pins σ H s)(q:Q (.bl k) H)(e:k=k'):EP X pins σ Q (.bool k') s:=by
 subst e;exact⟨.bl k,H,I,rfl,q⟩
theorem zuJ:OpR X (WJ .Lt) (rI0 λi j=>.bl (decide (i<j))):=opB0 λ_ _ _ _ _ _ _ q=>lt_int q
theorem zuK:OpR X (WJ .LtE) (rI0 λi j=>.bl (decide (i<=j))):=opB0 λ_ _ _ _ _ _ _ q=>le_int q
theorem zuL:OpR X (WJ .Gt) (rI0 λi j=>.bl (decide (j<i))):=opB0 λ_ _ _ _ _ _ _ q=>gt_int q
theorem zsJ:OpR X (WJ .Is) (λx y H Q=>y=.non/\Q (.bl (decide (x=.non))) H):=by
 intro pins s σ H x y v u Q I rx ry h;obtain⟨rfl,q⟩:=h;cases ry;refine is_none_gen (zpS I q ?_);cases x<;>first
  | (cases rx;rfl)
  | (obtain⟨t,rfl⟩:=rx;rfl)
theorem zqM:OpR X (WJ .IsNot) (λx y H Q=>y=.non/\Q (.bl (!decide (x=.non))) H):=by
 intro pins s σ H x y v u Q I rx ry h;obtain⟨rfl,q⟩:=h;cases ry;refine isnot_none_gen (zpS I q ?_);cases x<;>first
  | (cases rx;rfl)
  | (obtain⟨t,rfl⟩:=rx;rfl)
def isObj:HO->Bool
 | .lst _=>true
 | .ins _ _ _=>true
 | _=>false
theorem zdc (b:Expr){op:CmpOp}(h:op≠.In:=by decide)(h2:op≠.NotIn:=by decide):Wx op b=false:=by
 have e1:(op == CmpOp.In)=false:=by cases op<;>first | rfl | exact absurd rfl h
 have e2:(op == CmpOp.NotIn)=false:=by cases op<;>first | rfl | exact absurd rfl h2
 cases b<;>simp[Wx,e1,e2]
theorem zqN {op:CmpOp}{r:R2}(ho:OpR X (WJ op) r)(ha:PE X a ta)(hb:PE X b tb)(hm:Wx op b=false):PE X (.Compare a [op] [b] pos) (tOp r ta tb):=by
 intro pins s σ H Q I h;exact wpAny_Compare1 (binT ha hb I h λv u s2 x y H2 I2 rx ry q=>ho pins s2 σ H2 x y v u Q I2 rx ry q) hm
def zuM (t:TE):TT:=λσ H Q=>t σ H λx H'=>∃k,x=.bl k/\Q k H'
theorem zqO {op:CmpOp}{r:R2}(ho:OpR X (WJ op) r)(ha:PE X a ta)(hb:PE X b tb)(hm:Wx op b=false):PT X (.Compare a [op] [b] pos) (zuM (tOp r ta tb)):=by
 intro pins s σ H Q I h;refine wpAny_isTrue_Compare1 (thn (ha pins s σ H _ I h) λv s1 ⟨x,H1,I1,r1,q1⟩=>thn (hb pins s1 σ H1 _ I1 q1) λu s2 ⟨y,H2,I2,r2,q2⟩=>
  thn (ho pins s2 σ H2 x y v u _ I2 r1 r2 q2) λc s3 ⟨z,H3,I3,r3,k,e,q3⟩=>?_) hm
 subst e;cases r3;exact WZ ⟨H3,I3,q3⟩
def TruV (K:Xa)(x:V)(H:Hp)(k:Bool):Prop:=
 match x with
 | .non=>k=false
 | .bl b=>k=b
 | .int i=>k=(i != 0)
 | .str y=>y.length<=Wn/\k=((y.length:Int) != 0)
 | .byt y=>y.size<=Wn/\k=((y.size:Int) != 0)
 | .ref p=>(∃xs,SqL K H p xs/\k = !xs.isEmpty)\/(∃xs,SqT K H p xs/\k = !xs.isEmpty)\/∃kvs,H p=some (.dK kvs)/\k = !kvs.isEmpty
 | _=>False
theorem zkY {κ:Type}{kvs:List (κ×V)}{vs:List (κ×Wb)}(r:KV kvs vs):(!vs.isEmpty) = !kvs.isEmpty:=by
 cases r<;>rfl
theorem zgy {xs:List V}{its:List Wb}(r:Vals xs its):(!its.toArray.isEmpty) = !xs.isEmpty:=by
 cases r<;>simp
theorem zgz:(Wn:Nat)<2 ^ 63:=by rw[Wo];decide
theorem zsK:TruR X (λx H Q=>∃k,TruV X.K x H k/\Q k H):=by
 intro pins s σ H x v Q I rx h;obtain⟨k,e,q⟩:=h;have hl:=zgz;have hs:Wn=16777216:=Wo;cases x with
 | non=>
  cases rx;have e':k=false:=e;subst e';exact truthy_none ⟨H,I,q⟩
 | bl b=>
  cases rx;have e':k=b:=e;subst e';exact WZ ⟨H,I,q⟩
 | int i=>
  obtain⟨t,rfl⟩:=rx;have e':k=(i != 0):=e;subst e';exact PySem.P.truthy_int ⟨H,I,q⟩
 | str y=>
  obtain⟨t,rfl⟩:=rx;obtain⟨hy,e'⟩:y.length<=Wn/\k=((y.length:Int) != 0):=e;subst e';exact PySem.P.truthy_str (by lia) ⟨H,I.tok _,q⟩
 | byt y=>
  obtain⟨t,rfl⟩:=rx;obtain⟨hy,e'⟩:y.size<=Wn/\k=((y.size:Int) != 0):=e;subst e';exact PySem.W.truthy_bytes (by lia) ⟨H,I.tok _,q⟩
 | ref p=>
  cases rx;have e':(∃xs,SqL X.K H p xs/\k = !xs.isEmpty)\/(∃xs,SqT X.K H p xs/\k = !xs.isEmpty)\/∃kvs,H p=some (.dK kvs)/\k = !kvs.isEmpty:=e;rcases e' with ⟨xs,hx,e'⟩ | ⟨xs,hx,e'⟩ | ⟨kvs,hx,e'⟩
  ·subst e';obtain⟨its,r,pl,hz⟩:=I.list hx;have hlen:=r.length;exact wpAny_truthy_list pl.isList (by simp only[Xj];lia) ⟨H,I.tok _,by rw[zgy r];exact q⟩
  ·subst e';obtain⟨its,r,pl,hz⟩:=I.tuple hx;have hlen:=r.length;exact truthy_tuple pl (by simp only[Xj];lia) ⟨H,I.tok _,by rw[zgy r];exact q⟩
  ·subst e';obtain⟨hz,hS,vs,r,m⟩:kvs.length<=Wn/\(p == W3)=false/\∃vs,KV kvs vs/\s.heap.DictOf (zbv X.prog X.w) p vs:=I.hok p _ hx;have hlen:kvs.length=vs.length:=Paired.length r;exact wpAny_truthy_dict hS m (by lia) ⟨H,I.tok _,by rw[zkY r];exact q⟩
 | _=>exact(show False from e).elim
theorem zor (ha:PE X a ta)(he:∀whole,isTrue a X.env whole=(do let v <- whole;Vq a.pos;WW [v] (truthy v))) :
  PT X a (λσ H Q=>ta σ H λx H'=>∃k,TruV X.K x H' k/\Q k H'):=by
 intro pins s σ H Q I h;exact isTrue_plain (thn (ha pins s σ H _ I h) λv s1 ⟨x,H1,I1,r1,q1⟩=>zsK pins s1 σ H1 x v Q I1 r1 q1) (he _)
theorem vals1 {x:V}{us:List Wb}(r:Vals [x] us):∃u,us=[u]/\RelV x u:=by
 cases r with
 | cons r1 r2=>cases r2;exact⟨_,rfl,r1⟩
theorem vals2 {x y:V}{us:List Wb}(r:Vals [x,y] us):∃u w',us=[u,w']/\RelV x u/\RelV y w':=by
 cases r with
 | cons r1 r2=>
  cases r2 with
  | cons r3 r4=>cases r4;exact⟨_,_,rfl,r1,r3⟩
theorem zlZ (hc:X.calm=true):zde X (.builtin "max") (λxs H Q=>∃i j,xs=[.int i,.int j]/\Q (.int (if j > i then j else i)) H):=by
 intro pins s σ H xs us Q I r h;obtain⟨i,j,rfl,q⟩:=h;obtain⟨u,w',rfl,⟨t,rfl⟩,⟨t',rfl⟩⟩:=vals2 r;refine max_two_ints (I.ok.hd hc) λh' tk k=>⟨_,H,I.kept k,?_,q⟩;by_cases hj:j > i
 ·rw[if_pos hj,if_pos hj];exact⟨_,rfl⟩
 ·rw[if_neg hj,if_neg hj];exact⟨_,rfl⟩
def LenV (K:Xa)(x:V)(H:Hp)(n:Nat):Prop:=
 match x with
 | .str y=>y.length<=Wn/\n=y.length
 | .byt y=>y.size<=Wn/\n=y.size
 | .ref p=>(∃xs,SqL K H p xs/\n=xs.length)\/∃xs,SqT K H p xs/\n=xs.length
 | _=>False
theorem zos:zde X (.builtin "len") (λxs H Q=>∃x n,xs=[x]/\LenV X.K x H n/\Q (.int n) H):=by
 intro pins s σ H xs us Q I r h;obtain⟨x,n,rfl,e,q⟩:=h;obtain⟨u,rfl,rx⟩:=vals1 r;have hl:=zgz;have hs:Wn=16777216:=Wo;cases x with
 | str y=>
  obtain⟨t,rfl⟩:=rx;obtain⟨hy,e'⟩:y.length<=Wn/\n=y.length:=e;subst e';exact len_str (by lia) ⟨.int _,H,I.tok _,⟨_,rfl⟩,q⟩
 | byt y=>
  obtain⟨t,rfl⟩:=rx;obtain⟨hy,e'⟩:y.size<=Wn/\n=y.size:=e;subst e';exact PySem.W.len_bytes (by lia) ⟨.int _,H,I.tok _,⟨_,rfl⟩,q⟩
 | ref p=>
  cases rx;have e':(∃xs,SqL X.K H p xs/\n=xs.length)\/∃xs,SqT X.K H p xs/\n=xs.length:=e;rcases e' with ⟨xs,hx,e'⟩ | ⟨xs,hx,e'⟩
  ·subst e';obtain⟨its,r',pl,hz⟩:=I.list hx;have hlen:=r'.length;exact Calls.call_len_list pl.isList (by simp only[Xj];lia) ⟨.int xs.length,H,I.tok _,⟨_,by simp only[Xj];rw[hlen]⟩,q⟩
  ·subst e';obtain⟨its,r',pl,hz⟩:=I.tuple hx;have hlen:=r'.length;exact len_tuple pl (by simp only[Xj];lia) ⟨.int xs.length,H,I.tok _,⟨_,by simp only[Xj];rw[hlen]⟩,q⟩
 | _=>exact(show False from e).elim
end
structure ObjM (h:Heap)(x dx C:We)(mA:Str->Option Wb):Prop where
 obj:h.get? x=some (PySem.W.instObj C dx)
 ns:h.Ns1 dx mA
 ne:dx≠x
theorem zma {h:Heap}{dx:We}{mA:Str->Option Wb}(n:h.Ns1 dx mA):∃od,h.get? dx=some od/\∀name,PySem.W.lookIn name od=some (mA name):=by
 obtain⟨o,es,ep,ho,hd,hk,_,hm⟩:=n;refine⟨o,ho,λname=>?_⟩;have e:=hm name;unfold nsFind findBy at e;rw[<- Array.find?_toList]at e;unfold PySem.W.lookIn;rw[hd];dsimp only;split
 ·rename_i y q
  rw[q]at e;exact congrArg some e
 ·rename_i q
  rw[q]at e;have a:es.toList.any (·.refKey)=false:=by
   rw[List.any_eq_false];intro y hy;obtain⟨z,t,hkey⟩:=hk y (Array.mem_toList_iff.mp hy);simp[DictEntry.refKey,hkey]
  have a':¬ es.toList.any (·.refKey)=true:=by rw[a];exact Xr
  rw[if_neg a'];exact congrArg some e
theorem ObjM.look {h:Heap}{x dx C:We}{mA:Str->Option Wb}(I:ObjM h x dx C mA):∃od,PySem.W.InstAt h x (PySem.W.instObj C dx) C (some od)/\∀name,PySem.W.lookIn name od=some (mA name):=
 let ⟨od,ho,hl⟩:=zma I.ns
 ⟨od,⟨I.obj,rfl,rfl,ho⟩,hl⟩
section
variable {prog:Wl}{w:Wt}{A:Wu}{E:Wb->Wd->Prop}{s:Wd}{K:Xa}{x dx C f:We}{mA:Str->Option Wb}{name:Str}{v:Wb}
theorem get_map {expr:Bool}{Q:Wb->Wd->Prop}(X:K.In s.heap)(I:ObjM s.heap x dx C mA)(hg:PySem.W.plainGet K C name=true)(hh:PySem.W.hasDictIn K C=true)
  (ha:Xy K (.ref C) name=some none) (hv:mA name=some v) (hv':PySem.W.handedIn v=true) (h:Q v { s with toks:=s.toks+1 }) :
  Wi (Wh prog w) A (getAttr (.ref x) name expr) Q E s:=by
 obtain⟨od,J,hl⟩:=I.look;exact PySem.W.get_value X J (PySem.W.plainGet_of hg).1 (PySem.W.findObj_own hh ha rfl (by rw[hl,hv])) hv' h
theorem zot {pl:Sem Bool}{Q:Wb×List Wb->Wd->Prop}(X:K.In s.heap)(I:ObjM s.heap x dx C mA)(hg:PySem.W.plainGet K C name=true)
  (hf:Xy K (.ref C) name=some (some (.ref f))) (ht:PySem.W.isFn K (.ref f)=true) (hv:mA name=none) (h:Q (.ref f,[.ref x]) s) :
  Wi (Wh prog w) A (Vp (.ref x) name pl) Q E s:=by
 obtain⟨od,J,hl⟩:=I.look;exact PySem.W.method_fn X J (PySem.W.plainGet_of hg).1 (PySem.W.plainGet_of hg).2 hf (beq_iff_eq.mp ht) (by show(PySem.W.lookIn name od).map (·.isSome)=some false;rw[hl,hv];rfl) h
theorem zqP {ns:List Str}{Q:Unit->Wd->Prop}(X:K.In s.heap)(I:ObjM s.heap x dx C mA)
  (hs:Xy K (.ref C) "__setattr__" = some (some (.builtin "object.__setattr__"))) (hp:PySem.W.plainOver K C=true) (ht:PySem.W.takerIn K C name=some none) (hh:PySem.W.hasDictIn K C=true)
  (hw:PySem.Within mA ns) (hsz:ns.length<=Wn)
  (h:∀h',ObjM h' x dx C (λy=>if y=name then some v else mA y)->Yi dx s.heap h'->Q () { s with heap:=h',toks:=s.toks+2 }) :
  Wi (Wh prog w) A (setAttr (.ref x) name v) Q E s:=by
 obtain⟨od,J,hl⟩:=I.look;refine PySem.W.set_plain X J hs (PySem.W.osa_open (s:={ s with toks:=s.toks+1 }) (r:=none) X J hp ht λb=>?_);obtain⟨cd,hc,hd'⟩:=PySem.W.any_some hh;have hx:s.heap.get? x=some ⟨.ref C,some dx,.plain,#[]⟩:=I.obj;refine Wa (Wf (Wa (Wa (wpAny_loadPart hx (Wa (PySem.W.Looks.here (s:={ s with toks:=s.toks+1 }) (PySem.W.looks_clsIn X hc) ?_))))));rw[hd'];refine Wf (a:=some dx) (Wa (Wf (Wa ?_)));refine wpAny_nsSet1 (s:={ s with toks:=s.toks+1 }) I.ns λh' hn2 hs2=>?_;obtain⟨oD,esD,epD,hoD,hdD,hcD⟩:=hn2.count (PySem.Within.cons name v hw);refine Wa (wpAny_lookBehind hoD (by rw[hdD];exact pastItsLine_dict (Xx hcD (by rw[XE];lia))) ?_);exact Wf (h _ ⟨(hs2.2 _ (Ne.symm I.ne)).trans I.obj,hn2,I.ne⟩ hs2)
theorem zou {R:Result->Wd->Prop}{vs:List Wb}{kw:List (Str×Wb)}(X:K.In s.heap)(hm:PySem.W.makesIn K C=true)
  (hi:Xy K (.ref C) "__init__" = some (some (.ref f))) (hf:PySem.W.typeIn K (.ref f)=some (.type "function"))
  (h:Vl (Wh prog w) (A.under (.builtin "type.__call__" ⟨.ref C::vs,kw⟩)) (.call (.ref f) ⟨.ref (s.heap.objs.size+1)::vs,kw⟩) (PySem.W.InitBack (s.heap.objs.size+1) R)
   {s with heap:=(s.heap.push YH).push (PySem.W.instObj C s.heap.objs.size) }) :
  Vl (Wh prog w) A (.call (.ref C) ⟨vs,kw⟩) R s:=by
 obtain⟨hh,g,d,t,os⟩:=s;exact PySem.W.make_core (PySem.W.makes_of X hm) (PySem.W.looks_findIn X hi) (λself=>PySem.W.bind_fn X self hf) (.inl rfl) h
end
def putF (f:Str)(v:V):List (Str×V)->List (Str×V)
 | []=>[(f,v)]
 | (g,x)::r=>if g=f then(g,v)::r else(g,x)::putF f v r
theorem zfv (f g:Str)(v:V):∀fs:List (Str×V),(putF f v fs).lookup g=if g=f then some v else fs.lookup g
 | []=>by
  show List.lookup g [(f,v)]=_;by_cases h:g=f
  ·have hb:(g == f)=true:=beq_iff_eq.mpr h;simp only[List.lookup,hb,if_pos h]
  ·have hb:(g == f)=false:=beq_eq_false_iff_ne.mpr h;simp only[List.lookup,hb,if_neg h]
 | (k,x)::r=>by
  have ih:=zfv f g v r;rw[show putF f v ((k,x)::r)=(if k=f then(k,v)::r else(k,x)::putF f v r) from rfl]
  by_cases hk:k=f
  ·rw[if_pos hk];by_cases h:g=k
   ·have hb:(g == k)=true:=beq_iff_eq.mpr h;simp only[List.lookup,hb,if_pos (h.trans hk)]
   ·have hb:(g == k)=false:=beq_eq_false_iff_ne.mpr h;simp only[List.lookup,hb,if_neg (λe:g=f=>h (e.trans hk.symm))]
  ·rw[if_neg hk];by_cases h:g=k
   ·have hb:(g == k)=true:=beq_iff_eq.mpr h;simp only[List.lookup,hb,if_neg (λe:g=f=>hk (h.symm.trans e))]
   ·have hb:(g == k)=false:=beq_eq_false_iff_ne.mpr h;simp only[List.lookup,hb];exact ih
theorem zfw (f:Str)(v:V):∀fs:List (Str×V),f∈(putF f v fs).map (·.1)/\∀g,g∈fs.map (·.1)->g∈(putF f v fs).map (·.1)
 | []=>⟨by simp[putF],λg h=>by simp at h⟩
 | (k,x)::r=>by
  obtain⟨i1,i2⟩:=zfw f v r;rw[show putF f v ((k,x)::r)=(if k=f then(k,v)::r else(k,x)::putF f v r) from rfl]
  by_cases hk:k=f
  ·rw[if_pos hk];subst hk;exact⟨by simp,λg h=>by simpa using h⟩
  ·rw[if_neg hk];refine⟨?_,λg h=>?_⟩
   ·rw[Xq];exact Xi _ i1
   ·rw[Xq]at h ⊢;rcases Xo.mp h with e | e
    ·exact Xo.mpr (.inl e)
    ·exact Xi _ (i2 g e)
theorem zfx (f:Str)(v:V):∀fs:List (Str×V),(putF f v fs).length<=fs.length+1
 | []=>by simp[putF]
 | (k,x)::r=>by
  have ih:=zfx f v r;rw[show putF f v ((k,x)::r)=(if k=f then(k,v)::r else(k,x)::putF f v r) from rfl]
  by_cases hk:k=f
  ·rw[if_pos hk,XE,XE];lia
  ·rw[if_neg hk,XE,XE];lia
theorem RelO.some_of {v:V}{o:Option Wb}(r:RelO (some v) o):∃u,o=some u/\RelV v u:=by
 cases o with
 | none=>exact(show False from r).elim
 | some u=>exact⟨u,rfl,r⟩
theorem RelO.none_of {o:Option Wb}(r:RelO none o):o=none:=by
 cases o with
 | none=>rfl
 | some u=>exact(show False from r).elim
theorem zmb {v:V}{u:Wb}(r:RelV v u):PySem.W.handedIn u=true:=by
 cases v with
 | non=>cases (show u=Value.none from r);rfl
 | bl b=>cases (show u=Value.bool b from r);rfl
 | int i=>obtain⟨t,e⟩:=(show ∃t,u=Value.int i t from r);cases e;rfl
 | str x=>obtain⟨t,e⟩:=(show ∃t,u=Value.str x t from r);cases e;rfl
 | byt b=>obtain⟨t,e⟩:=(show ∃t,u=Value.bytes b t from r);cases e;rfl
 | flt b=>obtain⟨t,e⟩:=(show ∃t,u=Value.float b t from r);cases e;rfl
 | ref a=>cases (show u=Value.ref a from r);rfl
 | ty n=>cases (show u=Value.type n from r);rfl
section
variable {P:Wl}{w:Wt}{H H':Hp}{h h':Heap}{a C dx:We}{fs fs':List (Str×V)}
theorem zjd (hok:HOk P w H h)(e:H a=some (.ins C dx fs)):∃mA,ObjM h a dx C mA/\(∀f,RelO (fs.lookup f) (mA f))/\PySem.Within mA (fs.map (·.1))/\fs.length<=1000/\H dx=some (.own a):=by
 obtain⟨d,z,ne,ob,mA,n,r,q⟩:=(show zbZ P w H h a (.ins C dx fs) from hok a _ e);exact⟨mA,⟨ob,n,ne⟩,r,q,z,d⟩
end
structure Cls (K:Xa)(C:We):Prop where
 pg:PySem.W.plainGet K C Str.empty=true
 hd:PySem.W.hasDictIn K C=true
 po:PySem.W.plainOver K C=true
 sa:Xy K (.ref C) "__setattr__" = some (some (.builtin "object.__setattr__"))
theorem Cls.get {K:Xa}{C:We}(c:Cls K C)(f:Str):PySem.W.plainGet K C f=true:=c.pg
def zcd (K:Xa)(C:We)(f:Str):Prop:=Xy K (.ref C) f=some none
theorem zcd.taker {K:Xa}{C:We}{f:Str}(n:zcd K C f):PySem.W.takerIn K C f=some none:=by
 unfold PySem.W.takerIn;rw[show Xy K (.ref C) f=some none from n];rfl
structure Meth (K:Xa)(C:We)(m:Str)(f:We):Prop where
 at_:Xy K (.ref C) m=some (some (.ref f))
 fn:PySem.W.isFn K (.ref f)=true
 kp:PySem.W.keepIn K (.ref f)=true
section
variable {X:Cx}{pins:List (We×Obj)}{σ:St}{H:Hp}{s:Wd}{a C dx:We}{fs:List (Str×V)}{f:Str}{v:V}{A:Wu}{E:Wb->Wd->Prop}
theorem zkZ {b:Bool}{Q:Wb->Wd->Prop}(I:Inv X pins σ H s)(e:H a=some (.ins C dx fs))(c:Cls X.K C)(n:zcd X.K C f)(l:fs.lookup f=some v)
  (h:∀u s',Inv X pins σ H s'->RelV v u->Q u s'):Wi (Wh X.prog X.w) A (getAttr (.ref a) f b) Q E s:=by
 obtain⟨mA,O,r,_,_,_⟩:=zjd I.hok e;obtain⟨u,hu,ru⟩:=RelO.some_of (v:=v) (o:=mA f) (by rw[<- l];exact r f);exact get_map I.kIn O (c.get f) c.hd n hu (zmb ru) (h u _ (I.tok _) ru)
theorem zgA {m:Str}{g:We}{pl:Sem Bool}{Q:Wb×List Wb->Wd->Prop}(I:Inv X pins σ H s)(e:H a=some (.ins C dx fs))(c:Cls X.K C)(k:Meth X.K C m g)(l:fs.lookup m=none)
  (h:Q (.ref g,[.ref a]) s):Wi (Wh X.prog X.w) A (Vp (.ref a) m pl) Q E s:=by
 obtain⟨mA,O,r,_,_,_⟩:=zjd I.hok e;have hn:mA m=none:=RelO.none_of (by rw[<- l];exact r m);exact zot I.kIn O (c.get m) k.at_ k.fn hn h
theorem zla {y:V}{u:Wb}{Q:Unit->Wd->Prop}(I:Inv X pins σ H s)(e:H a=some (.ins C dx fs))(c:Cls X.K C)(n:zcd X.K C f)(hl:fs.length<1000)(ry:RelV y u)
  (h:∀s',Inv X pins σ (upd H a (.ins C dx (putF f y fs))) s'->Q () s'):Wi (Wh X.prog X.w) A (setAttr (.ref a) f u) Q E s:=by
 obtain⟨mA,O,r,wi,_,ho⟩:=zjd I.hok e;have hz:(fs.map (·.1)).length<=Wn:=by rw[Xb,Wo];lia
 refine zqP I.kIn O c.sa c.po n.taker c.hd wi hz λh' O' sb=>h _ ?_;have hd:∃o,h'.get? dx=some o:=let ⟨o,_,_,e',_⟩:=O'.ns;⟨o,e'⟩;refine I.write (x:=a) (e:=dx) (by rw[e];exact True.intro) (.inr ho) (λb q hb z=>(sb.2 b hb).trans z) hd ?_;refine⟨by rw[zak O.ne];exact ho,?_,O.ne,O'.obj,_,O'.ns,λg=>?_,λg hg=>?_⟩
 ·have:=zfx f y fs;lia
 ·show RelO ((putF f y fs).lookup g) (if g=f then some u else mA g)
  rw[zfv];by_cases q:g=f
  ·rw[if_pos q,if_pos q];exact ry
  ·rw[if_neg q,if_neg q];exact r g
 ·by_cases q:g=f
  ·rw[q];exact(zfw f y fs).1
  ·refine(zfw f y fs).2 g (wi g λz=>hg ?_);show(if g=f then some u else mA g)=none
   rw[if_neg q];exact z
theorem Inv.made (I:Inv X pins σ H s):Inv X pins σ (upd (upd H s.heap.objs.size (.own (s.heap.objs.size+1))) (s.heap.objs.size+1) (.ins C s.heap.objs.size []))
  {s with heap:=(s.heap.push YH).push (PySem.W.instObj C s.heap.objs.size) }:=by
 have e1:(s.heap.push YH).get? s.heap.objs.size=some YH:=Xw s.heap rfl;have e2:((s.heap.push YH).push (PySem.W.instObj C s.heap.objs.size)).get? (s.heap.objs.size+1)=some (PySem.W.instObj C s.heap.objs.size):=by
  have:=Xw (s.heap.push YH) (o:=PySem.W.instObj C s.heap.objs.size) rfl
  rwa [Yr]at this
 have e3:(s.heap.push YH).Ns s.heap.objs.size (λ_=>none):=⟨YH,#[],_,e1,rfl,(λe he=>absurd he (by simp)),λ_=>rfl⟩;have I1:=I.laid (a:=s.heap.objs.size) (o:=.own (s.heap.objs.size+1)) (h':=s.heap.push YH) (t':=s.toks) (λb u q=>Xd _ q) (Xf _) ⟨_,e1⟩;refine I1.laid (a:=s.heap.objs.size+1) (o:=.ins C s.heap.objs.size []) (t':=s.toks) (λb u q=>Xd _ q) (YO (Yr _ _)) ?_;have ne:s.heap.objs.size≠s.heap.objs.size+1:=XB (XS _);refine⟨by rw[zak ne,zap],XH _,ne,e2,λ_=>none,(Heap.Ns1.of_empty e3).at λo q=>Xd _ q,λ_=>True.intro,λy hy=>absurd rfl hy⟩
theorem zqQ {prog:Wl}{w:Wt}{env:Env}{e:Expr}{f:Str}{pos:Pos}{s:Wd}{Q:Wb->Wd->Prop}(hb:W4 e f env (WA e env)=WA e env)
  (h:Wi (Wh prog w) A (WA e env) (λo s₁=>Wi (Wh prog w) A (getAttr o f true) Q E s₁) E s):Wi (Wh prog w) A (WA (.Attribute e f pos) env) Q E s:=
 Attribute_any_ h (by rw[arm_eval_Attribute,hb])
end
def tFld (K:Xa)(ta:TE)(f:Str):TE:=λσ H Q=>ta σ H λx H1=>∃a C dx fs v,x=.ref a/\H1 a=some (.ins C dx fs)/\Cls K C/\zcd K C f/\fs.lookup f=some v/\Q v H1
def sFld (K:Xa)(ta tv:TE)(f:Str):TS:=λD σ H=>tv σ H λy H1=>ta σ H1 λx H2=>∃a C dx fs,x=.ref a/\H2 a=some (.ins C dx fs)/\Cls K C/\zcd K C f/\fs.length<1000/\
 D.nx σ (upd H2 a (.ins C dx (putF f y fs)))
section
variable {X:Cx}{o e value:Expr}{f:Str}{pos pos' tpos:Pos}{ta tv:TE}
theorem zpT (he:PE X e ta)(hb:W4 e f X.env (WA e X.env)=WA e X.env):PE X (.Attribute e f pos) (tFld X.K ta f):=by
 intro pins s σ H Q I h;refine zqQ hb (thn (he pins s σ H _ I h) λu s1 ⟨x,H1,I1,rx,a,C,dx,fs,v,ex,ea,c,n,l,q⟩=>?_);subst ex;obtain rfl:u=Value.ref a:=rx;exact zkZ I1 ea c n l λu' s2 I2 ru=>⟨v,H1,I2,ru,q⟩
theorem zjJ (ha:PE X o ta)(hv:PE X value tv)(hs:WF value (some (.Attribute o f pos')) pos.line X.env=pure false):PS X (.Assign [.Attribute o f pos'] value pos) (sFld X.K ta tv f):=by
 intro pins s σ H D I h;refine plainObj_wpAny_Assign_Attribute (thn (hv pins s σ H _ I h) λu s1 ⟨y,H1,I1,ry,q⟩=>thn (ha pins s1 σ H1 _ I1 q) λov s2 ⟨x,H2,I2,rx,a,C,dx,fs,ex,ea,c,n,l,q2⟩=>?_) hs;subst ex;obtain rfl:ov=Value.ref a:=rx;exact zla I2 ea c n l ry λs3 I3=>⟨σ,_,I3,q2⟩
end
structure Room (k:Nat)(A:Wu):Prop where
 hd:A.handled=none
 dp:A.depth+3*k+5<recursionLimit
 un:A.units+16*k+200<Wz
theorem Room.mono {j k:Nat}{A:Wu}(r:Room k A)(h:j<=k):Room j A:=⟨r.hd,by have:=r.dp;lia,by have:=r.un;lia⟩
theorem Room.deeper {k:Nat}{A:Wu}(r:Room (k+1) A)(env:Env):Room k (A.deeper env):=
 ⟨r.hd,by have:=r.dp;show A.depth+1+3*k+5<_;lia,by have:=r.un;show A.units+3+16*k+200<_;lia⟩
theorem zlb {A:Wu}{C:We}{us:List Wb}{kw:List (Str×Wb)}:(A.under (.builtin "type.__call__" ⟨.ref C::us,kw⟩)).depth=A.depth+1:=by
 first | rfl | simp[Around.under,Code.weight,Code.isCreation,Code.isGuard,Code.isCaller,Code.frames,Code.isFrame,guardIds]
theorem zlc {A:Wu}{C:We}{us:List Wb}{kw:List (Str×Wb)}:(A.under (.builtin "type.__call__" ⟨.ref C::us,kw⟩)).units=A.units+1:=by
 first | rfl | simp[Around.under,Code.cUnits,Code.frames,Code.isFrame]
theorem Room.make {k:Nat}{A:Wu}(r:Room (k+1) A)(C:We)(us:List Wb)(kw:List (Str×Wb)):Room k (A.under (.builtin "type.__call__" ⟨.ref C::us,kw⟩)):=
 ⟨r.hd,by have:=r.dp;rw[zlb];lia,by have:=r.un;rw[zlc];lia⟩
theorem Room.depth {k:Nat}{A:Wu}(r:Room k A):A.depth<recursionLimit:=by have:=r.dp;lia
theorem Room.units {k:Nat}{A:Wu}(r:Room k A):A.units+64<Wz:=by have:=r.un;lia
def tNil:TA:=λ_ H Q=>Q [] H
def zuN (ta:TE)(tr:TA):TA:=λσ H Q=>ta σ H λx H1=>tr σ H1 λxs H2=>Q (x::xs) H2
section
variable {X:Cx}{e:Expr}{es:List Expr}{te:TE}{t:TA}{pos:Pos}
theorem zhR:PA X [] tNil:=λ_ _ _ _ H Q I h=>Calls.spliced_nil ⟨[],H,I,.nil,h⟩
theorem zfy (ha:PE X e te)(hr:PA X es t)(hs:Wg (e::es) X.env=(false,WA e X.env)::Wg es X.env:=by rfl):PA X (e::es) (zuN te t):=by
 intro pos pins s σ H Q I h;rw[hs];show Wi _ _ (spliced ((false,WA e X.env)::Wy pos (Wg es X.env))) _ _ s;refine Calls.spliced_cons (thn (ha pins s σ H _ I h) λu s1 ⟨x,H1,I1,r1,q1⟩=>?_);exact thn (hr pos pins s1 σ H1 _ I1 q1) λus s2 ⟨xs,H2,I2,r2,q2⟩=>⟨x::xs,H2,I2,.cons r1 r2,q2⟩
def tTup (t:TA):TE:=λσ H Q=>t σ H λxs H1=>xs.length<=Wn/\∀p,H1 p=none->Q (.ref p) (upd H1 p (.tup xs))
def tLst (t:TA):TE:=λσ H Q=>t σ H λxs H1=>xs.length<=Wn/\∀p,H1 p=none->Q (.ref p) (upd H1 p (.lst xs))
theorem zsL {x1}(h:PA X es t):PE X (.Tuple es x1 pos) (tTup t):=by
 intro pins s σ H Q I hq;refine wpAny_Tuple_spliced (thn (h pos pins s σ H _ I hq) λus s1 ⟨xs,H1,I1,r,z,q⟩=>⟨by rw[<- r.length];exact z,?_⟩);have hf:H1 s1.heap.objs.size=none:=I1.hok.fresh (Xf _);refine⟨.ref s1.heap.objs.size,upd H1 s1.heap.objs.size (.tup xs),I1.laid (t':=s1.toks) (λb u e=>Xd _ e) (Xf _) ?_,rfl,q _ hf⟩;exact⟨z,us,r,zdb.new _ _⟩
theorem zsM (h:PA X es t):PE X (.List es pos) (tLst t):=by
 intro pins s σ H Q I hq;refine wpAny_List_spliced (thn (h pos pins s σ H _ I hq) λus s1 ⟨xs,H1,I1,r,z,q⟩=>⟨by rw[<- r.length];exact z,?_⟩);have hf:H1 s1.heap.objs.size=none:=I1.hok.fresh (Xf _);refine⟨.ref s1.heap.objs.size,upd H1 s1.heap.objs.size (.lst xs),I1.laid (t':=s1.toks) (λb u e=>Xd _ e) (Xf _) ?_,rfl,q _ hf⟩;exact⟨z,us,0,r,Xw _ rfl⟩
end
abbrev Sp:=List V->Hp->VK->XK->Prop
abbrev CXT:=List Env->Hp->Wd->XK->Wb->Wd->Prop
structure Env0 (P:Wl)(w:Wt)(K:Xa)(mg:Str->Option Wb)(base:Heap)(A:Wu)(outer:List Env)(s:Wd)(H:Hp):Prop where
 frames:A.frames=some outer
 mod:Mod K mg base
 bs:∀b o,base.get? b=some o->s.heap.get? b=some o/\H b=none
 bsz:base.objs.size<=s.heap.objs.size
 funs:s.heap.FunFrames base outer
 frf:∀b∈frs outer,H b=none
 hok:HOk P w H s.heap
 bare:AllBare s.gens
def CE (outer:List Env)(P:Wl)(w:Wt)(H:Hp)(s:Wd)(Q:VK)(u:Wb)(s':Wd):Prop:=
 ∃v H',s'.os=s.os/\AllBare s'.gens/\Un (frs outer) [] H H' s.heap s'.heap/\HOk P w H' s'.heap/\RelV v u/\Q v H'
def CR (CX:CXT)(outer:List Env)(P:Wl)(w:Wt)(H:Hp)(s:Wd)(Q:VK)(E:XK)(r:Result)(s':Wd):Prop:=
 match r with
 | .ok (.ret u)=>CE outer P w H s Q u s'
 | .ok _=>False
 | .error e=>CX outer H s E e s'
structure FnOk (P:Wl)(w:Wt)(K:Xa)(mg:Str->Option Wb)(base:Heap)(CX:CXT)(k:Nat)(f:We)(fd:Wr)(ps:List Str)(sp:Sp):Prop where
 len:∀vs H Q E,sp vs H Q E->vs.length=ps.length
 run:∀(A:Wu) (outer:List Env) (s:Wd) (H:Hp) (args:Args) (us:List Wb) (vs:List V) (Q:VK) (E:XK),Room k A->Env0 P w K mg base A outer s H->BindsTo s fd args (ps.zip us)->Vals vs us->sp vs H Q E->
  Vl (Wh P w) A (.call (.ref f) args) (CR CX outer P w H s Q E) s
theorem FnOk.mono {P:Wl}{w:Wt}{K:Xa}{mg:Str->Option Wb}{base:Heap}{CX:CXT}{j k:Nat}{f:We}{fd:Wr}{ps:List Str}{sp:Sp}(F:FnOk P w K mg base CX j f fd ps sp)(h:j<=k) :
  FnOk P w K mg base CX k f fd ps sp:=⟨F.len,λA outer s H args us vs Q E hr=>F.run A outer s H args us vs Q E (hr.mono h)⟩
theorem Env0.make {P:Wl}{w:Wt}{K:Xa}{mg:Str->Option Wb}{base:Heap}{A:Wu}{outer:List Env}{s:Wd}{H:Hp}(e:Env0 P w K mg base A outer s H)(C:We)(us:List Wb)(kw:List (Str×Wb)) :
  Env0 P w K mg base (A.under (.builtin "type.__call__" ⟨.ref C::us,kw⟩)) outer s H:=⟨by first | exact e.frames | (simpa[Around.under,Code.envs,Code.isFrame,pushEnvs]using e.frames),e.mod,e.bs,e.bsz,e.funs,e.frf,e.hok,e.bare⟩
section
variable {X:Cx}{pins:List (We×Obj)}{σ:St}{H:Hp}{s s':Wd}
theorem Inv.env0 (I:Inv X pins σ H s):Env0 X.prog X.w X.K X.mg X.base X.A X.stack s H:=
 ⟨I.ok.frames,I.ok.mod,I.bs,Xx I.ok.bsz I.sz,I.stack,I.zlR,I.hok,I.bare⟩
theorem Inv.after {Q:VK}{u:Wb}(I:Inv X pins σ H s)(h:CE X.stack X.prog X.w H s Q u s'):EP X pins σ Q u s':=by
 obtain⟨v,H',os,bare,un,hok,r,q⟩:=h;obtain⟨hh,g,d,t,os'⟩:=s';obtain rfl:os'=s.os:=os;exact⟨v,H',I.call (h':=hh) (g':=g) (d':=d) (t':=t) (ch:=[]) un hok bare (λb z=>absurd z (by simp)),r,q⟩
end
def zsN (sp:Sp)(dvs:List V)(E:XK)(t:TA):TE:=λσ H Q=>t σ H λvs H1=>sp (vs++dvs) H1 Q E
def zsO (C:We)(m:Str)(sp:Sp)(dvs:List V)(E:XK)(ta:TE)(t:TA):TE:=λσ H Q=>ta σ H λx H1=>∃a dx fs,x=.ref a/\H1 a=some (.ins C dx fs)/\fs.lookup m=none/\
 t σ H1 λvs H2=>sp (x::(vs++dvs)) H2 Q E
def zuO (C:We)(sp:Sp)(dvs:List V)(E:XK)(t:TA):TE:=λσ H Q=>t σ H λvs H1=>∀x dx,H1 x=none->H1 dx=none->dx≠x->
 sp (.ref x::(vs++dvs)) (upd (upd H1 dx (.own x)) x (.ins C dx [])) (λv H2=>v=.non/\Q (.ref x) H2) E
def Binds (K:Xa)(fd:Wr)(ps:List Str)(ds:List Wb):Prop:=
 ∀(s:Wd) (us:List Wb),K.In s.heap->(us++ds).length=ps.length->BindsTo s fd ⟨us,[]⟩ (ps.zip (us++ds))
theorem Binds.all {K:Xa}{fd:Wr}{ps:List Str}(h:∀us:List Wb,us.length=ps.length->bindArgs fd ⟨us,[]⟩=pure (ps.zip us)):Binds K fd ps []:=λs us _ hl=>by
 rw[List.append_nil]at hl ⊢;exact .of_eq (h us hl)
def zfz (CX:CXT)(X:Cx)(E:XK):Prop:=∀(pins:List (We×Obj))(σ:St)(H:Hp)(s:Wd)(e:Wb)(s':Wd),Inv X pins σ H s->CX X.stack H s E e s'->X.xe e s'
section
variable {X:Cx}{CX:CXT}{k:Nat}{f C:We}{fd:Wr}{ps:List Str}{sp:Sp}{dvs:List V}{ds:List Wb}{E:XK}{x m:Str}{p pos apos:Pos}{e o:Expr}{es:List Expr}{ta:TE}{t:TA}
theorem zmc {pins:List (We×Obj)}{σ:St}{H:Hp}{s:Wd}{Q:VK}{us:List Wb}{vs:List V}(F:FnOk X.prog X.w X.K X.mg X.base CX k f fd ps sp)(hr:Room k X.A)(hb:Binds X.K fd ps ds)(hd:Vals dvs ds)(hx:zfz CX X E)
  (I:Inv X pins σ H s) (r:Vals vs us) (h:sp (vs++dvs) H Q E):Wi (Wh X.prog X.w) X.A (call (.ref f) us) (EP X pins σ Q) X.xe s:=by
 have r2:Vals (vs++dvs) (us++ds):=r.append hd;have hl:(us++ds).length=ps.length:=by rw[<- r2.length];exact F.len _ _ _ _ h
 refine wpAny_call (W8 (F.run X.A X.stack s H ⟨us,[]⟩ (us++ds) (vs++dvs) Q E hr I.env0 (hb s us I.kIn hl) r2 h) λr s' hq=>?_);cases r with
 | error e=>exact hx pins σ H s e s' I hq
 | ok fl=>
  cases fl with
  | ret u=>exact I.after hq
  | next=>exact False.elim hq
  | brk=>exact False.elim hq
  | cont=>exact False.elim hq
theorem zqR (F:FnOk X.prog X.w X.K X.mg X.base CX k f fd ps sp)(hr:Room k X.A)(hg:Gl X x)(hm:X.mg x=some (.ref f))(hk:PySem.W.keepIn X.K (.ref f)=true)(hb:Binds X.K fd ps ds)(hd:Vals dvs ds)(hx:zfz CX X E)
  (ha:PA X (e::es) t) (hdb:(x == ("__debug__" : Str))=false:=by decide) (he:Wg (e::es) X.env=(false,WA e X.env)::Wg es X.env:=by rfl) (hpl:(Wy pos (Wg es X.env)).any (·.1)=false:=by rfl) :
  PE X (.Call (.Name x p) (e::es) [] pos) (zsN sp dvs E t):=by
 intro pins s σ H Q I h;refine WO (zlT I hg hm ?_ hdb);refine PySem.W.callWith_K (h₀:=X.base) I.ok.mod.kin hk (thn (ha pos pins s σ H _ I h) λus s1 ⟨vs,H1,I1,r,q⟩=>⟨I1.kIn,?_⟩) he hpl;exact zmc F hr hb hd hx I1 r q
theorem zmd {pl:Sem Bool}(he:PE X o ta)(c:Cls X.K C)(hm:Meth X.K C m f)(F:FnOk X.prog X.w X.K X.mg X.base CX k f fd ps sp)(hr:Room k X.A)(hb:Binds X.K fd ps ds)(hd:Vals dvs ds)(hx:zfz CX X E)(ha:PA X (e::es) t)
  (hst:Wg (e::es) X.env=(false,WA e X.env)::Wg es X.env:=by rfl) (hpl:(Wy pos (Wg es X.env)).any (·.1)=false:=by rfl)
  (ht:WA (.Call (.Attribute o m apos) (e::es) [] pos) X.env=(do
   let ov <- WA o X.env
   Vq apos.atName
   let (f,first) <- WW [ov] (Vp ov m pl)
   callWith pos f first (Wy pos (Wg (e::es) X.env)) (Vm pos (W0 [] X.env))):=by rfl) :
  PE X (.Call (.Attribute o m apos) (e::es) [] pos) (zsO C m sp dvs E ta t):=by
 intro pins s σ H Q I h;refine PySem.W.methodCall_KW (pl:=pl) (thn (he pins s σ H _ I h) λu s1 ⟨x,H1,I1,rx,a,dx,fs,ex,ea,l,q⟩=>?_) ht;subst ex;obtain rfl:u=Value.ref a:=rx;refine zgA I1 ea c hm l ?_;refine PySem.W.callWith_K (first:=[.ref a]) (h₀:=X.base) I.ok.mod.kin hm.kp (thn (ha pos pins s1 σ H1 _ I1 q) λus s2 ⟨vs,H2,I2,r,q2⟩=>⟨I2.kIn,?_⟩) hst hpl
 exact zmc (us:=.ref a::us) (vs:=.ref a::vs) F hr hb hd hx I2 (.cons rfl r) q2
theorem zjK {pl:Sem Bool}(he:PE X o ta)(c:Cls X.K C)(hm:Meth X.K C m f)(F:FnOk X.prog X.w X.K X.mg X.base CX k f fd ps sp)(hr:Room k X.A)(hb:Binds X.K fd ps ds)(hd:Vals dvs ds)(hx:zfz CX X E)
  (ht:WA (.Call (.Attribute o m apos) [] [] pos) X.env=(do
   let ov <- WA o X.env
   Vq apos.atName
   let (f,first) <- WW [ov] (Vp ov m pl)
   callWith pos f first (Wy pos (Wg [] X.env)) (Vm pos (W0 [] X.env))):=by rfl) :
  PE X (.Call (.Attribute o m apos) [] [] pos) (zsO C m sp dvs E ta tNil):=by
 intro pins s σ H Q I h;refine PySem.W.methodCall_KW (pl:=pl) (thn (he pins s σ H _ I h) λu s1 ⟨x,H1,I1,rx,a,dx,fs,ex,ea,l,q⟩=>?_) ht;subst ex;obtain rfl:u=Value.ref a:=rx;refine zgA I1 ea c hm l ?_;exact PySem.W.callWith_K0 (first:=[.ref a]) I1.kIn hm.kp (zmc (us:=[.ref a]) (vs:=[.ref a]) F hr hb hd hx I1 (.cons rfl .nil) q)
structure Mk (K:Xa)(C f:We):Prop where
 makes:PySem.W.makesIn K C=true
 init:Xy K (.ref C) "__init__" = some (some (.ref f))
 fn:PySem.W.isFn K (.ref f)=true
 kp:PySem.W.keepIn K (.ref C)=true
theorem zov {pins:List (We×Obj)}{σ:St}{H:Hp}{s:Wd}{Q:VK}{us:List Wb}{vs:List V}(M:Mk X.K C f)(F:FnOk X.prog X.w X.K X.mg X.base CX k f fd ps sp)(hr:Room (k+1) X.A)(hb:Binds X.K fd ps ds)(hd:Vals dvs ds)
  (hx:zfz CX X E) (I:Inv X pins σ H s) (r:Vals vs us)
  (h:∀x dx,H x=none->H dx=none->dx≠x->sp (.ref x::(vs++dvs)) (upd (upd H dx (.own x)) x (.ins C dx [])) (λv H2=>v=.non/\Q (.ref x) H2) E) :
  Wi (Wh X.prog X.w) X.A (call (.ref C) us) (EP X pins σ Q) X.xe s:=by
 have hq:=h (s.heap.objs.size+1) s.heap.objs.size (I.hok.fresh (Yu _)) (I.hok.fresh (Xf _)) (XB (XS _));have I2:=Inv.made (C:=C) I;have r2:Vals (V.ref (s.heap.objs.size+1)::(vs++dvs)) (Value.ref (s.heap.objs.size+1)::(us++ds)):=.cons rfl (r.append hd);have hl:(Value.ref (s.heap.objs.size+1)::us++ds).length=ps.length:=by
  have e:=r2.length;rw[F.len _ _ _ _ hq]at e;exact e.symm
 refine wpAny_call (zou (f:=f) I.kIn M.makes M.init (beq_iff_eq.mp M.fn) (W8 (F.run _ X.stack _ _ ⟨Value.ref (s.heap.objs.size+1)::us,[]⟩ (Value.ref (s.heap.objs.size+1)::(us++ds)) _ _ E (hr.make C us [])
  (I2.env0.make C us []) (hb _ (Value.ref (s.heap.objs.size+1)::us) I2.kIn hl) r2 hq) λr s' hq'=>?_))
 cases r with
 | error e=>exact hx pins σ _ _ e s' I2 hq'
 | ok fl=>
  cases fl with
  | ret u=>
   obtain⟨v,H',I3,rv,ev,q3⟩:=I2.after hq';subst ev;exact⟨rv,⟨V.ref (s.heap.objs.size+1),H',I3,rfl,q3⟩⟩
  | next=>exact False.elim hq'
  | brk=>exact False.elim hq'
  | cont=>exact False.elim hq'
theorem zqS (M:Mk X.K C f)(F:FnOk X.prog X.w X.K X.mg X.base CX k f fd ps sp)(hr:Room (k+1) X.A)(hg:Gl X x)(hm:X.mg x=some (.ref C))(hb:Binds X.K fd ps ds)(hd:Vals dvs ds)(hx:zfz CX X E)
  (ha:PA X (e::es) t) (hdb:(x == ("__debug__" : Str))=false:=by decide) (he:Wg (e::es) X.env=(false,WA e X.env)::Wg es X.env:=by rfl) (hpl:(Wy pos (Wg es X.env)).any (·.1)=false:=by rfl) :
  PE X (.Call (.Name x p) (e::es) [] pos) (zuO C sp dvs E t):=by
 intro pins s σ H Q I h;refine WO (zlT I hg hm ?_ hdb);refine PySem.W.callWith_K (h₀:=X.base) I.ok.mod.kin M.kp (thn (ha pos pins s σ H _ I h) λus s1 ⟨vs,H1,I1,r,q⟩=>⟨I1.kIn,?_⟩) he hpl;exact zov M F hr hb hd hx I1 r q
end
structure zan (N P:List Str)(sc:WX):Prop where
 kind:sc.kind=.function
 co:sc.isCoroutine=false
 gen:sc.isGenerator=false
 nd:N.Nodup
 pre:N.take P.length=P
 par:∀x∈P,sc.names.lookup x=some .local\/sc.names.lookup x=some .cell
 nofree:∀y∈sc.names,y.2≠.free
theorem zhS {kindOf:Str->Option Vg}{x:Str}:∀ {binds:List (Str×Wb)}{m:Str->Option Wb},(∀v,(x,v)∉binds)->bindL kindOf binds m x=m x
 | [],_,_=>rfl
 | (n,v)::r,m,h=>by
  unfold bindL;rw[zhS λw hw=>h w (Xi _ hw)];split
  ·have:x≠n:=by rintro rfl;exact h v Xh
   simp[this]
  ·rfl
theorem zhT {kindOf:Str->Option Vg}{x:Str}:∀ {binds:List (Str×Wb)}{m:Str->Option Wb},(∀v,(x,v)∉binds)->bindC kindOf binds m x=m x
 | [],_,_=>rfl
 | (n,v)::r,m,h=>by
  unfold bindC;rw[zhT λw hw=>h w (Xi _ hw)];split
  ·rfl
  ·have:x≠n:=by rintro rfl;exact h v Xh
   simp[this]
theorem zhU {kindOf:Str->Option Vg}{x:Str}{v:Wb}:∀ {P:List Str}{vs:List Wb}{i:Nat}{m:Str->Option Wb},P.Nodup->P[i]? = some x->vs[i]? = some v->kindOf x=some .local->
  bindL kindOf (P.zip vs) m x=some v
 | [],_,_,_,_,h,_,_=>by simp at h
 | _::_,[],_,_,_,_,h,_=>by simp at h
 | p::P,w::vs,0,m,nd,h1,h2,hk=>by
  simp at h1 h2;subst h1;subst h2;show bindL kindOf ((p,w)::P.zip vs) m p=_;unfold bindL;rw[zhS λv hv=>(XX.mp nd).1 (List.of_mem_zip hv).1,if_pos hk];simp
 | p::P,w::vs,i+1,m,nd,h1,h2,hk=>by
  show bindL kindOf ((p,w)::P.zip vs) m x=_;unfold bindL;exact zhU (i:=i) (XX.mp nd).2 (by simpa using h1) (by simpa using h2) hk
theorem zhV {kindOf:Str->Option Vg}{x:Str}{v:Wb}:∀ {P:List Str}{vs:List Wb}{i:Nat}{m:Str->Option Wb},P.Nodup->P[i]? = some x->vs[i]? = some v->kindOf x≠some .local->
  bindC kindOf (P.zip vs) m x=some v
 | [],_,_,_,_,h,_,_=>by simp at h
 | _::_,[],_,_,_,_,h,_=>by simp at h
 | p::P,w::vs,0,m,nd,h1,h2,hk=>by
  simp at h1 h2;subst h1;subst h2;show bindC kindOf ((p,w)::P.zip vs) m p=_;unfold bindC;rw[zhT λv hv=>(XX.mp nd).1 (List.of_mem_zip hv).1,if_neg hk];simp
 | p::P,w::vs,i+1,m,nd,h1,h2,hk=>by
  show bindC kindOf ((p,w)::P.zip vs) m x=_;unfold bindC;exact zhV (i:=i) (XX.mp nd).2 (by simpa using h1) (by simpa using h2) hk
def start (N:List Str)(vs:List V):St:=vs.map some++List.replicate (N.length-vs.length) none
def cxOf (CX:CXT)(P:Wl)(w:Wt)(K:Xa)(mg:Str->Option Wb)(base:Heap)(N:List Str)(qual:Str)(scope:WX)(f:We)(cd:Wb)(A:Wu)(outer:List Env)(s:Wd)(H:Hp)(E:XK):Cx where
 prog:=P
 w:=w
 K:=K
 mg:=mg
 base:=base
 A:=A.deeper (WB qual scope s.heap.objs.size f cd)
 N:=N
 s₀:=s
 H₀:=H
 env:=WB qual scope s.heap.objs.size f cd
 outer:=outer
 stack:=WB qual scope s.heap.objs.size f cd::outer
 ex:=[]
 calm:=true
 fn:=λ_=>true
 pn:=[]
 xe:=λe s'=>Wi (Wh P w) (A.deeper (WB qual scope s.heap.objs.size f cd)) (leaving (WB qual scope s.heap.objs.size f cd) e) (λ_ s''=>CX outer H s E e s'') (λe' s''=>CX outer H s E e' s'') s'
theorem zjL {sc:WX}{n:Nat}{x:Str}(h:sc.names.lookup x=some .cell):∃c,(WD n sc.names []).lookup x=some c:=by
 have q:=PySem.W.cellsFrom_some sc.names n [] (.inl h);exact Option.isSome_iff_exists.mp q
theorem zme {CX:CXT}{P:Wl}{w:Wt}{K:Xa}{mg:Str->Option Wb}{base:Heap}{N ps:List Str}{qual:Str}{scope:WX}{f:We}{cd:Wb}{A:Wu}{outer:List Env}{s s1:Wd}{H:Hp}{E:XK}{us:List Wb}{vs:List V}
  (S:zan N ps scope) (hd:A.handled=none) (e0:Env0 P w K mg base A outer s H) (hl:vs.length=ps.length) (r:Vals vs us)
  (x:InCallC s s.heap.objs.size (bindL (WB qual scope s.heap.objs.size f cd).kindOf (ps.zip us) λ_=>none) (WD (s.heap.objs.size+1) scope.names []) (bindC (WB qual scope s.heap.objs.size f cd).kindOf (ps.zip us) λ_=>none) s1) :
  Inv (cxOf CX P w K mg base N qual scope f cd A outer s H E) [] (start N vs) H s1:=by
 have hpl:ps.length<=N.length:=by have:=congrArg List.length S.pre;rw[XY]at this;lia
 obtain⟨h1,tk,rfl,hk⟩:=x.done;have noA:∀b:We,b∉(cxOf CX P w K mg base N qual scope f cd A outer s H E).ex:=λb z=>absurd (show b∈([]:List We) from z) (by simp);refine⟨⟨e0.mod,S.kind,rfl,rfl,Xf _,λy z c h1 h2=>?_,λy hy=>?_,λy c _ h=>?_,λ_=>hd,Around.frames_deeper e0.frames,.inr ⟨rfl,rfl⟩,λb z=>absurd z (noA b),e0.bs,e0.bsz,λb _ _=>noA b,λb z=>absurd z (noA b),e0.funs,e0.frf⟩,
  rfl,e0.bare,Un.kept hk,⟨_,x.toInCall.ns,λi y v h1 h2 h3=>?_⟩,λy c h=>⟨_,x.cell y c h⟩,e0.hok.fresh (Xf _),λy c h=>?_,λp hp=>absurd (show p∈([]:List (We×Obj)) from hp) (by simp),e0.hok.kept hk,?_⟩
 ·exact name_of_addr x.apart (PySem.mem_of_lookup h1) (PySem.mem_of_lookup h2)
 ·have hy:scope.names.lookup y=some .cell\/scope.names.lookup y=some .free:=hy;rcases hy with hy | hy
  ·exact zjL hy
  ·exact absurd rfl (S.nofree _ (PySem.mem_of_lookup hy))
 ·exact Ys (x.above y c (PySem.mem_of_lookup h))
 ·have hi:i<vs.length:=by
   unfold start at h2;by_cases hi:i<vs.length
   ·exact hi
   ·rw[Yy (by simpa using hi)]at h2;rw[List.getElem?_replicate]at h2;split at h2<;>cases h2
  have ha:vs[i]? = some v:=by
   unfold start at h2;rw[YG (by simpa using hi),Xl]at h2;cases e:vs[i]? with
   | none=>rw[e]at h2;cases h2
   | some a=>rw[e]at h2;cases h2;rfl
  obtain⟨u,hu,rv⟩:=r.get ha;have hp:ps[i]? = some y:=by
   rw[<- S.pre,List.getElem?_take_of_lt (by lia)];exact h1
  have ndP:ps.Nodup:=by rw[<- S.pre];exact S.nd.sublist (List.take_sublist _ _)
  refine⟨u,rv,?_⟩;rcases S.par y (Xu hp)with k | k
  ·exact .inl ⟨k,zhU ndP hp hu k⟩
  ·obtain⟨c,e⟩:=zjL (n:=s.heap.objs.size+1) k;refine .inr ⟨.inl k,c,e,?_⟩;have q:=x.cell y c e;rw[zhV ndP hp hu (by show scope.names.lookup y≠_;rw[k];decide)]at q;exact q
 ·exact e0.hok.fresh (Ys (x.above y c (PySem.mem_of_lookup h)))
 ·unfold start;show _=N.length;rw[Xm,Xb,List.length_replicate];lia
theorem zow {CX:CXT}{P:Wl}{w:Wt}{K:Xa}{mg:Str->Option Wb}{base:Heap}{k:Nat}{f:We}{name qual:Str}{params:Arguments}{body:List WC}{scope:WX}{dV kV doc pm cdv ct oc:Wb}{an od:Option We}
  {osl:Array (Option Wb)} {N ps:List Str} {sp:Sp} (lk:K.lookup f=some ⟨oc,od,.func (PySem.W.fnOf name qual params body scope dV kV doc pm an cdv ct),osl⟩) (hcd:PySem.W.codeIn K cdv qual=true) (S:zan N ps scope)
  (len:∀vs H Q E,sp vs H Q E->vs.length=ps.length)
  (hbody:∀(A:Wu) (outer:List Env) (s:Wd) (H:Hp) (vs:List V) (Q:VK) (E:XK),Room k (A.deeper (WB qual scope s.heap.objs.size f cdv))->sp vs H Q E->
   ∃t,PSs (cxOf CX P w K mg base N qual scope f cdv A outer s H E) body t/\t { nx:=λ_ H'=>Q .non H',rt:=Q } (start N vs) H) :
  FnOk P w K mg base CX (k+1) f (PySem.W.fnOf name qual params body scope dV kV doc pm an cdv ct) ps sp:=by
 refine⟨len,λA outer s H args us vs Q E hr e0 hb r hsp=>?_⟩;have hl:=len _ _ _ _ hsp;have KX:K.In s.heap:=e0.mod.kin.keeps λb o e=>(e0.bs b o e).1;have lim:s.heap.NoLimit:=e0.mod.nolimit.keeps λb o e=>(e0.bs b o e).1;have hkind:∀y∈ps.zip us,scope.names.lookup y.1=some .local\/(scope.names.lookup y.1=some .cell/\((WD (s.heap.objs.size+1) scope.names []).lookup y.1).isSome=true):=λ⟨n,v⟩ hy=>by
  rcases S.par n (List.of_mem_zip hy).1 with q | q
  ·exact .inl q
  ·exact .inr ⟨q,PySem.W.cellsFrom_some _ _ _ (.inl q)⟩
 refine codeAny_call_function hr.depth (KX _ _ lk) rfl S.co S.gen rfl (PySem.W.codeRec_of KX hcd) (hb _ _ _ _ ?_);refine wpAny_newFunctionEnv_cells S.kind hkind λenv he s1 x=>?_;subst he;refine⟨lim.keeps x.toInCall.keep,codeAny_func ?_⟩;obtain⟨t,ht,hq⟩:=hbody A outer s H vs Q E (hr.deeper _) hsp;have I:Inv (cxOf CX P w K mg base N qual scope f cdv A outer s H E) [] (start N vs) H s1:=zme S hr.hd e0 hl r x;refine WR (ht [] s1 (start N vs) H _ I hq) (λfl s' hs=>?_) λe s' hs=>hs;have fin:∀ {σ':St} {H':Hp} {v:V} {u:Wb},Inv (cxOf CX P w K mg base N qual scope f cdv A outer s H E) [] σ' H' s'->RelV v u->Q v H'->CE outer P w H s Q u s':=
  λ{σ' H' v u} J rv q=>⟨v,H',J.os,J.bare,J.base,J.hok,rv,q⟩
 cases fl with
 | ret u=>
  obtain⟨v,σ',H',J,rv,q⟩:=hs;exact fin J rv q
 | next=>
  obtain⟨σ',H',J,q⟩:=hs;exact fin (v:=V.non) (u:=Value.none) J rfl q
 | brk=>
  obtain⟨_,_,_,q⟩:=hs;exact False.elim q
 | cont=>
  obtain⟨_,_,_,q⟩:=hs;exact False.elim q
section
variable {X:Cx}{x:Str}{p pos:Pos}{e:Expr}{es:List Expr}{t:TA}{id T:String}{r:List V->Hp->VK->Prop}
def tCB (r:List V->Hp->VK->Prop)(t:TA):TE:=λσ H Q=>t σ H λvs H1=>r vs H1 Q
theorem zjM (hc:zde X (.builtin id) r)(hg:Gl X x)(hm:X.mg x=none)(hv:Ww x=some (.builtin id))(ha:PA X (e::es) t)(hn:x≠"__name__":=by decide) (hdb:(x == ("__debug__" : Str))=false:=by decide)
  (he:Wg (e::es) X.env=(false,WA e X.env)::Wg es X.env:=by rfl) (hpl:(Wy pos (Wg es X.env)).any (·.1)=false:=by rfl):PE X (.Call (.Name x p) (e::es) [] pos) (tCB r t):=by
 intro pins s σ H Q I h;refine WO (zfu I hg hm hv ?_ hn hdb);exact PyProof.Rows.callWith_builtin1 (thn (ha pos pins s σ H _ I h) λus s1 ⟨vs,H1,I1,r1,q1⟩=>hc pins s1 σ H1 vs us Q I1 r1 q1) he hpl
theorem zhW (hc:zde X (.type T) r)(hg:Gl X x)(hm:X.mg x=none)(hv:Ww x=some (.type T))(ha:PA X (e::es) t)(hn:x≠"__name__":=by decide) (hdb:(x == ("__debug__" : Str))=false:=by decide)
  (he:Wg (e::es) X.env=(false,WA e X.env)::Wg es X.env:=by rfl) (hpl:(Wy pos (Wg es X.env)).any (·.1)=false:=by rfl):PE X (.Call (.Name x p) (e::es) [] pos) (tCB r t):=by
 intro pins s σ H Q I h;refine WO (zfu I hg hm hv ?_ hn hdb);exact PyProof.Rows.callWith_type1 (thn (ha pos pins s σ H _ I h) λus s1 ⟨vs,H1,I1,r1,q1⟩=>hc pins s1 σ H1 vs us Q I1 r1 q1) he hpl
end
end L2
namespace HT
open PySem PyProof.Rows
def lexLt:List Int->List Int->Bool
 | [],[]=>false
 | [],_::_=>true
 | _::_,[]=>false
 | x::xs,y::ys=>if x=y then lexLt xs ys else decide (x<y)
theorem zeR (x y:Int)(xs ys:List Int):lexLt (x::xs) (y::ys)=if x=y then lexLt xs ys else decide (x<y):=rfl
theorem zej:lexLt [] []=false:=rfl
theorem zgn (y:Int)(ys:List Int):lexLt [] (y::ys)=true:=rfl
theorem zgo (x:Int)(xs:List Int):lexLt (x::xs) []=false:=rfl
theorem zox (A:Wu)(s:Wd)(a:Int)(t:Tok)(c:Int)(u:Tok):∃e,SeqAt.EqAt A s (.int a t) (.int c u) e/\(e=true↔a=c):=
 ⟨(a == c),SeqAt.EqAt.int_int a t c u,by simp⟩
theorem zoy (A:Wu)(s:Wd)(a:Int)(t:Tok)(c:Int)(u:Tok)(prog:Wl)(w:Wt)(E:Wb->Wd->Prop)(Q:Wb->Wd->Prop)(h:Q (.bool (decide (a<c))) s) :
  Wi (Wh prog w) A (richCompare .Lt (.int a t) (.int c u)) Q E s:=
 (PyProof.Rows.lt_int h:Wi (Wh prog w) A (WJ .Lt (.int a t) (.int c u)) Q E s)
section
open PySem.SeqAt
open PySem.MeetsSeq PySem.MeetsSeq2 PySem.MeetsSeq3
theorem zgY (l b:We)(items items2:Array Wb)(n n2:Nat)(dd dd2:Option We)(sl sl2:Array (Option Wb))(ns ms:List Int)(hi:WU items.toList ns)(hj:WU items2.toList ms) :
  Meets (Builtin.«tuple.__lt__» ⟨[.ref l,.ref b],[]⟩)
   (λ_ R s=>s.heap.get? l=some { cls:=.type "tuple",dict:=dd,data:=.seq items n,slots:=sl }/\s.heap.get? b=some { cls:=.type "tuple",dict:=dd2,data:=.seq items2 n2,slots:=sl2 }/\
    R (.ok (.ret (.bool (lexLt ns ms)))) s):=
 .of_wp λprog w A R s h=>by
  obtain⟨hp,g,d,tk,os⟩:=s;obtain⟨hl,hb,h⟩:=h;have f2:=AutoSeq1.sub_tuple_tuple;have z1:items.size=ns.length:=by rw[<- hi.length];simp
  have z2:items2.size=ms.length:=by rw[<- hj.length];simp
  wp_walk using wpAny_loadPart' hl,wpAny_loadPart' hb,wpAny_forIn_list _ (λrest b s'=>b.1=none/\s'=⟨hp,g,d,tk,os⟩/\∃(vs ws:List Wb) (ns' ms':List Int),rest=vs.zip ws/\
   WU vs ns'/\WU ws ms'/\ns'.length+items2.size=ms'.length+items.size/\R (.ok (.ret (.bool (lexLt ns' ms')))) ⟨hp,g,d,tk,os⟩) _
  case turn=>
   rintro⟨y,x⟩ rest b s' ⟨hb',rfl,vs,ws,ns',ms',hz,hvi,hwi,hlen,hR⟩;cases hvi with
   | nil=>rw[List.zip_nil_left]at hz;cases hz
   | cons a t hvi'=>
    cases hwi with
    | nil=>rw[List.zip_nil_right]at hz;cases hz
    | cons c u hwi'=>
     rw[Yb]at hz;injection hz with hyx hrest;injection hyx with hy hx;subst hy hx;rw[zeR]at hR;simp only[XE]at hlen;obtain⟨e,he,hiff⟩:=zox A.in1 ⟨hp,g,d,tk,os⟩ a t c u;refine Wa (he prog w _ _ ?_);cases e with
     | true=>
      rw[if_pos (hiff.mp rfl)]at hR
      wp_walk
      exact⟨rfl,rfl,_,_,_,_,hrest,hvi',hwi',by lia,hR⟩
     | false=>
      rw[if_neg (λq=>absurd (hiff.mpr q) Xr)]at hR;have hri:=zoy A.in1 ⟨hp,g,d,tk,os⟩ a t c u prog w
      wp_walk using hri
      exact⟨_,rfl,by simpa using hR⟩
  case fin=>
   rintro⟨b1,b2⟩ s' ⟨hb',rfl,vs,ws,ns',ms',hz,hvi,hwi,hlen,hR⟩;simp only at hb';subst hb';have hv:lexLt ns' ms'=decide (items.size<items2.size):=by
    cases hvi with
    | nil=>
     cases hwi with
     | nil=>
      simp only[YB]at hlen;rw[zej];exact(decide_eq_false (by lia)).symm
     | cons c u hw=>
      simp only[YB,XE]at hlen;rw[zgn];exact(decide_eq_true (by lia)).symm
    | cons a t hv=>
     cases hwi with
     | nil=>
      simp only[YB,XE]at hlen;rw[zgo];exact(decide_eq_false (by lia)).symm
     | cons c u hw=>
      rw[Yb]at hz;cases hz
   rw[hv]at hR
   wp_walk
   exact⟨_,rfl,by simpa[Builtin.Tuple.tupleCompareSizes]using hR⟩
  case h=>
   exact⟨rfl,rfl,items.toList,items2.toList,ns,ms,rfl,hi,hj,by lia,h⟩
end
section
variable {prog:Wl}{w:Wt}{A:Wu}{E:Wb->Wd->Prop}{s:Wd}
theorem zld {l b:We}{items items2:Array Wb}{ns ms:List Int}{Q:Wb->Wd->Prop}(hl:IsTup s.heap l items)(hb:IsTup s.heap b items2)(hi:WU items.toList ns)(hj:WU items2.toList ms)
  (hu:A.units<Wz) (h:Q (.bool (lexLt ns ms)) s):Wi (Wh prog w) A (WJ .Lt (.ref l) (.ref b)) Q E s:=by
 obtain⟨⟨cls,dd,data,sl⟩,ho,hc,n,hd⟩:=id hl;obtain⟨⟨cls2,dd2,data2,sl2⟩,ho2,hc2,n2,hd2⟩:=id hb;simp only at hc hd hc2 hd2;subst hc hd hc2 hd2;exact richCompare_meets_room (op:=.Lt) ⟨_,ho,rfl⟩ ⟨_,ho2,rfl⟩ PySem.F.slot_tuple_lt PySem.F.entry_tuple_lt (PySem.F.args_tuple_lt_2 _ _) (zgY l b items items2 n n2 dd dd2 sl sl2 ns ms hi hj)
  ⟨ho,ho2,show Value.bool (lexLt ns ms)≠Value.notImplemented/\Q (.bool (lexLt ns ms)) s from⟨(λx=>nomatch x),h⟩⟩ hu
def sIx (n d:Nat):Option Int->Nat
 | none=>d
 | some v=>if v<0 then(v+(n:Int)).toNat else min v.toNat n
theorem zjN (n d:Nat):sIx n d none=d:=rfl
theorem zdO (n d k:Nat):sIx n d (some (k:Int))=min k n:=by
 show(if (k:Int)<0 then((k:Int)+(n:Int)).toNat else min (k:Int).toNat n)=min k n
 rw[if_neg (by lia),Yc]
end
end HT
namespace L2
open PySem PySem.Spec PyProof.Rows
abbrev TO:=St->Hp->(Option Int->Hp->Prop)->Prop
def PO (X:Cx)(e:Option Expr)(t:TO):Prop:=
 ∀(pins:List (We×Obj)) (s:Wd) (σ:St) (H:Hp) (Q:Option Int->Hp->Prop),Inv X pins σ H s->t σ H Q->
  Wi (Wh X.prog X.w) X.A (evalPart e X.env) (λu s'=>∃o H',Inv X pins σ H' s'/\IsPart u o/\Q o H') X.xe s
def zqT:TO:=λ_ H Q=>Q none H
def zuP (t:TE):TO:=λσ H Q=>t σ H λx H1=>∃i,x=.int i/\Q (some i) H1
theorem intsAre_of {ns:List Int}:∀ {us:List Wb},Vals (ns.map V.int) us->WU us ns:=by
 induction ns with
 | nil=>intro us r;rw[List.map_nil]at r;cases r;exact .nil
 | cons n ns ih=>
  intro us r;rw[Xq]at r;cases r with
  | cons r1 r2=>
   obtain⟨t,e⟩:=r1;subst e;exact .cons n t (ih r2)
section
variable {X:Cx}{e:Expr}{te:TE}{lo hi:Option Expr}{tl th:TO}{pos p2:Pos}
theorem zqU:PO X none zqT:=by
 intro pins s σ H Q I h;rw[evalPart_none];exact Wf ⟨none,H,I,.none,h⟩
theorem zqV (h:PE X e te):PO X (some e) (zuP te):=by
 intro pins s σ H Q I hw;rw[evalPart_some];refine thn (h pins s σ H _ I hw) λu s1 ⟨x,H1,I1,r1,q1⟩=>?_;obtain⟨i,rfl,q⟩:=q1;obtain⟨t,rfl⟩:=r1;exact⟨some i,H1,I1,.int i t,q⟩
def SlR (X:Cx)(r:V->Option Int->Option Int->Hp->VK->Prop):Prop:=
 ∀(pins:List (We×Obj)) (s:Wd) (σ:St) (H:Hp) (x:V) (v vl vu:Wb) (lo hi:Option Int) (sl:We) (Q:VK),Inv X pins σ H s->RelV x v->s.heap.IsSliceOf sl vl vu .none->IsPart vl lo->IsPart vu hi->r x lo hi H Q->
  ∃T id,typeLookup (.type T) "__getitem__" = pure (some (.builtin id))/\s.TypeIs v T/\Wi (Wh X.prog X.w) X.A (getItem v (.ref sl)) (EP X pins σ Q) X.xe s
def tSl (r:V->Option Int->Option Int->Hp->VK->Prop)(te:TE)(tl th:TO):TE:=λσ H Q=>te σ H λx H1=>tl σ H1 λl H2=>th σ H2 λu H3=>r x l u H3 Q
theorem zjO {r:V->Option Int->Option Int->Hp->VK->Prop}(hr:SlR X r)(he:PE X e te)(hl:PO X lo tl)(hu:PO X hi th):PE X (.Subscript e (.Slice lo hi none p2) pos) (tSl r te tl th):=by
 intro pins s σ H Q I h;refine Subscript_ (thn (he pins s σ H _ I h) λv s1 ⟨x,H1,I1,r1,q1⟩=>?_);refine wpAny_Slice (thn (hl pins s1 σ H1 _ I1 q1) λvl s2 ⟨l,H2,I2,pl,q2⟩=>thn (hu pins s2 σ H2 _ I2 q2) λvu s3 ⟨u,H3,I3,pu,q3⟩=>?_);rw[evalPart_none];refine Wf ?_;have I4:Inv X pins σ H3 { s3 with heap:=s3.heap.push { cls:=.type "slice",data:=.fields #[vl,vu,.none] } }:=I3.kept (t':=s3.toks) λb ob q=>Xd _ q;obtain⟨T,id,hT,ht,hg⟩:=hr pins { s3 with heap:=s3.heap.push { cls:=.type "slice",data:=.fields #[vl,vu,.none] } } σ H3 x v vl vu l u s3.heap.objs.size Q I4 r1 (Heap.IsSliceOf.new ..) pl pu q3;show Wi (Wh X.prog X.w) X.A (subscriptTail e (.Slice lo hi none p2) v (.ref s3.heap.objs.size)) (EP X pins σ Q) X.xe { s3 with heap:=s3.heap.push { cls:=.type "slice",data:=.fields #[vl,vu,.none] } };exact tail_any (ops:=[.ref s3.heap.objs.size,v]) ht hT hg (by with_unfolding_all rfl)
def cutV (xs:List V)(lo hi:Option Int):List V:=(xs.drop (HT.sIx xs.length 0 lo)).take (HT.sIx xs.length xs.length hi-HT.sIx xs.length 0 lo)
theorem zje (xs:List V)(lo hi:Option Int):(cutV xs lo hi).length<=xs.length:=by
 unfold cutV;rw[XY,List.length_drop];lia
def rLtT (K:Xa):R2:=λx y H Q=>∃a b ns ms,x=.ref a/\y=.ref b/\SqT K H a (ns.map V.int)/\SqT K H b (ms.map V.int)/\Q (.bl (HT.lexLt ns ms)) H
theorem zsP (hu:X.A.units<Wz):OpR X (WJ .Lt) (rLtT X.K):=by
 intro pins s σ H x y v u Q I rx ry h;obtain⟨a,b,ns,ms,rfl,rfl,ha,hb,q⟩:=h;cases rx;cases ry;obtain⟨its,r1,p1,_⟩:=I.tuple ha;obtain⟨its2,r2,p2,_⟩:=I.tuple hb;have i1:WU its.toArray.toList ns:=intsAre_of r1;have i2:WU its2.toArray.toList ms:=intsAre_of r2;exact HT.zld p1 p2 i1 i2 hu ⟨.bl (HT.lexLt ns ms),H,I,rfl,q⟩
end
def ixN (n:Nat)(i:Int):Option Nat:=if 0<=i then(if i<n then some i.toNat else none) else if -(n:Int)<=i then some (i+n).toNat else none
def atI {α:Type}(xs:List α)(i:Int):Option α:=(ixN xs.length i).bind λj=>xs[j]?
theorem zmf {n:Nat}{i:Int}{j:Nat}(h:ixN n i=some j):seqIndex? i n=some j/\j<n/\-(n:Int)<=i/\i<n:=by
 unfold ixN at h;by_cases h0:0<=i
 ·rw[if_pos h0]at h;by_cases h1:i<n
  ·rw[if_pos h1]at h;have e:i.toNat=j:=Option.some.inj h;exact⟨by rw[seqIndex_of h0 h1,e],by lia,by lia,h1⟩
  ·rw[if_neg h1]at h;cases h
 ·rw[if_neg h0]at h;by_cases h1:-(n:Int)<=i
  ·rw[if_pos h1]at h;have e:(i+n).toNat=j:=Option.some.inj h;exact⟨by rw[seqIndex_neg (by lia) h1,e],by lia,h1,by lia⟩
  ·rw[if_neg h1]at h;cases h
theorem zfA {α:Type}{xs:List α}{i:Int}{v:α}(h:atI xs i=some v):∃j,seqIndex? i xs.length=some j/\xs[j]? = some v/\j<xs.length/\-(xs.length:Int)<=i/\i<xs.length:=by
 unfold atI at h;cases e:ixN xs.length i with
 | none=>rw[e]at h;cases h
 | some j=>
  rw[e]at h;obtain⟨h1,h2,h3,h4⟩:=zmf e;exact⟨j,h1,h,h2,h3,h4⟩
theorem zaR {α:Type}{xs:List α}{j:Nat}{v:α}(h:xs[j]? = some v):atI xs (j:Int)=some v:=by
 have hj:j<xs.length:=(Xe.mp h).1;have e:ixN xs.length (j:Int)=some j:=by
  unfold ixN;rw[if_pos (by lia),if_pos (by lia)];simp
 unfold atI;rw[e];exact h
theorem zgZ {α:Type}(xs:List α)(v:α):atI (xs++[v]) (-1)=some v:=by
 have hl:(xs++[v]).length=xs.length+1:=by simp
 have e:ixN (xs++[v]).length (-1)=some xs.length:=by
  unfold ixN;rw[hl,if_neg (by decide),if_pos (by lia)]
  congr 1
  lia
 unfold atI;rw[e];show(xs++[v])[xs.length]? = some v;simp
def zjf (b:Expr):Prop:=∀o i,subscripted b false o i=operate [o,i] (getItem o i)
def IxR (X:Cx)(r:R2):Prop:=
 ∀(value slice:Expr) (pins:List (We×Obj)) (s:Wd) (σ:St) (H:Hp) (x y:V) (v u:Wb) (Q:VK),Inv X pins σ H s->RelV x v->RelV y u->r x y H Q->
  subscripted slice false v u=operate [v,u] (getItem v u)->Wi (Wh X.prog X.w) X.A (subscriptTail value slice v u) (EP X pins σ Q) X.xe s
def MtR (X:Cx)(id:String)(r:V->List V->Hp->VK->Prop):Prop:=
 ∀(pins:List (We×Obj)) (s:Wd) (σ:St) (H:Hp) (x:V) (xs:List V) (v:Wb) (us:List Wb) (Q:VK),Inv X pins σ H s->RelV x v->Vals xs us->r x xs H Q->
  Wi (Wh X.prog X.w) X.A (call (.builtin id) (v::us)) (EP X pins σ Q) X.xe s
section
variable {X:Cx}{a b:Expr}{ta tb:TE}{pos:Pos}
theorem IxR.or {r r':R2}(h:IxR X r)(h':IxR X r'):IxR X (λx y H Q=>r x y H Q\/r' x y H Q):=by
 intro value slice pins s σ H x y v u Q I rx ry q hs;rcases q with q | q
 ·exact h value slice pins s σ H x y v u Q I rx ry q hs
 ·exact h' value slice pins s σ H x y v u Q I rx ry q hs
theorem zuQ {r:R2}(hr:IxR X r)(ha:PE X a ta)(hb:PE X b tb)(hs:zjf b):PE X (.Subscript a b pos) (tOp r ta tb):=by
 intro pins s σ H Q I h;exact Subscript_ (binT ha hb I h λv u s2 x y H2 I2 rx ry q=>hr a b pins s2 σ H2 x y v u Q I2 rx ry q (hs _ _))
def rIxL (K:Xa):R2:=λx y H Q=>∃p xs i v,x=.ref p/\y=.int i/\SqL K H p xs/\atI xs i=some v/\Q v H
def rIxT (K:Xa):R2:=λx y H Q=>∃p xs i v,x=.ref p/\y=.int i/\SqT K H p xs/\atI xs i=some v/\Q v H
def rIxS:R2:=λx y H Q=>∃z i c,x=.str z/\y=.int i/\z.length<=Wn/\atI z.cps.toList i=some c/\Q (.str ⟨#[c]⟩) H
theorem zqW:IxR X (rIxL X.K):=by
 intro value slice pins s σ H x y v u Q I rx ry h hs;obtain⟨p,xs,i,z,rfl,rfl,hq,he,q⟩:=h;cases rx;obtain⟨t,rfl⟩:=ry;obtain⟨its,r,pl,hz⟩:=I.list hq;obtain⟨j,h1,h2,h3,h4,h5⟩:=zfA he;obtain⟨w,ew,rw'⟩:=r.get h2;have hl:=r.length;have hn:=zgz;have fin:EP X pins σ Q w s:=⟨z,H,I,rw',q⟩;by_cases h0:0<=i
 ·have hj:i.toNat=j:=by
   rw[seqIndex_of h0 h5]at h1;exact Option.some.inj h1
  exact item_listR pl.isList h0 (by lia) (by rw[hj];simpa using ew) fin hs
 ·have hj:(i+(its.toArray.size:Int)).toNat=j:=by
   rw[seqIndex_neg (by lia) h4]at h1;rw[Xj,<- hl];exact Option.some.inj h1
  exact subscriptTail_builtinR (x:=w) pl.isList.typeIs slot_list_getitem.lookup
   (wpAny_getItem_list_neg (Q:=λr s'=>r=w/\EP X pins σ Q r s') pl.isList (by lia) (by rw[Xj]<;>lia) (by lia) (by rw[hj];simpa using ew) ⟨rfl,fin⟩) hs
theorem zsQ:IxR X (rIxT X.K):=by
 intro value slice pins s σ H x y v u Q I rx ry h hs;obtain⟨p,xs,i,z,rfl,rfl,hq,he,q⟩:=h;cases rx;obtain⟨t,rfl⟩:=ry;obtain⟨its,r,pl,hz⟩:=I.tuple hq;obtain⟨j,h1,h2,h3,h4,h5⟩:=zfA he;obtain⟨w,ew,rw'⟩:=r.get h2;have hl:=r.length;have hn:=zgz;have fin:EP X pins σ Q w s:=⟨z,H,I,rw',q⟩;exact subscriptTail_builtinR (x:=w) pl.typeIs slot_tuple_getitem.lookup
  (getItem_tuple (j:=j) (Q:=λr s'=>r=w/\EP X pins σ Q r s') pl (by lia) (by lia) (by rw[Xj,<- hl];exact h1) (by simpa using ew) ⟨rfl,fin⟩) hs
theorem zsR:IxR X rIxS:=by
 intro value slice pins s σ H x y v u Q I rx ry h hs;obtain⟨z,i,c,rfl,rfl,hz,he,q⟩:=h;obtain⟨t,rfl⟩:=rx;obtain⟨t',rfl⟩:=ry;obtain⟨j,h1,h2,h3,h4,h5⟩:=zfA he;have hl:z.cps.toList.length=z.length:=by simp[Str.length]
 rw[hl]at h1 h4 h5;have hn:=zgz;exact tail_any (typeIs_str s z t) slot_str_getitem.lookup (getItem_str (c:=c) (by
  have e1:decide (i < -(2 ^ 63:Int))=false:=decide_eq_false (by lia);have e2:decide (i>=2 ^ 63)=false:=decide_eq_false (by lia);rw[e1,e2,Bool.or_false]) (by rw[h1];simpa using h2) ⟨.str ⟨#[c]⟩,H,I.tok _,⟨_,rfl⟩,q⟩) hs
def rIx (K:Xa):R2:=λx y H Q=>rIxL K x y H Q\/rIxT K x y H Q\/rIxS x y H Q
theorem zsS:IxR X (rIx X.K):=zqW.or (zsQ.or zsR)
theorem zle (its:List Wb)(n j:Nat)(u:Wb):Obj.mapSeq (·.setIfInBounds j u) { cls:=.type "list",data:=.seq its.toArray n }={ cls:=.type "list",data:=.seq (its.set j u).toArray n }:=by
 simp[Obj.mapSeq]
theorem Inv.lst {pins:List (We×Obj)}{σ:St}{H:Hp}{s:Wd}{p:We}{xs:List V}(I:Inv X pins σ H s)(h:H p=some (.lst xs)) :
  ∃(its:List Wb) (n:Nat),Vals xs its/\s.heap.get? p=some { cls:=.type "list",data:=.seq its.toArray n }/\xs.length<=Wn:=by
 obtain⟨z,its,n,r,e⟩:=I.hok p _ h;exact⟨its,n,r,e,z⟩
theorem Inv.zsT {pins:List (We×Obj)}{σ:St}{H:Hp}{s:Wd}{p:We}{xs ys:List V}{its its':List Wb}{n n':Nat}{f:Obj->Obj}(I:Inv X pins σ H s)(h:H p=some (.lst xs))
  (ho:s.heap.get? p=some { cls:=.type "list",data:=.seq its.toArray n }) (hf:f { cls:=.type "list",data:=.seq its.toArray n }={ cls:=.type "list",data:=.seq its'.toArray n' }) (r:Vals ys its') (hz:ys.length<=Wn) (t:Nat) :
  Inv X pins σ (upd H p (.lst ys)) { s with heap:=s.heap.update p f,toks:=t }:=by
 have e:(s.heap.update p f).get? p=some { cls:=.type "list",data:=.seq its'.toArray n' }:=by
  rw[Yg f ho (by rw[hf]<;>rfl),hf]
 refine I.write (x:=p) (e:=p) (by rw[h];trivial) (.inl rfl) (λb u hb q=>(Yj _ _ (Ne.symm hb)).trans q) ⟨_,e⟩ ?_;exact⟨hz,its',n',r,e⟩
def zuR:V->V->V->Hp->(Hp->Prop)->Prop:=λo i v H Q=>∃p xs k j,o=.ref p/\i=.int k/\H p=some (.lst xs)/\ixN xs.length k=some j/\Q (upd H p (.lst (xs.set j v)))
theorem set_list:PSet X zuR:=by
 intro pins s σ H o i v ov iv u Q I ro ri rv h;obtain⟨p,xs,k,j,rfl,rfl,hp,hj,q⟩:=h;cases ro;obtain⟨t,rfl⟩:=ri;obtain⟨its,n,r,ho,hz⟩:=I.lst hp;obtain⟨h1,h2,h3,h4⟩:=zmf hj;have hl:=r.length;have hn:=zgz;have I':Inv X pins σ (upd H p (.lst (xs.set j v))) { s with heap:=s.heap.update p (Obj.mapSeq (·.setIfInBounds j u)) }:=
  I.zsT hp ho (zle its n j u) (r.set rv j) (by rw[Yk];exact hz) s.toks
 by_cases h0:0<=k
 ·have hk:k.toNat=j:=by
   rw[seqIndex_of h0 h4]at h1;exact Option.some.inj h1
  exact PySem.W.ki_setAt ho h0 (by lia) (by rw[Xj,<- hl];exact h4) (by rw[hk];exact⟨_,I',q⟩)
 ·have hk:(k+(its.toArray.size:Int)).toNat=j:=by
   rw[seqIndex_neg (by lia) h3]at h1;rw[Xj,<- hl];exact Option.some.inj h1
  exact PySem.W.ki_setBack ho (by lia) (by rw[Xj,<- hl];exact h3) (by lia) (by rw[hk];exact⟨_,I',q⟩)
theorem zhX (lo hi:Option Int)(n:Nat):(Vj lo hi none n).1=((HT.sIx n 0 lo:Nat):Int)/\(Vj lo hi none n).2.1=((HT.sIx n n hi:Nat):Int)/\(Vj lo hi none n).2.2=1:=by
 refine⟨?_,?_,rfl⟩
 ·cases lo with
  | none=>simp[Vj,HT.sIx]
  | some i=>
   simp only[Vj,HT.sIx,Option.getD_none,show(1:Int) > 0 by decide,if_true];by_cases h:i<0
   ·simp only[h,if_true]<;>lia
   ·simp only[h,if_false]<;>lia
 ·cases hi with
  | none=>simp[Vj,HT.sIx]
  | some i=>
   simp only[Vj,HT.sIx,Option.getD_none,show(1:Int) > 0 by decide,if_true];by_cases h:i<0
   ·simp only[h,if_true]<;>lia
   ·simp only[h,if_false]<;>lia
theorem zha (its:List Wb)(lo hi:Option Int):slicePick its.toArray lo hi none=((its.drop (HT.sIx its.length 0 lo)).take (HT.sIx its.length its.length hi-HT.sIx its.length 0 lo)).toArray:=by
 obtain⟨h1,h2,h3⟩:=zhX lo hi its.toArray.size;unfold slicePick;rw[h1,h2,h3];simp only[sliceRange_one,pick_run,Xj]<;>rfl
def rSlL (K:Xa):V->Option Int->Option Int->Hp->VK->Prop:=λx lo hi H Q=>∃a xs,x=.ref a/\SqL K H a xs/\∀p,H p=none->Q (.ref p) (upd H p (.lst (cutV xs lo hi)))
theorem zqX:SlR X (rSlL X.K):=by
 intro pins s σ H x v vl vu lo hi sl Q I rx hs pl pu h;obtain⟨a,xs,rfl,hx,q⟩:=h;cases rx;obtain⟨its,r,ht,hz⟩:=I.list hx;have hlen:=r.length;refine⟨"list",_,slot_list_getitem.lookup,ht.isList.typeIs,?_⟩;refine wpAny_getItem_list_slice ht.isList hs pl pu .none (by simp) ?_ (by rw[Xj]<;>lia);rw[zha,<- hlen];refine⟨.ref s.heap.objs.size,_,I.laid (t':=s.toks) (o:=.lst (cutV xs lo hi)) (λb ob q=>Xd _ q) (Xf _) ?_,rfl,q _ (I.hok.fresh (Xf _))⟩;exact⟨Xx (zje xs lo hi) hz,_,0,(r.drop (HT.sIx xs.length 0 lo)).take (HT.sIx xs.length xs.length hi-HT.sIx xs.length 0 lo),Xw _ rfl⟩
def zek:V->Bool
 | .non=>true
 | .bl _=>true
 | .int _=>true
 | .str _=>true
 | _=>false
def eqV:V->V->Bool
 | .non,.non=>true
 | .bl a,.bl b=>a == b
 | .bl a,.int b=>(if a then 1 else 0) == b
 | .int a,.bl b=>a == (if b then 1 else 0)
 | .int a,.int b=>a == b
 | .str a,.str b=>a == b
 | _,_=>false
theorem zsU {A:Wu}{s:Wd}{y x:V}{u v:Wb}(ry:RelV y u)(rx:RelV x v)(fy:zek y=true)(fx:zek x=true):SeqAt.EqAt A s u v (eqV y x):=by
 cases y with
 | non=>
  cases ry;cases x with
  | non=>cases rx;exact SeqAt.EqAt.same _
  | bl b=>cases rx;exact SeqAt.EqAt.none_bool b
  | int b=>obtain⟨t,rfl⟩:=rx;exact SeqAt.EqAt.none_int b t
  | str b=>obtain⟨t,rfl⟩:=rx;exact SeqAt.EqAt.none_str b t
  | _=>exact absurd (show false=true from fx) Xr
 | bl a=>
  cases ry;cases x with
  | non=>cases rx;exact SeqAt.EqAt.bool_none a
  | bl b=>cases rx;exact SeqAt.EqAt.bool_bool a b
  | int b=>obtain⟨t,rfl⟩:=rx;exact SeqAt.EqAt.bool_int a b t
  | str b=>obtain⟨t,rfl⟩:=rx;exact SeqAt.EqAt.bool_str a b t
  | _=>exact absurd (show false=true from fx) Xr
 | int a=>
  obtain⟨t',rfl⟩:=ry;cases x with
  | non=>cases rx;exact SeqAt.EqAt.int_none a t'
  | bl b=>cases rx;exact SeqAt.EqAt.int_bool a t' b
  | int b=>obtain⟨t,rfl⟩:=rx;exact SeqAt.EqAt.int_int a t' b t
  | str b=>obtain⟨t,rfl⟩:=rx;exact SeqAt.EqAt.int_str a t' b t
  | _=>exact absurd (show false=true from fx) Xr
 | str a=>
  obtain⟨t',rfl⟩:=ry;cases x with
  | non=>cases rx;exact SeqAt.EqAt.str_none a t'
  | bl b=>cases rx;exact SeqAt.EqAt.str_bool a t' b
  | int b=>obtain⟨t,rfl⟩:=rx;exact SeqAt.EqAt.str_int a t' b t
  | str b=>obtain⟨t,rfl⟩:=rx;exact SeqAt.EqAt.str_str a t' b t
  | _=>exact absurd (show false=true from fx) Xr
 | _=>exact absurd (show false=true from fy) Xr
def eqU (x:V)(u:Wb):Bool:=match u with
 | .none=>eqV .non x
 | .bool b=>eqV (.bl b) x
 | .int i _=>eqV (.int i) x
 | .str z _=>eqV (.str z) x
 | _=>false
theorem zpU {x y:V}{u:Wb}(r:RelV y u)(f:zek y=true):eqU x u=eqV y x:=by
 cases y with
 | non=>cases r;rfl
 | bl b=>cases r;rfl
 | int i=>obtain⟨t,rfl⟩:=r;rfl
 | str z=>obtain⟨t,rfl⟩:=r;rfl
 | _=>exact absurd (show false=true from f) Xr
theorem zhb {A:Wu}{s:Wd}{x:V}{v:Wb}(rx:RelV x v)(fx:zek x=true):∀ {xs:List V}{us:List Wb},Vals xs us->xs.all zek=true->∀u∈us,SeqAt.EqAt A s u v (eqU x u)
 | _,_,.nil,_=>λu hu=>by cases hu
 | y::xs,u::us,.cons r t,f=>λu' hu=>by
  rw[List.all_cons,Yo]at f;rcases Xo.mp hu with rfl | hu
  ·rw[zpU r f.1];exact zsU r rx f.1 fx
  ·exact zhb rx fx t f.2 u' hu
theorem zhY:zde X (.type "list") (λxs H Q=>∃p ys,xs=[.ref p]/\(SqL X.K H p ys\/SqT X.K H p ys)/\∀l,H l=none->Q (.ref l) (upd H l (.lst ys))):=by
 intro pins s σ H xs us Q I r h;obtain⟨p,ys,rfl,hq,q⟩:=h;obtain⟨u,rfl,rx⟩:=vals1 r;cases rx;have fin:∀(its:List Wb),Vals ys its->ys.length<=Wn->∀(h':Heap) (c':Nat),(∀b o',s.heap.get? b=some o'->h'.get? b=some o')->
   h'.get? s.heap.objs.size=some { cls:=.type "list",dict:=none,data:=.seq its.toArray c',slots:=#[] }->EP X pins σ Q (.ref s.heap.objs.size) { s with heap:=h' }:=λits r' hz h' c' kp e=>
  ⟨.ref s.heap.objs.size,_,I.laid (t':=s.toks) kp (Xf _) (show zbZ X.prog X.w _ h' _ (.lst ys) from⟨hz,its,c',r',e⟩),rfl,q _ (I.hok.fresh (Xf _))⟩
 rcases hq with hq | hq
 ·obtain⟨its,r',pl,hz⟩:=I.list hq;have hlen:=r'.length;obtain⟨o,ho,hc,n,hd⟩:=pl.isList;exact call_list_seq p (.inl rfl) ho hc hd (λh' c' kp e=>fin its r' hz h' c' kp e) (by simp only[Xj]<;>lia)
 ·obtain⟨its,r',pl,hz⟩:=I.tuple hq;have hlen:=r'.length;obtain⟨o,ho,hc,n,hd⟩:=pl;exact call_list_seq p (.inr rfl) ho hc hd (λh' c' kp e=>fin its r' hz h' c' kp e) (by simp only[Xj]<;>lia)
theorem zhc:zde X (.type "tuple") (λxs H Q=>∃p ys,xs=[.ref p]/\((SqL X.K H p ys/\∀l,H l=none->Q (.ref l) (upd H l (.tup ys)))\/(SqT X.K H p ys/\Q (.ref p) H))):=by
 intro pins s σ H xs us Q I r h;obtain⟨p,ys,rfl,h⟩:=h;obtain⟨u,rfl,rx⟩:=vals1 r;cases rx;rcases h with ⟨hq,q⟩ | ⟨hq,q⟩
 ·obtain⟨its,r',pl,hz⟩:=I.list hq;have hlen:=r'.length;refine call_tuple_list pl.isList (λh' kp=>?_) (by simp only[Xj]<;>lia);have I1:Inv X pins σ H { s with heap:=h' }:=I.kept (t':=s.toks) kp;have I2:Inv X pins σ (upd H h'.objs.size (.tup ys)) { s with heap:=h'.push { cls:=.type "tuple",data:=.seq its.toArray } }:=
   I1.laid (t':=s.toks) (λb o e=>Xd _ e) (Xf _) (show zbZ X.prog X.w _ _ _ (.tup ys) from⟨hz,its,r',zdb.new _ _⟩)
  exact⟨.ref h'.objs.size,_,I2,rfl,q _ (I1.hok.fresh (Xf _))⟩
 ·obtain⟨its,r',pl,hz⟩:=I.tuple hq;exact call_tuple_same pl ⟨.ref p,H,I,rfl,q⟩
def tyV (K:Xa)(T:String)(x:V)(H:Hp):Prop:=match x with
 | .str _=>T = "str"
 | .int _=>T = "int"
 | .ref p=>(T = "list"/\∃xs,SqL K H p xs)\/(T = "tuple"/\∃o,K.lookup p=some o/\o.cls=.type "tuple"/\o.dict=none)\/
   (T = "dict"/\((∃kvs,H p=some (.dK kvs))\/∃kvs,H p=some (.dT kvs)))\/(T = "set"/\∃S n,H p=some (.set S n))
 | _=>False
theorem zsV {pins:List (We×Obj)}{σ:St}{H:Hp}{s:Wd}{T:String}{x:V}{v:Wb}(I:Inv X pins σ H s)(r:RelV x v)(ty:tyV X.K T x H) :
  s.TypeIs v T/\∀a,v=.ref a->∃ob,s.heap.get? a=some ob/\ob.dict=none:=by
 cases x with
 | str z=>
  obtain⟨t,rfl⟩:=r;cases (show T = "str" from ty);exact⟨typeIs_str s z t,λ_ e=>nomatch e⟩
 | int i=>
  obtain⟨t,rfl⟩:=r;cases (show T = "int" from ty);exact⟨typeIs_int s i t,λ_ e=>nomatch e⟩
 | ref p=>
  cases r;rcases ty with ⟨rfl,xs,hq⟩ | ⟨rfl,o,hk,hc,hd⟩ | ⟨rfl,hk⟩ | ⟨rfl,S,n,hk⟩
  ·obtain⟨its,_,pl,_⟩:=I.list hq;refine⟨pl.isList.typeIs,λa e=>?_⟩;cases e;obtain⟨o,n,e,c,hd,_⟩:=pl;exact⟨o,e,hd⟩
  ·refine⟨⟨o,I.kIn p o hk,hc⟩,λa e=>?_⟩;cases e;exact⟨o,I.kIn _ o hk,hd⟩
  ·have z:∃o,s.heap.get? p=some o/\o.ExactDict:=by
    rcases hk with ⟨kvs,hk⟩ | ⟨kvs,hk⟩
    ·obtain⟨_,_,_,_,o,_,_,e,ex,_⟩:=I.hok p _ hk;exact⟨o,e,ex⟩
    ·obtain⟨_,_,_,_,o,_,_,e,ex,_⟩:=I.hok p _ hk;exact⟨o,e,ex⟩
   obtain⟨o,e,ex⟩:=z;refine⟨⟨o,e,ex.1⟩,λa e2=>?_⟩;cases e2;exact⟨o,e,ex.2.1⟩
  ·obtain⟨o,_,_,_,e,ex,_⟩:=I.hok p _ hk;refine⟨⟨o,e,ex.1⟩,λa e2=>?_⟩;cases e2;exact⟨o,e,ex.2.1⟩
 | _=>exact False.elim ty
def tBM (K:Xa)(T:String)(r:V->List V->Hp->VK->Prop)(to:TE)(t:TA):TE:=λσ H Q=>to σ H λx H1=>tyV K T x H1/\t σ H1 λxs H2=>r x xs H2 Q
variable {o e:Expr}{es:List Expr}{to:TE}{t:TA}{name:Str}{apos cpos:Pos}{T id:String}{r:V->List V->Hp->VK->Prop}
theorem zsW (pa:PlainAttrs T)(slot:Slot T name id)(hty:typeOf (.builtin id)=pure (.type "method_descriptor")) (hm:MtR X id r) (ho:PE X o to) (ha:PA X (e::es) t)
  (hbase:W4 o name X.env (WA o X.env)=WA o X.env:=by rfl)
  (hfew:((Wy cpos (Wg (e::es) X.env)).all (λx=>!x.1)&&(Vm cpos (W0 [] X.env)).all (λx=>x.1.isSome)
   && decide ((e::es).length+([]:List Keyword).length+(if ([]:List Keyword).isEmpty then 0 else 1)<30))=true:=by rfl)
  (hline:(apos.endLine == cpos.line)=true:=by rfl) (hs:Wg (e::es) X.env=(false,WA e X.env)::Wg es X.env:=by rfl) (hplain:(Wy cpos (Wg es X.env)).any (·.1)=false:=by rfl) :
  PE X (.Call (.Attribute o name apos) (e::es) [] cpos) (tBM X.K T r to t):=by
 intro pins s σ H Q I h;refine wpAny_Call_method_late hbase hfew hline rfl (thn (ho pins s σ H _ I h) λv s1 ⟨x,H1,I1,r1,ty,q1⟩=>?_);obtain⟨h1,h2⟩:=zsV I1 r1 ty;refine⟨T,id,pa,slot,hty,h1,h2,?_⟩;have hA:=ha cpos pins s1 σ H1 _ I1 q1;rw[hs]at hA ⊢;refine Calls.callWith_builtin (by show(false||(Wy cpos (Wg es X.env)).any (·.1))=false;rw[hplain]<;>rfl) (Calls.evalArgs_plain ?_)
 exact thn hA λus s2 ⟨vs,H2,I2,r2,q2⟩=>hm pins s2 σ H2 x vs v us Q I2 r1 r2 q2
end
def MtM (X:Cx)(id:String)(r:V->List V->Hp->VK->Prop):Prop:=
 ∀(pins:List (We×Obj)) (s:Wd) (σ:St) (H:Hp) (x:V) (xs:List V) (v:Wb) (us:List Wb) (Q:VK),Inv X pins σ H s->RelV x v->Vals xs us->r x xs H Q->
  Wi (Wh X.prog X.w) X.A (call (.builtin id) (v::us)) (EP X pins σ Q) X.xe s
theorem Vals.one:∀ {x:V}{us:List Wb},Vals [x] us->∃u,us=[u]/\RelV x u:=by
 intro x us h;cases h with
 | cons r t=>cases t;exact⟨_,rfl,r⟩
section
variable {X:Cx}{pins:List (We×Obj)}{σ:St}{H:Hp}{s:Wd}{l b:We}{xs ys zs:List V}
theorem Inv.lset {its its':List Wb}{n:Nat}{f:Array Wb->Array Wb}{t':Nat}(I:Inv X pins σ H s)(hH:H l=some (.lst xs))
  (e:s.heap.get? l=some { cls:=.type "list",data:=.seq its.toArray n }) (hf:f its.toArray=its'.toArray) (hv:Vals ys its') (hz:ys.length<=Wn) :
  Inv X pins σ (upd H l (.lst ys)) { s with heap:=s.heap.update l (Obj.mapSeq f),toks:=t' }:=by
 have q:=PySem.IsL.update e f;rw[hf]at q;refine I.write (x:=l) (e:=l) (by rw[hH];exact trivial) (.inl rfl) (λb' u hb hu=>(Yj s.heap (Obj.mapSeq f) (Ne.symm hb)).trans hu) ⟨_,q⟩ ?_;exact⟨hz,its',_,hv,q⟩
theorem Inv.lnew {its:List Wb}{t':Nat}(I:Inv X pins σ H s)(hv:Vals ys its)(hz:ys.length<=Wn) :
  Inv X pins σ (upd H s.heap.objs.size (.lst ys)) { s with heap:=s.heap.push { cls:=.type "list",data:=.seq its.toArray },toks:=t' }:=
 I.laid (λ_ _ q=>Xd _ q) (Xf _) ⟨hz,its,0,hv,Xw _ rfl⟩
theorem Inv.fresh (I:Inv X pins σ H s):H s.heap.objs.size=none:=I.hok.fresh (Xf _)
theorem Inv.lstM (I:Inv X pins σ H s)(hH:H l=some (.lst xs)):xs.length<=Wn/\∃(its:List Wb)(n:Nat),Vals xs its/\xs.length=its.length/\s.heap.get? l=some { cls:=.type "list",data:=.seq its.toArray n }:=by
 obtain⟨z,its,n,r,e⟩:=I.hok l _ hH;exact⟨z,its,n,r,r.length,e⟩
theorem zoz {n:Nat}(h:n<=Wn):Builtin.List.listTooLong n=false:=by
 unfold Builtin.List.listTooLong;exact decide_eq_false (by lia)
end
section
variable {X:Cx}
def zqY:V->List V->Hp->VK->Prop:=λx vs H Q=>∃l xs y,x=.ref l/\vs=[y]/\H l=some (.lst xs)/\xs.length<Wn/\Q .non (upd H l (.lst (xs++[y])))
theorem zhZ:MtM X "list.append" zqY:=by
 intro pins s σ H x vs v us Q I rx rv h;obtain⟨l,xs,y,rfl,rfl,hH,hz,q⟩:=h;cases rx;obtain⟨u,rfl,ru⟩:=rv.one;obtain⟨z,its,n,r,hl,e⟩:=I.lstM hH;refine call_meets F.slot_list_append ⟨_,e,rfl⟩ F.entry_list_append (F.args_list_append_2 _ _) (PySem.list_append l its.toArray n u (by rw[Xj];lia)) ⟨e,?_⟩;refine⟨.non,_,I.lset (its':=its++[u]) hH e (by simp) (r.append (.cons ru .nil)) ?_,rfl,q⟩;rw[Xm,Ya];lia
end
section
variable {κ:Type} [DecidableEq κ]
def valV (kvs:List (κ×V))(k:κ):Option V:=(kvs.find? λkv=>decide (kv.1=k)).map (·.2)
def putK (kvs:List (κ×V))(k:κ)(v:V):List (κ×V):=
 if (kvs.any λkv=>decide (kv.1=k))=true then kvs.map (λkv=>if kv.1=k then(kv.1,v) else kv) else kvs++[(k,v)]
theorem zhd {p:κ×V}{r:List (κ×V)}{k:κ}(e:p.1=k):valV (p::r) k=some p.2:=by simp[valV,YC,e]
theorem zhe {p:κ×V}{r:List (κ×V)}{k:κ}(e:¬ p.1=k):valV (p::r) k=valV r k:=by simp[valV,YC,e]
theorem zjP (k:κ):∀kvs:List (κ×V),(kvs.any λkv=>decide (kv.1=k))=(valV kvs k).isSome
 | []=>rfl
 | p::r=>by
  rw[List.any_cons];by_cases e:p.1=k
  ·simp only[zhd e,decide_eq_true e,Bool.true_or,Option.isSome_some]
  ·rw[zhe e,decide_eq_false e,Bool.false_or];exact zjP k r
theorem zfB (kvs:List (κ×V))(k:κ)(v:V):(putK kvs k v).length<=kvs.length+1:=by
 unfold putK;split
 ·rw[Xb];lia
 ·rw[Xm,XE,YB];lia
theorem RelO.zfC {o:Option V}{u:Option Wb}(r:RelO o u):o.isSome=u.isSome:=by
 cases o with
 | none=>cases u with
  | none=>rfl
  | some _=>exact(show False from r).elim
 | some _=>cases u with
  | none=>exact(show False from r).elim
  | some _=>rfl
theorem KV.val {kvs:List (κ×V)}{vs:List (κ×Wb)}(r:KV kvs vs)(k:κ):RelO (valV kvs k) (valueAt vs k):=by
 unfold KV at r;induction r with
 | nil=>exact True.intro
 | @cons p q ps qs h t ih=>
  obtain⟨h1,h2⟩:=h;by_cases e:p.1=k
  ·have e':q.1=k:=h1.symm.trans e;have b:valueAt (q::qs) k=some q.2:=by simp[valueAt,YC,e']
   rw[zhd e,b];exact h2
  ·have e':¬ q.1=k:=λz=>e (h1.trans z);have b:valueAt (q::qs) k=valueAt qs k:=by simp[valueAt,YC,e']
   rw[zhe e,b];exact ih
theorem KV.any {kvs:List (κ×V)}{vs:List (κ×Wb)}(r:KV kvs vs)(k:κ):(kvs.any λkv=>decide (kv.1=k))=vs.any λkv=>decide (kv.1=k):=by
 unfold KV at r;induction r with
 | nil=>rfl
 | cons h t ih=>rw[List.any_cons,List.any_cons,ih,h.1]
theorem KV.repl {kvs:List (κ×V)}{vs:List (κ×Wb)}(r:KV kvs vs)(k:κ){y:V}{u:Wb}(ry:RelV y u) :
  KV (kvs.map λkv=>if kv.1=k then(kv.1,y) else kv) (vs.map λkv=>if kv.1=k then(kv.1,u) else kv):=by
 unfold KV at r ⊢;induction r with
 | nil=>exact .nil
 | @cons p q ps qs h t ih=>
  rw[Xq,Xq];refine .cons ?_ ih;obtain⟨h1,h2⟩:=h;by_cases e:p.1=k
  ·rw[if_pos e,if_pos (h1.symm.trans e)];exact⟨h1,ry⟩
  ·rw[if_neg e,if_neg (λz=>e (h1.trans z))];exact⟨h1,h2⟩
theorem KV.put {kvs:List (κ×V)}{vs:List (κ×Wb)}(r:KV kvs vs)(k:κ){y:V}{u:Wb}(ry:RelV y u):KV (putK kvs k y) (stored vs k u):=by
 unfold putK stored;rw[r.any k];by_cases e:(vs.any λkv=>decide (kv.1=k))=true
 ·rw[if_pos e,if_pos e];exact r.repl k ry
 ·rw[if_neg e,if_neg e];exact Paired.snoc r ⟨rfl,ry⟩
theorem KV.length {kvs:List (κ×V)}{vs:List (κ×Wb)}(r:KV kvs vs):kvs.length=vs.length:=Paired.length r
end
theorem zoA {P:Wl}{w:Wt}{k:Key}{u:Wb}(r:RelV (kV k) u):(zbv P w).is k u=true:=by
 cases k with
 | inl i=>obtain⟨t,e⟩:=(show ∃t,u=Value.int i t from r);subst e;exact ziZ P w i t
 | inr x=>obtain⟨t,e⟩:=(show ∃t,u=Value.str x t from r);subst e;exact zja P w x t
theorem zia {P:Wl}{w:Wt}:∀ {ks:List Key}{us:List Wb},Vals (ks.map kV) us->ItemsAre (zbv P w) ks us
 | [],_,r=>by rw[List.map_nil]at r;cases r;exact .nil
 | k::ks,_,r=>by
  rw[Xq]at r;cases r with
  | cons h t=>exact .cons (zoA h) (zia t)
abbrev KT (H:Hp):List (List Key×V)->List (List Key×We×Wb)->Prop:=Paired λp q=>p.1=q.1/\H q.2.1=some (.tup (p.1.map kV))/\RelV p.2 q.2.2
theorem KT.val {H:Hp}{kvs:List (List Key×V)}{xs:List (List Key×We×Wb)}(r:KT H kvs xs)(k:List Key):RelO (valV kvs k) ((atKey xs k).map (·.2)):=by
 induction r with
 | nil=>exact True.intro
 | @cons p q ps qs h t ih=>
  obtain⟨h1,_,h2⟩:=h;by_cases e:p.1=k
  ·have e':q.1=k:=h1.symm.trans e;have b:atKey (q::qs) k=some q.2:=by simp[atKey,YC,e']
   rw[zhd e,b];exact h2
  ·have e':¬ q.1=k:=λz=>e (h1.trans z);have b:atKey (q::qs) k=atKey qs k:=by simp[atKey,YC,e']
   rw[zhe e,b];exact ih
theorem KT.repl {H:Hp}{kvs:List (List Key×V)}{xs:List (List Key×We×Wb)}(r:KT H kvs xs)(k:List Key){y:V}{u:Wb}(ry:RelV y u) :
  KT H (kvs.map λkv=>if kv.1=k then(kv.1,y) else kv) (xs.map (putAt k u)):=by
 induction r with
 | nil=>exact .nil
 | @cons p q ps qs h t ih=>
  rw[Xq,Xq];refine .cons ?_ ih;obtain⟨h1,h2,h3⟩:=h;unfold putAt;by_cases e:p.1=k
  ·rw[if_pos e,if_pos (h1.symm.trans e)];exact⟨h1,h2,ry⟩
  ·rw[if_neg e,if_neg (λz=>e (h1.trans z))];exact⟨h1,h2,h3⟩
theorem KT.put {H:Hp}{kvs:List (List Key×V)}{xs:List (List Key×We×Wb)}(r:KT H kvs xs)(k:List Key){b:We}{y:V}{u:Wb}(hb:H b=some (.tup (k.map kV)))(ry:RelV y u) :
  KT H (putK kvs k y) (storedH xs k b u):=by
 have e:(kvs.any λkv=>decide (kv.1=k))=(atKey xs k).isSome:=by
  rw[zjP,(r.val k).zfC,Option.isSome_map]
 unfold putK storedH;rw[e];by_cases q:(atKey xs k).isSome=true
 ·rw[if_pos q,if_pos q];exact r.repl k ry
 ·rw[if_neg q,if_neg q];exact Paired.snoc r ⟨rfl,hb,ry⟩
theorem KT.keeps {H H':Hp}{kvs:List (List Key×V)}{xs:List (List Key×We×Wb)}(r:KT H kvs xs)(ht:∀b ys,H b=some (.tup ys)->H' b=some (.tup ys)):KT H' kvs xs:=
 Paired.mapP r λ_ _ z=>⟨z.1,ht _ _ z.2.1,z.2.2⟩
section
variable {P:Wl}{w:Wt}{H:Hp}{h:Heap}{a:We}
theorem zsX {u:HO}(ok:HOk P w H h)(e:Rd H a u):zbZ P w H h a u:=e.ok ok
theorem zjg {kvs:List (Key×V)}(ok:HOk P w H h)(e:Rd H a (.dK kvs)):kvs.length<=Wn/\(a == W3)=false/\∃vs,KV kvs vs/\h.DictOf (zbv P w) a vs:=
 show zbZ P w H h a (.dK kvs) from zsX ok e
theorem zuS {kvs:List (Key×V)}(ok:HOk P w H h)(e:H a=some (.dK kvs)):kvs.length<=Wn/\(a == W3)=false/\∃vs,KV kvs vs/\h.DictOf (zbv P w) a vs:=zjg ok (.inl e)
theorem zjQ {ks:List Key}(ok:HOk P w H h)(e:H a=some (.tup (ks.map kV))):(tupleKind (zbv P w)).is h ks a:=by
 obtain⟨_,its,r,o,h1,h2,⟨n,h3⟩,_⟩:=(show zbZ P w H h a (.tup (ks.map kV)) from ok a _ e);exact⟨o,its.toArray,n,h1,h2,h3,by simpa using zia r⟩
theorem zmg {kvs:List (List Key×V)}(ok:HOk P w H h)(e:Rd H a (.dT kvs)):kvs.length<=Wn/\(a == W3)=false/\
  ∃xs,KT H kvs xs/\h.DictOfH (tupleKind (zbv P w)) a xs:=by
 obtain⟨z,y,xs,r,o,es,ep,h1,h2,h3,h4,h5⟩:=(show zbZ P w H h a (.dT kvs) from zsX ok e);refine⟨z,y,xs,r,o,es,ep,h1,h2,h3,h4,λx hx=>?_,h5⟩;have all:∀ {l:List (List Key×V)} {m:List (List Key×We×Wb)},KT H l m->∀x∈m,(tupleKind (zbv P w)).is h x.1 x.2.1:=by
  intro l m q;induction q with
  | nil=>intro x hx;exact nomatch hx
  | @cons p q ps qs hq t ih=>
   intro x hx;rcases Xo.mp hx with e | hx
   ·subst e;exact zjQ ok (by rw[<- hq.1];exact hq.2.1)
   ·exact ih x hx
 exact all r x hx
theorem zuT {kvs:List (List Key×V)}(ok:HOk P w H h)(e:H a=some (.dT kvs)):kvs.length<=Wn/\(a == W3)=false/\
  ∃xs,KT H kvs xs/\h.DictOfH (tupleKind (zbv P w)) a xs:=zmg ok (.inl e)
end
def DGet (H:Hp)(a:We)(y:V)(r:Option V):Prop:=
 (∃kvs k,Rd H a (.dK kvs)/\y=kV k/\r=valV kvs k)\/∃kvs k b,Rd H a (.dT kvs)/\y=.ref b/\H b=some (.tup (k.map kV))/\r=valV kvs k
def DPut (H:Hp)(a:We)(y v:V)(H':Hp):Prop:=
 (∃kvs k,H a=some (.dK kvs)/\y=kV k/\kvs.length<Wn/\H'=upd H a (.dK (putK kvs k v)))\/
 ∃kvs k b,H a=some (.dT kvs)/\y=.ref b/\H b=some (.tup (k.map kV))/\kvs.length<Wn/\H'=upd H a (.dT (putK kvs k v))
theorem DPut.k {H:Hp}{a:We}{kvs:List (Key×V)}{k:Key}{v:V}(e:H a=some (.dK kvs))(hl:kvs.length<Wn):DPut H a (kV k) v (upd H a (.dK (putK kvs k v))):=.inl ⟨kvs,k,e,rfl,hl,rfl⟩
section
variable {X:Cx}{pins:List (We×Obj)}{σ:St}{H:Hp}{s:Wd}{a:We}{y v:V}{u r:Wb}{o:Option V}{A:Wu}{E:Wb->Wd->Prop}
theorem Inv.big (I:Inv X pins σ H s):W3<s.heap.objs.size:=by
 have h:Wc<s.heap.objs.size:=(I.mod.glob.keeps I.bk).lt;exact Nat.lt_trans (by decide) h
theorem zmh {Q:Wb->Wd->Prop}(hu:A.units+1<Wz)(I:Inv X pins σ H s)(g:DGet H a y (some v))(ry:RelV y u)(h:∀w' s',Inv X pins σ H s'->RelV v w'->Q w' s') :
  Wi (Wh X.prog X.w) A (getItem (.ref a) u) Q E s:=by
 rcases g with ⟨kvs,k,e,ey,l⟩ | ⟨kvs,k,b,e,ey,eb,l⟩
 ·subst ey;obtain⟨z,hd,vs,rel,dd⟩:=zjg I.hok e;obtain⟨w',hw,rw'⟩:=RelO.some_of (v:=v) (o:=valueAt vs k) (by rw[l];exact rel.val k);exact wpAny_getItem_of (zoA ry) dd.mapOf hw (h w' _ (I.tok _) rw')
 ·subst ey;cases (show u=Value.ref b from ry);obtain⟨z,hd,xs,rel,dd⟩:=zmg I.hok e;obtain⟨w',hw,rw'⟩:=RelO.some_of (v:=v) (o:=(atKey xs k).map (·.2)) (by rw[l];exact rel.val k);obtain⟨p,hp,hp2⟩:=Option.map_eq_some_iff.mp hw;refine wpAny_getItem_heap (tupleKind_room_in1 hu) (zjQ I.hok eb) dd hp ?_;rw[hp2];exact h w' _ (I.tok _) rw'
theorem d_in {Q:Wb->Wd->Prop}(hu:A.units+1<Wz)(I:Inv X pins σ H s)(g:DGet H a y o)(ry:RelV y u)(h:∀s',Inv X pins σ H s'->Q (.bool o.isSome) s') :
  Wi (Wh X.prog X.w) A (WJ .In u (.ref a)) Q E s:=by
 rcases g with ⟨kvs,k,e,ey,l⟩ | ⟨kvs,k,b,e,ey,eb,l⟩
 ·subst ey;obtain⟨z,hd,vs,rel,dd⟩:=zjg I.hok e;refine wpAny_in_of (zoA ry) hd dd.mapOf ?_;rw[<- (rel.val k).zfC,<- l];exact h _ (I.tok _)
 ·subst ey;cases (show u=Value.ref b from ry);obtain⟨z,hd,xs,rel,dd⟩:=zmg I.hok e;refine wpAny_in_heap (tupleKind_room_in1 hu) (zjQ I.hok eb) hd dd ?_;have q:=(rel.val k).zfC;rw[Option.isSome_map]at q;rw[<- q,<- l];exact h _ (I.tok _)
theorem zmi {h':Heap}{t':Nat}{ob:HO}(I:Inv X pins σ H s)(mu:Mut (H a))(hs:Yi a s.heap h')(he:∃q,h'.get? a=some q)(new:zbZ X.prog X.w (upd H a ob) h' a ob) :
  Inv X pins σ (upd H a ob) { s with heap:=h',toks:=t' }:=
 I.write (x:=a) (e:=a) mu (.inl rfl) (λb q hb z=>(hs.2 b hb).trans z) he new
theorem zpV {P:Wl}{w:Wt}{H':Hp}{h':Heap}{kvs:List (Key×V)}{vs:List (Key×Wb)}(z:kvs.length<=Wn)(hd:(a == W3)=false)(rel:KV kvs vs)(dd:h'.DictOf (zbv P w) a vs) :
  zbZ P w H' h' a (.dK kvs):=⟨z,hd,vs,rel,dd⟩
theorem zmj {H':Hp}{Q:Unit->Wd->Prop}(hu:A.units+1<Wz)(I:Inv X pins σ H s)(g:DPut H a y v H')(ry:RelV y u)(rv:RelV v r)(h:∀s',Inv X pins σ H' s'->Q () s') :
  Wi (Wh X.prog X.w) A (setItem (.ref a) u r) Q E s:=by
 rcases g with ⟨kvs,k,e,ey,l,eH⟩ | ⟨kvs,k,b,e,ey,eb,l,eH⟩
 ·subst ey eH;obtain⟨z,hd,vs,rel,dd⟩:=zuS I.hok e;have hz:vs.length<=Wn:=by rw[<- rel.length];exact z
  have hl:(putK kvs k v).length<=Wn:=by have:=zfB kvs k v;lia
  refine wpAny_setItem_pairs (hsz:=hz) (zoA ry) dd λh' dd' hs=>h _ ?_;have he:∃q,h'.get? a=some q:=let ⟨q,_,_,hq,_⟩:=dd';⟨q,hq⟩;exact zmi I (by rw[e];exact True.intro) hs he (zpV hl hd (rel.put k rv) dd')
 ·subst ey eH;cases (show u=Value.ref b from ry);obtain⟨z,hd,xs,rel,dd⟩:=zuT I.hok e;have hz:xs.length<=Wn:=by rw[<- Paired.length rel];exact z
  have hl:(putK kvs k v).length<=Wn:=by have:=zfB kvs k v;lia
  refine wpAny_setItem_heap (hsz:=hz) (tupleKind_room_in1 hu) (zjQ I.hok eb) dd λh' dd' hs=>h _ ?_;obtain⟨q,es,ep,hq,h2,h3,h4,_,h5⟩:=dd';refine zmi I (by rw[e];exact True.intro) hs ⟨q,hq⟩ ⟨hl,hd,_,(rel.put k eb rv).keeps λc ys ec=>?_,q,es,ep,hq,h2,h3,h4,h5⟩;rw[zak (zuw ec e (λz=>nomatch z))];exact ec
end
section
variable {X:Cx}{pins:List (We×Obj)}{σ:St}{H:Hp}{s:Wd}{a:We}{kvs:List (Key×V)}{k:Key}{u:Wb}{A:Wu}{E:Wb->Wd->Prop}
theorem zuU {Q:Wb->Wd->Prop}(I:Inv X pins σ H s)(e:Rd H a (.dK kvs))(h:∀t s',Inv X pins σ H s'->Q (.int kvs.length t) s'):Wi (Wh X.prog X.w) A (call (.builtin "len") [.ref a]) Q E s:=by
 obtain⟨z,hd,vs,rel,dd⟩:=zjg I.hok e;refine call_len_dict hd dd (by rw[<- rel.length];rw[Wo]at z;lia) ?_;rw[<- rel.length];exact h _ _ (I.tok _)
end
def NoSl (i:Expr):Prop:=∀ov iv,subscripted i false ov iv=operate [ov,iv] (getItem ov iv)
theorem zqZ {prog:Wl}{w:Wt}{A:Wu}{E:Wb->Wd->Prop}{s:Wd}{env:Env}{value slice:Expr}{pos:Pos}{T id:String}{Q:Wb->Wd->Prop}
  (hl:typeLookup (.type T) "__getitem__" = pure (some (.builtin id))) (hs:NoSl slice)
  (h:Wi (Wh prog w) A (WA value env) (λo s₁=>Wi (Wh prog w) A (WA slice env) (λi s₂=>s₂.TypeIs o T/\Wi (Wh prog w) A (getItem o i) Q E s₂) E s₁) E s) :
  Wi (Wh prog w) A (WA (.Subscript value slice pos) env) Q E s:=by
 refine Subscript_ (WR h (λo s₁ h₁=>WR h₁ (λi s₂ h₂=>?_) λ_ _ x=>x) λ_ _ x=>x);obtain⟨hT,h₂⟩:=h₂;unfold subscriptTail;refine Wa ?_;rw[getitemInPython_of_ne hT.not_modules];refine Wa (wpAny_specialOf hT hl ?_);have fin:Wi (Wh prog w) A (subscripted slice false o i) (λr s₃=>Wi (Wh prog w) A (letTemporaryGo value o r >>= λ_=>pure r) Q E s₃) E s₂:=by
  rw[hs o i];exact wpAny_operating (WR h₂ (λr s₃ h₃=>Wa (wpAny_letTemporaryGo (Wf h₃))) λ_ _ x=>x)
 first
  | exact Wf (Wa fin)
  | exact Wa (Wf (Wa fin))
  | exact Wa fin
theorem zjh {X:Cx}{pins:List (We×Obj)}{σ:St}{H:Hp}{s:Wd}{a:We}{y:V}{o:Option V}(I:Inv X pins σ H s)(g:DGet H a y o):s.TypeIs (.ref a) "dict":=by
 rcases g with ⟨kvs,k,e,_,_⟩ | ⟨kvs,k,b,e,_,_,_⟩
 ·obtain⟨_,_,vs,_,dd⟩:=zjg I.hok e;exact dd.typeIs
 ·obtain⟨_,_,xs,_,dd⟩:=zmg I.hok e;exact dd.typeIs
def zuV (td ty:TE):TE:=λσ H Q=>td σ H λx H1=>ty σ H1 λy H2=>∃a v,x=.ref a/\DGet H2 a y (some v)/\Q v H2
def tDIn (ty td:TE):TE:=λσ H Q=>ty σ H λy H1=>td σ H1 λx H2=>∃a o,x=.ref a/\DGet H2 a y o/\Q (.bl o.isSome) H2
def zuW (td ty tv:TE):TS:=λD σ H=>tv σ H λv H1=>td σ H1 λx H2=>ty σ H2 λy H3=>∃a H4,x=.ref a/\DPut H3 a y v H4/\D.nx σ H4
section
variable {X:Cx}{o i e value:Expr}{pos pos' tpos:Pos}{td ty tv:TE}
theorem zra (hu:X.A.units+1<Wz)(ho:PE X o td)(hi:PE X i ty)(hs:NoSl i):PE X (.Subscript o i pos) (zuV td ty):=by
 intro pins s σ H Q I h;refine zqZ PySem.F.slot_dict_getitem.lookup hs (thn (ho pins s σ H _ I h) λu s1 ⟨x,H1,I1,rx,q1⟩=>thn (hi pins s1 σ H1 _ I1 q1) λiv s2 ⟨y,H2,I2,ry,a,v,ex,g,q2⟩=>?_);subst ex;obtain rfl:u=Value.ref a:=rx;exact⟨zjh I2 g,zmh hu I2 g ry λw' s3 I3 rw'=>⟨v,H2,I3,rw',q2⟩⟩
theorem zsY (hu:X.A.units+1<Wz)(hi:PE X i ty)(ho:PE X o td):PC X .In i o (tDIn ty td):=by
 intro pins s σ H Q I h;refine thn (hi pins s σ H _ I h) λiv s1 ⟨y,H1,I1,ry,q1⟩=>thn (ho pins s1 σ H1 _ I1 q1) λu s2 ⟨x,H2,I2,rx,a,ov,ex,g,q2⟩=>?_;subst ex;obtain rfl:u=Value.ref a:=rx;exact d_in hu I2 g ry λs3 I3=>⟨.bl ov.isSome,H2,I3,rfl,q2⟩
theorem zrb (hu:X.A.units+1<Wz)(ho:PE X o td)(hi:PE X i ty)(hv:PE X value tv)(hs:WF value (some (.Subscript o i pos')) pos.line X.env=pure false) :
  PS X (.Assign [.Subscript o i pos'] value pos) (zuW td ty tv):=by
 intro pins s σ H D I h;refine wpAny_Assign_Subscript (thn (hv pins s σ H _ I h) λr s1 ⟨v,H1,I1,rv,q1⟩=>thn (ho pins s1 σ H1 _ I1 q1) λu s2 ⟨x,H2,I2,rx,q2⟩=>thn (hi pins s2 σ H2 _ I2 q2) λiv s3 ⟨y,H3,I3,ry,a,H4,ex,g,q3⟩=>?_) hs;subst ex;obtain rfl:u=Value.ref a:=rx;exact zmj hu I3 g ry rv λs4 I4=>⟨σ,H4,I4,q3⟩
end
theorem zoB {P:Wl}{w:Wt}{H:Hp}(h:Heap)(hb:W3<h.objs.size):zbZ P w H (h.push { cls:=.type "dict",data:=.dict #[] }) h.objs.size (.dK []):=
 ⟨XH _,beq_eq_false_iff_ne.mpr (Ne.symm (XB hb)),[],.nil,Heap.DictOf.new h⟩
def zsZ:TE:=λ_ H Q=>∀p,H p=none->Q (.ref p) (upd H p (.dK []))
section
variable {X:Cx}{pos:Pos}
theorem zoC:PE X (.Dict [] [] pos) zsZ:=λpins s σ H Q I h=>
 wpAny_Dict_empty ⟨.ref s.heap.objs.size,_,I.laid (a:=s.heap.objs.size) (o:=.dK []) (t':=s.toks) (λ_ _ q=>Xd _ q) (Xf _) (zoB s.heap I.big),rfl,h _ (I.hok.fresh (Xf _))⟩
end
structure M1 (X:Cx)(o:Expr)(m:Str)(apos:Pos)(e:Expr)(cpos:Pos):Prop where
 base:W4 o m X.env (WA o X.env)=WA o X.env
 few:((Wy cpos (Wg [e] X.env)).all (λx=>!x.1)&&(Vm cpos (W0 [] X.env)).all (λx=>x.1.isSome)
  && decide (([e]:List Expr).length+([]:List Keyword).length+(if ([]:List Keyword).isEmpty then 0 else 1)<30))=true
 line:(apos.endLine == cpos.line)=true
 trees:Wy cpos (Wg [e] X.env)=[(false,WA e X.env)]
end L2
namespace Att
open PySem PySem.W PySem.Calls PyProof.Rows
theorem zfD {P:Params}{h:Heap}:∀(ns:List Int)(vs:List Wb),WellAll P h vs (ns.map WData.int)->WU vs ns:=by
 intro ns;induction ns with
 | nil=>
  intro vs w;rw[List.map_nil]at w;cases w;exact .nil
 | cons n ns ih=>
  intro vs w;rw[Xq]at w;cases w with
  | cons a b=>
   cases a;exact .cons _ _ (ih _ b)
theorem zmk {l:OpenLaw}{n:Nat}(hn:l.most=some n){P:Params}{h:Heap}{args:List WData}{vals:List Wb}
  (hpre:l.row.toRowW.claim.pre args=true) (hwl:WellAll P h vals args) :
  ∃a vs ns,vals=[Value.ref a]/\args=[WData.list (ns.map WData.int)]/\h.get? a=some { cls:=.type "list",data:=.seq vs.toArray }/\WU vs ns/\ns.length<=n:=by
 have hsh:WShape.hasAll [] args [.list .int]=true:=(pre_splitW hpre).1;have hc:l.pre.holds [] { args:=args }=true:=(pre_splitW hpre).2;obtain⟨d,r,rfl,h1,h2⟩:=hasAllW_cons hsh;obtain rfl:=hasAllW_nil h2;obtain⟨xs,rfl,h3⟩:=hasW_list h1;obtain⟨ns,rfl⟩:=items_int h3;have hlen:ns.length<=n:=by
  unfold OpenLaw.pre at hc;have h4:(WTm.not (.lt (.lit (.int (n:Int))) (.len (.arg 0)))).holds [] { args:=[.list (ns.map .int)] }=true:=by
   have h4:=(holds_andW hc).1;rw[hn]at h4;exact h4
  have h5:=condW_of h4 (w_not (w_lt w_lit (w_len_list (w_arg rfl))));rw[Xb]at h5;refine Nat.le_of_not_lt λq=>?_;have q':(n:Int)<((ns.length:Nat):Int):=by lia
  first
   | (rw[decide_eq_true q']at h5;exact absurd h5 (by decide))
   | (simp at h5;lia)
 cases hwl with
 | cons w1 w2=>
  cases w2;cases w1 with
  | list ho hall=>exact⟨_,_,ns,rfl,rfl,ho,zfD ns _ hall,hlen⟩
theorem zml (l:OpenLaw)(args:List WData):l.row.toRowW.claim.post args (.bool true) args=true:=
 postW_of (r:=l.row.toRowW) (X:=(true == true))
  (show WShape.has [] (.bool true) .bool=true by first | rfl | decide | simp[WShape.has,WShape.arms,WShape.armsAll])
  (show(WTm.eq .res (.lit (.bool true))).value [] { args:=args,res:=some (.bool true),after:=args }=some (.bool (true == true)) from w_eq_bool (w_res rfl) w_lit) rfl
theorem zji {l:OpenLaw}{n:Nat}{q:Wl}{loose:List Str}{XP:(Str->Option Wb)->Heap->Prop}{YP:Wt->Heap->Prop}{d:DefRec}
  (hn:l.most=some n) (hdf:d.params.defaults=[])
  (call:∀(w:Wt) (s₀ s₁:Wd) (mg mb:Str->Option Wb) (fa:We) (o:Obj) (pm cd doc:Wb) (a:We) (vs:List Wb) (ns:List Int),
   Ground q loose [] XP w s₀ mg mb s₁.heap->YP w s₁.heap->
   s₁.heap.get? fa=some o->o.data=.func (docDef d.name d.params d.body d.scope pm cd doc)->s₁.heap.CodeRec cd d.name->mg d.name=some (.ref fa)->
   s₁.heap.get? a=some { cls:=.type "list",data:=.seq vs.toArray }->WU vs ns->ns.length<=n->s₁.gens = #[]->
   Vl (Wh l.prog w) callerA (.call (.ref fa) ⟨[.ref a],[]⟩) (λr s'=>r=.ok (.ret (.bool true))/\OldK s₁.heap s'.heap/\s'.os=s₁.os/\AllBare s'.gens) s₁) :
  WalkO q loose XP YP l.row.toRowW d [] (λf vs=>PySem.call f vs):=by
 intro w s₀ s₁ mg mb G Y fa o pm cd doc dV kV ho hd hcd hD hmg hg args vals as hpre hlay hrd hwl hlo;obtain rfl:dV=.none:=Dflts.none hD hdf;obtain rfl:kV=.none:=Dflts.noKw hD;obtain⟨a,vs,ns,rfl,rfl,hobj,hints,hlen⟩:=zmk hn hpre hwl;refine enter_call (W8 (call w s₀ s₁ mg mb fa o pm cd doc a vs ns G Y ho (fd_plain hd) hcd hmg hobj hints hlen hg) λr s' hq=>?_);obtain⟨rfl,h2,h3,h4⟩:=hq;exact⟨.inl ⟨.bool true,.bool true,[],rfl,λ_=>rfl,.bool true,zml l _,λ_=>⟨List.Pairwise.nil,λ_ hm=>(nomatch hm)⟩⟩,h2,h3,h4⟩
end Att
namespace L2
open PySem PySem.Spec PyProof.Rows
theorem zib:∀ {vs:List Wb}{ns:List Int},WU vs ns->Vals (ns.map V.int) vs
 | _,_,.nil=>.nil
 | _,_,.cons n t h=>.cons ⟨t,rfl⟩ (zib h)
def Only (H:Hp):Prop:=∀b,H b=none\/∃o xs,H b=some (.frz o (.lst xs))
abbrev KOf {K:Xa}{h:Heap}(_:K.In h):Xa:=K
def zam (s:WC):Arguments:=match s with
 | .FunctionDef _ a _ _ _ _ _ _ _ _=>a
 | _=>{ posonlyargs:=[],args:=[],vararg:=none,kwonlyargs:=[],kw_defaults:=[],kwarg:=none,defaults:=[] }
def zaj (s:WC):List WC:=match s with
 | .FunctionDef _ _ b _ _ _ _ _ _ _=>b
 | _=>[]
def zac (s:WC):WX:=match s with
 | .FunctionDef _ _ _ _ _ _ sc _ _ _=>sc
 | _=>{ kind:=.function,names:=[],isGenerator:=false,isCoroutine:=false }
abbrev CX0:CXT:=λ_ _ _ _ _ _=>False
abbrev E0:XK:=λ_ _ _=>False
theorem zlf {X:Cx}:zfz CX0 X E0:=λ_ _ _ _ _ _ _ h=>h.elim
structure Fun (K:Xa)(x qual:Str)(st:WC)(f:We)(fd:Wr):Prop where
 ex:∃(oc:Wb) (od:Option We) (kV doc pm:Wb) (an:Option We) (cdv ct:Wb) (osl:Array (Option Wb)),
  fd=PySem.W.fnOf x qual (zam st) (zaj st) (zac st) .none kV doc pm an cdv ct/\K.lookup f=some ⟨oc,od,.func fd,osl⟩/\PySem.W.codeIn K cdv qual=true
 kp:PySem.W.keepIn K (.ref f)=true
section
variable {P:Wl}{w:Wt}{K:Xa}{mg:Str->Option Wb}{base:Heap}
theorem Fun.ok {x qual:Str}{st:WC}{f:We}{fd:Wr}{N ps:List Str}{k:Nat}{sp:Sp}(F:Fun K x qual st f fd)(S:zan N ps (zac st))(len:∀vs H Q E,sp vs H Q E->vs.length=ps.length)
  (hbody:∀(cdv:Wb) (A:Wu) (outer:List Env) (s:Wd) (H:Hp) (vs:List V) (Q:VK) (E:XK),Room k (A.deeper (WB qual (zac st) s.heap.objs.size f cdv))->sp vs H Q E->
   ∃t,PSs (cxOf CX0 P w K mg base N qual (zac st) f cdv A outer s H E).nox (zaj st) t/\t { nx:=λ_ H'=>Q .non H',rt:=Q } (start N vs) H):FnOk P w K mg base CX0 (k+1) f fd ps sp:=by
 obtain⟨oc,od,kV,doc,pm,an,cdv,ct,osl,rfl,lk,hcd⟩:=F.ex;refine zow lk hcd S len λA outer s H vs Q E hr hsp=>?_;obtain⟨t,h,q⟩:=hbody cdv A outer s H vs Q E hr hsp;exact⟨t,h.nox,q⟩
theorem Fun.binds {x qual:Str}{st:WC}{f:We}{fd:Wr}{ps:List Str}(F:Fun K x qual st f fd)
  (h:∀(kV doc pm:Wb) (an:Option We) (cdv ct:Wb) (us:List Wb),us.length=ps.length->bindArgs (PySem.W.fnOf x qual (zam st) (zaj st) (zac st) .none kV doc pm an cdv ct) ⟨us,[]⟩=pure (ps.zip us)):Binds K fd ps []:=by
 obtain⟨oc,od,kV,doc,pm,an,cdv,ct,osl,rfl,lk,hcd⟩:=F.ex;exact .all (h kV doc pm an cdv ct)
theorem zpW {x qual:Str}{st:WC}{f:We}{oc:Wb}{od an:Option We}{osl:Array (Option Wb)}{kV doc pm cdv ct:Wb}(l:K.lookup f=some ⟨oc,od,.func (PySem.W.fnOf x qual (zam st) (zaj st) (zac st) .none kV doc pm an cdv ct),osl⟩)
  (c:PySem.W.codeIn K cdv qual=true) (k:PySem.W.keepIn K (.ref f)=true):Fun K x qual st f (PySem.W.fnOf x qual (zam st) (zaj st) (zac st) .none kV doc pm an cdv ct):=⟨⟨oc,od,kV,doc,pm,an,cdv,ct,osl,rfl,l,c⟩,k⟩
end
theorem iteF {A B:Prop}(h:B):if false=true then A else B:=by
 rw[if_neg Xr];exact h
theorem iteT {A B:Prop}(h:A):if true=true then A else B:=by
 rw[if_pos rfl];exact h
theorem ite2 {c A B:Prop} [Decidable c] (h1:c->A)(h2:¬ c->B):if c then A else B:=by
 by_cases h:c
 ·rw[if_pos h];exact h1 h
 ·rw[if_neg h];exact h2 h
def Same (H H':Hp):Prop:=∀b o,H b=some o->H' b=some o
theorem Same.refl (H:Hp):Same H H:=λ_ _ h=>h
theorem Same.trans {H H1 H2:Hp}(a:Same H H1)(b:Same H1 H2):Same H H2:=λc o h=>b c o (a c o h)
theorem Same.free {H H':Hp}(e:Same H H'){l:We}(h:H' l=Option.none):H l=Option.none:=by
 cases q:H l with
 | none=>rfl
 | some o=>
  rw[e l o q]at h;cases h
theorem Same.seq {K:Xa}{H H':Hp}{a:We}{xs:List V}(e:Same H H')(h:SqL K H a xs):SqL K H' a xs:=by
 rcases h with (h | ⟨o,h⟩) | h
 ·exact .inl (.inl (e _ _ h))
 ·exact .inl (.inr ⟨o,e _ _ h⟩)
 ·exact .inr h
def zbA (env:Env):List (Str×Vg)->List (Str×We)->List (Str×We)
 | [],acc=>acc
 | (n,k)::r,acc=>zbA env r (if k == .free then(n,(env.cells.lookup n).getD 0)::acc else acc)
theorem zjR {env:Env}(f:Str×Vg->List (Str×We)->Sem (ForInStep (List (Str×We))))
  (hf:∀n k cs,f (n,k) cs=if k == .free then(do let a <- cellOf env n;pure (.yield ((n,a)::cs))) else pure (.yield cs)) :
  ∀(l:List (Str×Vg)) (acc:List (Str×We)),(∀n,(n,NameKind.free)∈l->∃c,env.cells.lookup n=some c)->forIn l acc f=pure (zbA env l acc)
 | [],acc,_=>by rw[List.forIn_nil];rfl
 | (n,k)::r,acc,h=>by
  have ih:=zjR f hf r;have hr:∀m,(m,NameKind.free)∈r->∃c,env.cells.lookup m=some c:=λm hm=>h m (Xi _ hm);rw[List.forIn_cons,hf];unfold zbA;by_cases hk:(k == NameKind.free)=true
  ·have hk':k=NameKind.free:=by simpa using hk
   subst hk';obtain⟨c,hc⟩:=h n Xh;have e:cellOf env n=pure c:=by unfold cellOf;rw[hc]
   rw[if_pos hk,if_pos hk,e,hc];simp only[pure_bind,Option.getD_some];exact ih _ hr
  ·rw[if_neg hk,if_neg hk];simp only[pure_bind];exact ih _ hr
theorem zmm {scope:WX}{env:Env}(h:∀n,(n,NameKind.free)∈scope.names->∃c,env.cells.lookup n=some c):closureFor scope env=pure (zbA env scope.names []):=by
 simp only[closureFor];rw[zjR (env:=env) _ (λn k cs=>by cases hk:(k == NameKind.free)<;>simp[hk]) scope.names [] h];simp
theorem zgB {env:Env}:∀(l:List (Str×Vg))(acc:List (Str×We)),(∀n,(n,NameKind.free)∈l->∃c,env.cells.lookup n=some c)->(∀n c,(n,c)∈acc->env.cells.lookup n=some c)->
  ∀n c,(n,c)∈zbA env l acc->env.cells.lookup n=some c
 | [],_,_,ha,n,c,hm=>ha n c hm
 | (x,k)::r,acc,h,ha,n,c,hm=>by
  have hr:∀m,(m,NameKind.free)∈r->∃c,env.cells.lookup m=some c:=λm hm=>h m (Xi _ hm);unfold zbA at hm;refine zgB r _ hr (λm d hd=>?_) n c hm;by_cases hk:(k == NameKind.free)=true
  ·have hk':k=NameKind.free:=by simpa using hk
   subst hk';rw[if_pos hk]at hd;rcases Xo.mp hd with e | hd
   ·obtain⟨c',hc'⟩:=h x Xh;cases e;rw[hc'];rfl
   ·exact ha m d hd
  ·rw[if_neg hk]at hd;exact ha m d hd
theorem zeS {env:Env}:∀(l:List (Str×Vg))(acc:List (Str×We))(n:Str),((n,NameKind.free)∈l\/(acc.lookup n).isSome=true)->((zbA env l acc).lookup n).isSome=true
 | [],_,_,h=>h.elim (λz=>nomatch z) id
 | (x,k)::r,acc,n,h=>by
  unfold zbA;refine zeS r _ n ?_;have up:(acc.lookup n).isSome=true->((if (k == NameKind.free)=true then(x,(env.cells.lookup x).getD 0)::acc else acc).lookup n).isSome=true:=λz=>by
   by_cases hk:(k == NameKind.free)=true
   ·rw[if_pos hk,XT];cases n == x<;>simp[z]
   ·rw[if_neg hk];exact z
  rcases h with h | h
  ·rcases Xo.mp h with e | h
   ·right;cases e;rw[if_pos (by rfl),XT];simp
   ·exact .inl h
  ·exact .inr (up h)
theorem zbC:∀(names:List (Str×Vg))(n:Nat)(acc:List (Str×We)),WD n names acc=WD n names []++acc
 | [],_,_=>rfl
 | (x,k)::r,n,acc=>by
  unfold WD;by_cases hk:(k == NameKind.cell)=true
  ·rw[if_pos hk,if_pos hk,zbC r (n+1) ((x,n)::acc),zbC r (n+1) [(x,n)],List.append_assoc];rfl
  ·rw[if_neg hk,if_neg hk];exact zbC r n acc
theorem zcA:∀(names:List (Str×Vg))(n:Nat)(acc:List (Str×We))(x:Str)(c:We),(x,c)∈WD n names acc->(x,c)∈acc\/(x,NameKind.cell)∈names
 | [],_,_,_,_,h=>.inl h
 | (y,k)::r,n,acc,x,c,h=>by
  unfold WD at h;by_cases hk:(k == NameKind.cell)=true
  ·have hk':k=NameKind.cell:=by simpa using hk
   subst hk';rw[if_pos hk]at h;rcases zcA r _ _ x c h with h | h
   ·rcases Xo.mp h with e | h
    ·cases e;exact .inr Xh
    ·exact .inl h
   ·exact .inr (Xi _ h)
  ·rw[if_neg hk]at h;rcases zcA r _ _ x c h with h | h
   ·exact .inl h
   ·exact .inr (Xi _ h)
def zel (sc sup:WX):WX:=
 {sc with names:=sc.names.map λ(n,k)=>if (k == .free&&sup.kind == .function&&sup.names.lookup n == some .cell) then(n,.cell) else(n,k) }
def cpOk (sup:WX)(XN N:List Str)(k:Nat)(js:List Nat)(sc:WX):Bool:=
 sc.kind == .function&&decide N.Nodup&&decide (sc.names.map (·.1)).Nodup&&(sc.names.all λp=>p.2 != .free||(sup.names.lookup p.1 == some .cell||sup.names.lookup p.1 == some .free)) &&
  N.length == k+js.length&&((N.drop k).zip js).all λp=>sc.names.lookup p.1 == some .free&&XN[p.2]? == some p.1
structure zcN (X:Cx)(N:List Str)(k:Nat)(js:List Nat)(sc:WX):Prop where
 kind:sc.kind=.function
 nd:N.Nodup
 nm:(sc.names.map (·.1)).Nodup
 fr:∀n,(n,NameKind.free)∈sc.names->X.env.kindOf n=some .cell\/X.env.kindOf n=some .free
 len:N.length=k+js.length
 at':∀(i:Nat) (x:Str),N[k+i]? = some x->sc.names.lookup x=some .free/\∃j,js[i]? = some j/\X.N[j]? = some x
theorem zdB {X:Cx}{sup:WX}{XN N:List Str}{k:Nat}{js:List Nat}{sc:WX}(hs:X.env.scope=sup)(hn:X.N=XN)(h:cpOk sup XN N k js sc=true):zcN X N k js sc:=by
 subst hs hn;unfold cpOk at h;simp only[Yo,decide_eq_true_eq,beq_iff_eq,XI]at h;obtain⟨⟨⟨⟨⟨h1,h2⟩,h3⟩,h4⟩,h5⟩,h6⟩:=h;refine⟨h1,h2,h3,λn hn=>?_,h5,λi x hi=>?_⟩
 ·have q:=h4 _ hn;simp only[bne_self_eq_false,Bool.false_or,Bool.or_eq_true,beq_iff_eq]at q;exact q
 ·have hi':(N.drop k)[i]? = some x:=by rw[List.getElem?_drop];exact hi
  have hl:k+i<N.length:=(Xe.mp hi).1;have hj:i<js.length:=by lia
  have hm:(x,js[i])∈(N.drop k).zip js:=by
   refine List.mem_iff_getElem?.mpr ⟨i,?_⟩;rw[Yn];exact⟨hi',by simp[hj]⟩
  have q:=h6 _ hm;exact⟨q.1,js[i],by simp[hj],q.2⟩
theorem zcO {α:Type}:∀ {l:List (Str×α)}{x:Str}{v:α},(l.map (·.1)).Nodup->(x,v)∈l->l.lookup x=some v
 | (y,u)::r,x,v,nd,h=>by
  rw[Xq,XX]at nd;rw[XT];rcases Xo.mp h with e | h
  ·cases e;simp
  ·have ne:x≠y:=λz=>nd.1 (XD.mpr ⟨(x,v),h,z⟩);have hb:(x == y)=false:=by simpa using ne
   rw[hb];exact zcO nd.2 h
def zem (k:Nat)(js:List Nat)(σ:St):St:=List.replicate k none++js.map λj=>(σ[j]?).getD none
def cxB (X:Cx)(N:List Str)(sc:WX)(C:We)(cells:List (Str×We))(fp:List We)(s:Wd)(H:Hp):Cx where
 prog:=X.prog
 w:=X.w
 K:=X.K
 mg:=X.mg
 base:=X.base
 A:=X.A
 N:=N
 s₀:=s
 H₀:=H
 env:={ scope:=zel sc X.env.scope,locals:=C,globals:=X.env.globals,cells:=cells,qual:=X.env.qual,func:=none,code:=X.env.code,frame:=X.env.frame,builtins:=X.env.builtins }
 outer:=X.stack
 stack:=X.stack
 ex:=fp
 fn:=λx=>sc.names.lookup x == some .cell
 calm:=X.calm
 pn:=[]
 xe:=λ_ _=>False
section
variable {X:Cx}{pins:List (We×Obj)}{σ:St}{H:Hp}{s:Wd}
theorem zen {sc sup:WX}{x:Str}{k:Vg}(h:(zel sc sup).names.lookup x=some k):sc.names.lookup x=some k\/(sc.names.lookup x=some .free/\k=.cell):=by
 unfold zel at h;dsimp only at h;generalize sc.names=l at h ⊢;induction l with
 | nil=>simp at h
 | cons p r ih=>
  obtain⟨n,kd⟩:=p;rw[Xq,XT]at h;rw[XT];dsimp only at h;by_cases hc:(kd == NameKind.free&&sup.kind == ScopeKind.function&&sup.names.lookup n == some NameKind.cell)=true
  ·rw[if_pos hc]at h;dsimp only at h;cases hx:x == n with
   | true=>
    rw[hx]at h;simp only[Yo,beq_iff_eq]at hc;right;exact⟨by rw[hc.1.1],(Option.some.inj h).symm⟩
   | false=>rw[hx]at h;exact ih h
  ·rw[if_neg hc]at h;dsimp only at h;cases hx:x == n with
   | true=>rw[hx]at h;left;exact h
   | false=>rw[hx]at h;exact ih h
theorem zeo {sc sup:WX}{x:Str}(h:sc.names.lookup x=some .free):(zel sc sup).names.lookup x=some .cell\/(zel sc sup).names.lookup x=some .free:=by
 unfold zel;dsimp only;generalize sc.names=l at h ⊢;induction l with
 | nil=>simp at h
 | cons p r ih=>
  obtain⟨n,kd⟩:=p;rw[XT]at h;rw[Xq];dsimp only;by_cases hc:(kd == NameKind.free&&sup.kind == ScopeKind.function&&sup.names.lookup n == some NameKind.cell)=true
  ·rw[if_pos hc,XT];cases hx:x == n with
   | true=>left;rfl
   | false=>rw[hx]at h;exact ih h
  ·rw[if_neg hc,XT];cases hx:x == n with
   | true=>rw[hx]at h;right;exact h
   | false=>rw[hx]at h;exact ih h
theorem Inv.block {N:List Str}{k:Nat}{js:List Nat}{sc:WX}{fp:List We}(I:Inv X pins σ H s)(S:zcN X N k js sc)(hf:∀b∈fp,FpOk X pins H b)(hfs:∀b∈fp,b<s.heap.objs.size) :
  Inv (cxB X N sc s.heap.objs.size (WD (s.heap.objs.size+1) sc.names (zbA X.env sc.names [])) fp s H) [] (zem k js σ) H
   {s with heap:=pushCells (s.heap.push { cls:=.type "dict",data:=.dict #[] }) sc.names }:=by
 have hz:(s.heap.push { cls:=.type "dict",data:=.dict #[] }).objs.size=s.heap.objs.size+1:=Yr ..;have kp:∀b o,s.heap.get? b=some o->(pushCells (s.heap.push { cls:=.type "dict",data:=.dict #[] }) sc.names).get? b=some o:=λb o e=>pushCells_keeps _ _ b o (Xd _ e);have cok:=cellsFrom_ok sc.names (s.heap.push { cls:=.type "dict",data:=.dict #[] }) (s.heap.objs.size+1) [] ⟨λ_ _ hm=>(nomatch hm),List.Pairwise.nil⟩ (by rw[hz];exact Xf _);rw[hz]at cok;have frs':∀n,(n,NameKind.free)∈sc.names->∃c,X.env.cells.lookup n=some c:=λn hn=>I.ok.has n (S.fr n hn);have csub:=zgB (env:=X.env) sc.names [] frs' (λ_ _ z=>nomatch z);have cases_:∀x c,(WD (s.heap.objs.size+1) sc.names (zbA X.env sc.names [])).lookup x=some c->
   ((WD (s.heap.objs.size+1) sc.names []).lookup x=some c)\/((WD (s.heap.objs.size+1) sc.names []).lookup x=none/\(zbA X.env sc.names []).lookup x=some c):=λx c h=>by
  rw[zbC,List.lookup_append]at h;cases q:(WD (s.heap.objs.size+1) sc.names []).lookup x with
  | some d=>rw[q]at h;left;simpa using h
  | none=>rw[q]at h;right;exact⟨rfl,by simpa using h⟩
 have old:∀x c,(zbA X.env sc.names []).lookup x=some c->X.env.cells.lookup x=some c:=λx c h=>csub x c (PySem.mem_of_lookup h);have oldlt:∀x c,X.env.cells.lookup x=some c->c<s.heap.objs.size:=λx c h=>let ⟨_,q⟩:=I.cell x c h;q.lt;have ownge:∀x c,(WD (s.heap.objs.size+1) sc.names []).lookup x=some c->s.heap.objs.size+1<=c:=λx c h=>(cok.empty x c (PySem.mem_of_lookup h)).2;refine⟨⟨I.ok.mod,S.kind,I.ok.glob,I.ok.blt,Xf _,?inj,?has,?cab,I.ok.hd,I.ok.frames,.inl rfl,?exf,I.bs,Xx I.ok.bsz I.sz,?noex,?exfs,I.stack,I.zlR⟩,rfl,I.bare,Un.kept kp,?loc,?cell,I.hok.fresh (Xf _),?freeC,λp hp=>absurd (show p∈([]:List (We×Obj)) from hp) (by simp),I.hok.kept kp,?len⟩
 case inj=>
  intro x y c hx hy;rcases cases_ x c hx with h1 | ⟨_,h1⟩<;>rcases cases_ y c hy with h2 | ⟨_,h2⟩
  ·exact name_of_addr cok.apart (PySem.mem_of_lookup h1) (PySem.mem_of_lookup h2)
  ·exact absurd (XO (oldlt y c (old y c h2)) (Nat.le_of_succ_le (ownge x c h1))) (YA _)
  ·exact absurd (XO (oldlt x c (old x c h1)) (Nat.le_of_succ_le (ownge y c h2))) (YA _)
  ·exact I.ok.inj x y c (old x c h1) (old y c h2)
 case has=>
  intro x hx;have hx':(zel sc X.env.scope).names.lookup x=some .cell\/(zel sc X.env.scope).names.lookup x=some .free:=hx;have q:sc.names.lookup x=some .cell\/sc.names.lookup x=some .free:=by
   rcases hx' with h | h
   ·rcases zen h with h | ⟨h,_⟩
    ·exact .inl h
    ·exact .inr h
   ·rcases zen h with h | ⟨h,_⟩
    ·exact .inr h
    ·exact .inr h
  refine Option.isSome_iff_exists.mp (PySem.W.cellsFrom_some sc.names _ _ ?_);rcases q with q | q
  ·exact .inl q
  ·exact .inr (zeS _ _ _ (.inl (PySem.mem_of_lookup q)))
 case cab=>
  intro x c hfn hx;have hc:sc.names.lookup x=some .cell:=by simpa[cxB]using hfn
  rcases cases_ x c hx with h | ⟨h,_⟩
  ·have:=ownge x c h;show s.heap.objs.size<=c;lia
  ·have q:=PySem.W.cellsFrom_some sc.names (s.heap.objs.size+1) [] (.inl hc);rw[h]at q;cases q
 case exf=>
  intro b hb;have hlt:=hfs b hb;refine⟨XB hlt,λx c hx=>?_⟩;rcases cases_ x c hx with h | ⟨_,h⟩
  ·exact λz=>absurd (XO (show c<s.heap.objs.size by rw[z];exact hlt) (Nat.le_of_succ_le (ownge x c h))) (YA _)
  ·exact(hf b hb).2.2.2.2.1 x c (old x c h)
 case noex=>
  intro b o e hb;rcases(hf b hb).2.2.2.1 with z | z
  ·exact I.ok.noex b o e z
  ·exact absurd (XO (Xs (I.ok.bs b o e).1) z) (YA _)
 case exfs=>
  intro b hb hbf;rcases Xo.mp (I.zlQ b hbf)with z | z
  ·exact(hf b hb).2.1 z
  ·exact(hf b hb).2.2.1 z
 case loc=>
  refine⟨_,(Heap.Ns.new s.heap (.type "dict")).keeps (pushCells_keeps _ _),λi x v e1 e2 e3=>?_⟩;have hik:k<=i:=by
   unfold zem at e2;by_cases hik:k<=i
   ·exact hik
   ·rw[YG (by simp;lia),List.getElem?_replicate]at e2;split at e2<;>cases e2
  obtain⟨i',rfl⟩:∃i',i=k+i':=⟨i-k,by lia⟩;obtain⟨hfree,j,hj,hX⟩:=S.at' i' x e1;have e2':(σ[j]?).getD none=some v:=by
   unfold zem at e2;rw[Yy (by simp)]at e2;rw[List.length_replicate,show k+i'-k=i' by lia,Xl,hj]at e2;exact Option.some.inj e2
  have hσ:σ[j]? = some (some v):=by
   cases q:σ[j]? with
   | none=>rw[q]at e2';cases e2'
   | some o=>rw[q]at e2';exact congrArg some e2'
  have hk:=S.fr x (PySem.mem_of_lookup hfree);obtain⟨m,hn,hl⟩:=I.loc;obtain⟨u,r,l⟩:=hl j x v hX hσ (by rcases hk with h | h;exact .inr (.inl h);exact .inr (.inr h))
  rcases l with ⟨hloc,_⟩ | ⟨_,c,hc,hcell⟩
  ·rcases hk with h | h<;>(rw[h]at hloc;cases hloc)
  ·refine⟨u,r,.inr ⟨zeo hfree,c,?_,hcell.keeps kp⟩⟩;show(WD (s.heap.objs.size+1) sc.names (zbA X.env sc.names [])).lookup x=some c;have hno:(WD (s.heap.objs.size+1) sc.names []).lookup x=none:=by
    cases q:(WD (s.heap.objs.size+1) sc.names []).lookup x with
    | none=>rfl
    | some d=>
     rcases zcA _ _ _ x d (PySem.mem_of_lookup q)with z | z
     ·cases z
     ·have:=zcO S.nm z;rw[hfree]at this;cases this
   obtain⟨d,hd⟩:=Option.isSome_iff_exists.mp (zeS (env:=X.env) sc.names [] x (.inl (PySem.mem_of_lookup hfree)));have hdc:d=c:=by
    have:=old x d hd;rw[hc]at this;exact(Option.some.inj this).symm
   rw[zbC,List.lookup_append,hno,hd,hdc];rfl
 case cell=>
  intro x c hx;rcases cases_ x c hx with h | ⟨_,h⟩
  ·exact⟨none,(cok.empty x c (PySem.mem_of_lookup h)).1⟩
  ·obtain⟨v,q⟩:=I.cell x c (old x c h);exact⟨v,q.keeps kp⟩
 case freeC=>
  intro x c hx;rcases cases_ x c hx with h | ⟨_,h⟩
  ·exact I.hok.fresh (by have:=ownge x c h;lia)
  ·exact I.freeC x c (old x c h)
 case len=>
  show(zem k js σ).length=N.length;unfold zem;rw[Xm,List.length_replicate,Xb];exact S.len.symm
end
theorem zmn {prog:Wl}{w:Wt}{A:Wu}{R:Result->Wd->Prop}{s:Wd}{elt tg iter:Expr}{ifs:List Expr}{scope:WX}{pos:Pos}{it acc:Wb}{env:Env}(J:Nat->Wd->Prop)
  (turn:∀n s,J n s->Wi (Wh prog w) A (pyNext it) (λr s1=>match r with
   | none=>R (.ok .next) s1
   | some v=>Wi (Wh prog w) A (letOwnedTupleGo tg it v) (λ_ s2=>Wi (Wh prog w) A (assign tg env v) (λ_ s3=>
     Wi (Wh prog w) A (forIn ifs true λc r=>if r=true then do let ok <- isTrue c env (WA c env);pure (ForInStep.yield ok) else pure (ForInStep.yield r)) (λok s4=>
      if ok=true then Wi (Wh prog w) A (WA elt env) (λx s5=>Wi (Wh prog w) A (call (.builtin "list.append") [acc,x]) (λ_ s6=>∃m,m<n/\J m s6) (λ_ _=>False) s5) (λ_ _=>False) s4
      else ∃m,m<n/\J m s4) (λ_ _=>False) s3) (λ_ _=>False) s2) (λ_ _=>False) s1) (λ_ _=>False) s)
  (n:Nat) (h:J n s):Vl (Wh prog w) A (.compLoop (.ListComp elt [⟨tg,iter,ifs,0⟩] scope pos) 0 it acc env) R s:=by
 refine codeAny_loop rfl J (λn s hI=>wpAny_noted (wpAny_noRaise ?_)) n h;rw[compTurn_list];refine Wa (wpAny_standAt (Wa (thn (turn n s hI) λr s1 h1=>?_)));cases r with
 | none=>exact Wf h1
 | some v=>
  refine Wa (thn h1 λ_ s2 h2=>Wa (thn h2 λ_ s3 h3=>Wa (thn h3 λok s4 h4=>?_)));cases ok with
  | false=>exact Wf ⟨rfl,by simpa using h4⟩
  | true=>
   rw[if_pos rfl]at h4;exact Wa (Wa (thn h4 λx s5 h5=>Wa (thn h5 λ_ s6 h6=>Wf (Wf ⟨rfl,h6⟩))))
theorem zmo {M:Model}{A:Wu}{E:Wb->Wd->Prop}{s:Wd}{sc:WX}{globals:We}{clo:List (Str×We)}{qual:Str}{out:Env}{Q:Env->Wd->Prop}
  (h:Q { scope:=sc,locals:=s.heap.objs.size,globals:=globals,cells:=WD (s.heap.objs.size+1) sc.names clo,qual:=qual,func:=none,code:=out.code,frame:=out.frame,builtins:=out.builtins }
   {s with heap:=pushCells (s.heap.push { cls:=.type "dict",data:=.dict #[] }) sc.names }) :
  Wi M A (newFunctionEnv sc globals clo [] qual none .none (some out)) Q E s:=by
 unfold newFunctionEnv;simp only[Option.isSome_some,if_true];refine Wa (wpAny_alloc (Wa (wpAny_layCells _ (λname kind cells=>by cases hkc:kind == NameKind.cell<;>simp[hkc]) _ _ _ _ ?_)));rw[show({ s with heap:=s.heap.push { cls:=.type "dict",data:=.dict #[] } }:Wd).heap.objs.size=s.heap.objs.size+1 from Yr ..];simp only[List.forIn_nil];exact Wa (Wf (Wf h))
def PTs (X:Cx)(ifs:List Expr)(t:TT):Prop:=
 ∀(pins:List (We×Obj)) (s:Wd) (σ:St) (H:Hp) (Q:Bool->Hp->Prop),Inv X pins σ H s->t σ H Q->
  Wi (Wh X.prog X.w) X.A (forIn ifs true λc r=>if r=true then do let ok <- isTrue c X.env (WA c X.env);pure (ForInStep.yield ok) else pure (ForInStep.yield r)) (TP X pins σ Q) X.xe s
def zrc:TT:=λ_ H Q=>Q true H
theorem zrd {X:Cx}:PTs X [] zrc:=λpins s σ H Q I h=>wpAny_tests_nil ⟨H,I,h⟩
theorem zre {X:Cx}{c:Expr}{t:TT}(h:PT X c t):PTs X [c] t:=λpins s σ H Q I q=>wpAny_tests_one (h pins s σ H Q I q)
def zmp (J:It)(g:TG)(tt:TT)(te:TE)(l:We)(σb:St)(H1:Hp)(R:Hp->Prop):Prop:=
 ∃W:Nat->Nat->St->Hp->Prop,(∃m,W 0 m σb (upd H1 l (.lst [])))/\∀i m σ' H',W i m σ' H'->
  (J.stop i H'/\R H')\/(J.go i H'/\∀x H2,J.yld i H' x H2->g x σ' H2 λσ2 H3=>tt σ2 H3 λb H4=>if b=true
   then te σ2 H4 λv H5=>∃ys,H5 l=some (.lst ys)/\ys.length<Wn/\∃m',m'<m/\W (i+1) m' σ2 (upd H5 l (.lst (ys++[v])))
   else ∃m',m'<m/\W (i+1) m' σ2 H4)
def zrf (k:Nat)(js:List Nat)(wi:TI)(g:TG)(tt:TT)(te:TE):TE:=λσ H Q=>wi σ H λJ H1=>∀l,H1 l=none->zmp J g tt te l (zem k js σ) H1 λH'=>Q (.ref l) H'
section
variable {X:Cx}{elt tg iter:Expr}{ifs:List Expr}{sc:WX}{pos:Pos}{N:List Str}{k:Nat}{js:List Nat}{wi:TI}{g:TG}{tt:TT}{te:TE}
structure Blk (X:Cx)(N:List Str)(sc:WX)(tg:Expr)(ifs:List Expr)(elt:Expr)(g:TG)(tt:TT)(te:TE):Prop where
 tgt:∀C cells fp s H,PG (cxB X N sc C cells fp s H) tg g
 tst:∀C cells fp s H,PTs (cxB X N sc C cells fp s H) ifs tt
 val:∀C cells fp s H,PE (cxB X N sc C cells fp s H) elt te
def After (X:Cx)(pins:List (We×Obj))(σ:St)(R:We->Hp->Prop)(acc:Wb)(C:We)(s':Wd):Prop:=
 ∃(l:We) (H':Hp) (m:Str->Option Wb),acc=.ref l/\Inv X pins σ H' s'/\s'.heap.Ns C m/\FpOk X pins H' C/\R l H'
theorem zjS {pins:List (We×Obj)}{σ:St}{H:Hp}{s:Wd}{R:We->Hp->Prop}(hc:X.calm=true)(S:zcN X N k js sc)(hi:PI X tg iter wi)(B:Blk X N sc tg ifs elt g tt te)(I:Inv X pins σ H s)
  (h:wi σ H λJ H1=>∀l,H1 l=none->zmp J g tt te l (zem k js σ) H1 (R l)) :
  Wi (Wh X.prog X.w) X.A (WA iter X.env) (λx s1=>Wi (Wh X.prog X.w) X.A (pyIter x) (λit s2=>Wi (Wh X.prog X.w) X.A (newList []) (λacc s3=>
   Wi (Wh X.prog X.w) X.A (newFunctionEnv sc X.env.globals (zbA X.env sc.names []) [] X.env.qual none .none (some X.env)) (λcenv s4=>
    Vl (Wh X.prog X.w) X.A (.compStart (.ListComp elt [⟨tg,iter,ifs,0⟩] sc pos) 0 it acc { cenv with scope:=relabel sc X.env })
     (λr s'=>match r with | .ok _=>After X pins σ R acc cenv.locals s' | .error _=>False) s4) X.xe s3) X.xe s2) X.xe s1) X.xe s:=by
 refine thn (hi pins s σ H _ I h) λv s1 h1=>thn h1 λitv s2 h2=>?_;obtain⟨it,fp,tn,J,H2,e,I2,T,st2,f2,hq⟩:=h2;subst e;have hl:H2 s2.heap.objs.size=none:=I2.fresh;have fplt:∀b∈fp,b<s2.heap.objs.size:=λb hb=>by
  obtain⟨o,e,_⟩:=T.obj 0 _ st2 b hb;exact Xs e
 obtain⟨W,⟨m0,w0⟩,turn⟩:=hq _ hl;refine Vd ?_;have I3:Inv X pins σ (upd H2 s2.heap.objs.size (.lst [])) { s2 with heap:=s2.heap.push { cls:=.type "list",data:=.seq ([]:List Wb).toArray } }:=I2.lnew (its:=[]) (t':=s2.toks) .nil (XH _);have u3:Un (frs X.stack) fp H2 (upd H2 s2.heap.objs.size (.lst [])) s2.heap (s2.heap.push { cls:=.type "list",data:=.seq ([]:List Wb).toArray }):=Un.laid (λb o e=>Xd _ e) (Xf _) hl;have hz3:(s2.heap.push { cls:=.type "list",data:=.seq ([]:List Wb).toArray }).objs.size=s2.heap.objs.size+1:=Yr ..;have kp3:∀b o,s2.heap.get? b=some o->(s2.heap.push { cls:=.type "list",data:=.seq ([]:List Wb).toArray }).get? b=some o:=λb o e=>Xd _ e;have fpn:∀b∈fp,upd H2 s2.heap.objs.size (.lst []) b=none:=λb hb=>by
  rw[zak (XB (fplt b hb))];exact(f2 b hb).1
 generalize hl0:s2.heap.objs.size=l at hl I3 u3 hz3 kp3 fpn w0 turn ⊢;rw[hl0]at fplt;generalize s2.heap.push { cls:=.type "list",data:=.seq ([]:List Wb).toArray }=h3 at I3 u3 hz3 kp3 ⊢;generalize upd H2 l (.lst [])=H3 at I3 u3 fpn w0;have f3:∀b∈fp,FpOk X pins H3 b:=λb hb=>⟨fpn b hb,(f2 b hb).2⟩;have I4:=I3.block S f3 (λb hb=>by show b<h3.objs.size;rw[hz3];exact XJ (fplt b hb));have kp4:∀b o,s2.heap.get? b=some o->(pushCells (h3.push { cls:=.type "dict",data:=.dict #[] }) sc.names).get? b=some o:=λb o e=>pushCells_keeps _ _ b o (Xd _ (kp3 b o e));refine zmo ?_;have st4:tn 0 (pushCells (h3.push { cls:=.type "dict",data:=.dict #[] }) sc.names):=T.keep 0 _ _ st2 λb _ o e=>kp4 b o e;have stat:∀ {H':Hp},(∀b∈fp,H' b=none)->∀b∈fp,FpOk (cxB X N sc h3.objs.size (WD (h3.objs.size+1) sc.names (zbA X.env sc.names [])) fp { s2 with heap:=h3 } H3) [] H' b:=λhn b hb=>
  ⟨hn b hb,(I4.ok.exf b hb).1,I4.ok.exfs b hb,.inl hb,(I4.ok.exf b hb).2,λp hp=>absurd (show p∈([]:List (We×Obj)) from hp) (by simp)⟩
 generalize hY:cxB X N sc h3.objs.size (WD (h3.objs.size+1) sc.names (zbA X.env sc.names [])) fp { s2 with heap:=h3 } H3=Y at I4 stat;have loop:Vl (Wh X.prog X.w) X.A (.compLoop (.ListComp elt [⟨tg,iter,ifs,0⟩] sc pos) 0 (.ref it) (.ref l) Y.env)
   (λr s'=>match r with | .ok _=>After X pins σ R (.ref l) h3.objs.size s' | .error _=>False) { s2 with heap:=pushCells (h3.push { cls:=.type "dict",data:=.dict #[] }) sc.names }:=by
  subst hY;refine zmn (λn s'=>∃i σ' H',Inv (cxB X N sc h3.objs.size (WD (h3.objs.size+1) sc.names (zbA X.env sc.names [])) fp { s2 with heap:=h3 } H3) [] σ' H' s'/\tn i s'.heap/\(∀b∈fp,H' b=none)/\W i n σ' H') ?_ m0
   ⟨0,zem k js σ,H3,I4,st4,fpn,w0⟩
  rintro n s5 ⟨i,σ5,H5,I5,st5,fr5,w5⟩;rcases turn i n σ5 H5 w5 with ⟨stop,qn⟩ | ⟨go,step⟩
  ·refine thn (T.done (cxB X N sc h3.objs.size (WD (h3.objs.size+1) sc.names (zbA X.env sc.names [])) fp { s2 with heap:=h3 } H3) rfl rfl rfl hc i [] s5 σ5 H5 (λ_ _=>False) I5 (stat fr5) st5 stop) λr s6 ⟨hr,I6⟩=>?_;subst hr;obtain⟨m6,hn6,_⟩:=id I6.loc;have IX:Inv X pins σ H5 s6:=I2.call' (ch:=fp) I6.os (u3.trans I6.base) I6.hok I6.bare λb hb=>⟨(f2 b hb).2.2.2.1,(f2 b hb).2.1,(f2 b hb).2.2.2.2.1,(f2 b hb).2.2.2.2.2⟩;exact⟨l,H5,m6,rfl,IX,hn6,I2.fpOk (by show s2.heap.objs.size<=h3.objs.size;rw[hz3,hl0];exact Yu _) I6.free,qn⟩
  ·refine thn (T.item (cxB X N sc h3.objs.size (WD (h3.objs.size+1) sc.names (zbA X.env sc.names [])) fp { s2 with heap:=h3 } H3) rfl rfl rfl hc i [] s5 σ5 H5 (λ_ _=>False) I5 (stat fr5) st5 go) λr s6 ⟨u,hr,h6⟩=>?_;subst hr;refine thn h6 λ_ s7 ⟨x,H7,I7,r7,y7,st7,fr7⟩=>?_;have I7':=I7.pinned (stat fr7) (T.obj _ _ st7);refine thn (B.tgt _ _ _ _ _ _ s7 σ5 H7 x u _ I7' r7 (step x H7 y7)) λ_ s8 ⟨σ8,H8,I8,q8⟩=>?_;refine thn (B.tst _ _ _ _ _ _ s8 σ8 H8 _ I8 q8) λok s9 ⟨H9,I9,q9⟩=>?_;have kept:∀ {σ':St} {H':Hp} {s':Wd},Inv (cxB X N sc h3.objs.size (WD (h3.objs.size+1) sc.names (zbA X.env sc.names [])) fp { s2 with heap:=h3 } H3) ([]++zhQ fp s7.heap) σ' H' s'->tn (i+1) s'.heap/\∀b∈fp,H' b=none:=λ{σ' H' s'} I'=>
    ⟨T.keep _ _ _ st7 λb hb o e=>(I'.pin (b,o) (XZ _ (XZ _ (zdz hb e)))).1,λb hb=>by
     obtain⟨o,e,_⟩:=T.obj _ _ st7 b hb;exact(I'.pin (b,o) (XZ _ (XZ _ (zdz hb e)))).2.1⟩
   cases ok with
   | false=>
    rw[if_neg Xr]at q9;rw[if_neg Xr];obtain⟨m',hm,w9⟩:=q9;exact⟨m',hm,i+1,σ8,H9,I9.zei,(kept I9).1,(kept I9).2,w9⟩
   | true=>
    rw[if_pos rfl]at q9;rw[if_pos rfl];refine thn (B.val _ _ _ _ _ _ s9 σ8 H9 _ I9 q9) λu10 s10 ⟨y,H10,I10,r10,ys,hys,hlen,m',hm,w10⟩=>?_;refine thn (zhZ _ s10 σ8 H10 (.ref l) [y] (.ref l) [u10] (λ_ H'=>H'=upd H10 l (.lst (ys++[y]))) I10 rfl (.cons r10 .nil) ⟨l,ys,y,rfl,rfl,hys,hlen,rfl⟩) λ_ s11 ⟨_,H11,I11,_,e11⟩=>?_;subst e11;exact⟨m',hm,i+1,σ8,_,I11.zei,(kept I11).1,(kept I11).2,w10⟩
 subst hY;exact codeAny_compStart_list loop (T.self X.A 0 _ _ _ st4 loop)
theorem zgC {X:Cx}(S:zcN X N k js sc):∀x∈sc.names,x.2=.local->sc.names.lookup x.1=some .local:=λx hx hl=>zcO S.nm (by rw[<- hl];exact hx)
theorem zrg (hc:X.calm=true)(S:zcN X N k js sc)(hi:PI X tg iter wi)(B:Blk X N sc tg ifs elt g tt te)(hs:∀x,WQ iter X.env x=pure x:=by intro _;rfl) :
  PE X (.ListComp elt [⟨tg,iter,ifs,0⟩] sc pos) (zrf k js wi g tt te):=by
 intro pins s σ H Q I h;rw[eval_ListComp];refine wpAny_comprehension_free (use:=none) rfl hs (zmm λn hn=>I.ok.has n (S.fr n hn)) S.kind (zgC S) ?_;refine thn (zjS (pos:=pos) (R:=λl H'=>Q (.ref l) H') hc S hi B I h) λx s1 h1=>thn h1 λit s2 h2=>thn h2 λacc s3 h3=>thn h3 λcenv s4 h4=>W8 h4 λr s' hr=>?_;cases r with
 | error e=>exact False.elim hr
 | ok f=>
  obtain⟨l,H',m,rfl,I',hn,⟨f0,f1,f2,f3,f4,f5⟩,q⟩:=hr;exact⟨m,hn,λh' sb=>⟨.ref l,H',I'.turned (t':=s'.toks) (λb o hb e=>sb.extBut b o hb e) f0 f1 f3 f4 f5,rfl,q⟩⟩
theorem zmq {i:Nat}{x:Str}{pos' pos2:Pos}(hc:X.calm=true)(S:zcN X N k js sc)(hi:PI X tg iter wi)(B:Blk X N sc tg ifs elt g tt te)(hN:X.N.Nodup)(hx:X.N[i]? = some x)(hk:X.env.scope.names.lookup x=some .local)
  (hsw:WF (.ListComp elt [⟨tg,iter,ifs,0⟩] sc pos) (some (.Name x pos')) pos2.line X.env=pure true:=by rfl) (hs:∀x,WQ iter X.env x=pure x:=by intro _;rfl) :
  PS X (.Assign [.Name x pos'] (.ListComp elt [⟨tg,iter,ifs,0⟩] sc pos) pos2) (tAsg (zrf k js wi g tt te) (zlU i)):=by
 intro pins s σ H D I h;rw[exec_Assign_Name_used _ _ _ _ hsw];refine Wa (wpAny_standAt (Wa ?_));show Wi _ X.A (do let _ <- comprehension (.ListComp elt [⟨tg,iter,ifs,0⟩] sc pos) sc X.env _ (newList []) false (WA iter X.env) (some (assign (.Name x pos') X.env))) _ _ s
 refine Wa (thn (wpAny_comprehension_free (use:=some (assign (.Name x pos') X.env)) (Q:=λ_ s'=>SP X pins D .next s') rfl hs (zmm λn hn=>I.ok.has n (S.fr n hn)) S.kind (zgC S) ?_) λ_ s' hq=>Wf (Wf hq))
 refine thn (zjS (pos:=pos) (R:=λl H'=>D.nx (σ.set i (some (.ref l))) H') hc S hi B I h) λy s1 h1=>thn h1 λit s2 h2=>thn h2 λacc s3 h3=>thn h3 λcenv s4 h4=>W8 h4 λr s' hr=>?_;cases r with
 | error e=>exact False.elim hr
 | ok f=>
  obtain⟨l,H',m,rfl,I',hn,⟨f0,f1,f2,f3,f4,f5⟩,q⟩:=hr;refine wpAny_assign_Name (zhO I' hN hx (.inl hk) (show RelV (.ref l) (.ref l) from rfl) (λs'' I'' ⟨a,sb,ha⟩=>?_) (.inr hk));have ne:cenv.locals≠a:=by
   rcases ha with z | z
   ·rw[z];exact f1
   ·exact λw=>f4 x a z w.symm
  exact⟨m,hn.sameBut sb ne,λh' sb'=>⟨_,H',I''.turned (t':=s''.toks) (λb o hb e=>sb'.extBut b o hb e) f0 f1 f3 f4 f5,q⟩⟩
end
end L2
namespace JS
open PySem
theorem zeT {α:Type}:∀ {l:List α}{i:Nat}(h:i<l.length),(l[i]::l.eraseIdx i).Perm l
 | _::_,0,_=>List.Perm.refl _
 | x::r,i+1,h=>by
  have ih:=zeT (l:=r) (i:=i) (by simpa using h);rw[List.eraseIdx_cons_succ];exact(List.Perm.swap x _ _).trans (ih.cons x)
section
variable {M:Model}{A:Wu}{E:Wb->Wd->Prop}{s:Wd}
theorem zlg {src:Source}{n:Nat}{Q:Nat->Wd->Prop}(hn:n≠0)(h:∀i,i<n->Q i { s with drawn:=s.drawn.bump src }):Wi M A (choose src n) Q E s:=
 λ_ _ _=>⟨hn,h _ (Nat.mod_lt _ (Nat.pos_of_ne_zero hn))⟩
theorem zjT {α:Type}:∀(n:Nat)(xs:List α)(s:Wd)(Q:List α->Wd->Prop),xs.length<=n->(∀ys d,ys.Perm xs->Q ys { s with drawn:=d })->Wi M A (drawOrder n xs) Q E s
 | 0,xs,s,Q,h,hq=>by
  have e:xs=[]:=Yf.mp (by lia);subst e;exact Wf (hq [] s.drawn (List.Perm.refl _))
 | n+1,[],s,Q,_,hq=>Wf (hq [] s.drawn (List.Perm.refl _))
 | n+1,x::r,s,Q,h,hq=>by
  show Wi M A (choose .order (x::r).length >>= λi=>match (x::r)[i]? with
   | some y=>drawOrder n ((x::r).eraseIdx i) >>= λys=>pure (y::ys)
   | none=>unsupported "internal:drawOrder") Q E s
  refine Wa (zlg (by simp) λi hi=>?_);have e:(x::r)[i]? = some (x::r)[i]:=by simp[hi]
  rw[e];refine Wa (zjT n ((x::r).eraseIdx i) _ _ (by rw[List.length_eraseIdx_of_lt hi];simp at h ⊢;lia) λys d hp=>Wf (hq _ d ?_));exact(hp.cons _).trans (zeT hi)
end
theorem zmr {α:Type}(next:Nat->Nat):∀(fuel k:Nat)(left:List α)(out:Array α),left.length=fuel->(pickOrder.go next fuel k left out).toList.Perm (out.toList++left)
 | 0,k,left,out,h=>by
  have e:left=[]:=Yf.mp h;subst e;simp[pickOrder.go]
 | fuel+1,k,left,out,h=>by
  unfold pickOrder.go;have hi:next k % left.length<left.length:=Nat.mod_lt _ (by lia)
  have e:left[next k % left.length]? = some left[next k % left.length]:=by simp[hi]
  rw[e];dsimp only;refine(zmr next fuel (k+1) _ _ (by rw[List.length_eraseIdx_of_lt hi];lia)).trans ?_
  rw[Array.toList_push,List.append_assoc];exact List.Perm.append_left _ (zeT hi)
theorem zic {α:Type}(next:Nat->Nat)(xs:Array α):(pickOrder next xs).toList.Perm xs.toList:=by
 unfold pickOrder;have h:=zmr next xs.size 0 xs.toList #[] (by simp)
 simpa using h
def Asc (xs:Array Nat):Prop:=xs.toList.Pairwise (· < ·)
theorem Asc.lt {xs:Array Nat}(h:Asc xs){i j:Nat}(hij:i<j)(hj:j<xs.size):xs.getD i 0<xs.getD j 0:=by
 have q:=List.pairwise_iff_getElem.mp h i j (by simp;lia) (by simpa using hj) hij;simpa[Array.getD,hj,show i<xs.size by lia]using q
theorem zep (n:Nat):Asc (Array.range n):=by
 unfold Asc;rw[Array.toList_range];exact List.pairwise_lt_range
theorem zhf (xs:Array Nat)(j:Nat):∀(fuel lo hi:Nat),Asc xs->lo<=hi->hi<=xs.size->hi-lo<=fuel->(∀i,i<lo->xs.getD i 0<j)->(∀i,hi<=i->i<xs.size->¬ xs.getD i 0<j)->
  Yl.go xs j fuel lo hi<=xs.size/\(∀i,i<Yl.go xs j fuel lo hi->xs.getD i 0<j)/\∀i,Yl.go xs j fuel lo hi<=i->i<xs.size->¬ xs.getD i 0<j
 | 0,lo,hi,ha,h1,h2,h3,h4,h5=>by
  have:lo=hi:=by lia
  subst this;exact⟨h2,h4,h5⟩
 | fuel+1,lo,hi,ha,h1,h2,h3,h4,h5=>by
  unfold Yl.go;by_cases h:lo<hi
  ·rw[if_pos h];dsimp only;have hm:(lo+hi) / 2<xs.size:=by lia
   have e:xs.getD ((lo+hi) / 2) j=xs.getD ((lo+hi) / 2) 0:=by simp[Array.getD,hm]
   rw[e];by_cases hc:xs.getD ((lo+hi) / 2) 0<j
   ·rw[if_pos hc];refine zhf xs j fuel _ _ ha (by lia) h2 (by lia) (λi hi'=>?_) h5;rcases Nat.lt_or_ge i ((lo+hi) / 2)with z | z
    ·exact Nat.lt_trans (ha.lt z hm) hc
    ·have:i=(lo+hi) / 2:=by lia
     rw[this];exact hc
   ·rw[if_neg hc];refine zhf xs j fuel _ _ ha (by lia) (by lia) (by lia) h4 λi hi' hs z=>hc ?_;rcases Nat.lt_or_ge ((lo+hi) / 2) i with y | y
    ·exact Nat.lt_trans (ha.lt y hs) z
    ·have:i=(lo+hi) / 2:=by lia
     rw[<- this];exact z
  ·rw[if_neg h];have:lo=hi:=by lia
   subst this;exact⟨h2,h4,h5⟩
theorem zjU {xs:Array Nat}(ha:Asc xs)(j:Nat):Yl xs j<=xs.size/\(∀i,i<Yl xs j->xs.getD i 0<j)/\∀i,Yl xs j<=i->i<xs.size->¬ xs.getD i 0<j:=
 zhf xs j xs.size 0 xs.size ha (XH _) (Xf _) (by lia) (λi h=>by lia) (λi h1 h2=>by lia)
theorem below_at {xs:Array Nat}(ha:Asc xs){i:Nat}(hi:i<=xs.size):Yl xs (if i=0 then 0 else xs.getD (i-1) 0+1)=i:=by
 obtain⟨h1,h2,h3⟩:=zjU ha (if i=0 then 0 else xs.getD (i-1) 0+1)
 generalize Yl xs (if i=0 then 0 else xs.getD (i-1) 0+1)=r at h1 h2 h3
 by_cases e:i=0
 ·subst e;rw[if_pos rfl]at h2;rcases Nat.eq_zero_or_pos r with z | z
  ·exact z
  ·exact absurd (h2 0 z) (by lia)
 ·rw[if_neg e]at h2 h3;rcases Nat.lt_trichotomy r i with z | z | z
  ·have q:=h3 (i-1) (by lia) (by lia);lia
  ·exact z
  ·have q1:=h2 i z;have q2:=ha.lt (show i-1<i by lia) (show i<xs.size by lia);lia
structure Rec (w:Wt)(h:Heap)(a:We)(es:Array (Int×Wb))(ep:Nat)(t:SetTable):Prop where
 obj:∃o,h.get? a=some o/\o.ExactSet/\o.data=.set es ep t
 fits:t.fits es.size=true
 led:t.led=true\/w.params.followText "set-order" = true
 asc:Asc t.place
 dm:t.dummies = #[]
 sz:es.size<Ve
theorem Rec.keep {w:Wt}{h h':Heap}{a:We}{es:Array (Int×Wb)}{ep:Nat}{t:SetTable}(r:Rec w h a es ep t)(k:∀o,h.get? a=some o->h'.get? a=some o):Rec w h' a es ep t:=
 ⟨let ⟨o,e,x⟩:=r.obj;⟨o,k o e,x⟩,r.fits,r.led,r.asc,r.dm,r.sz⟩
theorem Rec.type {w:Wt}{s:Wd}{a:We}{es:Array (Int×Wb)}{ep:Nat}{t:SetTable}(r:Rec w s.heap a es ep t):s.TypeIs (.ref a) "set":=
 let ⟨o,e,x,_⟩:=r.obj;⟨o,e,x.1⟩
namespace F
theorem slot_next:Slot "set_iterator" "__next__" "set_iterator.__next__":=.of (owner:="set_iterator") (n:="__next__") (by rw[typeLookup_type,builtinLookup_eq_fast];kernel_rfl) (by decide +kernel) (by decide +kernel) (by decide +kernel) (by first | exact .inl (by decide +kernel) | exact .inr (by decide +kernel)) (by rw[isSubtype_type];kernel_rfl)
theorem entry_next:entryFor table "set_iterator.__next__" = some Builtin.«set_iterator.__next__»:=entryFor_of_tree (by kernel_rfl)
theorem args_next (a:Wb):argsOk "set_iterator.__next__" ⟨[a],[]⟩:=by unfold argsOk;kernel_rfl
theorem zid:Slot "set_iterator" "__iter__" "set_iterator.__iter__":=.of (owner:="set_iterator") (n:="__iter__") (by rw[typeLookup_type,builtinLookup_eq_fast];kernel_rfl) (by decide +kernel) (by decide +kernel) (by decide +kernel) (by first | exact .inl (by decide +kernel) | exact .inr (by decide +kernel)) (by rw[isSubtype_type];kernel_rfl)
theorem zlh:entryFor table "set_iterator.__iter__" = some Builtin.«dict_keyiterator.__iter__»:=entryFor_alias (id':="dict_keyiterator.__iter__") (by kernel_rfl) rfl (by decide +kernel) (by kernel_rfl)
theorem zms (a:Wb):argsOk "set_iterator.__iter__" ⟨[a],[]⟩:=by unfold argsOk;kernel_rfl
theorem zgp:entryFor table "set.__iter__" = some Builtin.«frozenset.__iter__»:=entryFor_alias (id':="frozenset.__iter__") (by kernel_rfl) rfl (by decide +kernel) (by kernel_rfl)
end F
abbrev byText (w:Wt):Bool:=w.params.followText "set-order"
abbrev zfl (first:Wb)(i n ep:Nat)(a:We):Obj:={ cls:=.type "set_iterator",data:=.fields #[first,.int i 0,.ref a,.int n 0,.int ep 0] }
inductive At (w:Wt) (h:Heap) (it a:We) (es:Array (Int×Wb)) (ep:Nat) (t:SetTable):List We->List Wb->Nat->Prop where
 | drawn (tp:We) (ps:List Nat) (i:Nat):(tp≠it)->h.get? it=some (zfl (.ref tp) i es.size ep a)->h.IsTuple tp (ps.map λ(p:Nat)=>Value.int (p:Int) 0).toArray->ps.Perm (Xz es.size)->At w h it a es ep t [tp] (ps.map λp=>(es.getD p (0,.none)).2) i
 | text (slot i:Nat):byText w=true->h.get? it=some (zfl (.int slot 0) i es.size ep a)->At w h it a es ep t [] ((pickOrder (w.params.setOrder a ep) es).toList.map (·.2)) i
 | one (slot i:Nat):byText w=false->t.led=true->(t.plain=true\/es.size<=1)->h.get? it=some (zfl (.int slot 0) i es.size ep a)->(slot=if i=0 then 0 else t.place.getD (i-1) 0+1)->At w h it a es ep t [] (es.toList.map (·.2)) i
section
variable {prog:Wl}{w:Wt}{A:Wu}{E:Wb->Wd->Prop}{s:Wd}{a it:We}{es:Array (Int×Wb)}{ep:Nat}{t:SetTable}
theorem zbD {Q:(Array (Int×Wb)×Nat×SetTable)->Wd->Prop}(r:Rec w s.heap a es ep t)(h:Q (es,ep,t) s):Wi (Wh prog w) A (setState a) Q E s:=by
 obtain⟨o,e,_,d⟩:=r.obj;exact wpAny_setState_of e d r.fits h
theorem zfn {slot i n:Nat}{P:PySem.Fin->Wd->Prop}{F:Wb->Wd->Prop}(r:Rec w s.heap a es ep t)(ho:s.heap.get? it=some (zfl (.int slot 0) i es.size ep a))
  (h:Wi (Wh prog w) A (setNext a slot i ep >>= λm=>match m with
     | some (x,next)=>setField (.ref it) 0 (Vi next) >>= λ_=>setField (.ref it) 1 (Vi ((i:Int)+1)) >>= λ_=>ret x
     | none=>setField (.ref it) 2 .none >>= λ_=>newExc (.type "StopIteration") [] >>= λe=>raiseNew e) P F s) :
  Wi (Wh prog w) A (Builtin.«set_iterator.__next__» ⟨[.ref it],[]⟩) P F s:=by
 unfold Builtin.«set_iterator.__next__» slotArgs;simp only[List.isEmpty_nil,Bool.not_true,XU,if_false,YB,bne_self_eq_false];refine Wa (Wf (Wa (wpAny_fieldsOf ho rfl ?_)));dsimp only;unfold setEntries;refine Wa (Wa (zbD r (Wf ?_)));simp only[bne_self_eq_false,XU,if_false,Yc];exact h
theorem zjV {tp i n:Nat}{items:Array Wb}{P:PySem.Fin->Wd->Prop}{F:Wb->Wd->Prop}(r:Rec w s.heap a es ep t)(ho:s.heap.get? it=some (zfl (.ref tp) i es.size ep a))(ht:s.heap.IsTuple tp items)
  (h:Wi (Wh prog w) A (match items[i]? with
      | some (.int place _)=>setNextDrawn a place.toNat ep >>= λx=>setField (.ref it) 1 (Vi ((i:Int)+1)) >>= λ_=>ret x
      | some _=>unsupported "internal:set_iterator"
      | none=>setField (.ref it) 0 (Vi 0) >>= λ_=>setField (.ref it) 2 .none >>= λ_=>newExc (.type "StopIteration") [] >>= λe=>raiseNew e) P F s) :
  Wi (Wh prog w) A (Builtin.«set_iterator.__next__» ⟨[.ref it],[]⟩) P F s:=by
 unfold Builtin.«set_iterator.__next__» slotArgs;simp only[List.isEmpty_nil,Bool.not_true,XU,if_false,YB,bne_self_eq_false];refine Wa (Wf (Wa (wpAny_fieldsOf ho rfl ?_)));dsimp only;unfold setEntries;refine Wa (Wa (zbD r (Wf ?_)));simp only[bne_self_eq_false,XU,if_false,Yc];obtain⟨o,ho',_,n',hd⟩:=ht;exact Wa (WV ho' hd h)
theorem zfd {i:Nat}{slot:Nat}{Q:Option (Wb×Nat)->Wd->Prop}(r:Rec w s.heap a es ep t)(hb:byText w=true)
  (h:Q (((pickOrder (w.params.setOrder a ep) es)[i]?).map λe=>(e.2,slot)) s):Wi (Wh prog w) A (setNext a slot i ep) Q E s:=by
 have hb':w.params.followText "set-order" = true:=hb;unfold setNext setsByText;refine Wa (zbD r ?_);refine Wa (Wa (W5 (Wf ?_)));simp only[Wh,hb',if_true,bne_self_eq_false,XU,if_false];unfold setWalk setsByText;refine Wa (Wa (zbD r ?_));refine Wa (Wa (W5 (Wf ?_)));simp only[Wh,hb',if_true];exact Wa (W5 (Wf (Wf h)))
theorem zfE {i:Nat}{slot:Nat}{Q:Option (Wb×Nat)->Wd->Prop}(r:Rec w s.heap a es ep t)(hb:byText w=false)(hl:t.led=true)(h1:t.plain=true\/es.size<=1)
  (h:Q (match es[Yl t.place slot]?,t.place[Yl t.place slot]? with | some (_,x),some j=>some (x,j+1) | _,_=>none) s):Wi (Wh prog w) A (setNext a slot i ep) Q E s:=by
 have hb':w.params.followText "set-order" = false:=hb;unfold setNext setsByText;refine Wa (zbD r ?_);refine Wa (Wa (W5 (Wf ?_)));simp only[Wh,hb',XU,if_false];have hd:(!t.plain&&decide (es.size > 1))=false:=by
  rcases h1 with z | z
  ·rw[z];rfl
  ·rw[decide_eq_false (by lia),Bool.and_false]
 have hm:(!t.led&&!es.isEmpty)=false:=by rw[hl];rfl
 show Wi (Wh prog w) A (if (!t.plain&&decide (es.size > 1))=true then _ else((if (!t.led&&!es.isEmpty)=true then unsupported "set:maker-not-led" else pure ()) >>= λ_=>pure _)) Q E s
 rw[hd,hm];exact Wa (Wf (Wf h))
theorem zli {p:Nat}{x:Wb}{hx:Int}{Q:Wb->Wd->Prop}(r:Rec w s.heap a es ep t)(hp:es[p]? = some (hx,x))(h:Q x s):Wi (Wh prog w) A (setNextDrawn a p ep) Q E s:=by
 unfold setNextDrawn;refine Wa (zbD r ?_);simp only[bne_self_eq_false,XU,if_false,hp];exact Wf h
theorem zmt (hh:A.handled=none){R:Option Wb->Wd->Prop}(hR:∀h',(∀b o,s.heap.get? b=some o->h'.get? b=some o)->R none { s with heap:=h' }) :
  Wi (Wh prog w) A.in1 (newExc (.type "StopIteration") [] >>= λe=>(raiseNew e:Sem PySem.Fin)) (λ_ _=>False)
   (λe s'=>Wi (Wh prog w) A (isInstance e (.type "StopIteration") >>= λb=>if b=true then pure none else throw e) R E s') s:=by
 refine Wa ?_;simp only[newExc,newTuple];refine Wa (W1 (Wa (m:=firstArgMember _ _) (wpAny_of_eq (a:=Value.none) (by first | rfl | (simp only[firstArgMember];rfl)) (W1 ?_ (by size_fits)))) (by size_fits))
 simp only[raiseNew];refine Wa (wpAny_handled ?_);rw[show A.in1.handled=none from hh];refine Wa (Wf (wpAny_throw ?_));refine Wa (wpAny_isInstance (T:="StopIteration") (b:=true) ⟨_,Xw _ rfl,rfl⟩ isSubtype_stop ?_);exact Wf (hR _ λb o e=>Xd _ (Xd _ e))
theorem zcF {first:Wb}{i n:Nat}{Q:Option Wb->Wd->Prop}(ho:s.heap.get? it=some (zfl first i n ep a))
  (h:Wi (Wh prog w) A.in1 (Builtin.«set_iterator.__next__» ⟨[.ref it],[]⟩) (λfin s'=>∃u,fin=.done (.ret u)/\Q (some u) s')
   (λe s'=>Wi (Wh prog w) A (isInstance e (.type "StopIteration") >>= λb=>if b=true then pure none else throw e) Q E s') s):Wi (Wh prog w) A (pyNext (.ref it)) Q E s:=by
 have hT:s.TypeIs (.ref it) "set_iterator":=⟨_,ho,rfl⟩;unfold pyNext;refine Wa (wpAny_attempt (wpAny_callSpecial?_slot (name:=Str.ofString "__next__") hT F.slot_next (WE F.slot_next hT F.entry_next ?_ (F.args_next _))));exact WR h (λfin s' ⟨u,e,q⟩=>⟨u,e,Wf q⟩) λ_ _ z=>z
theorem next_item {tq:List We}{order:List Wb}{i:Nat}{v:Wb}{Q:Option Wb->Wd->Prop}(r:Rec w s.heap a es ep t)(x:At w s.heap it a es ep t tq order i)(hv:order[i]? = some v)
  (hQ:∀h',At w h' it a es ep t tq order (i+1)->Yi it s.heap h'->Q (some v) { s with heap:=h' }):Wi (Wh prog w) A (pyNext (.ref it)) Q E s:=by
 have hc:((i:Int)+1)=((i+1:Nat):Int):=by lia
 cases x with
 | drawn tp ps _ hne ho ht hp=>
  refine zcF ho (zjV (n:=0) r ho ht ?_);rw[Xl]at hv;cases hpi:ps[i]? with
  | none=>rw[hpi]at hv;cases hv
  | some p=>
   rw[hpi]at hv;have hlt:p<es.size:=List.mem_range.mp (hp.mem_iff.mp (Xu hpi));have e1:(ps.map λ(p:Nat)=>Value.int (p:Int) 0).toArray[i]? = some (Value.int (p:Int) 0):=by simp[hpi]
   rw[e1];dsimp only;have e2:es[p]? = some (es[p].1,es[p].2):=by simp[hlt]
   have e3:v=es[p].2:=by
    have q:=Option.some.inj hv;rw[<- q];simp[Array.getD,hlt]
   rw[Yc];refine Wa (zli r e2 (Wa (WK ho rfl (by show 1<5;decide) (Wf ⟨_,rfl,?_⟩))));rw[<- e3];refine hQ _ (.drawn tp ps (i+1) hne ?_ ?_ hp) (Yi.update ..)
   ·rw[hc];exact Yg _ ho rfl
   ·obtain⟨o,q,c⟩:=ht;exact⟨o,(Yj _ _ (Ne.symm hne)).trans q,c⟩
 | text slot _ hb ho=>
  refine zcF ho (zfn (n:=0) r ho (Wa (zfd r hb ?_)));rw[Xl]at hv;cases hpi:(pickOrder (w.params.setOrder a ep) es).toList[i]? with
  | none=>rw[hpi]at hv;cases hv
  | some p=>
   rw[hpi]at hv;have e1:(pickOrder (w.params.setOrder a ep) es)[i]? = some p:=by rw[<- Yx];exact hpi
   have e3:p.2=v:=Option.some.inj hv;rw[e1];dsimp only[Option.map];rw[e3];have ho1:(s.heap.update it (Obj.mapFields (·.setIfInBounds 0 (Vi slot)))).get? it=some (zfl (.int slot 0) i es.size ep a):=Yg _ ho rfl;refine Wa (WK ho rfl (by show 0<5;decide) (Wa (WK ho1 rfl (by show 1<5;decide) (Wf ⟨_,rfl,?_⟩))));refine hQ _ (.text slot (i+1) hb ?_) ((Yi.update ..).trans (Yi.update ..));rw[hc];exact Yg _ ho1 rfl
 | one slot _ hb hl h1 ho h0=>
  refine zcF ho (zfn (n:=0) r ho (Wa (zfE r hb hl h1 ?_)));have hi:i<es.size:=by
   have q:=(Xe.mp hv).1;simpa using q
  have hps:t.place.size=es.size:=by
   have q:=r.fits;simp only[SetTable.fits,Yo,beq_iff_eq]at q;exact q.1
  have e0:Yl t.place slot=i:=by rw[h0];exact below_at r.asc (by lia)
  have e1:es[i]? = some (es[i].1,es[i].2):=by simp[hi]
  have e3:es[i].2=v:=by
   rw[Xl]at hv;have q:es.toList[i]? = some es[i]:=by simp[hi]
   rw[q]at hv;exact Option.some.inj hv
  have hip:i<t.place.size:=by lia
  obtain⟨pl,hpl⟩:∃pl,t.place[i]? = some pl:=⟨t.place[i],getElem?_pos t.place i hip⟩;have hpd:t.place.getD i 0=pl:=by
   rw[getElem?_pos t.place i hip]at hpl;simp only[Array.getD,hip,dif_pos];exact Option.some.inj hpl
  rw[e0,e1,hpl];dsimp only;rw[e3];have ho1:(s.heap.update it (Obj.mapFields (·.setIfInBounds 0 (Vi ((pl+1:Nat):Int))))).get? it=some (zfl (.int ((pl+1:Nat):Int) 0) i es.size ep a):=Yg _ ho rfl;refine Wa (WK ho rfl (by show 0<5;decide) (Wa (WK ho1 rfl (by show 1<5;decide) (Wf ⟨_,rfl,?_⟩))));refine hQ _ (.one (pl+1) (i+1) hb hl h1 ?_ (by rw[if_neg (by lia),Nat.add_sub_cancel,hpd])) ((Yi.update ..).trans (Yi.update ..));rw[hc];exact Yg _ ho1 rfl
theorem zmu {tq:List We}{order:List Wb}{Q:Option Wb->Wd->Prop}(hh:A.handled=none)(r:Rec w s.heap a es ep t)(x:At w s.heap it a es ep t tq order es.size)
  (hQ:∀h',(∀b o,b≠it->s.heap.get? b=some o->h'.get? b=some o)->Q none { s with heap:=h' }):Wi (Wh prog w) A (pyNext (.ref it)) Q E s:=by
 have up:∀(k:Nat) (y:Wb) (h:Heap) (b:We) (o:Obj),b≠it->h.get? b=some o->(h.update it (Obj.mapFields (·.setIfInBounds k y))).get? b=some o:=λk y h b o hb e=>(Yj _ _ (Ne.symm hb)).trans e;have two:∀(slot i:Nat),s.heap.get? it=some (zfl (.int slot 0) i es.size ep a)->Wi (Wh prog w) A.in1 (setField (.ref it) 2 .none >>= λ_=>newExc (.type "StopIteration") [] >>= λe=>(raiseNew e:Sem PySem.Fin))
   (λfin s'=>∃u,fin=.done (.ret u)/\Q (some u) s') (λe s'=>Wi (Wh prog w) A (isInstance e (.type "StopIteration") >>= λb=>if b=true then pure none else throw e) Q E s') s:=λslot i ho=>by
  refine Wa (WK ho rfl (by show 2<5;decide) ?_);exact WR (zmt (E:=E) (R:=Q) hh λh' k=>hQ h' λb o hb e=>k b o (up _ _ _ b o hb e)) (λ_ _ z=>z.elim) λ_ _ z=>z
 cases x with
 | drawn tp ps _ hne ho ht hp=>
  refine zcF ho (zjV (n:=0) r ho ht ?_);have e1:(ps.map λ(p:Nat)=>Value.int (p:Int) 0).toArray[es.size]? = none:=by
   have q:=hp.length_eq;rw[XM]at q;simp[q]
  rw[e1];dsimp only;have ho1:(s.heap.update it (Obj.mapFields (·.setIfInBounds 0 (Vi 0)))).get? it=some (zfl (.int ((0:Nat):Int) 0) es.size es.size ep a):=Yg _ ho rfl;refine Wa (WK ho rfl (by show 0<5;decide) (Wa (WK ho1 rfl (by show 2<5;decide) ?_)));exact WR (zmt (E:=E) (R:=Q) hh λh' k=>hQ h' λb o hb e=>k b o (up _ _ _ b o hb (up _ _ _ b o hb e))) (λ_ _ z=>z.elim) λ_ _ z=>z
 | text slot _ hb ho=>
  refine zcF ho (zfn (n:=0) r ho (Wa (zfd r hb ?_)));have q:=(zic (w.params.setOrder a ep) es).length_eq;have e1:(pickOrder (w.params.setOrder a ep) es)[es.size]? = none:=by
   simp only[Ye]at q;simp[q]
  rw[e1];dsimp only[Option.map];exact two slot _ ho
 | one slot _ hb hl h1 ho h0=>
  refine zcF ho (zfn (n:=0) r ho (Wa (zfE r hb hl h1 ?_)));have hps:t.place.size=es.size:=by
   have q:=r.fits;simp only[SetTable.fits,Yo,beq_iff_eq]at q;exact q.1
  have e0:es[Yl t.place slot]? = none:=by
   rw[h0,below_at r.asc (by lia)];simp
  rw[e0];dsimp only;exact two slot _ ho
theorem zmv {Q:Bool->Wd->Prop}(r:Rec w s.heap a es ep t)(h:Q (!byText w&&(!t.plain&&decide (es.size > 1))) s):Wi (Wh prog w) A (setDrawn a) Q E s:=by
 unfold setDrawn setsByText;refine Wa (zbD r ?_);exact Wa (Wa (W5 (Wf (Wf h))))
theorem At.keep {h h':Heap}{tq:List We}{order:List Wb}{i:Nat}(x:At w h it a es ep t tq order i)(k:∀b∈it::tq,∀o,h.get? b=some o->h'.get? b=some o):At w h' it a es ep t tq order i:=by
 cases x with
 | drawn tp ps _ hne ho ht hp=>
  obtain⟨o,q,c⟩:=ht;exact .drawn tp ps i hne (k it (by simp) _ ho) ⟨o,k tp (by simp) o q,c⟩ hp
 | text slot _ hb ho=>exact .text slot i hb (k it (by simp) _ ho)
 | one slot _ hb hl h1 ho h0=>exact .one slot i hb hl h1 (k it (by simp) _ ho) h0
theorem At.len {h:Heap}{tq:List We}{order:List Wb}{i:Nat}(x:At w h it a es ep t tq order i):order.Perm (es.toList.map (·.2)):=by
 cases x with
 | drawn tp ps _ hne ho ht hp=>
  have e:(Xz es.size).map (λp=>(es.getD p (0,Value.none)).2)=es.toList.map (·.2):=by
   apply List.ext_getElem
   ·simp
   ·intro j h1 h2;simp at h1;simp[Array.getD,h1]
  rw[<- e];exact hp.map _
 | text slot _ hb ho=>exact(zic _ _).map _
 | one slot _ hb hl h1 ho h0=>exact List.Perm.refl _
theorem zoD {Q:Wb->Wd->Prop}(r:Rec w s.heap a es ep t)
  (h:∀(h':Heap) (d:Drawn) (it:We) (tq:List We) (order:List Wb),(∀b o,s.heap.get? b=some o->h'.get? b=some o)->s.heap.objs.size<=it->(∀b∈it::tq,s.heap.objs.size<=b/\b<h'.objs.size)->At w h' it a es ep t tq order 0->
   Q (.ref it) { s with heap:=h',drawn:=d }):Wi (Wh prog w) A (pyIter (.ref a)) Q E s:=by
 refine wpAny_pyIter_slot r.type PySem.F.slot_set_iter (WE PySem.F.slot_set_iter r.type F.zgp ?_ (PySem.F.args_set_iter_1 _));unfold Builtin.«frozenset.__iter__» Builtin.Frozenset.slot0 slotArgs;simp only[List.isEmpty_nil,Bool.not_true,XU,if_false,YB,bne_self_eq_false,bind_assoc];unfold Builtin.Frozenset.addrOf Builtin.Frozenset.sizeOf setEntries setEpoch;refine Wa (Wf ?_);dsimp only;refine Wa (Wf ?_);simp only[bind_assoc];refine Wa (zbD r (Wa (Wf (Wa (Wf (Wa (zmv r ?_)))))));cases hd:(!byText w&&(!t.plain&&decide (es.size > 1)))with
 | true=>
  simp only[Yo,Bool.not_eq_true',decide_eq_true_eq]at hd;simp only[if_true,bind_assoc];refine Wa (zjT es.size (Xz es.size) _ _ (by simp) λps d hp=>?_);refine Wa (wpAny_newTuple ?_ (by rw[Xb,hp.length_eq,XM];exact fits_of_scanBound r.sz));dsimp only;have hz:(s.heap.push { cls:=.type "tuple",data:=.seq (ps.map λ(i:Nat)=>Vi (i:Int)).toArray }).objs.size=s.heap.objs.size+1:=Yr ..;have r1:Rec w (s.heap.push { cls:=.type "tuple",data:=.seq (ps.map λ(i:Nat)=>Vi (i:Int)).toArray }) a es ep t:=r.keep λo e=>Xd _ e;refine Wa (zbD (s:={ s with heap:=s.heap.push { cls:=.type "tuple",data:=.seq (ps.map λ(i:Nat)=>Vi (i:Int)).toArray },drawn:=d }) r1 (Wa (Wf (Wa (W1 (Wf ?_))))));refine⟨_,rfl,"set_iterator",_,⟨_,Xw _ rfl,rfl⟩,F.slot_next.lookup,?_⟩;refine h _ d _ [s.heap.objs.size] _ (λb o e=>Xd _ (Xd _ e)) (by rw[hz];exact Yu _) (λb hb=>?_)
   (.drawn s.heap.objs.size ps 0 (by rw[hz];exact XB (XS _)) (Xw _ rfl) ⟨_,Xd _ (Xw _ rfl),rfl,_,rfl⟩ hp)
  rw[Yr,hz];rcases Xo.mp hb with e | hb
  ·rw[hz]at e;rw[e];exact⟨Yu _,XS _⟩
  ·have e:=Xv.mp hb;rw[e];exact⟨Xf _,XJ (XS _)⟩
 | false=>
  simp only[XU,if_false];refine Wa (Wf (Wa (zbD r (Wa (Wf (Wa (W1 (Wf ?_))))))));refine⟨_,rfl,"set_iterator",_,⟨_,Xw _ rfl,rfl⟩,F.slot_next.lookup,?_⟩;have fin:∀order,At w (s.heap.push (zfl (.int ((0:Nat):Int) 0) 0 es.size ep a)) s.heap.objs.size a es ep t [] order 0->Q (.ref s.heap.objs.size) { s with heap:=s.heap.push (zfl (.int ((0:Nat):Int) 0) 0 es.size ep a) }:=λorder x=>
   h _ s.drawn _ [] order (λb o e=>Xd _ e) (Xf _) (λb hb=>by
    have e:b=s.heap.objs.size:=by simpa using hb
    subst e;rw[Yr];exact⟨Xf _,XS _⟩) x
  cases hb:byText w with
  | true=>exact fin _ (.text 0 0 hb (Xw _ rfl))
  | false=>
   rw[hb]at hd;have hl:t.led=true:=by
    rcases r.led with z | z
    ·exact z
    ·have z':byText w=true:=z;rw[hb]at z';cases z'
   have h1:t.plain=true\/es.size<=1:=by
    cases hp:t.plain with
    | true=>exact .inl rfl
    | false=>
     rw[hp]at hd;simp only[Bool.not_false,Bool.true_and,decide_eq_false_iff_not]at hd;exact .inr (by lia)
   exact fin _ (.one 0 0 hb hl h1 (Xw _ rfl) rfl)
theorem walks {tq:List We}{order:List Wb}(hh:A.handled=none)(hta:a∉it::tq)(h0:order.length=es.size) :
  WalksS prog w A it (it::a::tq) [it] (λx y=>y=x) es.size (λi v=>order[i]? = some v) (λi s=>Rec w s.heap a es ep t/\At w s.heap it a es ep t tq order i) where
 sub:=λb hb=>by
  have e:b=it:=by simpa using hb
  subst e;exact Xh
 grefl:=λ_=>rfl
 gtrans:=λ_ _ _ h1 h2=>h2.trans h1
 frame:=λi s h' tk st _ k=>⟨st.1.keep λo e=>k a (by simp) o e,st.2.keep λb hb o e=>k b (by
  rcases Xo.mp hb with z | z
  ·subst z;exact Xh
  ·exact Xi _ (Xi _ z)) o e⟩
 item:=λi s Q E hi st hQ=>by
  have hv:order[i]? = some (order[i]'(by lia)):=by simp
  refine next_item st.1 st.2 hv λh' x sb=>?_;have ne:a≠it:=λz=>hta (by rw[z];exact Xh);exact hQ _ _ hv ⟨st.1.keep λo e=>(sb.2 a ne).trans e,x⟩ ⟨λb o hb e=>(sb.2 b (λz=>hb (by simp[z]))).trans e,rfl,rfl,rfl,Xf _⟩
 done:=λs Q E st hQ=>zmu hh st.1 st.2 λh' k=>hQ _ ⟨λb o hb e=>k b o (λz=>hb (by simp[z])) e,rfl,rfl,rfl,Xf _⟩
 self:=λi s Q E st hQ=>by
  have hT:s.TypeIs (.ref it) "set_iterator":=by
   rcases st.2 with ⟨tp,ps,_,_,ho,_⟩ | ⟨slot,_,_,ho⟩ | ⟨slot,_,_,_,_,ho,_⟩
   ·exact⟨_,ho,rfl⟩
   ·exact⟨_,ho,rfl⟩
   ·exact⟨_,ho,rfl⟩
  refine wpAny_pyIter_slot hT F.zid (WE F.zid hT F.zlh ?_ (F.zms _));show Wi _ _ (ret (.ref it)) _ _ s;exact Wf ⟨_,rfl,"set_iterator",_,hT,F.slot_next.lookup,hQ⟩
theorem zjj {Q:List Wb->Wd->Prop}(hh:A.handled=none)(r:Rec w s.heap a es ep t)
  (h:∀(h':Heap) (d:Drawn) (tk:Nat) (order:List Wb),order.Perm (es.toList.map (·.2))->(∀b o,s.heap.get? b=some o->h'.get? b=some o)->Q order { s with heap:=h',drawn:=d,toks:=tk }):Wi (Wh prog w) A (collect (.ref a)) Q E s:=by
 unfold collect;refine Wa (wpAny_runValue (Vb PySem.F.entry_proto_collect ?_));rw[Around.under_plainId PySem.F.plain_proto_collect _];show Wi _ A.in1 (newList [] >>= λl=>again (.builtin "list.__iadd__" ⟨[l,.ref a],[]⟩)) _ _ s;refine Wa (Vd (Wf ⟨plainId_quiet PySem.F.plain_list_iadd _,Vb PySem.F.entry_list_iadd ?_⟩));rw[Around.under_plainId PySem.F.plain_list_iadd _];have hS0:(s.heap.push { cls:=.type "list",data:=.seq ([]:List Wb).toArray }).get? s.heap.objs.size=some { cls:=.type "list",data:=.seq ([]:List Wb).toArray }:=Xw _ rfl;have hz0:(s.heap.push { cls:=.type "list",data:=.seq ([]:List Wb).toArray }).objs.size=s.heap.objs.size+1:=Yr ..;have r0:Rec w (s.heap.push { cls:=.type "list",data:=.seq ([]:List Wb).toArray }) a es ep t:=r.keep λo e=>Xd _ e;have haS:a<s.heap.objs.size:=by obtain⟨o,e,_⟩:=r.obj;exact Xs e
 show Wi _ A.in1 (Builtin.List.listExtendWith (.ref s.heap.objs.size) (.ref a) (.ref s.heap.objs.size)) _ _ { s with heap:=s.heap.push { cls:=.type "list",data:=.seq ([]:List Wb).toArray } };unfold Builtin.List.listExtendWith;refine Wa (wpAny_typeOf (T:="set") r0.type ?_);have h1:Builtin.List.listSameRef (.ref s.heap.objs.size) (.ref a)=false:=by simp[Builtin.List.listSameRef,YN haS]
 have h2:(Value.type "set" == Value.type "list")=false:=by decide
 have h3:(Value.type "set" == Value.type "tuple")=false:=by decide
 simp only[h1,h2,h3,Bool.or_false,XU,if_false];refine Wa (zoD (s:={ s with heap:=s.heap.push { cls:=.type "list",data:=.seq ([]:List Wb).toArray } }) r0 λh' d it tq order kp hit hfp x=>?_);have rT:Shared.TypeIs { s with heap:=h',drawn:=d } (.ref a) "set":=(r0.keep λo e=>kp a o e).type;have room:∀ {Q':Bool->Wd->Prop} {A':Wu} {E':Wb->Wd->Prop},Q' false { s with heap:=h',drawn:=d }->Wi (Wh prog w) A' (Builtin.List.listLengthHint (.ref a)) Q' E' { s with heap:=h',drawn:=d }:=λ{Q' A' E'} hq=>by
  unfold Builtin.List.listLengthHint;refine Wa (wpAny_specialOf rT PySem.F.slot_set_len.lookup ?_);generalize hid:("set.__len__" : String)=id0;wp_delta;rw[show splitId id0=some ("set","__len__") from by subst hid;decide +kernel];subst hid;refine Wa (wpAny_isInstance (T:="set") (b:=true) rT (by rw[isSubtype_type];kernel_rfl) ?_);refine wpAny_ite_split (λhab=>absurd hab (by decide)) (λ_=>wpAny_ite_split (λ_=>?_) (λhab=>absurd (by decide +kernel) hab));exact Wa (wpAny_typeOf rT (Wf hq))
 refine Wa (WH (room ?_));show Wi _ A.in1 (rule "list.extend.makes-room" >>= λ_=>Builtin.List.listTouch (.ref s.heap.objs.size) >>= λ_=>again (.builtin "list.extend.loop" ⟨[.ref s.heap.objs.size,.ref it,.ref s.heap.objs.size],[]⟩)) _ _ { s with heap:=h',drawn:=d };refine Wa (WL ?_);have hS1:h'.get? s.heap.objs.size=some { cls:=.type "list",data:=.seq ([]:List Wb).toArray }:=kp _ _ hS0;refine Wa ?_;show Wi _ A.in1 (updateSeq s.heap.objs.size (·.push .none) >>= λ_=>updateSeq s.heap.objs.size (·.pop)) _ _ { s with heap:=h',drawn:=d };refine Wa (wpAny_updateSeq hS1 rfl ?_);have hS2:=Yg (Obj.mapSeq (·.push Value.none)) hS1 rfl;refine wpAny_updateSeq hS2 rfl ?_;have hS3:=Yg (Obj.mapSeq (·.pop)) hS2 rfl;have oth:∀b o,b≠s.heap.objs.size->h'.get? b=some o->((h'.update s.heap.objs.size (Obj.mapSeq (·.push Value.none))).update s.heap.objs.size (Obj.mapSeq (·.pop))).get? b=some o:=
  λb o hb e=>(Yj _ _ (Ne.symm hb)).trans ((Yj _ _ (Ne.symm hb)).trans e)
 have hlow:∀b∈it::tq,s.heap.objs.size<b:=λb hb=>by
  have q:=(hfp b hb).1;dsimp only at q;rw[hz0]at q;exact q
 have hta:a∉it::tq:=λz=>Nat.lt_asymm haS (hlow a z);have hSf:s.heap.objs.size∉it::a::tq:=λz=>by
  rcases Xo.mp z with e | z
  ·exact absurd (hlow it Xh) (by rw[<- e];exact YA _)
  ·rcases Xo.mp z with e | z
   ·exact absurd haS (by rw[<- e];exact YA _)
   ·exact absurd (hlow _ (Xi _ z)) (YA _)
 have W:=walks (prog:=prog) (w:=w) (A:=A.in1) (it:=it) (a:=a) (es:=es) (ep:=ep) (t:=t) (tq:=tq) (order:=order) (by simpa using hh) hta (by rw[x.len.length_eq];simp);refine Wf ⟨plainId_quiet PySem.F.plain_extend_loop _,codeAny_extend_loopS W (fits_of_scanBound r.sz) _ hSf _ es.size 0 _ _ _ rfl (XH _) ⟨(r0.keep λo e=>kp a o e).keep λo e=>oth a o (XB haS) e,x.keep λb hb o e=>oth b o (YN (hlow b hb)) e⟩ hS3 (ItemsOf.nil _) λs' acc' c' hm hS' hacc=>?_⟩;show Wi _ A (load s.heap.objs.size >>= _) _ _ s';refine Wa (wpAny_load hS' (Wf ?_));have eacc:acc'.toList=order:=by
  apply List.ext_getElem?;intro j;by_cases hj:j<es.size
  ·have q1:acc'[j]? = some (acc'[j]'(by rw[hacc.1];exact hj)):=by simp[hacc.1,hj]
   have q2:=hacc.2 j _ q1;rw[q2,<- q1];simp
  ·have q1:acc'.toList[j]? = none:=by simp[hacc.1];lia
   have q3:order.length=es.size:=by rw[x.len.length_eq];simp
   have q2:order[j]? = none:=by simp[q3];lia
   rw[q1,q2]
 rw[eacc];obtain⟨h2',g2,d2,t2,o2⟩:=s';have e1:g2=s.gens:=hm.gens;have e2:d2=d:=hm.drawn;have e3:o2=s.os:=hm.os;subst e1 e2 e3;refine h h2' d2 t2 order x.len λb o e=>?_;have hb:b<s.heap.objs.size:=Xs e;refine hm.heap b o (λz=>?_) (oth b o (XB hb) (kp b o (Xd _ e)));rcases Xo.mp z with q | q
 ·exact XB hb q
 ·have q':b=it:=by simpa using q
  exact absurd (hlow it Xh) (by rw[<- q'];exact Nat.lt_asymm hb)
end
open PySem PySem.Spec PyProof.Rows
def sOf:Wb->Str
 | .str x _=>x
 | _=>Str.empty
theorem zgD {t t':SetTable}{hs:Array Int}{n:Nat}{o:Array Nat}(h:t.relaid hs n=some (t',o)):t'.led=t.led/\t'.plain=t.plain:=by
 unfold SetTable.relaid SetTable.laid at h;cases e:SetTable.layClean (SetTable.sizeAbove n-1) hs with
 | none=>rw[e]at h;cases h
 | some ow=>
  rw[e]at h;have q:=Option.some.inj h;rw[<- (Prod.mk.inj q).1];exact⟨rfl,rfl⟩
theorem zlj (t:SetTable)(es:Array (Int×Wb))(h:Int)(x:Wb):(layNew t es h x).2.1.led=t.led/\(t.plain=false->(layNew t es h x).2.1.plain=false):=by
 unfold layNew;cases e:t.freeSlot h with
 | none=>exact⟨rfl,λ_=>rfl⟩
 | some p=>
  obtain⟨slot,dm⟩:=p;dsimp only;unfold SetTable.orStandIn;split
  ·exact⟨rfl,λz=>z⟩
  ·exact⟨rfl,λ_=>rfl⟩
theorem zmw (t:SetTable)(es:Array (Int×Wb))(n:Nat):(Vn t es n).2.1.led=t.led/\(t.plain=false->(Vn t es n).2.1.plain=false):=by
 unfold Vn;cases e:t.relaid (es.map (·.1)) n with
 | none=>exact⟨rfl,λ_=>rfl⟩
 | some p=>
  obtain⟨t',o⟩:=p;dsimp only;split
  ·exact⟨(zgD e).1,λz=>(zgD e).2.trans z⟩
  ·exact⟨rfl,λ_=>rfl⟩
theorem zlk {xs:Array Nat}(ha:Asc xs){j:Nat}(hn:¬ (xs[Yl xs j]? == some j)=true):Asc (SetTable.insertAt xs (Yl xs j) j):=by
 obtain⟨h1,h2,h3⟩:=zjU ha j;generalize Yl xs j=r at h1 h2 h3 hn;have hnot:∀i,r<=i->i<xs.size->j<xs.getD i 0:=λi g1 g2=>by
  have q:=h3 r (Xf _) (by lia);have q2:xs.getD r 0≠j:=λe=>by
   have hr:r<xs.size:=by lia
   have e2:xs[r]=j:=by simpa[Array.getD,hr]using e
   exact hn (by rw[getElem?_pos xs r hr,e2];simp)
  rcases Nat.lt_or_ge r i with z | z
  ·have:=ha.lt z g2;lia
  ·have:i=r:=by lia
   subst this;lia
 have hl:(SetTable.insertAt xs r j).toList=xs.toList.take r++[j]++xs.toList.drop r:=by
  unfold SetTable.insertAt;simp[Array.toList_extract,List.extract_eq_drop_take,XC]
 unfold Asc;rw[hl,List.pairwise_append,List.pairwise_append];refine⟨⟨List.Pairwise.sublist (List.take_sublist _ _) ha,by simp,λa hm b hb=>?_⟩,List.Pairwise.sublist (List.drop_sublist _ _) ha,λa hm b hb=>?_⟩
 ·rw[Xv.mp hb];obtain⟨i,hi,rfl⟩:=List.mem_iff_getElem.mp hm;rw[XY]at hi;rw[List.getElem_take];have q:=h2 i (by lia);simpa[Array.getD,show i<xs.size by lia]using q
 ·obtain⟨i,hi,rfl⟩:=List.mem_iff_getElem.mp hb;rw[List.length_drop,Ye]at hi;rw[List.getElem_drop];have q:=hnot (r+i) (by lia) (by lia);have q:j<xs.toList[r+i]'(by simp;lia):=by simpa[Array.getD,show r+i<xs.size by lia]using q
  rcases XR.mp hm with hm | hm
  ·obtain⟨k,hk,rfl⟩:=List.mem_iff_getElem.mp hm;rw[XY]at hk;rw[List.getElem_take];have q2:=h2 k (by lia);have q2:xs.toList[k]'(by simp;lia)<j:=by simpa[Array.getD,show k<xs.size by lia]using q2
   lia
  ·rw[Xv.mp hm];exact q
theorem zjW (t:SetTable)(hd:t.dummies = #[])(g:Nat->Int)(h:Int):∀(fuel:Nat)(p:SetTable.Probe)(j:Nat)(d:Option Nat),p.dummy=none->SetTable.probe.go t g h fuel p=some (.empty j d)->d=none/\t.slot j=.empty
 | 0,p,j,d,hp,e=>by unfold SetTable.probe.go at e;cases e
 | fuel+1,p,j,d,hp,e=>by
  have hadv:(t.advance p).dummy=none:=by unfold SetTable.advance;split<;>exact hp
  have hh:SetTable.has t.dummies p.j=false:=by rw[hd];unfold SetTable.has;simp
  have hno:t.slot p.j≠.dummy:=λz=>by
   unfold SetTable.slot at z;dsimp only at z;rw[hh]at z;simp only[XU,if_false]at z;split at z<;>cases z
  unfold SetTable.probe.go at e;cases hs:t.slot p.j with
  | empty=>rw[hs]at e;cases e;exact⟨hp,hs⟩
  | dummy=>exact absurd hs hno
  | live i=>
   rw[hs]at e;dsimp only at e;split at e
   ·cases e
   ·exact zjW t hd g h fuel _ j d hadv e
theorem zll {t:SetTable}(ha:Asc t.place)(hd:t.dummies = #[])(es:Array (Int×Wb))(h:Int)(x:Wb):Asc (layNew t es h x).2.1.place/\(layNew t es h x).2.1.dummies = #[]:=by
 unfold layNew;cases e:t.freeSlot h with
 | none=>exact⟨zep _,rfl⟩
 | some p=>
  obtain⟨slot,dm⟩:=p;dsimp only;unfold SetTable.orStandIn;split
  ·unfold SetTable.freeSlot at e;have hs:t.slot slot=.empty:=by
    cases hp:t.probe (λ_=>h+1) h (t.probeStart h)with
    | none=>rw[hp]at e;cases e
    | some m=>
     rw[hp]at e;cases m with
     | candidate j i n=>cases e
     | empty j d=>
      obtain⟨q1,q2⟩:=zjW t hd _ _ _ _ _ _ rfl hp;subst q1;cases e;exact q2
   unfold SetTable.put;dsimp only;have hnh:SetTable.has t.dummies slot=false:=by rw[hd];unfold SetTable.has;simp
   rw[hnh];refine⟨zlk ha λz=>?_,hd⟩;unfold SetTable.slot at hs;rw[if_pos z]at hs;cases hs
  ·exact⟨zep _,rfl⟩
theorem zlm {t t':SetTable}{hs:Array Int}{n:Nat}{o:Array Nat}(h:t.relaid hs n=some (t',o)):Asc t'.place/\t'.dummies = #[]:=by
 unfold SetTable.relaid SetTable.laid at h;cases e:SetTable.layClean (SetTable.sizeAbove n-1) hs with
 | none=>rw[e]at h;cases h
 | some ow=>
  rw[e]at h;have q:=Option.some.inj h;rw[<- (Prod.mk.inj q).1];refine⟨?_,rfl⟩;unfold Asc;dsimp only;rw[List.pairwise_map,List.pairwise_filterMap];refine List.pairwise_lt_range.imp λ{a b} hab p hp q hq=>?_;cases ha:ow.getD a none with
  | none=>rw[ha]at hp;cases hp
  | some x=>
   cases hb:ow.getD b none with
   | none=>rw[hb]at hq;cases hq
   | some y=>rw[ha]at hp;rw[hb]at hq;cases hp;cases hq;exact hab
theorem zmx {t:SetTable}(es:Array (Int×Wb))(n:Nat):Asc (Vn t es n).2.1.place/\(Vn t es n).2.1.dummies = #[]:=by
 unfold Vn;cases e:t.relaid (es.map (·.1)) n with
 | none=>exact⟨zep _,rfl⟩
 | some p=>
  obtain⟨t',o⟩:=p;dsimp only;split
  ·exact zlm e
  ·exact⟨zep _,rfl⟩
def KSet {α:Type} [DecidableEq α] {prog:Wl}{w:Wt}(knd:PySem.KeyKind prog w α)(of:Wb->α)(h:Heap)(a:We)(xs:List α):Prop:=
 ∃es ep t,Rec w h a es ep t/\ElemsOf knd es.toList/\(es.toList.map λe=>of e.2).Perm xs/\xs.Nodup
def addS {α:Type} [DecidableEq α] (xs:List α)(y:α):List α:=if y∈xs then xs else y::xs
abbrev zmy (prog:Wl)(w:Wt):Heap->We->List Str->Prop:=KSet (PySem.strKind prog w) sOf
section
variable {α:Type} [DecidableEq α] {prog:Wl}{w:Wt}{A:Wu}{E:Wb->Wd->Prop}{s:Wd}{a:We}{knd:PySem.KeyKind prog w α}{of:Wb->α}
theorem KSet.keep {h h':Heap}{xs:List α}(S:KSet knd of h a xs)(k:∀o,h.get? a=some o->h'.get? a=some o):KSet knd of h' a xs:=
 let ⟨es,ep,t,r,q⟩:=S;⟨es,ep,t,r.keep k,q⟩
theorem zmz {h:Heap}{es es':Array (Int×Wb)}{ep:Nat}{t t':SetTable}(r:Rec w h a es ep t)(hf:t'.fits es'.size=true)(hl:t'.led=t.led)(hp:Asc t'.place/\t'.dummies = #[])(hz:es'.size<Ve) :
  Rec w (h.update a (Obj.putSet es' t')) a es' (ep+1) t':=by
 obtain⟨o,ho,hex,hd⟩:=r.obj;have hg:(h.update a (Obj.putSet es' t')).get? a=some { o with data:=.set es' (ep+1) t' }:=by
  have q:=Yg (Obj.putSet es' t') ho (by rw[putSet_of es' t' hd];rfl)
  rwa [putSet_of es' t' hd]at q
 exact⟨⟨_,hg,hex,rfl⟩,hf,by rw[hl];exact r.led,hp.1,hp.2,hz⟩
theorem zie {es es':Array (Int×Wb)}{ep:Nat}{t t':SetTable}{Q:Unit->Wd->Prop}(r:Rec w s.heap a es ep t)(hz:es'.size<Ve)(h:Q () { s with heap:=s.heap.update a (Obj.putSet es' t') }):Wi (Wh prog w) A (storeSet a es' t') Q E s:=by
 obtain⟨o,ho,_,hd⟩:=r.obj;exact wpAny_storeSet_of ho hd h (fits_of_scanBound hz)
theorem zta {es:List (Int×Wb)}{y:α}(hof:∀k v,knd.is k v=true->of v=k)(hel:ElemsOf knd es):(∃e∈es,knd.is y e.2=true)↔y∈es.map λe=>of e.2:=by
 constructor
 ·rintro⟨e,he,hi⟩;exact XD.mpr ⟨e,he,hof _ _ hi⟩
 ·intro hm;obtain⟨e,he,q⟩:=XD.mp hm;obtain⟨⟨k,hk,_⟩,_⟩:=hel e he;refine⟨e,he,?_⟩;rw[hof _ _ hk]at q;rw[<- q];exact hk
theorem ztb {xs:List α}{y:α}{x:Wb}{Q:Bool->Wd->Prop}(hof:∀k v,knd.is k v=true->of v=k)(hkey:knd.is y x=true)(hsc:x.scannable=true)(S:KSet knd of s.heap a xs)(hroom:xs.length+1<Ve)
  (h:∀h' b,Yi a s.heap h'->KSet knd of h' a (addS xs y)->Q b { s with heap:=h' }):Wi (Wh prog w) A (setAddHashed a x (knd.hash y)) Q E s:=by
 obtain⟨es,ep,t,r,hel,hp,nd⟩:=S;obtain⟨o,ho,hex,hd⟩:=r.obj;have hsz:es.size=xs.length:=by rw[<- hp.length_eq];simp
 have hmem:(∃e∈es.toList,knd.is y e.2=true)↔y∈xs:=(zta hof hel).trans hp.mem_iff;unfold setAddHashed;refine WH ?_;show Wi _ _ (bind (setState a) _) _ _ s;refine Wa (zbD r ?_);dsimp only;rw[byScan_of hsc r.sz hel];simp only[if_true];unfold setAddByScan;refine Wa (Wa (WL (Wa (wpAny_setScan_of (knd:=knd) hkey ho hd r.fits hel ?_))));cases hr:List.findIdx? (λe=>knd.is y e.2) es.toList with
 | some j=>
  obtain⟨hj,hpj,_⟩:=List.findIdx?_eq_some_iff_getElem.mp hr;have hy:y∈xs:=hmem.mp ⟨_,Yd hj,hpj⟩;have q:=h s.heap false (Yi.refl a s.heap) (by unfold addS;rw[if_pos hy];exact⟨es,ep,t,r,hel,hp,nd⟩);exact Wf (Wf q)
 | none=>
  have hy:y∉xs:=λz=>by
   obtain⟨e,he,hpe⟩:=hmem.mpr z;have q:=List.findIdx?_eq_none_iff.mp hr e he;rw[hpe]at q;cases q
  have hgw:∀(b:Bool) {s₁:Wd} {Q':Unit->Wd->Prop},Q' () s₁->Wi (Wh prog w) A (match b with | true=>rule "set.scan.the-table-gave-way" | false=>pure ()) Q' E s₁:=λb s₁ Q' hq=>by
   cases b
   ·exact Wf hq
   ·exact WL hq
  have p1:=layNew_perm t es (knd.hash y) x;have f1:=layNew_fits t es (knd.hash y) x;have l1:=zlj t es (knd.hash y) x;have g1:=zll r.asc r.dm es (knd.hash y) x;generalize hL:layNew t es (knd.hash y) x=L at p1 f1 l1 g1 ⊢;obtain⟨es1,t1,dm,gave⟩:=L;dsimp only at p1 f1 l1 g1 ⊢;rw[Array.toList_push]at p1;have hel1:ElemsOf knd es1.toList:=(hel.push hkey hsc).perm p1;have z1:es1.size=xs.length+1:=by rw[<- Ye,p1.length_eq,Xm,Ye,hsz];rfl
  have b1:es1.size<Ve:=by rw[z1];exact hroom
  have m1:(es1.toList.map λe=>of e.2).Perm (y::xs):=by
   refine(p1.map _).trans ?_;rw[Xn];refine(List.perm_append_comm).trans ?_;show(of x::es.toList.map λe=>of e.2).Perm _;rw[hof _ _ hkey];exact hp.cons y
  have nd1:(y::xs).Nodup:=XX.mpr ⟨hy,nd⟩;have eadd:addS xs y=y::xs:=by unfold addS;rw[if_neg hy]
  rw[eadd]at h;refine Wa (hgw gave ?_);have tail:∀t2:SetTable,t2.fits es1.size=true->t2.led=t.led->(Asc t2.place/\t2.dummies = #[])->Wi (Wh prog w) A (do
    storeSet a es1 t2
    if (!dm&&t2.tooFull)=true then do
     (match (Vn t2 es1 (SetTable.grown es1.size)).2.2 with | true=>rule "set.scan.the-table-gave-way" | false=>pure ())
     storeSet a (Vn t2 es1 (SetTable.grown es1.size)).1 (Vn t2 es1 (SetTable.grown es1.size)).2.1
     pure (some true)
    else pure (some true)) (λr s'=>Wi (Wh prog w) A (match r with | some added=>pure added | none=>setAddHashedIn a x (knd.hash y) 99999) Q E s') E s:=λt2 f2 l2 p2=>by
   have r2:=zmz (w:=w) r f2 l2 p2 b1;have sb1:=Yi.update s.heap a (Obj.putSet es1 t2);refine Wa (zie r b1 ?_);split
   ·have p3:=relayAll_perm t2 es1 (SetTable.grown es1.size);have f3:=relayAll_fits t2 es1 (SetTable.grown es1.size);have l3:=zmw t2 es1 (SetTable.grown es1.size);have g3:=zmx (t:=t2) es1 (SetTable.grown es1.size);generalize hR:Vn t2 es1 (SetTable.grown es1.size)=R at p3 f3 l3 g3 ⊢;obtain⟨es2,t3,gave2⟩:=R;dsimp only at p3 f3 l3 g3 ⊢;have z2:es2.size=es1.size:=by rw[<- Ye,p3.length_eq,Ye]
    refine Wa (hgw gave2 (Wa (zie (s:={ s with heap:=s.heap.update a (Obj.putSet es1 t2) }) r2 (by rw[z2];exact b1) (Wf (Wf ?_)))));exact h _ true (sb1.trans (Yi.update _ a _)) ⟨es2,_,t3,zmz r2 f3 l3.1 g3 (by rw[z2];exact b1),hel1.perm p3,(p3.map _).trans m1,nd1⟩
   ·exact Wf (Wf (h _ true sb1 ⟨es1,_,t2,r2,hel1,m1,nd1⟩))
  cases hpl:t1.plain with
  | true=>
   simp only[if_true];rw[hashByValue_scannable 8 (x:=x) hsc];refine Wa (Wf ?_);cases plainKind x with
   | true=>exact tail t1 f1 l1.1 g1
   | false=>exact tail { t1 with plain:=false } (SetTable.fits_plain_off f1) l1.1 g1
  | false=>
   simp only[XU,if_false];refine Wa (Wf ?_);exact tail t1 f1 l1.1 g1
end
section
variable {α:Type} [DecidableEq α]
theorem zoE {xs:List α}{y x:α}:x∈addS xs y↔x=y\/x∈xs:=by
 unfold addS;split
 ·rename_i h
  constructor
  ·exact .inr
  ·rintro(rfl | h')
   ·exact h
   ·exact h'
 ·exact Xo
theorem zoF (xs:List α)(y:α):(addS xs y).length<=xs.length+1:=by
 unfold addS;split
 ·lia
 ·simp
theorem zif:∀(ys xs:List α)(x:α),x∈ys.foldl addS xs↔x∈xs\/x∈ys
 | [],xs,x=>by simp
 | y::ys,xs,x=>by
  rw[List.foldl_cons,zif ys (addS xs y) x,zoE,Xo];constructor
  ·rintro((h | h) | h)
   ·exact .inr (.inl h)
   ·exact .inl h
   ·exact .inr (.inr h)
  ·rintro(h | h | h)
   ·exact .inl (.inr h)
   ·exact .inl (.inl h)
   ·exact .inr h
theorem zfF:∀(ys xs:List α),(ys.foldl addS xs).length<=xs.length+ys.length
 | [],xs=>by simp
 | y::ys,xs=>by
  rw[List.foldl_cons];have h1:=zfF ys (addS xs y);have h2:=zoF xs y;rw[XE];lia
end
section
variable {α:Type} [DecidableEq α] {prog:Wl}{w:Wt}{A:Wu}{R:Result->Wd->Prop}{I:We}{fp wr:List We}{G:Array GenState->Array GenState->Prop}{n:Nat}{P:Nat->Wb->Prop}{St:Nat->Wd->Prop}{knd:PySem.KeyKind prog w α}{of:Wb->α}
theorem zjk (W:WalksS prog w A.in1 I fp wr G n P St)(S:We)(hSf:S∉fp)(ys:List α)(hn:ys.length=n)(hof:∀k v,knd.is k v=true->of v=k)(hval:∀i v,P i v->∃y,ys[i]? = some y/\knd.is y v=true/\v.scannable=true)(hb:n+1<Ve) :
  ∀(k i:Nat) (s:Wd),n-i=k->i<=n->St i s->KSet knd of s.heap S ((ys.take i).foldl addS [])->
   (∀s',Moved (S::wr) G s s'->KSet knd of s'.heap S (ys.foldl addS [])->R (.ok (.ret .none)) s')->
   Vl (Wh prog w) A (.builtin "set.update.loop" ⟨[.ref S,.ref I],[]⟩) R s:=by
 have hSw:S∉wr:=λh=>hSf (W.sub _ h);intro k;induction k with
 | zero=>
  intro i s hk hi hst hS hR;have hin:i=n:=by lia
  subst hin;refine Vb PyProof.Rows.F.entry_set_update_loop ?_;rw[Around.under_plainId PyProof.Rows.F.plain_set_update_loop _];show Wi _ A.in1 (pyNext (.ref I) >>= _) _ _ s;refine Wa (W.done s _ _ hst λs' hm=>Wf (hR s' (hm.mono λb hb=>Xi _ hb) ?_));rw[XC (by lia)]at hS;exact hS.keep λo e=>hm.heap S o hSw e
 | succ k ih=>
  intro i s hk hi hst hS hR;have hlt:i<n:=by lia
  refine Vb PyProof.Rows.F.entry_set_update_loop ?_;rw[Around.under_plainId PyProof.Rows.F.plain_set_update_loop _];show Wi _ A.in1 (pyNext (.ref I) >>= _) _ _ s;refine Wa (W.item i s _ _ hlt hst λv s' hP hst' hm=>?_);obtain⟨y,hy,hkey,hsc⟩:=hval i v hP;have hS':=hS.keep λo e=>hm.heap S o hSw e;show Wi _ A.in1 (WW [v] (setAdd S v) >>= _) _ _ s';refine Wa (WH ?_);unfold setAdd;refine WH (Wa (knd.pyHash (k:=y) hkey ?_));have hroom:((ys.take i).foldl addS []).length+1<Ve:=by
   have q:=zfF (ys.take i) [];rw[XY]at q;simp at q;lia
  refine ztb (s:=_) hof hkey hsc hS' hroom λh' b hsb hS2=>?_;have hSi:KSet knd of h' S ((ys.take (i+1)).foldl addS []):=by
   rw[List.take_add_one,hy,List.foldl_append];exact hS2
  refine Wf ⟨plainId_quiet PyProof.Rows.F.plain_set_update_loop _,ih (i+1) _ (by lia) hlt (W.frame _ s' _ _ hst' (by first | exact Xf _ | exact Yu _) λb hb o e=>?_) hSi λs'' hm'' hS''=>?_⟩
  ·rw[hsb.2 b (λh:b=S=>hSf (by rw[<- h];exact hb))];exact e
  ·refine hR s'' (Moved.trans W.gtrans ((hm.mono λb hb=>Xi _ hb).then_heap (by first | exact Xf _ | exact Yu _) λb o hb e=>?_) hm'') hS''
   rw[hsb.2 b (λh:b=S=>hb (by rw[h];exact Xh))];exact e
end
abbrev zca (w:Wt):Obj:={ cls:=.type "set",dict:=none,data:=.set #[] 0 (.fresh 0 0 (!byText w)) }
theorem zoG {α:Type} [DecidableEq α] {prog:Wl}{w:Wt}{knd:PySem.KeyKind prog w α}{of:Wb->α}{h:Heap}{a:We}(e:h.get? a=some (zca w)):KSet knd of h a []:=by
 refine⟨#[],0,_,⟨⟨_,e,⟨rfl,rfl,rfl⟩,rfl⟩,by rfl,?_,List.Pairwise.nil,rfl,by decide⟩,λz hz=>by simp at hz,by simp,YQ⟩;show(!byText w)=true\/byText w=true;cases byText w
 ·exact .inl rfl
 ·exact .inr rfl
section
variable {prog:Wl}{w:Wt}{A:Wu}{E:Wb->Wd->Prop}{s:Wd}
theorem zrh (x:Wb){Q₁:Wb->Wd->Prop}(h:Q₁ (.ref s.heap.objs.size) { s with heap:=s.heap.push (zca w) }) :
  Vl (Wh prog w) A (.call (.builtin "set.__new__") ⟨[.type "set",x],[]⟩) (wants Q₁ E) s:=by
 refine codeAny_of_tree ?_;show Wi _ A.in1 (do checkBuiltinCall "set.__new__" ⟨[.type "set",x],[]⟩;again (.builtin "set.__new__" ⟨[.type "set",x],[]⟩)) _ _ s
 refine Wa (wpAny_of_eq (PySem.F.newCall_set_1 x) (Wf ⟨plainId_quiet PySem.F.plain_set_new _,Vb PySem.F.entry_set_new ?_⟩));rw[Around.under_plainId PySem.F.plain_set_new _];unfold Builtin.«set.__new__» Builtin.Frozenset.newClass;have hsub:=sub_set_self;obtain⟨hp,g,d,tk,os⟩:=s;dsimp only
 wp_walk
 refine W5 (Wf ?_);dsimp only;simp only[newObj];exact Wa (wpAny_alloc (Wf (Wf h)))
theorem zmA {l:We}{items:Array Wb}{SP:Heap->We->Prop}{Q:Wb->Wd->Prop}(hh:A.handled=none)(hl:s.heap.IsList l items)
  (loop:∀ {A':Wu} {R:Result->Wd->Prop} {I:We} {fp wr:List We} {G:Array GenState->Array GenState->Prop} {P:Nat->Wb->Prop} {St:Nat->Wd->Prop} (W:WalksS prog w A'.in1 I fp wr G items.size P St) (S:We),A'.units<=A.units+8->S∉fp->(∀i v,P i v->items[i]? = some v)->(∀b,b<s.heap.objs.size->b∉S::wr)->∀s1:Wd,(∀b o,s.heap.get? b=some o->s1.heap.get? b=some o)->St 0 s1->s1.heap.get? S=some (zca w)->(∀s',Moved (S::wr) G s1 s'->SP s'.heap S->R (.ok (.ret .none)) s')->
   Vl (Wh prog w) A' (.builtin "set.update.loop" ⟨[.ref S,.ref I],[]⟩) R s1)
  (h:∀(h':Heap) (tk:Nat),SP h' s.heap.objs.size->(∀b o,s.heap.get? b=some o->h'.get? b=some o)->Q (.ref s.heap.objs.size) { s with heap:=h',toks:=tk }) :
  Wi (Wh prog w) A (call (.type "set") [.ref l]) Q E s:=by
 obtain⟨c,tl,hmro⟩:=PySem.F.called_set.mro;have hmade:=PySem.F.called_set.made;have hsub:=PySem.F.called_set.sub;refine wpAny_call (codeAny_of_tree ?_);show Wi _ _ (callAny (.type "set") _) _ _ _;refine Wf ⟨Code.quiet_builtin _ (by decide +kernel),Vb PySem.F.entry_type_call ?_⟩;rw[Around.under_plain (weight_type_call_type "set" [.ref l] []) rfl];have h1:=PySem.F.called_set.notType;have h2:=PySem.F.called_set.canCreate;have hct:=PySem.F.typeCall_set_1 (.ref l)
 repeat (any_goals (first | assumption | wp_step))
 refine W8 (zrh (.ref l) (E:=E) (Q₁:=λob s1=>ob=.ref s.heap.objs.size/\s1={ s with heap:=s.heap.push (zca w) }) ⟨rfl,rfl⟩) λr s1 hr=>?_;cases r with
 | error e=>exact hr
 | ok fl=>
  cases fl with
  | ret ob=>
   obtain⟨rfl,rfl⟩:=hr;have hS:(s.heap.push (zca w)).get? s.heap.objs.size=some (zca w):=Xw _ rfl;have hT:Shared.TypeIs { s with heap:=s.heap.push (zca w) } (.ref s.heap.objs.size) "set":=⟨_,hS,rfl⟩;have hli:=PySem.F.called_set.init.lookup;have hbi:=PySem.F.called_set.init.bind (.ref s.heap.objs.size)
   repeat (any_goals (first | assumption | wp_step))
   refine W8 (codeAny_call_builtin (R:=wants (λr s2=>r=.none/\∃h' tk,s2={ s with heap:=h',toks:=tk }/\SP h' s.heap.objs.size/\∀b o,s.heap.get? b=some o->h'.get? b=some o) E)
    PySem.F.called_set.init.plain PySem.F.entry_set_init (check_set_init_1 hT ?_)) λr₂ s₂ hr₂=>?_
   ·obtain⟨⟨ocls,odict,odata,oslots⟩,hol,hcl,nl,hdl⟩:=hl;simp only at hcl hdl;subst hcl;subst hdl;have hol':(s.heap.push (zca w)).get? l=some { cls:=.type "list",dict:=odict,data:=.seq items nl,slots:=oslots }:=Xd _ hol;have hsls:=PySem.F.sub_list_set;have hslf:=PySem.F.sub_list_frozenset;have hne:(Value.type "list" == Value.type "dict")=false:=by decide
    have hl1:(s.heap.push (zca w)).IsList l items:=⟨_,hol',rfl,nl,rfl⟩;unfold Builtin.«set.__init__» noKeywords Builtin.Frozenset.updateFrom;generalize hPI:pyIter=PI
    wp_walk
    subst hPI;refine wpAny_pyIter_list hl1 (Wa (wpAny_runValue ?_));have hlS:l<s.heap.objs.size:=Xs hol;have hz1:(s.heap.push (zca w)).objs.size=s.heap.objs.size+1:=Yr ..;have hneI:l≠(s.heap.push (zca w)).objs.size:=by rw[hz1];exact XB (XJ hlS)
    have hSf:s.heap.objs.size∉[(s.heap.push (zca w)).objs.size,l]:=by
     rw[hz1];intro z;rcases Xo.mp z with e | e
     ·exact absurd e (XB (XS _))
     ·exact absurd (Xv.mp e) (YN hlS)
    refine loop ((Walks.list (by simp[hh]) _ l hneI items).toS) s.heap.objs.size ?U hSf (λi v hv=>hv) (λb hb=>?W) _ (λb o e=>Xd _ (Xd _ e)) ⟨⟨_,Xw _ rfl,rfl,rfl⟩,hl1.push _⟩ (Xd _ hS) λs' hm hS'=>?_
    case U=>show A.units+1+1<=_;lia
    case W=>
     intro z;rcases Xo.mp z with q | q
     ·exact XB hb q
     ·have q':=Xv.mp q;rw[hz1]at q';exact absurd q' (XB (XJ hb))
    obtain⟨h',g',d',tk',os'⟩:=s';have eg:g'=s.gens:=hm.gens;have ed:d'=s.drawn:=hm.drawn;have eo:os'=s.os:=hm.os;subst eg;subst ed;subst eo;refine Wf (Wf ⟨rfl,h',tk',rfl,hS',λb o e=>?_⟩);have hb':b<s.heap.objs.size:=Xs e;refine hm.heap b o (λz=>?_) (Xd _ (Xd _ e));rcases Xo.mp z with q | q
    ·exact XB hb' q
    ·have q':=Xv.mp q;rw[hz1]at q';exact absurd q' (XB (XJ hb'))
   ·cases r₂ with
    | error e=>exact hr₂
    | ok fl₂=>
     cases fl₂ with
     | ret r=>
      obtain⟨rfl,h',tk,rfl,hS',hk'⟩:=hr₂
      repeat (any_goals (first | assumption | wp_step))
      exact h _ _ hS' hk'
     | _=>exact hr₂.elim
  | _=>exact hr.elim
theorem zmB {α:Type} [DecidableEq α] {knd:PySem.KeyKind prog w α}{of:Wb->α}{l:We}{items:Array Wb}{ys:List α}{Q:Wb->Wd->Prop}(hof:∀k v,knd.is k v=true->of v=k)(hh:A.handled=none)(hl:s.heap.IsList l items)(hi:∀(i:Nat) v,items[i]? = some v->∃y,ys[i]? = some y/\knd.is y v=true/\v.scannable=true)(hy:ys.length=items.size)(hb:items.size+1<Ve)
  (h:∀(h':Heap) (tk:Nat),KSet knd of h' s.heap.objs.size (ys.foldl addS [])->(∀b o,s.heap.get? b=some o->h'.get? b=some o)->Q (.ref s.heap.objs.size) { s with heap:=h',toks:=tk }) :
  Wi (Wh prog w) A (call (.type "set") [.ref l]) Q E s:=
 zmA (SP:=λh S=>KSet knd of h S (ys.foldl addS [])) hh hl (λ{A' R I fp wr G P St} W S _ hSf hP _ s1 kp hst hS hR=>zjk W S hSf ys hy hof (λi v hv=>hi i v (hP i v hv)) hb _ 0 s1 rfl (XH _) hst (zoG hS) hR) h
theorem zoH {l:We}{items:Array Wb}{ys:List Str}{Q:Wb->Wd->Prop}(hh:A.handled=none)(hl:s.heap.IsList l items)(hi:∀(i:Nat) v,items[i]? = some v->∃y t,ys[i]? = some y/\v=.str y t)(hy:ys.length=items.size)(hb:items.size+1<Ve)
  (h:∀(h':Heap) (tk:Nat),zmy prog w h' s.heap.objs.size (ys.foldl addS [])->(∀b o,s.heap.get? b=some o->h'.get? b=some o)->Q (.ref s.heap.objs.size) { s with heap:=h',toks:=tk }) :
  Wi (Wh prog w) A (call (.type "set") [.ref l]) Q E s:=
 zmB (knd:=PySem.strKind prog w) (of:=sOf) (λk v hk=>by obtain⟨t,rfl⟩:=Value.isStrOf_shape (show Value.isStrOf k v=true from hk);rfl) hh hl (λi v hv=>by obtain⟨y,t,e1,rfl⟩:=hi i v hv;exact⟨y,e1,by simp[PySem.strKind,Value.isStrOf],rfl⟩) hy hb h
end
section
variable {prog:Wl}{w:Wt}{A:Wu}{E:Wb->Wd->Prop}{s:Wd}{a:We}
theorem zoI {vs:List Wb}{ss:List Str}{Q:Wb->Wd->Prop}(hS:StrsAre vs ss)(h64:vs.length<64)
  (h:∀(h':Heap) (out:List Wb) (zs:List Str) (e:Nat),StrsAre out zs->zs.Perm ss->sortedS zs=true->(∀b o,s.heap.get? b=some o->h'.get? b=some o)->h'.get? s.heap.objs.size=some { cls:=.type "list",data:=.seq out.toArray e }->Q (.ref s.heap.objs.size) { s with heap:=h' }) :
  Wi (Wh prog w) A (newList vs >>= λl=>WW [l] (call (.builtin "list.sort") [l] []) >>= λ_=>ret l) (λfin s'=>∃r,fin=.done (.ret r)/\Q r s') E s:=by
 refine Wa (Vd ?_);have hoL:(s.heap.push (WI "list" vs.toArray 0)).get? s.heap.objs.size=some (WI "list" vs.toArray 0):=Xw _ rfl;refine Wa (WH (WE slot_list_sort ⟨_,hoL,rfl⟩ entry_list_sort (list_sort_treeK strKind_oneLt hoL hS.keysOf (λv1 v2 rest e=>keyKind_strs (by rw[<- e];exact hS)) h64 λst' a1 a2=>⟨_,rfl,?_⟩) (args_list_sort _)));obtain⟨zs,q1,q2,q3⟩:=sorted_out_str hS a1 a2;obtain⟨e,he⟩:=sortedHeap_at (out:=(Wp st').map (·.2)) hoL;refine Wf ⟨_,rfl,h _ ((Wp st').map (·.2)).toList zs e q1 q2 q3 (λb o hb=>?_) (by rw[Array.toArray_toList];exact he)⟩;have hlt:b<s.heap.objs.size:=Xs hb;rw[sortedHeap_old (XB hlt) (by rw[size_push'];exact XJ hlt)];exact Xd _ hb
theorem zln {xs:List Str}{Q:Wb->Wd->Prop}(hh:A.handled=none)(S:zmy prog w s.heap a xs)(h64:xs.length<64)
  (h:∀(h1 h':Heap) (d:Drawn) (tk:Nat) (out:List Wb) (zs:List Str) (e:Nat),StrsAre out zs->zs.Perm xs->sortedS zs=true->(∀b o,s.heap.get? b=some o->h1.get? b=some o)->(∀b o,h1.get? b=some o->h'.get? b=some o)->h'.get? h1.objs.size=some { cls:=.type "list",data:=.seq out.toArray e }->
   Q (.ref h1.objs.size) { s with heap:=h',drawn:=d,toks:=tk }):Wi (Wh prog w) A (call (.builtin "sorted") [.ref a]) Q E s:=by
 refine Calls.call_function_entry kind_sorted plain_sorted entry_sorted (args_sorted1 _) ?_;unfold Builtin.«sorted»;refine Wa (m:=checkCount "sorted" 1 1 _) (Wf ?_);obtain⟨es,ep,t,r,hel,hp,nd⟩:=S;refine Wa (zjj (by simpa using hh) r λh1 d tk order ho kp=>?_);have hst:∀v∈order,∃x t,v=Value.str x t:=λv hv=>by
  obtain⟨e,he,q⟩:=XD.mp (ho.mem_iff.mp hv);obtain⟨⟨k,hk,_⟩,_⟩:=hel e he;obtain⟨t,q'⟩:=Value.isStrOf_shape (show Value.isStrOf k e.2=true from hk);exact⟨k,t,by rw[<- q];exact q'⟩
 have hS:=strsAre_map order hst;have hperm:(order.map strOf).Perm xs:=by
  refine(ho.map strOf).trans ?_;rw[List.map_map];have e:es.toList.map (strOf ∘ λx=>x.2)=es.toList.map λe=>sOf e.2:=List.map_congr_left λe he=>by
   obtain⟨⟨k,hk,_⟩,_⟩:=hel e he;obtain⟨t,q'⟩:=Value.isStrOf_shape (show Value.isStrOf k e.2=true from hk);show strOf e.2=sOf e.2;rw[q'];rfl
  rw[e];exact hp
 have hlen:order.length<64:=by
  have q:=hperm.length_eq;rw[Xb]at q;lia
 refine zoI (s:={ s with heap:=h1,drawn:=d,toks:=tk }) hS hlen λh' out zs e q1 q2 q3 kp' he=>?_;exact h h1 h' d tk out zs e q1 (q2.trans hperm) q3 kp kp' he
end
end JS
namespace L2
open PySem PySem.Spec PyProof.Rows
inductive D where
 | non | int (i:Int) | str (x:Str) | tup (ds:List D)
noncomputable instance:DecidableEq D:=λ_ _=>Classical.propDecidable _
mutual
def Den (H:Hp):D->V->Prop
 | .non,v=>v=.non
 | .int i,v=>v=.int i
 | .str x,v=>v=.str x
 | .tup ds,v=>∃a xs,v=.ref a/\H a=some (.tup xs)/\DenL H ds xs
def DenL (H:Hp):List D->List V->Prop
 | [],xs=>xs=[]
 | d::ds,xs=>∃v r,xs=v::r/\Den H d v/\DenL H ds r
end
def ztc (H H':Hp):Prop:=∀b xs,H b=some (.tup xs)->H' b=some (.tup xs)
mutual
theorem Den.mono {H H':Hp}(s:ztc H H'):∀(d:D)(v:V),Den H d v->Den H' d v
 | .non,v,h=>by unfold Den at h ⊢;exact h
 | .int i,v,h=>by unfold Den at h ⊢;exact h
 | .str x,v,h=>by unfold Den at h ⊢;exact h
 | .tup ds,v,h=>by
  unfold Den at h ⊢;obtain⟨a,xs,e,h1,h2⟩:=h;exact⟨a,xs,e,s a xs h1,DenL.mono s ds xs h2⟩
theorem DenL.mono {H H':Hp}(s:ztc H H'):∀(ds:List D)(xs:List V),DenL H ds xs->DenL H' ds xs
 | [],xs,h=>by unfold DenL at h ⊢;exact h
 | d::ds,xs,h=>by
  unfold DenL at h ⊢;obtain⟨v,r,e,h1,h2⟩:=h;exact⟨v,r,e,Den.mono s d v h1,DenL.mono s ds r h2⟩
end
mutual
theorem Den.inj {H:Hp}:∀(d e:D)(v:V),Den H d v->Den H e v->d=e
 | .non,e,v,h,g=>by
  unfold Den at h;subst h;cases e<;>unfold Den at g
  ·rfl
  ·cases g
  ·cases g
  ·obtain⟨a,xs,z,_⟩:=g;cases z
 | .int i,e,v,h,g=>by
  unfold Den at h;subst h;cases e<;>unfold Den at g
  ·cases g
  ·injection g with g;rw[g]
  ·cases g
  ·obtain⟨a,xs,z,_⟩:=g;cases z
 | .str x,e,v,h,g=>by
  unfold Den at h;subst h;cases e<;>unfold Den at g
  ·cases g
  ·cases g
  ·injection g with g;rw[g]
  ·obtain⟨a,xs,z,_⟩:=g;cases z
 | .tup ds,e,v,h,g=>by
  unfold Den at h;obtain⟨a,xs,z,h1,h2⟩:=h;subst z;cases e<;>unfold Den at g
  ·cases g
  ·cases g
  ·cases g
  ·obtain⟨b,ys,z,g1,g2⟩:=g;cases z;rw[h1]at g1;cases g1;rw[DenL.inj ds _ xs h2 g2]
theorem DenL.inj {H:Hp}:∀(ds es:List D)(xs:List V),DenL H ds xs->DenL H es xs->ds=es
 | [],es,xs,h,g=>by
  unfold DenL at h;subst h;cases es with
  | nil=>rfl
  | cons e es=>unfold DenL at g;obtain⟨v,r,z,_⟩:=g;cases z
 | d::ds,es,xs,h,g=>by
  unfold DenL at h;obtain⟨v,r,z,h1,h2⟩:=h;subst z;cases es with
  | nil=>unfold DenL at g;cases g
  | cons e es=>
   unfold DenL at g;obtain⟨v',r',z,g1,g2⟩:=g;cases z;rw[Den.inj d e v h1 g1,DenL.inj ds es r h2 g2]
end
mutual
def Cmp:D->D->Prop
 | .non,e=>e=.non
 | .int _,e=>∃j,e=.int j
 | .str _,e=>∃y,e=.str y
 | .tup ds,e=>∃es,e=.tup es/\CmpL ds es
def CmpL:List D->List D->Prop
 | [],_=>True
 | d::ds,es=>∀e r,es=e::r->Cmp d e/\CmpL ds r
end
mutual
def dep:D->Nat
 | .tup ds=>depL ds+1
 | _=>0
def depL:List D->Nat
 | []=>0
 | d::ds=>max (dep d) (depL ds)
end
end L2
namespace L2
open PySem PySem.Spec PyProof.Rows
section
variable {X:Cx}
def zuX (K:Xa):V->List V->Hp->VK->Prop:=λx vs H Q=>∃(l b:We)(xs zs:List V),x=.ref l/\vs=[.ref b]/\H l=some (.lst xs)/\SqT K H b zs/\xs.length+zs.length<=Wn/\Q .non (upd H l (.lst (xs++zs)))
theorem zri:MtM X "list.extend" (zuX X.K):=by
 intro pins s σ H x vs v us Q I rx rv h;obtain⟨l,b,xs,zs,rfl,rfl,hH,hB,hz,q⟩:=h;cases rx;obtain⟨u,rfl,ru⟩:=rv.one;cases ru;obtain⟨z,its,n,r,hl,e⟩:=I.lstM hH;obtain⟨its2,r2,⟨o2,ho2,hc2,n2,hd2⟩,z2⟩:=I.tuple hB;have l2:=r2.length;have hne:l≠b:=λw=>by subst w;rw[e]at ho2;cases ho2;injection hc2 with z;exact absurd z (by decide)
 refine WE PySem.F.slot_list_extend ⟨_,e,rfl⟩ PySem.F.entry_list_extend ?_ (PySem.F.args_list_extend_2 _ _);show Wi _ _ (Builtin.List.listExtendWith (.ref l) (.ref b) .none) _ _ s;unfold Builtin.List.listExtendWith;refine Wa (wpAny_typeOf (T:="tuple") ⟨o2,ho2,hc2⟩ ?_);have h3:(Value.type "tuple" == Value.type "tuple")=true:=by decide
 rw[if_pos (by rw[h3];simp)];refine Wa (W2 ho2 hd2 (Wa (W2 e rfl ?_)));have hlong:¬ (!its.toArray.isEmpty&&Builtin.List.listTooLong (its.toArray.size+its2.toArray.size))=true:=by
  rw[zoz (by rw[Xj,Xj];lia),Bool.and_false];exact Xr
 rw[if_neg hlong];refine Wa (Vf e rfl (Wf ⟨_,rfl,?_⟩) (by rw[Xj];lia) (by rw[Array.size_append,Xj,Xj];lia));refine⟨.non,_,I.lset (its':=its++its2) (t':=s.toks) hH e (by simp) (r.append r2) (by rw[Xm];lia),rfl,q⟩
theorem zlo {ss:List Str}:∀ {its:List Wb},Vals (ss.map V.str) its->StrsAre its ss:=by
 induction ss with
 | nil=>intro its r;cases r;exact .nil
 | cons x ss ih=>
  intro its r;cases r with
  | cons r1 r2=>
   obtain⟨t,rfl⟩:=(show ∃t,_=Value.str x t from r1);exact .cons x t (ih r2)
theorem zig {ss:List Str}:∀ {its:List Wb},StrsAre its ss->Vals (ss.map V.str) its:=by
 induction ss with
 | nil=>intro its r;cases r;exact .nil
 | cons x ss ih=>
  intro its r;cases r with
  | cons _ t r2=>exact .cons ⟨t,rfl⟩ (ih r2)
theorem zlp:zde X (.builtin "sorted") (λxs H Q=>∃(p:We) (ss:List Str),xs=[.ref p]/\SqL X.K H p (ss.map V.str)/\ss.length<64/\∀l zs,H l=none->zs.Perm ss->sortedS zs=true->Q (.ref l) (upd H l (.lst (zs.map V.str)))):=by
 intro pins s σ H xs us Q I r h;obtain⟨p,ss,rfl,hp,h64,q⟩:=h;obtain⟨u,rfl,rx⟩:=vals1 r;cases rx;obtain⟨its,r,ht,hz⟩:=I.list hp;have hlen:=r.length;rw[Xb]at hlen;refine sorted_strs ht.isList (zlo r) (by lia) λout ss' a1 a2 a3=>?_;obtain⟨e,he⟩:=sortedAll_at s.heap its out;have kp:∀b o,s.heap.get? b=some o->(sortedAll s.heap its out).get? b=some o:=λ_ _=>sortedAll_old;have hl2:ss'.length=ss.length:=a2.length_eq;refine⟨.ref (s.heap.objs.size+1),_,I.laid (t':=s.toks) (o:=.lst (ss'.map V.str)) kp (Yu _) ?_,rfl,q _ ss' (I.hok.fresh (Yu _)) a2 a3⟩;exact⟨by rw[Xb,hl2];rw[Xb]at hz;exact hz,out.toList,e,zig a1,by rw[Array.toArray_toList];exact he⟩
def SetO (P:Wl)(w:Wt)(a:We)(xs:List Str):HO:=.ext λh=>JS.zmy P w h a xs
theorem zmC (hc:X.calm=true):zde X (.type "set") (λxs H Q=>∃(p:We) (ss:List Str),xs=[.ref p]/\SqL X.K H p (ss.map V.str)/\ss.length+1<Ve/\∀l,H l=none->Q (.ref l) (upd H l (SetO X.prog X.w l (ss.foldl JS.addS [])))):=by
 intro pins s σ H xs us Q I r h;obtain⟨p,ss,rfl,hp,hz,q⟩:=h;obtain⟨u,rfl,rx⟩:=vals1 r;cases rx;obtain⟨its,r,ht,_⟩:=I.list hp;have hlen:=r.length;rw[Xb]at hlen;refine JS.zoH (ys:=ss) (I.ok.hd hc) ht.isList (λi v hv=>?_) (by rw[Xj];exact hlen) (by rw[Xj];lia) λh' tk hS kp=>?_
 ·have hv':its[i]? = some v:=by simpa using hv
  have hi:i<its.length:=(Xe.mp hv').1;have e1:(ss.map V.str)[i]? = some (V.str ss[i]):=by simp[show i<ss.length by lia]
  obtain⟨u,q1,q2⟩:=r.get e1;rw[hv']at q1;cases q1;obtain⟨t,e2⟩:=(show ∃t,v=Value.str _ t from q2);exact⟨_,t,by simp[show i<ss.length by lia],e2⟩
 ·refine⟨.ref s.heap.objs.size,_,I.laid (t':=tk) (o:=SetO X.prog X.w s.heap.objs.size (ss.foldl JS.addS [])) kp (Xf _) ?_,rfl,q _ I.fresh⟩;obtain⟨es,ep,t,rc,_⟩:=id hS;obtain⟨o,ho,_⟩:=rc.obj;exact⟨hS,⟨o,ho⟩,λh1 h2 hs k=>JS.KSet.keep hs k⟩
theorem zih (hc:X.calm=true):zde X (.builtin "sorted") (λxs H Q=>∃(p:We) (ss:List Str),xs=[.ref p]/\H p=some (SetO X.prog X.w p ss)/\ss.length<64/\∀l zs,H l=none->zs.Perm ss->sortedS zs=true->Q (.ref l) (upd H l (.lst (zs.map V.str)))):=by
 intro pins s σ H xs us Q I r h;obtain⟨p,ss,rfl,hp,h64,q⟩:=h;obtain⟨u,rfl,rx⟩:=vals1 r;cases rx;obtain⟨hS,_,_⟩:=(show zbZ X.prog X.w H s.heap p (SetO X.prog X.w p ss) from I.hok p _ hp);refine JS.zln (I.ok.hd hc) hS h64 λh1 h' d tk out zs e a1 a2 a3 kp kp' he=>?_;have I1:Inv X pins σ H { s with heap:=h1,drawn:=d,toks:=tk }:=I.call' (ch:=[]) rfl (Un.kept kp) (I.hok.kept kp) I.bare (λ_ z=>nomatch z);have hl2:zs.length=ss.length:=a2.length_eq;refine⟨.ref h1.objs.size,_,I1.laid (h':=h') (t':=tk) (o:=.lst (zs.map V.str)) kp' (Xf _) ?_,rfl,q _ zs (I1.hok.fresh (Xf _)) a2 a3⟩;exact⟨by rw[Xb,Wo];lia,out,e,zig a1,he⟩
end
def ztd (K:Xa):List V->Hp->VK->Prop:=λxs H Q=>∃p ys,xs=[.ref p]/\((SqL K H p ys/\∀l,H l=none->Q (.ref l) (upd H l (.tup ys)))\/(SqT K H p ys/\Q (.ref p) H))
def zrj (K:Xa):List V->Hp->VK->Prop:=λxs H Q=>∃p ys,xs=[.ref p]/\(SqL K H p ys\/SqT K H p ys)/\∀l,H l=none->Q (.ref l) (upd H l (.lst ys))
end L2
namespace PL
open PySem PySem.Spec L2
open PyProof.Rows hiding St
inductive PV where
 | non | bl (b:Bool) | int (i:Int) | str (x:Str) | ty (n:String)
 | tup (ds:List PV) | lst (ds:List PV) | dK (ks:List Key) (ds:List PV) | dT (ks:List (List Key)) (ds:List PV)
  | obj (C:We) (ks:List Str) (ds:List PV)
noncomputable instance:DecidableEq PV:=λ_ _=>Classical.propDecidable _
abbrev FZ:=We->Prop
def KX (K:Xa)(a:We)(xs:List V):Prop:=∃(its:Array Wb)(n:Nat),K.lookup a=some { cls:=.type "list",data:=.seq its n }/\its.size<=Wn/\Vals xs its.toList
theorem KX.sq {K:Xa}{H:Hp}{a:We}{xs:List V}(h:KX K a xs):SqL K H a xs:=let ⟨its,n,h1,h2,h3⟩:=h;.inr ⟨_,its,n,h1,rfl,rfl,rfl,h2,h3⟩
mutual
def Den (K:Xa)(Fz:FZ)(H:Hp):PV->V->Prop
 | .non,v=>v=.non
 | .bl b,v=>v=.bl b
 | .int i,v=>v=.int i
 | .str x,v=>v=.str x
 | .ty n,v=>v=.ty n
 | .tup ds,v=>∃a xs,v=.ref a/\H a=some (.tup xs)/\DenL K Fz H ds xs
 | .lst ds,v=>∃a xs,v=.ref a/\((Fz a/\Rd H a (.lst xs))\/KX K a xs)/\DenL K Fz H ds xs
 | .dK ks ds,v=>∃a xs,v=.ref a/\Fz a/\Rd H a (.dK (ks.zip xs))/\ks.length=xs.length/\DenL K Fz H ds xs
 | .dT ks ds,v=>∃a xs,v=.ref a/\Fz a/\Rd H a (.dT (ks.zip xs))/\ks.length=xs.length/\DenL K Fz H ds xs
 | .obj C ks ds,v=>∃a dx xs,v=.ref a/\Fz a/\H a=some (.ins C dx (ks.zip xs))/\ks.length=xs.length/\DenL K Fz H ds xs
def DenL (K:Xa)(Fz:FZ)(H:Hp):List PV->List V->Prop
 | [],xs=>xs=[]
 | d::ds,xs=>∃v r,xs=v::r/\Den K Fz H d v/\DenL K Fz H ds r
end
def Root (K:Xa)(Fz:FZ)(H:Hp):PV->V->Prop
 | .lst ds,v=>∃a xs,v=.ref a/\(Rd H a (.lst xs)\/KX K a xs)/\DenL K Fz H ds xs
 | .dK ks ds,v=>∃a xs,v=.ref a/\Rd H a (.dK (ks.zip xs))/\ks.length=xs.length/\DenL K Fz H ds xs
 | .dT ks ds,v=>∃a xs,v=.ref a/\Rd H a (.dT (ks.zip xs))/\ks.length=xs.length/\DenL K Fz H ds xs
 | d,v=>Den K Fz H d v
def Own (K:Xa)(Fz:FZ)(H:Hp):PV->We->Prop
 | .lst ds,a=>∃xs,H a=some (.lst xs)/\DenL K Fz H ds xs
 | .dK ks ds,a=>∃xs,H a=some (.dK (ks.zip xs))/\ks.length=xs.length/\DenL K Fz H ds xs
 | .dT ks ds,a=>∃xs,H a=some (.dT (ks.zip xs))/\ks.length=xs.length/\DenL K Fz H ds xs
 | _,_=>False
def Imm:HO->Prop
 | .tup _=>True
 | .frz _ _=>True
 | _=>False
def Pl:HO->Prop
 | .lst _=>True
 | .tup _=>True
 | .dK _=>True
 | .dT _=>True
 | _=>False
structure Keep (Fz:FZ)(H H':Hp):Prop where
 rd':∀b u,Pl u->Fz b->Rd H b u->Rd H' b u
 tup:∀b xs,H b=some (.tup xs)->H' b=some (.tup xs)
 ins:∀b C dx fs,Fz b->H b=some (.ins C dx fs)->H' b=some (.ins C dx fs)
def zmD (Fz:FZ)(H H':Hp):Prop:=∀b o,H b=some o->(Fz b\/Imm o)->H' b=some o
theorem Keep.mk' {Fz:FZ}{H H':Hp}(h:zmD Fz H H'):Keep Fz H H':=
 ⟨λb u _ f r=>by
  rcases r with r | ⟨o,r⟩
  ·exact .inl (h b _ r (.inl f))
  ·exact .inr ⟨o,h b _ r (.inl f)⟩,λb xs r=>h b _ r (.inr trivial),λb C dx fs f r=>h b _ r (.inl f)⟩
theorem Keep.of {Fz:FZ}{H H':Hp}(h:Same H H'):Keep Fz H H':=.mk' λb o e _=>h b o e
theorem Keep.rd {Fz:FZ}{H H':Hp}(k:Keep Fz H H'){a:We}{u:HO}(pl:Pl u)(hf:Fz a)(h:Rd H a u):Rd H' a u:=k.rd' a u pl hf h
theorem Keep.sqT {K:Xa}{Fz:FZ}{H H':Hp}(k:Keep Fz H H'){a:We}{xs:List V}(h:H a=some (.tup xs)):SqT K H' a xs:=SqT.of (k.tup a xs h)
section
variable {K:Xa}{Fz Fz':FZ}{H H':Hp}
mutual
theorem Den.mono (k:Keep Fz H H')(s:∀b,Fz b->Fz' b):∀(d:PV)(v:V),Den K Fz H d v->Den K Fz' H' d v
 | .non,v,h=>by simpa only[Den]using h
 | .bl b,v,h=>by simpa only[Den]using h
 | .int i,v,h=>by simpa only[Den]using h
 | .str x,v,h=>by simpa only[Den]using h
 | .ty n,v,h=>by simpa only[Den]using h
 | .tup ds,v,h=>by
  simp only[Den]at h ⊢;obtain⟨a,xs,e,h1,h2⟩:=h;exact⟨a,xs,e,k.tup a xs h1,DenL.mono k s ds xs h2⟩
 | .lst ds,v,h=>by
  simp only[Den]at h ⊢;obtain⟨a,xs,e,h1,h2⟩:=h;refine⟨a,xs,e,?_,DenL.mono k s ds xs h2⟩;rcases h1 with ⟨f,h1⟩ | h1
  ·exact .inl ⟨s a f,k.rd trivial f h1⟩
  ·exact .inr h1
 | .dK ks ds,v,h=>by
  simp only[Den]at h ⊢;obtain⟨a,xs,e,f,h1,h2,h3⟩:=h;exact⟨a,xs,e,s a f,k.rd trivial f h1,h2,DenL.mono k s ds xs h3⟩
 | .dT ks ds,v,h=>by
  simp only[Den]at h ⊢;obtain⟨a,xs,e,f,h1,h2,h3⟩:=h;exact⟨a,xs,e,s a f,k.rd trivial f h1,h2,DenL.mono k s ds xs h3⟩
 | .obj C ks ds,v,h=>by
  simp only[Den]at h ⊢;obtain⟨a,dx,xs,e,f,h1,h2,h3⟩:=h;exact⟨a,dx,xs,e,s a f,k.ins a _ _ _ f h1,h2,DenL.mono k s ds xs h3⟩
theorem DenL.mono (k:Keep Fz H H')(s:∀b,Fz b->Fz' b):∀(ds:List PV)(xs:List V),DenL K Fz H ds xs->DenL K Fz' H' ds xs
 | [],xs,h=>by simpa only[DenL]using h
 | d::ds,xs,h=>by
  simp only[DenL]at h ⊢;obtain⟨v,r,e,h1,h2⟩:=h;exact⟨v,r,e,Den.mono k s d v h1,DenL.mono k s ds r h2⟩
end
theorem Den.root {d:PV}{v:V}(h:Den K Fz H d v):Root K Fz H d v:=by
 cases d with
 | lst ds=>
  simp only[Den]at h;obtain⟨a,xs,e,h1,h2⟩:=h;refine⟨a,xs,e,?_,h2⟩;rcases h1 with ⟨f,h1⟩ | h1
  ·exact .inl h1
  ·exact .inr h1
 | dK ks ds=>
  simp only[Den]at h;obtain⟨a,xs,e,_,h1,h2⟩:=h;exact⟨a,xs,e,h1,h2⟩
 | dT ks ds=>
  simp only[Den]at h;obtain⟨a,xs,e,_,h1,h2⟩:=h;exact⟨a,xs,e,h1,h2⟩
 | non=>exact h
 | bl b=>exact h
 | int i=>exact h
 | str x=>exact h
 | ty n=>exact h
 | tup ds=>exact h
 | obj C ks ds=>exact h
theorem Own.root {d:PV}{a:We}(h:Own K Fz H d a):Root K Fz H d (.ref a):=by
 cases d with
 | lst ds=>obtain⟨xs,h1,h2⟩:=h;exact⟨a,xs,rfl,.inl (.inl h1),h2⟩
 | dK ks ds=>obtain⟨xs,h1,h2⟩:=h;exact⟨a,xs,rfl,.inl h1,h2⟩
 | dT ks ds=>obtain⟨xs,h1,h2⟩:=h;exact⟨a,xs,rfl,.inl h1,h2⟩
 | non=>exact h.elim
 | bl b=>exact h.elim
 | int i=>exact h.elim
 | str x=>exact h.elim
 | ty n=>exact h.elim
 | tup ds=>exact h.elim
 | obj C ks ds=>exact h.elim
theorem Own.den {d:PV}{a:We}(h:Own K Fz H d a)(f:Fz a):Den K Fz H d (.ref a):=by
 cases d with
 | lst ds=>obtain⟨xs,h1,h2⟩:=h;simp only[Den];exact⟨a,xs,rfl,.inl ⟨f,.inl h1⟩,h2⟩
 | dK ks ds=>obtain⟨xs,h1,h2⟩:=h;simp only[Den];exact⟨a,xs,rfl,f,.inl h1,h2⟩
 | dT ks ds=>obtain⟨xs,h1,h2⟩:=h;simp only[Den];exact⟨a,xs,rfl,f,.inl h1,h2⟩
 | non=>exact h.elim
 | bl b=>exact h.elim
 | int i=>exact h.elim
 | str x=>exact h.elim
 | ty n=>exact h.elim
 | tup ds=>exact h.elim
 | obj C ks ds=>exact h.elim
theorem Own.at {d:PV}{a:We}(h:Own K Fz H d a):∃o,H a=some o/\¬ Imm o:=by
 cases d with
 | lst ds=>obtain⟨xs,h1,h2⟩:=h;exact⟨_,h1,λz=>z⟩
 | dK ks ds=>obtain⟨xs,h1,h2⟩:=h;exact⟨_,h1,λz=>z⟩
 | dT ks ds=>obtain⟨xs,h1,h2⟩:=h;exact⟨_,h1,λz=>z⟩
 | non=>exact h.elim
 | bl b=>exact h.elim
 | int i=>exact h.elim
 | str x=>exact h.elim
 | ty n=>exact h.elim
 | tup ds=>exact h.elim
 | obj C ks ds=>exact h.elim
theorem Own.mono {d:PV}{a:We}(k:Keep Fz H H')(s:∀b,Fz b->Fz' b)(ha:∀o,H a=some o->H' a=some o)(h:Own K Fz H d a):Own K Fz' H' d a:=by
 cases d with
 | lst ds=>obtain⟨xs,h1,h2⟩:=h;exact⟨xs,ha _ h1,DenL.mono k s _ _ h2⟩
 | dK ks ds=>obtain⟨xs,h1,h2,h3⟩:=h;exact⟨xs,ha _ h1,h2,DenL.mono k s _ _ h3⟩
 | dT ks ds=>obtain⟨xs,h1,h2,h3⟩:=h;exact⟨xs,ha _ h1,h2,DenL.mono k s _ _ h3⟩
 | non=>exact h.elim
 | bl b=>exact h.elim
 | int i=>exact h.elim
 | str x=>exact h.elim
 | ty n=>exact h.elim
 | tup ds=>exact h.elim
 | obj C ks ds=>exact h.elim
theorem Root.mono {d:PV}{v:V}(k:Same H H')(s:∀b,Fz b->Fz' b)(h:Root K Fz H d v):Root K Fz' H' d v:=by
 have rd:∀ {a u},Rd H a u->Rd H' a u:=λ{a u} q=>by
  rcases q with q | ⟨o,q⟩
  ·exact .inl (k _ _ q)
  ·exact .inr ⟨o,k _ _ q⟩
 cases d with
 | lst ds=>obtain⟨a,xs,e,h1,h2⟩:=h;exact⟨a,xs,e,h1.imp rd id,DenL.mono (.of k) s _ _ h2⟩
 | dK ks ds=>obtain⟨a,xs,e,h1,h2,h3⟩:=h;exact⟨a,xs,e,rd h1,h2,DenL.mono (.of k) s _ _ h3⟩
 | dT ks ds=>obtain⟨a,xs,e,h1,h2,h3⟩:=h;exact⟨a,xs,e,rd h1,h2,DenL.mono (.of k) s _ _ h3⟩
 | non=>exact Den.mono (.of k) s _ _ h
 | bl b=>exact Den.mono (.of k) s _ _ h
 | int i=>exact Den.mono (.of k) s _ _ h
 | str x=>exact Den.mono (.of k) s _ _ h
 | ty n=>exact Den.mono (.of k) s _ _ h
 | tup ds=>exact Den.mono (.of k) s _ _ h
 | obj C ks ds=>exact Den.mono (.of k) s _ _ h
theorem DenL.length:∀(ds:List PV)(xs:List V),DenL K Fz H ds xs->ds.length=xs.length
 | [],xs,h=>by simp only[DenL]at h;subst h;rfl
 | d::ds,xs,h=>by
  simp only[DenL]at h;obtain⟨v,r,z,_,h2⟩:=h;subst z;rw[XE,XE,DenL.length ds r h2]
theorem DenL.get:∀ {ds:List PV}{xs:List V}{i:Nat}{d:PV},DenL K Fz H ds xs->ds[i]? = some d->∃v,xs[i]? = some v/\Den K Fz H d v
 | [],xs,i,d,h,e=>by simp at e
 | d0::ds,xs,i,d,h,e=>by
  simp only[DenL]at h;obtain⟨v0,r,z,h1,h2⟩:=h;subst z;cases i with
  | zero=>simp at e;subst e;exact⟨v0,rfl,h1⟩
  | succ i=>
   obtain⟨v,q,h⟩:=DenL.get h2 (i:=i) (d:=d) (by simpa using e);exact⟨v,by simpa using q,h⟩
theorem DenL.nil:DenL K Fz H [] []:=by simp only[DenL]
theorem DenL.cons {d:PV}{v:V}{ds:List PV}{xs:List V}(h1:Den K Fz H d v)(h2:DenL K Fz H ds xs):DenL K Fz H (d::ds) (v::xs):=by
 simp only[DenL];exact⟨v,xs,rfl,h1,h2⟩
theorem DenL.append:∀ {ds es:List PV}{xs ys:List V},DenL K Fz H ds xs->DenL K Fz H es ys->DenL K Fz H (ds++es) (xs++ys)
 | [],es,xs,ys,h,g=>by simp only[DenL]at h;subst h;exact g
 | d::ds,es,xs,ys,h,g=>by
  simp only[DenL]at h;obtain⟨v,r,z,h1,h2⟩:=h;subst z;exact DenL.cons h1 (DenL.append h2 g)
theorem DenL.snoc {ds:List PV}{xs:List V}{d:PV}{v:V}(h:DenL K Fz H ds xs)(g:Den K Fz H d v):DenL K Fz H (ds++[d]) (xs++[v]):=h.append (DenL.cons g DenL.nil)
theorem DenL.split:∀ {ds es:List PV}{xs:List V},DenL K Fz H (ds++es) xs->∃ys zs,xs=ys++zs/\DenL K Fz H ds ys/\DenL K Fz H es zs
 | [],es,xs,h=>⟨[],xs,rfl,DenL.nil,h⟩
 | d::ds,es,xs,h=>by
  rw[List.cons_append]at h;simp only[DenL]at h;obtain⟨v,r,z,h1,h2⟩:=h;subst z;obtain⟨ys,zs,e,g1,g2⟩:=DenL.split h2;exact⟨v::ys,zs,by rw[e];rfl,DenL.cons h1 g1,g2⟩
theorem DenL.take {ds:List PV}{xs:List V}(n:Nat)(h:DenL K Fz H ds xs):DenL K Fz H (ds.take n) (xs.take n):=by
 have hl:=h.length;obtain⟨ys,zs,e,g1,g2⟩:=DenL.split (ds:=ds.take n) (es:=ds.drop n) (by rw[List.take_append_drop];exact h);have h1:=g1.length;subst e;by_cases hn:n<=ds.length
 ·rw[XY,Nat.min_eq_left hn]at h1;rw[List.take_append_of_le_length (by lia),XC (i:=n) (l:=ys) (by lia)];exact g1
 ·rw[XC (i:=n) (l:=ds) (by lia),XC (i:=n) (l:=ys++zs) (by lia)];exact h
theorem DenL.drop {ds:List PV}{xs:List V}(n:Nat)(h:DenL K Fz H ds xs):DenL K Fz H (ds.drop n) (xs.drop n):=by
 have hl:=h.length;obtain⟨ys,zs,e,g1,g2⟩:=DenL.split (ds:=ds.take n) (es:=ds.drop n) (by rw[List.take_append_drop];exact h);have h1:=g1.length;subst e;by_cases hn:n<=ds.length
 ·rw[XY,Nat.min_eq_left hn]at h1;rw[List.drop_append,List.drop_of_length_le (i:=n) (l:=ys) (by lia),show n-ys.length=0 by lia];exact g2
 ·rw[List.drop_of_length_le (i:=n) (l:=ds) (by lia),List.drop_of_length_le (i:=n) (l:=ys++zs) (by lia)];exact DenL.nil
theorem DenL.set:∀ {ds:List PV}{xs:List V}{d:PV}{v:V}(i:Nat),DenL K Fz H ds xs->Den K Fz H d v->DenL K Fz H (ds.set i d) (xs.set i v)
 | [],xs,d,v,i,h,g=>by simp only[DenL]at h;subst h;exact DenL.nil
 | d0::ds,xs,d,v,i,h,g=>by
  simp only[DenL]at h;obtain⟨v0,r,z,h1,h2⟩:=h;subst z;cases i with
  | zero=>exact DenL.cons g h2
  | succ i=>exact DenL.cons h1 (DenL.set i h2 g)
end
abbrev PEnv:=List (Option (PV×Bool))
structure Rel (K:Xa)(Fz:FZ)(ρ:PEnv)(σ:St)(H:Hp):Prop where
 al:∀b,Fz b->H b≠none
 len:ρ.length=σ.length
 frz:∀(i:Nat) (d:PV),ρ[i]? = some (some (d,false))->∃v,σ[i]? = some (some v)/\Den K Fz H d v
 own:∀(i:Nat) (d:PV),ρ[i]? = some (some (d,true))->∃a,σ[i]? = some (some (.ref a))/\¬ Fz a/\Own K Fz H d a
 inj:∀(i j:Nat) (d e:PV) (a:We),ρ[i]? = some (some (d,true))->ρ[j]? = some (some (e,true))->σ[i]? = some (some (.ref a))->σ[j]? = some (some (.ref a))->i=j
def zbB (ρ:PEnv)(σ:St)(a:We):Prop:=∃(i:Nat)(d:PV),ρ[i]? = some (some (d,true))/\σ[i]? = some (some (.ref a))
structure Ext (Fz:FZ)(H:Hp)(Fz':FZ)(H':Hp):Prop where
 same:Same H H'
 sub:∀b,Fz b->Fz' b
 new:∀b,Fz' b->Fz b\/H b=none
 al:∀b,Fz' b->H' b≠none
theorem Ext.trans {F1 F2 F3:FZ}{H1 H2 H3:Hp}(a:Ext F1 H1 F2 H2)(b:Ext F2 H2 F3 H3):Ext F1 H1 F3 H3:=
 ⟨a.same.trans b.same,λc h=>b.sub c (a.sub c h),λc h=>by
  rcases b.new c h with h | h
  ·exact a.new c h
  ·exact .inr (a.same.free h),b.al⟩
theorem Ext.add {Fz Fz':FZ}{H H':Hp}{a:We}(x:Ext Fz H Fz' H')(h:H a=none)(h':H' a≠none):Ext Fz H (λb=>Fz' b\/b=a) H':=
 ⟨x.same,λb h=>.inl (x.sub b h),λb hb=>by
  rcases hb with hb | rfl
  ·exact x.new b hb
  ·exact .inr h,λb hb=>by
  rcases hb with hb | rfl
  ·exact x.al b hb
  ·exact h'⟩
theorem Ext.laid {Fz Fz':FZ}{H H':Hp}{p:We}{o:HO}(x:Ext Fz H Fz' H')(h:H' p=none):Ext Fz H Fz' (upd H' p o):=
 ⟨x.same.trans (λb u e=>by rw[zak (zaB e h)];exact e),x.sub,x.new,λb hb=>by
  by_cases e:b=p
  ·subst e;rw[zap];exact λz=>nomatch z
  ·rw[zak e];exact x.al b hb⟩
theorem Rel.ext {K:Xa}{Fz Fz':FZ}{ρ:PEnv}{σ:St}{H H':Hp}(R:Rel K Fz ρ σ H)(x:Ext Fz H Fz' H'):Rel K Fz' ρ σ H' where
 al:=x.al
 len:=R.len
 frz i d h:=by
  obtain⟨v,e,q⟩:=R.frz i d h;exact⟨v,e,Den.mono (.of x.same) x.sub d v q⟩
 own i d h:=by
  obtain⟨a,e,n,q⟩:=R.own i d h;refine⟨a,e,λz=>?_,q.mono (.of x.same) x.sub (λo h=>x.same _ _ h)⟩;rcases x.new a z with z | z
  ·exact n z
  ·obtain⟨o,h,_⟩:=q.at;rw[h]at z;cases z
 inj:=R.inj
inductive Kd where
 | frz | new | own (i:Nat)
def Opd (K:Xa)(Fz':FZ)(H':Hp)(ρ:PEnv)(σ:St)(H:Hp)(d:PV):Kd->V->Prop
 | .frz,v=>Den K Fz' H' d v
 | .new,v=>∃a,v=.ref a/\H a=none/\¬ Fz' a/\Own K Fz' H' d a
 | .own i,v=>ρ[i]? = some (some (d,true))/\σ[i]? = some (some v)
structure Post (K:Xa)(ρ:PEnv)(σ:St)(Fz:FZ)(H:Hp)(Fz':FZ)(H':Hp)(d:PV)(k:Kd)(v:V):Prop where
 ext:Ext Fz H Fz' H'
 opd:Opd K Fz' H' ρ σ H d k v
theorem Post.root {K:Xa}{ρ:PEnv}{σ:St}{Fz Fz':FZ}{H H':Hp}{d:PV}{k:Kd}{v:V}(R:Rel K Fz ρ σ H)(p:Post K ρ σ Fz H Fz' H' d k v):Root K Fz' H' d v:=by
 cases k with
 | frz=>exact Den.root p.opd
 | new=>obtain⟨a,e,_,_,h⟩:=p.opd;subst e;exact h.root
 | own i=>
  obtain⟨h1,h2⟩:=p.opd;obtain⟨a,e,_,q⟩:=(R.ext p.ext).own i d h1;rw[h2]at e;cases e;exact q.root
theorem Post.frozen {K:Xa}{ρ:PEnv}{σ:St}{Fz Fz':FZ}{H H':Hp}{d:PV}{k:Kd}{v:V}(hk:k=.frz\/k=.new)(p:Post K ρ σ Fz H Fz' H' d k v) :
  ∃Fz2,Ext Fz H Fz2 H'/\(∀b,Fz' b->Fz2 b)/\Den K Fz2 H' d v:=by
 rcases hk with rfl | rfl
 ·exact⟨Fz',p.ext,λ_ h=>h,p.opd⟩
 ·obtain⟨a,e,hn,_,h⟩:=p.opd;subst e;exact⟨λb=>Fz' b\/b=a,p.ext.add hn (by obtain⟨o,e,_⟩:=h.at;rw[e];exact λz=>nomatch z),λ_ h=>.inl h,(h.mono (Fz':=λb=>Fz' b\/b=a) (Keep.of (Same.refl _)) (λ_ h=>.inl h) (λ_ h=>h)).den (.inr rfl)⟩
abbrev TPE:=PEnv->(PV->Kd->Prop)->Prop
abbrev TPT:=PEnv->(Bool->Prop)->Prop
abbrev TPA:=PEnv->(List (PV×Kd)->Prop)->Prop
def lift (K:Xa)(t:TPE):TE:=λσ H Q=>∃ρ Fz,Rel K Fz ρ σ H/\t ρ λd k=>∀v Fz' H',Post K ρ σ Fz H Fz' H' d k v->Q v H'
def liftT (K:Xa)(t:TPT):TT:=λσ H Q=>∃ρ Fz,Rel K Fz ρ σ H/\t ρ λb=>∀Fz' H',Ext Fz H Fz' H'->Q b H'
structure PuE (X:Cx)(e:Expr)(t:TPE):Prop where
 mono:∀ρ Q Q',(∀d k,Q d k->Q' d k)->t ρ Q->t ρ Q'
 run:PE X e (lift X.K t)
structure PuT (X:Cx)(e:Expr)(t:TPT):Prop where
 mono:∀ρ Q Q',(∀b,Q b->Q' b)->t ρ Q->t ρ Q'
 run:PT X e (liftT X.K t)
theorem PE.weak {X:Cx}{e:Expr}{t t':TE}(h:PE X e t)(w:∀σ H Q,t' σ H Q->t σ H Q):PE X e t':=λpins s σ H Q I q=>h pins s σ H Q I (w σ H Q q)
theorem PT.weak {X:Cx}{e:Expr}{t t':TT}(h:PT X e t)(w:∀σ H Q,t' σ H Q->t σ H Q):PT X e t':=λpins s σ H Q I q=>h pins s σ H Q I (w σ H Q q)
theorem zuY {X:Cx}{a b:Expr}{ta tb:TPE}(ha:PuE X a ta)(hb:PuE X b tb){σ:St}{H:Hp}{R:V->V->Hp->Prop}
  (ρ:PEnv) (Fz:FZ) (Re:Rel X.K Fz ρ σ H)
  (h:ta ρ λd kd=>tb ρ λe ke=>∀x y Fz1 H1 Fz2 H2,Post X.K ρ σ Fz H Fz1 H1 d kd x->Post X.K ρ σ Fz1 H1 Fz2 H2 e ke y->R x y H2) :
  lift X.K ta σ H λx H1=>lift X.K tb σ H1 λy H2=>R x y H2:=
 ⟨ρ,Fz,Re,ha.mono ρ _ _ (λd kd q v Fz1 H1 p1=>⟨ρ,Fz1,Re.ext p1.ext,hb.mono ρ _ _ (λe ke q w Fz2 H2 p2=>q v w Fz1 H1 Fz2 H2 p1 p2) q⟩) h⟩
end PL
namespace PL
open PySem PySem.Spec L2
open PyProof.Rows hiding St
section
variable {K:Xa}{ρ:PEnv}{σ:St}{Fz Fz1 Fz2:FZ}{H H1 H2:Hp}{d:PV}{k:Kd}{v:V}
theorem Opd.ext (x:Ext Fz1 H1 Fz2 H2)(h:Opd K Fz1 H1 ρ σ H d k v):Opd K Fz2 H2 ρ σ H d k v:=by
 cases k with
 | frz=>exact Den.mono (.of x.same) x.sub _ _ h
 | new=>
  obtain⟨a,e,hn,nf,o⟩:=h;refine⟨a,e,hn,λz=>?_,o.mono (.of x.same) x.sub (λo h=>x.same _ _ h)⟩;rcases x.new a z with z | z
  ·exact nf z
  ·obtain⟨o',h,_⟩:=o.at;rw[h]at z;cases z
 | own i=>exact h
theorem Opd.back (s:Same H H1)(h:Opd K Fz2 H2 ρ σ H1 d k v):Opd K Fz2 H2 ρ σ H d k v:=by
 cases k with
 | frz=>exact h
 | new=>obtain⟨a,e,hn,r⟩:=h;exact⟨a,e,s.free hn,r⟩
 | own i=>exact h
theorem Opd.up (h:Opd K Fz2 H2 [] [] H d k v):Opd K Fz2 H2 ρ σ H d k v:=by
 cases k with
 | frz=>exact h
 | new=>exact h
 | own i=>obtain⟨z,_⟩:=h;simp at z
theorem Post.behind (x:Ext Fz H Fz1 H1)(p:Post K [] [] Fz1 H1 Fz2 H2 d k v):Post K ρ σ Fz H Fz2 H2 d k v:=
 ⟨x.trans p.ext,(p.opd.up (ρ:=ρ) (σ:=σ)).back x.same⟩
theorem Post.then(x:Ext Fz H Fz1 H1)(p:Post K ρ σ Fz1 H1 Fz2 H2 d k v):Post K ρ σ Fz H Fz2 H2 d k v:=
 ⟨x.trans p.ext,p.opd.back x.same⟩
theorem Post.val (al:∀b,Fz b->H b≠none)(h:Den K Fz H d v):Post K ρ σ Fz H Fz H d .frz v:=⟨⟨Same.refl H,λ_ h=>h,λ_ h=>.inl h,al⟩,h⟩
end
def pVar (i:Nat):TPE:=λρ Q=>match ρ[i]? with
 | some (some (d,b))=>Q d (if b then .own i else .frz)
 | _=>False
theorem zhg {i:Nat}{ρ:PEnv}{Q:PV->Kd->Prop}:pVar i ρ Q↔∃d b,ρ[i]? = some (some (d,b))/\Q d (if b then .own i else .frz):=by
 unfold pVar;cases h:ρ[i]? with
 | none=>simp
 | some x=>
  cases x with
  | none=>simp
  | some p=>
   obtain⟨d,b⟩:=p;constructor
   ·exact λq=>⟨d,b,rfl,q⟩
   ·rintro⟨d',b',e,q⟩;cases e;exact q
def pC (d:PV):TPE:=λ_ Q=>Q d .frz
section
variable {X:Cx}
theorem zaa (i:Nat){x:Str}{pos:Pos}(hN:X.N[i]? = some x:=by rfl)(hv:Vis X.env.scope x:=by first | exact Or.inl rfl | exact Or.inr (Or.inl rfl) | exact Or.inr (Or.inr rfl))(hd:(x == ("__debug__" : Str))=false:=by decide)
  (hcd:(x == ("__classdict__" : Str))=false:=by decide):PuE X (.Name x pos) (pVar i) where
 mono ρ Q Q' m h:=by obtain⟨d,b,e,q⟩:=zhg.mp h;exact zhg.mpr ⟨d,b,e,m _ _ q⟩
 run:=PE.weak (zcE hN hv hd hcd) λσ H Q h=>by
  obtain⟨ρ,Fz,R,h⟩:=h;obtain⟨d,b,e,q⟩:=zhg.mp h;cases b with
  | false=>
   obtain⟨v,e1,h1⟩:=R.frz i d e;exact⟨v,e1,q v Fz H (.val R.al h1)⟩
  | true=>
   obtain⟨a,e1,_,_⟩:=R.own i d e;exact⟨_,e1,q _ Fz H ⟨⟨Same.refl H,λ_ h=>h,λ_ h=>.inl h,R.al⟩,e,e1⟩⟩
theorem zeq {e:Expr}{d:PV}{v:V}(h:PE X e (tC v))(hd:∀Fz H,Den X.K Fz H d v):PuE X e (pC d) where
 mono ρ Q Q' m h:=m _ _ h
 run:=PE.weak h λσ H Q h=>by
  obtain⟨ρ,Fz,R,q⟩:=h;exact q v Fz H (.val R.al (hd Fz H))
theorem zaf {i j pos}:PuE X (.Constant (.int i) j pos) (pC (.int i)):=zeq zso λ_ _=>by simp only[Den]
theorem zoJ {b j pos}:PuE X (.Constant (.bool b) j pos) (pC (.bl b)):=zeq zux λ_ _=>by simp only[Den]
theorem zfG {j pos}:PuE X (.Constant .none j pos) (pC .non):=zeq zsp λ_ _=>by simp only[Den]
theorem zte {x j pos}:PuE X (.Constant (.str x) j pos) (pC (.str x)):=zeq zsq λ_ _=>by simp only[Den]
theorem zrk {x:Str}{T:String}{pos:Pos}(hg:Gl X x)(hm:X.mg x=none)(hv:Ww x=some (.type T))(hn:x≠"__name__":=by decide) (hd:(x == ("__debug__" : Str))=false:=by decide):PuE X (.Name x pos) (pC (.ty T)):=
 zeq (zqE (v:=.ty T) hg hm hv rfl hn hd) λ_ _=>by simp only[Den]
end
abbrev P2:=PV->PV->(PV->Kd->Prop)->Prop
structure POp (K:Xa)(r:R2)(p:P2):Prop where
 mono:∀d e Q Q',(∀z k,Q z k->Q' z k)->p d e Q->p d e Q'
 run:∀Fz H x y d e Q,(∀b,Fz b->H b≠none)->Root K Fz H d x->Root K Fz H e y->p d e (λz k=>∀v Fz' H',Post K [] [] Fz H Fz' H' z k v->Q v H')->r x y H Q
def t2 (p:P2)(ta tb:TPE):TPE:=λρ Q=>ta ρ λd _=>tb ρ λe _=>p d e Q
section
variable {X:Cx}{a b:Expr}{ta tb:TPE}{pos:Pos}{r:R2}{p:P2}
theorem zdi (hp:POp X.K r p)(ha:PuE X a ta)(hb:PuE X b tb):∀ρ Q Q',(∀d k,Q d k->Q' d k)->t2 p ta tb ρ Q->t2 p ta tb ρ Q':=
 λρ Q Q' m h=>ha.mono ρ _ _ (λd _ h=>hb.mono ρ _ _ (λe _ h=>hp.mono d e _ _ m h) h) h
theorem zgE (hp:POp X.K r p)(ha:PuE X a ta)(hb:PuE X b tb){σ:St}{H:Hp}{Q:VK}(h:lift X.K (t2 p ta tb) σ H Q):tOp r (lift X.K ta) (lift X.K tb) σ H Q:=by
 obtain⟨ρ,Fz,R,h⟩:=h;refine zuY ha hb ρ Fz R (ha.mono ρ _ _ (λd kd h=>hb.mono ρ _ _ (λe ke h=>?_) h) h);intro x y Fz1 H1 Fz2 H2 p1 p2;have R1:=R.ext p1.ext;refine hp.run Fz2 H2 x y d e Q p2.ext.al ((p1.root R).mono p2.ext.same p2.ext.sub) (p2.root R1) (hp.mono d e _ _ (λz k q v Fz' H' p3=>?_) h);exact q v Fz' H' (p3.behind (p1.ext.trans p2.ext))
theorem zii {op:Operator}(ho:OpR X (Vk op) r)(hp:POp X.K r p)(ha:PuE X a ta)(hb:PuE X b tb):PuE X (.BinOp a op b pos) (t2 p ta tb):=
 ⟨zdi hp ha hb,PE.weak (zuH ho ha.run hb.run) λ_ _ _ h=>zgE hp ha hb h⟩
theorem zpX {op:CmpOp}(ho:OpR X (WJ op) r)(hp:POp X.K r p)(ha:PuE X a ta)(hb:PuE X b tb)(hm:Wx op b=false:=by first | exact zdc _ | rfl):PuE X (.Compare a [op] [b] pos) (t2 p ta tb):=
 ⟨zdi hp ha hb,PE.weak (zqN ho ha.run hb.run hm) λ_ _ _ h=>zgE hp ha hb h⟩
def blP (d:PV)(Q:Bool->Prop):Prop:=match d with
 | .bl b=>Q b
 | _=>False
theorem zhh {d:PV}{Q:Bool->Prop}:blP d Q↔∃b,d=.bl b/\Q b:=by
 unfold blP;constructor
 ·intro h;cases d<;>first | exact⟨_,rfl,h⟩ | exact h.elim
 ·rintro⟨b,rfl,q⟩;exact q
theorem zjX {d:PV}{Q Q':Bool->Prop}(m:∀b,Q b->Q' b)(h:blP d Q):blP d Q':=by
 obtain⟨b,e,q⟩:=zhh.mp h;exact zhh.mpr ⟨b,e,m b q⟩
def tBl (te:TPE):TPT:=λρ Q=>te ρ λd _=>blP d Q
theorem zdj {op:CmpOp}(ho:OpR X (WJ op) r)(hp:POp X.K r p)(ha:PuE X a ta)(hb:PuE X b tb)(hm:Wx op b=false:=by first | exact zdc _ | rfl):PuT X (.Compare a [op] [b] pos) (tBl (t2 p ta tb)) where
 mono ρ Q Q' m h:=zdi hp ha hb ρ _ _ (λd _ q=>zjX m q) h
 run:=PT.weak (zqO ho ha.run hb.run hm) λσ H Q h=>by
  obtain⟨ρ,Fz,R,h⟩:=h;refine zgE hp ha hb ⟨ρ,Fz,R,zdi hp ha hb ρ _ _ (λd k q v Fz' H' p=>?_) h⟩;obtain⟨b,e,q⟩:=zhh.mp q;refine⟨b,?_,q Fz' H' p.ext⟩;subst e;have w:=p.root R;simpa only[Root,Den]using w
theorem zuZ (ho:IxR X r)(hp:POp X.K r p)(ha:PuE X a ta)(hb:PuE X b tb)(hs:zjf b:=by exact λ_ _=>rfl):PuE X (.Subscript a b pos) (t2 p ta tb):=
 ⟨zdi hp ha hb,PE.weak (zuQ ho ha.run hb.run hs) λ_ _ _ h=>zgE hp ha hb h⟩
end
def i2 (C:Int->Int->Prop)(g:Int->Int->PV):P2:=λd e Q=>∃i j,d=.int i/\e=.int j/\C i j/\Q (g i j) .frz
def i0 (g:Int->Int->PV):P2:=λd e Q=>∃i j,d=.int i/\e=.int j/\Q (g i j) .frz
section
variable {K:Xa}
theorem zij {C:Int->Int->Prop}{g:Int->Int->Int}:POp K (rI C λi j=>.int (g i j)) (i2 C λi j=>.int (g i j)) where
 mono d e Q Q' m h:=by obtain⟨i,j,e1,e2,c,q⟩:=h;exact⟨i,j,e1,e2,c,m _ _ q⟩
 run Fz H x y d e Q al rx ry h:=by
  obtain⟨i,j,rfl,rfl,c,q⟩:=h;simp only[Root,Den]at rx ry;exact⟨i,j,rx,ry,c,q _ Fz H (.val al (by simp only[Den]))⟩
theorem zmE {g:Int->Int->Int}:POp K (rI0 λi j=>.int (g i j)) (i0 λi j=>.int (g i j)) where
 mono d e Q Q' m h:=by obtain⟨i,j,e1,e2,q⟩:=h;exact⟨i,j,e1,e2,m _ _ q⟩
 run Fz H x y d e Q al rx ry h:=by
  obtain⟨i,j,rfl,rfl,q⟩:=h;simp only[Root,Den]at rx ry;exact⟨i,j,rx,ry,q _ Fz H (.val al (by simp only[Den]))⟩
theorem zhi {g:Int->Int->Bool}:POp K (rI0 λi j=>.bl (g i j)) (i0 λi j=>.bl (g i j)) where
 mono d e Q Q' m h:=by obtain⟨i,j,e1,e2,q⟩:=h;exact⟨i,j,e1,e2,m _ _ q⟩
 run Fz H x y d e Q al rx ry h:=by
  obtain⟨i,j,rfl,rfl,q⟩:=h;simp only[Root,Den]at rx ry;exact⟨i,j,rx,ry,q _ Fz H (.val al (by simp only[Den]))⟩
end
section
variable {X:Cx}{a b:Expr}{ta tb:TPE}{pos:Pos}
abbrev pAdd:=t2 (i0 λi j=>.int (i+j))
abbrev pSub:=t2 (i0 λi j=>.int (i-j))
abbrev pMul:=t2 (i2 CMul λi j=>.int (i*j))
abbrev pMod:=t2 (i2 (λ_ j=>0<j) λi j=>.int (i % j))
abbrev pDiv:=t2 (i2 CDiv λi j=>.int (i / j))
abbrev pPow:=t2 (i2 CPow λi j=>.int (i ^ j.toNat))
abbrev pLt:=t2 (i0 λi j=>.bl (decide (i<j)))
abbrev pLe:=t2 (i0 λi j=>.bl (decide (i<=j)))
abbrev pGt:=t2 (i0 λi j=>.bl (decide (j<i)))
theorem zbj (ha:PuE X a ta)(hb:PuE X b tb):PuE X (.BinOp a .Add b pos) (pAdd ta tb):=zii zsD zmE ha hb
theorem zik (ha:PuE X a ta)(hb:PuE X b tb):PuE X (.BinOp a .Sub b pos) (pSub ta tb):=zii zsE zmE ha hb
theorem zbO (ha:PuE X a ta)(hb:PuE X b tb):PuE X (.BinOp a .Mult b pos) (pMul ta tb):=zii zsF zij ha hb
theorem zaK (ha:PuE X a ta)(hb:PuE X b tb):PuE X (.BinOp a .Mod b pos) (pMod ta tb):=zii zsG zij ha hb
theorem zdd (ha:PuE X a ta)(hb:PuE X b tb):PuE X (.BinOp a .FloorDiv b pos) (pDiv ta tb):=zii zqL zij ha hb
theorem zfe (ha:PuE X a ta)(hb:PuE X b tb):PuE X (.BinOp a .Pow b pos) (pPow ta tb):=zii zsH zij ha hb
end
def plain:Nat->PV->Bool
 | _,.non=>true
 | _,.int _=>true
 | _,.str _=>true
 | n+1,.tup ds=>ds.all (plain n)
 | n+1,.lst ds=>ds.all (plain n)
 | _,_=>false
theorem zck {K:Xa}{Fz:FZ}{H:Hp}{x:V}(h:Root K Fz H .non x):x=.non:=by simpa only[Root,Den]using h
theorem zax {K:Xa}{Fz:FZ}{H:Hp}{x:V}{i:Int}(h:Root K Fz H (.int i) x):x=.int i:=by simpa only[Root,Den]using h
theorem zeU {K:Xa}{Fz:FZ}{H:Hp}{x:V}{i:Bool}(h:Root K Fz H (.bl i) x):x=.bl i:=by simpa only[Root,Den]using h
theorem zbs {K:Xa}{Fz:FZ}{H:Hp}{x:V}{i:Str}(h:Root K Fz H (.str i) x):x=.str i:=by simpa only[Root,Den]using h
theorem zbe {K:Xa}{Fz:FZ}{H:Hp}{x:V}{ds:List PV}(h:Root K Fz H (.tup ds) x):∃a xs,x=.ref a/\SqT K H a xs/\DenL K Fz H ds xs:=by
 simp only[Root,Den]at h;obtain⟨a,xs,e,h1,h2⟩:=h;exact⟨a,xs,e,SqT.of h1,h2⟩
theorem zfH {K:Xa}{Fz:FZ}{H:Hp}{x:V}{ds:List PV}(h:Root K Fz H (.tup ds) x):∃a xs,x=.ref a/\H a=some (.tup xs)/\DenL K Fz H ds xs:=by simpa only[Root,Den]using h
theorem zas {K:Xa}{Fz:FZ}{H:Hp}{x:V}{ds:List PV}(h:Root K Fz H (.lst ds) x):∃a xs,x=.ref a/\SqL K H a xs/\DenL K Fz H ds xs:=by
 simp only[Root]at h;obtain⟨a,xs,e,h1,h2⟩:=h;exact⟨a,xs,e,h1.elim (λh=>.inl h) KX.sq,h2⟩
theorem zil {K:Xa}{Fz:FZ}{H:Hp}{x:V}{ds:List PV}(h:Root K Fz H (.lst ds) x):∃a xs,x=.ref a/\(Rd H a (.lst xs)\/KX K a xs)/\DenL K Fz H ds xs:=by simpa only[Root]using h
theorem df {p:Prop} [Decidable p] (h:¬ p){Y:Bool->Prop}(y:Y false):Y (decide p):=by rw[decide_eq_false h];exact y
theorem dn {p:Prop} [Decidable p] (h:¬ p){Y:Bool->Prop}(y:Y true):Y (!decide p):=by rw[decide_eq_false h];exact y
section
variable {X:Cx}{pins:List (We×Obj)}{σ:St}{H:Hp}{s:Wd}{Fz Fz':FZ}
theorem zer (I:Inv X pins σ H s){a:We}{xs ys:List V}(h1:SqL X.K H a xs)(h2:SqT X.K H a ys):False:=by
 obtain⟨its,r,p,_⟩:=I.list h1;obtain⟨its2,r2,p2,_⟩:=I.tuple h2;exact SeqAt.ne_of_list_tuple p.isList (show s.heap.IsTuple a its2.toArray from p2) rfl
theorem zhj (I:Inv X pins σ H s):∀(n:Nat)(d e:PV)(x:V),plain n d=true->plain n e=true->Root X.K Fz H d x->Root X.K Fz' H e x->d=e:=by
 intro n;induction n with
 | zero=>
  intro d e x pd pe h g;cases d<;>first
   | (simp only[plain]at pd;exact absurd pd (by decide))
   | (cases e<;>first
     | (simp only[plain]at pe;exact absurd pe (by decide))
     | (simp only[Root,Den]at h g;subst h;first | (cases g;rfl) | cases g))
 | succ n ih=>
  have all:∀(ds es:List PV) (xs:List V),ds.all (plain n)=true->es.all (plain n)=true->DenL X.K Fz H ds xs->DenL X.K Fz' H es xs->ds=es:=by
   intro ds;induction ds with
   | nil=>
    intro es xs _ _ h g;simp only[DenL]at h;subst h;cases es with
    | nil=>rfl
    | cons e es=>simp only[DenL]at g;obtain⟨_,_,z,_⟩:=g;cases z
   | cons d ds ihd=>
    intro es xs pd pe h g;simp only[DenL]at h;obtain⟨v,r,z,h1,h2⟩:=h;subst z;cases es with
    | nil=>simp only[DenL]at g;cases g
    | cons e es=>
     simp only[DenL]at g;obtain⟨v',r',z,g1,g2⟩:=g;cases z;rw[List.all_cons,Yo]at pd pe;rw[ih d e v pd.1 pe.1 h1.root g1.root,ihd es r pd.2 pe.2 h2 g2]
  intro d e x pd pe h g;cases d with
  | tup ds=>
   simp only[plain]at pd;simp only[Root,Den]at h;obtain⟨a,xs,rfl,h1,h2⟩:=h;cases e with
   | tup es=>
    simp only[plain]at pe;simp only[Root,Den]at g;obtain⟨b,ys,z,g1,g2⟩:=g;cases z;have e1:=I.zeh (SqT.of h1) (SqT.of g1);subst e1;rw[all ds es xs pd pe h2 g2]
   | lst es=>
    obtain⟨b,ys,z,g1,g2⟩:=zas g;cases z;exact(zer I g1 (SqT.of h1)).elim
   | non=>simp only[Root,Den]at g;cases g
   | int i=>simp only[Root,Den]at g;cases g
   | str i=>simp only[Root,Den]at g;cases g
   | bl _=>simp only[plain]at pe;exact absurd pe (by decide)
   | ty _=>simp only[plain]at pe;exact absurd pe (by decide)
   | dK _ _=>simp only[plain]at pe;exact absurd pe (by decide)
   | dT _ _=>simp only[plain]at pe;exact absurd pe (by decide)
   | obj _ _ _=>simp only[plain]at pe;exact absurd pe (by decide)
  | lst ds=>
   simp only[plain]at pd;obtain⟨a,xs,rfl,h1,h2⟩:=zas h;cases e with
   | lst es=>
    simp only[plain]at pe;obtain⟨b,ys,z,g1,g2⟩:=zas g;cases z;have e1:=I.zeg h1 g1;subst e1;rw[all ds es xs pd pe h2 g2]
   | tup es=>
    simp only[Root,Den]at g;obtain⟨b,ys,z,g1,g2⟩:=g;cases z;exact(zer I h1 (SqT.of g1)).elim
   | non=>simp only[Root,Den]at g;cases g
   | int i=>simp only[Root,Den]at g;cases g
   | str i=>simp only[Root,Den]at g;cases g
   | bl _=>simp only[plain]at pe;exact absurd pe (by decide)
   | ty _=>simp only[plain]at pe;exact absurd pe (by decide)
   | dK _ _=>simp only[plain]at pe;exact absurd pe (by decide)
   | dT _ _=>simp only[plain]at pe;exact absurd pe (by decide)
   | obj _ _ _=>simp only[plain]at pe;exact absurd pe (by decide)
  | bl _=>simp only[plain]at pd;exact absurd pd (by decide)
  | ty _=>simp only[plain]at pd;exact absurd pd (by decide)
  | dK _ _=>simp only[plain]at pd;exact absurd pd (by decide)
  | dT _ _=>simp only[plain]at pd;exact absurd pd (by decide)
  | obj _ _ _=>simp only[plain]at pd;exact absurd pd (by decide)
  | non=>
   have h':=zck h;subst h';cases e with
   | non=>rfl
   | int i=>exact nomatch zax g
   | str i=>exact nomatch zbs g
   | tup ds=>obtain⟨_,_,z,_⟩:=zbe g;exact nomatch z
   | lst ds=>obtain⟨_,_,z,_⟩:=zas g;exact nomatch z
   | _=>simp only[plain]at pe;exact absurd pe (by decide)
  | int i=>
   have h':=zax h;subst h';cases e with
   | non=>exact nomatch zck g
   | int j=>have:=zax g;injection this with this;rw[this]
   | str i=>exact nomatch zbs g
   | tup ds=>obtain⟨_,_,z,_⟩:=zbe g;exact nomatch z
   | lst ds=>obtain⟨_,_,z,_⟩:=zas g;exact nomatch z
   | _=>simp only[plain]at pe;exact absurd pe (by decide)
  | str i=>
   have h':=zbs h;subst h';cases e with
   | non=>exact nomatch zck g
   | int j=>exact nomatch zax g
   | str j=>have:=zbs g;injection this with this;rw[this]
   | tup ds=>obtain⟨_,_,z,_⟩:=zbe g;exact nomatch z
   | lst ds=>obtain⟨_,_,z,_⟩:=zas g;exact nomatch z
   | _=>simp only[plain]at pe;exact absurd pe (by decide)
theorem zmF {ds es:List PV}{n:Nat}(hn:n=min ds.length es.length):((Xz n).all λj=>decide (ds[j]? = es[j]?))=true↔∀j,j<ds.length->j<es.length->ds[j]? = es[j]?:=by
 rw[XI];constructor
 ·intro h j h1 h2;exact of_decide_eq_true (h j (List.mem_range.mpr (by lia)))
 ·intro h j hj;have:=List.mem_range.mp hj;exact decide_eq_true (h j (by lia) (by lia))
theorem zim {ds es:List PV}(hl:ds.length=es.length):(∀j,j<ds.length->j<es.length->ds[j]? = es[j]?)↔ds=es:=by
 constructor
 ·intro h;apply List.ext_getElem?;intro j;by_cases hj:j<ds.length
  ·exact h j hj (by lia)
  ·rw[XQ (by lia),XQ (by lia)]
 ·rintro rfl _ _ _;rfl
theorem zfI (ds es:List PV):((Xz (min ds.length es.length)).all (λj=>decide (ds[j]? = es[j]?))&&ds.length == es.length)=decide (ds=es):=by
 by_cases hlen:ds.length=es.length
 ·have hb':(ds.length == es.length)=true:=by simp;lia
  rw[hb',Bool.and_true];by_cases h:ds=es
  ·rw[(zmF rfl).mpr ((zim hlen).mpr h),decide_eq_true h]
  ·rw[decide_eq_false h];cases hq:(Xz (min ds.length es.length)).all (λj=>decide (ds[j]? = es[j]?))with
   | false=>rfl
   | true=>exact absurd ((zim hlen).mp ((zmF rfl).mp hq)) h
 ·have hb':(ds.length == es.length)=false:=by rw[beq_eq_false_iff_ne];exact hlen
  rw[hb',Bool.and_false,decide_eq_false (λz=>hlen (by rw[z]))]
theorem zjl {ds es:List PV}(hlen:ds.length=es.length):((Xz ds.length).all (λj=>decide (ds[j]? = es[j]?)))=decide (ds=es):=by
 have q:=zfI ds es;rw[hlen,Nat.min_self]at q;rw[hlen];simpa using q
theorem zjY {i j:Int}:decide (PV.int i=PV.int j)=(i == j):=by
 rw[Bool.eq_iff_iff];simp
theorem zjZ {i j:Str}:decide (PV.str i=PV.str j)=(i == j):=by
 rw[Bool.eq_iff_iff];simp
theorem zoK {i j:List PV}:decide (PV.tup i=PV.tup j)=decide (i=j):=by
 rw[Bool.eq_iff_iff];simp
theorem zoL {i j:List PV}:decide (PV.lst i=PV.lst j)=decide (i=j):=by
 rw[Bool.eq_iff_iff];simp
theorem zka {A:Wu}{n:Nat}{ds es:List PV}{xs ys:List V}{its its2:List Wb}(I:Inv X pins σ H s)(r1:Vals xs its)(r2:Vals ys its2)(h1:DenL X.K Fz H ds xs)(h2:DenL X.K Fz' H es ys)(pd:ds.all (plain n)=true)(pe:es.all (plain n)=true)
  (ih:∀(d e:PV) (x y:V) (u v:Wb),plain n d=true->plain n e=true->Den X.K Fz H d x->Den X.K Fz' H e y->RelV x u->RelV y v->SeqAt.EqAt A s u v (decide (d=e))) :
  ∀j (h1:j<its.toArray.size) (h2:j<its2.toArray.size),SeqAt.EqAt A s its.toArray[j] its2.toArray[j] (decide (ds[j]? = es[j]?)):=λj h1' h2'=>by
 have l1:=r1.length;have l2:=r2.length;have l3:=h1.length;have l4:=h2.length;rw[Xj]at h1' h2';have e1:ds[j]? = some ds[j]:=Xg (by lia);have e2:es[j]? = some es[j]:=Xg (by lia);obtain⟨x,e3,q3⟩:=h1.get e1;obtain⟨y,e4,q4⟩:=h2.get e2;obtain⟨u1,q1,r1'⟩:=r1.get e3;obtain⟨u2,q2,r2'⟩:=r2.get e4;have f1:its.toArray[j]=u1:=by
  have:its[j]? = some its[j]:=Xg h1';rw[q1]at this;simpa using (Option.some.inj this).symm
 have f2:its2.toArray[j]=u2:=by
  have:its2[j]? = some its2[j]:=Xg h2';rw[q2]at this;simpa using (Option.some.inj this).symm
 rw[f1,f2];have w:decide (ds[j]=es[j])=decide (ds[j]? = es[j]?):=by
  rw[e1,e2];by_cases h:ds[j]=es[j]
  ·rw[decide_eq_true h,decide_eq_true (by rw[h])]
  ·rw[decide_eq_false h,decide_eq_false (λz=>h (Option.some.inj z))]
 rw[<- w];exact ih _ _ _ _ _ _ (XI.mp pd _ (Yd _)) (XI.mp pe _ (Yd _)) q3 q4 r1' r2'
inductive Leaf:PV->Wb->Prop
 | non:Leaf .non .none
 | int (i:Int) (t:Tok):Leaf (.int i) (.int i t)
 | str (i:Str) (t:Tok):Leaf (.str i) (.str i t)
theorem zmG {K:Xa}{Fz:FZ}{H:Hp}{d:PV}{x:V}{u:Wb}(hp:plain 0 d=true)(hx:Root K Fz H d x)(rx:RelV x u):Leaf d u:=by
 cases d with
 | non=>rw[zck hx]at rx;cases rx;exact .non
 | int i=>rw[zax hx]at rx;obtain⟨t,rfl⟩:=rx;exact .int i t
 | str i=>rw[zbs hx]at rx;obtain⟨t,rfl⟩:=rx;exact .str i t
 | _=>simp only[plain]at hp;exact absurd hp (by decide)
theorem zrl {A:Wu}{s:Wd}{d e:PV}{u v:Wb}(h1:Leaf d u)(h2:Leaf e v):SeqAt.RcAt A s u v (decide (d=e))/\SeqAt.RcNeAt A s u v (!decide (d=e))/\SeqAt.EqAt A s u v (decide (d=e)):=by
 have no:∀ {d e:PV} {u v:Wb},d≠e->SeqAt.RcAt A s u v false->SeqAt.RcNeAt A s u v true->SeqAt.EqAt A s u v false->SeqAt.RcAt A s u v (decide (d=e))/\SeqAt.RcNeAt A s u v (!decide (d=e))/\SeqAt.EqAt A s u v (decide (d=e)):=λh a b c=>by rw[decide_eq_false h];exact⟨a,b,c⟩
 cases h1<;>cases h2
 ·rw[decide_eq_true rfl];exact⟨SeqAt.RcAt.none_none,SeqAt.RcNeAt.none_none,SeqAt.EqAt.same _⟩
 ·exact no (λz=>nomatch z) (SeqAt.RcAt.none_int _ _) (SeqAt.RcNeAt.none_int _ _) (SeqAt.EqAt.none_int _ _)
 ·exact no (λz=>nomatch z) (SeqAt.RcAt.none_str _ _) (SeqAt.RcNeAt.none_str _ _) (SeqAt.EqAt.none_str _ _)
 ·exact no (λz=>nomatch z) (SeqAt.RcAt.int_none _ _) (SeqAt.RcNeAt.int_none _ _) (SeqAt.EqAt.int_none _ _)
 ·rw[zjY];exact⟨SeqAt.RcAt.int_int _ _ _ _,SeqAt.RcNeAt.int_int _ _ _ _,SeqAt.EqAt.int_int _ _ _ _⟩
 ·exact no (λz=>nomatch z) (SeqAt.RcAt.int_str _ _ _ _) (SeqAt.RcNeAt.int_str _ _ _ _) (SeqAt.EqAt.int_str _ _ _ _)
 ·exact no (λz=>nomatch z) (SeqAt.RcAt.str_none _ _) (SeqAt.RcNeAt.str_none _ _) (SeqAt.EqAt.str_none _ _)
 ·exact no (λz=>nomatch z) (SeqAt.RcAt.str_int _ _ _ _) (SeqAt.RcNeAt.str_int _ _ _ _) (SeqAt.EqAt.str_int _ _ _ _)
 ·rw[zjZ];exact⟨SeqAt.RcAt.str_str _ _ _ _,SeqAt.RcNeAt.str_str _ _ _ _,SeqAt.EqAt.str_str _ _ _ _⟩
theorem zrm (I:Inv X pins σ H s):∀(n:Nat)(A:Wu)(d e:PV)(x y:V)(u v:Wb),plain n d=true->plain n e=true->A.units+n<Wz->Root X.K Fz H d x->Root X.K Fz' H e y->RelV x u->RelV y v->
  SeqAt.RcAt A s u v (decide (d=e))/\SeqAt.RcNeAt A s u v (!decide (d=e))/\SeqAt.EqAt A s u v (decide (d=e)):=by
 intro n;induction n with
 | zero=>exact λA d e x y u v pd pe hu hx hy rx ry=>zrl (zmG pd hx rx) (zmG pe hy ry)
 | succ n ih=>
  intro A d e x y u v pd pe hu hx hy rx ry;have hA:A.units<Wz:=by lia
  have iha:∀(d e:PV) (x y:V) (u v:Wb),plain n d=true->plain n e=true->Den X.K Fz H d x->Den X.K Fz' H e y->RelV x u->RelV y v->SeqAt.EqAt A.in1 s u v (decide (d=e)):=
   λd e x y u v pd pe h1 h2 r1 r2=>(ih A.in1 d e x y u v pd pe (by show A.units+1+n<Wz;lia) h1.root h2.root r1 r2).2.2
  have lower:∀c:PV,(∀ds,c≠.tup ds)->(∀ds,c≠.lst ds)->plain (n+1) c=true->plain n c=true:=λc h1 h2 hc=>by
   cases c with
   | tup ds=>exact absurd rfl (h1 ds)
   | lst ds=>exact absurd rfl (h2 ds)
   | non=>cases n<;>rfl
   | int i=>cases n<;>rfl
   | str i=>cases n<;>rfl
   | bl _=>simp only[plain]at hc;exact absurd hc (by decide)
   | ty _=>simp only[plain]at hc;exact absurd hc (by decide)
   | dK _ _=>simp only[plain]at hc;exact absurd hc (by decide)
   | dT _ _=>simp only[plain]at hc;exact absurd hc (by decide)
   | obj _ _ _=>simp only[plain]at hc;exact absurd hc (by decide)
  have hA':A.units+n<Wz:=by lia
  cases d with
  | tup ds=>
   have hx':=hx;simp only[Root,Den]at hx;obtain⟨a,xs,rfl,ha,h1⟩:=hx;cases rx;obtain⟨its,r1,p1,z1⟩:=I.tuple (SqT.of ha);have p1':s.heap.IsTuple a its.toArray:=p1;cases e with
   | tup es=>
    have hy':=hy;simp only[Root,Den]at hy;obtain⟨b,ys,rfl,hb,h2⟩:=hy;cases ry;obtain⟨its2,r2,p2,z2⟩:=I.tuple (SqT.of hb);have p2':s.heap.IsTuple b its2.toArray:=p2;have he:=zka I r1 r2 h1 h2 (by simpa only[plain]using pd) (by simpa only[plain]using pe) iha;have w:((Xz (min its.toArray.size its2.toArray.size)).all (λj=>decide (ds[j]? = es[j]?))&&its.toArray.size == its2.toArray.size)=decide (PV.tup ds=PV.tup es):=by
     rw[Xj,Xj,<- r1.length,<- r2.length,<- h1.length,<- h2.length,zfI,zoK]
    have q:=SeqAt.RcAt.tuples p1' p2' hA he;have q':=SeqAt.RcNeAt.tuples p1' p2' hA he;rw[w]at q q';refine⟨q,q',?_⟩;by_cases hab:a=b
    ·subst hab;rw[zhj I (n+1) _ _ _ pd pe hx' hy',decide_eq_true rfl];exact SeqAt.EqAt.same _
    ·exact SeqAt.EqAt.of_refs hab q
   | lst es=>
    obtain⟨b,ys,rfl,hb,h2⟩:=zas hy;cases ry;obtain⟨its2,r2,p2,z2⟩:=I.list hb;exact⟨df (λz=>nomatch z) (SeqAt.RcAt.tuple_list p1' p2.isList hA),dn (λz=>nomatch z) (SeqAt.RcNeAt.tuple_list p1' p2.isList hA),df (λz=>nomatch z) (SeqAt.EqAt.tuple_list p1' p2.isList hA)⟩
   | non=>simp only[Root,Den]at hy;subst hy;cases ry;exact⟨df (λz=>nomatch z) (SeqAt.RcAt.tuple_none p1' hA),dn (λz=>nomatch z) (SeqAt.RcNeAt.tuple_none p1' hA),df (λz=>nomatch z) (SeqAt.EqAt.tuple_none p1' hA)⟩
   | int i=>simp only[Root,Den]at hy;subst hy;obtain⟨t,rfl⟩:=ry;exact⟨df (λz=>nomatch z) (SeqAt.RcAt.tuple_int i t p1' hA),dn (λz=>nomatch z) (SeqAt.RcNeAt.tuple_int i t p1' hA),df (λz=>nomatch z) (SeqAt.EqAt.tuple_int i t p1' hA)⟩
   | str i=>simp only[Root,Den]at hy;subst hy;obtain⟨t,rfl⟩:=ry;exact⟨df (λz=>nomatch z) (SeqAt.RcAt.tuple_str i t p1' hA),dn (λz=>nomatch z) (SeqAt.RcNeAt.tuple_str i t p1' hA),df (λz=>nomatch z) (SeqAt.EqAt.tuple_str i t p1' hA)⟩
   | bl _=>simp only[plain]at pe;exact absurd pe (by decide)
   | ty _=>simp only[plain]at pe;exact absurd pe (by decide)
   | dK _ _=>simp only[plain]at pe;exact absurd pe (by decide)
   | dT _ _=>simp only[plain]at pe;exact absurd pe (by decide)
   | obj _ _ _=>simp only[plain]at pe;exact absurd pe (by decide)
  | lst ds=>
   have hx':=hx;obtain⟨a,xs,rfl,ha,h1⟩:=zas hx;cases rx;obtain⟨its,r1,p1,z1⟩:=I.list ha;have p1':=p1.isList;cases e with
   | lst es=>
    have hy':=hy;obtain⟨b,ys,rfl,hb,h2⟩:=zas hy;cases ry;obtain⟨its2,r2,p2,z2⟩:=I.list hb;have he:=zka I r1 r2 h1 h2 (by simpa only[plain]using pd) (by simpa only[plain]using pe) iha;have l1:=r1.length;have l2:=r2.length;have l3:=h1.length;have l4:=h2.length;have key:SeqAt.RcAt A s (.ref a) (.ref b) (decide (PV.lst ds=PV.lst es))/\SeqAt.RcNeAt A s (.ref a) (.ref b) (!decide (PV.lst ds=PV.lst es)):=by
     by_cases hlen:ds.length=es.length
     ·have w:(Xz its.toArray.size).all (λj=>decide (ds[j]? = es[j]?))=decide (PV.lst ds=PV.lst es):=by
       rw[Xj,<- l1,<- l3,zjl hlen,zoL]
      have q:=SeqAt.RcAt.lists p1' p2.isList (by rw[Xj,Xj];lia) hA he;have q':=SeqAt.RcNeAt.lists p1' p2.isList (by rw[Xj,Xj];lia) hA he;rw[w]at q q';exact⟨q,q'⟩
     ·have hne:(its.toArray.size != its2.toArray.size)=true:=by rw[Xj,Xj];simp;lia
      rw[decide_eq_false (λz=>hlen (by rw[PV.lst.inj z]))];exact⟨SeqAt.RcAt.lists_lengths p1' p2.isList hne hA,SeqAt.RcNeAt.lists_lengths p1' p2.isList hne hA⟩
    refine⟨key.1,key.2,?_⟩;by_cases hab:a=b
    ·subst hab;rw[zhj I (n+1) _ _ _ pd pe hx' hy',decide_eq_true rfl];exact SeqAt.EqAt.same _
    ·exact SeqAt.EqAt.of_refs hab key.1
   | tup es=>
    simp only[Root,Den]at hy;obtain⟨b,ys,rfl,hb,h2⟩:=hy;cases ry;obtain⟨its2,r2,p2,z2⟩:=I.tuple (SqT.of hb);have p2':s.heap.IsTuple b its2.toArray:=p2;exact⟨df (λz=>nomatch z) (SeqAt.RcAt.list_tuple p1' p2' hA),dn (λz=>nomatch z) (SeqAt.RcNeAt.list_tuple p1' p2' hA),df (λz=>nomatch z) (SeqAt.EqAt.list_tuple p1' p2' hA)⟩
   | non=>simp only[Root,Den]at hy;subst hy;cases ry;exact⟨df (λz=>nomatch z) (SeqAt.RcAt.list_none p1' hA),dn (λz=>nomatch z) (SeqAt.RcNeAt.list_none p1' hA),df (λz=>nomatch z) (SeqAt.EqAt.list_none p1' hA)⟩
   | int i=>simp only[Root,Den]at hy;subst hy;obtain⟨t,rfl⟩:=ry;exact⟨df (λz=>nomatch z) (SeqAt.RcAt.list_int i t p1' hA),dn (λz=>nomatch z) (SeqAt.RcNeAt.list_int i t p1' hA),df (λz=>nomatch z) (SeqAt.EqAt.list_int i t p1' hA)⟩
   | str i=>simp only[Root,Den]at hy;subst hy;obtain⟨t,rfl⟩:=ry;exact⟨df (λz=>nomatch z) (SeqAt.RcAt.list_str i t p1' hA),dn (λz=>nomatch z) (SeqAt.RcNeAt.list_str i t p1' hA),df (λz=>nomatch z) (SeqAt.EqAt.list_str i t p1' hA)⟩
   | bl _=>simp only[plain]at pe;exact absurd pe (by decide)
   | ty _=>simp only[plain]at pe;exact absurd pe (by decide)
   | dK _ _=>simp only[plain]at pe;exact absurd pe (by decide)
   | dT _ _=>simp only[plain]at pe;exact absurd pe (by decide)
   | obj _ _ _=>simp only[plain]at pe;exact absurd pe (by decide)
  | bl _=>simp only[plain]at pd;exact absurd pd (by decide)
  | ty _=>simp only[plain]at pd;exact absurd pd (by decide)
  | dK _ _=>simp only[plain]at pd;exact absurd pd (by decide)
  | dT _ _=>simp only[plain]at pd;exact absurd pd (by decide)
  | obj _ _ _=>simp only[plain]at pd;exact absurd pd (by decide)
  | non=>
   cases e with
   | tup es=>
    simp only[Root,Den]at hx hy;subst hx;cases rx;obtain⟨b,ys,rfl,hb,h2⟩:=hy;cases ry;obtain⟨its2,r2,p2,z2⟩:=I.tuple (SqT.of hb);have p2':s.heap.IsTuple b its2.toArray:=p2;exact⟨df (λz=>nomatch z) (SeqAt.RcAt.none_tuple p2' hA),dn (λz=>nomatch z) (SeqAt.RcNeAt.none_tuple p2' hA),df (λz=>nomatch z) (SeqAt.EqAt.none_tuple p2' hA)⟩
   | lst es=>
    simp only[Root,Den]at hx;subst hx;cases rx;obtain⟨b,ys,rfl,hb,h2⟩:=zas hy;cases ry;obtain⟨its2,r2,p2,z2⟩:=I.list hb;exact⟨df (λz=>nomatch z) (SeqAt.RcAt.none_list p2.isList hA),dn (λz=>nomatch z) (SeqAt.RcNeAt.none_list p2.isList hA),df (λz=>nomatch z) (SeqAt.EqAt.none_list p2.isList hA)⟩
   | _=>exact ih A _ _ x y u v (lower _ (λ_ z=>nomatch z) (λ_ z=>nomatch z) pd) (lower _ (λ_ z=>nomatch z) (λ_ z=>nomatch z) pe) hA' hx hy rx ry
  | int i=>
   cases e with
   | tup es=>
    simp only[Root,Den]at hx hy;subst hx;obtain⟨t,rfl⟩:=rx;obtain⟨b,ys,rfl,hb,h2⟩:=hy;cases ry;obtain⟨its2,r2,p2,z2⟩:=I.tuple (SqT.of hb);have p2':s.heap.IsTuple b its2.toArray:=p2;exact⟨df (λz=>nomatch z) (SeqAt.RcAt.int_tuple i t p2' hA),dn (λz=>nomatch z) (SeqAt.RcNeAt.int_tuple i t p2' hA),df (λz=>nomatch z) (SeqAt.EqAt.int_tuple i t p2' hA)⟩
   | lst es=>
    simp only[Root,Den]at hx;subst hx;obtain⟨t,rfl⟩:=rx;obtain⟨b,ys,rfl,hb,h2⟩:=zas hy;cases ry;obtain⟨its2,r2,p2,z2⟩:=I.list hb;exact⟨df (λz=>nomatch z) (SeqAt.RcAt.int_list i t p2.isList hA),dn (λz=>nomatch z) (SeqAt.RcNeAt.int_list i t p2.isList hA),df (λz=>nomatch z) (SeqAt.EqAt.int_list i t p2.isList hA)⟩
   | _=>exact ih A _ _ x y u v (lower _ (λ_ z=>nomatch z) (λ_ z=>nomatch z) pd) (lower _ (λ_ z=>nomatch z) (λ_ z=>nomatch z) pe) hA' hx hy rx ry
  | str i=>
   cases e with
   | tup es=>
    simp only[Root,Den]at hx hy;subst hx;obtain⟨t,rfl⟩:=rx;obtain⟨b,ys,rfl,hb,h2⟩:=hy;cases ry;obtain⟨its2,r2,p2,z2⟩:=I.tuple (SqT.of hb);have p2':s.heap.IsTuple b its2.toArray:=p2;exact⟨df (λz=>nomatch z) (SeqAt.RcAt.str_tuple i t p2' hA),dn (λz=>nomatch z) (SeqAt.RcNeAt.str_tuple i t p2' hA),df (λz=>nomatch z) (SeqAt.EqAt.str_tuple i t p2' hA)⟩
   | lst es=>
    simp only[Root,Den]at hx;subst hx;obtain⟨t,rfl⟩:=rx;obtain⟨b,ys,rfl,hb,h2⟩:=zas hy;cases ry;obtain⟨its2,r2,p2,z2⟩:=I.list hb;exact⟨df (λz=>nomatch z) (SeqAt.RcAt.str_list i t p2.isList hA),dn (λz=>nomatch z) (SeqAt.RcNeAt.str_list i t p2.isList hA),df (λz=>nomatch z) (SeqAt.EqAt.str_list i t p2.isList hA)⟩
   | _=>exact ih A _ _ x y u v (lower _ (λ_ z=>nomatch z) (λ_ z=>nomatch z) pd) (lower _ (λ_ z=>nomatch z) (λ_ z=>nomatch z) pe) hA' hx hy rx ry
end
def rEqP (K:Xa)(neg:Bool):R2:=λx y H Q=>∃Fz d e,Root K Fz H d x/\Root K Fz H e y/\plain 6 d=true/\plain 6 e=true/\Q (.bl (if neg then !decide (d=e) else decide (d=e))) H
def pEq (neg:Bool):P2:=λd e Q=>plain 6 d=true/\plain 6 e=true/\Q (.bl (if neg then !decide (d=e) else decide (d=e))) .frz
section
variable {X:Cx}
theorem ztf (hu:X.A.units+16<Wz):OpR X (WJ .Eq) (rEqP X.K false):=by
 intro pins s σ H x y v u Q I rx ry h;obtain⟨Fz,d,e,hx,hy,pd,pe,q⟩:=h;exact(zrm I 6 X.A d e x y v u pd pe (by lia) hx hy rx ry).1 X.prog X.w X.xe _ ⟨.bl _,H,I,rfl,q⟩
theorem ztg (hu:X.A.units+16<Wz):OpR X (WJ .NotEq) (rEqP X.K true):=by
 intro pins s σ H x y v u Q I rx ry h;obtain⟨Fz,d,e,hx,hy,pd,pe,q⟩:=h;exact(zrm I 6 X.A d e x y v u pd pe (by lia) hx hy rx ry).2.1 X.prog X.w X.xe _ ⟨.bl _,H,I,rfl,q⟩
theorem zpY {K:Xa}{neg:Bool}:POp K (rEqP K neg) (pEq neg) where
 mono d e Q Q' m h:=⟨h.1,h.2.1,m _ _ h.2.2⟩
 run Fz H x y d e Q al rx ry h:=⟨Fz,d,e,rx,ry,h.1,h.2.1,h.2.2 _ Fz H (.val al (by simp only[Den]))⟩
end
section
variable {X:Cx}{a b c:Expr}{ta tb:TPE}{tA tB':TPT}{pos:Pos}{rest:List Expr}
structure PuW (X:Cx)(e:Expr)(t:TPT):Prop where
 mono:∀ρ Q Q',(∀b,Q b->Q' b)->t ρ Q->t ρ Q'
 run:PW X e (liftT X.K t)
theorem PuW.t {e:Expr}{t:TPT}(h:PuW X e t):PuT X e t:=⟨h.mono,h.run.pt⟩
def zdf (t u:TPT):TPT:=λρ Q=>t ρ λc=>if c=true then u ρ Q else Q false
def tOrP (t u:TPT):TPT:=λρ Q=>t ρ λc=>if c=true then Q true else u ρ Q
def zdP (t:TPT):TPT:=λρ Q=>t ρ λc=>Q (!c)
theorem PW.weak {e:Expr}{t t':TT}(h:PW X e t)(w:∀σ H Q,t' σ H Q->t σ H Q):PW X e t':=λwhole pins s σ H Q I q=>h whole pins s σ H Q I (w σ H Q q)
theorem zfo (ha:PuT X a tA):PuW X (.BoolOp .And [a] pos) tA:=⟨ha.mono,zqF ha.run⟩
theorem zfJ (ha:PuT X a tA):PuW X (.BoolOp .Or [a] pos) tA:=⟨ha.mono,zss ha.run⟩
theorem and_mono (m1:∀ρ (Q Q':Bool->Prop),(∀b,Q b->Q' b)->tA ρ Q->tA ρ Q')(m2:∀ρ (Q Q':Bool->Prop),(∀b,Q b->Q' b)->tB' ρ Q->tB' ρ Q') :
  ∀ρ (Q Q':Bool->Prop),(∀b,Q b->Q' b)->zdf tA tB' ρ Q->zdf tA tB' ρ Q':=λρ Q Q' m h=>m1 ρ _ _ (λc q=>by
 cases c with
 | true=>rw[if_pos rfl]at q ⊢;exact m2 ρ _ _ m q
 | false=>rw[if_neg Xr]at q ⊢;exact m _ q) h
theorem or_mono (m1:∀ρ (Q Q':Bool->Prop),(∀b,Q b->Q' b)->tA ρ Q->tA ρ Q')(m2:∀ρ (Q Q':Bool->Prop),(∀b,Q b->Q' b)->tB' ρ Q->tB' ρ Q') :
  ∀ρ (Q Q':Bool->Prop),(∀b,Q b->Q' b)->tOrP tA tB' ρ Q->tOrP tA tB' ρ Q':=λρ Q Q' m h=>m1 ρ _ _ (λc q=>by
 cases c with
 | false=>rw[if_neg Xr]at q ⊢;exact m2 ρ _ _ m q
 | true=>rw[if_pos rfl]at q ⊢;exact m _ q) h
theorem zhk (ha:PuT X a tA)(hb:PuW X (.BoolOp .And (b::rest) pos) tB'):PuW X (.BoolOp .And (a::b::rest) pos) (zdf tA tB') where
 mono:=and_mono ha.mono hb.mono
 run:=PW.weak (zst ha.run hb.run) λσ H Q h=>by
  obtain⟨ρ,Fz,R,h⟩:=h;refine⟨ρ,Fz,R,ha.mono ρ _ _ (λc q Fz' H' x=>?_) h⟩;cases c with
  | true=>
   rw[if_pos rfl]at q ⊢;exact⟨ρ,Fz',R.ext x,hb.mono ρ _ _ (λb q Fz2 H2 x2=>q Fz2 H2 (x.trans x2)) q⟩
  | false=>rw[if_neg Xr]at q ⊢;exact q Fz' H' x
theorem zfK (ha:PuT X a tA)(hb:PuW X (.BoolOp .Or (b::rest) pos) tB'):PuW X (.BoolOp .Or (a::b::rest) pos) (tOrP tA tB') where
 mono:=or_mono ha.mono hb.mono
 run:=PW.weak (zuy ha.run hb.run) λσ H Q h=>by
  obtain⟨ρ,Fz,R,h⟩:=h;refine⟨ρ,Fz,R,ha.mono ρ _ _ (λc q Fz' H' x=>?_) h⟩;cases c with
  | false=>
   rw[if_neg Xr]at q ⊢;exact⟨ρ,Fz',R.ext x,hb.mono ρ _ _ (λb q Fz2 H2 x2=>q Fz2 H2 (x.trans x2)) q⟩
  | true=>rw[if_pos rfl]at q ⊢;exact q Fz' H' x
theorem zhl (ha:PuT X a tA):PuT X (.UnaryOp .Not a pos) (zdP tA) where
 mono ρ Q Q' m h:=ha.mono ρ _ _ (λc q=>m _ q) h
 run:=PT.weak (zsu ha.run) λσ H Q h=>h
def TruP:PV->Bool->Prop
 | .non,k=>k=false
 | .bl b,k=>k=b
 | .int i,k=>k=(i != 0)
 | .str y,k=>y.length<=Wn/\k=((y.length:Int) != 0)
 | .tup ds,k=>k = !ds.isEmpty
 | .lst ds,k=>k = !ds.isEmpty
 | _,_=>False
def tTru (te:TPE):TPT:=λρ Q=>te ρ λd _=>∃k,TruP d k/\Q k
theorem TruP.v {K:Xa}{Fz:FZ}{H:Hp}{d:PV}{x:V}{k:Bool}(r:Root K Fz H d x)(t:TruP d k):TruV K x H k:=by
 cases d with
 | non=>cases zck r;exact t
 | bl b=>cases zeU r;exact t
 | int i=>cases zax r;exact t
 | str y=>cases zbs r;exact t
 | tup ds=>
  obtain⟨a,xs,rfl,h1,h2⟩:=zbe r;refine .inr (.inl ⟨xs,h1,?_⟩);have hl:=h2.length;have t':k = !ds.isEmpty:=t;rw[t'];cases ds<;>cases xs<;>simp_all
 | lst ds=>
  obtain⟨a,xs,rfl,h1,h2⟩:=zas r;refine .inl ⟨xs,h1,?_⟩;have hl:=h2.length;have t':k = !ds.isEmpty:=t;rw[t'];cases ds<;>cases xs<;>simp_all
 | ty _=>exact t.elim
 | dK _ _=>exact t.elim
 | dT _ _=>exact t.elim
 | obj _ _ _=>exact t.elim
theorem zfL (ha:PuE X a ta)(he:∀whole,isTrue a X.env whole=(do let v <- whole;Vq a.pos;WW [v] (truthy v)):=by intro _;rfl):PuT X a (tTru ta) where
 mono ρ Q Q' m h:=ha.mono ρ _ _ (λd k ⟨b,e,q⟩=>⟨b,e,m b q⟩) h
 run:=PT.weak (zor ha.run he) λσ H Q h=>by
  obtain⟨ρ,Fz,R,h⟩:=h;exact⟨ρ,Fz,R,ha.mono ρ _ _ (λd k ⟨b,e,q⟩ v Fz' H' p=>⟨b,TruP.v (p.root R) e,q Fz' H' p.ext⟩) h⟩
def zdQ (ta:TPE):TPE:=λρ Q=>ta ρ λd _=>∃c,d=.bl c/\Q (.bl (!c)) .frz
def zdR (ta tb:TPE):TPE:=λρ Q=>ta ρ λd _=>∃c,d=.bl c/\if c=true then tb ρ Q else Q (.bl false) .frz
theorem zth (ha:PuE X a ta):PuE X (.UnaryOp .Not a pos) (zdQ ta) where
 mono ρ Q Q' m h:=ha.mono ρ _ _ (λd k ⟨c,e,q⟩=>⟨c,e,m _ _ q⟩) h
 run:=PE.weak (zsx ha.run) λσ H Q h=>by
  obtain⟨ρ,Fz,R,h⟩:=h;refine⟨ρ,Fz,R,ha.mono ρ _ _ (λd k ⟨c,e,q⟩ v Fz' H' p=>⟨c,?_,q _ Fz' H' ⟨p.ext,by show Den _ _ _ _ _;simp only[Den]⟩⟩) h⟩;subst e;exact zeU (p.root R)
theorem zti {op}{t:TPE}(h:PuE X a t):PuE X (.BoolOp op [a] pos) t:=⟨h.mono,zsv h.run⟩
theorem ztj (ha:PuE X a ta)(hb:PuE X (.BoolOp .And (b::rest) pos) tb):PuE X (.BoolOp .And (a::b::rest) pos) (zdR ta tb) where
 mono ρ Q Q' m h:=ha.mono ρ _ _ (λd k ⟨c,e,q⟩=>⟨c,e,by
  cases c with
  | true=>rw[if_pos rfl]at q ⊢;exact hb.mono ρ _ _ m q
  | false=>rw[if_neg Xr]at q ⊢;exact m _ _ q⟩) h
 run:=PE.weak (zsw ha.run hb.run) λσ H Q h=>by
  obtain⟨ρ,Fz,R,h⟩:=h;refine⟨ρ,Fz,R,ha.mono ρ _ _ (λd k ⟨c,e,q⟩ v Fz' H' p=>⟨c,?_,?_⟩) h⟩
  ·subst e;exact zeU (p.root R)
  ·cases c with
   | true=>
    rw[if_pos rfl]at q ⊢;exact⟨ρ,Fz',R.ext p.ext,hb.mono ρ _ _ (λd k q v Fz2 H2 p2=>q v Fz2 H2 (p2.then p.ext)) q⟩
   | false=>rw[if_neg Xr]at q ⊢;exact q _ Fz' H' ⟨p.ext,by show Den _ _ _ _ _;simp only[Den]⟩
def tIfE (t:TPT)(ta tb:TPE):TPE:=λρ Q=>t ρ λc=>if c=true then ta ρ Q else tb ρ Q
theorem zhm (hc:PuT X c tA)(ha:PuE X a ta)(hb:PuE X b tb):PuE X (.IfExp c a b pos) (tIfE tA ta tb) where
 mono ρ Q Q' m h:=hc.mono ρ _ _ (λd q=>by
  cases d with
  | true=>rw[if_pos rfl]at q ⊢;exact ha.mono ρ _ _ m q
  | false=>rw[if_neg Xr]at q ⊢;exact hb.mono ρ _ _ m q) h
 run:=PE.weak (zoo hc.run ha.run hb.run) λσ H Q h=>by
  obtain⟨ρ,Fz,R,h⟩:=h;refine⟨ρ,Fz,R,hc.mono ρ _ _ (λc q Fz' H' x=>?_) h⟩;cases c with
  | true=>
   rw[if_pos rfl]at q ⊢;exact⟨ρ,Fz',R.ext x,ha.mono ρ _ _ (λd k q v Fz2 H2 p2=>q v Fz2 H2 (p2.then x)) q⟩
  | false=>
   rw[if_neg Xr]at q ⊢;exact⟨ρ,Fz',R.ext x,hb.mono ρ _ _ (λd k q v Fz2 H2 p2=>q v Fz2 H2 (p2.then x)) q⟩
end
abbrev OpdL (K:Xa)(Fz':FZ)(H':Hp)(ρ:PEnv)(σ:St)(H:Hp):List (PV×Kd)->List V->Prop:=Paired λp v=>Opd K Fz' H' ρ σ H p.1 p.2 v
def zrn (K:Xa)(t:TPA):TA:=λσ H Q=>∃ρ Fz,Rel K Fz ρ σ H/\t ρ λops=>∀vs Fz' H',Ext Fz H Fz' H'->OpdL K Fz' H' ρ σ H ops vs->Q vs H'
structure PuA (X:Cx)(es:List Expr)(t:TPA):Prop where
 mono:∀ρ Q Q',(∀ops,Q ops->Q' ops)->t ρ Q->t ρ Q'
 run:PA X es (zrn X.K t)
theorem PA.weak {X:Cx}{es:List Expr}{t t':TA}(h:PA X es t)(w:∀σ H Q,t' σ H Q->t σ H Q):PA X es t':=λpos pins s σ H Q I q=>h pos pins s σ H Q I (w σ H Q q)
def pNil:TPA:=λ_ Q=>Q []
def zaC (te:TPE)(t:TPA):TPA:=λρ Q=>te ρ λd k=>t ρ λops=>Q ((d,k)::ops)
theorem OpdL.back {K:Xa}{ρ:PEnv}{σ:St}{Fz2:FZ}{H H1 H2:Hp}(s:Same H H1):∀ {ops:List (PV×Kd)}{vs:List V},OpdL K Fz2 H2 ρ σ H1 ops vs->OpdL K Fz2 H2 ρ σ H ops vs
 | _,_,.nil=>.nil
 | _,_,.cons h t=>.cons (Opd.back s h) (OpdL.back s t)
section
variable {X:Cx}{e:Expr}{es:List Expr}{te:TPE}{t:TPA}{pos:Pos}
theorem zae:PuA X [] pNil where
 mono ρ Q Q' m h:=m _ h
 run:=PA.weak zhR λσ H Q h=>by
  obtain⟨ρ,Fz,R,h⟩:=h;exact h [] Fz H ⟨Same.refl H,λ_ h=>h,λ_ h=>.inl h,R.al⟩ .nil
theorem zab (ha:PuE X e te)(hr:PuA X es t)(hs:Wg (e::es) X.env=(false,WA e X.env)::Wg es X.env:=by rfl):PuA X (e::es) (zaC te t) where
 mono ρ Q Q' m h:=ha.mono ρ _ _ (λd k h=>hr.mono ρ _ _ (λops h=>m _ h) h) h
 run:=PA.weak (zfy ha.run hr.run hs) λσ H Q h=>by
  obtain⟨ρ,Fz,R,h⟩:=h;refine⟨ρ,Fz,R,ha.mono ρ _ _ (λd k h v Fz1 H1 p=>?_) h⟩;refine⟨ρ,Fz1,R.ext p.ext,hr.mono ρ _ _ (λops h vs Fz2 H2 x o=>?_) h⟩;exact h (v::vs) Fz2 H2 (p.ext.trans x) (.cons (Opd.ext x p.opd) (OpdL.back p.ext.same o))
end
def zlq (K:Xa)(Fz:FZ)(H:Hp):List PV->List V->Prop:=Paired (Root K Fz H)
theorem OpdL.root {K:Xa}{ρ:PEnv}{σ:St}{Fz Fz':FZ}{H H':Hp}(R:Rel K Fz ρ σ H)(x:Ext Fz H Fz' H'):∀ {ops:List (PV×Kd)}{vs:List V},OpdL K Fz' H' ρ σ H ops vs->zlq K Fz' H' (ops.map (·.1)) vs
 | _,_,.nil=>.nil
 | _,_,.cons h t=>.cons (Post.root R ⟨x,h⟩) (OpdL.root R x t)
def noOwn:List (PV×Kd)->Bool
 | []=>true
 | (_,.own _)::_=>false
 | _::r=>noOwn r
theorem OpdL.frozen {K:Xa}{ρ:PEnv}{σ:St}{Fz Fz':FZ}{H H':Hp}(x:Ext Fz H Fz' H'):∀ {ops:List (PV×Kd)}{vs:List V},noOwn ops=true->OpdL K Fz' H' ρ σ H ops vs->
  ∃Fz2,Ext Fz H Fz2 H'/\(∀b,Fz' b->Fz2 b)/\DenL K Fz2 H' (ops.map (·.1)) vs
 | _,_,_,.nil=>⟨Fz',x,λ_ h=>h,DenL.nil⟩
 | (d,k)::ops,v::vs,hn,.cons h t=>by
  cases k with
  | own i=>exact absurd hn Xr
  | frz=>
   obtain⟨F2,x2,s2,h2⟩:=OpdL.frozen x (ops:=ops) hn t;exact⟨F2,x2,s2,DenL.cons (Den.mono (Keep.of (Same.refl _)) s2 _ _ h) h2⟩
  | new=>
   obtain⟨F2,x2,s2,h2⟩:=OpdL.frozen x (ops:=ops) hn t;obtain⟨a,e,hn',_,o⟩:=h;subst e;refine⟨λb=>F2 b\/b=a,x2.add hn' (by obtain⟨o',e,_⟩:=o.at;rw[e];exact λz=>nomatch z),λb h=>.inl (s2 b h),DenL.cons ?_ (DenL.mono (Keep.of (Same.refl _)) (λb h=>.inl h) _ _ h2)⟩;exact(o.mono (Fz':=λb=>F2 b\/b=a) (Keep.of (Same.refl _)) (λb h=>.inl (s2 b h)) (λ_ h=>h)).den (.inr rfl)
def pTup (t:TPA):TPE:=λρ Q=>t ρ λops=>noOwn ops=true/\ops.length<=Wn/\Q (.tup (ops.map (·.1))) .frz
def pLst (t:TPA):TPE:=λρ Q=>t ρ λops=>noOwn ops=true/\ops.length<=Wn/\Q (.lst (ops.map (·.1))) .new
section
variable {X:Cx}{es:List Expr}{t:TPA}{pos:Pos}
theorem zgF {x1}(h:PuA X es t):PuE X (.Tuple es x1 pos) (pTup t) where
 mono ρ Q Q' m q:=h.mono ρ _ _ (λops q=>⟨q.1,q.2.1,m _ _ q.2.2⟩) q
 run:=PE.weak (zsL h.run) λσ H Q q=>by
  obtain⟨ρ,Fz,R,q⟩:=q;refine⟨ρ,Fz,R,h.mono ρ _ _ (λops q vs Fz' H' x o=>?_) q⟩;obtain⟨hn,hl,q⟩:=q;obtain⟨F2,x2,s2,h2⟩:=o.frozen x hn;have len:=h2.length;rw[Xb]at len;refine⟨by lia,λp hp=>q _ F2 _ ⟨x2.laid hp,?_⟩⟩;show Den _ _ _ _ _;simp only[Den];refine⟨p,vs,rfl,zap,DenL.mono (Keep.of (λb u e=>by rw[zak (zaB e hp)];exact e)) (λ_ h=>h) _ _ h2⟩
theorem zbg (h:PuA X es t):PuE X (.List es pos) (pLst t) where
 mono ρ Q Q' m q:=h.mono ρ _ _ (λops q=>⟨q.1,q.2.1,m _ _ q.2.2⟩) q
 run:=PE.weak (zsM h.run) λσ H Q q=>by
  obtain⟨ρ,Fz,R,q⟩:=q;refine⟨ρ,Fz,R,h.mono ρ _ _ (λops q vs Fz' H' x o=>?_) q⟩;obtain⟨hn,hl,q⟩:=q;obtain⟨F2,x2,s2,h2⟩:=o.frozen x hn;have len:=h2.length;rw[Xb]at len;refine⟨by lia,λp hp=>q _ F2 _ ⟨x2.laid hp,p,rfl,x.same.free hp,λz=>x2.al p z hp,vs,zap,?_⟩⟩;exact DenL.mono (Keep.of (λb u e=>by rw[zak (zaB e hp)];exact e)) (λ_ h=>h) _ _ h2
end
mutual
def zcl:PV->Bool
 | .tup ds=>zaX ds
 | .lst _=>false
 | .dK _ _=>false
 | .dT _ _=>false
 | .obj _ _ _=>false
 | _=>true
def zaX:List PV->Bool
 | []=>true
 | d::ds=>zcl d&&zaX ds
end
section
variable {K:Xa}{Fz Fz':FZ}{H:Hp}
mutual
theorem zin:∀(d:PV)(v:V),zcl d=true->Den K Fz H d v->Den K Fz' H d v
 | .non,v,_,h=>by simpa only[Den]using h
 | .bl b,v,_,h=>by simpa only[Den]using h
 | .int i,v,_,h=>by simpa only[Den]using h
 | .str x,v,_,h=>by simpa only[Den]using h
 | .ty n,v,_,h=>by simpa only[Den]using h
 | .tup ds,v,n,h=>by
  simp only[zcl]at n;simp only[Den]at h ⊢;obtain⟨a,xs,e,h1,h2⟩:=h;exact⟨a,xs,e,h1,zcG ds xs n h2⟩
 | .lst ds,v,n,h=>by simp only[zcl]at n;exact absurd n (by decide)
 | .dK ks ds,v,n,h=>by simp only[zcl]at n;exact absurd n (by decide)
 | .dT ks ds,v,n,h=>by simp only[zcl]at n;exact absurd n (by decide)
theorem zcG:∀(ds:List PV)(xs:List V),zaX ds=true->DenL K Fz H ds xs->DenL K Fz' H ds xs
 | [],xs,_,h=>by simpa only[DenL]using h
 | d::ds,xs,n,h=>by
  simp only[zaX,Yo]at n;simp only[DenL]at h ⊢;obtain⟨v,r,e,h1,h2⟩:=h;exact⟨v,r,e,zin d v n.1 h1,zcG ds r n.2 h2⟩
end
end
def zbE:PV->Kd->Bool
 | .lst ds,.new=>zaX ds
 | .dK _ ds,.new=>zaX ds
 | .dT _ ds,.new=>zaX ds
 | d,_=>zcl d
theorem zgG {K:Xa}{Fz Fz':FZ}{H H':Hp}{d:PV}{k:Kd}{v:V}(n:zbE d k=true)(hal:∀b,Fz' b->H b≠none)(h:Opd K Fz H' [] [] H d k v):Opd K Fz' H' [] [] H d k v:=by
 cases k with
 | frz=>
  have n':zcl d=true:=by cases d<;>exact n
  exact zin d v n' h
 | own i=>exact h
 | new=>
  obtain⟨a,e,hn,_,o⟩:=h;refine⟨a,e,hn,λz=>hal a z hn,?_⟩;cases d with
  | lst ds=>obtain⟨xs,h1,h2⟩:=o;exact⟨xs,h1,zcG ds xs n h2⟩
  | dK ks ds=>obtain⟨xs,h1,h2,h3⟩:=o;exact⟨xs,h1,h2,zcG ds xs n h3⟩
  | dT ks ds=>obtain⟨xs,h1,h2,h3⟩:=o;exact⟨xs,h1,h2,zcG ds xs n h3⟩
  | non=>exact o.elim
  | bl b=>exact o.elim
  | int i=>exact o.elim
  | str x=>exact o.elim
  | ty n=>exact o.elim
  | tup ds=>exact o.elim
  | obj C ks ds=>exact o.elim
abbrev PF:=List PV->(PV->Kd->Prop)->Prop
def zaY (F:PF):Prop:=∀ds Q Q',(∀d k,Q d k->Q' d k)->F ds Q->F ds Q'
def spP (K:Xa)(F:PF):Sp:=λvs H Q _=>∃Fz ds,(∀b,Fz b->H b≠none)/\DenL K Fz H ds vs/\F ds λd k=>∀v Fz' H',Post K [] [] Fz H Fz' H' d k v->Q v H'
theorem OpdL.all {K:Xa}{ρ:PEnv}{σ:St}{Fz Fz':FZ}{H H':Hp}(R:Rel K Fz ρ σ H)(x:Ext Fz H Fz' H'):∀ {ops:List (PV×Kd)}{vs:List V},OpdL K Fz' H' ρ σ H ops vs->
  ∃Fz2,(∀b,Fz' b->Fz2 b)/\(∀b,Fz2 b->H' b≠none)/\DenL K Fz2 H' (ops.map (·.1)) vs
 | _,_,.nil=>⟨Fz',λ_ h=>h,x.al,DenL.nil⟩
 | (d,k)::ops,v::vs,.cons h t=>by
  obtain⟨F2,s2,a2,h2⟩:=OpdL.all R x t;have addr:∀a,v=.ref a->Own K Fz' H' d a->∃Fz2,(∀b,Fz' b->Fz2 b)/\(∀b,Fz2 b->H' b≠none)/\DenL K Fz2 H' ((d,k)::ops |>.map (·.1)) (v::vs):=λa e o=>by
   subst e;refine⟨λb=>F2 b\/b=a,λb h=>.inl (s2 b h),λb hb=>?_,DenL.cons ?_ (DenL.mono (Keep.of (Same.refl _)) (λb h=>.inl h) _ _ h2)⟩
   ·rcases hb with hb | rfl
    ·exact a2 b hb
    ·obtain⟨o',e,_⟩:=o.at;rw[e];exact λz=>nomatch z
   ·exact(o.mono (Fz':=λb=>F2 b\/b=a) (Keep.of (Same.refl _)) (λb h=>.inl (s2 b h)) (λ_ h=>h)).den (.inr rfl)
  cases k with
  | frz=>exact⟨F2,s2,a2,DenL.cons (Den.mono (Keep.of (Same.refl _)) s2 _ _ h) h2⟩
  | new=>obtain⟨a,e,_,_,o⟩:=h;exact addr a e o
  | own i=>
   obtain⟨h1,h2'⟩:=h;obtain⟨a,e,_,o⟩:=(R.ext x).own i d h1;rw[h2']at e;cases e;exact addr a rfl o
def zbk (F:PF)(t:TPA):TPE:=λρ Q=>t ρ λops=>F (ops.map (·.1)) λd k=>(noOwn ops=true\/zbE d k=true)/\Q d k
section
variable {X:Cx}{k:Nat}{f:We}{fd:Wr}{ps:List Str}{F:PF}{x:Str}{p pos:Pos}{e:Expr}{es:List Expr}{t:TPA}
theorem zoM {σ:St}{H:Hp}{Q:VK}(ha:PuA X es t)(m:zaY F)(h:lift X.K (zbk F t) σ H Q):zsN (spP X.K F) [] E0 (zrn X.K t) σ H Q:=by
 obtain⟨ρ,Fz,R,h⟩:=h;refine⟨ρ,Fz,R,ha.mono ρ _ _ (λops h vs Fz' H' x o=>?_) h⟩;show spP X.K F (vs++[]) H' Q E0;rw[List.append_nil];by_cases hn:noOwn ops=true
 ·obtain⟨F2,x2,s2,h2⟩:=o.frozen x hn;refine⟨F2,ops.map (·.1),x2.al,h2,m _ _ _ (λd k q v Fz3 H3 p3=>?_) h⟩;exact q.2 v Fz3 H3 (p3.behind x2)
 ·obtain⟨F2,s2,a2,h2⟩:=o.all R x;refine⟨F2,ops.map (·.1),a2,h2,m _ _ _ (λd k q v Fz3 H3 p3=>?_) h⟩;have nm:zbE d k=true:=q.1.resolve_left hn;have al:∀b,Fz' b->H3 b≠none:=λb hb z=>x.al b hb (p3.ext.same.free z);refine q.2 v Fz' H3 ⟨⟨x.same.trans p3.ext.same,x.sub,x.new,al⟩,?_⟩;exact((zgG nm x.al p3.opd).up).back x.same
theorem zao (G:FnOk X.prog X.w X.K X.mg X.base CX0 k f fd ps (spP X.K F))(m:zaY F)(hr:Room k X.A)(hg:Gl X x)(hm:X.mg x=some (.ref f))(hk:PySem.W.keepIn X.K (.ref f)=true)(hb:Binds X.K fd ps [])(ha:PuA X (e::es) t)
  (hd:(x == ("__debug__" : Str))=false:=by decide) (he:Wg (e::es) X.env=(false,WA e X.env)::Wg es X.env:=by rfl) (hpl:(Wy pos (Wg es X.env)).any (·.1)=false:=by rfl) :
  PuE X (.Call (.Name x p) (e::es) [] pos) (zbk F t) where
 mono ρ Q Q' mm h:=ha.mono ρ _ _ (λops h=>m _ _ _ (λd k q=>⟨q.1,mm _ _ q.2⟩) h) h
 run:=PE.weak (zqR G hr hg hm hk hb .nil zlf ha.run hd he hpl) λσ H Q h=>zoM ha m h
end
structure zes (K:Xa)(r:List V->Hp->VK->Prop)(p:PF):Prop where
 mono:zaY p
 run:∀Fz H ds vs Q,(∀b,Fz b->H b≠none)->zlq K Fz H ds vs->p ds (λz k=>∀v Fz' H',Post K [] [] Fz H Fz' H' z k v->Q v H')->r vs H Q
def tB (p:PF)(t:TPA):TPE:=λρ Q=>t ρ λops=>p (ops.map (·.1)) Q
section
variable {X:Cx}{x:Str}{p pos:Pos}{e:Expr}{es:List Expr}{t:TPA}{id T:String}{r:List V->Hp->VK->Prop}{pf:PF}
theorem ztk {σ:St}{H:Hp}{Q:VK}(ha:PuA X es t)(m:zes X.K r pf)(h:lift X.K (tB pf t) σ H Q):tCB r (zrn X.K t) σ H Q:=by
 obtain⟨ρ,Fz,R,h⟩:=h;refine⟨ρ,Fz,R,ha.mono ρ _ _ (λops h vs Fz' H' x o=>?_) h⟩;exact m.run Fz' H' _ vs Q x.al (o.root R x) (m.mono _ _ _ (λd k q v Fz3 H3 p3=>q v Fz3 H3 (p3.behind x)) h)
theorem zcP (hc:zde X (.builtin id) r)(m:zes X.K r pf)(hg:Gl X x)(hm:X.mg x=none)(hv:Ww x=some (.builtin id))(ha:PuA X (e::es) t)(hn:x≠"__name__":=by decide) (hdb:(x == ("__debug__" : Str))=false:=by decide)
  (he:Wg (e::es) X.env=(false,WA e X.env)::Wg es X.env:=by rfl) (hpl:(Wy pos (Wg es X.env)).any (·.1)=false:=by rfl):PuE X (.Call (.Name x p) (e::es) [] pos) (tB pf t) where
 mono ρ Q Q' mm h:=ha.mono ρ _ _ (λops h=>m.mono _ _ _ mm h) h
 run:=PE.weak (zjM hc hg hm hv ha.run hn hdb he hpl) λσ H Q h=>ztk ha m h
theorem zet (hc:zde X (.type T) r)(m:zes X.K r pf)(hg:Gl X x)(hm:X.mg x=none)(hv:Ww x=some (.type T))(ha:PuA X (e::es) t)(hn:x≠"__name__":=by decide) (hdb:(x == ("__debug__" : Str))=false:=by decide)
  (he:Wg (e::es) X.env=(false,WA e X.env)::Wg es X.env:=by rfl) (hpl:(Wy pos (Wg es X.env)).any (·.1)=false:=by rfl):PuE X (.Call (.Name x p) (e::es) [] pos) (tB pf t) where
 mono ρ Q Q' mm h:=ha.mono ρ _ _ (λops h=>m.mono _ _ _ mm h) h
 run:=PE.weak (zhW hc hg hm hv ha.run hn hdb he hpl) λσ H Q h=>ztk ha m h
end
end PL
namespace PL
open PySem PySem.Spec L2
open PyProof.Rows hiding St
structure POut where
 nx:PEnv->Prop
 rt:PV->Kd->Prop
 bk:PEnv->Prop
 ct:PEnv->Prop
structure POut.le (O O':POut):Prop where
 nx:∀ρ,O.nx ρ->O'.nx ρ
 rt:∀d k,O.rt d k->O'.rt d k
 bk:∀ρ,O.bk ρ->O'.bk ρ
 ct:∀ρ,O.ct ρ->O'.ct ρ
abbrev TPS:=PEnv->POut->Prop
def Hold (t:TPS)(O:POut)(ρ:PEnv):Prop:=t ρ O
def ztl (c:TPT)(ρ:PEnv)(Q:Bool->Prop):Prop:=c ρ Q
theorem zbN {c:TPT}{ρ:PEnv}{Q:Bool->Prop}(h:c ρ Q):ztl c ρ Q:=h
theorem hold {t:TPS}{O:POut}{ρ:PEnv}(h:t ρ O):Hold t O ρ:=h
structure Step (ρ:PEnv)(σ:St)(Fz:FZ)(H:Hp)(Fz':FZ)(H':Hp):Prop where
 sub:∀b,Fz b->Fz' b
 new:∀b,Fz' b->Fz b\/H b=none\/zbB ρ σ b
 keep:∀b o,H b=some o->¬ zbB ρ σ b->H' b=some o
def zaG (ρ:PEnv)(σ:St)(H:Hp)(ρ':PEnv)(σ':St):Prop:=∀b,zbB ρ' σ' b->zbB ρ σ b\/H b=none
theorem Step.of {ρ:PEnv}{σ:St}{Fz Fz':FZ}{H H':Hp}(x:Ext Fz H Fz' H'):Step ρ σ Fz H Fz' H':=
 ⟨x.sub,λb h=>(x.new b h).elim .inl (λh=>.inr (.inl h)),λb o e _=>x.same b o e⟩
theorem Step.none {ρ:PEnv}{σ:St}{Fz Fz':FZ}{H H':Hp}(s:Step ρ σ Fz H Fz' H'){b:We}(h:H' b=Option.none):H b=Option.none\/zbB ρ σ b:=by
 by_cases o:zbB ρ σ b
 ·exact .inr o
 ·cases e:H b with
  | none=>exact .inl rfl
  | some u=>rw[s.keep b u e o]at h;cases h
theorem Step.trans {ρ ρ':PEnv}{σ σ':St}{F1 F2 F3:FZ}{H1 H2 H3:Hp}(a:Step ρ σ F1 H1 F2 H2)(oi:zaG ρ σ H1 ρ' σ')(b:Step ρ' σ' F2 H2 F3 H3):Step ρ σ F1 H1 F3 H3:=
 ⟨λc h=>b.sub c (a.sub c h),λc h=>by
  rcases b.new c h with h | h | h
  ·exact a.new c h
  ·exact .inr (a.none h)
  ·exact .inr ((oi c h).symm),λc o e n=>by
  refine b.keep c o (a.keep c o e n) λz=>?_;rcases oi c z with z | z
  ·exact n z
  ·rw[e]at z;cases z⟩
theorem zaG.trans {ρ ρ' ρ'':PEnv}{σ σ' σ'':St}{F1 F2:FZ}{H1 H2:Hp}(a:Step ρ σ F1 H1 F2 H2)(oi:zaG ρ σ H1 ρ' σ')(oj:zaG ρ' σ' H2 ρ'' σ''):zaG ρ σ H1 ρ'' σ'':=λc h=>by
 rcases oj c h with h | h
 ·exact oi c h
 ·exact(a.none h).symm
theorem zaG.refl (ρ:PEnv)(σ:St)(H:Hp):zaG ρ σ H ρ σ:=λ_ h=>.inl h
def Ret (K:Xa)(ρ:PEnv)(σ:St)(H:Hp)(Fz':FZ)(H':Hp)(d:PV):Kd->V->Prop
 | .frz,v=>Den K Fz' H' d v
 | .new,v=>∃a,v=.ref a/\¬ Fz' a/\Own K Fz' H' d a/\(zbB ρ σ a\/H a=none)
 | .own _,_=>False
def zgq (K:Xa)(D:Ends)(ρ:PEnv)(σ:St)(Fz:FZ)(H:Hp):POut where
 nx:=λρ'=>∀σ' Fz' H',Step ρ σ Fz H Fz' H'->zaG ρ σ H ρ' σ'->Rel K Fz' ρ' σ' H'->D.nx σ' H'
 bk:=λρ'=>∀σ' Fz' H',Step ρ σ Fz H Fz' H'->zaG ρ σ H ρ' σ'->Rel K Fz' ρ' σ' H'->D.bk σ' H'
 ct:=λρ'=>∀σ' Fz' H',Step ρ σ Fz H Fz' H'->zaG ρ σ H ρ' σ'->Rel K Fz' ρ' σ' H'->D.ct σ' H'
 rt:=λd k=>∀v Fz' H',Step ρ σ Fz H Fz' H'->(∀b,Fz' b->H' b≠none)->Ret K ρ σ H Fz' H' d k v->D.rt v H'
def zoN (K:Xa)(t:TPS):TS:=λD σ H=>∃ρ Fz,Rel K Fz ρ σ H/\t ρ (zgq K D ρ σ Fz H)
structure PuS (X:Cx)(st:WC)(t:TPS):Prop where
 mono:∀ρ O O',O.le O'->t ρ O->t ρ O'
 run:PS X st (zoN X.K t)
structure PuSs (X:Cx)(st:List WC)(t:TPS):Prop where
 mono:∀ρ O O',O.le O'->t ρ O->t ρ O'
 run:PSs X st (zoN X.K t)
theorem PS.weak {X:Cx}{e:WC}{t t':TS}(h:PS X e t)(w:∀D σ H,t' D σ H->t D σ H):PS X e t':=λpins s σ H D I q=>h pins s σ H D I (w D σ H q)
theorem PSs.weak {X:Cx}{e:List WC}{t t':TS}(h:PSs X e t)(w:∀D σ H,t' D σ H->t D σ H):PSs X e t':=λpins s σ H D I q=>h pins s σ H D I (w D σ H q)
theorem zoO {K:Xa}{D D':Ends}{ρ ρ':PEnv}{σ σ':St}{Fz Fz':FZ}{H H':Hp}(s:Step ρ σ Fz H Fz' H')(oi:zaG ρ σ H ρ' σ')(h1:∀σ H,D.nx σ H->D'.nx σ H)(h2:∀v H,D.rt v H->D'.rt v H)(h3:∀σ H,D.bk σ H->D'.bk σ H)(h4:∀σ H,D.ct σ H->D'.ct σ H) :
  (zgq K D ρ σ Fz H).le (zgq K D' ρ' σ' Fz' H') where
 nx ρ2 q σ2 F2 H2 s2 o2 R2:=h1 _ _ (q σ2 F2 H2 (s.trans oi s2) (zaG.trans s oi o2) R2)
 bk ρ2 q σ2 F2 H2 s2 o2 R2:=h3 _ _ (q σ2 F2 H2 (s.trans oi s2) (zaG.trans s oi o2) R2)
 ct ρ2 q σ2 F2 H2 s2 o2 R2:=h4 _ _ (q σ2 F2 H2 (s.trans oi s2) (zaG.trans s oi o2) R2)
 rt d k q v F2 H2 s2 al r:=h2 _ _ (q v F2 H2 (s.trans oi s2) al (by
  cases k with
  | frz=>exact r
  | own i=>exact r
  | new=>
   obtain⟨a,e,nf,o,w⟩:=r;refine⟨a,e,nf,o,?_⟩;rcases w with w | w
   ·exact oi a w
   ·exact(s.none w).symm))
theorem zcH {K:Xa}{D:Ends}{ρ ρ':PEnv}{σ σ':St}{Fz Fz':FZ}{H H':Hp}(s:Step ρ σ Fz H Fz' H')(oi:zaG ρ σ H ρ' σ'):(zgq K D ρ σ Fz H).le (zgq K D ρ' σ' Fz' H'):=
 zoO s oi (λ_ _ h=>h) (λ_ _ h=>h) (λ_ _ h=>h) (λ_ _ h=>h)
section
variable {X:Cx}{st:WC}{rest:List WC}{t u:TPS}{e:Expr}{te:TPE}{pos:Pos}
def zcQ:TPS:=λρ O=>O.nx ρ
def pSeq (t u:TPS):TPS:=λρ O=>t ρ { O with nx:=Hold u O }
theorem zaE:PuSs X [] zcQ where
 mono ρ O O' m h:=m.nx _ h
 run:=PSs.weak zqG λD σ H h=>by
  obtain⟨ρ,Fz,R,h⟩:=h;exact h σ Fz H (.of ⟨Same.refl H,λ_ h=>h,λ_ h=>.inl h,R.al⟩) (zaG.refl ρ σ H) R
theorem zag (h1:PuS X st t):PuSs X [st] t:=⟨h1.mono,zjb h1.run⟩
theorem zad (h1:PuS X st t)(h2:PuSs X rest u):PuSs X (st::rest) (pSeq t u) where
 mono ρ O O' m h:=h1.mono ρ { O with nx:=λρ'=>u ρ' O } _ ⟨λρ' q=>h2.mono ρ' _ _ m q,m.rt,m.bk,m.ct⟩ h
 run:=PSs.weak (zcj h1.run h2.run) λD σ H h=>by
  obtain⟨ρ,Fz,R,h⟩:=h;refine⟨ρ,Fz,R,h1.mono ρ { zgq X.K D ρ σ Fz H with nx:=λρ'=>u ρ' (zgq X.K D ρ σ Fz H) } _ ⟨λρ' q=>?_,λ_ _ q=>q,λ_ q=>q,λ_ q=>q⟩ h⟩;intro σ' Fz' H' s oi R';exact⟨ρ',Fz',R',h2.mono ρ' _ _ (zcH s oi) q⟩
def pRet (te:TPE):TPS:=λρ O=>te ρ λd k=>O.rt d (match k with | .frz=>.frz | _=>.new)
theorem zaq (he:PuE X e te):PuS X (.Return (some e) pos) (pRet te) where
 mono ρ O O' m h:=he.mono ρ _ _ (λ_ _ q=>m.rt _ _ q) h
 run:=PS.weak (zsy he.run) λD σ H h=>by
  obtain⟨ρ,Fz,R,h⟩:=h;refine⟨ρ,Fz,R,he.mono ρ _ _ (λd k q v Fz' H' p=>q v Fz' H' (.of p.ext) p.ext.al ?_) h⟩;cases k with
  | frz=>exact p.opd
  | new=>obtain⟨a,e,hn,nf,o⟩:=p.opd;exact⟨a,e,nf,o,.inr hn⟩
  | own i=>
   obtain⟨h1,h2⟩:=p.opd;obtain⟨a,e,nf,o⟩:=(R.ext p.ext).own i d h1;rw[h2]at e;cases e;exact⟨a,rfl,nf,o,.inl ⟨i,d,h1,h2⟩⟩
def pIf (c:TPT)(t u:TPS):TPS:=λρ O=>c ρ λb=>if b=true then Hold t O ρ else Hold u O ρ
theorem zbF {c:Expr}{a b:List WC}{tc:TPT}(hc:PuT X c tc)(ha:PuSs X a t)(hb:PuSs X b u):PuS X (.If c a b pos) (pIf tc t u) where
 mono ρ O O' m h:=hc.mono ρ _ _ (λd q=>by
  cases d with
  | true=>rw[if_pos rfl]at q ⊢;exact ha.mono ρ _ _ m q
  | false=>rw[if_neg Xr]at q ⊢;exact hb.mono ρ _ _ m q) h
 run:=PS.weak (zuD hc.run ha.run hb.run) λD σ H h=>by
  obtain⟨ρ,Fz,R,h⟩:=h;refine⟨ρ,Fz,R,hc.mono ρ _ _ (λd q Fz' H' x=>?_) h⟩;cases d with
  | true=>
   rw[if_pos rfl]at q ⊢;exact⟨ρ,Fz',R.ext x,ha.mono ρ _ _ (zcH (.of x) (zaG.refl ρ σ H)) q⟩
  | false=>
   rw[if_neg Xr]at q ⊢;exact⟨ρ,Fz',R.ext x,hb.mono ρ _ _ (zcH (.of x) (zaG.refl ρ σ H)) q⟩
def zdg (i:Nat)(ρ:PEnv):PEnv:=match ρ[i]? with
 | some (some (d,true))=>ρ.set i (some (d,false))
 | _=>ρ
def pFrz (i:Nat)(t:TPS):TPS:=λρ O=>t (zdg i ρ) O
end
section
variable {K:Xa}{Fz:FZ}{ρ:PEnv}{σ:St}{H:Hp}
theorem Rel.set {i:Nat}{d:PV}{v:V}(R:Rel K Fz ρ σ H)(h:Den K Fz H d v):Rel K Fz (ρ.set i (some (d,false))) (σ.set i (some v)) H where
 al:=R.al
 len:=by rw[Yk,Yk];exact R.len
 frz j e he:=by
  by_cases hij:i=j
  ·subst hij;by_cases hi:i<ρ.length
   ·rw[Xp hi]at he;cases he;exact⟨v,by rw[Xp (by rw[<- R.len];exact hi)],h⟩
   ·rw[XV (by lia),XQ (by lia)]at he;cases he
  ·rw[Xk hij]at he ⊢;exact R.frz j e he
 own j e he:=by
  by_cases hij:i=j
  ·subst hij;by_cases hi:i<ρ.length
   ·rw[Xp hi]at he;cases he
   ·rw[XV (by lia),XQ (by lia)]at he;cases he
  ·rw[Xk hij]at he ⊢;exact R.own j e he
 inj j k d' e a h1 h2 h3 h4:=by
  have nj:i≠j:=λz=>by
   subst z;by_cases hi:i<ρ.length
   ·rw[Xp hi]at h1;cases h1
   ·rw[XV (by lia),XQ (by lia)]at h1;cases h1
  have nk:i≠k:=λz=>by
   subst z;by_cases hi:i<ρ.length
   ·rw[Xp hi]at h2;cases h2
   ·rw[XV (by lia),XQ (by lia)]at h2;cases h2
  rw[Xk nj]at h1 h3;rw[Xk nk]at h2 h4;exact R.inj j k d' e a h1 h2 h3 h4
theorem zjm {i:Nat}{d:PV}{v:V}:∀b,zbB (ρ.set i (some (d,false))) (σ.set i (some v)) b->zbB ρ σ b:=λb ⟨j,e,h1,h2⟩=>by
 have nj:i≠j:=λz=>by
  subst z;by_cases hi:i<ρ.length
  ·rw[Xp hi]at h1;cases h1
  ·rw[XV (by lia),XQ (by lia)]at h1;cases h1
 rw[Xk nj]at h1 h2;exact⟨j,e,h1,h2⟩
theorem Rel.ztm {i:Nat}{d:PV}{a:We}(R:Rel K Fz ρ σ H)(nf:¬ Fz a)(h:Own K Fz H d a)(hno:¬ zbB ρ σ a):Rel K Fz (ρ.set i (some (d,true))) (σ.set i (some (.ref a))) H where
 al:=R.al
 len:=by rw[Yk,Yk];exact R.len
 frz j e he:=by
  by_cases hij:i=j
  ·subst hij;by_cases hi:i<ρ.length
   ·rw[Xp hi]at he;cases he
   ·rw[XV (by lia),XQ (by lia)]at he;cases he
  ·rw[Xk hij]at he ⊢;exact R.frz j e he
 own j e he:=by
  by_cases hij:i=j
  ·subst hij;by_cases hi:i<ρ.length
   ·rw[Xp hi]at he;cases he;exact⟨a,by rw[Xp (by rw[<- R.len];exact hi)],nf,h⟩
   ·rw[XV (by lia),XQ (by lia)]at he;cases he
  ·rw[Xk hij]at he ⊢;exact R.own j e he
 inj j k d' e b h1 h2 h3 h4:=by
  by_cases hj:i=j
  ·by_cases hk:i=k
   ·rw[<- hj,<- hk]
   ·subst hj;rw[Xk hk]at h2 h4;by_cases hi:i<σ.length
    ·rw[Xp hi]at h3;cases h3;exact absurd ⟨k,e,h2,h4⟩ hno
    ·rw[XV (by lia),XQ (by lia)]at h3;cases h3
  ·by_cases hk:i=k
   ·subst hk;rw[Xk hj]at h1 h3;by_cases hi:i<σ.length
    ·rw[Xp hi]at h4;cases h4;exact absurd ⟨j,d',h1,h3⟩ hno
    ·rw[XV (by lia),XQ (by lia)]at h4;cases h4
   ·rw[Xk hj]at h1 h3;rw[Xk hk]at h2 h4;exact R.inj j k d' e b h1 h2 h3 h4
theorem zlr {i:Nat}{d:PV}{a:We}:∀b,zbB (ρ.set i (some (d,true))) (σ.set i (some (.ref a))) b->b=a\/zbB ρ σ b:=λb ⟨j,e,h1,h2⟩=>by
 by_cases hij:i=j
 ·subst hij;by_cases hi:i<σ.length
  ·rw[Xp hi]at h2;cases h2;exact .inl rfl
  ·rw[XV (by lia),XQ (by lia)]at h2;cases h2
 ·rw[Xk hij]at h1 h2;exact .inr ⟨j,e,h1,h2⟩
theorem Rel.frozen {i:Nat}(R:Rel K Fz ρ σ H):∃Fz',Rel K Fz' (zdg i ρ) σ H/\Step ρ σ Fz H Fz' H/\zaG ρ σ H (zdg i ρ) σ:=by
 unfold zdg;split
 ·rename_i d he
  obtain⟨a,e,nf,o⟩:=R.own i d he;have R2:Rel K (λb=>Fz b\/b=a) (ρ.set i (some (d,false))) (σ.set i (some (.ref a))) H:=by
   have hno:∀j d',i≠j->ρ[j]? = some (some (d',true))->σ[j]?≠some (some (.ref a)):=λj d' hne h1 h2=>hne (R.inj i j d d' a he h1 e h2);have hal:∀b,(Fz b\/b=a)->H b≠none:=λb hb=>by
    rcases hb with hb | rfl
    ·exact R.al b hb
    ·obtain⟨o',q,_⟩:=o.at;rw[q];exact λz=>nomatch z
   refine⟨hal,by rw[Yk,Yk];exact R.len,λj e' he'=>?_,λj e' he'=>?_,λj k d' e' b h1 h2 h3 h4=>?_⟩
   ·by_cases hij:i=j
    ·subst hij;have hi:i<ρ.length:=(Xe.mp he).1;rw[Xp hi]at he';cases he';exact⟨_,by rw[Xp (by rw[<- R.len];exact hi)],(o.mono (Fz':=λb=>Fz b\/b=a) (Keep.of (Same.refl _)) (λ_ h=>.inl h) (λ_ h=>h)).den (.inr rfl)⟩
    ·rw[Xk hij]at he' ⊢;obtain⟨v,q1,q2⟩:=R.frz j e' he';exact⟨v,q1,Den.mono (Keep.of (Same.refl _)) (λ_ h=>.inl h) _ _ q2⟩
   ·have hij:i≠j:=λz=>by
     subst z;have hi:i<ρ.length:=(Xe.mp he).1;rw[Xp hi]at he';cases he'
    rw[Xk hij]at he' ⊢;obtain⟨b,q1,q2,q3⟩:=R.own j e' he';refine⟨b,q1,λz=>?_,q3.mono (Keep.of (Same.refl _)) (λ_ h=>.inl h) (λ_ h=>h)⟩;rcases z with z | z
    ·exact q2 z
    ·subst z;exact hno j e' hij he' q1
   ·have hi:i<ρ.length:=(Xe.mp he).1;have nj:i≠j:=λz=>by subst z;rw[Xp hi]at h1;cases h1
    have nk:i≠k:=λz=>by subst z;rw[Xp hi]at h2;cases h2
    rw[Xk nj]at h1 h3;rw[Xk nk]at h2 h4;exact R.inj j k d' e' b h1 h2 h3 h4
  have es:σ.set i (some (.ref a))=σ:=List.ext_getElem? λj=>by
   by_cases hij:i=j
   ·subst hij;rw[Xp (Xe.mp e).1,e]
   ·rw[Xk hij]
  refine⟨λb=>Fz b\/b=a,by rw[es]at R2;exact R2,⟨λ_ h=>.inl h,λb hb=>?_,λb o e _=>e⟩,λb hb=>?_⟩
  ·rcases hb with hb | rfl
   ·exact .inl hb
   ·exact .inr (.inr ⟨i,d,he,e⟩)
  ·have:=zjm (ρ:=ρ) (σ:=σ) (i:=i) (d:=d) (v:=.ref a) b (by rw[es];exact hb);exact .inl this
 ·exact⟨Fz,R,.of ⟨Same.refl H,λ_ h=>h,λ_ h=>.inl h,R.al⟩,zaG.refl ρ σ H⟩
end
section
variable {X:Cx}{st:WC}{sts:List WC}{t:TPS}
theorem zcb (i:Nat)(h:PuS X st t):PuS X st (pFrz i t) where
 mono ρ O O' m q:=h.mono _ _ _ m q
 run:=PS.weak h.run λD σ H q=>by
  obtain⟨ρ,Fz,R,q⟩:=q;obtain⟨F2,R2,s2,o2⟩:=R.frozen (i:=i);exact⟨_,F2,R2,h.mono _ _ _ (zcH s2 o2) q⟩
end
def pSet (i:Nat)(te:TPE):TPS:=λρ O=>te ρ λd k=>match k with
 | .frz=>O.nx (ρ.set i (some (d,false)))
 | .new=>O.nx (ρ.set i (some (d,true)))
 | .own _=>False
theorem zkb {X:Cx}{e:Expr}{te:TPE}{i:Nat}(he:PuE X e te){D:Ends}{σ:St}{H:Hp}(h:zoN X.K (pSet i te) D σ H):tAsg (lift X.K te) (zlU i) D σ H:=by
 obtain⟨ρ,Fz,R,h⟩:=h;refine⟨ρ,Fz,R,he.mono ρ _ _ (λd k q v Fz' H' p=>?_) h⟩;show D.nx (σ.set i (some v)) H';have R':=R.ext p.ext;cases k with
 | frz=>exact(show(zgq X.K D ρ σ Fz H).nx (ρ.set i (some (d,false))) from q) _ Fz' H' (.of p.ext) (λb hb=>.inl (zjm b hb)) (R'.set p.opd)
 | own j=>exact q.elim
 | new=>
  obtain⟨a,e,hn,nf,o⟩:=p.opd;subst e;have hno:¬ zbB ρ σ a:=λ⟨j,e,h1,h2⟩=>by
   obtain⟨b,q1,_,q2⟩:=R.own j e h1;rw[h2]at q1;cases q1;obtain⟨o',q3,_⟩:=q2.at;rw[hn]at q3;cases q3
  refine(show(zgq X.K D ρ σ Fz H).nx (ρ.set i (some (d,true))) from q) _ Fz' H' (.of p.ext) (λb hb=>?_) (R'.ztm nf o hno);rcases zlr b hb with rfl | hb
  ·exact .inr hn
  ·exact .inl hb
theorem zio {X:Cx}{e:Expr}{te:TPE}{i:Nat}(he:PuE X e te):∀ρ O O',POut.le O O'->pSet i te ρ O->pSet i te ρ O':=λρ O O' m h=>he.mono ρ _ _ (λd k q=>by
 cases k with
 | frz=>exact m.nx _ q
 | new=>exact m.nx _ q
 | own j=>exact q) h
section
variable {X:Cx}{e:Expr}{te:TPE}{pos:Pos}
theorem zah {i:Nat}{x:Str}{pos':Pos}(hN:X.N.Nodup)(hi:X.N[i]? = some x)(hx:Loc X.env.scope x)(he:PuE X e te)(hs:WF e (some (.Name x pos')) pos.line X.env=pure false:=by rfl)(hf:X.fn x=true\/X.env.scope.names.lookup x=some .local:=by first | exact .inl rfl | exact .inr rfl | assumption) :
  PuS X (.Assign [.Name x pos'] e pos) (pSet i te):=
 ⟨zio he,PS.weak (zhP hN hi hx he.run hs hf) λ_ _ _ h=>zkb he h⟩
end
abbrev TPG:=PV->PEnv->(PEnv->Prop)->Prop
abbrev TPGs:=List PV->PEnv->(PEnv->Prop)->Prop
def zmH (K:Xa)(t:TPG):TG:=λv σ H Q=>∃ρ Fz d,Rel K Fz ρ σ H/\Den K Fz H d v/\t d ρ λρ'=>∀σ',Rel K Fz ρ' σ' H->(∀b,zbB ρ' σ' b->zbB ρ σ b)->Q σ' H
def ztn (K:Xa)(t:TPGs):TGs:=λvs σ H Q=>∃ρ Fz ds,Rel K Fz ρ σ H/\DenL K Fz H ds vs/\t ds ρ λρ'=>∀σ',Rel K Fz ρ' σ' H->(∀b,zbB ρ' σ' b->zbB ρ σ b)->Q σ' H
structure PuG (X:Cx)(tg:Expr)(t:TPG):Prop where
 mono:∀d ρ Q Q',(∀ρ,Q ρ->Q' ρ)->t d ρ Q->t d ρ Q'
 run:PG X tg (zmH X.K t)
structure PuGs (X:Cx)(tgs:List Expr)(t:TPGs):Prop where
 mono:∀ds ρ Q Q',(∀ρ,Q ρ->Q' ρ)->t ds ρ Q->t ds ρ Q'
 run:PGs X tgs (ztn X.K t)
theorem PG.weak {X:Cx}{e:Expr}{t t':TG}(h:PG X e t)(w:∀v σ H Q,t' v σ H Q->t v σ H Q):PG X e t':=λpins s σ H v u Q I r q=>h pins s σ H v u Q I r (w v σ H Q q)
theorem PGs.weak {X:Cx}{e:List Expr}{t t':TGs}(h:PGs X e t)(w:∀v σ H Q,t' v σ H Q->t v σ H Q):PGs X e t':=λpins s σ H v u Q I r q=>h pins s σ H v u Q I r (w v σ H Q q)
def zbG (i:Nat):TPG:=λd ρ Q=>Q (ρ.set i (some (d,false)))
def zdC:TPGs:=λds ρ Q=>ds=[]/\Q ρ
def zbW (t:TPG)(u:TPGs):TPGs:=λds ρ Q=>∃d r,ds=d::r/\t d ρ λρ'=>u r ρ' Q
def zdD (n:Nat)(t:TPGs):TPG:=λd ρ Q=>∃ds,d=.tup ds/\ds.length=n/\t ds ρ Q
section
variable {X:Cx}{pos:Pos}
theorem zai {i:Nat}{x:Str}(hN:X.N.Nodup)(hi:X.N[i]? = some x)(hx:Loc X.env.scope x)(hf:X.fn x=true\/X.env.scope.names.lookup x=some .local:=by first | exact .inl rfl | exact .inr rfl | assumption):PuG X (.Name x pos) (zbG i) where
 mono d ρ Q Q' m h:=m _ h
 run:=PG.weak (zqH hN hi hx hf) λv σ H Q h=>by
  obtain⟨ρ,Fz,d,R,hd,h⟩:=h;exact h _ (R.set hd) (λb hb=>zjm b hb)
theorem zcv:PuGs X [] zdC where
 mono d ρ Q Q' m h:=⟨h.1,m _ h.2⟩
 run:=PGs.weak zqI λv σ H Q h=>by
  obtain⟨ρ,Fz,ds,R,hd,e,h⟩:=h;subst e;simp only[DenL]at hd;exact⟨hd,h σ R (λ_ h=>h)⟩
theorem zaA {e:Expr}{es:List Expr}{t:TPG}{u:TPGs}(h1:PuG X e t)(h2:PuGs X es u)
  (hs:(WS (e::es) X.env).map (·.2)=assign e X.env::(WS es X.env).map (·.2):=by rfl):PuGs X (e::es) (zbW t u) where
 mono ds ρ Q Q' m h:=by
  obtain⟨d,r,e,h⟩:=h;exact⟨d,r,e,h1.mono d ρ _ _ (λρ' q=>h2.mono r ρ' _ _ m q) h⟩
 run:=PGs.weak (zop h1.run h2.run hs) λvs σ H Q h=>by
  obtain⟨ρ,Fz,ds,R,hd,d,r,e,h⟩:=h;subst e;simp only[DenL]at hd;obtain⟨v,rs,e,d1,d2⟩:=hd;subst e;refine⟨v,rs,rfl,ρ,Fz,d,R,d1,h1.mono d ρ _ _ (λρ' q σ' R' o'=>?_) h⟩;exact⟨ρ',Fz,r,R',d2,h2.mono r ρ' _ _ (λρ2 q σ2 R2 o2=>q σ2 R2 (λb hb=>o' b (o2 b hb))) q⟩
theorem zdk {es:List Expr}{k:Nat}{t:TPGs}{n:Nat}(hc:X.calm=true)(h:PuGs X es t)
  (hn:(WS es X.env).length=n:=by rfl) (hst:(WS es X.env).findIdx? (·.1)=none:=by rfl):PuG X (.Tuple es k pos) (zdD n t) where
 mono d ρ Q Q' m q:=by
  obtain⟨ds,e,l,q⟩:=q;exact⟨ds,e,l,h.mono ds ρ _ _ m q⟩
 run:=PG.weak (zsz hc h.run hn hst) λv σ H Q q=>by
  obtain⟨ρ,Fz,d,R,hd,ds,e,l,q⟩:=q;subst e;simp only[Den]at hd;obtain⟨a,xs,e,h1,h2⟩:=hd;have hl:=h2.length;exact⟨a,xs,e,SqT.of h1,by lia,ρ,Fz,ds,R,h2,q⟩
end
def LocG (k:Nat)(t:TPG):Prop:=∀d ρ Q,t d ρ Q->t d ρ λρ'=>Q ρ'/\ρ'.length=ρ.length/\∀j,k<=j->ρ'[j]? = ρ[j]?
def zto (k:Nat)(t:TPGs):Prop:=∀d ρ Q,t d ρ Q->t d ρ λρ'=>Q ρ'/\ρ'.length=ρ.length/\∀j,k<=j->ρ'[j]? = ρ[j]?
theorem zaS {k i:Nat}(h:i<k):LocG k (zbG i):=λd ρ Q q=>⟨q,by rw[Yk],λj hj=>by rw[Xk (by lia)]⟩
theorem zro {k n:Nat}{t:TPGs}(h:zto k t):LocG k (zdD n t):=λd ρ Q q=>by
 obtain⟨ds,e,l,q⟩:=q;exact⟨ds,e,l,h ds ρ _ q⟩
def pUnp (te:TPE)(g:TPG):TPS:=λρ O=>te ρ λd k=>k=.frz/\g d ρ λρ'=>O.nx ρ'
theorem zrp {X:Cx}{tg e:Expr}{te:TPE}{g:TPG}{pos:Pos}(he:PuE X e te)(hg:PuG X tg g)(hs:swapsWithSole [tg] e pos.line X.env=pure false:=by rfl)(hw:swappedStores [tg] e X.env=pure none:=by rfl)
  (h1:(WS [tg] X.env).map (·.2)=[assign tg X.env]:=by rfl):PuS X (.Assign [tg] e pos) (pUnp te g) where
 mono ρ O O' m h:=he.mono ρ _ _ (λd k q=>⟨q.1,hg.mono d ρ _ _ (λρ' q=>m.nx _ q) q.2⟩) h
 run:=PS.weak (zlV he.run hg.run hs hw h1) λD σ H h=>by
  obtain⟨ρ,Fz,R,h⟩:=h;refine⟨ρ,Fz,R,he.mono ρ _ _ (λd k q v Fz' H' p=>?_) h⟩;obtain⟨rfl,q⟩:=q;exact⟨ρ,Fz',d,R.ext p.ext,p.opd,hg.mono d ρ _ _ (λρ' q σ' R' o'=>q σ' Fz' H' (.of p.ext) (λb hb=>.inl (o' b hb)) R') q⟩
abbrev TPI:=PEnv->(List PV->Bool->Prop)->Prop
def Walk (K:Xa)(Fz:FZ)(o:Bool)(J:It)(its:List PV)(H:Hp):Prop:=∀H2,(Same H H2\/(o=false/\zmD Fz H H2))->∀i:Nat,
 (∀d,its[i]? = some d->J.go i H2/\∀x H3,J.yld i H2 x H3->Same H2 H3/\Den K Fz H3 d x)/\(its.length<=i->J.stop i H2)
def ztp (K:Xa)(t:TPI):TI:=λσ H R=>∃ρ Fz,Rel K Fz ρ σ H/\t ρ λits o=>∀J Fz' H',Ext Fz H Fz' H'->Walk K Fz' o J its H'->R J H'
structure PuI (X:Cx)(tg iter:Expr)(t:TPI):Prop where
 mono:∀ρ Q Q',(∀its o,Q its o->Q' its o)->t ρ Q->t ρ Q'
 run:PI X tg iter (ztp X.K t)
theorem PI.weak {X:Cx}{tg e:Expr}{t t':TI}(h:PI X tg e t)(w:∀σ H Q,t' σ H Q->t σ H Q):PI X tg e t':=λpins s σ H Q I q=>h pins s σ H Q I (w σ H Q q)
def isOwn:Kd->Bool
 | .own _=>true
 | _=>false
def iLst (te:TPE):TPI:=λρ Q=>te ρ λd k=>∃ds,d=.lst ds/\Q ds (isOwn k)
def zdS (te:TPE):TPI:=λρ Q=>te ρ λd k=>∃ds,d=.tup ds/\Q ds false
section
variable {X:Cx}{tg e:Expr}{te:TPE}
theorem zaF (he:PuE X e te):PuI X tg e (iLst te) where
 mono ρ Q Q' m h:=he.mono ρ _ _ (λd k ⟨ds,e,q⟩=>⟨ds,e,m _ _ q⟩) h
 run:=PI.weak (zqK he.run) λσ H Rr h=>by
  obtain⟨ρ,Fz,R,h⟩:=h;refine⟨ρ,Fz,R,he.mono ρ _ _ (λd k q v Fz' H' p=>?_) h⟩;obtain⟨ds,e,q⟩:=q;subst e;have rt:=p.root R;obtain⟨a,xs,rfl,h1,h2⟩:=zas rt;refine⟨a,rfl,⟨xs,h1⟩,?_⟩;have walk:∀(F2:FZ) (o:Bool),(∀b,Fz' b->F2 b)->(∀H2,(Same H' H2\/(o=false/\zmD F2 H' H2))->SqL X.K H2 a xs/\Keep F2 H' H2)->Walk X.K F2 o (Itl X.K a) ds H':=λF2 o s2 st H2 hH i=>by
   obtain⟨g1,g2⟩:=st H2 hH;have g3:DenL X.K F2 H2 ds xs:=DenL.mono g2 (λ_ h=>h) _ _ (DenL.mono (Keep.of (Same.refl _)) s2 _ _ h2);have hl:=g3.length;refine⟨λd hd=>?_,λhi=>⟨xs,g1,by lia⟩⟩;obtain⟨v,q1,q2⟩:=g3.get hd;exact⟨⟨xs,v,g1,q1⟩,λx H3 ⟨e,y⟩=>by
    subst e;have:=y xs g1;rw[q1]at this;cases this;exact⟨Same.refl _,q2⟩⟩
  cases k with
  | own i=>exact q _ Fz' H' p.ext (walk Fz' true (λ_ h=>h) λH2 hH=>by
    rcases hH with hH | ⟨z,_⟩
    ·exact⟨hH.seq h1,.of hH⟩
    ·cases z)
  | frz=>
   have pd:Den X.K Fz' H' (.lst ds) (.ref a):=p.opd;simp only[Den]at pd;obtain⟨a',xs',e,h3,h4⟩:=pd;cases e;refine q _ Fz' H' p.ext ?_;intro H2 hH i;have kp:Keep Fz' H' H2:=hH.elim (λz=>.of z) (λz=>.mk' z.2);have g1:SqL X.K H2 a xs':=h3.elim (λh=>.inl (kp.rd trivial h.1 h.2)) KX.sq;have g3:DenL X.K Fz' H2 ds xs':=DenL.mono kp (λ_ h=>h) _ _ h4;have hl:=g3.length;refine⟨λd hd=>?_,λhi=>⟨xs',g1,by lia⟩⟩;obtain⟨v,q1,q2⟩:=g3.get hd;exact⟨⟨xs',v,g1,q1⟩,λx H3 ⟨e,y⟩=>by
    subst e;have:=y xs' g1;rw[q1]at this;cases this;exact⟨Same.refl _,q2⟩⟩
  | new=>
   obtain⟨b,e,hn,nf,o⟩:=p.opd;cases e;obtain⟨xs',o1,o2⟩:=o;refine q _ (λb=>Fz' b\/b=a) H' (p.ext.add hn (by rw[o1];exact λz=>nomatch z)) ?_;intro H2 hH i;have kp:Keep (λb=>Fz' b\/b=a) H' H2:=hH.elim (λz=>.of z) (λz=>.mk' z.2);have g1:SqL X.K H2 a xs':=.inl (kp.rd trivial (.inr rfl) (.inl o1));have g3:DenL X.K (λb=>Fz' b\/b=a) H2 ds xs':=DenL.mono kp (λ_ h=>h) _ _ (DenL.mono (Keep.of (Same.refl _)) (λ_ h=>.inl h) _ _ o2);have hl:=g3.length;refine⟨λd hd=>?_,λhi=>⟨xs',g1,by lia⟩⟩;obtain⟨v,q1,q2⟩:=g3.get hd;exact⟨⟨xs',v,g1,q1⟩,λx H3 ⟨e,y⟩=>by
    subst e;have:=y xs' g1;rw[q1]at this;cases this;exact⟨Same.refl _,q2⟩⟩
theorem zrq (he:PuE X e te):PuI X tg e (zdS te) where
 mono ρ Q Q' m h:=he.mono ρ _ _ (λd k ⟨ds,e,q⟩=>⟨ds,e,m _ _ q⟩) h
 run:=PI.weak (zsB he.run) λσ H Rr h=>by
  obtain⟨ρ,Fz,R,h⟩:=h;refine⟨ρ,Fz,R,he.mono ρ _ _ (λd k q v Fz' H' p=>?_) h⟩;obtain⟨ds,e,q⟩:=q;subst e;obtain⟨a,xs,rfl,h1,h2⟩:=zfH (p.root R);refine⟨a,rfl,⟨xs,SqT.of h1⟩,q _ Fz' H' p.ext ?_⟩;intro H2 hH i;have kp:Keep Fz' H' H2:=hH.elim (λz=>.of z) (λz=>.mk' z.2);have g1:SqT X.K H2 a xs:=kp.sqT h1;have g3:DenL X.K Fz' H2 ds xs:=DenL.mono kp (λ_ h=>h) _ _ h2;have hl:=g3.length;refine⟨λd hd=>?_,λhi=>⟨xs,g1,by lia⟩⟩;obtain⟨v,q1,q2⟩:=g3.get hd;exact⟨⟨xs,v,g1,q1⟩,λx H3 ⟨e,y⟩=>by
   subst e;have:=y xs g1;rw[q1]at this;cases this;exact⟨Same.refl _,q2⟩⟩
end
def rngP (lo:Int)(n:Nat):List PV:=(Xz n).map λ(i:Nat)=>PV.int (lo+i)
theorem zbf (lo:Int)(n:Nat):(rngP lo n).length=n:=by simp[rngP]
theorem zbV {lo:Int}{n i:Nat}{d:PV}(h:(rngP lo n)[i]? = some d):i<n/\d=.int (lo+i):=by
 have hi:i<n:=by have:=(Xe.mp h).1;rw[zbf]at this;exact this
 refine⟨hi,?_⟩;unfold rngP at h;rw[Xl,Yw hi]at h;exact(Option.some.inj h).symm
def zbm (t:TPA):TPI:=λρ Q=>t ρ λops=>∃j:Int,ops.map (·.1)=[.int j]/\-(2 ^ 62)<=j/\j<2 ^ 62/\Q (rngP 0 j.toNat) false
theorem zoP {K:Xa}{Fz:FZ}{lo:Int}{n:Nat}{H:Hp}:Walk K Fz false (Itr lo n) (rngP lo n) H:=λH2 _ i=>by
 refine⟨λd hd=>?_,λhi=>by rw[zbf]at hi;exact hi⟩;obtain⟨h1,rfl⟩:=zbV hd;exact⟨h1,λx H3 ⟨e,y⟩=>by subst e y;exact⟨Same.refl _,by simp only[Den]⟩⟩
section
variable {X:Cx}{tg a b:Expr}{t:TPA}{p pos:Pos}
theorem zaL (hg:Gl X "range") (hm:X.mg "range" = none) (ha:PuA X [a] t) (hs:Wg [a] X.env=[(false,WA a X.env)]:=by rfl):PuI X tg (.Call (.Name "range" p) [a] [] pos) (zbm t) where
 mono ρ Q Q' m h:=ha.mono ρ _ _ (λops ⟨j,e,h1,h2,q⟩=>⟨j,e,h1,h2,m _ _ q⟩) h
 run:=PI.weak (zlX hg hm ha.run hs) λσ H Rr h=>by
  obtain⟨ρ,Fz,R,h⟩:=h;refine⟨ρ,Fz,R,ha.mono ρ _ _ (λops q vs Fz' H' x o=>?_) h⟩;obtain⟨j,e,h1,h2,q⟩:=q;have rl:=o.root R x;rw[e]at rl;cases rl with
  | cons r1 r2=>
   cases r2;exact⟨j,by rw[zax r1],h1,h2,q _ Fz' H' x zoP⟩
end
def pFor (ti:TPI)(g:TPG)(tb:TPS):TPS:=λρ O=>ti ρ λits o=>o=false/\∃Inv:Nat->PEnv->Prop,Inv 0 ρ/\
 (∀i d ρ',its[i]? = some d->Inv i ρ'->g d ρ' (Hold tb { O with nx:=Inv (i+1),ct:=Inv (i+1),bk:=O.nx }))/\∀ρ',Inv its.length ρ'->O.nx ρ'
def zcn (c:TPT)(tb:TPS):TPS:=λρ O=>∃Inv:Nat->PEnv->Prop,(∃m,Inv m ρ)/\∀m ρ',Inv m ρ'->ztl c ρ' λb=>if b=true
 then Hold tb { O with nx:=λρ2=>∃m',m'<m/\Inv m' ρ2,ct:=λρ2=>∃m',m'<m/\Inv m' ρ2,bk:=O.nx } ρ' else O.nx ρ'
theorem Step.kept {K:Xa}{ρ:PEnv}{σ:St}{Fz Fz':FZ}{H H':Hp}(R:Rel K Fz ρ σ H)(s:Step ρ σ Fz H Fz' H'):zmD Fz H H':=λb o e w=>by
 refine s.keep b o e λ⟨i,d,h1,h2⟩=>?_;obtain⟨a,q1,q2,q3⟩:=R.own i d h1;rw[h2]at q1;cases q1;rcases w with w | w
 ·exact q2 w
 ·obtain⟨o',q4,q5⟩:=q3.at;rw[e]at q4;cases q4;exact q5 w
section
variable {X:Cx}{tg iter c:Expr}{body:List WC}{ti:TPI}{g:TPG}{tb:TPS}{tc:TPT}{pos:Pos}
theorem zoQ (hgm:∀d ρ Q Q',(∀ρ,Q ρ->Q' ρ)->g d ρ Q->g d ρ Q')(hbm:∀ρ O O',POut.le O O'->tb ρ O->tb ρ O'){K:Xa}{ρ:PEnv}{σ:St}{Fz1:FZ}{H1:Hp}{D:Ends}{J:It}{its:List PV}{O:POut}(R1:Rel K Fz1 ρ σ H1)(wk:Walk K Fz1 false J its H1)(Iv:Nat->PEnv->Prop)(h0:Iv 0 ρ)
  (hstep:∀i d ρ',its[i]? = some d->Iv i ρ'->g d ρ' (Hold tb { O with nx:=Iv (i+1),ct:=Iv (i+1),bk:=O.nx })) (hO:O.le (zgq K D ρ σ Fz1 H1)) (hdone:∀ρ',Iv its.length ρ'->O.nx ρ') :
  ∃W:Nat->Nat->St->Hp->Prop,(∃m,W 0 m σ H1)/\∀i m σ H,W i m σ H->
   (J.stop i H/\D.nx σ H)\/(J.go i H/\∃N:St->Hp->Prop,(∀σ' H',N σ' H'->∃m',m'<m/\W (i+1) m' σ' H')/\∀x H',J.yld i H x H'->zmH K g x σ H' λσ2 H2=>zoN K tb { D with nx:=N,ct:=N,bk:=D.nx } σ2 H2):=by
 refine⟨λi m σ' H'=>m=its.length-i/\i<=its.length/\∃ρ' F',Rel K F' ρ' σ' H'/\Iv i ρ'/\Step ρ σ Fz1 H1 F' H'/\zaG ρ σ H1 ρ' σ',
  ⟨its.length,by lia,XH _,ρ,Fz1,R1,h0,.of ⟨Same.refl _,λ_ h=>h,λ_ h=>.inl h,R1.al⟩,zaG.refl ρ σ H1⟩,?_⟩
 rintro i m σ' H' ⟨rfl,hle,ρ',F',R',hI,s',o'⟩;have kp:zmD Fz1 H1 H':=s'.kept R1;obtain⟨wgo,wstop⟩:=wk H' (.inr ⟨rfl,kp⟩) i;by_cases hlt:i<its.length
 ·obtain⟨go,yl⟩:=wgo its[i] (Xg hlt);refine .inr ⟨go,λσ2 H2=>∃ρ2 F2,Rel K F2 ρ2 σ2 H2/\Iv (i+1) ρ2/\Step ρ σ Fz1 H1 F2 H2/\zaG ρ σ H1 ρ2 σ2,λσ2 H2 hN=>⟨its.length-(i+1),by lia,rfl,hlt,hN⟩,λxv H2 y=>?_⟩;obtain⟨sm,dn⟩:=yl xv H2 y;have x2:Ext F' H' F' H2:=⟨sm,λ_ h=>h,λ_ h=>.inl h,λb hb z=>R'.al b hb (sm.free z)⟩;refine⟨ρ',F',its[i],R'.ext x2,Den.mono (Keep.of (Same.refl _)) s'.sub _ _ dn,hgm _ ρ' _ _ (λρ2 q σ2 R2 o2=>?_) (hstep i its[i] ρ' (Xg hlt) hI)⟩;have so:zaG ρ σ H1 ρ2 σ2:=λb hb=>o' b (o2 b hb);have st:Step ρ σ Fz1 H1 F' H2:=s'.trans o' (.of x2);refine⟨ρ2,F',R2,hbm ρ2 { O with nx:=Iv (i+1),ct:=Iv (i+1),bk:=O.nx } _ ⟨λρ3 q σ3 F3 H3 s3 o3 R3=>?_,λd k q v F3 H3 s3 al r=>?_,λρ3 q σ3 F3 H3 s3 o3 R3=>?_,λρ3 q σ3 F3 H3 s3 o3 R3=>?_⟩ q⟩
  ·exact⟨ρ3,F3,R3,q,st.trans so s3,zaG.trans st so o3⟩
  ·refine hO.rt d k q v F3 H3 (st.trans so s3) al ?_;cases k with
   | frz=>exact r
   | own j=>exact r
   | new=>
    obtain⟨a,e,nf,ow,w⟩:=r;refine⟨a,e,nf,ow,?_⟩;rcases w with w | w
    ·exact so a w
    ·exact(st.none w).symm
  ·exact hO.nx ρ3 q σ3 F3 H3 (st.trans so s3) (zaG.trans st so o3) R3
  ·exact⟨ρ3,F3,R3,q,st.trans so s3,zaG.trans st so o3⟩
 ·have e:i=its.length:=by lia
  subst e;exact .inl ⟨wstop (Xf _),hO.nx ρ' (hdone ρ' hI) σ' F' H' s' o' R'⟩
theorem zmI (him:∀ρ Q Q',(∀its o,Q its o->Q' its o)->ti ρ Q->ti ρ Q')(hgm:∀d ρ Q Q',(∀ρ,Q ρ->Q' ρ)->g d ρ Q->g d ρ Q')(hbm:∀ρ O O',POut.le O O'->tb ρ O->tb ρ O'):∀ρ O O',POut.le O O'->pFor ti g tb ρ O->pFor ti g tb ρ O':=λρ O O' m h=>
 him ρ _ _ (λits o ⟨e,I,h0,hs,hd⟩=>⟨e,I,h0,λi d ρ' hi hI=>hgm d ρ' _ _ (λρ2 q=>hbm ρ2 { O with nx:=I (i+1),ct:=I (i+1),bk:=O.nx } _ ⟨λ_ q=>q,m.rt,m.nx,λ_ q=>q⟩ q) (hs i d ρ' hi hI),λρ' hI=>m.nx _ (hd ρ' hI)⟩) h
theorem zaJ (hc:X.calm=true)(hp:PassesOwn (Wh X.prog X.w) X.A X.env X.xe)(hi:PuI X tg iter ti)(hg:PuG X tg g)(hb:PuSs X body tb)(hs:∀x,WQ iter X.env x=pure x:=by intro _;rfl):PuS X (.For tg iter body [] pos) (pFor ti g tb) where
 mono:=zmI hi.mono hg.mono hb.mono
 run:=PS.weak (zsC hp hc hi.run hg.run hb.run hs) λD σ H h=>by
  obtain⟨ρ,Fz,R,h⟩:=h;refine⟨ρ,Fz,R,hi.mono ρ _ _ (λits o q J Fz1 H1 x wk=>?_) h⟩;obtain⟨rfl,Iv,h0,hstep,hdone⟩:=q;exact zoQ hg.mono hb.mono (R.ext x) wk Iv h0 hstep (zcH (.of x) (zaG.refl ρ σ H)) hdone
theorem zeu (hp:PassesOwn (Wh X.prog X.w) X.A X.env X.xe)(hc:PuT X c tc)(hb:PuSs X body tb):PuS X (.While c body [] pos) (zcn tc tb) where
 mono ρ O O' m h:=by
  obtain⟨Iv,h0,h⟩:=h;refine⟨Iv,h0,λn ρ' hI=>hc.mono ρ' _ _ (λb q=>?_) (h n ρ' hI)⟩;cases b with
  | true=>rw[if_pos rfl]at q ⊢;exact hb.mono ρ' { O with nx:=λρ2=>∃m',m'<n/\Iv m' ρ2,ct:=λρ2=>∃m',m'<n/\Iv m' ρ2,bk:=O.nx } _ ⟨λ_ q=>q,m.rt,m.nx,λ_ q=>q⟩ q
  | false=>rw[if_neg Xr]at q ⊢;exact m.nx _ q
 run:=PS.weak (zjI hp hc.run hb.run) λD σ H h=>by
  obtain⟨ρ,Fz,R,Iv,⟨m0,h0⟩,h⟩:=h;refine⟨λm σ' H'=>∃ρ' F',Rel X.K F' ρ' σ' H'/\Iv m ρ'/\Step ρ σ Fz H F' H'/\zaG ρ σ H ρ' σ',
   ⟨m0,ρ,Fz,R,h0,.of ⟨Same.refl _,λ_ h=>h,λ_ h=>.inl h,R.al⟩,zaG.refl ρ σ H⟩,?_⟩
  rintro m σ' H' ⟨ρ',F',R',hI,s',o'⟩;refine⟨ρ',F',R',hc.mono ρ' _ _ (λb q F2 H2 x2=>?_) (h m ρ' hI)⟩;have st:Step ρ σ Fz H F2 H2:=s'.trans o' (.of x2);cases b with
  | true=>
   rw[if_pos rfl]at q;refine iteT ?_;refine⟨λσ3 H3=>∃m',m'<m/\∃ρ3 F3,Rel X.K F3 ρ3 σ3 H3/\Iv m' ρ3/\Step ρ σ Fz H F3 H3/\zaG ρ σ H ρ3 σ3,λσ3 H3 hN=>hN,ρ',F2,R'.ext x2,hb.mono ρ' _ _ ⟨λρ3 q σ3 F3 H3 s3 o3 R3=>?_,λd k q v F3 H3 s3 al r=>?_,λρ3 q σ3 F3 H3 s3 o3 R3=>?_,λρ3 q σ3 F3 H3 s3 o3 R3=>?_⟩ q⟩
   ·obtain⟨m',hm,hI'⟩:=q;exact⟨m',hm,ρ3,F3,R3,hI',st.trans o' s3,zaG.trans st o' o3⟩
   ·refine q v F3 H3 (st.trans o' s3) al ?_;cases k with
    | frz=>exact r
    | own j=>exact r
    | new=>
     obtain⟨a,e,nf,ow,w⟩:=r;refine⟨a,e,nf,ow,?_⟩;rcases w with w | w
     ·exact o' a w
     ·exact(st.none w).symm
   ·exact q σ3 F3 H3 (st.trans o' s3) (zaG.trans st o' o3) R3
   ·obtain⟨m',hm,hI'⟩:=q;exact⟨m',hm,ρ3,F3,R3,hI',st.trans o' s3,zaG.trans st o' o3⟩
  | false=>
   rw[if_neg Xr]at q;exact iteF (q σ' F2 H2 st o' (R'.ext x2))
end
theorem _root_.L2.Same.upd' {H H':Hp}{l:We}{o:HO}(s:Same H H')(h:H l=none):Same H (L2.upd H' l o):=λb u e=>by
 rw[zak (zaB e h)];exact s b u e
structure PuTs (X:Cx)(ifs:List Expr)(t:TPT):Prop where
 mono:∀ρ Q Q',(∀b,Q b->Q' b)->t ρ Q->t ρ Q'
 run:PTs X ifs (liftT X.K t)
def zdT:TPT:=λ_ Q=>Q true
theorem PTs.weak {X:Cx}{e:List Expr}{t t':TT}(h:PTs X e t)(w:∀σ H Q,t' σ H Q->t σ H Q):PTs X e t':=λpins s σ H Q I q=>h pins s σ H Q I (w σ H Q q)
theorem zaT {X:Cx}:PuTs X [] zdT where
 mono ρ Q Q' m h:=m _ h
 run:=PTs.weak zrd λσ H Q h=>by
  obtain⟨ρ,Fz,R,h⟩:=h;exact h Fz H ⟨Same.refl H,λ_ h=>h,λ_ h=>.inl h,R.al⟩
theorem zoR {X:Cx}{c:Expr}{t:TPT}(h:PuT X c t):PuTs X [c] t:=⟨h.mono,zre h.run⟩
def blkP (k:Nat)(js:List Nat)(ρ:PEnv):PEnv:=List.replicate k none++js.map λj=>(ρ[j]?).getD none
def zcI (k:Nat)(js:List Nat)(ti:TPI)(g:TPG)(tt:TPT)(te:TPE):TPE:=λρ Q=>ti ρ λits _=>its.length<=Wn/\∃Pv:Nat->List PV->Prop,Pv 0 []/\
 (∀i d out,its[i]? = some d->out.length<=i->Pv i out->g d (blkP k js ρ) λρ2=>tt ρ2 λb=>if b=true then te ρ2 λe ke=>isOwn ke=false/\Pv (i+1) (out++[e]) else Pv (i+1) out)/\
 ∀out,out.length<=its.length->Pv its.length out->Q (.lst out) .new
structure PBlk (X:Cx)(N:List Str)(sc:WX)(tg:Expr)(ifs:List Expr)(elt:Expr)(g:TPG)(tt:TPT)(te:TPE):Prop where
 tgt:∀C cells fp s H,PuG (cxB X N sc C cells fp s H) tg g
 tst:∀C cells fp s H,PuTs (cxB X N sc C cells fp s H) ifs tt
 val:∀C cells fp s H,PuE (cxB X N sc C cells fp s H) elt te
theorem PBlk.blk {X:Cx}{N:List Str}{sc:WX}{tg:Expr}{ifs:List Expr}{elt:Expr}{g:TPG}{tt:TPT}{te:TPE}(B:PBlk X N sc tg ifs elt g tt te):Blk X N sc tg ifs elt (zmH X.K g) (liftT X.K tt) (lift X.K te):=
 ⟨λC cells fp s H=>(B.tgt C cells fp s H).run,λC cells fp s H=>(B.tst C cells fp s H).run,λC cells fp s H=>(B.val C cells fp s H).run⟩
theorem zdU {k:Nat}{js:List Nat}{ρ:PEnv}{i:Nat}{d:PV}{b:Bool}(h:(blkP k js ρ)[i]? = some (some (d,b))):∃i' j,i=k+i'/\js[i']? = some j/\ρ[j]? = some (some (d,b)):=by
 unfold blkP at h;have hik:k<=i:=by
  by_cases hik:k<=i
  ·exact hik
  ·rw[YG (by simp;lia),List.getElem?_replicate]at h;split at h<;>cases h
 obtain⟨i',rfl⟩:∃i',i=k+i':=⟨i-k,by lia⟩;rw[Yy (by simp),List.length_replicate,show k+i'-k=i' by lia,Xl]at h;cases hj:js[i']? with
 | none=>rw[hj]at h;cases h
 | some j=>
  rw[hj]at h;refine⟨i',j,rfl,hj,?_⟩;have h':(ρ[j]?).getD none=some (d,b):=Option.some.inj h;cases q:ρ[j]? with
  | none=>rw[q]at h';cases h'
  | some o=>rw[q]at h';exact congrArg some h'
theorem zdl {k:Nat}{js:List Nat}{σ:St}{i' j:Nat}{o:Option V}(hj:js[i']? = some j)(h:σ[j]? = some o):(zem k js σ)[k+i']? = some o:=by
 unfold zem;rw[Yy (by simp),List.length_replicate,show k+i'-k=i' by lia,Xl,hj];show some ((σ[j]?).getD none)=_;rw[h];rfl
theorem Rel.block {K:Xa}{Fz:FZ}{ρ:PEnv}{σ:St}{H:Hp}{k:Nat}{js:List Nat}(R:Rel K Fz ρ σ H)(nd:js.Nodup):Rel K Fz (blkP k js ρ) (zem k js σ) H where
 al:=R.al
 len:=by unfold blkP zem;simp
 frz i d h:=by
  obtain⟨i',j,rfl,hj,h⟩:=zdU h;obtain⟨v,e,q⟩:=R.frz j d h;exact⟨v,zdl hj e,q⟩
 own i d h:=by
  obtain⟨i',j,rfl,hj,h⟩:=zdU h;obtain⟨a,e,n,q⟩:=R.own j d h;exact⟨a,zdl hj e,n,q⟩
 inj i1 i2 d e a h1 h2 h3 h4:=by
  obtain⟨i',j,rfl,hj,h1⟩:=zdU h1;obtain⟨i'',j',rfl,hj',h2⟩:=zdU h2;obtain⟨a1,e1,_,_⟩:=R.own j d h1;obtain⟨a2,e2,_,_⟩:=R.own j' e h2;rw[zdl hj e1]at h3;rw[zdl hj' e2]at h4;have ea1:a1=a:=by have:=Option.some.inj (Option.some.inj h3);injection this
  have ea2:a2=a:=by have:=Option.some.inj (Option.some.inj h4);injection this
  subst ea1;subst ea2;have ej:=R.inj j j' d e _ h1 h2 e1 e2;subst ej;have l1:i'<js.length:=(Xe.mp hj).1;have e1':i'=i'':=(List.getElem?_inj l1 nd).mp (hj.trans hj'.symm);rw[e1']
theorem zrr {ρ:PEnv}{σ:St}{k:Nat}{js:List Nat}{Fz:FZ}{K:Xa}{H:Hp}(R:Rel K Fz ρ σ H){b:We}(h:zbB (blkP k js ρ) (zem k js σ) b):zbB ρ σ b:=by
 obtain⟨i,d,h1,h2⟩:=h;obtain⟨i',j,rfl,hj,h1⟩:=zdU h1;obtain⟨a1,e1,_,_⟩:=R.own j d h1;rw[zdl hj e1]at h2;cases h2;exact⟨j,d,h1,e1⟩
theorem Rel.zmJ {K:Xa}{Fz:FZ}{ρ ρ':PEnv}{σ:St}{H:Hp}{k:Nat}{js:List Nat}(R:Rel K Fz ρ' σ H)(hl:ρ'.length=(blkP k js ρ).length)(hs:∀j,k<=j->ρ'[j]? = (blkP k js ρ)[j]?):Rel K Fz (blkP k js ρ) σ H:=by
 have tr:∀i d b,(blkP k js ρ)[i]? = some (some (d,b))->ρ'[i]? = some (some (d,b)):=λi d b h=>by
  obtain⟨i',j,rfl,_⟩:=zdU h;rw[hs _ (by lia)];exact h
 exact⟨R.al,by rw[<- hl];exact R.len,λi d h=>R.frz i d (tr _ _ _ h),λi d h=>R.own i d (tr _ _ _ h),λi j d e a h1 h2=>R.inj i j d e a (tr _ _ _ h1) (tr _ _ _ h2)⟩
theorem Rel.other {K:Xa}{Fz:FZ}{ρ:PEnv}{σ:St}{H:Hp}{l:We}{o u:HO}(R:Rel K Fz ρ σ H)(h:H l=some u)(hi:¬ Imm u)(nf:¬ Fz l)(no:¬ zbB ρ σ l):Rel K Fz ρ σ (upd H l o):=by
 have kp:Keep Fz H (upd H l o):=.mk' λb w e hw=>by
  have ne:b≠l:=λz=>by
   subst z;rcases hw with hw | hw
   ·exact nf hw
   ·rw[h]at e;cases e;exact hi hw
  rw[zak ne];exact e
 refine⟨λb hb=>?_,R.len,λi d e=>?_,λi d e=>?_,R.inj⟩
 ·have ne:b≠l:=λz=>by subst z;exact nf hb
  rw[zak ne];exact R.al b hb
 ·obtain⟨v,q1,q2⟩:=R.frz i d e;exact⟨v,q1,Den.mono kp (λ_ h=>h) _ _ q2⟩
 ·obtain⟨a,q1,q2,q3⟩:=R.own i d e;refine⟨a,q1,q2,q3.mono kp (λ_ h=>h) λw hw=>?_⟩;have ne:a≠l:=λz=>by subst z;exact no ⟨i,d,e,q1⟩
  rw[zak ne];exact hw
section
variable {X:Cx}{elt tg iter:Expr}{ifs:List Expr}{sc:WX}{pos:Pos}{N:List Str}{k:Nat}{js:List Nat}{ti:TPI}{g:TPG}{tt:TPT}{te:TPE}
theorem ziq (hi:PuI X tg iter ti)(B:PBlk X N sc tg ifs elt g tt te):∀ρ Q Q',(∀d k,Q d k->Q' d k)->zcI k js ti g tt te ρ Q->zcI k js ti g tt te ρ Q':=
 λρ Q Q' m h=>hi.mono ρ _ _ (λits o ⟨hz,Pv,h0,hs,hd⟩=>⟨hz,Pv,h0,hs,λout hl hp=>m _ _ (hd out hl hp)⟩) h
theorem zmK (nd:js.Nodup)(hloc:LocG k g)(B:PBlk X N sc tg ifs elt g tt te){ρ:PEnv}{σ:St}{H H1:Hp}{Fz1:FZ}{o:Bool}{J:It}{its:List PV}{l:We}{Rr:Hp->Prop}(R1:Rel X.K Fz1 ρ σ H1)(wk:Walk X.K Fz1 o J its H1)(hl:H1 l=none)(hz:its.length<=Wn)(Pv:Nat->List PV->Prop)(h0:Pv 0 [])
  (hstep:∀i d out,its[i]? = some d->out.length<=i->Pv i out->g d (blkP k js ρ) λρ2=>tt ρ2 λb=>if b=true then te ρ2 λe ke=>isOwn ke=false/\Pv (i+1) (out++[e]) else Pv (i+1) out)
  (hdone:∀F' out xs H',Ext Fz1 H1 F' H'->H' l=some (.lst xs)->DenL X.K F' H' out xs->¬ F' l->out.length<=its.length->Pv its.length out->Rr H') :
  zmp J (zmH X.K g) (liftT X.K tt) (lift X.K te) l (zem k js σ) H1 Rr:=by
 have mg:=(B.tgt 0 [] [] X.s₀ H).mono;have mt:=(B.tst 0 [] [] X.s₀ H).mono;have me:=(B.val 0 [] [] X.s₀ H).mono;have nf1:¬ Fz1 l:=λz=>R1.al l z hl;have no1:¬ zbB ρ σ l:=λ⟨i,d,h1,h2⟩=>by
  obtain⟨a,q1,_,q3⟩:=R1.own i d h1;rw[h2]at q1;cases q1;obtain⟨o',q4,_⟩:=q3.at;rw[hl]at q4;cases q4
 refine⟨λi m σ' H'=>m=its.length-i/\i<=its.length/\∃F' out xs,Rel X.K F' (blkP k js ρ) σ' H'/\(∀b,zbB (blkP k js ρ) σ' b->zbB ρ σ b)/\H' l=some (.lst xs)/\DenL X.K F' H' out xs/\¬ F' l/\out.length<=i/\Pv i out/\Same H1 H'/\(∀b,Fz1 b->F' b)/\(∀b,F' b->Fz1 b\/H1 b=none),
  ⟨its.length,by lia,XH _,Fz1,[],[],?_,λb hb=>zrr R1 hb,zap,DenL.nil,nf1,XH _,h0,(Same.refl H1).upd' hl,λ_ h=>h,λ_ h=>.inl h⟩,?_⟩
 ·have x0:Ext Fz1 H1 Fz1 (upd H1 l (.lst [])):=Ext.laid ⟨Same.refl _,λ_ h=>h,λ_ h=>.inl h,R1.al⟩ hl;exact(R1.block nd).ext x0
 rintro i m σ' H' ⟨rfl,hle,F',out,xs,Rb,ob,hlx,hout,nfl,hol,hP,sm,s1,s2⟩;obtain⟨wgo,wstop⟩:=wk H' (.inl sm) i;by_cases hlt:i<its.length
 ·obtain⟨go,yl⟩:=wgo its[i] (Xg hlt);refine .inr ⟨go,λxv H2 y=>?_⟩;obtain⟨sm2,dn⟩:=yl xv H2 y;have x2:Ext F' H' F' H2:=⟨sm2,λ_ h=>h,λ_ h=>.inl h,λb hb z=>Rb.al b hb (sm2.free z)⟩;refine⟨blkP k js ρ,F',its[i],Rb.ext x2,Den.mono (Keep.of (Same.refl _)) s1 _ _ dn,mg _ _ _ _ (λρ2 ⟨q,l2,a2⟩ σ2 R2 o2=>?_) (hloc _ _ _ (hstep i its[i] out (Xg hlt) hol hP))⟩;refine⟨ρ2,F',R2,mt ρ2 _ _ (λb q F4 H4 x4=>?_) q⟩;have R4:Rel X.K F4 ρ2 σ2 H4:=R2.ext x4;have own2:∀b,zbB (blkP k js ρ) σ2 b->zbB ρ σ b:=λb ⟨j,d,h1,h2⟩=>by
   refine ob b (o2 b ⟨j,d,?_,h2⟩);obtain⟨i',j',e,_⟩:=zdU h1;rw[a2 j (by lia)];exact h1
  have hl4:H4 l=some (.lst xs):=x4.same _ _ (sm2 _ _ hlx);have nf4:¬ F4 l:=λz=>by
   rcases x4.new l z with z | z
   ·exact nfl z
   ·rw[sm2 _ _ hlx]at z;cases z
  cases b with
  | false=>
   rw[if_neg Xr]at q;refine iteF ⟨its.length-(i+1),by lia,rfl,hlt,F4,out,xs,Rel.zmJ R4 l2 a2,own2,hl4,DenL.mono (.of (sm2.trans x4.same)) x4.sub _ _ hout,nf4,by lia,q,sm.trans (sm2.trans x4.same),λb hb=>x4.sub b (s1 b hb),λb hb=>?_⟩;rcases x4.new b hb with z | z
   ·exact s2 b z
   ·exact .inr (sm.free (sm2.free z))
  | true=>
   rw[if_pos rfl]at q;refine iteT ⟨ρ2,F4,R4,me ρ2 _ _ (λe ke ⟨hk,q⟩ v F5 H5 p5=>?_) q⟩;have hk':ke=.frz\/ke=.new:=by
    cases ke with
    | frz=>exact .inl rfl
    | new=>exact .inr rfl
    | own j=>cases hk
   obtain⟨F6,x6,s6,d6⟩:=p5.frozen hk';have hl5:H5 l=some (.lst xs):=x6.same _ _ hl4;have nf6:¬ F6 l:=λz=>by
    rcases x6.new l z with z | z
    ·exact nf4 z
    ·rw[hl4]at z;cases z
   have R6:Rel X.K F6 ρ2 σ2 H5:=R4.ext x6;have Rb6:Rel X.K F6 (blkP k js ρ) σ2 H5:=Rel.zmJ R6 l2 a2;have no6:¬ zbB (blkP k js ρ) σ2 l:=λz=>no1 (own2 l z);have kp:Keep F6 H5 (upd H5 l (.lst (xs++[v]))):=.mk' λb w e hw=>by
    have ne:b≠l:=λz=>by
     subst z;rcases hw with hw | hw
     ·exact nf6 hw
     ·rw[hl5]at e;cases e;exact hw
    rw[zak ne];exact e
   have hxl:=hout.length;refine⟨xs,hl5,by lia,its.length-(i+1),by lia,rfl,hlt,F6,out++[e],xs++[v],Rb6.other hl5 (λz=>z) nf6 no6,own2,zap,?_,nf6,by rw[Xm];simp;lia,q,?_,λb hb=>x6.sub b (x4.sub b (s1 b hb)),λb hb=>?_⟩
   ·exact DenL.mono kp (λ_ h=>h) _ _ (DenL.snoc (DenL.mono (.of (sm2.trans (x4.same.trans x6.same))) (λb hb=>x6.sub b (x4.sub b hb)) _ _ hout) d6)
   ·exact(sm.trans (sm2.trans (x4.same.trans x6.same))).upd' hl
   ·rcases x6.new b hb with z | z
    ·rcases x4.new b z with z | z
     ·exact s2 b z
     ·exact .inr (sm.free (sm2.free z))
    ·exact .inr (sm.free (sm2.free (x4.same.free z)))
 ·have e:i=its.length:=by lia
  subst e;exact .inl ⟨wstop (Xf _),hdone F' out xs H' ⟨sm,s1,s2,Rb.al⟩ hlx hout nfl hol hP⟩
theorem zfM (nd:js.Nodup)(hloc:LocG k g)(hi:PuI X tg iter ti)(B:PBlk X N sc tg ifs elt g tt te){σ:St}{H:Hp}{Q:VK}(h:lift X.K (zcI k js ti g tt te) σ H Q) :
  zrf k js (ztp X.K ti) (zmH X.K g) (liftT X.K tt) (lift X.K te) σ H Q:=by
 obtain⟨ρ,Fz,R,h⟩:=h;refine⟨ρ,Fz,R,hi.mono ρ _ _ (λits o q J Fz1 H1 x wk l hl=>?_) h⟩;obtain⟨hz,Pv,h0,hstep,hdone⟩:=q;refine zmK (H:=H) nd hloc B (R.ext x) wk hl hz Pv h0 hstep λF' out xs H' x' hlx hout nfl hol hP=>?_;exact hdone out hol hP _ F' H' ⟨x.trans x',l,rfl,x.same.free hl,nfl,xs,hlx,hout⟩
theorem zbQ (hc:X.calm=true)(S:zcN X N k js sc)(nd:js.Nodup)(hloc:LocG k g)(hi:PuI X tg iter ti)(B:PBlk X N sc tg ifs elt g tt te)(hs:∀x,WQ iter X.env x=pure x:=by intro _;rfl) :
  PuE X (.ListComp elt [⟨tg,iter,ifs,0⟩] sc pos) (zcI k js ti g tt te):=
 ⟨ziq hi B,PE.weak (zrg hc S hi.run B.blk hs) λ_ _ _ h=>zfM nd hloc hi B h⟩
theorem zfp {i:Nat}{x:Str}{pos' pos2:Pos}(hc:X.calm=true)(S:zcN X N k js sc)(nd:js.Nodup)(hloc:LocG k g)(hi:PuI X tg iter ti)(B:PBlk X N sc tg ifs elt g tt te)(hN:X.N.Nodup)(hx:X.N[i]? = some x)(hk:X.env.scope.names.lookup x=some .local)
  (hsw:WF (.ListComp elt [⟨tg,iter,ifs,0⟩] sc pos) (some (.Name x pos')) pos2.line X.env=pure true:=by rfl) (hs:∀x,WQ iter X.env x=pure x:=by intro _;rfl) :
  PuS X (.Assign [.Name x pos'] (.ListComp elt [⟨tg,iter,ifs,0⟩] sc pos) pos2) (pSet i (zcI k js ti g tt te)) where
 mono:=zio (zbQ (pos:=pos) hc S nd hloc hi B hs)
 run:=PS.weak (zmq hc S hi.run B.blk hN hx hk hsw hs) λD σ H h=>by
  have q:=zkb (zbQ (pos:=pos) hc S nd hloc hi B hs) h;exact zfM nd hloc hi B q
end
def zaM (N:List Str)(ds:List PV):PEnv:=ds.map (λd=>some (d,false))++List.replicate (N.length-ds.length) none
def zbX (Q:PV->Kd->Prop):POut:=⟨λ_=>Q .non .frz,Q,λ_=>False,λ_=>False⟩
theorem zrs {K:Xa}{F:PF}{ps:List Str}(h:∀ds Q,F ds Q->ds.length=ps.length):∀vs H Q E,spP K F vs H Q E->vs.length=ps.length:=λvs H Q E ⟨Fz,ds,_,hd,q⟩=>by rw[<- hd.length];exact h _ _ q
theorem zfN {K:Xa}{Fz:FZ}{H:Hp}{N:List Str}{ds:List PV}{vs:List V}(al:∀b,Fz b->H b≠none)(h:DenL K Fz H ds vs):Rel K Fz (zaM N ds) (start N vs) H/\∀σ b,¬ zbB (zaM N ds) σ b:=by
 have hl:=h.length;have get:∀(i:Nat) (d:PV) (b:Bool),(zaM N ds)[i]? = some (some (d,b))->b=false/\ds[i]? = some d:=λi d b e=>by
  unfold zaM at e;by_cases hi:i<ds.length
  ·rw[YG (by simpa using hi),Xl,Xg hi]at e;have e':(some (ds[i],false):Option (PV×Bool))=some (d,b):=Option.some.inj e;have e2:=Option.some.inj e';exact⟨(congrArg Prod.snd e2).symm,by rw[Xg hi];exact congrArg some (congrArg Prod.fst e2)⟩
  ·rw[Yy (by simpa using hi),List.getElem?_replicate]at e;split at e<;>cases e
 refine⟨⟨al,by unfold zaM L2.start;simp[hl],λi d e=>?_,λi d e=>?_,λi j d e a h1=>?_⟩,λσ b ⟨i,d,e,_⟩=>?_⟩
 ·obtain⟨_,e'⟩:=get i d false e;obtain⟨v,q1,q2⟩:=h.get e';have hi:i<vs.length:=(Xe.mp q1).1;refine⟨v,?_,q2⟩;unfold L2.start;rw[YG (by simpa using hi),Xl,q1];rfl
 ·exact absurd (get i d true e).1 (by decide)
 ·exact absurd (get i d true h1).1 (by decide)
 ·exact absurd (get i d true e).1 (by decide)
section
variable {P:Wl}{w:Wt}{K:Xa}{mg:Str->Option Wb}{base:Heap}
theorem zat {x qual:Str}{st:WC}{f:We}{fd:Wr}{N ps:List Str}{k:Nat}{F:PF}(Fn:Fun K x qual st f fd)(S:zan N ps (zac st))(len:∀ds Q,F ds Q->ds.length=ps.length)
  (hbody:∀(cdv:Wb) (A:Wu) (outer:List Env) (s:Wd) (H:Hp) (E:XK),Room k (A.deeper (WB qual (zac st) s.heap.objs.size f cdv))->
   ∃t,PuSs (cxOf CX0 P w K mg base N qual (zac st) f cdv A outer s H E).nox (zaj st) t/\∀ds Q,F ds Q->t (zaM N ds) (zbX Q)):FnOk P w K mg base CX0 (k+1) f fd ps (spP K F):=by
 refine Fn.ok S (zrs len) (λcdv A outer s H vs Q E hr h=>?_);obtain⟨t,ht,hq⟩:=hbody cdv A outer s H E hr;obtain⟨Fz,ds,al,hd,h⟩:=h;obtain⟨R,no⟩:=zfN (N:=N) al hd;refine⟨_,ht.run,zaM N ds,Fz,R,ht.mono _ (zbX _) _ ⟨λρ' q σ' F' H' s' o' R'=>?_,λd k q v F' H' s' al' r=>?_,λ_ z=>z.elim,λ_ z=>z.elim⟩ (hq ds _ h)⟩
 ·exact q .non F' H' ⟨⟨λb o e=>s'.keep b o e (no _ b),s'.sub,λb hb=>(s'.new b hb).elim .inl (λz=>z.elim .inr (λz=>(no _ b z).elim)),R'.al⟩,by show Den _ _ _ _ _;simp only[Den]⟩
 ·refine q v F' H' ⟨⟨λb o e=>s'.keep b o e (no _ b),s'.sub,λb hb=>(s'.new b hb).elim .inl (λz=>z.elim .inr (λz=>(no _ b z).elim)),al'⟩,?_⟩;cases k with
  | frz=>exact r
  | own i=>exact r.elim
  | new=>
   obtain⟨a,e,nf,o,w⟩:=r;exact⟨a,e,w.resolve_left (no _ a),nf,o⟩
end
theorem Rel.mut {K:Xa}{Fz:FZ}{ρ:PEnv}{σ:St}{H:Hp}{i:Nat}{d d':PV}{a:We}{o u:HO}(R:Rel K Fz ρ σ H)(hi:ρ[i]? = some (some (d,true)))(hs:σ[i]? = some (some (.ref a)))(hu:H a=some u)
  (ho:Own K Fz (upd H a o) d' a):Rel K Fz (ρ.set i (some (d',true))) σ (upd H a o)/\Step ρ σ Fz H Fz (upd H a o)/\zaG ρ σ H (ρ.set i (some (d',true))) σ:=by
 obtain⟨a',e',nf,ow⟩:=R.own i d hi;rw[hs]at e';cases e';have hil:i<ρ.length:=(Xe.mp hi).1;have im:¬ Imm u:=by obtain⟨o',q1,q2⟩:=ow.at;rw[hu]at q1;cases q1;exact q2
 have kp:Keep Fz H (upd H a o):=.mk' λb w e hw=>by
  have ne:b≠a:=λz=>by
   subst z;rcases hw with hw | hw
   ·exact nf hw
   ·rw[hu]at e;cases e;exact im hw
  rw[zak ne];exact e
 have st:∀j e,(ρ.set i (some (d',true)))[j]? = some (some (e,true))->∃e0,ρ[j]? = some (some (e0,true)):=λj e h=>by
  by_cases hij:i=j
  ·subst hij;exact⟨d,hi⟩
  ·rw[Xk hij]at h;exact⟨e,h⟩
 refine⟨⟨λb hb=>?_,by rw[Yk];exact R.len,λj e h=>?_,λj e h=>?_,λj k e1 e2 b h1 h2 h3 h4=>?_⟩,⟨λ_ h=>h,λ_ h=>.inl h,λb w e n=>?_⟩,λb ⟨j,e,h1,h2⟩=>?_⟩
 ·have ne:b≠a:=λz=>by subst z;exact nf hb
  rw[zak ne];exact R.al b hb
 ·by_cases hij:i=j
  ·subst hij;rw[Xp hil]at h;cases h
  ·rw[Xk hij]at h;obtain⟨v,q1,q2⟩:=R.frz j e h;exact⟨v,q1,Den.mono kp (λ_ h=>h) _ _ q2⟩
 ·by_cases hij:i=j
  ·subst hij;rw[Xp hil]at h;cases h;exact⟨a,hs,nf,ho⟩
  ·rw[Xk hij]at h;obtain⟨b,q1,q2,q3⟩:=R.own j e h;refine⟨b,q1,q2,q3.mono kp (λ_ h=>h) λw hw=>?_⟩;have ne:b≠a:=λz=>by subst z;exact hij (R.inj i j d e _ hi h hs q1)
   rw[zak ne];exact hw
 ·obtain⟨e1',g1⟩:=st j e1 h1;obtain⟨e2',g2⟩:=st k e2 h2;exact R.inj j k e1' e2' b g1 g2 h3 h4
 ·have ne:b≠a:=λz=>by subst z;exact n ⟨i,d,hi,hs⟩
  rw[zak ne];exact e
 ·obtain⟨e',g⟩:=st j e h1;exact .inl ⟨j,e',g,h2⟩
abbrev TPM:=PEnv->(PV->PEnv->Prop)->Prop
def liftM (K:Xa)(t:TPM):TE:=λσ H Q=>∃ρ Fz,Rel K Fz ρ σ H/\t ρ λd ρ'=>∀v Fz' H',Step ρ σ Fz H Fz' H'->zaG ρ σ H ρ' σ->Rel K Fz' ρ' σ H'->Den K Fz' H' d v->Q v H'
structure PuM (X:Cx)(e:Expr)(t:TPM):Prop where
 mono:∀ρ Q Q',(∀d ρ,Q d ρ->Q' d ρ)->t ρ Q->t ρ Q'
 run:PE X e (liftM X.K t)
def mApp (i:Nat)(te:TPE):TPM:=λρ Q=>∃ds,ρ[i]? = some (some (.lst ds,true))/\ds.length<Wn/\te ρ λd k=>isOwn k=false/\Q .non (ρ.set i (some (.lst (ds++[d]),true)))
def zdV (i:Nat)(te:TPE):TPM:=λρ Q=>∃ds,ρ[i]? = some (some (.lst ds,true))/\te ρ λd _=>∃es,d=.tup es/\ds.length+es.length<=Wn/\Q .non (ρ.set i (some (.lst (ds++es),true)))
theorem zhn {K:Xa}{Fz:FZ}{ρ:PEnv}{σ:St}{H:Hp}{i:Nat}{ds:List PV}(R:Rel K Fz ρ σ H)(h:ρ[i]? = some (some (.lst ds,true))):∃a xs,σ[i]? = some (some (.ref a))/\H a=some (.lst xs)/\DenL K Fz H ds xs/\¬ Fz a:=by
 obtain⟨a,e,nf,xs,h1,h2⟩:=R.own i _ h;exact⟨a,xs,e,h1,h2,nf⟩
theorem DenL.rew {K:Xa}{Fz:FZ}{H:Hp}{ds:List PV}{xs ys:List V}{a:We}{o:HO}(ha:H a=some (.lst ys))(nf:¬ Fz a)(h:DenL K Fz H ds xs):DenL K Fz (upd H a o) ds xs:=
 DenL.mono (.mk' λb w e hw=>by
  have ne:b≠a:=λz=>by
   subst z;rcases hw with hw | hw
   ·exact nf hw
   ·rw[ha]at e;cases e;exact hw
  rw[zak ne];exact e) (λ_ h=>h) _ _ h
section
variable {X:Cx}{x:Str}{e:Expr}{te:TPE}{tm:TPM}{p apos cpos:Pos}
theorem zaH (i:Nat)(he:PuE X e te)(hN:X.N[i]? = some x:=by rfl)(hv:Vis X.env.scope x:=by first | exact Or.inl rfl | exact Or.inr (Or.inl rfl) | exact Or.inr (Or.inr rfl))(hd:(x == ("__debug__" : Str))=false:=by decide) (hcd:(x == ("__classdict__" : Str))=false:=by decide)
  (hbase:W4 (.Name x p) "append" X.env (WA (.Name x p) X.env)=WA (.Name x p) X.env:=by rfl)
  (hfew:((Wy cpos (Wg [e] X.env)).all (λx=>!x.1)&&(Vm cpos (W0 [] X.env)).all (λx=>x.1.isSome)&&decide ([e].length+([]:List Keyword).length+(if ([]:List Keyword).isEmpty then 0 else 1)<30))=true:=by rfl)
  (hline:(apos.endLine == cpos.line)=true:=by rfl) (hs:Wg [e] X.env=(false,WA e X.env)::Wg [] X.env:=by rfl) (hplain:(Wy cpos (Wg [] X.env)).any (·.1)=false:=by rfl):PuM X (.Call (.Attribute (.Name x p) "append" apos) [e] [] cpos) (mApp i te) where
 mono ρ Q Q' m h:=by
  obtain⟨ds,e1,e2,h⟩:=h;exact⟨ds,e1,e2,he.mono ρ _ _ (λd k ⟨hk,q⟩=>⟨hk,m _ _ q⟩) h⟩
 run:=PE.weak (zsW PySem.F.plainAttrs_list PySem.F.slot_list_append PySem.F.type_list_append zhZ (zcE hN hv hd hcd) (zfy he.run zhR hs) hbase hfew hline hs hplain) λσ H Q h=>by
  obtain⟨ρ,Fz,R,ds,e1,e2,h⟩:=h;obtain⟨a,xs,hs,ha,hd,nf⟩:=zhn R e1;refine⟨_,hs,.inl ⟨rfl,xs,SqL.of ha⟩,ρ,Fz,R,he.mono ρ _ _ (λd k q v F1 H1 p1=>?_) h⟩;obtain⟨hk,q⟩:=q;have hk':k=.frz\/k=.new:=by
   cases k with
   | frz=>exact .inl rfl
   | new=>exact .inr rfl
   | own j=>cases hk
  obtain⟨F2,x2,s2,d2⟩:=p1.frozen hk';have R2:=R.ext x2;obtain⟨a',xs',hs',ha',hd',nf'⟩:=zhn R2 e1;rw[hs]at hs';cases hs';have hl:=hd'.length;refine⟨a,xs',v,rfl,rfl,ha',by lia,?_⟩;have ow:Own X.K F2 (upd H1 a (.lst (xs'++[v]))) (.lst (ds++[d])) a:=⟨_,zap,(DenL.rew ha' nf' (DenL.snoc hd' d2))⟩;obtain⟨R3,s3,o3⟩:=R2.mut e1 hs ha' ow;exact q .non F2 _ ((Step.of x2).trans (zaG.refl ρ σ H) s3) (zaG.trans (Step.of x2) (zaG.refl ρ σ H) o3) R3 (by simp only[Den])
theorem zoS (i:Nat)(he:PuE X e te)(hN:X.N[i]? = some x:=by rfl)(hv:Vis X.env.scope x:=by first | exact Or.inl rfl | exact Or.inr (Or.inl rfl) | exact Or.inr (Or.inr rfl))(hd:(x == ("__debug__" : Str))=false:=by decide) (hcd:(x == ("__classdict__" : Str))=false:=by decide)
  (hbase:W4 (.Name x p) "extend" X.env (WA (.Name x p) X.env)=WA (.Name x p) X.env:=by rfl)
  (hfew:((Wy cpos (Wg [e] X.env)).all (λx=>!x.1)&&(Vm cpos (W0 [] X.env)).all (λx=>x.1.isSome)&&decide ([e].length+([]:List Keyword).length+(if ([]:List Keyword).isEmpty then 0 else 1)<30))=true:=by rfl)
  (hline:(apos.endLine == cpos.line)=true:=by rfl) (hs:Wg [e] X.env=(false,WA e X.env)::Wg [] X.env:=by rfl) (hplain:(Wy cpos (Wg [] X.env)).any (·.1)=false:=by rfl):PuM X (.Call (.Attribute (.Name x p) "extend" apos) [e] [] cpos) (zdV i te) where
 mono ρ Q Q' m h:=by
  obtain⟨ds,e1,h⟩:=h;exact⟨ds,e1,he.mono ρ _ _ (λd _ ⟨es,q1,q2,q⟩=>⟨es,q1,q2,m _ _ q⟩) h⟩
 run:=PE.weak (zsW PySem.F.plainAttrs_list PySem.F.slot_list_extend PySem.F.type_list_extend zri (zcE hN hv hd hcd) (zfy he.run zhR hs) hbase hfew hline hs hplain) λσ H Q h=>by
  obtain⟨ρ,Fz,R,ds,e1,h⟩:=h;obtain⟨a,xs,hs,ha,hd,nf⟩:=zhn R e1;refine⟨_,hs,.inl ⟨rfl,xs,SqL.of ha⟩,ρ,Fz,R,he.mono ρ _ _ (λd k q v F1 H1 p1=>?_) h⟩;obtain⟨es,rfl,q2,q⟩:=q;have R2:=R.ext p1.ext;obtain⟨a',xs',hs',ha',hd',nf'⟩:=zhn R2 e1;rw[hs]at hs';cases hs';obtain⟨b,zs,rfl,hb,hz⟩:=zbe (p1.root R);have hl:=hd'.length;have hl2:=hz.length;refine⟨a,b,xs',zs,rfl,rfl,ha',hb,by lia,?_⟩;have ow:Own X.K F1 (upd H1 a (.lst (xs'++zs))) (.lst (ds++es)) a:=⟨_,zap,(DenL.rew ha' nf' (hd'.append hz))⟩;obtain⟨R3,s3,o3⟩:=R2.mut e1 hs ha' ow;exact q .non F1 _ ((Step.of p1.ext).trans (zaG.refl ρ σ H) s3) (zaG.trans (Step.of p1.ext) (zaG.refl ρ σ H) o3) R3 (by simp only[Den])
def zbH (tm:TPM):TPS:=λρ O=>tm ρ λ_ ρ'=>O.nx ρ'
variable {pos:Pos}
theorem zaN (he:PuM X e tm)(hs:WF e none pos.line X.env=pure false:=by rfl):PuS X (.Expr e pos) (zbH tm) where
 mono ρ O O' m h:=he.mono ρ _ _ (λ_ _ q=>m.nx _ q) h
 run:=PS.weak (zjc he.run hs) λD σ H h=>by
  obtain⟨ρ,Fz,R,h⟩:=h;exact⟨ρ,Fz,R,he.mono ρ _ _ (λd ρ' q v F' H' s' o' R' _=>q σ F' H' s' o' R') h⟩
end
theorem zmL {K:Xa}{Fz:FZ}{H:Hp}{ds:List PV}{xs:List V}{i:Int}{d:PV}(h:DenL K Fz H ds xs)(e:atI ds i=some d):∃v,atI xs i=some v/\Den K Fz H d v:=by
 unfold atI at e ⊢;rw[<- h.length];cases q:ixN ds.length i with
 | none=>rw[q]at e;cases e
 | some j=>
  rw[q]at e;obtain⟨v,h1,h2⟩:=h.get (i:=j) (d:=d) e;exact⟨v,h1,h2⟩
def ixV (d e x:PV):Prop:=(∃ds i,(d=.lst ds\/d=.tup ds)/\e=.int i/\atI ds i=some x)\/∃z i c,d=.str z/\e=.int i/\z.length<=Wn/\atI z.cps.toList i=some c/\x=.str ⟨#[c]⟩
def pIx:P2:=λd e Q=>∃x,ixV d e x/\Q x .frz
theorem zva {K:Xa}:POp K (rIx K) pIx where
 mono d e Q Q' m h:=by obtain⟨x,h,q⟩:=h;exact⟨x,h,m _ _ q⟩
 run Fz H x y d e Q al rx ry h:=by
  obtain⟨x',h,q⟩:=h;rcases h with ⟨ds,i,e1,rfl,e3⟩ | ⟨z,i,c,rfl,rfl,e3,e4,rfl⟩
  ·rcases e1 with rfl | rfl
   ·obtain⟨a,xs,rfl,h1,h2⟩:=zas rx;obtain⟨v,g1,g2⟩:=zmL h2 e3;exact .inl ⟨a,xs,i,v,rfl,zax ry,h1,g1,q v Fz H (.val al g2)⟩
   ·obtain⟨a,xs,rfl,h1,h2⟩:=zbe rx;obtain⟨v,g1,g2⟩:=zmL h2 e3;exact .inr (.inl ⟨a,xs,i,v,rfl,zax ry,h1,g1,q v Fz H (.val al g2)⟩)
  ·exact .inr (.inr ⟨z,i,c,zbs rx,zax ry,e3,e4,q _ Fz H (.val al (by simp only[Den]))⟩)
section
variable {X:Cx}{a b:Expr}{ta tb:TPE}{pos:Pos}
theorem zal (ha:PuE X a ta)(hb:PuE X b tb)(hs:zjf b:=by exact λ_ _=>rfl):PuE X (.Subscript a b pos) (t2 pIx ta tb):=zuZ zsS zva ha hb hs
theorem zdG (hu:X.A.units+16<Wz)(ha:PuE X a ta)(hb:PuE X b tb)(hm:Wx .Eq b=false:=by first | exact zdc _ | rfl):PuT X (.Compare a [.Eq] [b] pos) (tBl (t2 (pEq false) ta tb)):=zdj (ztf hu) zpY ha hb hm
theorem zgH (hu:X.A.units+16<Wz)(ha:PuE X a ta)(hb:PuE X b tb)(hm:Wx .NotEq b=false:=by first | exact zdc _ | rfl):PuT X (.Compare a [.NotEq] [b] pos) (tBl (t2 (pEq true) ta tb)):=zdj (ztg hu) zpY ha hb hm
theorem zkc (ha:PuE X a ta)(hb:PuE X b tb)(hm:Wx .Lt b=false:=by first | exact zdc _ | rfl):PuT X (.Compare a [.Lt] [b] pos) (tBl (pLt ta tb)):=zdj zuJ zhi ha hb hm
theorem zgI (ha:PuE X a ta)(hb:PuE X b tb)(hm:Wx .Gt b=false:=by first | exact zdc _ | rfl):PuT X (.Compare a [.Gt] [b] pos) (tBl (pGt ta tb)):=zdj zuL zhi ha hb hm
theorem zvb (ha:PuE X a ta)(hb:PuE X b tb)(hm:Wx .LtE b=false:=by first | exact zdc _ | rfl):PuE X (.Compare a [.LtE] [b] pos) (pLe ta tb):=zpX zuK zhi ha hb hm
end
def rInP (K:Xa)(neg:Bool):R2:=λx y H Q=>∃Fz d ds p xs,Root K Fz H d x/\y=.ref p/\(SqL K H p xs\/SqT K H p xs)/\DenL K Fz H ds xs/\plain 6 d=true/\ds.all (plain 6)=true/\Q (.bl (if neg then !decide (d∈ds) else decide (d∈ds))) H
def pIn (neg:Bool):P2:=λd e Q=>∃ds,(e=.lst ds\/e=.tup ds)/\plain 6 d=true/\ds.all (plain 6)=true/\Q (.bl (if neg then !decide (d∈ds) else decide (d∈ds))) .frz
theorem ztq {K:Xa}{neg:Bool}:POp K (rInP K neg) (pIn neg) where
 mono d e Q Q' m h:=by obtain⟨ds,e1,e2,e3,q⟩:=h;exact⟨ds,e1,e2,e3,m _ _ q⟩
 run Fz H x y d e Q al rx ry h:=by
  obtain⟨ds,e1,e2,e3,q⟩:=h;rcases e1 with rfl | rfl
  ·obtain⟨a,xs,rfl,h1,h2⟩:=zas ry;exact⟨Fz,d,ds,a,xs,rx,rfl,.inl h1,h2,e2,e3,q _ Fz H (.val al (by simp only[Den]))⟩
  ·obtain⟨a,xs,rfl,h1,h2⟩:=zbe ry;exact⟨Fz,d,ds,a,xs,rx,rfl,.inr h1,h2,e2,e3,q _ Fz H (.val al (by simp only[Den]))⟩
noncomputable def dcd (p:Prop):Bool:=@decide p (Classical.propDecidable p)
theorem zkd {p:Prop}(h:p):dcd p=true:=@decide_eq_true p (Classical.propDecidable p) h
theorem zmM {p:Prop}(h:¬ p):dcd p=false:=@decide_eq_false p (Classical.propDecidable p) h
theorem zrt {p:Prop}:dcd p=true↔p:=@decide_eq_true_iff p (Classical.propDecidable p)
section
variable {X:Cx}{pins:List (We×Obj)}{σ:St}{H:Hp}{s:Wd}{Fz:FZ}
theorem zfq (I:Inv X pins σ H s){A:Wu}(hu:A.units+16<Wz){d:PV}{ds:List PV}{x:V}{xs:List V}{v:Wb}{its:List Wb}(hx:Root X.K Fz H d x)(rx:RelV x v)(r:Vals xs its)(h:DenL X.K Fz H ds xs)(pd:plain 6 d=true)(ps:ds.all (plain 6)=true) :
  ∃e:Wb->Bool,(∀y,y∈its.toArray->SeqAt.EqAt A.in1 s y v (e y))/\its.toArray.any e=decide (d∈ds):=by
 refine⟨λu=>dcd (∃j:Nat,its[j]? = some u/\ds[j]? = some d),λu hu'=>?_,?_⟩
 ·obtain⟨j,hj⟩:=List.mem_iff_getElem?.mp (show u∈its by simpa using hu');have l1:=r.length;have l2:=h.length;have hjl:j<its.length:=(Xe.mp hj).1;have e1:ds[j]? = some ds[j]:=Xg (by lia);obtain⟨y,e2,q2⟩:=h.get e1;obtain⟨u',e3,q3⟩:=r.get e2;rw[hj]at e3;cases e3;have pj:plain 6 ds[j]=true:=XI.mp ps _ (Yd _);have w:dcd (∃j':Nat,its[j']? = some u/\ds[j']? = some d)=decide (ds[j]=d):=by
   by_cases hd:ds[j]=d
   ·rw[decide_eq_true hd,zkd ⟨j,hj,by rw[e1,hd]⟩]
   ·rw[decide_eq_false hd];refine zmM ?_;rintro⟨j',g1,g2⟩;obtain⟨y',e2',q2'⟩:=h.get g2;obtain⟨u',e3',q3'⟩:=r.get e2';rw[g1]at e3';cases e3';have ey:y=y':=q3.inj q3';subst ey;exact hd (zhj I 6 _ _ _ pj pd q2.root q2'.root)
  show SeqAt.EqAt A.in1 s u v (dcd (∃j':Nat,its[j']? = some u/\ds[j']? = some d));rw[w];exact(zrm I 6 A.in1 ds[j] d y x u v pj pd (by show A.units+1+6<Wz;lia) q2.root hx q3 rx).2.2
 ·have l1:=r.length;have l2:=h.length;by_cases hd:d∈ds
  ·rw[decide_eq_true hd];obtain⟨j,hj⟩:=List.mem_iff_getElem?.mp hd;have hjl:j<ds.length:=(Xe.mp hj).1;rw[Array.any_eq_true];refine⟨j,by simpa using (by lia:j<its.length),?_⟩;refine zkd ⟨j,?_,hj⟩;simp
  ·rw[decide_eq_false hd];rw[Array.any_eq_false];intro i hi;intro z;obtain⟨j,g1,g2⟩:=zrt.mp z;exact hd (Xu g2)
theorem ztr (hu:X.A.units+16<Wz):OpR X (WJ .In) (rInP X.K false):=by
 intro pins s σ H x y v u Q I rx ry h;obtain⟨Fz,d,ds,p,xs,hx,rfl,hq,hd,p1,p2,q⟩:=h;cases ry;rcases hq with hq | hq
 ·obtain⟨its,r,pl,hz⟩:=I.list hq;obtain⟨e,h1,h2⟩:=zfq I hu hx rx r hd p1 p2;exact SeqAt.in_listAt e pl.isList h1 ⟨.bl _,H,I,rfl,by rw[h2];exact q⟩
 ·obtain⟨its,r,pl,hz⟩:=I.tuple hq;obtain⟨e,h1,h2⟩:=zfq I hu hx rx r hd p1 p2;exact SeqAt.in_tupleAt e pl h1 ⟨.bl _,H,I,rfl,by rw[h2];exact q⟩
theorem zmN (hu:X.A.units+16<Wz):OpR X (WJ .NotIn) (rInP X.K true):=by
 intro pins s σ H x y v u Q I rx ry h;obtain⟨Fz,d,ds,p,xs,hx,rfl,hq,hd,p1,p2,q⟩:=h;cases ry;rcases hq with hq | hq
 ·obtain⟨its,r,pl,hz⟩:=I.list hq;obtain⟨e,h1,h2⟩:=zfq I hu hx rx r hd p1 p2;exact SeqAt.notIn_listAt e pl.isList h1 ⟨.bl _,H,I,rfl,by rw[h2];exact q⟩
 ·obtain⟨its,r,pl,hz⟩:=I.tuple hq;obtain⟨e,h1,h2⟩:=zfq I hu hx rx r hd p1 p2;exact SeqAt.notIn_tupleAt e pl h1 ⟨.bl _,H,I,rfl,by rw[h2];exact q⟩
variable {a b:Expr}{ta tb:TPE}{pos:Pos}
theorem zpZ (hu:X.A.units+16<Wz)(ha:PuE X a ta)(hb:PuE X b tb)(hm:Wx .In b=false:=by first | exact zdc _ | rfl):PuT X (.Compare a [.In] [b] pos) (tBl (t2 (pIn false) ta tb)):=zdj (ztr hu) ztq ha hb hm
theorem zir (hu:X.A.units+16<Wz)(ha:PuE X a ta)(hb:PuE X b tb)(hm:Wx .NotIn b=false:=by first | exact zdc _ | rfl):PuT X (.Compare a [.NotIn] [b] pos) (tBl (t2 (pIn true) ta tb)):=zdj (zmN hu) ztq ha hb hm
end
def pIsN (neg:Bool):P2:=λd e Q=>e=.non/\Q (.bl (if neg then !decide (d=.non) else decide (d=.non))) .frz
theorem zke {K:Xa}{Fz:FZ}{H:Hp}{d:PV}{x:V}(r:Root K Fz H d x):decide (x=V.non)=decide (d=.non):=by
 cases d with
 | non=>rw[zck r];simp
 | bl b=>rw[zeU r];simp
 | int b=>rw[zax r];simp
 | str b=>rw[zbs r];simp
 | tup ds=>obtain⟨a,xs,rfl,_⟩:=zbe r;simp
 | lst ds=>obtain⟨a,xs,rfl,_⟩:=zas r;simp
 | ty n=>simp only[Root,Den]at r;rw[r];simp
 | dK ks ds=>simp only[Root]at r;obtain⟨a,xs,rfl,_⟩:=r;simp
 | dT ks ds=>simp only[Root]at r;obtain⟨a,xs,rfl,_⟩:=r;simp
 | obj C ks ds=>simp only[Root,Den]at r;obtain⟨a,dx,xs,rfl,_⟩:=r;simp
theorem zts {K:Xa}:POp K (λx y H Q=>y=.non/\Q (.bl (decide (x=.non))) H) (pIsN false) where
 mono d e Q Q' m h:=⟨h.1,m _ _ h.2⟩
 run Fz H x y d e Q al rx ry h:=by
  obtain⟨rfl,q⟩:=h;refine⟨zck ry,?_⟩;rw[zke rx];exact q _ Fz H (.val al (by simp only[Den];rfl))
theorem zru {K:Xa}:POp K (λx y H Q=>y=.non/\Q (.bl (!decide (x=.non))) H) (pIsN true) where
 mono d e Q Q' m h:=⟨h.1,m _ _ h.2⟩
 run Fz H x y d e Q al rx ry h:=by
  obtain⟨rfl,q⟩:=h;refine⟨zck ry,?_⟩;rw[zke rx];exact q _ Fz H (.val al (by simp only[Den];rfl))
section
variable {X:Cx}{a b:Expr}{ta tb:TPE}{pos:Pos}
theorem zrv (ha:PuE X a ta)(hb:PuE X b tb)(hm:Wx .Is b=false:=by first | exact zdc _ | rfl):PuT X (.Compare a [.Is] [b] pos) (tBl (t2 (pIsN false) ta tb)):=zdj zsJ zts ha hb hm
theorem zkf (ha:PuE X a ta)(hb:PuE X b tb)(hm:Wx .IsNot b=false:=by first | exact zdc _ | rfl):PuT X (.Compare a [.IsNot] [b] pos) (tBl (t2 (pIsN true) ta tb)):=zdj zqM zru ha hb hm
end
theorem ztt:Ww "list" = some (.type "list"):=by decide +kernel
theorem zqa:Ww "tuple" = some (.type "tuple"):=by decide +kernel
theorem bSet:Ww "set" = some (.type "set"):=by decide +kernel
theorem zvc:Ww "dict" = some (.type "dict"):=by decide +kernel
theorem bInt:Ww "int" = some (.type "int"):=by decide +kernel
theorem zvd:Ww "bool" = some (.type "bool"):=by decide +kernel
theorem bLen:Ww "len" = some (.builtin "len"):=by decide +kernel
theorem zho:Ww "sorted" = some (.builtin "sorted"):=by decide +kernel
theorem bIsi:Ww "isinstance" = some (.builtin "isinstance"):=by decide +kernel
theorem bMax:Ww "max" = some (.builtin "max"):=by decide +kernel
theorem bMin:Ww "min" = some (.builtin "min"):=by decide +kernel
theorem zdH {K:Xa}{Fz:FZ}{H:Hp}{d:PV}{vs:List V}(h:zlq K Fz H [d] vs):∃v,vs=[v]/\Root K Fz H d v:=by
 cases h with
 | cons r t=>cases t;exact⟨_,rfl,r⟩
theorem zkg {K:Xa}{Fz:FZ}{H:Hp}{d e:PV}{vs:List V}(h:zlq K Fz H [d,e] vs):∃v u,vs=[v,u]/\Root K Fz H d v/\Root K Fz H e u:=by
 cases h with
 | cons r t=>
  cases t with
  | cons r2 t=>cases t;exact⟨_,_,rfl,r,r2⟩
theorem Post.newL {K:Xa}{Fz:FZ}{H:Hp}{p:We}{ds:List PV}{xs:List V}(al:∀b,Fz b->H b≠none)(hp:H p=none)(h:DenL K Fz H ds xs):Post K [] [] Fz H Fz (upd H p (.lst xs)) (.lst ds) .new (.ref p):=
 ⟨Ext.laid ⟨Same.refl H,λ_ h=>h,λ_ h=>.inl h,al⟩ hp,p,rfl,hp,λz=>al p z hp,xs,zap,DenL.mono (Keep.of (λb u e=>by rw[zak (zaB e hp)];exact e)) (λ_ h=>h) _ _ h⟩
theorem Post.newT {K:Xa}{Fz:FZ}{H:Hp}{p:We}{ds:List PV}{xs:List V}(al:∀b,Fz b->H b≠none)(hp:H p=none)(h:DenL K Fz H ds xs):Post K [] [] Fz H Fz (upd H p (.tup xs)) (.tup ds) .frz (.ref p):=by
 refine⟨Ext.laid ⟨Same.refl H,λ_ h=>h,λ_ h=>.inl h,al⟩ hp,?_⟩;show Den _ _ _ _ _;simp only[Den];exact⟨p,xs,rfl,zap,DenL.mono (Keep.of (λb u e=>by rw[zak (zaB e hp)];exact e)) (λ_ h=>h) _ _ h⟩
def LenP:PV->Nat->Prop
 | .str y,n=>y.length<=Wn/\n=y.length
 | .lst ds,n=>n=ds.length
 | .tup ds,n=>n=ds.length
 | .dK ks _,n=>n=ks.length
 | _,_=>False
def fLen:PF:=λds Q=>∃d n,ds=[d]/\LenP d n/\Q (.int n) .frz
def rLen (K:Xa):List V->Hp->VK->Prop:=λxs H Q=>(∃x n,xs=[x]/\LenV K x H n/\Q (.int n) H)\/∃a kvs,xs=[.ref a]/\Rd H a (.dK kvs)/\Q (.int kvs.length) H
theorem zmO {X:Cx}:zde X (.builtin "len") (rLen X.K):=by
 intro pins s σ H xs us Q I r h;rcases h with h | ⟨a,kvs,rfl,ha,q⟩
 ·exact zos pins s σ H xs us Q I r h
 ·obtain⟨u,rfl,ru⟩:=vals1 r;cases ru;exact zuU I ha λt s' I'=>⟨.int kvs.length,H,I',⟨t,rfl⟩,q⟩
theorem ztu {K:Xa}:zes K (rLen K) fLen where
 mono ds Q Q' m h:=by obtain⟨d,n,e1,e2,q⟩:=h;exact⟨d,n,e1,e2,m _ _ q⟩
 run Fz H ds vs Q al r h:=by
  obtain⟨d,n,rfl,e,q⟩:=h;obtain⟨v,rfl,rv⟩:=zdH r;have q':=q (.int n) Fz H (.val al (by simp only[Den]));cases d with
  | str y=>cases zbs rv;exact .inl ⟨_,n,rfl,e,q'⟩
  | lst ds=>obtain⟨a,xs,rfl,h1,h2⟩:=zas rv;exact .inl ⟨_,n,rfl,.inl ⟨xs,h1,by rw[<- h2.length];exact e⟩,q'⟩
  | tup ds=>obtain⟨a,xs,rfl,h1,h2⟩:=zbe rv;exact .inl ⟨_,n,rfl,.inr ⟨xs,h1,by rw[<- h2.length];exact e⟩,q'⟩
  | dK ks ds=>
   simp only[Root]at rv;obtain⟨a,xs,rfl,h1,h2,h3⟩:=rv;have e':n=ks.length:=e;refine .inr ⟨a,_,rfl,h1,?_⟩;rw[Yp,<- h2,Nat.min_self,<- e'];exact q'
  | non=>exact e.elim
  | bl b=>exact e.elim
  | int i=>exact e.elim
  | ty n=>exact e.elim
  | dT ks ds=>exact e.elim
  | obj C ks ds=>exact e.elim
def zdm:PF:=λds Q=>∃es,(ds=[.lst es]\/ds=[.tup es])/\Q (.lst es) .new
def zbP:PF:=λds Q=>∃es,(ds=[.lst es]\/ds=[.tup es])/\Q (.tup es) .frz
theorem zrw {K:Xa}:zes K (zrj K) zdm where
 mono ds Q Q' m h:=by obtain⟨es,e,q⟩:=h;exact⟨es,e,m _ _ q⟩
 run Fz H ds vs Q al r h:=by
  obtain⟨es,e,q⟩:=h;rcases e with rfl | rfl
  ·obtain⟨v,rfl,rv⟩:=zdH r;obtain⟨a,xs,rfl,h1,h2⟩:=zas rv;exact⟨a,xs,rfl,.inl h1,λl hl=>q _ Fz _ (.newL al hl h2)⟩
  ·obtain⟨v,rfl,rv⟩:=zdH r;obtain⟨a,xs,rfl,h1,h2⟩:=zbe rv;exact⟨a,xs,rfl,.inr h1,λl hl=>q _ Fz _ (.newL al hl h2)⟩
theorem zoT {K:Xa}:zes K (ztd K) zbP where
 mono ds Q Q' m h:=by obtain⟨es,e,q⟩:=h;exact⟨es,e,m _ _ q⟩
 run Fz H ds vs Q al r h:=by
  obtain⟨es,e,q⟩:=h;rcases e with rfl | rfl
  ·obtain⟨v,rfl,rv⟩:=zdH r;obtain⟨a,xs,rfl,h1,h2⟩:=zas rv;exact⟨a,xs,rfl,.inl ⟨h1,λl hl=>q _ Fz _ (.newT al hl h2)⟩⟩
  ·obtain⟨v,rfl,rv⟩:=zdH r;obtain⟨a,xs,rfl,h1,h2⟩:=zfH rv;exact⟨a,xs,rfl,.inr ⟨SqT.of h1,q _ Fz H (.val al (by simp only[Den];exact⟨a,xs,rfl,h1,h2⟩))⟩⟩
theorem zfO {K:Xa}{Fz:FZ}{H:Hp}:∀ {ss:List Str}{xs:List V},DenL K Fz H (ss.map PV.str) xs->xs=ss.map V.str
 | [],xs,h=>by rw[List.map_nil]at h;simp only[DenL]at h;exact h
 | s::r,xs,h=>by
  rw[Xq]at h;simp only[DenL]at h;obtain⟨v,t,z,h1,h2⟩:=h;simp only[Den]at h1;subst z h1;rw[Xq,zfO h2]
theorem zew {K:Xa}{Fz:FZ}{H:Hp}:∀(ss:List Str),DenL K Fz H (ss.map PV.str) (ss.map V.str)
 | []=>DenL.nil
 | s::r=>by rw[Xq,Xq];exact DenL.cons (by simp only[Den]) (zew r)
def zce:PF:=λds Q=>∃ss:List Str,ds=[.lst (ss.map PV.str)]/\ss.length<64/\∀zs,zs.Perm ss->sortedS zs=true->Q (.lst (zs.map PV.str)) .new
theorem zoU {X:Cx}:zes X.K (λxs H Q=>∃(p:We)(ss:List Str),xs=[.ref p]/\SqL X.K H p (ss.map V.str)/\ss.length<64/\∀l zs,H l=none->zs.Perm ss->sortedS zs=true->Q (.ref l) (upd H l (.lst (zs.map V.str)))) zce where
 mono ds Q Q' m h:=by obtain⟨ss,e1,e2,q⟩:=h;exact⟨ss,e1,e2,λzs h1 h2=>m _ _ (q zs h1 h2)⟩
 run Fz H ds vs Q al r h:=by
  obtain⟨ss,rfl,e2,q⟩:=h;obtain⟨v,rfl,rv⟩:=zdH r;obtain⟨a,xs,rfl,h1,h2⟩:=zas rv;have:=zfO h2;subst this;exact⟨a,ss,rfl,h1,e2,λl zs hl hz hs=>q zs hz hs _ Fz _ (.newL al hl (zew zs))⟩
section
variable {X:Cx}{e:Expr}{es:List Expr}{te:TPE}{t:TPA}{p p1 p2 pos pos2:Pos}
theorem zaZ (hg:Gl X "len") (hm:X.mg "len" = none) (ha:PuA X (e::es) t) (he:Wg (e::es) X.env=(false,WA e X.env)::Wg es X.env:=by rfl) (hpl:(Wy pos (Wg es X.env)).any (·.1)=false:=by rfl):PuE X (.Call (.Name "len" p) (e::es) [] pos) (tB fLen t):=
 zcP zmO ztu hg hm bLen ha (by decide) (by decide) he hpl
theorem zhp (hg:Gl X "list") (hm:X.mg "list" = none) (ha:PuA X (e::es) t) (he:Wg (e::es) X.env=(false,WA e X.env)::Wg es X.env:=by rfl) (hpl:(Wy pos (Wg es X.env)).any (·.1)=false:=by rfl):PuE X (.Call (.Name "list" p) (e::es) [] pos) (tB zdm t):=
 zet zhY zrw hg hm ztt ha (by decide) (by decide) he hpl
theorem zex (hg:Gl X "tuple") (hm:X.mg "tuple" = none) (ha:PuA X (e::es) t) (he:Wg (e::es) X.env=(false,WA e X.env)::Wg es X.env:=by rfl) (hpl:(Wy pos (Wg es X.env)).any (·.1)=false:=by rfl):PuE X (.Call (.Name "tuple" p) (e::es) [] pos) (tB zbP t):=
 zet zhc zoT hg hm zqa ha (by decide) (by decide) he hpl
theorem zoV (hg:Gl X "sorted") (hm:X.mg "sorted" = none) (ha:PuA X (e::es) t) (he:Wg (e::es) X.env=(false,WA e X.env)::Wg es X.env:=by rfl) (hpl:(Wy pos (Wg es X.env)).any (·.1)=false:=by rfl):PuE X (.Call (.Name "sorted" p) (e::es) [] pos) (tB zce t):=
 zcP zlp zoU hg hm zho ha (by decide) (by decide) he hpl
def zaU (te:TPE):TPE:=λρ Q=>te ρ λd _=>∃ss:List Str,d=.lst (ss.map PV.str)/\ss.length<64/\∀zs,zs.Nodup->(∀x,x∈zs↔x∈ss)->sortedS zs=true->Q (.lst (zs.map PV.str)) .new
theorem zgJ:∀(ys xs:List Str),xs.Nodup->(ys.foldl JS.addS xs).Nodup
 | [],_,h=>h
 | y::ys,xs,h=>by
  rw[List.foldl_cons];refine zgJ ys _ ?_;unfold JS.addS;split
  ·exact h
  ·rename_i hy
   exact XX.mpr ⟨hy,h⟩
theorem zls (hc:X.calm=true)(hg:Gl X "sorted") (hm:X.mg "sorted" = none) (hg2:Gl X "set") (hm2:X.mg "set" = none) (he:PuE X e te)
  (hs1:Wg [e] X.env=(false,WA e X.env)::Wg [] X.env:=by rfl) (hpl1:(Wy pos2 (Wg [] X.env)).any (·.1)=false:=by rfl)
  (hs2:Wg [Expr.Call (.Name "set" p2) [e] [] pos2] X.env=(false,WA (Expr.Call (.Name "set" p2) [e] [] pos2) X.env)::Wg [] X.env:=by rfl) (hpl2:(Wy pos (Wg [] X.env)).any (·.1)=false:=by rfl) :
  PuE X (.Call (.Name "sorted" p) [.Call (.Name "set" p2) [e] [] pos2] [] pos) (zaU te) where
 mono ρ Q Q' m h:=he.mono ρ _ _ (λd k ⟨ss,e1,e2,q⟩=>⟨ss,e1,e2,λzs h1 h2 h3=>m _ _ (q zs h1 h2 h3)⟩) h
 run:=PE.weak (zjM (zih hc) hg hm zho (zfy (zhW (zmC hc) hg2 hm2 bSet (zfy he.run zhR hs1) (by decide) (by decide) hs1 hpl1) zhR hs2) (by decide) (by decide) hs2 hpl2) λσ H Q h=>by
  obtain⟨ρ,Fz,R,h⟩:=h;refine⟨ρ,Fz,R,he.mono ρ _ _ (λd k q v F1 H1 p1=>?_) h⟩;obtain⟨ss,rfl,e2,q⟩:=q;obtain⟨a,xs,rfl,h1,h2⟩:=zas (p1.root R);have:=zfO h2;subst this;refine⟨a,ss,rfl,h1,by unfold Ve;lia,λst hst=>?_⟩;have q1:=JS.zfF ss [];simp only[YB,Nat.zero_add]at q1;refine⟨st,_,rfl,zap,by lia,λl zs hl hz hs=>?_⟩;have hne:l≠st:=λz=>by subst z;rw[zap]at hl;cases hl
  have hl':H1 l=none:=by rw[zak hne]at hl;exact hl
  have x2:Ext F1 H1 F1 (upd H1 st (SetO X.prog X.w st (ss.foldl JS.addS []))):=Ext.laid ⟨Same.refl _,λ_ h=>h,λ_ h=>.inl h,p1.ext.al⟩ hst;have p3:Post X.K [] [] F1 (upd H1 st (SetO X.prog X.w st (ss.foldl JS.addS []))) F1 (upd (upd H1 st (SetO X.prog X.w st (ss.foldl JS.addS []))) l (.lst (zs.map V.str))) (.lst (zs.map PV.str)) .new (.ref l):=Post.newL x2.al hl (zew zs);refine q zs (hz.nodup_iff.mpr (zgJ ss [] YQ)) (λx=>?_) hs _ F1 _ (p3.behind (p1.ext.trans x2));rw[hz.mem_iff,JS.zif];simp
end
def tyP:PV->String
 | .non=>"NoneType"
 | .bl _=>"bool"
 | .int _=>"int"
 | .str _=>"str"
 | .ty _=>"type"
 | .tup _=>"tuple"
 | .lst _=>"list"
 | .dK _ _=>"dict"
 | .dT _ _=>"dict"
 | .obj _ _ _=>"object"
def isObj:PV->Bool
 | .obj _ _ _=>true
 | _=>false
def NoT (d:PV):Prop:=(∀n,d≠.ty n)/\isObj d=false
theorem zkh {X:Cx}{pins:List (We×Obj)}{σ:St}{H:Hp}{s:Wd}{Fz:FZ}{d:PV}{x:V}{u:Wb}(I:Inv X pins σ H s)(r:Root X.K Fz H d x)(rx:RelV x u)(hd:NoT d):∃P:Heap->Prop,PySem.W.KitX X.K u (.type (tyP d)) P/\P s.heap/\u≠.builtin "__main__.__loader__#opaque":=by
 cases d with
 | non=>cases zck r;cases (show u=Value.none from rx);exact⟨_,PySem.W.kitx_none,True.intro,λz=>nomatch z⟩
 | bl y=>cases zeU r;cases (show u=Value.bool y from rx);exact⟨_,PySem.W.kitx_bool,True.intro,λz=>nomatch z⟩
 | int i=>cases zax r;obtain⟨t,q⟩:=(show ∃t,u=Value.int i t from rx);cases q;exact⟨_,PySem.W.kitx_int,True.intro,λz=>nomatch z⟩
 | str y=>cases zbs r;obtain⟨t,q⟩:=(show ∃t,u=Value.str y t from rx);cases q;exact⟨_,PySem.W.kitx_str,True.intro,λz=>nomatch z⟩
 | ty n=>exact absurd rfl (hd.1 n)
 | obj C ks ds=>exact absurd hd.2 (by simp[isObj])
 | lst ds=>
  obtain⟨a,xs,rfl,h1,_⟩:=zas r;cases (show u=Value.ref a from rx);obtain⟨its,_,⟨o,n,e,c,_⟩,_⟩:=I.list h1;exact⟨_,PySem.W.kitx_list,⟨o,e,c⟩,λz=>nomatch z⟩
 | tup ds=>
  obtain⟨a,xs,rfl,h1,_⟩:=zbe r;cases (show u=Value.ref a from rx);obtain⟨its,_,⟨o,e,c,_⟩,_⟩:=I.tuple h1;exact⟨_,PySem.W.kitx_tuple,⟨o,e,c⟩,λz=>nomatch z⟩
 | dK ks ds=>
  simp only[Root]at r;obtain⟨a,xs,rfl,h1,_⟩:=r;cases (show u=Value.ref a from rx);obtain⟨_,_,vs,_,o,es,ep,e,ex,_⟩:=zjg I.hok h1;exact⟨_,PySem.W.kitx_dict,⟨o,e,ex.1⟩,λz=>nomatch z⟩
 | dT ks ds=>
  simp only[Root]at r;obtain⟨a,xs,rfl,h1,_⟩:=r;cases (show u=Value.ref a from rx);obtain⟨_,_,vs,_,o,es,ep,e,ex,_⟩:=zmg I.hok h1;exact⟨_,PySem.W.kitx_dict,⟨o,e,ex.1⟩,λz=>nomatch z⟩
def fIsi (K:Xa):PF:=λds Q=>(∃d c,ds=[d,.ty c]/\NoT d/\∃b,PySem.W.kitOne K (.type (tyP d)) (.type c)=some b/\Q (.bl b) .frz)\/
 ∃d es,ds=[d,.tup es]/\NoT d/\∃(cs:List String) (b:Bool),es=cs.map PV.ty/\PySem.W.kitAny K (.type (tyP d)) (cs.map Value.type)=some b/\Q (.bl b) .frz
def ztv (K:Xa):List V->Hp->VK->Prop:=λxs H Q=>∃Fz d x b,Root K Fz H d x/\NoT d/\((∃c,xs=[x,.ty c]/\PySem.W.kitOne K (.type (tyP d)) (.type c)=some b)\/∃(p:We)(cs:List String),xs=[x,.ref p]/\SqT K H p (cs.map V.ty)/\PySem.W.kitAny K (.type (tyP d)) (cs.map Value.type)=some b)/\Q (.bl b) H
theorem zmP {X:Cx}:zde X (.builtin "isinstance") (ztv X.K):=by
 intro pins s σ H xs us Q I r h;obtain⟨Fz,d,x,b,rt,hd,e,q⟩:=h;rcases e with ⟨c,rfl,e⟩ | ⟨p,cs,rfl,hp,e⟩
 ·obtain⟨u,w',rfl,r1,r2⟩:=vals2 r;cases r2;obtain⟨P,Z,hP,ne⟩:=zkh I rt r1 hd;exact PySem.W.kia_one Z I.kIn hP e ne λtk=>⟨.bl b,H,I.tok tk,rfl,q⟩
 ·obtain⟨u,w',rfl,r1,r2⟩:=vals2 r;cases r2;obtain⟨P,Z,hP,ne⟩:=zkh I rt r1 hd;obtain⟨its,rv,⟨⟨cls,dd,data,sl⟩,ho,hc,n,hdt⟩,hzz⟩:=I.tuple hp;simp only at hc hdt;subst hc hdt;have ei:its=cs.map Value.type:=by
   clear hp ho e hzz;induction cs generalizing its with
   | nil=>cases rv;rfl
   | cons c cs ih=>
    cases rv with
    | cons q1 q2=>rw[show _=Value.type c from q1,ih _ q2];rfl
  subst ei;exact PySem.W.kia_tup Z I.kIn hP ho e ne λtk=>⟨.bl b,H,I.tok tk,rfl,q⟩
theorem zki {K:Xa}{Fz:FZ}{H:Hp}:∀ {ss:List String}{xs:List V},DenL K Fz H (ss.map PV.ty) xs->xs=ss.map V.ty
 | [],xs,h=>by rw[List.map_nil]at h;simp only[DenL]at h;exact h
 | s::r,xs,h=>by
  rw[Xq]at h;simp only[DenL]at h;obtain⟨v,t,z,h1,h2⟩:=h;simp only[Den]at h1;subst z h1;rw[Xq,zki h2]
theorem ztw {K:Xa}:zes K (ztv K) (fIsi K) where
 mono ds Q Q' m h:=by
  rcases h with ⟨d,c,e,hd,b,e2,q⟩ | ⟨d,es,e,hd,cs,b,e2,e3,q⟩
  ·exact .inl ⟨d,c,e,hd,b,e2,m _ _ q⟩
  ·exact .inr ⟨d,es,e,hd,cs,b,e2,e3,m _ _ q⟩
 run Fz H ds vs Q al r h:=by
  rcases h with ⟨d,c,rfl,hd,b,e,q⟩ | ⟨d,es,rfl,hd,cs,b,rfl,e,q⟩
  ·have q':=q (.bl b) Fz H (.val al (by simp only[Den]));obtain⟨v,u,rfl,r1,r2⟩:=zkg r;simp only[Root,Den]at r2;subst r2;exact⟨Fz,d,v,b,r1,hd,.inl ⟨c,rfl,e⟩,q'⟩
  ·have q':=q (.bl b) Fz H (.val al (by simp only[Den]));obtain⟨v,u,rfl,r1,r2⟩:=zkg r;obtain⟨a,xs,rfl,h1,h2⟩:=zbe r2;have:=zki h2;subst this;exact⟨Fz,d,v,b,r1,hd,.inr ⟨a,cs,rfl,h1,e⟩,q'⟩
section
variable {X:Cx}{e:Expr}{es:List Expr}{te:TPE}{t:TPA}{p p1 p2 pos pos2:Pos}
theorem zmQ {K:Xa}(hK:X.K=K)(hg:Gl X "isinstance") (hm:X.mg "isinstance" = none) (ha:PuA X (e::es) t) (he:Wg (e::es) X.env=(false,WA e X.env)::Wg es X.env:=by rfl) (hpl:(Wy pos (Wg es X.env)).any (·.1)=false:=by rfl):PuE X (.Call (.Name "isinstance" p) (e::es) [] pos) (tB (fIsi K) t):=by
 subst hK;exact zcP zmP ztw hg hm bIsi ha (by decide) (by decide) he hpl
end
abbrev TPO:=PEnv->(Option Int->Prop)->Prop
def zve (K:Xa)(t:TPO):TO:=λσ H Q=>∃ρ Fz,Rel K Fz ρ σ H/\t ρ λo=>∀Fz' H',Ext Fz H Fz' H'->Q o H'
structure PuO (X:Cx)(e:Option Expr)(t:TPO):Prop where
 mono:∀ρ Q Q',(∀o,Q o->Q' o)->t ρ Q->t ρ Q'
 run:PO X e (zve X.K t)
theorem PO.weak {X:Cx}{e:Option Expr}{t t':TO}(h:PO X e t)(w:∀σ H Q,t' σ H Q->t σ H Q):PO X e t':=λpins s σ H Q I q=>h pins s σ H Q I (w σ H Q q)
def zdn:TPO:=λ_ Q=>Q none
def zdo (te:TPE):TPO:=λρ Q=>te ρ λd _=>∃i,d=.int i/\Q (some i)
theorem zey {X:Cx}:PuO X none zdn where
 mono ρ Q Q' m h:=m _ h
 run:=PO.weak zqU λσ H Q h=>by
  obtain⟨ρ,Fz,R,h⟩:=h;exact h Fz H ⟨Same.refl H,λ_ h=>h,λ_ h=>.inl h,R.al⟩
theorem zbI {X:Cx}{e:Expr}{te:TPE}(h:PuE X e te):PuO X (some e) (zdo te) where
 mono ρ Q Q' m q:=h.mono ρ _ _ (λd k ⟨i,e,q⟩=>⟨i,e,m _ q⟩) q
 run:=PO.weak (zqV h.run) λσ H Q q=>by
  obtain⟨ρ,Fz,R,q⟩:=q;exact⟨ρ,Fz,R,h.mono ρ _ _ (λd k ⟨i,e,q⟩ v F1 H1 p1=>⟨i,by subst e;exact zax (p1.root R),q F1 H1 p1.ext⟩) q⟩
def cutP (xs:List PV)(lo hi:Option Int):List PV:=(xs.drop (HT.sIx xs.length 0 lo)).take (HT.sIx xs.length xs.length hi-HT.sIx xs.length 0 lo)
def pSlL (te:TPE)(tl th:TPO):TPE:=λρ Q=>te ρ λd _=>tl ρ λl=>th ρ λu=>∃ds,d=.lst ds/\Q (.lst (cutP ds l u)) .new
theorem zrx {K:Xa}{Fz:FZ}{H:Hp}{ds:List PV}{xs:List V}{lo hi:Option Int}(h:DenL K Fz H ds xs):DenL K Fz H (cutP ds lo hi) (cutV xs lo hi):=by
 unfold cutP cutV;rw[h.length];exact(h.drop _).take _
section
variable {X:Cx}{e a b:Expr}{te ta tb:TPE}{lo hi:Option Expr}{tl th:TPO}{pos p2:Pos}
theorem zcR (he:PuE X e te)(hl:PuO X lo tl)(hu:PuO X hi th):PuE X (.Subscript e (.Slice lo hi none p2) pos) (pSlL te tl th) where
 mono ρ Q Q' m h:=he.mono ρ _ _ (λd k h=>hl.mono ρ _ _ (λl h=>hu.mono ρ _ _ (λu ⟨ds,e,q⟩=>⟨ds,e,m _ _ q⟩) h) h) h
 run:=PE.weak (zjO zqX he.run hl.run hu.run) λσ H Q h=>by
  obtain⟨ρ,Fz,R,h⟩:=h;refine⟨ρ,Fz,R,he.mono ρ _ _ (λd k q v F1 H1 p1=>?_) h⟩;refine⟨ρ,F1,R.ext p1.ext,hl.mono ρ _ _ (λl q F2 H2 x2=>?_) q⟩;refine⟨ρ,F2,(R.ext p1.ext).ext x2,hu.mono ρ _ _ (λu q3 F3 H3 x3=>?_) q⟩;obtain⟨ds,e3,q4⟩:=q3;subst e3;obtain⟨a,xs,rfl,h1,h2⟩:=zas (((p1.root R).mono x2.same x2.sub).mono x3.same x3.sub);exact⟨a,xs,rfl,h1,λp hp=>q4 _ F3 _ ((Post.newL x3.al hp (zrx h2)).behind (p1.ext.trans (x2.trans x3)))⟩
def ztx (K:Xa):R2:=λx y H Q=>∃l b xs zs,x=.ref l/\y=.ref b/\(Rd H l (.lst xs)\/KX K l xs)/\(Rd H b (.lst zs)\/KX K b zs)/\xs.length+zs.length<=Wn/\∀p,H p=none->Q (.ref p) (upd H p (.lst (xs++zs)))
theorem zty {pins:List (We×Obj)}{σ:St}{H:Hp}{s:Wd}{l:We}{xs:List V}(I:Inv X pins σ H s)(h:Rd H l (.lst xs)\/KX X.K l xs):∃(its:List Wb)(n:Nat),Vals xs its/\s.heap.get? l=some { cls:=.type "list",data:=.seq its.toArray n }:=by
 rcases h with h | ⟨its,n,h1,_,h3⟩
 ·obtain⟨z,its,n,r,e⟩:=(show zbZ X.prog X.w H s.heap l (.lst xs) from h.ok I.hok);exact⟨its,n,r,e⟩
 ·exact⟨its.toList,n,h3,by rw[Array.toArray_toList];exact I.kIn l _ h1⟩
theorem zry:OpR X (Vk .Add) (ztx X.K):=by
 intro pins s σ H x y v u Q I rx ry h;obtain⟨l,b,xs,zs,rfl,rfl,hH,hB,hz,q⟩:=h;cases rx;cases ry;obtain⟨its,n,r,e⟩:=zty I hH;obtain⟨its2,n2,r2,e2⟩:=zty I hB;have l1:=r.length;have l2:=r2.length;refine PySem.P.add_list e e2 ?_ (by rw[Xj,Xj];lia);have ea:its.toArray++its2.toArray=(its++its2).toArray:=by simp
 rw[ea];exact⟨.ref _,_,I.lnew (t':=s.toks) (r.append r2) (by rw[Xm];lia),rfl,q _ I.fresh⟩
def pCat:P2:=λd e Q=>∃ds es,d=.lst ds/\e=.lst es/\ds.length+es.length<=Wn/\Q (.lst (ds++es)) .new
theorem ztz {K:Xa}:POp K (ztx K) pCat where
 mono d e Q Q' m h:=by obtain⟨ds,es,e1,e2,e3,q⟩:=h;exact⟨ds,es,e1,e2,e3,m _ _ q⟩
 run Fz H x y d e Q al rx ry h:=by
  obtain⟨ds,es,rfl,rfl,e3,q⟩:=h;obtain⟨a,xs,rfl,h1,h2⟩:=zil rx;obtain⟨b,ys,rfl,g1,g2⟩:=zil ry;have l1:=h2.length;have l2:=g2.length;exact⟨a,b,xs,ys,rfl,rfl,h1,g1,by lia,λp hp=>q _ Fz _ (.newL al hp (h2.append g2))⟩
theorem zdI (ha:PuE X a ta)(hb:PuE X b tb):PuE X (.BinOp a .Add b pos) (t2 pCat ta tb):=zii zry ztz ha hb
end
theorem zkj {K:Xa}{Fz:FZ}{H:Hp}{f:Str}{d:PV}:∀ {ks:List Str}{ds:List PV}{xs:List V},DenL K Fz H ds xs->(ks.zip ds).lookup f=some d->∃v,(ks.zip xs).lookup f=some v/\Den K Fz H d v
 | [],ds,xs,h,e=>by simp at e
 | k::ks,[],xs,h,e=>by simp at e
 | k::ks,d0::ds,xs,h,e=>by
  simp only[DenL]at h;obtain⟨v0,r,z,h1,h2⟩:=h;subst z;rw[Yb,XT]at e ⊢;cases hk:(f == k)with
  | true=>rw[hk]at e;cases e;exact⟨v0,rfl,h1⟩
  | false=>rw[hk]at e;exact zkj h2 e
theorem zdp {α β:Type}{f:Str}:∀ {ks:List Str}{xs:List α},f∉ks->(ks.zip xs).lookup f=none
 | [],xs,h=>by simp
 | k::ks,[],h=>by simp
 | k::ks,x::xs,h=>by
  rw[Yb,XT];have h1:(f == k)=false:=by rw[beq_eq_false_iff_ne];exact λe=>h (e▸Xh ..)
  rw[h1];exact zdp (α:=α) (β:=β) λz=>h (Xi _ z)
theorem zjn {K:Xa}{Fz:FZ}{H:Hp}{C:We}{ks:List Str}{ds:List PV}{v:V}(h:Den K Fz H (.obj C ks ds) v):∃a dx xs,v=.ref a/\Fz a/\H a=some (.ins C dx (ks.zip xs))/\ks.length=xs.length/\DenL K Fz H ds xs:=by
 simpa only[Den]using h
section
variable {X:Cx}{o e:Expr}{es:List Expr}{te to:TPE}{t:TPA}{C:We}{f m:Str}{pos apos:Pos}
def pFld (C:We)(f:Str)(te:TPE):TPE:=λρ Q=>te ρ λd _=>∃ks ds v,d=.obj C ks ds/\(ks.zip ds).lookup f=some v/\Q v .frz
theorem zbq (c:Cls X.K C)(n:zcd X.K C f)(he:PuE X e te)(hb:W4 e f X.env (WA e X.env)=WA e X.env:=by rfl):PuE X (.Attribute e f pos) (pFld C f te) where
 mono ρ Q Q' mm h:=he.mono ρ _ _ (λd k ⟨ks,ds,v,e1,e2,q⟩=>⟨ks,ds,v,e1,e2,mm _ _ q⟩) h
 run:=PE.weak (zpT he.run hb) λσ H Q h=>by
  obtain⟨ρ,Fz,R,h⟩:=h;refine⟨ρ,Fz,R,he.mono ρ _ _ (λd k q v F1 H1 p1=>?_) h⟩;obtain⟨ks,ds,w,rfl,l,q⟩:=q;obtain⟨a,dx,xs,rfl,_,h1,h2,h3⟩:=zjn (p1.root R);obtain⟨u,l',dn⟩:=zkj h3 l;exact⟨a,C,dx,_,u,rfl,h1,c,n,l',q u F1 H1 ⟨p1.ext,dn⟩⟩
def zco (C:We)(m:Str)(F:PF)(to:TPE)(t:TPA):TPE:=λρ Q=>to ρ λd _=>∃ks ds,d=.obj C ks ds/\m∉ks/\t ρ λops=>F (d::ops.map (·.1)) λd' k=>(noOwn ops=true\/zbE d' k=true)/\Q d' k
theorem zhq {pl:Sem Bool}{k:Nat}{fa:We}{fd:Wr}{ps:List Str}{F:PF}(c:Cls X.K C)(hm:Meth X.K C m fa)(G:FnOk X.prog X.w X.K X.mg X.base CX0 k fa fd ps (spP X.K F))(mf:zaY F)(hr:Room k X.A)(hb:Binds X.K fd ps [])(ho:PuE X o to)(ha:PuA X (e::es) t)
  (hst:Wg (e::es) X.env=(false,WA e X.env)::Wg es X.env:=by rfl) (hpl:(Wy pos (Wg es X.env)).any (·.1)=false:=by rfl)
  (ht:WA (.Call (.Attribute o m apos) (e::es) [] pos) X.env=(do
   let ov <- WA o X.env
   Vq apos.atName
   let (f,first) <- WW [ov] (Vp ov m pl)
   callWith pos f first (Wy pos (Wg (e::es) X.env)) (Vm pos (W0 [] X.env))):=by rfl) :
  PuE X (.Call (.Attribute o m apos) (e::es) [] pos) (zco C m F to t) where
 mono ρ Q Q' mm h:=ho.mono ρ _ _ (λd k ⟨ks,ds,e1,e2,h⟩=>⟨ks,ds,e1,e2,ha.mono ρ _ _ (λops h=>mf _ _ _ (λd k q=>⟨q.1,mm _ _ q.2⟩) h) h⟩) h
 run:=PE.weak (zmd (pl:=pl) ho.run c hm G hr hb .nil zlf ha.run hst hpl ht) λσ H Q h=>by
  obtain⟨ρ,Fz,R,h⟩:=h;refine⟨ρ,Fz,R,ho.mono ρ _ _ (λd kd q v F1 H1 p1=>?_) h⟩;obtain⟨ks,ds,rfl,hn,q⟩:=q;obtain⟨a,dx,xs,rfl,hf,h1,h2,h3⟩:=zjn (p1.root R);have dobj:Den X.K F1 H1 (.obj C ks ds) (.ref a):=p1.root R;refine⟨a,dx,_,rfl,h1,zdp (α:=V) (β:=V) hn,ρ,F1,R.ext p1.ext,ha.mono ρ _ _ (λops h vs F2 H2 x o=>?_) q⟩;show spP X.K F (.ref a::(vs++[])) H2 Q E0;rw[List.append_nil];by_cases hno:noOwn ops=true
  ·obtain⟨F3,x3,s3,h3'⟩:=o.frozen x hno;refine⟨F3,.obj C ks ds::ops.map (·.1),x3.al,DenL.cons (Den.mono (.of x3.same) (λb hb=>x3.sub b hb) _ _ dobj) h3',mf _ _ _ (λd k q v F4 H4 p4=>?_) h⟩;exact q.2 v F4 H4 (p4.behind (p1.ext.trans x3))
  ·obtain⟨F3,s3,a3,h3'⟩:=o.all (R.ext p1.ext) x;refine⟨F3,.obj C ks ds::ops.map (·.1),a3,DenL.cons (Den.mono (.of x.same) (λb hb=>s3 b (x.sub b hb)) _ _ dobj) h3',mf _ _ _ (λd k q v F4 H4 p4=>?_) h⟩;have nm:zbE d k=true:=q.1.resolve_left hno;have al:∀b,F2 b->H4 b≠none:=λb hb z=>x.al b hb (p4.ext.same.free z);refine q.2 v F2 H4 ⟨⟨p1.ext.same.trans (x.same.trans p4.ext.same),λb hb=>x.sub b (p1.ext.sub b hb),λb hb=>?_,al⟩,?_⟩
   ·rcases x.new b hb with z | z
    ·exact p1.ext.new b z
    ·exact .inr (p1.ext.same.free z)
   ·exact((zgG nm x.al p4.opd).up).back (p1.ext.same.trans x.same)
end
structure Fx (K:Xa)(mg:Str->Option Wb)(x:Str)(st:WC)(ps:List Str)(f:We)(fd:Wr):Prop where
 fn:Fun K x x st f fd
 bd:Binds K fd ps []
 mg:mg x=some (.ref f)
structure Bl (mg:Str->Option Wb):Prop where
 range:mg "range" = none
 len:mg "len" = none
 list:mg "list" = none
 tuple:mg "tuple" = none
 sorted:mg "sorted" = none
 set:mg "set" = none
 isi:mg "isinstance" = none
 str:mg "str" = none
 int:mg "int" = none
 bool:mg "bool" = none
 dict:mg "dict" = none
 enumerate:mg "enumerate" = none
 zip:mg "zip" = none
 min:mg "min" = none
 max:mg "max" = none
 sum:mg "sum" = none
 all:mg "all" = none
 any:mg "any" = none
 reversed:mg "reversed" = none
 abs:mg "abs" = none
 ord:mg "ord" = none
theorem zmR {K:Xa}{T c:String}{b:Bool}(h1:PySem.W.kitMeta c=true)(h2:(fastBuiltinMro T).map (·.contains (.type c))=some b)(h3:(Value.type T == Value.type c)=false):PySem.W.kitOne K (.type T) (.type c)=some b:=by
 unfold PySem.W.kitOne PySem.W.kitCls;rw[if_neg (by rw[h3];decide)];dsimp only;rw[if_pos h1];exact h2
theorem zkk {K:Xa}{T:String}:PySem.W.kitOne K (.type T) (.type T)=some true:=by
 unfold PySem.W.kitOne;rw[if_pos (by simp)]
theorem zis {K:Xa}:PySem.W.kitOne K (.type "int") (.type "bool")=some false:=zmR (by decide +kernel) (by decide +kernel) (by decide +kernel)
theorem loc2 {k i j:Nat}(h:i<k)(h2:j<k):zto k (zbW (zbG i) (zbW (zbG j) zdC)):=λds ρ Q ⟨d,r,e,d2,r2,e2,q⟩=>
 ⟨d,r,e,d2,r2,e2,q.1,q.2,by rw[Yk,Yk],λl hl=>by rw[Xk (by lia),Xk (by lia)]⟩
theorem zmS {P:Wl}{w:Wt}{K:Xa}{mg mb:Str->Option Wb}{CX:CXT}{k:Nat}{fa a:We}{fd:Wr}{x:Str}{sp:Sp}{s₁:Wd}{vs:List Wb}{ns:List Int}
  (KX:K.In s₁.heap) (hns:s₁.heap.Ns Wc mg) (hb:s₁.heap.Ns builtinsNs mb) (hbb:∀x:Str,x≠"__name__"->mb x=Ww x) (hlim:s₁.heap.NoLimit) (hg:s₁.gens = #[])
  (ha:s₁.heap.get? a=some { cls:=.type "list",data:=.seq vs.toArray }) (hi:WU vs ns) (hl:ns.length<=Wn) (hr:Room k callerA)
  (F:∀base:Heap,K.In base->base.Ns Wc mg->FnOk P w K mg base CX k fa fd [x] sp) (hbind:∀(s:Wd) (u:Wb),BindsTo s fd ⟨[u],[]⟩ [(x,u)])
  (hsp:∀H:Hp,Only H->(Rd H a (.lst (ns.map V.int))\/PL.KX K a (ns.map V.int))->sp [.ref a] H (λv _=>v=.bl true) λ_ _ _=>False)
  (hCX:∀H e s',CX [] H s₁ (λ_ _ _=>False) e s'->False) :
  Vl (Wh P w) callerA (.call (.ref fa) ⟨[.ref a],[]⟩) (λr s'=>r=.ok (.ret (.bool true))/\OldK s₁.heap s'.heap/\s'.os=s₁.os/\AllBare s'.gens) s₁:=by
 have rv:=zib hi;have lenV:=hi.length;have core:∀H:Hp,Only H->(Rd H a (.lst (ns.map V.int))\/PL.KX K a (ns.map V.int))->HOk P w H s₁.heap->(∀b,H b≠none->b=a)->(H a≠none->K.lookup a=none)->
   Vl (Wh P w) callerA (.call (.ref fa) ⟨[.ref a],[]⟩) (λr s'=>r=.ok (.ret (.bool true))/\OldK s₁.heap s'.heap/\s'.os=s₁.os/\AllBare s'.gens) s₁:=by
  intro H hO hS hok hA hK;have base_of:∀ {b:We} {o:Obj},s₁.heap.get? b=some o->H b=none->(hidT s₁.heap H).get? b=some o:=λe n=>zon e n;have noA:∀ {b:We} {o:Obj} {es:Array DictEntry} {ep:Nat},s₁.heap.get? b=some o->o.data=.dict es ep->H b=none:=λ{b o es ep} e d=>by
   cases q:H b with
   | none=>rfl
   | some u=>
    have e':b=a:=hA b (by rw[q];simp);subst e';rw[ha]at e;cases e;have d':Data.seq vs.toArray _=Data.dict es ep:=d;cases d'
  have nsK:∀ {b:We} {m:Str->Option Wb},s₁.heap.Ns b m->(hidT s₁.heap H).Ns b m:=λ{b m} ⟨o,es,ep,e,d,r⟩=>⟨o,es,ep,base_of e (noA e d),d,r⟩;have hKb:K.In (hidT s₁.heap H):=λb o e=>base_of (KX b o e) (by
   cases q:H b with
   | none=>rfl
   | some u=>
    have e':b=a:=hA b (by rw[q];simp);subst e';rw[hK (by rw[q];simp)]at e;cases e)
  have hM:Mod K mg (hidT s₁.heap H):=⟨hKb,nsK hns,⟨mb,nsK hb,hbb⟩,let ⟨mc,h1,h2⟩:=hlim;⟨mc,nsK h1,h2⟩⟩;have e0:Env0 P w K mg (hidT s₁.heap H) callerA [] s₁ H:=⟨rfl,hM,λb o e=>zqC e,YO (zlP _ _),trivial,λb hb=>absurd (show b∈([]:List We) from hb) (by simp),hok,.of_eq hg⟩;refine W8 ((F _ hKb (nsK hns)).run callerA [] s₁ H ⟨[.ref a],[]⟩ [.ref a] [.ref a] _ _ hr e0 (hbind s₁ (.ref a)) (.cons rfl .nil) (hsp H hO hS)) λr s' h=>?_;cases r with
  | error e=>exact(hCX H e s' h).elim
  | ok fl=>
   cases fl with
   | next=>exact False.elim h
   | brk=>exact False.elim h
   | cont=>exact False.elim h
   | ret u=>
    obtain⟨v,H',os,bare,un,hok',r',q⟩:=h;have q':v=.bl true:=q;subst q';obtain rfl:u=Value.bool true:=r';refine⟨rfl,OldK.of_keep λb o e=>?_,os,bare⟩;cases q:H b with
    | none=>exact un.keep b o e q (by intro z;exact absurd (show b∈([]:List We) from z) (by simp)) (by simp)
    | some u=>
     rcases hO b with z | ⟨ob,xs,z⟩
     ·rw[q]at z;cases z
     ·have z2:=un.frzs b ob _ z;obtain⟨e1,_⟩:=hok b _ z;obtain⟨e2,_⟩:=hok' b _ z2;rw[e]at e1;cases e1;exact e2
 cases hk:K.lookup a with
 | some o=>
  have e:=KX a o hk;rw[ha]at e;cases e;refine core (λ_=>none) (λ_=>.inl rfl) (.inr ⟨vs.toArray,_,hk,by rw[Xj,lenV];exact hl,by simpa using rv⟩) (λb u z=>by have z':(none:Option HO)=some u:=z;cases z') (λb z=>absurd rfl z) λz=>absurd rfl z
 | none=>
  refine core (λb=>if b=a then some (.frz { cls:=.type "list",data:=.seq vs.toArray } (.lst (ns.map V.int))) else none) (λb=>?_) (.inl (.inr ⟨{ cls:=.type "list",data:=.seq vs.toArray },if_pos rfl⟩)) (λb u z=>?_) (λb z=>?_) λ_=>hk
  ·by_cases hb:b=a
   ·exact .inr ⟨_,_,if_pos hb⟩
   ·exact .inl (if_neg hb)
  ·by_cases hb:b=a
   ·have z':=(if_pos hb).symm.trans z;cases z';subst hb;exact⟨ha,by rw[Xb];exact hl,vs,_,rv,ha⟩
   ·have z':=(if_neg hb).symm.trans z;cases z'
  ·by_cases hb:b=a
   ·exact hb
   ·exact absurd (if_neg hb) z
theorem zit {K:Xa}{Fz:FZ}{H:Hp}:∀(ns:List Int),DenL K Fz H (ns.map PV.int) (ns.map V.int)
 | []=>DenL.nil
 | n::r=>by rw[Xq,Xq];exact DenL.cons (by simp only[Den]) (zit r)
theorem ztA {K:Xa}{H:Hp}{a:We}{ns:List Int}{F:PF}{E:XK}(m:zaY F)(h:Rd H a (.lst (ns.map V.int))\/KX K a (ns.map V.int))(hF:F [.lst (ns.map PV.int)] λd k=>d=.bl true):spP K F [.ref a] H (λv _=>v=.bl true) E:=by
 refine⟨λb=>H b≠none,[.lst (ns.map PV.int)],λb hb=>hb,DenL.cons ?_ DenL.nil,m _ _ _ (λd k e v F' H' p=>?_) hF⟩
 ·simp only[Den];refine⟨a,ns.map V.int,rfl,?_,zit ns⟩;rcases h with h | h
  ·refine .inl ⟨?_,h⟩;rcases h with h | ⟨o,h⟩<;>(show H a≠none;rw[h];exact λz=>nomatch z)
  ·exact .inr h
 ·subst e;cases k with
  | frz=>have q:Den K F' H' (.bl true) v:=p.opd;simpa only[Den]using q
  | new=>obtain⟨b,_,_,_,o⟩:=p.opd;exact o.elim
  | own i=>obtain⟨z,_⟩:=p.opd;simp at z
end PL
namespace L2
open PySem PySem.Spec PyProof.Rows
def Sw:HO->Prop
 | .dK _=>True
 | .dT _=>True
 | .frz _ _=>True
 | _=>False
end L2
namespace PL
open PySem PySem.Spec L2
open PyProof.Rows hiding St
def keyP:Key->PV
 | .inl i=>.int i
 | .inr x=>.str x
def dgP {κ:Type} [DecidableEq κ] (ks:List κ)(ds:List PV)(k:κ):Option PV:=((ks.zip ds).find? λkv=>decide (kv.1=k)).map (·.2)
section
variable {K:Xa}{Fz:FZ}{H:Hp}
theorem zkl {κ:Type} [DecidableEq κ]:∀(ks:List κ)(ds:List PV)(xs:List V)(k:κ),DenL K Fz H ds xs->(∀d,dgP ks ds k=some d->∃v,valV (ks.zip xs) k=some v/\Den K Fz H d v)/\(dgP ks ds k=none->valV (ks.zip xs) k=none)
 | [],ds,xs,k,h=>⟨λd e=>by simp[dgP]at e,λ_=>rfl⟩
 | c::ks,[],xs,k,h=>by
  simp only[DenL]at h;subst h;exact⟨λd e=>by simp[dgP]at e,λ_=>rfl⟩
 | c::ks,d0::ds,xs,k,h=>by
  simp only[DenL]at h;obtain⟨v,r,rfl,h1,h2⟩:=h;have ih:=zkl ks ds r k h2;by_cases e:c=k
  ·subst e;refine⟨λd hd=>⟨v,by simp[valV],?_⟩,λhn=>?_⟩
   ·have:d0=d:=by simpa[dgP]using hd
    subst this;exact h1
   ·simp[dgP]at hn
  ·refine⟨λd hd=>?_,λhn=>?_⟩
   ·have:dgP ks ds k=some d:=by simpa[dgP,YC,e]using hd
    obtain⟨w,q1,q2⟩:=ih.1 d this;exact⟨w,by simpa[valV,YC,e]using q1,q2⟩
   ·have:dgP ks ds k=none:=by simpa[dgP,YC,e]using hn
    have:=ih.2 this;simpa[valV,YC,e]using this
theorem zhr {k:Key}{x:V}(h:Root K Fz H (keyP k) x):x=kV k:=by
 cases k<;>simpa only[keyP,kV,Root,Den]using h
theorem zmT {ks:List Key}{ds:List PV}{x:V}(h:Root K Fz H (.dK ks ds) x):∃a xs,x=.ref a/\Rd H a (.dK (ks.zip xs))/\ks.length=xs.length/\DenL K Fz H ds xs:=by
 simpa only[Root]using h
def rDG:R2:=λx y H Q=>∃a v,x=.ref a/\DGet H a y (some v)/\Q v H
def pDG:P2:=λd e Q=>∃ks ds k v,d=.dK ks ds/\e=keyP k/\dgP ks ds k=some v/\Q v .frz
theorem ztB:POp K rDG pDG where
 mono d e Q Q' m h:=by obtain⟨ks,ds,k,v,e1,e2,e3,q⟩:=h;exact⟨ks,ds,k,v,e1,e2,e3,m _ _ q⟩
 run Fz H x y d e Q al rx ry h:=by
  obtain⟨ks,ds,k,d',rfl,rfl,e3,q⟩:=h;obtain⟨a,xs,rfl,r,hl,hd⟩:=zmT rx;obtain rfl:=zhr ry;obtain⟨v,e4,h4⟩:=(zkl ks ds xs k hd).1 d' e3;exact⟨a,v,rfl,.inl ⟨_,k,r,rfl,e4.symm⟩,q v Fz H (.val al h4)⟩
def rDI (neg:Bool):R2:=λy x H Q=>∃a o,x=.ref a/\DGet H a y o/\Q (.bl (if neg then !o.isSome else o.isSome)) H
def pDI (neg:Bool):P2:=λe d Q=>∃ks ds k,d=.dK ks ds/\e=keyP k/\Q (.bl (if neg then !(dgP ks ds k).isSome else(dgP ks ds k).isSome)) .frz
theorem zrz {neg:Bool}:POp K (rDI neg) (pDI neg) where
 mono d e Q Q' m h:=by obtain⟨ks,ds,k,e1,e2,q⟩:=h;exact⟨ks,ds,k,e1,e2,m _ _ q⟩
 run Fz H x y d e Q al rx ry h:=by
  obtain⟨ks,ds,k,rfl,rfl,q⟩:=h;obtain⟨a,xs,rfl,r,hl,hd⟩:=zmT ry;obtain rfl:=zhr rx;have e4:(valV (ks.zip xs) k).isSome=(dgP ks ds k).isSome:=by
   cases e:dgP ks ds k with
   | none=>rw[(zkl ks ds xs k hd).2 e];rfl
   | some d'=>obtain⟨v,e5,_⟩:=(zkl ks ds xs k hd).1 d' e;rw[e5];rfl
  refine⟨a,valV (ks.zip xs) k,rfl,.inl ⟨_,k,r,rfl,rfl⟩,?_⟩;rw[e4];exact q _ Fz H (.val al (by simp only[Den]))
end
section
variable {X:Cx}{a b:Expr}{ta tb:TPE}{pos:Pos}
theorem zmU (hu:X.A.units+1<Wz)(ha:PuE X a ta)(hb:PuE X b tb)(hs:NoSl b:=by exact λ_ _=>rfl):PuE X (.Subscript a b pos) (t2 pDG ta tb):=
 ⟨zdi ztB ha hb,PE.weak (zra hu ha.run hb.run hs) λ_ _ _ h=>zgE ztB ha hb h⟩
end
def zdE:PF:=λds Q=>∃i j:Int,ds=[.int i,.int j]/\Q (.int (if j > i then j else i)) .frz
theorem zrA {K:Xa}:zes K (λxs H Q=>∃i j,xs=[V.int i,.int j]/\Q (.int (if j > i then j else i)) H) zdE where
 mono ds Q Q' m h:=by obtain⟨i,j,e,q⟩:=h;exact⟨i,j,e,m _ _ q⟩
 run Fz H ds vs Q al hr h:=by
  obtain⟨i,j,rfl,q⟩:=h;obtain⟨u,v,rfl,h1,h2⟩:=zkg hr;exact⟨i,j,by rw[zax h1,zax h2],q _ Fz H (.val al (by simp only[Den]))⟩
section
variable {X:Cx}{e:Expr}{es:List Expr}{t:TPA}{p pos:Pos}
theorem zmV (hc:X.calm=true)(hg:Gl X "max") (hm:X.mg "max" = none) (ha:PuA X (e::es) t) (he:Wg (e::es) X.env=(false,WA e X.env)::Wg es X.env:=by rfl) (hpl:(Wy pos (Wg es X.env)).any (·.1)=false:=by rfl):PuE X (.Call (.Name "max" p) (e::es) [] pos) (tB zdE t):=
 zcP (zlZ hc) zrA hg hm bMax ha (by decide) (by decide) he hpl
end
theorem DenL.rew' {K:Xa}{Fz:FZ}{H:Hp}{ds:List PV}{xs:List V}{a:We}{o u:HO}(ha:H a=some u)(hi:¬ Imm u)(nf:¬ Fz a)(h:DenL K Fz H ds xs):DenL K Fz (upd H a o) ds xs:=
 DenL.mono (.mk' λb w e hw=>by
  have ne:b≠a:=λz=>by
   subst z;rcases hw with hw | hw
   ·exact nf hw
   ·rw[ha]at e;cases e;exact hi hw
  rw[zak ne];exact e) (λ_ h=>h) _ _ h
theorem zqb {K:Xa}{Fz:FZ}{ρ:PEnv}{σ:St}{H:Hp}{i:Nat}{ks:List Key}{ds:List PV}(R:Rel K Fz ρ σ H)(h:ρ[i]? = some (some (.dK ks ds,true))):∃a xs,σ[i]? = some (some (.ref a))/\H a=some (.dK (ks.zip xs))/\ks.length=xs.length/\DenL K Fz H ds xs/\¬ Fz a:=by
 obtain⟨a,e,nf,xs,h1,h2,h3⟩:=R.own i _ h;exact⟨a,xs,e,h1,h2,h3,nf⟩
theorem zjo {k:Kd}(hk:isOwn k=false):k=.frz\/k=.new:=by
 cases k with
 | frz=>exact .inl rfl
 | new=>exact .inr rfl
 | own j=>cases hk
def putD (ks:List Key)(ds:List PV)(k:Key)(d:PV):List PV:=(ks.zip ds).map λkv=>if kv.1=k then d else kv.2
theorem zrB {ks:List Key}{xs:List V}{k:Key}{v:V}:(ks.zip xs).map (λkv=>if kv.1=k then(kv.1,v) else kv)=ks.zip ((ks.zip xs).map λkv=>if kv.1=k then v else kv.2):=by
 induction ks generalizing xs with
 | nil=>rfl
 | cons c ks ih=>
  cases xs with
  | nil=>rfl
  | cons x xs=>
   simp only[Yb,Xq,ih];by_cases e:c=k<;>simp[e]
theorem zmW {K:Xa}{Fz:FZ}{H:Hp}(k:Key){d:PV}{v:V}(hd:Den K Fz H d v):∀(ks:List Key)(ds:List PV)(xs:List V),DenL K Fz H ds xs->DenL K Fz H (putD ks ds k d) ((ks.zip xs).map λkv=>if kv.1=k then v else kv.2)
 | [],ds,xs,h=>DenL.nil
 | c::ks,[],xs,h=>by simp only[DenL]at h;subst h;exact DenL.nil
 | c::ks,d0::ds,xs,h=>by
  simp only[DenL]at h;obtain⟨w,r,rfl,h1,h2⟩:=h;have ih:=zmW k hd ks ds r h2;simp only[putD,Yb,Xq]at ih ⊢;by_cases e:c=k
  ·rw[if_pos e,if_pos e];exact DenL.cons hd ih
  ·rw[if_neg e,if_neg e];exact DenL.cons h1 ih
def hasK (ks:List Key)(c:Key):Bool:=ks.any λc'=>decide (c'=c)
def zcp (i:Nat)(ti tv:TPE):TPS:=λρ O=>tv ρ λd k=>isOwn k=false/\∃ks ds,ρ[i]? = some (some (.dK ks ds,true))/\ks.length<Wn/\ti ρ λe _=>∃c:Key,e=keyP c/\
 O.nx (ρ.set i (some (if hasK ks c=true then .dK ks (putD ks ds c d) else .dK (ks++[c]) (ds++[d]),true)))
theorem zrC {ks:List Key}{xs:List V}{c:Key}(h:ks.length=xs.length):((ks.zip xs).any λkv=>decide (kv.1=c))=hasK ks c:=by
 unfold hasK;induction ks generalizing xs with
 | nil=>simp
 | cons d ks ih=>
  cases xs with
  | nil=>simp at h
  | cons x xs=>
   simp only[Yb,List.any_cons,ih (by simpa using h)]
section
variable {X:Cx}{x:Str}{ei ev:Expr}{ti tv:TPE}{p pos pos' apos cpos:Pos}
theorem zmX (i:Nat)(hu:X.A.units+1<Wz)(hi:PuE X ei ti)(hv:PuE X ev tv)(hN:X.N[i]? = some x:=by rfl)(hvs:Vis X.env.scope x:=by first | exact Or.inl rfl | exact Or.inr (Or.inl rfl) | exact Or.inr (Or.inr rfl))(hd:(x == ("__debug__" : Str))=false:=by decide) (hcd:(x == ("__classdict__" : Str))=false:=by decide)
  (hs:WF ev (some (.Subscript (.Name x p) ei pos')) pos.line X.env=pure false:=by rfl):PuS X (.Assign [.Subscript (.Name x p) ei pos'] ev pos) (zcp i ti tv) where
 mono ρ O O' m h:=hv.mono ρ _ _ (λd k ⟨hk,ks,ds,e1,e2,h⟩=>⟨hk,ks,ds,e1,e2,hi.mono ρ _ _ (λe _ ⟨c,q1,q⟩=>⟨c,q1,m.nx _ q⟩) h⟩) h
 run:=PS.weak (zrb hu (zcE hN hvs hd hcd) hi.run hv.run hs) λD σ H h=>by
  obtain⟨ρ,Fz,R,h⟩:=h;refine⟨ρ,Fz,R,hv.mono ρ _ _ (λd k q v F1 H1 p1=>?_) h⟩;obtain⟨hk,ks,ds,e1,e2,q⟩:=q;obtain⟨F2,x2,s2,d2⟩:=p1.frozen (zjo hk);have R2:=R.ext x2;obtain⟨a,xs,hs,ha,_,hd,nf⟩:=zqb R2 e1;refine⟨_,hs,ρ,F2,R2,hi.mono ρ _ _ (λe ke q u F3 H3 p3=>?_) q⟩;obtain⟨c,rfl,q⟩:=q;have R3:=R2.ext p3.ext;obtain⟨a',xs',hs',ha',hl',hd',nf'⟩:=zqb R3 e1;rw[hs]at hs';cases hs';obtain rfl:=zhr (p3.root R2);refine⟨a,_,rfl,DPut.k ha' (by rw[Yp];lia),?_⟩;have d3:=Den.mono (.of p3.ext.same) p3.ext.sub _ _ d2;have x3:=x2.trans p3.ext;have ow:Own X.K F3 (upd H3 a (.dK (putK (ks.zip xs') c v))) (if hasK ks c=true then .dK ks (putD ks ds c d) else .dK (ks++[c]) (ds++[d])) a:=by
   unfold putK;rw[zrC hl'];by_cases hc:hasK ks c=true
   ·rw[if_pos hc,if_pos hc,zrB];exact⟨_,zap,by simp[hl'],DenL.rew' ha' (λz=>z) nf' (zmW c d3 ks ds xs' hd')⟩
   ·rw[if_neg hc,if_neg hc];refine⟨xs'++[v],?_,by simp[hl'],DenL.rew' ha' (λz=>z) nf' (DenL.snoc hd' d3)⟩;rw[zap,List.zip_append hl'];rfl
  obtain⟨R4,s4,o4⟩:=R3.mut e1 hs ha' ow;exact q σ F3 _ ((Step.of x3).trans (zaG.refl ρ σ H) s4) (zaG.trans (Step.of x3) (zaG.refl ρ σ H) o4) R4
end
theorem zlt {P:Nat->Wb->Prop}{acc:Array Wb}{xs:List V}(h:ItemsOf P acc xs.length)(f:∀(i:Nat)(v:Wb)(x:V),xs[i]? = some x->P i v->RelV x v):Vals xs acc.toList:=by
 obtain⟨hs,hv⟩:=h;obtain⟨acc⟩:=acc;simp only[Xj]at hs;have:∀(xs:List V) (its:List Wb) (n:Nat),its.length=xs.length->(∀(j:Nat) (v:Wb) (x:V),its[j]? = some v->xs[j]? = some x->RelV x v)->Vals xs its:=by
  intro xs;induction xs with
  | nil=>intro its n hl _;cases its with
   | nil=>exact .nil
   | cons _ _=>simp at hl
  | cons x xs ih=>intro its n hl hr;cases its with
   | nil=>simp at hl
   | cons u us=>exact .cons (hr 0 u x rfl rfl) (ih us n (by simpa using hl) λj v y h1 h2=>hr (j+1) v y (by simpa using h1) (by simpa using h2))
 exact this xs acc 0 hs λj v x h1 h2=>f j v x h2 (hv j v (by simpa using h1))
section
variable {X:Cx}
theorem zlu (hc:X.calm=true):zde X (.type "list") (λxs H Q=>∃x:Str,xs=[V.str x]/\x.length<=Wn/\∀l,H l=none->Q (.ref l) (upd H l (.lst ((signs x).map V.str)))):=by
 intro pins s σ H xs us Q I r h;obtain⟨x,rfl,hz,q⟩:=h;obtain⟨u,rfl,t,rfl⟩:=vals1 r;refine call_list_str (I.ok.hd hc) x t (hn:=hz) λh' tk acc c kp e hacc=>?_;have hl:x.cps.size=((signs x).map V.str).length:=by simp[signs]
 rw[hl]at hacc;have rv:Vals ((signs x).map V.str) acc.toList:=zlt hacc λi v y hy ⟨c,u,hc,ev⟩=>by
  subst ev;have:y=.str ⟨#[c]⟩:=by
   simp only[signs,Xl,Yx,hc,Option.map_some]at hy;exact(Option.some.inj hy).symm
  subst this;exact⟨u,rfl⟩
 exact⟨.ref s.heap.objs.size,_,I.laid (t':=tk) kp (Xf _) (show zbZ X.prog X.w _ h' _ (.lst ((signs x).map V.str)) from⟨by rw[<- hl];exact hz,acc.toList,c,rv,by simpa using e⟩),rfl,q _ (I.hok.fresh (Xf _))⟩
def zcf:PF:=λds Q=>∃x:Str,ds=[.str x]/\x.length<=Wn/\Q (.lst ((signs x).map PV.str)) .new
theorem zoW:zes X.K (λxs H Q=>∃x:Str,xs=[V.str x]/\x.length<=Wn/\∀l,H l=none->Q (.ref l) (upd H l (.lst ((signs x).map V.str)))) zcf where
 mono ds Q Q' m h:=by obtain⟨x,e,e2,q⟩:=h;exact⟨x,e,e2,m _ _ q⟩
 run Fz H ds vs Q al hr h:=by
  obtain⟨x,rfl,e2,q⟩:=h;obtain⟨v,rfl,h1⟩:=zdH hr;exact⟨x,by rw[zbs h1],e2,λl hl=>q _ Fz _ (.newL al hl (zew _))⟩
variable {e:Expr}{es:List Expr}{t:TPA}{p pos:Pos}
theorem zoX (hc:X.calm=true)(hg:Gl X "list") (hm:X.mg "list" = none) (ha:PuA X (e::es) t) (he:Wg (e::es) X.env=(false,WA e X.env)::Wg es X.env:=by rfl) (hpl:(Wy pos (Wg es X.env)).any (·.1)=false:=by rfl):PuE X (.Call (.Name "list" p) (e::es) [] pos) (tB zcf t):=
 zet (zlu hc) zoW hg hm ztt ha (by decide) (by decide) he hpl
theorem zmY (hc:X.calm=true):zde X (.builtin "min") (λxs H Q=>∃i j k,xs=[V.int i,.int j,.int k]/\Q (.int (if j<i then(if k<j then k else j) else(if k<i then k else i))) H):=by
 intro pins s σ H xs us Q I r h;obtain⟨i,j,k,rfl,q⟩:=h;obtain⟨u,us2,rfl,⟨t,rfl⟩,r2⟩:∃u us2,us=u::us2/\RelV (.int i) u/\Vals [V.int j,.int k] us2:=by cases r with | cons a b=>exact⟨_,_,rfl,a,b⟩
 obtain⟨u1,u2,rfl,⟨t1,rfl⟩,⟨t2,rfl⟩⟩:=vals2 r2;refine min_three_ints (I.ok.hd hc) λh' tk kp=>⟨_,H,I.kept kp,?_,q⟩;by_cases h1:j<i
 ·rw[if_pos h1,if_pos h1];by_cases h2:k<j
  ·rw[if_pos h2,if_pos h2];exact⟨_,rfl⟩
  ·rw[if_neg h2,if_neg h2];exact⟨_,rfl⟩
 ·rw[if_neg h1,if_neg h1];by_cases h2:k<i
  ·rw[if_pos h2,if_pos h2];exact⟨_,rfl⟩
  ·rw[if_neg h2,if_neg h2];exact⟨_,rfl⟩
def zdq:PF:=λds Q=>∃i j k:Int,ds=[.int i,.int j,.int k]/\Q (.int (if j<i then(if k<j then k else j) else(if k<i then k else i))) .frz
theorem ztC {K:Xa}{Fz:FZ}{H:Hp}{d e f:PV}{vs:List V}(h:zlq K Fz H [d,e,f] vs):∃v u w,vs=[v,u,w]/\Root K Fz H d v/\Root K Fz H e u/\Root K Fz H f w:=by
 cases h with
 | cons a b=>
  obtain⟨u,w,rfl,h1,h2⟩:=zkg b;exact⟨_,u,w,rfl,a,h1,h2⟩
theorem zrD {K:Xa}:zes K (λxs H Q=>∃i j k,xs=[V.int i,.int j,.int k]/\Q (.int (if j<i then(if k<j then k else j) else(if k<i then k else i))) H) zdq where
 mono ds Q Q' m h:=by obtain⟨i,j,k,e,q⟩:=h;exact⟨i,j,k,e,m _ _ q⟩
 run Fz H ds vs Q al hr h:=by
  obtain⟨i,j,k,rfl,q⟩:=h;obtain⟨u,v,w,rfl,h1,h2,h3⟩:=ztC hr;exact⟨i,j,k,by rw[zax h1,zax h2,zax h3],q _ Fz H (.val al (by simp only[Den]))⟩
theorem zrE (hc:X.calm=true)(hg:Gl X "min") (hm:X.mg "min" = none) (ha:PuA X (e::es) t) (he:Wg (e::es) X.env=(false,WA e X.env)::Wg es X.env:=by rfl) (hpl:(Wy pos (Wg es X.env)).any (·.1)=false:=by rfl):PuE X (.Call (.Name "min" p) (e::es) [] pos) (tB zdq t):=
 zcP (zmY hc) zrD hg hm bMin ha (by decide) (by decide) he hpl
theorem ztD:SlR X (λx lo hi H Q=>∃z:Str,x=.str z/\z.length<=Wn/\Q (.str (Txt.slice z lo hi)) H):=by
 intro pins s σ H x v vl vu lo hi sl Q I rx hs pl pu h;obtain⟨z,rfl,hz,q⟩:=h;obtain⟨t,rfl⟩:=rx;refine⟨"str",_,PySem.F.slot_str_getitem.lookup,typeIs_str _ _ _,?_⟩;have fin:∀(l u:Option (Int×Tok)),s.heap.IsSlice sl l u none->l.map (·.1)=lo->u.map (·.1)=hi->Wi (Wh X.prog X.w) X.A (getItem (.str z t) (.ref sl)) (EP X pins σ Q) X.xe s:=λl u h1 h2 h3=>by
  subst h2 h3;refine wpAny_getItem_str_slice (st:=none) h1 rfl (post_val_or_str ⟨Xx (Txt.slice_le z _ _) hz,λt' k=>?_⟩);exact⟨.str (Txt.slice z (l.map (·.1)) (u.map (·.1))),H,I.tok _,⟨t',rfl⟩,q⟩
 cases pl with
 | none=>cases pu with
  | none=>exact fin none none hs rfl rfl
  | int j t2=>exact fin none (some (j,t2)) hs rfl rfl
 | int i t1=>cases pu with
  | none=>exact fin (some (i,t1)) none hs rfl rfl
  | int j t2=>exact fin (some (i,t1)) (some (j,t2)) hs rfl rfl
def pSlS (te:TPE)(tl th:TPO):TPE:=λρ Q=>te ρ λd _=>tl ρ λl=>th ρ λu=>∃z:Str,d=.str z/\z.length<=Wn/\Q (.str (Txt.slice z l u)) .frz
variable {e:Expr}{te:TPE}{lo hi:Option Expr}{tl th:TPO}{p2 pos:Pos}
theorem zmZ (he:PuE X e te)(hl:PuO X lo tl)(hu:PuO X hi th):PuE X (.Subscript e (.Slice lo hi none p2) pos) (pSlS te tl th) where
 mono ρ Q Q' m h:=he.mono ρ _ _ (λd k h=>hl.mono ρ _ _ (λl h=>hu.mono ρ _ _ (λu ⟨ds,e,e2,q⟩=>⟨ds,e,e2,m _ _ q⟩) h) h) h
 run:=PE.weak (zjO ztD he.run hl.run hu.run) λσ H Q h=>by
  obtain⟨ρ,Fz,R,h⟩:=h;refine⟨ρ,Fz,R,he.mono ρ _ _ (λd k q v F1 H1 p1=>?_) h⟩;refine⟨ρ,F1,R.ext p1.ext,hl.mono ρ _ _ (λl q F2 H2 x2=>?_) q⟩;refine⟨ρ,F2,(R.ext p1.ext).ext x2,hu.mono ρ _ _ (λu q3 F3 H3 x3=>?_) q⟩;obtain⟨z,e3,e4,q4⟩:=q3;subst e3;exact⟨z,zbs (p1.root R),e4,q4 _ F3 _ ((Post.val x3.al (by simp only[Den])).behind (p1.ext.trans (x2.trans x3)))⟩
end
theorem hu1 {A:Wu}(h:A.units+16<Wz):A.units+1<Wz:=by lia
abbrev PFM:=PV->List PV->(PV->PV->Prop)->Prop
structure FOut where
 nx:PEnv->Prop
 rt:PEnv->Prop
structure FOut.le (O O':FOut):Prop where
 nx:∀ρ,O.nx ρ->O'.nx ρ
 rt:∀ρ,O.rt ρ->O'.rt ρ
abbrev TPF:=PEnv->FOut->Prop
inductive BX where
 | L (ds:List PV)
 | K (ks:List Key) (ds:List PV)
 | T (ks:List (List Key)) (ds:List PV)
def BX.ok:BX->Prop
 | .L _=>True
 | .K ks ds=>ks.length=ds.length
 | .T ks ds=>ks.length=ds.length
def BX.obj:BX->List We->HO
 | .L _,bs=>.lst (bs.map V.ref)
 | .K ks _,bs=>.dK (ks.zip (bs.map V.ref))
 | .T ks _,bs=>.dT (ks.zip (bs.map V.ref))
structure BOut where
 nx:PEnv->BX->Prop
 rt:PV->Kd->Prop
 bk:PEnv->BX->Prop
 ct:PEnv->BX->Prop
structure BOut.le (O O':BOut):Prop where
 nx:∀ρ β,O.nx ρ β->O'.nx ρ β
 rt:∀d k,O.rt d k->O'.rt d k
 bk:∀ρ β,O.bk ρ β->O'.bk ρ β
 ct:∀ρ β,O.ct ρ β->O'.ct ρ β
abbrev TPB:=PEnv->BX->BOut->Prop
theorem Rel.unset {K:Xa}{Fz:FZ}{ρ:PEnv}{σ:St}{H:Hp}{i:Nat}{v:V}(R:Rel K Fz ρ σ H):Rel K Fz (ρ.set i none) (σ.set i (some v)) H:=by
 have ne:∀(j:Nat) (p:PV×Bool),(ρ.set i none)[j]? = some (some p)->i≠j/\ρ[j]? = some (some p):=λj p h=>by
  have nj:i≠j:=λz=>by
   subst z;by_cases hi:i<ρ.length
   ·rw[Xp hi]at h;cases h
   ·rw[XV (by lia),XQ (by lia)]at h;cases h
  rw[Xk nj]at h;exact⟨nj,h⟩
 refine⟨R.al,by rw[Yk,Yk];exact R.len,λj d h=>?_,λj d h=>?_,λj k d e a h1 h2 h3 h4=>?_⟩
 ·obtain⟨nj,h⟩:=ne j _ h;rw[Xk nj];exact R.frz j d h
 ·obtain⟨nj,h⟩:=ne j _ h;rw[Xk nj];exact R.own j d h
 ·obtain⟨nj,h1⟩:=ne j _ h1;obtain⟨nk,h2⟩:=ne k _ h2;rw[Xk nj]at h3;rw[Xk nk]at h4;exact R.inj j k d e a h1 h2 h3 h4
end PL
namespace L2
open PySem PySem.Spec PyProof.Rows
section
variable {X:Cx}{pins:List (We×Obj)}{σ:List (Option V)}{H:Hp}{s:Wd}{h':Heap}
theorem Inv.zfP {t':Nat}{ch:List We}(I:Inv X pins σ H s)(k:∀b o,b∉ch->s.heap.get? b=some o->h'.get? b=some o)(hf:∀b∈ch,FpOk X pins H b):Inv X pins σ H { s with heap:=h',toks:=t' }:=by
 have nit:∀b u,H b=some u->b∉ch:=λb u e z=>by rw[(hf b z).1]at e;cases e
 refine I.step (g':=s.gens) (d':=s.drawn) (ch:=ch) (λb hb=>?_) (λb o _ _ hc e _=>k b o hc e) (λb o _ _ hc e _=>⟨o.slots,k b o hc e⟩) (λ_ _ _ _ n=>n)
  (λb o hc e=>⟨o,k b o hc e⟩) (λ_ _ e=>e) (λ_ _ _ e=>e) (λb ps e=>⟨#[],by rw[e];simp⟩) (λm hm=>?_) (λb u e=>?_) I.bare
 ·obtain⟨_,f1,_,f3,f4,f5⟩:=hf b hb;exact⟨f3,f1,f4,f5⟩
 ·obtain⟨o,es,ep,ho,r⟩:=hm;exact⟨o,es,ep,k _ o (λz=>(hf _ z).2.1 rfl) ho,r⟩
 ·refine(I.hok b u e).stay (λc v hc q=>k c v ?_ q) (λ_ q=>q) λ_ _ q=>q;rcases hc with z | z
  ·rw[z];exact nit b u e
  ·exact nit c _ z
end
def Ite (K:Xa)(a:We):It:=
 ⟨λi H=>∃xs x,SqL K H a xs/\xs[i]? = some x,λi H x H'=>∃p y,x=.ref p/\H p=none/\(∀xs,SqL K H a xs->xs[i]? = some y)/\H'=upd H p (.tup [.int (i:Int),y]),λi H=>∃xs,SqL K H a xs/\xs.length<=i⟩
theorem zna {P:Wl}{w:Wt}{K:Xa}{elts:List Expr}{x1:Nat}{pos:Pos}(a e it:We)(hne:e≠it):Turn P w K (.Tuple elts x1 pos) (Ite K a) [e,it] e (λi h=>(∃old,IsEnum h e it (i:Int) old)/\h.IsListIter it a i) where
 mem:=by simp
 obj:=λi h st b hb=>by
  obtain⟨⟨old,he⟩,o,ho,c,d⟩:=st;rcases Xo.mp hb with rfl | hb
  ·exact⟨_,he,λv z=>by cases z⟩
  ·have:=Xv.mp hb;subst this;exact⟨o,ho,λv z=>by rw[d]at z;cases z⟩
 keep:=λi h h' st k=>by
  obtain⟨⟨old,he⟩,hit⟩:=st;exact⟨⟨old,k e (by simp) _ he⟩,hit.at λo q=>k it (by simp) o q⟩
 item:=by
  intro X hP hw hK hc i pins s σ H E I hf st hg;subst hP hw hK;obtain⟨⟨old,he⟩,hit⟩:=st;obtain⟨xs,x,hq,hx⟩:=hg;obtain⟨its,rv,p,hz⟩:=I.list hq;obtain⟨u,hu,ru⟩:=rv.get hx;have hfr:H s.heap.objs.size=none:=I.hok.fresh (Xf _);have heS:e<s.heap.objs.size:=Xs he;have hiS:it<s.heap.objs.size:=by obtain⟨o,ho,_⟩:=id hit;exact Xs ho
  refine wpAny_pyNext_enum_item he hit p.isList (x:=u) (by simpa using hu) hne λh1 heo hit1 ht1 hz1 hk1=>⟨.ref s.heap.objs.size,rfl,?_⟩;refine wpAny_letOwnedTupleGo_enum heo λh2 he2 hs2=>?_;replace hs2:Yi e h1 h2:=hs2;have I1:=I.laid (a:=s.heap.objs.size) (o:=.tup [.int (i:Int),x]) (h':=s.heap.push { cls:=.type "tuple",data:=.seq #[.int i s.toks,u] }) (t':=s.toks+1) (λb u e=>Xd _ e) (Xf _)
   ⟨by show 2<=Wn;decide,[.int i s.toks,u],.cons ⟨_,rfl⟩ (.cons ru .nil),zdb.new _ _⟩
  have hfp:∀b∈[e,it],FpOk X pins (upd H s.heap.objs.size (.tup [.int (i:Int),x])) b:=λb hb=>by
   obtain⟨f0,fr⟩:=hf b hb;have hbS:b≠s.heap.objs.size:=by
    rcases Xo.mp hb with rfl | hb
    ·exact XB heS
    ·rw[Xv.mp hb];exact XB hiS
   exact⟨by rw[zak hbS];exact f0,fr⟩
  have I2:=I1.zfP (h':=h2) (t':=s.toks+1) (ch:=[e,it]) (λb o hb eb=>by
   have hb1:b≠e:=λz=>hb (by simp[z]);have hb2:b≠it:=λz=>hb (by simp[z]);refine(hs2.2 b hb1).trans ?_;rcases Heap.get?_push_cases eb with ⟨rfl,rfl⟩ | eb
   ·exact ht1
   ·exact hk1 b o hb1 hb2 eb) hfp
  refine⟨.ref s.heap.objs.size,_,I2,rfl,⟨_,x,rfl,hfr,λys hy=>by rw[I.zeg hy hq];exact hx,rfl⟩,⟨⟨u,?_⟩,?_⟩,λb hb=>(hfp b hb).1⟩
  ·have:((i+1:Nat):Int)=(i:Int)+1:=by lia
   rw[this];exact he2
  ·exact hit1.extBut hs2.extBut (Ne.symm hne)
 done:=by
  intro X hP hw hK hc i pins s σ H E I hf st hg;subst hP hw hK;obtain⟨⟨old,he⟩,hit⟩:=st;obtain⟨xs,hq,hx⟩:=hg;obtain⟨its,rv,p,hz⟩:=I.list hq;have hl:=rv.length;obtain⟨f0,f1,f2,f3,f4,f5⟩:=hf it (by simp);exact wpAny_pyNext_enum_end (I.ok.hd hc) he hit p.isList (by simp;lia) λh' eb=>⟨rfl,I.turned (t':=s.toks) (λb o hb e=>eb b o hb e) f0 f1 f3 f4 f5⟩
 self:=λ_ _ _ _ _ st h=>by obtain⟨⟨old,he⟩,_⟩:=st;exact wpAny_pyIter_enum he h
section
variable {X:Cx}{elts:List Expr}{x1:Nat}{tpos p pos:Pos}{e e2:Expr}{te te2:TE}
theorem zfQ:Ww "enumerate" = some (.type "enumerate"):=by decide +kernel
def zvf (K:Xa)(te:TE):TI:=λσ H R=>te σ H λx H1=>∃a,x=.ref a/\(∃xs,SqL K H1 a xs)/\R (Ite K a) H1
theorem zrF (hg:Gl X "enumerate") (hm:X.mg "enumerate" = none) (he:PE X e te) (hs1:Wg [e] X.env=(false,WA e X.env)::Wg [] X.env:=by rfl) (hpl1:(Wy pos (Wg [] X.env)).any (·.1)=false:=by rfl) :
  PI X (.Tuple elts x1 tpos) (.Call (.Name "enumerate" p) [e] [] pos) (zvf X.K te):=by
 intro pins s σ H R I h;refine WO (zfu I hg hm zfQ ?_ (by decide) (by decide));refine PyProof.Rows.callWith_type1 ?_ hs1 hpl1;rw[hs1];show Wi _ _ (spliced ((false,WA _ X.env)::Wy pos (Wg [] X.env))) _ _ s;refine Calls.spliced_cons (thn (he pins s σ H _ I h) λu s1 ⟨x,H1,I1,r1,a,ex,⟨xs,hq⟩,q⟩=>Calls.spliced_nil ?_);subst ex;obtain rfl:u=Value.ref a:=r1;obtain⟨its,r,pl,hz⟩:=I1.list hq;refine call_enumerate_list pl.isList λh' hE hit hsz hk=>?_;refine wpAny_pyIter_enum (s:={ s1 with heap:=h' }) hE ?_;have I2:Inv X pins σ H1 { s1 with heap:=h' }:=I1.kept (t':=s1.toks) hk;refine⟨s1.heap.objs.size+1,[s1.heap.objs.size+1,s1.heap.objs.size],_,_,H1,rfl,I2,zna a _ _ (Nat.succ_ne_self _),⟨⟨_,hE⟩,hit⟩,λb hb=>?_,q⟩;have hb':s1.heap.objs.size<=b:=by
  rcases Xo.mp hb with rfl | hb
  ·exact Yu _
  ·rw[Xv.mp hb];exact Xf _
 exact I1.fpOk hb' (I1.hok.fresh hb')
end
end L2
namespace PL
open PySem PySem.Spec L2
open PyProof.Rows hiding St
def zjp (ds:List PV):List PV:=(Xz ds.length).map λ(i:Nat)=>.tup [.int (i:Int),ds.getD i .non]
theorem zfR {ds:List PV}{i:Nat}{d:PV}(h:(zjp ds)[i]? = some d):∃x,ds[i]? = some x/\d=.tup [.int (i:Int),x]:=by
 unfold zjp at h;rw[Xl]at h;rcases Nat.lt_or_ge i ds.length with hi | hi
 ·rw[Yw hi]at h;cases h;exact⟨ds[i],Xg hi,by show PV.tup [PV.int (i:Int),ds.getD i PV.non]=_;rw[XA,Xg hi];rfl⟩
 ·rw[XQ (by simpa using hi)]at h;cases h
theorem zfS (ds:List PV):(zjp ds).length=ds.length:=by simp[zjp]
def zcq (te:TPE):TPI:=λρ Q=>te ρ λd k=>∃ds,d=.lst ds/\Q (zjp ds) (isOwn k)
section
variable {X:Cx}{elts:List Expr}{x1:Nat}{tpos p pos:Pos}{e:Expr}{te:TPE}
theorem zkm (hg:Gl X "enumerate") (hm:X.mg "enumerate" = none) (he:PuE X e te) (hs1:Wg [e] X.env=(false,WA e X.env)::Wg [] X.env:=by rfl) (hpl1:(Wy pos (Wg [] X.env)).any (·.1)=false:=by rfl) :
  PuI X (.Tuple elts x1 tpos) (.Call (.Name "enumerate" p) [e] [] pos) (zcq te) where
 mono ρ Q Q' m h:=he.mono ρ _ _ (λd k ⟨ds,e,q⟩=>⟨ds,e,m _ _ q⟩) h
 run:=PI.weak (zrF hg hm he.run hs1 hpl1) λσ H Rr h=>by
  obtain⟨ρ,Fz,R,h⟩:=h;refine⟨ρ,Fz,R,he.mono ρ _ _ (λd k q v Fz' H' p=>?_) h⟩;obtain⟨ds,e,q⟩:=q;subst e;have rt:=p.root R;obtain⟨a,xs,rfl,h1,h2⟩:=zas rt;refine⟨a,rfl,⟨xs,h1⟩,?_⟩;have one:∀(F2:FZ) (H2:Hp) (zs:List V),SqL X.K H2 a zs->DenL X.K F2 H2 ds zs->∀i:Nat,(∀d,(zjp ds)[i]? = some d->(Ite X.K a).go i H2/\∀x H3,(Ite X.K a).yld i H2 x H3->Same H2 H3/\Den X.K F2 H3 d x)/\((zjp ds).length<=i->(Ite X.K a).stop i H2):=λF2 H2 zs g1 g3 i=>by
   have hl:=g3.length;refine⟨λd hd=>?_,λhi=>⟨zs,g1,by rw[zfS]at hi;lia⟩⟩;obtain⟨x,hx,rfl⟩:=zfR hd;obtain⟨v,q1,q2⟩:=g3.get hx;refine⟨⟨zs,v,g1,q1⟩,λy H3 ⟨pp,w,ey,hn,gy,e3⟩=>?_⟩;subst ey e3;have exy:=gy zs g1;rw[q1]at exy;cases exy;have sm:Same H2 (upd H2 pp (.tup [.int (i:Int),v])):=λb o hb=>by rw[zak (zaB hb hn)];exact hb
   refine⟨sm,?_⟩;simp only[Den];exact⟨pp,_,rfl,zap,DenL.cons (by simp only[Den]) (DenL.cons (Den.mono (.of sm) (λ_ h=>h) _ _ q2) DenL.nil)⟩
  cases k with
  | own i=>
   refine q _ Fz' H' p.ext λH2 hH=>?_;rcases hH with hH | ⟨z,_⟩
   ·exact one Fz' H2 xs (hH.seq h1) (DenL.mono (.of hH) (λ_ h=>h) _ _ h2)
   ·cases z
  | frz=>
   have pd:Den X.K Fz' H' (.lst ds) (.ref a):=p.opd;simp only[Den]at pd;obtain⟨a',xs',e,h3,h4⟩:=pd;cases e;refine q _ Fz' H' p.ext λH2 hH=>?_;have kp:Keep Fz' H' H2:=hH.elim (λz=>.of z) (λz=>.mk' z.2);exact one Fz' H2 xs' (h3.elim (λh=>.inl (kp.rd trivial h.1 h.2)) KX.sq) (DenL.mono kp (λ_ h=>h) _ _ h4)
  | new=>
   obtain⟨b,e,hn,nf,o⟩:=p.opd;cases e;obtain⟨xs',o1,o2⟩:=o;refine q _ (λb=>Fz' b\/b=a) H' (p.ext.add hn (by rw[o1];exact λz=>nomatch z)) λH2 hH=>?_;have kp:Keep (λb=>Fz' b\/b=a) H' H2:=hH.elim (λz=>.of z) (λz=>.mk' z.2);exact one _ H2 xs' (.inl (kp.rd trivial (.inr rfl) (.inl o1))) (DenL.mono kp (λ_ h=>h) _ _ (DenL.mono (Keep.of (Same.refl _)) (λ_ h=>.inl h) _ _ o2))
end
abbrev zvs:=List PV->(List Str->List PV->Prop)->Prop
section
variable {X:Cx}{e:Expr}{te:TPE}{es:List Expr}{t:TPA}{p pos:Pos}
def znb:List V->Hp->VK->Prop:=λxs H Q=>∃(a:We)(kvs:List (Key×V)),xs=[V.ref a]/\Rd H a (.dK kvs)/\∀l,H l=none->Q (.ref l) (upd H l (.dK kvs))
theorem zjq:zde X (.type "dict") znb:=by
 intro pins s σ H xs us Q I r h;obtain⟨a,kvs,rfl,ha,q⟩:=h;obtain⟨u,rfl,rx⟩:=vals1 r;cases rx;obtain⟨hz,hs,vs,kv,hd⟩:=zjg I.hok ha;have hne:s.heap.objs.size≠W3:=YN I.big;refine kt_call_dict (knd:=zbv X.prog X.w) hs hd (by rw[<- kv.length];exact hz) λh' hD sb=>?_;refine⟨.ref s.heap.objs.size,_,I.laid (t':=s.toks) (o:=.dK kvs) (λb o e=>?_) (Xf _) (zpV hz (by simpa using hne) kv hD),rfl,q _ I.fresh⟩;exact(sb.2 b (XB (Xs e))).trans (Xd _ e)
def zbn:PF:=λds Q=>∃ks es,ds=[.dK ks es]/\Q (.dK ks es) .new
theorem znc {K:Xa}:zes K znb zbn where
 mono ds Q Q' m h:=by obtain⟨ks,es,e,q⟩:=h;exact⟨ks,es,e,m _ _ q⟩
 run Fz H ds vs Q al hr h:=by
  obtain⟨ks,es,rfl,q⟩:=h;obtain⟨v,rfl,h1⟩:=zdH hr;simp only[Root]at h1;obtain⟨a,xs,rfl,h2,h3,h4⟩:=h1;refine⟨a,_,rfl,h2,λl hl=>q _ Fz _ ⟨Ext.laid ⟨Same.refl _,λ_ h=>h,λ_ h=>.inl h,al⟩ hl,l,rfl,hl,λz=>al l z hl,?_⟩⟩;exact⟨xs,zap,h3,DenL.mono (.of ((Same.refl H).upd' hl)) (λ_ h=>h) _ _ h4⟩
theorem znd (hg:Gl X "dict") (hm:X.mg "dict" = none) (ha:PuA X (e::es) t) (he:Wg (e::es) X.env=(false,WA e X.env)::Wg es X.env:=by rfl) (hpl:(Wy pos (Wg es X.env)).any (·.1)=false:=by rfl):PuE X (.Call (.Name "dict" p) (e::es) [] pos) (tB zbn t):=
 zet zjq znc hg hm zvc ha (by decide) (by decide) he hpl
end
end PL
namespace L2
open PySem PySem.Spec PyProof.Rows
def Itz (K:Xa)(a b:We):It:=
  ⟨λi H=>∃xs ys x y,SqL K H a xs/\xs[i]? = some x/\SqL K H b ys/\ys[i]? = some y,
   λi H x H'=>∃p u v,x=.ref p/\H p=none/\(∀xs,SqL K H a xs->xs[i]? = some u)/\(∀ys,SqL K H b ys->ys[i]? = some v)/\H'=upd H p (.tup [u,v]),
   λi H=>∃xs ys,SqL K H a xs/\SqL K H b ys/\(xs.length<=i\/ys.length<=i)⟩
theorem zoY {P:Wl}{w:Wt}{K:Xa}{elts:List Expr}{x1:Nat}{pos:Pos}(a b z TI TO i1 i2:We)(D:ZipApart z TI TO i1 i2 a b) :
  Turn P w K (.Tuple elts x1 pos) (Itz K a b) [z,TI,TO,i1,i2] z (λi h=>IsZip h z TI TO .none/\W6 h TI (.ref i1) (.ref i2)/\(∃u v,W6 h TO u v)/\h.IsListIter i1 a i/\h.IsListIter i2 b i) where
 mem:=by simp
 obj:=λi h st c hc=>by
  obtain⟨h1,h2,⟨u,v,h3⟩,⟨o4,h4,_,d4⟩,⟨o5,h5,_,d5⟩⟩:=st;simp only[Xo,YD,or_false]at hc;rcases hc with rfl | rfl | rfl | rfl | rfl
  ·exact⟨_,h1,λv z=>by cases z⟩
  ·exact⟨_,h2,λv z=>by cases z⟩
  ·exact⟨_,h3,λv z=>by cases z⟩
  ·exact⟨_,h4,λv z=>by rw[d4]at z;cases z⟩
  ·exact⟨_,h5,λv z=>by rw[d5]at z;cases z⟩
 keep:=λi h h' st k=>by
  obtain⟨h1,h2,⟨u,v,h3⟩,h4,h5⟩:=st;exact⟨k z (by simp) _ h1,k TI (by simp) _ h2,⟨u,v,k TO (by simp) _ h3⟩,h4.at λo q=>k i1 (by simp) o q,h5.at λo q=>k i2 (by simp) o q⟩
 item:=by
  intro X hP hw hK hc i pins s σ H E I hf st hg;subst hP hw hK;obtain⟨h1,h2,⟨c1,c2,h3⟩,h4,h5⟩:=st;obtain⟨xs,ys,x,y,hq,hx,hq2,hy⟩:=hg;obtain⟨its,rv,p,hz⟩:=I.list hq;obtain⟨u,hu,ru⟩:=rv.get hx;obtain⟨its2,rv2,p2,hz2⟩:=I.list hq2;obtain⟨u2,hu2,ru2⟩:=rv2.get hy;have hfr:H s.heap.objs.size=none:=I.hok.fresh (Xf _);have lt:∀c∈[z,TI,TO,i1,i2],c<s.heap.objs.size:=λc hc=>by
   simp only[Xo,YD,or_false]at hc;rcases hc with rfl | rfl | rfl | rfl | rfl
   ·exact Xs h1
   ·exact Xs h2
   ·exact Xs h3
   ·obtain⟨o,ho,_⟩:=id h4;exact Xs ho
   ·obtain⟨o,ho,_⟩:=id h5;exact Xs ho
  refine wpAny_pyNext_zip_item D h1 h2 h3 h4 h5 p.isList p2.isList (x:=u) (y:=u2) (by simpa using hu) (by simpa using hu2) λhp1 g1 g3 g4 g5 gt gz gk=>⟨.ref s.heap.objs.size,rfl,?_⟩;refine wpAny_letOwnedTupleGo_zip g1 λhp2 k1 ks=>?_;replace ks:Yi z hp1 hp2:=ks;have I1:=I.laid (a:=s.heap.objs.size) (o:=.tup [x,y]) (h':=s.heap.push { cls:=.type "tuple",data:=.seq #[u,u2] }) (t':=s.toks) (λb u e=>Xd _ e) (Xf _)
   ⟨by show 2<=Wn;decide,[u,u2],.cons ru (.cons ru2 .nil),zdb.new _ _⟩
  have hfp:∀c∈[z,TI,TO,i1,i2],FpOk X pins (upd H s.heap.objs.size (.tup [x,y])) c:=λc hc=>by
   obtain⟨f0,fr⟩:=hf c hc;exact⟨by rw[zak (XB (lt c hc))];exact f0,fr⟩
  have I2:=I1.zfP (h':=hp2) (t':=s.toks) (ch:=[z,TI,TO,i1,i2]) (λc o hc ec=>by
   have n1:c≠z:=λe=>hc (by simp[e]);refine(ks.2 c n1).trans ?_;rcases Heap.get?_push_cases ec with ⟨rfl,rfl⟩ | ec
   ·exact gt
   ·exact gk c o n1 (λe=>hc (by simp[e])) (λe=>hc (by simp[e])) (λe=>hc (by simp[e])) ec) hfp
  refine⟨.ref s.heap.objs.size,_,I2,rfl,⟨_,x,y,rfl,hfr,λzs hz=>by rw[I.zeg hz hq];exact hx,λzs hz=>by rw[I.zeg hz hq2];exact hy,rfl⟩,⟨k1,?_,⟨u,u2,?_⟩,?_,?_⟩,λc hc=>(hfp c hc).1⟩
  ·exact(ks.2 TI D.TIz).trans (gk TI _ D.TIz D.TITO D.TIi1 D.TIi2 h2)
  ·exact(ks.2 TO D.TOz).trans g3
  ·exact g4.extBut ks.extBut D.i1z
  ·exact g5.extBut ks.extBut D.i2z
 done:=by
  intro X hP hw hK hc i pins s σ H E I hf st hg;subst hP hw hK;obtain⟨h1,h2,⟨c1,c2,h3⟩,h4,h5⟩:=st;obtain⟨xs,ys,hq,hq2,hx⟩:=hg;obtain⟨its,rv,p,hz⟩:=I.list hq;obtain⟨its2,rv2,p2,hz2⟩:=I.list hq2;have hl:=rv.length;have hl2:=rv2.length;refine wpAny_pyNext_zip_end (I.ok.hd hc) D h1 h2 h3 h4 h5 p.isList p2.isList (hx.imp (λe=>by simp;lia) (λe=>by simp;lia)) λh' gk=>⟨rfl,?_⟩;exact I.zfP (t':=s.toks) (ch:=[z,TI,TO,i1,i2]) (λc o hc ec=>gk c o (λe=>hc (by simp[e])) (λe=>hc (by simp[e])) (λe=>hc (by simp[e])) (λe=>hc (by simp[e])) ec) hf
 self:=λ_ _ _ _ _ st h=>wpAny_pyIter_zip st.1 h
section
variable {X:Cx}{elts:List Expr}{x1:Nat}{tpos p pos:Pos}{e e2:Expr}{t:TA}
theorem ziu:Ww "zip" = some (.type "zip"):=by decide +kernel
def iZip (K:Xa)(t:TA):TI:=λσ H R=>t σ H λvs H1=>∃a b,vs=[.ref a,.ref b]/\(∃xs,SqL K H1 a xs)/\(∃ys,SqL K H1 b ys)/\R (Itz K a b) H1
theorem ztE (hg:Gl X "zip") (hm:X.mg "zip" = none) (ha:PA X [e,e2] t) (he:Wg [e,e2] X.env=(false,WA e X.env)::Wg [e2] X.env:=by rfl) (hpl:(Wy pos (Wg [e2] X.env)).any (·.1)=false:=by rfl) :
  PI X (.Tuple elts x1 tpos) (.Call (.Name "zip" p) [e,e2] [] pos) (iZip X.K t):=by
 intro pins s σ H R I h;refine WO (zfu I hg hm ziu ?_ (by decide) (by decide));refine PyProof.Rows.callWith_type1 (thn (ha pos pins s σ H _ I h) λus s1 ⟨vs,H1,I1,r1,a,b,ev,⟨xs,hq⟩,⟨ys,hq2⟩,q⟩=>?_) he hpl;subst ev;obtain⟨u1,u2,rfl,r2,r3⟩:=vals2 r1;obtain rfl:u1=Value.ref a:=r2;obtain rfl:u2=Value.ref b:=r3;obtain⟨its,r,pl,hz⟩:=I1.list hq;obtain⟨its2,r',pl2,hz2⟩:=I1.list hq2;have ha':@LT.lt Nat _ a s1.heap.objs.size:=by obtain⟨o,ho,_⟩:=pl.isList;exact Xs ho
 have hb':@LT.lt Nat _ b s1.heap.objs.size:=by obtain⟨o,ho,_⟩:=pl2.isList;exact Xs ho
 refine call_zip_2 pl.isList pl2.isList λh' g1 g2 g3 g4 g5 gz gk=>?_;refine wpAny_pyIter_zip (s:={ s1 with heap:=h' }) g1 ?_;have I2:Inv X pins σ H1 { s1 with heap:=h' }:=I1.kept (t':=s1.toks) gk;have D:ZipApart (s1.heap.objs.size+4) (s1.heap.objs.size+2) (s1.heap.objs.size+3) s1.heap.objs.size (s1.heap.objs.size+1) a b:=by constructor<;>first | exact XB (by lia) | exact YN (by lia)
 refine⟨_,_,_,_,H1,rfl,I2,zoY a b _ _ _ _ _ D,⟨g1,g2,⟨_,_,g3⟩,g4,g5⟩,λc hc=>?_,q⟩;have hc':s1.heap.objs.size<=c:=by
  simp only[Xo,YD,or_false]at hc;rcases hc with rfl | rfl | rfl | rfl | rfl<;>lia
 exact I1.fpOk hc' (I1.hok.fresh hc')
end
end L2
namespace PL
open PySem PySem.Spec L2
open PyProof.Rows hiding St
def zipP (ds es:List PV):List PV:=List.zipWith (λd e=>.tup [d,e]) ds es
theorem zcS {ds es:List PV}{i:Nat}{d:PV}(h:(zipP ds es)[i]? = some d):∃x y,ds[i]? = some x/\es[i]? = some y/\d=.tup [x,y]:=by
 unfold zipP at h;rw[List.getElem?_zipWith]at h;cases h1:ds[i]? with
 | none=>rw[h1]at h;cases h
 | some x=>
  cases h2:es[i]? with
  | none=>rw[h1,h2]at h;cases h
  | some y=>rw[h1,h2]at h;cases h;exact⟨x,y,rfl,rfl,rfl⟩
theorem zcw (ds es:List PV):(zipP ds es).length=min ds.length es.length:=by simp[zipP]
def zdW (t:TPA):TPI:=λρ Q=>t ρ λops=>noOwn ops=true/\∃ds es,ops.map (·.1)=[.lst ds,.lst es]/\Q (zipP ds es) false
section
variable {X:Cx}{elts:List Expr}{x1:Nat}{tpos p pos:Pos}{e e2:Expr}{t:TPA}
theorem zhs (hg:Gl X "zip") (hm:X.mg "zip" = none) (ha:PuA X [e,e2] t) (he:Wg [e,e2] X.env=(false,WA e X.env)::Wg [e2] X.env:=by rfl) (hpl:(Wy pos (Wg [e2] X.env)).any (·.1)=false:=by rfl) :
  PuI X (.Tuple elts x1 tpos) (.Call (.Name "zip" p) [e,e2] [] pos) (zdW t) where
 mono ρ Q Q' m h:=ha.mono ρ _ _ (λops ⟨e1,ds,es,e,q⟩=>⟨e1,ds,es,e,m _ _ q⟩) h
 run:=PI.weak (ztE hg hm ha.run he hpl) λσ H Rr h=>by
  obtain⟨ρ,Fz,R,h⟩:=h;refine⟨ρ,Fz,R,ha.mono ρ _ _ (λops q vs Fz' H' x o=>?_) h⟩;obtain⟨hn,ds,es,eo,q⟩:=q;obtain⟨F2,x2,s2,d2⟩:=o.frozen x hn;rw[eo]at d2;simp only[DenL]at d2;obtain⟨v1,r1,rfl,d1,v2,r2,rfl,d3,rfl⟩:=d2;simp only[Den]at d1 d3;obtain⟨a,xs,rfl,a1,a2⟩:=d1;obtain⟨b,ys,rfl,b1,b2⟩:=d3;have sq:∀ {c:We} {zs:List V} {H2:Hp},Keep F2 H' H2->((F2 c/\Rd H' c (.lst zs))\/KX X.K c zs)->SqL X.K H2 c zs:=λkp h=>h.elim (λh=>.inl (kp.rd trivial h.1 h.2)) KX.sq;refine⟨a,b,rfl,⟨xs,sq (.of (Same.refl _)) a1⟩,⟨ys,sq (.of (Same.refl _)) b1⟩,q _ F2 H' x2 λH2 hH i=>?_⟩;have kp:Keep F2 H' H2:=hH.elim (λz=>.of z) (λz=>.mk' z.2);have g1:=sq kp a1;have g2:=sq kp b1;have m1:=DenL.mono kp (λ_ h=>h) _ _ a2;have m2:=DenL.mono kp (λ_ h=>h) _ _ b2;have l1:=m1.length;have l2:=m2.length;refine⟨λd hd=>?_,λhi=>⟨xs,ys,g1,g2,by rw[zcw]at hi;lia⟩⟩;obtain⟨u,w,hu,hw,rfl⟩:=zcS hd;obtain⟨v,q1,q2⟩:=m1.get hu;obtain⟨v',q3,q4⟩:=m2.get hw;refine⟨⟨xs,ys,v,v',g1,q1,g2,q3⟩,λy H3 ⟨pp,c1,c2,ey,hnp,gy,gy2,e3⟩=>?_⟩;subst ey e3;have e1:=gy xs g1;rw[q1]at e1;cases e1;have e2:=gy2 ys g2;rw[q3]at e2;cases e2;have sm:Same H2 (upd H2 pp (.tup [v,v'])):=λb o hb=>by rw[zak (zaB hb hnp)];exact hb
  refine⟨sm,?_⟩;simp only[Den];exact⟨pp,_,rfl,zap,DenL.cons (Den.mono (.of sm) (λ_ h=>h) _ _ q2) (DenL.cons (Den.mono (.of sm) (λ_ h=>h) _ _ q4) DenL.nil)⟩
end
end PL
namespace JZ
open PySem
section
variable {prog:Wl}{w:Wt}{A:Wu}{E:Wb->Wd->Prop}{s:Wd}
theorem zgK {it t:We}{i:Nat}{items:Array Wb}{x:Wb}{Q:Wb->Wd->Prop}(hit:s.heap.IsTupleIter it t i)(ht:s.heap.IsTuple t items)(hx:items[i]? = some x)(hQ:∀h',h'.IsTupleIter it t (i+1)->Yi it s.heap h'->Q x { s with heap:=h' }) :
  Wi (Wh prog w) A (Builtin.SmallTypes.nextOf (.ref it)) Q E s:=by
 obtain⟨o,ho,hc,hd⟩:=id hit;obtain⟨ol,hol,_,nl,hdl⟩:=ht;unfold Builtin.SmallTypes.nextOf;refine Wa (wpAny_callSpecial?_slot (name:=Str.ofString "__next__") hit.typeIs F.slot_tuple_iterator_next (WE F.slot_tuple_iterator_next hit.typeIs F.entry_tuple_iterator_next ?_ (F.args_tuple_iterator_next_1 _)));show Wi _ _ (field (.ref it) 0 >>= _) _ _ s;refine Wa (WP ho hd (x:=.ref t) rfl ?_);show Wi _ _ (if (Value.ref t == Value.none)=true then _ else _) _ _ s
 rw[if_neg (show ¬ ((Value.ref t == Value.none)=true) from Xr)];show Wi _ _ (field (.ref it) 1 >>= _) _ _ s;refine Wa (WP ho hd (x:=.int i 0) rfl ?_);show Wi _ _ (seqItems? (.ref t) >>= _) _ _ s;refine Wa (WV hol hdl ?_);simp only[Yc,hx];refine Wa (WK ho hd (by simp) (Wf ⟨x,rfl,Wf (hQ _ ⟨_,Yg _ ho (Obj.isFreed_of_fields (Obj.data_mapFields hd _)),(Obj.cls_mapFields ..).trans hc,?_⟩ (Yi.update ..))⟩));rw[Obj.data_mapFields hd];simp[Vi]
abbrev zA (h:Heap)(a:We):Heap:=h.push { cls:=.type "list_iterator",data:=.fields #[.ref a,.int 0 0] }
abbrev zB (h:Heap)(a b:We):Heap:=(zA h a).push { cls:=.type "tuple_iterator",data:=.fields #[.ref b,.int 0 0] }
abbrev zC (h:Heap)(a b:We):Heap:=(zB h a b).push { cls:=.type "tuple",data:=.seq #[.ref h.objs.size,.ref (zA h a).objs.size] }
abbrev zD (h:Heap)(a b:We):Heap:=(zC h a b).push { cls:=.type "tuple",data:=.seq #[.none,.none] }
abbrev zE (h:Heap)(a b:We):Heap:=(zD h a b).push { cls:=.type "zip",data:=.fields #[.none,.bool false,.bool false,.ref (zB h a b).objs.size,.ref (zC h a b).objs.size] }
end
end JZ
namespace JZ2
open PySem
section
variable {prog:Wl}{w:Wt}{A:Wu}{E:Wb->Wd->Prop}{s:Wd}
theorem zht {it l:We}{i:Nat}{items:Array Wb}{Q:Wb->Wd->Prop}(hh:A.handled=none)
  (hit:s.heap.IsTupleIter it l i) (hl:s.heap.IsTuple l items) (hx:items[i]? = none)
  (hE:∀h' e,Heap.ExtBut it s.heap h'->(∃o,h'.get? e=some o/\o.cls=.type "StopIteration")->E (.ref e) { s with heap:=h' }) :
  Wi (Wh prog w) A (Builtin.SmallTypes.nextOf (.ref it)) Q E s:=by
 obtain⟨o,ho,hc,hd⟩:=id hit;obtain⟨ol,hol,_,nl,hdl⟩:=hl;unfold Builtin.SmallTypes.nextOf;refine Wa (wpAny_callSpecial?_slot (name:=Str.ofString "__next__") hit.typeIs F.slot_tuple_iterator_next
  (WE F.slot_tuple_iterator_next hit.typeIs F.entry_tuple_iterator_next ?_ (F.args_tuple_iterator_next_1 _)))
 show Wi _ _ (field (.ref it) 0 >>= _) _ _ s;refine Wa (WP ho hd (x:=.ref l) rfl ?_);show Wi _ _ (if (Value.ref l == Value.none)=true then _ else _) _ _ s
 rw[if_neg (show ¬ ((Value.ref l == Value.none)=true) from Xr)];show Wi _ _ (field (.ref it) 1 >>= _) _ _ s;refine Wa (WP ho hd (x:=.int i 0) rfl ?_);show Wi _ _ (seqItems? (.ref l) >>= _) _ _ s;refine Wa (WV hol hdl ?_);simp only[Yc,hx];refine Wa (WL (Wa (WK ho hd (by simp) ?_)));show Wi _ _ (newExc (.type "StopIteration") [] >>= _) _ _ _;refine Wa ?_;simp only[newExc,newTuple];refine Wa (W1 ?_ (by size_fits));refine Wa (m:=firstArgMember _ _) (wpAny_of_eq (a:=Value.none) (by first | rfl | (simp only[firstArgMember];rfl)) ?_)
 refine W1 ?_ (by size_fits);simp only[raiseNew];refine Wa (wpAny_handled ?_)
 first | rw[show A.in1.handled=none from hh] | rw[hh]
 refine Wa (Wf (wpAny_throw ?_));exact hE _ _ (((Yi.update ..).extBut.push _).push _) ⟨_,Xw _ rfl,rfl⟩
theorem zoZ {z TI TO i1 i2 l1 l2:We}{k1 k2:Nat}{xs ys:Array Wb}{x y a b:Wb}{Q:Wb->Wd->Prop}(D:ZipApart z TI TO i1 i2 l1 l2)(hz:IsZip s.heap z TI TO .none)(hTI:W6 s.heap TI (.ref i1) (.ref i2))(hTO:W6 s.heap TO a b)(h1:s.heap.IsTupleIter i1 l1 k1)(h2:s.heap.IsTupleIter i2 l2 k2)(hl1:s.heap.IsTuple l1 xs)(hl2:s.heap.IsTuple l2 ys)(hx:xs[k1]? = some x)(hy:ys[k2]? = some y)
  (hQ:∀h',IsZip h' z TI TO (Vi s.heap.objs.size)->W6 h' TO x y->h'.IsTupleIter i1 l1 (k1+1)->h'.IsTupleIter i2 l2 (k2+1)->W6 h' s.heap.objs.size x y->h'.objs.size=s.heap.objs.size+1->(∀c o,c≠z->c≠TO->c≠i1->c≠i2->s.heap.get? c=some o->h'.get? c=some o)->Q (.ref s.heap.objs.size) { s with heap:=h' }) :
  Wi (Wh prog w) A (Builtin.«zip.__next__» ⟨[.ref z],[]⟩) (λfin s'=>∃v,fin=.done (.ret v)/\Q v s') E s:=by
 show Wi _ _ (field (.ref z) 2 >>= _) _ _ _;refine Wa (WP hz rfl (x:=.bool false) rfl ?_);show Wi _ _ (field (.ref z) 3 >>= _) _ _ _;refine Wa (WP hz rfl (x:=.ref TI) rfl (Wa (WV hTI rfl ?_)));show Wi _ _ (Builtin.SmallTypes.ownedTupleIsFree (.ref z) >>= _) _ _ _;refine Wa ?_;unfold Builtin.SmallTypes.ownedTupleIsFree;refine Wa (WP hz rfl (x:=.none) rfl (Wf ?_));simp only[if_true];refine Wa (WL (Wa (WP hz rfl (x:=.ref TO) rfl (Wa (W9 hz (by simp) λha qa sa=>?_)))));replace qa:IsZip ha z TI TO .ellipsis:=qa;refine Wa ?_;simp only[List.zipIdx_cons,List.zipIdx_nil,List.forIn_cons,List.forIn_nil];refine Wa (Wa (wpAny_onRaise ?_));show Wi _ _ (Builtin.SmallTypes.nextOf (.ref i1) >>= _) _ _ _;refine Wa (JZ.zgK (h1.extBut sa.extBut D.i1z) (hl1.extBut sa.extBut D.l1z) hx λhb j1 sb=>Wf ?_);have pb:W6 hb TO a b:=sb.extBut _ _ D.TOi1 (sa.extBut _ _ D.TOz hTO);refine Wa (WV pb rfl (Wa (wpAny_updateSeq_pair pb λhc pc sc=>?_)));replace pc:W6 hc TO x b:=pc;refine Wa (wpAny_letGo (Wf (Wa (Wa (wpAny_onRaise ?_)))));show Wi _ _ (Builtin.SmallTypes.nextOf (.ref i2) >>= _) _ _ _;refine Wa (JZ.zgK (((h2.extBut sa.extBut D.i2z).extBut sb.extBut D.i12.symm).extBut sc.extBut D.TOi2.symm) (((hl2.extBut sa.extBut D.l2z).extBut sb.extBut D.l2i1).extBut sc.extBut D.l2TO) hy λhd j2 sd=>Wf ?_);have pd:W6 hd TO x b:=sd.extBut _ _ D.TOi2 pc;refine Wa (WV pd rfl (Wa (wpAny_updateSeq_pair pd λhe pe se=>?_)));replace pe:W6 he TO x y:=pe;refine Wa (wpAny_letGo (Wf (Wf (Wa (WV pe rfl (Wa (wpAny_newTuple ?_)))))));have ez:he.objs.size=s.heap.objs.size:=by rw[se.1,sd.1,sc.1,sb.1,sa.1]
 have qe:IsZip he z TI TO .ellipsis:=se.extBut _ _ D.TOz.symm (sd.extBut _ _ D.i2z.symm (sc.extBut _ _ D.TOz.symm (sb.extBut _ _ D.i1z.symm qa)));have ke:∀c o,c≠z->c≠TO->c≠i1->c≠i2->s.heap.get? c=some o->he.get? c=some o:=λc o c1 c2 c3 c4 e=>se.extBut _ _ c2 (sd.extBut _ _ c4 (sc.extBut _ _ c2 (sb.extBut _ _ c3 (sa.extBut _ _ c1 e))));have m1:he.IsTupleIter i1 l1 (k1+1):=((j1.extBut sc.extBut D.TOi1.symm).extBut sd.extBut D.i12).extBut se.extBut D.TOi1.symm;have m2:he.IsTupleIter i2 l2 (k2+1):=j2.extBut se.extBut D.TOi2.symm;have lz:z<he.objs.size:=Xs qe;show Wi _ _ (Builtin.SmallTypes.ownedTupleHandOut (.ref z) (.ref he.objs.size) >>= _) _ _ _;refine Wa ?_;unfold Builtin.SmallTypes.ownedTupleHandOut;have qf:IsZip (he.push { cls:=.type "tuple",data:=.seq #[x,y] }) z TI TO .ellipsis:=Xd _ qe;refine Wa (W9 qf (by simp) λhg qg sg=>?_);replace qg:IsZip hg z TI TO (Vi he.objs.size):=qg;refine W9 qg (by simp) λhi qi si=>?_;replace qi:IsZip hi z TI TO (Vi he.objs.size):=qi;have up:∀c o,c≠z->he.get? c=some o->hi.get? c=some o:=λc o c1 e=>si.extBut _ _ c1 (sg.extBut _ _ c1 (Xd _ e));have pi:W6 hi he.objs.size x y:=si.extBut _ _ (YN lz) (sg.extBut _ _ (YN lz) (Xw _ rfl));have zi:hi.objs.size=he.objs.size+1:=by rw[si.1,sg.1,Yr]
 rw[ez]at qi pi zi;refine Wf ⟨_,rfl,?_⟩;show Q (.ref he.objs.size) _;rw[ez];exact hQ hi qi (up _ _ D.TOz pe) (m1.at λo e=>up _ o D.i1z e) (m2.at λo e=>up _ o D.i2z e) pi zi λc o c1 c2 c3 c4 e=>up c o c1 (ke c o c1 c2 c3 c4 e)
theorem zrG {z TI TO i1 i2 l1 l2:We}{k1:Nat}{xs:Array Wb}{Q:PySem.Fin->Wd->Prop}(hh:A.handled=none)(D:ZipApart z TI TO i1 i2 l1 l2)(hz:IsZip s.heap z TI TO .none)(hTI:W6 s.heap TI (.ref i1) (.ref i2))(h1:s.heap.IsTupleIter i1 l1 k1)(hl1:s.heap.IsTuple l1 xs)(hx:xs[k1]? = none)
  (hE:∀h' e,(∀c o,c≠z->c≠TO->c≠i1->c≠i2->s.heap.get? c=some o->h'.get? c=some o)->(∃o,h'.get? e=some o/\o.cls=.type "StopIteration")->E (.ref e) { s with heap:=h' }) :
  Wi (Wh prog w) A (Builtin.«zip.__next__» ⟨[.ref z],[]⟩) Q E s:=by
 show Wi _ _ (field (.ref z) 2 >>= _) _ _ _;refine Wa (WP hz rfl (x:=.bool false) rfl ?_);show Wi _ _ (field (.ref z) 3 >>= _) _ _ _;refine Wa (WP hz rfl (x:=.ref TI) rfl (Wa (WV hTI rfl ?_)));show Wi _ _ (Builtin.SmallTypes.ownedTupleIsFree (.ref z) >>= _) _ _ _;refine Wa ?_;unfold Builtin.SmallTypes.ownedTupleIsFree;refine Wa (WP hz rfl (x:=.none) rfl (Wf ?_));simp only[if_true];refine Wa (WL (Wa (WP hz rfl (x:=.ref TO) rfl (Wa (W9 hz (by simp) λha qa sa=>?_)))));replace qa:IsZip ha z TI TO .ellipsis:=qa;refine Wa ?_;simp only[List.zipIdx_cons,List.zipIdx_nil,List.forIn_cons,List.forIn_nil];refine Wa (Wa (wpAny_onRaise ?_));show Wi _ _ (Builtin.SmallTypes.nextOf (.ref i1) >>= _) _ _ _;refine Wa (zht hh (h1.extBut sa.extBut D.i1z) (hl1.extBut sa.extBut D.l1z) hx λhb e sb he=>?_);obtain⟨oe,hoe,hce⟩:=he;have qb:IsZip hb z TI TO .ellipsis:=sb _ _ D.i1z.symm qa;have ne:e≠z:=λy=>by subst y;rw[qb]at hoe;cases hoe;simp at hce
 refine W9 qb (by simp) λhc _ sc=>hE hc e (λc o c1 _ c3 _ y=>sc.extBut _ _ c1 (sb _ _ c3 (sa.extBut _ _ c1 y))) ⟨oe,sc.extBut _ _ ne hoe,hce⟩
theorem next_item {z TI TO i1 i2 l1 l2:We}{k1 k2:Nat}{xs ys:Array Wb}{x y a b:Wb}{Q:Option Wb->Wd->Prop}(D:ZipApart z TI TO i1 i2 l1 l2)(hz:IsZip s.heap z TI TO .none)(hTI:W6 s.heap TI (.ref i1) (.ref i2))(hTO:W6 s.heap TO a b)(h1:s.heap.IsTupleIter i1 l1 k1)(h2:s.heap.IsTupleIter i2 l2 k2)(hl1:s.heap.IsTuple l1 xs)(hl2:s.heap.IsTuple l2 ys)(hx:xs[k1]? = some x)(hy:ys[k2]? = some y)
  (hQ:∀h',IsZip h' z TI TO (Vi s.heap.objs.size)->W6 h' TO x y->h'.IsTupleIter i1 l1 (k1+1)->h'.IsTupleIter i2 l2 (k2+1)->W6 h' s.heap.objs.size x y->h'.objs.size=s.heap.objs.size+1->(∀c o,c≠z->c≠TO->c≠i1->c≠i2->s.heap.get? c=some o->h'.get? c=some o)->Q (some (.ref s.heap.objs.size)) { s with heap:=h' }) :
  Wi (Wh prog w) A (pyNext (.ref z)) Q E s:=by
 have hT:s.TypeIs (.ref z) "zip":=⟨_,hz,rfl⟩;unfold pyNext;exact Wa (wpAny_attempt (wpAny_callSpecial?_slot (name:=Str.ofString "__next__") hT F.slot_zip_next (WE F.slot_zip_next hT F.entry_zip_next (zoZ D hz hTI hTO h1 h2 hl1 hl2 hx hy λh' a1 a2 a3 a4 a5 a6 a7=>Wf (hQ h' a1 a2 a3 a4 a5 a6 a7)) (F.args_zip_next_1 _))))
theorem next_end {z TI TO i1 i2 l1 l2:We}{k1:Nat}{xs:Array Wb}{Q:Option Wb->Wd->Prop}(hh:A.handled=none)(D:ZipApart z TI TO i1 i2 l1 l2)(hz:IsZip s.heap z TI TO .none)(hTI:W6 s.heap TI (.ref i1) (.ref i2))(h1:s.heap.IsTupleIter i1 l1 k1)(hl1:s.heap.IsTuple l1 xs)(hx:xs[k1]? = none)
  (hQ:∀h',(∀c o,c≠z->c≠TO->c≠i1->c≠i2->s.heap.get? c=some o->h'.get? c=some o)->Q none { s with heap:=h' }):Wi (Wh prog w) A (pyNext (.ref z)) Q E s:=by
 have hT:s.TypeIs (.ref z) "zip":=⟨_,hz,rfl⟩;unfold pyNext;refine Wa (wpAny_attempt (wpAny_callSpecial?_slot (name:=Str.ofString "__next__") hT F.slot_zip_next (WE F.slot_zip_next hT F.entry_zip_next (zrG hh D hz hTI h1 hl1 hx λh' e hk he=>?_) (F.args_zip_next_1 _))));obtain⟨o,ho,hc⟩:=he;exact Wa (wpAny_isInstance (T:="StopIteration") (b:=true) ⟨o,ho,hc⟩ isSubtype_stop (Wf (hQ _ hk)))
abbrev zA (h:Heap)(a:We):Heap:=h.push { cls:=.type "tuple_iterator",data:=.fields #[.ref a,.int 0 0] }
abbrev zB (h:Heap)(a b:We):Heap:=(zA h a).push { cls:=.type "tuple_iterator",data:=.fields #[.ref b,.int 0 0] }
abbrev zC (h:Heap)(a b:We):Heap:=(zB h a b).push { cls:=.type "tuple",data:=.seq #[.ref h.objs.size,.ref (zA h a).objs.size] }
abbrev zD (h:Heap)(a b:We):Heap:=(zC h a b).push { cls:=.type "tuple",data:=.seq #[.none,.none] }
abbrev zE (h:Heap)(a b:We):Heap:=(zD h a b).push { cls:=.type "zip",data:=.fields #[.none,.bool false,.bool false,.ref (zB h a b).objs.size,.ref (zC h a b).objs.size] }
theorem zne (a b:We)(xs ys:Array Wb):Meets (Builtin.«zip.__new__» ⟨[.type "zip",.ref a,.ref b],[]⟩) (λ_ R s=>s.heap.IsTuple a xs/\s.heap.IsTuple b ys/\R (.ok (.ret (.ref (zD s.heap a b).objs.size))) { s with heap:=zE s.heap a b }):=
 .of_wp λprog w A R s h=>by
  obtain⟨hp,g,d,tk,os⟩:=s;obtain⟨hl1,hl2,h⟩:=h;have hsub:=sub_zip;have hL1:Heap.IsTuple (Shared.heap ⟨hp,g,d,tk,os⟩) a xs:=hl1;have hL2:Heap.IsTuple (Shared.heap ⟨hp.push { cls:=.type "tuple_iterator",data:=.fields #[.ref a,.int 0 0] },g,d,tk,os⟩) b ys:=Heap.IsTuple.push hl2 _
  wp_walk using wpAny_pyIter_tuple hL1,wpAny_pyIter_tuple hL2
  exact⟨_,rfl,h⟩
theorem zpa {a b:We}{xs ys:Array Wb}{Q:Wb->Wd->Prop}(hl1:s.heap.IsTuple a xs)(hl2:s.heap.IsTuple b ys)
  (h:∀h',IsZip h' (s.heap.objs.size+4) (s.heap.objs.size+2) (s.heap.objs.size+3) .none->W6 h' (s.heap.objs.size+2) (.ref s.heap.objs.size) (.ref (s.heap.objs.size+1))->W6 h' (s.heap.objs.size+3) .none .none->h'.IsTupleIter s.heap.objs.size a 0->h'.IsTupleIter (s.heap.objs.size+1) b 0->(∀c o,s.heap.get? c=some o->h'.get? c=some o)->Q (.ref (s.heap.objs.size+4)) { s with heap:=h' }) :
  Wi (Wh prog w) A (call (.type "zip") [.ref a,.ref b]) Q E s:=by
 refine callType_new F.called_zip (by decide) (F.typeCall_zip_2 _ _) (F.newCall_zip_2 _ _) (λobj=>F.args_object_init_3 obj _ _) F.entry_zip_new (zne a b xs ys) ⟨hl1,hl2,?_⟩;have z1:(zA s.heap a).objs.size=s.heap.objs.size+1:=Yr ..;have z2:(zB s.heap a b).objs.size=s.heap.objs.size+2:=by rw[Yr,z1]
 have z3:(zC s.heap a b).objs.size=s.heap.objs.size+3:=by rw[Yr,z2]
 have z4:(zD s.heap a b).objs.size=s.heap.objs.size+4:=by rw[Yr,z3]
 have g5:(zE s.heap a b).get? (zD s.heap a b).objs.size=some _:=Xw _ rfl;have g4:(zE s.heap a b).get? (zC s.heap a b).objs.size=some _:=Xd _ (Xw _ rfl);have g3:(zE s.heap a b).get? (zB s.heap a b).objs.size=some _:=Xd _ (Xd _ (Xw _ rfl));have g2:(zE s.heap a b).get? (zA s.heap a).objs.size=some _:=Xd _ (Xd _ (Xd _ (Xw _ rfl)));have g1:(zE s.heap a b).get? s.heap.objs.size=some _:=Xd _ (Xd _ (Xd _ (Xd _ (Xw _ rfl))));show _/\_;rw[z2,z3,z4]at g5;rw[z1,z2]at g3;rw[z3]at g4;rw[z1]at g2;rw[z4];exact⟨⟨_,g5,rfl⟩,h _ g5 g3 g4 ⟨_,g1,rfl,rfl⟩ ⟨_,g2,rfl,rfl⟩ λc o y=>Xd _ (Xd _ (Xd _ (Xd _ (Xd _ y))))⟩
end
end JZ2
namespace PySem.SeqAt
open MeetsSeq
theorem ziv {M:Model}{A:Wu}{E:Wb->Wd->Prop}{s:Wd}{β:Type}{a b:Nat}{f:Nat->β->Sem (ForInStep β)}(I:Nat->β->Wd->Prop)(Q:β->Wd->Prop)
  (turn:∀i c s,a<=i->i<b->I i c s->Wi M A (f i c) (λr s'=>match r with | .yield c'=>I (i+1) c' s' | .done c'=>Q c' s') E s)
  (fin:∀c s,I (max a b) c s->Q c s) (c:β) (h:I a c s):Wi M A (forIn ([a:b]:Std.Legacy.Range) c f) Q E s:=by
 rw[Std.Legacy.Range.forIn_eq_forIn_range'];have hz:([a:b]:Std.Legacy.Range).size=b-a:=by simp[Std.Legacy.Range.size]
 show Wi M A (forIn (List.range' a ([a:b]:Std.Legacy.Range).size 1) c f) Q E s;rw[hz];refine wpAny_forIn_list f (λl c s=>∃i,a<=i/\i<=max a b/\l=List.range' i (max a b-i) 1/\I i c s) Q ?_ ?_ _ c ⟨a,Xf _,by lia,by congr 1;lia,h⟩
 ·rintro x rest c s ⟨i,h1,h2,hl,hI⟩;have lt:i<max a b:=by
   rcases Nat.lt_or_ge i (max a b)with h' | h'
   ·exact h'
   ·rw[show max a b-i=0 by lia]at hl;simp at hl
  obtain⟨n,hn⟩:∃n,max a b-i=n+1:=⟨max a b-i-1,by lia⟩;rw[hn,List.range'_succ]at hl;obtain⟨rfl,rfl⟩:=List.cons.inj hl;refine WR (turn x c s h1 (by lia) hI) (λr s' h'=>?_) λ_ _ h'=>h';cases r with
  | done c'=>exact h'
  | yield c'=>exact⟨x+1,by lia,by lia,by congr 1;lia,h'⟩
 ·rintro c s ⟨i,h1,h2,hl,hI⟩;have e:i=max a b:=by
   rcases Nat.lt_or_ge i (max a b)with h' | h'
   ·obtain⟨n,hn⟩:∃n,max a b-i=n+1:=⟨max a b-i-1,by lia⟩;rw[hn,List.range'_succ]at hl;simp at hl
   ·lia
  subst e;exact fin _ _ hI
theorem zhu (l:We)(items:Array Wb)(n:Nat)(dd:Option We)(sl:Array (Option Wb))(x:Wb)(e:Wb->Bool)(j:Nat)(hj:j<items.size)
  (hit:e items[j]=true) (hno:∀m (hm:m<items.size),m<j->e items[m]=false) :
  Meets (Builtin.«tuple.index» ⟨[.ref l,x],[]⟩)
   (λA R s=>s.heap.get? l=some { cls:=.type "tuple",dict:=dd,data:=.seq items n,slots:=sl }/\(∀y,y∈items->EqAt A.in1 s y x (e y))/\R (.ok (.ret (.int j s.toks))) { s with toks:=s.toks+1 }):=
 .of_wp λprog w A R s h=>by
  obtain⟨hp,g,d,tk,os⟩:=s;obtain⟨hl,he,h⟩:=h
  wp_walk using wpAny_loadPart' hl,ziv (λi (b:Option _×Unit) s'=>b.1=none/\s'=⟨hp,g,d,tk,os⟩/\i<=j) _
  case turn=>
   rintro i b s' h0 hi ⟨hb,rfl,hij⟩;have hi':i<items.size:=by lia
   rw[show items[i]? = some items[i] from Array.getElem?_eq_getElem hi'];refine Wa (he _ (Array.getElem_mem hi') prog w _ _ ?_);by_cases ej:i=j
   ·subst ej;rw[hit]
    wp_walk
    exact⟨_,rfl,h⟩
   ·rw[hno i hi' (by lia)]
    wp_walk
    exact⟨rfl,rfl,by lia⟩
  case fin=>
   rintro b s' ⟨hb,rfl,hij⟩;exact absurd hij (by lia)
  case h=>exact⟨rfl,rfl,XH _⟩
end PySem.SeqAt
namespace L2
open PySem PySem.Spec PyProof.Rows
section
variable {X:Cx}
def rIdx (sq:Hp->We->List V->Prop):V->List V->Hp->VK->Prop:=λx vs H Q=>∃(p:We)(xs:List V)(y:V)(j:Nat),x=.ref p/\vs=[y]/\sq H p xs/\zek y=true/\xs.all zek=true/\(∃w,xs[j]? = some w/\eqV w y=true)/\(∀m w,m<j->xs[m]? = some w->eqV w y=false)/\Q (.int (j:Int)) H
theorem znf:∀ {xs:List V}{us:List Wb}{m:Nat}{u:Wb},Vals xs us->us[m]? = some u->∃w,xs[m]? = some w/\RelV w u
 | _,_,m,u,.nil,h=>by simp at h
 | x::xs,v::us,0,u,.cons r t,h=>by simp at h;subst h;exact⟨x,rfl,r⟩
 | x::xs,v::us,m+1,u,.cons r t,h=>by simpa using znf t (by simpa using h)
theorem zrH {xs:List V}{m:Nat}{w:V}(f:xs.all zek=true)(h:xs[m]? = some w):zek w=true:=XI.mp f w (Xu h)
theorem ziw {xs:List V}{its:List Wb}{y:V}{j:Nat}(r:Vals xs its)(fs:xs.all zek=true)(h1:∃w,xs[j]? = some w/\eqV w y=true)(h2:∀m w,m<j->xs[m]? = some w->eqV w y=false) :
  ∃hj:j<its.toArray.size,eqU y its.toArray[j]=true/\∀m (hm:m<its.toArray.size),m<j->eqU y its.toArray[m]=false:=by
 have hl:=r.length;obtain⟨w,hw,ew⟩:=h1;have hj:j<xs.length:=(Xe.mp hw).1;have hj':j<its.length:=by lia
 have at_:∀m (hm:m<its.length),∀w,xs[m]? = some w->eqU y its[m]=eqV w y:=λm hm w hx=>by
  obtain⟨w',q1,q2⟩:=znf r (Xg hm);rw[hx]at q1;cases q1;exact zpU q2 (zrH fs hx)
 refine⟨by simpa using hj',?_,λm hm hlt=>?_⟩
 ·have:=at_ j hj' w hw;simpa[ew]using this
 ·have hm':m<its.length:=by simpa using hm
  have hx:xs[m]? = some xs[m]:=Xg (by lia);have:=at_ m hm' _ hx;rw[h2 m _ hlt hx]at this;simpa using this
theorem zng:MtR X "list.index" (rIdx λH p xs=>SqL X.K H p xs):=by
 intro pins s σ H x vs v us Q I rx rv h;obtain⟨p,xs,y,j,rfl,rfl,hq,fy,fs,h1,h2,q⟩:=h;cases rx;obtain⟨u,rfl,ru⟩:=rv.one;obtain⟨its,r,pl,hz⟩:=I.list hq;obtain⟨hj,e1,e2⟩:=ziw r fs h1 h2;obtain⟨⟨cls,dd,data,sl⟩,n,ho,hc,hd,hs⟩:=id pl;simp only at hc hd hs;subst hc hd hs;have hl:=r.length;have hz':=hz;rw[Wo]at hz';have hj2:j<its.length:=by simpa using hj
 exact call_meets PySem.F.slot_list_index ⟨_,ho,rfl⟩ PySem.F.entry_list_index (PySem.F.args_list_index_2 _ _) (SeqAt.list_indexAt p its.toArray n _ sl u (eqU y) j hj (by lia) e1 e2) ⟨ho,λz hz=>zhb ru fy r fs z (by simpa using hz),⟨.int (j:Int),H,I.tok _,⟨_,rfl⟩,q⟩⟩
theorem znh:MtR X "tuple.index" (rIdx λH p xs=>SqT X.K H p xs):=by
 intro pins s σ H x vs v us Q I rx rv h;obtain⟨p,xs,y,j,rfl,rfl,hq,fy,fs,h1,h2,q⟩:=h;cases rx;obtain⟨u,rfl,ru⟩:=rv.one;obtain⟨its,r,pl,hz⟩:=I.tuple hq;obtain⟨hj,e1,e2⟩:=ziw r fs h1 h2;obtain⟨⟨cls,dd,data,sl⟩,ho,hc,n,hd⟩:=id pl;simp only at hc hd;subst hc hd;exact call_meets PySem.F.slot_tuple_index ⟨_,ho,rfl⟩ PySem.F.entry_tuple_index (PySem.F.args_tuple_index_2 _ _) (SeqAt.zhu p its.toArray n dd sl u (eqU y) j hj e1 e2) ⟨ho,λz hz=>zhb ru fy r fs z (by simpa using hz),⟨.int (j:Int),H,I.tok _,⟨_,rfl⟩,q⟩⟩
theorem Inv.ztF {pins:List (We×Obj)}{σ:St}{H:Hp}{s:Wd}{a:We}{xs:List V}(I:Inv X pins σ H s)(h:SqT X.K H a xs):∃ob,s.heap.get? a=some ob/\ob.cls=.type "tuple"/\ob.dict=none:=by
 rcases h with h | ⟨o,its,n,hk,hc,hs,hz,r,hd⟩
 ·obtain⟨z,its,r,o,h1,h2,h3,h4⟩:=h.ok I.hok;exact⟨o,h1,h2,h4⟩
 ·exact⟨o,I.kIn a o hk,hc,hd⟩
variable {o e:Expr}{to te:TE}{name:Str}{apos cpos:Pos}{id:String}{r:V->List V->Hp->VK->Prop}
end
end L2
namespace PL
open PySem PySem.Spec L2
open PyProof.Rows hiding St
def zgr:PV->Bool
 | .non=>true
 | .int _=>true
 | .str _=>true
 | _=>false
noncomputable def idxP (ds:List PV)(e:PV):Nat:=ds.findIdx λx=>decide (x=e)
section
variable {K:Xa}{Fz:FZ}{H:Hp}
theorem zkn {d:PV}{v:V}(f:zgr d=true)(h:Den K Fz H d v):zek v=true:=by
 cases d with
 | non=>simp only[Den]at h;subst h;rfl
 | int i=>simp only[Den]at h;subst h;rfl
 | str x=>simp only[Den]at h;subst h;rfl
 | _=>exact absurd (show false=true from f) Xr
theorem zni {d e:PV}{v w:V}(fd:zgr d=true)(fe:zgr e=true)(hd:Den K Fz H d v)(he:Den K Fz H e w):eqV v w=decide (d=e):=by
 cases d with
 | non=>
  simp only[Den]at hd;subst hd;cases e with
  | non=>simp only[Den]at he;subst he;simp[eqV]
  | int i=>simp only[Den]at he;subst he;simp[eqV]
  | str x=>simp only[Den]at he;subst he;simp[eqV]
  | _=>exact absurd (show false=true from fe) Xr
 | int i=>
  simp only[Den]at hd;subst hd;cases e with
  | non=>simp only[Den]at he;subst he;simp[eqV]
  | int i=>simp only[Den]at he;subst he;rw[zjY];rfl
  | str x=>simp only[Den]at he;subst he;simp[eqV]
  | _=>exact absurd (show false=true from fe) Xr
 | str x=>
  simp only[Den]at hd;subst hd;cases e with
  | non=>simp only[Den]at he;subst he;simp[eqV]
  | int i=>simp only[Den]at he;subst he;simp[eqV]
  | str x=>simp only[Den]at he;subst he;rw[zjZ];rfl
  | _=>exact absurd (show false=true from fe) Xr
 | _=>exact absurd (show false=true from fd) Xr
theorem zix:∀ {ds:List PV}{xs:List V},ds.all zgr=true->DenL K Fz H ds xs->xs.all zek=true
 | [],xs,_,h=>by simp only[DenL]at h;subst h;rfl
 | d::ds,xs,f,h=>by
  simp only[DenL]at h;obtain⟨v,r,rfl,h1,h2⟩:=h;rw[List.all_cons,Yo]at f ⊢;exact⟨zkn f.1 h1,zix f.2 h2⟩
theorem zrI {ds:List PV}{xs:List V}{e:PV}{y:V}(f:ds.all zgr=true)(fe:zgr e=true)(h:DenL K Fz H ds xs)(hy:Den K Fz H e y)(hm:e∈ds) :
  (∃w,xs[idxP ds e]? = some w/\eqV w y=true)/\∀m w,m<idxP ds e->xs[m]? = some w->eqV w y=false:=by
 have hi:idxP ds e<ds.length:=List.findIdx_lt_length_of_exists ⟨e,hm,by simp⟩;have hl:=h.length;refine⟨?_,λm w hlt hw=>?_⟩
 ·obtain⟨w,q1,q2⟩:=h.get (Xg hi);refine⟨w,q1,?_⟩;have:=List.findIdx_getElem (p:=λx=>decide (x=e)) (xs:=ds) (w:=hi);rw[zni (XI.mp f _ (Yd hi)) fe q2 hy];exact this
 ·have hm':m<ds.length:=by
   have:=(Xe.mp hw).1;lia
  obtain⟨w',q1,q2⟩:=h.get (Xg hm');rw[hw]at q1;cases q1;rw[zni (XI.mp f _ (Yd hm')) fe q2 hy];have:=List.not_of_lt_findIdx (p:=λx=>decide (x=e)) (xs:=ds) hlt;simpa using this
end
theorem znj {K:Xa}{Fz:FZ}{H:Hp}{d:PV}{v:V}(f:zgr d=true)(h:Root K Fz H d v):Den K Fz H d v:=by
 cases d with
 | non=>exact h
 | int i=>exact h
 | str x=>exact h
 | _=>exact absurd (show false=true from f) Xr
section
variable {X:Cx}{pos:Pos}
def zdX:TPE:=λ_ Q=>Q (.dK [] []) .new
theorem zrJ:PuE X (.Dict [] [] pos) zdX where
 mono ρ Q Q' m h:=m _ _ h
 run:=PE.weak zoC λσ H Q h=>by
  obtain⟨ρ,Fz,R,h⟩:=h;exact λp hp=>h _ Fz _ ⟨Ext.laid ⟨Same.refl H,λ_ h=>h,λ_ h=>.inl h,R.al⟩ hp,p,rfl,hp,λz=>R.al p z hp,[],zap,rfl,DenL.nil⟩
end
section
variable {X:Cx}{a b c:Expr}{ta tb tc:TPE}{pos apos cpos:Pos}
theorem zrK {p:P2}(hp:POp X.K (rDI false) p)(ha:PuE X a ta)(hb:PuE X b tb){σ:St}{H:Hp}{Q:VK}(h:lift X.K (t2 p ta tb) σ H Q):tDIn (lift X.K ta) (lift X.K tb) σ H Q:=by
 have:=zgE hp ha hb h;exact this
theorem zrL (hu:X.A.units+1<Wz)(ha:PuE X a ta)(hb:PuE X b tb)(hm:Wx .In b=false:=by rfl):PuT X (.Compare a [.In] [b] pos) (tBl (t2 (pDI false) ta tb)) where
 mono ρ Q Q' m h:=zdi zrz ha hb ρ _ _ (λd k q=>zjX m q) h
 run:=PT.weak (zsr (zsY hu ha.run hb.run) hm) λσ H Q h=>by
  obtain⟨ρ,Fz,R,h⟩:=h;refine zrK zrz ha hb ⟨ρ,Fz,R,zdi zrz ha hb ρ _ _ (λd k q v F1 H1 p=>?_) h⟩;obtain⟨bb,rfl,q⟩:=zhh.mp q;exact⟨bb,zeU (p.root R),q F1 H1 p.ext⟩
end
end PL
namespace L2
open PySem PySem.Spec PyProof.Rows
section
variable {X:Cx}{o e:Expr}{to te:TE}{apos cpos:Pos}
theorem zpb (ho:PE X o to)(he:PE X e te)(m:M1 X o "index" apos e cpos) :
  PE X (.Call (.Attribute o "index" apos) [e] [] cpos) (λσ H Q=>to σ H λx H1=>∃a xs,x=.ref a/\(SqL X.K H1 a xs\/SqT X.K H1 a xs)/\te σ H1 λy H2=>∃zs,(SqL X.K H1 a xs/\SqL X.K H2 a zs\/SqT X.K H1 a xs/\SqT X.K H2 a zs)/\∃j:Nat,zek y=true/\zs.all zek=true/\(∃w,zs[j]? = some w/\eqV w y=true)/\(∀m w,m<j->zs[m]? = some w->eqV w y=false)/\Q (.int (j:Int)) H2):=by
 intro pins s σ H Q I h;refine wpAny_Call_method_late m.base m.few m.line rfl (thn (ho pins s σ H _ I h) λu s1 ⟨x,H1,I1,rx,a,xs,ex,d,q1⟩=>?_);subst ex;obtain rfl:u=Value.ref a:=rx;rcases d with d | d
 ·obtain⟨its,rv,⟨ob,n,h1,h2,h3,h4⟩,hz⟩:=I1.list d;refine⟨"list","list.index",PySem.F.plainAttrs_list,PySem.F.slot_list_index,PySem.F.type_list_index,⟨ob,h1,h2⟩,λb q=>by cases q;exact⟨ob,h1,h3⟩,?_⟩;rw[m.trees];refine Calls.callWith_builtin rfl (Calls.evalArgs_plain (Calls.spliced_cons (thn (he pins s1 σ H1 _ I1 q1) λiv s2 ⟨y,H2,I2,ry,zs,hsq,j,f1,f2,g1,g2,q2⟩=>Calls.spliced_nil ?_)));rcases hsq with ⟨_,hsq⟩ | ⟨hst,_⟩
  ·exact zng pins s2 σ H2 (.ref a) [y] (.ref a) [iv] Q I2 rfl (.cons ry .nil) ⟨a,zs,y,j,rfl,rfl,hsq,f1,f2,g1,g2,q2⟩
  ·exact(PL.zer I1 d hst).elim
 ·obtain⟨ob,h1,h2,h4⟩:=I1.ztF d;refine⟨"tuple","tuple.index",PySem.F.plainAttrs_tuple,PySem.F.slot_tuple_index,PySem.F.type_tuple_index,⟨ob,h1,h2⟩,λb q=>by cases q;exact⟨ob,h1,h4⟩,?_⟩;rw[m.trees];refine Calls.callWith_builtin rfl (Calls.evalArgs_plain (Calls.spliced_cons (thn (he pins s1 σ H1 _ I1 q1) λiv s2 ⟨y,H2,I2,ry,zs,hsq,j,f1,f2,g1,g2,q2⟩=>Calls.spliced_nil ?_)));rcases hsq with ⟨hsl,_⟩ | ⟨_,hsq⟩
  ·exact(PL.zer I1 hsl d).elim
  ·exact znh pins s2 σ H2 (.ref a) [y] (.ref a) [iv] Q I2 rfl (.cons ry .nil) ⟨a,zs,y,j,rfl,rfl,hsq,f1,f2,g1,g2,q2⟩
end
end L2
namespace PL
open PySem PySem.Spec L2
open PyProof.Rows hiding St
noncomputable def pIdx (to te:TPE):TPE:=λρ Q=>to ρ λd _=>∃ds,(d=.lst ds\/d=.tup ds)/\ds.all zgr=true/\te ρ λe _=>zgr e=true/\e∈ds/\Q (.int (idxP ds e:Int)) .frz
section
variable {X:Cx}{o e:Expr}{to te:TPE}{apos cpos:Pos}
theorem zpc (ho:PuE X o to)(he:PuE X e te)(m:M1 X o "index" apos e cpos:=by exact⟨rfl,rfl,rfl,rfl⟩):PuE X (.Call (.Attribute o "index" apos) [e] [] cpos) (pIdx to te) where
 mono ρ Q Q' mm h:=ho.mono ρ _ _ (λd _ ⟨ds,e1,e2,h⟩=>⟨ds,e1,e2,he.mono ρ _ _ (λe _ ⟨q1,q2,q⟩=>⟨q1,q2,mm _ _ q⟩) h⟩) h
 run:=PE.weak (zpb ho.run he.run m) λσ H Q h=>by
  obtain⟨ρ,Fz,R,h⟩:=h;refine⟨ρ,Fz,R,ho.mono ρ _ _ (λd k q v F1 H1 p1=>?_) h⟩;obtain⟨ds,hd,f,q⟩:=q;have rt:=p1.root R;obtain⟨a,xs,rfl,hsq,hsq2,h2⟩:∃a xs,v=.ref a/\(SqL X.K H1 a xs\/SqT X.K H1 a xs)/\(∀H2,Same H1 H2->(SqL X.K H1 a xs/\SqL X.K H2 a xs\/SqT X.K H1 a xs/\SqT X.K H2 a xs))/\DenL X.K F1 H1 ds xs:=by
   rcases hd with rfl | rfl
   ·obtain⟨a,xs,rfl,h1,h2⟩:=zas rt;exact⟨a,xs,rfl,.inl h1,λH2 s=>.inl ⟨h1,s.seq h1⟩,h2⟩
   ·obtain⟨a,xs,rfl,h1,h2⟩:=zfH rt;exact⟨a,xs,rfl,.inr (SqT.of h1),λH2 s=>.inr ⟨SqT.of h1,SqT.of (s _ _ h1)⟩,h2⟩
  refine⟨a,xs,rfl,hsq,ρ,F1,R.ext p1.ext,he.mono ρ _ _ (λe ke q w F2 H2 p2=>?_) q⟩;obtain⟨fe,hm,q⟩:=q;have h3:=DenL.mono (.of p2.ext.same) p2.ext.sub _ _ h2;have hy:=znj fe (p2.root (R.ext p1.ext));obtain⟨g1,g2⟩:=zrI f fe h3 hy hm;exact⟨xs,hsq2 H2 p2.ext.same,idxP ds e,zkn fe hy,zix f h3,g1,g2,q _ F2 H2 ⟨p1.ext.trans p2.ext,by show Den _ _ _ _ _;simp only[Den]⟩⟩
end
section
variable {X:Cx}{a:Expr}{ta:TPE}{pos:Pos}
def pNeg (ta:TPE):TPE:=λρ Q=>ta ρ λd _=>∃i:Int,d=.int i/\Q (.int (-i)) .frz
theorem zff (ha:PuE X a ta):PuE X (.UnaryOp .USub a pos) (pNeg ta) where
 mono ρ Q Q' m h:=ha.mono ρ _ _ (λd k ⟨c,e,q⟩=>⟨c,e,m _ _ q⟩) h
 run:=PE.weak (zuI zsI ha.run) λσ H Q h=>by
  obtain⟨ρ,Fz,R,h⟩:=h;refine⟨ρ,Fz,R,ha.mono ρ _ _ (λd k ⟨c,e,q⟩ v Fz' H' p=>⟨c,?_,q _ Fz' H' ⟨p.ext,by show Den _ _ _ _ _;simp only[Den]⟩⟩) h⟩;subst e;exact zax (p.root R)
end
end PL
namespace Srt
open PySem PyProof.Rows
section
variable {σ α:Type}{M:Model}{A:Wu}{E:Wb->Wd->Prop}{s:Wd}{c:Prop}{dc:Decidable c}{Q:α->σ->Prop}{st:σ}
theorem zqc {L H:Nat}(h:¬ L>=H):L<=L+(H-L) / 2/\L+(H-L) / 2<H:=by lia
theorem znk {L H:Nat}(h:¬ L>=H):L<=(L+H) / 2/\(L+H) / 2<H:=by lia
theorem zav {x y:StateT σ Sem α}(h1:c->wpS M A E s x Q st)(h2:¬ c->wpS M A E s y Q st):wpS M A E s (if c then x else y) Q st:=by
 split
 ·exact h1 ‹_›
 ·exact h2 ‹_›
theorem zqd {x y:StateT σ Sem α}(R:σ->Prop)(key:∀st2,R st2->wpS M A E s y Q st2)(h1:c->(∀st2,R st2->wpS M A E s y Q st2)->wpS M A E s x Q st)(h2:¬ c->R st):wpS M A E s (if c then x else y) Q st:=by
 split
 ·exact h1 ‹_› key
 ·exact key _ (h2 ‹_›)
end
def gal:Bool->Wq->Array Wq->Nat->Nat->Nat->StateT Wv Sem (Option Nat):=sortPriv% PySem.Builtin.gallop
structure Cmp (prog:Wl)(w:Wt)(A:Wu)(E:Wb->Wd->Prop)(s:Wd)(k:WG)(P:Wq->Prop)(f:Wq->Wq->Bool):Prop where
 run:∀ {x y:Wq} {Q:Option Bool->Wv->Prop} {st:Wv},P x->P y->kindOf st=k->Q (some (f x y)) st->wpS (Wh prog w) A E s (lt' x y) Q st
section
variable {prog:Wl}{w:Wt}{A:Wu}{E:Wb->Wd->Prop}{s:Wd}{k:WG}{P:Wq->Prop}{f:Wq->Wq->Bool}
theorem zhv {a:Array Wq}{i:Nat}{x:Wq}{Q:Wq->Wv->Prop}{st:Wv}(hx:a[i]? = some x)(h:Q x st):wpS (Wh prog w) A E s (Vh a i) Q st:=by
 rw[elem'_eq,hx];exact Wm h
end
def mLo:Array Wq->Array Wq->StateT Wv Sem (Array Wq):=sortPriv% PySem.Builtin.mergeLo
def setG:Nat->StateT Wv Sem Unit:=sortPriv% PySem.Builtin.setMinGallop
structure Same (st st':Wv):Prop where
 kind:kindOf st'=kindOf st
 arr:Wp st'=Wp st
 pend:Ws st'=Ws st
 failed:W7 st'=W7 st
structure Tot (f:Wq->Wq->Bool)(P:Wq->Prop):Prop where
 asym:∀x y,P x->P y->f x y=true->f y x=false
 tr:∀x y z,P x->P y->P z->f y x=false->f z y=false->f z x=false
abbrev Le (f:Wq->Wq->Bool)(x y:Wq):Prop:=f y x=false
section
variable {prog:Wl}{w:Wt}{A:Wu}{E:Wb->Wd->Prop}{s:Wd}{k:WG}{P:Wq->Prop}{f:Wq->Wq->Bool}
theorem ztG {a:Array Wq}(h:∀(j:Nat) x,a[j]? = some x->P x):∀x∈a.toList,P x:=λx hx=>by
 obtain⟨j,hj,e⟩:=List.getElem_of_mem hx;exact h j x (by rw[<- Yx,Xg hj,e])
end
def mHi:Array Wq->Array Wq->StateT Wv Sem (Array Wq):=sortPriv% PySem.Builtin.mergeHi
def mAt:Nat->StateT Wv Sem Bool:=sortPriv% PySem.Builtin.mergeAt
section
variable {prog:Wl}{w:Wt}{A:Wu}{E:Wb->Wd->Prop}{s:Wd}{k:WG}{P:Wq->Prop}{f:Wq->Wq->Bool}
def Run (f:Wq->Wq->Bool)(a:Array Wq)(lo hi:Nat):Prop:=∀(i j:Nat)(hj:j<a.size)(hij:i<j),lo<=i->j<hi->Le f (a[i]'(by lia)) a[j]
theorem ztH {a:Array Wq}{lo n:Nat}(hs:Run f a lo (lo+n))(hn:lo+n<=a.size):((a.toList.drop lo).take n).Pairwise (Le f):=by
 rw[List.pairwise_iff_getElem];intro i j hi hj hij;rw[XY,List.length_drop,Ye]at hi hj;have:=hs (lo+i) (lo+j) (by lia) (by lia) (by lia) (by lia);simpa using this
theorem zez (T:Tot f P){x:Wq}(hx:P x):Le f x x:=by
 cases h:f x x with
 | false=>exact h
 | true=>have:=T.asym x x hx hx h;rw[h]at this;cases this
end
def bin:Nat->Nat->Nat->StateT Wv Sem Bool:=sortPriv% PySem.Builtin.binarySort
def cnt:Nat->Nat->StateT Wv Sem (Option Nat):=sortPriv% PySem.Builtin.countRun
section
variable {prog:Wl}{w:Wt}{A:Wu}{E:Wb->Wd->Prop}{s:Wd}{k:WG}{P:Wq->Prop}{f:Wq->Wq->Bool}
structure Moved (a a':Array Wq)(lo hi:Nat):Prop where
 pm:a'.Perm a
 out:∀j:Nat,j<lo\/hi<=j->a'[j]? = a[j]?
theorem Moved.refl (a:Array Wq)(lo hi:Nat):Moved a a lo hi:=⟨.refl _,λ_ _=>rfl⟩
theorem Moved.trans {a b c:Array Wq}{lo hi:Nat}(h:Moved a b lo hi)(g:Moved b c lo hi):Moved a c lo hi:=⟨g.pm.trans h.pm,λj hj=>(g.out j hj).trans (h.out j hj)⟩
theorem Moved.size {a a':Array Wq}{lo hi:Nat}(h:Moved a a' lo hi):a'.size=a.size:=h.pm.size_eq
theorem Moved.all {a a':Array Wq}{lo hi:Nat}(h:Moved a a' lo hi)(hP:∀(j:Nat) x,a[j]? = some x->P x):∀(j:Nat) x,a'[j]? = some x->P x:=λj x e=>by
 have h1:x∈a'.toList:=Xu (by rw[Yx];exact e);exact ztG hP x ((Array.perm_iff_toList_perm.mp h.pm).mem_iff.mp h1)
theorem zeV (C:Cmp prog w A E s k P f){st:Wv}{a:Array Wq}{i j:Nat}{Q:Option Bool->Wv->Prop}(hst:kindOf st=k)(ha:Wp st=a)(hP:∀(j:Nat) x,a[j]? = some x->P x)(hi:i<a.size)(hj:j<a.size)
  (h:Q (some (f a[i] a[j])) st):wpS (Wh prog w) A E s (ltAt' i j) Q st:=by
 subst ha;have gi:=getElem?_pos (Wp st) i hi;have gj:=getElem?_pos (Wp st) j hj;rw[ltAt'_eq];refine Wj (Va ?_);exact Wj (zhv gi (Wj (zhv gj (C.run (hP _ _ gi) (hP _ _ gj) hst h))))
theorem ztI (C:Cmp prog w A E s k P f)(T:Tot f P){lo n ok:Nat}{Q:Bool->Wv->Prop}{st:Wv}(hst:kindOf st=k)(hn:lo+n<=(Wp st).size)(hok:ok<=n)(hP:∀(j:Nat) x,(Wp st)[j]? = some x->P x)(hr:Run f (Wp st) lo (lo+ok))
  (hQ:∀a',Moved (Wp st) a' lo (lo+n)->Run f a' lo (lo+n)->Q true (WN st a')):wpS (Wh prog w) A E s (bin lo n ok) Q st:=by
 refine Wj (Vc (WM (I:=λx c st'=>c=(none,())/\∃a',st'=WN st a'/\Moved (Wp st) a' lo (lo+n)/\Run f a' lo (lo+min x n))
  (Q:=λc st'=>c=(none,())/\∃a',st'=WN st a'/\Moved (Wp st) a' lo (lo+n)/\Run f a' lo (lo+n)) ?step ?fin ⟨rfl,Wp st,rfl,.refl _ _ _,?ini⟩) ?post)
 case ini=>
  intro i j hj hij h1 h2;by_cases h0:ok=0
  ·lia
  ·exact hr i j hj hij h1 (by lia)
 case fin=>
  rintro c st' ⟨hc,a',e,m,r⟩;exact⟨hc,a',e,m,by rwa [show min (max (max ok 1) n) n=n by lia]at r⟩
 case post=>
  rintro c st' ⟨rfl,a',rfl,m,r⟩;exact Wm (hQ a' m r)
 case step=>
  rintro x c st' hx1 hx2 ⟨rfl,a',rfl,m,r⟩;rw[show min x n=x by lia]at r;have hs:=m.size;have hx:lo+x<a'.size:=by lia
  have hP':=m.all hP;have Pa:∀ {i:Nat},(hi:i<a'.size)->P a'[i]:=λ{i} hi=>hP' i _ (getElem?_pos a' i hi);refine Wj (Vc (WM (I:=λy c st2=>st2=WN st a'/\∃l r,c=(none,l,r)/\l<=r/\r<=x/\r-l<=x-y/\(∀(i:Nat) (h:lo+i<a'.size),i<l->Le f a'[lo+i] a'[lo+x])/\(∀(i:Nat) (h:lo+i<a'.size),r<=i->i<x->f a'[lo+x] a'[lo+i]=true))
   (Q:=λc st2=>st2=WN st a'/\∃l r,c=(none,l,r)/\l<=x/\(∀(i:Nat) (h:lo+i<a'.size),i<l->Le f a'[lo+i] a'[lo+x])/\(∀(i:Nat) (h:lo+i<a'.size),l<=i->i<x->f a'[lo+x] a'[lo+i]=true)) ?istep ?ifin ⟨rfl,0,x,rfl,by lia,by lia,by lia,λi _ h=>by lia,λi _ h1 h2=>by lia⟩) ?ipost)
  case ifin=>
   rintro c st2 ⟨rfl,l,r,rfl,g1,g2,g3,g4,g5⟩;have:l=r:=by lia
   subst this;exact⟨rfl,l,l,rfl,g2,g4,g5⟩
  case istep=>
   rintro y c st2 _ hy ⟨rfl,l,r2,rfl,g1,g2,g3,g4,g5⟩;dsimp only;refine zav (λhge=>?_) (λhge=>?_)
   ·have:l=r2:=by lia
    subst this;exact Wm ⟨rfl,l,l,rfl,g2,g4,g5⟩
   ·obtain⟨m1,m2⟩:=znk hge;generalize (l+r2) / 2=md at m1 m2 ⊢;have hmid:lo+md<a'.size:=by lia
    refine Wj (zeV C (st:=WN st a') (a:=a') hst rfl hP' hx hmid ?_);cases hv:f a'[lo+x] a'[lo+md]with
    | true=>
     dsimp only;rw[if_pos rfl];refine Wm ⟨rfl,l,_,rfl,by lia,by lia,by lia,g4,λi h h1 h2=>?_⟩;rcases Nat.lt_or_eq_of_le h1 with h3 | h3
     ·cases hw:f a'[lo+x] a'[lo+i]with
      | true=>rfl
      | false=>
       have:=T.tr _ _ _ (Pa hmid) (Pa h) (Pa hx) (r _ _ h (by lia) (by lia) (by lia)) hw;rw[hv]at this;cases this
     ·simp only[<- h3];exact hv
    | false=>
     dsimp only;rw[if_neg (by decide)];refine Wm ⟨rfl,_,r2,rfl,by lia,by lia,by lia,λi h h1=>?_,g5⟩;rcases Nat.lt_or_eq_of_le (Nat.le_of_lt_succ h1)with h3 | h3
     ·exact T.tr _ _ _ (Pa h) (Pa hmid) (Pa hx) (r _ _ hmid (by lia) (by lia) (by lia)) hv
     ·simp only[h3];exact hv
  case ipost=>
   rintro c st2 ⟨rfl,l,r2,rfl,g1,g4,g5⟩;dsimp only;have hd:lo+x-(lo+l)=x-l:=by lia
   have gt:∀(i:Nat) (h:i<(bubble a' (lo+x) (lo+x-(lo+l))).size),∃i',∃h':i'<a'.size,(bubble a' (lo+x) (lo+x-(lo+l)))[i]=a'[i']/\((i=lo+l/\i'=lo+x)\/(lo+l<i/\i<=lo+x/\i'=i-1)\/((i<lo+l\/lo+x<i)/\i'=i)):=λi h=>by
    have e:=getElem?_bubble hx (lo+x-(lo+l)) (by lia) i;rw[bubble_size]at h;rw[getElem?_pos _ i (by rw[bubble_size];exact h),show lo+x-(lo+x-(lo+l))=lo+l by lia]at e;by_cases h1:i=lo+l
    ·rw[if_pos h1,getElem?_pos a' _ hx]at e;exact⟨lo+x,hx,Option.some.inj e,.inl ⟨h1,rfl⟩⟩
    ·rw[if_neg h1]at e;by_cases h2:lo+l<i/\i<=lo+x
     ·rw[if_pos h2,getElem?_pos a' (i-1) (by lia)]at e;exact⟨i-1,by lia,Option.some.inj e,.inr (.inl ⟨h2.1,h2.2,rfl⟩)⟩
     ·rw[if_neg h2,getElem?_pos a' i h]at e;exact⟨i,h,Option.some.inj e,.inr (.inr ⟨by lia,rfl⟩)⟩
   refine Wj (WT (Wm ⟨rfl,bubble a' (lo+x) (lo+x-(lo+l)),rfl,m.trans ⟨bubble_perm _ _ _,λj hj=>?_⟩,?_⟩))
   ·rw[getElem?_bubble hx _ (by lia),if_neg (by lia),if_neg (by lia)]
   ·rw[show min (x+1) n=x+1 by lia];intro i j hj hij h1 h2;obtain⟨i',hi',ei,ci⟩:=gt i (by lia);obtain⟨j',hj',ej,cj⟩:=gt j hj;rw[ei,ej];rcases ci with ⟨c1,rfl⟩ | ⟨c1,c2,rfl⟩ | ⟨c1,rfl⟩<;>rcases cj with ⟨d1,rfl⟩ | ⟨d1,d2,rfl⟩ | ⟨d1,rfl⟩
    ·lia
    ·have q:=g5 (j-1-lo) (by lia) (by lia) (by lia);simp only[show lo+(j-1-lo)=j-1 by lia]at q;exact T.asym _ _ (Pa hx) (Pa hj') q
    ·lia
    ·lia
    ·exact r _ _ hj' (by lia) (by lia) (by lia)
    ·lia
    ·have q:=g4 (i'-lo) (by lia) (by lia);simp only[show lo+(i'-lo)=i' by lia]at q;exact q
    ·exact r _ _ hj' (by lia) (by lia) (by lia)
    ·exact r _ _ hj' (by lia) (by lia) (by lia)
end
section
variable {prog:Wl}{w:Wt}{A:Wu}{E:Wb->Wd->Prop}{s:Wd}{k:WG}{P:Wq->Prop}{f:Wq->Wq->Bool}
def Dec (f:Wq->Wq->Bool)(a:Array Wq)(lo hi:Nat):Prop:=∀(i j:Nat)(hj:j<a.size)(hij:i<j),lo<=i->j<hi->Le f a[j] (a[i]'(by lia))
def Alike (f:Wq->Wq->Bool)(a:Array Wq)(p q:Nat):Prop:=∀(i j:Nat)(hi:i<a.size)(hj:j<a.size),p<=i->i<q->p<=j->j<q->Le f a[i] a[j]
abbrev rev (a:Array Wq)(i j:Nat):Array Wq:=mirror a i j ((j-i) / 2)
theorem zko {a:Array Wq}{p q:Nat}(hq:q<=a.size)(i:Nat)(h:i<(rev a p q).size):∃i',∃h':i'<a.size,(rev a p q)[i]=a[i']/\((p<=i/\i<q/\i'=p+q-1-i)\/((i<p\/q<=i)/\i'=i)):=by
 have e:=getElem?_mirror_all (i:=p) hq i;rw[getElem?_pos _ i h]at e;rw[mirror_size]at h;by_cases h1:p<=i/\i<q
 ·rw[if_pos h1,getElem?_pos a _ (show p+q-1-i<a.size by lia)]at e;exact⟨_,by lia,Option.some.inj e,.inl ⟨h1.1,h1.2,rfl⟩⟩
 ·rw[if_neg h1,getElem?_pos a i h]at e;exact⟨i,h,Option.some.inj e,.inr ⟨by lia,rfl⟩⟩
theorem zeA {a:Array Wq}{p q lo hi:Nat}(hq:q<=a.size)(h1:lo<=p)(h2:q<=hi):Moved a (rev a p q) lo hi:=⟨mirror_perm _ _ _ _,λj hj=>by rw[getElem?_mirror_all hq,if_neg (by lia)]⟩
theorem zrM {a:Array Wq}{p q:Nat}(hq:q<=a.size)(h:Dec f a p q):Run f (rev a p q) p q:=by
 intro i j hj hij h1 h2;obtain⟨i',hi',ei,ci⟩:=zko (p:=p) hq i (by lia);obtain⟨j',hj',ej,cj⟩:=zko hq j hj;rw[ei,ej];rcases ci with ⟨c1,c2,rfl⟩ | ⟨c1,rfl⟩<;>rcases cj with ⟨d1,d2,rfl⟩ | ⟨d1,rfl⟩
 ·exact h _ _ hi' (by lia) (by lia) (by lia)
 all_goals lia
theorem zjr {a:Array Wq}{lo hi p q:Nat}(hh:hi<=a.size)(h1:lo<=p)(h2:q<=hi)(h:Dec f a lo hi)(e:Alike f a p q):Dec f (rev a p q) lo hi:=by
 intro i j hj hij g1 g2;have hqa:q<=a.size:=by lia
 obtain⟨i',hi',ei,ci⟩:=zko (p:=p) hqa i (by lia);obtain⟨j',hj',ej,cj⟩:=zko hqa j hj;rw[ei,ej];rcases ci with ⟨c1,c2,rfl⟩ | ⟨c1,rfl⟩<;>rcases cj with ⟨d1,d2,rfl⟩ | ⟨d1,rfl⟩
 ·exact e _ _ hj' hi' (by lia) (by lia) (by lia) (by lia)
 ·exact h _ _ hj' (by lia) (by lia) (by lia)
 ·exact h _ _ hj' (by lia) (by lia) (by lia)
 ·exact h _ _ hj' (by lia) (by lia) (by lia)
theorem Run.more (T:Tot f P){a:Array Wq}(hP:∀(j:Nat) x,a[j]? = some x->P x){lo n:Nat}(h0:1<=n)(hn:lo+n<a.size)(h:Run f a lo (lo+n))(hf:f a[lo+n] (a[lo+n-1]'(by lia))=false):Run f a lo (lo+(n+1)):=by
 intro i j hj hij h1 h2;have Pa:∀ {i:Nat},(hi:i<a.size)->P a[i]:=λ{i} hi=>hP i _ (getElem?_pos a i hi);by_cases e:j=lo+n
 ·subst e;by_cases e2:i=lo+n-1
  ·subst e2;exact hf
  ·exact T.tr _ _ _ (Pa _) (Pa (show lo+n-1<a.size by lia)) (Pa hj) (h i (lo+n-1) (by lia) (by lia) h1 (by lia)) hf
 ·exact h i j hj hij h1 (by lia)
theorem Dec.more (T:Tot f P){a:Array Wq}(hP:∀(j:Nat) x,a[j]? = some x->P x){lo n:Nat}(h0:1<=n)(hn:lo+n<a.size)(h:Dec f a lo (lo+n))(hf:Le f a[lo+n] (a[lo+n-1]'(by lia))):Dec f a lo (lo+(n+1)):=by
 intro i j hj hij h1 h2;have Pa:∀ {i:Nat},(hi:i<a.size)->P a[i]:=λ{i} hi=>hP i _ (getElem?_pos a i hi);by_cases e:j=lo+n
 ·subst e;by_cases e2:i=lo+n-1
  ·subst e2;exact hf
  ·exact T.tr _ _ _ (Pa hj) (Pa (show lo+n-1<a.size by lia)) (Pa _) hf (h i (lo+n-1) (by lia) (by lia) h1 (by lia))
 ·exact h i j hj hij h1 (by lia)
theorem Alike.more (T:Tot f P){a:Array Wq}(hP:∀(j:Nat) x,a[j]? = some x->P x){p q:Nat}(hp:p<q)(hq:q<a.size)(h:Alike f a p q)(h1:Le f a[q] (a[q-1]'(by lia)))(h2:Le f (a[q-1]'(by lia)) a[q]):Alike f a p (q+1):=by
 intro i j hi hj g1 g2 g3 g4;have Pa:∀ {i:Nat},(hi:i<a.size)->P a[i]:=λ{i} hi=>hP i _ (getElem?_pos a i hi);have hq1:q-1<a.size:=by lia
 by_cases e1:i=q
 ·subst e1;by_cases e2:j=i
  ·subst e2;exact zez T (Pa hi)
  ·exact T.tr _ _ _ (Pa hi) (Pa hq1) (Pa hj) h1 (h _ _ hq1 hj (by lia) (by lia) g3 (by lia))
 ·by_cases e2:j=q
  ·subst e2;exact T.tr _ _ _ (Pa hi) (Pa hq1) (Pa hj) (h _ _ hi hq1 g1 (by lia) (by lia) (by lia)) h2
  ·exact h i j hi hj g1 (by lia) g3 (by lia)
theorem zfT (T:Tot f P){a:Array Wq}(hP:∀(j:Nat) x,a[j]? = some x->P x){p q:Nat}(h:q=p+1):Alike f a p q:=by
 intro i j hi hj g1 g2 g3 g4;have:i=j:=by lia
 subst this;exact zez T (hP i _ (getElem?_pos a i hi))
theorem ztJ (C:Cmp prog w A E s k P f)(T:Tot f P){lo n:Nat}{Q:Option Nat->Wv->Prop}{st:Wv}(hst:kindOf st=k)(h0:1<=n)(hn:lo+n<=(Wp st).size)(hP:∀(j:Nat) x,(Wp st)[j]? = some x->P x)
  (hQ:∀a' m,1<=m->m<=n->Moved (Wp st) a' lo (lo+n)->Run f a' lo (lo+m)->Q (some m) (WN st a')):wpS (Wh prog w) A E s (cnt lo n) Q st:=by
 refine Wj (Vc (WM (I:=λx c st'=>st'=st/\c=(none,x)/\x<=n/\Run f (Wp st) lo (lo+x))
  (Q:=λc st'=>st'=st/\∃x,c=(none,x)/\1<=x/\x<=n/\Run f (Wp st) lo (lo+x)/\(x<n->∃h:lo+x<(Wp st).size,f (Wp st)[lo+x] ((Wp st)[lo+x-1]'(by lia))=true)) ?step ?fin ⟨rfl,rfl,h0,λi j _ _ _ _=>by lia⟩) ?post)
 case fin=>
  rintro c st' ⟨rfl,rfl,h1,h2⟩;exact⟨rfl,_,rfl,by lia,h1,h2,λh=>by lia⟩
 case step=>
  rintro x c st' hx1 hx2 ⟨rfl,rfl,h1,h2⟩;dsimp only;refine Wj (zeV C hst rfl hP (show lo+x<(Wp st').size by lia) (show lo+x-1<(Wp st').size by lia) ?_);cases hv:f ((Wp st')[lo+x]'(by lia)) ((Wp st')[lo+x-1]'(by lia))with
  | true=>
   dsimp only;rw[if_pos rfl];exact Wm ⟨rfl,x,rfl,hx1,by lia,h2,λ_=>⟨by lia,hv⟩⟩
  | false=>
   dsimp only;rw[if_neg (by decide)];exact Wm ⟨rfl,rfl,by lia,h2.more T hP hx1 (by lia) hv⟩
 case post=>
  rintro c st' ⟨rfl,x,rfl,h1,h2,h3,h4⟩;dsimp only;have Pa:∀ {i:Nat},(hi:i<(Wp st').size)->P (Wp st')[i]:=λ{i} hi=>hP i _ (getElem?_pos (Wp st') i hi);refine zav (λe1=>?_) (λe1=>?_)
  ·have e1:x=n:=by simpa using e1
   exact Wm (hQ (Wp st') x h1 h2 (.refl _ _ _) h3)
  have e1:¬ x=n:=by simpa using e1
  obtain⟨hx,hv⟩:=h4 (by lia);have hx1:lo+x-1<(Wp st').size:=by lia
  have hdn:Le f (Wp st')[lo+x] (Wp st')[lo+x-1]:=T.asym _ _ (Pa hx) (Pa hx1) hv;refine zqd (λst2=>∃a1,st2=WN st' a1/\Moved (Wp st') a1 lo (lo+n)/\Dec f a1 lo (lo+(x+1))) ?_ (λe2 key=>?_) (λe2=>⟨Wp st',rfl,.refl _ _ _,Dec.more T hP h1 hx (λi j _ _ _ _=>by lia) hdn⟩)
  rotate_left
  ·refine Wj (zeV C hst rfl hP (show lo<(Wp st').size by lia) hx1 ?_);cases hw:f ((Wp st')[lo]'(by lia)) (Wp st')[lo+x-1]with
   | true=>
    dsimp only;rw[if_pos rfl];exact Wm (hQ (Wp st') x h1 h2 (.refl _ _ _) h3)
   | false=>
    dsimp only;rw[if_neg (by decide)];have al:Alike f (Wp st') lo (lo+x):=λi j hi hj g1 g2 g3 g4=>by
     rcases Nat.lt_trichotomy i j with h | h | h
     ·exact h3 i j hj h g1 g4
     ·subst h;exact zez T (Pa hi)
     ·have q1:Le f (Wp st')[i] (Wp st')[lo+x-1]:=by
       by_cases e:i=lo+x-1
       ·subst e;exact zez T (Pa hi)
       ·exact h3 _ _ hx1 (by lia) g1 (by lia)
      have hlo:lo<(Wp st').size:=by lia
      have q2:Le f (Wp st')[lo] (Wp st')[j]:=by
       by_cases e:j=lo
       ·subst e;exact zez T (Pa hj)
       ·exact h3 _ _ hj (by lia) (by lia) (by lia)
      exact T.tr _ _ _ (Pa hi) (Pa hx1) (Pa hj) q1 (T.tr _ _ _ (Pa hx1) (Pa hlo) (Pa hj) hw q2)
    have dc:Dec f (Wp st') lo (lo+x):=λi j hj hij g1 g2=>al j i hj (by lia) (by lia) g2 g1 (by lia);exact Wj (WT (key _ ⟨_,rfl,zeA (by lia) (by lia) (by lia),zjr (by lia) (by lia) (by lia) (dc.more T hP h1 hx hdn) al⟩))
  rintro st2 ⟨a1,rfl,m1,D1⟩;refine Wj (Vo (WL ⟨rfl,?_⟩));refine Wj (Vc (WM
   (I:=λy c st2=>∃a2 neq,st2=WN st' a2/\c=(none,y,neq)/\y<=n/\neq<y/\Moved (Wp st') a2 lo (lo+n)/\Dec f a2 lo (lo+y)/\Alike f a2 (lo+y-(neq+1)) (lo+y))
   (Q:=λc st2=>∃a2 y neq,st2=WN st' a2/\c=(none,y,neq)/\x+1<=y/\y<=n/\neq<y/\Moved (Wp st') a2 lo (lo+n)/\Dec f a2 lo (lo+y)/\Alike f a2 (lo+y-(neq+1)) (lo+y)) ?step2 ?fin2 ⟨a1,0,rfl,rfl,by lia,by lia,m1,D1,zfT T (m1.all hP) (by lia)⟩) ?post2)
  case fin2=>
   rintro c st2 ⟨a2,neq,rfl,rfl,g1,g2,g3,g4,g5⟩;exact⟨a2,_,neq,rfl,rfl,by lia,g1,g2,g3,g4,g5⟩
  case step2=>
   rintro y c st2 hy1 hy2 ⟨a2,neq,rfl,rfl,g1,g2,g3,g4,g5⟩;have hs2:=g3.size;have hP2:=g3.all hP;have hy:lo+y<a2.size:=by lia
   have hyp:lo+y-1<a2.size:=by lia
   have Pb:∀ {i:Nat},(hi:i<a2.size)->P a2[i]:=λ{i} hi=>hP2 i _ (getElem?_pos a2 i hi);dsimp only;refine Wj (zeV C (st:=WN st' a2) (a:=a2) hst rfl hP2 hy hyp ?_);cases hc:f a2[lo+y] a2[lo+y-1]with
   | true=>
    dsimp only;rw[if_pos rfl];have D2:=g4.more T hP2 (by lia) hy (T.asym _ _ (Pb hy) (Pb hyp) hc);refine zav (λhq=>?_) (λhq=>?_)
    ·have m2:=g3.trans (zeA (p:=lo+y-(neq+1)) (q:=lo+y) (lo:=lo) (hi:=lo+n) (show lo+y<=a2.size by lia) (by lia) (by lia));have D3:=zjr (p:=lo+y-(neq+1)) (q:=lo+y) (show lo+(y+1)<=a2.size by lia) (by lia) (by lia) D2 g5;exact Wj (WT (Wm ⟨rev a2 (lo+y-(neq+1)) (lo+y),0,rfl,rfl,by lia,by lia,m2,D3,zfT T (m2.all hP) (by lia)⟩))
    ·exact Wm ⟨a2,0,rfl,rfl,by lia,by lia,g3,D2,zfT T hP2 (by lia)⟩
   | false=>
    dsimp only;rw[if_neg (by decide)];refine Wj (zeV C (st:=WN st' a2) (a:=a2) hst rfl hP2 hyp hy ?_);cases hd:f a2[lo+y-1] a2[lo+y]with
    | true=>
     dsimp only;rw[if_pos rfl];exact Wm ⟨a2,y,neq,rfl,rfl,by lia,by lia,g2,g3,g4,g5⟩
    | false=>
     dsimp only;rw[if_neg (by decide)];have D2:=g4.more T hP2 (by lia) hy hd;have A2:=g5.more T hP2 (by lia) hy hd hc;refine Wm ⟨a2,neq+1,rfl,rfl,by lia,by lia,g3,D2,?_⟩;rw[show lo+(y+1)-(neq+1+1)=lo+y-(neq+1) by lia,show lo+(y+1)=lo+y+1 by lia];exact A2
  case post2=>
   rintro c st2 ⟨a2,y,neq,rfl,rfl,g0,g1,g2,g3,g4,g5⟩;have hs2:=g3.size;dsimp only;refine zqd (λst3=>∃a3,st3=WN st' a3/\Moved (Wp st') a3 lo (lo+n)/\Dec f a3 lo (lo+y)) ?_ (λhq key=>Wj (WT (key _ ⟨_,rfl,g3.trans (zeA (by lia) (by lia) (by lia)),zjr (by lia) (by lia) (by lia) g4 g5⟩))) (λhq=>⟨a2,rfl,g3,g4⟩);rintro st3 ⟨a3,rfl,m3,D3⟩;have hs3:=m3.size;refine Wj (WT ?_);obtain⟨a4,m4,R4,hg⟩:∃a4,Moved (Wp st') a4 lo (lo+n)/\Run f a4 lo (lo+y)/\WN st' (rev a3 lo (lo+y))=WN st' a4:=
    ⟨_,m3.trans (zeA (by lia) (by lia) (by lia)),zrM (by lia) D3,rfl⟩
   show wpS _ _ _ _ _ _ (WN st' (rev a3 lo (lo+y)));rw[hg];clear hg;have hs4:=m4.size;have hP4:=m4.all hP;refine Wj (Vc (WM (I:=λz c st2=>st2=WN st' a4/\c=(none,z)/\z<=n/\Run f a4 lo (lo+z))
    (Q:=λc st2=>st2=WN st' a4/\∃z,c=(none,z)/\1<=z/\z<=n/\Run f a4 lo (lo+z)) ?step3 ?fin3 ⟨rfl,rfl,g1,R4⟩) ?post3)
   case fin3=>
    rintro c st2 ⟨rfl,rfl,k1,k2⟩;exact⟨rfl,_,rfl,by lia,k1,k2⟩
   case post3=>
    rintro c st2 ⟨rfl,z,rfl,k1,k2,k3⟩;exact Wm (hQ a4 z k1 k2 m4 k3)
   case step3=>
    rintro z c st2 hz1 hz2 ⟨rfl,rfl,k1,k2⟩;dsimp only;refine Wj (zeV C (st:=WN st' a4) (a:=a4) hst rfl hP4 (show lo+z<a4.size by lia) (show lo+z-1<a4.size by lia) ?_);cases hc:f (a4[lo+z]'(by lia)) (a4[lo+z-1]'(by lia))with
    | true=>
     dsimp only;rw[if_pos rfl];exact Wm ⟨rfl,z,rfl,by lia,by lia,k2⟩
    | false=>
     dsimp only;rw[if_neg (by decide)];exact Wm ⟨rfl,rfl,by lia,k2.more T hP4 (by lia) (by lia) hc⟩
end
variable {P:Wq->Prop}{f:Wq->Wq->Bool}
def Stk (f:Wq->Wq->Bool)(a:Array Wq):Nat->List (Nat×Nat×Nat)->Nat->Prop
 | s,[],hi=>s=hi
 | s,e::r,hi=>e.1=s/\0<e.2.1/\Run f a s (s+e.2.1)/\Stk f a (s+e.2.1) r hi
def srt:StateT Wv Sem Unit:=sortPriv% PySem.Builtin.sortRuns
section
variable {prog:Wl}{w:Wt}{A:Wu}{E:Wb->Wd->Prop}{s:Wd}{k:WG}{P:Wq->Prop}{f:Wq->Wq->Bool}
structure Inv (f:Wq->Wq->Bool)(k:WG)(a:Array Wq)(st:Wv)(lo:Nat):Prop where
 kind:kindOf st=k
 failed:W7 st=none
 pm:(Wp st).Perm a
 stk:Stk f (Wp st) 0 (Ws st).toList lo
end
section
variable {prog:Wl}{w:Wt}{A:Wu}{E:Wb->Wd->Prop}{s:Wd}{k:WG}{P:Wq->Prop}{f:Wq->Wq->Bool}
theorem ztK {α:Type}{c:Prop} [Decidable c] {m1 m2:StateT Wv Sem α}{Q:α->Wv->Prop}{st:Wv}(h1:c->wpS (Wh prog w) A E s m1 Q st)(h2:¬ c->wpS (Wh prog w) A E s m2 Q st):wpS (Wh prog w) A E s (if c then m1 else m2) Q st:=by
 by_cases h:c
 ·rw[if_pos h];exact h1 h
 ·rw[if_neg h];exact h2 h
end
def ltI:List Int->List Int->Bool
 | [],[]=>false
 | [],_::_=>true
 | _::_,[]=>false
 | x::xs,y::ys=>if x=y then ltI xs ys else decide (x<y)
theorem zhw:∀x:List Int,ltI x x=false
 | []=>rfl
 | a::x=>by unfold ltI;rw[if_pos rfl];exact zhw x
theorem zeB:∀x y:List Int,ltI x y=true->ltI y x=false
 | [],[],h=>rfl
 | [],_::_,h=>rfl
 | _::_,[],h=>by cases h
 | a::x,b::y,h=>by
  unfold ltI at h ⊢;by_cases e:a=b
  ·rw[if_pos e]at h;rw[if_pos e.symm];exact zeB x y h
  ·rw[if_neg e]at h;rw[if_neg (λz=>e z.symm)];have:=of_decide_eq_true h;exact decide_eq_false (by lia)
theorem zeW:∀x y:List Int,ltI x y=false->ltI y x=false->x=y
 | [],[],_,_=>rfl
 | [],_::_,h,_=>by cases h
 | _::_,[],_,h=>by cases h
 | a::x,b::y,h1,h2=>by
  unfold ltI at h1 h2;by_cases e:a=b
  ·rw[if_pos e]at h1;rw[if_pos e.symm]at h2;rw[e,zeW x y h1 h2]
  ·rw[if_neg e]at h1;rw[if_neg (λz=>e z.symm)]at h2;have:=of_decide_eq_false h1;have:=of_decide_eq_false h2;exact absurd (show a=b by lia) e
theorem zdr:∀x y z:List Int,ltI x y=true->ltI y z=true->ltI x z=true
 | [],[],_,h,_=>by cases h
 | [],_::_,[],_,h=>by cases h
 | [],_::_,_::_,_,_=>rfl
 | _::_,[],_,h,_=>by cases h
 | _::_,_::_,[],_,h=>by cases h
 | a::x,b::y,c::z,h1,h2=>by
  unfold ltI at h1 h2 ⊢;by_cases e:a=b
  ·rw[if_pos e]at h1;by_cases e2:b=c
   ·rw[if_pos e2]at h2;rw[if_pos (e.trans e2)];exact zdr x y z h1 h2
   ·rw[if_neg e2]at h2;rw[if_neg (by rw[e];exact e2),e];exact h2
  ·rw[if_neg e]at h1;have l1:=of_decide_eq_true h1;by_cases e2:b=c
   ·rw[if_neg (by rw[<- e2];exact e),<- e2];exact h1
   ·rw[if_neg e2]at h2;have l2:=of_decide_eq_true h2;rw[if_neg (by lia)];exact decide_eq_true (by lia)
theorem zrN:∀x y:List Int,x.zip y=[]->ltI x y=decide (x.length<y.length)
 | [],[],_=>rfl
 | [],_::_,_=>by simp[ltI]
 | _::_,[],_=>by simp[ltI]
 | _::_,_::_,h=>by cases h
def TupAt (h:Heap)(v:Wb)(ns:List Int):Prop:=∃a o vs n,v=.ref a/\h.get? a=some o/\o.cls=.type "tuple"/\o.data=.seq (List.toArray vs) n/\WU vs ns
theorem TupAt.inj {h:Heap}{v:Wb}{ns ms:List Int}(h1:TupAt h v ns)(h2:TupAt h v ms):ns=ms:=by
 obtain⟨a,o,vs,n,rfl,e,_,d,i⟩:=h1;obtain⟨a2,o2,vs2,n2,ea,e2,_,d2,i2⟩:=h2;cases ea;rw[e]at e2;cases e2;rw[d]at d2;cases d2;rw[<- i.nums,<- i2.nums]
open Classical in
noncomputable def gOf (h:Heap)(v:Wb):List Int:=if z:∃ns,TupAt h v ns then z.choose else[]
theorem zkp {h:Heap}{v:Wb}{ns:List Int}(z:TupAt h v ns):gOf h v=ns:=by
 unfold gOf;have hz:∃ns,TupAt h v ns:=⟨ns,z⟩;rw[dif_pos hz];exact hz.choose_spec.inj z
section
variable {prog:Wl}{w:Wt}{M:Model}{A:Wu}{E:Wb->Wd->Prop}{s:Wd}
theorem zfU {α β:Type}(f:α->β->Sem (ForInStep β))(I:List α->β->Prop){Q:β->Wd->Prop}
  (hstep:∀x rest b,I (x::rest) b->Wi M A (f x b) (λr s'=>s'=s/\match r with | .done b'=>Q b' s | .yield b'=>I rest b') E s)
  (hend:∀b,I [] b->Q b s):∀(l:List α) (b:β),I l b->Wi M A (forIn l b f) Q E s
 | [],b,h=>by rw[List.forIn_nil];exact Wf (hend _ h)
 | x::rest,b,h=>by
  rw[List.forIn_cons];refine Wa (WR (hstep x rest b h) (λr s' h'=>?_) λ_ _ e=>e);obtain⟨es,h'⟩:=h';rw[es];cases r with
  | done b'=>exact Wf h'
  | yield b'=>exact zfU f I hstep hend rest b' h'
theorem ziy {a b:Int}{t u:Tok}{o:Bool}{Q:Bool->Wd->Prop}(h:Q (decide (a<b)) s):Wi (Wh prog w) A (oneLt' o (.int a t) (.int b u)) Q E s:=by
 cases o with
 | true=>exact oneLt_int h
 | false=>
  rw[oneLt'_eq];simp only[XU,if_false];refine Wa (wpAny_lt_int (Q:=λr s'=>Wi (Wh prog w) A (truthOfDropped r) Q E s') ?_);exact WZ h
theorem znl {k:Bool}{x y:Wb}{ns ms:List Int}{Q:Bool->Wd->Prop}(hx:TupAt s.heap x ns)(hy:TupAt s.heap y ms)(h:Q (ltI ns ms) s):Wi (Wh prog w) A (keyLt' (tuples' k) x y) Q E s:=by
 obtain⟨a,o,vs,n,rfl,e,_,d,i⟩:=hx;obtain⟨b,o2,ws,n2,rfl,e2,_,d2,i2⟩:=hy;refine Wa (W2 e d (Wa (W2 e2 d2 ?_)));refine Wa (zfU _ (I:=λl c=>c=(none,PUnit.unit)/\∃vs' ws' ns' ms' j,l=(vs'.zip ws').zipIdx j/\WU vs' ns'/\WU ws' ms'/\ltI ns ms=ltI ns' ms'/\ns'.length+ms.length=ms'.length+ns.length) ?step ?fin _ _ ⟨rfl,vs,ws,ns,ms,0,rfl,i,i2,rfl,by lia⟩)
 case fin=>
  rintro c ⟨rfl,vs',ws',ns',ms',j,hl,i3,i4,h1,h2⟩;dsimp only;have hz:ns'.zip ms'=[]:=by
   have q:(vs'.zip ws').length=0:=by have:=congrArg List.length hl;simpa using this.symm
   rw[Yp]at q;have l3:=i3.nums;have l4:=i4.nums;have l3:=congrArg List.length l3;have l4:=congrArg List.length l4;rw[Xb]at l3 l4;refine Yf.mp ?_;rw[Yp,<- l3,<- l4];exact q
  rw[h1,zrN _ _ hz]at h;have l1:=congrArg List.length i.nums;have l2:=congrArg List.length i2.nums;rw[Xb]at l1 l2;have hd:decide (ns'.length<ms'.length)=decide (vs.toArray.size<ws.toArray.size):=by
   rw[Xj,Xj,l1,l2];by_cases q:ns'.length<ms'.length
   ·rw[decide_eq_true q,decide_eq_true (by lia)]
   ·rw[decide_eq_false q,decide_eq_false (by lia)]
  rw[hd]at h;exact Wf h
 case step=>
  rintro⟨⟨p,q⟩,j0⟩ rest c ⟨rfl,vs',ws',ns',ms',j,hl,i3,i4,h1,h2⟩;cases i3 with
  | nil=>simp at hl
  | @cons n1 t1 vs1 ns1 i3=>
   cases i4 with
   | nil=>simp at hl
   | @cons m1 u1 ws1 ms1 i4=>
    rw[Yb,List.zipIdx_cons]at hl;obtain⟨hl1,hl2⟩:=List.cons.inj hl;cases hl1;dsimp only;refine Wa (wpAny_eqBool_int ?_);by_cases e3:n1=m1
    ·subst e3;rw[if_neg (by simp)];refine Wf ⟨rfl,rfl,vs1,ws1,ns1,ms1,_,hl2,i3,i4,?_,?_⟩
     ·rw[h1,ltI,if_pos rfl]
     ·rw[XE,XE]at h2;lia
    ·rw[if_pos (by simpa using e3)];refine Wa (ziy ?_);refine Wf ⟨rfl,?_⟩;dsimp only;rw[h1,ltI,if_neg e3]at h;exact Wf h
theorem zjs (k:Bool):Cmp prog w A E s (tuples' k) (λx=>∃ns,TupAt s.heap x.1 ns) (λx y=>ltI (gOf s.heap x.1) (gOf s.heap y.1)) where
 run {x y Q st} hx hy hk h:=by
  obtain⟨ns,hx⟩:=hx;obtain⟨ms,hy⟩:=hy;rw[zkp hx,zkp hy]at h;rw[lt'_eq];refine Wj (Va ?_);rw[hk];refine Wj (Vo (wpAny_attempt (znl hx hy ⟨rfl,?_⟩)));exact Wm h
end
theorem zeC {x y z:List Int}(h1:ltI y x=false)(h2:ltI z y=false):ltI z x=false:=by
 cases h:ltI z x with
 | false=>rfl
 | true=>
  cases h3:ltI x y with
  | true=>rw[zdr _ _ _ h h3]at h2;cases h2
  | false=>rw[zeW _ _ h3 h1]at h;rw[h]at h2;cases h2
theorem zrO (h:Heap):Tot (λx y=>ltI (gOf h x.1) (gOf h y.1)) (λx=>∃ns,TupAt h x.1 ns) where
 asym x y _ _ e:=zeB _ _ e
 tr x y z _ _ _ h1 h2:=zeC h1 h2
theorem ziz {α β:Type}{φ:α->β}{l m:List β}(h:l.Perm m):∀us:List α,m=us.map φ->∃us':List α,us'.Perm us/\l=us'.map φ:=by
 induction h with
 | nil=>intro us e;exact⟨us,.refl _,by rw[<- e]⟩
 | @cons x l1 l2 hp ih=>
  intro us e;cases us with
  | nil=>cases e
  | cons u us=>
   rw[Xq]at e;have e1:=(List.cons.inj e).1;have e2:=(List.cons.inj e).2;obtain⟨us',h1,h2⟩:=ih us e2;exact⟨u::us',h1.cons u,by rw[Xq,h2,e1]⟩
 | @swap x y l1=>
  intro us e
  match us,e with
  | u::v::us,e=>
   rw[Xq,Xq]at e;have e1:=(List.cons.inj e).1;have e2:=(List.cons.inj (List.cons.inj e).2).1;have e3:=(List.cons.inj (List.cons.inj e).2).2;exact⟨v::u::us,.swap _ _ _,by rw[Xq,Xq,e1,e2,e3]⟩
 | trans _ _ ih1 ih2=>
  intro us e;obtain⟨u2,h1,h2⟩:=ih2 us e;obtain⟨u3,h3,h4⟩:=ih1 u2 h2;exact⟨u3,h3.trans h1,h4⟩
section
variable {prog:Wl}{w:Wt}{M:Model}{A:Wu}{E:Wb->Wd->Prop}{s:Wd}
theorem zkq {α β:Type}{g:α->Sem β}{φ:α->β}:∀(vs:List α){Q:List β->Wd->Prop},(∀v∈vs,∀ {Q':β->Wd->Prop},Q' (φ v) s->Wi M A (g v) Q' E s)->Q (vs.map φ) s->Wi M A (vs.mapM g) Q E s
 | [],Q,_,h=>by rw[List.mapM_nil];exact Wf h
 | v::vs,Q,hg,h=>by
  rw[List.mapM_cons];refine Wa (hg v Xh (Wa (zkq vs (λu hu=>hg u (Xi _ hu)) (Wf ?_))));exact h
theorem znm {α β:Type}{g:α->Sem β}{φ:α->β}(vs:List α){Q:Array β->Wd->Prop}(hg:∀v∈vs,∀ {Q':β->Wd->Prop},Q' (φ v) s->Wi M A (g v) Q' E s)(h:Q (vs.map φ).toArray s):Wi M A (vs.toArray.mapM g) Q E s:=by
 rw[List.mapM_toArray,map_eq_pure_bind];exact Wa (zkq vs hg (Wf h))
noncomputable def zgs (h:Heap)(v:Wb):Option Wb:=match v with
 | .ref a=>match h.get? a with
  | some o=>match o.data with
   | .seq xs _=>xs[0]?
   | _=>none
  | none=>none
 | _=>none
theorem zkr {v:Wb}{ns:List Int}(hv:TupAt s.heap v ns)(hn:ns≠[]):(∃n t,zgs s.heap v=some (.int n t))/\∀ {Q:Option Wb->Wd->Prop},Q (zgs s.heap v) s->Wi M A (firstOfTuple' v) Q E s:=by
 obtain⟨a,o,vs,n,rfl,e,c,d,i⟩:=hv;have hf:zgs s.heap (.ref a)=vs.toArray[0]?:=by unfold zgs;dsimp only;rw[e];dsimp only;rw[d]
 refine⟨?_,λ{Q} h=>?_⟩
 ·rw[hf];cases i with
  | nil=>exact absurd rfl hn
  | cons n t i=>exact⟨n,t,rfl⟩
 ·refine Wa (wpAny_typeOf (T:="tuple") ⟨o,e,c⟩ ?_);rw[if_neg (by decide)];refine Wa (W2 e d (Wf ?_));rw[<- hf];exact h
theorem zks {vs:List Wb}{Q:WG->Wd->Prop}(hv:∀v∈vs,∃ns,TupAt s.heap v ns/\ns≠[])(h1:vs≠[])(h:Q (tuples' true) s):Wi M A (keyKind' vs.toArray) Q E s:=by
 rw[keyKind'_eq];have hi:∀v∈vs,∃n t,zgs s.heap v=some (.int n t):=λv hm=>by
  obtain⟨ns,z1,z2⟩:=hv v hm;exact(zkr (M:=M) (A:=A) (E:=E) z1 z2).1
 refine Wa (znm (φ:=zgs s.heap) vs (λv hm {Q'} q=>?_) ?_)
 ·obtain⟨ns,z1,z2⟩:=hv v hm;exact(zkr z1 z2).2 q
 have ha:((vs.map (zgs s.heap)).toArray.all λx=>x.isSome)=true:=by
  rw[List.all_toArray,List.all_map,XI];intro v hm;obtain⟨n,t,e⟩:=hi v hm;show(zgs s.heap v).isSome=true;rw[e];rfl
 rw[if_pos ha];have hx:∃us:List Wb,(vs.map (zgs s.heap)).filterMap id=us/\us≠[]/\∀u∈us,∃n t,u=Value.int n t:=by
  refine⟨_,rfl,?_,λu hu=>?_⟩
  ·cases vs with
   | nil=>exact absurd rfl h1
   | cons v vs=>
    obtain⟨n,t,e⟩:=hi v Xh;rw[Xq,e];simp
  ·rw[List.mem_filterMap]at hu;obtain⟨o,ho,e⟩:=hu;obtain⟨v,hm,rfl⟩:=XD.mp ho;obtain⟨n,t,e2⟩:=hi v hm;have e:zgs s.heap v=some u:=e;rw[e2]at e;exact⟨n,t,(Option.some.inj e).symm⟩
 obtain⟨us,e1,e2,e3⟩:=hx;refine Wa (WL ?_);rw[List.filterMap_toArray,e1,oneTypeOnly'_eq,List.mapM_toArray,mapM_typeOf_ints (intsAre_map us e3)];simp only[map_pure,pure_bind];cases us with
 | nil=>exact absurd rfl e2
 | cons u us=>
  have h0:(List.map (λ_=>Value.type "int") (u::us)).toArray[0]? = some (Value.type "int"):=rfl;have hall:((List.map (λ_=>Value.type "int") (u::us)).toArray.all λx=>x == Value.type "int")=true:=by
   rw[List.all_toArray,List.all_map,XI];intro _ _;rfl
  rw[h0];simp only[hall,if_true,pure_bind];exact Wf h
abbrev refsOf (us:List (We×List Int)):List Wb:=us.map λu=>Value.ref u.1
theorem zcT:∀us:List (We×List Int),(refsOf us).zip (refsOf us)=us.map λu=>(Value.ref u.1,Value.ref u.1)
 | []=>rfl
 | u::us=>by show(_,_)::(refsOf us).zip (refsOf us)=_;rw[zcT us];rfl
end
end Srt
namespace L2
open PySem PySem.Spec PyProof.Rows
theorem zfV:∀ {us:List (We×List Int)}{its:List Wb},Vals (us.map λu=>V.ref u.1) its->its=Srt.refsOf us
 | [],_,r=>by cases r;rfl
 | u::us,_,r=>by
  cases r with
  | cons r1 r2=>
   have e:_=Value.ref u.1:=r1;rw[e,zfV r2];rfl
theorem zfW:∀(us:List (We×List Int)),Vals (us.map λu=>V.ref u.1) (Srt.refsOf us)
 | []=>.nil
 | u::us=>.cons rfl (zfW us)
theorem ints_of:∀ {ns:List Int}{its:List Wb},Vals (ns.map V.int) its->WU its ns
 | [],_,r=>by cases r;exact .nil
 | n::ns,_,r=>by
  cases r with
  | cons r1 r2=>
   obtain⟨t,rfl⟩:=(show ∃t,_=Value.int n t from r1);exact .cons n t (ints_of r2)
end L2
namespace PL
open PySem PySem.Spec L2
open PyProof.Rows hiding St
open Srt (ltI zhw zeB zeW zdr zeC)
def sortI (ss:List (List Int)):List (List Int):=ss.mergeSort λa b=>!ltI b a
theorem sortI_perm (ss:List (List Int)):(sortI ss).Perm ss:=List.mergeSort_perm ss _
theorem zkt (ss:List (List Int)):(sortI ss).Pairwise (λx y=>ltI y x=false):=by
 have h:=List.pairwise_mergeSort (le:=λa b:List Int=>!ltI b a) (λa b c h1 h2=>by
  simp only[Bool.not_eq_true']at h1 h2 ⊢;exact zeC h1 h2) (λa b=>by
  cases h:ltI b a with
  | false=>rfl
  | true=>rw[zeB _ _ h];rfl) ss
 exact h.imp λ{a b} z=>by simpa using z
theorem zeD:∀ {l m:List (List Int)},l.Perm m->l.Pairwise (λx y=>ltI y x=false)->m.Pairwise (λx y=>ltI y x=false)->l=m
 | [],m,h,_,_=>(List.nil_perm.mp h).symm
 | a::l,[],h,_,_=>absurd h.length_eq (by simp)
 | a::l,b::m,h,h1,h2=>by
  have e:a=b:=by
   rcases Xo.mp (h.mem_iff.mp Xh)with z | z
   ·exact z
   ·rcases Xo.mp (h.symm.mem_iff.mp (Xh (a:=b) (l:=m)))with y | y
    ·exact y.symm
    ·exact zeW _ _ ((YJ.mp h2).1 a z) ((YJ.mp h1).1 b y)
  subst e;rw[zeD ((List.perm_cons a).mp h) (YJ.mp h1).2 (YJ.mp h2).2]
theorem zpd {zs ss:List (List Int)}(h:zs.Perm ss)(hp:zs.Pairwise (λx y=>ltI y x=false)):zs=sortI ss:=zeD (h.trans (sortI_perm ss).symm) hp (zkt ss)
theorem zku {K:Xa}{Fz:FZ}{H:Hp}:∀ {ss:List Int}{xs:List V},DenL K Fz H (ss.map PV.int) xs->xs=ss.map V.int
 | [],xs,h=>by rw[List.map_nil]at h;simp only[DenL]at h;exact h
 | s::r,xs,h=>by
  rw[Xq]at h;simp only[DenL]at h;obtain⟨v,t,z,h1,h2⟩:=h;simp only[Den]at h1;subst z h1;rw[Xq,zku h2]
theorem zkv {K:Xa}{Fz:FZ}{H:Hp}:∀(ss:List Int),DenL K Fz H (ss.map PV.int) (ss.map V.int)
 | []=>DenL.nil
 | s::r=>by rw[Xq,Xq];exact DenL.cons (by simp only[Den]) (zkv r)
theorem zfX {K:Xa}{Fz:FZ}{H:Hp}:∀ {ss:List (List Int)}{xs:List V},DenL K Fz H (ss.map λr=>PV.tup (r.map PV.int)) xs->∃us:List (We×List Int),xs=us.map (λu=>V.ref u.1)/\us.map (·.2)=ss/\∀u∈us,H u.1=some (.tup (u.2.map V.int))
 | [],xs,h=>by rw[List.map_nil]at h;simp only[DenL]at h;exact⟨[],h,rfl,λu hu=>by cases hu⟩
 | s::r,xs,h=>by
  rw[Xq]at h;simp only[DenL]at h;obtain⟨v,t,z,h1,h2⟩:=h;simp only[Den]at h1;obtain⟨p,ys,e1,e2,e3⟩:=h1;have e4:=zku e3;subst e4;obtain⟨us,g1,g2,g3⟩:=zfX h2;refine⟨(p,s)::us,by rw[z,e1,g1];rfl,by rw[Xq,g2],λu hu=>?_⟩;rcases Xo.mp hu with rfl | hu
  ·exact e2
  ·exact g3 u hu
theorem zfY {K:Xa}{Fz:FZ}{H:Hp}:∀(us:List (We×List Int)),(∀u∈us,H u.1=some (.tup (u.2.map V.int)))->DenL K Fz H ((us.map (·.2)).map λr=>PV.tup (r.map PV.int)) (us.map λu=>V.ref u.1)
 | [],_=>DenL.nil
 | u::us,h=>by
  rw[Xq,Xq,Xq];refine DenL.cons ?_ (zfY us λv hv=>h v (Xi _ hv));simp only[Den];exact⟨u.1,_,rfl,h u Xh,zkv u.2⟩
end PL
namespace L2
open PySem PySem.Spec PyProof.Rows
theorem zjt {h:Heap}{a:We}{its:Array Wb}(x:IsTup h a its):h.IsTuple a its:=x
def ztL (K:Xa)(a b:We):It:=
  ⟨λi H=>∃xs ys x y,SqT K H a xs/\xs[i]? = some x/\SqT K H b ys/\ys[i]? = some y,
   λi H x H'=>∃p u v,x=.ref p/\H p=none/\(∀xs,SqT K H a xs->xs[i]? = some u)/\(∀ys,SqT K H b ys->ys[i]? = some v)/\H'=upd H p (.tup [u,v]),
   λi H=>∃xs,SqT K H a xs/\xs.length<=i⟩
theorem zlv {P:Wl}{w:Wt}{K:Xa}{elts:List Expr}{x1:Nat}{pos:Pos}(a b z TI TO i1 i2:We)(D:ZipApart z TI TO i1 i2 a b) :
  Turn P w K (.Tuple elts x1 pos) (ztL K a b) [z,TI,TO,i1,i2] z (λi h=>IsZip h z TI TO .none/\W6 h TI (.ref i1) (.ref i2)/\(∃u v,W6 h TO u v)/\h.IsTupleIter i1 a i/\h.IsTupleIter i2 b i) where
 mem:=by simp
 obj:=λi h st c hc=>by
  obtain⟨h1,h2,⟨u,v,h3⟩,⟨o4,h4,_,d4⟩,⟨o5,h5,_,d5⟩⟩:=st;simp only[Xo,YD,or_false]at hc;rcases hc with rfl | rfl | rfl | rfl | rfl
  ·exact⟨_,h1,λv z=>by cases z⟩
  ·exact⟨_,h2,λv z=>by cases z⟩
  ·exact⟨_,h3,λv z=>by cases z⟩
  ·exact⟨_,h4,λv z=>by rw[d4]at z;cases z⟩
  ·exact⟨_,h5,λv z=>by rw[d5]at z;cases z⟩
 keep:=λi h h' st k=>by
  obtain⟨h1,h2,⟨u,v,h3⟩,h4,h5⟩:=st;exact⟨k z (by simp) _ h1,k TI (by simp) _ h2,⟨u,v,k TO (by simp) _ h3⟩,h4.at λo q=>k i1 (by simp) o q,h5.at λo q=>k i2 (by simp) o q⟩
 item:=by
  intro X hP hw hK hc i pins s σ H E I hf st hg;subst hP hw hK;obtain⟨h1,h2,⟨c1,c2,h3⟩,h4,h5⟩:=st;obtain⟨xs,ys,x,y,hq,hx,hq2,hy⟩:=hg;obtain⟨its,rv,p,hz⟩:=I.tuple hq;obtain⟨u,hu,ru⟩:=rv.get hx;obtain⟨its2,rv2,p2,hz2⟩:=I.tuple hq2;obtain⟨u2,hu2,ru2⟩:=rv2.get hy;have hfr:H s.heap.objs.size=none:=I.hok.fresh (Xf _);have lt:∀c∈[z,TI,TO,i1,i2],c<s.heap.objs.size:=λc hc=>by
   simp only[Xo,YD,or_false]at hc;rcases hc with rfl | rfl | rfl | rfl | rfl
   ·exact Xs h1
   ·exact Xs h2
   ·exact Xs h3
   ·obtain⟨o,ho,_⟩:=id h4;exact Xs ho
   ·obtain⟨o,ho,_⟩:=id h5;exact Xs ho
  refine JZ2.next_item D h1 h2 h3 h4 h5 (zjt p) (zjt p2) (x:=u) (y:=u2) (by simpa using hu) (by simpa using hu2) λhp1 g1 g3 g4 g5 gt gz gk=>⟨.ref s.heap.objs.size,rfl,?_⟩;refine wpAny_letOwnedTupleGo_zip g1 λhp2 k1 ks=>?_;replace ks:Yi z hp1 hp2:=ks;have I1:=I.laid (a:=s.heap.objs.size) (o:=.tup [x,y]) (h':=s.heap.push { cls:=.type "tuple",data:=.seq #[u,u2] }) (t':=s.toks) (λb u e=>Xd _ e) (Xf _)
   ⟨by show 2<=Wn;decide,[u,u2],.cons ru (.cons ru2 .nil),zdb.new _ _⟩
  have hfp:∀c∈[z,TI,TO,i1,i2],FpOk X pins (upd H s.heap.objs.size (.tup [x,y])) c:=λc hc=>by
   obtain⟨f0,fr⟩:=hf c hc;exact⟨by rw[zak (XB (lt c hc))];exact f0,fr⟩
  have I2:=I1.zfP (h':=hp2) (t':=s.toks) (ch:=[z,TI,TO,i1,i2]) (λc o hc ec=>by
   have n1:c≠z:=λe=>hc (by simp[e]);refine(ks.2 c n1).trans ?_;rcases Heap.get?_push_cases ec with ⟨rfl,rfl⟩ | ec
   ·exact gt
   ·exact gk c o n1 (λe=>hc (by simp[e])) (λe=>hc (by simp[e])) (λe=>hc (by simp[e])) ec) hfp
  refine⟨.ref s.heap.objs.size,_,I2,rfl,⟨_,x,y,rfl,hfr,λzs hz=>by rw[I.zeh hz hq];exact hx,λzs hz=>by rw[I.zeh hz hq2];exact hy,rfl⟩,⟨k1,?_,⟨u,u2,?_⟩,?_,?_⟩,λc hc=>(hfp c hc).1⟩
  ·exact(ks.2 TI D.TIz).trans (gk TI _ D.TIz D.TITO D.TIi1 D.TIi2 h2)
  ·exact(ks.2 TO D.TOz).trans g3
  ·exact g4.extBut ks.extBut D.i1z
  ·exact g5.extBut ks.extBut D.i2z
 done:=by
  intro X hP hw hK hc i pins s σ H E I hf st hg;subst hP hw hK;obtain⟨h1,h2,⟨c1,c2,h3⟩,h4,h5⟩:=st;obtain⟨xs,hq,hx⟩:=hg;obtain⟨its,rv,p,hz⟩:=I.tuple hq;have hl:=rv.length;refine JZ2.next_end (I.ok.hd hc) D h1 h2 h4 (zjt p) (by simp;lia) λh' gk=>⟨rfl,?_⟩;exact I.zfP (t':=s.toks) (ch:=[z,TI,TO,i1,i2]) (λc o hc ec=>gk c o (λe=>hc (by simp[e])) (λe=>hc (by simp[e])) (λe=>hc (by simp[e])) (λe=>hc (by simp[e])) ec) hf
 self:=λ_ _ _ _ _ st h=>wpAny_pyIter_zip st.1 h
section
variable {X:Cx}{elts:List Expr}{x1:Nat}{tpos p pos:Pos}{e e2:Expr}{t:TA}
def ztM (K:Xa)(t:TA):TI:=λσ H R=>t σ H λvs H1=>∃a b,vs=[.ref a,.ref b]/\(∃xs,SqT K H1 a xs)/\(∃ys,SqT K H1 b ys)/\R (ztL K a b) H1
theorem zpe (hg:Gl X "zip") (hm:X.mg "zip" = none) (ha:PA X [e,e2] t) (he:Wg [e,e2] X.env=(false,WA e X.env)::Wg [e2] X.env:=by rfl) (hpl:(Wy pos (Wg [e2] X.env)).any (·.1)=false:=by rfl) :
  PI X (.Tuple elts x1 tpos) (.Call (.Name "zip" p) [e,e2] [] pos) (ztM X.K t):=by
 intro pins s σ H R I h;refine WO (zfu I hg hm ziu ?_ (by decide) (by decide));refine PyProof.Rows.callWith_type1 (thn (ha pos pins s σ H _ I h) λus s1 ⟨vs,H1,I1,r1,a,b,ev,⟨xs,hq⟩,⟨ys,hq2⟩,q⟩=>?_) he hpl;subst ev;obtain⟨u1,u2,rfl,r2,r3⟩:=vals2 r1;obtain rfl:u1=Value.ref a:=r2;obtain rfl:u2=Value.ref b:=r3;obtain⟨its,r,pl,hz⟩:=I1.tuple hq;obtain⟨its2,r',pl2,hz2⟩:=I1.tuple hq2;have ha':@LT.lt Nat _ a s1.heap.objs.size:=by obtain⟨o,ho,_⟩:=(zjt pl);exact Xs ho
 have hb':@LT.lt Nat _ b s1.heap.objs.size:=by obtain⟨o,ho,_⟩:=zjt pl2;exact Xs ho
 refine JZ2.zpa (zjt pl) (zjt pl2) λh' g1 g2 g3 g4 g5 gk=>?_;refine wpAny_pyIter_zip (s:={ s1 with heap:=h' }) g1 ?_;have I2:Inv X pins σ H1 { s1 with heap:=h' }:=I1.kept (t':=s1.toks) gk;have D:ZipApart (s1.heap.objs.size+4) (s1.heap.objs.size+2) (s1.heap.objs.size+3) s1.heap.objs.size (s1.heap.objs.size+1) a b:=by constructor<;>first | exact XB (by lia) | exact YN (by lia)
 refine⟨_,_,_,_,H1,rfl,I2,zlv a b _ _ _ _ _ D,⟨g1,g2,⟨_,_,g3⟩,g4,g5⟩,λc hc=>?_,q⟩;have hc':s1.heap.objs.size<=c:=by
  simp only[Xo,YD,or_false]at hc;rcases hc with rfl | rfl | rfl | rfl | rfl<;>lia
 exact I1.fpOk hc' (I1.hok.fresh hc')
end
end L2
namespace PL
open PySem PySem.Spec L2
open PyProof.Rows hiding St
def zbw (t:TPA):TPI:=λρ Q=>t ρ λops=>noOwn ops=true/\∃ds es,ops.map (·.1)=[.tup ds,.tup es]/\ds.length<=es.length/\Q (zipP ds es) false
section
variable {X:Cx}{elts:List Expr}{x1:Nat}{tpos p pos:Pos}{e e2:Expr}{t:TPA}
theorem znn (hg:Gl X "zip") (hm:X.mg "zip" = none) (ha:PuA X [e,e2] t) (he:Wg [e,e2] X.env=(false,WA e X.env)::Wg [e2] X.env:=by rfl) (hpl:(Wy pos (Wg [e2] X.env)).any (·.1)=false:=by rfl) :
  PuI X (.Tuple elts x1 tpos) (.Call (.Name "zip" p) [e,e2] [] pos) (zbw t) where
 mono ρ Q Q' m h:=ha.mono ρ _ _ (λops ⟨e1,ds,es,e,e4,q⟩=>⟨e1,ds,es,e,e4,m _ _ q⟩) h
 run:=PI.weak (zpe hg hm ha.run he hpl) λσ H Rr h=>by
  obtain⟨ρ,Fz,R,h⟩:=h;refine⟨ρ,Fz,R,ha.mono ρ _ _ (λops q vs Fz' H' x o=>?_) h⟩;obtain⟨hn,ds,es,eo,hle,q⟩:=q;obtain⟨F2,x2,s2,d2⟩:=o.frozen x hn;rw[eo]at d2;simp only[DenL]at d2;obtain⟨v1,r1,rfl,d1,v2,r2,rfl,d3,rfl⟩:=d2;simp only[Den]at d1 d3;obtain⟨a,xs,rfl,a1,a2⟩:=d1;obtain⟨b,ys,rfl,b1,b2⟩:=d3;have sqa:∀ {H2:Hp},Keep F2 H' H2->SqT X.K H2 a xs:=λkp=>kp.sqT a1;have sqt:∀ {H2:Hp},Keep F2 H' H2->SqT X.K H2 b ys:=λkp=>kp.sqT b1;refine⟨a,b,rfl,⟨xs,sqa (.of (Same.refl _))⟩,⟨ys,sqt (.of (Same.refl _))⟩,q _ F2 H' x2 λH2 hH i=>?_⟩;have kp:Keep F2 H' H2:=hH.elim (λz=>.of z) (λz=>.mk' z.2);have g1:=sqa kp;have g2:=sqt kp;have m1:=DenL.mono kp (λ_ h=>h) _ _ a2;have m2:=DenL.mono kp (λ_ h=>h) _ _ b2;have l1:=m1.length;have l2:=m2.length;refine⟨λd hd=>?_,λhi=>⟨xs,g1,by rw[zcw]at hi;lia⟩⟩;obtain⟨u,w,hu,hw,rfl⟩:=zcS hd;obtain⟨v,q1,q2⟩:=m1.get hu;obtain⟨v',q3,q4⟩:=m2.get hw;refine⟨⟨xs,ys,v,v',g1,q1,g2,q3⟩,λy H3 ⟨pp,c1,c2,ey,hnp,gy,gy2,e3⟩=>?_⟩;subst ey e3;have e1:=gy xs g1;rw[q1]at e1;cases e1;have e2:=gy2 ys g2;rw[q3]at e2;cases e2;have sm:Same H2 (upd H2 pp (.tup [v,v'])):=λb o hb=>by rw[zak (zaB hb hnp)];exact hb
  refine⟨sm,?_⟩;simp only[Den];exact⟨pp,_,rfl,zap,DenL.cons (Den.mono (.of sm) (λ_ h=>h) _ _ q2) (DenL.cons (Den.mono (.of sm) (λ_ h=>h) _ _ q4) DenL.nil)⟩
end
end PL
namespace JS
open PySem
abbrev tb (m:Nat):SetTable:={ SetTable.fresh 0 0 true with mask:=m }
def pth (m:Nat)(h:Int):Nat->SetTable.Probe
 | 0=>(tb m).probeStart h
 | n+1=>(tb m).advance (pth m h n)
structure Own (m:Nat)(ow:Array (Option Nat))(hs:List Int):Prop where
 sz:ow.size=m+1
 at_:∀(k:Nat) (h:Int),hs[k]? = some h->∃j n,ow[j]? = some (some k)/\(pth m h n).j=j/\∀d,d<n->∃q,ow[(pth m h d).j]? = some (some q)
 lt:∀(j k:Nat),ow[j]? = some (some k)->k<hs.length
 one:∀(j j' k:Nat),ow[j]? = some (some k)->ow[j']? = some (some k)->j=j'
open PySem PySem.Spec PyProof.Rows
section
variable {prog:Wl}{w:Wt}{A:Wu}{E:Wb->Wd->Prop}{s:Wd}
abbrev tH (prog:Wl)(w:Wt)(y:List Int):Int:=tupleKeyHash (PySem.intKind prog w) y
end
abbrev PA2:=List Int×We
abbrev ent (prog:Wl)(w:Wt)(p:PA2):Int×Wb:=(tH prog w p.1,.ref p.2)
end JS
namespace PL
open PySem PySem.Spec L2
open PyProof.Rows hiding St
def zpf (i j:Int):Prop:=i.natAbs<2 ^ 4000/\j.natAbs<2 ^ 4000
theorem bits_le {k:Int}(h:k.natAbs<2 ^ 4000):Builtin.Int.intBits k<=4000:=by
 unfold Builtin.Int.intBits;split
 ·exact XH _
 ·rcases Nat.eq_zero_or_pos k.natAbs with h0 | hp
  ·rw[h0];decide
  ·exact(Nat.log2_lt (YN hp)).mpr h
theorem zpf.ok {i j:Int}(h:zpf i j):IntMulOk i j:=by
 have h1:=bits_le h.1;have h2:=bits_le h.2;have h3:Builtin.Int.intTooBig (Builtin.Int.intBits i+Builtin.Int.intBits j)=false:=by
  unfold Builtin.Int.intTooBig;rw[decide_eq_false_iff_not];have hb:(8000:Int)<=bitsLine:=by decide
  lia
 unfold IntMulOk;rw[h3];simp
section
variable {X:Cx}{a b:Expr}{ta tb:TPE}{pos:Pos}
theorem zrP:OpR X (Vk .Mult) (rI zpf λi j=>.int (i*j)):=opI λ_ _ _ _ _ _ _ hc q=>mul_int q hc.ok
abbrev zdY:=t2 (i2 zpf λi j=>.int (i*j))
theorem zno (ha:PuE X a ta)(hb:PuE X b tb):PuE X (.BinOp a .Mult b pos) (zdY ta tb):=zii zrP zij ha hb
end
structure Mx (K:Xa)(C:We)(x qual:Str)(st:WC)(ps:List Str)(f:We)(fd:Wr):Prop where
 fn:Fun K x qual st f fd
 bd:Binds K fd ps []
 me:Meth K C x f
def zcB:WC->List WC
 | .ClassDef _ _ _ b _ _ _ _ _ _ _=>b
 | _=>[]
abbrev TPN:=PEnv->List Str->List PV->(List Str->List PV->Prop)->Prop
structure RelN (K:Xa)(Fz:FZ)(ρ:PEnv)(σ:St)(H:Hp)(C x dx:We)(ks:List Str)(ds:List PV):Prop where
 rel:Rel K Fz ρ σ H
 hz:ρ[0]? = some none
 sz:σ[0]? = some (some (.ref x))
 nf:¬ Fz x
 no:∀(i:Nat) (d:PV),ρ[i]?≠some (some (d,true))
 at_:∃xs,H x=some (.ins C dx (ks.zip xs))/\ks.length=xs.length/\DenL K Fz H ds xs
theorem zhx {f:Str}{v:V}:∀ {ks:List Str}{xs:List V},ks.length=xs.length->f∉ks->putF f v (ks.zip xs)=(ks++[f]).zip (xs++[v])
 | [],[],_,_=>rfl
 | [],_::_,h,_=>nomatch h
 | _::_,[],h,_=>nomatch h
 | k::ks,x::xs,h,n=>by
  have hk:¬ k=f:=λz=>n (z▸Xh ..);rw[Yb,List.cons_append,List.cons_append,Yb,<- zhx (Nat.succ.inj h) λz=>n (Xi _ z)];show(if k=f then _ else _)=_
  rw[if_neg hk]
theorem RelN.nown {K:Xa}{Fz:FZ}{ρ:PEnv}{σ:St}{H:Hp}{C x dx:We}{ks:List Str}{ds:List PV}(R:RelN K Fz ρ σ H C x dx ks ds)(τ:St)(b:We):¬ zbB ρ τ b:=λ⟨i,d,h,_⟩=>R.no i d h
theorem RelN.ext {K:Xa}{Fz Fz':FZ}{ρ:PEnv}{σ:St}{H H':Hp}{C x dx:We}{ks:List Str}{ds:List PV}(R:RelN K Fz ρ σ H C x dx ks ds)(e:Ext Fz H Fz' H'):RelN K Fz' ρ σ H' C x dx ks ds:=by
 obtain⟨xs,h1,h2,h3⟩:=R.at_;refine⟨R.rel.ext e,R.hz,R.sz,λz=>?_,R.no,xs,e.same _ _ h1,h2,DenL.mono (.of e.same) e.sub _ _ h3⟩;rcases e.new x z with w | w
 ·exact R.nf w
 ·rw[h1]at w;cases w
theorem RelN.fld {K:Xa}{Fz:FZ}{ρ:PEnv}{σ:St}{H:Hp}{C x dx:We}{ks:List Str}{ds:List PV}{xs:List V}{f:Str}{d:PV}{v:V}(R:RelN K Fz ρ σ H C x dx ks ds)(h1:H x=some (.ins C dx (ks.zip xs)))(h2:ks.length=xs.length)(h3:DenL K Fz H ds xs)(hf:f∉ks)(hd:Den K Fz H d v) :
  RelN K Fz ρ σ (upd H x (.ins C dx (putF f v (ks.zip xs)))) C x dx (ks++[f]) (ds++[d]):=by
 refine⟨R.rel.other h1 (λz=>z) R.nf (R.nown σ x),R.hz,R.sz,R.nf,R.no,xs++[v],?_,by rw[Xm,Xm,h2];rfl,DenL.rew' h1 (λz=>z) R.nf (DenL.snoc h3 hd)⟩;rw[zap,zhx h2 hf]
section
variable {K:Xa}{F F':FZ}{H H':Hp}{ρ:PEnv}{σ:St}
theorem Rel.grow (R:Rel K F ρ σ H)(no:∀(i:Nat)(d:PV),ρ[i]?≠some (some (d,true)))(s:Same H H')(sub:∀b,F b->F' b)(al:∀b,F' b->H' b≠none):Rel K F' ρ σ H' where
 al:=al
 len:=R.len
 frz i d e:=by
  obtain⟨v,q1,q2⟩:=R.frz i d e;exact⟨v,q1,Den.mono (.of s) sub _ _ q2⟩
 own i d e:=absurd e (no i d)
 inj i j d e a h:=absurd h (no i d)
theorem zqe {b:We}{u o:HO}(h:H b=some u)(r:Rd H b o):u=o\/∃w,u=.frz w o:=by
 rcases r with r | ⟨w,r⟩
 ·rw[h]at r;cases r;exact .inl rfl
 ·rw[h]at r;cases r;exact .inr ⟨w,rfl⟩
variable {x L C dx:We}{fs:List (Str×V)}{fv:List V}
end
theorem zds {f:Str}{v:V}:∀ {ks:List Str}{xs:List V},ks.length=xs.length->f∉ks->((ks++[f]).zip (xs++[v])).lookup f=some v
 | [],[],_,_=>by simp
 | [],_::_,h,_=>nomatch h
 | _::_,[],h,_=>nomatch h
 | k::ks,x::xs,h,n=>by
  rw[List.cons_append,List.cons_append,Yb,XT,show(f == k)=false by rw[beq_eq_false_iff_ne];exact λz=>n (z▸Xh ..)];exact zds (Nat.succ.inj h) λz=>n (Xi _ z)
theorem znp {n m:Nat}(h:m<n):ixN n (m:Int)=some m:=by
 unfold ixN;rw[if_pos (by lia),if_pos (by lia)];rfl
structure MO (K:Xa)(Fz:FZ)(H:Hp)(C x dx L:We)(ks:List Str)(f:Str)(ds:List PV)(hs:List Int):Prop where
 nf:¬ Fz x
 nfL:¬ Fz L
 xL:x≠L
 at_:∃xs,H x=some (.ins C dx ((ks++[f]).zip (xs++[.ref L])))/\ks.length=xs.length/\DenL K Fz H ds xs
 li:H L=some (.lst (hs.map V.int))
structure zdF (x L:We)(Fz:FZ)(H:Hp)(Fz':FZ)(H':Hp):Prop where
 old:∀b o,b≠x->b≠L->H b=some o->H' b=some o
 sub:∀b,Fz b->Fz' b
 new:∀b,Fz' b->Fz b\/H b=none
 al:∀b,Fz' b->H' b≠none
theorem zdF.trans {x L:We}{F1 F2 F3:FZ}{H1 H2 H3:Hp}(a:zdF x L F1 H1 F2 H2)(b:zdF x L F2 H2 F3 H3)(nx:¬ F3 x)(nL:¬ F3 L):zdF x L F1 H1 F3 H3 where
 old c o h1 h2 e:=b.old c o h1 h2 (a.old c o h1 h2 e)
 sub c h:=b.sub c (a.sub c h)
 new c h:=by
  rcases b.new c h with w | w
  ·exact a.new c w
  ·cases e:H1 c with
   | none=>exact .inr rfl
   | some o=>rw[a.old c o (λz=>nx (z▸h)) (λz=>nL (z▸h)) e]at w;cases w
 al:=b.al
abbrev PMz:=List PV->List Int->List PV->(List PV->List Int->Prop)->Prop
def zpg (F:PMz):Prop:=∀ds hs as Q Q',(∀a b,Q a b->Q' a b)->F ds hs as Q->F ds hs as Q'
def spZ (K:Xa)(C:We)(ks:List Str)(f:Str)(F:PMz):Sp:=λvs H Q _=>∃(x dx L:We)(ws:List V)(Fz:FZ)(ds:List PV)(hs:List Int)(as:List PV),vs=.ref x::ws/\MO K Fz H C x dx L ks f ds hs/\(∀b,Fz b->H b≠none)/\DenL K Fz H as ws/\
 F ds hs as λds' hs'=>∀Fz' H',zdF x L Fz H Fz' H'->MO K Fz' H' C x dx L ks f ds' hs'->Q .non H'
abbrev objOf (C:We)(ks:List Str)(f:Str)(ds:List PV)(hs:List Int):PV:=.obj C (ks++[f]) (ds++[.lst (hs.map PV.int)])
structure RelM (K:Xa)(Fz:FZ)(ρ:PEnv)(σ:St)(H:Hp)(C x dx L:We)(ks:List Str)(f:Str)(ds:List PV)(hs:List Int):Prop where
 rel:Rel K Fz ρ σ H
 sz:σ[0]? = some (some (.ref x))
 no:∀(i:Nat) (d:PV),ρ[i]?≠some (some (d,true))
 mo:MO K Fz H C x dx L ks f ds hs
section
variable {K:Xa}{Fz F':FZ}{ρ:PEnv}{σ:St}{H H':Hp}{C x dx L:We}{ks:List Str}{f:Str}{ds:List PV}{hs:List Int}
theorem zfZ:∀(hs:List Int),DenL K Fz H (hs.map PV.int) (hs.map V.int)
 | []=>DenL.nil
 | s::r=>by rw[Xq,Xq];exact DenL.cons (by simp only[Den]) (zfZ r)
theorem MO.den (m:MO K Fz H C x dx L ks f ds hs):Den K (λb=>Fz b\/b=x\/b=L) H (objOf C ks f ds hs) (.ref x):=by
 obtain⟨xs,h1,h2,h3⟩:=m.at_;simp only[Den];refine⟨x,dx,xs++[.ref L],rfl,.inr (.inl rfl),h1,by rw[Xm,Xm,h2];rfl,DenL.snoc (DenL.mono (Keep.of (Same.refl _)) (λ_ h=>.inl h) _ _ h3) ?_⟩;simp only[Den];exact⟨L,_,rfl,.inl ⟨.inr (.inr rfl),.inl m.li⟩,zfZ hs⟩
theorem MO.alive (m:MO K Fz H C x dx L ks f ds hs)(al:∀b,Fz b->H b≠none):∀b,(Fz b\/b=x\/b=L)->H b≠none:=λb hb=>by
 obtain⟨xs,h1,_⟩:=m.at_;rcases hb with hb | rfl | rfl
 ·exact al b hb
 ·rw[h1];exact λz=>nomatch z
 ·rw[m.li];exact λz=>nomatch z
theorem RelM.view (R:RelM K Fz ρ σ H C x dx L ks f ds hs):Rel K (λb=>Fz b\/b=x\/b=L) (ρ.set 0 (some (objOf C ks f ds hs,false))) σ H:=by
 have g:=(R.rel.grow R.no (Same.refl _) (λb h=>.inl h) (R.mo.alive R.rel.al)).set (i:=0) R.mo.den;have e:σ.set 0 (some (.ref x))=σ:=by
  have hl:=(Xe.mp R.sz).1;have he:=(Xe.mp R.sz).2;rw[<- he];exact List.set_getElem_self hl
 rw[e]at g;exact g
theorem MO.back (m:MO K Fz H C x dx L ks f ds hs)(e:Ext (λb=>Fz b\/b=x\/b=L) H F' H'):MO K (λb=>F' b/\b≠x/\b≠L) H' C x dx L ks f ds hs/\zdF x L Fz H (λb=>F' b/\b≠x/\b≠L) H':=by
 obtain⟨xs,h1,h2,h3⟩:=m.at_;have sub:∀b,Fz b->F' b/\b≠x/\b≠L:=λb hb=>⟨e.sub b (.inl hb),λz=>m.nf (z▸hb),λz=>m.nfL (z▸hb)⟩;refine⟨⟨λz=>z.2.1 rfl,λz=>z.2.2 rfl,m.xL,⟨xs,e.same _ _ h1,h2,DenL.mono (Keep.of e.same) sub _ _ h3⟩,e.same _ _ m.li⟩,λb o _ _ h=>e.same b o h,sub,λb hb=>?_,λb hb=>e.al b hb.1⟩;rcases e.new b hb.1 with (w | w | w) | w
 ·exact .inl w
 ·exact absurd w hb.2.1
 ·exact absurd w hb.2.2
 ·exact .inr w
theorem RelM.back (R:RelM K Fz ρ σ H C x dx L ks f ds hs)(e:Ext (λb=>Fz b\/b=x\/b=L) H F' H'):RelM K (λb=>F' b/\b≠x/\b≠L) ρ σ H' C x dx L ks f ds hs/\zdF x L Fz H (λb=>F' b/\b≠x/\b≠L) H':=by
 obtain⟨m,s⟩:=R.mo.back e;exact⟨⟨R.rel.grow R.no e.same s.sub s.al,R.sz,R.no,m⟩,s⟩
def zgL:PV->Prop
 | .non=>True
 | .int _=>True
 | .bl _=>True
 | .str _=>True
 | _=>False
theorem zga {d:PV}{v:V}(p:zgL d)(h:Den K Fz H d v){F2:FZ}{H2:Hp}:Den K F2 H2 d v:=by
 cases d<;>first | (simp only[Den]at h ⊢;exact h) | exact p.elim
theorem zeX {d:PV}{v:V}(p:zgL d)(h:Root K Fz H d v):Den K Fz H d v:=by
 cases d<;>first | exact h | exact p.elim
end
abbrev TPZ:=PEnv->List PV->List Int->(PEnv->List PV->List Int->Prop)->Prop
def outZ (K:Xa)(C x dx L:We)(ks:List Str)(f:Str)(D:Ends)(Fz:FZ)(H:Hp)(ρ':PEnv)(ds':List PV)(hs':List Int):Prop:=∀σ' Fz' H',zdF x L Fz H Fz' H'->RelM K Fz' ρ' σ' H' C x dx L ks f ds' hs'->D.nx σ' H'
def ztN (K:Xa)(C:We)(ks:List Str)(f:Str)(t:TPZ):TS:=λD σ H=>∃ρ Fz x dx L ds hs,RelM K Fz ρ σ H C x dx L ks f ds hs/\t ρ ds hs (outZ K C x dx L ks f D Fz H)
structure PuZ (X:Cx)(C:We)(ks:List Str)(f:Str)(st:WC)(t:TPZ):Prop where
 mono:∀ρ ds hs Q Q',(∀a b c,Q a b c->Q' a b c)->t ρ ds hs Q->t ρ ds hs Q'
 run:PS X st (ztN X.K C ks f t)
structure PuZs (X:Cx)(C:We)(ks:List Str)(f:Str)(st:List WC)(t:TPZ):Prop where
 mono:∀ρ ds hs Q Q',(∀a b c,Q a b c->Q' a b c)->t ρ ds hs Q->t ρ ds hs Q'
 run:PSs X st (ztN X.K C ks f t)
def zSeq (t u:TPZ):TPZ:=λρ ds hs Q=>t ρ ds hs λρ' ds' hs'=>u ρ' ds' hs' Q
section
variable {X:Cx}{C:We}{ks:List Str}{f:Str}{st:WC}{rest:List WC}{t u:TPZ}{e:Expr}{te:TPE}{pos:Pos}
theorem zhy (h:PuZ X C ks f st t):PuZs X C ks f [st] t:=⟨h.mono,zjb h.run⟩
theorem zeE (h1:PuZ X C ks f st t)(h2:PuZs X C ks f rest u):PuZs X C ks f (st::rest) (zSeq t u) where
 mono ρ ds hs Q Q' m h:=h1.mono _ _ _ _ _ (λa b c q=>h2.mono _ _ _ _ _ m q) h
 run:=PSs.weak (zcj h1.run h2.run) λD σ H h=>by
  obtain⟨ρ,Fz,x,dx,L,ds,hs,R,h⟩:=h;refine⟨ρ,Fz,x,dx,L,ds,hs,R,h1.mono _ _ _ _ _ (λρ' ds' hs' q σ' Fz' H' s R'=>?_) h⟩;exact⟨ρ',Fz',x,dx,L,ds',hs',R',h2.mono _ _ _ _ _ (λa b c q σ2 F2 H2 s2 R2=>q σ2 F2 H2 (s.trans s2 R2.mo.nf R2.mo.nfL) R2) q⟩
theorem RelM.set {K:Xa}{Fz:FZ}{ρ:PEnv}{σ:St}{H:Hp}{x dx L:We}{ds:List PV}{hs:List Int}{i:Nat}{d:PV}{v:V}(R:RelM K Fz ρ σ H C x dx L ks f ds hs)(hi:i≠0)(h:Den K Fz H d v):RelM K Fz (ρ.set i (some (d,false))) (σ.set i (some v)) H C x dx L ks f ds hs:=by
 refine⟨R.rel.set h,by rw[Xk hi];exact R.sz,λj d' z=>?_,R.mo⟩;by_cases hj:i=j
 ·subst hj;by_cases hb:i<ρ.length
  ·rw[Xp hb]at z;cases z
  ·rw[XV (by lia),XQ (by lia)]at z;cases z
 ·rw[Xk hj]at z;exact R.no j d' z
def zSet (C:We)(ks:List Str)(f:Str)(i:Nat)(te:TPE):TPZ:=λρ ds hs Q=>i≠0/\te (ρ.set 0 (some (objOf C ks f ds hs,false))) λd _=>zgL d/\Q (ρ.set i (some (d,false))) ds hs
theorem znq {i:Nat}{y:Str}{pos':Pos}(hN:X.N.Nodup)(hi:X.N[i]? = some y)(hx:Loc X.env.scope y)(he:PuE X e te)(hs:WF e (some (.Name y pos')) pos.line X.env=pure false:=by rfl)(hf:X.fn y=true\/X.env.scope.names.lookup y=some .local:=by first | exact .inl rfl | exact .inr rfl | assumption) :
  PuZ X C ks f (.Assign [.Name y pos'] e pos) (zSet C ks f i te) where
 mono ρ ds hs Q Q' m h:=⟨h.1,he.mono _ _ _ (λd k q=>⟨q.1,m _ _ _ q.2⟩) h.2⟩
 run:=PS.weak (zhP hN hi hx he.run hs hf) λD σ H h=>by
  obtain⟨ρ,Fz,x,dx,L,ds,hs,R,i0,h⟩:=h;refine⟨_,_,R.view,he.mono _ _ _ (λd k q v F1 H1 p1=>?_) h⟩;obtain⟨pd,q⟩:=q;obtain⟨R2,s2⟩:=R.back p1.ext;exact q _ _ H1 s2 (R2.set i0 (zga pd (zeX pd (p1.root R.view))))
def zcg (C:We)(ks:List Str)(f:Str)(tc:TPT)(tb:TPZ):TPZ:=λρ ds hs Q=>∃Iv:Nat->PEnv->List PV->List Int->Prop,(∃m,Iv m ρ ds hs)/\∀m ρ' ds' hs',Iv m ρ' ds' hs'->tc (ρ'.set 0 (some (objOf C ks f ds' hs',false))) λb=>if b=true then tb ρ' ds' hs' λρ2 ds2 hs2=>∃m',m'<m/\Iv m' ρ2 ds2 hs2 else Q ρ' ds' hs'
theorem znr {c:Expr}{tc:TPT}{body:List WC}{tb:TPZ}(hp:PassesOwn (Wh X.prog X.w) X.A X.env X.xe)(hc:PuT X c tc)(hb:PuZs X C ks f body tb):PuZ X C ks f (.While c body [] pos) (zcg C ks f tc tb) where
 mono ρ ds hs Q Q' m h:=by
  obtain⟨Iv,h0,h⟩:=h;refine⟨Iv,h0,λn ρ' ds' hs' hI=>hc.mono _ _ _ (λb q=>?_) (h n ρ' ds' hs' hI)⟩;cases b with
  | true=>exact q
  | false=>exact m _ _ _ q
 run:=PS.weak (zjI hp hc.run hb.run) λD σ H h=>by
  obtain⟨ρ,Fz,x,dx,L,ds,hs,R,Iv,⟨m0,h0⟩,h⟩:=h;refine⟨λm σ' H'=>∃ρ' F' ds' hs',RelM X.K F' ρ' σ' H' C x dx L ks f ds' hs'/\Iv m ρ' ds' hs'/\zdF x L Fz H F' H',⟨m0,ρ,Fz,ds,hs,R,h0,λb o _ _ e=>e,λ_ h=>h,λ_ h=>.inl h,R.rel.al⟩,?_⟩;rintro m σ' H' ⟨ρ',F',ds',hs',R',hI,s'⟩;refine⟨_,_,R'.view,hc.mono _ _ _ (λb q F2 H2 x2=>?_) (h m ρ' ds' hs' hI)⟩;obtain⟨R2,s2⟩:=R'.back x2;have s3:=s'.trans s2 R2.mo.nf R2.mo.nfL;cases b with
  | true=>
   rw[if_pos rfl]at q ⊢;refine⟨λσ3 H3=>∃m',m'<m/\∃ρ3 F3 ds3 hs3,RelM X.K F3 ρ3 σ3 H3 C x dx L ks f ds3 hs3/\Iv m' ρ3 ds3 hs3/\zdF x L Fz H F3 H3,λσ3 H3 hN=>hN,ρ',_,x,dx,L,ds',hs',R2,hb.mono _ _ _ _ _ (λρ3 ds3 hs3 q σ3 F3 H3 s4 R3=>?_) q⟩;obtain⟨m',hm,hI'⟩:=q;exact⟨m',hm,ρ3,F3,ds3,hs3,R3,hI',s3.trans s4 R3.mo.nf R3.mo.nfL⟩
  | false=>
   rw[if_neg Xr]at q ⊢;exact q σ' _ H2 s3 R2
end
section
variable {K:Xa}{Fz F':FZ}{ρ:PEnv}{σ:St}{H H':Hp}{C x dx L:We}{ks:List Str}{f:Str}{ds ds':List PV}{hs hs':List Int}
theorem MO.keep (m:MO K Fz H C x dx L ks f ds hs)(s:zdF x L Fz H F' H'):Keep Fz H H':=.mk' λb o e w=>by
 obtain⟨xs,h1,_⟩:=m.at_;refine s.old b o (λz=>?_) (λz=>?_) e
 ·subst z;rcases w with w | w
  ·exact m.nf w
  ·rw[h1]at e;cases e;exact w
 ·subst z;rcases w with w | w
  ·exact m.nfL w
  ·rw[m.li]at e;cases e;exact w
theorem RelM.step (R:RelM K Fz ρ σ H C x dx L ks f ds hs)(s:zdF x L Fz H F' H')(m:MO K F' H' C x dx L ks f ds' hs'):RelM K F' ρ σ H' C x dx L ks f ds' hs' where
 rel:={
  al:=s.al
  len:=R.rel.len
  frz:=λi d e=>by
   obtain⟨v,q1,q2⟩:=R.rel.frz i d e;exact⟨v,q1,Den.mono (R.mo.keep s) s.sub _ _ q2⟩
  own:=λi d e=>absurd e (R.no i d)
  inj:=λi j d e a h=>absurd h (R.no i d) }
 sz:=R.sz
 no:=R.no
 mo:=m
theorem zgM {F2:FZ}{H2:Hp}:∀ {as:List PV}{vs:List V},(∀d∈as,zgL d)->zlq K Fz H as vs->DenL K F2 H2 as vs
 | _,_,_,.nil=>DenL.nil
 | _,_,p,.cons h t=>DenL.cons (zga (p _ Xh) (zeX (p _ Xh) h)) (zgM (λd hd=>p d (Xi _ hd)) t)
end
def zdZ (C:We)(ks:List Str)(f m:Str)(F:PMz)(ta:TPA):TPZ:=λρ ds hs Q=>m∉ks++[f]/\ta (ρ.set 0 (some (objOf C ks f ds hs,false))) λops=>(∀d∈ops.map (·.1),zgL d)/\F ds hs (ops.map (·.1)) λds' hs'=>Q ρ ds' hs'
section
variable {X:Cx}{C fa:We}{ks:List Str}{f m x:Str}{e:Expr}{es:List Expr}{ta:TPA}{F:PMz}{k:Nat}{fd:Wr}{ps:List Str}{pl:Sem Bool}{p1 apos cpos pos:Pos}
theorem zph (c:Cls X.K C)(hm:Meth X.K C m fa)(G:FnOk X.prog X.w X.K X.mg X.base CX0 k fa fd ps (spZ X.K C ks f F))(mf:zpg F)(hr:Room k X.A)(hb:Binds X.K fd ps [])(ha:PuA X (e::es) ta)
  (hx:X.N[0]? = some x:=by rfl) (hv:Vis X.env.scope x:=by first | exact Or.inl rfl | exact Or.inr (Or.inl rfl) | exact Or.inr (Or.inr rfl)) (hd:(x == ("__debug__" : Str))=false:=by decide) (hcd:(x == ("__classdict__" : Str))=false:=by decide)
  (hst:Wg (e::es) X.env=(false,WA e X.env)::Wg es X.env:=by rfl) (hpl:(Wy cpos (Wg es X.env)).any (·.1)=false:=by rfl)
  (ht:WA (.Call (.Attribute (.Name x p1) m apos) (e::es) [] cpos) X.env=(do
   let ov <- WA (.Name x p1) X.env
   Vq apos.atName
   let (f,first) <- WW [ov] (Vp ov m pl)
   callWith cpos f first (Wy cpos (Wg (e::es) X.env)) (Vm cpos (W0 [] X.env))):=by rfl)
  (hs:WF (.Call (.Attribute (.Name x p1) m apos) (e::es) [] cpos) none pos.line X.env=pure false:=by rfl) :
  PuZ X C ks f (.Expr (.Call (.Attribute (.Name x p1) m apos) (e::es) [] cpos) pos) (zdZ C ks f m F ta) where
 mono ρ ds hs Q Q' mm h:=⟨h.1,ha.mono _ _ _ (λops q=>⟨q.1,mf _ _ _ _ _ (λa b q=>mm _ _ _ q) q.2⟩) h.2⟩
 run:=PS.weak (zjc (zmd (pl:=pl) (zcE hx hv hd hcd) c hm G hr hb .nil zlf ha.run hst hpl ht) hs) λD σ H h=>by
  obtain⟨ρ,Fz,x,dx,L,ds,hs,R,hmk,h⟩:=h;obtain⟨xs,q1,q2,q3⟩:=R.mo.at_;refine⟨_,R.sz,x,dx,_,rfl,q1,zdp (α:=V) (β:=V) hmk,_,_,R.view,ha.mono _ _ _ (λops h vs F1 H1 x1 o=>?_) h⟩;obtain⟨pd,hF⟩:=h;obtain⟨R2,s2⟩:=R.back x1;show spZ X.K C ks f F (.ref x::(vs++[])) H1 _ E0;rw[List.append_nil];refine⟨x,dx,L,vs,_,ds,hs,ops.map (·.1),rfl,R2.mo,R2.rel.al,zgM pd (o.root R.view x1),mf _ _ _ _ _ (λds' hs' q F3 H3 s3 m3=>?_) hF⟩;exact q σ F3 H3 (s2.trans s3 m3.nf m3.nfL) (R2.step s3 m3)
end
section
variable {P:Wl}{w:Wt}{K:Xa}{mg:Str->Option Wb}{base:Heap}
theorem fn_Z {x qual:Str}{st:WC}{f0 C:We}{fd:Wr}{N ps ks:List Str}{f:Str}{k:Nat}{F:PMz}(Fn:Fun K x qual st f0 fd)(S:zan N ps (zac st))(len:∀ds hs as Q,F ds hs as Q->as.length+1=ps.length)
  (hbody:∀(cdv:Wb) (A:Wu) (outer:List Env) (s:Wd) (H:Hp) (E:XK),Room k (A.deeper (WB qual (zac st) s.heap.objs.size f0 cdv))->
   ∃t,PuZs (cxOf CX0 P w K mg base N qual (zac st) f0 cdv A outer s H E).nox C ks f (zaj st) t/\∀ds hs as Q,F ds hs as Q->t ((zaM N (.non::as)).set 0 none) ds hs λ_ ds' hs'=>Q ds' hs'):FnOk P w K mg base CX0 (k+1) f0 fd ps (spZ K C ks f F):=by
 refine Fn.ok S (λvs H Q E h=>?_) (λcdv A outer s H vs Q E hr h=>?_)
 ·obtain⟨x,dx,L,ws,Fz,ds,hs,as,rfl,_,_,hd,q⟩:=h;rw[XE,<- hd.length];exact len _ _ _ _ q
 obtain⟨t,ht,hq⟩:=hbody cdv A outer s H E hr;obtain⟨x,dx,L,ws,Fz,ds,hs,as,rfl,m,al,hd,h⟩:=h;have hd':DenL K Fz H (.non::as) (.non::ws):=DenL.cons (by simp only[Den]) hd;obtain⟨R,no⟩:=zfN (N:=N) al hd';have es:start N (.ref x::ws)=(start N (.non::ws)).set 0 (some (.ref x)):=rfl;refine⟨_,ht.run,?_⟩;rw[es];refine⟨(zaM N (.non::as)).set 0 none,Fz,x,dx,L,ds,hs,⟨R.unset,rfl,λi d z=>?_,m⟩,ht.mono _ _ _ _ _ (λρ' ds' hs' q σ' Fz' H' s' R'=>q Fz' H' s' R'.mo) (hq ds hs as _ h)⟩;by_cases hi:i=0
 ·subst hi;cases z
 ·rw[Xk (λy=>hi y.symm)]at z;have hlen:i<(zaM N (.non::as)).length:=(Xe.mp z).1;rw[R.len]at hlen;obtain⟨a,q1,_⟩:=R.own i d z;exact no _ a ⟨i,d,z,q1⟩
end
theorem zkw {g f:Str}{v:V}{L:We}:∀ {ks:List Str}{xs:List V}{i:Nat},ks.length=xs.length->ks.Nodup->ks[i]? = some g->putF g v ((ks++[f]).zip (xs++[.ref L]))=(ks++[f]).zip (xs.set i v++[.ref L])
 | [],_,i,_,_,h=>by simp at h
 | _::_,[],_,h,_,_=>nomatch h
 | k::ks,x::xs,0,h,n,e=>by
  have e:k=g:=by simpa using e
  subst e;show(if k=k then _ else _)=_
  rw[if_pos rfl];rfl
 | k::ks,x::xs,i+1,h,n,e=>by
  have e:ks[i]? = some g:=by simpa using e
  have hk:¬ k=g:=λz=>(XX.mp n).1 (z▸Xu e);rw[List.cons_append,List.cons_append,Yb];show(if k=g then _ else _)=_
  rw[if_neg hk,zkw (Nat.succ.inj h) (XX.mp n).2 e];rfl
section
variable {K:Xa}{Fz:FZ}{ρ:PEnv}{σ:St}{H:Hp}{C x dx L:We}{ks:List Str}{f g:Str}{ds:List PV}{hs:List Int}{gi:Nat}
theorem RelM.fld (R:RelM K Fz ρ σ H C x dx L ks f ds hs){xs:List V}{d:PV}{v:V}(h1:H x=some (.ins C dx ((ks++[f]).zip (xs++[.ref L]))))(h2:ks.length=xs.length)(h3:DenL K Fz H ds xs)(nd:ks.Nodup)(hg:ks[gi]? = some g)(hd:Den K Fz H d v) :
  RelM K Fz ρ σ (upd H x (.ins C dx (putF g v ((ks++[f]).zip (xs++[.ref L]))))) C x dx L ks f (ds.set gi d) hs/\zdF x L Fz H Fz (upd H x (.ins C dx (putF g v ((ks++[f]).zip (xs++[.ref L]))))):=by
 have nown:¬ zbB ρ σ x:=(λ⟨i,d,h,_⟩=>R.no i d h);refine⟨⟨R.rel.other h1 (λz=>z) R.mo.nf nown,R.sz,R.no,R.mo.nf,R.mo.nfL,R.mo.xL,⟨xs.set gi v,by rw[zap,zkw h2 nd hg],by rw[Yk];exact h2,DenL.rew' h1 (λz=>z) R.mo.nf (DenL.set gi h3 hd)⟩,by rw[zak R.mo.xL.symm];exact R.mo.li⟩,λb o n _ e=>by rw[zak n];exact e,λ_ h=>h,λ_ h=>.inl h,λb hb=>?_⟩;by_cases n:b=x
 ·exact absurd (n▸hb) R.mo.nf
 ·rw[zak n];exact R.rel.al b hb
theorem RelM.put (R:RelM K Fz ρ σ H C x dx L ks f ds hs)(n:Nat)(c:Int):RelM K Fz ρ σ (upd H L (.lst ((hs.map V.int).set n (.int c)))) C x dx L ks f ds (hs.set n c)/\zdF x L Fz H Fz (upd H L (.lst ((hs.map V.int).set n (.int c)))):=by
 have nown:¬ zbB ρ σ L:=(λ⟨i,d,h,_⟩=>R.no i d h);obtain⟨xs,h1,h2,h3⟩:=R.mo.at_;refine⟨⟨R.rel.other R.mo.li (λz=>z) R.mo.nfL nown,R.sz,R.no,R.mo.nf,R.mo.nfL,R.mo.xL,⟨xs,by rw[zak R.mo.xL];exact h1,h2,DenL.rew' R.mo.li (λz=>z) R.mo.nfL h3⟩,by rw[zap,List.map_set]⟩,λb o _ m e=>by rw[zak m];exact e,λ_ h=>h,λ_ h=>.inl h,λb hb=>?_⟩;by_cases m:b=L
 ·exact absurd (m▸hb) R.mo.nfL
 ·rw[zak m];exact R.rel.al b hb
end
def zFld (C:We)(ks:List Str)(f g:Str)(gi:Nat)(te:TPE):TPZ:=λρ ds hs Q=>ks.Nodup/\ks[gi]? = some g/\ks.length<900/\te (ρ.set 0 (some (objOf C ks f ds hs,false))) λd _=>zgL d/\Q ρ (ds.set gi d) hs
def zPut (C:We)(ks:List Str)(f:Str)(ti te:TPE):TPZ:=λρ ds hs Q=>f∉ks/\te (ρ.set 0 (some (objOf C ks f ds hs,false))) λd _=>∃c,d=.int c/\ti (ρ.set 0 (some (objOf C ks f ds hs,false))) λe _=>∃n:Nat,e=.int n/\n<hs.length/\Q ρ ds (hs.set n c)
section
variable {X:Cx}{C:We}{ks:List Str}{f g x:Str}{e ei:Expr}{te ti:TPE}{gi:Nat}{p p4 p5 p7 pos pos':Pos}
theorem zrQ (c:Cls X.K C)(n:zcd X.K C g)(he:PuE X e te)(hN:X.N[0]? = some x:=by rfl)(hv:Vis X.env.scope x:=by first | exact Or.inl rfl | exact Or.inr (Or.inl rfl) | exact Or.inr (Or.inr rfl))(hd:(x == ("__debug__" : Str))=false:=by decide) (hcd:(x == ("__classdict__" : Str))=false:=by decide)
  (hs:WF e (some (.Attribute (.Name x p) g pos')) pos.line X.env=pure false:=by rfl):PuZ X C ks f (.Assign [.Attribute (.Name x p) g pos'] e pos) (zFld C ks f g gi te) where
 mono ρ ds hs Q Q' m h:=⟨h.1,h.2.1,h.2.2.1,he.mono _ _ _ (λd k q=>⟨q.1,m _ _ _ q.2⟩) h.2.2.2⟩
 run:=PS.weak (zjJ (zcE hN hv hd hcd) he.run hs) λD σ H h=>by
  obtain⟨ρ,Fz,x,dx,L,ds,hs,R,nd,hg,hl,h⟩:=h;refine⟨_,_,R.view,he.mono _ _ _ (λd k q v F1 H1 p1=>?_) h⟩;obtain⟨pd,q⟩:=q;obtain⟨R2,s2⟩:=R.back p1.ext;obtain⟨xs,h1,h2,h3⟩:=R2.mo.at_;obtain⟨R3,s3⟩:=R2.fld h1 h2 h3 nd hg (zga pd (zeX pd (p1.root R.view)));exact⟨_,R2.sz,x,C,dx,_,rfl,h1,c,n,by rw[Yp,Xm,Xm];simp only[Ya];lia,q σ _ _ (s2.trans s3 R3.mo.nf R3.mo.nfL) R3⟩
theorem zrR (c:Cls X.K C)(n:zcd X.K C f)(hi:PuE X ei ti)(he:PuE X e te)(hN:X.N[0]? = some x:=by rfl)(hv:Vis X.env.scope x:=by first | exact Or.inl rfl | exact Or.inr (Or.inl rfl) | exact Or.inr (Or.inr rfl))(hd:(x == ("__debug__" : Str))=false:=by decide) (hcd:(x == ("__classdict__" : Str))=false:=by decide)
  (hbf:W4 (.Name x p4) f X.env (WA (.Name x p4) X.env)=WA (.Name x p4) X.env:=by rfl)
  (hw1:swapsWithSole [.Subscript (.Attribute (.Name x p4) f p5) ei p7] e pos.line X.env=pure false:=by rfl) (hw2:swappedStores [.Subscript (.Attribute (.Name x p4) f p5) ei p7] e X.env=pure none:=by rfl)
  (h1:(WS [.Subscript (.Attribute (.Name x p4) f p5) ei p7] X.env).map (·.2)=[assign (.Subscript (.Attribute (.Name x p4) f p5) ei p7) X.env]:=by rfl)
  (hasg:∀v,assign (.Subscript (.Attribute (.Name x p4) f p5) ei p7) X.env v=(do
   let ov <- WW [v] (WA (.Attribute (.Name x p4) f p5) X.env);let iv <- WW [v,ov] (WA ei X.env)
   Vq p7
   WW [v,ov,iv] (setItem ov iv v)
   release [v,ov,iv] []):=by intro _;rfl):PuZ X C ks f (.Assign [.Subscript (.Attribute (.Name x p4) f p5) ei p7] e pos) (zPut C ks f ti te) where
 mono ρ ds hs Q Q' m h:=⟨h.1,he.mono _ _ _ (λd k ⟨c,e1,q⟩=>⟨c,e1,hi.mono _ _ _ (λd k ⟨n,e2,e3,q⟩=>⟨n,e2,e3,m _ _ _ q⟩) q⟩) h.2⟩
 run:=PS.weak (zlV he.run (zpR (zpT (zcE hN hv hd hcd) hbf) hi.run set_list hasg) hw1 hw2 h1) λD σ H h=>by
  obtain⟨ρ,Fz,x,dx,L,ds,hs,R,hfk,h⟩:=h;refine⟨_,_,R.view,he.mono _ _ _ (λd k q v F1 H1 p1=>?_) h⟩;obtain⟨cc,rfl,q⟩:=q;have ev:=zax (p1.root R.view);obtain⟨R2,s2⟩:=R.back p1.ext;obtain⟨xs,a1,a2,a3⟩:=R2.mo.at_;refine⟨_,R2.sz,x,C,dx,_,.ref L,rfl,a1,c,n,zds a2 hfk,_,_,R2.view,hi.mono _ _ _ (λd k q v2 F2 H2 p2=>?_) q⟩;obtain⟨nn,rfl,hn,q⟩:=q;have ev2:=zax (p2.root R2.view);obtain⟨R3,s3⟩:=R2.back p2.ext;obtain⟨R4,s4⟩:=R3.put nn cc;refine⟨L,_,nn,nn,rfl,ev2,R3.mo.li,by rw[Xb];exact znp hn,?_⟩;rw[ev];exact q σ _ _ ((s2.trans s3 R3.mo.nf R3.mo.nfL).trans s4 R4.mo.nf R4.mo.nfL) R4
end
def zeY (hs:List Int)(d:PV):Prop:=∃is:List Int,d=.lst (is.map PV.int)/\is.length≠hs.length
section
variable {K:Xa}{Fz F':FZ}{ρ:PEnv}{σ:St}{H H':Hp}{C x dx L:We}{ks:List Str}{f:Str}{ds:List PV}{hs:List Int}
theorem zcJ:∀ {is:List Int}{xs:List V},DenL K Fz H (is.map PV.int) xs->xs=is.map V.int
 | [],xs,h=>by rw[List.map_nil]at h;simp only[DenL]at h;exact h
 | s::r,xs,h=>by
  rw[Xq]at h;simp only[DenL]at h;obtain⟨v,t,z,h1,h2⟩:=h;simp only[Den]at h1;subst z h1;rw[Xq,zcJ h2]
theorem MO.drop (m:MO K Fz H C x dx L ks f ds hs){d:PV}{v:V}(r:zeY hs d)(h:Den K F' H d v):Den K (λb=>F' b/\b≠x/\b≠L) H d v:=by
 obtain⟨is,rfl,hl⟩:=r;obtain⟨ys,h1,_⟩:=m.at_;simp only[Den]at h ⊢;obtain⟨a,xs,rfl,h2,h3⟩:=h;have e:=zcJ h3;subst e;refine⟨a,_,rfl,?_,zfZ is⟩;rcases h2 with ⟨f1,f2⟩ | h2
 ·refine .inl ⟨⟨f1,λz=>?_,λz=>?_⟩,f2⟩
  ·subst z;rcases zqe h1 f2 with w | ⟨_,w⟩<;>cases w
  ·subst z;rcases zqe m.li f2 with w | ⟨_,w⟩
   ·injection w with w;have:=congrArg List.length w;rw[Xb,Xb]at this;exact hl this.symm
   ·cases w
 ·exact .inr h2
theorem MO.ztO (m:MO K Fz H C x dx L ks f ds hs):∀ {rows:List PV}{xs:List V},(∀r∈rows,zeY hs r)->DenL K F' H rows xs->DenL K (λb=>F' b/\b≠x/\b≠L) H rows xs
 | [],xs,_,h=>by simpa only[DenL]using h
 | d::rows,xs,g,h=>by
  simp only[DenL]at h;obtain⟨v,r,rfl,h1,h2⟩:=h;exact DenL.cons (m.drop (g d Xh) h1) (MO.ztO m (λr hr=>g r (Xi _ hr)) h2)
end
def zea (C:We)(ks:List Str)(f:Str)(i:Nat)(te:TPE):TPZ:=λρ ds hs Q=>i≠0/\te (ρ.set 0 (some (objOf C ks f ds hs,false))) λd k=>k=.frz/\zeY hs d/\Q (ρ.set i (some (d,false))) ds hs
section
variable {X:Cx}{C:We}{ks:List Str}{f:Str}{e:Expr}{te:TPE}{pos:Pos}
theorem zpi {i:Nat}{y:Str}{pos':Pos}(hN:X.N.Nodup)(hi:X.N[i]? = some y)(hx:Loc X.env.scope y)(he:PuE X e te)(hs:WF e (some (.Name y pos')) pos.line X.env=pure false:=by rfl)(hf:X.fn y=true\/X.env.scope.names.lookup y=some .local:=by first | exact .inl rfl | exact .inr rfl | assumption) :
  PuZ X C ks f (.Assign [.Name y pos'] e pos) (zea C ks f i te) where
 mono ρ ds hs Q Q' m h:=⟨h.1,he.mono _ _ _ (λd k q=>⟨q.1,q.2.1,m _ _ _ q.2.2⟩) h.2⟩
 run:=PS.weak (zhP hN hi hx he.run hs hf) λD σ H h=>by
  obtain⟨ρ,Fz,x,dx,L,ds,hs,R,i0,h⟩:=h;refine⟨_,_,R.view,he.mono _ _ _ (λd k q v F1 H1 p1=>?_) h⟩;obtain⟨rfl,pd,q⟩:=q;obtain⟨R2,s2⟩:=R.back p1.ext;exact q _ _ H1 s2 (R2.set i0 (R2.mo.drop pd p1.opd))
end
section
variable {K:Xa}{Fz:FZ}{ρ:PEnv}{σ:St}{H:Hp}{C x dx L a:We}{ks:List Str}{f:Str}{ds:List PV}{hs:List Int}{o u:HO}
theorem RelM.other (R:RelM K Fz ρ σ H C x dx L ks f ds hs)(h:H a=some u)(hi:¬ Imm u)(nf:¬ Fz a)(nx:a≠x)(nL:a≠L):RelM K Fz ρ σ (upd H a o) C x dx L ks f ds hs:=by
 obtain⟨xs,h1,h2,h3⟩:=R.mo.at_;exact⟨R.rel.other h hi nf (λ⟨i,d,z,_⟩=>R.no i d z),R.sz,R.no,R.mo.nf,R.mo.nfL,R.mo.xL,⟨xs,by rw[zak nx.symm];exact h1,h2,DenL.rew' h hi nf h3⟩,by rw[zak nL.symm];exact R.mo.li⟩
theorem RelM.freeze (R:RelM K Fz ρ σ H C x dx L ks f ds hs)(h:H a≠none)(nx:a≠x)(nL:a≠L):RelM K (λb=>Fz b\/b=a) ρ σ H C x dx L ks f ds hs:=by
 obtain⟨xs,h1,h2,h3⟩:=R.mo.at_;have al:∀b,(Fz b\/b=a)->H b≠none:=λb hb=>by
  rcases hb with hb | rfl
  ·exact R.rel.al b hb
  ·exact h
 refine⟨R.rel.grow R.no (Same.refl _) (λ_ h=>.inl h) al,R.sz,R.no,λz=>?_,λz=>?_,R.mo.xL,⟨xs,h1,h2,DenL.mono (Keep.of (Same.refl _)) (λ_ h=>.inl h) _ _ h3⟩,R.mo.li⟩
 ·exact z.elim R.mo.nf λz=>nx z.symm
 ·exact z.elim R.mo.nfL λz=>nL z.symm
end
def zcr (C:We)(ks:List Str)(f g:Str)(gi iy:Nat)(te t3 ti:TPE)(u:TPZ):TPZ:=λρ ds hs Q=>iy≠0/\iy<ρ.length/\ks.Nodup/\ks[gi]? = some g/\ks.length<900/\te (ρ.set 0 (some (objOf C ks f ds hs,false))) λd k=>k=.new/\∃rows,d=.lst rows/\(∀r∈rows,zeY hs r)/\
 t3 ((ρ.set iy none).set 0 (some (objOf C ks f ds hs,false))) λd3 k3=>k3=.frz/\zeY hs d3/\ti ((ρ.set iy none).set 0 (some (objOf C ks f ds hs,false))) λe _=>∃n:Nat,e=.int n/\n<rows.length/\u (ρ.set iy none) (ds.set gi (.lst (rows.set n d3))) hs Q
structure ztP (X:Cx)(st:WC)(i:Nat)(te:TPE):Prop where
 mono:∀ρ Q Q',(∀d k,Q d k->Q' d k)->te ρ Q->te ρ Q'
 run:PS X st (tAsg (lift X.K te) (zlU i))
theorem zpj {X:Cx}{N:List Str}{k:Nat}{js:List Nat}{sc:WX}{tg iter elt:Expr}{ifs:List Expr}{ti:TPI}{g:TPG}{tt:TPT}{te:TPE}{i:Nat}{x:Str}{pos pos' pos2:Pos}(hc:X.calm=true)(S:zcN X N k js sc)(nd:js.Nodup)(hloc:LocG k g)(hi:PuI X tg iter ti)(B:PBlk X N sc tg ifs elt g tt te)(hN:X.N.Nodup)(hx:X.N[i]? = some x)(hk:X.env.scope.names.lookup x=some .local)
  (hsw:WF (.ListComp elt [⟨tg,iter,ifs,0⟩] sc pos) (some (.Name x pos')) pos2.line X.env=pure true:=by rfl) (hs:∀x,WQ iter X.env x=pure x:=by intro _;rfl) :
  ztP X (.Assign [.Name x pos'] (.ListComp elt [⟨tg,iter,ifs,0⟩] sc pos) pos2) i (zcI k js ti g tt te):=
 ⟨ziq hi B,PS.weak (zmq hc S hi.run B.blk hN hx hk hsw hs) λD σ H h=>zfM nd hloc hi B h⟩
section
variable {X:Cx}{C:We}{ks:List Str}{f g x y:Str}{e ei e3:Expr}{te ti t3:TPE}{gi iy:Nat}{u:TPZ}{rest:List WC}{p p4 p5 p6 p7 p8 pos pos' pos2 pos3:Pos}
theorem zns (c:Cls X.K C)(n:zcd X.K C g)(he:ztP X (.Assign [.Name y p4] e pos) iy te)(h3:PuE X e3 t3)(hi:PuE X ei ti)(hr:PuZs X C ks f rest u)(hyi:X.N[iy]? = some y)
  (hx:X.N[0]? = some x:=by rfl) (hv:Vis X.env.scope x:=by first | exact Or.inl rfl | exact Or.inr (Or.inl rfl) | exact Or.inr (Or.inr rfl)) (hd:(x == ("__debug__" : Str))=false:=by decide) (hcd:(x == ("__classdict__" : Str))=false:=by decide)
  (hvy:Vis X.env.scope y:=by first | exact Or.inl rfl | exact Or.inr (Or.inl rfl) | exact Or.inr (Or.inr rfl)) (hdy:(y == ("__debug__" : Str))=false:=by decide) (hcy:(y == ("__classdict__" : Str))=false:=by decide)
  (hw1:swapsWithSole [.Subscript (.Name y p5) ei p7] e3 pos2.line X.env=pure false:=by rfl) (hw2:swappedStores [.Subscript (.Name y p5) ei p7] e3 X.env=pure none:=by rfl)
  (h1:(WS [.Subscript (.Name y p5) ei p7] X.env).map (·.2)=[assign (.Subscript (.Name y p5) ei p7) X.env]:=by rfl)
  (hasg:∀v,assign (.Subscript (.Name y p5) ei p7) X.env v=(do
   let ov <- WW [v] (WA (.Name y p5) X.env);let iv <- WW [v,ov] (WA ei X.env)
   Vq p7
   WW [v,ov,iv] (setItem ov iv v)
   release [v,ov,iv] []):=by intro _;rfl)
  (hs4:WF (.Name y p8) (some (.Attribute (.Name x p) g pos')) pos3.line X.env=pure false:=by rfl) :
  PuZs X C ks f (.Assign [.Name y p4] e pos::.Assign [.Subscript (.Name y p5) ei p7] e3 pos2::.Assign [.Attribute (.Name x p) g pos'] (.Name y p8) pos3::rest) (zcr C ks f g gi iy te t3 ti u) where
 mono ρ ds hs Q Q' m h:=by
  obtain⟨a1,a0,a2,a3,a4,h⟩:=h;exact⟨a1,a0,a2,a3,a4,he.mono _ _ _ (λd k ⟨b1,rows,b2,b3,h⟩=>⟨b1,rows,b2,b3,h3.mono _ _ _ (λd k ⟨c1,c2,h⟩=>⟨c1,c2,hi.mono _ _ _ (λd k ⟨n,d1,d2,h⟩=>⟨n,d1,d2,hr.mono _ _ _ _ _ m h⟩) h⟩) h⟩) h⟩
 run:=PSs.weak (zcj he.run (zcj (zlV h3.run (zpR (zcE hyi hvy hdy hcy) hi.run set_list hasg) hw1 hw2 h1) (zcj (zjJ (zcE hx hv hd hcd) (zcE hyi hvy hdy hcy) hs4) hr.run))) λD σ H h=>by
  obtain⟨ρ,Fz,x,dx,L,ds,hs,R,i0,il,nd,hg,hl,h⟩:=h;refine⟨_,_,R.view,he.mono _ _ _ (λd k q v F1 H1 p1=>?_) h⟩;obtain⟨rfl,rows,rfl,hrows,q⟩:=q;obtain⟨px,a,rfl,ha0,nfa,xs,ha1,hden⟩:=p1;have hx0:H x≠none:=by obtain⟨_,w,_⟩:=R.mo.at_;rw[w];exact λz=>nomatch z
  have hL0:H L≠none:=by rw[R.mo.li];exact λz=>nomatch z
  have nax:a≠x:=λz=>hx0 (z▸ha0);have naL:a≠L:=λz=>hL0 (z▸ha0);obtain⟨R2,s2⟩:=R.back px;have hden2:=R2.mo.ztO hrows hden;have hsl:iy<σ.length:=by rw[<- R.rel.len];exact il
  have R3:RelM X.K (λb=>F1 b/\b≠x/\b≠L) (ρ.set iy none) (σ.set iy (some (.ref a))) H1 C x dx L ks f ds hs:=by
   refine⟨R2.rel.unset,by rw[Xk i0];exact R2.sz,λj d' z=>?_,R2.mo⟩;by_cases hj:iy=j
   ·subst hj;rw[Xp il]at z;cases z
   ·rw[Xk hj]at z;exact R2.no j d' z
  refine⟨_,_,R3.view,h3.mono _ _ _ (λd3 k3 q v3 F4 H4 p4=>?_) q⟩;obtain⟨rfl,hr3,q⟩:=q;obtain⟨R4,s4⟩:=R3.back p4.ext;have d3':=R4.mo.drop hr3 p4.opd;have ha4:=p4.ext.same _ _ ha1;have nf4:¬ F4 a:=λz=>by
   rcases p4.ext.new a z with (w | w | w) | w
   ·exact nfa w.1
   ·exact nax w
   ·exact naL w
   ·rw[ha1]at w;cases w
  refine⟨_,Xp hsl,_,_,R4.view,hi.mono _ _ _ (λd k q v5 F5 H5 p5=>?_) q⟩;obtain⟨nn,rfl,hn,q⟩:=q;have ev:=zax (p5.root R4.view);obtain⟨R5,s5⟩:=R4.back p5.ext;have ha5:=p5.ext.same _ _ ha4;have nf5:¬ (F5 a/\a≠x/\a≠L):=λz=>by
   rcases p5.ext.new a z.1 with (w | w | w) | w
   ·exact nf4 w.1
   ·exact nax w
   ·exact naL w
   ·rw[ha4]at w;cases w
  have hlen:=hden.length;refine⟨a,xs,nn,nn,rfl,ev,ha5,by rw[<- hlen];exact znp hn,?_⟩;have R6:=R5.other (o:=.lst (xs.set nn v3)) ha5 (λz=>z) nf5 nax naL;have dn5:DenL X.K (λb=>F5 b/\b≠x/\b≠L) H5 (rows.set nn d3) (xs.set nn v3):=DenL.set nn (DenL.mono (Keep.of (p4.ext.same.trans p5.ext.same)) (λb hb=>s5.sub b (s4.sub b hb)) _ _ hden2) (Den.mono (Keep.of p5.ext.same) s5.sub _ _ d3');have dn6:DenL X.K (λb=>F5 b/\b≠x/\b≠L) (upd H5 a (.lst (xs.set nn v3))) (rows.set nn d3) (xs.set nn v3):=DenL.rew' ha5 (λz=>z) nf5 dn5;have R7:=R6.freeze (a:=a) (by rw[zap];exact λz=>nomatch z) nax naL;obtain⟨zs,b1,b2,b3⟩:=R7.mo.at_;have dl:Den X.K (λb=>(F5 b/\b≠x/\b≠L)\/b=a) (upd H5 a (.lst (xs.set nn v3))) (.lst (rows.set nn d3)) (.ref a):=by
   simp only[Den];exact⟨a,_,rfl,.inl ⟨.inr rfl,.inl zap⟩,DenL.mono (Keep.of (Same.refl _)) (λ_ h=>.inl h) _ _ dn6⟩
  obtain⟨R8,s8⟩:=R7.fld b1 b2 b3 nd hg dl;refine⟨_,Xp hsl,_,R7.sz,x,C,dx,_,rfl,b1,c,n,by rw[Yp,Xm,Xm];simp only[Ya];lia,?_⟩;have st5:zdF x L Fz H (λb=>F5 b/\b≠x/\b≠L) H5:=(s2.trans s4 R4.mo.nf R4.mo.nfL).trans s5 R5.mo.nf R5.mo.nfL;have st8:zdF x L Fz H (λb=>(F5 b/\b≠x/\b≠L)\/b=a) (upd (upd H5 a (.lst (xs.set nn v3))) x (.ins C dx (putF g (.ref a) ((ks++[f]).zip (zs++[.ref L]))))):=by
   refine⟨λb o n1 n2 w=>?_,λb hb=>.inl (st5.sub b hb),λb hb=>?_,s8.al⟩
   ·have nb:b≠a:=λz=>by rw[z,ha0]at w;cases w
    exact s8.old b o n1 n2 (by rw[zak nb];exact st5.old b o n1 n2 w)
   ·rcases hb with hb | rfl
    ·exact st5.new b hb
    ·exact .inr ha0
  exact⟨ρ.set iy none,_,x,dx,L,_,hs,R8,hr.mono _ _ _ _ _ (λρ' ds' hs' q σ' Fz' H' s' R'=>q σ' Fz' H' (st8.trans s' R'.mo.nf R'.mo.nfL) R') q⟩
end
structure ziA (x:We)(Fz:FZ)(H:Hp)(Fz':FZ)(H':Hp):Prop where
 old:∀b o,b≠x->H b=some o->H' b=some o
 sub:∀b,Fz b->Fz' b
 new:∀b,Fz' b->Fz b\/H b=none
 al:∀b,Fz' b->H' b≠none
theorem ziA.behind {x:We}{Fz F1 Fz':FZ}{H H1 H':Hp}{o:HO}(e:Ext Fz H F1 H1)(m:ziA x F1 (upd H1 x o) Fz' H'):ziA x Fz H Fz' H' where
 old b u n h:=m.old b u n (by rw[zak n];exact e.same b u h)
 sub b h:=m.sub b (e.sub b h)
 new b h:=by
  rcases m.new b h with w | w
  ·exact e.new b w
  ·by_cases n:b=x
   ·subst n;rw[zap]at w;cases w
   ·rw[zak n]at w;exact .inr (e.same.free w)
 al:=m.al
abbrev zgN:=List PV->(List PV->List Int->Prop)->Prop
def zqf (F:zgN):Prop:=∀as Q Q',(∀a b,Q a b->Q' a b)->F as Q->F as Q'
def zhz (K:Xa)(C:We)(ks:List Str)(f:Str)(F:zgN):Sp:=λvs H Q _=>∃(x dx:We)(ws:List V)(Fz:FZ)(as:List PV),vs=.ref x::ws/\H x=some (.ins C dx [])/\H dx=some (.own x)/\¬ Fz x/\¬ Fz dx/\(∀b,Fz b->H b≠none)/\DenL K Fz H as ws/\
 F as λds hs=>∀Fz' H' L,H L=none->ziA x Fz H Fz' H'->MO K Fz' H' C x dx L ks f ds hs->Q .non H'
abbrev TNZ:=PEnv->List Str->List PV->(List PV->List Int->Prop)->Prop
def ztQ (K:Xa)(C:We)(kf:List Str)(f:Str)(t:TNZ):TS:=λD σ H=>∃ρ Fz x dx ks ds,RelN K Fz ρ σ H C x dx ks ds/\t ρ ks ds λds' hs'=>∀σ' Fz' H' L,H L=none->ziA x Fz H Fz' H'->MO K Fz' H' C x dx L kf f ds' hs'->D.nx σ' H'
structure PuNZ (X:Cx)(C:We)(kf:List Str)(f:Str)(sts:List WC)(t:TNZ):Prop where
 mono:∀ρ ks ds Q Q',(∀a b,Q a b->Q' a b)->t ρ ks ds Q->t ρ ks ds Q'
 run:PSs X sts (ztQ X.K C kf f t)
def zeb (g:Str)(te:TPE)(t:TNZ):TNZ:=λρ ks ds Q=>g∉ks/\ks.length<1000/\te ρ λd k=>isOwn k=false/\t ρ (ks++[g]) (ds++[d]) Q
section
variable {X:Cx}{C:We}{kf:List Str}{e:Expr}{f g x:Str}{te:TPE}{t:TNZ}{rest:List WC}{p pos pos':Pos}
theorem zhA (c:Cls X.K C)(n:zcd X.K C g)(he:PuE X e te)(hr:PuNZ X C kf f rest t)(hN:X.N[0]? = some x:=by rfl)(hv:Vis X.env.scope x:=by first | exact Or.inl rfl | exact Or.inr (Or.inl rfl) | exact Or.inr (Or.inr rfl))(hd:(x == ("__debug__" : Str))=false:=by decide) (hcd:(x == ("__classdict__" : Str))=false:=by decide)
  (hs:WF e (some (.Attribute (.Name x p) g pos')) pos.line X.env=pure false:=by rfl):PuNZ X C kf f (.Assign [.Attribute (.Name x p) g pos'] e pos::rest) (zeb g te t) where
 mono ρ ks ds Q Q' m h:=⟨h.1,h.2.1,he.mono ρ _ _ (λd k ⟨hk,q⟩=>⟨hk,hr.mono _ _ _ _ _ m q⟩) h.2.2⟩
 run:=PSs.weak (zcj (zjJ (zcE hN hv hd hcd) he.run hs) hr.run) λD σ H h=>by
  obtain⟨ρ,Fz,x,dx,ks,ds,R,hf,hk,h⟩:=h;refine⟨ρ,Fz,R.rel,he.mono ρ _ _ (λd k q v F1 H1 p1=>?_) h⟩;obtain⟨hk',q⟩:=q;obtain⟨F2,x2,s2,d2⟩:=p1.frozen (zjo hk');have R2:=R.ext x2;obtain⟨xs,h1,h2,h3⟩:=R2.at_;refine⟨_,R2.sz,x,C,dx,_,rfl,h1,c,n,by rw[Yp];lia,?_⟩;refine⟨ρ,F2,x,dx,_,_,R2.fld h1 h2 h3 hf d2,hr.mono _ _ _ _ _ (λa b q σ' Fz' H' L hL m mo=>q σ' Fz' H' L ?_ (m.behind x2) mo) q⟩;by_cases z:L=x
  ·rw[z,zap]at hL;cases hL
  ·rw[zak z]at hL;exact x2.same.free hL
end
section
variable {P:Wl}{w:Wt}{K:Xa}{mg:Str->Option Wb}{base:Heap}
theorem zpk {x qual:Str}{st:WC}{f0 C:We}{fd:Wr}{N ps kf:List Str}{f:Str}{k:Nat}{FI:zgN}(Fn:Fun K x qual st f0 fd)(S:zan N ps (zac st))(len:∀ds Q,FI ds Q->ds.length+1=ps.length)
  (hbody:∀(cdv:Wb) (A:Wu) (outer:List Env) (s:Wd) (H:Hp) (E:XK),Room k (A.deeper (WB qual (zac st) s.heap.objs.size f0 cdv))->
   ∃t,PuNZ (cxOf CX0 P w K mg base N qual (zac st) f0 cdv A outer s H E).nox C kf f (zaj st) t/\∀ds Q,FI ds Q->t ((zaM N (.non::ds)).set 0 none) [] [] Q):FnOk P w K mg base CX0 (k+1) f0 fd ps (zhz K C kf f FI):=by
 refine Fn.ok S (λvs H Q E h=>?_) (λcdv A outer s H vs Q E hr h=>?_)
 ·obtain⟨x,dx,ws,Fz,ds,rfl,_,_,_,_,_,hd,q⟩:=h;rw[XE,<- hd.length];exact len _ _ q
 obtain⟨t,ht,hq⟩:=hbody cdv A outer s H E hr;obtain⟨x,dx,ws,Fz,ds,rfl,hx,hdx,nx,ndx,al,hd,h⟩:=h;have hd':DenL K Fz H (.non::ds) (.non::ws):=DenL.cons (by simp only[Den]) hd;obtain⟨R,no⟩:=zfN (N:=N) al hd';have es:start N (.ref x::ws)=(start N (.non::ws)).set 0 (some (.ref x)):=rfl;refine⟨_,ht.run,?_⟩;rw[es];refine⟨(zaM N (.non::ds)).set 0 none,Fz,x,dx,[],[],⟨R.unset,rfl,rfl,nx,λi d z=>?_,[],hx,rfl,DenL.nil⟩,ht.mono _ _ _ _ _ (λds' hs' q σ' Fz' H' L hL m mo=>q Fz' H' L hL m mo) (hq ds _ h)⟩;by_cases hi:i=0
 ·subst hi;cases z
 ·rw[Xk (λy=>hi y.symm)]at z;have hlen:i<(zaM N (.non::ds)).length:=(Xe.mp z).1;rw[R.len]at hlen;obtain⟨a,q1,_⟩:=R.own i d z;exact no _ a ⟨i,d,z,q1⟩
end
def zcs (C:We)(ks:List Str)(f m:Str)(iy:Nat)(FI:zgN)(FS:PMz)(ta:TPA)(u:TPS):TPS:=λρ O=>m∉ks++[f]/\iy<ρ.length/\ta ρ λops=>noOwn ops=true/\FI (ops.map (·.1)) λds hs=>FS ds hs [] λds' hs'=>Hold u O (ρ.set iy (some (objOf C ks f ds' hs',false)))
section
variable {X:Cx}{C fi fm:We}{ks:List Str}{f m cn y:Str}{iy:Nat}{e:Expr}{es:List Expr}{ta:TPA}{u:TPS}{rest:List WC}{ki km:Nat}{fdi fdm:Wr}{psi psm:List Str}{FI:zgN}{FS:PMz}{pl:Sem Bool}{p1 p2 p3 apos cpos cpos2 pos pos2:Pos}
theorem zlw (M:Mk X.K C fi)(c:Cls X.K C)(hm:Meth X.K C m fm)(GI:FnOk X.prog X.w X.K X.mg X.base CX0 ki fi fdi psi (zhz X.K C ks f FI))(GS:FnOk X.prog X.w X.K X.mg X.base CX0 km fm fdm psm (spZ X.K C ks f FS))(mI:zqf FI)(mS:zpg FS)(hri:Room (ki+1) X.A)(hrm:Room km X.A)
  (hg:Gl X cn) (hmg:X.mg cn=some (.ref C)) (hbi:Binds X.K fdi psi []) (hbm:Binds X.K fdm psm []) (ha:PuA X (e::es) ta) (hr:PuSs X rest u) (hN:X.N.Nodup) (hyi:X.N[iy]? = some y) (hy:Loc X.env.scope y)
  (hdb:(cn == ("__debug__" : Str))=false:=by decide) (hst:Wg (e::es) X.env=(false,WA e X.env)::Wg es X.env:=by rfl) (hpl:(Wy cpos (Wg es X.env)).any (·.1)=false:=by rfl)
  (hvy:Vis X.env.scope y:=by first | exact Or.inl rfl | exact Or.inr (Or.inl rfl) | exact Or.inr (Or.inr rfl)) (hdy:(y == ("__debug__" : Str))=false:=by decide) (hcy:(y == ("__classdict__" : Str))=false:=by decide)
  (hs:WF (.Call (.Name cn p2) (e::es) [] cpos) (some (.Name y p1)) pos.line X.env=pure false:=by rfl) (hf:X.fn y=true\/X.env.scope.names.lookup y=some .local:=by first | exact .inl rfl | exact .inr rfl | assumption)
  (ht:WA (.Call (.Attribute (.Name y p3) m apos) [] [] cpos2) X.env=(do
   let ov <- WA (.Name y p3) X.env
   Vq apos.atName
   let (f,first) <- WW [ov] (Vp ov m pl)
   callWith cpos2 f first (Wy cpos2 (Wg [] X.env)) (Vm cpos2 (W0 [] X.env))):=by rfl)
  (hs2:WF (.Call (.Attribute (.Name y p3) m apos) [] [] cpos2) none pos2.line X.env=pure false:=by rfl) :
  PuSs X (.Assign [.Name y p1] (.Call (.Name cn p2) (e::es) [] cpos) pos::.Expr (.Call (.Attribute (.Name y p3) m apos) [] [] cpos2) pos2::rest) (zcs C ks f m iy FI FS ta u) where
 mono ρ O O' le h:=⟨h.1,h.2.1,ha.mono ρ _ _ (λops q=>⟨q.1,mI _ _ _ (λds hs q=>mS _ _ _ _ _ (λds' hs' q=>hr.mono _ _ _ le q) q) q.2⟩) h.2.2⟩
 run:=PSs.weak (zcj (zhP hN hyi hy (zqS M GI hri hg hmg hbi .nil zlf ha.run hdb hst hpl) hs hf) (zcj (zjc (zjK (pl:=pl) (zcE hyi hvy hdy hcy) c hm GS hrm hbm .nil zlf ht) hs2) hr.run)) λD σ H h=>by
  obtain⟨ρ,Fz,R,hmk,il,h⟩:=h;refine⟨ρ,Fz,R,ha.mono ρ _ _ (λops h vs F1 H1 x1 o=>?_) h⟩;obtain⟨hno,h⟩:=h;intro a dx ha' hdx hne;obtain⟨F2,x2,s2,h2⟩:=o.frozen x1 hno;rw[List.append_nil];have nfa:¬ F2 a:=λz=>x2.al a z ha';have nfd:¬ F2 dx:=λz=>x2.al dx z hdx;have sm:Same H1 (upd (upd H1 dx (.own a)) a (.ins C dx [])):=λb o' hb=>by
   have n1:b≠a:=λz=>by rw[z,ha']at hb;cases hb
   have n2:b≠dx:=λz=>by rw[z,hdx]at hb;cases hb
   rw[zak n1,zak n2];exact hb
  refine⟨a,dx,vs,F2,ops.map (·.1),rfl,zap,by rw[zak hne];exact zap,nfa,nfd,λb hb z=>x2.al b hb (sm.free z),DenL.mono (.of sm) (λ_ h=>h) _ _ h2,mI _ _ _ (λds hs q F3 H3 L hL md mo=>⟨rfl,?_⟩) h⟩;obtain⟨xs,g1,g2,g3⟩:=mo.at_;have hsl:iy<σ.length:=by rw[<- R.len];exact il
  refine⟨_,Xp hsl,a,dx,_,rfl,g1,zdp (α:=V) (β:=V) hmk,?_⟩;refine⟨a,dx,L,[],F3,ds,hs,[],rfl,mo,md.al,DenL.nil,mS _ _ _ _ _ (λds' hs' q F4 H4 s4 m4=>?_) q⟩;have hL1:H1 L=none:=sm.free hL;have sm4:Same H1 H4:=λb o' hb=>by
   have n1:b≠a:=λz=>by rw[z,ha']at hb;cases hb
   have n2:b≠L:=λz=>by rw[z,hL1]at hb;cases hb
   exact s4.old b o' n1 n2 (md.old b o' n1 (sm b o' hb))
  have ex:Ext Fz H (λb=>F4 b\/b=a\/b=L) H4:=by
   refine⟨x2.same.trans sm4,λb hb=>.inl (s4.sub b (md.sub b (x2.sub b hb))),λb hb=>?_,m4.alive s4.al⟩;rcases hb with hb | rfl | rfl
   ·have na:b≠a:=λz=>m4.nf (z▸hb);rcases s4.new b hb with w | w
    ·rcases md.new b w with w | w
     ·exact x2.new b w
     ·exact .inr (x2.same.free (sm.free w))
    ·refine .inr (x2.same.free ?_);cases hb1:H1 b with
     | none=>rfl
     | some o'=>rw[md.old b o' na (sm b o' hb1)]at w;cases w
   ·exact .inr (x2.same.free ha')
   ·exact .inr (x2.same.free hL1)
  have R5:=(R.ext ex).set (i:=iy) m4.den;refine⟨_,_,R5,hr.mono _ _ _ (zcH (Step.of ex) λb ⟨j,d,z1,z2⟩=>?_) q⟩;by_cases hj:iy=j
  ·subst hj;rw[Xp il]at z1;cases z1
  ·rw[Xk hj]at z1 z2;exact .inl ⟨j,d,z1,z2⟩
end
def zbx (C:We)(m:Str)(F:PF)(to:TPE):TPE:=λρ Q=>to ρ λd _=>∃ks ds,d=.obj C ks ds/\m∉ks/\F [d] Q
theorem zdA {X:Cx}{o:Expr}{to:TPE}{C:We}{m:Str}{pos apos:Pos}{pl:Sem Bool}{k:Nat}{fa:We}{fd:Wr}{ps:List Str}{F:PF}(c:Cls X.K C)(hm:Meth X.K C m fa)(G:FnOk X.prog X.w X.K X.mg X.base CX0 k fa fd ps (spP X.K F))(mf:zaY F)(hr:Room k X.A)(hb:Binds X.K fd ps [])(ho:PuE X o to)
  (ht:WA (.Call (.Attribute o m apos) [] [] pos) X.env=(do
   let ov <- WA o X.env
   Vq apos.atName
   let (f,first) <- WW [ov] (Vp ov m pl)
   callWith pos f first (Wy pos (Wg [] X.env)) (Vm pos (W0 [] X.env))):=by rfl) :
  PuE X (.Call (.Attribute o m apos) [] [] pos) (zbx C m F to) where
 mono ρ Q Q' mm h:=ho.mono ρ _ _ (λd k ⟨ks,ds,e1,e2,h⟩=>⟨ks,ds,e1,e2,mf _ _ _ mm h⟩) h
 run:=PE.weak (zjK (pl:=pl) ho.run c hm G hr hb .nil zlf ht) λσ H Q h=>by
  obtain⟨ρ,Fz,R,h⟩:=h;refine⟨ρ,Fz,R,ho.mono ρ _ _ (λd kd q v F1 H1 p1=>?_) h⟩;obtain⟨ks,ds,rfl,hn,q⟩:=q;obtain⟨a,dx,xs,rfl,hf,h1,h2,h3⟩:=zjn (p1.root R);have dobj:Den X.K F1 H1 (.obj C ks ds) (.ref a):=p1.root R;refine⟨a,dx,_,rfl,h1,zdp (α:=V) (β:=V) hn,F1,[.obj C ks ds],(R.ext p1.ext).al,DenL.cons dobj DenL.nil,mf _ _ _ (λd k q v F4 H4 p4=>?_) q⟩;exact q v F4 H4 (p4.behind p1.ext)
theorem ziA.ahead {x:We}{Fz F1 Fz':FZ}{H H1 H':Hp}(e:Ext Fz H F1 H1)(m:ziA x F1 H1 Fz' H'):ziA x Fz H Fz' H' where
 old b u n h:=m.old b u n (e.same b u h)
 sub b h:=m.sub b (e.sub b h)
 new b h:=by
  rcases m.new b h with w | w
  ·exact e.new b w
  ·exact .inr (e.same.free w)
 al:=m.al
def zec (i:Nat)(te:TPE)(t:TNZ):TNZ:=λρ ks ds Q=>i≠0/\te ρ λd k=>isOwn k=false/\t (ρ.set i (some (d,false))) ks ds Q
theorem zpl {X:Cx}{C:We}{kf:List Str}{e:Expr}{f y:Str}{te:TPE}{t:TNZ}{rest:List WC}{pos pos':Pos}{i:Nat}(hN:X.N.Nodup)(hi:X.N[i]? = some y)(hx:Loc X.env.scope y)(he:PuE X e te)(hr:PuNZ X C kf f rest t)
  (hs:WF e (some (.Name y pos')) pos.line X.env=pure false:=by rfl) (hf:X.fn y=true\/X.env.scope.names.lookup y=some .local:=by first | exact .inl rfl | exact .inr rfl | assumption):PuNZ X C kf f (.Assign [.Name y pos'] e pos::rest) (zec i te t) where
 mono ρ ks ds Q Q' m h:=⟨h.1,he.mono ρ _ _ (λd k ⟨hk,q⟩=>⟨hk,hr.mono _ _ _ _ _ m q⟩) h.2⟩
 run:=PSs.weak (zcj (zhP hN hi hx he.run hs hf) hr.run) λD σ H h=>by
  obtain⟨ρ,Fz,x,dx,ks,ds,R,i0,h⟩:=h;refine⟨ρ,Fz,R.rel,he.mono ρ _ _ (λd k q v F1 H1 p1=>?_) h⟩;obtain⟨hk',q⟩:=q;obtain⟨F2,x2,s2,d2⟩:=p1.frozen (zjo hk');have R2:=R.ext x2;refine⟨ρ.set i (some (d,false)),F2,x,dx,ks,ds,⟨R2.rel.set d2,by rw[Xk i0];exact R2.hz,by rw[Xk i0];exact R2.sz,R2.nf,λj d' z=>?_,R2.at_⟩,hr.mono _ _ _ _ _ (λa b q σ' Fz' H' L hL m mo=>q σ' Fz' H' L (x2.same.free hL) (m.ahead x2) mo) q⟩;by_cases hj:i=j
  ·subst hj;by_cases hb:i<ρ.length
   ·rw[Xp hb]at z;cases z
   ·rw[XV (by lia),XQ (by lia)]at z;cases z
  ·rw[Xk hj]at z;exact R2.no j d' z
theorem RelN.view {K:Xa}{Fz:FZ}{ρ:PEnv}{σ:St}{H:Hp}{C x dx:We}{ks:List Str}{ds:List PV}(R:RelN K Fz ρ σ H C x dx ks ds):Rel K (λb=>Fz b\/b=x) (ρ.set 0 (some (.obj C ks ds,false))) σ H:=by
 obtain⟨xs,h1,h2,h3⟩:=R.at_;have al:∀b,(Fz b\/b=x)->H b≠none:=λb hb=>by
  rcases hb with hb | rfl
  ·exact R.rel.al b hb
  ·rw[h1];exact λz=>nomatch z
 have dn:Den K (λb=>Fz b\/b=x) H (.obj C ks ds) (.ref x):=by
  simp only[Den];exact⟨x,dx,xs,rfl,.inr rfl,h1,h2,DenL.mono (Keep.of (Same.refl _)) (λ_ h=>.inl h) _ _ h3⟩
 have g:=(R.rel.grow R.no (Same.refl _) (λb h=>.inl h) al).set (i:=0) dn;have e:σ.set 0 (some (.ref x))=σ:=by
  have hl:=(Xe.mp R.sz).1;have he:=(Xe.mp R.sz).2;rw[<- he];exact List.set_getElem_self hl
 rw[e]at g;exact g
def zby (C:We)(kf:List Str)(f:Str)(te:TPE):TNZ:=λρ ks ds Q=>ks=kf/\f∉ks/\ks.length<1000/\te (ρ.set 0 (some (.obj C ks ds,false))) λd k=>k=.new/\∃hs:List Int,d=.lst (hs.map PV.int)/\Q ds hs
theorem zlx {X:Cx}{C:We}{kf:List Str}{e:Expr}{f x:Str}{te:TPE}{p pos pos':Pos}(c:Cls X.K C)(n:zcd X.K C f)(he:PuE X e te)(hN:X.N[0]? = some x:=by rfl)(hv:Vis X.env.scope x:=by first | exact Or.inl rfl | exact Or.inr (Or.inl rfl) | exact Or.inr (Or.inr rfl))(hd:(x == ("__debug__" : Str))=false:=by decide) (hcd:(x == ("__classdict__" : Str))=false:=by decide)
  (hs:WF e (some (.Attribute (.Name x p) f pos')) pos.line X.env=pure false:=by rfl):PuNZ X C kf f [.Assign [.Attribute (.Name x p) f pos'] e pos] (zby C kf f te) where
 mono ρ ks ds Q Q' m h:=⟨h.1,h.2.1,h.2.2.1,he.mono _ _ _ (λd k ⟨e1,hs,e2,q⟩=>⟨e1,hs,e2,m _ _ q⟩) h.2.2.2⟩
 run:=PSs.weak (zjb (zjJ (zcE hN hv hd hcd) he.run hs)) λD σ H h=>by
  obtain⟨ρ,Fz,x,dx,ks,ds,R,rfl,hf,hk,h⟩:=h;refine⟨_,_,R.view,he.mono _ _ _ (λd k q v F1 H1 p1=>?_) h⟩;obtain⟨rfl,hs,rfl,q⟩:=q;obtain⟨px,L,rfl,hl0,nfL,xs0,hL,hds0⟩:=p1;have e0:=zcJ hds0;subst e0;obtain⟨xs,g1,g2,g3⟩:=R.at_;have hxL:x≠L:=λz=>by rw[z,hl0]at g1;cases g1
  have g1':=px.same _ _ g1;have sub:∀b,Fz b->F1 b/\b≠x:=λb hb=>⟨px.sub b (.inl hb),λz=>R.nf (z▸hb)⟩;have g3':DenL X.K (λb=>F1 b/\b≠x) H1 ds xs:=DenL.mono (Keep.of px.same) sub _ _ g3;have nfx:¬ (F1 x/\x≠x):=λz=>z.2 rfl;refine⟨_,R.sz,x,C,dx,_,rfl,g1',c,n,by rw[Yp];lia,?_⟩;refine q σ (λb=>F1 b/\b≠x) _ L hl0 ⟨λb o nb h=>by rw[zak nb];exact px.same b o h,sub,λb hb=>?_,λb hb=>?_⟩ ⟨nfx,λz=>nfL z.1,hxL,⟨xs,by rw[zap,zhx g2 hf],g2,DenL.rew' g1' (λz=>z) nfx g3'⟩,by rw[zak hxL.symm];exact hL⟩
  ·rcases px.new b hb.1 with (w | w) | w
   ·exact .inl w
   ·exact absurd w hb.2
   ·exact .inr w
  ·rw[zak hb.2];exact px.al b hb.1
def pLtT:P2:=λd e Q=>∃ns ms:List Int,d=.tup (ns.map PV.int)/\e=.tup (ms.map PV.int)/\Q (.bl (HT.lexLt ns ms)) .frz
theorem ztR {K:Xa}:POp K (rLtT K) pLtT where
 mono d e Q Q' m h:=by obtain⟨i,j,e1,e2,q⟩:=h;exact⟨i,j,e1,e2,m _ _ q⟩
 run Fz H x y d e Q al rx ry h:=by
  obtain⟨ns,ms,rfl,rfl,q⟩:=h;obtain⟨a,xs,rfl,h1,h2⟩:=zbe rx;obtain⟨b,ys,rfl,h3,h4⟩:=zbe ry;rw[zcJ h2]at h1;rw[zcJ h4]at h3;exact⟨a,b,ns,ms,rfl,rfl,h1,h3,q _ Fz H (.val al (by simp only[Den]))⟩
theorem ztS {X:Cx}{a b:Expr}{ta tb:TPE}{pos:Pos}(hu:X.A.units+16<Wz)(ha:PuE X a ta)(hb:PuE X b tb)(hm:Wx .Lt b=false:=by first | exact zdc _ | rfl):PuE X (.Compare a [.Lt] [b] pos) (t2 pLtT ta tb):=zpX (zsP (by lia)) ztR ha hb hm
abbrev TPR:=PEnv->(Int->List Int->List Int->Prop)->Prop
abbrev PFR:=List PV->(Int->List Int->List Int->Prop)->Prop
end PL
namespace Srt
open PySem PyProof.Rows
section
variable {prog:Wl}{w:Wt}{A:Wu}{E:Wb->Wd->Prop}{s:Wd}{k:WG}{P:Wq->Prop}{f:Wq->Wq->Bool}
theorem zly {n:Nat}(h:n<64):(sortPriv% PySem.Builtin.minRun) n n 0=n:=by
 cases n with
 | zero=>rfl
 | succ n=>
  show(if n+1<64 then n+1+0 else _)=n+1
  rw[if_pos h]
theorem zpm (C:Cmp prog w A E s k P f)(T:Tot f P){Q:Unit->Wv->Prop}{st:Wv}(hst:kindOf st=k)(hfl:W7 st=none)(hpn:Ws st = #[])(h64:(Wp st).size<64)(hP:∀(j:Nat) x,(Wp st)[j]? = some x->P x)
  (hQ:∀st',(Wp st').Perm (Wp st)->W7 st'=none->(Wp st').toList.Pairwise (Le f)->Q () st'):wpS (Wh prog w) A E s srt Q st:=by
 refine Wj (Va ?_);dsimp only;have hmr:=zly h64;refine Wj (Vc (WM (I:=λx c st'=>(c=(none,0)/\x=0/\st'=st)\/(c=(none,(Wp st).size)/\(Wp st').Perm (Wp st)/\W7 st'=none/\(Ws st').size<=1/\Run f (Wp st') 0 (Wp st).size))
  (Q:=λc st'=>∃lo,c=(none,lo)/\(Wp st').Perm (Wp st)/\W7 st'=none/\(Ws st').size<=1/\Run f (Wp st') 0 (Wp st).size) ?step ?fin (.inl ⟨rfl,rfl,rfl⟩)) ?post)
 case fin=>
  rintro c st' (⟨rfl,h1,rfl⟩ | ⟨rfl,h1,h2,h3,h4⟩)
  ·change max 0 (Wp st').size=0 at h1;exact⟨0,rfl,.refl _,hfl,by rw[hpn];decide,λi j hj hij g1 g2=>by lia⟩
  ·exact⟨_,rfl,h1,h2,h3,h4⟩
 case post=>
  rintro c st' ⟨lo,rfl,h1,h2,h3,h4⟩;dsimp only;refine Wj (Vc (WM (I:=λx c st2=>c=(none,())/\st2=st')
   (Q:=λc st2=>c=(none,())/\st2=st') ?step9 ?fin9 ⟨rfl,rfl⟩) ?post9)
  case fin9=>exact λc st2 h=>h
  case post9=>
   rintro c st2 ⟨rfl,rfl⟩;refine Wm (hQ st2 h1 h2 ?_);have hsz:(Wp st2).size=(Wp st).size:=h1.size_eq;rw[<- hsz]at h4;have:=ztH (show Run f (Wp st2) 0 (0+(Wp st2).size) by rw[Nat.zero_add];exact h4) (by lia)
   rwa [List.drop_zero,XC (by rw[Ye];exact Xf _)]at this
  case step9=>
   rintro x c st2 _ hx ⟨rfl,rfl⟩;refine Wj (Va ?_);rw[if_pos h3];exact Wm ⟨rfl,rfl⟩
 case step=>
  rintro x c st1 _ hx (⟨rfl,rfl,rfl⟩ | ⟨rfl,h1,h2,h3,h4⟩)
  ·dsimp only;by_cases e1:0>=(Wp st1).size
   ·rw[if_pos e1];exact Wm ⟨0,rfl,.refl _,hfl,by rw[hpn];decide,λi j hj hij g1 g2=>by lia⟩
   rw[if_neg e1];refine Wj (ztJ C T hst (show 1<=(Wp st1).size-0 by lia) (show 0+((Wp st1).size-0)<=(Wp st1).size by lia) hP λa1 m q1 q2 mv r1=>?_);have hs1:=mv.size;have q2':m<=(Wp st1).size-0:=q2;dsimp only;have done:∀(a2:Array Wq),Moved (Wp st1) a2 0 (0+((Wp st1).size-0))->Run f a2 0 (Wp st1).size->(Wp (WN st1 a2)).Perm (Wp st1):=λa2 m2 _=>m2.pm;generalize hmm:(sortPriv% PySem.Builtin.minRun) _ _ _=mr at *;subst hmr;refine ztK (λe2=>?_) (λe2=>?_)
   ·refine Wj (Vo (WL ⟨rfl,?_⟩));refine Wj (ztI C T (st:=WN st1 a1) hst (show 0+min ((Wp st1).size-0) (Wp st1).size<=a1.size by lia) (by lia) (mv.all hP) r1 λa2 mv2 r2=>?_);rw[if_neg (by decide)];have hmin:0+min ((Wp st1).size-0) (Wp st1).size=(Wp st1).size:=by lia
    rw[hmin]at r2;refine Wj (Va ?_);have hb:(Ws (WN (WN st1 a1) a2)).back? = none:=by show(Ws st1).back? = none;rw[hpn];rfl
    rcases hc:(Ws (WN (WN st1 a1) a2)).back? with _ | ⟨s1,l1,p1⟩
    ·dsimp only;refine Wj (WT (Wm (.inr ⟨by rw[hmin],mv2.pm.trans mv.pm,hfl,?_,r2⟩)));show((Ws st1).push _).size<=1;rw[hpn];exact Xf 1
    ·rw[hb]at hc;cases hc
   ·have hm:m=(Wp st1).size:=by lia
    subst hm;refine Wj (Va ?_);have hb:(Ws (WN st1 a1)).back? = none:=by show(Ws st1).back? = none;rw[hpn];rfl
    rcases hc:(Ws (WN st1 a1)).back? with _ | ⟨s1,l1,p1⟩
    ·dsimp only;rw[Nat.zero_add]at r1;refine Wj (WT (Wm (.inr ⟨by rw[Nat.zero_add],mv.pm,hfl,?_,r1⟩)));show((Ws st1).push _).size<=1;rw[hpn];exact Xf 1
    ·rw[hb]at hc;cases hc
  ·dsimp only;rw[if_pos (Xf _)];exact Wm ⟨_,rfl,h1,h2,h3,h4⟩
theorem zju {a:We}{us:List (We×List Int)}{n:Nat}{P:Fin->Wd->Prop}(ho:s.heap.get? a=some (WI "list" (refsOf us).toArray n)) (hT:∀u∈us,TupAt s.heap (.ref u.1) u.2/\u.2≠[]) (h64:us.length<64)
  (h:∀us',us'.Perm us->(us'.map (·.2)).Pairwise (λx y=>ltI y x=false)->P (.done (.ret .none)) { s with heap:=sortedHeap s.heap a (refsOf us) (refsOf us').toArray }) :
  Wi (Wh prog w) A (Builtin.«list.sort» ⟨[.ref a],[]⟩) P E s:=by
 have hsz:us.length<=Wn:=by rw[Wo];lia
 rw[list_sort_plain];have ha:a<s.heap.objs.size:=Xs ho;refine Wa (W2 ho rfl (Wa (Vf ho rfl ?_ (hsz:=by rw[Xj,Xb];exact hsz) (hsz2:=XH _))));obtain⟨e1,ho1⟩:∃e1,(s.heap.update a (Obj.mapSeq λ_=>#[])).get? a=some (WI "list" #[] e1):=⟨_,get?_update_seq ho (λ_=>#[])⟩;refine Wa (seqEpoch_at ho1 rfl (Wa (wpAny_newTuple (Wa (Vd (WH ?_))))));obtain⟨h6,eh⟩:∃h6,h6=(((s.heap.update a (Obj.mapSeq λ_=>#[])).push (WI "tuple" (refsOf us).toArray 0)).push (WI "list" #[] 0)):=⟨_,rfl⟩;have kp:∀b,b<s.heap.objs.size->h6.get? b=(s.heap.update a (Obj.mapSeq λ_=>#[])).get? b:=λb hb=>by
  rw[eh,YR _ _ _ (by rw[size_push',Heap.size_update];exact XB (XJ hb)),YR _ _ _ (by rw[Heap.size_update];exact XB hb)]
 have ho6:h6.get? a=some (WI "list" #[] e1):=by rw[kp a ha];exact ho1
 have hT6:∀u∈us,TupAt h6 (.ref u.1) u.2:=λu hu=>by
  obtain⟨b,o,vs,m,e,hb,c,d,i⟩:=(hT u hu).1;cases e;have hne:u.1≠a:=λz=>by rw[z,ho]at hb;cases hb;injection c with c;exact absurd c (by decide)
  refine⟨u.1,o,vs,m,rfl,?_,c,d,i⟩;rw[kp u.1 (Xs hb),Yj _ _ (Ne.symm hne)];exact hb
 show Wi (Wh prog w) A _ P E { s with heap:=(((s.heap.update a (Obj.mapSeq λ_=>#[])).push (WI "tuple" (refsOf us).toArray 0)).push (WI "list" #[] 0)) };have hfin:∀us':List (We×List Int),us'.Perm us->(us'.map (·.2)).Pairwise (λx y=>ltI y x=false)->P (.done (.ret .none)) { s with heap:=h6.update a (Obj.mapSeq λ_=>(refsOf us').toArray) }:=by
  rw[eh];exact h
 rw[<- eh];dsimp only;by_cases h2:(refsOf us).toArray.size<2
 ·rw[if_pos h2,if_pos h2];refine Wa (Wf ?_);rw[StateT.run_pure];refine Wa (Wf (Wa (seqEpoch_at ho6 rfl (Wa (Vf ho6 rfl ?_ (hsz:=XH _) (hsz2:=?_))))))
  ·simp only[bne_self_eq_false,XU,if_false];have e2:Array.map (λx=>x.2) (Wp (SortSt.mk' general' ((refsOf us).toArray.zip (refsOf us).toArray) #[] 7 none))=(refsOf us).toArray:=by
    show Array.map (λx=>x.2) ((refsOf us).toArray.zip (refsOf us).toArray)=_;rw[List.zip_toArray,zcT,List.map_toArray,List.map_map];rfl
   refine Wf ?_;have q:=hfin us (.refl _) (by
    rw[Xj,Xb]at h2
    match us,h2 with
    | [],_=>exact List.Pairwise.nil
    | [u],_=>simp)
   rw[<- e2]at q;exact q
  ·rw[Array.size_map];show((refsOf us).toArray.zip (refsOf us).toArray).size<=_;rw[List.zip_toArray,Xj,zcT,Xb];lia
 ·rw[if_neg h2,if_neg h2];have hpos:us≠[]:=λz=>by subst z;exact h2 (by decide)
  refine Wa (zks (s:={ s with heap:=h6 }) (λv hv=>?_) (λz=>hpos (List.map_eq_nil_iff.mp z)) ?_)
  ·obtain⟨u,hu,rfl⟩:=XD.mp hv;exact⟨u.2,hT6 u hu,(hT u hu).2⟩
  have hW:=zpm (prog:=prog) (w:=w) (A:=A) (E:=E) (s:={ s with heap:=h6 }) (zjs (s:={ s with heap:=h6 }) true) (zrO h6) (st:=SortSt.mk' (tuples' true) ((refsOf us).toArray.zip (refsOf us).toArray) #[] 7 none)
   (Q:=λ_ st'=>(Wp st').Perm ((refsOf us).toArray.zip (refsOf us).toArray)/\W7 st'=none/\(Wp st').toList.Pairwise (Le λx y=>ltI (gOf h6 x.1) (gOf h6 y.1))) rfl rfl rfl (by show((refsOf us).toArray.zip (refsOf us).toArray).size<64;rw[List.zip_toArray,Xj,zcT,Xb];exact h64) (λj x hx=>?_) (λst' a1 a2 a3=>⟨a1,a2,a3⟩)
  ·refine Wa (WR hW ?_ λ_ _ e=>e);rintro⟨⟨⟩,st'⟩ s' ⟨rfl,hp,hf,hs⟩;dsimp only;have hpl:(Wp st').toList.Perm (us.map λu=>(Value.ref u.1,Value.ref u.1)):=by
    have q:=Array.perm_iff_toList_perm.mp hp;rw[List.zip_toArray,zcT]at q;exact q
   obtain⟨us',p1,p2⟩:=ziz hpl us rfl;have e2:Array.map (λx=>x.2) (Wp st')=(refsOf us').toArray:=by
    have e3:Wp st'=(us'.map λu=>(Value.ref u.1,Value.ref u.1)).toArray:=by rw[<- p2,Array.toArray_toList]
    rw[e3,List.map_toArray,List.map_map];rfl
   refine Wa (seqEpoch_at ho6 rfl (Wa (Vf ho6 rfl ?_ (hsz:=XH _) (hsz2:=?_))))
   ·rw[hf];simp only[bne_self_eq_false,XU,if_false];refine Wf ?_;have q:=hfin us' p1 (by
     rw[p2,List.pairwise_map]at hs;rw[List.pairwise_map];refine hs.imp_of_mem λ{x y} hx hy z=>?_;have z:ltI (gOf h6 (.ref y.1)) (gOf h6 (.ref x.1))=false:=z;rw[zkp (hT6 y (p1.mem_iff.mp hy)),zkp (hT6 x (p1.mem_iff.mp hx))]at z;exact z)
    rw[<- e2]at q;exact q
   ·show(Array.map (λx=>x.2) (Wp st')).size<=_;rw[e2,Xj,Xb,p1.length_eq];lia
  ·have hm:x∈(us.map λu=>(Value.ref u.1,Value.ref u.1)):=by
    have hx:((refsOf us).toArray.zip (refsOf us).toArray)[j]? = some x:=hx;rw[List.zip_toArray,zcT,List.getElem?_toArray]at hx;exact Xu hx
   obtain⟨u,hu,rfl⟩:=XD.mp hm;exact⟨u.2,hT6 u hu⟩
theorem zpn {l:We}{us:List (We×List Int)}{Q:Wb->Wd->Prop}(hl:s.heap.IsList l (refsOf us).toArray)(hT:∀u∈us,TupAt s.heap (.ref u.1) u.2/\u.2≠[])(h64:us.length<64)
  (h:∀us',us'.Perm us->(us'.map (·.2)).Pairwise (λx y=>ltI y x=false)->Q (.ref (s.heap.objs.size+1)) { s with heap:=sortedAll s.heap (refsOf us) (refsOf us').toArray }) :
  Wi (Wh prog w) A (call (.builtin "sorted") [.ref l]) Q E s:=by
 have hsz:us.length<=Wn:=by rw[Wo];lia
 refine Calls.call_function_entry kind_sorted plain_sorted entry_sorted (args_sorted1 _) ?_;unfold Builtin.«sorted»;refine Wa (m:=checkCount "sorted" 1 1 _) (Wf (Wa (collect_list hl (Wa (Vd ?_)) (hsz:=by rw[Xb];exact hsz))));obtain⟨h5,eh⟩:∃h5,h5=(s.heap.push (WI "list" #[] 0)).update s.heap.objs.size (Obj.mapSeq (·++(refsOf us).toArray)):=⟨_,rfl⟩;have hz:h5.objs.size=s.heap.objs.size+1:=by rw[eh,Heap.size_update,size_push']
 have hoL:(h5.push (WI "list" (refsOf us).toArray 0)).get? (s.heap.objs.size+1)=some (WI "list" (refsOf us).toArray 0):=by rw[<- hz];exact Xw _ rfl
 have kp:∀b o,s.heap.get? b=some o->(h5.push (WI "list" (refsOf us).toArray 0)).get? b=some o:=λb o e=>by
  have hb:=Xs e;rw[YR _ _ _ (by rw[hz];exact XB (XJ hb)),eh,Yj _ _ (YN hb),YR _ _ _ (XB hb)];exact e
 have hfin:∀us',us'.Perm us->(us'.map (·.2)).Pairwise (λx y=>ltI y x=false)->Q (.ref (s.heap.objs.size+1)) { s with heap:=sortedHeap (h5.push (WI "list" (refsOf us).toArray 0)) (s.heap.objs.size+1) (refsOf us) (refsOf us').toArray }:=by
  rw[eh];exact h
 show Wi _ _ _ _ _ { s with heap:=((s.heap.push (WI "list" #[] 0)).update s.heap.objs.size (Obj.mapSeq (·++(refsOf us).toArray))).push (WI "list" (refsOf us).toArray 0) };rw[<- eh,hz];refine Wa (WH (WE slot_list_sort ⟨_,hoL,rfl⟩ entry_list_sort (zju (s:={ s with heap:=h5.push (WI "list" (refsOf us).toArray 0) }) hoL (λu hu=>?_) h64 λus' a1 a2=>⟨_,rfl,?_⟩) (args_list_sort _)))
 ·obtain⟨⟨b,o,vs,m,e,hb,c,d,i⟩,z⟩:=hT u hu;exact⟨⟨b,o,vs,m,e,kp b o hb,c,d,i⟩,z⟩
 ·exact Wf ⟨_,rfl,hfin us' a1 a2⟩
end
end Srt
namespace L2
open PySem PySem.Spec PyProof.Rows
section
variable {X:Cx}
theorem zlz:zde X (.builtin "sorted") (λxs H Q=>∃(p:We) (us:List (We×List Int)),xs=[.ref p]/\SqL X.K H p (us.map λu=>V.ref u.1)/\(∀u∈us,SqT X.K H u.1 (u.2.map V.int)/\u.2≠[])/\us.length<64/\
  ∀(l:We) (us':List (We×List Int)),H l=none->us'.Perm us->(us'.map (·.2)).Pairwise (λx y=>Srt.ltI y x=false)->Q (.ref l) (upd H l (.lst (us'.map λu=>V.ref u.1)))):=by
 intro pins s σ H xs us Q I r h;obtain⟨p,us,rfl,hp,hT,h64,q⟩:=h;obtain⟨u,rfl,rx⟩:=vals1 r;cases rx;obtain⟨its,r,ht,hz⟩:=I.list hp;have ei:=zfV r;subst ei;rw[Xb]at hz;refine Srt.zpn ht.isList (λu hu=>?_) h64 λus' a1 a2=>?_
 ·obtain⟨h1,h2⟩:=hT u hu;obtain⟨its2,rv,⟨o,ho,hc,n,hd⟩,_⟩:=I.tuple h1;exact⟨⟨u.1,o,its2,n,rfl,ho,hc,hd,ints_of rv⟩,h2⟩
 ·obtain⟨e,he⟩:=sortedAll_at s.heap (Srt.refsOf us) (Srt.refsOf us').toArray;have kp:∀b o,s.heap.get? b=some o->(sortedAll s.heap (Srt.refsOf us) (Srt.refsOf us').toArray).get? b=some o:=λ_ _=>sortedAll_old;refine⟨.ref (s.heap.objs.size+1),_,I.laid (t':=s.toks) (o:=.lst (us'.map λu=>V.ref u.1)) kp (Yu _) ?_,rfl,q _ us' (I.hok.fresh (Yu _)) a1 a2⟩;exact⟨by rw[Xb,a1.length_eq];exact hz,Srt.refsOf us',e,zfW us',he⟩
end
end L2
namespace PL
open PySem PySem.Spec L2
open PyProof.Rows hiding St
open Srt (ltI zhw zeB zeW zdr zeC)
def zch:PF:=λds Q=>∃ss:List (List Int),ds=[.lst (ss.map λr=>PV.tup (r.map PV.int))]/\(∀r∈ss,r≠[])/\ss.length<64/\Q (.lst ((sortI ss).map λr=>PV.tup (r.map PV.int))) .new
theorem zpo {X:Cx}:zes X.K (λxs H Q=>∃(p:We)(us:List (We×List Int)),xs=[.ref p]/\SqL X.K H p (us.map λu=>V.ref u.1)/\(∀u∈us,SqT X.K H u.1 (u.2.map V.int)/\u.2≠[])/\us.length<64/\
  ∀(l:We) (us':List (We×List Int)),H l=none->us'.Perm us->(us'.map (·.2)).Pairwise (λx y=>Srt.ltI y x=false)->Q (.ref l) (upd H l (.lst (us'.map λu=>V.ref u.1)))) zch where
 mono ds Q Q' m h:=by obtain⟨ss,e1,e2,e3,q⟩:=h;exact⟨ss,e1,e2,e3,m _ _ q⟩
 run Fz H ds vs Q al r h:=by
  obtain⟨ss,rfl,e2,e3,q⟩:=h;obtain⟨v,rfl,rv⟩:=zdH r;obtain⟨a,xs,rfl,h1,h2⟩:=zas rv;obtain⟨us,rfl,g2,g3⟩:=zfX h2;refine⟨a,us,rfl,h1,λu hu=>⟨SqT.of (g3 u hu),e2 _ (by rw[<- g2];exact XD.mpr ⟨u,hu,rfl⟩)⟩,by rw[<- g2,Xb]at e3;exact e3,λl us' hl hz hs=>?_⟩;have ez:us'.map (·.2)=sortI ss:=zpd (by rw[<- g2];exact hz.map _) hs;have hd:DenL X.K Fz H ((us'.map (·.2)).map λr=>PV.tup (r.map PV.int)) (us'.map λu=>V.ref u.1):=zfY us' λu hu=>g3 u (hz.mem_iff.mp hu);rw[ez]at hd;exact q _ Fz _ (.newL al hl hd)
section
variable {X:Cx}{e:Expr}{es:List Expr}{te:TPE}{t:TPA}{x:Str}{p p1 p2 q1 pos pos2 apos cpos:Pos}
theorem zpp (hg:Gl X "sorted") (hm:X.mg "sorted" = none) (ha:PuA X (e::es) t) (he:Wg (e::es) X.env=(false,WA e X.env)::Wg es X.env:=by rfl) (hpl:(Wy pos (Wg es X.env)).any (·.1)=false:=by rfl):PuE X (.Call (.Name "sorted" p) (e::es) [] pos) (tB zch t):=
 zcP zlz zpo hg hm zho ha (by decide) (by decide) he hpl
end
end PL
namespace Sw
open PySem PyProof.Rows Srt
section
variable {prog:Wl}{w:Wt}{A:Wu}{E:Wb->Wd->Prop}{s:Wd}{k:WG}{P:Wq->Prop}
structure CmpW (prog:Wl)(w:Wt)(A:Wu)(E:Wb->Wd->Prop)(s:Wd)(k:WG)(P:Wq->Prop):Prop where
 run:∀ {x y:Wq} {Q:Option Bool->Wv->Prop} {st:Wv},P x->P y->kindOf st=k->(∀b,Q (some b) st)->wpS (Wh prog w) A E s (lt' x y) Q st
abbrev AllP (P:Wq->Prop)(a:Array Wq):Prop:=∀(j:Nat) x,a[j]? = some x->P x
theorem AllP.at {a:Array Wq}(h:AllP P a){i:Nat}(hi:i<a.size):P a[i]:=h i _ (getElem?_pos a i hi)
theorem beyW (C:CmpW prog w A E s k P){l:Bool}{key:Wq}{a:Array Wq}{i:Nat}{Q:Option Bool->Wv->Prop}{st:Wv}(hi:i<a.size)(hP:AllP P a)(hk:P key)(hst:kindOf st=k)(h:∀b,Q (some b) st) :
  wpS (Wh prog w) A E s (do let x <- Vh a i;if l=true then lt' x key else do let r <- lt' key x;pure (Option.map (λx=>!x) r)) Q st:=by
 refine Wj (zhv (getElem?_pos a i hi) ?_);cases l with
 | true=>exact C.run (hP.at hi) hk hst h
 | false=>exact Wj (C.run hk (hP.at hi) hst λb=>Wm (h _))
theorem galW (C:CmpW prog w A E s k P){l:Bool}{key:Wq}{a:Array Wq}{b n h:Nat}{Q:Option Nat->Wv->Prop}{st:Wv}(hh:h<n)(hn:b+n<=a.size)(hP:AllP P a)(hk:P key)(hst:kindOf st=k)(hQ:∀r,r<=n->Q (some r) st):wpS (Wh prog w) A E s (gal l key a b n h) Q st:=by
 have bey:∀ {i:Nat} {R:Option Bool->Wv->Prop},i<n->(∀v,R (some v) st)->wpS (Wh prog w) A E s (do let x <- Vh a (b+i);if l=true then lt' x key else do let r <- lt' key x;pure (Option.map (λx=>!x) r)) R st:=λhi hr=>beyW C (by lia) hP hk hst hr
 refine Wj (bey hh λv=>?_);dsimp -zeta only
 extract_lets jp
 have hjp:∀r lo os L H,H<=n->wpS (Wh prog w) A E s (jp r lo os L H) Q st:=λ_ _ _ L H hH=>by
  refine Wj (Vc (WM (I:=λ_ c st2=>st2=st/\c.1=none/\c.2.2<=n) (Q:=λc st2=>st2=st/\c.1=none/\c.2.2<=n) ?hstep (λ_ _ g=>g) ⟨rfl,rfl,hH⟩) ?hpost)
  case hstep=>
   rintro x ⟨c1,L,H⟩ st2 _ _ ⟨rfl,e,g⟩;obtain rfl:c1=none:=e;refine zav (λ_=>Wm ⟨rfl,rfl,g⟩) (λhc=>Wj (bey ?_ λv=>?_))
   ·have:=zqc hc;exact XO this.2 g
   ·cases v with
    | true=>exact Wm ⟨rfl,rfl,g⟩
    | false=>exact Wm ⟨rfl,rfl,Xx (Ys (zqc hc).2) g⟩
  case hpost=>
   rintro⟨c1,L,H⟩ st2 ⟨rfl,e,g⟩;obtain rfl:c1=none:=e;exact Wm (hQ _ g)
 clear_value jp
 ·cases v with
  | true=>
   refine Wj (Vc (WM (I:=λ_ c st2=>st2=st/\c.1=none) (Q:=λc st2=>st2=st/\c.1=none) ?s1 (λ_ _ g=>g) ⟨rfl,rfl⟩) ?p1)
   case s1=>
    rintro x ⟨c1,lo,os⟩ st2 _ _ ⟨rfl,e⟩;obtain rfl:c1=none:=e;refine zav (λ_=>Wm ⟨rfl,rfl⟩) (λhc=>Wj (bey (by lia) λv=>?_));cases v<;>exact Wm ⟨rfl,rfl⟩
   case p1=>
    rintro⟨c1,lo,os⟩ st2 ⟨rfl,e⟩;obtain rfl:c1=none:=e;exact hjp _ _ _ _ _ (by lia)
  | false=>
   refine Wj (Vc (WM (I:=λ_ c st2=>st2=st/\c.1=none) (Q:=λc st2=>st2=st/\c.1=none) ?s2 (λ_ _ g=>g) ⟨rfl,rfl⟩) ?p2)
   case s2=>
    rintro x ⟨c1,lo,os⟩ st2 _ _ ⟨rfl,e⟩;obtain rfl:c1=none:=e;refine zav (λ_=>Wm ⟨rfl,rfl⟩) (λhc=>Wj (bey (by lia) λv=>?_));cases v<;>exact Wm ⟨rfl,rfl⟩
   case p2=>
    rintro⟨c1,lo,os⟩ st2 ⟨rfl,e⟩;obtain rfl:c1=none:=e;exact hjp _ _ _ _ _ (by lia)
end
abbrev KA:=Array Wq
abbrev SM (α:Type):=StateT Wv Sem α
noncomputable def oe {β γ:Type}(o:Option β)(d:γ)(f:β->γ):γ:=match o with
 | some x=>f x
 | none=>d
noncomputable def ov {γ:Type}(o:Option Bool)(d:γ)(f:Bool->γ):γ:=(sortPriv% PySem.Builtin.countRun.match_1) (λ_=>γ) o f λ_=>d
noncomputable def on {γ:Type}(o:Option Nat)(d:γ)(f:Nat->γ):γ:=(sortPriv% PySem.Builtin.mergeLo.match_1) (λ_=>γ) o f λ_=>d
noncomputable def mLo:KA->KA->SM KA:=sortPriv% PySem.Builtin.mergeLo
noncomputable def mHi:KA->KA->SM KA:=sortPriv% PySem.Builtin.mergeHi
noncomputable def setG:Nat->SM Unit:=sortPriv% PySem.Builtin.setMinGallop
section
variable {prog:Wl}{w:Wt}{A:Wu}{E:Wb->Wd->Prop}{s:Wd}{k:WG}{P:Wq->Prop}
theorem zbR {a:KA}:AllP P a↔∀x∈a.toList,P x:=by
 constructor
 ·intro h x hx;obtain⟨i,hi⟩:=List.mem_iff_getElem?.mp hx;exact h i x (by rw[<- Yx];exact hi)
 ·intro h j x hj;exact h x (Xu (by rw[Yx];exact hj))
theorem AllP.push {a:KA}{x:Wq}(h:AllP P a)(hx:P x):AllP P (a.push x):=zbR.mpr λy hy=>by
 rw[Array.toList_push,XR,Xv]at hy;exact hy.elim (zbR.mp h y) λe=>e▸hx
theorem AllP.app {a b:KA}(h:AllP P a)(g:AllP P b):AllP P (a++b):=zbR.mpr λy hy=>by
 rw[Array.toList_append,XR]at hy;exact hy.elim (zbR.mp h y) (zbR.mp g y)
theorem AllP.ext {a:KA}(h:AllP P a){i j:Nat}:AllP P (a.extract i j):=λk x hk=>by
 rw[Array.getElem?_extract]at hk;split at hk
 ·exact h _ _ hk
 ·cases hk
theorem AllP.rev {a:KA}(h:AllP P a):AllP P a.reverse:=zbR.mpr λy hy=>by
 rw[Array.toList_reverse,List.mem_reverse]at hy;exact zbR.mp h y hy
theorem AllP.one {x:Wq}(h:P x):AllP P #[x]:=zbR.mpr λy hy=>by rw[Xv.mp hy];exact h
structure Wk (k:WG)(P:Wq->Prop)(n:Nat)(pd:Array (Nat×Nat×Nat))(st:Wv):Prop where
 kind:kindOf st=k
 all:AllP P (Wp st)
 size:(Wp st).size=n
 fail:W7 st=none
 pend:Ws st=pd
variable {n:Nat}{pd:Array (Nat×Nat×Nat)}{st:Wv}{γ β τ:Type}{W:Wv->Prop}
theorem eP {a:KA}{i:Nat}{f:Wq->SM β}{Q:β->Wv->Prop}(h:AllP P a)(hi:i<a.size)(hk:∀x,P x->wpS (Wh prog w) A E s (f x) Q st):wpS (Wh prog w) A E s (Vh a i >>= f) Q st:=
 Wj (zhv (getElem?_pos a i hi) (hk _ (h.at hi)))
theorem cP (C:CmpW prog w A E s k P){x y:Wq}{f:Option Bool->SM β}{Q:β->Wv->Prop}(h:Wk k P n pd st)(hx:P x)(hy:P y)(hk:∀v:Bool,wpS (Wh prog w) A E s (f (some v)) Q st):wpS (Wh prog w) A E s (lt' x y >>= f) Q st:=
 Wj (C.run hx hy h.kind hk)
theorem gP (C:CmpW prog w A E s k P){l:Bool}{key:Wq}{a:KA}{b m h:Nat}{f:Option Nat->SM β}{Q:β->Wv->Prop}(hw:Wk k P n pd st)(hP:AllP P a)(hk:P key)(hh:h<m)(hn:b+m<=a.size)(hq:∀r,r<=m->wpS (Wh prog w) A E s (f (some r)) Q st):wpS (Wh prog w) A E s (gal l key a b m h >>= f) Q st:=
 Wj (galW C hh hn hP hk hw.kind hq)
theorem sP {g:Nat}{f:Unit->SM β}{Q:β->Wv->Prop}(h:Wk k P n pd st)(hk:∀st,Wk k P n pd st->wpS (Wh prog w) A E s (f ()) Q st):wpS (Wh prog w) A E s (setG g >>= f) Q st:=
 Wj (WT (hk _ ⟨h.kind,h.all,h.size,h.fail,h.pend⟩))
def Rp (W:Wv->Prop)(D J:γ->Prop)(r:ForInStep γ)(st:Wv):Prop:=W st/\match r with
 | .done c=>D c
 | .yield c=>J c
theorem wpR {a b:Nat}(J:Nat->γ->Prop)(D:γ->Prop){body:Nat->γ->SM (ForInStep γ)}{f:γ->SM β}{Q:β->Wv->Prop}{c:γ}(h:W st)(h0:J a c)(he:∀c,J (max a b) c->D c)
  (hb:∀x c st,W st->a<=x->x<b->J x c->wpS (Wh prog w) A E s (body x c) (Rp W D (J (x+1))) st) (hk:∀c st,W st->D c->wpS (Wh prog w) A E s (f c) Q st):wpS (Wh prog w) A E s (forIn [a:b] c body >>= f) Q st:=by
 refine Wj (Vc (WM (I:=λx c st=>W st/\J x c) (Q:=λc st=>W st/\D c) (λx c st h1 h2 h3=>Vc (hb x c st h3.1 h1 h2 h3.2) λr st h4=>?_) (λc st h3=>⟨h3.1,he c h3.2⟩) ⟨h,h0⟩) λc st h=>hk c st h.1 h.2);cases r with
 | done c=>exact h4
 | yield c=>exact h4
def Dn (P:Wq->Prop)(Y:Option KA×τ->Prop)(c:Option KA×τ):Prop:=(∃o,c.1=some o/\AllP P o)\/Y c
variable {Y J:Option KA×τ->Prop}{r:KA}{t:τ}
theorem rS (h:W st)(hr:AllP P r):wpS (Wh prog w) A E s (pure (.done (some r,t))) (Rp W (Dn P Y) J) st:=Wm ⟨h,.inl ⟨r,rfl,hr⟩⟩
theorem rtW {c:Prop} [Decidable c] {f:SM (ForInStep (Option KA×τ))}(h:W st)(hr:AllP P r)(hk:¬ c->wpS (Wh prog w) A E s f (Rp W (Dn P Y) J) st):wpS (Wh prog w) A E s (if c then pure (.done (some r,t)) else f) (Rp W (Dn P Y) J) st:=
 zav (λ_=>rS h hr) hk
noncomputable def en (c d:Prop) [Decidable c] [Decidable d] (r:KA)(t:τ):SM (ForInStep (Option KA×τ)):=if c then pure (.done (some r,t)) else if d then pure (.done (none,t)) else pure (.yield (none,t))
theorem enW {c d:Prop} [Decidable c] [Decidable d] (h:W st)(hr:AllP P r)(hy:¬ c->Y (none,t)/\J (none,t)):wpS (Wh prog w) A E s (en c d r t) (Rp W (Dn P Y) J) st:=
 rtW h hr λhc=>zav (λ_=>Wm ⟨h,.inr (hy hc).1⟩) λ_=>Wm ⟨h,(hy hc).2⟩
theorem eqb {m n:Nat}(h:¬ (m == n)=true):m≠n:=λe=>h (beq_iff_eq.mpr e)
end
abbrev S4 (τ:Type):=Option KA×KA×Nat×Nat×τ
section
variable (a b:KA)
noncomputable def loD (o:KA)(i j:Nat):KA:=o++a.extract i a.size++b.extract j b.size
noncomputable def loE (o:KA)(i j:Nat):KA:=o++b.extract j b.size++a.extract i a.size
noncomputable def lo1 (g:Nat)(o:KA)(i j p q:Nat):SM (ForInStep (S4 (Nat×Nat))):=Vh b j >>= λy=>Vh a i >>= λx=>lt' y x >>= λv=>ov v (pure (.done (some (loD a b o i j),o,i,j,p,q))) λv=>if v=true
 then Vh b j >>= λy=>en ((j+1 == b.size)=true) (q+1>=g) (loD a b (o.push y) i (j+1)) (o.push y,i,j+1,0,q+1)
 else Vh a i >>= λy=>en ((i+1+1 == a.size)=true) (p+1>=g) (loE a b (o.push y) (i+1) j) (o.push y,i+1,j,p+1,0)
noncomputable def lo2 (g k i l:Nat)(o:KA)(j:Nat):SM (ForInStep (S4 (Nat×Nat×Nat))):=Vh a i >>= λx=>en ((i+1+1 == a.size)=true) ((decide (k<7)&&decide (l<7))=true) (loE a b (o.push x) (i+1) j) (o.push x,i+1,j,g,k,l)
noncomputable def lo3 (g k:Nat)(o:KA)(i j l:Nat):SM (ForInStep (S4 (Nat×Nat×Nat))):=if l > 0 then
  if (j+l == b.size)=true then pure (.done (some (loD a b (o++b.extract j (j+l)) i (j+l)),o++b.extract j (j+l),i,j+l,g,k,l)) else lo2 a b g k i l (o++b.extract j (j+l)) (j+l)
 else lo2 a b g k i l o j
noncomputable def lo4 (j q g k:Nat)(o:KA)(i:Nat):SM (ForInStep (S4 (Nat×Nat×Nat))):=if (j == b.size)=true then pure (.done (some (loD a b o i j),o,i,j,g,k,q)) else Vh a i >>= λx=>gal true x b j (b.size-j) 0 >>= λv=>on v (pure (.done (some (loD a b o i j),o,i,j,g,k,q))) (lo3 a b g k o i j)
noncomputable def lo5 (j q g k:Nat)(o:KA)(i:Nat):SM (ForInStep (S4 (Nat×Nat×Nat))):=Vh b j >>= λy=>lo4 a b (j+1) q g k (o.push y) i
noncomputable def lo6 (o:KA)(i j q g k:Nat):SM (ForInStep (S4 (Nat×Nat×Nat))):=if k > 0 then
  if (i+k+1 == a.size)=true then pure (.done (some (loE a b (o++a.extract i (i+k)) (i+k) j),o++a.extract i (i+k),i+k,j,g,k,q))
  else if (i+k == a.size)=true then pure (.done (some (loD a b (o++a.extract i (i+k)) (i+k) j),o++a.extract i (i+k),i+k,j,g,k,q))
  else lo5 a b j q g k (o++a.extract i (i+k)) (i+k)
 else lo5 a b j q g k o i
noncomputable def lo7 (o:KA)(i j p q g:Nat):SM (ForInStep (S4 (Nat×Nat×Nat))):=setG g >>= λ_=>Vh b j >>= λy=>gal false y a i (a.size-i) 0 >>= λv=>on v (pure (.done (some (loD a b o i j),o,i,j,g,p,q))) (lo6 a b o i j q g)
noncomputable def lo8 (c:S4 (Nat×Nat×Nat)):SM (ForInStep (S4 Nat)):=oe c.1 (setG (c.2.2.2.2.1+1) >>= λ_=>pure (.yield (none,c.2.1,c.2.2.1,c.2.2.2.1,c.2.2.2.2.1+1))) λr=>pure (.done (some r,c.2.1,c.2.2.1,c.2.2.2.1,c.2.2.2.2.1))
noncomputable def lo9 (o:KA)(i j g p q:Nat):SM (ForInStep (S4 Nat)):=liftM (rule "list.sort.gallop") >>= λ_=>forIn [0:a.size+b.size] ((none,o,i,j,g+1,p,q):S4 (Nat×Nat×Nat)) (λ_ c=>if c.2.2.2.2.1 > 1 then lo7 a b c.2.1 c.2.2.1 c.2.2.2.1 c.2.2.2.2.2.1 c.2.2.2.2.2.2 (c.2.2.2.2.1-1) else lo7 a b c.2.1 c.2.2.1 c.2.2.2.1 c.2.2.2.2.2.1 c.2.2.2.2.2.2 c.2.2.2.2.1) >>= lo8
noncomputable def lo10 (o:KA)(i j g:Nat):SM (ForInStep (S4 Nat)):=forIn [0:a.size+b.size] ((none,o,i,j,0,0):S4 (Nat×Nat)) (λ_ c=>lo1 a b g c.2.1 c.2.2.1 c.2.2.2.1 c.2.2.2.2.1 c.2.2.2.2.2) >>= λc=>oe c.1 (lo9 a b c.2.1 c.2.2.1 c.2.2.2.1 g c.2.2.2.2.1 c.2.2.2.2.2) λr=>pure (.done (some r,c.2.1,c.2.2.1,c.2.2.2.1,g))
noncomputable def lo (a b:KA):SM KA:=liftM (rule "list.sort.merge-lo") >>= λ_=>Vh b 0 >>= λy=>if (1 == b.size)=true then pure (loD a b #[y] 0 1) else if (0+1 == a.size)=true then pure (loE a b #[y] 0 1)
 else get >>= λs=>forIn [0:a.size+b.size] ((none,#[y],0,1,gallopOf s):S4 Nat) (λ_ c=>lo10 a b c.2.1 c.2.2.1 c.2.2.2.1 c.2.2.2.2) >>= λc=>oe c.1 (liftM (unsupported "internal:list.sort.merge-bound" : Sem KA)) pure
end
end Sw
set_option maxHeartbeats 400000
namespace Sw
open PySem PyProof.Rows Srt
theorem zvg:mLo=lo:=rfl
section
variable {prog:Wl}{w:Wt}{A:Wu}{E:Wb->Wd->Prop}{s:Wd}{k:WG}{P:Wq->Prop}{n:Nat}{pd:Array (Nat×Nat×Nat)}{st:Wv}{β τ:Type}{a b:KA}{o:KA}{i j m z g p q l:Nat}
theorem loDa (ha:AllP P a)(hb:AllP P b)(h:AllP P o):AllP P (loD a b o i j):=(h.app ha.ext).app hb.ext
theorem loEa (ha:AllP P a)(hb:AllP P b)(h:AllP P o):AllP P (loE a b o i j):=(h.app hb.ext).app ha.ext
structure Am (P:Wq->Prop)(a b:KA)(m:Nat)(c:S4 τ):Prop where
 r:c.1=none
 o:AllP P c.2.1
 i:c.2.2.1+1<a.size
 j:c.2.2.2.1<b.size
 m:m<=c.2.2.1+c.2.2.2.1
abbrev Po (τ:Type)(k:WG)(P:Wq->Prop)(n:Nat)(pd:Array (Nat×Nat×Nat))(a b:KA)(z m:Nat):ForInStep (S4 τ)->Wv->Prop:=Rp (Wk k P n pd) (Dn P (Am P a b z)) (Am P a b m)
theorem lo1W (C:CmpW prog w A E s k P)(ha:AllP P a)(hb:AllP P b)(h:Wk k P n pd st)(ho:AllP P o)(hi:i+1<a.size)(hj:j<b.size)(hm:m<=i+j)(hz:z<=m+1):wpS (Wh prog w) A E s (lo1 a b g o i j p q) (Po _ k P n pd a b z (m+1)) st:=
 have hi':=Nat.lt_of_succ_lt hi
 eP hb hj λy hy=>eP ha hi' λx hx=>cP C h hy hx λv=>zav
  (λ_=>eP hb hj λy hy=>enW h (loDa ha hb (ho.push hy)) λe=>have e:=eqb e;⟨⟨rfl,ho.push hy,hi,by show j+1<b.size;lia,by show z<=i+(j+1);lia⟩,⟨rfl,ho.push hy,hi,by show j+1<b.size;lia,Nat.succ_le_succ hm⟩⟩)
  (λ_=>eP ha hi' λy hy=>enW h (loEa ha hb (ho.push hy)) λe=>have e:=eqb e;⟨⟨rfl,ho.push hy,by show i+1+1<a.size;lia,hj,by show z<=i+1+j;lia⟩,⟨rfl,ho.push hy,by show i+1+1<a.size;lia,hj,by show m+1<=i+1+j;lia⟩⟩)
theorem lo2W (ha:AllP P a)(hb:AllP P b)(h:Wk k P n pd st)(ho:AllP P o)(hi:i+1<a.size)(hj:j<b.size)(hm:m<=i+j)(hz:z<=m+1):wpS (Wh prog w) A E s (lo2 a b g p i l o j) (Po _ k P n pd a b z (m+1)) st:=
 eP ha (Nat.lt_of_succ_lt hi) λy hy=>enW h (loEa ha hb (ho.push hy)) λe=>have e:=eqb e;⟨⟨rfl,ho.push hy,by show i+1+1<a.size;lia,hj,by show z<=i+1+j;lia⟩,⟨rfl,ho.push hy,by show i+1+1<a.size;lia,hj,by show m+1<=i+1+j;lia⟩⟩
theorem lo4W (C:CmpW prog w A E s k P)(ha:AllP P a)(hb:AllP P b)(h:Wk k P n pd st)(ho:AllP P o)(hi:i+1<a.size)(hj:j<=b.size)(hm:m<=i+j)(hz:z<=m+1):wpS (Wh prog w) A E s (lo4 a b j q g p o i) (Po _ k P n pd a b z (m+1)) st:=
 rtW h (loDa ha hb ho) λe=>have e:=eqb e;eP ha (Nat.lt_of_succ_lt hi) λx hx=>gP C h hb hx (by lia) (by lia) λr hr=>zav
  (λ_=>rtW h (loDa ha hb (ho.app hb.ext)) λe=>have e:=eqb e;lo2W ha hb h (ho.app hb.ext) hi (by lia) (by lia) hz)
  λ_=>lo2W ha hb h ho hi (by lia) hm hz
theorem lo6W (C:CmpW prog w A E s k P)(ha:AllP P a)(hb:AllP P b)(h:Wk k P n pd st)(ho:AllP P o)(hi:i+1<a.size)(hj:j<b.size)(hm:m<=i+j)(hz:z<=m+1)(hl:i+l<=a.size):wpS (Wh prog w) A E s (lo6 a b o i j q g l) (Po _ k P n pd a b z (m+1)) st:=
 zav (λ_=>rtW h (loEa ha hb (ho.app ha.ext)) λe=>have e:=eqb e;rtW h (loDa ha hb (ho.app ha.ext)) λf=>have f:=eqb f;eP hb hj λy hy=>lo4W C ha hb h ((ho.app ha.ext).push hy) (by lia) hj (by lia) hz)
  λ_=>eP hb hj λy hy=>lo4W C ha hb h (ho.push hy) hi hj (by lia) hz
theorem lo7W (C:CmpW prog w A E s k P)(ha:AllP P a)(hb:AllP P b)(h:Wk k P n pd st)(ho:AllP P o)(hi:i+1<a.size)(hj:j<b.size)(hm:m<=i+j)(hz:z<=m+1):wpS (Wh prog w) A E s (lo7 a b o i j p q g) (Po _ k P n pd a b z (m+1)) st:=
 sP h λst h=>eP hb hj λy hy=>gP C h ha hy (by lia) (by lia) λr hr=>lo6W C ha hb h ho hi hj hm hz (by lia)
theorem Am.no {c:S4 τ}(h:Am P a b (m+max 0 (a.size+b.size)) c):False:=by
 have h1:=h.i;have h2:=h.j;have h3:=h.m;lia
theorem mLoW (C:CmpW prog w A E s k P){Q:KA->Wv->Prop}(h:Wk k P n pd st)(ha0:0<a.size)(hb0:0<b.size)(ha:AllP P a)(hb:AllP P b)(hQ:∀o st,AllP P o->Wk k P n pd st->Q o st):wpS (Wh prog w) A E s (mLo a b) Q st:=by
 rw[zvg];refine Wj (Vo (WL ⟨rfl,?_⟩));refine eP hb hb0 λy hy=>zav (λ_=>Wm (hQ _ _ (loDa ha hb (.one hy)) h)) λe=>have e:=eqb e;zav (λ_=>Wm (hQ _ _ (loEa ha hb (.one hy)) h)) λf=>have f:=eqb f;Wj (Va ?_);refine wpR (λx=>Am P a b (1+x)) (Dn P λ_=>False) h ⟨rfl,.one hy,by show 0+1<a.size;lia,by show 1<b.size;lia,Xf 1⟩ (λc h=>h.no.elim) (λx c st h _ _ m=>?_) λc st h hc=>?_
 ·refine wpR (λy=>Am P a b (1+x+y)) (Dn P (Am P a b (1+x+1))) h ⟨rfl,m.o,m.i,m.j,m.m⟩ (λc h=>h.no.elim) (λy c st h _ _ m=>lo1W C ha hb h m.o m.i m.j m.m (Nat.succ_le_succ (Nat.le_add_right _ _))) λc st h hc=>?_;obtain⟨c,d⟩:=c;rcases hc with ⟨o,rfl,ho⟩ | m
  ·exact rS h ho
  ·obtain rfl:c=none:=m.r;refine Wj (Vo (WL ⟨rfl,?_⟩));refine wpR (λy=>Am P a b (1+x+1+y)) (Dn P (Am P a b (1+x+1))) h ⟨rfl,m.o,m.i,m.j,m.m⟩ (λc h=>h.no.elim) (λy c st h _ _ m=>zav (λ_=>lo7W C ha hb h m.o m.i m.j m.m (Xx (Nat.le_add_right _ _) (Yu _))) λ_=>lo7W C ha hb h m.o m.i m.j m.m (Xx (Nat.le_add_right _ _) (Yu _))) λc st h hc=>?_;obtain⟨c,d⟩:=c;rcases hc with ⟨o,rfl,ho⟩ | m
   ·exact rS h ho
   ·obtain rfl:c=none:=m.r;exact sP h λst h=>Wm ⟨h,rfl,m.o,m.i,m.j,m.m⟩
 ·obtain⟨c,d⟩:=c;rcases hc with ⟨o,rfl,ho⟩ | hf
  ·exact Wm (hQ _ _ ho h)
  ·exact hf.elim
end
end Sw
set_option maxHeartbeats 400000
namespace Sw
open PySem PyProof.Rows Srt
abbrev S5 (τ:Type):=Option KA×Nat×Nat×KA×τ
section
variable (a b:KA)
noncomputable def hiD (o:KA)(i j:Nat):KA:=a.extract 0 i++b.extract 0 j++o.reverse
noncomputable def hiE (o:KA)(i j:Nat):KA:=b.extract 0 j++a.extract 0 i++o.reverse
noncomputable def hi1 (g i j:Nat)(o:KA)(p q:Nat):SM (ForInStep (S5 (Nat×Nat))):=Vh b (j-1) >>= λy=>Vh a (i-1) >>= λx=>lt' y x >>= λv=>ov v (pure (.done (some (hiD a b o i j),i,j,o,p,q))) λv=>if v=true
 then Vh a (i-1) >>= λy=>en ((i-1 == 0)=true) (p+1>=g) (hiD a b (o.push y) (i-1) j) (i-1,j,o.push y,p+1,0)
 else Vh b (j-1) >>= λy=>en ((j-1 == 1)=true) (q+1>=g) (hiE a b (o.push y) i (j-1)) (i,j-1,o.push y,0,q+1)
noncomputable def hi2 (g k i l j:Nat)(o:KA):SM (ForInStep (S5 (Nat×Nat×Nat))):=Vh a (i-1) >>= λx=>en ((i-1 == 0)=true) ((decide (k<7)&&decide (l<7))=true) (hiD a b (o.push x) (i-1) j) (i-1,j,o.push x,g,k,l)
noncomputable def hi3 (g k:Nat)(o:KA)(i j u:Nat):SM (ForInStep (S5 (Nat×Nat×Nat))):=if j-u > 0 then
  if (u == 1)=true then pure (.done (some (hiE a b (o++(b.extract u j).reverse) i u),i,u,o++(b.extract u j).reverse,g,k,j-u))
  else if (u == 0)=true then pure (.done (some (hiD a b (o++(b.extract u j).reverse) i u),i,u,o++(b.extract u j).reverse,g,k,j-u))
  else hi2 a b g k i (j-u) u (o++(b.extract u j).reverse)
 else hi2 a b g k i (j-u) j o
noncomputable def hi4 (j q g k:Nat)(o:KA)(i:Nat):SM (ForInStep (S5 (Nat×Nat×Nat))):=if (j == 1)=true then pure (.done (some (hiE a b o i j),i,j,o,g,k,q)) else Vh a (i-1) >>= λx=>gal true x b 0 j (j-1) >>= λv=>on v (pure (.done (some (hiD a b o i j),i,j,o,g,k,q))) (hi3 a b g k o i j)
noncomputable def hi5 (j q g k i:Nat)(o:KA):SM (ForInStep (S5 (Nat×Nat×Nat))):=Vh b (j-1) >>= λy=>hi4 a b (j-1) q g k (o.push y) i
noncomputable def hi6 (i j:Nat)(o:KA)(q g t:Nat):SM (ForInStep (S5 (Nat×Nat×Nat))):=if i-t > 0 then
  if (t == 0)=true then pure (.done (some (hiD a b (o++(a.extract t i).reverse) t j),t,j,o++(a.extract t i).reverse,g,i-t,q))
  else hi5 a b j q g (i-t) t (o++(a.extract t i).reverse)
 else hi5 a b j q g (i-t) i o
noncomputable def hi7 (i j:Nat)(o:KA)(p q g:Nat):SM (ForInStep (S5 (Nat×Nat×Nat))):=setG g >>= λ_=>Vh b (j-1) >>= λy=>gal false y a 0 i (i-1) >>= λv=>on v (pure (.done (some (hiD a b o i j),i,j,o,g,p,q))) (hi6 a b i j o q g)
noncomputable def hi8 (c:S5 (Nat×Nat×Nat)):SM (ForInStep (S5 Nat)):=oe c.1 (setG (c.2.2.2.2.1+1) >>= λ_=>pure (.yield (none,c.2.1,c.2.2.1,c.2.2.2.1,c.2.2.2.2.1+1))) λr=>pure (.done (some r,c.2.1,c.2.2.1,c.2.2.2.1,c.2.2.2.2.1))
noncomputable def hi9 (i j:Nat)(o:KA)(g p q:Nat):SM (ForInStep (S5 Nat)):=liftM (rule "list.sort.gallop") >>= λ_=>forIn [0:a.size+b.size] ((none,i,j,o,g+1,p,q):S5 (Nat×Nat×Nat)) (λ_ c=>if c.2.2.2.2.1 > 1 then hi7 a b c.2.1 c.2.2.1 c.2.2.2.1 c.2.2.2.2.2.1 c.2.2.2.2.2.2 (c.2.2.2.2.1-1) else hi7 a b c.2.1 c.2.2.1 c.2.2.2.1 c.2.2.2.2.2.1 c.2.2.2.2.2.2 c.2.2.2.2.1) >>= hi8
noncomputable def hi10 (i j:Nat)(o:KA)(g:Nat):SM (ForInStep (S5 Nat)):=forIn [0:a.size+b.size] ((none,i,j,o,0,0):S5 (Nat×Nat)) (λ_ c=>hi1 a b g c.2.1 c.2.2.1 c.2.2.2.1 c.2.2.2.2.1 c.2.2.2.2.2) >>= λc=>oe c.1 (hi9 a b c.2.1 c.2.2.1 c.2.2.2.1 g c.2.2.2.2.1 c.2.2.2.2.2) λr=>pure (.done (some r,c.2.1,c.2.2.1,c.2.2.2.1,g))
noncomputable def hi (a b:KA):SM KA:=liftM (rule "list.sort.merge-hi") >>= λ_=>Vh a (a.size-1) >>= λy=>if (a.size-1 == 0)=true then pure (hiD a b #[y] (a.size-1) b.size) else if (b.size == 1)=true then pure (hiE a b #[y] (a.size-1) b.size)
 else get >>= λs=>forIn [0:a.size+b.size] ((none,a.size-1,b.size,#[y],gallopOf s):S5 Nat) (λ_ c=>hi10 a b c.2.1 c.2.2.1 c.2.2.2.1 c.2.2.2.2) >>= λc=>oe c.1 (liftM (unsupported "internal:list.sort.merge-bound" : Sem KA)) pure
end
theorem zvh:mHi=hi:=rfl
section
variable {prog:Wl}{w:Wt}{A:Wu}{E:Wb->Wd->Prop}{s:Wd}{k:WG}{P:Wq->Prop}{n:Nat}{pd:Array (Nat×Nat×Nat)}{st:Wv}{β τ:Type}{a b:KA}{o:KA}{i j m z g p q l:Nat}
theorem hiDa (ha:AllP P a)(hb:AllP P b)(h:AllP P o):AllP P (hiD a b o i j):=(ha.ext.app hb.ext).app h.rev
theorem hiEa (ha:AllP P a)(hb:AllP P b)(h:AllP P o):AllP P (hiE a b o i j):=(hb.ext.app ha.ext).app h.rev
structure Bm (P:Wq->Prop)(a b:KA)(m:Nat)(c:S5 τ):Prop where
 r:c.1=none
 i:0<c.2.1/\c.2.1<=a.size
 j:1<c.2.2.1/\c.2.2.1<=b.size
 o:AllP P c.2.2.2.1
 m:m+(c.2.1+c.2.2.1)<=a.size+b.size
abbrev Ph (τ:Type)(k:WG)(P:Wq->Prop)(n:Nat)(pd:Array (Nat×Nat×Nat))(a b:KA)(z m:Nat):ForInStep (S5 τ)->Wv->Prop:=Rp (Wk k P n pd) (Dn P (Bm P a b z)) (Bm P a b m)
theorem Bm.two {c:S5 τ}(h:Bm P a b m c)(hz:z<=m):Bm P a b z c/\Bm P a b m c:=⟨⟨h.r,h.i,h.j,h.o,Xx (Nat.add_le_add_right hz _) h.m⟩,h⟩
theorem hi1W (C:CmpW prog w A E s k P)(ha:AllP P a)(hb:AllP P b)(h:Wk k P n pd st)(ho:AllP P o)(hi:0<i/\i<=a.size)(hj:1<j/\j<=b.size)(hm:m+(i+j)<=a.size+b.size)(hz:z<=m+1):wpS (Wh prog w) A E s (hi1 a b g i j o p q) (Ph _ k P n pd a b z (m+1)) st:=
 have hi':i-1<a.size:=by lia
 have hj':j-1<b.size:=by lia
 eP hb hj' λy hy=>eP ha hi' λx hx=>cP C h hy hx λv=>zav
  (λ_=>eP ha hi' λy hy=>enW h (hiDa ha hb (ho.push hy)) λe=>have e:=eqb e;Bm.two ⟨rfl,by show 0<i-1/\i-1<=a.size;lia,hj,ho.push hy,by show m+1+(i-1+j)<=a.size+b.size;lia⟩ hz)
  (λ_=>eP hb hj' λy hy=>enW h (hiEa ha hb (ho.push hy)) λe=>have e:=eqb e;Bm.two ⟨rfl,hi,by show 1<j-1/\j-1<=b.size;lia,ho.push hy,by show m+1+(i+(j-1))<=a.size+b.size;lia⟩ hz)
theorem hi2W (ha:AllP P a)(hb:AllP P b)(h:Wk k P n pd st)(ho:AllP P o)(hi:0<i/\i<=a.size)(hj:1<j/\j<=b.size)(hm:m+(i+j)<=a.size+b.size)(hz:z<=m+1):wpS (Wh prog w) A E s (hi2 a b g p i l j o) (Ph _ k P n pd a b z (m+1)) st:=
 eP ha (show i-1<a.size by lia) λy hy=>enW h (hiDa ha hb (ho.push hy)) λe=>have e:=eqb e;Bm.two ⟨rfl,by show 0<i-1/\i-1<=a.size;lia,hj,ho.push hy,by show m+1+(i-1+j)<=a.size+b.size;lia⟩ hz
theorem hi4W (C:CmpW prog w A E s k P)(ha:AllP P a)(hb:AllP P b)(h:Wk k P n pd st)(ho:AllP P o)(hi:0<i/\i<=a.size)(hj:0<j/\j<=b.size)(hm:m+(i+j)<=a.size+b.size)(hz:z<=m+1):wpS (Wh prog w) A E s (hi4 a b j q g p o i) (Ph _ k P n pd a b z (m+1)) st:=
 rtW h (hiEa ha hb ho) λe=>have e:=eqb e;eP ha (show i-1<a.size by lia) λx hx=>gP C h hb hx (by lia) (by lia) λr hr=>zav
  (λ_=>rtW h (hiEa ha hb (ho.app hb.ext.rev)) λe=>have e:=eqb e;rtW h (hiDa ha hb (ho.app hb.ext.rev)) λf=>have f:=eqb f;hi2W ha hb h (ho.app hb.ext.rev) hi (by lia) (by lia) hz)
  λ_=>hi2W ha hb h ho hi (by lia) hm hz
theorem hi6W (C:CmpW prog w A E s k P)(ha:AllP P a)(hb:AllP P b)(h:Wk k P n pd st)(ho:AllP P o)(hi:0<i/\i<=a.size)(hj:1<j/\j<=b.size)(hm:m+(i+j)<=a.size+b.size)(hz:z<=m+1)(hl:l<=i):wpS (Wh prog w) A E s (hi6 a b i j o q g l) (Ph _ k P n pd a b z (m+1)) st:=
 have hj':j-1<b.size:=by lia
 have hj2:0<j-1/\j-1<=b.size:=by lia
 zav (λ_=>rtW h (hiDa ha hb (ho.app ha.ext.rev)) λe=>have e:=eqb e;eP hb hj' λy hy=>hi4W C ha hb h ((ho.app ha.ext.rev).push hy) (by lia) hj2 (by lia) hz)
  λ_=>eP hb hj' λy hy=>hi4W C ha hb h (ho.push hy) hi hj2 (by lia) hz
theorem hi7W (C:CmpW prog w A E s k P)(ha:AllP P a)(hb:AllP P b)(h:Wk k P n pd st)(ho:AllP P o)(hi:0<i/\i<=a.size)(hj:1<j/\j<=b.size)(hm:m+(i+j)<=a.size+b.size)(hz:z<=m+1):wpS (Wh prog w) A E s (hi7 a b i j o p q g) (Ph _ k P n pd a b z (m+1)) st:=
 sP h λst h=>eP hb (show j-1<b.size by lia) λy hy=>gP C h ha hy (by lia) (by lia) λr hr=>hi6W C ha hb h ho hi hj hm hz hr
theorem Bm.no {c:S5 τ}(h:Bm P a b (m+max 0 (a.size+b.size)) c):False:=by
 have h1:=h.i;have h3:=h.m;lia
theorem mHiW (C:CmpW prog w A E s k P){Q:KA->Wv->Prop}(h:Wk k P n pd st)(ha0:0<a.size)(hb0:0<b.size)(ha:AllP P a)(hb:AllP P b)(hQ:∀o st,AllP P o->Wk k P n pd st->Q o st):wpS (Wh prog w) A E s (mHi a b) Q st:=by
 rw[zvh];refine Wj (Vo (WL ⟨rfl,?_⟩));refine eP ha (show a.size-1<a.size by lia) λy hy=>zav (λ_=>Wm (hQ _ _ (hiDa ha hb (.one hy)) h)) λe=>have e:=eqb e;zav (λ_=>Wm (hQ _ _ (hiEa ha hb (.one hy)) h)) λf=>have f:=eqb f;Wj (Va ?_);refine wpR (λx=>Bm P a b (1+x)) (Dn P λ_=>False) h ⟨rfl,by show 0<a.size-1/\a.size-1<=a.size;lia,by show 1<b.size/\b.size<=b.size;lia,.one hy,by show 1+0+(a.size-1+b.size)<=a.size+b.size;lia⟩ (λc h=>h.no.elim) (λx c st h _ _ m=>?_) λc st h hc=>?_
 ·refine wpR (λy=>Bm P a b (1+x+y)) (Dn P (Bm P a b (1+x+1))) h ⟨rfl,m.i,m.j,m.o,m.m⟩ (λc h=>h.no.elim) (λy c st h _ _ m=>hi1W C ha hb h m.o m.i m.j m.m (Nat.succ_le_succ (Nat.le_add_right _ _))) λc st h hc=>?_;obtain⟨c,d⟩:=c;rcases hc with ⟨o,rfl,ho⟩ | m
  ·exact rS h ho
  ·obtain rfl:c=none:=m.r;refine Wj (Vo (WL ⟨rfl,?_⟩));refine wpR (λy=>Bm P a b (1+x+1+y)) (Dn P (Bm P a b (1+x+1))) h ⟨rfl,m.i,m.j,m.o,m.m⟩ (λc h=>h.no.elim) (λy c st h _ _ m=>zav (λ_=>hi7W C ha hb h m.o m.i m.j m.m (Xx (Nat.le_add_right _ _) (Yu _))) λ_=>hi7W C ha hb h m.o m.i m.j m.m (Xx (Nat.le_add_right _ _) (Yu _))) λc st h hc=>?_;obtain⟨c,d⟩:=c;rcases hc with ⟨o,rfl,ho⟩ | m
   ·exact rS h ho
   ·obtain rfl:c=none:=m.r;exact sP h λst h=>Wm ⟨h,rfl,m.i,m.j,m.o,m.m⟩
 ·obtain⟨c,d⟩:=c;rcases hc with ⟨o,rfl,ho⟩ | hf
  ·exact Wm (hQ _ _ ho h)
  ·exact hf.elim
end
end Sw
set_option maxHeartbeats 400000
namespace Sw
open PySem PyProof.Rows Srt
noncomputable def mAt:Nat->SM Bool:=sortPriv% PySem.Builtin.mergeAt
abbrev T3:=Nat×Nat×Nat
noncomputable def op {γ:Type}(x:Option T3×Option T3)(d:γ)(f:Nat->Nat->Nat->Nat->Nat->γ):γ:=(sortPriv% PySem.Builtin.mergeAt.match_5) (λ_=>γ) x (λa b c d e _=>f a b c d e) λ_=>d
noncomputable def at1 (p:Nat)(m:KA):SM Bool:=(modify λst=>WN st (m.toList.zipIdx.foldl (λa x=>(sortPriv% PySem.Builtin.mergeAt.match_1) (λ_=>KA) x λq j=>a.setIfInBounds (p+j) q) (Wp st))) >>= λ_=>get >>= λst=>pure (W7 st).isNone
noncomputable def at2 (a:KA)(sb sa na nb:Nat):SM Bool:=if (nb == 0)=true then pure true else if na<=nb then mLo (a.extract sa sb) (a.extract sb (sb+nb)) >>= at1 sa else mHi (a.extract sa sb) (a.extract sb (sb+nb)) >>= at1 sa
noncomputable def at3 (a:KA)(sb nb sa na:Nat):SM Bool:=if (na == 0)=true then pure true else Vh a (sa+na-1) >>= λx=>gal true x a sb nb (nb-1) >>= λv=>on v (pure false) (at2 a sb sa na)
noncomputable def at4 (i:Nat)(st:Wv)(sa na pw sb nb:Nat):SM Bool:=set (SortSt.mk' (kindOf st) (Wp st) (((Ws st).setIfInBounds i (sa,na+nb,pw)).eraseIdxIfInBounds (i+1)) (gallopOf st) (W7 st)) >>= λ_=>Vh (Wp st) sb >>= λy=>gal false y (Wp st) sa na 0 >>= λv=>on v (pure false) λk=>at3 (Wp st) sb nb (sa+k) (na-k)
noncomputable def at_ (i:Nat):SM Bool:=get >>= λst=>op ((Ws st)[i]?,(Ws st)[i+1]?) (liftM (unsupported "internal:list.sort.pending" : Sem Bool)) (at4 i st)
theorem zvi:mAt=at_:=rfl
section
variable {prog:Wl}{w:Wt}{A:Wu}{E:Wb->Wd->Prop}{s:Wd}{k:WG}{P:Wq->Prop}{n:Nat}{pd:Array T3}{st:Wv}{β τ:Type}{a b:KA}{i j m:Nat}
theorem ztT {x:Wv}{Q:PUnit->Wv->Prop}(h:Q ⟨⟩ x):wpS (Wh prog w) A E s (set x:StateT Wv Sem PUnit) Q st:=by
 unfold wpS;rw[StateT.run_set];exact Wf ⟨rfl,h⟩
theorem AllP.put (ha:AllP P a){x:Wq}(hx:P x){i:Nat}:AllP P (a.setIfInBounds i x):=λj y h=>by
 rw[Array.getElem?_setIfInBounds]at h;split at h
 ·split at h
  ·cases h;exact hx
  ·cases h
 ·exact ha j y h
theorem zkx {p:Nat}:∀ {l:List (Wq×Nat)}{a:KA},(∀x∈l,P x.1)->AllP P a->AllP P (l.foldl (λa x=>(sortPriv% PySem.Builtin.mergeAt.match_1) (λ_=>KA) x λq j=>a.setIfInBounds (p+j) q) a)/\(l.foldl (λa x=>(sortPriv% PySem.Builtin.mergeAt.match_1) (λ_=>KA) x λq j=>a.setIfInBounds (p+j) q) a).size=a.size
 | [],a,_,h=>⟨h,rfl⟩
 | (x,j)::l,a,hl,h=>by
  have:=zkx (p:=p) (l:=l) (a:=a.setIfInBounds (p+j) x) (λy hy=>hl y (Xi _ hy)) (h.put (hl (x,j) Xh));exact⟨this.1,this.2.trans Array.size_setIfInBounds⟩
theorem at1W {p:Nat}{Q:Bool->Wv->Prop}(h:Wk k P n pd st)(hm:AllP P a)(hQ:∀v st,Wk k P n pd st->Q v st):wpS (Wh prog w) A E s (at1 p a) Q st:=by
 have:=zkx (p:=p) (l:=a.toList.zipIdx) (a:=Wp st) (λx hx=>zbR.mp hm x.1 (List.fst_mem_of_mem_zipIdx hx)) h.all;exact Wj (WT (Wj (Va (Wm (hQ _ _ ⟨h.kind,this.1,this.2.trans h.size,h.fail,h.pend⟩)))))
theorem zky {i j:Nat}(h:j<=a.size)(hi:i<j):0<(a.extract i j).size:=by rw[Array.size_extract];lia
theorem mAtW (C:CmpW prog w A E s k P){sa na pw nb pw2:Nat}{Q:Bool->Wv->Prop}(h:Wk k P n pd st)(h1:pd[i]? = some (sa,na,pw))(h2:pd[i+1]? = some (sa+na,nb,pw2))(hna:0<na)(hnb:0<nb)(hsz:sa+na+nb<=n)
  (hQ:∀v st,Wk k P n ((pd.setIfInBounds i (sa,na+nb,pw)).eraseIdxIfInBounds (i+1)) st->Q v st):wpS (Wh prog w) A E s (mAt i) Q st:=by
 rw[zvi];refine Wj (Va ?_);obtain⟨hk,ha,hn,hf,rfl⟩:=h;subst hn;show wpS _ _ _ _ (op _ _ _) _ _;rw[h1,h2];refine Wj (ztT ?_);have h:=(⟨hk,ha,rfl,hf,rfl⟩:Wk k P (Wp st).size (((Ws st).setIfInBounds i (sa,na+nb,pw)).eraseIdxIfInBounds (i+1)) (SortSt.mk' (kindOf st) (Wp st) (((Ws st).setIfInBounds i (sa,na+nb,pw)).eraseIdxIfInBounds (i+1)) (gallopOf st) (W7 st)));refine eP ha (show sa+na<(Wp st).size by lia) λy hy=>gP C h ha hy hna (by lia) λk1 c1=>zav (λ_=>Wm (hQ _ _ h)) λe1=>have e1:=eqb e1;?_;refine eP ha (by lia) λx hx=>gP C h ha hx (by lia) (by lia) λk2 c2=>zav (λ_=>Wm (hQ _ _ h)) λe2=>have e2:=eqb e2;?_;have g1:0<((Wp st).extract (sa+k1) (sa+na)).size:=zky (by lia) (by lia);have g2:0<((Wp st).extract (sa+na) (sa+na+k2)).size:=zky (by lia) (by lia);exact zav (λ_=>Wj (mLoW C h g1 g2 ha.ext ha.ext λo st ho h=>at1W h ho hQ)) λ_=>Wj (mHiW C h g1 g2 ha.ext ha.ext λo st ho h=>at1W h ho hQ)
end
end Sw
set_option maxHeartbeats 400000
namespace Sw
open PySem PyProof.Rows Srt
noncomputable def bin:Nat->Nat->Nat->SM Bool:=sortPriv% PySem.Builtin.binarySort
noncomputable def cnt:Nat->Nat->SM (Option Nat):=sortPriv% PySem.Builtin.countRun
noncomputable def bi1 (lo k l r:Nat):SM (ForInStep (Option Bool×Nat×Nat)):=if l>=r then pure (.done (none,l,r)) else ltAt' (lo+k) (lo+(l+r) / 2) >>= λv=>ov v (pure (.done (some false,l,r))) λv=>if v=true then pure (.yield (none,l,(l+r) / 2)) else pure (.yield (none,(l+r) / 2+1,r))
noncomputable def bi2 (lo k:Nat):SM (ForInStep (Option Bool×Unit)):=forIn [0:k] ((none,0,k):Option Bool×Nat×Nat) (λ_ c=>bi1 lo k c.2.1 c.2.2) >>= λc=>oe c.1 (moveDown' (lo+k) (lo+c.2.1) >>= λ_=>pure (.yield (none,()))) λr=>pure (.done (some r,()))
noncomputable def bi (lo n ok:Nat):SM Bool:=forIn [max ok 1:n] ((none,()):Option Bool×Unit) (λk _=>bi2 lo k) >>= λc=>oe c.1 (pure true) pure
theorem zvj:bin=bi:=rfl
abbrev C2:=Option (Option Nat)×Nat
noncomputable def co1 (lo n:Nat):SM (ForInStep C2):=ltAt' (lo+n) (lo+n-1) >>= λv=>ov v (pure (.done (some none,n))) λv=>if v=true then pure (.done (none,n)) else pure (.yield (none,n+1))
noncomputable def co2 (lo n q:Nat):SM (ForInStep (Option (Option Nat)×Nat×Nat)):=ltAt' (lo+n) (lo+n-1) >>= λv=>ov v (pure (.done (some none,n,q))) λv=>if v=true then(if q > 0 then reverseSlice' (lo+n-(q+1)) (lo+n) >>= λ_=>pure (.yield (none,n+1,0)) else pure (.yield (none,n+1,0))) else ltAt' (lo+n-1) (lo+n) >>= λv=>ov v (pure (.done (some none,n,q))) λv=>if v=true then pure (.done (none,n,q)) else pure (.yield (none,n+1,q+1))
noncomputable def co3 (lo m n:Nat):SM (Option Nat):=reverseSlice' lo (lo+n) >>= λ_=>forIn [n:m] ((none,n):C2) (λ_ c=>co1 lo c.2) >>= λc=>oe c.1 (pure (some c.2)) pure
noncomputable def co4 (lo m n:Nat):SM (Option Nat):=liftM (rule "list.sort.descending-run") >>= λ_=>forIn [n+1:m] ((none,n+1,0):Option (Option Nat)×Nat×Nat) (λ_ c=>co2 lo c.2.1 c.2.2) >>= λc=>oe c.1 (if c.2.2 > 0 then reverseSlice' (lo+c.2.1-(c.2.2+1)) (lo+c.2.1) >>= λ_=>co3 lo m c.2.1 else co3 lo m c.2.1) pure
noncomputable def co5 (lo m n:Nat):SM (Option Nat):=if (n == m)=true then pure (some n) else if n > 1 then ltAt' lo (lo+n-1) >>= λv=>ov v (pure none) λv=>if v=true then pure (some n) else reverseSlice' lo (lo+n) >>= λ_=>co4 lo m n else co4 lo m n
noncomputable def co (lo m:Nat):SM (Option Nat):=forIn [1:m] ((none,1):C2) (λ_ c=>co1 lo c.2) >>= λc=>oe c.1 (co5 lo m c.2) pure
theorem zvk:cnt=co:=rfl
section
variable {prog:Wl}{w:Wt}{A:Wu}{E:Wb->Wd->Prop}{s:Wd}{k:WG}{P:Wq->Prop}{n:Nat}{pd:Array T3}{st:Wv}{β τ:Type}{a b:KA}{i j m lo:Nat}
theorem AllP.perm (h:AllP P a)(hp:b.Perm a):AllP P b:=zbR.mpr λx hx=>zbR.mp h x ((Array.perm_iff_toList_perm.mp hp).mem_iff.mp hx)
theorem Wk.perm (h:Wk k P n pd st)(hp:b.Perm (Wp st)):Wk k P n pd (WN st b):=⟨h.kind,h.all.perm hp,hp.size_eq.trans h.size,h.fail,h.pend⟩
theorem lP (C:CmpW prog w A E s k P){f:Option Bool->SM β}{Q:β->Wv->Prop}(h:Wk k P n pd st)(hi:i<n)(hj:j<n)(hk:∀v:Bool,wpS (Wh prog w) A E s (f (some v)) Q st):wpS (Wh prog w) A E s (ltAt' i j >>= f) Q st:=
 Wj (by
  rw[ltAt'_eq];exact Wj (Va (eP h.all (by rw[h.size];exact hi) λx hx=>eP h.all (by rw[h.size];exact hj) λy hy=>C.run hx hy h.kind hk)))
theorem vP {f:Unit->SM β}{Q:β->Wv->Prop}(h:Wk k P n pd st)(hk:∀st,Wk k P n pd st->wpS (Wh prog w) A E s (f ()) Q st):wpS (Wh prog w) A E s (reverseSlice' i j >>= f) Q st:=
 Wj (WT (hk _ (h.perm (mirror_perm _ _ _ _))))
theorem dP {f:Unit->SM β}{Q:β->Wv->Prop}(h:Wk k P n pd st)(hk:∀st,Wk k P n pd st->wpS (Wh prog w) A E s (f ()) Q st):wpS (Wh prog w) A E s (moveDown' i j >>= f) Q st:=
 Wj (WT (hk _ (h.perm (bubble_perm _ _ _))))
theorem binW (C:CmpW prog w A E s k P){ok:Nat}{Q:Bool->Wv->Prop}(h:Wk k P n pd st)(hm:lo+m<=n)(hQ:∀v st,Wk k P n pd st->Q v st):wpS (Wh prog w) A E s (bin lo m ok) Q st:=by
 rw[zvj];refine wpR (λ_ _=>True) (λ_=>True) h trivial (λ_ _=>trivial) (λx c st h _ hx _=>?_) λc st h _=>?_
 ·refine wpR (λ_ c=>c.2.2<=x) (λ_=>True) h (Xf x) (λ_ _=>trivial) (λy c st h _ _ hc=>?_) λc st h _=>?_
  ·exact zav (λ_=>Wm ⟨h,trivial⟩) λe=>have e:=znk e;lP C h (by lia) (by lia) λv=>zav (λ_=>Wm ⟨h,Xx (Ys e.2) hc⟩) λ_=>Wm ⟨h,hc⟩
  ·obtain⟨_ | r,d⟩:=c
   ·exact dP h λst h=>Wm ⟨h,trivial⟩
   ·exact Wm ⟨h,trivial⟩
 ·obtain⟨_ | r,d⟩:=c
  ·exact Wm (hQ _ _ h)
  ·exact Wm (hQ _ _ h)
def Cn (m:Nat)(c:C2):Prop:=c.1=none/\0<c.2/\c.2<=m
theorem co1W (C:CmpW prog w A E s k P){f:C2->SM β}{Q:β->Wv->Prop}(h:Wk k P n pd st)(hi:0<i)(him:i<=m)(hm:lo+m<=n)(hk:∀j st,Wk k P n pd st->0<j->j<=m->wpS (Wh prog w) A E s (f (none,j)) Q st):wpS (Wh prog w) A E s (forIn [i:m] ((none,i):C2) (λ_ c=>co1 lo c.2) >>= f) Q st:=by
 refine wpR (λx c=>c.1=none/\c.2=x) (Cn m) h ⟨rfl,rfl⟩ (λc h=>⟨h.1,by rw[h.2];lia,by rw[h.2];lia⟩) (λx c st h h1 h2 hc=>?_) λc st h hc=>?_
 ·obtain⟨c,d⟩:=c;obtain⟨rfl,rfl⟩:c=none/\d=x:=hc;exact lP C h (by lia) (by lia) λv=>zav (λ_=>Wm ⟨h,rfl,by show 0<d;lia,Ys h2⟩) λ_=>Wm ⟨h,rfl,rfl⟩
 ·obtain⟨c,d⟩:=c;obtain⟨rfl,h1,h2⟩:=hc;exact hk d st h h1 h2
theorem co3W (C:CmpW prog w A E s k P){Q:Option Nat->Wv->Prop}(h:Wk k P n pd st)(hi:0<i)(him:i<=m)(hm:lo+m<=n)(hQ:∀r st,Wk k P n pd st->0<r->r<=m->Q (some r) st):wpS (Wh prog w) A E s (co3 lo m i) Q st:=
 vP h λst h=>co1W C h hi him hm λj st h h1 h2=>Wm (hQ _ _ h h1 h2)
theorem co4W (C:CmpW prog w A E s k P){Q:Option Nat->Wv->Prop}(h:Wk k P n pd st)(hi:0<i)(him:i<m)(hm:lo+m<=n)(hQ:∀r st,Wk k P n pd st->0<r->r<=m->Q (some r) st):wpS (Wh prog w) A E s (co4 lo m i) Q st:=by
 refine Wj (Vo (WL ⟨rfl,?_⟩));refine wpR (λx c=>c.1=none/\c.2.1=x) (λc=>Cn m (c.1,c.2.1)) h ⟨rfl,rfl⟩ (λc h=>⟨h.1,by show 0<c.2.1;rw[h.2];lia,by show c.2.1<=m;rw[h.2];lia⟩) (λx c st h h1 h2 hc=>?_) λc st h hc=>?_
 ·obtain⟨c,d,q⟩:=c;obtain⟨rfl,rfl⟩:c=none/\d=x:=hc;have f1:lo+d<n:=by lia
  have f2:lo+d-1<n:=by lia
  exact lP C h f1 f2 λv=>zav (λ_=>zav (λ_=>vP h λst h=>Wm ⟨h,rfl,rfl⟩) λ_=>Wm ⟨h,rfl,rfl⟩) λ_=>lP C h f2 f1 λv=>zav (λ_=>Wm ⟨h,rfl,by show 0<d;lia,Ys h2⟩) λ_=>Wm ⟨h,rfl,rfl⟩
 ·obtain⟨c,d,q⟩:=c;obtain⟨rfl,h1,h2⟩:=hc;exact zav (λ_=>vP h λst h=>co3W C h h1 h2 hm hQ) λ_=>co3W C h h1 h2 hm hQ
theorem cntW (C:CmpW prog w A E s k P){Q:Option Nat->Wv->Prop}(h:Wk k P n pd st)(h0:0<m)(hm:lo+m<=n)(hQ:∀r st,Wk k P n pd st->0<r->r<=m->Q (some r) st):wpS (Wh prog w) A E s (cnt lo m) Q st:=by
 rw[zvk];refine co1W C h Nat.one_pos h0 hm λj st h h1 h2=>zav (λ_=>Wm (hQ _ _ h h1 h2)) λe=>have e:=eqb e;?_;have e2:j<m:=by lia
 exact zav (λ_=>lP C h (by lia) (by lia) λv=>zav (λ_=>Wm (hQ _ _ h h1 h2)) λ_=>vP h λst h=>co4W C h h1 e2 hm hQ) λ_=>co4W C h h1 e2 hm hQ
end
end Sw
set_option maxHeartbeats 400000
namespace Sw
open PySem PyProof.Rows Srt
noncomputable def srt:SM Unit:=sortPriv% PySem.Builtin.sortRuns
noncomputable def ot {γ:Type}(x:Option T3)(d:γ)(f:Nat->Nat->Nat->γ):γ:=(sortPriv% PySem.Builtin.sortRuns.match_1) (λ_=>γ) x f λ_=>d
noncomputable def so1 (l n:Nat):SM (ForInStep (Option Unit×Nat)):=(modify λst=>setPending st ((Ws st).push (l,n,0))) >>= λ_=>pure (.yield (none,l+n))
noncomputable def so2 (x:Bool):SM (ForInStep (Option Unit×Unit)):=if (!x)=true then pure (.done (some (),())) else pure (.yield (none,()))
noncomputable def so3 (pw:Nat):SM (ForInStep (Option Unit×Unit)):=get >>= λx=>ot (if (Ws x).size > 1 then(Ws x)[(Ws x).size-2]? else none) (pure (.done (none,()))) λ_ _ t=>if t<=pw then pure (.done (none,())) else mAt ((Ws x).size-2) >>= so2
noncomputable def so4 (N l n:Nat):SM (ForInStep (Option Unit×Nat)):=get >>= λx=>ot (Ws x).back? (so1 l n) λs1 n1 _=>forIn [0:N] ((none,()):Option Unit×Unit) (λ_ _=>so3 (power' N (2*s1+n1) (2*s1+n1+n1+n) N)) >>= λc=>oe c.1 ((modify λst=>setPending st ((Ws st).modify ((Ws st).size-1) λx=>(sortPriv% PySem.Builtin.sortRuns.match_3) (λ_=>T3) x λa b _=>(a,b,power' N (2*s1+n1) (2*s1+n1+n1+n) N))) >>= λ_=>so1 l n) λr=>pure (.done (some r,l))
noncomputable def so5 (N l:Nat):SM (ForInStep (Option Unit×Nat)):=if l>=N then pure (.done (none,l)) else cnt l (N-l) >>= λv=>on v (pure (.done (some (),l))) λn=>if n<minRun' N N 0 then liftM (rule "list.sort.binary-insertion") >>= λ_=>bin l (min (N-l) (minRun' N N 0)) n >>= λx=>if (!x)=true then pure (.done (some (),l)) else so4 N l (min (N-l) (minRun' N N 0)) else so4 N l n
noncomputable def so6:SM (ForInStep (Option Unit×Unit)):=get >>= λx=>if (Ws x).size<=1 then pure (.done (none,())) else mAt (if Option.any (λy=>decide (y<(Ws x)[(Ws x).size-2+1]?.elim 0 λx=>x.2.1)) (if (Ws x).size-2 > 0 then Option.map (λx=>x.2.1) (Ws x)[(Ws x).size-2-1]? else none)=true then(Ws x).size-2-1 else(Ws x).size-2) >>= so2
noncomputable def so7 (N:Nat):SM Unit:=forIn [0:N] ((none,0):Option Unit×Nat) (λ_ c=>so5 N c.2) >>= λc=>oe c.1 (forIn [0:N] ((none,()):Option Unit×Unit) (λ_ _=>so6) >>= λc=>oe c.1 (pure ()) pure) pure
noncomputable def so:SM Unit:=get >>= λst=>so7 (Wp st).size
theorem zvl:srt=so:=rfl
def Stk:Nat->List T3->Nat->Prop
 | s,[],hi=>s=hi
 | s,e::r,hi=>e.1=s/\0<e.2.1/\Stk (s+e.2.1) r hi
theorem Stk.le:∀ {l:List T3}{s hi:Nat},Stk s l hi->s<=hi
 | [],s,hi,h=>YO h
 | e::r,s,hi,h=>Xx (Nat.le_add_right _ _) h.2.2.le
theorem Stk.append:∀ {l m:List T3}{s hi:Nat},Stk s (l++m) hi↔∃t,Stk s l t/\Stk t m hi
 | [],m,s,hi=>⟨λh=>⟨s,rfl,h⟩,λ⟨t,h1,h2⟩=>by have:s=t:=h1;rw[this];exact h2⟩
 | e::r,m,s,hi=>by
  constructor
  ·intro h;obtain⟨t,g1,g2⟩:=Stk.append.mp h.2.2;exact⟨t,⟨h.1,h.2.1,g1⟩,g2⟩
  ·intro ⟨t,h,g⟩;exact⟨h.1,h.2.1,Stk.append.mpr ⟨t,h.2.2,g⟩⟩
theorem Stk.modify {g:T3->T3}(hg:∀e,(g e).1=e.1/\(g e).2.1=e.2.1):∀ {l:List T3}{i s hi:Nat},Stk s l hi->Stk s (l.modify i g) hi
 | [],i,s,hi,h=>by cases i<;>exact h
 | e::r,0,s,hi,h=>by
  show Stk s (g e::r) hi;have:=hg e;exact⟨by rw[this.1];exact h.1,by rw[this.2];exact h.2.1,by rw[this.2];exact h.2.2⟩
 | e::r,i+1,s,hi,h=>by
  show Stk s (e::r.modify i g) hi;exact⟨h.1,h.2.1,Stk.modify hg h.2.2⟩
theorem zpq {p:Array T3}{pre post:List T3}{e1 e2 e:T3}(h:p.toList=pre++e1::e2::post):((p.setIfInBounds pre.length e).eraseIdxIfInBounds (pre.length+1)).toList=pre++e::post:=by
 have hsz:p.size=pre.length+(post.length+2):=by rw[<- Ye,h];simp
 rw[Array.eraseIdxIfInBounds,dif_pos (by simp;lia)];simp[h,List.eraseIdx_append_of_length_le]
theorem zrS {c:Prop} [Decidable c] {n:Nat}(h:¬ n<=1):(if c then n-2-1 else n-2)+1<n:=by split<;>lia
section
variable {prog:Wl}{w:Wt}{A:Wu}{E:Wb->Wd->Prop}{s:Wd}{k:WG}{P:Wq->Prop}{n:Nat}{pd:Array T3}{st:Wv}{β τ:Type}{a b:KA}{i j m lo:Nat}
def Sk (k:WG)(P:Wq->Prop)(n lo:Nat)(st:Wv):Prop:=lo<=n/\∃pd:Array T3,Stk 0 pd.toList lo/\Wk k P n pd st
theorem zqg (C:CmpW prog w A E s k P){Q:Bool->Wv->Prop}(h:Sk k P n lo st)(hi:i+1<(Ws st).size)(hQ:∀v st,Sk k P n lo st->Q v st):wpS (Wh prog w) A E s (mAt i) Q st:=by
 obtain⟨hlo,pd,hs,h⟩:=h;rw[h.pend]at hi;have hlen:pd.toList.length=pd.size:=Ye;obtain⟨pre,⟨sa,na,pw⟩,⟨sb,nb,pw2⟩,post,hl,rfl⟩:∃pre e1 e2 post,pd.toList=pre++e1::e2::post/\pre.length=i:=by
  refine⟨pd.toList.take i,pd.toList[i],pd.toList[i+1],pd.toList.drop (i+2),?_,by rw[XY];lia⟩;rw[<- List.drop_eq_getElem_cons,<- List.drop_eq_getElem_cons,List.take_append_drop]
 rw[hl]at hs;obtain⟨t,h1,h2,h3,h4,h5,h6⟩:=Stk.append.mp hs;simp only at h2 h3 h4 h5 h6;subst h2;subst h4;have hle:=h6.le;refine mAtW C (pw:=pw) (pw2:=pw2) h (by rw[<- Yx,hl];simp) (by rw[<- Yx,hl];simp) h3 h5 (Xx hle hlo) λv st h=>hQ v st ⟨hlo,_,?_,h⟩;rw[zpq hl];exact Stk.append.mpr ⟨sa,h1,rfl,Nat.add_pos_left h3 _,by show Stk (sa+(na+nb)) post lo;rw[<- Nat.add_assoc];exact h6⟩
theorem so1W (h:Sk k P n lo st)(hm:0<m)(hn:lo+m<=n){Q:ForInStep (Option Unit×Nat)->Wv->Prop}(hQ:∀st,Sk k P n (lo+m) st->Q (.yield (none,lo+m)) st):wpS (Wh prog w) A E s (so1 lo m) Q st:=by
 obtain⟨hlo,pd,hs,h⟩:=h;refine Wj (WT (Wm (hQ _ ⟨hn,pd.push (lo,m,0),?_,h.kind,h.all,h.size,h.fail,?_⟩)))
 ·rw[Array.toList_push];exact Stk.append.mpr ⟨lo,hs,rfl,hm,rfl⟩
 ·show(Ws st).push (lo,m,0)=_;rw[h.pend]
theorem so2W {v:Bool}(h:Sk k P n lo st):wpS (Wh prog w) A E s (so2 v) (Rp (Sk k P n lo) (λ_=>True) (λ_=>True)) st:=zav (λ_=>Wm ⟨h,trivial⟩) λ_=>Wm ⟨h,trivial⟩
theorem so3W (C:CmpW prog w A E s k P)(h:Sk k P n lo st):wpS (Wh prog w) A E s (so3 m) (Rp (Sk k P n lo) (λ_=>True) (λ_=>True)) st:=by
 refine Wj (Va ?_);generalize hx:(if (Ws st).size > 1 then(Ws st)[(Ws st).size-2]? else none)=x
 cases x with
 | none=>exact Wm ⟨h,trivial⟩
 | some t=>
  have h1:(Ws st).size > 1:=Decidable.byContradiction λz=>by rw[if_neg z]at hx;cases hx
  exact zav (λ_=>Wm ⟨h,trivial⟩) λ_=>Wj (zqg C h (by lia) λv st h=>so2W h)
theorem so4W (C:CmpW prog w A E s k P)(h:Sk k P n lo st)(hm:0<m)(hn:lo+m<=n){Q:ForInStep (Option Unit×Nat)->Wv->Prop}(hY:∀st,Sk k P n (lo+m) st->Q (.yield (none,lo+m)) st)(hD:∀c st,Sk k P n lo st->Q (.done c) st):wpS (Wh prog w) A E s (so4 n lo m) Q st:=by
 refine Wj (Va ?_);generalize (Ws st).back? = x;cases x with
 | none=>exact so1W h hm hn hY
 | some t=>
  refine wpR (λ_ _=>True) (λ_=>True) h trivial (λ_ _=>trivial) (λx c st h _ _ _=>so3W C h) λc st h _=>?_;obtain⟨_ | r,d⟩:=c
  ·obtain⟨hlo,pd,hs,h⟩:=h;refine Wj (WT ?_);refine so1W ?_ hm hn hY;refine⟨hlo,_,?_,⟨h.kind,h.all,h.size,h.fail,rfl⟩⟩;show Stk 0 ((Ws st).modify _ _).toList lo;rw[Array.toList_modify,h.pend];refine Stk.modify ?_ hs;exact λe=>⟨rfl,rfl⟩
  ·exact Wm (hD _ _ h)
theorem so5W (C:CmpW prog w A E s k P)(h:Sk k P n lo st){Q:ForInStep (Option Unit×Nat)->Wv->Prop}(hY:∀c st,Sk k P n c.2 st->Q (.yield c) st)(hD:∀c st,Sk k P n lo st->Q (.done c) st):wpS (Wh prog w) A E s (so5 n lo) Q st:=
 zav (λ_=>Wm (hD _ _ h)) λe=>Wj (by
  obtain⟨hlo,pd,hs,h⟩:=h;refine cntW C h (by lia) (by lia) λr st h r0 r1=>zav (λe2=>?_) λ_=>so4W C ⟨hlo,pd,hs,h⟩ r0 (by lia) (λst h=>hY _ _ h) hD;refine Wj (Vo (WL ⟨rfl,?_⟩));exact Wj (binW C h (by lia) λv st h=>zav (λ_=>Wm (hD _ _ ⟨hlo,pd,hs,h⟩)) λ_=>so4W C ⟨hlo,pd,hs,h⟩ (by lia) (by lia) (λst h=>hY _ _ h) hD))
theorem so6W (C:CmpW prog w A E s k P)(h:Sk k P n lo st):wpS (Wh prog w) A E s so6 (Rp (Sk k P n lo) (λ_=>True) (λ_=>True)) st:=
 Wj (Va (zav (λ_=>Wm ⟨h,trivial⟩) λe=>Wj (zqg C h (zrS e) λv st h=>so2W h)))
theorem srtW (C:CmpW prog w A E s k P){Q:Unit->Wv->Prop}(h:Wk k P n #[] st)(hQ:∀st pd,Wk k P n pd st->Q () st):wpS (Wh prog w) A E s srt Q st:=by
 rw[zvl];refine Wj (Va ?_);rw[h.size];refine Wj (Vc (WM (I:=λ_ c st=>Sk k P n c.2 st) (Q:=λ_ st=>∃lo,Sk k P n lo st) (λx c st _ _ h=>so5W C h (λ_ _ h=>h) λ_ _ h=>⟨_,h⟩) (λc st h=>⟨_,h⟩) (show Sk k P n 0 st from⟨XH _,#[],rfl,h⟩)) λc st h=>?_);obtain⟨lo,h⟩:=h;obtain⟨_ | r,d⟩:=c
 ·refine wpR (λ_ _=>True) (λ_=>True) h trivial (λ_ _=>trivial) (λx c st h _ _ _=>so6W C h) λc st h _=>?_;obtain⟨_,pd,_,h⟩:=h;obtain⟨_ | r,d⟩:=c
  ·exact Wm (hQ _ _ h)
  ·exact Wm (hQ _ _ h)
 ·obtain⟨_,pd,_,h⟩:=h;exact Wm (hQ _ _ h)
end
section
variable {prog:Wl}{w:Wt}{M:Model}{A:Wu}{E:Wb->Wd->Prop}{s:Wd}
theorem ztU {k:Bool}{x y:Wb}{ns ms:List Int}{Q:Bool->Wd->Prop}(hx:TupAt s.heap x ns)(hy:TupAt s.heap y ms)(h:∀v,Q v s):Wi (Wh prog w) A (keyLt' (tuples' k) x y) Q E s:=by
 obtain⟨a,o,vs,n,rfl,e,_,d,i⟩:=hx;obtain⟨b,o2,ws,n2,rfl,e2,_,d2,i2⟩:=hy;refine Wa (W2 e d (Wa (W2 e2 d2 ?_)));refine Wa (zfU _ (I:=λl c=>c=(none,PUnit.unit)/\∃vs' ws' ns' ms' j,l=(vs'.zip ws').zipIdx j/\WU vs' ns'/\WU ws' ms') ?step ?fin _ _ ⟨rfl,vs,ws,ns,ms,0,rfl,i,i2⟩)
 case fin=>
  rintro c ⟨rfl,_⟩;exact Wf (h _)
 case step=>
  rintro⟨⟨p,q⟩,j0⟩ rest c ⟨rfl,vs',ws',ns',ms',j,hl,i3,i4⟩;cases i3 with
  | nil=>simp at hl
  | @cons n1 t1 vs1 ns1 i3=>
   cases i4 with
   | nil=>simp at hl
   | @cons m1 u1 ws1 ms1 i4=>
    rw[Yb,List.zipIdx_cons]at hl;obtain⟨hl1,hl2⟩:=List.cons.inj hl;cases hl1;dsimp only;refine Wa (wpAny_eqBool_int ?_);split
    ·exact Wa (ziy (Wf ⟨rfl,Wf (h _)⟩))
    ·exact Wf ⟨rfl,rfl,vs1,ws1,ns1,ms1,_,hl2,i3,i4⟩
def PT (h:Heap)(us:List (We×List Int))(x:Wq):Prop:=∃u,u∈us/\x=(Value.ref u.1,Value.ref u.1)/\TupAt h (.ref u.1) u.2
theorem zjs (k:Bool)(us:List (We×List Int)):CmpW prog w A E s (tuples' k) (PT s.heap us) where
 run {x y Q st} hx hy hk h:=by
  obtain⟨u,_,rfl,hx⟩:=hx;obtain⟨v,_,rfl,hy⟩:=hy;rw[lt'_eq];refine Wj (Va ?_);rw[hk];refine Wj (Vo (wpAny_attempt (ztU hx hy λv=>⟨rfl,?_⟩)));exact Wm (h v)
theorem ziB {h:Heap}{us:List (We×List Int)}:∀ {l:List Wq},(∀x∈l,PT h us x)->∃us':List (We×List Int),l=us'.map (λu=>(Value.ref u.1,Value.ref u.1))/\∀u∈us',u∈us
 | [],_=>⟨[],rfl,λu hu=>by cases hu⟩
 | x::l,hl=>by
  obtain⟨u,hu,e,_⟩:=hl x Xh;obtain⟨us',e2,h2⟩:=ziB (l:=l) λy hy=>hl y (Xi _ hy);refine⟨u::us',by rw[e,e2];rfl,λv hv=>?_⟩;rcases Xo.mp hv with rfl | hv
  ·exact hu
  ·exact h2 v hv
theorem zlA {a:We}{us:List (We×List Int)}{n:Nat}{P:Fin->Wd->Prop}(ho:s.heap.get? a=some (WI "list" (refsOf us).toArray n)) (hT:∀u∈us,TupAt s.heap (.ref u.1) u.2/\u.2≠[]) (hsz:us.length<=Wn)
  (h:∀us':List (We×List Int),us'.length=us.length->(∀u∈us',u∈us)->P (.done (.ret .none)) { s with heap:=sortedHeap s.heap a (refsOf us) (refsOf us').toArray }) :
  Wi (Wh prog w) A (Builtin.«list.sort» ⟨[.ref a],[]⟩) P E s:=by
 rw[list_sort_plain];have ha:a<s.heap.objs.size:=Xs ho;refine Wa (W2 ho rfl (Wa (Vf ho rfl ?_ (hsz:=by rw[Xj,Xb];exact hsz) (hsz2:=XH _))));obtain⟨e1,ho1⟩:∃e1,(s.heap.update a (Obj.mapSeq λ_=>#[])).get? a=some (WI "list" #[] e1):=⟨_,get?_update_seq ho (λ_=>#[])⟩;refine Wa (seqEpoch_at ho1 rfl (Wa (wpAny_newTuple (Wa (Vd (WH ?_))))));obtain⟨h6,eh⟩:∃h6,h6=(((s.heap.update a (Obj.mapSeq λ_=>#[])).push (WI "tuple" (refsOf us).toArray 0)).push (WI "list" #[] 0)):=⟨_,rfl⟩;have kp:∀b,b<s.heap.objs.size->h6.get? b=(s.heap.update a (Obj.mapSeq λ_=>#[])).get? b:=λb hb=>by
  rw[eh,YR _ _ _ (by rw[size_push',Heap.size_update];exact XB (XJ hb)),YR _ _ _ (by rw[Heap.size_update];exact XB hb)]
 have ho6:h6.get? a=some (WI "list" #[] e1):=by rw[kp a ha];exact ho1
 have hT6:∀u∈us,TupAt h6 (.ref u.1) u.2:=λu hu=>by
  obtain⟨b,o,vs,m,e,hb,c,d,i⟩:=(hT u hu).1;cases e;have hne:u.1≠a:=λz=>by rw[z,ho]at hb;cases hb;injection c with c;exact absurd c (by decide)
  refine⟨u.1,o,vs,m,rfl,?_,c,d,i⟩;rw[kp u.1 (Xs hb),Yj _ _ (Ne.symm hne)];exact hb
 show Wi (Wh prog w) A _ P E { s with heap:=(((s.heap.update a (Obj.mapSeq λ_=>#[])).push (WI "tuple" (refsOf us).toArray 0)).push (WI "list" #[] 0)) };have hfin:∀us':List (We×List Int),us'.length=us.length->(∀u∈us',u∈us)->P (.done (.ret .none)) { s with heap:=h6.update a (Obj.mapSeq λ_=>(refsOf us').toArray) }:=by
  rw[eh];exact h
 rw[<- eh];have hz:(refsOf us).toArray.zip (refsOf us).toArray=(us.map λu=>(Value.ref u.1,Value.ref u.1)).toArray:=by rw[List.zip_toArray,zcT]
 have hPT:AllP (PT h6 us) (us.map λu=>(Value.ref u.1,Value.ref u.1)).toArray:=zbR.mpr λx hx=>by
  obtain⟨u,hu,rfl⟩:=XD.mp hx;exact⟨u,hu,rfl,hT6 u hu⟩
 have fin:∀st:Wv,W7 st=none->AllP (PT h6 us) (Wp st)->(Wp st).size=us.length->∃us':List (We×List Int),Array.map (λx=>x.2) (Wp st)=(refsOf us').toArray/\us'.length=us.length/\∀u∈us',u∈us:=λst hf hp hn=>by
  obtain⟨us',e,h2⟩:=ziB (zbR.mp hp);refine⟨us',?_,by rw[<- hn,<- Ye,e,Xb],h2⟩;rw[<- Array.toArray_toList (xs:=Wp st),e,List.map_toArray,List.map_map];rfl
 dsimp only;rw[hz];by_cases h2:(refsOf us).toArray.size<2
 ·rw[if_pos h2,if_pos h2];refine Wa (Wf ?_);rw[StateT.run_pure];obtain⟨us',e2,p1,p2⟩:=fin (SortSt.mk' general' (us.map λu=>(Value.ref u.1,Value.ref u.1)).toArray #[] 7 none) rfl hPT (by rw[Xj,Xb]);refine Wa (Wf (Wa (seqEpoch_at ho6 rfl (Wa (Vf ho6 rfl ?_ (hsz:=XH _) (hsz2:=?_))))))
  ·simp only[bne_self_eq_false,XU,if_false];refine Wf ?_;have q:=hfin us' p1 p2;rw[<- e2]at q;exact q
  ·show(Array.map (λx=>x.2) (Wp (SortSt.mk' general' (us.map λu=>(Value.ref u.1,Value.ref u.1)).toArray #[] 7 none))).size<=_;rw[e2,Xj,Xb,p1];lia
 ·rw[if_neg h2,if_neg h2];have hpos:us≠[]:=λz=>by subst z;exact h2 (by decide)
  refine Wa (zks (s:={ s with heap:=h6 }) (λv hv=>?_) (λz=>hpos (List.map_eq_nil_iff.mp z)) ?_)
  ·obtain⟨u,hu,rfl⟩:=XD.mp hv;exact⟨u.2,hT6 u hu,(hT u hu).2⟩
  have hW:=srtW (prog:=prog) (w:=w) (A:=A) (E:=E) (s:={ s with heap:=h6 }) (zjs (s:={ s with heap:=h6 }) true us) (n:=us.length) (st:=SortSt.mk' (tuples' true) (us.map λu=>(Value.ref u.1,Value.ref u.1)).toArray #[] 7 none)
   (Q:=λ_ st'=>W7 st'=none/\AllP (PT h6 us) (Wp st')/\(Wp st').size=us.length) ⟨rfl,hPT,by show Array.size _=_;rw[Xj,Xb],rfl,rfl⟩ (λst' pd h=>⟨h.fail,h.all,h.size⟩)
  refine Wa (WR hW ?_ λ_ _ e=>e);rintro⟨⟨⟩,st'⟩ s' ⟨rfl,hf,hp,hn⟩;dsimp only;obtain⟨us',e2,p1,p2⟩:=fin st' hf hp hn;refine Wa (seqEpoch_at ho6 rfl (Wa (Vf ho6 rfl ?_ (hsz:=XH _) (hsz2:=?_))))
  ·rw[hf];simp only[bne_self_eq_false,XU,if_false];refine Wf ?_;have q:=hfin us' p1 p2;rw[<- e2]at q;exact q
  ·show(Array.map (λx=>x.2) (Wp st')).size<=_;rw[e2,Xj,Xb,p1];lia
theorem zrT {l:We}{us:List (We×List Int)}{Q:Wb->Wd->Prop}(hl:s.heap.IsList l (refsOf us).toArray)(hT:∀u∈us,TupAt s.heap (.ref u.1) u.2/\u.2≠[])(hsz:us.length<=Wn)
  (h:∀us':List (We×List Int),us'.length=us.length->(∀u∈us',u∈us)->Q (.ref (s.heap.objs.size+1)) { s with heap:=sortedAll s.heap (refsOf us) (refsOf us').toArray }) :
  Wi (Wh prog w) A (call (.builtin "sorted") [.ref l]) Q E s:=by
 refine Calls.call_function_entry kind_sorted plain_sorted entry_sorted (args_sorted1 _) ?_;unfold Builtin.«sorted»;refine Wa (m:=checkCount "sorted" 1 1 _) (Wf (Wa (collect_list hl (Wa (Vd ?_)) (hsz:=by rw[Xb];exact hsz))));obtain⟨h5,eh⟩:∃h5,h5=(s.heap.push (WI "list" #[] 0)).update s.heap.objs.size (Obj.mapSeq (·++(refsOf us).toArray)):=⟨_,rfl⟩;have hz:h5.objs.size=s.heap.objs.size+1:=by rw[eh,Heap.size_update,size_push']
 have hoL:(h5.push (WI "list" (refsOf us).toArray 0)).get? (s.heap.objs.size+1)=some (WI "list" (refsOf us).toArray 0):=by rw[<- hz];exact Xw _ rfl
 have kp:∀b o,s.heap.get? b=some o->(h5.push (WI "list" (refsOf us).toArray 0)).get? b=some o:=λb o e=>by
  have hb:=Xs e;rw[YR _ _ _ (by rw[hz];exact XB (XJ hb)),eh,Yj _ _ (YN hb),YR _ _ _ (XB hb)];exact e
 have hfin:∀us':List (We×List Int),us'.length=us.length->(∀u∈us',u∈us)->Q (.ref (s.heap.objs.size+1)) { s with heap:=sortedHeap (h5.push (WI "list" (refsOf us).toArray 0)) (s.heap.objs.size+1) (refsOf us) (refsOf us').toArray }:=by
  rw[eh];exact h
 show Wi _ _ _ _ _ { s with heap:=((s.heap.push (WI "list" #[] 0)).update s.heap.objs.size (Obj.mapSeq (·++(refsOf us).toArray))).push (WI "list" (refsOf us).toArray 0) };rw[<- eh,hz];refine Wa (WH (WE slot_list_sort ⟨_,hoL,rfl⟩ entry_list_sort (zlA (s:={ s with heap:=h5.push (WI "list" (refsOf us).toArray 0) }) hoL (λu hu=>?_) hsz λus' a1 a2=>⟨_,rfl,?_⟩) (args_list_sort _)))
 ·obtain⟨⟨b,o,vs,m,e,hb,c,d,i⟩,z⟩:=hT u hu;exact⟨⟨b,o,vs,m,e,kp b o hb,c,d,i⟩,z⟩
 ·exact Wf ⟨_,rfl,hfin us' a1 a2⟩
end
end Sw
namespace L2
open PySem PySem.Spec PyProof.Rows
section
variable {X:Cx}
theorem zlB:zde X (.builtin "sorted") (λxs H Q=>∃(p:We) (us:List (We×List Int)),xs=[.ref p]/\SqL X.K H p (us.map λu=>V.ref u.1)/\(∀u∈us,SqT X.K H u.1 (u.2.map V.int)/\u.2≠[])/\
  ∀(l:We) (us':List (We×List Int)),H l=none->us'.length=us.length->(∀u∈us',u∈us)->Q (.ref l) (upd H l (.lst (us'.map λu=>V.ref u.1)))):=by
 intro pins s σ H xs us Q I r h;obtain⟨p,us,rfl,hp,hT,q⟩:=h;obtain⟨u,rfl,rx⟩:=vals1 r;cases rx;obtain⟨its,r,ht,hz⟩:=I.list hp;have ei:=zfV r;subst ei;rw[Xb]at hz;refine Sw.zrT ht.isList (λu hu=>?_) (by lia) λus' a1 a2=>?_
 ·obtain⟨h1,h2⟩:=hT u hu;obtain⟨its2,rv,⟨o,ho,hc,n,hd⟩,_⟩:=I.tuple h1;exact⟨⟨u.1,o,its2,n,rfl,ho,hc,hd,ints_of rv⟩,h2⟩
 ·obtain⟨e,he⟩:=sortedAll_at s.heap (Srt.refsOf us) (Srt.refsOf us').toArray;have kp:∀b o,s.heap.get? b=some o->(sortedAll s.heap (Srt.refsOf us) (Srt.refsOf us').toArray).get? b=some o:=λ_ _=>sortedAll_old;refine⟨.ref (s.heap.objs.size+1),_,I.laid (t':=s.toks) (o:=.lst (us'.map λu=>V.ref u.1)) kp (Yu _) ?_,rfl,q _ us' (I.hok.fresh (Yu _)) a1 a2⟩;exact⟨by rw[Xb,a1];exact hz,Srt.refsOf us',e,zfW us',he⟩
end
end L2
namespace PL
open PySem PySem.Spec PyProof.Rows L2
def zci:PF:=λds Q=>∃ss:List (List Int),ds=[.lst (ss.map λr=>PV.tup (r.map PV.int))]/\(∀r∈ss,r≠[])/\∀zs:List (List Int),zs.length=ss.length->(∀r∈zs,r∈ss)->Q (.lst (zs.map λr=>PV.tup (r.map PV.int))) .new
theorem zpr {X:Cx}:zes X.K (λxs H Q=>∃(p:We)(us:List (We×List Int)),xs=[.ref p]/\SqL X.K H p (us.map λu=>V.ref u.1)/\(∀u∈us,SqT X.K H u.1 (u.2.map V.int)/\u.2≠[])/\
  ∀(l:We) (us':List (We×List Int)),H l=none->us'.length=us.length->(∀u∈us',u∈us)->Q (.ref l) (upd H l (.lst (us'.map λu=>V.ref u.1)))) zci where
 mono ds Q Q' m h:=by obtain⟨ss,e1,e2,q⟩:=h;exact⟨ss,e1,e2,λzs h1 h2=>m _ _ (q zs h1 h2)⟩
 run Fz H ds vs Q al r h:=by
  obtain⟨ss,rfl,e2,q⟩:=h;obtain⟨v,rfl,rv⟩:=zdH r;obtain⟨a,xs,rfl,h1,h2⟩:=zas rv;obtain⟨us,rfl,g2,g3⟩:=zfX h2;refine⟨a,us,rfl,h1,λu hu=>⟨SqT.of (g3 u hu),e2 _ (by rw[<- g2];exact XD.mpr ⟨u,hu,rfl⟩)⟩,λl us' hl hz hs=>?_⟩;have hd:DenL X.K Fz H ((us'.map (·.2)).map λr=>PV.tup (r.map PV.int)) (us'.map λu=>V.ref u.1):=zfY us' λu hu=>g3 u (hs u hu);refine q (us'.map (·.2)) (by rw[<- g2,Xb,Xb,hz]) (λr hr=>?_) _ Fz _ (.newL al hl hd);obtain⟨u,hu,rfl⟩:=XD.mp hr;rw[<- g2];exact XD.mpr ⟨u,hs u hu,rfl⟩
section
variable {X:Cx}{e:Expr}{es:List Expr}{t:TPA}{p pos:Pos}
theorem zps (hg:Gl X "sorted") (hm:X.mg "sorted" = none) (ha:PuA X (e::es) t) (he:Wg (e::es) X.env=(false,WA e X.env)::Wg es X.env:=by rfl) (hpl:(Wy pos (Wg es X.env)).any (·.1)=false:=by rfl):PuE X (.Call (.Name "sorted" p) (e::es) [] pos) (tB zci t):=
 zcP zlB zpr hg hm zho ha (by decide) (by decide) he hpl
end
end PL
namespace HK
open PySem PySem.W
def frag (h:Heap):Frag:=(Xz h.objs.size).filterMap λa=>(h.get? a).map λo=>(a,o)
theorem zrU (h:Heap):(frag h).In h:=by
 intro a o e;unfold frag at e;generalize Xz h.objs.size=l at e;induction l with
 | nil=>cases e
 | cons b l ih=>
  rw[List.filterMap_cons]at e;cases hb:h.get? b with
  | none=>rw[hb]at e;exact ih e
  | some o'=>
   rw[hb]at e;dsimp only[Option.map_some]at e;rw[XT]at e;by_cases z:a=b
   ·subst z;rw[beq_self_eq_true]at e;cases e;exact hb
   ·rw[beq_false_of_ne z]at e;exact ih e
def hook {T:Type}(see:Frag->T)(told:T):Hook:=
 ⟨T,λs=>see (frag s.heap),λ_=>told,λ_ h=>∃K:Frag,K.In h/\see K=told,λ_ s e=>⟨_,zrU _,e⟩,λ_ _ _ ⟨K,x,e⟩ k=>⟨K,x.keeps k,e⟩⟩
abbrev Seen:=Option (Str×Str×Arguments×FuncBody×WX×We×List (Str×We)×Wb×We×Bool)
def zay (K:Frag)(v:Option (Option Wb)):Seen:=match v with
 | some (some (.ref f))=>(match K.lookup f with
  | some ⟨_,_,.func d,_⟩=>some (d.name,d.qualname,d.params,d.body,d.scope,d.globals,d.closure,d.defaults,d.builtins,codeIn K d.code d.qualname&&keepIn K (.ref f)&&isFn K (.ref f))
  | _=>none)
 | _=>none
def zaz (n q:Str)(a:Arguments)(b:List WC)(c:WX):Seen:=some (n,q,a,.stmts b,c,Wc,[],.none,builtinsNs,true)
theorem zow {K:Frag}{v:Option (Option Wb)}{n q:Str}{a:Arguments}{b:List WC}{c:WX}(e:zay K v=zaz n q a b c) :
  ∃(f:We) (oc:Wb) (od:Option We) (sl:Array (Option Wb)) (kV dc pm:Wb) (an:Option We) (cd ct:Wb),v=some (some (.ref f))/\K.lookup f=some ⟨oc,od,.func (fnOf n q a b c .none kV dc pm an cd ct),sl⟩/\codeIn K cd q=true/\keepIn K (.ref f)=true/\isFn K (.ref f)=true:=by
 unfold zay zaz at e;split at e
 ·rename_i f
  split at e
  ·rename_i oc od d sl hl
   obtain⟨d1,d2,d3,d4,d5,d6,d7,d8,d9,d10,d11,d12,d13,d14,d15⟩:=d;simp only[Option.some.injEq,Prod.mk.injEq,Yo]at e;obtain⟨rfl,rfl,rfl,rfl,rfl,rfl,rfl,rfl,rfl,⟨h1,h2⟩,h3⟩:=e;exact⟨f,_,_,_,_,_,_,_,_,_,rfl,hl,h1,h2,h3⟩
  ·cases e
 ·cases e
def ref? (v:Option (Option Wb)):We:=match v with
 | some (some (.ref a))=>a
 | _=>0
def isRef (v:Option (Option Wb)):Bool:=match v with
 | some (some (.ref _))=>true
 | _=>false
theorem ztV {v:Option (Option Wb)}(e:isRef v=true):v=some (some (.ref (ref? v))):=by
 unfold isRef at e;split at e
 ·rfl
 ·cases e
def fdAt (K:Frag)(v:Option (Option Wb)):Wr:=match K.lookup (ref? v)with
 | some ⟨_,_,.func d,_⟩=>d
 | _=>default
structure Def (K:Frag)(n q:Str)(st:WC)(v:Option (Option Wb)):Prop where
 fn:L2.Fun K n q st (ref? v) (fdAt K v)
 ad:v=some (some (.ref (ref? v)))
 kp:keepIn K (.ref (ref? v))=true
 is:isFn K (.ref (ref? v))=true
theorem zaD {K:Frag}{v:Option (Option Wb)}{n q:Str}{st:WC}(e:zay K v=zaz n q (L2.zam st) (L2.zaj st) (L2.zac st)):Def K n q st v:=by
 obtain⟨f,oc,od,sl,kV,dc,pm,an,cd,ct,rfl,l,c,k,m⟩:=zow e;have h:fdAt K (some (some (.ref f)))=fnOf n q (L2.zam st) (L2.zaj st) (L2.zac st) .none kV dc pm an cd ct:=by
  unfold fdAt ref?;rw[l]
 exact⟨h▸L2.zpW l c k,rfl,k,m⟩
theorem pick {α:Type}{l m:List α}(h:l=m)(i:Nat):l[i]? = m[i]?:=by rw[h]
end HK
namespace PL
open PySem PySem.Spec L2
open PyProof.Rows hiding St
theorem zvm {l:PySem.W.OpenLaw}{k:Nat}{q:Wl}{loose:List Str}{XP:(Str->Option Wb)->Heap->Prop}{YP:Wt->Heap->Prop}{d:DefRec}{G:Xa->Prop}{FL:PF}{x:Str}
  (hn:l.most=some 63) (hdf:d.params.defaults=[]) (hr:Room k callerA) (m:zaY FL)
  (hY:∀(w:Wt) (h:Heap),YP w h->∃K:Xa,K.In h/\G K)
  (F:∀(w:Wt) (mg:Str->Option Wb) (fa:We) (h:Heap) (K:Xa),G K->K.In h->h.Ns Wc mg->mg d.name=some (.ref fa)->
   ∃fd:Wr,(∀(s:Wd) (u:Wb),BindsTo s fd ⟨[u],[]⟩ [(x,u)])/\∀base:Heap,K.In base->base.Ns Wc mg->FnOk l.prog w K mg base CX0 k fa fd [x] (spP K FL))
  (hF:∀ns:List Int,ns.length<=63->FL [.lst (ns.map PV.int)] λd k=>d=.bl true) :
  PySem.W.WalkO q loose XP YP l.row.toRowW d [] (λf vs=>PySem.call f vs):=by
 refine Att.zji hn hdf λw s₀ s₁ mg mb fa o pm cd doc a vs ns Gd Y ho hd hcd hmg hobj hints hlen hg=>?_;obtain⟨K,KX,gk⟩:=hY w _ Y;obtain⟨fd,hb,hFn⟩:=F w mg fa _ K gk KX Gd.T.g hmg;exact zmS KX Gd.T.g Gd.T.b Gd.T.builtins Gd.T.nolimit hg hobj hints (Xx hlen (by decide)) hr hFn hb (λH hO hS=>ztA m hS (hF ns hlen)) λH e s' z=>z
end PL
set_option maxHeartbeats 1000000
namespace M41
def sm:Nat->(Nat->Int)->Int
 | 0,_=>0
 | n+1,f=>sm n f+f n
theorem zbi:∀ {n:Nat}{f g:Nat->Int},(∀k,k<n->f k=g k)->sm n f=sm n g
 | 0,_,_,_=>rfl
 | n+1,f,g,h=>by rw[sm,sm,zbi λk hk=>h k (XJ hk),h n (XS n)]
theorem zdJ:∀ {n:Nat}{f g:Nat->Int}{a b:Int},sm n (λk=>a*f k+b*g k)=a*sm n f+b*sm n g
 | 0,_,_,_,_=>by simp[sm]
 | n+1,f,g,a,b=>by rw[sm,sm,sm,zdJ];grind
theorem znt {n:Nat}{f:Nat->Int}(c:Int):c*sm n f=sm n λk=>c*f k:=by
 have:=zdJ (n:=n) (f:=f) (g:=f) (a:=c) (b:=0);rw[Int.zero_mul,Int.add_zero]at this;rw[<- this];exact zbi λl _=>by lia
theorem zjv {n:Nat}{f:Nat->Int}(h:∀k,k<n->f k=0):sm n f=0:=by
 rw[zbi h];induction n with
 | zero=>rfl
 | succ n ih=>rw[sm,ih (λk hk=>h k (XJ hk))];rfl
theorem zdK:∀ {n i:Nat}{f:Nat->Int},i<n->(∀k,k<n->k≠i->f k=0)->sm n f=f i
 | n+1,i,f,hi,h=>by
  rw[sm];by_cases e:i=n
  ·rw[zjv λk hk=>h k (XJ hk) (by lia),e];lia
  ·rw[zdK (i:=i) (by lia) λk hk=>h k (XJ hk),h n (XS n) (λz=>e z.symm)];lia
theorem zrV:∀ {n:Nat}{f:Nat->Int},(∀k,k<n->0<=f k)->0<=sm n f
 | 0,_,_=>Int.le_refl 0
 | n+1,f,h=>by
  have:=zrV λk hk=>h k (XJ hk);have:=h n (XS n);rw[sm];lia
theorem znu:∀ {n:Nat}{f:Nat->Int},0<sm n f->∃k,k<n/\0<f k
 | 0,_,h=>absurd h (Int.lt_irrefl 0)
 | n+1,f,h=>by
  by_cases e:0<f n
  ·exact⟨n,XS n,e⟩
  ·rw[sm]at h;obtain⟨k,hk,h2⟩:=znu (n:=n) (f:=f) (by lia);exact⟨k,XJ hk,h2⟩
theorem zkz {f:Nat->Nat->Int}(hf:∀k l,l<k->f k l = - f l (k-1)):∀n,sm (n+1) (λk=>sm n (f k))=0
 | 0=>rfl
 | n+1=>by
  have ih:=zkz hf n;have e1:sm (n+1) (λk=>sm (n+1) (f k))=sm (n+1) (λk=>sm n (f k))+sm (n+1) λk=>f k n:=by
   rw[show(λk=>sm (n+1) (f k))=λk=>1*sm n (f k)+1*f k n from funext λk=>by rw[sm];lia,zdJ];lia
  have e2:sm (n+1) (f (n+1))=sm (n+1) λk=>(-1)*f k n+0*f k n:=zbi λk hk=>by rw[hf _ _ hk,Nat.add_sub_cancel];lia
  rw[sm,e1,ih,e2,zdJ];lia
abbrev Mt:=Nat->Nat->Int
def sg (k:Nat):Int:=if k % 2=0 then 1 else -1
theorem zrW (k:Nat):sg (k+1) = - sg k:=by unfold sg;split<;>split<;>lia
def rm (k:Nat)(v:Nat->Int):Nat->Int:=λj=>if j<k then v j else v (j+1)
def D:Nat->Mt->Int
 | 0,_=>1
 | n+1,B=>sm (n+1) λk=>sg k*B 0 k*D n λr=>rm k (B (r+1))
def up (B:Mt)(r:Nat)(v:Nat->Int):Mt:=λs=>if s=r then v else B s
theorem zbS {B:Mt}{r:Nat}{v:Nat->Int}:up B r v r=v:=if_pos rfl
theorem zfm {B:Mt}{r s:Nat}{v:Nat->Int}(h:s≠r):up B r v s=B s:=if_neg h
theorem zvn {B:Mt}{r:Nat}{u v:Nat->Int}:up (up B r u) r v=up B r v:=funext λs=>by unfold up;split<;>rfl
theorem zeZ {B:Mt}{r s:Nat}{u v:Nat->Int}(h:r≠s):up (up B r u) s v=up (up B s v) r u:=funext λq=>by unfold up;split<;>split<;>first | rfl | lia
theorem zdu {B:Mt}{r:Nat}:up B r (B r)=B:=funext λs=>by unfold up;split<;>simp_all
theorem zrX {B:Mt}{r k:Nat}{v:Nat->Int}:(λs=>rm k (up B (r+1) v (s+1)))=up (λs=>rm k (B (s+1))) r (rm k v):=funext λs=>by unfold up;simp only[Nat.add_right_cancel_iff];split<;>rfl
theorem znv {B:Mt}{k:Nat}{v:Nat->Int}:(λs=>rm k (up B 0 v (s+1)))=λs=>rm k (B (s+1)):=rfl
theorem zjw:∀ {n r:Nat}{B:Mt}{x y:Nat->Int}{a b:Int},r<n->D n (up B r λj=>a*x j+b*y j)=a*D n (up B r x)+b*D n (up B r y)
 | n+1,0,B,x,y,a,b,_=>by
  rw[D,D,D,<- zdJ];refine zbi λk _=>?_;rw[znv,znv,znv,zbS,zbS,zbS];grind
 | n+1,r+1,B,x,y,a,b,h=>by
  rw[D,D,D,<- zdJ];refine zbi λk _=>?_;have e:rm k (λj=>a*x j+b*y j)=λj=>a*rm k x j+b*rm k y j:=funext λj=>by unfold rm;split<;>rfl
  rw[zrX,zrX,zrX,e,zjw (Nat.lt_of_succ_lt_succ h)];show sg k*B 0 k*_=_*(sg k*B 0 k*_)+_*(sg k*B 0 k*_)
  grind
theorem ztW {n r:Nat}{B:Mt}{x:Nat->Int}(c:Int)(hr:r<n):c*D n (up B r x)=D n (up B r λj=>c*x j):=by
 have:=zjw (B:=B) (x:=x) (y:=x) (a:=c) (b:=0) hr;rw[Int.zero_mul,Int.add_zero]at this;rw[<- this];congr 2;funext j;lia
theorem zhB:∀ {n:Nat}{B C:Mt},(∀r k,r<n->k<n->B r k=C r k)->D n B=D n C
 | 0,_,_,_=>rfl
 | n+1,B,C,h=>by
  rw[D,D];refine zbi λk hk=>?_;rw[h 0 k (Nat.succ_pos n) hk,zhB λr j hr hj=>?_];unfold rm;split
  ·exact h _ _ (Nat.succ_lt_succ hr) (XJ hj)
  ·exact h _ _ (Nat.succ_lt_succ hr) (Nat.succ_lt_succ hj)
theorem zvo {k l:Nat}(h:l<k)(v:Nat->Int):rm l (rm k v)=rm (k-1) (rm l v):=funext λj=>by
 unfold rm;by_cases h1:j<l
 ·rw[if_pos h1,if_pos (show j<k by lia),if_pos (show j<k-1 by lia),if_pos h1]
 ·rw[if_neg h1];by_cases h2:j+1<k
  ·rw[if_pos h2,if_pos (show j<k-1 by lia),if_neg h1]
  ·rw[if_neg h2,if_neg (show ¬ j<k-1 by lia),if_neg (show ¬ j+1<l by lia)]
theorem zrY:∀ {n r:Nat}{B:Mt},r+1<n->B r=B (r+1)->D n B=0
 | n+2,0,B,_,e=>by
  rw[D];have q:=zkz (f:=λk l=>sg k*B 0 k*(sg l*rm k (B 0) l*D n λr=>rm l (rm k (B (r+2))))) (λk l h=>?_) (n+1)
  ·rw[<- q];refine zbi λk hk=>?_;rw[D];rw[znt,<- e]
  ·show _ = -(sg l*B 0 l*(sg (k-1)*rm l (B 0) (k-1)*_));have e1:rm k (B 0) l=B 0 l:=if_pos h;have e2:rm l (B 0) (k-1)=B 0 k:=by unfold rm;rw[if_neg (by lia),Nat.sub_add_cancel (by lia)]
   have e3:sg k = - sg (k-1):=by rw[<- zrW,Nat.sub_add_cancel (by lia)]
   have e4:(λr=>rm (k-1) (rm l (B (r+2))))=λr=>rm l (rm k (B (r+2))):=funext λr=>(zvo h _).symm;rw[e1,e2,e3,e4];grind
 | n+1,r+1,B,h,e=>by
  rw[D];refine zjv λk _=>?_;rw[zrY (r:=r) (Nat.lt_of_succ_lt_succ h) (by show rm k (B (r+1))=rm k (B (r+1+1));rw[e]),YI]
theorem zqh {n r s:Nat}{B:Mt}{x y:Nat->Int}(hr:r<n)(hs:s<n)(hne:r≠s)(alt:∀z,D n (up (up B r z) s z)=0):D n (up (up B r x) s y) = - D n (up (up B r y) s x):=by
 have h:=alt λj=>1*x j+1*y j;rw[zjw hs,zeZ hne,zeZ hne,zjw hr,zjw hr,<- zeZ hne,<- zeZ hne,<- zeZ hne,<- zeZ hne,alt x,alt y]at h;lia
theorem zrZ:∀ {d n r s:Nat}{B:Mt},s=r+1+d->s<n->B r=B s->D n B=0
 | 0,n,r,s,B,e,h,hb=>zrY (r:=r) (by lia) (by rw[hb,e])
 | d+1,n,r,s,B,e,h,hb=>by
  have hne:s-1≠s:=by lia
  have a1:∀z,D n (up (up B (s-1) z) s z)=0:=λz=>zrY (r:=s-1) (by lia) (by rw[Nat.sub_add_cancel (by lia),zbS,zfm hne,zbS]);have q:=zqh (x:=B (s-1)) (y:=B s) (by lia) h hne a1;have e0:up (up B (s-1) (B (s-1))) s (B s)=B:=by rw[zdu,zdu]
  rw[e0]at q;rw[q,zrZ (d:=d) (r:=r) (s:=s-1) (by lia) (by lia) (by rw[zfm (show r≠s by lia),zfm (show r≠s-1 by lia),zfm hne,zbS,hb])];rfl
theorem znw {n r s:Nat}{B:Mt}(hr:r<n)(hs:s<n)(hne:r≠s)(h:B r=B s):D n B=0:=by
 by_cases z:r<s
 ·exact zrZ (d:=s-r-1) (by lia) hs h
 ·exact zrZ (d:=r-s-1) (by lia) hr h.symm
theorem ztX {n r s:Nat}{B:Mt}{x y:Nat->Int}(hr:r<n)(hs:s<n)(hne:r≠s):D n (up (up B r x) s y) = - D n (up (up B r y) s x):=
 zqh hr hs hne λz=>znw hr hs hne (by rw[zbS,zfm hne,zbS])
theorem znx {n r:Nat}{B:Mt}(hr:r<n):∀(m:Nat)(t:Nat->Int)(u:Nat->Nat->Int),D n (up B r λj=>sm m λk=>t k*u k j)=sm m λk=>t k*D n (up B r (u k))
 | 0,t,u=>by
  have:=zjw (B:=B) (x:=λ_=>0) (y:=λ_=>0) (a:=0) (b:=0) hr;rw[Int.zero_mul,Int.zero_mul]at this;exact this
 | m+1,t,u=>by
  have:=zjw (B:=B) (x:=λj=>sm m λk=>t k*u k j) (y:=u m) (a:=1) (b:=t m) hr;rw[znx hr m,Int.one_mul]at this;rw[sm,<- this]
  congr 1;congr 1;funext j
  rw[sm,Int.one_mul]
def fac:Nat->Int
 | 0=>1
 | n+1=>(n+1)*fac n
theorem D_le:∀ {n:Nat}{B:Mt},(∀r k,-1<=B r k/\B r k<=1)->-fac n<=D n B/\D n B<=fac n
 | 0,_,_=>⟨by show(-1:Int)<=1;decide,Int.le_refl 1⟩
 | n+1,B,h=>by
  have key:∀(m:Nat) (f:Nat->Int) (c:Int),(∀k,-c<=f k/\f k<=c)->-(m*c)<=sm m f/\sm m f<=m*c:=by
   intro m f c hf;induction m with
   | zero=>simp[sm]
   | succ m ih=>
    have:=hf m;rw[sm,Int.natCast_succ,Int.add_mul,Int.one_mul];lia
  rw[D];have:=key (n+1) (λk=>sg k*B 0 k*D n λr=>rm k (B (r+1))) (fac n) λk=>by
   have d:=D_le (n:=n) (B:=λr=>rm k (B (r+1))) λr j=>by unfold rm;split<;>exact h _ _
   have hb:=h 0 k;have hs:sg k=1\/sg k = -1:=by unfold sg;split<;>simp
   generalize D n _=x at *;have:B 0 k = -1\/B 0 k=0\/B 0 k=1:=by lia
   rcases hs with e | e<;>rcases this with f | f | f<;>rw[e,f]<;>lia
  rw[fac];simpa using this
end M41
set_option maxHeartbeats 1000000
namespace M41
theorem ztY {n i r:Nat}{f:Nat->Int}(hi:i<n)(hr:r<n)(hne:i≠r)(h:∀k,k<n->k≠i->k≠r->f k=0):sm n f=f i+f r:=by
 have e:sm n f=sm n λk=>1*(if k=i then f i else 0)+1*(if k=r then f r else 0):=zbi λk hk=>by
  by_cases z:k=i
  ·subst z;rw[if_pos rfl,if_neg hne];lia
  ·by_cases y:k=r
   ·subst y;rw[if_neg z,if_pos rfl];lia
   ·rw[h k hk z y,if_neg z,if_neg y];rfl
 rw[e,zdJ,zdK hi λk _ z=>if_neg z,zdK hr λk _ z=>if_neg z,if_pos rfl,if_pos rfl];lia
theorem zny {n r:Nat}{B:Mt}{x y:Nat->Int}(h:∀k,k<n->x k=y k):D n (up B r x)=D n (up B r y):=zhB λs k _ hk=>by
 unfold up;split
 ·exact h k hk
 ·rfl
structure Pb where
 m:Nat
 n:Nat
 col:Nat->Nat->Int
 spare:∀k,k<m->∀j,j<=m->col (n+k) j=if j=k then 1 else 0
 rhs:∀k,k<m->col (n+m) k=1
 rhsm:col (n+m) m=0
 bin:∀c,c<n->∀k,k<m->col c k=0\/col c k=1
 low:∀c,c<n->col c m = -1
 has:∀c,c<n->∃k,k<m/\col c k=1
section
variable (p:Pb)
def em:Nat->Int:=λk=>if k=p.m then 1 else 0
def Bs (h:List Nat):Mt:=λr=>if r<p.m then p.col (h.getD r 0) else em p
def tb (h:List Nat)(r c:Nat):Int:=D (p.m+1) (up (Bs p h) r (p.col c))
def bt (h:List Nat):Int:=D (p.m+1) (Bs p h)
structure Gd (h:List Nat):Prop where
 len:h.length=p.m
 lt:∀i,i<p.m->h.getD i 0<p.n+p.m
 pos:0<bt p h
 rhs:∀i,i<p.m->0<=tb p h i (p.n+p.m)
 cr:∀c k,k<=p.m->bt p h*p.col c k=sm (p.m+1) λr=>tb p h r c*Bs p h r k
variable {p}{h:List Nat}{i j r c k:Nat}
theorem Pb.nn (hc:c<p.n+p.m)(hk:k<p.m):0<=p.col c k:=by
 by_cases z:c<p.n
 ·rcases p.bin c z k hk with e | e<;>rw[e]<;>decide
 ·have:=p.spare (c-p.n) (by lia) k (by lia);rw[show p.n+(c-p.n)=c by lia]at this;rw[this];split<;>decide
theorem Pb.np (hc:c<p.n+p.m):p.col c p.m<=0:=by
 by_cases z:c<p.n
 ·rw[p.low c z];decide
 ·have:=p.spare (c-p.n) (by lia) p.m (Xf _);rw[show p.n+(c-p.n)=c by lia]at this;rw[this,if_neg (by lia)];decide
theorem Pb.one (hc:c<p.n+p.m):∃k,k<p.m/\p.col c k=1:=by
 by_cases z:c<p.n
 ·exact p.has c z
 ·refine⟨c-p.n,by lia,?_⟩;have:=p.spare (c-p.n) (by lia) (c-p.n) (by lia);rw[show p.n+(c-p.n)=c by lia,if_pos rfl]at this;exact this
theorem Bs_m:Bs p h p.m=em p:=if_neg (YA _)
theorem zlC (hr:r<p.m):Bs p h r=p.col (h.getD r 0):=if_pos hr
theorem zkA (hi:i<p.m)(hl:h.length=p.m):Bs p (h.set i j)=up (Bs p h) i (p.col j):=funext λr=>by
 unfold Bs up;by_cases z:r=i
 ·subst z;rw[if_pos hi,if_pos rfl];congr 1;simp[List.getD,hl,hi]
 ·rw[if_neg z];show(if r<p.m then p.col ((h.set i j).getD r 0) else em p)=if r<p.m then p.col (h.getD r 0) else em p
  simp only[List.getD];rw[Xk (λe=>z e.symm)]
theorem zkB (hi:i<p.m)(hl:h.length=p.m):bt p (h.set i j)=tb p h i j:=by unfold bt tb;rw[zkA hi hl]
theorem zkC (hi:i<p.m)(hl:h.length=p.m):tb p (h.set i j) i c=tb p h i c:=by unfold tb;rw[zkA hi hl,zvn]
theorem zcU (hk:k<p.m)(hr:r<=p.m):tb p h r (h.getD k 0)=if r=k then bt p h else 0:=by
 unfold tb bt;rw[<- zlC hk];split
 ·rename_i e;subst e;rw[zdu]
 ·rename_i e
  exact znw (r:=r) (s:=k) (by lia) (by lia) e (by rw[zbS,zfm (λz=>e z.symm)])
theorem turn (g:Gd p h)(hi:i<p.m)(hr:r<=p.m)(hne:r≠i):bt p h*tb p (h.set i j) r c=tb p h i j*tb p h r c-tb p h r j*tb p h i c:=by
 have hr1:r<p.m+1:=by lia
 have hi1:i<p.m+1:=by lia
 have e1:bt p h*tb p (h.set i j) r c=D (p.m+1) (up (up (Bs p h) i (p.col j)) r λk=>sm (p.m+1) λs=>tb p h s c*Bs p h s k):=by
  show bt p h*D _ (up (Bs p (h.set i j)) r (p.col c))=_;rw[zkA hi g.len,ztW _ hr1];exact zny λk hk=>g.cr c k (by lia)
 have e2:∀s,s<p.m+1->s≠i->s≠r->tb p h s c*D (p.m+1) (up (up (Bs p h) i (p.col j)) r (Bs p h s))=0:=λs hs z1 z2=>by
  rw[znw (r:=r) (s:=s) hr1 hs (λe=>z2 e.symm) (by rw[zbS,zfm z2,zfm z1]),YI]
 have e3:D (p.m+1) (up (up (Bs p h) i (p.col j)) r (Bs p h r))=tb p h i j:=by
  have:up (Bs p h) i (p.col j) r=Bs p h r:=zfm hne;rw[<- this,zdu];rfl
 have e4:D (p.m+1) (up (up (Bs p h) i (p.col j)) r (Bs p h i)) = - tb p h r j:=by
  rw[ztX hi1 hr1 (λe=>hne e.symm),zdu];rfl
 rw[e1,znx hr1,ztY hi1 hr1 (λe=>hne e.symm) e2,e3,e4,Int.mul_neg,YE,YE (tb p h r c)];lia
theorem znz (hr:r<=p.m):tb p h r c=sm p.m (λk=>p.col c k*tb p h r (p.n+k))+p.col c p.m*(if r=p.m then bt p h else 0):=by
 have hr1:r<p.m+1:=by lia
 have e1:tb p h r c=D (p.m+1) (up (Bs p h) r λj=>sm (p.m+1) λk=>p.col c k*(if j=k then 1 else 0)):=by
  refine zny λk hk=>?_;rw[zdK (f:=λl=>p.col c l*if k=l then 1 else 0) hk λl _ z=>by rw[if_neg (λe=>z e.symm),YI],if_pos rfl,Int.mul_one]
 rw[e1,znx (u:=λk j=>if j=k then 1 else 0) hr1,sm]
 congr 1
 ·refine zbi λk hk=>?_
  congr 1
  exact zny λl hl=>(p.spare k hk l (by lia)).symm
 ·congr 1
  have e2:(λj=>if j=p.m then(1:Int) else 0)=Bs p h p.m:=Bs_m.symm
  rw[e2];split
  ·rename_i e;subst e;rw[zdu];rfl
  ·rename_i e
   exact znw (r:=r) (s:=p.m) hr1 (XS _) e (by rw[zbS,zfm (λz=>e z.symm)])
theorem across {hD:List Nat}(g:Gd p h):bt p h*tb p hD p.m c=sm p.m (λi=>tb p h i c*tb p hD p.m (h.getD i 0))+tb p h p.m c*bt p hD:=by
 have hm:p.m<p.m+1:=XS _;have e1:bt p h*tb p hD p.m c=D (p.m+1) (up (Bs p hD) p.m λk=>sm (p.m+1) λs=>tb p h s c*Bs p h s k):=by
  show bt p h*D _ (up (Bs p hD) p.m (p.col c))=_;rw[ztW _ hm];exact zny λk hk=>g.cr c k (by lia)
 rw[e1,znx hm,sm]
 congr 1
 ·refine zbi λi hi=>?_;rw[zlC hi];rfl
 ·congr 1
  have e2:Bs p h p.m=Bs p hD p.m:=by rw[Bs_m,Bs_m]
  rw[e2,zdu];rfl
theorem ztZ (g:Gd p h)(hi:i<p.m)(hk:k<=p.m):bt p (h.set i j)*p.col c k=sm (p.m+1) λr=>tb p (h.set i j) r c*Bs p (h.set i j) r k:=by
 have hb:=g.pos;refine Int.eq_of_mul_eq_mul_left (Int.ne_of_gt hb) ?_;have e1:bt p h*(sm (p.m+1) λr=>tb p (h.set i j) r c*Bs p (h.set i j) r k)=sm (p.m+1) λr=>1*(tb p h i j*(tb p h r c*Bs p h r k)+(- tb p h i c)*(tb p h r j*Bs p h r k))+1*(if r=i then tb p h i c*(bt p h*p.col j k) else 0):=by
  rw[znt];refine zbi λr hr=>?_;rw[zkA hi g.len];by_cases z:r=i
  ·subst z;rw[if_pos rfl,zkC hi g.len,zbS]
   grind
  ·rw[if_neg z,zfm z,<- Int.mul_assoc,turn g hi (by lia) z]
   grind
 rw[e1,zdJ,zdJ,<- g.cr c k hk,<- g.cr j k hk,zdK (i:=i) (by lia) λl _ z=>if_neg z,if_pos rfl,zkB hi g.len]
 grind
theorem ends (g:Gd p h)(hj:j<p.n+p.m):∃i,i<p.m/\0<tb p h i j:=by
 obtain⟨k,hk,e⟩:=p.one hj;have q:=g.cr j k (by lia);rw[e,Int.mul_one,sm,Bs_m]at q;have z:em p k=0:=if_neg (by lia);rw[z,YI,Int.add_zero]at q;obtain⟨i,hi,hp⟩:=znu (n:=p.m) (f:=λr=>tb p h r j*Bs p h r k) (by rw[<- q];exact g.pos);refine⟨i,hi,?_⟩;rw[zlC hi]at hp;have:=p.nn (g.lt i hi) hk;exact Decidable.byContradiction λz=>by
  have:=YK (Int.not_lt.mp z) this;lia
theorem zua (g:Gd p h):0<=tb p h p.m (p.n+p.m):=by
 have q:=g.cr (p.n+p.m) p.m (Xf _);rw[p.rhsm,YI,sm,Bs_m]at q;have z:em p p.m=1:=if_pos rfl;rw[z,Int.mul_one]at q;have:=zrV (n:=p.m) (f:=λr=>(-1)*(tb p h r (p.n+p.m)*Bs p h r p.m)+0*0) λr hr=>by
  rw[zlC hr];have h1:=g.rhs r hr;have h2:=p.np (g.lt r hr);have:=Int.mul_nonpos_of_nonneg_of_nonpos h1 h2;lia
 rw[zdJ (g:=λ_=>0)]at this;lia
end
end M41
set_option maxHeartbeats 1000000
namespace M41
theorem ratio {a b c d e f:Int}(hd:0<d)(hf:0<f)(hb:0<b)(h1:a*d<=c*b)(h2:c*f<=e*d):a*f<=e*b:=by
 refine Int.le_of_mul_le_mul_left ?_ hd;have q1:=Int.mul_le_mul_of_nonneg_right h1 (Int.le_of_lt hf);have q2:=Int.mul_le_mul_of_nonneg_right h2 (Int.le_of_lt hb);have e1:d*(a*f)=a*d*f:=by rw[YE a d,Int.mul_assoc]
 have e2:c*b*f=c*f*b:=Int.mul_right_comm _ _ _;have e3:d*(e*b)=e*d*b:=by rw[YE e d,Int.mul_assoc]
 rw[e1,e3];exact Int.le_trans q1 (e2▸q2)
theorem zhC {a b c d e f:Int}(hd:0<d)(hf:0<f)(hb:0<b)(h:a*d<c*b/\c*f<=e*d\/a*d<=c*b/\c*f<e*d):a*f<e*b:=by
 refine Int.lt_of_mul_lt_mul_left ?_ (Int.le_of_lt hd);have e1:d*(a*f)=a*d*f:=by rw[YE a d,Int.mul_assoc]
 have e2:c*b*f=c*f*b:=Int.mul_right_comm _ _ _;have e3:d*(e*b)=e*d*b:=by rw[YE e d,Int.mul_assoc]
 rw[e1,e3];rcases h with ⟨h1,h2⟩ | ⟨h1,h2⟩
 ·exact Int.lt_of_lt_of_le (Int.mul_lt_mul_of_pos_right h1 hf) (e2▸Int.mul_le_mul_of_nonneg_right h2 (Int.le_of_lt hb))
 ·exact Int.lt_of_le_of_lt (Int.mul_le_mul_of_nonneg_right h1 (Int.le_of_lt hf)) (e2▸Int.mul_lt_mul_of_pos_right h2 hb)
theorem zcx {P:Nat->Prop}:∀ {y x:Nat},x<y->P x->¬ P y->∃e,x<=e/\e<y/\P e/\¬ P (e+1)
 | y+1,x,h,hx,hy=>by
  by_cases z:P y
  ·exact⟨y,by lia,XS y,z,hy⟩
  ·have:x≠y:=λe=>z (e▸hx);obtain⟨e,h1,h2,h3⟩:=zcx (y:=y) (x:=x) (by lia) hx z;exact⟨e,h1,by lia,h3⟩
section
variable {p:Pb}{h:List Nat}{i j r c k:Nat}
structure Ent (p:Pb)(h:List Nat)(j:Nat):Prop where
 lt:j<p.n+p.m
 neg:tb p h p.m j<0
 first:∀c,c<j->0<=tb p h p.m c
structure Lev (p:Pb)(h:List Nat)(j i:Nat):Prop where
 lt:i<p.m
 pos:0<tb p h i j
 best:∀r,r<p.m->0<tb p h r j->tb p h i (p.n+p.m)*tb p h r j<tb p h r (p.n+p.m)*tb p h i j\/(tb p h i (p.n+p.m)*tb p h r j=tb p h r (p.n+p.m)*tb p h i j/\h.getD i 0<=h.getD r 0)
theorem zeF (hl:i<h.length):(h.set i j).getD r 0=if r=i then j else h.getD r 0:=by
 simp only[List.getD];split
 ·rename_i e;subst e;simp[hl]
 ·rename_i e;rw[Xk (λz=>e z.symm)]
theorem Gd.zkD (g:Gd p h)(hk:k<p.m)(hj:tb p h p.m j≠0):h.getD k 0≠j:=λe=>hj (by rw[<- e,zcU hk (Xf _),if_neg (by lia)])
theorem Gd.step (g:Gd p h)(he:j<p.n+p.m)(hv:Lev p h j i):Gd p (h.set i j):=by
 have hil:i<h.length:=by rw[g.len];exact hv.lt
 refine⟨by rw[Yk,g.len],λr hr=>?_,by rw[zkB hv.lt g.len];exact hv.pos,λr hr=>?_,λc k hk=>ztZ g hv.lt hk⟩
 ·rw[zeF hil];split
  ·exact he
  ·exact g.lt r hr
 ·by_cases z:r=i
  ·subst z;rw[zkC hv.lt g.len];exact g.rhs r hr
  ·have q:=turn (j:=j) (c:=p.n+p.m) g hv.lt (Ys hr) z;have h1:=g.rhs r hr;have h2:=g.rhs i hv.lt;refine Int.le_of_mul_le_mul_left ?_ g.pos;rw[YI,q];by_cases y:0<tb p h r j
   ·have:=hv.best r hr y;rw[YE (tb p h i j),YE (tb p h r j)];lia
   ·have q1:=Int.mul_nonneg (Int.le_of_lt hv.pos) h1;have q2:=YK (Int.not_lt.mp y) h2;lia
theorem zpt {f:Nat->List Nat}{J I:Nat->Nat}{L:Nat}(hL:0<L)(hg:∀t,t<L->Gd p (f t))(hJ:∀t,t<L->Ent p (f t) (J t))(hI:∀t,t<L->Lev p (f t) (J t) (I t))(hs:∀t,t<L->f (t+1)=(f t).set (I t) (J t))(he:f L=f 0):False:=by
 have gd:∀t,t<=L->Gd p (f t):=λt ht=>by
  by_cases z:t=L
  ·rw[z,he];exact hg 0 hL
  ·exact hg t (by lia)
 have lenf:∀t,t<L->I t<(f t).length:=λt ht=>by rw[(hg t ht).len];exact(hI t ht).lt
 have bs:∀t,t<L->bt p (f (t+1))=tb p (f t) (I t) (J t):=λt ht=>by rw[hs t ht,zkB (hI t ht).lt (hg t ht).len]
 have one:∀t,t<L->bt p (f t)*tb p (f (t+1)) p.m (p.n+p.m)=bt p (f (t+1))*tb p (f t) p.m (p.n+p.m)-tb p (f t) p.m (J t)*tb p (f t) (I t) (p.n+p.m):=λt ht=>by
  rw[bs t ht,hs t ht];exact turn (hg t ht) (hI t ht).lt (Xf _) (by have:=(hI t ht).lt;lia)
 have le1:∀t,t<L->tb p (f t) p.m (p.n+p.m)*bt p (f (t+1))<=tb p (f (t+1)) p.m (p.n+p.m)*bt p (f t):=λt ht=>by
  have q:=one t ht;have:=YK (Int.le_of_lt (hJ t ht).neg) ((hg t ht).rhs _ (hI t ht).lt);rw[YE,YE (tb p (f (t+1)) _ _)];lia
 have le:∀s t,s<=t->t<=L->tb p (f s) p.m (p.n+p.m)*bt p (f t)<=tb p (f t) p.m (p.n+p.m)*bt p (f s):=by
  intro s t hst ht;induction t with
  | zero=>
   have z:s=0:=by lia
   subst z;exact Int.le_refl _
  | succ t ih=>
   by_cases z:s=t+1
   ·rw[z];exact Int.le_refl _
   ·exact ratio (gd t (by lia)).pos (gd (t+1) ht).pos (gd s (by lia)).pos (ih (by lia) (by lia)) (le1 t (by lia))
 have idle:∀t,t<L->tb p (f t) (I t) (p.n+p.m)=0:=λt ht=>by
  have hn:=(hg t ht).rhs _ (hI t ht).lt;refine Decidable.byContradiction λz=>?_;have st:tb p (f t) p.m (p.n+p.m)*bt p (f (t+1))<tb p (f (t+1)) p.m (p.n+p.m)*bt p (f t):=by
   have q:=one t ht;have:=Int.mul_neg_of_neg_of_pos (hJ t ht).neg (show 0<tb p (f t) (I t) (p.n+p.m) by lia);rw[YE,YE (tb p (f (t+1)) _ _)];lia
  have q1:=zhC (gd t (by lia)).pos (gd (t+1) ht).pos (gd 0 (by lia)).pos (.inr ⟨le 0 t (by lia) (by lia),st⟩);have q2:=zhC (gd (t+1) ht).pos (gd L (Xf _)).pos (gd 0 (by lia)).pos (.inl ⟨q1,le (t+1) L ht (Xf _)⟩);rw[he]at q2;exact Int.lt_irrefl _ q2
 have row1:∀r,r<p.m->∀t,t<L->(tb p (f t) r (p.n+p.m)=0↔tb p (f (t+1)) r (p.n+p.m)=0):=λr hr t ht=>by
  have b0:=(gd t (by lia)).pos;have b1:=(gd (t+1) ht).pos;by_cases z:r=I t
  ·rw[hs t ht,z,zkC (hI t ht).lt (hg t ht).len]
  ·have q:=turn (j:=J t) (c:=p.n+p.m) (hg t ht) (hI t ht).lt (Ys hr) z;rw[idle t ht,YI,Int.sub_zero,<- bs t ht,<- hs t ht]at q;constructor
   ·intro e;rw[e,YI]at q;exact(Int.mul_eq_zero.mp q).resolve_left (by lia)
   ·intro e;rw[e,YI]at q;exact(Int.mul_eq_zero.mp q.symm).resolve_left (by lia)
 have row:∀r,r<p.m->∀t,t<=L->(tb p (f 0) r (p.n+p.m)=0↔tb p (f t) r (p.n+p.m)=0):=λr hr t ht=>by
  induction t with
  | zero=>exact Iff.rfl
  | succ t ih=>exact(ih (by lia)).trans (row1 r hr t (by lia))
 obtain⟨d,hd,hmax⟩:∃d,d<L/\∀s,s<L->J s<=J d:=by
  have:∀n,n<L->∃d,d<=n/\∀s,s<=n->J s<=J d:=λn=>by
   induction n with
   | zero=>exact λ_=>⟨0,Xf _,λs hs=>by rw[Nat.le_zero.mp hs];exact Xf _⟩
   | succ n ih=>
    intro hn;obtain⟨d,h1,h2⟩:=ih (by lia);by_cases z:J d<=J (n+1)
    ·exact⟨n+1,Xf _,λs hs=>by
      by_cases y:s=n+1
      ·rw[y];exact Xf _
      ·exact Xx (h2 s (by lia)) z⟩
    ·exact⟨d,by lia,λs hs=>by
      by_cases y:s=n+1
      ·rw[y];lia
      ·exact h2 s (by lia)⟩
  obtain⟨d,h1,h2⟩:=this (L-1) (by lia);exact⟨d,by lia,λs hs=>h2 s (by lia)⟩
 let Hd:Nat->Nat->Prop:=λx t=>∃k,k<p.m/\(f t).getD k 0=x;have out:∀t,t<L->¬ Hd (J t) t:=(λt ht ⟨k,hk,e⟩=>(hg t ht).zkD hk (Int.ne_of_lt (hJ t ht).neg) e);have into:∀x t,t<L->¬ Hd x t->Hd x (t+1)->J t=x:=λx t ht h1 ⟨k,hk,e⟩=>by
  rw[hs t ht,zeF (lenf t ht)]at e;split at e
  ·exact e
  ·exact absurd ⟨k,hk,e⟩ h1
 have gone:∀x t,t<L->Hd x t->¬ Hd x (t+1)->(f t).getD (I t) 0=x:=λx t ht ⟨k,hk,e⟩ h2=>by
  by_cases z:k=I t
  ·rw[<- z];exact e
  ·exact absurd ⟨k,hk,by rw[hs t ht,zeF (lenf t ht),if_neg z];exact e⟩ h2
 have wrap:∀x,Hd x L↔Hd x 0:=λx=>by
  show(∃k,k<p.m/\(f L).getD k 0=x)↔_;rw[he]
 have fresh:Hd (J d) (d+1):=⟨I d,(hI d hd).lt,by rw[hs d hd,zeF (lenf d hd),if_pos rfl]⟩;obtain⟨e,heL,he1,he2⟩:∃e,e<L/\Hd (J d) e/\¬ Hd (J d) (e+1):=by
  by_cases z:Hd (J d) L
  ·have h0:=(wrap _).mp z;have d0:0<d:=Nat.pos_of_ne_zero λy=>out d hd (by rw[y];rw[y]at h0;exact h0);obtain⟨e,_,h2,h3,h4⟩:=zcx (P:=Hd (J d)) d0 h0 (out d hd);exact⟨e,by lia,h3,h4⟩
  ·have:d+1≠L:=λy=>z (y▸fresh);obtain⟨e,_,h2,h3,h4⟩:=zcx (P:=Hd (J d)) (show d+1<L by lia) fresh z;exact⟨e,h2,h3,h4⟩
 have eL:=gone _ e heL he1 he2;have gE:=hg e heL;have vE:=hI e heL;have hne:J e≠J d:=λz=>out e heL (z▸he1);have hlt:J e<J d:=by have:=hmax e heL;lia
 have q:=across (hD:=f d) (c:=J e) gE;have q1:=Int.mul_nonneg (Int.le_of_lt gE.pos) ((hJ d hd).first _ hlt)
 have q2:=Int.mul_neg_of_neg_of_pos (hJ e heL).neg (hg d hd).pos;rw[q]at q1;obtain⟨i,hi,hp⟩:=znu (n:=p.m) (f:=λi=>tb p (f e) i (J e)*tb p (f d) p.m ((f e).getD i 0)) (by lia);have hz:tb p (f d) p.m ((f e).getD i 0)≠0:=λz=>by rw[z,YI]at hp;exact Int.lt_irrefl _ hp
 generalize hx:(f e).getD i 0=x at hp hz;have xd:¬ Hd x d:=(λ⟨k,hk,y⟩=>(hg d hd).zkD hk hz y);have xe:Hd x e:=⟨i,hi,hx⟩;have hde:d≠e:=λy=>xd (y▸xe);have hxm:x<=J d:=by
  by_cases y:d<e
  ·obtain⟨u,h1,h2,h3,h4⟩:=zcx (P:=λt=>¬ Hd x t) y xd (λz=>z xe);rw[<- into x u (by lia) h3 (Classical.not_not.mp h4)];exact hmax u (by lia)
  ·by_cases z:Hd x 0
   ·obtain⟨u,h1,h2,h3,h4⟩:=zcx (P:=λt=>¬ Hd x t) hd xd (λv=>v ((wrap x).mpr z));rw[<- into x u (by lia) h3 (Classical.not_not.mp h4)];exact hmax u (by lia)
   ·have e0:0<e:=Nat.pos_of_ne_zero λv=>z (v▸xe);obtain⟨u,h1,h2,h3,h4⟩:=zcx (P:=λt=>¬ Hd x t) e0 z (λv=>v xe);rw[<- into x u (by lia) h3 (Classical.not_not.mp h4)];exact hmax u (by lia)
 have hi0:tb p (f e) i (p.n+p.m)=0:=by
  have key:∃u,u<L/\I u=i:=by
   have mv:∀u,u<L->((f u).getD i 0=x)≠((f (u+1)).getD i 0=x)->I u=i:=λu hu hv=>Decidable.byContradiction λz=>hv (by rw[hs u hu,zeF (lenf u hu),if_neg λy=>z y.symm]);by_cases y:d<e
   ·obtain⟨u,h1,h2,h3,h4⟩:=zcx (P:=λt=>¬ (f t).getD i 0=x) y (λz=>xd ⟨i,hi,z⟩) (λz=>z hx);exact⟨u,by lia,mv u (by lia) λz=>h4 λv=>h3 (z▸v)⟩
   ·obtain⟨u,h1,h2,h3,h4⟩:=zcx (P:=λt=>(f t).getD i 0=x) (show e<d by lia) hx (λz=>xd ⟨i,hi,z⟩);exact⟨u,by lia,mv u (by lia) λz=>h4 (z▸h3)⟩
  obtain⟨u,hu,rfl⟩:=key;exact(row _ hi e (by lia)).mp ((row _ hi u (by lia)).mpr (idle u hu))
 by_cases hxd:x=J d
 ·have hie:i=I e:=by
   have e1:=zcU (p:=p) (h:=f e) (k:=i) (r:=I e) hi (Ys vE.lt);have e2:=zcU (p:=p) (h:=f e) (k:=I e) (r:=I e) vE.lt (Ys vE.lt);rw[if_pos rfl,eL,<- hxd,<- hx,e1]at e2;refine Decidable.byContradiction λz=>?_;rw[if_neg λy=>z y.symm]at e2;have:=gE.pos;lia
  have h1:=vE.pos;rw[<- hie]at h1;have:=Int.mul_neg_of_pos_of_neg h1 (hJ d hd).neg;rw[<- hxd]at this;lia
 ·have hnn:=(hJ d hd).first x (by lia)
  have hpos:0<tb p (f e) i (J e):=by
   refine Decidable.byContradiction λz=>?_;have:=YK (Int.not_lt.mp z) hnn;lia
  rcases vE.best i hi hpos with b | ⟨_,b⟩
  ·rw[idle e heL,hi0,Int.zero_mul,Int.zero_mul]at b;exact Int.lt_irrefl _ b
  ·rw[eL,hx]at b;lia
end
end M41
set_option maxHeartbeats 1000000
namespace M41
theorem D_id:∀n,D n (λr k=>if k=r then 1 else 0)=1
 | 0=>rfl
 | n+1=>by
  rw[D,zdK (i:=0) (Nat.succ_pos n) λk _ hk=>by rw[if_neg hk];lia];have e:(λr=>rm 0 λk=>if k=r+1 then(1:Int) else 0)=λr k=>if k=r then 1 else 0:=funext λr=>funext λk=>by
   unfold rm;rw[if_neg (by lia)];show(if k+1=r+1 then(1:Int) else 0)=_
   by_cases z:k=r
   ·rw[if_pos z,if_pos (by lia)]
   ·rw[if_neg z,if_neg (by lia)]
  rw[e,D_id n];rfl
section
variable {p:Pb}{h:List Nat}{i j r c k:Nat}
def start (p:Pb):List Nat:=(Xz p.m).map λi=>p.n+i
theorem zkE (hi:i<p.m):(start p).getD i 0=p.n+i:=by simp[start,List.getD,hi]
theorem zeG (hr:r<=p.m)(hk:k<=p.m):Bs p (start p) r k=if k=r then 1 else 0:=by
 by_cases z:r<p.m
 ·rw[zlC z,zkE z,p.spare r z k hk]
 ·have:r=p.m:=by lia
  subst this;rw[Bs_m];rfl
theorem zfr:bt p (start p)=1:=by
 rw[<- D_id (p.m+1)];exact zhB λr k hr hk=>zeG (by lia) (by lia)
theorem tb_start (hr:r<=p.m):tb p (start p) r c=p.col c r:=by
 have hr1:r<p.m+1:=by lia
 have e1:tb p (start p) r c=D (p.m+1) (up (Bs p (start p)) r λj=>sm (p.m+1) λk=>p.col c k*Bs p (start p) k j):=zny λk hk=>by
  rw[zdK hk λl hl z=>by rw[zeG (by lia) (by lia),if_neg (λe=>z e.symm),YI],zeG (by lia) (by lia),if_pos rfl,Int.mul_one]
 rw[e1,znx hr1,zdK hr1 λl hl z=>by rw[znw (r:=r) (s:=l) hr1 hl (λe=>z e.symm) (by rw[zbS,zfm z]),YI],zdu];show _*bt p (start p)=_;rw[zfr,Int.mul_one]
theorem Gd.start:Gd p (start p) where
 len:=by simp[M41.start]
 lt i hi:=by rw[zkE hi];lia
 pos:=by rw[zfr];decide
 rhs i hi:=by rw[tb_start (by lia),p.rhs i hi];decide
 cr c k hk:=by
  rw[zfr,Int.one_mul,zdK (i:=k) (by lia) λl hl z=>by rw[zeG (by lia) hk,if_neg (λe=>z e.symm),YI],zeG hk hk,if_pos rfl,Int.mul_one,tb_start hk]
theorem Pb.le1 (hc:c<=p.n+p.m)(hk:k<=p.m):-1<=p.col c k/\p.col c k<=1:=by
 by_cases z:c<p.n
 ·by_cases y:k<p.m
  ·rcases p.bin c z k y with e | e<;>rw[e]<;>decide
  ·have:k=p.m:=by lia
   rw[this,p.low c z];decide
 ·by_cases y:c<p.n+p.m
  ·have:=p.spare (c-p.n) (by lia) k hk;rw[show p.n+(c-p.n)=c by lia]at this;rw[this];split<;>decide
  ·have:c=p.n+p.m:=by lia
   subst this;by_cases x:k<p.m
   ·rw[p.rhs k x];decide
   ·have:k=p.m:=by lia
    rw[this,p.rhsm];decide
theorem Gd.zqi (g:Gd p h)(hr:r<=p.m)(hc:c<=p.n+p.m):-fac (p.m+1)<=tb p h r c/\tb p h r c<=fac (p.m+1):=by
 have e:tb p h r c=D (p.m+1) λs k=>if s<=p.m/\k<=p.m then up (Bs p h) r (p.col c) s k else 0:=zhB λs k hs hk=>by rw[if_pos ⟨by lia,by lia⟩]
 have:=D_le (n:=p.m+1) (B:=λs k=>if s<=p.m/\k<=p.m then up (Bs p h) r (p.col c) s k else 0) λs k=>by
  split
  ·rename_i z
   unfold up;split
   ·exact Pb.le1 hc z.2
   ·by_cases y:s<p.m
    ·rw[zlC y];exact Pb.le1 (Ys (g.lt s y)) z.2
    ·have:s=p.m:=by lia
     rw[this,Bs_m];unfold em;split<;>decide
  ·decide
 rw[<- e]at this;lia
theorem Gd.small (g:Gd p h)(hm:p.m<=6)(hr:r<=p.m)(hc:c<=p.n+p.m):-5040<=tb p h r c/\tb p h r c<=5040:=by
 have:=g.zqi hr hc;have f:fac (p.m+1)<=5040:=(by decide:∀k,k<7->fac (k+1)<=5040) _ (by lia);lia
theorem Gd.zqj (g:Gd p h)(hm:p.m<=4)(hr:r<=p.m)(hc:c<=p.n+p.m):tb p h r c<=120:=by
 have:=g.zqi hr hc;have f:fac (p.m+1)<=120:=(by decide:∀k,k<5->fac (k+1)<=120) _ (by lia);lia
def pr (p:Pb)(h:List Nat)(c:Nat):Int:=sm p.m λr=>if h.getD r 0=c then tb p h r (p.n+p.m) else 0
theorem znA (g:Gd p h)(hk:k<p.m):pr p h (h.getD k 0)=tb p h k (p.n+p.m):=by
 unfold pr;rw[zdK hk λr hr z=>if_neg λe=>?_,if_pos rfl];have e1:=zcU (p:=p) (h:=h) (k:=r) (r:=k) hr (by lia);rw[e,zcU hk (by lia),if_pos rfl,if_neg λy=>z y.symm]at e1;have:=g.pos;lia
theorem zqk (hc:∀k,k<p.m->h.getD k 0≠c):pr p h c=0:=zjv λr hr=>if_neg (hc r hr)
theorem zvp (g:Gd p h):0<=pr p h c:=zrV λr hr=>by
 split
 ·exact g.rhs r hr
 ·decide
theorem cover (hc:c<p.n)(hn:0<=tb p h p.m c):bt p h<=sm p.m λk=>p.col c k*tb p h p.m (p.n+k):=by
 have q:=znz (p:=p) (h:=h) (c:=c) (Xf p.m);rw[if_pos rfl,p.low c hc]at q;lia
def code:List Nat->Nat
 | []=>0
 | x::l=>x+16*code l
theorem znB:∀ {l:List Nat},(∀x∈l,x<16)->code l<16 ^ l.length
 | [],_=>by decide
 | x::l,h=>by
  have h1:=h x Xh;have h2:=znB λy hy=>h y (Xi _ hy);rw[code,XE,YF];lia
theorem code_inj:∀ {l m:List Nat},l.length=m.length->(∀x∈l,x<16)->(∀x∈m,x<16)->code l=code m->l=m
 | [],[],_,_,_,_=>rfl
 | x::l,y::m,hl,h1,h2,e=>by
  rw[code,code]at e;have a:=h1 x Xh;have b:=h2 y Xh;have:x=y:=by lia
  subst this;rw[code_inj (Nat.succ.inj hl) (λz hz=>h1 z (Xi _ hz)) (λz hz=>h2 z (Xi _ hz)) (by lia)]
theorem zql:∀ {b t:Nat}{g:Nat->Nat},(∀s,s<t->g s<b)->(∀s u,s<u->u<t->g s≠g u)->t<=b
 | 0,t,g,h1,h2=>Nat.le_of_not_lt λz=>absurd (h1 0 z) (Nat.not_lt_zero _)
 | b+1,0,g,h1,h2=>XH _
 | b+1,t+1,g,h1,h2=>by
  have:=zql (b:=b) (t:=t) (g:=λs=>if g s=b then g t else g s) (λs hs=>?_) (λs u hsu hu=>?_)
  ·lia
  ·have q1:=h1 s (by lia);have q2:=h1 t (by lia);have q3:=h2 s t hs (by lia);show(if g s=b then g t else g s)<b
   split<;>lia
  ·have q1:=h2 s u hsu (by lia);have q2:=h2 s t (by lia) (by lia);have q3:=h2 u t hu (by lia);show(if g s=b then g t else g s)≠if g u=b then g t else g u
   split<;>split<;>lia
theorem short {f:Nat->List Nat}{J I:Nat->Nat}{t:Nat}(hm:p.n+p.m<=16)(hg:∀s,s<t->Gd p (f s))(hJ:∀s,s<t->Ent p (f s) (J s))(hI:∀s,s<t->Lev p (f s) (J s) (I s))(hs:∀s,s+1<t->f (s+1)=(f s).set (I s) (J s)):t<=16 ^ p.m:=by
 have lt16:∀s,s<t->∀x∈f s,x<16:=λs h x hx=>by
  obtain⟨i,hi,e⟩:=List.getElem_of_mem hx;have:=(hg s h).lt i (by rw[<- (hg s h).len];exact hi);simp only[List.getD,Xg hi,Option.getD_some]at this;lia
 refine zql (g:=λs=>code (f s)) (λs h=>?_) (λs u hsu hu e=>?_)
 ·have:=znB (lt16 s h);rw[(hg s h).len]at this;exact this
 ·have e:=code_inj (by rw[(hg s (by lia)).len,(hg u hu).len]) (lt16 s (by lia)) (lt16 u hu) e;exact zpt (p:=p) (f:=λv=>f (s+v)) (J:=λv=>J (s+v)) (I:=λv=>I (s+v)) (L:=u-s) (by lia) (λv hv=>hg _ (by lia)) (λv hv=>hJ _ (by lia)) (λv hv=>hI _ (by lia)) (λv hv=>hs (s+v) (by lia)) (by
   show f (s+(u-s))=f (s+0);rw[show s+(u-s)=u by lia];exact e.symm)
end
end M41
namespace K01
open PySem PySem.Spec PyProof.Rows
def leS (a b:Str):Prop:=a.cps.toList<=b.cps.toList
theorem znC {a b c:Str}(h1:leS a b)(h2:leS b c):leS a c:=List.le_trans h1 h2
theorem ziC {a b:Str}(h1:leS a b)(h2:leS b a):a=b:=by
 have e:a.cps.toList=b.cps.toList:=List.le_antisymm h1 h2;cases a;cases b;simp only[Str.mk.injEq];exact Array.toList_inj.mp e
theorem zub {a b:Str}(h:ltCps b.cps.toList a.cps.toList=false):leS a b:=by
 rw[ltCps_eq]at h;exact List.not_lt.mp (of_decide_eq_false h)
theorem ziD:∀(p:Str)(l:List Str),risingS p l=true->(p::l).Pairwise leS
 | p,[],_=>List.pairwise_singleton _ _
 | p,x::r,h=>by
  have h':(!ltCps x.cps.toList p.cps.toList&&risingS x r)=true:=h;rw[Yo]at h';have h1:leS p x:=zub (by simpa using h'.1);have ih:=ziD x r h'.2;refine YJ.mpr ⟨λy hy=>?_,ih⟩;rcases Xo.mp hy with e | hy
  ·rw[e];exact h1
  ·exact znC h1 ((YJ.mp ih).1 y hy)
theorem ziE:∀(l:List Str),sortedS l=true->l.Pairwise leS
 | [],_=>List.Pairwise.nil
 | x::r,h=>ziD x r h
theorem zgO:∀ {xs ys:List Str},xs.Pairwise leS->ys.Pairwise leS->xs.Nodup->ys.Nodup->(∀x,x∈xs↔x∈ys)->xs=ys
 | [],[],_,_,_,_,_=>rfl
 | [],y::ys,_,_,_,_,h=>absurd ((h y).mpr Xh) (by simp)
 | x::xs,[],_,_,_,_,h=>absurd ((h x).mp Xh) (by simp)
 | x::xs,y::ys,p,q,n,m,h=>by
  obtain⟨p1,p2⟩:=YJ.mp p;obtain⟨q1,q2⟩:=YJ.mp q;obtain⟨n1,n2⟩:=XX.mp n;obtain⟨m1,m2⟩:=XX.mp m;have e:x=y:=by
   rcases Xo.mp ((h x).mp Xh)with e | hx
   ·exact e
   ·rcases Xo.mp ((h y).mpr Xh)with e | hy
    ·exact e.symm
    ·exact ziC (p1 y hy) (q1 x hx)
  subst e;rw[zgO p2 q2 n2 m2 λz=>?_];constructor
  ·intro hz;rcases Xo.mp ((h z).mp (Xi _ hz))with e | hz'
   ·subst e;exact absurd hz n1
   ·exact hz'
  ·intro hz;rcases Xo.mp ((h z).mpr (Xi _ hz))with e | hz'
   ·subst e;exact absurd hz m1
   ·exact hz'
end K01
namespace PL
open PySem PySem.Spec L2
open PyProof.Rows hiding St
abbrev PFB:=List PV->(List PV->Prop)->Prop
abbrev TXS:=(We->Prop)->TPS
abbrev TXE:=(We->Prop)->TPE
abbrev PFX:=List PV->(PV->Kd->Prop)->(We->Prop)->Prop
abbrev TXI:=(We->Prop)->TPI
section
variable {X:Cx}{o e a b:Expr}{to te ta tb:TPE}{es:List Expr}{t:TPA}{p pos apos cpos:Pos}
def fAny:PF:=λds Q=>∃bs:List Bool,ds=[.lst (bs.map PV.bl)]/\Q (.bl (bs.any id)) .frz
end
end PL
namespace M43
variable {α β:Type}
def pd:List α->(α->Nat)->Nat
 | [],_=>1
 | a::l,f=>f a*pd l f
def sl:List α->(α->Nat)->Nat
 | [],_=>0
 | a::l,f=>f a+sl l f
theorem znD (l m:List α)(f:α->Nat):pd (l++m) f=pd l f*pd m f:=by
 induction l with
 | nil=>show pd m f=1*pd m f;rw[Nat.one_mul]
 | cons a l ih=>show f a*pd (l++m) f=f a*pd l f*pd m f;rw[ih,Ym]
theorem ziF {l:List α}{f g:α->Nat}(h:∀a∈l,f a<=g a):pd l f<=pd l g:=by
 induction l with
 | nil=>exact Xf _
 | cons a l ih=>exact Nat.mul_le_mul (h a Xh) (ih λb hb=>h b (Xi _ hb))
theorem zqm (l:List α)(f g:α->Nat):pd l (λa=>f a*g a)=pd l f*pd l g:=by
 induction l with
 | nil=>rfl
 | cons a l ih=>
  show f a*g a*pd l (λa=>f a*g a)=f a*pd l f*(g a*pd l g);rw[ih,Ym,Ym,Nat.mul_left_comm (g a)]
theorem znE (l:List α)(f:α->Nat)(c:Nat):sl l (λa=>f a*c)=sl l f*c:=by
 induction l with
 | nil=>show 0=0*c;rw[Nat.zero_mul]
 | cons a l ih=>show f a*c+sl l (λa=>f a*c)=(f a+sl l f)*c;rw[ih,Nat.add_mul]
theorem znF (l:List α)(f g:α->Nat):sl l (λa=>f a+g a)=sl l f+sl l g:=by
 induction l with
 | nil=>rfl
 | cons a l ih=>
  show f a+g a+sl l (λa=>f a+g a)=f a+sl l f+(g a+sl l g);rw[ih];lia
theorem zsa (l:List α)(m:List β)(f:α->β->Nat):sl l (λa=>sl m (f a))=sl m λb=>sl l λa=>f a b:=by
 induction l with
 | nil=>
  show 0=sl m λ_=>0;induction m with
  | nil=>rfl
  | cons b m ih=>show 0=0+sl m λ_=>0;rw[<- ih]
 | cons a l ih=>
  show sl m (f a)+sl l (λa=>sl m (f a))=sl m λb=>f a b+sl l λa=>f a b;rw[ih,znF]
theorem zqn {l:List α}{f:α->Nat}{a:α}(h:a∈l):f a ∣ pd l f:=by
 induction l with
 | nil=>cases h
 | cons b l ih=>
  rcases Xo.mp h with rfl | h
  ·exact Nat.dvd_mul_right _ _
  ·exact Nat.dvd_trans (ih h) (Nat.dvd_mul_left _ _)
theorem zkF (l:List α)(c:Nat):pd l (λ_=>c)=c ^ l.length:=by
 induction l with
 | nil=>rfl
 | cons a l ih=>show c*pd l (λ_=>c)=c ^ (l.length+1);rw[ih,YF,Yv]
theorem zvq (A B m:Nat):A*B ^ m+A ^ m*B<=A ^ m*A+B ^ m*B:=by
 have key:∀p t c u:Nat,(c+u)*p+(p+t)*c<=(p+t)*(c+u)+p*c:=λp t c u=>by
  have e:(p+t)*(c+u)+p*c=(c+u)*p+(p+t)*c+t*u:=by grind
  rw[e];exact Nat.le_add_right _ _
 rcases Nat.le_total A B with h | h
 ·have h1:=Nat.pow_le_pow_left h m;obtain⟨u,rfl⟩:=Nat.exists_eq_add_of_le h;obtain⟨t,ht⟩:=Nat.exists_eq_add_of_le h1;rw[ht];have k:=key (A ^ m) t A u;rw[Nat.add_comm (A ^ m*A),Nat.add_comm (A*_),Yv A,Yv (A ^ m) (A+u)];exact k
 ·have h1:=Nat.pow_le_pow_left h m;obtain⟨u,rfl⟩:=Nat.exists_eq_add_of_le h;obtain⟨t,ht⟩:=Nat.exists_eq_add_of_le h1;rw[ht];exact key (B ^ m) t B u
theorem two (A B:Nat):∀m,(m+1)*A*B ^ m<=A ^ (m+1)+m*B ^ (m+1)
 | 0=>by simp
 | m+1=>by
  have ih:=Nat.mul_le_mul_right B (two A B m);have r:=zvq A B (m+1);have e1:(m+1)*A*B ^ m*B=(m+1)*(A*B ^ (m+1)):=by rw[Ym ((m+1)*A),<- YF,Ym]
  have e2:(A ^ (m+1)+m*B ^ (m+1))*B=A ^ (m+1)*B+m*B ^ (m+2):=by rw[Nat.add_mul,Ym,<- YF]
  rw[e1,e2]at ih;have e3:(m+1+1)*A*B ^ (m+1)=(m+1)*(A*B ^ (m+1))+A*B ^ (m+1):=by rw[Ym,Nat.add_mul,Nat.one_mul]
  have e4:(m+1)*B ^ (m+1+1)=m*B ^ (m+2)+B ^ (m+1)*B:=by rw[Nat.add_mul,Nat.one_mul,YF]
  rw[e3,e4,YF A];lia
theorem amgm (f:α->Nat):∀l:List α,l.length ^ l.length*pd l f<=sl l f ^ l.length
 | []=>Xf _
 | [a]=>by show 1 ^ 1*(f a*1)<=(f a+0) ^ 1;simp
 | a::b::l=>by
  have ih:=amgm f (b::l);show((b::l).length+1) ^ ((b::l).length+1)*(f a*pd (b::l) f)<=(f a+sl (b::l) f) ^ ((b::l).length+1);have hn:0<(b::l).length:=Nat.succ_pos _;generalize (b::l).length=n at *;generalize pd (b::l) f=p at *;generalize sl (b::l) f=S at *;generalize f a=x;have t:=two (n*(S+x)) ((n+1)*S) n;have e1:(n+1)*(n*(S+x))*((n+1)*S) ^ n=n*((n+1)*S) ^ (n+1)+n*((n+1) ^ (n+1)*(S ^ n*x)):=by
   rw[Nat.mul_pow,Nat.mul_pow,YF,YF]
   grind
  rw[e1,Nat.mul_pow n (S+x)]at t;have t2:n*((n+1) ^ (n+1)*(S ^ n*x))<=n ^ (n+1)*(S+x) ^ (n+1):=by lia
  have e2:n ^ (n+1)*(S+x) ^ (n+1)=n*(n ^ n*(S+x) ^ (n+1)):=by rw[<- Ym,Yv n (n ^ n),<- YF]
  rw[e2]at t2;have t3:=Nat.le_of_mul_le_mul_left t2 hn;have t4:n ^ n*((n+1) ^ (n+1)*(x*p))<=(n+1) ^ (n+1)*(S ^ n*x):=by
   have:=Nat.mul_le_mul_left ((n+1) ^ (n+1)*x) ih;have q1:n ^ n*((n+1) ^ (n+1)*(x*p))=(n+1) ^ (n+1)*x*(n ^ n*p):=by grind
   have q2:(n+1) ^ (n+1)*(S ^ n*x)=(n+1) ^ (n+1)*x*S ^ n:=by grind
   rw[q1,q2];exact this
  have t5:=Nat.le_of_mul_le_mul_left (Xx t4 t3) (Nat.pow_pos hn);rw[Nat.add_comm x S];exact t5
theorem mink {Q d a A b B:Nat}(h1:Q*a ^ d<=A ^ d)(h2:Q*b ^ d<=B ^ d):Q*(a+b) ^ d<=(A+B) ^ d:=by
 have key:∀ {a A b B:Nat},Q*a ^ d<=A ^ d->Q*b ^ d<=B ^ d->A*b<=B*a->Q*(a+b) ^ d<=(A+B) ^ d:=λ{a A b B} h1 h2 h=>by
  rcases Nat.eq_zero_or_pos a with rfl | ha
  ·rw[Nat.zero_add];exact Xx h2 (Nat.pow_le_pow_left (Nat.le_add_left _ _) d)
  ·have h3:A*(a+b)<=(A+B)*a:=by rw[Nat.mul_add,Nat.add_mul];lia
   have h4:=Nat.pow_le_pow_left h3 d;rw[Nat.mul_pow,Nat.mul_pow]at h4;have h5:=Nat.mul_le_mul_right ((a+b) ^ d) h1;have h6:Q*(a+b) ^ d*a ^ d<=(A+B) ^ d*a ^ d:=by
    refine Xx (YO ?_) (Xx h5 h4);rw[Ym,Yv ((a+b) ^ d),Ym]
   exact Nat.le_of_mul_le_mul_right h6 (Nat.pow_pos ha)
 rcases Nat.le_total (A*b) (B*a)with h | h
 ·exact key h1 h2 h
 ·have:=key h2 h1 h;rw[Nat.add_comm b a,Nat.add_comm B A]at this;exact this
theorem zkG {Q d:Nat}(hd:1<=d){z T:α->Nat}:∀ {l:List α},(∀v∈l,Q*z v ^ d<=T v ^ d)->Q*sl l z ^ d<=sl l T ^ d
 | [],_=>by
  show Q*0 ^ d<=0 ^ d;rw[Nat.zero_pow (by lia),Nat.mul_zero];exact Xf _
 | v::l,h=>mink (h v Xh) (zkG hd λu hu=>h u (Xi _ hu))
theorem zsb {V:List β}{z:β->Nat}{l:List α}{f:α->β->Nat}(hl:1<=l.length)(h:∀v∈V,z v ^ l.length<=pd l λi=>f i v):sl V z ^ l.length<=pd l λi=>sl V (f i):=by
 rcases Nat.eq_zero_or_pos (pd l λi=>sl V (f i))with h0 | hP
 ·-- one of them is nought throughout
  have z0:∀ {l:List α},(pd l λi=>sl V (f i))=0->∃i∈l,sl V (f i)=0:=λ{l}=>by
   induction l with
   | nil=>intro e;cases e
   | cons i l ih=>
    intro e;rcases Nat.mul_eq_zero.mp e with e | e
    ·exact⟨i,Xh,e⟩
    ·obtain⟨j,hj,e⟩:=ih e;exact⟨j,Xi _ hj,e⟩
  obtain⟨i,hi,e⟩:=z0 h0;have f0:∀ {V:List β},sl V (f i)=0->∀v∈V,f i v=0:=λ{V}=>by
   induction V with
   | nil=>intro _ v hv;cases hv
   | cons u V ih=>
    intro e v hv;have e':f i u+sl V (f i)=0:=e;rcases Xo.mp hv with rfl | hv
    ·lia
    ·exact ih (by lia) v hv
  have zz:∀v∈V,z v=0:=λv hv=>by
   have h1:=h v hv;have h2:f i v ∣ pd l λi=>f i v:=zqn hi;rw[f0 e v hv]at h2;rw[Nat.eq_zero_of_zero_dvd h2]at h1;exact Nat.pow_eq_zero.mp (Nat.le_zero.mp h1) |>.1
  have s0:∀ {V:List β},(∀v∈V,z v=0)->sl V z=0:=λ{V}=>by
   induction V with
   | nil=>intro _;rfl
   | cons u V ih=>
    intro g;show z u+sl V z=0;rw[g u Xh,ih λv hv=>g v (Xi _ hv)]
  rw[s0 zz,Nat.zero_pow (by lia)];exact XH _
 ·generalize hPd:(pd l λi=>sl V (f i))=P at *;have dv:∀i∈l,sl V (f i) ∣ P:=λi hi=>by rw[<- hPd];exact zqn (f:=λi=>sl V (f i)) hi
  have ex:∀i∈l,sl V (f i)*(P / sl V (f i))=P:=λi hi=>Nat.mul_div_cancel' (dv i hi);have pr:(pd l λi=>P / sl V (f i))*P=P ^ l.length:=by
   have e:(pd l λi=>sl V (f i)*(P / sl V (f i)))=P ^ l.length:=by
    rw[<- zkF l P];exact Nat.le_antisymm (ziF λi hi=>YO (ex i hi)) (ziF λi hi=>YO (ex i hi).symm)
   rw[zqm,hPd,Yv]at e;exact e
  have each:∀v∈V,l.length ^ l.length*(pd l λi=>P / sl V (f i))*z v ^ l.length<=(sl l λi=>f i v*(P / sl V (f i))) ^ l.length:=λv hv=>by
   have a:=amgm (λi=>f i v*(P / sl V (f i))) l;rw[zqm]at a;refine Xx ?_ a;rw[Ym];refine Nat.mul_le_mul_left _ ?_;rw[Yv];exact Nat.mul_le_mul_right _ (h v hv)
  have m:=zkG hl each;have tot:(sl V λv=>sl l λi=>f i v*(P / sl V (f i)))=l.length*P:=by
   rw[zsa];have:∀m:List α,(∀i∈m,i∈l)->(sl m λi=>sl V λv=>f i v*(P / sl V (f i)))=m.length*P:=λm=>by
    induction m with
    | nil=>intro _;show 0=0*P;rw[Nat.zero_mul]
    | cons i m ih=>
     intro g;show(sl V λv=>f i v*(P / sl V (f i)))+(sl m λi=>sl V λv=>f i v*(P / sl V (f i)))=(m.length+1)*P;rw[ih λj hj=>g j (Xi _ hj),znE,ex i (g i Xh),Nat.add_mul,Nat.one_mul,Nat.add_comm]
   exact this l λ_ h=>h
  rw[tot,Nat.mul_pow,<- pr,Ym]at m;have m1:=Nat.le_of_mul_le_mul_left m (Nat.pow_pos hl);rw[Yv (pd l _) P,Yv (pd l _) (sl V z ^ _)]at m1;exact Nat.le_of_mul_le_mul_right m1 (Nat.pos_of_ne_zero λe=>by
   rw[e,Nat.zero_mul]at pr;have:=Nat.pow_pos (n:=l.length) hP;lia)
variable {α β γ:Type}
theorem zqo (l:List α)(g:α->β)(f:β->Nat):pd (l.map g) f=pd l λa=>f (g a):=by
 induction l with
 | nil=>rfl
 | cons a l ih=>show f (g a)*pd (l.map g) f=f (g a)*pd l λa=>f (g a);rw[ih]
theorem zpu {l:List α}{f g:α->Nat}(h:∀a∈l,f a=g a):pd l f=pd l g:=Nat.le_antisymm (ziF λa ha=>YO (h a ha)) (ziF λa ha=>YO (h a ha).symm)
theorem zkH (q:α->Bool)(l:List α)(f:α->Nat):pd l f=pd (l.filter q) f*pd (l.filter λa=>!q a) f:=by
 induction l with
 | nil=>rfl
 | cons a l ih=>
  show f a*pd l f=_;rw[ih];cases h:q a with
  | true=>
   rw[List.filter_cons_of_pos h,List.filter_cons_of_neg (by simp[h])];show _=f a*_*_;rw[Ym]
  | false=>
   rw[List.filter_cons_of_neg (by simp[h]),List.filter_cons_of_pos (by simp[h])];show _=_*(f a*_);rw[Nat.mul_left_comm]
theorem zpv {V:List β}{z:β->Nat}{l:List α}{f:α->β->Nat}{C d:Nat}(hd:1<=d)(hl:l.length=d)(h:∀v∈V,z v ^ d<=C*pd l λi=>f i v):sl V z ^ d<=C*pd l λi=>sl V (f i):=by
 cases l with
 | nil=>exact absurd hl (by show ¬ 0=d;lia)
 | cons i l=>
  have hlen:((λv=>f i v*C)::l.map f).length=d:=by rw[<- hl,XE,Xb];rfl
  have:=zsb (V:=V) (z:=z) (l:=(λv=>f i v*C)::l.map f) (f:=λg v=>g v) (by rw[hlen];exact hd) λv hv=>by
   rw[hlen];refine Xx (h v hv) (YO ?_);show C*(f i v*pd l λi=>f i v)=f i v*C*pd (l.map f) λg=>g v;rw[zqo,<- Ym,Yv C]
  rw[hlen]at this;refine Xx this (YO ?_);show(sl V λv=>f i v*C)*(pd (l.map f) λg=>sl V λv=>g v)=C*(sl V (f i)*pd l λi=>sl V (f i));rw[znE,zqo,<- Ym,Yv C]
theorem zpw {V:List β}{z:β->Nat}{l:List α}{f:α->β->Nat}{S:α->Nat}{C d:Nat}(hd:1<=d)(hl:d<=l.length)(hS:∀i∈l,∀v∈V,f i v<=S i)(hT:∀i∈l,sl V (f i)<=S i)(h:∀v∈V,z v ^ d<=C*pd l λi=>f i v):sl V z ^ d<=C*pd l S:=by
 have e:l=l.take d++l.drop d:=(List.take_append_drop d l).symm;have:=zpv (V:=V) (z:=z) (l:=l.take d) (f:=f) (C:=C*pd (l.drop d) S) hd (by rw[XY];lia) λv hv=>by
  refine Xx (h v hv) ?_
  conv=>lhs;rw[e,znD]
  rw[Ym,Yv (pd (l.drop d) S)];exact Nat.mul_le_mul_left _ (Nat.mul_le_mul_left _ (ziF λi hi=>hS i (List.mem_of_mem_drop hi) v hv))
 refine Xx this ?_
 conv=>rhs;rw[e,znD]
 rw[Ym,Yv (pd (l.drop d) S)];exact Nat.mul_le_mul_left _ (Nat.mul_le_mul_right _ (ziF λi hi=>hT i (YM hi)))
theorem zuc {l:List α}{V:List β} [DecidableEq β] {g:α->β}(h:∀a∈l,g a∈V):l.length<=sl V λv=>(l.filter λa=>decide (g a=v)).length:=by
 induction l with
 | nil=>exact XH _
 | cons a l ih=>
  have i1:=ih λb hb=>h b (Xi _ hb);have e:(sl V λv=>((a::l).filter λa=>decide (g a=v)).length)=(sl V λv=>if g a=v then 1 else 0)+sl V λv=>(l.filter λa=>decide (g a=v)).length:=by
   rw[<- znF]
   congr 1
   funext v;rw[List.filter_cons];by_cases z:g a=v
   ·rw[if_pos (decide_eq_true z),if_pos z,XE,Nat.add_comm]
   ·rw[if_neg (by simpa using z),if_neg z,Nat.zero_add]
  have one:∀ {V:List β},g a∈V->1<=sl V λv=>if g a=v then 1 else 0:=λ{V}=>by
   induction V with
   | nil=>intro z;cases z
   | cons u V ih=>
    intro z;show 1<=(if g a=u then 1 else 0)+sl V λv=>if g a=v then 1 else 0
    rcases Xo.mp z with z | z
    ·rw[if_pos z];lia
    ·have:=ih z;lia
  have:=one (h a Xh);rw[e,XE];lia
theorem zud {l:List α}{V:List β}{P:β->α->Bool}{Q:α->Bool}(nd:V.Nodup)(h1:∀a∈l,∀v,P v a=true->Q a=true)(h2:∀a∈l,∀v u,P v a=true->P u a=true->v=u):(sl V λv=>(l.filter (P v)).length)<=(l.filter Q).length:=by
 induction l with
 | nil=>
  have:∀V:List β,(sl V λv=>(([]:List α).filter (P v)).length)=0:=λV=>by
   induction V with
   | nil=>rfl
   | cons v V ih=>show 0+_=0;rw[Nat.zero_add,ih]
  rw[this];exact XH _
 | cons a l ih=>
  have i1:=ih (λb hb=>h1 b (Xi _ hb)) λb hb=>h2 b (Xi _ hb);have e:(sl V λv=>((a::l).filter (P v)).length)=(sl V λv=>if P v a=true then 1 else 0)+sl V λv=>(l.filter (P v)).length:=by
   rw[<- znF]
   congr 1
   funext v;rw[List.filter_cons];by_cases z:P v a=true
   ·rw[if_pos z,if_pos z,XE,Nat.add_comm]
   ·rw[if_neg z,if_neg z,Nat.zero_add]
  have none:∀ {V:List β},(∀v∈V,¬ P v a=true)->(sl V λv=>if P v a=true then 1 else 0)=0:=λ{V}=>by
   induction V with
   | nil=>intro _;rfl
   | cons u V ih=>
    intro z;show(if P u a=true then 1 else 0)+_=0
    rw[if_neg (z u Xh),ih λv hv=>z v (Xi _ hv)]
  have one:∀ {V:List β},V.Nodup->(sl V λv=>if P v a=true then 1 else 0)<=if Q a=true then 1 else 0:=λ{V}=>by
   induction V with
   | nil=>intro _;exact XH _
   | cons u V ih=>
    intro nd;rw[XX]at nd;show(if P u a=true then 1 else 0)+_<=_
    by_cases z:P u a=true
    ·rw[if_pos z,if_pos (h1 a Xh u z),none λv hv y=>nd.1 (by rw[h2 a Xh u v z y];exact hv)];exact Xf _
    ·rw[if_neg z,Nat.zero_add];exact ih nd.2
  have o:=one nd;rw[e,List.filter_cons];by_cases z:Q a=true
  ·rw[if_pos z]at o ⊢;rw[XE];lia
  ·rw[if_neg z]at o ⊢;lia
theorem once:∀l:List Int,∃V:List Int,V.Nodup/\∀a∈l,a∈V
 | []=>⟨[],YQ,λa h=>h⟩
 | a::l=>by
  obtain⟨V,h1,h2⟩:=once l;by_cases z:a∈V
  ·exact⟨V,h1,λb hb=>by rcases Xo.mp hb with rfl | hb;exact z;exact h2 b hb⟩
  ·exact⟨a::V,XX.mpr ⟨z,h1⟩,λb hb=>by rcases Xo.mp hb with rfl | hb;exact Xh;exact Xi _ (h2 b hb)⟩
structure Cov (n d:Nat)(A:List (List Int))(p:Nat->List Nat)(R:Nat->List (List Int))(Ks:List Nat):Prop where
 d1:1<=d
 nd:A.Nodup
 len:∀a∈A,a.length=n
 row:∀k∈Ks,∀a∈A,(p k).map (λc=>a.getD c 0)∈R k
 cov:∀c,c<n->d<=(Ks.filter λk=>decide (c∈p k)).length
def okA (σ:Nat->Int)(j:Nat)(a:List Int):Bool:=decide (∀c,c<j->a.getD c 0=σ c)
def okR (σ:Nat->Int)(j:Nat)(q:List Nat)(r:List Int):Bool:=(q.zip r).all λe=>decide (e.1<j->e.2=σ e.1)
def nx (σ:Nat->Int)(j:Nat)(v:Int):Nat->Int:=λc=>if c=j then v else σ c
theorem zue {σ:Nat->Int}{j:Nat}{v:Int}{a:List Int}:okA (nx σ j v) (j+1) a=(okA σ j a&&decide (a.getD j 0=v)):=by
 unfold okA nx;rw[Bool.eq_iff_iff,Yo,decide_eq_true_eq,decide_eq_true_eq,decide_eq_true_eq];constructor
 ·intro h;refine⟨λc hc=>?_,?_⟩
  ·have:=h c (by lia);rw[if_neg (by lia)]at this;exact this
  ·have:=h j (by lia);rw[if_pos rfl]at this;exact this
 ·intro ⟨h1,h2⟩ c hc;by_cases z:c=j
  ·rw[if_pos z,z];exact h2
  ·rw[if_neg z];exact h1 c (by lia)
theorem znG {σ:Nat->Int}{j:Nat}{v:Int}{q:List Nat}{r:List Int}(h:okR (nx σ j v) (j+1) q r=true):okR σ j q r=true:=by
 unfold okR at *;rw[XI]at *;intro e he;have:=of_decide_eq_true (h e he);refine decide_eq_true λz=>?_;have:=this (by lia);unfold nx at this;rw[if_neg (by lia)]at this;exact this
theorem zpx {σ:Nat->Int}{j:Nat}{v:Int}{q:List Nat}{r:List Int}(hj:j∉q):okR (nx σ j v) (j+1) q r=okR σ j q r:=by
 rw[Bool.eq_iff_iff];refine⟨znG,λh=>?_⟩;unfold okR at *;rw[XI]at *;intro e he;have h1:=of_decide_eq_true (h e he);have h2:e.1∈q:=(List.of_mem_zip he).1;refine decide_eq_true λz=>?_;have n:e.1≠j:=λy=>hj (y▸h2);unfold nx;rw[if_neg n];exact h1 (by lia)
theorem zlD {q:List Nat}{r:List Int}{j:Nat}(hl:q.length<=r.length)(hj:j∈q):∃x,(j,x)∈q.zip r:=by
 obtain⟨i,hi,e⟩:=List.getElem_of_mem hj;refine⟨r[i],?_⟩;rw[<- e];have:(q.zip r)[i]'(by rw[Yp];lia)=(q[i],r[i]):=List.getElem_zip;rw[<- this];exact Yd _
theorem zsc {σ:Nat->Int}{j:Nat}{v u:Int}{q:List Nat}{r:List Int}(hl:q.length<=r.length)(hj:j∈q)(h1:okR (nx σ j v) (j+1) q r=true)(h2:okR (nx σ j u) (j+1) q r=true):v=u:=by
 obtain⟨x,hx⟩:=zlD hl hj;unfold okR at h1 h2;have e1:=of_decide_eq_true (XI.mp h1 _ hx) (XS j);have e2:=of_decide_eq_true (XI.mp h2 _ hx) (XS j);unfold nx at e1 e2;rw[if_pos rfl]at e1 e2;rw[<- e1,<- e2]
theorem zuf {σ:Nat->Int}{j:Nat}{q:List Nat}{a:List Int}(h:okA σ j a=true):okR σ j q (q.map λc=>a.getD c 0)=true:=by
 unfold okR;rw[XI];intro e he;refine decide_eq_true λz=>?_;have:e.2=a.getD e.1 0:=by
  obtain⟨i,hi,ee⟩:=List.getElem_of_mem he;rw[List.getElem_zip]at ee;rw[<- ee];simp
 rw[this];exact of_decide_eq_true h e.1 z
theorem Cov.step {n d:Nat}{A:List (List Int)}{p:Nat->List Nat}{R:Nat->List (List Int)}{Ks:List Nat}(X:Cov n d A p R Ks)(hw:∀k∈Ks,∀r∈R k,r.length=(p k).length):∀(i j:Nat)(σ:Nat->Int),i+j=n->(A.filter (okA σ j)).length ^ d<=pd Ks λk=>((R k).filter (okR σ j (p k))).length
 | 0,j,σ,hj=>by
  have hj:j=n:=by lia
  subst hj;cases hA:A.filter (okA σ j)with
  | nil=>show 0 ^ d<=_;rw[Nat.zero_pow X.d1];exact XH _
  | cons a l=>
   have ha:=List.mem_filter.mp (hA▸Xh:a∈A.filter (okA σ j));have l0:l=[]:=by
    cases l with
    | nil=>rfl
    | cons b l=>
     have hb:=List.mem_filter.mp (hA▸Xi _ Xh:b∈A.filter (okA σ j));have nd:(A.filter (okA σ j)).Nodup:=X.nd.sublist List.filter_sublist;rw[hA,XX]at nd;refine absurd ?_ nd.1;have e:a=b:=by
      have la:=X.len a ha.1;have lb:=X.len b hb.1;refine List.ext_getElem (by rw[la,lb]) λc h1 h2=>?_;have e1:=of_decide_eq_true ha.2 c (by lia);have e2:=of_decide_eq_true hb.2 c (by lia);rw[XA,Xg h1]at e1;rw[XA,Xg h2]at e2;exact(show a[c]=σ c from e1).trans (show b[c]=σ c from e2).symm
     rw[e];exact Xh
   subst l0;show 1 ^ d<=_;rw[Nat.one_pow,<- Nat.one_pow Ks.length,<- zkF];refine ziF λk hk=>List.length_pos_of_mem (List.mem_filter.mpr ⟨X.row k hk a ha.1,zuf ha.2⟩)
 | i+1,j,σ,hj=>by
  have ih:=λσ=>Cov.step X hw i (j+1) σ (by lia);obtain⟨V,hVn,hVm'⟩:=once ((A.filter (okA σ j)).map λa=>a.getD j 0);have hVm:∀a∈A.filter (okA σ j),a.getD j 0∈V:=λa ha=>hVm' _ (XD.mpr ⟨a,ha,rfl⟩);have h1:=zuc (g:=λa:List Int=>a.getD j 0) hVm;refine Xx (Nat.pow_le_pow_left h1 d) ?_;have eA:∀v,(A.filter (okA σ j)).filter (λa=>decide (a.getD j 0=v))=A.filter (okA (nx σ j v) (j+1)):=λv=>by
   rw[List.filter_filter]
   congr 1
   funext a;rw[zue,Bool.and_comm]
  rw[zkH (λk=>decide (j∈p k)),Yv];refine zpw (f:=λk v=>((R k).filter (okR (nx σ j v) (j+1) (p k))).length) X.d1 (X.cov j (by lia)) (λk hk v hv=>?_) (λk hk=>?_) λv hv=>?_
  ·exact List.Sublist.length_le (by
    have:(R k).filter (okR (nx σ j v) (j+1) (p k))=((R k).filter (okR σ j (p k))).filter (okR (nx σ j v) (j+1) (p k)):=by
     rw[List.filter_filter]
     congr 1
     funext r;cases h:okR (nx σ j v) (j+1) (p k) r with
     | false=>rfl
     | true=>rw[znG h];rfl
    rw[this];exact List.filter_sublist)
  ·obtain⟨hk1,hk2⟩:=List.mem_filter.mp hk;exact zud hVn (λr _ v h=>znG h) λr hr v u h1 h2=>zsc (YO (hw k hk1 r hr).symm) (of_decide_eq_true hk2) h1 h2
  ·rw[eA v];refine Xx (ih (nx σ j v)) (YO ?_);rw[zkH (λk=>decide (j∈p k)),Yv]
   congr 1
   refine zpu λk hk=>?_;have hk2:=(List.mem_filter.mp hk).2;have hj':j∉p k:=by simpa using hk2
   rw[show okR (nx σ j v) (j+1) (p k)=okR σ j (p k) from funext λr=>zpx hj']
theorem Cov.bound {n d:Nat}{A:List (List Int)}{p:Nat->List Nat}{R:Nat->List (List Int)}{Ks:List Nat}(X:Cov n d A p R Ks)(hw:∀k∈Ks,∀r∈R k,r.length=(p k).length):A.length ^ d<=pd Ks λk=>(R k).length:=by
 have h:=X.step hw n 0 (λ_=>0) (by lia);have e1:A.filter (okA (λ_=>0) 0)=A:=List.filter_eq_self.mpr λa _=>decide_eq_true λc hc=>absurd hc (Nat.not_lt_zero _);rw[e1]at h;refine Xx h (ziF λk _=>List.length_filter_le _ _)
end M43
namespace Q43
open PySem PySem.Spec L2 PL
open PyProof.Rows hiding St
def top (i:Nat):WC:=PySem.Challenge.pw_joinwood_k43_whole_bound.main.body.getD i (.Pass ⟨0,0,0,0⟩)
abbrev zba:WC:=top 1
abbrev zaw:WC:=top 3
abbrev sGcd:WC:=top 5
abbrev zbt:WC:=top 6
abbrev zeH:WC:=top 7
abbrev zeI:WC:=top 8
abbrev zeJ:WC:=top 10
abbrev zbY:WC:=top 11
abbrev zcc:WC:=top 12
abbrev zbJ:WC:=top 13
abbrev sAny:WC:=top 14
abbrev zgt:WC:=top 15
abbrev zhD:WC:=top 16
abbrev zeK:WC:=top 17
abbrev zbK:WC:=top 18
abbrev zhE:WC:=top 19
abbrev zeL:WC:=top 20
abbrev zbb:WC:=top 21
abbrev zcm:WC:=top 22
abbrev zcV:WC:=top 23
abbrev zbL:WC:=top 24
abbrev zcW:WC:=top 25
abbrev zdL:WC:=top 26
abbrev sLaw:WC:=top 27
abbrev zdM:WC:=(zcB (top 4)).getD 0 (.Pass ⟨0,0,0,0⟩)
abbrev sCol:WC:=(zcB (top 4)).getD 1 (.Pass ⟨0,0,0,0⟩)
abbrev zct:WC:=(zcB (top 4)).getD 2 (.Pass ⟨0,0,0,0⟩)
abbrev zgu:WC:=(zcB (top 4)).getD 3 (.Pass ⟨0,0,0,0⟩)
abbrev zbu:WC:=(zcB (top 4)).getD 4 (.Pass ⟨0,0,0,0⟩)
abbrev zgb:WC:=(zcB (top 4)).getD 5 (.Pass ⟨0,0,0,0⟩)
abbrev zcX:WC:=(zcB (top 4)).getD 6 (.Pass ⟨0,0,0,0⟩)
abbrev zdN:WC:=(zcB (top 4)).getD 7 (.Pass ⟨0,0,0,0⟩)
abbrev zcC:WC:=(zcB (top 4)).getD 8 (.Pass ⟨0,0,0,0⟩)
abbrev zcY:WC:=(zcB (top 4)).getD 9 (.Pass ⟨0,0,0,0⟩)
theorem take_snoc {α:Type}{l:List α}{i:Nat}{o:α}(h:l[i]? = some o):l.take i++[o]=l.take (i+1):=by rw[List.take_add_one,h];rfl
theorem zfa (n:Nat)(ss:List Str):(ss.map PV.str).all (PL.plain n)=true:=by
 rw[XI];intro d hd;obtain⟨x,_,rfl⟩:=XD.mp hd;cases n<;>rfl
theorem zfs {x:Str}{r:List Str}:PV.str x∈r.map PV.str↔x∈r:=by simp
def ltsP (ls:List Str):PV:=.tup (ls.map PV.str)
def shpP (sh:List (List Str)):PV:=.lst (sh.map ltsP)
structure Names (sh:List (List Str))(ns:List Str):Prop where
 nd:ns.Nodup
 mem:∀x,x∈ns↔∃p∈sh,x∈p
 srt:sortedS ns=true
theorem Names.uniq {sh:List (List Str)}{a b:List Str}(h1:Names sh a)(h2:Names sh b):a=b:=
 K01.zgO (K01.ziE a h1.srt) (K01.ziE b h2.srt) h1.nd h2.nd λx=>(h1.mem x).trans (h2.mem x).symm
structure Shp (sh:List (List Str)):Prop where
 m1:1<=sh.length
 m6:sh.length<=6
 wid:∀p∈sh,p.length<=4
 ne:∀p∈sh,p≠[]
 six:∀ns:List Str,ns.Nodup->(∀x∈ns,∃p∈sh,x∈p)->ns.length<=6
def zau:PF:=λds Q=>∃sh:List (List Str),ds=[shpP sh]/\Shp sh/\∀zs:List Str,Names sh zs->Q (.lst (zs.map PV.str)) .new
theorem zgv:zaY zau:=λds Q Q' m ⟨sh,e,h1,q⟩=>⟨sh,e,h1,λzs g=>m _ _ (q zs g)⟩
def zbd (sh:List (List Str))(L:List Str)(c k:Nat):Int:=
 if c<L.length then if k<sh.length then if L.getD c Str.empty∈sh.getD k [] then 1 else 0 else -1
 else if c<L.length+sh.length then if k=c-L.length then 1 else 0 else if k<sh.length then 1 else 0
def pbOf {sh:List (List Str)}{L:List Str}(h:Names sh L):M41.Pb where
 m:=sh.length
 n:=L.length
 col:=zbd sh L
 spare k hk j hj:=by unfold zbd;rw[if_neg (by lia),if_pos (by lia),show L.length+k-L.length=k by lia]
 rhs k hk:=by unfold zbd;rw[if_neg (by lia),if_neg (by lia),if_pos hk]
 rhsm:=by unfold zbd;rw[if_neg (by lia),if_neg (by lia),if_neg (by lia)]
 bin c hc k hk:=by
  unfold zbd;rw[if_pos hc,if_pos hk];split
  ·exact .inr rfl
  ·exact .inl rfl
 low c hc:=by unfold zbd;rw[if_pos hc,if_neg (by lia)]
 has c hc:=by
  have e:L[c]? = some (L.getD c Str.empty):=by rw[XA,Xg hc];rfl
  obtain⟨p,hp,hx⟩:=(h.mem _).mp (Xu e);obtain⟨k,hk,hg⟩:=List.getElem_of_mem hp;refine⟨k,hk,?_⟩;unfold zbd;rw[if_pos hc,if_pos hk,if_pos];rw[show sh.getD k []=p by rw[XA,Xg hk,hg];rfl];exact hx
def rowC (p:M41.Pb)(g:Nat->Int):PV:=.lst (((Xz (p.n+p.m+1)).map g).map PV.int)
def ziG (p:M41.Pb)(g:Nat->Nat->Int):PV:=.lst ((Xz (p.m+1)).map λr=>rowC p (g r))
def zar:PF:=λds Q=>∃(sh:List (List Str))(L:List Str)(h:Names sh L),ds=[shpP sh,.lst (L.map PV.str)]/\Shp sh/\Q (ziG (pbOf h) λr c=>zbd sh L c r) .new
theorem zgc:zaY zar:=λds Q Q' m ⟨a,b,c,e,h,q⟩=>⟨a,b,c,e,h,m _ _ q⟩
theorem zgd (n m:Nat)(g:Nat->Int):((Xz (n+m+1)).map g).map PV.int=(Xz n).map (λc=>PV.int (g c))++(Xz m).map (λj=>PV.int (g (n+j)))++[PV.int (g (n+m))]:=by
 rw[List.map_map,Yt,List.range_add,Xn,Xn,List.map_map];rfl
open Lean in
def puM:MacroM (TSyntax `tactic):=do
 let es<-("fCol zbo zdh zaV zdv zbp zcK zcL zbU zbz fGcd zaW zbl zbM zaO zbr zgw tE fAny zhM zdw zeN zdx zfi zcy ziQ rowP zfj zbc dP zda zcz ziY zeQ".splitOn " ").filterM λn=>return !(<-Macro.resolveGlobalName n.toName).isEmpty;let ls<-("pSeq pIdx zdX zcq zdW zcl pSet pRet pIf zcQ zbH mApp zdV pUnp zbG zdC zbW zdD t2 i0 i2 pVar pC zaC pNil pTup pLst noOwn isOwn tBl blP zdf tOrP zdP tTru zdT TruP zdQ zdR tIfE pEq pIn pIsN pIx ixV pCat PL.tB fLen LenP zdm zbP zce fIsi NoT PL.isObj pFld zco zbn zbk zaU pSlL zdn zdo zcI zbm iLst zdS pDG pDI zdE zdq zcf pSlS zcp pFor zcn PL.plain zaM zbX blkP List.map_cons List.map_nil List.length_cons List.length_nil List.cons_append List.nil_append List.replicate List.getElem?_cons_zero List.getElem?_cons_succ List.getElem?_nil Option.getD_some Option.getD_none List.set_cons_zero List.set_cons_succ List.cons.injEq Option.some.injEq Prod.mk.injEq PV.int.injEq PV.bl.injEq PV.str.injEq PV.lst.injEq PV.tup.injEq PV.ty.injEq PV.dK.injEq exists_eq_left' exists_eq_left exists_eq' exists_eq exists_and_left exists_and_right exists_eq_right true_and and_true reduceCtorEq false_and and_false false_or or_false exists_false exists_const Bool.false_eq_true if_true if_false and_assoc ite_true ite_false Bool.not_eq_true' decide_eq_true_eq decide_eq_false_iff_not Bool.not_false Bool.not_true true_or or_true not_true_eq_false not_false_eq_true Bool.and_eq_true Nat.zero_add Nat.sub_self Nat.reduceAdd Nat.reduceSub implies_true ne_eq zbE zaX Bool.true_and Bool.and_true List.all_nil pFrz zdg pNeg zSeq zSet zcg zdZ zFld zPut zea zcr zeb zec zby zcs zbx zdY pLtT zci zch zbw ltsP shpP zau zar".splitOn " "++es).toArray.mapM λn=>`(Lean.Parser.Tactic.simpLemma|$(mkIdent n.toName):term)
 `(tactic|first|(dsimp only[$ls,*];try simp only[$ls,*])|simp only[$ls,*])
local macro_rules | `(tactic| walk_at "pu")=>puM
local macro_rules | `(tactic| walk_at "go")=>`(tactic| ((first | (with_reducible refine hold ?_) | (with_reducible refine zbN ?_) | (with_reducible refine holdB ?_));walk_at "pu"))
local macro_rules | `(tactic| walk_at "side")=>`(tactic| first | assumption | decide | lia | exact⟨by decide,by decide⟩ | exact⟨by decide,by decide,by decide⟩ | exact Or.inl ⟨by lia,by lia⟩ | exact Or.inr ⟨by lia,by lia⟩)
local macro_rules | `(tactic| walk_at "auto")=>`(tactic| repeat (first | ((with_reducible refine hold ?_);walk_at "pu") | ((with_reducible refine zbN ?_);walk_at "pu") | ((with_reducible refine And.intro ?_ ?_);(· walk_at "side"))))
section
variable {P:Wl}{w:Wt}{K:Xa}{mg:Str->Option Wb}{base:Heap}
theorem zge:zan ["shape","found","letters"] ["shape"] (zac zba):=⟨rfl,rfl,rfl,by decide +kernel,rfl,by decide +kernel,by decide +kernel⟩
theorem ziH {f:We}{fd:Wr}(F:Fun K "letters_of" "letters_of" zba f fd) (B:Bl mg):FnOk P w K mg base CX0 1 f fd ["shape"] (spP K zau):=by
 refine zat F zge (λds Q ⟨c,e,_⟩=>by rw[e];rfl) (λcdv A outer s H E hr=>?_);have hu:(A.deeper (WB "letters_of" (zac zba) s.heap.objs.size f cdv)).units+16<Wz:=by have q:=hr.units;lia
 have nd:=zge.nd;refine⟨_,(zad (zah (i:=1) nd rfl (Or.inl rfl) (zbg zae))
   (zad (zaJ rfl PassesOwn.never (zaF (zaa 0)) (zai (i:=2) nd rfl (Or.inl rfl)) (zag (zaN (zoS 1 (zaa 2)))))
   (zag (zaq (zls rfl rfl B.sorted rfl B.set (zaa 1)))))),λds Q h=>?_⟩
 obtain⟨sh,rfl,S,q⟩:=h;have h6:=S.m6;have h4:=S.wid;walk_at "pu";walk_at "auto";obtain⟨Iv,hIv⟩:∃Iv:Nat->PEnv->Prop,∀i ρ,Iv i ρ↔∃(fs:List Str) (kv:Option (PV×Bool)),ρ=[some (PV.lst (sh.map ltsP),false),some (PV.lst (fs.map PV.str),true),kv]/\fs.length<=4*i/\∀x,x∈fs↔∃p∈sh.take i,x∈p:=⟨_,λ_ _=>Iff.rfl⟩;refine⟨Iv,(hIv _ _).mpr ⟨[],none,rfl,XH _,λx=>by simp⟩,?_,?_⟩
 ·intro i d ρ hd hI;obtain⟨fs,kv,rfl,l1,hm⟩:=(hIv _ _).mp hI;rw[Xl]at hd;cases hp:sh[i]? with
  | none=>rw[hp]at hd;cases hd
  | some p=>
   rw[hp]at hd;cases hd;have hil:i<sh.length:=(Xe.mp hp).1;have hle:=h4 p (Xu hp);walk_at "go";refine⟨by rw[Xb,Xb,Wo];lia,(hIv _ _).mpr ⟨fs++p,_,by rw[Xn],by rw[Xm];lia,λy=>?_⟩⟩;rw[XR,hm,List.take_add_one,hp];simp only[Option.toList_some,XR,Xv];constructor
   ·rintro(⟨p,h1,h2⟩ | h)
    ·exact⟨p,.inl h1,h2⟩
    ·exact⟨_,.inr rfl,h⟩
   ·rintro⟨p,h1 | rfl,h2⟩
    ·exact .inl ⟨p,h1,h2⟩
    ·exact .inr h2
 ·intro ρ hI;obtain⟨fs,kv,rfl,l1,hm⟩:=(hIv _ _).mp hI;rw[Xb]at l1 hm;walk_at "go";refine⟨fs,rfl,by lia,λzs n1 n2 n3=>q zs ⟨n1,λx=>?_,n3⟩⟩;rw[n2,hm,XC (Xf _)]
theorem zfg:zan ["shape","letters","lines","i","own","has","spare"] ["shape","letters"] (zac zaw):=⟨rfl,rfl,rfl,by decide +kernel,rfl,by decide +kernel,by decide +kernel⟩
theorem zhF {f:We}{fd:Wr}(F:Fun K "first_lines" "first_lines" zaw f fd) (B:Bl mg):FnOk P w K mg base CX0 1 f fd ["shape","letters"] (spP K zar):=by
 refine zat F zfg (λds Q ⟨a,b,c,e,_⟩=>by rw[e];rfl) (λcdv A outer s H E hr=>?_);have hu:(A.deeper (WB "first_lines" (zac zaw) s.heap.objs.size f cdv)).units+16<Wz:=by have q:=hr.units;lia
 have nd:=zfg.nd;refine⟨_,(zad (zah (i:=2) nd rfl (Or.inl rfl) (zbg zae))
   (zad (zaJ rfl PassesOwn.never (zkm rfl B.enumerate (zaa 0)) (zdk (n:=2) rfl (zaA (zai (i:=3) nd rfl (Or.inr rfl)) (zaA (zai (i:=4) nd rfl (Or.inr rfl)) zcv))) (zad (zfp (i:=5) (N:=["letter","own"]) (k:=1) (js:=[4]) rfl (zdB (sup:=zac zaw) (XN:=["shape","letters","lines","i","own","has","spare"]) rfl rfl (by decide +kernel)) (by decide) (zaS (by decide)) (zaF (zaa 1)) ⟨λ_ _ _ _ _=>(zai (i:=0) (by show(["letter","own"]:List Str).Nodup;decide +kernel) rfl (Or.inl rfl)),λ_ _ _ _ _=>zaT,λ_ _ _ _ _=>(zhm (zpZ hu (zaa 0) (zaa 1)) zaf zaf)⟩ nd rfl rfl)
   (zad (zfp (i:=6) (N:=["j","i"]) (k:=1) (js:=[3]) rfl (zdB (sup:=zac zaw) (XN:=["shape","letters","lines","i","own","has","spare"]) rfl rfl (by decide +kernel)) (by decide) (zaS (by decide)) (zaL rfl B.range (zab (zaZ rfl B.len (zab (zaa 0) zae)) zae)) ⟨λ_ _ _ _ _=>(zai (i:=0) (by show(["j","i"]:List Str).Nodup;decide +kernel) rfl (Or.inl rfl)),λ_ _ _ _ _=>zaT,λ_ _ _ _ _=>(zhm (zdG hu (zaa 0) (zaa 1)) zaf zaf)⟩ nd rfl rfl)
   (zag (zaN (zaH 2 (zdI (zdI (zaa 5) (zaa 6)) (zbg (zab zaf zae)))))))))
   (zad (zaN (zaH 2 (zdI (zdI (zbQ (N:=["letter"]) (k:=1) (js:=[]) rfl (zdB (sup:=zac zaw) (XN:=["shape","letters","lines","i","own","has","spare"]) rfl rfl (by decide +kernel)) (by decide) (zaS (by decide)) (zaF (zaa 1)) ⟨λ_ _ _ _ _=>(zai (i:=0) (by show(["letter"]:List Str).Nodup;decide +kernel) rfl (Or.inl rfl)),λ_ _ _ _ _=>zaT,λ_ _ _ _ _=>(zff zaf)⟩) (zbQ (N:=["own"]) (k:=1) (js:=[]) rfl (zdB (sup:=zac zaw) (XN:=["shape","letters","lines","i","own","has","spare"]) rfl rfl (by decide +kernel)) (by decide) (zaS (by decide)) (zaF (zaa 0)) ⟨λ_ _ _ _ _=>(zai (i:=0) (by show(["own"]:List Str).Nodup;decide +kernel) rfl (Or.inl rfl)),λ_ _ _ _ _=>zaT,λ_ _ _ _ _=>zaf⟩)) (zbg (zab zaf zae)))))
   (zag (zaq (zaa 2)))))),λds Q h=>?_⟩
 obtain⟨sh,L,hN,rfl,S,q⟩:=h;have h6:=S.m6;have hL:=S.six L hN.nd λx hx=>(hN.mem x).mp hx;have hsz:=Wo;walk_at "pu";walk_at "auto";obtain⟨Iv,hIv⟩:∃Iv:Nat->PEnv->Prop,∀i ρ,Iv i ρ↔∃(k1 k2 k3 k4:Option (PV×Bool)),ρ=[some (PV.lst (List.map ltsP sh),false),some (PV.lst (List.map PV.str L),false),some (PV.lst ((Xz i).map λr=>rowC (pbOf hN) λc=>zbd sh L c r),true),k1,k2,k3,k4]:=⟨_,λ_ _=>Iff.rfl⟩;refine⟨Iv,(hIv _ _).mpr ⟨_,_,_,_,rfl⟩,?_,?_⟩
 ·intro i d ρ hd hI;obtain⟨k1,k2,k3,k4,rfl⟩:=(hIv _ _).mp hI;obtain⟨x,hx,rfl⟩:=zfR hd;rw[Xl]at hx;cases hp:sh[i]? with
  | none=>rw[hp]at hx;cases hx
  | some p=>
   rw[hp]at hx;cases hx;have hi:=(Xe.mp hp).1;have hg:sh.getD i []=p:=by rw[XA,hp];rfl
   refine⟨_,rfl,rfl,_,_,rfl,_,_,rfl,rfl,?_⟩;walk_at "go";refine⟨by rw[Xb];lia,λk out=>out=(Xz k).map λc=>PV.int (zbd sh L c i),rfl,?_,?_⟩
   ·rintro k d out hd-rfl;rw[Xl]at hd;cases hl:L[k]? with
    | none=>rw[hl]at hd;cases hd
    | some l=>
     rw[hl]at hd;cases hd;have hk:=(Xe.mp hl).1;have hc:zbd sh L k i=if l∈p then 1 else 0:=by
      unfold zbd;rw[if_pos hk,if_pos hi,hg,XA,hl];rfl
     refine⟨rfl,zfa _ _,?_⟩;have hz:∀z:Int,zbd sh L k i=z->(Xz k).map (λc=>PV.int (zbd sh L c i))++[PV.int z]=(Xz (k+1)).map λc=>PV.int (zbd sh L c i):=λz e=>by rw[Yt,Xn,Yz,e]
     refine ite2 (λe=>hz 1 ?_) (λe=>hz 0 ?_)
     ·rw[hc,if_pos (zfs.mp e)]
     ·rw[hc,if_neg λz=>e (zfs.mpr z)]
   ·rintro out-rfl;walk_at "go";simp only[Xb,zbf];refine⟨by lia,by lia,by lia,λk out=>out=(Xz k).map λj=>PV.int (zbd sh L (L.length+j) i),rfl,?_,?_⟩
    ·rintro k d out hd-rfl;obtain⟨hk,rfl⟩:=zbV hd;have hc:zbd sh L (L.length+k) i=if i=k then 1 else 0:=by
      unfold zbd;rw[if_neg (by lia),if_pos (by lia),show L.length+k-L.length=k by lia]
     have hz:∀z:Int,zbd sh L (L.length+k) i=z->(Xz k).map (λj=>PV.int (zbd sh L (L.length+j) i))++[PV.int z]=(Xz (k+1)).map λj=>PV.int (zbd sh L (L.length+j) i):=λz e=>by rw[Yt,Xn,Yz,e]
     refine⟨rfl,ite2 (λe=>hz 1 ?_) (λe=>hz 0 ?_)⟩
     ·have:=PV.int.inj e;rw[hc,if_pos (by lia)]
     ·rw[hc,if_neg λz=>e (by rw[z,Int.zero_add])]
    ·rintro out-rfl;walk_at "go";simp only[Xb,XM,Xm];have e:(Xz i).map (λr=>rowC (pbOf hN) λc=>zbd sh L c r)++[PV.lst ((Xz L.length).map (λc=>PV.int (zbd sh L c i))++(Xz (sh.length:Int).toNat).map (λj=>PV.int (zbd sh L (L.length+j) i))++[PV.int 1])]=(Xz (i+1)).map λr=>rowC (pbOf hN) λc=>zbd sh L c r:=by
      rw[Yt,Xn,Yz,Yc]
      congr 2
      unfold rowC;rw[zgd];show _=PV.lst (_++_++[PV.int (zbd sh L (L.length+sh.length) i)]);rw[show zbd sh L (L.length+sh.length) i=1 from(pbOf hN).rhs i hi];rfl
     rw[e];exact⟨by lia,by lia,by lia,by lia,(hIv _ _).mpr ⟨_,_,_,_,rfl⟩⟩
 ·intro ρ hI;obtain⟨k1,k2,k3,k4,rfl⟩:=(hIv _ _).mp hI;walk_at "go";rw[zfS];simp only[Xb,XM,Xm];refine⟨by lia,by lia,λk out=>out=(Xz k).map λc=>PV.int (-1),rfl,?_,?_⟩
  ·rintro k d out hd-rfl;show _=_;rw[Yt,Xn];rfl
  ·rintro out-rfl;refine⟨by lia,λk out=>out=(Xz k).map λc=>PV.int 0,rfl,?_,?_⟩
   ·rintro k d out hd-rfl;show _=_;rw[Yt,Xn];rfl
   ·rintro out-rfl;simp only[Xb,XM];refine⟨by lia,by lia,by lia,?_⟩;walk_at "go";have e:(Xz sh.length).map (λr=>rowC (pbOf hN) λc=>zbd sh L c r)++[PV.lst ((Xz L.length).map (λc=>PV.int (-1))++(Xz sh.length).map (λc=>PV.int 0)++[PV.int 0])]=(Xz (sh.length+1)).map λr=>rowC (pbOf hN) λc=>zbd sh L c r:=by
     rw[Yt,Xn,Yz]
     congr 2
     unfold rowC;rw[zgd];show _=PV.lst (_++_++[PV.int (zbd sh L (L.length+sh.length) sh.length)]);rw[show zbd sh L (L.length+sh.length) sh.length=0 from(pbOf hN).rhsm]
     congr 3
     ·exact List.map_congr_left λc hc=>congrArg PV.int ((pbOf hN).low c (List.mem_range.mp hc)).symm
     ·refine List.map_congr_left λc hc=>congrArg PV.int ?_;have hc:=List.mem_range.mp hc;show 0=zbd sh L (L.length+c) sh.length;unfold zbd;rw[if_neg (by lia),if_pos (by lia),if_neg (by lia)]
    rw[e];exact q
end
open M41 (Pb Gd tb bt Ent Lev)
structure TF (K:Xa)(C:We):Prop where
 c:Cls K C
 width:zcd K C "width"
 bottom:zcd K C "bottom"
 lines:zcd K C "lines"
 held:zcd K C "held"
abbrev bks:List Str:=["width","bottom","lines"]
def brdD (p:Pb)(h:List Nat):List PV:=[.int p.n,.int (bt p h),ziG p (tb p h)]
def zbT (h:List Nat):List Int:=h.map λ(k:Nat)=>(k:Int)
def brdP (C:We)(p:Pb)(h:List Nat):PV:=objOf C bks "held" (brdD p h) (zbT h)
structure Sm (p:Pb):Prop where
 m1:1<=p.m
 m6:p.m<=6
 n6:p.n<=6
theorem zgP {p:Pb}{g:Nat->Int}{c:Nat}(h:c<=p.n+p.m):atI (((Xz (p.n+p.m+1)).map g).map PV.int) ((c:Nat):Int)=some (.int (g c)):=zaR (by simp[Yw (show c<p.n+p.m+1 by lia)])
theorem zhG {p:Pb}{g:Nat->Int}:atI (((Xz (p.n+p.m+1)).map g).map PV.int) (-1)=some (.int (g (p.n+p.m))):=by
 rw[Yt,Xn,Xn];exact L2.zgZ _ _
theorem zed {p:Pb}{g:Nat->Nat->Int}{r:Nat}(h:r<=p.m):atI ((Xz (p.m+1)).map λr=>rowC p (g r)) ((r:Nat):Int)=some (rowC p (g r)):=zaR (by simp[Yw (show r<p.m+1 by lia)])
theorem ziI {p:Pb}{g:Nat->Nat->Int}:atI ((Xz (p.m+1)).map λr=>rowC p (g r)) (-1)=some (rowC p (g p.m)):=by
 rw[Yt,Xn];exact L2.zgZ _ _
theorem zhH {p:Pb}{h:List Nat}(G:Gd p h){i:Nat}(hi:i<p.m):atI ((zbT h).map PV.int) ((i:Nat):Int)=some (.int (h.getD i 0:Nat)):=by
 have hl:i<h.length:=by rw[G.len];exact hi
 refine zaR ?_;unfold zbT;rw[Xl,Xl,XA,Xg hl];rfl
def fCol (C:We):PF:=λds Q=>∃(p:Pb)(h:List Nat),ds=[brdP C p h]/\Gd p h/\Sm p/\(∀j:Nat,Ent p h j->Q (.int j) .frz)/\((∀c,c<p.n+p.m->0<=tb p h p.m c)->Q .non .frz)
theorem zkI {C:We}:zaY (fCol C):=λds Q Q' m ⟨a,b,e,h1,h2,q1,q2⟩=>⟨a,b,e,h1,h2,λj h=>m _ _ (q1 j h),λh=>m _ _ (q2 h)⟩
def soon (p:Pb)(h:List Nat)(i k j:Nat):Bool:=HT.lexLt [tb p h i (p.n+p.m)*tb p h k j,(h.getD i 0:Nat)] [tb p h k (p.n+p.m)*tb p h i j,(h.getD k 0:Nat)]
theorem zkJ {p:Pb}{h:List Nat}{i k j:Nat}:soon p h i k j=true↔tb p h i (p.n+p.m)*tb p h k j<tb p h k (p.n+p.m)*tb p h i j\/(tb p h i (p.n+p.m)*tb p h k j=tb p h k (p.n+p.m)*tb p h i j/\h.getD i 0<h.getD k 0):=by
 unfold soon;rw[HT.zeR,HT.zeR,HT.zej];generalize tb p h i (p.n+p.m)*tb p h k j=a;generalize tb p h k (p.n+p.m)*tb p h i j=b;split
 ·split
  ·rw[XU,false_iff];lia
  ·rw[decide_eq_true_eq];lia
 ·rw[decide_eq_true_eq];lia
def sle (p:Pb)(h:List Nat)(j i r:Nat):Prop:=tb p h i (p.n+p.m)*tb p h r j<tb p h r (p.n+p.m)*tb p h i j\/(tb p h i (p.n+p.m)*tb p h r j=tb p h r (p.n+p.m)*tb p h i j/\h.getD i 0<=h.getD r 0)
theorem zug {p:Pb}{h:List Nat}{j k i r:Nat}(hk:0<tb p h k j)(hi:0<tb p h i j)(hr:0<tb p h r j)(h1:sle p h j k i)(h2:sle p h j i r):sle p h j k r:=by
 unfold sle at *;have e1:=M41.ratio (a:=tb p h k (p.n+p.m)) (b:=tb p h k j) (c:=tb p h i (p.n+p.m)) (d:=tb p h i j) (e:=tb p h r (p.n+p.m)) (f:=tb p h r j) hi hr hk;have e2:=M41.zhC (a:=tb p h k (p.n+p.m)) (b:=tb p h k j) (c:=tb p h i (p.n+p.m)) (d:=tb p h i j) (e:=tb p h r (p.n+p.m)) (f:=tb p h r j) hi hr hk;have e3:=M41.ratio (a:=tb p h r (p.n+p.m)) (b:=tb p h r j) (c:=tb p h i (p.n+p.m)) (d:=tb p h i j) (e:=tb p h k (p.n+p.m)) (f:=tb p h k j) hi hk hr;rcases h1 with h1 | ⟨h1,g1⟩
 ·exact .inl (e2 (.inl ⟨h1,h2.elim Int.le_of_lt λz=>Int.le_of_eq z.1⟩))
 ·rcases h2 with h2 | ⟨h2,g2⟩
  ·exact .inl (e2 (.inr ⟨Int.le_of_eq h1,h2⟩))
  ·exact .inr ⟨Int.le_antisymm (e1 (Int.le_of_eq h1) (Int.le_of_eq h2)) (e3 (Int.le_of_eq h2.symm) (Int.le_of_eq h1.symm)),Xx g1 g2⟩
structure LevK (p:Pb)(h:List Nat)(j k i:Nat):Prop where
 lt:i<k
 pos:0<tb p h i j
 best:∀r,r<k->0<tb p h r j->sle p h j i r
theorem LevK.keep {p:Pb}{h:List Nat}{j k i:Nat}(L:LevK p h j k i)(e:¬ 0<tb p h k j\/¬ soon p h k i j=true):LevK p h j (k+1) i:=by
 refine⟨XJ L.lt,L.pos,λr hr hp=>?_⟩;by_cases z:r=k
 ·subst z;rcases e with e | e
  ·exact absurd hp e
  ·rw[zkJ]at e;unfold sle;lia
 ·exact L.best r (by lia) hp
theorem LevK.new {p:Pb}{h:List Nat}{j k i:Nat}(L:LevK p h j k i)(hk:0<tb p h k j)(e:soon p h k i j=true):LevK p h j (k+1) k:=by
 have h1:sle p h j k i:=by
  rw[zkJ]at e;unfold sle;lia
 refine⟨XS k,hk,λr hr hp=>?_⟩;by_cases z:r=k
 ·subst z;exact .inr ⟨rfl,Xf _⟩
 ·exact zug hk L.pos hp h1 (L.best r (by lia) hp)
def zbo (C:We):PF:=λds Q=>∃(p:Pb)(h:List Nat)(i k j:Nat),ds=[brdP C p h,.int i,.int k,.int j]/\Gd p h/\Sm p/\i<p.m/\k<p.m/\j<p.n+p.m/\Q (.bl (soon p h i k j)) .frz
theorem zjx {C:We}:zaY (zbo C):=λds Q Q' m ⟨a,b,c,d,e,f,h1,h2,h3,h4,h5,q⟩=>⟨a,b,c,d,e,f,h1,h2,h3,h4,h5,m _ _ q⟩
def zdh (C:We):PF:=λds Q=>∃(p:Pb)(h:List Nat)(j:Nat),ds=[brdP C p h,.int j]/\Gd p h/\Sm p/\j<p.n+p.m/\∀i:Nat,Lev p h j i->Q (.int i) .frz
theorem znH {C:We}:zaY (zdh C):=λds Q Q' m ⟨a,b,c,e,h1,h2,h3,q⟩=>⟨a,b,c,e,h1,h2,h3,λi h=>m _ _ (q i h)⟩
section
variable {P:Wl}{w:Wt}{K:Xa}{mg:Str->Option Wb}{base:Heap}
theorem zuh:zan ["self","column","gain"] ["self"] (zac sCol):=⟨rfl,rfl,rfl,by decide +kernel,rfl,by decide +kernel,by decide +kernel⟩
theorem zui {C f:We}{fd:Wr}(F:Fun K "column_to_raise" "Board.column_to_raise" sCol f fd) (T:TF K C) (B:Bl mg):FnOk P w K mg base CX0 1 f fd ["self"] (spP K (fCol C)):=by
 refine zat F zuh (λds Q ⟨a,b,e,_⟩=>by rw[e];rfl) (λcdv A outer s H E hr=>?_);have hu:(A.deeper (WB "Board.column_to_raise" (zac sCol) s.heap.objs.size f cdv)).units+16<Wz:=by have q:=hr.units;lia
 have nd:=zuh.nd;refine⟨_,(zad (zaJ rfl PassesOwn.never (zkm rfl B.enumerate (zal (zbq T.c T.lines (zaa 0)) (zff zaf))) (zdk (n:=2) rfl (zaA (zai (i:=1) nd rfl (Or.inl rfl)) (zaA (zai (i:=2) nd rfl (Or.inl rfl)) zcv))) (zag (zbF (zkc (zaa 2) zaf) (zag (zaq (zaa 1))) zaE)))
   (zag (zaq zfG))),λds Q h=>?_⟩
 obtain⟨p,h,rfl,G,S,q1,q2⟩:=h;have hsz:=Wo;walk_at "pu";refine⟨_,_,rfl,_,rfl,_,.inl ⟨_,.inl rfl,ziI⟩,_,rfl,?_⟩;obtain⟨Iv,hIv⟩:∃Iv:Nat->PEnv->Prop,∀i ρ,Iv i ρ↔∃(k1 k2:Option (PV×Bool)),ρ=[some (brdP C p h,false),k1,k2]/\∀c,c<i->0<=tb p h p.m c:=⟨_,λ_ _=>Iff.rfl⟩;refine⟨Iv,(hIv _ _).mpr ⟨_,_,rfl,λc hc=>absurd hc (Nat.not_lt_zero _)⟩,?_,?_⟩
 ·intro i d ρ hd hI;obtain⟨k1,k2,rfl,hnn⟩:=(hIv _ _).mp hI;obtain⟨x,hx,rfl⟩:=zfR hd;have hi:i<p.n+p.m+1:=by
   have:=(Xe.mp hx).1;simpa using this
  have hx':x=.int (tb p h p.m i):=by
   rw[Xl,Xl,Yw hi]at hx;exact(Option.some.inj hx).symm
  subst hx';refine⟨_,rfl,rfl,_,_,rfl,_,_,rfl,rfl,?_⟩;walk_at "go";refine ite2 (λe=>?_) (λe=>?_)
  ·walk_at "go";refine q1 i ⟨?_,e,hnn⟩;by_cases z:i=p.n+p.m
   ·have:=M41.zua G;rw[z]at e;lia
   ·lia
  ·walk_at "go";refine(hIv _ _).mpr ⟨_,_,rfl,λc hc=>?_⟩;by_cases z:c=i
   ·subst z;lia
   ·exact hnn c (by lia)
 ·intro ρ hI;obtain⟨k1,k2,rfl,hnn⟩:=(hIv _ _).mp hI;rw[zfS,Xb,Xb,XM]at hnn;walk_at "go";exact q2 λc hc=>hnn c (by lia)
theorem zkK:zan ["self","i","j","column","one","other"] ["self","i","j","column"] (zac zct):=⟨rfl,rfl,rfl,by decide +kernel,rfl,by decide +kernel,by decide +kernel⟩
theorem znI {C f:We}{fd:Wr}(F:Fun K "ends_sooner" "Board.ends_sooner" zct f fd) (T:TF K C) (B:Bl mg):FnOk P w K mg base CX0 1 f fd ["self","i","j","column"] (spP K (zbo C)):=by
 refine zat F zkK (λds Q ⟨a,b,c,d,e,h,_⟩=>by rw[h];rfl) (λcdv A outer s H E hr=>?_);have hu:(A.deeper (WB "Board.ends_sooner" (zac zct) s.heap.objs.size f cdv)).units+16<Wz:=by have q:=hr.units;lia
 have nd:=zkK.nd;refine⟨_,(zad (zah (i:=4) nd rfl (Or.inl rfl) (zbO (zal (zal (zbq T.c T.lines (zaa 0)) (zaa 1)) (zff zaf)) (zal (zal (zbq T.c T.lines (zaa 0)) (zaa 2)) (zaa 3))))
   (zad (zah (i:=5) nd rfl (Or.inl rfl) (zbO (zal (zal (zbq T.c T.lines (zaa 0)) (zaa 2)) (zff zaf)) (zal (zal (zbq T.c T.lines (zaa 0)) (zaa 1)) (zaa 3))))
   (zag (zaq (ztS hu (zgF (zab (zaa 4) (zab (zal (zbq T.c T.held (zaa 0)) (zaa 1)) zae))) (zgF (zab (zaa 5) (zab (zal (zbq T.c T.held (zaa 0)) (zaa 2)) zae)))))))),λds Q h=>?_⟩
 obtain⟨p,h,i,k,j,rfl,G,S,hi,hk,hj,q⟩:=h;have hsz:=Wo;walk_at "pu";have b1:=G.small S.m6 (show i<=p.m by lia) (show p.n+p.m<=p.n+p.m by lia);have b2:=G.small S.m6 (show k<=p.m by lia) (show j<=p.n+p.m by lia);have b3:=G.small S.m6 (show k<=p.m by lia) (show p.n+p.m<=p.n+p.m by lia);have b4:=G.small S.m6 (show i<=p.m by lia) (show j<=p.n+p.m by lia);refine⟨_,_,rfl,_,rfl,_,.inl ⟨_,.inl rfl,zed (show i<=p.m by lia)⟩,_,.inl ⟨_,.inl rfl,zhG⟩,_,_,rfl,_,rfl,_,.inl ⟨_,.inl rfl,zed (show k<=p.m by lia)⟩,_,.inl ⟨_,.inl rfl,zgP (show j<=p.n+p.m by lia)⟩,_,rfl,_,rfl,.inl ⟨by lia,by lia⟩,?_⟩;walk_at "go";refine⟨_,_,rfl,_,rfl,_,.inl ⟨_,.inl rfl,zed (show k<=p.m by lia)⟩,_,.inl ⟨_,.inl rfl,zhG⟩,_,_,rfl,_,rfl,_,.inl ⟨_,.inl rfl,zed (show i<=p.m by lia)⟩,_,.inl ⟨_,.inl rfl,zgP (show j<=p.n+p.m by lia)⟩,_,rfl,_,rfl,.inl ⟨by lia,by lia⟩,?_⟩;walk_at "go";exact⟨_,_,rfl,_,rfl,_,.inl ⟨_,.inl rfl,zhH G hi⟩,by lia,_,_,rfl,_,rfl,_,.inl ⟨_,.inl rfl,zhH G hk⟩,by lia,[_,_],rfl,[_,_],rfl,q⟩
theorem zqp:zan ["self","column","found","i"] ["self","column"] (zac zgu):=⟨rfl,rfl,rfl,by decide +kernel,rfl,by decide +kernel,by decide +kernel⟩
theorem zsd {C f f1:We}{fd fd1:Wr}(F:Fun K "line_that_ends" "Board.line_that_ends" zgu f fd) (T:TF K C) (Sooner:Mx K C "ends_sooner" "Board.ends_sooner" zct ["self","i","j","column"] f1 fd1) (B:Bl mg):FnOk P w K mg base CX0 2 f fd ["self","column"] (spP K (zdh C)):=by
 have GSooner:FnOk P w K mg base CX0 1 f1 fd1 ["self","i","j","column"] (spP K (zbo C)):=znI Sooner.fn T B;refine zat F zqp (λds Q ⟨a,b,c,h,_⟩=>by rw[h];rfl) (λcdv A outer s H E hr=>?_);have hu:(A.deeper (WB "Board.line_that_ends" (zac zgu) s.heap.objs.size f cdv)).units+16<Wz:=by have q:=hr.units;lia
 have nd:=zqp.nd;refine⟨_,(zad (zah (i:=2) nd rfl (Or.inl rfl) zfG)
   (zad (zaJ rfl PassesOwn.never (zaL rfl B.range (zab (zaZ rfl B.len (zab (zbq T.c T.held (zaa 0)) zae)) zae)) (zai (i:=3) nd rfl (Or.inl rfl)) (zag (zbF (PuW.t (zhk (zgI (zal (zal (zbq T.c T.lines (zaa 0)) (zaa 3)) (zaa 1)) zaf) (zfo (PuW.t (zfK (zrv (zaa 2) zfG) (zfJ (zfL (zhq T.c Sooner.me GSooner zjx hr Sooner.bd (zaa 0) (zab (zaa 3) (zab (zaa 2) (zab (zaa 1) zae))))))))))) (zag (zah (i:=2) nd rfl (Or.inl rfl) (zaa 3))) zaE)))
   (zag (zaq (zaa 2))))),λds Q h=>?_⟩
 obtain⟨p,h,j,rfl,G,S,hj,q⟩:=h;have hsz:=Wo;walk_at "pu";walk_at "go";obtain⟨i1,hi1,hp1⟩:=M41.ends G hj;have hm6:=S.m6;have hhl:(List.map PV.int (zbT h)).length=p.m:=by rw[Xb];unfold zbT;rw[Xb];exact G.len
 refine⟨_,_,rfl,_,rfl,_,rfl,by rw[hhl];lia,by rw[hhl];lia,?_⟩;rw[hhl,Yc];obtain⟨Iv,hIv⟩:∃Iv:Nat->PEnv->Prop,∀k ρ,Iv k ρ↔∃(v:PV) (k1:Option (PV×Bool)),ρ=[some (brdP C p h,false),some (PV.int j,false),some (v,false),k1]/\((v=.non/\∀r,r<k->¬ 0<tb p h r j)\/∃i:Nat,v=.int i/\LevK p h j k i):=⟨_,λ_ _=>Iff.rfl⟩;refine⟨Iv,(hIv _ _).mpr ⟨_,_,rfl,.inl ⟨rfl,λr hr=>absurd hr (Nat.not_lt_zero _)⟩⟩,?_,?_⟩
 ·intro k d ρ hd hI;obtain⟨v,k1,rfl,hv⟩:=(hIv _ _).mp hI;obtain⟨hk,rfl⟩:=zbV hd;rw[Int.zero_add];walk_at "go";refine⟨_,_,rfl,_,rfl,_,.inl ⟨_,.inl rfl,zed (show k<=p.m by lia)⟩,_,.inl ⟨_,.inl rfl,zgP (show j<=p.n+p.m by lia)⟩,_,rfl,?_⟩;refine ite2 (λe=>?_) (λe=>?_)
  ·rcases hv with ⟨rfl,hn⟩ | ⟨i,rfl,L⟩
   ·rw[if_pos rfl];walk_at "go";refine(hIv _ _).mpr ⟨_,_,rfl,.inr ⟨k,rfl,XS k,e,λr hr hp=>?_⟩⟩;by_cases y:r=k
    ·subst y;exact .inr ⟨rfl,Xf _⟩
    ·exact absurd hp (hn r (by lia))
   ·have hik:=L.lt;rw[if_neg λz=>nomatch z];refine⟨_,⟨_,rfl⟩,by decide,p,h,rfl,k,rfl,i,rfl,j,rfl,G,S,hk,by lia,hj,ite2 (λe2=>?_) (λe2=>?_)⟩
    ·walk_at "go";exact(hIv _ _).mpr ⟨_,_,rfl,.inr ⟨k,rfl,L.new e e2⟩⟩
    ·walk_at "go";exact(hIv _ _).mpr ⟨_,_,rfl,.inr ⟨i,rfl,L.keep (.inr e2)⟩⟩
  ·walk_at "go";refine(hIv _ _).mpr ⟨_,_,rfl,hv.imp (λz=>⟨z.1,λr hr=>?_⟩) λz=>?_⟩
   ·by_cases y:r=k
    ·subst y;lia
    ·exact z.2 r (by lia)
   ·obtain⟨i,ei,L⟩:=z;exact⟨i,ei,L.keep (.inl (by lia))⟩
 ·intro ρ hI;obtain⟨v,k1,rfl,hv⟩:=(hIv _ _).mp hI;rw[zbf]at hv;walk_at "go";rcases hv with ⟨rfl,hn⟩ | ⟨i,rfl,L⟩
  ·exact absurd hp1 (hn i1 hi1)
  ·exact q i ⟨L.lt,L.pos,L.best⟩
end
def woC (p:Pb)(h:List Nat)(i j r c:Nat):Int:=(tb p h r c*tb p h i j-tb p h r j*tb p h i c) / bt p h
theorem zkL {p:Pb}{h:List Nat}(G:Gd p h)(S:Sm p):bt p h<=5040:=by
 have h1:=S.m1;have e:=M41.zcU (p:=p) (h:=h) (k:=0) (r:=0) (by lia) (by lia);rw[if_pos rfl]at e;rw[<- e];exact(G.small S.m6 (by lia) (Ys (G.lt 0 (by lia)))).2
def zaV (C:We):PF:=λds Q=>∃(p:Pb)(h:List Nat)(r i j:Nat),ds=[brdP C p h,rowC p (tb p h r),rowC p (tb p h i),.int j]/\Gd p h/\Sm p/\r<=p.m/\i<p.m/\j<p.n+p.m/\Q (rowC p (woC p h i j r)) .new
theorem ziJ {C:We}:zaY (zaV C):=λds Q Q' m ⟨a,b,c,d,e,f,h1,h2,h3,h4,h5,q⟩=>⟨a,b,c,d,e,f,h1,h2,h3,h4,h5,m _ _ q⟩
def zdv:PMz:=λds hs as Q=>∃(p:Pb)(h:List Nat)(i j:Nat),ds=brdD p h/\hs=zbT h/\as=[.int i,.int j]/\Gd p h/\Sm p/\j<p.n+p.m/\Lev p h j i/\Q (brdD p (h.set i j)) (zbT (h.set i j))
theorem znJ:zpg zdv:=λds hs as Q Q' m ⟨a,b,c,d,e,f,h1,h2,h3,h4,h5,q⟩=>⟨a,b,c,d,e,f,h1,h2,h3,h4,h5,m _ _ q⟩
theorem zgf {p:Pb}{h:List Nat}(G:Gd p h)(g:Nat->Int):zeY (zbT h) (rowC p g):=by
 refine⟨_,rfl,?_⟩;unfold zbT;rw[Xb,Xb,XM,G.len];lia
theorem ziK {p:Pb}{h:List Nat}{i j:Nat}(G:Gd p h)(hi:i<p.m):((Xz (p.m+1)).map λr=>rowC p (woC p h i j r)).set i (rowC p (tb p h i))=(Xz (p.m+1)).map λr=>rowC p (tb p (h.set i j) r):=by
 refine List.ext_getElem (by simp) λr h1 h2=>?_;rw[List.getElem_set,List.getElem_map,List.getElem_map,List.getElem_range];have hr:r<p.m+1:=by simpa using h2
 by_cases e:i=r
 ·subst e;rw[if_pos rfl];exact congrArg (rowC p) (funext λc=>(M41.zkC hi G.len).symm)
 ·rw[if_neg e];refine congrArg (rowC p) (funext λc=>?_);have ht:=M41.turn (j:=j) (c:=c) (r:=r) G hi (by lia) (λz=>e z.symm);unfold woC;rw[show tb p h r c*tb p h i j-tb p h r j*tb p h i c=bt p h*tb p (h.set i j) r c by rw[ht,YE (tb p h r c)]];exact Int.mul_ediv_cancel_left _ (Int.ne_of_gt G.pos)
section
variable {P:Wl}{w:Wt}{K:Xa}{mg:Str->Option Wb}{base:Heap}
theorem ziL:zan ["self","line","turned","column"] ["self","line","turned","column"] (zac zbu):=⟨rfl,rfl,rfl,by decide +kernel,rfl,by decide +kernel,by decide +kernel⟩
theorem zlE {C f:We}{fd:Wr}(F:Fun K "without" "Board.without" zbu f fd) (T:TF K C) (B:Bl mg):FnOk P w K mg base CX0 1 f fd ["self","line","turned","column"] (spP K (zaV C)):=by
 refine zat F ziL (λds Q ⟨a,b,c,d,e,h,_⟩=>by rw[h];rfl) (λcdv A outer s H E hr=>?_);have hu:(A.deeper (WB "Board.without" (zac zbu) s.heap.objs.size f cdv)).units+16<Wz:=by have q:=hr.units;lia
 have nd:=ziL.nd;refine⟨_,(zag (zaq (zbQ (N:=["cell","other","self","line","turned","column"]) (k:=2) (js:=[0,1,2,3]) rfl (zdB (sup:=zac zbu) (XN:=["self","line","turned","column"]) rfl rfl (by decide +kernel)) (by decide) (zro (loc2 (by decide) (by decide))) (zhs rfl B.zip (zab (zaa 1) (zab (zaa 2) zae))) ⟨λ_ _ _ _ _=>(zdk (n:=2) rfl (zaA (zai (i:=0) (by show(["cell","other","self","line","turned","column"]:List Str).Nodup;decide +kernel) rfl (Or.inl rfl)) (zaA (zai (i:=1) (by show(["cell","other","self","line","turned","column"]:List Str).Nodup;decide +kernel) rfl (Or.inl rfl)) zcv))),λ_ _ _ _ _=>zaT,λ_ _ _ _ _=>(zdd (zik (zbO (zaa 0) (zal (zaa 4) (zaa 5))) (zbO (zal (zaa 3) (zaa 5)) (zaa 1))) (zbq T.c T.bottom (zaa 2)))⟩))),λds Q h=>?_⟩;obtain⟨p,h,r,i,j,rfl,G,S,hr',hi,hj,q⟩:=h;have hsz:=Wo;have h1:=S.m6;have h2:=S.n6;walk_at "pu";refine⟨_,rfl,_,rfl,by rw[zcw,Xb,Xb,XM,Xb,Xb,XM];lia,λk out=>out=(Xz k).map λc=>PV.int (woC p h i j r c),rfl,?_,?_⟩
 ·rintro k d out hd-rfl;obtain⟨x,y,hx,hy,rfl⟩:=zcS hd;have hk:k<p.n+p.m+1:=by
   have:=(Xe.mp hx).1;simpa using this
  rw[Xl,Xl,Yw hk]at hx hy;cases hx;cases hy;refine⟨_,rfl,rfl,_,_,rfl,_,_,rfl,rfl,?_⟩;walk_at "pu";have b1:=G.small S.m6 (show r<=p.m by lia) (show k<=p.n+p.m by lia);have b2:=G.small S.m6 (show i<=p.m by lia) (show k<=p.n+p.m by lia);refine⟨_,.inl ⟨_,.inl rfl,zgP (show j<=p.n+p.m by lia)⟩,_,rfl,.inl ⟨by lia,by lia⟩,_,.inl ⟨_,.inl rfl,zgP (show j<=p.n+p.m by lia)⟩,_,rfl,.inr ⟨by lia,by lia⟩,_,_,rfl,_,rfl,_,rfl,?_,?_⟩
  ·have:=zkL G S;exact⟨G.pos,by lia⟩
  ·show _=_;rw[Yt,Xn];rfl
 ·rintro out-rfl;rw[zcw,Xb,Xb,XM,Xb,Xb,XM,Nat.min_self];have e:PV.lst ((Xz (p.n+p.m+1)).map λc=>PV.int (woC p h i j r c))=rowC p (woC p h i j r):=by unfold rowC;rw[List.map_map];rfl
  rw[e];exact q
theorem zqq:zan ["self","i","column","turned","lines"] ["self","i","column"] (zac zgb):=⟨rfl,rfl,rfl,by decide +kernel,rfl,by decide +kernel,by decide +kernel⟩
theorem zse {C f f1:We}{fd fd1:Wr}(F:Fun K "turn" "Board.turn" zgb f fd) (T:TF K C) (Without:Mx K C "without" "Board.without" zbu ["self","line","turned","column"] f1 fd1) (B:Bl mg):FnOk P w K mg base CX0 2 f fd ["self","i","column"] (spZ K C bks "held" zdv):=by
 have GWithout:FnOk P w K mg base CX0 1 f1 fd1 ["self","line","turned","column"] (spP K (zaV C)):=zlE Without.fn T B;refine fn_Z F zqq (λds hs as Q ⟨a,b,c,d,e,g,h,_⟩=>by rw[h];rfl) (λcdv A outer s H E hr=>?_);have hu:(A.deeper (WB "Board.turn" (zac zgb) s.heap.objs.size f cdv)).units+16<Wz:=by have q:=hr.units;lia
 have nd:=zqq.nd;refine⟨_,(zeE (zpi (i:=3) nd rfl (Or.inr rfl) (zal (zbq T.c T.lines (zaa 0)) (zaa 1)))
   (zns T.c T.lines (gi:=2) (iy:=4) (zpj (N:=["line","self","column","turned"]) (k:=1) (js:=[0,2,3]) rfl (zdB (sup:=zac zgb) (XN:=["self","i","column","turned","lines"]) rfl rfl (by decide +kernel)) (by decide) (zaS (by decide)) (zaF (zbq T.c T.lines (zaa 0))) ⟨λ_ _ _ _ _=>(zai (i:=0) (by show(["line","self","column","turned"]:List Str).Nodup;decide +kernel) rfl (Or.inl rfl)),λ_ _ _ _ _=>zaT,λ_ _ _ _ _=>(zhq T.c Without.me GWithout ziJ hr Without.bd (zaa 1) (zab (zaa 0) (zab (zaa 3) (zab (zaa 2) zae))))⟩ nd rfl rfl) (zaa 3) (zaa 1)
   (zeE (zrR T.c T.held (zaa 1) (zaa 2))
   (zhy (zrQ T.c T.bottom (gi:=1) (zal (zaa 3) (zaa 2))))) rfl)),λds hs as Q h=>?_⟩
 obtain⟨p,h,i,j,rfl,rfl,rfl,G,S,hj,L,q⟩:=h;have hsz:=Wo;walk_at "pu";have hi:=L.lt;have hm:=S.m6;refine⟨_,_,rfl,_,rfl,_,.inl ⟨_,.inl rfl,zed (show i<=p.m by lia)⟩,zgf G _,by decide,by decide,by decide,_,_,rfl,_,rfl,_,rfl,by rw[Xb,XM];lia,λk out=>out=(Xz k).map λr=>rowC p (woC p h i j r),rfl,?_,?_⟩
 ·rintro k d out hd-rfl;have hk:k<p.m+1:=by
   have:=(Xe.mp hd).1;simpa using this
  rw[Xl,Yw hk]at hd;cases hd;refine⟨_,⟨_,rfl⟩,by decide,p,h,rfl,k,rfl,i,rfl,j,rfl,G,S,by lia,hi,hj,?_⟩;show _=_;rw[Yt,Xn];rfl
 ·rintro out-rfl;rw[Xb,XM,Xb,XM];have hhl:(zbT h).length=p.m:=by unfold zbT;rw[Xb];exact G.len
  refine⟨λr hr=>?_,zgf G _,i,rfl,by lia,by decide,i,rfl,by lia,by decide,by decide,?_⟩
  ·obtain⟨r',_,rfl⟩:=XD.mp hr;exact zgf G _
  ·refine⟨_,.inl ⟨_,.inl rfl,zgP (show j<=p.n+p.m by lia)⟩,trivial,?_⟩;rw[ziK G hi];have e1:((brdD p h).set 2 (PV.lst ((Xz (p.m+1)).map λr=>rowC p (tb p (h.set i j) r)))).set 1 (PV.int (tb p h i j))=brdD p (h.set i j):=by
    rw[<- M41.zkB hi G.len];rfl
   have e2:(zbT h).set i (j:Int)=zbT (h.set i j):=by unfold zbT;rw[List.map_set]
   rw[e1,e2];exact q
end
structure Hist (p:Pb)(f:Nat->List Nat)(J I:Nat->Nat)(t:Nat):Prop where
 zero:f 0=M41.start p
 gd:∀s,s<=t->Gd p (f s)
 ent:∀s,s<t->Ent p (f s) (J s)
 lev:∀s,s<t->Lev p (f s) (J s) (I s)
 nxt:∀s,s<t->f (s+1)=(f s).set (I s) (J s)
theorem Hist.snoc {p:Pb}{f:Nat->List Nat}{J I:Nat->Nat}{t i j:Nat}(X:Hist p f J I t)(e:Ent p (f t) j)(l:Lev p (f t) j i):∃f' J' I',Hist p f' J' I' (t+1)/\f' (t+1)=(f t).set i j:=by
 refine⟨λs=>if s<=t then f s else(f t).set i j,λs=>if s<t then J s else j,λs=>if s<t then I s else i,⟨?_,λs hs=>?_,λs hs=>?_,λs hs=>?_,λs hs=>?_⟩,if_neg (by lia)⟩
 ·rw[if_pos (XH _)];exact X.zero
 ·by_cases z:s<=t
  ·rw[if_pos z];exact X.gd s z
  ·rw[if_neg z];exact(X.gd t (Xf _)).step e.lt l
 ·rw[if_pos (by lia)];by_cases z:s<t
  ·rw[if_pos z];exact X.ent s z
  ·rw[if_neg z,show s=t by lia];exact e
 ·rw[if_pos (by lia)];by_cases z:s<t
  ·rw[if_pos z,if_pos z];exact X.lev s z
  ·rw[if_neg z,if_neg z,show s=t by lia];exact l
 ·rw[if_pos (show s<=t by lia)];by_cases z:s<t
  ·rw[if_pos z,if_pos z,if_pos (show s+1<=t by lia)];exact X.nxt s z
  ·rw[if_neg z,if_neg z,if_neg (by lia),show s=t by lia]
theorem Hist.few {p:Pb}{f:Nat->List Nat}{J I:Nat->Nat}{t:Nat}(X:Hist p f J I t)(S:Sm p):t<=16 ^ p.m:=by
 have h1:=S.m6;have h2:=S.n6;exact M41.short (by lia) (λs hs=>X.gd s (by lia)) X.ent X.lev λs hs=>X.nxt s (by lia)
theorem Ent.uniq {p:Pb}{h:List Nat}{i j:Nat}(a:Ent p h i)(b:Ent p h j):i=j:=by
 have a1:=a.neg;have b1:=b.neg;rcases Nat.lt_trichotomy i j with z | z | z
 ·have:=b.first i z;lia
 ·exact z
 ·have:=a.first j z;lia
theorem Lev.uniq {p:Pb}{h:List Nat}{i k j:Nat}(G:Gd p h)(a:Lev p h j i)(b:Lev p h j k):i=k:=by
 have e1:=a.best k b.lt b.pos;have e2:=b.best i a.lt a.pos;have e3:h.getD i 0=h.getD k 0:=by lia
 have g1:=M41.zcU (p:=p) (h:=h) (k:=i) (r:=i) a.lt (Ys a.lt);have g2:=M41.zcU (p:=p) (h:=h) (k:=k) (r:=i) b.lt (Ys a.lt);rw[e3,if_pos rfl]at g1;have:=G.pos;by_cases z:i=k
 ·exact z
 ·rw[if_neg z,g1]at g2;lia
def Done (p:Pb)(h:List Nat):Prop:=∃f J I t,Hist p f J I t/\f t=h/\∀c,c<p.n+p.m->0<=tb p h p.m c
theorem Done.gd {p:Pb}{h:List Nat}(a:Done p h):Gd p h:=by
 obtain⟨f,J,I,t,X,e,_⟩:=a;rw[<- e];exact X.gd t (Xf _)
theorem Done.nn {p:Pb}{h:List Nat}(a:Done p h):∀c,c<p.n+p.m->0<=tb p h p.m c:=by
 obtain⟨f,J,I,t,X,e,q⟩:=a;exact q
theorem Done.uniq {p:Pb}{h h':List Nat}(a:Done p h)(b:Done p h'):h=h':=by
 obtain⟨f,J,I,t,X,e,q⟩:=a;obtain⟨f',J',I',t',X',e',q'⟩:=b;have same:∀s,s<=t->s<=t'->f s=f' s:=by
  intro s;induction s with
  | zero=>intro _ _;rw[X.zero,X'.zero]
  | succ s ih=>
   intro h1 h2;have i1:=ih (by lia) (by lia);have x1:=X.ent s (by lia);have x2:=X'.ent s (by lia);rw[<- i1]at x2;have j1:=Ent.uniq x1 x2;have l1:=X.lev s (by lia);have l2:=X'.lev s (by lia);rw[<- i1,<- j1]at l2;rw[X.nxt s (by lia),X'.nxt s (by lia),<- i1,<- j1,Lev.uniq (X.gd s (by lia)) l1 l2]
 rcases Nat.lt_trichotomy t t' with z | z | z
 ·have x:=X'.ent t z;rw[<- same t (Xf _) (by lia),e]at x;have:=q _ x.lt;have:=x.neg;lia
 ·subst z;rw[<- e,<- e',same t (Xf _) (Xf _)]
 ·have x:=X.ent t' z;rw[same t' (by lia) (Xf _),e']at x;have:=q' _ x.lt;have:=x.neg;lia
theorem seqW {C:We}{ks:List Str}{f:Str}{t tb:TPZ}{tc:TPT}{ρ:PEnv}{ds:List PV}{hs:List Int}{Q:PEnv->List PV->List Int->Prop}(Iv:Nat->PEnv->List PV->List Int->Prop)
  (h2:∀m ρ' ds' hs',Iv m ρ' ds' hs'->tc (ρ'.set 0 (some (objOf C ks f ds' hs',false))) λb=>if b=true then tb ρ' ds' hs' λρ2 ds2 hs2=>∃m',m'<m/\Iv m' ρ2 ds2 hs2 else Q ρ' ds' hs')
  (h1:∀W:TPZ,(∀ρ' ds' hs',(∃m,Iv m ρ' ds' hs')->W ρ' ds' hs' Q)->t ρ ds hs λρ' ds' hs'=>W ρ' ds' hs' Q):zSeq t (zcg C ks f tc tb) ρ ds hs Q:=h1 _ λρ' ds' hs' h=>⟨Iv,h,h2⟩
def zbp:PMz:=λds hs as Q=>∃p:Pb,ds=brdD p (M41.start p)/\hs=zbT (M41.start p)/\as=[]/\Sm p/\∀h,Done p h->Q (brdD p h) (zbT h)
theorem zjy:zpg zbp:=λds hs as Q Q' m ⟨a,e,f,h1,h2,q⟩=>⟨a,e,f,h1,h2,λh x=>m _ _ (q h x)⟩
section
variable {P:Wl}{w:Wt}{K:Xa}{mg:Str->Option Wb}{base:Heap}
theorem zkM:zan ["self","column"] ["self"] (zac zcX):=⟨rfl,rfl,rfl,by decide +kernel,rfl,by decide +kernel,by decide +kernel⟩
theorem znK {C f f1 f2 f3 f4 f5:We}{fd fd1 fd2 fd3 fd4 fd5:Wr}(F:Fun K "settle" "Board.settle" zcX f fd) (T:TF K C) (Without:Mx K C "without" "Board.without" zbu ["self","line","turned","column"] f1 fd1) (Sooner:Mx K C "ends_sooner" "Board.ends_sooner" zct ["self","i","j","column"] f2 fd2) (Line:Mx K C "line_that_ends" "Board.line_that_ends" zgu ["self","column"] f3 fd3) (Col:Mx K C "column_to_raise" "Board.column_to_raise" sCol ["self"] f4 fd4) (Turn:Mx K C "turn" "Board.turn" zgb ["self","i","column"] f5 fd5) (B:Bl mg):FnOk P w K mg base CX0 3 f fd ["self"] (spZ K C bks "held" zbp):=by
 have GLine:FnOk P w K mg base CX0 2 f3 fd3 ["self","column"] (spP K (zdh C)):=zsd Line.fn T Sooner B;have GCol:FnOk P w K mg base CX0 2 f4 fd4 ["self"] (spP K (fCol C)):=(zui Col.fn T B).mono (by decide);have GTurn:FnOk P w K mg base CX0 2 f5 fd5 ["self","i","column"] (spZ K C bks "held" zdv):=zse Turn.fn T Without B;refine fn_Z F zkM (λds hs as Q ⟨a,e,g,h,_⟩=>by rw[h];rfl) (λcdv A outer s H E hr=>?_);have hu:(A.deeper (WB "Board.settle" (zac zcX) s.heap.objs.size f cdv)).units+16<Wz:=by have q:=hr.units;lia
 have nd:=zkM.nd;refine⟨_,(zeE (znq (i:=1) nd rfl (Or.inl rfl) (zdA T.c Col.me GCol zkI hr Col.bd (zaa 0)))
   (zhy (znr PassesOwn.never (zkf (zaa 1) zfG) (zeE (zph T.c Turn.me GTurn znJ hr Turn.bd (zab (zhq T.c Line.me GLine znH hr Line.bd (zaa 0) (zab (zaa 1) zae)) (zab (zaa 1) zae)))
   (zhy (znq (i:=1) nd rfl (Or.inl rfl) (zdA T.c Col.me GCol zkI hr Col.bd (zaa 0)))))))),λds hs as Q h=>?_⟩
 obtain⟨p,rfl,rfl,rfl,S,q⟩:=h;obtain⟨Iv,hIv⟩:∃Iv:Nat->PEnv->List PV->List Int->Prop,∀m ρ ds hs,Iv m ρ ds hs↔∃f J I t v,Hist p f J I t/\ds=brdD p (f t)/\hs=zbT (f t)/\ρ=[none,some (v,false)]/\m+t=16 ^ p.m/\((∃j:Nat,v=.int j/\Ent p (f t) j)\/(v=.non/\∀c,c<p.n+p.m->0<=tb p (f t) p.m c)):=⟨_,λ_ _ _ _=>Iff.rfl⟩;refine seqW Iv (λm ρ ds hs hI=>?_) λW hW=>?_
 ·obtain⟨f,J,I,t,v,X,rfl,rfl,rfl,hmt,hv⟩:=(hIv _ _ _ _).mp hI;have G:=X.gd t (Xf _);walk_at "pu";rcases hv with ⟨j,rfl,E⟩ | ⟨rfl,hn⟩
  ·rw[if_pos (λz=>nomatch z)];refine⟨by decide,_,⟨_,rfl⟩,by decide,p,f t,rfl,j,rfl,G,S,E.lt,λi L=>?_⟩;obtain⟨f',J',I',X',e'⟩:=X.snoc E L;have few:=X'.few S;have G':=X'.gd (t+1) (Xf _);refine⟨λd hd=>by rcases Xo.mp hd with rfl | hd;exact trivial;rw[Xv.mp hd];exact trivial,p,f t,rfl,rfl,i,rfl,j,rfl,G,S,E.lt,L,?_⟩
   rw[<- e'];exact⟨_,⟨_,rfl⟩,by decide,p,f' (t+1),rfl,G',S,λj E=>⟨trivial,m-1,by lia,(hIv _ _ _ _).mpr ⟨f',J',I',t+1,_,X',rfl,rfl,rfl,by lia,.inl ⟨j,rfl,E⟩⟩⟩,λhn=>⟨trivial,m-1,by lia,(hIv _ _ _ _).mpr ⟨f',J',I',t+1,_,X',rfl,rfl,rfl,by lia,.inr ⟨rfl,hn⟩⟩⟩⟩
  ·rw[if_neg (λz=>z rfl)];exact q _ ⟨f,J,I,t,X,rfl,hn⟩
 ·have Z:Hist p (λ_=>M41.start p) (λ_=>0) (λ_=>0) 0:=⟨rfl,λ_ _=>Gd.start,λs hs=>absurd hs (Nat.not_lt_zero _),λs hs=>absurd hs (Nat.not_lt_zero _),λs hs=>absurd hs (Nat.not_lt_zero _)⟩;walk_at "pu";exact⟨_,⟨_,rfl⟩,by decide,p,M41.start p,rfl,Gd.start,S,λj E=>⟨trivial,hW _ _ _ ⟨_,(hIv _ _ _ _).mpr ⟨_,_,_,0,_,Z,rfl,rfl,rfl,rfl,.inl ⟨j,rfl,E⟩⟩⟩⟩,λhn=>⟨trivial,hW _ _ _ ⟨_,(hIv _ _ _ _).mpr ⟨_,_,_,0,_,Z,rfl,rfl,rfl,rfl,.inr ⟨rfl,hn⟩⟩⟩⟩⟩
end
theorem zpy {sh:List (List Str)}{L:List Str}(S:Shp sh)(h:Names sh L):Sm (pbOf h):=⟨S.m1,S.m6,S.six L h.nd λx hx=>(h.mem x).mp hx⟩
def zcK:zgN:=λas Q=>∃sh:List (List Str),as=[shpP sh]/\Shp sh/\∀(L:List Str)(h:Names sh L),Q (brdD (pbOf h) (M41.start (pbOf h))) (zbT (M41.start (pbOf h)))
theorem zlF:zqf zcK:=λas Q Q' m ⟨a,e,h,q⟩=>⟨a,e,h,λL x=>m _ _ (q L x)⟩
def zcL (C:We):PF:=λds Q=>∃(p:Pb)(h:List Nat)(c:Nat),ds=[brdP C p h,.int c]/\Gd p h/\Sm p/\Q (.int (M41.pr p h c)) .frz
theorem zlG {C:We}:zaY (zcL C):=λds Q Q' m ⟨a,b,c,e,h1,h2,q⟩=>⟨a,b,c,e,h1,h2,m _ _ q⟩
def zee (p:Pb)(h:List Nat):List Int:=(Xz p.n).map λc=>M41.pr p h c
def zcD (p:Pb)(h:List Nat):List Int:=(Xz p.m).map λk=>tb p h p.m (p.n+k)
def zbU (C:We):PF:=λds Q=>∃(p:Pb)(h:List Nat),ds=[brdP C p h]/\Gd p h/\Sm p/\Q (.lst ((zee p h).map PV.int)) .new
theorem zgg {C:We}:zaY (zbU C):=λds Q Q' m ⟨a,b,e,h1,h2,q⟩=>⟨a,b,e,h1,h2,m _ _ q⟩
def zbz (C:We):PF:=λds Q=>∃(p:Pb)(h:List Nat),ds=[brdP C p h]/\Gd p h/\Sm p/\Q (.lst ((zcD p h).map PV.int)) .new
theorem zgh {C:We}:zaY (zbz C):=λds Q Q' m ⟨a,b,e,h1,h2,q⟩=>⟨a,b,e,h1,h2,m _ _ q⟩
theorem zuj {ds:List PV}{e:PV}(h:e∈ds):idxP ds e<ds.length/\ds[idxP ds e]? = some e:=by
 have h1:idxP ds e<ds.length:=List.findIdx_lt_length_of_exists ⟨e,h,decide_eq_true rfl⟩;refine⟨h1,?_⟩;have h2:=List.findIdx_getElem (p:=λx=>decide (x=e)) (xs:=ds) (w:=h1);rw[Xg h1];exact congrArg some (of_decide_eq_true h2)
section
variable {P:Wl}{w:Wt}{K:Xa}{mg:Str->Option Wb}{base:Heap}
theorem znL:zan ["self","shape","letters"] ["self","shape"] (zac zdM):=⟨rfl,rfl,rfl,by decide +kernel,rfl,by decide +kernel,by decide +kernel⟩
theorem zpz {C f f1 f2:We}{fd fd1 fd2:Wr}(F:Fun K "__init__" "Board.__init__" zdM f fd) (T:TF K C) (LettersOf:Fx K mg "letters_of" zba ["shape"] f1 fd1) (FirstLines:Fx K mg "first_lines" zaw ["shape","letters"] f2 fd2) (B:Bl mg):FnOk P w K mg base CX0 2 f fd ["self","shape"] (zhz K C bks "held" zcK):=by
 have GLettersOf:FnOk P w K mg base CX0 1 f1 fd1 ["shape"] (spP K zau):=ziH LettersOf.fn B;have GFirstLines:FnOk P w K mg base CX0 1 f2 fd2 ["shape","letters"] (spP K zar):=zhF FirstLines.fn B;refine zpk F znL (λas Q ⟨a,e,_⟩=>by rw[e];rfl) (λcdv A outer s H E hr=>?_);have hu:(A.deeper (WB "Board.__init__" (zac zdM) s.heap.objs.size f cdv)).units+16<Wz:=by have q:=hr.units;lia
 have nd:=znL.nd;refine⟨_,(zpl (i:=2) nd rfl (Or.inl rfl) (zao GLettersOf zgv hr rfl LettersOf.mg LettersOf.fn.kp LettersOf.bd (zab (zaa 1) zae))
   (zhA T.c T.width (zaZ rfl B.len (zab (zaa 2) zae))
   (zhA T.c T.bottom zaf
   (zhA T.c T.lines (zao GFirstLines zgc hr rfl FirstLines.mg FirstLines.fn.kp FirstLines.bd (zab (zaa 1) (zab (zaa 2) zae)))
   (zlx T.c T.held (zbQ (N:=["i","self"]) (k:=1) (js:=[0]) rfl (zdB (sup:=zac zdM) (XN:=["self","shape","letters"]) rfl rfl (by decide +kernel)) (by decide) (zaS (by decide)) (zaL rfl B.range (zab (zaZ rfl B.len (zab (zaa 1) zae)) zae)) ⟨λ_ _ _ _ _=>(zai (i:=0) (by show(["i","self"]:List Str).Nodup;decide +kernel) rfl (Or.inl rfl)),λ_ _ _ _ _=>zaT,λ_ _ _ _ _=>(zbj (zbq T.c T.width (zaa 1)) (zaa 0))⟩)))))),λas Q h=>?_⟩
 obtain⟨sh,rfl,S,q⟩:=h;have hsz:=Wo;walk_at "pu";refine⟨sh,rfl,S,λL hN=>⟨by decide,by decide,by decide,by decide,by decide,by decide,sh,rfl,L,rfl,S,by decide,by decide,?_⟩⟩;have h6:=S.m6;rw[Xb,Yc,zbf];refine⟨by lia,by lia,by lia,hN,λk out=>out=(zbT ((Xz k).map λi=>L.length+i)).map PV.int,rfl,?_,?_⟩
 ·rintro k d out hd-rfl;obtain⟨hk,rfl⟩:=zbV hd;refine⟨_,_,rfl,_,rfl,_,rfl,_,rfl,?_⟩;show _=_;unfold zbT;rw[Yt,Xn,Xn,Xn];show _++[PV.int (((L.map PV.str).length:Nat)+(0+(k:Int)))]=_++[PV.int ((L.length+k:Nat):Int)];rw[Xb,Int.zero_add];rfl
 ·rintro out-rfl;refine⟨_,rfl,?_⟩;have e:([PV.int ((L.map PV.str).length:Nat),PV.int 1,ziG (pbOf hN) λr c=>zbd sh L c r]:List PV)=brdD (pbOf hN) (M41.start (pbOf hN)):=by
   unfold brdD;rw[M41.zfr,Xb];have e2:ziG (pbOf hN) (λr c=>zbd sh L c r)=ziG (pbOf hN) (tb (pbOf hN) (M41.start (pbOf hN))):=
    congrArg PV.lst (List.map_congr_left λr hr=>congrArg (rowC (pbOf hN)) (funext λc=>(M41.tb_start (p:=pbOf hN) (c:=c) (Nat.le_of_lt_succ (List.mem_range.mp hr))).symm))
   rw[e2];rfl
  rw[e];exact q L hN
theorem znM:zan ["self","column"] ["self","column"] (zac zdN):=⟨rfl,rfl,rfl,by decide +kernel,rfl,by decide +kernel,by decide +kernel⟩
theorem zpA {C f:We}{fd:Wr}(F:Fun K "price" "Board.price" zdN f fd) (T:TF K C) (B:Bl mg):FnOk P w K mg base CX0 1 f fd ["self","column"] (spP K (zcL C)):=by
 refine zat F znM (λds Q ⟨a,b,c,e,_⟩=>by rw[e];rfl) (λcdv A outer s H E hr=>?_);have hu:(A.deeper (WB "Board.price" (zac zdN) s.heap.objs.size f cdv)).units+16<Wz:=by have q:=hr.units;lia
 have nd:=znM.nd;refine⟨_,(zag (zaq (zhm (zpZ hu (zaa 1) (zbq T.c T.held (zaa 0))) (zal (zal (zbq T.c T.lines (zaa 0)) (zpc (zbq T.c T.held (zaa 0)) (zaa 1))) (zff zaf)) zaf))),λds Q h=>?_⟩;obtain⟨p,h,c,rfl,G,S,q⟩:=h;have hsz:=Wo;walk_at "pu";have hpl:((zbT h).map PV.int).all (PL.plain 6)=true:=by
  rw[XI];intro d hd;obtain⟨x,_,rfl⟩:=XD.mp hd;rfl
 have hfl:((zbT h).map PV.int).all zgr=true:=by
  rw[XI];intro d hd;obtain⟨x,_,rfl⟩:=XD.mp hd;rfl
 refine⟨_,_,rfl,_,rfl,_,.inl rfl,hpl,ite2 (λe=>?_) (λe=>?_)⟩
 ·obtain⟨h1,h2⟩:=zuj e;have hk:idxP ((zbT h).map PV.int) (PV.int c)<p.m:=by
   rw[Xb]at h1;unfold zbT at h1 ⊢;rw[Xb,G.len]at h1;exact h1
  have h3:=(zhH G hk).symm.trans (zaR h2);have hc:h.getD (idxP ((zbT h).map PV.int) (PV.int c)) 0=c:=by
   have:=PV.int.inj (Option.some.inj h3);lia
  refine⟨_,_,rfl,_,rfl,_,_,rfl,_,rfl,_,.inl rfl,hfl,rfl,e,_,.inl ⟨_,.inl rfl,zed (Ys hk)⟩,_,.inl ⟨_,.inl rfl,zhG⟩,?_⟩;rw[<- M41.znA G hk,hc];exact q
 ·rw[M41.zqk λk hk z=>e ?_]at q
  ·exact q
  ·have h3:=zhH G hk;rw[z]at h3;have hl:k<((zbT h).map PV.int).length:=by unfold zbT;rw[Xb,Xb,G.len];exact hk
   rw[zaR (Xg hl)]at h3;rw[<- Option.some.inj h3];exact Yd hl
theorem zkN:zan ["self"] ["self"] (zac zcC):=⟨rfl,rfl,rfl,by decide +kernel,rfl,by decide +kernel,by decide +kernel⟩
theorem znN {C f f1:We}{fd fd1:Wr}(F:Fun K "prices" "Board.prices" zcC f fd) (T:TF K C) (Price:Mx K C "price" "Board.price" zdN ["self","column"] f1 fd1) (B:Bl mg):FnOk P w K mg base CX0 2 f fd ["self"] (spP K (zbU C)):=by
 have GPrice:FnOk P w K mg base CX0 1 f1 fd1 ["self","column"] (spP K (zcL C)):=zpA Price.fn T B;refine zat F zkN (λds Q ⟨a,b,e,_⟩=>by rw[e];rfl) (λcdv A outer s H E hr=>?_);have hu:(A.deeper (WB "Board.prices" (zac zcC) s.heap.objs.size f cdv)).units+16<Wz:=by have q:=hr.units;lia
 have nd:=zkN.nd;refine⟨_,(zag (zaq (zbQ (N:=["column","self"]) (k:=1) (js:=[0]) rfl (zdB (sup:=zac zcC) (XN:=["self"]) rfl rfl (by decide +kernel)) (by decide) (zaS (by decide)) (zaL rfl B.range (zab (zbq T.c T.width (zaa 0)) zae)) ⟨λ_ _ _ _ _=>(zai (i:=0) (by show(["column","self"]:List Str).Nodup;decide +kernel) rfl (Or.inl rfl)),λ_ _ _ _ _=>zaT,λ_ _ _ _ _=>(zhq T.c Price.me GPrice zlG hr Price.bd (zaa 1) (zab (zaa 0) zae))⟩))),λds Q h=>?_⟩;obtain⟨p,h,rfl,G,S,q⟩:=h;have hsz:=Wo;walk_at "pu";have hn6:=S.n6;refine⟨_,_,rfl,_,rfl,_,rfl,by lia,by lia,?_⟩;rw[Yc,zbf];refine⟨by lia,λk out=>out=((Xz k).map λc=>M41.pr p h c).map PV.int,rfl,?_,?_⟩
 ·rintro k d out hd-rfl;obtain⟨hk,rfl⟩:=zbV hd;refine⟨_,⟨_,rfl⟩,by decide,p,h,rfl,k,by rw[Int.zero_add],G,S,?_⟩;show _=_;rw[Yt,Xn,Xn];rfl
 ·rintro out-rfl;exact q
theorem zkO:zan ["self"] ["self"] (zac zcY):=⟨rfl,rfl,rfl,by decide +kernel,rfl,by decide +kernel,by decide +kernel⟩
theorem znO {C f:We}{fd:Wr}(F:Fun K "worths" "Board.worths" zcY f fd) (T:TF K C) (B:Bl mg):FnOk P w K mg base CX0 1 f fd ["self"] (spP K (zbz C)):=by
 refine zat F zkO (λds Q ⟨a,b,e,_⟩=>by rw[e];rfl) (λcdv A outer s H E hr=>?_);have hu:(A.deeper (WB "Board.worths" (zac zcY) s.heap.objs.size f cdv)).units+16<Wz:=by have q:=hr.units;lia
 have nd:=zkO.nd;refine⟨_,(zag (zaq (zcR (zal (zbq T.c T.lines (zaa 0)) (zff zaf)) (zbI (zbq T.c T.width (zaa 0))) (zbI (zff zaf))))),λds Q h=>?_⟩;obtain⟨p,h,rfl,G,S,q⟩:=h;have hsz:=Wo;walk_at "pu";refine⟨_,_,rfl,_,rfl,_,.inl ⟨_,.inl rfl,ziI⟩,_,_,rfl,_,rfl,_,rfl,_,rfl,?_⟩;have e:cutP (((Xz (p.n+p.m+1)).map (tb p h p.m)).map PV.int) (some (p.n:Int)) (some (-1))=(zcD p h).map PV.int:=by
  unfold cutP;rw[HT.zdO,Xb,Xb,XM,show HT.sIx (p.n+p.m+1) (p.n+p.m+1) (some (-1))=p.n+p.m by unfold HT.sIx;simp;lia,Nat.min_eq_left (by lia),zgd,List.append_assoc,List.drop_left' (by rw[Xb,XM]),List.take_left' (by rw[Xb,XM];lia)];unfold zcD;rw[List.map_map];rfl
 rw[e];exact q
end
def gcdL (a:Nat)(l:List Int):Nat:=l.foldl (λa x=>Nat.gcd a x.toNat) a
def Lo (l:List Int):Prop:=∀x∈l,0<=x/\x<=5040
theorem zuk {a b:Nat}(h1:a<=5040)(h2:b<=5040):Nat.gcd a b<=5040:=by
 rcases Nat.eq_zero_or_pos b with rfl | z
 ·rw[Nat.gcd_zero_right];exact h1
 ·exact Xx (Nat.gcd_le_right a z) h2
theorem zjz:∀ {l:List Int}{a:Nat},a<=5040->Lo l->gcdL a l<=5040
 | [],a,h,_=>h
 | x::l,a,h,hl=>by
  have:=hl x Xh;exact zjz (l:=l) (zuk h (by lia)) λy hy=>hl y (Xi _ hy)
theorem Lo.take {l:List Int}(h:Lo l)(i:Nat):Lo (l.take i):=λx hx=>h x (YM hx)
theorem znP (l:List Int)(a:Nat)(x:Int):gcdL a (l++[x])=Nat.gcd (gcdL a l) x.toNat:=by unfold gcdL;rw[List.foldl_append];rfl
def fGcd:PF:=λds Q=>∃l:List Int,ds=[.lst (l.map PV.int)]/\Lo l/\Q (.int (gcdL 0 l)) .frz
theorem zpB:zaY fGcd:=λds Q Q' m ⟨a,e,h,q⟩=>⟨a,e,h,m _ _ q⟩
theorem euclid (a b:Nat):Nat.gcd b (a % b)=Nat.gcd a b:=by rw[Nat.gcd_comm a b,Nat.gcd_rec b a,Nat.gcd_comm]
def allI (p:Pb)(h:List Nat):List Int:=bt p h::(zcD p h++zee p h)
def gP (p:Pb)(h:List Nat):Nat:=gcdL 0 (allI p h)
def dI (p:Pb)(h:List Nat):Int:=bt p h / (gP p h:Int)
def wsI (p:Pb)(h:List Nat):List Int:=(zcD p h).map λ(x:Int)=>x / (gP p h:Int)
def ysI (p:Pb)(h:List Nat):List Int:=(zee p h).map λ(x:Int)=>x / (gP p h:Int)
def wtP (p:Pb)(h:List Nat):PV:=.tup [.int (dI p h),.lst ((wsI p h).map PV.int),.lst ((ysI p h).map PV.int)]
structure Ix (K:Xa)(mg:Str->Option Wb)(C:We)(x qual:Str)(st:WC)(ps:List Str)(f:We)(fd:Wr):Prop where
 fn:Fun K "__init__" qual st f fd
 bd:Binds K fd ps []
 make:Mk K C f
 mg:mg x=some (.ref C)
def zaW:PF:=λds Q=>∃sh:List (List Str),ds=[shpP sh]/\Shp sh/\∀(L:List Str)(hN:Names sh L)(h:List Nat),Done (pbOf hN) h->Q (wtP (pbOf hN) h) .frz
theorem zfh:zaY zaW:=λds Q Q' m ⟨a,e,h,q⟩=>⟨a,e,h,λL hN h x=>m _ _ (q L hN h x)⟩
theorem zqr {p:Pb}{h:List Nat}(G:Gd p h)(S:Sm p)(nn:∀c,c<p.n+p.m->0<=tb p h p.m c):Lo (allI p h):=by
 intro x hx;rcases Xo.mp hx with rfl | hx
 ·have:=G.pos;have:=zkL G S;lia
 rcases XR.mp hx with hx | hx
 ·obtain⟨k,hk,rfl⟩:=XD.mp hx;have hk:=List.mem_range.mp hk;have b:=G.small S.m6 (Xf p.m) (show p.n+k<=p.n+p.m by lia);exact⟨nn _ (by lia),b.2⟩
 ·obtain⟨c,hc,rfl⟩:=XD.mp hx;refine⟨M41.zvp G,?_⟩;by_cases z:∃k,k<p.m/\h.getD k 0=c
  ·obtain⟨k,hk,rfl⟩:=z;rw[M41.znA G hk];exact(G.small S.m6 (Ys hk) (Xf _)).2
  ·rw[M41.zqk λk hk e=>z ⟨k,hk,e⟩];decide
theorem ziM:∀(l:List Int)(a:Nat),gcdL a l ∣ a
 | [],a=>Nat.dvd_refl a
 | x::l,a=>Nat.dvd_trans (ziM l (Nat.gcd a x.toNat)) (Nat.gcd_dvd_left ..)
theorem zhI:∀ {l:List Int}{a:Nat}{x:Int},x∈l->gcdL a l ∣ x.toNat
 | y::l,a,x,h=>by
  rcases Xo.mp h with rfl | h
  ·exact Nat.dvd_trans (ziM l (Nat.gcd a x.toNat)) (Nat.gcd_dvd_right ..)
  ·exact zhI (l:=l) (a:=Nat.gcd a y.toNat) h
theorem zqs {p:Pb}{h:List Nat}(G:Gd p h):0<gP p h:=by
 have h1:gP p h ∣ (bt p h).toNat:=zhI Xh;have:=G.pos;exact Nat.pos_of_dvd_of_pos h1 (by lia)
section
variable {P:Wl}{w:Wt}{K:Xa}{mg:Str->Option Wb}{base:Heap}
theorem zul:zan ["numbers","found","number","rest","last"] ["numbers"] (zac sGcd):=⟨rfl,rfl,rfl,by decide +kernel,rfl,by decide +kernel,by decide +kernel⟩
theorem zum {f:We}{fd:Wr}(F:Fun K "greatest_divisor" "greatest_divisor" sGcd f fd) (B:Bl mg):FnOk P w K mg base CX0 1 f fd ["numbers"] (spP K fGcd):=by
 refine zat F zul (λds Q ⟨a,e,_⟩=>by rw[e];rfl) (λcdv A outer s H E hr=>?_);have hu:(A.deeper (WB "greatest_divisor" (zac sGcd) s.heap.objs.size f cdv)).units+16<Wz:=by have q:=hr.units;lia
 have nd:=zul.nd;refine⟨_,(zad (zah (i:=1) nd rfl (Or.inl rfl) zaf)
   (zad (zaJ rfl PassesOwn.never (zaF (zaa 0)) (zai (i:=2) nd rfl (Or.inl rfl)) (zad (zah (i:=3) nd rfl (Or.inl rfl) (zaa 2))
   (zag (zeu PassesOwn.never (zgH hu (zaa 3) zaf) (zad (zah (i:=4) nd rfl (Or.inl rfl) (zaa 3))
   (zad (zah (i:=3) nd rfl (Or.inl rfl) (zaK (zaa 1) (zaa 4)))
   (zag (zah (i:=1) nd rfl (Or.inl rfl) (zaa 4)))))))))
   (zag (zaq (zaa 1))))),λds Q h=>?_⟩
 obtain⟨l,rfl,hl,q⟩:=h;walk_at "pu";walk_at "auto";obtain⟨Iv,hIv⟩:∃Iv:Nat->PEnv->Prop,∀i ρ,Iv i ρ↔∃k1 k2 k3:Option (PV×Bool),ρ=[some (PV.lst (l.map PV.int),false),some (PV.int (gcdL 0 (l.take i)),false),k1,k2,k3]:=⟨_,λ_ _=>Iff.rfl⟩;refine⟨Iv,(hIv _ _).mpr ⟨_,_,_,rfl⟩,?_,?_⟩
 ·intro i d ρ hd hI;obtain⟨k1,k2,k3,rfl⟩:=(hIv _ _).mp hI;rw[Xl]at hd;cases hx:l[i]? with
  | none=>rw[hx]at hd;cases hd
  | some x=>
   rw[hx]at hd;cases hd;obtain⟨x0,x1⟩:=hl x (Xu hx);obtain⟨b0,rfl⟩:∃b0:Nat,x=b0:=⟨x.toNat,by lia⟩;have ha0:=zjz (XH 5040) (hl.take i);have hn:gcdL 0 (l.take (i+1))=Nat.gcd (gcdL 0 (l.take i)) b0:=by rw[<- take_snoc hx,znP,Yc]
   walk_at "go";walk_at "go";obtain⟨Iw,hIw⟩:∃Iw:Nat->PEnv->Prop,∀m ρ,Iw m ρ↔∃(a:Nat) (k3:Option (PV×Bool)),ρ=[some (PV.lst (l.map PV.int),false),some (PV.int a,false),some (PV.int b0,false),some (PV.int m,false),k3]/\a<=5040/\m<=5040/\Nat.gcd a m=Nat.gcd (gcdL 0 (l.take i)) b0:=⟨_,λ_ _=>Iff.rfl⟩;refine⟨Iw,⟨b0,(hIw _ _).mpr ⟨_,k3,rfl,ha0,by lia,rfl⟩⟩,λm ρ hI=>?_⟩;obtain⟨a,k3,rfl,ha,hm,hg⟩:=(hIw _ _).mp hI;walk_at "go";by_cases e:m=0
   ·subst e;rw[if_neg (by simp)];rw[Nat.gcd_zero_right]at hg;exact(hIv _ _).mpr ⟨_,_,_,by rw[hn,<- hg]⟩
   ·rw[if_pos (by simpa using e)];walk_at "go";walk_at "go";have hlt:=Nat.mod_lt a (show 0<m by lia);have ec:(a:Int) % (m:Int)=((a % m:Nat):Int):=(Int.natCast_emod a m).symm;rw[ec];refine⟨by lia,?_⟩;walk_at "go";exact⟨a % m,hlt,(hIw _ _).mpr ⟨m,_,rfl,hm,by lia,by rw[euclid,hg]⟩⟩
 ·intro ρ hI;obtain⟨k1,k2,k3,rfl⟩:=(hIv _ _).mp hI;rw[Xb,List.take_length];walk_at "go";exact q
theorem ziN:zan ["shape","board","shared","w","y"] ["shape"] (zac zbt):=⟨rfl,rfl,rfl,by decide +kernel,rfl,by decide +kernel,by decide +kernel⟩
theorem zgQ {C f f0 f1 f2 f3 f4 f5 f6 f7 f8 f9 g0 g1 g2:We}{fd fd0 fd1 fd2 fd3 fd4 fd5 fd6 fd7 fd8 fd9 gd0 gd1 gd2:Wr}(F:Fun K "weights" "weights" zbt f fd) (T:TF K C) (BInit:Ix K mg C "Board" "Board.__init__" zdM ["self","shape"] f0 fd0) (Without:Mx K C "without" "Board.without" zbu ["self","line","turned","column"] f1 fd1) (Sooner:Mx K C "ends_sooner" "Board.ends_sooner" zct ["self","i","j","column"] f2 fd2) (Line:Mx K C "line_that_ends" "Board.line_that_ends" zgu ["self","column"] f3 fd3) (Col:Mx K C "column_to_raise" "Board.column_to_raise" sCol ["self"] f4 fd4) (Turn:Mx K C "turn" "Board.turn" zgb ["self","i","column"] f5 fd5)
  (Settle:Mx K C "settle" "Board.settle" zcX ["self"] f6 fd6) (Price:Mx K C "price" "Board.price" zdN ["self","column"] f7 fd7) (Prices:Mx K C "prices" "Board.prices" zcC ["self"] f8 fd8) (Worths:Mx K C "worths" "Board.worths" zcY ["self"] f9 fd9) (LettersOf:Fx K mg "letters_of" zba ["shape"] g0 gd0) (FirstLines:Fx K mg "first_lines" zaw ["shape","letters"] g1 gd1) (Gcd:Fx K mg "greatest_divisor" sGcd ["numbers"] g2 gd2) (B:Bl mg):FnOk P w K mg base CX0 4 f fd ["shape"] (spP K zaW):=by
 have GBInit:FnOk P w K mg base CX0 2 f0 fd0 ["self","shape"] (zhz K C bks "held" zcK):=zpz BInit.fn T LettersOf FirstLines B;have GSettle:FnOk P w K mg base CX0 3 f6 fd6 ["self"] (spZ K C bks "held" zbp):=znK Settle.fn T Without Sooner Line Col Turn B;have GPrices:FnOk P w K mg base CX0 3 f8 fd8 ["self"] (spP K (zbU C)):=(znN Prices.fn T Price B).mono (by decide);have GWorths:FnOk P w K mg base CX0 3 f9 fd9 ["self"] (spP K (zbz C)):=(znO Worths.fn T B).mono (by decide);have GGcd:FnOk P w K mg base CX0 3 g2 gd2 ["numbers"] (spP K fGcd):=(zum Gcd.fn B).mono (by decide);refine zat F ziN (λds Q ⟨a,e,_⟩=>by rw[e];rfl) (λcdv A outer s H E hr=>?_);have hu:(A.deeper (WB "weights" (zac zbt) s.heap.objs.size f cdv)).units+16<Wz:=by have q:=hr.units;lia
 have nd:=ziN.nd;refine⟨_,(zlw BInit.make T.c Settle.me GBInit GSettle zlF zjy hr hr rfl BInit.mg BInit.bd Settle.bd (zab (zaa 0) zae)
   (zad (zah (i:=2) nd rfl (Or.inr rfl) (zao GGcd zpB hr rfl Gcd.mg Gcd.fn.kp Gcd.bd (zab (zdI (zdI (zbg (zab (zbq T.c T.bottom (zaa 1)) zae)) (zdA T.c Worths.me GWorths zgh hr Worths.bd (zaa 1))) (zdA T.c Prices.me GPrices zgg hr Prices.bd (zaa 1))) zae)))
   (zad (zfp (i:=3) (N:=["worth","shared"]) (k:=1) (js:=[2]) rfl (zdB (sup:=zac zbt) (XN:=["shape","board","shared","w","y"]) rfl rfl (by decide +kernel)) (by decide) (zaS (by decide)) (zaF (zdA T.c Worths.me GWorths zgh hr Worths.bd (zaa 1))) ⟨λ_ _ _ _ _=>(zai (i:=0) (by show(["worth","shared"]:List Str).Nodup;decide +kernel) rfl (Or.inl rfl)),λ_ _ _ _ _=>zaT,λ_ _ _ _ _=>(zdd (zaa 0) (zaa 1))⟩ nd rfl rfl)
   (zad (zfp (i:=4) (N:=["price","shared"]) (k:=1) (js:=[2]) rfl (zdB (sup:=zac zbt) (XN:=["shape","board","shared","w","y"]) rfl rfl (by decide +kernel)) (by decide) (zaS (by decide)) (zaF (zdA T.c Prices.me GPrices zgg hr Prices.bd (zaa 1))) ⟨λ_ _ _ _ _=>(zai (i:=0) (by show(["price","shared"]:List Str).Nodup;decide +kernel) rfl (Or.inl rfl)),λ_ _ _ _ _=>zaT,λ_ _ _ _ _=>(zdd (zaa 0) (zaa 1))⟩ nd rfl rfl)
   (zag (zcb 4 (zcb 3 (zaq (zgF (zab (zdd (zbq T.c T.bottom (zaa 1)) (zaa 2)) (zab (zaa 3) (zab (zaa 4) zae))))))))))) nd (iy:=1) rfl (Or.inl rfl)),λds Q h=>?_⟩
 obtain⟨sh,rfl,S,q⟩:=h;have hsz:=Wo;walk_at "pu";refine⟨by decide,by decide,sh,rfl,S,λL hN=>⟨pbOf hN,rfl,rfl,zpy S hN,λh D=>?_⟩⟩;have q:=q L hN h D;have M:=zpy S hN;generalize pbOf hN=p at *;have G:=D.gd;have lo:=zqr G M D.nn;have h1:=M.m6;have h2:=M.n6;have lw:(zcD p h).length=p.m:=by unfold zcD;rw[Xb,XM]
 have lp:(zee p h).length=p.n:=by unfold zee;rw[Xb,XM]
 walk_at "go";refine⟨_,_,rfl,_,rfl,by lia,_,⟨_,rfl⟩,by decide,p,h,rfl,G,M,by rw[Xb];lia,_,⟨_,rfl⟩,by decide,p,h,rfl,G,M,by rw[Xb,Xb];lia,allI p h,by unfold allI;rw[Xq,Xn],lo,?_⟩;have gp:=zqs G;have gl:gP p h<=5040:=zjz (XH 5040) lo;rw[show gcdL 0 (allI p h)=gP p h from rfl];walk_at "go";refine⟨_,⟨_,rfl⟩,by decide,p,h,rfl,G,M,by rw[Xb];lia,λk out=>out=(((zcD p h).take k).map λ(x:Int)=>x / (gP p h:Int)).map PV.int,rfl,?_,?_⟩
 ·rintro k d out hd-rfl;rw[Xl]at hd;cases hx:(zcD p h)[k]? with
  | none=>rw[hx]at hd;cases hd
  | some x=>
   rw[hx]at hd;cases hd;refine⟨x,rfl,⟨by lia,by lia⟩,?_⟩;show _=_;rw[<- take_snoc hx,Xn,Xn];rfl
 ·rintro out-rfl;rw[Xb,XC (Xf _)];walk_at "go";refine⟨_,⟨_,rfl⟩,by decide,p,h,rfl,G,M,by rw[Xb];lia,λk out=>out=(((zee p h).take k).map λ(x:Int)=>x / (gP p h:Int)).map PV.int,rfl,?_,?_⟩
  ·rintro k d out hd-rfl;rw[Xl]at hd;cases hx:(zee p h)[k]? with
   | none=>rw[hx]at hd;cases hd
   | some x=>
    rw[hx]at hd;cases hd;refine⟨x,rfl,⟨by lia,by lia⟩,?_⟩;show _=_;rw[<- take_snoc hx,Xn,Xn];rfl
  ·rintro out-rfl;rw[Xb,XC (Xf _)];walk_at "go";exact⟨_,_,rfl,_,rfl,_,rfl,⟨by lia,by lia⟩,by lia,q⟩
end
def mixed (c k:Int):Int:=if c > 10 ^ 8 then(c / 1000 / (10 ^ 7) ^ k.toNat) % 10 ^ 7 else
 let o:=(c % 2147483647+40503*k*k+17*k)*48271 % 2147483647
 o*(o % 65537+3*k+1) % 2147483629
theorem zhJ (c k:Int):0<=mixed c k:=by
 unfold mixed;split
 ·exact Yq _ (by decide)
 ·exact Yq _ (by decide)
theorem zhK (c k:Int):mixed c k<2147483629:=by
 unfold mixed;split
 ·have:=Yh (c / 1000 / (10 ^ 7) ^ k.toNat) (show(0:Int)<10 ^ 7 by decide);lia
 ·exact Yh _ (by decide)
def zbl:PF:=λds Q=>∃c k:Int,ds=[.int c,.int k]/\0<=k/\k<=1000/\Q (.int (mixed c k)) .frz
theorem zaI:zaY zbl:=λds Q Q' m ⟨c,j,e,h1,h2,q⟩=>⟨c,j,e,h1,h2,m _ _ q⟩
def zbM:PF:=λds Q=>∃(c many:Int)(es:List PV)(x:PV),ds=[.int c,x,.int many]/\(x=.lst es\/x=.tup es)/\es.length<=100/\
 ∀told left:List PV,(told++left).Perm es->told.length=min many.toNat es.length->Q (.lst told) .new
theorem zef:zaY zbM:=λds Q Q' m ⟨c,n,es,x,e,h1,h2,q⟩=>⟨c,n,es,x,e,h1,h2,λt l a b=>m _ _ (q t l a b)⟩
abbrev ABC:Str:="ABCDEFGHIJKLMNOPQRSTUVWXYZ"
def zjA (n:Nat):List Str:=(Xz 6).map λi=>⟨#[65+n+i]⟩
theorem zsf:∀n:Nat,n<21->signs (Txt.slice ABC (some (n:Int)) (some ((n:Int)+6)))=zjA n:=by decide +kernel
theorem zun:∀n:Nat,n<21->(Txt.slice ABC (some (n:Int)) (some ((n:Int)+6))).length=6:=by decide +kernel
theorem zfb (n:Nat):(zjA n).length=6:=by simp[zjA]
def zgR (c:Int):Nat:=(mixed c 1 % 21).toNat
theorem znQ (c:Int):zgR c<21:=(Int.toNat_lt (Yq _ (by decide))).mpr (Yh _ (by decide))
def zaO:PF:=λds Q=>∃c:Int,ds=[.int c]/\Q (.lst ((zjA (zgR c)).map PV.str)) .new
theorem zhL:zaY zaO:=λds Q Q' m ⟨c,e,q⟩=>⟨c,e,m _ _ q⟩
theorem zjB:∀ {L:List Str}{told:List PV},(∀d∈told,d∈L.map PV.str)->∃ts:List Str,told=ts.map PV.str/\∀x∈ts,x∈L
 | L,[],_=>⟨[],rfl,λx h=>by cases h⟩
 | L,d::told,h=>by
  obtain⟨ts,e,h2⟩:=zjB (L:=L) (told:=told) λd hd=>h d (Xi _ hd);obtain⟨x,hx,rfl⟩:=XD.mp (h d (Xh ..));exact⟨x::ts,by rw[e];rfl,λy hy=>by rcases Xo.mp hy with rfl | hy;exact hx;exact h2 y hy⟩
theorem znR {L:List Str}{told left:List PV}(h:(told++left).Perm (L.map PV.str)):∃ts:List Str,told=ts.map PV.str/\∀x∈ts,x∈L:=
 zjB λd hd=>h.mem_iff.mp (YL _ hd)
theorem zfA {l:List PV}{i:Int}(h0:0<=i)(h1:i<l.length):∃x,atI l i=some x/\l[i.toNat]? = some x:=by
 obtain⟨n,rfl⟩:∃n:Nat,i=n:=⟨i.toNat,by lia⟩;have hn:n<l.length:=by lia
 exact⟨l[n],zaR (by simp[hn]),by simp[hn]⟩
theorem zqt (l:List PV){i:Int}(h0:0<=i)(h1:i<=l.length):cutP l none (some i)=l.take i.toNat:=by
 obtain⟨n,rfl⟩:∃n:Nat,i=n:=⟨i.toNat,by lia⟩;unfold cutP;rw[HT.zdO,HT.zjN,Nat.min_eq_left (by lia)];simp
theorem zkP (l:List PV){i:Int}(h0:0<=i)(h1:i<=l.length):cutP l (some i) none=l.drop i.toNat:=by
 obtain⟨n,rfl⟩:∃n:Nat,i=n:=⟨i.toNat,by lia⟩;unfold cutP;rw[HT.zdO,HT.zjN,Nat.min_eq_left (by lia),XC (by simp)];simp
section
variable {P:Wl}{w:Wt}{K:Xa}{mg:Str->Option Wb}{base:Heap}
theorem znS:zan ["_law_cell","_law_k","_law_left","_law_j","_law_one"] ["_law_cell","_law_k"] (zac zbY):=⟨rfl,rfl,rfl,by decide +kernel,rfl,by decide +kernel,by decide +kernel⟩
theorem zcZ {f:We}{fd:Wr}(F:Fun K "_law_mixed" "_law_mixed" zbY f fd) (B:Bl mg):FnOk P w K mg base CX0 1 f fd ["_law_cell","_law_k"] (spP K zbl):=by
 refine zat F znS (λds Q ⟨c,j,e,_⟩=>by rw[e];rfl) (λcdv A outer s H E hr=>?_);have hu:(A.deeper (WB "_law_mixed" (zac zbY) s.heap.objs.size f cdv)).units+16<Wz:=by have q:=hr.units;lia
 have nd:=znS.nd;refine⟨_,(zad (zbF (zgI (zaa 0) (zfe zaf zaf)) (zad (zah (i:=2) nd rfl (Or.inl rfl) (zdd (zaa 0) zaf))
   (zad (zaJ rfl PassesOwn.never (zaL rfl B.range (zab (zaa 1) zae)) (zai (i:=3) nd rfl (Or.inl rfl)) (zag (zah (i:=2) nd rfl (Or.inl rfl) (zdd (zaa 2) (zfe zaf zaf)))))
   (zag (zaq (zaK (zaa 2) (zfe zaf zaf)))))) zaE)
   (zad (zah (i:=4) nd rfl (Or.inl rfl) (zaK (zbO (zbj (zbj (zaK (zaa 0) zaf) (zbO (zbO zaf (zaa 1)) (zaa 1))) (zbO zaf (zaa 1))) zaf) zaf))
   (zag (zaq (zaK (zbO (zaa 4) (zbj (zbj (zaK (zaa 4) zaf) (zbO zaf (zaa 1))) zaf)) zaf))))),λds Q h=>?_⟩
 obtain⟨c,k,rfl,h0,h1,q⟩:=h;walk_at "pu";have p7:(10:Int) ^ Int.toNat 7=10000000:=by decide
 have p8:(10:Int) ^ Int.toNat 8=100000000:=by decide
 refine⟨⟨by decide,by decide,by decide⟩,ite2 (λe1=>?a) (λe1=>?b)⟩
 case a=>
  walk_at "auto";obtain⟨Iv,hIv⟩:∃Iv:Nat->PEnv->Prop,∀i ρ,Iv i ρ↔∃kv:Option (PV×Bool),ρ=[some (PV.int c,false),some (PV.int k,false),some (PV.int (c / 1000 / (10 ^ 7) ^ i),false),kv,none]:=⟨_,λ_ _=>Iff.rfl⟩;refine⟨Iv,(hIv _ _).mpr ⟨none,by simp⟩,?_,?_⟩
  ·intro i d ρ hd hI;obtain⟨kv,rfl⟩:=(hIv _ _).mp hI;obtain⟨hi,rfl⟩:=zbV hd;walk_at "go";walk_at "auto";refine(hIv _ _).mpr ⟨some (PV.int (0+(i:Int)),false),?_⟩;have e3:c / 1000 / (10 ^ 7) ^ i / 10 ^ Int.toNat 7=c / 1000 / (10 ^ 7) ^ (i+1):=by
    rw[p7,show((10:Int) ^ 7)=10000000 from by decide,Int.pow_succ,Int.ediv_ediv_of_nonneg (Int.pow_nonneg (by decide))]
   rw[e3]
  ·intro ρ hI;obtain⟨kv,rfl⟩:=(hIv _ _).mp hI;rw[zbf];walk_at "auto";unfold mixed at q;rw[if_pos (by lia)]at q;exact q
 case b=>
  walk_at "auto";unfold mixed at q;rw[if_neg (by lia)]at q;exact q
theorem zkQ:zan ["_law_cell","_law_some","_law_many","_law_left","_law_told","_law_at"] ["_law_cell","_law_some","_law_many"] (zac zcc):=⟨rfl,rfl,rfl,by decide +kernel,rfl,by decide +kernel,by decide +kernel⟩
theorem zgi {f fM:We}{fd fdM:Wr}(F:Fun K "_law_picked" "_law_picked" zcc f fd) (Mixed:Fx K mg "_law_mixed" zbY ["_law_cell","_law_k"] fM fdM) (B:Bl mg):FnOk P w K mg base CX0 2 f fd ["_law_cell","_law_some","_law_many"] (spP K zbM):=by
 have GMixed:FnOk P w K mg base CX0 1 fM fdM ["_law_cell","_law_k"] (spP K zbl):=zcZ Mixed.fn B;refine zat F zkQ (λds Q ⟨c,n,es,x,e,_⟩=>by rw[e];rfl) (λcdv A outer s H E hr=>?_);have hu:(A.deeper (WB "_law_picked" (zac zcc) s.heap.objs.size f cdv)).units+16<Wz:=by have q:=hr.units;lia
 have nd:=zkQ.nd;refine⟨_,(zad (zah (i:=3) nd rfl (Or.inl rfl) (zhp rfl B.list (zab (zaa 1) zae)))
   (zad (zah (i:=4) nd rfl (Or.inl rfl) (zbg zae))
   (zad (zeu PassesOwn.never (PuW.t (zhk (zkc (zaZ rfl B.len (zab (zaa 4) zae)) (zaa 2)) (zfo (zgI (zaZ rfl B.len (zab (zaa 3) zae)) zaf)))) (zad (zah (i:=5) nd rfl (Or.inl rfl) (zaK (zao GMixed zaI hr rfl Mixed.mg Mixed.fn.kp Mixed.bd (zab (zaa 0) (zab (zbj zaf (zaZ rfl B.len (zab (zaa 4) zae))) zae))) (zaZ rfl B.len (zab (zaa 3) zae))))
   (zad (zaN (zaH 4 (zal (zaa 3) (zaa 5))))
   (zag (zah (i:=3) nd rfl (Or.inl rfl) (zdI (zcR (zaa 3) zey (zbI (zaa 5))) (zcR (zaa 3) (zbI (zbj (zaa 5) zaf)) zey)))))))
   (zag (zaq (zaa 4)))))),λds Q h=>?_⟩
 obtain⟨c,many,es,x,rfl,hx,hz,q⟩:=h;walk_at "pu";refine⟨es,hx,?_⟩;walk_at "auto";obtain⟨Iv,hIv⟩:∃Iv:Nat->PEnv->Prop,∀m ρ,Iv m ρ↔∃(told left:List PV) (kv:Option (PV×Bool)),ρ=[some (PV.int c,false),some (x,false),some (PV.int many,false),some (PV.lst left,true),some (PV.lst told,true),kv]/\
   (told++left).Perm es/\told.length<=many.toNat/\m=left.length:=⟨_,λ_ _=>Iff.rfl⟩
 refine⟨Iv,⟨_,(hIv _ _).mpr ⟨[],es,none,rfl,by simp,XH _,rfl⟩⟩,?_⟩;intro m ρ hI;obtain⟨told,left,kv,rfl,hp,hm,rfl⟩:=(hIv _ _).mp hI;have hlen:=hp.length_eq;rw[Xm]at hlen;walk_at "go";have fin:(told.length=min many.toNat es.length)->Hold (pRet (pVar 4)) { nx:=λx=>Q PV.non Kd.frz,rt:=Q,bk:=λx=>False,ct:=λx=>False }
    [some (PV.int c,false),some (x,false),some (PV.int many,false),some (PV.lst left,true),some (PV.lst told,true),kv]:=λhl=>by
  walk_at "go";exact q told left hp hl
 refine ite2 (λe1=>ite2 (λe2=>?_) (λe2=>fin (by lia))) (λe1=>fin (by lia));have hl0:0<left.length:=by lia
 have n1:=Yq (mixed c (3+(told.length:Int))) (show(left.length:Int)≠0 by lia);have n2:=Yh (mixed c (3+(told.length:Int))) (show(0:Int)<left.length by lia);obtain⟨y,hy,hy2⟩:=zfA n1 n2;walk_at "go";walk_at "auto";generalize hat:mixed c (3+(told.length:Int)) % (left.length:Int)=at_ at *;refine⟨by rw[Wo];lia,y,hy,?_⟩;walk_at "go";rw[zqt left n1 (by lia),zkP left (i:=at_+1) (by lia) (by lia)];have hn:at_.toNat<left.length:=by lia
 have e3:(at_+1).toNat=at_.toNat+1:=by lia
 rw[e3];have hsp:left=left.take at_.toNat++y::left.drop (at_.toNat+1):=by
  rw[Xg hn]at hy2;cases hy2;rw[List.getElem_cons_drop,List.take_append_drop]
 refine⟨by rw[XY,List.length_drop,Wo];lia,left.length-1,by lia,(hIv _ _).mpr ⟨told++[y],_,_,rfl,?_,by rw[Xm,Ya];lia,by rw[Xm,XY,List.length_drop];lia⟩⟩;refine List.Perm.trans ?_ hp
 conv=>rhs;rw[hsp]
 rw[List.append_assoc];refine List.Perm.append_left _ ?_;exact(List.perm_middle (a:=y) (l₁:=left.take at_.toNat) (l₂:=left.drop (at_.toNat+1))).symm
theorem zgS:zan ["_law_cell","_law_first"] ["_law_cell"] (zac zbJ):=⟨rfl,rfl,rfl,by decide +kernel,rfl,by decide +kernel,by decide +kernel⟩
theorem zjC {f fM:We}{fd fdM:Wr}(F:Fun K "_law_alphabet" "_law_alphabet" zbJ f fd) (Mixed:Fx K mg "_law_mixed" zbY ["_law_cell","_law_k"] fM fdM) (B:Bl mg):FnOk P w K mg base CX0 2 f fd ["_law_cell"] (spP K zaO):=by
 have GMixed:FnOk P w K mg base CX0 1 fM fdM ["_law_cell","_law_k"] (spP K zbl):=zcZ Mixed.fn B;refine zat F zgS (λds Q ⟨c,e,_⟩=>by rw[e];rfl) (λcdv A outer s H E hr=>?_);have hu:(A.deeper (WB "_law_alphabet" (zac zbJ) s.heap.objs.size f cdv)).units+16<Wz:=by have q:=hr.units;lia
 have nd:=zgS.nd;refine⟨_,(zad (zah (i:=1) nd rfl (Or.inl rfl) (zaK (zao GMixed zaI hr rfl Mixed.mg Mixed.fn.kp Mixed.bd (zab (zaa 0) (zab zaf zae))) zaf))
   (zag (zaq (zoX rfl rfl B.list (zab (zmZ zte (zbI (zaa 1)) (zbI (zbj (zaa 1) zaf))) zae))))),λds Q h=>?_⟩
 obtain⟨c,rfl,q⟩:=h;have e1:mixed c 1 % 21=(zgR c:Int):=(Int.toNat_of_nonneg (Yq _ (by decide))).symm;have h21:=znQ c;walk_at "pu";walk_at "auto";rw[e1];refine⟨by rw[zun _ h21,Wo];decide,?_⟩;rw[zsf _ h21];exact q
end
def Pats (L:List Str)(n:Nat)(sh:List (List Str)):Prop:=sh.length=n/\∀p∈sh,p≠[]/\p.length<=4/\∀x∈p,x∈L
theorem Pats.snoc {L:List Str}{n:Nat}{sh:List (List Str)}{p:List Str}(h:Pats L n sh)(h0:p≠[])(h1:p.length<=4)(h2:∀x∈p,x∈L):Pats L (n+1) (sh++[p]):=
 ⟨by rw[Xm,h.1];rfl,λq hq=>by
  rcases XR.mp hq with hq | hq
  ·exact h.2 q hq
  ·rw[Xv]at hq;subst hq;exact⟨h0,h1,h2⟩⟩
def zbr:PF:=λds Q=>∃(cs:List Int)(a many:Int),ds=[.lst (cs.map PV.int),.int a,.int many]/\0<=a/\a<=1000/\0<=many/\many<=100/\∀zs:List Int,zs.length=many.toNat->Q (.lst (zs.map PV.int)) .new
theorem zeM:zaY zbr:=λds Q Q' m ⟨cs,a,n,e,h1,h2,h3,h4,q⟩=>⟨cs,a,n,e,h1,h2,h3,h4,λzs h=>m _ _ (q zs h)⟩
theorem cget {cs:List Int}{i:Nat}(h:i<cs.length){j:Int}(hj:j=i):atI (cs.map PV.int) j=some (.int cs[i]):=by
 subst hj;exact zaR (by simp[h])
structure zbh (L:List Str)(n:Nat)(sh:List (List Str))(ps:List (Option Nat)):Prop where
 pats:Pats L n sh
 plen:ps.length=n
def parP:Option Nat->PV
 | none=>.non
 | some p=>.int p
theorem zbh.snoc {L:List Str}{n m:Nat}{sh:List (List Str)}{ps:List (Option Nat)}{new ts:List Str}{par:Option Nat}(T:zbh L n sh ps)(N:∀x∈new,x∈L)(h4:(new.take m++ts).length<=4)(hne:new.take m++ts≠[])
  (hp:(par=none/\n=0/\ts=[])\/∃j q,par=some j/\j<n/\sh[j]? = some q/\∀x∈ts,x∈q):zbh L (n+1) (sh++[new.take m++ts]) (ps++[par]):=by
 refine⟨T.pats.snoc hne h4 λx hx=>?_,by rw[Xm,T.plen];rfl⟩;rcases XR.mp hx with hx | hx
 ·exact N x (YM hx)
 ·rcases hp with ⟨_,_,e⟩ | ⟨j,q,_,_,hq,hs⟩
  ·rw[e]at hx;cases hx
  ·exact(T.pats.2 q (Xu hq)).2.2 x (hs x hx)
def zgw:PF:=λds Q=>∃(cs:List Int)(L:List Str),ds=[.lst (cs.map PV.int),.lst (L.map PV.str)]/\cs.length<=6/\L.length=6/\∀sh ps,zbh L cs.length sh ps->Q (.tup [.lst (sh.map ltsP),.lst (ps.map parP)]) .frz
theorem znT:zaY zgw:=λds Q Q' m ⟨cs,L,e,h1,h2,q⟩=>⟨cs,L,e,h1,h2,λsh ps a=>m _ _ (q sh ps a)⟩
def tE (cs:List Int)(L:List Str)(sh:List (List Str))(ps:List (Option Nat))(new:List Str)(k5 k6 k7 k8:Option (PV×Bool)):PEnv:=[some (PV.lst (cs.map PV.int),false),some (PV.lst (L.map PV.str),false),some (PV.lst (sh.map ltsP),true),some (PV.lst (ps.map parP),true),some (PV.lst (new.map PV.str),true),k5,k6,k7,k8]
theorem seqK {t u:TPS}{ρ:PEnv}{O:POut}(h:∀N:PEnv->Prop,(∀ρ',Hold u O ρ'->N ρ')->Hold t ⟨N,O.rt,O.bk,O.ct⟩ ρ):Hold (pSeq t u) O ρ:=h _ λ_ x=>x
section
variable {P:Wl}{w:Wt}{K:Xa}{mg:Str->Option Wb}{base:Heap}
theorem zgT:zan ["_law_cells","_law_at","_law_many","_law_told"] ["_law_cells","_law_at","_law_many"] (zac zbK):=⟨rfl,rfl,rfl,by decide +kernel,rfl,by decide +kernel,by decide +kernel⟩
theorem zjD {f:We}{fd:Wr}(F:Fun K "_law_filled_up" "_law_filled_up" zbK f fd) (B:Bl mg):FnOk P w K mg base CX0 1 f fd ["_law_cells","_law_at","_law_many"] (spP K zbr):=by
 refine zat F zgT (λds Q ⟨c,a,n,e,_⟩=>by rw[e];rfl) (λcdv A outer s H E hr=>?_);have hu:(A.deeper (WB "_law_filled_up" (zac zbK) s.heap.objs.size f cdv)).units+16<Wz:=by have q:=hr.units;lia
 have nd:=zgT.nd;refine⟨_,(zad (zah (i:=3) nd rfl (Or.inl rfl) (zcR (zaa 0) (zbI (zaa 1)) (zbI (zbj (zaa 1) (zaa 2)))))
   (zad (zeu PassesOwn.never (zkc (zaZ rfl B.len (zab (zaa 3) zae)) (zaa 2)) (zag (zaN (zaH 3 (zbj (zbO zaf (zaZ rfl B.len (zab (zaa 3) zae))) (zbO zaf (zaa 1)))))))
   (zag (zaq (zaa 3))))),λds Q h=>?_⟩
 obtain⟨cs,a,many,rfl,ha,ha2,hm,hm2,q⟩:=h;walk_at "pu";walk_at "auto";obtain⟨zs,hzs,hzl⟩:∃zs:List Int,cutP (cs.map PV.int) (some a) (some (a+many))=zs.map PV.int/\zs.length<=many.toNat:=by
  obtain⟨n,rfl⟩:∃n:Nat,a=n:=⟨a.toNat,by lia⟩;obtain⟨m,rfl⟩:∃m:Nat,many=m:=⟨many.toNat,by lia⟩;refine⟨(cs.drop (min n cs.length)).take (min (n+m) cs.length-min n cs.length),?_,?_⟩
  ·unfold cutP;rw[HT.zdO,show((n:Int)+(m:Int))=((n+m:Nat):Int) by lia,HT.zdO,Xb,List.map_take,List.map_drop]
  ·rw[XY];refine Xx (Nat.min_le_left ..) (Nat.sub_le_of_le_add ?_);rcases Nat.le_total n cs.length with z | z
   ·rw[Nat.min_eq_left z];exact Xx (Nat.min_le_left ..) (by lia)
   ·rw[Nat.min_eq_right z];exact Xx (Nat.min_le_right ..) (by lia)
 rw[hzs];obtain⟨Iv,hIv⟩:∃Iv:Nat->PEnv->Prop,∀m ρ,Iv m ρ↔∃zs:List Int,ρ=[some (PV.lst (cs.map PV.int),false),some (PV.int a,false),some (PV.int many,false),some (PV.lst (zs.map PV.int),true)]/\zs.length<=many.toNat/\m=many.toNat-zs.length:=⟨_,λ_ _=>Iff.rfl⟩;refine⟨Iv,⟨_,(hIv _ _).mpr ⟨zs,rfl,hzl,rfl⟩⟩,?_⟩;intro m ρ hI;obtain⟨zs,rfl,hl,rfl⟩:=(hIv _ _).mp hI;walk_at "go";refine ite2 (λe1=>?_) (λe1=>?_)
 ·rw[Xb]at e1;walk_at "go";rw[Xb];refine⟨by rw[Wo];lia,.inl ⟨by decide,by decide⟩,.inl ⟨by decide,by decide⟩,_,?_,(hIv _ _).mpr ⟨zs++[7*(zs.length:Int)+3*a],by rw[Xn];rfl,?_,rfl⟩⟩
  all_goals (rw[Xm,Ya];lia)
 ·rw[Xb]at e1;walk_at "go";exact q zs (by lia)
def tFin:TPS:=pSeq (pSet 8 (PL.tB zdq (zaC (pVar 8) (zaC (pSub (pC (PV.int 4)) (PL.tB fLen (zaC (pVar 6) pNil))) (zaC (PL.tB fLen (zaC (pVar 4) pNil)) pNil)))))
        (pSeq (zbH (mApp 2 (PL.tB zbP (zaC (t2 pCat (pSlL (pVar 4) zdn (zdo (pVar 8))) (pVar 6)) pNil))))
         (pSeq (pSet 4 (pSlL (pVar 4) (zdo (pVar 8)) zdn)) (zbH (mApp 3 (pVar 7)))))
def tMid:TPS:=pSeq (pSet 8 (pC (PV.int 1)))
         (pIf (tBl (t2 (pEq false) (PL.tB fLen (zaC (pVar 4) pNil)) (pC (PV.int 0))))
          (pSet 6 (pLst (zaC (t2 pIx (t2 pIx (pVar 2) (pVar 7)) (pC (PV.int 0))) pNil))) zcQ)
def zuo:TPS:=pSeq (pSet 8 (pMod (zbk zbl (zaC (t2 pIx (pVar 0) (pVar 5)) (zaC (pC (PV.int 22)) pNil))) (pC (PV.int 3))))
      (pSeq
       (pIf
        (zdf (tBl (t2 (pEq false) (PL.tB fLen (zaC (pVar 6) pNil)) (pC (PV.int 0))))
         (tOrP (tBl (t2 (pEq false) (pVar 8) (pC (PV.int 0))))
          (tBl (t2 (pEq false) (PL.tB fLen (zaC (pVar 4) pNil)) (pC (PV.int 0))))))
        tMid
        zcQ) tFin)
structure zqu (i:Nat)(sh:List (List Str))(ts:List Str)(par:Option Nat):Prop where
 two:ts.length<=2
 hp:(par=none/\i=0/\ts=[])\/∃j q,par=some j/\j<i/\sh[j]? = some q/\∀x∈ts,x∈q
section
variable {cs:List Int}{L new:List Str}{i:Nat}{sh:List (List Str)}{ps:List (Option Nat)}{O:POut}
theorem zft (T:zbh L i sh ps)(N:∀x∈new,x∈L)(h6:i<6)(hO:∀sh' ps' new' k5 k6 k7 k8,zbh L (i+1) sh' ps'->(∀x∈new',x∈L)->O.nx (tE cs L sh' ps' new' k5 k6 k7 k8)){ts:List Str}{par:Option Nat}(R:zqu i sh ts par){more:Int}(m0:0<=more)(m3:more<=3)(hemp:ts=[]->1<=more/\new≠[]):Hold tFin O (tE cs L sh ps new (some (PV.int (0+i),false)) (some (PV.lst (ts.map PV.str),true)) (some (parP par,false)) (some (PV.int more,false))):=by
 have tn2:=R.two;have hpl:=T.plen;have hsl:=T.pats.1;unfold tFin;walk_at "go";rw[Xb,Xb];obtain⟨m,hm⟩:∃m:Int,m=(if 4-(ts.length:Int)<more then if (new.length:Int)<4-(ts.length:Int) then(new.length:Int) else 4-(ts.length:Int) else if (new.length:Int)<more then(new.length:Int) else more):=⟨_,rfl⟩
 rw[<- hm];have hm4:0<=m/\m<=new.length/\m+ts.length<=4/\(m=new.length\/m=4-(ts.length:Int)\/m=more):=by split at hm<;>split at hm<;>lia
 obtain⟨hm0,hm1,hm2,hm5⟩:=hm4;have hm3:ts=[]->1<=m:=λz=>by
  obtain⟨z1,z2⟩:=hemp z;have z3:0<new.length:=List.length_pos_iff.mpr z2;have z4:ts.length=0:=by rw[z];rfl
  lia
 clear hm hm5;walk_at "go";have cut1:cutP (new.map PV.str) none (some m)=(new.take m.toNat).map PV.str:=by rw[zqt _ hm0 (by rw[Xb];exact hm1),List.map_take]
 have cut2:cutP (new.map PV.str) (some m) none=(new.drop m.toNat).map PV.str:=by rw[zkP _ hm0 (by rw[Xb];exact hm1),List.map_drop]
 rw[cut1];simp only[Xb,XY];refine⟨by rw[Wo];lia,by rw[Wo];lia,?_⟩;walk_at "go";walk_at "go";rw[cut2];have T2:=T.snoc (m:=m.toNat) (ts:=ts) (par:=par) N (by rw[Xm,XY];lia) (λz=>by
  rw[List.append_eq_nil_iff]at z;have z1:=hm3 z.2;have z2:=congrArg List.length z.1;rw[XY,YB]at z2;lia) R.hp
 have e1:(sh++[new.take m.toNat++ts]).map ltsP=sh.map ltsP++[PV.tup ((new.take m.toNat).map PV.str++ts.map PV.str)]:=by rw[Xn];simp only[Xq,List.map_nil,ltsP,Xn]
 have e2:(ps++[par]).map parP=ps.map parP++[parP par]:=by rw[Xn];rfl
 rw[<- e1,<- e2];exact⟨by rw[Xb,Wo];lia,hO _ _ _ _ _ _ _ T2 λx hx=>N x (List.mem_of_mem_drop hx)⟩
theorem ziO (T:zbh L i sh ps)(N:∀x∈new,x∈L)(h6:i<6)(hi:i<cs.length)(hL:L.length=6)(hN0:i=0->new=L)(hO:∀sh' ps' new' k5 k6 k7 k8,zbh L (i+1) sh' ps'->(∀x∈new',x∈L)->O.nx (tE cs L sh' ps' new' k5 k6 k7 k8)){ts:List Str}{par:Option Nat}(R:zqu i sh ts par)(kv:Option (PV×Bool)):Hold zuo O (tE cs L sh ps new (some (PV.int (0+i),false)) (some (PV.lst (ts.map PV.str),true)) (some (parP par,false)) kv):=by
 refine seqK λM hM=>?_;walk_at "go";refine⟨_,cget hi (by lia),_,rfl,by decide,by decide,by decide,hM _ (seqK λM hM=>?_)⟩;generalize mixed cs[i] 22=c22;have n1:=Yq c22 (show(3:Int)≠0 by decide);have n2:=Yh c22 (show(0:Int)<3 by decide);have mid:∀v:PV,ts=[]->Hold tMid ⟨M,O.rt,O.bk,O.ct⟩ (tE cs L sh ps new (some (PV.int (0+i),false)) (some (PV.lst (ts.map PV.str),true)) (some (parP par,false)) (some (v,false))):=by
  intro v hts;subst hts;unfold tMid;walk_at "go";walk_at "go";rw[Xb];refine ite2 (λe=>?_) (λe=>?_)
  ·walk_at "go";rcases R.hp with ⟨_,hi0,_⟩ | ⟨j,p,rfl,hj,hq,_⟩
   ·have:=hN0 hi0;rw[this]at e;lia
   ·have hpm:=Xu hq;have hne:=(T.pats.2 p hpm).1;have hpl0:0<p.length:=List.length_pos_iff.mpr hne;have hat:atI (sh.map ltsP) (j:Int)=some (ltsP p):=zaR (by rw[Xl,hq];rfl);have hat2:atI (p.map PV.str) 0=some (.str p[0]):=zaR (j:=0) (by simp[hpl0]);refine⟨_,⟨_,rfl,hat⟩,_,.inl ⟨_,.inr rfl,hat2⟩,by decide,hM _ ?_⟩;exact zft (ts:=[p[0]]) (par:=some j) T N h6 hO ⟨by simp,.inr ⟨j,p,rfl,hj,hq,λx hx=>by rw[Xv]at hx;subst hx;exact Yd _⟩⟩ (by decide) (by decide) λz=>by cases z
  ·walk_at "go";exact hM _ (zft T N h6 hO R (by decide) (by decide) λ_=>⟨by decide,λz=>e (by rw[z];rfl)⟩)
 walk_at "go";refine ite2 (λe1=>ite2 (λe2=>?_) (λe2=>ite2 (λe3=>?_) (λe3=>?_))) (λe1=>?_)
 ·exact mid _ (Yf.mp (by rw[Xb]at e1;lia))
 ·exact mid _ (Yf.mp (by rw[Xb]at e1;lia))
 ·exact hM _ (zft T N h6 hO R (by lia) (by lia) λ_=>⟨by lia,λz=>e3 (by rw[z];rfl)⟩)
 ·exact hM _ (zft T N h6 hO R (by lia) (by lia) λz=>(e1 (by rw[z];rfl)).elim)
def zup:TPS:=pSeq (pSet 6 (pLst pNil)) (pSeq (pSet 7 (pC PV.non)) (pSeq (pIf (tBl (pGt (pVar 5) (pC (PV.int 0)))) (pSeq (pSet 7 (pMod (zbk zbl (zaC (t2 pIx (pVar 0) (pVar 5)) (zaC (pC (PV.int 20)) pNil))) (pVar 5))) (pSet 6 (zbk zbM (zaC (t2 pIx (pVar 0) (pVar 5)) (zaC (t2 pIx (pVar 2) (pVar 7)) (zaC (pMod (zbk zbl (zaC (t2 pIx (pVar 0) (pVar 5)) (zaC (pC (PV.int 21)) pNil))) (pC (PV.int 3))) pNil)))))) zcQ) zuo))
theorem znU (T:zbh L i sh ps)(N:∀x∈new,x∈L)(h6:i<6)(hi:i<cs.length)(hL:L.length=6)(hN0:i=0->new=L)(hO:∀sh' ps' new' k5 k6 k7 k8,zbh L (i+1) sh' ps'->(∀x∈new',x∈L)->O.nx (tE cs L sh' ps' new' k5 k6 k7 k8))(k6 k7 k8:Option (PV×Bool)):Hold zup O (tE cs L sh ps new (some (PV.int (0+i),false)) k6 k7 k8):=by
 have hpl:=T.plen;have hsl:=T.pats.1;refine seqK λM hM=>?_;walk_at "go";refine⟨XH _,hM _ (seqK λM hM=>?_)⟩;walk_at "go";refine hM _ (seqK λM hM=>?_);walk_at "go";refine ite2 (λe1=>?_) (λe1=>?_)
 ·walk_at "go";refine⟨_,cget hi (by lia),_,rfl,by decide,by decide,by lia,?_⟩;have n1:=Yq (mixed cs[i] 20) (show(0+(i:Int))≠0 by lia);have n2:=Yh (mixed cs[i] 20) (show(0:Int)<0+(i:Int) by lia);generalize mixed cs[i] 20 % (0+(i:Int))=pj at *;obtain⟨j,rfl⟩:∃j:Nat,pj=j:=⟨pj.toNat,by lia⟩;have hj:j<sh.length:=by lia
  have hat:atI (sh.map ltsP) (j:Int)=some (ltsP sh[j]):=zaR (by simp[hj]);have hjm:=Yd hj;have hj4:=(T.pats.2 _ hjm).2.1;have n3:=Yq (mixed cs[i] 21) (show(3:Int)≠0 by decide);have n4:=Yh (mixed cs[i] 21) (show(0:Int)<3 by decide);walk_at "go";refine⟨_,cget hi (by lia),_,hat,_,cget hi (by lia),_,rfl,by decide,by decide,by decide,⟨_,rfl⟩,_,.inr rfl,by rw[Xb];lia,λtold left hp hl=>hM _ ?_⟩;obtain⟨ts,rfl,hts⟩:=znR hp;rw[Xb,Xb]at hl;exact ziO (par:=some j) T N h6 hi hL hN0 hO ⟨by lia,.inr ⟨j,sh[j],rfl,by lia,by simp[hj],hts⟩⟩ _
 ·walk_at "go";exact hM _ (ziO (ts:=[]) (par:=none) T N h6 hi hL hN0 hO ⟨XH _,.inl ⟨rfl,by lia,rfl⟩⟩ _)
end
theorem zqv:zan ["_law_cells","_law_letters_here","_law_shape_here","_law_parents","_law_new","_law_k","_law_pattern","_law_parent","_law_more"] ["_law_cells","_law_letters_here"] (zac zhD):=⟨rfl,rfl,rfl,by decide +kernel,rfl,by decide +kernel,by decide +kernel⟩
theorem zsg {f fM fP:We}{fd fdM fdP:Wr}(F:Fun K "_law_tree" "_law_tree" zhD f fd) (Mixed:Fx K mg "_law_mixed" zbY ["_law_cell","_law_k"] fM fdM) (Picked:Fx K mg "_law_picked" zcc ["_law_cell","_law_some","_law_many"] fP fdP) (B:Bl mg):FnOk P w K mg base CX0 3 f fd ["_law_cells","_law_letters_here"] (spP K zgw):=by
 have GMixed:FnOk P w K mg base CX0 2 fM fdM ["_law_cell","_law_k"] (spP K zbl):=(zcZ Mixed.fn B).mono (by decide);have GPicked:FnOk P w K mg base CX0 2 fP fdP ["_law_cell","_law_some","_law_many"] (spP K zbM):=zgi Picked.fn Mixed B;refine zat F zqv (λds Q ⟨c,L,e,_⟩=>by rw[e];rfl) (λcdv A outer s H E hr=>?_);have hu:(A.deeper (WB "_law_tree" (zac zhD) s.heap.objs.size f cdv)).units+16<Wz:=by have q:=hr.units;lia
 have nd:=zqv.nd;refine⟨_,(zad (zah (i:=2) nd rfl (Or.inl rfl) (zbg zae))
   (zad (zah (i:=3) nd rfl (Or.inl rfl) (zbg zae))
   (zad (zah (i:=4) nd rfl (Or.inl rfl) (zhp rfl B.list (zab (zaa 1) zae)))
   (zad (zaJ rfl PassesOwn.never (zaL rfl B.range (zab (zaZ rfl B.len (zab (zaa 0) zae)) zae)) (zai (i:=5) nd rfl (Or.inl rfl)) (zad (zah (i:=6) nd rfl (Or.inl rfl) (zbg zae))
   (zad (zah (i:=7) nd rfl (Or.inl rfl) zfG)
   (zad (zbF (zgI (zaa 5) zaf) (zad (zah (i:=7) nd rfl (Or.inl rfl) (zaK (zao GMixed zaI hr rfl Mixed.mg Mixed.fn.kp Mixed.bd (zab (zal (zaa 0) (zaa 5)) (zab zaf zae))) (zaa 5)))
   (zag (zah (i:=6) nd rfl (Or.inl rfl) (zao GPicked zef hr rfl Picked.mg Picked.fn.kp Picked.bd (zab (zal (zaa 0) (zaa 5)) (zab (zal (zaa 2) (zaa 7)) (zab (zaK (zao GMixed zaI hr rfl Mixed.mg Mixed.fn.kp Mixed.bd (zab (zal (zaa 0) (zaa 5)) (zab zaf zae))) zaf) zae))))))) zaE)
   (zad (zah (i:=8) nd rfl (Or.inl rfl) (zaK (zao GMixed zaI hr rfl Mixed.mg Mixed.fn.kp Mixed.bd (zab (zal (zaa 0) (zaa 5)) (zab zaf zae))) zaf))
   (zad (zbF (PuW.t (zhk (zdG hu (zaZ rfl B.len (zab (zaa 6) zae)) zaf) (zfo (PuW.t (zfK (zdG hu (zaa 8) zaf) (zfJ (zdG hu (zaZ rfl B.len (zab (zaa 4) zae)) zaf))))))) (zad (zah (i:=8) nd rfl (Or.inl rfl) zaf)
   (zag (zbF (zdG hu (zaZ rfl B.len (zab (zaa 4) zae)) zaf) (zag (zah (i:=6) nd rfl (Or.inl rfl) (zbg (zab (zal (zal (zaa 2) (zaa 7)) zaf) zae)))) zaE))) zaE)
   (zad (zah (i:=8) nd rfl (Or.inl rfl) (zrE rfl rfl B.min (zab (zaa 8) (zab (zik zaf (zaZ rfl B.len (zab (zaa 6) zae))) (zab (zaZ rfl B.len (zab (zaa 4) zae)) zae)))))
   (zad (zaN (zaH 2 (zex rfl B.tuple (zab (zdI (zcR (zaa 4) zey (zbI (zaa 8))) (zaa 6)) zae))))
   (zad (zah (i:=4) nd rfl (Or.inl rfl) (zcR (zaa 4) (zbI (zaa 8)) zey))
   (zag (zaN (zaH 3 (zaa 7)))))))))))))
   (zag (zcb 3 (zcb 2 (zaq (zgF (zab (zaa 2) (zab (zaa 3) zae))))))))))),λds Q h=>?_⟩
 obtain⟨cs,L,rfl,h6,hL,q⟩:=h;show Hold (pSeq (pSet 2 (pLst pNil)) (pSeq (pSet 3 (pLst pNil)) (pSeq (pSet 4 (PL.tB zdm (zaC (pVar 1) pNil))) (pSeq (pFor (zbm (zaC (PL.tB fLen (zaC (pVar 0) pNil)) pNil)) (zbG 5) zup) (pFrz 3 (pFrz 2 (pRet (pTup (zaC (pVar 2) (zaC (pVar 3) pNil)))))))))) (zbX Q) _;walk_at "pu";walk_at "auto";rw[Xb];obtain⟨Iv,hIv⟩:∃Iv:Nat->PEnv->Prop,∀i ρ,Iv i ρ↔∃(sh:List (List Str)) (ps:List (Option Nat)) (new:List Str) (k1 k2 k3 k4:Option (PV×Bool)),ρ=tE cs L sh ps new k1 k2 k3 k4/\
   zbh L i sh ps/\(∀x∈new,x∈L)/\(i=0->new=L):=⟨_,λ_ _=>Iff.rfl⟩
 refine⟨by lia,Iv,(hIv _ _).mpr ⟨[],[],L,none,none,none,none,rfl,⟨⟨rfl,λp hp=>(by cases hp)⟩,rfl⟩,λ_ h=>h,λ_=>rfl⟩,?_,?_⟩
 ·intro i d ρ hd hI;obtain⟨sh,ps,new,k1,k2,k3,k4,rfl,T,N,hN0⟩:=(hIv _ _).mp hI;obtain⟨hi,rfl⟩:=zbV hd;have hi':i<cs.length:=by lia
  exact znU T N (by lia) hi' hL hN0 (λsh' ps' new' k5 k6 k7 k8 T2 N2=>(hIv _ _).mpr ⟨sh',ps',new',k5,k6,k7,k8,rfl,T2,N2,λz=>by lia⟩) _ _ _
 ·intro ρ hI;obtain⟨sh,ps,new,k1,k2,k3,k4,rfl,T,N,hN0⟩:=(hIv _ _).mp hI;rw[zbf]at T;walk_at "go";exact⟨by decide,q sh ps (by simpa using T)⟩
end
theorem Pats.nil (L:List Str):Pats L 0 []:=⟨rfl,λp hp=>by cases hp⟩
theorem Pats.shp {L:List Str}{n:Nat}{sh:List (List Str)}(h:Pats L n sh)(h1:1<=n)(h6:n<=6)(hL:L.length=6):Shp sh:=by
 refine⟨by rw[h.1];exact h1,by rw[h.1];exact h6,λp hp=>(h.2 p hp).2.1,λp hp=>(h.2 p hp).1,λns hn hs=>?_⟩;rw[<- hL];refine List.Nodup.length_le_of_subset hn λx hx=>?_;obtain⟨p,hp,hxp⟩:=hs x hx;exact(h.2 p hp).2.2 x hxp
def fAny:PF:=λds Q=>∃(cs:List Int)(L:List Str),ds=[.lst (cs.map PV.int),.lst (L.map PV.str)]/\cs.length<=6/\L.length=6/\∀sh,Pats L cs.length sh->Q (.lst (sh.map ltsP)) .new
theorem zpC:zaY fAny:=λds Q Q' m ⟨cs,L,e,h1,h2,q⟩=>⟨cs,L,e,h1,h2,λsh a=>m _ _ (q sh a)⟩
def zhM:PF:=λds Q=>∃(cs:List Int)(L:List Str),ds=[.lst (cs.map PV.int),.lst (L.map PV.str)]/\cs.length<=6/\L.length=6/\∀sh,Pats L cs.length sh->Q (.lst (sh.map ltsP)) .new
theorem znV:zaY zhM:=λds Q Q' m ⟨cs,L,e,h1,h2,q⟩=>⟨cs,L,e,h1,h2,λsh a=>m _ _ (q sh a)⟩
def zdw:PF:=λds Q=>∃(c:Int)(cs:List Int),ds=[.int c,.lst (cs.map PV.int)]/\1<=cs.length/\cs.length<=6/\∀sh,Shp sh->sh.length=cs.length->Q (.lst (sh.map ltsP)) .new/\Q (.lst (sh.map ltsP)) .frz
theorem zlH:zaY zdw:=λds Q Q' m ⟨c,cs,e,h1,h2,q⟩=>⟨c,cs,e,h1,h2,λsh a b=>⟨m _ _ (q sh a b).1,m _ _ (q sh a b).2⟩⟩
theorem zqw {L:List Str}{i:Int}(h0:0<=i)(h1:i<L.length):∃s,s∈L/\atI (L.map PV.str) i=some (.str s):=by
 obtain⟨n,rfl⟩:∃n:Nat,i=n:=⟨i.toNat,by lia⟩;have hn:n<L.length:=by lia
 exact⟨L[n],Yd hn,zaR (by simp[hn])⟩
section
variable {P:Wl}{w:Wt}{K:Xa}{mg:Str->Option Wb}{base:Heap}
theorem zuq:zan ["_law_cells","_law_letters_here"] ["_law_cells","_law_letters_here"] (zac sAny):=⟨rfl,rfl,rfl,by decide +kernel,rfl,by decide +kernel,by decide +kernel⟩
theorem zur {f fM fP:We}{fd fdM fdP:Wr}(F:Fun K "_law_any" "_law_any" sAny f fd) (Mixed:Fx K mg "_law_mixed" zbY ["_law_cell","_law_k"] fM fdM) (Picked:Fx K mg "_law_picked" zcc ["_law_cell","_law_some","_law_many"] fP fdP) (B:Bl mg):FnOk P w K mg base CX0 3 f fd ["_law_cells","_law_letters_here"] (spP K fAny):=by
 have GMixed:FnOk P w K mg base CX0 2 fM fdM ["_law_cell","_law_k"] (spP K zbl):=(zcZ Mixed.fn B).mono (by decide);have GPicked:FnOk P w K mg base CX0 2 fP fdP ["_law_cell","_law_some","_law_many"] (spP K zbM):=zgi Picked.fn Mixed B;refine zat F zuq (λds Q ⟨c,L,e,_⟩=>by rw[e];rfl) (λcdv A outer s H E hr=>?_);have hu:(A.deeper (WB "_law_any" (zac sAny) s.heap.objs.size f cdv)).units+16<Wz:=by have q:=hr.units;lia
 have nd:=zuq.nd;refine⟨_,(zag (zaq (zbQ (N:=["_law_cell","_law_letters_here"]) (k:=1) (js:=[1]) rfl (zdB (sup:=zac sAny) (XN:=["_law_cells","_law_letters_here"]) rfl rfl (by decide +kernel)) (by decide) (zaS (by decide)) (zaF (zaa 0)) ⟨λ_ _ _ _ _=>(zai (i:=0) (by show(["_law_cell","_law_letters_here"]:List Str).Nodup;decide +kernel) rfl (Or.inl rfl)),λ_ _ _ _ _=>zaT,λ_ _ _ _ _=>(zex rfl B.tuple (zab (zao GPicked zef hr rfl Picked.mg Picked.fn.kp Picked.bd (zab (zaa 0) (zab (zaa 1) (zab (zbj zaf (zaK (zao GMixed zaI hr rfl Mixed.mg Mixed.fn.kp Mixed.bd (zab (zaa 0) (zab zaf zae))) zaf)) zae)))) zae))⟩))),λds Q h=>?_⟩;obtain⟨cs,L,rfl,h6,hL,q⟩:=h;have hsz:=Wo;walk_at "pu";refine⟨by rw[Xb];lia,λk out=>∃sh,out=sh.map ltsP/\Pats L k sh,⟨[],rfl,.nil L⟩,?_,?_⟩
 ·rintro k d out hd - ⟨sh,rfl,hP⟩;rw[Xl]at hd;cases hc:cs[k]? with
  | none=>rw[hc]at hd;cases hd
  | some c=>
   rw[hc]at hd;cases hd;have n1:=Yq (mixed c 2) (show(4:Int)≠0 by decide);have n2:=Yh (mixed c 2) (show(0:Int)<4 by decide);refine⟨c,rfl,by decide,by decide,by decide,⟨c,rfl⟩,by rw[Xb];lia,λtold left hp hl=>?_⟩;obtain⟨ts,rfl,hts⟩:=znR hp;rw[Xb,Xb]at hl;exact⟨sh++[ts],by rw[Xn];rfl,hP.snoc (λz=>by rw[z,YB]at hl;lia) (by lia) hts⟩
 ·rintro out - ⟨sh,rfl,hP⟩;rw[Xb]at hP;exact q sh hP
theorem zqx:zan ["_law_cells","_law_letters_here","_law_many","_law_told","_law_k","_law_pattern"] ["_law_cells","_law_letters_here"] (zac zgt):=⟨rfl,rfl,rfl,by decide +kernel,rfl,by decide +kernel,by decide +kernel⟩
theorem zsh {f fM fP:We}{fd fdM fdP:Wr}(F:Fun K "_law_ring" "_law_ring" zgt f fd) (Mixed:Fx K mg "_law_mixed" zbY ["_law_cell","_law_k"] fM fdM) (Picked:Fx K mg "_law_picked" zcc ["_law_cell","_law_some","_law_many"] fP fdP) (B:Bl mg):FnOk P w K mg base CX0 3 f fd ["_law_cells","_law_letters_here"] (spP K zhM):=by
 have GPicked:FnOk P w K mg base CX0 2 fP fdP ["_law_cell","_law_some","_law_many"] (spP K zbM):=zgi Picked.fn Mixed B;refine zat F zqx (λds Q ⟨c,L,e,_⟩=>by rw[e];rfl) (λcdv A outer s H E hr=>?_);have hu:(A.deeper (WB "_law_ring" (zac zgt) s.heap.objs.size f cdv)).units+16<Wz:=by have q:=hr.units;lia
 have nd:=zqx.nd;refine⟨_,(zad (zah (i:=2) nd rfl (Or.inl rfl) (zmV rfl rfl B.max (zab zaf (zab (zaZ rfl B.len (zab (zaa 0) zae)) zae))))
   (zad (zah (i:=3) nd rfl (Or.inl rfl) (zbg zae))
   (zad (zaJ rfl PassesOwn.never (zaL rfl B.range (zab (zaZ rfl B.len (zab (zaa 0) zae)) zae)) (zai (i:=4) nd rfl (Or.inl rfl)) (zad (zah (i:=5) nd rfl (Or.inr rfl) (zbg (zab (zal (zaa 1) (zaK (zaa 4) zaf)) (zab (zal (zaa 1) (zaK (zaK (zbj (zaa 4) zaf) (zaa 2)) zaf)) zae))))
   (zad (zbF (zdG hu (zaK (zal (zaa 0) (zaa 4)) zaf) zaf) (zag (zah (i:=5) nd rfl (Or.inr rfl) (zdI (zaa 5) (zao GPicked zef hr rfl Picked.mg Picked.fn.kp Picked.bd (zab (zal (zaa 0) (zaa 4)) (zab (zbQ (N:=["_law_letter","_law_pattern"]) (k:=1) (js:=[5]) rfl (zdB (sup:=zac zgt) (XN:=["_law_cells","_law_letters_here","_law_many","_law_told","_law_k","_law_pattern"]) rfl rfl (by decide +kernel)) (by decide) (zaS (by decide)) (zaF (zaa 1)) ⟨λ_ _ _ _ _=>(zai (i:=0) (by show(["_law_letter","_law_pattern"]:List Str).Nodup;decide +kernel) rfl (Or.inl rfl)),λ_ _ _ _ _=>(zoR (zir hu (zaa 0) (zaa 1))),λ_ _ _ _ _=>(zaa 0)⟩) (zab zaf zae))))))) zaE)
   (zag (zaN (zaH 3 (zex rfl B.tuple (zab (zaa 5) zae))))))))
   (zag (zaq (zaa 3)))))),λds Q h=>?_⟩
 obtain⟨cs,L,rfl,h6,hL,q⟩:=h;have hsz:=Wo;walk_at "pu";walk_at "auto";rw[Xb,Yc,zbf];obtain⟨many,hmany⟩:∃many:Int,many=(if (cs.length:Int) > 2 then(cs.length:Int) else 2):=⟨_,rfl⟩
 have hm2:2<=many/\many<=6:=by split at hmany<;>lia
 rw[<- hmany];clear hmany;obtain⟨Iv,hIv⟩:∃Iv:Nat->PEnv->Prop,∀i ρ,Iv i ρ↔∃(sh:List (List Str)) (k1 k2:Option (PV×Bool)),ρ=[some (PV.lst (cs.map PV.int),false),some (PV.lst (L.map PV.str),false),some (PV.int many,false),some (PV.lst (sh.map ltsP),true),k1,k2]/\Pats L i sh:=⟨_,λ_ _=>Iff.rfl⟩;refine⟨by lia,Iv,(hIv _ _).mpr ⟨[],_,_,rfl,.nil L⟩,?_,?_⟩
 ·intro i d ρ hd hI;obtain⟨sh,k1,k2,rfl,hP⟩:=(hIv _ _).mp hI;obtain⟨hi,rfl⟩:=zbV hd;rw[Int.zero_add];have hsl:=hP.1;have a1:=Yq (i:Int) (show(6:Int)≠0 by decide);have a2:=Yh (i:Int) (show(0:Int)<6 by decide);have a3:=Yq (((i:Int)+1) % many) (show(6:Int)≠0 by decide);have a4:=Yh (((i:Int)+1) % many) (show(0:Int)<6 by decide);obtain⟨s1,hs1,e1⟩:=zqw (L:=L) a1 (by lia);obtain⟨s2,hs2,e2⟩:=zqw (L:=L) a3 (by lia);walk_at "go";refine⟨by decide,_,e1,by lia,by decide,_,e2,by lia,?_⟩;have hi':i<cs.length:=by lia
  have fin:∀(ts:List Str),ts≠[]->ts.length<=4->(∀x∈ts,x∈L)->Hold (zbH (mApp 3 (PL.tB zbP (zaC (pVar 5) pNil)))) { nx:=Iv (i+1),rt:=Q,bk:=Hold (pRet (pVar 3)) { nx:=λx=>Q PV.non Kd.frz,rt:=Q,bk:=λx=>False,ct:=λx=>False },ct:=Iv (i+1) }
    [some (PV.lst (cs.map PV.int),false),some (PV.lst (L.map PV.str),false),some (PV.int many,false),some (PV.lst (sh.map ltsP),true),some (PV.int i,false),some (PV.lst (ts.map PV.str),true)]:=λts h0 h4 hts=>by
   walk_at "go";exact⟨by rw[Xb];lia,(hIv _ _).mpr ⟨sh++[ts],_,_,by rw[Xn];rfl,hP.snoc h0 h4 hts⟩⟩
  have hs12:∀x∈[s1,s2],x∈L:=λx hx=>by
   rcases Xo.mp hx with rfl | hx
   ·exact hs1
   ·rw[Xv.mp hx];exact hs2
  walk_at "go";refine⟨_,cget hi' rfl,_,rfl,by decide,ite2 (λe=>?_) (λe=>?_)⟩
  ·walk_at "go";refine⟨_,cget hi' rfl,by rw[Xb];lia,λk out=>∀d∈out,d∈L.map PV.str,λd hd=>(by cases hd),?_,λout ho hout=>⟨⟨_,rfl⟩,by rw[Xb]at ho;lia,λtold left hp hl=>?_⟩⟩
   ·intro k d out hd _ hP;have hdm:=Xu hd;obtain⟨x,_,rfl⟩:=XD.mp hdm;refine⟨rfl,rfl,ite2 (λ_=>?_) (λ_=>hP)⟩;intro y hy;rcases XR.mp hy with hy | hy
    ·exact hP y hy
    ·rw[Xv.mp hy];exact hdm
   ·obtain⟨ts,rfl,hts⟩:=zjB (L:=L) (told:=told) λd hd=>hout d (hp.mem_iff.mp (YL _ hd));rw[Xb]at hl;have hl1:ts.length<=1:=by rw[hl];exact Nat.min_le_left ..
    refine⟨by rw[Xb];lia,?_⟩;exact fin (s1::s2::ts) (λz=>nomatch z) (by rw[XE,XE];lia) λx hx=>by
     rcases Xo.mp hx with rfl | hx
     ·exact hs1
     rcases Xo.mp hx with rfl | hx
     ·exact hs2
     ·exact hts x hx
  ·exact fin [s1,s2] (λz=>nomatch z) (show 2<=4 by decide) hs12
 ·intro ρ hI;obtain⟨sh,k1,k2,rfl,hP⟩:=(hIv _ _).mp hI;walk_at "go";exact q sh hP
theorem znW:zan ["_law_head","_law_cells","_law_letters_here"] ["_law_head","_law_cells"] (zac zeK):=⟨rfl,rfl,rfl,by decide +kernel,rfl,by decide +kernel,by decide +kernel⟩
theorem zpD {f f1 f2 f3 f4 f5 f6:We}{fd fd1 fd2 fd3 fd4 fd5 fd6:Wr}(F:Fun K "_law_shape" "_law_shape" zeK f fd) (Mixed:Fx K mg "_law_mixed" zbY ["_law_cell","_law_k"] f1 fd1) (Picked:Fx K mg "_law_picked" zcc ["_law_cell","_law_some","_law_many"] f2 fd2) (Alphabet:Fx K mg "_law_alphabet" zbJ ["_law_cell"] f3 fd3) (Any:Fx K mg "_law_any" sAny ["_law_cells","_law_letters_here"] f4 fd4) (Ring:Fx K mg "_law_ring" zgt ["_law_cells","_law_letters_here"] f5 fd5) (Tree:Fx K mg "_law_tree" zhD ["_law_cells","_law_letters_here"] f6 fd6) (B:Bl mg):FnOk P w K mg base CX0 4 f fd ["_law_head","_law_cells"] (spP K zdw):=by
 have GAlphabet:FnOk P w K mg base CX0 3 f3 fd3 ["_law_cell"] (spP K zaO):=(zjC Alphabet.fn Mixed B).mono (by decide);have GAny:FnOk P w K mg base CX0 3 f4 fd4 ["_law_cells","_law_letters_here"] (spP K fAny):=zur Any.fn Mixed Picked B;have GRing:FnOk P w K mg base CX0 3 f5 fd5 ["_law_cells","_law_letters_here"] (spP K zhM):=zsh Ring.fn Mixed Picked B;have GTree:FnOk P w K mg base CX0 3 f6 fd6 ["_law_cells","_law_letters_here"] (spP K zgw):=zsg Tree.fn Mixed Picked B;refine zat F znW (λds Q ⟨c,L,e,_⟩=>by rw[e];rfl) (λcdv A outer s H E hr=>?_);have hu:(A.deeper (WB "_law_shape" (zac zeK) s.heap.objs.size f cdv)).units+16<Wz:=by have q:=hr.units;lia
 have nd:=znW.nd;refine⟨_,(zad (zah (i:=2) nd rfl (Or.inl rfl) (zao GAlphabet zhL hr rfl Alphabet.mg Alphabet.fn.kp Alphabet.bd (zab (zaa 0) zae)))
   (zad (zcb 2 (zbF (zdG hu (zaK (zdd (zaa 0) zaf) zaf) zaf) (zag (zaq (zao GAny zpC hr rfl Any.mg Any.fn.kp Any.bd (zab (zaa 1) (zab (zaa 2) zae))))) zaE))
   (zad (zbF (zdG hu (zaK (zdd (zaa 0) zaf) zaf) zaf) (zag (zaq (zao GRing znV hr rfl Ring.mg Ring.fn.kp Ring.bd (zab (zaa 1) (zab (zaa 2) zae))))) zaE)
   (zag (zaq (zal (zao GTree znT hr rfl Tree.mg Tree.fn.kp Tree.bd (zab (zaa 1) (zab (zaa 2) zae))) zaf)))))),λds Q h=>?_⟩
 obtain⟨c,cs,rfl,h1,h6,q⟩:=h;have hsz:=Wo;walk_at "pu";walk_at "auto";refine ite2 (λe=>?_) (λe=>?_)
 ·walk_at "go";exact⟨cs,rfl,zjA (zgR c),rfl,h6,zfb _,λsh hP=>(q sh (hP.shp h1 h6 (zfb _)) hP.1).1⟩
 ·walk_at "go";walk_at "go";refine⟨⟨by decide,by decide⟩,by decide,ite2 (λe=>?_) (λe=>?_)⟩
  ·walk_at "go";exact⟨cs,rfl,zjA (zgR c),rfl,h6,zfb _,λsh hP=>(q sh (hP.shp h1 h6 (zfb _)) hP.1).1⟩
  ·walk_at "go";walk_at "go";exact⟨cs,rfl,zjA (zgR c),rfl,h6,zfb _,λsh ps T=>⟨_,zaR (j:=0) rfl,(q sh (T.pats.shp h1 h6 (zfb _)) T.pats.1).2⟩⟩
end
def zfi:PF:=λds Q=>∃i:Int,ds=[.int i]/\Q (.bl true) .frz
theorem zgU:zaY zfi:=λds Q Q' m ⟨i,e,q⟩=>⟨i,e,m _ _ q⟩
def zcy:PF:=λds Q=>∃sh:List (List Str),ds=[shpP sh]/\Shp sh/\∀zs:List Str,Names sh zs->Q (.lst (zs.map PV.str)) .new
theorem ziP:zaY zcy:=λds Q Q' m ⟨sh,e,h1,q⟩=>⟨sh,e,h1,λzs g=>m _ _ (q zs g)⟩
def zeN:PF:=λds Q=>∃b e:Nat,ds=[.int b,.int e]/\b<2 ^ 64/\e<2 ^ 62/\Q (.int ((b ^ e:Nat):Int)) .frz
theorem zgV:zaY zeN:=λds Q Q' m ⟨a,b,e,h1,h2,q⟩=>⟨a,b,e,h1,h2,m _ _ q⟩
abbrev zdx:PF:=zeN
theorem zgj:zaY zdx:=zgV
def ziQ:PF:=λds Q=>∃c:Int,ds=[.int c]/\∀x y z:Int,Q (.lst [.int x,.int y,.int z]) .new
theorem znX:zaY ziQ:=λds Q Q' m ⟨c,e,q⟩=>⟨c,e,λx y z=>m _ _ (q x y z)⟩
def rowP (r:List Int):PV:=.tup (r.map PV.int)
def zfj:PF:=λds Q=>∃ss:List (List Int),ds=[.lst (ss.map rowP)]/\(∀r∈ss,r≠[])/\ss.length<64/\∀zs:List (List Int),zs.Nodup->(∀r∈zs,r∈ss)->zs.length<=ss.length->Q (.lst (zs.map rowP)) .new
theorem zlI:zaY zfj:=λds Q Q' m ⟨a,e,h1,h2,q⟩=>⟨a,e,h1,h2,λz n x y=>m _ _ (q z n x y)⟩
def zbc:PF:=λds Q=>∃(cs:List Int)(ls:List Str)(x y z:Int),ds=[.lst (cs.map PV.int),ltsP ls,.lst [.int x,.int y,.int z]]/\ls≠[]/\ls.length<=100/\cs.length<64/\∀zs:List (List Int),zs.Nodup->(∀r∈zs,r.length=ls.length)->zs.length<=cs.length->Q (.lst (zs.map rowP)) .new
theorem zgx:zaY zbc:=λds Q Q' m ⟨a,b,c,d,e,f,h1,h2,h3,q⟩=>⟨a,b,c,d,e,f,h1,h2,h3,λz n x y=>m _ _ (q z n x y)⟩
structure Kept (ys zs:List (List Int))(i:Nat):Prop where
 nd:zs.Nodup
 mem:∀z∈zs,z∈ys.take i
 le:zs.length<=i
 top:∀a b,zs=a++[b]->∀z∈a,Srt.ltI z b=true
theorem Kept.nil (ys:List (List Int)):Kept ys [] 0:=⟨YQ,λz h=>(nomatch h),Xf _,λa b h=>by cases a<;>cases h⟩
theorem Kept.same {ys zs:List (List Int)}{i:Nat}(k:Kept ys zs i):Kept ys zs (i+1):=
 ⟨k.nd,λz h=>YM (i:=i) (by rw[List.take_take,Nat.min_eq_left (Yu i)];exact k.mem z h),Nat.le_succ_of_le k.le,k.top⟩
theorem Kept.more {ys zs:List (List Int)}{i:Nat}{r:List Int}(k:Kept ys zs i)(hp:ys.Pairwise λx y=>Srt.ltI y x=false)(hr:ys[i]? = some r)(h:∀a b,zs=a++[b]->b≠r):Kept ys (zs++[r]) (i+1):=by
 have hi:=(Xe.mp hr).1;have low:∀z∈zs,Srt.ltI r z=false:=λz hz=>by
  obtain⟨j,hj,e⟩:=List.getElem_of_mem (k.mem z hz);rw[XY]at hj;rw[List.getElem_take]at e;have:=List.pairwise_iff_getElem.mp hp j i (by lia) hi (by lia);rw[e,(Xe.mp hr).2]at this;exact this
 have up:∀z∈zs,Srt.ltI z r=true:=λz hz=>by
  obtain⟨a,b,e⟩:∃(a:List (List Int)) (b:List Int),zs=a++[b]:=⟨zs.dropLast,zs.getLast (List.ne_nil_of_mem hz),(List.dropLast_concat_getLast _).symm⟩;have hb:Srt.ltI b r=true:=by
   cases hbr:Srt.ltI b r with
   | true=>rfl
   | false=>exact absurd (Srt.zeW _ _ hbr (low b (by rw[e];exact XZ _ Xh))) (h a b e)
  rw[e]at hz;rcases XR.mp hz with hz | hz
  ·exact Srt.zdr _ _ _ (k.top a b e z hz) hb
  ·rw[Xv.mp hz];exact hb
 refine⟨?_,λz hz=>?_,by rw[Xm,Ya];have:=k.le;lia,λa b e z hz=>?_⟩
 ·rw[List.nodup_append];refine⟨k.nd,XX.mpr ⟨YD,YQ⟩,λa ha b hb e=>?_⟩;have:=up a ha;rw[e,Xv.mp hb,Srt.zhw]at this;cases this
 ·rw[<- take_snoc hr];rcases XR.mp hz with hz | hz
  ·exact YL _ (k.mem z hz)
  ·exact XZ _ hz
 ·obtain⟨e1,e2⟩:=List.append_inj' e rfl;rw[<- e1]at hz;cases e2;exact up z hz
theorem zgW:∀l:List Int,zaX (l.map PV.int)=true
 | []=>rfl
 | x::l=>by simp only[Xq,zaX,zcl,zgW l,Bool.and_self]
theorem zgX:∀l:List (List Int),zaX (l.map rowP)=true
 | []=>rfl
 | x::l=>by simp only[Xq,zaX,rowP,zcl,zgW x,zgX l,Bool.and_self]
theorem ziR (n:Nat)(r:List Int):PL.plain (n+1) (rowP r)=true:=by
 simp only[rowP,PL.plain,XI];intro d hd;obtain⟨x,_,rfl⟩:=XD.mp hd;cases n<;>rfl
section
variable {P:Wl}{w:Wt}{K:Xa}{mg:Str->Option Wb}{base:Heap}
theorem znY:zan ["_law_found"] ["_law_found"] (zac zeJ):=⟨rfl,rfl,rfl,by decide +kernel,rfl,by decide +kernel,by decide +kernel⟩
theorem zpE {f:We}{fd:Wr}(F:Fun K "_law_whole" "_law_whole" zeJ f fd) (B:Bl mg):FnOk P w K mg base CX0 1 f fd ["_law_found"] (spP K zfi):=by
 refine zat F znY (λds Q ⟨c,e,_⟩=>by rw[e];rfl) (λcdv A outer s H E hr=>?_);have hu:(A.deeper (WB "_law_whole" (zac zeJ) s.heap.objs.size f cdv)).units+16<Wz:=by have q:=hr.units;lia
 have nd:=znY.nd;refine⟨_,(zag (zaq (ztj (zmQ (K:=K) rfl rfl B.isi (zab (zaa 0) (zab (zrk rfl B.int bInt) zae))) (zti (zth (zmQ (K:=K) rfl rfl B.isi (zab (zaa 0) (zab (zrk rfl B.bool zvd) zae)))))))),λds Q h=>?_⟩;obtain⟨i,rfl,q⟩:=h;walk_at "pu";exact⟨true,zkk,iteT ⟨false,zis,q⟩⟩
theorem ziS:zan ["_law_shape_here","_law_told","_law_pattern","_law_letter"] ["_law_shape_here"] (zac zcm):=⟨rfl,rfl,rfl,by decide +kernel,rfl,by decide +kernel,by decide +kernel⟩
theorem zlJ {f:We}{fd:Wr}(F:Fun K "_law_letters" "_law_letters" zcm f fd) (B:Bl mg):FnOk P w K mg base CX0 1 f fd ["_law_shape_here"] (spP K zcy):=by
 refine zat F ziS (λds Q ⟨a,e,_⟩=>by rw[e];rfl) (λcdv A outer s H E hr=>?_);have hu:(A.deeper (WB "_law_letters" (zac zcm) s.heap.objs.size f cdv)).units+16<Wz:=by have q:=hr.units;lia
 have nd:=ziS.nd;refine⟨_,(zad (zah (i:=1) nd rfl (Or.inl rfl) (zbg zae))
   (zad (zaJ rfl PassesOwn.never (zaF (zaa 0)) (zai (i:=2) nd rfl (Or.inl rfl)) (zag (zaJ rfl PassesOwn.never (zrq (zaa 2)) (zai (i:=3) nd rfl (Or.inl rfl)) (zag (zbF (zir hu (zaa 3) (zaa 1)) (zag (zaN (zaH 1 (zaa 3)))) zaE)))))
   (zag (zaq (zoV rfl B.sorted (zab (zaa 1) zae)))))),λds Q h=>?_⟩
 obtain⟨sh,rfl,S,q⟩:=h;have hsz:=Wo;walk_at "pu";walk_at "auto";obtain⟨Iv,hIv⟩:∃Iv:Nat->PEnv->Prop,∀i ρ,Iv i ρ↔∃(zs:List Str) (v1 v2:Option (PV×Bool)),ρ=[some (PV.lst (sh.map ltsP),false),some (PV.lst (zs.map PV.str),true),v1,v2]/\zs.Nodup/\(∀l,l∈zs↔∃p∈sh.take i,l∈p):=⟨_,λ_ _=>Iff.rfl⟩;refine⟨Iv,(hIv _ _).mpr ⟨[],none,none,rfl,YQ,λl=>by simp⟩,?_,?_⟩
 ·intro i d ρ hd hI;obtain⟨zs,v1,v2,rfl,hn,hm⟩:=(hIv _ _).mp hI;rw[Xl]at hd;cases hp:sh[i]? with
  | none=>rw[hp]at hd;cases hd
  | some p=>
   rw[hp]at hd;cases hd;have htk:∀l:Str,(∃q∈sh.take (i+1),l∈q)↔(∃q∈sh.take i,l∈q)\/l∈p:=λl=>by
    rw[<- take_snoc hp];constructor
    ·rintro⟨q,h1,h2⟩;rcases XR.mp h1 with h1 | h1
     ·exact .inl ⟨q,h1,h2⟩
     ·rw[Xv.mp h1]at h2;exact .inr h2
    ·rintro(⟨q,h1,h2⟩ | h)
     ·exact⟨q,YL _ h1,h2⟩
     ·exact⟨p,XZ _ Xh,h⟩
   walk_at "go";obtain⟨Iw,hIw⟩:∃Iw:Nat->PEnv->Prop,∀j ρ,Iw j ρ↔∃(ys:List Str) (v3:Option (PV×Bool)),ρ=[some (PV.lst (sh.map ltsP),false),some (PV.lst (ys.map PV.str),true),some (PV.tup (p.map PV.str),false),v3]/\ys.Nodup/\(∀l,l∈ys↔(∃q∈sh.take i,l∈q)\/l∈p.take j):=⟨_,λ_ _=>Iff.rfl⟩;refine⟨Iw,(hIw _ _).mpr ⟨zs,v2,rfl,hn,λl=>by rw[hm l,List.take_zero];simp⟩,?_,?_⟩
   ·intro j d ρ hd hI;obtain⟨ys,v3,rfl,hn2,hm2⟩:=(hIw _ _).mp hI;rw[Xl]at hd;cases hx:p[j]? with
    | none=>rw[hx]at hd;cases hd
    | some x=>
     rw[hx]at hd;cases hd;have hyl:=S.six ys hn2 λl hl=>by
      rcases(hm2 l).mp hl with ⟨q,h1,h2⟩ | h
      ·exact⟨q,YM h1,h2⟩
      ·exact⟨p,Xu hp,YM h⟩
     walk_at "go";refine⟨zfa _ _,ite2 (λe=>?_) (λe=>?_)⟩
     ·walk_at "go";have hx2:x∉ys:=λz=>e (zfs.mpr z);refine⟨by rw[Xb];lia,(hIw _ _).mpr ⟨ys++[x],some (PV.str x,false),by rw[Xn];rfl,?_,λl=>?_⟩⟩
      ·rw[List.nodup_append];exact⟨hn2,XX.mpr ⟨YD,YQ⟩,λa ha b hb z=>hx2 (by rw[<- Xv.mp hb,<- z];exact ha)⟩
      ·rw[<- take_snoc hx,XR,XR,hm2 l,or_assoc]
     ·walk_at "go";have hx2:x∈ys:=zfs.mp (Decidable.not_not.mp e);refine(hIw _ _).mpr ⟨ys,some (PV.str x,false),rfl,hn2,λl=>?_⟩;rw[<- take_snoc hx,XR,<- or_assoc,<- hm2 l,Xv];exact⟨.inl,λz=>z.elim id λy=>y▸hx2⟩
   ·intro ρ hI;obtain⟨ys,v3,rfl,hn2,hm2⟩:=(hIw _ _).mp hI;rw[Xb,List.take_length]at hm2;exact(hIv _ _).mpr ⟨ys,_,v3,rfl,hn2,λl=>(hm2 l).trans (htk l).symm⟩
 ·intro ρ hI;obtain⟨zs,v1,v2,rfl,hn,hm⟩:=(hIv _ _).mp hI;rw[Xb,List.take_length]at hm;have hzl:=S.six zs hn λl hl=>(hm l).mp hl;walk_at "go";exact⟨zs,rfl,by lia,λys hy hs=>q ys ⟨hy.nodup_iff.mpr hn,λl=>(hy.mem_iff).trans (hm l),hs⟩⟩
theorem znZ:zan ["base","exponent","product","turn"] ["base","exponent"] (zac zeH):=⟨rfl,rfl,rfl,by decide +kernel,rfl,by decide +kernel,by decide +kernel⟩
theorem zpF {f:We}{fd:Wr}(F:Fun K "power" "power" zeH f fd) (B:Bl mg):FnOk P w K mg base CX0 1 f fd ["base","exponent"] (spP K zeN):=by
 refine zat F znZ (λds Q ⟨a,b,e,_⟩=>by rw[e];rfl) (λcdv A outer s H E hr=>?_);have hu:(A.deeper (WB "power" (zac zeH) s.heap.objs.size f cdv)).units+16<Wz:=by have q:=hr.units;lia
 have nd:=znZ.nd;refine⟨_,(zad (zah (i:=2) nd rfl (Or.inl rfl) zaf)
   (zad (zaJ rfl PassesOwn.never (zaL rfl B.range (zab (zaa 1) zae)) (zai (i:=3) nd rfl (Or.inl rfl)) (zag (zah (i:=2) nd rfl (Or.inl rfl) (zbO (zaa 2) (zaa 0)))))
   (zag (zaq (zaa 2))))),λds Q h=>?_⟩
 obtain⟨b,e,rfl,hb,he,q⟩:=h;walk_at "pu";walk_at "go";rw[Yc];obtain⟨Iv,hIv⟩:∃Iv:Nat->PEnv->Prop,∀i ρ,Iv i ρ↔∃k1:Option (PV×Bool),ρ=[some (PV.int b,false),some (PV.int e,false),some (PV.int ((b ^ i:Nat):Int),false),k1]:=⟨_,λ_ _=>Iff.rfl⟩;refine⟨by lia,by lia,Iv,(hIv _ _).mpr ⟨_,rfl⟩,?_,?_⟩
 ·intro i d ρ hd hI;obtain⟨k1,rfl⟩:=(hIv _ _).mp hI;walk_at "go";have e:((b ^ i:Nat):Int)*(b:Int)=((b ^ (i+1):Nat):Int):=by rw[YF,Int.natCast_mul]
  rw[e];exact⟨.inr ⟨by lia,by lia⟩,(hIv _ _).mpr ⟨_,rfl⟩⟩
 ·intro ρ hI;obtain⟨k1,rfl⟩:=(hIv _ _).mp hI;rw[zbf];walk_at "go";exact q
theorem zkR:zan ["_law_number","_law_times","_law_told","_law_k"] ["_law_number","_law_times"] (zac zcW):=⟨rfl,rfl,rfl,by decide +kernel,rfl,by decide +kernel,by decide +kernel⟩
theorem zoa {f:We}{fd:Wr}(F:Fun K "_law_power" "_law_power" zcW f fd) (B:Bl mg):FnOk P w K mg base CX0 1 f fd ["_law_number","_law_times"] (spP K zdx):=by
 refine zat F zkR (λds Q ⟨a,b,e,_⟩=>by rw[e];rfl) (λcdv A outer s H E hr=>?_);have hu:(A.deeper (WB "_law_power" (zac zcW) s.heap.objs.size f cdv)).units+16<Wz:=by have q:=hr.units;lia
 have nd:=zkR.nd;refine⟨_,(zad (zah (i:=2) nd rfl (Or.inl rfl) zaf)
   (zad (zaJ rfl PassesOwn.never (zaL rfl B.range (zab (zaa 1) zae)) (zai (i:=3) nd rfl (Or.inl rfl)) (zag (zah (i:=2) nd rfl (Or.inl rfl) (zbO (zaa 2) (zaa 0)))))
   (zag (zaq (zaa 2))))),λds Q h=>?_⟩
 obtain⟨b,e,rfl,hb,he,q⟩:=h;walk_at "pu";walk_at "go";rw[Yc];obtain⟨Iv,hIv⟩:∃Iv:Nat->PEnv->Prop,∀i ρ,Iv i ρ↔∃k1:Option (PV×Bool),ρ=[some (PV.int b,false),some (PV.int e,false),some (PV.int ((b ^ i:Nat):Int),false),k1]:=⟨_,λ_ _=>Iff.rfl⟩;refine⟨by lia,by lia,Iv,(hIv _ _).mpr ⟨_,rfl⟩,?_,?_⟩
 ·intro i d ρ hd hI;obtain⟨k1,rfl⟩:=(hIv _ _).mp hI;walk_at "go";have e:((b ^ i:Nat):Int)*(b:Int)=((b ^ (i+1):Nat):Int):=by rw[YF,Int.natCast_mul]
  rw[e];exact⟨.inr ⟨by lia,by lia⟩,(hIv _ _).mpr ⟨_,rfl⟩⟩
 ·intro ρ hI;obtain⟨k1,rfl⟩:=(hIv _ _).mp hI;rw[zbf];walk_at "go";exact q
theorem zqy:zan ["_law_cell","_law_first"] ["_law_cell"] (zac zhE):=⟨rfl,rfl,rfl,by decide +kernel,rfl,by decide +kernel,by decide +kernel⟩
theorem zsi {f fM:We}{fd fdM:Wr}(F:Fun K "_law_cell_pool" "_law_cell_pool" zhE f fd) (Mixed:Fx K mg "_law_mixed" zbY ["_law_cell","_law_k"] fM fdM) (B:Bl mg):FnOk P w K mg base CX0 2 f fd ["_law_cell"] (spP K ziQ):=by
 have GMixed:FnOk P w K mg base CX0 1 fM fdM ["_law_cell","_law_k"] (spP K zbl):=zcZ Mixed.fn B;refine zat F zqy (λds Q ⟨c,e,_⟩=>by rw[e];rfl) (λcdv A outer s H E hr=>?_);have hu:(A.deeper (WB "_law_cell_pool" (zac zhE) s.heap.objs.size f cdv)).units+16<Wz:=by have q:=hr.units;lia
 have nd:=zqy.nd;refine⟨_,(zad (zah (i:=1) nd rfl (Or.inl rfl) (zik (zaK (zbO (zbO (zao GMixed zaI hr rfl Mixed.mg Mixed.fn.kp Mixed.bd (zab (zaa 0) (zab zaf zae))) (zao GMixed zaI hr rfl Mixed.mg Mixed.fn.kp Mixed.bd (zab (zaa 0) (zab zaf zae)))) (zao GMixed zaI hr rfl Mixed.mg Mixed.fn.kp Mixed.bd (zab (zaa 0) (zab zaf zae)))) (zbO zaf (zfe zaf zaf))) (zfe zaf zaf)))
   (zad (zbF (zgI (zaa 0) (zfe zaf zaf)) (zag (zah (i:=1) nd rfl (Or.inl rfl) (zik (zaK (zdd (zaa 0) zaf) (zbO zaf (zfe zaf zaf))) (zfe zaf zaf)))) zaE)
   (zad (zbF (zdG hu (zaK (zaa 0) zaf) zaf) (zag (zah (i:=1) nd rfl (Or.inl rfl) (zik zaf (zaK (zdd (zaa 0) zaf) zaf)))) zaE)
   (zag (zaq (zbg (zab (zaa 1) (zab (zbj (zbj (zaa 1) zaf) (zaK (zao GMixed zaI hr rfl Mixed.mg Mixed.fn.kp Mixed.bd (zab (zaa 0) (zab zaf zae))) zaf)) (zab (zbj (zaa 1) zaf) zae))))))))),λds Q h=>?_⟩
 obtain⟨c,rfl,q⟩:=h;walk_at "pu";have a0:=zhJ c 30;have a1:=zhK c 30;have b0:=zhJ c 31;have b1:=zhK c 31;have c0:=zhJ c 32;have c1:=zhK c 32;have p26:(10:Int) ^ Int.toNat 26=100000000000000000000000000:=by decide
 have p8:(10:Int) ^ Int.toNat 8=100000000:=by decide
 refine⟨by decide,by decide,by decide,by decide,.inl ⟨by lia,by lia⟩,by decide,by decide,.inr ⟨by lia,by lia⟩,⟨by decide,by decide,by decide⟩,.inl ⟨by decide,by decide⟩,by decide,⟨by decide,by decide,by decide⟩,?_⟩;have fin:∀x:Int,Hold (pRet (pLst (zaC (pVar 1) (zaC (pAdd (pAdd (pVar 1) (pC (PV.int 1))) (pMod (zbk zbl (zaC (pVar 0) (zaC (pC (PV.int 33)) pNil))) (pC (PV.int 5)))) (zaC (pAdd (pVar 1) (pC (PV.int 9))) pNil)))))
   {nx:=λx=>Q PV.non Kd.frz,rt:=Q,bk:=λx=>False,ct:=λx=>False } [some (PV.int c,false),some (PV.int x,false)]:=λx=>by
  walk_at "go";walk_at "auto";exact q _ _ _
 generalize mixed c 30*mixed c 31*mixed c 32 % (2*10 ^ Int.toNat 26)-10 ^ Int.toNat 26=x0;have two:∀x:Int,Hold (pSeq (pIf (tBl (t2 (pEq false) (pMod (pVar 0) (pC (PV.int 3))) (pC (PV.int 0)))) (pSet 1 (pSub (pC (PV.int 0)) (pMod (pDiv (pVar 0) (pC (PV.int 3))) (pC (PV.int 2))))) zcQ)
   (pRet (pLst (zaC (pVar 1) (zaC (pAdd (pAdd (pVar 1) (pC (PV.int 1))) (pMod (zbk zbl (zaC (pVar 0) (zaC (pC (PV.int 33)) pNil))) (pC (PV.int 5)))) (zaC (pAdd (pVar 1) (pC (PV.int 9))) pNil))))))
   {nx:=λx=>Q PV.non Kd.frz,rt:=Q,bk:=λx=>False,ct:=λx=>False } [some (PV.int c,false),some (PV.int x,false)]:=λx=>by
  walk_at "go";refine⟨by decide,ite2 (λe=>?_) (λe=>?_)⟩
  ·walk_at "go";walk_at "auto";exact q _ _ _
  ·walk_at "go";exact fin _
 walk_at "go";refine⟨⟨by decide,by decide,by decide⟩,ite2 (λe=>?_) (λe=>?_)⟩
 ·walk_at "go";refine⟨?_,⟨by decide,by decide,by decide⟩,.inl ⟨by decide,by decide⟩,by decide,⟨by decide,by decide,by decide⟩,?_⟩
  ·walk_at "side"
  exact two _
 ·walk_at "go";exact two _
theorem zob:zan ["_law_rows","_law_told","_law_row"] ["_law_rows"] (zac zeL):=⟨rfl,rfl,rfl,by decide +kernel,rfl,by decide +kernel,by decide +kernel⟩
theorem zpG {f:We}{fd:Wr}(F:Fun K "_law_lines" "_law_lines" zeL f fd) (B:Bl mg):FnOk P w K mg base CX0 1 f fd ["_law_rows"] (spP K zfj):=by
 refine zat F zob (λds Q ⟨a,e,_⟩=>by rw[e];rfl) (λcdv A outer s H E hr=>?_);have hu:(A.deeper (WB "_law_lines" (zac zeL) s.heap.objs.size f cdv)).units+16<Wz:=by have q:=hr.units;lia
 have nd:=zob.nd;refine⟨_,(zad (zah (i:=1) nd rfl (Or.inl rfl) (zbg zae))
   (zad (zaJ rfl PassesOwn.never (zaF (zpp rfl B.sorted (zab (zaa 0) zae))) (zai (i:=2) nd rfl (Or.inl rfl)) (zag (zbF (PuW.t (zfK (zdG hu (zaZ rfl B.len (zab (zaa 1) zae)) zaf) (zfJ (zgH hu (zal (zaa 1) (zff zaf)) (zaa 2))))) (zag (zaN (zaH 1 (zaa 2)))) zaE)))
   (zag (zaq (zaa 1))))),λds Q h=>?_⟩
 obtain⟨ss,rfl,hn,h64,q⟩:=h;have hsz:=Wo;walk_at "pu";walk_at "auto";refine⟨ss,rfl,hn,h64,?_⟩;have hys:=(sortI_perm ss).length_eq;have hpw:=zkt ss;have hym:∀r∈sortI ss,r∈ss:=λr hr=>(sortI_perm ss).mem_iff.mp hr;generalize sortI ss=ys at hys hpw hym ⊢;obtain⟨Iv,hIv⟩:∃Iv:Nat->PEnv->Prop,∀i ρ,Iv i ρ↔∃(zs:List (List Int)) (kv:Option (PV×Bool)),ρ=[some (PV.lst (ss.map rowP),false),some (PV.lst (zs.map rowP),true),kv]/\Kept ys zs i:=⟨_,λ_ _=>Iff.rfl⟩;refine⟨Iv,(hIv _ _).mpr ⟨[],none,rfl,.nil ys⟩,?_,?_⟩
 ·intro i d ρ hd hI;obtain⟨zs,kv,rfl,kp⟩:=(hIv _ _).mp hI;have hmem:=Xu hd;obtain⟨r,hr2,rfl⟩:=XD.mp hmem;have hyr:ys[i]? = some r:=by
   rw[Xl]at hd;cases h:ys[i]? with
   | none=>rw[h]at hd;cases hd
   | some r'=>
    rw[h]at hd;have e:r'.map PV.int=r.map PV.int:=PV.tup.inj (Option.some.inj hd);rw[List.map_inj_right (λa b z=>PV.int.inj z)]at e;rw[e]
  have hl:=kp.le;have hi:i<ss.length:=by
   have h1:=(Xe.mp hd).1;rw[Xb,hys]at h1;exact h1
  have app:(∀a b,zs=a++[b]->b≠r)->Hold (zbH (mApp 1 (pVar 2))) { nx:=Iv (i+1),rt:=Q,bk:=Hold (pRet (pVar 1)) { nx:=λx=>Q PV.non Kd.frz,rt:=Q,bk:=λx=>False,ct:=λx=>False },ct:=Iv (i+1) }
    [some (PV.lst (ss.map rowP),false),some (PV.lst (zs.map rowP),true),some (PV.tup (r.map PV.int),false)]:=λhne=>by
   walk_at "go";exact⟨by rw[Xb];lia,(hIv _ _).mpr ⟨zs++[r],some (PV.tup (r.map PV.int),false),by rw[Xn];rfl,kp.more hpw hyr hne⟩⟩
  walk_at "go";refine ite2 (λe1=>app λa b z=>by rw[z,Xb,Xm,Ya]at e1;lia) (λe1=>?_);rw[Xb]at e1;have h0:0<zs.length:=by lia
  obtain⟨z1,z2,hzz⟩:∃(a:List (List Int)) (b:List Int),zs=a++[b]:=⟨zs.dropLast,zs.getLast (List.length_pos_iff.mp h0),(List.dropLast_concat_getLast _).symm⟩;have hat:atI (zs.map rowP) (-1)=some (rowP z2):=by
   rw[hzz,Xn];exact zgZ _ _
  have hpl:∀(n:Nat) (l:List Int),(l.map PV.int).all (PL.plain n)=true:=λn l=>by
   rw[XI];intro d hd;obtain⟨x,_,rfl⟩:=XD.mp hd;cases n<;>rfl
  refine⟨_,hat,ziR 5 _,hpl _ _,ite2 (λhne=>app λa b z y=>hne (by have:=List.append_inj' (hzz.symm.trans z) rfl;cases this.2;rw[y];rfl)) (λ_=>?_)⟩;walk_at "go";exact(hIv _ _).mpr ⟨zs,some (PV.tup (r.map PV.int),false),rfl,kp.same⟩
 ·intro ρ hI;obtain⟨zs,kv,rfl,kp⟩:=(hIv _ _).mp hI;rw[Xb]at kp;walk_at "go";exact q zs kp.nd (λz h=>hym z (YM (kp.mem z h))) (by rw[<- hys];exact kp.le)
theorem zgk:zan ["_law_cells","_law_pattern","_law_pool","_law_told","_law_cell"] ["_law_cells","_law_pattern","_law_pool"] (zac zbb):=⟨rfl,rfl,rfl,by decide +kernel,rfl,by decide +kernel,by decide +kernel⟩
theorem ziT {f fM fL:We}{fd fdM fdL:Wr}(F:Fun K "_law_drawn_rows" "_law_drawn_rows" zbb f fd) (Mixed:Fx K mg "_law_mixed" zbY ["_law_cell","_law_k"] fM fdM) (Lines:Fx K mg "_law_lines" zeL ["_law_rows"] fL fdL) (B:Bl mg):FnOk P w K mg base CX0 2 f fd ["_law_cells","_law_pattern","_law_pool"] (spP K zbc):=by
 have GMixed:FnOk P w K mg base CX0 1 fM fdM ["_law_cell","_law_k"] (spP K zbl):=zcZ Mixed.fn B;have GLines:FnOk P w K mg base CX0 1 fL fdL ["_law_rows"] (spP K zfj):=zpG Lines.fn B;refine zat F zgk (λds Q ⟨a,b,x,y,z,e,_⟩=>by rw[e];rfl) (λcdv A outer s H E hr=>?_);have hu:(A.deeper (WB "_law_drawn_rows" (zac zbb) s.heap.objs.size f cdv)).units+16<Wz:=by have q:=hr.units;lia
 have nd:=zgk.nd;refine⟨_,(zad (zah (i:=3) nd rfl (Or.inl rfl) (zbg zae))
   (zad (zaJ rfl PassesOwn.never (zaF (zaa 0)) (zai (i:=4) nd rfl (Or.inr rfl)) (zag (zaN (zaH 3 (zex rfl B.tuple (zab (zbQ (N:=["_law_k","_law_pool","_law_cell"]) (k:=1) (js:=[2,4]) rfl (zdB (sup:=zac zbb) (XN:=["_law_cells","_law_pattern","_law_pool","_law_told","_law_cell"]) rfl rfl (by decide +kernel)) (by decide) (zaS (by decide)) (zaL rfl B.range (zab (zaZ rfl B.len (zab (zaa 1) zae)) zae)) ⟨λ_ _ _ _ _=>(zai (i:=0) (by show(["_law_k","_law_pool","_law_cell"]:List Str).Nodup;decide +kernel) rfl (Or.inl rfl)),λ_ _ _ _ _=>zaT,λ_ _ _ _ _=>(zal (zaa 1) (zaK (zao GMixed zaI hr rfl Mixed.mg Mixed.fn.kp Mixed.bd (zab (zaa 2) (zab (zbj zaf (zaa 0)) zae))) zaf))⟩) zae))))))
   (zag (zaq (zao GLines zlI hr rfl Lines.mg Lines.fn.kp Lines.bd (zab (zaa 3) zae)))))),λds Q h=>?_⟩
 obtain⟨cs,ls,x,y,z,rfl,h0,h1,h2,q⟩:=h;have hsz:=Wo;walk_at "pu";walk_at "auto";obtain⟨Iv,hIv⟩:∃Iv:Nat->PEnv->Prop,∀i ρ,Iv i ρ↔∃(zs:List (List Int)) (kv:Option (PV×Bool)),ρ=[some (PV.lst (cs.map PV.int),false),some (PV.tup (ls.map PV.str),false),some (PV.lst [PV.int x,PV.int y,PV.int z],false),some (PV.lst (zs.map rowP),true),kv]/\(∀r∈zs,r.length=ls.length)/\zs.length=i:=⟨_,λ_ _=>Iff.rfl⟩;refine⟨Iv,(hIv _ _).mpr ⟨[],none,rfl,λ_ h=>(nomatch h),rfl⟩,?_,?_⟩
 ·intro i d ρ hd hI;obtain⟨zs,kv,rfl,hz,hl⟩:=(hIv _ _).mp hI;rw[Xl]at hd;cases hc:cs[i]? with
  | none=>rw[hc]at hd;cases hd
  | some c=>
   rw[hc]at hd;cases hd;have hi:=(Xe.mp hc).1;walk_at "go";rw[Xb,Xb];refine⟨by lia,by lia,by lia,by rw[zbf];lia,λi out=>∃l:List Int,out=l.map PV.int/\l.length=i,⟨[],rfl,rfl⟩,?_,?_⟩
   ·rintro k d out hd hk ⟨l,rfl,hlk⟩;obtain⟨hk2,rfl⟩:=zbV hd;have hk3:k<ls.length:=by lia
    have n1:=Yq (mixed c (40+(0+(k:Int)))) (show(3:Int)≠0 by decide);have n2:=Yh (mixed c (40+(0+(k:Int)))) (show(0:Int)<3 by decide);refine⟨_,rfl,by lia,by lia,by decide,?_⟩;generalize mixed c (40+(0+(k:Int))) % 3=m at n1 n2 ⊢;have hm:m=0\/m=1\/m=2:=by lia
    rcases hm with rfl | rfl | rfl
    ·exact⟨_,rfl,l++[x],by rw[Xn];rfl,by rw[Xm,hlk];rfl⟩
    ·exact⟨_,rfl,l++[y],by rw[Xn];rfl,by rw[Xm,hlk];rfl⟩
    ·exact⟨_,rfl,l++[z],by rw[Xn];rfl,by rw[Xm,hlk];rfl⟩
   ·rintro out - ⟨l,rfl,hlk⟩;rw[zbf]at hlk;refine(hIv _ _).mpr ⟨zs++[l],some (PV.int c,false),by rw[Xn];rfl,λr hr=>?_,by rw[Xm,hl];rfl⟩;rcases XR.mp hr with hr | hr
    ·exact hz r hr
    ·rw[Xv]at hr;rw[hr];lia
 ·intro ρ hI;obtain⟨zs,kv,rfl,hz,hl⟩:=(hIv _ _).mp hI;rw[Xb]at hl;walk_at "go";refine⟨zs,rfl,λr hr e=>h0 (Yf.mp ?_),by lia,λws hwn hw hwl=>⟨zgX ws,q ws hwn (λr hr=>hz r (hw r hr)) (by lia)⟩⟩;rw[<- hz r hr,e];rfl
end
open M41 (Pb Gd tb bt sm)
def wI (p:Pb)(h:List Nat)(k:Nat):Int:=tb p h p.m (p.n+k) / (gP p h:Int)
theorem ziU (p:Pb)(h:List Nat):wsI p h=(Xz p.m).map (wI p h):=by unfold wsI zcD;rw[List.map_map];rfl
theorem zpH {g x:Int}{n:Nat}(hg:g=n)(hx:0<=x)(hd:n ∣ x.toNat):x=g*(x / g):=by
 obtain⟨k,hk⟩:=hd;have e:x=(n:Int)*(k:Int):=by rw[<- Int.natCast_mul,<- hk];lia
 rw[hg,Int.mul_ediv_cancel' ⟨(k:Int),e⟩]
def dN (p:Pb)(h:List Nat):Nat:=(dI p h).toNat
def wN (p:Pb)(h:List Nat)(k:Nat):Nat:=(wI p h k).toNat
def sN:Nat->(Nat->Nat)->Nat
 | 0,_=>0
 | n+1,f=>sN n f+f n
theorem zoc {f:Nat->Nat}{g:Nat->Int}:∀ {n:Nat},(∀k,k<n->((f k:Nat):Int)=g k)->((sN n f:Nat):Int)=sm n g
 | 0,_=>rfl
 | n+1,h=>by
  show((sN n f+f n:Nat):Int)=sm n g+g n;rw[Int.natCast_add,zoc λk hk=>h k (XJ hk),h n (XS n)]
structure Tells (p:Pb)(h:List Nat):Prop where
 d:((dN p h:Nat):Int)=dI p h
 w:∀k,k<p.m->((wN p h k:Nat):Int)=wI p h k
 one:1<=dN p h
 top:dN p h<=120
 wtop:∀k,k<p.m->wN p h k<=120
 cover:∀c,c<p.n->dI p h<=sm p.m λk=>p.col c k*wI p h k
theorem tells {p:Pb}{h:List Nat}(D:Done p h)(S:Sm p)(h4:p.m<=4):Tells p h:=by
 have G:=D.gd;have lo:=zqr G S D.nn;have g0:0<(gP p h:Int):=by have:=zqs G;lia
 have mem:∀x∈allI p h,x=(gP p h:Int)*(x / (gP p h:Int)):=λx hx=>zpH rfl (lo x hx).1 (zhI hx);have hb:bt p h=(gP p h:Int)*dI p h:=mem (bt p h) Xh;have mw:∀k,k<p.m->tb p h p.m (p.n+k)∈allI p h:=λk hk=>Xi _ (YL _ (XD.mpr ⟨k,List.mem_range.mpr hk,rfl⟩));have hw:∀k,k<p.m->tb p h p.m (p.n+k)=(gP p h:Int)*wI p h k:=λk hk=>mem _ (mw k hk);have w0:∀k,k<p.m->0<=wI p h k:=λk hk=>Int.ediv_nonneg (lo _ (mw k hk)).1 (Int.le_of_lt g0);have bp:=G.pos;have d1:0<dI p h:=by
  have z:0<dI p h*(gP p h:Int):=by rw[YE,<- hb];exact bp
  exact Int.pos_of_mul_pos_left z g0
 have bs:bt p h<=120:=by
  have h1:=S.m1;have e:=M41.zcU (p:=p) (h:=h) (k:=0) (r:=0) (by lia) (by lia);rw[if_pos rfl]at e;rw[<- e];exact G.zqj h4 (by lia) (by have:=G.lt 0 (by lia);lia)
 have dt:dI p h<=120:=Int.le_trans (Int.ediv_le_self _ (Int.le_of_lt bp)) bs;have wt:∀k,k<p.m->wI p h k<=120:=λk hk=>Int.le_trans (Int.ediv_le_self _ (lo _ (mw k hk)).1) (G.zqj h4 (Xf _) (by lia));refine⟨Int.toNat_of_nonneg (by lia),λk hk=>Int.toNat_of_nonneg (w0 k hk),by unfold dN;lia,by unfold dN;lia,λk hk=>by have:=wt k hk;unfold wN;lia,λc hc=>?_⟩;have e:=M41.cover hc (D.nn c (by lia));rw[M41.zbi (g:=λk=>(gP p h:Int)*(p.col c k*wI p h k)) λk hk=>by rw[hw k hk,Int.mul_left_comm],<- M41.znt,hb]at e;exact Int.le_of_mul_le_mul_left e g0
def KsN (w:Nat->Nat):Nat->List Nat
 | 0=>[]
 | m+1=>KsN w m++List.replicate (w m) m
def pw (f w:Nat->Nat):Nat->Nat
 | 0=>1
 | m+1=>pw f w m*f m ^ w m
theorem zqz (f:Nat->Nat)(k:Nat):∀n,M43.pd (List.replicate n k) f=f k ^ n
 | 0=>rfl
 | n+1=>by
  show f k*M43.pd (List.replicate n k) f=_;rw[zqz f k n,YF,Yv]
theorem zus (f w:Nat->Nat):∀m,M43.pd (KsN w m) f=pw f w m
 | 0=>rfl
 | m+1=>by
  show M43.pd (KsN w m++List.replicate (w m) m) f=pw f w m*f m ^ w m;rw[M43.znD,zus f w m,zqz]
theorem zod {w:Nat->Nat}{k:Nat}:∀ {m},k∈KsN w m->k<m
 | 0,h=>nomatch h
 | m+1,h=>by
  rcases XR.mp h with h | h
  ·exact XJ (zod h)
  ·rw[(List.mem_replicate.mp h).2];exact XS m
theorem zqA (w:Nat->Nat)(q:Nat->Bool):∀m,((KsN w m).filter q).length=sN m λk=>if q k=true then w k else 0
 | 0=>rfl
 | m+1=>by
  show((KsN w m++List.replicate (w m) m).filter q).length=(sN m λk=>if q k=true then w k else 0)+if q m=true then w m else 0
  rw[List.filter_append,Xm,zqA w q m,List.filter_replicate];by_cases z:q m=true
  ·rw[if_pos z,if_pos z,List.length_replicate]
  ·rw[if_neg z,if_neg z,YB]
theorem zpI {f w:Nat->Nat}:∀ {m},(∀k,k<m->f k<=5/\w k<=120)->pw f w m<=2 ^ (360*m)
 | 0,_=>Xf _
 | m+1,h=>by
  have ih:=zpI (m:=m) λk hk=>h k (XJ hk);have h0:=h m (XS m);have h1:f m ^ w m<=2 ^ 360:=by
   refine Xx (Nat.pow_le_pow_left (Xx h0.1 (show 5<=2 ^ 3 by decide)) _) ?_;rw[<- Nat.pow_mul];exact Nat.pow_le_pow_right (by decide) (by lia)
  show pw f w m*f m ^ w m<=_;rw[Nat.mul_succ,Nat.pow_add];exact Nat.mul_le_mul ih h1
theorem zoe {m e:Nat}(hm:m<=4)(h:e<=2 ^ (360*m)):e<2 ^ 4000:=Nat.lt_of_le_of_lt (Xx h (Nat.pow_le_pow_right (by decide) (Nat.mul_le_mul_left 360 hm))) (Nat.pow_lt_pow_right (by decide) (by decide))
abbrev Asc:=List (Str×Int)
def dP (D:Asc):PV:=.dK (D.map λe=>Sum.inr e.1) (D.map λe=>PV.int e.2)
def zaP:Asc->Asc->Option Asc
 | D,[]=>some D
 | D,e::r=>match D.lookup e.1 with
  | some v=>if v=e.2 then zaP D r else none
  | none=>zaP (D++[e]) r
theorem zeO:∀(D a b:Asc),zaP D (a++b)=(zaP D a).bind λD'=>zaP D' b
 | D,[],b=>rfl
 | D,e::a,b=>by
  show(match D.lookup e.1 with | some v=>if v=e.2 then zaP D (a++b) else none | none=>zaP (D++[e]) (a++b))=(match D.lookup e.1 with | some v=>if v=e.2 then zaP D a else none | none=>zaP (D++[e]) a).bind _
  cases D.lookup e.1 with
  | none=>exact zeO _ a b
  | some v=>
   by_cases h:v=e.2
   ·simp only[if_pos h];exact zeO _ a b
   ·simp only[if_neg h];rfl
def zda:PF:=λds Q=>∃(D:Asc)(p:List Str)(r:List Int),ds=[dP D,ltsP p,.tup (r.map PV.int)]/\(D.map (·.1)).Nodup/\p.length=r.length/\p.length<=1000/\D.length<=1000/\(∀D',zaP D (p.zip r)=some D'->Q (dP D') .new)/\(zaP D (p.zip r)=none->Q .non .frz)
theorem zjE:zaY zda:=λds Q Q' m ⟨a,b,c,e,h1,h2,h3,h4,q1,q2⟩=>⟨a,b,c,e,h1,h2,h3,h4,λD h=>m _ _ (q1 D h),λh=>m _ _ (q2 h)⟩
theorem zpJ {l:Str}:∀(D:Asc),dgP (D.map λe=>(Sum.inr e.1:Key)) (D.map λe=>PV.int e.2) (.inr l)=(D.lookup l).map PV.int
 | []=>rfl
 | e::D=>by
  have ih:=zpJ (l:=l) D;obtain⟨k,v⟩:=e;by_cases hk:k=l
  ·subst hk;simp[dgP]
  ·simp only[dgP,Xq,Yb,XT,YC]at ih ⊢;rw[show(l == k)=false by rw[beq_eq_false_iff_ne];exact λz=>hk z.symm];simpa[hk]using ih
theorem zgl {l:Str}{v:Int}:∀ {D:Asc},D.lookup l=some v->(l,v)∈D
 | [],h=>nomatch h
 | (k,x)::D,h=>by
  rw[XT]at h;cases hk:(l == k)with
  | true=>rw[hk]at h;cases h;rw[eq_of_beq hk];exact Xh ..
  | false=>rw[hk]at h;exact Xi _ (zgl h)
theorem zeP {l:Str}:∀ {D:Asc},l∈D.map (·.1)->∃v,D.lookup l=some v
 | [],h=>nomatch h
 | (k,x)::D,h=>by
  rw[XT];cases hk:(l == k)with
  | true=>exact⟨x,rfl⟩
  | false=>
   rw[Xq,Xo]at h;exact zeP (h.resolve_left λz=>by rw[show(l == k)=true from beq_iff_eq.mpr z]at hk;cases hk)
theorem zqB {l:Str}(D:Asc):hasK (D.map λe=>(Sum.inr e.1:Key)) (.inr l)=(D.lookup l).isSome:=by
 cases h:D.lookup l with
 | some v=>
  have:=zgl h;unfold hasK;rw[List.any_eq_true.mpr];rfl;exact⟨.inr l,XD.mpr ⟨(l,v),this,rfl⟩,decide_eq_true rfl⟩
 | none=>
  cases hk:hasK (D.map λe=>(Sum.inr e.1:Key)) (.inr l)with
  | false=>rfl
  | true=>
   unfold hasK at hk;obtain⟨k,h1,h2⟩:=List.any_eq_true.mp hk;have h3:=of_decide_eq_true h2;subst h3;obtain⟨e,h4,h5⟩:=XD.mp h1;cases h5;obtain⟨v,hv⟩:=zeP (D:=D) (l:=e.1) (XD.mpr ⟨e,h4,rfl⟩);rw[hv]at h;cases h
theorem zkS {l:Str}{v:Int}:∀ {D:Asc},(D.map (·.1)).Nodup->(∀x,(l,x)∈D->x=v)->putD (D.map λe=>(Sum.inr e.1:Key)) (D.map λe=>PV.int e.2) (.inr l) (.int v)=D.map λe=>PV.int e.2
 | [],_,_=>rfl
 | (k,x)::D,hn,h=>by
  rw[Xq,XX]at hn;have ih:=zkS (l:=l) (v:=v) hn.2 λy hy=>h y (Xi _ hy);unfold putD at ih ⊢;simp only[Xq,Yb];rw[ih]
  congr 1
  by_cases hk:k=l
  ·subst hk;rw[if_pos rfl,h x (Xh ..)]
  ·rw[if_neg (λz=>hk (by injection z))]
theorem ziV {l:Str}{v:Int}:∀ {D:Asc},(D.map (·.1)).Nodup->D.lookup l=some v->∀x,(l,x)∈D->x=v
 | [],_,h=>nomatch h
 | (k,y)::D,hn,h=>λx hx=>by
  rw[Xq,XX]at hn;rw[XT]at h;cases hk:(l == k)with
  | true=>
   rw[hk]at h;cases h;have:=eq_of_beq hk;subst this;rcases Xo.mp hx with z | z
   ·cases z;rfl
   ·exact absurd (XD.mpr ⟨_,z,rfl⟩) hn.1
  | false=>
   rw[hk]at h;rcases Xo.mp hx with z | z
   ·cases z;simp at hk
   ·exact ziV hn.2 h x z
section
variable {P:Wl}{w:Wt}{K:Xa}{mg:Str->Option Wb}{base:Heap}
theorem zkT:zan ["_law_found","_law_pattern","_law_row","_law_told","_law_letter","_law_cell"] ["_law_found","_law_pattern","_law_row"] (zac zcV):=⟨rfl,rfl,rfl,by decide +kernel,rfl,by decide +kernel,by decide +kernel⟩
theorem zof {f:We}{fd:Wr}(F:Fun K "_law_joined" "_law_joined" zcV f fd) (B:Bl mg):FnOk P w K mg base CX0 1 f fd ["_law_found","_law_pattern","_law_row"] (spP K zda):=by
 refine zat F zkT (λds Q ⟨a,b,c,e,_⟩=>by rw[e];rfl) (λcdv A outer s H E hr=>?_);have hu:(A.deeper (WB "_law_joined" (zac zcV) s.heap.objs.size f cdv)).units+16<Wz:=by have q:=hr.units;lia
 have nd:=zkT.nd;refine⟨_,(zad (zah (i:=3) nd rfl (Or.inl rfl) (znd rfl B.dict (zab (zaa 0) zae)))
   (zad (zaJ rfl PassesOwn.never (znn rfl B.zip (zab (zaa 1) (zab (zaa 2) zae))) (zdk (n:=2) rfl (zaA (zai (i:=4) nd rfl (Or.inl rfl)) (zaA (zai (i:=5) nd rfl (Or.inl rfl)) zcv))) (zad (zbF (PuW.t (zhk (zrL (hu1 hu) (zaa 4) (zaa 3)) (zfo (zgH hu (zmU (hu1 hu) (zaa 3) (zaa 4)) (zaa 5))))) (zag (zaq zfG)) zaE)
   (zag (zmX 3 (hu1 hu) (zaa 4) (zaa 5)))))
   (zag (zaq (zaa 3))))),λds Q h=>?_⟩
 obtain⟨D,p,r,rfl,hnd,hpr,hp,hD,q1,q2⟩:=h;have hsz:=Wo;walk_at "pu";walk_at "auto";have hzl:(p.zip r).length=p.length:=by rw[Yp];lia
 obtain⟨Iv,hIv⟩:∃Iv:Nat->PEnv->Prop,∀i ρ,Iv i ρ↔∃(D':Asc) (v1 v2:Option (PV×Bool)),ρ=[some (PV.dK (D.map λe=>Sum.inr e.1) (D.map λe=>PV.int e.2),false),some (PV.tup (p.map PV.str),false),some (PV.tup (r.map PV.int),false),some (PV.dK (D'.map λe=>Sum.inr e.1) (D'.map λe=>PV.int e.2),true),v1,v2]/\zaP D ((p.zip r).take i)=some D'/\(D'.map (·.1)).Nodup/\D'.length<=D.length+i:=⟨_,λ_ _=>Iff.rfl⟩;refine⟨by rw[Xb,Xb];lia,Iv,(hIv _ _).mpr ⟨D,none,none,rfl,rfl,hnd,Xf _⟩,?_,?_⟩
 ·intro i d ρ hd hI;obtain⟨D',v1,v2,rfl,hj,hn',hl'⟩:=(hIv _ _).mp hI;obtain⟨x,y,hx,hy,rfl⟩:=zcS hd;rw[Xl]at hx hy;cases hp1:p[i]? with
  | none=>rw[hp1]at hx;cases hx
  | some l=>
  cases hr1:r[i]? with
  | none=>rw[hr1]at hy;cases hy
  | some c=>
   rw[hp1]at hx;cases hx;rw[hr1]at hy;cases hy;have hil:=(Xe.mp hp1).1;have hz:(p.zip r)[i]? = some (l,c):=Yn.mpr ⟨hp1,hr1⟩;have htk:zaP D ((p.zip r).take (i+1))=zaP D' [(l,c)]:=by
    rw[(take_snoc hz).symm,zeO,hj];rfl
   have hone:zaP D' [(l,c)]=match D'.lookup l with | some v=>if v=c then some D' else none | none=>some (D'++[(l,c)]):=rfl
   refine⟨_,rfl,rfl,_,_,rfl,_,_,rfl,rfl,?_⟩;walk_at "go";refine⟨.inr l,rfl,?_⟩;rw[zpJ];cases hlk:D'.lookup l with
   | none=>
    rw[hlk]at hone;rw[if_neg (by decide)];walk_at "go";refine⟨rfl,_,_,rfl,by rw[Xb];lia,.inr l,rfl,?_⟩;rw[zqB,hlk,if_neg (by decide)];refine(hIv _ _).mpr ⟨D'++[(l,c)],_,_,by rw[Xn,Xn];rfl,htk.trans hone,?_,by rw[Xm,Ya];lia⟩;rw[Xn,List.nodup_append];refine⟨hn',XX.mpr ⟨YD,YQ⟩,λa ha b hb e=>?_⟩;rw[Yz,Xv]at hb;obtain⟨v,hv⟩:=zeP ha;rw[e,hb]at hv;rw[hlk]at hv;cases hv
   | some v=>
    rw[hlk]at hone;rw[if_pos (by rfl)];refine⟨.inr l,rfl,PV.int v,by rw[zpJ,hlk];rfl,rfl,?_⟩;by_cases hvc:v=c
    ·subst hvc;rw[if_neg (λz=>z rfl)];walk_at "go";refine⟨rfl,_,_,rfl,by rw[Xb];lia,.inr l,rfl,?_⟩;rw[zqB,hlk,if_pos (by rfl),zkS hn' (ziV hn' hlk)];exact(hIv _ _).mpr ⟨D',_,_,rfl,htk.trans (hone.trans (if_pos rfl)),hn',by lia⟩
    ·rw[if_pos (λz=>hvc (by injection z))];walk_at "go";refine q2 ?_;rw[<- List.take_append_drop (i+1) (p.zip r),zeO,htk,hone];show((if v=c then some D' else none).bind _)=none
     rw[if_neg hvc];rfl
 ·intro ρ hI;obtain⟨D',v1,v2,rfl,hj,hn',hl'⟩:=(hIv _ _).mp hI;walk_at "go";rw[zcw,Xb,Xb,<- hpr,Nat.min_self,XC (by lia)]at hj;exact q1 D' hj
end
theorem zcM:∀(a D D':Asc),zaP D a=some D'->(D.map (·.1)).Nodup->(D'.map (·.1)).Nodup/\D'.length<=D.length+a.length/\∀l,l∈D'.map (·.1)↔l∈D.map (·.1)\/l∈a.map (·.1)
 | [],D,D',h,hn=>by
  cases h;exact⟨hn,Xf _,λl=>by simp⟩
 | e::a,D,D',h,hn=>by
  have h':(match D.lookup e.1 with | some v=>if v=e.2 then zaP D a else none | none=>zaP (D++[e]) a)=some D':=h
  cases hl:D.lookup e.1 with
  | none=>
   rw[hl]at h';have hn2:((D++[e]).map (·.1)).Nodup:=by
    rw[Xn,List.nodup_append];refine⟨hn,XX.mpr ⟨YD,YQ⟩,λx hx b hb z=>?_⟩;rw[Yz,Xv]at hb;obtain⟨v,hv⟩:=zeP hx;rw[z,hb,hl]at hv;cases hv
   obtain⟨q1,q2,q3⟩:=zcM a _ _ h' hn2;refine⟨q1,by rw[Xm,Ya]at q2;rw[XE];lia,λl=>?_⟩;rw[q3 l,Xn,XR,Yz,Xv,Xq,Xo,or_assoc]
  | some v=>
   rw[hl]at h';by_cases hv:v=e.2
   ·rw[show(match (some v:Option Int)with | some v=>if v=e.2 then zaP D a else none | none=>zaP (D++[e]) a)=(if v=e.2 then zaP D a else none) from rfl,if_pos hv]at h'
    obtain⟨q1,q2,q3⟩:=zcM a _ _ h' hn;refine⟨q1,by rw[XE];lia,λl=>?_⟩;rw[q3 l,Xq,Xo];have hm:e.1∈D.map (·.1):=XD.mpr ⟨_,zgl hl,rfl⟩;constructor
    ·rintro(z | z)
     ·exact .inl z
     ·exact .inr (.inr z)
    ·rintro(z | z | z)
     ·exact .inl z
     ·exact .inl (z▸hm)
     ·exact .inr z
   ·rw[show(match (some v:Option Int)with | some v=>if v=e.2 then zaP D a else none | none=>zaP (D++[e]) a)=(if v=e.2 then zaP D a else none) from rfl,if_neg hv]at h'
    cases h'
theorem zhN {α β:Type}{g:α->List β}{b:Nat}:∀(l:List α),(∀x∈l,(g x).length<=b)->(l.flatMap g).length<=l.length*b
 | [],_=>XH _
 | x::l,h=>by
  have h1:=h x (Xh ..);have h2:=zhN (g:=g) (b:=b) l λy hy=>h y (Xi _ hy);rw[List.flatMap_cons,Xm,XE,Nat.succ_mul];lia
def tabP (t:List (List Int)):PV:=.lst (t.map rowP)
structure Fits (sh:List (List Str))(ts:List (List (List Int))):Prop where
 len:ts.length<=sh.length
 few:∀t∈ts,t.length<=5
 nd:∀t∈ts,t.Nodup
 row:∀(i:Nat) (t:List (List Int)),ts[i]? = some t->∀r∈t,r.length=(sh.getD i []).length
def zgm (s:List Asc)(e:List Str×List (List Int)):List Asc:=s.flatMap λD=>e.2.filterMap λr=>zaP D (e.1.zip r)
def ansL (sh:List (List Str))(ts:List (List (List Int))):List Asc:=(sh.zip ts).foldl zgm [[]]
def zcz:PF:=λds Q=>∃(sh:List (List Str))(ts:List (List (List Int))),ds=[shpP sh,.lst (ts.map tabP)]/\Fits sh ts/\ts.length=sh.length/\Shp sh/\sh.length<=4/\∀zs:List PV,zs.length=(ansL sh ts).length->Q (.lst zs) .new
theorem ziW:zaY zcz:=λds Q Q' m ⟨a,b,e,h1,h2,h3,h4,q⟩=>⟨a,b,e,h1,h2,h3,h4,λz h=>m _ _ (q z h)⟩
structure Upto (sh:List (List Str))(ts:List (List (List Int)))(i:Nat)(s:List Asc):Prop where
 eq:s=((sh.zip ts).take i).foldl zgm [[]]
 few:s.length<=5 ^ i
 nd:∀D∈s,(D.map (·.1)).Nodup
 len:∀D∈s,D.length<=4*i
 keys:∀D∈s,∀p∈sh.take i,∀l∈p,l∈D.map (·.1)
theorem Upto.zero (sh:List (List Str))(ts:List (List (List Int))):Upto sh ts 0 [[]]:=
 ⟨rfl,Xf _,λD h=>by rw[Xv.mp h];exact YQ,λD h=>by rw[Xv.mp h];exact Xf _,λD h p hp=>by rw[List.take_zero]at hp;cases hp⟩
theorem Upto.step {sh:List (List Str)}{ts:List (List (List Int))}{i:Nat}{s:List Asc}{p:List Str}{t:List (List Int)}(U:Upto sh ts i s)(hp:sh[i]? = some p)(ht:ts[i]? = some t)(h4:p.length<=4)(ht4:t.length<=5)(hr:∀r∈t,r.length=p.length):Upto sh ts (i+1) (zgm s (p,t)):=by
 have mem:∀D'∈zgm s (p,t),∃D∈s,∃r∈t,zaP D (p.zip r)=some D':=λD' h=>by
  obtain⟨D,h1,h2⟩:=List.mem_flatMap.mp h;obtain⟨r,h3,h5⟩:=List.mem_filterMap.mp h2;exact⟨D,h1,r,h3,h5⟩
 have hzl:∀r∈t,(p.zip r).length<=4:=λr h=>by rw[Yp];lia
 refine⟨?_,?_,λD' h=>?_,λD' h=>?_,λD' h q hq l hl=>?_⟩
 ·rw[(take_snoc (show(sh.zip ts)[i]? = some (p,t) from Yn.mpr ⟨hp,ht⟩)).symm,List.foldl_append,<- U.eq];rfl
 ·refine Xx (zhN (b:=5) s λD _=>Xx (List.length_filterMap_le _ _) ht4) ?_;rw[YF];exact Nat.mul_le_mul_right 5 U.few
 ·obtain⟨D,h1,r,h2,h3⟩:=mem D' h;exact(zcM _ _ _ h3 (U.nd D h1)).1
 ·obtain⟨D,h1,r,h2,h3⟩:=mem D' h;have q1:=(zcM _ _ _ h3 (U.nd D h1)).2.1;have q2:=U.len D h1;have q3:=hzl r h2;lia
 ·obtain⟨D,h1,r,h2,h3⟩:=mem D' h;refine((zcM _ _ _ h3 (U.nd D h1)).2.2 l).mpr ?_;rw[(take_snoc hp).symm]at hq;rcases XR.mp hq with hq | hq
  ·exact .inl (U.keys D h1 q hq l hl)
  ·rw[Xv.mp hq]at hl;refine .inr ?_;have:(p.zip r).map (·.1)=p:=by rw[List.map_fst_zip (by rw[hr r h2];exact Xf _)]
   rw[this];exact hl
section
variable {P:Wl}{w:Wt}{K:Xa}{mg:Str->Option Wb}{base:Heap}
theorem ziX:zan ["_law_shape_here","_law_rows","_law_some","_law_pattern","_law_lines_here","_law_more","_law_found","_law_row","_law_told","_law_letters_here"] ["_law_shape_here","_law_rows"] (zac zbL):=⟨rfl,rfl,rfl,by decide +kernel,rfl,by decide +kernel,by decide +kernel⟩
theorem zlK {f f1 f2:We}{fd fd1 fd2:Wr}(F:Fun K "_law_answers" "_law_answers" zbL f fd) (Joined:Fx K mg "_law_joined" zcV ["_law_found","_law_pattern","_law_row"] f1 fd1) (Letters:Fx K mg "_law_letters" zcm ["_law_shape_here"] f2 fd2) (B:Bl mg):FnOk P w K mg base CX0 2 f fd ["_law_shape_here","_law_rows"] (spP K zcz):=by
 have GJoined:FnOk P w K mg base CX0 1 f1 fd1 ["_law_found","_law_pattern","_law_row"] (spP K zda):=zof Joined.fn B;have GLetters:FnOk P w K mg base CX0 1 f2 fd2 ["_law_shape_here"] (spP K zcy):=zlJ Letters.fn B;refine zat F ziX (λds Q ⟨a,b,e,_⟩=>by rw[e];rfl) (λcdv A outer s H E hr=>?_);have hu:(A.deeper (WB "_law_answers" (zac zbL) s.heap.objs.size f cdv)).units+16<Wz:=by have q:=hr.units;lia
 have nd:=ziX.nd;refine⟨_,(zad (zah (i:=2) nd rfl (Or.inl rfl) (zbg (zab zrJ zae)))
   (zad (zcb 2 (zaJ rfl PassesOwn.never (zhs rfl B.zip (zab (zaa 0) (zab (zaa 1) zae))) (zdk (n:=2) rfl (zaA (zai (i:=3) nd rfl (Or.inl rfl)) (zaA (zai (i:=4) nd rfl (Or.inl rfl)) zcv))) (zad (zah (i:=5) nd rfl (Or.inl rfl) (zbg zae))
   (zad (zaJ rfl PassesOwn.never (zaF (zaa 2)) (zai (i:=6) nd rfl (Or.inl rfl)) (zag (zaJ rfl PassesOwn.never (zaF (zaa 4)) (zai (i:=7) nd rfl (Or.inl rfl)) (zad (zah (i:=8) nd rfl (Or.inl rfl) (zao GJoined zjE hr rfl Joined.mg Joined.fn.kp Joined.bd (zab (zaa 6) (zab (zaa 3) (zab (zaa 7) zae)))))
   (zag (zbF (zkf (zaa 8) zfG) (zag (zcb 8 (zaN (zaH 5 (zaa 8))))) zaE))))))
   (zag (zcb 5 (zah (i:=2) nd rfl (Or.inl rfl) (zaa 5))))))))
   (zad (zah (i:=9) nd rfl (Or.inr rfl) (zao GLetters ziP hr rfl Letters.mg Letters.fn.kp Letters.bd (zab (zaa 0) zae)))
   (zag (zaq (zps rfl B.sorted (zab (zbQ (N:=["_law_found","_law_letters_here"]) (k:=1) (js:=[9]) rfl (zdB (sup:=zac zbL) (XN:=["_law_shape_here","_law_rows","_law_some","_law_pattern","_law_lines_here","_law_more","_law_found","_law_row","_law_told","_law_letters_here"]) rfl rfl (by decide +kernel)) (by decide) (zaS (by decide)) (zaF (zaa 2)) ⟨λ_ _ _ _ _=>(zai (i:=0) (by show(["_law_found","_law_letters_here"]:List Str).Nodup;decide +kernel) rfl (Or.inr rfl)),λ_ _ _ _ _=>zaT,λ_ _ _ _ _=>(zex rfl B.tuple (zab (zbQ (N:=["_law_letter","_law_found"]) (k:=1) (js:=[0]) rfl (zdB (sup:=zel ⟨.function,[(".0",.local),("_law_found",.cell),("tuple",.globalImplicit),("_law_letters_here",.free)],false,false,[]⟩ (zac zbL)) (XN:=["_law_found","_law_letters_here"]) rfl rfl (by decide +kernel)) (by decide) (zaS (by decide)) (zaF (zaa 1)) ⟨λ_ _ _ _ _=>(zai (i:=0) (by show(["_law_letter","_law_found"]:List Str).Nodup;decide +kernel) rfl (Or.inl rfl)),λ_ _ _ _ _=>zaT,λ_ _ _ _ _=>(zmU (hu1 hu) (zaa 1) (zaa 0))⟩) zae))⟩) zae))))))),λds Q h=>?_⟩
 obtain⟨sh,ts,rfl,fit,hts,S,h4,q⟩:=h;have h1:=S.m1;have hpat:∀p∈sh,p≠[]/\p.length<=4:=λp hp=>⟨S.ne p hp,S.wid p hp⟩;have hsz:=Wo;walk_at "pu";walk_at "auto";obtain⟨Iv,hIv⟩:∃Iv:Nat->PEnv->Prop,∀i ρ,Iv i ρ↔∃(s:List Asc) (v1 v2 v3 v4 v5 v6 v7:Option (PV×Bool)),ρ=[some (PV.lst (sh.map ltsP),false),some (PV.lst (ts.map tabP),false),some (PV.lst (s.map dP),false),v1,v2,v3,v4,v5,v6,v7]/\Upto sh ts i s:=⟨_,λ_ _=>Iff.rfl⟩;refine⟨Iv,(hIv _ _).mpr ⟨[[]],_,_,_,_,_,_,_,rfl,Upto.zero sh ts⟩,?_,?_⟩
 ·intro i d ρ hd hI;obtain⟨s,v1,v2,v3,v4,v5,v6,v7,rfl,U⟩:=(hIv _ _).mp hI;obtain⟨x,y,hx,hy,rfl⟩:=zcS hd;rw[Xl]at hx hy;cases hp:sh[i]? with
  | none=>rw[hp]at hx;cases hx
  | some p=>
  cases ht:ts[i]? with
  | none=>rw[ht]at hy;cases hy
  | some t=>
   rw[hp]at hx;cases hx;rw[ht]at hy;cases hy;have hi:=(Xe.mp hp).1;have hp4:=(hpat p (Xu hp)).2;have ht4:=fit.few t (Xu ht);have hpi:sh.getD i []=p:=by rw[XA,hp];rfl
   have hrow:∀r∈t,r.length=p.length:=λr hr=>by rw[<- hpi];exact fit.row i t ht r hr
   have few:s.length<=125:=Xx U.few (Nat.pow_le_pow_right (show 5 > 0 by decide) (show i<=3 by lia));have U':=U.step hp ht hp4 ht4 hrow;refine⟨_,rfl,rfl,_,_,rfl,_,_,rfl,rfl,?_⟩;walk_at "go";refine⟨by lia,?_⟩;walk_at "go";obtain⟨Iw,hIw⟩:∃Iw:Nat->PEnv->Prop,∀j ρ,Iw j ρ↔∃(m:List Asc) (v4 v5 v6 v7:Option (PV×Bool)),ρ=[some (PV.lst (sh.map ltsP),false),some (PV.lst (ts.map tabP),false),some (PV.lst (s.map dP),false),some (PV.tup (p.map PV.str),false),some (tabP t,false),some (PV.lst (m.map dP),true),v4,v5,v6,v7]/\m=zgm (s.take j) (p,t)/\m.length<=5*j:=⟨_,λ_ _=>Iff.rfl⟩;refine⟨Iw,(hIw _ _).mpr ⟨[],_,_,_,_,rfl,rfl,XH _⟩,?_,?_⟩
   ·intro j d ρ hd hI;obtain⟨m,w4,w5,w6,w7,rfl,hm,hml⟩:=(hIw _ _).mp hI;rw[Xl]at hd;cases hD:s[j]? with
    | none=>rw[hD]at hd;cases hd
    | some D=>
     rw[hD]at hd;cases hd;have hDm:=Xu hD;have hDn:=U.nd D hDm;have hDl:=U.len D hDm;have hj:=(Xe.mp hD).1;have hnext:zgm (s.take (j+1)) (p,t)=m++t.filterMap λr=>zaP D (p.zip r):=by
      rw[(take_snoc hD).symm,hm];unfold zgm;rw[List.flatMap_append,List.flatMap_singleton]
     walk_at "go";obtain⟨Ix,hIx⟩:∃Ix:Nat->PEnv->Prop,∀k ρ,Ix k ρ↔∃(m':List Asc) (v5 v6 v7:Option (PV×Bool)),ρ=[some (PV.lst (sh.map ltsP),false),some (PV.lst (ts.map tabP),false),some (PV.lst (s.map dP),false),some (PV.tup (p.map PV.str),false),some (tabP t,false),some (PV.lst (m'.map dP),true),some (dP D,false),v5,v6,v7]/\m'=m++(t.take k).filterMap (λr=>zaP D (p.zip r))/\m'.length<=m.length+k:=⟨_,λ_ _=>Iff.rfl⟩;refine⟨t.map rowP,rfl,Ix,(hIx _ _).mpr ⟨m,_,_,_,rfl,by simp,Xf _⟩,?_,?_⟩
     ·intro k d ρ hd hI;obtain⟨m',y5,y6,y7,rfl,hm',hml'⟩:=(hIx _ _).mp hI;rw[Xl]at hd;cases hr:t[k]? with
      | none=>rw[hr]at hd;cases hd
      | some r=>
       rw[hr]at hd;cases hd;have hk:=(Xe.mp hr).1;have hrl:=hrow r (Xu hr);have hnx:m++(t.take (k+1)).filterMap (λr=>zaP D (p.zip r))=m'++([r].filterMap λr=>zaP D (p.zip r)):=by
        rw[(take_snoc hr).symm,List.filterMap_append,<- List.append_assoc,<- hm']
       walk_at "go";refine⟨D,rfl,rfl,p,rfl,r,rfl,hDn,by lia,by lia,by lia,λD' hj'=>?_,λhj'=>?_⟩
       ·have e1:([r].filterMap λr=>zaP D (p.zip r))=[D']:=by rw[List.filterMap_cons,hj'];rfl
        walk_at "go";walk_at "go";refine⟨by rw[Xb];lia,(hIx _ _).mpr ⟨m'++[D'],_,_,_,by rw[Xn];rfl,by rw[hnx,e1],by rw[Xm,Ya];lia⟩⟩
       ·have e1:([r].filterMap λr=>zaP D (p.zip r))=[]:=by rw[List.filterMap_cons,hj'];rfl
        walk_at "go";walk_at "go";exact(hIx _ _).mpr ⟨m',_,_,_,rfl,by rw[hnx,e1,List.append_nil],by lia⟩
     ·intro ρ hI;obtain⟨m',y5,y6,y7,rfl,hm',hml'⟩:=(hIx _ _).mp hI;rw[Xb]at hm' hml';refine(hIw _ _).mpr ⟨m',_,_,_,_,rfl,?_,by lia⟩;rw[hnext,hm',XC (Xf _)]
   ·intro ρ hI;obtain⟨m,w4,w5,w6,w7,rfl,hm,hml⟩:=(hIw _ _).mp hI;walk_at "go";refine(hIv _ _).mpr ⟨m,_,_,_,_,_,_,_,rfl,?_⟩;rw[hm,Xb,XC (Xf _)];exact U'
 ·intro ρ hI;obtain⟨s,v1,v2,v3,v4,v5,v6,v7,rfl,U⟩:=(hIv _ _).mp hI;rw[zcw,Xb,Xb,hts,Nat.min_self]at U;have hans:s=ansL sh ts:=by rw[U.eq,XC (by rw[Yp];lia)];rfl
  walk_at "go";refine⟨sh,rfl,S,λzs N=>?_⟩;have hz:∀l,l∈zs↔l∈sh.flatten:=λl=>by rw[N.mem l,List.mem_flatten]
  have hzl:=S.six zs N.nd λx hx=>(N.mem x).mp hx;have hzn:zs≠[]:=λe=>by
   obtain⟨p,hp⟩:∃p,p∈sh:=List.exists_mem_of_length_pos (by lia);obtain⟨l,hl⟩:=List.exists_mem_of_ne_nil _ (hpat p hp).1;have:=(hz l).mpr (List.mem_flatten.mpr ⟨p,hp,hl⟩);rw[e]at this;cases this
  walk_at "go";have few:s.length<=625:=Xx U.few (Nat.pow_le_pow_right (show 5 > 0 by decide) h4);refine⟨by rw[Xb];lia,λi out=>out=(s.take i).map λD=>PV.tup ((zs.map λl=>(D.lookup l).getD 0).map PV.int),rfl,?_,?_⟩
  ·rintro i d out hd-rfl;rw[Xl]at hd;cases hD:s[i]? with
   | none=>rw[hD]at hd;cases hd
   | some D=>
    rw[hD]at hd;cases hd;have hDm:=Xu hD;refine⟨by rw[Xb];lia,λj out=>out=(zs.take j).map λl=>PV.int ((D.lookup l).getD 0),rfl,?_,?_⟩
    ·rintro j d out hd-rfl;rw[Xl]at hd;cases hl:zs[j]? with
     | none=>rw[hl]at hd;cases hd
     | some l=>
      rw[hl]at hd;cases hd;obtain⟨p,hp,hlp⟩:=List.mem_flatten.mp ((hz l).mp (Xu hl));have hk:=U.keys D hDm p (by rw[XC (Xf _)];exact hp) l hlp;obtain⟨v,hv⟩:=zeP hk;refine⟨_,_,rfl,.inr l,rfl,PV.int v,by rw[zpJ,hv];rfl,?_⟩;show _=_;rw[<- take_snoc hl,Xn,Yz,hv];rfl
    ·rintro out-rfl;rw[Xb,XC (Xf _)];show _=_;rw[<- take_snoc hD,Xn,Yz,List.map_map];rfl
  ·rintro out-rfl;rw[Xb,XC (Xf _)];refine⟨s.map λD=>zs.map λl=>(D.lookup l).getD 0,by rw[List.map_map];rfl,λr hr=>?_,λys hys hym=>q _ ?_⟩
   ·obtain⟨D,_,rfl⟩:=XD.mp hr;exact λe=>hzn (List.map_eq_nil_iff.mp e)
   ·rw[Xb,hys,Xb,hans]
end
theorem zkU {l:Str}{v:Int}{e:Str×Int}:∀ {D:Asc},D.lookup l=some v->(D++[e]).lookup l=some v
 | [],h=>nomatch h
 | (k,x)::D,h=>by
  rw[XT]at h;show((k,x)::(D++[e])).lookup l=some v;rw[XT];cases hk:(l == k)with
  | true=>rw[hk]at h;exact h
  | false=>rw[hk]at h;exact zkU h
theorem zds {l:Str}{v:Int}:∀ {D:Asc},D.lookup l=none->(D++[(l,v)]).lookup l=some v
 | [],h=>by show([(l,v)]:Asc).lookup l=_;rw[XT,beq_self_eq_true]
 | (k,x)::D,h=>by
  rw[XT]at h;show((k,x)::(D++[(l,v)])).lookup l=some v;rw[XT];cases hk:(l == k)with
  | true=>rw[hk]at h;cases h
  | false=>rw[hk]at h;exact zds h
theorem zcu {l:Str}{v:Int}:∀ {a D D':Asc},zaP D a=some D'->D.lookup l=some v->D'.lookup l=some v
 | [],D,D',h,hl=>by cases h;exact hl
 | e::a,D,D',h,hl=>by
  have h':(match D.lookup e.1 with | some v=>if v=e.2 then zaP D a else none | none=>zaP (D++[e]) a)=some D':=h
  cases hd:D.lookup e.1 with
  | none=>rw[hd]at h';exact zcu (a:=a) h' (zkU hl)
  | some u=>
   rw[hd]at h';have h2:(if u=e.2 then zaP D a else none)=some D':=h'
   by_cases z:u=e.2
   ·rw[if_pos z]at h2;exact zcu (a:=a) h2 hl
   ·rw[if_neg z]at h2;cases h2
theorem zdy:∀ {a D D':Asc},zaP D a=some D'->∀e∈a,D'.lookup e.1=some e.2
 | [],D,D',h,e,he=>nomatch he
 | e::a,D,D',h,e',he=>by
  have h':(match D.lookup e.1 with | some v=>if v=e.2 then zaP D a else none | none=>zaP (D++[e]) a)=some D':=h
  have two:D'.lookup e.1=some e.2/\∀e'∈a,D'.lookup e'.1=some e'.2:=by
   cases hd:D.lookup e.1 with
   | none=>rw[hd]at h';exact⟨zcu (a:=a) h' (zds (l:=e.1) (v:=e.2) hd),zdy h'⟩
   | some u=>
    rw[hd]at h';have h2:(if u=e.2 then zaP D a else none)=some D':=h'
    by_cases z:u=e.2
    ·rw[if_pos z]at h2;exact⟨zcu (a:=a) h2 (by rw[hd,z]),zdy h2⟩
    ·rw[if_neg z]at h2;cases h2
  rcases Xo.mp he with rfl | he
  ·exact two.1
  ·exact two.2 e' he
def Unl (sh:List (List Str))(D E:Asc):Prop:=∃l u v,(∃p∈sh,l∈p)/\D.lookup l=some u/\E.lookup l=some v/\u≠v
def Has (D:Asc)(p:List Str)(t:List (List Int)):Prop:=∃r∈t,r.length=p.length/\∀e∈p.zip r,D.lookup e.1=some e.2
structure Ans (sh:List (List Str))(ts:List (List (List Int)))(i:Nat)(s:List Asc):Prop where
 pw:s.Pairwise (Unl sh)
 has:∀D∈s,∀j p t,j<i->sh[j]? = some p->ts[j]? = some t->Has D p t
theorem Ans.step {sh:List (List Str)}{ts:List (List (List Int))}{i:Nat}{s:List Asc}{p:List Str}{t:List (List Int)}(A:Ans sh ts i s)(hp:sh[i]? = some p)(ht:ts[i]? = some t)(nd:t.Nodup)(hr:∀r∈t,r.length=p.length):Ans sh ts (i+1) (zgm s (p,t)):=by
 refine⟨?_,λD' h j q u hj hq hu=>?_⟩
 ·unfold zgm;rw[List.pairwise_flatMap];refine⟨λD hD=>?_,A.pw.imp ?_⟩
  ·rw[List.pairwise_filterMap];refine List.Pairwise.imp_of_mem (R:=λa b:List Int=>a≠b) ?_ nd;intro r1 r2 m1 m2 hne D1 h1 D2 h2;have l1:=hr r1 m1;have l2:=hr r2 m2;obtain⟨k,hk,hx⟩:∃(k:Nat) (hk:k<p.length),r1[k]'(by lia)≠r2[k]'(by lia):=by
    by_cases z:∃(k:Nat) (hk:k<p.length),r1[k]'(by lia)≠r2[k]'(by lia)
    ·exact z
    ·exact absurd (List.ext_getElem (by lia) λk a b=>Decidable.not_not.mp λy=>z ⟨k,by lia,y⟩) hne
   refine⟨p[k],_,_,⟨p,Xu hp,Yd hk⟩,zdy h1 (p[k],r1[k]'(by lia)) ?_,zdy h2 (p[k],r2[k]'(by lia)) ?_,hx⟩
   ·exact Xu (Yn.mpr ⟨Xg hk,Xg (by lia)⟩)
   ·exact Xu (Yn.mpr ⟨Xg hk,Xg (by lia)⟩)
  ·rintro D E ⟨l,u,v,h1,h2,h3,h4⟩ D' hD E' hE;obtain⟨r1,_,j1⟩:=List.mem_filterMap.mp hD;obtain⟨r2,_,j2⟩:=List.mem_filterMap.mp hE;exact⟨l,u,v,h1,zcu j1 h2,zcu j2 h3,h4⟩
 ·obtain⟨D,hD,h2⟩:=List.mem_flatMap.mp h;obtain⟨r,hrt,hj2⟩:=List.mem_filterMap.mp h2;by_cases z:j=i
  ·subst z;rw[hp]at hq;cases hq;rw[ht]at hu;cases hu;exact⟨r,hrt,hr r hrt,λe he=>zdy hj2 e he⟩
  ·obtain⟨r',g1,g2,g3⟩:=A.has D hD j q u (by lia) hq hu;exact⟨r',g1,g2,λe he=>zcu hj2 (g3 e he)⟩
theorem zog {sh:List (List Str)}{ts:List (List (List Int))}(F:Fits sh ts)(hl:ts.length=sh.length):∀i,i<=sh.length->Ans sh ts i (((sh.zip ts).take i).foldl zgm [[]])
 | 0,_=>⟨List.pairwise_singleton _ _,λD h j p t hj=>absurd hj (Nat.not_lt_zero _)⟩
 | i+1,h=>by
  have h1:sh[i]? = some sh[i]:=Xg (by lia);have h2:ts[i]? = some ts[i]:=Xg (by lia);have ih:=zog F hl i (by lia);have e:(sh.zip ts).take (i+1)=(sh.zip ts).take i++[(sh[i],ts[i])]:=(take_snoc (Yn.mpr ⟨h1,h2⟩)).symm;rw[e,List.foldl_append];refine ih.step h1 h2 (F.nd _ (Yd _)) λr hr=>?_;have:=F.row i _ h2 r hr;rw[XA,h1]at this;exact this
theorem zut {sh:List (List Str)}{ts:List (List (List Int))}(F:Fits sh ts)(hl:ts.length=sh.length):Ans sh ts sh.length (ansL sh ts):=by
 have:=zog F hl sh.length (Xf _);rw[XC (by rw[Yp];lia)]at this;exact this
theorem zvr {L:List Str}{c:Nat}{x:Str}(nd:L.Nodup)(h:L[c]? = some x):L.idxOf x=c:=by
 obtain⟨hc,e⟩:=Xe.mp h;rw[<- e];exact nd.idxOf_getElem c hc
def ansT (L:List Str)(D:Asc):List Int:=L.map λl=>(D.lookup l).getD 0
theorem zjF {L:List Str}{D:Asc}{l:Str}(h:l∈L):(ansT L D).getD (L.idxOf l) 0=(D.lookup l).getD 0:=by
 have hi:L.idxOf l<L.length:=List.idxOf_lt_length_iff.mpr h;unfold ansT;rw[XA,Xl,Xg hi,List.getElem_idxOf hi];rfl
def lenN (ts:List (List (List Int)))(k:Nat):Nat:=(ts.getD k []).length
theorem zpK {sh:List (List Str)}{L:List Str}{ts:List (List (List Int))}{hN:Names sh L}{h:List Nat}(T:Tells (pbOf hN) h)(F:Fits sh ts)(hl:ts.length=sh.length):(ansL sh ts).length ^ dN (pbOf hN) h<=pw (lenN ts) (wN (pbOf hN) h) sh.length:=by
 have A:=zut F hl;have hs:∀k,k<sh.length->sh[k]? = some (sh.getD k []):=λk hk=>by rw[XA,Xg hk];rfl
 have ht:∀k,k<sh.length->ts[k]? = some (ts.getD k []):=λk hk=>by rw[XA,Xg (by lia)];rfl
 have X:M43.Cov L.length (dN (pbOf hN) h) ((ansL sh ts).map (ansT L)) (λk=>(sh.getD k []).map L.idxOf) (λk=>ts.getD k []) (KsN (wN (pbOf hN) h) sh.length):=by
  refine⟨T.one,?_,λa ha=>?_,λk hk a ha=>?_,λc hc=>?_⟩
  ·show List.Pairwise _ _;rw[List.pairwise_map];refine A.pw.imp ?_;rintro D E ⟨l,u,v,hp,h1,h2,h3⟩ e;have hlL:=(hN.mem l).mpr hp;have e1:=zjF (D:=D) hlL;rw[e,zjF hlL,h1,h2]at e1;exact h3 e1.symm
  ·obtain⟨D,_,rfl⟩:=XD.mp ha;unfold ansT;rw[Xb]
  ·obtain⟨D,hD,rfl⟩:=XD.mp ha;have hkm:=zod hk;obtain⟨r,hr,hrl,hz⟩:=A.has D hD k _ _ hkm (hs k hkm) (ht k hkm);have e:((sh.getD k []).map L.idxOf).map (λc=>(ansT L D).getD c 0)=r:=by
    refine List.ext_getElem (by simp only[Xb];lia) λj h1 h2=>?_;have hj:j<(sh.getD k []).length:=by simpa using h1
    have hzj:=hz ((sh.getD k [])[j],r[j]) (Xu (Yn.mpr ⟨Xg hj,Xg h2⟩));have hm:(sh.getD k [])[j]∈L:=(hN.mem _).mpr ⟨_,Xu (hs k hkm),Yd hj⟩;rw[List.getElem_map,List.getElem_map,zjF hm,hzj];rfl
   rw[e];exact hr
  ·have hcov:=T.cover c hc;rw[<- T.d]at hcov;have e:((sN sh.length λk=>if (decide (c∈(sh.getD k []).map L.idxOf))=true then wN (pbOf hN) h k else 0:Nat):Int)=sm sh.length λk=>(pbOf hN).col c k*wI (pbOf hN) h k:=zoc λk hk=>by
    have hx:L[c]? = some L[c]:=Xg hc;have g1:L.getD c Str.empty=L[c]:=by rw[XA,hx];rfl
    have hcol:(pbOf hN).col c k=if L[c]∈sh.getD k [] then 1 else 0:=by
     show zbd sh L c k=_;unfold zbd;rw[if_pos hc,if_pos hk,g1]
    have hiff:(c∈(sh.getD k []).map L.idxOf)↔L[c]∈sh.getD k []:=by
     constructor
     ·intro z;obtain⟨l,h1,h2⟩:=XD.mp z;have hm:l∈L:=(hN.mem _).mpr ⟨_,Xu (hs k hk),h1⟩;have hi:L.idxOf l<L.length:=List.idxOf_lt_length_iff.mpr hm;have:L[c]=l:=by
       have:=List.getElem_idxOf hi;simp only[h2]at this;exact this
      rw[this];exact h1
     ·intro z;exact XD.mpr ⟨_,z,zvr hN.nd hx⟩
    rw[hcol];by_cases z:L[c]∈sh.getD k []
    ·rw[if_pos (decide_eq_true (hiff.mpr z)),if_pos z,Int.one_mul];exact T.w k hk
    ·rw[if_neg (λy=>z (hiff.mp (of_decide_eq_true y))),if_neg z,Int.zero_mul];rfl
   have hm:(pbOf hN).m=sh.length:=rfl;rw[hm,<- e]at hcov;rw[zqA];exact Int.ofNat_le.mp hcov
 have:=X.bound λk hk r hr=>by
  have hkm:=zod hk;rw[Xb];exact F.row k _ (ht k hkm) r hr
 rw[Xb,zus]at this;exact this
def zoh (ts:List (List (List Int))):PV:=.lst (ts.map tabP)
def ziY:PF:=λds Q=>∃(sh:List (List Str))(ts:List (List (List Int))),ds=[shpP sh,zoh ts]/\Shp sh/\Fits sh ts/\ts.length=sh.length/\sh.length<=4/\∀(L:List Str)(hN:Names sh L)(h:List Nat),Done (pbOf hN) h->Q (.tup [.int (dI (pbOf hN) h),.int ((pw (lenN ts) (wN (pbOf hN) h) sh.length:Nat):Int)]) .frz
theorem zlL:zaY ziY:=λds Q Q' m ⟨a,b,e,h1,h2,h3,h4,q⟩=>⟨a,b,e,h1,h2,h3,h4,λL hN h x=>m _ _ (q L hN h x)⟩
def zeQ:PF:=λds Q=>∃(sh:List (List Str))(ts:List (List (List Int))),ds=[shpP sh,zoh ts]/\Shp sh/\Fits sh ts/\ts.length=sh.length/\sh.length<=4/\Q (.bl true) .frz
theorem zlM:zaY zeQ:=λds Q Q' m ⟨a,b,e,h1,h2,h3,h4,q⟩=>⟨a,b,e,h1,h2,h3,h4,m _ _ q⟩
theorem zoi {sh:List (List Str)}{L L':List Str}{hN:Names sh L}{hN':Names sh L'}{h h':List Nat}(d:Done (pbOf hN) h)(d':Done (pbOf hN') h'):L=L'/\h=h':=by
 have e:=Names.uniq hN hN';subst e;exact⟨rfl,Done.uniq d d'⟩
theorem zoj {f w:Nat->Nat}{i m:Nat}(h:i<=m)(hm:m<=4)(b:∀k,k<m->f k<=5/\w k<=120):pw f w i<2 ^ 4000:=zoe (Xx h hm) (zpI λk hk=>b k (by lia))
theorem zok {sh:List (List Str)}{ts:List (List (List Int))}(F:Fits sh ts)(hl:ts.length=sh.length):∀i,i<=sh.length->(((sh.zip ts).take i).foldl zgm [[]]).length<=5 ^ i
 | 0,_=>Xf _
 | i+1,h=>by
  have h1:sh[i]? = some sh[i]:=Xg (by lia);have h2:ts[i]? = some ts[i]:=Xg (by lia);have e:(sh.zip ts).take (i+1)=(sh.zip ts).take i++[(sh[i],ts[i])]:=(take_snoc (Yn.mpr ⟨h1,h2⟩)).symm;rw[e,List.foldl_append,YF];exact Xx (zhN (b:=5) _ λD _=>Xx (List.length_filterMap_le _ _) (F.few _ (Yd _))) (Nat.mul_le_mul_right 5 (zok F hl i (by lia)))
theorem zsj {sh:List (List Str)}{ts:List (List (List Int))}(F:Fits sh ts)(hl:ts.length=sh.length)(h4:sh.length<=4):(ansL sh ts).length<=625:=by
 have:=zok F hl sh.length (Xf _);rw[XC (by rw[Yp];lia)]at this;exact Xx this (Nat.pow_le_pow_right (show 5 > 0 by decide) h4)
theorem zfk (sh:List (List Str))(ts:List (List (List Int))):[PV.lst (List.map ltsP sh),zoh ts].all (PL.plain 5)=true:=by
 rw[List.all_cons,List.all_cons,List.all_nil,Bool.and_true,Yo];refine⟨?_,?_⟩
 ·show(sh.map ltsP).all (PL.plain 4)=true;rw[XI];intro d hd;obtain⟨p,_,rfl⟩:=XD.mp hd;exact zfa 3 p
 ·show(ts.map tabP).all (PL.plain 4)=true;rw[XI];intro d hd;obtain⟨t,_,rfl⟩:=XD.mp hd;show(t.map rowP).all (PL.plain 3)=true;rw[XI];intro d hd;obtain⟨r,_,rfl⟩:=XD.mp hd;exact ziR 2 r
theorem Fits.len5 {sh:List (List Str)}{ts:List (List (List Int))}(F:Fits sh ts)(k:Nat):lenN ts k<=5:=by
 unfold lenN;rw[XA];cases h:ts[k]? with
 | none=>exact XH _
 | some t=>exact F.few t (Xu h)
section
variable {P:Wl}{w:Wt}{K:Xa}{mg:Str->Option Wb}{base:Heap}
theorem zol:zan ["shape","rows","told","product","weight","table"] ["shape","rows"] (zac zeI):=⟨rfl,rfl,rfl,by decide +kernel,rfl,by decide +kernel,by decide +kernel⟩
theorem zpL {f f2 f3:We}{fd fd2 fd3:Wr}(F:Fun K "bound" "bound" zeI f fd) (Weights:Fx K mg "weights" zbt ["shape"] f2 fd2) (GWeights:FnOk P w K mg base CX0 4 f2 fd2 ["shape"] (spP K zaW)) (Power:Fx K mg "power" zeH ["base","exponent"] f3 fd3) (B:Bl mg):FnOk P w K mg base CX0 5 f fd ["shape","rows"] (spP K ziY):=by
 have GPower:FnOk P w K mg base CX0 4 f3 fd3 ["base","exponent"] (spP K zeN):=(zpF Power.fn B).mono (by decide);refine zat F zol (λds Q ⟨a,b,h,_⟩=>by rw[h];rfl) (λcdv A outer s H E hr=>?_);have hu:(A.deeper (WB "bound" (zac zeI) s.heap.objs.size f cdv)).units+16<Wz:=by have q:=hr.units;lia
 have nd:=zol.nd;refine⟨_,(zad (zah (i:=2) nd rfl (Or.inl rfl) (zao GWeights zfh hr rfl Weights.mg Weights.fn.kp Weights.bd (zab (zaa 0) zae)))
   (zad (zah (i:=3) nd rfl (Or.inl rfl) zaf)
   (zad (zaJ rfl PassesOwn.never (zhs rfl B.zip (zab (zal (zaa 2) zaf) (zab (zaa 1) zae))) (zdk (n:=2) rfl (zaA (zai (i:=4) nd rfl (Or.inl rfl)) (zaA (zai (i:=5) nd rfl (Or.inl rfl)) zcv))) (zag (zah (i:=3) nd rfl (Or.inl rfl) (zno (zaa 3) (zao GPower zgV hr rfl Power.mg Power.fn.kp Power.bd (zab (zaZ rfl B.len (zab (zaa 5) zae)) (zab (zaa 4) zae)))))))
   (zag (zaq (zgF (zab (zal (zaa 2) zaf) (zab (zaa 3) zae)))))))),λds Q h=>?_⟩
 obtain⟨sh,ts,rfl,S,fit,hl,h4,q⟩:=h;have hsz:=Wo;walk_at "pu";refine⟨sh,rfl,S,λL hN h D=>?_⟩;have T:=tells D (zpy S hN) h4;walk_at "go";walk_at "go";have lim:∀i,i<=sh.length->pw (lenN ts) (wN (pbOf hN) h) i<2 ^ 4000:=λi hi=>zoj hi h4 λk hk=>⟨fit.len5 k,T.wtop k hk⟩;refine⟨_,.inl ⟨_,.inr rfl,zaR (j:=1) rfl⟩,_,rfl,_,rfl,?_⟩;obtain⟨Iv,hIv⟩:∃Iv:Nat->PEnv->Prop,∀i ρ,Iv i ρ↔∃k4 k5:Option (PV×Bool),ρ=[some (PV.lst (List.map ltsP sh),false),some (zoh ts,false),some (wtP (pbOf hN) h,false),some (PV.int ((pw (lenN ts) (wN (pbOf hN) h) i:Nat):Int),false),k4,k5]:=⟨_,λ_ _=>Iff.rfl⟩;refine⟨Iv,(hIv _ _).mpr ⟨_,_,rfl⟩,?_,?_⟩
 ·intro i d ρ hd hI;obtain⟨k4,k5,rfl⟩:=(hIv _ _).mp hI;obtain⟨x,y,hx,hy,rfl⟩:=zcS hd;rw[Xl]at hy;cases hp:ts[i]? with
  | none=>rw[hp]at hy;cases hy
  | some t=>
   rw[hp]at hy;cases hy;have hi:=(Xe.mp hp).1;rw[hl]at hi;have hx':x=PV.int ((wN (pbOf hN) h i:Nat):Int):=by
    rw[ziU,Xl,Xl,Yw (show i<(pbOf hN).m from hi)]at hx;rw[T.w i hi];exact(Option.some.inj hx).symm
   subst hx';have hti:lenN ts i=t.length:=by unfold lenN;rw[XA,hp];rfl
   have h5:=fit.len5 i;have hw:=T.wtop i hi;have l1:=lim i (by lia);have l2:t.length ^ wN (pbOf hN) h i<2 ^ 4000:=by
    have:=zpI (f:=λ_=>t.length) (w:=λ_=>wN (pbOf hN) h i) (m:=1) λk hk=>⟨by lia,hw⟩;have e:pw (λ_=>t.length) (λ_=>wN (pbOf hN) h i) 1=t.length ^ wN (pbOf hN) h i:=by show 1*_=_;rw[Nat.one_mul]
    rw[e]at this;exact zoe (by decide) this
   refine⟨_,rfl,rfl,_,_,rfl,_,_,rfl,rfl,?_⟩;walk_at "go";refine⟨_,rfl,_,rfl,_,rfl,by rw[Xb];lia,by lia,?_⟩;rw[Xb];have e2:((pw (lenN ts) (wN (pbOf hN) h) i:Nat):Int)*((t.length ^ wN (pbOf hN) h i:Nat):Int)=((pw (lenN ts) (wN (pbOf hN) h) (i+1):Nat):Int):=by
    rw[<- Int.natCast_mul,<- hti];rfl
   rw[e2];exact⟨⟨by rw[Int.natAbs_natCast];exact l1,by rw[Int.natAbs_natCast];exact l2⟩,(hIv _ _).mpr ⟨_,_,rfl⟩⟩
 ·intro ρ hI;obtain⟨k4,k5,rfl⟩:=(hIv _ _).mp hI;rw[zcw,Xb,Xb,ziU,Xb,XM,hl,show min (pbOf hN).m sh.length=sh.length from Nat.min_self _];walk_at "go";exact⟨_,.inl ⟨_,.inr rfl,zaR (j:=0) rfl⟩,by lia,q L hN h D⟩
theorem zom:zan ["_law_shape_here","_law_rows","_law_bottom","_law_some","_law_prices","_law_due","_law_lines_here","_law_weight","_law_handed","_law_told"] ["_law_shape_here","_law_rows"] (zac zdL):=⟨rfl,rfl,rfl,by decide +kernel,rfl,by decide +kernel,by decide +kernel⟩
theorem zpM {f f1 f2 f3 f6 f7:We}{fd fd1 fd2 fd3 fd6 fd7:Wr}(F:Fun K "_law_right" "_law_right" zdL f fd) (Whole:Fx K mg "_law_whole" zeJ ["_law_found"] f1 fd1) (LPower:Fx K mg "_law_power" zcW ["_law_number","_law_times"] f2 fd2) (Answers:Fx K mg "_law_answers" zbL ["_law_shape_here","_law_rows"] f3 fd3) (GAnswers:FnOk P w K mg base CX0 5 f3 fd3 ["_law_shape_here","_law_rows"] (spP K zcz))
  (Weights:Fx K mg "weights" zbt ["shape"] f6 fd6) (GWeights:FnOk P w K mg base CX0 5 f6 fd6 ["shape"] (spP K zaW)) (Bound:Fx K mg "bound" zeI ["shape","rows"] f7 fd7) (GBound:FnOk P w K mg base CX0 5 f7 fd7 ["shape","rows"] (spP K ziY)) (B:Bl mg):FnOk P w K mg base CX0 6 f fd ["_law_shape_here","_law_rows"] (spP K zeQ):=by
 have GWhole:FnOk P w K mg base CX0 5 f1 fd1 ["_law_found"] (spP K zfi):=(zpE Whole.fn B).mono (by decide);have GLPower:FnOk P w K mg base CX0 5 f2 fd2 ["_law_number","_law_times"] (spP K zdx):=(zoa LPower.fn B).mono (by decide);refine zat F zom (λds Q ⟨a,b,e,_⟩=>by rw[e];rfl) (λcdv A outer s H E hr=>?_);have hu:(A.deeper (WB "_law_right" (zac zdL) s.heap.objs.size f cdv)).units+16<Wz:=by have q:=hr.units;lia
 have nd:=zom.nd;refine⟨_,(zad (zrp (zao GWeights zfh hr rfl Weights.mg Weights.fn.kp Weights.bd (zab (zaa 0) zae)) (zdk (n:=3) rfl (zaA (zai (i:=2) nd rfl (Or.inl rfl)) (zaA (zai (i:=3) nd rfl (Or.inl rfl)) (zaA (zai (i:=4) nd rfl (Or.inl rfl)) zcv)))))
   (zad (zah (i:=5) nd rfl (Or.inl rfl) zaf)
   (zad (zaJ rfl PassesOwn.never (zhs rfl B.zip (zab (zaa 1) (zab (zaa 3) zae))) (zdk (n:=2) rfl (zaA (zai (i:=6) nd rfl (Or.inl rfl)) (zaA (zai (i:=7) nd rfl (Or.inl rfl)) zcv))) (zag (zah (i:=5) nd rfl (Or.inl rfl) (zno (zaa 5) (zao GLPower zgj hr rfl LPower.mg LPower.fn.kp LPower.bd (zab (zaZ rfl B.len (zab (zaa 6) zae)) (zab (zaa 7) zae)))))))
   (zad (zah (i:=8) nd rfl (Or.inl rfl) (zbg (zab (zhp rfl B.list (zab (zaa 0) zae)) (zab (zbQ (N:=["_law_lines_here"]) (k:=1) (js:=[]) rfl (zdB (sup:=zac zdL) (XN:=["_law_shape_here","_law_rows","_law_bottom","_law_some","_law_prices","_law_due","_law_lines_here","_law_weight","_law_handed","_law_told"]) rfl rfl (by decide +kernel)) (by decide) (zaS (by decide)) (zaF (zaa 1)) ⟨λ_ _ _ _ _=>(zai (i:=0) (by show(["_law_lines_here"]:List Str).Nodup;decide +kernel) rfl (Or.inl rfl)),λ_ _ _ _ _=>zaT,λ_ _ _ _ _=>(zhp rfl B.list (zab (zaa 0) zae))⟩) zae))))
   (zad (zah (i:=9) nd rfl (Or.inl rfl) (zao GBound zlL hr rfl Bound.mg Bound.fn.kp Bound.bd (zab (zal (zaa 8) zaf) (zab (zal (zaa 8) zaf) zae))))
   (zad (zbF (PuW.t (zfK (zhl (zfL (zmQ (K:=K) rfl rfl B.isi (zab (zaa 9) (zab (zrk rfl B.tuple zqa) zae))))) (zfK (zgH hu (zaZ rfl B.len (zab (zaa 9) zae)) zaf) (zfK (zhl (zfL (zao GWhole zgU hr rfl Whole.mg Whole.fn.kp Whole.bd (zab (zal (zaa 9) zaf) zae)))) (zfJ (zhl (zfL (zao GWhole zgU hr rfl Whole.mg Whole.fn.kp Whole.bd (zab (zal (zaa 9) zaf) zae))))))))) (zag (zaq zoJ)) zaE)
   (zad (zbF (PuW.t (zfK (zgH hu (zaa 9) (zgF (zab (zaa 2) (zab (zaa 5) zae)))) (zfJ (zgH hu (zaa 8) (zbg (zab (zaa 0) (zab (zaa 1) zae))))))) (zag (zaq zoJ)) zaE)
   (zag (zaq (zvb (zao GLPower zgj hr rfl LPower.mg LPower.fn.kp LPower.bd (zab (zaZ rfl B.len (zab (zao GAnswers ziW hr rfl Answers.mg Answers.fn.kp Answers.bd (zab (zaa 0) (zab (zaa 1) zae))) zae)) (zab (zaa 2) zae))) (zaa 5))))))))))),λds Q h=>?_⟩
 obtain⟨sh,ts,rfl,S,fit,hl,h4,q⟩:=h;have hsz:=Wo;refine seqK λN hNx=>?_;walk_at "go";refine⟨sh,rfl,S,λL hN h D=>⟨_,rfl,rfl,_,_,rfl,_,_,rfl,_,_,rfl,rfl,hNx _ ?_⟩⟩;have T:=tells D (zpy S hN) h4;have lim:∀i,i<=sh.length->pw (lenN ts) (wN (pbOf hN) h) i<2 ^ 4000:=λi hi=>zoj hi h4 λk hk=>⟨fit.len5 k,T.wtop k hk⟩;rw[<- T.d];refine seqK λN hNx=>?_;walk_at "go";refine hNx _ (seqK λN hNx=>?_);walk_at "go";obtain⟨Iv,hIv⟩:∃Iv:Nat->PEnv->Prop,∀i ρ,Iv i ρ↔∃k6 k7:Option (PV×Bool),ρ=[some (PV.lst (List.map ltsP sh),false),some (zoh ts,false),some (PV.int ((dN (pbOf hN) h:Nat):Int),false),some (PV.lst ((wsI (pbOf hN) h).map PV.int),false),some (PV.lst ((ysI (pbOf hN) h).map PV.int),false),some (PV.int ((pw (lenN ts) (wN (pbOf hN) h) i:Nat):Int),false),k6,k7,none,none]:=⟨_,λ_ _=>Iff.rfl⟩;refine⟨_,rfl,Iv,(hIv _ _).mpr ⟨_,_,rfl⟩,?_,?_⟩
 ·intro i d ρ hd hI;obtain⟨k6,k7,rfl⟩:=(hIv _ _).mp hI;obtain⟨x,y,hx,hy,rfl⟩:=zcS hd;rw[Xl]at hx;cases hp:ts[i]? with
  | none=>rw[hp]at hx;cases hx
  | some t=>
   rw[hp]at hx;cases hx;have hi:=(Xe.mp hp).1;rw[hl]at hi;have hy':y=PV.int ((wN (pbOf hN) h i:Nat):Int):=by
    rw[ziU,Xl,Xl,Yw (show i<(pbOf hN).m from hi)]at hy;rw[T.w i hi];exact(Option.some.inj hy).symm
   subst hy';have hti:lenN ts i=t.length:=by unfold lenN;rw[XA,hp];rfl
   have h5:=fit.len5 i;have hw:=T.wtop i hi;have l1:=lim i (by lia);have l2:t.length ^ wN (pbOf hN) h i<2 ^ 4000:=by
    have:=zpI (f:=λ_=>t.length) (w:=λ_=>wN (pbOf hN) h i) (m:=1) λk hk=>⟨by lia,hw⟩;have e:pw (λ_=>t.length) (λ_=>wN (pbOf hN) h i) 1=t.length ^ wN (pbOf hN) h i:=by show 1*_=_;rw[Nat.one_mul]
    rw[e]at this;exact zoe (by decide) this
   refine⟨_,rfl,rfl,_,_,rfl,_,_,rfl,rfl,?_⟩;walk_at "go";refine⟨_,rfl,_,rfl,_,rfl,by rw[Xb];lia,by lia,?_⟩;rw[Xb];have e2:((pw (lenN ts) (wN (pbOf hN) h) i:Nat):Int)*((t.length ^ wN (pbOf hN) h i:Nat):Int)=((pw (lenN ts) (wN (pbOf hN) h) (i+1):Nat):Int):=by
    rw[<- Int.natCast_mul,<- hti];rfl
   rw[e2];exact⟨⟨by rw[Int.natAbs_natCast];exact l1,by rw[Int.natAbs_natCast];exact l2⟩,(hIv _ _).mpr ⟨_,_,rfl⟩⟩
 intro ρ hI;obtain⟨k6,k7,rfl⟩:=(hIv _ _).mp hI;rw[zcw,Xb,Xb,ziU,Xb,XM,hl,show min sh.length (pbOf hN).m=sh.length from Nat.min_self _];rw[<- ziU];refine hNx _ (seqK λN hNx=>?_);walk_at "go";refine⟨_,rfl,by rw[Xb];lia,λi out=>out=(ts.take i).map tabP,rfl,?_,?_⟩
 ·rintro i d out hd-rfl;rw[Xl]at hd;cases hp:ts[i]? with
  | none=>rw[hp]at hd;cases hd
  | some t=>
   rw[hp]at hd;cases hd;refine⟨_,.inl rfl,?_⟩;show _=_;rw[<- take_snoc hp,Xn];rfl
 rintro out-rfl;rw[Xb,List.take_length];refine⟨by lia,hNx _ (seqK λN hNx=>?_)⟩;walk_at "go";refine⟨_,zaR (j:=0) rfl,_,zaR (j:=1) rfl,sh,rfl,ts,rfl,S,fit,hl,h4,λLb hN2 h2 D2=>?_⟩;obtain⟨e1,e2⟩:=zoi D2 D;subst e1 e2;rw[<- T.d];refine hNx _ (seqK λN hNx=>?_);walk_at "go";refine⟨true,zkk,?_⟩;rw[if_neg (λz=>nomatch z),if_neg (λz=>z rfl)];refine⟨_,zaR (j:=0) rfl,⟨_,rfl⟩,_,zaR (j:=1) rfl,⟨_,rfl⟩,hNx _ (seqK λN hNx=>?_)⟩;walk_at "go";refine⟨by lia,rfl,rfl,by lia,zfk sh ts,zfk sh ts,?_⟩;rw[if_neg (λz=>z rfl)];refine hNx _ ?_;walk_at "go";refine⟨sh,rfl,ts,rfl,fit,hl,S,h4,λzs hz=>⟨_,rfl,_,rfl,?_,?_,?_⟩⟩
 ·have:=zsj fit hl h4;lia
 ·have:=T.top;lia
 rw[hz,decide_eq_true (Int.ofNat_le.mpr (zpK T fit hl))];exact q
end
def fLaw:PF:=λds Q=>∃ns:List Int,ds=[.lst (ns.map PV.int)]/\ns.length<=63/\Q (.bl true) .frz
theorem zpN:zaY fLaw:=λds Q Q' m ⟨ns,e,h,q⟩=>⟨ns,e,h,m _ _ q⟩
theorem zpO (xs:List PV)(k:Nat):cutP xs none (some (k:Int))=xs.take k:=by
 unfold cutP;have h1:HT.sIx xs.length 0 none=0:=rfl;rw[h1,List.drop_zero,Nat.sub_zero];by_cases h:k<=xs.length
 ·have:HT.sIx xs.length xs.length (some (k:Int))=k:=by rw[HT.zdO];lia
  rw[this]
 ·have:HT.sIx xs.length xs.length (some (k:Int))=xs.length:=by rw[HT.zdO];lia
  rw[this,List.take_length,XC (by lia)]
theorem zpP {α:Type}{l:List α}{y z:α}{k:Nat}(h:(l++[y])[k]? = some z):l[k]? = some z\/(k=l.length/\z=y):=by
 by_cases hk:k<l.length
 ·rw[YG hk]at h;exact .inl h
 ·rw[Yy (by lia)]at h;cases hm:k-l.length with
  | zero=>rw[hm]at h;exact .inr ⟨by lia,(Option.some.inj h).symm⟩
  | succ m=>rw[hm]at h;cases h
section
variable {P:Wl}{w:Wt}{K:Xa}{mg:Str->Option Wb}{base:Heap}
theorem zuu:zan ["_law_script","_law_cells","_law_at","_law_head","_law_many","_law_shape_here","_law_pool","_law_rows","_law_k","_law_lines_here"] ["_law_script"] (zac sLaw):=⟨rfl,rfl,rfl,by decide +kernel,rfl,by decide +kernel,by decide +kernel⟩
theorem zuv {f f1 f2 f3 f4 f5 f6:We}{fd fd1 fd2 fd3 fd4 fd5 fd6:Wr}(F:Fun K "law" "law" sLaw f fd) (Shape:Fx K mg "_law_shape" zeK ["_law_head","_law_cells"] f1 fd1) (GShape:FnOk P w K mg base CX0 6 f1 fd1 ["_law_head","_law_cells"] (spP K zdw)) (FilledUp:Fx K mg "_law_filled_up" zbK ["_law_cells","_law_at","_law_many"] f2 fd2) (GFilledUp:FnOk P w K mg base CX0 6 f2 fd2 ["_law_cells","_law_at","_law_many"] (spP K zbr))
  (Mixed:Fx K mg "_law_mixed" zbY ["_law_cell","_law_k"] f3 fd3) (Pool:Fx K mg "_law_cell_pool" zhE ["_law_cell"] f5 fd5) (DrawnRows:Fx K mg "_law_drawn_rows" zbb ["_law_cells","_law_pattern","_law_pool"] f6 fd6) (GDrawnRows:FnOk P w K mg base CX0 6 f6 fd6 ["_law_cells","_law_pattern","_law_pool"] (spP K zbc))
  (Right:Fx K mg "_law_right" zdL ["_law_shape_here","_law_rows"] f4 fd4) (GRight:FnOk P w K mg base CX0 6 f4 fd4 ["_law_shape_here","_law_rows"] (spP K zeQ)) (B:Bl mg):FnOk P w K mg base CX0 7 f fd ["_law_script"] (spP K fLaw):=by
 have GMixed:FnOk P w K mg base CX0 6 f3 fd3 ["_law_cell","_law_k"] (spP K zbl):=(zcZ Mixed.fn B).mono (by decide);have GPool:FnOk P w K mg base CX0 6 f5 fd5 ["_law_cell"] (spP K ziQ):=(zsi Pool.fn Mixed B).mono (by decide);refine zat F zuu (λds Q ⟨a,e,_⟩=>by rw[e];rfl) (λcdv A outer s H E hr=>?_);have hu:(A.deeper (WB "law" (zac sLaw) s.heap.objs.size f cdv)).units+16<Wz:=by have q:=hr.units;lia
 have nd:=zuu.nd;refine⟨_,(zad (zah (i:=1) nd rfl (Or.inl rfl) (zdI (zcR (zaa 0) zey (zbI zaf)) (zbg (zab zaf zae))))
   (zad (zah (i:=2) nd rfl (Or.inl rfl) zaf)
   (zad (zcb 1 (zeu PassesOwn.never (zkc (zaa 2) (zaZ rfl B.len (zab (zaa 1) zae))) (zad (zah (i:=3) nd rfl (Or.inl rfl) (zal (zaa 1) (zaa 2)))
   (zad (zah (i:=4) nd rfl (Or.inl rfl) (zbj zaf (zaK (zaa 3) zaf)))
   (zad (zah (i:=5) nd rfl (Or.inl rfl) (zao GShape zlH hr rfl Shape.mg Shape.fn.kp Shape.bd (zab (zaa 3) (zab (zao GFilledUp zeM hr rfl FilledUp.mg FilledUp.fn.kp FilledUp.bd (zab (zaa 1) (zab (zbj (zaa 2) zaf) (zab (zaa 4) zae)))) zae))))
   (zad (zcb 5 (zah (i:=6) nd rfl (Or.inl rfl) (zao GPool znX hr rfl Pool.mg Pool.fn.kp Pool.bd (zab (zdd (zaa 3) zaf) zae))))
   (zad (zcb 6 (zah (i:=2) nd rfl (Or.inl rfl) (zbj (zbj (zaa 2) zaf) (zaa 4))))
   (zad (zah (i:=7) nd rfl (Or.inl rfl) (zbg zae))
   (zad (zaJ rfl PassesOwn.never (zaL rfl B.range (zab (zaa 4) zae)) (zai (i:=8) nd rfl (Or.inl rfl)) (zad (zah (i:=9) nd rfl (Or.inl rfl) (zal (zbg (zab zaf (zab zaf (zab zaf (zab zaf zae))))) (zaK (zao GMixed zaI hr rfl Mixed.mg Mixed.fn.kp Mixed.bd (zab (zaa 3) (zab (zbj zaf (zaa 8)) zae))) zaf)))
   (zad (zbF (zgI (zaK (zdd (zaa 3) zaf) zaf) zaf) (zag (zah (i:=9) nd rfl (Or.inl rfl) (zmV rfl rfl B.max (zab zaf (zab (zaa 9) zae))))) zaE)
   (zad (zaN (zaH 7 (zao GDrawnRows zgx hr rfl DrawnRows.mg DrawnRows.fn.kp DrawnRows.bd (zab (zao GFilledUp zeM hr rfl FilledUp.mg FilledUp.fn.kp FilledUp.bd (zab (zaa 1) (zab (zaa 2) (zab (zaa 9) zae)))) (zab (zal (zaa 5) (zaa 8)) (zab (zaa 6) zae))))))
   (zag (zah (i:=2) nd rfl (Or.inl rfl) (zbj (zaa 2) (zaa 9))))))))
   (zag (zcb 7 (zbF (zhl (zfL (zao GRight zlM hr rfl Right.mg Right.fn.kp Right.bd (zab (zaa 5) (zab (zaa 7) zae))))) (zag (zaq zoJ)) zaE))))))))))))
   (zag (zaq zoJ))))),λds Q h=>?_⟩
 obtain⟨ns,rfl,hns,q⟩:=h;have hsz:=Wo;walk_at "pu";obtain⟨cs,hcs,hcl⟩:∃cs:List Int,cutP (ns.map PV.int) none (some 63)=cs.map PV.int/\cs.length<=63:=by
  have e:cutP (ns.map PV.int) none (some 63)=((ns.map PV.int).take 63):=zpO _ 63;exact⟨ns.take 63,by rw[e,List.map_take],by rw[XY];lia⟩
 rw[hcs,show cs.map PV.int++[PV.int 0]=(cs++[0]).map PV.int by rw[Xn];rfl];have hdl:(cs++[(0:Int)]).length<=64:=by rw[Xm,Ya];lia
 generalize cs++[(0:Int)]=ds at hdl;refine⟨by lia,by rw[Xb];lia,?_⟩;walk_at "go";walk_at "auto";obtain⟨Iv,hIv⟩:∃Iv:Nat->PEnv->Prop,∀m ρ,Iv m ρ↔∃(a:Nat) (v3 v4 v5 v6 v7 v8 v9:Option (PV×Bool)),ρ=[some (PV.lst (ns.map PV.int),false),some (PV.lst (ds.map PV.int),false),some (PV.int a,false),v3,v4,v5,v6,v7,v8,v9]/\m=ds.length-a:=⟨_,λ_ _=>Iff.rfl⟩;refine⟨Iv,⟨_,(hIv _ _).mpr ⟨0,_,_,_,_,_,_,_,rfl,rfl⟩⟩,?_⟩;intro m ρ hI;obtain⟨a,v3,v4,v5,v6,v7,v8,v9,rfl,rfl⟩:=(hIv _ _).mp hI;walk_at "go";rw[Xb];refine ite2 (λhlt=>?_) (λhge=>?_)
 ·have hal:a<ds.length:=by lia
  have n1:=Yq ds[a] (show(4:Int)≠0 by decide);have n2:=Yh ds[a] (show(0:Int)<4 by decide);refine seqK λN hN=>?_;walk_at "go";refine⟨_,cget hal rfl,hN _ (seqK λN hN=>?_)⟩;walk_at "go";obtain⟨mn,hmn⟩:∃mn:Nat,1+ds[a] % 4=mn:=⟨(1+ds[a] % 4).toNat,by lia⟩;rw[hmn];refine⟨by decide,hN _ (seqK λN hN=>?_)⟩;walk_at "go";refine⟨⟨ds,rfl⟩,by lia,by lia,by lia,by lia,λzs hz=>⟨zs,rfl,by lia,by lia,λsh S hsl=>?_⟩⟩;rw[hz,Yc]at hsl;refine(λ(key:∀bb:Bool,N [_,_,_,_,_,some (PV.lst (List.map ltsP sh),bb),_,_,_,_])=>⟨key true,key false⟩) ?_;intro bb;refine hN _ (seqK λN hN=>?_);refine(λ(fin:∀x y z:Int,N [some (PV.lst (ns.map PV.int),false),some (PV.lst (ds.map PV.int),false),some (PV.int a,false),some (PV.int ds[a],false),some (PV.int mn,false),some (PV.lst (sh.map ltsP),false),some (PV.lst [PV.int x,PV.int y,PV.int z],true),v7,v8,v9])=>?_) (λx y z=>hN _ ?_)
  ·cases bb
   ·walk_at "go";exact⟨⟨by decide,by decide⟩,fin⟩
   ·walk_at "go";exact⟨⟨by decide,by decide⟩,fin⟩
  clear hN N;refine seqK λN hN=>?_;walk_at "go";rw[show((a:Int)+1+(mn:Int))=((a+1+mn:Nat):Int) by lia];refine hN _ (seqK λN hN=>?_);walk_at "go";refine⟨XH _,hN _ (seqK λN hN=>?_)⟩;walk_at "go";rw[Yc];obtain⟨Iw,hIw⟩:∃Iw:Nat->PEnv->Prop,∀i ρ,Iw i ρ↔∃(ts:List (List (List Int))) (b:Nat) (v1 v2:Option (PV×Bool)),ρ=[some (PV.lst (ns.map PV.int),false),some (PV.lst (ds.map PV.int),false),some (PV.int b,false),some (PV.int ds[a],false),some (PV.int mn,false),some (PV.lst (sh.map ltsP),false),some (PV.lst [PV.int x,PV.int y,PV.int z],false),some (PV.lst (ts.map tabP),true),v1,v2]/\
    Fits sh ts/\ts.length=i/\a<b/\b<=a+5+5*i:=⟨_,λ_ _=>Iff.rfl⟩
  refine⟨by lia,by lia,Iw,(hIw _ _).mpr ⟨[],a+1+mn,_,_,rfl,⟨XH _,λ_ h=>(nomatch h),λ_ h=>(nomatch h),λi t h=>by simp at h⟩,rfl,by lia,by lia⟩,?_,?_⟩
  ·intro i d ρ hd hI;obtain⟨ts,b,v1,v2,rfl,hF,hl,hb1,hb2⟩:=(hIw _ _).mp hI;obtain⟨hi,rfl⟩:=zbV hd;have hi':i<sh.length:=by lia
   refine seqK λN2 hN2=>?_;have app:∀m:Nat,m<=5->N2 [some (PV.lst (ns.map PV.int),false),some (PV.lst (ds.map PV.int),false),some (PV.int b,false),some (PV.int ds[a],false),some (PV.int mn,false),some (PV.lst (sh.map ltsP),false),some (PV.lst [PV.int x,PV.int y,PV.int z],false),some (PV.lst (ts.map tabP),true),some (PV.int (0+(i:Int)),false),some (PV.int m,false)]:=by
    intro m hm;refine hN2 _ (seqK λN3 hN3=>?_);have app2:∀m:Nat,m<=5->N3 [some (PV.lst (ns.map PV.int),false),some (PV.lst (ds.map PV.int),false),some (PV.int b,false),some (PV.int ds[a],false),some (PV.int mn,false),some (PV.lst (sh.map ltsP),false),some (PV.lst [PV.int x,PV.int y,PV.int z],false),some (PV.lst (ts.map tabP),true),some (PV.int (0+(i:Int)),false),some (PV.int m,false)]:=by
     intro m hm;refine hN3 _ ?_;walk_at "go";have hat:atI (sh.map ltsP) (0+(i:Int))=some (ltsP sh[i]):=by
      rw[Int.zero_add];exact zaR (by simp[hi'])
     have hsi:=Yd hi';have hw4:=S.wid _ hsi;refine⟨by rw[Xb];lia,⟨ds,rfl⟩,by lia,by lia,by lia,by lia,λzs hz=>⟨_,hat,zs,rfl,sh[i],rfl,S.ne _ hsi,by lia,by lia,λrs hrn hrs hrl=>?_⟩⟩;walk_at "go";refine(hIw _ _).mpr ⟨ts++[rs],b+m,some (PV.int (0+(i:Int)),false),some (PV.int m,false),?_,⟨by rw[Xm,Ya];lia,λt ht=>?_,λt ht=>?_,λk t hk r hr=>?_⟩,by rw[Xm,Ya];lia,by lia,by lia⟩
     ·rw[Xn];rfl
     ·rcases XR.mp ht with ht | ht
      ·exact hF.few t ht
      ·rw[Xv]at ht;rw[ht];lia
     ·rcases XR.mp ht with ht | ht
      ·exact hF.nd t ht
      ·rw[Xv]at ht;rw[ht];exact hrn
     ·rcases zpP hk with hk | ⟨hk1,hk2⟩
      ·exact hF.row k t hk r hr
      ·subst hk2;rw[hk1,hl,hrs r hr,XA,Xg hi'];rfl
    walk_at "go";refine⟨⟨by decide,by decide⟩,by decide,ite2 (λe=>?_) (λe=>?_)⟩
    ·walk_at "go";by_cases h2:(3:Int)<m
     ·simp only[h2,if_true];exact app2 m hm
     ·simp only[h2,if_false];exact app2 3 (by decide)
    ·walk_at "go";exact app2 m hm
   walk_at "go";have m1:=Yq (mixed ds[a] (50+(0+(i:Int)))) (show(4:Int)≠0 by decide);have m2:=Yh (mixed ds[a] (50+(0+(i:Int)))) (show(0:Int)<4 by decide);refine⟨by lia,by lia,by lia,by decide,?_⟩;generalize mixed ds[a] (50+(0+(i:Int))) % 4=o at m1 m2 ⊢;have ho:o=0\/o=1\/o=2\/o=3:=by lia
   rcases ho with rfl | rfl | rfl | rfl
   ·exact⟨_,rfl,app 0 (by decide)⟩
   ·exact⟨_,rfl,app 3 (by decide)⟩
   ·exact⟨_,rfl,app 4 (by decide)⟩
   ·exact⟨_,rfl,app 5 (by decide)⟩
  ·intro ρ hI;obtain⟨ts,b,v1,v2,rfl,hF,hl,hb1,hb2⟩:=(hIw _ _).mp hI;rw[zbf]at hl;refine hN _ ?_;walk_at "go";refine⟨sh,rfl,ts,rfl,S,hF,by lia,by lia,?_⟩;exact⟨_,(by lia:ds.length-b<ds.length-a),(hIv _ _).mpr ⟨b,_,_,_,_,_,_,_,rfl,rfl⟩⟩
 ·walk_at "go";exact q
end
theorem zpQ:∀ns:List Int,ns.length<=63->fLaw [.lst (ns.map PV.int)] λd k=>d=.bl true:=λns h=>⟨ns,rfl,h,rfl⟩
def see (K:Xa):List HK.Seen×List (Option (Option Wb))×List Bool×Bool×Bool×Bool×Bool×Bool×Option (Option Wb)×Option (Option Wb)×Option (Option Wb)×Option (Option Wb)×Option (Option Wb):=
  ([HK.zay K (Xc K Wc "letters_of"),HK.zay K (Xc K Wc "first_lines"),HK.zay K (Xc K Wc "greatest_divisor"),HK.zay K (Xc K Wc "weights"),HK.zay K (Xc K Wc "power"),HK.zay K (Xc K Wc "bound"),HK.zay K (Xc K Wc "_law_whole"),HK.zay K (Xc K Wc "_law_mixed"),HK.zay K (Xc K Wc "_law_picked"),HK.zay K (Xc K Wc "_law_alphabet"),HK.zay K (Xc K Wc "_law_any"),HK.zay K (Xc K Wc "_law_ring"),HK.zay K (Xc K Wc "_law_tree"),HK.zay K (Xc K Wc "_law_shape"),HK.zay K (Xc K Wc "_law_filled_up"),HK.zay K (Xc K Wc "_law_cell_pool"),HK.zay K (Xc K Wc "_law_lines"),HK.zay K (Xc K Wc "_law_drawn_rows"),HK.zay K (Xc K Wc "_law_letters"),HK.zay K (Xc K Wc "_law_joined"),HK.zay K (Xc K Wc "_law_answers"),HK.zay K (Xc K Wc "_law_power"),HK.zay K (Xc K Wc "_law_right"),HK.zay K (Xc K Wc "law"),HK.zay K (Xy K (.ref (HK.ref? (Xc K Wc "Board"))) "__init__"),HK.zay K (Xy K (.ref (HK.ref? (Xc K Wc "Board"))) "column_to_raise"),HK.zay K (Xy K (.ref (HK.ref? (Xc K Wc "Board"))) "ends_sooner"),HK.zay K (Xy K (.ref (HK.ref? (Xc K Wc "Board"))) "line_that_ends"),HK.zay K (Xy K (.ref (HK.ref? (Xc K Wc "Board"))) "without"),HK.zay K (Xy K (.ref (HK.ref? (Xc K Wc "Board"))) "turn"),HK.zay K (Xy K (.ref (HK.ref? (Xc K Wc "Board"))) "settle"),HK.zay K (Xy K (.ref (HK.ref? (Xc K Wc "Board"))) "price"),HK.zay K (Xy K (.ref (HK.ref? (Xc K Wc "Board"))) "prices"),HK.zay K (Xy K (.ref (HK.ref? (Xc K Wc "Board"))) "worths")],
   [Xc K Wc "range",Xc K Wc "len",Xc K Wc "list",Xc K Wc "tuple",Xc K Wc "sorted",Xc K Wc "set",Xc K Wc "isinstance",Xc K Wc "str",Xc K Wc "int",Xc K Wc "bool",Xc K Wc "dict",Xc K Wc "enumerate",Xc K Wc "zip",Xc K Wc "min",Xc K Wc "max",Xc K Wc "sum",Xc K Wc "all",Xc K Wc "any",Xc K Wc "reversed",Xc K Wc "abs",Xc K Wc "ord"],
   [HK.isRef (Xc K Wc "Board")],
   PySem.W.makesIn K (HK.ref? (Xc K Wc "Board")),
   PySem.W.keepIn K (.ref (HK.ref? (Xc K Wc "Board"))),
   PySem.W.plainGet K (HK.ref? (Xc K Wc "Board")) Str.empty,
   PySem.W.hasDictIn K (HK.ref? (Xc K Wc "Board")),
   PySem.W.plainOver K (HK.ref? (Xc K Wc "Board")),
   Xy K (.ref (HK.ref? (Xc K Wc "Board"))) "__setattr__",
   Xy K (.ref (HK.ref? (Xc K Wc "Board"))) "width",
   Xy K (.ref (HK.ref? (Xc K Wc "Board"))) "bottom",
   Xy K (.ref (HK.ref? (Xc K Wc "Board"))) "lines",
   Xy K (.ref (HK.ref? (Xc K Wc "Board"))) "held")
def told:List HK.Seen×List (Option (Option Wb))×List Bool×Bool×Bool×Bool×Bool×Bool×Option (Option Wb)×Option (Option Wb)×Option (Option Wb)×Option (Option Wb)×Option (Option Wb):=
  ([HK.zaz "letters_of" "letters_of" (zam zba) (zaj zba) (zac zba),HK.zaz "first_lines" "first_lines" (zam zaw) (zaj zaw) (zac zaw),HK.zaz "greatest_divisor" "greatest_divisor" (zam sGcd) (zaj sGcd) (zac sGcd),HK.zaz "weights" "weights" (zam zbt) (zaj zbt) (zac zbt),HK.zaz "power" "power" (zam zeH) (zaj zeH) (zac zeH),HK.zaz "bound" "bound" (zam zeI) (zaj zeI) (zac zeI),HK.zaz "_law_whole" "_law_whole" (zam zeJ) (zaj zeJ) (zac zeJ),HK.zaz "_law_mixed" "_law_mixed" (zam zbY) (zaj zbY) (zac zbY),HK.zaz "_law_picked" "_law_picked" (zam zcc) (zaj zcc) (zac zcc),HK.zaz "_law_alphabet" "_law_alphabet" (zam zbJ) (zaj zbJ) (zac zbJ),HK.zaz "_law_any" "_law_any" (zam sAny) (zaj sAny) (zac sAny),HK.zaz "_law_ring" "_law_ring" (zam zgt) (zaj zgt) (zac zgt),HK.zaz "_law_tree" "_law_tree" (zam zhD) (zaj zhD) (zac zhD),HK.zaz "_law_shape" "_law_shape" (zam zeK) (zaj zeK) (zac zeK),HK.zaz "_law_filled_up" "_law_filled_up" (zam zbK) (zaj zbK) (zac zbK),HK.zaz "_law_cell_pool" "_law_cell_pool" (zam zhE) (zaj zhE) (zac zhE),HK.zaz "_law_lines" "_law_lines" (zam zeL) (zaj zeL) (zac zeL),HK.zaz "_law_drawn_rows" "_law_drawn_rows" (zam zbb) (zaj zbb) (zac zbb),HK.zaz "_law_letters" "_law_letters" (zam zcm) (zaj zcm) (zac zcm),HK.zaz "_law_joined" "_law_joined" (zam zcV) (zaj zcV) (zac zcV),HK.zaz "_law_answers" "_law_answers" (zam zbL) (zaj zbL) (zac zbL),HK.zaz "_law_power" "_law_power" (zam zcW) (zaj zcW) (zac zcW),HK.zaz "_law_right" "_law_right" (zam zdL) (zaj zdL) (zac zdL),HK.zaz "law" "law" (zam sLaw) (zaj sLaw) (zac sLaw),HK.zaz "__init__" "Board.__init__" (zam zdM) (zaj zdM) (zac zdM),HK.zaz "column_to_raise" "Board.column_to_raise" (zam sCol) (zaj sCol) (zac sCol),HK.zaz "ends_sooner" "Board.ends_sooner" (zam zct) (zaj zct) (zac zct),HK.zaz "line_that_ends" "Board.line_that_ends" (zam zgu) (zaj zgu) (zac zgu),HK.zaz "without" "Board.without" (zam zbu) (zaj zbu) (zac zbu),HK.zaz "turn" "Board.turn" (zam zgb) (zaj zgb) (zac zgb),HK.zaz "settle" "Board.settle" (zam zcX) (zaj zcX) (zac zcX),HK.zaz "price" "Board.price" (zam zdN) (zaj zdN) (zac zdN),HK.zaz "prices" "Board.prices" (zam zcC) (zaj zcC) (zac zcC),HK.zaz "worths" "Board.worths" (zam zcY) (zaj zcY) (zac zcY)],
   [some none,some none,some none,some none,some none,some none,some none,some none,some none,some none,some none,some none,some none,some none,some none,some none,some none,some none,some none,some none,some none],
   [true],
   true,
   true,
   true,
   true,
   true,
   some (some (.builtin "object.__setattr__")),
   some none,
   some none,
   some none,
   some none)
theorem len1 {us:List Wb}{s0:Str}(h:us.length=[s0].length):∃a0,us=[a0]:=by obtain⟨a0,us,rfl⟩:=XF h;have h:=Nat.succ.inj h;rw[Yf.mp h];exact⟨a0,rfl⟩
theorem len2 {us:List Wb}{s0 s1:Str}(h:us.length=[s0,s1].length):∃a0 a1,us=[a0,a1]:=by obtain⟨a0,us,rfl⟩:=XF h;have h:=Nat.succ.inj h;obtain⟨a1,us,rfl⟩:=XF h;have h:=Nat.succ.inj h;rw[Yf.mp h];exact⟨a0,a1,rfl⟩
theorem len3 {us:List Wb}{s0 s1 s2:Str}(h:us.length=[s0,s1,s2].length):∃a0 a1 a2,us=[a0,a1,a2]:=by obtain⟨a0,us,rfl⟩:=XF h;have h:=Nat.succ.inj h;obtain⟨a1,us,rfl⟩:=XF h;have h:=Nat.succ.inj h;obtain⟨a2,us,rfl⟩:=XF h;have h:=Nat.succ.inj h;rw[Yf.mp h];exact⟨a0,a1,a2,rfl⟩
theorem len4 {us:List Wb}{s0 s1 s2 s3:Str}(h:us.length=[s0,s1,s2,s3].length):∃a0 a1 a2 a3,us=[a0,a1,a2,a3]:=by obtain⟨a0,us,rfl⟩:=XF h;have h:=Nat.succ.inj h;obtain⟨a1,us,rfl⟩:=XF h;have h:=Nat.succ.inj h;obtain⟨a2,us,rfl⟩:=XF h;have h:=Nat.succ.inj h;obtain⟨a3,us,rfl⟩:=XF h;have h:=Nat.succ.inj h;rw[Yf.mp h];exact⟨a0,a1,a2,a3,rfl⟩
theorem all_mk {l:PySem.W.OpenLaw}{w:Wt}{K:Xa}{h:Heap}{mg:Str->Option Wb}{fa:We}(E:see K=told)(X:K.In h)(G:h.Ns Wc mg)(hfa:mg "law" = some (.ref fa)) :
  ∃fd:Wr,(∀(s:Wd) (v:Wb),BindsTo s fd ⟨[v],[]⟩ [("_law_script",v)])/\∀base:Heap,K.In base->base.Ns Wc mg->FnOk l.prog w K mg base CX0 7 fa fd ["_law_script"] (spP K fLaw):=by
 have e1:=congrArg Prod.fst (E);have e2:=congrArg Prod.fst (congrArg Prod.snd (E));have e3:=congrArg Prod.fst (congrArg Prod.snd (congrArg Prod.snd (E)));have mk0:=congrArg Prod.fst (congrArg Prod.snd (congrArg Prod.snd (congrArg Prod.snd (E))));have kc0:=congrArg Prod.fst (congrArg Prod.snd (congrArg Prod.snd (congrArg Prod.snd (congrArg Prod.snd (E)))));have tc1:=congrArg Prod.fst (congrArg Prod.snd (congrArg Prod.snd (congrArg Prod.snd (congrArg Prod.snd (congrArg Prod.snd (E))))));have tc2:=congrArg Prod.fst (congrArg Prod.snd (congrArg Prod.snd (congrArg Prod.snd (congrArg Prod.snd (congrArg Prod.snd (congrArg Prod.snd (E)))))));have tc3:=congrArg Prod.fst (congrArg Prod.snd (congrArg Prod.snd (congrArg Prod.snd (congrArg Prod.snd (congrArg Prod.snd (congrArg Prod.snd (congrArg Prod.snd (E))))))));have tc4:=congrArg Prod.fst (congrArg Prod.snd (congrArg Prod.snd (congrArg Prod.snd (congrArg Prod.snd (congrArg Prod.snd (congrArg Prod.snd (congrArg Prod.snd (congrArg Prod.snd (E)))))))));have t_width:=congrArg Prod.fst (congrArg Prod.snd (congrArg Prod.snd (congrArg Prod.snd (congrArg Prod.snd (congrArg Prod.snd (congrArg Prod.snd (congrArg Prod.snd (congrArg Prod.snd (congrArg Prod.snd (E))))))))));have t_bottom:=congrArg Prod.fst (congrArg Prod.snd (congrArg Prod.snd (congrArg Prod.snd (congrArg Prod.snd (congrArg Prod.snd (congrArg Prod.snd (congrArg Prod.snd (congrArg Prod.snd (congrArg Prod.snd (congrArg Prod.snd (E)))))))))));have t_lines:=congrArg Prod.fst (congrArg Prod.snd (congrArg Prod.snd (congrArg Prod.snd (congrArg Prod.snd (congrArg Prod.snd (congrArg Prod.snd (congrArg Prod.snd (congrArg Prod.snd (congrArg Prod.snd (congrArg Prod.snd (congrArg Prod.snd (E))))))))))));have t_held:=congrArg Prod.snd (congrArg Prod.snd (congrArg Prod.snd (congrArg Prod.snd (congrArg Prod.snd (congrArg Prod.snd (congrArg Prod.snd (congrArg Prod.snd (congrArg Prod.snd (congrArg Prod.snd (congrArg Prod.snd (congrArg Prod.snd (E))))))))))));replace mk0:PySem.W.makesIn K (HK.ref? (Xc K Wc "Board"))=true:=mk0;replace kc0:PySem.W.keepIn K (.ref (HK.ref? (Xc K Wc "Board")))=true:=kc0;replace tc1:PySem.W.plainGet K (HK.ref? (Xc K Wc "Board")) Str.empty=true:=tc1;replace tc2:PySem.W.hasDictIn K (HK.ref? (Xc K Wc "Board"))=true:=tc2;replace tc3:PySem.W.plainOver K (HK.ref? (Xc K Wc "Board"))=true:=tc3;replace tc4:Xy K (.ref (HK.ref? (Xc K Wc "Board"))) "__setattr__" = some (some (.builtin "object.__setattr__")):=tc4;replace t_width:Xy K (.ref (HK.ref? (Xc K Wc "Board"))) "width" = some none:=t_width;replace t_bottom:Xy K (.ref (HK.ref? (Xc K Wc "Board"))) "bottom" = some none:=t_bottom;replace t_lines:Xy K (.ref (HK.ref? (Xc K Wc "Board"))) "lines" = some none:=t_lines;replace t_held:Xy K (.ref (HK.ref? (Xc K Wc "Board"))) "held" = some none:=t_held;have y0:=HK.ztV (v:=Xc K Wc "Board") (Option.some.inj (HK.pick e3 0));have D0:HK.Def K "letters_of" "letters_of" zba (Xc K Wc "letters_of"):=HK.zaD (Option.some.inj (HK.pick e1 0));have X0:Fx K mg "letters_of" zba ["shape"] _ _:=⟨D0.fn,D0.fn.binds (ps:=["shape"]) λ_ _ _ _ _ _ us hl=>by obtain⟨_,rfl⟩:=len1 hl;rfl,XW X G D0.ad⟩;have D1:HK.Def K "first_lines" "first_lines" zaw (Xc K Wc "first_lines"):=HK.zaD (Option.some.inj (HK.pick e1 1));have X1:Fx K mg "first_lines" zaw ["shape","letters"] _ _:=⟨D1.fn,D1.fn.binds (ps:=["shape","letters"]) λ_ _ _ _ _ _ us hl=>by obtain⟨_,_,rfl⟩:=len2 hl;rfl,XW X G D1.ad⟩;have D2:HK.Def K "greatest_divisor" "greatest_divisor" sGcd (Xc K Wc "greatest_divisor"):=HK.zaD (Option.some.inj (HK.pick e1 2));have X2:Fx K mg "greatest_divisor" sGcd ["numbers"] _ _:=⟨D2.fn,D2.fn.binds (ps:=["numbers"]) λ_ _ _ _ _ _ us hl=>by obtain⟨_,rfl⟩:=len1 hl;rfl,XW X G D2.ad⟩;have D3:HK.Def K "weights" "weights" zbt (Xc K Wc "weights"):=HK.zaD (Option.some.inj (HK.pick e1 3));have X3:Fx K mg "weights" zbt ["shape"] _ _:=⟨D3.fn,D3.fn.binds (ps:=["shape"]) λ_ _ _ _ _ _ us hl=>by obtain⟨_,rfl⟩:=len1 hl;rfl,XW X G D3.ad⟩;have D4:HK.Def K "power" "power" zeH (Xc K Wc "power"):=HK.zaD (Option.some.inj (HK.pick e1 4));have X4:Fx K mg "power" zeH ["base","exponent"] _ _:=⟨D4.fn,D4.fn.binds (ps:=["base","exponent"]) λ_ _ _ _ _ _ us hl=>by obtain⟨_,_,rfl⟩:=len2 hl;rfl,XW X G D4.ad⟩;have D5:HK.Def K "bound" "bound" zeI (Xc K Wc "bound"):=HK.zaD (Option.some.inj (HK.pick e1 5));have X5:Fx K mg "bound" zeI ["shape","rows"] _ _:=⟨D5.fn,D5.fn.binds (ps:=["shape","rows"]) λ_ _ _ _ _ _ us hl=>by obtain⟨_,_,rfl⟩:=len2 hl;rfl,XW X G D5.ad⟩;have D6:HK.Def K "_law_whole" "_law_whole" zeJ (Xc K Wc "_law_whole"):=HK.zaD (Option.some.inj (HK.pick e1 6));have X6:Fx K mg "_law_whole" zeJ ["_law_found"] _ _:=⟨D6.fn,D6.fn.binds (ps:=["_law_found"]) λ_ _ _ _ _ _ us hl=>by obtain⟨_,rfl⟩:=len1 hl;rfl,XW X G D6.ad⟩;have D7:HK.Def K "_law_mixed" "_law_mixed" zbY (Xc K Wc "_law_mixed"):=HK.zaD (Option.some.inj (HK.pick e1 7));have X7:Fx K mg "_law_mixed" zbY ["_law_cell","_law_k"] _ _:=⟨D7.fn,D7.fn.binds (ps:=["_law_cell","_law_k"]) λ_ _ _ _ _ _ us hl=>by obtain⟨_,_,rfl⟩:=len2 hl;rfl,XW X G D7.ad⟩;have D8:HK.Def K "_law_picked" "_law_picked" zcc (Xc K Wc "_law_picked"):=HK.zaD (Option.some.inj (HK.pick e1 8));have X8:Fx K mg "_law_picked" zcc ["_law_cell","_law_some","_law_many"] _ _:=⟨D8.fn,D8.fn.binds (ps:=["_law_cell","_law_some","_law_many"]) λ_ _ _ _ _ _ us hl=>by obtain⟨_,_,_,rfl⟩:=len3 hl;rfl,XW X G D8.ad⟩;have D9:HK.Def K "_law_alphabet" "_law_alphabet" zbJ (Xc K Wc "_law_alphabet"):=HK.zaD (Option.some.inj (HK.pick e1 9));have X9:Fx K mg "_law_alphabet" zbJ ["_law_cell"] _ _:=⟨D9.fn,D9.fn.binds (ps:=["_law_cell"]) λ_ _ _ _ _ _ us hl=>by obtain⟨_,rfl⟩:=len1 hl;rfl,XW X G D9.ad⟩;have D10:HK.Def K "_law_any" "_law_any" sAny (Xc K Wc "_law_any"):=HK.zaD (Option.some.inj (HK.pick e1 10));have X10:Fx K mg "_law_any" sAny ["_law_cells","_law_letters_here"] _ _:=⟨D10.fn,D10.fn.binds (ps:=["_law_cells","_law_letters_here"]) λ_ _ _ _ _ _ us hl=>by obtain⟨_,_,rfl⟩:=len2 hl;rfl,XW X G D10.ad⟩;have D11:HK.Def K "_law_ring" "_law_ring" zgt (Xc K Wc "_law_ring"):=HK.zaD (Option.some.inj (HK.pick e1 11));have X11:Fx K mg "_law_ring" zgt ["_law_cells","_law_letters_here"] _ _:=⟨D11.fn,D11.fn.binds (ps:=["_law_cells","_law_letters_here"]) λ_ _ _ _ _ _ us hl=>by obtain⟨_,_,rfl⟩:=len2 hl;rfl,XW X G D11.ad⟩;have D12:HK.Def K "_law_tree" "_law_tree" zhD (Xc K Wc "_law_tree"):=HK.zaD (Option.some.inj (HK.pick e1 12));have X12:Fx K mg "_law_tree" zhD ["_law_cells","_law_letters_here"] _ _:=⟨D12.fn,D12.fn.binds (ps:=["_law_cells","_law_letters_here"]) λ_ _ _ _ _ _ us hl=>by obtain⟨_,_,rfl⟩:=len2 hl;rfl,XW X G D12.ad⟩;have D13:HK.Def K "_law_shape" "_law_shape" zeK (Xc K Wc "_law_shape"):=HK.zaD (Option.some.inj (HK.pick e1 13));have X13:Fx K mg "_law_shape" zeK ["_law_head","_law_cells"] _ _:=⟨D13.fn,D13.fn.binds (ps:=["_law_head","_law_cells"]) λ_ _ _ _ _ _ us hl=>by obtain⟨_,_,rfl⟩:=len2 hl;rfl,XW X G D13.ad⟩;have D14:HK.Def K "_law_filled_up" "_law_filled_up" zbK (Xc K Wc "_law_filled_up"):=HK.zaD (Option.some.inj (HK.pick e1 14));have X14:Fx K mg "_law_filled_up" zbK ["_law_cells","_law_at","_law_many"] _ _:=⟨D14.fn,D14.fn.binds (ps:=["_law_cells","_law_at","_law_many"]) λ_ _ _ _ _ _ us hl=>by obtain⟨_,_,_,rfl⟩:=len3 hl;rfl,XW X G D14.ad⟩;have D15:HK.Def K "_law_cell_pool" "_law_cell_pool" zhE (Xc K Wc "_law_cell_pool"):=HK.zaD (Option.some.inj (HK.pick e1 15));have X15:Fx K mg "_law_cell_pool" zhE ["_law_cell"] _ _:=⟨D15.fn,D15.fn.binds (ps:=["_law_cell"]) λ_ _ _ _ _ _ us hl=>by obtain⟨_,rfl⟩:=len1 hl;rfl,XW X G D15.ad⟩;have D16:HK.Def K "_law_lines" "_law_lines" zeL (Xc K Wc "_law_lines"):=HK.zaD (Option.some.inj (HK.pick e1 16));have X16:Fx K mg "_law_lines" zeL ["_law_rows"] _ _:=⟨D16.fn,D16.fn.binds (ps:=["_law_rows"]) λ_ _ _ _ _ _ us hl=>by obtain⟨_,rfl⟩:=len1 hl;rfl,XW X G D16.ad⟩;have D17:HK.Def K "_law_drawn_rows" "_law_drawn_rows" zbb (Xc K Wc "_law_drawn_rows"):=HK.zaD (Option.some.inj (HK.pick e1 17));have X17:Fx K mg "_law_drawn_rows" zbb ["_law_cells","_law_pattern","_law_pool"] _ _:=⟨D17.fn,D17.fn.binds (ps:=["_law_cells","_law_pattern","_law_pool"]) λ_ _ _ _ _ _ us hl=>by obtain⟨_,_,_,rfl⟩:=len3 hl;rfl,XW X G D17.ad⟩;have D18:HK.Def K "_law_letters" "_law_letters" zcm (Xc K Wc "_law_letters"):=HK.zaD (Option.some.inj (HK.pick e1 18));have X18:Fx K mg "_law_letters" zcm ["_law_shape_here"] _ _:=⟨D18.fn,D18.fn.binds (ps:=["_law_shape_here"]) λ_ _ _ _ _ _ us hl=>by obtain⟨_,rfl⟩:=len1 hl;rfl,XW X G D18.ad⟩;have D19:HK.Def K "_law_joined" "_law_joined" zcV (Xc K Wc "_law_joined"):=HK.zaD (Option.some.inj (HK.pick e1 19));have X19:Fx K mg "_law_joined" zcV ["_law_found","_law_pattern","_law_row"] _ _:=⟨D19.fn,D19.fn.binds (ps:=["_law_found","_law_pattern","_law_row"]) λ_ _ _ _ _ _ us hl=>by obtain⟨_,_,_,rfl⟩:=len3 hl;rfl,XW X G D19.ad⟩;have D20:HK.Def K "_law_answers" "_law_answers" zbL (Xc K Wc "_law_answers"):=HK.zaD (Option.some.inj (HK.pick e1 20));have X20:Fx K mg "_law_answers" zbL ["_law_shape_here","_law_rows"] _ _:=⟨D20.fn,D20.fn.binds (ps:=["_law_shape_here","_law_rows"]) λ_ _ _ _ _ _ us hl=>by obtain⟨_,_,rfl⟩:=len2 hl;rfl,XW X G D20.ad⟩;have D21:HK.Def K "_law_power" "_law_power" zcW (Xc K Wc "_law_power"):=HK.zaD (Option.some.inj (HK.pick e1 21));have X21:Fx K mg "_law_power" zcW ["_law_number","_law_times"] _ _:=⟨D21.fn,D21.fn.binds (ps:=["_law_number","_law_times"]) λ_ _ _ _ _ _ us hl=>by obtain⟨_,_,rfl⟩:=len2 hl;rfl,XW X G D21.ad⟩;have D22:HK.Def K "_law_right" "_law_right" zdL (Xc K Wc "_law_right"):=HK.zaD (Option.some.inj (HK.pick e1 22));have X22:Fx K mg "_law_right" zdL ["_law_shape_here","_law_rows"] _ _:=⟨D22.fn,D22.fn.binds (ps:=["_law_shape_here","_law_rows"]) λ_ _ _ _ _ _ us hl=>by obtain⟨_,_,rfl⟩:=len2 hl;rfl,XW X G D22.ad⟩;have D24:HK.Def K "__init__" "Board.__init__" zdM (Xy K (.ref (HK.ref? (Xc K Wc "Board"))) "__init__"):=HK.zaD (Option.some.inj (HK.pick e1 24));have X24:Ix K mg (HK.ref? (Xc K Wc "Board")) "Board" "Board.__init__" zdM ["self","shape"] _ _:=⟨D24.fn,D24.fn.binds (ps:=["self","shape"]) λ_ _ _ _ _ _ us hl=>by obtain⟨_,_,rfl⟩:=len2 hl;rfl,⟨mk0,D24.ad,D24.is,kc0⟩,XW X G y0⟩;have D25:HK.Def K "column_to_raise" "Board.column_to_raise" sCol (Xy K (.ref (HK.ref? (Xc K Wc "Board"))) "column_to_raise"):=HK.zaD (Option.some.inj (HK.pick e1 25));have X25:Mx K (HK.ref? (Xc K Wc "Board")) "column_to_raise" "Board.column_to_raise" sCol ["self"] _ _:=⟨D25.fn,D25.fn.binds (ps:=["self"]) λ_ _ _ _ _ _ us hl=>by obtain⟨_,rfl⟩:=len1 hl;rfl,⟨D25.ad,D25.is,D25.kp⟩⟩;have D26:HK.Def K "ends_sooner" "Board.ends_sooner" zct (Xy K (.ref (HK.ref? (Xc K Wc "Board"))) "ends_sooner"):=HK.zaD (Option.some.inj (HK.pick e1 26));have X26:Mx K (HK.ref? (Xc K Wc "Board")) "ends_sooner" "Board.ends_sooner" zct ["self","i","j","column"] _ _:=⟨D26.fn,D26.fn.binds (ps:=["self","i","j","column"]) λ_ _ _ _ _ _ us hl=>by obtain⟨_,_,_,_,rfl⟩:=len4 hl;rfl,⟨D26.ad,D26.is,D26.kp⟩⟩;have D27:HK.Def K "line_that_ends" "Board.line_that_ends" zgu (Xy K (.ref (HK.ref? (Xc K Wc "Board"))) "line_that_ends"):=HK.zaD (Option.some.inj (HK.pick e1 27));have X27:Mx K (HK.ref? (Xc K Wc "Board")) "line_that_ends" "Board.line_that_ends" zgu ["self","column"] _ _:=⟨D27.fn,D27.fn.binds (ps:=["self","column"]) λ_ _ _ _ _ _ us hl=>by obtain⟨_,_,rfl⟩:=len2 hl;rfl,⟨D27.ad,D27.is,D27.kp⟩⟩;have D28:HK.Def K "without" "Board.without" zbu (Xy K (.ref (HK.ref? (Xc K Wc "Board"))) "without"):=HK.zaD (Option.some.inj (HK.pick e1 28));have X28:Mx K (HK.ref? (Xc K Wc "Board")) "without" "Board.without" zbu ["self","line","turned","column"] _ _:=⟨D28.fn,D28.fn.binds (ps:=["self","line","turned","column"]) λ_ _ _ _ _ _ us hl=>by obtain⟨_,_,_,_,rfl⟩:=len4 hl;rfl,⟨D28.ad,D28.is,D28.kp⟩⟩;have D29:HK.Def K "turn" "Board.turn" zgb (Xy K (.ref (HK.ref? (Xc K Wc "Board"))) "turn"):=HK.zaD (Option.some.inj (HK.pick e1 29));have X29:Mx K (HK.ref? (Xc K Wc "Board")) "turn" "Board.turn" zgb ["self","i","column"] _ _:=⟨D29.fn,D29.fn.binds (ps:=["self","i","column"]) λ_ _ _ _ _ _ us hl=>by obtain⟨_,_,_,rfl⟩:=len3 hl;rfl,⟨D29.ad,D29.is,D29.kp⟩⟩;have D30:HK.Def K "settle" "Board.settle" zcX (Xy K (.ref (HK.ref? (Xc K Wc "Board"))) "settle"):=HK.zaD (Option.some.inj (HK.pick e1 30));have X30:Mx K (HK.ref? (Xc K Wc "Board")) "settle" "Board.settle" zcX ["self"] _ _:=⟨D30.fn,D30.fn.binds (ps:=["self"]) λ_ _ _ _ _ _ us hl=>by obtain⟨_,rfl⟩:=len1 hl;rfl,⟨D30.ad,D30.is,D30.kp⟩⟩;have D31:HK.Def K "price" "Board.price" zdN (Xy K (.ref (HK.ref? (Xc K Wc "Board"))) "price"):=HK.zaD (Option.some.inj (HK.pick e1 31));have X31:Mx K (HK.ref? (Xc K Wc "Board")) "price" "Board.price" zdN ["self","column"] _ _:=⟨D31.fn,D31.fn.binds (ps:=["self","column"]) λ_ _ _ _ _ _ us hl=>by obtain⟨_,_,rfl⟩:=len2 hl;rfl,⟨D31.ad,D31.is,D31.kp⟩⟩;have D32:HK.Def K "prices" "Board.prices" zcC (Xy K (.ref (HK.ref? (Xc K Wc "Board"))) "prices"):=HK.zaD (Option.some.inj (HK.pick e1 32));have X32:Mx K (HK.ref? (Xc K Wc "Board")) "prices" "Board.prices" zcC ["self"] _ _:=⟨D32.fn,D32.fn.binds (ps:=["self"]) λ_ _ _ _ _ _ us hl=>by obtain⟨_,rfl⟩:=len1 hl;rfl,⟨D32.ad,D32.is,D32.kp⟩⟩;have D33:HK.Def K "worths" "Board.worths" zcY (Xy K (.ref (HK.ref? (Xc K Wc "Board"))) "worths"):=HK.zaD (Option.some.inj (HK.pick e1 33));have X33:Mx K (HK.ref? (Xc K Wc "Board")) "worths" "Board.worths" zcY ["self"] _ _:=⟨D33.fn,D33.fn.binds (ps:=["self"]) λ_ _ _ _ _ _ us hl=>by obtain⟨_,rfl⟩:=len1 hl;rfl,⟨D33.ad,D33.is,D33.kp⟩⟩;obtain⟨fl,oc,od,sl,kV,dc,pm,an,cd,ct,a,l,c,k,_⟩:=HK.zow (v:=Xc K Wc "law") (n:="law") (q:="law") (a:=zam sLaw) (b:=zaj sLaw) (c:=zac sLaw) (Option.some.inj (HK.pick e1 23));cases hfa.symm.trans (XW X G a);have F23:=zpW (st:=sLaw) l c k;have B:Bl mg:=⟨XG X G (Option.some.inj (HK.pick e2 0)),XG X G (Option.some.inj (HK.pick e2 1)),XG X G (Option.some.inj (HK.pick e2 2)),XG X G (Option.some.inj (HK.pick e2 3)),XG X G (Option.some.inj (HK.pick e2 4)),XG X G (Option.some.inj (HK.pick e2 5)),XG X G (Option.some.inj (HK.pick e2 6)),XG X G (Option.some.inj (HK.pick e2 7)),XG X G (Option.some.inj (HK.pick e2 8)),XG X G (Option.some.inj (HK.pick e2 9)),XG X G (Option.some.inj (HK.pick e2 10)),XG X G (Option.some.inj (HK.pick e2 11)),XG X G (Option.some.inj (HK.pick e2 12)),XG X G (Option.some.inj (HK.pick e2 13)),XG X G (Option.some.inj (HK.pick e2 14)),XG X G (Option.some.inj (HK.pick e2 15)),XG X G (Option.some.inj (HK.pick e2 16)),XG X G (Option.some.inj (HK.pick e2 17)),XG X G (Option.some.inj (HK.pick e2 18)),XG X G (Option.some.inj (HK.pick e2 19)),XG X G (Option.some.inj (HK.pick e2 20))⟩;have T:TF K (HK.ref? (Xc K Wc "Board")):=⟨⟨tc1,tc2,tc3,tc4⟩,t_width,t_bottom,t_lines,t_held⟩;exact⟨PySem.W.fnOf "law" "law" (zam sLaw) (zaj sLaw) (zac sLaw) .none kV dc pm an cd ct,λs v=>.of_eq rfl,λbase _ _=>zuv F23 X13 ((zpD X13.fn X7 X8 X9 X10 X11 X12 B).mono (by decide)) X14 ((zjD X14.fn B).mono (by decide)) X7 X15 X17 ((ziT X17.fn X7 X16 B).mono (by decide)) X22 (zpM X22.fn X6 X21 X20 ((zlK X20.fn X19 X18 B).mono (by decide)) X3 ((zgQ X3.fn T X24 X28 X26 X27 X25 X29 X30 X31 X32 X33 X0 X1 X2 B).mono (by decide)) X5 (zpL X5.fn X3 (zgQ X3.fn T X24 X28 X26 X27 X25 X29 X30 X31 X32 X33 X0 X1 X2 B) X4 B) B) B⟩
def vw:Wl:={ PySem.Challenge.pw_joinwood_k43_whole_bound with main:={ PySem.Challenge.pw_joinwood_k43_whole_bound.main with body:=[sLaw] } }
def lo:List PySem.Str:=["__name__","letters_of","first_lines","Board","greatest_divisor","weights","power","bound","_law_whole","_law_mixed","_law_picked","_law_alphabet","_law_any","_law_ring","_law_tree","_law_shape","_law_filled_up","_law_cell_pool","_law_lines","_law_drawn_rows","_law_letters","_law_joined","_law_answers","_law_power","_law_right"]
abbrev hk:PySem.W.Hook:=HK.hook see told
abbrev xt:Wd->Bool:=λs=>PySem.W.xlAt vw [] s&&PySem.W.recOk [] s
theorem ws:PySem.Challenge.rw_joinwood_k43_whole_bound.wellSaid=true:=by kernel_rfl
theorem hl:PySem.W.LeftO PySem.Challenge.pw_joinwood_k43_whole_bound vw lo xt hk.obs hk.val 20000:=by
 intro w
 kernel_rfl
end Q43
open PySem PySem.W
set_option maxRecDepth 100000 in
set_option maxHeartbeats 0 in
theorem PySem.Challenge.cw_joinwood_k43_whole_bound_holds : PySem.Challenge.rw_joinwood_k43_whole_bound.Holds := by
 refine holds_law Q43.ws fun said=>holds_open (r:=PySem.Challenge.rw_joinwood_k43_whole_bound.row) (Xt:=Q43.xt) (XP:=XL Q43.vw []) Q43.hl Q43.hk.of Q43.hk.keeps (fun s e=>xl_of s (Bool.and_eq_true_iff.mp e).1) XL.keeps rfl rfl rfl (fun s e=>recFacts_of (Bool.and_eq_true_iff.mp e).2) rfl said (by decide +kernel) ⟨rfl,rfl,rfl,rfl,rfl,by decide +kernel⟩ ?hw ?hc
 case hw=>w_witness2
 exact PL.zvm (l:=PySem.Challenge.rw_joinwood_k43_whole_bound) (k:=7) (G:=fun K=>Q43.see K=Q43.told) (FL:=Q43.fLaw) (x:="_law_script") rfl rfl ⟨rfl,by decide,by decide⟩ Q43.zpN (fun w h Y=>Y) (fun w mg fa h K E KX G hmg=>Q43.all_mk E KX G hmg) Q43.zpQ
#print axioms PySem.Challenge.cw_joinwood_k43_whole_bound_holds
