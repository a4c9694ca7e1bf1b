import PyProof.Rows.All
import Wide.All
import OpenK.AllK
import Lean
import PySem.Challenge.RW_joinwood_k33_whole_far_counts
set_option Elab.async false
set_option linter.all false
set_option maxRecDepth 100000
set_option maxHeartbeats 4000000
open Or renaming inl->Qk,inr->Qs
open PySem.PassesOwn renaming never->Ql
open PySem.Value renaming ref->Qm,type->Qw,int->Ov,isStrOf->Ox
open PySem.Builtin.SmallTypes renaming nextOf->Qn,ownedTupleIsFree->Qp
open Sum renaming inr->Qo
open PySem renaming mem_of_lookup->Qq,KeyKind->Oz
open PySem.NameKind renaming free->Qt,cell->Oc
open PySem.Calls renaming spliced_cons->Qu,callWith_builtin->QB,spliced_nil->QC,evalArgs_plain->QF
open List.Nodup renaming length_le_of_subset->Qv
open PyProof.Rows renaming callWith_type1->Qx
open Iff renaming rfl->Qy
open False renaming elim->Qz
open Ne renaming symm->QD
open List renaming nodup_nil->QG,append_assoc->QM,length_nil->QR,length_replicate->QT,length_singleton->QV,foldl_cons->Q6,flatMap_append->Pb,findIdx_cons->Px,rel_of_pairwise_cons->Py,mem_of_mem_take->Pz,map_reverse->P0,pairwise_singleton->Ob,of_mem_zip->Oe,nil_append->Ol,reverse_cons->Ot,forIn_nil->Ou,length_drop->Ow
open PySem.Around renaming under_plainId->QH
open Nat renaming mul_le_mul->QJ,mod_lt->QS,lt_or_ge->Q5,mul_comm->Q8,succ_mul->Q9,le_succ->Ph,lt_succ_of_lt->Pu,min_eq_left->Oi,div_div_eq_div_mul->Oo
open Classical renaming propDecidable->QK
open PySem.F renaming plainAttrs_list->QL,slot_zip_next->Q7,slot_tuple_iterator_next->Pr,plainAttrs_dict->Oa
open PySem.W renaming instObj->QW,fnOf->QZ,nsIn->Pn,kitOne->PB,plainGet->PJ,cellsFrom_some->Om,hasDictIn->Oq
open True renaming intro->QX
open PySem.SeqAt renaming EqAt->Q0
open Int renaming toNat_natCast->Pa
open PySem.SetTable renaming grown->Pg
open PySem.Builtin.List renaming listExtendWith->Pj,listTooLong->PN
open PyProof.Rows.F renaming plain_set_update_loop->Pk
open Bool renaming eq_iff_iff->Pq
open PySem.Str renaming ofString->PX
open PySem.Obj renaming mapFields->Od,mapSeq->Og,data_mapFields->Oj
open Array renaming getD->Oh
noncomputable section
universe u
theorem Qa{M:Type u}{a b:M}(h:some a=some b):a=b:=Option.some.inj h
theorem Qc{p:Prop}[i:Decidable p](h:¬p):decide p=false:=decide_eq_false h
theorem Qd{p:Prop}[i:Decidable p](h:p):decide p=true:=decide_eq_true h
theorem Qe{c:Prop}{h:Decidable c}(n:¬c){M:Sort u}{t e:M}:ite c t e=e:=if_neg n
theorem Qf{c:Prop}{h:Decidable c}(n:c){M:Sort u}{t e:M}:ite c t e=t:=if_pos n
theorem Qg{a b:Prop}(x:a)(y:¬a):b:=absurd x y
theorem Qh{p:Prop}[i:Decidable p](h:decide p=true):p:=of_decide_eq_true h
open PySem renaming wpAny_bind->Wa,Value->Wb,Shared->Wc,wpAny_pure->Wd,wpAny->We,sizeLine->Wf,Program->Wg,model->Wh,sizeLine_eq->Wi,World->Wj,FuncData->Wk,Around->Wl,bootBuiltins->Wm,Stmt->Wn,starEach->Wo,wpAny_field->Wp,mainGlobals->Wq,behindInMarks->Wr,cellsFrom->Ws,wpAny_call_entry->Wt,attributeBase->Wu,wpAny_Call_Name_kw->Wv,eval->Ww,swapsWith->Wx,wpAny_holding->Wy,sysModules->Wz,wpAny_setField->WA,wpAny_seqItems->WB,wpAny_mono->WC,IsPair->WD,keywordEach->WE,compareOp->WF,cLine->WG,codeAny_builtin->WH,assignEach->WI,wpAny_setField_rec->WJ,backTo->WK,rawInt->WL,wpAny_passesOwn->WM,holding->WN,codeAny_mono->WO,wpAny_newObj_type->WP,Scope->WR,binaryOp->WS,backToKw->WT,wpAny_askSetting->WU,ZipApart->WV,scanBound->WW,pyNext->WX,builtinLookup_eq_fast->WY,wpAny_truthy_bool->WZ,Keyword->W0,wpAny_rule->W2,PassesOwn->W3,codeAny->W4,plainId_quiet->W5,wpAny_execs_nil->W6,sliceBounds->W7,noteFrame->W8,relayAll->W9,IsZip->Va,getMethod->Vb
open PyProof.Rows renaming Keyed->WQ,IntsAre->W1,envOfC->Vc
open PySem.W renaming Frag->Xa,mg_none_of->XI,findIn->XU,emptyDict->YK,keepIn->YM
open List renaming length_map->Xb,getElem?_eq_some_iff->Xc,getElem?_eq_getElem->Xd,mem_cons_of_mem->Xf,getElem?_map->Xg,mem_cons_self->Xh,getD_eq_getElem?_getD->Xi,getElem?_set_ne->Xk,mem_of_getElem?->Xl,getElem?_set_self->Xm,mem_cons->Xn,size_toArray->Xo,map_append->Xp,map_cons->Xq,length_append->Xr,take_of_length_le->Xs,mem_singleton->Xv,length_cons->Xy,mem_append->Xz,getElem?_eq_none->XA,flatMap_cons->XD,range->XE,mem_map->XF,append_nil->XG,length_take->XH,nodup_cons->XO,set_eq_of_length_le->XQ,mem_append_right->XR,zip_cons_cons->XS,lookup_cons->XT,all_eq_true->XX,mem_flatMap->XY,getElem?_append_right->XZ,length_reverse->Ya,map_map->Yb,length_filter_le->Yc,getElem?_append_left->Ye,length_set->Yf,map->Yg,mem_append_left->Yj,mem_flatten->Yk,take_append_drop->Yp,find?_cons->Yq,length_range->Yr,nodup_append->Ys,map_congr_left->Yt,cons_append->Yv,filter_cons_of_neg->Yw,filter_cons_of_pos->Yx,mem_filter->Yy,getElem_mem->YA,mem_reverse->YB,filterMap_cons->YC,map_nil->YE,mem_iff_getElem->YF,filter_append->YG,length_zip->YI,getElem?_reverse->YL,replicate->YN,getElem?_replicate->YO,length_eq_zero_iff->YQ,getElem?_cons_succ->YR
open PySem.Heap renaming get?_push_of_some->Xe,lt_size->Xw,get?_push_size->Xx,SameBut->XV,get?_update_self->XW,get?_update_other->Yi,size_push->Ym
open Nat renaming le_refl->Xj,ne_of_lt->XB,le_trans->XC,lt_of_lt_of_le->XJ,zero_le->XM,ne_of_gt->Yh,not_lt_zero->Yl,lt_irrefl->YH,lt_succ_self->YJ
open Bool renaming false_ne_true->Xu,false_eq_true->Yd,and_eq_true->Yu
open PySem.SetTable renaming below->Yn
open Int renaming emod_lt_of_pos->Yo,emod_nonneg->Yz
open Array renaming length_toList->YD
open PySem in abbrev Tc:=List (List (List Int))
open PySem in abbrev Td:=List (List Int)
open PySem in abbrev Te:=List (List Str)
open PySem in abbrev Tf:=List (Option Nat)
open PySem in abbrev Tg:=List (Addr×Obj)
open PySem in abbrev Ti:=Wb->Wc->Prop
open PySem in abbrev Tj:=Str->Option Wb
open PySem in abbrev Tn:=List Str
open PySem in abbrev Tp:=List Int
open PySem in abbrev Tq:=List Wb
open PySem in abbrev Tr:=List Addr
open PySem in abbrev Tt:=List Nat
open PySem in abbrev Tv:=Option Wb
open PySem in abbrev Tw:=Nat->Nat
namespace L2
open PySem PySem.Spec PyProof.Rows
variable {us:Tq}{x:Str}{u:Wb}{H:Hp}{a b C:Addr}{h base:Heap}{P:Wg}{w:Wj}{t' i j k:Nat}{ch fp:Tr}{e tg:Expr}{Qq11:Model}{A:Wl}{E Q:Ti}{X:Cx}{s:Wc}{pos:Pos}{pins:Tg}{Y:St}{y:V}{K:Xa}{f:Wb->Wb->Sem Wb}{body:List Wn}{vs:List V}{pl:Sem Bool}{op:CmpOp}{kw:List (Str×Wb)}{mg:Tj}{CX:n8}{ps:Tn}{kindOf:Str->Option NameKind}
abbrev Key:=Sum Int Str
def tV:Key->Wb->Bool
 | .inl k,v=>Value.isInt k v
 | .inr x,v=>Ox x v
def Dl (w:Wj):Key->Int
 | .inl k=>hashInt k
 | .inr x=>hashStr w x
theorem pM:∀ {k:Key}{v:Wb},tV k v=true->(∃i t,k=Sum.inl i/\v=Ov i t)\/(∃x t,k=Qo x/\v=Value.str x t)
 | .inl i,v,h=>by
  obtain⟨t,e⟩:=Value.isInt_shape (k:=i) (v:=v) h;exact .inl ⟨i,t,rfl,e⟩
 | .inr x,v,h=>by
  obtain⟨t,e⟩:=Value.isStrOf_shape (x:=x) (v:=v) h;exact .inr ⟨x,t,rfl,e⟩
theorem Vp (i:Int)(t:Tok):tV (.inl i) (.int i t)=true:=by simp[tV,Value.isInt]
theorem Vq (x:Str)(t:Tok):tV (.inr x) (.str x t)=true:=by simp[tV,Ox]
theorem Vr (a b:Int):decide ((Sum.inl a:Key)=Sum.inl b)=(a == b):=by
 by_cases e:a=b
 .subst e;simp
 .have h:¬ (Sum.inl a:Key)=Sum.inl b:=λq=>e (Sum.inl.inj q);rw[Qc h];exact(beq_eq_false_iff_ne.mpr e).symm
theorem Vs (a b:Str):decide ((Qo a:Key)=Qo b)=decide (a=b):=by
 by_cases e:a=b
 .subst e;simp
 .have h:¬ (Qo a:Key)=Qo b:=λq=>e (Sum.inr.inj q);rw[Qc h,Qc e]
theorem Vt (a:Int)(b:Str):decide ((Sum.inl a:Key)=Qo b)=false:=Qc (λq=>nomatch q)
theorem Vu (a:Str)(b:Int):decide ((Qo a:Key)=Sum.inl b)=false:=Qc (λq=>nomatch q)
def gK (prog:Wg)(w:Wj):Oz prog w Key where
 is:=tV
 hash:=Dl w
 inj:=λv a b ha hb=>by
  rcases pM ha with ⟨i,t,rfl,rfl⟩ | ⟨x,t,rfl,rfl⟩
  .rcases pM hb with ⟨j,u,rfl,e⟩ | ⟨y,u,rfl,e⟩
   .injection e with e1 _;rw[e1]
   .exact nomatch e
  .rcases pM hb with ⟨j,u,rfl,e⟩ | ⟨y,u,rfl,e⟩
   .exact nomatch e
   .injection e with e1 _;rw[e1]
 byValue:=λk v h=>by
  rcases pM h with ⟨i,t,rfl,rfl⟩ | ⟨x,t,rfl,rfl⟩<;>rfl
 pyHash:=λhv h=>by
  rcases pM hv with ⟨i,t,rfl,rfl⟩ | ⟨x,t,rfl,rfl⟩
  .exact wpAny_pyHash_int h
  .exact wpAny_pyHash_str h
 eqBool:=λhu hv h=>by
  rcases pM hu with ⟨i,t,rfl,rfl⟩ | ⟨x,t,rfl,rfl⟩
  .rcases pM hv with ⟨j,u,rfl,rfl⟩ | ⟨y,u,rfl,rfl⟩
   .rw[Vr]at h;exact wpAny_eqBool_int h
   .rw[Vt]at h;exact SeqAt.EqAt.int_str i t y u _ _ _ _ h
  .rcases pM hv with ⟨j,u,rfl,rfl⟩ | ⟨y,u,rfl,rfl⟩
   .rw[Vu]at h;exact SeqAt.EqAt.str_int x t j u _ _ _ _ h
   .rw[Vs]at h;exact wpAny_eqBool_str h
 «strs»:=λk x t v h=>by
  rcases pM h with ⟨i,u,rfl,e⟩ | ⟨y,u,rfl,e⟩
  .exact nomatch e
  .injection e with e1 _;subst e1;cases v<;>rfl
theorem Ir (prog:Wg)(w:Wj)(i:Int)(t:Tok):(gK prog w).is (.inl i) (.int i t)=true:=Vp i t
theorem Iu (prog:Wg)(w:Wj)(x:Str)(t:Tok):(gK prog w).is (.inr x) (.str x t)=true:=Vq x t
inductive V where
 | non | bl (b:Bool) | int (i:Int) | str (x:Str) | rM (b:Array UInt8) | flt (b:UInt64) | ref (a:Addr) | ty (n:String)
 deriving DecidableEq
def RelV:V->Wb->Prop
 | .non,u=>u=Value.none
 | .bl b,u=>u=Value.bool b
 | .int i,u=>∃t,u=Ov i t
 | .str x,u=>∃t,u=Value.str x t
 | .rM b,u=>∃t,u=Value.bytes b t
 | .flt b,u=>∃t,u=Value.float b t
 | .ref a,u=>u=Qm a
 | .ty n,u=>u=Qw n
abbrev Vals:List V->Tq->Prop:=Paired RelV
theorem Vals.length {xs:List V}(r:Vals xs us):xs.length=us.length:=Paired.length r
theorem Vals.get:∀ {xs:List V}{us:Tq}{i:Nat}{x:V},Vals xs us->xs[i]? = some x->∃u,us[i]? = some u/\RelV x u
 | _,_,_,_,.nil,e=>by simp at e
 | _,_,0,_,.cons r _,e=>by simp at e;subst e;exact⟨_,rfl,r⟩
 | _,_,i+1,x,.cons _ t,e=>by
  obtain⟨u,h1,h2⟩:=Vals.get (i:=i) (x:=x) t (by simpa using e);exact⟨u,by simpa using h1,h2⟩
theorem Vals.set {x:V}(r:RelV x u):∀ {xs:List V}{us:Tq}(i:Nat),Vals xs us->Vals (xs.set i x) (us.set i u)
 | _,_,_,.nil=>.nil
 | _,_,0,.cons _ t=>.cons r t
 | _,_,i+1,.cons q t=>.cons q (Vals.set r i t)
theorem Vals.append:∀ {xs ys:List V}{us ws:Tq},Vals xs us->Vals ys ws->Vals (xs++ys) (us++ws):=by
 intro xs ys us ws h s;induction h with
 | nil=>exact s
 | cons r t ih=>exact .cons r ih
theorem Vals.take:∀ {xs:List V}{us:Tq}(n:Nat),Vals xs us->Vals (xs.take n) (us.take n)
 | _,_,0,_=>.nil
 | _,_,_+1,.nil=>.nil
 | _,_,n+1,.cons r t=>.cons r (Vals.take n t)
theorem Vals.drop:∀ {xs:List V}{us:Tq}(n:Nat),Vals xs us->Vals (xs.drop n) (us.drop n)
 | _,_,0,r=>r
 | _,_,_+1,.nil=>.nil
 | _,_,n+1,.cons _ t=>Vals.drop n t
def dj:Option V->Tv->Prop
 | some v,some u=>RelV v u
 | none,none=>True
 | _,_=>False
def KV {κ:Type}:List (κ×V)->List (κ×Wb)->Prop:=Paired λ(p:κ×V)(q:κ×Wb)=>p.1=q.1/\RelV p.2 q.2
def kV:Key->V
 | .inl i=>.int i
 | .inr x=>.str x
inductive HO where
  | lst (xs:List V)
  | tup (xs:List V)
  | dK (kvs:List (Key×V)) | dT (kvs:List (List Key×V))
  | set (S:Int->Bool) (n:Nat)
  | ins (C dx:Addr) (fs:List (Str×V))
  | own (x:Addr)
  | xd (fs:List (Str×V))
  | met (f x:Addr)
  | rng (lo hi:Int)
  | aF (o:Obj) (u:HO)
  | rN (ps:Array Wb)
  | ext (φ:Heap->Prop)
abbrev Hp:=Addr->Option HO
def upd (H:Hp)(a:Addr)(o:HO):Hp:=λb=>if b=a then some o else H b
theorem cg {o:HO}:upd H a o a=some o:=by unfold upd;rw[Qf rfl]
theorem aY {o:HO}(h:b≠a):upd H a o b=H b:=by unfold upd;rw[Qe h]
theorem Iz {o u:HO}(h:H a=some o)(h':H b=some u)(d:o≠u):a≠b:=by
 intro e;subst e;rw[h]at h';exact d (Qa h')
theorem mK {o:HO}(h:H a=some o)(h':H b=none):a≠b:=by
 intro e;subst e;rw[h]at h';cases h'
def mL (h:Heap)(a:Addr)(its:Array Wb):Prop:=∃o,h.get? a=some o/\o.cls=.type "tuple"/\(∃n,o.data=.seq its n)/\o.dict=none
theorem mL.tup {its:Array Wb}(p:mL h a its):IsTup h a its:=let ⟨o,e,c,⟨n,d⟩,_⟩:=p;⟨o,e,c,n,d⟩
theorem mL.lt {its:Array Wb}(p:mL h a its):a<h.objs.size:=p.tup.lt
theorem mL.new (h:Heap)(items:Array Wb):mL (h.push { cls:=.type "tuple",data:=.seq items }) h.objs.size items:=⟨_,Xx _ rfl,rfl,⟨_,rfl⟩,rfl⟩
section
variable (P:Wg)(w:Wj)
def eE (H:Hp)(h:Heap)(a:Addr):HO->Prop
 | .lst xs=>xs.length<=Wf/\∃(its:Tq) (n:Nat),Vals xs its/\h.get? a=some { cls:=.type "list",data:=.seq its.toArray n }
 | .tup xs=>xs.length<=Wf/\∃its:Tq,Vals xs its/\mL h a its.toArray
 | .dK kvs=>kvs.length<=Wf/\(a == Wz)=false/\∃vs,KV kvs vs/\h.DictOf (gK P w) a vs
 | .dT kvs=>kvs.length<=Wf/\(a == Wz)=false/\∃xs:List (List Key×Addr×Wb),
   Paired (λ(p:List Key×V) (q:List Key×Addr×Wb)=>p.1=q.1/\H q.2.1=some (.tup (p.1.map kV))/\RelV p.2 q.2.2) kvs xs/\
   ∃o es ep,h.get? a=some o/\o.ExactDict/\o.data=.dict es ep/\es.toList=xs.map (entryOfKey (tupleKind (gK P w)))/\(xs.map (·.1)).Nodup
 | .set S n=>h.SetOf (intKind P w) a S n
 | .ins C dx fs=>H dx=some (.own a)/\fs.length<=1000/\dx≠a/\h.get? a=some (QW C dx)/\
   ∃mA,h.Ns1 dx mA/\(∀f,dj (fs.lookup f) (mA f))/\PySem.Within mA (fs.map (·.1))
 | .own _=>∃o,h.get? a=some o
 | .xd fs=>∃mA,h.Ns1 a mA/\∀f,dj (fs.lookup f) (mA f)
 | .rng lo hi=>∃t u v,h.get? a=some { cls:=.type "range",data:=.fields #[.int lo t,.int hi u,.int 1 v] }
 | .aF o u=>h.get? a=some o/\eE H h a u
 | .rN ps=>h.get? a=some { cls:=.none,data:=.fields ps }
 | .met f x=>h.get? a=some (PySem.W.methodObj (.ref f) (.ref x))
 | .ext φ=>φ h/\(∃o,h.get? a=some o)/\∀h1 h2:Heap,φ h1->(∀o,h1.get? a=some o->h2.get? a=some o)->φ h2
def cY (H:Hp)(h:Heap):Prop:=∀a o,H a=some o->eE P w H h a o
end
section
variable {P:Wg}{w:Wj}{H H':Hp}{h h':Heap}{a:Addr}{o:HO}
theorem eE.lt (x:eE P w H h a o):a<h.objs.size:=by
 cases o with
 | lst xs=>obtain⟨_,_,_,_,e⟩:=x;exact Xw e
 | tup xs=>obtain⟨_,_,_,p⟩:=x;exact p.lt
 | dK kvs=>obtain⟨_,_,_,_,o,_,_,e,_⟩:=x;exact Xw e
 | dT kvs=>obtain⟨_,_,_,_,o,_,_,e,_⟩:=x;exact Xw e
 | set S n=>obtain⟨o,_,_,_,e,_⟩:=x;exact Xw e
 | ins C dx fs=>obtain⟨_,_,_,e,_⟩:=x;exact Xw e
 | own y=>obtain⟨_,e⟩:=x;exact Xw e
 | xd fs=>obtain⟨_,⟨_,_,_,e,_⟩,_⟩:=x;exact Xw e
 | rng lo hi=>obtain⟨_,_,_,e⟩:=x;exact Xw e
 | aF ob u=>obtain⟨e,_⟩:=x;exact Xw e
 | rN ps=>exact Xw (show h.get? a=some _ from x)
 | met f y=>exact Xw (show h.get? a=some _ from x)
 | ext φ=>obtain⟨_,⟨_,e⟩,_⟩:=x;exact Xw e
theorem Paired.xg {M J:Type}{F G:M->J->Prop}:∀ {l₁:List M}{l₂:List J},Paired F l₁ l₂->(∀a b,F a b->G a b)->Paired G l₁ l₂:=by
 intro l₁ l₂ h f;induction h with
 | nil=>exact .nil
 | cons r t ih=>exact .cons (f _ _ r) ih
theorem eE.stay (x:eE P w H h a o)(k:∀b u,(b=a\/H b=some (.own a))->h.get? b=some u->h'.get? b=some u)
  (ho:∀b,H b=some (.own a)->H' b=some (.own a)) (ht:∀b xs,H b=some (.tup xs)->H' b=some (.tup xs)):eE P w H' h' a o:=by
 induction o with
 | lst xs=>obtain⟨z,its,n,r,e⟩:=x;exact⟨z,its,n,r,k _ _ (.inl rfl) e⟩
 | tup xs=>obtain⟨z,its,r,ob,e,c⟩:=x;exact⟨z,its,r,ob,k _ _ (.inl rfl) e,c⟩
 | dK kvs=>obtain⟨z,y,vs,r,ob,es,ep,e,c⟩:=x;exact⟨z,y,vs,r,ob,es,ep,k _ _ (.inl rfl) e,c⟩
 | dT kvs=>
  obtain⟨z,y,xs,r,ob,es,ep,e,c⟩:=x;exact⟨z,y,xs,Paired.xg r λp q z=>⟨z.1,ht _ _ z.2.1,z.2.2⟩,ob,es,ep,k _ _ (.inl rfl) e,c⟩
 | set S n=>obtain⟨ob,es,ep,t,e,c⟩:=x;exact⟨ob,es,ep,t,k _ _ (.inl rfl) e,c⟩
 | ins C dx fs=>
  obtain⟨d,z,ne,e,mA,⟨od,es,ep,e2,c⟩,r⟩:=x;exact⟨ho _ d,z,ne,k _ _ (.inl rfl) e,mA,⟨od,es,ep,k _ _ (.inr d) e2,c⟩,r⟩
 | own y=>obtain⟨ob,e⟩:=x;exact⟨ob,k _ _ (.inl rfl) e⟩
 | xd fs=>obtain⟨mA,⟨od,es,ep,e,c⟩,r⟩:=x;exact⟨mA,⟨od,es,ep,k _ _ (.inl rfl) e,c⟩,r⟩
 | rng lo hi=>obtain⟨t,u,v,e⟩:=x;exact⟨t,u,v,k _ _ (.inl rfl) e⟩
 | aF ob u ih=>obtain⟨e,q⟩:=x;exact⟨k _ _ (.inl rfl) e,ih q⟩
 | rN ps=>
  have e:h.get? a=some { cls:=.none,data:=.fields ps }:=x;show h'.get? a=some { cls:=.none,data:=.fields ps };exact k a _ (.inl rfl) e
 | met f y=>
  have e:h.get? a=some (PySem.W.methodObj (.ref f) (.ref y)):=x;show h'.get? a=some (PySem.W.methodObj (.ref f) (.ref y));exact k a _ (.inl rfl) e
 | ext φ=>obtain⟨p,⟨o,e⟩,st⟩:=x;exact⟨st _ _ p λo q=>k _ _ (.inl rfl) q,⟨o,k _ _ (.inl rfl) e⟩,st⟩
theorem cY.lt (x:cY P w H h)(e:H a=some o):a<h.objs.size:=(x a o e).lt
theorem cY.fresh (x:cY P w H h)(e:h.objs.size<=a):H a=none:=by
 cases q:H a with
 | none=>rfl
 | some u=>exact Qg (XJ (x.lt q) e) (YH _)
theorem cY.kept (x:cY P w H h)(k:∀b u,h.get? b=some u->h'.get? b=some u):cY P w H h':=λa o e=>
 (x a o e).stay (λb u _ q=>k b u q) (λ_ q=>q) λ_ _ q=>q
theorem cY.laid (x:cY P w H h)(k:∀b u,h.get? b=some u->h'.get? b=some u)(hp:h.objs.size<=a)(new:eE P w (upd H a o) h' a o):cY P w (upd H a o) h':=λb u e=>by
 have hn:=x.fresh hp;by_cases hb:b=a
 .subst hb;rw[cg]at e;cases e;exact new
 .rw[aY hb]at e;exact(x b u e).stay (λc v _ q=>k c v q) (λc q=>by rw[aY (mK q hn)];exact q) λc xs q=>by rw[aY (mK q hn)];exact q
end
def Rd (H:Hp)(a:Addr)(u:HO):Prop:=H a=some u\/∃o,H a=some (.aF o u)
theorem Rd.ok {u:HO}(r:Rd H a u)(x:cY P w H h):eE P w H h a u:=by
 rcases r with r | ⟨o,r⟩
 .exact x a u r
 .obtain⟨_,q⟩:=x a _ r;exact q
def xj:Option HO->Prop
 | some (.lst _)=>True
 | some (.dK _)=>True
 | some (.dT _)=>True
 | some (.set _ _)=>True
 | some (.ins _ _ _)=>True
 | some (.ext _)=>True
 | _=>False
section
variable {P:Wg}{w:Wj}{H:Hp}{h h':Heap}{x e:Addr}{o':HO}
theorem cY.write (ok:cY P w H h)(mu:xj (H x))(he:e=x\/H e=some (.own x))(k:∀b u,b≠e->h.get? b=some u->h'.get? b=some u)(heo:∃u,h'.get? e=some u)
  (new:eE P w (upd H x o') h' x o'):cY P w (upd H x o') h':=λb u q=>by
 have lD:∀c y,H c=some (.own y)->c≠x:=λc y r z=>by subst z;rw[r]at mu;exact mu
 have ntup:∀c xs,H c=some (.tup xs)->c≠x:=λc xs r z=>by subst z;rw[r]at mu;exact mu
 by_cases hb:b=x
 .subst hb;rw[cg]at q;cases q;exact new
 .rw[aY hb]at q;by_cases hbe:b=e
  .have q':H b=some (.own x):=by
    rcases he with z | z
    .exact Qg (hbe.trans z) hb
    .rw[hbe];exact z
   rw[q]at q';cases q';obtain⟨v,hv⟩:=heo;exact⟨v,by rw[hbe];exact hv⟩
  .refine(ok b u q).stay (λc v hc r=>k c v ?_ r) (λc r=>by rw[aY (lD c b r)];exact r) λc xs r=>by rw[aY (ntup c xs r)];exact r
   rcases hc with rfl | hc
   .exact hbe
   .rintro rfl;rcases he with z | z
    .exact lD c b hc z
    .rw[hc]at z;cases z;exact hb rfl
end
structure Un (fs ex:Tr)(H H':Hp)(h h':Heap):Prop where
 keep:∀b o,h.get? b=some o->H b=none->b∉fs->b∉ex->h'.get? b=some o
 slot:∀b o,h.get? b=some o->H b=none->b∈fs->b∉ex->∃sl,h'.get? b=some { o with slots:=sl }
 free:∀b o,h.get? b=some o->H b=none->b∉ex->H' b=none
 there:∀b o,h.get? b=some o->b∉ex->∃o',h'.get? b=some o'
 tups:∀b xs,H b=some (.tup xs)->H' b=some (.tup xs)
 eF:∀b o u,H b=some (.aF o u)->H' b=some (.aF o u)
 gn:∀b ps,H b=some (.rN ps)->∃more,H' b=some (.rN (ps++more))
section
variable {fs fs' ex ex':Tr}{H H1 H2:Hp}{h h1 h2 h':Heap}{a x e:Addr}{o:HO}
theorem Un.any (u:Un fs ex H H1 h h1){ob:Obj}(q:h.get? b=some ob)(n:H b=none)(hx:b∉ex):∃sl,h1.get? b=some { ob with slots:=sl }:=by
 by_cases hb:b∈fs
 .exact u.slot b ob q n hb hx
 .exact⟨ob.slots,u.keep b ob q n hb hx⟩
theorem Un.trans (a:Un fs ex H H1 h h1)(b:Un fs ex H1 H2 h1 h2):Un fs ex H H2 h h2 where
 keep:=λc ob q n hc hx=>b.keep c ob (a.keep c ob q n hc hx) (a.free c ob q n hx) hc hx
 slot:=λc ob q n hc hx=>by
  obtain⟨sl,e1⟩:=a.slot c ob q n hc hx;obtain⟨sl',e2⟩:=b.slot c _ e1 (a.free c ob q n hx) hc hx;exact⟨sl',e2⟩
 free:=λc ob q n hx=>by
  obtain⟨o',e1⟩:=a.there c ob q hx;exact b.free c o' e1 (a.free c ob q n hx) hx
 there:=λc ob q hx=>by
  obtain⟨o',e1⟩:=a.there c ob q hx;exact b.there c o' e1 hx
 tups:=λc xs q=>b.tups c xs (a.tups c xs q)
 eF:=λc ob xs q=>b.eF c ob xs (a.eF c ob xs q)
 gn:=λc ps q=>by
  obtain⟨m1,e1⟩:=a.gn c ps q;obtain⟨m2,e2⟩:=b.gn c _ e1;exact⟨m1++m2,by rw[e2,Array.append_assoc]⟩
theorem Un.kept (k:∀b u,h.get? b=some u->h'.get? b=some u):Un fs ex H H h h':=
 ⟨λb ob q _ _ _=>k b ob q,λb ob q _ _ _=>⟨ob.slots,k b ob q⟩,λ_ _ _ n _=>n,λb ob q _=>⟨ob,k b ob q⟩,λ_ _ q=>q,λ_ _ _ q=>q,λ_ ps q=>⟨#[],by rw[q];simp⟩⟩
theorem Un.refl:Un fs ex H H h h:=Un.kept λ_ _ q=>q
theorem Un.laid (k:∀b u,h.get? b=some u->h'.get? b=some u)(hp:h.objs.size<=a)(hn:H a=none):Un fs ex H (upd H a o) h h' where
 keep:=λb u q _ _ _=>k b u q
 slot:=λb u q _ _ _=>⟨u.slots,k b u q⟩
 free:=λb u q n _=>by rw[aY (XB (XJ (Xw q) hp))];exact n
 there:=λb u q _=>⟨u,k b u q⟩
 tups:=λb xs q=>by rw[aY (mK q hn)];exact q
 eF:=λb u xs q=>by rw[aY (mK q hn)];exact q
 gn:=λb ps q=>⟨#[],by rw[aY (mK q hn),q];simp⟩
theorem Un.write (mu:xj (H x))(he:e=x\/H e=some (.own x))(k:∀b u,b≠e->h.get? b=some u->h'.get? b=some u)(heo:∃u,h'.get? e=some u):Un fs ex H (upd H x o) h h':=by
 have hx:∀b,H b=none->b≠x:=λb n z=>by subst z;rw[n]at mu;exact mu
 have hb:∀b,H b=none->b≠e:=λb n z=>by
  subst z;rcases he with r | r
  .exact hx b n r
  .rw[n]at r;cases r
 have hm:∀b u,H b=some u->¬ xj (some u)->b≠x:=λb u q nm z=>by subst z;rw[q]at mu;exact nm mu
 refine⟨λb u q n _ _=>k b u (hb b n) q,λb u q n _ _=>⟨u.slots,k b u (hb b n) q⟩,λb u q n _=>by rw[aY (hx b n)];exact n,λb u q _=>?_,
  λb xs q=>by rw[aY (hm b _ q λz=>z)];exact q,λb u xs q=>by rw[aY (hm b _ q λz=>z)];exact q,λb ps q=>⟨#[],by rw[aY (hm b _ q λz=>z),q];simp⟩⟩
 by_cases hbe:b=e
 .subst hbe;exact heo
 .exact⟨u,k b u hbe q⟩
end
def Aa (h:Heap)(H:Hp):Tr:=(XE h.objs.size).filter λa=>(H a).isSome
def jq (h:Heap)(H:Hp):Heap:=PySem.W.hideAll h (Aa h H)
theorem Vv (h:Heap)(H:Hp):(jq h H).objs.size=h.objs.size:=PySem.W.hideAll_size _ _
theorem Vw {o:Obj}(e:h.get? b=some o)(n:H b=none):(jq h H).get? b=some o:=
 PySem.W.hideAll_get _ e λhm=>by
  have q:(H b).isSome=true:=(Yy.mp hm).2;rw[n]at q;simp at q
theorem Vx {o:Obj}(e:(jq h H).get? b=some o):h.get? b=some o/\H b=none:=by
 have e':h.get? b=some o:=PySem.W.of_hideAll (Aa h H) e;refine⟨e',?_⟩;cases q:H b with
 | none=>rfl
 | some x=>
  have hm:b∈Aa h H:=Yy.mpr ⟨List.mem_range.mpr (Xw e'),by simp[q]⟩;have z:(jq h H).get? b=none:=PySem.W.hideAll_none (Aa h H) hm;rw[z]at e;cases e
def Vy (g h:Heap)(L:Addr):Tg:=(XE h.objs.size).filterMap λa=>if a=L\/(g.get? a).isSome=true then none else(h.get? a).map λo=>(a,o)
def rest (g h:Heap)(L d:Addr):Tg:=(Vy g h L).filter λp=>decide (p.1≠d)
structure Mod (K:Xa)(mg:Tj)(base:Heap):Prop where
 tW:K.In base
 glob:base.Ns Wq mg
 blt:∃mb,base.Ns builtinsNs mb/\∀x:Str,x≠"__name__"->mb x=Wm x
 nolimit:base.NoLimit
structure Cx where
 prog:Wg
 w:Wj
 K:Xa
 mg:Tj
 base:Heap
 A:Wl
 N:Tn
 s₀:Wc
 H₀:Hp
 env:Env
 outer:List Env
 stack:List Env
 ex:Tr
 fn:Str->Bool
 calm:Bool
 pn:Tg
 xe:Ti
abbrev cQ (X:Cx)(e:Expr)(l:List Expr):Prop:=Wo (e::l) X.env=(false,Ww e X.env)::Wo l X.env
abbrev cO (X:Cx)(p:Pos)(l:List Expr):Prop:=(WK p (Wo l X.env)).any (·.1)=false
abbrev fD (x:Str):Prop:=(x == ("__debug__" : Str))=false
abbrev nD (x:Str):Prop:=(x == ("__classdict__" : Str))=false
abbrev lE (X:Cx)(x:Str):Prop:=X.fn x=true\/X.env.scope.names.lookup x=some .local
abbrev oh (X:Cx)(i:Expr):Prop:=∀x,foldedSetIterable i X.env x=pure x
def frs (l:List Env):Tr:=l.filterMap (·.frame)
abbrev Cx.fs (X:Cx):Tr:=frs X.outer
def mO (sc:WR)(x:Str):Prop:=sc.names.lookup x=some .local\/sc.names.lookup x=some .cell\/sc.names.lookup x=some .free
def Loc (sc:WR)(x:Str):Prop:=sc.names.lookup x=some .local\/sc.names.lookup x=some .cell
def Look (env:Env)(h:Heap)(m:Tj)(x:Str)(u:Wb):Prop:=
 (env.kindOf x=some .local/\m x=some u)\/((env.kindOf x=some .cell\/env.kindOf x=some .free)/\∃c,env.cells.lookup x=some c/\h.IsCell c (some u))
structure Cx.Ok (X:Cx):Prop where
 mod:Mod X.K X.mg X.base
 kind:X.env.scope.kind=.function
 glob:X.env.globals=Wq
 blt:X.env.builtins=builtinsNs
 above:X.s₀.heap.objs.size<=X.env.locals
 inj:∀x y c,X.env.cells.lookup x=some c->X.env.cells.lookup y=some c->x=y
 has:∀x,(X.env.kindOf x=some .cell\/X.env.kindOf x=some .free)->∃c,X.env.cells.lookup x=some c
 cab:∀x c,X.fn x=true->X.env.cells.lookup x=some c->X.s₀.heap.objs.size<=c
 hd:X.calm=true->X.A.handled=none
 frames:X.A.frames=some X.stack
 rO:X.stack=X.outer\/(X.stack=X.env::X.outer/\X.env.frame=some X.env.locals)
 exf:∀b∈X.ex,b≠X.env.locals/\∀x c,X.env.cells.lookup x=some c->c≠b
 bs:∀b o,X.base.get? b=some o->X.s₀.heap.get? b=some o/\X.H₀ b=none
 pZ:X.base.objs.size<=X.s₀.heap.objs.size
 jR:∀b o,X.base.get? b=some o->b∉X.ex
 jT:∀b∈X.ex,b∉X.fs
 eG:X.s₀.heap.FunFrames X.base X.outer
 rP:∀b∈X.fs,X.H₀ b=none
structure Inv (X:Cx)(pins:Tg)(Y:List (Option V))(H:Hp)(s:Wc):Prop where
 ok:X.Ok
 os:s.os=X.s₀.os
 bare:AllBare s.gens
 base:Un X.fs X.ex X.H₀ H X.s₀.heap s.heap
 loc:∃m,s.heap.Ns X.env.locals m/\∀(i:Nat) (x:Str) (v:V),X.N[i]? = some x->Y[i]? = some (some v)->mO X.env.scope x->∃u,RelV v u/\Look X.env s.heap m x u
 cell:∀x c,X.env.cells.lookup x=some c->∃v,s.heap.IsCell c v
 free:H X.env.locals=none
 bY:∀x c,X.env.cells.lookup x=some c->H c=none
 pin:∀p∈X.pn++pins,s.heap.get? p.1=some p.2/\H p.1=none/\p.1≠X.env.locals/\p.1∉X.fs/\∀v,p.2.data≠.cell v
 hok:cY X.prog X.w H s.heap
 len:Y.length=X.N.length
section
variable {X:Cx}{pins:Tg}{Y:List (Option V)}{H H':Hp}{s:Wc}{h':Heap}
theorem Cx.Ok.ou (ok:X.Ok){o:Obj}(e:X.base.get? b=some o):b∉X.fs:=λhb=>by
 have:=(ok.eG.mem hb).1;rw[e]at this;cases this
theorem Inv.bs (I:Inv X pins Y H s):∀b o,X.base.get? b=some o->s.heap.get? b=some o/\H b=none:=λb o e=>
 ⟨I.base.keep b o (I.ok.bs b o e).1 (I.ok.bs b o e).2 (I.ok.ou e) (I.ok.jR b o e),I.base.free b o (I.ok.bs b o e).1 (I.ok.bs b o e).2 (I.ok.jR b o e)⟩
theorem Inv.bk (I:Inv X pins Y H s):∀b o,X.base.get? b=some o->s.heap.get? b=some o:=λb o e=>(I.bs b o e).1
theorem Inv.mod (I:Inv X pins Y H s):Mod X.K X.mg X.base:=I.ok.mod
theorem Inv.jh (I:Inv X pins Y H s):X.K.In s.heap:=I.ok.mod.tW.keeps I.bk
theorem Inv.lt (I:Inv X pins Y H s):X.env.locals<s.heap.objs.size:=let ⟨_,hn,_⟩:=I.loc;hn.lt
theorem Inv.sz (I:Inv X pins Y H s):X.s₀.heap.objs.size<=s.heap.objs.size:=XC I.ok.above (Nat.le_of_lt I.lt)
theorem Inv.Dm (I:Inv X pins Y H s)(h:s.heap.objs.size<=a):a∉X.fs:=λhb=>by
 obtain⟨_,o,ho,_⟩:=I.ok.eG.mem hb;exact Qg (XJ (Xw ho) (XC I.sz h)) (YH _)
theorem Inv.tX (I:Inv X pins Y H s):∀x c,X.env.cells.lookup x=some c->c≠X.env.locals:=λx c e z=>by
 obtain⟨v,o,ho,hd⟩:=I.cell x c e;obtain⟨m,⟨o',es,ep,ho',hd',_⟩,_⟩:=I.loc;rw[z,ho']at ho;cases ho;rw[hd']at hd;cases hd
theorem Inv.eG (I:Inv X pins Y H s):s.heap.FunFrames X.base X.outer:=by
 have all:∀(l:List Env),(∀b∈frs l,b∈X.fs)->X.s₀.heap.FunFrames X.base l->s.heap.FunFrames X.base l:=by
  intro l;induction l with
  | nil=>intro _ _;trivial
  | cons env r ih=>
   intro hs hl;obtain⟨hk,⟨L,o,hf,hn,ho,hd⟩,hr⟩:=hl;have hL:L∈X.fs:=hs L (by unfold frs;rw[YC,hf];exact Xh);obtain⟨sl,e⟩:=I.base.slot L o ho (I.ok.rP L hL) hL λz=>I.ok.jT L z hL;exact⟨hk,⟨L,_,hf,hn,e,hd⟩,ih (λb hb=>hs b (by unfold frs;rw[YC,hf];exact Xf _ hb)) hr⟩
 exact all X.outer (λ_ hb=>hb) I.ok.eG
theorem Inv.stack (I:Inv X pins Y H s):s.heap.FunFrames X.base X.stack:=by
 rcases I.ok.rO with e | ⟨e,hf⟩
 .rw[e];exact I.eG
 .rw[e];obtain⟨m,hn,_⟩:=I.loc;refine .cons (by rw[I.ok.kind];decide) hf hn ?_ I.eG;exact Heap.get?_none_of_le (XC I.ok.pZ I.ok.above)
theorem Inv.Dn (I:Inv X pins Y H s):∀b∈frs X.stack,b∈X.env.locals::X.fs:=λb hb=>by
 rcases I.ok.rO with e | ⟨e,hf⟩
 .rw[e]at hb;exact Xf _ hb
 .rw[e]at hb;unfold frs at hb;rw[YC,hf]at hb;exact hb
theorem Inv.Dp (I:Inv X pins Y H s):∀b∈frs X.stack,H b=none:=λb hb=>by
 rcases Xn.mp (I.Dn b hb)with e | hb
 .rw[e];exact I.free
 .obtain⟨_,o,ho,_⟩:=I.ok.eG.mem hb;exact I.base.free b o ho (I.ok.rP b hb) λz=>I.ok.jT b z hb
theorem Inv.step {g':Array GenState}{t':Nat}{d':Drawn}{ch:Tr}(I:Inv X pins Y H s)
  (hch:∀b∈ch,(b∈X.ex\/X.s₀.heap.objs.size<=b)/\b≠X.env.locals/\(∀x c,X.env.cells.lookup x=some c->c≠b)/\∀p∈X.pn++pins,p.1≠b)
  (keep:∀b o,b≠X.env.locals->b∉X.fs->b∉ch->s.heap.get? b=some o->H b=none->h'.get? b=some o)
  (slot:∀b o,b≠X.env.locals->b∈X.fs->b∉ch->s.heap.get? b=some o->H b=none->∃sl,h'.get? b=some { o with slots:=sl }) (free:∀b o,b∉ch->s.heap.get? b=some o->H b=none->H' b=none)
  (there:∀b o,b∉ch->s.heap.get? b=some o->∃o',h'.get? b=some o')
  (tups:∀b xs,H b=some (.tup xs)->H' b=some (.tup xs)) (eF:∀b o u,H b=some (.aF o u)->H' b=some (.aF o u)) (gn:∀b ps,H b=some (.rN ps)->∃more,H' b=some (.rN (ps++more)))
  (ns:∀m,s.heap.Ns X.env.locals m->h'.Ns X.env.locals m) (hok:cY X.prog X.w H' h') (hg:AllBare g') :
  Inv X pins Y H' { s with heap:=h',gens:=g',drawn:=d',toks:=t' }:=by
 have neL:∀b o,X.s₀.heap.get? b=some o->b≠X.env.locals:=λb o e=>XB (XJ (Xw e) I.ok.above);have neC:∀b o,X.s₀.heap.get? b=some o->b∉X.ex->b∉ch:=λb o e hx hb=>by
  rcases(hch b hb).1 with z | z
  .exact hx z
  .exact Qg (XJ (Xw e) z) (YH _)
 have cellK:∀x c,X.env.cells.lookup x=some c->∀v,s.heap.IsCell c v->h'.IsCell c v:=λx c e v ⟨o,ho,hd⟩=>by
  have nch:c∉ch:=λz=>(hch c z).2.2.1 x c e rfl;by_cases hc:c∈X.fs
  .obtain⟨sl,q⟩:=slot c o (I.tX x c e) hc nch ho (I.bY x c e);exact⟨_,q,hd⟩
  .exact⟨o,keep c o (I.tX x c e) hc nch ho (I.bY x c e),hd⟩
 refine⟨I.ok,I.os,hg,⟨λb o e n hb hx=>?_,λb o e n hb hx=>?_,λb o e n hx=>?_,λb o e hx=>?_,λb xs e=>tups b xs (I.base.tups b xs e),λb o xs e=>eF b o xs (I.base.eF b o xs e),λb ps e=>?_⟩,?_,λx c e=>?_,?_,λx c e=>?_,λp hp=>?_,hok,I.len⟩
 .exact keep b o (neL b o e) hb (neC b o e hx) (I.base.keep b o e n hb hx) (I.base.free b o e n hx)
 .obtain⟨sl,e1⟩:=I.base.slot b o e n hb hx;obtain⟨sl',e2⟩:=slot b _ (neL b o e) hb (neC b o e hx) e1 (I.base.free b o e n hx);exact⟨sl',e2⟩
 .obtain⟨o',e1⟩:=I.base.there b o e hx;exact free b o' (neC b o e hx) e1 (I.base.free b o e n hx)
 .obtain⟨o',e1⟩:=I.base.there b o e hx;exact there b o' (neC b o e hx) e1
 .obtain⟨m1,e1⟩:=I.base.gn b ps e;obtain⟨m2,e2⟩:=gn b _ e1;exact⟨m1++m2,by rw[e2,Array.append_assoc]⟩
 .obtain⟨m,hn,hl⟩:=I.loc;refine⟨m,ns m hn,λi x v e1 e2 e3=>?_⟩;obtain⟨u,r,l⟩:=hl i x v e1 e2 e3;refine⟨u,r,?_⟩;rcases l with l | ⟨k,c,e,z⟩
  .exact .inl l
  .exact .inr ⟨k,c,e,cellK x c e _ z⟩
 .obtain⟨v,z⟩:=I.cell x c e;exact⟨v,cellK x c e v z⟩
 .obtain⟨m,⟨o,_,_,ho,_⟩,_⟩:=I.loc;exact free _ o (λz=>(hch _ z).2.1 rfl) ho I.free
 .obtain⟨v,o,ho,hd⟩:=I.cell x c e;exact free c o (λz=>(hch c z).2.2.1 x c e rfl) ho (I.bY x c e)
 .obtain⟨e,n,ne,nf,d⟩:=I.pin p hp;have nch:p.1∉ch:=λz=>(hch p.1 z).2.2.2 p hp rfl;exact⟨keep p.1 p.2 ne nf nch e n,free p.1 p.2 nch e n,ne,nf,d⟩
theorem Inv.un {t':Nat}(I:Inv X pins Y H s)(u:Un X.fs [] H H' s.heap h')(hok:cY X.prog X.w H' h'):Inv X pins Y H' { s with heap:=h',toks:=t' }:=by
 obtain⟨m,⟨o,es,ep,ho,r⟩,_⟩:=id I.loc;obtain⟨sl,hL⟩:=u.any ho I.free (by simp);exact I.step (g':=s.gens) (d':=s.drawn) (ch:=[]) (λ_ z=>nomatch z) (λb o _ hb _ e n=>u.keep b o e n hb (by simp)) (λb o _ hb _ e n=>u.slot b o e n hb (by simp)) (λb o _ e n=>u.free b o e n (by simp)) (λb o _ e=>u.there b o e (by simp)) u.tups u.eF u.gn (λm' hm=>by
  obtain⟨o',es',ep',ho',r'⟩:=hm;rw[ho]at ho';cases ho';exact⟨_,es',ep',hL,r'⟩) hok I.bare
theorem Inv.call {g':Array GenState}{t':Nat}{d':Drawn}{ch:Tr}(I:Inv X pins Y H s)(u:Un (frs X.stack) ch H H' s.heap h')(hok:cY X.prog X.w H' h')(hg:AllBare g')
  (hch:∀b∈ch,(b∈X.ex\/X.s₀.heap.objs.size<=b)/\b≠X.env.locals/\(∀x c,X.env.cells.lookup x=some c->c≠b)/\∀p∈X.pn++pins,p.1≠b) :
  Inv X pins Y H' { s with heap:=h',gens:=g',drawn:=d',toks:=t' }:=by
 obtain⟨m,⟨o,es,ep,ho,r⟩,_⟩:=id I.loc;obtain⟨sl,hL⟩:=u.any ho I.free λz=>(hch _ z).2.1 rfl;exact I.step (ch:=ch) hch (λb o hL hb hc e n=>u.keep b o e n (λz=>(Xn.mp (I.Dn b z)).elim hL hb) hc) (λb o _ _ hc e n=>u.any e n hc) (λb o hc e n=>u.free b o e n hc) (λb o hc e=>u.there b o e hc) u.tups u.eF u.gn (λm' hm=>by
  obtain⟨o',es',ep',ho',r'⟩:=hm;rw[ho]at ho';cases ho';exact⟨_,es',ep',hL,r'⟩) hok hg
theorem Inv.turned {t':Nat}{it:Addr}(I:Inv X pins Y H s)(k:∀b o,b≠it->s.heap.get? b=some o->h'.get? b=some o)(hn:H it=none)(hL:it≠X.env.locals)
  (h1:it∈X.ex\/X.s₀.heap.objs.size<=it) (h2:∀x c,X.env.cells.lookup x=some c->c≠it) (h3:∀p∈X.pn++pins,p.1≠it):Inv X pins Y H { s with heap:=h',toks:=t' }:=by
 have nit:∀b u,H b=some u->b≠it:=λb u e z=>by rw[z,hn]at e;cases e
 refine I.step (g':=s.gens) (d':=s.drawn) (ch:=[it]) (λb hb=>?_) (λb o _ _ hc e _=>k b o (λz=>hc (by simp[z])) e) (λb o _ _ hc e _=>⟨o.slots,k b o (λz=>hc (by simp[z])) e⟩) (λ_ _ _ _ n=>n)
  (λb o hc e=>⟨o,k b o (λz=>hc (by simp[z])) e⟩) (λ_ _ e=>e) (λ_ _ _ e=>e) (λb ps e=>⟨#[],by rw[e];simp⟩) (λm hm=>?_) (λb u e=>?_) I.bare
 .have e:b=it:=by simpa using hb
  subst e;exact⟨h1,hL,h2,h3⟩
 .obtain⟨o,es,ep,ho,r⟩:=hm;exact⟨o,es,ep,k _ o (QD hL) ho,r⟩
 .refine(I.hok b u e).stay (λc v hc q=>k c v ?_ q) (λ_ q=>q) λ_ _ q=>q;rcases hc with z | z
  .rw[z];exact nit b u e
  .exact nit c _ z
theorem Inv.tok (I:Inv X pins Y H s)(t:Nat):Inv X pins Y H { s with toks:=t }:=I.un (h':=s.heap) (t':=t) Un.refl I.hok
theorem Inv.kept {t':Nat}(I:Inv X pins Y H s)(k:∀b u,s.heap.get? b=some u->h'.get? b=some u):Inv X pins Y H { s with heap:=h',toks:=t' }:=I.un (Un.kept k) (I.hok.kept k)
theorem Inv.laid {o:HO}{t':Nat}(I:Inv X pins Y H s)(k:∀b u,s.heap.get? b=some u->h'.get? b=some u)(hp:s.heap.objs.size<=a)(new:eE X.prog X.w (upd H a o) h' a o) :
  Inv X pins Y (upd H a o) { s with heap:=h',toks:=t' }:=I.un (Un.laid k hp (I.hok.fresh hp)) (I.hok.laid k hp new)
theorem Inv.write {x e:Addr}{o:HO}{t':Nat}(I:Inv X pins Y H s)(mu:xj (H x))(he:e=x\/H e=some (.own x))(k:∀b u,b≠e->s.heap.get? b=some u->h'.get? b=some u)(heo:∃u,h'.get? e=some u)
  (new:eE X.prog X.w (upd H x o) h' x o):Inv X pins Y (upd H x o) { s with heap:=h',toks:=t' }:=I.un (Un.write mu he k heo) (I.hok.write mu he k heo new)
theorem Inv.IK {rQ:Tg}(I:Inv X pins Y H s)(h:∀p∈rQ,s.heap.get? p.1=some p.2/\H p.1=none/\p.1≠X.env.locals/\p.1∉X.fs/\∀v,p.2.data≠.cell v):Inv X rQ Y H s:=
 ⟨I.ok,I.os,I.bare,I.base,I.loc,I.cell,I.free,I.bY,λp hp=>(Xz.mp hp).elim (λz=>I.pin p (Yj _ z)) (h p),I.hok,I.len⟩
theorem IV {N:Tn}(hN:N.Nodup)(a:N[i]? = some x)(b:N[j]? = some x):i=j:=by
 obtain⟨h1,e1⟩:=Xc.mp a;obtain⟨h2,e2⟩:=Xc.mp b;exact(List.getElem_inj hN).mp (e1.trans e2.symm)
theorem IW {Qq11:Model}{A:Wl}{E:Ti}{i:Nat}{x:Str}{v:V}{u:Wb}{Q:Unit->Wc->Prop}(I:Inv X pins Y H s)(hN:X.N.Nodup)(hi:X.N[i]? = some x)(hx:Loc X.env.scope x)(r:RelV v u)
  (h:∀s',Inv X pins (Y.set i (some v)) H s'->(∃a,XV a s.heap s'.heap/\(a=X.env.locals\/X.env.cells.lookup x=some a))->Q () s') (hf:lE X x:=by first | exact .inl rfl | exact .inr rfl | assumption):We Qq11 A (storeName X.env x u) Q E s:=by
 obtain⟨m,hn,hl⟩:=id I.loc;have hcls:(X.env.scope.kind == .class||(X.env.scope.kind == .module&&X.env.locals != X.env.globals))=false:=by rw[I.ok.kind];rfl
 have hiσ:i<Y.length:=by rw[I.len];exact(Xc.mp hi).1
 have tX:=I.tX;have tracked:∀ {a:Addr} {h':Heap},(∃o,s.heap.get? a=some o/\H a=none)->XV a s.heap h'->cY X.prog X.w H h':=λ{a h'} ha hs b ob e=>by
  obtain⟨_,_,hfree⟩:=ha;refine(I.hok b ob e).stay (λc w' hc q=>(hs.2 c ?_).trans q) (λ_ q=>q) λ_ _ q=>q;rintro rfl;rcases hc with rfl | hc
  .rw[hfree]at e;cases e
  .rw[hfree]at hc;cases hc
 rcases hx with hk | hk
 .refine wpAny_storeName_local hk hn (λh' hn' hs=>?_) hcls;obtain⟨oL,_,_,hoL,_⟩:=id hn;refine h _ ⟨I.ok,I.os,I.bare,⟨λb o e n hb hx=>?_,λb o e n hb hx=>?_,I.base.free,λb o e hx=>?_,I.base.tups,I.base.eF,I.base.gn⟩,⟨_,hn',λj y v' e1 e2 e3=>?_⟩,λy c e=>?_,I.free,I.bY,λp hp=>?_,tracked ⟨oL,hoL,I.free⟩ hs,by simpa using I.len⟩ ⟨_,hs,.inl rfl⟩
  .exact(hs.2 b (XB (XJ (Xw e) I.ok.above))).trans (I.base.keep b o e n hb hx)
  .obtain⟨sl,e1⟩:=I.base.slot b o e n hb hx;exact⟨sl,(hs.2 b (XB (XJ (Xw e) I.ok.above))).trans e1⟩
  .obtain⟨o',e1⟩:=I.base.there b o e hx;exact⟨o',(hs.2 b (XB (XJ (Xw e) I.ok.above))).trans e1⟩
  .by_cases hj:j=i
   .subst hj;rw[hi]at e1;cases e1;rw[Xm hiσ]at e2;cases e2;exact⟨u,r,.inl ⟨hk,by simp⟩⟩
   .rw[Xk (QD hj)]at e2;obtain⟨u',r',q⟩:=hl j y v' e1 e2 e3;refine⟨u',r',?_⟩;rcases q with ⟨k,e⟩ | ⟨k,c,e,z⟩
    .refine .inl ⟨k,?_⟩;have:y≠x:=λe=>hj (IV hN e1 (e▸hi));simp[this,e]
    .exact .inr ⟨k,c,e,z.sameBut hs (tX y c e)⟩
  .obtain⟨w',z⟩:=I.cell y c e;exact⟨w',z.sameBut hs (tX y c e)⟩
  .obtain⟨e,n,ne,nf,d⟩:=I.pin p hp;exact⟨(hs.2 p.1 ne).trans e,n,ne,nf,d⟩
 .have hfn:X.fn x=true:=by
   rcases hf with z | z
   .exact z
   .rw[z]at hk;cases hk
  obtain⟨c,hc⟩:=I.ok.has x (.inl hk);obtain⟨w',z⟩:=I.cell x c hc;refine wpAny_storeName_cell I.ok.kind hk hc z (λh' hc' hs=>?_);obtain⟨oc,hoc,hocd⟩:=id z;refine h { s with heap:=h' } ⟨I.ok,I.os,I.bare,⟨λb o e n hb hx=>?_,λb o e n hb hx=>?_,I.base.free,λb o e hx=>?_,I.base.tups,I.base.eF,I.base.gn⟩,⟨m,hn.sameBut hs (QD (tX x c hc)),λj y v' e1 e2 e3=>?_⟩,λy c' e=>?_,I.free,I.bY,λp hp=>?_,tracked ⟨oc,hoc,I.bY x c hc⟩ hs,by simpa using I.len⟩ ⟨c,hs,.inr hc⟩
  .exact(hs.2 b (XB (XJ (Xw e) (I.ok.cab x c hfn hc)))).trans (I.base.keep b o e n hb hx)
  .obtain⟨sl,e1⟩:=I.base.slot b o e n hb hx;exact⟨sl,(hs.2 b (XB (XJ (Xw e) (I.ok.cab x c hfn hc)))).trans e1⟩
  .obtain⟨o',e1⟩:=I.base.there b o e hx;exact⟨o',(hs.2 b (XB (XJ (Xw e) (I.ok.cab x c hfn hc)))).trans e1⟩
  .by_cases hj:j=i
   .subst hj;rw[hi]at e1;cases e1;rw[Xm hiσ]at e2;cases e2;exact⟨u,r,.inr ⟨.inl hk,c,hc,hc'⟩⟩
   .rw[Xk (QD hj)]at e2;obtain⟨u',r',q⟩:=hl j y v' e1 e2 e3;refine⟨u',r',?_⟩;rcases q with q | ⟨k,c',e,z'⟩
    .exact .inl q
    .refine .inr ⟨k,c',e,z'.sameBut hs ?_⟩;rintro rfl;exact hj (IV hN e1 (I.ok.inj _ _ _ e hc▸hi))
  .by_cases hcc:c'=c
   .subst hcc;exact⟨_,hc'⟩
   .obtain⟨w2,z2⟩:=I.cell y c' e;exact⟨w2,z2.sameBut hs hcc⟩
  .obtain⟨e,n,ne,nf,d⟩:=I.pin p hp;refine⟨(hs.2 p.1 ?_).trans e,n,ne,nf,d⟩;intro q;rw[q,hoc]at e;have q':oc=p.2:=Qa e;exact d w' (by rw[<- q'];exact hocd)
theorem Ja {Qq11:Model}{A:Wl}{E:Ti}{i:Nat}{x:Str}{v:V}{u:Wb}{Q:Unit->Wc->Prop}(I:Inv X pins Y H s)(hN:X.N.Nodup)(hi:X.N[i]? = some x)(hx:Loc X.env.scope x)(r:RelV v u)
  (h:∀s',Inv X pins (Y.set i (some v)) H s'->Q () s') (hf:lE X x:=by first | exact .inl rfl | exact .inr rfl | assumption):We Qq11 A (storeName X.env x u) Q E s:=
 IW I hN hi hx r (λs' I' _=>h s' I') hf
theorem Inv.call' {s':Wc}{ch:Tr}(I:Inv X pins Y H s)(ho:s'.os=s.os)(u:Un (frs X.stack) ch H H' s.heap s'.heap)(hok:cY X.prog X.w H' s'.heap)(hg:AllBare s'.gens)
  (hch:∀b∈ch,(b∈X.ex\/X.s₀.heap.objs.size<=b)/\b≠X.env.locals/\(∀x c,X.env.cells.lookup x=some c->c≠b)/\∀p∈X.pn++pins,p.1≠b):Inv X pins Y H' s':=by
 obtain⟨h',g',d',t',o'⟩:=s';have e:o'=s.os:=ho;subst e;exact I.call (g':=g') (t':=t') (d':=d') u hok hg hch
end
abbrev XK:=Wb->Option Addr->Hp->Prop
abbrev St:=List (Option V)
abbrev VK:=V->Hp->Prop
abbrev TE:=St->Hp->VK->Prop
abbrev TT:=St->Hp->(Bool->Hp->Prop)->Prop
abbrev TA:=St->Hp->(List V->Hp->Prop)->Prop
structure Ends where
 nx:St->Hp->Prop
 rt:VK
 bk:St->Hp->Prop:=λ_ _=>False
 ct:St->Hp->Prop:=λ_ _=>False
abbrev TS:=Ends->St->Hp->Prop
def EP (X:Cx)(pins:Tg)(Y:St)(Q:VK)(u:Wb)(s':Wc):Prop:=∃v H',Inv X pins Y H' s'/\RelV v u/\Q v H'
def TP (X:Cx)(pins:Tg)(Y:St)(Q:Bool->Hp->Prop)(b:Bool)(s':Wc):Prop:=∃H',Inv X pins Y H' s'/\Q b H'
def AP (X:Cx)(pins:Tg)(Y:St)(Q:List V->Hp->Prop)(us:Tq)(s':Wc):Prop:=∃vs H',Inv X pins Y H' s'/\Vals vs us/\Q vs H'
def SP (X:Cx)(pins:Tg)(D:Ends)(f:Flow)(s':Wc):Prop:=
 match f with
 | .next=>∃Y' H',Inv X pins Y' H' s'/\D.nx Y' H'
 | .brk=>∃Y' H',Inv X pins Y' H' s'/\D.bk Y' H'
 | .cont=>∃Y' H',Inv X pins Y' H' s'/\D.ct Y' H'
 | .ret u=>∃v Y' H',Inv X pins Y' H' s'/\RelV v u/\D.rt v H'
def PE (X:Cx)(e:Expr)(t:TE):Prop:=
 ∀(pins:Tg) (s:Wc) (Y:St) (H:Hp) (Q:VK),Inv X pins Y H s->t Y H Q->We (Wh X.prog X.w) X.A (Ww e X.env) (EP X pins Y Q) X.xe s
def PT (X:Cx)(e:Expr)(t:TT):Prop:=
 ∀(pins:Tg) (s:Wc) (Y:St) (H:Hp) (Q:Bool->Hp->Prop),Inv X pins Y H s->t Y H Q->We (Wh X.prog X.w) X.A (isTrue e X.env (Ww e X.env)) (TP X pins Y Q) X.xe s
def PW (X:Cx)(e:Expr)(t:TT):Prop:=
 ∀(whole:Sem Wb) (pins:Tg) (s:Wc) (Y:St) (H:Hp) (Q:Bool->Hp->Prop),Inv X pins Y H s->t Y H Q->We (Wh X.prog X.w) X.A (isTrue e X.env whole) (TP X pins Y Q) X.xe s
theorem PW.pt {t:TT}(h:PW X e t):PT X e t:=h _
def PA (X:Cx)(es:List Expr)(t:TA):Prop:=
 ∀(pos:Pos) (pins:Tg) (s:Wc) (Y:St) (H:Hp) (Q:List V->Hp->Prop),Inv X pins Y H s->t Y H Q->We (Wh X.prog X.w) X.A (spliced (WK pos (Wo es X.env))) (AP X pins Y Q) X.xe s
def PS (X:Cx)(st:Wn)(t:TS):Prop:=
 ∀(pins:Tg) (s:Wc) (Y:St) (H:Hp) (D:Ends),Inv X pins Y H s->t D Y H->We (Wh X.prog X.w) X.A (exec st X.env) (SP X pins D) X.xe s
def dH (X:Cx)(st:List Wn)(t:TS):Prop:=
 ∀(pins:Tg) (s:Wc) (Y:St) (H:Hp) (D:Ends),Inv X pins Y H s->t D Y H->We (Wh X.prog X.w) X.A (execs st X.env) (SP X pins D) X.xe s
theorem aQ {M:Type}{t:Sem M}{Q Q':M->Wc->Prop}(h:We Qq11 A t Q E s)(hQ:∀a s,Q a s->Q' a s):We Qq11 A t Q' E s:=WC h hQ λ_ _ x=>x
section
variable {X:Cx}
def xq (i:Nat):TE:=λY H Q=>∃v,Y[i]? = some (some v)/\Q v H
def tC (v:V):TE:=λ_ H Q=>Q v H
theorem mQ (hN:X.N[i]? = some x)(hv:mO X.env.scope x)(hd:fD x:=by decide) (hcd:nD x:=by decide):PE X (.Name x pos) (xq i):=by
 intro pins s Y H Q I h;obtain⟨v,e,h⟩:=h;obtain⟨m,hn,hl⟩:=I.loc;obtain⟨u,r,l⟩:=hl i x v hN e hv;have fin:EP X pins Y Q u s:=⟨v,H,I,r,h⟩;rcases l with ⟨hk,hm⟩ | ⟨hk,c,hc,hcell⟩
 .exact wpAny_Name (wpAny_loadName_local I.ok.kind hk hn hm fin) hd
 .rcases hk with hk | hk
  .exact wpAny_Name (wpAny_loadName_cell I.ok.kind hk hc hcell fin) hd
  .exact wpAny_Name (wpAny_loadName_free I.ok.kind hk hc hcell fin hcd) hd
theorem Jb {i j pos}:PE X (.Constant (.int i) j pos) (tC (.int i)):=λ_ _ _ H _ I h=>wpAny_Constant_int ⟨.int i,H,I.tok _,⟨_,rfl⟩,h⟩
theorem Jc {b j pos}:PE X (.Constant (.bool b) j pos) (tC (.bl b)):=λ_ _ _ H _ I h=>Constant_bool ⟨.bl b,H,I,rfl,h⟩
theorem Vz {j pos}:PE X (.Constant .none j pos) (tC .non):=λ_ _ _ H _ I h=>Constant_none ⟨.non,H,I,rfl,h⟩
theorem VB {x j pos}:PE X (.Constant (.str x) j pos) (tC (.str x)):=λ_ _ _ H _ I h=>Calls.Constant_str ⟨.str x,H,I.tok _,⟨_,rfl⟩,h⟩
def Gl (X:Cx)(x:Str):Prop:=X.env.kindOf x=some .globalImplicit
theorem xr {E:Ti}{pins:Tg}{s:Wc}{Y:St}{H:Hp}{x:Str}{u:Wb}{pos:Pos}{Q:Ti}(I:Inv X pins Y H s)(hg:Gl X x)(hm:X.mg x=some u)(h:Q u s)
  (hd:fD x:=by decide):We (Wh X.prog X.w) X.A (Ww (.Name x pos) X.env) Q E s:=
 Calls.Name_function_global I.ok.kind hg (Calls.loadGlobal_global (by rw[I.ok.glob];exact I.mod.glob.keeps I.bk) hm h) hd
theorem qd {E:Ti}{pins:Tg}{s:Wc}{Y:St}{H:Hp}{x:Str}{u:Wb}{pos:Pos}{Q:Ti}(I:Inv X pins Y H s)(hg:Gl X x)(hm:X.mg x=none)(hv:Wm x=some u)(h:Q u s)
  (hn:x≠"__name__":=by decide) (hd:fD x:=by decide):We (Wh X.prog X.w) X.A (Ww (.Name x pos) X.env) Q E s:=by
 obtain⟨mb,h1,h2⟩:=I.mod.blt;exact Calls.Name_function_global I.ok.kind hg (Calls.loadGlobal_builtin (by rw[I.ok.glob];exact I.mod.glob.keeps I.bk) hm (by rw[I.ok.blt];exact h1.keeps I.bk) ((h2 x hn).trans hv) h) hd
theorem VD {v:V}(hg:Gl X x)(hm:X.mg x=none)(hv:Wm x=some u)(r:RelV v u)(hn:x≠"__name__":=by decide) (hd:fD x:=by decide):PE X (.Name x pos) (tC v):=
 λ_ _ _ H _ I h=>qd I hg hm hv ⟨v,H,I,r,h⟩ hn hd
variable {a b:Expr}{ta tb:TE}{pos:Pos}
def tB (t:TE):TT:=λY H Q=>t Y H λx H1=>∃c,x=.bl c/\Q c H1
variable {tA jU:TT}{rest:List Expr}
def Dq (t u:TT):TT:=λY H Q=>t Y H λc H1=>if c=true then u Y H1 Q else Q false H1
def VF (t u:TT):TT:=λY H Q=>t Y H λc H1=>if c=true then Q true H1 else u Y H1 Q
def Dr (t:TT):TT:=λY H Q=>t Y H λc H1=>Q (!c) H1
theorem VG (ha:PT X a tA):PW X (.BoolOp .And [a] pos) tA:=by
 intro wh pins s Y H Q I h;refine isTrue_and (aQ (ha pins s Y H Q I h) λc s1 e=>?_);cases c with
 | true=>exact isTrue_and_nil e
 | false=>exact e
theorem VH (ha:PT X a tA):PW X (.BoolOp .Or [a] pos) tA:=by
 intro wh pins s Y H Q I h;refine isTrue_or (aQ (ha pins s Y H Q I h) λc s1 e=>?_);cases c with
 | false=>exact isTrue_or_nil e
 | true=>exact e
theorem VJ (ha:PT X a tA)(hb:PW X (.BoolOp .And (b::rest) pos) jU):PW X (.BoolOp .And (a::b::rest) pos) (Dq tA jU):=by
 intro wh pins s Y H Q I h;refine isTrue_and (aQ (ha pins s Y H _ I h) λc s1 ⟨H1,I1,q1⟩=>?_);cases c with
 | true=>exact hb wh pins s1 Y H1 Q I1 q1
 | false=>exact⟨H1,I1,q1⟩
theorem VL (ha:PT X a tA)(hb:PW X (.BoolOp .Or (b::rest) pos) jU):PW X (.BoolOp .Or (a::b::rest) pos) (VF tA jU):=by
 intro wh pins s Y H Q I h;refine isTrue_or (aQ (ha pins s Y H _ I h) λc s1 ⟨H1,I1,q1⟩=>?_);cases c with
 | true=>exact⟨H1,I1,q1⟩
 | false=>exact hb wh pins s1 Y H1 Q I1 q1
theorem VN (ha:PT X a tA):PT X (.UnaryOp .Not a pos) (Dr tA):=by
 intro pins s Y H Q I h;exact isTrue_not (ha pins s Y H (λc H1=>Q (!c) H1) I h)
def VP (ta tb:TE):TE:=λY H Q=>ta Y H λx H1=>∃c,x=.bl c/\if c=true then tb Y H1 Q else Q (.bl false) H1
def VR (ta:TE):TE:=λY H Q=>ta Y H λx H1=>∃c,x=.bl c/\Q (.bl (!c)) H1
theorem V0 {op}{t:TE}(h:PE X a t):PE X (.BoolOp op [a] pos) t:=λpins s Y H Q I hw=>BoolOp_one (h pins s Y H Q I hw)
theorem V1 (ha:PE X a ta)(hb:PE X (.BoolOp .And (b::rest) pos) tb):PE X (.BoolOp .And (a::b::rest) pos) (VP ta tb):=by
 intro pins s Y H Q I h;refine BoolOp_and (aQ (ha pins s Y H _ I h) λv s1 ⟨x,H1,I1,r1,q1⟩=>?_);obtain⟨c,rfl,q1⟩:=q1;cases r1;refine WZ ?_;cases c with
 | true=>exact hb pins s1 Y H1 Q I1 q1
 | false=>exact⟨.bl false,H1,I1,rfl,q1⟩
theorem V2 (ha:PE X a ta):PE X (.UnaryOp .Not a pos) (VR ta):=by
 intro pins s Y H Q I h;refine UnaryOp_ (aQ (ha pins s Y H _ I h) λv s1 ⟨x,H1,I1,r1,q1⟩=>?_);obtain⟨c,rfl,q1⟩:=q1;cases r1;exact not_of (WZ ⟨.bl (!c),H1,I1,rfl,q1⟩)
end
def bI (K:Xa)(H:Hp)(a:Addr)(xs:List V):Prop:=
 Rd H a (.lst xs)\/
  ∃(o:Obj) (its:Array Wb) (n:Nat),K.lookup a=some o/\o.cls=.type "list"/\o.dict=none/\o.data=.seq its n/\its.size<=Wf/\Vals xs its.toList
def bN (K:Xa)(H:Hp)(a:Addr)(xs:List V):Prop:=
 Rd H a (.tup xs)\/
  ∃(o:Obj) (its:Array Wb) (n:Nat),K.lookup a=some o/\o.cls=.type "tuple"/\o.data=.seq its n/\its.size<=Wf/\Vals xs its.toList/\o.dict=none
def Ds:Wb->Option V
 | .none=>some .non
 | .bool b=>some (.bl b)
 | .int i _=>some (.int i)
 | .str x _=>some (.str x)
 | .bytes b _=>some (.rM b)
 | .float b _=>some (.flt b)
 | .ref a=>some (.ref a)
 | .type n=>some (.ty n)
 | _=>none
theorem RelV.abs {x:V}(r:RelV x u):Ds u=some x:=by
 cases x with
 | non=>cases r;rfl
 | bl _=>cases r;rfl
 | int _=>obtain⟨t,rfl⟩:=r;rfl
 | str _=>obtain⟨t,rfl⟩:=r;rfl
 | rM _=>obtain⟨t,rfl⟩:=r;rfl
 | flt _=>obtain⟨t,rfl⟩:=r;rfl
 | ref _=>cases r;rfl
 | ty _=>cases r;rfl
theorem RelV.inj {x:V}(r:RelV x u)(q:RelV y u):x=y:=Qa (r.abs.symm.trans q.abs)
theorem Vals.inj:∀ {xs ys:List V}{us:Tq},Vals xs us->Vals ys us->xs=ys:=by
 intro xs ys us h;induction h generalizing ys with
 | nil=>intro h2;cases h2;rfl
 | cons r t ih=>
  intro h2;cases h2 with
  | cons r' t'=>rw[r.inj r',ih t']
section
variable {X:Cx}{pins:Tg}{Y:St}{H:Hp}{s:Wc}{a:Addr}{xs ys:List V}
theorem bI.of (h:H a=some (.lst xs)):bI K H a xs:=.inl (.inl h)
theorem bN.of (h:H a=some (.tup xs)):bN K H a xs:=.inl (.inl h)
theorem Inv.list (I:Inv X pins Y H s)(h:bI X.K H a xs):∃its:Tq,Vals xs its/\PlainL s.heap a its.toArray/\xs.length<=Wf:=by
 rcases h with h | ⟨o,its,n,hk,hc,hd,hs,hz,r⟩
 .obtain⟨z,its,n,r,e⟩:=h.ok I.hok;exact⟨its,r,⟨_,n,e,rfl,rfl,rfl⟩,z⟩
 .refine⟨its.toList,r,⟨o,n,I.jh a o hk,hc,hd,by simpa using hs⟩,?_⟩;have e:=r.length;simp only[YD]at e;lia
theorem Inv.tuple (I:Inv X pins Y H s)(h:bN X.K H a xs):∃its:Tq,Vals xs its/\IsTup s.heap a its.toArray/\xs.length<=Wf:=by
 rcases h with h | ⟨o,its,n,hk,hc,hs,hz,r,_⟩
 .obtain⟨z,its,r,p⟩:=h.ok I.hok;exact⟨its,r,p.tup,z⟩
 .refine⟨its.toList,r,⟨o,I.jh a o hk,hc,n,by simpa using hs⟩,?_⟩;have e:=r.length;simp only[YD]at e;lia
theorem Inv.u5 (I:Inv X pins Y H s)(h:bI X.K H a xs)(h':bI X.K H a ys):xs=ys:=by
 obtain⟨its,r,⟨o,n,e,_,_,d⟩,_⟩:=I.list h;obtain⟨its',r',⟨o',n',e',_,_,d'⟩,_⟩:=I.list h';rw[e]at e';cases e';rw[d]at d';injection d' with d1 _;have:its=its':=by simpa using congrArg Array.toList d1
 subst this;exact r.inj r'
theorem Inv.Jd (I:Inv X pins Y H s)(h:bN X.K H a xs)(h':bN X.K H a ys):xs=ys:=by
 obtain⟨its,r,⟨o,e,_,n,d⟩,_⟩:=I.tuple h;obtain⟨its',r',⟨o',e',_,n',d'⟩,_⟩:=I.tuple h';rw[e]at e';cases e';rw[d]at d';injection d' with d1 _;have:its=its':=by simpa using congrArg Array.toList d1
 subst this;exact r.inj r'
end
abbrev Cx.wish (X:Cx)(E:Ti):Cx:={ X with xe:=E }
abbrev Cx.pN (X:Cx):Cx:=X.wish λ_ _=>False
theorem Cx.Ok.wish (ok:X.Ok)(E:Ti):(X.wish E).Ok:=
 ⟨ok.mod,ok.kind,ok.glob,ok.blt,ok.above,ok.inj,ok.has,ok.cab,ok.hd,ok.frames,ok.rO,ok.exf,ok.bs,ok.pZ,ok.jR,ok.jT,ok.eG,ok.rP⟩
theorem Cx.Ok.nF (ok:(X.wish E).Ok):X.Ok:=
 ⟨ok.mod,ok.kind,ok.glob,ok.blt,ok.above,ok.inj,ok.has,ok.cab,ok.hd,ok.frames,ok.rO,ok.exf,ok.bs,ok.pZ,ok.jR,ok.jT,ok.eG,ok.rP⟩
section
variable {X:Cx}{pins:Tg}{Y:St}{H:Hp}{s:Wc}{E:Ti}
theorem Inv.wish (I:Inv X pins Y H s)(E:Ti):Inv (X.wish E) pins Y H s:=⟨I.ok.wish E,I.os,I.bare,I.base,I.loc,I.cell,I.free,I.bY,I.pin,I.hok,I.len⟩
theorem Inv.nF (I:Inv (X.wish E) pins Y H s):Inv X pins Y H s:=⟨I.ok.nF,I.os,I.bare,I.base,I.loc,I.cell,I.free,I.bY,I.pin,I.hok,I.len⟩
theorem SP.nF {D:Ends}{f:Flow}{s':Wc}(h:SP (X.wish E) pins D f s'):SP X pins D f s':=by
 cases f with
 | next=>obtain⟨Y',H',I,q⟩:=h;exact⟨Y',H',I.nF,q⟩
 | brk=>obtain⟨Y',H',I,q⟩:=h;exact⟨Y',H',I.nF,q⟩
 | cont=>obtain⟨Y',H',I,q⟩:=h;exact⟨Y',H',I.nF,q⟩
 | ret u=>obtain⟨v,Y',H',I,r,q⟩:=h;exact⟨v,Y',H',I.nF,r,q⟩
theorem dH.pN {st:List Wn}{t:TS}(h:dH X.pN st t):dH X st t:=λpins s Y H D I hw=>
 WC (h pins s Y H D (I.wish _) hw) (λ_ _ q=>q.nF) λ_ _ z=>Qz z
end
section
variable {X:Cx}{st:Wn}{rest:List Wn}{t u:TS}{e:Expr}{te:TE}{pos:Pos}
def V3:TS:=λD Y H=>D.nx Y H
def xu (t u:TS):TS:=λD Y H=>t { D with nx:=u D } Y H
theorem Je:dH X [] V3:=λ_ _ Y H _ I h=>W6 ⟨Y,H,I,h⟩
theorem qj (h1:PS X st t)(h2:dH X rest u):dH X (st::rest) (xu t u):=by
 intro pins s Y H D I h;refine wpAny_execs_cons (aQ (h1 pins s Y H { D with nx:=u D } I h) λf s1 q=>?_);cases f with
 | next=>
  obtain⟨Y',H',I',q⟩:=q;exact h2 pins s1 Y' H' D I' q
 | ret v=>exact q
 | brk=>exact q
 | cont=>exact q
theorem u6 (h1:PS X st t):dH X [st] t:=by
 intro pins s Y H D I h;refine wpAny_execs_cons (aQ (h1 pins s Y H D I h) λf s1 q=>?_);cases f with
 | next=>exact W6 q
 | ret v=>exact q
 | brk=>exact q
 | cont=>exact q
theorem Inv.quiet (I:Inv X pins Y H s):interactive X.env=false:=by simp[interactive,I.ok.kind]
def Jf (te:TE):TS:=λD Y H=>te Y H λ_ H1=>D.nx Y H1
theorem Ab (he:PE X e te)(hs:Wx e none pos.line X.env=pure false:=by rfl):PS X (.Expr e pos) (Jf te):=by
 intro pins s Y H D I h;exact wpAny_Expr_any (aQ (he pins s Y H _ I h) λv s1 ⟨x,H1,I1,r1,q1⟩=>⟨Y,H1,I1,q1⟩) I.quiet hs
def xG (te:TE):TS:=λD Y H=>te Y H D.rt
theorem Jg (he:PE X e te):PS X (.Return (some e) pos) (xG te):=by
 intro pins s Y H D I h;exact wpAny_Return_some (aQ (he pins s Y H _ I h) λv s1 ⟨x,H1,I1,r1,q1⟩=>⟨x,Y,H1,I1,r1,q1⟩)
def Dt (c:TT)(t u:TS):TS:=λD Y H=>c Y H λb H1=>if b=true then t D Y H1 else u D Y H1
theorem Jh {c:Expr}{a b:List Wn}{tc:TT}(hc:PT X c tc)(ha:dH X a t)(hb:dH X b u):PS X (.If c a b pos) (Dt tc t u):=by
 intro pins s Y H D I h;refine wpAny_If (aQ (hc pins s Y H _ I h) λd s1 ⟨H1,I1,q1⟩=>?_);cases d with
 | true=>exact ha pins s1 Y H1 D I1 q1
 | false=>exact hb pins s1 Y H1 D I1 q1
end
abbrev TG:=V->St->Hp->(St->Hp->Prop)->Prop
abbrev ql:=List V->St->Hp->(St->Hp->Prop)->Prop
def PG (X:Cx)(target:Expr)(t:TG):Prop:=
 ∀(pins:Tg) (s:Wc) (Y:St) (H:Hp) (v:V) (u:Wb) (Q:St->Hp->Prop),Inv X pins Y H s->RelV v u->t v Y H Q->
  We (Wh X.prog X.w) X.A (assign target X.env u) (λ_ s'=>∃Y' H',Inv X pins Y' H' s'/\Q Y' H') X.xe s
def pO (X:Cx)(ts:List Expr)(t:ql):Prop:=
 ∀(pins:Tg) (s:Wc) (Y:St) (H:Hp) (vs:List V) (us:Tq) (Q:St->Hp->Prop),Inv X pins Y H s->Vals vs us->t vs Y H Q->
  We (Wh X.prog X.w) X.A (assignInOrder ((WI ts X.env).map (·.2)) us) (λ_ s'=>∃Y' H',Inv X pins Y' H' s'/\Q Y' H') X.xe s
abbrev tY:=V->V->V->Hp->(Hp->Prop)->Prop
def xH (X:Cx)(t:tY):Prop:=
 ∀(pins:Tg) (s:Wc) (Y:St) (H:Hp) (o i v:V) (ov iv u:Wb) (Q:Hp->Prop),Inv X pins Y H s->RelV o ov->RelV i iv->RelV v u->t o i v H Q->
  We (Wh X.prog X.w) X.A (setItem ov iv u) (λ_ s'=>∃H',Inv X pins Y H' s'/\Q H') X.xe s
section
variable {X:Cx}{pos:Pos}
def xJ (i:Nat):TG:=λv Y H Q=>Q (Y.set i (some v)) H
theorem Ac (hN:X.N.Nodup)(hi:X.N[i]? = some x)(hx:Loc X.env.scope x)(hf:lE X x:=by first | exact .inl rfl | exact .inr rfl | assumption):PG X (.Name x pos) (xJ i):=by
 intro pins s Y H v u Q I r h;exact wpAny_assign_Name (Ja I hN hi hx r (λs' I'=>⟨_,H,I',h⟩) hf)
def Du:ql:=λvs Y H Q=>vs=[]/\Q Y H
def V4 (t:TG)(u:ql):ql:=λvs Y H Q=>∃v r,vs=v::r/\t v Y H λY' H'=>u r Y' H' Q
theorem V5:pO X [] Du:=by
 intro pins s Y H vs us Q I r h;obtain⟨e,h⟩:=h;subst e;cases r;exact assignInOrder_nil ⟨Y,H,I,h⟩
theorem V6 {e:Expr}{es:List Expr}{t:TG}{u:ql}(h1:PG X e t)(h2:pO X es u)
  (hs:(WI (e::es) X.env).map (·.2)=assign e X.env::(WI es X.env).map (·.2):=by rfl):pO X (e::es) (V4 t u):=by
 intro pins s Y H vs us Q I r h;obtain⟨v,vr,e1,h⟩:=h;subst e1;cases r with
 | cons r rr=>
  rw[hs];refine assignInOrder_cons (aQ (h1 pins s Y H _ _ _ I r h) λ_ s1 ⟨Qq3,H1,I1,q1⟩=>?_);exact h2 pins s1 Qq3 H1 _ _ Q I1 rr q1
def Dv (K:Xa)(n:Nat)(t:ql):TG:=λv Y H Q=>∃a xs,v=.ref a/\bN K H a xs/\xs.length=n/\t xs Y H Q
theorem V7 {es:List Expr}{k:Nat}{t:ql}{n:Nat}(hc:X.calm=true)(h:pO X es t)
  (hn:(WI es X.env).length=n:=by rfl) (hst:(WI es X.env).findIdx? (·.1)=none:=by rfl):PG X (.Tuple es k pos) (Dv X.K n t):=by
 intro pins s Y H v u Q I r hw;obtain⟨a,xs,e1,hq,hl,hw⟩:=hw;subst e1;cases r;obtain⟨its,rv,ht,hz⟩:=I.tuple hq;refine assign_Tuple_tuple (I.ok.hd hc) ht (by simp[hn,<- hl,rv.length]) hst λh' hx=>?_;have I1:Inv X pins Y H { s with heap:=h' }:=I.kept (t':=s.toks) λb o e=>hx b o (XB (Xw e)) e;exact h pins _ Y H xs _ Q I1 (by simpa using rv) hw
def Dw (to ti:TE)(t:tY):TG:=λv Y H Q=>to Y H λo H1=>ti Y H1 λi H2=>t o i v H2 λH3=>Q Y H3
theorem V8 {o i:Expr}{to ti:TE}{t:tY}(ho:PE X o to)(hi:PE X i ti)(hs:xH X t)
  (ha:∀v,assign (.Subscript o i pos) X.env v=(do
   let ov <- WN [v] (Ww o X.env);let iv <- WN [v,ov] (Ww i X.env)
   standAt pos
   WN [v,ov,iv] (setItem ov iv v)
   release [v,ov,iv] []):=by intro _;rfl):PG X (.Subscript o i pos) (Dw to ti t):=by
 intro pins s Y H v u Q I r h;rw[ha];refine Wa (Wy (aQ (ho pins s Y H _ I h) λov s1 ⟨x,H1,I1,r1,q1⟩=>?_));refine Wa (Wy (aQ (hi pins s1 Y H1 _ I1 q1) λiv s2 ⟨y,H2,I2,r2,q2⟩=>?_));refine Wa (wpAny_standAt (Wa (Wy (aQ (hs pins s2 Y H2 x y v ov iv u _ I2 r1 r2 r q2) λ_ s3 ⟨H3,I3,q3⟩=>?_))));exact wpAny_release ⟨Y,H3,I3,q3⟩
def oA (te:TE)(g:TG):TS:=λD Y H=>te Y H λx H1=>g x Y H1 D.nx
theorem Ji {tg e:Expr}{te:TE}{g:TG}(he:PE X e te)(hg:PG X tg g)(hs:swapsWithSole [tg] e pos.line X.env=pure false:=by rfl)(hw:swappedStores [tg] e X.env=pure none:=by rfl)
  (h1:(WI [tg] X.env).map (·.2)=[assign tg X.env]:=by rfl):PS X (.Assign [tg] e pos) (oA te g):=by
 intro pins s Y H D I h;refine wpAny_Assign_stores (aQ (he pins s Y H _ I h) λv s1 ⟨x,H1,I1,r1,q1⟩=>?_) hs hw;rw[h1];exact aQ (hg pins s1 Y H1 x v _ I1 r1 q1) λ_ s2 q=>q
theorem rR {te:TE}{pos':Pos}(hN:X.N.Nodup)(hi:X.N[i]? = some x)(hx:Loc X.env.scope x)(he:PE X e te)(hs:Wx e (some (.Name x pos')) pos.line X.env=pure false:=by rfl)(hf:lE X x:=by first | exact .inl rfl | exact .inr rfl | assumption) :
  PS X (.Assign [.Name x pos'] e pos) (oA te (xJ i)):=by
 intro pins s Y H D I h;refine wpAny_Assign_Name (aQ (he pins s Y H _ I h) λv s1 ⟨y,H1,I1,r1,q1⟩=>?_) hs;exact Ja I1 hN hi hx r1 (λs2 I2=>⟨_,H1,I2,q1⟩) hf
end
section
variable {X:Cx}{pos:Pos}
def V9 (c:TT)(tb:TS):TS:=λD Y H=>∃W:Nat->St->Hp->Prop,(∃m,W m Y H)/\∀m Y H,W m Y H->
 c Y H λb H1=>if b=true then ∃N:St->Hp->Prop,(∀Y' H',N Y' H'->∃m',m'<m/\W m' Y' H')/\tb { D with nx:=N,ct:=N,bk:=D.nx } Y H1 else D.nx Y H1
theorem YS {c:Expr}{tc:TT}{tb:TS}(hp:W3 (Wh X.prog X.w) X.A X.env X.xe)(hc:PT X c tc)(hb:dH X body tb):PS X (.While c body [] pos) (V9 tc tb):=by
 intro pins s Y H D I h;obtain⟨W,⟨m0,w0⟩,turn⟩:=h;refine wpAny_While (codeAny_whileLoop (λn s'=>∃Y' H',Inv X pins Y' H' s'/\W n Y' H') ?_ m0 ⟨Y,H,I,w0⟩);rintro n s1 ⟨Qq3,H1,I1,w1⟩;refine WM hp (aQ (hc pins s1 Qq3 H1 _ I1 (turn n Qq3 H1 w1)) λb s2 ⟨H2,I2,q2⟩=>?_);cases b with
 | true=>
  obtain⟨N,hN,q2⟩:=q2;rw[Qf rfl];refine WM hp (aQ (hb pins s2 Qq3 H2 _ I2 q2) λf s3 q3=>?_);cases f with
  | next=>
   obtain⟨Qq4,H3,I3,n3⟩:=q3;obtain⟨m',hm,w3⟩:=hN Qq4 H3 n3;exact⟨m',hm,Qq4,H3,I3,w3⟩
  | cont=>
   obtain⟨Qq4,H3,I3,n3⟩:=q3;obtain⟨m',hm,w3⟩:=hN Qq4 H3 n3;exact⟨m',hm,Qq4,H3,I3,w3⟩
  | brk=>exact q3
  | ret v=>exact q3
 | false=>
  rw[Qe Xu];exact W6 ⟨Qq3,H2,I2,q2⟩
end
structure It where
 go:Nat->Hp->Prop
 rW:Nat->Hp->V->Hp->Prop
 stop:Nat->Hp->Prop
def fJ (X:Cx)(pins:Tg)(H:Hp)(b:Addr):Prop:=
 H b=none/\b≠X.env.locals/\b∉X.fs/\(b∈X.ex\/X.s₀.heap.objs.size<=b)/\(∀x c,X.env.cells.lookup x=some c->c≠b)/\∀p∈X.pn++pins,p.1≠b
theorem Inv.jV {H':Hp}(I:Inv X pins Y H s)(hb:s.heap.objs.size<=b)(hn:H' b=none):fJ X pins H' b:=by
 refine⟨hn,Yh (XJ I.lt hb),I.Dm hb,.inr (XC I.sz hb),λx c e z=>?_,λp hp z=>?_⟩
 .obtain⟨v,q⟩:=I.cell x c e;exact Qg (XJ q.lt (by rw[z];exact hb)) (YH _)
 .exact Qg (XJ (Xw (I.pin p hp).1) (by rw[z];exact hb)) (YH _)
structure Turn (P:Wg)(w:Wj)(K:Xa)(tg:Expr)(Qq12:It)(fp:Tr)(it:Addr)(tn:Nat->Heap->Prop):Prop where
 mem:it∈fp
 obj:∀i h,tn i h->∀b∈fp,∃o,h.get? b=some o/\∀v,o.data≠.cell v
 keep:∀i h h',tn i h->(∀b∈fp,∀o,h.get? b=some o->h'.get? b=some o)->tn i h'
 item:∀(X:Cx),X.prog=P->X.w=w->X.K=K->X.calm=true->∀(i:Nat) (pins:Tg) (s:Wc) (Y:St) (H:Hp) (E:Ti),Inv X pins Y H s->(∀b∈fp,fJ X pins H b)->tn i s.heap->Qq12.go i H->
  We (Wh P w) X.A (WX (.ref it)) (λr s1=>∃u,r=some u/\
   We (Wh P w) X.A (letOwnedTupleGo tg (.ref it) u) (λ_ s2=>∃x H',Inv X pins Y H' s2/\RelV x u/\Qq12.rW i H x H'/\tn (i+1) s2.heap/\∀b∈fp,H' b=none) E s1) E s
 done:∀(X:Cx),X.prog=P->X.w=w->X.K=K->X.calm=true->∀(i:Nat) (pins:Tg) (s:Wc) (Y:St) (H:Hp) (E:Ti),Inv X pins Y H s->(∀b∈fp,fJ X pins H b)->tn i s.heap->Qq12.stop i H->
  We (Wh P w) X.A (WX (.ref it)) (λr s1=>r=none/\Inv X pins Y H s1) E s
 self:∀(A:Wl) (i:Nat) (s:Wc) (Q:Ti) (E:Ti),tn i s.heap->Q (.ref it) s->We (Wh P w) A (pyIter (.ref it)) Q E s
abbrev TI:=St->Hp->(It->Hp->Prop)->Prop
def PIE (X:Cx)(pins:Tg)(Y:St)(tg:Expr)(R:It->Hp->Prop)(itv:Wb)(s2:Wc):Prop:=
 ∃(it:Addr) (fp:Tr) (tn:Nat->Heap->Prop) (Qq12:It) (H':Hp),itv=.ref it/\Inv X pins Y H' s2/\Turn X.prog X.w X.K tg Qq12 fp it tn/\tn 0 s2.heap/\(∀b∈fp,fJ X pins H' b)/\R Qq12 H'
def PI (X:Cx)(tg iter:Expr)(wi:TI):Prop:=
 ∀(pins:Tg) (s:Wc) (Y:St) (H:Hp) (R:It->Hp->Prop),Inv X pins Y H s->wi Y H R->
  We (Wh X.prog X.w) X.A (Ww iter X.env) (λv s1=>We (Wh X.prog X.w) X.A (pyIter v) (PIE X pins Y tg R) X.xe s1) X.xe s
theorem Ad {Qq11:Model}{A:Wl}{E:Ti}{s:Wc}{tg:Expr}{it:Addr}{u:Wb}{o:Obj}{n:String}{vs:Array Wb}{Q:Unit->Wc->Prop}(ho:s.heap.get? it=some o)(hc:o.cls=.type n)(hd:o.data=.fields vs)
    (hn:["enumerate","zip","dict_itemiterator","dict_reverseitemiterator","odict_iterator","itertools.zip_longest","itertools.pairwise"].contains n=false) (hQ:Q () s):We Qq11 A (letOwnedTupleGo tg (.ref it) u) Q E s:=by
  unfold letOwnedTupleGo;cases tg<;>first
    | exact Wd hQ
    | (cases u<;>first
        | exact Wd hQ
        | (refine Wa (wpAny_load ho ?_)
           rw[hc,hd];show We Qq11 A (if (["enumerate","zip","dict_itemiterator","dict_reverseitemiterator","odict_iterator","itertools.zip_longest","itertools.pairwise"].contains n&&vs[0]? == some (WL _))=true then _ else _) Q E s
           rw[Qe (by intro h;rw[hn,Bool.false_and]at h;cases h)];exact Wd hQ))
def Dy (K:Xa)(a:Addr):It:=
 ⟨λi H=>∃xs x,bI K H a xs/\xs[i]? = some x,λi H x H'=>H'=H/\∀xs,bI K H a xs->xs[i]? = some x,λi H=>∃xs,bI K H a xs/\xs.length<=i⟩
def Jj (K:Xa)(a:Addr):It:=
 ⟨λi H=>∃xs x,bN K H a xs/\xs[i]? = some x,λi H x H'=>H'=H/\∀xs,bN K H a xs->xs[i]? = some x,λi H=>∃xs,bN K H a xs/\xs.length<=i⟩
def Ae (lo:Int)(n:Nat):It:=⟨λi _=>i<n,λi H x H'=>H'=H/\x=.int (lo+i),λi _=>n<=i⟩
theorem YT (a it:Addr):Turn P w K tg (Dy K a) [it] it (λi h=>h.IsListIter it a i) where
 mem:=by simp
 obj:=λi h st b hb=>by
  have e:b=it:=by simpa using hb
  subst e;obtain⟨o,e,c,d⟩:=st;exact⟨o,e,λv z=>by rw[d]at z;cases z⟩
 keep:=λi h h' st k=>st.at λo e=>k it (by simp) o e
 item:=by
  intro X hP hw hK hc i pins s Y H E I hf st hg;subst hP hw hK;obtain⟨xs,x,hq,hx⟩:=hg;obtain⟨its,rv,p,hz⟩:=I.list hq;obtain⟨u,hu,ru⟩:=rv.get hx;obtain⟨f0,f1,f2,f3,f4,f5⟩:=hf it (by simp);refine wpAny_pyNext_list_item st p.isList (x:=u) (by simpa using hu) λh' st' sb=>?_;have I1:Inv X pins Y H { s with heap:=h' }:=I.turned (t':=s.toks) (λb o hb e=>(sb.2 b hb).trans e) f0 f1 f3 f4 f5;obtain⟨o,e,c,d⟩:=id st';exact⟨u,rfl,Ad (s:={ s with heap:=h' }) e c d (by decide) ⟨x,H,I1,ru,⟨rfl,λys hy=>by rw[I.u5 hy hq];exact hx⟩,st',λb hb=>(hf b hb).1⟩⟩
 done:=by
  intro X hP hw hK hc i pins s Y H E I hf st hg;subst hP hw hK;obtain⟨xs,hq,hx⟩:=hg;obtain⟨its,rv,p,hz⟩:=I.list hq;obtain⟨f0,f1,f2,f3,f4,f5⟩:=hf it (by simp);have hl:=rv.length;exact wpAny_pyNext_list_end (I.ok.hd hc) st p.isList (by simp;lia) λh' eb=>⟨rfl,I.turned (t':=s.toks) (λb o hb e=>eb b o hb e) f0 f1 f3 f4 f5⟩
 self:=λ_ _ _ _ _ st h=>wpAny_pyIter_listiter st h
theorem YW (a it:Addr):Turn P w K tg (Jj K a) [it] it (λi h=>h.IsTupleIter it a i) where
 mem:=by simp
 obj:=λi h st b hb=>by
  have e:b=it:=by simpa using hb
  subst e;obtain⟨o,e,c,d⟩:=st;exact⟨o,e,λv z=>by rw[d]at z;cases z⟩
 keep:=λi h h' st k=>st.at λo e=>k it (by simp) o e
 item:=by
  intro X hP hw hK hc i pins s Y H E I hf st hg;subst hP hw hK;obtain⟨xs,x,hq,hx⟩:=hg;obtain⟨its,rv,p,hz⟩:=I.tuple hq;obtain⟨u,hu,ru⟩:=rv.get hx;obtain⟨f0,f1,f2,f3,f4,f5⟩:=hf it (by simp);refine wpAny_pyNext_tuple_item st (show s.heap.IsTuple a its.toArray from p) (x:=u) (by simpa using hu) λh' st' sb=>?_;have I1:Inv X pins Y H { s with heap:=h' }:=I.turned (t':=s.toks) (λb o hb e=>(sb.2 b hb).trans e) f0 f1 f3 f4 f5;obtain⟨o,e,c,d⟩:=id st';exact⟨u,rfl,Ad (s:={ s with heap:=h' }) e c d (by decide) ⟨x,H,I1,ru,⟨rfl,λys hy=>by rw[I.Jd hy hq];exact hx⟩,st',λb hb=>(hf b hb).1⟩⟩
 done:=by
  intro X hP hw hK hc i pins s Y H E I hf st hg;subst hP hw hK;obtain⟨xs,hq,hx⟩:=hg;obtain⟨its,rv,p,hz⟩:=I.tuple hq;obtain⟨f0,f1,f2,f3,f4,f5⟩:=hf it (by simp);have hl:=rv.length;exact wpAny_pyNext_tuple_end (I.ok.hd hc) st (show s.heap.IsTuple a its.toArray from p) (by simp;lia) λh' eb=>⟨rfl,I.turned (t':=s.toks) (λb o hb e=>eb b o hb e) f0 f1 f3 f4 f5⟩
 self:=λ_ _ _ _ _ st h=>wpAny_pyIter_tupleiter st h
theorem YX (it:Addr)(lo:Int)(n:Nat):Turn P w K tg (Ae lo n) [it] it (λi h=>IsRangeIter h it (lo+(i:Nat)*1) ((n:Int)-(i:Nat)) 1) where
 mem:=by simp
 obj:=λi h st b hb=>by
  have e:b=it:=by simpa using hb
  subst e;exact⟨_,st,λv z=>by
   have z':Data.fields _=Data.cell v:=z;cases z'⟩
 keep:=λi h h' st k=>k it (by simp) _ st
 item:=by
  intro X hP hw hK hc i pins s Y H E I hf st hg;subst hP hw hK;obtain⟨f0,f1,f2,f3,f4,f5⟩:=hf it (by simp);have W:=Walks.range (prog:=X.prog) (w:=X.w) (I.ok.hd hc) it lo 1 n;refine W.item i s _ _ hg st λv h' tk hv st' kk=>?_;obtain⟨t,rfl⟩:=hv;have I1:Inv X pins Y H { s with heap:=h',toks:=tk }:=I.turned (λb o hb e=>kk b o (by simpa using hb) e) f0 f1 f3 f4 f5;refine⟨_,rfl,Ad (s:={ s with heap:=h',toks:=tk }) (n:="range_iterator") st' rfl rfl (by decide) ⟨.int (lo+i),H,I1,⟨t,?_⟩,⟨rfl,rfl⟩,st',λb hb=>(hf b hb).1⟩⟩;rw[Int.mul_one]
 done:=by
  intro X hP hw hK hc i pins s Y H E I hf st hg;subst hP hw hK;obtain⟨f0,f1,f2,f3,f4,f5⟩:=hf it (by simp);exact wpAny_pyNext_range_end (I.ok.hd hc) st (by have:n<=i:=hg;lia) λh' eb=>⟨rfl,I.turned (t':=s.toks) (λb o hb e=>eb b o hb e) f0 f1 f3 f4 f5⟩
 self:=λ_ _ _ _ _ st h=>wpAny_pyIter_rangeiter st h
section
variable {X:Cx}{tg:Expr}
def YZ (K:Xa)(tl:TE):TI:=λY H R=>tl Y H λx H1=>∃a,x=.ref a/\(∃xs,bI K H1 a xs)/\R (Dy K a) H1
def Dz (K:Xa)(tl:TE):TI:=λY H R=>tl Y H λx H1=>∃a,x=.ref a/\(∃xs,bN K H1 a xs)/\R (Jj K a) H1
theorem Y0 {l:Expr}{tl:TE}(hl:PE X l tl):PI X tg l (YZ X.K tl):=by
 intro pins s Y H R I h;refine aQ (hl pins s Y H _ I h) λv s1 ⟨x,H1,I1,r1,q1⟩=>?_;obtain⟨a,e,⟨xs,hq⟩,q⟩:=q1;subst e;cases r1;obtain⟨its,rv,p,hz⟩:=I1.list hq;refine wpAny_pyIter_list p.isList ?_;refine⟨s1.heap.objs.size,[s1.heap.objs.size],_,_,H1,rfl,I1.kept (t':=s1.toks) λb o e=>Xe _ e,YT a _,⟨_,Xx _ rfl,rfl,rfl⟩,λb hb=>?_,q⟩;have e:b=s1.heap.objs.size:=by simpa using hb
 subst e;exact I1.jV (Xj _) (I1.hok.fresh (Xj _))
theorem Y8 {l:Expr}{tl:TE}(hl:PE X l tl):PI X tg l (Dz X.K tl):=by
 intro pins s Y H R I h;refine aQ (hl pins s Y H _ I h) λv s1 ⟨x,H1,I1,r1,q1⟩=>?_;obtain⟨a,e,⟨xs,hq⟩,q⟩:=q1;subst e;cases r1;obtain⟨its,rv,p,hz⟩:=I1.tuple hq;refine wpAny_pyIter_tuple (show s1.heap.IsTuple a its.toArray from p) ?_;refine⟨s1.heap.objs.size,[s1.heap.objs.size],_,_,H1,rfl,I1.kept (t':=s1.toks) λb o e=>Xe _ e,YW a _,⟨_,Xx _ rfl,rfl,rfl⟩,λb hb=>?_,q⟩;have e:b=s1.heap.objs.size:=by simpa using hb
 subst e;exact I1.jV (Xj _) (I1.hok.fresh (Xj _))
theorem Y9 {pins:Tg}{Y:St}{H:Hp}{s:Wc}{R:It->Hp->Prop}{E:Ti}{lo hi:Int}{t u v:Tok}{tk:Nat}(I:Inv X pins Y H s)(h1:-(2 ^ 62)<=lo)(h2:lo<2 ^ 62)(h3:-(2 ^ 62)<=hi)(h4:hi<2 ^ 62)
  (q:R (Ae lo (hi-lo).toNat) H):We (Wh X.prog X.w) X.A (pyIter (.ref s.heap.objs.size)) (PIE X pins Y tg R) E { s with heap:=s.heap.push { cls:=.type "range",data:=.fields #[.int lo t,.int hi u,.int 1 v] },toks:=tk }:=by
 refine wpAny_pyIter_range (IsRange.new ..) (small_one h1 h2 h3 h4) ?_;have I1:Inv X pins Y H { s with heap:=s.heap.push { cls:=.type "range",data:=.fields #[.int lo t,.int hi u,.int 1 v] },toks:=tk }:=I.kept λb o e=>Xe _ e;refine⟨(s.heap.push { cls:=.type "range",data:=.fields #[.int lo t,.int hi u,.int 1 v] }).objs.size,[(s.heap.push { cls:=.type "range",data:=.fields #[.int lo t,.int hi u,.int 1 v] }).objs.size],_,_,H,rfl,
  I1.kept (t':=tk) λb o e=>Xe _ e,YX _ lo (hi-lo).toNat,?_,λb hb=>?_,q⟩
 .have e1:lo+((0:Nat):Int)*1=lo:=by simp
  have e2:(((hi-lo).toNat:Nat):Int)-((0:Nat):Int)=Builtin.Range.rangeSize lo hi 1:=by rw[rangeSize_one];split<;>lia
  show IsRangeIter _ _ (lo+((0:Nat):Int)*1) ((((hi-lo).toNat:Nat):Int)-((0:Nat):Int)) 1;rw[e1,e2];exact Xx _ rfl
 .have e:b=(s.heap.push { cls:=.type "range",data:=.fields #[.int lo t,.int hi u,.int 1 v] }).objs.size:=by simpa using hb
  subst e;exact I1.jV (Xj _) (I1.hok.fresh (Xj _))
def Za (ta:TA):TI:=λY H R=>ta Y H λvs H1=>∃j:Int,vs=[.int j]/\-(2 ^ 62)<=j/\j<2 ^ 62/\R (Ae 0 j.toNat) H1
theorem Zb {a:Expr}{ta:TA}{p:Pos}(hg:Gl X "range") (hm:X.mg "range" = none) (ha:PA X [a] ta) (hs:Wo [a] X.env=[(false,Ww a X.env)]:=by rfl):PI X tg (.Call (.Name "range" p) [a] [] pos) (Za ta):=by
 intro pins s Y H R I h;refine Call_ (qd I hg hm boot_range (Qx (aQ (ha pos pins s Y H _ I h) λus s1 ⟨vs,H1,I1,r1,q1⟩=>?_) hs rfl));obtain⟨j,e,q1,q2,q⟩:=q1;subst e;cases r1 with
 | cons r rr=>
  cases rr;obtain⟨t,rfl⟩:=r;exact call_range_1 (Y9 I1 (by lia) (by lia) q1 q2 (by simpa using q))
def DG (wi:TI)(g:TG)(tb:TS):TS:=λD Y H=>wi Y H λQq12 H1=>∃W:Nat->Nat->St->Hp->Prop,(∃m,W 0 m Y H1)/\∀i m Y H,W i m Y H->
 (Qq12.stop i H/\D.nx Y H)\/(Qq12.go i H/\∃N:St->Hp->Prop,(∀Y' H',N Y' H'->∃m',m'<m/\W (i+1) m' Y' H')/\∀x H',Qq12.rW i H x H'->g x Y H' λQq5 H2=>tb { D with nx:=N,ct:=N,bk:=D.nx } Qq5 H2)
def xK (fp:Tr)(h:Heap):Tg:=fp.filterMap λb=>(h.get? b).map λo=>(b,o)
theorem Af {o:Obj}(hb:b∈fp)(e:h.get? b=some o):(b,o)∈xK fp h:=List.mem_filterMap.mpr ⟨b,hb,by rw[e];rfl⟩
theorem Zc {p:Addr×Obj}(hp:p∈xK fp h):p.1∈fp/\h.get? p.1=some p.2:=by
 obtain⟨b,hb,e⟩:=List.mem_filterMap.mp hp;cases q:h.get? b with
 | none=>rw[q]at e;cases e
 | some o=>
  rw[q]at e;have e':(b,o)=p:=Qa e;subst e';exact⟨hb,q⟩
theorem Inv.pinned (I:Inv X pins Y H s)(hf:∀b∈fp,fJ X pins H b)(ho:∀b∈fp,∃o,s.heap.get? b=some o/\∀v,o.data≠.cell v):Inv X (pins++xK fp s.heap) Y H s:=
 I.IK λp hp=>(Xz.mp hp).elim (λz=>I.pin p (XR _ z)) λz=>by
  obtain⟨hb,e⟩:=Zc z;obtain⟨f0,f1,f2,_⟩:=hf p.1 hb;obtain⟨o,e',d⟩:=ho p.1 hb;rw[e]at e';cases e';exact⟨e,f0,f1,f2,d⟩
theorem Inv.xM {pl:Tg}(I:Inv X (pins++pl) Y H s):Inv X pins Y H s:=I.IK λp hp=>I.pin p (XR _ (Yj _ hp))
theorem u9 {iter:Expr}{body:List Wn}{wi:TI}{g:TG}{tb:TS}{pos:Pos}(hp:W3 (Wh X.prog X.w) X.A X.env X.xe)(hc:X.calm=true)(hi:PI X tg iter wi)(hg:PG X tg g)(hb:dH X body tb)
  (hs:oh X iter:=by intro _;rfl):PS X (.For tg iter body [] pos) (DG wi g tb):=by
 intro pins s Y H D I h;refine wpAny_For (aQ (hi pins s Y H _ I h) λv s1 h1=>aQ h1 λitv s2 h2=>?_) hs;obtain⟨it,fp,tn,Qq12,H2,e,I2,T,st2,f2,W,⟨m0,w0⟩,turn⟩:=h2;subst e;have stat:∀ {H':Hp},(∀b∈fp,H' b=none)->∀b∈fp,fJ X pins H' b:=λhn b hb=>⟨hn b hb,(f2 b hb).2⟩;refine codeAny_forLoop_any (λn s'=>∃i Y' H',Inv X pins Y' H' s'/\tn i s'.heap/\(∀b∈fp,H' b=none)/\W i n Y' H') ?_ m0 ⟨0,Y,H2,I2,st2,λb hb=>(f2 b hb).1,w0⟩;rintro n s3 ⟨i,Qq4,H3,I3,st3,fr3,w3⟩;rcases turn i n Qq4 H3 w3 with ⟨stop,qn⟩ | ⟨go,N,hN,step⟩
 .refine WM hp (aQ (T.done X rfl rfl rfl hc i pins s3 Qq4 H3 X.xe I3 (stat fr3) st3 stop) λr s4 ⟨hr,I4⟩=>?_);subst hr;exact W6 ⟨Qq4,H3,I4,qn⟩
 .refine WM hp (aQ (T.item X rfl rfl rfl hc i pins s3 Qq4 H3 X.xe I3 (stat fr3) st3 go) λr s4 ⟨u,hr,h4⟩=>?_);subst hr;refine WM hp (aQ h4 λ_ s5 ⟨x,H5,I5,r5,y5,st5,fr5⟩=>?_);have I5':=I5.pinned (stat fr5) (T.obj _ _ st5);refine WM hp (aQ (hg _ s5 Qq4 H5 x u _ I5' r5 (step x H5 y5)) λ_ s6 ⟨Qq6,H6,I6,q6⟩=>?_);refine WM hp (aQ (hb _ s6 Qq6 H6 _ I6 q6) λf s7 q7=>?_);have again:∀ {Qq7:St} {H7:Hp},Inv X (pins++xK fp s5.heap) Qq7 H7 s7->N Qq7 H7->∃m,m<n/\∃i Y' H',Inv X pins Y' H' s7/\tn i s7.heap/\(∀b∈fp,H' b=none)/\W i m Y' H':=λ{Qq7 H7} I7 n7=>by
   obtain⟨m',hm,w7⟩:=hN Qq7 H7 n7;refine⟨m',hm,i+1,Qq7,H7,I7.xM,T.keep _ _ _ st5 λb hb o e=>(I7.pin (b,o) (XR _ (XR _ (Af hb e)))).1,λb hb=>?_,w7⟩;obtain⟨o,e,d⟩:=T.obj _ _ st5 b hb;exact(I7.pin (b,o) (XR _ (XR _ (Af hb e)))).2.1
  cases f with
  | next=>obtain⟨Qq7,H7,I7,n7⟩:=q7;exact again I7 n7
  | cont=>obtain⟨Qq7,H7,I7,n7⟩:=q7;exact again I7 n7
  | brk=>obtain⟨Qq7,H7,I7,q7⟩:=q7;exact⟨Qq7,H7,I7.xM,q7⟩
  | ret v=>obtain⟨x7,Qq7,H7,I7,r7,q7⟩:=q7;exact⟨x7,Qq7,H7,I7.xM,r7,q7⟩
end
abbrev R2:=V->V->Hp->VK->Prop
def fZ (X:Cx)(f:Wb->Wb->Sem Wb)(r:R2):Prop:=
 ∀(pins:Tg) (s:Wc) (Y:St) (H:Hp) (x y:V) (v u:Wb) (Q:VK),Inv X pins Y H s->RelV x v->RelV y u->r x y H Q->
  We (Wh X.prog X.w) X.A (f v u) (EP X pins Y Q) X.xe s
def DK (X:Cx)(f:Wb->Sem Wb)(r:V->Hp->VK->Prop):Prop:=
 ∀(pins:Tg) (s:Wc) (Y:St) (H:Hp) (x:V) (v:Wb) (Q:VK),Inv X pins Y H s->RelV x v->r x H Q->
  We (Wh X.prog X.w) X.A (f v) (EP X pins Y Q) X.xe s
def jW (X:Cx)(f:Wb)(r:List V->Hp->VK->Prop):Prop:=
 ∀(pins:Tg) (s:Wc) (Y:St) (H:Hp) (xs:List V) (us:Tq) (Q:VK),Inv X pins Y H s->Vals xs us->r xs H Q->
  We (Wh X.prog X.w) X.A (call f us) (EP X pins Y Q) X.xe s
def DN (X:Cx)(r:V->Hp->(Bool->Hp->Prop)->Prop):Prop:=
 ∀(pins:Tg) (s:Wc) (Y:St) (H:Hp) (x:V) (v:Wb) (Q:Bool->Hp->Prop),Inv X pins Y H s->RelV x v->r x H Q->
  We (Wh X.prog X.w) X.A (truthy v) (TP X pins Y Q) X.xe s
def xN (r:R2)(ta tb:TE):TE:=λY H Q=>ta Y H λx H1=>tb Y H1 λy H2=>r x y H2 Q
def Zd (r:V->Hp->VK->Prop)(ta:TE):TE:=λY H Q=>ta Y H λx H1=>r x H1 Q
def rI (C:Int->Int->Prop)(g:Int->Int->V):R2:=λx y H Q=>∃i j,x=.int i/\y=.int j/\C i j/\Q (g i j) H
def rY (g:Int->Int->V):R2:=λx y H Q=>∃i j,x=.int i/\y=.int j/\Q (g i j) H
def rU (g:Int->V):V->Hp->VK->Prop:=λx H Q=>∃i,x=.int i/\Q (g i) H
section
variable {X:Cx}{a b c:Expr}{ta tb tc:TE}{pos:Pos}
theorem tZ (ha:PE X a ta)(hb:PE X b tb){pins:Tg}{s:Wc}{Y:St}{H:Hp}{R:V->V->Hp->Prop}(I:Inv X pins Y H s)
  (h:ta Y H λx H1=>tb Y H1 λy H2=>R x y H2) {Q:Ti} {f:Wb->Wb->Sem Wb}
  (hf:∀v u s2 x y H2,Inv X pins Y H2 s2->RelV x v->RelV y u->R x y H2->We (Wh X.prog X.w) X.A (f v u) Q X.xe s2) :
  We (Wh X.prog X.w) X.A (Ww a X.env) (λv s₁=>We (Wh X.prog X.w) X.A (Ww b X.env) (λu s₂=>We (Wh X.prog X.w) X.A (f v u) Q X.xe s₂) X.xe s₁) X.xe s:=by
 refine aQ (ha pins s Y H _ I h) λv s1 ⟨x,H1,I1,r1,q1⟩=>?_;refine aQ (hb pins s1 Y H1 _ I1 q1) λu s2 ⟨y,H2,I2,r2,q2⟩=>?_;exact hf v u s2 x y H2 I2 r1 r2 q2
theorem Ze {op:Operator}{r:R2}(ho:fZ X (WS op) r)(ha:PE X a ta)(hb:PE X b tb):PE X (.BinOp a op b pos) (xN r ta tb):=by
 intro pins s Y H Q I h;exact wpAny_BinOp (tZ ha hb I h λv u s2 x y H2 I2 rx ry q=>ho pins s2 Y H2 x y v u Q I2 rx ry q)
theorem Zf {op:UnaryOp}{r:V->Hp->VK->Prop}(ho:DK X (unaryOp op) r)(ha:PE X a ta):PE X (.UnaryOp op a pos) (Zd r ta):=by
 intro pins s Y H Q I h;exact UnaryOp_ (aQ (ha pins s Y H _ I h) λv s1 ⟨x,H1,I1,r1,q1⟩=>ho pins s1 Y H1 x v Q I1 r1 q1)
theorem xO {f:Wb->Wb->Sem Wb}{C:Int->Int->Prop}{g:Int->Int->Int}
  (rule:∀(i j:Int) (t u:Tok) (s:Wc) (Q:Ti) (E:Ti),C i j->Q (.int (g i j) s.toks) { s with toks:=s.toks+1 }->We (Wh X.prog X.w) X.A (f (.int i t) (.int j u)) Q E s) :
  fZ X f (rI C λi j=>.int (g i j)):=by
 intro pins s Y H x y v u Q I rx ry h;obtain⟨i,j,rfl,rfl,hc,q⟩:=h;obtain⟨t,rfl⟩:=rx;obtain⟨t',rfl⟩:=ry;exact rule i j t t' s _ _ hc ⟨.int (g i j),H,I.tok _,⟨_,rfl⟩,q⟩
theorem xP {f:Wb->Wb->Sem Wb}{g:Int->Int->Int}
  (rule:∀(i j:Int) (t u:Tok) (s:Wc) (Q:Ti) (E:Ti),Q (.int (g i j) s.toks) { s with toks:=s.toks+1 }->We (Wh X.prog X.w) X.A (f (.int i t) (.int j u)) Q E s) :
  fZ X f (rY λi j=>.int (g i j)):=by
 intro pins s Y H x y v u Q I rx ry h;obtain⟨i,j,rfl,rfl,q⟩:=h;obtain⟨t,rfl⟩:=rx;obtain⟨t',rfl⟩:=ry;exact rule i j t t' s _ _ ⟨.int (g i j),H,I.tok _,⟨_,rfl⟩,q⟩
theorem xQ {f:Wb->Wb->Sem Wb}{g:Int->Int->Bool}
  (rule:∀(i j:Int) (t u:Tok) (s:Wc) (Q:Ti) (E:Ti),Q (.bool (g i j)) s->We (Wh X.prog X.w) X.A (f (.int i t) (.int j u)) Q E s) :
  fZ X f (rY λi j=>.bl (g i j)):=by
 intro pins s Y H x y v u Q I rx ry h;obtain⟨i,j,rfl,rfl,q⟩:=h;obtain⟨t,rfl⟩:=rx;obtain⟨t',rfl⟩:=ry;exact rule i j t t' s _ _ ⟨.bl (g i j),H,I,rfl,q⟩
def xR (i j:Int):Prop:=0<j/\j<1073741824
def xU (i j:Int):Prop:=0<=j/\j<=1000000/\i.natAbs<2 ^ 64
def qm (i j:Int):Prop:=(-(2 ^ 64)<i/\i<2 ^ 64)\/(-(2 ^ 64)<j/\j<2 ^ 64)
theorem qm.ok {i j:Int}(h:qm i j):IntMulOk i j:=by
 rcases h with ⟨h1,h2⟩ | ⟨h1,h2⟩
 .exact .of_left (intBits_le_64 h1 h2)
 .exact .of_right (intBits_le_64 h1 h2)
theorem Zg:fZ X (WS .Add) (rY λi j=>.int (i+j)):=xP λ_ _ _ _ _ _ _ q=>add_int q
theorem Zh:fZ X (WS .Sub) (rY λi j=>.int (i-j)):=xP λ_ _ _ _ _ _ _ q=>sub_int q
theorem Zi:fZ X (WS .Mult) (rI qm λi j=>.int (i*j)):=xO λ_ _ _ _ _ _ _ hc q=>mul_int q hc.ok
theorem Zj:fZ X (WS .FloorDiv) (rI xR λi j=>.int (i / j)):=xO λi j _ _ _ _ _ hc q=>by
 have h1:(0:Int)<j:=hc.1;have h2:j<1073741824:=hc.2;exact floordiv_int (by lia) (by rw[Int.fdiv_eq_ediv_of_nonneg i (by lia)];exact q) (.inl (PyProof.noPylong_small (by lia)))
theorem Zk:fZ X (WS .Mod) (rI (λ_ j=>0<j) λi j=>.int (i % j)):=xO λi j _ _ _ _ _ hc q=>by
 have h1:(0:Int)<j:=hc;exact mod_int' (by lia) (by rw[Int.fmod_eq_emod_of_nonneg i (by lia)];exact q)
theorem Zm:fZ X (WS .Pow) (rI xU λi j=>.int (i ^ j.toNat)):=xO λ_ _ _ _ _ _ _ hc q=>pow_int_small hc.1 hc.2.1 hc.2.2 q
theorem Zn {f:Wb->Sem Wb}{g:Int->Int}
  (rule:∀(i:Int) (t:Tok) (s:Wc) (Q:Ti) (E:Ti),Q (.int (g i) s.toks) { s with toks:=s.toks+1 }->We (Wh X.prog X.w) X.A (f (.int i t)) Q E s) :
  DK X f (rU λi=>.int (g i)):=by
 intro pins s Y H x v Q I rx h;obtain⟨i,rfl,q⟩:=h;obtain⟨t,rfl⟩:=rx;exact rule i t s _ _ ⟨.int (g i),H,I.tok _,⟨_,rfl⟩,q⟩
theorem Zo:DK X (unaryOp .USub) (rU λi=>.int (-i)):=Zn λ_ _ _ _ _ q=>neg_int q
end
section
variable {X:Cx}{a b c:Expr}{ta tb tc:TE}{pos:Pos}
theorem Jk {Q:VK}{k k':Bool}(I:Inv X pins Y H s)(q:Q (.bl k) H)(e:k=k'):EP X pins Y Q (.bool k') s:=by
 subst e;exact⟨.bl k,H,I,rfl,q⟩
theorem Zq:fZ X (WF .Lt) (rY λi j=>.bl (decide (i<j))):=xQ λ_ _ _ _ _ _ _ q=>lt_int q
theorem Zr:fZ X (WF .Gt) (rY λi j=>.bl (decide (j<i))):=xQ λ_ _ _ _ _ _ _ q=>gt_int q
theorem Zt:fZ X (WF .Is) (λx y H Q=>y=.non/\Q (.bl (decide (x=.non))) H):=by
 intro pins s Y H x y v u Q I rx ry h;obtain⟨rfl,q⟩:=h;cases ry;refine is_none_gen (Jk I q ?_);cases x<;>first
  | (cases rx;rfl)
  | (obtain⟨t,rfl⟩:=rx;rfl)
theorem Zu:fZ X (WF .IsNot) (λx y H Q=>y=.non/\Q (.bl (!decide (x=.non))) H):=by
 intro pins s Y H x y v u Q I rx ry h;obtain⟨rfl,q⟩:=h;cases ry;refine isnot_none_gen (Jk I q ?_);cases x<;>first
  | (cases rx;rfl)
  | (obtain⟨t,rfl⟩:=rx;rfl)
def isObj:HO->Bool
 | .lst _=>true
 | .ins _ _ _=>true
 | _=>false
theorem nG (b:Expr)(h:op≠.In:=by decide)(h2:op≠.NotIn:=by decide):Wr op b=false:=by
 have e1:(op == CmpOp.In)=false:=by cases op<;>first | rfl | exact Qg rfl h
 have e2:(op == CmpOp.NotIn)=false:=by cases op<;>first | rfl | exact Qg rfl h2
 cases b<;>simp[Wr,e1,e2]
theorem Zv {r:R2}(ho:fZ X (WF op) r)(ha:PE X a ta)(hb:PE X b tb)(hm:Wr op b=false):PE X (.Compare a [op] [b] pos) (xN r ta tb):=by
 intro pins s Y H Q I h;exact wpAny_Compare1 (tZ ha hb I h λv u s2 x y H2 I2 rx ry q=>ho pins s2 Y H2 x y v u Q I2 rx ry q) hm
def Zw (t:TE):TT:=λY H Q=>t Y H λx H'=>∃k,x=.bl k/\Q k H'
theorem Zx {r:R2}(ho:fZ X (WF op) r)(ha:PE X a ta)(hb:PE X b tb)(hm:Wr op b=false):PT X (.Compare a [op] [b] pos) (Zw (xN r ta tb)):=by
 intro pins s Y H Q I h;refine wpAny_isTrue_Compare1 (aQ (ha pins s Y H _ I h) λv s1 ⟨x,H1,I1,r1,q1⟩=>aQ (hb pins s1 Y H1 _ I1 q1) λu s2 ⟨y,H2,I2,r2,q2⟩=>
  aQ (ho pins s2 Y H2 x y v u _ I2 r1 r2 q2) λc s3 ⟨z,H3,I3,r3,k,e,q3⟩=>?_) hm
 subst e;cases r3;exact WZ ⟨H3,I3,q3⟩
def t6 (K:Xa)(x:V)(H:Hp)(k:Bool):Prop:=
 match x with
 | .non=>k=false
 | .bl b=>k=b
 | .int i=>k=(i != 0)
 | .str y=>y.length<=Wf/\k=((y.length:Int) != 0)
 | .rM y=>y.size<=Wf/\k=((y.size:Int) != 0)
 | .ref p=>(∃xs,bI K H p xs/\k = !xs.isEmpty)\/(∃xs,bN K H p xs/\k = !xs.isEmpty)\/∃kvs,H p=some (.dK kvs)/\k = !kvs.isEmpty
 | _=>False
theorem Zy {κ:Type}{kvs:List (κ×V)}{vs:List (κ×Wb)}(r:KV kvs vs):(!vs.isEmpty) = !kvs.isEmpty:=by
 cases r<;>rfl
theorem Jl {xs:List V}{its:Tq}(r:Vals xs its):(!its.toArray.isEmpty) = !xs.isEmpty:=by
 cases r<;>simp
theorem vd:(Wf:Nat)<2 ^ 63:=by rw[Wi];decide
theorem Zz:DN X (λx H Q=>∃k,t6 X.K x H k/\Q k H):=by
 intro pins s Y H x v Q I rx h;obtain⟨k,e,q⟩:=h;have hl:=vd;have hs:Wf=16777216:=Wi;cases x with
 | non=>
  cases rx;have e':k=false:=e;subst e';exact truthy_none ⟨H,I,q⟩
 | bl b=>
  cases rx;have e':k=b:=e;subst e';exact WZ ⟨H,I,q⟩
 | int i=>
  obtain⟨t,rfl⟩:=rx;have e':k=(i != 0):=e;subst e';exact PySem.P.truthy_int ⟨H,I,q⟩
 | str y=>
  obtain⟨t,rfl⟩:=rx;obtain⟨hy,e'⟩:y.length<=Wf/\k=((y.length:Int) != 0):=e;subst e';exact PySem.P.truthy_str (by lia) ⟨H,I.tok _,q⟩
 | rM y=>
  obtain⟨t,rfl⟩:=rx;obtain⟨hy,e'⟩:y.size<=Wf/\k=((y.size:Int) != 0):=e;subst e';exact PySem.W.truthy_bytes (by lia) ⟨H,I.tok _,q⟩
 | ref p=>
  cases rx;have e':(∃xs,bI X.K H p xs/\k = !xs.isEmpty)\/(∃xs,bN X.K H p xs/\k = !xs.isEmpty)\/∃kvs,H p=some (.dK kvs)/\k = !kvs.isEmpty:=e;rcases e' with ⟨xs,hx,e'⟩ | ⟨xs,hx,e'⟩ | ⟨kvs,hx,e'⟩
  .subst e';obtain⟨its,r,pl,hz⟩:=I.list hx;have hlen:=r.length;exact wpAny_truthy_list pl.isList (by simp only[Xo];lia) ⟨H,I.tok _,by rw[Jl r];exact q⟩
  .subst e';obtain⟨its,r,pl,hz⟩:=I.tuple hx;have hlen:=r.length;exact truthy_tuple pl (by simp only[Xo];lia) ⟨H,I.tok _,by rw[Jl r];exact q⟩
  .subst e';obtain⟨hz,hS,vs,r,m⟩:kvs.length<=Wf/\(p == Wz)=false/\∃vs,KV kvs vs/\s.heap.DictOf (gK X.prog X.w) p vs:=I.hok p _ hx;have hlen:kvs.length=vs.length:=Paired.length r;exact wpAny_truthy_dict hS m (by lia) ⟨H,I.tok _,by rw[Zy r];exact q⟩
 | _=>exact(show False from e).elim
theorem ZC (ha:PE X a ta)(he:∀whole,isTrue a X.env whole=(do let v <- whole;standAt a.pos;WN [v] (truthy v))) :
  PT X a (λY H Q=>ta Y H λx H'=>∃k,t6 X.K x H' k/\Q k H'):=by
 intro pins s Y H Q I h;exact isTrue_plain (aQ (ha pins s Y H _ I h) λv s1 ⟨x,H1,I1,r1,q1⟩=>Zz pins s1 Y H1 x v Q I1 r1 q1) (he _)
theorem vals1 {x:V}(r:Vals [x] us):∃u,us=[u]/\RelV x u:=by
 cases r with
 | cons r1 r2=>cases r2;exact⟨_,rfl,r1⟩
theorem vals2 {x:V}(r:Vals [x,y] us):∃u w',us=[u,w']/\RelV x u/\RelV y w':=by
 cases r with
 | cons r1 r2=>
  cases r2 with
  | cons r3 r4=>cases r4;exact⟨_,_,rfl,r1,r3⟩
theorem ZD (hc:X.calm=true):jW X (.builtin "min") (λxs H Q=>∃i j,xs=[.int i,.int j]/\Q (.int (if j<i then j else i)) H):=by
 intro pins s Y H xs us Q I r h;obtain⟨i,j,rfl,q⟩:=h;obtain⟨u,w',rfl,⟨t,rfl⟩,⟨t',rfl⟩⟩:=vals2 r;refine min_two_ints (I.ok.hd hc) λh' tk k=>⟨_,H,I.kept k,?_,q⟩;by_cases hj:j<i
 .rw[Qf hj,Qf hj];exact⟨_,rfl⟩
 .rw[Qe hj,Qe hj];exact⟨_,rfl⟩
def xV (K:Xa)(x:V)(H:Hp)(n:Nat):Prop:=
 match x with
 | .str y=>y.length<=Wf/\n=y.length
 | .rM y=>y.size<=Wf/\n=y.size
 | .ref p=>(∃xs,bI K H p xs/\n=xs.length)\/∃xs,bN K H p xs/\n=xs.length
 | _=>False
theorem ZF:jW X (.builtin "len") (λxs H Q=>∃x n,xs=[x]/\xV X.K x H n/\Q (.int n) H):=by
 intro pins s Y H xs us Q I r h;obtain⟨x,n,rfl,e,q⟩:=h;obtain⟨u,rfl,rx⟩:=vals1 r;have hl:=vd;have hs:Wf=16777216:=Wi;cases x with
 | str y=>
  obtain⟨t,rfl⟩:=rx;obtain⟨hy,e'⟩:y.length<=Wf/\n=y.length:=e;subst e';exact len_str (by lia) ⟨.int _,H,I.tok _,⟨_,rfl⟩,q⟩
 | rM y=>
  obtain⟨t,rfl⟩:=rx;obtain⟨hy,e'⟩:y.size<=Wf/\n=y.size:=e;subst e';exact PySem.W.len_bytes (by lia) ⟨.int _,H,I.tok _,⟨_,rfl⟩,q⟩
 | ref p=>
  cases rx;have e':(∃xs,bI X.K H p xs/\n=xs.length)\/∃xs,bN X.K H p xs/\n=xs.length:=e;rcases e' with ⟨xs,hx,e'⟩ | ⟨xs,hx,e'⟩
  .subst e';obtain⟨its,r',pl,hz⟩:=I.list hx;have hlen:=r'.length;exact Calls.call_len_list pl.isList (by simp only[Xo];lia) ⟨.int xs.length,H,I.tok _,⟨_,by simp only[Xo];rw[hlen]⟩,q⟩
  .subst e';obtain⟨its,r',pl,hz⟩:=I.tuple hx;have hlen:=r'.length;exact len_tuple pl (by simp only[Xo];lia) ⟨.int xs.length,H,I.tok _,⟨_,by simp only[Xo];rw[hlen]⟩,q⟩
 | _=>exact(show False from e).elim
end
structure lF (h:Heap)(x dx C:Addr)(mA:Tj):Prop where
 obj:h.get? x=some (QW C dx)
 ns:h.Ns1 dx mA
 ne:dx≠x
theorem ZG {dx:Addr}{mA:Tj}(n:h.Ns1 dx mA):∃od,h.get? dx=some od/\∀name,PySem.W.lookIn name od=some (mA name):=by
 obtain⟨o,es,ep,ho,hd,hk,_,hm⟩:=n;refine⟨o,ho,λname=>?_⟩;have e:=hm name;unfold nsFind findBy at e;rw[<- Array.find?_toList]at e;unfold PySem.W.lookIn;rw[hd];dsimp only;split
 .rename_i y q
  rw[q]at e;exact congrArg some e
 .rename_i q
  rw[q]at e;have a:es.toList.any (·.refKey)=false:=by
   rw[List.any_eq_false];intro y hy;obtain⟨z,t,hkey⟩:=hk y (Array.mem_toList_iff.mp hy);simp[DictEntry.refKey,hkey]
  have a':¬ es.toList.any (·.refKey)=true:=by rw[a];exact Xu
  rw[Qe a'];exact congrArg some e
theorem lF.look {x dx:Addr}{mA:Tj}(I:lF h x dx C mA):∃od,PySem.W.InstAt h x (QW C dx) C (some od)/\∀name,PySem.W.lookIn name od=some (mA name):=
 let ⟨od,ho,hl⟩:=ZG I.ns
 ⟨od,⟨I.obj,rfl,rfl,ho⟩,hl⟩
section
variable {prog:Wg}{w:Wj}{A:Wl}{E:Ti}{s:Wc}{K:Xa}{x dx C f:Addr}{mA:Tj}{name:Str}{v:Wb}
theorem get_map {expr:Bool}{Q:Ti}(X:K.In s.heap)(I:lF s.heap x dx C mA)(hg:PJ K C name=true)(hh:Oq K C=true)
  (ha:XU K (.ref C) name=some none) (hv:mA name=some v) (hv':PySem.W.handedIn v=true) (h:Q v { s with toks:=s.toks+1 }) :
  We (Wh prog w) A (getAttr (.ref x) name expr) Q E s:=by
 obtain⟨od,Qq12,hl⟩:=I.look;exact PySem.W.get_value X Qq12 (PySem.W.plainGet_of hg).1 (PySem.W.findObj_own hh ha rfl (by rw[hl,hv])) hv' h
theorem ZJ {pl:Sem Bool}{Q:Wb×Tq->Wc->Prop}(X:K.In s.heap)(I:lF s.heap x dx C mA)(hg:PJ K C name=true)
  (hf:XU K (.ref C) name=some (some (.ref f))) (ht:PySem.W.isFn K (.ref f)=true) (hv:mA name=none) (h:Q (.ref f,[.ref x]) s) :
  We (Wh prog w) A (Vb (.ref x) name pl) Q E s:=by
 obtain⟨od,Qq12,hl⟩:=I.look;exact PySem.W.method_fn X Qq12 (PySem.W.plainGet_of hg).1 (PySem.W.plainGet_of hg).2 hf (beq_iff_eq.mp ht) (by show(PySem.W.lookIn name od).map (·.isSome)=some false;rw[hl,hv];rfl) h
theorem ZK {ns:Tn}{Q:Unit->Wc->Prop}(X:K.In s.heap)(I:lF s.heap x dx C mA)
  (hs:XU K (.ref C) "__setattr__" = some (some (.builtin "object.__setattr__"))) (hp:PySem.W.plainOver K C=true) (ht:PySem.W.takerIn K C name=some none) (hh:Oq K C=true)
  (hw:PySem.Within mA ns) (hsz:ns.length<=Wf)
  (h:∀h',lF h' x dx C (λy=>if y=name then some v else mA y)->XV dx s.heap h'->Q () { s with heap:=h',toks:=s.toks+2 }) :
  We (Wh prog w) A (setAttr (.ref x) name v) Q E s:=by
 obtain⟨od,Qq12,hl⟩:=I.look;refine PySem.W.set_plain X Qq12 hs (PySem.W.osa_open (s:={ s with toks:=s.toks+1 }) (r:=none) X Qq12 hp ht λb=>?_);obtain⟨cd,hc,hd'⟩:=PySem.W.any_some hh;have hx:s.heap.get? x=some ⟨.ref C,some dx,.plain,#[]⟩:=I.obj;refine Wa (Wd (Wa (Wa (wpAny_loadPart hx (Wa (PySem.W.Looks.here (s:={ s with toks:=s.toks+1 }) (PySem.W.looks_clsIn X hc) ?_))))));rw[hd'];refine Wd (a:=some dx) (Wa (Wd (Wa ?_)));refine wpAny_nsSet1 (s:={ s with toks:=s.toks+1 }) I.ns λh' hn2 hs2=>?_;obtain⟨oD,esD,epD,hoD,hdD,hcD⟩:=hn2.count (PySem.Within.cons name v hw);refine Wa (wpAny_lookBehind hoD (by rw[hdD];exact pastItsLine_dict (XC hcD (by rw[Xy];lia))) ?_);exact Wd (h _ ⟨(hs2.2 _ (QD I.ne)).trans I.obj,hn2,I.ne⟩ hs2)
theorem ZL {R:Result->Wc->Prop}{vs:Tq}{kw:List (Str×Wb)}(X:K.In s.heap)(hm:PySem.W.makesIn K C=true)
  (hi:XU K (.ref C) "__init__" = some (some (.ref f))) (hf:PySem.W.typeIn K (.ref f)=some (.type "function"))
  (h:W4 (Wh prog w) (A.under (.builtin "type.__call__" ⟨.ref C::vs,kw⟩)) (.call (.ref f) ⟨.ref (s.heap.objs.size+1)::vs,kw⟩) (PySem.W.InitBack (s.heap.objs.size+1) R)
   {s with heap:=(s.heap.push YK).push (QW C s.heap.objs.size) }) :
  W4 (Wh prog w) A (.call (.ref C) ⟨vs,kw⟩) R s:=by
 obtain⟨hh,g,d,t,os⟩:=s;exact PySem.W.make_core (PySem.W.makes_of X hm) (PySem.W.looks_findIn X hi) (λself=>PySem.W.bind_fn X self hf) (.inl rfl) h
end
def dB (f:Str)(v:V):List (Str×V)->List (Str×V)
 | []=>[(f,v)]
 | (g,x)::r=>if g=f then(g,v)::r else(g,x)::dB f v r
theorem Jm (f g:Str)(v:V):∀fs:List (Str×V),(dB f v fs).lookup g=if g=f then some v else fs.lookup g
 | []=>by
  show List.lookup g [(f,v)]=_;by_cases h:g=f
  .have hb:(g == f)=true:=beq_iff_eq.mpr h;simp only[List.lookup,hb,Qf h]
  .have hb:(g == f)=false:=beq_eq_false_iff_ne.mpr h;simp only[List.lookup,hb,Qe h]
 | (k,x)::r=>by
  have ih:=Jm f g v r;rw[show dB f v ((k,x)::r)=(if k=f then(k,v)::r else(k,x)::dB f v r) from rfl]
  by_cases hk:k=f
  .rw[Qf hk];by_cases h:g=k
   .have hb:(g == k)=true:=beq_iff_eq.mpr h;simp only[List.lookup,hb,Qf (h.trans hk)]
   .have hb:(g == k)=false:=beq_eq_false_iff_ne.mpr h;simp only[List.lookup,hb,Qe (λe:g=f=>h (e.trans hk.symm))]
  .rw[Qe hk];by_cases h:g=k
   .have hb:(g == k)=true:=beq_iff_eq.mpr h;simp only[List.lookup,hb,Qe (λe:g=f=>hk (h.symm.trans e))]
   .have hb:(g == k)=false:=beq_eq_false_iff_ne.mpr h;simp only[List.lookup,hb];exact ih
theorem DP (f:Str)(v:V):∀fs:List (Str×V),f∈(dB f v fs).map (·.1)/\∀g,g∈fs.map (·.1)->g∈(dB f v fs).map (·.1)
 | []=>⟨by simp[dB],λg h=>by simp at h⟩
 | (k,x)::r=>by
  obtain⟨i1,i2⟩:=DP f v r;rw[show dB f v ((k,x)::r)=(if k=f then(k,v)::r else(k,x)::dB f v r) from rfl]
  by_cases hk:k=f
  .rw[Qf hk];subst hk;exact⟨by simp,λg h=>by simpa using h⟩
  .rw[Qe hk];refine⟨?_,λg h=>?_⟩
   .rw[Xq];exact Xf _ i1
   .rw[Xq]at h ⊢;rcases Xn.mp h with e | e
    .exact Xn.mpr (.inl e)
    .exact Xf _ (i2 g e)
theorem Jo (f:Str)(v:V):∀fs:List (Str×V),(dB f v fs).length<=fs.length+1
 | []=>by simp[dB]
 | (k,x)::r=>by
  have ih:=Jo f v r;rw[show dB f v ((k,x)::r)=(if k=f then(k,v)::r else(k,x)::dB f v r) from rfl]
  by_cases hk:k=f
  .rw[Qf hk,Xy,Xy];lia
  .rw[Qe hk,Xy,Xy];lia
theorem dj.some_of {v:V}{o:Tv}(r:dj (some v) o):∃u,o=some u/\RelV v u:=by
 cases o with
 | none=>exact(show False from r).elim
 | some u=>exact⟨u,rfl,r⟩
theorem dj.none_of {o:Tv}(r:dj none o):o=none:=by
 cases o with
 | none=>rfl
 | some u=>exact(show False from r).elim
theorem ZM {v:V}(r:RelV v u):PySem.W.handedIn u=true:=by
 cases v with
 | non=>cases (show u=Value.none from r);rfl
 | bl b=>cases (show u=Value.bool b from r);rfl
 | int i=>obtain⟨t,e⟩:=(show ∃t,u=Ov i t from r);cases e;rfl
 | str x=>obtain⟨t,e⟩:=(show ∃t,u=Value.str x t from r);cases e;rfl
 | rM b=>obtain⟨t,e⟩:=(show ∃t,u=Value.bytes b t from r);cases e;rfl
 | flt b=>obtain⟨t,e⟩:=(show ∃t,u=Value.float b t from r);cases e;rfl
 | ref a=>cases (show u=Qm a from r);rfl
 | ty n=>cases (show u=Qw n from r);rfl
section
variable {P:Wg}{w:Wj}{H H':Hp}{h h':Heap}{a C dx:Addr}{fs fs':List (Str×V)}
theorem DQ (hok:cY P w H h)(e:H a=some (.ins C dx fs)):∃mA,lF h a dx C mA/\(∀f,dj (fs.lookup f) (mA f))/\PySem.Within mA (fs.map (·.1))/\fs.length<=1000/\H dx=some (.own a):=by
 obtain⟨d,z,ne,ob,mA,n,r,q⟩:=(show eE P w H h a (.ins C dx fs) from hok a _ e);exact⟨mA,⟨ob,n,ne⟩,r,q,z,d⟩
end
structure kZ (K:Xa)(C:Addr):Prop where
 pg:PJ K C Str.empty=true
 hd:Oq K C=true
 po:PySem.W.plainOver K C=true
 sa:XU K (.ref C) "__setattr__" = some (some (.builtin "object.__setattr__"))
theorem kZ.get (c:kZ K C)(f:Str):PJ K C f=true:=c.pg
def lZ (K:Xa)(C:Addr)(f:Str):Prop:=XU K (.ref C) f=some none
theorem lZ.taker {f:Str}(n:lZ K C f):PySem.W.takerIn K C f=some none:=by
 unfold PySem.W.takerIn;rw[show XU K (.ref C) f=some none from n];rfl
structure Meth (K:Xa)(C:Addr)(m:Str)(f:Addr):Prop where
 at_:XU K (.ref C) m=some (some (.ref f))
 fn:PySem.W.isFn K (.ref f)=true
 kp:YM K (.ref f)=true
section
variable {X:Cx}{pins:Tg}{Y:St}{H:Hp}{s:Wc}{a C dx:Addr}{fs:List (Str×V)}{f:Str}{v:V}{A:Wl}{E:Ti}
theorem ZP {b:Bool}{Q:Ti}(I:Inv X pins Y H s)(e:H a=some (.ins C dx fs))(c:kZ X.K C)(n:lZ X.K C f)(l:fs.lookup f=some v)
  (h:∀u s',Inv X pins Y H s'->RelV v u->Q u s'):We (Wh X.prog X.w) A (getAttr (.ref a) f b) Q E s:=by
 obtain⟨mA,O,r,_,_,_⟩:=DQ I.hok e;obtain⟨u,hu,ru⟩:=dj.some_of (v:=v) (o:=mA f) (by rw[<- l];exact r f);exact get_map I.jh O (c.get f) c.hd n hu (ZM ru) (h u _ (I.tok _) ru)
theorem ZQ {m:Str}{g:Addr}{pl:Sem Bool}{Q:Wb×Tq->Wc->Prop}(I:Inv X pins Y H s)(e:H a=some (.ins C dx fs))(c:kZ X.K C)(k:Meth X.K C m g)(l:fs.lookup m=none)
  (h:Q (.ref g,[.ref a]) s):We (Wh X.prog X.w) A (Vb (.ref a) m pl) Q E s:=by
 obtain⟨mA,O,r,_,_,_⟩:=DQ I.hok e;have hn:mA m=none:=dj.none_of (by rw[<- l];exact r m);exact ZJ I.jh O (c.get m) k.at_ k.fn hn h
theorem ZR {y:V}{u:Wb}{Q:Unit->Wc->Prop}(I:Inv X pins Y H s)(e:H a=some (.ins C dx fs))(c:kZ X.K C)(n:lZ X.K C f)(hl:fs.length<1000)(ry:RelV y u)
  (h:∀s',Inv X pins Y (upd H a (.ins C dx (dB f y fs))) s'->Q () s'):We (Wh X.prog X.w) A (setAttr (.ref a) f u) Q E s:=by
 obtain⟨mA,O,r,wi,_,ho⟩:=DQ I.hok e;have hz:(fs.map (·.1)).length<=Wf:=by rw[Xb,Wi];lia
 refine ZK I.jh O c.sa c.po n.taker c.hd wi hz λh' O' sb=>h _ ?_;have hd:∃o,h'.get? dx=some o:=let ⟨o,_,_,e',_⟩:=O'.ns;⟨o,e'⟩;refine I.write (x:=a) (e:=dx) (by rw[e];exact QX) (.inr ho) (λb q hb z=>(sb.2 b hb).trans z) hd ?_;refine⟨by rw[aY O.ne];exact ho,?_,O.ne,O'.obj,_,O'.ns,λg=>?_,λg hg=>?_⟩
 .have:=Jo f y fs;lia
 .show dj ((dB f y fs).lookup g) (if g=f then some u else mA g)
  rw[Jm];by_cases q:g=f
  .rw[Qf q,Qf q];exact ry
  .rw[Qe q,Qe q];exact r g
 .by_cases q:g=f
  .rw[q];exact(DP f y fs).1
  .refine(DP f y fs).2 g (wi g λz=>hg ?_);show(if g=f then some u else mA g)=none
   rw[Qe q];exact z
theorem Inv.made (I:Inv X pins Y H s):Inv X pins Y (upd (upd H s.heap.objs.size (.own (s.heap.objs.size+1))) (s.heap.objs.size+1) (.ins C s.heap.objs.size []))
  {s with heap:=(s.heap.push YK).push (QW C s.heap.objs.size) }:=by
 have e1:(s.heap.push YK).get? s.heap.objs.size=some YK:=Xx s.heap rfl;have e2:((s.heap.push YK).push (QW C s.heap.objs.size)).get? (s.heap.objs.size+1)=some (QW C s.heap.objs.size):=by
  have:=Xx (s.heap.push YK) (o:=QW C s.heap.objs.size) rfl
  rwa [Ym]at this
 have e3:(s.heap.push YK).Ns s.heap.objs.size (λ_=>none):=⟨YK,#[],_,e1,rfl,(λe he=>Qg he (by simp)),λ_=>rfl⟩;have I1:=I.laid (a:=s.heap.objs.size) (o:=.own (s.heap.objs.size+1)) (h':=s.heap.push YK) (t':=s.toks) (λb u q=>Xe _ q) (Xj _) ⟨_,e1⟩;refine I1.laid (a:=s.heap.objs.size+1) (o:=.ins C s.heap.objs.size []) (t':=s.toks) (λb u q=>Xe _ q) (Nat.le_of_eq (Ym _ _)) ?_;have ne:s.heap.objs.size≠s.heap.objs.size+1:=XB (YJ _);refine⟨by rw[aY ne,cg],XM _,ne,e2,λ_=>none,(Heap.Ns1.of_empty e3).at λo q=>Xe _ q,λ_=>QX,λy hy=>Qg rfl hy⟩
theorem ZS {prog:Wg}{w:Wj}{env:Env}{e:Expr}{f:Str}{pos:Pos}{s:Wc}{Q:Ti}(hb:Wu e f env (Ww e env)=Ww e env)
  (h:We (Wh prog w) A (Ww e env) (λo s₁=>We (Wh prog w) A (getAttr o f true) Q E s₁) E s):We (Wh prog w) A (Ww (.Attribute e f pos) env) Q E s:=
 Attribute_any_ h (by rw[arm_eval_Attribute,hb])
end
def DR (K:Xa)(ta:TE)(f:Str):TE:=λY H Q=>ta Y H λx H1=>∃a C dx fs v,x=.ref a/\H1 a=some (.ins C dx fs)/\kZ K C/\lZ K C f/\fs.lookup f=some v/\Q v H1
def DW (K:Xa)(ta tv:TE)(f:Str):TS:=λD Y H=>tv Y H λy H1=>ta Y H1 λx H2=>∃a C dx fs,x=.ref a/\H2 a=some (.ins C dx fs)/\kZ K C/\lZ K C f/\fs.length<1000/\
 D.nx Y (upd H2 a (.ins C dx (dB f y fs)))
section
variable {X:Cx}{o e value:Expr}{f:Str}{pos pos' tpos:Pos}{ta tv:TE}
theorem Jp (he:PE X e ta)(hb:Wu e f X.env (Ww e X.env)=Ww e X.env):PE X (.Attribute e f pos) (DR X.K ta f):=by
 intro pins s Y H Q I h;refine ZS hb (aQ (he pins s Y H _ I h) λu s1 ⟨x,H1,I1,rx,a,C,dx,fs,v,ex,ea,c,n,l,q⟩=>?_);subst ex;obtain rfl:u=Qm a:=rx;exact ZP I1 ea c n l λu' s2 I2 ru=>⟨v,H1,I2,ru,q⟩
theorem Jq (ha:PE X o ta)(hv:PE X value tv)(hs:Wx value (some (.Attribute o f pos')) pos.line X.env=pure false):PS X (.Assign [.Attribute o f pos'] value pos) (DW X.K ta tv f):=by
 intro pins s Y H D I h;refine plainObj_wpAny_Assign_Attribute (aQ (hv pins s Y H _ I h) λu s1 ⟨y,H1,I1,ry,q⟩=>aQ (ha pins s1 Y H1 _ I1 q) λov s2 ⟨x,H2,I2,rx,a,C,dx,fs,ex,ea,c,n,l,q2⟩=>?_) hs;subst ex;obtain rfl:ov=Qm a:=rx;exact ZR I2 ea c n l ry λs3 I3=>⟨Y,_,I3,q2⟩
end
structure bx (k:Nat)(A:Wl):Prop where
 hd:A.handled=none
 dp:A.depth+3*k+5<recursionLimit
 un:A.units+16*k+200<WG
theorem bx.mono (r:bx k A)(h:j<=k):bx j A:=⟨r.hd,by have:=r.dp;lia,by have:=r.un;lia⟩
theorem bx.deeper (r:bx (k+1) A)(env:Env):bx k (A.deeper env):=
 ⟨r.hd,by have:=r.dp;show A.depth+1+3*k+5<_;lia,by have:=r.un;show A.units+3+16*k+200<_;lia⟩
theorem ZV:(A.under (.builtin "type.__call__" ⟨.ref C::us,kw⟩)).depth=A.depth+1:=by
 first | rfl | simp[Around.under,Code.weight,Code.isCreation,Code.isGuard,Code.isCaller,Code.frames,Code.isFrame,guardIds]
theorem ZW:(A.under (.builtin "type.__call__" ⟨.ref C::us,kw⟩)).units=A.units+1:=by
 first | rfl | simp[Around.under,Code.cUnits,Code.frames,Code.isFrame]
theorem bx.make (r:bx (k+1) A)(C:Addr)(us:Tq)(kw:List (Str×Wb)):bx k (A.under (.builtin "type.__call__" ⟨.ref C::us,kw⟩)):=
 ⟨r.hd,by have:=r.dp;rw[ZV];lia,by have:=r.un;rw[ZW];lia⟩
theorem bx.depth (r:bx k A):A.depth<recursionLimit:=by have:=r.dp;lia
theorem bx.units (r:bx k A):A.units+64<WG:=by have:=r.un;lia
def xW:TA:=λ_ H Q=>Q [] H
def Jr (ta:TE)(tr:TA):TA:=λY H Q=>ta Y H λx H1=>tr Y H1 λxs H2=>Q (x::xs) H2
section
variable {X:Cx}{e:Expr}{es:List Expr}{te:TE}{t:TA}{pos:Pos}
theorem rZ:PA X [] xW:=λ_ _ _ _ H Q I h=>QC ⟨[],H,I,.nil,h⟩
theorem t7 (ha:PE X e te)(hr:PA X es t)(hs:cQ X e es:=by rfl):PA X (e::es) (Jr te t):=by
 intro pos pins s Y H Q I h;rw[hs];show We _ _ (spliced ((false,Ww e X.env)::WK pos (Wo es X.env))) _ _ s;refine Qu (aQ (ha pins s Y H _ I h) λu s1 ⟨x,H1,I1,r1,q1⟩=>?_);exact aQ (hr pos pins s1 Y H1 _ I1 q1) λus s2 ⟨xs,H2,I2,r2,q2⟩=>⟨x::xs,H2,I2,.cons r1 r2,q2⟩
def DX (t:TA):TE:=λY H Q=>t Y H λxs H1=>xs.length<=Wf/\∀p,H1 p=none->Q (.ref p) (upd H1 p (.tup xs))
def DY (t:TA):TE:=λY H Q=>t Y H λxs H1=>xs.length<=Wf/\∀p,H1 p=none->Q (.ref p) (upd H1 p (.lst xs))
theorem ZX {x1}(h:PA X es t):PE X (.Tuple es x1 pos) (DX t):=by
 intro pins s Y H Q I hq;refine wpAny_Tuple_spliced (aQ (h pos pins s Y H _ I hq) λus s1 ⟨xs,H1,I1,r,z,q⟩=>⟨by rw[<- r.length];exact z,?_⟩);have hf:H1 s1.heap.objs.size=none:=I1.hok.fresh (Xj _);refine⟨.ref s1.heap.objs.size,upd H1 s1.heap.objs.size (.tup xs),I1.laid (t':=s1.toks) (λb u e=>Xe _ e) (Xj _) ?_,rfl,q _ hf⟩;exact⟨z,us,r,mL.new _ _⟩
theorem Js (h:PA X es t):PE X (.List es pos) (DY t):=by
 intro pins s Y H Q I hq;refine wpAny_List_spliced (aQ (h pos pins s Y H _ I hq) λus s1 ⟨xs,H1,I1,r,z,q⟩=>⟨by rw[<- r.length];exact z,?_⟩);have hf:H1 s1.heap.objs.size=none:=I1.hok.fresh (Xj _);refine⟨.ref s1.heap.objs.size,upd H1 s1.heap.objs.size (.lst xs),I1.laid (t':=s1.toks) (λb u e=>Xe _ e) (Xj _) ?_,rfl,q _ hf⟩;exact⟨z,us,0,r,Xx _ rfl⟩
end
abbrev Sp:=List V->Hp->VK->XK->Prop
abbrev n8:=List Env->Hp->Wc->XK->Ti
structure lG (P:Wg)(w:Wj)(K:Xa)(mg:Tj)(base:Heap)(A:Wl)(outer:List Env)(s:Wc)(H:Hp):Prop where
 frames:A.frames=some outer
 mod:Mod K mg base
 bs:∀b o,base.get? b=some o->s.heap.get? b=some o/\H b=none
 pZ:base.objs.size<=s.heap.objs.size
 eG:s.heap.FunFrames base outer
 rP:∀b∈frs outer,H b=none
 hok:cY P w H s.heap
 bare:AllBare s.gens
def CE (outer:List Env)(P:Wg)(w:Wj)(H:Hp)(s:Wc)(Q:VK)(u:Wb)(s':Wc):Prop:=
 ∃v H',s'.os=s.os/\AllBare s'.gens/\Un (frs outer) [] H H' s.heap s'.heap/\cY P w H' s'.heap/\RelV v u/\Q v H'
def CR (CX:n8)(outer:List Env)(P:Wg)(w:Wj)(H:Hp)(s:Wc)(Q:VK)(E:XK)(r:Result)(s':Wc):Prop:=
 match r with
 | .ok (.ret u)=>CE outer P w H s Q u s'
 | .ok _=>False
 | .error e=>CX outer H s E e s'
structure aA (P:Wg)(w:Wj)(K:Xa)(mg:Tj)(base:Heap)(CX:n8)(k:Nat)(f:Addr)(fd:Wk)(ps:Tn)(sp:Sp):Prop where
 len:∀vs H Q E,sp vs H Q E->vs.length=ps.length
 run:∀(A:Wl) (outer:List Env) (s:Wc) (H:Hp) (args:Args) (us:Tq) (vs:List V) (Q:VK) (E:XK),bx k A->lG P w K mg base A outer s H->BindsTo s fd args (ps.zip us)->Vals vs us->sp vs H Q E->
  W4 (Wh P w) A (.call (.ref f) args) (CR CX outer P w H s Q E) s
theorem aA.mono {f:Addr}{fd:Wk}{sp:Sp}(F:aA P w K mg base CX j f fd ps sp)(h:j<=k) :
  aA P w K mg base CX k f fd ps sp:=⟨F.len,λA outer s H args us vs Q E hr=>F.run A outer s H args us vs Q E (hr.mono h)⟩
theorem lG.make {outer:List Env}(e:lG P w K mg base A outer s H)(C:Addr)(us:Tq)(kw:List (Str×Wb)) :
  lG P w K mg base (A.under (.builtin "type.__call__" ⟨.ref C::us,kw⟩)) outer s H:=⟨by first | exact e.frames | (simpa[Around.under,Code.envs,Code.isFrame,pushEnvs]using e.frames),e.mod,e.bs,e.pZ,e.eG,e.rP,e.hok,e.bare⟩
section
variable {X:Cx}{pins:Tg}{Y:St}{H:Hp}{s s':Wc}
theorem Inv.env0 (I:Inv X pins Y H s):lG X.prog X.w X.K X.mg X.base X.A X.stack s H:=
 ⟨I.ok.frames,I.ok.mod,I.bs,XC I.ok.pZ I.sz,I.stack,I.Dp,I.hok,I.bare⟩
theorem Inv.after {Q:VK}(I:Inv X pins Y H s)(h:CE X.stack X.prog X.w H s Q u s'):EP X pins Y Q u s':=by
 obtain⟨v,H',os,bare,un,hok,r,q⟩:=h;obtain⟨hh,g,d,t,os'⟩:=s';obtain rfl:os'=s.os:=os;exact⟨v,H',I.call (h':=hh) (g':=g) (d':=d) (t':=t) (ch:=[]) un hok bare (λb z=>Qg z (by simp)),r,q⟩
end
def Jt (sp:Sp)(jr:List V)(E:XK)(t:TA):TE:=λY H Q=>t Y H λvs H1=>sp (vs++jr) H1 Q E
def Z0 (C:Addr)(m:Str)(sp:Sp)(jr:List V)(E:XK)(ta:TE)(t:TA):TE:=λY H Q=>ta Y H λx H1=>∃a dx fs,x=.ref a/\H1 a=some (.ins C dx fs)/\fs.lookup m=none/\
 t Y H1 λvs H2=>sp (x::(vs++jr)) H2 Q E
def Z2 (C:Addr)(sp:Sp)(jr:List V)(E:XK)(t:TA):TE:=λY H Q=>t Y H λvs H1=>∀x dx,H1 x=none->H1 dx=none->dx≠x->
 sp (.ref x::(vs++jr)) (upd (upd H1 dx (.own x)) x (.ins C dx [])) (λv H2=>v=.non/\Q (.ref x) H2) E
def Binds (K:Xa)(fd:Wk)(ps:Tn)(ds:Tq):Prop:=
 ∀(s:Wc) (us:Tq),K.In s.heap->(us++ds).length=ps.length->BindsTo s fd ⟨us,[]⟩ (ps.zip (us++ds))
theorem Binds.all {fd:Wk}(h:∀us:Tq,us.length=ps.length->bindArgs fd ⟨us,[]⟩=pure (ps.zip us)):Binds K fd ps []:=λs us _ hl=>by
 rw[XG]at hl ⊢;exact .of_eq (h us hl)
def qp (CX:n8)(X:Cx)(E:XK):Prop:=∀(pins:Tg)(Y:St)(H:Hp)(s:Wc)(e:Wb)(s':Wc),Inv X pins Y H s->CX X.stack H s E e s'->X.xe e s'
section
variable {X:Cx}{CX:n8}{k:Nat}{f C:Addr}{fd:Wk}{ps:Tn}{sp:Sp}{jr:List V}{ds:Tq}{E:XK}{x m:Str}{p pos apos:Pos}{e o:Expr}{es:List Expr}{ta:TE}{t:TA}
theorem Ju {pins:Tg}{Y:St}{H:Hp}{s:Wc}{Q:VK}{us:Tq}{vs:List V}(F:aA X.prog X.w X.K X.mg X.base CX k f fd ps sp)(hr:bx k X.A)(hb:Binds X.K fd ps ds)(hd:Vals jr ds)(hx:qp CX X E)
  (I:Inv X pins Y H s) (r:Vals vs us) (h:sp (vs++jr) H Q E):We (Wh X.prog X.w) X.A (call (.ref f) us) (EP X pins Y Q) X.xe s:=by
 have r2:Vals (vs++jr) (us++ds):=r.append hd;have hl:(us++ds).length=ps.length:=by rw[<- r2.length];exact F.len _ _ _ _ h
 refine wpAny_call (WO (F.run X.A X.stack s H ⟨us,[]⟩ (us++ds) (vs++jr) Q E hr I.env0 (hb s us I.jh hl) r2 h) λr s' hq=>?_);cases r with
 | error e=>exact hx pins Y H s e s' I hq
 | ok fl=>
  cases fl with
  | ret u=>exact I.after hq
  | next=>exact Qz hq
  | brk=>exact Qz hq
  | cont=>exact Qz hq
theorem Jw (F:aA X.prog X.w X.K X.mg X.base CX k f fd ps sp)(hr:bx k X.A)(hg:Gl X x)(hm:X.mg x=some (.ref f))(hk:YM X.K (.ref f)=true)(hb:Binds X.K fd ps ds)(hd:Vals jr ds)(hx:qp CX X E)
  (ha:PA X (e::es) t) (hdb:fD x:=by decide) (he:cQ X e es:=by rfl) (hpl:cO X pos es:=by rfl) :
  PE X (.Call (.Name x p) (e::es) [] pos) (Jt sp jr E t):=by
 intro pins s Y H Q I h;refine Wv (xr I hg hm ?_ hdb);refine PySem.W.callWith_K (h₀:=X.base) I.ok.mod.tW hk (aQ (ha pos pins s Y H _ I h) λus s1 ⟨vs,H1,I1,r,q⟩=>⟨I1.jh,?_⟩) he hpl;exact Ju F hr hb hd hx I1 r q
theorem xX {pl:Sem Bool}(he:PE X o ta)(c:kZ X.K C)(hm:Meth X.K C m f)(F:aA X.prog X.w X.K X.mg X.base CX k f fd ps sp)(hr:bx k X.A)(hb:Binds X.K fd ps ds)(hd:Vals jr ds)(hx:qp CX X E)(ha:PA X (e::es) t)
  (hst:cQ X e es:=by rfl) (hpl:cO X pos es:=by rfl)
  (ht:Ww (.Call (.Attribute o m apos) (e::es) [] pos) X.env=(do
   let ov <- Ww o X.env
   standAt apos.atName
   let (f,first) <- WN [ov] (Vb ov m pl)
   callWith pos f first (WK pos (Wo (e::es) X.env)) (WT pos (WE [] X.env))):=by rfl) :
  PE X (.Call (.Attribute o m apos) (e::es) [] pos) (Z0 C m sp jr E ta t):=by
 intro pins s Y H Q I h;refine PySem.W.methodCall_KW (pl:=pl) (aQ (he pins s Y H _ I h) λu s1 ⟨x,H1,I1,rx,a,dx,fs,ex,ea,l,q⟩=>?_) ht;subst ex;obtain rfl:u=Qm a:=rx;refine ZQ I1 ea c hm l ?_;refine PySem.W.callWith_K (first:=[.ref a]) (h₀:=X.base) I.ok.mod.tW hm.kp (aQ (ha pos pins s1 Y H1 _ I1 q) λus s2 ⟨vs,H2,I2,r,q2⟩=>⟨I2.jh,?_⟩) hst hpl
 exact Ju (us:=.ref a::us) (vs:=.ref a::vs) F hr hb hd hx I2 (.cons rfl r) q2
structure Mk (K:Xa)(C f:Addr):Prop where
 makes:PySem.W.makesIn K C=true
 init:XU K (.ref C) "__init__" = some (some (.ref f))
 fn:PySem.W.isFn K (.ref f)=true
 kp:YM K (.ref C)=true
theorem Z3 {pins:Tg}{Y:St}{H:Hp}{s:Wc}{Q:VK}{us:Tq}{vs:List V}(Qq11:Mk X.K C f)(F:aA X.prog X.w X.K X.mg X.base CX k f fd ps sp)(hr:bx (k+1) X.A)(hb:Binds X.K fd ps ds)(hd:Vals jr ds)
  (hx:qp CX X E) (I:Inv X pins Y H s) (r:Vals vs us)
  (h:∀x dx,H x=none->H dx=none->dx≠x->sp (.ref x::(vs++jr)) (upd (upd H dx (.own x)) x (.ins C dx [])) (λv H2=>v=.non/\Q (.ref x) H2) E) :
  We (Wh X.prog X.w) X.A (call (.ref C) us) (EP X pins Y Q) X.xe s:=by
 have hq:=h (s.heap.objs.size+1) s.heap.objs.size (I.hok.fresh (Ph _)) (I.hok.fresh (Xj _)) (XB (YJ _));have I2:=Inv.made (C:=C) I;have r2:Vals (V.ref (s.heap.objs.size+1)::(vs++jr)) (Qm (s.heap.objs.size+1)::(us++ds)):=.cons rfl (r.append hd);have hl:(Qm (s.heap.objs.size+1)::us++ds).length=ps.length:=by
  have e:=r2.length;rw[F.len _ _ _ _ hq]at e;exact e.symm
 refine wpAny_call (ZL (f:=f) I.jh Qq11.makes Qq11.init (beq_iff_eq.mp Qq11.fn) (WO (F.run _ X.stack _ _ ⟨Qm (s.heap.objs.size+1)::us,[]⟩ (Qm (s.heap.objs.size+1)::(us++ds)) _ _ E (hr.make C us [])
  (I2.env0.make C us []) (hb _ (Qm (s.heap.objs.size+1)::us) I2.jh hl) r2 hq) λr s' hq'=>?_))
 cases r with
 | error e=>exact hx pins Y _ _ e s' I2 hq'
 | ok fl=>
  cases fl with
  | ret u=>
   obtain⟨v,H',I3,rv,ev,q3⟩:=I2.after hq';subst ev;exact⟨rv,⟨V.ref (s.heap.objs.size+1),H',I3,rfl,q3⟩⟩
  | next=>exact Qz hq'
  | brk=>exact Qz hq'
  | cont=>exact Qz hq'
theorem Z4 (Qq11:Mk X.K C f)(F:aA X.prog X.w X.K X.mg X.base CX k f fd ps sp)(hr:bx (k+1) X.A)(hg:Gl X x)(hm:X.mg x=some (.ref C))(hb:Binds X.K fd ps ds)(hd:Vals jr ds)(hx:qp CX X E)
  (ha:PA X (e::es) t) (hdb:fD x:=by decide) (he:cQ X e es:=by rfl) (hpl:cO X pos es:=by rfl) :
  PE X (.Call (.Name x p) (e::es) [] pos) (Z2 C sp jr E t):=by
 intro pins s Y H Q I h;refine Wv (xr I hg hm ?_ hdb);refine PySem.W.callWith_K (h₀:=X.base) I.ok.mod.tW Qq11.kp (aQ (ha pos pins s Y H _ I h) λus s1 ⟨vs,H1,I1,r,q⟩=>⟨I1.jh,?_⟩) he hpl;exact Z3 Qq11 F hr hb hd hx I1 r q
end
def PK (X:Cx)(kws:List W0)(t:TA):Prop:=
 ∀(pos:Pos) (pins:Tg) (s:Wc) (Y:St) (H:Hp) (Q:List V->Hp->Prop),Inv X pins Y H s->t Y H Q->We (Wh X.prog X.w) X.A (evalAll ((WT pos (WE kws X.env)).map (·.2))) (AP X pins Y Q) X.xe s
structure cL (N P:Tn)(sc:WR):Prop where
 kind:sc.kind=.function
 co:sc.isCoroutine=false
 gen:sc.isGenerator=false
 nd:N.Nodup
 pre:N.take P.length=P
 bO:∀x∈P,sc.names.lookup x=some .local\/sc.names.lookup x=some .cell
 nofree:∀y∈sc.names,y.2≠.free
theorem Jx:∀ {binds:List (Str×Wb)}{m:Tj},(∀v,(x,v)∉binds)->bindL kindOf binds m x=m x
 | [],_,_=>rfl
 | (n,v)::r,m,h=>by
  unfold bindL;rw[Jx λw hw=>h w (Xf _ hw)];split
  .have:x≠n:=by rintro rfl;exact h v Xh
   simp[this]
  .rfl
theorem Jy:∀ {binds:List (Str×Wb)}{m:Tj},(∀v,(x,v)∉binds)->bindC kindOf binds m x=m x
 | [],_,_=>rfl
 | (n,v)::r,m,h=>by
  unfold bindC;rw[Jy λw hw=>h w (Xf _ hw)];split
  .rfl
  .have:x≠n:=by rintro rfl;exact h v Xh
   simp[this]
theorem Jz {v:Wb}:∀ {P:Tn}{vs:Tq}{i:Nat}{m:Tj},P.Nodup->P[i]? = some x->vs[i]? = some v->kindOf x=some .local->
  bindL kindOf (P.zip vs) m x=some v
 | [],_,_,_,_,h,_,_=>by simp at h
 | _::_,[],_,_,_,_,h,_=>by simp at h
 | p::P,w::vs,0,m,nd,h1,h2,hk=>by
  simp at h1 h2;subst h1;subst h2;show bindL kindOf ((p,w)::P.zip vs) m p=_;unfold bindL;rw[Jx λv hv=>(XO.mp nd).1 (Oe hv).1,Qf hk];simp
 | p::P,w::vs,i+1,m,nd,h1,h2,hk=>by
  show bindL kindOf ((p,w)::P.zip vs) m x=_;unfold bindL;exact Jz (i:=i) (XO.mp nd).2 (by simpa using h1) (by simpa using h2) hk
theorem JB {v:Wb}:∀ {P:Tn}{vs:Tq}{i:Nat}{m:Tj},P.Nodup->P[i]? = some x->vs[i]? = some v->kindOf x≠some .local->
  bindC kindOf (P.zip vs) m x=some v
 | [],_,_,_,_,h,_,_=>by simp at h
 | _::_,[],_,_,_,_,h,_=>by simp at h
 | p::P,w::vs,0,m,nd,h1,h2,hk=>by
  simp at h1 h2;subst h1;subst h2;show bindC kindOf ((p,w)::P.zip vs) m p=_;unfold bindC;rw[Jy λv hv=>(XO.mp nd).1 (Oe hv).1,Qe hk];simp
 | p::P,w::vs,i+1,m,nd,h1,h2,hk=>by
  show bindC kindOf ((p,w)::P.zip vs) m x=_;unfold bindC;exact JB (i:=i) (XO.mp nd).2 (by simpa using h1) (by simpa using h2) hk
def start (N:Tn)(vs:List V):St:=vs.map some++YN (N.length-vs.length) none
def fK (CX:n8)(P:Wg)(w:Wj)(K:Xa)(mg:Tj)(base:Heap)(N:Tn)(qual:Str)(scope:WR)(f:Addr)(cd:Wb)(A:Wl)(outer:List Env)(s:Wc)(H:Hp)(E:XK):Cx where
 prog:=P
 w:=w
 K:=K
 mg:=mg
 base:=base
 A:=A.deeper (Vc qual scope s.heap.objs.size f cd)
 N:=N
 s₀:=s
 H₀:=H
 env:=Vc qual scope s.heap.objs.size f cd
 outer:=outer
 stack:=Vc qual scope s.heap.objs.size f cd::outer
 ex:=[]
 calm:=true
 fn:=λ_=>true
 pn:=[]
 xe:=λe s'=>We (Wh P w) (A.deeper (Vc qual scope s.heap.objs.size f cd)) (leaving (Vc qual scope s.heap.objs.size f cd) e) (λ_ s''=>CX outer H s E e s'') (λe' s''=>CX outer H s E e' s'') s'
theorem JC {sc:WR}{n:Nat}(h:sc.names.lookup x=some .cell):∃c,(Ws n sc.names []).lookup x=some c:=by
 have q:=Om sc.names n [] (.inl h);exact Option.isSome_iff_exists.mp q
theorem Z5 {CX:n8}{P:Wg}{w:Wj}{K:Xa}{mg:Tj}{base:Heap}{N ps:Tn}{qual:Str}{scope:WR}{f:Addr}{cd:Wb}{A:Wl}{outer:List Env}{s s1:Wc}{H:Hp}{E:XK}{us:Tq}{vs:List V}
  (S:cL N ps scope) (hd:A.handled=none) (e0:lG P w K mg base A outer s H) (hl:vs.length=ps.length) (r:Vals vs us)
  (x:InCallC s s.heap.objs.size (bindL (Vc qual scope s.heap.objs.size f cd).kindOf (ps.zip us) λ_=>none) (Ws (s.heap.objs.size+1) scope.names []) (bindC (Vc qual scope s.heap.objs.size f cd).kindOf (ps.zip us) λ_=>none) s1) :
  Inv (fK CX P w K mg base N qual scope f cd A outer s H E) [] (start N vs) H s1:=by
 have hpl:ps.length<=N.length:=by have:=congrArg List.length S.pre;rw[XH]at this;lia
 obtain⟨h1,tk,rfl,hk⟩:=x.done;have noA:∀b:Addr,b∉(fK CX P w K mg base N qual scope f cd A outer s H E).ex:=λb z=>Qg (show b∈([]:Tr) from z) (by simp);refine⟨⟨e0.mod,S.kind,rfl,rfl,Xj _,λy z c h1 h2=>?_,λy hy=>?_,λy c _ h=>?_,λ_=>hd,Around.frames_deeper e0.frames,.inr ⟨rfl,rfl⟩,λb z=>Qg z (noA b),e0.bs,e0.pZ,λb _ _=>noA b,λb z=>Qg z (noA b),e0.eG,e0.rP⟩,
  rfl,e0.bare,Un.kept hk,⟨_,x.toInCall.ns,λi y v h1 h2 h3=>?_⟩,λy c h=>⟨_,x.cell y c h⟩,e0.hok.fresh (Xj _),λy c h=>?_,λp hp=>Qg (show p∈([]:Tg) from hp) (by simp),e0.hok.kept hk,?_⟩
 .exact name_of_addr x.apart (Qq h1) (Qq h2)
 .have hy:scope.names.lookup y=some .cell\/scope.names.lookup y=some .free:=hy;rcases hy with hy | hy
  .exact JC hy
  .exact Qg rfl (S.nofree _ (Qq hy))
 .exact Nat.le_of_lt (x.above y c (Qq h))
 .have hi:i<vs.length:=by
   unfold start at h2;by_cases hi:i<vs.length
   .exact hi
   .rw[XZ (by simpa using hi)]at h2;rw[YO]at h2;split at h2<;>cases h2
  have ha:vs[i]? = some v:=by
   unfold start at h2;rw[Ye (by simpa using hi),Xg]at h2;cases e:vs[i]? with
   | none=>rw[e]at h2;cases h2
   | some a=>rw[e]at h2;cases h2;rfl
  obtain⟨u,hu,rv⟩:=r.get ha;have hp:ps[i]? = some y:=by
   rw[<- S.pre,List.getElem?_take_of_lt (by lia)];exact h1
  have ndP:ps.Nodup:=by rw[<- S.pre];exact S.nd.sublist (List.take_sublist _ _)
  refine⟨u,rv,?_⟩;rcases S.bO y (Xl hp)with k | k
  .exact .inl ⟨k,Jz ndP hp hu k⟩
  .obtain⟨c,e⟩:=JC (n:=s.heap.objs.size+1) k;refine .inr ⟨.inl k,c,e,?_⟩;have q:=x.cell y c e;rw[JB ndP hp hu (by show scope.names.lookup y≠_;rw[k];decide)]at q;exact q
 .exact e0.hok.fresh (Nat.le_of_lt (x.above y c (Qq h)))
 .unfold start;show _=N.length;rw[Xr,Xb,QT];lia
theorem xY {CX:n8}{P:Wg}{w:Wj}{K:Xa}{mg:Tj}{base:Heap}{k:Nat}{f:Addr}{name qual:Str}{params:Arguments}{body:List Wn}{scope:WR}{dV kV doc pm cdv ct oc:Wb}{an od:Option Addr}
  {osl:Array (Tv)} {N ps:Tn} {sp:Sp} (lk:K.lookup f=some ⟨oc,od,.func (QZ name qual params body scope dV kV doc pm an cdv ct),osl⟩) (hcd:PySem.W.codeIn K cdv qual=true) (S:cL N ps scope)
  (len:∀vs H Q E,sp vs H Q E->vs.length=ps.length)
  (hbody:∀(A:Wl) (outer:List Env) (s:Wc) (H:Hp) (vs:List V) (Q:VK) (E:XK),bx k (A.deeper (Vc qual scope s.heap.objs.size f cdv))->sp vs H Q E->
   ∃t,dH (fK CX P w K mg base N qual scope f cdv A outer s H E) body t/\t { nx:=λ_ H'=>Q .non H',rt:=Q } (start N vs) H) :
  aA P w K mg base CX (k+1) f (QZ name qual params body scope dV kV doc pm an cdv ct) ps sp:=by
 refine⟨len,λA outer s H args us vs Q E hr e0 hb r hsp=>?_⟩;have hl:=len _ _ _ _ hsp;have KX:K.In s.heap:=e0.mod.tW.keeps λb o e=>(e0.bs b o e).1;have lim:s.heap.NoLimit:=e0.mod.nolimit.keeps λb o e=>(e0.bs b o e).1;have hkind:∀y∈ps.zip us,scope.names.lookup y.1=some .local\/(scope.names.lookup y.1=some .cell/\((Ws (s.heap.objs.size+1) scope.names []).lookup y.1).isSome=true):=λ⟨n,v⟩ hy=>by
  rcases S.bO n (Oe hy).1 with q | q
  .exact .inl q
  .exact .inr ⟨q,Om _ _ _ (.inl q)⟩
 refine codeAny_call_function hr.depth (KX _ _ lk) rfl S.co S.gen rfl (PySem.W.codeRec_of KX hcd) (hb _ _ _ _ ?_);refine wpAny_newFunctionEnv_cells S.kind hkind λenv he s1 x=>?_;subst he;refine⟨lim.keeps x.toInCall.keep,codeAny_func ?_⟩;obtain⟨t,ht,hq⟩:=hbody A outer s H vs Q E (hr.deeper _) hsp;have I:Inv (fK CX P w K mg base N qual scope f cdv A outer s H E) [] (start N vs) H s1:=Z5 S hr.hd e0 hl r x;refine WC (ht [] s1 (start N vs) H _ I hq) (λfl s' hs=>?_) λe s' hs=>hs;have fin:∀ {Y':St} {H':Hp} {v:V} {u:Wb},Inv (fK CX P w K mg base N qual scope f cdv A outer s H E) [] Y' H' s'->RelV v u->Q v H'->CE outer P w H s Q u s':=
  λ{Y' H' v u} Qq12 rv q=>⟨v,H',Qq12.os,Qq12.bare,Qq12.base,Qq12.hok,rv,q⟩
 cases fl with
 | ret u=>
  obtain⟨v,Y',H',Qq12,rv,q⟩:=hs;exact fin Qq12 rv q
 | next=>
  obtain⟨Y',H',Qq12,q⟩:=hs;exact fin (v:=V.non) (u:=Value.none) Qq12 rfl q
 | brk=>
  obtain⟨_,_,_,q⟩:=hs;exact Qz q
 | cont=>
  obtain⟨_,_,_,q⟩:=hs;exact Qz q
section
variable {X:Cx}{x:Str}{p pos:Pos}{e:Expr}{es:List Expr}{t:TA}{id T:String}{r:List V->Hp->VK->Prop}
def Ea (r:List V->Hp->VK->Prop)(t:TA):TE:=λY H Q=>t Y H λvs H1=>r vs H1 Q
theorem JD (hc:jW X (.builtin id) r)(hg:Gl X x)(hm:X.mg x=none)(hv:Wm x=some (.builtin id))(ha:PA X (e::es) t)(hn:x≠"__name__":=by decide) (hdb:fD x:=by decide)
  (he:cQ X e es:=by rfl) (hpl:cO X pos es:=by rfl):PE X (.Call (.Name x p) (e::es) [] pos) (Ea r t):=by
 intro pins s Y H Q I h;refine Wv (qd I hg hm hv ?_ hn hdb);exact PyProof.Rows.callWith_builtin1 (aQ (ha pos pins s Y H _ I h) λus s1 ⟨vs,H1,I1,r1,q1⟩=>hc pins s1 Y H1 vs us Q I1 r1 q1) he hpl
theorem JF (hc:jW X (.type T) r)(hg:Gl X x)(hm:X.mg x=none)(hv:Wm x=some (.type T))(ha:PA X (e::es) t)(hn:x≠"__name__":=by decide) (hdb:fD x:=by decide)
  (he:cQ X e es:=by rfl) (hpl:cO X pos es:=by rfl):PE X (.Call (.Name x p) (e::es) [] pos) (Ea r t):=by
 intro pins s Y H Q I h;refine Wv (qd I hg hm hv ?_ hn hdb);exact Qx (aQ (ha pos pins s Y H _ I h) λus s1 ⟨vs,H1,I1,r1,q1⟩=>hc pins s1 Y H1 vs us Q I1 r1 q1) he hpl
end
end L2
namespace HT
open PySem PyProof.Rows
def lexLt:Tp->Tp->Bool
 | [],[]=>false
 | [],_::_=>true
 | _::_,[]=>false
 | x::xs,y::ys=>if x=y then lexLt xs ys else decide (x<y)
theorem xZ (x y:Int)(xs ys:Tp):lexLt (x::xs) (y::ys)=if x=y then lexLt xs ys else decide (x<y):=rfl
theorem Z6:lexLt [] []=false:=rfl
theorem Z7 (y:Int)(ys:Tp):lexLt [] (y::ys)=true:=rfl
theorem Z8 (x:Int)(xs:Tp):lexLt (x::xs) []=false:=rfl
theorem Z9 (A:Wl)(s:Wc)(a:Int)(t:Tok)(c:Int)(u:Tok):∃e,Q0 A s (.int a t) (.int c u) e/\(e=true↔a=c):=
 ⟨(a == c),SeqAt.EqAt.int_int a t c u,by simp⟩
theorem zrb (A:Wl)(s:Wc)(a:Int)(t:Tok)(c:Int)(u:Tok)(prog:Wg)(w:Wj)(E:Ti)(Q:Ti)(h:Q (.bool (decide (a<c))) s) :
  We (Wh prog w) A (richCompare .Lt (.int a t) (.int c u)) Q E s:=
 (PyProof.Rows.lt_int h:We (Wh prog w) A (WF .Lt (.int a t) (.int c u)) Q E s)
section
open PySem.SeqAt
open PySem.MeetsSeq PySem.MeetsSeq2 PySem.MeetsSeq3
theorem zie (l b:Addr)(items items2:Array Wb)(n n2:Nat)(dd dd2:Option Addr)(sl sl2:Array (Tv))(ns ms:Tp)(hi:W1 items.toList ns)(hj:W1 items2.toList ms) :
  Meets (Builtin.«tuple.__lt__» ⟨[.ref l,.ref b],[]⟩)
   (λ_ R s=>s.heap.get? l=some { cls:=.type "tuple",dict:=dd,data:=.seq items n,slots:=sl }/\s.heap.get? b=some { cls:=.type "tuple",dict:=dd2,data:=.seq items2 n2,slots:=sl2 }/\
    R (.ok (.ret (.bool (lexLt ns ms)))) s):=
 .of_wp λprog w A R s h=>by
  obtain⟨hp,g,d,tk,os⟩:=s;obtain⟨hl,hb,h⟩:=h;have f2:=AutoSeq1.sub_tuple_tuple;have z1:items.size=ns.length:=by rw[<- hi.length];simp
  have z2:items2.size=ms.length:=by rw[<- hj.length];simp
  wp_walk using wpAny_loadPart' hl,wpAny_loadPart' hb,wpAny_forIn_list _ (λrest b s'=>b.1=none/\s'=⟨hp,g,d,tk,os⟩/\∃(vs ws:Tq) (ns' ms':Tp),rest=vs.zip ws/\
   W1 vs ns'/\W1 ws ms'/\ns'.length+items2.size=ms'.length+items.size/\R (.ok (.ret (.bool (lexLt ns' ms')))) ⟨hp,g,d,tk,os⟩) _
  case turn=>
   rintro⟨y,x⟩ rest b s' ⟨hb',rfl,vs,ws,ns',ms',hz,hvi,hwi,hlen,hR⟩;cases hvi with
   | nil=>rw[List.zip_nil_left]at hz;cases hz
   | cons a t hvi'=>
    cases hwi with
    | nil=>rw[List.zip_nil_right]at hz;cases hz
    | cons c u hwi'=>
     rw[XS]at hz;injection hz with hyx hrest;injection hyx with hy hx;subst hy hx;rw[xZ]at hR;simp only[Xy]at hlen;obtain⟨e,he,hiff⟩:=Z9 A.in1 ⟨hp,g,d,tk,os⟩ a t c u;refine Wa (he prog w _ _ ?_);cases e with
     | true=>
      rw[Qf (hiff.mp rfl)]at hR
      wp_walk
      exact⟨rfl,rfl,_,_,_,_,hrest,hvi',hwi',by lia,hR⟩
     | false=>
      rw[Qe (λq=>Qg (hiff.mpr q) Xu)]at hR;have hri:=zrb A.in1 ⟨hp,g,d,tk,os⟩ a t c u prog w
      wp_walk using hri
      exact⟨_,rfl,by simpa using hR⟩
  case fin=>
   rintro⟨b1,b2⟩ s' ⟨hb',rfl,vs,ws,ns',ms',hz,hvi,hwi,hlen,hR⟩;simp only at hb';subst hb';have hv:lexLt ns' ms'=decide (items.size<items2.size):=by
    cases hvi with
    | nil=>
     cases hwi with
     | nil=>
      simp only[QR]at hlen;rw[Z6];exact(Qc (by lia)).symm
     | cons c u hw=>
      simp only[QR,Xy]at hlen;rw[Z7];exact(Qd (by lia)).symm
    | cons a t hv=>
     cases hwi with
     | nil=>
      simp only[QR,Xy]at hlen;rw[Z8];exact(Qc (by lia)).symm
     | cons c u hw=>
      rw[XS]at hz;cases hz
   rw[hv]at hR
   wp_walk
   exact⟨_,rfl,by simpa[Builtin.Tuple.tupleCompareSizes]using hR⟩
  case h=>
   exact⟨rfl,rfl,items.toList,items2.toList,ns,ms,rfl,hi,hj,by lia,h⟩
end
section
variable {prog:Wg}{w:Wj}{A:Wl}{E:Ti}{s:Wc}
theorem zna {l b:Addr}{items items2:Array Wb}{ns ms:Tp}{Q:Ti}(hl:IsTup s.heap l items)(hb:IsTup s.heap b items2)(hi:W1 items.toList ns)(hj:W1 items2.toList ms)
  (hu:A.units<WG) (h:Q (.bool (lexLt ns ms)) s):We (Wh prog w) A (WF .Lt (.ref l) (.ref b)) Q E s:=by
 obtain⟨⟨cls,dd,data,sl⟩,ho,hc,n,hd⟩:=id hl;obtain⟨⟨cls2,dd2,data2,sl2⟩,ho2,hc2,n2,hd2⟩:=id hb;simp only at hc hd hc2 hd2;subst hc hd hc2 hd2;exact richCompare_meets_room (op:=.Lt) ⟨_,ho,rfl⟩ ⟨_,ho2,rfl⟩ PySem.F.slot_tuple_lt PySem.F.entry_tuple_lt (PySem.F.args_tuple_lt_2 _ _) (zie l b items items2 n n2 dd dd2 sl sl2 ns ms hi hj)
  ⟨ho,ho2,show Value.bool (lexLt ns ms)≠Value.notImplemented/\Q (.bool (lexLt ns ms)) s from⟨(λx=>nomatch x),h⟩⟩ hu
theorem ztE {t b:Addr}{vs ws:Tq}{Q:Ti}(ht:IsTup s.heap t vs.toArray)(hb:IsTup s.heap b ws.toArray)(hv:vs≠[])
  (h1:ws=[]->Q (.ref t) s) (h2:ws≠[]->Q (.ref s.heap.objs.size) { s with heap:=s.heap.push { cls:=.type "tuple",data:=.seq (vs++ws).toArray } })
  (hsz:vs.length+ws.length<=Wf):We (Wh prog w) A (WS .Add (.ref t) (.ref b)) Q E s:=by
 obtain⟨⟨cls,dd,data,sl⟩,ho,hc,n,hd⟩:=id ht;obtain⟨⟨cls2,dd2,data2,sl2⟩,ho2,hc2,n2,hd2⟩:=id hb;simp only at hc hd hc2 hd2;subst hc hd hc2 hd2;have e:vs.toArray++ws.toArray=(vs++ws).toArray:=by simp
 by_cases hw:ws=[]
 .exact concat_meets ⟨_,ho,rfl⟩ ⟨_,ho2,rfl⟩ noFill_tuple_add seq_tuple_add PySem.F.slot_tuple_add PySem.F.entry_tuple_add (PySem.F.args_tuple_add_2 _ _)
   (tuple_addW1 t b vs.toArray ws.toArray n n2 dd dd2 sl sl2 (by simpa using hv) (by simp[hw])) ⟨ho,ho2,h1 hw⟩
 .refine concat_meets ⟨_,ho,rfl⟩ ⟨_,ho2,rfl⟩ noFill_tuple_add seq_tuple_add PySem.F.slot_tuple_add PySem.F.entry_tuple_add (PySem.F.args_tuple_add_2 _ _)
   (tuple_addW2 t b vs.toArray ws.toArray n n2 dd dd2 sl sl2 (by simpa using hv) (by simpa using hw) (by rw[Xo,Xo];exact hsz)) ⟨ho,ho2,?_⟩
  rw[e];exact h2 hw
def ig (n d:Nat):Option Int->Nat
 | none=>d
 | some v=>if v<0 then(v+(n:Int)).toNat else min v.toNat n
theorem JG (n d:Nat):ig n d none=d:=rfl
theorem vg (n d k:Nat):ig n d (some (k:Int))=min k n:=by
 show(if (k:Int)<0 then((k:Int)+(n:Int)).toNat else min (k:Int).toNat n)=min k n
 rw[Qe (by lia),Pa]
end
end HT
namespace L2
open PySem PySem.Spec PyProof.Rows
variable {xs:List (List Key×Addr×Wb)}{us its:Tq}{n t':Nat}{M:Type}{pins:Tg}{Y:St}{H H':Hp}{s:Wc}{A:Wl}{y x:V}{u v:Wb}{o:Option V}{P:Wg}{w:Wj}{kvs:List (List Key×V)}{a:Addr}{Q:Ti}
abbrev TO:=St->Hp->(Option Int->Hp->Prop)->Prop
def PO (X:Cx)(e:Option Expr)(t:TO):Prop:=
 ∀(pins:Tg) (s:Wc) (Y:St) (H:Hp) (Q:Option Int->Hp->Prop),Inv X pins Y H s->t Y H Q->
  We (Wh X.prog X.w) X.A (evalPart e X.env) (λu s'=>∃o H',Inv X pins Y H' s'/\IsPart u o/\Q o H') X.xe s
def ztF:TO:=λ_ H Q=>Q none H
def zxI (t:TE):TO:=λY H Q=>t Y H λx H1=>∃i,x=.int i/\Q (some i) H1
theorem intsAre_of {ns:Tp}:∀ {us:Tq},Vals (ns.map V.int) us->W1 us ns:=by
 induction ns with
 | nil=>intro us r;rw[YE]at r;cases r;exact .nil
 | cons n ns ih=>
  intro us r;rw[Xq]at r;cases r with
  | cons r1 r2=>
   obtain⟨t,e⟩:=r1;subst e;exact .cons n t (ih r2)
section
variable {X:Cx}{e:Expr}{te:TE}{lo hi:Option Expr}{tl th:TO}{pos p2:Pos}
theorem ztG:PO X none ztF:=by
 intro pins s Y H Q I h;rw[evalPart_none];exact Wd ⟨none,H,I,.none,h⟩
theorem ztH (h:PE X e te):PO X (some e) (zxI te):=by
 intro pins s Y H Q I hw;rw[evalPart_some];refine aQ (h pins s Y H _ I hw) λu s1 ⟨x,H1,I1,r1,q1⟩=>?_;obtain⟨i,rfl,q⟩:=q1;obtain⟨t,rfl⟩:=r1;exact⟨some i,H1,I1,.int i t,q⟩
def Eb (X:Cx)(r:V->Option Int->Option Int->Hp->VK->Prop):Prop:=
 ∀(pins:Tg) (s:Wc) (Y:St) (H:Hp) (x:V) (v vl vu:Wb) (lo hi:Option Int) (sl:Addr) (Q:VK),Inv X pins Y H s->RelV x v->s.heap.IsSliceOf sl vl vu .none->IsPart vl lo->IsPart vu hi->r x lo hi H Q->
  ∃T id,typeLookup (.type T) "__getitem__" = pure (some (.builtin id))/\s.TypeIs v T/\We (Wh X.prog X.w) X.A (getItem v (.ref sl)) (EP X pins Y Q) X.xe s
def tSl (r:V->Option Int->Option Int->Hp->VK->Prop)(te:TE)(tl th:TO):TE:=λY H Q=>te Y H λx H1=>tl Y H1 λl H2=>th Y H2 λu H3=>r x l u H3 Q
theorem JH {r:V->Option Int->Option Int->Hp->VK->Prop}(hr:Eb X r)(he:PE X e te)(hl:PO X lo tl)(hu:PO X hi th):PE X (.Subscript e (.Slice lo hi none p2) pos) (tSl r te tl th):=by
 intro pins s Y H Q I h;refine Subscript_ (aQ (he pins s Y H _ I h) λv s1 ⟨x,H1,I1,r1,q1⟩=>?_);refine wpAny_Slice (aQ (hl pins s1 Y H1 _ I1 q1) λvl s2 ⟨l,H2,I2,pl,q2⟩=>aQ (hu pins s2 Y H2 _ I2 q2) λvu s3 ⟨u,H3,I3,pu,q3⟩=>?_);rw[evalPart_none];refine Wd ?_;have I4:Inv X pins Y H3 { s3 with heap:=s3.heap.push { cls:=.type "slice",data:=.fields #[vl,vu,.none] } }:=I3.kept (t':=s3.toks) λb ob q=>Xe _ q;obtain⟨T,id,hT,ht,hg⟩:=hr pins { s3 with heap:=s3.heap.push { cls:=.type "slice",data:=.fields #[vl,vu,.none] } } Y H3 x v vl vu l u s3.heap.objs.size Q I4 r1 (Heap.IsSliceOf.new ..) pl pu q3;show We (Wh X.prog X.w) X.A (subscriptTail e (.Slice lo hi none p2) v (.ref s3.heap.objs.size)) (EP X pins Y Q) X.xe { s3 with heap:=s3.heap.push { cls:=.type "slice",data:=.fields #[vl,vu,.none] } };exact tail_any (ops:=[.ref s3.heap.objs.size,v]) ht hT hg (by with_unfolding_all rfl)
def mR (xs:List V)(lo hi:Option Int):List V:=(xs.drop (HT.ig xs.length 0 lo)).take (HT.ig xs.length xs.length hi-HT.ig xs.length 0 lo)
theorem zkD (xs:List V)(lo hi:Option Int):(mR xs lo hi).length<=xs.length:=by
 unfold mR;rw[XH,Ow];lia
def yc (K:Xa):R2:=λx y H Q=>∃a b ns ms,x=.ref a/\y=.ref b/\bN K H a (ns.map V.int)/\bN K H b (ms.map V.int)/\Q (.bl (HT.lexLt ns ms)) H
theorem zvS (hu:X.A.units<WG):fZ X (WF .Lt) (yc X.K):=by
 intro pins s Y H x y v u Q I rx ry h;obtain⟨a,b,ns,ms,rfl,rfl,ha,hb,q⟩:=h;cases rx;cases ry;obtain⟨its,r1,p1,_⟩:=I.tuple ha;obtain⟨its2,r2,p2,_⟩:=I.tuple hb;have i1:W1 its.toArray.toList ns:=intsAre_of r1;have i2:W1 its2.toArray.toList ms:=intsAre_of r2;exact HT.zna p1 p2 i1 i2 hu ⟨.bl (HT.lexLt ns ms),H,I,rfl,q⟩
def zxJ (K:Xa):R2:=λx y H Q=>∃a b xs ys,x=.ref a/\y=.ref b/\bN K H a xs/\bN K H b ys/\xs≠[]/\xs.length+ys.length<=Wf/\
 (ys=[]->Q (.ref a) H)/\(ys≠[]->∀p,H p=none->Q (.ref p) (upd H p (.tup (xs++ys))))
theorem Vals.Ag {xs:List V}(r:Vals xs us):us=[]↔xs=[]:=by
 cases r with
 | nil=>simp
 | cons _ _=>simp
theorem ztI:fZ X (WS .Add) (zxJ X.K):=by
 intro pins s Y H x y v u Q I rx ry h;obtain⟨a,b,xs,ys,rfl,rfl,ha,hb,hx,hz,q1,q2⟩:=h;cases rx;cases ry;obtain⟨its,r1,p1,_⟩:=I.tuple ha;obtain⟨its2,r2,p2,_⟩:=I.tuple hb;refine HT.ztE p1 p2 (λz=>hx (r1.Ag.mp z)) (λz=>⟨.ref a,H,I,rfl,q1 (r2.Ag.mp z)⟩) (λz=>?_) (by rw[<- r1.length,<- r2.length];exact hz);refine⟨.ref s.heap.objs.size,_,I.laid (t':=s.toks) (o:=.tup (xs++ys)) (λb ob q=>Xe _ q) (Xj _) ?_,rfl,q2 (λw=>z (r2.Ag.mpr w)) _ (I.hok.fresh (Xj _))⟩;exact⟨by rw[Xr];exact hz,_,r1.append r2,mL.new _ _⟩
end
def pP (n:Nat)(i:Int):Option Nat:=if 0<=i then(if i<n then some i.toNat else none) else if -(n:Int)<=i then some (i+n).toNat else none
def gM {M:Type}(xs:List M)(i:Int):Option M:=(pP xs.length i).bind λj=>xs[j]?
theorem JK {i:Int}{j:Nat}(h:pP n i=some j):seqIndex? i n=some j/\j<n/\-(n:Int)<=i/\i<n:=by
 unfold pP at h;by_cases h0:0<=i
 .rw[Qf h0]at h;by_cases h1:i<n
  .rw[Qf h1]at h;have e:i.toNat=j:=Qa h;exact⟨by rw[seqIndex_of h0 h1,e],by lia,by lia,h1⟩
  .rw[Qe h1]at h;cases h
 .rw[Qe h0]at h;by_cases h1:-(n:Int)<=i
  .rw[Qf h1]at h;have e:(i+n).toNat=j:=Qa h;exact⟨by rw[seqIndex_neg (by lia) h1,e],by lia,h1,by lia⟩
  .rw[Qe h1]at h;cases h
theorem yd {xs:List M}{i:Int}{v:M}(h:gM xs i=some v):∃j,seqIndex? i xs.length=some j/\xs[j]? = some v/\j<xs.length/\-(xs.length:Int)<=i/\i<xs.length:=by
 unfold gM at h;cases e:pP xs.length i with
 | none=>rw[e]at h;cases h
 | some j=>
  rw[e]at h;obtain⟨h1,h2,h3,h4⟩:=JK e;exact⟨j,h1,h,h2,h3,h4⟩
theorem jt {xs:List M}{j:Nat}{v:M}(h:xs[j]? = some v):gM xs (j:Int)=some v:=by
 have hj:j<xs.length:=(Xc.mp h).1;have e:pP xs.length (j:Int)=some j:=by
  unfold pP;rw[Qf (by lia),Qf (by lia)];simp
 unfold gM;rw[e];exact h
def Ec (b:Expr):Prop:=∀o i,subscripted b false o i=operate [o,i] (getItem o i)
def pQ (X:Cx)(r:R2):Prop:=
 ∀(value slice:Expr) (pins:Tg) (s:Wc) (Y:St) (H:Hp) (x y:V) (v u:Wb) (Q:VK),Inv X pins Y H s->RelV x v->RelV y u->r x y H Q->
  subscripted slice false v u=operate [v,u] (getItem v u)->We (Wh X.prog X.w) X.A (subscriptTail value slice v u) (EP X pins Y Q) X.xe s
def Ah (X:Cx)(id:String)(r:V->List V->Hp->VK->Prop):Prop:=
 ∀(pins:Tg) (s:Wc) (Y:St) (H:Hp) (x:V) (xs:List V) (v:Wb) (us:Tq) (Q:VK),Inv X pins Y H s->RelV x v->Vals xs us->r x xs H Q->
  We (Wh X.prog X.w) X.A (call (.builtin id) (v::us)) (EP X pins Y Q) X.xe s
section
variable {X:Cx}{a b:Expr}{ta tb:TE}{pos:Pos}
theorem pQ.or {r r':R2}(h:pQ X r)(h':pQ X r'):pQ X (λx y H Q=>r x y H Q\/r' x y H Q):=by
 intro value slice pins s Y H x y v u Q I rx ry q hs;rcases q with q | q
 .exact h value slice pins s Y H x y v u Q I rx ry q hs
 .exact h' value slice pins s Y H x y v u Q I rx ry q hs
theorem zxK {r:R2}(hr:pQ X r)(ha:PE X a ta)(hb:PE X b tb)(hs:Ec b):PE X (.Subscript a b pos) (xN r ta tb):=by
 intro pins s Y H Q I h;exact Subscript_ (tZ ha hb I h λv u s2 x y H2 I2 rx ry q=>hr a b pins s2 Y H2 x y v u Q I2 rx ry q (hs _ _))
def ye (K:Xa):R2:=λx y H Q=>∃p xs i v,x=.ref p/\y=.int i/\bI K H p xs/\gM xs i=some v/\Q v H
def yg (K:Xa):R2:=λx y H Q=>∃p xs i v,x=.ref p/\y=.int i/\bN K H p xs/\gM xs i=some v/\Q v H
def yh:R2:=λx y H Q=>∃z i c,x=.str z/\y=.int i/\z.length<=Wf/\gM z.cps.toList i=some c/\Q (.str ⟨#[c]⟩) H
theorem ztJ:pQ X (ye X.K):=by
 intro value slice pins s Y H x y v u Q I rx ry h hs;obtain⟨p,xs,i,z,rfl,rfl,hq,he,q⟩:=h;cases rx;obtain⟨t,rfl⟩:=ry;obtain⟨its,r,pl,hz⟩:=I.list hq;obtain⟨j,h1,h2,h3,h4,h5⟩:=yd he;obtain⟨w,ew,lg⟩:=r.get h2;have hl:=r.length;have hn:=vd;have fin:EP X pins Y Q w s:=⟨z,H,I,lg,q⟩;by_cases h0:0<=i
 .have hj:i.toNat=j:=by
   rw[seqIndex_of h0 h5]at h1;exact Qa h1
  exact item_listR pl.isList h0 (by lia) (by rw[hj];simpa using ew) fin hs
 .have hj:(i+(its.toArray.size:Int)).toNat=j:=by
   rw[seqIndex_neg (by lia) h4]at h1;rw[Xo,<- hl];exact Qa h1
  exact subscriptTail_builtinR (x:=w) pl.isList.typeIs slot_list_getitem.lookup
   (wpAny_getItem_list_neg (Q:=λr s'=>r=w/\EP X pins Y Q r s') pl.isList (by lia) (by rw[Xo]<;>lia) (by lia) (by rw[hj];simpa using ew) ⟨rfl,fin⟩) hs
theorem zvT:pQ X (yg X.K):=by
 intro value slice pins s Y H x y v u Q I rx ry h hs;obtain⟨p,xs,i,z,rfl,rfl,hq,he,q⟩:=h;cases rx;obtain⟨t,rfl⟩:=ry;obtain⟨its,r,pl,hz⟩:=I.tuple hq;obtain⟨j,h1,h2,h3,h4,h5⟩:=yd he;obtain⟨w,ew,lg⟩:=r.get h2;have hl:=r.length;have hn:=vd;have fin:EP X pins Y Q w s:=⟨z,H,I,lg,q⟩;exact subscriptTail_builtinR (x:=w) pl.typeIs slot_tuple_getitem.lookup
  (getItem_tuple (j:=j) (Q:=λr s'=>r=w/\EP X pins Y Q r s') pl (by lia) (by lia) (by rw[Xo,<- hl];exact h1) (by simpa using ew) ⟨rfl,fin⟩) hs
theorem zvU:pQ X yh:=by
 intro value slice pins s Y H x y v u Q I rx ry h hs;obtain⟨z,i,c,rfl,rfl,hz,he,q⟩:=h;obtain⟨t,rfl⟩:=rx;obtain⟨t',rfl⟩:=ry;obtain⟨j,h1,h2,h3,h4,h5⟩:=yd he;have hl:z.cps.toList.length=z.length:=by simp[Str.length]
 rw[hl]at h1 h4 h5;have hn:=vd;exact tail_any (typeIs_str s z t) slot_str_getitem.lookup (getItem_str (c:=c) (by
  have e1:decide (i < -(2 ^ 63:Int))=false:=Qc (by lia);have e2:decide (i>=2 ^ 63)=false:=Qc (by lia);rw[e1,e2,Bool.or_false]) (by rw[h1];simpa using h2) ⟨.str ⟨#[c]⟩,H,I.tok _,⟨_,rfl⟩,q⟩) hs
def JL (K:Xa):R2:=λx y H Q=>ye K x y H Q\/yg K x y H Q\/yh x y H Q
theorem zvV:pQ X (JL X.K):=ztJ.or (zvT.or zvU)
theorem znb (its:Tq)(n j:Nat)(u:Wb):Og (·.setIfInBounds j u) { cls:=.type "list",data:=.seq its.toArray n }={ cls:=.type "list",data:=.seq (its.set j u).toArray n }:=by
 simp[Og]
theorem Inv.lst {p:Addr}{xs:List V}(I:Inv X pins Y H s)(h:H p=some (.lst xs)) :
  ∃(its:Tq) (n:Nat),Vals xs its/\s.heap.get? p=some { cls:=.type "list",data:=.seq its.toArray n }/\xs.length<=Wf:=by
 obtain⟨z,its,n,r,e⟩:=I.hok p _ h;exact⟨its,n,r,e,z⟩
theorem Inv.zvW {pins:Tg}{Y:St}{H:Hp}{s:Wc}{p:Addr}{xs ys:List V}{its its':Tq}{n n':Nat}{f:Obj->Obj}(I:Inv X pins Y H s)(h:H p=some (.lst xs))
  (ho:s.heap.get? p=some { cls:=.type "list",data:=.seq its.toArray n }) (hf:f { cls:=.type "list",data:=.seq its.toArray n }={ cls:=.type "list",data:=.seq its'.toArray n' }) (r:Vals ys its') (hz:ys.length<=Wf) (t:Nat) :
  Inv X pins Y (upd H p (.lst ys)) { s with heap:=s.heap.update p f,toks:=t }:=by
 have e:(s.heap.update p f).get? p=some { cls:=.type "list",data:=.seq its'.toArray n' }:=by
  rw[XW f ho (by rw[hf]<;>rfl),hf]
 refine I.write (x:=p) (e:=p) (by rw[h];trivial) (.inl rfl) (λb u hb q=>(Yi _ _ (QD hb)).trans q) ⟨_,e⟩ ?_;exact⟨hz,its',n',r,e⟩
def zxL:V->V->V->Hp->(Hp->Prop)->Prop:=λo i v H Q=>∃p xs k j,o=.ref p/\i=.int k/\H p=some (.lst xs)/\pP xs.length k=some j/\Q (upd H p (.lst (xs.set j v)))
theorem set_list:xH X zxL:=by
 intro pins s Y H o i v ov iv u Q I ro ri rv h;obtain⟨p,xs,k,j,rfl,rfl,hp,hj,q⟩:=h;cases ro;obtain⟨t,rfl⟩:=ri;obtain⟨its,n,r,ho,hz⟩:=I.lst hp;obtain⟨h1,h2,h3,h4⟩:=JK hj;have hl:=r.length;have hn:=vd;have I':Inv X pins Y (upd H p (.lst (xs.set j v))) { s with heap:=s.heap.update p (Og (·.setIfInBounds j u)) }:=
  I.zvW hp ho (znb its n j u) (r.set rv j) (by rw[Yf];exact hz) s.toks
 by_cases h0:0<=k
 .have hk:k.toNat=j:=by
   rw[seqIndex_of h0 h4]at h1;exact Qa h1
  exact PySem.W.ki_setAt ho h0 (by lia) (by rw[Xo,<- hl];exact h4) (by rw[hk];exact⟨_,I',q⟩)
 .have hk:(k+(its.toArray.size:Int)).toNat=j:=by
   rw[seqIndex_neg (by lia) h3]at h1;rw[Xo,<- hl];exact Qa h1
  exact PySem.W.ki_setBack ho (by lia) (by rw[Xo,<- hl];exact h3) (by lia) (by rw[hk];exact⟨_,I',q⟩)
theorem zjq (lo hi:Option Int)(n:Nat):(W7 lo hi none n).1=((HT.ig n 0 lo:Nat):Int)/\(W7 lo hi none n).2.1=((HT.ig n n hi:Nat):Int)/\(W7 lo hi none n).2.2=1:=by
 refine⟨?_,?_,rfl⟩
 .cases lo with
  | none=>simp[W7,HT.ig]
  | some i=>
   simp only[W7,HT.ig,Option.getD_none,show(1:Int) > 0 by decide,if_true];by_cases h:i<0
   .simp only[h,if_true]<;>lia
   .simp only[h,if_false]<;>lia
 .cases hi with
  | none=>simp[W7,HT.ig]
  | some i=>
   simp only[W7,HT.ig,Option.getD_none,show(1:Int) > 0 by decide,if_true];by_cases h:i<0
   .simp only[h,if_true]<;>lia
   .simp only[h,if_false]<;>lia
theorem zig (its:Tq)(lo hi:Option Int):slicePick its.toArray lo hi none=((its.drop (HT.ig its.length 0 lo)).take (HT.ig its.length its.length hi-HT.ig its.length 0 lo)).toArray:=by
 obtain⟨h1,h2,h3⟩:=zjq lo hi its.toArray.size;unfold slicePick;rw[h1,h2,h3];simp only[sliceRange_one,pick_run,Xo]<;>rfl
def Ed (K:Xa):V->Option Int->Option Int->Hp->VK->Prop:=λx lo hi H Q=>∃a xs,x=.ref a/\bI K H a xs/\∀p,H p=none->Q (.ref p) (upd H p (.lst (mR xs lo hi)))
theorem ztK:Eb X (Ed X.K):=by
 intro pins s Y H x v vl vu lo hi sl Q I rx hs pl pu h;obtain⟨a,xs,rfl,hx,q⟩:=h;cases rx;obtain⟨its,r,ht,hz⟩:=I.list hx;have hlen:=r.length;refine⟨"list",_,slot_list_getitem.lookup,ht.isList.typeIs,?_⟩;refine wpAny_getItem_list_slice ht.isList hs pl pu .none (by simp) ?_ (by rw[Xo]<;>lia);rw[zig,<- hlen];refine⟨.ref s.heap.objs.size,_,I.laid (t':=s.toks) (o:=.lst (mR xs lo hi)) (λb ob q=>Xe _ q) (Xj _) ?_,rfl,q _ (I.hok.fresh (Xj _))⟩;exact⟨XC (zkD xs lo hi) hz,_,0,(r.drop (HT.ig xs.length 0 lo)).take (HT.ig xs.length xs.length hi-HT.ig xs.length 0 lo),Xx _ rfl⟩
def mj:V->Bool
 | .non=>true
 | .bl _=>true
 | .int _=>true
 | .str _=>true
 | _=>false
def ir:V->V->Bool
 | .non,.non=>true
 | .bl a,.bl b=>a == b
 | .bl a,.int b=>(if a then 1 else 0) == b
 | .int a,.bl b=>a == (if b then 1 else 0)
 | .int a,.int b=>a == b
 | .str a,.str b=>a == b
 | _,_=>false
theorem zvX (ry:RelV y u)(rx:RelV x v)(fy:mj y=true)(fx:mj x=true):Q0 A s u v (ir y x):=by
 cases y with
 | non=>
  cases ry;cases x with
  | non=>cases rx;exact SeqAt.EqAt.same _
  | bl b=>cases rx;exact SeqAt.EqAt.none_bool b
  | int b=>obtain⟨t,rfl⟩:=rx;exact SeqAt.EqAt.none_int b t
  | str b=>obtain⟨t,rfl⟩:=rx;exact SeqAt.EqAt.none_str b t
  | _=>exact Qg (show false=true from fx) Xu
 | bl a=>
  cases ry;cases x with
  | non=>cases rx;exact SeqAt.EqAt.bool_none a
  | bl b=>cases rx;exact SeqAt.EqAt.bool_bool a b
  | int b=>obtain⟨t,rfl⟩:=rx;exact SeqAt.EqAt.bool_int a b t
  | str b=>obtain⟨t,rfl⟩:=rx;exact SeqAt.EqAt.bool_str a b t
  | _=>exact Qg (show false=true from fx) Xu
 | int a=>
  obtain⟨t',rfl⟩:=ry;cases x with
  | non=>cases rx;exact SeqAt.EqAt.int_none a t'
  | bl b=>cases rx;exact SeqAt.EqAt.int_bool a t' b
  | int b=>obtain⟨t,rfl⟩:=rx;exact SeqAt.EqAt.int_int a t' b t
  | str b=>obtain⟨t,rfl⟩:=rx;exact SeqAt.EqAt.int_str a t' b t
  | _=>exact Qg (show false=true from fx) Xu
 | str a=>
  obtain⟨t',rfl⟩:=ry;cases x with
  | non=>cases rx;exact SeqAt.EqAt.str_none a t'
  | bl b=>cases rx;exact SeqAt.EqAt.str_bool a t' b
  | int b=>obtain⟨t,rfl⟩:=rx;exact SeqAt.EqAt.str_int a t' b t
  | str b=>obtain⟨t,rfl⟩:=rx;exact SeqAt.EqAt.str_str a t' b t
  | _=>exact Qg (show false=true from fx) Xu
 | _=>exact Qg (show false=true from fy) Xu
def t8 (x:V)(u:Wb):Bool:=match u with
 | .none=>ir .non x
 | .bool b=>ir (.bl b) x
 | .int i _=>ir (.int i) x
 | .str z _=>ir (.str z) x
 | _=>false
theorem JM (r:RelV y u)(f:mj y=true):t8 x u=ir y x:=by
 cases y with
 | non=>cases r;rfl
 | bl b=>cases r;rfl
 | int i=>obtain⟨t,rfl⟩:=r;rfl
 | str z=>obtain⟨t,rfl⟩:=r;rfl
 | _=>exact Qg (show false=true from f) Xu
theorem Ef (rx:RelV x v)(fx:mj x=true):∀ {xs:List V}{us:Tq},Vals xs us->xs.all mj=true->∀u∈us,Q0 A s u v (t8 x u)
 | _,_,.nil,_=>λu hu=>by cases hu
 | y::xs,u::us,.cons r t,f=>λu' hu=>by
  rw[List.all_cons,Yu]at f;rcases Xn.mp hu with rfl | hu
  .rw[JM r f.1];exact zvX r rx f.1 fx
  .exact Ef rx fx t f.2 u' hu
theorem zjr:jW X (.type "list") (λxs H Q=>∃p ys,xs=[.ref p]/\(bI X.K H p ys\/bN X.K H p ys)/\∀l,H l=none->Q (.ref l) (upd H l (.lst ys))):=by
 intro pins s Y H xs us Q I r h;obtain⟨p,ys,rfl,hq,q⟩:=h;obtain⟨u,rfl,rx⟩:=vals1 r;cases rx;have fin:∀(its:Tq),Vals ys its->ys.length<=Wf->∀(h':Heap) (c':Nat),(∀b o',s.heap.get? b=some o'->h'.get? b=some o')->
   h'.get? s.heap.objs.size=some { cls:=.type "list",dict:=none,data:=.seq its.toArray c',slots:=#[] }->EP X pins Y Q (.ref s.heap.objs.size) { s with heap:=h' }:=λits r' hz h' c' kp e=>
  ⟨.ref s.heap.objs.size,_,I.laid (t':=s.toks) kp (Xj _) (show eE X.prog X.w _ h' _ (.lst ys) from⟨hz,its,c',r',e⟩),rfl,q _ (I.hok.fresh (Xj _))⟩
 rcases hq with hq | hq
 .obtain⟨its,r',pl,hz⟩:=I.list hq;have hlen:=r'.length;obtain⟨o,ho,hc,n,hd⟩:=pl.isList;exact call_list_seq p (.inl rfl) ho hc hd (λh' c' kp e=>fin its r' hz h' c' kp e) (by simp only[Xo]<;>lia)
 .obtain⟨its,r',pl,hz⟩:=I.tuple hq;have hlen:=r'.length;obtain⟨o,ho,hc,n,hd⟩:=pl;exact call_list_seq p (.inr rfl) ho hc hd (λh' c' kp e=>fin its r' hz h' c' kp e) (by simp only[Xo]<;>lia)
theorem zii:jW X (.type "tuple") (λxs H Q=>∃p ys,xs=[.ref p]/\((bI X.K H p ys/\∀l,H l=none->Q (.ref l) (upd H l (.tup ys)))\/(bN X.K H p ys/\Q (.ref p) H))):=by
 intro pins s Y H xs us Q I r h;obtain⟨p,ys,rfl,h⟩:=h;obtain⟨u,rfl,rx⟩:=vals1 r;cases rx;rcases h with ⟨hq,q⟩ | ⟨hq,q⟩
 .obtain⟨its,r',pl,hz⟩:=I.list hq;have hlen:=r'.length;refine call_tuple_list pl.isList (λh' kp=>?_) (by simp only[Xo]<;>lia);have I1:Inv X pins Y H { s with heap:=h' }:=I.kept (t':=s.toks) kp;have I2:Inv X pins Y (upd H h'.objs.size (.tup ys)) { s with heap:=h'.push { cls:=.type "tuple",data:=.seq its.toArray } }:=
   I1.laid (t':=s.toks) (λb o e=>Xe _ e) (Xj _) (show eE X.prog X.w _ _ _ (.tup ys) from⟨hz,its,r',mL.new _ _⟩)
  exact⟨.ref h'.objs.size,_,I2,rfl,q _ (I1.hok.fresh (Xj _))⟩
 .obtain⟨its,r',pl,hz⟩:=I.tuple hq;exact call_tuple_same pl ⟨.ref p,H,I,rfl,q⟩
def Eg (K:Xa)(T:String)(x:V)(H:Hp):Prop:=match x with
 | .str _=>T = "str"
 | .int _=>T = "int"
 | .ref p=>(T = "list"/\∃xs,bI K H p xs)\/(T = "tuple"/\∃o,K.lookup p=some o/\o.cls=.type "tuple"/\o.dict=none)\/
   (T = "dict"/\((∃kvs,H p=some (.dK kvs))\/∃kvs,H p=some (.dT kvs)))\/(T = "set"/\∃S n,H p=some (.set S n))
 | _=>False
theorem JN {T:String}(I:Inv X pins Y H s)(r:RelV x v)(ty:Eg X.K T x H) :
  s.TypeIs v T/\∀a,v=.ref a->∃ob,s.heap.get? a=some ob/\ob.dict=none:=by
 cases x with
 | str z=>
  obtain⟨t,rfl⟩:=r;cases (show T = "str" from ty);exact⟨typeIs_str s z t,λ_ e=>nomatch e⟩
 | int i=>
  obtain⟨t,rfl⟩:=r;cases (show T = "int" from ty);exact⟨typeIs_int s i t,λ_ e=>nomatch e⟩
 | ref p=>
  cases r;rcases ty with ⟨rfl,xs,hq⟩ | ⟨rfl,o,hk,hc,hd⟩ | ⟨rfl,hk⟩ | ⟨rfl,S,n,hk⟩
  .obtain⟨its,_,pl,_⟩:=I.list hq;refine⟨pl.isList.typeIs,λa e=>?_⟩;cases e;obtain⟨o,n,e,c,hd,_⟩:=pl;exact⟨o,e,hd⟩
  .refine⟨⟨o,I.jh p o hk,hc⟩,λa e=>?_⟩;cases e;exact⟨o,I.jh _ o hk,hd⟩
  .have z:∃o,s.heap.get? p=some o/\o.ExactDict:=by
    rcases hk with ⟨kvs,hk⟩ | ⟨kvs,hk⟩
    .obtain⟨_,_,_,_,o,_,_,e,ex,_⟩:=I.hok p _ hk;exact⟨o,e,ex⟩
    .obtain⟨_,_,_,_,o,_,_,e,ex,_⟩:=I.hok p _ hk;exact⟨o,e,ex⟩
   obtain⟨o,e,ex⟩:=z;refine⟨⟨o,e,ex.1⟩,λa e2=>?_⟩;cases e2;exact⟨o,e,ex.2.1⟩
  .obtain⟨o,_,_,_,e,ex,_⟩:=I.hok p _ hk;refine⟨⟨o,e,ex.1⟩,λa e2=>?_⟩;cases e2;exact⟨o,e,ex.2.1⟩
 | _=>exact Qz ty
def Eh (K:Xa)(T:String)(r:V->List V->Hp->VK->Prop)(to:TE):TE:=λY H Q=>to Y H λx H1=>Eg K T x H1/\r x [] H1 Q
def JP (K:Xa)(T:String)(r:V->List V->Hp->VK->Prop)(to:TE)(t:TA):TE:=λY H Q=>to Y H λx H1=>Eg K T x H1/\t Y H1 λxs H2=>r x xs H2 Q
variable {o e:Expr}{es:List Expr}{to:TE}{t:TA}{name:Str}{apos cpos:Pos}{T id:String}{r:V->List V->Hp->VK->Prop}
theorem zvY (pa:PlainAttrs T)(slot:Slot T name id)(hty:typeOf (.builtin id)=pure (.type "method_descriptor")) (hm:Ah X id r) (ho:PE X o to)
  (hbase:Wu o name X.env (Ww o X.env)=Ww o X.env:=by rfl) (hline:(apos.endLine == cpos.line)=true:=by rfl):PE X (.Call (.Attribute o name apos) [] [] cpos) (Eh X.K T r to):=by
 intro pins s Y H Q I h;refine wpAny_Call_method0_late hbase hline (aQ (ho pins s Y H _ I h) λv s1 ⟨x,H1,I1,r1,ty,q1⟩=>?_);obtain⟨h1,h2⟩:=JN I1 r1 ty;exact⟨T,id,pa,slot,hty,h1,h2,QB rfl (PySem.evalArgs_none (hm pins s1 Y H1 x [] v [] Q I1 r1 .nil q1))⟩
theorem Ai (pa:PlainAttrs T)(slot:Slot T name id)(hty:typeOf (.builtin id)=pure (.type "method_descriptor")) (hm:Ah X id r) (ho:PE X o to) (ha:PA X (e::es) t)
  (hbase:Wu o name X.env (Ww o X.env)=Ww o X.env:=by rfl)
  (hfew:((WK cpos (Wo (e::es) X.env)).all (λx=>!x.1)&&(WT cpos (WE [] X.env)).all (λx=>x.1.isSome)
   && decide ((e::es).length+([]:List W0).length+(if ([]:List W0).isEmpty then 0 else 1)<30))=true:=by rfl)
  (hline:(apos.endLine == cpos.line)=true:=by rfl) (hs:cQ X e es:=by rfl) (hplain:cO X cpos es:=by rfl) :
  PE X (.Call (.Attribute o name apos) (e::es) [] cpos) (JP X.K T r to t):=by
 intro pins s Y H Q I h;refine wpAny_Call_method_late hbase hfew hline rfl (aQ (ho pins s Y H _ I h) λv s1 ⟨x,H1,I1,r1,ty,q1⟩=>?_);obtain⟨h1,h2⟩:=JN I1 r1 ty;refine⟨T,id,pa,slot,hty,h1,h2,?_⟩;have hA:=ha cpos pins s1 Y H1 _ I1 q1;rw[hs]at hA ⊢;refine QB (by show(false||(WK cpos (Wo es X.env)).any (·.1))=false;rw[hplain]<;>rfl) (QF ?_)
 exact aQ hA λus s2 ⟨vs,H2,I2,r2,q2⟩=>hm pins s2 Y H2 x vs v us Q I2 r1 r2 q2
end
def Aj (X:Cx)(id:String)(r:V->List V->Hp->VK->Prop):Prop:=
 ∀(pins:Tg) (s:Wc) (Y:St) (H:Hp) (x:V) (xs:List V) (v:Wb) (us:Tq) (Q:VK),Inv X pins Y H s->RelV x v->Vals xs us->r x xs H Q->
  We (Wh X.prog X.w) X.A (call (.builtin id) (v::us)) (EP X pins Y Q) X.xe s
theorem Vals.one:∀ {x:V}{us:Tq},Vals [x] us->∃u,us=[u]/\RelV x u:=by
 intro x us h;cases h with
 | cons r t=>cases t;exact⟨_,rfl,r⟩
theorem Vals.zero:∀ {us:Tq},Vals [] us->us=[]
 | _,.nil=>rfl
theorem Vals.dropLast {xs:List V}(h:Vals xs us):Vals xs.dropLast us.dropLast:=by
 induction h with
 | nil=>exact .nil
 | cons r t ih=>
  cases t with
  | nil=>exact .nil
  | cons q t'=>exact .cons r ih
theorem Vals.reverse {xs:List V}(h:Vals xs us):Vals xs.reverse us.reverse:=by
 induction h with
 | nil=>exact .nil
 | cons r t ih=>rw[Ot,Ot];exact Vals.append ih (.cons r .nil)
theorem znc (l:List M):l.eraseIdx (l.length-1)=l.dropLast:=by
 induction l with
 | nil=>rfl
 | cons a r ih=>
  cases r with
  | nil=>rfl
  | cons b r=>
   have e:(a::b::r).length-1=((b::r).length-1)+1:=by
    have h1:(a::b::r).length=r.length+2:=rfl;have h2:(b::r).length=r.length+1:=rfl;lia
   rw[e,List.eraseIdx_cons_succ,ih]
   all_goals rfl
section
variable {X:Cx}{pins:Tg}{Y:St}{H:Hp}{s:Wc}{l b:Addr}{xs ys zs:List V}
theorem Inv.qt {its its':Tq}{n:Nat}{f:Array Wb->Array Wb}{t':Nat}(I:Inv X pins Y H s)(hH:H l=some (.lst xs))
  (e:s.heap.get? l=some { cls:=.type "list",data:=.seq its.toArray n }) (hf:f its.toArray=its'.toArray) (hv:Vals ys its') (hz:ys.length<=Wf) :
  Inv X pins Y (upd H l (.lst ys)) { s with heap:=s.heap.update l (Og f),toks:=t' }:=by
 have q:=PySem.IsL.update e f;rw[hf]at q;refine I.write (x:=l) (e:=l) (by rw[hH];exact trivial) (.inl rfl) (λb' u hb hu=>(Yi s.heap (Og f) (QD hb)).trans hu) ⟨_,q⟩ ?_;exact⟨hz,its',_,hv,q⟩
theorem Inv.yj {t':Nat}(I:Inv X pins Y H s)(hv:Vals ys its)(hz:ys.length<=Wf) :
  Inv X pins Y (upd H s.heap.objs.size (.lst ys)) { s with heap:=s.heap.push { cls:=.type "list",data:=.seq its.toArray },toks:=t' }:=
 I.laid (λ_ _ q=>Xe _ q) (Xj _) ⟨hz,its,0,hv,Xx _ rfl⟩
theorem Inv.fresh (I:Inv X pins Y H s):H s.heap.objs.size=none:=I.hok.fresh (Xj _)
theorem Inv.oE (I:Inv X pins Y H s)(hH:H l=some (.lst xs)):xs.length<=Wf/\∃(its:Tq)(n:Nat),Vals xs its/\xs.length=its.length/\s.heap.get? l=some { cls:=.type "list",data:=.seq its.toArray n }:=by
 obtain⟨z,its,n,r,e⟩:=I.hok l _ hH;exact⟨z,its,n,r,r.length,e⟩
theorem JQ (h:n<=Wf):PN n=false:=by
 unfold PN;exact Qc (by lia)
end
section
variable {X:Cx}
def JR:V->List V->Hp->VK->Prop:=λx vs H Q=>∃l xs y,x=.ref l/\vs=[y]/\H l=some (.lst xs)/\xs.length<Wf/\Q .non (upd H l (.lst (xs++[y])))
theorem Ei:Aj X "list.append" JR:=by
 intro pins s Y H x vs v us Q I rx rv h;obtain⟨l,xs,y,rfl,rfl,hH,hz,q⟩:=h;cases rx;obtain⟨u,rfl,ru⟩:=rv.one;obtain⟨z,its,n,r,hl,e⟩:=I.oE hH;refine call_meets F.slot_list_append ⟨_,e,rfl⟩ F.entry_list_append (F.args_list_append_2 _ _) (PySem.list_append l its.toArray n u (by rw[Xo];lia)) ⟨e,?_⟩;refine⟨.non,_,I.qt (its':=its++[u]) hH e (by simp) (r.append (.cons ru .nil)) ?_,rfl,q⟩;rw[Xr,QV];lia
def ztL:V->List V->Hp->VK->Prop:=λx vs H Q=>∃l b xs zs,x=.ref l/\vs=[.ref b]/\H l=some (.lst xs)/\H b=some (.lst zs)/\xs.length+zs.length<=Wf/\Q .non (upd H l (.lst (xs++zs)))
theorem zoj:Aj X "list.extend" ztL:=by
 intro pins s Y H x vs v us Q I rx rv h;obtain⟨l,b,xs,zs,rfl,rfl,hH,hB,hz,q⟩:=h;cases rx;obtain⟨u,rfl,ru⟩:=rv.one;cases ru;obtain⟨z,its,n,r,hl,e⟩:=I.oE hH;obtain⟨z2,its2,n2,r2,hl2,e2⟩:=I.oE hB;have hsz:its.toArray.size+its2.toArray.size<=Wf:=by rw[Xo,Xo];lia
 have oF:¬ (!its.toArray.isEmpty&&PN (its.toArray.size+its2.toArray.size))=true:=by
  rw[JQ hsz,Bool.and_false];exact Xu
 refine call_meets F.slot_list_extend ⟨_,e,rfl⟩ F.entry_list_extend (F.args_list_extend_2 _ _)
  (AutoSeq1.list_extend_list_list_0 l its.toArray n b its2.toArray n2 oF (by rw[Xo];lia) (by lia)) ⟨e,e2,?_⟩
 refine⟨.non,_,I.qt (its':=its++its2) hH e (by simp) (r.append r2) ?_,rfl,q⟩;rw[Xr];lia
def Ej:V->List V->Hp->VK->Prop:=λx vs H Q=>∃l xs y,x=.ref l/\vs=[]/\H l=some (.lst xs)/\xs[xs.length-1]? = some y/\Q y (upd H l (.lst xs.dropLast))
theorem zvZ:Aj X "list.pop" Ej:=by
 intro pins s Y H x vs v us Q I rx rv h;obtain⟨l,xs,y,rfl,rfl,hH,hy,q⟩:=h;cases rx;have hus:=rv.zero;subst hus;obtain⟨z,its,n,r,hl,e⟩:=I.oE hH;obtain⟨u,hu,ru⟩:=r.get hy;have hy':its.toArray[its.toArray.size-1]? = some u:=by
  show its.toArray[its.length-1]? = some u;rw[<- Array.getElem?_toList,<- hl];exact hu
 refine call_meets F.slot_list_pop ⟨_,e,rfl⟩ F.entry_list_pop (F.args_list_pop_1 _) (MeetsSeq.list_pop_last l its.toArray n u hy' (by rw[Xo];lia)) ⟨e,?_⟩;refine⟨y,_,I.qt (its':=its.dropLast) hH e ?_ r.dropLast ?_,ru,q⟩
 .show its.toArray.eraseIdxIfInBounds (its.toArray.size-1)=its.dropLast.toArray;rw[Xo,List.eraseIdxIfInBounds_toArray,znc]
 .rw[List.length_dropLast];lia
end
section
variable {κ:Type} [DecidableEq κ]
def bL (kvs:List (κ×V))(k:κ):Option V:=(kvs.find? λkv=>decide (kv.1=k)).map (·.2)
def putK (kvs:List (κ×V))(k:κ)(v:V):List (κ×V):=
 if (kvs.any λkv=>decide (kv.1=k))=true then kvs.map (λkv=>if kv.1=k then(kv.1,v) else kv) else kvs++[(k,v)]
theorem Ek {p:κ×V}{r:List (κ×V)}{k:κ}(e:p.1=k):bL (p::r) k=some p.2:=by simp[bL,Yq,e]
theorem El {p:κ×V}{r:List (κ×V)}{k:κ}(e:¬ p.1=k):bL (p::r) k=bL r k:=by simp[bL,Yq,e]
theorem JT (k:κ):∀kvs:List (κ×V),(kvs.any λkv=>decide (kv.1=k))=(bL kvs k).isSome
 | []=>rfl
 | p::r=>by
  rw[List.any_cons];by_cases e:p.1=k
  .simp only[Ek e,Qd e,Bool.true_or,Option.isSome_some]
  .rw[El e,Qc e,Bool.false_or];exact JT k r
theorem Al (kvs:List (κ×V))(k:κ)(v:V):(putK kvs k v).length<=kvs.length+1:=by
 unfold putK;split
 .rw[Xb];lia
 .rw[Xr,Xy,QR];lia
theorem dj.zok {u:Tv}(r:dj o u):o.isSome=u.isSome:=by
 cases o with
 | none=>cases u with
  | none=>rfl
  | some _=>exact(show False from r).elim
 | some _=>cases u with
  | none=>exact(show False from r).elim
  | some _=>rfl
theorem dj.getD {u:Tv}{d:V}{d':Wb}(r:dj o u)(rd:RelV d d'):RelV (o.getD d) (u.getD d'):=by
 cases o with
 | none=>cases u with
  | none=>exact rd
  | some _=>exact(show False from r).elim
 | some _=>cases u with
  | none=>exact(show False from r).elim
  | some _=>exact r
theorem KV.val {kvs:List (κ×V)}{vs:List (κ×Wb)}(r:KV kvs vs)(k:κ):dj (bL kvs k) (valueAt vs k):=by
 unfold KV at r;induction r with
 | nil=>exact QX
 | @cons p q ps qs h t ih=>
  obtain⟨h1,h2⟩:=h;by_cases e:p.1=k
  .have e':q.1=k:=h1.symm.trans e;have b:valueAt (q::qs) k=some q.2:=by simp[valueAt,Yq,e']
   rw[Ek e,b];exact h2
  .have e':¬ q.1=k:=λz=>e (h1.trans z);have b:valueAt (q::qs) k=valueAt qs k:=by simp[valueAt,Yq,e']
   rw[El e,b];exact ih
theorem KV.any {kvs:List (κ×V)}{vs:List (κ×Wb)}(r:KV kvs vs)(k:κ):(kvs.any λkv=>decide (kv.1=k))=vs.any λkv=>decide (kv.1=k):=by
 unfold KV at r;induction r with
 | nil=>rfl
 | cons h t ih=>rw[List.any_cons,List.any_cons,ih,h.1]
theorem KV.repl {kvs:List (κ×V)}{vs:List (κ×Wb)}(r:KV kvs vs)(k:κ)(ry:RelV y u) :
  KV (kvs.map λkv=>if kv.1=k then(kv.1,y) else kv) (vs.map λkv=>if kv.1=k then(kv.1,u) else kv):=by
 unfold KV at r ⊢;induction r with
 | nil=>exact .nil
 | @cons p q ps qs h t ih=>
  rw[Xq,Xq];refine .cons ?_ ih;obtain⟨h1,h2⟩:=h;by_cases e:p.1=k
  .rw[Qf e,Qf (h1.symm.trans e)];exact⟨h1,ry⟩
  .rw[Qe e,Qe (λz=>e (h1.trans z))];exact⟨h1,h2⟩
theorem KV.put {kvs:List (κ×V)}{vs:List (κ×Wb)}(r:KV kvs vs)(k:κ)(ry:RelV y u):KV (putK kvs k y) (stored vs k u):=by
 unfold putK stored;rw[r.any k];by_cases e:(vs.any λkv=>decide (kv.1=k))=true
 .rw[Qf e,Qf e];exact r.repl k ry
 .rw[Qe e,Qe e];exact Paired.snoc r ⟨rfl,ry⟩
theorem KV.length {kvs:List (κ×V)}{vs:List (κ×Wb)}(r:KV kvs vs):kvs.length=vs.length:=Paired.length r
end
theorem Am {k:Key}(r:RelV (kV k) u):(gK P w).is k u=true:=by
 cases k with
 | inl i=>obtain⟨t,e⟩:=(show ∃t,u=Ov i t from r);subst e;exact Ir P w i t
 | inr x=>obtain⟨t,e⟩:=(show ∃t,u=Value.str x t from r);subst e;exact Iu P w x t
theorem JV:∀ {ks:List Key}{us:Tq},Vals (ks.map kV) us->ItemsAre (gK P w) ks us
 | [],_,r=>by rw[YE]at r;cases r;exact .nil
 | k::ks,_,r=>by
  rw[Xq]at r;cases r with
  | cons h t=>exact .cons (Am h) (JV t)
abbrev KT (H:Hp):List (List Key×V)->List (List Key×Addr×Wb)->Prop:=Paired λp q=>p.1=q.1/\H q.2.1=some (.tup (p.1.map kV))/\RelV p.2 q.2.2
theorem KT.val (r:KT H kvs xs)(k:List Key):dj (bL kvs k) ((atKey xs k).map (·.2)):=by
 induction r with
 | nil=>exact QX
 | @cons p q ps qs h t ih=>
  obtain⟨h1,_,h2⟩:=h;by_cases e:p.1=k
  .have e':q.1=k:=h1.symm.trans e;have b:atKey (q::qs) k=some q.2:=by simp[atKey,Yq,e']
   rw[Ek e,b];exact h2
  .have e':¬ q.1=k:=λz=>e (h1.trans z);have b:atKey (q::qs) k=atKey qs k:=by simp[atKey,Yq,e']
   rw[El e,b];exact ih
theorem KT.repl (r:KT H kvs xs)(k:List Key)(ry:RelV y u) :
  KT H (kvs.map λkv=>if kv.1=k then(kv.1,y) else kv) (xs.map (putAt k u)):=by
 induction r with
 | nil=>exact .nil
 | @cons p q ps qs h t ih=>
  rw[Xq,Xq];refine .cons ?_ ih;obtain⟨h1,h2,h3⟩:=h;unfold putAt;by_cases e:p.1=k
  .rw[Qf e,Qf (h1.symm.trans e)];exact⟨h1,h2,ry⟩
  .rw[Qe e,Qe (λz=>e (h1.trans z))];exact⟨h1,h2,h3⟩
theorem KT.put (r:KT H kvs xs)(k:List Key){b:Addr}(hb:H b=some (.tup (k.map kV)))(ry:RelV y u) :
  KT H (putK kvs k y) (storedH xs k b u):=by
 have e:(kvs.any λkv=>decide (kv.1=k))=(atKey xs k).isSome:=by
  rw[JT,(r.val k).zok,Option.isSome_map]
 unfold putK storedH;rw[e];by_cases q:(atKey xs k).isSome=true
 .rw[Qf q,Qf q];exact r.repl k ry
 .rw[Qe q,Qe q];exact Paired.snoc r ⟨rfl,hb,ry⟩
theorem KT.keeps (r:KT H kvs xs)(ht:∀b ys,H b=some (.tup ys)->H' b=some (.tup ys)):KT H' kvs xs:=
 Paired.xg r λ_ _ z=>⟨z.1,ht _ _ z.2.1,z.2.2⟩
section
variable {P:Wg}{w:Wj}{H:Hp}{h:Heap}{a:Addr}
theorem JW {u:HO}(ok:cY P w H h)(e:Rd H a u):eE P w H h a u:=e.ok ok
theorem su {kvs:List (Key×V)}(ok:cY P w H h)(e:Rd H a (.dK kvs)):kvs.length<=Wf/\(a == Wz)=false/\∃vs,KV kvs vs/\h.DictOf (gK P w) a vs:=
 show eE P w H h a (.dK kvs) from JW ok e
theorem JX {kvs:List (Key×V)}(ok:cY P w H h)(e:H a=some (.dK kvs)):kvs.length<=Wf/\(a == Wz)=false/\∃vs,KV kvs vs/\h.DictOf (gK P w) a vs:=su ok (.inl e)
theorem yo {ks:List Key}(ok:cY P w H h)(e:H a=some (.tup (ks.map kV))):(tupleKind (gK P w)).is h ks a:=by
 obtain⟨_,its,r,o,h1,h2,⟨n,h3⟩,_⟩:=(show eE P w H h a (.tup (ks.map kV)) from ok a _ e);exact⟨o,its.toArray,n,h1,h2,h3,by simpa using JV r⟩
theorem vh (ok:cY P w H h)(e:Rd H a (.dT kvs)):kvs.length<=Wf/\(a == Wz)=false/\
  ∃xs,KT H kvs xs/\h.DictOfH (tupleKind (gK P w)) a xs:=by
 obtain⟨z,y,xs,r,o,es,ep,h1,h2,h3,h4,h5⟩:=(show eE P w H h a (.dT kvs) from JW ok e);refine⟨z,y,xs,r,o,es,ep,h1,h2,h3,h4,λx hx=>?_,h5⟩;have all:∀ {l:List (List Key×V)} {m:List (List Key×Addr×Wb)},KT H l m->∀x∈m,(tupleKind (gK P w)).is h x.1 x.2.1:=by
  intro l m q;induction q with
  | nil=>intro x hx;exact nomatch hx
  | @cons p q ps qs hq t ih=>
   intro x hx;rcases Xn.mp hx with e | hx
   .subst e;exact yo ok (by rw[<- hq.1];exact hq.2.1)
   .exact ih x hx
 exact all r x hx
theorem J0 (ok:cY P w H h)(e:H a=some (.dT kvs)):kvs.length<=Wf/\(a == Wz)=false/\
  ∃xs,KT H kvs xs/\h.DictOfH (tupleKind (gK P w)) a xs:=vh ok (.inl e)
end
def mU (H:Hp)(a:Addr)(y:V)(r:Option V):Prop:=
 (∃kvs k,Rd H a (.dK kvs)/\y=kV k/\r=bL kvs k)\/∃kvs k b,Rd H a (.dT kvs)/\y=.ref b/\H b=some (.tup (k.map kV))/\r=bL kvs k
def oG (H:Hp)(a:Addr)(y v:V)(H':Hp):Prop:=
 (∃kvs k,H a=some (.dK kvs)/\y=kV k/\kvs.length<Wf/\H'=upd H a (.dK (putK kvs k v)))\/
 ∃kvs k b,H a=some (.dT kvs)/\y=.ref b/\H b=some (.tup (k.map kV))/\kvs.length<Wf/\H'=upd H a (.dT (putK kvs k v))
theorem oG.k {kvs:List (Key×V)}{k:Key}{v:V}(e:H a=some (.dK kvs))(hl:kvs.length<Wf):oG H a (kV k) v (upd H a (.dK (putK kvs k v))):=.inl ⟨kvs,k,e,rfl,hl,rfl⟩
section
variable {X:Cx}{pins:Tg}{Y:St}{H:Hp}{s:Wc}{a:Addr}{y v:V}{u r:Wb}{o:Option V}{A:Wl}{E:Ti}
theorem Inv.big (I:Inv X pins Y H s):Wz<s.heap.objs.size:=by
 have h:Wq<s.heap.objs.size:=(I.mod.glob.keeps I.bk).lt;exact Nat.lt_trans (by decide) h
theorem zol (hu:A.units+1<WG)(I:Inv X pins Y H s)(g:mU H a y (some v))(ry:RelV y u)(h:∀w' s',Inv X pins Y H s'->RelV v w'->Q w' s') :
  We (Wh X.prog X.w) A (getItem (.ref a) u) Q E s:=by
 rcases g with ⟨kvs,k,e,ey,l⟩ | ⟨kvs,k,b,e,ey,eb,l⟩
 .subst ey;obtain⟨z,hd,vs,rel,dd⟩:=su I.hok e;obtain⟨w',hw,lg⟩:=dj.some_of (v:=v) (o:=valueAt vs k) (by rw[l];exact rel.val k);exact wpAny_getItem_of (Am ry) dd.mapOf hw (h w' _ (I.tok _) lg)
 .subst ey;cases (show u=Qm b from ry);obtain⟨z,hd,xs,rel,dd⟩:=vh I.hok e;obtain⟨w',hw,lg⟩:=dj.some_of (v:=v) (o:=(atKey xs k).map (·.2)) (by rw[l];exact rel.val k);obtain⟨p,hp,hp2⟩:=Option.map_eq_some_iff.mp hw;refine wpAny_getItem_heap (tupleKind_room_in1 hu) (yo I.hok eb) dd hp ?_;rw[hp2];exact h w' _ (I.tok _) lg
theorem Ao {h':Heap}{t':Nat}{ob:HO}(I:Inv X pins Y H s)(mu:xj (H a))(hs:XV a s.heap h')(he:∃q,h'.get? a=some q)(new:eE X.prog X.w (upd H a ob) h' a ob) :
  Inv X pins Y (upd H a ob) { s with heap:=h',toks:=t' }:=
 I.write (x:=a) (e:=a) mu (.inl rfl) (λb q hb z=>(hs.2 b hb).trans z) he new
theorem Em {h':Heap}{kvs:List (Key×V)}{vs:List (Key×Wb)}(z:kvs.length<=Wf)(hd:(a == Wz)=false)(rel:KV kvs vs)(dd:h'.DictOf (gK P w) a vs) :
  eE P w H' h' a (.dK kvs):=⟨z,hd,vs,rel,dd⟩
theorem zon {Q:Unit->Wc->Prop}(hu:A.units+1<WG)(I:Inv X pins Y H s)(g:oG H a y v H')(ry:RelV y u)(rv:RelV v r)(h:∀s',Inv X pins Y H' s'->Q () s') :
  We (Wh X.prog X.w) A (setItem (.ref a) u r) Q E s:=by
 rcases g with ⟨kvs,k,e,ey,l,eH⟩ | ⟨kvs,k,b,e,ey,eb,l,eH⟩
 .subst ey eH;obtain⟨z,hd,vs,rel,dd⟩:=JX I.hok e;have hz:vs.length<=Wf:=by rw[<- rel.length];exact z
  have hl:(putK kvs k v).length<=Wf:=by have:=Al kvs k v;lia
  refine wpAny_setItem_pairs (hsz:=hz) (Am ry) dd λh' oH hs=>h _ ?_;have he:∃q,h'.get? a=some q:=let ⟨q,_,_,hq,_⟩:=oH;⟨q,hq⟩;exact Ao I (by rw[e];exact QX) hs he (Em hl hd (rel.put k rv) oH)
 .subst ey eH;cases (show u=Qm b from ry);obtain⟨z,hd,xs,rel,dd⟩:=J0 I.hok e;have hz:xs.length<=Wf:=by rw[<- Paired.length rel];exact z
  have hl:(putK kvs k v).length<=Wf:=by have:=Al kvs k v;lia
  refine wpAny_setItem_heap (hsz:=hz) (tupleKind_room_in1 hu) (yo I.hok eb) dd λh' oH hs=>h _ ?_;obtain⟨q,es,ep,hq,h2,h3,h4,_,h5⟩:=oH;refine Ao I (by rw[e];exact QX) hs ⟨q,hq⟩ ⟨hl,hd,_,(rel.put k eb rv).keeps λc ys ec=>?_,q,es,ep,hq,h2,h3,h4,h5⟩;rw[aY (Iz ec e (λz=>nomatch z))];exact ec
end
section
variable {X:Cx}{pins:Tg}{Y:St}{H:Hp}{s:Wc}{a:Addr}{kvs:List (Key×V)}{k:Key}{u:Wb}{A:Wl}{E:Ti}
theorem zxM (I:Inv X pins Y H s)(e:Rd H a (.dK kvs))(h:∀t s',Inv X pins Y H s'->Q (.int kvs.length t) s'):We (Wh X.prog X.w) A (call (.builtin "len") [.ref a]) Q E s:=by
 obtain⟨z,hd,vs,rel,dd⟩:=su I.hok e;refine call_len_dict hd dd (by rw[<- rel.length];rw[Wi]at z;lia) ?_;rw[<- rel.length];exact h _ _ (I.tok _)
end
def uc (i:Expr):Prop:=∀ov iv,subscripted i false ov iv=operate [ov,iv] (getItem ov iv)
theorem ztM {prog:Wg}{w:Wj}{A:Wl}{E:Ti}{s:Wc}{env:Env}{value slice:Expr}{pos:Pos}{T id:String}{Q:Ti}
  (hl:typeLookup (.type T) "__getitem__" = pure (some (.builtin id))) (hs:uc slice)
  (h:We (Wh prog w) A (Ww value env) (λo s₁=>We (Wh prog w) A (Ww slice env) (λi s₂=>s₂.TypeIs o T/\We (Wh prog w) A (getItem o i) Q E s₂) E s₁) E s) :
  We (Wh prog w) A (Ww (.Subscript value slice pos) env) Q E s:=by
 refine Subscript_ (WC h (λo s₁ h₁=>WC h₁ (λi s₂ h₂=>?_) λ_ _ x=>x) λ_ _ x=>x);obtain⟨hT,h₂⟩:=h₂;unfold subscriptTail;refine Wa ?_;rw[getitemInPython_of_ne hT.not_modules];refine Wa (wpAny_specialOf hT hl ?_);have fin:We (Wh prog w) A (subscripted slice false o i) (λr s₃=>We (Wh prog w) A (letTemporaryGo value o r >>= λ_=>pure r) Q E s₃) E s₂:=by
  rw[hs o i];exact wpAny_operating (WC h₂ (λr s₃ h₃=>Wa (wpAny_letTemporaryGo (Wd h₃))) λ_ _ x=>x)
 first
  | exact Wd (Wa fin)
  | exact Wa (Wd (Wa fin))
  | exact Wa fin
theorem zkF {X:Cx}(I:Inv X pins Y H s)(g:mU H a y o):s.TypeIs (.ref a) "dict":=by
 rcases g with ⟨kvs,k,e,_,_⟩ | ⟨kvs,k,b,e,_,_,_⟩
 .obtain⟨_,_,vs,_,dd⟩:=su I.hok e;exact dd.typeIs
 .obtain⟨_,_,xs,_,dd⟩:=vh I.hok e;exact dd.typeIs
def zxN (td ty:TE):TE:=λY H Q=>td Y H λx H1=>ty Y H1 λy H2=>∃a v,x=.ref a/\mU H2 a y (some v)/\Q v H2
def zxO (td ty tv:TE):TS:=λD Y H=>tv Y H λv H1=>td Y H1 λx H2=>ty Y H2 λy H3=>∃a H4,x=.ref a/\oG H3 a y v H4/\D.nx Y H4
section
variable {X:Cx}{o i e value:Expr}{pos pos' tpos:Pos}{td ty tv:TE}
theorem ztN (hu:X.A.units+1<WG)(ho:PE X o td)(hi:PE X i ty)(hs:uc i):PE X (.Subscript o i pos) (zxN td ty):=by
 intro pins s Y H Q I h;refine ztM PySem.F.slot_dict_getitem.lookup hs (aQ (ho pins s Y H _ I h) λu s1 ⟨x,H1,I1,rx,q1⟩=>aQ (hi pins s1 Y H1 _ I1 q1) λiv s2 ⟨y,H2,I2,ry,a,v,ex,g,q2⟩=>?_);subst ex;obtain rfl:u=Qm a:=rx;exact⟨zkF I2 g,zol hu I2 g ry λw' s3 I3 lg=>⟨v,H2,I3,lg,q2⟩⟩
theorem ztO (hu:X.A.units+1<WG)(ho:PE X o td)(hi:PE X i ty)(hv:PE X value tv)(hs:Wx value (some (.Subscript o i pos')) pos.line X.env=pure false) :
  PS X (.Assign [.Subscript o i pos'] value pos) (zxO td ty tv):=by
 intro pins s Y H D I h;refine wpAny_Assign_Subscript (aQ (hv pins s Y H _ I h) λr s1 ⟨v,H1,I1,rv,q1⟩=>aQ (ho pins s1 Y H1 _ I1 q1) λu s2 ⟨x,H2,I2,rx,q2⟩=>aQ (hi pins s2 Y H2 _ I2 q2) λiv s3 ⟨y,H3,I3,ry,a,H4,ex,g,q3⟩=>?_) hs;subst ex;obtain rfl:u=Qm a:=rx;exact zon hu I3 g ry rv λs4 I4=>⟨Y,H4,I4,q3⟩
end
theorem zre (h:Heap)(hb:Wz<h.objs.size):eE P w H (h.push { cls:=.type "dict",data:=.dict #[] }) h.objs.size (.dK []):=
 ⟨XM _,beq_eq_false_iff_ne.mpr (QD (XB hb)),[],.nil,Heap.DictOf.new h⟩
theorem zrf (h:Heap)(hb:Wz<h.objs.size):eE P w H (h.push { cls:=.type "dict",data:=.dict #[] }) h.objs.size (.dT []):=
 ⟨XM _,beq_eq_false_iff_ne.mpr (QD (XB hb)),[],.nil,_,#[],0,Xx _ rfl,⟨rfl,rfl,rfl⟩,rfl,rfl,QG⟩
def zwd:TE:=λ_ H Q=>∀p,H p=none->Q (.ref p) (upd H p (.dK []))
def zwe:TE:=λ_ H Q=>∀p,H p=none->Q (.ref p) (upd H p (.dT []))
section
variable {X:Cx}{pos:Pos}
theorem zrg:PE X (.Dict [] [] pos) zwd:=λpins s Y H Q I h=>
 wpAny_Dict_empty ⟨.ref s.heap.objs.size,_,I.laid (a:=s.heap.objs.size) (o:=.dK []) (t':=s.toks) (λ_ _ q=>Xe _ q) (Xj _) (zre s.heap I.big),rfl,h _ (I.hok.fresh (Xj _))⟩
theorem J1:PE X (.Dict [] [] pos) zwe:=λpins s Y H Q I h=>
 wpAny_Dict_empty ⟨.ref s.heap.objs.size,_,I.laid (a:=s.heap.objs.size) (o:=.dT []) (t':=s.toks) (λ_ _ q=>Xe _ q) (Xj _) (zrf s.heap I.big),rfl,h _ (I.hok.fresh (Xj _))⟩
end
structure M1 (X:Cx)(o:Expr)(m:Str)(apos:Pos)(e:Expr)(cpos:Pos):Prop where
 base:Wu o m X.env (Ww o X.env)=Ww o X.env
 few:((WK cpos (Wo [e] X.env)).all (λx=>!x.1)&&(WT cpos (WE [] X.env)).all (λx=>x.1.isSome)
  && decide (([e]:List Expr).length+([]:List W0).length+(if ([]:List W0).isEmpty then 0 else 1)<30))=true
 line:(apos.endLine == cpos.line)=true
 trees:WK cpos (Wo [e] X.env)=[(false,Ww e X.env)]
structure M2 (X:Cx)(o:Expr)(m:Str)(apos:Pos)(e f:Expr)(cpos:Pos):Prop where
 base:Wu o m X.env (Ww o X.env)=Ww o X.env
 few:((WK cpos (Wo [e,f] X.env)).all (λx=>!x.1)&&(WT cpos (WE [] X.env)).all (λx=>x.1.isSome)
  && decide (([e,f]:List Expr).length+([]:List W0).length+(if ([]:List W0).isEmpty then 0 else 1)<30))=true
 line:(apos.endLine == cpos.line)=true
 trees:WK cpos (Wo [e,f] X.env)=[(false,Ww e X.env),(false,Ww f X.env)]
def Aq (H:Hp)(a:Addr):Prop:=(∃kvs,Rd H a (.dK kvs))\/∃kvs,Rd H a (.dT kvs)
theorem En {X:Cx}(I:Inv X pins Y H s)(d:Aq H a) :
  s.TypeIs (.ref a) "dict"/\(∀b,Qm a=.ref b->∃ob,s.heap.get? b=some ob/\ob.dict=none)/\(a == Wz)=false:=by
 rcases d with ⟨kvs,e⟩ | ⟨kvs,e⟩
 .obtain⟨_,hd,vs,_,dd⟩:=su I.hok e;refine⟨dd.typeIs,λb q=>?_,hd⟩;cases q;obtain⟨ob,_,_,h1,h2,_⟩:=dd;exact⟨ob,h1,h2.2.1⟩
 .obtain⟨_,hd,xs,_,dd⟩:=vh I.hok e;refine⟨dd.typeIs,λb q=>?_,hd⟩;cases q;obtain⟨ob,_,_,h1,h2,_⟩:=dd;exact⟨ob,h1,h2.2.1⟩
section
variable {X:Cx}{pins:Tg}{Y:St}{H:Hp}{s:Wc}{a:Addr}{y d:V}{u r:Wb}{o:Option V}{A:Wl}{E:Ti}
theorem zwf (hu:A.units+1<WG)(I:Inv X pins Y H s)(g:mU H a y o)(ry:RelV y u)(rd:RelV d r)(h:∀w' s',Inv X pins Y H s'->RelV (o.getD d) w'->Q w' s') :
  We (Wh X.prog X.w) A (call (.builtin "dict.get") [.ref a,u,r]) Q E s:=by
 rcases g with ⟨kvs,k,e,ey,l⟩ | ⟨kvs,k,b,e,ey,eb,l⟩
 .subst ey;obtain⟨z,hd,vs,rel,dd⟩:=su I.hok e;refine call_meetsIn PySem.F.slot_dict_get dd.typeIs PySem.F.entry_dict_get (PySem.F.args_dict_get_3 _ _ _) (meets_dict_get_default (gK X.prog X.w) a (Am ry) hd r) ⟨_,dd.mapOf,h _ _ (I.tok _) ?_⟩;rw[l];exact(rel.val k).getD rd
 .subst ey;cases (show u=Qm b from ry);obtain⟨z,hd,xs,rel,dd⟩:=vh I.hok e;refine call_meetsIn PySem.F.slot_dict_get dd.typeIs PySem.F.entry_dict_get (PySem.F.args_dict_get_3 _ _ _) (meetsH_dict_get_default (tupleKind (gK X.prog X.w)) a b hd r) ⟨tupleKind_room_in1 hu,k,xs,yo I.hok eb,dd,h _ _ (I.tok _) ?_⟩;rw[l];exact(rel.val k).getD rd
end
def zwg (td ty tx:TE):TE:=λY H Q=>td Y H λx H1=>∃a,x=.ref a/\Aq H1 a/\ty Y H1 λy H2=>tx Y H2 λz H3=>∃o,mU H3 a y o/\Q (o.getD z) H3
section
variable {X:Cx}{o e f:Expr}{apos cpos:Pos}{td ty tx:TE}
theorem zrh (hu:X.A.units+1<WG)(ho:PE X o td)(he:PE X e ty)(hf:PE X f tx)(m:M2 X o "get" apos e f cpos):PE X (.Call (.Attribute o "get" apos) [e,f] [] cpos) (zwg td ty tx):=by
 intro pins s Y H Q I h;refine wpAny_Call_method m.base m.few m.line Oa PySem.F.slot_dict_get PySem.F.type_dict_get (aQ (ho pins s Y H _ I h) λu s1 ⟨x,H1,I1,rx,a,ex,d,q1⟩=>?_);subst ex;obtain rfl:u=Qm a:=rx;obtain⟨t1,t2,_⟩:=En I1 d;refine⟨t1,t2,?_⟩;rw[m.trees];refine QB rfl (QF (Qu (aQ (he pins s1 Y H1 _ I1 q1) λiv s2 ⟨y,H2,I2,ry,q2⟩=>
  Qu (aQ (hf pins s2 Y H2 _ I2 q2) λfv s3 ⟨z,H3,I3,rz,ov,g,q3⟩=>QC ?_))))
 exact zwf hu I3 g ry rz λw' s4 I4 lg=>⟨_,H3,I4,lg,q3⟩
end
end L2
namespace Att
open PySem PySem.W PySem.Calls PyProof.Rows
theorem zgH {P:Params}{h:Heap}:∀(ns:Tp)(vs:Tq),WellAll P h vs (ns.map WData.int)->W1 vs ns:=by
 intro ns;induction ns with
 | nil=>
  intro vs w;rw[YE]at w;cases w;exact .nil
 | cons n ns ih=>
  intro vs w;rw[Xq]at w;cases w with
  | cons a b=>
   cases a;exact .cons _ _ (ih _ b)
theorem zop {l:OpenLaw}{n:Nat}(hn:l.most=some n){P:Params}{h:Heap}{args:List WData}{vals:Tq}
  (hpre:l.row.toRowW.claim.pre args=true) (hwl:WellAll P h vals args) :
  ∃a vs ns,vals=[Qm a]/\args=[WData.list (ns.map WData.int)]/\h.get? a=some { cls:=.type "list",data:=.seq vs.toArray }/\W1 vs ns/\ns.length<=n:=by
 have hsh:WShape.hasAll [] args [.list .int]=true:=(pre_splitW hpre).1;have hc:l.pre.holds [] { args:=args }=true:=(pre_splitW hpre).2;obtain⟨d,r,rfl,h1,h2⟩:=hasAllW_cons hsh;obtain rfl:=hasAllW_nil h2;obtain⟨xs,rfl,h3⟩:=hasW_list h1;obtain⟨ns,rfl⟩:=items_int h3;have hlen:ns.length<=n:=by
  unfold OpenLaw.pre at hc;have h4:(WTm.not (.lt (.lit (.int (n:Int))) (.len (.arg 0)))).holds [] { args:=[.list (ns.map .int)] }=true:=by
   have h4:=(holds_andW hc).1;rw[hn]at h4;exact h4
  have h5:=condW_of h4 (w_not (w_lt w_lit (w_len_list (w_arg rfl))));rw[Xb]at h5;refine Nat.le_of_not_lt λq=>?_;have q':(n:Int)<((ns.length:Nat):Int):=by lia
  first
   | (rw[Qd q']at h5;exact Qg h5 (by decide))
   | (simp at h5;lia)
 cases hwl with
 | cons w1 w2=>
  cases w2;cases w1 with
  | list ho hall=>exact⟨_,_,ns,rfl,rfl,ho,zgH ns _ hall,hlen⟩
theorem zoq (l:OpenLaw)(args:List WData):l.row.toRowW.claim.post args (.bool true) args=true:=
 postW_of (r:=l.row.toRowW) (X:=(true == true))
  (show WShape.has [] (.bool true) .bool=true by first | rfl | decide | simp[WShape.has,WShape.arms,WShape.armsAll])
  (show(WTm.eq .res (.lit (.bool true))).value [] { args:=args,res:=some (.bool true),after:=args }=some (.bool (true == true)) from w_eq_bool (w_res rfl) w_lit) rfl
theorem zkG {l:OpenLaw}{n:Nat}{q:Wg}{loose:Tn}{XP:(Tj)->Heap->Prop}{YP:Wj->Heap->Prop}{d:DefRec}
  (hn:l.most=some n) (hdf:d.params.defaults=[])
  (call:∀(w:Wj) (s₀ s₁:Wc) (mg mb:Tj) (fa:Addr) (o:Obj) (pm cd doc:Wb) (a:Addr) (vs:Tq) (ns:Tp),
   Ground q loose [] XP w s₀ mg mb s₁.heap->YP w s₁.heap->
   s₁.heap.get? fa=some o->o.data=.func (docDef d.name d.params d.body d.scope pm cd doc)->s₁.heap.CodeRec cd d.name->mg d.name=some (.ref fa)->
   s₁.heap.get? a=some { cls:=.type "list",data:=.seq vs.toArray }->W1 vs ns->ns.length<=n->s₁.gens = #[]->
   W4 (Wh l.prog w) callerA (.call (.ref fa) ⟨[.ref a],[]⟩) (λr s'=>r=.ok (.ret (.bool true))/\OldK s₁.heap s'.heap/\s'.os=s₁.os/\AllBare s'.gens) s₁) :
  WalkO q loose XP YP l.row.toRowW d [] (λf vs=>PySem.call f vs):=by
 intro w s₀ s₁ mg mb G Qq2 fa o pm cd doc dV kV ho hd hcd hD hmg hg args vals as hpre hlay hrd hwl hlo;obtain rfl:dV=.none:=Dflts.none hD hdf;obtain rfl:kV=.none:=Dflts.noKw hD;obtain⟨a,vs,ns,rfl,rfl,hobj,hints,hlen⟩:=zop hn hpre hwl;refine enter_call (WO (call w s₀ s₁ mg mb fa o pm cd doc a vs ns G Qq2 ho (fd_plain hd) hcd hmg hobj hints hlen hg) λr s' hq=>?_);obtain⟨rfl,h2,h3,h4⟩:=hq;exact⟨.inl ⟨.bool true,.bool true,[],rfl,λ_=>rfl,.bool true,zoq l _,λ_=>⟨List.Pairwise.nil,λ_ hm=>(nomatch hm)⟩⟩,h2,h3,h4⟩
end Att
namespace L2
open PySem PySem.Spec PyProof.Rows
variable {X:Cx}{x qual:Str}{st:Wn}{f:Addr}{N:Tn}{k:Nat}{A B:Prop}{H:Hp}{env:Env}{sup sc:WR}{s:Wc}
theorem J2:∀ {vs:Tq}{ns:Tp},W1 vs ns->Vals (ns.map V.int) vs
 | _,_,.nil=>.nil
 | _,_,.cons n t h=>.cons ⟨t,rfl⟩ (J2 h)
def Only (H:Hp):Prop:=∀b,H b=none\/∃o xs,H b=some (.aF o (.lst xs))
abbrev KOf {K:Xa}{h:Heap}(_:K.In h):Xa:=K
def mq (s:Wn):Arguments:=match s with
 | .FunctionDef _ a _ _ _ _ _ _ _ _=>a
 | _=>{ posonlyargs:=[],args:=[],vararg:=none,kwonlyargs:=[],kw_defaults:=[],kwarg:=none,defaults:=[] }
def ji (s:Wn):List Wn:=match s with
 | .FunctionDef _ _ b _ _ _ _ _ _ _=>b
 | _=>[]
def bf (s:Wn):WR:=match s with
 | .FunctionDef _ _ _ _ _ _ sc _ _ _=>sc
 | _=>{ kind:=.function,names:=[],isGenerator:=false,isCoroutine:=false }
abbrev aN:n8:=λ_ _ _ _ _ _=>False
abbrev E0:XK:=λ_ _ _=>False
theorem vm:qp aN X E0:=λ_ _ _ _ _ _ _ h=>h.elim
structure cj (K:Xa)(x qual:Str)(st:Wn)(f:Addr)(fd:Wk):Prop where
 ex:∃(oc:Wb) (od:Option Addr) (kV doc pm:Wb) (an:Option Addr) (cdv ct:Wb) (osl:Array (Tv)),
  fd=QZ x qual (mq st) (ji st) (bf st) .none kV doc pm an cdv ct/\K.lookup f=some ⟨oc,od,.func fd,osl⟩/\PySem.W.codeIn K cdv qual=true
 kp:YM K (.ref f)=true
section
variable {P:Wg}{w:Wj}{K:Xa}{mg:Tj}{base:Heap}
theorem cj.ok {x qual:Str}{st:Wn}{f:Addr}{fd:Wk}{N ps:Tn}{k:Nat}{sp:Sp}(F:cj K x qual st f fd)(S:cL N ps (bf st))(len:∀vs H Q E,sp vs H Q E->vs.length=ps.length)
  (hbody:∀(cdv:Wb) (A:Wl) (outer:List Env) (s:Wc) (H:Hp) (vs:List V) (Q:VK) (E:XK),bx k (A.deeper (Vc qual (bf st) s.heap.objs.size f cdv))->sp vs H Q E->
   ∃t,dH (fK aN P w K mg base N qual (bf st) f cdv A outer s H E).pN (ji st) t/\t { nx:=λ_ H'=>Q .non H',rt:=Q } (start N vs) H):aA P w K mg base aN (k+1) f fd ps sp:=by
 obtain⟨oc,od,kV,doc,pm,an,cdv,ct,osl,rfl,lk,hcd⟩:=F.ex;refine xY lk hcd S len λA outer s H vs Q E hr hsp=>?_;obtain⟨t,h,q⟩:=hbody cdv A outer s H vs Q E hr hsp;exact⟨t,h.pN,q⟩
theorem cj.binds {x qual:Str}{st:Wn}{f:Addr}{fd:Wk}{ps:Tn}(F:cj K x qual st f fd)
  (h:∀(kV doc pm:Wb) (an:Option Addr) (cdv ct:Wb) (us:Tq),us.length=ps.length->bindArgs (QZ x qual (mq st) (ji st) (bf st) .none kV doc pm an cdv ct) ⟨us,[]⟩=pure (ps.zip us)):Binds K fd ps []:=by
 obtain⟨oc,od,kV,doc,pm,an,cdv,ct,osl,rfl,lk,hcd⟩:=F.ex;exact .all (h kV doc pm an cdv ct)
theorem J3 {x qual:Str}{st:Wn}{f:Addr}{oc:Wb}{od an:Option Addr}{osl:Array (Tv)}{kV doc pm cdv ct:Wb}(l:K.lookup f=some ⟨oc,od,.func (QZ x qual (mq st) (ji st) (bf st) .none kV doc pm an cdv ct),osl⟩)
  (c:PySem.W.codeIn K cdv qual=true) (k:YM K (.ref f)=true):cj K x qual st f (QZ x qual (mq st) (ji st) (bf st) .none kV doc pm an cdv ct):=⟨⟨oc,od,kV,doc,pm,an,cdv,ct,osl,rfl,l,c⟩,k⟩
end
theorem yp (h:B):if false=true then A else B:=by
 rw[Qe Xu];exact h
theorem ud (h:A):if true=true then A else B:=by
 rw[Qf rfl];exact h
theorem bT {c:Prop} [Decidable c] (h1:c->A)(h2:¬ c->B):if c then A else B:=by
 by_cases h:c
 .rw[Qf h];exact h1 h
 .rw[Qe h];exact h2 h
def Same (H H':Hp):Prop:=∀b o,H b=some o->H' b=some o
theorem Same.refl (H:Hp):Same H H:=λ_ _ h=>h
theorem Same.trans {H1 H2:Hp}(a:Same H H1)(b:Same H1 H2):Same H H2:=λc o h=>b c o (a c o h)
theorem Same.free {H':Hp}(e:Same H H'){l:Addr}(h:H' l=Option.none):H l=Option.none:=by
 cases q:H l with
 | none=>rfl
 | some o=>
  rw[e l o q]at h;cases h
theorem Same.seq {K:Xa}{H':Hp}{a:Addr}{xs:List V}(e:Same H H')(h:bI K H a xs):bI K H' a xs:=by
 rcases h with (h | ⟨o,h⟩) | h
 .exact .inl (.inl (e _ _ h))
 .exact .inl (.inr ⟨o,e _ _ h⟩)
 .exact .inr h
def jj (env:Env):List (Str×NameKind)->List (Str×Addr)->List (Str×Addr)
 | [],acc=>acc
 | (n,k)::r,acc=>jj env r (if k == .free then(n,(env.cells.lookup n).getD 0)::acc else acc)
theorem J4 {env:Env}(f:Str×NameKind->List (Str×Addr)->Sem (ForInStep (List (Str×Addr))))
  (hf:∀n k cs,f (n,k) cs=if k == .free then(do let a <- cellOf env n;pure (.yield ((n,a)::cs))) else pure (.yield cs)) :
  ∀(l:List (Str×NameKind)) (acc:List (Str×Addr)),(∀n,(n,Qt)∈l->∃c,env.cells.lookup n=some c)->forIn l acc f=pure (jj env l acc)
 | [],acc,_=>by rw[Ou];rfl
 | (n,k)::r,acc,h=>by
  have ih:=J4 f hf r;have hr:∀m,(m,Qt)∈r->∃c,env.cells.lookup m=some c:=λm hm=>h m (Xf _ hm);rw[List.forIn_cons,hf];unfold jj;by_cases hk:(k == Qt)=true
  .have hk':k=Qt:=by simpa using hk
   subst hk';obtain⟨c,hc⟩:=h n Xh;have e:cellOf env n=pure c:=by unfold cellOf;rw[hc]
   rw[Qf hk,Qf hk,e,hc];simp only[pure_bind,Option.getD_some];exact ih _ hr
  .rw[Qe hk,Qe hk];simp only[pure_bind];exact ih _ hr
theorem J5 {scope:WR}(h:∀n,(n,Qt)∈scope.names->∃c,env.cells.lookup n=some c):closureFor scope env=pure (jj env scope.names []):=by
 simp only[closureFor];rw[J4 (env:=env) _ (λn k cs=>by cases hk:(k == Qt)<;>simp[hk]) scope.names [] h];simp
theorem J6:∀(l:List (Str×NameKind))(acc:List (Str×Addr)),(∀n,(n,Qt)∈l->∃c,env.cells.lookup n=some c)->(∀n c,(n,c)∈acc->env.cells.lookup n=some c)->
  ∀n c,(n,c)∈jj env l acc->env.cells.lookup n=some c
 | [],_,_,ha,n,c,hm=>ha n c hm
 | (x,k)::r,acc,h,ha,n,c,hm=>by
  have hr:∀m,(m,Qt)∈r->∃c,env.cells.lookup m=some c:=λm hm=>h m (Xf _ hm);unfold jj at hm;refine J6 r _ hr (λm d hd=>?_) n c hm;by_cases hk:(k == Qt)=true
  .have hk':k=Qt:=by simpa using hk
   subst hk';rw[Qf hk]at hd;rcases Xn.mp hd with e | hd
   .obtain⟨c',hc'⟩:=h x Xh;cases e;rw[hc'];rfl
   .exact ha m d hd
  .rw[Qe hk]at hd;exact ha m d hd
theorem Eo:∀(l:List (Str×NameKind))(acc:List (Str×Addr))(n:Str),((n,Qt)∈l\/(acc.lookup n).isSome=true)->((jj env l acc).lookup n).isSome=true
 | [],_,_,h=>h.elim (λz=>nomatch z) id
 | (x,k)::r,acc,n,h=>by
  unfold jj;refine Eo r _ n ?_;have up:(acc.lookup n).isSome=true->((if (k == Qt)=true then(x,(env.cells.lookup x).getD 0)::acc else acc).lookup n).isSome=true:=λz=>by
   by_cases hk:(k == Qt)=true
   .rw[Qf hk,XT];cases n == x<;>simp[z]
   .rw[Qe hk];exact z
  rcases h with h | h
  .rcases Xn.mp h with e | h
   .right;cases e;rw[Qf (by rfl),XT];simp
   .exact .inl h
  .exact .inr (up h)
theorem yq:∀(names:List (Str×NameKind))(n:Nat)(acc:List (Str×Addr)),Ws n names acc=Ws n names []++acc
 | [],_,_=>rfl
 | (x,k)::r,n,acc=>by
  unfold Ws;by_cases hk:(k == Oc)=true
  .rw[Qf hk,Qf hk,yq r (n+1) ((x,n)::acc),yq r (n+1) [(x,n)],QM];rfl
  .rw[Qe hk,Qe hk];exact yq r n acc
theorem Ep:∀(names:List (Str×NameKind))(n:Nat)(acc:List (Str×Addr))(x:Str)(c:Addr),(x,c)∈Ws n names acc->(x,c)∈acc\/(x,Oc)∈names
 | [],_,_,_,_,h=>.inl h
 | (y,k)::r,n,acc,x,c,h=>by
  unfold Ws at h;by_cases hk:(k == Oc)=true
  .have hk':k=Oc:=by simpa using hk
   subst hk';rw[Qf hk]at h;rcases Ep r _ _ x c h with h | h
   .rcases Xn.mp h with e | h
    .cases e;exact .inr Xh
    .exact .inl h
   .exact .inr (Xf _ h)
  .rw[Qe hk]at h;rcases Ep r _ _ x c h with h | h
   .exact .inl h
   .exact .inr (Xf _ h)
def sy (sc sup:WR):WR:=
 {sc with names:=sc.names.map λ(n,k)=>if (k == .free&&sup.kind == .function&&sup.names.lookup n == some .cell) then(n,.cell) else(n,k) }
def yr (sup:WR)(XN N:Tn)(k:Nat)(js:Tt)(sc:WR):Bool:=
 sc.kind == .function&&decide N.Nodup&&decide (sc.names.map (·.1)).Nodup&&(sc.names.all λp=>p.2 != .free||(sup.names.lookup p.1 == some .cell||sup.names.lookup p.1 == some .free)) &&
  N.length == k+js.length&&((N.drop k).zip js).all λp=>sc.names.lookup p.1 == some .free&&XN[p.2]? == some p.1
structure sE (X:Cx)(N:Tn)(k:Nat)(js:Tt)(sc:WR):Prop where
 kind:sc.kind=.function
 nd:N.Nodup
 nm:(sc.names.map (·.1)).Nodup
 fr:∀n,(n,Qt)∈sc.names->X.env.kindOf n=some .cell\/X.env.kindOf n=some .free
 len:N.length=k+js.length
 at':∀(i:Nat) (x:Str),N[k+i]? = some x->sc.names.lookup x=some .free/\∃j,js[i]? = some j/\X.N[j]? = some x
theorem jX {XN:Tn}{js:Tt}(hs:X.env.scope=sup)(hn:X.N=XN)(h:yr sup XN N k js sc=true):sE X N k js sc:=by
 subst hs hn;unfold yr at h;simp only[Yu,decide_eq_true_eq,beq_iff_eq,XX]at h;obtain⟨⟨⟨⟨⟨h1,h2⟩,h3⟩,h4⟩,h5⟩,h6⟩:=h;refine⟨h1,h2,h3,λn hn=>?_,h5,λi x hi=>?_⟩
 .have q:=h4 _ hn;simp only[bne_self_eq_false,Bool.false_or,Bool.or_eq_true,beq_iff_eq]at q;exact q
 .have hi':(N.drop k)[i]? = some x:=by rw[List.getElem?_drop];exact hi
  have hl:k+i<N.length:=(Xc.mp hi).1;have hj:i<js.length:=by lia
  have hm:(x,js[i])∈(N.drop k).zip js:=by
   refine List.mem_iff_getElem?.mpr ⟨i,?_⟩;rw[List.getElem?_zip_eq_some];exact⟨hi',by simp[hj]⟩
  have q:=h6 _ hm;exact⟨q.1,js[i],by simp[hj],q.2⟩
theorem Er {M:Type}:∀ {l:List (Str×M)}{x:Str}{v:M},(l.map (·.1)).Nodup->(x,v)∈l->l.lookup x=some v
 | (y,u)::r,x,v,nd,h=>by
  rw[Xq,XO]at nd;rw[XT];rcases Xn.mp h with e | h
  .cases e;simp
  .have ne:x≠y:=λz=>nd.1 (XF.mpr ⟨(x,v),h,z⟩);have hb:(x == y)=false:=by simpa using ne
   rw[hb];exact Er nd.2 h
def mz (k:Nat)(js:Tt)(Y:St):St:=YN k none++js.map λj=>(Y[j]?).getD none
def mC (X:Cx)(N:Tn)(sc:WR)(C:Addr)(cells:List (Str×Addr))(fp:Tr)(s:Wc)(H:Hp):Cx where
 prog:=X.prog
 w:=X.w
 K:=X.K
 mg:=X.mg
 base:=X.base
 A:=X.A
 N:=N
 s₀:=s
 H₀:=H
 env:={ scope:=sy sc X.env.scope,locals:=C,globals:=X.env.globals,cells:=cells,qual:=X.env.qual,func:=none,code:=X.env.code,frame:=X.env.frame,builtins:=X.env.builtins }
 outer:=X.stack
 stack:=X.stack
 ex:=fp
 fn:=λx=>sc.names.lookup x == some .cell
 calm:=X.calm
 pn:=[]
 xe:=λ_ _=>False
section
variable {X:Cx}{pins:Tg}{Y:St}{H:Hp}{s:Wc}
theorem J7 {k:NameKind}(h:(sy sc sup).names.lookup x=some k):sc.names.lookup x=some k\/(sc.names.lookup x=some .free/\k=.cell):=by
 unfold sy at h;dsimp only at h;generalize sc.names=l at h ⊢;induction l with
 | nil=>simp at h
 | cons p r ih=>
  obtain⟨n,kd⟩:=p;rw[Xq,XT]at h;rw[XT];dsimp only at h;by_cases hc:(kd == Qt&&sup.kind == ScopeKind.function&&sup.names.lookup n == some Oc)=true
  .rw[Qf hc]at h;dsimp only at h;cases hx:x == n with
   | true=>
    rw[hx]at h;simp only[Yu,beq_iff_eq]at hc;right;exact⟨by rw[hc.1.1],(Qa h).symm⟩
   | false=>rw[hx]at h;exact ih h
  .rw[Qe hc]at h;dsimp only at h;cases hx:x == n with
   | true=>rw[hx]at h;left;exact h
   | false=>rw[hx]at h;exact ih h
theorem zeY (h:sc.names.lookup x=some .free):(sy sc sup).names.lookup x=some .cell\/(sy sc sup).names.lookup x=some .free:=by
 unfold sy;dsimp only;generalize sc.names=l at h ⊢;induction l with
 | nil=>simp at h
 | cons p r ih=>
  obtain⟨n,kd⟩:=p;rw[XT]at h;rw[Xq];dsimp only;by_cases hc:(kd == Qt&&sup.kind == ScopeKind.function&&sup.names.lookup n == some Oc)=true
  .rw[Qf hc,XT];cases hx:x == n with
   | true=>left;rfl
   | false=>rw[hx]at h;exact ih h
  .rw[Qe hc,XT];cases hx:x == n with
   | true=>rw[hx]at h;right;exact h
   | false=>rw[hx]at h;exact ih h
theorem Inv.block {js:Tt}{fp:Tr}(I:Inv X pins Y H s)(S:sE X N k js sc)(hf:∀b∈fp,fJ X pins H b)(hfs:∀b∈fp,b<s.heap.objs.size) :
  Inv (mC X N sc s.heap.objs.size (Ws (s.heap.objs.size+1) sc.names (jj X.env sc.names [])) fp s H) [] (mz k js Y) H
   {s with heap:=pushCells (s.heap.push { cls:=.type "dict",data:=.dict #[] }) sc.names }:=by
 have hz:(s.heap.push { cls:=.type "dict",data:=.dict #[] }).objs.size=s.heap.objs.size+1:=Ym ..;have kp:∀b o,s.heap.get? b=some o->(pushCells (s.heap.push { cls:=.type "dict",data:=.dict #[] }) sc.names).get? b=some o:=λb o e=>pushCells_keeps _ _ b o (Xe _ e);have cok:=cellsFrom_ok sc.names (s.heap.push { cls:=.type "dict",data:=.dict #[] }) (s.heap.objs.size+1) [] ⟨λ_ _ hm=>(nomatch hm),List.Pairwise.nil⟩ (by rw[hz];exact Xj _);rw[hz]at cok;have frs':∀n,(n,Qt)∈sc.names->∃c,X.env.cells.lookup n=some c:=λn hn=>I.ok.has n (S.fr n hn);have csub:=J6 (env:=X.env) sc.names [] frs' (λ_ _ z=>nomatch z);have gq:∀x c,(Ws (s.heap.objs.size+1) sc.names (jj X.env sc.names [])).lookup x=some c->
   ((Ws (s.heap.objs.size+1) sc.names []).lookup x=some c)\/((Ws (s.heap.objs.size+1) sc.names []).lookup x=none/\(jj X.env sc.names []).lookup x=some c):=λx c h=>by
  rw[yq,List.lookup_append]at h;cases q:(Ws (s.heap.objs.size+1) sc.names []).lookup x with
  | some d=>rw[q]at h;left;simpa using h
  | none=>rw[q]at h;right;exact⟨rfl,by simpa using h⟩
 have old:∀x c,(jj X.env sc.names []).lookup x=some c->X.env.cells.lookup x=some c:=λx c h=>csub x c (Qq h);have sG:∀x c,X.env.cells.lookup x=some c->c<s.heap.objs.size:=λx c h=>let ⟨_,q⟩:=I.cell x c h;q.lt;have jY:∀x c,(Ws (s.heap.objs.size+1) sc.names []).lookup x=some c->s.heap.objs.size+1<=c:=λx c h=>(cok.empty x c (Qq h)).2;refine⟨⟨I.ok.mod,S.kind,I.ok.glob,I.ok.blt,Xj _,?inj,?has,?cab,I.ok.hd,I.ok.frames,.inl rfl,?exf,I.bs,XC I.ok.pZ I.sz,?jR,?jT,I.stack,I.Dp⟩,rfl,I.bare,Un.kept kp,?loc,?cell,I.hok.fresh (Xj _),?bY,λp hp=>Qg (show p∈([]:Tg) from hp) (by simp),I.hok.kept kp,?len⟩
 case inj=>
  intro x y c hx hy;rcases gq x c hx with h1 | ⟨_,h1⟩<;>rcases gq y c hy with h2 | ⟨_,h2⟩
  .exact name_of_addr cok.apart (Qq h1) (Qq h2)
  .exact Qg (XJ (sG y c (old y c h2)) (Nat.le_of_succ_le (jY x c h1))) (YH _)
  .exact Qg (XJ (sG x c (old x c h1)) (Nat.le_of_succ_le (jY y c h2))) (YH _)
  .exact I.ok.inj x y c (old x c h1) (old y c h2)
 case has=>
  intro x hx;have hx':(sy sc X.env.scope).names.lookup x=some .cell\/(sy sc X.env.scope).names.lookup x=some .free:=hx;have q:sc.names.lookup x=some .cell\/sc.names.lookup x=some .free:=by
   rcases hx' with h | h
   .rcases J7 h with h | ⟨h,_⟩
    .exact .inl h
    .exact .inr h
   .rcases J7 h with h | ⟨h,_⟩
    .exact .inr h
    .exact .inr h
  refine Option.isSome_iff_exists.mp (Om sc.names _ _ ?_);rcases q with q | q
  .exact .inl q
  .exact .inr (Eo _ _ _ (.inl (Qq q)))
 case cab=>
  intro x c hfn hx;have hc:sc.names.lookup x=some .cell:=by simpa[mC]using hfn
  rcases gq x c hx with h | ⟨h,_⟩
  .have:=jY x c h;show s.heap.objs.size<=c;lia
  .have q:=Om sc.names (s.heap.objs.size+1) [] (.inl hc);rw[h]at q;cases q
 case exf=>
  intro b hb;have hlt:=hfs b hb;refine⟨XB hlt,λx c hx=>?_⟩;rcases gq x c hx with h | ⟨_,h⟩
  .exact λz=>Qg (XJ (show c<s.heap.objs.size by rw[z];exact hlt) (Nat.le_of_succ_le (jY x c h))) (YH _)
  .exact(hf b hb).2.2.2.2.1 x c (old x c h)
 case jR=>
  intro b o e hb;rcases(hf b hb).2.2.2.1 with z | z
  .exact I.ok.jR b o e z
  .exact Qg (XJ (Xw (I.ok.bs b o e).1) z) (YH _)
 case jT=>
  intro b hb hbf;rcases Xn.mp (I.Dn b hbf)with z | z
  .exact(hf b hb).2.1 z
  .exact(hf b hb).2.2.1 z
 case loc=>
  refine⟨_,(Heap.Ns.new s.heap (.type "dict")).keeps (pushCells_keeps _ _),λi x v e1 e2 e3=>?_⟩;have hik:k<=i:=by
   unfold mz at e2;by_cases hik:k<=i
   .exact hik
   .rw[Ye (by simp;lia),YO]at e2;split at e2<;>cases e2
  obtain⟨i',rfl⟩:∃i',i=k+i':=⟨i-k,by lia⟩;obtain⟨hfree,j,hj,hX⟩:=S.at' i' x e1;have e2':(Y[j]?).getD none=some v:=by
   unfold mz at e2;rw[XZ (by simp)]at e2;rw[QT,show k+i'-k=i' by lia,Xg,hj]at e2;exact Qa e2
  have hσ:Y[j]? = some (some v):=by
   cases q:Y[j]? with
   | none=>rw[q]at e2';cases e2'
   | some o=>rw[q]at e2';exact congrArg some e2'
  have hk:=S.fr x (Qq hfree);obtain⟨m,hn,hl⟩:=I.loc;obtain⟨u,r,l⟩:=hl j x v hX hσ (by rcases hk with h | h;exact .inr (.inl h);exact .inr (.inr h))
  rcases l with ⟨hloc,_⟩ | ⟨_,c,hc,hcell⟩
  .rcases hk with h | h<;>(rw[h]at hloc;cases hloc)
  .refine⟨u,r,.inr ⟨zeY hfree,c,?_,hcell.keeps kp⟩⟩;show(Ws (s.heap.objs.size+1) sc.names (jj X.env sc.names [])).lookup x=some c;have hno:(Ws (s.heap.objs.size+1) sc.names []).lookup x=none:=by
    cases q:(Ws (s.heap.objs.size+1) sc.names []).lookup x with
    | none=>rfl
    | some d=>
     rcases Ep _ _ _ x d (Qq q)with z | z
     .cases z
     .have:=Er S.nm z;rw[hfree]at this;cases this
   obtain⟨d,hd⟩:=Option.isSome_iff_exists.mp (Eo (env:=X.env) sc.names [] x (.inl (Qq hfree)));have hdc:d=c:=by
    have:=old x d hd;rw[hc]at this;exact(Qa this).symm
   rw[yq,List.lookup_append,hno,hd,hdc];rfl
 case cell=>
  intro x c hx;rcases gq x c hx with h | ⟨_,h⟩
  .exact⟨none,(cok.empty x c (Qq h)).1⟩
  .obtain⟨v,q⟩:=I.cell x c (old x c h);exact⟨v,q.keeps kp⟩
 case bY=>
  intro x c hx;rcases gq x c hx with h | ⟨_,h⟩
  .exact I.hok.fresh (by have:=jY x c h;lia)
  .exact I.bY x c (old x c h)
 case len=>
  show(mz k js Y).length=N.length;unfold mz;rw[Xr,QT,Xb];exact S.len.symm
end
theorem zos {prog:Wg}{w:Wj}{A:Wl}{R:Result->Wc->Prop}{s:Wc}{elt tg iter:Expr}{ifs:List Expr}{scope:WR}{pos:Pos}{it acc:Wb}{env:Env}(Qq12:Nat->Wc->Prop)
  (turn:∀n s,Qq12 n s->We (Wh prog w) A (WX it) (λr s1=>match r with
   | none=>R (.ok .next) s1
   | some v=>We (Wh prog w) A (letOwnedTupleGo tg it v) (λ_ s2=>We (Wh prog w) A (assign tg env v) (λ_ s3=>
     We (Wh prog w) A (forIn ifs true λc r=>if r=true then do let ok <- isTrue c env (Ww c env);pure (ForInStep.yield ok) else pure (ForInStep.yield r)) (λok s4=>
      if ok=true then We (Wh prog w) A (Ww elt env) (λx s5=>We (Wh prog w) A (call (.builtin "list.append") [acc,x]) (λ_ s6=>∃m,m<n/\Qq12 m s6) (λ_ _=>False) s5) (λ_ _=>False) s4
      else ∃m,m<n/\Qq12 m s4) (λ_ _=>False) s3) (λ_ _=>False) s2) (λ_ _=>False) s1) (λ_ _=>False) s)
  (n:Nat) (h:Qq12 n s):W4 (Wh prog w) A (.compLoop (.ListComp elt [⟨tg,iter,ifs,0⟩] scope pos) 0 it acc env) R s:=by
 refine codeAny_loop rfl Qq12 (λn s hI=>wpAny_noted (wpAny_noRaise ?_)) n h;rw[compTurn_list];refine Wa (wpAny_standAt (Wa (aQ (turn n s hI) λr s1 h1=>?_)));cases r with
 | none=>exact Wd h1
 | some v=>
  refine Wa (aQ h1 λ_ s2 h2=>Wa (aQ h2 λ_ s3 h3=>Wa (aQ h3 λok s4 h4=>?_)));cases ok with
  | false=>exact Wd ⟨rfl,by simpa using h4⟩
  | true=>
   rw[Qf rfl]at h4;exact Wa (Wa (aQ h4 λx s5 h5=>Wa (aQ h5 λ_ s6 h6=>Wd (Wd ⟨rfl,h6⟩))))
theorem zot {Qq11:Model}{A:Wl}{E:Ti}{s:Wc}{sc:WR}{globals:Addr}{clo:List (Str×Addr)}{qual:Str}{out:Env}{Q:Env->Wc->Prop}
  (h:Q { scope:=sc,locals:=s.heap.objs.size,globals:=globals,cells:=Ws (s.heap.objs.size+1) sc.names clo,qual:=qual,func:=none,code:=out.code,frame:=out.frame,builtins:=out.builtins }
   {s with heap:=pushCells (s.heap.push { cls:=.type "dict",data:=.dict #[] }) sc.names }) :
  We Qq11 A (newFunctionEnv sc globals clo [] qual none .none (some out)) Q E s:=by
 unfold newFunctionEnv;simp only[Option.isSome_some,if_true];refine Wa (wpAny_alloc (Wa (wpAny_layCells _ (λname kind cells=>by cases hkc:kind == Oc<;>simp[hkc]) _ _ _ _ ?_)));rw[show({ s with heap:=s.heap.push { cls:=.type "dict",data:=.dict #[] } }:Wc).heap.objs.size=s.heap.objs.size+1 from Ym ..];simp only[Ou];exact Wa (Wd (Wd h))
def sH (X:Cx)(ifs:List Expr)(t:TT):Prop:=
 ∀(pins:Tg) (s:Wc) (Y:St) (H:Hp) (Q:Bool->Hp->Prop),Inv X pins Y H s->t Y H Q->
  We (Wh X.prog X.w) X.A (forIn ifs true λc r=>if r=true then do let ok <- isTrue c X.env (Ww c X.env);pure (ForInStep.yield ok) else pure (ForInStep.yield r)) (TP X pins Y Q) X.xe s
def ztP:TT:=λ_ H Q=>Q true H
theorem ztQ:sH X [] ztP:=λpins s Y H Q I h=>wpAny_tests_nil ⟨H,I,h⟩
theorem ztR {c:Expr}{t:TT}(h:PT X c t):sH X [c] t:=λpins s Y H Q I q=>wpAny_tests_one (h pins s Y H Q I q)
def Es (Qq12:It)(g:TG)(tt:TT)(te:TE)(l:Addr)(Qq8:St)(H1:Hp)(R:Hp->Prop):Prop:=
 ∃W:Nat->Nat->St->Hp->Prop,(∃m,W 0 m Qq8 (upd H1 l (.lst [])))/\∀i m Y' H',W i m Y' H'->
  (Qq12.stop i H'/\R H')\/(Qq12.go i H'/\∀x H2,Qq12.rW i H' x H2->g x Y' H2 λQq5 H3=>tt Qq5 H3 λb H4=>if b=true
   then te Qq5 H4 λv H5=>∃ys,H5 l=some (.lst ys)/\ys.length<Wf/\∃m',m'<m/\W (i+1) m' Qq5 (upd H5 l (.lst (ys++[v])))
   else ∃m',m'<m/\W (i+1) m' Qq5 H4)
def Et (k:Nat)(js:Tt)(wi:TI)(g:TG)(tt:TT)(te:TE):TE:=λY H Q=>wi Y H λQq12 H1=>∀l,H1 l=none->Es Qq12 g tt te l (mz k js Y) H1 λH'=>Q (.ref l) H'
section
variable {X:Cx}{elt tg iter:Expr}{ifs:List Expr}{sc:WR}{pos:Pos}{N:Tn}{k:Nat}{js:Tt}{wi:TI}{g:TG}{tt:TT}{te:TE}
structure Blk (X:Cx)(N:Tn)(sc:WR)(tg:Expr)(ifs:List Expr)(elt:Expr)(g:TG)(tt:TT)(te:TE):Prop where
 tgt:∀C cells fp s H,PG (mC X N sc C cells fp s H) tg g
 tst:∀C cells fp s H,sH (mC X N sc C cells fp s H) ifs tt
 val:∀C cells fp s H,PE (mC X N sc C cells fp s H) elt te
def After (X:Cx)(pins:Tg)(Y:St)(R:Addr->Hp->Prop)(acc:Wb)(C:Addr)(s':Wc):Prop:=
 ∃(l:Addr) (H':Hp) (m:Tj),acc=.ref l/\Inv X pins Y H' s'/\s'.heap.Ns C m/\fJ X pins H' C/\R l H'
theorem J8 {pins:Tg}{Y:St}{H:Hp}{s:Wc}{R:Addr->Hp->Prop}(hc:X.calm=true)(S:sE X N k js sc)(hi:PI X tg iter wi)(B:Blk X N sc tg ifs elt g tt te)(I:Inv X pins Y H s)
  (h:wi Y H λQq12 H1=>∀l,H1 l=none->Es Qq12 g tt te l (mz k js Y) H1 (R l)) :
  We (Wh X.prog X.w) X.A (Ww iter X.env) (λx s1=>We (Wh X.prog X.w) X.A (pyIter x) (λit s2=>We (Wh X.prog X.w) X.A (newList []) (λacc s3=>
   We (Wh X.prog X.w) X.A (newFunctionEnv sc X.env.globals (jj X.env sc.names []) [] X.env.qual none .none (some X.env)) (λcenv s4=>
    W4 (Wh X.prog X.w) X.A (.compStart (.ListComp elt [⟨tg,iter,ifs,0⟩] sc pos) 0 it acc { cenv with scope:=relabel sc X.env })
     (λr s'=>match r with | .ok _=>After X pins Y R acc cenv.locals s' | .error _=>False) s4) X.xe s3) X.xe s2) X.xe s1) X.xe s:=by
 refine aQ (hi pins s Y H _ I h) λv s1 h1=>aQ h1 λitv s2 h2=>?_;obtain⟨it,fp,tn,Qq12,H2,e,I2,T,st2,f2,hq⟩:=h2;subst e;have hl:H2 s2.heap.objs.size=none:=I2.fresh;have fplt:∀b∈fp,b<s2.heap.objs.size:=λb hb=>by
  obtain⟨o,e,_⟩:=T.obj 0 _ st2 b hb;exact Xw e
 obtain⟨W,⟨m0,w0⟩,turn⟩:=hq _ hl;refine wpAny_newList ?_;have I3:Inv X pins Y (upd H2 s2.heap.objs.size (.lst [])) { s2 with heap:=s2.heap.push { cls:=.type "list",data:=.seq ([]:Tq).toArray } }:=I2.yj (its:=[]) (t':=s2.toks) .nil (XM _);have u3:Un (frs X.stack) fp H2 (upd H2 s2.heap.objs.size (.lst [])) s2.heap (s2.heap.push { cls:=.type "list",data:=.seq ([]:Tq).toArray }):=Un.laid (λb o e=>Xe _ e) (Xj _) hl;have hz3:(s2.heap.push { cls:=.type "list",data:=.seq ([]:Tq).toArray }).objs.size=s2.heap.objs.size+1:=Ym ..;have kp3:∀b o,s2.heap.get? b=some o->(s2.heap.push { cls:=.type "list",data:=.seq ([]:Tq).toArray }).get? b=some o:=λb o e=>Xe _ e;have fpn:∀b∈fp,upd H2 s2.heap.objs.size (.lst []) b=none:=λb hb=>by
  rw[aY (XB (fplt b hb))];exact(f2 b hb).1
 generalize hl0:s2.heap.objs.size=l at hl I3 u3 hz3 kp3 fpn w0 turn ⊢;rw[hl0]at fplt;generalize s2.heap.push { cls:=.type "list",data:=.seq ([]:Tq).toArray }=h3 at I3 u3 hz3 kp3 ⊢;generalize upd H2 l (.lst [])=H3 at I3 u3 fpn w0;have f3:∀b∈fp,fJ X pins H3 b:=λb hb=>⟨fpn b hb,(f2 b hb).2⟩;have I4:=I3.block S f3 (λb hb=>by show b<h3.objs.size;rw[hz3];exact Pu (fplt b hb));have kp4:∀b o,s2.heap.get? b=some o->(pushCells (h3.push { cls:=.type "dict",data:=.dict #[] }) sc.names).get? b=some o:=λb o e=>pushCells_keeps _ _ b o (Xe _ (kp3 b o e));refine zot ?_;have st4:tn 0 (pushCells (h3.push { cls:=.type "dict",data:=.dict #[] }) sc.names):=T.keep 0 _ _ st2 λb _ o e=>kp4 b o e;have stat:∀ {H':Hp},(∀b∈fp,H' b=none)->∀b∈fp,fJ (mC X N sc h3.objs.size (Ws (h3.objs.size+1) sc.names (jj X.env sc.names [])) fp { s2 with heap:=h3 } H3) [] H' b:=λhn b hb=>
  ⟨hn b hb,(I4.ok.exf b hb).1,I4.ok.jT b hb,.inl hb,(I4.ok.exf b hb).2,λp hp=>Qg (show p∈([]:Tg) from hp) (by simp)⟩
 generalize hY:mC X N sc h3.objs.size (Ws (h3.objs.size+1) sc.names (jj X.env sc.names [])) fp { s2 with heap:=h3 } H3=Qq2 at I4 stat;have loop:W4 (Wh X.prog X.w) X.A (.compLoop (.ListComp elt [⟨tg,iter,ifs,0⟩] sc pos) 0 (.ref it) (.ref l) Qq2.env)
   (λr s'=>match r with | .ok _=>After X pins Y R (.ref l) h3.objs.size s' | .error _=>False) { s2 with heap:=pushCells (h3.push { cls:=.type "dict",data:=.dict #[] }) sc.names }:=by
  subst hY;refine zos (λn s'=>∃i Y' H',Inv (mC X N sc h3.objs.size (Ws (h3.objs.size+1) sc.names (jj X.env sc.names [])) fp { s2 with heap:=h3 } H3) [] Y' H' s'/\tn i s'.heap/\(∀b∈fp,H' b=none)/\W i n Y' H') ?_ m0
   ⟨0,mz k js Y,H3,I4,st4,fpn,w0⟩
  rintro n s5 ⟨i,Qq9,H5,I5,st5,fr5,w5⟩;rcases turn i n Qq9 H5 w5 with ⟨stop,qn⟩ | ⟨go,step⟩
  .refine aQ (T.done (mC X N sc h3.objs.size (Ws (h3.objs.size+1) sc.names (jj X.env sc.names [])) fp { s2 with heap:=h3 } H3) rfl rfl rfl hc i [] s5 Qq9 H5 (λ_ _=>False) I5 (stat fr5) st5 stop) λr s6 ⟨hr,I6⟩=>?_;subst hr;obtain⟨m6,hn6,_⟩:=id I6.loc;have IX:Inv X pins Y H5 s6:=I2.call' (ch:=fp) I6.os (u3.trans I6.base) I6.hok I6.bare λb hb=>⟨(f2 b hb).2.2.2.1,(f2 b hb).2.1,(f2 b hb).2.2.2.2.1,(f2 b hb).2.2.2.2.2⟩;exact⟨l,H5,m6,rfl,IX,hn6,I2.jV (by show s2.heap.objs.size<=h3.objs.size;rw[hz3,hl0];exact Ph _) I6.free,qn⟩
  .refine aQ (T.item (mC X N sc h3.objs.size (Ws (h3.objs.size+1) sc.names (jj X.env sc.names [])) fp { s2 with heap:=h3 } H3) rfl rfl rfl hc i [] s5 Qq9 H5 (λ_ _=>False) I5 (stat fr5) st5 go) λr s6 ⟨u,hr,h6⟩=>?_;subst hr;refine aQ h6 λ_ s7 ⟨x,H7,I7,r7,y7,st7,fr7⟩=>?_;have I7':=I7.pinned (stat fr7) (T.obj _ _ st7);refine aQ (B.tgt _ _ _ _ _ _ s7 Qq9 H7 x u _ I7' r7 (step x H7 y7)) λ_ s8 ⟨Qq10,H8,I8,q8⟩=>?_;refine aQ (B.tst _ _ _ _ _ _ s8 Qq10 H8 _ I8 q8) λok s9 ⟨H9,I9,q9⟩=>?_;have kept:∀ {Y':St} {H':Hp} {s':Wc},Inv (mC X N sc h3.objs.size (Ws (h3.objs.size+1) sc.names (jj X.env sc.names [])) fp { s2 with heap:=h3 } H3) ([]++xK fp s7.heap) Y' H' s'->tn (i+1) s'.heap/\∀b∈fp,H' b=none:=λ{Y' H' s'} I'=>
    ⟨T.keep _ _ _ st7 λb hb o e=>(I'.pin (b,o) (XR _ (XR _ (Af hb e)))).1,λb hb=>by
     obtain⟨o,e,_⟩:=T.obj _ _ st7 b hb;exact(I'.pin (b,o) (XR _ (XR _ (Af hb e)))).2.1⟩
   cases ok with
   | false=>
    rw[Qe Xu]at q9;rw[Qe Xu];obtain⟨m',hm,w9⟩:=q9;exact⟨m',hm,i+1,Qq10,H9,I9.xM,(kept I9).1,(kept I9).2,w9⟩
   | true=>
    rw[Qf rfl]at q9;rw[Qf rfl];refine aQ (B.val _ _ _ _ _ _ s9 Qq10 H9 _ I9 q9) λu10 s10 ⟨y,H10,I10,r10,ys,hys,hlen,m',hm,w10⟩=>?_;refine aQ (Ei _ s10 Qq10 H10 (.ref l) [y] (.ref l) [u10] (λ_ H'=>H'=upd H10 l (.lst (ys++[y]))) I10 rfl (.cons r10 .nil) ⟨l,ys,y,rfl,rfl,hys,hlen,rfl⟩) λ_ s11 ⟨_,H11,I11,_,e11⟩=>?_;subst e11;exact⟨m',hm,i+1,Qq10,_,I11.xM,(kept I11).1,(kept I11).2,w10⟩
 subst hY;exact codeAny_compStart_list loop (T.self X.A 0 _ _ _ st4 loop)
theorem J9 {X:Cx}(S:sE X N k js sc):∀x∈sc.names,x.2=.local->sc.names.lookup x.1=some .local:=λx hx hl=>Er S.nm (by rw[<- hl];exact hx)
theorem ztT (hc:X.calm=true)(S:sE X N k js sc)(hi:PI X tg iter wi)(B:Blk X N sc tg ifs elt g tt te)(hs:oh X iter:=by intro _;rfl) :
  PE X (.ListComp elt [⟨tg,iter,ifs,0⟩] sc pos) (Et k js wi g tt te):=by
 intro pins s Y H Q I h;rw[eval_ListComp];refine wpAny_comprehension_free (use:=none) rfl hs (J5 λn hn=>I.ok.has n (S.fr n hn)) S.kind (J9 S) ?_;refine aQ (J8 (pos:=pos) (R:=λl H'=>Q (.ref l) H') hc S hi B I h) λx s1 h1=>aQ h1 λit s2 h2=>aQ h2 λacc s3 h3=>aQ h3 λcenv s4 h4=>WO h4 λr s' hr=>?_;cases r with
 | error e=>exact Qz hr
 | ok f=>
  obtain⟨l,H',m,rfl,I',hn,⟨f0,f1,f2,f3,f4,f5⟩,q⟩:=hr;exact⟨m,hn,λh' sb=>⟨.ref l,H',I'.turned (t':=s'.toks) (λb o hb e=>sb.extBut b o hb e) f0 f1 f3 f4 f5,rfl,q⟩⟩
theorem ztU {i:Nat}{x:Str}{pos' pos2:Pos}(hc:X.calm=true)(S:sE X N k js sc)(hi:PI X tg iter wi)(B:Blk X N sc tg ifs elt g tt te)(hN:X.N.Nodup)(hx:X.N[i]? = some x)(hk:X.env.scope.names.lookup x=some .local)
  (hsw:Wx (.ListComp elt [⟨tg,iter,ifs,0⟩] sc pos) (some (.Name x pos')) pos2.line X.env=pure true:=by rfl) (hs:oh X iter:=by intro _;rfl) :
  PS X (.Assign [.Name x pos'] (.ListComp elt [⟨tg,iter,ifs,0⟩] sc pos) pos2) (oA (Et k js wi g tt te) (xJ i)):=by
 intro pins s Y H D I h;rw[exec_Assign_Name_used _ _ _ _ hsw];refine Wa (wpAny_standAt (Wa ?_));show We _ X.A (do let _ <- comprehension (.ListComp elt [⟨tg,iter,ifs,0⟩] sc pos) sc X.env _ (newList []) false (Ww iter X.env) (some (assign (.Name x pos') X.env))) _ _ s
 refine Wa (aQ (wpAny_comprehension_free (use:=some (assign (.Name x pos') X.env)) (Q:=λ_ s'=>SP X pins D .next s') rfl hs (J5 λn hn=>I.ok.has n (S.fr n hn)) S.kind (J9 S) ?_) λ_ s' hq=>Wd (Wd hq))
 refine aQ (J8 (pos:=pos) (R:=λl H'=>D.nx (Y.set i (some (.ref l))) H') hc S hi B I h) λy s1 h1=>aQ h1 λit s2 h2=>aQ h2 λacc s3 h3=>aQ h3 λcenv s4 h4=>WO h4 λr s' hr=>?_;cases r with
 | error e=>exact Qz hr
 | ok f=>
  obtain⟨l,H',m,rfl,I',hn,⟨f0,f1,f2,f3,f4,f5⟩,q⟩:=hr;refine wpAny_assign_Name (IW I' hN hx (.inl hk) (show RelV (.ref l) (.ref l) from rfl) (λs'' I'' ⟨a,sb,ha⟩=>?_) (.inr hk));have ne:cenv.locals≠a:=by
   rcases ha with z | z
   .rw[z];exact f1
   .exact λw=>f4 x a z w.symm
  exact⟨m,hn.sameBut sb ne,λh' sb'=>⟨_,H',I''.turned (t':=s''.toks) (λb o hb e=>sb'.extBut b o hb e) f0 f1 f3 f4 f5,q⟩⟩
end
end L2
namespace JS
open PySem
variable {M:Type}{n i ep slot:Nat}{Q:Ti}{xs:Array Nat}{w:Wj}{h h':Heap}{a l:Addr}{es:Array (Int×Wb)}{t t':SetTable}{items:Array Wb}{tq:Tr}{order:Tq}
theorem Eu:∀ {l:List M}{i:Nat}(h:i<l.length),(l[i]::l.eraseIdx i).Perm l
 | _::_,0,_=>List.Perm.refl _
 | x::r,i+1,h=>by
  have ih:=Eu (l:=r) (i:=i) (by simpa using h);rw[List.eraseIdx_cons_succ];exact(List.Perm.swap x _ _).trans (ih.cons x)
section
variable {Qq11:Model}{A:Wl}{E:Ti}{s:Wc}
theorem znf {src:Source}{Q:Nat->Wc->Prop}(hn:n≠0)(h:∀i,i<n->Q i { s with drawn:=s.drawn.bump src }):We Qq11 A (choose src n) Q E s:=
 λ_ _ _=>⟨hn,h _ (QS _ (Nat.pos_of_ne_zero hn))⟩
theorem Ka:∀(n:Nat)(xs:List M)(s:Wc)(Q:List M->Wc->Prop),xs.length<=n->(∀ys d,ys.Perm xs->Q ys { s with drawn:=d })->We Qq11 A (drawOrder n xs) Q E s
 | 0,xs,s,Q,h,hq=>by
  have e:xs=[]:=YQ.mp (by lia);subst e;exact Wd (hq [] s.drawn (List.Perm.refl _))
 | n+1,[],s,Q,_,hq=>Wd (hq [] s.drawn (List.Perm.refl _))
 | n+1,x::r,s,Q,h,hq=>by
  show We Qq11 A (choose .order (x::r).length >>= λi=>match (x::r)[i]? with
   | some y=>drawOrder n ((x::r).eraseIdx i) >>= λys=>pure (y::ys)
   | none=>unsupported "internal:drawOrder") Q E s
  refine Wa (znf (by simp) λi hi=>?_);have e:(x::r)[i]? = some (x::r)[i]:=by simp[hi]
  rw[e];refine Wa (Ka n ((x::r).eraseIdx i) _ _ (by rw[List.length_eraseIdx_of_lt hi];simp at h ⊢;lia) λys d hp=>Wd (hq _ d ?_));exact(hp.cons _).trans (Eu hi)
end
theorem Kc (next:Tw):∀(fuel k:Nat)(left:List M)(out:Array M),left.length=fuel->(pickOrder.go next fuel k left out).toList.Perm (out.toList++left)
 | 0,k,left,out,h=>by
  have e:left=[]:=YQ.mp h;subst e;simp[pickOrder.go]
 | fuel+1,k,left,out,h=>by
  unfold pickOrder.go;have hi:next k % left.length<left.length:=QS _ (by lia)
  have e:left[next k % left.length]? = some left[next k % left.length]:=by simp[hi]
  rw[e];dsimp only;refine(Kc next fuel (k+1) _ _ (by rw[List.length_eraseIdx_of_lt hi];lia)).trans ?_
  rw[Array.toList_push,QM];exact List.Perm.append_left _ (Eu hi)
theorem Ke (next:Tw)(xs:Array M):(pickOrder next xs).toList.Perm xs.toList:=by
 unfold pickOrder;have h:=Kc next xs.size 0 xs.toList #[] (by simp)
 simpa using h
def bV (xs:Array Nat):Prop:=xs.toList.Pairwise (· < ·)
theorem bV.lt (h:bV xs){j:Nat}(hij:i<j)(hj:j<xs.size):xs.getD i 0<xs.getD j 0:=by
 have q:=List.pairwise_iff_getElem.mp h i j (by simp;lia) (by simpa using hj) hij;simpa[Oh,hj,show i<xs.size by lia]using q
theorem Ar (n:Nat):bV (Array.range n):=by
 unfold bV;rw[Array.toList_range];exact List.pairwise_lt_range
theorem Ew (xs:Array Nat)(j:Nat):∀(fuel lo hi:Nat),bV xs->lo<=hi->hi<=xs.size->hi-lo<=fuel->(∀i,i<lo->xs.getD i 0<j)->(∀i,hi<=i->i<xs.size->¬ xs.getD i 0<j)->
  Yn.go xs j fuel lo hi<=xs.size/\(∀i,i<Yn.go xs j fuel lo hi->xs.getD i 0<j)/\∀i,Yn.go xs j fuel lo hi<=i->i<xs.size->¬ xs.getD i 0<j
 | 0,lo,hi,ha,h1,h2,h3,h4,h5=>by
  have:lo=hi:=by lia
  subst this;exact⟨h2,h4,h5⟩
 | fuel+1,lo,hi,ha,h1,h2,h3,h4,h5=>by
  unfold Yn.go;by_cases h:lo<hi
  .rw[Qf h];dsimp only;have hm:(lo+hi) / 2<xs.size:=by lia
   have e:xs.getD ((lo+hi) / 2) j=xs.getD ((lo+hi) / 2) 0:=by simp[Oh,hm]
   rw[e];by_cases hc:xs.getD ((lo+hi) / 2) 0<j
   .rw[Qf hc];refine Ew xs j fuel _ _ ha (by lia) h2 (by lia) (λi hi'=>?_) h5;rcases Q5 i ((lo+hi) / 2)with z | z
    .exact Nat.lt_trans (ha.lt z hm) hc
    .have:i=(lo+hi) / 2:=by lia
     rw[this];exact hc
   .rw[Qe hc];refine Ew xs j fuel _ _ ha (by lia) (by lia) (by lia) h4 λi hi' hs z=>hc ?_;rcases Q5 ((lo+hi) / 2) i with y | y
    .exact Nat.lt_trans (ha.lt y hs) z
    .have:i=(lo+hi) / 2:=by lia
     rw[<- this];exact z
  .rw[Qe h];have:lo=hi:=by lia
   subst this;exact⟨h2,h4,h5⟩
theorem Kf (ha:bV xs)(j:Nat):Yn xs j<=xs.size/\(∀i,i<Yn xs j->xs.getD i 0<j)/\∀i,Yn xs j<=i->i<xs.size->¬ xs.getD i 0<j:=
 Ew xs j xs.size 0 xs.size ha (XM _) (Xj _) (by lia) (λi h=>by lia) (λi h1 h2=>by lia)
theorem below_at (ha:bV xs)(hi:i<=xs.size):Yn xs (if i=0 then 0 else xs.getD (i-1) 0+1)=i:=by
 obtain⟨h1,h2,h3⟩:=Kf ha (if i=0 then 0 else xs.getD (i-1) 0+1)
 generalize Yn xs (if i=0 then 0 else xs.getD (i-1) 0+1)=r at h1 h2 h3
 by_cases e:i=0
 .subst e;rw[Qf rfl]at h2;rcases Nat.eq_zero_or_pos r with z | z
  .exact z
  .exact Qg (h2 0 z) (by lia)
 .rw[Qe e]at h2 h3;rcases Nat.lt_trichotomy r i with z | z | z
  .have q:=h3 (i-1) (by lia) (by lia);lia
  .exact z
  .have q1:=h2 i z;have q2:=ha.lt (show i-1<i by lia) (show i<xs.size by lia);lia
structure Rec (w:Wj)(h:Heap)(a:Addr)(es:Array (Int×Wb))(ep:Nat)(t:SetTable):Prop where
 obj:∃o,h.get? a=some o/\o.ExactSet/\o.data=.set es ep t
 fits:t.fits es.size=true
 led:t.led=true\/w.params.followText "set-order" = true
 asc:bV t.place
 dm:t.dummies = #[]
 sz:es.size<WW
theorem Rec.keep (r:Rec w h a es ep t)(k:∀o,h.get? a=some o->h'.get? a=some o):Rec w h' a es ep t:=
 ⟨let ⟨o,e,x⟩:=r.obj;⟨o,k o e,x⟩,r.fits,r.led,r.asc,r.dm,r.sz⟩
theorem Rec.type {s:Wc}(r:Rec w s.heap a es ep t):s.TypeIs (.ref a) "set":=
 let ⟨o,e,x,_⟩:=r.obj;⟨o,e,x.1⟩
namespace F
theorem slot_next:Slot "set_iterator" "__next__" "set_iterator.__next__":=.of (owner:="set_iterator") (n:="__next__") (by rw[typeLookup_type,WY];kernel_rfl) (by decide +kernel) (by decide +kernel) (by decide +kernel) (by first | exact .inl (by decide +kernel) | exact .inr (by decide +kernel)) (by rw[isSubtype_type];kernel_rfl)
theorem entry_next:entryFor table "set_iterator.__next__" = some Builtin.«set_iterator.__next__»:=entryFor_of_tree (by kernel_rfl)
theorem args_next (a:Wb):argsOk "set_iterator.__next__" ⟨[a],[]⟩:=by unfold argsOk;kernel_rfl
theorem Kg:Slot "set_iterator" "__iter__" "set_iterator.__iter__":=.of (owner:="set_iterator") (n:="__iter__") (by rw[typeLookup_type,WY];kernel_rfl) (by decide +kernel) (by decide +kernel) (by decide +kernel) (by first | exact .inl (by decide +kernel) | exact .inr (by decide +kernel)) (by rw[isSubtype_type];kernel_rfl)
theorem zng:entryFor table "set_iterator.__iter__" = some Builtin.«dict_keyiterator.__iter__»:=entryFor_alias (id':="dict_keyiterator.__iter__") (by kernel_rfl) rfl (by decide +kernel) (by kernel_rfl)
theorem zow (a:Wb):argsOk "set_iterator.__iter__" ⟨[a],[]⟩:=by unfold argsOk;kernel_rfl
theorem zhs:entryFor table "set.__iter__" = some Builtin.«frozenset.__iter__»:=entryFor_alias (id':="frozenset.__iter__") (by kernel_rfl) rfl (by decide +kernel) (by kernel_rfl)
end F
abbrev byText (w:Wj):Bool:=w.params.followText "set-order"
abbrev nH (first:Wb)(i n ep:Nat)(a:Addr):Obj:={ cls:=.type "set_iterator",data:=.fields #[first,.int i 0,.ref a,.int n 0,.int ep 0] }
inductive At (w:Wj) (h:Heap) (it a:Addr) (es:Array (Int×Wb)) (ep:Nat) (t:SetTable):Tr->Tq->Nat->Prop where
 | drawn (tp:Addr) (ps:Tt) (i:Nat):(tp≠it)->h.get? it=some (nH (.ref tp) i es.size ep a)->h.IsTuple tp (ps.map λ(p:Nat)=>Ov (p:Int) 0).toArray->ps.Perm (XE es.size)->At w h it a es ep t [tp] (ps.map λp=>(es.getD p (0,.none)).2) i
 | text (slot i:Nat):byText w=true->h.get? it=some (nH (.int slot 0) i es.size ep a)->At w h it a es ep t [] ((pickOrder (w.params.setOrder a ep) es).toList.map (·.2)) i
 | one (slot i:Nat):byText w=false->t.led=true->(t.plain=true\/es.size<=1)->h.get? it=some (nH (.int slot 0) i es.size ep a)->(slot=if i=0 then 0 else t.place.getD (i-1) 0+1)->At w h it a es ep t [] (es.toList.map (·.2)) i
section
variable {prog:Wg}{w:Wj}{A:Wl}{E:Ti}{s:Wc}{a it:Addr}{es:Array (Int×Wb)}{ep:Nat}{t:SetTable}
theorem oJ {Q:(Array (Int×Wb)×Nat×SetTable)->Wc->Prop}(r:Rec w s.heap a es ep t)(h:Q (es,ep,t) s):We (Wh prog w) A (setState a) Q E s:=by
 obtain⟨o,e,_,d⟩:=r.obj;exact wpAny_setState_of e d r.fits h
theorem Av {slot i n:Nat}{P:PySem.Fin->Wc->Prop}{F:Ti}(r:Rec w s.heap a es ep t)(ho:s.heap.get? it=some (nH (.int slot 0) i es.size ep a))
  (h:We (Wh prog w) A (setNext a slot i ep >>= λm=>match m with
     | some (x,next)=>setField (.ref it) 0 (WL next) >>= λ_=>setField (.ref it) 1 (WL ((i:Int)+1)) >>= λ_=>ret x
     | none=>setField (.ref it) 2 .none >>= λ_=>newExc (.type "StopIteration") [] >>= λe=>raiseNew e) P F s) :
  We (Wh prog w) A (Builtin.«set_iterator.__next__» ⟨[.ref it],[]⟩) P F s:=by
 unfold Builtin.«set_iterator.__next__» slotArgs;simp only[List.isEmpty_nil,Bool.not_true,Yd,if_false,QR,bne_self_eq_false];refine Wa (Wd (Wa (wpAny_fieldsOf ho rfl ?_)));dsimp only;unfold setEntries;refine Wa (Wa (oJ r (Wd ?_)));simp only[bne_self_eq_false,Yd,if_false,Pa];exact h
theorem Kh {tp i n:Nat}{items:Array Wb}{P:PySem.Fin->Wc->Prop}{F:Ti}(r:Rec w s.heap a es ep t)(ho:s.heap.get? it=some (nH (.ref tp) i es.size ep a))(ht:s.heap.IsTuple tp items)
  (h:We (Wh prog w) A (match items[i]? with
      | some (.int place _)=>setNextDrawn a place.toNat ep >>= λx=>setField (.ref it) 1 (WL ((i:Int)+1)) >>= λ_=>ret x
      | some _=>unsupported "internal:set_iterator"
      | none=>setField (.ref it) 0 (WL 0) >>= λ_=>setField (.ref it) 2 .none >>= λ_=>newExc (.type "StopIteration") [] >>= λe=>raiseNew e) P F s) :
  We (Wh prog w) A (Builtin.«set_iterator.__next__» ⟨[.ref it],[]⟩) P F s:=by
 unfold Builtin.«set_iterator.__next__» slotArgs;simp only[List.isEmpty_nil,Bool.not_true,Yd,if_false,QR,bne_self_eq_false];refine Wa (Wd (Wa (wpAny_fieldsOf ho rfl ?_)));dsimp only;unfold setEntries;refine Wa (Wa (oJ r (Wd ?_)));simp only[bne_self_eq_false,Yd,if_false,Pa];obtain⟨o,ho',_,n',hd⟩:=ht;exact Wa (WB ho' hd h)
theorem Kl {i:Nat}{slot:Nat}{Q:Option (Wb×Nat)->Wc->Prop}(r:Rec w s.heap a es ep t)(hb:byText w=true)
  (h:Q (((pickOrder (w.params.setOrder a ep) es)[i]?).map λe=>(e.2,slot)) s):We (Wh prog w) A (setNext a slot i ep) Q E s:=by
 have hb':w.params.followText "set-order" = true:=hb;unfold setNext setsByText;refine Wa (oJ r ?_);refine Wa (Wa (WU (Wd ?_)));simp only[Wh,hb',if_true,bne_self_eq_false,Yd,if_false];unfold setWalk setsByText;refine Wa (Wa (oJ r ?_));refine Wa (Wa (WU (Wd ?_)));simp only[Wh,hb',if_true];exact Wa (WU (Wd (Wd h)))
theorem Km {i:Nat}{slot:Nat}{Q:Option (Wb×Nat)->Wc->Prop}(r:Rec w s.heap a es ep t)(hb:byText w=false)(hl:t.led=true)(h1:t.plain=true\/es.size<=1)
  (h:Q (match es[Yn t.place slot]?,t.place[Yn t.place slot]? with | some (_,x),some j=>some (x,j+1) | _,_=>none) s):We (Wh prog w) A (setNext a slot i ep) Q E s:=by
 have hb':w.params.followText "set-order" = false:=hb;unfold setNext setsByText;refine Wa (oJ r ?_);refine Wa (Wa (WU (Wd ?_)));simp only[Wh,hb',Yd,if_false];have hd:(!t.plain&&decide (es.size > 1))=false:=by
  rcases h1 with z | z
  .rw[z];rfl
  .rw[Qc (by lia),Bool.and_false]
 have hm:(!t.led&&!es.isEmpty)=false:=by rw[hl];rfl
 show We (Wh prog w) A (if (!t.plain&&decide (es.size > 1))=true then _ else((if (!t.led&&!es.isEmpty)=true then unsupported "set:maker-not-led" else pure ()) >>= λ_=>pure _)) Q E s
 rw[hd,hm];exact Wa (Wd (Wd h))
theorem znh {p:Nat}{x:Wb}{hx:Int}(r:Rec w s.heap a es ep t)(hp:es[p]? = some (hx,x))(h:Q x s):We (Wh prog w) A (setNextDrawn a p ep) Q E s:=by
 unfold setNextDrawn;refine Wa (oJ r ?_);simp only[bne_self_eq_false,Yd,if_false,hp];exact Wd h
theorem Ko (hh:A.handled=none){R:Tv->Wc->Prop}(hR:∀h',(∀b o,s.heap.get? b=some o->h'.get? b=some o)->R none { s with heap:=h' }) :
  We (Wh prog w) A.in1 (newExc (.type "StopIteration") [] >>= λe=>(raiseNew e:Sem PySem.Fin)) (λ_ _=>False)
   (λe s'=>We (Wh prog w) A (isInstance e (.type "StopIteration") >>= λb=>if b=true then pure none else throw e) R E s') s:=by
 refine Wa ?_;simp only[newExc,newTuple];refine Wa (WP (Wa (m:=firstArgMember _ _) (wpAny_of_eq (a:=Value.none) (by first | rfl | (simp only[firstArgMember];rfl)) (WP ?_ (by size_fits)))) (by size_fits))
 simp only[raiseNew];refine Wa (wpAny_handled ?_);rw[show A.in1.handled=none from hh];refine Wa (Wd (wpAny_throw ?_));refine Wa (wpAny_isInstance (T:="StopIteration") (b:=true) ⟨_,Xx _ rfl,rfl⟩ isSubtype_stop ?_);exact Wd (hR _ λb o e=>Xe _ (Xe _ e))
theorem vo {first:Wb}{i n:Nat}{Q:Tv->Wc->Prop}(ho:s.heap.get? it=some (nH first i n ep a))
  (h:We (Wh prog w) A.in1 (Builtin.«set_iterator.__next__» ⟨[.ref it],[]⟩) (λfin s'=>∃u,fin=.done (.ret u)/\Q (some u) s')
   (λe s'=>We (Wh prog w) A (isInstance e (.type "StopIteration") >>= λb=>if b=true then pure none else throw e) Q E s') s):We (Wh prog w) A (WX (.ref it)) Q E s:=by
 have hT:s.TypeIs (.ref it) "set_iterator":=⟨_,ho,rfl⟩;unfold WX;refine Wa (wpAny_attempt (wpAny_callSpecial?_slot (name:=PX "__next__") hT F.slot_next (Wt F.slot_next hT F.entry_next ?_ (F.args_next _))));exact WC h (λfin s' ⟨u,e,q⟩=>⟨u,e,Wd q⟩) λ_ _ z=>z
theorem next_item {tq:Tr}{order:Tq}{i:Nat}{v:Wb}{Q:Tv->Wc->Prop}(r:Rec w s.heap a es ep t)(x:At w s.heap it a es ep t tq order i)(hv:order[i]? = some v)
  (hQ:∀h',At w h' it a es ep t tq order (i+1)->XV it s.heap h'->Q (some v) { s with heap:=h' }):We (Wh prog w) A (WX (.ref it)) Q E s:=by
 have hc:((i:Int)+1)=((i+1:Nat):Int):=by lia
 cases x with
 | drawn tp ps _ hne ho ht hp=>
  refine vo ho (Kh (n:=0) r ho ht ?_);rw[Xg]at hv;cases hpi:ps[i]? with
  | none=>rw[hpi]at hv;cases hv
  | some p=>
   rw[hpi]at hv;have hlt:p<es.size:=List.mem_range.mp (hp.mem_iff.mp (Xl hpi));have e1:(ps.map λ(p:Nat)=>Ov (p:Int) 0).toArray[i]? = some (Ov (p:Int) 0):=by simp[hpi]
   rw[e1];dsimp only;have e2:es[p]? = some (es[p].1,es[p].2):=by simp[hlt]
   have e3:v=es[p].2:=by
    have q:=Qa hv;rw[<- q];simp[Oh,hlt]
   rw[Pa];refine Wa (znh r e2 (Wa (WA ho rfl (by show 1<5;decide) (Wd ⟨_,rfl,?_⟩))));rw[<- e3];refine hQ _ (.drawn tp ps (i+1) hne ?_ ?_ hp) (XV.update ..)
   .rw[hc];exact XW _ ho rfl
   .obtain⟨o,q,c⟩:=ht;exact⟨o,(Yi _ _ (QD hne)).trans q,c⟩
 | text slot _ hb ho=>
  refine vo ho (Av (n:=0) r ho (Wa (Kl r hb ?_)));rw[Xg]at hv;cases hpi:(pickOrder (w.params.setOrder a ep) es).toList[i]? with
  | none=>rw[hpi]at hv;cases hv
  | some p=>
   rw[hpi]at hv;have e1:(pickOrder (w.params.setOrder a ep) es)[i]? = some p:=by rw[<- Array.getElem?_toList];exact hpi
   have e3:p.2=v:=Qa hv;rw[e1];dsimp only[Option.map];rw[e3];have ho1:(s.heap.update it (Od (·.setIfInBounds 0 (WL slot)))).get? it=some (nH (.int slot 0) i es.size ep a):=XW _ ho rfl;refine Wa (WA ho rfl (by show 0<5;decide) (Wa (WA ho1 rfl (by show 1<5;decide) (Wd ⟨_,rfl,?_⟩))));refine hQ _ (.text slot (i+1) hb ?_) ((XV.update ..).trans (XV.update ..));rw[hc];exact XW _ ho1 rfl
 | one slot _ hb hl h1 ho h0=>
  refine vo ho (Av (n:=0) r ho (Wa (Km r hb hl h1 ?_)));have hi:i<es.size:=by
   have q:=(Xc.mp hv).1;simpa using q
  have hps:t.place.size=es.size:=by
   have q:=r.fits;simp only[SetTable.fits,Yu,beq_iff_eq]at q;exact q.1
  have e0:Yn t.place slot=i:=by rw[h0];exact below_at r.asc (by lia)
  have e1:es[i]? = some (es[i].1,es[i].2):=by simp[hi]
  have e3:es[i].2=v:=by
   rw[Xg]at hv;have q:es.toList[i]? = some es[i]:=by simp[hi]
   rw[q]at hv;exact Qa hv
  have hip:i<t.place.size:=by lia
  obtain⟨pl,hpl⟩:∃pl,t.place[i]? = some pl:=⟨t.place[i],getElem?_pos t.place i hip⟩;have hpd:t.place.getD i 0=pl:=by
   rw[getElem?_pos t.place i hip]at hpl;simp only[Oh,hip,dif_pos];exact Qa hpl
  rw[e0,e1,hpl];dsimp only;rw[e3];have ho1:(s.heap.update it (Od (·.setIfInBounds 0 (WL ((pl+1:Nat):Int))))).get? it=some (nH (.int ((pl+1:Nat):Int) 0) i es.size ep a):=XW _ ho rfl;refine Wa (WA ho rfl (by show 0<5;decide) (Wa (WA ho1 rfl (by show 1<5;decide) (Wd ⟨_,rfl,?_⟩))));refine hQ _ (.one (pl+1) (i+1) hb hl h1 ?_ (by rw[Qe (by lia),Nat.add_sub_cancel,hpd])) ((XV.update ..).trans (XV.update ..));rw[hc];exact XW _ ho1 rfl
theorem zoy {tq:Tr}{order:Tq}{Q:Tv->Wc->Prop}(hh:A.handled=none)(r:Rec w s.heap a es ep t)(x:At w s.heap it a es ep t tq order es.size)
  (hQ:∀h',(∀b o,b≠it->s.heap.get? b=some o->h'.get? b=some o)->Q none { s with heap:=h' }):We (Wh prog w) A (WX (.ref it)) Q E s:=by
 have up:∀(k:Nat) (y:Wb) (h:Heap) (b:Addr) (o:Obj),b≠it->h.get? b=some o->(h.update it (Od (·.setIfInBounds k y))).get? b=some o:=λk y h b o hb e=>(Yi _ _ (QD hb)).trans e;have two:∀(slot i:Nat),s.heap.get? it=some (nH (.int slot 0) i es.size ep a)->We (Wh prog w) A.in1 (setField (.ref it) 2 .none >>= λ_=>newExc (.type "StopIteration") [] >>= λe=>(raiseNew e:Sem PySem.Fin))
   (λfin s'=>∃u,fin=.done (.ret u)/\Q (some u) s') (λe s'=>We (Wh prog w) A (isInstance e (.type "StopIteration") >>= λb=>if b=true then pure none else throw e) Q E s') s:=λslot i ho=>by
  refine Wa (WA ho rfl (by show 2<5;decide) ?_);exact WC (Ko (E:=E) (R:=Q) hh λh' k=>hQ h' λb o hb e=>k b o (up _ _ _ b o hb e)) (λ_ _ z=>z.elim) λ_ _ z=>z
 cases x with
 | drawn tp ps _ hne ho ht hp=>
  refine vo ho (Kh (n:=0) r ho ht ?_);have e1:(ps.map λ(p:Nat)=>Ov (p:Int) 0).toArray[es.size]? = none:=by
   have q:=hp.length_eq;rw[Yr]at q;simp[q]
  rw[e1];dsimp only;have ho1:(s.heap.update it (Od (·.setIfInBounds 0 (WL 0)))).get? it=some (nH (.int ((0:Nat):Int) 0) es.size es.size ep a):=XW _ ho rfl;refine Wa (WA ho rfl (by show 0<5;decide) (Wa (WA ho1 rfl (by show 2<5;decide) ?_)));exact WC (Ko (E:=E) (R:=Q) hh λh' k=>hQ h' λb o hb e=>k b o (up _ _ _ b o hb (up _ _ _ b o hb e))) (λ_ _ z=>z.elim) λ_ _ z=>z
 | text slot _ hb ho=>
  refine vo ho (Av (n:=0) r ho (Wa (Kl r hb ?_)));have q:=(Ke (w.params.setOrder a ep) es).length_eq;have e1:(pickOrder (w.params.setOrder a ep) es)[es.size]? = none:=by
   simp only[YD]at q;simp[q]
  rw[e1];dsimp only[Option.map];exact two slot _ ho
 | one slot _ hb hl h1 ho h0=>
  refine vo ho (Av (n:=0) r ho (Wa (Km r hb hl h1 ?_)));have hps:t.place.size=es.size:=by
   have q:=r.fits;simp only[SetTable.fits,Yu,beq_iff_eq]at q;exact q.1
  have e0:es[Yn t.place slot]? = none:=by
   rw[h0,below_at r.asc (by lia)];simp
  rw[e0];dsimp only;exact two slot _ ho
theorem zoz {Q:Bool->Wc->Prop}(r:Rec w s.heap a es ep t)(h:Q (!byText w&&(!t.plain&&decide (es.size > 1))) s):We (Wh prog w) A (setDrawn a) Q E s:=by
 unfold setDrawn setsByText;refine Wa (oJ r ?_);exact Wa (Wa (WU (Wd (Wd h))))
theorem At.keep (x:At w h it a es ep t tq order i)(k:∀b∈it::tq,∀o,h.get? b=some o->h'.get? b=some o):At w h' it a es ep t tq order i:=by
 cases x with
 | drawn tp ps _ hne ho ht hp=>
  obtain⟨o,q,c⟩:=ht;exact .drawn tp ps i hne (k it (by simp) _ ho) ⟨o,k tp (by simp) o q,c⟩ hp
 | text slot _ hb ho=>exact .text slot i hb (k it (by simp) _ ho)
 | one slot _ hb hl h1 ho h0=>exact .one slot i hb hl h1 (k it (by simp) _ ho) h0
theorem At.len (x:At w h it a es ep t tq order i):order.Perm (es.toList.map (·.2)):=by
 cases x with
 | drawn tp ps _ hne ho ht hp=>
  have e:(XE es.size).map (λp=>(es.getD p (0,Value.none)).2)=es.toList.map (·.2):=by
   apply List.ext_getElem
   .simp
   .intro j h1 h2;simp at h1;simp[Oh,h1]
  rw[<- e];exact hp.map _
 | text slot _ hb ho=>exact(Ke _ _).map _
 | one slot _ hb hl h1 ho h0=>exact List.Perm.refl _
theorem zri {Q:Ti}(r:Rec w s.heap a es ep t)
  (h:∀(h':Heap) (d:Drawn) (it:Addr) (tq:Tr) (order:Tq),(∀b o,s.heap.get? b=some o->h'.get? b=some o)->s.heap.objs.size<=it->(∀b∈it::tq,s.heap.objs.size<=b/\b<h'.objs.size)->At w h' it a es ep t tq order 0->
   Q (.ref it) { s with heap:=h',drawn:=d }):We (Wh prog w) A (pyIter (.ref a)) Q E s:=by
 refine wpAny_pyIter_slot r.type PySem.F.slot_set_iter (Wt PySem.F.slot_set_iter r.type F.zhs ?_ (PySem.F.args_set_iter_1 _));unfold Builtin.«frozenset.__iter__» Builtin.Frozenset.slot0 slotArgs;simp only[List.isEmpty_nil,Bool.not_true,Yd,if_false,QR,bne_self_eq_false,bind_assoc];unfold Builtin.Frozenset.addrOf Builtin.Frozenset.sizeOf setEntries setEpoch;refine Wa (Wd ?_);dsimp only;refine Wa (Wd ?_);simp only[bind_assoc];refine Wa (oJ r (Wa (Wd (Wa (Wd (Wa (zoz r ?_)))))));cases hd:(!byText w&&(!t.plain&&decide (es.size > 1)))with
 | true=>
  simp only[Yu,Bool.not_eq_true',decide_eq_true_eq]at hd;simp only[if_true,bind_assoc];refine Wa (Ka es.size (XE es.size) _ _ (by simp) λps d hp=>?_);refine Wa (wpAny_newTuple ?_ (by rw[Xb,hp.length_eq,Yr];exact fits_of_scanBound r.sz));dsimp only;have hz:(s.heap.push { cls:=.type "tuple",data:=.seq (ps.map λ(i:Nat)=>WL (i:Int)).toArray }).objs.size=s.heap.objs.size+1:=Ym ..;have r1:Rec w (s.heap.push { cls:=.type "tuple",data:=.seq (ps.map λ(i:Nat)=>WL (i:Int)).toArray }) a es ep t:=r.keep λo e=>Xe _ e;refine Wa (oJ (s:={ s with heap:=s.heap.push { cls:=.type "tuple",data:=.seq (ps.map λ(i:Nat)=>WL (i:Int)).toArray },drawn:=d }) r1 (Wa (Wd (Wa (WP (Wd ?_))))));refine⟨_,rfl,"set_iterator",_,⟨_,Xx _ rfl,rfl⟩,F.slot_next.lookup,?_⟩;refine h _ d _ [s.heap.objs.size] _ (λb o e=>Xe _ (Xe _ e)) (by rw[hz];exact Ph _) (λb hb=>?_)
   (.drawn s.heap.objs.size ps 0 (by rw[hz];exact XB (YJ _)) (Xx _ rfl) ⟨_,Xe _ (Xx _ rfl),rfl,_,rfl⟩ hp)
  rw[Ym,hz];rcases Xn.mp hb with e | hb
  .rw[hz]at e;rw[e];exact⟨Ph _,YJ _⟩
  .have e:=Xv.mp hb;rw[e];exact⟨Xj _,Pu (YJ _)⟩
 | false=>
  simp only[Yd,if_false];refine Wa (Wd (Wa (oJ r (Wa (Wd (Wa (WP (Wd ?_))))))));refine⟨_,rfl,"set_iterator",_,⟨_,Xx _ rfl,rfl⟩,F.slot_next.lookup,?_⟩;have fin:∀order,At w (s.heap.push (nH (.int ((0:Nat):Int) 0) 0 es.size ep a)) s.heap.objs.size a es ep t [] order 0->Q (.ref s.heap.objs.size) { s with heap:=s.heap.push (nH (.int ((0:Nat):Int) 0) 0 es.size ep a) }:=λorder x=>
   h _ s.drawn _ [] order (λb o e=>Xe _ e) (Xj _) (λb hb=>by
    have e:b=s.heap.objs.size:=by simpa using hb
    subst e;rw[Ym];exact⟨Xj _,YJ _⟩) x
  cases hb:byText w with
  | true=>exact fin _ (.text 0 0 hb (Xx _ rfl))
  | false=>
   rw[hb]at hd;have hl:t.led=true:=by
    rcases r.led with z | z
    .exact z
    .have z':byText w=true:=z;rw[hb]at z';cases z'
   have h1:t.plain=true\/es.size<=1:=by
    cases hp:t.plain with
    | true=>exact .inl rfl
    | false=>
     rw[hp]at hd;simp only[Bool.not_false,Bool.true_and,decide_eq_false_iff_not]at hd;exact .inr (by lia)
   exact fin _ (.one 0 0 hb hl h1 (Xx _ rfl) rfl)
theorem walks (hh:A.handled=none)(hta:a∉it::tq)(h0:order.length=es.size) :
  WalksS prog w A it (it::a::tq) [it] (λx y=>y=x) es.size (λi v=>order[i]? = some v) (λi s=>Rec w s.heap a es ep t/\At w s.heap it a es ep t tq order i) where
 sub:=λb hb=>by
  have e:b=it:=by simpa using hb
  subst e;exact Xh
 grefl:=λ_=>rfl
 gtrans:=λ_ _ _ h1 h2=>h2.trans h1
 frame:=λi s h' tk st _ k=>⟨st.1.keep λo e=>k a (by simp) o e,st.2.keep λb hb o e=>k b (by
  rcases Xn.mp hb with z | z
  .subst z;exact Xh
  .exact Xf _ (Xf _ z)) o e⟩
 item:=λi s Q E hi st hQ=>by
  have hv:order[i]? = some (order[i]'(by lia)):=by simp
  refine next_item st.1 st.2 hv λh' x sb=>?_;have ne:a≠it:=λz=>hta (by rw[z];exact Xh);exact hQ _ _ hv ⟨st.1.keep λo e=>(sb.2 a ne).trans e,x⟩ ⟨λb o hb e=>(sb.2 b (λz=>hb (by simp[z]))).trans e,rfl,rfl,rfl,Xj _⟩
 done:=λs Q E st hQ=>zoy hh st.1 st.2 λh' k=>hQ _ ⟨λb o hb e=>k b o (λz=>hb (by simp[z])) e,rfl,rfl,rfl,Xj _⟩
 self:=λi s Q E st hQ=>by
  have hT:s.TypeIs (.ref it) "set_iterator":=by
   rcases st.2 with ⟨tp,ps,_,_,ho,_⟩ | ⟨slot,_,_,ho⟩ | ⟨slot,_,_,_,_,ho,_⟩
   .exact⟨_,ho,rfl⟩
   .exact⟨_,ho,rfl⟩
   .exact⟨_,ho,rfl⟩
  refine wpAny_pyIter_slot hT F.Kg (Wt F.Kg hT F.zng ?_ (F.zow _));show We _ _ (ret (.ref it)) _ _ s;exact Wd ⟨_,rfl,"set_iterator",_,hT,F.slot_next.lookup,hQ⟩
theorem zkH {Q:Tq->Wc->Prop}(hh:A.handled=none)(r:Rec w s.heap a es ep t)
  (h:∀(h':Heap) (d:Drawn) (tk:Nat) (order:Tq),order.Perm (es.toList.map (·.2))->(∀b o,s.heap.get? b=some o->h'.get? b=some o)->Q order { s with heap:=h',drawn:=d,toks:=tk }):We (Wh prog w) A (collect (.ref a)) Q E s:=by
 unfold collect;refine Wa (wpAny_runValue (WH PySem.F.entry_proto_collect ?_));rw[QH PySem.F.plain_proto_collect _];show We _ A.in1 (newList [] >>= λl=>again (.builtin "list.__iadd__" ⟨[l,.ref a],[]⟩)) _ _ s;refine Wa (wpAny_newList (Wd ⟨W5 PySem.F.plain_list_iadd _,WH PySem.F.entry_list_iadd ?_⟩));rw[QH PySem.F.plain_list_iadd _];have hS0:(s.heap.push { cls:=.type "list",data:=.seq ([]:Tq).toArray }).get? s.heap.objs.size=some { cls:=.type "list",data:=.seq ([]:Tq).toArray }:=Xx _ rfl;have hz0:(s.heap.push { cls:=.type "list",data:=.seq ([]:Tq).toArray }).objs.size=s.heap.objs.size+1:=Ym ..;have r0:Rec w (s.heap.push { cls:=.type "list",data:=.seq ([]:Tq).toArray }) a es ep t:=r.keep λo e=>Xe _ e;have haS:a<s.heap.objs.size:=by obtain⟨o,e,_⟩:=r.obj;exact Xw e
 show We _ A.in1 (Pj (.ref s.heap.objs.size) (.ref a) (.ref s.heap.objs.size)) _ _ { s with heap:=s.heap.push { cls:=.type "list",data:=.seq ([]:Tq).toArray } };unfold Pj;refine Wa (wpAny_typeOf (T:="set") r0.type ?_);have h1:Builtin.List.listSameRef (.ref s.heap.objs.size) (.ref a)=false:=by simp[Builtin.List.listSameRef,Yh haS]
 have h2:(Qw "set" == Qw "list")=false:=by decide
 have h3:(Qw "set" == Qw "tuple")=false:=by decide
 simp only[h1,h2,h3,Bool.or_false,Yd,if_false];refine Wa (zri (s:={ s with heap:=s.heap.push { cls:=.type "list",data:=.seq ([]:Tq).toArray } }) r0 λh' d it tq order kp hit hfp x=>?_);have rT:Shared.TypeIs { s with heap:=h',drawn:=d } (.ref a) "set":=(r0.keep λo e=>kp a o e).type;have room:∀ {Q':Bool->Wc->Prop} {A':Wl} {E':Ti},Q' false { s with heap:=h',drawn:=d }->We (Wh prog w) A' (Builtin.List.listLengthHint (.ref a)) Q' E' { s with heap:=h',drawn:=d }:=λ{Q' A' E'} hq=>by
  unfold Builtin.List.listLengthHint;refine Wa (wpAny_specialOf rT PySem.F.slot_set_len.lookup ?_);generalize hid:("set.__len__" : String)=id0;wp_delta;rw[show splitId id0=some ("set","__len__") from by subst hid;decide +kernel];subst hid;refine Wa (wpAny_isInstance (T:="set") (b:=true) rT (by rw[isSubtype_type];kernel_rfl) ?_);refine wpAny_ite_split (λhab=>Qg hab (by decide)) (λ_=>wpAny_ite_split (λ_=>?_) (λhab=>Qg (by decide +kernel) hab));exact Wa (wpAny_typeOf rT (Wd hq))
 refine Wa (Wy (room ?_));show We _ A.in1 (rule "list.extend.makes-room" >>= λ_=>Builtin.List.listTouch (.ref s.heap.objs.size) >>= λ_=>again (.builtin "list.extend.loop" ⟨[.ref s.heap.objs.size,.ref it,.ref s.heap.objs.size],[]⟩)) _ _ { s with heap:=h',drawn:=d };refine Wa (W2 ?_);have hS1:h'.get? s.heap.objs.size=some { cls:=.type "list",data:=.seq ([]:Tq).toArray }:=kp _ _ hS0;refine Wa ?_;show We _ A.in1 (updateSeq s.heap.objs.size (·.push .none) >>= λ_=>updateSeq s.heap.objs.size (·.pop)) _ _ { s with heap:=h',drawn:=d };refine Wa (wpAny_updateSeq hS1 rfl ?_);have hS2:=XW (Og (·.push Value.none)) hS1 rfl;refine wpAny_updateSeq hS2 rfl ?_;have hS3:=XW (Og (·.pop)) hS2 rfl;have oth:∀b o,b≠s.heap.objs.size->h'.get? b=some o->((h'.update s.heap.objs.size (Og (·.push Value.none))).update s.heap.objs.size (Og (·.pop))).get? b=some o:=
  λb o hb e=>(Yi _ _ (QD hb)).trans ((Yi _ _ (QD hb)).trans e)
 have hlow:∀b∈it::tq,s.heap.objs.size<b:=λb hb=>by
  have q:=(hfp b hb).1;dsimp only at q;rw[hz0]at q;exact q
 have hta:a∉it::tq:=λz=>Nat.lt_asymm haS (hlow a z);have hSf:s.heap.objs.size∉it::a::tq:=λz=>by
  rcases Xn.mp z with e | z
  .exact Qg (hlow it Xh) (by rw[<- e];exact YH _)
  .rcases Xn.mp z with e | z
   .exact Qg haS (by rw[<- e];exact YH _)
   .exact Qg (hlow _ (Xf _ z)) (YH _)
 have W:=walks (prog:=prog) (w:=w) (A:=A.in1) (it:=it) (a:=a) (es:=es) (ep:=ep) (t:=t) (tq:=tq) (order:=order) (by simpa using hh) hta (by rw[x.len.length_eq];simp);refine Wd ⟨W5 PySem.F.plain_extend_loop _,codeAny_extend_loopS W (fits_of_scanBound r.sz) _ hSf _ es.size 0 _ _ _ rfl (XM _) ⟨(r0.keep λo e=>kp a o e).keep λo e=>oth a o (XB haS) e,x.keep λb hb o e=>oth b o (Yh (hlow b hb)) e⟩ hS3 (ItemsOf.nil _) λs' acc' c' hm hS' hacc=>?_⟩;show We _ A (load s.heap.objs.size >>= _) _ _ s';refine Wa (wpAny_load hS' (Wd ?_));have eacc:acc'.toList=order:=by
  apply List.ext_getElem?;intro j;by_cases hj:j<es.size
  .have q1:acc'[j]? = some (acc'[j]'(by rw[hacc.1];exact hj)):=by simp[hacc.1,hj]
   have q2:=hacc.2 j _ q1;rw[q2,<- q1];simp
  .have q1:acc'.toList[j]? = none:=by simp[hacc.1];lia
   have q3:order.length=es.size:=by rw[x.len.length_eq];simp
   have q2:order[j]? = none:=by simp[q3];lia
   rw[q1,q2]
 rw[eacc];obtain⟨h2',g2,d2,t2,o2⟩:=s';have e1:g2=s.gens:=hm.gens;have e2:d2=d:=hm.drawn;have e3:o2=s.os:=hm.os;subst e1 e2 e3;refine h h2' d2 t2 order x.len λb o e=>?_;have hb:b<s.heap.objs.size:=Xw e;refine hm.heap b o (λz=>?_) (oth b o (XB hb) (kp b o (Xe _ e)));rcases Xn.mp z with q | q
 .exact XB hb q
 .have q':b=it:=by simpa using q
  exact Qg (hlow it Xh) (by rw[<- q'];exact Nat.lt_asymm hb)
end
open PySem PySem.Spec PyProof.Rows
def Aw:Wb->Str
 | .str x _=>x
 | _=>Str.empty
theorem Kq {hs:Array Int}{o:Array Nat}(h:t.relaid hs n=some (t',o)):t'.led=t.led/\t'.plain=t.plain:=by
 unfold SetTable.relaid SetTable.laid at h;cases e:SetTable.layClean (SetTable.sizeAbove n-1) hs with
 | none=>rw[e]at h;cases h
 | some ow=>
  rw[e]at h;have q:=Qa h;rw[<- (Prod.mk.inj q).1];exact⟨rfl,rfl⟩
theorem zni (t:SetTable)(es:Array (Int×Wb))(h:Int)(x:Wb):(layNew t es h x).2.1.led=t.led/\(t.plain=false->(layNew t es h x).2.1.plain=false):=by
 unfold layNew;cases e:t.freeSlot h with
 | none=>exact⟨rfl,λ_=>rfl⟩
 | some p=>
  obtain⟨slot,dm⟩:=p;dsimp only;unfold SetTable.orStandIn;split
  .exact⟨rfl,λz=>z⟩
  .exact⟨rfl,λ_=>rfl⟩
theorem zoA (t:SetTable)(es:Array (Int×Wb))(n:Nat):(W9 t es n).2.1.led=t.led/\(t.plain=false->(W9 t es n).2.1.plain=false):=by
 unfold W9;cases e:t.relaid (es.map (·.1)) n with
 | none=>exact⟨rfl,λ_=>rfl⟩
 | some p=>
  obtain⟨t',o⟩:=p;dsimp only;split
  .exact⟨(Kq e).1,λz=>(Kq e).2.trans z⟩
  .exact⟨rfl,λ_=>rfl⟩
theorem znj (ha:bV xs){j:Nat}(hn:¬ (xs[Yn xs j]? == some j)=true):bV (SetTable.insertAt xs (Yn xs j) j):=by
 obtain⟨h1,h2,h3⟩:=Kf ha j;generalize Yn xs j=r at h1 h2 h3 hn;have hnot:∀i,r<=i->i<xs.size->j<xs.getD i 0:=λi g1 g2=>by
  have q:=h3 r (Xj _) (by lia);have q2:xs.getD r 0≠j:=λe=>by
   have hr:r<xs.size:=by lia
   have e2:xs[r]=j:=by simpa[Oh,hr]using e
   exact hn (by rw[getElem?_pos xs r hr,e2];simp)
  rcases Q5 r i with z | z
  .have:=ha.lt z g2;lia
  .have:i=r:=by lia
   subst this;lia
 have hl:(SetTable.insertAt xs r j).toList=xs.toList.take r++[j]++xs.toList.drop r:=by
  unfold SetTable.insertAt;simp[Array.toList_extract,List.extract_eq_drop_take,Xs]
 unfold bV;rw[hl,List.pairwise_append,List.pairwise_append];refine⟨⟨List.Pairwise.sublist (List.take_sublist _ _) ha,by simp,λa hm b hb=>?_⟩,List.Pairwise.sublist (List.drop_sublist _ _) ha,λa hm b hb=>?_⟩
 .rw[Xv.mp hb];obtain⟨i,hi,rfl⟩:=YF.mp hm;rw[XH]at hi;rw[List.getElem_take];have q:=h2 i (by lia);simpa[Oh,show i<xs.size by lia]using q
 .obtain⟨i,hi,rfl⟩:=YF.mp hb;rw[Ow,YD]at hi;rw[List.getElem_drop];have q:=hnot (r+i) (by lia) (by lia);have q:j<xs.toList[r+i]'(by simp;lia):=by simpa[Oh,show r+i<xs.size by lia]using q
  rcases Xz.mp hm with hm | hm
  .obtain⟨k,hk,rfl⟩:=YF.mp hm;rw[XH]at hk;rw[List.getElem_take];have q2:=h2 k (by lia);have q2:xs.toList[k]'(by simp;lia)<j:=by simpa[Oh,show k<xs.size by lia]using q2
   lia
  .rw[Xv.mp hm];exact q
theorem Kr (t:SetTable)(hd:t.dummies = #[])(g:Nat->Int)(h:Int):∀(fuel:Nat)(p:SetTable.Probe)(j:Nat)(d:Option Nat),p.dummy=none->SetTable.probe.go t g h fuel p=some (.empty j d)->d=none/\t.slot j=.empty
 | 0,p,j,d,hp,e=>by unfold SetTable.probe.go at e;cases e
 | fuel+1,p,j,d,hp,e=>by
  have hadv:(t.advance p).dummy=none:=by unfold SetTable.advance;split<;>exact hp
  have hh:SetTable.has t.dummies p.j=false:=by rw[hd];unfold SetTable.has;simp
  have hno:t.slot p.j≠.dummy:=λz=>by
   unfold SetTable.slot at z;dsimp only at z;rw[hh]at z;simp only[Yd,if_false]at z;split at z<;>cases z
  unfold SetTable.probe.go at e;cases hs:t.slot p.j with
  | empty=>rw[hs]at e;cases e;exact⟨hp,hs⟩
  | dummy=>exact Qg hs hno
  | live i=>
   rw[hs]at e;dsimp only at e;split at e
   .cases e
   .exact Kr t hd g h fuel _ j d hadv e
theorem znk (ha:bV t.place)(hd:t.dummies = #[])(es:Array (Int×Wb))(h:Int)(x:Wb):bV (layNew t es h x).2.1.place/\(layNew t es h x).2.1.dummies = #[]:=by
 unfold layNew;cases e:t.freeSlot h with
 | none=>exact⟨Ar _,rfl⟩
 | some p=>
  obtain⟨slot,dm⟩:=p;dsimp only;unfold SetTable.orStandIn;split
  .unfold SetTable.freeSlot at e;have hs:t.slot slot=.empty:=by
    cases hp:t.probe (λ_=>h+1) h (t.probeStart h)with
    | none=>rw[hp]at e;cases e
    | some m=>
     rw[hp]at e;cases m with
     | candidate j i n=>cases e
     | empty j d=>
      obtain⟨q1,q2⟩:=Kr t hd _ _ _ _ _ _ rfl hp;subst q1;cases e;exact q2
   unfold SetTable.put;dsimp only;have hnh:SetTable.has t.dummies slot=false:=by rw[hd];unfold SetTable.has;simp
   rw[hnh];refine⟨znj ha λz=>?_,hd⟩;unfold SetTable.slot at hs;rw[Qf z]at hs;cases hs
  .exact⟨Ar _,rfl⟩
theorem znl {hs:Array Int}{o:Array Nat}(h:t.relaid hs n=some (t',o)):bV t'.place/\t'.dummies = #[]:=by
 unfold SetTable.relaid SetTable.laid at h;cases e:SetTable.layClean (SetTable.sizeAbove n-1) hs with
 | none=>rw[e]at h;cases h
 | some ow=>
  rw[e]at h;have q:=Qa h;rw[<- (Prod.mk.inj q).1];refine⟨?_,rfl⟩;unfold bV;dsimp only;rw[List.pairwise_map,List.pairwise_filterMap];refine List.pairwise_lt_range.imp λ{a b} hab p hp q hq=>?_;cases ha:ow.getD a none with
  | none=>rw[ha]at hp;cases hp
  | some x=>
   cases hb:ow.getD b none with
   | none=>rw[hb]at hq;cases hq
   | some y=>rw[ha]at hp;rw[hb]at hq;cases hp;cases hq;exact hab
theorem zoB (es:Array (Int×Wb))(n:Nat):bV (W9 t es n).2.1.place/\(W9 t es n).2.1.dummies = #[]:=by
 unfold W9;cases e:t.relaid (es.map (·.1)) n with
 | none=>exact⟨Ar _,rfl⟩
 | some p=>
  obtain⟨t',o⟩:=p;dsimp only;split
  .exact znl e
  .exact⟨Ar _,rfl⟩
def gw {M:Type} [DecidableEq M] {prog:Wg}{w:Wj}(knd:Oz prog w M)(of:Wb->M)(h:Heap)(a:Addr)(xs:List M):Prop:=
 ∃es ep t,Rec w h a es ep t/\ElemsOf knd es.toList/\(es.toList.map λe=>of e.2).Perm xs/\xs.Nodup
def bZ {M:Type} [DecidableEq M] (xs:List M)(y:M):List M:=if y∈xs then xs else y::xs
abbrev Ey (prog:Wg)(w:Wj):Heap->Addr->Tn->Prop:=gw (PySem.strKind prog w) Aw
section
variable {M:Type} [DecidableEq M] {prog:Wg}{w:Wj}{A:Wl}{E:Ti}{s:Wc}{a:Addr}{knd:Oz prog w M}{of:Wb->M}
theorem gw.keep {xs:List M}(S:gw knd of h a xs)(k:∀o,h.get? a=some o->h'.get? a=some o):gw knd of h' a xs:=
 let ⟨es,ep,t,r,q⟩:=S;⟨es,ep,t,r.keep k,q⟩
theorem Ks {es':Array (Int×Wb)}(r:Rec w h a es ep t)(hf:t'.fits es'.size=true)(hl:t'.led=t.led)(hp:bV t'.place/\t'.dummies = #[])(hz:es'.size<WW) :
  Rec w (h.update a (Obj.putSet es' t')) a es' (ep+1) t':=by
 obtain⟨o,ho,hex,hd⟩:=r.obj;have hg:(h.update a (Obj.putSet es' t')).get? a=some { o with data:=.set es' (ep+1) t' }:=by
  have q:=XW (Obj.putSet es' t') ho (by rw[putSet_of es' t' hd];rfl)
  rwa [putSet_of es' t' hd]at q
 exact⟨⟨_,hg,hex,rfl⟩,hf,by rw[hl];exact r.led,hp.1,hp.2,hz⟩
theorem Ku {es':Array (Int×Wb)}{Q:Unit->Wc->Prop}(r:Rec w s.heap a es ep t)(hz:es'.size<WW)(h:Q () { s with heap:=s.heap.update a (Obj.putSet es' t') }):We (Wh prog w) A (storeSet a es' t') Q E s:=by
 obtain⟨o,ho,_,hd⟩:=r.obj;exact wpAny_storeSet_of ho hd h (fits_of_scanBound hz)
theorem zwh {es:List (Int×Wb)}{y:M}(hof:∀k v,knd.is k v=true->of v=k)(hel:ElemsOf knd es):(∃e∈es,knd.is y e.2=true)↔y∈es.map λe=>of e.2:=by
 constructor
 .rintro⟨e,he,hi⟩;exact XF.mpr ⟨e,he,hof _ _ hi⟩
 .intro hm;obtain⟨e,he,q⟩:=XF.mp hm;obtain⟨⟨k,hk,_⟩,_⟩:=hel e he;refine⟨e,he,?_⟩;rw[hof _ _ hk]at q;rw[<- q];exact hk
theorem zwi {xs:List M}{y:M}{x:Wb}{Q:Bool->Wc->Prop}(hof:∀k v,knd.is k v=true->of v=k)(hkey:knd.is y x=true)(hsc:x.scannable=true)(S:gw knd of s.heap a xs)(hroom:xs.length+1<WW)
  (h:∀h' b,XV a s.heap h'->gw knd of h' a (bZ xs y)->Q b { s with heap:=h' }):We (Wh prog w) A (setAddHashed a x (knd.hash y)) Q E s:=by
 obtain⟨es,ep,t,r,hel,hp,nd⟩:=S;obtain⟨o,ho,hex,hd⟩:=r.obj;have hsz:es.size=xs.length:=by rw[<- hp.length_eq];simp
 have hmem:(∃e∈es.toList,knd.is y e.2=true)↔y∈xs:=(zwh hof hel).trans hp.mem_iff;unfold setAddHashed;refine Wy ?_;show We _ _ (bind (setState a) _) _ _ s;refine Wa (oJ r ?_);dsimp only;rw[byScan_of hsc r.sz hel];simp only[if_true];unfold setAddByScan;refine Wa (Wa (W2 (Wa (wpAny_setScan_of (knd:=knd) hkey ho hd r.fits hel ?_))));cases hr:List.findIdx? (λe=>knd.is y e.2) es.toList with
 | some j=>
  obtain⟨hj,hpj,_⟩:=List.findIdx?_eq_some_iff_getElem.mp hr;have hy:y∈xs:=hmem.mp ⟨_,YA hj,hpj⟩;have q:=h s.heap false (XV.refl a s.heap) (by unfold bZ;rw[Qf hy];exact⟨es,ep,t,r,hel,hp,nd⟩);exact Wd (Wd q)
 | none=>
  have hy:y∉xs:=λz=>by
   obtain⟨e,he,hpe⟩:=hmem.mpr z;have q:=List.findIdx?_eq_none_iff.mp hr e he;rw[hpe]at q;cases q
  have hgw:∀(b:Bool) {s₁:Wc} {Q':Unit->Wc->Prop},Q' () s₁->We (Wh prog w) A (match b with | true=>rule "set.scan.the-table-gave-way" | false=>pure ()) Q' E s₁:=λb s₁ Q' hq=>by
   cases b
   .exact Wd hq
   .exact W2 hq
  have p1:=layNew_perm t es (knd.hash y) x;have f1:=layNew_fits t es (knd.hash y) x;have l1:=zni t es (knd.hash y) x;have g1:=znk r.asc r.dm es (knd.hash y) x;generalize hL:layNew t es (knd.hash y) x=L at p1 f1 l1 g1 ⊢;obtain⟨es1,t1,dm,gave⟩:=L;dsimp only at p1 f1 l1 g1 ⊢;rw[Array.toList_push]at p1;have hel1:ElemsOf knd es1.toList:=(hel.push hkey hsc).perm p1;have z1:es1.size=xs.length+1:=by rw[<- YD,p1.length_eq,Xr,YD,hsz];rfl
  have b1:es1.size<WW:=by rw[z1];exact hroom
  have m1:(es1.toList.map λe=>of e.2).Perm (y::xs):=by
   refine(p1.map _).trans ?_;rw[Xp];refine(List.perm_append_comm).trans ?_;show(of x::es.toList.map λe=>of e.2).Perm _;rw[hof _ _ hkey];exact hp.cons y
  have nd1:(y::xs).Nodup:=XO.mpr ⟨hy,nd⟩;have eadd:bZ xs y=y::xs:=by unfold bZ;rw[Qe hy]
  rw[eadd]at h;refine Wa (hgw gave ?_);have tail:∀t2:SetTable,t2.fits es1.size=true->t2.led=t.led->(bV t2.place/\t2.dummies = #[])->We (Wh prog w) A (do
    storeSet a es1 t2
    if (!dm&&t2.tooFull)=true then do
     (match (W9 t2 es1 (Pg es1.size)).2.2 with | true=>rule "set.scan.the-table-gave-way" | false=>pure ())
     storeSet a (W9 t2 es1 (Pg es1.size)).1 (W9 t2 es1 (Pg es1.size)).2.1
     pure (some true)
    else pure (some true)) (λr s'=>We (Wh prog w) A (match r with | some added=>pure added | none=>setAddHashedIn a x (knd.hash y) 99999) Q E s') E s:=λt2 f2 l2 p2=>by
   have r2:=Ks (w:=w) r f2 l2 p2 b1;have sb1:=XV.update s.heap a (Obj.putSet es1 t2);refine Wa (Ku r b1 ?_);split
   .have p3:=relayAll_perm t2 es1 (Pg es1.size);have f3:=relayAll_fits t2 es1 (Pg es1.size);have l3:=zoA t2 es1 (Pg es1.size);have g3:=zoB (t:=t2) es1 (Pg es1.size);generalize hR:W9 t2 es1 (Pg es1.size)=R at p3 f3 l3 g3 ⊢;obtain⟨es2,t3,gave2⟩:=R;dsimp only at p3 f3 l3 g3 ⊢;have z2:es2.size=es1.size:=by rw[<- YD,p3.length_eq,YD]
    refine Wa (hgw gave2 (Wa (Ku (s:={ s with heap:=s.heap.update a (Obj.putSet es1 t2) }) r2 (by rw[z2];exact b1) (Wd (Wd ?_)))));exact h _ true (sb1.trans (XV.update _ a _)) ⟨es2,_,t3,Ks r2 f3 l3.1 g3 (by rw[z2];exact b1),hel1.perm p3,(p3.map _).trans m1,nd1⟩
   .exact Wd (Wd (h _ true sb1 ⟨es1,_,t2,r2,hel1,m1,nd1⟩))
  cases hpl:t1.plain with
  | true=>
   simp only[if_true];rw[hashByValue_scannable 8 (x:=x) hsc];refine Wa (Wd ?_);cases plainKind x with
   | true=>exact tail t1 f1 l1.1 g1
   | false=>exact tail { t1 with plain:=false } (SetTable.fits_plain_off f1) l1.1 g1
  | false=>
   simp only[Yd,if_false];refine Wa (Wd ?_);exact tail t1 f1 l1.1 g1
end
section
variable {M:Type} [DecidableEq M]
theorem zrj {xs:List M}{y x:M}:x∈bZ xs y↔x=y\/x∈xs:=by
 unfold bZ;split
 .rename_i h
  constructor
  .exact .inr
  .rintro(rfl | h')
   .exact h
   .exact h'
 .exact Xn
theorem zrk (xs:List M)(y:M):(bZ xs y).length<=xs.length+1:=by
 unfold bZ;split
 .lia
 .simp
theorem Kv:∀(ys xs:List M)(x:M),x∈ys.foldl bZ xs↔x∈xs\/x∈ys
 | [],xs,x=>by simp
 | y::ys,xs,x=>by
  rw[Q6,Kv ys (bZ xs y) x,zrj,Xn];constructor
  .rintro((h | h) | h)
   .exact .inr (.inl h)
   .exact .inl h
   .exact .inr (.inr h)
  .rintro(h | h | h)
   .exact .inl (.inr h)
   .exact .inl (.inl h)
   .exact .inr h
theorem Ez:∀(ys xs:List M),(ys.foldl bZ xs).length<=xs.length+ys.length
 | [],xs=>by simp
 | y::ys,xs=>by
  rw[Q6];have h1:=Ez ys (bZ xs y);have h2:=zrk xs y;rw[Xy];lia
end
section
variable {M:Type} [DecidableEq M] {prog:Wg}{w:Wj}{A:Wl}{R:Result->Wc->Prop}{I:Addr}{fp wr:Tr}{G:Array GenState->Array GenState->Prop}{n:Nat}{P:Nat->Wb->Prop}{St:Nat->Wc->Prop}{knd:Oz prog w M}{of:Wb->M}
theorem zkI (W:WalksS prog w A.in1 I fp wr G n P St)(S:Addr)(hSf:S∉fp)(ys:List M)(hn:ys.length=n)(hof:∀k v,knd.is k v=true->of v=k)(hval:∀i v,P i v->∃y,ys[i]? = some y/\knd.is y v=true/\v.scannable=true)(hb:n+1<WW) :
  ∀(k i:Nat) (s:Wc),n-i=k->i<=n->St i s->gw knd of s.heap S ((ys.take i).foldl bZ [])->
   (∀s',Moved (S::wr) G s s'->gw knd of s'.heap S (ys.foldl bZ [])->R (.ok (.ret .none)) s')->
   W4 (Wh prog w) A (.builtin "set.update.loop" ⟨[.ref S,.ref I],[]⟩) R s:=by
 have hSw:S∉wr:=λh=>hSf (W.sub _ h);intro k;induction k with
 | zero=>
  intro i s hk hi hst hS hR;have hin:i=n:=by lia
  subst hin;refine WH PyProof.Rows.F.entry_set_update_loop ?_;rw[QH Pk _];show We _ A.in1 (WX (.ref I) >>= _) _ _ s;refine Wa (W.done s _ _ hst λs' hm=>Wd (hR s' (hm.mono λb hb=>Xf _ hb) ?_));rw[Xs (by lia)]at hS;exact hS.keep λo e=>hm.heap S o hSw e
 | succ k ih=>
  intro i s hk hi hst hS hR;have hlt:i<n:=by lia
  refine WH PyProof.Rows.F.entry_set_update_loop ?_;rw[QH Pk _];show We _ A.in1 (WX (.ref I) >>= _) _ _ s;refine Wa (W.item i s _ _ hlt hst λv s' hP hst' hm=>?_);obtain⟨y,hy,hkey,hsc⟩:=hval i v hP;have hS':=hS.keep λo e=>hm.heap S o hSw e;show We _ A.in1 (WN [v] (setAdd S v) >>= _) _ _ s';refine Wa (Wy ?_);unfold setAdd;refine Wy (Wa (knd.pyHash (k:=y) hkey ?_));have hroom:((ys.take i).foldl bZ []).length+1<WW:=by
   have q:=Ez (ys.take i) [];rw[XH]at q;simp at q;lia
  refine zwi (s:=_) hof hkey hsc hS' hroom λh' b hsb hS2=>?_;have hSi:gw knd of h' S ((ys.take (i+1)).foldl bZ []):=by
   rw[List.take_add_one,hy,List.foldl_append];exact hS2
  refine Wd ⟨W5 Pk _,ih (i+1) _ (by lia) hlt (W.frame _ s' _ _ hst' (by first | exact Xj _ | exact Ph _) λb hb o e=>?_) hSi λs'' hm'' hS''=>?_⟩
  .rw[hsb.2 b (λh:b=S=>hSf (by rw[<- h];exact hb))];exact e
  .refine hR s'' (Moved.trans W.gtrans ((hm.mono λb hb=>Xf _ hb).then_heap (by first | exact Xj _ | exact Ph _) λb o hb e=>?_) hm'') hS''
   rw[hsb.2 b (λh:b=S=>hb (by rw[h];exact Xh))];exact e
end
abbrev nJ (w:Wj):Obj:={ cls:=.type "set",dict:=none,data:=.set #[] 0 (.fresh 0 0 (!byText w)) }
theorem zrl  [DecidableEq M] {prog:Wg}{knd:Oz prog w M}{of:Wb->M}(e:h.get? a=some (nJ w)):gw knd of h a []:=by
 refine⟨#[],0,_,⟨⟨_,e,⟨rfl,rfl,rfl⟩,rfl⟩,by rfl,?_,List.Pairwise.nil,rfl,by decide⟩,λz hz=>by simp at hz,by simp,QG⟩;show(!byText w)=true\/byText w=true;cases byText w
 .exact .inl rfl
 .exact .inr rfl
section
variable {prog:Wg}{w:Wj}{A:Wl}{E:Ti}{s:Wc}
theorem ztV (x:Wb){Q₁:Ti}(h:Q₁ (.ref s.heap.objs.size) { s with heap:=s.heap.push (nJ w) }) :
  W4 (Wh prog w) A (.call (.builtin "set.__new__") ⟨[.type "set",x],[]⟩) (wants Q₁ E) s:=by
 refine codeAny_of_tree ?_;show We _ A.in1 (do checkBuiltinCall "set.__new__" ⟨[.type "set",x],[]⟩;again (.builtin "set.__new__" ⟨[.type "set",x],[]⟩)) _ _ s
 refine Wa (wpAny_of_eq (PySem.F.newCall_set_1 x) (Wd ⟨W5 PySem.F.plain_set_new _,WH PySem.F.entry_set_new ?_⟩));rw[QH PySem.F.plain_set_new _];unfold Builtin.«set.__new__» Builtin.Frozenset.newClass;have hsub:=sub_set_self;obtain⟨hp,g,d,tk,os⟩:=s;dsimp only
 wp_walk
 refine WU (Wd ?_);dsimp only;simp only[newObj];exact Wa (wpAny_alloc (Wd (Wd h)))
theorem zoE {l:Addr}{items:Array Wb}{SP:Heap->Addr->Prop}{Q:Ti}(hh:A.handled=none)(hl:s.heap.IsList l items)
  (loop:∀ {A':Wl} {R:Result->Wc->Prop} {I:Addr} {fp wr:Tr} {G:Array GenState->Array GenState->Prop} {P:Nat->Wb->Prop} {St:Nat->Wc->Prop} (W:WalksS prog w A'.in1 I fp wr G items.size P St) (S:Addr),A'.units<=A.units+8->S∉fp->(∀i v,P i v->items[i]? = some v)->(∀b,b<s.heap.objs.size->b∉S::wr)->∀s1:Wc,(∀b o,s.heap.get? b=some o->s1.heap.get? b=some o)->St 0 s1->s1.heap.get? S=some (nJ w)->(∀s',Moved (S::wr) G s1 s'->SP s'.heap S->R (.ok (.ret .none)) s')->
   W4 (Wh prog w) A' (.builtin "set.update.loop" ⟨[.ref S,.ref I],[]⟩) R s1)
  (h:∀(h':Heap) (tk:Nat),SP h' s.heap.objs.size->(∀b o,s.heap.get? b=some o->h'.get? b=some o)->Q (.ref s.heap.objs.size) { s with heap:=h',toks:=tk }) :
  We (Wh prog w) A (call (.type "set") [.ref l]) Q E s:=by
 obtain⟨c,tl,hmro⟩:=PySem.F.called_set.mro;have hmade:=PySem.F.called_set.made;have hsub:=PySem.F.called_set.sub;refine wpAny_call (codeAny_of_tree ?_);show We _ _ (callAny (.type "set") _) _ _ _;refine Wd ⟨Code.quiet_builtin _ (by decide +kernel),WH PySem.F.entry_type_call ?_⟩;rw[Around.under_plain (weight_type_call_type "set" [.ref l] []) rfl];have h1:=PySem.F.called_set.notType;have h2:=PySem.F.called_set.canCreate;have hct:=PySem.F.typeCall_set_1 (.ref l)
 repeat (any_goals (first | assumption | wp_step))
 refine WO (ztV (.ref l) (E:=E) (Q₁:=λob s1=>ob=.ref s.heap.objs.size/\s1={ s with heap:=s.heap.push (nJ w) }) ⟨rfl,rfl⟩) λr s1 hr=>?_;cases r with
 | error e=>exact hr
 | ok fl=>
  cases fl with
  | ret ob=>
   obtain⟨rfl,rfl⟩:=hr;have hS:(s.heap.push (nJ w)).get? s.heap.objs.size=some (nJ w):=Xx _ rfl;have hT:Shared.TypeIs { s with heap:=s.heap.push (nJ w) } (.ref s.heap.objs.size) "set":=⟨_,hS,rfl⟩;have hli:=PySem.F.called_set.init.lookup;have hbi:=PySem.F.called_set.init.bind (.ref s.heap.objs.size)
   repeat (any_goals (first | assumption | wp_step))
   refine WO (codeAny_call_builtin (R:=wants (λr s2=>r=.none/\∃h' tk,s2={ s with heap:=h',toks:=tk }/\SP h' s.heap.objs.size/\∀b o,s.heap.get? b=some o->h'.get? b=some o) E)
    PySem.F.called_set.init.plain PySem.F.entry_set_init (check_set_init_1 hT ?_)) λr₂ s₂ hr₂=>?_
   .obtain⟨⟨ocls,odict,odata,oslots⟩,hol,hcl,nl,hdl⟩:=hl;simp only at hcl hdl;subst hcl;subst hdl;have hol':(s.heap.push (nJ w)).get? l=some { cls:=.type "list",dict:=odict,data:=.seq items nl,slots:=oslots }:=Xe _ hol;have hsls:=PySem.F.sub_list_set;have hslf:=PySem.F.sub_list_frozenset;have hne:(Qw "list" == Qw "dict")=false:=by decide
    have hl1:(s.heap.push (nJ w)).IsList l items:=⟨_,hol',rfl,nl,rfl⟩;unfold Builtin.«set.__init__» noKeywords Builtin.Frozenset.updateFrom;generalize hPI:pyIter=PI
    wp_walk
    subst hPI;refine wpAny_pyIter_list hl1 (Wa (wpAny_runValue ?_));have hlS:l<s.heap.objs.size:=Xw hol;have hz1:(s.heap.push (nJ w)).objs.size=s.heap.objs.size+1:=Ym ..;have hneI:l≠(s.heap.push (nJ w)).objs.size:=by rw[hz1];exact XB (Pu hlS)
    have hSf:s.heap.objs.size∉[(s.heap.push (nJ w)).objs.size,l]:=by
     rw[hz1];intro z;rcases Xn.mp z with e | e
     .exact Qg e (XB (YJ _))
     .exact Qg (Xv.mp e) (Yh hlS)
    refine loop ((Walks.list (by simp[hh]) _ l hneI items).toS) s.heap.objs.size ?Qq0 hSf (λi v hv=>hv) (λb hb=>?W) _ (λb o e=>Xe _ (Xe _ e)) ⟨⟨_,Xx _ rfl,rfl,rfl⟩,hl1.push _⟩ (Xe _ hS) λs' hm hS'=>?_
    case Qq0=>show A.units+1+1<=_;lia
    case W=>
     intro z;rcases Xn.mp z with q | q
     .exact XB hb q
     .have q':=Xv.mp q;rw[hz1]at q';exact Qg q' (XB (Pu hb))
    obtain⟨h',g',d',tk',os'⟩:=s';have eg:g'=s.gens:=hm.gens;have ed:d'=s.drawn:=hm.drawn;have eo:os'=s.os:=hm.os;subst eg;subst ed;subst eo;refine Wd (Wd ⟨rfl,h',tk',rfl,hS',λb o e=>?_⟩);have hb':b<s.heap.objs.size:=Xw e;refine hm.heap b o (λz=>?_) (Xe _ (Xe _ e));rcases Xn.mp z with q | q
    .exact XB hb' q
    .have q':=Xv.mp q;rw[hz1]at q';exact Qg q' (XB (Pu hb'))
   .cases r₂ with
    | error e=>exact hr₂
    | ok fl₂=>
     cases fl₂ with
     | ret r=>
      obtain⟨rfl,h',tk,rfl,hS',hk'⟩:=hr₂
      repeat (any_goals (first | assumption | wp_step))
      exact h _ _ hS' hk'
     | _=>exact hr₂.elim
  | _=>exact hr.elim
theorem zoF {M:Type} [DecidableEq M] {knd:Oz prog w M}{of:Wb->M}{l:Addr}{items:Array Wb}{ys:List M}{Q:Ti}(hof:∀k v,knd.is k v=true->of v=k)(hh:A.handled=none)(hl:s.heap.IsList l items)(hi:∀(i:Nat) v,items[i]? = some v->∃y,ys[i]? = some y/\knd.is y v=true/\v.scannable=true)(hy:ys.length=items.size)(hb:items.size+1<WW)
  (h:∀(h':Heap) (tk:Nat),gw knd of h' s.heap.objs.size (ys.foldl bZ [])->(∀b o,s.heap.get? b=some o->h'.get? b=some o)->Q (.ref s.heap.objs.size) { s with heap:=h',toks:=tk }) :
  We (Wh prog w) A (call (.type "set") [.ref l]) Q E s:=
 zoE (SP:=λh S=>gw knd of h S (ys.foldl bZ [])) hh hl (λ{A' R I fp wr G P St} W S _ hSf hP _ s1 kp hst hS hR=>zkI W S hSf ys hy hof (λi v hv=>hi i v (hP i v hv)) hb _ 0 s1 rfl (XM _) hst (zrl hS) hR) h
theorem zrm {l:Addr}{items:Array Wb}{ys:Tn}{Q:Ti}(hh:A.handled=none)(hl:s.heap.IsList l items)(hi:∀(i:Nat) v,items[i]? = some v->∃y t,ys[i]? = some y/\v=.str y t)(hy:ys.length=items.size)(hb:items.size+1<WW)
  (h:∀(h':Heap) (tk:Nat),Ey prog w h' s.heap.objs.size (ys.foldl bZ [])->(∀b o,s.heap.get? b=some o->h'.get? b=some o)->Q (.ref s.heap.objs.size) { s with heap:=h',toks:=tk }) :
  We (Wh prog w) A (call (.type "set") [.ref l]) Q E s:=
 zoF (knd:=PySem.strKind prog w) (of:=Aw) (λk v hk=>by obtain⟨t,rfl⟩:=Value.isStrOf_shape (show Ox k v=true from hk);rfl) hh hl (λi v hv=>by obtain⟨y,t,e1,rfl⟩:=hi i v hv;exact⟨y,e1,by simp[PySem.strKind,Ox],rfl⟩) hy hb h
end
section
variable {prog:Wg}{w:Wj}{A:Wl}{E:Ti}{s:Wc}{a:Addr}
theorem zrn {vs:Tq}{ss:Tn}{Q:Ti}(hS:StrsAre vs ss)(h64:vs.length<64)
  (h:∀(h':Heap) (out:Tq) (zs:Tn) (e:Nat),StrsAre out zs->zs.Perm ss->sortedS zs=true->(∀b o,s.heap.get? b=some o->h'.get? b=some o)->h'.get? s.heap.objs.size=some { cls:=.type "list",data:=.seq out.toArray e }->Q (.ref s.heap.objs.size) { s with heap:=h' }) :
  We (Wh prog w) A (newList vs >>= λl=>WN [l] (call (.builtin "list.sort") [l] []) >>= λ_=>ret l) (λfin s'=>∃r,fin=.done (.ret r)/\Q r s') E s:=by
 refine Wa (wpAny_newList ?_);have hoL:(s.heap.push (seqObj "list" vs.toArray 0)).get? s.heap.objs.size=some (seqObj "list" vs.toArray 0):=Xx _ rfl;refine Wa (Wy (Wt slot_list_sort ⟨_,hoL,rfl⟩ entry_list_sort (list_sort_treeK strKind_oneLt hoL hS.keysOf (λv1 v2 rest e=>keyKind_strs (by rw[<- e];exact hS)) h64 λst' a1 a2=>⟨_,rfl,?_⟩) (args_list_sort _)));obtain⟨zs,q1,q2,q3⟩:=sorted_out_str hS a1 a2;obtain⟨e,he⟩:=sortedHeap_at (out:=(arrOf st').map (·.2)) hoL;refine Wd ⟨_,rfl,h _ ((arrOf st').map (·.2)).toList zs e q1 q2 q3 (λb o hb=>?_) (by rw[Array.toArray_toList];exact he)⟩;have hlt:b<s.heap.objs.size:=Xw hb;rw[sortedHeap_old (XB hlt) (by rw[size_push'];exact Pu hlt)];exact Xe _ hb
theorem znm {xs:Tn}{Q:Ti}(hh:A.handled=none)(S:Ey prog w s.heap a xs)(h64:xs.length<64)
  (h:∀(h1 h':Heap) (d:Drawn) (tk:Nat) (out:Tq) (zs:Tn) (e:Nat),StrsAre out zs->zs.Perm xs->sortedS zs=true->(∀b o,s.heap.get? b=some o->h1.get? b=some o)->(∀b o,h1.get? b=some o->h'.get? b=some o)->h'.get? h1.objs.size=some { cls:=.type "list",data:=.seq out.toArray e }->
   Q (.ref h1.objs.size) { s with heap:=h',drawn:=d,toks:=tk }):We (Wh prog w) A (call (.builtin "sorted") [.ref a]) Q E s:=by
 refine Calls.call_function_entry kind_sorted plain_sorted entry_sorted (args_sorted1 _) ?_;unfold Builtin.«sorted»;refine Wa (m:=checkCount "sorted" 1 1 _) (Wd ?_);obtain⟨es,ep,t,r,hel,hp,nd⟩:=S;refine Wa (zkH (by simpa using hh) r λh1 d tk order ho kp=>?_);have hst:∀v∈order,∃x t,v=Value.str x t:=λv hv=>by
  obtain⟨e,he,q⟩:=XF.mp (ho.mem_iff.mp hv);obtain⟨⟨k,hk,_⟩,_⟩:=hel e he;obtain⟨t,q'⟩:=Value.isStrOf_shape (show Ox k e.2=true from hk);exact⟨k,t,by rw[<- q];exact q'⟩
 have hS:=strsAre_map order hst;have hperm:(order.map strOf).Perm xs:=by
  refine(ho.map strOf).trans ?_;rw[Yb];have e:es.toList.map (strOf ∘ λx=>x.2)=es.toList.map λe=>Aw e.2:=Yt λe he=>by
   obtain⟨⟨k,hk,_⟩,_⟩:=hel e he;obtain⟨t,q'⟩:=Value.isStrOf_shape (show Ox k e.2=true from hk);show strOf e.2=Aw e.2;rw[q'];rfl
  rw[e];exact hp
 have hlen:order.length<64:=by
  have q:=hperm.length_eq;rw[Xb]at q;lia
 refine zrn (s:={ s with heap:=h1,drawn:=d,toks:=tk }) hS hlen λh' out zs e q1 q2 q3 kp' he=>?_;exact h h1 h' d tk out zs e q1 (q2.trans hperm) q3 kp kp' he
end
end JS
namespace L2
open PySem PySem.Spec PyProof.Rows
inductive D where
 | non | int (i:Int) | str (x:Str) | tup (ds:List D)
instance:DecidableEq D:=λ_ _=>QK _
mutual
def aq (H:Hp):D->V->Prop
 | .non,v=>v=.non
 | .int i,v=>v=.int i
 | .str x,v=>v=.str x
 | .tup ds,v=>∃a xs,v=.ref a/\H a=some (.tup xs)/\aj H ds xs
def aj (H:Hp):List D->List V->Prop
 | [],xs=>xs=[]
 | d::ds,xs=>∃v r,xs=v::r/\aq H d v/\aj H ds r
end
def Kw (H H':Hp):Prop:=∀b xs,H b=some (.tup xs)->H' b=some (.tup xs)
mutual
theorem aq.mono {H H':Hp}(s:Kw H H'):∀(d:D)(v:V),aq H d v->aq H' d v
 | .non,v,h=>by unfold aq at h ⊢;exact h
 | .int i,v,h=>by unfold aq at h ⊢;exact h
 | .str x,v,h=>by unfold aq at h ⊢;exact h
 | .tup ds,v,h=>by
  unfold aq at h ⊢;obtain⟨a,xs,e,h1,h2⟩:=h;exact⟨a,xs,e,s a xs h1,aj.mono s ds xs h2⟩
theorem aj.mono {H H':Hp}(s:Kw H H'):∀(ds:List D)(xs:List V),aj H ds xs->aj H' ds xs
 | [],xs,h=>by unfold aj at h ⊢;exact h
 | d::ds,xs,h=>by
  unfold aj at h ⊢;obtain⟨v,r,e,h1,h2⟩:=h;exact⟨v,r,e,aq.mono s d v h1,aj.mono s ds r h2⟩
end
mutual
theorem aq.inj {H:Hp}:∀(d e:D)(v:V),aq H d v->aq H e v->d=e
 | .non,e,v,h,g=>by
  unfold aq at h;subst h;cases e<;>unfold aq at g
  .rfl
  .cases g
  .cases g
  .obtain⟨a,xs,z,_⟩:=g;cases z
 | .int i,e,v,h,g=>by
  unfold aq at h;subst h;cases e<;>unfold aq at g
  .cases g
  .injection g with g;rw[g]
  .cases g
  .obtain⟨a,xs,z,_⟩:=g;cases z
 | .str x,e,v,h,g=>by
  unfold aq at h;subst h;cases e<;>unfold aq at g
  .cases g
  .cases g
  .injection g with g;rw[g]
  .obtain⟨a,xs,z,_⟩:=g;cases z
 | .tup ds,e,v,h,g=>by
  unfold aq at h;obtain⟨a,xs,z,h1,h2⟩:=h;subst z;cases e<;>unfold aq at g
  .cases g
  .cases g
  .cases g
  .obtain⟨b,ys,z,g1,g2⟩:=g;cases z;rw[h1]at g1;cases g1;rw[aj.inj ds _ xs h2 g2]
theorem aj.inj {H:Hp}:∀(ds es:List D)(xs:List V),aj H ds xs->aj H es xs->ds=es
 | [],es,xs,h,g=>by
  unfold aj at h;subst h;cases es with
  | nil=>rfl
  | cons e es=>unfold aj at g;obtain⟨v,r,z,_⟩:=g;cases z
 | d::ds,es,xs,h,g=>by
  unfold aj at h;obtain⟨v,r,z,h1,h2⟩:=h;subst z;cases es with
  | nil=>unfold aj at g;cases g
  | cons e es=>
   unfold aj at g;obtain⟨v',r',z,g1,g2⟩:=g;cases z;rw[aq.inj d e v h1 g1,aj.inj ds es r h2 g2]
end
mutual
def Ky:D->D->Prop
 | .non,e=>e=.non
 | .int _,e=>∃j,e=.int j
 | .str _,e=>∃y,e=.str y
 | .tup ds,e=>∃es,e=.tup es/\yt ds es
def yt:List D->List D->Prop
 | [],_=>True
 | d::ds,es=>∀e r,es=e::r->Ky d e/\yt ds r
end
mutual
def dep:D->Nat
 | .tup ds=>yu ds+1
 | _=>0
def yu:List D->Nat
 | []=>0
 | d::ds=>max (dep d) (yu ds)
end
end L2
namespace L2
open PySem PySem.Spec PyProof.Rows
section
variable {X:Cx}
def zxP (K:Xa):V->List V->Hp->VK->Prop:=λx vs H Q=>∃(l b:Addr)(xs zs:List V),x=.ref l/\vs=[.ref b]/\H l=some (.lst xs)/\bN K H b zs/\xs.length+zs.length<=Wf/\Q .non (upd H l (.lst (xs++zs)))
theorem ztW:Aj X "list.extend" (zxP X.K):=by
 intro pins s Y H x vs v us Q I rx rv h;obtain⟨l,b,xs,zs,rfl,rfl,hH,hB,hz,q⟩:=h;cases rx;obtain⟨u,rfl,ru⟩:=rv.one;cases ru;obtain⟨z,its,n,r,hl,e⟩:=I.oE hH;obtain⟨its2,r2,⟨o2,ho2,hc2,n2,hd2⟩,z2⟩:=I.tuple hB;have l2:=r2.length;have hne:l≠b:=λw=>by subst w;rw[e]at ho2;cases ho2;injection hc2 with z;exact Qg z (by decide)
 refine Wt PySem.F.slot_list_extend ⟨_,e,rfl⟩ PySem.F.entry_list_extend ?_ (PySem.F.args_list_extend_2 _ _);show We _ _ (Pj (.ref l) (.ref b) .none) _ _ s;unfold Pj;refine Wa (wpAny_typeOf (T:="tuple") ⟨o2,ho2,hc2⟩ ?_);have h3:(Qw "tuple" == Qw "tuple")=true:=by decide
 rw[Qf (by rw[h3];simp)];refine Wa (listItems_at ho2 hd2 (Wa (listItems_at e rfl ?_)));have oF:¬ (!its.toArray.isEmpty&&PN (its.toArray.size+its2.toArray.size))=true:=by
  rw[JQ (by rw[Xo,Xo];lia),Bool.and_false];exact Xu
 rw[Qe oF];refine Wa (listUpdate_at e rfl (Wd ⟨_,rfl,?_⟩) (by rw[Xo];lia) (by rw[Array.size_append,Xo,Xo];lia));refine⟨.non,_,I.qt (its':=its++its2) (t':=s.toks) hH e (by simp) (r.append r2) (by rw[Xr];lia),rfl,q⟩
theorem znn {ss:Tn}:∀ {its:Tq},Vals (ss.map V.str) its->StrsAre its ss:=by
 induction ss with
 | nil=>intro its r;cases r;exact .nil
 | cons x ss ih=>
  intro its r;cases r with
  | cons r1 r2=>
   obtain⟨t,rfl⟩:=(show ∃t,_=Value.str x t from r1);exact .cons x t (ih r2)
theorem Kz {ss:Tn}:∀ {its:Tq},StrsAre its ss->Vals (ss.map V.str) its:=by
 induction ss with
 | nil=>intro its r;cases r;exact .nil
 | cons x ss ih=>
  intro its r;cases r with
  | cons _ t r2=>exact .cons ⟨t,rfl⟩ (ih r2)
def EY (K:Xa)(te:TE):TE:=λY H Q=>te Y H λx H1=>∃(a:Addr)(xs:List V),x=.ref a/\bI K H1 a xs/\∀p,H1 p=none->Q (.ref p) (upd H1 p (.lst xs.reverse))
theorem zwk {e:Expr}{te:TE}{j:Nat}{p1 p2 p3 pos:Pos}(he:PE X e te):PE X (.Subscript e (.Slice none none (some (.UnaryOp .USub (.Constant (.int 1) j p1) p2)) p3) pos) (EY X.K te):=by
 intro pins s Y H Q I h;refine Subscript_ (aQ (he pins s Y H _ I h) λv s1 ⟨x,H1,I1,r1,q1⟩=>?_);obtain⟨a,xs,rfl,hx,q⟩:=q1;cases r1;refine wpAny_Slice ?_;rw[evalPart_none,evalPart_some];refine Wd (Wd ?_);refine aQ (Zf Zo Jb pins s1 Y H1 (λy H2=>y=.int (-1)/\H2=H1) I1 ⟨1,rfl,rfl,rfl⟩) λst s2 ⟨y,H2,I2,r2,ey,eH⟩=>?_;subst ey eH;obtain⟨t,rfl⟩:=r2;have I3:Inv X pins Y H2 { s2 with heap:=s2.heap.push { cls:=.type "slice",data:=.fields #[.none,.none,.int (-1) t] } }:=I2.kept (t':=s2.toks) λb ob q=>Xe _ q;obtain⟨its,r,ht,hz⟩:=I3.list hx;have hlen:=r.length;refine tail_any (ops:=[.ref a,.ref s2.heap.objs.size]) ht.isList.typeIs slot_list_getitem.lookup ?_ (by with_unfolding_all rfl);refine wpAny_getItem_list_slice ht.isList (Heap.IsSliceOf.new ..) .none .none (.int (-1) t) (by decide) ?_ (by rw[Xo];lia);rw[PySem.W.krv_pick];refine⟨.ref _,_,I3.laid (t':=s2.toks) (o:=.lst xs.reverse) (λb ob q=>Xe _ q) (Xj _) ?_,rfl,q _ (I3.hok.fresh (Xj _))⟩;exact⟨by rw[Ya];exact hz,its.reverse,0,r.reverse,Xx _ rfl⟩
theorem zno:jW X (.builtin "sorted") (λxs H Q=>∃(p:Addr) (ss:Tn),xs=[.ref p]/\bI X.K H p (ss.map V.str)/\ss.length<64/\∀l zs,H l=none->zs.Perm ss->sortedS zs=true->Q (.ref l) (upd H l (.lst (zs.map V.str)))):=by
 intro pins s Y H xs us Q I r h;obtain⟨p,ss,rfl,hp,h64,q⟩:=h;obtain⟨u,rfl,rx⟩:=vals1 r;cases rx;obtain⟨its,r,ht,hz⟩:=I.list hp;have hlen:=r.length;rw[Xb]at hlen;refine sorted_strs ht.isList (znn r) (by lia) λout ss' a1 a2 a3=>?_;obtain⟨e,he⟩:=sortedAll_at s.heap its out;have kp:∀b o,s.heap.get? b=some o->(sortedAll s.heap its out).get? b=some o:=λ_ _=>sortedAll_old;have hl2:ss'.length=ss.length:=a2.length_eq;refine⟨.ref (s.heap.objs.size+1),_,I.laid (t':=s.toks) (o:=.lst (ss'.map V.str)) kp (Ph _) ?_,rfl,q _ ss' (I.hok.fresh (Ph _)) a2 a3⟩;exact⟨by rw[Xb,hl2];rw[Xb]at hz;exact hz,out.toList,e,Kz a1,by rw[Array.toArray_toList];exact he⟩
def lH (P:Wg)(w:Wj)(a:Addr)(xs:Tn):HO:=.ext λh=>JS.Ey P w h a xs
theorem zoG (hc:X.calm=true):jW X (.type "set") (λxs H Q=>∃(p:Addr) (ss:Tn),xs=[.ref p]/\bI X.K H p (ss.map V.str)/\ss.length+1<WW/\∀l,H l=none->Q (.ref l) (upd H l (lH X.prog X.w l (ss.foldl JS.bZ [])))):=by
 intro pins s Y H xs us Q I r h;obtain⟨p,ss,rfl,hp,hz,q⟩:=h;obtain⟨u,rfl,rx⟩:=vals1 r;cases rx;obtain⟨its,r,ht,_⟩:=I.list hp;have hlen:=r.length;rw[Xb]at hlen;refine JS.zrm (ys:=ss) (I.ok.hd hc) ht.isList (λi v hv=>?_) (by rw[Xo];exact hlen) (by rw[Xo];lia) λh' tk hS kp=>?_
 .have hv':its[i]? = some v:=by simpa using hv
  have hi:i<its.length:=(Xc.mp hv').1;have e1:(ss.map V.str)[i]? = some (V.str ss[i]):=by simp[show i<ss.length by lia]
  obtain⟨u,q1,q2⟩:=r.get e1;rw[hv']at q1;cases q1;obtain⟨t,e2⟩:=(show ∃t,v=Value.str _ t from q2);exact⟨_,t,by simp[show i<ss.length by lia],e2⟩
 .refine⟨.ref s.heap.objs.size,_,I.laid (t':=tk) (o:=lH X.prog X.w s.heap.objs.size (ss.foldl JS.bZ [])) kp (Xj _) ?_,rfl,q _ I.fresh⟩;obtain⟨es,ep,t,rc,_⟩:=id hS;obtain⟨o,ho,_⟩:=rc.obj;exact⟨hS,⟨o,ho⟩,λh1 h2 hs k=>JS.gw.keep hs k⟩
theorem zjB (hc:X.calm=true):jW X (.builtin "sorted") (λxs H Q=>∃(p:Addr) (ss:Tn),xs=[.ref p]/\H p=some (lH X.prog X.w p ss)/\ss.length<64/\∀l zs,H l=none->zs.Perm ss->sortedS zs=true->Q (.ref l) (upd H l (.lst (zs.map V.str)))):=by
 intro pins s Y H xs us Q I r h;obtain⟨p,ss,rfl,hp,h64,q⟩:=h;obtain⟨u,rfl,rx⟩:=vals1 r;cases rx;obtain⟨hS,_,_⟩:=(show eE X.prog X.w H s.heap p (lH X.prog X.w p ss) from I.hok p _ hp);refine JS.znm (I.ok.hd hc) hS h64 λh1 h' d tk out zs e a1 a2 a3 kp kp' he=>?_;have I1:Inv X pins Y H { s with heap:=h1,drawn:=d,toks:=tk }:=I.call' (ch:=[]) rfl (Un.kept kp) (I.hok.kept kp) I.bare (λ_ z=>nomatch z);have hl2:zs.length=ss.length:=a2.length_eq;refine⟨.ref h1.objs.size,_,I1.laid (h':=h') (t':=tk) (o:=.lst (zs.map V.str)) kp' (Xj _) ?_,rfl,q _ zs (I1.hok.fresh (Xj _)) a2 a3⟩;exact⟨by rw[Xb,Wi];lia,out,e,Kz a1,he⟩
end
def zwl (K:Xa):List V->Hp->VK->Prop:=λxs H Q=>∃p ys,xs=[.ref p]/\((bI K H p ys/\∀l,H l=none->Q (.ref l) (upd H l (.tup ys)))\/(bN K H p ys/\Q (.ref p) H))
def ztX (K:Xa):List V->Hp->VK->Prop:=λxs H Q=>∃p ys,xs=[.ref p]/\(bI K H p ys\/bN K H p ys)/\∀l,H l=none->Q (.ref l) (upd H l (.lst ys))
end L2
namespace PL
open PySem PySem.Spec L2
open PyProof.Rows hiding St
inductive PV where
 | non | bl (b:Bool) | int (i:Int) | str (x:Str) | ty (n:String)
 | tup (ds:List PV) | lst (ds:List PV) | dK (ks:List Key) (ds:List PV) | dT (ks:List (List Key)) (ds:List PV)
  | obj (C:Addr) (ks:Tn) (ds:List PV)
  | dP (ks:List (Int×Tp))
instance:DecidableEq PV:=λ_ _=>QK _
abbrev FZ:=Addr->Prop
def KX (K:Xa)(a:Addr)(xs:List V):Prop:=∃(its:Array Wb)(n:Nat),K.lookup a=some { cls:=.type "list",data:=.seq its n }/\its.size<=Wf/\Vals xs its.toList
theorem KX.sq {K:Xa}{H:Hp}{a:Addr}{xs:List V}(h:KX K a xs):bI K H a xs:=let ⟨its,n,h1,h2,h3⟩:=h;.inr ⟨_,its,n,h1,rfl,rfl,rfl,h2,h3⟩
def zxQ (k:Int×Tp):Int:=reduceHash (Builtin.Tuple.tupleHashOf [hashInt k.1,reduceHash (Builtin.Tuple.tupleHashOf (k.2.map hashInt))])
def Fb (a:Addr)(ks:List (Int×Tp))(cs:Tr):HO:=.ext λh=>ks.length<=Wf/\(a == Wz)=false/\cs.length=ks.length/\ks.Nodup/\∃o es ep,h.get? a=some o/\o.ExactDict/\o.data=.dict es ep/\es.toList=(ks.zip cs).map λx=>⟨zxQ x.1,.ref x.2,.bool true⟩
def PK (H:Hp)(k:Int×Tp)(a:Addr):Prop:=∃b,H a=some (.tup [.int k.1,.ref b])/\H b=some (.tup (k.2.map V.int))
mutual
def aq (K:Xa)(Fz:FZ)(H:Hp):PV->V->Prop
 | .non,v=>v=.non
 | .bl b,v=>v=.bl b
 | .int i,v=>v=.int i
 | .str x,v=>v=.str x
 | .ty n,v=>v=.ty n
 | .tup ds,v=>∃a xs,v=.ref a/\H a=some (.tup xs)/\aj K Fz H ds xs
 | .lst ds,v=>∃a xs,v=.ref a/\((Fz a/\Rd H a (.lst xs))\/KX K a xs)/\aj K Fz H ds xs
 | .dK ks ds,v=>∃a xs,v=.ref a/\Fz a/\Rd H a (.dK (ks.zip xs))/\ks.length=xs.length/\aj K Fz H ds xs
 | .dT ks ds,v=>∃a xs,v=.ref a/\Fz a/\Rd H a (.dT (ks.zip xs))/\ks.length=xs.length/\aj K Fz H ds xs
 | .dP ks,v=>∃a cs,v=.ref a/\Fz a/\Rd H a (Fb a ks cs)/\∀x∈ks.zip cs,PK H x.1 x.2
 | .obj C ks ds,v=>∃a dx xs,v=.ref a/\Fz a/\H a=some (.ins C dx (ks.zip xs))/\ks.length=xs.length/\aj K Fz H ds xs
def aj (K:Xa)(Fz:FZ)(H:Hp):List PV->List V->Prop
 | [],xs=>xs=[]
 | d::ds,xs=>∃v r,xs=v::r/\aq K Fz H d v/\aj K Fz H ds r
end
def aD (K:Xa)(Fz:FZ)(H:Hp):PV->V->Prop
 | .lst ds,v=>∃a xs,v=.ref a/\(Rd H a (.lst xs)\/KX K a xs)/\aj K Fz H ds xs
 | .dK ks ds,v=>∃a xs,v=.ref a/\Rd H a (.dK (ks.zip xs))/\ks.length=xs.length/\aj K Fz H ds xs
 | .dT ks ds,v=>∃a xs,v=.ref a/\Rd H a (.dT (ks.zip xs))/\ks.length=xs.length/\aj K Fz H ds xs
 | .dP ks,v=>∃a cs,v=.ref a/\Rd H a (Fb a ks cs)/\∀x∈ks.zip cs,PK H x.1 x.2
 | d,v=>aq K Fz H d v
def Own (K:Xa)(Fz:FZ)(H:Hp):PV->Addr->Prop
 | .lst ds,a=>∃xs,H a=some (.lst xs)/\aj K Fz H ds xs
 | .dK ks ds,a=>∃xs,H a=some (.dK (ks.zip xs))/\ks.length=xs.length/\aj K Fz H ds xs
 | .dT ks ds,a=>∃xs,H a=some (.dT (ks.zip xs))/\ks.length=xs.length/\aj K Fz H ds xs
 | .dP ks,a=>∃cs,H a=some (Fb a ks cs)/\∀x∈ks.zip cs,PK H x.1 x.2
 | _,_=>False
def pR:HO->Prop
 | .tup _=>True
 | .aF _ _=>True
 | _=>False
def Pl:HO->Prop
 | .lst _=>True
 | .tup _=>True
 | .dK _=>True
 | .dT _=>True
 | .ext _=>True
 | _=>False
structure Keep (Fz:FZ)(H H':Hp):Prop where
 rd':∀b u,Pl u->Fz b->Rd H b u->Rd H' b u
 tup:∀b xs,H b=some (.tup xs)->H' b=some (.tup xs)
 ins:∀b C dx fs,Fz b->H b=some (.ins C dx fs)->H' b=some (.ins C dx fs)
def nM (Fz:FZ)(H H':Hp):Prop:=∀b o,H b=some o->(Fz b\/pR o)->H' b=some o
theorem Keep.mk' {Fz:FZ}{H H':Hp}(h:nM Fz H H'):Keep Fz H H':=
 ⟨λb u _ f r=>by
  rcases r with r | ⟨o,r⟩
  .exact .inl (h b _ r (.inl f))
  .exact .inr ⟨o,h b _ r (.inl f)⟩,λb xs r=>h b _ r (.inr trivial),λb C dx fs f r=>h b _ r (.inl f)⟩
theorem Keep.of {Fz:FZ}{H H':Hp}(h:Same H H'):Keep Fz H H':=.mk' λb o e _=>h b o e
theorem Keep.rd {Fz:FZ}{H H':Hp}(k:Keep Fz H H'){a:Addr}{u:HO}(pl:Pl u)(hf:Fz a)(h:Rd H a u):Rd H' a u:=k.rd' a u pl hf h
theorem Keep.pk {Fz:FZ}{H H':Hp}(k:Keep Fz H H'){x:Int×Tp}{a:Addr}(h:PK H x a):PK H' x a:=let ⟨b,h1,h2⟩:=h;⟨b,k.tup _ _ h1,k.tup _ _ h2⟩
theorem Keep.Fd {K:Xa}{Fz:FZ}{H H':Hp}(k:Keep Fz H H'){a:Addr}{xs:List V}(h:H a=some (.tup xs)):bN K H' a xs:=bN.of (k.tup a xs h)
section
variable {K:Xa}{Fz ao:FZ}{H H':Hp}
mutual
theorem aq.mono (k:Keep Fz H H')(s:∀b,Fz b->ao b):∀(d:PV)(v:V),aq K Fz H d v->aq K ao H' d v
 | .non,v,h=>by simpa only[aq]using h
 | .bl b,v,h=>by simpa only[aq]using h
 | .int i,v,h=>by simpa only[aq]using h
 | .str x,v,h=>by simpa only[aq]using h
 | .ty n,v,h=>by simpa only[aq]using h
 | .tup ds,v,h=>by
  simp only[aq]at h ⊢;obtain⟨a,xs,e,h1,h2⟩:=h;exact⟨a,xs,e,k.tup a xs h1,aj.mono k s ds xs h2⟩
 | .lst ds,v,h=>by
  simp only[aq]at h ⊢;obtain⟨a,xs,e,h1,h2⟩:=h;refine⟨a,xs,e,?_,aj.mono k s ds xs h2⟩;rcases h1 with ⟨f,h1⟩ | h1
  .exact .inl ⟨s a f,k.rd trivial f h1⟩
  .exact .inr h1
 | .dK ks ds,v,h=>by
  simp only[aq]at h ⊢;obtain⟨a,xs,e,f,h1,h2,h3⟩:=h;exact⟨a,xs,e,s a f,k.rd trivial f h1,h2,aj.mono k s ds xs h3⟩
 | .dT ks ds,v,h=>by
  simp only[aq]at h ⊢;obtain⟨a,xs,e,f,h1,h2,h3⟩:=h;exact⟨a,xs,e,s a f,k.rd trivial f h1,h2,aj.mono k s ds xs h3⟩
 | .dP ks,v,h=>by
  simp only[aq]at h ⊢;obtain⟨a,cs,e,f,h1,h2⟩:=h;exact⟨a,cs,e,s a f,k.rd trivial f h1,λx hx=>k.pk (h2 x hx)⟩
 | .obj C ks ds,v,h=>by
  simp only[aq]at h ⊢;obtain⟨a,dx,xs,e,f,h1,h2,h3⟩:=h;exact⟨a,dx,xs,e,s a f,k.ins a _ _ _ f h1,h2,aj.mono k s ds xs h3⟩
theorem aj.mono (k:Keep Fz H H')(s:∀b,Fz b->ao b):∀(ds:List PV)(xs:List V),aj K Fz H ds xs->aj K ao H' ds xs
 | [],xs,h=>by simpa only[aj]using h
 | d::ds,xs,h=>by
  simp only[aj]at h ⊢;obtain⟨v,r,e,h1,h2⟩:=h;exact⟨v,r,e,aq.mono k s d v h1,aj.mono k s ds r h2⟩
end
theorem aq.root {d:PV}{v:V}(h:aq K Fz H d v):aD K Fz H d v:=by
 cases d with
 | lst ds=>
  simp only[aq]at h;obtain⟨a,xs,e,h1,h2⟩:=h;refine⟨a,xs,e,?_,h2⟩;rcases h1 with ⟨f,h1⟩ | h1
  .exact .inl h1
  .exact .inr h1
 | dK ks ds=>
  simp only[aq]at h;obtain⟨a,xs,e,_,h1,h2⟩:=h;exact⟨a,xs,e,h1,h2⟩
 | dT ks ds=>
  simp only[aq]at h;obtain⟨a,xs,e,_,h1,h2⟩:=h;exact⟨a,xs,e,h1,h2⟩
 | non=>exact h
 | bl b=>exact h
 | int i=>exact h
 | str x=>exact h
 | ty n=>exact h
 | tup ds=>exact h
 | dP ks=>
  simp only[aq]at h;obtain⟨a,cs,e,_,h1,h2⟩:=h;exact⟨a,cs,e,h1,h2⟩
 | obj C ks ds=>exact h
theorem Own.root {d:PV}{a:Addr}(h:Own K Fz H d a):aD K Fz H d (.ref a):=by
 cases d with
 | lst ds=>obtain⟨xs,h1,h2⟩:=h;exact⟨a,xs,rfl,.inl (.inl h1),h2⟩
 | dK ks ds=>obtain⟨xs,h1,h2⟩:=h;exact⟨a,xs,rfl,.inl h1,h2⟩
 | dT ks ds=>obtain⟨xs,h1,h2⟩:=h;exact⟨a,xs,rfl,.inl h1,h2⟩
 | non=>exact h.elim
 | bl b=>exact h.elim
 | int i=>exact h.elim
 | str x=>exact h.elim
 | ty n=>exact h.elim
 | tup ds=>exact h.elim
 | dP ks=>obtain⟨cs,h1,h2⟩:=h;exact⟨a,cs,rfl,.inl h1,h2⟩
 | obj C ks ds=>exact h.elim
theorem Own.den {d:PV}{a:Addr}(h:Own K Fz H d a)(f:Fz a):aq K Fz H d (.ref a):=by
 cases d with
 | lst ds=>obtain⟨xs,h1,h2⟩:=h;simp only[aq];exact⟨a,xs,rfl,.inl ⟨f,.inl h1⟩,h2⟩
 | dK ks ds=>obtain⟨xs,h1,h2⟩:=h;simp only[aq];exact⟨a,xs,rfl,f,.inl h1,h2⟩
 | dT ks ds=>obtain⟨xs,h1,h2⟩:=h;simp only[aq];exact⟨a,xs,rfl,f,.inl h1,h2⟩
 | non=>exact h.elim
 | bl b=>exact h.elim
 | int i=>exact h.elim
 | str x=>exact h.elim
 | ty n=>exact h.elim
 | tup ds=>exact h.elim
 | dP ks=>obtain⟨cs,h1,h2⟩:=h;simp only[aq];exact⟨a,cs,rfl,f,.inl h1,h2⟩
 | obj C ks ds=>exact h.elim
theorem Own.at {d:PV}{a:Addr}(h:Own K Fz H d a):∃o,H a=some o/\¬ pR o:=by
 cases d with
 | lst ds=>obtain⟨xs,h1,h2⟩:=h;exact⟨_,h1,λz=>z⟩
 | dK ks ds=>obtain⟨xs,h1,h2⟩:=h;exact⟨_,h1,λz=>z⟩
 | dT ks ds=>obtain⟨xs,h1,h2⟩:=h;exact⟨_,h1,λz=>z⟩
 | non=>exact h.elim
 | bl b=>exact h.elim
 | int i=>exact h.elim
 | str x=>exact h.elim
 | ty n=>exact h.elim
 | tup ds=>exact h.elim
 | dP ks=>obtain⟨cs,h1,h2⟩:=h;exact⟨_,h1,λz=>z⟩
 | obj C ks ds=>exact h.elim
theorem Own.mono {d:PV}{a:Addr}(k:Keep Fz H H')(s:∀b,Fz b->ao b)(ha:∀o,H a=some o->H' a=some o)(h:Own K Fz H d a):Own K ao H' d a:=by
 cases d with
 | lst ds=>obtain⟨xs,h1,h2⟩:=h;exact⟨xs,ha _ h1,aj.mono k s _ _ h2⟩
 | dK ks ds=>obtain⟨xs,h1,h2,h3⟩:=h;exact⟨xs,ha _ h1,h2,aj.mono k s _ _ h3⟩
 | dT ks ds=>obtain⟨xs,h1,h2,h3⟩:=h;exact⟨xs,ha _ h1,h2,aj.mono k s _ _ h3⟩
 | non=>exact h.elim
 | bl b=>exact h.elim
 | int i=>exact h.elim
 | str x=>exact h.elim
 | ty n=>exact h.elim
 | tup ds=>exact h.elim
 | dP ks=>obtain⟨cs,h1,h2⟩:=h;exact⟨cs,ha _ h1,λx hx=>k.pk (h2 x hx)⟩
 | obj C ks ds=>exact h.elim
theorem aD.mono {d:PV}{v:V}(k:Same H H')(s:∀b,Fz b->ao b)(h:aD K Fz H d v):aD K ao H' d v:=by
 have rd:∀ {a u},Rd H a u->Rd H' a u:=λ{a u} q=>by
  rcases q with q | ⟨o,q⟩
  .exact .inl (k _ _ q)
  .exact .inr ⟨o,k _ _ q⟩
 cases d with
 | lst ds=>obtain⟨a,xs,e,h1,h2⟩:=h;exact⟨a,xs,e,h1.imp rd id,aj.mono (.of k) s _ _ h2⟩
 | dK ks ds=>obtain⟨a,xs,e,h1,h2,h3⟩:=h;exact⟨a,xs,e,rd h1,h2,aj.mono (.of k) s _ _ h3⟩
 | dT ks ds=>obtain⟨a,xs,e,h1,h2,h3⟩:=h;exact⟨a,xs,e,rd h1,h2,aj.mono (.of k) s _ _ h3⟩
 | non=>exact aq.mono (.of k) s _ _ h
 | bl b=>exact aq.mono (.of k) s _ _ h
 | int i=>exact aq.mono (.of k) s _ _ h
 | str x=>exact aq.mono (.of k) s _ _ h
 | ty n=>exact aq.mono (.of k) s _ _ h
 | tup ds=>exact aq.mono (.of k) s _ _ h
 | dP ks=>obtain⟨a,cs,e,h1,h2⟩:=h;exact⟨a,cs,e,rd h1,λx hx=>(Keep.of (Fz:=Fz) k).pk (h2 x hx)⟩
 | obj C ks ds=>exact aq.mono (.of k) s _ _ h
theorem aj.length:∀(ds:List PV)(xs:List V),aj K Fz H ds xs->ds.length=xs.length
 | [],xs,h=>by simp only[aj]at h;subst h;rfl
 | d::ds,xs,h=>by
  simp only[aj]at h;obtain⟨v,r,z,_,h2⟩:=h;subst z;rw[Xy,Xy,aj.length ds r h2]
theorem aj.get:∀ {ds:List PV}{xs:List V}{i:Nat}{d:PV},aj K Fz H ds xs->ds[i]? = some d->∃v,xs[i]? = some v/\aq K Fz H d v
 | [],xs,i,d,h,e=>by simp at e
 | d0::ds,xs,i,d,h,e=>by
  simp only[aj]at h;obtain⟨v0,r,z,h1,h2⟩:=h;subst z;cases i with
  | zero=>simp at e;subst e;exact⟨v0,rfl,h1⟩
  | succ i=>
   obtain⟨v,q,h⟩:=aj.get h2 (i:=i) (d:=d) (by simpa using e);exact⟨v,by simpa using q,h⟩
theorem aj.nil:aj K Fz H [] []:=by simp only[aj]
theorem aj.cons {d:PV}{v:V}{ds:List PV}{xs:List V}(h1:aq K Fz H d v)(h2:aj K Fz H ds xs):aj K Fz H (d::ds) (v::xs):=by
 simp only[aj];exact⟨v,xs,rfl,h1,h2⟩
theorem aj.append:∀ {ds es:List PV}{xs ys:List V},aj K Fz H ds xs->aj K Fz H es ys->aj K Fz H (ds++es) (xs++ys)
 | [],es,xs,ys,h,g=>by simp only[aj]at h;subst h;exact g
 | d::ds,es,xs,ys,h,g=>by
  simp only[aj]at h;obtain⟨v,r,z,h1,h2⟩:=h;subst z;exact aj.cons h1 (aj.append h2 g)
theorem aj.snoc {ds:List PV}{xs:List V}{d:PV}{v:V}(h:aj K Fz H ds xs)(g:aq K Fz H d v):aj K Fz H (ds++[d]) (xs++[v]):=h.append (aj.cons g aj.nil)
theorem aj.split:∀ {ds es:List PV}{xs:List V},aj K Fz H (ds++es) xs->∃ys zs,xs=ys++zs/\aj K Fz H ds ys/\aj K Fz H es zs
 | [],es,xs,h=>⟨[],xs,rfl,aj.nil,h⟩
 | d::ds,es,xs,h=>by
  rw[Yv]at h;simp only[aj]at h;obtain⟨v,r,z,h1,h2⟩:=h;subst z;obtain⟨ys,zs,e,g1,g2⟩:=aj.split h2;exact⟨v::ys,zs,by rw[e];rfl,aj.cons h1 g1,g2⟩
theorem aj.take {ds:List PV}{xs:List V}(n:Nat)(h:aj K Fz H ds xs):aj K Fz H (ds.take n) (xs.take n):=by
 have hl:=h.length;obtain⟨ys,zs,e,g1,g2⟩:=aj.split (ds:=ds.take n) (es:=ds.drop n) (by rw[Yp];exact h);have h1:=g1.length;subst e;by_cases hn:n<=ds.length
 .rw[XH,Oi hn]at h1;rw[List.take_append_of_le_length (by lia),Xs (i:=n) (l:=ys) (by lia)];exact g1
 .rw[Xs (i:=n) (l:=ds) (by lia),Xs (i:=n) (l:=ys++zs) (by lia)];exact h
theorem aj.drop {ds:List PV}{xs:List V}(n:Nat)(h:aj K Fz H ds xs):aj K Fz H (ds.drop n) (xs.drop n):=by
 have hl:=h.length;obtain⟨ys,zs,e,g1,g2⟩:=aj.split (ds:=ds.take n) (es:=ds.drop n) (by rw[Yp];exact h);have h1:=g1.length;subst e;by_cases hn:n<=ds.length
 .rw[XH,Oi hn]at h1;rw[List.drop_append,List.drop_of_length_le (i:=n) (l:=ys) (by lia),show n-ys.length=0 by lia];exact g2
 .rw[List.drop_of_length_le (i:=n) (l:=ds) (by lia),List.drop_of_length_le (i:=n) (l:=ys++zs) (by lia)];exact aj.nil
theorem aj.reverse:∀ {ds:List PV}{xs:List V},aj K Fz H ds xs->aj K Fz H ds.reverse xs.reverse
 | [],xs,h=>by simp only[aj]at h;subst h;exact aj.nil
 | d::ds,xs,h=>by
  simp only[aj]at h;obtain⟨v,r,z,h1,h2⟩:=h;subst z;rw[Ot,Ot];exact aj.snoc (aj.reverse h2) h1
theorem aj.set:∀ {ds:List PV}{xs:List V}{d:PV}{v:V}(i:Nat),aj K Fz H ds xs->aq K Fz H d v->aj K Fz H (ds.set i d) (xs.set i v)
 | [],xs,d,v,i,h,g=>by simp only[aj]at h;subst h;exact aj.nil
 | d0::ds,xs,d,v,i,h,g=>by
  simp only[aj]at h;obtain⟨v0,r,z,h1,h2⟩:=h;subst z;cases i with
  | zero=>exact aj.cons g h2
  | succ i=>exact aj.cons h1 (aj.set i h2 g)
end
abbrev aC:=List (Option (PV×Bool))
structure Rel (K:Xa)(Fz:FZ)(U:aC)(Y:St)(H:Hp):Prop where
 al:∀b,Fz b->H b≠none
 len:U.length=Y.length
 aF:∀(i:Nat) (d:PV),U[i]? = some (some (d,false))->∃v,Y[i]? = some (some v)/\aq K Fz H d v
 own:∀(i:Nat) (d:PV),U[i]? = some (some (d,true))->∃a,Y[i]? = some (some (.ref a))/\¬ Fz a/\Own K Fz H d a
 inj:∀(i j:Nat) (d e:PV) (a:Addr),U[i]? = some (some (d,true))->U[j]? = some (some (e,true))->Y[i]? = some (some (.ref a))->Y[j]? = some (some (.ref a))->i=j
def cP (U:aC)(Y:St)(a:Addr):Prop:=∃(i:Nat)(d:PV),U[i]? = some (some (d,true))/\Y[i]? = some (some (.ref a))
structure Ext (Fz:FZ)(H:Hp)(ao:FZ)(H':Hp):Prop where
 same:Same H H'
 sub:∀b,Fz b->ao b
 new:∀b,ao b->Fz b\/H b=none
 al:∀b,ao b->H' b≠none
theorem Ext.trans {F1 F2 F3:FZ}{H1 H2 H3:Hp}(a:Ext F1 H1 F2 H2)(b:Ext F2 H2 F3 H3):Ext F1 H1 F3 H3:=
 ⟨a.same.trans b.same,λc h=>b.sub c (a.sub c h),λc h=>by
  rcases b.new c h with h | h
  .exact a.new c h
  .exact .inr (a.same.free h),b.al⟩
theorem Ext.add {Fz ao:FZ}{H H':Hp}{a:Addr}(x:Ext Fz H ao H')(h:H a=none)(h':H' a≠none):Ext Fz H (λb=>ao b\/b=a) H':=
 ⟨x.same,λb h=>.inl (x.sub b h),λb hb=>by
  rcases hb with hb | rfl
  .exact x.new b hb
  .exact .inr h,λb hb=>by
  rcases hb with hb | rfl
  .exact x.al b hb
  .exact h'⟩
theorem Ext.laid {Fz ao:FZ}{H H':Hp}{p:Addr}{o:HO}(x:Ext Fz H ao H')(h:H' p=none):Ext Fz H ao (upd H' p o):=
 ⟨x.same.trans (λb u e=>by rw[aY (mK e h)];exact e),x.sub,x.new,λb hb=>by
  by_cases e:b=p
  .subst e;rw[cg];exact λz=>nomatch z
  .rw[aY e];exact x.al b hb⟩
theorem Rel.ext {K:Xa}{Fz ao:FZ}{U:aC}{Y:St}{H H':Hp}(R:Rel K Fz U Y H)(x:Ext Fz H ao H'):Rel K ao U Y H' where
 al:=x.al
 len:=R.len
 aF i d h:=by
  obtain⟨v,e,q⟩:=R.aF i d h;exact⟨v,e,aq.mono (.of x.same) x.sub d v q⟩
 own i d h:=by
  obtain⟨a,e,n,q⟩:=R.own i d h;refine⟨a,e,λz=>?_,q.mono (.of x.same) x.sub (λo h=>x.same _ _ h)⟩;rcases x.new a z with z | z
  .exact n z
  .obtain⟨o,h,_⟩:=q.at;rw[h]at z;cases z
 inj:=R.inj
inductive Kd where
 | aF | new | own (i:Nat)
def lJ (K:Xa)(ao:FZ)(H':Hp)(U:aC)(Y:St)(H:Hp)(d:PV):Kd->V->Prop
 | .aF,v=>aq K ao H' d v
 | .new,v=>∃a,v=.ref a/\H a=none/\¬ ao a/\Own K ao H' d a
 | .own i,v=>U[i]? = some (some (d,true))/\Y[i]? = some (some v)
structure Post (K:Xa)(U:aC)(Y:St)(Fz:FZ)(H:Hp)(ao:FZ)(H':Hp)(d:PV)(k:Kd)(v:V):Prop where
 ext:Ext Fz H ao H'
 dZ:lJ K ao H' U Y H d k v
theorem Post.root {K:Xa}{U:aC}{Y:St}{Fz ao:FZ}{H H':Hp}{d:PV}{k:Kd}{v:V}(R:Rel K Fz U Y H)(p:Post K U Y Fz H ao H' d k v):aD K ao H' d v:=by
 cases k with
 | aF=>exact aq.root p.dZ
 | new=>obtain⟨a,e,_,_,h⟩:=p.dZ;subst e;exact h.root
 | own i=>
  obtain⟨h1,h2⟩:=p.dZ;obtain⟨a,e,_,q⟩:=(R.ext p.ext).own i d h1;rw[h2]at e;cases e;exact q.root
theorem Post.frozen {K:Xa}{U:aC}{Y:St}{Fz ao:FZ}{H H':Hp}{d:PV}{k:Kd}{v:V}(hk:k=.aF\/k=.new)(p:Post K U Y Fz H ao H' d k v) :
  ∃cR,Ext Fz H cR H'/\(∀b,ao b->cR b)/\aq K cR H' d v:=by
 rcases hk with rfl | rfl
 .exact⟨ao,p.ext,λ_ h=>h,p.dZ⟩
 .obtain⟨a,e,hn,_,h⟩:=p.dZ;subst e;exact⟨λb=>ao b\/b=a,p.ext.add hn (by obtain⟨o,e,_⟩:=h.at;rw[e];exact λz=>nomatch z),λ_ h=>.inl h,(h.mono (ao:=λb=>ao b\/b=a) (Keep.of (Same.refl _)) (λ_ h=>.inl h) (λ_ h=>h)).den (.inr rfl)⟩
abbrev aL:=aC->(PV->Kd->Prop)->Prop
abbrev fL:=aC->(Bool->Prop)->Prop
abbrev cV:=aC->(List (PV×Kd)->Prop)->Prop
def lift (K:Xa)(t:aL):TE:=λY H Q=>∃U Fz,Rel K Fz U Y H/\t U λd k=>∀v ao H',Post K U Y Fz H ao H' d k v->Q v H'
def liftT (K:Xa)(t:fL):TT:=λY H Q=>∃U Fz,Rel K Fz U Y H/\t U λb=>∀ao H',Ext Fz H ao H'->Q b H'
structure aG (X:Cx)(e:Expr)(t:aL):Prop where
 mono:∀U Q Q',(∀d k,Q d k->Q' d k)->t U Q->t U Q'
 run:PE X e (lift X.K t)
structure iK (X:Cx)(e:Expr)(t:fL):Prop where
 mono:∀U Q Q',(∀b,Q b->Q' b)->t U Q->t U Q'
 run:PT X e (liftT X.K t)
theorem PE.weak {X:Cx}{e:Expr}{t t':TE}(h:PE X e t)(w:∀Y H Q,t' Y H Q->t Y H Q):PE X e t':=λpins s Y H Q I q=>h pins s Y H Q I (w Y H Q q)
theorem PT.weak {X:Cx}{e:Expr}{t t':TT}(h:PT X e t)(w:∀Y H Q,t' Y H Q->t Y H Q):PT X e t':=λpins s Y H Q I q=>h pins s Y H Q I (w Y H Q q)
theorem zxR {X:Cx}{a b:Expr}{ta tb:aL}(ha:aG X a ta)(hb:aG X b tb){Y:St}{H:Hp}{R:V->V->Hp->Prop}
  (U:aC) (Fz:FZ) (Re:Rel X.K Fz U Y H)
  (h:ta U λd kd=>tb U λe ke=>∀x y bJ H1 cR H2,Post X.K U Y Fz H bJ H1 d kd x->Post X.K U Y bJ H1 cR H2 e ke y->R x y H2) :
  lift X.K ta Y H λx H1=>lift X.K tb Y H1 λy H2=>R x y H2:=
 ⟨U,Fz,Re,ha.mono U _ _ (λd kd q v bJ H1 p1=>⟨U,bJ,Re.ext p1.ext,hb.mono U _ _ (λe ke q w cR H2 p2=>q v w bJ H1 cR H2 p1 p2) q⟩) h⟩
end PL
namespace PL
open PySem PySem.Spec L2
open PyProof.Rows hiding St
variable {U:aC}{x:V}{e:Expr}{d:PV}{Y:St}{H:Hp}{K:Xa}{Fz:FZ}{ds es:List PV}
section
variable {K:Xa}{U:aC}{Y:St}{Fz bJ cR:FZ}{H H1 H2:Hp}{d:PV}{k:Kd}{v:V}
theorem lJ.ext (x:Ext bJ H1 cR H2)(h:lJ K bJ H1 U Y H d k v):lJ K cR H2 U Y H d k v:=by
 cases k with
 | aF=>exact aq.mono (.of x.same) x.sub _ _ h
 | new=>
  obtain⟨a,e,hn,nf,o⟩:=h;refine⟨a,e,hn,λz=>?_,o.mono (.of x.same) x.sub (λo h=>x.same _ _ h)⟩;rcases x.new a z with z | z
  .exact nf z
  .obtain⟨o',h,_⟩:=o.at;rw[h]at z;cases z
 | own i=>exact h
theorem lJ.back (s:Same H H1)(h:lJ K cR H2 U Y H1 d k v):lJ K cR H2 U Y H d k v:=by
 cases k with
 | aF=>exact h
 | new=>obtain⟨a,e,hn,r⟩:=h;exact⟨a,e,s.free hn,r⟩
 | own i=>exact h
theorem lJ.up (h:lJ K cR H2 [] [] H d k v):lJ K cR H2 U Y H d k v:=by
 cases k with
 | aF=>exact h
 | new=>exact h
 | own i=>obtain⟨z,_⟩:=h;simp at z
theorem Post.behind (x:Ext Fz H bJ H1)(p:Post K [] [] bJ H1 cR H2 d k v):Post K U Y Fz H cR H2 d k v:=
 ⟨x.trans p.ext,(p.dZ.up (U:=U) (Y:=Y)).back x.same⟩
theorem Post.then(x:Ext Fz H bJ H1)(p:Post K U Y bJ H1 cR H2 d k v):Post K U Y Fz H cR H2 d k v:=
 ⟨x.trans p.ext,p.dZ.back x.same⟩
theorem Post.val (al:∀b,Fz b->H b≠none)(h:aq K Fz H d v):Post K U Y Fz H Fz H d .aF v:=⟨⟨Same.refl H,λ_ h=>h,λ_ h=>.inl h,al⟩,h⟩
end
def pVar (i:Nat):aL:=λU Q=>match U[i]? with
 | some (some (d,b))=>Q d (if b then .own i else .aF)
 | _=>False
theorem Fe {i:Nat}{Q:PV->Kd->Prop}:pVar i U Q↔∃d b,U[i]? = some (some (d,b))/\Q d (if b then .own i else .aF):=by
 unfold pVar;cases h:U[i]? with
 | none=>simp
 | some x=>
  cases x with
  | none=>simp
  | some p=>
   obtain⟨d,b⟩:=p;constructor
   .exact λq=>⟨d,b,rfl,q⟩
   .rintro⟨d',b',e,q⟩;cases e;exact q
def pC (d:PV):aL:=λ_ Q=>Q d .aF
section
variable {X:Cx}
theorem ak (i:Nat){x:Str}{pos:Pos}(hN:X.N[i]? = some x:=by rfl)(hv:mO X.env.scope x:=by first | exact Qk rfl | exact Qs (Qk rfl) | exact Qs (Qs rfl))(hd:fD x:=by decide)
  (hcd:nD x:=by decide):aG X (.Name x pos) (pVar i) where
 mono U Q Q' m h:=by obtain⟨d,b,e,q⟩:=Fe.mp h;exact Fe.mpr ⟨d,b,e,m _ _ q⟩
 run:=PE.weak (mQ hN hv hd hcd) λY H Q h=>by
  obtain⟨U,Fz,R,h⟩:=h;obtain⟨d,b,e,q⟩:=Fe.mp h;cases b with
  | false=>
   obtain⟨v,e1,h1⟩:=R.aF i d e;exact⟨v,e1,q v Fz H (.val R.al h1)⟩
  | true=>
   obtain⟨a,e1,_,_⟩:=R.own i d e;exact⟨_,e1,q _ Fz H ⟨⟨Same.refl H,λ_ h=>h,λ_ h=>.inl h,R.al⟩,e,e1⟩⟩
theorem yw {v:V}(h:PE X e (tC v))(hd:∀Fz H,aq X.K Fz H d v):aG X e (pC d) where
 mono U Q Q' m h:=m _ _ h
 run:=PE.weak h λY H Q h=>by
  obtain⟨U,Fz,R,q⟩:=h;exact q v Fz H (.val R.al (hd Fz H))
theorem bA {i j pos}:aG X (.Constant (.int i) j pos) (pC (.int i)):=yw Jb λ_ _=>by simp only[aq]
theorem sI {b j pos}:aG X (.Constant (.bool b) j pos) (pC (.bl b)):=yw Jc λ_ _=>by simp only[aq]
theorem sJ {j pos}:aG X (.Constant .none j pos) (pC .non):=yw Vz λ_ _=>by simp only[aq]
theorem KC {x j pos}:aG X (.Constant (.str x) j pos) (pC (.str x)):=yw VB λ_ _=>by simp only[aq]
theorem Ff {x:Str}{T:String}{pos:Pos}(hg:Gl X x)(hm:X.mg x=none)(hv:Wm x=some (.type T))(hn:x≠"__name__":=by decide) (hd:fD x:=by decide):aG X (.Name x pos) (pC (.ty T)):=
 yw (VD (v:=.ty T) hg hm hv rfl hn hd) λ_ _=>by simp only[aq]
end
abbrev P2:=PV->PV->(PV->Kd->Prop)->Prop
structure jF (K:Xa)(r:R2)(p:P2):Prop where
 mono:∀d e Q Q',(∀z k,Q z k->Q' z k)->p d e Q->p d e Q'
 run:∀Fz H x y d e Q,(∀b,Fz b->H b≠none)->aD K Fz H d x->aD K Fz H e y->p d e (λz k=>∀v ao H',Post K [] [] Fz H ao H' z k v->Q v H')->r x y H Q
def t2 (p:P2)(ta tb:aL):aL:=λU Q=>ta U λd _=>tb U λe _=>p d e Q
section
variable {X:Cx}{a b:Expr}{ta tb:aL}{pos:Pos}{r:R2}{p:P2}
theorem vp (hp:jF X.K r p)(ha:aG X a ta)(hb:aG X b tb):∀U Q Q',(∀d k,Q d k->Q' d k)->t2 p ta tb U Q->t2 p ta tb U Q':=
 λU Q Q' m h=>ha.mono U _ _ (λd _ h=>hb.mono U _ _ (λe _ h=>hp.mono d e _ _ m h) h) h
theorem yx (hp:jF X.K r p)(ha:aG X a ta)(hb:aG X b tb){Q:VK}(h:lift X.K (t2 p ta tb) Y H Q):xN r (lift X.K ta) (lift X.K tb) Y H Q:=by
 obtain⟨U,Fz,R,h⟩:=h;refine zxR ha hb U Fz R (ha.mono U _ _ (λd kd h=>hb.mono U _ _ (λe ke h=>?_) h) h);intro x y bJ H1 cR H2 p1 p2;have R1:=R.ext p1.ext;refine hp.run cR H2 x y d e Q p2.ext.al ((p1.root R).mono p2.ext.same p2.ext.sub) (p2.root R1) (hp.mono d e _ _ (λz k q v ao H' p3=>?_) h);exact q v ao H' (p3.behind (p1.ext.trans p2.ext))
theorem qu {op:Operator}(ho:fZ X (WS op) r)(hp:jF X.K r p)(ha:aG X a ta)(hb:aG X b tb):aG X (.BinOp a op b pos) (t2 p ta tb):=
 ⟨vp hp ha hb,PE.weak (Ze ho ha.run hb.run) λ_ _ _ h=>yx hp ha hb h⟩
theorem zwm {op:CmpOp}(ho:fZ X (WF op) r)(hp:jF X.K r p)(ha:aG X a ta)(hb:aG X b tb)(hm:Wr op b=false:=by first | exact nG _ | rfl):aG X (.Compare a [op] [b] pos) (t2 p ta tb):=
 ⟨vp hp ha hb,PE.weak (Zv ho ha.run hb.run hm) λ_ _ _ h=>yx hp ha hb h⟩
def blP (d:PV)(Q:Bool->Prop):Prop:=match d with
 | .bl b=>Q b
 | _=>False
theorem Fg {Q:Bool->Prop}:blP d Q↔∃b,d=.bl b/\Q b:=by
 unfold blP;constructor
 .intro h;cases d<;>first | exact⟨_,rfl,h⟩ | exact h.elim
 .rintro⟨b,rfl,q⟩;exact q
theorem zro {Q Q':Bool->Prop}(m:∀b,Q b->Q' b)(h:blP d Q):blP d Q':=by
 obtain⟨b,e,q⟩:=Fg.mp h;exact Fg.mpr ⟨b,e,m b q⟩
def tBl (te:aL):fL:=λU Q=>te U λd _=>blP d Q
theorem qw {op:CmpOp}(ho:fZ X (WF op) r)(hp:jF X.K r p)(ha:aG X a ta)(hb:aG X b tb)(hm:Wr op b=false:=by first | exact nG _ | rfl):iK X (.Compare a [op] [b] pos) (tBl (t2 p ta tb)) where
 mono U Q Q' m h:=vp hp ha hb U _ _ (λd _ q=>zro m q) h
 run:=PT.weak (Zx ho ha.run hb.run hm) λY H Q h=>by
  obtain⟨U,Fz,R,h⟩:=h;refine yx hp ha hb ⟨U,Fz,R,vp hp ha hb U _ _ (λd k q v ao H' p=>?_) h⟩;obtain⟨b,e,q⟩:=Fg.mp q;refine⟨b,?_,q ao H' p.ext⟩;subst e;have w:=p.root R;simpa only[aD,aq]using w
theorem zxS (ho:pQ X r)(hp:jF X.K r p)(ha:aG X a ta)(hb:aG X b tb)(hs:Ec b:=by exact λ_ _=>rfl):aG X (.Subscript a b pos) (t2 p ta tb):=
 ⟨vp hp ha hb,PE.weak (zxK ho ha.run hb.run hs) λ_ _ _ h=>yx hp ha hb h⟩
end
def i2 (C:Int->Int->Prop)(g:Int->Int->PV):P2:=λd e Q=>∃i j,d=.int i/\e=.int j/\C i j/\Q (g i j) .aF
def i0 (g:Int->Int->PV):P2:=λd e Q=>∃i j,d=.int i/\e=.int j/\Q (g i j) .aF
section
variable {K:Xa}
theorem yC {C:Int->Int->Prop}{g:Int->Int->Int}:jF K (rI C λi j=>.int (g i j)) (i2 C λi j=>.int (g i j)) where
 mono d e Q Q' m h:=by obtain⟨i,j,e1,e2,c,q⟩:=h;exact⟨i,j,e1,e2,c,m _ _ q⟩
 run Fz H x y d e Q al rx ry h:=by
  obtain⟨i,j,rfl,rfl,c,q⟩:=h;simp only[aD,aq]at rx ry;exact⟨i,j,rx,ry,c,q _ Fz H (.val al (by simp only[aq]))⟩
theorem KD {g:Int->Int->Int}:jF K (rY λi j=>.int (g i j)) (i0 λi j=>.int (g i j)) where
 mono d e Q Q' m h:=by obtain⟨i,j,e1,e2,q⟩:=h;exact⟨i,j,e1,e2,m _ _ q⟩
 run Fz H x y d e Q al rx ry h:=by
  obtain⟨i,j,rfl,rfl,q⟩:=h;simp only[aD,aq]at rx ry;exact⟨i,j,rx,ry,q _ Fz H (.val al (by simp only[aq]))⟩
theorem KH {g:Int->Int->Bool}:jF K (rY λi j=>.bl (g i j)) (i0 λi j=>.bl (g i j)) where
 mono d e Q Q' m h:=by obtain⟨i,j,e1,e2,q⟩:=h;exact⟨i,j,e1,e2,m _ _ q⟩
 run Fz H x y d e Q al rx ry h:=by
  obtain⟨i,j,rfl,rfl,q⟩:=h;simp only[aD,aq]at rx ry;exact⟨i,j,rx,ry,q _ Fz H (.val al (by simp only[aq]))⟩
end
section
variable {X:Cx}{a b:Expr}{ta tb:aL}{pos:Pos}
abbrev Fi:=t2 (i0 λi j=>.int (i+j))
abbrev yD:=t2 (i0 λi j=>.int (i-j))
abbrev Fj:=t2 (i2 qm λi j=>.int (i*j))
abbrev yE:=t2 (i2 (λ_ j=>0<j) λi j=>.int (i % j))
abbrev Fl:=t2 (i2 xR λi j=>.int (i / j))
abbrev Fo:=t2 (i2 xU λi j=>.int (i ^ j.toNat))
abbrev pLt:=t2 (i0 λi j=>.bl (decide (i<j)))
abbrev pGt:=t2 (i0 λi j=>.bl (decide (j<i)))
theorem iU (ha:aG X a ta)(hb:aG X b tb):aG X (.BinOp a .Add b pos) (Fi ta tb):=qu Zg KD ha hb
theorem sO (ha:aG X a ta)(hb:aG X b tb):aG X (.BinOp a .Sub b pos) (yD ta tb):=qu Zh KD ha hb
theorem mD (ha:aG X a ta)(hb:aG X b tb):aG X (.BinOp a .Mult b pos) (Fj ta tb):=qu Zi yC ha hb
theorem jG (ha:aG X a ta)(hb:aG X b tb):aG X (.BinOp a .Mod b pos) (yE ta tb):=qu Zk yC ha hb
theorem vq (ha:aG X a ta)(hb:aG X b tb):aG X (.BinOp a .FloorDiv b pos) (Fl ta tb):=qu Zj yC ha hb
theorem vy (ha:aG X a ta)(hb:aG X b tb):aG X (.BinOp a .Pow b pos) (Fo ta tb):=qu Zm yC ha hb
end
def plain:Nat->PV->Bool
 | _,.non=>true
 | _,.int _=>true
 | _,.str _=>true
 | n+1,.tup ds=>ds.all (plain n)
 | n+1,.lst ds=>ds.all (plain n)
 | _,_=>false
theorem qx (h:aD K Fz H .non x):x=.non:=by simpa only[aD,aq]using h
theorem ju {i:Int}(h:aD K Fz H (.int i) x):x=.int i:=by simpa only[aD,aq]using h
theorem yF {i:Bool}(h:aD K Fz H (.bl i) x):x=.bl i:=by simpa only[aD,aq]using h
theorem nO {i:Str}(h:aD K Fz H (.str i) x):x=.str i:=by simpa only[aD,aq]using h
theorem lq (h:aD K Fz H (.tup ds) x):∃a xs,x=.ref a/\bN K H a xs/\aj K Fz H ds xs:=by
 simp only[aD,aq]at h;obtain⟨a,xs,e,h1,h2⟩:=h;exact⟨a,xs,e,bN.of h1,h2⟩
theorem Ax (h:aD K Fz H (.tup ds) x):∃a xs,x=.ref a/\H a=some (.tup xs)/\aj K Fz H ds xs:=by simpa only[aD,aq]using h
theorem fG (h:aD K Fz H (.lst ds) x):∃a xs,x=.ref a/\bI K H a xs/\aj K Fz H ds xs:=by
 simp only[aD]at h;obtain⟨a,xs,e,h1,h2⟩:=h;exact⟨a,xs,e,h1.elim (λh=>.inl h) KX.sq,h2⟩
theorem KJ (h:aD K Fz H (.lst ds) x):∃a xs,x=.ref a/\(Rd H a (.lst xs)\/KX K a xs)/\aj K Fz H ds xs:=by simpa only[aD]using h
theorem df {p:Prop} [Decidable p] (h:¬ p){Qq2:Bool->Prop}(y:Qq2 false):Qq2 (decide p):=by rw[Qc h];exact y
theorem dn {p:Prop} [Decidable p] (h:¬ p){Qq2:Bool->Prop}(y:Qq2 true):Qq2 (!decide p):=by rw[Qc h];exact y
section
variable {X:Cx}{pins:Tg}{Y:St}{H:Hp}{s:Wc}{Fz ao:FZ}
theorem Ay (I:Inv X pins Y H s){a:Addr}{xs ys:List V}(h1:bI X.K H a xs)(h2:bN X.K H a ys):False:=by
 obtain⟨its,r,p,_⟩:=I.list h1;obtain⟨its2,r2,p2,_⟩:=I.tuple h2;exact SeqAt.ne_of_list_tuple p.isList (show s.heap.IsTuple a its2.toArray from p2) rfl
theorem Fp (I:Inv X pins Y H s):∀(n:Nat)(d e:PV)(x:V),plain n d=true->plain n e=true->aD X.K Fz H d x->aD X.K ao H e x->d=e:=by
 intro n;induction n with
 | zero=>
  intro d e x pd pe h g;cases d<;>first
   | (simp only[plain]at pd;exact Qg pd (by decide))
   | (cases e<;>first
     | (simp only[plain]at pe;exact Qg pe (by decide))
     | (simp only[aD,aq]at h g;subst h;first | (cases g;rfl) | cases g))
 | succ n ih=>
  have all:∀(ds es:List PV) (xs:List V),ds.all (plain n)=true->es.all (plain n)=true->aj X.K Fz H ds xs->aj X.K ao H es xs->ds=es:=by
   intro ds;induction ds with
   | nil=>
    intro es xs _ _ h g;simp only[aj]at h;subst h;cases es with
    | nil=>rfl
    | cons e es=>simp only[aj]at g;obtain⟨_,_,z,_⟩:=g;cases z
   | cons d ds ihd=>
    intro es xs pd pe h g;simp only[aj]at h;obtain⟨v,r,z,h1,h2⟩:=h;subst z;cases es with
    | nil=>simp only[aj]at g;cases g
    | cons e es=>
     simp only[aj]at g;obtain⟨v',r',z,g1,g2⟩:=g;cases z;rw[List.all_cons,Yu]at pd pe;rw[ih d e v pd.1 pe.1 h1.root g1.root,ihd es r pd.2 pe.2 h2 g2]
  intro d e x pd pe h g;cases d with
  | tup ds=>
   simp only[plain]at pd;simp only[aD,aq]at h;obtain⟨a,xs,rfl,h1,h2⟩:=h;cases e with
   | tup es=>
    simp only[plain]at pe;simp only[aD,aq]at g;obtain⟨b,ys,z,g1,g2⟩:=g;cases z;have e1:=I.Jd (bN.of h1) (bN.of g1);subst e1;rw[all ds es xs pd pe h2 g2]
   | lst es=>
    obtain⟨b,ys,z,g1,g2⟩:=fG g;cases z;exact(Ay I g1 (bN.of h1)).elim
   | non=>simp only[aD,aq]at g;cases g
   | int i=>simp only[aD,aq]at g;cases g
   | str i=>simp only[aD,aq]at g;cases g
   | bl _=>simp only[plain]at pe;exact Qg pe (by decide)
   | ty _=>simp only[plain]at pe;exact Qg pe (by decide)
   | dK _ _=>simp only[plain]at pe;exact Qg pe (by decide)
   | dT _ _=>simp only[plain]at pe;exact Qg pe (by decide)
   | dP _=>simp only[plain]at pe;exact Qg pe (by decide)
   | obj _ _ _=>simp only[plain]at pe;exact Qg pe (by decide)
  | lst ds=>
   simp only[plain]at pd;obtain⟨a,xs,rfl,h1,h2⟩:=fG h;cases e with
   | lst es=>
    simp only[plain]at pe;obtain⟨b,ys,z,g1,g2⟩:=fG g;cases z;have e1:=I.u5 h1 g1;subst e1;rw[all ds es xs pd pe h2 g2]
   | tup es=>
    simp only[aD,aq]at g;obtain⟨b,ys,z,g1,g2⟩:=g;cases z;exact(Ay I h1 (bN.of g1)).elim
   | non=>simp only[aD,aq]at g;cases g
   | int i=>simp only[aD,aq]at g;cases g
   | str i=>simp only[aD,aq]at g;cases g
   | bl _=>simp only[plain]at pe;exact Qg pe (by decide)
   | ty _=>simp only[plain]at pe;exact Qg pe (by decide)
   | dK _ _=>simp only[plain]at pe;exact Qg pe (by decide)
   | dT _ _=>simp only[plain]at pe;exact Qg pe (by decide)
   | dP _=>simp only[plain]at pe;exact Qg pe (by decide)
   | obj _ _ _=>simp only[plain]at pe;exact Qg pe (by decide)
  | bl _=>simp only[plain]at pd;exact Qg pd (by decide)
  | ty _=>simp only[plain]at pd;exact Qg pd (by decide)
  | dK _ _=>simp only[plain]at pd;exact Qg pd (by decide)
  | dT _ _=>simp only[plain]at pd;exact Qg pd (by decide)
  | dP _=>simp only[plain]at pd;exact Qg pd (by decide)
  | obj _ _ _=>simp only[plain]at pd;exact Qg pd (by decide)
  | non=>
   have h':=qx h;subst h';cases e with
   | non=>rfl
   | int i=>exact nomatch ju g
   | str i=>exact nomatch nO g
   | tup ds=>obtain⟨_,_,z,_⟩:=lq g;exact nomatch z
   | lst ds=>obtain⟨_,_,z,_⟩:=fG g;exact nomatch z
   | _=>simp only[plain]at pe;exact Qg pe (by decide)
  | int i=>
   have h':=ju h;subst h';cases e with
   | non=>exact nomatch qx g
   | int j=>have:=ju g;injection this with this;rw[this]
   | str i=>exact nomatch nO g
   | tup ds=>obtain⟨_,_,z,_⟩:=lq g;exact nomatch z
   | lst ds=>obtain⟨_,_,z,_⟩:=fG g;exact nomatch z
   | _=>simp only[plain]at pe;exact Qg pe (by decide)
  | str i=>
   have h':=nO h;subst h';cases e with
   | non=>exact nomatch qx g
   | int j=>exact nomatch ju g
   | str j=>have:=nO g;injection this with this;rw[this]
   | tup ds=>obtain⟨_,_,z,_⟩:=lq g;exact nomatch z
   | lst ds=>obtain⟨_,_,z,_⟩:=fG g;exact nomatch z
   | _=>simp only[plain]at pe;exact Qg pe (by decide)
theorem KN {n:Nat}(hn:n=min ds.length es.length):((XE n).all λj=>decide (ds[j]? = es[j]?))=true↔∀j,j<ds.length->j<es.length->ds[j]? = es[j]?:=by
 rw[XX];constructor
 .intro h j h1 h2;exact Qh (h j (List.mem_range.mpr (by lia)))
 .intro h j hj;have:=List.mem_range.mp hj;exact Qd (h j (by lia) (by lia))
theorem KQ (hl:ds.length=es.length):(∀j,j<ds.length->j<es.length->ds[j]? = es[j]?)↔ds=es:=by
 constructor
 .intro h;apply List.ext_getElem?;intro j;by_cases hj:j<ds.length
  .exact h j hj (by lia)
  .rw[XA (by lia),XA (by lia)]
 .rintro rfl _ _ _;rfl
theorem KR (ds es:List PV):((XE (min ds.length es.length)).all (λj=>decide (ds[j]? = es[j]?))&&ds.length == es.length)=decide (ds=es):=by
 by_cases hlen:ds.length=es.length
 .have hb':(ds.length == es.length)=true:=by simp;lia
  rw[hb',Bool.and_true];by_cases h:ds=es
  .rw[(KN rfl).mpr ((KQ hlen).mpr h),Qd h]
  .rw[Qc h];cases hq:(XE (min ds.length es.length)).all (λj=>decide (ds[j]? = es[j]?))with
   | false=>rfl
   | true=>exact Qg ((KQ hlen).mp ((KN rfl).mp hq)) h
 .have hb':(ds.length == es.length)=false:=by rw[beq_eq_false_iff_ne];exact hlen
  rw[hb',Bool.and_false,Qc (λz=>hlen (by rw[z]))]
theorem zkK (hlen:ds.length=es.length):((XE ds.length).all (λj=>decide (ds[j]? = es[j]?)))=decide (ds=es):=by
 have q:=KR ds es;rw[hlen,Nat.min_self]at q;rw[hlen];simpa using q
theorem KY {i j:Int}:decide (PV.int i=PV.int j)=(i == j):=by
 rw[Pq];simp
theorem KZ {i j:Str}:decide (PV.str i=PV.str j)=(i == j):=by
 rw[Pq];simp
theorem zrp {i j:List PV}:decide (PV.tup i=PV.tup j)=decide (i=j):=by
 rw[Pq];simp
theorem zrq {i j:List PV}:decide (PV.lst i=PV.lst j)=decide (i=j):=by
 rw[Pq];simp
theorem K1 {A:Wl}{n:Nat}{ds es:List PV}{xs ys:List V}{its its2:Tq}(I:Inv X pins Y H s)(r1:Vals xs its)(r2:Vals ys its2)(h1:aj X.K Fz H ds xs)(h2:aj X.K ao H es ys)(pd:ds.all (plain n)=true)(pe:es.all (plain n)=true)
  (ih:∀(d e:PV) (x y:V) (u v:Wb),plain n d=true->plain n e=true->aq X.K Fz H d x->aq X.K ao H e y->RelV x u->RelV y v->Q0 A s u v (decide (d=e))) :
  ∀j (h1:j<its.toArray.size) (h2:j<its2.toArray.size),Q0 A s its.toArray[j] its2.toArray[j] (decide (ds[j]? = es[j]?)):=λj h1' h2'=>by
 have l1:=r1.length;have l2:=r2.length;have l3:=h1.length;have l4:=h2.length;rw[Xo]at h1' h2';have e1:ds[j]? = some ds[j]:=Xd (by lia);have e2:es[j]? = some es[j]:=Xd (by lia);obtain⟨x,e3,q3⟩:=h1.get e1;obtain⟨y,e4,q4⟩:=h2.get e2;obtain⟨u1,q1,r1'⟩:=r1.get e3;obtain⟨u2,q2,r2'⟩:=r2.get e4;have f1:its.toArray[j]=u1:=by
  have:its[j]? = some its[j]:=Xd h1';rw[q1]at this;simpa using (Qa this).symm
 have f2:its2.toArray[j]=u2:=by
  have:its2[j]? = some its2[j]:=Xd h2';rw[q2]at this;simpa using (Qa this).symm
 rw[f1,f2];have w:decide (ds[j]=es[j])=decide (ds[j]? = es[j]?):=by
  rw[e1,e2];by_cases h:ds[j]=es[j]
  .rw[Qd h,Qd (by rw[h])]
  .rw[Qc h,Qc (λz=>h (Qa z))]
 rw[<- w];exact ih _ _ _ _ _ _ (XX.mp pd _ (YA _)) (XX.mp pe _ (YA _)) q3 q4 r1' r2'
inductive Leaf:PV->Wb->Prop
 | non:Leaf .non .none
 | int (i:Int) (t:Tok):Leaf (.int i) (.int i t)
 | str (i:Str) (t:Tok):Leaf (.str i) (.str i t)
theorem K3 {Fz:FZ}{H:Hp}{u:Wb}(hp:plain 0 d=true)(hx:aD K Fz H d x)(rx:RelV x u):Leaf d u:=by
 cases d with
 | non=>rw[qx hx]at rx;cases rx;exact .non
 | int i=>rw[ju hx]at rx;obtain⟨t,rfl⟩:=rx;exact .int i t
 | str i=>rw[nO hx]at rx;obtain⟨t,rfl⟩:=rx;exact .str i t
 | _=>simp only[plain]at hp;exact Qg hp (by decide)
theorem ztZ {A:Wl}{s:Wc}{e:PV}{u v:Wb}(h1:Leaf d u)(h2:Leaf e v):SeqAt.RcAt A s u v (decide (d=e))/\SeqAt.RcNeAt A s u v (!decide (d=e))/\Q0 A s u v (decide (d=e)):=by
 have no:∀ {d e:PV} {u v:Wb},d≠e->SeqAt.RcAt A s u v false->SeqAt.RcNeAt A s u v true->Q0 A s u v false->SeqAt.RcAt A s u v (decide (d=e))/\SeqAt.RcNeAt A s u v (!decide (d=e))/\Q0 A s u v (decide (d=e)):=λh a b c=>by rw[Qc h];exact⟨a,b,c⟩
 cases h1<;>cases h2
 .rw[Qd rfl];exact⟨SeqAt.RcAt.none_none,SeqAt.RcNeAt.none_none,SeqAt.EqAt.same _⟩
 .exact no (λz=>nomatch z) (SeqAt.RcAt.none_int _ _) (SeqAt.RcNeAt.none_int _ _) (SeqAt.EqAt.none_int _ _)
 .exact no (λz=>nomatch z) (SeqAt.RcAt.none_str _ _) (SeqAt.RcNeAt.none_str _ _) (SeqAt.EqAt.none_str _ _)
 .exact no (λz=>nomatch z) (SeqAt.RcAt.int_none _ _) (SeqAt.RcNeAt.int_none _ _) (SeqAt.EqAt.int_none _ _)
 .rw[KY];exact⟨SeqAt.RcAt.int_int _ _ _ _,SeqAt.RcNeAt.int_int _ _ _ _,SeqAt.EqAt.int_int _ _ _ _⟩
 .exact no (λz=>nomatch z) (SeqAt.RcAt.int_str _ _ _ _) (SeqAt.RcNeAt.int_str _ _ _ _) (SeqAt.EqAt.int_str _ _ _ _)
 .exact no (λz=>nomatch z) (SeqAt.RcAt.str_none _ _) (SeqAt.RcNeAt.str_none _ _) (SeqAt.EqAt.str_none _ _)
 .exact no (λz=>nomatch z) (SeqAt.RcAt.str_int _ _ _ _) (SeqAt.RcNeAt.str_int _ _ _ _) (SeqAt.EqAt.str_int _ _ _ _)
 .rw[KZ];exact⟨SeqAt.RcAt.str_str _ _ _ _,SeqAt.RcNeAt.str_str _ _ _ _,SeqAt.EqAt.str_str _ _ _ _⟩
theorem Fq (I:Inv X pins Y H s):∀(n:Nat)(A:Wl)(d e:PV)(x y:V)(u v:Wb),plain n d=true->plain n e=true->A.units+n<WG->aD X.K Fz H d x->aD X.K ao H e y->RelV x u->RelV y v->
  SeqAt.RcAt A s u v (decide (d=e))/\SeqAt.RcNeAt A s u v (!decide (d=e))/\Q0 A s u v (decide (d=e)):=by
 intro n;induction n with
 | zero=>exact λA d e x y u v pd pe hu hx hy rx ry=>ztZ (K3 pd hx rx) (K3 pe hy ry)
 | succ n ih=>
  intro A d e x y u v pd pe hu hx hy rx ry;have hA:A.units<WG:=by lia
  have iha:∀(d e:PV) (x y:V) (u v:Wb),plain n d=true->plain n e=true->aq X.K Fz H d x->aq X.K ao H e y->RelV x u->RelV y v->Q0 A.in1 s u v (decide (d=e)):=
   λd e x y u v pd pe h1 h2 r1 r2=>(ih A.in1 d e x y u v pd pe (by show A.units+1+n<WG;lia) h1.root h2.root r1 r2).2.2
  have lower:∀c:PV,(∀ds,c≠.tup ds)->(∀ds,c≠.lst ds)->plain (n+1) c=true->plain n c=true:=λc h1 h2 hc=>by
   cases c with
   | tup ds=>exact Qg rfl (h1 ds)
   | lst ds=>exact Qg rfl (h2 ds)
   | non=>cases n<;>rfl
   | int i=>cases n<;>rfl
   | str i=>cases n<;>rfl
   | bl _=>simp only[plain]at hc;exact Qg hc (by decide)
   | ty _=>simp only[plain]at hc;exact Qg hc (by decide)
   | dK _ _=>simp only[plain]at hc;exact Qg hc (by decide)
   | dT _ _=>simp only[plain]at hc;exact Qg hc (by decide)
   | dP _=>simp only[plain]at hc;exact Qg hc (by decide)
   | obj _ _ _=>simp only[plain]at hc;exact Qg hc (by decide)
  have hA':A.units+n<WG:=by lia
  cases d with
  | tup ds=>
   have hx':=hx;simp only[aD,aq]at hx;obtain⟨a,xs,rfl,ha,h1⟩:=hx;cases rx;obtain⟨its,r1,p1,z1⟩:=I.tuple (bN.of ha);have eN:s.heap.IsTuple a its.toArray:=p1;cases e with
   | tup es=>
    have hy':=hy;simp only[aD,aq]at hy;obtain⟨b,ys,rfl,hb,h2⟩:=hy;cases ry;obtain⟨its2,r2,p2,z2⟩:=I.tuple (bN.of hb);have jH:s.heap.IsTuple b its2.toArray:=p2;have he:=K1 I r1 r2 h1 h2 (by simpa only[plain]using pd) (by simpa only[plain]using pe) iha;have w:((XE (min its.toArray.size its2.toArray.size)).all (λj=>decide (ds[j]? = es[j]?))&&its.toArray.size == its2.toArray.size)=decide (PV.tup ds=PV.tup es):=by
     rw[Xo,Xo,<- r1.length,<- r2.length,<- h1.length,<- h2.length,KR,zrp]
    have q:=SeqAt.RcAt.tuples eN jH hA he;have q':=SeqAt.RcNeAt.tuples eN jH hA he;rw[w]at q q';refine⟨q,q',?_⟩;by_cases hab:a=b
    .subst hab;rw[Fp I (n+1) _ _ _ pd pe hx' hy',Qd rfl];exact SeqAt.EqAt.same _
    .exact SeqAt.EqAt.of_refs hab q
   | lst es=>
    obtain⟨b,ys,rfl,hb,h2⟩:=fG hy;cases ry;obtain⟨its2,r2,p2,z2⟩:=I.list hb;exact⟨df (λz=>nomatch z) (SeqAt.RcAt.tuple_list eN p2.isList hA),dn (λz=>nomatch z) (SeqAt.RcNeAt.tuple_list eN p2.isList hA),df (λz=>nomatch z) (SeqAt.EqAt.tuple_list eN p2.isList hA)⟩
   | non=>simp only[aD,aq]at hy;subst hy;cases ry;exact⟨df (λz=>nomatch z) (SeqAt.RcAt.tuple_none eN hA),dn (λz=>nomatch z) (SeqAt.RcNeAt.tuple_none eN hA),df (λz=>nomatch z) (SeqAt.EqAt.tuple_none eN hA)⟩
   | int i=>simp only[aD,aq]at hy;subst hy;obtain⟨t,rfl⟩:=ry;exact⟨df (λz=>nomatch z) (SeqAt.RcAt.tuple_int i t eN hA),dn (λz=>nomatch z) (SeqAt.RcNeAt.tuple_int i t eN hA),df (λz=>nomatch z) (SeqAt.EqAt.tuple_int i t eN hA)⟩
   | str i=>simp only[aD,aq]at hy;subst hy;obtain⟨t,rfl⟩:=ry;exact⟨df (λz=>nomatch z) (SeqAt.RcAt.tuple_str i t eN hA),dn (λz=>nomatch z) (SeqAt.RcNeAt.tuple_str i t eN hA),df (λz=>nomatch z) (SeqAt.EqAt.tuple_str i t eN hA)⟩
   | bl _=>simp only[plain]at pe;exact Qg pe (by decide)
   | ty _=>simp only[plain]at pe;exact Qg pe (by decide)
   | dK _ _=>simp only[plain]at pe;exact Qg pe (by decide)
   | dT _ _=>simp only[plain]at pe;exact Qg pe (by decide)
   | dP _=>simp only[plain]at pe;exact Qg pe (by decide)
   | obj _ _ _=>simp only[plain]at pe;exact Qg pe (by decide)
  | lst ds=>
   have hx':=hx;obtain⟨a,xs,rfl,ha,h1⟩:=fG hx;cases rx;obtain⟨its,r1,p1,z1⟩:=I.list ha;have eN:=p1.isList;cases e with
   | lst es=>
    have hy':=hy;obtain⟨b,ys,rfl,hb,h2⟩:=fG hy;cases ry;obtain⟨its2,r2,p2,z2⟩:=I.list hb;have he:=K1 I r1 r2 h1 h2 (by simpa only[plain]using pd) (by simpa only[plain]using pe) iha;have l1:=r1.length;have l2:=r2.length;have l3:=h1.length;have l4:=h2.length;have key:SeqAt.RcAt A s (.ref a) (.ref b) (decide (PV.lst ds=PV.lst es))/\SeqAt.RcNeAt A s (.ref a) (.ref b) (!decide (PV.lst ds=PV.lst es)):=by
     by_cases hlen:ds.length=es.length
     .have w:(XE its.toArray.size).all (λj=>decide (ds[j]? = es[j]?))=decide (PV.lst ds=PV.lst es):=by
       rw[Xo,<- l1,<- l3,zkK hlen,zrq]
      have q:=SeqAt.RcAt.lists eN p2.isList (by rw[Xo,Xo];lia) hA he;have q':=SeqAt.RcNeAt.lists eN p2.isList (by rw[Xo,Xo];lia) hA he;rw[w]at q q';exact⟨q,q'⟩
     .have hne:(its.toArray.size != its2.toArray.size)=true:=by rw[Xo,Xo];simp;lia
      rw[Qc (λz=>hlen (by rw[PV.lst.inj z]))];exact⟨SeqAt.RcAt.lists_lengths eN p2.isList hne hA,SeqAt.RcNeAt.lists_lengths eN p2.isList hne hA⟩
    refine⟨key.1,key.2,?_⟩;by_cases hab:a=b
    .subst hab;rw[Fp I (n+1) _ _ _ pd pe hx' hy',Qd rfl];exact SeqAt.EqAt.same _
    .exact SeqAt.EqAt.of_refs hab key.1
   | tup es=>
    simp only[aD,aq]at hy;obtain⟨b,ys,rfl,hb,h2⟩:=hy;cases ry;obtain⟨its2,r2,p2,z2⟩:=I.tuple (bN.of hb);have jH:s.heap.IsTuple b its2.toArray:=p2;exact⟨df (λz=>nomatch z) (SeqAt.RcAt.list_tuple eN jH hA),dn (λz=>nomatch z) (SeqAt.RcNeAt.list_tuple eN jH hA),df (λz=>nomatch z) (SeqAt.EqAt.list_tuple eN jH hA)⟩
   | non=>simp only[aD,aq]at hy;subst hy;cases ry;exact⟨df (λz=>nomatch z) (SeqAt.RcAt.list_none eN hA),dn (λz=>nomatch z) (SeqAt.RcNeAt.list_none eN hA),df (λz=>nomatch z) (SeqAt.EqAt.list_none eN hA)⟩
   | int i=>simp only[aD,aq]at hy;subst hy;obtain⟨t,rfl⟩:=ry;exact⟨df (λz=>nomatch z) (SeqAt.RcAt.list_int i t eN hA),dn (λz=>nomatch z) (SeqAt.RcNeAt.list_int i t eN hA),df (λz=>nomatch z) (SeqAt.EqAt.list_int i t eN hA)⟩
   | str i=>simp only[aD,aq]at hy;subst hy;obtain⟨t,rfl⟩:=ry;exact⟨df (λz=>nomatch z) (SeqAt.RcAt.list_str i t eN hA),dn (λz=>nomatch z) (SeqAt.RcNeAt.list_str i t eN hA),df (λz=>nomatch z) (SeqAt.EqAt.list_str i t eN hA)⟩
   | bl _=>simp only[plain]at pe;exact Qg pe (by decide)
   | ty _=>simp only[plain]at pe;exact Qg pe (by decide)
   | dK _ _=>simp only[plain]at pe;exact Qg pe (by decide)
   | dT _ _=>simp only[plain]at pe;exact Qg pe (by decide)
   | dP _=>simp only[plain]at pe;exact Qg pe (by decide)
   | obj _ _ _=>simp only[plain]at pe;exact Qg pe (by decide)
  | bl _=>simp only[plain]at pd;exact Qg pd (by decide)
  | ty _=>simp only[plain]at pd;exact Qg pd (by decide)
  | dK _ _=>simp only[plain]at pd;exact Qg pd (by decide)
  | dT _ _=>simp only[plain]at pd;exact Qg pd (by decide)
  | dP _=>simp only[plain]at pd;exact Qg pd (by decide)
  | obj _ _ _=>simp only[plain]at pd;exact Qg pd (by decide)
  | non=>
   cases e with
   | tup es=>
    simp only[aD,aq]at hx hy;subst hx;cases rx;obtain⟨b,ys,rfl,hb,h2⟩:=hy;cases ry;obtain⟨its2,r2,p2,z2⟩:=I.tuple (bN.of hb);have jH:s.heap.IsTuple b its2.toArray:=p2;exact⟨df (λz=>nomatch z) (SeqAt.RcAt.none_tuple jH hA),dn (λz=>nomatch z) (SeqAt.RcNeAt.none_tuple jH hA),df (λz=>nomatch z) (SeqAt.EqAt.none_tuple jH hA)⟩
   | lst es=>
    simp only[aD,aq]at hx;subst hx;cases rx;obtain⟨b,ys,rfl,hb,h2⟩:=fG hy;cases ry;obtain⟨its2,r2,p2,z2⟩:=I.list hb;exact⟨df (λz=>nomatch z) (SeqAt.RcAt.none_list p2.isList hA),dn (λz=>nomatch z) (SeqAt.RcNeAt.none_list p2.isList hA),df (λz=>nomatch z) (SeqAt.EqAt.none_list p2.isList hA)⟩
   | _=>exact ih A _ _ x y u v (lower _ (λ_ z=>nomatch z) (λ_ z=>nomatch z) pd) (lower _ (λ_ z=>nomatch z) (λ_ z=>nomatch z) pe) hA' hx hy rx ry
  | int i=>
   cases e with
   | tup es=>
    simp only[aD,aq]at hx hy;subst hx;obtain⟨t,rfl⟩:=rx;obtain⟨b,ys,rfl,hb,h2⟩:=hy;cases ry;obtain⟨its2,r2,p2,z2⟩:=I.tuple (bN.of hb);have jH:s.heap.IsTuple b its2.toArray:=p2;exact⟨df (λz=>nomatch z) (SeqAt.RcAt.int_tuple i t jH hA),dn (λz=>nomatch z) (SeqAt.RcNeAt.int_tuple i t jH hA),df (λz=>nomatch z) (SeqAt.EqAt.int_tuple i t jH hA)⟩
   | lst es=>
    simp only[aD,aq]at hx;subst hx;obtain⟨t,rfl⟩:=rx;obtain⟨b,ys,rfl,hb,h2⟩:=fG hy;cases ry;obtain⟨its2,r2,p2,z2⟩:=I.list hb;exact⟨df (λz=>nomatch z) (SeqAt.RcAt.int_list i t p2.isList hA),dn (λz=>nomatch z) (SeqAt.RcNeAt.int_list i t p2.isList hA),df (λz=>nomatch z) (SeqAt.EqAt.int_list i t p2.isList hA)⟩
   | _=>exact ih A _ _ x y u v (lower _ (λ_ z=>nomatch z) (λ_ z=>nomatch z) pd) (lower _ (λ_ z=>nomatch z) (λ_ z=>nomatch z) pe) hA' hx hy rx ry
  | str i=>
   cases e with
   | tup es=>
    simp only[aD,aq]at hx hy;subst hx;obtain⟨t,rfl⟩:=rx;obtain⟨b,ys,rfl,hb,h2⟩:=hy;cases ry;obtain⟨its2,r2,p2,z2⟩:=I.tuple (bN.of hb);have jH:s.heap.IsTuple b its2.toArray:=p2;exact⟨df (λz=>nomatch z) (SeqAt.RcAt.str_tuple i t jH hA),dn (λz=>nomatch z) (SeqAt.RcNeAt.str_tuple i t jH hA),df (λz=>nomatch z) (SeqAt.EqAt.str_tuple i t jH hA)⟩
   | lst es=>
    simp only[aD,aq]at hx;subst hx;obtain⟨t,rfl⟩:=rx;obtain⟨b,ys,rfl,hb,h2⟩:=fG hy;cases ry;obtain⟨its2,r2,p2,z2⟩:=I.list hb;exact⟨df (λz=>nomatch z) (SeqAt.RcAt.str_list i t p2.isList hA),dn (λz=>nomatch z) (SeqAt.RcNeAt.str_list i t p2.isList hA),df (λz=>nomatch z) (SeqAt.EqAt.str_list i t p2.isList hA)⟩
   | _=>exact ih A _ _ x y u v (lower _ (λ_ z=>nomatch z) (λ_ z=>nomatch z) pd) (lower _ (λ_ z=>nomatch z) (λ_ z=>nomatch z) pe) hA' hx hy rx ry
end
def uf (K:Xa)(neg:Bool):R2:=λx y H Q=>∃Fz d e,aD K Fz H d x/\aD K Fz H e y/\plain 6 d=true/\plain 6 e=true/\Q (.bl (if neg then !decide (d=e) else decide (d=e))) H
def pEq (neg:Bool):P2:=λd e Q=>plain 6 d=true/\plain 6 e=true/\Q (.bl (if neg then !decide (d=e) else decide (d=e))) .aF
section
variable {X:Cx}
theorem zwn (hu:X.A.units+16<WG):fZ X (WF .Eq) (uf X.K false):=by
 intro pins s Y H x y v u Q I rx ry h;obtain⟨Fz,d,e,hx,hy,pd,pe,q⟩:=h;exact(Fq I 6 X.A d e x y v u pd pe (by lia) hx hy rx ry).1 X.prog X.w X.xe _ ⟨.bl _,H,I,rfl,q⟩
theorem zwo (hu:X.A.units+16<WG):fZ X (WF .NotEq) (uf X.K true):=by
 intro pins s Y H x y v u Q I rx ry h;obtain⟨Fz,d,e,hx,hy,pd,pe,q⟩:=h;exact(Fq I 6 X.A d e x y v u pd pe (by lia) hx hy rx ry).2.1 X.prog X.w X.xe _ ⟨.bl _,H,I,rfl,q⟩
theorem K4 {neg:Bool}:jF K (uf K neg) (pEq neg) where
 mono d e Q Q' m h:=⟨h.1,h.2.1,m _ _ h.2.2⟩
 run Fz H x y d e Q al rx ry h:=⟨Fz,d,e,rx,ry,h.1,h.2.1,h.2.2 _ Fz H (.val al (by simp only[aq]))⟩
end
section
variable {X:Cx}{a b c:Expr}{ta tb:aL}{tA jU:fL}{pos:Pos}{rest:List Expr}
structure lu (X:Cx)(e:Expr)(t:fL):Prop where
 mono:∀U Q Q',(∀b,Q b->Q' b)->t U Q->t U Q'
 run:PW X e (liftT X.K t)
theorem lu.t {t:fL}(h:lu X e t):iK X e t:=⟨h.mono,h.run.pt⟩
def zcx (t u:fL):fL:=λU Q=>t U λc=>if c=true then u U Q else Q false
def tOrP (t u:fL):fL:=λU Q=>t U λc=>if c=true then Q true else u U Q
def zcJ (t:fL):fL:=λU Q=>t U λc=>Q (!c)
theorem PW.weak {t t':TT}(h:PW X e t)(w:∀Y H Q,t' Y H Q->t Y H Q):PW X e t':=λwhole pins s Y H Q I q=>h whole pins s Y H Q I (w Y H Q q)
theorem Az (ha:iK X a tA):lu X (.BoolOp .And [a] pos) tA:=⟨ha.mono,VG ha.run⟩
theorem Ba (ha:iK X a tA):lu X (.BoolOp .Or [a] pos) tA:=⟨ha.mono,VH ha.run⟩
theorem and_mono (m1:∀U (Q Q':Bool->Prop),(∀b,Q b->Q' b)->tA U Q->tA U Q')(m2:∀U (Q Q':Bool->Prop),(∀b,Q b->Q' b)->jU U Q->jU U Q') :
  ∀U (Q Q':Bool->Prop),(∀b,Q b->Q' b)->zcx tA jU U Q->zcx tA jU U Q':=λU Q Q' m h=>m1 U _ _ (λc q=>by
 cases c with
 | true=>rw[Qf rfl]at q ⊢;exact m2 U _ _ m q
 | false=>rw[Qe Xu]at q ⊢;exact m _ q) h
theorem or_mono (m1:∀U (Q Q':Bool->Prop),(∀b,Q b->Q' b)->tA U Q->tA U Q')(m2:∀U (Q Q':Bool->Prop),(∀b,Q b->Q' b)->jU U Q->jU U Q') :
  ∀U (Q Q':Bool->Prop),(∀b,Q b->Q' b)->tOrP tA jU U Q->tOrP tA jU U Q':=λU Q Q' m h=>m1 U _ _ (λc q=>by
 cases c with
 | false=>rw[Qe Xu]at q ⊢;exact m2 U _ _ m q
 | true=>rw[Qf rfl]at q ⊢;exact m _ q) h
theorem Bb (ha:iK X a tA)(hb:lu X (.BoolOp .And (b::rest) pos) jU):lu X (.BoolOp .And (a::b::rest) pos) (zcx tA jU) where
 mono:=and_mono ha.mono hb.mono
 run:=PW.weak (VJ ha.run hb.run) λY H Q h=>by
  obtain⟨U,Fz,R,h⟩:=h;refine⟨U,Fz,R,ha.mono U _ _ (λc q ao H' x=>?_) h⟩;cases c with
  | true=>
   rw[Qf rfl]at q ⊢;exact⟨U,ao,R.ext x,hb.mono U _ _ (λb q cR H2 x2=>q cR H2 (x.trans x2)) q⟩
  | false=>rw[Qe Xu]at q ⊢;exact q ao H' x
theorem yG (ha:iK X a tA)(hb:lu X (.BoolOp .Or (b::rest) pos) jU):lu X (.BoolOp .Or (a::b::rest) pos) (tOrP tA jU) where
 mono:=or_mono ha.mono hb.mono
 run:=PW.weak (VL ha.run hb.run) λY H Q h=>by
  obtain⟨U,Fz,R,h⟩:=h;refine⟨U,Fz,R,ha.mono U _ _ (λc q ao H' x=>?_) h⟩;cases c with
  | false=>
   rw[Qe Xu]at q ⊢;exact⟨U,ao,R.ext x,hb.mono U _ _ (λb q cR H2 x2=>q cR H2 (x.trans x2)) q⟩
  | true=>rw[Qf rfl]at q ⊢;exact q ao H' x
theorem vz (ha:iK X a tA):iK X (.UnaryOp .Not a pos) (zcJ tA) where
 mono U Q Q' m h:=ha.mono U _ _ (λc q=>m _ q) h
 run:=PT.weak (VN ha.run) λY H Q h=>h
def TruP:PV->Bool->Prop
 | .non,k=>k=false
 | .bl b,k=>k=b
 | .int i,k=>k=(i != 0)
 | .str y,k=>y.length<=Wf/\k=((y.length:Int) != 0)
 | .tup ds,k=>k = !ds.isEmpty
 | .lst ds,k=>k = !ds.isEmpty
 | _,_=>False
def tTru (te:aL):fL:=λU Q=>te U λd _=>∃k,TruP d k/\Q k
theorem TruP.v {k:Bool}(r:aD K Fz H d x)(t:TruP d k):t6 K x H k:=by
 cases d with
 | non=>cases qx r;exact t
 | bl b=>cases yF r;exact t
 | int i=>cases ju r;exact t
 | str y=>cases nO r;exact t
 | tup ds=>
  obtain⟨a,xs,rfl,h1,h2⟩:=lq r;refine .inr (.inl ⟨xs,h1,?_⟩);have hl:=h2.length;have t':k = !ds.isEmpty:=t;rw[t'];cases ds<;>cases xs<;>simp_all
 | lst ds=>
  obtain⟨a,xs,rfl,h1,h2⟩:=fG r;refine .inl ⟨xs,h1,?_⟩;have hl:=h2.length;have t':k = !ds.isEmpty:=t;rw[t'];cases ds<;>cases xs<;>simp_all
 | ty _=>exact t.elim
 | dK _ _=>exact t.elim
 | dT _ _=>exact t.elim
 | dP _=>exact t.elim
 | obj _ _ _=>exact t.elim
theorem ug (ha:aG X a ta)(he:∀whole,isTrue a X.env whole=(do let v <- whole;standAt a.pos;WN [v] (truthy v)):=by intro _;rfl):iK X a (tTru ta) where
 mono U Q Q' m h:=ha.mono U _ _ (λd k ⟨b,e,q⟩=>⟨b,e,m b q⟩) h
 run:=PT.weak (ZC ha.run he) λY H Q h=>by
  obtain⟨U,Fz,R,h⟩:=h;exact⟨U,Fz,R,ha.mono U _ _ (λd k ⟨b,e,q⟩ v ao H' p=>⟨b,TruP.v (p.root R) e,q ao H' p.ext⟩) h⟩
def zcT (ta:aL):aL:=λU Q=>ta U λd _=>∃c,d=.bl c/\Q (.bl (!c)) .aF
def zcU (ta tb:aL):aL:=λU Q=>ta U λd _=>∃c,d=.bl c/\if c=true then tb U Q else Q (.bl false) .aF
theorem zwp (ha:aG X a ta):aG X (.UnaryOp .Not a pos) (zcT ta) where
 mono U Q Q' m h:=ha.mono U _ _ (λd k ⟨c,e,q⟩=>⟨c,e,m _ _ q⟩) h
 run:=PE.weak (V2 ha.run) λY H Q h=>by
  obtain⟨U,Fz,R,h⟩:=h;refine⟨U,Fz,R,ha.mono U _ _ (λd k ⟨c,e,q⟩ v ao H' p=>⟨c,?_,q _ ao H' ⟨p.ext,by show aq _ _ _ _ _;simp only[aq]⟩⟩) h⟩;subst e;exact yF (p.root R)
theorem zwq {op}{t:aL}(h:aG X a t):aG X (.BoolOp op [a] pos) t:=⟨h.mono,V0 h.run⟩
theorem zwr (ha:aG X a ta)(hb:aG X (.BoolOp .And (b::rest) pos) tb):aG X (.BoolOp .And (a::b::rest) pos) (zcU ta tb) where
 mono U Q Q' m h:=ha.mono U _ _ (λd k ⟨c,e,q⟩=>⟨c,e,by
  cases c with
  | true=>rw[Qf rfl]at q ⊢;exact hb.mono U _ _ m q
  | false=>rw[Qe Xu]at q ⊢;exact m _ _ q⟩) h
 run:=PE.weak (V1 ha.run hb.run) λY H Q h=>by
  obtain⟨U,Fz,R,h⟩:=h;refine⟨U,Fz,R,ha.mono U _ _ (λd k ⟨c,e,q⟩ v ao H' p=>⟨c,?_,?_⟩) h⟩
  .subst e;exact yF (p.root R)
  .cases c with
   | true=>
    rw[Qf rfl]at q ⊢;exact⟨U,ao,R.ext p.ext,hb.mono U _ _ (λd k q v cR H2 p2=>q v cR H2 (p2.then p.ext)) q⟩
   | false=>rw[Qe Xu]at q ⊢;exact q _ ao H' ⟨p.ext,by show aq _ _ _ _ _;simp only[aq]⟩
end
abbrev dD (K:Xa)(ao:FZ)(H':Hp)(U:aC)(Y:St)(H:Hp):List (PV×Kd)->List V->Prop:=Paired λp v=>lJ K ao H' U Y H p.1 p.2 v
def Bc (K:Xa)(t:cV):TA:=λY H Q=>∃U Fz,Rel K Fz U Y H/\t U λops=>∀vs ao H',Ext Fz H ao H'->dD K ao H' U Y H ops vs->Q vs H'
structure eO (X:Cx)(es:List Expr)(t:cV):Prop where
 mono:∀U Q Q',(∀ops,Q ops->Q' ops)->t U Q->t U Q'
 run:PA X es (Bc X.K t)
theorem PA.weak {X:Cx}{es:List Expr}{t t':TA}(h:PA X es t)(w:∀Y H Q,t' Y H Q->t Y H Q):PA X es t':=λpos pins s Y H Q I q=>h pos pins s Y H Q I (w Y H Q q)
def pNil:cV:=λ_ Q=>Q []
def zaN (te:aL)(t:cV):cV:=λU Q=>te U λd k=>t U λops=>Q ((d,k)::ops)
theorem dD.back {cR:FZ}{H1 H2:Hp}(s:Same H H1):∀ {ops:List (PV×Kd)}{vs:List V},dD K cR H2 U Y H1 ops vs->dD K cR H2 U Y H ops vs
 | _,_,.nil=>.nil
 | _,_,.cons h t=>.cons (lJ.back s h) (dD.back s t)
section
variable {X:Cx}{e:Expr}{es:List Expr}{te:aL}{t:cV}{pos:Pos}
theorem aJ:eO X [] pNil where
 mono U Q Q' m h:=m _ h
 run:=PA.weak rZ λY H Q h=>by
  obtain⟨U,Fz,R,h⟩:=h;exact h [] Fz H ⟨Same.refl H,λ_ h=>h,λ_ h=>.inl h,R.al⟩ .nil
theorem aB (ha:aG X e te)(hr:eO X es t)(hs:cQ X e es:=by rfl):eO X (e::es) (zaN te t) where
 mono U Q Q' m h:=ha.mono U _ _ (λd k h=>hr.mono U _ _ (λops h=>m _ h) h) h
 run:=PA.weak (t7 ha.run hr.run hs) λY H Q h=>by
  obtain⟨U,Fz,R,h⟩:=h;refine⟨U,Fz,R,ha.mono U _ _ (λd k h v bJ H1 p=>?_) h⟩;refine⟨U,bJ,R.ext p.ext,hr.mono U _ _ (λops h vs cR H2 x o=>?_) h⟩;exact h (v::vs) cR H2 (p.ext.trans x) (.cons (lJ.ext x p.dZ) (dD.back p.ext.same o))
end
def yH (K:Xa)(Fz:FZ)(H:Hp):List PV->List V->Prop:=Paired (aD K Fz H)
theorem dD.root {ao:FZ}{H':Hp}(R:Rel K Fz U Y H)(x:Ext Fz H ao H'):∀ {ops:List (PV×Kd)}{vs:List V},dD K ao H' U Y H ops vs->yH K ao H' (ops.map (·.1)) vs
 | _,_,.nil=>.nil
 | _,_,.cons h t=>.cons (Post.root R ⟨x,h⟩) (dD.root R x t)
def noOwn:List (PV×Kd)->Bool
 | []=>true
 | (_,.own _)::_=>false
 | _::r=>noOwn r
theorem dD.frozen {ao:FZ}{H':Hp}(x:Ext Fz H ao H'):∀ {ops:List (PV×Kd)}{vs:List V},noOwn ops=true->dD K ao H' U Y H ops vs->
  ∃cR,Ext Fz H cR H'/\(∀b,ao b->cR b)/\aj K cR H' (ops.map (·.1)) vs
 | _,_,_,.nil=>⟨ao,x,λ_ h=>h,aj.nil⟩
 | (d,k)::ops,v::vs,hn,.cons h t=>by
  cases k with
  | own i=>exact Qg hn Xu
  | aF=>
   obtain⟨F2,x2,s2,h2⟩:=dD.frozen x (ops:=ops) hn t;exact⟨F2,x2,s2,aj.cons (aq.mono (Keep.of (Same.refl _)) s2 _ _ h) h2⟩
  | new=>
   obtain⟨F2,x2,s2,h2⟩:=dD.frozen x (ops:=ops) hn t;obtain⟨a,e,hn',_,o⟩:=h;subst e;refine⟨λb=>F2 b\/b=a,x2.add hn' (by obtain⟨o',e,_⟩:=o.at;rw[e];exact λz=>nomatch z),λb h=>.inl (s2 b h),aj.cons ?_ (aj.mono (Keep.of (Same.refl _)) (λb h=>.inl h) _ _ h2)⟩;exact(o.mono (ao:=λb=>F2 b\/b=a) (Keep.of (Same.refl _)) (λb h=>.inl (s2 b h)) (λ_ h=>h)).den (.inr rfl)
def pTup (t:cV):aL:=λU Q=>t U λops=>noOwn ops=true/\ops.length<=Wf/\Q (.tup (ops.map (·.1))) .aF
def pLst (t:cV):aL:=λU Q=>t U λops=>noOwn ops=true/\ops.length<=Wf/\Q (.lst (ops.map (·.1))) .new
section
variable {X:Cx}{es:List Expr}{t:cV}{pos:Pos}
theorem vA {x1}(h:eO X es t):aG X (.Tuple es x1 pos) (pTup t) where
 mono U Q Q' m q:=h.mono U _ _ (λops q=>⟨q.1,q.2.1,m _ _ q.2.2⟩) q
 run:=PE.weak (ZX h.run) λY H Q q=>by
  obtain⟨U,Fz,R,q⟩:=q;refine⟨U,Fz,R,h.mono U _ _ (λops q vs ao H' x o=>?_) q⟩;obtain⟨hn,hl,q⟩:=q;obtain⟨F2,x2,s2,h2⟩:=o.frozen x hn;have len:=h2.length;rw[Xb]at len;refine⟨by lia,λp hp=>q _ F2 _ ⟨x2.laid hp,?_⟩⟩;show aq _ _ _ _ _;simp only[aq];refine⟨p,vs,rfl,cg,aj.mono (Keep.of (λb u e=>by rw[aY (mK e hp)];exact e)) (λ_ h=>h) _ _ h2⟩
theorem jk (h:eO X es t):aG X (.List es pos) (pLst t) where
 mono U Q Q' m q:=h.mono U _ _ (λops q=>⟨q.1,q.2.1,m _ _ q.2.2⟩) q
 run:=PE.weak (Js h.run) λY H Q q=>by
  obtain⟨U,Fz,R,q⟩:=q;refine⟨U,Fz,R,h.mono U _ _ (λops q vs ao H' x o=>?_) q⟩;obtain⟨hn,hl,q⟩:=q;obtain⟨F2,x2,s2,h2⟩:=o.frozen x hn;have len:=h2.length;rw[Xb]at len;refine⟨by lia,λp hp=>q _ F2 _ ⟨x2.laid hp,p,rfl,x.same.free hp,λz=>x2.al p z hp,vs,cg,?_⟩⟩;exact aj.mono (Keep.of (λb u e=>by rw[aY (mK e hp)];exact e)) (λ_ h=>h) _ _ h2
end
mutual
def zbJ:PV->Bool
 | .tup ds=>zaE ds
 | .lst _=>false
 | .dK _ _=>false
 | .dT _ _=>false
 | .dP _=>false
 | .obj _ _ _=>false
 | _=>true
def zaE:List PV->Bool
 | []=>true
 | d::ds=>zbJ d&&zaE ds
end
section
variable {K:Xa}{Fz ao:FZ}{H:Hp}
mutual
theorem Ft:∀(d:PV)(v:V),zbJ d=true->aq K Fz H d v->aq K ao H d v
 | .non,v,_,h=>by simpa only[aq]using h
 | .bl b,v,_,h=>by simpa only[aq]using h
 | .int i,v,_,h=>by simpa only[aq]using h
 | .str x,v,_,h=>by simpa only[aq]using h
 | .ty n,v,_,h=>by simpa only[aq]using h
 | .tup ds,v,n,h=>by
  simp only[zbJ]at n;simp only[aq]at h ⊢;obtain⟨a,xs,e,h1,h2⟩:=h;exact⟨a,xs,e,h1,uh ds xs n h2⟩
 | .lst ds,v,n,h=>by simp only[zbJ]at n;exact Qg n (by decide)
 | .dK ks ds,v,n,h=>by simp only[zbJ]at n;exact Qg n (by decide)
 | .dT ks ds,v,n,h=>by simp only[zbJ]at n;exact Qg n (by decide)
theorem uh:∀(ds:List PV)(xs:List V),zaE ds=true->aj K Fz H ds xs->aj K ao H ds xs
 | [],xs,_,h=>by simpa only[aj]using h
 | d::ds,xs,n,h=>by
  simp only[zaE,Yu]at n;simp only[aj]at h ⊢;obtain⟨v,r,e,h1,h2⟩:=h;exact⟨v,r,e,Ft d v n.1 h1,uh ds r n.2 h2⟩
end
end
def zbf:PV->Kd->Bool
 | .lst ds,.new=>zaE ds
 | .dK _ ds,.new=>zaE ds
 | .dT _ ds,.new=>zaE ds
 | .dP _,.new=>true
 | d,_=>zbJ d
theorem K5 {K:Xa}{Fz ao:FZ}{H H':Hp}{d:PV}{k:Kd}{v:V}(n:zbf d k=true)(hal:∀b,ao b->H b≠none)(h:lJ K Fz H' [] [] H d k v):lJ K ao H' [] [] H d k v:=by
 cases k with
 | aF=>
  have n':zbJ d=true:=by cases d<;>exact n
  exact Ft d v n' h
 | own i=>exact h
 | new=>
  obtain⟨a,e,hn,_,o⟩:=h;refine⟨a,e,hn,λz=>hal a z hn,?_⟩;cases d with
  | lst ds=>obtain⟨xs,h1,h2⟩:=o;exact⟨xs,h1,uh ds xs n h2⟩
  | dK ks ds=>obtain⟨xs,h1,h2,h3⟩:=o;exact⟨xs,h1,h2,uh ds xs n h3⟩
  | dT ks ds=>obtain⟨xs,h1,h2,h3⟩:=o;exact⟨xs,h1,h2,uh ds xs n h3⟩
  | non=>exact o.elim
  | bl b=>exact o.elim
  | int i=>exact o.elim
  | str x=>exact o.elim
  | ty n=>exact o.elim
  | tup ds=>exact o.elim
  | dP ks=>exact o
  | obj C ks ds=>exact o.elim
abbrev PF:=List PV->(PV->Kd->Prop)->Prop
def cW (F:PF):Prop:=∀ds Q Q',(∀d k,Q d k->Q' d k)->F ds Q->F ds Q'
def aX (K:Xa)(F:PF):Sp:=λvs H Q _=>∃Fz ds,(∀b,Fz b->H b≠none)/\aj K Fz H ds vs/\F ds λd k=>∀v ao H',Post K [] [] Fz H ao H' d k v->Q v H'
theorem dD.all {K:Xa}{U:aC}{Y:St}{Fz ao:FZ}{H H':Hp}(R:Rel K Fz U Y H)(x:Ext Fz H ao H'):∀ {ops:List (PV×Kd)}{vs:List V},dD K ao H' U Y H ops vs->
  ∃cR,(∀b,ao b->cR b)/\(∀b,cR b->H' b≠none)/\aj K cR H' (ops.map (·.1)) vs
 | _,_,.nil=>⟨ao,λ_ h=>h,x.al,aj.nil⟩
 | (d,k)::ops,v::vs,.cons h t=>by
  obtain⟨F2,s2,a2,h2⟩:=dD.all R x t;have addr:∀a,v=.ref a->Own K ao H' d a->∃cR,(∀b,ao b->cR b)/\(∀b,cR b->H' b≠none)/\aj K cR H' ((d,k)::ops |>.map (·.1)) (v::vs):=λa e o=>by
   subst e;refine⟨λb=>F2 b\/b=a,λb h=>.inl (s2 b h),λb hb=>?_,aj.cons ?_ (aj.mono (Keep.of (Same.refl _)) (λb h=>.inl h) _ _ h2)⟩
   .rcases hb with hb | rfl
    .exact a2 b hb
    .obtain⟨o',e,_⟩:=o.at;rw[e];exact λz=>nomatch z
   .exact(o.mono (ao:=λb=>F2 b\/b=a) (Keep.of (Same.refl _)) (λb h=>.inl (s2 b h)) (λ_ h=>h)).den (.inr rfl)
  cases k with
  | aF=>exact⟨F2,s2,a2,aj.cons (aq.mono (Keep.of (Same.refl _)) s2 _ _ h) h2⟩
  | new=>obtain⟨a,e,_,_,o⟩:=h;exact addr a e o
  | own i=>
   obtain⟨h1,h2'⟩:=h;obtain⟨a,e,_,o⟩:=(R.ext x).own i d h1;rw[h2']at e;cases e;exact addr a rfl o
def zbq (F:PF)(t:cV):aL:=λU Q=>t U λops=>F (ops.map (·.1)) λd k=>(noOwn ops=true\/zbf d k=true)/\Q d k
section
variable {X:Cx}{k:Nat}{f:Addr}{fd:Wk}{ps:Tn}{F:PF}{x:Str}{p pos:Pos}{e:Expr}{es:List Expr}{t:cV}
theorem zrs {Y:St}{H:Hp}{Q:VK}(ha:eO X es t)(m:cW F)(h:lift X.K (zbq F t) Y H Q):Jt (aX X.K F) [] E0 (Bc X.K t) Y H Q:=by
 obtain⟨U,Fz,R,h⟩:=h;refine⟨U,Fz,R,ha.mono U _ _ (λops h vs ao H' x o=>?_) h⟩;show aX X.K F (vs++[]) H' Q E0;rw[XG];by_cases hn:noOwn ops=true
 .obtain⟨F2,x2,s2,h2⟩:=o.frozen x hn;refine⟨F2,ops.map (·.1),x2.al,h2,m _ _ _ (λd k q v Fz3 H3 p3=>?_) h⟩;exact q.2 v Fz3 H3 (p3.behind x2)
 .obtain⟨F2,s2,a2,h2⟩:=o.all R x;refine⟨F2,ops.map (·.1),a2,h2,m _ _ _ (λd k q v Fz3 H3 p3=>?_) h⟩;have nm:zbf d k=true:=q.1.resolve_left hn;have al:∀b,ao b->H3 b≠none:=λb hb z=>x.al b hb (p3.ext.same.free z);refine q.2 v ao H3 ⟨⟨x.same.trans p3.ext.same,x.sub,x.new,al⟩,?_⟩;exact((K5 nm x.al p3.dZ).up).back x.same
theorem cM (G:aA X.prog X.w X.K X.mg X.base aN k f fd ps (aX X.K F))(m:cW F)(hr:bx k X.A)(hg:Gl X x)(hm:X.mg x=some (.ref f))(hk:YM X.K (.ref f)=true)(hb:Binds X.K fd ps [])(ha:eO X (e::es) t)
  (hd:fD x:=by decide) (he:cQ X e es:=by rfl) (hpl:cO X pos es:=by rfl) :
  aG X (.Call (.Name x p) (e::es) [] pos) (zbq F t) where
 mono U Q Q' mm h:=ha.mono U _ _ (λops h=>m _ _ _ (λd k q=>⟨q.1,mm _ _ q.2⟩) h) h
 run:=PE.weak (Jw G hr hg hm hk hb .nil vm ha.run hd he hpl) λY H Q h=>zrs ha m h
end
structure mV (K:Xa)(r:List V->Hp->VK->Prop)(p:PF):Prop where
 mono:cW p
 run:∀Fz H ds vs Q,(∀b,Fz b->H b≠none)->yH K Fz H ds vs->p ds (λz k=>∀v ao H',Post K [] [] Fz H ao H' z k v->Q v H')->r vs H Q
def tB (p:PF)(t:cV):aL:=λU Q=>t U λops=>p (ops.map (·.1)) Q
section
variable {X:Cx}{x:Str}{p pos:Pos}{e:Expr}{es:List Expr}{t:cV}{id T:String}{r:List V->Hp->VK->Prop}{pf:PF}
theorem K6 {Y:St}{H:Hp}{Q:VK}(ha:eO X es t)(m:mV X.K r pf)(h:lift X.K (tB pf t) Y H Q):Ea r (Bc X.K t) Y H Q:=by
 obtain⟨U,Fz,R,h⟩:=h;refine⟨U,Fz,R,ha.mono U _ _ (λops h vs ao H' x o=>?_) h⟩;exact m.run ao H' _ vs Q x.al (o.root R x) (m.mono _ _ _ (λd k q v Fz3 H3 p3=>q v Fz3 H3 (p3.behind x)) h)
theorem ul (hc:jW X (.builtin id) r)(m:mV X.K r pf)(hg:Gl X x)(hm:X.mg x=none)(hv:Wm x=some (.builtin id))(ha:eO X (e::es) t)(hn:x≠"__name__":=by decide) (hdb:fD x:=by decide)
  (he:cQ X e es:=by rfl) (hpl:cO X pos es:=by rfl):aG X (.Call (.Name x p) (e::es) [] pos) (tB pf t) where
 mono U Q Q' mm h:=ha.mono U _ _ (λops h=>m.mono _ _ _ mm h) h
 run:=PE.weak (JD hc hg hm hv ha.run hn hdb he hpl) λY H Q h=>K6 ha m h
theorem Fv (hc:jW X (.type T) r)(m:mV X.K r pf)(hg:Gl X x)(hm:X.mg x=none)(hv:Wm x=some (.type T))(ha:eO X (e::es) t)(hn:x≠"__name__":=by decide) (hdb:fD x:=by decide)
  (he:cQ X e es:=by rfl) (hpl:cO X pos es:=by rfl):aG X (.Call (.Name x p) (e::es) [] pos) (tB pf t) where
 mono U Q Q' mm h:=ha.mono U _ _ (λops h=>m.mono _ _ _ mm h) h
 run:=PE.weak (JF hc hg hm hv ha.run hn hdb he hpl) λY H Q h=>K6 ha m h
end
end PL
namespace PL
open PySem PySem.Spec L2
open PyProof.Rows hiding St
variable {U U':aC}{Y Y':St}{Fz ao:FZ}{H H' H1:Hp}{X:Cx}{e tg:Expr}{K:Xa}{D:Ends}{a l:Addr}{i k n j:Nat}{d:PV}{te:aL}{x:Str}{pos':Pos}{o:HO}{N ps:Tn}{js:Tt}{F:PF}{ds:List PV}{vs xs:List V}{fd:Wk}{p:Prop}
structure eU where
 nx:aC->Prop
 rt:PV->Kd->Prop
 bk:aC->Prop
 ct:aC->Prop
structure eU.le (O O':eU):Prop where
 nx:∀U,O.nx U->O'.nx U
 rt:∀d k,O.rt d k->O'.rt d k
 bk:∀U,O.bk U->O'.bk U
 ct:∀U,O.ct U->O'.ct U
abbrev dU:=aC->eU->Prop
def b8 (t:dU)(O:eU)(U:aC):Prop:=t U O
def K7 (c:fL)(U:aC)(Q:Bool->Prop):Prop:=c U Q
theorem K8 {c:fL}{Q:Bool->Prop}(h:c U Q):K7 c U Q:=h
theorem hold {t:dU}{O:eU}(h:t U O):b8 t O U:=h
structure Step (U:aC)(Y:St)(Fz:FZ)(H:Hp)(ao:FZ)(H':Hp):Prop where
 sub:∀b,Fz b->ao b
 new:∀b,ao b->Fz b\/H b=none\/cP U Y b
 keep:∀b o,H b=some o->¬ cP U Y b->H' b=some o
def bh (U:aC)(Y:St)(H:Hp)(U':aC)(Y':St):Prop:=∀b,cP U' Y' b->cP U Y b\/H b=none
theorem Step.of (x:Ext Fz H ao H'):Step U Y Fz H ao H':=
 ⟨x.sub,λb h=>(x.new b h).elim .inl (λh=>.inr (.inl h)),λb o e _=>x.same b o e⟩
theorem Step.none (s:Step U Y Fz H ao H'){b:Addr}(h:H' b=Option.none):H b=Option.none\/cP U Y b:=by
 by_cases o:cP U Y b
 .exact .inr o
 .cases e:H b with
  | none=>exact .inl rfl
  | some u=>rw[s.keep b u e o]at h;cases h
theorem Step.trans {F1 F2 F3:FZ}{H2 H3:Hp}(a:Step U Y F1 H1 F2 H2)(oi:bh U Y H1 U' Y')(b:Step U' Y' F2 H2 F3 H3):Step U Y F1 H1 F3 H3:=
 ⟨λc h=>b.sub c (a.sub c h),λc h=>by
  rcases b.new c h with h | h | h
  .exact a.new c h
  .exact .inr (a.none h)
  .exact .inr ((oi c h).symm),λc o e n=>by
  refine b.keep c o (a.keep c o e n) λz=>?_;rcases oi c z with z | z
  .exact n z
  .rw[e]at z;cases z⟩
theorem bh.trans {U'':aC}{Y'':St}{F1 F2:FZ}{H2:Hp}(a:Step U Y F1 H1 F2 H2)(oi:bh U Y H1 U' Y')(oj:bh U' Y' H2 U'' Y''):bh U Y H1 U'' Y'':=λc h=>by
 rcases oj c h with h | h
 .exact oi c h
 .exact(a.none h).symm
theorem bh.refl (U:aC)(Y:St)(H:Hp):bh U Y H U Y:=λ_ h=>.inl h
def Ret (K:Xa)(U:aC)(Y:St)(H:Hp)(ao:FZ)(H':Hp)(d:PV):Kd->V->Prop
 | .aF,v=>aq K ao H' d v
 | .new,v=>∃a,v=.ref a/\¬ ao a/\Own K ao H' d a/\(cP U Y a\/H a=none)
 | .own _,_=>False
def jJ (K:Xa)(D:Ends)(U:aC)(Y:St)(Fz:FZ)(H:Hp):eU where
 nx:=λU'=>∀Y' ao H',Step U Y Fz H ao H'->bh U Y H U' Y'->Rel K ao U' Y' H'->D.nx Y' H'
 bk:=λU'=>∀Y' ao H',Step U Y Fz H ao H'->bh U Y H U' Y'->Rel K ao U' Y' H'->D.bk Y' H'
 ct:=λU'=>∀Y' ao H',Step U Y Fz H ao H'->bh U Y H U' Y'->Rel K ao U' Y' H'->D.ct Y' H'
 rt:=λd k=>∀v ao H',Step U Y Fz H ao H'->(∀b,ao b->H' b≠none)->Ret K U Y H ao H' d k v->D.rt v H'
def Bd (K:Xa)(t:dU):TS:=λD Y H=>∃U Fz,Rel K Fz U Y H/\t U (jJ K D U Y Fz H)
structure jK (X:Cx)(st:Wn)(t:dU):Prop where
 mono:∀U O O',O.le O'->t U O->t U O'
 run:PS X st (Bd X.K t)
structure gO (X:Cx)(st:List Wn)(t:dU):Prop where
 mono:∀U O O',O.le O'->t U O->t U O'
 run:dH X st (Bd X.K t)
theorem PS.weak {e:Wn}{t t':TS}(h:PS X e t)(w:∀D Y H,t' D Y H->t D Y H):PS X e t':=λpins s Y H D I q=>h pins s Y H D I (w D Y H q)
theorem dH.weak {e:List Wn}{t t':TS}(h:dH X e t)(w:∀D Y H,t' D Y H->t D Y H):dH X e t':=λpins s Y H D I q=>h pins s Y H D I (w D Y H q)
theorem zru {D':Ends}(s:Step U Y Fz H ao H')(oi:bh U Y H U' Y')(h1:∀Y H,D.nx Y H->D'.nx Y H)(h2:∀v H,D.rt v H->D'.rt v H)(h3:∀Y H,D.bk Y H->D'.bk Y H)(h4:∀Y H,D.ct Y H->D'.ct Y H) :
  (jJ K D U Y Fz H).le (jJ K D' U' Y' ao H') where
 nx U2 q Qq5 F2 H2 s2 o2 R2:=h1 _ _ (q Qq5 F2 H2 (s.trans oi s2) (bh.trans s oi o2) R2)
 bk U2 q Qq5 F2 H2 s2 o2 R2:=h3 _ _ (q Qq5 F2 H2 (s.trans oi s2) (bh.trans s oi o2) R2)
 ct U2 q Qq5 F2 H2 s2 o2 R2:=h4 _ _ (q Qq5 F2 H2 (s.trans oi s2) (bh.trans s oi o2) R2)
 rt d k q v F2 H2 s2 al r:=h2 _ _ (q v F2 H2 (s.trans oi s2) al (by
  cases k with
  | aF=>exact r
  | own i=>exact r
  | new=>
   obtain⟨a,e,nf,o,w⟩:=r;refine⟨a,e,nf,o,?_⟩;rcases w with w | w
   .exact oi a w
   .exact(s.none w).symm))
theorem pU (s:Step U Y Fz H ao H')(oi:bh U Y H U' Y'):(jJ K D U Y Fz H).le (jJ K D U' Y' ao H'):=
 zru s oi (λ_ _ h=>h) (λ_ _ h=>h) (λ_ _ h=>h) (λ_ _ h=>h)
section
variable {X:Cx}{st:Wn}{rest:List Wn}{t u:dU}{e:Expr}{te:aL}{pos:Pos}
def zcm:dU:=λU O=>O.nx U
def pSeq (t u:dU):dU:=λU O=>t U { O with nx:=b8 u O }
theorem jL:gO X [] zcm where
 mono U O O' m h:=m.nx _ h
 run:=dH.weak Je λD Y H h=>by
  obtain⟨U,Fz,R,h⟩:=h;exact h Y Fz H (.of ⟨Same.refl H,λ_ h=>h,λ_ h=>.inl h,R.al⟩) (bh.refl U Y H) R
theorem bF (h1:jK X st t):gO X [st] t:=⟨h1.mono,u6 h1.run⟩
theorem aV (h1:jK X st t)(h2:gO X rest u):gO X (st::rest) (pSeq t u) where
 mono U O O' m h:=h1.mono U { O with nx:=λU'=>u U' O } _ ⟨λU' q=>h2.mono U' _ _ m q,m.rt,m.bk,m.ct⟩ h
 run:=dH.weak (qj h1.run h2.run) λD Y H h=>by
  obtain⟨U,Fz,R,h⟩:=h;refine⟨U,Fz,R,h1.mono U { jJ X.K D U Y Fz H with nx:=λU'=>u U' (jJ X.K D U Y Fz H) } _ ⟨λU' q=>?_,λ_ _ q=>q,λ_ q=>q,λ_ q=>q⟩ h⟩;intro Y' ao H' s oi R';exact⟨U',ao,R',h2.mono U' _ _ (pU s oi) q⟩
def pRet (te:aL):dU:=λU O=>te U λd k=>O.rt d (match k with | .aF=>.aF | _=>.new)
theorem cX (he:aG X e te):jK X (.Return (some e) pos) (pRet te) where
 mono U O O' m h:=he.mono U _ _ (λ_ _ q=>m.rt _ _ q) h
 run:=PS.weak (Jg he.run) λD Y H h=>by
  obtain⟨U,Fz,R,h⟩:=h;refine⟨U,Fz,R,he.mono U _ _ (λd k q v ao H' p=>q v ao H' (.of p.ext) p.ext.al ?_) h⟩;cases k with
  | aF=>exact p.dZ
  | new=>obtain⟨a,e,hn,nf,o⟩:=p.dZ;exact⟨a,e,nf,o,.inr hn⟩
  | own i=>
   obtain⟨h1,h2⟩:=p.dZ;obtain⟨a,e,nf,o⟩:=(R.ext p.ext).own i d h1;rw[h2]at e;cases e;exact⟨a,rfl,nf,o,.inl ⟨i,d,h1,h2⟩⟩
def pIf (c:fL)(t u:dU):dU:=λU O=>c U λb=>if b=true then b8 t O U else b8 u O U
theorem jM {c:Expr}{a b:List Wn}{tc:fL}(hc:iK X c tc)(ha:gO X a t)(hb:gO X b u):jK X (.If c a b pos) (pIf tc t u) where
 mono U O O' m h:=hc.mono U _ _ (λd q=>by
  cases d with
  | true=>rw[Qf rfl]at q ⊢;exact ha.mono U _ _ m q
  | false=>rw[Qe Xu]at q ⊢;exact hb.mono U _ _ m q) h
 run:=PS.weak (Jh hc.run ha.run hb.run) λD Y H h=>by
  obtain⟨U,Fz,R,h⟩:=h;refine⟨U,Fz,R,hc.mono U _ _ (λd q ao H' x=>?_) h⟩;cases d with
  | true=>
   rw[Qf rfl]at q ⊢;exact⟨U,ao,R.ext x,ha.mono U _ _ (pU (.of x) (bh.refl U Y H)) q⟩
  | false=>
   rw[Qe Xu]at q ⊢;exact⟨U,ao,R.ext x,hb.mono U _ _ (pU (.of x) (bh.refl U Y H)) q⟩
def zcy (i:Nat)(U:aC):aC:=match U[i]? with
 | some (some (d,true))=>U.set i (some (d,false))
 | _=>U
def pFrz (i:Nat)(t:dU):dU:=λU O=>t (zcy i U) O
end
section
variable {K:Xa}{Fz:FZ}{U:aC}{Y:St}{H:Hp}
theorem Rel.set {v:V}(R:Rel K Fz U Y H)(h:aq K Fz H d v):Rel K Fz (U.set i (some (d,false))) (Y.set i (some v)) H where
 al:=R.al
 len:=by rw[Yf,Yf];exact R.len
 aF j e he:=by
  by_cases hij:i=j
  .subst hij;by_cases hi:i<U.length
   .rw[Xm hi]at he;cases he;exact⟨v,by rw[Xm (by rw[<- R.len];exact hi)],h⟩
   .rw[XQ (by lia),XA (by lia)]at he;cases he
  .rw[Xk hij]at he ⊢;exact R.aF j e he
 own j e he:=by
  by_cases hij:i=j
  .subst hij;by_cases hi:i<U.length
   .rw[Xm hi]at he;cases he
   .rw[XQ (by lia),XA (by lia)]at he;cases he
  .rw[Xk hij]at he ⊢;exact R.own j e he
 inj j k d' e a h1 h2 h3 h4:=by
  have nj:i≠j:=λz=>by
   subst z;by_cases hi:i<U.length
   .rw[Xm hi]at h1;cases h1
   .rw[XQ (by lia),XA (by lia)]at h1;cases h1
  have nk:i≠k:=λz=>by
   subst z;by_cases hi:i<U.length
   .rw[Xm hi]at h2;cases h2
   .rw[XQ (by lia),XA (by lia)]at h2;cases h2
  rw[Xk nj]at h1 h3;rw[Xk nk]at h2 h4;exact R.inj j k d' e a h1 h2 h3 h4
theorem oK {v:V}:∀b,cP (U.set i (some (d,false))) (Y.set i (some v)) b->cP U Y b:=λb ⟨j,e,h1,h2⟩=>by
 have nj:i≠j:=λz=>by
  subst z;by_cases hi:i<U.length
  .rw[Xm hi]at h1;cases h1
  .rw[XQ (by lia),XA (by lia)]at h1;cases h1
 rw[Xk nj]at h1 h2;exact⟨j,e,h1,h2⟩
theorem Rel.Fw (R:Rel K Fz U Y H)(nf:¬ Fz a)(h:Own K Fz H d a)(hno:¬ cP U Y a):Rel K Fz (U.set i (some (d,true))) (Y.set i (some (.ref a))) H where
 al:=R.al
 len:=by rw[Yf,Yf];exact R.len
 aF j e he:=by
  by_cases hij:i=j
  .subst hij;by_cases hi:i<U.length
   .rw[Xm hi]at he;cases he
   .rw[XQ (by lia),XA (by lia)]at he;cases he
  .rw[Xk hij]at he ⊢;exact R.aF j e he
 own j e he:=by
  by_cases hij:i=j
  .subst hij;by_cases hi:i<U.length
   .rw[Xm hi]at he;cases he;exact⟨a,by rw[Xm (by rw[<- R.len];exact hi)],nf,h⟩
   .rw[XQ (by lia),XA (by lia)]at he;cases he
  .rw[Xk hij]at he ⊢;exact R.own j e he
 inj j k d' e b h1 h2 h3 h4:=by
  by_cases hj:i=j
  .by_cases hk:i=k
   .rw[<- hj,<- hk]
   .subst hj;rw[Xk hk]at h2 h4;by_cases hi:i<Y.length
    .rw[Xm hi]at h3;cases h3;exact Qg ⟨k,e,h2,h4⟩ hno
    .rw[XQ (by lia),XA (by lia)]at h3;cases h3
  .by_cases hk:i=k
   .subst hk;rw[Xk hj]at h1 h3;by_cases hi:i<Y.length
    .rw[Xm hi]at h4;cases h4;exact Qg ⟨j,d',h1,h3⟩ hno
    .rw[XQ (by lia),XA (by lia)]at h4;cases h4
   .rw[Xk hj]at h1 h3;rw[Xk hk]at h2 h4;exact R.inj j k d' e b h1 h2 h3 h4
theorem Fy:∀b,cP (U.set i (some (d,true))) (Y.set i (some (.ref a))) b->b=a\/cP U Y b:=λb ⟨j,e,h1,h2⟩=>by
 by_cases hij:i=j
 .subst hij;by_cases hi:i<Y.length
  .rw[Xm hi]at h2;cases h2;exact .inl rfl
  .rw[XQ (by lia),XA (by lia)]at h2;cases h2
 .rw[Xk hij]at h1 h2;exact .inr ⟨j,e,h1,h2⟩
theorem Rel.frozen (R:Rel K Fz U Y H):∃ao,Rel K ao (zcy i U) Y H/\Step U Y Fz H ao H/\bh U Y H (zcy i U) Y:=by
 unfold zcy;split
 .rename_i d he
  obtain⟨a,e,nf,o⟩:=R.own i d he;have R2:Rel K (λb=>Fz b\/b=a) (U.set i (some (d,false))) (Y.set i (some (.ref a))) H:=by
   have hno:∀j d',i≠j->U[j]? = some (some (d',true))->Y[j]?≠some (some (.ref a)):=λj d' hne h1 h2=>hne (R.inj i j d d' a he h1 e h2);have hal:∀b,(Fz b\/b=a)->H b≠none:=λb hb=>by
    rcases hb with hb | rfl
    .exact R.al b hb
    .obtain⟨o',q,_⟩:=o.at;rw[q];exact λz=>nomatch z
   refine⟨hal,by rw[Yf,Yf];exact R.len,λj e' he'=>?_,λj e' he'=>?_,λj k d' e' b h1 h2 h3 h4=>?_⟩
   .by_cases hij:i=j
    .subst hij;have hi:i<U.length:=(Xc.mp he).1;rw[Xm hi]at he';cases he';exact⟨_,by rw[Xm (by rw[<- R.len];exact hi)],(o.mono (ao:=λb=>Fz b\/b=a) (Keep.of (Same.refl _)) (λ_ h=>.inl h) (λ_ h=>h)).den (.inr rfl)⟩
    .rw[Xk hij]at he' ⊢;obtain⟨v,q1,q2⟩:=R.aF j e' he';exact⟨v,q1,aq.mono (Keep.of (Same.refl _)) (λ_ h=>.inl h) _ _ q2⟩
   .have hij:i≠j:=λz=>by
     subst z;have hi:i<U.length:=(Xc.mp he).1;rw[Xm hi]at he';cases he'
    rw[Xk hij]at he' ⊢;obtain⟨b,q1,q2,q3⟩:=R.own j e' he';refine⟨b,q1,λz=>?_,q3.mono (Keep.of (Same.refl _)) (λ_ h=>.inl h) (λ_ h=>h)⟩;rcases z with z | z
    .exact q2 z
    .subst z;exact hno j e' hij he' q1
   .have hi:i<U.length:=(Xc.mp he).1;have nj:i≠j:=λz=>by subst z;rw[Xm hi]at h1;cases h1
    have nk:i≠k:=λz=>by subst z;rw[Xm hi]at h2;cases h2
    rw[Xk nj]at h1 h3;rw[Xk nk]at h2 h4;exact R.inj j k d' e' b h1 h2 h3 h4
  have es:Y.set i (some (.ref a))=Y:=List.ext_getElem? λj=>by
   by_cases hij:i=j
   .subst hij;rw[Xm (Xc.mp e).1,e]
   .rw[Xk hij]
  refine⟨λb=>Fz b\/b=a,by rw[es]at R2;exact R2,⟨λ_ h=>.inl h,λb hb=>?_,λb o e _=>e⟩,λb hb=>?_⟩
  .rcases hb with hb | rfl
   .exact .inl hb
   .exact .inr (.inr ⟨i,d,he,e⟩)
  .have:=oK (U:=U) (Y:=Y) (i:=i) (d:=d) (v:=.ref a) b (by rw[es];exact hb);exact .inl this
 .exact⟨Fz,R,.of ⟨Same.refl H,λ_ h=>h,λ_ h=>.inl h,R.al⟩,bh.refl U Y H⟩
end
section
variable {X:Cx}{st:Wn}{sts:List Wn}{t:dU}
theorem sS (i:Nat)(h:jK X st t):jK X st (pFrz i t) where
 mono U O O' m q:=h.mono _ _ _ m q
 run:=PS.weak h.run λD Y H q=>by
  obtain⟨U,Fz,R,q⟩:=q;obtain⟨F2,R2,s2,o2⟩:=R.frozen (i:=i);exact⟨_,F2,R2,h.mono _ _ _ (pU s2 o2) q⟩
end
def pSet (i:Nat)(te:aL):dU:=λU O=>te U λd k=>match k with
 | .aF=>O.nx (U.set i (some (d,false)))
 | .new=>O.nx (U.set i (some (d,true)))
 | .own _=>False
theorem K9 (he:aG X e te)(h:Bd X.K (pSet i te) D Y H):oA (lift X.K te) (xJ i) D Y H:=by
 obtain⟨U,Fz,R,h⟩:=h;refine⟨U,Fz,R,he.mono U _ _ (λd k q v ao H' p=>?_) h⟩;show D.nx (Y.set i (some v)) H';have R':=R.ext p.ext;cases k with
 | aF=>exact(show(jJ X.K D U Y Fz H).nx (U.set i (some (d,false))) from q) _ ao H' (.of p.ext) (λb hb=>.inl (oK b hb)) (R'.set p.dZ)
 | own j=>exact q.elim
 | new=>
  obtain⟨a,e,hn,nf,o⟩:=p.dZ;subst e;have hno:¬ cP U Y a:=λ⟨j,e,h1,h2⟩=>by
   obtain⟨b,q1,_,q2⟩:=R.own j e h1;rw[h2]at q1;cases q1;obtain⟨o',q3,_⟩:=q2.at;rw[hn]at q3;cases q3
  refine(show(jJ X.K D U Y Fz H).nx (U.set i (some (d,true))) from q) _ ao H' (.of p.ext) (λb hb=>?_) (R'.Fw nf o hno);rcases Fy b hb with rfl | hb
  .exact .inr hn
  .exact .inl hb
theorem La (he:aG X e te):∀U O O',eU.le O O'->pSet i te U O->pSet i te U O':=λU O O' m h=>he.mono U _ _ (λd k q=>by
 cases k with
 | aF=>exact m.nx _ q
 | new=>exact m.nx _ q
 | own j=>exact q) h
section
variable {X:Cx}{e:Expr}{te:aL}{pos:Pos}
theorem bH (hN:X.N.Nodup)(hi:X.N[i]? = some x)(hx:Loc X.env.scope x)(he:aG X e te)(hs:Wx e (some (.Name x pos')) pos.line X.env=pure false:=by rfl)(hf:lE X x:=by first | exact .inl rfl | exact .inr rfl | assumption) :
  jK X (.Assign [.Name x pos'] e pos) (pSet i te):=
 ⟨La he,PS.weak (rR hN hi hx he.run hs hf) λ_ _ _ h=>K9 he h⟩
end
abbrev jZ:=PV->aC->(aC->Prop)->Prop
abbrev iV:=List PV->aC->(aC->Prop)->Prop
def vB (K:Xa)(t:jZ):TG:=λv Y H Q=>∃U Fz d,Rel K Fz U Y H/\aq K Fz H d v/\t d U λU'=>∀Y',Rel K Fz U' Y' H->(∀b,cP U' Y' b->cP U Y b)->Q Y' H
def zwu (K:Xa)(t:iV):ql:=λvs Y H Q=>∃U Fz ds,Rel K Fz U Y H/\aj K Fz H ds vs/\t ds U λU'=>∀Y',Rel K Fz U' Y' H->(∀b,cP U' Y' b->cP U Y b)->Q Y' H
structure sU (X:Cx)(tg:Expr)(t:jZ):Prop where
 mono:∀d U Q Q',(∀U,Q U->Q' U)->t d U Q->t d U Q'
 run:PG X tg (vB X.K t)
structure qy (X:Cx)(tgs:List Expr)(t:iV):Prop where
 mono:∀ds U Q Q',(∀U,Q U->Q' U)->t ds U Q->t ds U Q'
 run:pO X tgs (zwu X.K t)
theorem PG.weak {t t':TG}(h:PG X e t)(w:∀v Y H Q,t' v Y H Q->t v Y H Q):PG X e t':=λpins s Y H v u Q I r q=>h pins s Y H v u Q I r (w v Y H Q q)
theorem pO.weak {e:List Expr}{t t':ql}(h:pO X e t)(w:∀v Y H Q,t' v Y H Q->t v Y H Q):pO X e t':=λpins s Y H v u Q I r q=>h pins s Y H v u Q I r (w v Y H Q q)
def zbh (i:Nat):jZ:=λd U Q=>Q (U.set i (some (d,false)))
def zcK:iV:=λds U Q=>ds=[]/\Q U
def zbr (t:jZ)(u:iV):iV:=λds U Q=>∃d r,ds=d::r/\t d U λU'=>u r U' Q
def zcL (n:Nat)(t:iV):jZ:=λd U Q=>∃ds,d=.tup ds/\ds.length=n/\t ds U Q
section
variable {X:Cx}{pos:Pos}
theorem cB (hN:X.N.Nodup)(hi:X.N[i]? = some x)(hx:Loc X.env.scope x)(hf:lE X x:=by first | exact .inl rfl | exact .inr rfl | assumption):sU X (.Name x pos) (zbh i) where
 mono d U Q Q' m h:=m _ h
 run:=PG.weak (Ac hN hi hx hf) λv Y H Q h=>by
  obtain⟨U,Fz,d,R,hd,h⟩:=h;exact h _ (R.set hd) (λb hb=>oK b hb)
theorem oM:qy X [] zcK where
 mono d U Q Q' m h:=⟨h.1,m _ h.2⟩
 run:=pO.weak V5 λv Y H Q h=>by
  obtain⟨U,Fz,ds,R,hd,e,h⟩:=h;subst e;simp only[aj]at hd;exact⟨hd,h Y R (λ_ h=>h)⟩
theorem iM {e:Expr}{es:List Expr}{t:jZ}{u:iV}(h1:sU X e t)(h2:qy X es u)
  (hs:(WI (e::es) X.env).map (·.2)=assign e X.env::(WI es X.env).map (·.2):=by rfl):qy X (e::es) (zbr t u) where
 mono ds U Q Q' m h:=by
  obtain⟨d,r,e,h⟩:=h;exact⟨d,r,e,h1.mono d U _ _ (λU' q=>h2.mono r U' _ _ m q) h⟩
 run:=pO.weak (V6 h1.run h2.run hs) λvs Y H Q h=>by
  obtain⟨U,Fz,ds,R,hd,d,r,e,h⟩:=h;subst e;simp only[aj]at hd;obtain⟨v,rs,e,d1,d2⟩:=hd;subst e;refine⟨v,rs,rfl,U,Fz,d,R,d1,h1.mono d U _ _ (λU' q Y' R' o'=>?_) h⟩;exact⟨U',Fz,r,R',d2,h2.mono r U' _ _ (λU2 q Qq5 R2 o2=>q Qq5 R2 (λb hb=>o' b (o2 b hb))) q⟩
theorem oN {es:List Expr}{k:Nat}{t:iV}{n:Nat}(hc:X.calm=true)(h:qy X es t)
  (hn:(WI es X.env).length=n:=by rfl) (hst:(WI es X.env).findIdx? (·.1)=none:=by rfl):sU X (.Tuple es k pos) (zcL n t) where
 mono d U Q Q' m q:=by
  obtain⟨ds,e,l,q⟩:=q;exact⟨ds,e,l,h.mono ds U _ _ m q⟩
 run:=PG.weak (V7 hc h.run hn hst) λv Y H Q q=>by
  obtain⟨U,Fz,d,R,hd,ds,e,l,q⟩:=q;subst e;simp only[aq]at hd;obtain⟨a,xs,e,h1,h2⟩:=hd;have hl:=h2.length;exact⟨a,xs,e,bN.of h1,by lia,U,Fz,ds,R,h2,q⟩
end
def mW (k:Nat)(t:jZ):Prop:=∀d U Q,t d U Q->t d U λU'=>Q U'/\U'.length=U.length/\∀j,k<=j->U'[j]? = U[j]?
def Lb (k:Nat)(t:iV):Prop:=∀d U Q,t d U Q->t d U λU'=>Q U'/\U'.length=U.length/\∀j,k<=j->U'[j]? = U[j]?
theorem mX (h:i<k):mW k (zbh i):=λd U Q q=>⟨q,by rw[Yf],λj hj=>by rw[Xk (by lia)]⟩
theorem Be {t:iV}(h:Lb k t):mW k (zcL n t):=λd U Q q=>by
 obtain⟨ds,e,l,q⟩:=q;exact⟨ds,e,l,h ds U _ q⟩
def pUnp (te:aL)(g:jZ):dU:=λU O=>te U λd k=>k=.aF/\g d U λU'=>O.nx U'
theorem Lf {X:Cx}{tg e:Expr}{te:aL}{g:jZ}{pos:Pos}(he:aG X e te)(hg:sU X tg g)(hs:swapsWithSole [tg] e pos.line X.env=pure false:=by rfl)(hw:swappedStores [tg] e X.env=pure none:=by rfl)
  (h1:(WI [tg] X.env).map (·.2)=[assign tg X.env]:=by rfl):jK X (.Assign [tg] e pos) (pUnp te g) where
 mono U O O' m h:=he.mono U _ _ (λd k q=>⟨q.1,hg.mono d U _ _ (λU' q=>m.nx _ q) q.2⟩) h
 run:=PS.weak (Ji he.run hg.run hs hw h1) λD Y H h=>by
  obtain⟨U,Fz,R,h⟩:=h;refine⟨U,Fz,R,he.mono U _ _ (λd k q v ao H' p=>?_) h⟩;obtain⟨rfl,q⟩:=q;exact⟨U,ao,d,R.ext p.ext,p.dZ,hg.mono d U _ _ (λU' q Y' R' o'=>q Y' ao H' (.of p.ext) (λb hb=>.inl (o' b hb)) R') q⟩
abbrev iW:=aC->(List PV->Bool->Prop)->Prop
def Walk (K:Xa)(Fz:FZ)(o:Bool)(Qq12:It)(its:List PV)(H:Hp):Prop:=∀H2,(Same H H2\/(o=false/\nM Fz H H2))->∀i:Nat,
 (∀d,its[i]? = some d->Qq12.go i H2/\∀x H3,Qq12.rW i H2 x H3->Same H2 H3/\aq K Fz H3 d x)/\(its.length<=i->Qq12.stop i H2)
def Lg (K:Xa)(t:iW):TI:=λY H R=>∃U Fz,Rel K Fz U Y H/\t U λits o=>∀Qq12 ao H',Ext Fz H ao H'->Walk K ao o Qq12 its H'->R Qq12 H'
structure lK (X:Cx)(tg iter:Expr)(t:iW):Prop where
 mono:∀U Q Q',(∀its o,Q its o->Q' its o)->t U Q->t U Q'
 run:PI X tg iter (Lg X.K t)
theorem PI.weak {t t':TI}(h:PI X tg e t)(w:∀Y H Q,t' Y H Q->t Y H Q):PI X tg e t':=λpins s Y H Q I q=>h pins s Y H Q I (w Y H Q q)
def isOwn:Kd->Bool
 | .own _=>true
 | _=>false
def iLst (te:aL):iW:=λU Q=>te U λd k=>∃ds,d=.lst ds/\Q ds (isOwn k)
def zcV (te:aL):iW:=λU Q=>te U λd k=>∃ds,d=.tup ds/\Q ds false
section
variable {X:Cx}{tg e:Expr}{te:aL}
theorem jN (he:aG X e te):lK X tg e (iLst te) where
 mono U Q Q' m h:=he.mono U _ _ (λd k ⟨ds,e,q⟩=>⟨ds,e,m _ _ q⟩) h
 run:=PI.weak (Y0 he.run) λY H Rr h=>by
  obtain⟨U,Fz,R,h⟩:=h;refine⟨U,Fz,R,he.mono U _ _ (λd k q v ao H' p=>?_) h⟩;obtain⟨ds,e,q⟩:=q;subst e;have rt:=p.root R;obtain⟨a,xs,rfl,h1,h2⟩:=fG rt;refine⟨a,rfl,⟨xs,h1⟩,?_⟩;have walk:∀(F2:FZ) (o:Bool),(∀b,ao b->F2 b)->(∀H2,(Same H' H2\/(o=false/\nM F2 H' H2))->bI X.K H2 a xs/\Keep F2 H' H2)->Walk X.K F2 o (Dy X.K a) ds H':=λF2 o s2 st H2 hH i=>by
   obtain⟨g1,g2⟩:=st H2 hH;have g3:aj X.K F2 H2 ds xs:=aj.mono g2 (λ_ h=>h) _ _ (aj.mono (Keep.of (Same.refl _)) s2 _ _ h2);have hl:=g3.length;refine⟨λd hd=>?_,λhi=>⟨xs,g1,by lia⟩⟩;obtain⟨v,q1,q2⟩:=g3.get hd;exact⟨⟨xs,v,g1,q1⟩,λx H3 ⟨e,y⟩=>by
    subst e;have:=y xs g1;rw[q1]at this;cases this;exact⟨Same.refl _,q2⟩⟩
  cases k with
  | own i=>exact q _ ao H' p.ext (walk ao true (λ_ h=>h) λH2 hH=>by
    rcases hH with hH | ⟨z,_⟩
    .exact⟨hH.seq h1,.of hH⟩
    .cases z)
  | aF=>
   have pd:aq X.K ao H' (.lst ds) (.ref a):=p.dZ;simp only[aq]at pd;obtain⟨a',xs',e,h3,h4⟩:=pd;cases e;refine q _ ao H' p.ext ?_;intro H2 hH i;have kp:Keep ao H' H2:=hH.elim (λz=>.of z) (λz=>.mk' z.2);have g1:bI X.K H2 a xs':=h3.elim (λh=>.inl (kp.rd trivial h.1 h.2)) KX.sq;have g3:aj X.K ao H2 ds xs':=aj.mono kp (λ_ h=>h) _ _ h4;have hl:=g3.length;refine⟨λd hd=>?_,λhi=>⟨xs',g1,by lia⟩⟩;obtain⟨v,q1,q2⟩:=g3.get hd;exact⟨⟨xs',v,g1,q1⟩,λx H3 ⟨e,y⟩=>by
    subst e;have:=y xs' g1;rw[q1]at this;cases this;exact⟨Same.refl _,q2⟩⟩
  | new=>
   obtain⟨b,e,hn,nf,o⟩:=p.dZ;cases e;obtain⟨xs',o1,o2⟩:=o;refine q _ (λb=>ao b\/b=a) H' (p.ext.add hn (by rw[o1];exact λz=>nomatch z)) ?_;intro H2 hH i;have kp:Keep (λb=>ao b\/b=a) H' H2:=hH.elim (λz=>.of z) (λz=>.mk' z.2);have g1:bI X.K H2 a xs':=.inl (kp.rd trivial (.inr rfl) (.inl o1));have g3:aj X.K (λb=>ao b\/b=a) H2 ds xs':=aj.mono kp (λ_ h=>h) _ _ (aj.mono (Keep.of (Same.refl _)) (λ_ h=>.inl h) _ _ o2);have hl:=g3.length;refine⟨λd hd=>?_,λhi=>⟨xs',g1,by lia⟩⟩;obtain⟨v,q1,q2⟩:=g3.get hd;exact⟨⟨xs',v,g1,q1⟩,λx H3 ⟨e,y⟩=>by
    subst e;have:=y xs' g1;rw[q1]at this;cases this;exact⟨Same.refl _,q2⟩⟩
theorem vC (he:aG X e te):lK X tg e (zcV te) where
 mono U Q Q' m h:=he.mono U _ _ (λd k ⟨ds,e,q⟩=>⟨ds,e,m _ _ q⟩) h
 run:=PI.weak (Y8 he.run) λY H Rr h=>by
  obtain⟨U,Fz,R,h⟩:=h;refine⟨U,Fz,R,he.mono U _ _ (λd k q v ao H' p=>?_) h⟩;obtain⟨ds,e,q⟩:=q;subst e;obtain⟨a,xs,rfl,h1,h2⟩:=Ax (p.root R);refine⟨a,rfl,⟨xs,bN.of h1⟩,q _ ao H' p.ext ?_⟩;intro H2 hH i;have kp:Keep ao H' H2:=hH.elim (λz=>.of z) (λz=>.mk' z.2);have g1:bN X.K H2 a xs:=kp.Fd h1;have g3:aj X.K ao H2 ds xs:=aj.mono kp (λ_ h=>h) _ _ h2;have hl:=g3.length;refine⟨λd hd=>?_,λhi=>⟨xs,g1,by lia⟩⟩;obtain⟨v,q1,q2⟩:=g3.get hd;exact⟨⟨xs,v,g1,q1⟩,λx H3 ⟨e,y⟩=>by
   subst e;have:=y xs g1;rw[q1]at this;cases this;exact⟨Same.refl _,q2⟩⟩
end
def iY (lo:Int)(n:Nat):List PV:=(XE n).map λ(i:Nat)=>PV.int (lo+i)
theorem sV (lo:Int)(n:Nat):(iY lo n).length=n:=by simp[iY]
theorem vG {lo:Int}(h:(iY lo n)[i]? = some d):i<n/\d=.int (lo+i):=by
 have hi:i<n:=by have:=(Xc.mp h).1;rw[sV]at this;exact this
 refine⟨hi,?_⟩;unfold iY at h;rw[Xg,List.getElem?_range hi]at h;exact(Qa h).symm
def zaO (t:cV):iW:=λU Q=>t U λops=>∃j:Int,ops.map (·.1)=[.int j]/\-(2 ^ 62)<=j/\j<2 ^ 62/\Q (iY 0 j.toNat) false
theorem zrv {lo:Int}:Walk K Fz false (Ae lo n) (iY lo n) H:=λH2 _ i=>by
 refine⟨λd hd=>?_,λhi=>by rw[sV]at hi;exact hi⟩;obtain⟨h1,rfl⟩:=vG hd;exact⟨h1,λx H3 ⟨e,y⟩=>by subst e y;exact⟨Same.refl _,by simp only[aq]⟩⟩
section
variable {X:Cx}{tg a b:Expr}{t:cV}{p pos:Pos}
theorem sW (hg:Gl X "range") (hm:X.mg "range" = none) (ha:eO X [a] t) (hs:Wo [a] X.env=[(false,Ww a X.env)]:=by rfl):lK X tg (.Call (.Name "range" p) [a] [] pos) (zaO t) where
 mono U Q Q' m h:=ha.mono U _ _ (λops ⟨j,e,h1,h2,q⟩=>⟨j,e,h1,h2,m _ _ q⟩) h
 run:=PI.weak (Zb hg hm ha.run hs) λY H Rr h=>by
  obtain⟨U,Fz,R,h⟩:=h;refine⟨U,Fz,R,ha.mono U _ _ (λops q vs ao H' x o=>?_) h⟩;obtain⟨j,e,h1,h2,q⟩:=q;have rl:=o.root R x;rw[e]at rl;cases rl with
  | cons r1 r2=>
   cases r2;exact⟨j,by rw[ju r1],h1,h2,q _ ao H' x zrv⟩
end
def pFor (ti:iW)(g:jZ)(tb:dU):dU:=λU O=>ti U λits o=>o=false/\∃Inv:Nat->aC->Prop,Inv 0 U/\
 (∀i d U',its[i]? = some d->Inv i U'->g d U' (b8 tb { O with nx:=Inv (i+1),ct:=Inv (i+1),bk:=O.nx }))/\∀U',Inv its.length U'->O.nx U'
def zbx (c:fL)(tb:dU):dU:=λU O=>∃Inv:Nat->aC->Prop,(∃m,Inv m U)/\∀m U',Inv m U'->K7 c U' λb=>if b=true
 then b8 tb { O with nx:=λU2=>∃m',m'<m/\Inv m' U2,ct:=λU2=>∃m',m'<m/\Inv m' U2,bk:=O.nx } U' else O.nx U'
theorem Step.kept (R:Rel K Fz U Y H)(s:Step U Y Fz H ao H'):nM Fz H H':=λb o e w=>by
 refine s.keep b o e λ⟨i,d,h1,h2⟩=>?_;obtain⟨a,q1,q2,q3⟩:=R.own i d h1;rw[h2]at q1;cases q1;rcases w with w | w
 .exact q2 w
 .obtain⟨o',q4,q5⟩:=q3.at;rw[e]at q4;cases q4;exact q5 w
section
variable {X:Cx}{tg iter c:Expr}{body:List Wn}{ti:iW}{g:jZ}{tb:dU}{tc:fL}{pos:Pos}
theorem FJ (hgm:∀d U Q Q',(∀U,Q U->Q' U)->g d U Q->g d U Q')(hbm:∀U O O',eU.le O O'->tb U O->tb U O'){K:Xa}{U:aC}{Y:St}{bJ:FZ}{H1:Hp}{D:Ends}{Qq12:It}{its:List PV}{O:eU}(R1:Rel K bJ U Y H1)(wk:Walk K bJ false Qq12 its H1)(Iv:Nat->aC->Prop)(h0:Iv 0 U)
  (hstep:∀i d U',its[i]? = some d->Iv i U'->g d U' (b8 tb { O with nx:=Iv (i+1),ct:=Iv (i+1),bk:=O.nx })) (hO:O.le (jJ K D U Y bJ H1)) (hdone:∀U',Iv its.length U'->O.nx U') :
  ∃W:Nat->Nat->St->Hp->Prop,(∃m,W 0 m Y H1)/\∀i m Y H,W i m Y H->
   (Qq12.stop i H/\D.nx Y H)\/(Qq12.go i H/\∃N:St->Hp->Prop,(∀Y' H',N Y' H'->∃m',m'<m/\W (i+1) m' Y' H')/\∀x H',Qq12.rW i H x H'->vB K g x Y H' λQq5 H2=>Bd K tb { D with nx:=N,ct:=N,bk:=D.nx } Qq5 H2):=by
 refine⟨λi m Y' H'=>m=its.length-i/\i<=its.length/\∃U' F',Rel K F' U' Y' H'/\Iv i U'/\Step U Y bJ H1 F' H'/\bh U Y H1 U' Y',
  ⟨its.length,by lia,XM _,U,bJ,R1,h0,.of ⟨Same.refl _,λ_ h=>h,λ_ h=>.inl h,R1.al⟩,bh.refl U Y H1⟩,?_⟩
 rintro i m Y' H' ⟨rfl,hle,U',F',R',hI,s',o'⟩;have kp:nM bJ H1 H':=s'.kept R1;obtain⟨oO,wstop⟩:=wk H' (.inr ⟨rfl,kp⟩) i;by_cases hlt:i<its.length
 .obtain⟨go,yl⟩:=oO its[i] (Xd hlt);refine .inr ⟨go,λQq5 H2=>∃U2 F2,Rel K F2 U2 Qq5 H2/\Iv (i+1) U2/\Step U Y bJ H1 F2 H2/\bh U Y H1 U2 Qq5,λQq5 H2 hN=>⟨its.length-(i+1),by lia,rfl,hlt,hN⟩,λxv H2 y=>?_⟩;obtain⟨sm,dn⟩:=yl xv H2 y;have x2:Ext F' H' F' H2:=⟨sm,λ_ h=>h,λ_ h=>.inl h,λb hb z=>R'.al b hb (sm.free z)⟩;refine⟨U',F',its[i],R'.ext x2,aq.mono (Keep.of (Same.refl _)) s'.sub _ _ dn,hgm _ U' _ _ (λU2 q Qq5 R2 o2=>?_) (hstep i its[i] U' (Xd hlt) hI)⟩;have so:bh U Y H1 U2 Qq5:=λb hb=>o' b (o2 b hb);have st:Step U Y bJ H1 F' H2:=s'.trans o' (.of x2);refine⟨U2,F',R2,hbm U2 { O with nx:=Iv (i+1),ct:=Iv (i+1),bk:=O.nx } _ ⟨λQq1 q Qq4 F3 H3 s3 o3 R3=>?_,λd k q v F3 H3 s3 al r=>?_,λQq1 q Qq4 F3 H3 s3 o3 R3=>?_,λQq1 q Qq4 F3 H3 s3 o3 R3=>?_⟩ q⟩
  .exact⟨Qq1,F3,R3,q,st.trans so s3,bh.trans st so o3⟩
  .refine hO.rt d k q v F3 H3 (st.trans so s3) al ?_;cases k with
   | aF=>exact r
   | own j=>exact r
   | new=>
    obtain⟨a,e,nf,ow,w⟩:=r;refine⟨a,e,nf,ow,?_⟩;rcases w with w | w
    .exact so a w
    .exact(st.none w).symm
  .exact hO.nx Qq1 q Qq4 F3 H3 (st.trans so s3) (bh.trans st so o3) R3
  .exact⟨Qq1,F3,R3,q,st.trans so s3,bh.trans st so o3⟩
 .have e:i=its.length:=by lia
  subst e;exact .inl ⟨wstop (Xj _),hO.nx U' (hdone U' hI) Y' F' H' s' o' R'⟩
theorem Lh (him:∀U Q Q',(∀its o,Q its o->Q' its o)->ti U Q->ti U Q')(hgm:∀d U Q Q',(∀U,Q U->Q' U)->g d U Q->g d U Q')(hbm:∀U O O',eU.le O O'->tb U O->tb U O'):∀U O O',eU.le O O'->pFor ti g tb U O->pFor ti g tb U O':=λU O O' m h=>
 him U _ _ (λits o ⟨e,I,h0,hs,hd⟩=>⟨e,I,h0,λi d U' hi hI=>hgm d U' _ _ (λU2 q=>hbm U2 { O with nx:=I (i+1),ct:=I (i+1),bk:=O.nx } _ ⟨λ_ q=>q,m.rt,m.nx,λ_ q=>q⟩ q) (hs i d U' hi hI),λU' hI=>m.nx _ (hd U' hI)⟩) h
theorem j4 (hc:X.calm=true)(hp:W3 (Wh X.prog X.w) X.A X.env X.xe)(hi:lK X tg iter ti)(hg:sU X tg g)(hb:gO X body tb)(hs:oh X iter:=by intro _;rfl):jK X (.For tg iter body [] pos) (pFor ti g tb) where
 mono:=Lh hi.mono hg.mono hb.mono
 run:=PS.weak (u9 hp hc hi.run hg.run hb.run hs) λD Y H h=>by
  obtain⟨U,Fz,R,h⟩:=h;refine⟨U,Fz,R,hi.mono U _ _ (λits o q Qq12 bJ H1 x wk=>?_) h⟩;obtain⟨rfl,Iv,h0,hstep,hdone⟩:=q;exact FJ hg.mono hb.mono (R.ext x) wk Iv h0 hstep (pU (.of x) (bh.refl U Y H)) hdone
theorem Bf (hp:W3 (Wh X.prog X.w) X.A X.env X.xe)(hc:iK X c tc)(hb:gO X body tb):jK X (.While c body [] pos) (zbx tc tb) where
 mono U O O' m h:=by
  obtain⟨Iv,h0,h⟩:=h;refine⟨Iv,h0,λn U' hI=>hc.mono U' _ _ (λb q=>?_) (h n U' hI)⟩;cases b with
  | true=>rw[Qf rfl]at q ⊢;exact hb.mono U' { O with nx:=λU2=>∃m',m'<n/\Iv m' U2,ct:=λU2=>∃m',m'<n/\Iv m' U2,bk:=O.nx } _ ⟨λ_ q=>q,m.rt,m.nx,λ_ q=>q⟩ q
  | false=>rw[Qe Xu]at q ⊢;exact m.nx _ q
 run:=PS.weak (YS hp hc.run hb.run) λD Y H h=>by
  obtain⟨U,Fz,R,Iv,⟨m0,h0⟩,h⟩:=h;refine⟨λm Y' H'=>∃U' F',Rel X.K F' U' Y' H'/\Iv m U'/\Step U Y Fz H F' H'/\bh U Y H U' Y',
   ⟨m0,U,Fz,R,h0,.of ⟨Same.refl _,λ_ h=>h,λ_ h=>.inl h,R.al⟩,bh.refl U Y H⟩,?_⟩
  rintro m Y' H' ⟨U',F',R',hI,s',o'⟩;refine⟨U',F',R',hc.mono U' _ _ (λb q F2 H2 x2=>?_) (h m U' hI)⟩;have st:Step U Y Fz H F2 H2:=s'.trans o' (.of x2);cases b with
  | true=>
   rw[Qf rfl]at q;refine ud ?_;refine⟨λQq4 H3=>∃m',m'<m/\∃Qq1 F3,Rel X.K F3 Qq1 Qq4 H3/\Iv m' Qq1/\Step U Y Fz H F3 H3/\bh U Y H Qq1 Qq4,λQq4 H3 hN=>hN,U',F2,R'.ext x2,hb.mono U' _ _ ⟨λQq1 q Qq4 F3 H3 s3 o3 R3=>?_,λd k q v F3 H3 s3 al r=>?_,λQq1 q Qq4 F3 H3 s3 o3 R3=>?_,λQq1 q Qq4 F3 H3 s3 o3 R3=>?_⟩ q⟩
   .obtain⟨m',hm,hI'⟩:=q;exact⟨m',hm,Qq1,F3,R3,hI',st.trans o' s3,bh.trans st o' o3⟩
   .refine q v F3 H3 (st.trans o' s3) al ?_;cases k with
    | aF=>exact r
    | own j=>exact r
    | new=>
     obtain⟨a,e,nf,ow,w⟩:=r;refine⟨a,e,nf,ow,?_⟩;rcases w with w | w
     .exact o' a w
     .exact(st.none w).symm
   .exact q Qq4 F3 H3 (st.trans o' s3) (bh.trans st o' o3) R3
   .obtain⟨m',hm,hI'⟩:=q;exact⟨m',hm,Qq1,F3,R3,hI',st.trans o' s3,bh.trans st o' o3⟩
  | false=>
   rw[Qe Xu]at q;exact yp (q Y' F2 H2 st o' (R'.ext x2))
end
theorem _root_.L2.Same.qz (s:Same H H')(h:H l=none):Same H (L2.upd H' l o):=λb u e=>by
 rw[aY (mK e h)];exact s b u e
structure um (X:Cx)(ifs:List Expr)(t:fL):Prop where
 mono:∀U Q Q',(∀b,Q b->Q' b)->t U Q->t U Q'
 run:sH X ifs (liftT X.K t)
def zcW:fL:=λ_ Q=>Q true
theorem sH.weak {e:List Expr}{t t':TT}(h:sH X e t)(w:∀Y H Q,t' Y H Q->t Y H Q):sH X e t':=λpins s Y H Q I q=>h pins s Y H Q I (w Y H Q q)
theorem nP:um X [] zcW where
 mono U Q Q' m h:=m _ h
 run:=sH.weak ztQ λY H Q h=>by
  obtain⟨U,Fz,R,h⟩:=h;exact h Fz H ⟨Same.refl H,λ_ h=>h,λ_ h=>.inl h,R.al⟩
theorem yI {c:Expr}{t:fL}(h:iK X c t):um X [c] t:=⟨h.mono,ztR h.run⟩
def blkP (k:Nat)(js:Tt)(U:aC):aC:=YN k none++js.map λj=>(U[j]?).getD none
def zct (k:Nat)(js:Tt)(ti:iW)(g:jZ)(tt:fL)(te:aL):aL:=λU Q=>ti U λits _=>its.length<=Wf/\∃Pv:Nat->List PV->Prop,Pv 0 []/\
 (∀i d out,its[i]? = some d->out.length<=i->Pv i out->g d (blkP k js U) λU2=>tt U2 λb=>if b=true then te U2 λe ke=>isOwn ke=false/\Pv (i+1) (out++[e]) else Pv (i+1) out)/\
 ∀out,out.length<=its.length->Pv its.length out->Q (.lst out) .new
structure lM (X:Cx)(N:Tn)(sc:WR)(tg:Expr)(ifs:List Expr)(elt:Expr)(g:jZ)(tt:fL)(te:aL):Prop where
 tgt:∀C cells fp s H,sU (mC X N sc C cells fp s H) tg g
 tst:∀C cells fp s H,um (mC X N sc C cells fp s H) ifs tt
 val:∀C cells fp s H,aG (mC X N sc C cells fp s H) elt te
theorem lM.blk {sc:WR}{ifs:List Expr}{elt:Expr}{g:jZ}{tt:fL}(B:lM X N sc tg ifs elt g tt te):Blk X N sc tg ifs elt (vB X.K g) (liftT X.K tt) (lift X.K te):=
 ⟨λC cells fp s H=>(B.tgt C cells fp s H).run,λC cells fp s H=>(B.tst C cells fp s H).run,λC cells fp s H=>(B.val C cells fp s H).run⟩
theorem uo {b:Bool}(h:(blkP k js U)[i]? = some (some (d,b))):∃i' j,i=k+i'/\js[i']? = some j/\U[j]? = some (some (d,b)):=by
 unfold blkP at h;have hik:k<=i:=by
  by_cases hik:k<=i
  .exact hik
  .rw[Ye (by simp;lia),YO]at h;split at h<;>cases h
 obtain⟨i',rfl⟩:∃i',i=k+i':=⟨i-k,by lia⟩;rw[XZ (by simp),QT,show k+i'-k=i' by lia,Xg]at h;cases hj:js[i']? with
 | none=>rw[hj]at h;cases h
 | some j=>
  rw[hj]at h;refine⟨i',j,rfl,hj,?_⟩;have h':(U[j]?).getD none=some (d,b):=Qa h;cases q:U[j]? with
  | none=>rw[q]at h';cases h'
  | some o=>rw[q]at h';exact congrArg some h'
theorem yJ {i':Nat}{o:Option V}(hj:js[i']? = some j)(h:Y[j]? = some o):(mz k js Y)[k+i']? = some o:=by
 unfold mz;rw[XZ (by simp),QT,show k+i'-k=i' by lia,Xg,hj];show some ((Y[j]?).getD none)=_;rw[h];rfl
theorem Rel.block (R:Rel K Fz U Y H)(nd:js.Nodup):Rel K Fz (blkP k js U) (mz k js Y) H where
 al:=R.al
 len:=by unfold blkP mz;simp
 aF i d h:=by
  obtain⟨i',j,rfl,hj,h⟩:=uo h;obtain⟨v,e,q⟩:=R.aF j d h;exact⟨v,yJ hj e,q⟩
 own i d h:=by
  obtain⟨i',j,rfl,hj,h⟩:=uo h;obtain⟨a,e,n,q⟩:=R.own j d h;exact⟨a,yJ hj e,n,q⟩
 inj i1 i2 d e a h1 h2 h3 h4:=by
  obtain⟨i',j,rfl,hj,h1⟩:=uo h1;obtain⟨i'',j',rfl,hj',h2⟩:=uo h2;obtain⟨a1,e1,_,_⟩:=R.own j d h1;obtain⟨a2,e2,_,_⟩:=R.own j' e h2;rw[yJ hj e1]at h3;rw[yJ hj' e2]at h4;have ea1:a1=a:=by have:=Qa (Qa h3);injection this
  have ea2:a2=a:=by have:=Qa (Qa h4);injection this
  subst ea1;subst ea2;have ej:=R.inj j j' d e _ h1 h2 e1 e2;subst ej;have l1:i'<js.length:=(Xc.mp hj).1;have e1':i'=i'':=(List.getElem?_inj l1 nd).mp (hj.trans hj'.symm);rw[e1']
theorem zub (R:Rel K Fz U Y H){b:Addr}(h:cP (blkP k js U) (mz k js Y) b):cP U Y b:=by
 obtain⟨i,d,h1,h2⟩:=h;obtain⟨i',j,rfl,hj,h1⟩:=uo h1;obtain⟨a1,e1,_,_⟩:=R.own j d h1;rw[yJ hj e1]at h2;cases h2;exact⟨j,d,h1,e1⟩
theorem Rel.Li (R:Rel K Fz U' Y H)(hl:U'.length=(blkP k js U).length)(hs:∀j,k<=j->U'[j]? = (blkP k js U)[j]?):Rel K Fz (blkP k js U) Y H:=by
 have tr:∀i d b,(blkP k js U)[i]? = some (some (d,b))->U'[i]? = some (some (d,b)):=λi d b h=>by
  obtain⟨i',j,rfl,_⟩:=uo h;rw[hs _ (by lia)];exact h
 exact⟨R.al,by rw[<- hl];exact R.len,λi d h=>R.aF i d (tr _ _ _ h),λi d h=>R.own i d (tr _ _ _ h),λi j d e a h1 h2=>R.inj i j d e a (tr _ _ _ h1) (tr _ _ _ h2)⟩
theorem Rel.other {u:HO}(R:Rel K Fz U Y H)(h:H l=some u)(hi:¬ pR u)(nf:¬ Fz l)(no:¬ cP U Y l):Rel K Fz U Y (upd H l o):=by
 have kp:Keep Fz H (upd H l o):=.mk' λb w e hw=>by
  have ne:b≠l:=λz=>by
   subst z;rcases hw with hw | hw
   .exact nf hw
   .rw[h]at e;cases e;exact hi hw
  rw[aY ne];exact e
 refine⟨λb hb=>?_,R.len,λi d e=>?_,λi d e=>?_,R.inj⟩
 .have ne:b≠l:=λz=>by subst z;exact nf hb
  rw[aY ne];exact R.al b hb
 .obtain⟨v,q1,q2⟩:=R.aF i d e;exact⟨v,q1,aq.mono kp (λ_ h=>h) _ _ q2⟩
 .obtain⟨a,q1,q2,q3⟩:=R.own i d e;refine⟨a,q1,q2,q3.mono kp (λ_ h=>h) λw hw=>?_⟩;have ne:a≠l:=λz=>by subst z;exact no ⟨i,d,e,q1⟩
  rw[aY ne];exact hw
section
variable {X:Cx}{elt tg iter:Expr}{ifs:List Expr}{sc:WR}{pos:Pos}{N:Tn}{k:Nat}{js:Tt}{ti:iW}{g:jZ}{tt:fL}{te:aL}
theorem zoO (hi:lK X tg iter ti)(B:lM X N sc tg ifs elt g tt te):∀U Q Q',(∀d k,Q d k->Q' d k)->zct k js ti g tt te U Q->zct k js ti g tt te U Q':=
 λU Q Q' m h=>hi.mono U _ _ (λits o ⟨hz,Pv,h0,hs,hd⟩=>⟨hz,Pv,h0,hs,λout hl hp=>m _ _ (hd out hl hp)⟩) h
theorem zoP (nd:js.Nodup)(hloc:mW k g)(B:lM X N sc tg ifs elt g tt te){U:aC}{Y:St}{H H1:Hp}{bJ:FZ}{o:Bool}{Qq12:It}{its:List PV}{l:Addr}{Rr:Hp->Prop}(R1:Rel X.K bJ U Y H1)(wk:Walk X.K bJ o Qq12 its H1)(hl:H1 l=none)(hz:its.length<=Wf)(Pv:Nat->List PV->Prop)(h0:Pv 0 [])
  (hstep:∀i d out,its[i]? = some d->out.length<=i->Pv i out->g d (blkP k js U) λU2=>tt U2 λb=>if b=true then te U2 λe ke=>isOwn ke=false/\Pv (i+1) (out++[e]) else Pv (i+1) out)
  (hdone:∀F' out xs H',Ext bJ H1 F' H'->H' l=some (.lst xs)->aj X.K F' H' out xs->¬ F' l->out.length<=its.length->Pv its.length out->Rr H') :
  Es Qq12 (vB X.K g) (liftT X.K tt) (lift X.K te) l (mz k js Y) H1 Rr:=by
 have mg:=(B.tgt 0 [] [] X.s₀ H).mono;have mt:=(B.tst 0 [] [] X.s₀ H).mono;have me:=(B.val 0 [] [] X.s₀ H).mono;have nf1:¬ bJ l:=λz=>R1.al l z hl;have no1:¬ cP U Y l:=λ⟨i,d,h1,h2⟩=>by
  obtain⟨a,q1,_,q3⟩:=R1.own i d h1;rw[h2]at q1;cases q1;obtain⟨o',q4,_⟩:=q3.at;rw[hl]at q4;cases q4
 refine⟨λi m Y' H'=>m=its.length-i/\i<=its.length/\∃F' out xs,Rel X.K F' (blkP k js U) Y' H'/\(∀b,cP (blkP k js U) Y' b->cP U Y b)/\H' l=some (.lst xs)/\aj X.K F' H' out xs/\¬ F' l/\out.length<=i/\Pv i out/\Same H1 H'/\(∀b,bJ b->F' b)/\(∀b,F' b->bJ b\/H1 b=none),
  ⟨its.length,by lia,XM _,bJ,[],[],?_,λb hb=>zub R1 hb,cg,aj.nil,nf1,XM _,h0,(Same.refl H1).qz hl,λ_ h=>h,λ_ h=>.inl h⟩,?_⟩
 .have x0:Ext bJ H1 bJ (upd H1 l (.lst [])):=Ext.laid ⟨Same.refl _,λ_ h=>h,λ_ h=>.inl h,R1.al⟩ hl;exact(R1.block nd).ext x0
 rintro i m Y' H' ⟨rfl,hle,F',out,xs,Rb,ob,hlx,hout,nfl,hol,hP,sm,s1,s2⟩;obtain⟨oO,wstop⟩:=wk H' (.inl sm) i;by_cases hlt:i<its.length
 .obtain⟨go,yl⟩:=oO its[i] (Xd hlt);refine .inr ⟨go,λxv H2 y=>?_⟩;obtain⟨oR,dn⟩:=yl xv H2 y;have x2:Ext F' H' F' H2:=⟨oR,λ_ h=>h,λ_ h=>.inl h,λb hb z=>Rb.al b hb (oR.free z)⟩;refine⟨blkP k js U,F',its[i],Rb.ext x2,aq.mono (Keep.of (Same.refl _)) s1 _ _ dn,mg _ _ _ _ (λU2 ⟨q,l2,a2⟩ Qq5 R2 o2=>?_) (hloc _ _ _ (hstep i its[i] out (Xd hlt) hol hP))⟩;refine⟨U2,F',R2,mt U2 _ _ (λb q F4 H4 x4=>?_) q⟩;have R4:Rel X.K F4 U2 Qq5 H4:=R2.ext x4;have own2:∀b,cP (blkP k js U) Qq5 b->cP U Y b:=λb ⟨j,d,h1,h2⟩=>by
   refine ob b (o2 b ⟨j,d,?_,h2⟩);obtain⟨i',j',e,_⟩:=uo h1;rw[a2 j (by lia)];exact h1
  have hl4:H4 l=some (.lst xs):=x4.same _ _ (oR _ _ hlx);have nf4:¬ F4 l:=λz=>by
   rcases x4.new l z with z | z
   .exact nfl z
   .rw[oR _ _ hlx]at z;cases z
  cases b with
  | false=>
   rw[Qe Xu]at q;refine yp ⟨its.length-(i+1),by lia,rfl,hlt,F4,out,xs,Rel.Li R4 l2 a2,own2,hl4,aj.mono (.of (oR.trans x4.same)) x4.sub _ _ hout,nf4,by lia,q,sm.trans (oR.trans x4.same),λb hb=>x4.sub b (s1 b hb),λb hb=>?_⟩;rcases x4.new b hb with z | z
   .exact s2 b z
   .exact .inr (sm.free (oR.free z))
  | true=>
   rw[Qf rfl]at q;refine ud ⟨U2,F4,R4,me U2 _ _ (λe ke ⟨hk,q⟩ v F5 H5 p5=>?_) q⟩;have hk':ke=.aF\/ke=.new:=by
    cases ke with
    | aF=>exact .inl rfl
    | new=>exact .inr rfl
    | own j=>cases hk
   obtain⟨F6,x6,s6,d6⟩:=p5.frozen hk';have hl5:H5 l=some (.lst xs):=x6.same _ _ hl4;have nf6:¬ F6 l:=λz=>by
    rcases x6.new l z with z | z
    .exact nf4 z
    .rw[hl4]at z;cases z
   have R6:Rel X.K F6 U2 Qq5 H5:=R4.ext x6;have Rb6:Rel X.K F6 (blkP k js U) Qq5 H5:=Rel.Li R6 l2 a2;have no6:¬ cP (blkP k js U) Qq5 l:=λz=>no1 (own2 l z);have kp:Keep F6 H5 (upd H5 l (.lst (xs++[v]))):=.mk' λb w e hw=>by
    have ne:b≠l:=λz=>by
     subst z;rcases hw with hw | hw
     .exact nf6 hw
     .rw[hl5]at e;cases e;exact hw
    rw[aY ne];exact e
   have hxl:=hout.length;refine⟨xs,hl5,by lia,its.length-(i+1),by lia,rfl,hlt,F6,out++[e],xs++[v],Rb6.other hl5 (λz=>z) nf6 no6,own2,cg,?_,nf6,by rw[Xr];simp;lia,q,?_,λb hb=>x6.sub b (x4.sub b (s1 b hb)),λb hb=>?_⟩
   .exact aj.mono kp (λ_ h=>h) _ _ (aj.snoc (aj.mono (.of (oR.trans (x4.same.trans x6.same))) (λb hb=>x6.sub b (x4.sub b hb)) _ _ hout) d6)
   .exact(sm.trans (oR.trans (x4.same.trans x6.same))).qz hl
   .rcases x6.new b hb with z | z
    .rcases x4.new b z with z | z
     .exact s2 b z
     .exact .inr (sm.free (oR.free z))
    .exact .inr (sm.free (oR.free (x4.same.free z)))
 .have e:i=its.length:=by lia
  subst e;exact .inl ⟨wstop (Xj _),hdone F' out xs H' ⟨sm,s1,s2,Rb.al⟩ hlx hout nfl hol hP⟩
theorem Lj (nd:js.Nodup)(hloc:mW k g)(hi:lK X tg iter ti)(B:lM X N sc tg ifs elt g tt te){Q:VK}(h:lift X.K (zct k js ti g tt te) Y H Q) :
  Et k js (Lg X.K ti) (vB X.K g) (liftT X.K tt) (lift X.K te) Y H Q:=by
 obtain⟨U,Fz,R,h⟩:=h;refine⟨U,Fz,R,hi.mono U _ _ (λits o q Qq12 bJ H1 x wk l hl=>?_) h⟩;obtain⟨hz,Pv,h0,hstep,hdone⟩:=q;refine zoP (H:=H) nd hloc B (R.ext x) wk hl hz Pv h0 hstep λF' out xs H' x' hlx hout nfl hol hP=>?_;exact hdone out hol hP _ F' H' ⟨x.trans x',l,rfl,x.same.free hl,nfl,xs,hlx,hout⟩
theorem j6 (hc:X.calm=true)(S:sE X N k js sc)(nd:js.Nodup)(hloc:mW k g)(hi:lK X tg iter ti)(B:lM X N sc tg ifs elt g tt te)(hs:oh X iter:=by intro _;rfl) :
  aG X (.ListComp elt [⟨tg,iter,ifs,0⟩] sc pos) (zct k js ti g tt te):=
 ⟨zoO hi B,PE.weak (ztT hc S hi.run B.blk hs) λ_ _ _ h=>Lj nd hloc hi B h⟩
theorem Lk {i:Nat}{x:Str}{pos' pos2:Pos}(hc:X.calm=true)(S:sE X N k js sc)(nd:js.Nodup)(hloc:mW k g)(hi:lK X tg iter ti)(B:lM X N sc tg ifs elt g tt te)(hN:X.N.Nodup)(hx:X.N[i]? = some x)(hk:X.env.scope.names.lookup x=some .local)
  (hsw:Wx (.ListComp elt [⟨tg,iter,ifs,0⟩] sc pos) (some (.Name x pos')) pos2.line X.env=pure true:=by rfl) (hs:oh X iter:=by intro _;rfl) :
  jK X (.Assign [.Name x pos'] (.ListComp elt [⟨tg,iter,ifs,0⟩] sc pos) pos2) (pSet i (zct k js ti g tt te)) where
 mono:=La (j6 (pos:=pos) hc S nd hloc hi B hs)
 run:=PS.weak (ztU hc S hi.run B.blk hN hx hk hsw hs) λD Y H h=>by
  have q:=K9 (j6 (pos:=pos) hc S nd hloc hi B hs) h;exact Lj nd hloc hi B q
end
def zaA (N:Tn)(ds:List PV):aC:=ds.map (λd=>some (d,false))++YN (N.length-ds.length) none
def zbi (Q:PV->Kd->Prop):eU:=⟨λ_=>Q .non .aF,Q,λ_=>False,λ_=>False⟩
theorem FN (h:∀ds Q,F ds Q->ds.length=ps.length):∀vs H Q E,aX K F vs H Q E->vs.length=ps.length:=λvs H Q E ⟨Fz,ds,_,hd,q⟩=>by rw[<- hd.length];exact h _ _ q
theorem FP (al:∀b,Fz b->H b≠none)(h:aj K Fz H ds vs):Rel K Fz (zaA N ds) (start N vs) H/\∀Y b,¬ cP (zaA N ds) Y b:=by
 have hl:=h.length;have get:∀(i:Nat) (d:PV) (b:Bool),(zaA N ds)[i]? = some (some (d,b))->b=false/\ds[i]? = some d:=λi d b e=>by
  unfold zaA at e;by_cases hi:i<ds.length
  .rw[Ye (by simpa using hi),Xg,Xd hi]at e;have e':(some (ds[i],false):Option (PV×Bool))=some (d,b):=Qa e;have e2:=Qa e';exact⟨(congrArg Prod.snd e2).symm,by rw[Xd hi];exact congrArg some (congrArg Prod.fst e2)⟩
  .rw[XZ (by simpa using hi),YO]at e;split at e<;>cases e
 refine⟨⟨al,by unfold zaA L2.start;simp[hl],λi d e=>?_,λi d e=>?_,λi j d e a h1=>?_⟩,λY b ⟨i,d,e,_⟩=>?_⟩
 .obtain⟨_,e'⟩:=get i d false e;obtain⟨v,q1,q2⟩:=h.get e';have hi:i<vs.length:=(Xc.mp q1).1;refine⟨v,?_,q2⟩;unfold L2.start;rw[Ye (by simpa using hi),Xg,q1];rfl
 .exact Qg (get i d true e).1 (by decide)
 .exact Qg (get i d true h1).1 (by decide)
 .exact Qg (get i d true e).1 (by decide)
section
variable {P:Wg}{w:Wj}{K:Xa}{mg:Tj}{base:Heap}
theorem dI {x qual:Str}{st:Wn}{f:Addr}{fd:Wk}{N ps:Tn}{k:Nat}{F:PF}(Fn:cj K x qual st f fd)(S:cL N ps (bf st))(len:∀ds Q,F ds Q->ds.length=ps.length)
  (hbody:∀(cdv:Wb) (A:Wl) (outer:List Env) (s:Wc) (H:Hp) (E:XK),bx k (A.deeper (Vc qual (bf st) s.heap.objs.size f cdv))->
   ∃t,gO (fK aN P w K mg base N qual (bf st) f cdv A outer s H E).pN (ji st) t/\∀ds Q,F ds Q->t (zaA N ds) (zbi Q)):aA P w K mg base aN (k+1) f fd ps (aX K F):=by
 refine Fn.ok S (FN len) (λcdv A outer s H vs Q E hr h=>?_);obtain⟨t,ht,hq⟩:=hbody cdv A outer s H E hr;obtain⟨Fz,ds,al,hd,h⟩:=h;obtain⟨R,no⟩:=FP (N:=N) al hd;refine⟨_,ht.run,zaA N ds,Fz,R,ht.mono _ (zbi _) _ ⟨λU' q Y' F' H' s' o' R'=>?_,λd k q v F' H' s' al' r=>?_,λ_ z=>z.elim,λ_ z=>z.elim⟩ (hq ds _ h)⟩
 .exact q .non F' H' ⟨⟨λb o e=>s'.keep b o e (no _ b),s'.sub,λb hb=>(s'.new b hb).elim .inl (λz=>z.elim .inr (λz=>(no _ b z).elim)),R'.al⟩,by show aq _ _ _ _ _;simp only[aq]⟩
 .refine q v F' H' ⟨⟨λb o e=>s'.keep b o e (no _ b),s'.sub,λb hb=>(s'.new b hb).elim .inl (λz=>z.elim .inr (λz=>(no _ b z).elim)),al'⟩,?_⟩;cases k with
  | aF=>exact r
  | own i=>exact r.elim
  | new=>
   obtain⟨a,e,nf,o,w⟩:=r;exact⟨a,e,w.resolve_left (no _ a),nf,o⟩
end
theorem Rel.mut {K:Xa}{Fz:FZ}{U:aC}{Y:St}{H:Hp}{i:Nat}{d d':PV}{a:Addr}{o u:HO}(R:Rel K Fz U Y H)(hi:U[i]? = some (some (d,true)))(hs:Y[i]? = some (some (.ref a)))(hu:H a=some u)
  (ho:Own K Fz (upd H a o) d' a):Rel K Fz (U.set i (some (d',true))) Y (upd H a o)/\Step U Y Fz H Fz (upd H a o)/\bh U Y H (U.set i (some (d',true))) Y:=by
 obtain⟨a',e',nf,ow⟩:=R.own i d hi;rw[hs]at e';cases e';have hil:i<U.length:=(Xc.mp hi).1;have im:¬ pR u:=by obtain⟨o',q1,q2⟩:=ow.at;rw[hu]at q1;cases q1;exact q2
 have kp:Keep Fz H (upd H a o):=.mk' λb w e hw=>by
  have ne:b≠a:=λz=>by
   subst z;rcases hw with hw | hw
   .exact nf hw
   .rw[hu]at e;cases e;exact im hw
  rw[aY ne];exact e
 have st:∀j e,(U.set i (some (d',true)))[j]? = some (some (e,true))->∃e0,U[j]? = some (some (e0,true)):=λj e h=>by
  by_cases hij:i=j
  .subst hij;exact⟨d,hi⟩
  .rw[Xk hij]at h;exact⟨e,h⟩
 refine⟨⟨λb hb=>?_,by rw[Yf];exact R.len,λj e h=>?_,λj e h=>?_,λj k e1 e2 b h1 h2 h3 h4=>?_⟩,⟨λ_ h=>h,λ_ h=>.inl h,λb w e n=>?_⟩,λb ⟨j,e,h1,h2⟩=>?_⟩
 .have ne:b≠a:=λz=>by subst z;exact nf hb
  rw[aY ne];exact R.al b hb
 .by_cases hij:i=j
  .subst hij;rw[Xm hil]at h;cases h
  .rw[Xk hij]at h;obtain⟨v,q1,q2⟩:=R.aF j e h;exact⟨v,q1,aq.mono kp (λ_ h=>h) _ _ q2⟩
 .by_cases hij:i=j
  .subst hij;rw[Xm hil]at h;cases h;exact⟨a,hs,nf,ho⟩
  .rw[Xk hij]at h;obtain⟨b,q1,q2,q3⟩:=R.own j e h;refine⟨b,q1,q2,q3.mono kp (λ_ h=>h) λw hw=>?_⟩;have ne:b≠a:=λz=>by subst z;exact hij (R.inj i j d e _ hi h hs q1)
   rw[aY ne];exact hw
 .obtain⟨e1',g1⟩:=st j e1 h1;obtain⟨e2',g2⟩:=st k e2 h2;exact R.inj j k e1' e2' b g1 g2 h3 h4
 .have ne:b≠a:=λz=>by subst z;exact n ⟨i,d,hi,hs⟩
  rw[aY ne];exact e
 .obtain⟨e',g⟩:=st j e h1;exact .inl ⟨j,e',g,h2⟩
abbrev mY:=aC->(PV->aC->Prop)->Prop
def liftM (K:Xa)(t:mY):TE:=λY H Q=>∃U Fz,Rel K Fz U Y H/\t U λd U'=>∀v ao H',Step U Y Fz H ao H'->bh U Y H U' Y->Rel K ao U' Y H'->aq K ao H' d v->Q v H'
structure qC (X:Cx)(e:Expr)(t:mY):Prop where
 mono:∀U Q Q',(∀d U,Q d U->Q' d U)->t U Q->t U Q'
 run:PE X e (liftM X.K t)
def mApp (i:Nat)(te:aL):mY:=λU Q=>∃ds,U[i]? = some (some (.lst ds,true))/\ds.length<Wf/\te U λd k=>isOwn k=false/\Q .non (U.set i (some (.lst (ds++[d]),true)))
def mPop (i:Nat):mY:=λU Q=>∃ds d,U[i]? = some (some (.lst ds,true))/\ds[ds.length-1]? = some d/\Q d (U.set i (some (.lst ds.dropLast,true)))
def zcX (i:Nat)(te:aL):mY:=λU Q=>∃ds,U[i]? = some (some (.lst ds,true))/\te U λd _=>∃es,d=.tup es/\ds.length+es.length<=Wf/\Q .non (U.set i (some (.lst (ds++es),true)))
theorem uq (R:Rel K Fz U Y H)(h:U[i]? = some (some (.lst ds,true))):∃a xs,Y[i]? = some (some (.ref a))/\H a=some (.lst xs)/\aj K Fz H ds xs/\¬ Fz a:=by
 obtain⟨a,e,nf,xs,h1,h2⟩:=R.own i _ h;exact⟨a,xs,e,h1,h2,nf⟩
theorem aj.vH {ys:List V}(ha:H a=some (.lst ys))(nf:¬ Fz a)(h:aj K Fz H ds xs):aj K Fz (upd H a o) ds xs:=
 aj.mono (.mk' λb w e hw=>by
  have ne:b≠a:=λz=>by
   subst z;rcases hw with hw | hw
   .exact nf hw
   .rw[ha]at e;cases e;exact hw
  rw[aY ne];exact e) (λ_ h=>h) _ _ h
section
variable {X:Cx}{x:Str}{e:Expr}{te:aL}{tm:mY}{p apos cpos:Pos}
theorem sX (i:Nat)(he:aG X e te)(hN:X.N[i]? = some x:=by rfl)(hv:mO X.env.scope x:=by first | exact Qk rfl | exact Qs (Qk rfl) | exact Qs (Qs rfl))(hd:fD x:=by decide) (hcd:nD x:=by decide)
  (hbase:Wu (.Name x p) "append" X.env (Ww (.Name x p) X.env)=Ww (.Name x p) X.env:=by rfl)
  (hfew:((WK cpos (Wo [e] X.env)).all (λx=>!x.1)&&(WT cpos (WE [] X.env)).all (λx=>x.1.isSome)&&decide ([e].length+([]:List W0).length+(if ([]:List W0).isEmpty then 0 else 1)<30))=true:=by rfl)
  (hline:(apos.endLine == cpos.line)=true:=by rfl) (hs:cQ X e []:=by rfl) (hplain:cO X cpos []:=by rfl):qC X (.Call (.Attribute (.Name x p) "append" apos) [e] [] cpos) (mApp i te) where
 mono U Q Q' m h:=by
  obtain⟨ds,e1,e2,h⟩:=h;exact⟨ds,e1,e2,he.mono U _ _ (λd k ⟨hk,q⟩=>⟨hk,m _ _ q⟩) h⟩
 run:=PE.weak (Ai QL PySem.F.slot_list_append PySem.F.type_list_append Ei (mQ hN hv hd hcd) (t7 he.run rZ hs) hbase hfew hline hs hplain) λY H Q h=>by
  obtain⟨U,Fz,R,ds,e1,e2,h⟩:=h;obtain⟨a,xs,hs,ha,hd,nf⟩:=uq R e1;refine⟨_,hs,.inl ⟨rfl,xs,bI.of ha⟩,U,Fz,R,he.mono U _ _ (λd k q v F1 H1 p1=>?_) h⟩;obtain⟨hk,q⟩:=q;have hk':k=.aF\/k=.new:=by
   cases k with
   | aF=>exact .inl rfl
   | new=>exact .inr rfl
   | own j=>cases hk
  obtain⟨F2,x2,s2,d2⟩:=p1.frozen hk';have R2:=R.ext x2;obtain⟨a',xs',hs',ha',hd',jw⟩:=uq R2 e1;rw[hs]at hs';cases hs';have hl:=hd'.length;refine⟨a,xs',v,rfl,rfl,ha',by lia,?_⟩;have ow:Own X.K F2 (upd H1 a (.lst (xs'++[v]))) (.lst (ds++[d])) a:=⟨_,cg,(aj.vH ha' jw (aj.snoc hd' d2))⟩;obtain⟨R3,s3,o3⟩:=R2.mut e1 hs ha' ow;exact q .non F2 _ ((Step.of x2).trans (bh.refl U Y H) s3) (bh.trans (Step.of x2) (bh.refl U Y H) o3) R3 (by simp only[aq])
theorem zrw (i:Nat)(he:aG X e te)(hN:X.N[i]? = some x:=by rfl)(hv:mO X.env.scope x:=by first | exact Qk rfl | exact Qs (Qk rfl) | exact Qs (Qs rfl))(hd:fD x:=by decide) (hcd:nD x:=by decide)
  (hbase:Wu (.Name x p) "extend" X.env (Ww (.Name x p) X.env)=Ww (.Name x p) X.env:=by rfl)
  (hfew:((WK cpos (Wo [e] X.env)).all (λx=>!x.1)&&(WT cpos (WE [] X.env)).all (λx=>x.1.isSome)&&decide ([e].length+([]:List W0).length+(if ([]:List W0).isEmpty then 0 else 1)<30))=true:=by rfl)
  (hline:(apos.endLine == cpos.line)=true:=by rfl) (hs:cQ X e []:=by rfl) (hplain:cO X cpos []:=by rfl):qC X (.Call (.Attribute (.Name x p) "extend" apos) [e] [] cpos) (zcX i te) where
 mono U Q Q' m h:=by
  obtain⟨ds,e1,h⟩:=h;exact⟨ds,e1,he.mono U _ _ (λd _ ⟨es,q1,q2,q⟩=>⟨es,q1,q2,m _ _ q⟩) h⟩
 run:=PE.weak (Ai QL PySem.F.slot_list_extend PySem.F.type_list_extend ztW (mQ hN hv hd hcd) (t7 he.run rZ hs) hbase hfew hline hs hplain) λY H Q h=>by
  obtain⟨U,Fz,R,ds,e1,h⟩:=h;obtain⟨a,xs,hs,ha,hd,nf⟩:=uq R e1;refine⟨_,hs,.inl ⟨rfl,xs,bI.of ha⟩,U,Fz,R,he.mono U _ _ (λd k q v F1 H1 p1=>?_) h⟩;obtain⟨es,rfl,q2,q⟩:=q;have R2:=R.ext p1.ext;obtain⟨a',xs',hs',ha',hd',jw⟩:=uq R2 e1;rw[hs]at hs';cases hs';obtain⟨b,zs,rfl,hb,hz⟩:=lq (p1.root R);have hl:=hd'.length;have hl2:=hz.length;refine⟨a,b,xs',zs,rfl,rfl,ha',hb,by lia,?_⟩;have ow:Own X.K F1 (upd H1 a (.lst (xs'++zs))) (.lst (ds++es)) a:=⟨_,cg,(aj.vH ha' jw (hd'.append hz))⟩;obtain⟨R3,s3,o3⟩:=R2.mut e1 hs ha' ow;exact q .non F1 _ ((Step.of p1.ext).trans (bh.refl U Y H) s3) (bh.trans (Step.of p1.ext) (bh.refl U Y H) o3) R3 (by simp only[aq])
def zbs (tm:mY):dU:=λU O=>tm U λ_ U'=>O.nx U'
def zcY (i:Nat)(tm:mY):dU:=λU O=>tm U λd U'=>O.nx (U'.set i (some (d,false)))
variable {pos:Pos}
theorem oU (he:qC X e tm)(hs:Wx e none pos.line X.env=pure false:=by rfl):jK X (.Expr e pos) (zbs tm) where
 mono U O O' m h:=he.mono U _ _ (λ_ _ q=>m.nx _ q) h
 run:=PS.weak (Ab he.run hs) λD Y H h=>by
  obtain⟨U,Fz,R,h⟩:=h;exact⟨U,Fz,R,he.mono U _ _ (λd U' q v F' H' s' o' R' _=>q Y F' H' s' o' R') h⟩
theorem zrx {y:Str}(hN:X.N.Nodup)(hi:X.N[i]? = some y)(hx:Loc X.env.scope y)(he:qC X e tm)(hs:Wx e (some (.Name y pos')) pos.line X.env=pure false:=by rfl)(hf:lE X y:=by first | exact .inl rfl | exact .inr rfl | assumption) :
  jK X (.Assign [.Name y pos'] e pos) (zcY i tm) where
 mono U O O' m h:=he.mono U _ _ (λ_ _ q=>m.nx _ q) h
 run:=PS.weak (rR hN hi hx he.run hs hf) λD Y H h=>by
  obtain⟨U,Fz,R,h⟩:=h;exact⟨U,Fz,R,he.mono U _ _ (λd U' q v F' H' s' o' R' dn=>q _ F' H' s' (λb hb=>o' b (oK b hb)) (R'.set dn)) h⟩
end
theorem Ln {i:Int}(h:aj K Fz H ds xs)(e:gM ds i=some d):∃v,gM xs i=some v/\aq K Fz H d v:=by
 unfold gM at e ⊢;rw[<- h.length];cases q:pP ds.length i with
 | none=>rw[q]at e;cases e
 | some j=>
  rw[q]at e;obtain⟨v,h1,h2⟩:=h.get (i:=j) (d:=d) e;exact⟨v,h1,h2⟩
def ixV (d e x:PV):Prop:=(∃ds i,(d=.lst ds\/d=.tup ds)/\e=.int i/\gM ds i=some x)\/∃z i c,d=.str z/\e=.int i/\z.length<=Wf/\gM z.cps.toList i=some c/\x=.str ⟨#[c]⟩
def pIx:P2:=λd e Q=>∃x,ixV d e x/\Q x .aF
theorem zxT:jF K (JL K) pIx where
 mono d e Q Q' m h:=by obtain⟨x,h,q⟩:=h;exact⟨x,h,m _ _ q⟩
 run Fz H x y d e Q al rx ry h:=by
  obtain⟨x',h,q⟩:=h;rcases h with ⟨ds,i,e1,rfl,e3⟩ | ⟨z,i,c,rfl,rfl,e3,e4,rfl⟩
  .rcases e1 with rfl | rfl
   .obtain⟨a,xs,rfl,h1,h2⟩:=fG rx;obtain⟨v,g1,g2⟩:=Ln h2 e3;exact .inl ⟨a,xs,i,v,rfl,ju ry,h1,g1,q v Fz H (.val al g2)⟩
   .obtain⟨a,xs,rfl,h1,h2⟩:=lq rx;obtain⟨v,g1,g2⟩:=Ln h2 e3;exact .inr (.inl ⟨a,xs,i,v,rfl,ju ry,h1,g1,q v Fz H (.val al g2)⟩)
  .exact .inr (.inr ⟨z,i,c,nO rx,ju ry,e3,e4,q _ Fz H (.val al (by simp only[aq]))⟩)
section
variable {X:Cx}{a b:Expr}{ta tb:aL}{pos:Pos}
theorem di (ha:aG X a ta)(hb:aG X b tb)(hs:Ec b:=by exact λ_ _=>rfl):aG X (.Subscript a b pos) (t2 pIx ta tb):=zxS zvV zxT ha hb hs
theorem ur (hu:X.A.units+16<WG)(ha:aG X a ta)(hb:aG X b tb)(hm:Wr .Eq b=false:=by first | exact nG _ | rfl):iK X (.Compare a [.Eq] [b] pos) (tBl (t2 (pEq false) ta tb)):=qw (zwn hu) K4 ha hb hm
theorem Bg (hu:X.A.units+16<WG)(ha:aG X a ta)(hb:aG X b tb)(hm:Wr .NotEq b=false:=by first | exact nG _ | rfl):iK X (.Compare a [.NotEq] [b] pos) (tBl (t2 (pEq true) ta tb)):=qw (zwo hu) K4 ha hb hm
theorem uw (ha:aG X a ta)(hb:aG X b tb)(hm:Wr .Lt b=false:=by first | exact nG _ | rfl):iK X (.Compare a [.Lt] [b] pos) (tBl (pLt ta tb)):=qw Zq KH ha hb hm
theorem Bh (ha:aG X a ta)(hb:aG X b tb)(hm:Wr .Gt b=false:=by first | exact nG _ | rfl):iK X (.Compare a [.Gt] [b] pos) (tBl (pGt ta tb)):=qw Zr KH ha hb hm
end
def uy (K:Xa)(neg:Bool):R2:=λx y H Q=>∃Fz d ds p xs,aD K Fz H d x/\y=.ref p/\(bI K H p xs\/bN K H p xs)/\aj K Fz H ds xs/\plain 6 d=true/\ds.all (plain 6)=true/\Q (.bl (if neg then !decide (d∈ds) else decide (d∈ds))) H
def pIn (neg:Bool):P2:=λd e Q=>∃ds,(e=.lst ds\/e=.tup ds)/\plain 6 d=true/\ds.all (plain 6)=true/\Q (.bl (if neg then !decide (d∈ds) else decide (d∈ds))) .aF
theorem FQ {neg:Bool}:jF K (uy K neg) (pIn neg) where
 mono d e Q Q' m h:=by obtain⟨ds,e1,e2,e3,q⟩:=h;exact⟨ds,e1,e2,e3,m _ _ q⟩
 run Fz H x y d e Q al rx ry h:=by
  obtain⟨ds,e1,e2,e3,q⟩:=h;rcases e1 with rfl | rfl
  .obtain⟨a,xs,rfl,h1,h2⟩:=fG ry;exact⟨Fz,d,ds,a,xs,rx,rfl,.inl h1,h2,e2,e3,q _ Fz H (.val al (by simp only[aq]))⟩
  .obtain⟨a,xs,rfl,h1,h2⟩:=lq ry;exact⟨Fz,d,ds,a,xs,rx,rfl,.inr h1,h2,e2,e3,q _ Fz H (.val al (by simp only[aq]))⟩
def vI (p:Prop):Bool:=@decide p (QK p)
theorem Lp (h:p):vI p=true:=@decide_eq_true p (QK p) h
theorem zoR (h:¬ p):vI p=false:=@decide_eq_false p (QK p) h
theorem zud:vI p=true↔p:=@decide_eq_true_iff p (QK p)
section
variable {X:Cx}{pins:Tg}{Y:St}{H:Hp}{s:Wc}{Fz:FZ}
theorem Bj (I:Inv X pins Y H s){A:Wl}(hu:A.units+16<WG){x:V}{v:Wb}{its:Tq}(hx:aD X.K Fz H d x)(rx:RelV x v)(r:Vals xs its)(h:aj X.K Fz H ds xs)(pd:plain 6 d=true)(ps:ds.all (plain 6)=true) :
  ∃e:Wb->Bool,(∀y,y∈its.toArray->Q0 A.in1 s y v (e y))/\its.toArray.any e=decide (d∈ds):=by
 refine⟨λu=>vI (∃j:Nat,its[j]? = some u/\ds[j]? = some d),λu hu'=>?_,?_⟩
 .obtain⟨j,hj⟩:=List.mem_iff_getElem?.mp (show u∈its by simpa using hu');have l1:=r.length;have l2:=h.length;have hjl:j<its.length:=(Xc.mp hj).1;have e1:ds[j]? = some ds[j]:=Xd (by lia);obtain⟨y,e2,q2⟩:=h.get e1;obtain⟨u',e3,q3⟩:=r.get e2;rw[hj]at e3;cases e3;have pj:plain 6 ds[j]=true:=XX.mp ps _ (YA _);have w:vI (∃j':Nat,its[j']? = some u/\ds[j']? = some d)=decide (ds[j]=d):=by
   by_cases hd:ds[j]=d
   .rw[Qd hd,Lp ⟨j,hj,by rw[e1,hd]⟩]
   .rw[Qc hd];refine zoR ?_;rintro⟨j',g1,g2⟩;obtain⟨y',e2',q2'⟩:=h.get g2;obtain⟨u',e3',q3'⟩:=r.get e2';rw[g1]at e3';cases e3';have ey:y=y':=q3.inj q3';subst ey;exact hd (Fp I 6 _ _ _ pj pd q2.root q2'.root)
  show Q0 A.in1 s u v (vI (∃j':Nat,its[j']? = some u/\ds[j']? = some d));rw[w];exact(Fq I 6 A.in1 ds[j] d y x u v pj pd (by show A.units+1+6<WG;lia) q2.root hx q3 rx).2.2
 .have l1:=r.length;have l2:=h.length;by_cases hd:d∈ds
  .rw[Qd hd];obtain⟨j,hj⟩:=List.mem_iff_getElem?.mp hd;have hjl:j<ds.length:=(Xc.mp hj).1;rw[Array.any_eq_true];refine⟨j,by simpa using (by lia:j<its.length),?_⟩;refine Lp ⟨j,?_,hj⟩;simp
  .rw[Qc hd];rw[Array.any_eq_false];intro i hi;intro z;obtain⟨j,g1,g2⟩:=zud.mp z;exact hd (Xl g2)
theorem Lq (hu:X.A.units+16<WG):fZ X (WF .In) (uy X.K false):=by
 intro pins s Y H x y v u Q I rx ry h;obtain⟨Fz,d,ds,p,xs,hx,rfl,hq,hd,p1,p2,q⟩:=h;cases ry;rcases hq with hq | hq
 .obtain⟨its,r,pl,hz⟩:=I.list hq;obtain⟨e,h1,h2⟩:=Bj I hu hx rx r hd p1 p2;exact SeqAt.in_listAt e pl.isList h1 ⟨.bl _,H,I,rfl,by rw[h2];exact q⟩
 .obtain⟨its,r,pl,hz⟩:=I.tuple hq;obtain⟨e,h1,h2⟩:=Bj I hu hx rx r hd p1 p2;exact SeqAt.in_tupleAt e pl h1 ⟨.bl _,H,I,rfl,by rw[h2];exact q⟩
theorem zoS (hu:X.A.units+16<WG):fZ X (WF .NotIn) (uy X.K true):=by
 intro pins s Y H x y v u Q I rx ry h;obtain⟨Fz,d,ds,p,xs,hx,rfl,hq,hd,p1,p2,q⟩:=h;cases ry;rcases hq with hq | hq
 .obtain⟨its,r,pl,hz⟩:=I.list hq;obtain⟨e,h1,h2⟩:=Bj I hu hx rx r hd p1 p2;exact SeqAt.notIn_listAt e pl.isList h1 ⟨.bl _,H,I,rfl,by rw[h2];exact q⟩
 .obtain⟨its,r,pl,hz⟩:=I.tuple hq;obtain⟨e,h1,h2⟩:=Bj I hu hx rx r hd p1 p2;exact SeqAt.notIn_tupleAt e pl h1 ⟨.bl _,H,I,rfl,by rw[h2];exact q⟩
variable {a b:Expr}{ta tb:aL}{pos:Pos}
theorem zxU (hu:X.A.units+16<WG)(ha:aG X a ta)(hb:aG X b tb)(hm:Wr .In b=false:=by first | exact nG _ | rfl):aG X (.Compare a [.In] [b] pos) (t2 (pIn false) ta tb):=zwm (Lq hu) FQ ha hb hm
theorem Lr (hu:X.A.units+16<WG)(ha:aG X a ta)(hb:aG X b tb)(hm:Wr .In b=false:=by first | exact nG _ | rfl):iK X (.Compare a [.In] [b] pos) (tBl (t2 (pIn false) ta tb)):=qw (Lq hu) FQ ha hb hm
theorem Ls (hu:X.A.units+16<WG)(ha:aG X a ta)(hb:aG X b tb)(hm:Wr .NotIn b=false:=by first | exact nG _ | rfl):iK X (.Compare a [.NotIn] [b] pos) (tBl (t2 (pIn true) ta tb)):=qw (zoS hu) FQ ha hb hm
end
def pIsN (neg:Bool):P2:=λd e Q=>e=.non/\Q (.bl (if neg then !decide (d=.non) else decide (d=.non))) .aF
theorem Lw {x:V}(r:aD K Fz H d x):decide (x=V.non)=decide (d=.non):=by
 cases d with
 | non=>rw[qx r];simp
 | bl b=>rw[yF r];simp
 | int b=>rw[ju r];simp
 | str b=>rw[nO r];simp
 | tup ds=>obtain⟨a,xs,rfl,_⟩:=lq r;simp
 | lst ds=>obtain⟨a,xs,rfl,_⟩:=fG r;simp
 | ty n=>simp only[aD,aq]at r;rw[r];simp
 | dK ks ds=>simp only[aD]at r;obtain⟨a,xs,rfl,_⟩:=r;simp
 | dT ks ds=>simp only[aD]at r;obtain⟨a,xs,rfl,_⟩:=r;simp
 | dP ks=>simp only[aD]at r;obtain⟨a,cs,rfl,_⟩:=r;simp
 | obj C ks ds=>simp only[aD,aq]at r;obtain⟨a,dx,xs,rfl,_⟩:=r;simp
theorem zwx:jF K (λx y H Q=>y=.non/\Q (.bl (decide (x=.non))) H) (pIsN false) where
 mono d e Q Q' m h:=⟨h.1,m _ _ h.2⟩
 run Fz H x y d e Q al rx ry h:=by
  obtain⟨rfl,q⟩:=h;refine⟨qx ry,?_⟩;rw[Lw rx];exact q _ Fz H (.val al (by simp only[aq];rfl))
theorem zue:jF K (λx y H Q=>y=.non/\Q (.bl (!decide (x=.non))) H) (pIsN true) where
 mono d e Q Q' m h:=⟨h.1,m _ _ h.2⟩
 run Fz H x y d e Q al rx ry h:=by
  obtain⟨rfl,q⟩:=h;refine⟨qx ry,?_⟩;rw[Lw rx];exact q _ Fz H (.val al (by simp only[aq];rfl))
section
variable {X:Cx}{a b:Expr}{ta tb:aL}{pos:Pos}
theorem FT (ha:aG X a ta)(hb:aG X b tb)(hm:Wr .Is b=false:=by first | exact nG _ | rfl):iK X (.Compare a [.Is] [b] pos) (tBl (t2 (pIsN false) ta tb)):=qw Zt zwx ha hb hm
theorem zry (ha:aG X a ta)(hb:aG X b tb)(hm:Wr .IsNot b=false:=by first | exact nG _ | rfl):iK X (.Compare a [.IsNot] [b] pos) (tBl (t2 (pIsN true) ta tb)):=qw Zu zue ha hb hm
end
theorem Lx:Wm "list" = some (.type "list"):=by decide +kernel
theorem Ly:Wm "tuple" = some (.type "tuple"):=by decide +kernel
theorem FW:Wm "set" = some (.type "set"):=by decide +kernel
theorem zxV:Wm "dict" = some (.type "dict"):=by decide +kernel
theorem Ga:Wm "int" = some (.type "int"):=by decide +kernel
theorem zxW:Wm "bool" = some (.type "bool"):=by decide +kernel
theorem Gb:Wm "len" = some (.builtin "len"):=by decide +kernel
theorem Lz:Wm "sorted" = some (.builtin "sorted"):=by decide +kernel
theorem Ge:Wm "isinstance" = some (.builtin "isinstance"):=by decide +kernel
theorem yK:Wm "min" = some (.builtin "min"):=by decide +kernel
theorem qD (h:yH K Fz H [d] vs):∃v,vs=[v]/\aD K Fz H d v:=by
 cases h with
 | cons r t=>cases t;exact⟨_,rfl,r⟩
theorem Bm {e:PV}(h:yH K Fz H [d,e] vs):∃v u,vs=[v,u]/\aD K Fz H d v/\aD K Fz H e u:=by
 cases h with
 | cons r t=>
  cases t with
  | cons r2 t=>cases t;exact⟨_,_,rfl,r,r2⟩
theorem Post.newL {p:Addr}(al:∀b,Fz b->H b≠none)(hp:H p=none)(h:aj K Fz H ds xs):Post K [] [] Fz H Fz (upd H p (.lst xs)) (.lst ds) .new (.ref p):=
 ⟨Ext.laid ⟨Same.refl H,λ_ h=>h,λ_ h=>.inl h,al⟩ hp,p,rfl,hp,λz=>al p z hp,xs,cg,aj.mono (Keep.of (λb u e=>by rw[aY (mK e hp)];exact e)) (λ_ h=>h) _ _ h⟩
theorem Post.yL {p:Addr}(al:∀b,Fz b->H b≠none)(hp:H p=none)(h:aj K Fz H ds xs):Post K [] [] Fz H Fz (upd H p (.tup xs)) (.tup ds) .aF (.ref p):=by
 refine⟨Ext.laid ⟨Same.refl H,λ_ h=>h,λ_ h=>.inl h,al⟩ hp,?_⟩;show aq _ _ _ _ _;simp only[aq];exact⟨p,xs,rfl,cg,aj.mono (Keep.of (λb u e=>by rw[aY (mK e hp)];exact e)) (λ_ h=>h) _ _ h⟩
def LenP:PV->Nat->Prop
 | .str y,n=>y.length<=Wf/\n=y.length
 | .lst ds,n=>n=ds.length
 | .tup ds,n=>n=ds.length
 | .dK ks _,n=>n=ks.length
 | _,_=>False
def fLen:PF:=λds Q=>∃d n,ds=[d]/\LenP d n/\Q (.int n) .aF
def yM (K:Xa):List V->Hp->VK->Prop:=λxs H Q=>(∃x n,xs=[x]/\xV K x H n/\Q (.int n) H)\/∃a kvs,xs=[.ref a]/\Rd H a (.dK kvs)/\Q (.int kvs.length) H
theorem zoU:jW X (.builtin "len") (yM X.K):=by
 intro pins s Y H xs us Q I r h;rcases h with h | ⟨a,kvs,rfl,ha,q⟩
 .exact ZF pins s Y H xs us Q I r h
 .obtain⟨u,rfl,ru⟩:=vals1 r;cases ru;exact zxM I ha λt s' I'=>⟨.int kvs.length,H,I',⟨t,rfl⟩,q⟩
theorem zwz:mV K (yM K) fLen where
 mono ds Q Q' m h:=by obtain⟨d,n,e1,e2,q⟩:=h;exact⟨d,n,e1,e2,m _ _ q⟩
 run Fz H ds vs Q al r h:=by
  obtain⟨d,n,rfl,e,q⟩:=h;obtain⟨v,rfl,rv⟩:=qD r;have q':=q (.int n) Fz H (.val al (by simp only[aq]));cases d with
  | str y=>cases nO rv;exact .inl ⟨_,n,rfl,e,q'⟩
  | lst ds=>obtain⟨a,xs,rfl,h1,h2⟩:=fG rv;exact .inl ⟨_,n,rfl,.inl ⟨xs,h1,by rw[<- h2.length];exact e⟩,q'⟩
  | tup ds=>obtain⟨a,xs,rfl,h1,h2⟩:=lq rv;exact .inl ⟨_,n,rfl,.inr ⟨xs,h1,by rw[<- h2.length];exact e⟩,q'⟩
  | dK ks ds=>
   simp only[aD]at rv;obtain⟨a,xs,rfl,h1,h2,h3⟩:=rv;have e':n=ks.length:=e;refine .inr ⟨a,_,rfl,h1,?_⟩;rw[YI,<- h2,Nat.min_self,<- e'];exact q'
  | non=>exact e.elim
  | bl b=>exact e.elim
  | int i=>exact e.elim
  | ty n=>exact e.elim
  | dT ks ds=>exact e.elim
  | dP ks=>exact e.elim
  | obj C ks ds=>exact e.elim
def zcM:PF:=λds Q=>∃es,(ds=[.lst es]\/ds=[.tup es])/\Q (.lst es) .new
def zbt:PF:=λds Q=>∃es,(ds=[.lst es]\/ds=[.tup es])/\Q (.tup es) .aF
theorem zuf:mV K (ztX K) zcM where
 mono ds Q Q' m h:=by obtain⟨es,e,q⟩:=h;exact⟨es,e,m _ _ q⟩
 run Fz H ds vs Q al r h:=by
  obtain⟨es,e,q⟩:=h;rcases e with rfl | rfl
  .obtain⟨v,rfl,rv⟩:=qD r;obtain⟨a,xs,rfl,h1,h2⟩:=fG rv;exact⟨a,xs,rfl,.inl h1,λl hl=>q _ Fz _ (.newL al hl h2)⟩
  .obtain⟨v,rfl,rv⟩:=qD r;obtain⟨a,xs,rfl,h1,h2⟩:=lq rv;exact⟨a,xs,rfl,.inr h1,λl hl=>q _ Fz _ (.newL al hl h2)⟩
theorem zrz:mV K (zwl K) zbt where
 mono ds Q Q' m h:=by obtain⟨es,e,q⟩:=h;exact⟨es,e,m _ _ q⟩
 run Fz H ds vs Q al r h:=by
  obtain⟨es,e,q⟩:=h;rcases e with rfl | rfl
  .obtain⟨v,rfl,rv⟩:=qD r;obtain⟨a,xs,rfl,h1,h2⟩:=fG rv;exact⟨a,xs,rfl,.inl ⟨h1,λl hl=>q _ Fz _ (.yL al hl h2)⟩⟩
  .obtain⟨v,rfl,rv⟩:=qD r;obtain⟨a,xs,rfl,h1,h2⟩:=Ax rv;exact⟨a,xs,rfl,.inr ⟨bN.of h1,q _ Fz H (.val al (by simp only[aq];exact⟨a,xs,rfl,h1,h2⟩))⟩⟩
theorem Gf:∀ {ss:Tn}{xs:List V},aj K Fz H (ss.map PV.str) xs->xs=ss.map V.str
 | [],xs,h=>by rw[YE]at h;simp only[aj]at h;exact h
 | s::r,xs,h=>by
  rw[Xq]at h;simp only[aj]at h;obtain⟨v,t,z,h1,h2⟩:=h;simp only[aq]at h1;subst z h1;rw[Xq,Gf h2]
theorem Bo:∀(ss:Tn),aj K Fz H (ss.map PV.str) (ss.map V.str)
 | []=>aj.nil
 | s::r=>by rw[Xq,Xq];exact aj.cons (by simp only[aq]) (Bo r)
def zbu:PF:=λds Q=>∃ss:Tn,ds=[.lst (ss.map PV.str)]/\ss.length<64/\∀zs,zs.Perm ss->sortedS zs=true->Q (.lst (zs.map PV.str)) .new
theorem zrA:mV X.K (λxs H Q=>∃(p:Addr)(ss:Tn),xs=[.ref p]/\bI X.K H p (ss.map V.str)/\ss.length<64/\∀l zs,H l=none->zs.Perm ss->sortedS zs=true->Q (.ref l) (upd H l (.lst (zs.map V.str)))) zbu where
 mono ds Q Q' m h:=by obtain⟨ss,e1,e2,q⟩:=h;exact⟨ss,e1,e2,λzs h1 h2=>m _ _ (q zs h1 h2)⟩
 run Fz H ds vs Q al r h:=by
  obtain⟨ss,rfl,e2,q⟩:=h;obtain⟨v,rfl,rv⟩:=qD r;obtain⟨a,xs,rfl,h1,h2⟩:=fG rv;have:=Gf h2;subst this;exact⟨a,ss,rfl,h1,e2,λl zs hl hz hs=>q zs hz hs _ Fz _ (.newL al hl (Bo zs))⟩
section
variable {X:Cx}{e:Expr}{es:List Expr}{te:aL}{t:cV}{p p1 p2 pos pos2:Pos}
theorem gb (hg:Gl X "len") (hm:X.mg "len" = none) (ha:eO X (e::es) t) (he:cQ X e es:=by rfl) (hpl:cO X pos es:=by rfl):aG X (.Call (.Name "len" p) (e::es) [] pos) (tB fLen t):=
 ul zoU zwz hg hm Gb ha (by decide) (by decide) he hpl
theorem LC (hg:Gl X "list") (hm:X.mg "list" = none) (ha:eO X (e::es) t) (he:cQ X e es:=by rfl) (hpl:cO X pos es:=by rfl):aG X (.Call (.Name "list" p) (e::es) [] pos) (tB zcM t):=
 Fv zjr zuf hg hm Lx ha (by decide) (by decide) he hpl
theorem yN (hg:Gl X "tuple") (hm:X.mg "tuple" = none) (ha:eO X (e::es) t) (he:cQ X e es:=by rfl) (hpl:cO X pos es:=by rfl):aG X (.Call (.Name "tuple" p) (e::es) [] pos) (tB zbt t):=
 Fv zii zrz hg hm Ly ha (by decide) (by decide) he hpl
theorem zrB (hg:Gl X "sorted") (hm:X.mg "sorted" = none) (ha:eO X (e::es) t) (he:cQ X e es:=by rfl) (hpl:cO X pos es:=by rfl):aG X (.Call (.Name "sorted" p) (e::es) [] pos) (tB zbu t):=
 ul zno zrA hg hm Lz ha (by decide) (by decide) he hpl
def zaB (te:aL):aL:=λU Q=>te U λd _=>∃ss:Tn,d=.lst (ss.map PV.str)/\ss.length<64/\∀zs,zs.Nodup->(∀x,x∈zs↔x∈ss)->sortedS zs=true->Q (.lst (zs.map PV.str)) .new
theorem LK:∀(ys xs:Tn),xs.Nodup->(ys.foldl JS.bZ xs).Nodup
 | [],_,h=>h
 | y::ys,xs,h=>by
  rw[Q6];refine LK ys _ ?_;unfold JS.bZ;split
  .exact h
  .rename_i hy
   exact XO.mpr ⟨hy,h⟩
theorem znq (hc:X.calm=true)(hg:Gl X "sorted") (hm:X.mg "sorted" = none) (hg2:Gl X "set") (hm2:X.mg "set" = none) (he:aG X e te)
  (hs1:cQ X e []:=by rfl) (gA:cO X pos2 []:=by rfl)
  (hs2:Wo [Expr.Call (.Name "set" p2) [e] [] pos2] X.env=(false,Ww (Expr.Call (.Name "set" p2) [e] [] pos2) X.env)::Wo [] X.env:=by rfl) (oV:cO X pos []:=by rfl) :
  aG X (.Call (.Name "sorted" p) [.Call (.Name "set" p2) [e] [] pos2] [] pos) (zaB te) where
 mono U Q Q' m h:=he.mono U _ _ (λd k ⟨ss,e1,e2,q⟩=>⟨ss,e1,e2,λzs h1 h2 h3=>m _ _ (q zs h1 h2 h3)⟩) h
 run:=PE.weak (JD (zjB hc) hg hm Lz (t7 (JF (zoG hc) hg2 hm2 FW (t7 he.run rZ hs1) (by decide) (by decide) hs1 gA) rZ hs2) (by decide) (by decide) hs2 oV) λY H Q h=>by
  obtain⟨U,Fz,R,h⟩:=h;refine⟨U,Fz,R,he.mono U _ _ (λd k q v F1 H1 p1=>?_) h⟩;obtain⟨ss,rfl,e2,q⟩:=q;obtain⟨a,xs,rfl,h1,h2⟩:=fG (p1.root R);have:=Gf h2;subst this;refine⟨a,ss,rfl,h1,by unfold WW;lia,λst hst=>?_⟩;have q1:=JS.Ez ss [];simp only[QR,Nat.zero_add]at q1;refine⟨st,_,rfl,cg,by lia,λl zs hl hz hs=>?_⟩;have hne:l≠st:=λz=>by subst z;rw[cg]at hl;cases hl
  have hl':H1 l=none:=by rw[aY hne]at hl;exact hl
  have x2:Ext F1 H1 F1 (upd H1 st (lH X.prog X.w st (ss.foldl JS.bZ []))):=Ext.laid ⟨Same.refl _,λ_ h=>h,λ_ h=>.inl h,p1.ext.al⟩ hst;have p3:Post X.K [] [] F1 (upd H1 st (lH X.prog X.w st (ss.foldl JS.bZ []))) F1 (upd (upd H1 st (lH X.prog X.w st (ss.foldl JS.bZ []))) l (.lst (zs.map V.str))) (.lst (zs.map PV.str)) .new (.ref l):=Post.newL x2.al hl (Bo zs);refine q zs (hz.nodup_iff.mpr (LK ss [] QG)) (λx=>?_) hs _ F1 _ (p3.behind (p1.ext.trans x2));rw[hz.mem_iff,JS.Kv];simp
end
def tyP:PV->String
 | .non=>"NoneType"
 | .bl _=>"bool"
 | .int _=>"int"
 | .str _=>"str"
 | .ty _=>"type"
 | .tup _=>"tuple"
 | .lst _=>"list"
 | .dK _ _=>"dict"
 | .dT _ _=>"dict"
 | .dP _=>"dict"
 | .obj _ _ _=>"object"
def isObj:PV->Bool
 | .dP _=>true
 | .obj _ _ _=>true
 | _=>false
def NoT (d:PV):Prop:=(∀n,d≠.ty n)/\isObj d=false
theorem LQ {pins:Tg}{s:Wc}{x:V}{u:Wb}(I:Inv X pins Y H s)(r:aD X.K Fz H d x)(rx:RelV x u)(hd:NoT d):∃P:Heap->Prop,PySem.W.KitX X.K u (.type (tyP d)) P/\P s.heap/\u≠.builtin "__main__.__loader__#opaque":=by
 cases d with
 | non=>cases qx r;cases (show u=Value.none from rx);exact⟨_,PySem.W.kitx_none,QX,λz=>nomatch z⟩
 | bl y=>cases yF r;cases (show u=Value.bool y from rx);exact⟨_,PySem.W.kitx_bool,QX,λz=>nomatch z⟩
 | int i=>cases ju r;obtain⟨t,q⟩:=(show ∃t,u=Ov i t from rx);cases q;exact⟨_,PySem.W.kitx_int,QX,λz=>nomatch z⟩
 | str y=>cases nO r;obtain⟨t,q⟩:=(show ∃t,u=Value.str y t from rx);cases q;exact⟨_,PySem.W.kitx_str,QX,λz=>nomatch z⟩
 | ty n=>exact Qg rfl (hd.1 n)
 | dP ks=>exact Qg hd.2 (by simp[isObj])
 | obj C ks ds=>exact Qg hd.2 (by simp[isObj])
 | lst ds=>
  obtain⟨a,xs,rfl,h1,_⟩:=fG r;cases (show u=Qm a from rx);obtain⟨its,_,⟨o,n,e,c,_⟩,_⟩:=I.list h1;exact⟨_,PySem.W.kitx_list,⟨o,e,c⟩,λz=>nomatch z⟩
 | tup ds=>
  obtain⟨a,xs,rfl,h1,_⟩:=lq r;cases (show u=Qm a from rx);obtain⟨its,_,⟨o,e,c,_⟩,_⟩:=I.tuple h1;exact⟨_,PySem.W.kitx_tuple,⟨o,e,c⟩,λz=>nomatch z⟩
 | dK ks ds=>
  simp only[aD]at r;obtain⟨a,xs,rfl,h1,_⟩:=r;cases (show u=Qm a from rx);obtain⟨_,_,vs,_,o,es,ep,e,ex,_⟩:=su I.hok h1;exact⟨_,PySem.W.kitx_dict,⟨o,e,ex.1⟩,λz=>nomatch z⟩
 | dT ks ds=>
  simp only[aD]at r;obtain⟨a,xs,rfl,h1,_⟩:=r;cases (show u=Qm a from rx);obtain⟨_,_,vs,_,o,es,ep,e,ex,_⟩:=vh I.hok h1;exact⟨_,PySem.W.kitx_dict,⟨o,e,ex.1⟩,λz=>nomatch z⟩
def fIsi (K:Xa):PF:=λds Q=>(∃d c,ds=[d,.ty c]/\NoT d/\∃b,PB K (.type (tyP d)) (.type c)=some b/\Q (.bl b) .aF)\/
 ∃d es,ds=[d,.tup es]/\NoT d/\∃(cs:List String) (b:Bool),es=cs.map PV.ty/\PySem.W.kitAny K (.type (tyP d)) (cs.map Qw)=some b/\Q (.bl b) .aF
def LR (K:Xa):List V->Hp->VK->Prop:=λxs H Q=>∃Fz d x b,aD K Fz H d x/\NoT d/\((∃c,xs=[x,.ty c]/\PB K (.type (tyP d)) (.type c)=some b)\/∃(p:Addr)(cs:List String),xs=[x,.ref p]/\bN K H p (cs.map V.ty)/\PySem.W.kitAny K (.type (tyP d)) (cs.map Qw)=some b)/\Q (.bl b) H
theorem zoW:jW X (.builtin "isinstance") (LR X.K):=by
 intro pins s Y H xs us Q I r h;obtain⟨Fz,d,x,b,rt,hd,e,q⟩:=h;rcases e with ⟨c,rfl,e⟩ | ⟨p,cs,rfl,hp,e⟩
 .obtain⟨u,w',rfl,r1,r2⟩:=vals2 r;cases r2;obtain⟨P,Z,hP,ne⟩:=LQ I rt r1 hd;exact PySem.W.kia_one Z I.jh hP e ne λtk=>⟨.bl b,H,I.tok tk,rfl,q⟩
 .obtain⟨u,w',rfl,r1,r2⟩:=vals2 r;cases r2;obtain⟨P,Z,hP,ne⟩:=LQ I rt r1 hd;obtain⟨its,rv,⟨⟨cls,dd,data,sl⟩,ho,hc,n,hdt⟩,hzz⟩:=I.tuple hp;simp only at hc hdt;subst hc hdt;have ei:its=cs.map Qw:=by
   clear hp ho e hzz;induction cs generalizing its with
   | nil=>cases rv;rfl
   | cons c cs ih=>
    cases rv with
    | cons q1 q2=>rw[show _=Qw c from q1,ih _ q2];rfl
  subst ei;exact PySem.W.kia_tup Z I.jh hP ho e ne λtk=>⟨.bl b,H,I.tok tk,rfl,q⟩
theorem Ma:∀ {ss:List String}{xs:List V},aj K Fz H (ss.map PV.ty) xs->xs=ss.map V.ty
 | [],xs,h=>by rw[YE]at h;simp only[aj]at h;exact h
 | s::r,xs,h=>by
  rw[Xq]at h;simp only[aj]at h;obtain⟨v,t,z,h1,h2⟩:=h;simp only[aq]at h1;subst z h1;rw[Xq,Ma h2]
theorem zwB:mV K (LR K) (fIsi K) where
 mono ds Q Q' m h:=by
  rcases h with ⟨d,c,e,hd,b,e2,q⟩ | ⟨d,es,e,hd,cs,b,e2,e3,q⟩
  .exact .inl ⟨d,c,e,hd,b,e2,m _ _ q⟩
  .exact .inr ⟨d,es,e,hd,cs,b,e2,e3,m _ _ q⟩
 run Fz H ds vs Q al r h:=by
  rcases h with ⟨d,c,rfl,hd,b,e,q⟩ | ⟨d,es,rfl,hd,cs,b,rfl,e,q⟩
  .have q':=q (.bl b) Fz H (.val al (by simp only[aq]));obtain⟨v,u,rfl,r1,r2⟩:=Bm r;simp only[aD,aq]at r2;subst r2;exact⟨Fz,d,v,b,r1,hd,.inl ⟨c,rfl,e⟩,q'⟩
  .have q':=q (.bl b) Fz H (.val al (by simp only[aq]));obtain⟨v,u,rfl,r1,r2⟩:=Bm r;obtain⟨a,xs,rfl,h1,h2⟩:=lq r2;have:=Ma h2;subst this;exact⟨Fz,d,v,b,r1,hd,.inr ⟨a,cs,rfl,h1,e⟩,q'⟩
section
variable {X:Cx}{e:Expr}{es:List Expr}{te:aL}{t:cV}{p p1 p2 pos pos2:Pos}
theorem Gg (hK:X.K=K)(hg:Gl X "isinstance") (hm:X.mg "isinstance" = none) (ha:eO X (e::es) t) (he:cQ X e es:=by rfl) (hpl:cO X pos es:=by rfl):aG X (.Call (.Name "isinstance" p) (e::es) [] pos) (tB (fIsi K) t):=by
 subst hK;exact ul zoW zwB hg hm Ge ha (by decide) (by decide) he hpl
end
abbrev qF:=aC->(Option Int->Prop)->Prop
def zxX (K:Xa)(t:qF):TO:=λY H Q=>∃U Fz,Rel K Fz U Y H/\t U λo=>∀ao H',Ext Fz H ao H'->Q o H'
structure vJ (X:Cx)(e:Option Expr)(t:qF):Prop where
 mono:∀U Q Q',(∀o,Q o->Q' o)->t U Q->t U Q'
 run:PO X e (zxX X.K t)
theorem PO.weak {e:Option Expr}{t t':TO}(h:PO X e t)(w:∀Y H Q,t' Y H Q->t Y H Q):PO X e t':=λpins s Y H Q I q=>h pins s Y H Q I (w Y H Q q)
def zcD:qF:=λ_ Q=>Q none
def zcE (te:aL):qF:=λU Q=>te U λd _=>∃i,d=.int i/\Q (some i)
theorem yO:vJ X none zcD where
 mono U Q Q' m h:=m _ h
 run:=PO.weak ztG λY H Q h=>by
  obtain⟨U,Fz,R,h⟩:=h;exact h Fz H ⟨Same.refl H,λ_ h=>h,λ_ h=>.inl h,R.al⟩
theorem qG (h:aG X e te):vJ X (some e) (zcE te) where
 mono U Q Q' m q:=h.mono U _ _ (λd k ⟨i,e,q⟩=>⟨i,e,m _ q⟩) q
 run:=PO.weak (ztH h.run) λY H Q q=>by
  obtain⟨U,Fz,R,q⟩:=q;exact⟨U,Fz,R,h.mono U _ _ (λd k ⟨i,e,q⟩ v F1 H1 p1=>⟨i,by subst e;exact ju (p1.root R),q F1 H1 p1.ext⟩) q⟩
def eV (xs:List PV)(lo hi:Option Int):List PV:=(xs.drop (HT.ig xs.length 0 lo)).take (HT.ig xs.length xs.length hi-HT.ig xs.length 0 lo)
def pSlL (te:aL)(tl th:qF):aL:=λU Q=>te U λd _=>tl U λl=>th U λu=>∃ds,d=.lst ds/\Q (.lst (eV ds l u)) .new
theorem zug {lo hi:Option Int}(h:aj K Fz H ds xs):aj K Fz H (eV ds lo hi) (mR xs lo hi):=by
 unfold eV mR;rw[h.length];exact(h.drop _).take _
section
variable {X:Cx}{e a b:Expr}{te ta tb:aL}{lo hi:Option Expr}{tl th:qF}{pos p2:Pos}
theorem vK (he:aG X e te)(hl:vJ X lo tl)(hu:vJ X hi th):aG X (.Subscript e (.Slice lo hi none p2) pos) (pSlL te tl th) where
 mono U Q Q' m h:=he.mono U _ _ (λd k h=>hl.mono U _ _ (λl h=>hu.mono U _ _ (λu ⟨ds,e,q⟩=>⟨ds,e,m _ _ q⟩) h) h) h
 run:=PE.weak (JH ztK he.run hl.run hu.run) λY H Q h=>by
  obtain⟨U,Fz,R,h⟩:=h;refine⟨U,Fz,R,he.mono U _ _ (λd k q v F1 H1 p1=>?_) h⟩;refine⟨U,F1,R.ext p1.ext,hl.mono U _ _ (λl q F2 H2 x2=>?_) q⟩;refine⟨U,F2,(R.ext p1.ext).ext x2,hu.mono U _ _ (λu q3 F3 H3 x3=>?_) q⟩;obtain⟨ds,e3,q4⟩:=q3;subst e3;obtain⟨a,xs,rfl,h1,h2⟩:=fG (((p1.root R).mono x2.same x2.sub).mono x3.same x3.sub);exact⟨a,xs,rfl,h1,λp hp=>q4 _ F3 _ ((Post.newL x3.al hp (zug h2)).behind (p1.ext.trans (x2.trans x3)))⟩
def pRev (te:aL):aL:=λU Q=>te U λd _=>∃ds,d=.lst ds/\Q (.lst ds.reverse) .new
theorem Gh {q1 q2 q3:Pos}(he:aG X e te):aG X (.Subscript e (.Slice none none (some (.UnaryOp .USub (.Constant (.int 1) j q1) q2)) q3) pos) (pRev te) where
 mono U Q Q' m h:=he.mono U _ _ (λd k ⟨ds,e,q⟩=>⟨ds,e,m _ _ q⟩) h
 run:=PE.weak (zwk he.run) λY H Q h=>by
  obtain⟨U,Fz,R,h⟩:=h;refine⟨U,Fz,R,he.mono U _ _ (λd k q v F1 H1 p1=>?_) h⟩;obtain⟨ds,rfl,q⟩:=q;obtain⟨a,xs,rfl,h1,h2⟩:=fG (p1.root R);exact⟨a,xs,rfl,h1,λp hp=>q _ F1 _ ((Post.newL p1.ext.al hp h2.reverse).behind p1.ext)⟩
def Mf (K:Xa):R2:=λx y H Q=>∃l b xs zs,x=.ref l/\y=.ref b/\(Rd H l (.lst xs)\/KX K l xs)/\(Rd H b (.lst zs)\/KX K b zs)/\xs.length+zs.length<=Wf/\∀p,H p=none->Q (.ref p) (upd H p (.lst (xs++zs)))
theorem Mg {pins:Tg}{s:Wc}(I:Inv X pins Y H s)(h:Rd H l (.lst xs)\/KX X.K l xs):∃(its:Tq)(n:Nat),Vals xs its/\s.heap.get? l=some { cls:=.type "list",data:=.seq its.toArray n }:=by
 rcases h with h | ⟨its,n,h1,_,h3⟩
 .obtain⟨z,its,n,r,e⟩:=(show eE X.prog X.w H s.heap l (.lst xs) from h.ok I.hok);exact⟨its,n,r,e⟩
 .exact⟨its.toList,n,h3,by rw[Array.toArray_toList];exact I.jh l _ h1⟩
theorem zuh:fZ X (WS .Add) (Mf X.K):=by
 intro pins s Y H x y v u Q I rx ry h;obtain⟨l,b,xs,zs,rfl,rfl,hH,hB,hz,q⟩:=h;cases rx;cases ry;obtain⟨its,n,r,e⟩:=Mg I hH;obtain⟨its2,n2,r2,e2⟩:=Mg I hB;have l1:=r.length;have l2:=r2.length;refine PySem.P.add_list e e2 ?_ (by rw[Xo,Xo];lia);have ea:its.toArray++its2.toArray=(its++its2).toArray:=by simp
 rw[ea];exact⟨.ref _,_,I.yj (t':=s.toks) (r.append r2) (by rw[Xr];lia),rfl,q _ I.fresh⟩
def pCat:P2:=λd e Q=>∃ds es,d=.lst ds/\e=.lst es/\ds.length+es.length<=Wf/\Q (.lst (ds++es)) .new
theorem zwE:jF K (Mf K) pCat where
 mono d e Q Q' m h:=by obtain⟨ds,es,e1,e2,e3,q⟩:=h;exact⟨ds,es,e1,e2,e3,m _ _ q⟩
 run Fz H x y d e Q al rx ry h:=by
  obtain⟨ds,es,rfl,rfl,e3,q⟩:=h;obtain⟨a,xs,rfl,h1,h2⟩:=KJ rx;obtain⟨b,ys,rfl,g1,g2⟩:=KJ ry;have l1:=h2.length;have l2:=g2.length;exact⟨a,b,xs,ys,rfl,rfl,h1,g1,by lia,λp hp=>q _ Fz _ (.newL al hp (h2.append g2))⟩
theorem vL (ha:aG X a ta)(hb:aG X b tb):aG X (.BinOp a .Add b pos) (t2 pCat ta tb):=qu zuh zwE ha hb
end
theorem Mh {f:Str}:∀ {ks:Tn}{ds:List PV}{xs:List V},aj K Fz H ds xs->(ks.zip ds).lookup f=some d->∃v,(ks.zip xs).lookup f=some v/\aq K Fz H d v
 | [],ds,xs,h,e=>by simp at e
 | k::ks,[],xs,h,e=>by simp at e
 | k::ks,d0::ds,xs,h,e=>by
  simp only[aj]at h;obtain⟨v0,r,z,h1,h2⟩:=h;subst z;rw[XS,XT]at e ⊢;cases hk:(f == k)with
  | true=>rw[hk]at e;cases e;exact⟨v0,rfl,h1⟩
  | false=>rw[hk]at e;exact Mh h2 e
theorem vM {M J:Type}{f:Str}:∀ {ks:Tn}{xs:List M},f∉ks->(ks.zip xs).lookup f=none
 | [],xs,h=>by simp
 | k::ks,[],h=>by simp
 | k::ks,x::xs,h=>by
  rw[XS,XT];have h1:(f == k)=false:=by rw[beq_eq_false_iff_ne];exact λe=>h (e▸Xh ..)
  rw[h1];exact vM (M:=M) (J:=J) λz=>h (Xf _ z)
theorem yP {C:Addr}{ks:Tn}{v:V}(h:aq K Fz H (.obj C ks ds) v):∃a dx xs,v=.ref a/\Fz a/\H a=some (.ins C dx (ks.zip xs))/\ks.length=xs.length/\aj K Fz H ds xs:=by
 simpa only[aq]using h
section
variable {X:Cx}{o e:Expr}{es:List Expr}{te to:aL}{t:cV}{C:Addr}{f m:Str}{pos apos:Pos}
def pFld (C:Addr)(f:Str)(te:aL):aL:=λU Q=>te U λd _=>∃ks ds v,d=.obj C ks ds/\(ks.zip ds).lookup f=some v/\Q v .aF
theorem lN (c:kZ X.K C)(n:lZ X.K C f)(he:aG X e te)(hb:Wu e f X.env (Ww e X.env)=Ww e X.env:=by rfl):aG X (.Attribute e f pos) (pFld C f te) where
 mono U Q Q' mm h:=he.mono U _ _ (λd k ⟨ks,ds,v,e1,e2,q⟩=>⟨ks,ds,v,e1,e2,mm _ _ q⟩) h
 run:=PE.weak (Jp he.run hb) λY H Q h=>by
  obtain⟨U,Fz,R,h⟩:=h;refine⟨U,Fz,R,he.mono U _ _ (λd k q v F1 H1 p1=>?_) h⟩;obtain⟨ks,ds,w,rfl,l,q⟩:=q;obtain⟨a,dx,xs,rfl,_,h1,h2,h3⟩:=yP (p1.root R);obtain⟨u,l',dn⟩:=Mh h3 l;exact⟨a,C,dx,_,u,rfl,h1,c,n,l',q u F1 H1 ⟨p1.ext,dn⟩⟩
def zby (C:Addr)(m:Str)(F:PF)(to:aL)(t:cV):aL:=λU Q=>to U λd _=>∃ks ds,d=.obj C ks ds/\m∉ks/\t U λops=>F (d::ops.map (·.1)) λd' k=>(noOwn ops=true\/zbf d' k=true)/\Q d' k
theorem pW {pl:Sem Bool}{k:Nat}{fa:Addr}{fd:Wk}{ps:Tn}{F:PF}(c:kZ X.K C)(hm:Meth X.K C m fa)(G:aA X.prog X.w X.K X.mg X.base aN k fa fd ps (aX X.K F))(mf:cW F)(hr:bx k X.A)(hb:Binds X.K fd ps [])(ho:aG X o to)(ha:eO X (e::es) t)
  (hst:cQ X e es:=by rfl) (hpl:cO X pos es:=by rfl)
  (ht:Ww (.Call (.Attribute o m apos) (e::es) [] pos) X.env=(do
   let ov <- Ww o X.env
   standAt apos.atName
   let (f,first) <- WN [ov] (Vb ov m pl)
   callWith pos f first (WK pos (Wo (e::es) X.env)) (WT pos (WE [] X.env))):=by rfl) :
  aG X (.Call (.Attribute o m apos) (e::es) [] pos) (zby C m F to t) where
 mono U Q Q' mm h:=ho.mono U _ _ (λd k ⟨ks,ds,e1,e2,h⟩=>⟨ks,ds,e1,e2,ha.mono U _ _ (λops h=>mf _ _ _ (λd k q=>⟨q.1,mm _ _ q.2⟩) h) h⟩) h
 run:=PE.weak (xX (pl:=pl) ho.run c hm G hr hb .nil vm ha.run hst hpl ht) λY H Q h=>by
  obtain⟨U,Fz,R,h⟩:=h;refine⟨U,Fz,R,ho.mono U _ _ (λd kd q v F1 H1 p1=>?_) h⟩;obtain⟨ks,ds,rfl,hn,q⟩:=q;obtain⟨a,dx,xs,rfl,hf,h1,h2,h3⟩:=yP (p1.root R);have iZ:aq X.K F1 H1 (.obj C ks ds) (.ref a):=p1.root R;refine⟨a,dx,_,rfl,h1,vM (M:=V) (J:=V) hn,U,F1,R.ext p1.ext,ha.mono U _ _ (λops h vs F2 H2 x o=>?_) q⟩;show aX X.K F (.ref a::(vs++[])) H2 Q E0;rw[XG];by_cases hno:noOwn ops=true
  .obtain⟨F3,x3,s3,h3'⟩:=o.frozen x hno;refine⟨F3,.obj C ks ds::ops.map (·.1),x3.al,aj.cons (aq.mono (.of x3.same) (λb hb=>x3.sub b hb) _ _ iZ) h3',mf _ _ _ (λd k q v F4 H4 p4=>?_) h⟩;exact q.2 v F4 H4 (p4.behind (p1.ext.trans x3))
  .obtain⟨F3,s3,a3,h3'⟩:=o.all (R.ext p1.ext) x;refine⟨F3,.obj C ks ds::ops.map (·.1),a3,aj.cons (aq.mono (.of x.same) (λb hb=>s3 b (x.sub b hb)) _ _ iZ) h3',mf _ _ _ (λd k q v F4 H4 p4=>?_) h⟩;have nm:zbf d k=true:=q.1.resolve_left hno;have al:∀b,F2 b->H4 b≠none:=λb hb z=>x.al b hb (p4.ext.same.free z);refine q.2 v F2 H4 ⟨⟨p1.ext.same.trans (x.same.trans p4.ext.same),λb hb=>x.sub b (p1.ext.sub b hb),λb hb=>?_,al⟩,?_⟩
   .rcases x.new b hb with z | z
    .exact p1.ext.new b z
    .exact .inr (p1.ext.same.free z)
   .exact((K5 nm x.al p4.dZ).up).back (p1.ext.same.trans x.same)
end
structure Fx (K:Xa)(mg:Tj)(x:Str)(st:Wn)(ps:Tn)(f:Addr)(fd:Wk):Prop where
 fn:cj K x x st f fd
 bd:Binds K fd ps []
 mg:mg x=some (.ref f)
structure Bl (mg:Tj):Prop where
 range:mg "range" = none
 len:mg "len" = none
 list:mg "list" = none
 tuple:mg "tuple" = none
 sorted:mg "sorted" = none
 set:mg "set" = none
 isi:mg "isinstance" = none
 str:mg "str" = none
 int:mg "int" = none
 bool:mg "bool" = none
 dict:mg "dict" = none
 enumerate:mg "enumerate" = none
 zip:mg "zip" = none
 min:mg "min" = none
 max:mg "max" = none
 sum:mg "sum" = none
 all:mg "all" = none
 any:mg "any" = none
 reversed:mg "reversed" = none
 abs:mg "abs" = none
 ord:mg "ord" = none
theorem zoZ {T c:String}{b:Bool}(h1:PySem.W.kitMeta c=true)(h2:(fastBuiltinMro T).map (·.contains (.type c))=some b)(h3:(Qw T == Qw c)=false):PB K (.type T) (.type c)=some b:=by
 unfold PB PySem.W.kitCls;rw[Qe (by rw[h3];decide)];dsimp only;rw[Qf h1];exact h2
theorem Mi {T:String}:PB K (.type T) (.type T)=some true:=by
 unfold PB;rw[Qf (by simp)]
theorem zjM:PB K (.type "int") (.type "bool")=some false:=zoZ (by decide +kernel) (by decide +kernel) (by decide +kernel)
theorem qH (h:i<k)(h2:j<k):Lb k (zbr (zbh i) (zbr (zbh j) zcK)):=λds U Q ⟨d,r,e,d2,r2,e2,q⟩=>
 ⟨d,r,e,d2,r2,e2,q.1,q.2,by rw[Yf,Yf],λl hl=>by rw[Xk (by lia),Xk (by lia)]⟩
theorem zpa {P:Wg}{w:Wj}{K:Xa}{mg mb:Tj}{CX:n8}{k:Nat}{fa a:Addr}{fd:Wk}{x:Str}{sp:Sp}{s₁:Wc}{vs:Tq}{ns:Tp}
  (KX:K.In s₁.heap) (hns:s₁.heap.Ns Wq mg) (hb:s₁.heap.Ns builtinsNs mb) (hbb:∀x:Str,x≠"__name__"->mb x=Wm x) (hlim:s₁.heap.NoLimit) (hg:s₁.gens = #[])
  (ha:s₁.heap.get? a=some { cls:=.type "list",data:=.seq vs.toArray }) (hi:W1 vs ns) (hl:ns.length<=Wf) (hr:bx k callerA)
  (F:∀base:Heap,K.In base->base.Ns Wq mg->aA P w K mg base CX k fa fd [x] sp) (hbind:∀(s:Wc) (u:Wb),BindsTo s fd ⟨[u],[]⟩ [(x,u)])
  (hsp:∀H:Hp,Only H->(Rd H a (.lst (ns.map V.int))\/PL.KX K a (ns.map V.int))->sp [.ref a] H (λv _=>v=.bl true) λ_ _ _=>False)
  (hCX:∀H e s',CX [] H s₁ (λ_ _ _=>False) e s'->False) :
  W4 (Wh P w) callerA (.call (.ref fa) ⟨[.ref a],[]⟩) (λr s'=>r=.ok (.ret (.bool true))/\OldK s₁.heap s'.heap/\s'.os=s₁.os/\AllBare s'.gens) s₁:=by
 have rv:=J2 hi;have lenV:=hi.length;have core:∀H:Hp,Only H->(Rd H a (.lst (ns.map V.int))\/PL.KX K a (ns.map V.int))->cY P w H s₁.heap->(∀b,H b≠none->b=a)->(H a≠none->K.lookup a=none)->
   W4 (Wh P w) callerA (.call (.ref fa) ⟨[.ref a],[]⟩) (λr s'=>r=.ok (.ret (.bool true))/\OldK s₁.heap s'.heap/\s'.os=s₁.os/\AllBare s'.gens) s₁:=by
  intro H hO hS hok hA hK;have mG:∀ {b:Addr} {o:Obj},s₁.heap.get? b=some o->H b=none->(jq s₁.heap H).get? b=some o:=λe n=>Vw e n;have noA:∀ {b:Addr} {o:Obj} {es:Array DictEntry} {ep:Nat},s₁.heap.get? b=some o->o.data=.dict es ep->H b=none:=λ{b o es ep} e d=>by
   cases q:H b with
   | none=>rfl
   | some u=>
    have e':b=a:=hA b (by rw[q];simp);subst e';rw[ha]at e;cases e;have d':Data.seq vs.toArray _=Data.dict es ep:=d;cases d'
  have nsK:∀ {b:Addr} {m:Tj},s₁.heap.Ns b m->(jq s₁.heap H).Ns b m:=λ{b m} ⟨o,es,ep,e,d,r⟩=>⟨o,es,ep,mG e (noA e d),d,r⟩;have hKb:K.In (jq s₁.heap H):=λb o e=>mG (KX b o e) (by
   cases q:H b with
   | none=>rfl
   | some u=>
    have e':b=a:=hA b (by rw[q];simp);subst e';rw[hK (by rw[q];simp)]at e;cases e)
  have hM:Mod K mg (jq s₁.heap H):=⟨hKb,nsK hns,⟨mb,nsK hb,hbb⟩,let ⟨mc,h1,h2⟩:=hlim;⟨mc,nsK h1,h2⟩⟩;have e0:lG P w K mg (jq s₁.heap H) callerA [] s₁ H:=⟨rfl,hM,λb o e=>Vx e,Nat.le_of_eq (Vv _ _),trivial,λb hb=>Qg (show b∈([]:Tr) from hb) (by simp),hok,.of_eq hg⟩;refine WO ((F _ hKb (nsK hns)).run callerA [] s₁ H ⟨[.ref a],[]⟩ [.ref a] [.ref a] _ _ hr e0 (hbind s₁ (.ref a)) (.cons rfl .nil) (hsp H hO hS)) λr s' h=>?_;cases r with
  | error e=>exact(hCX H e s' h).elim
  | ok fl=>
   cases fl with
   | next=>exact Qz h
   | brk=>exact Qz h
   | cont=>exact Qz h
   | ret u=>
    obtain⟨v,H',os,bare,un,hok',r',q⟩:=h;have q':v=.bl true:=q;subst q';obtain rfl:u=Value.bool true:=r';refine⟨rfl,OldK.of_keep λb o e=>?_,os,bare⟩;cases q:H b with
    | none=>exact un.keep b o e q (by intro z;exact Qg (show b∈([]:Tr) from z) (by simp)) (by simp)
    | some u=>
     rcases hO b with z | ⟨ob,xs,z⟩
     .rw[q]at z;cases z
     .have z2:=un.eF b ob _ z;obtain⟨e1,_⟩:=hok b _ z;obtain⟨e2,_⟩:=hok' b _ z2;rw[e]at e1;cases e1;exact e2
 cases hk:K.lookup a with
 | some o=>
  have e:=KX a o hk;rw[ha]at e;cases e;refine core (λ_=>none) (λ_=>.inl rfl) (.inr ⟨vs.toArray,_,hk,by rw[Xo,lenV];exact hl,by simpa using rv⟩) (λb u z=>by have z':(none:Option HO)=some u:=z;cases z') (λb z=>Qg rfl z) λz=>Qg rfl z
 | none=>
  refine core (λb=>if b=a then some (.aF { cls:=.type "list",data:=.seq vs.toArray } (.lst (ns.map V.int))) else none) (λb=>?_) (.inl (.inr ⟨{ cls:=.type "list",data:=.seq vs.toArray },Qf rfl⟩)) (λb u z=>?_) (λb z=>?_) λ_=>hk
  .by_cases hb:b=a
   .exact .inr ⟨_,_,Qf hb⟩
   .exact .inl (Qe hb)
  .by_cases hb:b=a
   .have z':=(Qf hb).symm.trans z;cases z';subst hb;exact⟨ha,by rw[Xb];exact hl,vs,_,rv,ha⟩
   .have z':=(Qe hb).symm.trans z;cases z'
  .by_cases hb:b=a
   .exact hb
   .exact Qg (Qe hb) z
theorem Mj:∀(ns:Tp),aj K Fz H (ns.map PV.int) (ns.map V.int)
 | []=>aj.nil
 | n::r=>by rw[Xq,Xq];exact aj.cons (by simp only[aq]) (Mj r)
theorem zwF {ns:Tp}{E:XK}(m:cW F)(h:Rd H a (.lst (ns.map V.int))\/KX K a (ns.map V.int))(hF:F [.lst (ns.map PV.int)] λd k=>d=.bl true):aX K F [.ref a] H (λv _=>v=.bl true) E:=by
 refine⟨λb=>H b≠none,[.lst (ns.map PV.int)],λb hb=>hb,aj.cons ?_ aj.nil,m _ _ _ (λd k e v F' H' p=>?_) hF⟩
 .simp only[aq];refine⟨a,ns.map V.int,rfl,?_,Mj ns⟩;rcases h with h | h
  .refine .inl ⟨?_,h⟩;rcases h with h | ⟨o,h⟩<;>(show H a≠none;rw[h];exact λz=>nomatch z)
  .exact .inr h
 .subst e;cases k with
  | aF=>have q:aq K F' H' (.bl true) v:=p.dZ;simpa only[aq]using q
  | new=>obtain⟨b,_,_,_,o⟩:=p.dZ;exact o.elim
  | own i=>obtain⟨z,_⟩:=p.dZ;simp at z
end PL
namespace L2
open PySem PySem.Spec PyProof.Rows
variable {kvs:List (Key×V)}{pins:Tg}{Y:St}{s:Wc}{d:Addr}
def nQ (d:Addr)(H:Hp):Hp:=match H d with
 | some (.aF _ u)=>upd H d u
 | _=>H
def Sw:HO->Prop
 | .dK _=>True
 | .dT _=>True
 | .aF _ _=>True
 | _=>False
section
variable {X:Cx}{pins:Tg}{Y:List (Option V)}{H:Hp}{s:Wc}{d:Addr}{u v:HO}
theorem cY.swap {P:Wg}{w:Wj}{h:Heap}(ok:cY P w H h)(e:H d=some u)(hu:Sw u)(new:eE P w (upd H d v) h d v):cY P w (upd H d v) h:=λb o q=>by
 by_cases hb:b=d
 .subst hb;rw[cg]at q;cases q;exact new
 .rw[aY hb]at q;refine(ok b o q).stay (λc v hc r=>r) (λc r=>?_) λc xs r=>?_
  .have ne:c≠d:=λz=>by subst z;rw[e]at r;cases r;exact hu
   rw[aY ne];exact r
  .have ne:c≠d:=λz=>by subst z;rw[e]at r;cases r;exact hu
   rw[aY ne];exact r
theorem Inv.swap (I:Inv X pins Y H s)(e:H d=some u)(hu:Sw u)(hf:∀o t,X.H₀ d≠some (.aF o t))(new:eE X.prog X.w (upd H d v) s.heap d v):Inv X pins Y (upd H d v) s:=by
 have ne:∀b,H b=none->b≠d:=λb n z=>by subst z;rw[e]at n;cases n
 refine⟨I.ok,I.os,I.bare,⟨I.base.keep,I.base.slot,λb o q n hx=>?_,I.base.there,λb xs q=>?_,λb o t q=>?_,λb ps q=>?_⟩,I.loc,I.cell,?_,λx c q=>?_,λp hp=>?_,I.hok.swap e hu new,I.len⟩
 .have:=I.base.free b o q n hx;rw[aY (ne b this)];exact this
 .have:=I.base.tups b xs q;have nb:b≠d:=λz=>by subst z;rw[e]at this;cases this;exact hu
  rw[aY nb];exact this
 .have nb:b≠d:=λz=>by subst z;exact hf o t q
  rw[aY nb];exact I.base.eF b o t q
 .obtain⟨more,q'⟩:=I.base.gn b ps q;have nb:b≠d:=λz=>by subst z;rw[e]at q';cases q';exact hu
  exact⟨more,by rw[aY nb];exact q'⟩
 .rw[aY (ne _ I.free)];exact I.free
 .rw[aY (ne _ (I.bY x c q))];exact I.bY x c q
 .obtain⟨p1,p2,p3⟩:=I.pin p hp;exact⟨p1,by rw[aY (ne _ p2)];exact p2,p3⟩
theorem Inv.Ml (I:Inv X pins Y H s)(e:H d=some u)(hu:∀o t,u≠.aF o t):∀o t,X.H₀ d≠some (.aF o t):=λo t q=>by
 have:=I.base.eF d o t q;rw[e]at this;exact hu o t (Qa this)
theorem Inv.zui (I:Inv X pins Y H s)(e:H d=some (.dK kvs)):∃o,s.heap.get? d=some o/\Inv X pins Y (upd H d (.aF o (.dK kvs))) s:=by
 obtain⟨z1,z2,vs,r,o,es,ep,ho,rest⟩:=(show eE X.prog X.w H s.heap d (.dK kvs) from I.hok d _ e);exact⟨o,ho,I.swap e trivial (I.Ml e λ_ _ z=>nomatch z) ⟨ho,z1,z2,vs,r,o,es,ep,ho,rest⟩⟩
theorem Inv.jb (I:Inv X pins Y H s)(hf:∀o t,X.H₀ d≠some (.aF o t)):Inv X pins Y (nQ d H) s:=by
 unfold nQ;split
 .rename_i o t e
  obtain⟨ho,ot⟩:=(show eE X.prog X.w H s.heap d (.aF o t) from I.hok d _ e);refine I.swap e trivial hf ?_;refine ot.stay (λc v hc r=>r) (λc r=>?_) λc xs r=>?_
  .have ne:c≠d:=λz=>by subst z;rw[e]at r;cases r
   rw[aY ne];exact r
  .have ne:c≠d:=λz=>by subst z;rw[e]at r;cases r
   rw[aY ne];exact r
 .exact I
end
section
variable {P:Wg}{w:Wj}{K:Xa}{tg:Expr}
theorem zwH {vs:List (Key×Wb)}{i:Nat}{kv:Key×V}(r:KV kvs vs)(h:kvs[i]? = some kv):∃u,vs[i]? = some (kv.1,u)/\RelV kv.2 u:=by
 induction r generalizing i with
 | nil=>simp at h
 | @cons p q ps qs h1 h2 ih=>
  cases i with
  | zero=>simp at h;subst h;exact⟨q.2,by simp[h1.1],h1.2⟩
  | succ i=>simpa using ih (by simpa using h)
theorem zuj {k:Key}{u:Wb}(h:(gK P w).is k u=true):RelV (kV k) u:=by
 have h':tV k u=true:=h;rcases pM h' with ⟨i,t,rfl,rfl⟩ | ⟨x,t,rfl,rfl⟩
 .exact⟨t,rfl⟩
 .exact⟨t,rfl⟩
theorem Mp {X:Cx}{H:Hp}{o:Obj}(I:Inv X pins Y H s)(e:H d=some (.aF o (.dK kvs))):s.heap.get? d=some o/\(d == Wz)=false/\∃vs ep,KV kvs vs/\s.heap.DictAt (gK X.prog X.w) d vs ep:=by
 obtain⟨ho,_,hs,vs,r,hd⟩:=(show eE X.prog X.w H s.heap d (.aF o (.dK kvs)) from I.hok d _ e);obtain⟨ep,hd⟩:=hd.dictAt;exact⟨ho,hs,vs,ep,r,hd⟩
theorem Gi {X:Cx}{H:Hp}{o:Obj}{es:Array DictEntry}{ep:Nat}(I:Inv X pins Y H s)(e:H d=some (.aF o (.dK kvs)))(hd:o.data=.dict es ep):(d == Wz)=false/\∃vs,KV kvs vs/\s.heap.DictAt (gK X.prog X.w) d vs ep:=by
 obtain⟨ho,hs,vs,ep',r,o',es',ho',c,hd',rest⟩:=Mp I e;rw[ho]at ho';cases ho';rw[hd]at hd';injection hd' with e1 e2;subst e1 e2;exact⟨hs,vs,r,o,es,ho,c,hd,rest⟩
end
section
variable {X:Cx}{tg l:Expr}{td:TE}{apos cpos:Pos}
def vN (X:Cx)(d:Addr):Prop:=∀o t,X.H₀ d≠some (.aF o t)
def iD (X:Cx)(It':Addr->Obj->List (Key×V)->It)(td:TE):TI:=λY H R=>td Y H λx H1=>∃d kvs,x=.ref d/\((H1 d=some (.dK kvs)/\(vN X d->∀o,R (It' d o kvs) (upd H1 d (.aF o (.dK kvs)))))\/∃o,H1 d=some (.aF o (.dK kvs))/\R (It' d o kvs) H1)
theorem zwI {It':Addr->Obj->List (Key×V)->It}{H1:Hp}{R:It->Hp->Prop}(I:Inv X pins Y H1 s)(h:(H1 d=some (.dK kvs)/\(vN X d->∀o,R (It' d o kvs) (upd H1 d (.aF o (.dK kvs)))))\/∃o,H1 d=some (.aF o (.dK kvs))/\R (It' d o kvs) H1) :
  ∃(o:Obj) (es:Array DictEntry) (ep:Nat) (H2:Hp),o.data=.dict es ep/\Inv X pins Y H2 s/\H2 d=some (.aF o (.dK kvs))/\R (It' d o kvs) H2:=by
 have dat:∀ {H2:Hp} {o:Obj},Inv X pins Y H2 s->H2 d=some (.aF o (.dK kvs))->∃es ep,o.data=.dict es ep:=λ{H2 o} I2 e=>by
  obtain⟨ho,_,vs,ep,_,o',es,ho',_,hd',_⟩:=Mp I2 e;rw[ho]at ho';cases ho';exact⟨es,ep,hd'⟩
 rcases h with ⟨e,h⟩ | ⟨o,e,h⟩
 .obtain⟨o,ho,I2⟩:=I.zui e;obtain⟨es,ep,q⟩:=dat I2 cg;exact⟨o,es,ep,_,q,I2,cg,h (I.Ml e λ_ _ z=>nomatch z) o⟩
 .obtain⟨es,ep,q⟩:=dat I e;exact⟨o,es,ep,H1,q,I,e,h⟩
def Mq (X:Cx)(D:Ends):Ends:=⟨λY H=>D.nx Y H\/∃d,vN X d/\D.nx Y (nQ d H),λv H=>D.rt v H\/∃d,vN X d/\D.rt v (nQ d H),λY H=>D.bk Y H\/∃d,vN X d/\D.bk Y (nQ d H),λY H=>D.ct Y H\/∃d,vN X d/\D.ct Y (nQ d H)⟩
theorem PS.star {X:Cx}{st:Wn}{t:TS}(h:PS X st t):PS X st (λD Y H=>t (Mq X D) Y H):=by
 intro pins s Y H D I q;refine aQ (h pins s Y H (Mq X D) I q) λf s1 q1=>?_;cases f with
 | next=>
  obtain⟨Y',H',I',q' | ⟨d,hf,q'⟩⟩:=q1
  .exact⟨Y',H',I',q'⟩
  .exact⟨Y',_,I'.jb hf,q'⟩
 | brk=>
  obtain⟨Y',H',I',q' | ⟨d,hf,q'⟩⟩:=q1
  .exact⟨Y',H',I',q'⟩
  .exact⟨Y',_,I'.jb hf,q'⟩
 | cont=>
  obtain⟨Y',H',I',q' | ⟨d,hf,q'⟩⟩:=q1
  .exact⟨Y',H',I',q'⟩
  .exact⟨Y',_,I'.jb hf,q'⟩
 | ret u=>
  obtain⟨v,Y',H',I',r',q' | ⟨d,hf,q'⟩⟩:=q1
  .exact⟨v,Y',H',I',r',q'⟩
  .exact⟨v,Y',_,I'.jb hf,r',q'⟩
end
end L2
namespace PL
open PySem PySem.Spec L2
open PyProof.Rows hiding St
variable {K:Xa}{Fz:FZ}{H:Hp}{ks:List Key}{xs:List V}{ds:List PV}
def dF:Key->PV
 | .inl i=>.int i
 | .inr x=>.str x
theorem zuk (k:Key):aq K Fz H (dF k) (kV k):=by
 cases k<;>simp only[dF,kV,aq]
theorem zip_get {i:Nat}{kv:Key×V}(h:(ks.zip xs)[i]? = some kv):ks[i]? = some kv.1/\xs[i]? = some kv.2:=by
 rw[List.getElem?_zip_eq_some]at h;exact h
section
variable {K:Xa}{Fz F':FZ}{U:aC}{Y:St}{H H1 H':Hp}{d:Addr}{o:Obj}{kvs:List (Key×V)}
theorem Mr (e:H1 d=some (.dK kvs)):Keep Fz H1 (upd H1 d (.aF o (.dK kvs))) where
 rd' b u pl f r:=by
  by_cases hb:b=d
  .subst hb;rcases r with r | ⟨o',r⟩
   .rw[e]at r;cases r;exact .inr ⟨o,cg⟩
   .rw[e]at r;cases r
  .rcases r with r | ⟨o',r⟩
   .exact .inl (by rw[aY hb];exact r)
   .exact .inr ⟨o',by rw[aY hb];exact r⟩
 tup b xs r:=by
  have hb:b≠d:=λz=>by subst z;rw[e]at r;cases r
  rw[aY hb];exact r
 ins b C dx fs _ r:=by
  have hb:b≠d:=λz=>by subst z;rw[e]at r;cases r
  rw[aY hb];exact r
theorem uz {u:HO}(e:H' d=some (.aF o u)):nQ d H'=upd H' d u:=by unfold nQ;rw[e]
theorem Ms (e:H' d=some (.aF o (.dK kvs))):Keep F' H' (nQ d H') where
 rd' b u pl f r:=by
  rw[uz e];by_cases hb:b=d
  .subst hb;rcases r with r | ⟨o',r⟩
   .rw[e]at r;cases r;exact pl.elim
   .rw[e]at r;cases r;exact .inl cg
  .rcases r with r | ⟨o',r⟩
   .exact .inl (by rw[aY hb];exact r)
   .exact .inr ⟨o',by rw[aY hb];exact r⟩
 tup b xs r:=by
  rw[uz e];have hb:b≠d:=λz=>by subst z;rw[e]at r;cases r
  rw[aY hb];exact r
 ins b C dx fs _ r:=by
  rw[uz e];have hb:b≠d:=λz=>by subst z;rw[e]at r;cases r
  rw[aY hb];exact r
theorem Rel.keep (R:Rel K Fz U Y H)(kp:Keep Fz H H')(ha:∀b,Fz b->H' b≠none)(ho:∀a w,¬ Fz a->H a=some w->H' a=some w):Rel K Fz U Y H':=
 ⟨ha,R.len,λi d e=>by
  obtain⟨v,q1,q2⟩:=R.aF i d e;exact⟨v,q1,aq.mono kp (λ_ h=>h) _ _ q2⟩,λi d e=>by
  obtain⟨a,q1,q2,q3⟩:=R.own i d e;exact⟨a,q1,q2,q3.mono kp (λ_ h=>h) λw hw=>ho a w q2 hw⟩,R.inj⟩
theorem Rel.freeze (R:Rel K Fz U Y H1)(f:Fz d)(e:H1 d=some (.dK kvs)):Rel K Fz U Y (upd H1 d (.aF o (.dK kvs))):=
 R.keep (Mr e) (λb hb=>by
  by_cases z:b=d
  .subst z;rw[cg];exact λz=>nomatch z
  .rw[aY z];exact R.al b hb) λa w na hw=>by
  have:a≠d:=λz=>by subst z;exact na f
  rw[aY this];exact hw
theorem Rel.jb (R:Rel K F' U Y H')(f:F' d)(e:H' d=some (.aF o (.dK kvs))):Rel K F' U Y (nQ d H'):=by
 have kp:=Ms (F':=F') e;rw[uz e]at kp ⊢;exact R.keep kp (λb hb=>by
  by_cases z:b=d
  .subst z;rw[cg];exact λz=>nomatch z
  .rw[aY z];exact R.al b hb) λa w na hw=>by
  have:a≠d:=λz=>by subst z;exact na f
  rw[aY this];exact hw
theorem Step.jb (s:Step U Y Fz (upd H1 d (.aF o (.dK kvs))) F' H')(e:H1 d=some (.dK kvs))(no:¬ cP U Y d):Step U Y Fz H1 F' (nQ d H'):=by
 have e':H' d=some (.aF o (.dK kvs)):=s.keep d _ cg no;rw[uz e'];refine⟨s.sub,λb hb=>?_,λb w hw n=>?_⟩
 .rcases s.new b hb with z | z | z
  .exact .inl z
  .by_cases hbd:b=d
   .subst hbd;rw[cg]at z;cases z
   .rw[aY hbd]at z;exact .inr (.inl z)
  .exact .inr (.inr z)
 .by_cases hbd:b=d
  .subst hbd;rw[e]at hw;cases hw;exact cg
  .rw[aY hbd];exact s.keep b w (by rw[aY hbd];exact hw) n
end
def iQ {κ:Type} [DecidableEq κ] (ks:List κ)(ds:List PV)(k:κ):Option PV:=((ks.zip ds).find? λkv=>decide (kv.1=k)).map (·.2)
section
variable {K:Xa}{Fz:FZ}{H:Hp}
theorem Bp {κ:Type} [DecidableEq κ]:∀(ks:List κ)(ds:List PV)(xs:List V)(k:κ),aj K Fz H ds xs->(∀d,iQ ks ds k=some d->∃v,bL (ks.zip xs) k=some v/\aq K Fz H d v)/\(iQ ks ds k=none->bL (ks.zip xs) k=none)
 | [],ds,xs,k,h=>⟨λd e=>by simp[iQ]at e,λ_=>rfl⟩
 | c::ks,[],xs,k,h=>by
  simp only[aj]at h;subst h;exact⟨λd e=>by simp[iQ]at e,λ_=>rfl⟩
 | c::ks,d0::ds,xs,k,h=>by
  simp only[aj]at h;obtain⟨v,r,rfl,h1,h2⟩:=h;have ih:=Bp ks ds r k h2;by_cases e:c=k
  .subst e;refine⟨λd hd=>⟨v,by simp[bL],?_⟩,λhn=>?_⟩
   .have:d0=d:=by simpa[iQ]using hd
    subst this;exact h1
   .simp[iQ]at hn
  .refine⟨λd hd=>?_,λhn=>?_⟩
   .have:iQ ks ds k=some d:=by simpa[iQ,Yq,e]using hd
    obtain⟨w,q1,q2⟩:=ih.1 d this;exact⟨w,by simpa[bL,Yq,e]using q1,q2⟩
   .have:iQ ks ds k=none:=by simpa[iQ,Yq,e]using hn
    have:=ih.2 this;simpa[bL,Yq,e]using this
theorem Gj {k:Key}{x:V}(h:aD K Fz H (dF k) x):x=kV k:=by
 cases k<;>simpa only[dF,kV,aD,aq]using h
theorem zul {x:V}(h:aD K Fz H (.dK ks ds) x):∃a xs,x=.ref a/\Rd H a (.dK (ks.zip xs))/\ks.length=xs.length/\aj K Fz H ds xs:=by
 simpa only[aD]using h
def rDG:R2:=λx y H Q=>∃a v,x=.ref a/\mU H a y (some v)/\Q v H
def pDG:P2:=λd e Q=>∃ks ds k v,d=.dK ks ds/\e=dF k/\iQ ks ds k=some v/\Q v .aF
theorem Mt:jF K rDG pDG where
 mono d e Q Q' m h:=by obtain⟨ks,ds,k,v,e1,e2,e3,q⟩:=h;exact⟨ks,ds,k,v,e1,e2,e3,m _ _ q⟩
 run Fz H x y d e Q al rx ry h:=by
  obtain⟨ks,ds,k,d',rfl,rfl,e3,q⟩:=h;obtain⟨a,xs,rfl,r,hl,hd⟩:=zul rx;obtain rfl:=Gj ry;obtain⟨v,e4,h4⟩:=(Bp ks ds xs k hd).1 d' e3;exact⟨a,v,rfl,.inl ⟨_,k,r,rfl,e4.symm⟩,q v Fz H (.val al h4)⟩
end
section
variable {X:Cx}{a b:Expr}{ta tb:aL}{pos:Pos}
theorem uD (hu:X.A.units+1<WG)(ha:aG X a ta)(hb:aG X b tb)(hs:uc b:=by exact λ_ _=>rfl):aG X (.Subscript a b pos) (t2 pDG ta tb):=
 ⟨vp Mt ha hb,PE.weak (ztN hu ha.run hb.run hs) λ_ _ _ h=>yx Mt ha hb h⟩
end
def zcN:PF:=λds Q=>∃i j:Int,ds=[.int i,.int j]/\Q (.int (if j<i then j else i)) .aF
theorem zum:mV K (λxs H Q=>∃i j,xs=[V.int i,.int j]/\Q (.int (if j<i then j else i)) H) zcN where
 mono ds Q Q' m h:=by obtain⟨i,j,e,q⟩:=h;exact⟨i,j,e,m _ _ q⟩
 run Fz H ds vs Q al hr h:=by
  obtain⟨i,j,rfl,q⟩:=h;obtain⟨u,v,rfl,h1,h2⟩:=Bm hr;exact⟨i,j,by rw[ju h1,ju h2],q _ Fz H (.val al (by simp only[aq]))⟩
section
variable {X:Cx}{e:Expr}{es:List Expr}{t:cV}{p pos:Pos}
theorem zun (hc:X.calm=true)(hg:Gl X "min") (hm:X.mg "min" = none) (ha:eO X (e::es) t) (he:cQ X e es:=by rfl) (hpl:cO X pos es:=by rfl):aG X (.Call (.Name "min" p) (e::es) [] pos) (tB zcN t):=
 ul (ZD hc) zum hg hm yK ha (by decide) (by decide) he hpl
end
theorem aj.j7 {a:Addr}{o u:HO}(ha:H a=some u)(hi:¬ pR u)(nf:¬ Fz a)(h:aj K Fz H ds xs):aj K Fz (upd H a o) ds xs:=
 aj.mono (.mk' λb w e hw=>by
  have ne:b≠a:=λz=>by
   subst z;rcases hw with hw | hw
   .exact nf hw
   .rw[ha]at e;cases e;exact hi hw
  rw[aY ne];exact e) (λ_ h=>h) _ _ h
theorem Bq {U:aC}{Y:St}{i:Nat}(R:Rel K Fz U Y H)(h:U[i]? = some (some (.dK ks ds,true))):∃a xs,Y[i]? = some (some (.ref a))/\H a=some (.dK (ks.zip xs))/\ks.length=xs.length/\aj K Fz H ds xs/\¬ Fz a:=by
 obtain⟨a,e,nf,xs,h1,h2,h3⟩:=R.own i _ h;exact⟨a,xs,e,h1,h2,h3,nf⟩
theorem yQ {k:Kd}(hk:isOwn k=false):k=.aF\/k=.new:=by
 cases k with
 | aF=>exact .inl rfl
 | new=>exact .inr rfl
 | own j=>cases hk
def putD (ks:List Key)(ds:List PV)(k:Key)(d:PV):List PV:=(ks.zip ds).map λkv=>if kv.1=k then d else kv.2
theorem Mu {k:Key}{v:V}:(ks.zip xs).map (λkv=>if kv.1=k then(kv.1,v) else kv)=ks.zip ((ks.zip xs).map λkv=>if kv.1=k then v else kv.2):=by
 induction ks generalizing xs with
 | nil=>rfl
 | cons c ks ih=>
  cases xs with
  | nil=>rfl
  | cons x xs=>
   simp only[XS,Xq,ih];by_cases e:c=k<;>simp[e]
theorem Gk (k:Key){d:PV}{v:V}(hd:aq K Fz H d v):∀(ks:List Key)(ds:List PV)(xs:List V),aj K Fz H ds xs->aj K Fz H (putD ks ds k d) ((ks.zip xs).map λkv=>if kv.1=k then v else kv.2)
 | [],ds,xs,h=>aj.nil
 | c::ks,[],xs,h=>by simp only[aj]at h;subst h;exact aj.nil
 | c::ks,d0::ds,xs,h=>by
  simp only[aj]at h;obtain⟨w,r,rfl,h1,h2⟩:=h;have ih:=Gk k hd ks ds r h2;simp only[putD,XS,Xq]at ih ⊢;by_cases e:c=k
  .rw[Qf e,Qf e];exact aj.cons hd ih
  .rw[Qe e,Qe e];exact aj.cons h1 ih
def eX (ks:List Key)(c:Key):Bool:=ks.any λc'=>decide (c'=c)
def zbz (i:Nat)(ti tv:aL):dU:=λU O=>tv U λd k=>isOwn k=false/\∃ks ds,U[i]? = some (some (.dK ks ds,true))/\ks.length<Wf/\ti U λe _=>∃c:Key,e=dF c/\
 O.nx (U.set i (some (if eX ks c=true then .dK ks (putD ks ds c d) else .dK (ks++[c]) (ds++[d]),true)))
theorem Mv {c:Key}(h:ks.length=xs.length):((ks.zip xs).any λkv=>decide (kv.1=c))=eX ks c:=by
 unfold eX;induction ks generalizing xs with
 | nil=>simp
 | cons d ks ih=>
  cases xs with
  | nil=>simp at h
  | cons x xs=>
   simp only[XS,List.any_cons,ih (by simpa using h)]
section
variable {X:Cx}{x:Str}{ei ev:Expr}{ti tv:aL}{p pos pos' apos cpos:Pos}
theorem Gm (i:Nat)(hu:X.A.units+1<WG)(hi:aG X ei ti)(hv:aG X ev tv)(hN:X.N[i]? = some x:=by rfl)(hvs:mO X.env.scope x:=by first | exact Qk rfl | exact Qs (Qk rfl) | exact Qs (Qs rfl))(hd:fD x:=by decide) (hcd:nD x:=by decide)
  (hs:Wx ev (some (.Subscript (.Name x p) ei pos')) pos.line X.env=pure false:=by rfl):jK X (.Assign [.Subscript (.Name x p) ei pos'] ev pos) (zbz i ti tv) where
 mono U O O' m h:=hv.mono U _ _ (λd k ⟨hk,ks,ds,e1,e2,h⟩=>⟨hk,ks,ds,e1,e2,hi.mono U _ _ (λe _ ⟨c,q1,q⟩=>⟨c,q1,m.nx _ q⟩) h⟩) h
 run:=PS.weak (ztO hu (mQ hN hvs hd hcd) hi.run hv.run hs) λD Y H h=>by
  obtain⟨U,Fz,R,h⟩:=h;refine⟨U,Fz,R,hv.mono U _ _ (λd k q v F1 H1 p1=>?_) h⟩;obtain⟨hk,ks,ds,e1,e2,q⟩:=q;obtain⟨F2,x2,s2,d2⟩:=p1.frozen (yQ hk);have R2:=R.ext x2;obtain⟨a,xs,hs,ha,_,hd,nf⟩:=Bq R2 e1;refine⟨_,hs,U,F2,R2,hi.mono U _ _ (λe ke q u F3 H3 p3=>?_) q⟩;obtain⟨c,rfl,q⟩:=q;have R3:=R2.ext p3.ext;obtain⟨a',xs',hs',ha',hl',hd',jw⟩:=Bq R3 e1;rw[hs]at hs';cases hs';obtain rfl:=Gj (p3.root R2);refine⟨a,_,rfl,oG.k ha' (by rw[YI];lia),?_⟩;have d3:=aq.mono (.of p3.ext.same) p3.ext.sub _ _ d2;have x3:=x2.trans p3.ext;have ow:Own X.K F3 (upd H3 a (.dK (putK (ks.zip xs') c v))) (if eX ks c=true then .dK ks (putD ks ds c d) else .dK (ks++[c]) (ds++[d])) a:=by
   unfold putK;rw[Mv hl'];by_cases hc:eX ks c=true
   .rw[Qf hc,Qf hc,Mu];exact⟨_,cg,by simp[hl'],aj.j7 ha' (λz=>z) jw (Gk c d3 ks ds xs' hd')⟩
   .rw[Qe hc,Qe hc];refine⟨xs'++[v],?_,by simp[hl'],aj.j7 ha' (λz=>z) jw (aj.snoc hd' d3)⟩;rw[cg,List.zip_append hl'];rfl
  obtain⟨R4,s4,o4⟩:=R3.mut e1 hs ha' ow;exact q Y F3 _ ((Step.of x3).trans (bh.refl U Y H) s4) (bh.trans (Step.of x3) (bh.refl U Y H) o4) R4
end
end PL
namespace PySem
section
variable {prog:Wg}{w:Wj}{A:Wl}{E:Ti}{s:Wc}
theorem zdY {a:Addr}{o:Obj}{Q:Option Obj->Wc->Prop}(ho:s.heap.get? a=some o)(h:Q (some o) s):We (Wh prog w) A (loadIfAlive a) Q E s:=λΓ p _=>by
 unfold loadIfAlive;rw[Sem.wp_loadIfAlive,ho];rw[Sem.wp_pure];exact h
end
namespace F
theorem Mw:entryFor table "dict.update.loop" = some Builtin.«dict.update.loop»:=entryFor_of_tree (by kernel_rfl)
theorem Br:plainId "dict.update.loop" = true:=by decide +kernel
end F
end PySem
namespace PL
open PySem PySem.Spec L2
open PyProof.Rows hiding St
variable {Fz ao F1 F2:FZ}{H H' H1 H2:Hp}{d:PV}{U:aC}{Y:St}{i z:Nat}{a b:Addr}{D:Ends}{J:BX}{bs:Tr}{O O':Addr->Prop}{v:V}
theorem Gn:Wm "all" = some (.builtin "all"):=by decide +kernel
section
variable {X:Cx}
theorem zpe (hc:X.calm=true):jW X (.builtin "all") (λxs H Q=>∃(p:Addr) (bs:List Bool),xs=[V.ref p]/\bI X.K H p (bs.map V.bl)/\Q (.bl (bs.all id)) H):=by
 intro pins s Y H xs us Q I r h;obtain⟨p,bs,rfl,hq,q⟩:=h;obtain⟨u,rfl,rx⟩:=vals1 r;cases rx;obtain⟨its,r',pl,hz⟩:=I.list hq;have hL:=pl.isList;have hpl:p<s.heap.objs.size:=by obtain⟨_,x,_⟩:=hL;exact Xw x
 have hlen:its.length=bs.length:=by rw[<- r'.length];simp
 refine call_all_walk (wpAny_pyIter_list hL ?_);refine⟨_,[_,p],[_],_,_,_,λi=>bs.getD i true,rfl,Walks.list (A:=X.A.in1) (I.ok.hd hc) _ p (XB hpl) its.toArray,⟨⟨_,Xx _ rfl,rfl,rfl⟩,hL.push _⟩,?_,λh' tk hk=>?_⟩
 .intro i v s' Q' E' hP hQ;have hv:its[i]? = some v:=by simpa using hP
  have hi:i<bs.length:=by rw[<- hlen];exact(Xc.mp hv).1
  obtain⟨v',hv',rv⟩:=r'.get (i:=i) (x:=.bl bs[i]) (by simp[hi]);rw[hv]at hv';cases hv';cases rv;refine WZ ?_;have:bs.getD i true=bs[i]:=by rw[Xi,Xd hi];rfl
  rw[<- this];exact hQ
 .refine⟨.bl (bs.all id),H,I.kept (t':=tk) (λb o x=>hk b o ?_ (Xe _ x)),?_,q⟩
  .have:=Xw x;simp;exact XB this
  .have:(XE its.toArray.size).all (λi=>bs.getD i true)=bs.all id:=by
    rw[Xo,hlen];rw[Pq,XX,XX];constructor
    .intro h x hx;obtain⟨i,hi,e⟩:=List.getElem_of_mem hx;have:=h i (List.mem_range.mpr hi);rw[Xi,Xd hi]at this;simpa[<- e]using this
    .intro h i hi;have hi:=List.mem_range.mp hi;rw[Xi,Xd hi];simpa using h _ (YA hi)
   show RelV _ _;rw[this];rfl
theorem My {K:Xa}:∀ {bs:List Bool}{xs:List V},aj K Fz H (bs.map PV.bl) xs->xs=bs.map V.bl
 | [],xs,h=>by simpa only[Yg,aj]using h
 | b::bs,xs,h=>by
  simp only[Yg,aj,aq]at h;obtain⟨v,r,rfl,rfl,h⟩:=h;rw[My h];rfl
def fAll:PF:=λds Q=>∃bs:List Bool,ds=[.lst (bs.map PV.bl)]/\Q (.bl (bs.all id)) .aF
theorem zwK:mV X.K (λxs H Q=>∃(p:Addr)(bs:List Bool),xs=[V.ref p]/\bI X.K H p (bs.map V.bl)/\Q (.bl (bs.all id)) H) fAll where
 mono ds Q Q' m h:=by obtain⟨bs,e,q⟩:=h;exact⟨bs,e,m _ _ q⟩
 run Fz H ds vs Q al hr h:=by
  obtain⟨bs,rfl,q⟩:=h;obtain⟨v,rfl,h1⟩:=qD hr;obtain⟨a,xs,rfl,h2,h3⟩:=fG h1;rw[My h3]at h2;exact⟨a,bs,rfl,h2,q _ Fz H (.val al (by simp only[aq]))⟩
variable {e:Expr}{es:List Expr}{t:cV}{p pos:Pos}
theorem zwL (hc:X.calm=true)(hg:Gl X "all") (hm:X.mg "all" = none) (ha:eO X (e::es) t) (he:cQ X e es:=by rfl) (hpl:cO X pos es:=by rfl):aG X (.Call (.Name "all" p) (e::es) [] pos) (tB fAll t):=
 ul (zpe hc) zwK hg hm Gn ha (by decide) (by decide) he hpl
end
theorem zns {P:Nat->Wb->Prop}{acc:Array Wb}{xs:List V}(h:ItemsOf P acc xs.length)(f:∀(i:Nat)(v:Wb)(x:V),xs[i]? = some x->P i v->RelV x v):Vals xs acc.toList:=by
 obtain⟨hs,hv⟩:=h;obtain⟨acc⟩:=acc;simp only[Xo]at hs;have:∀(xs:List V) (its:Tq) (n:Nat),its.length=xs.length->(∀(j:Nat) (v:Wb) (x:V),its[j]? = some v->xs[j]? = some x->RelV x v)->Vals xs its:=by
  intro xs;induction xs with
  | nil=>intro its n hl _;cases its with
   | nil=>exact .nil
   | cons _ _=>simp at hl
  | cons x xs ih=>intro its n hl hr;cases its with
   | nil=>simp at hl
   | cons u us=>exact .cons (hr 0 u x rfl rfl) (ih us n (by simpa using hl) λj v y h1 h2=>hr (j+1) v y (by simpa using h1) (by simpa using h2))
 exact this xs acc 0 hs λj v x h1 h2=>f j v x h2 (hv j v (by simpa using h1))
section
variable {X:Cx}
theorem znt (hc:X.calm=true):jW X (.type "list") (λxs H Q=>∃x:Str,xs=[V.str x]/\x.length<=Wf/\∀l,H l=none->Q (.ref l) (upd H l (.lst ((signs x).map V.str)))):=by
 intro pins s Y H xs us Q I r h;obtain⟨x,rfl,hz,q⟩:=h;obtain⟨u,rfl,t,rfl⟩:=vals1 r;refine call_list_str (I.ok.hd hc) x t (hn:=hz) λh' tk acc c kp e hacc=>?_;have hl:x.cps.size=((signs x).map V.str).length:=by simp[signs]
 rw[hl]at hacc;have rv:Vals ((signs x).map V.str) acc.toList:=zns hacc λi v y hy ⟨c,u,hc,ev⟩=>by
  subst ev;have:y=.str ⟨#[c]⟩:=by
   simp only[signs,Xg,Array.getElem?_toList,hc,Option.map_some]at hy;exact(Qa hy).symm
  subst this;exact⟨u,rfl⟩
 exact⟨.ref s.heap.objs.size,_,I.laid (t':=tk) kp (Xj _) (show eE X.prog X.w _ h' _ (.lst ((signs x).map V.str)) from⟨by rw[<- hl];exact hz,acc.toList,c,rv,by simpa using e⟩),rfl,q _ (I.hok.fresh (Xj _))⟩
def zbv:PF:=λds Q=>∃x:Str,ds=[.str x]/\x.length<=Wf/\Q (.lst ((signs x).map PV.str)) .new
theorem zrC:mV X.K (λxs H Q=>∃x:Str,xs=[V.str x]/\x.length<=Wf/\∀l,H l=none->Q (.ref l) (upd H l (.lst ((signs x).map V.str)))) zbv where
 mono ds Q Q' m h:=by obtain⟨x,e,e2,q⟩:=h;exact⟨x,e,e2,m _ _ q⟩
 run Fz H ds vs Q al hr h:=by
  obtain⟨x,rfl,e2,q⟩:=h;obtain⟨v,rfl,h1⟩:=qD hr;exact⟨x,by rw[nO h1],e2,λl hl=>q _ Fz _ (.newL al hl (Bo _))⟩
variable {e:Expr}{es:List Expr}{t:cV}{p pos:Pos}
theorem zrD (hc:X.calm=true)(hg:Gl X "list") (hm:X.mg "list" = none) (ha:eO X (e::es) t) (he:cQ X e es:=by rfl) (hpl:cO X pos es:=by rfl):aG X (.Call (.Name "list" p) (e::es) [] pos) (tB zbv t):=
 Fv (znt hc) zrC hg hm Lx ha (by decide) (by decide) he hpl
theorem zpf (hc:X.calm=true):jW X (.builtin "min") (λxs H Q=>∃i j k,xs=[V.int i,.int j,.int k]/\Q (.int (if j<i then(if k<j then k else j) else(if k<i then k else i))) H):=by
 intro pins s Y H xs us Q I r h;obtain⟨i,j,k,rfl,q⟩:=h;obtain⟨u,us2,rfl,⟨t,rfl⟩,r2⟩:∃u us2,us=u::us2/\RelV (.int i) u/\Vals [V.int j,.int k] us2:=by cases r with | cons a b=>exact⟨_,_,rfl,a,b⟩
 obtain⟨u1,u2,rfl,⟨t1,rfl⟩,⟨t2,rfl⟩⟩:=vals2 r2;refine min_three_ints (I.ok.hd hc) λh' tk kp=>⟨_,H,I.kept kp,?_,q⟩;by_cases h1:j<i
 .rw[Qf h1,Qf h1];by_cases h2:k<j
  .rw[Qf h2,Qf h2];exact⟨_,rfl⟩
  .rw[Qe h2,Qe h2];exact⟨_,rfl⟩
 .rw[Qe h1,Qe h1];by_cases h2:k<i
  .rw[Qf h2,Qf h2];exact⟨_,rfl⟩
  .rw[Qe h2,Qe h2];exact⟨_,rfl⟩
def zcF:PF:=λds Q=>∃i j k:Int,ds=[.int i,.int j,.int k]/\Q (.int (if j<i then(if k<j then k else j) else(if k<i then k else i))) .aF
theorem zwM {K:Xa}{e f:PV}{vs:List V}(h:yH K Fz H [d,e,f] vs):∃v u w,vs=[v,u,w]/\aD K Fz H d v/\aD K Fz H e u/\aD K Fz H f w:=by
 cases h with
 | cons a b=>
  obtain⟨u,w,rfl,h1,h2⟩:=Bm b;exact⟨_,u,w,rfl,a,h1,h2⟩
theorem zuo {K:Xa}:mV K (λxs H Q=>∃i j k,xs=[V.int i,.int j,.int k]/\Q (.int (if j<i then(if k<j then k else j) else(if k<i then k else i))) H) zcF where
 mono ds Q Q' m h:=by obtain⟨i,j,k,e,q⟩:=h;exact⟨i,j,k,e,m _ _ q⟩
 run Fz H ds vs Q al hr h:=by
  obtain⟨i,j,k,rfl,q⟩:=h;obtain⟨u,v,w,rfl,h1,h2,h3⟩:=zwM hr;exact⟨i,j,k,by rw[ju h1,ju h2,ju h3],q _ Fz H (.val al (by simp only[aq]))⟩
theorem zup (hc:X.calm=true)(hg:Gl X "min") (hm:X.mg "min" = none) (ha:eO X (e::es) t) (he:cQ X e es:=by rfl) (hpl:cO X pos es:=by rfl):aG X (.Call (.Name "min" p) (e::es) [] pos) (tB zcF t):=
 ul (zpf hc) zuo hg hm yK ha (by decide) (by decide) he hpl
theorem zwN:Eb X (λx lo hi H Q=>∃z:Str,x=.str z/\z.length<=Wf/\Q (.str (Txt.slice z lo hi)) H):=by
 intro pins s Y H x v vl vu lo hi sl Q I rx hs pl pu h;obtain⟨z,rfl,hz,q⟩:=h;obtain⟨t,rfl⟩:=rx;refine⟨"str",_,PySem.F.slot_str_getitem.lookup,typeIs_str _ _ _,?_⟩;have fin:∀(l u:Option (Int×Tok)),s.heap.IsSlice sl l u none->l.map (·.1)=lo->u.map (·.1)=hi->We (Wh X.prog X.w) X.A (getItem (.str z t) (.ref sl)) (EP X pins Y Q) X.xe s:=λl u h1 h2 h3=>by
  subst h2 h3;refine wpAny_getItem_str_slice (st:=none) h1 rfl (post_val_or_str ⟨XC (Txt.slice_le z _ _) hz,λt' k=>?_⟩);exact⟨.str (Txt.slice z (l.map (·.1)) (u.map (·.1))),H,I.tok _,⟨t',rfl⟩,q⟩
 cases pl with
 | none=>cases pu with
  | none=>exact fin none none hs rfl rfl
  | int j t2=>exact fin none (some (j,t2)) hs rfl rfl
 | int i t1=>cases pu with
  | none=>exact fin (some (i,t1)) none hs rfl rfl
  | int j t2=>exact fin (some (i,t1)) (some (j,t2)) hs rfl rfl
def pSlS (te:aL)(tl th:qF):aL:=λU Q=>te U λd _=>tl U λl=>th U λu=>∃z:Str,d=.str z/\z.length<=Wf/\Q (.str (Txt.slice z l u)) .aF
variable {e:Expr}{te:aL}{lo hi:Option Expr}{tl th:qF}{p2 pos:Pos}
theorem zpg (he:aG X e te)(hl:vJ X lo tl)(hu:vJ X hi th):aG X (.Subscript e (.Slice lo hi none p2) pos) (pSlS te tl th) where
 mono U Q Q' m h:=he.mono U _ _ (λd k h=>hl.mono U _ _ (λl h=>hu.mono U _ _ (λu ⟨ds,e,e2,q⟩=>⟨ds,e,e2,m _ _ q⟩) h) h) h
 run:=PE.weak (JH zwN he.run hl.run hu.run) λY H Q h=>by
  obtain⟨U,Fz,R,h⟩:=h;refine⟨U,Fz,R,he.mono U _ _ (λd k q v F1 H1 p1=>?_) h⟩;refine⟨U,F1,R.ext p1.ext,hl.mono U _ _ (λl q F2 H2 x2=>?_) q⟩;refine⟨U,F2,(R.ext p1.ext).ext x2,hu.mono U _ _ (λu q3 F3 H3 x3=>?_) q⟩;obtain⟨z,e3,e4,q4⟩:=q3;subst e3;exact⟨z,nO (p1.root R),e4,q4 _ F3 _ ((Post.val x3.al (by simp only[aq])).behind (p1.ext.trans (x2.trans x3)))⟩
end
theorem hu1 {A:Wl}(h:A.units+16<WG):A.units+1<WG:=by lia
abbrev vO:=PV->List PV->(PV->PV->Prop)->Prop
def Mz (F:vO):Prop:=∀d ds Q Q',(∀d e,Q d e->Q' d e)->F d ds Q->F d ds Q'
structure Gp (a:Addr)(Fz:FZ)(H:Hp)(ao:FZ)(H':Hp):Prop where
 sub:∀b,Fz b->ao b
 new:∀b,ao b->Fz b\/H b=none
 keep:∀b o,H b=some o->b≠a->H' b=some o
 al:∀b,ao b->H' b≠none
theorem Rel.handed {K:Xa}{d':PV}(R:Rel K Fz U Y H)(hi:U[i]? = some (some (d,true)))(hs:Y[i]? = some (some (.ref a)))(s:Gp a Fz H ao H')(ow:Own K ao H' d' a) :
  Rel K ao (U.set i (some (d',true))) Y H'/\Step U Y Fz H ao H'/\bh U Y H (U.set i (some (d',true))) Y:=by
 obtain⟨a',e',nf,ow0⟩:=R.own i d hi;rw[hs]at e';cases e';obtain⟨oa,hoa,hni⟩:=ow0.at;have hil:i<U.length:=(Xc.mp hi).1;have jw:¬ ao a:=λz=>(s.new a z).elim nf (λz=>by rw[hoa]at z;cases z);have kx:nM Fz H H':=λb o e w=>s.keep b o e λz=>by
  subst z;rcases w with w | w
  .exact nf w
  .rw[hoa]at e;cases e;exact hni w
 have old:∀(j:Nat) (e:PV),(U.set i (some (d',true)))[j]? = some (some (e,true))->(j=i/\e=d')\/(j≠i/\U[j]? = some (some (e,true))):=λj e h=>by
  by_cases z:j=i
  .subst z;rw[Xm hil]at h;cases h;exact .inl ⟨rfl,rfl⟩
  .rw[Xk (QD z)]at h;exact .inr ⟨z,h⟩
 refine⟨⟨s.al,by rw[Yf];exact R.len,λj e h=>?_,λj e h=>?_,λj k e e2 b h1 h2 h3 h4=>?_⟩,⟨s.sub,λb h=>(s.new b h).elim .inl (λz=>.inr (.inl z)),λb o e w=>s.keep b o e λz=>w ?_⟩,λb h=>?_⟩
 .by_cases z:j=i
  .subst z;rw[Xm hil]at h;cases h
  .rw[Xk (QD z)]at h;obtain⟨v,q1,q2⟩:=R.aF j e h;exact⟨v,q1,aq.mono (.mk' kx) s.sub _ _ q2⟩
 .rcases old j e h with ⟨rfl,rfl⟩ | ⟨z,h⟩
  .exact⟨a,hs,jw,ow⟩
  .obtain⟨b,q1,q2,q3⟩:=R.own j e h;have hb:b≠a:=λy=>by subst y;exact z (R.inj j i e d b h hi q1 hs)
   refine⟨b,q1,λy=>?_,q3.mono (.mk' kx) s.sub λo ho=>s.keep b o ho hb⟩;obtain⟨ob,hob,_⟩:=q3.at;exact(s.new b y).elim q2 (λy=>by rw[hob]at y;cases y)
 .have f1:∃e',U[j]? = some (some (e',true)):=by
   rcases old j e h1 with ⟨rfl,_⟩ | ⟨_,h⟩
   .exact⟨d,hi⟩
   .exact⟨e,h⟩
  have f2:∃e',U[k]? = some (some (e',true)):=by
   rcases old k e2 h2 with ⟨rfl,_⟩ | ⟨_,h⟩
   .exact⟨d,hi⟩
   .exact⟨e2,h⟩
  obtain⟨x1,f1⟩:=f1;obtain⟨x2,f2⟩:=f2;exact R.inj j k x1 x2 b f1 f2 h3 h4
 .subst z;exact⟨i,d,hi,hs⟩
 .obtain⟨j,e,h1,h2⟩:=h;rcases old j e h1 with ⟨rfl,_⟩ | ⟨_,h⟩
  .exact .inl ⟨j,d,hi,h2⟩
  .exact .inl ⟨j,e,h,h2⟩
structure qI where
 nx:aC->Prop
 rt:aC->Prop
structure qI.le (O O':qI):Prop where
 nx:∀U,O.nx U->O'.nx U
 rt:∀U,O.rt U->O'.rt U
abbrev pX:=aC->qI->Prop
def outF (K:Xa)(z:Nat)(D:Ends)(U:aC)(Y:St)(Fz:FZ)(H:Hp):qI where
 nx:=λU'=>∀Y' ao H',Step U Y Fz H ao H'->bh U Y H U' Y'->Rel K ao U' Y' H'->Y'[z]? = Y[z]?->D.nx Y' H'
 rt:=λU'=>∀Y' ao H',Step U Y Fz H ao H'->bh U Y H U' Y'->Rel K ao U' Y' H'->Y'[z]? = Y[z]?->D.rt .non H'
def MF (K:Xa)(z:Nat)(t:pX):TS:=λD Y H=>∃U Fz,Rel K Fz U Y H/\t U (outF K z D U Y Fz H)
structure oW (X:Cx)(z:Nat)(st:Wn)(t:pX):Prop where
 mono:∀U O O',O.le O'->t U O->t U O'
 run:PS X st (MF X.K z t)
structure yR (X:Cx)(z:Nat)(st:List Wn)(t:pX):Prop where
 mono:∀U O O',O.le O'->t U O->t U O'
 run:dH X st (MF X.K z t)
theorem MJ {K:Xa}{D':Ends}{U':aC}{Y':St}(s:Step U Y Fz H ao H')(oi:bh U Y H U' Y')(hz:Y'[z]? = Y[z]?)(h1:∀Y H,D.nx Y H->D'.nx Y H)(h2:∀v H,D.rt v H->D'.rt v H) :
  (outF K z D U Y Fz H).le (outF K z D' U' Y' ao H') where
 nx U2 q Qq5 F2 H2 s2 o2 R2 e2:=h1 _ _ (q Qq5 F2 H2 (s.trans oi s2) (bh.trans s oi o2) R2 (e2.trans hz))
 rt U2 q Qq5 F2 H2 s2 o2 R2 e2:=h2 _ _ (q Qq5 F2 H2 (s.trans oi s2) (bh.trans s oi o2) R2 (e2.trans hz))
theorem Step.stay {K:Xa}(R:Rel K Fz U Y H):Step U Y Fz H Fz H:=.of ⟨Same.refl H,λ_ h=>h,λ_ h=>.inl h,R.al⟩
section
variable {X:Cx}{z:Nat}{st:Wn}{rest a b body:List Wn}{t u v:pX}{tm:mY}{e c:Expr}{tc:fL}{pos pos' p:Pos}{x:Str}
def fSeq (t u:pX):pX:=λU O=>t U { O with nx:=λU'=>u U' O }
def zbA (tm:mY):pX:=λU O=>tm U λ_ U'=>O.nx U'
def fFor (ti:iW)(i:Nat)(tb:pX):pX:=λU O=>ti U λits o=>o=false/\∃Iv:Nat->aC->Prop,Iv 0 U/\(∀k d U',its[k]? = some d->Iv k U'->tb (U'.set i (some (d,false))) { O with nx:=Iv (k+1) })/\∀U',Iv its.length U'->O.nx U'
theorem MK (h1:oW X z st t):yR X z [st] t:=⟨h1.mono,u6 h1.run⟩
theorem yS (h1:oW X z st t)(h2:yR X z rest u):yR X z (st::rest) (fSeq t u) where
 mono U O O' m h:=h1.mono U { O with nx:=λU'=>u U' O } _ ⟨λU' q=>h2.mono U' O O' m q,m.rt⟩ h
 run:=dH.weak (qj h1.run h2.run) λD Y H h=>by
  obtain⟨U,Fz,R,h⟩:=h;refine⟨U,Fz,R,h1.mono U { outF X.K z D U Y Fz H with nx:=λU'=>u U' (outF X.K z D U Y Fz H) } _ ⟨λU' q=>?_,λ_ q=>q⟩ h⟩;intro Y' ao H' s oi R' e;exact⟨U',ao,R',h2.mono U' _ _ (MJ s oi e (λ_ _ h=>h) (λ_ _ h=>h)) q⟩
theorem MN (he:qC X e tm)(hs:Wx e none pos.line X.env=pure false:=by rfl):oW X z (.Expr e pos) (zbA tm) where
 mono U O O' m h:=he.mono U _ _ (λ_ U' q=>m.nx _ q) h
 run:=PS.weak (Ab he.run hs) λD Y H h=>by
  obtain⟨U,Fz,R,h⟩:=h;exact⟨U,Fz,R,he.mono U _ _ (λd U' q v F' H' s o R' _=>q Y F' H' s o R' rfl) h⟩
theorem zur {i:Nat}{iter:Expr}{ti:iW}(hN:X.N.Nodup)(hi:X.N[i]? = some x)(hx:Loc X.env.scope x)(hc:X.calm=true)(hp:W3 (Wh X.prog X.w) X.A X.env X.xe)(hit:lK X (.Name x p) iter ti)(hb:yR X z body t)(hiz:i≠z:=by decide)
  (hf:lE X x:=by first | exact .inl rfl | exact .inr rfl | assumption) (hs:oh X iter:=by intro _;rfl):oW X z (.For (.Name x p) iter body [] pos) (fFor ti i t) where
 mono U O O' m h:=hit.mono U _ _ (λits o ⟨e,I,h0,hs,hd⟩=>⟨e,I,h0,λk d U' hk hI=>hb.mono _ { O with nx:=I (k+1) } _ ⟨λ_ q=>q,m.rt⟩ (hs k d U' hk hI),λU' hI=>m.nx _ (hd U' hI)⟩) h
 run:=PS.weak (u9 hp hc hit.run (Ac hN hi hx hf) hb.run hs) λD Y H h=>by
  obtain⟨U,Fz,R,h⟩:=h;refine⟨U,Fz,R,hit.mono U _ _ (λits o q Qq12 bJ H1 x wk=>?_) h⟩;obtain⟨rfl,Iv,h0,hstep,hdone⟩:=q;have R1:=R.ext x;have le:=MJ (K:=X.K) (z:=z) (D:=D) (Step.of (U:=U) (Y:=Y) x) (bh.refl U Y H) rfl (λ_ _ h=>h) (λ_ _ h=>h);refine⟨λi m Y' H'=>m=its.length-i/\i<=its.length/\∃U' F',Rel X.K F' U' Y' H'/\Iv i U'/\Step U Y bJ H1 F' H'/\bh U Y H1 U' Y'/\Y'[z]? = Y[z]?,
   ⟨its.length,by lia,XM _,U,bJ,R1,h0,Step.stay R1,bh.refl U Y H1,rfl⟩,?_⟩
  rintro k m Y' H' ⟨rfl,hle,U',F',R',hI,s',o',z'⟩;have kp:nM bJ H1 H':=s'.kept R1;obtain⟨oO,wstop⟩:=wk H' (.inr ⟨rfl,kp⟩) k;by_cases hlt:k<its.length
  .obtain⟨go,yl⟩:=oO its[k] (Xd hlt);refine .inr ⟨go,λQq5 H2=>∃U2 F2,Rel X.K F2 U2 Qq5 H2/\Iv (k+1) U2/\Step U Y bJ H1 F2 H2/\bh U Y H1 U2 Qq5/\Qq5[z]? = Y[z]?,λQq5 H2 hN=>⟨its.length-(k+1),by lia,rfl,hlt,hN⟩,λxv H2 y=>?_⟩;obtain⟨sm,dn⟩:=yl xv H2 y;have x2:Ext F' H' F' H2:=⟨sm,λ_ h=>h,λ_ h=>.inl h,λb hb z=>R'.al b hb (sm.free z)⟩;have R2:=(R'.ext x2).set (i:=i) (aq.mono (Keep.of (Same.refl _)) s'.sub _ _ dn);have so:bh U Y H1 (U'.set i (some (its[k],false))) (Y'.set i (some xv)):=λb hb=>o' b (oK b hb);have st:Step U Y bJ H1 F' H2:=s'.trans o' (.of x2);have e2:(Y'.set i (some xv))[z]? = Y[z]?:=by rw[Xk hiz];exact z'
   refine⟨_,F',R2,hb.mono _ { outF X.K z D U Y Fz H with nx:=Iv (k+1) } _ ⟨λQq1 q Qq4 F3 H3 s3 o3 R3 e3=>?_,λQq1 q Qq4 F3 H3 s3 o3 R3 e3=>?_⟩ (hstep k its[k] U' (Xd hlt) hI)⟩
   .exact⟨Qq1,F3,R3,q,st.trans so s3,bh.trans st so o3,e3.trans e2⟩
   .exact le.rt Qq1 q Qq4 F3 H3 (st.trans so s3) (bh.trans st so o3) R3 (e3.trans e2)
  .have e:k=its.length:=by lia
   subst e;exact .inl ⟨wstop (Xj _),le.nx U' (hdone U' hI) Y' F' H' s' o' R' z'⟩
end
inductive BX where
 | L (ds:List PV)
 | K (ks:List Key) (ds:List PV)
 | T (ks:List (List Key)) (ds:List PV)
def BX.Bs:BX->List PV
 | .L ds=>ds
 | .K _ ds=>ds
 | .T _ ds=>ds
def BX.pv:BX->PV
 | .L ds=>.lst ds
 | .K ks ds=>.dK ks ds
 | .T ks ds=>.dT ks ds
def BX.ok:BX->Prop
 | .L _=>True
 | .K ks ds=>ks.length=ds.length
 | .T ks ds=>ks.length=ds.length
def BX.obj:BX->Tr->HO
 | .L _,bs=>.lst (bs.map V.ref)
 | .K ks _,bs=>.dK (ks.zip (bs.map V.ref))
 | .T ks _,bs=>.dT (ks.zip (bs.map V.ref))
def aR (K:Xa)(Fz:FZ)(H:Hp):List PV->Tr->Prop
 | [],bs=>bs=[]
 | d::ds,bs=>∃b r,bs=b::r/\Own K Fz H d b/\aR K Fz H ds r
theorem aR.length {K:Xa}:∀ {ds:List PV}{bs:Tr},aR K Fz H ds bs->ds.length=bs.length
 | [],bs,h=>by unfold aR at h;subst h;rfl
 | d::ds,bs,h=>by
  unfold aR at h;obtain⟨b,r,rfl,_,h⟩:=h;simp[aR.length h]
theorem aR.mono {K:Xa}(k:Keep Fz H H')(s:∀b,Fz b->ao b):∀ {ds:List PV}{bs:Tr},(∀b∈bs,∀o,H b=some o->H' b=some o)->aR K Fz H ds bs->aR K ao H' ds bs
 | [],bs,ha,h=>by unfold aR at h ⊢;exact h
 | d::ds,bs,ha,h=>by
  unfold aR at h ⊢;obtain⟨b,r,rfl,h1,h⟩:=h;exact⟨b,r,rfl,h1.mono k s (ha b (Xh ..)),aR.mono k s (λc hc=>ha c (Xf _ hc)) h⟩
theorem aR.get {K:Xa}:∀ {ds:List PV}{bs:Tr}{j:Nat}{d:PV},aR K Fz H ds bs->ds[j]? = some d->∃b,bs[j]? = some b/\Own K Fz H d b
 | [],bs,j,d,h,e=>by simp at e
 | d0::ds,bs,j,d,h,e=>by
  unfold aR at h;obtain⟨b,r,rfl,h1,h⟩:=h;cases j with
  | zero=>rw[List.getElem?_cons_zero]at e;cases e;exact⟨b,rfl,h1⟩
  | succ j=>rw[YR]at e ⊢;exact aR.get h e
theorem aR.has {K:Xa}:∀ {ds:List PV}{bs:Tr}{b:Addr},aR K Fz H ds bs->b∈bs->∃o,H b=some o/\¬ pR o
 | [],bs,b,h,e=>by unfold aR at h;subst h;cases e
 | d::ds,bs,b,h,e=>by
  unfold aR at h;obtain⟨b0,r,rfl,h1,h⟩:=h;rcases Xn.mp e with rfl | e
  .exact h1.at
  .exact aR.has h e
theorem aR.den {K:Xa}:∀ {ds:List PV}{bs:Tr},aR K Fz H ds bs->(∀b∈bs,Fz b)->aj K Fz H ds (bs.map V.ref)
 | [],bs,h,_=>by unfold aR at h;subst h;exact aj.nil
 | d::ds,bs,h,f=>by
  unfold aR at h;obtain⟨b,r,rfl,h1,h⟩:=h;exact aj.cons (h1.den (f b (Xh ..))) (aR.den h λc hc=>f c (Xf _ hc))
theorem aR.put {K:Xa}{o u:HO}(hu:H b=some u)(im:¬ pR u)(nf:¬ Fz b)(hb:Own K Fz (upd H b o) d b):∀ {ds:List PV}{bs:Tr}{j:Nat},aR K Fz H ds bs->bs.Nodup->bs[j]? = some b->aR K Fz (upd H b o) (ds.set j d) bs
 | [],bs,j,h,_,e=>by unfold aR at h;subst h;simp at e
 | d0::ds,bs,j,h,nd,e=>by
  have kp:Keep Fz H (upd H b o):=.mk' λc w e9 hw=>by
   have ne:c≠b:=λz=>by
    subst z;rcases hw with hw | hw
    .exact nf hw
    .rw[hu]at e9;cases e9;exact im hw
   rw[aY ne];exact e9
  unfold aR at h;obtain⟨b0,r,rfl,h1,h⟩:=h;rw[XO]at nd;cases j with
  | zero=>
   rw[List.getElem?_cons_zero]at e;cases e;rw[List.set_cons_zero];unfold aR;refine⟨b,r,rfl,hb,h.mono kp (λ_ h=>h) λc hc w hw=>?_⟩;have ne:c≠b:=λz=>nd.1 (by rw[<- z];exact hc);rw[aY ne];exact hw
  | succ j=>
   rw[YR]at e;rw[List.set_cons_succ];have ne:b0≠b:=λz=>nd.1 (z▸Xl e);unfold aR;exact⟨b0,r,rfl,h1.mono kp (λ_ h=>h) λw hw=>(by rw[aY ne];exact hw),aR.put hu im nf hb h nd.2 e⟩
theorem aR.snoc {K:Xa}(hb:Own K Fz H d b):∀ {ds:List PV}{bs:Tr},aR K Fz H ds bs->aR K Fz H (ds++[d]) (bs++[b])
 | [],bs,h=>by
  unfold aR at h;subst h;show aR K Fz H [d] [b];unfold aR;exact⟨b,[],rfl,hb,by unfold aR;rfl⟩
 | d0::ds,bs,h=>by
  unfold aR at h;obtain⟨b0,r,rfl,h1,h⟩:=h;show aR K Fz H (d0::(ds++[d])) (b0::(r++[b]));unfold aR;exact⟨b0,_,rfl,h1,aR.snoc hb h⟩
structure qJ (K:Xa)(Fz:FZ)(H:Hp)(J:BX)(a:Addr)(bs:Tr):Prop where
 at_:H a=some (J.obj bs)
 ok:J.ok
 own:aR K Fz H J.Bs bs
 nd:(a::bs).Nodup
 nf:∀b∈a::bs,¬ Fz b
theorem BX.nim (J:BX)(bs:Tr):¬ pR (J.obj bs):=by cases J<;>exact λz=>z
theorem qJ.has {K:Xa}(B:qJ K Fz H J a bs)(h:b∈a::bs):∃o,H b=some o/\¬ pR o:=by
 rcases Xn.mp h with rfl | h
 .exact⟨_,B.at_,J.nim bs⟩
 .exact B.own.has h
theorem qJ.keep {K:Xa}(B:qJ K Fz H J a bs)(k:Keep Fz H H')(s:∀b,Fz b->ao b)(ha:∀b∈a::bs,∀o,H b=some o->H' b=some o)(nf:∀b∈a::bs,¬ ao b):qJ K ao H' J a bs:=
 ⟨ha a (Xh ..) _ B.at_,B.ok,B.own.mono k s λb hb=>ha b (Xf _ hb),B.nd,nf⟩
theorem qJ.ext {K:Xa}(B:qJ K Fz H J a bs)(x:Ext Fz H ao H'):qJ K ao H' J a bs:=
 B.keep (.of x.same) x.sub (λb _ o e=>x.same b o e) λb hb z=>by
  obtain⟨o,e,_⟩:=B.has hb;rcases x.new b z with z | z
  .exact B.nf b hb z
  .rw[e]at z;cases z
structure c7 (K:Xa)(Fz:FZ)(U:aC)(J:BX)(Y:St)(H:Hp)(z:Nat)(a:Addr)(bs:Tr):Prop where
 rel:Rel K Fz U Y H
 hz:U[z]? = some none
 sz:Y[z]? = some (some (.ref a))
 box:qJ K Fz H J a bs
 no:∀b∈a::bs,¬ cP U Y b
theorem c7.ext {K:Xa}(R:c7 K Fz U J Y H z a bs)(x:Ext Fz H ao H'):c7 K ao U J Y H' z a bs:=
 ⟨R.rel.ext x,R.hz,R.sz,R.box.ext x,R.no⟩
structure gB (O:Addr->Prop)(Fz:FZ)(H:Hp)(ao:FZ)(H':Hp):Prop where
 sub:∀b,Fz b->ao b
 new:∀b,ao b->Fz b\/H b=none\/O b
 keep:∀b o,H b=some o->¬ O b->H' b=some o
def gh (O:Addr->Prop)(H:Hp)(O':Addr->Prop):Prop:=∀b,O' b->O b\/H b=none
theorem gB.of (x:Ext Fz H ao H'):gB O Fz H ao H':=
 ⟨x.sub,λb h=>(x.new b h).elim .inl (λh=>.inr (.inl h)),λb o e _=>x.same b o e⟩
theorem gB.none (s:gB O Fz H ao H')(h:H' b=Option.none):H b=Option.none\/O b:=by
 by_cases o:O b
 .exact .inr o
 .cases e:H b with
  | none=>exact .inl rfl
  | some u=>rw[s.keep b u e o]at h;cases h
theorem gB.trans {F3:FZ}{H3:Hp}(a:gB O F1 H1 F2 H2)(oi:gh O H1 O')(b:gB O' F2 H2 F3 H3):gB O F1 H1 F3 H3:=
 ⟨λc h=>b.sub c (a.sub c h),λc h=>by
  rcases b.new c h with h | h | h
  .exact a.new c h
  .exact .inr (a.none h)
  .exact .inr ((oi c h).symm),λc o e n=>by
  refine b.keep c o (a.keep c o e n) λz=>?_;rcases oi c z with z | z
  .exact n z
  .rw[e]at z;cases z⟩
theorem gh.trans {O'':Addr->Prop}(a:gB O F1 H1 F2 H2)(oi:gh O H1 O')(oj:gh O' H2 O''):gh O H1 O'':=λc h=>by
 rcases oj c h with h | h
 .exact oi c h
 .exact(a.none h).symm
theorem gh.refl:gh O H O:=λ_ h=>.inl h
def OB (U:aC)(Y:St)(A:Tr):Addr->Prop:=λb=>cP U Y b\/b∈A
structure j8 where
 nx:aC->BX->Prop
 rt:PV->Kd->Prop
 bk:aC->BX->Prop
 ct:aC->BX->Prop
structure j8.le (O O':j8):Prop where
 nx:∀U J,O.nx U J->O'.nx U J
 rt:∀d k,O.rt d k->O'.rt d k
 bk:∀U J,O.bk U J->O'.bk U J
 ct:∀U J,O.ct U J->O'.ct U J
abbrev j9:=aC->BX->j8->Prop
def yU (t:j9)(O:j8)(U:aC)(J:BX):Prop:=t U J O
theorem zdn {t:j9}{O:j8}(h:t U J O):yU t O U J:=h
def qK (K:Xa)(O:Addr->Prop)(H:Hp)(ao:FZ)(H':Hp)(d:PV):Kd->V->Prop
 | .aF,v=>aq K ao H' d v
 | .new,v=>∃a,v=.ref a/\¬ ao a/\Own K ao H' d a/\(O a\/H a=none)
 | .own _,_=>False
theorem qK.back {K:Xa}{k:Kd}(s:gB O F1 H1 F2 H2)(oi:gh O H1 O')(r:qK K O' H2 ao H' d k v):qK K O H1 ao H' d k v:=by
 cases k with
 | aF=>exact r
 | own i=>exact r
 | new=>
  obtain⟨a,e,nf,o,w⟩:=r;refine⟨a,e,nf,o,?_⟩;rcases w with w | w
  .exact oi a w
  .exact(s.none w).symm
def Gq (K:Xa)(z:Nat)(E:St->Hp->Prop)(O:Addr->Prop)(Fz:FZ)(H:Hp)(U':aC)(J':BX):Prop:=
 ∀Y' ao H' a' bs',gB O Fz H ao H'->gh O H (OB U' Y' (a'::bs'))->c7 K ao U' J' Y' H' z a' bs'->E Y' H'
def iu (K:Xa)(z:Nat)(D:Ends)(O:Addr->Prop)(Fz:FZ)(H:Hp):j8 where
 nx:=Gq K z D.nx O Fz H
 bk:=Gq K z D.bk O Fz H
 ct:=Gq K z D.ct O Fz H
 rt:=λd k=>∀v ao H',gB O Fz H ao H'->(∀b,ao b->H' b≠none)->qK K O H ao H' d k v->D.rt v H'
def Gr (K:Xa)(z:Nat)(t:j9):TS:=λD Y H=>∃U Fz J a bs,c7 K Fz U J Y H z a bs/\t U J (iu K z D (OB U Y (a::bs)) Fz H)
structure uE (X:Cx)(z:Nat)(st:Wn)(t:j9):Prop where
 mono:∀U J O O',j8.le O O'->t U J O->t U J O'
 run:PS X st (Gr X.K z t)
structure sY (X:Cx)(z:Nat)(st:List Wn)(t:j9):Prop where
 mono:∀U J O O',j8.le O O'->t U J O->t U J O'
 run:dH X st (Gr X.K z t)
theorem zut {K:Xa}{D':Ends}(s:gB O Fz H ao H')(oi:gh O H O')(h1:∀Y H,D.nx Y H->D'.nx Y H)(h2:∀v H,D.rt v H->D'.rt v H)(h3:∀Y H,D.bk Y H->D'.bk Y H)(h4:∀Y H,D.ct Y H->D'.ct Y H) :
  (iu K z D O Fz H).le (iu K z D' O' ao H') where
 nx U2 Qq13 q Qq5 F2 H2 a2 qL s2 o2 R2:=h1 _ _ (q Qq5 F2 H2 a2 qL (s.trans oi s2) (gh.trans s oi o2) R2)
 bk U2 Qq13 q Qq5 F2 H2 a2 qL s2 o2 R2:=h3 _ _ (q Qq5 F2 H2 a2 qL (s.trans oi s2) (gh.trans s oi o2) R2)
 ct U2 Qq13 q Qq5 F2 H2 a2 qL s2 o2 R2:=h4 _ _ (q Qq5 F2 H2 a2 qL (s.trans oi s2) (gh.trans s oi o2) R2)
 rt d k q v F2 H2 s2 al r:=h2 _ _ (q v F2 H2 (s.trans oi s2) al (r.back s oi))
theorem Gs {K:Xa}(s:gB O Fz H ao H')(oi:gh O H O'):(iu K z D O Fz H).le (iu K z D O' ao H'):=
 zut s oi (λ_ _ h=>h) (λ_ _ h=>h) (λ_ _ h=>h) (λ_ _ h=>h)
theorem gB.stay {K:Xa}(R:Rel K Fz U Y H):gB O Fz H Fz H:=.of ⟨Same.refl H,λ_ h=>h,λ_ h=>.inl h,R.al⟩
theorem c7.frozen {K:Xa}(R:c7 K Fz U J Y H z a bs):Rel K (λb=>Fz b\/b∈a::bs) (U.set z (some (J.pv,false))) Y H:=by
 have hz:z<U.length:=(Xc.mp R.hz).1;have hd:aq K (λb=>Fz b\/b∈a::bs) H J.pv (.ref a):=by
  have hl:=R.box.own.length;have hok:=R.box.ok;have ow:=(R.box.own.mono (ao:=λb=>Fz b\/b∈a::bs) (Keep.of (Same.refl H)) (λ_ h=>.inl h) (λ_ _ _ h=>h)).den λb hb=>.inr (Xf _ hb);have hat:=R.box.at_;cases J with
  | L ds=>show aq _ _ _ (.lst ds) _;simp only[aq];exact⟨a,_,rfl,.inl ⟨.inr (Xh ..),.inl hat⟩,ow⟩
  | K ks ds=>show aq _ _ _ (.dK ks ds) _;simp only[aq];exact⟨a,_,rfl,.inr (Xh ..),.inl hat,by rw[Xb,<- hl];exact hok,ow⟩
  | T ks ds=>show aq _ _ _ (.dT ks ds) _;simp only[aq];exact⟨a,_,rfl,.inr (Xh ..),.inl hat,by rw[Xb,<- hl];exact hok,ow⟩
 refine⟨λb hb=>?_,by rw[Yf];exact R.rel.len,λj e he=>?_,λj e he=>?_,λj k d' e' b h1 h2 h3 h4=>?_⟩
 .rcases hb with hb | hb
  .exact R.rel.al b hb
  .obtain⟨o,e,_⟩:=R.box.has hb;rw[e];exact λz=>nomatch z
 .by_cases hj:z=j
  .subst hj;rw[Xm hz]at he;cases he;exact⟨_,R.sz,hd⟩
  .rw[Xk hj]at he;obtain⟨v,q1,q2⟩:=R.rel.aF j e he;exact⟨v,q1,aq.mono (Keep.of (Same.refl _)) (λ_ h=>.inl h) _ _ q2⟩
 .have hj:z≠j:=λy=>by
   subst y;rw[Xm hz]at he;cases he
  rw[Xk hj]at he;obtain⟨b,q1,q2,q3⟩:=R.rel.own j e he;refine⟨b,q1,λy=>?_,q3.mono (Keep.of (Same.refl _)) (λ_ h=>.inl h) (λ_ h=>h)⟩;rcases y with y | y
  .exact q2 y
  .exact R.no b y ⟨j,e,he,q1⟩
 .have nj:z≠j:=λy=>by subst y;rw[Xm hz]at h1;cases h1
  have nk:z≠k:=λy=>by subst y;rw[Xm hz]at h2;cases h2
  rw[Xk nj]at h1;rw[Xk nk]at h2;exact R.rel.inj j k d' e' b h1 h2 h3 h4
theorem Gu:∀b,cP (U.set z (some (d,false))) Y b->cP U Y b:=λb ⟨j,e,h1,h2⟩=>by
 have nj:z≠j:=λy=>by
  subst y;by_cases hi:z<U.length
  .rw[Xm hi]at h1;cases h1
  .rw[XQ (by lia),XA (by lia)]at h1;cases h1
 rw[Xk nj]at h1;exact⟨j,e,h1,h2⟩
def rdE (z:Nat)(te:aL)(U:aC)(J:BX)(Q:PV->Prop):Prop:=te (U.set z (some (J.pv,false))) λd k=>k=.aF/\zbJ d=true/\Q d
theorem MP {X:Cx}{e:Expr}{te:aL}(he:aG X e te){Fz:FZ}{U:aC}{J:BX}{Y:St}{H:Hp}{z:Nat}{a:Addr}{bs:Tr}(R:c7 X.K Fz U J Y H z a bs){Q:PV->Prop}{W:V->Hp->Prop}
  (h:rdE z te U J Q) (hw:∀d v H',Q d->zbJ d=true->Ext Fz H Fz H'->aq X.K Fz H' d v->W v H'):lift X.K te Y H W:=by
 refine⟨_,_,R.frozen,he.mono _ _ _ (λd k q v ao H' p=>?_) h⟩;obtain⟨rfl,nm,q⟩:=q;refine hw d v H' q nm ⟨p.ext.same,λ_ h=>h,λ_ h=>.inl h,λb hb y=>R.rel.al b hb (p.ext.same.free y)⟩ (Ft d v nm p.dZ)
section
variable {X:Cx}{z:Nat}{st:Wn}{rest a b body:List Wn}{t u:j9}{e c:Expr}{te:aL}{tc:fL}{pos pos' p:Pos}{x:Str}
def zbB:j9:=λU J O=>O.nx U J
def zcO (t u:j9):j9:=λU J O=>t U J { O with nx:=yU u O }
theorem zuu:sY X z [] zbB where
 mono U J O O' m h:=m.nx _ _ h
 run:=dH.weak Je λD Y H h=>by
  obtain⟨U,Fz,J,a,bs,R,h⟩:=h;exact h Y Fz H a bs (gB.stay R.rel) gh.refl R
theorem MT (h1:uE X z st t)(h2:sY X z rest u):sY X z (st::rest) (zcO t u) where
 mono U J O O' m h:=h1.mono U J { O with nx:=λU' J'=>u U' J' O } _ ⟨λU' J' q=>h2.mono U' J' O O' m q,m.rt,m.bk,m.ct⟩ h
 run:=dH.weak (qj h1.run h2.run) λD Y H h=>by
  obtain⟨U,Fz,J,a,bs,R,h⟩:=h;refine⟨U,Fz,J,a,bs,R,h1.mono U J { iu X.K z D (OB U Y (a::bs)) Fz H with nx:=λU' J'=>u U' J' (iu X.K z D (OB U Y (a::bs)) Fz H) } _ ⟨λU' J' q=>?_,λ_ _ q=>q,λ_ _ q=>q,λ_ _ q=>q⟩ h⟩;intro Y' ao H' a' bs' s oi R';exact⟨U',ao,J',a',bs',R',h2.mono U' J' _ _ (Gs s oi) q⟩
theorem c7.set {K:Xa}{z:Nat}{a:Addr}(R:c7 K Fz U J Y H z a bs)(h:aq K Fz H d v)(hi:i≠z):c7 K Fz (U.set i (some (d,false))) J (Y.set i (some v)) H z a bs:=
 ⟨R.rel.set h,by rw[Xk hi];exact R.hz,by rw[Xk hi];exact R.sz,R.box,λb hb y=>R.no b hb (oK b y)⟩
theorem OB.set {A:Tr}:gh (OB U Y A) H (OB (U.set i (some (d,false))) (Y.set i (some v)) A):=λb hb=>by
 rcases hb with hb | hb
 .exact .inl (.inl (oK b hb))
 .exact .inl (.inr hb)
def zcZ (ti:iW)(i:Nat)(tb:j9):j9:=λU J O=>ti U λits o=>o=false/\∃Iv:Nat->aC->BX->Prop,Iv 0 U J/\(∀k d U' J',its[k]? = some d->Iv k U' J'->yU tb { O with nx:=Iv (k+1),ct:=Iv (k+1),bk:=O.nx } (U'.set i (some (d,false))) J')/\∀U' J',Iv its.length U' J'->O.nx U' J'
theorem zuv {i:Nat}{iter:Expr}{ti:iW}(hN:X.N.Nodup)(hi:X.N[i]? = some x)(hx:Loc X.env.scope x)(hc:X.calm=true)(hp:W3 (Wh X.prog X.w) X.A X.env X.xe)(hit:lK X (.Name x p) iter ti)(hb:sY X z body t)(hiz:i≠z:=by decide)
  (hf:lE X x:=by first | exact .inl rfl | exact .inr rfl | assumption) (hs:oh X iter:=by intro _;rfl):uE X z (.For (.Name x p) iter body [] pos) (zcZ ti i t) where
 mono U J O O' m h:=hit.mono U _ _ (λits o ⟨e,I,h0,hs,hd⟩=>⟨e,I,h0,λk d U' J' hk hI=>hb.mono _ _ { O with nx:=I (k+1),ct:=I (k+1),bk:=O.nx } _ ⟨λ_ _ q=>q,m.rt,m.nx,λ_ _ q=>q⟩ (hs k d U' J' hk hI),λU' J' hI=>m.nx _ _ (hd U' J' hI)⟩) h
 run:=PS.weak (u9 hp hc hit.run (Ac hN hi hx hf) hb.run hs) λD Y H h=>by
  obtain⟨U,Fz,J,a,bs,R,h⟩:=h;refine⟨U,Fz,R.rel,hit.mono U _ _ (λits o q Qq12 bJ H1 x wk=>?_) h⟩;obtain⟨rfl,Iv,h0,hstep,hdone⟩:=q;have R1:=R.ext x;have le:=Gs (K:=X.K) (z:=z) (D:=D) (O:=OB U Y (a::bs)) (.of x) gh.refl;refine⟨λi m Y' H'=>m=its.length-i/\i<=its.length/\∃U' F' J' a' bs',c7 X.K F' U' J' Y' H' z a' bs'/\Iv i U' J'/\gB (OB U Y (a::bs)) bJ H1 F' H'/\gh (OB U Y (a::bs)) H1 (OB U' Y' (a'::bs')),
   ⟨its.length,by lia,XM _,U,bJ,J,a,bs,R1,h0,gB.stay R1.rel,gh.refl⟩,?_⟩
  rintro k m Y' H' ⟨rfl,hle,U',F',J',a',bs',R',hI,s',o'⟩;have kp:nM bJ H1 H':=λb o e w=>by
   refine s'.keep b o e λy=>?_;rcases y with ⟨i,d,h1,h2⟩ | y
   .obtain⟨a0,q1,q2,q3⟩:=R1.rel.own i d h1;rw[h2]at q1;cases q1;rcases w with w | w
    .exact q2 w
    .obtain⟨o',q4,q5⟩:=q3.at;rw[e]at q4;cases q4;exact q5 w
   .rcases w with w | w
    .exact R1.box.nf b y w
    .obtain⟨o',q4,q5⟩:=R1.box.has y;rw[e]at q4;cases q4;exact q5 w
  obtain⟨oO,wstop⟩:=wk H' (.inr ⟨rfl,kp⟩) k;by_cases hlt:k<its.length
  .obtain⟨go,yl⟩:=oO its[k] (Xd hlt);refine .inr ⟨go,λQq5 H2=>∃U2 F2 Qq13 a2 qL,c7 X.K F2 U2 Qq13 Qq5 H2 z a2 qL/\Iv (k+1) U2 Qq13/\gB (OB U Y (a::bs)) bJ H1 F2 H2/\gh (OB U Y (a::bs)) H1 (OB U2 Qq5 (a2::qL)),λQq5 H2 hN=>⟨its.length-(k+1),by lia,rfl,hlt,hN⟩,λxv H2 y=>?_⟩;obtain⟨sm,dn⟩:=yl xv H2 y;have x2:Ext F' H' F' H2:=⟨sm,λ_ h=>h,λ_ h=>.inl h,λb hb z=>R'.rel.al b hb (sm.free z)⟩;have R2:=(R'.ext x2).set (i:=i) (aq.mono (Keep.of (Same.refl _)) s'.sub _ _ dn) hiz;have so:gh (OB U Y (a::bs)) H1 (OB (U'.set i (some (its[k],false))) (Y'.set i (some xv)) (a'::bs')):=λb hb=>by
    rcases hb with hb | hb
    .exact o' b (.inl (oK b hb))
    .exact o' b (.inr hb)
   have st:gB (OB U Y (a::bs)) bJ H1 F' H2:=s'.trans o' (.of x2);refine⟨_,F',J',a',bs',R2,hb.mono _ _ { iu X.K z D (OB U Y (a::bs)) Fz H with nx:=Iv (k+1),ct:=Iv (k+1),bk:=(iu X.K z D (OB U Y (a::bs)) Fz H).nx } _ ⟨λQq1 Qq14 q Qq4 F3 H3 a3 bs3 s3 o3 R3=>?_,λd k q v F3 H3 s3 al r=>?_,λQq1 Qq14 q Qq4 F3 H3 a3 bs3 s3 o3 R3=>?_,λQq1 Qq14 q Qq4 F3 H3 a3 bs3 s3 o3 R3=>?_⟩ (hstep k its[k] U' J' (Xd hlt) hI)⟩
   .exact⟨Qq1,F3,Qq14,a3,bs3,R3,q,st.trans so s3,gh.trans st so o3⟩
   .exact le.rt d k q v F3 H3 (st.trans so s3) al (r.back st so)
   .exact le.nx Qq1 Qq14 q Qq4 F3 H3 a3 bs3 (st.trans so s3) (gh.trans st so o3) R3
   .exact⟨Qq1,F3,Qq14,a3,bs3,R3,q,st.trans so s3,gh.trans st so o3⟩
  .have e:k=its.length:=by lia
   subst e;exact .inl ⟨wstop (Xj _),le.nx U' J' (hdone U' J' hI) Y' F' H' a' bs' s' o' R'⟩
def zbC (z:Nat)(t:dU):j9:=λU J O=>b8 t { nx:=λ_=>False,rt:=O.rt,bk:=λ_=>False,ct:=λ_=>False } (U.set z (some (J.pv,false)))
theorem zrE {t:dU}(h:gO X rest t):sY X z rest (zbC z t) where
 mono U J O O' m q:=h.mono _ { nx:=λ_=>False,rt:=O.rt,bk:=λ_=>False,ct:=λ_=>False } _ ⟨λ_ q=>q.elim,m.rt,λ_ q=>q.elim,λ_ q=>q.elim⟩ q
 run:=dH.weak h.run λD Y H q=>by
  obtain⟨U,Fz,J,a,bs,R,q⟩:=q;have RF:=R.frozen;refine⟨_,_,RF,h.mono _ { nx:=λ_=>False,rt:=(iu X.K z D (OB U Y (a::bs)) Fz H).rt,bk:=λ_=>False,ct:=λ_=>False } _ ⟨λ_ q=>q.elim,λd k q v ao H' s al r=>?_,λ_ q=>q.elim,λ_ q=>q.elim⟩ q⟩;refine q v ao H' ⟨λb hb=>s.sub b (.inl hb),λb hb=>?_,λb o e n=>s.keep b o e λy=>n (.inl (Gu b y))⟩ al ?_
  .rcases s.new b hb with (y | y) | y | y
   .exact .inl y
   .exact .inr (.inr (.inr y))
   .exact .inr (.inl y)
   .exact .inr (.inr (.inl (Gu b y)))
  .cases k with
   | aF=>exact r
   | own i=>exact r
   | new=>
    obtain⟨a0,e,nf,o,w⟩:=r;refine⟨a0,e,nf,o,?_⟩;rcases w with w | w
    .exact .inl (.inl (Gu a0 w))
    .exact .inr w
end
theorem Rel.unset {K:Xa}(R:Rel K Fz U Y H):Rel K Fz (U.set i none) (Y.set i (some v)) H:=by
 have ne:∀(j:Nat) (p:PV×Bool),(U.set i none)[j]? = some (some p)->i≠j/\U[j]? = some (some p):=λj p h=>by
  have nj:i≠j:=λz=>by
   subst z;by_cases hi:i<U.length
   .rw[Xm hi]at h;cases h
   .rw[XQ (by lia),XA (by lia)]at h;cases h
  rw[Xk nj]at h;exact⟨nj,h⟩
 refine⟨R.al,by rw[Yf,Yf];exact R.len,λj d h=>?_,λj d h=>?_,λj k d e a h1 h2 h3 h4=>?_⟩
 .obtain⟨nj,h⟩:=ne j _ h;rw[Xk nj];exact R.aF j d h
 .obtain⟨nj,h⟩:=ne j _ h;rw[Xk nj];exact R.own j d h
 .obtain⟨nj,h1⟩:=ne j _ h1;obtain⟨nk,h2⟩:=ne k _ h2;rw[Xk nj]at h3;rw[Xk nk]at h4;exact R.inj j k d e a h1 h2 h3 h4
theorem vP:∀b,cP (U.set i none) (Y.set i (some v)) b->cP U Y b:=λb ⟨j,e,h1,h2⟩=>by
 have nj:i≠j:=λz=>by
  subst z;by_cases hi:i<U.length
  .rw[Xm hi]at h1;cases h1
  .rw[XQ (by lia),XA (by lia)]at h1;cases h1
 rw[Xk nj]at h1 h2;exact⟨j,e,h1,h2⟩
theorem c7.put {K:Xa}{Fz:FZ}{U:aC}{J:BX}{Y:St}{H:Hp}{z:Nat}{a:Addr}{bs:Tr}{j:Nat}{b:Addr}{d:PV}{o u:HO}(R:c7 K Fz U J Y H z a bs)(hb:bs[j]? = some b)(hu:H b=some u)(im:¬ pR u)(ow:Own K Fz (upd H b o) d b)
  (J':BX) (hc:J'.Bs=J.Bs.set j d) (ho:J'.obj bs=J.obj bs) (hk:J'.ok):c7 K Fz U J' Y (upd H b o) z a bs/\gB (OB U Y (a::bs)) Fz H Fz (upd H b o):=by
 have hm:b∈a::bs:=Xf _ (Xl hb);have nf:=R.box.nf b hm;have no:=R.no b hm;have nd:=R.box.nd;rw[XO]at nd;have nea:a≠b:=λy=>nd.1 (by rw[y];exact Xl hb);refine⟨⟨R.rel.other hu im nf no,R.hz,R.sz,⟨by rw[aY nea,ho];exact R.box.at_,hk,by rw[hc];exact aR.put hu im nf ow R.box.own nd.2 hb,R.box.nd,R.box.nf⟩,R.no⟩,⟨λ_ h=>h,λ_ h=>.inl h,λc w e n=>?_⟩⟩;have ne:c≠b:=λy=>n (.inr (by rw[y];exact hm));rw[aY ne];exact e
end PL
namespace L2
open PySem PySem.Spec PyProof.Rows
section
variable {X:Cx}{pins:Tg}{Y:List (Option V)}{H:Hp}{s:Wc}{h':Heap}
theorem Inv.Bt {t':Nat}{ch:Tr}(I:Inv X pins Y H s)(k:∀b o,b∉ch->s.heap.get? b=some o->h'.get? b=some o)(hf:∀b∈ch,fJ X pins H b):Inv X pins Y H { s with heap:=h',toks:=t' }:=by
 have nit:∀b u,H b=some u->b∉ch:=λb u e z=>by rw[(hf b z).1]at e;cases e
 refine I.step (g':=s.gens) (d':=s.drawn) (ch:=ch) (λb hb=>?_) (λb o _ _ hc e _=>k b o hc e) (λb o _ _ hc e _=>⟨o.slots,k b o hc e⟩) (λ_ _ _ _ n=>n)
  (λb o hc e=>⟨o,k b o hc e⟩) (λ_ _ e=>e) (λ_ _ _ e=>e) (λb ps e=>⟨#[],by rw[e];simp⟩) (λm hm=>?_) (λb u e=>?_) I.bare
 .obtain⟨_,f1,_,f3,f4,f5⟩:=hf b hb;exact⟨f3,f1,f4,f5⟩
 .obtain⟨o,es,ep,ho,r⟩:=hm;exact⟨o,es,ep,k _ o (λz=>(hf _ z).2.1 rfl) ho,r⟩
 .refine(I.hok b u e).stay (λc v hc q=>k c v ?_ q) (λ_ q=>q) λ_ _ q=>q;rcases hc with z | z
  .rw[z];exact nit b u e
  .exact nit c _ z
end
def Ite (K:Xa)(a:Addr):It:=
 ⟨λi H=>∃xs x,bI K H a xs/\xs[i]? = some x,λi H x H'=>∃p y,x=.ref p/\H p=none/\(∀xs,bI K H a xs->xs[i]? = some y)/\H'=upd H p (.tup [.int (i:Int),y]),λi H=>∃xs,bI K H a xs/\xs.length<=i⟩
theorem zpk {P:Wg}{w:Wj}{K:Xa}{elts:List Expr}{x1:Nat}{pos:Pos}(a e it:Addr)(hne:e≠it):Turn P w K (.Tuple elts x1 pos) (Ite K a) [e,it] e (λi h=>(∃old,IsEnum h e it (i:Int) old)/\h.IsListIter it a i) where
 mem:=by simp
 obj:=λi h st b hb=>by
  obtain⟨⟨old,he⟩,o,ho,c,d⟩:=st;rcases Xn.mp hb with rfl | hb
  .exact⟨_,he,λv z=>by cases z⟩
  .have:=Xv.mp hb;subst this;exact⟨o,ho,λv z=>by rw[d]at z;cases z⟩
 keep:=λi h h' st k=>by
  obtain⟨⟨old,he⟩,hit⟩:=st;exact⟨⟨old,k e (by simp) _ he⟩,hit.at λo q=>k it (by simp) o q⟩
 item:=by
  intro X hP hw hK hc i pins s Y H E I hf st hg;subst hP hw hK;obtain⟨⟨old,he⟩,hit⟩:=st;obtain⟨xs,x,hq,hx⟩:=hg;obtain⟨its,rv,p,hz⟩:=I.list hq;obtain⟨u,hu,ru⟩:=rv.get hx;have hfr:H s.heap.objs.size=none:=I.hok.fresh (Xj _);have heS:e<s.heap.objs.size:=Xw he;have hiS:it<s.heap.objs.size:=by obtain⟨o,ho,_⟩:=id hit;exact Xw ho
  refine wpAny_pyNext_enum_item he hit p.isList (x:=u) (by simpa using hu) hne λh1 heo hit1 ht1 hz1 hk1=>⟨.ref s.heap.objs.size,rfl,?_⟩;refine wpAny_letOwnedTupleGo_enum heo λh2 he2 hs2=>?_;replace hs2:XV e h1 h2:=hs2;have I1:=I.laid (a:=s.heap.objs.size) (o:=.tup [.int (i:Int),x]) (h':=s.heap.push { cls:=.type "tuple",data:=.seq #[.int i s.toks,u] }) (t':=s.toks+1) (λb u e=>Xe _ e) (Xj _)
   ⟨by show 2<=Wf;decide,[.int i s.toks,u],.cons ⟨_,rfl⟩ (.cons ru .nil),mL.new _ _⟩
  have hfp:∀b∈[e,it],fJ X pins (upd H s.heap.objs.size (.tup [.int (i:Int),x])) b:=λb hb=>by
   obtain⟨f0,fr⟩:=hf b hb;have hbS:b≠s.heap.objs.size:=by
    rcases Xn.mp hb with rfl | hb
    .exact XB heS
    .rw[Xv.mp hb];exact XB hiS
   exact⟨by rw[aY hbS];exact f0,fr⟩
  have I2:=I1.Bt (h':=h2) (t':=s.toks+1) (ch:=[e,it]) (λb o hb eb=>by
   have hb1:b≠e:=λz=>hb (by simp[z]);have hb2:b≠it:=λz=>hb (by simp[z]);refine(hs2.2 b hb1).trans ?_;rcases Heap.get?_push_cases eb with ⟨rfl,rfl⟩ | eb
   .exact ht1
   .exact hk1 b o hb1 hb2 eb) hfp
  refine⟨.ref s.heap.objs.size,_,I2,rfl,⟨_,x,rfl,hfr,λys hy=>by rw[I.u5 hy hq];exact hx,rfl⟩,⟨⟨u,?_⟩,?_⟩,λb hb=>(hfp b hb).1⟩
  .have:((i+1:Nat):Int)=(i:Int)+1:=by lia
   rw[this];exact he2
  .exact hit1.extBut hs2.extBut (QD hne)
 done:=by
  intro X hP hw hK hc i pins s Y H E I hf st hg;subst hP hw hK;obtain⟨⟨old,he⟩,hit⟩:=st;obtain⟨xs,hq,hx⟩:=hg;obtain⟨its,rv,p,hz⟩:=I.list hq;have hl:=rv.length;obtain⟨f0,f1,f2,f3,f4,f5⟩:=hf it (by simp);exact wpAny_pyNext_enum_end (I.ok.hd hc) he hit p.isList (by simp;lia) λh' eb=>⟨rfl,I.turned (t':=s.toks) (λb o hb e=>eb b o hb e) f0 f1 f3 f4 f5⟩
 self:=λ_ _ _ _ _ st h=>by obtain⟨⟨old,he⟩,_⟩:=st;exact wpAny_pyIter_enum he h
section
variable {X:Cx}{elts:List Expr}{x1:Nat}{tpos p pos:Pos}{e e2:Expr}{te te2:TE}
theorem zgW:Wm "enumerate" = some (.type "enumerate"):=by decide +kernel
def zxY (K:Xa)(te:TE):TI:=λY H R=>te Y H λx H1=>∃a,x=.ref a/\(∃xs,bI K H1 a xs)/\R (Ite K a) H1
theorem zuw (hg:Gl X "enumerate") (hm:X.mg "enumerate" = none) (he:PE X e te) (hs1:cQ X e []:=by rfl) (gA:cO X pos []:=by rfl) :
  PI X (.Tuple elts x1 tpos) (.Call (.Name "enumerate" p) [e] [] pos) (zxY X.K te):=by
 intro pins s Y H R I h;refine Wv (qd I hg hm zgW ?_ (by decide) (by decide));refine Qx ?_ hs1 gA;rw[hs1];show We _ _ (spliced ((false,Ww _ X.env)::WK pos (Wo [] X.env))) _ _ s;refine Qu (aQ (he pins s Y H _ I h) λu s1 ⟨x,H1,I1,r1,a,ex,⟨xs,hq⟩,q⟩=>QC ?_);subst ex;obtain rfl:u=Qm a:=r1;obtain⟨its,r,pl,hz⟩:=I1.list hq;refine call_enumerate_list pl.isList λh' hE hit hsz hk=>?_;refine wpAny_pyIter_enum (s:={ s1 with heap:=h' }) hE ?_;have I2:Inv X pins Y H1 { s1 with heap:=h' }:=I1.kept (t':=s1.toks) hk;refine⟨s1.heap.objs.size+1,[s1.heap.objs.size+1,s1.heap.objs.size],_,_,H1,rfl,I2,zpk a _ _ (Nat.succ_ne_self _),⟨⟨_,hE⟩,hit⟩,λb hb=>?_,q⟩;have hb':s1.heap.objs.size<=b:=by
  rcases Xn.mp hb with rfl | hb
  .exact Ph _
  .rw[Xv.mp hb];exact Xj _
 exact I1.jV hb' (I1.hok.fresh hb')
end
end L2
namespace PL
open PySem PySem.Spec L2
open PyProof.Rows hiding St
def uF (ds:List PV):List PV:=(XE ds.length).map λ(i:Nat)=>.tup [.int (i:Int),ds.getD i .non]
theorem Gv {ds:List PV}{i:Nat}{d:PV}(h:(uF ds)[i]? = some d):∃x,ds[i]? = some x/\d=.tup [.int (i:Int),x]:=by
 unfold uF at h;rw[Xg]at h;rcases Q5 i ds.length with hi | hi
 .rw[List.getElem?_range hi]at h;cases h;exact⟨ds[i],Xd hi,by show PV.tup [PV.int (i:Int),ds.getD i PV.non]=_;rw[Xi,Xd hi];rfl⟩
 .rw[XA (by simpa using hi)]at h;cases h
theorem yV (ds:List PV):(uF ds).length=ds.length:=by simp[uF]
def zbD (te:aL):iW:=λU Q=>te U λd k=>∃ds,d=.lst ds/\Q (uF ds) (isOwn k)
section
variable {X:Cx}{elts:List Expr}{x1:Nat}{tpos p pos:Pos}{e:Expr}{te:aL}
theorem M4 (hg:Gl X "enumerate") (hm:X.mg "enumerate" = none) (he:aG X e te) (hs1:cQ X e []:=by rfl) (gA:cO X pos []:=by rfl) :
  lK X (.Tuple elts x1 tpos) (.Call (.Name "enumerate" p) [e] [] pos) (zbD te) where
 mono U Q Q' m h:=he.mono U _ _ (λd k ⟨ds,e,q⟩=>⟨ds,e,m _ _ q⟩) h
 run:=PI.weak (zuw hg hm he.run hs1 gA) λY H Rr h=>by
  obtain⟨U,Fz,R,h⟩:=h;refine⟨U,Fz,R,he.mono U _ _ (λd k q v ao H' p=>?_) h⟩;obtain⟨ds,e,q⟩:=q;subst e;have rt:=p.root R;obtain⟨a,xs,rfl,h1,h2⟩:=fG rt;refine⟨a,rfl,⟨xs,h1⟩,?_⟩;have one:∀(F2:FZ) (H2:Hp) (zs:List V),bI X.K H2 a zs->aj X.K F2 H2 ds zs->∀i:Nat,(∀d,(uF ds)[i]? = some d->(Ite X.K a).go i H2/\∀x H3,(Ite X.K a).rW i H2 x H3->Same H2 H3/\aq X.K F2 H3 d x)/\((uF ds).length<=i->(Ite X.K a).stop i H2):=λF2 H2 zs g1 g3 i=>by
   have hl:=g3.length;refine⟨λd hd=>?_,λhi=>⟨zs,g1,by rw[yV]at hi;lia⟩⟩;obtain⟨x,hx,rfl⟩:=Gv hd;obtain⟨v,q1,q2⟩:=g3.get hx;refine⟨⟨zs,v,g1,q1⟩,λy H3 ⟨pp,w,ey,hn,gy,e3⟩=>?_⟩;subst ey e3;have exy:=gy zs g1;rw[q1]at exy;cases exy;have sm:Same H2 (upd H2 pp (.tup [.int (i:Int),v])):=λb o hb=>by rw[aY (mK hb hn)];exact hb
   refine⟨sm,?_⟩;simp only[aq];exact⟨pp,_,rfl,cg,aj.cons (by simp only[aq]) (aj.cons (aq.mono (.of sm) (λ_ h=>h) _ _ q2) aj.nil)⟩
  cases k with
  | own i=>
   refine q _ ao H' p.ext λH2 hH=>?_;rcases hH with hH | ⟨z,_⟩
   .exact one ao H2 xs (hH.seq h1) (aj.mono (.of hH) (λ_ h=>h) _ _ h2)
   .cases z
  | aF=>
   have pd:aq X.K ao H' (.lst ds) (.ref a):=p.dZ;simp only[aq]at pd;obtain⟨a',xs',e,h3,h4⟩:=pd;cases e;refine q _ ao H' p.ext λH2 hH=>?_;have kp:Keep ao H' H2:=hH.elim (λz=>.of z) (λz=>.mk' z.2);exact one ao H2 xs' (h3.elim (λh=>.inl (kp.rd trivial h.1 h.2)) KX.sq) (aj.mono kp (λ_ h=>h) _ _ h4)
  | new=>
   obtain⟨b,e,hn,nf,o⟩:=p.dZ;cases e;obtain⟨xs',o1,o2⟩:=o;refine q _ (λb=>ao b\/b=a) H' (p.ext.add hn (by rw[o1];exact λz=>nomatch z)) λH2 hH=>?_;have kp:Keep (λb=>ao b\/b=a) H' H2:=hH.elim (λz=>.of z) (λz=>.mk' z.2);exact one _ H2 xs' (.inl (kp.rd trivial (.inr rfl) (.inl o1))) (aj.mono kp (λ_ h=>h) _ _ (aj.mono (Keep.of (Same.refl _)) (λ_ h=>.inl h) _ _ o2))
end
end PL
namespace L2
open PySem PySem.Spec PySem.W
open PyProof.Rows hiding St
def oX (K:Xa)(a:Addr)(n:Nat):It:=⟨λi H=>i<n/\∃xs x,bI K H a xs/\xs.length=n/\xs[n-1-i]? = some x,λi H x H'=>H'=H/\∀xs,bI K H a xs->xs[n-1-i]? = some x,λi _=>n<=i⟩
def sZ (n i:Nat):Int:=if i<n then((n-1-i:Nat):Int) else -1
theorem zrF {P:Wg}{w:Wj}{K:Xa}{tg:Expr}(a it:Addr)(n:Nat):Turn P w K tg (oX K a n) [it] it (λi h=>h.IsRevIter it a (sZ n i)) where
 mem:=by simp
 obj:=λi h st b hb=>by
  have e:b=it:=by simpa using hb
  subst e;obtain⟨o,e,c,d⟩:=st;exact⟨o,e,λv z=>by rw[d]at z;cases z⟩
 keep:=λi h h' st k=>st.at λo e=>k it (by simp) o e
 item:=by
  intro X hP hw hK hc i pins s Y H E I hf st hg;subst hP hw hK;obtain⟨hi,xs,x,hq,hl,hx⟩:=hg;obtain⟨its,rv,p,hz⟩:=I.list hq;obtain⟨u,hu,ru⟩:=rv.get hx;obtain⟨f0,f1,f2,f3,f4,f5⟩:=hf it (by simp);have e0:sZ n i=((n-1-i:Nat):Int):=Qf hi;rw[e0]at st;refine wpAny_pyNext_rev_item st p.isList (x:=u) (by simpa using hu) λh' st' sb=>?_;have e1:((n-1-i:Nat):Int)-1=sZ n (i+1):=by
   unfold sZ;split<;>lia
  rw[e1]at st';have I1:Inv X pins Y H { s with heap:=h' }:=I.turned (t':=s.toks) (λb o hb e=>(sb.2 b hb).trans e) f0 f1 f3 f4 f5;obtain⟨o,e,c,d⟩:=id st';exact⟨u,rfl,Ad (s:={ s with heap:=h' }) e c d (by decide) ⟨x,H,I1,ru,⟨rfl,λys hy=>by rw[I.u5 hy hq];exact hx⟩,st',λb hb=>(hf b hb).1⟩⟩
 done:=by
  intro X hP hw hK hc i pins s Y H E I hf st hg;subst hP hw hK;have hi:n<=i:=hg;obtain⟨f0,f1,f2,f3,f4,f5⟩:=hf it (by simp);have e0:sZ n i = -1:=Qe (by lia);rw[e0]at st;exact wpAny_pyNext_rev_end (I.ok.hd hc) st λh' eb=>⟨rfl,I.turned (t':=s.toks) (λb o hb e=>eb b o hb e) f0 f1 f3 f4 f5⟩
 self:=λ_ _ _ _ _ st h=>wpAny_pyIter_revIter st h
theorem zht:Wm "reversed" = some (.type "reversed"):=by decide +kernel
section
variable {X:Cx}{tg e:Expr}{te:TE}{p pos:Pos}
theorem zwQ (hg:Gl X "reversed") (hm:X.mg "reversed" = none) (he:PE X e te) (hs1:cQ X e []:=by rfl) (gA:cO X pos []:=by rfl) :
  PI X tg (.Call (.Name "reversed" p) [e] [] pos) (λY H R=>te Y H λx H1=>∃a xs,x=.ref a/\bI X.K H1 a xs/\R (oX X.K a xs.length) H1):=by
 intro pins s Y H R I h;refine Wv (qd I hg hm zht ?_ (by decide) (by decide));refine Qx ?_ hs1 gA;rw[hs1];show We _ _ (spliced ((false,Ww _ X.env)::WK pos (Wo [] X.env))) _ _ s;refine Qu (aQ (he pins s Y H _ I h) λu s1 ⟨x,H1,I1,r1,a,xs,ex,hq,q⟩=>QC ?_);subst ex;obtain rfl:u=Qm a:=r1;obtain⟨its,r,pl,hz⟩:=I1.list hq;have hl:=r.length;refine call_reversed_list pl.isList ?_;have hit:(s1.heap.push (revObj a ((its.toArray.size:Int)-1))).IsRevIter s1.heap.objs.size a (sZ xs.length 0):=by
  have e:((its.toArray.size:Int)-1)=sZ xs.length 0:=by
   unfold sZ;rw[Xo];split<;>lia
  rw[e];exact⟨_,Xx _ rfl,rfl,rfl⟩
 refine wpAny_pyIter_revIter (s:={ s1 with heap:=s1.heap.push (revObj a ((its.toArray.size:Int)-1)) }) hit ?_;refine⟨s1.heap.objs.size,[s1.heap.objs.size],_,_,H1,rfl,I1.kept (t':=s1.toks) λb o e=>Xe _ e,zrF a _ xs.length,hit,λb hb=>?_,q⟩;have hb':b=s1.heap.objs.size:=by simpa using hb
 subst hb';exact I1.jV (Xj _) (I1.hok.fresh (Xj _))
end
end L2
namespace PL
open PySem PySem.Spec L2
open PyProof.Rows hiding St
def zda (te:aL):iW:=λU Q=>te U λd k=>∃ds,d=.lst ds/\Q ds.reverse (isOwn k)
section
variable {X:Cx}{tg e:Expr}{te:aL}{p pos:Pos}
theorem Gw (hg:Gl X "reversed") (hm:X.mg "reversed" = none) (he:aG X e te) (hs1:cQ X e []:=by rfl) (gA:cO X pos []:=by rfl) :
  lK X tg (.Call (.Name "reversed" p) [e] [] pos) (zda te) where
 mono U Q Q' m h:=he.mono U _ _ (λd k ⟨ds,e,q⟩=>⟨ds,e,m _ _ q⟩) h
 run:=PI.weak (zwQ hg hm he.run hs1 gA) λY H Rr h=>by
  obtain⟨U,Fz,R,h⟩:=h;refine⟨U,Fz,R,he.mono U _ _ (λd k q v ao H' p=>?_) h⟩;obtain⟨ds,e,q⟩:=q;subst e;have rt:=p.root R;obtain⟨a,xs,rfl,h1,h2⟩:=fG rt;refine⟨a,xs,rfl,h1,?_⟩;have hxl:=h2.length;have one:∀(F2:FZ) (H2:Hp) (zs:List V),bI X.K H2 a zs->aj X.K F2 H2 ds zs->∀i:Nat,(∀d,ds.reverse[i]? = some d->(oX X.K a xs.length).go i H2/\∀x H3,(oX X.K a xs.length).rW i H2 x H3->Same H2 H3/\aq X.K F2 H3 d x)/\(ds.reverse.length<=i->(oX X.K a xs.length).stop i H2):=λF2 H2 zs g1 g3 i=>by
   have hl:=g3.length;refine⟨λd hd=>?_,λhi=>by rw[Ya]at hi;show xs.length<=i;lia⟩;have hi:i<ds.length:=by have:=(Xc.mp hd).1;rw[Ya]at this;exact this
   rw[YL hi]at hd;obtain⟨v,q1,q2⟩:=g3.get hd;rw[hxl]at q1;refine⟨⟨by lia,zs,v,g1,by lia,q1⟩,λy H3 ⟨e3,gy⟩=>?_⟩;subst e3;have exy:=gy zs g1;rw[q1]at exy;cases exy;exact⟨Same.refl _,q2⟩
  cases k with
  | own i=>
   refine q _ ao H' p.ext λH2 hH=>?_;rcases hH with hH | ⟨z,_⟩
   .exact one ao H2 xs (hH.seq h1) (aj.mono (.of hH) (λ_ h=>h) _ _ h2)
   .cases z
  | aF=>
   have pd:aq X.K ao H' (.lst ds) (.ref a):=p.dZ;simp only[aq]at pd;obtain⟨a',xs',e,h3,h4⟩:=pd;cases e;refine q _ ao H' p.ext λH2 hH=>?_;have kp:Keep ao H' H2:=hH.elim (λz=>.of z) (λz=>.mk' z.2);exact one ao H2 xs' (h3.elim (λh=>.inl (kp.rd trivial h.1 h.2)) KX.sq) (aj.mono kp (λ_ h=>h) _ _ h4)
  | new=>
   obtain⟨b,e,hn,nf,o⟩:=p.dZ;cases e;obtain⟨xs',o1,o2⟩:=o;refine q _ (λb=>ao b\/b=a) H' (p.ext.add hn (by rw[o1];exact λz=>nomatch z)) λH2 hH=>?_;have kp:Keep (λb=>ao b\/b=a) H' H2:=hH.elim (λz=>.of z) (λz=>.mk' z.2);exact one _ H2 xs' (.inl (kp.rd trivial (.inr rfl) (.inl o1))) (aj.mono kp (λ_ h=>h) _ _ (aj.mono (Keep.of (Same.refl _)) (λ_ h=>.inl h) _ _ o2))
end
section
variable {X:Cx}{x:Str}{p apos cpos:Pos}
theorem zux (i:Nat)(hN:X.N[i]? = some x:=by rfl)(hv:mO X.env.scope x:=by first | exact Qk rfl | exact Qs (Qk rfl) | exact Qs (Qs rfl))(hd:fD x:=by decide) (hcd:nD x:=by decide)
  (hbase:Wu (.Name x p) "pop" X.env (Ww (.Name x p) X.env)=Ww (.Name x p) X.env:=by rfl) (hline:(apos.endLine == cpos.line)=true:=by rfl):qC X (.Call (.Attribute (.Name x p) "pop" apos) [] [] cpos) (mPop i) where
 mono U Q Q' m h:=by
  obtain⟨ds,d,e1,e2,h⟩:=h;exact⟨ds,d,e1,e2,m _ _ h⟩
 run:=PE.weak (zvY QL PySem.F.slot_list_pop PySem.F.type_list_pop zvZ (mQ hN hv hd hcd) hbase hline) λY H Q h=>by
  obtain⟨U,Fz,R,ds,d,e1,e2,q⟩:=h;obtain⟨a,xs,hs,ha,hd,nf⟩:=uq R e1;have hl:=hd.length;obtain⟨y,y1,y2⟩:=hd.get e2;refine⟨_,hs,.inl ⟨rfl,xs,bI.of ha⟩,a,xs,y,rfl,rfl,ha,by rw[<- hl];exact y1,?_⟩;have hdl:aj X.K Fz H ds.dropLast xs.dropLast:=by
   rw[List.dropLast_eq_take,List.dropLast_eq_take,<- hl];exact hd.take _
  have ow:Own X.K Fz (upd H a (.lst xs.dropLast)) (.lst ds.dropLast) a:=⟨_,cg,(aj.vH ha nf hdl)⟩;obtain⟨R3,s3,o3⟩:=R.mut e1 hs ha ow;refine q y Fz _ s3 o3 R3 ?_;have:=aj.vH (o:=.lst xs.dropLast) ha nf (aj.cons y2 aj.nil);simp only[aj]at this;obtain⟨v',r',e',g1,_⟩:=this;cases e';exact g1
end
abbrev vQ:=List PV->(Tn->List PV->Prop)->Prop
def M5 (F:vQ):Prop:=∀ds Q Q',(∀ks es,Q ks es->Q' ks es)->F ds Q->F ds Q'
structure Made (K:Xa)(C x dx:Addr)(Fz:FZ)(H:Hp)(ao:FZ)(H':Hp)(ks:Tn)(es:List PV):Prop where
 old:∀b o,b≠x->H b=some o->H' b=some o
 sub:∀b,Fz b->ao b
 new:∀b,ao b->Fz b\/H b=none
 al:∀b,ao b->H' b≠none
 at_:∃xs,H' x=some (.ins C dx (ks.zip xs))/\ks.length=xs.length/\aj K ao H' es xs
def uG (K:Xa)(C:Addr)(F:vQ):Sp:=λvs H Q _=>∃(x dx:Addr)(ws:List V)(Fz:FZ)(ds:List PV),vs=.ref x::ws/\H x=some (.ins C dx [])/\H dx=some (.own x)/\¬ Fz x/\¬ Fz dx/\(∀b,Fz b->H b≠none)/\aj K Fz H ds ws/\
 F ds λks es=>∀ao H',Made K C x dx Fz H ao H' ks es->Q .non H'
section
variable {X:Cx}{C f:Addr}{x:Str}{p pos:Pos}{e:Expr}{es:List Expr}{t:cV}{k:Nat}{fd:Wk}{ps:Tn}{F:vQ}
def zdb (C:Addr)(F:vQ)(t:cV):aL:=λU Q=>t U λops=>noOwn ops=true/\F (ops.map (·.1)) λks es=>Q (.obj C ks es) .aF
theorem Bu (Qq11:Mk X.K C f)(G:aA X.prog X.w X.K X.mg X.base aN k f fd ps (uG X.K C F))(m:M5 F)(hr:bx (k+1) X.A)(hg:Gl X x)(hm:X.mg x=some (.ref C))(hb:Binds X.K fd ps [])(ha:eO X (e::es) t)
  (hdb:fD x:=by decide) (he:cQ X e es:=by rfl) (hpl:cO X pos es:=by rfl) :
  aG X (.Call (.Name x p) (e::es) [] pos) (zdb C F t) where
 mono U Q Q' mm h:=ha.mono U _ _ (λops h=>⟨h.1,m _ _ _ (λks es q=>mm _ _ q) h.2⟩) h
 run:=PE.weak (Z4 Qq11 G hr hg hm hb .nil vm ha.run hdb he hpl) λY H Q h=>by
  obtain⟨U,Fz,R,h⟩:=h;refine⟨U,Fz,R,ha.mono U _ _ (λops h vs F1 H1 x1 o=>?_) h⟩;obtain⟨hno,h⟩:=h;intro a dx ha' hdx hne;obtain⟨F2,x2,s2,h2⟩:=o.frozen x1 hno;rw[XG];have nfa:¬ F2 a:=λz=>x2.al a z ha';have nfd:¬ F2 dx:=λz=>x2.al dx z hdx;have sm:Same H1 (upd (upd H1 dx (.own a)) a (.ins C dx [])):=λb o' hb=>by
   have n1:b≠a:=λz=>by rw[z,ha']at hb;cases hb
   have n2:b≠dx:=λz=>by rw[z,hdx]at hb;cases hb
   rw[aY n1,aY n2];exact hb
  refine⟨a,dx,vs,F2,ops.map (·.1),rfl,cg,by rw[aY hne];exact cg,nfa,nfd,λb hb z=>x2.al b hb (sm.free z),aj.mono (.of sm) (λ_ h=>h) _ _ h2,m _ _ _ (λks es q F3 H3 md=>⟨rfl,?_⟩) h⟩;obtain⟨xs,g1,g2,g3⟩:=md.at_;have smH:Same H1 H3:=λb o' hb=>md.old b o' (λz=>by rw[z,ha']at hb;cases hb) (sm b o' hb);refine q (.ref a) (λb=>F3 b\/b=a) H3 ⟨⟨x2.same.trans smH,λb hb=>.inl (md.sub b (x2.sub b hb)),λb hb=>?_,λb hb=>?_⟩,?_⟩
  .rcases hb with hb | rfl
   .rcases md.new b hb with z | z
    .exact x2.new b z
    .exact .inr (x2.same.free (sm.free z))
   .exact .inr (x2.same.free ha')
  .rcases hb with hb | rfl
   .exact md.al b hb
   .rw[g1];exact λz=>nomatch z
  .show aq _ _ _ _ _;simp only[aq];exact⟨a,dx,xs,rfl,.inr rfl,g1,g2,aj.mono (Keep.of (Same.refl _)) (λ_ h=>.inl h) _ _ g3⟩
end
def vR (K:Xa)(F:vO):Sp:=λvs H Q _=>∃Fz a d0 x y z v0 v1 v3,vs=[v0,v1,.ref a,v3]/\(∀b,Fz b->H b≠none)/\¬ Fz a/\Own K Fz H d0 a/\aj K Fz H [x,y,z] [v0,v1,v3]/\
 F d0 [x,y,z] λd0' d=>∀v ao H',Gp a Fz H ao H'->Own K ao H' d0' a->aq K ao H' d v->Q v H'
def zbE (C:Addr)(m:Str)(F:vO)(i:Nat)(to:aL)(t:cV):mY:=λU Q=>to U λd _=>∃ks ds,d=.obj C ks ds/\m∉ks/\t U λops=>∃y k1 d0 z k3,ops=[(y,k1),(d0,.own i),(z,k3)]/\noOwn [(y,k1),(z,k3)]=true/\
 F d0 [d,y,z] λd0' r=>Q r (U.set i (some (d0',true)))
section
variable {X:Cx}{o e:Expr}{es:List Expr}{to:aL}{t:cV}{C:Addr}{m:Str}{pos apos:Pos}
theorem M6 (i:Nat){pl:Sem Bool}{k:Nat}{fa:Addr}{fd:Wk}{ps:Tn}{F:vO}(c:kZ X.K C)(hm:Meth X.K C m fa)(G:aA X.prog X.w X.K X.mg X.base aN k fa fd ps (vR X.K F))(mf:Mz F)(hr:bx k X.A)(hb:Binds X.K fd ps [])(ho:aG X o to)(ha:eO X (e::es) t)
  (hst:cQ X e es:=by rfl) (hpl:cO X pos es:=by rfl)
  (ht:Ww (.Call (.Attribute o m apos) (e::es) [] pos) X.env=(do
   let ov <- Ww o X.env
   standAt apos.atName
   let (f,first) <- WN [ov] (Vb ov m pl)
   callWith pos f first (WK pos (Wo (e::es) X.env)) (WT pos (WE [] X.env))):=by rfl) :
  qC X (.Call (.Attribute o m apos) (e::es) [] pos) (zbE C m F i to t) where
 mono U Q Q' mm h:=ho.mono U _ _ (λd k ⟨ks,ds,e1,e2,h⟩=>⟨ks,ds,e1,e2,ha.mono U _ _ (λops ⟨y,k1,d0,z,k3,e3,e4,h⟩=>⟨y,k1,d0,z,k3,e3,e4,mf _ _ _ _ (λd k q=>mm _ _ q) h⟩) h⟩) h
 run:=PE.weak (xX (pl:=pl) ho.run c hm G hr hb .nil vm ha.run hst hpl ht) λY H Q h=>by
  obtain⟨U,Fz,R,h⟩:=h;refine⟨U,Fz,R,ho.mono U _ _ (λd kd q v F1 H1 p1=>?_) h⟩;obtain⟨ks,ds,rfl,hn,q⟩:=q;obtain⟨a,dx,xs,rfl,hf,h1,h2,h3⟩:=yP (p1.root R);have iZ:aq X.K F1 H1 (.obj C ks ds) (.ref a):=p1.root R;have R1:=R.ext p1.ext;refine⟨a,dx,_,rfl,h1,vM (M:=V) (J:=V) hn,U,F1,R1,ha.mono U _ _ (λops h vs F2 H2 x o=>?_) q⟩;show vR X.K F (.ref a::(vs++[])) H2 Q E0;rw[XG];obtain⟨y,k1,d0,z,k3,rfl,no,h⟩:=h;cases o with | cons o1 o=>
  cases o with | cons o2 o=>
  cases o with | cons o3 o=>
  cases o
  rename_i v1 v2 v3
  obtain⟨F3,x3,s3,h3'⟩:=dD.frozen x no (.cons o1 (.cons o3 .nil));have R3:=R1.ext x3;obtain⟨e1,e2⟩:=o2;obtain⟨b,hs',jw,ow'⟩:=R3.own i d0 e1;rw[e2]at hs';cases hs';refine⟨F3,b,d0,.obj C ks ds,y,z,.ref a,v1,v3,rfl,x3.al,jw,ow',aj.cons (aq.mono (.of x3.same) (λb hb=>x3.sub b hb) _ _ iZ) h3',mf _ _ _ _ (λd0' d q v F4 H4 st ow4 dv=>?_) h⟩;obtain⟨R4,s4,o4⟩:=R3.handed e1 e2 st ow4;have x4:=p1.ext.trans x3;exact q v F4 H4 ((Step.of x4).trans (bh.refl U Y H) s4) (bh.trans (Step.of x4) (bh.refl U Y H) o4) R4 dv
def fSet (i:Nat)(te:aL):pX:=λU O=>te U λd k=>match k with
 | .aF=>O.nx (U.set i (some (d,false)))
 | .new=>O.nx (U.set i (some (d,true)))
 | .own _=>False
theorem Bv {z i:Nat}{x:Str}{te:aL}{pos':Pos}(hN:X.N.Nodup)(hi:X.N[i]? = some x)(hx:Loc X.env.scope x)(he:aG X e te)(hiz:i≠z:=by decide)(hs:Wx e (some (.Name x pos')) pos.line X.env=pure false:=by rfl)(hf:lE X x:=by first | exact .inl rfl | exact .inr rfl | assumption) :
  oW X z (.Assign [.Name x pos'] e pos) (fSet i te) where
 mono U O O' m h:=he.mono U _ _ (λd k q=>by
  cases k with
  | aF=>exact m.nx _ q
  | new=>exact m.nx _ q
  | own j=>exact q) h
 run:=PS.weak (rR hN hi hx he.run hs hf) λD Y H h=>by
  obtain⟨U,Fz,R,h⟩:=h;refine⟨U,Fz,R,he.mono U _ _ (λd k q v ao H' p=>?_) h⟩;show D.nx (Y.set i (some v)) H';have R':=R.ext p.ext;have ez:(Y.set i (some v))[z]? = Y[z]?:=Xk hiz;cases k with
  | aF=>exact(show(outF X.K z D U Y Fz H).nx (U.set i (some (d,false))) from q) _ ao H' (.of p.ext) (λb hb=>.inl (oK b hb)) (R'.set p.dZ) ez
  | own j=>exact q.elim
  | new=>
   obtain⟨a,e,hn,nf,o⟩:=p.dZ;subst e;have hno:¬ cP U Y a:=λ⟨j,e,h1,h2⟩=>by
    obtain⟨b,q1,_,q2⟩:=R.own j e h1;rw[h2]at q1;cases q1;obtain⟨o',q3,_⟩:=q2.at;rw[hn]at q3;cases q3
   refine(show(outF X.K z D U Y Fz H).nx (U.set i (some (d,true))) from q) _ ao H' (.of p.ext) (λb hb=>?_) (R'.Fw nf o hno) ez;rcases Fy b hb with rfl | hb
   .exact .inr hn
   .exact .inl hb
end
def zbW (N:Tn)(d0 x y z:PV):aC:=(zaA N [x,y,d0,z]).set 2 (some (d0,true))
section
variable {P:Wg}{w:Wj}{K:Xa}{mg:Tj}{base:Heap}
theorem yW {N:Tn}{d0 x y z d:PV}{i:Nat}{b:Bool}(e:(zbW N d0 x y z)[i]? = some (some (d,b))):(i=2/\d=d0/\b=true)\/(b=false/\((i=0/\d=x)\/(i=1/\d=y)\/(i=3/\d=z))):=by
 unfold zbW at e;by_cases h:i=2
 .subst h;rw[Xm (by simp[zaA])]at e;cases e;exact .inl ⟨rfl,rfl,rfl⟩
 .rw[Xk (λe=>h e.symm)]at e;unfold zaA at e
  match i,e with
  | 0,e=>cases e;exact .inr ⟨rfl,.inl ⟨rfl,rfl⟩⟩
  | 1,e=>cases e;exact .inr ⟨rfl,.inr (.inl ⟨rfl,rfl⟩)⟩
  | 2,e=>exact Qg rfl h
  | 3,e=>cases e;exact .inr ⟨rfl,.inr (.inr ⟨rfl,rfl⟩)⟩
  | i+4,e=>
   rw[XZ (by simp),YO]at e;split at e<;>cases e
theorem zrG {x qual:Str}{st:Wn}{f:Addr}{fd:Wk}{N ps:Tn}{k:Nat}{F:vO}(Fn:cj K x qual st f fd)(S:cL N ps (bf st))(len:ps.length=4)
  (hbody:∀(cdv:Wb) (A:Wl) (outer:List Env) (s:Wc) (H:Hp) (E:XK),bx k (A.deeper (Vc qual (bf st) s.heap.objs.size f cdv))->
   ∃t,yR (fK aN P w K mg base N qual (bf st) f cdv A outer s H E).pN 2 (ji st) t/\∀d0 x y z Q,F d0 [x,y,z] Q->t (zbW N d0 x y z) ⟨λU'=>∃d,U'[2]? = some (some (d,true))/\Q d .non,λU'=>∃d,U'[2]? = some (some (d,true))/\Q d .non⟩) :
  aA P w K mg base aN (k+1) f fd ps (vR K F):=by
 refine Fn.ok S (λvs H Q E ⟨Fz,a,d0,x,y,z,v0,v1,v3,e,_,_,_,hd,q⟩=>by rw[e,len];rfl) (λcdv A outer s H vs Q E hr h=>?_);obtain⟨t,ht,hq⟩:=hbody cdv A outer s H E hr;obtain⟨Fz,a,d0,x,y,z,v0,v1,v3,rfl,al,nf,ow,hd,h⟩:=h;simp only[aj]at hd;obtain⟨_,_,e0,dx,_,_,e1,dy,_,_,e3,dz,e4⟩:=hd;cases e0;cases e1;cases e3;have s2:(start N [v0,v1,V.ref a,v3])[2]? = some (some (.ref a)):=by simp[L2.start]
 have ownd:∀b,cP (zbW N d0 x y z) (start N [v0,v1,V.ref a,v3]) b->b=a:=λb ⟨i,d,e,e2⟩=>by
  rcases yW e with ⟨rfl,_,_⟩ | ⟨hb,_⟩
  .rw[s2]at e2;cases e2;rfl
  .cases hb
 have R:Rel K Fz (zbW N d0 x y z) (start N [v0,v1,V.ref a,v3]) H:=by
  refine⟨al,by simp[zbW,zaA,L2.start],λi d e=>?_,λi d e=>?_,λi j d e b h1 h2 h3 h4=>?_⟩
  .rcases yW e with ⟨_,_,hb⟩ | ⟨_,⟨rfl,rfl⟩ | ⟨rfl,rfl⟩ | ⟨rfl,rfl⟩⟩
   .cases hb
   .exact⟨v0,by simp[L2.start],dx⟩
   .exact⟨v1,by simp[L2.start],dy⟩
   .exact⟨v3,by simp[L2.start],dz⟩
  .rcases yW e with ⟨rfl,rfl,_⟩ | ⟨hb,_⟩
   .exact⟨a,s2,nf,ow⟩
   .cases hb
  .rcases yW h1 with ⟨rfl,rfl,_⟩ | ⟨hb,_⟩
   .rcases yW h2 with ⟨rfl,rfl,_⟩ | ⟨hb,_⟩
    .rfl
    .cases hb
   .cases hb
 have fin:∀U' Y' ao H' d,U'[2]? = some (some (d,true))->Step (zbW N d0 x y z) (start N [v0,v1,V.ref a,v3]) Fz H ao H'->Rel K ao U' Y' H'->Y'[2]? = (start N [v0,v1,V.ref a,v3])[2]?->Gp a Fz H ao H'/\Own K ao H' d a:=λU' Y' ao H' d e s' R' z'=>by
  obtain⟨a',e1,jw,ow'⟩:=R'.own 2 d e;rw[z',s2]at e1;cases e1;refine⟨⟨s'.sub,λb hb=>?_,λb o e ne=>s'.keep b o e λz=>ne (ownd b z),R'.al⟩,ow'⟩;rcases s'.new b hb with z | z | z
  .exact .inl z
  .exact .inr z
  .rw[ownd b z]at hb;exact Qg hb jw
 refine⟨_,ht.run,zbW N d0 x y z,Fz,R,ht.mono _ ⟨λU'=>∃d,U'[2]? = some (some (d,true))/\_,λU'=>∃d,U'[2]? = some (some (d,true))/\_⟩ _ ⟨λU' q Y' F' H' s' o' R' z'=>?_,λU' q Y' F' H' s' o' R' z'=>?_⟩ (hq _ _ _ _ _ h)⟩
 .obtain⟨d,e,q⟩:=q;obtain⟨s1,o1⟩:=fin U' Y' F' H' d e s' R' z';exact q .non F' H' s1 o1 (by simp only[aq])
 .obtain⟨d,e,q⟩:=q;obtain⟨s1,o1⟩:=fin U' Y' F' H' d e s' R' z';exact q .non F' H' s1 o1 (by simp only[aq])
end
def jy (kvs:List (Key×V))(more:List (Key×V)):List (Key×V):=more.foldl (λacc kv=>putK acc kv.1 kv.2) kvs
def gC:List Key×List PV->List (Key×PV)->List Key×List PV:=List.foldl λp kv=>if eX p.1 kv.1=true then(p.1,putD p.1 p.2 kv.1 kv.2) else(p.1++[kv.1],p.2++[kv.2])
theorem M7:∀(more kvs:List (Key×V)),(jy kvs more).length<=kvs.length+more.length
 | [],kvs=>Xj _
 | kv::more,kvs=>by
  have h1:=M7 more (putK kvs kv.1 kv.2);have h2:=Al kvs kv.1 kv.2;show(jy (putK kvs kv.1 kv.2) more).length<=_;rw[Xy];lia
theorem zuy {more:List (Key×V)}{ms:List (Key×Wb)}(r:KV more ms):∀ {kvs:List (Key×V)}{vs:List (Key×Wb)},KV kvs vs->KV (jy kvs more) (merged vs ms):=by
 induction r with
 | nil=>exact λh=>h
 | cons h t ih=>
  intro kvs vs q
  rename_i a b _ _
  have:=ih (q.put b.1 h.2);show KV (jy (putK kvs a.1 a.2) _) _;rw[h.1];exact this
section
variable {X:Cx}{pins:Tg}{Y:St}{H:Hp}{s:Wc}{a b:Addr}{A:Wl}{E:Ti}
theorem zxZ {kvs more:List (Key×V)}{Q:Ti}(I:Inv X pins Y H s)(e:H a=some (.dK kvs))(e2:Rd H b (.dK more))(hne:a≠b)(hz:kvs.length+more.length<=Wf)
  (h:∀s',Inv X pins Y (upd H a (.dK (jy kvs more))) s'->Q .none s'):We (Wh X.prog X.w) A (call (.builtin "dict.update") [.ref a,.ref b]) Q E s:=by
 obtain⟨z,hd,vs,rel,dd⟩:=JX I.hok e;obtain⟨z2,hd2,ms,rel2,dd2⟩:=su I.hok e2;refine call_meetsIn PySem.F.slot_dict_update dd.typeIs PySem.F.entry_dict_update (PySem.F.args_dict_update_2 _ _) (meets_dict_update (gK X.prog X.w) a b hne hd2)
  ⟨vs,ms,dd,dd2,by rw[<- rel.length,<- rel2.length];exact hz,λh' oH _ hs=>h _ ?_⟩
 have he:∃q,h'.get? a=some q:=let ⟨q,_,_,hq,_⟩:=oH;⟨q,hq⟩;have hl:=M7 more kvs;exact Ao I (by rw[e];exact QX) hs he (Em (by lia) hd (zuy rel2 rel) oH)
end
def zya (td ty:TE):TE:=λY H Q=>td Y H λx H1=>∃a,x=.ref a/\Aq H1 a/\ty Y H1 λy H2=>∃b kvs more,y=.ref b/\H2 a=some (.dK kvs)/\Rd H2 b (.dK more)/\a≠b/\kvs.length+more.length<=Wf/\Q .non (upd H2 a (.dK (jy kvs more)))
theorem zuz {X:Cx}{o e:Expr}{apos cpos:Pos}{td ty:TE}(ho:PE X o td)(he:PE X e ty)(m:M1 X o "update" apos e cpos):PE X (.Call (.Attribute o "update" apos) [e] [] cpos) (zya td ty):=by
 intro pins s Y H Q I h;refine wpAny_Call_method m.base m.few m.line Oa PySem.F.slot_dict_update PySem.F.type_dict_update (aQ (ho pins s Y H _ I h) λu s1 ⟨x,H1,I1,rx,a,ex,d,q1⟩=>?_);subst ex;obtain rfl:u=Qm a:=rx;obtain⟨t1,t2,_⟩:=En I1 d;refine⟨t1,t2,?_⟩;rw[m.trees];refine QB rfl (QF (Qu (aQ (he pins s1 Y H1 _ I1 q1) λiv s2 ⟨y,H2,I2,ry,b,kvs,more,ey,e1,e2,hne,hz,q2⟩=>QC ?_)));subst ey;obtain rfl:iv=Qm b:=ry;exact zxZ I2 e1 e2 hne hz λs3 I3=>⟨.non,_,I3,rfl,q2⟩
theorem Gx {K:Xa}{Fz:FZ}{H:Hp}:∀(gP:List Key)(es:List PV)(ys:List V),aj K Fz H es ys->∀ {ks:List Key}{ds:List PV}{xs:List V},ks.length=xs.length->aj K Fz H ds xs->
  ∃zs,jy (ks.zip xs) (gP.zip ys)=(gC (ks,ds) (gP.zip es)).1.zip zs/\(gC (ks,ds) (gP.zip es)).1.length=zs.length/\aj K Fz H (gC (ks,ds) (gP.zip es)).2 zs
 | [],es,ys,h,ks,ds,xs,hl,hd=>⟨xs,rfl,hl,hd⟩
 | c::gP,[],ys,h,ks,ds,xs,hl,hd=>by
  simp only[aj]at h;subst h;exact⟨xs,rfl,hl,hd⟩
 | c::gP,d::es,ys,h,ks,ds,xs,hl,hd=>by
  simp only[aj]at h;obtain⟨v,r,e,h1,h2⟩:=h;subst e;show ∃zs,jy (putK (ks.zip xs) c v) (gP.zip r)=(gC (if eX ks c=true then(ks,putD ks ds c d) else(ks++[c],ds++[d])) (gP.zip es)).1.zip zs/\(gC (if eX ks c=true then(ks,putD ks ds c d) else(ks++[c],ds++[d])) (gP.zip es)).1.length=zs.length/\
   aj K Fz H (gC (if eX ks c=true then(ks,putD ks ds c d) else(ks++[c],ds++[d])) (gP.zip es)).2 zs
  unfold putK;rw[Mv hl];by_cases hc:eX ks c=true
  .rw[Qf hc,Qf hc,Mu];exact Gx gP es r h2 (by simp[hl]) (Gk c h1 ks ds xs hd)
  .rw[Qe hc,Qe hc];have e:ks.zip xs++[(c,v)]=(ks++[c]).zip (xs++[v]):=by rw[List.zip_append hl];rfl
   rw[e];exact Gx gP es r h2 (by simp[hl]) (aj.snoc hd h1)
def mUpd (i:Nat)(te:aL):mY:=λU Q=>∃ks ds,U[i]? = some (some (.dK ks ds,true))/\te U λe k=>isOwn k=false/\∃gP es,e=.dK gP es/\gP.length=es.length/\ks.length+gP.length<=Wf/\Q .non (U.set i (some (.dK (gC (ks,ds) (gP.zip es)).1 (gC (ks,ds) (gP.zip es)).2,true)))
section
variable {X:Cx}{x:Str}{e:Expr}{te:aL}{p apos cpos:Pos}
theorem znv (i:Nat)(he:aG X e te)(hN:X.N[i]? = some x:=by rfl)(hv:mO X.env.scope x:=by first | exact Qk rfl | exact Qs (Qk rfl) | exact Qs (Qs rfl))(hd:fD x:=by decide) (hcd:nD x:=by decide)
  (m:M1 X (.Name x p) "update" apos e cpos:=by exact⟨rfl,rfl,rfl,rfl⟩):qC X (.Call (.Attribute (.Name x p) "update" apos) [e] [] cpos) (mUpd i te) where
 mono U Q Q' m h:=by
  obtain⟨ks,ds,e1,h⟩:=h;exact⟨ks,ds,e1,he.mono U _ _ (λd _ ⟨hk,gP,es,q1,q2,q3,q⟩=>⟨hk,gP,es,q1,q2,q3,m _ _ q⟩) h⟩
 run:=PE.weak (zuz (mQ hN hv hd hcd) he.run m) λY H Q h=>by
  obtain⟨U,Fz,R,ks,ds,e1,h⟩:=h;obtain⟨a,xs,hs,ha,hl,hd,nf⟩:=Bq R e1;refine⟨_,hs,a,rfl,.inl ⟨_,.inl ha⟩,U,Fz,R,he.mono U _ _ (λd k q v F1 H1 p1=>?_) h⟩;obtain⟨hk,gP,es,rfl,q2,q3,q⟩:=q;obtain⟨F2,x2,s2,d2⟩:=p1.frozen (yQ hk);have R2:=R.ext x2;obtain⟨a',xs',hs',ha',hl',hd',jw⟩:=Bq R2 e1;rw[hs]at hs';cases hs';simp only[aq]at d2;obtain⟨b,ys,rfl,fb,hb,hl2,hd2⟩:=d2;refine⟨b,_,_,rfl,ha',hb,λz=>jw (z▸fb),?_,?_⟩
  .rw[YI,YI];lia
  .obtain⟨zs,z1,z2,z3⟩:=Gx gP es ys hd2 hl' hd';have ow:Own X.K F2 (upd H1 a (.dK (jy (ks.zip xs') (gP.zip ys)))) (.dK (gC (ks,ds) (gP.zip es)).1 (gC (ks,ds) (gP.zip es)).2) a:=⟨zs,by rw[cg,z1],z2,aj.j7 ha' (λz=>z) jw z3⟩;obtain⟨R3,s3,o3⟩:=R2.mut e1 hs ha' ow;exact q .non F2 _ ((Step.of x2).trans (bh.refl U Y H) s3) (bh.trans (Step.of x2) (bh.refl U Y H) o3) R3 (by simp only[aq])
end
end PL
namespace L2
open PySem PySem.Spec PyProof.Rows
def M8 (K:Xa)(a b:Addr):It:=
  ⟨λi H=>∃xs ys x y,bI K H a xs/\xs[i]? = some x/\bI K H b ys/\ys[i]? = some y,
   λi H x H'=>∃p u v,x=.ref p/\H p=none/\(∀xs,bI K H a xs->xs[i]? = some u)/\(∀ys,bI K H b ys->ys[i]? = some v)/\H'=upd H p (.tup [u,v]),
   λi H=>∃xs ys,bI K H a xs/\bI K H b ys/\(xs.length<=i\/ys.length<=i)⟩
theorem zrH {P:Wg}{w:Wj}{K:Xa}{elts:List Expr}{x1:Nat}{pos:Pos}(a b z TI TO i1 i2:Addr)(D:WV z TI TO i1 i2 a b) :
  Turn P w K (.Tuple elts x1 pos) (M8 K a b) [z,TI,TO,i1,i2] z (λi h=>Va h z TI TO .none/\WD h TI (.ref i1) (.ref i2)/\(∃u v,WD h TO u v)/\h.IsListIter i1 a i/\h.IsListIter i2 b i) where
 mem:=by simp
 obj:=λi h st c hc=>by
  obtain⟨h1,h2,⟨u,v,h3⟩,⟨o4,h4,_,d4⟩,⟨o5,h5,_,d5⟩⟩:=st;simp only[Xn,List.not_mem_nil,or_false]at hc;rcases hc with rfl | rfl | rfl | rfl | rfl
  .exact⟨_,h1,λv z=>by cases z⟩
  .exact⟨_,h2,λv z=>by cases z⟩
  .exact⟨_,h3,λv z=>by cases z⟩
  .exact⟨_,h4,λv z=>by rw[d4]at z;cases z⟩
  .exact⟨_,h5,λv z=>by rw[d5]at z;cases z⟩
 keep:=λi h h' st k=>by
  obtain⟨h1,h2,⟨u,v,h3⟩,h4,h5⟩:=st;exact⟨k z (by simp) _ h1,k TI (by simp) _ h2,⟨u,v,k TO (by simp) _ h3⟩,h4.at λo q=>k i1 (by simp) o q,h5.at λo q=>k i2 (by simp) o q⟩
 item:=by
  intro X hP hw hK hc i pins s Y H E I hf st hg;subst hP hw hK;obtain⟨h1,h2,⟨c1,c2,h3⟩,h4,h5⟩:=st;obtain⟨xs,ys,x,y,hq,hx,hq2,hy⟩:=hg;obtain⟨its,rv,p,hz⟩:=I.list hq;obtain⟨u,hu,ru⟩:=rv.get hx;obtain⟨its2,rv2,p2,hz2⟩:=I.list hq2;obtain⟨u2,hu2,ru2⟩:=rv2.get hy;have hfr:H s.heap.objs.size=none:=I.hok.fresh (Xj _);have lt:∀c∈[z,TI,TO,i1,i2],c<s.heap.objs.size:=λc hc=>by
   simp only[Xn,List.not_mem_nil,or_false]at hc;rcases hc with rfl | rfl | rfl | rfl | rfl
   .exact Xw h1
   .exact Xw h2
   .exact Xw h3
   .obtain⟨o,ho,_⟩:=id h4;exact Xw ho
   .obtain⟨o,ho,_⟩:=id h5;exact Xw ho
  refine wpAny_pyNext_zip_item D h1 h2 h3 h4 h5 p.isList p2.isList (x:=u) (y:=u2) (by simpa using hu) (by simpa using hu2) λhp1 g1 g3 g4 g5 gt gz gk=>⟨.ref s.heap.objs.size,rfl,?_⟩;refine wpAny_letOwnedTupleGo_zip g1 λhp2 k1 ks=>?_;replace ks:XV z hp1 hp2:=ks;have I1:=I.laid (a:=s.heap.objs.size) (o:=.tup [x,y]) (h':=s.heap.push { cls:=.type "tuple",data:=.seq #[u,u2] }) (t':=s.toks) (λb u e=>Xe _ e) (Xj _)
   ⟨by show 2<=Wf;decide,[u,u2],.cons ru (.cons ru2 .nil),mL.new _ _⟩
  have hfp:∀c∈[z,TI,TO,i1,i2],fJ X pins (upd H s.heap.objs.size (.tup [x,y])) c:=λc hc=>by
   obtain⟨f0,fr⟩:=hf c hc;exact⟨by rw[aY (XB (lt c hc))];exact f0,fr⟩
  have I2:=I1.Bt (h':=hp2) (t':=s.toks) (ch:=[z,TI,TO,i1,i2]) (λc o hc ec=>by
   have n1:c≠z:=λe=>hc (by simp[e]);refine(ks.2 c n1).trans ?_;rcases Heap.get?_push_cases ec with ⟨rfl,rfl⟩ | ec
   .exact gt
   .exact gk c o n1 (λe=>hc (by simp[e])) (λe=>hc (by simp[e])) (λe=>hc (by simp[e])) ec) hfp
  refine⟨.ref s.heap.objs.size,_,I2,rfl,⟨_,x,y,rfl,hfr,λzs hz=>by rw[I.u5 hz hq];exact hx,λzs hz=>by rw[I.u5 hz hq2];exact hy,rfl⟩,⟨k1,?_,⟨u,u2,?_⟩,?_,?_⟩,λc hc=>(hfp c hc).1⟩
  .exact(ks.2 TI D.TIz).trans (gk TI _ D.TIz D.TITO D.TIi1 D.TIi2 h2)
  .exact(ks.2 TO D.TOz).trans g3
  .exact g4.extBut ks.extBut D.i1z
  .exact g5.extBut ks.extBut D.i2z
 done:=by
  intro X hP hw hK hc i pins s Y H E I hf st hg;subst hP hw hK;obtain⟨h1,h2,⟨c1,c2,h3⟩,h4,h5⟩:=st;obtain⟨xs,ys,hq,hq2,hx⟩:=hg;obtain⟨its,rv,p,hz⟩:=I.list hq;obtain⟨its2,rv2,p2,hz2⟩:=I.list hq2;have hl:=rv.length;have hl2:=rv2.length;refine wpAny_pyNext_zip_end (I.ok.hd hc) D h1 h2 h3 h4 h5 p.isList p2.isList (hx.imp (λe=>by simp;lia) (λe=>by simp;lia)) λh' gk=>⟨rfl,?_⟩;exact I.Bt (t':=s.toks) (ch:=[z,TI,TO,i1,i2]) (λc o hc ec=>gk c o (λe=>hc (by simp[e])) (λe=>hc (by simp[e])) (λe=>hc (by simp[e])) (λe=>hc (by simp[e])) ec) hf
 self:=λ_ _ _ _ _ st h=>wpAny_pyIter_zip st.1 h
section
variable {X:Cx}{elts:List Expr}{x1:Nat}{tpos p pos:Pos}{e e2:Expr}{t:TA}
theorem M9:Wm "zip" = some (.type "zip"):=by decide +kernel
def Gy (K:Xa)(t:TA):TI:=λY H R=>t Y H λvs H1=>∃a b,vs=[.ref a,.ref b]/\(∃xs,bI K H1 a xs)/\(∃ys,bI K H1 b ys)/\R (M8 K a b) H1
theorem zwS (hg:Gl X "zip") (hm:X.mg "zip" = none) (ha:PA X [e,e2] t) (he:cQ X e [e2]:=by rfl) (hpl:cO X pos [e2]:=by rfl) :
  PI X (.Tuple elts x1 tpos) (.Call (.Name "zip" p) [e,e2] [] pos) (Gy X.K t):=by
 intro pins s Y H R I h;refine Wv (qd I hg hm M9 ?_ (by decide) (by decide));refine Qx (aQ (ha pos pins s Y H _ I h) λus s1 ⟨vs,H1,I1,r1,a,b,ev,⟨xs,hq⟩,⟨ys,hq2⟩,q⟩=>?_) he hpl;subst ev;obtain⟨u1,u2,rfl,r2,r3⟩:=vals2 r1;obtain rfl:u1=Qm a:=r2;obtain rfl:u2=Qm b:=r3;obtain⟨its,r,pl,hz⟩:=I1.list hq;obtain⟨its2,r',pl2,hz2⟩:=I1.list hq2;have ha':@LT.lt Nat _ a s1.heap.objs.size:=by obtain⟨o,ho,_⟩:=pl.isList;exact Xw ho
 have hb':@LT.lt Nat _ b s1.heap.objs.size:=by obtain⟨o,ho,_⟩:=pl2.isList;exact Xw ho
 refine call_zip_2 pl.isList pl2.isList λh' g1 g2 g3 g4 g5 gz gk=>?_;refine wpAny_pyIter_zip (s:={ s1 with heap:=h' }) g1 ?_;have I2:Inv X pins Y H1 { s1 with heap:=h' }:=I1.kept (t':=s1.toks) gk;have D:WV (s1.heap.objs.size+4) (s1.heap.objs.size+2) (s1.heap.objs.size+3) s1.heap.objs.size (s1.heap.objs.size+1) a b:=by constructor<;>first | exact XB (by lia) | exact Yh (by lia)
 refine⟨_,_,_,_,H1,rfl,I2,zrH a b _ _ _ _ _ D,⟨g1,g2,⟨_,_,g3⟩,g4,g5⟩,λc hc=>?_,q⟩;have hc':s1.heap.objs.size<=c:=by
  simp only[Xn,List.not_mem_nil,or_false]at hc;rcases hc with rfl | rfl | rfl | rfl | rfl<;>lia
 exact I1.jV hc' (I1.hok.fresh hc')
end
end L2
namespace PL
open PySem PySem.Spec L2
open PyProof.Rows hiding St
def fO (ds es:List PV):List PV:=List.zipWith (λd e=>.tup [d,e]) ds es
theorem yX {ds es:List PV}{i:Nat}{d:PV}(h:(fO ds es)[i]? = some d):∃x y,ds[i]? = some x/\es[i]? = some y/\d=.tup [x,y]:=by
 unfold fO at h;rw[List.getElem?_zipWith]at h;cases h1:ds[i]? with
 | none=>rw[h1]at h;cases h
 | some x=>
  cases h2:es[i]? with
  | none=>rw[h1,h2]at h;cases h
  | some y=>rw[h1,h2]at h;cases h;exact⟨x,y,rfl,rfl,rfl⟩
theorem Bw (ds es:List PV):(fO ds es).length=min ds.length es.length:=by simp[fO]
def zdc (t:cV):iW:=λU Q=>t U λops=>noOwn ops=true/\∃ds es,ops.map (·.1)=[.lst ds,.lst es]/\Q (fO ds es) false
section
variable {X:Cx}{elts:List Expr}{x1:Nat}{tpos p pos:Pos}{e e2:Expr}{t:cV}
theorem zuA (hg:Gl X "zip") (hm:X.mg "zip" = none) (ha:eO X [e,e2] t) (he:cQ X e [e2]:=by rfl) (hpl:cO X pos [e2]:=by rfl) :
  lK X (.Tuple elts x1 tpos) (.Call (.Name "zip" p) [e,e2] [] pos) (zdc t) where
 mono U Q Q' m h:=ha.mono U _ _ (λops ⟨e1,ds,es,e,q⟩=>⟨e1,ds,es,e,m _ _ q⟩) h
 run:=PI.weak (zwS hg hm ha.run he hpl) λY H Rr h=>by
  obtain⟨U,Fz,R,h⟩:=h;refine⟨U,Fz,R,ha.mono U _ _ (λops q vs ao H' x o=>?_) h⟩;obtain⟨hn,ds,es,eo,q⟩:=q;obtain⟨F2,x2,s2,d2⟩:=o.frozen x hn;rw[eo]at d2;simp only[aj]at d2;obtain⟨v1,r1,rfl,d1,v2,r2,rfl,d3,rfl⟩:=d2;simp only[aq]at d1 d3;obtain⟨a,xs,rfl,a1,a2⟩:=d1;obtain⟨b,ys,rfl,b1,b2⟩:=d3;have sq:∀ {c:Addr} {zs:List V} {H2:Hp},Keep F2 H' H2->((F2 c/\Rd H' c (.lst zs))\/KX X.K c zs)->bI X.K H2 c zs:=λkp h=>h.elim (λh=>.inl (kp.rd trivial h.1 h.2)) KX.sq;refine⟨a,b,rfl,⟨xs,sq (.of (Same.refl _)) a1⟩,⟨ys,sq (.of (Same.refl _)) b1⟩,q _ F2 H' x2 λH2 hH i=>?_⟩;have kp:Keep F2 H' H2:=hH.elim (λz=>.of z) (λz=>.mk' z.2);have g1:=sq kp a1;have g2:=sq kp b1;have m1:=aj.mono kp (λ_ h=>h) _ _ a2;have m2:=aj.mono kp (λ_ h=>h) _ _ b2;have l1:=m1.length;have l2:=m2.length;refine⟨λd hd=>?_,λhi=>⟨xs,ys,g1,g2,by rw[Bw]at hi;lia⟩⟩;obtain⟨u,w,hu,hw,rfl⟩:=yX hd;obtain⟨v,q1,q2⟩:=m1.get hu;obtain⟨v',q3,q4⟩:=m2.get hw;refine⟨⟨xs,ys,v,v',g1,q1,g2,q3⟩,λy H3 ⟨pp,c1,c2,ey,hnp,gy,gy2,e3⟩=>?_⟩;subst ey e3;have e1:=gy xs g1;rw[q1]at e1;cases e1;have e2:=gy2 ys g2;rw[q3]at e2;cases e2;have sm:Same H2 (upd H2 pp (.tup [v,v'])):=λb o hb=>by rw[aY (mK hb hnp)];exact hb
  refine⟨sm,?_⟩;simp only[aq];exact⟨pp,_,rfl,cg,aj.cons (aq.mono (.of sm) (λ_ h=>h) _ _ q2) (aj.cons (aq.mono (.of sm) (λ_ h=>h) _ _ q4) aj.nil)⟩
end
end PL
namespace JZ
open PySem
section
variable {prog:Wg}{w:Wj}{A:Wl}{E:Ti}{s:Wc}
theorem Gz {it t:Addr}{i:Nat}{items:Array Wb}{x:Wb}{Q:Ti}(hit:s.heap.IsTupleIter it t i)(ht:s.heap.IsTuple t items)(hx:items[i]? = some x)(hQ:∀h',h'.IsTupleIter it t (i+1)->XV it s.heap h'->Q x { s with heap:=h' }) :
  We (Wh prog w) A (Qn (.ref it)) Q E s:=by
 obtain⟨o,ho,hc,hd⟩:=id hit;obtain⟨ol,hol,_,nl,hdl⟩:=ht;unfold Qn;refine Wa (wpAny_callSpecial?_slot (name:=PX "__next__") hit.typeIs Pr (Wt Pr hit.typeIs F.entry_tuple_iterator_next ?_ (F.args_tuple_iterator_next_1 _)));show We _ _ (field (.ref it) 0 >>= _) _ _ s;refine Wa (Wp ho hd (x:=.ref t) rfl ?_);show We _ _ (if (Qm t == Value.none)=true then _ else _) _ _ s
 rw[Qe (show ¬ ((Qm t == Value.none)=true) from Xu)];show We _ _ (field (.ref it) 1 >>= _) _ _ s;refine Wa (Wp ho hd (x:=.int i 0) rfl ?_);show We _ _ (seqItems? (.ref t) >>= _) _ _ s;refine Wa (WB hol hdl ?_);simp only[Pa,hx];refine Wa (WA ho hd (by simp) (Wd ⟨x,rfl,Wd (hQ _ ⟨_,XW _ ho (Obj.isFreed_of_fields (Oj hd _)),(Obj.cls_mapFields ..).trans hc,?_⟩ (XV.update ..))⟩));rw[Oj hd];simp[WL]
abbrev zA (h:Heap)(a:Addr):Heap:=h.push { cls:=.type "list_iterator",data:=.fields #[.ref a,.int 0 0] }
abbrev zB (h:Heap)(a b:Addr):Heap:=(zA h a).push { cls:=.type "tuple_iterator",data:=.fields #[.ref b,.int 0 0] }
abbrev zC (h:Heap)(a b:Addr):Heap:=(zB h a b).push { cls:=.type "tuple",data:=.seq #[.ref h.objs.size,.ref (zA h a).objs.size] }
abbrev zD (h:Heap)(a b:Addr):Heap:=(zC h a b).push { cls:=.type "tuple",data:=.seq #[.none,.none] }
abbrev zE (h:Heap)(a b:Addr):Heap:=(zD h a b).push { cls:=.type "zip",data:=.fields #[.none,.bool false,.bool false,.ref (zB h a b).objs.size,.ref (zC h a b).objs.size] }
end
end JZ
namespace JZ2
open PySem
section
variable {prog:Wg}{w:Wj}{A:Wl}{E:Ti}{s:Wc}
abbrev zA (h:Heap)(a:Addr):Heap:=h.push { cls:=.type "tuple_iterator",data:=.fields #[.ref a,.int 0 0] }
abbrev zB (h:Heap)(a b:Addr):Heap:=(zA h a).push { cls:=.type "tuple_iterator",data:=.fields #[.ref b,.int 0 0] }
abbrev zC (h:Heap)(a b:Addr):Heap:=(zB h a b).push { cls:=.type "tuple",data:=.seq #[.ref h.objs.size,.ref (zA h a).objs.size] }
abbrev zD (h:Heap)(a b:Addr):Heap:=(zC h a b).push { cls:=.type "tuple",data:=.seq #[.none,.none] }
abbrev zE (h:Heap)(a b:Addr):Heap:=(zD h a b).push { cls:=.type "zip",data:=.fields #[.none,.bool false,.bool false,.ref (zB h a b).objs.size,.ref (zC h a b).objs.size] }
abbrev jc (h:Heap)(z TI TO:Addr)(a:Addr)(b:Bool):Prop:=
 h.get? z=some { cls:=.type "zip",dict:=none,data:=.fields #[WL a,.bool b,.bool false,.ref TI,.ref TO],slots:=#[] }
def vU (h:Heap)(z TI TO i1 i2:Addr):Prop:=(Va h z TI TO .none/\∃a b,WD h TO a b)\/∃a b oa,jc h z TI TO a b/\h.get? a=some oa/\a≠z/\a≠i1/\a≠i2
end
end JZ2
namespace PySem.SeqAt
open MeetsSeq
theorem zjT {Qq11:Model}{A:Wl}{E:Ti}{s:Wc}{J:Type}{a b:Nat}{f:Nat->J->Sem (ForInStep J)}(I:Nat->J->Wc->Prop)(Q:J->Wc->Prop)
  (turn:∀i c s,a<=i->i<b->I i c s->We Qq11 A (f i c) (λr s'=>match r with | .yield c'=>I (i+1) c' s' | .done c'=>Q c' s') E s)
  (fin:∀c s,I (max a b) c s->Q c s) (c:J) (h:I a c s):We Qq11 A (forIn ([a:b]:Std.Legacy.Range) c f) Q E s:=by
 rw[Std.Legacy.Range.forIn_eq_forIn_range'];have hz:([a:b]:Std.Legacy.Range).size=b-a:=by simp[Std.Legacy.Range.size]
 show We Qq11 A (forIn (List.range' a ([a:b]:Std.Legacy.Range).size 1) c f) Q E s;rw[hz];refine wpAny_forIn_list f (λl c s=>∃i,a<=i/\i<=max a b/\l=List.range' i (max a b-i) 1/\I i c s) Q ?_ ?_ _ c ⟨a,Xj _,by lia,by congr 1;lia,h⟩
 .rintro x rest c s ⟨i,h1,h2,hl,hI⟩;have lt:i<max a b:=by
   rcases Q5 i (max a b)with h' | h'
   .exact h'
   .rw[show max a b-i=0 by lia]at hl;simp at hl
  obtain⟨n,hn⟩:∃n,max a b-i=n+1:=⟨max a b-i-1,by lia⟩;rw[hn,List.range'_succ]at hl;obtain⟨rfl,rfl⟩:=List.cons.inj hl;refine WC (turn x c s h1 (by lia) hI) (λr s' h'=>?_) λ_ _ h'=>h';cases r with
  | done c'=>exact h'
  | yield c'=>exact⟨x+1,by lia,by lia,by congr 1;lia,h'⟩
 .rintro c s ⟨i,h1,h2,hl,hI⟩;have e:i=max a b:=by
   rcases Q5 i (max a b)with h' | h'
   .obtain⟨n,hn⟩:∃n,max a b-i=n+1:=⟨max a b-i-1,by lia⟩;rw[hn,List.range'_succ]at hl;simp at hl
   .lia
  subst e;exact fin _ _ hI
theorem ziB (l:Addr)(items:Array Wb)(n:Nat)(dd:Option Addr)(sl:Array (Tv))(x:Wb)(e:Wb->Bool)(j:Nat)(hj:j<items.size)
  (hit:e items[j]=true) (hno:∀m (hm:m<items.size),m<j->e items[m]=false) :
  Meets (Builtin.«tuple.index» ⟨[.ref l,x],[]⟩)
   (λA R s=>s.heap.get? l=some { cls:=.type "tuple",dict:=dd,data:=.seq items n,slots:=sl }/\(∀y,y∈items->EqAt A.in1 s y x (e y))/\R (.ok (.ret (.int j s.toks))) { s with toks:=s.toks+1 }):=
 .of_wp λprog w A R s h=>by
  obtain⟨hp,g,d,tk,os⟩:=s;obtain⟨hl,he,h⟩:=h
  wp_walk using wpAny_loadPart' hl,zjT (λi (b:Option _×Unit) s'=>b.1=none/\s'=⟨hp,g,d,tk,os⟩/\i<=j) _
  case turn=>
   rintro i b s' h0 hi ⟨hb,rfl,hij⟩;have hi':i<items.size:=by lia
   rw[show items[i]? = some items[i] from Array.getElem?_eq_getElem hi'];refine Wa (he _ (Array.getElem_mem hi') prog w _ _ ?_);by_cases ej:i=j
   .subst ej;rw[hit]
    wp_walk
    exact⟨_,rfl,h⟩
   .rw[hno i hi' (by lia)]
    wp_walk
    exact⟨rfl,rfl,by lia⟩
  case fin=>
   rintro b s' ⟨hb,rfl,hij⟩;exact Qg hij (by lia)
  case h=>exact⟨rfl,rfl,XM _⟩
end PySem.SeqAt
namespace L2
open PySem PySem.Spec PyProof.Rows
variable {xs:List V}
section
variable {X:Cx}
def yZ (sq:Hp->Addr->List V->Prop):V->List V->Hp->VK->Prop:=λx vs H Q=>∃(p:Addr)(xs:List V)(y:V)(j:Nat),x=.ref p/\vs=[y]/\sq H p xs/\mj y=true/\xs.all mj=true/\(∃w,xs[j]? = some w/\ir w y=true)/\(∀m w,m<j->xs[m]? = some w->ir w y=false)/\Q (.int (j:Int)) H
theorem Nb:∀ {xs:List V}{us:Tq}{m:Nat}{u:Wb},Vals xs us->us[m]? = some u->∃w,xs[m]? = some w/\RelV w u
 | _,_,m,u,.nil,h=>by simp at h
 | x::xs,v::us,0,u,.cons r t,h=>by simp at h;subst h;exact⟨x,rfl,r⟩
 | x::xs,v::us,m+1,u,.cons r t,h=>by simpa using Nb t (by simpa using h)
theorem Bx {m:Nat}{w:V}(f:xs.all mj=true)(h:xs[m]? = some w):mj w=true:=XX.mp f w (Xl h)
theorem Nf {its:Tq}{y:V}{j:Nat}(r:Vals xs its)(fs:xs.all mj=true)(h1:∃w,xs[j]? = some w/\ir w y=true)(h2:∀m w,m<j->xs[m]? = some w->ir w y=false) :
  ∃hj:j<its.toArray.size,t8 y its.toArray[j]=true/\∀m (hm:m<its.toArray.size),m<j->t8 y its.toArray[m]=false:=by
 have hl:=r.length;obtain⟨w,hw,ew⟩:=h1;have hj:j<xs.length:=(Xc.mp hw).1;have hj':j<its.length:=by lia
 have at_:∀m (hm:m<its.length),∀w,xs[m]? = some w->t8 y its[m]=ir w y:=λm hm w hx=>by
  obtain⟨w',q1,q2⟩:=Nb r (Xd hm);rw[hx]at q1;cases q1;exact JM q2 (Bx fs hx)
 refine⟨by simpa using hj',?_,λm hm hlt=>?_⟩
 .have:=at_ j hj' w hw;simpa[ew]using this
 .have hm':m<its.length:=by simpa using hm
  have hx:xs[m]? = some xs[m]:=Xd (by lia);have:=at_ m hm' _ hx;rw[h2 m _ hlt hx]at this;simpa using this
theorem zpm:Ah X "list.index" (yZ λH p xs=>bI X.K H p xs):=by
 intro pins s Y H x vs v us Q I rx rv h;obtain⟨p,xs,y,j,rfl,rfl,hq,fy,fs,h1,h2,q⟩:=h;cases rx;obtain⟨u,rfl,ru⟩:=rv.one;obtain⟨its,r,pl,hz⟩:=I.list hq;obtain⟨hj,e1,e2⟩:=Nf r fs h1 h2;obtain⟨⟨cls,dd,data,sl⟩,n,ho,hc,hd,hs⟩:=id pl;simp only at hc hd hs;subst hc hd hs;have hl:=r.length;have hz':=hz;rw[Wi]at hz';have hj2:j<its.length:=by simpa using hj
 exact call_meets PySem.F.slot_list_index ⟨_,ho,rfl⟩ PySem.F.entry_list_index (PySem.F.args_list_index_2 _ _) (SeqAt.list_indexAt p its.toArray n _ sl u (t8 y) j hj (by lia) e1 e2) ⟨ho,λz hz=>Ef ru fy r fs z (by simpa using hz),⟨.int (j:Int),H,I.tok _,⟨_,rfl⟩,q⟩⟩
theorem zpn:Ah X "tuple.index" (yZ λH p xs=>bN X.K H p xs):=by
 intro pins s Y H x vs v us Q I rx rv h;obtain⟨p,xs,y,j,rfl,rfl,hq,fy,fs,h1,h2,q⟩:=h;cases rx;obtain⟨u,rfl,ru⟩:=rv.one;obtain⟨its,r,pl,hz⟩:=I.tuple hq;obtain⟨hj,e1,e2⟩:=Nf r fs h1 h2;obtain⟨⟨cls,dd,data,sl⟩,ho,hc,n,hd⟩:=id pl;simp only at hc hd;subst hc hd;exact call_meets PySem.F.slot_tuple_index ⟨_,ho,rfl⟩ PySem.F.entry_tuple_index (PySem.F.args_tuple_index_2 _ _) (SeqAt.ziB p its.toArray n dd sl u (t8 y) j hj e1 e2) ⟨ho,λz hz=>Ef ru fy r fs z (by simpa using hz),⟨.int (j:Int),H,I.tok _,⟨_,rfl⟩,q⟩⟩
theorem Inv.zwT {pins:Tg}{Y:St}{H:Hp}{s:Wc}{a:Addr}(I:Inv X pins Y H s)(h:bN X.K H a xs):∃ob,s.heap.get? a=some ob/\ob.cls=.type "tuple"/\ob.dict=none:=by
 rcases h with h | ⟨o,its,n,hk,hc,hs,hz,r,hd⟩
 .obtain⟨z,its,r,o,h1,h2,h3,h4⟩:=h.ok I.hok;exact⟨o,h1,h2,h4⟩
 .exact⟨o,I.jh a o hk,hc,hd⟩
variable {o e:Expr}{to te:TE}{name:Str}{apos cpos:Pos}{id:String}{r:V->List V->Hp->VK->Prop}
end
end L2
namespace PL
open PySem PySem.Spec L2
open PyProof.Rows hiding St
variable {d:PV}{v:V}
def mZ:PV->Bool
 | .non=>true
 | .int _=>true
 | .str _=>true
 | _=>false
def iw (ds:List PV)(e:PV):Nat:=ds.findIdx λx=>decide (x=e)
section
variable {K:Xa}{Fz:FZ}{H:Hp}
theorem Ng (f:mZ d=true)(h:aq K Fz H d v):mj v=true:=by
 cases d with
 | non=>simp only[aq]at h;subst h;rfl
 | int i=>simp only[aq]at h;subst h;rfl
 | str x=>simp only[aq]at h;subst h;rfl
 | _=>exact Qg (show false=true from f) Xu
theorem Nh {e:PV}{w:V}(fd:mZ d=true)(fe:mZ e=true)(hd:aq K Fz H d v)(he:aq K Fz H e w):ir v w=decide (d=e):=by
 cases d with
 | non=>
  simp only[aq]at hd;subst hd;cases e with
  | non=>simp only[aq]at he;subst he;simp[ir]
  | int i=>simp only[aq]at he;subst he;simp[ir]
  | str x=>simp only[aq]at he;subst he;simp[ir]
  | _=>exact Qg (show false=true from fe) Xu
 | int i=>
  simp only[aq]at hd;subst hd;cases e with
  | non=>simp only[aq]at he;subst he;simp[ir]
  | int i=>simp only[aq]at he;subst he;rw[KY];rfl
  | str x=>simp only[aq]at he;subst he;simp[ir]
  | _=>exact Qg (show false=true from fe) Xu
 | str x=>
  simp only[aq]at hd;subst hd;cases e with
  | non=>simp only[aq]at he;subst he;simp[ir]
  | int i=>simp only[aq]at he;subst he;simp[ir]
  | str x=>simp only[aq]at he;subst he;rw[KZ];rfl
  | _=>exact Qg (show false=true from fe) Xu
 | _=>exact Qg (show false=true from fd) Xu
theorem Ni:∀ {ds:List PV}{xs:List V},ds.all mZ=true->aj K Fz H ds xs->xs.all mj=true
 | [],xs,_,h=>by simp only[aj]at h;subst h;rfl
 | d::ds,xs,f,h=>by
  simp only[aj]at h;obtain⟨v,r,rfl,h1,h2⟩:=h;rw[List.all_cons,Yu]at f ⊢;exact⟨Ng f.1 h1,Ni f.2 h2⟩
theorem zuB {ds:List PV}{xs:List V}{e:PV}{y:V}(f:ds.all mZ=true)(fe:mZ e=true)(h:aj K Fz H ds xs)(hy:aq K Fz H e y)(hm:e∈ds) :
  (∃w,xs[iw ds e]? = some w/\ir w y=true)/\∀m w,m<iw ds e->xs[m]? = some w->ir w y=false:=by
 have hi:iw ds e<ds.length:=List.findIdx_lt_length_of_exists ⟨e,hm,by simp⟩;have hl:=h.length;refine⟨?_,λm w hlt hw=>?_⟩
 .obtain⟨w,q1,q2⟩:=h.get (Xd hi);refine⟨w,q1,?_⟩;have:=List.findIdx_getElem (p:=λx=>decide (x=e)) (xs:=ds) (w:=hi);rw[Nh (XX.mp f _ (YA hi)) fe q2 hy];exact this
 .have hm':m<ds.length:=by
   have:=(Xc.mp hw).1;lia
  obtain⟨w',q1,q2⟩:=h.get (Xd hm');rw[hw]at q1;cases q1;rw[Nh (XX.mp f _ (YA hm')) fe q2 hy];have:=List.not_of_lt_findIdx (p:=λx=>decide (x=e)) (xs:=ds) hlt;simpa using this
end
theorem zpp {K:Xa}{Fz:FZ}{H:Hp}(f:mZ d=true)(h:aD K Fz H d v):aq K Fz H d v:=by
 cases d with
 | non=>exact h
 | int i=>exact h
 | str x=>exact h
 | _=>exact Qg (show false=true from f) Xu
end PL
namespace L2
open PySem PySem.Spec PyProof.Rows
section
variable {X:Cx}
theorem zpq (hc:X.calm=true):jW X (.builtin "sum") (λxs H Q=>∃(p:Addr) (ns:Tp),xs=[V.ref p]/\bI X.K H p (ns.map V.int)/\Q (.int ns.sum) H):=by
 intro pins s Y H xs us Q I r h;obtain⟨p,ns,rfl,hq,q⟩:=h;obtain⟨u,rfl,rx⟩:=vals1 r;cases rx;obtain⟨its,r',pl,hz⟩:=I.list hq;have hI:W1 its ns:=intsAre_of r';have hl:=pl.isList;have hall:=hI.allInts;obtain⟨zs,ez⟩:=hall.items;rw[ez]at hl;refine sum_intListG (I.ok.hd hc) hl λh' tk t' hk=>?_;have en:preSum (numAt zs) zs.size=ns.sum:=by
  have e1:numsOf its.toArray.toList=ns:=hI.numsOf;rw[ez,nums_intItems]at e1;rw[preSum_eq,Xs (by simp),e1]
 rw[en];exact⟨.int ns.sum,H,I.kept hk,⟨_,rfl⟩,q⟩
end
end L2
namespace PL
open PySem PySem.Spec L2
open PyProof.Rows hiding St
section
variable {X:Cx}
def fSum:PF:=λds Q=>∃ns:Tp,ds=[.lst (ns.map PV.int)]/\Q (.int ns.sum) .aF
theorem Nj {K:Xa}{Fz:FZ}{H:Hp}:∀ {ns:Tp}{xs:List V},aj K Fz H (ns.map PV.int) xs->xs=ns.map V.int
 | [],xs,h=>by simpa only[Yg,aj]using h
 | n::ns,xs,h=>by
  simp only[Yg,aj,aq]at h;obtain⟨v,r,rfl,rfl,h⟩:=h;rw[Nj h];rfl
theorem zwU:mV X.K (λxs H Q=>∃(p:Addr)(ns:Tp),xs=[V.ref p]/\bI X.K H p (ns.map V.int)/\Q (.int ns.sum) H) fSum where
 mono ds Q Q' m h:=by obtain⟨ns,e,q⟩:=h;exact⟨ns,e,m _ _ q⟩
 run Fz H ds vs Q al hr h:=by
  obtain⟨ns,rfl,q⟩:=h;obtain⟨v,rfl,h1⟩:=qD hr;obtain⟨a,xs,rfl,h2,h3⟩:=fG h1;rw[Nj h3]at h2;exact⟨a,ns,rfl,h2,q _ Fz H (.val al (by simp only[aq]))⟩
variable {e:Expr}{es:List Expr}{t:cV}{p pos:Pos}
theorem GC:Wm "sum" = some (.builtin "sum"):=by decide +kernel
theorem Nk (hc:X.calm=true)(hg:Gl X "sum") (hm:X.mg "sum" = none) (ha:eO X (e::es) t) (he:cQ X e es:=by rfl) (hpl:cO X pos es:=by rfl):aG X (.Call (.Name "sum" p) (e::es) [] pos) (tB fSum t):=
 ul (zpq hc) zwU hg hm GC ha (by decide) (by decide) he hpl
end
section
variable {X:Cx}{pos:Pos}
def zdd:aL:=λ_ Q=>Q (.dK [] []) .new
def zde:aL:=λ_ Q=>Q (.dT [] []) .new
theorem vV:aG X (.Dict [] [] pos) zdd where
 mono U Q Q' m h:=m _ _ h
 run:=PE.weak zrg λY H Q h=>by
  obtain⟨U,Fz,R,h⟩:=h;exact λp hp=>h _ Fz _ ⟨Ext.laid ⟨Same.refl H,λ_ h=>h,λ_ h=>.inl h,R.al⟩ hp,p,rfl,hp,λz=>R.al p z hp,[],cg,rfl,aj.nil⟩
theorem zuC:aG X (.Dict [] [] pos) zde where
 mono U Q Q' m h:=m _ _ h
 run:=PE.weak J1 λY H Q h=>by
  obtain⟨U,Fz,R,h⟩:=h;exact λp hp=>h _ Fz _ ⟨Ext.laid ⟨Same.refl H,λ_ h=>h,λ_ h=>.inl h,R.al⟩ hp,p,rfl,hp,λz=>R.al p z hp,[],cg,rfl,aj.nil⟩
end
def lO (k:List Key):PV:=.tup (k.map dF)
section
variable {K:Xa}{Fz:FZ}{H:Hp}
theorem Nm:∀ {k:List Key}{xs:List V},aj K Fz H (k.map dF) xs->xs=k.map kV
 | [],xs,h=>by simpa only[Yg,aj]using h
 | c::k,xs,h=>by
  simp only[Yg,aj]at h;obtain⟨v,r,rfl,h1,h2⟩:=h;rw[Nm h2,Gj (show aD K Fz H (dF c) v by cases c<;>exact h1)];rfl
theorem Np {k:List Key}{x:V}(h:aD K Fz H (lO k) x):∃b,x=.ref b/\H b=some (.tup (k.map kV)):=by
 obtain⟨b,xs,rfl,h1,h2⟩:=Ax h;rw[Nm h2]at h1;exact⟨b,rfl,h1⟩
end
section
variable {X:Cx}{a b c:Expr}{ta tb tc:aL}{pos apos cpos:Pos}
def zbF (ta tb tc:aL):aL:=λU Q=>ta U λd kd=>∃ks ds,d=.dT ks ds/\isOwn kd=false/\tb U λe _=>∃k,e=lO k/\tc U λf kf=>isOwn kf=false/\Q ((iQ ks ds k).getD f) .aF
theorem Nq (hu:X.A.units+1<WG)(ha:aG X a ta)(hb:aG X b tb)(hc:aG X c tc)(m:M2 X a "get" apos b c cpos:=by exact⟨rfl,rfl,rfl,rfl⟩):aG X (.Call (.Attribute a "get" apos) [b,c] [] cpos) (zbF ta tb tc) where
 mono U Q Q' mm h:=ha.mono U _ _ (λd _ ⟨ks,ds,e1,e2,h⟩=>⟨ks,ds,e1,e2,hb.mono U _ _ (λe _ ⟨k,e3,h⟩=>⟨k,e3,hc.mono U _ _ (λf _ ⟨e4,q⟩=>⟨e4,mm _ _ q⟩) h⟩) h⟩) h
 run:=PE.weak (zrh hu ha.run hb.run hc.run m) λY H Q h=>by
  obtain⟨U,Fz,R,h⟩:=h;refine⟨U,Fz,R,ha.mono U _ _ (λd kd q v F1 H1 p1=>?_) h⟩;obtain⟨ks,ds,rfl,ho,q⟩:=q;obtain⟨F1',x1,s1,d1⟩:=p1.frozen (yQ ho);have R1:=R.ext x1;simp only[aq]at d1;obtain⟨a,xs,rfl,f1,r1,l1,dl1⟩:=d1;refine⟨a,rfl,.inr ⟨_,r1⟩,U,F1',R1,hb.mono U _ _ (λe ke q w F2 H2 p2=>?_) q⟩;obtain⟨k,rfl,q⟩:=q;have R2:=R1.ext p2.ext;obtain⟨bb,rfl,hbb⟩:=Np (p2.root R1);refine⟨U,F2,R2,hc.mono U _ _ (λf kf q u F3 H3 p3=>?_) q⟩;obtain⟨ho3,q⟩:=q;obtain⟨F4,x4,s4,d4⟩:=p3.frozen (yQ ho3);have kp:Keep F1' H1 H3:=.of (p2.ext.same.trans x4.same);have sb:∀b,F1' b->F4 b:=λb h=>x4.sub b (p2.ext.sub b h);have r3:Rd H3 a (.dT (ks.zip xs)):=kp.rd trivial f1 r1;have dl3:aj X.K F4 H3 ds xs:=aj.mono kp sb _ _ dl1;refine⟨bL (ks.zip xs) k,.inr ⟨_,k,bb,r3,rfl,x4.same _ _ hbb,rfl⟩,q _ F4 H3 ⟨(x1.trans p2.ext).trans x4,?_⟩⟩;show aq _ _ _ _ _;cases e:iQ ks ds k with
  | none=>rw[(Bp ks ds xs k dl3).2 e];exact d4
  | some d'=>obtain⟨v,e5,h5⟩:=(Bp ks ds xs k dl3).1 d' e;rw[e5];exact h5
end
end PL
namespace PySem
section
variable {prog:Wg}{w:Wj}{K:Type} [DecidableEq K] {knd:HeapKind prog w K}{A:Wl}{E:Ti}{s:Wc}
theorem zfM {d a:Addr}{xs:List (K×Addr×Wb)}{k:K}{v:Wb}{Q:Ti}(hu:knd.room A)(hkey:knd.is s.heap k a)(hm:s.heap.DictOfH knd d xs)
  (there:∀p,atKey xs k=some p->Q p.2 { s with toks:=s.toks+knd.draws k })
  (fresh:atKey xs k=none->∀h',h'.DictOfH knd d (storedH xs k a v)->XV d s.heap h'->Q v { s with heap:=h',toks:=s.toks+knd.draws k })
  (hsz:xs.length<=Wf):We (Wh prog w) A (dictSetDefault d (.ref a) v) Q E s:=by
 obtain⟨ob,es,ep,hob,hcl,hdt,hes,hks,hnd⟩:=hm;unfold dictSetDefault;refine Wy ?_;refine Wa (knd.pyHash hu hkey (Wa (wpAny_dictFind_heap (s:={ s with toks:=s.toks+knd.draws k }) hu hkey hob hdt hes hks hnd (λhno=>?_) λj q hj=>?_)))
 .have hk0:=atKey_none_of_get hno;have hnew:k∉xs.map (·.1):=not_mem_keys_of_get hno;refine Wa (W2 (Wa (wpAny_updateDictKeys (hz:=by have e:=size_of_entries hes;lia) (s:={ s with toks:=s.toks+knd.draws k }) hob hdt (Wd (fresh hk0 _ ?_ (XV.update ..))))));refine⟨_,_,ep+1,XW _ hob (Obj.isFreed_of_dict (Obj.data_mapDictKeys hdt _)),hcl.mapDictKeys _,Obj.data_mapDictKeys hdt _,?_,?_,?_⟩<;>rw[storedH_new hk0]
  .simp[hes,entryOfKey]
  .intro y hy;rcases Xz.mp hy with hy | hy
   .exact knd.keeps (hks y hy) hob hdt (XV.update ..)
   .have:=Xv.mp hy;subst this;exact knd.keeps hkey hob hdt (XV.update ..)
  .rw[Xp,Ys];exact⟨hnd,by simp,λy hy z hz e=>hnew (by have:=Xv.mp hz;rw[e,this]at hy;exact hy)⟩
 .refine Wa (wpAny_dictEntries (s:={ s with toks:=s.toks+knd.draws k }) hob hdt ?_);rw[entry_at hes j,hj];exact Wa (W2 (Wd (there q (atKey_of_get hnd hj))))
end
section
variable {prog:Wg}{w:Wj}{K:Type} [DecidableEq K] (knd:HeapKind prog w K)(d a:Addr)
theorem zfN (hd:(d == Wz)=false)(v:Wb) :
  MeetsIn prog w (Builtin.«dict.setdefault» ⟨[.ref d,.ref a,v],[]⟩) (λA R s=>knd.room A.in1/\∃k xs,knd.is s.heap k a/\s.heap.DictOfH knd d xs/\xs.length<=Wf/\
   (∀p,atKey xs k=some p->R (.ok (.ret p.2)) { s with toks:=s.toks+knd.draws k })/\
   (atKey xs k=none->∀h',h'.DictOfH knd d (storedH xs k a v)->XV d s.heap h'->R (.ok (.ret v)) { s with heap:=h',toks:=s.toks+knd.draws k })):=
 .of_wp λA R s ⟨hu,k,xs,hkey,hm,hsz,h1,h2⟩=>by
  unfold Builtin.«dict.setdefault»;refine Wa ?_;unfold Builtin.Dict.keyAndDefault;refine Wa (wpAny_notOrdered_dict hm.typeIs (Wd ?_));show We _ _ (if (d == Wz)=true then _ else(dictSetDefault d (.ref a) v >>= _)) _ _ s
  rw[Qe (by rw[hd];exact Xu)];exact Wa (zfM hu hkey hm (λp hp=>Wd ⟨_,rfl,h1 p hp⟩) (λhn h' hm' hs=>Wd ⟨_,rfl,h2 hn h' hm' hs⟩) hsz)
end
end PySem
namespace L2
open PySem PySem.Spec PyProof.Rows
section
variable {X:Cx}{pins:Tg}{Y:St}{H:Hp}{s:Wc}{a b:Addr}{kvs:List (List Key×V)}{k:List Key}{z:V}{r:Wb}{A:Wl}{E:Ti}
theorem zpr {Q:Ti}(hu:A.units+1<WG)(I:Inv X pins Y H s)(e:H a=some (.dT kvs))(eb:H b=some (.tup (k.map kV)))(l:kvs.length<Wf)(rz:RelV z r)
  (h1:∀v w' s',bL kvs k=some v->Inv X pins Y H s'->RelV v w'->Q w' s') (h2:bL kvs k=none->∀s',Inv X pins Y (upd H a (.dT (putK kvs k z))) s'->Q r s') :
  We (Wh X.prog X.w) A (call (.builtin "dict.setdefault") [.ref a,.ref b,r]) Q E s:=by
 obtain⟨hz,hd,xs,rel,dd⟩:=J0 I.hok e;have hl:(putK kvs k z).length<=Wf:=by have:=Al kvs k z;lia
 have rv:=rel.val k;refine call_meetsIn PySem.F.slot_dict_setdefault dd.typeIs PySem.F.entry_dict_setdefault (PySem.F.args_dict_setdefault_3 _ _ _) (zfN (tupleKind (gK X.prog X.w)) a b hd r)
  ⟨tupleKind_room_in1 hu,k,xs,yo I.hok eb,dd,by rw[<- Paired.length rel];exact hz,λp hp=>?_,λhn h' oH hs=>?_⟩
 .rw[hp]at rv;cases hv:bL kvs k with
  | none=>rw[hv]at rv;cases rv
  | some v=>
   rw[hv]at rv;exact h1 v p.2 _ hv (I.tok _) rv
 .have hvn:bL kvs k=none:=by
   rw[hn]at rv;cases hv:bL kvs k with
   | none=>rfl
   | some v=>rw[hv]at rv;cases rv
  refine h2 hvn _ ?_;obtain⟨q,es,ep,hq,g2,g3,g4,_,g5⟩:=oH;refine Ao I (by rw[e];exact QX) hs ⟨q,hq⟩ ⟨hl,hd,_,(rel.put k eb rz).keeps λc ys ec=>?_,q,es,ep,hq,g2,g3,g4,g5⟩;rw[aY (Iz ec e (λy=>nomatch y))];exact ec
end
def zyb (td ty tx:TE):TE:=λY H Q=>td Y H λx H1=>∃a,x=.ref a/\Aq H1 a/\ty Y H1 λy H2=>tx Y H2 λz H3=>∃kvs k b,H3 a=some (.dT kvs)/\y=.ref b/\H3 b=some (.tup (k.map kV))/\kvs.length<Wf/\
 (∀v,bL kvs k=some v->Q v H3)/\(bL kvs k=none->Q z (upd H3 a (.dT (putK kvs k z))))
section
variable {X:Cx}{o e f:Expr}{apos cpos:Pos}{td ty tx:TE}
theorem zuD (hu:X.A.units+1<WG)(ho:PE X o td)(he:PE X e ty)(hf:PE X f tx)(m:M2 X o "setdefault" apos e f cpos):PE X (.Call (.Attribute o "setdefault" apos) [e,f] [] cpos) (zyb td ty tx):=by
 intro pins s Y H Q I h;refine wpAny_Call_method m.base m.few m.line Oa PySem.F.slot_dict_setdefault PySem.F.type_dict_setdefault (aQ (ho pins s Y H _ I h) λu s1 ⟨x,H1,I1,rx,a,ex,d,q1⟩=>?_);subst ex;obtain rfl:u=Qm a:=rx;obtain⟨t1,t2,_⟩:=En I1 d;refine⟨t1,t2,?_⟩;rw[m.trees];refine QB rfl (QF (Qu (aQ (he pins s1 Y H1 _ I1 q1) λiv s2 ⟨y,H2,I2,ry,q2⟩=>
  Qu (aQ (hf pins s2 Y H2 _ I2 q2) λfv s3 ⟨z,H3,I3,rz,kvs,k,b,ea,ey,eb,hl,q3,q4⟩=>QC ?_))))
 subst ey;obtain rfl:iv=Qm b:=ry;exact zpr hu I3 ea eb hl rz (λv w' s' hv I' rv=>⟨v,H3,I',rv,q3 v hv⟩) λhn s' I'=>⟨z,_,I',rz,q4 hn⟩
end
end L2
namespace PL
open PySem PySem.Spec L2
open PyProof.Rows hiding St
variable {ks:List (List Key)}{k:List Key}{vs:List V}
def kh (ks:List (List Key))(k:List Key):Bool:=ks.any λc=>decide (c=k)
theorem GD:kh ks k=true↔k∈ks:=by
 unfold kh;rw[List.any_eq_true];constructor
 .rintro⟨c,hc,e⟩;have:c=k:=by simpa using e
  rw[<- this];exact hc
 .exact λh=>⟨k,h,by simp⟩
def gj (ks:List (List Key))(k:List Key):Nat:=ks.findIdx λx=>decide (x=k)
theorem zps (hl:ks.length=vs.length):bL (ks.zip vs) k=none↔k∉ks:=by
 unfold bL;rw[Option.map_eq_none_iff,List.find?_eq_none];constructor
 .intro h hk;obtain⟨i,hi,e⟩:=List.getElem_of_mem hk;have:=h (ks[i],vs[i]'(by lia)) (by
   rw[YF];exact⟨i,by simp;lia,by simp⟩)
  simp[e]at this
 .intro h x hx;have:=(Oe (a:=x.1) (b:=x.2) hx).1;simp;exact λz=>h (z▸this)
theorem zpt {v:V}(hl:ks.length=vs.length)(h:bL (ks.zip vs) k=some v):k∈ks/\vs[gj ks k]? = some v:=by
 induction ks generalizing vs with
 | nil=>simp[bL]at h
 | cons c ks ih=>
  cases vs with
  | nil=>simp at hl
  | cons x vs=>
   by_cases e:c=k
   .subst e;have:x=v:=by simpa[bL]using h
    subst this;exact⟨Xh ..,by simp[gj,Px]⟩
   .have h':bL (ks.zip vs) k=some v:=by simpa[bL,Yq,e]using h
    obtain⟨q1,q2⟩:=ih (by simpa using hl) h';refine⟨Xf _ q1,?_⟩;have:gj (c::ks) k=gj ks k+1:=by unfold gj;simp[Px,e]
    rw[this,YR];exact q2
theorem zuE (h:k∉ks):gj (ks++[k]) k=ks.length:=by
 unfold gj;induction ks with
 | nil=>simp[Px]
 | cons c ks ih=>
  have e:¬ c=k:=λz=>h (z▸Xh ..);have:=ih λz=>h (Xf _ z);simp[Px,e,this]
theorem zrI {v:V}(hl:ks.length=vs.length)(h:k∉ks):putK (ks.zip vs) k v=(ks++[k]).zip (vs++[v]):=by
 unfold putK;have:((ks.zip vs).any λkv=>decide (kv.1=k))=false:=by
  rw[List.any_eq_false];intro x hx;have:=(Oe (a:=x.1) (b:=x.2) hx).1;simp;exact λz=>h (z▸this)
 rw[this,List.zip_append hl];rfl
section
variable {X:Cx}{z:Nat}{pos pos' pos2:Pos}{t:j9}{x:Str}{rest:List Wn}
def zbG (z:Nat)(t:j9):dU:=λU O=>z<U.length/\yU t { nx:=λ_ _=>False,rt:=O.rt,bk:=λ_ _=>False,ct:=λ_ _=>False } (U.set z none) (.T [] [])
theorem zpu (hN:X.N.Nodup)(hx:X.N[z]? = some x)(hl:Loc X.env.scope x)(hr:sY X z rest t)(hs:Wx (.Dict [] [] pos) (some (.Name x pos')) pos2.line X.env=pure false:=by rfl)(hf:lE X x:=by first | exact .inl rfl | exact .inr rfl | assumption) :
  gO X (.Assign [.Name x pos'] (.Dict [] [] pos) pos2::rest) (zbG z t) where
 mono U O O' m h:=⟨h.1,hr.mono _ _ { nx:=λ_ _=>False,rt:=O.rt,bk:=λ_ _=>False,ct:=λ_ _=>False } _ ⟨λ_ _ q=>q.elim,m.rt,λ_ _ q=>q.elim,λ_ _ q=>q.elim⟩ h.2⟩
 run:=dH.weak (qj (rR hN hx hl J1 hs hf) hr.run) λD Y H h=>by
  obtain⟨U,Fz,R,nR,q⟩:=h;intro l hp;have x2:Ext Fz H Fz (upd H l (.dT [])):=Ext.laid ⟨Same.refl _,λ_ h=>h,λ_ h=>.inl h,R.al⟩ hp;have nfl:¬ Fz l:=λw=>R.al l w hp;have nol:¬ cP U Y l:=λ⟨i,d,g1,g2⟩=>by
   obtain⟨a0,q1,_,q3⟩:=R.own i d g1;rw[g2]at q1;cases q1;obtain⟨o,q4,_⟩:=q3.at;rw[hp]at q4;cases q4
  have hzN:z<Y.length:=by rw[<- R.len];exact nR
  have Rb:c7 X.K Fz (U.set z none) (.T [] []) (Y.set z (some (.ref l))) (upd H l (.dT [])) z l []:=
   ⟨(R.ext x2).unset,Xm nR,Xm hzN,⟨cg,rfl,by show aR _ _ _ [] [];unfold aR;rfl,by simp,λb hb=>by rw[Xv.mp hb];exact nfl⟩,λb hb w=>by rw[Xv.mp hb]at w;exact nol (vP l w)⟩
  refine⟨_,Fz,_,l,[],Rb,hr.mono _ _ { nx:=λ_ _=>False,rt:=(jJ X.K D U Y Fz H).rt,bk:=λ_ _=>False,ct:=λ_ _=>False } _ ⟨λ_ _ q=>q.elim,λd k q v ao H'' s al r=>?_,λ_ _ q=>q.elim,λ_ _ q=>q.elim⟩ q⟩;have s0:gB (cP U Y) Fz H Fz (upd H l (.dT [])):=.of x2;have oi:gh (cP U Y) H (OB (U.set z none) (Y.set z (some (.ref l))) [l]):=λb hb=>by
   rcases hb with hb | hb
   .exact .inl (vP b hb)
   .rw[Xv.mp hb];exact .inr hp
  have s1:=s0.trans oi s;have r1:=r.back s0 oi;refine q v ao H'' ⟨s1.sub,s1.new,s1.keep⟩ al ?_;cases k with
  | aF=>exact r1
  | own i=>exact r1
  | new=>exact r1
end
end PL
namespace L2
open PySem PySem.Spec PyProof.Rows
section
variable {X:Cx}{o e:Expr}{to te:TE}{apos cpos:Pos}
theorem zrJ (ho:PE X o to)(he:PE X e te)(m:M1 X o "index" apos e cpos) :
  PE X (.Call (.Attribute o "index" apos) [e] [] cpos) (λY H Q=>to Y H λx H1=>∃a xs,x=.ref a/\(bI X.K H1 a xs\/bN X.K H1 a xs)/\te Y H1 λy H2=>∃zs,(bI X.K H1 a xs/\bI X.K H2 a zs\/bN X.K H1 a xs/\bN X.K H2 a zs)/\∃j:Nat,mj y=true/\zs.all mj=true/\(∃w,zs[j]? = some w/\ir w y=true)/\(∀m w,m<j->zs[m]? = some w->ir w y=false)/\Q (.int (j:Int)) H2):=by
 intro pins s Y H Q I h;refine wpAny_Call_method_late m.base m.few m.line rfl (aQ (ho pins s Y H _ I h) λu s1 ⟨x,H1,I1,rx,a,xs,ex,d,q1⟩=>?_);subst ex;obtain rfl:u=Qm a:=rx;rcases d with d | d
 .obtain⟨its,rv,⟨ob,n,h1,h2,h3,h4⟩,hz⟩:=I1.list d;refine⟨"list","list.index",QL,PySem.F.slot_list_index,PySem.F.type_list_index,⟨ob,h1,h2⟩,λb q=>by cases q;exact⟨ob,h1,h3⟩,?_⟩;rw[m.trees];refine QB rfl (QF (Qu (aQ (he pins s1 Y H1 _ I1 q1) λiv s2 ⟨y,H2,I2,ry,zs,qM,j,f1,f2,g1,g2,q2⟩=>QC ?_)));rcases qM with ⟨_,qM⟩ | ⟨hst,_⟩
  .exact zpm pins s2 Y H2 (.ref a) [y] (.ref a) [iv] Q I2 rfl (.cons ry .nil) ⟨a,zs,y,j,rfl,rfl,qM,f1,f2,g1,g2,q2⟩
  .exact(PL.Ay I1 d hst).elim
 .obtain⟨ob,h1,h2,h4⟩:=I1.zwT d;refine⟨"tuple","tuple.index",PySem.F.plainAttrs_tuple,PySem.F.slot_tuple_index,PySem.F.type_tuple_index,⟨ob,h1,h2⟩,λb q=>by cases q;exact⟨ob,h1,h4⟩,?_⟩;rw[m.trees];refine QB rfl (QF (Qu (aQ (he pins s1 Y H1 _ I1 q1) λiv s2 ⟨y,H2,I2,ry,zs,qM,j,f1,f2,g1,g2,q2⟩=>QC ?_)));rcases qM with ⟨hsl,_⟩ | ⟨_,qM⟩
  .exact(PL.Ay I1 hsl d).elim
  .exact zpn pins s2 Y H2 (.ref a) [y] (.ref a) [iv] Q I2 rfl (.cons ry .nil) ⟨a,zs,y,j,rfl,rfl,qM,f1,f2,g1,g2,q2⟩
end
end L2
namespace PL
open PySem PySem.Spec L2
open PyProof.Rows hiding St
def pIdx (to te:aL):aL:=λU Q=>to U λd _=>∃ds,(d=.lst ds\/d=.tup ds)/\ds.all mZ=true/\te U λe _=>mZ e=true/\e∈ds/\Q (.int (iw ds e:Int)) .aF
section
variable {X:Cx}{o e:Expr}{to te:aL}{apos cpos:Pos}
theorem GF (ho:aG X o to)(he:aG X e te)(m:M1 X o "index" apos e cpos:=by exact⟨rfl,rfl,rfl,rfl⟩):aG X (.Call (.Attribute o "index" apos) [e] [] cpos) (pIdx to te) where
 mono U Q Q' mm h:=ho.mono U _ _ (λd _ ⟨ds,e1,e2,h⟩=>⟨ds,e1,e2,he.mono U _ _ (λe _ ⟨q1,q2,q⟩=>⟨q1,q2,mm _ _ q⟩) h⟩) h
 run:=PE.weak (zrJ ho.run he.run m) λY H Q h=>by
  obtain⟨U,Fz,R,h⟩:=h;refine⟨U,Fz,R,ho.mono U _ _ (λd k q v F1 H1 p1=>?_) h⟩;obtain⟨ds,hd,f,q⟩:=q;have rt:=p1.root R;obtain⟨a,xs,rfl,qM,hsq2,h2⟩:∃a xs,v=.ref a/\(bI X.K H1 a xs\/bN X.K H1 a xs)/\(∀H2,Same H1 H2->(bI X.K H1 a xs/\bI X.K H2 a xs\/bN X.K H1 a xs/\bN X.K H2 a xs))/\aj X.K F1 H1 ds xs:=by
   rcases hd with rfl | rfl
   .obtain⟨a,xs,rfl,h1,h2⟩:=fG rt;exact⟨a,xs,rfl,.inl h1,λH2 s=>.inl ⟨h1,s.seq h1⟩,h2⟩
   .obtain⟨a,xs,rfl,h1,h2⟩:=Ax rt;exact⟨a,xs,rfl,.inr (bN.of h1),λH2 s=>.inr ⟨bN.of h1,bN.of (s _ _ h1)⟩,h2⟩
  refine⟨a,xs,rfl,qM,U,F1,R.ext p1.ext,he.mono U _ _ (λe ke q w F2 H2 p2=>?_) q⟩;obtain⟨fe,hm,q⟩:=q;have h3:=aj.mono (.of p2.ext.same) p2.ext.sub _ _ h2;have hy:=zpp fe (p2.root (R.ext p1.ext));obtain⟨g1,g2⟩:=zuB f fe h3 hy hm;exact⟨xs,hsq2 H2 p2.ext.same,iw ds e,Ng fe hy,Ni f h3,g1,g2,q _ F2 H2 ⟨p1.ext.trans p2.ext,by show aq _ _ _ _ _;simp only[aq]⟩⟩
end
section
variable {X:Cx}{a b:Expr}{ta tb:aL}{pos:Pos}
theorem zrK {prog:Wg}{w:Wj}{A:Wl}{E:Ti}{s:Wc}{t b:Addr}{vs ws:Tq}{Q:Ti}(ht:IsTup s.heap t vs.toArray)(hb:IsTup s.heap b ws.toArray)(hv:vs=[])
  (h:Q (.ref b) s):We (Wh prog w) A (WS .Add (.ref t) (.ref b)) Q E s:=by
 obtain⟨o,ho,hc,n,hd⟩:=ht;obtain⟨o2,ho2,hc2,n2,hd2⟩:=hb;cases o with | mk cls dd data sl=>
 cases o2 with | mk cls2 dd2 data2 sl2=>
 cases hc;cases hd;cases hc2;cases hd2;have he:vs.toArray.isEmpty=true:=by rw[hv];rfl
 have m:=tuple_addW0 t b vs.toArray ws.toArray n n2 dd dd2 sl sl2 he;exact concat_meets ⟨_,ho,rfl⟩ ⟨_,ho2,rfl⟩ noFill_tuple_add seq_tuple_add PySem.F.slot_tuple_add PySem.F.entry_tuple_add (PySem.F.args_tuple_add_2 _ _) m ⟨ho,ho2,h⟩
def Nr (K:Xa):R2:=λx y H Q=>∃l r xs zs,x=.ref l/\y=.ref r/\bN K H l xs/\bN K H r zs/\xs.length+zs.length<=Wf/\
 (xs=[]->Q (.ref r) H)/\(zs=[]->Q (.ref l) H)/\∀p,H p=none->Q (.ref p) (upd H p (.tup (xs++zs)))
theorem zrL:fZ X (WS .Add) (Nr X.K):=by
 intro pins s Y H x y v u Q I rx ry h;obtain⟨l,r,xs,zs,rfl,rfl,hl,hr,hz,q0,q1,q2⟩:=h;by_cases hx:xs=[]
 .cases rx;cases ry;obtain⟨its,r1,p1,_⟩:=I.tuple hl;obtain⟨its2,r2,p2,_⟩:=I.tuple hr;exact zrK p1 p2 (r1.Ag.mpr hx) ⟨.ref r,H,I,rfl,q0 hx⟩
 .exact ztI pins s Y H (.ref l) (.ref r) v u Q I rx ry ⟨l,r,xs,zs,rfl,rfl,hl,hr,hx,hz,q1,λ_=>q2⟩
def Nt:P2:=λd e Q=>∃ds es,d=.tup ds/\e=.tup es/\ds.length+es.length<=Wf/\Q (.tup (ds++es)) .aF
theorem zuF {K:Xa}:jF K (Nr K) Nt where
 mono d e Q Q' m h:=by obtain⟨ds,es,e1,e2,e3,q⟩:=h;exact⟨ds,es,e1,e2,e3,m _ _ q⟩
 run Fz H x y d e Q al rx ry h:=by
  obtain⟨ds,es,rfl,rfl,e3,q⟩:=h;have dx:aq K Fz H (.tup ds) x:=rx;have dy:aq K Fz H (.tup es) y:=ry;obtain⟨l,xs,rfl,h1,h2⟩:=lq rx;obtain⟨r,ys,rfl,g1,g2⟩:=lq ry;have l1:=h2.length;have l2:=g2.length;refine⟨l,r,xs,ys,rfl,rfl,h1,g1,by lia,λz=>?_,λz=>?_,λp hp=>q _ Fz _ (.yL al hp (h2.append g2))⟩
  .have:ds=[]:=YQ.mp (by rw[z]at l1;simpa using l1);subst this;exact q _ Fz _ (.val al dy)
  .have:es=[]:=YQ.mp (by rw[z]at l2;simpa using l2);subst this;rw[XG]at q;exact q _ Fz _ (.val al dx)
theorem zuG (ha:aG X a ta)(hb:aG X b tb):aG X (.BinOp a .Add b pos) (t2 Nt ta tb):=qu zrL zuF ha hb
end
end PL
namespace Srt
open PySem PyProof.Rows
structure Ky (prog:Wg)(w:Wj)(A:Wl)(E:Ti)(s:Wc)(k:SortKind)(P:WQ->Prop)(f:WQ->WQ->Bool):Prop where
 run:∀ {x y:WQ} {Q:Option Bool->SortSt->Prop} {st:SortSt},P x->P y->kindOf st=k->Q (some (f x y)) st->wpS (Wh prog w) A E s (lt' x y) Q st
structure Good {M:Type}(R:M->M->Prop)(a b out:List M):Prop where
 pm:out.Perm (a++b)
 so:out.Pairwise R
structure Same (st st':SortSt):Prop where
 kind:kindOf st'=kindOf st
 arr:arrOf st'=arrOf st
 pend:pendingOf st'=pendingOf st
 failed:failedOf st'=failedOf st
abbrev Le (f:WQ->WQ->Bool)(x y:WQ):Prop:=f y x=false
section
variable {prog:Wg}{w:Wj}{A:Wl}{E:Ti}{s:Wc}{k:SortKind}{P:WQ->Prop}{f:WQ->WQ->Bool}
def Run (f:WQ->WQ->Bool)(a:Array WQ)(lo hi:Nat):Prop:=∀(i j:Nat)(hj:j<a.size)(hij:i<j),lo<=i->j<hi->Le f (a[i]'(by lia)) a[j]
end
def cnt:Nat->Nat->StateT SortSt Sem (Option Nat):=sortPriv% PySem.Builtin.countRun
section
variable {prog:Wg}{w:Wj}{A:Wl}{E:Ti}{s:Wc}{k:SortKind}{P:WQ->Prop}{f:WQ->WQ->Bool}
structure Moved (a a':Array WQ)(lo hi:Nat):Prop where
 pm:a'.Perm a
 out:∀j:Nat,j<lo\/hi<=j->a'[j]? = a[j]?
end
variable {P:WQ->Prop}{f:WQ->WQ->Bool}
def Nu (f:WQ->WQ->Bool)(a:Array WQ):Nat->List (Nat×Nat×Nat)->Nat->Prop
 | s,[],hi=>s=hi
 | s,e::r,hi=>e.1=s/\0<e.2.1/\Run f a s (s+e.2.1)/\Nu f a (s+e.2.1) r hi
def GJ:StateT SortSt Sem Unit:=sortPriv% PySem.Builtin.sortRuns
section
variable {prog:Wg}{w:Wj}{A:Wl}{E:Ti}{s:Wc}{k:SortKind}{P:WQ->Prop}{f:WQ->WQ->Bool}
structure Inv (f:WQ->WQ->Bool)(k:SortKind)(a:Array WQ)(st:SortSt)(lo:Nat):Prop where
 kind:kindOf st=k
 failed:failedOf st=none
 pm:(arrOf st).Perm a
 rO:Nu f (arrOf st) 0 (pendingOf st).toList lo
end
def ltI:Tp->Tp->Bool
 | [],[]=>false
 | [],_::_=>true
 | _::_,[]=>false
 | x::xs,y::ys=>if x=y then ltI xs ys else decide (x<y)
end Srt
namespace PL
open PySem PySem.Spec L2
open PyProof.Rows hiding St
open Srt (ltI)
section
variable {X:Cx}{e:Expr}{es:List Expr}{te:aL}{t:cV}{x:Str}{p p1 p2 q1 pos pos2 apos cpos:Pos}
def zdf (i:Nat)(te:aL):mY:=λU Q=>∃ds,U[i]? = some (some (.lst ds,true))/\te U λd k=>∃es,d=.lst es/\k=.new/\ds.length+es.length<=Wf/\Q .non (U.set i (some (.lst (ds++es),true)))
theorem zrM (i:Nat)(he:aG X e te)(hN:X.N[i]? = some x:=by rfl)(hv:mO X.env.scope x:=by first | exact Qk rfl | exact Qs (Qk rfl) | exact Qs (Qs rfl))(hd:fD x:=by decide) (hcd:nD x:=by decide)
  (hbase:Wu (.Name x p) "extend" X.env (Ww (.Name x p) X.env)=Ww (.Name x p) X.env:=by rfl)
  (hfew:((WK cpos (Wo [e] X.env)).all (λx=>!x.1)&&(WT cpos (WE [] X.env)).all (λx=>x.1.isSome)&&decide ([e].length+([]:List W0).length+(if ([]:List W0).isEmpty then 0 else 1)<30))=true:=by rfl)
  (hline:(apos.endLine == cpos.line)=true:=by rfl) (hs:cQ X e []:=by rfl) (hplain:cO X cpos []:=by rfl):qC X (.Call (.Attribute (.Name x p) "extend" apos) [e] [] cpos) (zdf i te) where
 mono U Q Q' m h:=by
  obtain⟨ds,e1,h⟩:=h;exact⟨ds,e1,he.mono U _ _ (λd _ ⟨es,q1,q2,q3,q⟩=>⟨es,q1,q2,q3,m _ _ q⟩) h⟩
 run:=PE.weak (Ai QL PySem.F.slot_list_extend PySem.F.type_list_extend zoj (mQ hN hv hd hcd) (t7 he.run rZ hs) hbase hfew hline hs hplain) λY H Q h=>by
  obtain⟨U,Fz,R,ds,e1,h⟩:=h;obtain⟨a,xs,hs,ha,hd,nf⟩:=uq R e1;refine⟨_,hs,.inl ⟨rfl,xs,bI.of ha⟩,U,Fz,R,he.mono U _ _ (λd k q v F1 H1 p1=>?_) h⟩;obtain⟨es,rfl,rfl,q2,q⟩:=q;have R2:=R.ext p1.ext;obtain⟨a',xs',hs',ha',hd',jw⟩:=uq R2 e1;rw[hs]at hs';cases hs';obtain⟨pe,b,rfl,hb0,hbf,zs,hb,hz⟩:=p1;have hl:=hd'.length;have hl2:=hz.length;refine⟨a,b,xs',zs,rfl,rfl,ha',hb,by lia,?_⟩;have ow:Own X.K F1 (upd H1 a (.lst (xs'++zs))) (.lst (ds++es)) a:=⟨_,cg,(aj.vH ha' jw (hd'.append hz))⟩;obtain⟨R3,s3,o3⟩:=R2.mut e1 hs ha' ow;exact q .non F1 _ ((Step.of pe).trans (bh.refl U Y H) s3) (bh.trans (Step.of pe) (bh.refl U Y H) o3) R3 (by simp only[aq])
end
end PL
namespace L2
open PySem PySem.Spec PyProof.Rows
theorem BJ {h:Heap}{a:Addr}{its:Array Wb}(x:IsTup h a its):h.IsTuple a its:=x
end L2
namespace PL
open PySem PySem.Spec L2
open PyProof.Rows hiding St
theorem zuH {ks:List Key}{ys:List V}{its:Tq}(r:Vals ys its):KV (ks.zip ys) (ks.zip its):=by
 induction r generalizing ks with
 | nil=>cases ks<;>exact .nil
 | cons h1 h2 ih=>
  cases ks with
  | nil=>exact .nil
  | cons k ks=>exact .cons ⟨rfl,h1⟩ ih
theorem zuI {P:Wg}{w:Wj}{ks:List Key}{its:Tq}(r:Vals (ks.map kV) its)(i:Nat)(k:Key)(x:Wb)(h1:ks[i]? = some k)(h2:its[i]? = some x):(gK P w).is k x=true:=by
 obtain⟨u,hu,ru⟩:=r.get (i:=i) (x:=kV k) (by rw[Xg,h1];rfl);rw[h2]at hu;cases hu;cases k with
 | inl n=>obtain⟨t,rfl⟩:=ru;exact Ir _ _ _ _
 | inr n=>obtain⟨t,rfl⟩:=ru;exact Iu _ _ _ _
theorem Nv {K:Xa}{Fz:FZ}{H:Hp}:∀ {ks:List Key}{xs:List V},aj K Fz H (ks.map dF) xs->xs=ks.map kV
 | [],xs,h=>by simpa only[YE,aj]using h
 | k::ks,xs,h=>by
  simp only[Xq,aj]at h;obtain⟨x,r,rfl,h1,h2⟩:=h;rw[Nv h2,Xq]
  congr 1
  cases k<;>simpa only[dF,kV,aq]using h1
end PL
namespace JZG
open PySem
variable {t bb:Bool}{h h':Heap}{l a b it z TI TO i1 i2 l1 l2 c:Addr}{xs items ys:Array Wb}{k i k1 k2:Nat}{Q:Ti}{x y:Wb}{oc:Obj}
def SS (t:Bool)(h:Heap)(l:Addr)(xs:Array Wb):Prop:=bif t then h.IsTuple l xs else h.IsList l xs
def SI (t:Bool)(h:Heap)(it l:Addr)(k:Nat):Prop:=bif t then h.IsTupleIter it l k else h.IsListIter it l k
theorem SS.at (x:SS t h l xs)(e:∀o,h.get? l=some o->h'.get? l=some o):SS t h' l xs:=by cases t<;>exact(let ⟨o,ho,r⟩:=x;⟨o,e _ ho,r⟩)
theorem SI.at (x:SI t h a l k)(e:∀o,h.get? a=some o->h'.get? a=some o):SI t h' a l k:=by cases t<;>exact(let ⟨o,ho,r⟩:=x;⟨o,e _ ho,r⟩)
theorem SS.extBut (x:SS t h l xs)(hs:Heap.ExtBut b h h')(n:l≠b):SS t h' l xs:=x.at λo e=>hs _ o n e
theorem SI.extBut (x:SI t h a l k)(hs:Heap.ExtBut b h h')(n:a≠b):SI t h' a l k:=x.at λo e=>hs _ o n e
theorem SS.lt (x:SS t h l xs):l<h.objs.size:=by cases t<;>exact(let ⟨o,ho,r⟩:=x;Xw ho)
theorem SI.lt (x:SI t h a l k):a<h.objs.size:=by cases t<;>exact(let ⟨o,ho,r⟩:=x;Xw ho)
section
variable {prog:Wg}{w:Wj}{A:Wl}{E:Ti}{s:Wc}{t:Bool}
theorem ziF {it l:Addr}{i:Nat}{items:Array Wb}{Q:Ti}(hh:A.handled=none)
  (hit:s.heap.IsTupleIter it l i) (hl:s.heap.IsTuple l items) (hx:items[i]? = none)
  (hE:∀h' e,Heap.ExtBut it s.heap h'->(∃o,h'.get? e=some o/\o.cls=.type "StopIteration")->E (.ref e) { s with heap:=h' }) :
  We (Wh prog w) A (Qn (.ref it)) Q E s:=by
 obtain⟨o,ho,hc,hd⟩:=id hit;obtain⟨ol,hol,_,nl,hdl⟩:=hl;unfold Qn;refine Wa (wpAny_callSpecial?_slot (name:=PX "__next__") hit.typeIs Pr
  (Wt Pr hit.typeIs F.entry_tuple_iterator_next ?_ (F.args_tuple_iterator_next_1 _)))
 show We _ _ (field (.ref it) 0 >>= _) _ _ s;refine Wa (Wp ho hd (x:=.ref l) rfl ?_);show We _ _ (if (Qm l == Value.none)=true then _ else _) _ _ s
 rw[Qe (show ¬ ((Qm l == Value.none)=true) from Xu)];show We _ _ (field (.ref it) 1 >>= _) _ _ s;refine Wa (Wp ho hd (x:=.int i 0) rfl ?_);show We _ _ (seqItems? (.ref l) >>= _) _ _ s;refine Wa (WB hol hdl ?_);simp only[Pa,hx];refine Wa (W2 (Wa (WA ho hd (by simp) ?_)));show We _ _ (newExc (.type "StopIteration") [] >>= _) _ _ _;refine Wa ?_;simp only[newExc,newTuple];refine Wa (WP ?_ (by size_fits));refine Wa (m:=firstArgMember _ _) (wpAny_of_eq (a:=Value.none) (by first | rfl | (simp only[firstArgMember];rfl)) ?_)
 refine WP ?_ (by size_fits);simp only[raiseNew];refine Wa (wpAny_handled ?_)
 first | rw[show A.in1.handled=none from hh] | rw[hh]
 refine Wa (Wd (wpAny_throw ?_));exact hE _ _ (((XV.update ..).extBut.push _).push _) ⟨_,Xx _ rfl,rfl⟩
theorem Nx (hit:SI t s.heap it l i)(ht:SS t s.heap l items)(hx:items[i]? = some x)(hQ:∀h',SI t h' it l (i+1)->XV it s.heap h'->Q x { s with heap:=h' }) :
  We (Wh prog w) A (Qn (.ref it)) Q E s:=by
 cases t with
 | true=>exact JZ.Gz hit ht hx hQ
 | false=>exact wpAny_nextOf_list_item hit ht hx hQ
theorem Ny {it l:Addr}{i:Nat}{items:Array Wb}{Q:Ti}(hh:A.handled=none)(hit:SI t s.heap it l i)(ht:SS t s.heap l items)(hx:items[i]? = none)
  (hE:∀h' e,Heap.ExtBut it s.heap h'->(∃o,h'.get? e=some o/\o.cls=.type "StopIteration")->E (.ref e) { s with heap:=h' }):We (Wh prog w) A (Qn (.ref it)) Q E s:=by
 cases t with
 | true=>exact ziF hh hit ht hx hE
 | false=>exact wpAny_nextOf_list_end hh hit ht hx hE
theorem zrO {z TI TO i1 i2 l1 l2:Addr}{k1 k2:Nat}{xs ys:Array Wb}{x y a b:Wb}{Q:Ti}(D:WV z TI TO i1 i2 l1 l2)(hz:Va s.heap z TI TO .none)(hTI:WD s.heap TI (.ref i1) (.ref i2))(hTO:WD s.heap TO a b)(h1:SI t s.heap i1 l1 k1)(h2:s.heap.IsTupleIter i2 l2 k2)(hl1:SS t s.heap l1 xs)(hl2:s.heap.IsTuple l2 ys)(hx:xs[k1]? = some x)(hy:ys[k2]? = some y)
  (hQ:∀h',Va h' z TI TO (WL s.heap.objs.size)->WD h' TO x y->SI t h' i1 l1 (k1+1)->h'.IsTupleIter i2 l2 (k2+1)->WD h' s.heap.objs.size x y->h'.objs.size=s.heap.objs.size+1->(∀c o,c≠z->c≠TO->c≠i1->c≠i2->s.heap.get? c=some o->h'.get? c=some o)->Q (.ref s.heap.objs.size) { s with heap:=h' }) :
  We (Wh prog w) A (Builtin.«zip.__next__» ⟨[.ref z],[]⟩) (λfin s'=>∃v,fin=.done (.ret v)/\Q v s') E s:=by
 show We _ _ (field (.ref z) 2 >>= _) _ _ _;refine Wa (Wp hz rfl (x:=.bool false) rfl ?_);show We _ _ (field (.ref z) 3 >>= _) _ _ _;refine Wa (Wp hz rfl (x:=.ref TI) rfl (Wa (WB hTI rfl ?_)));show We _ _ (Qp (.ref z) >>= _) _ _ _;refine Wa ?_;unfold Qp;refine Wa (Wp hz rfl (x:=.none) rfl (Wd ?_));simp only[if_true];refine Wa (W2 (Wa (Wp hz rfl (x:=.ref TO) rfl (Wa (WJ hz (by simp) λha qa sa=>?_)))));replace qa:Va ha z TI TO .ellipsis:=qa;refine Wa ?_;simp only[List.zipIdx_cons,List.zipIdx_nil,List.forIn_cons,Ou];refine Wa (Wa (wpAny_onRaise ?_));show We _ _ (Qn (.ref i1) >>= _) _ _ _;refine Wa (Nx (h1.extBut sa.extBut D.i1z) (hl1.extBut sa.extBut D.l1z) hx λhb j1 sb=>Wd ?_);have pb:WD hb TO a b:=sb.extBut _ _ D.TOi1 (sa.extBut _ _ D.TOz hTO);refine Wa (WB pb rfl (Wa (wpAny_updateSeq_pair pb λhc pc sc=>?_)));replace pc:WD hc TO x b:=pc;refine Wa (wpAny_letGo (Wd (Wa (Wa (wpAny_onRaise ?_)))));show We _ _ (Qn (.ref i2) >>= _) _ _ _;refine Wa (JZ.Gz (((h2.extBut sa.extBut D.i2z).extBut sb.extBut D.i12.symm).extBut sc.extBut D.TOi2.symm) (((hl2.extBut sa.extBut D.l2z).extBut sb.extBut D.l2i1).extBut sc.extBut D.l2TO) hy λhd j2 sd=>Wd ?_);have pd:WD hd TO x b:=sd.extBut _ _ D.TOi2 pc;refine Wa (WB pd rfl (Wa (wpAny_updateSeq_pair pd λhe pe se=>?_)));replace pe:WD he TO x y:=pe;refine Wa (wpAny_letGo (Wd (Wd (Wa (WB pe rfl (Wa (wpAny_newTuple ?_)))))));have ez:he.objs.size=s.heap.objs.size:=by rw[se.1,sd.1,sc.1,sb.1,sa.1]
 have qe:Va he z TI TO .ellipsis:=se.extBut _ _ D.TOz.symm (sd.extBut _ _ D.i2z.symm (sc.extBut _ _ D.TOz.symm (sb.extBut _ _ D.i1z.symm qa)));have ke:∀c o,c≠z->c≠TO->c≠i1->c≠i2->s.heap.get? c=some o->he.get? c=some o:=λc o c1 c2 c3 c4 e=>se.extBut _ _ c2 (sd.extBut _ _ c4 (sc.extBut _ _ c2 (sb.extBut _ _ c3 (sa.extBut _ _ c1 e))));have m1:SI t he i1 l1 (k1+1):=((j1.extBut sc.extBut D.TOi1.symm).extBut sd.extBut D.i12).extBut se.extBut D.TOi1.symm;have m2:he.IsTupleIter i2 l2 (k2+1):=j2.extBut se.extBut D.TOi2.symm;have lz:z<he.objs.size:=Xw qe;show We _ _ (Builtin.SmallTypes.ownedTupleHandOut (.ref z) (.ref he.objs.size) >>= _) _ _ _;refine Wa ?_;unfold Builtin.SmallTypes.ownedTupleHandOut;have qf:Va (he.push { cls:=.type "tuple",data:=.seq #[x,y] }) z TI TO .ellipsis:=Xe _ qe;refine Wa (WJ qf (by simp) λhg qg sg=>?_);replace qg:Va hg z TI TO (WL he.objs.size):=qg;refine WJ qg (by simp) λhi qi si=>?_;replace qi:Va hi z TI TO (WL he.objs.size):=qi;have up:∀c o,c≠z->he.get? c=some o->hi.get? c=some o:=λc o c1 e=>si.extBut _ _ c1 (sg.extBut _ _ c1 (Xe _ e));have pi:WD hi he.objs.size x y:=si.extBut _ _ (Yh lz) (sg.extBut _ _ (Yh lz) (Xx _ rfl));have zi:hi.objs.size=he.objs.size+1:=by rw[si.1,sg.1,Ym]
 rw[ez]at qi pi zi;refine Wd ⟨_,rfl,?_⟩;show Q (.ref he.objs.size) _;rw[ez];exact hQ hi qi (up _ _ D.TOz pe) (m1.at λo e=>up _ o D.i1z e) (m2.at λo e=>up _ o D.i2z e) pi zi λc o c1 c2 c3 c4 e=>up c o c1 (ke c o c1 c2 c3 c4 e)
theorem zuJ {z TI TO i1 i2 l1 l2:Addr}{k1:Nat}{xs:Array Wb}{Q:PySem.Fin->Wc->Prop}(hh:A.handled=none)(D:WV z TI TO i1 i2 l1 l2)(hz:Va s.heap z TI TO .none)(hTI:WD s.heap TI (.ref i1) (.ref i2))(h1:SI t s.heap i1 l1 k1)(hl1:SS t s.heap l1 xs)(hx:xs[k1]? = none)
  (hE:∀h' e,(∀c o,c≠z->c≠TO->c≠i1->c≠i2->s.heap.get? c=some o->h'.get? c=some o)->(∃o,h'.get? e=some o/\o.cls=.type "StopIteration")->E (.ref e) { s with heap:=h' }) :
  We (Wh prog w) A (Builtin.«zip.__next__» ⟨[.ref z],[]⟩) Q E s:=by
 show We _ _ (field (.ref z) 2 >>= _) _ _ _;refine Wa (Wp hz rfl (x:=.bool false) rfl ?_);show We _ _ (field (.ref z) 3 >>= _) _ _ _;refine Wa (Wp hz rfl (x:=.ref TI) rfl (Wa (WB hTI rfl ?_)));show We _ _ (Qp (.ref z) >>= _) _ _ _;refine Wa ?_;unfold Qp;refine Wa (Wp hz rfl (x:=.none) rfl (Wd ?_));simp only[if_true];refine Wa (W2 (Wa (Wp hz rfl (x:=.ref TO) rfl (Wa (WJ hz (by simp) λha qa sa=>?_)))));replace qa:Va ha z TI TO .ellipsis:=qa;refine Wa ?_;simp only[List.zipIdx_cons,List.zipIdx_nil,List.forIn_cons,Ou];refine Wa (Wa (wpAny_onRaise ?_));show We _ _ (Qn (.ref i1) >>= _) _ _ _;refine Wa (Ny hh (h1.extBut sa.extBut D.i1z) (hl1.extBut sa.extBut D.l1z) hx λhb e sb he=>?_);obtain⟨oe,hoe,hce⟩:=he;have qb:Va hb z TI TO .ellipsis:=sb _ _ D.i1z.symm qa;have ne:e≠z:=λy=>by subst y;rw[qb]at hoe;cases hoe;simp at hce
 refine WJ qb (by simp) λhc _ sc=>hE hc e (λc o c1 _ c3 _ y=>sc.extBut _ _ c1 (sb _ _ c3 (sa.extBut _ _ c1 y))) ⟨oe,sc.extBut _ _ ne hoe,hce⟩
theorem next_item {z TI TO i1 i2 l1 l2:Addr}{k1 k2:Nat}{xs ys:Array Wb}{x y a b:Wb}{Q:Tv->Wc->Prop}(D:WV z TI TO i1 i2 l1 l2)(hz:Va s.heap z TI TO .none)(hTI:WD s.heap TI (.ref i1) (.ref i2))(hTO:WD s.heap TO a b)(h1:SI t s.heap i1 l1 k1)(h2:s.heap.IsTupleIter i2 l2 k2)(hl1:SS t s.heap l1 xs)(hl2:s.heap.IsTuple l2 ys)(hx:xs[k1]? = some x)(hy:ys[k2]? = some y)
  (hQ:∀h',Va h' z TI TO (WL s.heap.objs.size)->WD h' TO x y->SI t h' i1 l1 (k1+1)->h'.IsTupleIter i2 l2 (k2+1)->WD h' s.heap.objs.size x y->h'.objs.size=s.heap.objs.size+1->(∀c o,c≠z->c≠TO->c≠i1->c≠i2->s.heap.get? c=some o->h'.get? c=some o)->Q (some (.ref s.heap.objs.size)) { s with heap:=h' }) :
  We (Wh prog w) A (WX (.ref z)) Q E s:=by
 have hT:s.TypeIs (.ref z) "zip":=⟨_,hz,rfl⟩;unfold WX;exact Wa (wpAny_attempt (wpAny_callSpecial?_slot (name:=PX "__next__") hT Q7 (Wt Q7 hT F.entry_zip_next (zrO D hz hTI hTO h1 h2 hl1 hl2 hx hy λh' a1 a2 a3 a4 a5 a6 a7=>Wd (hQ h' a1 a2 a3 a4 a5 a6 a7)) (F.args_zip_next_1 _))))
theorem next_end {z TI TO i1 i2 l1 l2:Addr}{k1:Nat}{xs:Array Wb}{Q:Tv->Wc->Prop}(hh:A.handled=none)(D:WV z TI TO i1 i2 l1 l2)(hz:Va s.heap z TI TO .none)(hTI:WD s.heap TI (.ref i1) (.ref i2))(h1:SI t s.heap i1 l1 k1)(hl1:SS t s.heap l1 xs)(hx:xs[k1]? = none)
  (hQ:∀h',(∀c o,c≠z->c≠TO->c≠i1->c≠i2->s.heap.get? c=some o->h'.get? c=some o)->Q none { s with heap:=h' }):We (Wh prog w) A (WX (.ref z)) Q E s:=by
 have hT:s.TypeIs (.ref z) "zip":=⟨_,hz,rfl⟩;unfold WX;refine Wa (wpAny_attempt (wpAny_callSpecial?_slot (name:=PX "__next__") hT Q7 (Wt Q7 hT F.entry_zip_next (zuJ hh D hz hTI h1 hl1 hx λh' e hk he=>?_) (F.args_zip_next_1 _))));obtain⟨o,ho,hc⟩:=he;exact Wa (wpAny_isInstance (T:="StopIteration") (b:=true) ⟨o,ho,hc⟩ isSubtype_stop (Wd (hQ _ hk)))
abbrev zA (t:Bool)(h:Heap)(a:Addr):Heap:=h.push { cls:=.type (bif t then "tuple_iterator" else "list_iterator"),data:=.fields #[.ref a,.int 0 0] }
abbrev zB (t:Bool)(h:Heap)(a b:Addr):Heap:=(zA t h a).push { cls:=.type "tuple_iterator",data:=.fields #[.ref b,.int 0 0] }
abbrev zC (t:Bool)(h:Heap)(a b:Addr):Heap:=(zB t h a b).push { cls:=.type "tuple",data:=.seq #[.ref h.objs.size,.ref (zA t h a).objs.size] }
abbrev zD (t:Bool)(h:Heap)(a b:Addr):Heap:=(zC t h a b).push { cls:=.type "tuple",data:=.seq #[.none,.none] }
abbrev zE (t:Bool)(h:Heap)(a b:Addr):Heap:=(zD t h a b).push { cls:=.type "zip",data:=.fields #[.none,.bool false,.bool false,.ref (zB t h a b).objs.size,.ref (zC t h a b).objs.size] }
theorem zpw (a b:Addr)(xs ys:Array Wb):Meets (Builtin.«zip.__new__» ⟨[.type "zip",.ref a,.ref b],[]⟩) (λ_ R s=>SS t s.heap a xs/\s.heap.IsTuple b ys/\R (.ok (.ret (.ref (zD t s.heap a b).objs.size))) { s with heap:=zE t s.heap a b }):=
 .of_wp λprog w A R s h=>by
  obtain⟨hp,g,d,tk,os⟩:=s;obtain⟨hl1,hl2,h⟩:=h;have hsub:=sub_zip;cases t with
  | true=>
   have hL1:Heap.IsTuple (Shared.heap ⟨hp,g,d,tk,os⟩) a xs:=hl1;have hL2:Heap.IsTuple (Shared.heap ⟨hp.push { cls:=.type "tuple_iterator",data:=.fields #[.ref a,.int 0 0] },g,d,tk,os⟩) b ys:=Heap.IsTuple.push hl2 _
   wp_walk using wpAny_pyIter_tuple hL1,wpAny_pyIter_tuple hL2
   exact⟨_,rfl,h⟩
  | false=>
   have hL1:Heap.IsList (Shared.heap ⟨hp,g,d,tk,os⟩) a xs:=hl1;have hL2:Heap.IsTuple (Shared.heap ⟨hp.push { cls:=.type "list_iterator",data:=.fields #[.ref a,.int 0 0] },g,d,tk,os⟩) b ys:=Heap.IsTuple.push hl2 _
   wp_walk using wpAny_pyIter_list hL1,wpAny_pyIter_tuple hL2
   exact⟨_,rfl,h⟩
theorem zrP {a b:Addr}{xs ys:Array Wb}{Q:Ti}(hl1:SS t s.heap a xs)(hl2:s.heap.IsTuple b ys)
  (h:∀h',Va h' (s.heap.objs.size+4) (s.heap.objs.size+2) (s.heap.objs.size+3) .none->WD h' (s.heap.objs.size+2) (.ref s.heap.objs.size) (.ref (s.heap.objs.size+1))->WD h' (s.heap.objs.size+3) .none .none->SI t h' s.heap.objs.size a 0->h'.IsTupleIter (s.heap.objs.size+1) b 0->(∀c o,s.heap.get? c=some o->h'.get? c=some o)->Q (.ref (s.heap.objs.size+4)) { s with heap:=h' }) :
  We (Wh prog w) A (call (.type "zip") [.ref a,.ref b]) Q E s:=by
 refine callType_new F.called_zip (by decide) (F.typeCall_zip_2 _ _) (F.newCall_zip_2 _ _) (λobj=>F.args_object_init_3 obj _ _) F.entry_zip_new (zpw a b xs ys) ⟨hl1,hl2,?_⟩;have z1:(zA t s.heap a).objs.size=s.heap.objs.size+1:=Ym ..;have z2:(zB t s.heap a b).objs.size=s.heap.objs.size+2:=by rw[Ym,z1]
 have z3:(zC t s.heap a b).objs.size=s.heap.objs.size+3:=by rw[Ym,z2]
 have z4:(zD t s.heap a b).objs.size=s.heap.objs.size+4:=by rw[Ym,z3]
 have g5:(zE t s.heap a b).get? (zD t s.heap a b).objs.size=some _:=Xx _ rfl;have g4:(zE t s.heap a b).get? (zC t s.heap a b).objs.size=some _:=Xe _ (Xx _ rfl);have g3:(zE t s.heap a b).get? (zB t s.heap a b).objs.size=some _:=Xe _ (Xe _ (Xx _ rfl));have g2:(zE t s.heap a b).get? (zA t s.heap a).objs.size=some _:=Xe _ (Xe _ (Xe _ (Xx _ rfl)));have g1:(zE t s.heap a b).get? s.heap.objs.size=some _:=Xe _ (Xe _ (Xe _ (Xe _ (Xx _ rfl))));show _/\_;rw[z2,z3,z4]at g5;rw[z1,z2]at g3;rw[z3]at g4;rw[z1]at g2;rw[z4];exact⟨⟨_,g5,rfl⟩,h _ g5 g3 g4 (by cases t<;>exact⟨_,g1,rfl,rfl⟩) ⟨_,g2,rfl,rfl⟩ λc o y=>Xe _ (Xe _ (Xe _ (Xe _ (Xe _ y))))⟩
abbrev jc (h:Heap)(z TI TO:Addr)(a:Addr)(b:Bool):Prop:=
 h.get? z=some { cls:=.type "zip",dict:=none,data:=.fields #[WL a,.bool b,.bool false,.ref TI,.ref TO],slots:=#[] }
theorem Nz (hz:jc s.heap z TI TO c bb)(hc:s.heap.get? c=some oc):We (Wh prog w) A (Qp (.ref z)) (λb s'=>b=false/\∃h',s'={ s with heap:=h' }/\jc h' z TI TO c true/\XV z s.heap h') E s:=by
 unfold Qp;refine Wa (Wp hz rfl (x:=WL c) rfl ?_);show We _ _ (loadIfAlive ((c:Int).toNat) >>= _) _ _ _;refine Wa (zdY (o:=oc) (by simpa using hc) ?_);show We _ _ (field (.ref z) 1 >>= _) _ _ _;refine Wa (Wp hz rfl (x:=.bool bb) rfl ?_);cases bb with
 | false=>
  show We _ _ (setField (.ref z) 1 (.bool true) >>= _) _ _ _;refine Wa (WJ hz (by simp) λh₅ he₅ hs₅=>?_);exact Wd ⟨rfl,h₅,rfl,he₅,hs₅⟩
 | true=>exact Wd ⟨rfl,s.heap,rfl,hz,⟨rfl,λ_ _=>rfl⟩⟩
theorem zpx {z TI TO i1 i2 l1 l2 c:Addr}{oc:Obj}{bb:Bool}{k1 k2:Nat}{xs ys:Array Wb}{x y:Wb}{Q:Ti}(D:WV z TI TO i1 i2 l1 l2)(hz:jc s.heap z TI TO c bb)(hc:s.heap.get? c=some oc)(hTI:WD s.heap TI (.ref i1) (.ref i2))(h1:SI t s.heap i1 l1 k1)(h2:s.heap.IsTupleIter i2 l2 k2)(hl1:SS t s.heap l1 xs)(hl2:s.heap.IsTuple l2 ys)(hx:xs[k1]? = some x)(hy:ys[k2]? = some y)
  (hQ:∀h',jc h' z TI TO c true->SI t h' i1 l1 (k1+1)->h'.IsTupleIter i2 l2 (k2+1)->WD h' s.heap.objs.size x y->h'.objs.size=s.heap.objs.size+1->(∀c o,c≠z->c≠i1->c≠i2->s.heap.get? c=some o->h'.get? c=some o)->Q (.ref s.heap.objs.size) { s with heap:=h' }) :
  We (Wh prog w) A (Builtin.«zip.__next__» ⟨[.ref z],[]⟩) (λfin s'=>∃v,fin=.done (.ret v)/\Q v s') E s:=by
 show We _ _ (field (.ref z) 2 >>= _) _ _ _;refine Wa (Wp hz rfl (x:=.bool false) rfl ?_);show We _ _ (field (.ref z) 3 >>= _) _ _ _;refine Wa (Wp hz rfl (x:=.ref TI) rfl (Wa (WB hTI rfl ?_)));show We _ _ (Qp (.ref z) >>= _) _ _ _;refine Wa (WC (Nz hz hc) ?_ (λ_ _ e=>e));rintro _ _ ⟨rfl,ha,rfl,qa,sa⟩;simp only[Yd,if_false];rw[<- Array.forIn_toList];refine Wa ?_;simp only[List.forIn_cons,Ou];refine Wa (Wa (Wy ?_));show We _ _ (Qn (.ref i1) >>= _) _ _ _;refine Wa (Nx (h1.extBut sa.extBut D.i1z) (hl1.extBut sa.extBut D.l1z) hx λhb j1 sb=>Wd (Wd ?_));refine Wa (Wa (Wy ?_));show We _ _ (Qn (.ref i2) >>= _) _ _ _;refine Wa (JZ.Gz ((h2.extBut sa.extBut D.i2z).extBut sb.extBut D.i12.symm) ((hl2.extBut sa.extBut D.l2z).extBut sb.extBut D.l2i1) hy λhd j2 sd=>Wd (Wd (Wd ?_)));show We _ _ (newTuple [x,y] >>= _) _ _ _;refine Wa (wpAny_newTuple (Wd ⟨_,rfl,?_⟩));have e1:hd.objs.size=s.heap.objs.size:=by rw[sd.1,sb.1,sa.1]
 have up:∀o:Obj,∀c,hd.get? c=some o->(hd.push { cls:=.type "tuple",data:=.seq #[x,y] }).get? c=some o:=λo c e=>Xe _ e;show Q (.ref hd.objs.size) _;have gt:WD (hd.push { cls:=.type "tuple",data:=.seq #[x,y] }) hd.objs.size x y:=Xx _ rfl;have gz:(hd.push { cls:=.type "tuple",data:=.seq #[x,y] }).objs.size=hd.objs.size+1:=Ym ..;rw[e1]at gt gz ⊢;exact hQ _ (up _ _ (sd.extBut _ _ D.i2z.symm (sb.extBut _ _ D.i1z.symm qa))) ((j1.extBut sd.extBut D.i12).at λo e=>up o _ e) (j2.at λo e=>up o _ e) gt gz λc o c1 c2 c3 e=>up o c (sd.extBut _ _ c3 (sb.extBut _ _ c2 (sa.extBut _ _ c1 e)))
theorem zrQ {z TI TO i1 i2 l1 l2 c:Addr}{oc:Obj}{bb:Bool}{k1:Nat}{xs:Array Wb}{Q:PySem.Fin->Wc->Prop}(hh:A.handled=none)(D:WV z TI TO i1 i2 l1 l2)(hz:jc s.heap z TI TO c bb)(hc:s.heap.get? c=some oc)(hTI:WD s.heap TI (.ref i1) (.ref i2))(h1:SI t s.heap i1 l1 k1)(hl1:SS t s.heap l1 xs)(hx:xs[k1]? = none)
  (hE:∀h' e,(∀c o,c≠z->c≠i1->s.heap.get? c=some o->h'.get? c=some o)->(∃o,h'.get? e=some o/\o.cls=.type "StopIteration")->E (.ref e) { s with heap:=h' }) :
  We (Wh prog w) A (Builtin.«zip.__next__» ⟨[.ref z],[]⟩) Q E s:=by
 show We _ _ (field (.ref z) 2 >>= _) _ _ _;refine Wa (Wp hz rfl (x:=.bool false) rfl ?_);show We _ _ (field (.ref z) 3 >>= _) _ _ _;refine Wa (Wp hz rfl (x:=.ref TI) rfl (Wa (WB hTI rfl ?_)));show We _ _ (Qp (.ref z) >>= _) _ _ _;refine Wa (WC (Nz hz hc) ?_ (λ_ _ e=>e));rintro _ _ ⟨rfl,ha,rfl,qa,sa⟩;simp only[Yd,if_false];rw[<- Array.forIn_toList];refine Wa ?_;simp only[List.forIn_cons,Ou];refine Wa (Wa (Wy ?_));show We _ _ (Qn (.ref i1) >>= _) _ _ _;refine Wa (Ny hh (h1.extBut sa.extBut D.i1z) (hl1.extBut sa.extBut D.l1z) hx λhb e sb he=>?_);exact hE hb e (λc o c1 c3 y=>sb _ _ c3 (sa.extBut _ _ c1 y)) he
def vU (h:Heap)(z TI TO i1 i2:Addr):Prop:=(Va h z TI TO .none/\∃a b,WD h TO a b)\/∃a b oa,jc h z TI TO a b/\h.get? a=some oa/\a≠z/\a≠i1/\a≠i2
theorem zrR {z TI TO i1 i2 l1 l2:Addr}{k1 k2:Nat}{xs ys:Array Wb}{x y:Wb}{Q:Tv->Wc->Prop}(D:WV z TI TO i1 i2 l1 l2)(hz:vU s.heap z TI TO i1 i2)(hTI:WD s.heap TI (.ref i1) (.ref i2))(h1:SI t s.heap i1 l1 k1)(h2:s.heap.IsTupleIter i2 l2 k2)(hl1:SS t s.heap l1 xs)(hl2:s.heap.IsTuple l2 ys)(hx:xs[k1]? = some x)(hy:ys[k2]? = some y)
  (hQ:∀h',vU h' z TI TO i1 i2->SI t h' i1 l1 (k1+1)->h'.IsTupleIter i2 l2 (k2+1)->WD h' s.heap.objs.size x y->h'.objs.size=s.heap.objs.size+1->(∀c o,c≠z->c≠TO->c≠i1->c≠i2->s.heap.get? c=some o->h'.get? c=some o)->Q (some (.ref s.heap.objs.size)) { s with heap:=h' }) :
  We (Wh prog w) A (WX (.ref z)) Q E s:=by
 have hi1:=h1.lt;have hi2:i2<s.heap.objs.size:=by obtain⟨_,x,_⟩:=h2;exact Xw x
 rcases hz with ⟨hz,a,b,hTO⟩ | ⟨a,b,oa,hz,ha,n1,n2,n3⟩
 .have lz:z<s.heap.objs.size:=Xw hz;refine next_item D hz hTI hTO h1 h2 hl1 hl2 hx hy λh' g1 g2 g3 g4 g5 g6 g7=>hQ h' (.inr ⟨_,false,_,g1,g5,Yh lz,Yh hi1,Yh hi2⟩) g3 g4 g5 g6 g7
 .have hT:s.TypeIs (.ref z) "zip":=⟨_,hz,rfl⟩;unfold WX;refine Wa (wpAny_attempt (wpAny_callSpecial?_slot (name:=PX "__next__") hT Q7 (Wt Q7 hT F.entry_zip_next (zpx D hz ha hTI h1 h2 hl1 hl2 hx hy λh' g1 g3 g4 g5 g6 g7=>Wd ?_) (F.args_zip_next_1 _))));exact hQ h' (.inr ⟨a,true,oa,g1,g7 a oa n1 n2 n3 ha,n1,n2,n3⟩) g3 g4 g5 g6 λc o c1 c2 c3 c4 e=>g7 c o c1 c3 c4 e
theorem zuK {z TI TO i1 i2 l1 l2:Addr}{k1:Nat}{xs:Array Wb}{Q:Tv->Wc->Prop}(hh:A.handled=none)(D:WV z TI TO i1 i2 l1 l2)(hz:vU s.heap z TI TO i1 i2)(hTI:WD s.heap TI (.ref i1) (.ref i2))(h1:SI t s.heap i1 l1 k1)(hl1:SS t s.heap l1 xs)(hx:xs[k1]? = none)
  (hQ:∀h',(∀c o,c≠z->c≠TO->c≠i1->c≠i2->s.heap.get? c=some o->h'.get? c=some o)->Q none { s with heap:=h' }):We (Wh prog w) A (WX (.ref z)) Q E s:=by
 rcases hz with ⟨hz,a,b,hTO⟩ | ⟨a,b,oa,hz,ha,n1,n2,n3⟩
 .exact next_end hh D hz hTI h1 hl1 hx hQ
 .have hT:s.TypeIs (.ref z) "zip":=⟨_,hz,rfl⟩;unfold WX;refine Wa (wpAny_attempt (wpAny_callSpecial?_slot (name:=PX "__next__") hT Q7 (Wt Q7 hT F.entry_zip_next (zrQ hh D hz ha hTI h1 hl1 hx λh' e hk he=>?_) (F.args_zip_next_1 _))));obtain⟨o,ho,hc⟩:=he;exact Wa (wpAny_isInstance (T:="StopIteration") (b:=true) ⟨o,ho,hc⟩ isSubtype_stop (Wd (hQ _ λc o c1 c2 c3 c4 e=>hk c o c1 c3 e)))
end
theorem zeM:typeLookup (.type "zip") "__getattr__" = pure none:=by rw[typeLookup_type,WY];kernel_rfl
theorem zgl:typeLookup (.type "zip") (PX "keys")=pure none:=by rw[typeLookup_type,WY];kernel_rfl
theorem zdz:entryFor table "zip.__getattribute__" = some Builtin.«object.__getattribute__»:=
 entryFor_alias (id':="object.__getattribute__") (by kernel_rfl) (by decide +kernel) (by decide +kernel) (by kernel_rfl)
theorem znw (a:Addr)(xs:Array Wb)(sl:Array (Tv))(name:Str)(u:Tok)(hmiss:typeLookup (.type "zip") name=pure none) (hname:(["__module__","__name__","__qualname__","__doc__","__annotations__"]:Tn).contains name=false) (hsz:name.length+100<=Wf:=by size_fits) :
  Meets (Builtin.«object.__getattribute__» ⟨[.ref a,.str name u],[]⟩) (λA R s=>s.heap.get? a=some { cls:=.type "zip",dict:=none,data:=.fields xs,slots:=sl }/\raisesAttr (.ref a) name A R s):=
 Meets.of_wp λprog w A R s hs=>by
  obtain⟨hp,g,d,tk,os⟩:=s;obtain⟨hx,hs⟩:=hs;have hT:(⟨hp,g,d,tk,os⟩:Wc).TypeIs (.ref a) "zip":=⟨_,hx,rfl⟩;unfold Builtin.«object.__getattribute__»
  repeat (any_goals (first | assumption | wp_step))
  simp only[hname,Yd,if_false]
  repeat (any_goals (first | assumption | wp_step))
  exact wpAny_raiseAttrError hs.1 hs.2 (attrMsg_fits (by decide +kernel) hsz)
theorem zpy {prog:Wg}{w:Wj}{A:Wl}{E:Ti}{s:Wc}{a:Addr}{xs:Array Wb}{sl:Array (Tv)}{Q:Tv->Wc->Prop}
  (hx:s.heap.get? a=some { cls:=.type "zip",dict:=none,data:=.fields xs,slots:=sl }) (hA:A.handled=none)
  (h:∀h' tk,(∀b o,s.heap.get? b=some o->h'.get? b=some o)->Q none { s with heap:=h',toks:=tk }) :
  We (Wh prog w) A (getAttr? (.ref a) "keys") Q E s:=by
 obtain⟨hp,g,d,tk,os⟩:=s;have hT:∀tk',(⟨hp,g,d,tk',os⟩:Wc).TypeIs (.ref a) "zip":=λ_=>⟨_,hx,rfl⟩;have f1:=sub_AttributeError;have f3:=F.slot_zip_getattribute.lookup;have f4:=F.slot_zip_getattribute.bind (.ref a);have f5:=zeM;unfold getAttr? getAttrBy? getAttrBy
 repeat (any_goals (first | assumption | exact hT _ | ((with_reducible show We _ _ (call (Value.builtin "zip.__getattribute__") _ _) _ _ _);refine call_meets F.slot_zip_getattribute (hT _) zdz (F.args_zip_getattribute_2 _ _) (znw a xs sl _ _ zgl (by decide +kernel) (by decide +kernel)) ⟨hx,hA,λh' tk' e hx'=>?_⟩) | wp_step))
 obtain⟨t',u',he⟩:=hx'.there;show We _ _ (getattributeRaised _ _ _ _ _ _ _) _ _ _;unfold getattributeRaised
 repeat (any_goals (first | assumption | wp_step))
 exact h h' tk' hx'.keeps
section
variable {prog:Wg}{w:Wj}{A:Wl}{E:Ti}{K:Type} [DecidableEq K] {knd:KeyKind prog w K}{t:Bool}
theorem zpz {R:Result->Wc->Prop}(hh:A.handled=none)(d z TI TO i1 i2 l1 l2:Addr)(D:WV z TI TO i1 i2 l1 l2)(xs ys:Array Wb)(ks:List K)(hkl:ks.length=xs.size)(hkey:∀(i:Nat)(k:K)(x:Wb),ks[i]? = some k->xs[i]? = some x->knd.is k x=true)(nd:ks.Nodup)(hlen:xs.size=ys.size)
  (hdz:d≠z) (hdTI:d≠TI) (hdTO:d≠TO) (hd1:d≠i1) (hd2:d≠i2) (hdl1:d≠l1) (hdl2:d≠l2) (hz:xs.size<=Wf) :
  ∀(k i:Nat) (s:Wc) (tn:Tok),xs.size-i=k->i<=xs.size->vU s.heap z TI TO i1 i2->WD s.heap TI (.ref i1) (.ref i2)->SI t s.heap i1 l1 i->s.heap.IsTupleIter i2 l2 i->SS t s.heap l1 xs->s.heap.IsTuple l2 ys->
   s.heap.DictOf knd d ((ks.zip ys.toList).take i)->
   (∀s',s'.heap.DictOf knd d (ks.zip ys.toList)->(∀b o,b≠d->b≠z->b≠TO->b≠i1->b≠i2->s.heap.get? b=some o->s'.heap.get? b=some o)->(∃h' tk,s'={ s with heap:=h',toks:=tk })->R (.ok (.ret .none)) s')->
   W4 (Wh prog w) A (.builtin "dict.update.loop" ⟨[.ref d,.ref z,.int i tn,.none],[]⟩) R s:=by
 have nR:(ks.zip ys.toList).length=xs.size:=by rw[YI,hkl,YD,<- hlen,Nat.min_self]
 intro k;induction k with
 | zero=>
  intro i s tn hk hi he hTI h1 h2 hl1 hl2 hD hR;have hin:i=xs.size:=by lia
  subst hin;refine WH F.Mw ?_;rw[QH F.Br _];show We _ A.in1 (WX (.ref z) >>= _) _ _ s;refine Wa (zuK (A:=A.in1) hh D he hTI h1 hl1 (by simp) λh' hx=>?_);show We _ A.in1 (Builtin.Dict.addKeywords d [] >>= _) _ _ _;refine Wa (Wd ?_);refine Wd (hR _ ?_ (λb o _ c1 c2 c3 c4 e=>hx b o c1 c2 c3 c4 e) ⟨h',s.toks,rfl⟩);rw[Xs (by lia)]at hD;obtain⟨o,es,ep,ho,rest⟩:=hD;exact⟨o,es,ep,hx _ _ hdz hdTO hd1 hd2 ho,rest⟩
 | succ k ih=>
  intro i s tn hk hi he hTI h1 h2 hl1 hl2 hD hR;have hlt:i<xs.size:=by lia
  have hly:i<ys.size:=by lia
  have hlk:i<ks.length:=by lia
  refine WH F.Mw ?_;rw[QH F.Br _];show We _ A.in1 (WX (.ref z) >>= _) _ _ s;refine Wa (zrR D he hTI h1 h2 hl1 hl2 (Array.getElem?_eq_getElem hlt) (Array.getElem?_eq_getElem hly) λh' he' h1' h2' hT hsz hk'=>?_);show We _ A.in1 (WN [Qm s.heap.objs.size] _ >>= _) _ _ _;refine Wa (Wy ?_);refine Wa (wpAny_tryCatch ?_);unfold Builtin.Dict.pairItems;refine Wa (wpAny_typeOf (T:="tuple") ⟨_,hT,rfl⟩ ?_);simp only[show(Qw "tuple" == Qw "list")=false from by decide,show(Qw "tuple" == Qw "tuple")=true from by decide,Bool.false_or,if_true];refine Wa (WB hT rfl (Wd ?_));show We _ A.in1 (WN [xs[i],ys[i]] (dictSet d xs[i] ys[i])) _ _ _;have hD':h'.DictOf knd d ((ks.zip ys.toList).take i):=by
   obtain⟨o,es,ep,ho,rest⟩:=hD;exact⟨o,es,ep,hk' _ _ hdz hdTO hd1 hd2 ho,rest⟩
  refine Wy (wpAny_dictSet_pairs (knd:=knd) (k:=ks[i]) (hkey i _ _ (Xd hlk) (Array.getElem?_eq_getElem hlt)) (s:={ s with heap:=h' }) hD' (λh'' hD2 hs=>?_) (by rw[XH];lia));refine Wd ⟨W5 F.Br _,?_⟩;have hnew:stored ((ks.zip ys.toList).take i) ks[i] ys[i]=(ks.zip ys.toList).take (i+1):=by
   have hno:¬ (((ks.zip ys.toList).take i).any λkv=>decide (kv.1=ks[i]))=true:=by
    intro h;rw[List.any_eq_true]at h;obtain⟨kv,hm,hv⟩:=h;have hv':kv.1=ks[i]:=Qh hv;obtain⟨j,hj,e⟩:=List.mem_take_iff_getElem.mp hm;rw[List.getElem_zip]at e;have e1:ks[j]'(by lia)=ks[i]:=by rw[<- hv',<- e]
    have:=(List.getElem?_inj (j:=j) hlk nd).mp (by rw[Xd hlk,Xd (show j<ks.length by lia),e1]);lia
   unfold stored;rw[Qe hno,List.take_succ,Xd (by lia),List.getElem_zip];simp
  rw[hnew]at hD2;have hkeep:∀b o,b≠d->h'.get? b=some o->h''.get? b=some o:=λb o hb x=>(hs.2 b hb).trans x;refine ih (i+1) _ _ (by lia) hlt ?_ (hkeep _ _ hdTI.symm (hk' TI _ D.TIz D.TITO D.TIi1 D.TIi2 hTI)) (h1'.at λo x=>hkeep _ _ hd1.symm x) (h2'.at λo x=>hkeep _ _ hd2.symm x) ((hl1.at λo x=>hkeep _ _ hdl1.symm (hk' l1 o D.l1z D.l1TO D.l1i1 D.l1i2 x))) ((hl2.at λo x=>hkeep _ _ hdl2.symm (hk' l2 o D.l2z D.l2TO D.l2i1 D.l2i2 x))) hD2 λs' hD3 hk3 e3=>hR s' hD3 (λb o b1 b2 b3 b4 b5 x=>hk3 b o b1 b2 b3 b4 b5 (hkeep b o b1 (hk' b o b2 b3 b4 b5 x))) e3;rcases he' with ⟨he',a,b,hp⟩ | ⟨a,b,oa,he',ha,n1,n2,n3⟩
  .exact .inl ⟨hkeep _ _ hdz.symm he',a,b,hkeep _ _ hdTO.symm hp⟩
  .by_cases had:a=d
   .subst had;obtain⟨o,es,ep,ho,rest⟩:=hD2;exact .inr ⟨a,b,o,hkeep _ _ hdz.symm he',ho,n1,n2,n3⟩
   .exact .inr ⟨a,b,oa,hkeep _ _ hdz.symm he',hkeep _ _ had ha,n1,n2,n3⟩
variable {s:Wc}
theorem zpA {z TI TO i1 i2 l1 l2:Addr}{xs ys:Array Wb}{Q:Ti}(hh:A.handled=none)(D:WV z TI TO i1 i2 l1 l2)(ks:List K)(hkl:ks.length=xs.size)(hkey:∀(i:Nat)(k:K)(x:Wb),ks[i]? = some k->xs[i]? = some x->knd.is k x=true)(nd:ks.Nodup)(hlen:xs.size=ys.size)
  (he:Va s.heap z TI TO .none) (hTO:WD s.heap TO .none .none) (hTI:WD s.heap TI (.ref i1) (.ref i2)) (h1:SI t s.heap i1 l1 0) (h2:s.heap.IsTupleIter i2 l2 0) (hl1:SS t s.heap l1 xs) (hl2:s.heap.IsTuple l2 ys) (hz:xs.size<=Wf)
  (h:∀h' tk,h'.DictOf knd s.heap.objs.size (ks.zip ys.toList)->(∀b o,b≠z->b≠TO->b≠i1->b≠i2->s.heap.get? b=some o->h'.get? b=some o)->Q (.ref s.heap.objs.size) { s with heap:=h',toks:=tk }) :
  We (Wh prog w) A (call (.type "dict") [.ref z]) Q E s:=by
 refine callType_codes (Q₁:=λobj s₁=>obj=.ref s.heap.objs.size/\s₁={ s with heap:=s.heap.push { cls:=.type "dict",data:=.dict #[] } }) F.kt_called_dict (F.kt_typeCall_dict_1 _) F.entry_dict_init (kt_code_dict_new _ ⟨rfl,rfl⟩) ?_;rintro obj s₁ ⟨rfl,rfl⟩;have hnew:(s.heap.push { cls:=.type "dict",data:=.dict #[] }).DictOf knd s.heap.objs.size []:=Heap.DictOf.new s.heap;have lz:z<s.heap.objs.size:=Xw he;have lTI:TI<s.heap.objs.size:=Xw hTI;have lTO:TO<s.heap.objs.size:=Xw hTO;have l1':=h1.lt;have l2':i2<s.heap.objs.size:=by obtain⟨_,x,_⟩:=h2;exact Xw x
 have ll1:=hl1.lt;have ll2:l2<s.heap.objs.size:=by obtain⟨_,x,_⟩:=hl2;exact Xw x
 refine⟨hnew.typeIs,F.args_dict_init_2 _ _,?_⟩;unfold Builtin.«dict.__init__»;refine Wa ?_;unfold Builtin.Dict.selfAndRest;refine Wa (wpAny_notOrdered_dict hnew.typeIs ?_);show We _ _ (pure (s.heap.objs.size,[Qm z])) _ _ _;refine Wd ?_;show We _ _ (Builtin.Dict.updateFrom "dict.__init__" s.heap.objs.size (.ref z) [] .none) _ _ _;unfold Builtin.Dict.updateFrom;have he1:Va (s.heap.push { cls:=.type "dict",data:=.dict #[] }) z TI TO .none:=Xe _ he;refine Wa (wpAny_typeOf (T:="zip") ⟨_,he1,rfl⟩ ?_);rw[Qf (by decide)];refine Wa (zpy (s:={ s with heap:=s.heap.push { cls:=.type "dict",data:=.dict #[] } }) he1 hh λh' tk hk=>?_);rw[Qf (show(none:Tv).isNone=true from rfl)];refine Wa (W2 ?_);have kp:∀b o,s.heap.get? b=some o->h'.get? b=some o:=λb o x=>hk b o (Xe _ x);refine Wa (wpAny_pyIter_zip (s:={ s with heap:=h',toks:=tk }) (kp _ _ he) ?_);refine Wd ⟨W5 F.Br _,?_⟩;have hD:h'.DictOf knd s.heap.objs.size []:=by
  obtain⟨o,es,ep,ho,rest⟩:=hnew;exact⟨o,es,ep,hk _ _ ho,rest⟩
 refine zpz (knd:=knd) (A:=A.in1) hh s.heap.objs.size z TI TO i1 i2 l1 l2 D xs ys ks hkl hkey nd hlen (Yh lz) (Yh lTI) (Yh lTO) (Yh l1') (Yh l2') (Yh ll1) (Yh ll2) hz xs.size 0 _ _ (by simp) (XM _)
  (.inl ⟨kp _ _ he,_,_,kp _ _ hTO⟩) (kp _ _ hTI) (h1.at λo x=>kp _ _ x) (h2.at λo x=>kp _ _ x) (hl1.at λo x=>kp _ _ x) (hl2.at λo x=>kp _ _ x) (by simpa using hD) ?_
 rintro s' hD2 hk2 ⟨h3,tk3,rfl⟩;refine⟨rfl,?_⟩;exact h h3 tk3 hD2 λb o b1 b2 b3 b4 x=>hk2 b o (XB (Xw x)) b1 b2 b3 b4 (kp b o x)
end
end JZG
namespace PL
open PySem PySem.Spec L2
open PyProof.Rows hiding St
def GK (b:Bool)(K:Xa)(H:Hp)(a:Addr)(xs:List V):Prop:=bif b then bN K H a xs else bI K H a xs
theorem zuL {X:Cx}{pins:Tg}{Y:St}{H:Hp}{s:Wc}{a:Addr}{xs:List V}{b:Bool}(I:Inv X pins Y H s)(h:GK b X.K H a xs):∃its:Tq,Vals xs its/\JZG.SS b s.heap a its.toArray/\xs.length<=Wf:=by
 cases b with
 | true=>obtain⟨its,r,pl,z⟩:=I.tuple h;exact⟨its,r,BJ pl,z⟩
 | false=>obtain⟨its,r,pl,z⟩:=I.list h;exact⟨its,r,pl.isList,z⟩
section
variable {X:Cx}{bb:Bool}{e e2:Expr}{t:TA}{p p2 pos pos2:Pos}
def zuM (bb:Bool)(K:Xa)(t:TA):TE:=λY H Q=>t Y H λvs H1=>∃(a b:Addr)(ks:List Key)(ys:List V),vs=[.ref a,.ref b]/\GK bb K H1 a (ks.map kV)/\bN K H1 b ys/\ks.length=ys.length/\ks.Nodup/\∀l,H1 l=none->Q (.ref l) (upd H1 l (.dK (ks.zip ys)))
theorem zrS (hc:X.calm=true)(hg:Gl X "dict") (hm:X.mg "dict" = none) (hg2:Gl X "zip") (hm2:X.mg "zip" = none) (ha:PA X [e,e2] t)
  (hs1:cQ X e [e2]:=by rfl) (gA:cO X pos2 [e2]:=by rfl)
  (hs2:Wo [Expr.Call (.Name "zip" p2) [e,e2] [] pos2] X.env=(false,Ww (Expr.Call (.Name "zip" p2) [e,e2] [] pos2) X.env)::Wo [] X.env:=by rfl) (oV:cO X pos []:=by rfl) :
  PE X (.Call (.Name "dict" p) [.Call (.Name "zip" p2) [e,e2] [] pos2] [] pos) (zuM bb X.K t):=by
 intro pins s Y H Q I h;refine Wv (qd I hg hm zxV ?_ (by decide) (by decide));refine Qx ?_ hs2 oV;rw[hs2];show We _ _ (spliced ((false,Ww _ X.env)::WK pos (Wo [] X.env))) _ _ s;refine Qu (Wv (qd I hg2 hm2 M9 ?_ (by decide) (by decide)));refine Qx (aQ (ha pos2 pins s Y H _ I h) λus s1 ⟨vs,H1,I1,r1,a,b,ks,ys,ev,hq,hq2,hly,nd,q⟩=>?_) hs1 gA;subst ev;obtain⟨u1,u2,rfl,r2,r3⟩:=vals2 r1;obtain rfl:u1=Qm a:=r2;obtain rfl:u2=Qm b:=r3;obtain⟨its,r,pl,hz⟩:=zuL I1 hq;obtain⟨its2,r',pl2,hz2⟩:=I1.tuple hq2;have ha':@LT.lt Nat _ a s1.heap.objs.size:=pl.lt;have hb':@LT.lt Nat _ b s1.heap.objs.size:=by obtain⟨o,ho,_⟩:=BJ pl2;exact Xw ho
 refine JZG.zrP pl (BJ pl2) λh' g1 g2 g3 g4 g5 gk=>QC ?_;have D:WV (s1.heap.objs.size+4) (s1.heap.objs.size+2) (s1.heap.objs.size+3) s1.heap.objs.size (s1.heap.objs.size+1) a b:=by constructor<;>first | exact XB (by lia) | exact Yh (by lia)
 have hlen:=r.length;have hlen2:=r'.length;rw[Xb]at hlen;refine JZG.zpA (knd:=gK X.prog X.w) (s:={ s1 with heap:=h' }) (I1.ok.hd hc) D ks (by simpa using hlen) (λi k x e1 e2=>zuI r i k x e1 (by simpa using e2)) nd (by simp;lia) g1 g3 g2 g4 g5 (pl.at λo x=>gk a o x) ((BJ pl2).at λo x=>gk b o x) (by simp;rw[Xb]at hz;lia) λh2 tk hD hk2=>?_;have kp:∀c o,s1.heap.get? c=some o->h2.get? c=some o:=λc o x=>by
  have hl:@LT.lt Nat _ c s1.heap.objs.size:=Xw x;exact hk2 c o (XB (by lia)) (XB (by lia)) (XB (by lia)) (XB (by lia)) (gk c o x)
 have hfr:s1.heap.objs.size<=h'.objs.size:=by have z:@LT.lt Nat _ (s1.heap.objs.size+4) h'.objs.size:=Xw g1;lia
 refine⟨.ref h'.objs.size,upd H1 h'.objs.size (.dK (ks.zip ys)),I1.laid (t':=tk) kp hfr (Em (by rw[YI];rw[Xb]at hz;lia) ?_ (zuH r') ?_),rfl,q _ (I1.hok.fresh hfr)⟩
 .have hne:h'.objs.size≠Wz:=Yh (XJ I1.big hfr);simpa using hne
 .simpa using hD
end
def sqP:Bool->List PV->PV
 | true,ds=>.tup ds
 | false,ds=>.lst ds
def zaI (bb:Bool)(t:cV):aL:=λU Q=>t U λops=>noOwn ops=true/\∃(ks:List Key)(es:List PV),ops.map (·.1)=[sqP bb (ks.map dF),.tup es]/\ks.length=es.length/\ks.Nodup/\Q (.dK ks es) .new
section
variable {X:Cx}{bb:Bool}{e e2:Expr}{t:cV}{p p2 pos pos2:Pos}
theorem GP (hc:X.calm=true)(hg:Gl X "dict") (hm:X.mg "dict" = none) (hg2:Gl X "zip") (hm2:X.mg "zip" = none) (ha:eO X [e,e2] t)
  (hs1:cQ X e [e2]:=by rfl) (gA:cO X pos2 [e2]:=by rfl)
  (hs2:Wo [Expr.Call (.Name "zip" p2) [e,e2] [] pos2] X.env=(false,Ww (Expr.Call (.Name "zip" p2) [e,e2] [] pos2) X.env)::Wo [] X.env:=by rfl) (oV:cO X pos []:=by rfl) :
  aG X (.Call (.Name "dict" p) [.Call (.Name "zip" p2) [e,e2] [] pos2] [] pos) (zaI bb t) where
 mono U Q Q' m h:=ha.mono U _ _ (λops ⟨e1,ks,es,e,e4,e5,q⟩=>⟨e1,ks,es,e,e4,e5,m _ _ q⟩) h
 run:=PE.weak (zrS hc hg hm hg2 hm2 ha.run hs1 gA hs2 oV) λY H Q h=>by
  obtain⟨U,Fz,R,h⟩:=h;refine⟨U,Fz,R,ha.mono U _ _ (λops q vs F1 H1 x o=>?_) h⟩;obtain⟨hn,ks,es,eo,hle,nd,q⟩:=q;obtain⟨F2,x2,s2,d2⟩:=o.frozen x hn;rw[eo]at d2;simp only[aj]at d2;obtain⟨v1,r1,rfl,d1,v2,r2,rfl,d3,rfl⟩:=d2;simp only[aq]at d3;have kp:Keep F2 H1 H1:=.of (Same.refl _);have d1':∃a xs,v1=.ref a/\GK bb X.K H1 a xs/\aj X.K F2 H1 (ks.map dF) xs:=by
   cases bb with
   | true=>simp only[sqP,aq]at d1;obtain⟨a,xs,e,a1,a2⟩:=d1;exact⟨a,xs,e,kp.Fd a1,a2⟩
   | false=>simp only[sqP,aq]at d1;obtain⟨a,xs,e,a1,a2⟩:=d1;exact⟨a,xs,e,a1.elim (λh=>.inl h.2) KX.sq,a2⟩
  obtain⟨a,xs,rfl,a1,a2⟩:=d1';obtain⟨b,ys,rfl,b1,b2⟩:=d3;have exs:=Nv a2;subst exs;refine⟨a,b,ks,ys,rfl,a1,kp.Fd b1,by rw[hle,b2.length],nd,λl hl=>q _ F2 _ ⟨x2.laid hl,l,rfl,x2.same.free hl,λz=>x2.al l z hl,ys,cg,by rw[hle,b2.length],?_⟩⟩;exact aj.mono (.of ((Same.refl H1).qz hl)) (λ_ h=>h) _ _ b2
end
theorem bG {k:Nat}{A:Wl}(h:bx k A):A.units+16<WG:=by have q:=h.units;lia
theorem fsc {N P:Tn}{sc:WR}(h1:sc.kind=.function:=by rfl)(h2:sc.isCoroutine=false:=by rfl)(h3:sc.isGenerator=false:=by rfl)(h4:N.Nodup:=by decide +kernel)(h5:N.take P.length=P:=by rfl)(h6:∀x∈P,sc.names.lookup x=some .local\/sc.names.lookup x=some .cell:=by decide +kernel)(h7:∀y∈sc.names,y.2≠.free:=by decide +kernel):cL N P sc:=⟨h1,h2,h3,h4,h5,h6,h7⟩
end PL
namespace aW
variable {M:Type}
def cH {M:Type}(l:List M)(f:M->Nat):Nat:=(l.map f).sum
def bw {M:Type}(l:List M)(f:M->Nat):Nat:=l.foldr (λa p=>f a*p) 1
theorem oY (a:M)(l:List M)(f:M->Nat):cH (a::l) f=f a+cH l f:=by
 unfold cH;rw[Xq,List.sum_cons]
theorem GQ {J:Type}(g:M->J)(l:List M)(f:J->Nat):cH (l.map g) f=cH l λa=>f (g a):=by
 unfold cH;rw[Yb];rfl
theorem GR {f g:M->Nat}:∀ {l:List M},(∀a∈l,f a=g a)->cH l f=cH l g
 | [],_=>rfl
 | a::l,h=>by rw[oY,oY,h a (Xh ..),GR λb hb=>h b (Xf _ hb)]
theorem dG (a:M)(l:List M)(f:M->Nat):bw (a::l) f=f a*bw l f:=rfl
theorem BK {f g:M->Nat}:∀ {l:List M},(∀a∈l,f a=g a)->bw l f=bw l g
 | [],_=>rfl
 | a::l,h=>by rw[dG,dG,h a (Xh ..),BK λb hb=>h b (Xf _ hb)]
section
variable {U:Type}(n:Nat)(bO:Tw)(lg:Nat->List U)(ag:Nat->U->Nat->U->Bool)
def wy:Nat->Nat->U->Nat
 | 0,_,_=>1
 | t+1,i,r=>bw (XE n) λc=>if i<c/\bO c=i then cH ((lg c).filter λr'=>ag i r c r') (wy t c) else 1
def sw (c:Nat)(r:U):Nat:=cH ((lg c).filter λr'=>ag (bO c) r c r') (wy n bO lg ag (n-c) c)
def fits (c:List U)(k:Nat)(r:U):Bool:=(XE k).all λj=>match c[j]? with | some r'=>ag j r' k r | none=>true
def rest (k:Nat)(c:List U):Nat:=bw (XE n) λd=>if k<=d/\bO d<k then(match c[bO d]? with | some r=>sw n bO lg ag d r | none=>1) else 1
end
end aW
namespace aU
open aW
variable {J:Type}
section
variable {M:Type} [DecidableEq M] (sz:M->Nat)
def jl:List M->Nat->M->Nat
 | [],_,_=>0
 | l::p,n,x=>if x=l then n / bw p sz else jl p (n % bw p sz) x
theorem nU (l:M)(p:List M)(n:Nat)(x:M):jl sz (l::p) n x=if x=l then n / bw p sz else jl sz p (n % bw p sz) x:=rfl
theorem uH:∀(A B:List M),bw (A++B) sz=bw A sz*bw B sz
 | [],B=>(Nat.one_mul _).symm
 | a::A,B=>by rw[Yv,dG,dG,uH A B,Nat.mul_assoc]
theorem GX {f:M->Nat}:∀ {p:List M},(∀l∈p,0<f l)->0<bw p f
 | [],_=>Nat.one_pos
 | a::p,h=>Nat.mul_pos (h a (Xh ..)) (GX λl hl=>h l (Xf _ hl))
theorem uI {n a b:Nat}(h:n<a*b):0<b:=by
 rcases Nat.eq_zero_or_pos b with e | e
 .rw[e,Nat.mul_zero]at h;exact Qg h (Yl _)
 .exact e
theorem BL (n a b:Nat):n % (a*b) / b=n / b % a:=by
 rw[Q8,Nat.mod_mul_right_div_self]
theorem uJ:∀(A B:List M)(n:Nat)(x:M),n<bw (A++B) sz->jl sz (A++B) n x=if x∈A then jl sz A (n / bw B sz) x else jl sz B (n % bw B sz) x
 | [],B,n,x,h=>by
  rw[Qe (List.not_mem_nil),Ol,Nat.mod_eq_of_lt (show n<bw B sz from h)]
 | l::A,B,n,x,h=>by
  have hp:=uI (show n<sz l*bw (A++B) sz from h);have ih:=uJ A B (n % bw (A++B) sz) x (QS _ hp);rw[Yv,nU,nU,ih,uH,BL,Nat.mod_mul_left_mod,Oo,Q8 (bw B sz)];by_cases e:x=l
  .rw[Qf e,Qf (by rw[e];exact Xh ..),Qf e]
  .rw[Qe e,Qe e];by_cases m:x∈A
   .rw[Qf m,Qf (Xf _ m)]
   .rw[Qe m,Qe λz=>(Xn.mp z).elim e m]
theorem vW:∀ {p:List M}{n:Nat}{x:M},n<bw p sz->x∈p->jl sz p n x<sz x
 | l::p,n,x,h,hx=>by
  rw[nU];have hp:=uI (show n<sz l*bw p sz from h);by_cases e:x=l
  .rw[Qf e,e,Nat.div_lt_iff_lt_mul hp];exact h
  .rw[Qe e];exact vW (QS _ hp) ((Xn.mp hx).resolve_left e)
theorem NK  [DecidableEq J] (L:J->List M):∀ {ks:List J}{n:Nat}{c:J}{x:M},n<bw ks (λc=>bw (L c) sz)->c∈ks->x∈L c->(ks.Pairwise λa b=>∀y∈L a,y∉L b)->
  jl sz (ks.flatMap L) n x=jl sz (L c) (jl (λc=>bw (L c) sz) ks n c) x
 | d::ks,n,c,x,h,hc,hx,hd=>by
  have ef:∀ks:List J,bw (ks.flatMap L) sz=bw ks (λc=>bw (L c) sz):=λks=>by
   induction ks with
   | nil=>rfl
   | cons a ks ih=>rw[XD,uH,dG,ih]
  have hp:=uI (show n<bw (L d) sz*bw ks (λc=>bw (L c) sz) from h);rw[XD,uJ sz _ _ _ _ (by rw[<- XD,ef];exact h),ef,nU];have hd1:∀ {b:J},b∈ks->∀y∈L d,y∉L b:=λhb=>Py hd hb;by_cases e:c=d
  .rw[Qf (by rw[<- e];exact hx),Qf e,e]
  .have hc':=(Xn.mp hc).resolve_left e;rw[Qe λz=>hd1 hc' x z hx,Qe e];exact NK L (QS _ hp) hc' hx hd.of_cons
theorem GZ (L:J->List M):∀ks:List J,bw (ks.flatMap L) sz=bw ks (λc=>bw (L c) sz)
 | []=>rfl
 | a::ks=>by rw[XD,uH,dG,GZ L ks]
theorem horner:∀(A:List M)(c:M)(B:List M)(n:Nat),(A++c::B).Nodup->n<bw (A++c::B) sz->n / bw (c::B) sz*sz c+jl sz (A++c::B) n c=n / bw B sz:=λA c B n hn h=>by
 have hc:c∉A:=λz=>(Ys.mp hn).2.2 c z c (Xh ..) rfl;have hp:=uI (show n<bw A sz*bw (c::B) sz by rw[<- uH];exact h);rw[uJ sz _ _ _ _ h,Qe hc,nU,Qf rfl,dG,BL,Q8 (sz c) (bw B sz),<- Oo,Q8];exact Nat.div_add_mod _ _
end
section
variable {M:Type} [DecidableEq M] (cs:M->Tp)
def cD:List M->Td
 | []=>[[]]
 | l::p=>(cs l).flatMap λc=>(cD p).map (c::·)
theorem NP:∀(p:List M)(l:M),cD cs (p++[l])=(cD cs p).flatMap λr=>(cs l).map λc=>r++[c]
 | [],l=>by
  show(cs l).flatMap (λc=>[[c]])=([[]]:Td).flatMap λr=>(cs l).map λc=>r++[c];rw[XD,List.flatMap_nil,XG];induction cs l with
  | nil=>rfl
  | cons a t ih=>rw[XD,ih];rfl
 | a::p,l=>by
  rw[Yv];show(cs a).flatMap (λc=>(cD cs (p++[l])).map (c::·))=((cs a).flatMap λc=>(cD cs p).map (c::·)).flatMap _;rw[NP p l,List.flatMap_assoc]
  congr 1;funext c
  rw[List.map_flatMap,List.flatMap_map]
  congr 1;funext r
  rw[Yb];rfl
theorem za {M:Type}{f:M->List J}{N:Nat}:∀ {l:List M},(∀c∈l,(f c).length=N)->(l.flatMap f).length=l.length*N
 | [],_=>(Nat.zero_mul _).symm
 | a::l,h=>by rw[XD,Xr,h a (Xh ..),za λc hc=>h c (Xf _ hc),Xy,Q9,Nat.add_comm]
theorem vX:∀p:List M,(cD cs p).length=bw p λl=>(cs l).length
 | []=>rfl
 | l::p=>by rw[dG,<- vX p];exact za λc _=>Xb _
theorem Bx {M:Type}{f:M->List J}{N:Nat}(hN:0<N):∀ {l:List M}{q:Nat},(∀c∈l,(f c).length=N)->(l.flatMap f)[q]? = (l[q / N]?).bind λc=>(f c)[q % N]?
 | [],q,_=>by simp
 | a::l,q,h=>by
  have ha:=h a (Xh ..);rw[XD];rcases Q5 q N with hq | hq
  .rw[Ye (by rw[ha];exact hq),Nat.div_eq_of_lt hq,Nat.mod_eq_of_lt hq];rfl
  .rw[XZ (by rw[ha];exact hq),ha,Bx hN λc hc=>h c (Xf _ hc)];have e:q / N=(q-N) / N+1:=by
    rw[Nat.div_eq_sub_div hN hq]
   have e2:q % N=(q-N) % N:=Nat.mod_eq_sub_mod hq;rw[e,e2,YR]
theorem NQ:∀ {p:List M}{q:Nat},p.Nodup->q<bw p (λl=>(cs l).length)->(cD cs p)[q]? = some (p.map λx=>(cs x).getD (jl (λl=>(cs l).length) p q x) 0)
 | [],q,_,h=>by
  have:q=0:=Nat.lt_one_iff.mp h;subst this;rfl
 | l::p,q,hn,h=>by
  have hp:=uI (show q<(cs l).length*bw p (λl=>(cs l).length) from h);have hq:q / bw p (λl=>(cs l).length)<(cs l).length:=by rw[Nat.div_lt_iff_lt_mul hp];exact h
  have hnl:=(XO.mp hn).1;show((cs l).flatMap λc=>(cD cs p).map (c::·))[q]? = _;rw[Bx hp λc _=>by rw[Xb,vX],Xd hq];show((cD cs p).map _)[_]? = _;rw[Xg,NQ (XO.mp hn).2 (QS _ hp),Xq,nU,Qf rfl];refine congrArg some ?_;show _::_=_::_;rw[Xi,Xd hq];refine congrArg _ (Yt λx hx=>?_);rw[nU,Qe λe=>hnl (by rw[<- e];exact hx)]
theorem zb:∀ {p:List M}{r:Tp},r∈cD cs p->r.length=p.length/\∀e∈p.zip r,e.2∈cs e.1
 | [],r,h=>by
  rw[Xv.mp h];exact⟨rfl,λe he=>nomatch he⟩
 | l::p,r,h=>by
  obtain⟨c,hc,h⟩:=XY.mp h;obtain⟨r',hr,rfl⟩:=XF.mp h;obtain⟨h1,h2⟩:=zb hr;refine⟨by rw[Xy,Xy,h1],λe he=>?_⟩;rw[XS]at he;rcases Xn.mp he with rfl | he
  .exact hc
  .exact h2 e he
def vY (B:M->Bool)(k:M->Int)(p:List M)(r:Tp):Bool:=(p.zip r).all λe=>!B e.1||decide (e.2=k e.1)
def eY (B:M->Bool)(k:M->Int):M->Tp:=λl=>if B l=true then[k l] else cs l
theorem NT {k:Int}{G:Int->List J}:∀ {L:Tp},L.Nodup->k∈L->L.flatMap (λc=>if c=k then G c else[])=G k
 | a::L,hn,h=>by
  rw[XD];obtain⟨h1,h2⟩:=XO.mp hn;by_cases e:a=k
  .rw[Qf e,e];have:L.flatMap (λc=>if c=k then G c else[])=[]:=List.flatMap_eq_nil_iff.mpr λc hc=>Qe λz=>h1 (by rw[e,<- z];exact hc)
   rw[this,XG]
  .rw[Qe e,Ol];exact NT h2 ((Xn.mp h).resolve_left λz=>e z.symm)
theorem NZ {γ:Type}(q:γ->Bool)(f:J->List γ):∀l:List J,(l.flatMap f).filter q=l.flatMap λc=>(f c).filter q
 | []=>rfl
 | a::l=>by rw[XD,YG,NZ q f l,XD]
theorem N5 (B:M->Bool)(k:M->Int):∀ {p:List M},(∀l∈p,B l=true->k l∈cs l/\(cs l).Nodup)->(cD cs p).filter (vY B k p)=cD (eY cs B k) p
 | [],_=>rfl
 | l::p,h=>by
  have ih:=N5 B k (p:=p) λx hx=>h x (Xf _ hx);show((cs l).flatMap λc=>(cD cs p).map (c::·)).filter _=(eY cs B k l).flatMap λc=>(cD (eY cs B k) p).map (c::·);rw[NZ,<- ih];have e:∀c,((cD cs p).map (c::·)).filter (vY B k (l::p))=if (!B l||decide (c=k l))=true then((cD cs p).filter (vY B k p)).map (c::·) else[]:=λc=>by
   rw[List.filter_map];have e1:(vY B k (l::p) ∘ (c::·))=λr=>(!B l||decide (c=k l))&&vY B k p r:=by funext r;rfl
   rw[e1];by_cases z:(!B l||decide (c=k l))=true
   .rw[Qf z,z];simp only[Bool.true_and]
   .rw[Qe z,Bool.not_eq_true _ |>.mp z];simp
  simp only[e];unfold eY;by_cases hB:B l=true
  .rw[Qf hB,hB];simp only[Bool.not_true,Bool.false_or,decide_eq_true_eq];obtain⟨h1,h2⟩:=h l (Xh ..) hB;rw[NT h2 h1,XD,List.flatMap_nil,XG]
  .rw[Qe hB,Bool.not_eq_true _ |>.mp hB];rfl
theorem BP (B:M->Bool)(k:M->Int):∀ {p:List M},bw p (λl=>(eY cs B k l).length)=bw (p.filter λl=>!B l) (λl=>(cs l).length)/\
  ∀ {q:Nat} {x:M},B x=false->q<bw p (λl=>(eY cs B k l).length)->jl (λl=>(eY cs B k l).length) p q x=jl (λl=>(cs l).length) (p.filter λl=>!B l) q x
 | []=>⟨rfl,λ_ _=>rfl⟩
 | l::p=>by
  obtain⟨h1,h2⟩:=BP B k (p:=p);by_cases hB:B l=true
  .have e:(eY cs B k l).length=1:=by unfold eY;rw[Qf hB];rfl
   rw[Yw (by rw[hB];decide)];refine⟨by rw[dG,e,Nat.one_mul,h1],λ{q x} hx hq=>?_⟩;rw[dG,e,Nat.one_mul]at hq;rw[nU,Qe (λz=>by rw[z,hB]at hx;cases hx),Nat.mod_eq_of_lt hq];exact h2 hx hq
  .have e:eY cs B k l=cs l:=by unfold eY;rw[Qe hB]
   rw[Yx (by rw[Bool.not_eq_true _ |>.mp hB];rfl)]
   refine⟨by rw[dG,dG,e,h1],λ{q x} hx hq=>?_⟩;have hp:=uI (show q<_*bw p (λl=>(eY cs B k l).length) from hq);rw[nU,nU,<- h1];by_cases z:x=l
   .rw[Qf z,Qf z]
   .rw[Qe z,Qe z];exact h2 hx (QS _ hp)
end
end aU
namespace JS
open PySem
abbrev tb (m:Nat):SetTable:={ SetTable.fresh 0 0 true with mask:=m }
def G3 (m:Nat)(h:Int):Nat->SetTable.Probe
 | 0=>(tb m).probeStart h
 | n+1=>(tb m).advance (G3 m h n)
structure Own (m:Nat)(ow:Array (Option Nat))(hs:Tp):Prop where
 sz:ow.size=m+1
 at_:∀(k:Nat) (h:Int),hs[k]? = some h->∃j n,ow[j]? = some (some k)/\(G3 m h n).j=j/\∀d,d<n->∃q,ow[(G3 m h d).j]? = some (some q)
 lt:∀(j k:Nat),ow[j]? = some (some k)->k<hs.length
 one:∀(j j' k:Nat),ow[j]? = some (some k)->ow[j']? = some (some k)->j=j'
end JS
namespace PL
open PySem PySem.Spec L2
open PyProof.Rows hiding St
variable {f:Str}{v:V}{K:Xa}{Fz ao:FZ}{U:aC}{Y:St}{H H':Hp}{C x dx:Addr}{ks:Tn}{ds:List PV}
def fH (ks:List (List Key))(ds:List PV)(k:List Key):List (List Key)×List PV:=if kh ks k=true then(ks,ds) else(ks++[k],ds++[.lst []])
def zaP (z iy:Nat)(tk tv:aL):j9:=λU J O=>∃ks ds,J=.T ks ds/\iy<U.length/\rdE z tk U J λdk=>∃k,dk=lO k/\ks.length<Wf/\∃es,(fH ks ds k).2[gj (fH ks ds k).1 k]? = some (.lst es)/\es.length<Wf/\
 rdE z tv (U.set iy none) (.T (fH ks ds k).1 (fH ks ds k).2) λdv=>
  O.nx (U.set iy none) (.T (fH ks ds k).1 ((fH ks ds k).2.set (gj (fH ks ds k).1 k) (.lst (es++[dv]))))
section
variable {X:Cx}{z iy i:Nat}{ek ev e:Expr}{tk tv te:aL}{x y:Str}{rest:List Wn}{t:j9}{p p1 p2 p3 p4 apos cpos oZ jm pos pos1 pos2 dpos:Pos}
theorem zpC (hu:X.A.units+1<WG)(hN:X.N.Nodup)(hk:aG X ek tk)(hv:aG X ev tv)(hr:sY X z rest t)(hz:X.N[z]? = some x:=by rfl)(hy:X.N[iy]? = some y:=by rfl)(hly:Loc X.env.scope y:=by first | exact Qk rfl | exact Qs rfl)(hzy:iy≠z:=by decide)
  (hvx:mO X.env.scope x:=by first | exact Qk rfl | exact Qs (Qk rfl) | exact Qs (Qs rfl)) (hvy:mO X.env.scope y:=by first | exact Qk rfl | exact Qs (Qk rfl) | exact Qs (Qs rfl)) (hd:fD x:=by decide) (hcd:nD x:=by decide) (hd2:fD y:=by decide) (hcd2:nD y:=by decide)
  (m:M2 X (.Name x p) "setdefault" apos ek (.List [] dpos) cpos:=by exact⟨rfl,rfl,rfl,rfl⟩) (hs1:Wx (.Call (.Attribute (.Name x p) "setdefault" apos) [ek,.List [] dpos] [] cpos) (some (.Name y p1)) pos1.line X.env=pure false:=by rfl)
  (hf:lE X y:=by first | exact .inl rfl | exact .inr rfl | assumption)
  (hbase:Wu (.Name y p2) "append" X.env (Ww (.Name y p2) X.env)=Ww (.Name y p2) X.env:=by rfl)
  (hfew:((WK jm (Wo [ev] X.env)).all (λx=>!x.1)&&(WT jm (WE [] X.env)).all (λx=>x.1.isSome)&&decide ([ev].length+([]:List W0).length+(if ([]:List W0).isEmpty then 0 else 1)<30))=true:=by rfl)
  (hline:(oZ.endLine == jm.line)=true:=by rfl) (hst:cQ X ev []:=by rfl) (hplain:cO X jm []:=by rfl)
  (hs2:Wx (.Call (.Attribute (.Name y p2) "append" oZ) [ev] [] jm) none pos2.line X.env=pure false:=by rfl) :
  sY X z (.Assign [.Name y p1] (.Call (.Attribute (.Name x p) "setdefault" apos) [ek,.List [] dpos] [] cpos) pos1::.Expr (.Call (.Attribute (.Name y p2) "append" oZ) [ev] [] jm) pos2::rest) (zcO (zaP z iy tk tv) t) where
 mono U J O O' m h:=by
  obtain⟨ks,ds,e0,el,h⟩:=h;exact⟨ks,ds,e0,el,hk.mono _ _ _ (λd k ⟨e1,e2,kk,q2,q3,es,q4,q5,q⟩=>⟨e1,e2,kk,q2,q3,es,q4,q5,hv.mono _ _ _ (λd k ⟨e1,e2,q⟩=>⟨e1,e2,hr.mono _ _ _ _ m q⟩) q⟩) h⟩
 run:=dH.weak (qj (rR hN hy hly (zuD hu (mQ hz hvx hd hcd) hk.run (Js rZ) m) hs1 hf) (qj (Ab (Ai QL PySem.F.slot_list_append PySem.F.type_list_append Ei (mQ hy hvy hd2 hcd2) (t7 hv.run rZ hst) hbase hfew hline hst hplain) hs2) hr.run)) λD Y H h=>by
  obtain⟨U,Fz,J,a,bs,R,ks,ds,rfl,hiyl,h⟩:=h;have hok:ks.length=ds.length:=R.box.ok;have hbl:=R.box.own.length;have hbl:ds.length=bs.length:=hbl;have fin:∀(k:List Key) (H':Hp) (m5:List (List Key)) (qN:List PV) (bs1:Tr) (bb:Addr),c7 X.K Fz (U.set iy none) (.T m5 qN) (Y.set iy (some (.ref bb))) H' z a bs1->bs1[gj m5 k]? = some bb->gB (OB U Y (a::bs)) Fz H Fz H'->gh (OB U Y (a::bs)) H (OB (U.set iy none) (Y.set iy (some (.ref bb))) (a::bs1))->
    (∃es,qN[gj m5 k]? = some (.lst es)/\es.length<Wf/\rdE z tv (U.set iy none) (.T m5 qN) λdv=>yU t (iu X.K z D (OB U Y (a::bs)) Fz H) (U.set iy none) (.T m5 (qN.set (gj m5 k) (.lst (es++[dv])))))->
    xu (Jf (JP X.K "list" JR (xq iy) (Jr (lift X.K tv) xW))) (Gr X.K z t) D (Y.set iy (some (.ref bb))) H':=λk H' m5 qN bs1 bb RB hbb st oi q=>by
   obtain⟨es,hcs,hcl,q⟩:=q;obtain⟨b',hb',ow⟩:=RB.box.own.get (show(BX.T m5 qN).Bs[gj m5 k]? = _ from hcs);rw[hbb]at hb';cases hb';obtain⟨xs,hbx,hxs⟩:=ow;refine⟨.ref bb,Xm (by rw[<- R.rel.len];exact hiyl),.inl ⟨rfl,xs,bI.of hbx⟩,MP hv RB q λdv v H2 q nm2 x2 dv2=>?_⟩;have RB3:=RB.ext x2;have nfb:¬ Fz bb:=RB3.box.nf bb (Xf _ (Xl hbb));have hbx2:=x2.same _ _ hbx;have hl2:=hxs.length;refine⟨bb,xs,v,rfl,rfl,hbx2,by lia,?_⟩;have hxs2:=aj.snoc (aj.mono (.of x2.same) (λ_ h=>h) _ _ hxs) dv2;have ow2:Own X.K Fz (upd H2 bb (.lst (xs++[v]))) (.lst (es++[dv])) bb:=⟨_,cg,aj.vH hbx2 nfb hxs2⟩;have hok1:m5.length=qN.length:=RB3.box.ok;obtain⟨R4,s4⟩:=RB3.put hbb hbx2 (λy=>y) ow2 (.T m5 (qN.set (gj m5 k) (.lst (es++[dv])))) rfl rfl (by show m5.length=(qN.set _ _).length;rw[Yf];exact hok1);have s5:gB (OB U Y (a::bs)) Fz H Fz _:=st.trans oi ((gB.of x2).trans gh.refl s4);exact⟨_,Fz,_,a,bs1,R4,hr.mono _ _ _ _ (Gs s5 oi) q⟩
  refine⟨_,R.sz,a,rfl,.inr ⟨_,.inl R.box.at_⟩,MP hk R h λdk w H1 q nm x1 dw=>⟨XM _,λp hp=>?_⟩⟩;obtain⟨k,rfl,hkl,q⟩:=q;have R1:=R.ext x1;have x2:Ext Fz H1 Fz (upd H1 p (.lst [])):=Ext.laid ⟨Same.refl _,λ_ h=>h,λ_ h=>.inl h,R1.rel.al⟩ hp;have R2:=R1.ext x2;obtain⟨b,rfl,hb⟩:=Np (aq.root dw);have hl2:ks.length=(bs.map V.ref).length:=by rw[Xb];lia
  refine⟨ks.zip (bs.map V.ref),k,b,R2.box.at_,rfl,x2.same _ _ hb,by rw[YI];lia,λv hv0=>?_,λhn=>?_⟩
  .obtain⟨hkm,hat⟩:=zpt hl2 hv0;rw[Xg]at hat;cases hbb:bs[gj ks k]? with
   | none=>rw[hbb]at hat;cases hat
   | some bb=>
    rw[hbb]at hat;cases hat;have es:fH ks ds k=(ks,ds):=by unfold fH;rw[Qf (GD.mpr hkm)]
    rw[es]at q;exact fin k _ ks ds bs bb ⟨R2.rel.unset,by rw[Xk hzy];exact R2.hz,by rw[Xk hzy];exact R2.sz,R2.box,λb hb w=>R2.no b hb (vP b w)⟩ hbb (.of (x1.trans x2)) (λb hb=>.inl (hb.imp (vP b) id)) q
  .have hkm:k∉ks:=(zps hl2).mp hn;have es:fH ks ds k=(ks++[k],ds++[.lst []]):=by unfold fH;rw[Qe (λz=>hkm (GD.mp z))]
   rw[es]at q;rw[zrI hl2 hkm];have hpb:∀c∈a::bs,c≠p:=λc hc e=>by
    obtain⟨o,ho,_⟩:=R1.box.has hc;rw[e,hp]at ho;cases ho
   have hpa:a≠p:=hpb a (Xh ..);have nfp:¬ Fz p:=λw=>R1.rel.al p w hp;have nop:¬ cP U Y p:=λ⟨i,d,g1,g2⟩=>by
    obtain⟨a0,q1,_,q3⟩:=R1.rel.own i d g1;rw[g2]at q1;cases q1;obtain⟨o,q4,_⟩:=q3.at;rw[hp]at q4;cases q4
   have qO:(upd H1 p (HO.lst [])) a=some ((BX.T ks ds).obj bs):=R2.box.at_;have kp:Keep Fz (upd H1 p (.lst [])) (upd (upd H1 p (.lst [])) a (.dT ((ks++[k]).zip (bs.map V.ref++[.ref p])))):=.mk' λc o e hw=>by
    have ne:c≠a:=λy=>by
     subst y;rcases hw with hw | hw
     .exact R2.box.nf c (Xh ..) hw
     .rw[qO]at e;cases e;exact hw
    rw[aY ne];exact e
   have hbs:∀c∈bs,c≠a:=λc hc e=>(XO.mp R.box.nd).1 (by rw[<- e];exact hc);have rel3:=R2.rel.other (o:=.dT ((ks++[k]).zip (bs.map V.ref++[.ref p]))) qO (λy=>y) (R2.box.nf a (Xh ..)) (R2.no a (Xh ..));have Rn:c7 X.K Fz (U.set iy none) (.T (ks++[k]) (ds++[.lst []])) (Y.set iy (some (.ref p))) (upd (upd H1 p (.lst [])) a (.dT ((ks++[k]).zip (bs.map V.ref++[.ref p])))) z a (bs++[p]):=by
    refine⟨rel3.unset,by rw[Xk hzy];exact R2.hz,by rw[Xk hzy];exact R2.sz,⟨?_,?_,?_,?_,λc hc=>?_⟩,λc hc w=>?_⟩
    .show _=some (HO.dT ((ks++[k]).zip ((bs++[p]).map V.ref)));rw[cg,Xp];rfl
    .show(ks++[k]).length=(ds++[_]).length;simp[hok]
    .show aR _ _ _ (ds++[_]) (bs++[p]);have op:Own X.K Fz (upd (upd H1 p (.lst [])) a (.dT ((ks++[k]).zip (bs.map V.ref++[.ref p])))) (.lst []) p:=⟨[],by rw[aY (QD hpa),cg],aj.nil⟩;refine aR.snoc op (R2.box.own.mono kp (λ_ h=>h) λc hc o ho=>?_);rw[aY (hbs c hc)];exact ho
    .have nd:=XO.mp R.box.nd;rw[XO];refine⟨λhm=>?_,?_⟩
     .rcases Xz.mp hm with hm | hm
      .exact nd.1 hm
      .exact hpa (Xv.mp hm)
     .rw[Ys];exact⟨nd.2,by simp,λc hc d hd e=>hpb c (Xf _ hc) (by rw[e,Xv.mp hd])⟩
    .rcases Xn.mp hc with rfl | hc
     .exact R2.box.nf _ (Xh ..)
     .rcases Xz.mp hc with hc | hc
      .exact R2.box.nf c (Xf _ hc)
      .rw[Xv.mp hc];exact nfp
    .have w:=vP c w;rcases Xn.mp hc with rfl | hc
     .exact R2.no _ (Xh ..) w
     .rcases Xz.mp hc with hc | hc
      .exact R2.no c (Xf _ hc) w
      .rw[Xv.mp hc]at w;exact nop w
   refine fin k _ (ks++[k]) (ds++[.lst []]) (bs++[p]) p Rn ?_ ?_ ?_ q
   .rw[zuE hkm];have:ks.length=bs.length:=by lia
    rw[this,XZ (Xj _),Nat.sub_self];rfl
   .refine(gB.of (x1.trans x2)).trans gh.refl ⟨λ_ h=>h,λ_ h=>.inl h,λc o e n=>?_⟩;have ne:c≠a:=λy=>n (.inr (by rw[y];exact Xh ..));rw[aY ne];exact e
   .intro c hc;rcases hc with hc | hc
    .exact .inl (.inl (vP c hc))
    .rcases Xn.mp hc with rfl | hc
     .exact .inl (.inr (Xh ..))
     .rcases Xz.mp hc with hc | hc
      .exact .inl (.inr (Xf _ hc))
      .rw[Xv.mp hc];exact .inr (x1.same.free hp)
def zbH (i z:Nat)(te:aL):j9:=λU J O=>te (U.set z (some (J.pv,false))) λd k=>k=.new/\(∃ks ds,d=.dK ks ds/\zaE ds=true)/\O.nx (U.set i (some (d,false))) J
theorem zrT {pos':Pos}(hN:X.N.Nodup)(hi:X.N[i]? = some y)(hx:Loc X.env.scope y)(he:aG X e te)(hiz:i≠z:=by decide)(hs:Wx e (some (.Name y pos')) pos.line X.env=pure false:=by rfl)(hf:lE X y:=by first | exact .inl rfl | exact .inr rfl | assumption) :
  uE X z (.Assign [.Name y pos'] e pos) (zbH i z te) where
 mono U J O O' m h:=he.mono _ _ _ (λd k ⟨e1,e2,q⟩=>⟨e1,e2,m.nx _ _ q⟩) h
 run:=PS.weak (rR hN hi hx he.run hs hf) λD Y H h=>by
  obtain⟨U,Fz,J,a,bs,R,h⟩:=h;refine⟨_,_,R.frozen,he.mono _ _ _ (λd k q v ao H' p=>?_) h⟩;obtain⟨rfl,⟨ks,ds,rfl,nm⟩,q⟩:=q;obtain⟨px,l,rfl,hl0,hlf,xs,hlx,hlk,hds⟩:=p;have x1:Ext Fz H Fz H':=⟨px.same,λ_ h=>h,λ_ h=>.inl h,λb hb y=>R.rel.al b hb (px.same.free y)⟩;have x2:Ext Fz H (λb=>Fz b\/b=l) H':=x1.add hl0 (by rw[hlx];exact λz=>nomatch z);have R2:=R.ext x2;have dn:aq X.K (λb=>Fz b\/b=l) H' (.dK ks ds) (.ref l):=by
   simp only[aq];exact⟨l,xs,rfl,.inr rfl,.inl hlx,hlk,uh ds xs nm hds⟩
  exact q (Y.set i (some (.ref l))) _ H' a bs (.of x2) OB.set (R2.set dn hiz)
end
def BR (i j:Int):Prop:=i.natAbs<2 ^ 4000/\j.natAbs<2 ^ 4000
theorem bits_le {k:Int}(h:k.natAbs<2 ^ 4000):Builtin.Int.intBits k<=4000:=by
 unfold Builtin.Int.intBits;split
 .exact XM _
 .rcases Nat.eq_zero_or_pos k.natAbs with h0 | hp
  .rw[h0];decide
  .exact(Nat.log2_lt (Yh hp)).mpr h
theorem BR.ok {i j:Int}(h:BR i j):IntMulOk i j:=by
 have h1:=bits_le h.1;have h2:=bits_le h.2;have h3:Builtin.Int.intTooBig (Builtin.Int.intBits i+Builtin.Int.intBits j)=false:=by
  unfold Builtin.Int.intTooBig;rw[decide_eq_false_iff_not];have hb:(8000:Int)<=bitsLine:=by decide
  lia
 unfold IntMulOk;rw[h3];simp
section
variable {X:Cx}{a b:Expr}{ta tb:aL}{pos:Pos}
theorem zuN:fZ X (WS .Mult) (rI BR λi j=>.int (i*j)):=xO λ_ _ _ _ _ _ _ hc q=>mul_int q hc.ok
abbrev zdg:=t2 (i2 BR λi j=>.int (i*j))
theorem zuO (ha:aG X a ta)(hb:aG X b tb):aG X (.BinOp a .Mult b pos) (zdg ta tb):=qu zuN yC ha hb
end
structure Mx (K:Xa)(C:Addr)(x qual:Str)(st:Wn)(ps:Tn)(f:Addr)(fd:Wk):Prop where
 fn:cj K x qual st f fd
 bd:Binds K fd ps []
 me:Meth K C x f
def uK:Wn->List Wn
 | .ClassDef _ _ _ b _ _ _ _ _ _ _=>b
 | _=>[]
abbrev vZ:=aC->Tn->List PV->(Tn->List PV->Prop)->Prop
structure jz (K:Xa)(Fz:FZ)(U:aC)(Y:St)(H:Hp)(C x dx:Addr)(ks:Tn)(ds:List PV):Prop where
 rel:Rel K Fz U Y H
 hz:U[0]? = some none
 sz:Y[0]? = some (some (.ref x))
 nf:¬ Fz x
 no:∀(i:Nat) (d:PV),U[i]?≠some (some (d,true))
 at_:∃xs,H x=some (.ins C dx (ks.zip xs))/\ks.length=xs.length/\aj K Fz H ds xs
def zyc (K:Xa)(C:Addr)(t:vZ):TS:=λD Y H=>∃U Fz x dx ks ds,jz K Fz U Y H C x dx ks ds/\t U ks ds λks' ds'=>∀Y' ao H',Made K C x dx Fz H ao H' ks' ds'->D.nx Y' H'
structure BV (X:Cx)(C:Addr)(sts:List Wn)(t:vZ):Prop where
 mono:∀U ks ds Q Q',(∀a b,Q a b->Q' a b)->t U ks ds Q->t U ks ds Q'
 run:dH X sts (zyc X.K C t)
theorem G4:∀ {ks:Tn}{xs:List V},ks.length=xs.length->f∉ks->dB f v (ks.zip xs)=(ks++[f]).zip (xs++[v])
 | [],[],_,_=>rfl
 | [],_::_,h,_=>nomatch h
 | _::_,[],h,_=>nomatch h
 | k::ks,x::xs,h,n=>by
  have hk:¬ k=f:=λz=>n (z▸Xh ..);rw[XS,Yv,Yv,XS,<- G4 (Nat.succ.inj h) λz=>n (Xf _ z)];show(if k=f then _ else _)=_
  rw[Qe hk]
theorem jz.lD (R:jz K Fz U Y H C x dx ks ds)(τ:St)(b:Addr):¬ cP U τ b:=λ⟨i,d,h,_⟩=>R.no i d h
theorem jz.ext (R:jz K Fz U Y H C x dx ks ds)(e:Ext Fz H ao H'):jz K ao U Y H' C x dx ks ds:=by
 obtain⟨xs,h1,h2,h3⟩:=R.at_;refine⟨R.rel.ext e,R.hz,R.sz,λz=>?_,R.no,xs,e.same _ _ h1,h2,aj.mono (.of e.same) e.sub _ _ h3⟩;rcases e.new x z with w | w
 .exact R.nf w
 .rw[h1]at w;cases w
theorem jz.fld {xs:List V}{d:PV}(R:jz K Fz U Y H C x dx ks ds)(h1:H x=some (.ins C dx (ks.zip xs)))(h2:ks.length=xs.length)(h3:aj K Fz H ds xs)(hf:f∉ks)(hd:aq K Fz H d v) :
  jz K Fz U Y (upd H x (.ins C dx (dB f v (ks.zip xs)))) C x dx (ks++[f]) (ds++[d]):=by
 refine⟨R.rel.other h1 (λz=>z) R.nf (R.lD Y x),R.hz,R.sz,R.nf,R.no,xs++[v],?_,by rw[Xr,Xr,h2];rfl,aj.j7 h1 (λz=>z) R.nf (aj.snoc h3 hd)⟩;rw[cg,G4 h2 hf]
theorem Made.behind {F1:FZ}{H1:Hp}{es:List PV}{o:HO}(e:Ext Fz H F1 H1)(m:Made K C x dx F1 (upd H1 x o) ao H' ks es):Made K C x dx Fz H ao H' ks es where
 old b u n h:=m.old b u n (by rw[aY n];exact e.same b u h)
 sub b h:=m.sub b (e.sub b h)
 new b h:=by
  rcases m.new b h with w | w
  .exact e.new b w
  .by_cases n:b=x
   .subst n;rw[cg]at w;cases w
   .rw[aY n]at w;exact .inr (e.same.free w)
 al:=m.al
 at_:=m.at_
def nFld (f:Str)(te:aL)(t:vZ):vZ:=λU ks ds Q=>f∉ks/\ks.length<1000/\te U λd k=>isOwn k=false/\t U (ks++[f]) (ds++[d]) Q
section
variable {X:Cx}{C:Addr}{e:Expr}{f x:Str}{te:aL}{t:vZ}{rest:List Wn}{p pos pos':Pos}
theorem BW (c:kZ X.K C)(n:lZ X.K C f)(he:aG X e te)(hr:BV X C rest t)(hN:X.N[0]? = some x:=by rfl)(hv:mO X.env.scope x:=by first | exact Qk rfl | exact Qs (Qk rfl) | exact Qs (Qs rfl))(hd:fD x:=by decide) (hcd:nD x:=by decide)
  (hs:Wx e (some (.Attribute (.Name x p) f pos')) pos.line X.env=pure false:=by rfl):BV X C (.Assign [.Attribute (.Name x p) f pos'] e pos::rest) (nFld f te t) where
 mono U ks ds Q Q' m h:=⟨h.1,h.2.1,he.mono U _ _ (λd k ⟨hk,q⟩=>⟨hk,hr.mono _ _ _ _ _ m q⟩) h.2.2⟩
 run:=dH.weak (qj (Jq (mQ hN hv hd hcd) he.run hs) hr.run) λD Y H h=>by
  obtain⟨U,Fz,x,dx,ks,ds,R,hf,hk,h⟩:=h;refine⟨U,Fz,R.rel,he.mono U _ _ (λd k q v F1 H1 p1=>?_) h⟩;obtain⟨hk',q⟩:=q;obtain⟨F2,x2,s2,d2⟩:=p1.frozen (yQ hk');have R2:=R.ext x2;obtain⟨xs,h1,h2,h3⟩:=R2.at_;refine⟨_,R2.sz,x,C,dx,_,rfl,h1,c,n,by rw[YI];lia,?_⟩;exact⟨U,F2,x,dx,_,_,R2.fld h1 h2 h3 hf d2,hr.mono _ _ _ _ _ (λa b g Y' ao H' m=>g Y' ao H' (m.behind x2)) q⟩
end
section
variable {P:Wg}{w:Wj}{K:Xa}{mg:Tj}{base:Heap}
theorem zuP {x qual:Str}{st:Wn}{f C:Addr}{fd:Wk}{N ps:Tn}{k:Nat}{FI:vQ}(Fn:cj K x qual st f fd)(S:cL N ps (bf st))(len:∀ds Q,FI ds Q->ds.length+1=ps.length)
  (hbody:∀(cdv:Wb) (A:Wl) (outer:List Env) (s:Wc) (H:Hp) (E:XK),bx k (A.deeper (Vc qual (bf st) s.heap.objs.size f cdv))->
   ∃t,BV (fK aN P w K mg base N qual (bf st) f cdv A outer s H E).pN C (ji st) t/\∀ds Q,FI ds Q->t ((zaA N (.non::ds)).set 0 none) [] [] Q):aA P w K mg base aN (k+1) f fd ps (uG K C FI):=by
 refine Fn.ok S (λvs H Q E h=>?_) (λcdv A outer s H vs Q E hr h=>?_)
 .obtain⟨x,dx,ws,Fz,ds,rfl,_,_,_,_,_,hd,q⟩:=h;rw[Xy,<- hd.length];exact len _ _ q
 obtain⟨t,ht,hq⟩:=hbody cdv A outer s H E hr;obtain⟨x,dx,ws,Fz,ds,rfl,hx,hdx,nx,ndx,al,hd,h⟩:=h;have hd':aj K Fz H (.non::ds) (.non::ws):=aj.cons (by simp only[aq]) hd;obtain⟨R,no⟩:=FP (N:=N) al hd';have es:start N (.ref x::ws)=(start N (.non::ws)).set 0 (some (.ref x)):=rfl;refine⟨_,ht.run,?_⟩;rw[es];refine⟨(zaA N (.non::ds)).set 0 none,Fz,x,dx,[],[],⟨R.unset,rfl,rfl,nx,λi d z=>?_,[],hx,rfl,aj.nil⟩,ht.mono _ _ _ _ _ (λks es q Y' ao H' m=>q ao H' m) (hq ds _ h)⟩;by_cases hi:i=0
 .subst hi;cases z
 .rw[Xk (λy=>hi y.symm)]at z;have hlen:i<(zaA N (.non::ds)).length:=(Xc.mp z).1;rw[R.len]at hlen;obtain⟨a,q1,_⟩:=R.own i d z;exact no _ a ⟨i,d,z,q1⟩
end
def v8 (d:PV):Prop:=∃ks ls,d=.dT ks ls/\∀l∈ls,∃e es,l=.lst (.tup e::es)/\zaE (.tup e::es)=true
section
variable {K:Xa}{F F':FZ}{H H':Hp}{U:aC}{Y:St}
theorem Rel.grow (R:Rel K F U Y H)(no:∀(i:Nat)(d:PV),U[i]?≠some (some (d,true)))(s:Same H H')(sub:∀b,F b->F' b)(al:∀b,F' b->H' b≠none):Rel K F' U Y H' where
 al:=al
 len:=R.len
 aF i d e:=by
  obtain⟨v,q1,q2⟩:=R.aF i d e;exact⟨v,q1,aq.mono (.of s) sub _ _ q2⟩
 own i d e:=Qg e (no i d)
 inj i j d e a h:=Qg h (no i d)
theorem N6:∀ {ds:List PV}{xs:List V},(∀d∈ds,v8 d)->aj K F H ds xs->∀v∈xs,∃b kvs,v=.ref b/\Rd H b (.dT kvs)
 | [],xs,_,h=>by
  have e:xs=[]:=by simpa only[aj]using h
  subst e;exact λv hv=>nomatch hv
 | d::ds,xs,hg,h=>by
  simp only[aj]at h;obtain⟨v,r,rfl,h1,h2⟩:=h;intro u hu;rcases Xn.mp hu with rfl | hu
  .obtain⟨ks,ls,rfl,_⟩:=hg d (Xh ..);simp only[aq]at h1;obtain⟨a,xs,e,_,h4,_⟩:=h1;exact⟨a,_,e,h4⟩
  .exact N6 (λd hd=>hg d (Xf _ hd)) h2 u hu
theorem zc {b:Addr}{u o:HO}(h:H b=some u)(r:Rd H b o):u=o\/∃w,u=.aF w o:=by
 rcases r with r | ⟨w,r⟩
 .rw[h]at r;cases r;exact .inl rfl
 .rw[h]at r;cases r;exact .inr ⟨w,rfl⟩
variable {x L C dx:Addr}{fs:List (Str×V)}{fv:List V}
theorem N7 (hx:H x=some (.ins C dx fs))(hL:H L=some (.lst fv))(hv:∀v∈fv,∃b kvs,v=.ref b/\Rd H b (.dT kvs)):∀ {ls:List PV}{xs:List V},(∀l∈ls,∃e es,l=.lst (.tup e::es)/\zaE (.tup e::es)=true)->aj K F H ls xs->aj K (λb=>F b/\b≠x/\b≠L) H ls xs
 | [],xs,_,h=>by simpa only[aj]using h
 | l::ls,xs,hg,h=>by
  simp only[aj]at h;obtain⟨v,r,rfl,h1,h2⟩:=h;refine aj.cons ?_ (N7 hx hL hv (λl hl=>hg l (Xf _ hl)) h2);obtain⟨e,es,rfl,nm⟩:=hg l (Xh ..);simp only[aq]at h1 ⊢;obtain⟨a,ys,rfl,h3,h4⟩:=h1;refine⟨a,ys,rfl,?_,uh _ _ nm h4⟩;rcases h3 with ⟨f1,f2⟩ | h3
  .refine .inl ⟨⟨f1,λz=>?_,λz=>?_⟩,f2⟩
   .subst z;rcases zc hx f2 with w | ⟨_,w⟩<;>cases w
   .subst z;rcases zc hL f2 with w | ⟨_,w⟩
    .cases w;simp only[aj]at h4;obtain⟨v0,r0,e0,h5,_⟩:=h4;simp only[aq]at h5;obtain⟨t,ts,e1,h6,_⟩:=h5;obtain⟨b,kvs,e2,h7⟩:=hv v0 (by rw[e0];exact Xh ..);rw[e1]at e2;cases e2;rcases zc h6 h7 with w | ⟨_,w⟩<;>cases w
    .cases w
  .exact .inr h3
theorem zrV (hx:H x=some (.ins C dx fs))(hL:H L=some (.lst fv))(hv:∀v∈fv,∃b kvs,v=.ref b/\Rd H b (.dT kvs)){d:PV}(g:v8 d)(h:aq K F H d v):aq K (λb=>F b/\b≠x/\b≠L) H d v:=by
 obtain⟨ks,ls,rfl,hg⟩:=g;simp only[aq]at h ⊢;obtain⟨a,xs,rfl,f1,f2,f3,f4⟩:=h;refine⟨a,xs,rfl,⟨f1,λz=>?_,λz=>?_⟩,f2,f3,N7 hx hL hv hg f4⟩
 .subst z;rcases zc hx f2 with w | ⟨_,w⟩<;>cases w
 .subst z;rcases zc hL f2 with w | ⟨_,w⟩<;>cases w
end
structure m7 (K:Xa)(Fz:FZ)(U:aC)(Y:St)(H:Hp)(C x dx L:Addr)(ks:Tn)(f:Str)(ds fs:List PV):Prop where
 rel:Rel K Fz U Y H
 sz:Y[0]? = some (some (.ref x))
 nf:¬ Fz x
 nfL:¬ Fz L
 no:∀(i:Nat) (d:PV),U[i]?≠some (some (d,true))
 xL:x≠L
 at_:∃xs,H x=some (.ins C dx ((ks++[f]).zip (xs++[.ref L])))/\ks.length=xs.length/\aj K Fz H ds xs
 fa:∃fv,H L=some (.lst fv)/\aj K Fz H fs fv
 good:∀d∈fs,v8 d
theorem m7.ext {L:Addr}{fs:List PV}(R:m7 K Fz U Y H C x dx L ks f ds fs)(e:Ext Fz H ao H'):m7 K ao U Y H' C x dx L ks f ds fs:=by
 obtain⟨xs,h1,h2,h3⟩:=R.at_;obtain⟨fv,h4,h5⟩:=R.fa;refine⟨R.rel.ext e,R.sz,λz=>?_,λz=>?_,R.no,R.xL,⟨xs,e.same _ _ h1,h2,aj.mono (.of e.same) e.sub _ _ h3⟩,⟨fv,e.same _ _ h4,aj.mono (.of e.same) e.sub _ _ h5⟩,R.good⟩
 .rcases e.new x z with w | w
  .exact R.nf w
  .rw[h1]at w;cases w
 .rcases e.new L z with w | w
  .exact R.nfL w
  .rw[h4]at w;cases w
theorem N8:∀ {ks:Tn}{xs:List V},ks.length=xs.length->f∉ks->((ks++[f]).zip (xs++[v])).lookup f=some v
 | [],[],_,_=>by simp
 | [],_::_,h,_=>nomatch h
 | _::_,[],h,_=>nomatch h
 | k::ks,x::xs,h,n=>by
  rw[Yv,Yv,XS,XT,show(f == k)=false by rw[beq_eq_false_iff_ne];exact λz=>n (z▸Xh ..)];exact N8 (Nat.succ.inj h) λz=>n (Xf _ z)
theorem zuQ {n m:Nat}(h:m<n):pP n (m:Int)=some m:=by
 unfold pP;rw[Qf (by lia),Qf (by lia)];rfl
def zcH (C:Addr)(f m:Str)(iI:Nat)(te:aL)(ti:iW)(ta:cV)(tix:aL)(F:PF):vZ:=λU ks ds Q=>f∉ks/\m∉ks++[f]/\ks.length<1000/\iI≠0/\te U λd k=>k=.new/\∃tu,d=.lst tu/\(∀d∈tu,v8 d)/\ti U λits o=>o=false/\∃Iv:Nat->List PV->Prop,Iv 0 tu/\
 (∀j d fs,its[j]? = some d->Iv j fs->ta (U.set iI (some (d,false))) λops=>noOwn ops=true/\F (.obj C (ks++[f]) (ds++[.lst fs])::ops.map (·.1)) λd' k'=>k'=.aF/\v8 d'/\tix (U.set iI (some (d,false))) λe _=>∃n:Nat,e=.int n/\n<fs.length/\Iv (j+1) (fs.set n d'))/\
 ∀fs,Iv its.length fs->Q (ks++[f]) (ds++[.lst fs])
section
variable {X:Cx}{C fa:Addr}{e iter ei a0:Expr}{as:List Expr}{f m x y:Str}{te tix:aL}{ti:iW}{ta:cV}{F:PF}{iI k:Nat}{fd:Wk}{ps:Tn}{pl:Sem Bool}{p1 p2 p3 p4 p5 p6 apos cpos pos1 pos2 qP p7:Pos}
theorem zrW (c:kZ X.K C)(n:lZ X.K C f)(hm:Meth X.K C m fa)(G:aA X.prog X.w X.K X.mg X.base aN k fa fd ps (aX X.K F))(mf:cW F)(hr:bx k X.A)(hb:Binds X.K fd ps [])
  (he:aG X e te) (hN:X.N.Nodup) (hyi:X.N[iI]? = some y) (hy:Loc X.env.scope y) (hc:X.calm=true) (hp:W3 (Wh X.prog X.w) X.A X.env X.xe) (hit:lK X (.Name y p2) iter ti) (ha:eO X (a0::as) ta) (hi:aG X ei tix)
  (hx:X.N[0]? = some x:=by rfl) (hv:mO X.env.scope x:=by first | exact Qk rfl | exact Qs (Qk rfl) | exact Qs (Qs rfl)) (hd:fD x:=by decide) (hcd:nD x:=by decide)
  (hs:Wx e (some (.Attribute (.Name x p1) f p3)) pos1.line X.env=pure false:=by rfl)
  (hf:lE X y:=by first | exact .inl rfl | exact .inr rfl | assumption) (hfs:oh X iter:=by intro _;rfl)
  (hst:cQ X a0 as:=by rfl) (hpl:cO X cpos as:=by rfl)
  (ht:Ww (.Call (.Attribute (.Name x p6) m apos) (a0::as) [] cpos) X.env=(do
   let ov <- Ww (.Name x p6) X.env
   standAt apos.atName
   let (f,first) <- WN [ov] (Vb ov m pl)
   callWith cpos f first (WK cpos (Wo (a0::as) X.env)) (WT cpos (WE [] X.env))):=by rfl)
  (hbf:Wu (.Name x p4) f X.env (Ww (.Name x p4) X.env)=Ww (.Name x p4) X.env:=by rfl)
  (hw1:swapsWithSole [.Subscript (.Attribute (.Name x p4) f p5) ei p7] (.Call (.Attribute (.Name x p6) m apos) (a0::as) [] cpos) qP.line X.env=pure false:=by rfl) (hw2:swappedStores [.Subscript (.Attribute (.Name x p4) f p5) ei p7] (.Call (.Attribute (.Name x p6) m apos) (a0::as) [] cpos) X.env=pure none:=by rfl)
  (h1:(WI [.Subscript (.Attribute (.Name x p4) f p5) ei p7] X.env).map (·.2)=[assign (.Subscript (.Attribute (.Name x p4) f p5) ei p7) X.env]:=by rfl)
  (hasg:∀v,assign (.Subscript (.Attribute (.Name x p4) f p5) ei p7) X.env v=(do
   let ov <- WN [v] (Ww (.Attribute (.Name x p4) f p5) X.env);let iv <- WN [v,ov] (Ww ei X.env)
   standAt p7
   WN [v,ov,iv] (setItem ov iv v)
   release [v,ov,iv] []):=by intro _;rfl) :
  BV X C [.Assign [.Attribute (.Name x p1) f p3] e pos1,.For (.Name y p2) iter [.Assign [.Subscript (.Attribute (.Name x p4) f p5) ei p7] (.Call (.Attribute (.Name x p6) m apos) (a0::as) [] cpos) qP] [] pos2] (zcH C f m iI te ti ta tix F) where
 mono U ks ds Q Q' mm h:=by
  obtain⟨g1,g2,g3,g4,h⟩:=h;exact⟨g1,g2,g3,g4,he.mono U _ _ (λd k ⟨e1,tu,e2,e3,h⟩=>⟨e1,tu,e2,e3,hit.mono U _ _ (λits o ⟨e4,Iv,i0,i1,i2⟩=>⟨e4,Iv,i0,i1,λfs h=>mm _ _ (i2 fs h)⟩) h⟩) h⟩
 run:=dH.weak (qj (Jq (mQ hx hv hd hcd) he.run hs) (u6 (u9 hp hc hit.run (Ac hN hyi hy hf) (u6 (Ji (xX (pl:=pl) (mQ hx hv hd hcd) c hm G hr hb .nil vm ha.run hst hpl ht) (V8 (Jp (mQ hx hv hd hcd) hbf) hi.run set_list hasg) hw1 hw2 h1)) hfs))) λD Y H h=>by
  obtain⟨U,Fz,x,dx,ks,ds,R,hfk,hmk,hk,hi0,h⟩:=h;refine⟨U,Fz,R.rel,he.mono U _ _ (λd k q v F1 H1 p1=>?_) h⟩;obtain⟨rfl,tu,rfl,hg0,q⟩:=q;obtain⟨px,L,rfl,hl0,nfL,xs0,hL,hds0⟩:=p1;have R1:=R.ext px;obtain⟨xs,g1,g2,g3⟩:=R1.at_;have hxL:x≠L:=λz=>by
   obtain⟨_,w,_⟩:=R.at_;rw[z,hl0]at w;cases w
  refine⟨_,R1.sz,x,C,dx,_,rfl,g1,c,n,by rw[YI];lia,?_⟩;rw[G4 g2 hfk];have R2:m7 X.K F1 U Y (upd H1 x (.ins C dx ((ks++[f]).zip (xs++[.ref L])))) C x dx L ks f ds tu:=
   ⟨R1.rel.other g1 (λz=>z) R1.nf (R1.lD Y x),R1.sz,R1.nf,nfL,R1.no,hxL,⟨xs,cg,g2,aj.j7 g1 (λz=>z) R1.nf g3⟩,⟨xs0,by rw[aY hxL.symm];exact hL,aj.j7 g1 (λz=>z) R1.nf hds0⟩,hg0⟩
  have o2:∀b o,b≠x->H b=some o->(upd H1 x (.ins C dx ((ks++[f]).zip (xs++[.ref L])))) b=some o:=λb o nb e=>by rw[aY nb];exact px.same b o e
  generalize upd H1 x (.ins C dx ((ks++[f]).zip (xs++[.ref L])))=H2 at R2 o2;refine⟨U,F1,R2.rel,hit.mono U _ _ (λits o q Qq12 bJ H3 x3 wk=>?_) q⟩;obtain⟨rfl,Iv,i0,istep,idone⟩:=q;have R3:=R2.ext x3;have o3:∀b o,b≠x->H b=some o->H3 b=some o:=λb o nb e=>x3.same b o (o2 b o nb e);have n3:∀b,bJ b->Fz b\/H b=none:=λb hb=>by
   rcases x3.new b hb with w | w
   .exact px.new b w
   .by_cases nb:b=x
    .subst nb;exact Qg hb R3.nf
    .cases hH:H b with
     | none=>exact .inr rfl
     | some o=>rw[o2 b o nb hH]at w;cases w
  refine⟨λi m Y' H'=>m=its.length-i/\i<=its.length/\∃U' F' fs,(∀d,U'.set iI (some (d,false))=U.set iI (some (d,false)))/\m7 X.K F' U' Y' H' C x dx L ks f ds fs/\Iv i fs/\(∀b,bJ b->F' b)/\nM bJ H3 H'/\(∀b o,b≠x->H b=some o->H' b=some o)/\∀b,F' b->Fz b\/H b=none,
   ⟨its.length,by lia,XM _,U,bJ,tu,λ_=>rfl,R3,i0,λ_ h=>h,λb o e _=>e,o3,n3⟩,?_⟩
  rintro j mm Y' H' ⟨rfl,hle,U',F',fs,hρ,R',hI,o6,kp,old',new'⟩;obtain⟨oO,wstop⟩:=wk H' (.inr ⟨rfl,kp⟩) j;by_cases hlt:j<its.length
  .obtain⟨go,yl⟩:=oO its[j] (Xd hlt);refine .inr ⟨go,λQq5 H2=>∃U2 F2 fs2,(∀d,U2.set iI (some (d,false))=U.set iI (some (d,false)))/\m7 X.K F2 U2 Qq5 H2 C x dx L ks f ds fs2/\Iv (j+1) fs2/\(∀b,bJ b->F2 b)/\nM bJ H3 H2/\(∀b o,b≠x->H b=some o->H2 b=some o)/\∀b,F2 b->Fz b\/H b=none,λQq5 H2 hN=>⟨its.length-(j+1),by lia,rfl,hlt,hN⟩,λxv H4 yy=>?_⟩;obtain⟨sm,dn⟩:=yl xv H4 yy;have x4:Ext F' H' F' H4:=⟨sm,λ_ h=>h,λ_ h=>.inl h,λb hb z=>R'.rel.al b hb (sm.free z)⟩;have R4:=R'.ext x4;have rel5:=R4.rel.set (i:=iI) (aq.mono (Keep.of (Same.refl _)) o6 _ _ dn);rw[hρ]at rel5;have sz5:(Y'.set iI (some xv))[0]? = some (some (.ref x)):=by rw[Xk hi0];exact R4.sz
   have no5:∀(i:Nat) (d:PV),(U.set iI (some (its[j],false)))[i]?≠some (some (d,true)):=λi d z=>by
    by_cases hii:iI=i
    .subst hii;by_cases hb:iI<U.length
     .rw[Xm hb]at z;cases z
     .rw[XQ (by lia),XA (by lia)]at z;cases z
    .rw[Xk hii]at z;exact R.no i d z
   have old4:∀b o,b≠x->H b=some o->H4 b=some o:=λb o nb e=>sm b o (old' b o nb e);obtain⟨ys,q1,q2,q3⟩:=R4.at_;have hst':=istep j its[j] fs (Xd hlt) hI;refine⟨_,sz5,x,dx,_,rfl,q1,vM (M:=V) (J:=V) hmk,_,F',rel5,ha.mono _ _ _ (λops h vs F5 H5 x5 o=>?_) hst'⟩;obtain⟨hno,hF⟩:=h;obtain⟨F6,x6,s6,d6⟩:=o.frozen x5 hno;have R6:=R4.ext x6;obtain⟨zs,a1,a2,a3⟩:=R6.at_;obtain⟨fv,b1,b2⟩:=R6.fa;show aX X.K F (.ref x::(vs++[])) H5 _ E0;rw[XG];have iZ:aq X.K (λb=>F6 b\/b=x\/b=L) H5 (.obj C (ks++[f]) (ds++[.lst fs])) (.ref x):=by
    simp only[aq];refine⟨x,dx,zs++[.ref L],rfl,.inr (.inl rfl),a1,by rw[Xr,Xr,a2];rfl,aj.snoc (aj.mono (Keep.of (Same.refl _)) (λ_ h=>.inl h) _ _ a3) ?_⟩;simp only[aq];exact⟨L,fv,rfl,.inl ⟨.inr (.inr rfl),.inl b1⟩,aj.mono (Keep.of (Same.refl _)) (λ_ h=>.inl h) _ _ b2⟩
   refine⟨λb=>F6 b\/b=x\/b=L,.obj C (ks++[f]) (ds++[.lst fs])::ops.map (·.1),λb hb=>?_,aj.cons iZ (aj.mono (Keep.of (Same.refl _)) (λ_ h=>.inl h) _ _ d6),mf _ _ _ (λd' k' q v F7 H7 p7=>?_) hF⟩
   .rcases hb with hb | rfl | rfl
    .exact R6.rel.al b hb
    .rw[a1];exact λz=>nomatch z
    .rw[b1];exact λz=>nomatch z
   obtain⟨rfl,hgd,q⟩:=q;have lQ:Same H5 H7:=p7.ext.same;have hx7:=lQ _ _ a1;have hL7:=lQ _ _ b1;have qQ:∀b,F6 b->F7 b/\b≠x/\b≠L:=λb hb=>⟨p7.ext.sub b (.inl hb),λz=>R6.nf (z▸hb),λz=>R6.nfL (z▸hb)⟩;have rel8:Rel X.K (λb=>F7 b/\b≠x/\b≠L) _ _ H7:=(rel5.ext x6).grow no5 lQ qQ λb hb=>p7.ext.al b hb.1;have b7:=aj.mono (Keep.of lQ) qQ _ _ b2;have dv8:aq X.K (λb=>F7 b/\b≠x/\b≠L) H7 d' v:=zrV hx7 hL7 (N6 R'.good b7) hgd p7.dZ;refine⟨_,sz5,x,C,dx,_,.ref L,rfl,hx7,c,n,N8 a2 hfk,_,_,rel8,hi.mono _ _ _ (λe k q u F9 H9 p9=>?_) q⟩;obtain⟨nn,rfl,hnn,q⟩:=q;have hu:=ju (p9.root rel8);have hlv:=b2.length;have sm9:=p9.ext.same;have hL9:=sm9 _ _ hL7;have hx9:=sm9 _ _ hx7;have nf9:¬ F9 x:=λz=>(p9.ext.new x z).elim (λw=>w.2.1 rfl) (λw=>by rw[hx7]at w;cases w);have qR:¬ F9 L:=λz=>(p9.ext.new L z).elim (λw=>w.2.2 rfl) (λw=>by rw[hL7]at w;cases w);have lD:∀b,¬ cP (U.set iI (some (its[j],false))) (Y'.set iI (some xv)) b:=λb h=>h.elim λi h=>h.elim λd h=>no5 i d h.1;refine⟨L,fv,nn,nn,rfl,hu,hL9,by rw[<- hlv];exact zuQ hnn,?_⟩;have s49:Same H4 H9:=x6.same.trans (lQ.trans sm9);refine⟨U.set iI (some (its[j],false)),F9,fs.set nn d',λd=>List.set_set ..,⟨(rel8.ext p9.ext).other hL9 (λz=>z) qR (lD L),sz5,nf9,qR,no5,hxL,⟨zs,by rw[aY hxL];exact hx9,a2,aj.j7 hL9 (λz=>z) qR (aj.mono (Keep.of (lQ.trans sm9)) (λb hb=>p9.ext.sub b (qQ b hb)) _ _ a3)⟩,⟨fv.set nn v,cg,aj.j7 hL9 (λz=>z) qR (aj.set nn (aj.mono (Keep.of sm9) p9.ext.sub _ _ b7) (aq.mono (Keep.of sm9) p9.ext.sub _ _ dv8))⟩,λd hd=>?_⟩,q,λb hb=>p9.ext.sub b (qQ b (x6.sub b (o6 b hb))),λb o e w=>?_,λb o nb e=>?_,λb hb=>?_⟩
   .rcases List.mem_or_eq_of_mem_set hd with w | rfl
    .exact R'.good d w
    .exact hgd
   .have nb:b≠L:=λz=>by
     subst z;rcases w with w | w
     .exact R3.nfL w
     .obtain⟨_,w2,_⟩:=R3.fa;rw[w2]at e;cases e;exact w
    rw[aY nb];exact s49 b o (sm b o (kp b o e w))
   .have nbL:b≠L:=λz=>by rw[z,hl0]at e;cases e
    rw[aY nbL];exact s49 b o (old4 b o nb e)
   .have hnone:∀ {b:Addr},b≠x->H4 b=none->H b=none:=λ{b} nb w=>by
     cases hH:H b with
     | none=>rfl
     | some o=>rw[old4 b o nb hH]at w;cases w
    have nbx:b≠x:=λz=>nf9 (z▸hb);rcases p9.ext.new b hb with w | w
    .rcases p7.ext.new b w.1 with w2 | w2
     .rcases w2 with w2 | rfl | rfl
      .rcases x6.new b w2 with w3 | w3
       .exact new' b w3
       .exact .inr (hnone nbx w3)
      .exact Qg rfl nbx
      .exact Qg rfl w.2.2
     .exact .inr (hnone nbx (x6.same.free w2))
    .exact .inr (hnone nbx (x6.same.free (lQ.free w)))
  .have ej:j=its.length:=by lia
   subst ej;refine .inl ⟨wstop (Xj _),idone fs hI Y' (λb=>F' b\/b=L) H' ⟨old',λb hb=>.inl (o6 b (x3.sub b (px.sub b hb))),λb hb=>?_,λb hb=>?_,?_⟩⟩
   .rcases hb with hb | rfl
    .exact new' b hb
    .exact .inr hl0
   .rcases hb with hb | rfl
    .exact R'.rel.al b hb
    .obtain⟨fv,w,_⟩:=R'.fa;rw[w];exact λz=>nomatch z
   .obtain⟨ys,q1,q2,q3⟩:=R'.at_;obtain⟨fv,q4,q5⟩:=R'.fa;refine⟨ys++[.ref L],q1,by rw[Xr,Xr,q2];rfl,aj.snoc (aj.mono (Keep.of (Same.refl _)) (λ_ h=>.inl h) _ _ q3) ?_⟩;simp only[aq];exact⟨L,fv,rfl,.inl ⟨.inr rfl,.inl q4⟩,aj.mono (Keep.of (Same.refl _)) (λ_ h=>.inl h) _ _ q5⟩
end
abbrev PMz:=List PV->Tp->List PV->(List PV->Tp->Prop)->Prop
abbrev TPZ:=aC->List PV->Tp->(aC->List PV->Tp->Prop)->Prop
section
variable {K:Xa}{Fz F':FZ}{U:aC}{Y:St}{H H':Hp}{C x dx L:Addr}{ks:Tn}{f:Str}{ds:List PV}{hs:Tp}
theorem G5:∀ {is:Tp}{xs:List V},aj K Fz H (is.map PV.int) xs->xs=is.map V.int
 | [],xs,h=>by rw[YE]at h;simp only[aj]at h;exact h
 | s::r,xs,h=>by
  rw[Xq]at h;simp only[aj]at h;obtain⟨v,t,z,h1,h2⟩:=h;simp only[aq]at h1;subst z h1;rw[Xq,G5 h2]
end
abbrev zyh:=List PV->(List PV->Tp->Prop)->Prop
abbrev TNZ:=aC->Tn->List PV->(List PV->Tp->Prop)->Prop
def pLtT:P2:=λd e Q=>∃ns ms:Tp,d=.tup (ns.map PV.int)/\e=.tup (ms.map PV.int)/\Q (.bl (HT.lexLt ns ms)) .aF
theorem zwW:jF K (yc K) pLtT where
 mono d e Q Q' m h:=by obtain⟨i,j,e1,e2,q⟩:=h;exact⟨i,j,e1,e2,m _ _ q⟩
 run Fz H x y d e Q al rx ry h:=by
  obtain⟨ns,ms,rfl,rfl,q⟩:=h;obtain⟨a,xs,rfl,h1,h2⟩:=lq rx;obtain⟨b,ys,rfl,h3,h4⟩:=lq ry;rw[G5 h2]at h1;rw[G5 h4]at h3;exact⟨a,b,ns,ms,rfl,rfl,h1,h3,q _ Fz H (.val al (by simp only[aq]))⟩
end PL
namespace aU
open aW
theorem OD:∀r:Tp,HT.lexLt r r=false
 | []=>rfl
 | x::r=>by rw[HT.xZ,Qf rfl];exact OD r
theorem OJ:∀ {a b:Tp},HT.lexLt a b=true->HT.lexLt b a=false
 | [],[],h=>rfl
 | [],y::b,_=>rfl
 | x::a,[],h=>by cases h
 | x::a,y::b,h=>by
  rw[HT.xZ]at h ⊢;by_cases e:x=y
  .rw[Qf e]at h;rw[Qf e.symm];exact OJ h
  .rw[Qe e]at h;rw[Qe λz=>e z.symm];have:=Qh h;exact Qc (by lia)
variable {M:Type} [DecidableEq M] (cs:M->Tp)
theorem O1:∀ {p:List M},(∀l∈p,(cs l).Pairwise (· < ·))->(cD cs p).Pairwise λa b=>HT.lexLt a b=true
 | [],_=>Ob ..
 | l::p,h=>by
  have ih:=O1 (p:=p) λx hx=>h x (Xf _ hx);refine List.pairwise_flatMap.mpr ⟨λc _=>?_,(h l (Xh ..)).imp λ{c d} hcd x hx y hy=>?_⟩
  .rw[List.pairwise_map];refine ih.imp λ{a b} q=>?_;rw[HT.xZ,Qf rfl];exact q
  .obtain⟨x',_,rfl⟩:=XF.mp hx;obtain⟨y',_,rfl⟩:=XF.mp hy;rw[HT.xZ,Qe (by lia)];exact Qd hcd
theorem ahead:∀ {l:Td}{q:Nat}{r:Tp},(l.Pairwise λa b=>HT.lexLt a b=true)->l[q]? = some r->l.filter (λx=>HT.lexLt x r)=l.take q
 | a::l,0,r,hp,h=>by
  cases h;rw[Yw (by rw[OD];decide),List.take_zero];exact List.filter_eq_nil_iff.mpr λx hx=>by rw[OJ (Py hp hx)];decide
 | a::l,q+1,r,hp,h=>by
  rw[YR]at h;rw[Yx (p:=λx=>HT.lexLt x r) (Py hp (Xl h)),List.take_succ_cons,ahead hp.of_cons h]
theorem zrX {a d:Int}(hd:0<d)(n:Nat):((XE n).map λ(k:Nat)=>a+(k:Int)*d).Pairwise (· < ·):=by
 rw[List.pairwise_map];refine List.pairwise_lt_range.imp λ{i j} h=>?_;have:(i:Int)*d<(j:Int)*d:=Int.mul_lt_mul_of_pos_right (by lia) hd;lia
theorem zrY {l:Tp}(h:l.Pairwise (· < ·)):l.Nodup:=h.imp λ{a b} q=>by lia
end aU
namespace PL
open PySem PySem.Spec L2
open PyProof.Rows hiding St
variable {st:Wn}{S fs:Tr}{h h':Heap}{a T C:Addr}{l:List Env}{H:Hp}{x:Str}{Q:Unit->Wc->Prop}{e:Wb}{Qq11:Model}{Ex:Ti}{bm:Tq}{N ps:Tn}{Y:St}{pos:Pos}{fd:Wk}{k i:Nat}
abbrev PFB:=List PV->(List PV->Prop)->Prop
section
variable {X:Cx}{e:Expr}{te:aL}{lo hi:Option Expr}{tl th:qF}{pos p2:Pos}
theorem G6:jK X st (λ_ _=>False) where
 mono U O O' m h:=h
 run:=λpins s Y H D I h=>by obtain⟨_,_,_,z⟩:=h;exact z.elim
end
def hide (S:Tr)(h:Heap):Heap:={ h with objs:=h.objs.mapIdx λi o=>if i∈S then { o with data:=.freed } else o }
theorem G7 {b:Addr}(hb:b∈S):(hide S h).get? b=none:=by
 unfold hide Heap.get?;simp only[Array.getElem?_mapIdx];cases h.objs[b]? with
 | none=>rfl
 | some o=>simp only[Option.map_some,Qf hb]
theorem BZ {b:Addr}(hb:b∉S):(hide S h).get? b=h.get? b:=by
 unfold hide Heap.get?;simp only[Array.getElem?_mapIdx];cases h.objs[b]? with
 | none=>rfl
 | some o=>simp only[Option.map_some,Qe hb]
theorem znx:(hide S h).StaysIn h:=λb o e=>by
 by_cases hb:b∈S
 .rw[G7 hb]at e;cases e
 .rw[BZ hb]at e;exact e
def ExcAt (h0:Heap)(H:Hp)(h:Heap)(a:Addr)(cls:Wb)(T:Addr)(fl:Wb):Prop:=
 h0.get? a=none/\H a=none/\h0.get? T=none/\H T=none/\T≠a/\∃oe vs oT ts a0,h.get? a=some oe/\oe.cls=cls/\oe.data=.fields vs/\vs[0]? = some a0/\vs[1]? = some (.ref T)/\h.get? T=some oT/\oT.data=.fields ts/\ts[3]? = some fl
structure lA (fs:Tr)(a T:Addr)(h h':Heap):Prop where
 keep:∀b o,h.get? b=some o->b≠a->b≠T->b∉fs->h'.get? b=some o
 slot:∀b o,h.get? b=some o->b∈fs->∃sl,h'.get? b=some { o with slots:=sl }
 there:∀b o,h.get? b=some o->∃o',h'.get? b=some o'
theorem lA.refl:lA fs a T h h:=⟨λ_ _ e _ _ _=>e,λ_ o e _=>⟨o.slots,e⟩,λ_ o e=>⟨o,e⟩⟩
theorem lA.trans {T':Addr}{h1 h2 h3:Heap}(x:lA fs a T h1 h2)(w:T'=T\/h1.get? T'=none)(y:lA fs a T' h2 h3):lA fs a T h1 h3:=
 ⟨λc o e n1 n2 nf=>y.keep c o (x.keep c o e n1 n2 nf) n1 (λz=>by
  rcases w with w | w
  .exact n2 (z.trans w)
  .rw[<- z,e]at w;cases w) nf,λc o e hc=>by
  obtain⟨sl,e1⟩:=x.slot c o e hc;obtain⟨sl2,e2⟩:=y.slot c _ e1 hc;exact⟨sl2,e2⟩,λc o e=>by obtain⟨o1,e1⟩:=x.there c o e;exact y.there c o1 e1⟩
theorem lA.eG {base:Heap}(x:lA fs a T h h')(hl:h.FunFrames base l)(na:a∉frs l)(nT:T∉frs l):h'.FunFrames base l:=by
 induction l with
 | nil=>trivial
 | cons env rest ih=>
  obtain⟨hk,⟨L,o,hf,hn,ho,hd⟩,hr⟩:=hl;unfold frs at na nT;rw[YC,hf]at na nT;obtain⟨na1,na2⟩:=not_or.mp (λz=>na (Xn.mpr z));obtain⟨nT1,nT2⟩:=not_or.mp (λz=>nT (Xn.mpr z));refine⟨hk,?_,ih hr na2 nT2⟩;by_cases hb:L∈fs
  .obtain⟨sl,e1⟩:=x.slot L o ho hb;exact⟨L,_,hf,hn,e1,hd⟩
  .exact⟨L,o,hf,hn,x.keep L o ho (QD na1) (QD nT1) hb,hd⟩
theorem O2 {base:Heap}:∀ {l:List Env},h.FunFrames base l->(∀b∈frs l,b∈S)->h.FunFrames (hide S h) l
 | [],_,_=>trivial
 | env::rest,⟨hk,⟨L,o,hf,hn,ho,hd⟩,hr⟩,hs=>by
  have hL:L∈frs (env::rest):=by unfold frs;rw[YC,hf];exact Xh ..
  refine⟨hk,⟨L,o,hf,G7 (hs L hL),ho,hd⟩,O2 hr λb hb=>hs b ?_⟩;unfold frs at hb ⊢;rw[YC,hf];exact Xf _ hb
theorem cY.there {P:Wg}{w:Wj}(x:cY P w H h){o:HO}(e:H a=some o):∃ob,h.get? a=some ob:=by
 have q:=x a o e;cases o with
 | lst xs=>obtain⟨_,_,_,_,e⟩:=q;exact⟨_,e⟩
 | tup xs=>obtain⟨_,_,_,o,e,_⟩:=q;exact⟨_,e⟩
 | dK kvs=>obtain⟨_,_,_,_,o,_,_,e,_⟩:=q;exact⟨_,e⟩
 | dT kvs=>obtain⟨_,_,_,_,o,_,_,e,_⟩:=q;exact⟨_,e⟩
 | set S n=>obtain⟨o,_,_,_,e,_⟩:=q;exact⟨_,e⟩
 | ins C dx fs=>obtain⟨_,_,_,e,_⟩:=q;exact⟨_,e⟩
 | own y=>obtain⟨_,e⟩:=q;exact⟨_,e⟩
 | xd fs=>obtain⟨_,⟨_,_,_,e,_⟩,_⟩:=q;exact⟨_,e⟩
 | rng lo hi=>obtain⟨_,_,_,e⟩:=q;exact⟨_,e⟩
 | aF ob u=>obtain⟨e,_⟩:=q;exact⟨_,e⟩
 | rN ps=>exact⟨_,show h.get? a=some _ from q⟩
 | met f y=>exact⟨_,show h.get? a=some _ from q⟩
 | ext φ=>obtain⟨_,⟨_,e⟩,_⟩:=q;exact⟨_,e⟩
section
variable {Qq11:Model}{A:Wl}{E:Ti}{s:Wc}{h0:Heap}{H:Hp}{a T:Addr}{cls fl:Wb}{env:Env}{outer:List Env}{base:Heap}{L:Addr}
theorem zny {env env':Env}(h:env.frame=env'.frame)(e:Wb):W8 e env=W8 e env':=by
 unfold W8 PySem.frameOf;rw[h]
theorem ExcAt.ou (hx:ExcAt h0 H s.heap a cls T fl)(hl:s.heap.FunFrames base l):a∉frs l/\T∉frs l:=by
 obtain⟨ha,kj,hT,nW,hTa,oe,vs,oT,ts,a0,he,hc,hd,h0,h1,lR,hdT,h3⟩:=hx;refine⟨λhm=>?_,λhm=>?_⟩
 .obtain⟨_,o,e,nd⟩:=hl.mem hm;rw[he]at e;cases e;exact nd _ hd
 .obtain⟨_,o,e,nd⟩:=hl.mem hm;rw[lR]at e;cases e;exact nd _ hdT
theorem zj {x:Wb}(hx:ExcAt h0 H s.heap a cls T fl)(nf:T∉frs l):lA (frs l) a T s.heap (s.heap.update T (Od (·.setIfInBounds 3 x)))/\ExcAt h0 H (s.heap.update T (Od (·.setIfInBounds 3 x))) a cls T x:=by
 obtain⟨ha,kj,hT,nW,hTa,oe,vs,oT,ts,a0,he,hc,hd,h0,h1,lR,hdT,h3⟩:=hx;have hsz3:3<ts.size:=(Array.getElem?_eq_some_iff.mp h3).1;refine⟨⟨λb o e n1 n2 nb=>?_,λb o e hb=>⟨o.slots,?_⟩,λb o e=>?_⟩,⟨ha,kj,hT,nW,hTa,oe,vs,_,_,a0,(Yi _ _ hTa).trans he,hc,hd,h0,h1,XW _ lR (Obj.isFreed_of_fields (Oj hdT _)),Oj hdT _,by simp[hsz3]⟩⟩
 .rw[Yi _ _ (QD n2)];exact e
 .have ne:T≠b:=λz=>nf (z▸hb);rw[Yi _ _ ne];exact e
 .by_cases ne:T=b
  .subst ne;exact⟨_,XW _ lR (Obj.isFreed_of_fields (Oj hdT _))⟩
  .exact⟨o,by rw[Yi _ _ ne];exact e⟩
theorem O3 {f:Option Addr}{Q:Unit->Wc->Prop}(hx:ExcAt h0 H s.heap a cls T fl){l:List Env}(nf:T∉frs l)
  (h:∀h' lB,lA (frs l) a T s.heap h'->ExcAt h0 H h' a cls T lB->Q () { s with heap:=h' }):We Qq11 A (setFlight (.ref a) f) Q E s:=by
 obtain⟨x1,x2⟩:=zj (l:=l) (x:=f.elim Value.none λx=>WL x) hx nf;obtain⟨ha,kj,hT,nW,hTa,oe,vs,oT,ts,a0,he,hc,hd,h00,h1,lR,hdT,h3⟩:=hx;have hsz3:3<ts.size:=(Array.getElem?_eq_some_iff.mp h3).1;unfold setFlight;refine Wa (Wp he hd h1 ?_);rw[Qf (show(Qm T != Value.none)=true from by simp)];exact WA lR hdT hsz3 (h _ _ x1 x2)
theorem O4 {Q:Unit->Wc->Prop}{oe:Obj}{vs:Array Wb}{a0 head:Wb}{hadNext:Bool}(hfr:A.frames=some (env::outer))(hl:s.heap.FunFrames base (env::outer))(hf:env.frame=some L)
  (ha:h0.get? a=none) (kj:H a=none) (he:s.heap.get? a=some oe) (hd:oe.data=.fields vs) (hs0:vs[0]? = some a0) (hs1:1<vs.size)
  (old:∀b,h0.get? b≠none\/H b≠none->∃o,s.heap.get? b=some o)
  (h:∀h' T' lB,s.heap.get? T'=none->(∀T,lA (frs (env::outer)) a T s.heap h')->ExcAt h0 H h' a oe.cls T' lB->Q () { s with heap:=h' }) :
  We Qq11 A (do let fo <- PySem.frameOf env;let pl <- entryPlaceOf L hadNext;let en <- EntryCells.newEntry head fo .none (WL L) .none pl;setField (.ref a) 1 en) Q E s:=by
 refine wpAny_entryW (base:=hide (a::frs (env::outer)) s.heap) hfr (O2 hl λb hb=>Xf _ hb) hf he znx (G7 (Xh ..)) hd hs1 hs0 λh' hN=>?_;obtain⟨k1,k2,⟨oe3,vs3,T3,oT3,ts3,he3,⟨hc3,h03⟩,hd3,h13,hnT3,hTe3,hgT3,hdT3,h33⟩,k4⟩:=hN;have nT3:T3∉frs (env::outer):=λhm=>by
  obtain⟨_,o,e,nd⟩:=k2.mem hm;rw[hgT3]at e;cases e;exact nd _ hdT3
 have lU:s.heap.get? T3=none:=by
  rw[BZ (λy=>by
   rcases Xn.mp y with y | y
   .exact hTe3 y
   .exact nT3 y)]at hnT3
  exact hnT3
 have hT3:h0.get? T3=none/\H T3=none:=by
  refine⟨?_,?_⟩
  .cases q:h0.get? T3 with
   | none=>rfl
   | some o=>obtain⟨o',e⟩:=old T3 (.inl (by rw[q];exact λz=>nomatch z));rw[lU]at e;cases e
  .cases q:H T3 with
   | none=>rfl
   | some o=>obtain⟨o',e⟩:=old T3 (.inr (by rw[q];exact λz=>nomatch z));rw[lU]at e;cases e
 refine h h' T3 _ lU (λT=>⟨λb o e n1 n2 nb=>?_,λb o e hb=>?_,λb o e=>?_⟩) ⟨ha,kj,hT3.1,hT3.2,hTe3,oe3,vs3,oT3,ts3,a0,he3,hc3,hd3,h03,h13,hgT3,hdT3,h33⟩
 .refine k1 b o ?_;rw[BZ λy=>?_]
  .exact e
  .rcases Xn.mp y with y | y
   .exact n1 y
   .exact nb y
 .obtain⟨_,o2,e2,nd⟩:=hl.mem hb;rw[e]at e2;cases e2;exact k4 b o e nd
 .by_cases y:b∈a::frs (env::outer)
  .rcases Xn.mp y with y | y
   .subst y;exact⟨_,he3⟩
   .obtain⟨_,o2,e2,nd2⟩:=hl.mem y;rw[e]at e2;cases e2;obtain⟨sl,e2⟩:=k4 b o e nd2;exact⟨_,e2⟩
  .exact⟨o,k1 b o (by rw[BZ y];exact e)⟩
theorem zwX {Q:Unit->Wc->Prop}(hfr:A.frames=some (env::outer))(hl:s.heap.FunFrames base (env::outer))(hf:env.frame=some L)(hx:ExcAt h0 H s.heap a cls T fl)
  (old:∀b,h0.get? b≠none\/H b≠none->∃o,s.heap.get? b=some o)
  (h:∀h' T' lB,(T'=T\/s.heap.get? T'=none)->lA (frs (env::outer)) a T s.heap h'->ExcAt h0 H h' a cls T' lB->Q () { s with heap:=h' }):We Qq11 A (W8 (.ref a) env) Q E s:=by
 have nf:=hx.ou hl;obtain⟨x1,x2⟩:=zj (l:=env::outer) (x:=Value.none) hx nf.2;have hx':=hx;obtain⟨ha,kj,hT,nW,hTa,oe,vs,oT,ts,a0,he,hc,hd,h00,h1,lR,hdT,h3⟩:=hx;have hsz3:3<ts.size:=(Array.getElem?_eq_some_iff.mp h3).1;unfold W8;simp only[hf];refine Wa (Wp he hd h1 ?_);rw[Qf (show(Qm T != Value.none)=true from by simp)];refine Wa (Wp lR hdT h3 ?_);by_cases hq:(fl == WL L)=true
 .rw[Qf hq];exact Wd (h _ _ _ (.inl rfl) .refl hx')
 rw[Qe hq];refine Wa (WA lR hdT hsz3 ?_);generalize s.heap.update T (Od (·.setIfInBounds 3 Value.none))=hm at x1 x2 ⊢;obtain⟨_,_,_,_,_,oe2,vs2,oT2,ts2,a02,he2,hc2,hd2,h02,h12,hgT2,hdT2,h32⟩:=x2;refine O4 (s:={ s with heap:=hm }) (h0:=h0) (H:=H) hfr (x1.eG hl nf.1 nf.2) hf ha kj he2 hd2 h02 (Array.getElem?_eq_some_iff.mp h12).1 (λb hb=>?_) λh' T' lB f y z=>?_
 .obtain⟨o,e⟩:=old b hb;exact x1.there b o e
 .have ft:s.heap.get? T'=none:=by
   cases q:s.heap.get? T' with
   | none=>rfl
   | some o=>obtain⟨o',e⟩:=x1.there T' o q;rw[f]at e;cases e
  exact h h' T' lB (.inr ft) (x1.trans (.inl rfl) (y T)) (by rw[hc2]at z;exact z)
theorem zwY {Q:Unit->Wc->Prop}{oe:Obj}{vs:Array Wb}{a0:Wb}(hfr:A.frames=some (env::outer))(hl:s.heap.FunFrames base (env::outer))(hf:env.frame=some L)
  (ha:h0.get? a=none) (kj:H a=none) (he:s.heap.get? a=some oe) (hd:oe.data=.fields vs) (hs0:vs[0]? = some a0) (hs1:vs[1]? = some .none)
  (old:∀b,h0.get? b≠none\/H b≠none->∃o,s.heap.get? b=some o)
  (h:∀h' T' lB,s.heap.get? T'=none->(∀T,lA (frs (env::outer)) a T s.heap h')->ExcAt h0 H h' a oe.cls T' lB->Q () { s with heap:=h' }):We Qq11 A (W8 (.ref a) env) Q E s:=by
 unfold W8;simp only[hf];refine Wa (Wp he hd hs1 ?_);rw[Qe (by decide)];exact O4 hfr hl hf ha kj he hd hs0 (Array.getElem?_eq_some_iff.mp hs1).1 old h
end
theorem zyd {P:Wg}{w:Wj}(ok:cY P w H h)(x:lA fs a T h h')(ha:H a=none)(hT:H T=none)(hf:∀b∈fs,H b=none):cY P w H h':=λb o e=>
 (ok b o e).stay (λc u hc q=>by
  have tr:H c≠none:=by
   rcases hc with rfl | hc
   .rw[e];exact λz=>nomatch z
   .rw[hc];exact λz=>nomatch z
  exact x.keep c u q (λz=>tr (by rw[z];exact ha)) (λz=>tr (by rw[z];exact hT)) λz=>tr (hf c z)) (λ_ q=>q) λ_ _ q=>q
section
variable {X:Cx}{pins:Tg}{Y:St}{H H':Hp}{s s':Wc}{a T:Addr}{cls fl:Wb}{E E':XK}
def RecAt (X:Cx)(H:Hp)(h:Heap)(a:Addr):Prop:=X.s₀.heap.get? a=none/\H a=none/\∃oe vs,h.get? a=some oe/\oe.data=.fields vs
theorem O5 (I:Inv X pins Y H s)(x:lA (frs X.stack) a T s.heap h')(ra:RecAt X H s.heap a)(rT:RecAt X H s.heap T)(hp:∀p∈X.pn++pins,p.1≠a/\p.1≠T):Inv X pins Y H { s with heap:=h' }:=by
 obtain⟨ha,kj,oe,vs,he,hd⟩:=ra;obtain⟨hT,nW,oT,ts,lR,hdT⟩:=rT;have old:∀b o,X.s₀.heap.get? b=some o->b≠a/\b≠T:=λb o e=>⟨λz=>(by rw[z,ha]at e;cases e),λz=>(by rw[z,hT]at e;cases e)⟩;have nst:∀b,b∉X.fs->b≠X.env.locals->b∉frs X.stack:=λb h1 h2 h3=>by
  rcases I.ok.rO with z | ⟨z,zf⟩
  .rw[z]at h3;exact h1 h3
  .rw[z]at h3;unfold frs at h3;rw[YC,zf]at h3;rcases Xn.mp h3 with h3 | h3
   .exact h2 h3
   .exact h1 h3
 have sub:∀b∈X.fs,b∈frs X.stack:=λb hb=>by
  rcases I.ok.rO with z | ⟨z,zf⟩
  .rw[z];exact hb
  .rw[z];unfold frs;rw[YC,zf];exact Xf _ hb
 have dat:∀b o,s.heap.get? b=some o->(∀vs,o.data≠.fields vs)->∃sl,h'.get? b=some { o with slots:=sl }:=λb o e nd=>by
  by_cases hb:b∈frs X.stack
  .exact x.slot b o e hb
  .exact⟨o.slots,x.keep b o e (λz=>by rw[z,he]at e;cases e;exact nd _ hd) (λz=>by rw[z,lR]at e;cases e;exact nd _ hdT) hb⟩
 have cel:∀c v,s.heap.IsCell c v->h'.IsCell c v:=λc v ⟨o,e,q⟩=>by
  obtain⟨sl,e'⟩:=dat c o e (λvs z=>by rw[q]at z;cases z);exact⟨_,e',q⟩
 have low:∀b o,X.s₀.heap.get? b=some o->b≠X.env.locals:=λb o e=>XB (XJ (Xw e) I.ok.above);obtain⟨m,⟨o,es,ep,hg,hdd,hk⟩,hl⟩:=id I.loc;obtain⟨sl,hg'⟩:=dat _ o hg (λvs z=>by rw[hdd]at z;cases z);refine⟨I.ok,I.os,I.bare,⟨λb o e n hb hx=>?_,λb o e n hb hx=>?_,I.base.free,λb o e hx=>?_,I.base.tups,I.base.eF,I.base.gn⟩,⟨m,⟨_,es,ep,hg',hdd,hk⟩,λi y v e1 e2 e3=>?_⟩,λy c e=>?_,I.free,I.bY,λp hp'=>?_,zyd I.hok x kj nW I.Dp,I.len⟩
 .exact x.keep b o (I.base.keep b o e n hb hx) (old b o e).1 (old b o e).2 (nst b hb (low b o e))
 .obtain⟨sl,e1⟩:=I.base.slot b o e n hb hx;obtain⟨sl2,e2⟩:=x.slot b _ e1 (sub b hb);exact⟨sl2,e2⟩
 .obtain⟨o',e1⟩:=I.base.there b o e hx;exact x.there b o' e1
 .obtain⟨u,r,q⟩:=hl i y v e1 e2 e3;refine⟨u,r,?_⟩;rcases q with q | ⟨k,c,e,z⟩
  .exact .inl q
  .exact .inr ⟨k,c,e,cel _ _ z⟩
 .obtain⟨v,z⟩:=I.cell y c e;exact⟨v,cel _ _ z⟩
 .obtain⟨e,n,ne,nf,d⟩:=I.pin p hp';exact⟨x.keep p.1 p.2 e (hp p hp').1 (hp p hp').2 (nst _ nf ne),n,ne,nf,d⟩
theorem G8 (I:Inv X pins Y H s)(x:lA (frs X.stack) a T s.heap h')(hx:ExcAt X.s₀.heap H s.heap a cls T fl)(hp:∀p∈X.pn++pins,p.1≠a/\p.1≠T):Inv X pins Y H { s with heap:=h' }:=by
 obtain⟨ha,kj,hT,nW,hTa,oe,vs,oT,ts,a0,he,hc,hd,h00,h1,lR,hdT,h3⟩:=hx;exact O5 I x ⟨ha,kj,_,_,he,hd⟩ ⟨hT,nW,_,_,lR,hdT⟩ hp
def jA (P:Wg)(w:Wj):n8:=λouter H s E e s'=>
 ∃a T cls fl H',e=.ref a/\s'.os=s.os/\AllBare s'.gens/\Un (frs outer) [] H H' s.heap s'.heap/\cY P w H' s'.heap/\ExcAt s.heap H' s'.heap a cls T fl/\E cls none H'
def cT (X:Cx)(pins:Tg)(Y:St)(E:XK)(e:Wb)(s':Wc):Prop:=
 ∃a T cls fl H',e=.ref a/\Inv X pins Y H' s'/\ExcAt X.s₀.heap H' s'.heap a cls T fl/\(∀p∈X.pn++pins,p.1≠a/\p.1≠T)/\E cls none H'
theorem ExcAt.back {h0 h1:Heap}(x:ExcAt h1 H h a cls T fl)(k:∀b o,h0.get? b=some o->∃o',h1.get? b=some o'):ExcAt h0 H h a cls T fl:=by
 obtain⟨ha,kj,hT,nW,r⟩:=x;have f:∀b,h1.get? b=none->h0.get? b=none:=λb e=>by
  cases q:h0.get? b with
  | none=>rfl
  | some o=>obtain⟨o',e'⟩:=k b o q;rw[e]at e';cases e'
 exact⟨f a ha,kj,f T hT,nW,r⟩
theorem cT.of (I:Inv X pins Y H s)(hex:X.ex=[])(h:jA X.prog X.w X.stack H s E e s'):cT X pins Y E e s':=by
 obtain⟨a,T,cls,fl,H',rfl,os,bare,un,hok,ex,q⟩:=h;refine⟨a,T,cls,fl,H',rfl,I.call' (ch:=[]) os un hok bare (λb z=>Qg z (by simp)),ex.back λb o e=>I.base.there b o e (by rw[hex];simp),λp hp=>?_,q⟩;obtain⟨e,_⟩:=I.pin p hp;exact⟨λz=>(by rw[z,ex.1]at e;cases e),λz=>(by rw[z,ex.2.2.1]at e;cases e)⟩
theorem cT.old (I:Inv X pins Y H s)(hex:X.ex=[]):∀b,X.s₀.heap.get? b≠none\/H b≠none->∃o,s.heap.get? b=some o:=λb hb=>by
 rcases hb with hb | hb
 .cases q:X.s₀.heap.get? b with
  | none=>exact Qg q hb
  | some o=>exact I.base.there b o q (by rw[hex];simp)
 .cases q:H b with
  | none=>exact Qg q hb
  | some o=>exact cY.there I.hok q
theorem cT.note {Qq11:Model}{Ex:Ti}{e:Wb}{env:Env}{Q:Unit->Wc->Prop}{L:Addr}(h:cT X pins Y E e s')(hex:X.ex=[])(hst:X.stack=X.env::X.outer)(hf:X.env.frame=some L)(hen:env.frame=X.env.frame)
  (q:∀s'',cT X pins Y E e s''->Q () s''):We Qq11 X.A (W8 e env) Q Ex s':=by
 obtain⟨a,T,cls,fl,H',rfl,I,ex,hp,hE⟩:=h;rw[zny hen];have hfr:X.A.frames=some (X.env::X.outer):=by rw[I.ok.frames,hst]
 have hl:=I.stack;rw[hst]at hl;refine zwX hfr hl hf ex (cT.old I hex) λh' T' lB w x z=>q _ ⟨a,T',cls,lB,H',rfl,G8 I (by rw[hst];exact x) ex hp,z,λp hp'=>⟨(hp p hp').1,λy=>?_⟩,hE⟩;rcases w with w | w
 .exact(hp p hp').2 (y.trans w)
 .obtain⟨e,_⟩:=I.pin p hp';rw[y,w]at e;cases e
theorem cT.flight {A:Wl}{f:Option Addr}(h:cT X pins Y E e s')(q:∀s'',cT X pins Y E e s''->Q () s''):We Qq11 A (setFlight e f) Q Ex s':=by
 obtain⟨a,T,cls,fl,H',rfl,I,ex,hp,hE⟩:=h;exact O3 (l:=X.stack) ex (ex.ou I.stack).2 λh' lB x z=>q _ ⟨a,T,cls,lB,H',rfl,G8 I x ex hp,z,hp,hE⟩
end
abbrev uL:Tq:=[.type "ValueError",.type "Exception",.type "BaseException",.type "object"]
def o7 (K:Xa)(C:Addr)(bm:Tq):Prop:=∀h:Heap,K.In h->∃N nm q bs hdct sn sub ab col dd k0 k1 k2 k3 k5 mN,
 h.get? C=some (excClassObj nm q C N bs bm hdct sn sub ab col dd k0 k1 k2 k3 k5 "ValueError.__new__")/\h.Ns N mN/\mN "__init__" = none/\OwnTail h uL bm
def mroIn (K:Xa)(C:Addr)(bm:Tq):Bool:=match K.lookup C with
 | some ⟨_,_,.cls cd,_⟩=>cd.mro == .ref C::bm
 | _=>false
theorem zuS {K:Xa}(q:PySem.W.excIn K C uL "ValueError.__new__" = true) (q2:mroIn K C bm=true):o7 K C bm:=λh X=>by
 unfold PySem.W.excIn at q;unfold mroIn at q2;split at q
 .rename_i dd cd sl ho
  rw[ho]at q2;have q2':cd.mro=.ref C::bm:=beq_iff_eq.mp q2;split at q
  .rename_i C' bm' k0 k1 k2 k3 n k5 hm hs
   simp only[Yu,beq_iff_eq,Bool.not_eq_true']at q;obtain⟨⟨⟨⟨⟨rfl,rfl⟩,hdel⟩,ht⟩,hok⟩,hni⟩:=q;rw[hm]at q2';cases q2';obtain⟨nm,bs,mro,ns,qn,hd,sn,sub,ab,col,del⟩:=cd;dsimp only at hm hdel hok hni;subst hm hdel;have hsl:sl = #[k0,k1,k2,k3,some (.builtin "ValueError.__new__"),k5]:=by
    cases sl;simp only at hs;rw[hs]
   subst hsl;exact⟨ns,nm,qn,bs,hd,sn,sub,ab,col,dd,k0,k1,k2,k3,k5,_,X _ _ ho,.of_isNs (PySem.W.isNs_of_in X hok),PySem.W.nsMap_none_of_in X hok hni,PySem.W.tail_of_in X ht⟩
  .cases q
 .cases q
section
variable {X:Cx}{pins:Tg}{Y:St}{H H':Hp}{s s':Wc}{a T:Addr}{cls fl:Wb}{E E':XK}
abbrev Ca (X:Cx)(a:Addr):Cx:={ X with A:=X.A.mark (some (.ref a)),calm:=false,xe:=λ_ _=>False }
theorem O6 (I:Inv X pins Y H s)(a:Addr):Inv (Ca X a) pins Y H s:=
 ⟨⟨I.ok.mod,I.ok.kind,I.ok.glob,I.ok.blt,I.ok.above,I.ok.inj,I.ok.has,I.ok.cab,(λz=>nomatch z),I.ok.frames,I.ok.rO,I.ok.exf,I.ok.bs,I.ok.pZ,I.ok.jR,I.ok.jT,I.ok.eG,I.ok.rP⟩,I.os,I.bare,I.base,I.loc,I.cell,I.free,I.bY,I.pin,I.hok,I.len⟩
theorem zxa (I:Inv (Ca X a) pins Y H s)(ok:X.Ok):Inv X pins Y H s:=⟨ok,I.os,I.bare,I.base,I.loc,I.cell,I.free,I.bY,I.pin,I.hok,I.len⟩
end
section
variable {Qq11:Model}{A:Wl}{E:Ti}
theorem zkS {nm q nm' q':Str}{C D N N':Addr}{bs bm bs' bm':Tq}{hdct hdct':Bool}{sn sn':Tn}{sub o6:Tq}{ab ab':Bool}{col col':Option Bool}{dd oH:Option Addr}{k0 k1 k2 k3 k5 j0 j1 j2 j3 j5:Tv}{newId newId':String}
  {h:Heap} {g:Array GenState} {d:Drawn} {t:Nat} {os:OsState} {e:Addr} {oe:Obj} {Q:Bool->Wc->Prop}
  (hC:h.get? C=some (excClassObj nm q C N bs bm hdct sn sub ab col dd k0 k1 k2 k3 k5 newId)) (hD:h.get? D=some (excClassObj nm' q' D N' bs' bm' hdct' sn' o6 ab' col' oH j0 j1 j2 j3 j5 newId')) (he:h.get? e=some oe) (hcls:oe.cls=.ref C)
  (hbase:bm'.contains (.type "BaseException")=true) (hin:(Qm C::bm).contains (.ref D)=true) (hq:Q true ⟨h,g,d,t,os⟩):We Qq11 A (excMatches (.ref e) (.ref D)) Q E ⟨h,g,d,t,os⟩:=by
 have hcB:(Qm D::bm').contains (.type "BaseException")=true:=by rw[List.contains_cons,hbase,Bool.or_true]
 have f:=tc_notTuple;unfold excMatches
 repeat (first | (with_reducible refine wpAny_loadPart_at he ?_;rw[hcls]) | with_reducible refine wpAny_loadPart_at hD ?_ | (with_reducible refine wpAny_isSubtype_exc hD ?_;rw[hcB]) | (with_reducible refine wpAny_isSubtype_exc hC ?_;rw[hin]) | wp_step)
 exact hq
end
section
variable {X:Cx}{k:Nat}{f:Addr}{fd:Wk}{ps:Tn}{sp:Sp}{x:Str}{p pos:Pos}{e:Expr}{es:List Expr}{t:TA}
theorem zxb {pins:Tg}{Y:St}{H:Hp}{s:Wc}{Q:VK}{E:XK}(F:aA X.prog X.w X.K X.mg X.base (jA X.prog X.w) k f fd ps sp)(hex:X.ex=[])(hr:bx k X.A)(hg:Gl X x)(hm:X.mg x=some (.ref f))(hk:YM X.K (.ref f)=true)(hb:Binds X.K fd ps [])
  (ha:PA X.pN (e::es) t) (I:Inv X pins Y H s) (h:t Y H λvs H1=>sp vs H1 Q E) (hdb:fD x) (he:cQ X e es) (hpl:cO X pos es) :
  We (Wh X.prog X.w) X.A (Ww (.Call (.Name x p) (e::es) [] pos) X.env) (EP X pins Y Q) (cT X pins Y E) s:=by
 refine Wv (xr I hg hm ?_ hdb);refine PySem.W.callWith_K (h₀:=X.base) I.ok.mod.tW hk (WC (ha pos pins s Y H _ (I.wish _) h) (λus s1 ⟨vs,H1,I1',r,q⟩=>?_) λ_ _ z=>z.elim) he hpl;have I1:Inv X pins Y H1 s1:=I1'.nF;refine⟨I1.jh,?_⟩;have r2:Vals (vs++[]) (us++[]):=r.append .nil;rw[XG,XG]at r2;have hl:(us++[]).length=ps.length:=by rw[XG,<- r2.length];exact F.len _ _ _ _ q
 have hbs:=hb s1 us I1.jh hl;rw[XG]at hbs;refine wpAny_call (WO (F.run X.A X.stack s1 H1 ⟨us,[]⟩ us vs Q E hr I1.env0 hbs r2 q) λr s' hq=>?_);cases r with
 | error e=>exact cT.of I1 hex hq
 | ok fl=>
  cases fl with
  | ret u=>exact I1.after hq
  | next=>exact Qz hq
  | brk=>exact Qz hq
  | cont=>exact Qz hq
end
section
variable {X:Cx}{E:XK}{e:Wb}{s':Wc}{L:Addr}
def dg (X:Cx)(E:XK)(e:Wb)(s':Wc):Prop:=(∃pins Y,cT X pins Y E e s')\/∃(s0:Wc)(pins:Tg)(Y:St)(H':Hp)(a:Addr)(C:Wb)(args:Tq)(h':Heap),e=.ref a/\s'={ s0 with heap:=h' }/\Inv X pins Y H' s0/\Heap.MadeExcOf s0.heap h' a C args/\E C none H'
theorem dg.note {Qq11:Model}{Ex:Ti}{Q:Unit->Wc->Prop}(h:dg X E e s')(hex:X.ex=[])(hst:X.stack=X.env::X.outer)(hf:X.env.frame=some L)
  (q:∀s'' pins Y,cT X pins Y E e s''->Q () s''):We Qq11 X.A (W8 e X.env) Q Ex s':=by
 rcases h with ⟨pins,Y,h⟩ | ⟨s0,pins,Y,H',a,C,args,h',rfl,rfl,I,m,hE⟩
 .exact cT.note h hex hst hf rfl λs'' h=>q s'' pins Y h
 .obtain⟨t,ht,_,htt⟩:=m.there;have I1:Inv X pins Y H' { s0 with heap:=h' }:=I.call' (ch:=[]) rfl (Un.kept m.keeps) (I.hok.kept m.keeps) I.bare (λb z=>Qg z (by simp));have he0:X.s₀.heap.get? a=none:=by
   cases q:X.s₀.heap.get? a with
   | none=>rfl
   | some o=>obtain⟨o',e'⟩:=I.base.there a o q (by rw[hex];simp);rw[m.new]at e';cases e'
  have hHe:H' a=none:=by
   cases q:H' a with
   | none=>rfl
   | some o=>obtain⟨o',e'⟩:=cY.there I.hok q;rw[m.new]at e';cases e'
  have hfr:X.A.frames=some (X.env::X.outer):=by rw[I.ok.frames,hst]
  have hl:=I1.stack;rw[hst]at hl;refine zwY (h0:=X.s₀.heap) (H:=H') hfr hl hf he0 hHe ht rfl rfl rfl (cT.old I1 hex) λh2 T' lB wT x z=>q _ pins Y ?_;have pe:∀p∈X.pn++pins,p.1≠a:=λp hp y=>by
   obtain⟨q,_⟩:=I.pin p hp;rw[y,m.new]at q;cases q
  refine⟨a,T',C,lB,H',rfl,O5 (T:=a) (s:={ s0 with heap:=h' }) I1 (by rw[hst];exact x a) ⟨he0,hHe,_,_,ht,rfl⟩ ⟨he0,hHe,_,_,ht,rfl⟩ (λp hp=>⟨pe p hp,pe p hp⟩),z,λp hp=>⟨pe p hp,λy=>?_⟩,hE⟩;obtain⟨q,_⟩:=I1.pin p hp;rw[y]at q;have wT':h'.get? T'=none:=wT;rw[show({ s0 with heap:=h' }:Wc).heap.get? T'=h'.get? T' from rfl,wT']at q;cases q
theorem dg.passes (hex:X.ex=[])(hst:X.stack=X.env::X.outer)(hf:X.env.frame=some L):W3 (Wh X.prog X.w) X.A X.env (dg X E):=λe s' h=>by
 refine dg.note h hex hst hf λs'' pins Y h=>?_;obtain⟨a,T,cls,fl,H',rfl,I,ex,hp,hE⟩:=h;have ex':=ex;obtain⟨xa,kj,xT,nW,hTa,oe,vs,oT,ts,a0,hge,hc,hd,h00,h1,lR,hdT,h3⟩:=ex';refine Wa (Wp hge hd h1 ?_);rw[Qe (by simp)];exact cT.flight ⟨a,T,cls,fl,H',rfl,I,ex,hp,hE⟩ λs2 h2=>.inl ⟨pins,Y,h2⟩
end
section
variable {P:Wg}{w:Wj}{K:Xa}{mg:Tj}{base:Heap}{N:Tn}{qual:Str}{scope:WR}{f:Addr}{cd:Wb}{A:Wl}{outer:List Env}{s s':Wc}{H:Hp}{E:XK}
theorem dg.leave (h:dg (fK (jA P w) P w K mg base N qual scope f cd A outer s H E) E e s'):(fK (jA P w) P w K mg base N qual scope f cd A outer s H E).xe e s':=by
 show We _ _ (leaving _ e) _ _ s';unfold leaving;refine Wa (dg.note h rfl rfl rfl λs1 pins Y h1=>cT.flight h1 λs2 h2=>?_);obtain⟨a,T,cls,fl,H',rfl,I,ex,hp,hE⟩:=h2;exact⟨a,T,cls,fl,H',rfl,I.os,I.bare,I.base,I.hok,ex,hE⟩
end
section
variable {X:Cx}{E:XK}
theorem dg.pass (hex:X.ex=[]):qp (jA X.prog X.w) (X.wish (dg X E)) E:=λpins Y H' s1 e s2 I h=>.inl ⟨pins,Y,cT.of I.nF hex h⟩
theorem zpH {x:Str}{C:Addr}{bm:Tq}{e0:Expr}{te:TE}{np cpos pos:Pos}(he:PE (X.wish (dg X E)) e0 te)(hg:Gl X x)(hm:X.mg x=some (.ref C))(hx:o7 X.K C bm)(hh:X.calm=true)
  (hd:fD x:=by decide) (hst:Wo [e0] X.env=[(false,Ww e0 X.env)]:=by rfl) :
  PS (X.wish (dg X E)) (.Raise (some (.Call (.Name x np) [e0] [] cpos)) none pos) (λD Y H=>te Y H λv H'=>E (.ref C) none H'):=by
 intro pins s1 Y H1 D I h;obtain⟨N',nm,q,bs,hdct,sn,sub,ab,col,dd,k0,k1,k2,k3,k5,mN,hC,hN,hni,T⟩:=hx X.base I.ok.mod.tW;refine wpAny_Raise_call_subT (C:=C) (nm:=nm) (q:=q) (N:=N') (bs:=bs) (bm:=bm) (hdct:=hdct) (sn:=sn) (sub:=sub) (ab:=ab) (col:=col) (dd:=dd) (k0:=k0) (k1:=k1) (k2:=k2) (k3:=k3) (k5:=k5) (mN:=mN) PySem.F.excBase_ValueError (T.hasType (by decide)) (I.ok.hd hh)
  (by show(WK cpos (Wo [e0] X.env)).any (·.1)=false;rw[hst];rfl) hni (xr I hg hm ?_ hd)
 refine⟨rfl,?_⟩;show We _ _ (evalArgs (.ref C) true (WK cpos (Wo [e0] X.env)) []) _ _ _;rw[hst];refine QF (Qu (aQ (he pins s1 Y H1 _ I h) λu s2 ⟨v,H2,I2,r,hE⟩=>QC ?_));exact⟨rfl,(by decide:1<=Wf),I2.bk _ _ hC,hN.keeps I2.bk,T.keeps I2.bk,λh' e m=>.inr ⟨s2,pins,Y,H2,e,.ref C,_,h',rfl,rfl,I2.nF,m,hE⟩⟩
end
def wg (E:XK)(U:aC)(Y:St)(Fz:FZ)(H:Hp):Addr->Prop:=λC=>∀ao H',Step U Y Fz H ao H'->E (.ref C) none H'
theorem zq {E:XK}{U U':aC}{Y':St}{Fz ao:FZ}{H':Hp}(s:Step U Y Fz H ao H')(oi:bh U Y H U' Y'):∀C,wg E U Y Fz H C->wg E U' Y' ao H' C:=λC h F2 H2 s2=>h F2 H2 (s.trans oi s2)
abbrev uM:=(Addr->Prop)->dU
abbrev uN:=(Addr->Prop)->aL
def Cd (K:Xa)(E:XK)(t:uM):TS:=λD Y H=>∃U Fz,Rel K Fz U Y H/\t (wg E U Y Fz H) U (jJ K D U Y Fz H)
structure tD (X:Cx)(E:XK)(st:Wn)(t:uM):Prop where
 mono:∀Z Z' U O O',(∀c,Z c->Z' c)->O.le O'->t Z U O->t Z' U O'
 run:PS X st (Cd X.K E t)
structure jB (X:Cx)(E:XK)(st:List Wn)(t:uM):Prop where
 mono:∀Z Z' U O O',(∀c,Z c->Z' c)->O.le O'->t Z U O->t Z' U O'
 run:dH X st (Cd X.K E t)
def O7 (K:Xa)(E:XK)(t:uN):TE:=λY H Q=>∃U Fz,Rel K Fz U Y H/\t (wg E U Y Fz H) U λd k=>∀v ao H',Post K U Y Fz H ao H' d k v->Q v H'
structure qT (X:Cx)(E:XK)(e:Expr)(t:uN):Prop where
 mono:∀Z Z' U Q Q',(∀c,Z c->Z' c)->(∀d k,Q d k->Q' d k)->t Z U Q->t Z' U Q'
 run:PE X e (O7 X.K E t)
section
variable {X:Cx}{E:XK}{st:Wn}{rest:List Wn}{t:dU}{tx ux:uM}{e:Expr}{te:aL}{pos:Pos}
theorem G9 (h:jK X st t):tD X E st (λ_=>t):=⟨λ_ _ U O O' _ m q=>h.mono U O O' m q,h.run⟩
theorem O8:jB X E [] (λ_=>zcm):=⟨λ_ _ U O O' _ m q=>m.nx _ q,jL.run⟩
theorem O9 (h:tD X E st tx):jB X E [st] tx:=⟨h.mono,u6 h.run⟩
theorem uO (h1:tD X E st tx)(h2:jB X E rest ux):jB X E (st::rest) (λZ=>pSeq (tx Z) (ux Z)) where
 mono Z Z' U O O' z m h:=h1.mono Z Z' U { O with nx:=λU'=>ux Z U' O } _ z ⟨λU' q=>h2.mono Z Z' U' _ _ z m q,m.rt,m.bk,m.ct⟩ h
 run:=dH.weak (qj h1.run h2.run) λD Y H h=>by
  obtain⟨U,Fz,R,h⟩:=h;refine⟨U,Fz,R,h1.mono _ _ U { jJ X.K D U Y Fz H with nx:=λU'=>ux (wg E U Y Fz H) U' (jJ X.K D U Y Fz H) } _ (λ_ z=>z) ⟨λU' q=>?_,λ_ _ q=>q,λ_ q=>q,λ_ q=>q⟩ h⟩;intro Y' ao H' s oi R';exact⟨U',ao,R',h2.mono _ _ U' _ _ (zq s oi) (pU s oi) q⟩
theorem Qi {c:Expr}{a b:List Wn}{tc:fL}(hc:iK X c tc)(ha:jB X E a tx)(hb:jB X E b ux):tD X E (.If c a b pos) (λZ=>pIf tc (tx Z) (ux Z)) where
 mono Z Z' U O O' z m h:=hc.mono U _ _ (λd q=>by
  cases d with
  | true=>rw[Qf rfl]at q ⊢;exact ha.mono _ _ U _ _ z m q
  | false=>rw[Qe Xu]at q ⊢;exact hb.mono _ _ U _ _ z m q) h
 run:=PS.weak (Jh hc.run ha.run hb.run) λD Y H h=>by
  obtain⟨U,Fz,R,h⟩:=h;refine⟨U,Fz,R,hc.mono U _ _ (λd q ao H' x=>?_) h⟩;cases d with
  | true=>
   rw[Qf rfl]at q ⊢;exact⟨U,ao,R.ext x,ha.mono _ _ U _ _ (zq (.of x) (bh.refl U Y H)) (pU (.of x) (bh.refl U Y H)) q⟩
  | false=>
   rw[Qe Xu]at q ⊢;exact⟨U,ao,R.ext x,hb.mono _ _ U _ _ (zq (.of x) (bh.refl U Y H)) (pU (.of x) (bh.refl U Y H)) q⟩
end
section
variable {X:Cx}{E:XK}{tg iter c:Expr}{body:List Wn}{ti:iW}{g:jZ}{tb:uM}{pos:Pos}
theorem zpK (hgm:∀d U Q Q',(∀U,Q U->Q' U)->g d U Q->g d U Q')(hbm:∀Z Z' U O O',(∀c,Z c->Z' c)->eU.le O O'->tb Z U O->tb Z' U O'){K:Xa}{U:aC}{Y:St}{bJ:FZ}{H1:Hp}{D:Ends}{Qq12:It}{its:List PV}{O:eU}{Z:Addr->Prop}(R1:Rel K bJ U Y H1)(wk:Walk K bJ false Qq12 its H1)(Iv:Nat->aC->Prop)(h0:Iv 0 U)
  (hstep:∀i d U',its[i]? = some d->Iv i U'->g d U' (b8 (tb Z) { O with nx:=Iv (i+1),ct:=Iv (i+1),bk:=O.nx })) (hO:O.le (jJ K D U Y bJ H1)) (hZ:∀c,Z c->wg E U Y bJ H1 c) (hdone:∀U',Iv its.length U'->O.nx U') :
  ∃W:Nat->Nat->St->Hp->Prop,(∃m,W 0 m Y H1)/\∀i m Y H,W i m Y H->
   (Qq12.stop i H/\D.nx Y H)\/(Qq12.go i H/\∃N:St->Hp->Prop,(∀Y' H',N Y' H'->∃m',m'<m/\W (i+1) m' Y' H')/\∀x H',Qq12.rW i H x H'->vB K g x Y H' λQq5 H2=>Cd K E tb { D with nx:=N,ct:=N,bk:=D.nx } Qq5 H2):=by
 refine⟨λi m Y' H'=>m=its.length-i/\i<=its.length/\∃U' F',Rel K F' U' Y' H'/\Iv i U'/\Step U Y bJ H1 F' H'/\bh U Y H1 U' Y',
  ⟨its.length,by lia,XM _,U,bJ,R1,h0,.of ⟨Same.refl _,λ_ h=>h,λ_ h=>.inl h,R1.al⟩,bh.refl U Y H1⟩,?_⟩
 rintro i m Y' H' ⟨rfl,hle,U',F',R',hI,s',o'⟩;have kp:nM bJ H1 H':=s'.kept R1;obtain⟨oO,wstop⟩:=wk H' (.inr ⟨rfl,kp⟩) i;by_cases hlt:i<its.length
 .obtain⟨go,yl⟩:=oO its[i] (Xd hlt);refine .inr ⟨go,λQq5 H2=>∃U2 F2,Rel K F2 U2 Qq5 H2/\Iv (i+1) U2/\Step U Y bJ H1 F2 H2/\bh U Y H1 U2 Qq5,λQq5 H2 hN=>⟨its.length-(i+1),by lia,rfl,hlt,hN⟩,λxv H2 y=>?_⟩;obtain⟨sm,dn⟩:=yl xv H2 y;have x2:Ext F' H' F' H2:=⟨sm,λ_ h=>h,λ_ h=>.inl h,λb hb z=>R'.al b hb (sm.free z)⟩;refine⟨U',F',its[i],R'.ext x2,aq.mono (Keep.of (Same.refl _)) s'.sub _ _ dn,hgm _ U' _ _ (λU2 q Qq5 R2 o2=>?_) (hstep i its[i] U' (Xd hlt) hI)⟩;have so:bh U Y H1 U2 Qq5:=λb hb=>o' b (o2 b hb);have st:Step U Y bJ H1 F' H2:=s'.trans o' (.of x2);refine⟨U2,F',R2,hbm Z _ U2 { O with nx:=Iv (i+1),ct:=Iv (i+1),bk:=O.nx } _ (λc z=>zq st so c (hZ c z)) ⟨λQq1 q Qq4 F3 H3 s3 o3 R3=>?_,λd k q v F3 H3 s3 al r=>?_,λQq1 q Qq4 F3 H3 s3 o3 R3=>?_,λQq1 q Qq4 F3 H3 s3 o3 R3=>?_⟩ q⟩
  .exact⟨Qq1,F3,R3,q,st.trans so s3,bh.trans st so o3⟩
  .refine hO.rt d k q v F3 H3 (st.trans so s3) al ?_;cases k with
   | aF=>exact r
   | own j=>exact r
   | new=>
    obtain⟨a,e,nf,ow,w⟩:=r;refine⟨a,e,nf,ow,?_⟩;rcases w with w | w
    .exact so a w
    .exact(st.none w).symm
  .exact hO.nx Qq1 q Qq4 F3 H3 (st.trans so s3) (bh.trans st so o3) R3
  .exact⟨Qq1,F3,R3,q,st.trans so s3,bh.trans st so o3⟩
 .have e:i=its.length:=by lia
  subst e;exact .inl ⟨wstop (Xj _),hO.nx U' (hdone U' hI) Y' F' H' s' o' R'⟩
theorem zxd (hc:X.calm=true)(hp:W3 (Wh X.prog X.w) X.A X.env X.xe)(hi:lK X tg iter ti)(hg:sU X tg g)(hb:jB X E body tb)(hs:oh X iter:=by intro _;rfl):tD X E (.For tg iter body [] pos) (λZ=>pFor ti g (tb Z)) where
 mono Z Z' U O O' z m h:=hi.mono U _ _ (λits o ⟨e,I,h0,hs,hd⟩=>⟨e,I,h0,λi d U' hi hI=>hg.mono d U' _ _ (λU2 q=>hb.mono Z Z' U2 { O with nx:=I (i+1),ct:=I (i+1),bk:=O.nx } _ z ⟨λ_ q=>q,m.rt,m.nx,λ_ q=>q⟩ q) (hs i d U' hi hI),λU' hI=>m.nx _ (hd U' hI)⟩) h
 run:=PS.weak (u9 hp hc hi.run hg.run hb.run hs) λD Y H h=>by
  obtain⟨U,Fz,R,h⟩:=h;refine⟨U,Fz,R,hi.mono U _ _ (λits o q Qq12 bJ H1 x wk=>?_) h⟩;obtain⟨rfl,Iv,h0,hstep,hdone⟩:=q;exact zpK hg.mono hb.mono (R.ext x) wk Iv h0 hstep (pU (.of x) (bh.refl U Y H)) (zq (.of x) (bh.refl U Y H)) hdone
end
section
variable {X:Cx}{E:XK}
def zmh (C:Addr)(te:aL):uM:=λZ U O=>te U λ_ _=>Z C
theorem zsa {x:Str}{C:Addr}{bm:Tq}{e0:Expr}{te:aL}{np cpos pos:Pos}(he:aG (X.wish (dg X E)) e0 te)(hg:Gl X x)(hm:X.mg x=some (.ref C))(hx:o7 X.K C bm)(hh:X.calm=true)
  (hd:fD x:=by decide) (hst:Wo [e0] X.env=[(false,Ww e0 X.env)]:=by rfl) :
  tD (X.wish (dg X E)) E (.Raise (some (.Call (.Name x np) [e0] [] cpos)) none pos) (zmh C te) where
 mono Z Z' U O O' z m h:=he.mono U _ _ (λ_ _ q=>z _ q) h
 run:=PS.weak (zpH he.run hg hm hx hh hd hst) λD Y H h=>by
  obtain⟨U,Fz,R,h⟩:=h;exact⟨U,Fz,R,he.mono U _ _ (λd k q v F' H' p=>q F' H' (.of p.ext)) h⟩
end
abbrev nY:=List PV->(PV->Kd->Prop)->(Addr->Prop)->Prop
def wj (F:nY):Prop:=∀ds Q Q' Z Z',(∀d k,Q d k->Q' d k)->(∀c,Z c->Z' c)->F ds Q Z->F ds Q' Z'
def gD (K:Xa)(F:nY):Sp:=λvs H Q E=>∃Fz ds,(∀b,Fz b->H b≠none)/\aj K Fz H ds vs/\F ds (λd k=>∀v ao H',Post K [] [] Fz H ao H' d k v->Q v H') (λC=>∀H',Same H H'->E (.ref C) none H')
section
variable {P:Wg}{w:Wj}{K:Xa}{mg:Tj}{base:Heap}
theorem dH.zye {X:Cx}{E:Ti}{st:List Wn}{t:TS}(h:dH (X.wish E) st t)(m:∀e s',E e s'->X.xe e s'):dH X st t:=λpins s Y H D I hw=>
 WC (h pins s Y H D (I.wish _) hw) (λ_ _ q=>q.nF) m
theorem Hf {x qual:Str}{st:Wn}{f:Addr}{fd:Wk}{N ps:Tn}{k:Nat}{F:nY}(Fn:cj K x qual st f fd)(S:cL N ps (bf st))(len:∀ds Q Z,F ds Q Z->ds.length=ps.length)
  (hbody:∀(cdv:Wb) (A:Wl) (outer:List Env) (s:Wc) (H:Hp) (E:XK),bx k (A.deeper (Vc qual (bf st) s.heap.objs.size f cdv))->
   ∃t,jB ((fK (jA P w) P w K mg base N qual (bf st) f cdv A outer s H E).wish (dg (fK (jA P w) P w K mg base N qual (bf st) f cdv A outer s H E) E)) E (ji st) t/\∀ds Q Z,F ds Q Z->t Z (zaA N ds) (zbi Q)):aA P w K mg base (jA P w) (k+1) f fd ps (gD K F):=by
 obtain⟨oc,od,kV,doc,pm,an,cdv,ct,osl,rfl,lk,hcd⟩:=Fn.ex;refine xY lk hcd S (λvs H Q E ⟨Fz,ds,_,hd,q⟩=>by rw[<- hd.length];exact len _ _ _ q) λA outer s H vs Q E hr h=>?_;obtain⟨t,ht,hq⟩:=hbody cdv A outer s H E hr;obtain⟨Fz,ds,al,hd,h⟩:=h;obtain⟨R,no⟩:=FP (N:=N) al hd;refine⟨_,dH.zye ht.run (λe s' h=>dg.leave h),zaA N ds,Fz,R,ht.mono _ _ _ (zbi _) _ (λC q F' H' s'=>q H' λb o e=>s'.keep b o e (no _ b)) ⟨λU' q Y' F' H' s' o' R'=>?_,λd k q v F' H' s' al' r=>?_,λ_ z=>z.elim,λ_ z=>z.elim⟩ (hq ds _ _ h)⟩
 .exact q .non F' H' ⟨⟨λb o e=>s'.keep b o e (no _ b),s'.sub,λb hb=>(s'.new b hb).elim .inl (λz=>z.elim .inr (λz=>(no _ b z).elim)),R'.al⟩,by show aq _ _ _ _ _;simp only[aq]⟩
 .refine q v F' H' ⟨⟨λb o e=>s'.keep b o e (no _ b),s'.sub,λb hb=>(s'.new b hb).elim .inl (λz=>z.elim .inr (λz=>(no _ b z).elim)),al'⟩,?_⟩;cases k with
  | aF=>exact r
  | own i=>exact r.elim
  | new=>
   obtain⟨a,e,nf,o,w⟩:=r;exact⟨a,e,w.resolve_left (no _ a),nf,o⟩
end
section
variable {X:Cx}{E:XK}{k:Nat}{f:Addr}{fd:Wk}{ps:Tn}{F:nY}{x:Str}{p pos:Pos}{e:Expr}{es:List Expr}{t:cV}
def zmi (F:nY)(t:cV):uN:=λZ U Q=>t U λops=>noOwn ops=true/\F (ops.map (·.1)) Q Z
theorem zuU (G:aA X.prog X.w X.K X.mg X.base (jA X.prog X.w) k f fd ps (gD X.K F))(m:wj F)(hr:bx k X.A)(hg:Gl X x)(hm:X.mg x=some (.ref f))(hk:YM X.K (.ref f)=true)(hb:Binds X.K fd ps [])(hp:qp (jA X.prog X.w) X E)(ha:eO X (e::es) t)
  (hd:fD x:=by decide) (he:cQ X e es:=by rfl) (hpl:cO X pos es:=by rfl) :
  qT X E (.Call (.Name x p) (e::es) [] pos) (zmi F t) where
 mono Z Z' U Q Q' z mm h:=ha.mono U _ _ (λops h=>⟨h.1,m _ _ _ _ _ mm z h.2⟩) h
 run:=PE.weak (Jw G hr hg hm hk hb .nil hp ha.run hd he hpl) λY H Q h=>by
  obtain⟨U,Fz,R,h⟩:=h;refine⟨U,Fz,R,ha.mono U _ _ (λops h vs ao H' x o=>?_) h⟩;obtain⟨hn,h⟩:=h;show gD X.K F (vs++[]) H' Q E;rw[XG];obtain⟨F2,x2,s2,h2⟩:=o.frozen x hn;refine⟨F2,ops.map (·.1),x2.al,h2,m _ _ _ _ _ (λd k q v Fz3 H3 p3=>q v Fz3 H3 (p3.behind x2)) (λC q H3 sm=>q F2 H3 (.of ⟨x2.same.trans sm,x2.sub,x2.new,λb hb z=>x2.al b hb (sm.free z)⟩)) h⟩
end
section
variable {X:Cx}{E:XK}{e:Expr}{ee:uN}{pos:Pos}
theorem zpL (he:∀Z Z' U Q Q',(∀c,Z c->Z' c)->(∀d k,Q d k->Q' d k)->ee Z U Q->ee Z' U Q'){D:Ends}(h:Cd X.K E (λZ=>pSet i (ee Z)) D Y H):oA (O7 X.K E ee) (xJ i) D Y H:=by
 obtain⟨U,Fz,R,h⟩:=h;refine⟨U,Fz,R,he _ _ U _ _ (λ_ z=>z) (λd k q v ao H' p=>?_) h⟩;show D.nx (Y.set i (some v)) H';have R':=R.ext p.ext;cases k with
 | aF=>exact(show(jJ X.K D U Y Fz H).nx (U.set i (some (d,false))) from q) _ ao H' (.of p.ext) (λb hb=>.inl (oK b hb)) (R'.set p.dZ)
 | own j=>exact q.elim
 | new=>
  obtain⟨a,e,hn,nf,o⟩:=p.dZ;subst e;have hno:¬ cP U Y a:=λ⟨j,e,h1,h2⟩=>by
   obtain⟨b,q1,_,q2⟩:=R.own j e h1;rw[h2]at q1;cases q1;obtain⟨o',q3,_⟩:=q2.at;rw[hn]at q3;cases q3
  refine(show(jJ X.K D U Y Fz H).nx (U.set i (some (d,true))) from q) _ ao H' (.of p.ext) (λb hb=>?_) (R'.Fw nf o hno);rcases Fy b hb with rfl | hb
  .exact .inr hn
  .exact .inl hb
theorem zpM (he:∀Z Z' U Q Q',(∀c,Z c->Z' c)->(∀d k,Q d k->Q' d k)->ee Z U Q->ee Z' U Q'):∀Z Z' U O O',(∀c,Z c->Z' c)->eU.le O O'->pSet i (ee Z) U O->pSet i (ee Z') U O':=λZ Z' U O O' z m h=>he Z Z' U _ _ z (λd k q=>by
 cases k with
 | aF=>exact m.nx _ q
 | new=>exact m.nx _ q
 | own j=>exact q) h
theorem zxe {pos':Pos}(hN:X.N.Nodup)(hi:X.N[i]? = some x)(hx:Loc X.env.scope x)(he:qT X E e ee)(hs:Wx e (some (.Name x pos')) pos.line X.env=pure false:=by rfl)(hf:lE X x:=by first | exact .inl rfl | exact .inr rfl | assumption) :
  tD X E (.Assign [.Name x pos'] e pos) (λZ=>pSet i (ee Z)):=
 ⟨zpM he.mono,PS.weak (rR hN hi hx he.run hs hf) λ_ _ _ h=>zpL he.mono h⟩
end
abbrev TXI:=(Addr->Prop)->iW
theorem zuV {X:Cx}{a b:Expr}{ta tb:aL}(hu:X.A.units+16<WG)(ha:aG X a ta)(hb:aG X b tb)(hm:Wr .Lt b=false:=by first | exact nG _ | rfl):iK X (.Compare a [.Lt] [b] pos) (tBl (t2 pLtT ta tb)):=qw (zvS (by lia)) zwW ha hb hm
abbrev wu:=PV->List PV->(PV->Prop)->Prop
def Hg (F:wu):Prop:=∀d ds Q Q',(∀d,Q d->Q' d)->F d ds Q->F d ds Q'
def zu (K:Xa)(F:wu):Sp:=λvs H Q _=>∃Fz a d0 x y v0 v1,vs=[v0,v1,.ref a]/\(∀b,Fz b->H b≠none)/\¬ Fz a/\Own K Fz H d0 a/\aj K Fz H [x,y] [v0,v1]/\
 F d0 [x,y] λd=>∀v ao H',Ext Fz H ao H'->aq K ao H' d v->Q v H'
def zdi (C:Addr)(m:Str)(F:wu)(i:Nat)(to:aL)(t:cV):aL:=λU Q=>to U λd _=>∃ks ds,d=.obj C ks ds/\m∉ks/\t U λops=>∃y k1 d0,ops=[(y,k1),(d0,.own i)]/\noOwn [(y,k1)]=true/\
 F d0 [d,y] λd'=>Q d' .aF
section
variable {X:Cx}{o e:Expr}{es:List Expr}{to:aL}{t:cV}{C:Addr}{m:Str}{pos apos:Pos}
theorem zsb (i:Nat){pl:Sem Bool}{k:Nat}{fa:Addr}{fd:Wk}{ps:Tn}{F:wu}(c:kZ X.K C)(hm:Meth X.K C m fa)(G:aA X.prog X.w X.K X.mg X.base aN k fa fd ps (zu X.K F))(mf:Hg F)(hr:bx k X.A)(hb:Binds X.K fd ps [])(ho:aG X o to)(ha:eO X (e::es) t)
  (hst:cQ X e es:=by rfl) (hpl:cO X pos es:=by rfl)
  (ht:Ww (.Call (.Attribute o m apos) (e::es) [] pos) X.env=(do
   let ov <- Ww o X.env
   standAt apos.atName
   let (f,first) <- WN [ov] (Vb ov m pl)
   callWith pos f first (WK pos (Wo (e::es) X.env)) (WT pos (WE [] X.env))):=by rfl) :
  aG X (.Call (.Attribute o m apos) (e::es) [] pos) (zdi C m F i to t) where
 mono U Q Q' mm h:=ho.mono U _ _ (λd k ⟨ks,ds,e1,e2,h⟩=>⟨ks,ds,e1,e2,ha.mono U _ _ (λops ⟨y,k1,d0,e3,e4,h⟩=>⟨y,k1,d0,e3,e4,mf _ _ _ _ (λd q=>mm _ _ q) h⟩) h⟩) h
 run:=PE.weak (xX (pl:=pl) ho.run c hm G hr hb .nil vm ha.run hst hpl ht) λY H Q h=>by
  obtain⟨U,Fz,R,h⟩:=h;refine⟨U,Fz,R,ho.mono U _ _ (λd kd q v F1 H1 p1=>?_) h⟩;obtain⟨ks,ds,rfl,hn,q⟩:=q;obtain⟨a,dx,xs,rfl,hf,h1,h2,h3⟩:=yP (p1.root R);have iZ:aq X.K F1 H1 (.obj C ks ds) (.ref a):=p1.root R;have R1:=R.ext p1.ext;refine⟨a,dx,_,rfl,h1,vM (M:=V) (J:=V) hn,U,F1,R1,ha.mono U _ _ (λops h vs F2 H2 x o=>?_) q⟩;show zu X.K F (.ref a::(vs++[])) H2 Q E0;rw[XG];obtain⟨y,k1,d0,rfl,no,h⟩:=h;cases o with | cons o1 o=>
  cases o with | cons o2 o=>
  cases o
  rename_i v1 v2
  obtain⟨F3,x3,s3,h3'⟩:=dD.frozen x no (.cons o1 .nil);have R3:=R1.ext x3;obtain⟨e1,e2⟩:=o2;obtain⟨b,hs',jw,ow'⟩:=R3.own i d0 e1;rw[e2]at hs';cases hs';refine⟨F3,b,d0,.obj C ks ds,y,.ref a,v1,rfl,x3.al,jw,ow',aj.cons (aq.mono (.of x3.same) (λb hb=>x3.sub b hb) _ _ iZ) h3',mf _ _ _ _ (λd q v F4 H4 x4 dv=>?_) h⟩;exact q v F4 H4 ⟨(p1.ext.trans x3).trans x4,dv⟩
end
def zcu (N:Tn)(d0 x y:PV):aC:=(zaA N [x,y,d0]).set 2 (some (d0,true))
section
variable {P:Wg}{w:Wj}{K:Xa}{mg:Tj}{base:Heap}
theorem Ce {d0 x y d:PV}{b:Bool}(e:(zcu N d0 x y)[i]? = some (some (d,b))):(i=2/\d=d0/\b=true)\/(b=false/\((i=0/\d=x)\/(i=1/\d=y))):=by
 unfold zcu at e;by_cases h:i=2
 .subst h;rw[Xm (by simp[zaA])]at e;cases e;exact .inl ⟨rfl,rfl,rfl⟩
 .rw[Xk (λe=>h e.symm)]at e;unfold zaA at e
  match i,e with
  | 0,e=>cases e;exact .inr ⟨rfl,.inl ⟨rfl,rfl⟩⟩
  | 1,e=>cases e;exact .inr ⟨rfl,.inr ⟨rfl,rfl⟩⟩
  | 2,e=>exact Qg rfl h
  | i+3,e=>
   rw[XZ (by simp),YO]at e;split at e<;>cases e
theorem zuX {x qual:Str}{st:Wn}{f:Addr}{fd:Wk}{N ps:Tn}{k:Nat}{F:wu}{e:Expr}{pos:Pos}(Fn:cj K x qual st f fd)(S:cL N ps (bf st))(len:ps.length=3)(mF:Hg F)(hb:ji st=[.Return (some e) pos])
  (hbody:∀(cdv:Wb) (A:Wl) (outer:List Env) (s:Wc) (H:Hp) (E:XK),bx k (A.deeper (Vc qual (bf st) s.heap.objs.size f cdv))->
   ∃te,aG (fK aN P w K mg base N qual (bf st) f cdv A outer s H E).pN e te/\∀d0 x y Q,F d0 [x,y] Q->te (zcu N d0 x y) λd k=>k=.aF/\Q d) :
  aA P w K mg base aN (k+1) f fd ps (zu K F):=by
 refine Fn.ok S (λvs H Q E ⟨Fz,a,d0,x,y,v0,v1,e,_,_,_,hd,q⟩=>by rw[e,len];rfl) (λcdv A outer s H vs Q E hr h=>?_);obtain⟨t,ht,hq⟩:=hbody cdv A outer s H E hr;obtain⟨Fz,a,d0,x,y,v0,v1,rfl,al,nf,ow,hd,h⟩:=h;simp only[aj]at hd;obtain⟨_,_,e0,dx,_,_,e1,dy,e4⟩:=hd;cases e0;cases e1;have s2:(start N [v0,v1,V.ref a])[2]? = some (some (.ref a)):=by simp[L2.start]
 have R:Rel K Fz (zcu N d0 x y) (start N [v0,v1,V.ref a]) H:=by
  refine⟨al,by simp[zcu,zaA,L2.start],λi d e=>?_,λi d e=>?_,λi j d e b h1 h2 h3 h4=>?_⟩
  .rcases Ce e with ⟨_,_,hb⟩ | ⟨_,⟨rfl,rfl⟩ | ⟨rfl,rfl⟩⟩
   .cases hb
   .exact⟨v0,by simp[L2.start],dx⟩
   .exact⟨v1,by simp[L2.start],dy⟩
  .rcases Ce e with ⟨rfl,rfl,_⟩ | ⟨hb,_⟩
   .exact⟨a,s2,nf,ow⟩
   .cases hb
  .rcases Ce h1 with ⟨rfl,rfl,_⟩ | ⟨hb,_⟩
   .rcases Ce h2 with ⟨rfl,rfl,_⟩ | ⟨hb,_⟩
    .rfl
    .cases hb
   .cases hb
 refine⟨xG (lift K t),by rw[hb];exact u6 (Jg ht.run),zcu N d0 x y,Fz,R,ht.mono _ _ _ (λd k q v F' H' p=>?_) (hq _ _ _ _ h)⟩;obtain⟨rfl,q⟩:=q;exact q v F' H' p.ext p.dZ
end
end PL
namespace K01
open PySem PySem.Spec PyProof.Rows
variable {a b:Str}
def o8 (a b:Str):Prop:=a.cps.toList<=b.cps.toList
theorem zpN {c:Str}(h1:o8 a b)(h2:o8 b c):o8 a c:=List.le_trans h1 h2
theorem zke (h1:o8 a b)(h2:o8 b a):a=b:=by
 have e:a.cps.toList=b.cps.toList:=List.le_antisymm h1 h2;cases a;cases b;simp only[Str.mk.injEq];exact Array.toList_inj.mp e
theorem zxf (h:ltCps b.cps.toList a.cps.toList=false):o8 a b:=by
 rw[ltCps_eq]at h;exact List.not_lt.mp (of_decide_eq_false h)
theorem Ra:∀(p:Str)(l:Tn),risingS p l=true->(p::l).Pairwise o8
 | p,[],_=>Ob _ _
 | p,x::r,h=>by
  have h':(!ltCps x.cps.toList p.cps.toList&&risingS x r)=true:=h;rw[Yu]at h';have h1:o8 p x:=zxf (by simpa using h'.1);have ih:=Ra x r h'.2;refine List.pairwise_cons.mpr ⟨λy hy=>?_,ih⟩;rcases Xn.mp hy with e | hy
  .rw[e];exact h1
  .exact zpN h1 ((List.pairwise_cons.mp ih).1 y hy)
theorem Rc:∀(l:Tn),sortedS l=true->l.Pairwise o8
 | [],_=>List.Pairwise.nil
 | x::r,h=>Ra x r h
theorem Rf:∀ {xs ys:Tn},xs.Pairwise o8->ys.Pairwise o8->xs.Nodup->ys.Nodup->(∀x,x∈xs↔x∈ys)->xs=ys
 | [],[],_,_,_,_,_=>rfl
 | [],y::ys,_,_,_,_,h=>Qg ((h y).mpr Xh) (by simp)
 | x::xs,[],_,_,_,_,h=>Qg ((h x).mp Xh) (by simp)
 | x::xs,y::ys,p,q,n,m,h=>by
  obtain⟨p1,p2⟩:=List.pairwise_cons.mp p;obtain⟨q1,q2⟩:=List.pairwise_cons.mp q;obtain⟨n1,n2⟩:=XO.mp n;obtain⟨m1,m2⟩:=XO.mp m;have e:x=y:=by
   rcases Xn.mp ((h x).mp Xh)with e | hx
   .exact e
   .rcases Xn.mp ((h y).mpr Xh)with e | hy
    .exact e.symm
    .exact zke (p1 y hy) (q1 x hx)
  subst e;rw[Rf p2 q2 n2 m2 λz=>?_];constructor
  .intro hz;rcases Xn.mp ((h z).mp (Xf _ hz))with e | hz'
   .subst e;exact Qg hz n1
   .exact hz'
  .intro hz;rcases Xn.mp ((h z).mpr (Xf _ hz))with e | hz'
   .subst e;exact Qg hz m1
   .exact hz'
end K01
namespace JZ3
open PySem
section
variable {prog:Wg}{w:Wj}{A:Wl}{E:Ti}{s:Wc}
abbrev jc (h:Heap)(z TI TO:Addr)(a:Addr)(b:Bool):Prop:=
 h.get? z=some { cls:=.type "zip",dict:=none,data:=.fields #[WL a,.bool b,.bool false,.ref TI,.ref TO],slots:=#[] }
def vU (h:Heap)(z TI TO i1 i2:Addr):Prop:=(Va h z TI TO .none/\∃a b,WD h TO a b)\/∃a b oa,jc h z TI TO a b/\h.get? a=some oa/\a≠z/\a≠i1/\a≠i2
end
end JZ3
namespace L2
open PySem PySem.Spec PyProof.Rows
def Cg (d:Addr)(o:Obj)(kvs:List (Key×V)):It:=
 ⟨λi H=>H d=some (.aF o (.dK kvs))/\i<kvs.length,λi H x H'=>∃p kv,kvs[i]? = some kv/\x=.ref p/\H p=none/\H'=upd H p (.tup [kV kv.1,kv.2]),λi H=>H d=some (.aF o (.dK kvs))/\kvs.length<=i⟩
theorem zeP:entryFor table "dict_itemiterator.__iter__" = some Builtin.«dict_keyiterator.__iter__»:=
 entryFor_alias (id':="dict_keyiterator.__iter__") (by kernel_rfl) rfl (by decide +kernel) (by kernel_rfl)
theorem ziM {prog:Wg}{w:Wj}{A:Wl}{E:Ti}{s:Wc}{it d:Addr}{i n ep:Nat}{ok ov:Wb}{Q:Ti}(hit:IsItemIter s.heap it d i n ep ok ov)(h:Q (.ref it) s):We (Wh prog w) A (pyIter (.ref it)) Q E s:=by
 have hT:s.TypeIs (.ref it) "dict_itemiterator":=⟨_,hit,rfl⟩;refine wpAny_pyIter_slot hT PySem.F.slot_dict_itemiterator_iter (Wt PySem.F.slot_dict_itemiterator_iter hT zeP ?_ (PySem.F.args_dict_itemiterator_iter_1 _));show We _ _ (ret (.ref it)) _ _ s;exact Wd ⟨_,rfl,"dict_itemiterator",_,hT,PySem.F.slot_dict_itemiterator_next.lookup,h⟩
theorem znA {P:Wg}{w:Wj}{K:Xa}{elts:List Expr}{x1:Nat}{pos:Pos}(d it:Addr)(o:Obj)(kvs:List (Key×V)){es:Array DictEntry}{ep:Nat}(hd:o.data=.dict es ep) :
  Turn P w K (.Tuple elts x1 pos) (Cg d o kvs) [it] it (λi h=>∃ok ov,IsItemIter h it d i kvs.length ep ok ov) where
 mem:=by simp
 obj:=λi h st b hb=>by
  have e:b=it:=by simpa using hb
  subst e;obtain⟨ok,ov,st⟩:=st;exact⟨_,st,λv z=>by cases z⟩
 keep:=λi h h' st k=>by
  obtain⟨ok,ov,st⟩:=st;exact⟨ok,ov,k it (by simp) _ st⟩
 item:=by
  intro X hP hw hK hc i pins s Y H E I hf st hg;subst hP hw hK;obtain⟨hq,hi⟩:=hg;obtain⟨ok,ov,st⟩:=st;obtain⟨hs,vs,r,hm⟩:=Gi I hq hd;have hl:kvs.length=vs.length:=KV.length r;obtain⟨u,hu,ru⟩:=zwH r (Xd hi);rw[hl]at st;have hfr:H s.heap.objs.size=none:=I.hok.fresh (Xj _);have lt:it<s.heap.objs.size:=Xw st;refine wpAny_pyNext_items_item st hm hu λkey h' hk st' ht hsz kp=>⟨.ref s.heap.objs.size,rfl,?_⟩;refine wpAny_letOwnedTupleGo_items st' λhp2 k1 ks=>?_;replace ks:XV it h' hp2:=ks;have I1:=I.laid (a:=s.heap.objs.size) (o:=.tup [kV kvs[i].1,kvs[i].2]) (h':=s.heap.push { cls:=.type "tuple",data:=.seq #[key,u] }) (t':=s.toks) (λb u e=>Xe _ e) (Xj _)
   ⟨by show 2<=Wf;decide,[key,u],.cons (zuj hk) (.cons ru .nil),mL.new _ _⟩
  have hfp:∀c∈[it],fJ X pins (upd H s.heap.objs.size (.tup [kV kvs[i].1,kvs[i].2])) c:=λc hc=>by
   obtain⟨f0,fr⟩:=hf c hc;rw[Xv]at hc;subst hc;exact⟨by rw[aY (XB lt)];exact f0,fr⟩
  have I2:=I1.Bt (h':=hp2) (t':=s.toks) (ch:=[it]) (λc o hc ec=>by
   have n1:c≠it:=λe=>hc (by simp[e]);refine(ks.2 c n1).trans ?_;rcases Heap.get?_push_cases ec with ⟨rfl,rfl⟩ | ec
   .exact ht
   .exact kp c o n1 ec) hfp
  exact⟨.ref s.heap.objs.size,_,I2,rfl,⟨_,kvs[i],Xd hi,rfl,hfr,rfl⟩,⟨key,u,by rw[hl];exact k1⟩,λc hc=>(hfp c hc).1⟩
 done:=by
  intro X hP hw hK hc i pins s Y H E I hf st hg;subst hP hw hK;obtain⟨hq,hi⟩:=hg;obtain⟨ok,ov,st⟩:=st;obtain⟨hs,vs,r,hm⟩:=Gi I hq hd;have hl:kvs.length=vs.length:=KV.length r;obtain⟨f0,f1,f2,f3,f4,f5⟩:=hf it (by simp);rw[hl]at st;exact wpAny_pyNext_items_end (I.ok.hd hc) st hm (XA (by lia)) λh' eb=>⟨rfl,I.turned (t':=s.toks) (λb o hb e=>eb b o hb e) f0 f1 f3 f4 f5⟩
 self:=λ_ _ _ _ _ st h=>by obtain⟨_,_,st⟩:=st;exact ziM st h
section
variable {X:Cx}{l:Expr}{td:TE}{apos cpos:Pos}{elts:List Expr}{x1:Nat}{tpos:Pos}
theorem zsc (ho:PE X l td)(hbase:Wu l "items" X.env (Ww l X.env)=Ww l X.env:=by rfl) (hline:(apos.endLine == cpos.line)=true:=by rfl):PI X (.Tuple elts x1 tpos) (.Call (.Attribute l "items" apos) [] [] cpos) (iD X Cg td):=by
 intro pins s Y H R I h;refine wpAny_Call_method0_late hbase hline (aQ (ho pins s Y H _ I h) λv s1 ⟨x,H1,I1,r1,q1⟩=>?_);obtain⟨d,kvs,e,q1⟩:=q1;subst e;cases r1;obtain⟨o,es,ep,H2,hd,I2,e2,q2⟩:=zwI I1 q1;obtain⟨hs,vs,r,hm⟩:=Gi I2 e2 hd;have hl:kvs.length=vs.length:=KV.length r;obtain⟨o',es',ho',hc',_⟩:=id hm;refine⟨"dict","dict.items",Oa,PySem.F.slot_dict_items,PySem.F.type_dict_items,hm.dictOf.typeIs,λa e=>by cases e;exact⟨o',ho',hc'.2.1⟩,?_⟩;refine QB rfl (PySem.evalArgs_none ?_);refine call_meetsIn PySem.F.slot_dict_items hm.dictOf.typeIs PySem.F.entry_dict_items (PySem.F.args_dict_items_1 _) (meets_dict_items (gK X.prog X.w) d hs) ⟨⟨vs,hm.dictOf⟩,?_⟩;have I3:Inv X pins Y H2 { s1 with heap:=s1.heap.push { cls:=.type "dict_items",data:=.fields #[.ref d] } }:=I2.kept (t':=s1.toks) λb o e=>Xe _ e;refine wpAny_pyIter_items (knd:=gK X.prog X.w) ⟨_,Xx _ rfl,rfl,rfl⟩ (hm.push _) ?_;refine⟨_,[_],_,_,H2,rfl,I3.kept (t':=s1.toks) λb o e=>Xe _ e,znA d _ o kvs hd,⟨.none,.none,by rw[hl];exact Xx _ rfl⟩,λb hb=>?_,q2⟩;rw[Xv.mp hb];exact I3.jV (Xj _) (I3.hok.fresh (Xj _))
end
end L2
namespace PL
open PySem PySem.Spec L2
open PyProof.Rows hiding St
def iItm (te:aL):iW:=λU Q=>te U λd k=>∃ks ds,d=.dK ks ds/\Q (fO (ks.map dF) ds) (isOwn k)
theorem Rg {K:Xa}{Fz:FZ}{d:Addr}{o:Obj}{ks:List Key}{ds:List PV}{xs:List V}{H:Hp}(hl:ks.length=xs.length)(f:Fz d)(e:H d=some (.aF o (.dK (ks.zip xs))))(hd:aj K Fz H ds xs)(ow:Bool)
  (hst:∀H2,(Same H H2\/(ow=false/\nM Fz H H2))->H2 d=some (.aF o (.dK (ks.zip xs)))/\Keep Fz H H2):Walk K Fz ow (Cg d o (ks.zip xs)) (fO (ks.map dF) ds) H:=λH2 hH i=>by
 obtain⟨e2,kp⟩:=hst H2 hH;have g3:aj K Fz H2 ds xs:=aj.mono kp (λ_ h=>h) _ _ hd;have hlen:=g3.length;have zl:(ks.zip xs).length=xs.length:=by rw[YI];lia
 have zp:(fO (ks.map dF) ds).length=xs.length:=by rw[Bw,Xb];lia
 refine⟨λc hc=>?_,λhi=>⟨e2,by lia⟩⟩;obtain⟨x,y,hx,hy,rfl⟩:=yX hc;rw[Xg]at hx;cases hk:ks[i]? with
 | none=>rw[hk]at hx;cases hx
 | some k=>
  rw[hk]at hx;cases hx;obtain⟨v,q1,q2⟩:=g3.get hy;have hi:i<xs.length:=(Xc.mp q1).1;refine⟨⟨e2,by lia⟩,λx H3 ⟨p,kv,y1,y2,y3,y4⟩=>?_⟩;have z1:=(zip_get y1).1;have z2:=(zip_get y1).2;rw[hk]at z1;cases z1;rw[q1]at z2;cases z2;subst y2 y4;have sm:Same H2 (upd H2 p (.tup [kV kv.1,kv.2])):=(Same.refl H2).qz y3;refine⟨sm,?_⟩;simp only[aq];exact⟨p,_,rfl,cg,aj.cons (aq.mono (.of sm) (λ_ h=>h) _ _ (zuk _)) (aj.cons (aq.mono (.of sm) (λ_ h=>h) _ _ q2) aj.nil)⟩
structure uP (X:Cx)(tg iter:Expr)(te:aL):Prop where
 mono:∀U Q Q',(∀d k,Q d k->Q' d k)->te U Q->te U Q'
 run:PI X tg iter (iD X Cg (lift X.K te))
theorem Rh {X:Cx}{e:Expr}{te:aL}{apos cpos tpos:Pos}{elts:List Expr}{x1:Nat}(he:aG X e te)(hbase:Wu e "items" X.env (Ww e X.env)=Ww e X.env:=by rfl) (hline:(apos.endLine == cpos.line)=true:=by rfl):uP X (.Tuple elts x1 tpos) (.Call (.Attribute e "items" apos) [] [] cpos) te:=⟨he.mono,zsc he.run hbase hline⟩
theorem zpO {X:Cx}{tg iter:Expr}{te:aL}(h:uP X tg iter te):∀U Q Q',(∀its o,Q its o->Q' its o)->iItm te U Q->iItm te U Q':=λU Q Q' m q=>h.mono U _ _ (λd k ⟨ks,ds,e,q⟩=>⟨ks,ds,e,m _ _ q⟩) q
section
variable {X:Cx}{tg iter:Expr}{body:List Wn}{te:aL}{g:jZ}{tb:dU}{pos:Pos}
theorem Ri (hc:X.calm=true)(hp:W3 (Wh X.prog X.w) X.A X.env X.xe)(hi:uP X tg iter te)(hg:sU X tg g)(hb:gO X body tb)(hs:oh X iter:=by intro _;rfl):jK X (.For tg iter body [] pos) (pFor (iItm te) g tb) where
 mono:=Lh (zpO hi) hg.mono hb.mono
 run:=PS.weak (u9 hp hc hi.run hg.run hb.run hs).star λD Y H h=>by
  obtain⟨U,Fz,R,h⟩:=h;refine⟨U,Fz,R,hi.mono U _ _ (λd k q v bJ H1 p=>?_) h⟩;obtain⟨ks,ds,rfl,ho,Iv,h0,hstep,hdone⟩:=q;have hk:k=.aF\/k=.new:=by
   cases k with
   | aF=>exact .inl rfl
   | new=>exact .inr rfl
   | own j=>cases ho
  obtain⟨F2,x2,s2,dn⟩:=p.frozen hk;simp only[aq]at dn;obtain⟨a,xs,rfl,fa,hr,hl,hd⟩:=dn;have R2:=R.ext x2;have no:¬ cP U Y a:=λ⟨i,e,h1,h2⟩=>by
   obtain⟨b,q1,q2,_⟩:=R2.own i e h1;rw[h2]at q1;cases q1;exact q2 fa
  refine⟨a,ks.zip xs,rfl,?_⟩;rcases hr with hr | ⟨o,hr⟩
  .refine .inl ⟨hr,λnf o=>?_⟩;have kf:=Mr (Fz:=F2) (o:=o) hr;have R3:Rel X.K F2 U Y (upd H1 a (.aF o (.dK (ks.zip xs)))):=R2.freeze fa hr;refine FJ hg.mono hb.mono R3 (Rg hl fa cg (aj.mono kf (λ_ h=>h) _ _ hd) false λH2 hH=>?_) Iv h0 hstep ?_ hdone
   .rcases hH with hH | ⟨_,hH⟩
    .exact⟨hH _ _ cg,.of hH⟩
    .exact⟨hH _ _ cg (.inr trivial),.mk' hH⟩
   .have tr:∀ {F' H'},Step U Y F2 (upd H1 a (.aF o (.dK (ks.zip xs)))) F' H'->H' a=some (.aF o (.dK (ks.zip xs)))/\F' a/\Step U Y Fz H F' (nQ a H'):=λ{F' H'} s'=>
     ⟨s'.keep _ _ cg no,s'.sub _ fa,(Step.of x2).trans (bh.refl U Y H) (s'.jb hr no)⟩
    have ow:∀ {U' Y'},bh U Y (upd H1 a (.aF o (.dK (ks.zip xs)))) U' Y'->bh U Y H U' Y':=λ{U' Y'} o' b hb=>by
     rcases o' b hb with z | z
     .exact .inl z
     .by_cases hba:b=a
      .subst hba;rw[cg]at z;cases z
      .rw[aY hba]at z;exact .inr (x2.same.free z)
    refine⟨λU' q Y' F' H' s' o' R'=>?_,λe ke q v F' H' s' al' r'=>?_,λU' q Y' F' H' s' o' R'=>?_,λU' q Y' F' H' s' o' R'=>?_⟩
    .obtain⟨t1,t2,t3⟩:=tr s';exact .inr ⟨a,nf,q Y' F' _ t3 (ow o') (R'.jb t2 t1)⟩
    .obtain⟨t1,t2,t3⟩:=tr s';have kp:=Ms (F':=F') t1;refine .inr ⟨a,nf,q v F' _ t3 (λb hb=>?_) ?_⟩
     .rw[uz t1];by_cases hba:b=a
      .subst hba;rw[cg];exact λz=>nomatch z
      .rw[aY hba];exact al' b hb
     .cases ke with
      | aF=>exact aq.mono kp (λ_ h=>h) _ _ r'
      | own j=>exact r'
      | new=>
       obtain⟨c,e,nfc,oc,w⟩:=r';have hca:c≠a:=λz=>by subst z;exact nfc t2
       refine⟨c,e,nfc,oc.mono kp (λ_ h=>h) (λw hw=>by rw[uz t1,aY hca];exact hw),?_⟩;rcases w with w | w
       .exact .inl w
       .rw[aY hca]at w;exact .inr (x2.same.free w)
    .obtain⟨t1,t2,t3⟩:=tr s';exact .inr ⟨a,nf,q Y' F' _ t3 (ow o') (R'.jb t2 t1)⟩
    .obtain⟨t1,t2,t3⟩:=tr s';exact .inr ⟨a,nf,q Y' F' _ t3 (ow o') (R'.jb t2 t1)⟩
  .refine .inr ⟨o,hr,FJ hg.mono hb.mono R2 (Rg hl fa hr hd false λH2 hH=>?_) Iv h0 hstep ?_ hdone⟩
   .rcases hH with hH | ⟨_,hH⟩
    .exact⟨hH _ _ hr,.of hH⟩
    .exact⟨hH _ _ hr (.inr trivial),.mk' hH⟩
   .have le:=pU (K:=X.K) (D:=D) (Step.of x2) (bh.refl U Y H);exact⟨λU' q Y' F' H' s' o' R'=>.inl (le.nx U' q Y' F' H' s' o' R'),λe ke q v F' H' s' al' r'=>.inl (le.rt e ke q v F' H' s' al' r'),λU' q Y' F' H' s' o' R'=>.inl (le.bk U' q Y' F' H' s' o' R'),λU' q Y' F' H' s' o' R'=>.inl (le.ct U' q Y' F' H' s' o' R')⟩
end
section
variable {X:Cx}{E:XK}{o e:Expr}{es:List Expr}{to:aL}{t:cV}{C:Addr}{m:Str}{pos apos:Pos}{ee:uN}{F:nY}
theorem Ci {st:List Wn}:jB X E st (λ_ _ _=>False):=⟨λ_ _ _ _ _ _ _ h=>h,λ_ _ _ _ _ _ ⟨_,_,_,h⟩=>h.elim⟩
def zsd (ee:uN):uM:=λZ U O=>ee Z U λ_ _=>O.nx U
theorem zuY (he:qT X E e ee)(hs:Wx e none pos.line X.env=pure false:=by rfl):tD X E (.Expr e pos) (zsd ee) where
 mono Z Z' U O O' z m h:=he.mono Z Z' U _ _ z (λ_ _ q=>m.nx _ q) h
 run:=PS.weak (Ab he.run hs) λD Y H h=>by
  obtain⟨U,Fz,R,h⟩:=h;exact⟨U,Fz,R,he.mono _ _ U _ _ (λ_ z=>z) (λd k q v ao H' p=>q Y ao H' (.of p.ext) (bh.refl U Y H) (R.ext p.ext)) h⟩
def zml (C:Addr)(m:Str)(F:nY)(to:aL)(t:cV):uN:=λZ U _=>to U λd _=>∃ks ds,d=.obj C ks ds/\m∉ks/\t U λops=>F (d::ops.map (·.1)) (λ_ _=>False) Z
theorem zpP {pl:Sem Bool}{k:Nat}{fa:Addr}{fd:Wk}{ps:Tn}(c:kZ X.K C)(hm:Meth X.K C m fa)(G:aA X.prog X.w X.K X.mg X.base (jA X.prog X.w) k fa fd ps (gD X.K F))(mf:wj F)(hr:bx k X.A)(hb:Binds X.K fd ps [])(hp:qp (jA X.prog X.w) X E)(ho:aG X o to)(ha:eO X (e::es) t)
  (hst:cQ X e es:=by rfl) (hpl:cO X pos es:=by rfl)
  (ht:Ww (.Call (.Attribute o m apos) (e::es) [] pos) X.env=(do
   let ov <- Ww o X.env
   standAt apos.atName
   let (f,first) <- WN [ov] (Vb ov m pl)
   callWith pos f first (WK pos (Wo (e::es) X.env)) (WT pos (WE [] X.env))):=by rfl) :
  qT X E (.Call (.Attribute o m apos) (e::es) [] pos) (zml C m F to t) where
 mono Z Z' U Q Q' z mm h:=ho.mono U _ _ (λd k ⟨ks,ds,e1,e2,h⟩=>⟨ks,ds,e1,e2,ha.mono U _ _ (λops h=>mf _ _ _ _ _ (λd k q=>q) z h) h⟩) h
 run:=PE.weak (xX (pl:=pl) ho.run c hm G hr hb .nil hp ha.run hst hpl ht) λY H Q h=>by
  obtain⟨U,Fz,R,h⟩:=h;refine⟨U,Fz,R,ho.mono U _ _ (λd kd q v F1 H1 p1=>?_) h⟩;obtain⟨ks,ds,rfl,hn,q⟩:=q;obtain⟨a,dx,xs,rfl,hf,h1,h2,h3⟩:=yP (p1.root R);have iZ:aq X.K F1 H1 (.obj C ks ds) (.ref a):=p1.root R;refine⟨a,dx,_,rfl,h1,vM (M:=V) (J:=V) hn,U,F1,R.ext p1.ext,ha.mono U _ _ (λops h vs F2 H2 x o=>?_) q⟩;show gD X.K F (.ref a::(vs++[])) H2 Q E;rw[XG];obtain⟨F3,s3,a3,h3'⟩:=o.all (R.ext p1.ext) x;refine⟨F3,.obj C ks ds::ops.map (·.1),a3,aj.cons (aq.mono (.of x.same) (λb hb=>s3 b (x.sub b hb)) _ _ iZ) h3',mf _ _ _ _ _ (λ_ _ z=>z.elim) (λC q H4 sm=>?_) h⟩;have x2:=p1.ext.trans x;exact q F2 H4 (.of ⟨x2.same.trans sm,x2.sub,x2.new,λb hb z=>x2.al b hb (sm.free z)⟩)
end
section
variable {X:Cx}{k:Nat}{f:Addr}{fd:Wk}{ps:Tn}{F:nY}{x:Str}{p pos:Pos}{e:Expr}{es:List Expr}
def znB (Qq12:Addr)(F:nY)(t:cV)(i:Nat):dU:=λU O=>t U λops=>noOwn ops=true/\F (ops.map (·.1)) (λ_ _=>False) λC=>C=Qq12/\O.nx (U.set i (some (.bl true,false)))
theorem zse {t:cV}{L Qq12:Addr}{bmJ:Tq}{jx y:Str}{i:Nat}{j0:Nat}{np py pe pa pos' pos2 qP:Pos}(G:aA X.prog X.w X.K X.mg X.base (jA X.prog X.w) k f fd ps (gD X.K F))(m:wj F)(hex:X.ex=[])(hst:X.stack=X.env::X.outer)(hfm:X.env.frame=some L)(hr:bx k X.A)(hg:Gl X x)(hm:X.mg x=some (.ref f))(hk:YM X.K (.ref f)=true)(hb:Binds X.K fd ps [])
  (ha:eO X.pN (e::es) t) (hN:X.N.Nodup) (hi:X.N[i]? = some y) (hly:X.env.scope.names.lookup y=some .local) (hgj:Gl X jx) (hmj:X.mg jx=some (.ref Qq12)) (hJ:o7 X.K Qq12 bmJ)
  (hdb:fD x:=by decide) (hdj:fD jx:=by decide)
  (he:cQ X e es:=by rfl) (hpl:cO X pos es:=by rfl)
  (hs:Wx (.Call (.Name x p) (e::es) [] pos) none pos2.line X.env=pure false:=by rfl) (hs2:Wx (.Constant (.bool true) j0 pe) (some (.Name y py)) pa.line X.env=pure false:=by rfl) :
  jK X (.Try [.Expr (.Call (.Name x p) (e::es) [] pos) pos2] [.ExceptHandler (some (.Name jx np)) none [.Assign [.Name y py] (.Constant (.bool true) j0 pe) pa] pos'] [] [] qP) (znB Qq12 F t i) where
 mono U O O' mm h:=ha.mono U _ _ (λops h=>⟨h.1,m _ _ _ _ _ (λ_ _ q=>q) (λC q=>⟨q.1,mm.nx _ q.2⟩) h.2⟩) h
 run:=λpins s Y H D I h=>by
  obtain⟨U,Fz,R,h⟩:=h;have h2:Bc X.K t Y H λvs H1=>gD X.K F vs H1 (λ_ _=>False) λcls _ H'=>cls=.ref Qq12/\D.nx (Y.set i (some (.bl true))) H':=by
   refine⟨U,Fz,R,ha.mono U _ _ (λops h vs ao H' x o=>?_) h⟩;obtain⟨hn,h⟩:=h;obtain⟨F2,x2,s2,h2⟩:=o.frozen x hn;refine⟨F2,ops.map (·.1),x2.al,h2,m _ _ _ _ _ (λd k q=>q.elim) (λC q H3 sm=>?_) h⟩;obtain⟨rfl,q⟩:=q;have x3:Ext Fz H F2 H3:=⟨x2.same.trans sm,x2.sub,x2.new,λb hb z=>x2.al b hb (sm.free z)⟩;exact⟨rfl,(show(jJ X.K D U Y Fz H).nx (U.set i (some (.bl true,false))) from q) _ F2 H3 (.of x3) (λb hb=>.inl (oK b hb)) ((R.ext x3).set (by simp only[aq]))⟩
  refine wpAny_Try_except (wpAny_execs_cons (wpAny_Expr_any (WC (zxb G hex hr hg hm hk hb ha.run I h2 hdb he hpl) (λv s1 ⟨v',H1,I1,r1,q1⟩=>q1.elim) λev s1 fy=>?_) I.quiet hs));refine cT.note fy hex hst hfm rfl λs2 fy2=>cT.flight fy2 λs3 fy3=>?_;obtain⟨a,T,cls,fl,H',rfl,I3,ex,hp,hE3⟩:=fy3;obtain⟨rfl,hD⟩:=hE3;refine wpAny_handleBy_cons (codeAny_handlers_test ?_) (by intro q;cases q);refine xr (O6 I3 a) hgj hmj ?_ hdj;obtain⟨N2,nm2,q2,qL,hdct2,sn2,sub2,ab2,col2,dd2,j0,j1,j2,j3,j5,mN2,gJ,hNs2,hni2,TJ⟩:=hJ s3.heap I3.jh;have ex':=ex;obtain⟨xa,kj,xT,nW,hTa,oe,vs,oT,ts,a0,hge,hc,hd,h00,h1,lR,hdT,h3⟩:=ex';refine zkS gJ gJ hge hc (TJ.hasType (by decide)) (by rw[List.contains_cons,beq_self_eq_true,Bool.true_or]) ?_;show W4 _ _ _ _ s3;refine codeAny_handlers_suite (O3 (l:=X.stack) ex (ex.ou I3.stack).2 λh' lB xs ex2=>?_);have I4:Inv X pins Y H' { s3 with heap:=h' }:=G8 I3 xs ex hp;have hset:=rR (X:=Ca X a) (i:=i) (x:=y) (pos':=py) (pos:=pa) hN hi (.inl hly) (Jc (X:=Ca X a)) hs2 (.inr hly);refine wpAny_execs_cons (WC (hset pins _ _ _ { nx:=λY' H''=>Y'=Y.set i (some (.bl true))/\H''=H',rt:=λ_ _=>False } (O6 I4 a) ⟨rfl,rfl⟩) (λfl s6 hfl=>?_) λ_ _ z=>z.elim);cases fl with
  | next=>
   obtain⟨Y',H'',I7,rfl,rfl⟩:=hfl;exact W6 ⟨_,_,zxa I7 I.ok,hD⟩
  | ret v=>obtain⟨_,_,_,_,_,z⟩:=hfl;exact z.elim
  | brk=>obtain⟨_,_,_,z⟩:=hfl;exact z.elim
  | cont=>obtain⟨_,_,_,z⟩:=hfl;exact z.elim
end
end PL
namespace HK
open PySem PySem.W
variable {v:Option (Tv)}
def uQ (h:Heap):Frag:=(XE h.objs.size).filterMap λa=>(h.get? a).map λo=>(a,o)
theorem zuZ (h:Heap):(uQ h).In h:=by
 intro a o e;unfold uQ at e;generalize XE h.objs.size=l at e;induction l with
 | nil=>cases e
 | cons b l ih=>
  rw[YC]at e;cases hb:h.get? b with
  | none=>rw[hb]at e;exact ih e
  | some o'=>
   rw[hb]at e;dsimp only[Option.map_some]at e;rw[XT]at e;by_cases z:a=b
   .subst z;rw[beq_self_eq_true]at e;cases e;exact hb
   .rw[beq_false_of_ne z]at e;exact ih e
def hook {T:Type}(see:Frag->T)(told:T):Hook:=
 ⟨T,λs=>see (uQ s.heap),λ_=>told,λ_ h=>∃K:Frag,K.In h/\see K=told,λ_ s e=>⟨_,zuZ _,e⟩,λ_ _ _ ⟨K,x,e⟩ k=>⟨K,x.keeps k,e⟩⟩
abbrev Seen:=Option (Str×Str×Arguments×FuncBody×WR×Addr×List (Str×Addr)×Wb×Addr×Bool)
def uR (K:Frag)(v:Option (Tv)):Seen:=match v with
 | some (some (.ref f))=>(match K.lookup f with
  | some ⟨_,_,.func d,_⟩=>some (d.name,d.qualname,d.params,d.body,d.scope,d.globals,d.closure,d.defaults,d.builtins,codeIn K d.code d.qualname&&keepIn K (.ref f)&&isFn K (.ref f))
  | _=>none)
 | _=>none
def wz (n q:Str)(a:Arguments)(b:List Wn)(c:WR):Seen:=some (n,q,a,.stmts b,c,Wq,[],.none,builtinsNs,true)
theorem xY {K:Frag}{n q:Str}{a:Arguments}{b:List Wn}{c:WR}(e:uR K v=wz n q a b c) :
  ∃(f:Addr) (oc:Wb) (od:Option Addr) (sl:Array (Tv)) (kV dc pm:Wb) (an:Option Addr) (cd ct:Wb),v=some (some (.ref f))/\K.lookup f=some ⟨oc,od,.func (fnOf n q a b c .none kV dc pm an cd ct),sl⟩/\codeIn K cd q=true/\keepIn K (.ref f)=true/\isFn K (.ref f)=true:=by
 unfold uR wz at e;split at e
 .rename_i f
  split at e
  .rename_i oc od d sl hl
   obtain⟨d1,d2,d3,d4,d5,d6,d7,d8,d9,d10,d11,d12,d13,d14,d15⟩:=d;simp only[Option.some.injEq,Prod.mk.injEq,Yu]at e;obtain⟨rfl,rfl,rfl,rfl,rfl,rfl,rfl,rfl,rfl,⟨h1,h2⟩,h3⟩:=e;exact⟨f,_,_,_,_,_,_,_,_,_,rfl,hl,h1,h2,h3⟩
  .cases e
 .cases e
def ref? (v:Option (Tv)):Addr:=match v with
 | some (some (.ref a))=>a
 | _=>0
def isRef (v:Option (Tv)):Bool:=match v with
 | some (some (.ref _))=>true
 | _=>false
theorem Hh (e:isRef v=true):v=some (some (.ref (ref? v))):=by
 unfold isRef at e;split at e
 .rfl
 .cases e
def m8 (K:Frag)(v:Option (Tv)):Wk:=match K.lookup (ref? v)with
 | some ⟨_,_,.func d,_⟩=>d
 | _=>default
structure Def (K:Frag)(n q:Str)(st:Wn)(v:Option (Tv)):Prop where
 fn:L2.cj K n q st (ref? v) (m8 K v)
 ad:v=some (some (.ref (ref? v)))
 kp:keepIn K (.ref (ref? v))=true
 is:isFn K (.ref (ref? v))=true
theorem Hi {K:Frag}{n q:Str}{st:Wn}(e:uR K v=wz n q (L2.mq st) (L2.ji st) (L2.bf st)):Def K n q st v:=by
 obtain⟨f,oc,od,sl,kV,dc,pm,an,cd,ct,rfl,l,c,k,m⟩:=xY e;have h:m8 K (some (some (.ref f)))=fnOf n q (L2.mq st) (L2.ji st) (L2.bf st) .none kV dc pm an cd ct:=by
  unfold m8 ref?;rw[l]
 exact⟨h▸L2.J3 l c k,rfl,k,m⟩
theorem pick {M:Type}{l m:List M}(h:l=m)(i:Nat):l[i]? = m[i]?:=by rw[h]
end HK
namespace PL
open PySem PySem.Spec L2
open PyProof.Rows hiding St
theorem zyf {l:PySem.W.OpenLaw}{k:Nat}{q:Wg}{loose:Tn}{XP:(Tj)->Heap->Prop}{YP:Wj->Heap->Prop}{d:DefRec}{G:Xa->Prop}{FL:PF}{x:Str}
  (hn:l.most=some 63) (hdf:d.params.defaults=[]) (hr:bx k callerA) (m:cW FL)
  (hY:∀(w:Wj) (h:Heap),YP w h->∃K:Xa,K.In h/\G K)
  (F:∀(w:Wj) (mg:Tj) (fa:Addr) (h:Heap) (K:Xa),G K->K.In h->h.Ns Wq mg->mg d.name=some (.ref fa)->
   ∃fd:Wk,(∀(s:Wc) (u:Wb),BindsTo s fd ⟨[u],[]⟩ [(x,u)])/\∀base:Heap,K.In base->base.Ns Wq mg->aA l.prog w K mg base aN k fa fd [x] (aX K FL))
  (hF:∀ns:Tp,ns.length<=63->FL [.lst (ns.map PV.int)] λd k=>d=.bl true) :
  PySem.W.WalkO q loose XP YP l.row.toRowW d [] (λf vs=>PySem.call f vs):=by
 refine Att.zkG hn hdf λw s₀ s₁ mg mb fa o pm cd doc a vs ns Gd Qq2 ho hd hcd hmg hobj hints hlen hg=>?_;obtain⟨K,KX,gk⟩:=hY w _ Qq2;obtain⟨fd,hb,hFn⟩:=F w mg fa _ K gk KX Gd.T.g hmg;exact zpa KX Gd.T.g Gd.T.b Gd.T.builtins Gd.T.nolimit hg hobj hints (XC hlen (by decide)) hr hFn hb (λH hO hS=>zwF m hS (hF ns hlen)) λH e s' z=>z
end PL
namespace HK
open PySem PySem.W
def Fa:Nat->(Tq->Prop)->Prop
 | 0,P=>P []
 | n+1,P=>∀a,Fa n λl=>P (a::l)
theorem Rj:∀ {n:Nat}{P:Tq->Prop},Fa n P->∀us:Tq,us.length=n->P us
 | 0,_,h,[],_=>h
 | n+1,P,h,a::us,e=>Rj (n:=n) (P:=λl=>P (a::l)) (h a) us (Nat.succ.inj e)
end HK
namespace Q33
open PySem PySem.Spec L2 PL
open PyProof.Rows hiding St
variable {M:Type}{i c n j b t:Nat}{f fM f1 C f2 f3 f4 f5 f6 f7 f8 f0 f9 g1 g2 NA:Addr}{fd fdM eZ fd2 gQ iz kE kI kJ mH mJ nZ lC o9:Wk}{ps p0:Tf}{rk:Tw}{L p ls zs:Tn}{sh:Te}{cs:Str->Tp}{k r rr:Tp}{ts:Tc}{fs:List gF}{x q:Str}{ks:List (List Key)}{g:Str->Nat}{D:bV}{K:Xa}{st:Wn}{v:Option (Tv)}
def top (i:Nat):Wn:=PySem.Challenge.pw_joinwood_k33_whole_far_counts.main.body.getD i (.Pass ⟨0,0,0,0⟩)
abbrev uT:Wn:=top 4
abbrev uU:Wn:=top 6
abbrev zx:Wn:=top 8
abbrev Cj:Wn:=top 9
abbrev zy:Wn:=top 10
abbrev uV:Wn:=top 11
abbrev zF:Wn:=top 12
abbrev zG:Wn:=top 14
abbrev lV:Wn:=top 15
abbrev wA:Wn:=top 16
abbrev zH:Wn:=top 17
abbrev zJ:Wn:=top 19
abbrev Ck:Wn:=top 20
abbrev wC:Wn:=top 21
abbrev zK:Wn:=top 22
abbrev zL:Wn:=top 23
abbrev zM:Wn:=top 24
abbrev wD:Wn:=top 25
abbrev Hj:Wn:=top 26
abbrev uW:Wn:=top 27
abbrev zN:Wn:=top 28
abbrev zO:Wn:=top 29
abbrev wF:Wn:=top 30
abbrev wG:Wn:=top 31
abbrev wH:Wn:=top 32
abbrev m9:Wn:=top 33
abbrev zP:Wn:=top 34
abbrev wI:Wn:=top 35
abbrev sLaw:Wn:=top 36
def aZ:Option Nat->PV
 | none=>.non
 | some p=>.int p
def zbl (ps:Tf):PV:=.lst (ps.map aZ)
def kids (ps:Tf)(i:Nat):Tt:=(XE ps.length).filter λc=>ps[c]? == some (some i)
def zco (l:Tt):PV:=.lst (l.map λ(k:Nat)=>PV.int k)
def zam:PF:=λds Q=>∃(ps:Tf)(i:Nat),ds=[zbl ps,.int i]/\ps.length<=1000/\Q (zco (kids ps i)) .new
theorem Rk:cW zam:=λds Q Q' m ⟨a,b,e,h,q⟩=>⟨a,b,e,h,m _ _ q⟩
theorem take_snoc {l:List M}{o:M}(h:l[i]? = some o):l.take i++[o]=l.take (i+1):=by rw[List.take_add_one,h];rfl
open Lean in
def puM:MacroM (TSyntax `tactic):=do
 let es<-("zcP ltsP shpP zaS zaw zaH zbd zaQ zat zax zcQ zaR zbS zaC zbY talP zaF zcR zan zbK zbT zeE kD zbW zcu zaT zdi zaG zaJ zbo zcc zbI csP zdj iItm zmh zsd zml zmi zhY zeC znN znB zkw zhp zqA zfz fDue fNth zho zia".splitOn " ").filterM λn=>return !(<-Macro.resolveGlobalName n.toName).isEmpty;let ls<-("pSeq zcO zbB zcZ zbC zbG rdE BX.pv pIdx fSum zdd zde zbF zbD zdc zbJ pSet pRet pIf zcm zbs zcY mApp zcX pUnp zbh zcK zbr zcL t2 i0 i2 pVar pC zaN pNil pTup pLst noOwn isOwn tBl blP zcx tOrP zcJ tTru zcW TruP zcT zcU pEq pIn pIsN pIx ixV pCat PL.tB fLen LenP zcM zbt zbu fIsi NoT PL.isObj pFld zby zdb zda mPop zdf zbq zaB pSlL pRev zcD zcE zct zaO iLst zcV pDG zcN zcF fAll zbv pSlS zbz pFor zbx PL.plain zaA zbi blkP List.map_cons List.map_nil List.length_cons List.length_nil List.cons_append List.nil_append List.replicate List.getElem?_cons_zero List.getElem?_cons_succ List.getElem?_nil Option.getD_some Option.getD_none List.set_cons_zero List.set_cons_succ List.cons.injEq Option.some.injEq Prod.mk.injEq PV.int.injEq PV.bl.injEq PV.str.injEq PV.lst.injEq PV.tup.injEq PV.ty.injEq PV.dK.injEq exists_eq_left' exists_eq_left exists_eq' exists_eq exists_and_left exists_and_right exists_eq_right true_and and_true reduceCtorEq false_and and_false false_or or_false exists_false exists_const Bool.false_eq_true if_true if_false and_assoc ite_true ite_false Bool.not_eq_true' decide_eq_true_eq decide_eq_false_iff_not Bool.not_false Bool.not_true true_or or_true not_true_eq_false not_false_eq_true Bool.and_eq_true Nat.zero_add Nat.sub_self Nat.reduceAdd Nat.reduceSub implies_true ne_eq zbf zaE Bool.true_and Bool.and_true List.all_nil fSet zbE mUpd zbA fSeq fFor pLtT zbl zco zam pFrz zcy zdg zaP zbH zaI sqP nFld zcH".splitOn " "++es).toArray.mapM λn=>`(Lean.Parser.Tactic.simpLemma|$(mkIdent n.toName):term)
 `(tactic|first|(dsimp only[$ls,*];try simp only[$ls,*])|simp only[$ls,*])
local macro_rules | `(tactic| walk_at "pu")=>puM
local macro_rules | `(tactic| walk_at "go")=>`(tactic| ((first | (with_reducible refine hold ?_) | (with_reducible refine K8 ?_) | (with_reducible refine zdn ?_));walk_at "pu"))
local macro_rules | `(tactic| walk_at "side")=>`(tactic| first | assumption | decide | lia | exact⟨by decide,by decide⟩ | exact⟨by decide,by decide,by decide⟩ | exact Or.inl ⟨by lia,by lia⟩ | exact Or.inr ⟨by lia,by lia⟩)
local macro_rules | `(tactic| walk_at "auto")=>`(tactic| repeat (first | ((with_reducible refine hold ?_);walk_at "pu") | ((with_reducible refine K8 ?_);walk_at "pu") | ((with_reducible refine And.intro ?_ ?_);(· walk_at "side"))))
section
variable {P:Wg}{w:Wj}{K:Xa}{mg:Tj}{base:Heap}
theorem Rm:cL ["parents","i"] ["parents","i"] (bf zx):=fsc
theorem Ro (F:cj K "children_of" "children_of" zx f fd) (B:Bl mg):aA P w K mg base aN 1 f fd ["parents","i"] (aX K zam):=by
 refine dI F Rm (λds Q ⟨a,b,e,_⟩=>by rw[e];rfl) (λcdv A outer s H E hr=>?_);have hu:=bG hr;have nd:=Rm.nd;refine⟨_,(bF (cX (j6 (N:=["child","parent","i"]) (k:=2) (js:=[1]) rfl (jX (sup:=bf zx) (XN:=["parents","i"]) rfl rfl (by decide +kernel)) (by decide) (Be (qH (by decide) (by decide))) (M4 rfl B.enumerate (ak 0)) ⟨λ_ _ _ _ _=>(oN (n:=2) rfl (iM (cB (i:=0) (by show(["child","parent","i"]:Tn).Nodup;decide +kernel) rfl (Qk rfl)) (iM (cB (i:=1) (by show(["child","parent","i"]:Tn).Nodup;decide +kernel) rfl (Qk rfl)) oM))),λ_ _ _ _ _=>(yI (ur hu (ak 1) (ak 2))),λ_ _ _ _ _=>(ak 0)⟩))),λds Q h=>?_⟩;obtain⟨ps,i,rfl,hl,q⟩:=h;have hsz:=Wi;walk_at "pu";refine⟨by rw[yV,Xb];lia,λk out=>out=((XE k).filter λc=>ps[c]? == some (some i)).map λ(c:Nat)=>PV.int c,rfl,?_,?_⟩
 .rintro k d out hd-rfl;obtain⟨x,hx,rfl⟩:=Gv hd;rw[Xg]at hx;cases hp:ps[k]? with
  | none=>rw[hp]at hx;cases hx
  | some p=>
   rw[hp]at hx;cases hx;have hpe:(aZ p=PV.int i)↔p=some i:=by
    cases p with
    | none=>exact⟨λz=>(nomatch z),λz=>(nomatch z)⟩
    | some p=>
     constructor
     .intro z;have z':(p:Int)=(i:Int):=PV.int.inj z;rw[show p=i by lia]
     .intro z;cases z;rfl
   refine⟨_,rfl,rfl,_,_,rfl,_,_,rfl,rfl,by cases p<;>rfl,?_⟩;show if _ then _=_ else _=_
   rw[List.range_succ,YG,Xp];refine bT (λe=>?_) (λe=>?_)
   .rw[Yx (by rw[hp,hpe.mp e];simp)];rfl
   .rw[Yw (by rw[hp];simp;exact λz=>e (hpe.mpr z)),List.filter_nil,YE,XG]
 .rintro out-rfl;rw[yV,Xb];exact q
def pre (ps:Tf):Nat->Nat->Tt
 | 0,_=>[]
 | t+1,i=>i::(kids ps i).flatMap (pre ps t)
structure jd (ps:Tf)(rk:Tw):Prop where
 lt:∀c p,ps[c]? = some (some p)->rk c<rk p
theorem Rp (h:c∈kids ps i):ps[c]? = some (some i):=by
 have:=(Yy.mp h).2;exact eq_of_beq this
theorem Hl (R:jd ps rk):∀(t i t':Nat),rk i<t->rk i<t'->pre ps t i=pre ps t' i
 | 0,i,t',h,_=>Qg h (Yl _)
 | t+1,i,t',h,h'=>by
  cases t' with
  | zero=>exact Qg h' (Yl _)
  | succ t'=>
   show i::_=i::_
   congr 1
   have:∀l:Tt,(∀c∈l,ps[c]? = some (some i))->l.flatMap (pre ps t)=l.flatMap (pre ps t'):=by
    intro l;induction l with
    | nil=>intro _;rfl
    | cons c l ih=>
     intro hl;have hc:=R.lt c i (hl c (Xh ..));rw[XD,XD,Hl R t c t' (by lia) (by lia),ih λd hd=>hl d (Xf _ hd)]
   exact this _ λc hc=>Rp hc
def cU (ps:Tf)(rk:Tw)(i:Nat):Tt:=pre ps (rk i+1) i
theorem Rq (R:jd ps rk)(i:Nat):cU ps rk i=i::(kids ps i).flatMap (cU ps rk):=by
 unfold cU;show i::_=i::_
 congr 1
 have:∀l:Tt,(∀c∈l,ps[c]? = some (some i))->l.flatMap (pre ps (rk i))=l.flatMap λc=>pre ps (rk c+1) c:=by
  intro l;induction l with
  | nil=>intro _;rfl
  | cons c l ih=>
   intro hl;have hc:=R.lt c i (hl c (Xh ..));rw[XD,XD,Hl R (rk i) c (rk c+1) (by lia) (by lia),ih λd hd=>hl d (Xf _ hd)]
 exact this _ λc hc=>Rp hc
def zcP:PF:=λds Q=>∃(ps:Tf)(rk:Tw)(r:Nat),ds=[zbl ps]/\ps.length<=1000/\jd ps rk/\ps[r]? = some none/\(∀j,j<r->ps[j]?≠some none)/\(cU ps rk r).length<=100000/\Q (zco (cU ps rk r)) .new
theorem zpU:cW zcP:=λds Q Q' m ⟨a,b,c,e,h1,h2,h3,h4,h5,q⟩=>⟨a,b,c,e,h1,h2,h3,h4,h5,m _ _ q⟩
theorem Rt:cL ["parents","found","waiting","i"] ["parents"] (bf Cj):=fsc
abbrev Y2 (K:Xa)(mg:Tj):=Fx K mg "children_of" zx ["parents","i"]
theorem zva {fC:Addr}{fdC:Wk}(F:cj K "walk" "walk" Cj f fd) (aH:Y2 K mg fC fdC) (B:Bl mg):aA P w K mg base aN 2 f fd ["parents"] (aX K zcP):=by
 have dJ:aA P w K mg base aN 1 fC fdC ["parents","i"] (aX K zam):=Ro aH.fn B;refine dI F Rt (λds Q ⟨a,b,c,e,_⟩=>by rw[e];rfl) (λcdv A outer s H E hr=>?_);have hu:=bG hr;have nd:=Rt.nd;refine⟨_,(aV (bH (i:=1) nd rfl (Qk rfl) (jk aJ))
   (aV (bH (i:=2) nd rfl (Qk rfl) (jk (aB (GF (ak 0) sJ) aJ)))
   (aV (Bf Ql (ug (ak 2)) (aV (zrx (i:=3) nd rfl (Qk rfl) (zux 2))
   (aV (oU (sX 1 (ak 3)))
   (bF (oU (zrM 2 (Gh (cM dJ Rk hr rfl aH.mg aH.fn.kp aH.bd (aB (ak 0) (aB (ak 3) aJ))))))))))
   (bF (cX (ak 1)))))),λds Q h=>?_⟩
 obtain⟨ps,rk,r,rfl,hl,R,hr0,hr1,hpl,q⟩:=h;have hsz:=Wi;walk_at "pu";refine⟨by lia,?_⟩;walk_at "go";have pq:((ps.map aZ).all mZ)=true:=by
  rw[XX];intro d hd;obtain⟨p,_,rfl⟩:=XF.mp hd;cases p<;>rfl
 have hmem:PV.non∈ps.map aZ:=XF.mpr ⟨none,Xl hr0,rfl⟩;have hidx:iw (ps.map aZ) PV.non=r:=by
  unfold iw;have hrl:r<ps.length:=(Xc.mp hr0).1;refine(List.findIdx_eq (by rw[Xb];exact hrl)).mpr ⟨?_,λj hj=>?_⟩
  .rw[List.getElem_map,(Xc.mp hr0).2];exact Qd rfl
  .have hjl:j<ps.length:=by lia
   rw[List.getElem_map];have hj1:=hr1 j hj;rw[Xd hjl]at hj1;cases hp:ps[j]with
   | none=>rw[hp]at hj1;exact Qg rfl hj1
   | some p=>exact Qc λz=>nomatch z
 refine⟨pq,rfl,hmem,by lia,?_⟩;rw[hidx];walk_at "go";obtain⟨Iv,aP⟩:∃Iv:Nat->aC->Prop,∀m U,Iv m U↔∃(fs ws:Tt) (k3:Option (PV×Bool)),fs++ws.reverse.flatMap (cU ps rk)=cU ps rk r/\m=(ws.reverse.flatMap (cU ps rk)).length/\
  U=[some (PV.lst (Yg aZ ps),false),some (PV.lst (fs.map λ(k:Nat)=>PV.int k),true),some (PV.lst (ws.map λ(k:Nat)=>PV.int k),true),k3]:=⟨_,λ_ _=>Qy⟩
 refine⟨Iv,⟨_,(aP _ _).mpr ⟨[],[r],none,by simp,rfl,rfl⟩⟩,λm U' hI=>?_⟩;obtain⟨fs,ws,k3,h1,h2,rfl⟩:=(aP _ _).mp hI;walk_at "go";rcases List.eq_nil_or_concat ws with rfl | ⟨us,i,rfl⟩
 .rw[Qe (by simp)];walk_at "go";simp only[List.reverse_nil,List.flatMap_nil,XG]at h1;rw[h1];exact q
 .rw[Qf (by simp)];rw[List.concat_eq_append]at h1 h2 ⊢;have hrev:(us++[i]).reverse=i::us.reverse:=by simp
  rw[hrev,XD,Rq R i]at h1 h2;walk_at "go";rw[Xb];refine⟨PV.int i,by simp,?_⟩;have hdl:(Yg (λ(k:Nat)=>PV.int k) (us++[i])).dropLast=us.map λ(k:Nat)=>PV.int k:=by
   rw[Xp];exact List.dropLast_concat
  rw[hdl];have hlen:=congrArg List.length h1;simp only[Xr,Xy]at hlen h2;walk_at "go";refine⟨by rw[Xb];lia,?_⟩;walk_at "go";have hkl:(kids ps i).length<=1000:=by
   have:=Yc (λc=>ps[c]? == some (some i)) (XE ps.length);rw[Yr]at this;exact XC this hl
  have hul:us.length<=(us.reverse.flatMap (cU ps rk)).length:=by
   have:∀l:Tt,l.length<=(l.flatMap (cU ps rk)).length:=by
    intro l;induction l with
    | nil=>exact Xj _
    | cons c l ih=>rw[XD,Rq R c,Xr,Xy,Xy];lia
   have:=this us.reverse;rw[Ya]at this;exact this
  refine⟨ps,rfl,i,rfl,hl,by rw[Xb,Ya,Xb];lia,((kids ps i).flatMap (cU ps rk)++us.reverse.flatMap (cU ps rk)).length,by rw[h2,Xr];lia,?_⟩;refine(aP _ _).mpr ⟨fs++[i],us++(kids ps i).reverse,some (PV.int i,false),?_,?_,?_⟩
  .rw[List.reverse_append,List.reverse_reverse,Pb,<- h1];simp
  .rw[List.reverse_append,List.reverse_reverse,Pb]
  .rw[Xp,Xp,P0];rfl
end
def ltsP (ls:Tn):PV:=.tup (ls.map PV.str)
def shpP (sh:Te):PV:=.lst (sh.map ltsP)
def bW (sh:Te)(ps:Tf)(i:Nat):Tn:=match ps[i]? with
 | some (some p)=>(sh.getD i []).filter λl=>decide (l∈sh.getD p [])
 | _=>[]
def zaH:PF:=λds Q=>∃(sh:Te)(ps:Tf)(i:Nat),ds=[shpP sh,zbl ps,.int i]/\i<sh.length/\sh.length=ps.length/\(∀p,ps[i]? = some (some p)->p<sh.length)/\(∀l∈sh,l.length<=1000)/\Q (.lst ((bW sh ps i).map PV.str)) .new
theorem zkT:cW zaH:=λds Q Q' m ⟨a,b,c,e,h1,h2,h3,h4,q⟩=>⟨a,b,c,e,h1,h2,h3,h4,m _ _ q⟩
def zaS (ls:Tn)(r:Tp):PV:=.dK (ls.map Qo) (r.map PV.int)
def dW (ls:Tn)(r:Tp)(l:Str):Int:=((ls.zip r).lookup l).getD 0
def zaw:PF:=λds Q=>∃(ls:Tn)(r:Tp)(ws:Tn),ds=[zaS ls r,.lst (ws.map PV.str)]/\ls.length=r.length/\(∀l∈ws,l∈ls)/\ws.length<=1000/\Q (.tup (ws.map λl=>PV.int (dW ls r l))) .aF
theorem wJ:cW zaw:=λds Q Q' m ⟨a,b,c,e,h1,h2,h3,q⟩=>⟨a,b,c,e,h1,h2,h3,m _ _ q⟩
theorem Cm {l:Str}:∀ {ls:Tn}{r:Tp},ls.length=r.length->l∈ls->iQ (ls.map (Qo:Str->Key)) (r.map PV.int) (.inr l)=some (PV.int (dW ls r l))
 | [],_,_,h=>nomatch h
 | k::ls,[],e,_=>nomatch e
 | k::ls,x::r,e,h=>by
  by_cases hk:k=l
  .subst hk;simp[iQ,dW]
  .have ih:=Cm (l:=l) (Nat.succ.inj e) ((Xn.mp h).resolve_left λz=>hk z.symm);simp only[iQ,dW,Xq,XS,XT,Yq]at ih ⊢;rw[show(l == k)=false by rw[beq_eq_false_iff_ne];exact λz=>hk z.symm];simpa[hk]using ih
theorem Cp (n:Nat)(ss:Tn):(ss.map PV.str).all (PL.plain n)=true:=by
 rw[XX];intro d hd;obtain⟨x,_,rfl⟩:=XF.mp hd;cases n<;>rfl
section
variable {P:Wg}{w:Wj}{K:Xa}{mg:Tj}{base:Heap}
theorem Cq:cL ["known","letters"] ["known","letters"] (bf uV):=fsc
theorem Cr (F:cj K "cells_at" "cells_at" uV f fd) (B:Bl mg):aA P w K mg base aN 1 f fd ["known","letters"] (aX K zaw):=by
 refine dI F Cq (λds Q ⟨a,b,c,e,_⟩=>by rw[e];rfl) (λcdv A outer s H E hr=>?_);have hu:=bG hr;have nd:=Cq.nd;refine⟨_,(bF (cX (yN rfl B.tuple (aB (j6 (N:=["letter","known"]) (k:=1) (js:=[0]) rfl (jX (sup:=bf uV) (XN:=["known","letters"]) rfl rfl (by decide +kernel)) (by decide) (mX (by decide)) (jN (ak 1)) ⟨λ_ _ _ _ _=>(cB (i:=0) (by show(["letter","known"]:Tn).Nodup;decide +kernel) rfl (Qk rfl)),λ_ _ _ _ _=>nP,λ_ _ _ _ _=>(uD (hu1 hu) (ak 1) (ak 0))⟩) aJ)))),λds Q h=>?_⟩;obtain⟨ls,r,ws,rfl,hl,hm,hw,q⟩:=h;have hsz:=Wi;walk_at "pu";refine⟨by rw[Xb];lia,λi out=>out=(ws.take i).map λl=>PV.int (dW ls r l),rfl,?_,?_⟩
 .rintro i d out hd-rfl;rw[Xg]at hd;cases hs:ws[i]? with
  | none=>rw[hs]at hd;cases hd
  | some l=>
   rw[hs]at hd;cases hd;have hd2:=Cm hl (hm l (Xl hs));refine⟨.inr l,rfl,_,hd2,?_⟩;show _=_;rw[<- take_snoc hs,Xp];rfl
 .rintro out-rfl;rw[Xb,Xs (Xj _)];exact q
theorem Ru:cL ["shape","parents","i","above"] ["shape","parents","i"] (bf zy):=fsc
theorem zpV (F:cj K "bond_of" "bond_of" zy f fd) (B:Bl mg):aA P w K mg base aN 1 f fd ["shape","parents","i"] (aX K zaH):=by
 refine dI F Ru (λds Q ⟨a,b,c,e,_⟩=>by rw[e];rfl) (λcdv A outer s H E hr=>?_);have hu:=bG hr;have nd:=Ru.nd;refine⟨_,(aV (jM (FT (di (ak 1) (ak 2)) sJ) (bF (cX (jk aJ))) jL)
   (aV (bH (i:=3) nd rfl (Qs rfl) (di (ak 0) (di (ak 1) (ak 2))))
   (bF (cX (j6 (N:=["letter","above"]) (k:=1) (js:=[3]) rfl (jX (sup:=bf zy) (XN:=["shape","parents","i","above"]) rfl rfl (by decide +kernel)) (by decide) (mX (by decide)) (vC (di (ak 0) (ak 2))) ⟨λ_ _ _ _ _=>(cB (i:=0) (by show(["letter","above"]:Tn).Nodup;decide +kernel) rfl (Qk rfl)),λ_ _ _ _ _=>(yI (Lr hu (ak 0) (ak 1))),λ_ _ _ _ _=>(ak 0)⟩))))),λds Q h=>?_⟩
 obtain⟨sh,ps,i,rfl,hi,hsp,hp,tE,q⟩:=h;have hsz:=Wi;have hip:i<ps.length:=by lia
 walk_at "pu";cases hpi:ps[i]? with
 | none=>rw[Xd hip]at hpi;cases hpi
 | some o=>
  have hat:gM (Yg aZ ps) (i:Int)=some (aZ o):=jt (by rw[Xg,hpi];rfl);refine⟨_,hat,?_⟩;cases o with
  | none=>
   have hb:bW sh ps i=[]:=by unfold bW;rw[hpi]
   rw[hb]at q;rw[Qf (show aZ none=PV.non from rfl)];walk_at "go";exact⟨by lia,q⟩
  | some p=>
   have hpl:=hp p hpi;have hb:bW sh ps i=(sh.getD i []).filter λl=>decide (l∈sh.getD p []):=by unfold bW;rw[hpi]
   have e1:sh[i]? = some (sh.getD i []):=by rw[Xi,Xd hi];rfl
   have e2:sh[p]? = some (sh.getD p []):=by rw[Xi,Xd hpl];rfl
   have h1:=tE _ (Xl e1);rw[hb]at q;generalize sh.getD i []=li at e1 h1 q;generalize sh.getD p []=lp at e2 q;rw[Qe (λz=>nomatch z)];walk_at "go";walk_at "go";refine⟨_,hat,_,⟨_,rfl,jt (by rw[Xg,e2];rfl)⟩,?_⟩;walk_at "go";refine⟨_,jt (by rw[Xg,e1];rfl),li.map PV.str,rfl,by rw[Xb];lia,λk out=>out=((li.take k).filter λl=>decide (l∈lp)).map PV.str,rfl,?_,?_⟩
   .rintro k d out hd-rfl;rw[Xg]at hd;cases hs:li[k]? with
    | none=>rw[hs]at hd;cases hd
    | some l=>
     rw[hs]at hd;cases hd;have hml:PV.str l∈Yg PV.str lp↔l∈lp:=by
      rw[XF];exact⟨λ⟨y,h,e⟩=>by cases e;exact h,λh=>⟨l,h,rfl⟩⟩
     refine⟨rfl,Cp _ _,?_⟩;show if _ then _=_ else _=_
     rw[<- take_snoc hs,YG,Xp];refine bT (λe=>?_) (λe=>?_)
     .rw[Yx (p:=λl=>decide (l∈lp)) (Qd (hml.mp e))];rfl
     .rw[Yw (p:=λl=>decide (l∈lp)) (by rw[decide_eq_true_eq];exact λz=>e (hml.mpr z)),List.filter_nil,YE,XG]
   .rintro out-rfl;rw[Xb,Xs (Xj _)];exact q
end
def mixed (c k:Int):Int:=if c > 10 ^ 8 then(c / 1000 / (10 ^ 7) ^ k.toNat) % 10 ^ 7 else
 let o:=(c % 2147483647+40503*k*k+17*k)*48271 % 2147483647
 o*(o % 65537+3*k+1) % 2147483629
theorem Ho (c k:Int):0<=mixed c k:=by
 unfold mixed;split
 .exact Yz _ (by decide)
 .exact Yz _ (by decide)
theorem Rv (c k:Int):mixed c k<2147483629:=by
 unfold mixed;split
 .have:=Yo (c / 1000 / (10 ^ 7) ^ k.toNat) (show(0:Int)<10 ^ 7 by decide);lia
 .exact Yo _ (by decide)
def zbd:PF:=λds Q=>∃c k:Int,ds=[.int c,.int k]/\0<=k/\k<=1000/\Q (.int (mixed c k)) .aF
theorem tG:cW zbd:=λds Q Q' m ⟨c,j,e,h1,h2,q⟩=>⟨c,j,e,h1,h2,m _ _ q⟩
def zaQ:PF:=λds Q=>∃(c many:Int)(es:List PV)(x:PV),ds=[.int c,x,.int many]/\(x=.lst es\/x=.tup es)/\es.length<=100/\
 ∀told left:List PV,(told++left).Perm es->told.length=min many.toNat es.length->Q (.lst told) .new
theorem zkU:cW zaQ:=λds Q Q' m ⟨c,n,es,x,e,h1,h2,q⟩=>⟨c,n,es,x,e,h1,h2,λt l a b=>m _ _ (q t l a b)⟩
abbrev ABC:Str:="ABCDEFGHIJKLMNOPQRSTUVWXYZ"
def zQ (n:Nat):Tn:=(XE 6).map λi=>⟨#[65+n+i]⟩
theorem zvb:∀n:Nat,n<21->signs (Txt.slice ABC (some (n:Int)) (some ((n:Int)+6)))=zQ n:=by decide +kernel
theorem zxg:∀n:Nat,n<21->(Txt.slice ABC (some (n:Int)) (some ((n:Int)+6))).length=6:=by decide +kernel
theorem zxh:∀n:Nat,n<21->(zQ n).Nodup:=by decide +kernel
theorem Hq (n:Nat):(zQ n).length=6:=by simp[zQ]
def wK (c:Int):Nat:=(mixed c 1 % 21).toNat
def zat:PF:=λds Q=>∃c:Int,ds=[.int c]/\Q (.lst ((zQ (wK c)).map PV.str)) .new
theorem ziR:cW zat:=λds Q Q' m ⟨c,e,q⟩=>⟨c,e,m _ _ q⟩
theorem Rw:∀ {L:Tn}{told:List PV},(∀d∈told,d∈L.map PV.str)->∃ts:Tn,told=ts.map PV.str/\∀x∈ts,x∈L
 | L,[],_=>⟨[],rfl,λx h=>by cases h⟩
 | L,d::told,h=>by
  obtain⟨ts,e,h2⟩:=Rw (L:=L) (told:=told) λd hd=>h d (Xf _ hd);obtain⟨x,hx,rfl⟩:=XF.mp (h d (Xh ..));exact⟨x::ts,by rw[e];rfl,λy hy=>by rcases Xn.mp hy with rfl | hy;exact hx;exact h2 y hy⟩
theorem zvc {told left:List PV}(h:(told++left).Perm (L.map PV.str)):∃ts:Tn,told=ts.map PV.str/\∀x∈ts,x∈L:=
 Rw λd hd=>h.mem_iff.mp (Yj _ hd)
theorem yd {l:List PV}{i:Int}(h0:0<=i)(h1:i<l.length):∃x,gM l i=some x/\l[i.toNat]? = some x:=by
 obtain⟨n,rfl⟩:∃n:Nat,i=n:=⟨i.toNat,by lia⟩;have hn:n<l.length:=by lia
 exact⟨l[n],jt (by simp[hn]),by simp[hn]⟩
theorem Rx (l:List PV){i:Int}(h0:0<=i)(h1:i<=l.length):eV l none (some i)=l.take i.toNat:=by
 obtain⟨n,rfl⟩:∃n:Nat,i=n:=⟨i.toNat,by lia⟩;unfold eV;rw[HT.vg,HT.JG,Oi (by lia)];simp
theorem Ry (l:List PV){i:Int}(h0:0<=i)(h1:i<=l.length):eV l (some i) none=l.drop i.toNat:=by
 obtain⟨n,rfl⟩:∃n:Nat,i=n:=⟨i.toNat,by lia⟩;unfold eV;rw[HT.vg,HT.JG,Oi (by lia),Xs (by simp)];simp
section
variable {P:Wg}{w:Wj}{K:Xa}{mg:Tj}{base:Heap}
theorem Rz:cL ["_law_cell","_law_k","_law_left","_law_j","_law_one"] ["_law_cell","_law_k"] (bf Ck):=fsc
abbrev Z1 (P:Wg)(w:Wj)(K:Xa)(mg:Tj)(base:Heap)(k:Nat)(f:Addr)(fd:Wk):=aA P w K mg base aN k f fd ["_law_cell","_law_k"] (aX K zbd)
theorem zR (F:cj K "_law_mixed" "_law_mixed" Ck f fd) (B:Bl mg):Z1 P w K mg base 1 f fd:=by
 refine dI F Rz (λds Q ⟨c,j,e,_⟩=>by rw[e];rfl) (λcdv A outer s H E hr=>?_);have hu:=bG hr;have nd:=Rz.nd;refine⟨_,(aV (jM (Bh (ak 0) (vy bA bA)) (aV (bH (i:=2) nd rfl (Qk rfl) (vq (ak 0) bA))
   (aV (j4 rfl Ql (sW rfl B.range (aB (ak 1) aJ)) (cB (i:=3) nd rfl (Qk rfl)) (bF (bH (i:=2) nd rfl (Qk rfl) (vq (ak 2) (vy bA bA)))))
   (bF (cX (jG (ak 2) (vy bA bA)))))) jL)
   (aV (bH (i:=4) nd rfl (Qk rfl) (jG (mD (iU (iU (jG (ak 0) bA) (mD (mD bA (ak 1)) (ak 1))) (mD bA (ak 1))) bA) bA))
   (bF (cX (jG (mD (ak 4) (iU (iU (jG (ak 4) bA) (mD bA (ak 1))) bA)) bA))))),λds Q h=>?_⟩
 obtain⟨c,k,rfl,h0,h1,q⟩:=h;walk_at "pu";have p7:(10:Int) ^ Int.toNat 7=10000000:=by decide
 have p8:(10:Int) ^ Int.toNat 8=100000000:=by decide
 refine⟨⟨by decide,by decide,by decide⟩,bT (λe1=>?a) (λe1=>?b)⟩
 case a=>
  walk_at "auto";obtain⟨Iv,aP⟩:∃Iv:Nat->aC->Prop,∀i U,Iv i U↔∃kv:Option (PV×Bool),U=[some (PV.int c,false),some (PV.int k,false),some (PV.int (c / 1000 / (10 ^ 7) ^ i),false),kv,none]:=⟨_,λ_ _=>Qy⟩;refine⟨Iv,(aP _ _).mpr ⟨none,by simp⟩,?_,?_⟩
  .intro i d U hd hI;obtain⟨kv,rfl⟩:=(aP _ _).mp hI;obtain⟨hi,rfl⟩:=vG hd;walk_at "go";walk_at "auto";refine(aP _ _).mpr ⟨some (PV.int (0+(i:Int)),false),?_⟩;have e3:c / 1000 / (10 ^ 7) ^ i / 10 ^ Int.toNat 7=c / 1000 / (10 ^ 7) ^ (i+1):=by
    rw[p7,show((10:Int) ^ 7)=10000000 from by decide,Int.pow_succ,Int.ediv_ediv_of_nonneg (Int.pow_nonneg (by decide))]
   rw[e3]
  .intro U hI;obtain⟨kv,rfl⟩:=(aP _ _).mp hI;rw[sV];walk_at "auto";unfold mixed at q;rw[Qf (by lia)]at q;exact q
 case b=>
  walk_at "auto";unfold mixed at q;rw[Qe (by lia)]at q;exact q
theorem RD:cL ["_law_cell","_law_some","_law_many","_law_left","_law_told","_law_at"] ["_law_cell","_law_some","_law_many"] (bf wC):=fsc
abbrev Y3 (K:Xa)(mg:Tj):=Fx K mg "_law_mixed" Ck ["_law_cell","_law_k"]
theorem zpZ (F:cj K "_law_picked" "_law_picked" wC f fd) (aM:Y3 K mg fM fdM) (B:Bl mg):aA P w K mg base aN 2 f fd ["_law_cell","_law_some","_law_many"] (aX K zaQ):=by
 have cu:Z1 P w K mg base 1 fM fdM:=zR aM.fn B;refine dI F RD (λds Q ⟨c,n,es,x,e,_⟩=>by rw[e];rfl) (λcdv A outer s H E hr=>?_);have hu:=bG hr;have nd:=RD.nd;refine⟨_,(aV (bH (i:=3) nd rfl (Qk rfl) (LC rfl B.list (aB (ak 1) aJ)))
   (aV (bH (i:=4) nd rfl (Qk rfl) (jk aJ))
   (aV (Bf Ql (lu.t (Bb (uw (gb rfl B.len (aB (ak 4) aJ)) (ak 2)) (Az (Bh (gb rfl B.len (aB (ak 3) aJ)) bA)))) (aV (bH (i:=5) nd rfl (Qk rfl) (jG (cM cu tG hr rfl aM.mg aM.fn.kp aM.bd (aB (ak 0) (aB (iU bA (gb rfl B.len (aB (ak 4) aJ))) aJ))) (gb rfl B.len (aB (ak 3) aJ))))
   (aV (oU (sX 4 (di (ak 3) (ak 5))))
   (bF (bH (i:=3) nd rfl (Qk rfl) (vL (vK (ak 3) yO (qG (ak 5))) (vK (ak 3) (qG (iU (ak 5) bA)) yO)))))))
   (bF (cX (ak 4)))))),λds Q h=>?_⟩
 obtain⟨c,many,es,x,rfl,hx,hz,q⟩:=h;walk_at "pu";refine⟨es,hx,?_⟩;walk_at "auto";obtain⟨Iv,aP⟩:∃Iv:Nat->aC->Prop,∀m U,Iv m U↔∃(told left:List PV) (kv:Option (PV×Bool)),U=[some (PV.int c,false),some (x,false),some (PV.int many,false),some (PV.lst left,true),some (PV.lst told,true),kv]/\
   (told++left).Perm es/\told.length<=many.toNat/\m=left.length:=⟨_,λ_ _=>Qy⟩
 refine⟨Iv,⟨_,(aP _ _).mpr ⟨[],es,none,rfl,by simp,XM _,rfl⟩⟩,?_⟩;intro m U hI;obtain⟨told,left,kv,rfl,hp,hm,rfl⟩:=(aP _ _).mp hI;have hlen:=hp.length_eq;rw[Xr]at hlen;walk_at "go";have fin:(told.length=min many.toNat es.length)->b8 (pRet (pVar 4)) { nx:=λx=>Q PV.non Kd.aF,rt:=Q,bk:=λx=>False,ct:=λx=>False }
    [some (PV.int c,false),some (x,false),some (PV.int many,false),some (PV.lst left,true),some (PV.lst told,true),kv]:=λhl=>by
  walk_at "go";exact q told left hp hl
 refine bT (λe1=>bT (λe2=>?_) (λe2=>fin (by lia))) (λe1=>fin (by lia));have hl0:0<left.length:=by lia
 have n1:=Yz (mixed c (3+(told.length:Int))) (show(left.length:Int)≠0 by lia);have n2:=Yo (mixed c (3+(told.length:Int))) (show(0:Int)<left.length by lia);obtain⟨y,hy,hy2⟩:=yd n1 n2;walk_at "go";walk_at "auto";generalize hat:mixed c (3+(told.length:Int)) % (left.length:Int)=at_ at *;refine⟨by rw[Wi];lia,y,hy,?_⟩;walk_at "go";rw[Rx left n1 (by lia),Ry left (i:=at_+1) (by lia) (by lia)];have hn:at_.toNat<left.length:=by lia
 have e3:(at_+1).toNat=at_.toNat+1:=by lia
 rw[e3];have hsp:left=left.take at_.toNat++y::left.drop (at_.toNat+1):=by
  rw[Xd hn]at hy2;cases hy2;rw[List.getElem_cons_drop,Yp]
 refine⟨by rw[XH,Ow,Wi];lia,left.length-1,by lia,(aP _ _).mpr ⟨told++[y],_,_,rfl,?_,by rw[Xr,QV];lia,by rw[Xr,XH,Ow];lia⟩⟩;refine List.Perm.trans ?_ hp
 conv=>rhs;rw[hsp]
 rw[QM];refine List.Perm.append_left _ ?_;exact(List.perm_middle (a:=y) (l₁:=left.take at_.toNat) (l₂:=left.drop (at_.toNat+1))).symm
theorem RG:cL ["_law_cell","_law_first"] ["_law_cell"] (bf zK):=fsc
theorem zkW (F:cj K "_law_alphabet" "_law_alphabet" zK f fd) (aM:Y3 K mg fM fdM) (B:Bl mg):aA P w K mg base aN 2 f fd ["_law_cell"] (aX K zat):=by
 have cu:Z1 P w K mg base 1 fM fdM:=zR aM.fn B;refine dI F RG (λds Q ⟨c,e,_⟩=>by rw[e];rfl) (λcdv A outer s H E hr=>?_);have hu:=bG hr;have nd:=RG.nd;refine⟨_,(aV (bH (i:=1) nd rfl (Qk rfl) (jG (cM cu tG hr rfl aM.mg aM.fn.kp aM.bd (aB (ak 0) (aB bA aJ))) bA))
   (bF (cX (zrD rfl rfl B.list (aB (zpg KC (qG (ak 1)) (qG (iU (ak 1) bA))) aJ))))),λds Q h=>?_⟩
 obtain⟨c,rfl,q⟩:=h;have n1:=Yz (mixed c 1) (show(21:Int)≠0 by decide);have n2:=Yo (mixed c 1) (show(0:Int)<21 by decide);have e1:mixed c 1 % 21=(wK c:Int):=by unfold wK;lia
 have h21:wK c<21:=by lia
 walk_at "pu";walk_at "auto";rw[e1];refine⟨by rw[zxg _ h21,Wi];lia,?_⟩;rw[zvb _ h21];exact q
end
def qU (L:Tn)(n:Nat)(sh:Te):Prop:=sh.length=n/\∀p∈sh,p.length<=4/\∀x∈p,x∈L
theorem qU.snoc (h:qU L n sh)(h1:p.length<=4)(h2:∀x∈p,x∈L):qU L (n+1) (sh++[p]):=
 ⟨by rw[Xr,h.1];rfl,λq hq=>by
  rcases Xz.mp hq with hq | hq
  .exact h.2 q hq
  .rw[Xv]at hq;subst hq;exact⟨h1,h2⟩⟩
def zax:PF:=λds Q=>∃(cs:Tp)(a many:Int),ds=[.lst (cs.map PV.int),.int a,.int many]/\0<=a/\a<=1000/\0<=many/\many<=100/\∀zs:Tp,zs.length=many.toNat->Q (.lst (zs.map PV.int)) .new
theorem ziS:cW zax:=λds Q Q' m ⟨cs,a,n,e,h1,h2,h3,h4,q⟩=>⟨cs,a,n,e,h1,h2,h3,h4,λzs h=>m _ _ (q zs h)⟩
theorem pA {cs:Tp}(h:i<cs.length){j:Int}(hj:j=i):gM (cs.map PV.int) j=some (.int cs[i]):=by
 subst hj;exact jt (by simp[h])
structure qW (L:Tn)(n:Nat)(sh:Te)(ps:Tf):Prop where
 pats:qU L n sh
 gG:ps.length=n
 ne:∀p∈sh,p≠[]
 nd:∀p∈sh,p.Nodup
 bO:∀k j:Nat,ps[k]? = some (some j)->j<k
 root:∀k:Nat,ps[k]? = some none->k=0
 conn:∀(k:Nat) (p:Tn) (x:Str),sh[k]? = some p->x∈p->(∃(j:Nat) (q:Tn),ps[k]? = some (some j)/\sh[j]? = some q/\x∈q)\/∀(i:Nat) (q:Tn),i<k->sh[i]? = some q->x∉q
structure Hr (L:Tn)(sh:Te)(new:Tn):Prop where
 nd:new.Nodup
 sub:∀x∈new,x∈L
 dis:∀p∈sh,∀x∈new,x∉p
theorem RJ {l:Tn}:(l.map PV.str).Nodup↔l.Nodup:=by
 unfold List.Nodup;rw[List.pairwise_map];simp
theorem zT {l:List M}{y z:M}{k:Nat}(h:(l++[y])[k]? = some z):l[k]? = some z\/(k=l.length/\z=y):=by
 rcases Q5 k l.length with hk | hk
 .rw[Ye hk]at h;exact .inl h
 .rw[XZ hk]at h;rcases Q5 (k-l.length) 1 with h1 | h1
  .have e:k-l.length=0:=by lia
   rw[e]at h;cases h;exact .inr ⟨by lia,rfl⟩
  .rw[XA (by simpa using h1)]at h;cases h
theorem Hs {l m:List M}{y:M}{k:Nat}(h:l[k]? = some y):(l++m)[k]? = some y:=by
 rw[Ye (Xc.mp h).1];exact h
theorem qW.snoc {L:Tn}{n m:Nat}{sh:Te}{ps:Tf}{new ts:Tn}{bO:Option Nat}(T:qW L n sh ps)(N:Hr L sh new)(h4:(new.take m++ts).length<=4)(hne:new.take m++ts≠[])
  (hts:ts.Nodup) (hp:(bO=none/\n=0/\ts=[])\/∃j q,bO=some j/\j<n/\sh[j]? = some q/\∀x∈ts,x∈q):qW L (n+1) (sh++[new.take m++ts]) (ps++[bO])/\Hr L (sh++[new.take m++ts]) (new.drop m):=by
 have hl:sh.length=n:=T.pats.1;have hin:∀x∈ts,∃p∈sh,x∈p:=λx hx=>by
  rcases hp with ⟨_,_,e⟩ | ⟨j,q,_,_,hq,hs⟩
  .rw[e]at hx;cases hx
  .exact⟨q,Xl hq,hs x hx⟩
 have hsub:∀x∈new.take m++ts,x∈L:=λx hx=>by
  rcases Xz.mp hx with hx | hx
  .exact N.sub x (Pz hx)
  .obtain⟨p,hp,hxp⟩:=hin x hx;exact(T.pats.2 p hp).2 x hxp
 refine⟨⟨T.pats.snoc h4 hsub,by rw[Xr,T.gG];rfl,?_,?_,?_,?_,?_⟩,?_⟩
 .intro p hp;rcases Xz.mp hp with hp | hp
  .exact T.ne p hp
  .rw[Xv]at hp;subst hp;exact hne
 .intro p hp;rcases Xz.mp hp with hp | hp
  .exact T.nd p hp
  .rw[Xv]at hp;subst hp;rw[Ys];refine⟨N.nd.sublist (List.take_sublist _ _),hts,λa ha b hb e=>?_⟩;subst e;obtain⟨p,hp,hxp⟩:=hin a hb;exact N.dis p hp a (Pz ha) hxp
 .intro k j h;rcases zT h with h | ⟨h1,h2⟩
  .exact T.bO k j h
  .rcases hp with ⟨e,_,_⟩ | ⟨j',q,e,hj,_,_⟩
   .rw[e]at h2;cases h2
   .rw[e]at h2;cases h2;rw[T.gG]at h1;lia
 .intro k h;rcases zT h with h | ⟨h1,h2⟩
  .exact T.root k h
  .rcases hp with ⟨e,hn,_⟩ | ⟨j',q,e,hj,_,_⟩
   .rw[T.gG]at h1;lia
   .rw[e]at h2;cases h2
 .intro k p x h hx;rcases zT h with h | ⟨h1,h2⟩
  .have hk:k<sh.length:=(Xc.mp h).1;rcases T.conn k p x h hx with ⟨j,q,h1,h2,h3⟩ | hno
   .exact .inl ⟨j,q,Hs h1,Hs h2,h3⟩
   .refine .inr λi q hi hq=>?_;rw[Ye (by lia)]at hq;exact hno i q hi hq
  .subst h2;rcases Xz.mp hx with hx | hx
   .refine .inr λi q hi hq=>?_;rw[Ye (by lia)]at hq;exact N.dis q (Xl hq) x (Pz hx)
   .rcases hp with ⟨_,_,e⟩ | ⟨j,q,e,hj,hq,hs⟩
    .rw[e]at hx;cases hx
    .refine .inl ⟨j,q,?_,Hs hq,hs x hx⟩;rw[XZ (by rw[T.gG,h1,hl];exact Xj _),h1,hl,T.gG,Nat.sub_self,e];rfl
 .refine⟨N.nd.sublist (List.drop_sublist _ _),λx hx=>N.sub x (List.mem_of_mem_drop hx),λp hp x hx hxp=>?_⟩;rcases Xz.mp hp with hp | hp
  .exact N.dis p hp x (List.mem_of_mem_drop hx) hxp
  .rw[Xv]at hp;subst hp;rcases Xz.mp hxp with h | h
   .have hd:=N.nd;rw[<- Yp m new,Ys]at hd;exact hd.2.2 x h x hx rfl
   .obtain⟨p,hp,hxp⟩:=hin x h;exact N.dis p hp x (List.mem_of_mem_drop hx) hxp
theorem qW.nil (L:Tn):qW L 0 [] []:=⟨⟨rfl,λp hp=>by cases hp⟩,rfl,λp hp=>(by cases hp),λp hp=>(by cases hp),λk j h=>(by simp at h),λk h=>(by simp at h),λk p x h=>(by simp at h)⟩
def zcQ:PF:=λds Q=>∃(cs:Tp)(L:Tn),ds=[.lst (cs.map PV.int),.lst (L.map PV.str)]/\cs.length<=6/\L.length=6/\L.Nodup/\∀sh ps,qW L cs.length sh ps->Q (.tup [.lst (sh.map ltsP),.lst (ps.map aZ)]) .aF
theorem zqa:cW zcQ:=λds Q Q' m ⟨cs,L,e,h1,h2,h3,q⟩=>⟨cs,L,e,h1,h2,h3,λsh ps a=>m _ _ (q sh ps a)⟩
section
variable {P:Wg}{w:Wj}{K:Xa}{mg:Tj}{base:Heap}
theorem RK:cL ["_law_cells","_law_at","_law_many","_law_told"] ["_law_cells","_law_at","_law_many"] (bf zN):=fsc
theorem zkX (F:cj K "_law_filled_up" "_law_filled_up" zN f fd) (B:Bl mg):aA P w K mg base aN 1 f fd ["_law_cells","_law_at","_law_many"] (aX K zax):=by
 refine dI F RK (λds Q ⟨c,a,n,e,_⟩=>by rw[e];rfl) (λcdv A outer s H E hr=>?_);have hu:=bG hr;have nd:=RK.nd;refine⟨_,(aV (bH (i:=3) nd rfl (Qk rfl) (vK (ak 0) (qG (ak 1)) (qG (iU (ak 1) (ak 2)))))
   (aV (Bf Ql (uw (gb rfl B.len (aB (ak 3) aJ)) (ak 2)) (bF (oU (sX 3 (iU (mD bA (gb rfl B.len (aB (ak 3) aJ))) (mD bA (ak 1)))))))
   (bF (cX (ak 3))))),λds Q h=>?_⟩
 obtain⟨cs,a,many,rfl,ha,ha2,hm,hm2,q⟩:=h;walk_at "pu";walk_at "auto";obtain⟨zs,hzs,nR⟩:∃zs:Tp,eV (cs.map PV.int) (some a) (some (a+many))=zs.map PV.int/\zs.length<=many.toNat:=by
  obtain⟨n,rfl⟩:∃n:Nat,a=n:=⟨a.toNat,by lia⟩;obtain⟨m,rfl⟩:∃m:Nat,many=m:=⟨many.toNat,by lia⟩;refine⟨(cs.drop (min n cs.length)).take (min (n+m) cs.length-min n cs.length),?_,?_⟩
  .unfold eV;rw[HT.vg,show((n:Int)+(m:Int))=((n+m:Nat):Int) by lia,HT.vg,Xb,List.map_take,List.map_drop]
  .rw[XH,Ow];lia
 rw[hzs];obtain⟨Iv,aP⟩:∃Iv:Nat->aC->Prop,∀m U,Iv m U↔∃zs:Tp,U=[some (PV.lst (cs.map PV.int),false),some (PV.int a,false),some (PV.int many,false),some (PV.lst (zs.map PV.int),true)]/\zs.length<=many.toNat/\m=many.toNat-zs.length:=⟨_,λ_ _=>Qy⟩;refine⟨Iv,⟨_,(aP _ _).mpr ⟨zs,rfl,nR,rfl⟩⟩,?_⟩;intro m U hI;obtain⟨zs,rfl,hl,rfl⟩:=(aP _ _).mp hI;walk_at "go";refine bT (λe1=>?_) (λe1=>?_)
 .rw[Xb]at e1;walk_at "go";rw[Xb];refine⟨by rw[Wi];lia,.inl ⟨by decide,by decide⟩,.inl ⟨by decide,by decide⟩,_,?_,(aP _ _).mpr ⟨zs++[7*(zs.length:Int)+3*a],by rw[Xp];rfl,?_,rfl⟩⟩
  all_goals (rw[Xr,QV];lia)
 .rw[Xb]at e1;walk_at "go";exact q zs (by lia)
abbrev qX:dU:=pSeq (pSet 8 (PL.tB zcF (zaN (pVar 8) (zaN (yD (pC (PV.int 4)) (PL.tB fLen (zaN (pVar 6) pNil))) (zaN (PL.tB fLen (zaN (pVar 4) pNil)) pNil)))))
        (pSeq (zbs (mApp 2 (PL.tB zbt (zaN (t2 pCat (pSlL (pVar 4) zcD (zcE (pVar 8))) (pVar 6)) pNil))))
         (pSeq (pSet 4 (pSlL (pVar 4) (zcE (pVar 8)) zcD)) (zbs (mApp 3 (pVar 7)))))
abbrev zyg:dU:=pSeq (pSet 8 (yE (zbq zbd (zaN (t2 pIx (pVar 0) (pVar 5)) (zaN (pC (PV.int 22)) pNil))) (pC (PV.int 3))))
      (pSeq
       (pIf
        (zcx (tBl (t2 (pEq false) (PL.tB fLen (zaN (pVar 6) pNil)) (pC (PV.int 0))))
         (tOrP (tBl (t2 (pEq false) (pVar 8) (pC (PV.int 0))))
          (tBl (t2 (pEq false) (PL.tB fLen (zaN (pVar 4) pNil)) (pC (PV.int 0))))))
        (pSeq (pSet 8 (pC (PV.int 1)))
         (pIf (tBl (t2 (pEq false) (PL.tB fLen (zaN (pVar 4) pNil)) (pC (PV.int 0))))
          (pSet 6 (pLst (zaN (t2 pIx (t2 pIx (pVar 2) (pVar 7)) (pC (PV.int 0))) pNil))) zcm))
        zcm) qX)
theorem RL:cL ["_law_cells","_law_letters_here","_law_shape","_law_parents","_law_new","_law_k","_law_pattern","_law_parent","_law_more"] ["_law_cells","_law_letters_here"] (bf zL):=fsc
theorem zve {fP:Addr}{fdP:Wk}(F:cj K "_law_tree" "_law_tree" zL f fd) (aM:Y3 K mg fM fdM) (Picked:Fx K mg "_law_picked" wC ["_law_cell","_law_some","_law_many"] fP fdP) (B:Bl mg):aA P w K mg base aN 3 f fd ["_law_cells","_law_letters_here"] (aX K zcQ):=by
 have cu:Z1 P w K mg base 2 fM fdM:=(zR aM.fn B).mono (by decide);have qY:aA P w K mg base aN 2 fP fdP ["_law_cell","_law_some","_law_many"] (aX K zaQ):=zpZ Picked.fn aM B;refine dI F RL (λds Q ⟨c,L,e,_⟩=>by rw[e];rfl) (λcdv A outer s H E hr=>?_);have hu:=bG hr;have nd:=RL.nd;refine⟨_,(aV (bH (i:=2) nd rfl (Qk rfl) (jk aJ))
   (aV (bH (i:=3) nd rfl (Qk rfl) (jk aJ))
   (aV (bH (i:=4) nd rfl (Qk rfl) (LC rfl B.list (aB (ak 1) aJ)))
   (aV (j4 rfl Ql (sW rfl B.range (aB (gb rfl B.len (aB (ak 0) aJ)) aJ)) (cB (i:=5) nd rfl (Qk rfl)) (aV (bH (i:=6) nd rfl (Qk rfl) (jk aJ))
   (aV (bH (i:=7) nd rfl (Qk rfl) sJ)
   (aV (jM (Bh (ak 5) bA) (aV (bH (i:=7) nd rfl (Qk rfl) (jG (cM cu tG hr rfl aM.mg aM.fn.kp aM.bd (aB (di (ak 0) (ak 5)) (aB bA aJ))) (ak 5)))
   (bF (bH (i:=6) nd rfl (Qk rfl) (cM qY zkU hr rfl Picked.mg Picked.fn.kp Picked.bd (aB (di (ak 0) (ak 5)) (aB (di (ak 2) (ak 7)) (aB (jG (cM cu tG hr rfl aM.mg aM.fn.kp aM.bd (aB (di (ak 0) (ak 5)) (aB bA aJ))) bA) aJ))))))) jL)
   (aV (bH (i:=8) nd rfl (Qk rfl) (jG (cM cu tG hr rfl aM.mg aM.fn.kp aM.bd (aB (di (ak 0) (ak 5)) (aB bA aJ))) bA))
   (aV (jM (lu.t (Bb (ur hu (gb rfl B.len (aB (ak 6) aJ)) bA) (Az (lu.t (yG (ur hu (ak 8) bA) (Ba (ur hu (gb rfl B.len (aB (ak 4) aJ)) bA))))))) (aV (bH (i:=8) nd rfl (Qk rfl) bA)
   (bF (jM (ur hu (gb rfl B.len (aB (ak 4) aJ)) bA) (bF (bH (i:=6) nd rfl (Qk rfl) (jk (aB (di (di (ak 2) (ak 7)) bA) aJ)))) jL))) jL)
   (aV (bH (i:=8) nd rfl (Qk rfl) (zup rfl rfl B.min (aB (ak 8) (aB (sO bA (gb rfl B.len (aB (ak 6) aJ))) (aB (gb rfl B.len (aB (ak 4) aJ)) aJ)))))
   (aV (oU (sX 2 (yN rfl B.tuple (aB (vL (vK (ak 4) yO (qG (ak 8))) (ak 6)) aJ))))
   (aV (bH (i:=4) nd rfl (Qk rfl) (vK (ak 4) (qG (ak 8)) yO))
   (bF (oU (sX 3 (ak 7)))))))))))))
   (bF (sS 3 (sS 2 (cX (vA (aB (ak 2) (aB (ak 3) aJ))))))))))),λds Q h=>?_⟩
 obtain⟨cs,L,rfl,h6,hL,hLn,q⟩:=h;walk_at "pu";walk_at "auto";rw[Xb];obtain⟨Iv,aP⟩:∃Iv:Nat->aC->Prop,∀i U,Iv i U↔∃(sh:Te) (ps:Tf) (new:Tn) (k1 k2 k3 k4:Option (PV×Bool)),U=[some (PV.lst (cs.map PV.int),false),some (PV.lst (L.map PV.str),false),some (PV.lst (sh.map ltsP),true),some (PV.lst (ps.map aZ),true),some (PV.lst (new.map PV.str),true),k1,k2,k3,k4]/\
   qW L i sh ps/\Hr L sh new/\(i=0->new=L):=⟨_,λ_ _=>Qy⟩
 refine⟨by lia,Iv,(aP _ _).mpr ⟨[],[],L,none,none,none,none,rfl,.nil L,⟨hLn,λ_ h=>h,λp hp=>by cases hp⟩,λ_=>rfl⟩,?_,?_⟩
 .intro i d U hd hI;obtain⟨sh,ps,new,k1,k2,k3,k4,rfl,T,N,hN0⟩:=(aP _ _).mp hI;obtain⟨hi,rfl⟩:=vG hd;have hi':i<cs.length:=by lia
  have hpl:=T.gG;have hsl:=T.pats.1;have fin:∀(ts:Tn) (bO:Option Nat) (more:Int) (kv:Option (PV×Bool)),ts.Nodup->ts.length<=2->0<=more->more<=3->((bO=none/\i=0/\ts=[])\/∃j q,bO=some j/\j<i/\sh[j]? = some q/\∀x∈ts,x∈q)->(ts=[]->1<=more/\new≠[])->
    b8 qX { nx:=Iv (i+1),rt:=Q,bk:=b8 (pFrz 3 (pFrz 2 (pRet (pTup (zaN (pVar 2) (zaN (pVar 3) pNil)))))) { nx:=λx=>Q PV.non Kd.aF,rt:=Q,bk:=λx=>False,ct:=λx=>False },ct:=Iv (i+1) }
    [some (PV.lst (Yg PV.int cs),false),some (PV.lst (Yg PV.str L),false),some (PV.lst (Yg ltsP sh),true),some (PV.lst (Yg aZ ps),true),some (PV.lst (Yg PV.str new),true),some (PV.int (0+↑i),false),some (PV.lst (ts.map PV.str),true),some (aZ bO,false),some (PV.int more,false)]:=by
   intro ts bO more kv tn1 tn2 m0 m3 hp hemp;walk_at "go";rw[Xb,Xb];obtain⟨m,hm⟩:∃m:Int,m=(if 4-(ts.length:Int)<more then if (new.length:Int)<4-(ts.length:Int) then(new.length:Int) else 4-(ts.length:Int) else if (new.length:Int)<more then(new.length:Int) else more):=⟨_,rfl⟩
   rw[<- hm];have hm0:0<=m:=by split at hm<;>split at hm<;>lia
   have hm1:m<=new.length:=by split at hm<;>split at hm<;>lia
   have hm2:m+ts.length<=4:=by split at hm<;>split at hm<;>lia
   have hm3:ts=[]->1<=m:=λz=>by
    obtain⟨z1,z2⟩:=hemp z;have z3:0<new.length:=List.length_pos_iff.mpr z2;split at hm<;>split at hm<;>lia
   clear hm;walk_at "go";have cut1:eV (new.map PV.str) none (some m)=(new.take m.toNat).map PV.str:=by rw[Rx _ hm0 (by rw[Xb];exact hm1),List.map_take]
   have cut2:eV (new.map PV.str) (some m) none=(new.drop m.toNat).map PV.str:=by rw[Ry _ hm0 (by rw[Xb];exact hm1),List.map_drop]
   rw[cut1];simp only[Xb,XH];refine⟨by rw[Wi];lia,by rw[Wi];lia,?_⟩;walk_at "go";walk_at "go";rw[cut2];obtain⟨T2,N2⟩:=T.snoc (m:=m.toNat) (ts:=ts) (bO:=bO) N (by rw[Xr,XH];lia) (λz=>by
    rw[List.append_eq_nil_iff]at z;have z1:=hm3 z.2;have z2:=congrArg List.length z.1;rw[XH,QR]at z2;lia) tn1 hp
   have e1:(sh++[new.take m.toNat++ts]).map ltsP=sh.map ltsP++[PV.tup ((new.take m.toNat).map PV.str++ts.map PV.str)]:=by rw[Xp];simp only[Xq,YE,ltsP,Xp]
   have e2:(ps++[bO]).map aZ=ps.map aZ++[aZ bO]:=by rw[Xp];rfl
   refine⟨by rw[Xb,Wi];lia,(aP _ _).mpr ⟨sh++[new.take m.toNat++ts],ps++[bO],new.drop m.toNat,_,_,_,_,by rw[e1,e2],T2,N2,λz=>by lia⟩⟩
  have rest:∀(ts:Tn) (bO:Option Nat) (kv:Option (PV×Bool)),ts.Nodup->ts.length<=2->((bO=none/\i=0/\ts=[])\/∃j q,bO=some j/\j<i/\sh[j]? = some q/\∀x∈ts,x∈q)->
    b8 zyg { nx:=Iv (i+1),rt:=Q,bk:=b8 (pFrz 3 (pFrz 2 (pRet (pTup (zaN (pVar 2) (zaN (pVar 3) pNil)))))) { nx:=λx=>Q PV.non Kd.aF,rt:=Q,bk:=λx=>False,ct:=λx=>False },ct:=Iv (i+1) }
    [some (PV.lst (Yg PV.int cs),false),some (PV.lst (Yg PV.str L),false),some (PV.lst (Yg ltsP sh),true),some (PV.lst (Yg aZ ps),true),some (PV.lst (Yg PV.str new),true),some (PV.int (0+↑i),false),some (PV.lst (ts.map PV.str),true),some (aZ bO,false),kv]:=by
   intro ts bO kv tn1 tn2 hp;walk_at "go";refine⟨_,pA hi' (by lia),_,rfl,by decide,by decide,by decide,?_⟩;generalize mixed cs[i] 22=c22;have n1:=Yz c22 (show(3:Int)≠0 by decide);have n2:=Yo c22 (show(0:Int)<3 by decide);walk_at "go";have mid:∀v:PV,ts=[]->b8 (pSeq (pSet 8 (pC (PV.int 1)))
     (pIf (tBl (PL.t2 (pEq false) (PL.tB fLen (zaN (pVar 4) pNil)) (pC (PV.int 0))))
      (pSet 6 (pLst (zaN (PL.t2 pIx (PL.t2 pIx (pVar 2) (pVar 7)) (pC (PV.int 0))) pNil))) zcm))
    {nx:=b8 qX { nx:=Iv (i+1),rt:=Q,bk:=b8 (pFrz 3 (pFrz 2 (pRet (pTup (zaN (pVar 2) (zaN (pVar 3) pNil)))))) { nx:=λx=>Q PV.non Kd.aF,rt:=Q,bk:=λx=>False,ct:=λx=>False },ct:=Iv (i+1) },
     rt:=Q,bk:=b8 (pFrz 3 (pFrz 2 (pRet (pTup (zaN (pVar 2) (zaN (pVar 3) pNil)))))) { nx:=λx=>Q PV.non Kd.aF,rt:=Q,bk:=λx=>False,ct:=λx=>False },ct:=Iv (i+1) }
    [some (PV.lst (Yg PV.int cs),false),some (PV.lst (Yg PV.str L),false),some (PV.lst (Yg ltsP sh),true),some (PV.lst (Yg aZ ps),true),some (PV.lst (Yg PV.str new),true),some (PV.int (0+↑i),false),
     some (PV.lst (Yg PV.str ts),true),some (aZ bO,false),some (v,false)]:=by
    intro v hts;subst hts;walk_at "go";walk_at "go";rw[Xb];refine bT (λe=>?_) (λe=>?_)
    .walk_at "go";rcases hp with ⟨_,hi0,_⟩ | ⟨j,p,rfl,hj,hq,_⟩
     .have:=hN0 hi0;rw[this]at e;lia
     .have hpm:=Xl hq;have hne:=T.ne p hpm;have hpl0:0<p.length:=List.length_pos_iff.mpr hne;have hat:gM (sh.map ltsP) (j:Int)=some (ltsP p):=jt (by rw[Xg,hq];rfl);have qO:gM (p.map PV.str) 0=some (.str p[0]):=jt (j:=0) (by simp[hpl0]);refine⟨_,⟨_,rfl,hat⟩,_,.inl ⟨_,.inr rfl,qO⟩,by decide,?_⟩;exact fin [p[0]] (some j) 1 none (by simp) (by simp) (by decide) (by decide) (.inr ⟨j,p,rfl,hj,hq,λx hx=>by rw[Xv]at hx;subst hx;exact YA _⟩) λz=>by cases z
    .walk_at "go";exact fin [] bO 1 none QG (XM _) (by decide) (by decide) hp λ_=>⟨by decide,λz=>e (by rw[z];rfl)⟩
   have plain0:∀v:Int,ts≠[]\/(1<=v/\new≠[])->0<=v->v<=3->b8 zcm
    {nx:=b8 qX { nx:=Iv (i+1),rt:=Q,bk:=b8 (pFrz 3 (pFrz 2 (pRet (pTup (zaN (pVar 2) (zaN (pVar 3) pNil)))))) { nx:=λx=>Q PV.non Kd.aF,rt:=Q,bk:=λx=>False,ct:=λx=>False },ct:=Iv (i+1) },
     rt:=Q,bk:=b8 (pFrz 3 (pFrz 2 (pRet (pTup (zaN (pVar 2) (zaN (pVar 3) pNil)))))) { nx:=λx=>Q PV.non Kd.aF,rt:=Q,bk:=λx=>False,ct:=λx=>False },ct:=Iv (i+1) }
    [some (PV.lst (Yg PV.int cs),false),some (PV.lst (Yg PV.str L),false),some (PV.lst (Yg ltsP sh),true),some (PV.lst (Yg aZ ps),true),some (PV.lst (Yg PV.str new),true),some (PV.int (0+↑i),false),
     some (PV.lst (Yg PV.str ts),true),some (aZ bO,false),some (PV.int v,false)]:=by
    intro v hv h0 h3;walk_at "go";exact fin ts bO v none tn1 tn2 h0 h3 hp λz=>hv.elim (λy=>Qg z y) id
   refine bT (λe1=>bT (λe2=>?_) (λe2=>bT (λe3=>?_) (λe3=>?_))) (λe1=>?_)
   .exact mid _ (YQ.mp (by rw[Xb]at e1;lia))
   .exact mid _ (YQ.mp (by rw[Xb]at e1;lia))
   .exact plain0 _ (.inr ⟨by lia,λz=>e3 (by rw[z];rfl)⟩) (by lia) (by lia)
   .exact plain0 _ (.inl λz=>e1 (by rw[z];rfl)) (by lia) (by lia)
  walk_at "go";refine⟨XM _,?_⟩;walk_at "go";walk_at "go";refine bT (λe1=>?_) (λe1=>?_)
  .walk_at "go";refine⟨_,pA hi' (by lia),_,rfl,by decide,by decide,by lia,?_⟩;have n1:=Yz (mixed cs[i] 20) (show(0+(i:Int))≠0 by lia);have n2:=Yo (mixed cs[i] 20) (show(0:Int)<0+(i:Int) by lia);generalize mixed cs[i] 20 % (0+(i:Int))=pj at *;obtain⟨j,rfl⟩:∃j:Nat,pj=j:=⟨pj.toNat,by lia⟩;have hj:j<sh.length:=by lia
   have hat:gM (sh.map ltsP) (j:Int)=some (ltsP sh[j]):=jt (by simp[hj]);have hjm:=YA hj;have hj4:=(T.pats.2 _ hjm).1;have n3:=Yz (mixed cs[i] 21) (show(3:Int)≠0 by decide);have n4:=Yo (mixed cs[i] 21) (show(0:Int)<3 by decide);walk_at "go";refine⟨_,pA hi' (by lia),_,hat,_,pA hi' (by lia),_,rfl,by decide,by decide,by decide,⟨_,rfl⟩,_,.inr rfl,by rw[Xb];lia,λtold left hp hl=>?_⟩;obtain⟨ts,rfl,hts⟩:=zvc hp;rw[Xb,Xb]at hl;refine rest ts (some j) k4 ?_ (by lia) (.inr ⟨j,sh[j],rfl,by lia,by simp[hj],hts⟩);have hn:=T.nd _ hjm;have hp2:((ts.map PV.str)++left).Nodup:=hp.nodup_iff.mpr (RJ.mpr hn);have hp3:=(Ys.mp hp2).1;exact RJ.mp hp3
  .walk_at "go";exact rest [] none k4 QG (XM _) (.inl ⟨rfl,by lia,rfl⟩)
 .intro U hI;obtain⟨sh,ps,new,k1,k2,k3,k4,rfl,T,N,hN0⟩:=(aP _ _).mp hI;rw[sV]at T;walk_at "go";exact⟨by decide,q sh ps (by simpa using T)⟩
end
def kO (n:Nat)(ps:Tf):Tf:=ps.reverse.map (Option.map λp=>n-1-p)
def zaR:PF:=λds Q=>∃(sh:Te)(ps:Tf),ds=[shpP sh,zbl ps]/\sh.length=ps.length/\0<ps.length/\ps.length<=100/\(∀p,some p∈ps->p<ps.length)/\Q (.tup [shpP sh.reverse,zbl (kO sh.length ps)]) .aF
theorem zkY:cW zaR:=λds Q Q' m ⟨a,b,e,h1,h2,h3,h4,q⟩=>⟨a,b,e,h1,h2,h3,h4,m _ _ q⟩
section
variable {P:Wg}{w:Wj}{K:Xa}{mg:Tj}{base:Heap}
theorem RM:cL ["_law_shape","_law_parents","_law_last","_law_told","_law_parent"] ["_law_shape","_law_parents"] (bf zM):=fsc
theorem zqb (F:cj K "_law_turned" "_law_turned" zM f fd) (B:Bl mg):aA P w K mg base aN 1 f fd ["_law_shape","_law_parents"] (aX K zaR):=by
 refine dI F RM (λds Q ⟨a,b,e,_⟩=>by rw[e];rfl) (λcdv A outer s H E hr=>?_);have hu:=bG hr;have nd:=RM.nd;refine⟨_,(aV (bH (i:=2) nd rfl (Qk rfl) (sO (gb rfl B.len (aB (ak 0) aJ)) bA))
   (aV (bH (i:=3) nd rfl (Qk rfl) (jk aJ))
   (aV (j4 rfl Ql (jN (Gh (ak 1))) (cB (i:=4) nd rfl (Qk rfl)) (bF (jM (FT (ak 4) sJ) (bF (oU (sX 3 sJ))) (bF (oU (sX 3 (sO (ak 2) (ak 4))))))))
   (bF (sS 3 (cX (vA (aB (Gh (ak 0)) (aB (ak 3) aJ))))))))),λds Q h=>?_⟩
 obtain⟨sh,ps,rfl,hl,h0,h1,hp,q⟩:=h;have hsz:=Wi;walk_at "pu";walk_at "auto";have hln:∀i,(kO sh.length ps)[i]? = (ps.reverse[i]?).map (Option.map λp=>sh.length-1-p):=λi=>by unfold kO;rw[Xg]
 obtain⟨Iv,aP⟩:∃Iv:Nat->aC->Prop,∀i U,Iv i U↔∃kv:Option (PV×Bool),U=[some (PV.lst (sh.map ltsP),false),some (PV.lst (ps.map aZ),false),some (PV.int (((sh.map ltsP).length:Int)-1),false),some (PV.lst (((kO sh.length ps).take i).map aZ),true),kv]:=⟨_,λ_ _=>Qy⟩;refine⟨Iv,(aP _ _).mpr ⟨none,rfl⟩,?_,?_⟩
 .intro i d U hd hI;obtain⟨kv,rfl⟩:=(aP _ _).mp hI;rw[<- P0,Xg]at hd;cases ho:ps.reverse[i]? with
  | none=>rw[ho]at hd;cases hd
  | some o=>
   rw[ho]at hd;cases hd;have ht:=hln i;rw[ho]at ht;have hi:i<ps.length:=by
    have:=(Xc.mp ho).1
    rwa [Ya]at this
   have hlen:(((kO sh.length ps).take i).map aZ).length<=100:=by
    rw[Xb,XH];lia
   have e2:=take_snoc ht;cases o with
   | none=>
    walk_at "go";refine bT (λe=>?_) (λe=>Qg rfl e);walk_at "go";refine⟨by lia,(aP _ _).mpr ⟨some (aZ none,false),?_⟩⟩;rw[<- e2,Xp];rfl
   | some p=>
    have hpl:=hp p (YB.mp (Xl ho));walk_at "go";refine bT (λe=>nomatch e) (λe=>?_);walk_at "go";refine⟨by lia,_,rfl,(aP _ _).mpr ⟨some (aZ (some p),false),?_⟩⟩;rw[<- e2,Xp,Xb];have e3:(sh.length:Int)-1-(p:Int)=((sh.length-1-p:Nat):Int):=by lia
    rw[e3];rfl
 .intro U hI;obtain⟨kv,rfl⟩:=(aP _ _).mp hI;walk_at "go";refine⟨by lia,?_⟩;rw[Xs (by unfold kO;simp),<- P0];exact q
def zbS:PF:=λds Q=>∃i:Int,ds=[.int i]/\Q (.bl true) .aF
theorem RN:cW zbS:=λds Q Q' m ⟨i,e,q⟩=>⟨i,e,m _ _ q⟩
theorem RP:cL ["_law_found"] ["_law_found"] (bf zJ):=fsc
theorem zsf (F:cj K "_law_whole" "_law_whole" zJ f fd) (B:Bl mg):aA P w K mg base aN 1 f fd ["_law_found"] (aX K zbS):=by
 refine dI F RP (λds Q ⟨c,e,_⟩=>by rw[e];rfl) (λcdv A outer s H E hr=>?_);have hu:=bG hr;have nd:=RP.nd;refine⟨_,(bF (cX (zwr (Gg (K:=K) rfl rfl B.isi (aB (ak 0) (aB (Ff rfl B.int Ga) aJ))) (zwq (zwp (Gg (K:=K) rfl rfl B.isi (aB (ak 0) (aB (Ff rfl B.bool zxW) aJ)))))))),λds Q h=>?_⟩;obtain⟨i,rfl,q⟩:=h;walk_at "pu";exact⟨true,Mi,ud ⟨false,zjM,q⟩⟩
end
def tH (ps:Tf)(i k:Nat):Tt:=(XE k).filter λc=>ps[c]? == some (some i)
theorem zsg {k:Nat}(h:k<=ps.length):∃t,kids ps i=tH ps i k++t:=by
 refine⟨((XE ps.length).drop k).filter λc=>ps[c]? == some (some i),?_⟩;unfold kids tH;rw[<- YG,show XE k=(XE ps.length).take k by rw[List.take_range,Oi h],Yp]
def zaC (t:Nat):PF:=λds Q=>∃(ps:Tf)(rk:Tw)(i:Nat),ds=[zbl ps,.int i]/\ps.length<=100/\jd ps rk/\rk i<t/\(pre ps t i).length<=100000/\Q (zco (pre ps t i)) .new
theorem wL (t:Nat):cW (zaC t):=λds Q Q' m ⟨a,b,c,e,h1,h2,h3,h4,q⟩=>⟨a,b,c,e,h1,h2,h3,h4,m _ _ q⟩
section
variable {P:Wg}{w:Wj}{K:Xa}{mg:Tj}{base:Heap}
theorem Ht:cL ["_law_parents","_law_i","_law_told","_law_k"] ["_law_parents","_law_i"] (bf Hj):=fsc
abbrev Y6 (K:Xa)(mg:Tj):=Fx K mg "_law_beneath" Hj ["_law_parents","_law_i"]
theorem RQ (bC:Y6 K mg f fd) (B:Bl mg):∀t,aA P w K mg base aN (t+1) f fd ["_law_parents","_law_i"] (aX K (zaC t))
 | 0=>by
  refine bC.fn.ok Ht (FN (λds Q ⟨a,b,c,e,_⟩=>by rw[e];rfl)) (λcdv A outer s H vs Q E hr h=>?_);obtain⟨Fz,ds,al,hd,ps,rk,i,_,_,_,h0,_⟩:=h;exact Qg h0 (Yl _)
 | t+1=>by
  have iB:aA P w K mg base aN (t+1) f fd ["_law_parents","_law_i"] (aX K (zaC t)):=RQ bC B t;have wL:=wL t;refine dI bC.fn Ht (λds Q ⟨a,b,c,e,_⟩=>by rw[e];rfl) (λcdv A outer s H E hr=>?_);have hu:=bG hr;have nd:=Ht.nd;refine⟨_,(aV (bH (i:=2) nd rfl (Qk rfl) (jk (aB (ak 1) aJ)))
   (aV (j4 rfl Ql (sW rfl B.range (aB (gb rfl B.len (aB (ak 0) aJ)) aJ)) (cB (i:=3) nd rfl (Qk rfl)) (bF (jM (lu.t (Bb (zry (di (ak 0) (ak 3)) sJ) (Az (ur hu (di (ak 0) (ak 3)) (ak 1))))) (bF (bH (i:=2) nd rfl (Qk rfl) (vL (ak 2) (cM iB wL hr rfl bC.mg bC.fn.kp bC.bd (aB (ak 0) (aB (ak 3) aJ)))))) jL)))
   (bF (cX (ak 2))))),λds Q h=>?_⟩
  obtain⟨ps,rk,i,rfl,h1,R,h2,h3,q⟩:=h;have hsz:=Wi;walk_at "pu";walk_at "auto";have hlen:∀k,k<=ps.length->(i::(tH ps i k).flatMap (pre ps t)).length<=100000:=λk hk=>by
   obtain⟨r,hr⟩:=zsg (i:=i) hk;have e:pre ps (t+1) i=i::(kids ps i).flatMap (pre ps t):=rfl;rw[e,hr,Pb,Xy,Xr]at h3;rw[Xy];lia
  obtain⟨Iv,aP⟩:∃Iv:Nat->aC->Prop,∀k U,Iv k U↔∃kv:Option (PV×Bool),U=[some (PV.lst (ps.map aZ),false),some (PV.int i,false),some (PV.lst ((i::(tH ps i k).flatMap (pre ps t)).map λ(k:Nat)=>PV.int k),true),kv]:=⟨_,λ_ _=>Qy⟩;refine⟨by rw[Xb];lia,Iv,(aP _ _).mpr ⟨none,rfl⟩,?_,?_⟩
  .intro k d U hd hI;obtain⟨kv,rfl⟩:=(aP _ _).mp hI;obtain⟨hk,rfl⟩:=vG hd;rw[Xb]at hk;have hk':k<ps.length:=by lia
   obtain⟨o,ho⟩:∃o,ps[k]? = some o:=⟨_,Xd hk'⟩;have hat:gM (ps.map aZ) (0+(k:Int))=some (aZ o):=by
    rw[Int.zero_add];exact jt (by rw[Xg,ho];rfl)
   have hks:tH ps i (k+1)=tH ps i k++(if o=some i then[k] else[]):=by
    unfold tH;rw[List.range_succ,YG];by_cases h:o=some i
    .rw[Qf h,Yx (by rw[ho,h];simp)];rfl
    .rw[Qe h,Yw (by rw[ho];simpa using h)];rfl
   have hl2:=hlen (k+1) (by lia);rw[hks]at hl2;have hpe:(aZ o=PV.int i)↔o=some i:=by
    cases o with
    | none=>exact⟨λz=>(nomatch z),λz=>(nomatch z)⟩
    | some p=>
     constructor
     .intro z;have z':(p:Int)=(i:Int):=PV.int.inj z;rw[show p=i by lia]
     .intro z;cases z;rfl
   have skip:o≠some i->Iv (k+1) [some (PV.lst (ps.map aZ),false),some (PV.int i,false),some (PV.lst (PV.int i::((tH ps i k).flatMap (pre ps t)).map λ(k:Nat)=>PV.int k),true),some (PV.int (0+(k:Int)),false)]:=λh=>
    (aP _ _).mpr ⟨some (PV.int (0+(k:Int)),false),by rw[hks,Qe h,XG];rfl⟩
   walk_at "go";refine⟨_,hat,bT (λe1=>⟨_,hat,by cases o<;>rfl,bT (λe2=>?_) (λe2=>?_)⟩) (λe1=>?_)⟩
   .have e3:=hpe.mp e2;have hrk:=R.lt k i (by rw[ho,e3]);rw[Qf e3,Pb,List.flatMap_singleton,Xy,Xr]at hl2;walk_at "go";refine⟨ps,rfl,rk,k,by lia,by lia,R,by lia,by lia,?_⟩;rw[Xb,Xb];refine⟨by lia,(aP _ _).mpr ⟨some (PV.int (0+(k:Int)),false),?_⟩⟩;rw[hks,Qf e3,Pb,List.flatMap_singleton,Xq,Xp]
   .walk_at "go";exact skip λz=>e2 (hpe.mpr z)
   .walk_at "go";refine skip λz=>e1 ?_;rw[z];exact λy=>nomatch y
  .intro U hI;obtain⟨kv,rfl⟩:=(aP _ _).mp hI;walk_at "go";rw[sV,Xb];exact q
def zbY (t:Nat):PF:=λds Q=>∃(ps:Tf)(rk:Tw)(r:Nat),ds=[zbl ps]/\ps.length<=100/\jd ps rk/\rk r<t/\ps[r]? = some none/\(∀k,ps[k]? = some none->k=r)/\(pre ps t r).length<=100000/\Q (zco (pre ps t r)) .new
theorem Hu (t:Nat):cW (zbY t):=λds Q Q' m ⟨a,b,c,e,h1,h2,h3,h4,h5,h6,q⟩=>⟨a,b,c,e,h1,h2,h3,h4,h5,h6,m _ _ q⟩
theorem RT:cL ["_law_parents","_law_roots"] ["_law_parents"] (bf uW):=fsc
theorem zsh (t:Nat)(F:cj K "_law_walk" "_law_walk" uW f fd) (bC:Y6 K mg f1 eZ) (B:Bl mg):aA P w K mg base aN (t+2) f fd ["_law_parents"] (aX K (zbY t)):=by
 have iB:aA P w K mg base aN (t+1) f1 eZ ["_law_parents","_law_i"] (aX K (zaC t)):=RQ bC B t;have wL:=wL t;refine dI F RT (λds Q ⟨a,b,c,e,_⟩=>by rw[e];rfl) (λcdv A outer s H E hr=>?_);have hu:=bG hr;have nd:=RT.nd;refine⟨_,(aV (Lk (i:=1) (N:=["_law_k","_law_parents"]) (k:=1) (js:=[0]) rfl (jX (sup:=bf uW) (XN:=["_law_parents","_law_roots"]) rfl rfl (by decide +kernel)) (by decide) (mX (by decide)) (sW rfl B.range (aB (gb rfl B.len (aB (ak 0) aJ)) aJ)) ⟨λ_ _ _ _ _=>(cB (i:=0) (by show(["_law_k","_law_parents"]:Tn).Nodup;decide +kernel) rfl (Qk rfl)),λ_ _ _ _ _=>(yI (FT (di (ak 1) (ak 0)) sJ)),λ_ _ _ _ _=>(ak 0)⟩ nd rfl rfl)
   (bF (cX (cM iB wL hr rfl bC.mg bC.fn.kp bC.bd (aB (ak 0) (aB (di (ak 1) bA) aJ)))))),λds Q h=>?_⟩
 obtain⟨ps,rk,r,rfl,h1,R,h2,h3,h4,h5,q⟩:=h;have hsz:=Wi;have hrl:r<ps.length:=(Xc.mp h3).1;walk_at "pu";rw[Xb];refine⟨by lia,by lia,by rw[sV];lia,λk out=>out=if r<k then[PV.int r] else[],(Qe (Yl _)).symm,?_,?_⟩
 .rintro k d out hd hk rfl;obtain⟨hk,rfl⟩:=vG hd;have hk':k<ps.length:=by lia
  obtain⟨o,ho⟩:∃o,ps[k]? = some o:=⟨_,Xd hk'⟩;have hat:gM (ps.map aZ) (0+(k:Int))=some (aZ o):=by
   rw[Int.zero_add];exact jt (by rw[Xg,ho];rfl)
  refine⟨_,⟨_,rfl,hat⟩,bT (λe=>?_) (λe=>?_)⟩
  .have eo:o=none:=by
    cases o with
    | none=>rfl
    | some p=>exact nomatch e
   have ek:k=r:=h4 k (by rw[ho,eo]);subst ek;show _=_;rw[Qe (YH _),Qf (YJ _),Int.zero_add];rfl
  .have ek:k≠r:=λz=>by
    subst z;rw[h3]at ho;cases ho;exact e rfl
   show(if r<k then[PV.int r] else[])=if r<k+1 then[PV.int r] else[]
   by_cases hrk:r<k
   .rw[Qf hrk,Qf (by lia)]
   .rw[Qe hrk,Qe (by lia)]
 .rintro out-rfl;rw[sV,Qf (by lia)];walk_at "go";exact⟨_,rfl,ps,rfl,rk,r,rfl,h1,R,h2,h5,q⟩
end
def dM (r:Tp):PV:=.tup (r.map PV.int)
theorem tK:∀l:Tp,zaE (l.map PV.int)=true
 | []=>rfl
 | x::l=>by simp only[Xq,zaE,zbJ,tK l,Bool.and_self]
theorem zqe (n:Nat)(r:Tp):PL.plain (n+1) (dM r)=true:=by
 simp only[dM,PL.plain,XX];intro d hd;obtain⟨x,_,rfl⟩:=XF.mp hd;cases n<;>rfl
def cN (t:Td):PV:=.lst (t.map dM)
abbrev qZ:Wn:=(uK (top 13)).getD 0 (.Pass ⟨0,0,0,0⟩)
abbrev zU:Wn:=(uK (top 13)).getD 1 (.Pass ⟨0,0,0,0⟩)
abbrev wM:Wn:=(uK (top 13)).getD 2 (.Pass ⟨0,0,0,0⟩)
abbrev wO:Wn:=(uK (top 13)).getD 3 (.Pass ⟨0,0,0,0⟩)
abbrev zV:Wn:=(uK (top 13)).getD 4 (.Pass ⟨0,0,0,0⟩)
abbrev Cu:Wn:=(uK (top 13)).getD 5 (.Pass ⟨0,0,0,0⟩)
abbrev wQ:Wn:=(uK (top 13)).getD 6 (.Pass ⟨0,0,0,0⟩)
abbrev gF:=List (Tp×List (Tp×Nat))
def cC (k:Tp):List Key:=k.map Sum.inl
def gR (e:Tp×Nat):PV:=.tup [dM e.1,.int e.2]
def kW (F:gF):PV:=.dT (F.map λe=>cC e.1) (F.map λe=>.lst (e.2.map gR))
def RV (ps:Tf):PV:=.lst ((XE ps.length).map λi=>zco (kids ps i))
def RW (sh:Te)(ps:Tf):PV:=.lst ((XE ps.length).map λi=>.lst ((bW sh ps i).map PV.str))
def talP (C:Addr)(sh:Te)(ps:Tf)(r:Nat)(fs:List gF):PV:=.obj C ["shape","root","children","bonds","fans"] [shpP sh,.int r,RV ps,RW sh ps,.lst (fs.map kW)]
structure TF (K:Xa)(C:Addr):Prop where
 c:kZ K C
 shape:lZ K C "shape"
 root:lZ K C "root"
 children:lZ K C "children"
 bonds:lZ K C "bonds"
 fans:lZ K C "fans"
theorem RX {a b:Tp}(h:cC a=cC b):a=b:=by
 have:∀ {a b:Tp},a.map (Sum.inl:Int->Key)=b.map Sum.inl->a=b:=λ{a b} h=>by
  induction a generalizing b with
  | nil=>cases b with
   | nil=>rfl
   | cons y b=>cases h
  | cons x a ih=>cases b with
   | nil=>cases h
   | cons y b=>
    rw[Xq,Xq,List.cons.injEq]at h;rw[ih h.2,Sum.inl.inj h.1]
 exact this h
theorem RZ (F:gF):iQ (F.map λe=>cC e.1) (F.map λe=>PV.lst (e.2.map gR)) (cC k)=(F.lookup k).map λl=>PV.lst (l.map gR):=by
 induction F with
 | nil=>rfl
 | cons d F ih=>
  obtain⟨c,l⟩:=d;by_cases hk:c=k
  .subst hk;simp[iQ]
  .simp only[iQ,Xq,XS,XT,Yq]at ih ⊢;rw[show(k == c)=false by rw[beq_eq_false_iff_ne];exact λz=>hk z.symm];have:¬ cC c=cC k:=λz=>hk (RX z);simpa[this]using ih
def keyB (sh:Te)(ps:Tf)(i:Nat)(ls:Tn)(r:Tp):Tp:=(bW sh ps i).map (dW ls r)
def dN (sh:Te)(ps:Tf)(fs:List gF)(i:Nat)(ls:Tn)(r:Tp):List (Tp×Nat):=((fs.getD i []).lookup (keyB sh ps i ls r)).getD []
def rm (sh:Te)(ps:Tf)(fs:List gF)(i:Nat)(ls:Tn)(r:Tp):Nat:=aW.cH (dN sh ps fs i ls r) (·.2)
structure rA (sh:Te)(ps:Tf)(fs:List gF):Prop where
 len:sh.length=ps.length
 fl:fs.length=ps.length
 few:ps.length<=100
 iR:∀p∈sh,p.length<=1000
theorem Hv (sh:Te)(ps:Tf)(i:Nat)(h:∀p∈sh,p.length<=1000):(bW sh ps i).length<=1000:=by
 unfold bW;split
 .refine XC (Yc _ _) ?_;rw[Xi];cases hp:sh[i]? with
  | none=>exact XM _
  | some p=>exact h p (Xl hp)
 .exact XM _
def zaF (C:Addr):PF:=λds Q=>∃sh ps r fs i ls rr,ds=[talP C sh ps r fs,.int (i:Nat),zaS ls rr]/\rA sh ps fs/\i<ps.length/\ls.length=rr.length/\(∀l∈bW sh ps i,l∈ls)/\Q (.lst ((dN sh ps fs i ls rr).map gR)) .aF
theorem Hw:cW (zaF C):=λds Q Q' m ⟨a,b,c,d,e,f,g,h,h1,h2,h3,h4,q⟩=>⟨a,b,c,d,e,f,g,h,h1,h2,h3,h4,m _ _ q⟩
def zcR (C:Addr):PF:=λds Q=>∃sh ps r fs i ls rr,ds=[talP C sh ps r fs,.int (i:Nat),zaS ls rr]/\rA sh ps fs/\i<ps.length/\ls.length=rr.length/\(∀l∈bW sh ps i,l∈ls)/\(dN sh ps fs i ls rr).length<=1000/\Q (.int (rm sh ps fs i ls rr)) .aF
theorem Cv:cW (zcR C):=λds Q Q' m ⟨a,b,c,d,e,f,g,h,h1,h2,h3,h4,h5,q⟩=>⟨a,b,c,d,e,f,g,h,h1,h2,h3,h4,h5,m _ _ q⟩
theorem wR {f:Nat->PV}(h:i<n):gM ((XE n).map f) ((i:Nat):Int)=some (f i):=jt (by rw[Xg,List.getElem?_range h];rfl)
theorem R0 (h:i<fs.length):gM (fs.map kW) ((i:Nat):Int)=some (kW (fs.getD i [])):=jt (by rw[Xg,Xi,Xd h];rfl)
theorem Hx (g:M->Nat):∀l:List M,(l.map λe=>(g e:Int)).sum=((aW.cH l g:Nat):Int)
 | []=>rfl
 | e::l=>by rw[Xq,List.sum_cons,Hx g l,aW.oY];lia
section
variable {P:Wg}{w:Wj}{K:Xa}{mg:Tj}{base:Heap}
theorem Cw:cL ["self","i","known"] ["self","i","known"] (bf wM):=fsc
abbrev Y1 (K:Xa)(mg:Tj):=Fx K mg "cells_at" uV ["known","letters"]
theorem Hy (F:cj K "options" "Tally.options" wM f fd) (T:TF K C) (au:Y1 K mg f1 eZ) (B:Bl mg):aA P w K mg base aN 2 f fd ["self","i","known"] (aX K (zaF C)):=by
 have bQ:aA P w K mg base aN 1 f1 eZ ["known","letters"] (aX K zaw):=Cr au.fn B;refine dI F Cw (λds Q ⟨a,b,c,d,e,f,g,h,_⟩=>by rw[h];rfl) (λcdv A outer s H E hr=>?_);have hu:=bG hr;have nd:=Cw.nd;refine⟨_,(bF (cX (Nq (hu1 hu) (di (lN T.c T.fans (ak 0)) (ak 1)) (cM bQ wJ hr rfl au.mg au.fn.kp au.bd (aB (ak 2) (aB (di (lN T.c T.bonds (ak 0)) (ak 1)) aJ))) (jk aJ)))),λds Q h=>?_⟩;obtain⟨sh,ps,r,fs,i,ls,rr,rfl,T1,hi,hl,hb,q⟩:=h;have hsz:=Wi;walk_at "pu";refine⟨_,_,rfl,_,rfl,_,.inl ⟨_,.inl rfl,R0 (by rw[T1.fl];exact hi)⟩,_,_,rfl,_,_,rfl,_,rfl,_,.inl ⟨_,.inl rfl,wR hi⟩,ls,rfl,rr,rfl,bW sh ps i,rfl,hl,hb,Hv sh ps i T1.iR,cC (keyB sh ps i ls rr),?_,XM _,?_⟩
 .unfold lO cC keyB;rw[Yb,Yb];rfl
 .rw[RZ];have e:((((fs.getD i []).lookup (keyB sh ps i ls rr)).map λl=>PV.lst (l.map gR)).getD (PV.lst []))=PV.lst ((dN sh ps fs i ls rr).map gR):=by
   unfold dN;cases (fs.getD i []).lookup (keyB sh ps i ls rr)<;>rfl
  rw[e];exact q
theorem R5:cL ["self","i","known"] ["self","i","known"] (bf wO):=fsc
abbrev pB (K:Xa)(C:PySem.Addr):=Mx K C "options" "Tally.options" wM ["self","i","known"]
theorem Cy (F:cj K "ways" "Tally.ways" wO f fd) (T:TF K C) (au:Y1 K mg f1 eZ) (Options:pB K C f2 fd2) (B:Bl mg):aA P w K mg base aN 3 f fd ["self","i","known"] (aX K (zcR C)):=by
 have dO:aA P w K mg base aN 2 f2 fd2 ["self","i","known"] (aX K (zaF C)):=Hy Options.fn T au B;refine dI F R5 (λds Q ⟨a,b,c,d,e,f,g,h,_⟩=>by rw[h];rfl) (λcdv A outer s H E hr=>?_);have hu:=bG hr;have nd:=R5.nd;refine⟨_,(bF (cX (Nk rfl rfl B.sum (aB (j6 (N:=["row","ways"]) (k:=2) (js:=[]) rfl (jX (sup:=bf wO) (XN:=["self","i","known"]) rfl rfl (by decide +kernel)) (by decide) (Be (qH (by decide) (by decide))) (jN (pW T.c Options.me dO Hw hr Options.bd (ak 0) (aB (ak 1) (aB (ak 2) aJ)))) ⟨λ_ _ _ _ _=>(oN (n:=2) rfl (iM (cB (i:=0) (by show(["row","ways"]:Tn).Nodup;decide +kernel) rfl (Qk rfl)) (iM (cB (i:=1) (by show(["row","ways"]:Tn).Nodup;decide +kernel) rfl (Qk rfl)) oM))),λ_ _ _ _ _=>nP,λ_ _ _ _ _=>(ak 1)⟩) aJ)))),λds Q h=>?_⟩;obtain⟨sh,ps,r,fs,i,ls,rr,rfl,T1,hi,hl,hb,tE,q⟩:=h;have hsz:=Wi;walk_at "pu";refine⟨_,⟨_,rfl⟩,by decide,sh,ps,r,fs,rfl,i,rfl,ls,rfl,rr,rfl,T1,hi,hl,hb,by rw[Xb];lia,λk out=>out=(((dN sh ps fs i ls rr).take k).map λe=>(e.2:Int)).map PV.int,rfl,?_,?_⟩
 .rintro k d out hd-rfl;rw[Xg]at hd;cases he:(dN sh ps fs i ls rr)[k]? with
  | none=>rw[he]at hd;cases hd
  | some e=>
   rw[he]at hd;cases hd;refine⟨_,rfl,rfl,_,_,rfl,_,_,rfl,rfl,?_⟩;show _=_;rw[<- take_snoc he,Xp,Xp];rfl
 .rintro out-rfl;rw[Xb,Xs (Xj _)];refine⟨_,rfl,?_⟩;rw[Hx];exact q
end
section
variable (sh:Te)(ps:Tf)(ts:Tc)
def wB:Nat->Nat->Tp->Nat
 | 0,_,_=>1
 | t+1,i,r=>aW.bw (kids ps i) λc=>aW.cH ((ts.getD c []).filter λr'=>decide (keyB sh ps c (sh.getD c []) r'=keyB sh ps c (sh.getD i []) r)) (wB t c)
def cI:gF->Tp->Tp×Nat->gF
 | [],k,x=>[(k,[x])]
 | (c,l)::F,k,x=>if c=k then(c,l++[x])::F else(c,l)::cI F k x
theorem zW (c:Tp)(l:List (Tp×Nat))(F:gF)(k:Tp)(x:Tp×Nat):cI ((c,l)::F) k x=if c=k then(c,l++[x])::F else(c,l)::cI F k x:=rfl
def rB (i:Nat)(l:Td):gF:=l.foldl (λF r=>cI F (keyB sh ps i (sh.getD i []) r) (r,wB sh ps ts 7 i r)) []
def cF (i:Nat):gF:=rB sh ps ts i (ts.getD i [])
end
theorem R7 {k':Tp}{x:Tp×Nat}:∀F:gF,((cI F k x).lookup k').getD []=if k'=k then(F.lookup k').getD []++[x] else(F.lookup k').getD []
 | []=>by
  unfold cI;rw[XT,List.lookup_nil];by_cases h:k'=k
  .rw[Qf h,show(k' == k)=true from beq_iff_eq.mpr h];rfl
  .rw[Qe h,show(k' == k)=false from beq_eq_false_iff_ne.mpr h]
 | (c,l)::F=>by
  unfold cI;by_cases hc:c=k
  .rw[Qf hc,XT,XT];subst hc;by_cases h:k'=c
   .rw[Qf h,show(k' == c)=true from beq_iff_eq.mpr h];rfl
   .rw[Qe h,show(k' == c)=false from beq_eq_false_iff_ne.mpr h]
  .rw[Qe hc,XT,XT];by_cases h:k'=c
   .rw[show(k' == c)=true from beq_iff_eq.mpr h,Qe (by rw[h];exact hc)]
   .rw[show(k' == c)=false from beq_eq_false_iff_ne.mpr h];exact R7 F
theorem R8 (g:Tp->Tp)(v:Tp->Nat)(k:Tp):∀(l:Td)(F:gF),((l.foldl (λF r=>cI F (g r) (r,v r)) F).lookup k).getD []=(F.lookup k).getD []++(l.filter λr=>decide (g r=k)).map λr=>(r,v r)
 | [],F=>by simp
 | r::l,F=>by
  rw[Q6,R8 g v k l,R7];by_cases h:g r=k
  .rw[Qf h.symm,Yx (p:=λr=>decide (g r=k)) (Qd h),Xq,QM];rfl
  .rw[Qe (λz=>h z.symm),Yw (p:=λr=>decide (g r=k)) (by rw[decide_eq_true_eq];exact h)]
theorem tL (h:fs.getD c []=cF sh ps ts c):dN sh ps fs c ls r=((ts.getD c []).filter λr'=>decide (keyB sh ps c (sh.getD c []) r'=keyB sh ps c ls r)).map λr'=>(r',wB sh ps ts 7 c r'):=by
 unfold dN;rw[h];unfold cF rB;rw[R8];rfl
theorem R9 (h:fs.getD c []=cF sh ps ts c):rm sh ps fs c ls r=aW.cH ((ts.getD c []).filter λr'=>decide (keyB sh ps c (sh.getD c []) r'=keyB sh ps c ls r)) (wB sh ps ts 7 c):=by
 unfold rm;rw[tL h,aW.GQ]
theorem gY:c∈kids ps i↔ps[c]? = some (some i):=by
 unfold kids;rw[Yy,List.mem_range,beq_iff_eq];exact⟨λh=>h.2,λh=>⟨(Xc.mp h).1,h⟩⟩
theorem Hz (R:jd ps rk):∀(t t' i:Nat)(r:Tp),rk i<t->rk i<t'->wB sh ps ts t i r=wB sh ps ts t' i r
 | 0,_,_,_,h,_=>Qg h (Yl _)
 | _+1,0,_,_,_,h=>Qg h (Yl _)
 | t+1,t'+1,i,r,h,h'=>by
  refine aW.BK λc hc=>aW.GR λr' _=>?_;have:=R.lt c i (gY.mp hc);exact Hz R t t' c r' (by lia) (by lia)
theorem Sd {f:M->Nat}:∀ {l:List M},(∀a∈l,f a<=b)->aW.cH l f<=l.length*b
 | [],_=>XM _
 | a::l,h=>by
  have h1:=h a (Xh ..);have h2:=Sd (l:=l) λx hx=>h x (Xf _ hx);rw[aW.oY,Xy,Q9];lia
theorem Sg {f:M->Nat}(hb:1<=b):∀ {l:List M}(m:Nat),l.length<=m->(∀a∈l,f a<=b)->aW.bw l f<=b ^ m
 | [],m,_,_=>Nat.pow_pos (by lia)
 | a::l,0,h,_=>Qg h (Nat.not_succ_le_zero _)
 | a::l,m+1,h,hf=>by
  rw[aW.dG,Nat.pow_succ,Q8];exact QJ (Sg hb m (Nat.le_of_succ_le_succ h) λx hx=>hf x (Xf _ hx)) (hf a (Xh ..))
theorem zsi (h:ps.length<=6):(kids ps i).length<=6:=by
 unfold kids;refine XC (Yc _ _) ?_;rw[Yr];exact h
theorem tM (h:∀t∈ts,t.length<=27):(ts.getD c []).length<=27:=by
 rw[Xi];cases ht:ts[c]? with
 | none=>exact XM _
 | some t=>exact h t (Xl ht)
theorem zvf {p:Tp->Bool}{f:Tp->Nat}(h:∀t∈ts,t.length<=27)(hf:∀r∈ts.getD c [],f r<=b):aW.cH ((ts.getD c []).filter p) f<=27*b:=
 XC (Sd λr hr=>hf r (Yy.mp hr).1) (Nat.mul_le_mul_right b (XC (Yc _ _) (tM h)))
structure je (sh:Te)(ps:Tf)(ts:Tc)(rk:Tw):Prop where
 len:sh.length=ps.length
 few:ps.length<=6
 iR:∀p∈sh,p.length<=4
 nd:∀p∈sh,p.Nodup
 tl:ts.length=sh.length
 t4:∀t∈ts,t.length<=27
 bd:∀t i r,r∈ts.getD i []->wB sh ps ts t i r<=64000000
 row:∀(i:Nat) (t:Td),ts[i]? = some t->∀r∈t,r.length=(sh.getD i []).length
 jO:jd ps rk
 bO:∀c p:Nat,ps[c]? = some (some p)->p<ps.length
theorem je.tO (T:je sh ps ts rk)(h:fs.length=ps.length):rA sh ps fs:=
 ⟨T.len,h,XC T.few (by decide),λp hp=>XC (T.iR p hp) (by decide)⟩
theorem tQ (h:ps[c]? = some (some i)):∀l∈bW sh ps c,l∈sh.getD i []:=λl hl=>by
 unfold bW at hl;rw[h]at hl;exact Qh (Yy.mp hl).2
theorem Sh:∀l∈bW sh ps c,l∈sh.getD c []:=λl hl=>by
 unfold bW at hl;split at hl
 .exact(Yy.mp hl).1
 .cases hl
def zan (C:Addr):PF:=λds Q=>∃sh ps r fs i rr ts rk,ds=[talP C sh ps r fs,.int (i:Nat),zaS (sh.getD i []) rr]/\je sh ps ts rk/\fs.length=ps.length/\i<ps.length/\rk i<7/\(sh.getD i []).length=rr.length/\(∀c∈kids ps i,fs.getD c []=cF sh ps ts c)/\Q (.int (wB sh ps ts 7 i rr)) .aF
theorem zgm:cW (zan C):=λds Q Q' m ⟨a,b,c,d,e,f,g,g',h,h1,h2,h3,h4,h5,h6,q⟩=>⟨a,b,c,d,e,f,g,g',h,h1,h2,h3,h4,h5,h6,m _ _ q⟩
def HB (C:Addr):PF:=λds Q=>∃sh ps r fs i ts rk,ds=[talP C sh ps r fs,.int (i:Nat),cN (ts.getD i [])]/\je sh ps ts rk/\fs.length=ps.length/\i<ps.length/\rk i<7/\(∀c∈kids ps i,fs.getD c []=cF sh ps ts c)/\Q (kW (cF sh ps ts i)) .aF
theorem znD:cW (HB C):=λds Q Q' m ⟨a,b,c,d,e,f,g,h,h1,h2,h3,h4,h5,q⟩=>⟨a,b,c,d,e,f,g,h,h1,h2,h3,h4,h5,m _ _ q⟩
theorem Sq (h:n<=(27*64000000) ^ 6):(n:Int).natAbs<2 ^ 4000:=by
 rw[Int.natAbs_natCast];exact Nat.lt_of_le_of_lt h (by decide +kernel)
theorem HD (f:M->Nat)(a:M):∀l:List M,aW.bw (l++[a]) f=aW.bw l f*f a
 | []=>by show f a*1=1*f a;lia
 | b::l=>by rw[Yv,aW.dG,aW.dG,HD f a l,Nat.mul_assoc]
def iC (F:gF):List (List Key):=F.map λe=>cC e.1
def jf (F:gF):List PV:=F.map λe=>PV.lst (e.2.map gR)
theorem znE {c k:List Key}{d:PV}{ds:List PV}(h:c≠k):fH (c::ks) (d::ds) k=(c::(fH ks ds k).1,d::(fH ks ds k).2):=by
 have e:kh (c::ks) k=kh ks k:=by
  unfold kh;rw[List.any_cons,Qc h,Bool.false_or]
 unfold fH;rw[e];by_cases hk:kh ks k=true
 .rw[Qf hk,Qf hk]
 .rw[Qe hk,Qe hk];rfl
theorem Ss {c k:List Key}(h:c≠k):gj (c::ks) k=gj ks k+1:=by
 unfold gj;simp[Px,h]
theorem Cz {k:List Key}:gj (k::ks) k=0:=by
 unfold gj;simp[Px]
theorem Sv (k:Tp)(x:Tp×Nat):∀F:gF,∃es:List PV,(fH (iC F) (jf F) (cC k)).2[gj (fH (iC F) (jf F) (cC k)).1 (cC k)]? = some (.lst es)/\es.length<=aW.cH F (λe=>e.2.length)/\
  (fH (iC F) (jf F) (cC k)).1=iC (cI F k x)/\(fH (iC F) (jf F) (cC k)).2.set (gj (fH (iC F) (jf F) (cC k)).1 (cC k)) (.lst (es++[gR x]))=jf (cI F k x)
 | []=>by
  have e:fH (iC []) (jf []) (cC k)=([cC k],[.lst []]):=rfl;rw[e];refine⟨[],?_,XM _,rfl,?_⟩
  .show[PV.lst []][gj [cC k] (cC k)]? = _;rw[Cz];rfl
  .show[PV.lst []].set (gj [cC k] (cC k)) _=_;rw[Cz];rfl
 | (c,l)::F=>by
  by_cases h:c=k
  .subst h;have e:fH (iC ((c,l)::F)) (jf ((c,l)::F)) (cC c)=(cC c::iC F,.lst (l.map gR)::jf F):=by
    have e0:kh (iC ((c,l)::F)) (cC c)=true:=GD.mpr (Xh ..);unfold fH;rw[Qf e0];rfl
   have ea:cI ((c,l)::F) c x=(c,l++[x])::F:=by rw[zW,Qf rfl]
   rw[e,ea];refine⟨l.map gR,?_,?_,rfl,?_⟩
   .show(PV.lst (l.map gR)::jf F)[gj (cC c::iC F) (cC c)]? = _;rw[Cz];rfl
   .rw[aW.oY,Xb];show l.length<=l.length+_;lia
   .show(PV.lst (l.map gR)::jf F).set (gj (cC c::iC F) (cC c)) _=_;rw[Cz,List.set_cons_zero];unfold jf;rw[Xq,Xp];rfl
  .have hne:cC c≠cC k:=λz=>h (RX z);have e:fH (iC ((c,l)::F)) (jf ((c,l)::F)) (cC k)=(cC c::(fH (iC F) (jf F) (cC k)).1,.lst (l.map gR)::(fH (iC F) (jf F) (cC k)).2):=znE hne;have ea:cI ((c,l)::F) k x=(c,l)::cI F k x:=by rw[zW,Qe h]
   obtain⟨es,h1,h2,h3,h4⟩:=Sv k x F;rw[e,ea];refine⟨es,?_,?_,?_,?_⟩
   .show(PV.lst (l.map gR)::(fH (iC F) (jf F) (cC k)).2)[gj (cC c::(fH (iC F) (jf F) (cC k)).1) (cC k)]? = _;rw[Ss hne,YR];exact h1
   .rw[aW.oY];lia
   .show cC c::_=cC c::iC (cI F k x);rw[h3]
   .show(PV.lst (l.map gR)::(fH (iC F) (jf F) (cC k)).2).set (gj (cC c::(fH (iC F) (jf F) (cC k)).1) (cC k)) _=PV.lst (l.map gR)::jf (cI F k x);rw[Ss hne,List.set_cons_succ,h4]
theorem Sx (k:Tp)(x:Tp×Nat):∀F:gF,aW.cH (cI F k x) (λe=>e.2.length)=aW.cH F (λe=>e.2.length)+1/\(cI F k x).length<=F.length+1
 | []=>⟨rfl,Xj _⟩
 | (c,l)::F=>by
  by_cases h:c=k
  .rw[show cI ((c,l)::F) k x=(c,l++[x])::F by rw[zW,Qf h]];refine⟨?_,Ph _⟩;rw[aW.oY,aW.oY,Xr,QV];show l.length+1+_=l.length+_+1;lia
  .rw[show cI ((c,l)::F) k x=(c,l)::cI F k x by rw[zW,Qe h]];obtain⟨q1,q2⟩:=Sx k x F;refine⟨?_,by rw[Xy,Xy];lia⟩;rw[aW.oY,aW.oY,q1];lia
theorem CG:∀ {l:Tn},l.Nodup->(l.map (Qo:Str->Key)).Nodup
 | [],_=>QG
 | a::l,h=>by
  rw[XO]at h;rw[Xq,XO];refine⟨λz=>?_,CG h.2⟩;obtain⟨b,h1,h2⟩:=XF.mp z;cases h2;exact h.1 h1
section
variable {P:Wg}{w:Wj}{K:Xa}{mg:Tj}{base:Heap}
theorem Sy:cL ["self","i","known","product","child"] ["self","i","known"] (bf zV):=fsc
abbrev rC (K:Xa)(C:PySem.Addr):=Mx K C "ways" "Tally.ways" wO ["self","i","known"]
theorem zhu (F:cj K "ways_beneath" "Tally.ways_beneath" zV f fd) (T:TF K C) (au:Y1 K mg f1 eZ) (Options:pB K C f2 fd2) (bM:rC K C f3 gQ) (B:Bl mg):aA P w K mg base aN 4 f fd ["self","i","known"] (aX K (zan C)):=by
 have iG:aA P w K mg base aN 3 f3 gQ ["self","i","known"] (aX K (zcR C)):=Cy bM.fn T au Options B;refine dI F Sy (λds Q ⟨a,b,c,d,e,f,g,g',h,_⟩=>by rw[h];rfl) (λcdv A outer s H E hr=>?_);have hu:=bG hr;have nd:=Sy.nd;refine⟨_,(aV (bH (i:=3) nd rfl (Qk rfl) bA)
   (aV (j4 rfl Ql (jN (di (lN T.c T.children (ak 0)) (ak 1))) (cB (i:=4) nd rfl (Qk rfl)) (bF (bH (i:=3) nd rfl (Qk rfl) (zuO (ak 3) (pW T.c bM.me iG Cv hr bM.bd (ak 0) (aB (ak 4) (aB (ak 2) aJ)))))))
   (bF (cX (ak 3))))),λds Q h=>?_⟩
 obtain⟨sh,ps,r,fs,i,rr,ts,rk,rfl,TT,hfl,hi,hrk,hl,hf,q⟩:=h;have hsz:=Wi;walk_at "pu";walk_at "auto";refine⟨_,_,rfl,_,rfl,_,.inl ⟨_,.inl rfl,wR hi⟩,(kids ps i).map (λ(k:Nat)=>PV.int k),rfl,?_⟩;obtain⟨g,hg⟩:∃g:Tw,∀c,g c=aW.cH ((ts.getD c []).filter λr'=>decide (keyB sh ps c (sh.getD c []) r'=keyB sh ps c (sh.getD i []) rr)) (wB sh ps ts 7 c):=⟨_,λ_=>rfl⟩;have hw5:∀c∈kids ps i,∀r',wB sh ps ts 7 c r'=wB sh ps ts 6 c r':=λc hc r'=>by
  have:=TT.jO.lt c i (gY.mp hc);exact Hz TT.jO 7 6 c r' (by lia) (by lia)
 have hgb:∀c∈kids ps i,g c<=27*64000000:=λc hc=>by
  rw[hg,aW.GR λr' _=>hw5 c hc r'];exact zvf TT.t4 λr' hr'=>TT.bd 6 c r' hr'
 have hk4:(kids ps i).length<=6:=zsi TT.few;have hpos:1<=27*64000000:=by decide +kernel
 have hfin:aW.bw (kids ps i) g=wB sh ps ts 7 i rr:=by
  rw[Hz TT.jO 7 8 i rr hrk (by lia)];exact aW.BK λc _=>hg c
 obtain⟨Iv,aP⟩:∃Iv:Nat->aC->Prop,∀k U,Iv k U↔∃v4:Option (PV×Bool),U=[some (talP C sh ps r fs,false),some (PV.int i,false),some (zaS (sh.getD i []) rr,false),some (PV.int (aW.bw ((kids ps i).take k) g:Nat),false),v4]:=⟨_,λ_ _=>Qy⟩;refine⟨Iv,(aP _ _).mpr ⟨none,rfl⟩,?_,?_⟩
 .intro k d U hd hI;obtain⟨v4,rfl⟩:=(aP _ _).mp hI;rw[Xg]at hd;cases hc:(kids ps i)[k]? with
  | none=>rw[hc]at hd;cases hd
  | some c=>
   rw[hc]at hd;cases hd;have hcm:=Xl hc;have jP:=gY.mp hcm;have hcl:=(Xc.mp jP).1;have e1:rm sh ps fs c (sh.getD i []) rr=g c:=by rw[hg,R9 (hf c hcm)]
   have hb1:aW.bw ((kids ps i).take k) g<=(27*64000000) ^ 6:=Sg hpos 6 (XC (List.length_take_le' _ _) hk4) λc hc=>hgb c (Pz hc);have hb2:g c<=(27*64000000) ^ 6:=XC (hgb c hcm) (by decide +kernel);walk_at "go";refine⟨_,⟨_,rfl⟩,by decide,sh,ps,r,fs,rfl,c,rfl,sh.getD i [],rfl,rr,rfl,TT.tO hfl,hcl,hl,tQ jP,?_,?_⟩
   .rw[tL (hf c hcm),Xb];exact XC (Yc _ _) (XC (tM TT.t4) (by decide))
   .rw[e1];refine⟨⟨Sq hb1,Sq hb2⟩,(aP _ _).mpr ⟨some (PV.int c,false),?_⟩⟩;rw[<- take_snoc hc,HD,Int.natCast_mul];rfl
 .intro U hI;obtain⟨v4,rfl⟩:=(aP _ _).mp hI;walk_at "go";rw[Xb,Xs (Xj _),hfin];exact q
theorem SJ:cL ["self","i","table","fan","row","known","alike"] ["self","i","table"] (bf zU):=fsc
abbrev wU (K:Xa)(C:PySem.Addr):=Mx K C "ways_beneath" "Tally.ways_beneath" zV ["self","i","known"]
theorem zsj {C f f1 f2 f3 f4:Addr}{fd eZ fd2 gQ iz:Wk}(F:cj K "fan_of" "Tally.fan_of" zU f fd) (T:TF K C) (au:Y1 K mg f1 eZ) (Options:pB K C f2 fd2) (bM:rC K C f3 gQ)
  (aK:wU K C f4 iz) (B:Bl mg):aA P w K mg base aN 5 f fd ["self","i","table"] (aX K (HB C)):=by
 have jC:aA P w K mg base aN 4 f4 iz ["self","i","known"] (aX K (zan C)):=zhu aK.fn T au Options bM B;have bQ:aA P w K mg base aN 4 f1 eZ ["known","letters"] (aX K zaw):=(Cr au.fn B).mono (by decide);refine dI F SJ (λds Q ⟨a,b,c,d,e,f,g,h,_⟩=>by rw[h];rfl) (λcdv A outer s H E hr=>?_);have hu:=bG hr;have nd:=SJ.nd;refine⟨_,(zpu (z:=3) nd rfl (Qk rfl) (MT (zuv (i:=4) nd rfl (Qk rfl) rfl Ql (jN (ak 2)) (MT (zrT (i:=5) nd rfl (Qk rfl) (GP (bb:=true) rfl rfl B.dict rfl B.zip (aB (di (lN T.c T.shape (ak 0)) (ak 1)) (aB (ak 4) aJ))))
   (zpC (iy:=6) (hu1 hu) nd (cM bQ wJ hr rfl au.mg au.fn.kp au.bd (aB (ak 5) (aB (di (lN T.c T.bonds (ak 0)) (ak 1)) aJ))) (vA (aB (ak 4) (aB (pW T.c aK.me jC zgm hr aK.bd (ak 0) (aB (ak 1) (aB (ak 5) aJ))) aJ))) zuu)))
   (zrE (bF (cX (ak 3)))))),λds Q h=>?_⟩
 obtain⟨sh,ps,r,fs,i,ts,rk,rfl,TT,hfl,hi,hrk,hf,q⟩:=h;have hsz:=Wi;walk_at "pu";refine⟨by decide,?_⟩;walk_at "go";have ht4:=tM (c:=i) TT.t4;have hsi:sh[i]? = some (sh.getD i []):=by rw[Xi,Xd (show i<sh.length by rw[TT.len];exact hi)];rfl
 have hti:ts[i]? = some (ts.getD i []):=by rw[Xi,Xd (show i<ts.length by rw[TT.tl,TT.len];exact hi)];rfl
 have hrow:=TT.row i _ hti;have hsnd:=TT.nd _ (Xl hsi);obtain⟨Iv,aP⟩:∃Iv:Nat->aC->BX->Prop,∀k U J,Iv k U J↔∃(F:gF) (v4 v5 v6:Option (PV×Bool)),U=[some (talP C sh ps r fs,false),some (PV.int i,false),some (cN (ts.getD i []),false),none,v4,v5,v6]/\J=.T (iC F) (jf F)/\F=rB sh ps ts i ((ts.getD i []).take k)/\aW.cH F (λe=>e.2.length)<=k/\F.length<=k:=⟨_,λ_ _ _=>Qy⟩;refine⟨_,rfl,Iv,(aP _ _ _).mpr ⟨[],none,none,none,rfl,rfl,rfl,Xj _,Xj _⟩,?_,?_⟩
 .intro k d U J hd hI;obtain⟨F,v4,v5,v6,rfl,rfl,hF,hF1,hF2⟩:=(aP _ _ _).mp hI;rw[Xg]at hd;cases hr1:(ts.getD i [])[k]? with
  | none=>rw[hr1]at hd;cases hd
  | some rr=>
   rw[hr1]at hd;cases hd;have hk:=(Xc.mp hr1).1;have hrl:=hrow rr (Xl hr1);walk_at "go";refine⟨_,_,rfl,_,rfl,_,.inl ⟨_,.inl rfl,jt (by rw[Xg,hsi];rfl)⟩,(sh.getD i []).map Qo,by rw[Yb];rfl,rr.map PV.int,rfl,by rw[Xb,Xb];lia,CG hsnd,tK rr,?_⟩;walk_at "go";obtain⟨es,k1,k2,k3,k4⟩:=Sv (keyB sh ps i (sh.getD i []) rr) (rr,wB sh ps ts 7 i rr) F;have hkl:(iC F).length<Wf:=by unfold iC;rw[Xb];lia
   have hkey:PV.tup ((bW sh ps i).map λl=>PV.int (dW (sh.getD i []) rr l))=lO (cC (keyB sh ps i (sh.getD i []) rr)):=by
    unfold lO cC keyB;rw[Yb,Yb];rfl
   have hnm:zaE ((bW sh ps i).map λl=>PV.int (dW (sh.getD i []) rr l))=true:=by
    have:=tK ((bW sh ps i).map λl=>dW (sh.getD i []) rr l)
    rwa [Yb]at this
   refine⟨_,_,rfl,by decide,_,_,rfl,_,rfl,_,.inl ⟨_,.inl rfl,wR hi⟩,sh.getD i [],rfl,rr,rfl,bW sh ps i,rfl,by lia,Sh,Hv sh ps i (TT.tO hfl).iR,hnm,_,hkey,hkl,es,k1,by lia,_,⟨_,rfl⟩,by decide,sh,ps,r,fs,rfl,i,rfl,rfl,rr,rfl,ts,rk,TT,hfl,hi,hrk,by lia,hf,by lia,?_,?_⟩
   .unfold dM;simp only[zbJ];exact tK rr
   .obtain⟨g1,g2⟩:=Sx (keyB sh ps i (sh.getD i []) rr) (rr,wB sh ps ts 7 i rr) F;walk_at "go";refine(aP _ _ _).mpr ⟨cI F (keyB sh ps i (sh.getD i []) rr) (rr,wB sh ps ts 7 i rr),_,_,_,rfl,?_,?_,by lia,by lia⟩
    .rw[<- k4,<- k3];rfl
    .rw[<- take_snoc hr1];unfold rB at hF ⊢;rw[List.foldl_append,<- hF];rfl
 .intro U J hI;obtain⟨F,v4,v5,v6,rfl,rfl,hF,hF1,hF2⟩:=(aP _ _ _).mp hI;walk_at "go";rw[Xb,Xs (Xj _)]at hF;rw[hF];exact q
end
def Good (sh:Te)(ps:Tf):Prop:=∃(L:Tn)(n:Nat)(s0:Te)(p0:Tf),qW L n s0 p0/\1<=n/\n<=6/\L.length=6/\((sh=s0/\ps=p0)\/(sh=s0.reverse/\ps=kO n p0))
theorem CJ {o:Option Nat}(hn:p0.length=n)(h:(kO n p0)[c]? = some o):c<n/\∃o',p0[n-1-c]? = some o'/\o=o'.map λp=>n-1-p:=by
 unfold kO at h;rw[Xg]at h;cases hr:p0.reverse[c]? with
 | none=>rw[hr]at h;cases h
 | some o'=>
  rw[hr]at h;cases h;have hc:=(Xc.mp hr).1;rw[Ya]at hc;rw[YL hc,hn]at hr;exact⟨by lia,o',hr,rfl⟩
theorem SM {s0:Te}(T:qW L n s0 p0)(h:1<=n):p0[0]? = some none:=by
 have h0:0<p0.length:=by rw[T.gG];exact h
 cases hp:p0[0]? with
 | none=>rw[Xd h0]at hp;cases hp
 | some o=>
  cases o with
  | none=>rfl
  | some j=>exact Qg (T.bO 0 j hp) (Yl _)
structure zX (ps:Tf)(rk:Tw)(r:Nat):Prop where
 jO:jd ps rk
 low:rk r<7
 root:ps[r]? = some none
 one:∀k,ps[k]? = some none->k=r
theorem Good.leads (h:Good sh ps):sh.length=ps.length/\1<=ps.length/\ps.length<=6/\∃rk r,zX ps rk r/\∀i,i<ps.length->rk i<7:=by
 obtain⟨L,n,s0,p0,T,h1,h4,hL,⟨rfl,rfl⟩ | ⟨rfl,rfl⟩⟩:=h
 .have hl:=T.gG;have hs:=T.pats.1;refine⟨by lia,by lia,by lia,λc=>n-c,0,⟨⟨λc p hc=>?_⟩,by show n-0<7;lia,SM T h1,T.root⟩,λi hi=>by show n-i<7;lia⟩;have hlt:=T.bO c p hc;have hcl:=(Xc.mp hc).1;show n-c<n-p;lia
 .have hl:=T.gG;have hs:=T.pats.1;have ht:(kO n p0).length=n:=by unfold kO;rw[Xb,Ya,hl]
  refine⟨by rw[Ya];lia,by lia,by lia,λc=>c,n-1,⟨⟨λc p hc=>?_⟩,by show n-1<7;lia,?_,λk hk=>?_⟩,λi hi=>by show i<7;lia⟩
  .obtain⟨hcn,o',ho,e⟩:=CJ hl hc;cases o' with
   | none=>cases e
   | some j=>
    have ej:p=n-1-j:=by simpa using e
    have hlt:=T.bO _ j ho;show c<p;lia
  .unfold kO;rw[Xg,YL (by lia),hl,show n-1-(n-1)=0 by lia,SM T h1];rfl
  .obtain⟨hcn,o',ho,e⟩:=CJ hl hk;cases o' with
   | some j=>cases e
   | none=>
    have:=T.root _ ho;lia
theorem za {J:Type}{g:M->List J}(l:List M)(h:∀x∈l,(g x).length<=b):(l.flatMap g).length<=l.length*b:=by
 induction l with
 | nil=>exact XM _
 | cons x l ih=>
  have h1:=h x (Xh ..);have h2:=ih λy hy=>h y (Xf _ hy);rw[XD,Xr,Xy,Q9];lia
def pD:Tw
 | 0=>0
 | t+1=>1+6*pD t
theorem SN (h:ps.length<=6):∀t i,(pre ps t i).length<=pD t
 | 0,_=>XM _
 | t+1,i=>by
  have h1:=za (g:=pre ps t) (b:=pD t) (kids ps i) λx _=>SN h t x;have h2:(kids ps i).length<=6:=by
   refine XC (Yc _ _) ?_;rw[Yr];exact h
  have h3:=Nat.mul_le_mul_right (pD t) h2;show(i::(kids ps i).flatMap (pre ps t)).length<=1+6*pD t;rw[Xy];lia
theorem SQ (h:ps.length<=6)(i:Nat):(pre ps 7 i).length<=100000:=XC (SN h 7 i) (by decide)
def fj (ps:Tf)(l:Tt):Prop:=∀l1 i l2,l=l1++i::l2->∀c∈kids ps i,c∈l2
theorem fj.app {a b:Tt}(ha:fj ps a)(hb:fj ps b):fj ps (a++b):=λl1 i l2 h c hc=>by
 rcases List.append_eq_append_iff.mp h with ⟨w,e1,e2⟩ | ⟨w,e1,e2⟩
 .exact hb w i l2 e2 c hc
 .cases w with
  | nil=>
   rw[Ol]at e2;exact hb [] i l2 e2.symm c hc
  | cons y w=>
   rw[Yv,List.cons.injEq]at e2;obtain⟨rfl,rfl⟩:=e2;exact Yj _ (ha l1 i w e1 c hc)
theorem fj.cons {ps:Tf}{j:Nat}{b:Tt}(hb:fj ps b)(hk:∀c∈kids ps j,c∈b):fj ps (j::b):=λl1 i l2 h c hc=>by
 cases l1 with
 | nil=>
  rw[Ol,List.cons.injEq]at h;obtain⟨rfl,rfl⟩:=h;exact hk c hc
 | cons y l1=>
  rw[Yv,List.cons.injEq]at h;exact hb l1 i l2 h.2 c hc
theorem fj.flat {g:Nat->Tt}:∀ {l:Tt},(∀c∈l,fj ps (g c))->fj ps (l.flatMap g)
 | [],_=>λl1 i l2 h=>by cases l1<;>cases h
 | c::l,h=>by
  rw[XD];exact(h c (Xh ..)).app (fj.flat λd hd=>h d (Xf _ hd))
theorem HF (h:0<t):i∈pre ps t i:=by
 cases t with
 | zero=>exact Qg h (Yl _)
 | succ t=>exact Xh ..
theorem SX (R:jd ps rk):∀(t j:Nat),rk j<t->fj ps (pre ps t j)
 | 0,_,h=>Qg h (Yl _)
 | t+1,j,h=>by
  refine fj.cons (fj.flat λc hc=>SX R t c ?_) λc hc=>XY.mpr ⟨c,hc,HF ?_⟩
  .have:=R.lt c j (gY.mp hc);lia
  .have:=R.lt c j (gY.mp hc);lia
theorem S5 (R:jd ps rk){p:Nat}(hc:c∈kids ps p):∀(t j:Nat),rk j<t->p∈pre ps t j->c∈pre ps t j
 | 0,_,h,_=>Qg h (Yl _)
 | t+1,j,h,hp=>by
  rcases Xn.mp hp with rfl | hp
  .have:=R.lt c p (gY.mp hc);exact Xf _ (XY.mpr ⟨c,hc,HF (by lia)⟩)
  .obtain⟨k,hk,hpk⟩:=XY.mp hp;have:=R.lt k j (gY.mp hk);exact Xf _ (XY.mpr ⟨k,hk,S5 R hc t k (by lia) hpk⟩)
theorem HJ {r:Nat}(Ld:zX ps rk r)(hp:∀c p:Nat,ps[c]? = some (some p)->p<ps.length)(b:Nat)(hb:∀i,i<ps.length->rk i<b):∀(m i:Nat),i<ps.length->b-rk i<=m->i∈pre ps (rk r+1) r
 | 0,i,hi,hm=>by have:=hb i hi;lia
 | m+1,i,hi,hm=>by
  cases hpi:ps[i]? with
  | none=>rw[Xd hi]at hpi;cases hpi
  | some o=>
   cases o with
   | none=>
    rw[Ld.one i hpi];exact HF (Nat.succ_pos _)
   | some p=>
    have h1:=Ld.jO.lt i p hpi;have h2:=hb p (hp i p hpi);exact S5 Ld.jO (gY.mpr hpi) _ _ (YJ _) (HJ Ld hp b hb m p (hp i p hpi) (by lia))
def uX (F:gF):Prop:=∀e∈F,e.2≠[]
theorem S6 {x:Tp×Nat}:∀ {F:gF},uX F->uX (cI F k x)
 | [],_=>λe he=>by rw[Xv.mp he];exact λz=>nomatch z
 | (c,l)::F,h=>by
  rw[zW];have h2:uX F:=λe he=>h e (Xf _ he);split
  .intro e he;rcases Xn.mp he with rfl | he
   .exact λz=>by simp at z
   .exact h2 e he
  .intro e he;rcases Xn.mp he with rfl | he
   .exact h _ (Xh ..)
   .exact S6 h2 e he
theorem S7 (g:Tp->Tp)(v:Tp->Nat):∀(l:Td)(F:gF),uX F->uX (l.foldl (λF r=>cI F (g r) (r,v r)) F)
 | [],F,h=>h
 | r::l,F,h=>by rw[Q6];exact S7 g v l _ (S6 h)
theorem zvg (sh:Te)(ps:Tf)(ts:Tc)(i:Nat):uX (cF sh ps ts i):=S7 _ _ _ [] λe he=>nomatch he
theorem S8:∀l:List (Tp×Nat),zaE (l.map gR)=true
 | []=>rfl
 | e::l=>by simp only[Xq,zaE,gR,dM,zbJ,tK e.1,S8 l,Bool.and_self]
theorem S9 {F:gF}(h:uX F):v8 (kW F):=by
 refine⟨_,_,rfl,λl hl=>?_⟩;obtain⟨e,he,rfl⟩:=XF.mp hl;have hn:=h e he;have nm:=S8 e.2;cases he2:e.2 with
 | nil=>exact Qg he2 hn
 | cons y ys=>
  rw[he2]at nm;exact⟨_,_,rfl,nm⟩
theorem HN:∀(t j i:Nat),i∈pre ps t j->i=j\/∃p:Nat,ps[i]? = some (some p)
 | 0,_,_,h=>nomatch h
 | t+1,j,i,h=>by
  rcases Xn.mp h with h | h
  .exact .inl h
  .obtain⟨k,hk,hi⟩:=XY.mp h;rcases HN t k i hi with rfl | h
   .exact .inr ⟨j,gY.mp hk⟩
   .exact .inr h
def zbK:vQ:=λds Q=>∃sh ps ts rk r,ds=[shpP sh,.lst (ts.map cN),zbl ps]/\je sh ps ts rk/\zX ps rk r/\(∀i,i<ps.length->rk i<7)/\(cU ps rk r).length<=100000/\Q ["shape","root","children","bonds","fans"] [shpP sh,.int (r:Nat),RV ps,RW sh ps,.lst (((XE ps.length).map (cF sh ps ts)).map kW)]
theorem CK:M5 zbK:=λds Q Q' m ⟨a,b,c,d,e,h,h1,h2,h3,h4,q⟩=>⟨a,b,c,d,e,h,h1,h2,h3,h4,m _ _ q⟩
section
variable {P:Wg}{w:Wj}{K:Xa}{mg:Tj}{base:Heap}
theorem Tz:cL ["self","shape","rows","parents","i"] ["self","shape","rows","parents"] (bf qZ):=fsc
abbrev Y4 (K:Xa)(mg:Tj):=Fx K mg "bond_of" zy ["shape","parents","i"]
abbrev Y5 (K:Xa)(mg:Tj):=Fx K mg "walk" Cj ["parents"]
abbrev zY (K:Xa)(C:PySem.Addr):=Mx K C "fan_of" "Tally.fan_of" zU ["self","i","table"]
abbrev Qj:List Str:=["self","shape","rows","parents","i"]
theorem CN {C f f1 f2 f3 f4 f5 f6 f7 f8:Addr}{fd eZ fd2 gQ iz kE kI kJ mH:Wk}(F:cj K "__init__" "Tally.__init__" qZ f fd) (T:TF K C) (au:Y1 K mg f1 eZ) (Options:pB K C f2 fd2) (bM:rC K C f3 gQ)
  (aK:wU K C f4 iz) (dR:zY K C f5 kE) (aH:Y2 K mg f6 kI) (cA:Y4 K mg f7 kJ) (Walk:Y5 K mg f8 mH) (B:Bl mg):aA P w K mg base aN 6 f fd ["self","shape","rows","parents"] (uG K C zbK):=by
 have GFanOf:aA P w K mg base aN 5 f5 kE ["self","i","table"] (aX K (HB C)):=zsj dR.fn T au Options bM aK B;have dJ:aA P w K mg base aN 5 f6 kI ["parents","i"] (aX K zam):=(Ro aH.fn B).mono (by decide);have rD:aA P w K mg base aN 5 f7 kJ ["shape","parents","i"] (aX K zaH):=(zpV cA.fn B).mono (by decide);have GWalk:aA P w K mg base aN 5 f8 mH ["parents"] (aX K zcP):=(zva Walk.fn aH B).mono (by decide);refine zuP F Tz (λds Q ⟨a,b,c,d,e,h,_⟩=>by rw[h];rfl) (λcdv A outer s H E hr=>?_);have hu:=bG hr;have nd:=Tz.nd;refine⟨_,(BW T.c T.shape (ak 1)
   (BW T.c T.root (GF (ak 3) sJ)
   (BW T.c T.children (j6 (N:=["i","parents"]) (k:=1) (js:=[3]) rfl (jX (sup:=bf qZ) (XN:=Qj) rfl rfl (by decide +kernel)) (by decide) (mX (by decide)) (sW rfl B.range (aB (gb rfl B.len (aB (ak 3) aJ)) aJ)) ⟨λ_ _ _ _ _=>(cB (i:=0) (by show(["i","parents"]:Tn).Nodup;decide +kernel) rfl (Qk rfl)),λ_ _ _ _ _=>nP,λ_ _ _ _ _=>(cM dJ Rk hr rfl aH.mg aH.fn.kp aH.bd (aB (ak 1) (aB (ak 0) aJ)))⟩)
   (BW T.c T.bonds (j6 (N:=["i","shape","parents"]) (k:=1) (js:=[1,3]) rfl (jX (sup:=bf qZ) (XN:=Qj) rfl rfl (by decide +kernel)) (by decide) (mX (by decide)) (sW rfl B.range (aB (gb rfl B.len (aB (ak 3) aJ)) aJ)) ⟨λ_ _ _ _ _=>(cB (i:=0) (by show(["i","shape","parents"]:Tn).Nodup;decide +kernel) rfl (Qk rfl)),λ_ _ _ _ _=>nP,λ_ _ _ _ _=>(cM rD zkT hr rfl cA.mg cA.fn.kp cA.bd (aB (ak 1) (aB (ak 2) (aB (ak 0) aJ))))⟩)
   (zrW T.c T.fans dR.me GFanOf znD hr dR.bd (j6 (N:=["i"]) (k:=1) (js:=[]) rfl (jX (sup:=bf qZ) (XN:=Qj) rfl rfl (by decide +kernel)) (by decide) (mX (by decide)) (sW rfl B.range (aB (gb rfl B.len (aB (ak 3) aJ)) aJ)) ⟨λ_ _ _ _ _=>(cB (i:=0) (by show(["i"]:Tn).Nodup;decide +kernel) rfl (Qk rfl)),λ_ _ _ _ _=>nP,λ_ _ _ _ _=>zuC⟩) nd (iI:=4) rfl (Qk rfl) rfl Ql (Gw rfl B.reversed (cM GWalk zpU hr rfl Walk.mg Walk.fn.kp Walk.bd (aB (ak 3) aJ))) (aB (ak 4) (aB (di (ak 2) (ak 4)) aJ)) (ak 4)))))),λds Q h=>?_⟩
 obtain⟨sh,ps,ts,rk,r,rfl,TT,Ld,h5,hpl,q⟩:=h;have hsz:=Wi;walk_at "pu";have hps:ps.length<=6:=TT.few;have hrl:r<ps.length:=(Xc.mp Ld.root).1;have pq:((ps.map aZ).all mZ)=true:=by
  rw[XX];intro d hd;obtain⟨p,_,rfl⟩:=XF.mp hd;cases p<;>rfl
 have hmem:PV.non∈ps.map aZ:=XF.mpr ⟨none,Xl Ld.root,rfl⟩;have hidx:iw (ps.map aZ) PV.non=r:=by
  unfold iw;refine(List.findIdx_eq (by rw[Xb];exact hrl)).mpr ⟨?_,λj hj=>?_⟩
  .rw[List.getElem_map,(Xc.mp Ld.root).2];exact Qd rfl
  .have hjl:j<ps.length:=by lia
   rw[List.getElem_map];cases hp:ps[j]with
   | none=>
    have:=Ld.one j (by rw[Xd hjl,hp]);lia
   | some p=>exact Qc λz=>nomatch z
 have hn:((ps.map aZ).length:Int).toNat=ps.length:=by rw[Xb];rfl
 have ni:-2 ^ 62<=((ps.map aZ).length:Int)/\((ps.map aZ).length:Int)<2 ^ 62:=by rw[Xb];lia
 have hrng:∀(i:Nat) (d:PV),(iY 0 ps.length)[i]? = some d->d=.int (i:Nat)/\i<ps.length:=λi d h=>by
  obtain⟨q1,q2⟩:=vG h;exact⟨by rw[q2,Int.zero_add],q1⟩
 have hrl2:(iY 0 ps.length).length=ps.length:=sV 0 ps.length;rw[hn];refine⟨(λz=>nomatch z),by decide,by decide,by decide,pq,rfl,hmem,by decide,by decide,ni.1,ni.2,by rw[hrl2];lia,λi out=>out=(XE i).map λi=>zco (kids ps i),rfl,?_,?_⟩
 .rintro i d out hd-rfl;obtain⟨rfl,hi⟩:=hrng i d hd;refine⟨ps,rfl,i,rfl,by lia,?_⟩;show _=_;rw[List.range_succ,Xp];rfl
 rintro out-rfl;rw[hrl2,hidx];refine⟨by decide,by decide,ni.1,ni.2,by lia,λi out=>out=(XE i).map λi=>.lst ((bW sh ps i).map PV.str),rfl,?_,?_⟩
 .rintro i d out hd-rfl;obtain⟨rfl,hi⟩:=hrng i d hd;refine⟨sh,rfl,ps,rfl,i,rfl,by rw[TT.len];exact hi,TT.len,λp hp=>by rw[TT.len];exact TT.bO i p hp,λl hl=>XC (TT.iR l hl) (by decide),?_⟩;show _=_;rw[List.range_succ,Xp];rfl
 rintro out-rfl;refine⟨by decide,by decide,by decide,ni.1,ni.2,by lia,λi out=>out=YN i (kW []),rfl,?_,?_⟩
 .rintro i d out hd-rfl;show _=_;rw[List.replicate_succ'];rfl
 rintro out-rfl;have hor:fj ps (cU ps rk r):=SX TT.jO _ _ (YJ _);have hall:∀i,i<ps.length->i∈cU ps rk r:=λi hi=>HJ Ld TT.bO 7 h5 _ i hi (Xj _);have hin:∀i∈cU ps rk r,i<ps.length:=λi hi=>by
  rcases HN (ps:=ps) _ _ i hi with rfl | ⟨p,hp⟩
  .exact hrl
  .exact(Xc.mp hp).1
 refine⟨λd hd=>?_,ps,rfl,by lia,rk,TT.jO,r,Ld.root,λj hj z=>by have:=Ld.one j z;lia,hpl,?_⟩
 .rw[(List.mem_replicate.mp hd).2];exact S9 λe he=>nomatch he
 generalize cU ps rk r=wk at hor hall hin hpl;rw[<- P0];refine⟨λj fs=>∃Fs:List gF,fs=Fs.map kW/\Fs.length=ps.length/\∀c∈wk.reverse.take j,Fs.getD c []=cF sh ps ts c,⟨YN ps.length [],by rw[List.map_replicate],QT,λc hc=>by rw[List.take_zero]at hc;cases hc⟩,?_,?_⟩
 .rintro j d fs hd ⟨Fs,rfl,tR,hF⟩;rw[Xg]at hd;cases hi:wk.reverse[j]? with
  | none=>rw[hi]at hd;cases hd
  | some i=>
   rw[hi]at hd;cases hd;have hmi:i∈wk:=YB.mp (Xl hi);have hil:=hin i hmi;have hjl:=(Xc.mp hi).1;have hti:ts[i]? = some (ts.getD i []):=by rw[Xi,Xd (show i<ts.length by rw[TT.tl,TT.len];exact hil)];rfl
   have hsplit:wk=(wk.reverse.drop (j+1)).reverse++i::(wk.reverse.take j).reverse:=by
    have e1:wk.reverse=wk.reverse.take j++i::wk.reverse.drop (j+1):=by
     have e2:=Yp (j+1) wk.reverse;rw[<- take_snoc hi,QM]at e2;exact e2.symm
    have e3:=congrArg List.reverse e1;rw[List.reverse_reverse,List.reverse_append,Ot,QM]at e3;exact e3
   have hkids:∀c∈kids ps i,Fs.getD c []=cF sh ps ts c:=λc hc=>hF c (YB.mp (hor _ _ _ hsplit c hc));refine⟨cN (ts.getD i []),⟨i,rfl,jt (by rw[Xg,hti];rfl)⟩,sh,ps,r,Fs,i,ts,rk,rfl,TT,tR,hil,h5 i hil,hkids,rfl,S9 (zvg sh ps ts i),i,rfl,by rw[Xb,tR];exact hil,Fs.set i (cF sh ps ts i),by rw[List.map_set],by rw[Yf];exact tR,λc hc=>?_⟩;by_cases jP:c=i
   .subst jP;rw[Xi,Xm (by rw[tR];exact hil)];rfl
   .rw[Xi,Xk (λz=>jP z.symm),<- Xi];rw[<- take_snoc hi]at hc;rcases Xz.mp hc with hc | hc
    .exact hF c hc
    .exact Qg (Xv.mp hc) jP
 .rintro fs ⟨Fs,rfl,tR,hF⟩;have e:Fs=(XE ps.length).map (cF sh ps ts):=by
   refine List.ext_getElem? λi=>?_;by_cases hi:i<ps.length
   .have h1:=hF i (by rw[Xb,Xs (Xj _)];exact YB.mpr (hall i hi));rw[Xg,List.getElem?_range hi];rw[Xi,Xd (by rw[tR];exact hi)]at h1;rw[Xd (by rw[tR];exact hi)];exact congrArg some h1
   .rw[XA (by rw[tR];lia),XA (by rw[Xb,Yr];lia)]
  rw[e];exact q
end
structure Ix (K:Xa)(mg:Tj)(C:Addr)(x qual:Str)(st:Wn)(ps:Tn)(f:Addr)(fd:Wk):Prop where
 fn:cj K "__init__" qual st f fd
 bd:Binds K fd ps []
 make:Mk K C f
 mg:mg x=some (.ref C)
def pF (sh:Te)(ps:Tf)(ts:Tc)(r:Nat):Nat:=aW.cH (ts.getD r []) (wB sh ps ts 7 r)
def zbT:PF:=λds Q=>∃sh ps ts rk r,ds=[shpP sh,.lst (ts.map cN),zbl ps]/\je sh ps ts rk/\zX ps rk r/\(∀i,i<ps.length->rk i<7)/\(cU ps rk r).length<=100000/\Q (.int (pF sh ps ts r:Nat)) .aF
theorem znF:cW zbT:=λds Q Q' m ⟨a,b,c,d,e,h,h1,h2,h3,h4,q⟩=>⟨a,b,c,d,e,h,h1,h2,h3,h4,m _ _ q⟩
theorem rE {r:Nat}(h:ps[r]? = some none):bW sh ps r=[]:=by unfold bW;rw[h]
theorem HS (h:c<ps.length):((XE ps.length).map (cF sh ps ts)).getD c []=cF sh ps ts c:=by
 rw[Xi,Xg,List.getElem?_range h];rfl
theorem zsk {r:Nat}(h:ps[r]? = some none)(fs:List gF)(hf:fs.getD r []=cF sh ps ts r):rm sh ps fs r [] []=pF sh ps ts r:=by
 rw[R9 hf];unfold pF
 congr 1
 refine List.filter_eq_self.mpr λr' _=>Qd ?_;unfold keyB;rw[rE h];rfl
section
variable {P:Wg}{w:Wj}{K:Xa}{mg:Tj}{base:Heap}
theorem TQ:cL ["shape","rows","parents","tally"] ["shape","rows","parents"] (bf zG):=fsc
abbrev CP (K:Xa)(mg:Tj)(C:PySem.Addr):=Ix K mg C "Tally" "Tally.__init__" qZ ["self","shape","rows","parents"]
theorem zsl {C f f0 f1 f2 f3 f4 f5 f6 f7 f8:Addr}{fd mJ eZ fd2 gQ iz kE kI kJ mH:Wk}(F:cj K "count" "count" zG f fd) (T:TF K C) (bR:CP K mg C f0 mJ) (au:Y1 K mg f1 eZ) (Options:pB K C f2 fd2) (bM:rC K C f3 gQ)
  (aK:wU K C f4 iz) (dR:zY K C f5 kE) (aH:Y2 K mg f6 kI) (cA:Y4 K mg f7 kJ) (Walk:Y5 K mg f8 mH) (B:Bl mg):aA P w K mg base aN 8 f fd ["shape","rows","parents"] (aX K zbT):=by
 have fu:aA P w K mg base aN 6 f0 mJ ["self","shape","rows","parents"] (uG K C zbK):=CN bR.fn T au Options bM aK dR aH cA Walk B;have iG:aA P w K mg base aN 7 f3 gQ ["self","i","known"] (aX K (zcR C)):=(Cy bM.fn T au Options B).mono (by decide);refine dI F TQ (λds Q ⟨a,b,c,d,e,h,_⟩=>by rw[h];rfl) (λcdv A outer s H E hr=>?_);have hu:=bG hr;have nd:=TQ.nd;refine⟨_,(aV (bH (i:=3) nd rfl (Qk rfl) (Bu bR.make fu CK hr rfl bR.mg bR.bd (aB (ak 0) (aB (ak 1) (aB (ak 2) aJ)))))
   (bF (cX (pW T.c bM.me iG Cv hr bM.bd (ak 3) (aB (lN T.c T.root (ak 3)) (aB vV aJ)))))),λds Q h=>?_⟩
 obtain⟨sh,ps,ts,rk,r,rfl,TT,Ld,h5,hpl,q⟩:=h;have hsz:=Wi;have hrl:r<ps.length:=(Xc.mp Ld.root).1;have hfl:((XE ps.length).map (cF sh ps ts)).length=ps.length:=by rw[Xb,Yr]
 walk_at "pu";refine⟨sh,rfl,ps,ts,rfl,rfl,rk,TT,r,Ld,h5,hpl,?_⟩;walk_at "go";refine⟨_,⟨_,rfl⟩,by decide,_,_,rfl,_,rfl,sh,ps,r,(XE ps.length).map (cF sh ps ts),rfl,r,rfl,[],rfl,[],rfl,TT.tO hfl,hrl,rfl,by rw[rE Ld.root];exact λl hl=>(nomatch hl),?_,?_⟩
 .rw[tL (HS hrl),Xb];exact XC (Yc _ _) (XC (tM TT.t4) (by decide))
 .rw[zsk Ld.root _ (HS hrl)];exact q
end
structure gU (sh:Te)(ps:Tf)(od:Tw):Prop where
 nd:∀i,(sh.getD i []).Nodup
 bO:∀k j:Nat,ps[k]? = some (some j)->od j<od k
 inj:∀(i j:Nat) (x y:Str),x∈sh.getD i []->y∈sh.getD j []->od i=od j->i=j
 conn:∀(k:Nat) (x:Str),x∈sh.getD k []->(∃j,ps[k]? = some (some j)/\x∈sh.getD j [])\/∀i,od i<od k->x∉sh.getD i []
inductive gZ (ps:Tf):Nat->Nat->Prop
 | refl (c:Nat):gZ ps c c
 | up {c p j:Nat}:ps[j]? = some (some p)->gZ ps c p->gZ ps c j
section
variable {sh:Te}{ps:Tf}{od:Tw}
theorem gZ.le (h:gU sh ps od)(u:gZ ps c j):od c<=od j:=by
 induction u with
 | refl=>exact Xj _
 | up hp _ ih=>have:=h.bO _ _ hp;lia
theorem gZ.bO {p:Nat}(u:gZ ps c j)(hn:j≠c)(hp:ps[j]? = some (some p)):gZ ps c p:=by
 cases u with
 | refl=>exact Qg rfl hn
 | up hq u=>rw[hp]at hq;cases hq;exact u
theorem zsm {p:Nat}(hp:ps[c]? = some (some p))(h1:x∈sh.getD c [])(h2:x∈sh.getD p []):x∈bW sh ps c:=by
 unfold bW;rw[hp];exact Yy.mpr ⟨h1,Qd h2⟩
theorem wV (h:gU sh ps od):∀(m j k:Nat),od j+od k<=m->gZ ps c j->x∈sh.getD j []->¬ gZ ps c k->x∈sh.getD k []->x∈bW sh ps c
 | m,j,k,hm,u,hj,v,hk=>by
  rcases Nat.lt_trichotomy (od k) (od j)with lt | e | lt
  .rcases h.conn j x hj with ⟨p,hp,hx⟩ | z
   .by_cases e:j=c
    .subst e;exact zsm hp hj hx
    .have hl:=h.bO _ _ hp
     match m,hm with
     | m+1,hm=>exact wV h m p k (by lia) (u.bO e hp) hx v hk
     | 0,hm=>lia
   .exact Qg hk (z k lt)
  .exact Qg (h.inj _ _ _ _ hk hj e▸u) v
  .rcases h.conn k x hk with ⟨p,hp,hx⟩ | z
   .have hl:=h.bO _ _ hp
    match m,hm with
    | m+1,hm=>exact wV h m j p (by lia) u hj (λz=>v (.up hp z)) hx
    | 0,hm=>lia
   .exact Qg hj (z j lt)
def newL (sh:Te)(ps:Tf)(i:Nat):Tn:=(sh.getD i []).filter λl=>!decide (l∈bW sh ps i)
theorem kY:x∈newL sh ps i↔x∈sh.getD i []/\x∉bW sh ps i:=by
 unfold newL;rw[Yy];simp
theorem TV (h:gU sh ps od)(hi:x∈newL sh ps i)(hj:x∈newL sh ps j):i=j:=by
 have a:=kY.mp hi;have b:=kY.mp hj;rcases Nat.lt_trichotomy (od i) (od j)with lt | e | lt
 .exact Qg (wV h _ j i (Xj _) (.refl j) b.1 (λz=>by have:=z.le h;lia) a.1) b.2
 .exact h.inj _ _ _ _ a.1 b.1 e
 .exact Qg (wV h _ i j (Xj _) (.refl i) a.1 (λz=>by have:=z.le h;lia) b.1) a.2
def bD (sh:Te)(ps:Tf):Nat->Nat->Tn
 | 0,_=>[]
 | t+1,i=>newL sh ps i++(kids ps i).flatMap (bD sh ps t)
theorem tU (t i:Nat):bD sh ps (t+1) i=newL sh ps i++(kids ps i).flatMap (bD sh ps t):=rfl
theorem wW:∀ {t i:Nat}{x:Str},x∈bD sh ps t i->∃j,gZ ps i j/\x∈newL sh ps j
 | 0,i,x,hx=>nomatch hx
 | t+1,i,x,hx=>by
  rcases Xz.mp hx with hx | hx
  .exact⟨i,.refl i,hx⟩
  .obtain⟨c,hc,hx⟩:=XY.mp hx;obtain⟨j,u,hj⟩:=wW hx;refine⟨j,?_,hj⟩;have hp:=gY.mp hc;have tr:∀ {c j:Nat},gZ ps c j->ps[c]? = some (some i)->gZ ps i j:=λ{c j} u=>by
    induction u with
    | refl=>exact λhp=>.up hp (.refl _)
    | up hq _ ih=>exact λhp=>.up hq (ih hp)
   exact tr u hp
theorem TX (h:gU sh ps od){d:Nat}(hc:ps[c]? = some (some i))(hd:ps[d]? = some (some i))(u:gZ ps c j):gZ ps d j->c=d:=by
 induction u with
 | refl=>
  intro v;by_cases e:c=d
  .exact e
  .have:=(v.bO e hc).le h;have:=h.bO _ _ hd;lia
 | up hq u ih=>
  rename_i p j
  intro v;by_cases e:j=d
  .subst e;rw[hd]at hq;cases hq;have:=u.le h;have:=h.bO _ _ hc;lia
  .exact ih (v.bO e hq)
theorem CQ (i:Nat):(kids ps i).Nodup:=List.nodup_range.sublist List.filter_sublist
theorem HW (h:gU sh ps od):(kids ps i).Pairwise λa b=>∀y∈bD sh ps t a,y∉bD sh ps t b:=by
 refine(CQ (ps:=ps) i).imp_of_mem λ{a b} ha hb ne y hy hy'=>?_;obtain⟨j,u,q⟩:=wW hy;obtain⟨j',u',q'⟩:=wW hy';obtain rfl:=TV h q q';exact ne (TX h (gY.mp ha) (gY.mp hb) u u')
theorem zZ (h:gU sh ps od):∀t i,(bD sh ps t i).Nodup
 | 0,i=>QG
 | t+1,i=>by
  rw[tU,Ys];refine⟨(h.nd i).sublist List.filter_sublist,?_,λx hx y hy e=>?_⟩
  .show((kids ps i).flatMap (bD sh ps t)).Pairwise (·≠·);refine List.pairwise_flatMap.mpr ⟨λc _=>zZ h t c,(HW h (t:=t) (i:=i)).imp λ{a b} q=>by intro x hx y hy e;subst e;exact q x hx hy⟩
  .subst e;obtain⟨c,hc,hy⟩:=XY.mp hy;obtain⟨j,u,q⟩:=wW hy;obtain rfl:=TV h hx q;have:=u.le h;have:=h.bO _ _ (gY.mp hc);lia
theorem HX (R:jd ps rk):∀(t t' i:Nat),rk i<t->rk i<t'->bD sh ps t i=bD sh ps t' i
 | 0,_,_,h,_=>Qg h (Yl _)
 | _+1,0,_,_,h=>Qg h (Yl _)
 | t+1,t'+1,i,h,h'=>by
  rw[tU,tU]
  congr 1
  have:∀ {l:Tt},(∀c∈l,bD sh ps t c=bD sh ps t' c)->l.flatMap (bD sh ps t)=l.flatMap (bD sh ps t'):=λ{l} q=>by
   induction l with
   | nil=>rfl
   | cons a l ih=>rw[XD,XD,q a (Xh ..),ih λc hc=>q c (Xf _ hc)]
  refine this λc hc=>?_;have:=R.lt c i (gY.mp hc);exact HX R t t' c (by lia) (by lia)
end
theorem TY (hn:p.Nodup)(hl:p.length=r.length):∀e∈p.zip r,(p.zip r).lookup e.1=some e.2/\dW p r e.1=e.2:=λe he=>by
 have h:(p.zip r).lookup e.1=some e.2:=by
  induction p generalizing r with
  | nil=>cases he
  | cons a p ih=>
   cases r with
   | nil=>cases hl
   | cons x r=>
    rw[XS]at he ⊢;rw[XT];obtain⟨h1,h2⟩:=XO.mp hn;rcases Xn.mp he with rfl | he
    .rw[show(a == a)=true from beq_self_eq_true a]
    .have:e.1∈p:=(Oe he).1;rw[show(e.1 == a)=false from beq_eq_false_iff_ne.mpr λz=>h1 (z▸this)];exact ih h2 (by simpa using hl) he
 exact⟨h,by unfold dW;rw[h];rfl⟩
theorem T4 {l:Str}(hn:p.Nodup)(hl:p.length=r.length)(h:l∈p):(l,dW p r l)∈p.zip r:=by
 obtain⟨i,hi,rfl⟩:=YF.mp h;have hm:(p[i],r[i]'(by lia))∈p.zip r:=by
  have:=YA (l:=p.zip r) (n:=i) (by rw[YI];lia);rw[List.getElem_zip]at this;exact this
 have:=(TY hn hl _ hm).2;rw[show dW p r p[i]=r[i]'(by lia) from this];exact hm
structure fQ (cs:Str->Tp):Prop where
 lt:∀l,(cs l).Pairwise (· < ·)
 pos:∀l,0<(cs l).length
 le:∀l,(cs l).length<=20
abbrev g8 (cs:Str->Tp):Str->Nat:=λl=>(cs l).length
structure wX (sh:Te)(ps:Tf)(ts:Tc)(cs:Str->Tp):Prop where
 ok:fQ cs
 tab:∀i,i<ps.length->ts.getD i []=aU.cD cs (sh.getD i [])
section
variable {sh:Te}{ps:Tf}{ts:Tc}{cs:Str->Tp}{od rk:Tw}
abbrev bB (sh:Te)(ps:Tf)(c:Nat):Str->Bool:=λl=>decide (l∈bW sh ps c)
theorem zsn (h:gU sh ps od)(hr:r∈aU.cD cs (sh.getD i [])){l:Str}(hl:l∈sh.getD i []):dW (sh.getD i []) r l∈cs l:=by
 obtain⟨h1,h2⟩:=aU.zb cs hr;exact h2 _ (T4 (h.nd i) h1.symm hl)
theorem HY (h:gU sh ps od)(G:fQ cs)(hk:∀l∈bW sh ps c,dW ls rr l∈cs l) :
  ((aU.cD cs (sh.getD c [])).filter λr'=>decide (keyB sh ps c (sh.getD c []) r'=keyB sh ps c ls rr))=aU.cD (aU.eY cs (bB sh ps c) (dW ls rr)) (sh.getD c []):=by
 rw[<- aU.N5 cs (bB sh ps c) (dW ls rr) λl _ hb=>⟨hk l (Qh hb),aU.zrY (G.lt l)⟩];refine List.filter_congr λr hr=>?_;obtain⟨h1,h2⟩:=aU.zb cs hr;rw[Pq,decide_eq_true_eq];unfold aU.vY keyB;rw[XX];constructor
 .intro e x hx;by_cases hb:x.1∈bW sh ps c
  .have:=List.map_inj_left.mp e x.1 hb;rw[(TY (h.nd c) h1.symm x hx).2]at this;rw[this];simp
  .simp[bB,hb]
 .intro e;refine List.map_inj_left.mpr λl hl=>?_;have:=e _ (T4 (h.nd c) h1.symm (Sh l hl));simpa[bB,hl]using this
theorem z6 {f:M->Nat}:∀ {l:List M},(∀a∈l,f a=b)->aW.cH l f=l.length*b
 | [],_=>(Nat.zero_mul _).symm
 | a::l,h=>by rw[aW.oY,h a (Xh ..),z6 λx hx=>h x (Xf _ hx),Xy,Q9,Nat.add_comm]
theorem CT (c:Nat)(k:Str->Int):(aU.cD (aU.eY cs (bB sh ps c) k) (sh.getD c [])).length=aW.bw (newL sh ps c) (g8 cs):=by
 rw[aU.vX,(aU.BP cs (bB sh ps c) k).1];rfl
theorem T5 (h:gU sh ps od)(G:fQ cs)(hk:∀l∈bW sh ps c,dW ls rr l∈cs l):∀r∈aU.cD (aU.eY cs (bB sh ps c) (dW ls rr)) (sh.getD c []),r∈aU.cD cs (sh.getD c []):=λr hr=>by
 rw[<- HY h G hk]at hr;exact(Yy.mp hr).1
theorem CV (h:gU sh ps od)(G:wX sh ps ts cs):∀(t i:Nat)(r:Tp),r∈aU.cD cs (sh.getD i [])->wB sh ps ts t i r=aW.bw ((kids ps i).flatMap (bD sh ps t)) (g8 cs)
 | 0,i,r,hr=>by
  have:(kids ps i).flatMap (bD sh ps 0)=[]:=List.flatMap_eq_nil_iff.mpr λ_ _=>rfl;rw[this];rfl
 | t+1,i,r,hr=>by
  rw[aU.GZ];refine aW.BK λc hc=>?_;have hp:=gY.mp hc;have hk:∀l∈bW sh ps c,dW (sh.getD i []) r l∈cs l:=λl hl=>zsn h hr (tQ hp l hl);rw[G.tab c (Xc.mp hp).1,HY h G.ok hk,z6 λr' hr'=>CV h G t c r' (T5 h G.ok hk r' hr'),CT,tU,aU.uH]
def wN (sh:Te)(ps:Tf)(cs:Str->Tp)(i:Nat):Nat:=aW.bw ((kids ps i).flatMap (bD sh ps 7)) (g8 cs)
def sN (sh:Te)(ps:Tf)(cs:Str->Tp)(i:Nat):Nat:=aW.bw (bD sh ps 7 i) (g8 cs)
theorem jg (R:jd ps rk)(hi:rk i<7):bD sh ps 7 i=newL sh ps i++(kids ps i).flatMap (bD sh ps 7):=by
 rw[HX R 7 8 i hi (by lia),tU]
theorem wY (R:jd ps rk)(hi:rk i<7):sN sh ps cs i=aW.bw (newL sh ps i) (g8 cs)*wN sh ps cs i:=by
 unfold sN wN;rw[jg R hi,aU.uH]
theorem uY (i:Nat):wN sh ps cs i=aW.bw (kids ps i) (sN sh ps cs):=by
 unfold wN;rw[aU.GZ];rfl
theorem CW (h:gU sh ps od)(G:wX sh ps ts cs)(hc:c<ps.length)(hf:fs.getD c []=cF sh ps ts c)(hk:∀l∈bW sh ps c,dW ls rr l∈cs l) :
  dN sh ps fs c ls rr=(aU.cD (aU.eY cs (bB sh ps c) (dW ls rr)) (sh.getD c [])).map λr=>(r,wN sh ps cs c):=by
 rw[tL hf,G.tab c hc,HY h G.ok hk];refine Yt λr hr=>?_;rw[CV h G 7 c r (T5 h G.ok hk r hr)];rfl
theorem T6 (h:gU sh ps od)(G:wX sh ps ts cs)(R:jd ps rk)(hc:c<ps.length)(hr:rk c<7)(hf:fs.getD c []=cF sh ps ts c)(hk:∀l∈bW sh ps c,dW ls rr l∈cs l) :
  rm sh ps fs c ls rr=sN sh ps cs c:=by
 unfold rm;rw[CW h G hc hf hk,aW.GQ,z6 λ_ _=>rfl,CT,wY R hr]
end
def zeE:PF:=λds Q=>∃(gs:Td)(W n:Nat),ds=[.lst ((gs.map λr=>(r,W)).map gR),.int (n:Nat)]/\gs.length<=1000/\n<gs.length*W/\Q (.tup [dM (gs.getD (n / W) []),.int ((n % W:Nat):Int)]) .aF
theorem zqr:cW zeE:=λds Q Q' m ⟨a,b,c,e,h1,h2,q⟩=>⟨a,b,c,e,h1,h2,m _ _ q⟩
section
variable {P:Wg}{w:Wj}{K:Xa}{mg:Tj}{base:Heap}
theorem CZ:cL ["options","n","row","ways"] ["options","n"] (bf zF):=fsc
theorem zvh (F:cj K "picked" "picked" zF f fd) (B:Bl mg):aA P w K mg base aN 1 f fd ["options","n"] (aX K zeE):=by
 refine dI F CZ (λds Q ⟨a,b,c,e,_⟩=>by rw[e];rfl) (λcdv A outer s H E hr=>?_);have hu:=bG hr;have nd:=CZ.nd;refine⟨_,(aV (j4 rfl Ql (jN (ak 0)) (oN (n:=2) rfl (iM (cB (i:=2) nd rfl (Qk rfl)) (iM (cB (i:=3) nd rfl (Qk rfl)) oM))) (aV (jM (uw (ak 1) (ak 3)) (bF (cX (vA (aB (ak 2) (aB (ak 1) aJ))))) jL)
   (bF (bH (i:=1) nd rfl (Qk rfl) (sO (ak 1) (ak 3))))))
   (bF G6)),λds Q h=>?_⟩
 obtain⟨gs,W,n,rfl,hg,hn,q⟩:=h;have hsz:=Wi;walk_at "pu";obtain⟨Iv,aP⟩:∃Iv:Nat->aC->Prop,∀k U,Iv k U↔∃(v2 v3:Option (PV×Bool)),U=[some (PV.lst ((gs.map λr=>(r,W)).map gR),false),some (PV.int ((n-k*W:Nat):Int),false),v2,v3]/\k*W<=n:=⟨_,λ_ _=>Qy⟩;refine⟨Iv,(aP _ _).mpr ⟨none,none,?_,by lia⟩,?_,?_⟩
 .rw[Nat.zero_mul,Nat.sub_zero]
 .intro k d U hd hI;obtain⟨v2,v3,rfl,hk⟩:=(aP _ _).mp hI;rw[Xg,Xg]at hd;cases hr:gs[k]? with
  | none=>rw[hr]at hd;cases hd
  | some r=>
   rw[hr]at hd;cases hd;refine⟨_,rfl,rfl,_,_,rfl,_,_,rfl,rfl,?_⟩;walk_at "go";refine bT (λe=>?_) (λe=>?_)
   .have e':=e;have hlt:n-k*W<W:=by lia
    have hdv:n / W=k:=Nat.div_eq_of_lt_le hk (by rw[Q9];lia);have hmd:n % W=n-k*W:=by
     have:=Nat.div_add_mod n W;rw[hdv,Q8]at this;lia
    walk_at "go";rw[hdv,hmd,Xi,hr]at q;exact⟨by lia,q⟩
   .have e':=e;walk_at "go";walk_at "go";refine(aP _ _).mpr ⟨some (dM r,false),some (PV.int W,false),?_,?_⟩
    .have:((n-k*W:Nat):Int)-(W:Int)=((n-(k+1)*W:Nat):Int):=by
      rw[Q9];lia
     rw[<- this]
    .rw[Q9];lia
 .intro U hI;obtain⟨v2,v3,rfl,hk⟩:=(aP _ _).mp hI;rw[Xb,Xb]at hk;lia
end
abbrev bV:=List (Str×Int)
def kD (D:bV):PV:=zaS (D.map (·.1)) (D.map (·.2))
def vD (D:bV)(l:Str):Int:=(D.lookup l).getD 0
theorem T7:∀D:bV,(D.map (·.1)).zip (D.map (·.2))=D
 | []=>rfl
 | (a,b)::D=>by rw[Xq,Xq,XS,T7 D]
theorem wZ (D:bV)(l:Str):dW (D.map (·.1)) (D.map (·.2)) l=vD D l:=by unfold dW vD;rw[T7]
theorem n6 (a:Str)(b:Int)(D:bV)(x:Str):vD ((a,b)::D) x=if x=a then b else vD D x:=by
 unfold vD;rw[XT];by_cases h:x=a
 .rw[Qf h,show(x == a)=true from beq_iff_eq.mpr h];rfl
 .rw[Qe h,show(x == a)=false from beq_eq_false_iff_ne.mpr h]
def gV (l:Str)(v:Int)(e:Str×Int):Str×Int:=if e.1=l then(e.1,v) else e
def gH (D:bV)(l:Str)(v:Int):bV:=if l∈D.map (·.1) then D.map (gV l v) else D++[(l,v)]
theorem Ia (l:Str)(v:Int)(D:bV):(D.map (gV l v)).map (·.1)=D.map (·.1):=by
 rw[Yb];refine Yt λe _=>?_;show(gV l v e).1=e.1;unfold gV;split<;>rfl
theorem zso (D:bV)(l:Str)(v:Int)(x:Str):x∈(gH D l v).map (·.1)↔x∈D.map (·.1)\/x=l:=by
 unfold gH;split
 .rename_i h
  rw[Ia];exact⟨.inl,λq=>q.elim (λz=>z) λz=>z▸h⟩
 .rw[Xp,Xz];simp
theorem zxj (h:(D.map (·.1)).Nodup)(l:Str)(v:Int):((gH D l v).map (·.1)).Nodup:=by
 unfold gH;split
 .rw[Ia];exact h
 .rename_i hn
  rw[Xp,Ys];refine⟨h,by simp,λa ha b hb e=>hn ?_⟩;have:b=l:=by simpa using hb
  rw[<- this,<- e];exact ha
theorem T8 (l:Str)(v:Int)(x:Str):∀D:bV,vD (D.map (gV l v)) x=if x=l/\l∈D.map (·.1) then v else vD D x
 | []=>by rw[Qe (by simp)];rfl
 | (a,b)::D=>by
  have ih:=T8 l v x D;rw[Xq];by_cases ha:a=l
  .have e:gV l v (a,b)=(a,v):=by unfold gV;rw[Qf ha]
   rw[e,n6,n6,ih,ha];by_cases hx:x=l
   .rw[Qf hx,Qf ⟨hx,by simp⟩]
   .rw[Qe hx,Qe (λz=>hx z.1),Qe (λz=>hx z.1),Qe hx]
  .have e:gV l v (a,b)=(a,b):=by unfold gV;rw[Qe ha]
   rw[e,n6,n6,ih];by_cases hx:x=a
   .rw[Qf hx,Qe (λz=>ha (hx▸z.1)),Qf hx]
   .rw[Qe hx,Qe hx];have:(x=l/\l∈D.map (·.1))↔(x=l/\l∈((a,b)::D).map (·.1)):=by
     rw[Xq,Xn];exact⟨λz=>⟨z.1,.inr z.2⟩,λz=>⟨z.1,z.2.resolve_left λq=>ha q.symm⟩⟩
    by_cases hc:x=l/\l∈D.map (·.1)
    .rw[Qf hc,Qf (this.mp hc)]
    .rw[Qe hc,Qe λz=>hc (this.mpr z)]
theorem T9 (l:Str)(v:Int)(x:Str):∀D:bV,l∉D.map (·.1)->vD (D++[(l,v)]) x=if x=l then v else vD D x
 | [],_=>by rw[Ol,n6]
 | (a,b)::D,h=>by
  have h1:l≠a:=λz=>h (by rw[z];exact Xh ..);have h2:l∉D.map (·.1):=λz=>h (Xf _ z);rw[Yv,n6,n6,T9 l v x D h2];by_cases hx:x=a
  .rw[Qf hx,Qe (λz=>h1 (z.symm.trans hx)),Qf hx]
  .rw[Qe hx,Qe hx]
theorem zvi (D:bV)(l:Str)(v:Int)(x:Str):vD (gH D l v) x=if x=l then v else vD D x:=by
 unfold gH;by_cases h:l∈D.map (·.1)
 .rw[Qf h,T8];by_cases hx:x=l
  .rw[Qf ⟨hx,h⟩,Qf hx]
  .rw[Qe (λz=>hx z.1),Qe hx]
 .rw[Qe h,T9 l v x D h]
def gW (D:bV)(es:bV):bV:=es.foldl (λD e=>gH D e.1 e.2) D
theorem Ua (x:Str):∀(es D:bV),x∈(gW D es).map (·.1)↔x∈D.map (·.1)\/x∈es.map (·.1)
 | [],D=>by simp[gW]
 | e::es,D=>by
  show x∈(gW (gH D e.1 e.2) es).map (·.1)↔_;rw[Ua x es,zso,Xq,Xn,or_assoc]
theorem Ub:∀(es:bV){D:bV},(D.map (·.1)).Nodup->((gW D es).map (·.1)).Nodup
 | [],D,h=>h
 | e::es,D,h=>Ub es (zxj h e.1 e.2)
theorem Uc (x:Str):∀(es D:bV),(es.map (·.1)).Nodup->vD (gW D es) x=if x∈es.map (·.1) then vD es x else vD D x
 | [],D,_=>by rw[Qe (by simp)];rfl
 | (a,b)::es,D,h=>by
  obtain⟨h1,h2⟩:=XO.mp (show(a::es.map (·.1)).Nodup from h);show vD (gW (gH D a b) es) x=_;rw[Uc x es _ h2,zvi,n6,Xq];by_cases hm:x∈es.map (·.1)
  .rw[Qf hm,Qf (Xf _ hm),Qe (λ(z:x=a)=>h1 (z▸hm))]
  .rw[Qe hm];by_cases hx:x=a
   .rw[Qf hx,Qf (by rw[hx];exact Xh ..),Qf hx]
   .rw[Qe hx,Qe λz=>(Xn.mp z).elim hx hm]
theorem Ud (D:bV)(l:Str):eX ((D.map (·.1)).map (Qo:Str->Key)) (.inr l)=decide (l∈D.map (·.1)):=by
 unfold eX;rw[Pq,List.any_eq_true,decide_eq_true_eq];constructor
 .rintro⟨c,hc,e⟩;obtain⟨l',hl,rfl⟩:=XF.mp hc;have:=Qh e;rw[<- Sum.inr.inj this];exact hl
 .exact λh=>⟨.inr l,XF.mpr ⟨l,h,rfl⟩,Qd rfl⟩
theorem Ue (l:Str)(v:Int):∀D:bV,putD ((D.map (·.1)).map (Qo:Str->Key)) ((D.map (·.2)).map PV.int) (.inr l) (.int v)=((D.map (gV l v)).map (·.2)).map PV.int
 | []=>rfl
 | (a,b)::D=>by
  have ih:=Ue l v D;unfold putD at ih ⊢;rw[Xq,Xq,Xq,Xq,XS,Xq,ih,Xq,Xq,Xq]
  congr 1
  show(if (Qo a:Key)=.inr l then PV.int v else PV.int b)=PV.int (gV l v (a,b)).2
  unfold gV;by_cases h:a=l
  .rw[Qf (by rw[h]),Qf h]
  .rw[Qe (λz=>h (Sum.inr.inj z)),Qe h]
theorem Ug:∀(es D:bV),gC ((D.map (·.1)).map (Qo:Str->Key),(D.map (·.2)).map PV.int) (((es.map (·.1)).map (Qo:Str->Key)).zip ((es.map (·.2)).map PV.int))=(((gW D es).map (·.1)).map Qo,((gW D es).map (·.2)).map PV.int)
 | [],D=>rfl
 | (a,b)::es,D=>by
  have st:(if eX ((D.map (·.1)).map (Qo:Str->Key)) (.inr a)=true then((D.map (·.1)).map (Qo:Str->Key),putD ((D.map (·.1)).map (Qo:Str->Key)) ((D.map (·.2)).map PV.int) (.inr a) (.int b)) else((D.map (·.1)).map (Qo:Str->Key)++[.inr a],(D.map (·.2)).map PV.int++[.int b]))=(((gH D a b).map (·.1)).map Qo,((gH D a b).map (·.2)).map PV.int):=by
   rw[Ud];unfold gH;by_cases h:a∈D.map (·.1)
   .rw[Qf (Qd h),Qf h,Ue,Ia]
   .rw[Qe (by rw[decide_eq_true_eq];exact h),Qe h];simp only[Xp,Xq,YE]
  show gC (if _ then _ else _) (((es.map (·.1)).map (Qo:Str->Key)).zip ((es.map (·.2)).map PV.int))=_
  refine Eq.trans (congrArg (λz=>gC z _) st) ?_;exact Ug es (gH D a b)
structure Got (cs:Str->Tp)(L:Tn)(g:Str->Nat)(D D':bV):Prop where
 nd:(D'.map (·.1)).Nodup
 key:∀l,l∈D'.map (·.1)↔l∈D.map (·.1)\/l∈L
 new:∀l∈L,vD D' l=(cs l).getD (g l) 0
 old:∀l,l∉L->vD D' l=vD D l
section
variable {sh:Te}{ps:Tf}{ts:Tc}{cs:Str->Tp}{od rk:Tw}
theorem Got.refl (h:(D.map (·.1)).Nodup):Got cs [] g D D:=⟨h,(λl=>by simp),(λl hl=>by cases hl),λ_ _=>rfl⟩
theorem Got.trans {L1 L2:Tn}{D1 D2:bV}(a:Got cs L1 g D D1)(b:Got cs L2 g D1 D2)(hd:∀l∈L1,l∉L2):Got cs (L2++L1) g D D2 where
 nd:=b.nd
 key l:=by rw[b.key,a.key,Xz,or_assoc,or_comm (a:=l∈L1)]
 new l hl:=by
  rcases Xz.mp hl with h | h
  .exact b.new l h
  .rw[b.old l (hd l h)];exact a.new l h
 old l hl:=by
  have h1:l∉L2:=λz=>hl (Yj _ z);have h2:l∉L1:=λz=>hl (XR _ z);rw[b.old l h1,a.old l h2]
theorem Got.congr {g':Str->Nat}{D':bV}(a:Got cs L g D D')(h:∀l∈L,g l=g' l):Got cs L g' D D':=⟨a.nd,a.key,λl hl=>by rw[a.new l hl,h l hl],a.old⟩
theorem Got.mem {L':Tn}{D':bV}(a:Got cs L g D D')(h:∀l,l∈L↔l∈L'):Got cs L' g D D':=⟨a.nd,λl=>by rw[a.key,h],λl hl=>a.new l ((h l).mpr hl),λl hl=>a.old l λz=>hl ((h l).mp z)⟩
structure Kn (sh:Te)(ps:Tf)(cs:Str->Tp)(i:Nat)(D:bV):Prop where
 nd:(D.map (·.1)).Nodup
 key:∀l∈bW sh ps i,l∈D.map (·.1)
 val:∀l∈bW sh ps i,vD D l∈cs l
 few:∀l∈D.map (·.1),l∈sh.flatten
abbrev fB (sh:Te)(ps:Tf)(cs:Str->Tp)(i n:Nat):Str->Nat:=aU.jl (g8 cs) (bD sh ps 7 i) n
def bU (sh:Te)(ps:Tf)(cs:Str->Tp)(i n:Nat)(D:bV):Tp:=(aU.cD (aU.eY cs (bB sh ps i) (vD D)) (sh.getD i [])).getD (n / wN sh ps cs i) []
theorem Dc (G:fQ cs)(i:Nat):0<wN sh ps cs i:=aU.GX λl _=>G.pos l
theorem Uh (G:fQ cs)(i:Nat):0<sN sh ps cs i:=aU.GX λl _=>G.pos l
theorem Ui (G:fQ cs)(R:jd ps rk)(hi:rk i<7)(hn:n<sN sh ps cs i):n / wN sh ps cs i<aW.bw (newL sh ps i) (g8 cs):=by
 rw[Nat.div_lt_iff_lt_mul (Dc G i),<- wY R hi];exact hn
theorem Dd (h:gU sh ps od)(G:fQ cs)(R:jd ps rk)(hi:rk i<7)(hn:n<sN sh ps cs i)(D:bV) :
  (aU.cD (aU.eY cs (bB sh ps i) (vD D)) (sh.getD i []))[n / wN sh ps cs i]? = some (bU sh ps cs i n D)/\
  bU sh ps cs i n D=(sh.getD i []).map λx=>(aU.eY cs (bB sh ps i) (vD D) x).getD (aU.jl (λl=>(aU.eY cs (bB sh ps i) (vD D) l).length) (sh.getD i []) (n / wN sh ps cs i) x) 0:=by
 have e:=aU.NQ (aU.eY cs (bB sh ps i) (vD D)) (q:=n / wN sh ps cs i) (h.nd i) (by rw[(aU.BP cs (bB sh ps i) (vD D)).1];exact Ui G R hi hn);refine(λe2=>⟨by rw[e,e2],e2⟩) ?_;unfold bU;rw[Xi,e];rfl
theorem Uj (h:gU sh ps od)(G:fQ cs)(R:jd ps rk)(hi:rk i<7)(hn:n<sN sh ps cs i)(D:bV)(hx:x∈sh.getD i []) :
  vD ((sh.getD i []).zip (bU sh ps cs i n D)) x=if x∈bW sh ps i then vD D x else(cs x).getD (fB sh ps cs i n x) 0:=by
 rw[(Dd h G R hi hn D).2];have zm:∀(p:Tn) (f:Str->Int),x∈p->vD (p.zip (p.map f)) x=f x:=λp f=>by
  induction p with
  | nil=>exact λz=>nomatch z
  | cons a p ih=>
   intro hp;rw[Xq,XS,n6];by_cases e:x=a
   .rw[Qf e,e]
   .rw[Qe e];exact ih ((Xn.mp hp).resolve_left e)
 rw[zm _ _ hx];obtain⟨q1,q2⟩:=aU.BP cs (bB sh ps i) (vD D) (p:=sh.getD i []);have hlt:=Ui (sh:=sh) G R hi hn;by_cases hb:x∈bW sh ps i
 .have e1:aU.eY cs (bB sh ps i) (vD D) x=[vD D x]:=by unfold aU.eY;rw[Qf (Qd hb)]
  have e2:=aU.vW (λl=>(aU.eY cs (bB sh ps i) (vD D) l).length) (p:=sh.getD i []) (n:=n / wN sh ps cs i) (x:=x) (by rw[q1];exact hlt) hx;rw[Qf hb];simp only[e1]at e2 ⊢;have e3:aU.jl (λl=>(aU.eY cs (bB sh ps i) (vD D) l).length) (sh.getD i []) (n / wN sh ps cs i) x=0:=by simpa using e2
  rw[e3];rfl
 .have e1:aU.eY cs (bB sh ps i) (vD D) x=cs x:=by unfold aU.eY;rw[Qe (by rw[decide_eq_true_eq];exact hb)]
  rw[Qe hb,e1,q2 (Qc hb) (by rw[q1];exact hlt)]
  congr 1
  unfold fB;rw[jg R hi,aU.uJ _ _ _ _ _ (by rw[<- jg R hi];exact hn),Qf (kY.mpr ⟨hx,hb⟩)];rfl
theorem getD_mem {l:Tp}{k:Nat}(h:k<l.length):l.getD k 0∈l:=by
 rw[Xi,Xd h];exact YA h
theorem Ib (h:gU sh ps od)(G:fQ cs)(R:jd ps rk)(hi:rk i<7)(hn:n<sN sh ps cs i)(D:bV):(bU sh ps cs i n D).length=(sh.getD i []).length:=by
 rw[(Dd h G R hi hn D).2,Xb]
theorem zsp (h:gU sh ps od)(G:fQ cs)(R:jd ps rk)(hi:rk i<7)(hn:n<sN sh ps cs i)(k:Kn sh ps cs i D) :
  Got cs (newL sh ps i) (fB sh ps cs i n) D (gW D ((sh.getD i []).zip (bU sh ps cs i n D)))/\∀l∈sh.getD i [],vD (gW D ((sh.getD i []).zip (bU sh ps cs i n D))) l∈cs l:=by
 have hl:=Ib h G R hi hn D;have hk:((sh.getD i []).zip (bU sh ps cs i n D)).map (·.1)=sh.getD i []:=List.map_fst_zip (by lia);have hv:∀x,vD (gW D ((sh.getD i []).zip (bU sh ps cs i n D))) x=if x∈sh.getD i [] then(if x∈bW sh ps i then vD D x else(cs x).getD (fB sh ps cs i n x) 0) else vD D x:=λx=>by
  rw[Uc x _ D (by rw[hk];exact h.nd i),hk];by_cases hx:x∈sh.getD i []
  .rw[Qf hx,Qf hx,Uj h G R hi hn D hx]
  .rw[Qe hx,Qe hx]
 refine⟨⟨Ub _ k.nd,λl=>?_,λl hl=>?_,λl hl=>?_⟩,λl hl=>?_⟩
 .rw[Ua,hk,kY];constructor
  .rintro(z | z)
   .exact .inl z
   .by_cases hb:l∈bW sh ps i
    .exact .inl (k.key l hb)
    .exact .inr ⟨z,hb⟩
  .exact λz=>z.elim .inl λz=>.inr z.1
 .obtain⟨h1,h2⟩:=kY.mp hl;rw[hv,Qf h1,Qe h2]
 .rw[hv];by_cases hx:l∈sh.getD i []
  .rw[Qf hx];by_cases hb:l∈bW sh ps i
   .rw[Qf hb]
   .exact Qg (kY.mpr ⟨hx,hb⟩) hl
  .rw[Qe hx]
 .rw[hv,Qf hl];by_cases hb:l∈bW sh ps i
  .rw[Qf hb];exact k.val l hb
  .rw[Qe hb];refine getD_mem (aU.vW (g8 cs) hn ?_);rw[jg R hi];exact Yj _ (kY.mpr ⟨hl,hb⟩)
theorem Ie (h:gU sh ps od)(hc:ps[c]? = some (some i))(hx:x∈sh.getD i []):x∉bD sh ps t c:=λz=>by
 obtain⟨j,u,hj⟩:=wW z;obtain⟨h1,h2⟩:=kY.mp hj;refine h2 (wV h _ j i (Xj _) (.refl j) h1 (λv=>?_) hx);have:=v.le h;have:=u.le h;have:=h.bO _ _ hc;lia
theorem Uk (h:gU sh ps od)(R:jd ps rk)(hi:rk i<7)(hn:n<sN sh ps cs i)(hc:c∈kids ps i)(hx:x∈bD sh ps 7 c) :
  fB sh ps cs c (aU.jl (sN sh ps cs) (kids ps i) (n % wN sh ps cs i) c) x=fB sh ps cs i n x:=by
 have hf:x∈(kids ps i).flatMap (bD sh ps 7):=XY.mpr ⟨c,hc,hx⟩;have hnn:x∉newL sh ps i:=λz=>Ie h (gY.mp hc) (kY.mp z).1 hx;unfold fB;rw[jg R hi,aU.uJ _ _ _ _ _ (by rw[<- jg R hi];exact hn),Qe hnn];have hp:0<wN sh ps cs i:=by
  have:=wY (sh:=sh) (cs:=cs) R hi;rw[this]at hn;exact aU.uI hn
 have hm:=QS n hp;have:=aU.NK (g8 cs) (bD sh ps 7) (ks:=kids ps i) (n:=n % wN sh ps cs i) (c:=c) (x:=x) (by rw[uY]at hm ⊢;exact hm) hc hx (HW h);exact this.symm
end
structure z7 (sh:Te)(ps:Tf)(fs:List gF)(ts:Tc)(rk od:Tw)(cs:Str->Tp):Prop where
 tt:je sh ps ts rk
 hg:gU sh ps od
 gr:wX sh ps ts cs
 fl:fs.length=ps.length
 fan:∀c,c<ps.length->fs.getD c []=cF sh ps ts c
 low:∀c,c<ps.length->rk c<7
 sb:∀c,c<ps.length->sN sh ps cs c<=64000000
theorem uZ:∀ {sh:Te},(∀p∈sh,p.length<=4)->sh.flatten.length<=sh.length*4
 | [],_=>XM _
 | p::sh,h=>by
  have h1:=h p (Xh ..);have h2:=uZ (sh:=sh) λq hq=>h q (Xf _ hq);rw[List.flatten_cons,Xr,Xy,Q9];lia
theorem Kn.len (k:Kn sh ps cs i D)(T:je sh ps ts rk):D.length<=24:=by
 have h1:=Qv k.nd k.few;have h2:=uZ T.iR;have h3:=T.len;have h4:=T.few;rw[Xb]at h1;lia
theorem rA.rF (h:∀p∈sh,p.length<=4):(sh.getD i []).length<=4:=by
 rw[Xi];cases hp:sh[i]? with
 | none=>exact XM _
 | some p=>exact h p (Xl hp)
theorem Ul (h:x∈sh.getD i []):x∈sh.flatten:=by
 rw[Xi]at h;cases hp:sh[i]? with
 | none=>rw[hp]at h;cases h
 | some p=>rw[hp]at h;exact Yk.mpr ⟨p,Xl hp,h⟩
theorem u0 (h:x∈bD sh ps t i):x∈sh.flatten:=by
 obtain⟨j,_,hj⟩:=wW h;exact Ul (kY.mp hj).1
def zaT (C:Addr):wu:=λd0 ds Q=>∃sh ps r fs i ls rr,d0=zaS ls rr/\ds=[talP C sh ps r fs,.int (i:Nat)]/\rA sh ps fs/\i<ps.length/\ls.length=rr.length/\(∀l∈bW sh ps i,l∈ls)/\Q (.lst ((dN sh ps fs i ls rr).map gR))
theorem Um:Hg (zaT C):=λd0 ds Q Q' m ⟨a,b,c,d,e,f,g,h,h1,h2,h3,h4,h5,q⟩=>⟨a,b,c,d,e,f,g,h,h1,h2,h3,h4,h5,m _ q⟩
def Df (C:Addr)(t:Nat):vO:=λd0 ds Q=>∃sh ps r fs i ts rk od cs D n,d0=kD D/\ds=[talP C sh ps r fs,.int (i:Nat),.int (n:Nat)]/\z7 sh ps fs ts rk od cs/\i<ps.length/\rk i<t/\Kn sh ps cs i D/\n<sN sh ps cs i/\∀D',Got cs (bD sh ps 7 i) (fB sh ps cs i n) D D'->Q (kD D') .non
theorem Uo:Mz (Df C t):=λd0 ds Q Q' m ⟨a,b,c,d,e,f,g,h,i,j,k,h1,h2,h3,h4,h5,h6,h7,q⟩=>⟨a,b,c,d,e,f,g,h,i,j,k,h1,h2,h3,h4,h5,h6,h7,λD' z=>m _ _ (q D' z)⟩
section
variable {P:Wg}{w:Wj}{K:Xa}{mg:Tj}{base:Heap}
theorem zlg (F:cj K "options" "Tally.options" wM f fd) (T:TF K C) (au:Y1 K mg f1 eZ) (B:Bl mg):aA P w K mg base aN 2 f fd ["self","i","known"] (zu K (zaT C)):=by
 have bQ:aA P w K mg base aN 1 f1 eZ ["known","letters"] (aX K zaw):=Cr au.fn B;refine zuX F Cw rfl Um rfl (λcdv A outer s H E hr=>?_);have hu:=bG hr;have nd:=Cw.nd;refine⟨_,(Nq (hu1 hu) (di (lN T.c T.fans (ak 0)) (ak 1)) (cM bQ wJ hr rfl au.mg au.fn.kp au.bd (aB (ak 2) (aB (di (lN T.c T.bonds (ak 0)) (ak 1)) aJ))) (jk aJ)),λd0 x y Q h=>?_⟩;obtain⟨sh,ps,r,fs,i,ls,rr,rfl,ee,TT,hi,hl,hb,q⟩:=h;cases ee;have hsz:=Wi;walk_at "pu";refine⟨_,_,rfl,_,rfl,_,.inl ⟨_,.inl rfl,R0 (by rw[TT.fl];exact hi)⟩,_,_,rfl,_,_,rfl,_,rfl,_,.inl ⟨_,.inl rfl,wR hi⟩,ls,rfl,rr,rfl,bW sh ps i,rfl,hl,hb,Hv sh ps i TT.iR,?_,cC (keyB sh ps i ls rr),?_,XM _,?_⟩
 .have:=tK ((bW sh ps i).map λl=>dW ls rr l);rw[Yb]at this;exact this
 .unfold lO cC keyB;rw[Yb,Yb];rfl
 .rw[RZ];have e:((((fs.getD i []).lookup (keyB sh ps i ls rr)).map λl=>PV.lst (l.map gR)).getD (PV.lst []))=PV.lst ((dN sh ps fs i ls rr).map gR):=by
   unfold dN;cases (fs.getD i []).lookup (keyB sh ps i ls rr)<;>rfl
  rw[e];exact q
theorem z8:cL ["self","i","known","n","found","left","child","size"] ["self","i","known","n"] (bf Cu):=fsc
abbrev Y7 (K:Xa)(mg:Tj):=Fx K mg "picked" zF ["options","n"]
abbrev Dg (K:Xa)(C:PySem.Addr):=Mx K C "choose" "Tally.choose" Cu ["self","i","known","n"]
theorem Uq (bK:Dg K C f fd) (T:TF K C) (au:Y1 K mg f1 eZ) (Options:pB K C f2 fd2) (bM:rC K C f3 gQ) (fU:Y7 K mg f4 iz) (B:Bl mg):∀t,aA P w K mg base aN (t+3) f fd ["self","i","known","n"] (vR K (Df C t))
 | 0=>by
  refine bK.fn.ok z8 (λvs H Q E ⟨Fz,a,d0,x,y,z,v0,v1,v3,e,_⟩=>by rw[e];rfl) (λcdv A outer s H vs Q E hr h=>?_);obtain⟨Fz,a,d0,x,y,z,v0,v1,v3,e,_,_,_,_,sh,ps,r,fs,i,ts,rk,od,cs,D,n,_,_,_,_,h0,_⟩:=h;exact Qg h0 (Yl _)
 | t+1=>by
  have fV:aA P w K mg base aN (t+3) f fd ["self","i","known","n"] (vR K (Df C t)):=Uq bK T au Options bM fU B t;have iG:aA P w K mg base aN (t+3) f3 gQ ["self","i","known"] (aX K (zcR C)):=(Cy bM.fn T au Options B).mono (by lia);have nq:aA P w K mg base aN (t+3) f2 fd2 ["self","i","known"] (zu K (zaT C)):=(zlg Options.fn T au B).mono (by lia);have pG:aA P w K mg base aN (t+3) f4 iz ["options","n"] (aX K zeE):=(zvh fU.fn B).mono (by lia);refine zrG bK.fn z8 rfl (λcdv A outer s H E hr=>?_);have hu:=bG hr;have nd:=z8.nd;refine⟨_,(yS (Bv (i:=4) nd rfl (Qk rfl) (cM pG zqr hr rfl fU.mg fU.fn.kp fU.bd (aB (zsb 2 T.c Options.me nq Um hr Options.bd (ak 0) (aB (ak 1) (aB (ak 2) aJ))) (aB (ak 3) aJ))))
   (yS (MN (znv 2 (GP (bb:=true) rfl rfl B.dict rfl B.zip (aB (di (lN T.c T.shape (ak 0)) (ak 1)) (aB (di (ak 4) bA) aJ)))))
   (yS (Bv (i:=5) nd rfl (Qk rfl) (di (ak 4) bA))
   (MK (zur (i:=6) nd rfl (Qk rfl) rfl Ql (Gw rfl B.reversed (di (lN T.c T.children (ak 0)) (ak 1))) (yS (Bv (i:=7) nd rfl (Qk rfl) (pW T.c bM.me iG Cv hr bM.bd (ak 0) (aB (ak 6) (aB (ak 2) aJ))))
   (yS (MN (M6 2 T.c bK.me fV Uo hr bK.bd (ak 0) (aB (ak 6) (aB (ak 2) (aB (jG (ak 5) (ak 7)) aJ)))))
   (MK (Bv (i:=5) nd rfl (Qk rfl) (vq (ak 5) (ak 7))))))))))),λd0 x y z Q h=>?_⟩
  obtain⟨sh,ps,r,fs,i,ts,rk,od,cs,D,n,rfl,ee,V,hi,hrk,k,hn,q⟩:=h;cases ee;have hsz:=Wi;walk_at "pu";have hcl:dW (D.map (·.1)) (D.map (·.2))=vD D:=funext (wZ D);have R:=V.tt.jO;have jQ:=V.low i hi;have hop:=CW V.hg V.gr hi (V.fan i hi) (ls:=D.map (·.1)) (rr:=D.map (·.2)) (λl hl=>by rw[hcl];exact k.val l hl);rw[hcl]at hop;have hgl:=CT (sh:=sh) (ps:=ps) (cs:=cs) i (vD D);have hro:=Dd V.hg V.gr.ok R jQ hn D;refine⟨_,⟨_,rfl⟩,by decide,sh,ps,r,fs,i,D.map (·.1),rfl,D.map (·.2),rfl,rfl,rfl,V.tt.tO V.fl,hi,by simp,k.key,aU.cD (aU.eY cs (bB sh ps i) (vD D)) (sh.getD i []),wN sh ps cs i,by rw[hop],n,rfl,?_,?_,?_⟩
  .rw[<- Xb (f:=λr=>(r,wN sh ps cs i)),<- hop,tL (V.fan i hi),Xb];exact XC (Yc _ _) (XC (tM V.tt.t4) (by decide))
  .rw[hgl,<- wY R jQ];exact hn
  .have hsi:sh[i]? = some (sh.getD i []):=by rw[Xi,Xd (show i<sh.length by rw[V.tt.len];exact hi)];rfl
   have hrl:=Ib V.hg V.gr.ok R jQ hn D;obtain⟨pH,hval⟩:=zsp V.hg V.gr.ok R jQ hn k;have e1:((sh.getD i []).zip (bU sh ps cs i n D)).map (·.1)=sh.getD i []:=List.map_fst_zip (by lia);have e2:((sh.getD i []).zip (bU sh ps cs i n D)).map (·.2)=bU sh ps cs i n D:=List.map_snd_zip (by lia);have hup:=Ug ((sh.getD i []).zip (bU sh ps cs i n D)) D;rw[e1,e2]at hup;generalize hD1:gW D ((sh.getD i []).zip (bU sh ps cs i n D))=D1 at pH hval hup;have hDl:=k.len V.tt;have hpl:=rA.rF (i:=i) V.tt.iR;have hkn:=CQ (ps:=ps) i;have hm:=QS n (Dc (sh:=sh) (ps:=ps) V.gr.ok i);obtain⟨Iv,aP⟩:∃Iv:Nat->aC->Prop,∀j U,Iv j U↔∃(D':bV) (vf v6 v7:Option (PV×Bool)),U=[some (talP C sh ps r fs,false),some (PV.int i,false),some (kD D',true),some (PV.int n,false),vf,some (PV.int ((n % wN sh ps cs i / aW.bw ((kids ps i).drop ((kids ps i).length-j)) (sN sh ps cs):Nat):Int),false),v6,v7]/\Got cs (((kids ps i).drop ((kids ps i).length-j)).flatMap (bD sh ps 7)) (fB sh ps cs i n) D1 D':=⟨_,λ_ _=>Qy⟩;refine⟨_,_,rfl,_,rfl,_,.inl ⟨_,.inl rfl,jt (by rw[Xg,hsi];rfl)⟩,_,rfl,(sh.getD i []).map Qo,by rw[Yb];rfl,(bU sh ps cs i n D).map PV.int,rfl,by rw[Xb,Xb];lia,CG (V.hg.nd i),by rw[Xb,Xb];lia,by rw[Xb,Xb,Xb];lia,_,rfl,_,_,rfl,_,rfl,_,.inl ⟨_,.inl rfl,wR hi⟩,(kids ps i).map (λ(k:Nat)=>PV.int k),rfl,Iv,?_,?_,?_⟩
   .have e0:aW.bw ((kids ps i).drop ((kids ps i).length-0)) (sN sh ps cs)=1:=by rw[Nat.sub_zero,List.drop_length];rfl
    refine(aP _ _).mpr ⟨D1,some (PV.tup [dM (bU sh ps cs i n D),PV.int ((n % wN sh ps cs i:Nat):Int)],false),none,none,?_,?_⟩
    .rw[hup,e0,Nat.div_one];rfl
    .rw[Nat.sub_zero,List.drop_length];exact Got.refl pH.nd
   .intro j d U hd hI;obtain⟨D',vf,v6,v7,rfl,got⟩:=(aP _ _).mp hI;rw[<- P0,Xg]at hd;cases hc:(kids ps i).reverse[j]? with
    | none=>rw[hc]at hd;cases hd
    | some c=>
     rw[hc]at hd;cases hd;have hj:j<(kids ps i).length:=by
      have:=(Xc.mp hc).1
      rwa [Ya]at this
     rw[YL hj]at hc;have ha:(kids ps i).length-j=(kids ps i).length-1-j+1:=by lia
     have hb:(kids ps i).length-(j+1)=(kids ps i).length-1-j:=by lia
     rw[ha]at got;rw[ha];have hdr:(kids ps i).drop ((kids ps i).length-1-j)=c::(kids ps i).drop ((kids ps i).length-1-j+1):=by
      obtain⟨h1,h2⟩:=Xc.mp hc;rw[List.drop_eq_getElem_cons h1,h2]
     have hsp:kids ps i=(kids ps i).take ((kids ps i).length-1-j)++c::(kids ps i).drop ((kids ps i).length-1-j+1):=by rw[<- hdr,Yp]
     generalize (kids ps i).take ((kids ps i).length-1-j)=Ak at hsp;generalize hBk:(kids ps i).drop ((kids ps i).length-1-j+1)=Bk at hsp hdr got;have hcm:=Xl hc;have jP:=gY.mp hcm;have hcl:=(Xc.mp jP).1;have hpt:∀l∈sh.getD i [],l∈D1.map (·.1):=λl hl=>(pH.key l).mpr (by
      by_cases hb:l∈bW sh ps i
      .exact .inl (k.key l hb)
      .exact .inr (kY.mpr ⟨hl,hb⟩))
     have hBm:∀b∈Bk,b∈kids ps i:=λb hb=>by rw[hsp];exact XR _ (Xf _ hb)
     have hgk:Kn sh ps cs c D':=by
      refine⟨got.nd,λl hl=>(got.key l).mpr (.inl (hpt l (tQ jP l hl))),λl hl=>?_,λl hl=>?_⟩
      .rw[got.old l λz=>?_]
       .exact hval l (tQ jP l hl)
       .obtain⟨b,hb,z⟩:=XY.mp z;exact Ie V.hg (gY.mp (hBm b hb)) (tQ jP l hl) z
      .rcases(got.key l).mp hl with z | z
       .rcases(pH.key l).mp z with z | z
        .exact k.few l z
        .exact Ul (kY.mp z).1
       .obtain⟨b,hb,z⟩:=XY.mp z;exact u0 z
     have hw:rm sh ps fs c (D'.map (·.1)) (D'.map (·.2))=sN sh ps cs c:=T6 V.hg V.gr R hcl (V.low c hcl) (V.fan c hcl) λl hl=>by rw[wZ];exact hgk.val l hl
     have hsc:=Uh (sh:=sh) (ps:=ps) V.gr.ok c;have hcA:c∉Ak:=λz=>by
      rw[hsp]at hkn;exact(Ys.mp hkn).2.2 c z c (Xh ..) rfl
     have hmc:aU.jl (sN sh ps cs) (kids ps i) (n % wN sh ps cs i) c=n % wN sh ps cs i / aW.bw Bk (sN sh ps cs) % sN sh ps cs c:=by
      have hm':=hm;rw[uY]at hm';have:=aU.uJ (sN sh ps cs) Ak (c::Bk) (n % wN sh ps cs i) c (by rw[<- hsp,<- uY];exact hm);rw[<- hsp,Qe hcA,aU.nU,Qf rfl,aW.dG,aU.BL]at this;exact this
     have hrc:=R.lt c i jP;walk_at "pu";refine⟨_,⟨_,rfl⟩,by decide,sh,ps,r,fs,rfl,c,rfl,D'.map (·.1),rfl,D'.map (·.2),rfl,V.tt.tO V.fl,hcl,by simp,hgk.key,?_,_,⟨_,rfl⟩,by decide,by rw[hw];lia,?_⟩
     .rw[tL (V.fan c hcl),Xb];exact XC (Yc _ _) (XC (tM V.tt.t4) (by decide))
     .rw[hw];refine⟨sh,ps,r,fs,c,ts,rk,od,cs,D',n % wN sh ps cs i / aW.bw Bk (sN sh ps cs) % sN sh ps cs c,rfl,rfl,V,hcl,by lia,hgk,QS _ hsc,λD2 g2=>⟨?_,(aP _ _).mpr ⟨D2,vf,some (PV.int c,false),some (PV.int (sN sh ps cs c:Nat),false),?_,?_⟩⟩⟩
      .have:=V.sb c hcl;exact⟨by lia,by lia⟩
      .rw[hb,hdr,aW.dG,Q8,<- Oo];rfl
      .rw[hb,hdr,XD];refine got.trans (g2.congr λl hl=>?_) λl hl hl'=>?_
       .rw[<- hmc];exact Uk V.hg R jQ hn hcm hl
       .obtain⟨b,hb,z⟩:=XY.mp hl;have pw:=HW V.hg (i:=i) (t:=7);rw[hsp]at pw;exact Py (List.pairwise_append.mp pw).2.1 hb l hl' z
   .intro U hI;obtain⟨D',vf,v6,v7,rfl,got⟩:=(aP _ _).mp hI;walk_at "pu";rw[Ya,Xb,Nat.sub_self,List.drop_zero]at got;refine q D' ((pH.trans got λl hl hl'=>?_).mem λl=>?_)
    .obtain⟨b,hb,z⟩:=XY.mp hl';exact Ie V.hg (gY.mp hb) (kY.mp hl).1 z
    .rw[jg R jQ,Xz,Xz,or_comm]
end
def zaG:PF:=λds Q=>∃(ls:Tn)(r:Tp)(ws:Tn),ds=[zaS ls r,ltsP ws]/\ls.length=r.length/\(∀l∈ws,l∈ls)/\ws.length<=1000/\Q (.tup (ws.map λl=>.int (dW ls r l))) .aF
theorem zjf:cW zaG:=λds Q Q' m ⟨a,b,c,e,h1,h2,h3,q⟩=>⟨a,b,c,e,h1,h2,h3,m _ _ q⟩
structure Kp (sh:Te)(ps:Tf)(cs:Str->Tp)(i:Nat)(D:bV)(n:Nat):Prop where
 kn:Kn sh ps cs i D
 lt:n<sN sh ps cs i
 key:∀l∈bD sh ps 7 i,l∈D.map (·.1)
 val:∀l∈bD sh ps 7 i,vD D l=(cs l).getD (fB sh ps cs i n l) 0
section
variable {sh:Te}{ps:Tf}{fs:List gF}{ts:Tc}{cs:Str->Tp}{od rk:Tw}{i n:Nat}{D:bV}
theorem Kp.pt (k:Kp sh ps cs i D n)(R:jd ps rk)(hi:rk i<7):∀l∈sh.getD i [],l∈D.map (·.1)/\vD D l∈cs l:=λl hl=>by
 by_cases hb:l∈bW sh ps i
 .exact⟨k.kn.key l hb,k.kn.val l hb⟩
 .have hm:l∈bD sh ps 7 i:=by rw[jg R hi];exact Yj _ (kY.mpr ⟨hl,hb⟩)
  refine⟨k.key l hm,?_⟩;rw[k.val l hm];exact getD_mem (aU.vW (g8 cs) k.lt hm)
theorem Kp.kid (V:z7 sh ps fs ts rk od cs)(k:Kp sh ps cs i D n)(hi:i<ps.length)(hc:c∈kids ps i):Kp sh ps cs c D (aU.jl (sN sh ps cs) (kids ps i) (n % wN sh ps cs i) c):=by
 have R:=V.tt.jO;have jQ:=V.low i hi;have jP:=gY.mp hc;have hsub:∀l∈bD sh ps 7 c,l∈bD sh ps 7 i:=λl hl=>by rw[jg R jQ];exact XR _ (XY.mpr ⟨c,hc,hl⟩)
 refine⟨⟨k.kn.nd,λl hl=>(k.pt R jQ l (tQ jP l hl)).1,λl hl=>(k.pt R jQ l (tQ jP l hl)).2,k.kn.few⟩,?_,λl hl=>k.key l (hsub l hl),λl hl=>?_⟩
 .have hm:=QS n (Dc (sh:=sh) (ps:=ps) V.gr.ok i);rw[uY]at hm;exact aU.vW (sN sh ps cs) (by rw[uY];exact hm) hc
 .rw[k.val l (hsub l hl),Uk V.hg R jQ k.lt hc hl]
theorem Kp.row (V:z7 sh ps fs ts rk od cs)(k:Kp sh ps cs i D n)(hi:i<ps.length):(sh.getD i []).map (vD D)=bU sh ps cs i n D:=by
 have R:=V.tt.jO;have jQ:=V.low i hi;have hl:=Ib V.hg V.gr.ok R jQ k.lt D;have hv:∀x∈sh.getD i [],vD ((sh.getD i []).zip (bU sh ps cs i n D)) x=vD D x:=λx hx=>by
  rw[Uj V.hg V.gr.ok R jQ k.lt D hx];by_cases hb:x∈bW sh ps i
  .rw[Qf hb]
  .rw[Qe hb];exact(k.val x (by rw[jg R jQ];exact Yj _ (kY.mpr ⟨hx,hb⟩))).symm
 have zm:∀(p:Tn) (r:Tp),p.Nodup->p.length=r.length->p.map (vD (p.zip r))=r:=λp=>by
  induction p with
  | nil=>intro r _ h;cases r with | nil=>rfl | cons=>cases h
  | cons a p ih=>
   intro r hn h;cases r with
   | nil=>cases h
   | cons b r=>
    obtain⟨h1,h2⟩:=XO.mp hn;rw[XS,Xq,n6,Qf rfl]
    congr 1
    rw[<- ih r h2 (by simpa using h)];refine Yt λx hx=>?_;rw[ih r h2 (by simpa using h),n6,Qe (λ(z:x=a)=>h1 (z▸hx))]
 exact(Yt λx hx=>(hv x hx).symm).trans (zm _ _ (V.hg.nd i) hl.symm)
end
def Dh (C:Addr)(t:Nat):PF:=λds Q=>∃sh ps r fs i ts rk od cs D n,ds=[talP C sh ps r fs,.int (i:Nat),kD D]/\z7 sh ps fs ts rk od cs/\i<ps.length/\rk i<t/\Kp sh ps cs i D n/\Q (.int (n:Nat)) .aF
theorem Ur:cW (Dh C t):=λds Q Q' m ⟨a,b,c,d,e,f,g,h,i,j,k,h1,h2,h3,h4,h5,q⟩=>⟨a,b,c,d,e,f,g,h,i,j,k,h1,h2,h3,h4,h5,m _ _ q⟩
section
variable {P:Wg}{w:Wj}{K:Xa}{mg:Tj}{base:Heap}
theorem zlh (F:cj K "cells_at" "cells_at" uV f fd) (B:Bl mg):aA P w K mg base aN 1 f fd ["known","letters"] (aX K zaG):=by
 refine dI F Cq (λds Q ⟨a,b,c,e,_⟩=>by rw[e];rfl) (λcdv A outer s H E hr=>?_);have hu:=bG hr;have nd:=Cq.nd;refine⟨_,(bF (cX (yN rfl B.tuple (aB (j6 (N:=["letter","known"]) (k:=1) (js:=[0]) rfl (jX (sup:=bf uV) (XN:=["known","letters"]) rfl rfl (by decide +kernel)) (by decide) (mX (by decide)) (vC (ak 1)) ⟨λ_ _ _ _ _=>(cB (i:=0) (by show(["letter","known"]:Tn).Nodup;decide +kernel) rfl (Qk rfl)),λ_ _ _ _ _=>nP,λ_ _ _ _ _=>(uD (hu1 hu) (ak 1) (ak 0))⟩) aJ)))),λds Q h=>?_⟩;obtain⟨ls,r,ws,rfl,hl,hm,hw,q⟩:=h;have hsz:=Wi;walk_at "pu";refine⟨by rw[Xb];lia,λi out=>out=(ws.take i).map λl=>PV.int (dW ls r l),rfl,?_,?_⟩
 .rintro i d out hd-rfl;rw[Xg]at hd;cases hs:ws[i]? with
  | none=>rw[hs]at hd;cases hd
  | some l=>
   rw[hs]at hd;cases hd;have hd2:=Cm hl (hm l (Xl hs));refine⟨.inr l,rfl,_,hd2,?_⟩;show _=_;rw[<- take_snoc hs,Xp];rfl
 .rintro out-rfl;rw[Xb,Xs (Xj _)];exact q
theorem Ig:cL ["self","i","known","own","earlier","within","child"] ["self","i","known"] (bf wQ):=fsc
theorem Us (cG:Mx K C "place_of" "Tally.place_of" wQ ["self","i","known"] f fd) (T:TF K C) (au:Y1 K mg f1 eZ) (Options:pB K C f2 fd2) (bM:rC K C f3 gQ) (B:Bl mg):∀t,aA P w K mg base aN (t+3) f fd ["self","i","known"] (aX K (Dh C t))
 | 0=>by
  refine cG.fn.ok Ig (FN (λds Q ⟨a,b,c,d,e,f,g,h,i,j,k,h1,_⟩=>by rw[h1];rfl)) (λcdv A outer s H vs Q E hr h=>?_);obtain⟨Fz,ds,al,hd,sh,ps,r,fs,i,ts,rk,od,cs,D,n,_,_,_,h0,_⟩:=h;exact Qg h0 (Yl _)
 | t+1=>by
  have iH:aA P w K mg base aN (t+3) f fd ["self","i","known"] (aX K (Dh C t)):=Us cG T au Options bM B t;have iG:aA P w K mg base aN (t+3) f3 gQ ["self","i","known"] (aX K (zcR C)):=(Cy bM.fn T au Options B).mono (by lia);have dO:aA P w K mg base aN (t+3) f2 fd2 ["self","i","known"] (aX K (zaF C)):=(Hy Options.fn T au B).mono (by lia);have bQ:aA P w K mg base aN (t+3) f1 eZ ["known","letters"] (aX K zaG):=(zlh au.fn B).mono (by lia);have wJ:=zjf;refine dI cG.fn Ig (λds Q ⟨a,b,c,d,e,f,g,h,i,j,k,h1,_⟩=>by rw[h1];rfl) (λcdv A outer s H E hr=>?_);have hu:=bG hr;have nd:=Ig.nd;refine⟨_,(aV (bH (i:=3) nd rfl (Qs rfl) (cM bQ wJ hr rfl au.mg au.fn.kp au.bd (aB (ak 2) (aB (di (lN T.c T.shape (ak 0)) (ak 1)) aJ))))
   (aV (bH (i:=4) nd rfl (Qk rfl) (Nk rfl rfl B.sum (aB (j6 (N:=["row","ways","own"]) (k:=2) (js:=[3]) rfl (jX (sup:=bf wQ) (XN:=["self","i","known","own","earlier","within","child"]) rfl rfl (by decide +kernel)) (by decide) (Be (qH (by decide) (by decide))) (jN (pW T.c Options.me dO Hw hr Options.bd (ak 0) (aB (ak 1) (aB (ak 2) aJ)))) ⟨λ_ _ _ _ _=>(oN (n:=2) rfl (iM (cB (i:=0) (by show(["row","ways","own"]:Tn).Nodup;decide +kernel) rfl (Qk rfl)) (iM (cB (i:=1) (by show(["row","ways","own"]:Tn).Nodup;decide +kernel) rfl (Qk rfl)) oM))),λ_ _ _ _ _=>(yI (zuV hu (ak 0) (ak 2))),λ_ _ _ _ _=>(ak 1)⟩) aJ)))
   (aV (bH (i:=5) nd rfl (Qk rfl) bA)
   (aV (j4 rfl Ql (jN (di (lN T.c T.children (ak 0)) (ak 1))) (cB (i:=6) nd rfl (Qk rfl)) (bF (bH (i:=5) nd rfl (Qk rfl) (iU (mD (ak 5) (pW T.c bM.me iG Cv hr bM.bd (ak 0) (aB (ak 6) (aB (ak 2) aJ)))) (pW T.c cG.me iH Ur hr cG.bd (ak 0) (aB (ak 6) (aB (ak 2) aJ)))))))
   (bF (cX (iU (ak 4) (ak 5)))))))),λds Q h=>?_⟩
  obtain⟨sh,ps,r,fs,i,ts,rk,od,cs,D,n,rfl,V,hi,hrk,k,q⟩:=h;have hsz:=Wi;have R:=V.tt.jO;have jQ:=V.low i hi;have hsi:sh[i]? = some (sh.getD i []):=by rw[Xi,Xd (show i<sh.length by rw[V.tt.len];exact hi)];rfl
  have hpl:=rA.rF (i:=i) V.tt.iR;have hcl:dW (D.map (·.1)) (D.map (·.2))=vD D:=funext (wZ D);have hop:=CW V.hg V.gr hi (V.fan i hi) (ls:=D.map (·.1)) (rr:=D.map (·.2)) (λl hl=>by rw[hcl];exact k.kn.val l hl);rw[hcl]at hop;have hro:=Dd V.hg V.gr.ok R jQ k.lt D;have hrow:(sh.getD i []).map (λl=>PV.int (dW (D.map (·.1)) (D.map (·.2)) l))=(bU sh ps cs i n D).map PV.int:=by
   rw[<- k.row V hi,Yb,hcl];rfl
  walk_at "pu";refine⟨_,_,rfl,_,rfl,_,.inl ⟨_,.inl rfl,jt (by rw[Xg,hsi];rfl)⟩,D.map (·.1),rfl,D.map (·.2),rfl,sh.getD i [],rfl,by simp,λl hl=>(k.pt R jQ l hl).1,by lia,?_⟩;rw[hrow];walk_at "go";have hglt:=aU.O1 (aU.eY cs (bB sh ps i) (vD D)) (p:=sh.getD i []) λl _=>by
   unfold aU.eY;split
   .exact Ob ..
   .exact V.gr.ok.lt l
  have hah:=aU.ahead hglt hro.1;have hql:n / wN sh ps cs i<(aU.cD (aU.eY cs (bB sh ps i) (vD D)) (sh.getD i [])).length:=(Xc.mp hro.1).1;have hsum:(((dN sh ps fs i (D.map (·.1)) (D.map (·.2))).filter λe=>HT.lexLt e.1 (bU sh ps cs i n D)).map λe=>(e.2:Int)).sum=((n / wN sh ps cs i*wN sh ps cs i:Nat):Int):=by
   rw[Hx (λe:Tp×Nat=>e.2),hop,List.filter_map];have e1:((λe:Tp×Nat=>HT.lexLt e.1 (bU sh ps cs i n D)) ∘ λr=>(r,wN sh ps cs i))=λr=>HT.lexLt r (bU sh ps cs i n D):=rfl;rw[e1,hah,aW.GQ,z6 (b:=wN sh ps cs i) λ_ _=>rfl,XH,Oi (Nat.le_of_lt hql)]
  have hol:(dN sh ps fs i (D.map (·.1)) (D.map (·.2))).length<=1000:=by
   rw[tL (V.fan i hi),Xb];exact XC (Yc _ _) (XC (tM V.tt.t4) (by decide))
  refine⟨_,⟨_,rfl⟩,by decide,sh,ps,r,fs,rfl,i,rfl,D.map (·.1),rfl,D.map (·.2),rfl,V.tt.tO V.fl,hi,by simp,k.kn.key,by rw[Xb];lia,λj out=>out=((((dN sh ps fs i (D.map (·.1)) (D.map (·.2))).take j).filter λe=>HT.lexLt e.1 (bU sh ps cs i n D)).map λe=>(e.2:Int)).map PV.int,rfl,?_,?_⟩
  .rintro j d out hd-rfl;rw[Xg]at hd;cases he:(dN sh ps fs i (D.map (·.1)) (D.map (·.2)))[j]? with
   | none=>rw[he]at hd;cases hd
   | some e=>
    rw[he]at hd;cases hd;refine⟨_,rfl,rfl,_,_,rfl,_,_,rfl,rfl,?_⟩;walk_at "pu";refine⟨e.1,rfl,bU sh ps cs i n D,rfl,bT (λz=>?_) (λz=>?_)⟩
    .rw[<- take_snoc he,YG,Xp,Xp,Yx (p:=λe:Tp×Nat=>HT.lexLt e.1 (bU sh ps cs i n D)) z];rfl
    .rw[<- take_snoc he,YG,Xp,Xp,Yw (p:=λe:Tp×Nat=>HT.lexLt e.1 (bU sh ps cs i n D)) z,List.filter_nil,YE,YE,XG]
  .rintro out-rfl;rw[Xb,Xs (Xj _)];refine⟨_,rfl,?_⟩;rw[hsum];walk_at "go";walk_at "go";have hm:=QS n (Dc (sh:=sh) (ps:=ps) V.gr.ok i);have hkn:=CQ (ps:=ps) i;obtain⟨Iv,aP⟩:∃Iv:Nat->aC->Prop,∀j U,Iv j U↔∃v6:Option (PV×Bool),U=[some (talP C sh ps r fs,false),some (PV.int i,false),some (kD D,false),some (PV.tup ((bU sh ps cs i n D).map PV.int),false),some (PV.int ((n / wN sh ps cs i*wN sh ps cs i:Nat):Int),false),some (PV.int ((n % wN sh ps cs i / aW.bw ((kids ps i).drop j) (sN sh ps cs):Nat):Int),false),v6]:=⟨_,λ_ _=>Qy⟩;refine⟨_,_,rfl,_,rfl,_,.inl ⟨_,.inl rfl,wR hi⟩,(kids ps i).map (λ(k:Nat)=>PV.int k),rfl,Iv,(aP _ _).mpr ⟨none,?_⟩,?_,?_⟩
   .have hm':n % wN sh ps cs i / aW.bw ((kids ps i).drop 0) (sN sh ps cs)=0:=by
     rw[List.drop_zero,<- uY];exact Nat.div_eq_of_lt hm
    rw[hm'];rfl
   .intro j d U hd hI;obtain⟨v6,rfl⟩:=(aP _ _).mp hI;rw[Xg]at hd;cases hc:(kids ps i)[j]? with
    | none=>rw[hc]at hd;cases hd
    | some c=>
     rw[hc]at hd;cases hd;have hcm:=Xl hc;have jP:=gY.mp hcm;have hcl':=(Xc.mp jP).1;have hdr:(kids ps i).drop j=c::(kids ps i).drop (j+1):=by
      obtain⟨h1,h2⟩:=Xc.mp hc;rw[List.drop_eq_getElem_cons h1,h2]
     have hsp:kids ps i=(kids ps i).take j++c::(kids ps i).drop (j+1):=by rw[<- hdr,Yp]
     have hkk:=k.kid V hi hcm;have hho:=aU.horner (sN sh ps cs) ((kids ps i).take j) c ((kids ps i).drop (j+1)) (n % wN sh ps cs i) (by rw[<- hsp];exact hkn) (by rw[<- hsp,<- uY];exact hm);rw[<- hsp,<- hdr]at hho;have hw:rm sh ps fs c (D.map (·.1)) (D.map (·.2))=sN sh ps cs c:=T6 V.hg V.gr R hcl' (V.low c hcl') (V.fan c hcl') λl hl=>by rw[wZ];exact hkk.kn.val l hl
     have hrc:=R.lt c i jP;have hsb:=V.sb c hcl';walk_at "go";refine⟨_,⟨_,rfl⟩,by decide,sh,ps,r,fs,rfl,c,rfl,D.map (·.1),rfl,D.map (·.2),rfl,V.tt.tO V.fl,hcl',by simp,hkk.kn.key,?_,?_,_,⟨_,rfl⟩,by decide,sh,ps,r,fs,c,ts,rk,od,cs,D,_,rfl,V,hcl',by lia,hkk,_,rfl,(aP _ _).mpr ⟨some (PV.int c,false),?_⟩⟩
     .rw[tL (V.fan c hcl'),Xb];exact XC (Yc _ _) (XC (tM V.tt.t4) (by decide))
     .rw[hw];exact .inr ⟨by lia,by lia⟩
     .rw[hw,<- hho,Int.natCast_add,Int.natCast_mul];rfl
   .intro U hI;obtain⟨v6,rfl⟩:=(aP _ _).mp hI;walk_at "go";have e:aW.bw ((kids ps i).drop ((kids ps i).map (λ(k:Nat)=>PV.int k)).length) (sN sh ps cs)=1:=by rw[Xb,List.drop_length];rfl
    rw[e,Nat.div_one,<- Int.natCast_add,Nat.div_add_mod'];exact q
end
structure Names (sh:Te)(ns:Tn):Prop where
 nd:ns.Nodup
 mem:∀x,x∈ns↔∃p∈sh,x∈p
 GJ:sortedS ns=true
theorem Names.uniq {a b:Tn}(h1:Names sh a)(h2:Names sh b):a=b:=
 K01.Rf (K01.Rc a h1.GJ) (K01.Rc b h2.GJ) h1.nd h2.nd λx=>(h1.mem x).trans (h2.mem x).symm
def zbo:PF:=λds Q=>∃sh:Te,ds=[shpP sh]/\sh.flatten.length<64/\∀zs:Tn,Names sh zs->Q (.lst (zs.map PV.str)) .new
theorem Ut:cW zbo:=λds Q Q' m ⟨a,e,h1,q⟩=>⟨a,e,h1,λz x=>m _ _ (q z x)⟩
def zaJ:PF:=λds Q=>∃sh:Te,ds=[shpP sh]/\sh.length<=6/\(∀p∈sh,p.length<=4)/\∀zs:Tn,Names sh zs->Q (.lst (zs.map PV.str)) .new
theorem Ih:cW zaJ:=λds Q Q' m ⟨sh,e,h1,h2,q⟩=>⟨sh,e,h1,h2,λzs g=>m _ _ (q zs g)⟩
def pY (ls:Tn)(w:Str):Nat:=iw (ls.map PV.str) (.str w)
theorem Uu {w:Str}(h:w∈ls):pY ls w<ls.length:=by
 have:iw (ls.map PV.str) (.str w)<(ls.map PV.str).length:=List.findIdx_lt_length_of_exists ⟨.str w,XF.mpr ⟨w,h,rfl⟩,by simp⟩;simpa[pY]using this
def cellsOf (row:List PV)(ls ws:Tn):List PV:=ws.map λw=>row.getD (pY ls w) .non
def zcc:PF:=λds Q=>∃(row:List PV)(lp:PV)(ls ws:Tn),ds=[.tup row,lp,ltsP ws]/\(lp=.lst (ls.map PV.str)\/lp=.tup (ls.map PV.str))/\(∀w∈ws,w∈ls)/\ls.length=row.length/\ws.length<=100/\Q (.tup (cellsOf row ls ws)) .aF
theorem zkt:cW zcc:=λds Q Q' m ⟨a,b,c,d,e,h1,h2,h3,h4,q⟩=>⟨a,b,c,d,e,h1,h2,h3,h4,m _ _ q⟩
theorem zqw (ls:Tn):(ls.map PV.str).all mZ=true:=by simp[mZ]
section
variable {P:Wg}{w:Wj}{K:Xa}{mg:Tj}{base:Heap}
theorem Uv:cL ["_law_shape","_law_told","_law_pattern","_law_letter"] ["_law_shape"] (bf wD):=fsc
theorem Uw (F:cj K "_law_letters" "_law_letters" wD f fd) (B:Bl mg):aA P w K mg base aN 1 f fd ["_law_shape"] (aX K zbo):=by
 refine dI F Uv (λds Q ⟨a,e,_⟩=>by rw[e];rfl) (λcdv A outer s H E hr=>?_);have hu:=bG hr;have nd:=Uv.nd;refine⟨_,(aV (bH (i:=1) nd rfl (Qk rfl) (jk aJ))
   (aV (j4 rfl Ql (jN (ak 0)) (cB (i:=2) nd rfl (Qk rfl)) (bF (j4 rfl Ql (vC (ak 2)) (cB (i:=3) nd rfl (Qk rfl)) (bF (jM (Ls hu (ak 3) (ak 1)) (bF (oU (sX 1 (ak 3)))) jL)))))
   (bF (cX (zrB rfl B.sorted (aB (ak 1) aJ)))))),λds Q h=>?_⟩
 obtain⟨sh,rfl,h64,q⟩:=h;have hsz:=Wi;walk_at "pu";walk_at "auto";obtain⟨Iv,aP⟩:∃Iv:Nat->aC->Prop,∀i U,Iv i U↔∃(zs:Tn) (v1 v2:Option (PV×Bool)),U=[some (PV.lst (sh.map ltsP),false),some (PV.lst (zs.map PV.str),true),v1,v2]/\zs.Nodup/\(∀l,l∈zs↔l∈(sh.take i).flatten)/\zs.length<=(sh.take i).flatten.length:=⟨_,λ_ _=>Qy⟩;have hfl:∀i,(sh.take i).flatten.length<=sh.flatten.length:=λi=>by
  conv=>rhs;rw[<- Yp i sh,List.flatten_append,Xr]
  lia
 refine⟨Iv,(aP _ _).mpr ⟨[],none,none,rfl,QG,λl=>by simp,XM _⟩,?_,?_⟩
 .intro i d U hd hI;obtain⟨zs,v1,v2,rfl,hzn,hm,hl⟩:=(aP _ _).mp hI;rw[Xg]at hd;cases hp:sh[i]? with
  | none=>rw[hp]at hd;cases hd
  | some p=>
   rw[hp]at hd;cases hd;have htk:sh.take (i+1)=sh.take i++[p]:=(take_snoc hp).symm;have hf1:=hfl (i+1);rw[htk,List.flatten_append,Xr]at hf1;have hfp:[p].flatten=p:=by simp
   rw[hfp]at hf1;walk_at "go";obtain⟨Iw,lW⟩:∃Iw:Nat->aC->Prop,∀j U,Iw j U↔∃(ys:Tn) (v3:Option (PV×Bool)),U=[some (PV.lst (sh.map ltsP),false),some (PV.lst (ys.map PV.str),true),some (PV.tup (p.map PV.str),false),v3]/\ys.Nodup/\(∀l,l∈ys↔l∈(sh.take i).flatten\/l∈p.take j)/\ys.length<=(sh.take i).flatten.length+j:=⟨_,λ_ _=>Qy⟩;refine⟨Iw,(lW _ _).mpr ⟨zs,v2,rfl,hzn,λl=>by rw[hm l,List.take_zero];simp,hl⟩,?_,?_⟩
   .intro j d U hd hI;obtain⟨ys,v3,rfl,hyn,hm2,hl2⟩:=(lW _ _).mp hI;rw[Xg]at hd;cases hx:p[j]? with
    | none=>rw[hx]at hd;cases hd
    | some x=>
     rw[hx]at hd;cases hd;have hj:=(Xc.mp hx).1;have htj:p.take (j+1)=p.take j++[x]:=(take_snoc hx).symm;walk_at "go";have hin:PV.str x∈ys.map PV.str↔x∈ys:=⟨λz=>by
      obtain⟨y,hy,e⟩:=XF.mp z;cases e;exact hy,λz=>XF.mpr ⟨x,z,rfl⟩⟩
     refine⟨Cp _ _,bT (λe=>?_) (λe=>?_)⟩
     .walk_at "go";refine⟨by rw[Xb];lia,(lW _ _).mpr ⟨ys++[x],some (PV.str x,false),by rw[Xp];rfl,?_,λl=>?_,by rw[Xr,QV];lia⟩⟩
      .have hx2:x∉ys:=λz=>e (hin.mpr z);rw[Ys];exact⟨hyn,by simp,λa ha b hb q=>hx2 (by rw[Xv.mp hb]at q;rw[<- q];exact ha)⟩
      rw[htj,Xz,Xz,hm2 l,or_assoc]
     .walk_at "go";have hx2:x∈ys:=hin.mp (Decidable.not_not.mp e);refine(lW _ _).mpr ⟨ys,some (PV.str x,false),rfl,hyn,λl=>?_,by lia⟩;rw[htj,Xz,<- or_assoc,<- hm2 l,Xv];exact⟨.inl,λz=>z.elim id λy=>y▸hx2⟩
   .intro U hI;obtain⟨ys,v3,rfl,hyn,hm2,hl2⟩:=(lW _ _).mp hI;rw[Xb,List.take_length]at hm2;rw[Xb]at hl2;refine(aP _ _).mpr ⟨ys,_,v3,rfl,hyn,λl=>?_,?_⟩
    .rw[htk,List.flatten_append,Xz,hfp];exact hm2 l
    .rw[htk,List.flatten_append,Xr,hfp];exact hl2
 .intro U hI;obtain⟨zs,v1,v2,rfl,hzn,hm,hl⟩:=(aP _ _).mp hI;rw[Xb,List.take_length]at hm hl;walk_at "go";refine⟨zs,rfl,by lia,λys hy hs=>q ys ⟨hy.nodup_iff.mpr hzn,λl=>(hy.mem_iff).trans ((hm l).trans ⟨λz=>Yk.mp z,λz=>Yk.mpr z⟩),hs⟩⟩
theorem Ux:cL ["shape","found","letters"] ["shape"] (bf uU):=fsc
theorem Ii (F:cj K "letters_of" "letters_of" uU f fd) (B:Bl mg):aA P w K mg base aN 1 f fd ["shape"] (aX K zaJ):=by
 refine dI F Ux (λds Q ⟨c,e,_⟩=>by rw[e];rfl) (λcdv A outer s H E hr=>?_);have hu:=bG hr;have nd:=Ux.nd;refine⟨_,(aV (bH (i:=1) nd rfl (Qk rfl) (jk aJ))
   (aV (j4 rfl Ql (jN (ak 0)) (cB (i:=2) nd rfl (Qk rfl)) (bF (oU (zrw 1 (ak 2)))))
   (bF (cX (znq rfl rfl B.sorted rfl B.set (ak 1)))))),λds Q h=>?_⟩
 obtain⟨sh,rfl,h6,h4,q⟩:=h;walk_at "pu";walk_at "auto";obtain⟨Iv,aP⟩:∃Iv:Nat->aC->Prop,∀i U,Iv i U↔∃(fs:Tn) (kv:Option (PV×Bool)),U=[some (PV.lst (sh.map ltsP),false),some (PV.lst (fs.map PV.str),true),kv]/\fs.length<=4*i/\∀x,x∈fs↔∃p∈sh.take i,x∈p:=⟨_,λ_ _=>Qy⟩;refine⟨Iv,(aP _ _).mpr ⟨[],none,rfl,XM _,λx=>by simp⟩,?_,?_⟩
 .intro i d U hd hI;obtain⟨fs,kv,rfl,l1,hm⟩:=(aP _ _).mp hI;rw[Xg]at hd;cases hp:sh[i]? with
  | none=>rw[hp]at hd;cases hd
  | some p=>
   rw[hp]at hd;cases hd;have hil:i<sh.length:=(Xc.mp hp).1;have hle:=h4 p (Xl hp);walk_at "go";refine⟨by rw[Xb,Xb,Wi];lia,(aP _ _).mpr ⟨fs++p,_,by rw[Xp],by rw[Xr];lia,λy=>?_⟩⟩;rw[Xz,hm,List.take_add_one,hp];simp only[Option.toList_some,Xz,Xv];constructor
   .rintro(⟨p,h1,h2⟩ | h)
    .exact⟨p,.inl h1,h2⟩
    .exact⟨_,.inr rfl,h⟩
   .rintro⟨p,h1 | rfl,h2⟩
    .exact .inl ⟨p,h1,h2⟩
    .exact .inr h2
 .intro U hI;obtain⟨fs,kv,rfl,l1,hm⟩:=(aP _ _).mp hI;rw[Xb]at l1 hm;walk_at "go";refine⟨fs,rfl,by lia,λzs n1 n2 n3=>q zs ⟨n1,λx=>?_,n3⟩⟩;rw[n2,hm,Xs (Xj _)]
theorem Uy:cL ["row","letters","wanted"] ["row","letters","wanted"] (bf uT):=fsc
theorem znI (F:cj K "cells_of" "cells_of" uT f fd) (B:Bl mg):aA P w K mg base aN 1 f fd ["row","letters","wanted"] (aX K zcc):=by
 refine dI F Uy (λds Q ⟨a,b,c,d,e,_⟩=>by rw[e];rfl) (λcdv A outer s H E hr=>?_);have hu:=bG hr;have nd:=Uy.nd;refine⟨_,(bF (cX (yN rfl B.tuple (aB (j6 (N:=["letter","row","letters"]) (k:=1) (js:=[0,1]) rfl (jX (sup:=bf uT) (XN:=["row","letters","wanted"]) rfl rfl (by decide +kernel)) (by decide) (mX (by decide)) (vC (ak 2)) ⟨λ_ _ _ _ _=>(cB (i:=0) (by show(["letter","row","letters"]:Tn).Nodup;decide +kernel) rfl (Qk rfl)),λ_ _ _ _ _=>nP,λ_ _ _ _ _=>(di (ak 1) (GF (ak 2) (ak 0)))⟩) aJ)))),λds Q h=>?_⟩;obtain⟨row,lp,ls,ws,rfl,hlp,hws,hll,h100,q⟩:=h;walk_at "pu";refine⟨by rw[Xb,Wi];lia,λi out=>out=cellsOf row ls (ws.take i),rfl,?_,?_⟩
 .rintro i d out hd-rfl;rw[Xg]at hd;cases hw:ws[i]? with
  | none=>rw[hw]at hd;cases hd
  | some x=>
   rw[hw]at hd;cases hd;have hx:=hws x (Xl hw);have hi:=Uu hx;refine⟨ls.map PV.str,hlp,zqw ls,rfl,XF.mpr ⟨x,hx,rfl⟩,row[pY ls x]'(by lia),jt (Xd (show pY ls x<row.length by lia)),?_⟩;show _=_;rw[List.take_add_one,hw];unfold cellsOf;rw[Xp]
   congr 1
   simp[Xd (show pY ls x<row.length by lia)]
 .rintro out-rfl;rw[Xb,Xs (Xj _)];exact q
end
structure iT (sh:Te)(ps:Tf)(ts:Tc)(rk od:Tw)(cs:Str->Tp)(r:Nat):Prop where
 tt:je sh ps ts rk
 hg:gU sh ps od
 gr:wX sh ps ts cs
 ld:zX ps rk r
 low:∀c,c<ps.length->rk c<7
 sb:∀c,c<ps.length->sN sh ps cs c<=64000000
 pre:(cU ps rk r).length<=100000
section
variable {sh:Te}{ps:Tf}{ts:Tc}{cs:Str->Tp}{od rk:Tw}{r:Nat}
theorem iT.Ij (h:iT sh ps ts rk od cs r):z7 sh ps ((XE ps.length).map (cF sh ps ts)) ts rk od cs:=⟨h.tt,h.hg,h.gr,by rw[Xb,Yr],λc hc=>HS hc,h.low,h.sb⟩
theorem Uz (hx:x∈newL sh ps j):∀ {t i:Nat},j∈pre ps t i->x∈bD sh ps t i
 | 0,i,h=>nomatch h
 | t+1,i,h=>by
  rw[tU];rcases Xn.mp (show j∈i::(kids ps i).flatMap (pre ps t) from h)with e | h
  .exact Yj _ (e▸hx)
  .obtain⟨c,hc,h⟩:=XY.mp h;exact XR _ (XY.mpr ⟨c,hc,Uz hx h⟩)
theorem UG (h:gU sh ps od):∀(m j:Nat),od j<=m->x∈sh.getD j []->∃i,x∈newL sh ps i
 | m,j,hm,hx=>by
  by_cases hb:x∈bW sh ps j
  .unfold bW at hb;cases hp:ps[j]? with
   | none=>rw[hp]at hb;cases hb
   | some o=>
    cases o with
    | none=>rw[hp]at hb;cases hb
    | some p=>
     rw[hp]at hb;have hx2:=Qh (Yy.mp hb).2;have:=h.bO _ _ hp
     match m,hm with
     | m+1,hm=>exact UG h m p (by lia) hx2
     | 0,hm=>lia
  .exact⟨j,kY.mpr ⟨hx,hb⟩⟩
theorem iT.all (h:iT sh ps ts rk od cs r)(hp:p∈sh)(hx:x∈p):x∈bD sh ps 7 r:=by
 obtain⟨j,hj,rfl⟩:=YF.mp hp;have hx':x∈sh.getD j []:=by rw[Xi,Xd hj];exact hx
 obtain⟨i,hi⟩:=UG h.hg _ j (Xj _) hx';have hil:i<ps.length:=by
  have:=(kY.mp hi).1;rw[Xi]at this;rcases Q5 i sh.length with z | z
  .rw[<- h.tt.len];exact z
  .rw[XA z]at this;cases this
 have hpre:i∈cU ps rk r:=HJ h.ld h.tt.bO 7 h.low _ i hil (Xj _);have hr:=h.low r (Xc.mp h.ld.root).1;rw[HX h.tt.jO 7 (rk r+1) r hr (by lia)];exact Uz hi hpre
end
def fNth:PF:=λds Q=>∃sh ps ts rk od cs r n,ds=[shpP sh,.lst (ts.map cN),zbl ps,.int (n:Nat)]/\iT sh ps ts rk od cs r/\n<sN sh ps cs r/\∀zs,Names sh zs->Q (.tup ((zs.map λl=>(cs l).getD (fB sh ps cs r n l) 0).map PV.int)) .aF
theorem zsq:cW fNth:=λds Q Q' m ⟨a,b,c,d,e,f,g,h,h1,h2,h3,q⟩=>⟨a,b,c,d,e,f,g,h,h1,h2,h3,λz y=>m _ _ (q z y)⟩
section
variable {P:Wg}{w:Wj}{K:Xa}{mg:Tj}{base:Heap}
theorem Di:cL ["shape","rows","parents","n","tally","known"] ["shape","rows","parents","n"] (bf lV):=fsc
theorem zxk {C f f0 f1 f2 f3 f4 f5 f6 f7 f8 f9 g1 g2:Addr}{fd mJ eZ fd2 gQ iz kE kI kJ mH nZ lC o9:Wk}(F:cj K "nth" "nth" lV f fd) (T:TF K C) (bR:CP K mg C f0 mJ) (au:Y1 K mg f1 eZ) (Options:pB K C f2 fd2) (bM:rC K C f3 gQ)
  (aK:wU K C f4 iz) (dR:zY K C f5 kE) (aH:Y2 K mg f6 kI) (cA:Y4 K mg f7 kJ) (Walk:Y5 K mg f8 mH) (bK:Dg K C f9 nZ) (fU:Y7 K mg g1 lC) (aO:Fx K mg "letters_of" uU ["shape"] g2 o9) (B:Bl mg):aA P w K mg base aN 11 f fd ["shape","rows","parents","n"] (aX K fNth):=by
 have fu:aA P w K mg base aN 9 f0 mJ ["self","shape","rows","parents"] (uG K C zbK):=(CN bR.fn T au Options bM aK dR aH cA Walk B).mono (by decide);have fV:aA P w K mg base aN 10 f9 nZ ["self","i","known","n"] (vR K (Df C 7)):=Uq bK T au Options bM fU B 7;have bQ:aA P w K mg base aN 10 f1 eZ ["known","letters"] (aX K zaw):=(Cr au.fn B).mono (by decide);have cJ:aA P w K mg base aN 10 g2 o9 ["shape"] (aX K zaJ):=(Ii aO.fn B).mono (by decide);refine dI F Di (λds Q ⟨a,b,c,d,e,f,g,h,h1,_⟩=>by rw[h1];rfl) (λcdv A outer s H E hr=>?_);have hu:=bG hr;have nd:=Di.nd;refine⟨_,(aV (jM (uw (ak 3) bA) (bF G6) jL)
   (aV (bH (i:=4) nd rfl (Qk rfl) (Bu bR.make fu CK hr rfl bR.mg bR.bd (aB (ak 0) (aB (ak 1) (aB (ak 2) aJ)))))
   (aV (bH (i:=5) nd rfl (Qk rfl) vV)
   (aV (oU (M6 5 T.c bK.me fV Uo hr bK.bd (ak 4) (aB (lN T.c T.root (ak 4)) (aB (ak 5) (aB (ak 3) aJ)))))
   (bF (cX (cM bQ wJ hr rfl au.mg au.fn.kp au.bd (aB (ak 5) (aB (cM cJ Ih hr rfl aO.mg aO.fn.kp aO.bd (aB (ak 0) aJ)) aJ))))))))),λds Q h=>?_⟩
 obtain⟨sh,ps,ts,rk,od,cs,r,n,rfl,h,hn,q⟩:=h;have hsz:=Wi;have hrl:r<ps.length:=(Xc.mp h.ld.root).1;walk_at "pu";refine bT (λe=>Qg e (by lia)) (λ_=>?_);walk_at "go";walk_at "go";refine⟨sh,rfl,ps,ts,rfl,rfl,rk,h.tt,r,h.ld,h.low,h.pre,?_⟩;walk_at "go";walk_at "go";have kn0:Kn sh ps cs r []:=⟨QG,by rw[rE h.ld.root];exact λl hl=>(nomatch hl),by rw[rE h.ld.root];exact λl hl=>(nomatch hl),λl hl=>nomatch hl⟩;refine⟨_,⟨_,rfl⟩,by decide,_,_,rfl,_,rfl,sh,ps,r,(XE ps.length).map (cF sh ps ts),r,ts,rk,od,cs,[],n,rfl,rfl,h.Ij,hrl,h.low r hrl,kn0,hn,λD' g=>?_⟩;show b8 _ _ _;walk_at "go";refine⟨sh,rfl,by rw[h.tt.len];exact h.tt.few,h.tt.iR,λzs hz=>⟨D'.map (·.1),rfl,D'.map (·.2),rfl,zs,rfl,by simp,λl hl=>?_,?_,?_,?_⟩⟩
 .obtain⟨p,hp,hx⟩:=(hz.mem l).mp hl;exact(g.key l).mpr (.inr (h.all hp hx))
 .have h1:=Qv hz.nd λl hl=>by
   obtain⟨p,hp,hx⟩:=(hz.mem l).mp hl;exact Yk.mpr ⟨p,hp,hx⟩
  have h2:=uZ h.tt.iR;have h3:=h.tt.len;have h4:=h.tt.few;lia
 .have:=tK (zs.map λl=>dW (D'.map (·.1)) (D'.map (·.2)) l);rw[Yb]at this;exact this
 .have e:(zs.map λl=>PV.int (dW (D'.map (·.1)) (D'.map (·.2)) l))=(zs.map λl=>(cs l).getD (fB sh ps cs r n l) 0).map PV.int:=by
   rw[Yb];refine Yt λl hl=>?_;obtain⟨p,hp,hx⟩:=(hz.mem l).mp hl;show PV.int _=PV.int _;rw[wZ,g.new l (h.all hp hx)]
  rw[e];exact q zs hz
end
theorem zxl {w:Str}(h:w∈ls):ls[pY ls w]? = some w:=by
 have h1:=Uu h;have h2:(ls.map PV.str)[pY ls w]? = some (.str w):=by
  have hl:pY ls w<(ls.map PV.str).length:=by rw[Xb];exact h1
  rw[Xd hl];exact congrArg some (Qh (List.findIdx_getElem (xs:=ls.map PV.str) (p:=λx=>decide (x=PV.str w)) (w:=hl)))
 rw[Xg]at h2;cases hx:ls[pY ls w]? with
 | none=>rw[hx]at h2;cases h2
 | some y=>rw[hx]at h2;cases h2;rfl
theorem Ik {ws:Tn}{f:Str->Int}(h:∀w∈ws,w∈zs):cellsOf ((zs.map f).map PV.int) zs ws=(ws.map f).map PV.int:=by
 unfold cellsOf;refine Eq.trans (Yt (g:=λx=>PV.int (f x)) λx hx=>?_) (Yb ..).symm;rw[Xi,Xg,Xg,zxl (h x hx)];rfl
structure Dj (sh:Te)(ts:Tc)(zs:Tn)(f:Str->Int):Prop where
 nm:Names sh zs
 few:sh.length<=6
 iR:∀p∈sh,p.length<=4
 tl:ts.length=sh.length
 t4:∀t∈ts,t.length<=27
 ok:∀i,i<sh.length->(sh.getD i []).map f∈ts.getD i []
theorem Dj.len {f:Str->Int}(A:Dj sh ts zs f):zs.length<=24:=by
 have h1:=Qv A.nm.nd λl hl=>by
  obtain⟨p,hp,hx⟩:=(A.nm.mem l).mp hl;exact Yk.mpr ⟨p,hp,hx⟩
 have h2:=uZ A.iR;have:=A.few;lia
def zbI:PF:=λds Q=>∃sh ts zs f,ds=[shpP sh,.lst (ts.map cN),.tup ((zs.map f).map PV.int)]/\Dj sh ts zs f/\Q (.bl true) .aF
theorem zjg:cW zbI:=λds Q Q' m ⟨a,b,c,d,e,h1,q⟩=>⟨a,b,c,d,e,h1,m _ _ q⟩
theorem UJ {f:Str->Int}:∀ {p:Tn},(∀l∈p,f l∈cs l)->p.map f∈aU.cD cs p
 | [],_=>Xv.mpr rfl
 | l::p,h=>XY.mpr ⟨f l,h l (Xh ..),XF.mpr ⟨p.map f,UJ λx hx=>h x (Xf _ hx),rfl⟩⟩
abbrev dY (sh:Te)(ps:Tf)(cs:Str->Tp)(r n:Nat):Str->Int:=λl=>(cs l).getD (fB sh ps cs r n l) 0
section
variable {sh:Te}{ps:Tf}{ts:Tc}{cs:Str->Tp}{od rk:Tw}{r n:Nat}{zs:Tn}
theorem iT.ans (h:iT sh ps ts rk od cs r)(hn:n<sN sh ps cs r)(hz:Names sh zs):Dj sh ts zs (dY sh ps cs r n) where
 nm:=hz
 few:=by rw[h.tt.len];exact h.tt.few
 iR:=h.tt.iR
 tl:=h.tt.tl
 t4:=h.tt.t4
 ok i hi:=by
  rw[h.gr.tab i (by rw[<- h.tt.len];exact hi)];refine UJ λl hl=>getD_mem (aU.vW (g8 cs) hn ?_);have hp:sh[i]? = some (sh.getD i []):=by rw[Xi,Xd hi];rfl
  exact h.all (Xl hp) hl
theorem Il {f:Str->Int}{l:Str}:∀ {zs:Tn},l∈zs->vD (zs.map λl=>(l,f l)) l=f l
 | a::zs,h=>by
  rw[Xq,n6];by_cases e:l=a
  .rw[Qf e,e]
  .rw[Qe e];exact Il ((Xn.mp h).resolve_left e)
theorem iT.kp (h:iT sh ps ts rk od cs r)(hn:n<sN sh ps cs r)(hz:Names sh zs):Kp sh ps cs r (zs.map λl=>(l,dY sh ps cs r n l)) n:=by
 have ek:(zs.map λl=>(l,dY sh ps cs r n l)).map (·.1)=zs:=by rw[Yb];exact List.map_id _
 have hm:∀l∈bD sh ps 7 r,l∈zs:=λl hl=>(hz.mem l).mpr (Yk.mp (u0 hl));refine⟨⟨by rw[ek];exact hz.nd,by rw[rE h.ld.root];exact λl hl=>(nomatch hl),by rw[rE h.ld.root];exact λl hl=>(nomatch hl),λl hl=>?_⟩,hn,λl hl=>by rw[ek];exact hm l hl,λl hl=>Il (hm l hl)⟩;rw[ek]at hl;exact Yk.mpr ((hz.mem l).mp hl)
end
def zho:PF:=λds Q=>∃sh ps ts rk od cs r n zs,ds=[shpP sh,.lst (ts.map cN),zbl ps,.tup ((zs.map (dY sh ps cs r n)).map PV.int)]/\iT sh ps ts rk od cs r/\n<sN sh ps cs r/\Names sh zs/\Q (.int (n:Nat)) .aF
theorem znJ:cW zho:=λds Q Q' m ⟨a,b,c,d,e,f,g,h,i,h1,h2,h3,h4,q⟩=>⟨a,b,c,d,e,f,g,h,i,h1,h2,h3,h4,m _ _ q⟩
section
variable {P:Wg}{w:Wj}{K:Xa}{mg:Tj}{base:Heap}
theorem UL:cL ["shape","rows","cells","letters"] ["shape","rows","cells"] (bf wA):=fsc
theorem zlj (F:cj K "is_answer" "is_answer" wA f fd) (aO:Fx K mg "letters_of" uU ["shape"] g1 lC) (dX:Fx K mg "cells_of" uT ["row","letters","wanted"] g2 o9) (B:Bl mg):aA P w K mg base aN 2 f fd ["shape","rows","cells"] (aX K zbI):=by
 have cJ:aA P w K mg base aN 1 g1 lC ["shape"] (aX K zaJ):=Ii aO.fn B;have pI:aA P w K mg base aN 1 g2 o9 ["row","letters","wanted"] (aX K zcc):=znI dX.fn B;refine dI F UL (λds Q ⟨a,b,c,d,e,_⟩=>by rw[e];rfl) (λcdv A outer s H E hr=>?_);have hu:=bG hr;have nd:=UL.nd;refine⟨_,(aV (bH (i:=3) nd rfl (Qs rfl) (cM cJ Ih hr rfl aO.mg aO.fn.kp aO.bd (aB (ak 0) aJ)))
   (aV (jM (Bg hu (gb rfl B.len (aB (ak 2) aJ)) (gb rfl B.len (aB (ak 3) aJ))) (bF (cX sI)) jL)
   (bF (cX (zwL rfl rfl B.all (aB (j6 (N:=["own","table","cells","letters"]) (k:=2) (js:=[2,3]) rfl (jX (sup:=bf wA) (XN:=["shape","rows","cells","letters"]) rfl rfl (by decide +kernel)) (by decide) (Be (qH (by decide) (by decide))) (zuA rfl B.zip (aB (ak 0) (aB (ak 1) aJ))) ⟨λ_ _ _ _ _=>(oN (n:=2) rfl (iM (cB (i:=0) (by show(["own","table","cells","letters"]:Tn).Nodup;decide +kernel) rfl (Qk rfl)) (iM (cB (i:=1) (by show(["own","table","cells","letters"]:Tn).Nodup;decide +kernel) rfl (Qk rfl)) oM))),λ_ _ _ _ _=>nP,λ_ _ _ _ _=>(zxU hu (cM pI zkt hr rfl dX.mg dX.fn.kp dX.bd (aB (ak 2) (aB (ak 3) (aB (ak 0) aJ)))) (ak 1))⟩) aJ)))))),λds Q h=>?_⟩
 obtain⟨sh,ts,zs,fv,rfl,An,q⟩:=h;have hsz:=Wi;walk_at "pu";refine⟨sh,rfl,An.few,An.iR,λys hy=>?_⟩;obtain rfl:=hy.uniq An.nm;walk_at "go";refine bT (λe=>Qg (by rw[Xb,Xb,Xb]) e) (λ_=>?_);walk_at "go";walk_at "go";have nR:(fO (sh.map ltsP) (ts.map cN)).length=sh.length:=by unfold fO;simp[An.tl]
 have hfw:=An.few;refine⟨by lia,λi out=>out=YN i (PV.bl true),rfl,?_,?_⟩
 .rintro i d out hd-rfl;have hi:i<sh.length:=by rw[<- nR];exact(Xc.mp hd).1
  have hp:sh[i]? = some (sh.getD i []):=by rw[Xi,Xd hi];rfl
  have ht:ts[i]? = some (ts.getD i []):=by rw[Xi,Xd (show i<ts.length by rw[An.tl];exact hi)];rfl
  have ed:d=PV.tup [ltsP (sh.getD i []),cN (ts.getD i [])]:=by
   obtain⟨x,y,h1,h2,h3⟩:=yX hd;rw[Xg,hp]at h1;rw[Xg,ht]at h2;cases h1;cases h2;exact h3
  subst ed;have hsub:∀w∈sh.getD i [],w∈ys:=λw hw=>(hy.mem w).mpr ⟨_,Xl hp,hw⟩;have h4:=An.iR _ (Xl hp);refine⟨_,rfl,rfl,_,_,rfl,_,_,rfl,rfl,ys,sh.getD i [],rfl,rfl,hsub,by simp,by lia,?_,(ts.getD i []).map dM,.inl rfl,?_,?_,?_⟩
  .rw[Ik hsub];exact tK _
  .rw[Ik hsub];exact XX.mpr λd hd=>by
    obtain⟨x,_,rfl⟩:=XF.mp hd;rfl
  .exact XX.mpr λd hd=>by
    obtain⟨r,_,rfl⟩:=XF.mp hd;exact zqe _ _
  .show _=_;have hin:PV.tup (((sh.getD i []).map fv).map PV.int)∈(ts.getD i []).map dM:=XF.mpr ⟨_,An.ok i hi,rfl⟩;rw[Ik hsub,Qd hin,List.replicate_succ']
 .rintro out-rfl;refine⟨YN (fO (sh.map ltsP) (ts.map cN)).length true,by rw[List.map_replicate],?_⟩;have ha:(YN (fO (sh.map ltsP) (ts.map cN)).length true).all id=true:=XX.mpr λx hx=>(List.mem_replicate.mp hx).2;rw[ha];exact q
theorem UW:cL ["shape","rows","parents","answer","tally"] ["shape","rows","parents","answer"] (bf zH):=fsc
theorem zss {C f f0 f1 f2 f3 f4 f5 f6 f7 f8 f9 g1 g2 g3:Addr}{fd mJ eZ fd2 gQ iz kE kI kJ mH nZ lC o9 gd3:Wk}(F:cj K "place" "place" zH f fd) (T:TF K C) (bR:CP K mg C f0 mJ) (au:Y1 K mg f1 eZ) (Options:pB K C f2 fd2) (bM:rC K C f3 gQ)
  (aK:wU K C f4 iz) (dR:zY K C f5 kE) (aH:Y2 K mg f6 kI) (cA:Y4 K mg f7 kJ) (Walk:Y5 K mg f8 mH) (cG:Mx K C "place_of" "Tally.place_of" wQ ["self","i","known"] f9 nZ) (aO:Fx K mg "letters_of" uU ["shape"] g1 lC) (dX:Fx K mg "cells_of" uT ["row","letters","wanted"] g2 o9) (fW:Fx K mg "is_answer" wA ["shape","rows","cells"] g3 gd3) (B:Bl mg):aA P w K mg base aN 11 f fd ["shape","rows","parents","answer"] (aX K zho):=by
 have fu:aA P w K mg base aN 9 f0 mJ ["self","shape","rows","parents"] (uG K C zbK):=(CN bR.fn T au Options bM aK dR aH cA Walk B).mono (by decide);have iH:aA P w K mg base aN 10 f9 nZ ["self","i","known"] (aX K (Dh C 7)):=Us cG T au Options bM B 7;have cJ:aA P w K mg base aN 10 g1 lC ["shape"] (aX K zaJ):=(Ii aO.fn B).mono (by decide);have nu:aA P w K mg base aN 10 g3 gd3 ["shape","rows","cells"] (aX K zbI):=(zlj fW.fn aO dX B).mono (by decide);refine dI F UW (λds Q ⟨a,b,c,d,e,f,g,h,i,h1,_⟩=>by rw[h1];rfl) (λcdv A outer s H E hr=>?_);have hu:=bG hr;have nd:=UW.nd;refine⟨_,(aV (jM (vz (ug (cM nu zjg hr rfl fW.mg fW.fn.kp fW.bd (aB (ak 0) (aB (ak 1) (aB (ak 3) aJ)))))) (bF G6) jL)
   (aV (bH (i:=4) nd rfl (Qk rfl) (Bu bR.make fu CK hr rfl bR.mg bR.bd (aB (ak 0) (aB (ak 1) (aB (ak 2) aJ)))))
   (bF (cX (pW T.c cG.me iH Ur hr cG.bd (ak 4) (aB (lN T.c T.root (ak 4)) (aB (GP (bb:=false) rfl rfl B.dict rfl B.zip (aB (cM cJ Ih hr rfl aO.mg aO.fn.kp aO.bd (aB (ak 0) aJ)) (aB (ak 3) aJ))) aJ))))))),λds Q h=>?_⟩
 obtain⟨sh,ps,ts,rk,od,cs,r,n,zs,rfl,h,hn,hz,q⟩:=h;have hsz:=Wi;have hrl:r<ps.length:=(Xc.mp h.ld.root).1;walk_at "pu";refine⟨sh,rfl,ts,rfl,zs,dY sh ps cs r n,rfl,h.ans hn hz,?_⟩;walk_at "go";walk_at "go";refine⟨sh,rfl,ps,ts,rfl,rfl,rk,h.tt,r,h.ld,h.low,h.pre,?_⟩;walk_at "go";refine⟨_,⟨_,rfl⟩,by decide,_,_,rfl,_,rfl,sh,rfl,by rw[h.tt.len];exact h.tt.few,h.tt.iR,λys hy=>?_⟩;obtain rfl:=hy.uniq hz;refine⟨ys.map Qo,by rw[Yb];rfl,by simp,CG hz.nd,sh,ps,r,(XE ps.length).map (cF sh ps ts),r,ts,rk,od,cs,ys.map λl=>(l,dY sh ps cs r n l),n,?_,h.Ij,hrl,h.low r hrl,h.kp hn hz,q⟩;have e1:(ys.map λl=>(l,dY sh ps cs r n l)).map (λx:Str×Int=>x.1)=ys:=by rw[Yb];exact List.map_id _
 have e2:(ys.map λl=>(l,dY sh ps cs r n l)).map (λx:Str×Int=>x.2)=ys.map (dY sh ps cs r n):=by rw[Yb];rfl
 unfold kD zaS;rw[e1,e2];rfl
end
def csP (zs:Tn)(cs:Str->Tp):PV:=.dK (zs.map Qo) (zs.map λl=>.lst ((cs l).map PV.int))
theorem Dk {l:Str}(h:l∈zs):iQ (zs.map (Qo:Str->Key)) (zs.map λl=>PV.lst ((cs l).map PV.int)) (.inr l)=some (.lst ((cs l).map PV.int)):=by
 induction zs with
 | nil=>cases h
 | cons a zs ih=>
  by_cases e:a=l
  .subst e;simp[iQ]
  .have ih:=ih ((Xn.mp h).resolve_left λz=>e z.symm);simp only[iQ,Xq,XS,Yq]at ih ⊢;have:¬ (Qo a:Key)=.inr l:=λz=>e (Sum.inr.inj z);simpa[this]using ih
def zqA:PF:=λds Q=>∃(p zs:Tn)(cs:Str->Tp),ds=[ltsP p,csP zs cs]/\(∀l∈p,l∈zs)/\p.length<=4/\(∀l,(cs l).length<=20)/\Q (cN (aU.cD cs p)) .aF
theorem zqB:cW zqA:=λds Q Q' m ⟨a,b,c,e,h1,h2,h3,q⟩=>⟨a,b,c,e,h1,h2,h3,m _ _ q⟩
theorem U0 (h:∀l,(cs l).length<=20):∀(p:Tn),(aU.cD cs p).length<=20 ^ p.length
 | []=>Xj _
 | l::p=>by
  have ih:=U0 h p;rw[aU.vX]at ih ⊢;rw[aW.dG,Xy,Nat.pow_succ,Q8];exact QJ ih (h l)
section
variable {P:Wg}{w:Wj}{K:Xa}{mg:Tj}{base:Heap}
theorem U3:cL ["_law_pattern","_law_cells","_law_told","_law_letter","_law_more","_law_row"] ["_law_pattern","_law_cells"] (bf wG):=fsc
theorem zvj (F:cj K "_law_grid" "_law_grid" wG f fd) (B:Bl mg):aA P w K mg base aN 1 f fd ["_law_pattern","_law_cells"] (aX K zqA):=by
 refine dI F U3 (λds Q ⟨a,b,c,e,_⟩=>by rw[e];rfl) (λcdv A outer s H E hr=>?_);have hu:=bG hr;have nd:=U3.nd;refine⟨_,(aV (bH (i:=2) nd rfl (Qk rfl) (jk (aB (vA aJ) aJ)))
   (aV (sS 2 (j4 rfl Ql (vC (ak 0)) (cB (i:=3) nd rfl (Qk rfl)) (aV (bH (i:=4) nd rfl (Qk rfl) (jk aJ))
   (aV (j4 rfl Ql (jN (ak 2)) (cB (i:=5) nd rfl (Qs rfl)) (bF (bH (i:=4) nd rfl (Qk rfl) (vL (ak 4) (j6 (N:=["_law_cell","_law_row"]) (k:=1) (js:=[5]) rfl (jX (sup:=bf wG) (XN:=["_law_pattern","_law_cells","_law_told","_law_letter","_law_more","_law_row"]) rfl rfl (by decide +kernel)) (by decide) (mX (by decide)) (jN (uD (hu1 hu) (ak 1) (ak 3))) ⟨λ_ _ _ _ _=>(cB (i:=0) (by show(["_law_cell","_law_row"]:Tn).Nodup;decide +kernel) rfl (Qk rfl)),λ_ _ _ _ _=>nP,λ_ _ _ _ _=>(zuG (ak 1) (vA (aB (ak 0) aJ)))⟩)))))
   (bF (sS 4 (bH (i:=2) nd rfl (Qk rfl) (ak 4))))))))
   (bF (cX (ak 2))))),λds Q h=>?_⟩
 obtain⟨p,zs,cs,rfl,hp,h4,h20,q⟩:=h;have hsz:=Wi;walk_at "pu";refine⟨by lia,by lia,?_⟩;walk_at "go";have hgl:∀k,(aU.cD cs (p.take k)).length<=160000:=λk=>by
  refine XC (U0 h20 _) ?_;have:(p.take k).length<=4:=by rw[XH];lia
  calc 20 ^ (p.take k).length<=20 ^ 4:=Nat.pow_le_pow_right (by decide) this
   _=160000:=by decide
 obtain⟨Iv,aP⟩:∃Iv:Nat->aC->Prop,∀i U,Iv i U↔∃v3 v4 v5:Option (PV×Bool),U=[some (PV.tup (p.map PV.str),false),some (csP zs cs,false),some (cN (aU.cD cs (p.take i)),false),v3,v4,v5]:=⟨_,λ_ _=>Qy⟩;refine⟨Iv,(aP _ _).mpr ⟨none,none,none,rfl⟩,?_,?_⟩
 .intro i d U hd hI;obtain⟨v3,v4,v5,rfl⟩:=(aP _ _).mp hI;rw[Xg]at hd;cases hl:p[i]? with
  | none=>rw[hl]at hd;cases hd
  | some l=>
   rw[hl]at hd;cases hd;have hlz:=hp l (Xl hl);have hg1:=hgl i;have h20l:=h20 l;walk_at "go";refine⟨by lia,?_⟩;walk_at "go";obtain⟨Iw,lW⟩:∃Iw:Nat->aC->Prop,∀j U,Iw j U↔∃v5:Option (PV×Bool),U=[some (PV.tup (p.map PV.str),false),some (csP zs cs,false),some (cN (aU.cD cs (p.take i)),false),some (PV.str l,false),some (cN (((aU.cD cs (p.take i)).take j).flatMap λr=>(cs l).map λc=>r++[c]),true),v5]:=⟨_,λ_ _=>Qy⟩;refine⟨(aU.cD cs (p.take i)).map dM,rfl,Iw,(lW _ _).mpr ⟨v5,rfl⟩,?_,?_⟩
   .intro j d U hd hI;obtain⟨v5,rfl⟩:=(lW _ _).mp hI;rw[Xg]at hd;cases hr:(aU.cD cs (p.take i))[j]? with
    | none=>rw[hr]at hd;cases hd
    | some r=>
     rw[hr]at hd;cases hd;have hrl:=(aU.zb cs (Xl hr)).1;have hjl:=(Xc.mp hr).1;have hil:(p.take i).length<=4:=by rw[XH];lia
     have hfl:(((aU.cD cs (p.take i)).take j).flatMap λr=>(cs l).map λc=>r++[c]).length<=160000*20:=by
      rw[aU.za (N:=(cs l).length) λc _=>by rw[Xb]];exact QJ (by rw[XH];lia) h20l
     walk_at "go";refine⟨.inr l,rfl,_,Dk hlz,(cs l).map PV.int,rfl,by rw[Xb];lia,λk out=>out=(((cs l).take k).map λc=>r++[c]).map dM,rfl,?_,?_⟩
     .rintro k d out hd-rfl;rw[Xg]at hd;cases hc:(cs l)[k]? with
      | none=>rw[hc]at hd;cases hd
      | some c=>
       rw[hc]at hd;cases hd;refine⟨by lia,r.map PV.int,[PV.int c],rfl,rfl,?_,rfl,?_⟩
       .rw[Xb];show r.length+1<=_;lia
       .show _=_;rw[<- take_snoc hc,Xp,Xp]
        congr 1
        show[_]=[dM (r++[c])];unfold dM;rw[Xp];rfl
     .rintro out-rfl;rw[Xb (f:=PV.int),Xs (Xj (cs l).length)];refine⟨_,rfl,?_,(lW _ _).mpr ⟨some (dM r,false),?_⟩⟩
      .rw[Xb,Xb,Xb];lia
      .rw[<- take_snoc hr,Pb];unfold cN;rw[Xp,XD,List.flatMap_nil,XG];rfl
   .intro U hI;obtain⟨v5,rfl⟩:=(lW _ _).mp hI;walk_at "go";rw[Xb,Xs (Xj _),<- aU.NP,take_snoc hl];exact(aP _ _).mpr ⟨_,_,_,rfl⟩
 .intro U hI;obtain⟨v3,v4,v5,rfl⟩:=(aP _ _).mp hI;walk_at "go";rw[Xb,Xs (Xj _)];exact q
end
section
variable {sh:Te}{ps:Tf}{od rk:Tw}
def dh (sh:Te)(T:Tn)(i:Nat):Tn:=T++(sh.getD i []).filter λl=>!decide (l∈T)
theorem U4 {T:Tn}:x∈dh sh T i↔x∈T\/x∈sh.getD i []:=by
 unfold dh;rw[Xz,Yy];by_cases h:x∈T<;>simp[h]
theorem U5:∀ {l:Tt}{T:Tn},x∈l.foldl (dh sh) T↔x∈T\/∃v∈l,x∈sh.getD v []
 | [],T=>by simp
 | i::l,T=>by
  rw[Q6,U5,U4,or_assoc];simp
theorem U6:∀ {t i j:Nat},j∈pre ps t i->gZ ps i j
 | 0,i,j,h=>nomatch h
 | t+1,i,j,h=>by
  rcases Xn.mp (show j∈i::(kids ps i).flatMap (pre ps t) from h)with e | h
  .rw[e];exact .refl i
  .obtain⟨c,hc,h⟩:=XY.mp h;have u:=U6 h;have hp:=gY.mp hc;have tr:∀ {c j:Nat},gZ ps c j->ps[c]? = some (some i)->gZ ps i j:=λ{c j} u=>by
    induction u with
    | refl=>exact λhp=>.up hp (.refl _)
    | up hq _ ih=>exact λhp=>.up hq (ih hp)
   exact tr u hp
theorem zqF {a:Nat}(u:gZ ps a b):gZ ps b c->gZ ps a c:=λv=>by
 induction v with
 | refl=>exact u
 | up hq _ ih=>exact .up hq ih
theorem U7 (h:gU sh ps od){V:Tt}{T:Tn}(hT:∀x,x∈T↔∃v∈V,x∈sh.getD v [])(hp:∀p,ps[i]? = some (some p)->p∈V)(hu:∀v∈V,¬ gZ ps i v):dh sh T i=T++newL sh ps i:=by
 unfold dh newL
 congr 1
 refine List.filter_congr λx hx=>?_;have:x∈T↔x∈bW sh ps i:=by
  constructor
  .intro z;obtain⟨v,hv,hxv⟩:=(hT x).mp z;exact wV h _ i v (Xj _) (.refl i) hx (hu v hv) hxv
  .intro z;cases hq:ps[i]? with
   | none=>unfold bW at z;rw[hq]at z;cases z
   | some o=>
    cases o with
    | none=>unfold bW at z;rw[hq]at z;cases z
    | some p=>exact(hT x).mpr ⟨p,hp p hq,tQ hq x z⟩
 by_cases z:x∈T
 .rw[Qd z,Qd (this.mp z)]
 .rw[Qc z,Qc λy=>z (this.mpr y)]
theorem U8 (h:gU sh ps od):∀(t i:Nat)(V:Tt)(T:Tn),(∀x,x∈T↔∃v∈V,x∈sh.getD v [])->(∀p,ps[i]? = some (some p)->p∈V)->(∀v∈V,¬ gZ ps i v)->(pre ps t i).foldl (dh sh) T=T++bD sh ps t i
 | 0,i,V,T,_,_,_=>(XG _).symm
 | t+1,i,V,T,hT,hp,hu=>by
  show(i::(kids ps i).flatMap (pre ps t)).foldl (dh sh) T=_;rw[Q6,U7 h hT hp hu,tU,<- QM];have hT1:∀x,x∈T++newL sh ps i↔∃v∈V++[i],x∈sh.getD v []:=λx=>by
   rw[<- U7 h hT hp hu,U4,hT];simp[or_and_right,exists_or]
  have go:∀(ks:Tt) (W:Tt) (S:Tn),ks.Nodup->(∀c∈ks,ps[c]? = some (some i))->(∀x,x∈S↔∃v∈W,x∈sh.getD v [])->i∈W->(∀v∈W,∀c∈ks,¬ gZ ps c v)->
    (ks.flatMap (pre ps t)).foldl (dh sh) S=S++ks.flatMap (bD sh ps t):=λks=>by
   induction ks with
   | nil=>intro W S _ _ _ _ _;exact(XG _).symm
   | cons c ks ih=>
    intro W S hn hc hS hi hW;obtain⟨hn1,hn2⟩:=XO.mp hn;have hcp:=hc c (Xh ..);have e:=U8 h t c W S hS (λp q=>by rw[hcp]at q;cases q;exact hi) λv hv=>hW v hv c (Xh ..);rw[XD,List.foldl_append,e,XD,<- QM];refine ih (W++pre ps t c) _ hn2 (λd hd=>hc d (Xf _ hd)) (λx=>?_) (Yj _ hi) λv hv d hd u=>?_
    .rw[<- e,U5,hS];constructor
     .rintro(⟨v,hv,hx⟩ | ⟨v,hv,hx⟩)
      .exact⟨v,Yj _ hv,hx⟩
      .exact⟨v,XR _ hv,hx⟩
     .rintro⟨v,hv,hx⟩;exact(Xz.mp hv).elim (λz=>.inl ⟨v,z,hx⟩) λz=>.inr ⟨v,z,hx⟩
    .rcases Xz.mp hv with z | z
     .exact hW v z d (Xf _ hd) u
     .have:=TX h hcp (hc d (Xf _ hd)) (U6 z) u;exact hn1 (this▸hd)
  refine go (kids ps i) (V++[i]) _ (CQ i) (λc hc=>gY.mp hc) hT1 (XR _ (Xv.mpr rfl)) λv hv c hc u=>?_;have hcp:=gY.mp hc;rcases Xz.mp hv with z | z
  .exact hu v z (zqF (.up hcp (.refl i)) u)
  .rw[Xv.mp z]at u;have:=u.le h;have:=h.bO _ _ hcp;lia
end
theorem zqI {od:Tw}{r:Nat}(h:iT sh ps ts rk od cs r):(pre ps 7 r).foldl (dh sh) []=bD sh ps 7 r:=
 (U8 h.hg 7 r [] [] (λx=>by simp) (λp q=>by rw[h.ld.root]at q;cases q) λv hv=>nomatch hv).trans (Ol _)
theorem U9 (h4:∀i,(sh.getD i []).length<=4):∀(l:Tt)(T:Tn),(l.foldl (dh sh) T).length<=T.length+4*l.length
 | [],T=>by simp
 | i::l,T=>by
  have ih:=U9 h4 l (dh sh T i);have h1:(dh sh T i).length<=T.length+4:=by
   unfold dh;rw[Xr];exact Nat.add_le_add_left (XC (Yc _ _) (h4 i)) _
  rw[Q6,Xy];lia
def zdj:PF:=λds Q=>∃sh ps ts rk od cs r,ds=[shpP sh,zbl ps]/\iT sh ps ts rk od cs r/\Q (.lst ((bD sh ps 7 r).map PV.str)) .new
theorem znK:cW zdj:=λds Q Q' m ⟨a,b,c,d,e,f,g,h1,h2,q⟩=>⟨a,b,c,d,e,f,g,h1,h2,m _ _ q⟩
section
variable {P:Wg}{w:Wj}{K:Xa}{mg:Tj}{base:Heap}
theorem Vd:cL ["_law_shape","_law_parents","_law_told","_law_i"] ["_law_shape","_law_parents"] (bf wH):=fsc
theorem zst (F:cj K "_law_order" "_law_order" wH f fd) (jn:Fx K mg "_law_walk" uW ["_law_parents"] g1 lC) (bC:Y6 K mg g2 o9) (B:Bl mg):aA P w K mg base aN 10 f fd ["_law_shape","_law_parents"] (aX K zdj):=by
 have GLWalk:aA P w K mg base aN 9 g1 lC ["_law_parents"] (aX K (zbY 7)):=zsh 7 jn.fn bC B;have Hu:=Hu 7;refine dI F Vd (λds Q ⟨a,b,c,d,e,f,g,h1,_⟩=>by rw[h1];rfl) (λcdv A outer s H E hr=>?_);have hu:=bG hr;have nd:=Vd.nd;refine⟨_,(aV (bH (i:=2) nd rfl (Qs rfl) (jk aJ))
   (aV (j4 rfl Ql (jN (cM GLWalk Hu hr rfl jn.mg jn.fn.kp jn.bd (aB (ak 1) aJ))) (cB (i:=3) nd rfl (Qk rfl)) (bF (bH (i:=2) nd rfl (Qs rfl) (vL (ak 2) (j6 (N:=["_law_letter","_law_told"]) (k:=1) (js:=[2]) rfl (jX (sup:=bf wH) (XN:=["_law_shape","_law_parents","_law_told","_law_i"]) rfl rfl (by decide +kernel)) (by decide) (mX (by decide)) (vC (di (ak 0) (ak 3))) ⟨λ_ _ _ _ _=>(cB (i:=0) (by show(["_law_letter","_law_told"]:Tn).Nodup;decide +kernel) rfl (Qk rfl)),λ_ _ _ _ _=>(yI (Ls hu (ak 0) (ak 1))),λ_ _ _ _ _=>(ak 0)⟩)))))
   (bF (cX (ak 2))))),λds Q h=>?_⟩
 obtain⟨sh,ps,ts,rk,od,cs,r,rfl,h,q⟩:=h;have hsz:=Wi;have hrl:r<ps.length:=(Xc.mp h.ld.root).1;have hpl7:=SQ h.tt.few r;have hfw:=h.tt.few;walk_at "pu";refine⟨by lia,?_⟩;walk_at "go";obtain⟨Iv,aP⟩:∃Iv:Nat->aC->Prop,∀j U,Iv j U↔∃v3:Option (PV×Bool),U=[some (shpP sh,false),some (zbl ps,false),some (PV.lst ((((pre ps 7 r).take j).foldl (dh sh) []).map PV.str),true),v3]:=⟨_,λ_ _=>Qy⟩;refine⟨ps,rfl,by lia,rk,h.tt.jO,r,h.low r hrl,h.ld.root,h.ld.one,hpl7,Iv,(aP _ _).mpr ⟨none,rfl⟩,?_,?_⟩
 .intro j d U hd hI;obtain⟨v3,rfl⟩:=(aP _ _).mp hI;rw[Xg]at hd;cases hc:(pre ps 7 r)[j]? with
  | none=>rw[hc]at hd;cases hd
  | some i=>
   rw[hc]at hd;cases hd;have hil:i<ps.length:=by
    rcases HN 7 r i (Xl hc)with e | ⟨p,hp⟩
    .rw[e];exact hrl
    .exact(Xc.mp hp).1
   have hsi:sh[i]? = some (sh.getD i []):=by rw[Xi,Xd (show i<sh.length by rw[h.tt.len];exact hil)];rfl
   have h4:=rA.rF (i:=i) h.tt.iR;have hol:=U9 (λi=>rA.rF (i:=i) h.tt.iR) ((pre ps 7 r).take j) [];rw[XH]at hol;have hst:((pre ps 7 r).take (j+1)).foldl (dh sh) []=dh sh (((pre ps 7 r).take j).foldl (dh sh) []) i:=by
    rw[<- take_snoc hc,List.foldl_append];rfl
   walk_at "go";generalize ((pre ps 7 r).take j).foldl (dh sh) []=T at hol hst;refine⟨_,jt (by rw[Xg,hsi];rfl),(sh.getD i []).map PV.str,rfl,by rw[Xb];lia,λk out=>out=(((sh.getD i []).take k).filter λl=>!decide (l∈T)).map PV.str,rfl,?_,?_⟩
   .rintro k d out hd-rfl;rw[Xg]at hd;cases hx:(sh.getD i [])[k]? with
    | none=>rw[hx]at hd;cases hd
    | some x=>
     rw[hx]at hd;cases hd;have hin:PV.str x∈T.map PV.str↔x∈T:=⟨λz=>by
      obtain⟨y,hy,e⟩:=XF.mp z;cases e;exact hy,λz=>XF.mpr ⟨x,z,rfl⟩⟩
     refine⟨rfl,Cp _ _,bT (λe=>?_) (λe=>?_)⟩
     .have e':x∉T:=λz=>e (hin.mpr z);show _=_;rw[<- take_snoc hx,YG,Xp,Yx (by simp[e'])];rfl
     .have e':x∈T:=hin.mp (Decidable.not_not.mp e);show _=_;rw[<- take_snoc hx,YG,Xp,Yw (by simp[e']),List.filter_nil,YE,XG]
   .rintro out-rfl;rw[Xb (f:=PV.str) (as:=sh.getD i []),Xs (Xj (sh.getD i []).length)];refine⟨?_,(aP _ _).mpr ⟨some (PV.int i,false),?_⟩⟩
    .rw[Xb,Xb];have:=Yc (λl=>!decide (l∈T)) (sh.getD i []);simp at hol;lia
    .rw[hst];unfold dh;rw[Xp];rfl
 .intro U hI;obtain⟨v3,rfl⟩:=(aP _ _).mp hI;walk_at "go";rw[Xb,Xs (Xj _),zqI h];exact q
end
def fDue:PF:=λds Q=>∃sh ps ts rk od cs r n zs,ds=[shpP sh,zbl ps,csP zs cs,.int (n:Nat)]/\iT sh ps ts rk od cs r/\n<sN sh ps cs r/\Names sh zs/\Q (.tup ((zs.map (dY sh ps cs r n)).map PV.int)) .aF
theorem zsu:cW fDue:=λds Q Q' m ⟨a,b,c,d,e,f,g,h,i,h1,h2,h3,h4,q⟩=>⟨a,b,c,d,e,f,g,h,i,h1,h2,h3,h4,m _ _ q⟩
section
variable {P:Wg}{w:Wj}{K:Xa}{mg:Tj}{base:Heap}
theorem Ve:cL ["_law_shape","_law_parents","_law_cells","_law_n","_law_picked_here","_law_letter"] ["_law_shape","_law_parents","_law_cells","_law_n"] (bf m9):=fsc
theorem zxn {g3 g4:Addr}{gd3 gd4:Wk}(F:cj K "_law_due" "_law_due" m9 f fd) (Order:Fx K mg "_law_order" wH ["_law_shape","_law_parents"] g3 gd3) (jn:Fx K mg "_law_walk" uW ["_law_parents"] g1 lC) (bC:Y6 K mg g2 o9) (Letters:Fx K mg "_law_letters" wD ["_law_shape"] g4 gd4) (B:Bl mg):aA P w K mg base aN 11 f fd ["_law_shape","_law_parents","_law_cells","_law_n"] (aX K fDue):=by
 have GOrder:aA P w K mg base aN 10 g3 gd3 ["_law_shape","_law_parents"] (aX K zdj):=zst Order.fn jn bC B;have iJ:aA P w K mg base aN 10 g4 gd4 ["_law_shape"] (aX K zbo):=(Uw Letters.fn B).mono (by decide);refine dI F Ve (λds Q ⟨a,b,c,d,e,f,g,h,i,h1,_⟩=>by rw[h1];rfl) (λcdv A outer s H E hr=>?_);have hu:=bG hr;have nd:=Ve.nd;refine⟨_,(aV (bH (i:=4) nd rfl (Qs rfl) vV)
   (aV (j4 rfl Ql (Gw rfl B.reversed (cM GOrder znK hr rfl Order.mg Order.fn.kp Order.bd (aB (ak 0) (aB (ak 1) aJ)))) (cB (i:=5) nd rfl (Qk rfl)) (aV (Gm 4 (hu1 hu) (ak 5) (di (uD (hu1 hu) (ak 2) (ak 5)) (jG (ak 3) (gb rfl B.len (aB (uD (hu1 hu) (ak 2) (ak 5)) aJ)))))
   (bF (bH (i:=3) nd rfl (Qk rfl) (vq (ak 3) (gb rfl B.len (aB (uD (hu1 hu) (ak 2) (ak 5)) aJ)))))))
   (bF (cX (yN rfl B.tuple (aB (j6 (N:=["_law_letter","_law_picked_here"]) (k:=1) (js:=[4]) rfl (jX (sup:=bf m9) (XN:=["_law_shape","_law_parents","_law_cells","_law_n","_law_picked_here","_law_letter"]) rfl rfl (by decide +kernel)) (by decide) (mX (by decide)) (jN (cM iJ Ut hr rfl Letters.mg Letters.fn.kp Letters.bd (aB (ak 0) aJ))) ⟨λ_ _ _ _ _=>(cB (i:=0) (by show(["_law_letter","_law_picked_here"]:Tn).Nodup;decide +kernel) rfl (Qk rfl)),λ_ _ _ _ _=>nP,λ_ _ _ _ _=>(uD (hu1 hu) (ak 1) (ak 0))⟩) aJ)))))),λds Q h=>?_⟩
 obtain⟨sh,ps,ts,rk,od,cs,r,n,zs,rfl,h,hn,hz,q⟩:=h;have hsz:=Wi;have hln:=zZ h.hg 7 r;have hll:(bD sh ps 7 r).length<=24:=by
  have h1:=Qv hln λl hl=>u0 hl;have h2:=uZ h.tt.iR;have h3:=h.tt.len;have h4:=h.tt.few;lia
 walk_at "pu";obtain⟨Iv,aP⟩:∃Iv:Nat->aC->Prop,∀j U,Iv j U↔∃v5:Option (PV×Bool),U=[some (shpP sh,false),some (zbl ps,false),some (csP zs cs,false),some (PV.int ((n / aW.bw ((bD sh ps 7 r).drop ((bD sh ps 7 r).length-j)) (g8 cs):Nat):Int),false),some (kD (((bD sh ps 7 r).reverse.take j).map λl=>(l,dY sh ps cs r n l)),true),v5]:=⟨_,λ_ _=>Qy⟩;walk_at "go";refine⟨sh,rfl,ps,rfl,⟨ts,rk,od,cs,r,h,Iv,(aP _ _).mpr ⟨none,?_⟩,?_,?_⟩⟩
 .have e0:aW.bw ((bD sh ps 7 r).drop ((bD sh ps 7 r).length-0)) (g8 cs)=1:=by rw[Nat.sub_zero,List.drop_length];rfl
  rw[e0,Nat.div_one];rfl
 .intro j d U hd hI;obtain⟨v5,rfl⟩:=(aP _ _).mp hI;rw[<- P0,Xg]at hd;cases hc:(bD sh ps 7 r).reverse[j]? with
  | none=>rw[hc]at hd;cases hd
  | some l=>
   rw[hc]at hd;cases hd;have hc0:=hc;have hj:j<(bD sh ps 7 r).length:=by
    have:=(Xc.mp hc).1
    rwa [Ya]at this
   rw[YL hj]at hc;have ha:(bD sh ps 7 r).length-j=(bD sh ps 7 r).length-1-j+1:=by lia
   have hb:(bD sh ps 7 r).length-(j+1)=(bD sh ps 7 r).length-1-j:=by lia
   have hdr:(bD sh ps 7 r).drop ((bD sh ps 7 r).length-1-j)=l::(bD sh ps 7 r).drop ((bD sh ps 7 r).length-1-j+1):=by
    obtain⟨h1,h2⟩:=Xc.mp hc;rw[List.drop_eq_getElem_cons h1,h2]
   have hsp:bD sh ps 7 r=(bD sh ps 7 r).take ((bD sh ps 7 r).length-1-j)++l::(bD sh ps 7 r).drop ((bD sh ps 7 r).length-1-j+1):=by rw[<- hdr,Yp]
   have hlz:l∈zs:=(hz.mem l).mpr (Yk.mp (u0 (Xl hc)));have hpos:=h.gr.ok.pos l;have hle:=h.gr.ok.le l;rw[ha];have hfig:fB sh ps cs r n l=n / aW.bw ((bD sh ps 7 r).drop ((bD sh ps 7 r).length-1-j+1)) (g8 cs) % (cs l).length:=by
    have hlA:l∉(bD sh ps 7 r).take ((bD sh ps 7 r).length-1-j):=λz=>by
     rw[hsp]at hln;exact(Ys.mp hln).2.2 l z l (Xh ..) rfl
    have:=aU.uJ (g8 cs) ((bD sh ps 7 r).take ((bD sh ps 7 r).length-1-j)) (l::(bD sh ps 7 r).drop ((bD sh ps 7 r).length-1-j+1)) n l (by rw[<- hsp];exact hn);rw[<- hsp,Qe hlA,aU.nU,Qf rfl,aW.dG,aU.BL]at this;exact this
   generalize hBk:(bD sh ps 7 r).drop ((bD sh ps 7 r).length-1-j+1)=Bk at hdr hfig;have hat:gM ((cs l).map PV.int) (((n / aW.bw Bk (g8 cs):Nat):Int) % ((((cs l).map PV.int).length:Nat):Int))=some (PV.int (dY sh ps cs r n l)):=by
    rw[Xb];have hlt:=QS (n / aW.bw Bk (g8 cs)) hpos;refine jt (j:=n / aW.bw Bk (g8 cs) % (cs l).length) ?_;show _=some (PV.int ((cs l).getD (fB sh ps cs r n l) 0));rw[hfig,Xg,Xi,Xd hlt];rfl
   have hnot:l∉(((bD sh ps 7 r).reverse.take j).map λl=>(l,dY sh ps cs r n l)).map (·.1):=λz=>by
    rw[Yb]at z;obtain⟨y,hy,e⟩:=XF.mp z;have e':y=l:=e;subst e';obtain⟨k,hk,e2⟩:=List.mem_take_iff_getElem.mp hy;have h1:(bD sh ps 7 r).reverse[k]? = some y:=by rw[Xd (by lia),e2]
    have:=(List.getElem?_inj (j:=j) (Xc.mp h1).1 (List.pairwise_reverse.mpr (hln.imp λz y=>z y.symm))).mp (h1.trans hc0.symm);lia
   walk_at "go";refine⟨.inr l,rfl,_,Dk hlz,.inr l,rfl,_,Dk hlz,_,rfl,by rw[Xb];lia,_,.inl ⟨_,.inl rfl,hat⟩,?_,.inr l,rfl,?_⟩
   .simp only[Xb,XH,Ya];lia
   .rw[Qe (by rw[Ud];exact λz=>hnot (Qh z))];walk_at "go";refine⟨.inr l,rfl,_,Dk hlz,_,rfl,⟨by rw[Xb];lia,by rw[Xb];lia⟩,(aP _ _).mpr ⟨some (PV.str l,false),?_⟩⟩;rw[hb,hdr,aW.dG,Q8,<- Oo,<- take_snoc hc0,Xp,Xb];unfold kD zaS;simp only[Xp,Xq,YE];rfl
 .intro U hI;obtain⟨v5,rfl⟩:=(aP _ _).mp hI;have hfl:=uZ h.tt.iR;have h3:=h.tt.len;have h4:=h.tt.few;have nR:zs.length<=24:=(h.ans hn hz).len;have etk:(bD sh ps 7 r).reverse.take ((bD sh ps 7 r).map PV.str).reverse.length=(bD sh ps 7 r).reverse:=Xs (by simp);rw[etk];walk_at "go";refine⟨sh,rfl,by lia,λys hy=>?_⟩;obtain rfl:=hy.uniq hz;refine⟨by rw[Xb];lia,λk out=>out=((ys.take k).map (dY sh ps cs r n)).map PV.int,rfl,?_,?_⟩
  .rintro k d out hd-rfl;rw[Xg]at hd;cases hx:ys[k]? with
   | none=>rw[hx]at hd;cases hd
   | some x=>
    rw[hx]at hd;cases hd;obtain⟨p,hp,hxp⟩:=(hz.mem x).mp (Xl hx);have hxl:=h.all hp hxp;have hd2:=Cm (l:=x) (ls:=((bD sh ps 7 r).reverse.map λl=>(l,dY sh ps cs r n l)).map (·.1)) (r:=((bD sh ps 7 r).reverse.map λl=>(l,dY sh ps cs r n l)).map (·.2)) (by simp) (by rw[Yb];exact XF.mpr ⟨x,YB.mpr hxl,rfl⟩);refine⟨.inr x,rfl,_,hd2,?_⟩;show _=_;rw[wZ,Il (YB.mpr hxl),<- take_snoc hx,Xp,Xp];rfl
  .rintro out-rfl;rw[Xb,Xs (Xj _)];exact q
end
theorem getD_some {l:List (List M)}{x:M}(h:x∈l.getD i []):i<l.length/\∃p,l[i]? = some p/\x∈p/\l.getD i []=p:=by
 rw[Xi]at h ⊢;cases hp:l[i]? with
 | none=>rw[hp]at h;cases h
 | some p=>rw[hp]at h;exact⟨(Xc.mp hp).1,p,rfl,h,rfl⟩
theorem Im {l:List (List M)}{p:List M}(h:l[i]? = some p):l.getD i []=p:=by rw[Xi,h];rfl
theorem Vf (d:M){l:List M}(hl:l.length=n)(hi:i<n):l.reverse.getD i d=l.getD (n-1-i) d:=by
 rw[Xi,Xi,YL (by lia),hl]
theorem zvk {k:Nat}(hl:p0.length=n)(hk:k<n):(kO n p0)[k]? = (p0[n-1-k]?).map λo=>o.map λp=>n-1-p:=by
 unfold kO;rw[Xg,YL (by lia),hl]
theorem Vg (h:∀p∈sh,p.Nodup)(i:Nat):(sh.getD i []).Nodup:=by
 rw[Xi];cases hp:sh[i]? with
 | none=>exact QG
 | some p=>exact h p (Xl hp)
theorem Good.hng (h:Good sh ps):∃od,gU sh ps od:=by
 obtain⟨L,n,s0,p0,T,h1,h6,hL,⟨rfl,rfl⟩ | ⟨rfl,rfl⟩⟩:=h
 .refine⟨λi=>i,Vg T.nd,T.bO,λi j x y _ _ e=>e,λk x hx=>?_⟩;obtain⟨_,p,hp,hxp,_⟩:=getD_some hx;rcases T.conn k p x hp hxp with ⟨j,q,h2,h3,h4⟩ | z
  .exact .inl ⟨j,h2,by rw[Im h3];exact h4⟩
  .refine .inr λi hi hxi=>?_;obtain⟨_,q,hq,hxq,_⟩:=getD_some hxi;exact z i q hi hq hxq
 .have hs:=T.pats.1;have hl:=T.gG;have inn:∀ {i:Nat} {x:Str},x∈s0.reverse.getD i []->i<n/\x∈s0.getD (n-1-i) []:=λ{i x} hx=>by
   have hi:i<n:=by have:=(getD_some hx).1;rw[Ya]at this;lia
   rw[Vf [] hs hi]at hx;exact⟨hi,hx⟩
  refine⟨λi=>n-1-i,Vg λp hp=>T.nd p (YB.mp hp),λk j hk=>?_,λi j x y hx hy e=>?_,λk x hx=>?_⟩
  .obtain⟨hkn,o',ho,e⟩:=CJ hl hk;cases o' with
   | none=>cases e
   | some j'=>
    have ej:j=n-1-j':=by simpa using e
    have hlt:=T.bO _ j' ho;show n-1-j<n-1-k;lia
  .have:=(inn hx).1;have:=(inn hy).1;have e':n-1-i=n-1-j:=e;lia
  .obtain⟨hkn,hx'⟩:=inn hx;obtain⟨_,p,hp,hxp,_⟩:=getD_some hx';rcases T.conn _ p x hp hxp with ⟨j,q,h2,h3,h4⟩ | z
   .have hjk:=T.bO _ j h2;refine .inl ⟨n-1-j,by rw[zvk hl hkn,h2];rfl,?_⟩;rw[Vf [] hs (by lia),show n-1-(n-1-j)=j by lia,Im h3];exact h4
   .refine .inr λi hi hxi=>?_;obtain⟨hin,hxi'⟩:=inn hxi;obtain⟨_,q,hq,hxq,_⟩:=getD_some hxi';have hi':n-1-i<n-1-k:=hi;exact z _ q (by lia) hq hxq
theorem Vh {f:M->Nat}:∀ {l:List M},(∀a∈l,f a<=b)->aW.bw l f<=b ^ l.length
 | [],_=>Xj _
 | a::l,h=>by
  rw[aW.dG,Xy,Nat.pow_succ,Q8];exact QJ (Vh λx hx=>h x (Xf _ hx)) (h a (Xh ..))
theorem Good.six (h:Good sh ps):∃L:Tn,L.length=6/\∀x∈sh.flatten,x∈L:=by
 obtain⟨L,n,s0,p0,T,h1,h6,hL,⟨rfl,rfl⟩ | ⟨rfl,rfl⟩⟩:=h
 .refine⟨L,hL,λx hx=>?_⟩;obtain⟨p,hp,hxp⟩:=Yk.mp hx;exact(T.pats.2 p hp).2 x hxp
 .refine⟨L,hL,λx hx=>?_⟩;obtain⟨p,hp,hxp⟩:=Yk.mp hx;exact(T.pats.2 p (YB.mp hp)).2 x hxp
theorem Io (G:Good sh ps)(C:fQ cs){l:Tn}(hn:l.Nodup)(hs:∀x∈l,x∈sh.flatten):aW.bw l (g8 cs)<=64000000:=by
 obtain⟨L,hL,hsub⟩:=G.six;have h1:=Qv hn λx hx=>hsub x (hs x hx);refine XC (Vh λa _=>C.le a) (XC (Nat.pow_le_pow_right (by decide) (show l.length<=6 by lia)) (by decide))
theorem zvl {od:Tw}(h:gU sh ps od)(t i:Nat):((kids ps i).flatMap (bD sh ps t)).Nodup:=by
 have:=zZ h (t+1) i;rw[tU]at this;exact(Ys.mp this).2.1
theorem Good.pats (G:Good sh ps):(∀p∈sh,p≠[]/\p.length<=4)/\(∀p∈sh,p.Nodup)/\∀c p:Nat,ps[c]? = some (some p)->p<ps.length:=by
 obtain⟨L,n,s0,p0,T,h1,h4,hL,⟨rfl,rfl⟩ | ⟨rfl,rfl⟩⟩:=G
 .refine⟨λp hp=>⟨T.ne p hp,(T.pats.2 p hp).1⟩,T.nd,λc p hc=>?_⟩;have:=T.bO c p hc;have:=(Xc.mp hc).1;lia
 .refine⟨λp hp=>⟨T.ne p (YB.mp hp),(T.pats.2 p (YB.mp hp)).1⟩,λp hp=>T.nd p (YB.mp hp),λc p hc=>?_⟩;have ht:(kO n p0).length=n:=by unfold kO;rw[Xb,Ya,T.gG]
  obtain⟨hcn,o',ho,e⟩:=CJ T.gG hc;cases o' with
  | none=>cases e
  | some j=>
   have ej:p=n-1-j:=by simpa using e
   lia
theorem zxo (G:Good sh ps)(C:fQ cs)(h27:∀p∈sh,aW.bw p (g8 cs)<=27):∃rk od r,iT sh ps (sh.map (aU.cD cs)) rk od cs r:=by
 obtain⟨hl,h1,h6,rk,r,Ld,hlow⟩:=G.leads;obtain⟨od,hg⟩:=G.hng;obtain⟨gp1,gp2,gp3⟩:=G.pats;have tab:∀i,i<ps.length->(sh.map (aU.cD cs)).getD i []=aU.cD cs (sh.getD i []):=λi hi=>by
  rw[Xi,Xg,Xi,Xd (show i<sh.length by lia)];rfl
 have gr:wX sh ps (sh.map (aU.cD cs)) cs:=⟨C,tab⟩;have tt:je sh ps (sh.map (aU.cD cs)) rk:=by
  refine⟨hl,h6,λp hp=>(gp1 p hp).2,gp2,by rw[Xb],λt ht=>?_,λt i r hr=>?_,λi t ht r hr=>?_,Ld.jO,gp3⟩
  .obtain⟨p,hp,rfl⟩:=XF.mp ht;rw[aU.vX];exact h27 p hp
  .have hi:i<ps.length:=by
    have:=(getD_some hr).1;rw[Xb]at this;lia
   rw[tab i hi]at hr;rw[CV hg gr t i r hr];refine Io G C (zvl hg t i) λx hx=>?_;obtain⟨c,_,z⟩:=XY.mp hx;exact u0 z
  .rw[Xg]at ht;cases hp:sh[i]? with
   | none=>rw[hp]at ht;cases ht
   | some p=>
    rw[hp]at ht;cases ht;rw[Im hp];exact(aU.zb cs hr).1
 have hrl:r<ps.length:=(Xc.mp Ld.root).1;refine⟨rk,od,r,tt,hg,gr,Ld,hlow,λc hc=>Io G C (zZ hg 7 c) λx hx=>u0 hx,?_⟩;unfold cU;rw[Hl Ld.jO (rk r+1) r 7 (by lia) (hlow r hrl)];exact SQ h6 r
section
variable {sh:Te}{ps:Tf}{ts:Tc}{cs:Str->Tp}{od rk:Tw}{r:Nat}{zs:Tn}
theorem iT.cnt (h:iT sh ps ts rk od cs r):pF sh ps ts r=sN sh ps cs r:=by
 have hrl:r<ps.length:=(Xc.mp h.ld.root).1;unfold pF;rw[h.gr.tab r hrl,z6 λa ha=>CV h.hg h.gr 7 r a ha,aU.vX,wY h.tt.jO (h.low r hrl)];have e:newL sh ps r=sh.getD r []:=by
  unfold newL;rw[rE h.ld.root];exact List.filter_eq_self.mpr λx _=>rfl
 rw[e];rfl
theorem zqL {f:M->Nat}{a b:List M}(p:a.Perm b):aW.bw a f=aW.bw b f:=by
 induction p with
 | nil=>rfl
 | cons x _ ih=>rw[aW.dG,aW.dG,ih]
 | swap x y l=>rw[aW.dG,aW.dG,aW.dG,aW.dG,Nat.mul_left_comm]
 | trans _ _ h1 h2=>exact h1.trans h2
theorem iT.many (h:iT sh ps ts rk od cs r)(hz:Names sh zs):aW.bw zs (g8 cs)=sN sh ps cs r:=by
 refine zqL ((List.perm_ext_iff_of_nodup hz.nd (zZ h.hg 7 r)).mpr λx=>⟨λhx=>?_,λhx=>?_⟩)
 .obtain⟨p,hp,hxp⟩:=(hz.mem x).mp hx;exact h.all hp hxp
 .exact(hz.mem x).mpr (Yk.mp (u0 hx))
end
structure z9 (sh:Te)(l:Str)(v:Nat):Prop where
 pos:1<=v
 le:v<=20
 two:∀p∈sh,l∈p->(p.length=2->v<=4)/\(p.length=3->v<=3)/\(p.length=4->v<=2)
def zkw:PF:=λds Q=>∃(sh:Te)(c:Int),ds=[shpP sh,.int c]/\sh.flatten.length<64/\sh.length<=6/\(∀p∈sh,p≠[]/\p.length<=4)/\∀(zs:Tn)(vs:Tt),Names sh zs->vs.length=zs.length->(∀(k:Nat)(l:Str)(v:Nat),zs[k]? = some l->vs[k]? = some v->z9 sh l v)->Q (.dK (zs.map Qo) (vs.map λ(v:Nat)=>.int v)) .new
theorem znL:cW zkw:=λds Q Q' m ⟨a,b,e,h1,h2,h3,q⟩=>⟨a,b,e,h1,h2,h3,λz v x y w=>m _ _ (q z v x y w)⟩
section
variable {P:Wg}{w:Wj}{K:Xa}{mg:Tj}{base:Heap}
theorem Vi:cL ["_law_shape","_law_cell","_law_told","_law_k","_law_letter","_law_most","_law_pattern"] ["_law_shape","_law_cell"] (bf zO):=fsc
theorem zsv (F:cj K "_law_sizes" "_law_sizes" zO f fd) (aM:Y3 K mg g1 lC) (Letters:Fx K mg "_law_letters" wD ["_law_shape"] g2 o9) (B:Bl mg):aA P w K mg base aN 2 f fd ["_law_shape","_law_cell"] (aX K zkw):=by
 have cu:Z1 P w K mg base 1 g1 lC:=zR aM.fn B;have iJ:aA P w K mg base aN 1 g2 o9 ["_law_shape"] (aX K zbo):=Uw Letters.fn B;refine dI F Vi (λds Q ⟨a,b,e,_⟩=>by rw[e];rfl) (λcdv A outer s H E hr=>?_);have hu:=bG hr;have nd:=Vi.nd;refine⟨_,(aV (bH (i:=2) nd rfl (Qk rfl) vV)
   (aV (j4 rfl Ql (M4 rfl B.enumerate (cM iJ Ut hr rfl Letters.mg Letters.fn.kp Letters.bd (aB (ak 0) aJ))) (oN (n:=2) rfl (iM (cB (i:=3) nd rfl (Qk rfl)) (iM (cB (i:=4) nd rfl (Qk rfl)) oM))) (aV (bH (i:=5) nd rfl (Qk rfl) bA)
   (aV (j4 rfl Ql (jN (ak 0)) (cB (i:=6) nd rfl (Qk rfl)) (bF (jM (lu.t (Bb (Lr hu (ak 4) (ak 6)) (Az (Bh (gb rfl B.len (aB (ak 6) aJ)) bA)))) (bF (bH (i:=5) nd rfl (Qk rfl) (zun rfl rfl B.min (aB (ak 5) (aB (di (jk (aB bA (aB bA (aB bA (aB bA aJ))))) (sO (gb rfl B.len (aB (ak 6) aJ)) bA)) aJ))))) jL)))
   (bF (Gm 2 (hu1 hu) (ak 4) (iU bA (jG (cM cu tG hr rfl aM.mg aM.fn.kp aM.bd (aB (ak 1) (aB (iU bA (ak 3)) aJ))) (ak 5))))))))
   (bF (cX (ak 2))))),λds Q h=>?_⟩
 obtain⟨sh,c,rfl,h64,h6,h4,q⟩:=h;have hsz:=Wi;walk_at "pu";walk_at "go";refine⟨sh,rfl,h64,λzs hz=>?_⟩;obtain⟨Iv,aP⟩:∃Iv:Nat->aC->Prop,∀i U,Iv i U↔∃(vs:Tt) (v3 v4 v5 v6:Option (PV×Bool)),U=[some (shpP sh,false),some (PV.int c,false),some (PV.dK ((zs.take i).map Qo) (vs.map λ(v:Nat)=>PV.int v),true),v3,v4,v5,v6]/\vs.length=i/\∀(k:Nat) (l:Str) (v:Nat),zs[k]? = some l->vs[k]? = some v->z9 sh l v:=⟨_,λ_ _=>Qy⟩;refine⟨Iv,(aP _ _).mpr ⟨[],none,none,none,none,rfl,rfl,λk l v _ h=>by cases h⟩,?_,?_⟩
 .intro i d U hd hI;obtain⟨vs,v3,v4,v5,v6,rfl,hvl,hok⟩:=(aP _ _).mp hI;obtain⟨x,hx,rfl⟩:=Gv hd;rw[Xg]at hx;cases hl:zs[i]? with
  | none=>rw[hl]at hx;cases hx
  | some l=>
   rw[hl]at hx;cases hx;refine⟨_,rfl,rfl,_,_,rfl,_,_,rfl,rfl,?_⟩;walk_at "go";walk_at "go";obtain⟨Iw,lW⟩:∃Iw:Nat->aC->Prop,∀j U,Iw j U↔∃(m:Nat) (v6:Option (PV×Bool)),U=[some (shpP sh,false),some (PV.int c,false),some (PV.dK ((zs.take i).map Qo) (vs.map λ(v:Nat)=>PV.int v),true),some (PV.int i,false),some (PV.str l,false),some (PV.int m,false),v6]/\1<=m/\m<=20/\∀p∈sh.take j,l∈p->(p.length=2->m<=4)/\(p.length=3->m<=3)/\(p.length=4->m<=2):=⟨_,λ_ _=>Qy⟩;refine⟨Iw,(lW _ _).mpr ⟨20,v6,rfl,by decide,by decide,λp hp=>nomatch hp⟩,?_,?_⟩
   .intro j d U hd hI;obtain⟨m,v6,rfl,hm1,hm2,hmp⟩:=(lW _ _).mp hI;rw[Xg]at hd;cases hp:sh[j]? with
    | none=>rw[hp]at hd;cases hd
    | some p=>
     rw[hp]at hd;cases hd;have hp4:=h4 p (Xl hp);have hin:PV.str l∈p.map PV.str↔l∈p:=⟨λz=>by
      obtain⟨y,hy,e⟩:=XF.mp z;cases e;exact hy,λz=>XF.mpr ⟨l,z,rfl⟩⟩
     have nxt:∀m':Nat,1<=m'->m'<=m->(l∈p->(p.length=2->m'<=4)/\(p.length=3->m'<=3)/\(p.length=4->m'<=2))->Iw (j+1) [some (shpP sh,false),some (PV.int c,false),some (PV.dK ((zs.take i).map Qo) (vs.map λ(v:Nat)=>PV.int v),true),some (PV.int i,false),some (PV.str l,false),some (PV.int m',false),some (PV.tup (p.map PV.str),false)]:=λm' a1 a2 a3=>by
      refine(lW _ _).mpr ⟨m',_,rfl,a1,by lia,λp' hp' hlp=>?_⟩;rw[<- take_snoc hp]at hp';rcases Xz.mp hp' with z | z
      .obtain⟨b1,b2,b3⟩:=hmp p' z hlp;exact⟨λe=>by have:=b1 e;lia,λe=>by have:=b2 e;lia,λe=>by have:=b3 e;lia⟩
      .rw[Xv.mp z]at hlp ⊢;exact a3 hlp
     have ixs:∀k:Nat,k=2\/k=3\/k=4->∃w:Nat,gM [PV.int 20,PV.int 4,PV.int 3,PV.int 2] ((k:Int)-1)=some (PV.int w)/\1<=w/\(k=2->w<=4)/\(k=3->w<=3)/\(k=4->w<=2):=λk hk=>by
      rcases hk with rfl | rfl | rfl
      .exact⟨4,rfl,by decide,by decide,by decide,by decide⟩
      .exact⟨3,rfl,by decide,by decide,by decide,by decide⟩
      .exact⟨2,rfl,by decide,by decide,by decide,by decide⟩
     walk_at "go";refine⟨Cp _ _,bT (λe=>bT (λe2=>?_) (λe2=>?_)) (λe=>?_)⟩
     .rw[Xb]at e2;obtain⟨w,hw,hw1,hw2⟩:=ixs p.length (by lia);walk_at "go";refine⟨by lia,_,by rw[Xb];exact hw,_,rfl,?_⟩;have e3:(if ((w:Nat):Int)<(m:Int) then((w:Nat):Int) else(m:Int))=((if w<m then w else m:Nat):Int):=by
       by_cases z:w<m
       .rw[Qf (by lia),Qf z]
       .rw[Qe (by lia),Qe z]
      rw[e3];refine nxt _ ?_ ?_ λ_=>?_
      .split<;>lia
      .split<;>lia
      .obtain⟨b1,b2,b3⟩:=hw2;exact⟨λz=>by have:=b1 z;split<;>lia,λz=>by have:=b2 z;split<;>lia,λz=>by have:=b3 z;split<;>lia⟩
     .rw[Xb]at e2;walk_at "go";exact nxt m hm1 (Xj _) λ_=>⟨λz=>by lia,λz=>by lia,λz=>by lia⟩
     .walk_at "go";exact nxt m hm1 (Xj _) λz=>Qg (hin.mpr z) e
   .intro U hI;obtain⟨m,v6,rfl,hm1,hm2,hmp⟩:=(lW _ _).mp hI;have hil:=(Xc.mp hl).1;have nR:zs.length<=sh.flatten.length:=Qv hz.nd λy hy=>Yk.mpr ((hz.mem y).mp hy);have hmn:=Ho c (60+(i:Int));have hne:eX ((zs.take i).map (Qo:Str->Key)) (.inr l)=false:=by
     rw[Bool.eq_false_iff];intro z;obtain⟨y,hy,e⟩:=List.any_eq_true.mp z;obtain⟨l',hl',rfl⟩:=XF.mp hy;have e':l'=l:=Sum.inr.inj (Qh e);subst e';obtain⟨k,hk,e2⟩:=List.mem_take_iff_getElem.mp hl';have h1:zs[k]? = some l':=by rw[Xd (by lia),e2]
     have:=(List.getElem?_inj (j:=i) (Xc.mp h1).1 hz.nd).mp (h1.trans hl.symm);lia
    walk_at "go";refine⟨by lia,by lia,by lia,by rw[Xb,XH];lia,.inr l,rfl,?_⟩;rw[Qe (by rw[hne];decide)];have hmod:=Yo (mixed c (60+(i:Int))) (show(0:Int)<(m:Int) by lia);have hmod0:=Yz (mixed c (60+(i:Int))) (show(m:Int)≠0 by lia);obtain⟨v,hv⟩:∃v:Nat,1+mixed c (60+(i:Int)) % (m:Int)=(v:Int):=⟨(1+mixed c (60+(i:Int)) % (m:Int)).toNat,by lia⟩;rw[hv];refine(aP _ _).mpr ⟨vs++[v],_,_,_,_,by rw[<- take_snoc hl,Xp,Xp];rfl,by rw[Xr];simp[hvl],λk l' v' hk hkv=>?_⟩;rcases zT hkv with z | ⟨rfl,rfl⟩
    .exact hok k l' v' hk z
    .rw[hvl,hl]at hk;cases hk;have hall:∀p∈sh,l∈p->(p.length=2->m<=4)/\(p.length=3->m<=3)/\(p.length=4->m<=2):=λp hp=>hmp p (by rw[Xb,Xs (Xj _)];exact hp);refine⟨by lia,by lia,λp hp hlp=>?_⟩;obtain⟨b1,b2,b3⟩:=hall p hp hlp;exact⟨λz=>by have:=b1 z;lia,λz=>by have:=b2 z;lia,λz=>by have:=b3 z;lia⟩
 .intro U hI;obtain⟨vs,v3,v4,v5,v6,rfl,hvl,hok⟩:=(aP _ _).mp hI;rw[yV,Xb]at hvl;rw[yV,Xb,Xs (Xj _)];walk_at "go";exact q zs vs hz hvl hok
end
def zhp:PF:=λds Q=>∃(zs:Tn)(vs:Tt)(c:Int),ds=[.dK (zs.map Qo) (vs.map λ(v:Nat)=>.int v),.int c]/\zs.Nodup/\vs.length=zs.length/\zs.length<=100/\(∀v∈vs,v<=20)/\∀css:Td,css.length=zs.length->(∀(k:Nat)(v:Nat)(xs:Tp),vs[k]? = some v->css[k]? = some xs->xs.length=v/\xs.Pairwise (· < ·))->Q (.dK (zs.map Qo) (css.map λxs=>.lst (xs.map PV.int))) .new
theorem zll:cW zhp:=λds Q Q' m ⟨a,b,c,e,h1,h2,h3,h4,q⟩=>⟨a,b,c,e,h1,h2,h3,h4,λx y z=>m _ _ (q x y z)⟩
section
variable {P:Wg}{w:Wj}{K:Xa}{mg:Tj}{base:Heap}
theorem Vj:cL ["_law_sizes_here","_law_cell","_law_told","_law_letter","_law_size","_law_number","_law_first"] ["_law_sizes_here","_law_cell"] (bf wF):=fsc
theorem zqN (F:cj K "_law_cells_of" "_law_cells_of" wF f fd) (aM:Y3 K mg g1 lC) (B:Bl mg):aA P w K mg base aN 2 f fd ["_law_sizes_here","_law_cell"] (aX K zhp):=by
 have cu:Z1 P w K mg base 1 g1 lC:=zR aM.fn B;refine dI F Vj (λds Q ⟨a,b,c,e,_⟩=>by rw[e];rfl) (λcdv A outer s H E hr=>?_);have hu:=bG hr;have nd:=Vj.nd;refine⟨_,(aV (bH (i:=2) nd rfl (Qk rfl) vV)
   (aV (Ri rfl Ql (Rh (ak 0)) (oN (n:=2) rfl (iM (cB (i:=3) nd rfl (Qk rfl)) (iM (cB (i:=4) nd rfl (Qk rfl)) oM))) (aV (bH (i:=5) nd rfl (Qs rfl) (cM cu tG hr rfl aM.mg aM.fn.kp aM.bd (aB (ak 1) (aB (iU bA (gb rfl B.len (aB (ak 2) aJ))) aJ))))
   (aV (bH (i:=6) nd rfl (Qs rfl) (sO (jG (mD (mD (ak 5) (cM cu tG hr rfl aM.mg aM.fn.kp aM.bd (aB (ak 1) (aB (iU bA (gb rfl B.len (aB (ak 2) aJ))) aJ)))) (vy bA bA)) (mD bA (vy bA bA))) (vy bA bA)))
   (bF (Gm 2 (hu1 hu) (ak 3) (j6 (N:=["_law_k","_law_number","_law_first"]) (k:=1) (js:=[5,6]) rfl (jX (sup:=bf wF) (XN:=["_law_sizes_here","_law_cell","_law_told","_law_letter","_law_size","_law_number","_law_first"]) rfl rfl (by decide +kernel)) (by decide) (mX (by decide)) (sW rfl B.range (aB (ak 4) aJ)) ⟨λ_ _ _ _ _=>(cB (i:=0) (by show(["_law_k","_law_number","_law_first"]:Tn).Nodup;decide +kernel) rfl (Qk rfl)),λ_ _ _ _ _=>nP,λ_ _ _ _ _=>(iU (ak 2) (mD (ak 0) (iU bA (jG (ak 1) bA))))⟩))))))
   (bF (cX (ak 2))))),λds Q h=>?_⟩
 obtain⟨zs,vs,c,rfl,hzn,hvl,hz1,hv20,q⟩:=h;have hsz:=Wi;walk_at "pu";walk_at "go";obtain⟨Iv,aP⟩:∃Iv:Nat->aC->Prop,∀i U,Iv i U↔∃(css:Td) (v3 v4 v5 v6:Option (PV×Bool)),U=[some (PV.dK (zs.map Qo) (vs.map λ(v:Nat)=>PV.int v),false),some (PV.int c,false),some (PV.dK ((zs.take i).map Qo) (css.map λxs=>PV.lst (xs.map PV.int)),true),v3,v4,v5,v6]/\css.length=i/\∀(k:Nat) (v:Nat) (xs:Tp),vs[k]? = some v->css[k]? = some xs->xs.length=v/\xs.Pairwise (· < ·):=⟨_,λ_ _=>Qy⟩;have hzp:(fO ((zs.map Qo).map dF) (vs.map λ(v:Nat)=>PV.int v)).length=zs.length:=by rw[Bw];simp[hvl]
 refine⟨Iv,(aP _ _).mpr ⟨[],none,none,none,none,rfl,rfl,λk v xs _ h=>by cases h⟩,?_,?_⟩
 .intro i d U hd hI;obtain⟨css,v3,v4,v5,v6,rfl,hcl,hok⟩:=(aP _ _).mp hI;obtain⟨x,y,hx,hy,rfl⟩:=yX hd;rw[Xg,Xg]at hx;rw[Xg]at hy;cases hl:zs[i]? with
  | none=>rw[hl]at hx;cases hx
  | some l=>
   rw[hl]at hx;cases hx;cases hv:vs[i]? with
   | none=>rw[hv]at hy;cases hy
   | some v=>
    rw[hv]at hy;cases hy;have hil:=(Xc.mp hl).1;refine⟨_,rfl,rfl,_,_,rfl,_,_,rfl,rfl,?_⟩;walk_at "go";walk_at "auto";have htl:((zs.take i).map (Qo:Str->Key)).length=i:=by rw[Xb,XH];lia
    rw[htl];refine⟨by lia,?_⟩;have n0:=Ho c (10+(i:Int));have n1:=Rv c (10+(i:Int));generalize mixed c (10+(i:Int))=num at n0 n1;have w0:=Ho c (20+(i:Int));have w1:=Rv c (20+(i:Int));walk_at "go";rw[htl];refine⟨by lia,by lia,.inl ⟨by lia,by lia⟩,⟨by decide,by decide,by decide⟩,.inr ⟨by decide,by decide⟩,⟨by decide,by decide,by decide⟩,.inl ⟨by decide,by decide⟩,by decide,⟨by decide,by decide,by decide⟩,?_⟩;generalize num*mixed c (20+(i:Int))*10 ^ Int.toNat 7 % (2*10 ^ Int.toNat 26)-10 ^ Int.toNat 26=fst;have hst:=Yz num (show(999999:Int)≠0 by decide);have hst2:=Yo num (show(0:Int)<999999 by decide);have hv2:=hv20 v (Xl hv);have hne:eX ((zs.take i).map (Qo:Str->Key)) (.inr l)=false:=by
     rw[Bool.eq_false_iff];intro z;obtain⟨y,hy,e⟩:=List.any_eq_true.mp z;obtain⟨l',hl',rfl⟩:=XF.mp hy;have e':l'=l:=Sum.inr.inj (Qh e);subst e';obtain⟨k,hk,e2⟩:=List.mem_take_iff_getElem.mp hl';have h1:zs[k]? = some l':=by rw[Xd (by lia),e2]
     have:=(List.getElem?_inj (j:=i) (Xc.mp h1).1 hzn).mp (h1.trans hl.symm);lia
    have hrn:iY 0 ((v:Int).toNat)=(XE v).map λ(k:Nat)=>PV.int (k:Int):=by
     unfold iY;rw[Pa];refine Yt λk _=>?_;show PV.int _=PV.int _
     congr 1;lia
    walk_at "go";rw[hrn];refine⟨by lia,by lia,by rw[Xb,Yr];lia,λk out=>out=((XE k).map λ(k:Nat)=>fst+(k:Int)*(1+num % 999999)).map PV.int,rfl,?_,?_⟩
    .rintro k d out hd-rfl;rw[Xg]at hd;cases hk:(XE v)[k]? with
     | none=>rw[hk]at hd;cases hd
     | some k'=>
      rw[hk]at hd;cases hd;obtain⟨hk1,hk2⟩:=Xc.mp hk;rw[Yr]at hk1;rw[List.getElem_range]at hk2;subst hk2;refine⟨by decide,_,rfl,.inl ⟨by lia,by lia⟩,?_⟩;show _=_;rw[List.range_succ,Xp,Xp];rfl
    .rintro out-rfl;have hrl:((XE v).map λ(k:Nat)=>PV.int (k:Int)).length=v:=by rw[Xb,Yr]
     rw[hrl,htl];refine⟨by lia,.inr l,rfl,?_⟩;rw[Qe (by rw[hne];decide)];refine(aP _ _).mpr ⟨css++[(XE v).map λ(k:Nat)=>fst+(k:Int)*(1+num % 999999)],_,_,_,_,by rw[<- take_snoc hl,Xp,Xp];rfl,by rw[Xr];simp[hcl],λk v' xs hk hkx=>?_⟩;rcases zT hkx with z | ⟨rfl,rfl⟩
     .exact hok k v' xs hk z
     .rw[hcl,hv]at hk;cases hk;exact⟨by rw[Xb,Yr],aU.zrX (by lia) v⟩
 .intro U hI;obtain⟨css,v3,v4,v5,v6,rfl,hcl,hok⟩:=(aP _ _).mp hI;rw[hzp]at hcl;rw[hzp,Xs (Xj _)];walk_at "go";exact q css hcl hok
end
structure Na (K:Xa)(mg:Tj)(NA:Addr)(bm:Tq):Prop where
 nx:mg "NoAnswer" = some (.ref NA)
 ex:o7 K NA bm
def zhY (NA:Addr):nY:=λds _ Z=>∃(gs:Td)(W n:Nat),ds=[.lst ((gs.map λr=>(r,W)).map gR),.int (n:Nat)]/\gs.length*W<=n/\Z NA
theorem znM:wj (zhY NA):=λds Q Q' Z Z' m z ⟨a,b,c,e,h2,q⟩=>⟨a,b,c,e,h2,z _ q⟩
def zeC (C NA:Addr):nY:=λds _ Z=>∃sh ps ts rk od cs r,ds=[talP C sh ps r ((XE ps.length).map (cF sh ps ts)),.int (r:Nat),.dK [] [],.int (sN sh ps cs r:Nat)]/\iT sh ps ts rk od cs r/\Z NA
theorem zkx:wj (zeC C NA):=λds Q Q' Z Z' m z ⟨a,b,c,d,e,f,g,h1,h2,q⟩=>⟨a,b,c,d,e,f,g,h1,h2,z _ q⟩
def znN (NA:Addr):nY:=λds _ Z=>∃sh ps ts rk od cs r,ds=[shpP sh,.lst (ts.map cN),zbl ps,.int (sN sh ps cs r:Nat)]/\iT sh ps ts rk od cs r/\Z NA
theorem zqO:wj (znN NA):=λds Q Q' Z Z' m z ⟨a,b,c,d,e,f,g,h1,h2,q⟩=>⟨a,b,c,d,e,f,g,h1,h2,z _ q⟩
def zfz:PF:=λds Q=>∃sh ps ts rk od cs r,ds=[shpP sh,.lst (ts.map cN),zbl ps,.int (sN sh ps cs r:Nat)]/\iT sh ps ts rk od cs r/\Q (.bl true) .aF
theorem zky:cW zfz:=λds Q Q' m ⟨a,b,c,d,e,f,g,h1,h2,q⟩=>⟨a,b,c,d,e,f,g,h1,h2,m _ _ q⟩
section
variable {P:Wg}{w:Wj}{K:Xa}{mg:Tj}{base:Heap}{NA:Addr}{bm:Tq}
theorem zsw (F:cj K "picked" "picked" zF f fd) (G:Na K mg NA bm):aA P w K mg base (jA P w) 1 f fd ["options","n"] (gD K (zhY NA)):=by
 refine Hf F CZ (λds Q Z ⟨a,b,c,e,_⟩=>by rw[e];rfl) (λcdv A outer s H E hr=>?_);have nd:=CZ.nd;refine⟨_,(uO (zxd rfl (dg.passes rfl rfl rfl) (jN (ak 0)) (oN (n:=2) rfl (iM (cB (i:=2) nd rfl (Qk rfl)) (iM (cB (i:=3) nd rfl (Qk rfl)) oM))) (uO (Qi (uw (ak 1) (ak 3)) Ci O8)
   (O9 (G9 (bH (i:=1) nd rfl (Qk rfl) (sO (ak 1) (ak 3)))))))
   (O9 (zsa KC rfl G.nx G.ex rfl))),λds Q Z h=>?_⟩
 obtain⟨gs,W,n,rfl,hn,q⟩:=h;have hsz:=Wi;walk_at "pu";obtain⟨Iv,aP⟩:∃Iv:Nat->aC->Prop,∀k U,Iv k U↔∃(v2 v3:Option (PV×Bool)),U=[some (PV.lst ((gs.map λr=>(r,W)).map gR),false),some (PV.int ((n-k*W:Nat):Int),false),v2,v3]:=⟨_,λ_ _=>Qy⟩;refine⟨Iv,(aP _ _).mpr ⟨none,none,?_⟩,?_,?_⟩
 .rw[Nat.zero_mul,Nat.sub_zero]
 .intro k d U hd hI;obtain⟨v2,v3,rfl⟩:=(aP _ _).mp hI;rw[Xg,Xg]at hd;cases hr:gs[k]? with
  | none=>rw[hr]at hd;cases hd
  | some r=>
   rw[hr]at hd;cases hd;have hk:(k+1)*W<=n:=XC (Nat.mul_le_mul_right W (Xc.mp hr).1) hn;rw[Q9]at hk;refine⟨_,rfl,rfl,_,_,rfl,_,_,rfl,rfl,?_⟩;walk_at "go";refine bT (λe=>Qg e (by lia)) (λe=>?_);walk_at "go";walk_at "go";refine(aP _ _).mpr ⟨some (dM r,false),some (PV.int W,false),?_⟩;have:((n-k*W:Nat):Int)-(W:Int)=((n-(k+1)*W:Nat):Int):=by
    rw[Q9];lia
   rw[<- this]
 .intro U hI;obtain⟨v2,v3,rfl⟩:=(aP _ _).mp hI;walk_at "go";exact q
theorem znO (bK:Dg K C f fd) (T:TF K C) (au:Y1 K mg f1 eZ) (Options:pB K C f2 fd2) (fU:Y7 K mg f4 iz) (B:Bl mg) (G:Na K mg NA bm):aA P w K mg base (jA P w) 3 f fd ["self","i","known","n"] (gD K (zeC C NA)):=by
 have dO:aA P w K mg base aN 2 f2 fd2 ["self","i","known"] (aX K (zaF C)):=Hy Options.fn T au B;have pG:aA P w K mg base (jA P w) 2 f4 iz ["options","n"] (gD K (zhY NA)):=(zsw fU.fn G).mono (by decide);refine Hf bK.fn z8 (λds Q Z ⟨a,b,c,d,e,f,g,h,_⟩=>by rw[h];rfl) (λcdv A outer s H E hr=>?_);have nd:=z8.nd;refine⟨_,(uO (zxe (i:=4) nd rfl (Qk rfl) (zuU pG znM hr rfl fU.mg fU.fn.kp fU.bd (dg.pass rfl) (aB (pW T.c Options.me dO Hw hr Options.bd (ak 0) (aB (ak 1) (aB (ak 2) aJ))) (aB (ak 3) aJ)))) Ci),λds Q Z h=>?_⟩;obtain⟨sh,ps,ts,rk,od,cs,r,rfl,h,q⟩:=h;have hrl:r<ps.length:=(Xc.mp h.ld.root).1;have V:=h.Ij;have hop:=CW V.hg V.gr hrl (V.fan r hrl) (ls:=[]) (rr:=[]) (by rw[rE h.ld.root];exact λl hl=>(nomatch hl));walk_at "pu";have hgl:=CT (sh:=sh) (ps:=ps) (cs:=cs) r (dW [] []);exact⟨_,⟨_,rfl⟩,by decide,sh,ps,r,_,rfl,r,rfl,[],rfl,[],rfl,V.tt.tO V.fl,hrl,rfl,by rw[rE h.ld.root];exact λl hl=>(nomatch hl),_,wN sh ps cs r,by rw[hop],_,rfl,Nat.le_of_eq (by rw[hgl,<- wY V.tt.jO (V.low r hrl)]),q⟩
theorem zvm {C f f0 f1 f2 f3 f4 f5 f6 f7 f8 f9 g1:Addr}{fd mJ eZ fd2 gQ iz kE kI kJ mH nZ lC:Wk}(F:cj K "nth" "nth" lV f fd) (T:TF K C) (bR:CP K mg C f0 mJ) (au:Y1 K mg f1 eZ) (Options:pB K C f2 fd2) (bM:rC K C f3 gQ)
  (aK:wU K C f4 iz) (dR:zY K C f5 kE) (aH:Y2 K mg f6 kI) (cA:Y4 K mg f7 kJ) (Walk:Y5 K mg f8 mH) (bK:Dg K C f9 nZ) (fU:Y7 K mg g1 lC) (B:Bl mg) (G:Na K mg NA bm):aA P w K mg base (jA P w) 10 f fd ["shape","rows","parents","n"] (gD K (znN NA)):=by
 have fu:aA P w K mg base aN 8 f0 mJ ["self","shape","rows","parents"] (uG K C zbK):=(CN bR.fn T au Options bM aK dR aH cA Walk B).mono (by decide);have fV:aA P w K mg base (jA P w) 9 f9 nZ ["self","i","known","n"] (gD K (zeC C NA)):=(znO bK T au Options fU B G).mono (by decide);refine Hf F Di (λds Q Z ⟨a,b,c,d,e,f,g,h,_⟩=>by rw[h];rfl) (λcdv A outer s H E hr=>?_);have nd:=Di.nd;refine⟨_,(uO (Qi (uw (ak 3) bA) Ci O8)
   (uO (G9 (bH (i:=4) nd rfl (Qk rfl) (Bu bR.make fu CK hr rfl bR.mg bR.bd (aB (ak 0) (aB (ak 1) (aB (ak 2) aJ))))))
   (uO (G9 (bH (i:=5) nd rfl (Qk rfl) vV))
   (uO (zuY (zpP T.c bK.me fV zkx hr bK.bd (dg.pass rfl) (ak 4) (aB (lN T.c T.root (ak 4)) (aB (ak 5) (aB (ak 3) aJ))))) Ci)))),λds Q Z h=>?_⟩
 obtain⟨sh,ps,ts,rk,od,cs,r,rfl,h,q⟩:=h;have hsz:=Wi;walk_at "pu";refine bT (λe=>Qg e (by lia)) (λ_=>?_);walk_at "go";walk_at "go";refine⟨sh,rfl,ps,ts,rfl,rfl,rk,h.tt,r,h.ld,h.low,h.pre,?_⟩;walk_at "go";walk_at "go";exact⟨_,⟨_,rfl⟩,by decide,_,_,rfl,_,rfl,sh,ps,ts,rk,od,cs,r,rfl,rfl,rfl,h,q⟩
theorem Vk:cL ["_law_shape","_law_rows","_law_parents","_law_n","_law_refused_here"] ["_law_shape","_law_rows","_law_parents","_law_n"] (bf zP):=fsc
theorem znP (F:cj K "_law_refused" "_law_refused" zP f fd) (Nth:Fx K mg "nth" lV ["shape","rows","parents","n"] f0 mJ) (GNth:aA P w K mg base (jA P w) 10 f0 mJ ["shape","rows","parents","n"] (gD K (znN NA))) (G:Na K mg NA bm):aA P w K mg base aN 11 f fd ["_law_shape","_law_rows","_law_parents","_law_n"] (aX K zfz):=by
 refine dI F Vk (λds Q ⟨a,b,c,d,e,f,g,h,_⟩=>by rw[h];rfl) (λcdv A outer s H E hr=>?_);have nd:=Vk.nd;refine⟨_,(aV (bH (i:=4) nd rfl (Qk rfl) sI)
   (aV (zse (i:=4) GNth zqO rfl rfl rfl hr rfl Nth.mg Nth.fn.kp Nth.bd (aB (ak 0) (aB (ak 1) (aB (ak 2) (aB (ak 3) aJ)))) nd rfl rfl rfl G.nx G.ex)
   (bF (cX (ak 4))))),λds Q h=>?_⟩
 obtain⟨sh,ps,ts,rk,od,cs,r,rfl,h,q⟩:=h;walk_at "pu";walk_at "go";refine⟨sh,rfl,ps,ts,rfl,rfl,rk,od,cs,r,rfl,h,?_⟩;walk_at "go";exact q
end
theorem Vl {R:Str->Tp->Prop}:∀(zs:Tn)(css:Td),zs.Nodup->css.length=zs.length->(∀(k:Nat)(l:Str)(xs:Tp),zs[k]? = some l->css[k]? = some xs->R l xs)->∃cs:Str->Tp,zs.map cs=css/\(∀l∈zs,R l (cs l))/\∀l,l∉zs->cs l=[0]
 | [],[],_,_,_=>⟨λ_=>[0],rfl,λ_ h=>(nomatch h),λ_ _=>rfl⟩
 | a::zs,xs::css,nd,hl,h=>by
  have nd':=XO.mp nd;obtain⟨cs,e,r,o⟩:=Vl zs css nd'.2 (Nat.succ.inj hl) λk l ys h1 h2=>h (k+1) l ys h1 h2;have hne:∀l∈zs,(if l=a then xs else cs l)=cs l:=λl hl=>Qe λ(z:l=a)=>nd'.1 (z▸hl)
  refine⟨λl=>if l=a then xs else cs l,?_,λl hl=>?_,λl hl=>?_⟩
  .rw[Xq,Qf rfl,<- e];exact congrArg _ (Yt hne)
  .show R l (if l=a then xs else cs l)
   rcases Xn.mp hl with rfl | hl
   .rw[Qf rfl];exact h 0 _ xs rfl rfl
   .rw[hne l hl];exact r l hl
  .show(if l=a then xs else cs l)=[0]
   rw[Qe λ(z:l=a)=>hl (z▸Xh ..)];exact o l λz=>hl (Xf _ z)
theorem zxq {f:Str->Nat}(hp:p∈sh)(h4:p≠[]/\p.length<=4)(h:∀l∈p,z9 sh l (f l)):aW.bw p f<=27:=by
 have q:=λl hl=>(h l hl).two p hp hl;have q1:=λl hl=>(h l hl).le
 match p,h4,q,q1 with
 | [],h4,_,_=>exact Qg rfl h4.1
 | [a],_,_,q1=>
  have:=q1 a (by simp);rw[aW.dG];show f a*1<=27;lia
 | [a,b],_,q,_=>
  have h1:=(q a (by simp)).1 rfl;have h2:=(q b (by simp)).1 rfl;have:=QJ h1 h2;rw[aW.dG,aW.dG];show f a*(f b*1)<=27;rw[Nat.mul_one];lia
 | [a,b,c],_,q,_=>
  have h1:=(q a (by simp)).2.1 rfl;have h2:=(q b (by simp)).2.1 rfl;have h3:=(q c (by simp)).2.1 rfl;have:=QJ h1 (QJ h2 h3);rw[aW.dG,aW.dG,aW.dG];show f a*(f b*(f c*1))<=27;rw[Nat.mul_one];lia
 | [a,b,c,d],_,q,_=>
  have h1:=(q a (by simp)).2.2 rfl;have h2:=(q b (by simp)).2.2 rfl;have h3:=(q c (by simp)).2.2 rfl;have h4:=(q d (by simp)).2.2 rfl;have:=QJ h1 (QJ h2 (QJ h3 h4));rw[aW.dG,aW.dG,aW.dG,aW.dG];show f a*(f b*(f c*(f d*1)))<=27;rw[Nat.mul_one];lia
 | _::_::_::_::_::_,h4,_,_=>simp at h4
theorem zxr {vs:Tt}{css:Td}(G:Good sh ps)(hz:Names sh zs)(hv:vs.length=zs.length)(ok:∀(k:Nat)(l:Str)(v:Nat),zs[k]? = some l->vs[k]? = some v->z9 sh l v)(hc:css.length=zs.length)(h:∀(k:Nat)(v:Nat)(xs:Tp),vs[k]? = some v->css[k]? = some xs->xs.length=v/\xs.Pairwise (· < ·)) :
  ∃cs,PV.dK (zs.map Qo) (css.map λxs=>.lst (xs.map PV.int))=csP zs cs/\fQ cs/\∃rk od r,iT sh ps (sh.map (aU.cD cs)) rk od cs r:=by
 obtain⟨cs,e,r,o⟩:=Vl (R:=λl xs=>z9 sh l xs.length/\xs.Pairwise (· < ·)) zs css hz.nd hc λk l xs h1 h2=>by
  have hk:=(Xc.mp h1).1;have e:vs[k]? = some vs[k]:=Xd (by lia);obtain⟨rfl',h3⟩:=h k _ xs e h2;exact⟨rfl'▸ok k l _ h1 e,h3⟩
 have C:fQ cs:=by
  refine⟨λl=>?_,λl=>?_,λl=>?_⟩<;>by_cases hl:l∈zs
  .exact(r l hl).2
  .rw[o l hl];exact Ob _ _
  .exact(r l hl).1.pos
  .rw[o l hl];exact Nat.one_pos
  .exact(r l hl).1.le
  .rw[o l hl];exact(by decide:1<=20)
 refine⟨cs,?_,C,zxo G C λp hp=>zxq hp (G.pats.1 p hp) λl hl=>(r l ((hz.mem l).mpr ⟨p,hp,hl⟩)).1⟩;unfold csP;rw[<- e,Yb];rfl
theorem Vm (n:Nat)(l:Tp):(l.map PV.int).all (PL.plain n)=true:=by
 rw[XX];intro d hd;obtain⟨x,_,rfl⟩:=XF.mp hd;cases n<;>rfl
def zia:PF:=λds Q=>∃(sh:Te)(ps:Tf)(c:Int),ds=[shpP sh,zbl ps,.int c]/\Good sh ps/\Q (.bl true) .aF
theorem znQ:cW zia:=λds Q Q' m ⟨a,b,c,e,h1,q⟩=>⟨a,b,c,e,h1,m _ _ q⟩
section
variable {P:Wg}{w:Wj}{K:Xa}{mg:Tj}{base:Heap}
theorem Vn:cL ["_law_shape","_law_parents","_law_cell","_law_cells","_law_rows","_law_many","_law_letter","_law_some","_law_found","_law_n","_law_due_here","_law_answer","_law_told"] ["_law_shape","_law_parents","_law_cell"] (bf wI):=fsc
theorem zsx {f f1 f2 f3 f4 f5 f6 f7 f8 f9:Addr}{fd eZ fd2 gQ iz kE kI kJ mH nZ:Wk}(F:cj K "_law_right" "_law_right" wI f fd) (lX:Fx K mg "_law_cells_of" wF ["_law_sizes_here","_law_cell"] f1 eZ) (rG:aA P w K mg base aN 11 f1 eZ ["_law_sizes_here","_law_cell"] (aX K zhp)) (pJ:Fx K mg "_law_sizes" zO ["_law_shape","_law_cell"] f2 fd2) (GSizes:aA P w K mg base aN 11 f2 fd2 ["_law_shape","_law_cell"] (aX K zkw))
  (Grid:Fx K mg "_law_grid" wG ["_law_pattern","_law_cells"] f3 gQ) (GGrid:aA P w K mg base aN 11 f3 gQ ["_law_pattern","_law_cells"] (aX K zqA)) (Count:Fx K mg "count" zG ["shape","rows","parents"] f4 iz) (GCount:aA P w K mg base aN 11 f4 iz ["shape","rows","parents"] (aX K zbT)) (jo:Fx K mg "_law_whole" zJ ["_law_found"] f5 kE) (pK:aA P w K mg base aN 11 f5 kE ["_law_found"] (aX K zbS))
  (jD:Fx K mg "_law_refused" zP ["_law_shape","_law_rows","_law_parents","_law_n"] f6 kI) (pL:aA P w K mg base aN 11 f6 kI ["_law_shape","_law_rows","_law_parents","_law_n"] (aX K zfz)) (Due:Fx K mg "_law_due" m9 ["_law_shape","_law_parents","_law_cells","_law_n"] f7 kJ) (GDue:aA P w K mg base aN 11 f7 kJ ["_law_shape","_law_parents","_law_cells","_law_n"] (aX K fDue)) (Nth:Fx K mg "nth" lV ["shape","rows","parents","n"] f8 mH) (GNth:aA P w K mg base aN 11 f8 mH ["shape","rows","parents","n"] (aX K fNth)) (Place:Fx K mg "place" zH ["shape","rows","parents","answer"] f9 nZ) (GPlace:aA P w K mg base aN 11 f9 nZ ["shape","rows","parents","answer"] (aX K zho)) (B:Bl mg):aA P w K mg base aN 12 f fd ["_law_shape","_law_parents","_law_cell"] (aX K zia):=by
 refine dI F Vn (λds Q ⟨a,b,c,e,_⟩=>by rw[e];rfl) (λcdv A outer s H E hr=>?_);have hu:=bG hr;have nd:=Vn.nd;refine⟨_,(aV (bH (i:=3) nd rfl (Qs rfl) (cM rG zll hr rfl lX.mg lX.fn.kp lX.bd (aB (cM GSizes znL hr rfl pJ.mg pJ.fn.kp pJ.bd (aB (ak 0) (aB (ak 2) aJ))) (aB (ak 2) aJ))))
   (aV (sS 3 (Lk (i:=4) (N:=["_law_pattern","_law_cells"]) (k:=1) (js:=[3]) rfl (jX (sup:=bf wI) (XN:=["_law_shape","_law_parents","_law_cell","_law_cells","_law_rows","_law_many","_law_letter","_law_some","_law_found","_law_n","_law_due_here","_law_answer","_law_told"]) rfl rfl (by decide +kernel)) (by decide) (mX (by decide)) (jN (ak 0)) ⟨λ_ _ _ _ _=>(cB (i:=0) (by show(["_law_pattern","_law_cells"]:Tn).Nodup;decide +kernel) rfl (Qk rfl)),λ_ _ _ _ _=>nP,λ_ _ _ _ _=>(cM GGrid zqB hr rfl Grid.mg Grid.fn.kp Grid.bd (aB (ak 0) (aB (ak 1) aJ)))⟩ nd rfl rfl))
   (aV (sS 4 (bH (i:=5) nd rfl (Qk rfl) bA))
   (aV (Ri rfl Ql (Rh (ak 3)) (oN (n:=2) rfl (iM (cB (i:=6) nd rfl (Qk rfl)) (iM (cB (i:=7) nd rfl (Qk rfl)) oM))) (bF (bH (i:=5) nd rfl (Qk rfl) (mD (ak 5) (gb rfl B.len (aB (ak 7) aJ))))))
   (aV (bH (i:=8) nd rfl (Qk rfl) (cM GCount znF hr rfl Count.mg Count.fn.kp Count.bd (aB (ak 0) (aB (ak 4) (aB (ak 1) aJ)))))
   (aV (jM (lu.t (yG (vz (ug (cM pK RN hr rfl jo.mg jo.fn.kp jo.bd (aB (ak 8) aJ)))) (yG (Bg hu (ak 8) (ak 5)) (Ba (vz (ug (cM pL zky hr rfl jD.mg jD.fn.kp jD.bd (aB (ak 0) (aB (ak 4) (aB (ak 1) (aB (ak 5) aJ))))))))))) (bF (cX sI)) jL)
   (aV (j4 rfl Ql (jN (jk (aB bA (aB (sO (ak 5) bA) (aB (jG (ak 2) (ak 5)) aJ))))) (cB (i:=9) nd rfl (Qk rfl)) (aV (bH (i:=10) nd rfl (Qk rfl) (cM GDue zsu hr rfl Due.mg Due.fn.kp Due.bd (aB (ak 0) (aB (ak 1) (aB (ak 3) (aB (ak 9) aJ))))))
   (aV (bH (i:=11) nd rfl (Qk rfl) (cM GNth zsq hr rfl Nth.mg Nth.fn.kp Nth.bd (aB (ak 0) (aB (ak 4) (aB (ak 1) (aB (ak 9) aJ))))))
   (aV (jM (lu.t (yG (vz (ug (Gg (K:=K) rfl rfl B.isi (aB (ak 11) (aB (Ff rfl B.tuple Ly) aJ))))) (Ba (Bg hu (ak 11) (ak 10))))) (bF (cX sI)) jL)
   (aV (bH (i:=12) nd rfl (Qk rfl) (cM GPlace znJ hr rfl Place.mg Place.fn.kp Place.bd (aB (ak 0) (aB (ak 4) (aB (ak 1) (aB (ak 10) aJ))))))
   (bF (jM (lu.t (yG (vz (ug (cM pK RN hr rfl jo.mg jo.fn.kp jo.bd (aB (ak 12) aJ)))) (Ba (Bg hu (ak 12) (ak 9))))) (bF (cX sI)) jL)))))))
   (bF (cX sI))))))))),λds Q h=>?_⟩
 obtain⟨sh,ps,c,rfl,G,q⟩:=h;have hsz:=Wi;walk_at "pu";obtain⟨hl,h1,h6,rk0,r0,_,_⟩:=G.leads;have hpat:=G.pats.1;have hfl:=uZ λp hp=>(hpat p hp).2;refine⟨sh,rfl,by lia,by lia,hpat,λzs vs hz hv ok=>⟨zs,rfl,vs,rfl,hz.nd,hv,?_,λv hv'=>?_,λcss hc h=>?_⟩⟩
 .have:=Qv hz.nd λl hl=>by
   obtain⟨p,hp,hx⟩:=(hz.mem l).mp hl;exact Yk.mpr ⟨p,hp,hx⟩
  lia
 .obtain⟨k,hk,rfl⟩:=YF.mp hv';exact(ok k (zs[k]'(by lia)) _ (Xd _) (Xd hk)).le
 obtain⟨cs,e,C,rk,od,r,R⟩:=zxr G hz hv ok hc h;rw[e];walk_at "go";refine⟨by rw[Xb];lia,λi out=>out=((sh.take i).map (aU.cD cs)).map cN,rfl,?_,?_⟩
 .rintro i d out hd-rfl;rw[Xg]at hd;cases hx:sh[i]? with
  | none=>rw[hx]at hd;cases hd
  | some p=>
   rw[hx]at hd;cases hd;have hp:=Xl hx;refine⟨p,rfl,zs,rfl,cs,rfl,λl hl=>(hz.mem l).mpr ⟨p,hp,hl⟩,(hpat p hp).2,C.le,?_⟩;show _=_;rw[<- take_snoc hx,Xp,Xp];rfl
 rintro out-rfl;rw[Xb,Xs (Xj _)];walk_at "go";walk_at "go";generalize hK:b8 (pSeq (pSet 8 _) _) _=KK;obtain⟨Iv,aP⟩:∃Iv:Nat->aC->Prop,∀i U,Iv i U↔∃v6 v7:Option (PV×Bool),U=[some (PV.lst (sh.map ltsP),false),some (PV.lst (ps.map aZ),false),some (PV.int c,false),some (csP zs cs,false),some (PV.lst ((sh.map (aU.cD cs)).map cN),false),some (PV.int ((aW.bw (zs.take i) (g8 cs):Nat):Int),false),v6,v7,none,none,none,none,none]:=⟨_,λ_ _=>Qy⟩;have hzf:∀x∈zs,x∈sh.flatten:=λx hx=>Yk.mpr ((hz.mem x).mp hx);refine⟨Iv,(aP _ _).mpr ⟨none,none,rfl⟩,?_,?_⟩
 .intro i d U hd hI;obtain⟨v6,v7,rfl⟩:=(aP _ _).mp hI;obtain⟨x,y,hx,hy,rfl⟩:=yX hd;rw[Xg]at hy;cases hl:zs[i]? with
  | none=>rw[hl]at hy;cases hy
  | some l=>
   rw[hl]at hy;cases hy;refine⟨_,rfl,rfl,_,_,rfl,_,_,rfl,rfl,?_⟩;walk_at "go";have e1:aW.bw (zs.take (i+1)) (g8 cs)=aW.bw (zs.take i) (g8 cs)*(cs l).length:=by
    rw[<- take_snoc hl,HD]
   have h20:=C.le l;have hfw:=Io G C (l:=zs.take i) (hz.nd.sublist (List.take_sublist _ _)) λx hx=>hzf x (Pz hx);rw[Xb];refine⟨.inl ⟨by lia,by lia⟩,(aP _ _).mpr ⟨some (x,false),some (PV.lst ((cs l).map PV.int),false),?_⟩⟩;rw[e1];rfl
 .intro U hI;obtain⟨v6,v7,rfl⟩:=(aP _ _).mp hI;subst hK;have nR:(fO (Yg dF (Yg Qo zs)) (Yg (λl=>PV.lst (Yg PV.int (cs l))) zs)).length=zs.length:=by
   rw[Bw,Xb,Xb,Xb,Nat.min_self]
  rw[nR,Xs (Xj _),R.many hz];walk_at "go";refine⟨sh,rfl,ps,_,rfl,rfl,rk,R.tt,r,R.ld,R.low,R.pre,?_⟩;rw[R.cnt];walk_at "go";refine⟨sh,rfl,ps,_,rfl,rfl,rk,od,cs,r,rfl,R,?_⟩;walk_at "go";walk_at "go";have hpos:=Uh (sh:=sh) (ps:=ps) C r;generalize hN:sN sh ps cs r=N at hpos;have hpz:(0:Int)<N:=by lia
  refine⟨hpz,by lia,?_⟩;obtain⟨Jv,hJv⟩:∃Jv:Nat->aC->Prop,∀i U,Jv i U↔∃v9 v10 v11 v12:Option (PV×Bool),U=[some (PV.lst (sh.map ltsP),false),some (PV.lst (ps.map aZ),false),some (PV.int c,false),some (csP zs cs,false),some (PV.lst ((sh.map (aU.cD cs)).map cN),false),some (PV.int (N:Nat),false),v6,v7,some (PV.int (N:Nat),false),v9,v10,v11,v12]:=⟨_,λ_ _=>Qy⟩;refine⟨Jv,(hJv _ _).mpr ⟨none,none,none,none,rfl⟩,?_,?_⟩
  .intro i d U hd hI;obtain⟨v9,v10,v11,v12,rfl⟩:=(hJv _ _).mp hI;obtain⟨n,rfl,hn⟩:∃n:Nat,d=.int n/\n<N:=by
    have hm:=Xl hd;rcases Xn.mp hm with rfl | hm
    .exact⟨0,rfl,hpos⟩
    rcases Xn.mp hm with rfl | hm
    .exact⟨N-1,congrArg PV.int (by lia),by lia⟩
    .have m1:=Yz c (Int.ne_of_gt hpz);have m2:=Yo c hpz;exact⟨(c % N).toNat,by rw[Xv.mp hm];exact congrArg PV.int (by lia),by lia⟩
   rw[<- hN]at hn;walk_at "go";refine⟨sh,rfl,ps,rfl,_,rk,od,cs,r,n,zs,rfl,rfl,rfl,R,hn,hz,?_⟩;walk_at "go";refine⟨sh,rfl,ps,_,rfl,rfl,rk,od,cs,r,n,rfl,R,hn,λzs' hz'=>?_⟩;rw[hz'.uniq hz];walk_at "go";refine⟨true,Mi,?_⟩;rw[Qe (by decide)];refine⟨Vm _ _,Vm _ _,?_⟩;walk_at "go";walk_at "go";refine⟨sh,rfl,ps,_,rfl,rfl,rk,od,cs,r,n,zs,rfl,R,hn,hz,?_⟩;walk_at "go";exact(hJv _ _).mpr ⟨_,_,_,_,rfl⟩
  .intro U hI;obtain⟨v9,v10,v11,v12,rfl⟩:=(hJv _ _).mp hI;walk_at "go";exact q
end
def fLaw:PF:=λds Q=>∃ns:Tp,ds=[.lst (ns.map PV.int)]/\ns.length<=63/\Q (.bl true) .aF
theorem zsy (xs:List PV)(k:Nat):eV xs none (some (k:Int))=xs.take k:=by
 unfold eV;have h1:HT.ig xs.length 0 none=0:=rfl;rw[h1,List.drop_zero,Nat.sub_zero];by_cases h:k<=xs.length
 .have:HT.ig xs.length xs.length (some (k:Int))=k:=by rw[HT.vg];lia
  rw[this]
 .have:HT.ig xs.length xs.length (some (k:Int))=xs.length:=by rw[HT.vg];lia
  rw[this,List.take_length,Xs (by lia)]
theorem zsz:cW fLaw:=λds Q Q' m ⟨ns,e,h,q⟩=>⟨ns,e,h,m _ _ q⟩
section
variable {P:Wg}{w:Wj}{K:Xa}{mg:Tj}{base:Heap}
theorem Vo:cL ["_law_script","_law_cells","_law_at","_law_many","_law_shape","_law_parents"] ["_law_script"] (bf sLaw):=fsc
theorem zxt {f f1 f2 f3 f4 f5 f6 f7:Addr}{fd eZ fd2 gQ iz kE kI kJ:Wk}(F:cj K "law" "law" sLaw f fd) (aM:Y3 K mg f1 eZ) (Picked:Fx K mg "_law_picked" wC ["_law_cell","_law_some","_law_many"] f2 fd2) (fX:Fx K mg "_law_alphabet" zK ["_law_cell"] f3 gQ) (Tree:Fx K mg "_law_tree" zL ["_law_cells","_law_letters_here"] f4 iz) (jE:Fx K mg "_law_turned" zM ["_law_shape","_law_parents"] f5 kE) (fY:Fx K mg "_law_filled_up" zN ["_law_cells","_law_at","_law_many"] f6 kI)
  (Right:Fx K mg "_law_right" wI ["_law_shape","_law_parents","_law_cell"] f7 kJ) (GRight:aA P w K mg base aN 12 f7 kJ ["_law_shape","_law_parents","_law_cell"] (aX K zia)) (B:Bl mg):aA P w K mg base aN 13 f fd ["_law_script"] (aX K fLaw):=by
 have nA:aA P w K mg base aN 12 f3 gQ ["_law_cell"] (aX K zat):=(zkW fX.fn aM B).mono (by decide);have GTree:aA P w K mg base aN 12 f4 iz ["_law_cells","_law_letters_here"] (aX K zcQ):=(zve Tree.fn aM Picked B).mono (by decide);have rH:aA P w K mg base aN 12 f5 kE ["_law_shape","_law_parents"] (aX K zaR):=(zqb jE.fn B).mono (by decide);have nC:aA P w K mg base aN 12 f6 kI ["_law_cells","_law_at","_law_many"] (aX K zax):=(zkX fY.fn B).mono (by decide);refine dI F Vo (λds Q ⟨a,e,_⟩=>by rw[e];rfl) (λcdv A outer s H E hr=>?_);have hu:=bG hr;have nd:=Vo.nd;refine⟨_,(aV (bH (i:=1) nd rfl (Qk rfl) (vL (vK (ak 0) yO (qG bA)) (jk (aB bA aJ))))
   (aV (bH (i:=2) nd rfl (Qk rfl) bA)
   (aV (sS 1 (Bf Ql (uw (ak 2) (gb rfl B.len (aB (ak 1) aJ))) (aV (bH (i:=3) nd rfl (Qk rfl) (iU bA (jG (di (ak 1) (ak 2)) bA)))
   (aV (Lf (cM GTree zqa hr rfl Tree.mg Tree.fn.kp Tree.bd (aB (cM nC ziS hr rfl fY.mg fY.fn.kp fY.bd (aB (ak 1) (aB (iU (ak 2) bA) (aB (ak 3) aJ)))) (aB (cM nA ziR hr rfl fX.mg fX.fn.kp fX.bd (aB (di (ak 1) (ak 2)) aJ)) aJ))) (oN (n:=2) rfl (iM (cB (i:=4) nd rfl (Qk rfl)) (iM (cB (i:=5) nd rfl (Qk rfl)) oM))))
   (aV (jM (ur hu (jG (vq (di (ak 1) (ak 2)) bA) bA) bA) (bF (Lf (cM rH zkY hr rfl jE.mg jE.fn.kp jE.bd (aB (ak 4) (aB (ak 5) aJ))) (oN (n:=2) rfl (iM (cB (i:=4) nd rfl (Qk rfl)) (iM (cB (i:=5) nd rfl (Qk rfl)) oM))))) jL)
   (aV (jM (vz (ug (cM GRight znQ hr rfl Right.mg Right.fn.kp Right.bd (aB (ak 4) (aB (ak 5) (aB (vq (di (ak 1) (ak 2)) bA) aJ)))))) (bF (cX sI)) jL)
   (bF (bH (i:=2) nd rfl (Qk rfl) (iU (iU (ak 2) bA) (ak 3))))))))))
   (bF (cX sI))))),λds Q h=>?_⟩
 obtain⟨ns,rfl,hns,q⟩:=h;have hsz:=Wi;walk_at "pu";obtain⟨cs,hcs,hcl⟩:∃cs:Tp,eV (ns.map PV.int) none (some 40)=cs.map PV.int/\cs.length<=63:=by
  have e:eV (ns.map PV.int) none (some 40)=((ns.map PV.int).take 40):=zsy _ 40;exact⟨ns.take 40,by rw[e,List.map_take],by rw[XH];lia⟩
 rw[hcs,show cs.map PV.int++[PV.int 0]=(cs++[0]).map PV.int by rw[Xp];rfl];have hdl:(cs++[(0:Int)]).length<=64:=by rw[Xr,QV];lia
 generalize cs++[(0:Int)]=ds at hdl;refine⟨by lia,by rw[Xb];lia,?_⟩;walk_at "go";walk_at "auto";obtain⟨Iv,aP⟩:∃Iv:Nat->aC->Prop,∀m U,Iv m U↔∃(a:Nat) (v3 v4 v5:Option (PV×Bool)),U=[some (PV.lst (ns.map PV.int),false),some (PV.lst (ds.map PV.int),false),some (PV.int a,false),v3,v4,v5]/\m=ds.length-a:=⟨_,λ_ _=>Qy⟩;refine⟨Iv,⟨_,(aP _ _).mpr ⟨0,_,_,_,rfl,rfl⟩⟩,?_⟩;intro m U hI;obtain⟨a,v3,v4,v5,rfl,rfl⟩:=(aP _ _).mp hI;walk_at "go";rw[Xb];refine bT (λhlt=>?_) (λhge=>?_)
 .have hal:a<ds.length:=by lia
  walk_at "go";obtain⟨c,hat⟩:∃c:Int,gM (ds.map PV.int) a=some (.int c):=⟨_,pA hal rfl⟩;refine⟨_,hat,_,rfl,by decide,?_⟩;have n1:=Yz c (show(6:Int)≠0 by decide);have n2:=Yo c (show(0:Int)<6 by decide);obtain⟨n,hn⟩:∃n:Nat,c % 6=n:=⟨(c % 6).toNat,by lia⟩;rw[hn]at n1 n2 ⊢;walk_at "go";have h21:wK c<21:=by
   have m1:=Yz (mixed c 1) (show(21:Int)≠0 by decide);have m2:=Yo (mixed c 1) (show(0:Int)<21 by decide);unfold wK;lia
  refine⟨⟨ds,rfl⟩,by lia,by lia,by lia,by lia,λzs nR=>⟨_,hat,c,rfl,zs,rfl,_,rfl,by lia,Hq _,zxh _ h21,λs0 p0 T=>?_⟩⟩;have hzn:zs.length=n+1:=by lia
  rw[hzn]at T;have hs0:s0.length=n+1:=T.pats.1;have hp0:p0.length=n+1:=T.gG;generalize hK:pSeq (pIf (zcJ _) _ _) _=KK;have fin:∀(sh:Te) (ps:Tf),Good sh ps->b8 KK { nx:=λU2=>∃m',m'<ds.length-a/\Iv m' U2,rt:=Q,bk:=b8 (pRet (pC (PV.bl true))) { nx:=λx=>Q PV.non Kd.aF,rt:=Q,bk:=λx=>False,ct:=λx=>False },ct:=λU2=>∃m',m'<ds.length-a/\Iv m' U2 }
    [some (PV.lst (ns.map PV.int),false),some (PV.lst (ds.map PV.int),false),some (PV.int a,false),some (PV.int (1+(n:Int)),false),some (PV.lst (sh.map ltsP),false),some (PV.lst (ps.map aZ),false)]:=by
   intro sh ps G;subst hK;walk_at "go";refine⟨_,hat,c,rfl,⟨by decide,by decide⟩,sh,rfl,ps,rfl,G,?_⟩;walk_at "go";walk_at "go";exact⟨ds.length-(a+1+(1+n)),by lia,(aP _ _).mpr ⟨a+1+(1+n),_,_,_,rfl,rfl⟩⟩
  clear hK;walk_at "go";refine⟨_,hat,c,rfl,⟨by decide,by decide⟩,by decide,bT (λe=>?_) (λe=>?_)⟩
  .walk_at "go";refine⟨s0,rfl,p0,rfl,by lia,by lia,by lia,λp hp=>?_,?_⟩
   .obtain⟨k,hk,hk2⟩:=YF.mp hp;have:=T.bO k p (by rw[Xd hk,hk2]);lia
   .rw[hs0];exact fin s0.reverse (kO (n+1) p0) ⟨_,_,s0,p0,T,by lia,by lia,Hq _,.inr ⟨rfl,rfl⟩⟩
  .walk_at "go";exact fin s0 p0 ⟨_,_,s0,p0,T,by lia,by lia,Hq _,.inl ⟨rfl,rfl⟩⟩
 .walk_at "go";exact q
end
theorem zsA:∀ns:Tp,ns.length<=63->fLaw [.lst (ns.map PV.int)] λd k=>d=.bl true:=λns h=>⟨ns,rfl,h,rfl⟩
abbrev cZ (K:Xa)(x:Str):Addr:=HK.ref? (Pn K Wq x)
def see (K:Xa):List HK.Seen×List (Option (Tv))×List Bool:=(((["cells_of","letters_of","children_of","walk","bond_of","cells_at","picked","count","nth","is_answer","place","_law_whole","_law_mixed","_law_picked","_law_alphabet","_law_tree","_law_turned","_law_letters","_law_beneath","_law_walk","_law_filled_up","_law_sizes","_law_cells_of","_law_grid","_law_order","_law_due","_law_refused","_law_right","law"]:Tn).map λx=>HK.uR K (Pn K Wq x))++((["__init__","fan_of","options","ways","ways_beneath","choose","place_of"]:Tn).map λx=>HK.uR K (XU K (.ref (cZ K "Tally")) x)),
   ((["range","len","list","tuple","sorted","set","isinstance","str","int","bool","dict","enumerate","zip","min","max","sum","all","any","reversed","abs","ord"]:Tn).map (Pn K Wq))++[XU K (.ref (cZ K "Tally")) "__setattr__",XU K (.ref (cZ K "Tally")) "shape",XU K (.ref (cZ K "Tally")) "root",XU K (.ref (cZ K "Tally")) "children",XU K (.ref (cZ K "Tally")) "bonds",XU K (.ref (cZ K "Tally")) "fans"],
   ((["Tally","NoAnswer","JoinError"]:Tn).map λx=>HK.isRef (Pn K Wq x))++[PySem.W.makesIn K (cZ K "Tally"),YM K (.ref (cZ K "Tally")),PJ K (cZ K "Tally") Str.empty,Oq K (cZ K "Tally"),PySem.W.plainOver K (cZ K "Tally"),PySem.W.excIn K (cZ K "NoAnswer") uL "ValueError.__new__",mroIn K (cZ K "NoAnswer") (.ref (cZ K "JoinError")::uL)])
abbrev zzM (n q:Str)(s:Wn):HK.Seen:=HK.wz n q (mq s) (ji s) (bf s)
abbrev fT (n:Str)(s:Wn):HK.Seen:=zzM n n s
def told:List HK.Seen×List (Option (Tv))×List Bool:=([fT "cells_of" uT,fT "letters_of" uU,fT "children_of" zx,fT "walk" Cj,fT "bond_of" zy,fT "cells_at" uV,fT "picked" zF,fT "count" zG,fT "nth" lV,fT "is_answer" wA,fT "place" zH,fT "_law_whole" zJ,fT "_law_mixed" Ck,fT "_law_picked" wC,fT "_law_alphabet" zK,fT "_law_tree" zL,fT "_law_turned" zM,fT "_law_letters" wD,fT "_law_beneath" Hj,fT "_law_walk" uW,fT "_law_filled_up" zN,fT "_law_sizes" zO,fT "_law_cells_of" wF,fT "_law_grid" wG,fT "_law_order" wH,fT "_law_due" m9,fT "_law_refused" zP,fT "_law_right" wI,fT "law" sLaw,zzM "__init__" "Tally.__init__" qZ,zzM "fan_of" "Tally.fan_of" zU,zzM "options" "Tally.options" wM,zzM "ways" "Tally.ways" wO,zzM "ways_beneath" "Tally.ways_beneath" zV,zzM "choose" "Tally.choose" Cu,zzM "place_of" "Tally.place_of" wQ],
   YN 21 (some none)++[some (some (.builtin "object.__setattr__")),some none,some none,some none,some none,some none],
   YN 10 true)
theorem Ip {n:Str}{ps:Tn}(D:HK.Def K n q st v)(b:∀(kV doc pm:Wb)(an:Option Addr)(cd ct:Wb),HK.Fa ps.length λus=>bindArgs (QZ n q (mq st) (ji st) (bf st) .none kV doc pm an cd ct) ⟨us,[]⟩=pure (ps.zip us)):Binds K (HK.m8 K v) ps []:=D.fn.binds λ_ _ _ _ _ _ us hl=>HK.Rj (b _ _ _ _ _ _) us hl
theorem gm {mg:Tj}{h:Heap}{n:Str}{ps:Tn}(X:K.In h)(G:h.Ns Wq mg)(hq:q=n)(hv:v=Pn K Wq n)(e:HK.uR K v=HK.wz n q (mq st) (ji st) (bf st))(b:∀(kV doc pm:Wb)(an:Option Addr)(cd ct:Wb),HK.Fa ps.length λus=>bindArgs (QZ n q (mq st) (ji st) (bf st) .none kV doc pm an cd ct) ⟨us,[]⟩=pure (ps.zip us)):Fx K mg n st ps (HK.ref? v) (HK.m8 K v):=by
 subst hq;subst hv;have D:=HK.Hi e;exact⟨D.fn,Ip D b,PySem.W.mg_of X G D.ad⟩
theorem w6 {n:Str}{ps:Tn}(hv:v=XU K (.ref C) n)(e:HK.uR K v=HK.wz n q (mq st) (ji st) (bf st))(b:∀(kV doc pm:Wb)(an:Option Addr)(cd ct:Wb),HK.Fa ps.length λus=>bindArgs (QZ n q (mq st) (ji st) (bf st) .none kV doc pm an cd ct) ⟨us,[]⟩=pure (ps.zip us)):Mx K C n q st ps (HK.ref? v) (HK.m8 K v):=by
 subst hv;have D:=HK.Hi e;exact⟨D.fn,Ip D b,⟨D.ad,D.is,D.kp⟩⟩
theorem all_mk {l:PySem.W.OpenLaw}{w:Wj}{h:Heap}{mg:Tj}{fa:Addr}(E:see K=told)(X:K.In h)(G:h.Ns Wq mg)(hfa:mg "law" = some (.ref fa)) :
  ∃fd:Wk,(∀(s:Wc) (v:Wb),BindsTo s fd ⟨[v],[]⟩ [("_law_script",v)])/\∀base:Heap,K.In base->base.Ns Wq mg->aA l.prog w K mg base aN 13 fa fd ["_law_script"] (aX K fLaw):=by
 have e1:=congrArg Prod.fst E;have e2:=congrArg (λx=>x.2.1) E;have e3:=congrArg (λx=>x.2.2) E;have tc4:XU K (.ref (cZ K "Tally")) "__setattr__" = some (some (.builtin "object.__setattr__")):=Qa (HK.pick e2 21);have rJ:XU K (.ref (cZ K "Tally")) "shape" = some none:=Qa (HK.pick e2 22);have t_root:XU K (.ref (cZ K "Tally")) "root" = some none:=Qa (HK.pick e2 23);have lY:XU K (.ref (cZ K "Tally")) "children" = some none:=Qa (HK.pick e2 24);have rK:XU K (.ref (cZ K "Tally")) "bonds" = some none:=Qa (HK.pick e2 25);have t_fans:XU K (.ref (cZ K "Tally")) "fans" = some none:=Qa (HK.pick e2 26);have mk0:PySem.W.makesIn K (cZ K "Tally")=true:=Qa (HK.pick e3 3);have kc0:YM K (.ref (cZ K "Tally"))=true:=Qa (HK.pick e3 4);have tc1:PJ K (cZ K "Tally") Str.empty=true:=Qa (HK.pick e3 5);have tc2:Oq K (cZ K "Tally")=true:=Qa (HK.pick e3 6);have tc3:PySem.W.plainOver K (cZ K "Tally")=true:=Qa (HK.pick e3 7);have ex:PySem.W.excIn K (cZ K "NoAnswer") uL "ValueError.__new__" = true:=Qa (HK.pick e3 8);have mx:mroIn K (cZ K "NoAnswer") (.ref (cZ K "JoinError")::uL)=true:=Qa (HK.pick e3 9);have y0:Pn K Wq "Tally" = _:=HK.Hh (Qa (HK.pick e3 0));have y1:Pn K Wq "NoAnswer" = _:=HK.Hh (Qa (HK.pick e3 1));have y2:Pn K Wq "JoinError" = _:=HK.Hh (Qa (HK.pick e3 2));have X0:Fx K mg "cells_of" uT ["row","letters","wanted"] _ _:=gm X G rfl rfl (Qa (HK.pick e1 0)) λ_ _ _ _ _ _ _ _ _=>rfl;have X1:Fx K mg "letters_of" uU ["shape"] _ _:=gm X G rfl rfl (Qa (HK.pick e1 1)) λ_ _ _ _ _ _ _=>rfl;have X2:Y2 K mg _ _:=gm X G rfl rfl (Qa (HK.pick e1 2)) λ_ _ _ _ _ _ _ _=>rfl;have X3:Y5 K mg _ _:=gm X G rfl rfl (Qa (HK.pick e1 3)) λ_ _ _ _ _ _ _=>rfl;have X4:Y4 K mg _ _:=gm X G rfl rfl (Qa (HK.pick e1 4)) λ_ _ _ _ _ _ _ _ _=>rfl;have X5:Y1 K mg _ _:=gm X G rfl rfl (Qa (HK.pick e1 5)) λ_ _ _ _ _ _ _ _=>rfl;have X6:Y7 K mg _ _:=gm X G rfl rfl (Qa (HK.pick e1 6)) λ_ _ _ _ _ _ _ _=>rfl;have X7:Fx K mg "count" zG ["shape","rows","parents"] _ _:=gm X G rfl rfl (Qa (HK.pick e1 7)) λ_ _ _ _ _ _ _ _ _=>rfl;have X8:Fx K mg "nth" lV ["shape","rows","parents","n"] _ _:=gm X G rfl rfl (Qa (HK.pick e1 8)) λ_ _ _ _ _ _ _ _ _ _=>rfl;have X9:Fx K mg "is_answer" wA ["shape","rows","cells"] _ _:=gm X G rfl rfl (Qa (HK.pick e1 9)) λ_ _ _ _ _ _ _ _ _=>rfl;have X10:Fx K mg "place" zH ["shape","rows","parents","answer"] _ _:=gm X G rfl rfl (Qa (HK.pick e1 10)) λ_ _ _ _ _ _ _ _ _ _=>rfl;have X11:Fx K mg "_law_whole" zJ ["_law_found"] _ _:=gm X G rfl rfl (Qa (HK.pick e1 11)) λ_ _ _ _ _ _ _=>rfl;have X12:Y3 K mg _ _:=gm X G rfl rfl (Qa (HK.pick e1 12)) λ_ _ _ _ _ _ _ _=>rfl;have X13:Fx K mg "_law_picked" wC ["_law_cell","_law_some","_law_many"] _ _:=gm X G rfl rfl (Qa (HK.pick e1 13)) λ_ _ _ _ _ _ _ _ _=>rfl;have X14:Fx K mg "_law_alphabet" zK ["_law_cell"] _ _:=gm X G rfl rfl (Qa (HK.pick e1 14)) λ_ _ _ _ _ _ _=>rfl;have X15:Fx K mg "_law_tree" zL ["_law_cells","_law_letters_here"] _ _:=gm X G rfl rfl (Qa (HK.pick e1 15)) λ_ _ _ _ _ _ _ _=>rfl;have X16:Fx K mg "_law_turned" zM ["_law_shape","_law_parents"] _ _:=gm X G rfl rfl (Qa (HK.pick e1 16)) λ_ _ _ _ _ _ _ _=>rfl;have X17:Fx K mg "_law_letters" wD ["_law_shape"] _ _:=gm X G rfl rfl (Qa (HK.pick e1 17)) λ_ _ _ _ _ _ _=>rfl;have X18:Y6 K mg _ _:=gm X G rfl rfl (Qa (HK.pick e1 18)) λ_ _ _ _ _ _ _ _=>rfl;have X19:Fx K mg "_law_walk" uW ["_law_parents"] _ _:=gm X G rfl rfl (Qa (HK.pick e1 19)) λ_ _ _ _ _ _ _=>rfl;have X20:Fx K mg "_law_filled_up" zN ["_law_cells","_law_at","_law_many"] _ _:=gm X G rfl rfl (Qa (HK.pick e1 20)) λ_ _ _ _ _ _ _ _ _=>rfl;have X21:Fx K mg "_law_sizes" zO ["_law_shape","_law_cell"] _ _:=gm X G rfl rfl (Qa (HK.pick e1 21)) λ_ _ _ _ _ _ _ _=>rfl;have X22:Fx K mg "_law_cells_of" wF ["_law_sizes_here","_law_cell"] _ _:=gm X G rfl rfl (Qa (HK.pick e1 22)) λ_ _ _ _ _ _ _ _=>rfl;have X23:Fx K mg "_law_grid" wG ["_law_pattern","_law_cells"] _ _:=gm X G rfl rfl (Qa (HK.pick e1 23)) λ_ _ _ _ _ _ _ _=>rfl;have X24:Fx K mg "_law_order" wH ["_law_shape","_law_parents"] _ _:=gm X G rfl rfl (Qa (HK.pick e1 24)) λ_ _ _ _ _ _ _ _=>rfl;have X25:Fx K mg "_law_due" m9 ["_law_shape","_law_parents","_law_cells","_law_n"] _ _:=gm X G rfl rfl (Qa (HK.pick e1 25)) λ_ _ _ _ _ _ _ _ _ _=>rfl;have X26:Fx K mg "_law_refused" zP ["_law_shape","_law_rows","_law_parents","_law_n"] _ _:=gm X G rfl rfl (Qa (HK.pick e1 26)) λ_ _ _ _ _ _ _ _ _ _=>rfl;have X27:Fx K mg "_law_right" wI ["_law_shape","_law_parents","_law_cell"] _ _:=gm X G rfl rfl (Qa (HK.pick e1 27)) λ_ _ _ _ _ _ _ _ _=>rfl;have D29:HK.Def K "__init__" "Tally.__init__" qZ (XU K (.ref (cZ K "Tally")) "__init__"):=HK.Hi (Qa (HK.pick e1 29));have X29:Ix K mg (cZ K "Tally") "Tally" "Tally.__init__" qZ ["self","shape","rows","parents"] _ _:=⟨D29.fn,Ip D29 λ_ _ _ _ _ _ _ _ _ _=>rfl,⟨mk0,D29.ad,D29.is,kc0⟩,PySem.W.mg_of X G y0⟩;have X30:Mx K (cZ K "Tally") "fan_of" "Tally.fan_of" zU ["self","i","table"] _ _:=w6 rfl (Qa (HK.pick e1 30)) λ_ _ _ _ _ _ _ _ _=>rfl;have X31:Mx K (cZ K "Tally") "options" "Tally.options" wM ["self","i","known"] _ _:=w6 rfl (Qa (HK.pick e1 31)) λ_ _ _ _ _ _ _ _ _=>rfl;have X32:Mx K (cZ K "Tally") "ways" "Tally.ways" wO ["self","i","known"] _ _:=w6 rfl (Qa (HK.pick e1 32)) λ_ _ _ _ _ _ _ _ _=>rfl;have X33:Mx K (cZ K "Tally") "ways_beneath" "Tally.ways_beneath" zV ["self","i","known"] _ _:=w6 rfl (Qa (HK.pick e1 33)) λ_ _ _ _ _ _ _ _ _=>rfl;have X34:Mx K (cZ K "Tally") "choose" "Tally.choose" Cu ["self","i","known","n"] _ _:=w6 rfl (Qa (HK.pick e1 34)) λ_ _ _ _ _ _ _ _ _ _=>rfl;have X35:Mx K (cZ K "Tally") "place_of" "Tally.place_of" wQ ["self","i","known"] _ _:=w6 rfl (Qa (HK.pick e1 35)) λ_ _ _ _ _ _ _ _ _=>rfl;obtain⟨fl,oc,od,sl,kV,dc,pm,an,cd,ct,a,l,c,k,_⟩:=HK.xY (v:=Pn K Wq "law") (n:="law") (q:="law") (a:=mq sLaw) (b:=ji sLaw) (c:=bf sLaw) (Qa (HK.pick e1 28));cases hfa.symm.trans (PySem.W.mg_of X G a);have F28:=J3 (st:=sLaw) l c k;have B:Bl mg:=⟨XI X G (Qa (HK.pick e2 0)),XI X G (Qa (HK.pick e2 1)),XI X G (Qa (HK.pick e2 2)),XI X G (Qa (HK.pick e2 3)),XI X G (Qa (HK.pick e2 4)),XI X G (Qa (HK.pick e2 5)),XI X G (Qa (HK.pick e2 6)),XI X G (Qa (HK.pick e2 7)),XI X G (Qa (HK.pick e2 8)),XI X G (Qa (HK.pick e2 9)),XI X G (Qa (HK.pick e2 10)),XI X G (Qa (HK.pick e2 11)),XI X G (Qa (HK.pick e2 12)),XI X G (Qa (HK.pick e2 13)),XI X G (Qa (HK.pick e2 14)),XI X G (Qa (HK.pick e2 15)),XI X G (Qa (HK.pick e2 16)),XI X G (Qa (HK.pick e2 17)),XI X G (Qa (HK.pick e2 18)),XI X G (Qa (HK.pick e2 19)),XI X G (Qa (HK.pick e2 20))⟩;have T:TF K (cZ K "Tally"):=⟨⟨tc1,tc2,tc3,tc4⟩,rJ,t_root,lY,rK,t_fans⟩;have N:Na K mg (cZ K "NoAnswer") (.ref (cZ K "JoinError")::uL):=⟨PySem.W.mg_of X G y1,zuS ex mx⟩;exact⟨QZ "law" "law" (mq sLaw) (ji sLaw) (bf sLaw) .none kV dc pm an cd ct,λs v=>.of_eq rfl,λbase _ _=>zxt F28 X12 X13 X14 X15 X16 X20 X27 (zsx X27.fn X22 ((zqN X22.fn X12 B).mono (by decide)) X21 ((zsv X21.fn X12 X17 B).mono (by decide)) X23 ((zvj X23.fn B).mono (by decide)) X7 ((zsl X7.fn T X29 X5 X31 X32 X33 X30 X2 X4 X3 B).mono (by decide)) X11 ((zsf X11.fn B).mono (by decide)) X26 (znP X26.fn X8 (zvm X8.fn T X29 X5 X31 X32 X33 X30 X2 X4 X3 X34 X6 B N) N) X25 (zxn X25.fn X24 X19 X18 X17 B) X8 (zxk X8.fn T X29 X5 X31 X32 X33 X30 X2 X4 X3 X34 X6 X1 B) X10 (zss X10.fn T X29 X5 X31 X32 X33 X30 X2 X4 X3 X35 X1 X0 X9 B) B) B⟩
def vw:Wg:={ PySem.Challenge.pw_joinwood_k33_whole_far_counts with main:={ PySem.Challenge.pw_joinwood_k33_whole_far_counts.main with body:=[sLaw] } }
def lo:List PySem.Str:=["__name__","JoinError","NoAnswer","cells_of","letters_of","children_of","walk","bond_of","cells_at","picked","Tally","count","nth","is_answer","place","_law_whole","_law_mixed","_law_picked","_law_alphabet","_law_tree","_law_turned","_law_letters","_law_beneath","_law_walk","_law_filled_up","_law_sizes","_law_cells_of","_law_grid","_law_order","_law_due","_law_refused","_law_right"]
abbrev hk:PySem.W.Hook:=HK.hook see told
abbrev xt:Wc->Bool:=λs=>PySem.W.xlAt vw [] s&&PySem.W.recOk [] s
theorem ws:PySem.Challenge.rw_joinwood_k33_whole_far_counts.wellSaid=true:=by kernel_rfl
theorem hl:PySem.W.LeftO PySem.Challenge.pw_joinwood_k33_whole_far_counts vw lo xt hk.obs hk.val 20000:=by
 intro w
 kernel_rfl
end Q33
open PySem PySem.W
set_option maxRecDepth 100000 in
set_option maxHeartbeats 0 in
theorem PySem.Challenge.cw_joinwood_k33_whole_far_counts_holds : PySem.Challenge.rw_joinwood_k33_whole_far_counts.Holds := by
 refine holds_law Q33.ws fun said=>holds_open (r:=PySem.Challenge.rw_joinwood_k33_whole_far_counts.row) (Xt:=Q33.xt) (XP:=XL Q33.vw []) Q33.hl Q33.hk.of Q33.hk.keeps (fun s e=>xl_of s (Bool.and_eq_true_iff.mp e).1) XL.keeps rfl rfl rfl (fun s e=>recFacts_of (Bool.and_eq_true_iff.mp e).2) rfl said (by decide +kernel) ⟨rfl,rfl,rfl,rfl,rfl,by decide +kernel⟩ ?hw ?hc
 case hw=>w_witness2
 exact PL.zyf (l:=PySem.Challenge.rw_joinwood_k33_whole_far_counts) (k:=13) (G:=fun K=>Q33.see K=Q33.told) (FL:=Q33.fLaw) (x:="_law_script") rfl rfl ⟨rfl,by decide,by decide⟩ Q33.zsz (fun w h Qq2=>Qq2) (fun w mg fa h K E KX G hmg=>Q33.all_mk E KX G hmg) Q33.zsA
#print axioms PySem.Challenge.cw_joinwood_k33_whole_far_counts_holds
