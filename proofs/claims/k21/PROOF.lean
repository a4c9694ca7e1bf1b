import PyProof.Rows.All
import Wide.All
import OpenK.AllK
import Wide.FinOn
import Lean
import PyProof.EqAt
import PyProof.EqKinds
import PyProof.TupleCall
import PyProof.TupleKey
import PyProof.DictRoadsH
import PyProof.NeKinds
import PyProof.AttrMissHeap
import PyProof.EnumMake
import PyProof.DictUpdate
import KE.KDictOf
import KE.KDictList
import PyProof.MaxThree
import PyProof.ListStr
import PyProof.ConsumeWalk
import PyProof.SliceStr2
import PyProof.StrBlockI
import PyProof.EnumStmt
import PyProof.ZipIter
import PyProof.Rows.CallKwBuiltin
import PyProof.Rows.SeqMore
import PyProof.Rows.SortRuns
import PyProof.Rows.SortPure
import PyProof.Rows.SortShell
import PyProof.Dict
import PyProof.TupleOfStr
import PyProof.Rows.StrRules
import KE.KRevIter
import KE.RegKIsAll
import PySem.Challenge.RW_joinwood_k21_reduced
set_option Elab.async false
set_option linter.all false
set_option maxRecDepth 100000
set_option maxHeartbeats 4000000
open Or renaming inl->Qo,inr->Qp
open PySem.Value renaming ref->Qq,type->QD,int->Oo,isStrOf_shape->Ou,isStrOf->Oz
open PySem.PassesOwn renaming never->Qs
open Classical renaming propDecidable->Qt,byContradiction->Om
open PySem renaming mem_of_lookup->Qu,KeyKind->Nh
open PySem.Builtin.Tuple renaming tupleHashOf->Qv
open PySem.F renaming plainAttrs_list->Qw,slot_list_append->Q6,type_list_append->Q7,plain_min_loop->PB
open PySem.NameKind renaming free->Qx,cell->OD
open PySem.Around renaming under_plainId->Qy
open Ne renaming symm->Qz
open PySem.Calls renaming spliced_cons->QB,spliced_nil->QH,callWith_builtin->QL,evalArgs_plain->Oh
open And renaming intro->QC
open PySem.Obj renaming mapSeq->QF
open Iff renaming rfl->QG
open PyProof.Rows renaming callWith_type1->QJ
open List renaming length_zip->QK,findIdx_lt_length_of_exists->QS,extract_eq_drop_take->QV,length->QW,foldl_cons->Q0,foldl_append->Pj,all_cons->Pk,length_reverse->Pq,length_drop->Px,not_mem_nil->Pz,drop_drop->PJ,take_sublist->Oe,length_range->Og,mem_or_eq_of_mem_set->Ol,all_map->Ot,filter_cons_of_pos->Ow,filter_cons_of_neg->Ox,length_nil->OJ,zip_append->O3,range_succ->O5,reverse_cons->O7,pairwise_map->O8,length_singleton->Nb,map_reverse->Ng
open Nat renaming add_assoc->QM,lt_succ_self->QR,le_succ->QX,min_eq_left->Oc,not_lt_zero->Od,add_sub_cancel->O2,lt_or_eq_of_le->O4,lt_or_ge->Nf
open PySem.Heap renaming size_push->QT
open False renaming elim->QZ
open Bool renaming eq_iff_iff->Q5
open Int renaming zero_add->Q8,emod_lt_of_pos->Ob
open List.Nodup renaming length_le_of_subset->Q9
open Nat.succ renaming inj->Pg
open Array renaming toList_push->Ph,toList_extract->Oj,getD->O1
open List.cons renaming inj->Pn
open Sum renaming inl->Pr,inr->Pu
open PySem.SetTable renaming grown->Py
open PySem.SeqAt renaming EqAt->PN
open PySem.Builtin.List renaming listExtendWith->P0,listTooLong->Oq
open PyProof.Rows.F renaming plain_set_update_loop->Oa
open True renaming intro->Oi
open PySem.W renaming cellsFrom_some->O6,fnOf->O9
noncomputable section
universe u
theorem Qa{α:Type u}{a b:α}(h:some a=some b):a=b:=Option.some.inj h
theorem Qc{p:Prop}[i:Decidable p](h:¬p):decide p=false:=decide_eq_false h
theorem Qd{p:Prop}[i:Decidable p](h:p):decide p=true:=decide_eq_true h
theorem Qe{c:Prop}{h:Decidable c}(n:¬c){α:Sort u}{t e:α}:ite c t e=e:=if_neg n
theorem Qf{c:Prop}{h:Decidable c}(n:c){α:Sort u}{t e:α}:ite c t e=t:=if_pos n
theorem Qg{a b:Prop}(x:a)(y:¬a):b:=absurd x y
theorem Qh{p:Prop}[i:Decidable p](h:decide p=true):p:=of_decide_eq_true h
open PySem renaming wpAny_bind->Wa,Value->Wb,wpAny_pure->Wc,Shared->Wd,Addr->We,starEach->Wf,mainGlobals->Wg,sizeLine->Wi,wpAny->Wj,model->Wm,Program->Wo,sizeLine_eq->Wr,World->Ws,bootBuiltins->Wt,backTo->Wu,Around->Wv,behindInMarks->Ww,eval->Wx,wpAny_holding->Wy,FuncData->WA,cellsFrom->WC,foldedSetIterable->WD,swapsWith->WE,attributeBase->WF,cLine->WG,sysModules->WH,codeAny_builtin->WI,Stmt->WJ,wpAny_rule->WK,Keyword->WL,wpAny_Call_Name_kw->WM,wpAny_call_entry->WN,plainId_quiet->WO,keywordEach->WP,wpAny_truthy_bool->WR,assignEach->WS,compareOp->WU,wpAny_setField->WV,wpAny_passesOwn->WW,Scope->WX,wpAny_askSetting->WY,holding->WZ,wpAny_pyNext_list_item->W0,tupleKeyHash->W1,binaryOp->W3,scanBound->W5,wpAny_pyIter_list->W6,wpAny_newObj_type->W7,wpAny_mono->W8,backToKw->W9,wpAny_seqItems->Va,wpAny_tryCatch->Vb,codeAny->Vd,codeAny_mono->Ve,wpAny_isInstance->Vf,wpAny_forIn_list->Vg,wpAny_specialOf->Vi,wpAny_updateSeq->Vj,reduceHash->Vk,sliceBounds->Vl,relayAll->Vm,pyNext->Vo
open PyProof.Rows renaming wpS_bind->Wh,wpS_pure->Wl,arrOf->Wn,Keyed->Wp,pendingOf->Wq,wpS_forRange->Wz,SortSt->WB,wpS_mono->WQ,setArr->WT,wpS_modify->W2,failedOf->W4,SortKind->Vc,seqObj->Vh,listItems_at->Vn,IntsAre->Vp
open List renaming getElem?_eq_getElem->Xa,length_map->Xb,getD_eq_getElem?_getD->Xd,getElem?_map->Xe,getElem?_eq_some_iff->Xf,mem_cons_self->Xg,mem_singleton->Xh,mem_cons_of_mem->Xi,getElem?_set_ne->Xk,mem_of_getElem?->Xl,getElem?_set_self->Xm,size_toArray->Xo,map_append->Xp,mem_append->Xr,take_of_length_le->Xs,mem_map->Xv,mem_cons->Xx,length_append->Xy,map_cons->Xz,getElem?_eq_none->XD,append_assoc->XE,set_eq_of_length_le->XG,mem_filter->XH,nodup_cons->XI,length_take->XJ,getElem?_append_right->XO,length_eq_zero_iff->XQ,exists_cons_of_length_eq_add_one->XR,take_add_one->XS,pairwise_append->XU,all_eq_true->XV,length_cons->XX,getElem_mem->XY,replicate->Ya,length_set->Yb,getElem?_append_left->Yd,map_congr_left->Yg,take_append_drop->Yi,range->Yj,map_map->Yk,map->Yl,append_nil->Ym,length_filter_le->Yo,filter_append->Yp,find?_cons->Yq,getElem_of_mem->Yr,nodup_append->Yt,mem_append_right->Yu,length_replicate->Yv,drop_eq_getElem_cons->Yz,drop_of_length_le->YA,zip_cons_cons->YB,mem_of_mem_take->YC,perm_append_comm->YF,Perm->YG,nodup_nil->YH,take_length->YJ,flatMap_cons->YK,map_nil->YL,pairwise_cons->YM,lookup_cons->YN,mem_of_mem_drop->YO
open PySem.W renaming Frag->Xc,nsIn->Xu,mg_none_of->XW,mg_of->Yn
open Nat renaming le_refl->Xj,ne_of_lt->XM,le_trans->XZ,lt_of_lt_of_le->Yc,zero_le->Ye,lt_irrefl->YI,lt_succ_of_lt->YR
open PySem.Heap renaming get?_push_of_some->Xn,get?_push_size->XA,lt_size->XC,get?_update_other->Yf,get?_update_self->Yh,SameBut->Ys
open Array renaming toList_append->Xq,length_toList->XB,getElem?_toList->XT,toList_reverse->Yw
open Bool renaming false_ne_true->Xw,false_eq_true->XF,and_eq_true->YE,not_true->YQ
open Int renaming toNat_natCast->Yx,emod_nonneg->YD
open PySem.SetTable renaming below->Yy
open PySem in abbrev Tc:=List (List (List Int))
open PySem in abbrev Td:=List (List Int)
open PySem in abbrev Te:=List (List Str)
open PySem in abbrev Tf:=List (Option Nat)
open PySem in abbrev Tg:=List (We×Obj)
open PySem in abbrev Ti:=Wb->Wd->Prop
open PySem in abbrev Tj:=Str->Option Wb
open PySem in abbrev Tn:=List Str
open PySem in abbrev Tp:=List Int
open PySem in abbrev Tq:=List Wb
open PySem in abbrev Tr:=List We
open PySem in abbrev Tt:=List Nat
open PySem in abbrev Tv:=Option Wb
open PySem in abbrev Tw:=Nat->Nat
namespace L2
open PySem PySem.Spec PyProof.Rows
variable {xs:List V}{us:Tq}{x:Str}{u:Wb}{H:Hp}{a b:We}{o:Obj}{h base:Heap}{P:Wo}{w:Ws}{t' i j k:Nat}{ch fp:Tr}{e c tg:Expr}{M:Model}{A:Wv}{E:Ti}{Q:Unit->Wd->Prop}{X:Cx}{s:Wd}{pos:Pos}{pins:Tg}{σ:St}{op:CmpOp}{K:Xc}{f:Wb->Wb->Sem Wb}{body:List WJ}{tb:TS}{mg:Tj}{CX:oM}{fd:WA}{ps:Tn}{kindOf:Str->Option NameKind}
abbrev Key:=Sum Int Str
def um:Key->Wb->Bool
 | .inl k,v=>Value.isInt k v
 | .inr x,v=>Oz x v
def wF (w:Ws):Key->Int
 | .inl k=>hashInt k
 | .inr x=>hashStr w x
theorem qb:∀ {k:Key}{v:Wb},um k v=true->(∃i t,k=Pr i/\v=Oo i t)\/(∃x t,k=Pu x/\v=Value.str x t)
 | .inl i,v,h=>by
  obtain⟨t,e⟩:=Value.isInt_shape (k:=i) (v:=v) h;exact .inl ⟨i,t,rfl,e⟩
 | .inr x,v,h=>by
  obtain⟨t,e⟩:=Ou (x:=x) (v:=v) h;exact .inr ⟨x,t,rfl,e⟩
theorem R0 (i:Int)(t:Tok):um (.inl i) (.int i t)=true:=by simp[um,Value.isInt]
theorem R7 (x:Str)(t:Tok):um (.inr x) (.str x t)=true:=by simp[um,Oz]
theorem R8 (a b:Int):decide ((Pr a:Key)=Pr b)=(a == b):=by
 by_cases e:a=b
 ·subst e;simp
 ·have h:¬ (Pr a:Key)=Pr b:=λq=>e (Sum.inl.inj q);rw[Qc h];exact(beq_eq_false_iff_ne.mpr e).symm
theorem R9 (a b:Str):decide ((Pu a:Key)=Pu b)=decide (a=b):=by
 by_cases e:a=b
 ·subst e;simp
 ·have h:¬ (Pu a:Key)=Pu b:=λq=>e (Sum.inr.inj q);rw[Qc h,Qc e]
theorem Sd (a:Int)(b:Str):decide ((Pr a:Key)=Pu b)=false:=Qc (λq=>nomatch q)
theorem Sg (a:Str)(b:Int):decide ((Pu a:Key)=Pr b)=false:=Qc (λq=>nomatch q)
def eN (prog:Wo)(w:Ws):Nh prog w Key where
 is:=um
 hash:=wF w
 inj:=λv a b ha hb=>by
  rcases qb ha with ⟨i,t,rfl,rfl⟩ | ⟨x,t,rfl,rfl⟩
  ·rcases qb hb with ⟨j,u,rfl,e⟩ | ⟨y,u,rfl,e⟩
   ·injection e with e1 _;rw[e1]
   ·exact nomatch e
  ·rcases qb hb with ⟨j,u,rfl,e⟩ | ⟨y,u,rfl,e⟩
   ·exact nomatch e
   ·injection e with e1 _;rw[e1]
 byValue:=λk v h=>by
  rcases qb h with ⟨i,t,rfl,rfl⟩ | ⟨x,t,rfl,rfl⟩<;>rfl
 pyHash:=λhv h=>by
  rcases qb hv with ⟨i,t,rfl,rfl⟩ | ⟨x,t,rfl,rfl⟩
  ·exact wpAny_pyHash_int h
  ·exact wpAny_pyHash_str h
 eqBool:=λhu hv h=>by
  rcases qb hu with ⟨i,t,rfl,rfl⟩ | ⟨x,t,rfl,rfl⟩
  ·rcases qb hv with ⟨j,u,rfl,rfl⟩ | ⟨y,u,rfl,rfl⟩
   ·rw[R8]at h;exact wpAny_eqBool_int h
   ·rw[Sd]at h;exact SeqAt.EqAt.int_str i t y u _ _ _ _ h
  ·rcases qb hv with ⟨j,u,rfl,rfl⟩ | ⟨y,u,rfl,rfl⟩
   ·rw[Sg]at h;exact SeqAt.EqAt.str_int x t j u _ _ _ _ h
   ·rw[R9]at h;exact wpAny_eqBool_str h
 «strs»:=λk x t v h=>by
  rcases qb h with ⟨i,u,rfl,e⟩ | ⟨y,u,rfl,e⟩
  ·exact nomatch e
  ·injection e with e1 _;subst e1;cases v<;>rfl
theorem Gj (prog:Wo)(w:Ws)(i:Int)(t:Tok):(eN prog w).is (.inl i) (.int i t)=true:=R0 i t
theorem Sh (prog:Wo)(w:Ws)(x:Str)(t:Tok):(eN prog w).is (.inr x) (.str x t)=true:=R7 x t
inductive V where
 | non | bl (b:Bool) | int (i:Int) | str (x:Str) | byt (b:Array UInt8) | flt (b:UInt64) | ref (a:We) | ty (n:String)
 deriving DecidableEq
def RelV:V->Wb->Prop
 | .non,u=>u=Value.none
 | .bl b,u=>u=Value.bool b
 | .int i,u=>∃t,u=Oo i t
 | .str x,u=>∃t,u=Value.str x t
 | .byt b,u=>∃t,u=Value.bytes b t
 | .flt b,u=>∃t,u=Value.float b t
 | .ref a,u=>u=Qq a
 | .ty n,u=>u=QD n
abbrev Vals:List V->Tq->Prop:=Paired RelV
theorem Vals.length (r:Vals xs us):xs.length=us.length:=Paired.length r
theorem Vals.get:∀ {xs:List V}{us:Tq}{i:Nat}{x:V},Vals xs us->xs[i]? = some x->∃u,us[i]? = some u/\RelV x u
 | _,_,_,_,.nil,e=>by simp at e
 | _,_,0,_,.cons r _,e=>by simp at e;subst e;exact⟨_,rfl,r⟩
 | _,_,i+1,x,.cons _ t,e=>by
  obtain⟨u,h1,h2⟩:=Vals.get (i:=i) (x:=x) t (by simpa using e);exact⟨u,by simpa using h1,h2⟩
theorem Vals.set {x:V}(r:RelV x u):∀ {xs:List V}{us:Tq}(i:Nat),Vals xs us->Vals (xs.set i x) (us.set i u)
 | _,_,_,.nil=>.nil
 | _,_,0,.cons _ t=>.cons r t
 | _,_,i+1,.cons q t=>.cons q (Vals.set r i t)
theorem Vals.append:∀ {xs ys:List V}{us ws:Tq},Vals xs us->Vals ys ws->Vals (xs++ys) (us++ws):=by
 intro xs ys us ws h s;induction h with
 | nil=>exact s
 | cons r t ih=>exact .cons r ih
theorem Vals.take:∀ {xs:List V}{us:Tq}(n:Nat),Vals xs us->Vals (xs.take n) (us.take n)
 | _,_,0,_=>.nil
 | _,_,_+1,.nil=>.nil
 | _,_,n+1,.cons r t=>.cons r (Vals.take n t)
theorem Vals.drop:∀ {xs:List V}{us:Tq}(n:Nat),Vals xs us->Vals (xs.drop n) (us.drop n)
 | _,_,0,r=>r
 | _,_,_+1,.nil=>.nil
 | _,_,n+1,.cons _ t=>Vals.drop n t
def jZ:Option V->Tv->Prop
 | some v,some u=>RelV v u
 | none,none=>True
 | _,_=>False
def KV {κ:Type}:List (κ×V)->List (κ×Wb)->Prop:=Paired λ(p:κ×V)(q:κ×Wb)=>p.1=q.1/\RelV p.2 q.2
def kV:Key->V
 | .inl i=>.int i
 | .inr x=>.str x
inductive HO where
  | lst (xs:List V)
  | tup (xs:List V)
  | dK (kvs:List (Key×V)) | dT (kvs:List (List Key×V))
  | set (S:Int->Bool) (n:Nat)
  | ins (C dx:We) (fs:List (Str×V))
  | own (x:We)
  | xd (fs:List (Str×V))
  | met (f x:We)
  | rng (lo hi:Int)
  | aH (o:Obj) (u:HO)
  | qK (ps:Array Wb)
  | ext (φ:Heap->Prop)
abbrev Hp:=We->Option HO
def upd (H:Hp)(a:We)(o:HO):Hp:=λb=>if b=a then some o else H b
theorem bF {o:HO}:upd H a o a=some o:=by unfold upd;rw[Qf rfl]
theorem aO {o:HO}(h:b≠a):upd H a o b=H b:=by unfold upd;rw[Qe h]
theorem yI {o u:HO}(h:H a=some o)(h':H b=some u)(d:o≠u):a≠b:=by
 intro e;subst e;rw[h]at h';exact d (Qa h')
theorem mH {o:HO}(h:H a=some o)(h':H b=none):a≠b:=by
 intro e;subst e;rw[h]at h';cases h'
def nH (h:Heap)(a:We)(its:Array Wb):Prop:=∃o,h.get? a=some o/\o.cls=.type "tuple"/\(∃n,o.data=.seq its n)/\o.dict=none
theorem nH.tup {its:Array Wb}(p:nH h a its):IsTup h a its:=let ⟨o,e,c,⟨n,d⟩,_⟩:=p;⟨o,e,c,n,d⟩
theorem nH.lt {its:Array Wb}(p:nH h a its):a<h.objs.size:=p.tup.lt
theorem nH.new (h:Heap)(items:Array Wb):nH (h.push { cls:=.type "tuple",data:=.seq items }) h.objs.size items:=⟨_,XA _ rfl,rfl,⟨_,rfl⟩,rfl⟩
section
variable (P:Wo)(w:Ws)
def dg (H:Hp)(h:Heap)(a:We):HO->Prop
 | .lst xs=>xs.length<=Wi/\∃(its:Tq) (n:Nat),Vals xs its/\h.get? a=some { cls:=.type "list",data:=.seq its.toArray n }
 | .tup xs=>xs.length<=Wi/\∃its:Tq,Vals xs its/\nH h a its.toArray
 | .dK kvs=>kvs.length<=Wi/\(a == WH)=false/\∃vs,KV kvs vs/\h.DictOf (eN P w) a vs
 | .dT kvs=>kvs.length<=Wi/\(a == WH)=false/\∃xs:List (List Key×We×Wb),
   Paired (λ(p:List Key×V) (q:List Key×We×Wb)=>p.1=q.1/\H q.2.1=some (.tup (p.1.map kV))/\RelV p.2 q.2.2) kvs xs/\
   ∃o es ep,h.get? a=some o/\o.ExactDict/\o.data=.dict es ep/\es.toList=xs.map (entryOfKey (tupleKind (eN P w)))/\(xs.map (·.1)).Nodup
 | .set S n=>h.SetOf (intKind P w) a S n
 | .ins C dx fs=>H dx=some (.own a)/\fs.length<=1000/\dx≠a/\h.get? a=some (PySem.W.instObj C dx)/\
   ∃mA,h.Ns1 dx mA/\(∀f,jZ (fs.lookup f) (mA f))/\PySem.Within mA (fs.map (·.1))
 | .own _=>∃o,h.get? a=some o
 | .xd fs=>∃mA,h.Ns1 a mA/\∀f,jZ (fs.lookup f) (mA f)
 | .rng lo hi=>∃t u v,h.get? a=some { cls:=.type "range",data:=.fields #[.int lo t,.int hi u,.int 1 v] }
 | .aH o u=>h.get? a=some o/\dg H h a u
 | .qK ps=>h.get? a=some { cls:=.none,data:=.fields ps }
 | .met f x=>h.get? a=some (PySem.W.methodObj (.ref f) (.ref x))
 | .ext φ=>φ h/\(∃o,h.get? a=some o)/\∀h1 h2:Heap,φ h1->(∀o,h1.get? a=some o->h2.get? a=some o)->φ h2
def cV (H:Hp)(h:Heap):Prop:=∀a o,H a=some o->dg P w H h a o
end
section
variable {P:Wo}{w:Ws}{H H':Hp}{h h':Heap}{a:We}{o:HO}
theorem dg.lt (x:dg P w H h a o):a<h.objs.size:=by
 cases o with
 | lst xs=>obtain⟨_,_,_,_,e⟩:=x;exact XC e
 | tup xs=>obtain⟨_,_,_,p⟩:=x;exact p.lt
 | dK kvs=>obtain⟨_,_,_,_,o,_,_,e,_⟩:=x;exact XC e
 | dT kvs=>obtain⟨_,_,_,_,o,_,_,e,_⟩:=x;exact XC e
 | set S n=>obtain⟨o,_,_,_,e,_⟩:=x;exact XC e
 | ins C dx fs=>obtain⟨_,_,_,e,_⟩:=x;exact XC e
 | own y=>obtain⟨_,e⟩:=x;exact XC e
 | xd fs=>obtain⟨_,⟨_,_,_,e,_⟩,_⟩:=x;exact XC e
 | rng lo hi=>obtain⟨_,_,_,e⟩:=x;exact XC e
 | aH ob u=>obtain⟨e,_⟩:=x;exact XC e
 | qK ps=>exact XC (show h.get? a=some _ from x)
 | met f y=>exact XC (show h.get? a=some _ from x)
 | ext φ=>obtain⟨_,⟨_,e⟩,_⟩:=x;exact XC e
theorem Paired.wG {α β:Type}{F G:α->β->Prop}:∀ {l₁:List α}{l₂:List β},Paired F l₁ l₂->(∀a b,F a b->G a b)->Paired G l₁ l₂:=by
 intro l₁ l₂ h f;induction h with
 | nil=>exact .nil
 | cons r t ih=>exact .cons (f _ _ r) ih
theorem dg.stay (x:dg P w H h a o)(k:∀b u,(b=a\/H b=some (.own a))->h.get? b=some u->h'.get? b=some u)
  (ho:∀b,H b=some (.own a)->H' b=some (.own a)) (ht:∀b xs,H b=some (.tup xs)->H' b=some (.tup xs)):dg P w H' h' a o:=by
 induction o with
 | lst xs=>obtain⟨z,its,n,r,e⟩:=x;exact⟨z,its,n,r,k _ _ (.inl rfl) e⟩
 | tup xs=>obtain⟨z,its,r,ob,e,c⟩:=x;exact⟨z,its,r,ob,k _ _ (.inl rfl) e,c⟩
 | dK kvs=>obtain⟨z,y,vs,r,ob,es,ep,e,c⟩:=x;exact⟨z,y,vs,r,ob,es,ep,k _ _ (.inl rfl) e,c⟩
 | dT kvs=>
  obtain⟨z,y,xs,r,ob,es,ep,e,c⟩:=x;exact⟨z,y,xs,Paired.wG r λp q z=>⟨z.1,ht _ _ z.2.1,z.2.2⟩,ob,es,ep,k _ _ (.inl rfl) e,c⟩
 | set S n=>obtain⟨ob,es,ep,t,e,c⟩:=x;exact⟨ob,es,ep,t,k _ _ (.inl rfl) e,c⟩
 | ins C dx fs=>
  obtain⟨d,z,ne,e,mA,⟨od,es,ep,e2,c⟩,r⟩:=x;exact⟨ho _ d,z,ne,k _ _ (.inl rfl) e,mA,⟨od,es,ep,k _ _ (.inr d) e2,c⟩,r⟩
 | own y=>obtain⟨ob,e⟩:=x;exact⟨ob,k _ _ (.inl rfl) e⟩
 | xd fs=>obtain⟨mA,⟨od,es,ep,e,c⟩,r⟩:=x;exact⟨mA,⟨od,es,ep,k _ _ (.inl rfl) e,c⟩,r⟩
 | rng lo hi=>obtain⟨t,u,v,e⟩:=x;exact⟨t,u,v,k _ _ (.inl rfl) e⟩
 | aH ob u ih=>obtain⟨e,q⟩:=x;exact⟨k _ _ (.inl rfl) e,ih q⟩
 | qK ps=>
  have e:h.get? a=some { cls:=.none,data:=.fields ps }:=x;show h'.get? a=some { cls:=.none,data:=.fields ps };exact k a _ (.inl rfl) e
 | met f y=>
  have e:h.get? a=some (PySem.W.methodObj (.ref f) (.ref y)):=x;show h'.get? a=some (PySem.W.methodObj (.ref f) (.ref y));exact k a _ (.inl rfl) e
 | ext φ=>obtain⟨p,⟨o,e⟩,st⟩:=x;exact⟨st _ _ p λo q=>k _ _ (.inl rfl) q,⟨o,k _ _ (.inl rfl) e⟩,st⟩
theorem cV.lt (x:cV P w H h)(e:H a=some o):a<h.objs.size:=(x a o e).lt
theorem cV.fresh (x:cV P w H h)(e:h.objs.size<=a):H a=none:=by
 cases q:H a with
 | none=>rfl
 | some u=>exact Qg (Yc (x.lt q) e) (YI _)
theorem cV.kept (x:cV P w H h)(k:∀b u,h.get? b=some u->h'.get? b=some u):cV P w H h':=λa o e=>
 (x a o e).stay (λb u _ q=>k b u q) (λ_ q=>q) λ_ _ q=>q
theorem cV.laid (x:cV P w H h)(k:∀b u,h.get? b=some u->h'.get? b=some u)(hp:h.objs.size<=a)(new:dg P w (upd H a o) h' a o):cV P w (upd H a o) h':=λb u e=>by
 have hn:=x.fresh hp;by_cases hb:b=a
 ·subst hb;rw[bF]at e;cases e;exact new
 ·rw[aO hb]at e;exact(x b u e).stay (λc v _ q=>k c v q) (λc q=>by rw[aO (mH q hn)];exact q) λc xs q=>by rw[aO (mH q hn)];exact q
end
def Rd (H:Hp)(a:We)(u:HO):Prop:=H a=some u\/∃o,H a=some (.aH o u)
theorem Rd.ok {u:HO}(r:Rd H a u)(x:cV P w H h):dg P w H h a u:=by
 rcases r with r | ⟨o,r⟩
 ·exact x a u r
 ·obtain⟨_,q⟩:=x a _ r;exact q
def wH:Option HO->Prop
 | some (.lst _)=>True
 | some (.dK _)=>True
 | some (.dT _)=>True
 | some (.set _ _)=>True
 | some (.ins _ _ _)=>True
 | some (.ext _)=>True
 | _=>False
section
variable {P:Wo}{w:Ws}{H:Hp}{h h':Heap}{x e:We}{o':HO}
theorem cV.write (ok:cV P w H h)(mu:wH (H x))(he:e=x\/H e=some (.own x))(k:∀b u,b≠e->h.get? b=some u->h'.get? b=some u)(heo:∃u,h'.get? e=some u)
  (new:dg P w (upd H x o') h' x o'):cV P w (upd H x o') h':=λb u q=>by
 have nown:∀c y,H c=some (.own y)->c≠x:=λc y r z=>by subst z;rw[r]at mu;exact mu
 have ntup:∀c xs,H c=some (.tup xs)->c≠x:=λc xs r z=>by subst z;rw[r]at mu;exact mu
 by_cases hb:b=x
 ·subst hb;rw[bF]at q;cases q;exact new
 ·rw[aO hb]at q;by_cases hbe:b=e
  ·have q':H b=some (.own x):=by
    rcases he with z | z
    ·exact Qg (hbe.trans z) hb
    ·rw[hbe];exact z
   rw[q]at q';cases q';obtain⟨v,hv⟩:=heo;exact⟨v,by rw[hbe];exact hv⟩
  ·refine(ok b u q).stay (λc v hc r=>k c v ?_ r) (λc r=>by rw[aO (nown c b r)];exact r) λc xs r=>by rw[aO (ntup c xs r)];exact r
   rcases hc with rfl | hc
   ·exact hbe
   ·rintro rfl;rcases he with z | z
    ·exact nown c b hc z
    ·rw[hc]at z;cases z;exact hb rfl
end
structure Un (fs ex:Tr)(H H':Hp)(h h':Heap):Prop where
 keep:∀b o,h.get? b=some o->H b=none->b∉fs->b∉ex->h'.get? b=some o
 slot:∀b o,h.get? b=some o->H b=none->b∈fs->b∉ex->∃sl,h'.get? b=some { o with slots:=sl }
 free:∀b o,h.get? b=some o->H b=none->b∉ex->H' b=none
 there:∀b o,h.get? b=some o->b∉ex->∃o',h'.get? b=some o'
 tups:∀b xs,H b=some (.tup xs)->H' b=some (.tup xs)
 dO:∀b o u,H b=some (.aH o u)->H' b=some (.aH o u)
 f9:∀b ps,H b=some (.qK ps)->∃more,H' b=some (.qK (ps++more))
section
variable {fs fs' ex ex':Tr}{H H1 H2:Hp}{h h1 h2 h':Heap}{a x e:We}{o:HO}
theorem Un.any (u:Un fs ex H H1 h h1){ob:Obj}(q:h.get? b=some ob)(n:H b=none)(hx:b∉ex):∃sl,h1.get? b=some { ob with slots:=sl }:=by
 by_cases hb:b∈fs
 ·exact u.slot b ob q n hb hx
 ·exact⟨ob.slots,u.keep b ob q n hb hx⟩
theorem Un.trans (a:Un fs ex H H1 h h1)(b:Un fs ex H1 H2 h1 h2):Un fs ex H H2 h h2 where
 keep:=λc ob q n hc hx=>b.keep c ob (a.keep c ob q n hc hx) (a.free c ob q n hx) hc hx
 slot:=λc ob q n hc hx=>by
  obtain⟨sl,e1⟩:=a.slot c ob q n hc hx;obtain⟨sl',e2⟩:=b.slot c _ e1 (a.free c ob q n hx) hc hx;exact⟨sl',e2⟩
 free:=λc ob q n hx=>by
  obtain⟨o',e1⟩:=a.there c ob q hx;exact b.free c o' e1 (a.free c ob q n hx) hx
 there:=λc ob q hx=>by
  obtain⟨o',e1⟩:=a.there c ob q hx;exact b.there c o' e1 hx
 tups:=λc xs q=>b.tups c xs (a.tups c xs q)
 dO:=λc ob xs q=>b.dO c ob xs (a.dO c ob xs q)
 f9:=λc ps q=>by
  obtain⟨m1,e1⟩:=a.f9 c ps q;obtain⟨m2,e2⟩:=b.f9 c _ e1;exact⟨m1++m2,by rw[e2,Array.append_assoc]⟩
theorem Un.kept (k:∀b u,h.get? b=some u->h'.get? b=some u):Un fs ex H H h h':=
 ⟨λb ob q _ _ _=>k b ob q,λb ob q _ _ _=>⟨ob.slots,k b ob q⟩,λ_ _ _ n _=>n,λb ob q _=>⟨ob,k b ob q⟩,λ_ _ q=>q,λ_ _ _ q=>q,λ_ ps q=>⟨#[],by rw[q];simp⟩⟩
theorem Un.refl:Un fs ex H H h h:=Un.kept λ_ _ q=>q
theorem Un.laid (k:∀b u,h.get? b=some u->h'.get? b=some u)(hp:h.objs.size<=a)(hn:H a=none):Un fs ex H (upd H a o) h h' where
 keep:=λb u q _ _ _=>k b u q
 slot:=λb u q _ _ _=>⟨u.slots,k b u q⟩
 free:=λb u q n _=>by rw[aO (XM (Yc (XC q) hp))];exact n
 there:=λb u q _=>⟨u,k b u q⟩
 tups:=λb xs q=>by rw[aO (mH q hn)];exact q
 dO:=λb u xs q=>by rw[aO (mH q hn)];exact q
 f9:=λb ps q=>⟨#[],by rw[aO (mH q hn),q];simp⟩
theorem Un.write (mu:wH (H x))(he:e=x\/H e=some (.own x))(k:∀b u,b≠e->h.get? b=some u->h'.get? b=some u)(heo:∃u,h'.get? e=some u):Un fs ex H (upd H x o) h h':=by
 have hx:∀b,H b=none->b≠x:=λb n z=>by subst z;rw[n]at mu;exact mu
 have hb:∀b,H b=none->b≠e:=λb n z=>by
  subst z;rcases he with r | r
  ·exact hx b n r
  ·rw[n]at r;cases r
 have hm:∀b u,H b=some u->¬ wH (some u)->b≠x:=λb u q nm z=>by subst z;rw[q]at mu;exact nm mu
 refine⟨λb u q n _ _=>k b u (hb b n) q,λb u q n _ _=>⟨u.slots,k b u (hb b n) q⟩,λb u q n _=>by rw[aO (hx b n)];exact n,λb u q _=>?_,
  λb xs q=>by rw[aO (hm b _ q λz=>z)];exact q,λb u xs q=>by rw[aO (hm b _ q λz=>z)];exact q,λb ps q=>⟨#[],by rw[aO (hm b _ q λz=>z),q];simp⟩⟩
 by_cases hbe:b=e
 ·subst hbe;exact heo
 ·exact⟨u,k b u hbe q⟩
end
def yJ (h:Heap)(H:Hp):Tr:=(Yj h.objs.size).filter λa=>(H a).isSome
def jz (h:Heap)(H:Hp):Heap:=PySem.W.hideAll h (yJ h H)
theorem Sq (h:Heap)(H:Hp):(jz h H).objs.size=h.objs.size:=PySem.W.hideAll_size _ _
theorem Ss (e:h.get? b=some o)(n:H b=none):(jz h H).get? b=some o:=
 PySem.W.hideAll_get _ e λhm=>by
  have q:(H b).isSome=true:=(XH.mp hm).2;rw[n]at q;simp at q
theorem Sv (e:(jz h H).get? b=some o):h.get? b=some o/\H b=none:=by
 have e':h.get? b=some o:=PySem.W.of_hideAll (yJ h H) e;refine⟨e',?_⟩;cases q:H b with
 | none=>rfl
 | some x=>
  have hm:b∈yJ h H:=XH.mpr ⟨List.mem_range.mpr (XC e'),by simp[q]⟩;have z:(jz h H).get? b=none:=PySem.W.hideAll_none (yJ h H) hm;rw[z]at e;cases e
def Sx (g h:Heap)(L:We):Tg:=(Yj h.objs.size).filterMap λa=>if a=L\/(g.get? a).isSome=true then none else(h.get? a).map λo=>(a,o)
def rest (g h:Heap)(L d:We):Tg:=(Sx g h L).filter λp=>decide (p.1≠d)
structure Mod (K:Xc)(mg:Tj)(base:Heap):Prop where
 Av:K.In base
 glob:base.Ns Wg mg
 blt:∃mb,base.Ns builtinsNs mb/\∀x:Str,x≠"__name__"->mb x=Wt x
 nolimit:base.NoLimit
structure Cx where
 prog:Wo
 w:Ws
 K:Xc
 mg:Tj
 base:Heap
 A:Wv
 N:Tn
 s₀:Wd
 H₀:Hp
 env:Env
 outer:List Env
 stack:List Env
 ex:Tr
 fn:Str->Bool
 calm:Bool
 pn:Tg
 xe:Ti
def frs (l:List Env):Tr:=l.filterMap (·.frame)
abbrev Cx.fs (X:Cx):Tr:=frs X.outer
def iZ (sc:WX)(x:Str):Prop:=sc.names.lookup x=some .local\/sc.names.lookup x=some .cell\/sc.names.lookup x=some .free
def Loc (sc:WX)(x:Str):Prop:=sc.names.lookup x=some .local\/sc.names.lookup x=some .cell
def Look (env:Env)(h:Heap)(m:Tj)(x:Str)(u:Wb):Prop:=
 (env.kindOf x=some .local/\m x=some u)\/((env.kindOf x=some .cell\/env.kindOf x=some .free)/\∃c,env.cells.lookup x=some c/\h.IsCell c (some u))
structure Cx.Ok (X:Cx):Prop where
 mod:Mod X.K X.mg X.base
 kind:X.env.scope.kind=.function
 glob:X.env.globals=Wg
 blt:X.env.builtins=builtinsNs
 above:X.s₀.heap.objs.size<=X.env.locals
 inj:∀x y c,X.env.cells.lookup x=some c->X.env.cells.lookup y=some c->x=y
 has:∀x,(X.env.kindOf x=some .cell\/X.env.kindOf x=some .free)->∃c,X.env.cells.lookup x=some c
 cab:∀x c,X.fn x=true->X.env.cells.lookup x=some c->X.s₀.heap.objs.size<=c
 hd:X.calm=true->X.A.handled=none
 frames:X.A.frames=some X.stack
 oN:X.stack=X.outer\/(X.stack=X.env::X.outer/\X.env.frame=some X.env.locals)
 exf:∀b∈X.ex,b≠X.env.locals/\∀x c,X.env.cells.lookup x=some c->c≠b
 bs:∀b o,X.base.get? b=some o->X.s₀.heap.get? b=some o/\X.H₀ b=none
 bsz:X.base.objs.size<=X.s₀.heap.objs.size
 kZ:∀b o,X.base.get? b=some o->b∉X.ex
 lg:∀b∈X.ex,b∉X.fs
 gW:X.s₀.heap.FunFrames X.base X.outer
 frf:∀b∈X.fs,X.H₀ b=none
structure Inv (X:Cx)(pins:Tg)(σ:List (Option V))(H:Hp)(s:Wd):Prop where
 ok:X.Ok
 os:s.os=X.s₀.os
 bare:AllBare s.gens
 base:Un X.fs X.ex X.H₀ H X.s₀.heap s.heap
 loc:∃m,s.heap.Ns X.env.locals m/\∀(i:Nat) (x:Str) (v:V),X.N[i]? = some x->σ[i]? = some (some v)->iZ X.env.scope x->∃u,RelV v u/\Look X.env s.heap m x u
 cell:∀x c,X.env.cells.lookup x=some c->∃v,s.heap.IsCell c v
 free:H X.env.locals=none
 bY:∀x c,X.env.cells.lookup x=some c->H c=none
 pin:∀p∈X.pn++pins,s.heap.get? p.1=some p.2/\H p.1=none/\p.1≠X.env.locals/\p.1∉X.fs/\∀v,p.2.data≠.cell v
 hok:cV X.prog X.w H s.heap
 len:σ.length=X.N.length
section
variable {X:Cx}{pins:Tg}{σ:List (Option V)}{H H':Hp}{s:Wd}{h':Heap}
theorem Cx.Ok.Aw (ok:X.Ok)(e:X.base.get? b=some o):b∉X.fs:=λhb=>by
 have:=(ok.gW.mem hb).1;rw[e]at this;cases this
theorem Inv.bs (I:Inv X pins σ H s):∀b o,X.base.get? b=some o->s.heap.get? b=some o/\H b=none:=λb o e=>
 ⟨I.base.keep b o (I.ok.bs b o e).1 (I.ok.bs b o e).2 (I.ok.Aw e) (I.ok.kZ b o e),I.base.free b o (I.ok.bs b o e).1 (I.ok.bs b o e).2 (I.ok.kZ b o e)⟩
theorem Inv.bk (I:Inv X pins σ H s):∀b o,X.base.get? b=some o->s.heap.get? b=some o:=λb o e=>(I.bs b o e).1
theorem Inv.mod (I:Inv X pins σ H s):Mod X.K X.mg X.base:=I.ok.mod
theorem Inv.qd (I:Inv X pins σ H s):X.K.In s.heap:=I.ok.mod.Av.keeps I.bk
theorem Inv.lt (I:Inv X pins σ H s):X.env.locals<s.heap.objs.size:=let ⟨_,hn,_⟩:=I.loc;hn.lt
theorem Inv.sz (I:Inv X pins σ H s):X.s₀.heap.objs.size<=s.heap.objs.size:=XZ I.ok.above (Nat.le_of_lt I.lt)
theorem Inv.Ax (I:Inv X pins σ H s)(h:s.heap.objs.size<=a):a∉X.fs:=λhb=>by
 obtain⟨_,o,ho,_⟩:=I.ok.gW.mem hb;exact Qg (Yc (XC ho) (XZ I.sz h)) (YI _)
theorem Inv.uo (I:Inv X pins σ H s):∀x c,X.env.cells.lookup x=some c->c≠X.env.locals:=λx c e z=>by
 obtain⟨v,o,ho,hd⟩:=I.cell x c e;obtain⟨m,⟨o',es,ep,ho',hd',_⟩,_⟩:=I.loc;rw[z,ho']at ho;cases ho;rw[hd']at hd;cases hd
theorem Inv.gW (I:Inv X pins σ H s):s.heap.FunFrames X.base X.outer:=by
 have all:∀(l:List Env),(∀b∈frs l,b∈X.fs)->X.s₀.heap.FunFrames X.base l->s.heap.FunFrames X.base l:=by
  intro l;induction l with
  | nil=>intro _ _;trivial
  | cons env r ih=>
   intro hs hl;obtain⟨hk,⟨L,o,hf,hn,ho,hd⟩,hr⟩:=hl;have hL:L∈X.fs:=hs L (by unfold frs;rw[List.filterMap_cons,hf];exact Xg);obtain⟨sl,e⟩:=I.base.slot L o ho (I.ok.frf L hL) hL λz=>I.ok.lg L z hL;exact⟨hk,⟨L,_,hf,hn,e,hd⟩,ih (λb hb=>hs b (by unfold frs;rw[List.filterMap_cons,hf];exact Xi _ hb)) hr⟩
 exact all X.outer (λ_ hb=>hb) I.ok.gW
theorem Inv.stack (I:Inv X pins σ H s):s.heap.FunFrames X.base X.stack:=by
 rcases I.ok.oN with e | ⟨e,hf⟩
 ·rw[e];exact I.gW
 ·rw[e];obtain⟨m,hn,_⟩:=I.loc;refine .cons (by rw[I.ok.kind];decide) hf hn ?_ I.gW;exact Heap.get?_none_of_le (XZ I.ok.bsz I.ok.above)
theorem Inv.Ay (I:Inv X pins σ H s):∀b∈frs X.stack,b∈X.env.locals::X.fs:=λb hb=>by
 rcases I.ok.oN with e | ⟨e,hf⟩
 ·rw[e]at hb;exact Xi _ hb
 ·rw[e]at hb;unfold frs at hb;rw[List.filterMap_cons,hf]at hb;exact hb
theorem Inv.Gk (I:Inv X pins σ H s):∀b∈frs X.stack,H b=none:=λb hb=>by
 rcases Xx.mp (I.Ay b hb)with e | hb
 ·rw[e];exact I.free
 ·obtain⟨_,o,ho,_⟩:=I.ok.gW.mem hb;exact I.base.free b o ho (I.ok.frf b hb) λz=>I.ok.lg b z hb
theorem Inv.step {g':Array GenState}{t':Nat}{d':Drawn}{ch:Tr}(I:Inv X pins σ H s)
  (hch:∀b∈ch,(b∈X.ex\/X.s₀.heap.objs.size<=b)/\b≠X.env.locals/\(∀x c,X.env.cells.lookup x=some c->c≠b)/\∀p∈X.pn++pins,p.1≠b)
  (keep:∀b o,b≠X.env.locals->b∉X.fs->b∉ch->s.heap.get? b=some o->H b=none->h'.get? b=some o)
  (slot:∀b o,b≠X.env.locals->b∈X.fs->b∉ch->s.heap.get? b=some o->H b=none->∃sl,h'.get? b=some { o with slots:=sl }) (free:∀b o,b∉ch->s.heap.get? b=some o->H b=none->H' b=none)
  (there:∀b o,b∉ch->s.heap.get? b=some o->∃o',h'.get? b=some o')
  (tups:∀b xs,H b=some (.tup xs)->H' b=some (.tup xs)) (dO:∀b o u,H b=some (.aH o u)->H' b=some (.aH o u)) (f9:∀b ps,H b=some (.qK ps)->∃more,H' b=some (.qK (ps++more)))
  (ns:∀m,s.heap.Ns X.env.locals m->h'.Ns X.env.locals m) (hok:cV X.prog X.w H' h') (hg:AllBare g') :
  Inv X pins σ H' { s with heap:=h',gens:=g',drawn:=d',toks:=t' }:=by
 have neL:∀b o,X.s₀.heap.get? b=some o->b≠X.env.locals:=λb o e=>XM (Yc (XC e) I.ok.above);have neC:∀b o,X.s₀.heap.get? b=some o->b∉X.ex->b∉ch:=λb o e hx hb=>by
  rcases(hch b hb).1 with z | z
  ·exact hx z
  ·exact Qg (Yc (XC e) z) (YI _)
 have cellK:∀x c,X.env.cells.lookup x=some c->∀v,s.heap.IsCell c v->h'.IsCell c v:=λx c e v ⟨o,ho,hd⟩=>by
  have nch:c∉ch:=λz=>(hch c z).2.2.1 x c e rfl;by_cases hc:c∈X.fs
  ·obtain⟨sl,q⟩:=slot c o (I.uo x c e) hc nch ho (I.bY x c e);exact⟨_,q,hd⟩
  ·exact⟨o,keep c o (I.uo x c e) hc nch ho (I.bY x c e),hd⟩
 refine⟨I.ok,I.os,hg,⟨λb o e n hb hx=>?_,λb o e n hb hx=>?_,λb o e n hx=>?_,λb o e hx=>?_,λb xs e=>tups b xs (I.base.tups b xs e),λb o xs e=>dO b o xs (I.base.dO b o xs e),λb ps e=>?_⟩,?_,λx c e=>?_,?_,λx c e=>?_,λp hp=>?_,hok,I.len⟩
 ·exact keep b o (neL b o e) hb (neC b o e hx) (I.base.keep b o e n hb hx) (I.base.free b o e n hx)
 ·obtain⟨sl,e1⟩:=I.base.slot b o e n hb hx;obtain⟨sl',e2⟩:=slot b _ (neL b o e) hb (neC b o e hx) e1 (I.base.free b o e n hx);exact⟨sl',e2⟩
 ·obtain⟨o',e1⟩:=I.base.there b o e hx;exact free b o' (neC b o e hx) e1 (I.base.free b o e n hx)
 ·obtain⟨o',e1⟩:=I.base.there b o e hx;exact there b o' (neC b o e hx) e1
 ·obtain⟨m1,e1⟩:=I.base.f9 b ps e;obtain⟨m2,e2⟩:=f9 b _ e1;exact⟨m1++m2,by rw[e2,Array.append_assoc]⟩
 ·obtain⟨m,hn,hl⟩:=I.loc;refine⟨m,ns m hn,λi x v e1 e2 e3=>?_⟩;obtain⟨u,r,l⟩:=hl i x v e1 e2 e3;refine⟨u,r,?_⟩;rcases l with l | ⟨k,c,e,z⟩
  ·exact .inl l
  ·exact .inr ⟨k,c,e,cellK x c e _ z⟩
 ·obtain⟨v,z⟩:=I.cell x c e;exact⟨v,cellK x c e v z⟩
 ·obtain⟨m,⟨o,_,_,ho,_⟩,_⟩:=I.loc;exact free _ o (λz=>(hch _ z).2.1 rfl) ho I.free
 ·obtain⟨v,o,ho,hd⟩:=I.cell x c e;exact free c o (λz=>(hch c z).2.2.1 x c e rfl) ho (I.bY x c e)
 ·obtain⟨e,n,ne,nf,d⟩:=I.pin p hp;have nch:p.1∉ch:=λz=>(hch p.1 z).2.2.2 p hp rfl;exact⟨keep p.1 p.2 ne nf nch e n,free p.1 p.2 nch e n,ne,nf,d⟩
theorem Inv.un {t':Nat}(I:Inv X pins σ H s)(u:Un X.fs [] H H' s.heap h')(hok:cV X.prog X.w H' h'):Inv X pins σ H' { s with heap:=h',toks:=t' }:=by
 obtain⟨m,⟨o,es,ep,ho,r⟩,_⟩:=id I.loc;obtain⟨sl,hL⟩:=u.any ho I.free (by simp);exact I.step (g':=s.gens) (d':=s.drawn) (ch:=[]) (λ_ z=>nomatch z) (λb o _ hb _ e n=>u.keep b o e n hb (by simp)) (λb o _ hb _ e n=>u.slot b o e n hb (by simp)) (λb o _ e n=>u.free b o e n (by simp)) (λb o _ e=>u.there b o e (by simp)) u.tups u.dO u.f9 (λm' hm=>by
  obtain⟨o',es',ep',ho',r'⟩:=hm;rw[ho]at ho';cases ho';exact⟨_,es',ep',hL,r'⟩) hok I.bare
theorem Inv.call {g':Array GenState}{t':Nat}{d':Drawn}{ch:Tr}(I:Inv X pins σ H s)(u:Un (frs X.stack) ch H H' s.heap h')(hok:cV X.prog X.w H' h')(hg:AllBare g')
  (hch:∀b∈ch,(b∈X.ex\/X.s₀.heap.objs.size<=b)/\b≠X.env.locals/\(∀x c,X.env.cells.lookup x=some c->c≠b)/\∀p∈X.pn++pins,p.1≠b) :
  Inv X pins σ H' { s with heap:=h',gens:=g',drawn:=d',toks:=t' }:=by
 obtain⟨m,⟨o,es,ep,ho,r⟩,_⟩:=id I.loc;obtain⟨sl,hL⟩:=u.any ho I.free λz=>(hch _ z).2.1 rfl;exact I.step (ch:=ch) hch (λb o hL hb hc e n=>u.keep b o e n (λz=>(Xx.mp (I.Ay b z)).elim hL hb) hc) (λb o _ _ hc e n=>u.any e n hc) (λb o hc e n=>u.free b o e n hc) (λb o hc e=>u.there b o e hc) u.tups u.dO u.f9 (λm' hm=>by
  obtain⟨o',es',ep',ho',r'⟩:=hm;rw[ho]at ho';cases ho';exact⟨_,es',ep',hL,r'⟩) hok hg
theorem Inv.turned {t':Nat}{it:We}(I:Inv X pins σ H s)(k:∀b o,b≠it->s.heap.get? b=some o->h'.get? b=some o)(hn:H it=none)(hL:it≠X.env.locals)
  (h1:it∈X.ex\/X.s₀.heap.objs.size<=it) (h2:∀x c,X.env.cells.lookup x=some c->c≠it) (h3:∀p∈X.pn++pins,p.1≠it):Inv X pins σ H { s with heap:=h',toks:=t' }:=by
 have nit:∀b u,H b=some u->b≠it:=λb u e z=>by rw[z,hn]at e;cases e
 refine I.step (g':=s.gens) (d':=s.drawn) (ch:=[it]) (λb hb=>?_) (λb o _ _ hc e _=>k b o (λz=>hc (by simp[z])) e) (λb o _ _ hc e _=>⟨o.slots,k b o (λz=>hc (by simp[z])) e⟩) (λ_ _ _ _ n=>n)
  (λb o hc e=>⟨o,k b o (λz=>hc (by simp[z])) e⟩) (λ_ _ e=>e) (λ_ _ _ e=>e) (λb ps e=>⟨#[],by rw[e];simp⟩) (λm hm=>?_) (λb u e=>?_) I.bare
 ·have e:b=it:=by simpa using hb
  subst e;exact⟨h1,hL,h2,h3⟩
 ·obtain⟨o,es,ep,ho,r⟩:=hm;exact⟨o,es,ep,k _ o (Qz hL) ho,r⟩
 ·refine(I.hok b u e).stay (λc v hc q=>k c v ?_ q) (λ_ q=>q) λ_ _ q=>q;rcases hc with z | z
  ·rw[z];exact nit b u e
  ·exact nit c _ z
theorem Inv.tok (I:Inv X pins σ H s)(t:Nat):Inv X pins σ H { s with toks:=t }:=I.un (h':=s.heap) (t':=t) Un.refl I.hok
theorem Inv.kept {t':Nat}(I:Inv X pins σ H s)(k:∀b u,s.heap.get? b=some u->h'.get? b=some u):Inv X pins σ H { s with heap:=h',toks:=t' }:=I.un (Un.kept k) (I.hok.kept k)
theorem Inv.laid {o:HO}{t':Nat}(I:Inv X pins σ H s)(k:∀b u,s.heap.get? b=some u->h'.get? b=some u)(hp:s.heap.objs.size<=a)(new:dg X.prog X.w (upd H a o) h' a o) :
  Inv X pins σ (upd H a o) { s with heap:=h',toks:=t' }:=I.un (Un.laid k hp (I.hok.fresh hp)) (I.hok.laid k hp new)
theorem Inv.write {x e:We}{o:HO}{t':Nat}(I:Inv X pins σ H s)(mu:wH (H x))(he:e=x\/H e=some (.own x))(k:∀b u,b≠e->s.heap.get? b=some u->h'.get? b=some u)(heo:∃u,h'.get? e=some u)
  (new:dg X.prog X.w (upd H x o) h' x o):Inv X pins σ (upd H x o) { s with heap:=h',toks:=t' }:=I.un (Un.write mu he k heo) (I.hok.write mu he k heo new)
theorem Inv.Gm {sG:Tg}(I:Inv X pins σ H s)(h:∀p∈sG,s.heap.get? p.1=some p.2/\H p.1=none/\p.1≠X.env.locals/\p.1∉X.fs/\∀v,p.2.data≠.cell v):Inv X sG σ H s:=
 ⟨I.ok,I.os,I.bare,I.base,I.loc,I.cell,I.free,I.bY,λp hp=>(Xr.mp hp).elim (λz=>I.pin p (List.mem_append_left _ z)) (h p),I.hok,I.len⟩
theorem Gn {N:Tn}(hN:N.Nodup)(a:N[i]? = some x)(b:N[j]? = some x):i=j:=by
 obtain⟨h1,e1⟩:=Xf.mp a;obtain⟨h2,e2⟩:=Xf.mp b;exact(List.getElem_inj hN).mp (e1.trans e2.symm)
theorem Gp {M:Model}{A:Wv}{E:Ti}{i:Nat}{x:Str}{v:V}{u:Wb}{Q:Unit->Wd->Prop}(I:Inv X pins σ H s)(hN:X.N.Nodup)(hi:X.N[i]? = some x)(hx:Loc X.env.scope x)(r:RelV v u)
  (h:∀s',Inv X pins (σ.set i (some v)) H s'->(∃a,Ys a s.heap s'.heap/\(a=X.env.locals\/X.env.cells.lookup x=some a))->Q () s') (hf:X.fn x=true\/X.env.scope.names.lookup x=some .local:=by first | exact .inl rfl | exact .inr rfl | assumption):Wj M A (storeName X.env x u) Q E s:=by
 obtain⟨m,hn,hl⟩:=id I.loc;have hcls:(X.env.scope.kind == .class||(X.env.scope.kind == .module&&X.env.locals != X.env.globals))=false:=by rw[I.ok.kind];rfl
 have hiσ:i<σ.length:=by rw[I.len];exact(Xf.mp hi).1
 have uo:=I.uo;have tracked:∀ {a:We} {h':Heap},(∃o,s.heap.get? a=some o/\H a=none)->Ys a s.heap h'->cV X.prog X.w H h':=λ{a h'} ha hs b ob e=>by
  obtain⟨_,_,hfree⟩:=ha;refine(I.hok b ob e).stay (λc w' hc q=>(hs.2 c ?_).trans q) (λ_ q=>q) λ_ _ q=>q;rintro rfl;rcases hc with rfl | hc
  ·rw[hfree]at e;cases e
  ·rw[hfree]at hc;cases hc
 rcases hx with hk | hk
 ·refine wpAny_storeName_local hk hn (λh' hn' hs=>?_) hcls;obtain⟨oL,_,_,hoL,_⟩:=id hn;refine h _ ⟨I.ok,I.os,I.bare,⟨λb o e n hb hx=>?_,λb o e n hb hx=>?_,I.base.free,λb o e hx=>?_,I.base.tups,I.base.dO,I.base.f9⟩,⟨_,hn',λj y v' e1 e2 e3=>?_⟩,λy c e=>?_,I.free,I.bY,λp hp=>?_,tracked ⟨oL,hoL,I.free⟩ hs,by simpa using I.len⟩ ⟨_,hs,.inl rfl⟩
  ·exact(hs.2 b (XM (Yc (XC e) I.ok.above))).trans (I.base.keep b o e n hb hx)
  ·obtain⟨sl,e1⟩:=I.base.slot b o e n hb hx;exact⟨sl,(hs.2 b (XM (Yc (XC e) I.ok.above))).trans e1⟩
  ·obtain⟨o',e1⟩:=I.base.there b o e hx;exact⟨o',(hs.2 b (XM (Yc (XC e) I.ok.above))).trans e1⟩
  ·by_cases hj:j=i
   ·subst hj;rw[hi]at e1;cases e1;rw[Xm hiσ]at e2;cases e2;exact⟨u,r,.inl ⟨hk,by simp⟩⟩
   ·rw[Xk (Qz hj)]at e2;obtain⟨u',r',q⟩:=hl j y v' e1 e2 e3;refine⟨u',r',?_⟩;rcases q with ⟨k,e⟩ | ⟨k,c,e,z⟩
    ·refine .inl ⟨k,?_⟩;have:y≠x:=λe=>hj (Gn hN e1 (e▸hi));simp[this,e]
    ·exact .inr ⟨k,c,e,z.sameBut hs (uo y c e)⟩
  ·obtain⟨w',z⟩:=I.cell y c e;exact⟨w',z.sameBut hs (uo y c e)⟩
  ·obtain⟨e,n,ne,nf,d⟩:=I.pin p hp;exact⟨(hs.2 p.1 ne).trans e,n,ne,nf,d⟩
 ·have hfn:X.fn x=true:=by
   rcases hf with z | z
   ·exact z
   ·rw[z]at hk;cases hk
  obtain⟨c,hc⟩:=I.ok.has x (.inl hk);obtain⟨w',z⟩:=I.cell x c hc;refine wpAny_storeName_cell I.ok.kind hk hc z (λh' hc' hs=>?_);obtain⟨oc,hoc,hocd⟩:=id z;refine h { s with heap:=h' } ⟨I.ok,I.os,I.bare,⟨λb o e n hb hx=>?_,λb o e n hb hx=>?_,I.base.free,λb o e hx=>?_,I.base.tups,I.base.dO,I.base.f9⟩,⟨m,hn.sameBut hs (Qz (uo x c hc)),λj y v' e1 e2 e3=>?_⟩,λy c' e=>?_,I.free,I.bY,λp hp=>?_,tracked ⟨oc,hoc,I.bY x c hc⟩ hs,by simpa using I.len⟩ ⟨c,hs,.inr hc⟩
  ·exact(hs.2 b (XM (Yc (XC e) (I.ok.cab x c hfn hc)))).trans (I.base.keep b o e n hb hx)
  ·obtain⟨sl,e1⟩:=I.base.slot b o e n hb hx;exact⟨sl,(hs.2 b (XM (Yc (XC e) (I.ok.cab x c hfn hc)))).trans e1⟩
  ·obtain⟨o',e1⟩:=I.base.there b o e hx;exact⟨o',(hs.2 b (XM (Yc (XC e) (I.ok.cab x c hfn hc)))).trans e1⟩
  ·by_cases hj:j=i
   ·subst hj;rw[hi]at e1;cases e1;rw[Xm hiσ]at e2;cases e2;exact⟨u,r,.inr ⟨.inl hk,c,hc,hc'⟩⟩
   ·rw[Xk (Qz hj)]at e2;obtain⟨u',r',q⟩:=hl j y v' e1 e2 e3;refine⟨u',r',?_⟩;rcases q with q | ⟨k,c',e,z'⟩
    ·exact .inl q
    ·refine .inr ⟨k,c',e,z'.sameBut hs ?_⟩;rintro rfl;exact hj (Gn hN e1 (I.ok.inj _ _ _ e hc▸hi))
  ·by_cases hcc:c'=c
   ·subst hcc;exact⟨_,hc'⟩
   ·obtain⟨w2,z2⟩:=I.cell y c' e;exact⟨w2,z2.sameBut hs hcc⟩
  ·obtain⟨e,n,ne,nf,d⟩:=I.pin p hp;refine⟨(hs.2 p.1 ?_).trans e,n,ne,nf,d⟩;intro q;rw[q,hoc]at e;have q':oc=p.2:=Qa e;exact d w' (by rw[<- q'];exact hocd)
theorem Gq {M:Model}{A:Wv}{E:Ti}{i:Nat}{x:Str}{v:V}{u:Wb}{Q:Unit->Wd->Prop}(I:Inv X pins σ H s)(hN:X.N.Nodup)(hi:X.N[i]? = some x)(hx:Loc X.env.scope x)(r:RelV v u)
  (h:∀s',Inv X pins (σ.set i (some v)) H s'->Q () s') (hf:X.fn x=true\/X.env.scope.names.lookup x=some .local:=by first | exact .inl rfl | exact .inr rfl | assumption):Wj M A (storeName X.env x u) Q E s:=
 Gp I hN hi hx r (λs' I' _=>h s' I') hf
theorem Inv.call' {s':Wd}{ch:Tr}(I:Inv X pins σ H s)(ho:s'.os=s.os)(u:Un (frs X.stack) ch H H' s.heap s'.heap)(hok:cV X.prog X.w H' s'.heap)(hg:AllBare s'.gens)
  (hch:∀b∈ch,(b∈X.ex\/X.s₀.heap.objs.size<=b)/\b≠X.env.locals/\(∀x c,X.env.cells.lookup x=some c->c≠b)/\∀p∈X.pn++pins,p.1≠b):Inv X pins σ H' s':=by
 obtain⟨h',g',d',t',o'⟩:=s';have e:o'=s.os:=ho;subst e;exact I.call (g':=g') (t':=t') (d':=d') u hok hg hch
end
abbrev XK:=Wb->Option We->Hp->Prop
abbrev St:=List (Option V)
abbrev VK:=V->Hp->Prop
abbrev TE:=St->Hp->VK->Prop
abbrev TT:=St->Hp->(Bool->Hp->Prop)->Prop
abbrev TA:=St->Hp->(List V->Hp->Prop)->Prop
structure Ends where
 nx:St->Hp->Prop
 rt:VK
 bk:St->Hp->Prop:=λ_ _=>False
 ct:St->Hp->Prop:=λ_ _=>False
abbrev TS:=Ends->St->Hp->Prop
def EP (X:Cx)(pins:Tg)(σ:St)(Q:VK)(u:Wb)(s':Wd):Prop:=∃v H',Inv X pins σ H' s'/\RelV v u/\Q v H'
def TP (X:Cx)(pins:Tg)(σ:St)(Q:Bool->Hp->Prop)(b:Bool)(s':Wd):Prop:=∃H',Inv X pins σ H' s'/\Q b H'
def AP (X:Cx)(pins:Tg)(σ:St)(Q:List V->Hp->Prop)(us:Tq)(s':Wd):Prop:=∃vs H',Inv X pins σ H' s'/\Vals vs us/\Q vs H'
def SP (X:Cx)(pins:Tg)(D:Ends)(f:Flow)(s':Wd):Prop:=
 match f with
 | .next=>∃σ' H',Inv X pins σ' H' s'/\D.nx σ' H'
 | .brk=>∃σ' H',Inv X pins σ' H' s'/\D.bk σ' H'
 | .cont=>∃σ' H',Inv X pins σ' H' s'/\D.ct σ' H'
 | .ret u=>∃v σ' H',Inv X pins σ' H' s'/\RelV v u/\D.rt v H'
def PE (X:Cx)(e:Expr)(t:TE):Prop:=
 ∀(pins:Tg) (s:Wd) (σ:St) (H:Hp) (Q:VK),Inv X pins σ H s->t σ H Q->Wj (Wm X.prog X.w) X.A (Wx e X.env) (EP X pins σ Q) X.xe s
def PT (X:Cx)(e:Expr)(t:TT):Prop:=
 ∀(pins:Tg) (s:Wd) (σ:St) (H:Hp) (Q:Bool->Hp->Prop),Inv X pins σ H s->t σ H Q->Wj (Wm X.prog X.w) X.A (isTrue e X.env (Wx e X.env)) (TP X pins σ Q) X.xe s
def PW (X:Cx)(e:Expr)(t:TT):Prop:=
 ∀(whole:Sem Wb) (pins:Tg) (s:Wd) (σ:St) (H:Hp) (Q:Bool->Hp->Prop),Inv X pins σ H s->t σ H Q->Wj (Wm X.prog X.w) X.A (isTrue e X.env whole) (TP X pins σ Q) X.xe s
theorem PW.pt {t:TT}(h:PW X e t):PT X e t:=h _
def PA (X:Cx)(es:List Expr)(t:TA):Prop:=
 ∀(pos:Pos) (pins:Tg) (s:Wd) (σ:St) (H:Hp) (Q:List V->Hp->Prop),Inv X pins σ H s->t σ H Q->Wj (Wm X.prog X.w) X.A (spliced (Wu pos (Wf es X.env))) (AP X pins σ Q) X.xe s
def PS (X:Cx)(st:WJ)(t:TS):Prop:=
 ∀(pins:Tg) (s:Wd) (σ:St) (H:Hp) (D:Ends),Inv X pins σ H s->t D σ H->Wj (Wm X.prog X.w) X.A (exec st X.env) (SP X pins D) X.xe s
def dh (X:Cx)(st:List WJ)(t:TS):Prop:=
 ∀(pins:Tg) (s:Wd) (σ:St) (H:Hp) (D:Ends),Inv X pins σ H s->t D σ H->Wj (Wm X.prog X.w) X.A (execs st X.env) (SP X pins D) X.xe s
theorem aM {α:Type}{t:Sem α}{Q Q':α->Wd->Prop}(h:Wj M A t Q E s)(hQ:∀a s,Q a s->Q' a s):Wj M A t Q' E s:=W8 h hQ λ_ _ x=>x
section
variable {X:Cx}
def wI (i:Nat):TE:=λσ H Q=>∃v,σ[i]? = some (some v)/\Q v H
def tC (v:V):TE:=λ_ H Q=>Q v H
theorem jn (hN:X.N[i]? = some x)(hv:iZ X.env.scope x)(hd:(x == ("__debug__" : Str))=false:=by decide) (hcd:(x == ("__classdict__" : Str))=false:=by decide):PE X (.Name x pos) (wI i):=by
 intro pins s σ H Q I h;obtain⟨v,e,h⟩:=h;obtain⟨m,hn,hl⟩:=I.loc;obtain⟨u,r,l⟩:=hl i x v hN e hv;have fin:EP X pins σ Q u s:=⟨v,H,I,r,h⟩;rcases l with ⟨hk,hm⟩ | ⟨hk,c,hc,hcell⟩
 ·exact wpAny_Name (wpAny_loadName_local I.ok.kind hk hn hm fin) hd
 ·rcases hk with hk | hk
  ·exact wpAny_Name (wpAny_loadName_cell I.ok.kind hk hc hcell fin) hd
  ·exact wpAny_Name (wpAny_loadName_free I.ok.kind hk hc hcell fin hcd) hd
theorem Gr {i j pos}:PE X (.Constant (.int i) j pos) (tC (.int i)):=λ_ _ _ H _ I h=>wpAny_Constant_int ⟨.int i,H,I.tok _,⟨_,rfl⟩,h⟩
theorem Gs {b j pos}:PE X (.Constant (.bool b) j pos) (tC (.bl b)):=λ_ _ _ H _ I h=>Constant_bool ⟨.bl b,H,I,rfl,h⟩
theorem Az {j pos}:PE X (.Constant .none j pos) (tC .non):=λ_ _ _ H _ I h=>Constant_none ⟨.non,H,I,rfl,h⟩
theorem Sy {x j pos}:PE X (.Constant (.str x) j pos) (tC (.str x)):=λ_ _ _ H _ I h=>Calls.Constant_str ⟨.str x,H,I.tok _,⟨_,rfl⟩,h⟩
def Gl (X:Cx)(x:Str):Prop:=X.env.kindOf x=some .globalImplicit
theorem SJ {E:Ti}{pins:Tg}{s:Wd}{σ:St}{H:Hp}{x:Str}{u:Wb}{pos:Pos}{Q:Ti}(I:Inv X pins σ H s)(hg:Gl X x)(hm:X.mg x=some u)(h:Q u s)
  (hd:(x == ("__debug__" : Str))=false:=by decide):Wj (Wm X.prog X.w) X.A (Wx (.Name x pos) X.env) Q E s:=
 Calls.Name_function_global I.ok.kind hg (Calls.loadGlobal_global (by rw[I.ok.glob];exact I.mod.glob.keeps I.bk) hm h) hd
theorem qL {E:Ti}{pins:Tg}{s:Wd}{σ:St}{H:Hp}{x:Str}{u:Wb}{pos:Pos}{Q:Ti}(I:Inv X pins σ H s)(hg:Gl X x)(hm:X.mg x=none)(hv:Wt x=some u)(h:Q u s)
  (hn:x≠"__name__":=by decide) (hd:(x == ("__debug__" : Str))=false:=by decide):Wj (Wm X.prog X.w) X.A (Wx (.Name x pos) X.env) Q E s:=by
 obtain⟨mb,h1,h2⟩:=I.mod.blt;exact Calls.Name_function_global I.ok.kind hg (Calls.loadGlobal_builtin (by rw[I.ok.glob];exact I.mod.glob.keeps I.bk) hm (by rw[I.ok.blt];exact h1.keeps I.bk) ((h2 x hn).trans hv) h) hd
theorem SM {v:V}(hg:Gl X x)(hm:X.mg x=none)(hv:Wt x=some u)(r:RelV v u)(hn:x≠"__name__":=by decide) (hd:(x == ("__debug__" : Str))=false:=by decide):PE X (.Name x pos) (tC v):=
 λ_ _ _ H _ I h=>qL I hg hm hv ⟨v,H,I,r,h⟩ hn hd
variable {a b:Expr}{ta tb:TE}{pos:Pos}
def PC (X:Cx)(op:CmpOp)(a b:Expr)(t:TE):Prop:=
 ∀(pins:Tg) (s:Wd) (σ:St) (H:Hp) (Q:VK),Inv X pins σ H s->t σ H Q->
  Wj (Wm X.prog X.w) X.A (Wx a X.env) (λv s₁=>Wj (Wm X.prog X.w) X.A (Wx b X.env) (λu s₂=>Wj (Wm X.prog X.w) X.A (WU op v u) (EP X pins σ Q) X.xe s₂) X.xe s₁) X.xe s
def tB (t:TE):TT:=λσ H Q=>t σ H λx H1=>∃c,x=.bl c/\Q c H1
theorem SN {t:TE}(h:PC X op a b t)(h1:Ww op b=false:=by first | exact oO _ (by decide) (by decide) | rfl):PE X (.Compare a [op] [b] pos) t:=λpins s σ H Q I hw=>wpAny_Compare1 (h pins s σ H Q I hw) h1
theorem Gu {t:TE}(h:PC X op a b t)(h1:Ww op b=false:=by first | exact oO _ (by decide) (by decide) | rfl):PT X (.Compare a [op] [b] pos) (tB t):=by
 intro pins s σ H Q I hw;refine wpAny_isTrue_Compare1 (aM (h pins s σ H _ I hw) λv s1 h1=>aM h1 λu s2 h2=>aM h2 λc s3 ⟨x,H1,I1,r1,q1⟩=>?_) h1;obtain⟨d,rfl,q⟩:=q1;cases r1;exact WR ⟨H1,I1,q⟩
variable {tA j4:TT}{rest:List Expr}
def Ba (t u:TT):TT:=λσ H Q=>t σ H λc H1=>if c=true then u σ H1 Q else Q false H1
def SQ (t u:TT):TT:=λσ H Q=>t σ H λc H1=>if c=true then Q true H1 else u σ H1 Q
def Bb (t:TT):TT:=λσ H Q=>t σ H λc H1=>Q (!c) H1
theorem SX (ha:PT X a tA):PW X (.BoolOp .And [a] pos) tA:=by
 intro wh pins s σ H Q I h;refine isTrue_and (aM (ha pins s σ H Q I h) λc s1 e=>?_);cases c with
 | true=>exact isTrue_and_nil e
 | false=>exact e
theorem S5 (ha:PT X a tA):PW X (.BoolOp .Or [a] pos) tA:=by
 intro wh pins s σ H Q I h;refine isTrue_or (aM (ha pins s σ H Q I h) λc s1 e=>?_);cases c with
 | false=>exact isTrue_or_nil e
 | true=>exact e
theorem S6 (ha:PT X a tA)(hb:PW X (.BoolOp .And (b::rest) pos) j4):PW X (.BoolOp .And (a::b::rest) pos) (Ba tA j4):=by
 intro wh pins s σ H Q I h;refine isTrue_and (aM (ha pins s σ H _ I h) λc s1 ⟨H1,I1,q1⟩=>?_);cases c with
 | true=>exact hb wh pins s1 σ H1 Q I1 q1
 | false=>exact⟨H1,I1,q1⟩
theorem S7 (ha:PT X a tA)(hb:PW X (.BoolOp .Or (b::rest) pos) j4):PW X (.BoolOp .Or (a::b::rest) pos) (SQ tA j4):=by
 intro wh pins s σ H Q I h;refine isTrue_or (aM (ha pins s σ H _ I h) λc s1 ⟨H1,I1,q1⟩=>?_);cases c with
 | true=>exact⟨H1,I1,q1⟩
 | false=>exact hb wh pins s1 σ H1 Q I1 q1
theorem S8 (ha:PT X a tA):PT X (.UnaryOp .Not a pos) (Bb tA):=by
 intro pins s σ H Q I h;exact isTrue_not (ha pins s σ H (λc H1=>Q (!c) H1) I h)
def S9 (t:TT)(ta tb:TE):TE:=λσ H Q=>t σ H λc H1=>if c=true then ta σ H1 Q else tb σ H1 Q
theorem Tz (hc:PT X c tA)(ha:PE X a ta)(hb:PE X b tb):PE X (.IfExp c a b pos) (S9 tA ta tb):=by
 intro pins s σ H Q I h;refine wpAny_IfExp (aM (hc pins s σ H _ I h) λd s1 ⟨H1,I1,q1⟩=>?_);cases d with
 | true=>exact ha pins s1 σ H1 Q I1 q1
 | false=>exact hb pins s1 σ H1 Q I1 q1
end
def aR (K:Xc)(H:Hp)(a:We)(xs:List V):Prop:=
 Rd H a (.lst xs)\/
  ∃(o:Obj) (its:Array Wb) (n:Nat),K.lookup a=some o/\o.cls=.type "list"/\o.dict=none/\o.data=.seq its n/\its.size<=Wi/\Vals xs its.toList
def bG (K:Xc)(H:Hp)(a:We)(xs:List V):Prop:=
 Rd H a (.tup xs)\/
  ∃(o:Obj) (its:Array Wb) (n:Nat),K.lookup a=some o/\o.cls=.type "tuple"/\o.data=.seq its n/\its.size<=Wi/\Vals xs its.toList/\o.dict=none
def Bc:Wb->Option V
 | .none=>some .non
 | .bool b=>some (.bl b)
 | .int i _=>some (.int i)
 | .str x _=>some (.str x)
 | .bytes b _=>some (.byt b)
 | .float b _=>some (.flt b)
 | .ref a=>some (.ref a)
 | .type n=>some (.ty n)
 | _=>none
theorem RelV.abs {x:V}(r:RelV x u):Bc u=some x:=by
 cases x with
 | non=>cases r;rfl
 | bl _=>cases r;rfl
 | int _=>obtain⟨t,rfl⟩:=r;rfl
 | str _=>obtain⟨t,rfl⟩:=r;rfl
 | byt _=>obtain⟨t,rfl⟩:=r;rfl
 | flt _=>obtain⟨t,rfl⟩:=r;rfl
 | ref _=>cases r;rfl
 | ty _=>cases r;rfl
theorem RelV.inj {x y:V}(r:RelV x u)(q:RelV y u):x=y:=Qa (r.abs.symm.trans q.abs)
theorem Vals.inj:∀ {xs ys:List V}{us:Tq},Vals xs us->Vals ys us->xs=ys:=by
 intro xs ys us h;induction h generalizing ys with
 | nil=>intro h2;cases h2;rfl
 | cons r t ih=>
  intro h2;cases h2 with
  | cons r' t'=>rw[r.inj r',ih t']
section
variable {X:Cx}{pins:Tg}{σ:St}{H:Hp}{s:Wd}{a:We}{xs ys:List V}
theorem aR.of (h:H a=some (.lst xs)):aR K H a xs:=.inl (.inl h)
theorem bG.of (h:H a=some (.tup xs)):bG K H a xs:=.inl (.inl h)
theorem Inv.list (I:Inv X pins σ H s)(h:aR X.K H a xs):∃its:Tq,Vals xs its/\PlainL s.heap a its.toArray/\xs.length<=Wi:=by
 rcases h with h | ⟨o,its,n,hk,hc,hd,hs,hz,r⟩
 ·obtain⟨z,its,n,r,e⟩:=h.ok I.hok;exact⟨its,r,⟨_,n,e,rfl,rfl,rfl⟩,z⟩
 ·refine⟨its.toList,r,⟨o,n,I.qd a o hk,hc,hd,by simpa using hs⟩,?_⟩;have e:=r.length;simp only[XB]at e;lia
theorem Inv.tuple (I:Inv X pins σ H s)(h:bG X.K H a xs):∃its:Tq,Vals xs its/\IsTup s.heap a its.toArray/\xs.length<=Wi:=by
 rcases h with h | ⟨o,its,n,hk,hc,hs,hz,r,_⟩
 ·obtain⟨z,its,r,p⟩:=h.ok I.hok;exact⟨its,r,p.tup,z⟩
 ·refine⟨its.toList,r,⟨o,I.qd a o hk,hc,n,by simpa using hs⟩,?_⟩;have e:=r.length;simp only[XB]at e;lia
theorem Inv.vG (I:Inv X pins σ H s)(h:aR X.K H a xs)(h':aR X.K H a ys):xs=ys:=by
 obtain⟨its,r,⟨o,n,e,_,_,d⟩,_⟩:=I.list h;obtain⟨its',r',⟨o',n',e',_,_,d'⟩,_⟩:=I.list h';rw[e]at e';cases e';rw[d]at d';injection d' with d1 _;have:its=its':=by simpa using congrArg Array.toList d1
 subst this;exact r.inj r'
theorem Inv.Gv (I:Inv X pins σ H s)(h:bG X.K H a xs)(h':bG X.K H a ys):xs=ys:=by
 obtain⟨its,r,⟨o,e,_,n,d⟩,_⟩:=I.tuple h;obtain⟨its',r',⟨o',e',_,n',d'⟩,_⟩:=I.tuple h';rw[e]at e';cases e';rw[d]at d';injection d' with d1 _;have:its=its':=by simpa using congrArg Array.toList d1
 subst this;exact r.inj r'
end
abbrev Cx.wish (X:Cx)(E:Ti):Cx:={ X with xe:=E }
abbrev Cx.wJ (X:Cx):Cx:=X.wish λ_ _=>False
theorem Cx.Ok.wish (ok:X.Ok)(E:Ti):(X.wish E).Ok:=
 ⟨ok.mod,ok.kind,ok.glob,ok.blt,ok.above,ok.inj,ok.has,ok.cab,ok.hd,ok.frames,ok.oN,ok.exf,ok.bs,ok.bsz,ok.kZ,ok.lg,ok.gW,ok.frf⟩
theorem Cx.Ok.sH (ok:(X.wish E).Ok):X.Ok:=
 ⟨ok.mod,ok.kind,ok.glob,ok.blt,ok.above,ok.inj,ok.has,ok.cab,ok.hd,ok.frames,ok.oN,ok.exf,ok.bs,ok.bsz,ok.kZ,ok.lg,ok.gW,ok.frf⟩
section
variable {X:Cx}{pins:Tg}{σ:St}{H:Hp}{s:Wd}{E:Ti}
theorem Inv.wish (I:Inv X pins σ H s)(E:Ti):Inv (X.wish E) pins σ H s:=⟨I.ok.wish E,I.os,I.bare,I.base,I.loc,I.cell,I.free,I.bY,I.pin,I.hok,I.len⟩
theorem Inv.sH (I:Inv (X.wish E) pins σ H s):Inv X pins σ H s:=⟨I.ok.sH,I.os,I.bare,I.base,I.loc,I.cell,I.free,I.bY,I.pin,I.hok,I.len⟩
theorem SP.sH {D:Ends}{f:Flow}{s':Wd}(h:SP (X.wish E) pins D f s'):SP X pins D f s':=by
 cases f with
 | next=>obtain⟨σ',H',I,q⟩:=h;exact⟨σ',H',I.sH,q⟩
 | brk=>obtain⟨σ',H',I,q⟩:=h;exact⟨σ',H',I.sH,q⟩
 | cont=>obtain⟨σ',H',I,q⟩:=h;exact⟨σ',H',I.sH,q⟩
 | ret u=>obtain⟨v,σ',H',I,r,q⟩:=h;exact⟨v,σ',H',I.sH,r,q⟩
theorem dh.wJ {st:List WJ}{t:TS}(h:dh X.wJ st t):dh X st t:=λpins s σ H D I hw=>
 W8 (h pins s σ H D (I.wish _) hw) (λ_ _ q=>q.sH) λ_ _ z=>QZ z
end
section
variable {X:Cx}{st:WJ}{rest:List WJ}{t u:TS}{e:Expr}{te:TE}{pos:Pos}
def TF:TS:=λD σ H=>D.nx σ H
def wK (t u:TS):TS:=λD σ H=>t { D with nx:=u D } σ H
theorem Bd:dh X [] TF:=λ_ _ σ H _ I h=>wpAny_execs_nil ⟨σ,H,I,h⟩
theorem nJ (h1:PS X st t)(h2:dh X rest u):dh X (st::rest) (wK t u):=by
 intro pins s σ H D I h;refine wpAny_execs_cons (aM (h1 pins s σ H { D with nx:=u D } I h) λf s1 q=>?_);cases f with
 | next=>
  obtain⟨σ',H',I',q⟩:=q;exact h2 pins s1 σ' H' D I' q
 | ret v=>exact q
 | brk=>exact q
 | cont=>exact q
theorem wL (h1:PS X st t):dh X [st] t:=by
 intro pins s σ H D I h;refine wpAny_execs_cons (aM (h1 pins s σ H D I h) λf s1 q=>?_);cases f with
 | next=>exact wpAny_execs_nil q
 | ret v=>exact q
 | brk=>exact q
 | cont=>exact q
theorem Inv.quiet (I:Inv X pins σ H s):interactive X.env=false:=by simp[interactive,I.ok.kind]
def TJ (te:TE):TS:=λD σ H=>te σ H λ_ H1=>D.nx σ H1
theorem yK (he:PE X e te)(hs:WE e none pos.line X.env=pure false:=by rfl):PS X (.Expr e pos) (TJ te):=by
 intro pins s σ H D I h;exact wpAny_Expr_any (aM (he pins s σ H _ I h) λv s1 ⟨x,H1,I1,r1,q1⟩=>⟨σ,H1,I1,q1⟩) I.quiet hs
def Be (te:TE):TS:=λD σ H=>te σ H D.rt
theorem Bf (he:PE X e te):PS X (.Return (some e) pos) (Be te):=by
 intro pins s σ H D I h;exact wpAny_Return_some (aM (he pins s σ H _ I h) λv s1 ⟨x,H1,I1,r1,q1⟩=>⟨x,σ,H1,I1,r1,q1⟩)
def Bg (c:TT)(t u:TS):TS:=λD σ H=>c σ H λb H1=>if b=true then t D σ H1 else u D σ H1
theorem Bh {a b:List WJ}{tc:TT}(hc:PT X c tc)(ha:dh X a t)(hb:dh X b u):PS X (.If c a b pos) (Bg tc t u):=by
 intro pins s σ H D I h;refine wpAny_If (aM (hc pins s σ H _ I h) λd s1 ⟨H1,I1,q1⟩=>?_);cases d with
 | true=>exact ha pins s1 σ H1 D I1 q1
 | false=>exact hb pins s1 σ H1 D I1 q1
end
abbrev TG:=V->St->Hp->(St->Hp->Prop)->Prop
abbrev qM:=List V->St->Hp->(St->Hp->Prop)->Prop
def PG (X:Cx)(target:Expr)(t:TG):Prop:=
 ∀(pins:Tg) (s:Wd) (σ:St) (H:Hp) (v:V) (u:Wb) (Q:St->Hp->Prop),Inv X pins σ H s->RelV v u->t v σ H Q->
  Wj (Wm X.prog X.w) X.A (assign target X.env u) (λ_ s'=>∃σ' H',Inv X pins σ' H' s'/\Q σ' H') X.xe s
def qe (X:Cx)(ts:List Expr)(t:qM):Prop:=
 ∀(pins:Tg) (s:Wd) (σ:St) (H:Hp) (vs:List V) (us:Tq) (Q:St->Hp->Prop),Inv X pins σ H s->Vals vs us->t vs σ H Q->
  Wj (Wm X.prog X.w) X.A (assignInOrder ((WS ts X.env).map (·.2)) us) (λ_ s'=>∃σ' H',Inv X pins σ' H' s'/\Q σ' H') X.xe s
abbrev uq:=V->V->V->Hp->(Hp->Prop)->Prop
def wM (X:Cx)(t:uq):Prop:=
 ∀(pins:Tg) (s:Wd) (σ:St) (H:Hp) (o i v:V) (ov iv u:Wb) (Q:Hp->Prop),Inv X pins σ H s->RelV o ov->RelV i iv->RelV v u->t o i v H Q->
  Wj (Wm X.prog X.w) X.A (setItem ov iv u) (λ_ s'=>∃H',Inv X pins σ H' s'/\Q H') X.xe s
section
variable {X:Cx}{pos:Pos}
def vH (i:Nat):TG:=λv σ H Q=>Q (σ.set i (some v)) H
theorem yL (hN:X.N.Nodup)(hi:X.N[i]? = some x)(hx:Loc X.env.scope x)(hf:X.fn x=true\/X.env.scope.names.lookup x=some .local:=by first | exact .inl rfl | exact .inr rfl | assumption):PG X (.Name x pos) (vH i):=by
 intro pins s σ H v u Q I r h;exact wpAny_assign_Name (Gq I hN hi hx r (λs' I'=>⟨_,H,I',h⟩) hf)
def Bj:qM:=λvs σ H Q=>vs=[]/\Q σ H
def TQ (t:TG)(u:qM):qM:=λvs σ H Q=>∃v r,vs=v::r/\t v σ H λσ' H'=>u r σ' H' Q
theorem TV:qe X [] Bj:=by
 intro pins s σ H vs us Q I r h;obtain⟨e,h⟩:=h;subst e;cases r;exact assignInOrder_nil ⟨σ,H,I,h⟩
theorem TX {e:Expr}{es:List Expr}{t:TG}{u:qM}(h1:PG X e t)(h2:qe X es u)
  (hs:(WS (e::es) X.env).map (·.2)=assign e X.env::(WS es X.env).map (·.2):=by rfl):qe X (e::es) (TQ t u):=by
 intro pins s σ H vs us Q I r h;obtain⟨v,vr,e1,h⟩:=h;subst e1;cases r with
 | cons r rr=>
  rw[hs];refine assignInOrder_cons (aM (h1 pins s σ H _ _ _ I r h) λ_ s1 ⟨σ1,H1,I1,q1⟩=>?_);exact h2 pins s1 σ1 H1 _ _ Q I1 rr q1
def Bk (K:Xc)(n:Nat)(t:qM):TG:=λv σ H Q=>∃a xs,v=.ref a/\bG K H a xs/\xs.length=n/\t xs σ H Q
theorem TY {es:List Expr}{k:Nat}{t:qM}{n:Nat}(hc:X.calm=true)(h:qe X es t)
  (hn:(WS es X.env).length=n:=by rfl) (hst:(WS es X.env).findIdx? (·.1)=none:=by rfl):PG X (.Tuple es k pos) (Bk X.K n t):=by
 intro pins s σ H v u Q I r hw;obtain⟨a,xs,e1,hq,hl,hw⟩:=hw;subst e1;cases r;obtain⟨its,rv,ht,hz⟩:=I.tuple hq;refine assign_Tuple_tuple (I.ok.hd hc) ht (by simp[hn,<- hl,rv.length]) hst λh' hx=>?_;have I1:Inv X pins σ H { s with heap:=h' }:=I.kept (t':=s.toks) λb o e=>hx b o (XM (XC e)) e;exact h pins _ σ H xs _ Q I1 (by simpa using rv) hw
def Bm (to ti:TE)(t:uq):TG:=λv σ H Q=>to σ H λo H1=>ti σ H1 λi H2=>t o i v H2 λH3=>Q σ H3
theorem Gw {o i:Expr}{to ti:TE}{t:uq}(ho:PE X o to)(hi:PE X i ti)(hs:wM X t)
  (ha:∀v,assign (.Subscript o i pos) X.env v=(do
   let ov <- WZ [v] (Wx o X.env);let iv <- WZ [v,ov] (Wx i X.env)
   standAt pos
   WZ [v,ov,iv] (setItem ov iv v)
   release [v,ov,iv] []):=by intro _;rfl):PG X (.Subscript o i pos) (Bm to ti t):=by
 intro pins s σ H v u Q I r h;rw[ha];refine Wa (Wy (aM (ho pins s σ H _ I h) λov s1 ⟨x,H1,I1,r1,q1⟩=>?_));refine Wa (Wy (aM (hi pins s1 σ H1 _ I1 q1) λiv s2 ⟨y,H2,I2,r2,q2⟩=>?_));refine Wa (wpAny_standAt (Wa (Wy (aM (hs pins s2 σ H2 x y v ov iv u _ I2 r1 r2 r q2) λ_ s3 ⟨H3,I3,q3⟩=>?_))));exact wpAny_release ⟨σ,H3,I3,q3⟩
def qN (te:TE)(g:TG):TS:=λD σ H=>te σ H λx H1=>g x σ H1 D.nx
theorem Bo {tg e:Expr}{te:TE}{g:TG}(he:PE X e te)(hg:PG X tg g)(hs:swapsWithSole [tg] e pos.line X.env=pure false:=by rfl)(hw:swappedStores [tg] e X.env=pure none:=by rfl)
  (h1:(WS [tg] X.env).map (·.2)=[assign tg X.env]:=by rfl):PS X (.Assign [tg] e pos) (qN te g):=by
 intro pins s σ H D I h;refine wpAny_Assign_stores (aM (he pins s σ H _ I h) λv s1 ⟨x,H1,I1,r1,q1⟩=>?_) hs hw;rw[h1];exact aM (hg pins s1 σ H1 x v _ I1 r1 q1) λ_ s2 q=>q
theorem ur {te:TE}{pos':Pos}(hN:X.N.Nodup)(hi:X.N[i]? = some x)(hx:Loc X.env.scope x)(he:PE X e te)(hs:WE e (some (.Name x pos')) pos.line X.env=pure false:=by rfl)(hf:X.fn x=true\/X.env.scope.names.lookup x=some .local:=by first | exact .inl rfl | exact .inr rfl | assumption) :
  PS X (.Assign [.Name x pos'] e pos) (qN te (vH i)):=by
 intro pins s σ H D I h;refine wpAny_Assign_Name (aM (he pins s σ H _ I h) λv s1 ⟨y,H1,I1,r1,q1⟩=>?_) hs;exact Gq I1 hN hi hx r1 (λs2 I2=>⟨_,H1,I2,q1⟩) hf
end
section
variable {X:Cx}{pos:Pos}
def T3 (c:TT)(tb:TS):TS:=λD σ H=>∃W:Nat->St->Hp->Prop,(∃m,W m σ H)/\∀m σ H,W m σ H->
 c σ H λb H1=>if b=true then ∃N:St->Hp->Prop,(∀σ' H',N σ' H'->∃m',m'<m/\W m' σ' H')/\tb { D with nx:=N,ct:=N,bk:=D.nx } σ H1 else D.nx σ H1
theorem T4 {tc:TT}(hp:PassesOwn (Wm X.prog X.w) X.A X.env X.xe)(hc:PT X c tc)(hb:dh X body tb):PS X (.While c body [] pos) (T3 tc tb):=by
 intro pins s σ H D I h;obtain⟨W,⟨m0,w0⟩,turn⟩:=h;refine wpAny_While (codeAny_whileLoop (λn s'=>∃σ' H',Inv X pins σ' H' s'/\W n σ' H') ?_ m0 ⟨σ,H,I,w0⟩);rintro n s1 ⟨σ1,H1,I1,w1⟩;refine WW hp (aM (hc pins s1 σ1 H1 _ I1 (turn n σ1 H1 w1)) λb s2 ⟨H2,I2,q2⟩=>?_);cases b with
 | true=>
  obtain⟨N,hN,q2⟩:=q2;rw[Qf rfl];refine WW hp (aM (hb pins s2 σ1 H2 _ I2 q2) λf s3 q3=>?_);cases f with
  | next=>
   obtain⟨σ3,H3,I3,n3⟩:=q3;obtain⟨m',hm,w3⟩:=hN σ3 H3 n3;exact⟨m',hm,σ3,H3,I3,w3⟩
  | cont=>
   obtain⟨σ3,H3,I3,n3⟩:=q3;obtain⟨m',hm,w3⟩:=hN σ3 H3 n3;exact⟨m',hm,σ3,H3,I3,w3⟩
  | brk=>exact q3
  | ret v=>exact q3
 | false=>
  rw[Qe Xw];exact wpAny_execs_nil ⟨σ1,H2,I2,q2⟩
end
structure It where
 go:Nat->Hp->Prop
 sI:Nat->Hp->V->Hp->Prop
 stop:Nat->Hp->Prop
def cQ (X:Cx)(pins:Tg)(H:Hp)(b:We):Prop:=
 H b=none/\b≠X.env.locals/\b∉X.fs/\(b∈X.ex\/X.s₀.heap.objs.size<=b)/\(∀x c,X.env.cells.lookup x=some c->c≠b)/\∀p∈X.pn++pins,p.1≠b
theorem Inv.jb {H':Hp}(I:Inv X pins σ H s)(hb:s.heap.objs.size<=b)(hn:H' b=none):cQ X pins H' b:=by
 refine⟨hn,Nat.ne_of_gt (Yc I.lt hb),I.Ax hb,.inr (XZ I.sz hb),λx c e z=>?_,λp hp z=>?_⟩
 ·obtain⟨v,q⟩:=I.cell x c e;exact Qg (Yc q.lt (by rw[z];exact hb)) (YI _)
 ·exact Qg (Yc (XC (I.pin p hp).1) (by rw[z];exact hb)) (YI _)
structure Turn (P:Wo)(w:Ws)(K:Xc)(tg:Expr)(J:It)(fp:Tr)(it:We)(tn:Nat->Heap->Prop):Prop where
 mem:it∈fp
 obj:∀i h,tn i h->∀b∈fp,∃o,h.get? b=some o/\∀v,o.data≠.cell v
 keep:∀i h h',tn i h->(∀b∈fp,∀o,h.get? b=some o->h'.get? b=some o)->tn i h'
 item:∀(X:Cx),X.prog=P->X.w=w->X.K=K->X.calm=true->∀(i:Nat) (pins:Tg) (s:Wd) (σ:St) (H:Hp) (E:Ti),Inv X pins σ H s->(∀b∈fp,cQ X pins H b)->tn i s.heap->J.go i H->
  Wj (Wm P w) X.A (Vo (.ref it)) (λr s1=>∃u,r=some u/\
   Wj (Wm P w) X.A (letOwnedTupleGo tg (.ref it) u) (λ_ s2=>∃x H',Inv X pins σ H' s2/\RelV x u/\J.sI i H x H'/\tn (i+1) s2.heap/\∀b∈fp,H' b=none) E s1) E s
 done:∀(X:Cx),X.prog=P->X.w=w->X.K=K->X.calm=true->∀(i:Nat) (pins:Tg) (s:Wd) (σ:St) (H:Hp) (E:Ti),Inv X pins σ H s->(∀b∈fp,cQ X pins H b)->tn i s.heap->J.stop i H->
  Wj (Wm P w) X.A (Vo (.ref it)) (λr s1=>r=none/\Inv X pins σ H s1) E s
 self:∀(A:Wv) (i:Nat) (s:Wd) (Q:Ti) (E:Ti),tn i s.heap->Q (.ref it) s->Wj (Wm P w) A (pyIter (.ref it)) Q E s
abbrev TI:=St->Hp->(It->Hp->Prop)->Prop
def PIE (X:Cx)(pins:Tg)(σ:St)(tg:Expr)(R:It->Hp->Prop)(itv:Wb)(s2:Wd):Prop:=
 ∃(it:We) (fp:Tr) (tn:Nat->Heap->Prop) (J:It) (H':Hp),itv=.ref it/\Inv X pins σ H' s2/\Turn X.prog X.w X.K tg J fp it tn/\tn 0 s2.heap/\(∀b∈fp,cQ X pins H' b)/\R J H'
def PI (X:Cx)(tg iter:Expr)(wi:TI):Prop:=
 ∀(pins:Tg) (s:Wd) (σ:St) (H:Hp) (R:It->Hp->Prop),Inv X pins σ H s->wi σ H R->
  Wj (Wm X.prog X.w) X.A (Wx iter X.env) (λv s1=>Wj (Wm X.prog X.w) X.A (pyIter v) (PIE X pins σ tg R) X.xe s1) X.xe s
theorem wN {M:Model}{A:Wv}{E:Ti}{s:Wd}{tg:Expr}{it:We}{u:Wb}{o:Obj}{n:String}{vs:Array Wb}{Q:Unit->Wd->Prop}(ho:s.heap.get? it=some o)(hc:o.cls=.type n)(hd:o.data=.fields vs)
    (hn:["enumerate","zip","dict_itemiterator","dict_reverseitemiterator","odict_iterator","itertools.zip_longest","itertools.pairwise"].contains n=false) (hQ:Q () s):Wj M A (letOwnedTupleGo tg (.ref it) u) Q E s:=by
  unfold letOwnedTupleGo;cases tg<;>first
    | exact Wc hQ
    | (cases u<;>first
        | exact Wc hQ
        | (refine Wa (wpAny_load ho ?_)
           rw[hc,hd];show Wj M A (if (["enumerate","zip","dict_itemiterator","dict_reverseitemiterator","odict_iterator","itertools.zip_longest","itertools.pairwise"].contains n&&vs[0]? == some (rawInt _))=true then _ else _) Q E s
           rw[Qe (by intro h;rw[hn,Bool.false_and]at h;cases h)];exact Wc hQ))
def vI (K:Xc)(a:We):It:=
 ⟨λi H=>∃xs x,aR K H a xs/\xs[i]? = some x,λi H x H'=>H'=H/\∀xs,aR K H a xs->xs[i]? = some x,λi H=>∃xs,aR K H a xs/\xs.length<=i⟩
def Gx (K:Xc)(a:We):It:=
 ⟨λi H=>∃xs x,bG K H a xs/\xs[i]? = some x,λi H x H'=>H'=H/\∀xs,bG K H a xs->xs[i]? = some x,λi H=>∃xs,bG K H a xs/\xs.length<=i⟩
def yM (lo:Int)(n:Nat):It:=⟨λi _=>i<n,λi H x H'=>H'=H/\x=.int (lo+i),λi _=>n<=i⟩
theorem T5 (a it:We):Turn P w K tg (vI K a) [it] it (λi h=>h.IsListIter it a i) where
 mem:=by simp
 obj:=λi h st b hb=>by
  have e:b=it:=by simpa using hb
  subst e;obtain⟨o,e,c,d⟩:=st;exact⟨o,e,λv z=>by rw[d]at z;cases z⟩
 keep:=λi h h' st k=>st.at λo e=>k it (by simp) o e
 item:=by
  intro X hP hw hK hc i pins s σ H E I hf st hg;subst hP hw hK;obtain⟨xs,x,hq,hx⟩:=hg;obtain⟨its,rv,p,hz⟩:=I.list hq;obtain⟨u,hu,ru⟩:=rv.get hx;obtain⟨f0,f1,f2,f3,f4,f5⟩:=hf it (by simp);refine W0 st p.isList (x:=u) (by simpa using hu) λh' st' sb=>?_;have I1:Inv X pins σ H { s with heap:=h' }:=I.turned (t':=s.toks) (λb o hb e=>(sb.2 b hb).trans e) f0 f1 f3 f4 f5;obtain⟨o,e,c,d⟩:=id st';exact⟨u,rfl,wN (s:={ s with heap:=h' }) e c d (by decide) ⟨x,H,I1,ru,⟨rfl,λys hy=>by rw[I.vG hy hq];exact hx⟩,st',λb hb=>(hf b hb).1⟩⟩
 done:=by
  intro X hP hw hK hc i pins s σ H E I hf st hg;subst hP hw hK;obtain⟨xs,hq,hx⟩:=hg;obtain⟨its,rv,p,hz⟩:=I.list hq;obtain⟨f0,f1,f2,f3,f4,f5⟩:=hf it (by simp);have hl:=rv.length;exact wpAny_pyNext_list_end (I.ok.hd hc) st p.isList (by simp;lia) λh' eb=>⟨rfl,I.turned (t':=s.toks) (λb o hb e=>eb b o hb e) f0 f1 f3 f4 f5⟩
 self:=λ_ _ _ _ _ st h=>wpAny_pyIter_listiter st h
theorem T6 (a it:We):Turn P w K tg (Gx K a) [it] it (λi h=>h.IsTupleIter it a i) where
 mem:=by simp
 obj:=λi h st b hb=>by
  have e:b=it:=by simpa using hb
  subst e;obtain⟨o,e,c,d⟩:=st;exact⟨o,e,λv z=>by rw[d]at z;cases z⟩
 keep:=λi h h' st k=>st.at λo e=>k it (by simp) o e
 item:=by
  intro X hP hw hK hc i pins s σ H E I hf st hg;subst hP hw hK;obtain⟨xs,x,hq,hx⟩:=hg;obtain⟨its,rv,p,hz⟩:=I.tuple hq;obtain⟨u,hu,ru⟩:=rv.get hx;obtain⟨f0,f1,f2,f3,f4,f5⟩:=hf it (by simp);refine wpAny_pyNext_tuple_item st (show s.heap.IsTuple a its.toArray from p) (x:=u) (by simpa using hu) λh' st' sb=>?_;have I1:Inv X pins σ H { s with heap:=h' }:=I.turned (t':=s.toks) (λb o hb e=>(sb.2 b hb).trans e) f0 f1 f3 f4 f5;obtain⟨o,e,c,d⟩:=id st';exact⟨u,rfl,wN (s:={ s with heap:=h' }) e c d (by decide) ⟨x,H,I1,ru,⟨rfl,λys hy=>by rw[I.Gv hy hq];exact hx⟩,st',λb hb=>(hf b hb).1⟩⟩
 done:=by
  intro X hP hw hK hc i pins s σ H E I hf st hg;subst hP hw hK;obtain⟨xs,hq,hx⟩:=hg;obtain⟨its,rv,p,hz⟩:=I.tuple hq;obtain⟨f0,f1,f2,f3,f4,f5⟩:=hf it (by simp);have hl:=rv.length;exact wpAny_pyNext_tuple_end (I.ok.hd hc) st (show s.heap.IsTuple a its.toArray from p) (by simp;lia) λh' eb=>⟨rfl,I.turned (t':=s.toks) (λb o hb e=>eb b o hb e) f0 f1 f3 f4 f5⟩
 self:=λ_ _ _ _ _ st h=>wpAny_pyIter_tupleiter st h
theorem T7 (it:We)(lo:Int)(n:Nat):Turn P w K tg (yM lo n) [it] it (λi h=>IsRangeIter h it (lo+(i:Nat)*1) ((n:Int)-(i:Nat)) 1) where
 mem:=by simp
 obj:=λi h st b hb=>by
  have e:b=it:=by simpa using hb
  subst e;exact⟨_,st,λv z=>by
   have z':Data.fields _=Data.cell v:=z;cases z'⟩
 keep:=λi h h' st k=>k it (by simp) _ st
 item:=by
  intro X hP hw hK hc i pins s σ H E I hf st hg;subst hP hw hK;obtain⟨f0,f1,f2,f3,f4,f5⟩:=hf it (by simp);have W:=Walks.range (prog:=X.prog) (w:=X.w) (I.ok.hd hc) it lo 1 n;refine W.item i s _ _ hg st λv h' tk hv st' kk=>?_;obtain⟨t,rfl⟩:=hv;have I1:Inv X pins σ H { s with heap:=h',toks:=tk }:=I.turned (λb o hb e=>kk b o (by simpa using hb) e) f0 f1 f3 f4 f5;refine⟨_,rfl,wN (s:={ s with heap:=h',toks:=tk }) (n:="range_iterator") st' rfl rfl (by decide) ⟨.int (lo+i),H,I1,⟨t,?_⟩,⟨rfl,rfl⟩,st',λb hb=>(hf b hb).1⟩⟩;rw[Int.mul_one]
 done:=by
  intro X hP hw hK hc i pins s σ H E I hf st hg;subst hP hw hK;obtain⟨f0,f1,f2,f3,f4,f5⟩:=hf it (by simp);exact wpAny_pyNext_range_end (I.ok.hd hc) st (by have:n<=i:=hg;lia) λh' eb=>⟨rfl,I.turned (t':=s.toks) (λb o hb e=>eb b o hb e) f0 f1 f3 f4 f5⟩
 self:=λ_ _ _ _ _ st h=>wpAny_pyIter_rangeiter st h
section
variable {X:Cx}{tg:Expr}
def T8 (K:Xc)(tl:TE):TI:=λσ H R=>tl σ H λx H1=>∃a,x=.ref a/\(∃xs,aR K H1 a xs)/\R (vI K a) H1
def Bp (K:Xc)(tl:TE):TI:=λσ H R=>tl σ H λx H1=>∃a,x=.ref a/\(∃xs,bG K H1 a xs)/\R (Gx K a) H1
theorem Gy {l:Expr}{tl:TE}(hl:PE X l tl):PI X tg l (T8 X.K tl):=by
 intro pins s σ H R I h;refine aM (hl pins s σ H _ I h) λv s1 ⟨x,H1,I1,r1,q1⟩=>?_;obtain⟨a,e,⟨xs,hq⟩,q⟩:=q1;subst e;cases r1;obtain⟨its,rv,p,hz⟩:=I1.list hq;refine W6 p.isList ?_;refine⟨s1.heap.objs.size,[s1.heap.objs.size],_,_,H1,rfl,I1.kept (t':=s1.toks) λb o e=>Xn _ e,T5 a _,⟨_,XA _ rfl,rfl,rfl⟩,λb hb=>?_,q⟩;have e:b=s1.heap.objs.size:=by simpa using hb
 subst e;exact I1.jb (Xj _) (I1.hok.fresh (Xj _))
theorem T9 {l:Expr}{tl:TE}(hl:PE X l tl):PI X tg l (Bp X.K tl):=by
 intro pins s σ H R I h;refine aM (hl pins s σ H _ I h) λv s1 ⟨x,H1,I1,r1,q1⟩=>?_;obtain⟨a,e,⟨xs,hq⟩,q⟩:=q1;subst e;cases r1;obtain⟨its,rv,p,hz⟩:=I1.tuple hq;refine wpAny_pyIter_tuple (show s1.heap.IsTuple a its.toArray from p) ?_;refine⟨s1.heap.objs.size,[s1.heap.objs.size],_,_,H1,rfl,I1.kept (t':=s1.toks) λb o e=>Xn _ e,T6 a _,⟨_,XA _ rfl,rfl,rfl⟩,λb hb=>?_,q⟩;have e:b=s1.heap.objs.size:=by simpa using hb
 subst e;exact I1.jb (Xj _) (I1.hok.fresh (Xj _))
theorem Ua {pins:Tg}{σ:St}{H:Hp}{s:Wd}{R:It->Hp->Prop}{E:Ti}{lo hi:Int}{t u v:Tok}{tk:Nat}(I:Inv X pins σ H s)(h1:-(2 ^ 62)<=lo)(h2:lo<2 ^ 62)(h3:-(2 ^ 62)<=hi)(h4:hi<2 ^ 62)
  (q:R (yM lo (hi-lo).toNat) H):Wj (Wm X.prog X.w) X.A (pyIter (.ref s.heap.objs.size)) (PIE X pins σ tg R) E { s with heap:=s.heap.push { cls:=.type "range",data:=.fields #[.int lo t,.int hi u,.int 1 v] },toks:=tk }:=by
 refine wpAny_pyIter_range (IsRange.new ..) (small_one h1 h2 h3 h4) ?_;have I1:Inv X pins σ H { s with heap:=s.heap.push { cls:=.type "range",data:=.fields #[.int lo t,.int hi u,.int 1 v] },toks:=tk }:=I.kept λb o e=>Xn _ e;refine⟨(s.heap.push { cls:=.type "range",data:=.fields #[.int lo t,.int hi u,.int 1 v] }).objs.size,[(s.heap.push { cls:=.type "range",data:=.fields #[.int lo t,.int hi u,.int 1 v] }).objs.size],_,_,H,rfl,
  I1.kept (t':=tk) λb o e=>Xn _ e,T7 _ lo (hi-lo).toNat,?_,λb hb=>?_,q⟩
 ·have e1:lo+((0:Nat):Int)*1=lo:=by simp
  have e2:(((hi-lo).toNat:Nat):Int)-((0:Nat):Int)=Builtin.Range.rangeSize lo hi 1:=by rw[rangeSize_one];split<;>lia
  show IsRangeIter _ _ (lo+((0:Nat):Int)*1) ((((hi-lo).toNat:Nat):Int)-((0:Nat):Int)) 1;rw[e1,e2];exact XA _ rfl
 ·have e:b=(s.heap.push { cls:=.type "range",data:=.fields #[.int lo t,.int hi u,.int 1 v] }).objs.size:=by simpa using hb
  subst e;exact I1.jb (Xj _) (I1.hok.fresh (Xj _))
def Ub (ta:TA):TI:=λσ H R=>ta σ H λvs H1=>∃j:Int,vs=[.int j]/\-(2 ^ 62)<=j/\j<2 ^ 62/\R (yM 0 j.toNat) H1
theorem Uc {a:Expr}{ta:TA}{p:Pos}(hg:Gl X "range") (hm:X.mg "range" = none) (ha:PA X [a] ta) (hs:Wf [a] X.env=[(false,Wx a X.env)]:=by rfl):PI X tg (.Call (.Name "range" p) [a] [] pos) (Ub ta):=by
 intro pins s σ H R I h;refine Call_ (qL I hg hm boot_range (QJ (aM (ha pos pins s σ H _ I h) λus s1 ⟨vs,H1,I1,r1,q1⟩=>?_) hs rfl));obtain⟨j,e,q1,q2,q⟩:=q1;subst e;cases r1 with
 | cons r rr=>
  cases rr;obtain⟨t,rfl⟩:=r;exact call_range_1 (Ua I1 (by lia) (by lia) q1 q2 (by simpa using q))
def Bq (wi:TI)(g:TG)(tb:TS):TS:=λD σ H=>wi σ H λJ H1=>∃W:Nat->Nat->St->Hp->Prop,(∃m,W 0 m σ H1)/\∀i m σ H,W i m σ H->
 (J.stop i H/\D.nx σ H)\/(J.go i H/\∃N:St->Hp->Prop,(∀σ' H',N σ' H'->∃m',m'<m/\W (i+1) m' σ' H')/\∀x H',J.sI i H x H'->g x σ H' λσ2 H2=>tb { D with nx:=N,ct:=N,bk:=D.nx } σ2 H2)
def wO (fp:Tr)(h:Heap):Tg:=fp.filterMap λb=>(h.get? b).map λo=>(b,o)
theorem yN (hb:b∈fp)(e:h.get? b=some o):(b,o)∈wO fp h:=List.mem_filterMap.mpr ⟨b,hb,by rw[e];rfl⟩
theorem Ud {p:We×Obj}(hp:p∈wO fp h):p.1∈fp/\h.get? p.1=some p.2:=by
 obtain⟨b,hb,e⟩:=List.mem_filterMap.mp hp;cases q:h.get? b with
 | none=>rw[q]at e;cases e
 | some o=>
  rw[q]at e;have e':(b,o)=p:=Qa e;subst e';exact⟨hb,q⟩
theorem Inv.pinned (I:Inv X pins σ H s)(hf:∀b∈fp,cQ X pins H b)(ho:∀b∈fp,∃o,s.heap.get? b=some o/\∀v,o.data≠.cell v):Inv X (pins++wO fp s.heap) σ H s:=
 I.Gm λp hp=>(Xr.mp hp).elim (λz=>I.pin p (Yu _ z)) λz=>by
  obtain⟨hb,e⟩:=Ud z;obtain⟨f0,f1,f2,_⟩:=hf p.1 hb;obtain⟨o,e',d⟩:=ho p.1 hb;rw[e]at e';cases e';exact⟨e,f0,f1,f2,d⟩
theorem Inv.wQ {pl:Tg}(I:Inv X (pins++pl) σ H s):Inv X pins σ H s:=I.Gm λp hp=>I.pin p (Yu _ (List.mem_append_left _ hp))
theorem yO {iter:Expr}{body:List WJ}{wi:TI}{g:TG}{tb:TS}{pos:Pos}(hp:PassesOwn (Wm X.prog X.w) X.A X.env X.xe)(hc:X.calm=true)(hi:PI X tg iter wi)(hg:PG X tg g)(hb:dh X body tb)
  (hs:∀x,WD iter X.env x=pure x:=by intro _;rfl):PS X (.For tg iter body [] pos) (Bq wi g tb):=by
 intro pins s σ H D I h;refine wpAny_For (aM (hi pins s σ H _ I h) λv s1 h1=>aM h1 λitv s2 h2=>?_) hs;obtain⟨it,fp,tn,J,H2,e,I2,T,st2,f2,W,⟨m0,w0⟩,turn⟩:=h2;subst e;have stat:∀ {H':Hp},(∀b∈fp,H' b=none)->∀b∈fp,cQ X pins H' b:=λhn b hb=>⟨hn b hb,(f2 b hb).2⟩;refine codeAny_forLoop_any (λn s'=>∃i σ' H',Inv X pins σ' H' s'/\tn i s'.heap/\(∀b∈fp,H' b=none)/\W i n σ' H') ?_ m0 ⟨0,σ,H2,I2,st2,λb hb=>(f2 b hb).1,w0⟩;rintro n s3 ⟨i,σ3,H3,I3,st3,fr3,w3⟩;rcases turn i n σ3 H3 w3 with ⟨stop,qn⟩ | ⟨go,N,hN,step⟩
 ·refine WW hp (aM (T.done X rfl rfl rfl hc i pins s3 σ3 H3 X.xe I3 (stat fr3) st3 stop) λr s4 ⟨hr,I4⟩=>?_);subst hr;exact wpAny_execs_nil ⟨σ3,H3,I4,qn⟩
 ·refine WW hp (aM (T.item X rfl rfl rfl hc i pins s3 σ3 H3 X.xe I3 (stat fr3) st3 go) λr s4 ⟨u,hr,h4⟩=>?_);subst hr;refine WW hp (aM h4 λ_ s5 ⟨x,H5,I5,r5,y5,st5,fr5⟩=>?_);have I5':=I5.pinned (stat fr5) (T.obj _ _ st5);refine WW hp (aM (hg _ s5 σ3 H5 x u _ I5' r5 (step x H5 y5)) λ_ s6 ⟨σ6,H6,I6,q6⟩=>?_);refine WW hp (aM (hb _ s6 σ6 H6 _ I6 q6) λf s7 q7=>?_);have again:∀ {σ7:St} {H7:Hp},Inv X (pins++wO fp s5.heap) σ7 H7 s7->N σ7 H7->∃m,m<n/\∃i σ' H',Inv X pins σ' H' s7/\tn i s7.heap/\(∀b∈fp,H' b=none)/\W i m σ' H':=λ{σ7 H7} I7 n7=>by
   obtain⟨m',hm,w7⟩:=hN σ7 H7 n7;refine⟨m',hm,i+1,σ7,H7,I7.wQ,T.keep _ _ _ st5 λb hb o e=>(I7.pin (b,o) (Yu _ (Yu _ (yN hb e)))).1,λb hb=>?_,w7⟩;obtain⟨o,e,d⟩:=T.obj _ _ st5 b hb;exact(I7.pin (b,o) (Yu _ (Yu _ (yN hb e)))).2.1
  cases f with
  | next=>obtain⟨σ7,H7,I7,n7⟩:=q7;exact again I7 n7
  | cont=>obtain⟨σ7,H7,I7,n7⟩:=q7;exact again I7 n7
  | brk=>obtain⟨σ7,H7,I7,q7⟩:=q7;exact⟨σ7,H7,I7.wQ,q7⟩
  | ret v=>obtain⟨x7,σ7,H7,I7,r7,q7⟩:=q7;exact⟨x7,σ7,H7,I7.wQ,r7,q7⟩
end
theorem Ue {K:Xc}{a:We}{xs:List V}{g:TG}{tb:TS}{D:Ends}{σ:St}{H:Hp}(Pv:Nat->St->Hp->Prop)(h0:Pv 0 σ H)(hl:∀i σ H,i<=xs.length->Pv i σ H->aR K H a xs)
  (hs:∀i x σ H,xs[i]? = some x->Pv i σ H->g x σ H λσ2 H2=>tb { D with nx:=Pv (i+1),ct:=Pv (i+1),bk:=D.nx } σ2 H2) (hd:∀σ H,Pv xs.length σ H->D.nx σ H) :
  ∃W:Nat->Nat->St->Hp->Prop,(∃m,W 0 m σ H)/\∀i m σ H,W i m σ H->
   ((vI K a).stop i H/\D.nx σ H)\/((vI K a).go i H/\∃N:St->Hp->Prop,(∀σ' H',N σ' H'->∃m',m'<m/\W (i+1) m' σ' H')/\∀x H',(vI K a).sI i H x H'->g x σ H' λσ2 H2=>tb { D with nx:=N,ct:=N,bk:=D.nx } σ2 H2):=by
 refine⟨λi m σ H=>m=xs.length-i/\i<=xs.length/\Pv i σ H,⟨xs.length,by simp,Ye _,h0⟩,?_⟩;rintro i m σ H ⟨rfl,hi,p⟩;have q:=hl i σ H hi p;by_cases hlt:i<xs.length
 ·refine .inr ⟨⟨xs,xs[i],q,by simp[hlt]⟩,Pv (i+1),λσ' H' p'=>⟨xs.length-(i+1),by lia,rfl,hlt,p'⟩,λx H' y=>?_⟩;obtain⟨e,y⟩:=y;subst e;exact hs i x σ _ (y xs q) p
 ·have e:i=xs.length:=by lia
  subst e;exact .inl ⟨⟨xs,q,Xj _⟩,hd σ H p⟩
abbrev R2:=V->V->Hp->VK->Prop
def gh (X:Cx)(f:Wb->Wb->Sem Wb)(r:R2):Prop:=
 ∀(pins:Tg) (s:Wd) (σ:St) (H:Hp) (x y:V) (v u:Wb) (Q:VK),Inv X pins σ H s->RelV x v->RelV y u->r x y H Q->
  Wj (Wm X.prog X.w) X.A (f v u) (EP X pins σ Q) X.xe s
def Br (X:Cx)(f:Wb->Sem Wb)(r:V->Hp->VK->Prop):Prop:=
 ∀(pins:Tg) (s:Wd) (σ:St) (H:Hp) (x:V) (v:Wb) (Q:VK),Inv X pins σ H s->RelV x v->r x H Q->
  Wj (Wm X.prog X.w) X.A (f v) (EP X pins σ Q) X.xe s
def j5 (X:Cx)(f:Wb)(r:List V->Hp->VK->Prop):Prop:=
 ∀(pins:Tg) (s:Wd) (σ:St) (H:Hp) (xs:List V) (us:Tq) (Q:VK),Inv X pins σ H s->Vals xs us->r xs H Q->
  Wj (Wm X.prog X.w) X.A (call f us) (EP X pins σ Q) X.xe s
def Bs (X:Cx)(r:V->Hp->(Bool->Hp->Prop)->Prop):Prop:=
 ∀(pins:Tg) (s:Wd) (σ:St) (H:Hp) (x:V) (v:Wb) (Q:Bool->Hp->Prop),Inv X pins σ H s->RelV x v->r x H Q->
  Wj (Wm X.prog X.w) X.A (truthy v) (TP X pins σ Q) X.xe s
def wR (r:R2)(ta tb:TE):TE:=λσ H Q=>ta σ H λx H1=>tb σ H1 λy H2=>r x y H2 Q
def Ug (r:V->Hp->VK->Prop)(ta:TE):TE:=λσ H Q=>ta σ H λx H1=>r x H1 Q
def rI (C:Int->Int->Prop)(g:Int->Int->V):R2:=λx y H Q=>∃i j,x=.int i/\y=.int j/\C i j/\Q (g i j) H
def sJ (g:Int->Int->V):R2:=λx y H Q=>∃i j,x=.int i/\y=.int j/\Q (g i j) H
def rU (g:Int->V):V->Hp->VK->Prop:=λx H Q=>∃i,x=.int i/\Q (g i) H
section
variable {X:Cx}{a b c:Expr}{ta tb tc:TE}{pos:Pos}
theorem uw (ha:PE X a ta)(hb:PE X b tb){pins:Tg}{s:Wd}{σ:St}{H:Hp}{R:V->V->Hp->Prop}(I:Inv X pins σ H s)
  (h:ta σ H λx H1=>tb σ H1 λy H2=>R x y H2) {Q:Ti} {f:Wb->Wb->Sem Wb}
  (hf:∀v u s2 x y H2,Inv X pins σ H2 s2->RelV x v->RelV y u->R x y H2->Wj (Wm X.prog X.w) X.A (f v u) Q X.xe s2) :
  Wj (Wm X.prog X.w) X.A (Wx a X.env) (λv s₁=>Wj (Wm X.prog X.w) X.A (Wx b X.env) (λu s₂=>Wj (Wm X.prog X.w) X.A (f v u) Q X.xe s₂) X.xe s₁) X.xe s:=by
 refine aM (ha pins s σ H _ I h) λv s1 ⟨x,H1,I1,r1,q1⟩=>?_;refine aM (hb pins s1 σ H1 _ I1 q1) λu s2 ⟨y,H2,I2,r2,q2⟩=>?_;exact hf v u s2 x y H2 I2 r1 r2 q2
theorem Uh {op:Operator}{r:R2}(ho:gh X (W3 op) r)(ha:PE X a ta)(hb:PE X b tb):PE X (.BinOp a op b pos) (wR r ta tb):=by
 intro pins s σ H Q I h;exact wpAny_BinOp (uw ha hb I h λv u s2 x y H2 I2 rx ry q=>ho pins s2 σ H2 x y v u Q I2 rx ry q)
theorem Gz {op:UnaryOp}{r:V->Hp->VK->Prop}(ho:Br X (unaryOp op) r)(ha:PE X a ta):PE X (.UnaryOp op a pos) (Ug r ta):=by
 intro pins s σ H Q I h;exact UnaryOp_ (aM (ha pins s σ H _ I h) λv s1 ⟨x,H1,I1,r1,q1⟩=>ho pins s1 σ H1 x v Q I1 r1 q1)
theorem yP {f:Wb->Wb->Sem Wb}{C:Int->Int->Prop}{g:Int->Int->Int}
  (rule:∀(i j:Int) (t u:Tok) (s:Wd) (Q:Ti) (E:Ti),C i j->Q (.int (g i j) s.toks) { s with toks:=s.toks+1 }->Wj (Wm X.prog X.w) X.A (f (.int i t) (.int j u)) Q E s) :
  gh X f (rI C λi j=>.int (g i j)):=by
 intro pins s σ H x y v u Q I rx ry h;obtain⟨i,j,rfl,rfl,hc,q⟩:=h;obtain⟨t,rfl⟩:=rx;obtain⟨t',rfl⟩:=ry;exact rule i j t t' s _ _ hc ⟨.int (g i j),H,I.tok _,⟨_,rfl⟩,q⟩
theorem wU {f:Wb->Wb->Sem Wb}{g:Int->Int->Int}
  (rule:∀(i j:Int) (t u:Tok) (s:Wd) (Q:Ti) (E:Ti),Q (.int (g i j) s.toks) { s with toks:=s.toks+1 }->Wj (Wm X.prog X.w) X.A (f (.int i t) (.int j u)) Q E s) :
  gh X f (sJ λi j=>.int (g i j)):=by
 intro pins s σ H x y v u Q I rx ry h;obtain⟨i,j,rfl,rfl,q⟩:=h;obtain⟨t,rfl⟩:=rx;obtain⟨t',rfl⟩:=ry;exact rule i j t t' s _ _ ⟨.int (g i j),H,I.tok _,⟨_,rfl⟩,q⟩
theorem wV {f:Wb->Wb->Sem Wb}{g:Int->Int->Bool}
  (rule:∀(i j:Int) (t u:Tok) (s:Wd) (Q:Ti) (E:Ti),Q (.bool (g i j)) s->Wj (Wm X.prog X.w) X.A (f (.int i t) (.int j u)) Q E s) :
  gh X f (sJ λi j=>.bl (g i j)):=by
 intro pins s σ H x y v u Q I rx ry h;obtain⟨i,j,rfl,rfl,q⟩:=h;obtain⟨t,rfl⟩:=rx;obtain⟨t',rfl⟩:=ry;exact rule i j t t' s _ _ ⟨.bl (g i j),H,I,rfl,q⟩
def wW (i j:Int):Prop:=0<=j/\j<=1000000/\i.natAbs<2 ^ 64
def oR (i j:Int):Prop:=(-(2 ^ 64)<i/\i<2 ^ 64)\/(-(2 ^ 64)<j/\j<2 ^ 64)
theorem oR.ok {i j:Int}(h:oR i j):IntMulOk i j:=by
 rcases h with ⟨h1,h2⟩ | ⟨h1,h2⟩
 ·exact .of_left (intBits_le_64 h1 h2)
 ·exact .of_right (intBits_le_64 h1 h2)
theorem Ui (k:Nat):(0:Int)<=2 ^ k:=by
 rw[two_pow_cast];exact Int.natCast_nonneg _
theorem Uj:gh X (W3 .Add) (sJ λi j=>.int (i+j)):=wU λ_ _ _ _ _ _ _ q=>add_int q
theorem Uk:gh X (W3 .Sub) (sJ λi j=>.int (i-j)):=wU λ_ _ _ _ _ _ _ q=>sub_int q
theorem Ul:gh X (W3 .Mult) (rI oR λi j=>.int (i*j)):=yP λ_ _ _ _ _ _ _ hc q=>mul_int q hc.ok
theorem Um:gh X (W3 .Mod) (rI (λ_ j=>0<j) λi j=>.int (i % j)):=yP λi j _ _ _ _ _ hc q=>by
 have h1:(0:Int)<j:=hc;exact mod_int' (by lia) (by rw[Int.fmod_eq_emod_of_nonneg i (by lia)];exact q)
theorem Uo:gh X (W3 .Pow) (rI wW λi j=>.int (i ^ j.toNat)):=yP λ_ _ _ _ _ _ _ hc q=>pow_int_small hc.1 hc.2.1 hc.2.2 q
theorem Uq:gh X (W3 .RShift) (rI (λ_ j=>0<=j) λi j=>.int (i / 2 ^ j.toNat)):=yP λi j _ _ _ _ _ hc q=>
 rshift_int hc (by rw[Int.fdiv_eq_ediv_of_nonneg i (Ui _)];exact q)
theorem Ur {f:Wb->Sem Wb}{g:Int->Int}
  (rule:∀(i:Int) (t:Tok) (s:Wd) (Q:Ti) (E:Ti),Q (.int (g i) s.toks) { s with toks:=s.toks+1 }->Wj (Wm X.prog X.w) X.A (f (.int i t)) Q E s) :
  Br X f (rU λi=>.int (g i)):=by
 intro pins s σ H x v Q I rx h;obtain⟨i,rfl,q⟩:=h;obtain⟨t,rfl⟩:=rx;exact rule i t s _ _ ⟨.int (g i),H,I.tok _,⟨_,rfl⟩,q⟩
theorem GC:Br X (unaryOp .USub) (rU λi=>.int (-i)):=Ur λ_ _ _ _ _ q=>neg_int q
end
section
variable {X:Cx}{a b c:Expr}{ta tb tc:TE}{pos:Pos}
theorem Us {Q:VK}{k k':Bool}(I:Inv X pins σ H s)(q:Q (.bl k) H)(e:k=k'):EP X pins σ Q (.bool k') s:=by
 subst e;exact⟨.bl k,H,I,rfl,q⟩
theorem Ut:gh X (WU .Lt) (sJ λi j=>.bl (decide (i<j))):=wV λ_ _ _ _ _ _ _ q=>lt_int q
theorem Uu:gh X (WU .Gt) (sJ λi j=>.bl (decide (j<i))):=wV λ_ _ _ _ _ _ _ q=>gt_int q
theorem Uv:gh X (WU .IsNot) (λx y H Q=>y=.non/\Q (.bl (!decide (x=.non))) H):=by
 intro pins s σ H x y v u Q I rx ry h;obtain⟨rfl,q⟩:=h;cases ry;refine isnot_none_gen (Us I q ?_);cases x<;>first
  | (cases rx;rfl)
  | (obtain⟨t,rfl⟩:=rx;rfl)
def isObj:HO->Bool
 | .lst _=>true
 | .ins _ _ _=>true
 | _=>false
theorem qg (b:Expr)(h:op≠.In:=by decide)(h2:op≠.NotIn:=by decide):Ww op b=false:=by
 have e1:(op == CmpOp.In)=false:=by cases op<;>first | rfl | exact Qg rfl h
 have e2:(op == CmpOp.NotIn)=false:=by cases op<;>first | rfl | exact Qg rfl h2
 cases b<;>simp[Ww,e1,e2]
theorem Uw {r:R2}(ho:gh X (WU op) r)(ha:PE X a ta)(hb:PE X b tb)(hm:Ww op b=false):PE X (.Compare a [op] [b] pos) (wR r ta tb):=by
 intro pins s σ H Q I h;exact wpAny_Compare1 (uw ha hb I h λv u s2 x y H2 I2 rx ry q=>ho pins s2 σ H2 x y v u Q I2 rx ry q) hm
def Ux (t:TE):TT:=λσ H Q=>t σ H λx H'=>∃k,x=.bl k/\Q k H'
theorem Uy {r:R2}(ho:gh X (WU op) r)(ha:PE X a ta)(hb:PE X b tb)(hm:Ww op b=false):PT X (.Compare a [op] [b] pos) (Ux (wR r ta tb)):=by
 intro pins s σ H Q I h;refine wpAny_isTrue_Compare1 (aM (ha pins s σ H _ I h) λv s1 ⟨x,H1,I1,r1,q1⟩=>aM (hb pins s1 σ H1 _ I1 q1) λu s2 ⟨y,H2,I2,r2,q2⟩=>
  aM (ho pins s2 σ H2 x y v u _ I2 r1 r2 q2) λc s3 ⟨z,H3,I3,r3,k,e,q3⟩=>?_) hm
 subst e;cases r3;exact WR ⟨H3,I3,q3⟩
def ux (K:Xc)(x:V)(H:Hp)(k:Bool):Prop:=
 match x with
 | .non=>k=false
 | .bl b=>k=b
 | .int i=>k=(i != 0)
 | .str y=>y.length<=Wi/\k=((y.length:Int) != 0)
 | .byt y=>y.size<=Wi/\k=((y.size:Int) != 0)
 | .ref p=>(∃xs,aR K H p xs/\k = !xs.isEmpty)\/(∃xs,bG K H p xs/\k = !xs.isEmpty)\/∃kvs,H p=some (.dK kvs)/\k = !kvs.isEmpty
 | _=>False
theorem Uz {κ:Type}{kvs:List (κ×V)}{vs:List (κ×Wb)}(r:KV kvs vs):(!vs.isEmpty) = !kvs.isEmpty:=by
 cases r<;>rfl
theorem Bt {its:Tq}(r:Vals xs its):(!its.toArray.isEmpty) = !xs.isEmpty:=by
 cases r<;>simp
theorem vJ:(Wi:Nat)<2 ^ 63:=by rw[Wr];decide
theorem UG:Bs X (λx H Q=>∃k,ux X.K x H k/\Q k H):=by
 intro pins s σ H x v Q I rx h;obtain⟨k,e,q⟩:=h;have hl:=vJ;have hs:Wi=16777216:=Wr;cases x with
 | non=>
  cases rx;have e':k=false:=e;subst e';exact truthy_none ⟨H,I,q⟩
 | bl b=>
  cases rx;have e':k=b:=e;subst e';exact WR ⟨H,I,q⟩
 | int i=>
  obtain⟨t,rfl⟩:=rx;have e':k=(i != 0):=e;subst e';exact PySem.P.truthy_int ⟨H,I,q⟩
 | str y=>
  obtain⟨t,rfl⟩:=rx;obtain⟨hy,e'⟩:y.length<=Wi/\k=((y.length:Int) != 0):=e;subst e';exact PySem.P.truthy_str (by lia) ⟨H,I.tok _,q⟩
 | byt y=>
  obtain⟨t,rfl⟩:=rx;obtain⟨hy,e'⟩:y.size<=Wi/\k=((y.size:Int) != 0):=e;subst e';exact PySem.W.truthy_bytes (by lia) ⟨H,I.tok _,q⟩
 | ref p=>
  cases rx;have e':(∃xs,aR X.K H p xs/\k = !xs.isEmpty)\/(∃xs,bG X.K H p xs/\k = !xs.isEmpty)\/∃kvs,H p=some (.dK kvs)/\k = !kvs.isEmpty:=e;rcases e' with ⟨xs,hx,e'⟩ | ⟨xs,hx,e'⟩ | ⟨kvs,hx,e'⟩
  ·subst e';obtain⟨its,r,pl,hz⟩:=I.list hx;have hlen:=r.length;exact wpAny_truthy_list pl.isList (by simp only[Xo];lia) ⟨H,I.tok _,by rw[Bt r];exact q⟩
  ·subst e';obtain⟨its,r,pl,hz⟩:=I.tuple hx;have hlen:=r.length;exact truthy_tuple pl (by simp only[Xo];lia) ⟨H,I.tok _,by rw[Bt r];exact q⟩
  ·subst e';obtain⟨hz,hS,vs,r,m⟩:kvs.length<=Wi/\(p == WH)=false/\∃vs,KV kvs vs/\s.heap.DictOf (eN X.prog X.w) p vs:=I.hok p _ hx;have hlen:kvs.length=vs.length:=Paired.length r;exact wpAny_truthy_dict hS m (by lia) ⟨H,I.tok _,by rw[Uz r];exact q⟩
 | _=>exact(show False from e).elim
theorem UJ (ha:PE X a ta)(he:∀whole,isTrue a X.env whole=(do let v <- whole;standAt a.pos;WZ [v] (truthy v))) :
  PT X a (λσ H Q=>ta σ H λx H'=>∃k,ux X.K x H' k/\Q k H'):=by
 intro pins s σ H Q I h;exact isTrue_plain (aM (ha pins s σ H _ I h) λv s1 ⟨x,H1,I1,r1,q1⟩=>UG pins s1 σ H1 x v Q I1 r1 q1) (he _)
theorem vals1 {x:V}(r:Vals [x] us):∃u,us=[u]/\RelV x u:=by
 cases r with
 | cons r1 r2=>cases r2;exact⟨_,rfl,r1⟩
theorem vals2 {x y:V}(r:Vals [x,y] us):∃u w',us=[u,w']/\RelV x u/\RelV y w':=by
 cases r with
 | cons r1 r2=>
  cases r2 with
  | cons r3 r4=>cases r4;exact⟨_,_,rfl,r1,r3⟩
theorem UL:j5 X (.builtin "ord") (λxs H Q=>∃x,xs=[.str x]/\x.length=1/\Q (.int (x.cps.getD 0 0:Nat)) H):=by
 intro pins s σ H xs us Q I r h;obtain⟨x,rfl,hz,q⟩:=h;obtain⟨u,rfl,t,rfl⟩:=vals1 r;exact ord_of_one hz ⟨.int _,H,I.tok _,⟨_,rfl⟩,q⟩
def wX (K:Xc)(x:V)(H:Hp)(n:Nat):Prop:=
 match x with
 | .str y=>y.length<=Wi/\n=y.length
 | .byt y=>y.size<=Wi/\n=y.size
 | .ref p=>(∃xs,aR K H p xs/\n=xs.length)\/∃xs,bG K H p xs/\n=xs.length
 | _=>False
theorem UW:j5 X (.builtin "len") (λxs H Q=>∃x n,xs=[x]/\wX X.K x H n/\Q (.int n) H):=by
 intro pins s σ H xs us Q I r h;obtain⟨x,n,rfl,e,q⟩:=h;obtain⟨u,rfl,rx⟩:=vals1 r;have hl:=vJ;have hs:Wi=16777216:=Wr;cases x with
 | str y=>
  obtain⟨t,rfl⟩:=rx;obtain⟨hy,e'⟩:y.length<=Wi/\n=y.length:=e;subst e';exact len_str (by lia) ⟨.int _,H,I.tok _,⟨_,rfl⟩,q⟩
 | byt y=>
  obtain⟨t,rfl⟩:=rx;obtain⟨hy,e'⟩:y.size<=Wi/\n=y.size:=e;subst e';exact PySem.W.len_bytes (by lia) ⟨.int _,H,I.tok _,⟨_,rfl⟩,q⟩
 | ref p=>
  cases rx;have e':(∃xs,aR X.K H p xs/\n=xs.length)\/∃xs,bG X.K H p xs/\n=xs.length:=e;rcases e' with ⟨xs,hx,e'⟩ | ⟨xs,hx,e'⟩
  ·subst e';obtain⟨its,r',pl,hz⟩:=I.list hx;have hlen:=r'.length;exact Calls.call_len_list pl.isList (by simp only[Xo];lia) ⟨.int xs.length,H,I.tok _,⟨_,by simp only[Xo];rw[hlen]⟩,q⟩
  ·subst e';obtain⟨its,r',pl,hz⟩:=I.tuple hx;have hlen:=r'.length;exact len_tuple pl (by simp only[Xo];lia) ⟨.int xs.length,H,I.tok _,⟨_,by simp only[Xo];rw[hlen]⟩,q⟩
 | _=>exact(show False from e).elim
end
structure cg (k:Nat)(A:Wv):Prop where
 hd:A.handled=none
 dp:A.depth+3*k+5<recursionLimit
 un:A.units+16*k+200<WG
theorem cg.mono (r:cg k A)(h:j<=k):cg j A:=⟨r.hd,by have:=r.dp;lia,by have:=r.un;lia⟩
theorem cg.deeper (r:cg (k+1) A)(env:Env):cg k (A.deeper env):=
 ⟨r.hd,by have:=r.dp;show A.depth+1+3*k+5<_;lia,by have:=r.un;show A.units+3+16*k+200<_;lia⟩
theorem cg.depth (r:cg k A):A.depth<recursionLimit:=by have:=r.dp;lia
theorem cg.units (r:cg k A):A.units+64<WG:=by have:=r.un;lia
def Bu:TA:=λ_ H Q=>Q [] H
def U0 (ta:TE)(tr:TA):TA:=λσ H Q=>ta σ H λx H1=>tr σ H1 λxs H2=>Q (x::xs) H2
section
variable {X:Cx}{e:Expr}{es:List Expr}{te:TE}{t:TA}{pos:Pos}
theorem mJ:PA X [] Bu:=λ_ _ _ _ H Q I h=>QH ⟨[],H,I,.nil,h⟩
theorem nM (ha:PE X e te)(hr:PA X es t)(hs:Wf (e::es) X.env=(false,Wx e X.env)::Wf es X.env:=by rfl):PA X (e::es) (U0 te t):=by
 intro pos pins s σ H Q I h;rw[hs];show Wj _ _ (spliced ((false,Wx e X.env)::Wu pos (Wf es X.env))) _ _ s;refine QB (aM (ha pins s σ H _ I h) λu s1 ⟨x,H1,I1,r1,q1⟩=>?_);exact aM (hr pos pins s1 σ H1 _ I1 q1) λus s2 ⟨xs,H2,I2,r2,q2⟩=>⟨x::xs,H2,I2,.cons r1 r2,q2⟩
def Bv (t:TA):TE:=λσ H Q=>t σ H λxs H1=>xs.length<=Wi/\∀p,H1 p=none->Q (.ref p) (upd H1 p (.tup xs))
def Bw (t:TA):TE:=λσ H Q=>t σ H λxs H1=>xs.length<=Wi/\∀p,H1 p=none->Q (.ref p) (upd H1 p (.lst xs))
theorem U3 {x1}(h:PA X es t):PE X (.Tuple es x1 pos) (Bv t):=by
 intro pins s σ H Q I hq;refine wpAny_Tuple_spliced (aM (h pos pins s σ H _ I hq) λus s1 ⟨xs,H1,I1,r,z,q⟩=>⟨by rw[<- r.length];exact z,?_⟩);have hf:H1 s1.heap.objs.size=none:=I1.hok.fresh (Xj _);refine⟨.ref s1.heap.objs.size,upd H1 s1.heap.objs.size (.tup xs),I1.laid (t':=s1.toks) (λb u e=>Xn _ e) (Xj _) ?_,rfl,q _ hf⟩;exact⟨z,us,r,nH.new _ _⟩
theorem GD (h:PA X es t):PE X (.List es pos) (Bw t):=by
 intro pins s σ H Q I hq;refine wpAny_List_spliced (aM (h pos pins s σ H _ I hq) λus s1 ⟨xs,H1,I1,r,z,q⟩=>⟨by rw[<- r.length];exact z,?_⟩);have hf:H1 s1.heap.objs.size=none:=I1.hok.fresh (Xj _);refine⟨.ref s1.heap.objs.size,upd H1 s1.heap.objs.size (.lst xs),I1.laid (t':=s1.toks) (λb u e=>Xn _ e) (Xj _) ?_,rfl,q _ hf⟩;exact⟨z,us,0,r,XA _ rfl⟩
end
abbrev Sp:=List V->Hp->VK->XK->Prop
abbrev oM:=List Env->Hp->Wd->XK->Ti
structure qO (P:Wo)(w:Ws)(K:Xc)(mg:Tj)(base:Heap)(A:Wv)(outer:List Env)(s:Wd)(H:Hp):Prop where
 frames:A.frames=some outer
 mod:Mod K mg base
 bs:∀b o,base.get? b=some o->s.heap.get? b=some o/\H b=none
 bsz:base.objs.size<=s.heap.objs.size
 gW:s.heap.FunFrames base outer
 frf:∀b∈frs outer,H b=none
 hok:cV P w H s.heap
 bare:AllBare s.gens
def CE (outer:List Env)(P:Wo)(w:Ws)(H:Hp)(s:Wd)(Q:VK)(u:Wb)(s':Wd):Prop:=
 ∃v H',s'.os=s.os/\AllBare s'.gens/\Un (frs outer) [] H H' s.heap s'.heap/\cV P w H' s'.heap/\RelV v u/\Q v H'
def CR (CX:oM)(outer:List Env)(P:Wo)(w:Ws)(H:Hp)(s:Wd)(Q:VK)(E:XK)(r:Result)(s':Wd):Prop:=
 match r with
 | .ok (.ret u)=>CE outer P w H s Q u s'
 | .ok _=>False
 | .error e=>CX outer H s E e s'
structure aJ (P:Wo)(w:Ws)(K:Xc)(mg:Tj)(base:Heap)(CX:oM)(k:Nat)(f:We)(fd:WA)(ps:Tn)(sp:Sp):Prop where
 len:∀vs H Q E,sp vs H Q E->vs.length=ps.length
 run:∀(A:Wv) (outer:List Env) (s:Wd) (H:Hp) (args:Args) (us:Tq) (vs:List V) (Q:VK) (E:XK),cg k A->qO P w K mg base A outer s H->BindsTo s fd args (ps.zip us)->Vals vs us->sp vs H Q E->
  Vd (Wm P w) A (.call (.ref f) args) (CR CX outer P w H s Q E) s
theorem aJ.mono {f:We}{sp:Sp}(F:aJ P w K mg base CX j f fd ps sp)(h:j<=k) :
  aJ P w K mg base CX k f fd ps sp:=⟨F.len,λA outer s H args us vs Q E hr=>F.run A outer s H args us vs Q E (hr.mono h)⟩
theorem aJ.imp {P:Wo}{w:Ws}{K:Xc}{mg:Tj}{base:Heap}{CX:oM}{k:Nat}{f:We}{fd:WA}{ps:Tn}{sp sp':Sp}(F:aJ P w K mg base CX k f fd ps sp)
  (h:∀vs H Q E,sp' vs H Q E->sp vs H Q E):aJ P w K mg base CX k f fd ps sp':=
 ⟨λvs H Q E q=>F.len vs H Q E (h _ _ _ _ q),λA outer s H args us vs Q E hr he hb hv hs=>F.run A outer s H args us vs Q E hr he hb hv (h _ _ _ _ hs)⟩
section
variable {X:Cx}{pins:Tg}{σ:St}{H:Hp}{s s':Wd}
theorem Inv.env0 (I:Inv X pins σ H s):qO X.prog X.w X.K X.mg X.base X.A X.stack s H:=
 ⟨I.ok.frames,I.ok.mod,I.bs,XZ I.ok.bsz I.sz,I.stack,I.Gk,I.hok,I.bare⟩
theorem Inv.after {Q:VK}(I:Inv X pins σ H s)(h:CE X.stack X.prog X.w H s Q u s'):EP X pins σ Q u s':=by
 obtain⟨v,H',os,bare,un,hok,r,q⟩:=h;obtain⟨hh,g,d,t,os'⟩:=s';obtain rfl:os'=s.os:=os;exact⟨v,H',I.call (h':=hh) (g':=g) (d':=d) (t':=t) (ch:=[]) un hok bare (λb z=>Qg z (by simp)),r,q⟩
end
def GF (sp:Sp)(sO:List V)(E:XK)(t:TA):TE:=λσ H Q=>t σ H λvs H1=>sp (vs++sO) H1 Q E
def Binds (K:Xc)(fd:WA)(ps:Tn)(ds:Tq):Prop:=
 ∀(s:Wd) (us:Tq),K.In s.heap->(us++ds).length=ps.length->BindsTo s fd ⟨us,[]⟩ (ps.zip (us++ds))
theorem Binds.all (h:∀us:Tq,us.length=ps.length->bindArgs fd ⟨us,[]⟩=pure (ps.zip us)):Binds K fd ps []:=λs us _ hl=>by
 rw[Ym]at hl ⊢;exact .of_eq (h us hl)
def Bx (CX:oM)(X:Cx)(E:XK):Prop:=∀(pins:Tg)(σ:St)(H:Hp)(s:Wd)(e:Wb)(s':Wd),Inv X pins σ H s->CX X.stack H s E e s'->X.xe e s'
section
variable {X:Cx}{CX:oM}{k:Nat}{f C:We}{fd:WA}{ps:Tn}{sp:Sp}{sO:List V}{ds:Tq}{E:XK}{x m:Str}{p pos apos:Pos}{e o:Expr}{es:List Expr}{ta:TE}{t:TA}
theorem U4 {pins:Tg}{σ:St}{H:Hp}{s:Wd}{Q:VK}{us:Tq}{vs:List V}(F:aJ X.prog X.w X.K X.mg X.base CX k f fd ps sp)(hr:cg k X.A)(hb:Binds X.K fd ps ds)(hd:Vals sO ds)(hx:Bx CX X E)
  (I:Inv X pins σ H s) (r:Vals vs us) (h:sp (vs++sO) H Q E):Wj (Wm X.prog X.w) X.A (call (.ref f) us) (EP X pins σ Q) X.xe s:=by
 have r2:Vals (vs++sO) (us++ds):=r.append hd;have hl:(us++ds).length=ps.length:=by rw[<- r2.length];exact F.len _ _ _ _ h
 refine wpAny_call (Ve (F.run X.A X.stack s H ⟨us,[]⟩ (us++ds) (vs++sO) Q E hr I.env0 (hb s us I.qd hl) r2 h) λr s' hq=>?_);cases r with
 | error e=>exact hx pins σ H s e s' I hq
 | ok fl=>
  cases fl with
  | ret u=>exact I.after hq
  | next=>exact QZ hq
  | brk=>exact QZ hq
  | cont=>exact QZ hq
theorem GJ (F:aJ X.prog X.w X.K X.mg X.base CX k f fd ps sp)(hr:cg k X.A)(hg:Gl X x)(hm:X.mg x=some (.ref f))(hk:PySem.W.keepIn X.K (.ref f)=true)(hb:Binds X.K fd ps ds)(hd:Vals sO ds)(hx:Bx CX X E)
  (ha:PA X (e::es) t) (hdb:(x == ("__debug__" : Str))=false:=by decide) (he:Wf (e::es) X.env=(false,Wx e X.env)::Wf es X.env:=by rfl) (hpl:(Wu pos (Wf es X.env)).any (·.1)=false:=by rfl) :
  PE X (.Call (.Name x p) (e::es) [] pos) (GF sp sO E t):=by
 intro pins s σ H Q I h;refine WM (SJ I hg hm ?_ hdb);refine PySem.W.callWith_K (h₀:=X.base) I.ok.mod.Av hk (aM (ha pos pins s σ H _ I h) λus s1 ⟨vs,H1,I1,r,q⟩=>⟨I1.qd,?_⟩) he hpl;exact U4 F hr hb hd hx I1 r q
end
def PK (X:Cx)(kws:List WL)(t:TA):Prop:=
 ∀(pos:Pos) (pins:Tg) (s:Wd) (σ:St) (H:Hp) (Q:List V->Hp->Prop),Inv X pins σ H s->t σ H Q->Wj (Wm X.prog X.w) X.A (evalAll ((W9 pos (WP kws X.env)).map (·.2))) (AP X pins σ Q) X.xe s
structure fO (N P:Tn)(sc:WX):Prop where
 kind:sc.kind=.function
 co:sc.isCoroutine=false
 gen:sc.isGenerator=false
 nd:N.Nodup
 pre:N.take P.length=P
 iM:∀x∈P,sc.names.lookup x=some .local\/sc.names.lookup x=some .cell
 nofree:∀y∈sc.names,y.2≠.free
theorem GK:∀ {binds:List (Str×Wb)}{m:Tj},(∀v,(x,v)∉binds)->bindL kindOf binds m x=m x
 | [],_,_=>rfl
 | (n,v)::r,m,h=>by
  unfold bindL;rw[GK λw hw=>h w (Xi _ hw)];split
  ·have:x≠n:=by rintro rfl;exact h v Xg
   simp[this]
  ·rfl
theorem GQ:∀ {binds:List (Str×Wb)}{m:Tj},(∀v,(x,v)∉binds)->bindC kindOf binds m x=m x
 | [],_,_=>rfl
 | (n,v)::r,m,h=>by
  unfold bindC;rw[GQ λw hw=>h w (Xi _ hw)];split
  ·rfl
  ·have:x≠n:=by rintro rfl;exact h v Xg
   simp[this]
theorem GR {v:Wb}:∀ {P:Tn}{vs:Tq}{i:Nat}{m:Tj},P.Nodup->P[i]? = some x->vs[i]? = some v->kindOf x=some .local->
  bindL kindOf (P.zip vs) m x=some v
 | [],_,_,_,_,h,_,_=>by simp at h
 | _::_,[],_,_,_,_,h,_=>by simp at h
 | p::P,w::vs,0,m,nd,h1,h2,hk=>by
  simp at h1 h2;subst h1;subst h2;show bindL kindOf ((p,w)::P.zip vs) m p=_;unfold bindL;rw[GK λv hv=>(XI.mp nd).1 (List.of_mem_zip hv).1,Qf hk];simp
 | p::P,w::vs,i+1,m,nd,h1,h2,hk=>by
  show bindL kindOf ((p,w)::P.zip vs) m x=_;unfold bindL;exact GR (i:=i) (XI.mp nd).2 (by simpa using h1) (by simpa using h2) hk
theorem GX {v:Wb}:∀ {P:Tn}{vs:Tq}{i:Nat}{m:Tj},P.Nodup->P[i]? = some x->vs[i]? = some v->kindOf x≠some .local->
  bindC kindOf (P.zip vs) m x=some v
 | [],_,_,_,_,h,_,_=>by simp at h
 | _::_,[],_,_,_,_,h,_=>by simp at h
 | p::P,w::vs,0,m,nd,h1,h2,hk=>by
  simp at h1 h2;subst h1;subst h2;show bindC kindOf ((p,w)::P.zip vs) m p=_;unfold bindC;rw[GQ λv hv=>(XI.mp nd).1 (List.of_mem_zip hv).1,Qe hk];simp
 | p::P,w::vs,i+1,m,nd,h1,h2,hk=>by
  show bindC kindOf ((p,w)::P.zip vs) m x=_;unfold bindC;exact GX (i:=i) (XI.mp nd).2 (by simpa using h1) (by simpa using h2) hk
def start (N:Tn)(vs:List V):St:=vs.map some++Ya (N.length-vs.length) none
def lq (CX:oM)(P:Wo)(w:Ws)(K:Xc)(mg:Tj)(base:Heap)(N:Tn)(qual:Str)(scope:WX)(f:We)(cd:Wb)(A:Wv)(outer:List Env)(s:Wd)(H:Hp)(E:XK):Cx where
 prog:=P
 w:=w
 K:=K
 mg:=mg
 base:=base
 A:=A.deeper (envOfC qual scope s.heap.objs.size f cd)
 N:=N
 s₀:=s
 H₀:=H
 env:=envOfC qual scope s.heap.objs.size f cd
 outer:=outer
 stack:=envOfC qual scope s.heap.objs.size f cd::outer
 ex:=[]
 calm:=true
 fn:=λ_=>true
 pn:=[]
 xe:=λe s'=>Wj (Wm P w) (A.deeper (envOfC qual scope s.heap.objs.size f cd)) (leaving (envOfC qual scope s.heap.objs.size f cd) e) (λ_ s''=>CX outer H s E e s'') (λe' s''=>CX outer H s E e' s'') s'
theorem GZ {sc:WX}{n:Nat}(h:sc.names.lookup x=some .cell):∃c,(WC n sc.names []).lookup x=some c:=by
 have q:=O6 sc.names n [] (.inl h);exact Option.isSome_iff_exists.mp q
theorem U5 {CX:oM}{P:Wo}{w:Ws}{K:Xc}{mg:Tj}{base:Heap}{N ps:Tn}{qual:Str}{scope:WX}{f:We}{cd:Wb}{A:Wv}{outer:List Env}{s s1:Wd}{H:Hp}{E:XK}{us:Tq}{vs:List V}
  (S:fO N ps scope) (hd:A.handled=none) (e0:qO P w K mg base A outer s H) (hl:vs.length=ps.length) (r:Vals vs us)
  (x:InCallC s s.heap.objs.size (bindL (envOfC qual scope s.heap.objs.size f cd).kindOf (ps.zip us) λ_=>none) (WC (s.heap.objs.size+1) scope.names []) (bindC (envOfC qual scope s.heap.objs.size f cd).kindOf (ps.zip us) λ_=>none) s1) :
  Inv (lq CX P w K mg base N qual scope f cd A outer s H E) [] (start N vs) H s1:=by
 have hpl:ps.length<=N.length:=by have:=congrArg QW S.pre;rw[XJ]at this;lia
 obtain⟨h1,tk,rfl,hk⟩:=x.done;have noA:∀b:We,b∉(lq CX P w K mg base N qual scope f cd A outer s H E).ex:=λb z=>Qg (show b∈([]:Tr) from z) (by simp);refine⟨⟨e0.mod,S.kind,rfl,rfl,Xj _,λy z c h1 h2=>?_,λy hy=>?_,λy c _ h=>?_,λ_=>hd,Around.frames_deeper e0.frames,.inr ⟨rfl,rfl⟩,λb z=>Qg z (noA b),e0.bs,e0.bsz,λb _ _=>noA b,λb z=>Qg z (noA b),e0.gW,e0.frf⟩,
  rfl,e0.bare,Un.kept hk,⟨_,x.toInCall.ns,λi y v h1 h2 h3=>?_⟩,λy c h=>⟨_,x.cell y c h⟩,e0.hok.fresh (Xj _),λy c h=>?_,λp hp=>Qg (show p∈([]:Tg) from hp) (by simp),e0.hok.kept hk,?_⟩
 ·exact name_of_addr x.apart (Qu h1) (Qu h2)
 ·have hy:scope.names.lookup y=some .cell\/scope.names.lookup y=some .free:=hy;rcases hy with hy | hy
  ·exact GZ hy
  ·exact Qg rfl (S.nofree _ (Qu hy))
 ·exact Nat.le_of_lt (x.above y c (Qu h))
 ·have hi:i<vs.length:=by
   unfold start at h2;by_cases hi:i<vs.length
   ·exact hi
   ·rw[XO (by simpa using hi)]at h2;rw[List.getElem?_replicate]at h2;split at h2<;>cases h2
  have ha:vs[i]? = some v:=by
   unfold start at h2;rw[Yd (by simpa using hi),Xe]at h2;cases e:vs[i]? with
   | none=>rw[e]at h2;cases h2
   | some a=>rw[e]at h2;cases h2;rfl
  obtain⟨u,hu,rv⟩:=r.get ha;have hp:ps[i]? = some y:=by
   rw[<- S.pre,List.getElem?_take_of_lt (by lia)];exact h1
  have ndP:ps.Nodup:=by rw[<- S.pre];exact S.nd.sublist (Oe _ _)
  refine⟨u,rv,?_⟩;rcases S.iM y (Xl hp)with k | k
  ·exact .inl ⟨k,GR ndP hp hu k⟩
  ·obtain⟨c,e⟩:=GZ (n:=s.heap.objs.size+1) k;refine .inr ⟨.inl k,c,e,?_⟩;have q:=x.cell y c e;rw[GX ndP hp hu (by show scope.names.lookup y≠_;rw[k];decide)]at q;exact q
 ·exact e0.hok.fresh (Nat.le_of_lt (x.above y c (Qu h)))
 ·unfold start;show _=N.length;rw[Xy,Xb,Yv];lia
theorem yQ {CX:oM}{P:Wo}{w:Ws}{K:Xc}{mg:Tj}{base:Heap}{k:Nat}{f:We}{name qual:Str}{params:Arguments}{body:List WJ}{scope:WX}{dV kV doc pm cdv ct oc:Wb}{an od:Option We}
  {osl:Array (Tv)} {N ps:Tn} {sp:Sp} (lk:K.lookup f=some ⟨oc,od,.func (O9 name qual params body scope dV kV doc pm an cdv ct),osl⟩) (hcd:PySem.W.codeIn K cdv qual=true) (S:fO N ps scope)
  (len:∀vs H Q E,sp vs H Q E->vs.length=ps.length)
  (hbody:∀(A:Wv) (outer:List Env) (s:Wd) (H:Hp) (vs:List V) (Q:VK) (E:XK),cg k (A.deeper (envOfC qual scope s.heap.objs.size f cdv))->sp vs H Q E->
   ∃t,dh (lq CX P w K mg base N qual scope f cdv A outer s H E) body t/\t { nx:=λ_ H'=>Q .non H',rt:=Q } (start N vs) H) :
  aJ P w K mg base CX (k+1) f (O9 name qual params body scope dV kV doc pm an cdv ct) ps sp:=by
 refine⟨len,λA outer s H args us vs Q E hr e0 hb r hsp=>?_⟩;have hl:=len _ _ _ _ hsp;have KX:K.In s.heap:=e0.mod.Av.keeps λb o e=>(e0.bs b o e).1;have lim:s.heap.NoLimit:=e0.mod.nolimit.keeps λb o e=>(e0.bs b o e).1;have hkind:∀y∈ps.zip us,scope.names.lookup y.1=some .local\/(scope.names.lookup y.1=some .cell/\((WC (s.heap.objs.size+1) scope.names []).lookup y.1).isSome=true):=λ⟨n,v⟩ hy=>by
  rcases S.iM n (List.of_mem_zip hy).1 with q | q
  ·exact .inl q
  ·exact .inr ⟨q,O6 _ _ _ (.inl q)⟩
 refine codeAny_call_function hr.depth (KX _ _ lk) rfl S.co S.gen rfl (PySem.W.codeRec_of KX hcd) (hb _ _ _ _ ?_);refine wpAny_newFunctionEnv_cells S.kind hkind λenv he s1 x=>?_;subst he;refine⟨lim.keeps x.toInCall.keep,codeAny_func ?_⟩;obtain⟨t,ht,hq⟩:=hbody A outer s H vs Q E (hr.deeper _) hsp;have I:Inv (lq CX P w K mg base N qual scope f cdv A outer s H E) [] (start N vs) H s1:=U5 S hr.hd e0 hl r x;refine W8 (ht [] s1 (start N vs) H _ I hq) (λfl s' hs=>?_) λe s' hs=>hs;have fin:∀ {σ':St} {H':Hp} {v:V} {u:Wb},Inv (lq CX P w K mg base N qual scope f cdv A outer s H E) [] σ' H' s'->RelV v u->Q v H'->CE outer P w H s Q u s':=
  λ{σ' H' v u} J rv q=>⟨v,H',J.os,J.bare,J.base,J.hok,rv,q⟩
 cases fl with
 | ret u=>
  obtain⟨v,σ',H',J,rv,q⟩:=hs;exact fin J rv q
 | next=>
  obtain⟨σ',H',J,q⟩:=hs;exact fin (v:=V.non) (u:=Value.none) J rfl q
 | brk=>
  obtain⟨_,_,_,q⟩:=hs;exact QZ q
 | cont=>
  obtain⟨_,_,_,q⟩:=hs;exact QZ q
section
variable {X:Cx}{x:Str}{p pos:Pos}{e:Expr}{es:List Expr}{t:TA}{id T:String}{r:List V->Hp->VK->Prop}
def BJ (r:List V->Hp->VK->Prop)(t:TA):TE:=λσ H Q=>t σ H λvs H1=>r vs H1 Q
theorem BK (hc:j5 X (.builtin id) r)(hg:Gl X x)(hm:X.mg x=none)(hv:Wt x=some (.builtin id))(ha:PA X (e::es) t)(hn:x≠"__name__":=by decide) (hdb:(x == ("__debug__" : Str))=false:=by decide)
  (he:Wf (e::es) X.env=(false,Wx e X.env)::Wf es X.env:=by rfl) (hpl:(Wu pos (Wf es X.env)).any (·.1)=false:=by rfl):PE X (.Call (.Name x p) (e::es) [] pos) (BJ r t):=by
 intro pins s σ H Q I h;refine WM (qL I hg hm hv ?_ hn hdb);exact PyProof.Rows.callWith_builtin1 (aM (ha pos pins s σ H _ I h) λus s1 ⟨vs,H1,I1,r1,q1⟩=>hc pins s1 σ H1 vs us Q I1 r1 q1) he hpl
theorem G3 (hc:j5 X (.type T) r)(hg:Gl X x)(hm:X.mg x=none)(hv:Wt x=some (.type T))(ha:PA X (e::es) t)(hn:x≠"__name__":=by decide) (hdb:(x == ("__debug__" : Str))=false:=by decide)
  (he:Wf (e::es) X.env=(false,Wx e X.env)::Wf es X.env:=by rfl) (hpl:(Wu pos (Wf es X.env)).any (·.1)=false:=by rfl):PE X (.Call (.Name x p) (e::es) [] pos) (BJ r t):=by
 intro pins s σ H Q I h;refine WM (qL I hg hm hv ?_ hn hdb);exact QJ (aM (ha pos pins s σ H _ I h) λus s1 ⟨vs,H1,I1,r1,q1⟩=>hc pins s1 σ H1 vs us Q I1 r1 q1) he hpl
end
end L2
namespace HT
open PySem PyProof.Rows
section
open PySem.SeqAt
open PySem.MeetsSeq PySem.MeetsSeq2 PySem.MeetsSeq3
end
section
variable {prog:Wo}{w:Ws}{A:Wv}{E:Ti}{s:Wd}
theorem U6 {t b:We}{vs ws:Tq}{Q:Ti}(ht:IsTup s.heap t vs.toArray)(hb:IsTup s.heap b ws.toArray)(hv:vs≠[])
  (h1:ws=[]->Q (.ref t) s) (h2:ws≠[]->Q (.ref s.heap.objs.size) { s with heap:=s.heap.push { cls:=.type "tuple",data:=.seq (vs++ws).toArray } })
  (hsz:vs.length+ws.length<=Wi):Wj (Wm prog w) A (W3 .Add (.ref t) (.ref b)) Q E s:=by
 obtain⟨⟨cls,dd,data,sl⟩,ho,hc,n,hd⟩:=id ht;obtain⟨⟨cls2,dd2,data2,sl2⟩,ho2,hc2,n2,hd2⟩:=id hb;simp only at hc hd hc2 hd2;subst hc hd hc2 hd2;have e:vs.toArray++ws.toArray=(vs++ws).toArray:=by simp
 by_cases hw:ws=[]
 ·exact concat_meets ⟨_,ho,rfl⟩ ⟨_,ho2,rfl⟩ noFill_tuple_add seq_tuple_add PySem.F.slot_tuple_add PySem.F.entry_tuple_add (PySem.F.args_tuple_add_2 _ _)
   (tuple_addW1 t b vs.toArray ws.toArray n n2 dd dd2 sl sl2 (by simpa using hv) (by simp[hw])) ⟨ho,ho2,h1 hw⟩
 ·refine concat_meets ⟨_,ho,rfl⟩ ⟨_,ho2,rfl⟩ noFill_tuple_add seq_tuple_add PySem.F.slot_tuple_add PySem.F.entry_tuple_add (PySem.F.args_tuple_add_2 _ _)
   (tuple_addW2 t b vs.toArray ws.toArray n n2 dd dd2 sl sl2 (by simpa using hv) (by simpa using hw) (by rw[Xo,Xo];exact hsz)) ⟨ho,ho2,?_⟩
  rw[e];exact h2 hw
def gM (n d:Nat):Option Int->Nat
 | none=>d
 | some v=>if v<0 then(v+(n:Int)).toNat else min v.toNat n
theorem U7 (n d:Nat):gM n d none=d:=rfl
theorem yR (n d k:Nat):gM n d (some (k:Int))=min k n:=by
 show(if (k:Int)<0 then((k:Int)+(n:Int)).toNat else min (k:Int).toNat n)=min k n
 rw[Qe (by lia),Yx]
end
end HT
namespace L2
open PySem PySem.Spec PyProof.Rows
variable {xs:List (List Key×We×Wb)}{us its:Tq}{n t':Nat}{α:Type}{pins:Tg}{σ:St}{H H':Hp}{s:Wd}{y x:V}{u v:Wb}{P:Wo}{w:Ws}{kvs:List (List Key×V)}{a:We}{Q:Ti}
abbrev TO:=St->Hp->(Option Int->Hp->Prop)->Prop
def PO (X:Cx)(e:Option Expr)(t:TO):Prop:=
 ∀(pins:Tg) (s:Wd) (σ:St) (H:Hp) (Q:Option Int->Hp->Prop),Inv X pins σ H s->t σ H Q->
  Wj (Wm X.prog X.w) X.A (evalPart e X.env) (λu s'=>∃o H',Inv X pins σ H' s'/\IsPart u o/\Q o H') X.xe s
def U8:TO:=λ_ H Q=>Q none H
def U9 (t:TE):TO:=λσ H Q=>t σ H λx H1=>∃i,x=.int i/\Q (some i) H1
theorem intsAre_of {ns:Tp}:∀ {us:Tq},Vals (ns.map V.int) us->Vp us ns:=by
 induction ns with
 | nil=>intro us r;rw[YL]at r;cases r;exact .nil
 | cons n ns ih=>
  intro us r;rw[Xz]at r;cases r with
  | cons r1 r2=>
   obtain⟨t,e⟩:=r1;subst e;exact .cons n t (ih r2)
section
variable {X:Cx}{e:Expr}{te:TE}{lo hi:Option Expr}{tl th:TO}{pos p2:Pos}
theorem Vq:PO X none U8:=by
 intro pins s σ H Q I h;rw[evalPart_none];exact Wc ⟨none,H,I,.none,h⟩
theorem Vr (h:PE X e te):PO X (some e) (U9 te):=by
 intro pins s σ H Q I hw;rw[evalPart_some];refine aM (h pins s σ H _ I hw) λu s1 ⟨x,H1,I1,r1,q1⟩=>?_;obtain⟨i,rfl,q⟩:=q1;obtain⟨t,rfl⟩:=r1;exact⟨some i,H1,I1,.int i t,q⟩
def G4 (X:Cx)(r:V->Option Int->Option Int->Hp->VK->Prop):Prop:=
 ∀(pins:Tg) (s:Wd) (σ:St) (H:Hp) (x:V) (v vl vu:Wb) (lo hi:Option Int) (sl:We) (Q:VK),Inv X pins σ H s->RelV x v->s.heap.IsSliceOf sl vl vu .none->IsPart vl lo->IsPart vu hi->r x lo hi H Q->
  ∃T id,typeLookup (.type T) "__getitem__" = pure (some (.builtin id))/\s.TypeIs v T/\Wj (Wm X.prog X.w) X.A (getItem v (.ref sl)) (EP X pins σ Q) X.xe s
def Vs (r:V->Option Int->Option Int->Hp->VK->Prop)(te:TE)(tl th:TO):TE:=λσ H Q=>te σ H λx H1=>tl σ H1 λl H2=>th σ H2 λu H3=>r x l u H3 Q
theorem Vt {r:V->Option Int->Option Int->Hp->VK->Prop}(hr:G4 X r)(he:PE X e te)(hl:PO X lo tl)(hu:PO X hi th):PE X (.Subscript e (.Slice lo hi none p2) pos) (Vs r te tl th):=by
 intro pins s σ H Q I h;refine Subscript_ (aM (he pins s σ H _ I h) λv s1 ⟨x,H1,I1,r1,q1⟩=>?_);refine wpAny_Slice (aM (hl pins s1 σ H1 _ I1 q1) λvl s2 ⟨l,H2,I2,pl,q2⟩=>aM (hu pins s2 σ H2 _ I2 q2) λvu s3 ⟨u,H3,I3,pu,q3⟩=>?_);rw[evalPart_none];refine Wc ?_;have I4:Inv X pins σ H3 { s3 with heap:=s3.heap.push { cls:=.type "slice",data:=.fields #[vl,vu,.none] } }:=I3.kept (t':=s3.toks) λb ob q=>Xn _ q;obtain⟨T,id,hT,ht,hg⟩:=hr pins { s3 with heap:=s3.heap.push { cls:=.type "slice",data:=.fields #[vl,vu,.none] } } σ H3 x v vl vu l u s3.heap.objs.size Q I4 r1 (Heap.IsSliceOf.new ..) pl pu q3;show Wj (Wm X.prog X.w) X.A (subscriptTail e (.Slice lo hi none p2) v (.ref s3.heap.objs.size)) (EP X pins σ Q) X.xe { s3 with heap:=s3.heap.push { cls:=.type "slice",data:=.fields #[vl,vu,.none] } };exact tail_any (ops:=[.ref s3.heap.objs.size,v]) ht hT hg (by with_unfolding_all rfl)
def mK (xs:List V)(lo hi:Option Int):List V:=(xs.drop (HT.gM xs.length 0 lo)).take (HT.gM xs.length xs.length hi-HT.gM xs.length 0 lo)
theorem Vu (xs:List V)(lo hi:Option Int):(mK xs lo hi).length<=xs.length:=by
 unfold mK;rw[XJ,Px];lia
def Vv (K:Xc):R2:=λx y H Q=>∃a b xs ys,x=.ref a/\y=.ref b/\bG K H a xs/\bG K H b ys/\xs≠[]/\xs.length+ys.length<=Wi/\
 (ys=[]->Q (.ref a) H)/\(ys≠[]->∀p,H p=none->Q (.ref p) (upd H p (.tup (xs++ys))))
theorem Vals.yS {xs:List V}(r:Vals xs us):us=[]↔xs=[]:=by
 cases r with
 | nil=>simp
 | cons _ _=>simp
theorem Vw:gh X (W3 .Add) (Vv X.K):=by
 intro pins s σ H x y v u Q I rx ry h;obtain⟨a,b,xs,ys,rfl,rfl,ha,hb,hx,hz,q1,q2⟩:=h;cases rx;cases ry;obtain⟨its,r1,p1,_⟩:=I.tuple ha;obtain⟨its2,r2,p2,_⟩:=I.tuple hb;refine HT.U6 p1 p2 (λz=>hx (r1.yS.mp z)) (λz=>⟨.ref a,H,I,rfl,q1 (r2.yS.mp z)⟩) (λz=>?_) (by rw[<- r1.length,<- r2.length];exact hz);refine⟨.ref s.heap.objs.size,_,I.laid (t':=s.toks) (o:=.tup (xs++ys)) (λb ob q=>Xn _ q) (Xj _) ?_,rfl,q2 (λw=>z (r2.yS.mpr w)) _ (I.hok.fresh (Xj _))⟩;exact⟨by rw[Xy];exact hz,_,r1.append r2,nH.new _ _⟩
end
def jo (n:Nat)(i:Int):Option Nat:=if 0<=i then(if i<n then some i.toNat else none) else if -(n:Int)<=i then some (i+n).toNat else none
def cW {α:Type}(xs:List α)(i:Int):Option α:=(jo xs.length i).bind λj=>xs[j]?
theorem G5 {i:Int}{j:Nat}(h:jo n i=some j):seqIndex? i n=some j/\j<n/\-(n:Int)<=i/\i<n:=by
 unfold jo at h;by_cases h0:0<=i
 ·rw[Qf h0]at h;by_cases h1:i<n
  ·rw[Qf h1]at h;have e:i.toNat=j:=Qa h;exact⟨by rw[seqIndex_of h0 h1,e],by lia,by lia,h1⟩
  ·rw[Qe h1]at h;cases h
 ·rw[Qe h0]at h;by_cases h1:-(n:Int)<=i
  ·rw[Qf h1]at h;have e:(i+n).toNat=j:=Qa h;exact⟨by rw[seqIndex_neg (by lia) h1,e],by lia,h1,by lia⟩
  ·rw[Qe h1]at h;cases h
theorem BL {xs:List α}{i:Int}{v:α}(h:cW xs i=some v):∃j,seqIndex? i xs.length=some j/\xs[j]? = some v/\j<xs.length/\-(xs.length:Int)<=i/\i<xs.length:=by
 unfold cW at h;cases e:jo xs.length i with
 | none=>rw[e]at h;cases h
 | some j=>
  rw[e]at h;obtain⟨h1,h2,h3,h4⟩:=G5 e;exact⟨j,h1,h,h2,h3,h4⟩
theorem eE {xs:List α}{j:Nat}{v:α}(h:xs[j]? = some v):cW xs (j:Int)=some v:=by
 have hj:j<xs.length:=(Xf.mp h).1;have e:jo xs.length (j:Int)=some j:=by
  unfold jo;rw[Qf (by lia),Qf (by lia)];simp
 unfold cW;rw[e];exact h
def yU (b:Expr):Prop:=∀o i,subscripted b false o i=operate [o,i] (getItem o i)
def qi (X:Cx)(r:R2):Prop:=
 ∀(value slice:Expr) (pins:Tg) (s:Wd) (σ:St) (H:Hp) (x y:V) (v u:Wb) (Q:VK),Inv X pins σ H s->RelV x v->RelV y u->r x y H Q->
  subscripted slice false v u=operate [v,u] (getItem v u)->Wj (Wm X.prog X.w) X.A (subscriptTail value slice v u) (EP X pins σ Q) X.xe s
def wY (X:Cx)(id:String)(r:V->List V->Hp->VK->Prop):Prop:=
 ∀(pins:Tg) (s:Wd) (σ:St) (H:Hp) (x:V) (xs:List V) (v:Wb) (us:Tq) (Q:VK),Inv X pins σ H s->RelV x v->Vals xs us->r x xs H Q->
  Wj (Wm X.prog X.w) X.A (call (.builtin id) (v::us)) (EP X pins σ Q) X.xe s
section
variable {X:Cx}{a b:Expr}{ta tb:TE}{pos:Pos}
theorem qi.or {r r':R2}(h:qi X r)(h':qi X r'):qi X (λx y H Q=>r x y H Q\/r' x y H Q):=by
 intro value slice pins s σ H x y v u Q I rx ry q hs;rcases q with q | q
 ·exact h value slice pins s σ H x y v u Q I rx ry q hs
 ·exact h' value slice pins s σ H x y v u Q I rx ry q hs
theorem G6 {r:R2}(hr:qi X r)(ha:PE X a ta)(hb:PE X b tb)(hs:yU b):PE X (.Subscript a b pos) (wR r ta tb):=by
 intro pins s σ H Q I h;exact Subscript_ (uw ha hb I h λv u s2 x y H2 I2 rx ry q=>hr a b pins s2 σ H2 x y v u Q I2 rx ry q (hs _ _))
def wZ (K:Xc):R2:=λx y H Q=>∃p xs i v,x=.ref p/\y=.int i/\aR K H p xs/\cW xs i=some v/\Q v H
def w6 (K:Xc):R2:=λx y H Q=>∃p xs i v,x=.ref p/\y=.int i/\bG K H p xs/\cW xs i=some v/\Q v H
def xg:R2:=λx y H Q=>∃z i c,x=.str z/\y=.int i/\z.length<=Wi/\cW z.cps.toList i=some c/\Q (.str ⟨#[c]⟩) H
theorem G7:qi X (wZ X.K):=by
 intro value slice pins s σ H x y v u Q I rx ry h hs;obtain⟨p,xs,i,z,rfl,rfl,hq,he,q⟩:=h;cases rx;obtain⟨t,rfl⟩:=ry;obtain⟨its,r,pl,hz⟩:=I.list hq;obtain⟨j,h1,h2,h3,h4,h5⟩:=BL he;obtain⟨w,ew,rw'⟩:=r.get h2;have hl:=r.length;have hn:=vJ;have fin:EP X pins σ Q w s:=⟨z,H,I,rw',q⟩;by_cases h0:0<=i
 ·have hj:i.toNat=j:=by
   rw[seqIndex_of h0 h5]at h1;exact Qa h1
  exact item_listR pl.isList h0 (by lia) (by rw[hj];simpa using ew) fin hs
 ·have hj:(i+(its.toArray.size:Int)).toNat=j:=by
   rw[seqIndex_neg (by lia) h4]at h1;rw[Xo,<- hl];exact Qa h1
  exact subscriptTail_builtinR (x:=w) pl.isList.typeIs slot_list_getitem.lookup
   (wpAny_getItem_list_neg (Q:=λr s'=>r=w/\EP X pins σ Q r s') pl.isList (by lia) (by rw[Xo]<;>lia) (by lia) (by rw[hj];simpa using ew) ⟨rfl,fin⟩) hs
theorem Vx:qi X (w6 X.K):=by
 intro value slice pins s σ H x y v u Q I rx ry h hs;obtain⟨p,xs,i,z,rfl,rfl,hq,he,q⟩:=h;cases rx;obtain⟨t,rfl⟩:=ry;obtain⟨its,r,pl,hz⟩:=I.tuple hq;obtain⟨j,h1,h2,h3,h4,h5⟩:=BL he;obtain⟨w,ew,rw'⟩:=r.get h2;have hl:=r.length;have hn:=vJ;have fin:EP X pins σ Q w s:=⟨z,H,I,rw',q⟩;exact subscriptTail_builtinR (x:=w) pl.typeIs slot_tuple_getitem.lookup
  (getItem_tuple (j:=j) (Q:=λr s'=>r=w/\EP X pins σ Q r s') pl (by lia) (by lia) (by rw[Xo,<- hl];exact h1) (by simpa using ew) ⟨rfl,fin⟩) hs
theorem Vy:qi X xg:=by
 intro value slice pins s σ H x y v u Q I rx ry h hs;obtain⟨z,i,c,rfl,rfl,hz,he,q⟩:=h;obtain⟨t,rfl⟩:=rx;obtain⟨t',rfl⟩:=ry;obtain⟨j,h1,h2,h3,h4,h5⟩:=BL he;have hl:z.cps.toList.length=z.length:=by simp[Str.length]
 rw[hl]at h1 h4 h5;have hn:=vJ;exact tail_any (typeIs_str s z t) slot_str_getitem.lookup (getItem_str (c:=c) (by
  have e1:decide (i < -(2 ^ 63:Int))=false:=Qc (by lia);have e2:decide (i>=2 ^ 63)=false:=Qc (by lia);rw[e1,e2,Bool.or_false]) (by rw[h1];simpa using h2) ⟨.str ⟨#[c]⟩,H,I.tok _,⟨_,rfl⟩,q⟩) hs
def G8 (K:Xc):R2:=λx y H Q=>wZ K x y H Q\/w6 K x y H Q\/xg x y H Q
theorem Vz:qi X (G8 X.K):=G7.or (Vx.or Vy)
theorem VB (its:Tq)(n j:Nat)(u:Wb):QF (·.setIfInBounds j u) { cls:=.type "list",data:=.seq its.toArray n }={ cls:=.type "list",data:=.seq (its.set j u).toArray n }:=by
 simp[QF]
theorem Inv.lst {p:We}{xs:List V}(I:Inv X pins σ H s)(h:H p=some (.lst xs)) :
  ∃(its:Tq) (n:Nat),Vals xs its/\s.heap.get? p=some { cls:=.type "list",data:=.seq its.toArray n }/\xs.length<=Wi:=by
 obtain⟨z,its,n,r,e⟩:=I.hok p _ h;exact⟨its,n,r,e,z⟩
theorem Inv.VD {pins:Tg}{σ:St}{H:Hp}{s:Wd}{p:We}{xs ys:List V}{its its':Tq}{n n':Nat}{f:Obj->Obj}(I:Inv X pins σ H s)(h:H p=some (.lst xs))
  (ho:s.heap.get? p=some { cls:=.type "list",data:=.seq its.toArray n }) (hf:f { cls:=.type "list",data:=.seq its.toArray n }={ cls:=.type "list",data:=.seq its'.toArray n' }) (r:Vals ys its') (hz:ys.length<=Wi) (t:Nat) :
  Inv X pins σ (upd H p (.lst ys)) { s with heap:=s.heap.update p f,toks:=t }:=by
 have e:(s.heap.update p f).get? p=some { cls:=.type "list",data:=.seq its'.toArray n' }:=by
  rw[Yh f ho (by rw[hf]<;>rfl),hf]
 refine I.write (x:=p) (e:=p) (by rw[h];trivial) (.inl rfl) (λb u hb q=>(Yf _ _ (Qz hb)).trans q) ⟨_,e⟩ ?_;exact⟨hz,its',n',r,e⟩
def VF:V->V->V->Hp->(Hp->Prop)->Prop:=λo i v H Q=>∃p xs k j,o=.ref p/\i=.int k/\H p=some (.lst xs)/\jo xs.length k=some j/\Q (upd H p (.lst (xs.set j v)))
theorem set_list:wM X VF:=by
 intro pins s σ H o i v ov iv u Q I ro ri rv h;obtain⟨p,xs,k,j,rfl,rfl,hp,hj,q⟩:=h;cases ro;obtain⟨t,rfl⟩:=ri;obtain⟨its,n,r,ho,hz⟩:=I.lst hp;obtain⟨h1,h2,h3,h4⟩:=G5 hj;have hl:=r.length;have hn:=vJ;have I':Inv X pins σ (upd H p (.lst (xs.set j v))) { s with heap:=s.heap.update p (QF (·.setIfInBounds j u)) }:=
  I.VD hp ho (VB its n j u) (r.set rv j) (by rw[Yb];exact hz) s.toks
 by_cases h0:0<=k
 ·have hk:k.toNat=j:=by
   rw[seqIndex_of h0 h4]at h1;exact Qa h1
  exact PySem.W.ki_setAt ho h0 (by lia) (by rw[Xo,<- hl];exact h4) (by rw[hk];exact⟨_,I',q⟩)
 ·have hk:(k+(its.toArray.size:Int)).toNat=j:=by
   rw[seqIndex_neg (by lia) h3]at h1;rw[Xo,<- hl];exact Qa h1
  exact PySem.W.ki_setBack ho (by lia) (by rw[Xo,<- hl];exact h3) (by lia) (by rw[hk];exact⟨_,I',q⟩)
theorem VG (lo hi:Option Int)(n:Nat):(Vl lo hi none n).1=((HT.gM n 0 lo:Nat):Int)/\(Vl lo hi none n).2.1=((HT.gM n n hi:Nat):Int)/\(Vl lo hi none n).2.2=1:=by
 refine⟨?_,?_,rfl⟩
 ·cases lo with
  | none=>simp[Vl,HT.gM]
  | some i=>
   simp only[Vl,HT.gM,Option.getD_none,show(1:Int) > 0 by decide,if_true];by_cases h:i<0
   ·simp only[h,if_true]<;>lia
   ·simp only[h,if_false]<;>lia
 ·cases hi with
  | none=>simp[Vl,HT.gM]
  | some i=>
   simp only[Vl,HT.gM,Option.getD_none,show(1:Int) > 0 by decide,if_true];by_cases h:i<0
   ·simp only[h,if_true]<;>lia
   ·simp only[h,if_false]<;>lia
theorem VH (its:Tq)(lo hi:Option Int):slicePick its.toArray lo hi none=((its.drop (HT.gM its.length 0 lo)).take (HT.gM its.length its.length hi-HT.gM its.length 0 lo)).toArray:=by
 obtain⟨h1,h2,h3⟩:=VG lo hi its.toArray.size;unfold slicePick;rw[h1,h2,h3];simp only[sliceRange_one,pick_run,Xo]<;>rfl
def BP (K:Xc):V->Option Int->Option Int->Hp->VK->Prop:=λx lo hi H Q=>∃a xs,x=.ref a/\aR K H a xs/\∀p,H p=none->Q (.ref p) (upd H p (.lst (mK xs lo hi)))
theorem VJ:G4 X (BP X.K):=by
 intro pins s σ H x v vl vu lo hi sl Q I rx hs pl pu h;obtain⟨a,xs,rfl,hx,q⟩:=h;cases rx;obtain⟨its,r,ht,hz⟩:=I.list hx;have hlen:=r.length;refine⟨"list",_,slot_list_getitem.lookup,ht.isList.typeIs,?_⟩;refine wpAny_getItem_list_slice ht.isList hs pl pu .none (by simp) ?_ (by rw[Xo]<;>lia);rw[VH,<- hlen];refine⟨.ref s.heap.objs.size,_,I.laid (t':=s.toks) (o:=.lst (mK xs lo hi)) (λb ob q=>Xn _ q) (Xj _) ?_,rfl,q _ (I.hok.fresh (Xj _))⟩;exact⟨XZ (Vu xs lo hi) hz,_,0,(r.drop (HT.gM xs.length 0 lo)).take (HT.gM xs.length xs.length hi-HT.gM xs.length 0 lo),XA _ rfl⟩
def lW:V->Bool
 | .non=>true
 | .bl _=>true
 | .int _=>true
 | .str _=>true
 | _=>false
def g8:V->V->Bool
 | .non,.non=>true
 | .bl a,.bl b=>a == b
 | .bl a,.int b=>(if a then 1 else 0) == b
 | .int a,.bl b=>a == (if b then 1 else 0)
 | .int a,.int b=>a == b
 | .str a,.str b=>a == b
 | _,_=>false
theorem VL {A:Wv}(ry:RelV y u)(rx:RelV x v)(fy:lW y=true)(fx:lW x=true):PN A s u v (g8 y x):=by
 cases y with
 | non=>
  cases ry;cases x with
  | non=>cases rx;exact SeqAt.EqAt.same _
  | bl b=>cases rx;exact SeqAt.EqAt.none_bool b
  | int b=>obtain⟨t,rfl⟩:=rx;exact SeqAt.EqAt.none_int b t
  | str b=>obtain⟨t,rfl⟩:=rx;exact SeqAt.EqAt.none_str b t
  | _=>exact Qg (show false=true from fx) Xw
 | bl a=>
  cases ry;cases x with
  | non=>cases rx;exact SeqAt.EqAt.bool_none a
  | bl b=>cases rx;exact SeqAt.EqAt.bool_bool a b
  | int b=>obtain⟨t,rfl⟩:=rx;exact SeqAt.EqAt.bool_int a b t
  | str b=>obtain⟨t,rfl⟩:=rx;exact SeqAt.EqAt.bool_str a b t
  | _=>exact Qg (show false=true from fx) Xw
 | int a=>
  obtain⟨t',rfl⟩:=ry;cases x with
  | non=>cases rx;exact SeqAt.EqAt.int_none a t'
  | bl b=>cases rx;exact SeqAt.EqAt.int_bool a t' b
  | int b=>obtain⟨t,rfl⟩:=rx;exact SeqAt.EqAt.int_int a t' b t
  | str b=>obtain⟨t,rfl⟩:=rx;exact SeqAt.EqAt.int_str a t' b t
  | _=>exact Qg (show false=true from fx) Xw
 | str a=>
  obtain⟨t',rfl⟩:=ry;cases x with
  | non=>cases rx;exact SeqAt.EqAt.str_none a t'
  | bl b=>cases rx;exact SeqAt.EqAt.str_bool a t' b
  | int b=>obtain⟨t,rfl⟩:=rx;exact SeqAt.EqAt.str_int a t' b t
  | str b=>obtain⟨t,rfl⟩:=rx;exact SeqAt.EqAt.str_str a t' b t
  | _=>exact Qg (show false=true from fx) Xw
 | _=>exact Qg (show false=true from fy) Xw
def uy (x:V)(u:Wb):Bool:=match u with
 | .none=>g8 .non x
 | .bool b=>g8 (.bl b) x
 | .int i _=>g8 (.int i) x
 | .str z _=>g8 (.str z) x
 | _=>false
theorem G9 (r:RelV y u)(f:lW y=true):uy x u=g8 y x:=by
 cases y with
 | non=>cases r;rfl
 | bl b=>cases r;rfl
 | int i=>obtain⟨t,rfl⟩:=r;rfl
 | str z=>obtain⟨t,rfl⟩:=r;rfl
 | _=>exact Qg (show false=true from f) Xw
theorem BR {A:Wv}(rx:RelV x v)(fx:lW x=true):∀ {xs:List V}{us:Tq},Vals xs us->xs.all lW=true->∀u∈us,PN A s u v (uy x u)
 | _,_,.nil,_=>λu hu=>by cases hu
 | y::xs,u::us,.cons r t,f=>λu' hu=>by
  rw[Pk,YE]at f;rcases Xx.mp hu with rfl | hu
  ·rw[G9 r f.1];exact VL r rx f.1 fx
  ·exact BR rx fx t f.2 u' hu
theorem VN:j5 X (.type "list") (λxs H Q=>∃p ys,xs=[.ref p]/\(aR X.K H p ys\/bG X.K H p ys)/\∀l,H l=none->Q (.ref l) (upd H l (.lst ys))):=by
 intro pins s σ H xs us Q I r h;obtain⟨p,ys,rfl,hq,q⟩:=h;obtain⟨u,rfl,rx⟩:=vals1 r;cases rx;have fin:∀(its:Tq),Vals ys its->ys.length<=Wi->∀(h':Heap) (c':Nat),(∀b o',s.heap.get? b=some o'->h'.get? b=some o')->
   h'.get? s.heap.objs.size=some { cls:=.type "list",dict:=none,data:=.seq its.toArray c',slots:=#[] }->EP X pins σ Q (.ref s.heap.objs.size) { s with heap:=h' }:=λits r' hz h' c' kp e=>
  ⟨.ref s.heap.objs.size,_,I.laid (t':=s.toks) kp (Xj _) (show dg X.prog X.w _ h' _ (.lst ys) from⟨hz,its,c',r',e⟩),rfl,q _ (I.hok.fresh (Xj _))⟩
 rcases hq with hq | hq
 ·obtain⟨its,r',pl,hz⟩:=I.list hq;have hlen:=r'.length;obtain⟨o,ho,hc,n,hd⟩:=pl.isList;exact call_list_seq p (.inl rfl) ho hc hd (λh' c' kp e=>fin its r' hz h' c' kp e) (by simp only[Xo]<;>lia)
 ·obtain⟨its,r',pl,hz⟩:=I.tuple hq;have hlen:=r'.length;obtain⟨o,ho,hc,n,hd⟩:=pl;exact call_list_seq p (.inr rfl) ho hc hd (λh' c' kp e=>fin its r' hz h' c' kp e) (by simp only[Xo]<;>lia)
theorem VP:j5 X (.type "tuple") (λxs H Q=>∃p ys,xs=[.ref p]/\((aR X.K H p ys/\∀l,H l=none->Q (.ref l) (upd H l (.tup ys)))\/(bG X.K H p ys/\Q (.ref p) H))):=by
 intro pins s σ H xs us Q I r h;obtain⟨p,ys,rfl,h⟩:=h;obtain⟨u,rfl,rx⟩:=vals1 r;cases rx;rcases h with ⟨hq,q⟩ | ⟨hq,q⟩
 ·obtain⟨its,r',pl,hz⟩:=I.list hq;have hlen:=r'.length;refine call_tuple_list pl.isList (λh' kp=>?_) (by simp only[Xo]<;>lia);have I1:Inv X pins σ H { s with heap:=h' }:=I.kept (t':=s.toks) kp;have I2:Inv X pins σ (upd H h'.objs.size (.tup ys)) { s with heap:=h'.push { cls:=.type "tuple",data:=.seq its.toArray } }:=
   I1.laid (t':=s.toks) (λb o e=>Xn _ e) (Xj _) (show dg X.prog X.w _ _ _ (.tup ys) from⟨hz,its,r',nH.new _ _⟩)
  exact⟨.ref h'.objs.size,_,I2,rfl,q _ (I1.hok.fresh (Xj _))⟩
 ·obtain⟨its,r',pl,hz⟩:=I.tuple hq;exact call_tuple_same pl ⟨.ref p,H,I,rfl,q⟩
def BV (K:Xc)(T:String)(x:V)(H:Hp):Prop:=match x with
 | .str _=>T = "str"
 | .int _=>T = "int"
 | .ref p=>(T = "list"/\∃xs,aR K H p xs)\/(T = "tuple"/\∃o,K.lookup p=some o/\o.cls=.type "tuple"/\o.dict=none)\/
   (T = "dict"/\((∃kvs,H p=some (.dK kvs))\/∃kvs,H p=some (.dT kvs)))\/(T = "set"/\∃S n,H p=some (.set S n))
 | _=>False
theorem Hf {T:String}(I:Inv X pins σ H s)(r:RelV x v)(ty:BV X.K T x H) :
  s.TypeIs v T/\∀a,v=.ref a->∃ob,s.heap.get? a=some ob/\ob.dict=none:=by
 cases x with
 | str z=>
  obtain⟨t,rfl⟩:=r;cases (show T = "str" from ty);exact⟨typeIs_str s z t,λ_ e=>nomatch e⟩
 | int i=>
  obtain⟨t,rfl⟩:=r;cases (show T = "int" from ty);exact⟨typeIs_int s i t,λ_ e=>nomatch e⟩
 | ref p=>
  cases r;rcases ty with ⟨rfl,xs,hq⟩ | ⟨rfl,o,hk,hc,hd⟩ | ⟨rfl,hk⟩ | ⟨rfl,S,n,hk⟩
  ·obtain⟨its,_,pl,_⟩:=I.list hq;refine⟨pl.isList.typeIs,λa e=>?_⟩;cases e;obtain⟨o,n,e,c,hd,_⟩:=pl;exact⟨o,e,hd⟩
  ·refine⟨⟨o,I.qd p o hk,hc⟩,λa e=>?_⟩;cases e;exact⟨o,I.qd _ o hk,hd⟩
  ·have z:∃o,s.heap.get? p=some o/\o.ExactDict:=by
    rcases hk with ⟨kvs,hk⟩ | ⟨kvs,hk⟩
    ·obtain⟨_,_,_,_,o,_,_,e,ex,_⟩:=I.hok p _ hk;exact⟨o,e,ex⟩
    ·obtain⟨_,_,_,_,o,_,_,e,ex,_⟩:=I.hok p _ hk;exact⟨o,e,ex⟩
   obtain⟨o,e,ex⟩:=z;refine⟨⟨o,e,ex.1⟩,λa e2=>?_⟩;cases e2;exact⟨o,e,ex.2.1⟩
  ·obtain⟨o,_,_,_,e,ex,_⟩:=I.hok p _ hk;refine⟨⟨o,e,ex.1⟩,λa e2=>?_⟩;cases e2;exact⟨o,e,ex.2.1⟩
 | _=>exact QZ ty
def BW (K:Xc)(T:String)(r:V->List V->Hp->VK->Prop)(to:TE):TE:=λσ H Q=>to σ H λx H1=>BV K T x H1/\r x [] H1 Q
def VR (K:Xc)(T:String)(r:V->List V->Hp->VK->Prop)(to:TE)(t:TA):TE:=λσ H Q=>to σ H λx H1=>BV K T x H1/\t σ H1 λxs H2=>r x xs H2 Q
variable {o e:Expr}{es:List Expr}{to:TE}{t:TA}{name:Str}{apos cpos:Pos}{T id:String}{r:V->List V->Hp->VK->Prop}
theorem Hg (pa:PlainAttrs T)(slot:Slot T name id)(hty:typeOf (.builtin id)=pure (.type "method_descriptor")) (hm:wY X id r) (ho:PE X o to)
  (hbase:WF o name X.env (Wx o X.env)=Wx o X.env:=by rfl) (hline:(apos.endLine == cpos.line)=true:=by rfl):PE X (.Call (.Attribute o name apos) [] [] cpos) (BW X.K T r to):=by
 intro pins s σ H Q I h;refine wpAny_Call_method0_late hbase hline (aM (ho pins s σ H _ I h) λv s1 ⟨x,H1,I1,r1,ty,q1⟩=>?_);obtain⟨h1,h2⟩:=Hf I1 r1 ty;exact⟨T,id,pa,slot,hty,h1,h2,QL rfl (PySem.evalArgs_none (hm pins s1 σ H1 x [] v [] Q I1 r1 .nil q1))⟩
theorem sS (pa:PlainAttrs T)(slot:Slot T name id)(hty:typeOf (.builtin id)=pure (.type "method_descriptor")) (hm:wY X id r) (ho:PE X o to) (ha:PA X (e::es) t)
  (hbase:WF o name X.env (Wx o X.env)=Wx o X.env:=by rfl)
  (hfew:((Wu cpos (Wf (e::es) X.env)).all (λx=>!x.1)&&(W9 cpos (WP [] X.env)).all (λx=>x.1.isSome)
   && decide ((e::es).length+([]:List WL).length+(if ([]:List WL).isEmpty then 0 else 1)<30))=true:=by rfl)
  (hline:(apos.endLine == cpos.line)=true:=by rfl) (hs:Wf (e::es) X.env=(false,Wx e X.env)::Wf es X.env:=by rfl) (hplain:(Wu cpos (Wf es X.env)).any (·.1)=false:=by rfl) :
  PE X (.Call (.Attribute o name apos) (e::es) [] cpos) (VR X.K T r to t):=by
 intro pins s σ H Q I h;refine wpAny_Call_method_late hbase hfew hline rfl (aM (ho pins s σ H _ I h) λv s1 ⟨x,H1,I1,r1,ty,q1⟩=>?_);obtain⟨h1,h2⟩:=Hf I1 r1 ty;refine⟨T,id,pa,slot,hty,h1,h2,?_⟩;have hA:=ha cpos pins s1 σ H1 _ I1 q1;rw[hs]at hA ⊢;refine QL (by show(false||(Wu cpos (Wf es X.env)).any (·.1))=false;rw[hplain]<;>rfl) (Oh ?_)
 exact aM hA λus s2 ⟨vs,H2,I2,r2,q2⟩=>hm pins s2 σ H2 x vs v us Q I2 r1 r2 q2
end
def xj (X:Cx)(id:String)(r:V->List V->Hp->VK->Prop):Prop:=
 ∀(pins:Tg) (s:Wd) (σ:St) (H:Hp) (x:V) (xs:List V) (v:Wb) (us:Tq) (Q:VK),Inv X pins σ H s->RelV x v->Vals xs us->r x xs H Q->
  Wj (Wm X.prog X.w) X.A (call (.builtin id) (v::us)) (EP X pins σ Q) X.xe s
theorem Vals.one:∀ {x:V}{us:Tq},Vals [x] us->∃u,us=[u]/\RelV x u:=by
 intro x us h;cases h with
 | cons r t=>cases t;exact⟨_,rfl,r⟩
theorem Vals.zero:∀ {us:Tq},Vals [] us->us=[]
 | _,.nil=>rfl
theorem Vals.dropLast {xs:List V}(h:Vals xs us):Vals xs.dropLast us.dropLast:=by
 induction h with
 | nil=>exact .nil
 | cons r t ih=>
  cases t with
  | nil=>exact .nil
  | cons q t'=>exact .cons r ih
theorem Vals.eraseIdx:∀ {xs:List V}{us:Tq}(i:Nat),Vals xs us->Vals (xs.eraseIdx i) (us.eraseIdx i)
 | _,_,_,.nil=>.nil
 | _,_,0,.cons _ t=>t
 | _,_,i+1,.cons r t=>.cons r (Vals.eraseIdx i t)
theorem Vals.reverse {xs:List V}(h:Vals xs us):Vals xs.reverse us.reverse:=by
 induction h with
 | nil=>exact .nil
 | cons r t ih=>rw[O7,O7];exact Vals.append ih (.cons r .nil)
theorem V0 (l:List α):l.eraseIdx (l.length-1)=l.dropLast:=by
 induction l with
 | nil=>rfl
 | cons a r ih=>
  cases r with
  | nil=>rfl
  | cons b r=>
   have e:(a::b::r).length-1=((b::r).length-1)+1:=by
    have h1:(a::b::r).length=r.length+2:=rfl;have h2:(b::r).length=r.length+1:=rfl;lia
   rw[e,List.eraseIdx_cons_succ,ih]
   all_goals rfl
theorem Hh:∀(l:List α)(i:Nat),(l.eraseIdx i).length<=l.length
 | [],_=>Xj _
 | _::_,0=>QX _
 | _::r,i+1=>Nat.succ_le_succ (Hh r i)
section
variable {X:Cx}{pins:Tg}{σ:St}{H:Hp}{s:Wd}{l b:We}{xs ys zs:List V}
theorem Inv.oU {its its':Tq}{n:Nat}{f:Array Wb->Array Wb}{t':Nat}(I:Inv X pins σ H s)(hH:H l=some (.lst xs))
  (e:s.heap.get? l=some { cls:=.type "list",data:=.seq its.toArray n }) (hf:f its.toArray=its'.toArray) (hv:Vals ys its') (hz:ys.length<=Wi) :
  Inv X pins σ (upd H l (.lst ys)) { s with heap:=s.heap.update l (QF f),toks:=t' }:=by
 have q:=PySem.IsL.update e f;rw[hf]at q;refine I.write (x:=l) (e:=l) (by rw[hH];exact trivial) (.inl rfl) (λb' u hb hu=>(Yf s.heap (QF f) (Qz hb)).trans hu) ⟨_,q⟩ ?_;exact⟨hz,its',_,hv,q⟩
theorem Inv.xq {t':Nat}(I:Inv X pins σ H s)(hv:Vals ys its)(hz:ys.length<=Wi) :
  Inv X pins σ (upd H s.heap.objs.size (.lst ys)) { s with heap:=s.heap.push { cls:=.type "list",data:=.seq its.toArray },toks:=t' }:=
 I.laid (λ_ _ q=>Xn _ q) (Xj _) ⟨hz,its,0,hv,XA _ rfl⟩
theorem Inv.fresh (I:Inv X pins σ H s):H s.heap.objs.size=none:=I.hok.fresh (Xj _)
theorem Inv.mL (I:Inv X pins σ H s)(hH:H l=some (.lst xs)):xs.length<=Wi/\∃(its:Tq)(n:Nat),Vals xs its/\xs.length=its.length/\s.heap.get? l=some { cls:=.type "list",data:=.seq its.toArray n }:=by
 obtain⟨z,its,n,r,e⟩:=I.hok l _ hH;exact⟨z,its,n,r,r.length,e⟩
theorem Hi (h:n<=Wi):Oq n=false:=by
 unfold Oq;exact Qc (by lia)
end
section
variable {X:Cx}
def V1:V->List V->Hp->VK->Prop:=λx vs H Q=>∃l xs y,x=.ref l/\vs=[y]/\H l=some (.lst xs)/\xs.length<Wi/\Q .non (upd H l (.lst (xs++[y])))
theorem vK:xj X "list.append" V1:=by
 intro pins s σ H x vs v us Q I rx rv h;obtain⟨l,xs,y,rfl,rfl,hH,hz,q⟩:=h;cases rx;obtain⟨u,rfl,ru⟩:=rv.one;obtain⟨z,its,n,r,hl,e⟩:=I.mL hH;refine call_meets F.slot_list_append ⟨_,e,rfl⟩ F.entry_list_append (F.args_list_append_2 _ _) (PySem.list_append l its.toArray n u (by rw[Xo];lia)) ⟨e,?_⟩;refine⟨.non,_,I.oU (its':=its++[u]) hH e (by simp) (r.append (.cons ru .nil)) ?_,rfl,q⟩;rw[Xy,Nb];lia
def V3:V->List V->Hp->VK->Prop:=λx vs H Q=>∃l b xs zs,x=.ref l/\vs=[.ref b]/\H l=some (.lst xs)/\H b=some (.lst zs)/\xs.length+zs.length<=Wi/\Q .non (upd H l (.lst (xs++zs)))
theorem V4:xj X "list.extend" V3:=by
 intro pins s σ H x vs v us Q I rx rv h;obtain⟨l,b,xs,zs,rfl,rfl,hH,hB,hz,q⟩:=h;cases rx;obtain⟨u,rfl,ru⟩:=rv.one;cases ru;obtain⟨z,its,n,r,hl,e⟩:=I.mL hH;obtain⟨z2,its2,n2,r2,hl2,e2⟩:=I.mL hB;have hsz:its.toArray.size+its2.toArray.size<=Wi:=by rw[Xo,Xo];lia
 have oV:¬ (!its.toArray.isEmpty&&Oq (its.toArray.size+its2.toArray.size))=true:=by
  rw[Hi hsz,Bool.and_false];exact Xw
 refine call_meets F.slot_list_extend ⟨_,e,rfl⟩ F.entry_list_extend (F.args_list_extend_2 _ _)
  (AutoSeq1.list_extend_list_list_0 l its.toArray n b its2.toArray n2 oV (by rw[Xo];lia) (by lia)) ⟨e,e2,?_⟩
 refine⟨.non,_,I.oU (its':=its++its2) hH e (by simp) (r.append r2) ?_,rfl,q⟩;rw[Xy];lia
def BZ:V->List V->Hp->VK->Prop:=λx vs H Q=>∃l xs y,x=.ref l/\vs=[]/\H l=some (.lst xs)/\xs[xs.length-1]? = some y/\Q y (upd H l (.lst xs.dropLast))
theorem V5:xj X "list.pop" BZ:=by
 intro pins s σ H x vs v us Q I rx rv h;obtain⟨l,xs,y,rfl,rfl,hH,hy,q⟩:=h;cases rx;have hus:=rv.zero;subst hus;obtain⟨z,its,n,r,hl,e⟩:=I.mL hH;obtain⟨u,hu,ru⟩:=r.get hy;have hy':its.toArray[its.toArray.size-1]? = some u:=by
  show its.toArray[its.length-1]? = some u;rw[<- XT,<- hl];exact hu
 refine call_meets F.slot_list_pop ⟨_,e,rfl⟩ F.entry_list_pop (F.args_list_pop_1 _) (MeetsSeq.list_pop_last l its.toArray n u hy' (by rw[Xo];lia)) ⟨e,?_⟩;refine⟨y,_,I.oU (its':=its.dropLast) hH e ?_ r.dropLast ?_,ru,q⟩
 ·show its.toArray.eraseIdxIfInBounds (its.toArray.size-1)=its.dropLast.toArray;rw[Xo,List.eraseIdxIfInBounds_toArray,V0]
 ·rw[List.length_dropLast];lia
def V6:V->List V->Hp->VK->Prop:=λx vs H Q=>∃l xs i k y,x=.ref l/\vs=[.int i]/\H l=some (.lst xs)/\-(2 ^ 63)<=i/\i<2 ^ 63/\seqIndex? i xs.length=some k/\xs[k]? = some y/\Q y (upd H l (.lst (xs.eraseIdx k)))
theorem V7:xj X "list.pop" V6:=by
 intro pins s σ H x vs v us Q I rx rv h;obtain⟨l,xs,i,k,y,rfl,rfl,hH,h1,h2,hk,hy,q⟩:=h;cases rx;obtain⟨u,rfl,ru⟩:=rv.one;obtain⟨t,rfl⟩:=ru;obtain⟨z,its,n,r,hl,e⟩:=I.mL hH;obtain⟨w,hw,rw'⟩:=r.get hy;refine call_meets F.slot_list_pop ⟨_,e,rfl⟩ F.entry_list_pop (F.args_list_pop_2 _ _)
  (MeetsSeq.list_pop_at l its.toArray n i t k w (fitsIndex_both h1 h2) (by rw[Xo,<- hl];exact hk) (by rw[<- XT];exact hw) (by rw[Xo];lia)) ⟨e,?_⟩
 refine⟨y,_,I.oU (its':=its.eraseIdx k) hH e ?_ (r.eraseIdx k) ?_,rw',q⟩
 ·show its.toArray.eraseIdxIfInBounds k=(its.eraseIdx k).toArray;rw[List.eraseIdxIfInBounds_toArray]
 ·have:=Hh xs k;lia
end
section
variable {κ:Type} [DecidableEq κ]
def bf (kvs:List (κ×V))(k:κ):Option V:=(kvs.find? λkv=>decide (kv.1=k)).map (·.2)
def putK (kvs:List (κ×V))(k:κ)(v:V):List (κ×V):=
 if (kvs.any λkv=>decide (kv.1=k))=true then kvs.map (λkv=>if kv.1=k then(kv.1,v) else kv) else kvs++[(k,v)]
theorem Ca {p:κ×V}{r:List (κ×V)}{k:κ}(e:p.1=k):bf (p::r) k=some p.2:=by simp[bf,Yq,e]
theorem Cd {p:κ×V}{r:List (κ×V)}{k:κ}(e:¬ p.1=k):bf (p::r) k=bf r k:=by simp[bf,Yq,e]
theorem Hj (k:κ):∀kvs:List (κ×V),(kvs.any λkv=>decide (kv.1=k))=(bf kvs k).isSome
 | []=>rfl
 | p::r=>by
  rw[List.any_cons];by_cases e:p.1=k
  ·simp only[Ca e,Qd e,Bool.true_or,Option.isSome_some]
  ·rw[Cd e,Qc e,Bool.false_or];exact Hj k r
theorem Ce (kvs:List (κ×V))(k:κ)(v:V):(putK kvs k v).length<=kvs.length+1:=by
 unfold putK;split
 ·rw[Xb];lia
 ·rw[Xy,XX,OJ];lia
theorem jZ.Cg {o:Option V}{u:Tv}(r:jZ o u):o.isSome=u.isSome:=by
 cases o with
 | none=>cases u with
  | none=>rfl
  | some _=>exact(show False from r).elim
 | some _=>cases u with
  | none=>exact(show False from r).elim
  | some _=>rfl
theorem jZ.getD {o:Option V}{u:Tv}{d:V}{d':Wb}(r:jZ o u)(rd:RelV d d'):RelV (o.getD d) (u.getD d'):=by
 cases o with
 | none=>cases u with
  | none=>exact rd
  | some _=>exact(show False from r).elim
 | some _=>cases u with
  | none=>exact(show False from r).elim
  | some _=>exact r
theorem KV.val {kvs:List (κ×V)}{vs:List (κ×Wb)}(r:KV kvs vs)(k:κ):jZ (bf kvs k) (valueAt vs k):=by
 unfold KV at r;induction r with
 | nil=>exact Oi
 | @cons p q ps qs h t ih=>
  obtain⟨h1,h2⟩:=h;by_cases e:p.1=k
  ·have e':q.1=k:=h1.symm.trans e;have b:valueAt (q::qs) k=some q.2:=by simp[valueAt,Yq,e']
   rw[Ca e,b];exact h2
  ·have e':¬ q.1=k:=λz=>e (h1.trans z);have b:valueAt (q::qs) k=valueAt qs k:=by simp[valueAt,Yq,e']
   rw[Cd e,b];exact ih
theorem KV.any {kvs:List (κ×V)}{vs:List (κ×Wb)}(r:KV kvs vs)(k:κ):(kvs.any λkv=>decide (kv.1=k))=vs.any λkv=>decide (kv.1=k):=by
 unfold KV at r;induction r with
 | nil=>rfl
 | cons h t ih=>rw[List.any_cons,List.any_cons,ih,h.1]
theorem KV.repl {kvs:List (κ×V)}{vs:List (κ×Wb)}(r:KV kvs vs)(k:κ)(ry:RelV y u) :
  KV (kvs.map λkv=>if kv.1=k then(kv.1,y) else kv) (vs.map λkv=>if kv.1=k then(kv.1,u) else kv):=by
 unfold KV at r ⊢;induction r with
 | nil=>exact .nil
 | @cons p q ps qs h t ih=>
  rw[Xz,Xz];refine .cons ?_ ih;obtain⟨h1,h2⟩:=h;by_cases e:p.1=k
  ·rw[Qf e,Qf (h1.symm.trans e)];exact⟨h1,ry⟩
  ·rw[Qe e,Qe (λz=>e (h1.trans z))];exact⟨h1,h2⟩
theorem KV.put {kvs:List (κ×V)}{vs:List (κ×Wb)}(r:KV kvs vs)(k:κ)(ry:RelV y u):KV (putK kvs k y) (stored vs k u):=by
 unfold putK stored;rw[r.any k];by_cases e:(vs.any λkv=>decide (kv.1=k))=true
 ·rw[Qf e,Qf e];exact r.repl k ry
 ·rw[Qe e,Qe e];exact Paired.snoc r ⟨rfl,ry⟩
theorem KV.length {kvs:List (κ×V)}{vs:List (κ×Wb)}(r:KV kvs vs):kvs.length=vs.length:=Paired.length r
end
theorem yV {k:Key}(r:RelV (kV k) u):(eN P w).is k u=true:=by
 cases k with
 | inl i=>obtain⟨t,e⟩:=(show ∃t,u=Oo i t from r);subst e;exact Gj P w i t
 | inr x=>obtain⟨t,e⟩:=(show ∃t,u=Value.str x t from r);subst e;exact Sh P w x t
theorem Hl:∀ {ks:List Key}{us:Tq},Vals (ks.map kV) us->ItemsAre (eN P w) ks us
 | [],_,r=>by rw[YL]at r;cases r;exact .nil
 | k::ks,_,r=>by
  rw[Xz]at r;cases r with
  | cons h t=>exact .cons (yV h) (Hl t)
abbrev KT (H:Hp):List (List Key×V)->List (List Key×We×Wb)->Prop:=Paired λp q=>p.1=q.1/\H q.2.1=some (.tup (p.1.map kV))/\RelV p.2 q.2.2
theorem KT.val (r:KT H kvs xs)(k:List Key):jZ (bf kvs k) ((atKey xs k).map (·.2)):=by
 induction r with
 | nil=>exact Oi
 | @cons p q ps qs h t ih=>
  obtain⟨h1,_,h2⟩:=h;by_cases e:p.1=k
  ·have e':q.1=k:=h1.symm.trans e;have b:atKey (q::qs) k=some q.2:=by simp[atKey,Yq,e']
   rw[Ca e,b];exact h2
  ·have e':¬ q.1=k:=λz=>e (h1.trans z);have b:atKey (q::qs) k=atKey qs k:=by simp[atKey,Yq,e']
   rw[Cd e,b];exact ih
theorem KT.repl (r:KT H kvs xs)(k:List Key)(ry:RelV y u) :
  KT H (kvs.map λkv=>if kv.1=k then(kv.1,y) else kv) (xs.map (putAt k u)):=by
 induction r with
 | nil=>exact .nil
 | @cons p q ps qs h t ih=>
  rw[Xz,Xz];refine .cons ?_ ih;obtain⟨h1,h2,h3⟩:=h;unfold putAt;by_cases e:p.1=k
  ·rw[Qf e,Qf (h1.symm.trans e)];exact⟨h1,h2,ry⟩
  ·rw[Qe e,Qe (λz=>e (h1.trans z))];exact⟨h1,h2,h3⟩
theorem KT.put (r:KT H kvs xs)(k:List Key){b:We}(hb:H b=some (.tup (k.map kV)))(ry:RelV y u) :
  KT H (putK kvs k y) (storedH xs k b u):=by
 have e:(kvs.any λkv=>decide (kv.1=k))=(atKey xs k).isSome:=by
  rw[Hj,(r.val k).Cg,Option.isSome_map]
 unfold putK storedH;rw[e];by_cases q:(atKey xs k).isSome=true
 ·rw[Qf q,Qf q];exact r.repl k ry
 ·rw[Qe q,Qe q];exact Paired.snoc r ⟨rfl,hb,ry⟩
theorem KT.keeps (r:KT H kvs xs)(ht:∀b ys,H b=some (.tup ys)->H' b=some (.tup ys)):KT H' kvs xs:=
 Paired.wG r λ_ _ z=>⟨z.1,ht _ _ z.2.1,z.2.2⟩
section
variable {P:Wo}{w:Ws}{H:Hp}{h:Heap}{a:We}
theorem Ci {u:HO}(ok:cV P w H h)(e:Rd H a u):dg P w H h a u:=e.ok ok
theorem qj {kvs:List (Key×V)}(ok:cV P w H h)(e:Rd H a (.dK kvs)):kvs.length<=Wi/\(a == WH)=false/\∃vs,KV kvs vs/\h.DictOf (eN P w) a vs:=
 show dg P w H h a (.dK kvs) from Ci ok e
theorem V8 {kvs:List (Key×V)}(ok:cV P w H h)(e:H a=some (.dK kvs)):kvs.length<=Wi/\(a == WH)=false/\∃vs,KV kvs vs/\h.DictOf (eN P w) a vs:=qj ok (.inl e)
theorem vL {ks:List Key}(ok:cV P w H h)(e:H a=some (.tup (ks.map kV))):(tupleKind (eN P w)).is h ks a:=by
 obtain⟨_,its,r,o,h1,h2,⟨n,h3⟩,_⟩:=(show dg P w H h a (.tup (ks.map kV)) from ok a _ e);exact⟨o,its.toArray,n,h1,h2,h3,by simpa using Hl r⟩
theorem xr (ok:cV P w H h)(e:Rd H a (.dT kvs)):kvs.length<=Wi/\(a == WH)=false/\
  ∃xs,KT H kvs xs/\h.DictOfH (tupleKind (eN P w)) a xs:=by
 obtain⟨z,y,xs,r,o,es,ep,h1,h2,h3,h4,h5⟩:=(show dg P w H h a (.dT kvs) from Ci ok e);refine⟨z,y,xs,r,o,es,ep,h1,h2,h3,h4,λx hx=>?_,h5⟩;have all:∀ {l:List (List Key×V)} {m:List (List Key×We×Wb)},KT H l m->∀x∈m,(tupleKind (eN P w)).is h x.1 x.2.1:=by
  intro l m q;induction q with
  | nil=>intro x hx;exact nomatch hx
  | @cons p q ps qs hq t ih=>
   intro x hx;rcases Xx.mp hx with e | hx
   ·subst e;exact vL ok (by rw[<- hq.1];exact hq.2.1)
   ·exact ih x hx
 exact all r x hx
theorem Ho (ok:cV P w H h)(e:H a=some (.dT kvs)):kvs.length<=Wi/\(a == WH)=false/\
  ∃xs,KT H kvs xs/\h.DictOfH (tupleKind (eN P w)) a xs:=xr ok (.inl e)
end
def oW (H:Hp)(a:We)(y:V)(r:Option V):Prop:=
 (∃kvs k,Rd H a (.dK kvs)/\y=kV k/\r=bf kvs k)\/∃kvs k b,Rd H a (.dT kvs)/\y=.ref b/\H b=some (.tup (k.map kV))/\r=bf kvs k
def jA (H:Hp)(a:We)(y v:V)(H':Hp):Prop:=
 (∃kvs k,H a=some (.dK kvs)/\y=kV k/\kvs.length<Wi/\H'=upd H a (.dK (putK kvs k v)))\/
 ∃kvs k b,H a=some (.dT kvs)/\y=.ref b/\H b=some (.tup (k.map kV))/\kvs.length<Wi/\H'=upd H a (.dT (putK kvs k v))
theorem jA.k {kvs:List (Key×V)}{k:Key}{v:V}(e:H a=some (.dK kvs))(hl:kvs.length<Wi):jA H a (kV k) v (upd H a (.dK (putK kvs k v))):=.inl ⟨kvs,k,e,rfl,hl,rfl⟩
theorem jA.t {b:We}{k:List Key}{v:V}(e:H a=some (.dT kvs))(eb:H b=some (.tup (k.map kV)))(hl:kvs.length<Wi) :
  jA H a (.ref b) v (upd H a (.dT (putK kvs k v))):=.inr ⟨kvs,k,b,e,rfl,eb,hl,rfl⟩
section
variable {X:Cx}{pins:Tg}{σ:St}{H:Hp}{s:Wd}{a:We}{y v:V}{u r:Wb}{o:Option V}{A:Wv}{E:Ti}
theorem Inv.big (I:Inv X pins σ H s):WH<s.heap.objs.size:=by
 have h:Wg<s.heap.objs.size:=(I.mod.glob.keeps I.bk).lt;exact Nat.lt_trans (by decide) h
theorem Cj (hu:A.units+1<WG)(I:Inv X pins σ H s)(g:oW H a y o)(ry:RelV y u)(h:∀s',Inv X pins σ H s'->Q (.bool o.isSome) s') :
  Wj (Wm X.prog X.w) A (WU .In u (.ref a)) Q E s:=by
 rcases g with ⟨kvs,k,e,ey,l⟩ | ⟨kvs,k,b,e,ey,eb,l⟩
 ·subst ey;obtain⟨z,hd,vs,rel,dd⟩:=qj I.hok e;refine wpAny_in_of (yV ry) hd dd.mapOf ?_;rw[<- (rel.val k).Cg,<- l];exact h _ (I.tok _)
 ·subst ey;cases (show u=Qq b from ry);obtain⟨z,hd,xs,rel,dd⟩:=xr I.hok e;refine wpAny_in_heap (tupleKind_room_in1 hu) (vL I.hok eb) hd dd ?_;have q:=(rel.val k).Cg;rw[Option.isSome_map]at q;rw[<- q,<- l];exact h _ (I.tok _)
theorem yW {h':Heap}{t':Nat}{ob:HO}(I:Inv X pins σ H s)(mu:wH (H a))(hs:Ys a s.heap h')(he:∃q,h'.get? a=some q)(new:dg X.prog X.w (upd H a ob) h' a ob) :
  Inv X pins σ (upd H a ob) { s with heap:=h',toks:=t' }:=
 I.write (x:=a) (e:=a) mu (.inl rfl) (λb q hb z=>(hs.2 b hb).trans z) he new
theorem V9 {h':Heap}{kvs:List (Key×V)}{vs:List (Key×Wb)}(z:kvs.length<=Wi)(hd:(a == WH)=false)(rel:KV kvs vs)(dd:h'.DictOf (eN P w) a vs) :
  dg P w H' h' a (.dK kvs):=⟨z,hd,vs,rel,dd⟩
theorem YS {Q:Unit->Wd->Prop}(hu:A.units+1<WG)(I:Inv X pins σ H s)(g:jA H a y v H')(ry:RelV y u)(rv:RelV v r)(h:∀s',Inv X pins σ H' s'->Q () s') :
  Wj (Wm X.prog X.w) A (setItem (.ref a) u r) Q E s:=by
 rcases g with ⟨kvs,k,e,ey,l,eH⟩ | ⟨kvs,k,b,e,ey,eb,l,eH⟩
 ·subst ey eH;obtain⟨z,hd,vs,rel,dd⟩:=V8 I.hok e;have hz:vs.length<=Wi:=by rw[<- rel.length];exact z
  have hl:(putK kvs k v).length<=Wi:=by have:=Ce kvs k v;lia
  refine wpAny_setItem_pairs (hsz:=hz) (yV ry) dd λh' sU hs=>h _ ?_;have he:∃q,h'.get? a=some q:=let ⟨q,_,_,hq,_⟩:=sU;⟨q,hq⟩;exact yW I (by rw[e];exact Oi) hs he (V9 hl hd (rel.put k rv) sU)
 ·subst ey eH;cases (show u=Qq b from ry);obtain⟨z,hd,xs,rel,dd⟩:=Ho I.hok e;have hz:xs.length<=Wi:=by rw[<- Paired.length rel];exact z
  have hl:(putK kvs k v).length<=Wi:=by have:=Ce kvs k v;lia
  refine wpAny_setItem_heap (hsz:=hz) (tupleKind_room_in1 hu) (vL I.hok eb) dd λh' sU hs=>h _ ?_;obtain⟨q,es,ep,hq,h2,h3,h4,_,h5⟩:=sU;refine yW I (by rw[e];exact Oi) hs ⟨q,hq⟩ ⟨hl,hd,_,(rel.put k eb rv).keeps λc ys ec=>?_,q,es,ep,hq,h2,h3,h4,h5⟩;rw[aO (yI ec e (λz=>nomatch z))];exact ec
end
section
variable {X:Cx}{pins:Tg}{σ:St}{H:Hp}{s:Wd}{a:We}{kvs:List (Key×V)}{k:Key}{u:Wb}{A:Wv}{E:Ti}
theorem YT (I:Inv X pins σ H s)(e:Rd H a (.dK kvs))(h:∀t s',Inv X pins σ H s'->Q (.int kvs.length t) s'):Wj (Wm X.prog X.w) A (call (.builtin "len") [.ref a]) Q E s:=by
 obtain⟨z,hd,vs,rel,dd⟩:=qj I.hok e;refine call_len_dict hd dd (by rw[<- rel.length];rw[Wr]at z;lia) ?_;rw[<- rel.length];exact h _ _ (I.tok _)
end
def xu (ty td:TE):TE:=λσ H Q=>ty σ H λy H1=>td σ H1 λx H2=>∃a o,x=.ref a/\oW H2 a y o/\Q (.bl o.isSome) H2
def Hq (td ty tv:TE):TS:=λD σ H=>tv σ H λv H1=>td σ H1 λx H2=>ty σ H2 λy H3=>∃a H4,x=.ref a/\jA H3 a y v H4/\D.nx σ H4
section
variable {X:Cx}{o i e value:Expr}{pos pos' tpos:Pos}{td ty tv:TE}
theorem Hr (hu:X.A.units+1<WG)(hi:PE X i ty)(ho:PE X o td):PC X .In i o (xu ty td):=by
 intro pins s σ H Q I h;refine aM (hi pins s σ H _ I h) λiv s1 ⟨y,H1,I1,ry,q1⟩=>aM (ho pins s1 σ H1 _ I1 q1) λu s2 ⟨x,H2,I2,rx,a,ov,ex,g,q2⟩=>?_;subst ex;obtain rfl:u=Qq a:=rx;exact Cj hu I2 g ry λs3 I3=>⟨.bl ov.isSome,H2,I3,rfl,q2⟩
theorem Ck (hu:X.A.units+1<WG)(ho:PE X o td)(hi:PE X i ty)(hv:PE X value tv)(hs:WE value (some (.Subscript o i pos')) pos.line X.env=pure false) :
  PS X (.Assign [.Subscript o i pos'] value pos) (Hq td ty tv):=by
 intro pins s σ H D I h;refine wpAny_Assign_Subscript (aM (hv pins s σ H _ I h) λr s1 ⟨v,H1,I1,rv,q1⟩=>aM (ho pins s1 σ H1 _ I1 q1) λu s2 ⟨x,H2,I2,rx,q2⟩=>aM (hi pins s2 σ H2 _ I2 q2) λiv s3 ⟨y,H3,I3,ry,a,H4,ex,g,q3⟩=>?_) hs;subst ex;obtain rfl:u=Qq a:=rx;exact YS hu I3 g ry rv λs4 I4=>⟨σ,H4,I4,q3⟩
end
theorem YW (h:Heap)(hb:WH<h.objs.size):dg P w H (h.push { cls:=.type "dict",data:=.dict #[] }) h.objs.size (.dK []):=
 ⟨Ye _,beq_eq_false_iff_ne.mpr (Qz (XM hb)),[],.nil,Heap.DictOf.new h⟩
theorem YX (h:Heap)(hb:WH<h.objs.size):dg P w H (h.push { cls:=.type "dict",data:=.dict #[] }) h.objs.size (.dT []):=
 ⟨Ye _,beq_eq_false_iff_ne.mpr (Qz (XM hb)),[],.nil,_,#[],0,XA _ rfl,⟨rfl,rfl,rfl⟩,rfl,rfl,YH⟩
def YZ:TE:=λ_ H Q=>∀p,H p=none->Q (.ref p) (upd H p (.dK []))
def Y0:TE:=λ_ H Q=>∀p,H p=none->Q (.ref p) (upd H p (.dT []))
section
variable {X:Cx}{pos:Pos}
theorem Hs:PE X (.Dict [] [] pos) YZ:=λpins s σ H Q I h=>
 wpAny_Dict_empty ⟨.ref s.heap.objs.size,_,I.laid (a:=s.heap.objs.size) (o:=.dK []) (t':=s.toks) (λ_ _ q=>Xn _ q) (Xj _) (YW s.heap I.big),rfl,h _ (I.hok.fresh (Xj _))⟩
theorem Ht:PE X (.Dict [] [] pos) Y0:=λpins s σ H Q I h=>
 wpAny_Dict_empty ⟨.ref s.heap.objs.size,_,I.laid (a:=s.heap.objs.size) (o:=.dT []) (t':=s.toks) (λ_ _ q=>Xn _ q) (Xj _) (YX s.heap I.big),rfl,h _ (I.hok.fresh (Xj _))⟩
end
structure M1 (X:Cx)(o:Expr)(m:Str)(apos:Pos)(e:Expr)(cpos:Pos):Prop where
 base:WF o m X.env (Wx o X.env)=Wx o X.env
 few:((Wu cpos (Wf [e] X.env)).all (λx=>!x.1)&&(W9 cpos (WP [] X.env)).all (λx=>x.1.isSome)
  && decide (([e]:List Expr).length+([]:List WL).length+(if ([]:List WL).isEmpty then 0 else 1)<30))=true
 line:(apos.endLine == cpos.line)=true
 trees:Wu cpos (Wf [e] X.env)=[(false,Wx e X.env)]
structure M2 (X:Cx)(o:Expr)(m:Str)(apos:Pos)(e f:Expr)(cpos:Pos):Prop where
 base:WF o m X.env (Wx o X.env)=Wx o X.env
 few:((Wu cpos (Wf [e,f] X.env)).all (λx=>!x.1)&&(W9 cpos (WP [] X.env)).all (λx=>x.1.isSome)
  && decide (([e,f]:List Expr).length+([]:List WL).length+(if ([]:List WL).isEmpty then 0 else 1)<30))=true
 line:(apos.endLine == cpos.line)=true
 trees:Wu cpos (Wf [e,f] X.env)=[(false,Wx e X.env),(false,Wx f X.env)]
def Cm (H:Hp)(a:We):Prop:=(∃kvs,Rd H a (.dK kvs))\/∃kvs,Rd H a (.dT kvs)
theorem Hu {X:Cx}(I:Inv X pins σ H s)(d:Cm H a) :
  s.TypeIs (.ref a) "dict"/\(∀b,Qq a=.ref b->∃ob,s.heap.get? b=some ob/\ob.dict=none)/\(a == WH)=false:=by
 rcases d with ⟨kvs,e⟩ | ⟨kvs,e⟩
 ·obtain⟨_,hd,vs,_,dd⟩:=qj I.hok e;refine⟨dd.typeIs,λb q=>?_,hd⟩;cases q;obtain⟨ob,_,_,h1,h2,_⟩:=dd;exact⟨ob,h1,h2.2.1⟩
 ·obtain⟨_,hd,xs,_,dd⟩:=xr I.hok e;refine⟨dd.typeIs,λb q=>?_,hd⟩;cases q;obtain⟨ob,_,_,h1,h2,_⟩:=dd;exact⟨ob,h1,h2.2.1⟩
section
variable {X:Cx}{pins:Tg}{σ:St}{H:Hp}{s:Wd}{a:We}{y d:V}{u r:Wb}{o:Option V}{A:Wv}{E:Ti}
theorem Y4 (hu:A.units+1<WG)(I:Inv X pins σ H s)(g:oW H a y o)(ry:RelV y u)(rd:RelV d r)(h:∀w' s',Inv X pins σ H s'->RelV (o.getD d) w'->Q w' s') :
  Wj (Wm X.prog X.w) A (call (.builtin "dict.get") [.ref a,u,r]) Q E s:=by
 rcases g with ⟨kvs,k,e,ey,l⟩ | ⟨kvs,k,b,e,ey,eb,l⟩
 ·subst ey;obtain⟨z,hd,vs,rel,dd⟩:=qj I.hok e;refine call_meetsIn PySem.F.slot_dict_get dd.typeIs PySem.F.entry_dict_get (PySem.F.args_dict_get_3 _ _ _) (meets_dict_get_default (eN X.prog X.w) a (yV ry) hd r) ⟨_,dd.mapOf,h _ _ (I.tok _) ?_⟩;rw[l];exact(rel.val k).getD rd
 ·subst ey;cases (show u=Qq b from ry);obtain⟨z,hd,xs,rel,dd⟩:=xr I.hok e;refine call_meetsIn PySem.F.slot_dict_get dd.typeIs PySem.F.entry_dict_get (PySem.F.args_dict_get_3 _ _ _) (meetsH_dict_get_default (tupleKind (eN X.prog X.w)) a b hd r) ⟨tupleKind_room_in1 hu,k,xs,vL I.hok eb,dd,h _ _ (I.tok _) ?_⟩;rw[l];exact(rel.val k).getD rd
end
def Y5 (td ty tx:TE):TE:=λσ H Q=>td σ H λx H1=>∃a,x=.ref a/\Cm H1 a/\ty σ H1 λy H2=>tx σ H2 λz H3=>∃o,oW H3 a y o/\Q (o.getD z) H3
section
variable {X:Cx}{o e f:Expr}{apos cpos:Pos}{td ty tx:TE}
theorem Y6 (hu:X.A.units+1<WG)(ho:PE X o td)(he:PE X e ty)(hf:PE X f tx)(m:M2 X o "get" apos e f cpos):PE X (.Call (.Attribute o "get" apos) [e,f] [] cpos) (Y5 td ty tx):=by
 intro pins s σ H Q I h;refine wpAny_Call_method m.base m.few m.line PySem.F.plainAttrs_dict PySem.F.slot_dict_get PySem.F.type_dict_get (aM (ho pins s σ H _ I h) λu s1 ⟨x,H1,I1,rx,a,ex,d,q1⟩=>?_);subst ex;obtain rfl:u=Qq a:=rx;obtain⟨t1,t2,_⟩:=Hu I1 d;refine⟨t1,t2,?_⟩;rw[m.trees];refine QL rfl (Oh (QB (aM (he pins s1 σ H1 _ I1 q1) λiv s2 ⟨y,H2,I2,ry,q2⟩=>
  QB (aM (hf pins s2 σ H2 _ I2 q2) λfv s3 ⟨z,H3,I3,rz,ov,g,q3⟩=>QH ?_))))
 exact Y4 hu I3 g ry rz λw' s4 I4 rw'=>⟨_,H3,I4,rw',q3⟩
end
end L2
namespace Att
open PySem PySem.W PySem.Calls PyProof.Rows
theorem Y7 {P:Params}{h:Heap}:∀(ns:Tp)(vs:Tq),WellAll P h vs (ns.map WData.int)->Vp vs ns:=by
 intro ns;induction ns with
 | nil=>
  intro vs w;rw[YL]at w;cases w;exact .nil
 | cons n ns ih=>
  intro vs w;rw[Xz]at w;cases w with
  | cons a b=>
   cases a;exact .cons _ _ (ih _ b)
theorem Y8 {l:OpenLaw}{n:Nat}(hn:l.most=some n){P:Params}{h:Heap}{args:List WData}{vals:Tq}
  (hpre:l.row.toRowW.claim.pre args=true) (hwl:WellAll P h vals args) :
  ∃a vs ns,vals=[Qq a]/\args=[WData.list (ns.map WData.int)]/\h.get? a=some { cls:=.type "list",data:=.seq vs.toArray }/\Vp vs ns/\ns.length<=n:=by
 have hsh:WShape.hasAll [] args [.list .int]=true:=(pre_splitW hpre).1;have hc:l.pre.holds [] { args:=args }=true:=(pre_splitW hpre).2;obtain⟨d,r,rfl,h1,h2⟩:=hasAllW_cons hsh;obtain rfl:=hasAllW_nil h2;obtain⟨xs,rfl,h3⟩:=hasW_list h1;obtain⟨ns,rfl⟩:=items_int h3;have hlen:ns.length<=n:=by
  unfold OpenLaw.pre at hc;have h4:(WTm.not (.lt (.lit (.int (n:Int))) (.len (.arg 0)))).holds [] { args:=[.list (ns.map .int)] }=true:=by
   have h4:=(holds_andW hc).1;rw[hn]at h4;exact h4
  have h5:=condW_of h4 (w_not (w_lt w_lit (w_len_list (w_arg rfl))));rw[Xb]at h5;refine Nat.le_of_not_lt λq=>?_;have q':(n:Int)<((ns.length:Nat):Int):=by lia
  first
   | (rw[Qd q']at h5;exact Qg h5 (by decide))
   | (simp at h5;lia)
 cases hwl with
 | cons w1 w2=>
  cases w2;cases w1 with
  | list ho hall=>exact⟨_,_,ns,rfl,rfl,ho,Y7 ns _ hall,hlen⟩
theorem Y9 (l:OpenLaw)(args:List WData):l.row.toRowW.claim.post args (.bool true) args=true:=
 postW_of (r:=l.row.toRowW) (X:=(true == true))
  (show WShape.has [] (.bool true) .bool=true by first | rfl | decide | simp[WShape.has,WShape.arms,WShape.armsAll])
  (show(WTm.eq .res (.lit (.bool true))).value [] { args:=args,res:=some (.bool true),after:=args }=some (.bool (true == true)) from w_eq_bool (w_res rfl) w_lit) rfl
theorem Za {l:OpenLaw}{n:Nat}{q:Wo}{loose:Tn}{XP:(Tj)->Heap->Prop}{YP:Ws->Heap->Prop}{d:DefRec}
  (hn:l.most=some n) (hdf:d.params.defaults=[])
  (call:∀(w:Ws) (s₀ s₁:Wd) (mg mb:Tj) (fa:We) (o:Obj) (pm cd doc:Wb) (a:We) (vs:Tq) (ns:Tp),
   Ground q loose [] XP w s₀ mg mb s₁.heap->YP w s₁.heap->
   s₁.heap.get? fa=some o->o.data=.func (docDef d.name d.params d.body d.scope pm cd doc)->s₁.heap.CodeRec cd d.name->mg d.name=some (.ref fa)->
   s₁.heap.get? a=some { cls:=.type "list",data:=.seq vs.toArray }->Vp vs ns->ns.length<=n->s₁.gens = #[]->
   Vd (Wm l.prog w) callerA (.call (.ref fa) ⟨[.ref a],[]⟩) (λr s'=>r=.ok (.ret (.bool true))/\OldK s₁.heap s'.heap/\s'.os=s₁.os/\AllBare s'.gens) s₁) :
  WalkO q loose XP YP l.row.toRowW d [] (λf vs=>PySem.call f vs):=by
 intro w s₀ s₁ mg mb G Y fa o pm cd doc dV kV ho hd hcd hD hmg hg args vals as hpre hlay hrd hwl hlo;obtain rfl:dV=.none:=Dflts.none hD hdf;obtain rfl:kV=.none:=Dflts.noKw hD;obtain⟨a,vs,ns,rfl,rfl,hobj,hints,hlen⟩:=Y8 hn hpre hwl;refine enter_call (Ve (call w s₀ s₁ mg mb fa o pm cd doc a vs ns G Y ho (fd_plain hd) hcd hmg hobj hints hlen hg) λr s' hq=>?_);obtain⟨rfl,h2,h3,h4⟩:=hq;exact⟨.inl ⟨.bool true,.bool true,[],rfl,λ_=>rfl,.bool true,Y9 l _,λ_=>⟨List.Pairwise.nil,λ_ hm=>(nomatch hm)⟩⟩,h2,h3,h4⟩
end Att
namespace L2
open PySem PySem.Spec PyProof.Rows
variable {X:Cx}{x qual:Str}{st:WJ}{f:We}{N:Tn}{k:Nat}{A B:Prop}{H:Hp}{env:Env}{sup sc:WX}{s:Wd}
theorem Hv:∀ {vs:Tq}{ns:Tp},Vp vs ns->Vals (ns.map V.int) vs
 | _,_,.nil=>.nil
 | _,_,.cons n t h=>.cons ⟨t,rfl⟩ (Hv h)
def Only (H:Hp):Prop:=∀b,H b=none\/∃o xs,H b=some (.aH o (.lst xs))
abbrev KOf {K:Xc}{h:Heap}(_:K.In h):Xc:=K
def dR (s:WJ):Arguments:=match s with
 | .FunctionDef _ a _ _ _ _ _ _ _ _=>a
 | _=>{ posonlyargs:=[],args:=[],vararg:=none,kwonlyargs:=[],kw_defaults:=[],kwarg:=none,defaults:=[] }
def dz (s:WJ):List WJ:=match s with
 | .FunctionDef _ _ b _ _ _ _ _ _ _=>b
 | _=>[]
def aU (s:WJ):WX:=match s with
 | .FunctionDef _ _ _ _ _ _ sc _ _ _=>sc
 | _=>{ kind:=.function,names:=[],isGenerator:=false,isCoroutine:=false }
abbrev bO:oM:=λ_ _ _ _ _ _=>False
abbrev E0:XK:=λ_ _ _=>False
theorem Hw:Bx bO X E0:=λ_ _ _ _ _ _ _ h=>h.elim
structure dU (K:Xc)(x qual:Str)(st:WJ)(f:We)(fd:WA):Prop where
 ex:∃(oc:Wb) (od:Option We) (kV doc pm:Wb) (an:Option We) (cdv ct:Wb) (osl:Array (Tv)),
  fd=O9 x qual (dR st) (dz st) (aU st) .none kV doc pm an cdv ct/\K.lookup f=some ⟨oc,od,.func fd,osl⟩/\PySem.W.codeIn K cdv qual=true
 kp:PySem.W.keepIn K (.ref f)=true
section
variable {P:Wo}{w:Ws}{K:Xc}{mg:Tj}{base:Heap}
theorem dU.ok {x qual:Str}{st:WJ}{f:We}{fd:WA}{N ps:Tn}{k:Nat}{sp:Sp}(F:dU K x qual st f fd)(S:fO N ps (aU st))(len:∀vs H Q E,sp vs H Q E->vs.length=ps.length)
  (hbody:∀(cdv:Wb) (A:Wv) (outer:List Env) (s:Wd) (H:Hp) (vs:List V) (Q:VK) (E:XK),cg k (A.deeper (envOfC qual (aU st) s.heap.objs.size f cdv))->sp vs H Q E->
   ∃t,dh (lq bO P w K mg base N qual (aU st) f cdv A outer s H E).wJ (dz st) t/\t { nx:=λ_ H'=>Q .non H',rt:=Q } (start N vs) H):aJ P w K mg base bO (k+1) f fd ps sp:=by
 obtain⟨oc,od,kV,doc,pm,an,cdv,ct,osl,rfl,lk,hcd⟩:=F.ex;refine yQ lk hcd S len λA outer s H vs Q E hr hsp=>?_;obtain⟨t,h,q⟩:=hbody cdv A outer s H vs Q E hr hsp;exact⟨t,h.wJ,q⟩
theorem dU.binds {x qual:Str}{st:WJ}{f:We}{fd:WA}{ps:Tn}(F:dU K x qual st f fd)
  (h:∀(kV doc pm:Wb) (an:Option We) (cdv ct:Wb) (us:Tq),us.length=ps.length->bindArgs (O9 x qual (dR st) (dz st) (aU st) .none kV doc pm an cdv ct) ⟨us,[]⟩=pure (ps.zip us)):Binds K fd ps []:=by
 obtain⟨oc,od,kV,doc,pm,an,cdv,ct,osl,rfl,lk,hcd⟩:=F.ex;exact .all (h kV doc pm an cdv ct)
theorem Hx {x qual:Str}{st:WJ}{f:We}{oc:Wb}{od an:Option We}{osl:Array (Tv)}{kV doc pm cdv ct:Wb}(l:K.lookup f=some ⟨oc,od,.func (O9 x qual (dR st) (dz st) (aU st) .none kV doc pm an cdv ct),osl⟩)
  (c:PySem.W.codeIn K cdv qual=true) (k:PySem.W.keepIn K (.ref f)=true):dU K x qual st f (O9 x qual (dR st) (dz st) (aU st) .none kV doc pm an cdv ct):=⟨⟨oc,od,kV,doc,pm,an,cdv,ct,osl,rfl,l,c⟩,k⟩
end
theorem qP (h:B):if false=true then A else B:=by
 rw[Qe Xw];exact h
theorem oX (h:A):if true=true then A else B:=by
 rw[Qf rfl];exact h
theorem dW {c:Prop} [Decidable c] (h1:c->A)(h2:¬ c->B):if c then A else B:=by
 by_cases h:c
 ·rw[Qf h];exact h1 h
 ·rw[Qe h];exact h2 h
def Same (H H':Hp):Prop:=∀b o,H b=some o->H' b=some o
theorem Same.refl (H:Hp):Same H H:=λ_ _ h=>h
theorem Same.trans {H1 H2:Hp}(a:Same H H1)(b:Same H1 H2):Same H H2:=λc o h=>b c o (a c o h)
theorem Same.free {H':Hp}(e:Same H H'){l:We}(h:H' l=Option.none):H l=Option.none:=by
 cases q:H l with
 | none=>rfl
 | some o=>
  rw[e l o q]at h;cases h
theorem Same.seq {K:Xc}{H':Hp}{a:We}{xs:List V}(e:Same H H')(h:aR K H a xs):aR K H' a xs:=by
 rcases h with (h | ⟨o,h⟩) | h
 ·exact .inl (.inl (e _ _ h))
 ·exact .inl (.inr ⟨o,e _ _ h⟩)
 ·exact .inr h
def jq (env:Env):List (Str×NameKind)->List (Str×We)->List (Str×We)
 | [],acc=>acc
 | (n,k)::r,acc=>jq env r (if k == .free then(n,(env.cells.lookup n).getD 0)::acc else acc)
theorem Hy {env:Env}(f:Str×NameKind->List (Str×We)->Sem (ForInStep (List (Str×We))))
  (hf:∀n k cs,f (n,k) cs=if k == .free then(do let a <- cellOf env n;pure (.yield ((n,a)::cs))) else pure (.yield cs)) :
  ∀(l:List (Str×NameKind)) (acc:List (Str×We)),(∀n,(n,Qx)∈l->∃c,env.cells.lookup n=some c)->forIn l acc f=pure (jq env l acc)
 | [],acc,_=>by rw[List.forIn_nil];rfl
 | (n,k)::r,acc,h=>by
  have ih:=Hy f hf r;have hr:∀m,(m,Qx)∈r->∃c,env.cells.lookup m=some c:=λm hm=>h m (Xi _ hm);rw[List.forIn_cons,hf];unfold jq;by_cases hk:(k == Qx)=true
  ·have hk':k=Qx:=by simpa using hk
   subst hk';obtain⟨c,hc⟩:=h n Xg;have e:cellOf env n=pure c:=by unfold cellOf;rw[hc]
   rw[Qf hk,Qf hk,e,hc];simp only[pure_bind,Option.getD_some];exact ih _ hr
  ·rw[Qe hk,Qe hk];simp only[pure_bind];exact ih _ hr
theorem Hz {scope:WX}(h:∀n,(n,Qx)∈scope.names->∃c,env.cells.lookup n=some c):closureFor scope env=pure (jq env scope.names []):=by
 simp only[closureFor];rw[Hy (env:=env) _ (λn k cs=>by cases hk:(k == Qx)<;>simp[hk]) scope.names [] h];simp
theorem HB:∀(l:List (Str×NameKind))(acc:List (Str×We)),(∀n,(n,Qx)∈l->∃c,env.cells.lookup n=some c)->(∀n c,(n,c)∈acc->env.cells.lookup n=some c)->
  ∀n c,(n,c)∈jq env l acc->env.cells.lookup n=some c
 | [],_,_,ha,n,c,hm=>ha n c hm
 | (x,k)::r,acc,h,ha,n,c,hm=>by
  have hr:∀m,(m,Qx)∈r->∃c,env.cells.lookup m=some c:=λm hm=>h m (Xi _ hm);unfold jq at hm;refine HB r _ hr (λm d hd=>?_) n c hm;by_cases hk:(k == Qx)=true
  ·have hk':k=Qx:=by simpa using hk
   subst hk';rw[Qf hk]at hd;rcases Xx.mp hd with e | hd
   ·obtain⟨c',hc'⟩:=h x Xg;cases e;rw[hc'];rfl
   ·exact ha m d hd
  ·rw[Qe hk]at hd;exact ha m d hd
theorem Cp:∀(l:List (Str×NameKind))(acc:List (Str×We))(n:Str),((n,Qx)∈l\/(acc.lookup n).isSome=true)->((jq env l acc).lookup n).isSome=true
 | [],_,_,h=>h.elim (λz=>nomatch z) id
 | (x,k)::r,acc,n,h=>by
  unfold jq;refine Cp r _ n ?_;have up:(acc.lookup n).isSome=true->((if (k == Qx)=true then(x,(env.cells.lookup x).getD 0)::acc else acc).lookup n).isSome=true:=λz=>by
   by_cases hk:(k == Qx)=true
   ·rw[Qf hk,YN];cases n == x<;>simp[z]
   ·rw[Qe hk];exact z
  rcases h with h | h
  ·rcases Xx.mp h with e | h
   ·right;cases e;rw[Qf (by rfl),YN];simp
   ·exact .inl h
  ·exact .inr (up h)
theorem xG:∀(names:List (Str×NameKind))(n:Nat)(acc:List (Str×We)),WC n names acc=WC n names []++acc
 | [],_,_=>rfl
 | (x,k)::r,n,acc=>by
  unfold WC;by_cases hk:(k == OD)=true
  ·rw[Qf hk,Qf hk,xG r (n+1) ((x,n)::acc),xG r (n+1) [(x,n)],XE];rfl
  ·rw[Qe hk,Qe hk];exact xG r n acc
theorem Cq:∀(names:List (Str×NameKind))(n:Nat)(acc:List (Str×We))(x:Str)(c:We),(x,c)∈WC n names acc->(x,c)∈acc\/(x,OD)∈names
 | [],_,_,_,_,h=>.inl h
 | (y,k)::r,n,acc,x,c,h=>by
  unfold WC at h;by_cases hk:(k == OD)=true
  ·have hk':k=OD:=by simpa using hk
   subst hk';rw[Qf hk]at h;rcases Cq r _ _ x c h with h | h
   ·rcases Xx.mp h with e | h
    ·cases e;exact .inr Xg
    ·exact .inl h
   ·exact .inr (Xi _ h)
  ·rw[Qe hk]at h;rcases Cq r _ _ x c h with h | h
   ·exact .inl h
   ·exact .inr (Xi _ h)
def qQ (sc sup:WX):WX:=
 {sc with names:=sc.names.map λ(n,k)=>if (k == .free&&sup.kind == .function&&sup.names.lookup n == some .cell) then(n,.cell) else(n,k) }
def xH (sup:WX)(XN N:Tn)(k:Nat)(js:Tt)(sc:WX):Bool:=
 sc.kind == .function&&decide N.Nodup&&decide (sc.names.map (·.1)).Nodup&&(sc.names.all λp=>p.2 != .free||(sup.names.lookup p.1 == some .cell||sup.names.lookup p.1 == some .free)) &&
  N.length == k+js.length&&((N.drop k).zip js).all λp=>sc.names.lookup p.1 == some .free&&XN[p.2]? == some p.1
structure ql (X:Cx)(N:Tn)(k:Nat)(js:Tt)(sc:WX):Prop where
 kind:sc.kind=.function
 nd:N.Nodup
 nm:(sc.names.map (·.1)).Nodup
 fr:∀n,(n,Qx)∈sc.names->X.env.kindOf n=some .cell\/X.env.kindOf n=some .free
 len:N.length=k+js.length
 at':∀(i:Nat) (x:Str),N[k+i]? = some x->sc.names.lookup x=some .free/\∃j,js[i]? = some j/\X.N[j]? = some x
theorem fP {XN:Tn}{js:Tt}(hs:X.env.scope=sup)(hn:X.N=XN)(h:xH sup XN N k js sc=true):ql X N k js sc:=by
 subst hs hn;unfold xH at h;simp only[YE,decide_eq_true_eq,beq_iff_eq,XV]at h;obtain⟨⟨⟨⟨⟨h1,h2⟩,h3⟩,h4⟩,h5⟩,h6⟩:=h;refine⟨h1,h2,h3,λn hn=>?_,h5,λi x hi=>?_⟩
 ·have q:=h4 _ hn;simp only[bne_self_eq_false,Bool.false_or,Bool.or_eq_true,beq_iff_eq]at q;exact q
 ·have hi':(N.drop k)[i]? = some x:=by rw[List.getElem?_drop];exact hi
  have hl:k+i<N.length:=(Xf.mp hi).1;have hj:i<js.length:=by lia
  have hm:(x,js[i])∈(N.drop k).zip js:=by
   refine List.mem_iff_getElem?.mpr ⟨i,?_⟩;rw[List.getElem?_zip_eq_some];exact⟨hi',by simp[hj]⟩
  have q:=h6 _ hm;exact⟨q.1,js[i],by simp[hj],q.2⟩
theorem Cr {α:Type}:∀ {l:List (Str×α)}{x:Str}{v:α},(l.map (·.1)).Nodup->(x,v)∈l->l.lookup x=some v
 | (y,u)::r,x,v,nd,h=>by
  rw[Xz,XI]at nd;rw[YN];rcases Xx.mp h with e | h
  ·cases e;simp
  ·have ne:x≠y:=λz=>nd.1 (Xv.mpr ⟨(x,v),h,z⟩);have hb:(x == y)=false:=by simpa using ne
   rw[hb];exact Cr nd.2 h
def lu (k:Nat)(js:Tt)(σ:St):St:=Ya k none++js.map λj=>(σ[j]?).getD none
def lz (X:Cx)(N:Tn)(sc:WX)(C:We)(cells:List (Str×We))(fp:Tr)(s:Wd)(H:Hp):Cx where
 prog:=X.prog
 w:=X.w
 K:=X.K
 mg:=X.mg
 base:=X.base
 A:=X.A
 N:=N
 s₀:=s
 H₀:=H
 env:={ scope:=qQ sc X.env.scope,locals:=C,globals:=X.env.globals,cells:=cells,qual:=X.env.qual,func:=none,code:=X.env.code,frame:=X.env.frame,builtins:=X.env.builtins }
 outer:=X.stack
 stack:=X.stack
 ex:=fp
 fn:=λx=>sc.names.lookup x == some .cell
 calm:=X.calm
 pn:=[]
 xe:=λ_ _=>False
section
variable {X:Cx}{pins:Tg}{σ:St}{H:Hp}{s:Wd}
theorem HD {k:NameKind}(h:(qQ sc sup).names.lookup x=some k):sc.names.lookup x=some k\/(sc.names.lookup x=some .free/\k=.cell):=by
 unfold qQ at h;dsimp only at h;generalize sc.names=l at h ⊢;induction l with
 | nil=>simp at h
 | cons p r ih=>
  obtain⟨n,kd⟩:=p;rw[Xz,YN]at h;rw[YN];dsimp only at h;by_cases hc:(kd == Qx&&sup.kind == ScopeKind.function&&sup.names.lookup n == some OD)=true
  ·rw[Qf hc]at h;dsimp only at h;cases hx:x == n with
   | true=>
    rw[hx]at h;simp only[YE,beq_iff_eq]at hc;right;exact⟨by rw[hc.1.1],(Qa h).symm⟩
   | false=>rw[hx]at h;exact ih h
  ·rw[Qe hc]at h;dsimp only at h;cases hx:x == n with
   | true=>rw[hx]at h;left;exact h
   | false=>rw[hx]at h;exact ih h
theorem Zb (h:sc.names.lookup x=some .free):(qQ sc sup).names.lookup x=some .cell\/(qQ sc sup).names.lookup x=some .free:=by
 unfold qQ;dsimp only;generalize sc.names=l at h ⊢;induction l with
 | nil=>simp at h
 | cons p r ih=>
  obtain⟨n,kd⟩:=p;rw[YN]at h;rw[Xz];dsimp only;by_cases hc:(kd == Qx&&sup.kind == ScopeKind.function&&sup.names.lookup n == some OD)=true
  ·rw[Qf hc,YN];cases hx:x == n with
   | true=>left;rfl
   | false=>rw[hx]at h;exact ih h
  ·rw[Qe hc,YN];cases hx:x == n with
   | true=>rw[hx]at h;right;exact h
   | false=>rw[hx]at h;exact ih h
theorem Inv.block {js:Tt}{fp:Tr}(I:Inv X pins σ H s)(S:ql X N k js sc)(hf:∀b∈fp,cQ X pins H b)(hfs:∀b∈fp,b<s.heap.objs.size) :
  Inv (lz X N sc s.heap.objs.size (WC (s.heap.objs.size+1) sc.names (jq X.env sc.names [])) fp s H) [] (lu k js σ) H
   {s with heap:=pushCells (s.heap.push { cls:=.type "dict",data:=.dict #[] }) sc.names }:=by
 have hz:(s.heap.push { cls:=.type "dict",data:=.dict #[] }).objs.size=s.heap.objs.size+1:=QT ..;have kp:∀b o,s.heap.get? b=some o->(pushCells (s.heap.push { cls:=.type "dict",data:=.dict #[] }) sc.names).get? b=some o:=λb o e=>pushCells_keeps _ _ b o (Xn _ e);have cok:=cellsFrom_ok sc.names (s.heap.push { cls:=.type "dict",data:=.dict #[] }) (s.heap.objs.size+1) [] ⟨λ_ _ hm=>(nomatch hm),List.Pairwise.nil⟩ (by rw[hz];exact Xj _);rw[hz]at cok;have frs':∀n,(n,Qx)∈sc.names->∃c,X.env.cells.lookup n=some c:=λn hn=>I.ok.has n (S.fr n hn);have csub:=HB (env:=X.env) sc.names [] frs' (λ_ _ z=>nomatch z);have eO:∀x c,(WC (s.heap.objs.size+1) sc.names (jq X.env sc.names [])).lookup x=some c->
   ((WC (s.heap.objs.size+1) sc.names []).lookup x=some c)\/((WC (s.heap.objs.size+1) sc.names []).lookup x=none/\(jq X.env sc.names []).lookup x=some c):=λx c h=>by
  rw[xG,List.lookup_append]at h;cases q:(WC (s.heap.objs.size+1) sc.names []).lookup x with
  | some d=>rw[q]at h;left;simpa using h
  | none=>rw[q]at h;right;exact⟨rfl,by simpa using h⟩
 have old:∀x c,(jq X.env sc.names []).lookup x=some c->X.env.cells.lookup x=some c:=λx c h=>csub x c (Qu h);have sV:∀x c,X.env.cells.lookup x=some c->c<s.heap.objs.size:=λx c h=>let ⟨_,q⟩:=I.cell x c h;q.lt;have j6:∀x c,(WC (s.heap.objs.size+1) sc.names []).lookup x=some c->s.heap.objs.size+1<=c:=λx c h=>(cok.empty x c (Qu h)).2;refine⟨⟨I.ok.mod,S.kind,I.ok.glob,I.ok.blt,Xj _,?inj,?has,?cab,I.ok.hd,I.ok.frames,.inl rfl,?exf,I.bs,XZ I.ok.bsz I.sz,?kZ,?lg,I.stack,I.Gk⟩,rfl,I.bare,Un.kept kp,?loc,?cell,I.hok.fresh (Xj _),?bY,λp hp=>Qg (show p∈([]:Tg) from hp) (by simp),I.hok.kept kp,?len⟩
 case inj=>
  intro x y c hx hy;rcases eO x c hx with h1 | ⟨_,h1⟩<;>rcases eO y c hy with h2 | ⟨_,h2⟩
  ·exact name_of_addr cok.apart (Qu h1) (Qu h2)
  ·exact Qg (Yc (sV y c (old y c h2)) (Nat.le_of_succ_le (j6 x c h1))) (YI _)
  ·exact Qg (Yc (sV x c (old x c h1)) (Nat.le_of_succ_le (j6 y c h2))) (YI _)
  ·exact I.ok.inj x y c (old x c h1) (old y c h2)
 case has=>
  intro x hx;have hx':(qQ sc X.env.scope).names.lookup x=some .cell\/(qQ sc X.env.scope).names.lookup x=some .free:=hx;have q:sc.names.lookup x=some .cell\/sc.names.lookup x=some .free:=by
   rcases hx' with h | h
   ·rcases HD h with h | ⟨h,_⟩
    ·exact .inl h
    ·exact .inr h
   ·rcases HD h with h | ⟨h,_⟩
    ·exact .inr h
    ·exact .inr h
  refine Option.isSome_iff_exists.mp (O6 sc.names _ _ ?_);rcases q with q | q
  ·exact .inl q
  ·exact .inr (Cp _ _ _ (.inl (Qu q)))
 case cab=>
  intro x c hfn hx;have hc:sc.names.lookup x=some .cell:=by simpa[lz]using hfn
  rcases eO x c hx with h | ⟨h,_⟩
  ·have:=j6 x c h;show s.heap.objs.size<=c;lia
  ·have q:=O6 sc.names (s.heap.objs.size+1) [] (.inl hc);rw[h]at q;cases q
 case exf=>
  intro b hb;have hlt:=hfs b hb;refine⟨XM hlt,λx c hx=>?_⟩;rcases eO x c hx with h | ⟨_,h⟩
  ·exact λz=>Qg (Yc (show c<s.heap.objs.size by rw[z];exact hlt) (Nat.le_of_succ_le (j6 x c h))) (YI _)
  ·exact(hf b hb).2.2.2.2.1 x c (old x c h)
 case kZ=>
  intro b o e hb;rcases(hf b hb).2.2.2.1 with z | z
  ·exact I.ok.kZ b o e z
  ·exact Qg (Yc (XC (I.ok.bs b o e).1) z) (YI _)
 case lg=>
  intro b hb hbf;rcases Xx.mp (I.Ay b hbf)with z | z
  ·exact(hf b hb).2.1 z
  ·exact(hf b hb).2.2.1 z
 case loc=>
  refine⟨_,(Heap.Ns.new s.heap (.type "dict")).keeps (pushCells_keeps _ _),λi x v e1 e2 e3=>?_⟩;have hik:k<=i:=by
   unfold lu at e2;by_cases hik:k<=i
   ·exact hik
   ·rw[Yd (by simp;lia),List.getElem?_replicate]at e2;split at e2<;>cases e2
  obtain⟨i',rfl⟩:∃i',i=k+i':=⟨i-k,by lia⟩;obtain⟨hfree,j,hj,hX⟩:=S.at' i' x e1;have e2':(σ[j]?).getD none=some v:=by
   unfold lu at e2;rw[XO (by simp)]at e2;rw[Yv,show k+i'-k=i' by lia,Xe,hj]at e2;exact Qa e2
  have hσ:σ[j]? = some (some v):=by
   cases q:σ[j]? with
   | none=>rw[q]at e2';cases e2'
   | some o=>rw[q]at e2';exact congrArg some e2'
  have hk:=S.fr x (Qu hfree);obtain⟨m,hn,hl⟩:=I.loc;obtain⟨u,r,l⟩:=hl j x v hX hσ (by rcases hk with h | h;exact .inr (.inl h);exact .inr (.inr h))
  rcases l with ⟨hloc,_⟩ | ⟨_,c,hc,hcell⟩
  ·rcases hk with h | h<;>(rw[h]at hloc;cases hloc)
  ·refine⟨u,r,.inr ⟨Zb hfree,c,?_,hcell.keeps kp⟩⟩;show(WC (s.heap.objs.size+1) sc.names (jq X.env sc.names [])).lookup x=some c;have hno:(WC (s.heap.objs.size+1) sc.names []).lookup x=none:=by
    cases q:(WC (s.heap.objs.size+1) sc.names []).lookup x with
    | none=>rfl
    | some d=>
     rcases Cq _ _ _ x d (Qu q)with z | z
     ·cases z
     ·have:=Cr S.nm z;rw[hfree]at this;cases this
   obtain⟨d,hd⟩:=Option.isSome_iff_exists.mp (Cp (env:=X.env) sc.names [] x (.inl (Qu hfree)));have hdc:d=c:=by
    have:=old x d hd;rw[hc]at this;exact(Qa this).symm
   rw[xG,List.lookup_append,hno,hd,hdc];rfl
 case cell=>
  intro x c hx;rcases eO x c hx with h | ⟨_,h⟩
  ·exact⟨none,(cok.empty x c (Qu h)).1⟩
  ·obtain⟨v,q⟩:=I.cell x c (old x c h);exact⟨v,q.keeps kp⟩
 case bY=>
  intro x c hx;rcases eO x c hx with h | ⟨_,h⟩
  ·exact I.hok.fresh (by have:=j6 x c h;lia)
  ·exact I.bY x c (old x c h)
 case len=>
  show(lu k js σ).length=N.length;unfold lu;rw[Xy,Yv,Xb];exact S.len.symm
end
theorem Zc {prog:Wo}{w:Ws}{A:Wv}{R:Result->Wd->Prop}{s:Wd}{elt tg iter:Expr}{ifs:List Expr}{scope:WX}{pos:Pos}{it acc:Wb}{env:Env}(J:Nat->Wd->Prop)
  (turn:∀n s,J n s->Wj (Wm prog w) A (Vo it) (λr s1=>match r with
   | none=>R (.ok .next) s1
   | some v=>Wj (Wm prog w) A (letOwnedTupleGo tg it v) (λ_ s2=>Wj (Wm prog w) A (assign tg env v) (λ_ s3=>
     Wj (Wm prog w) A (forIn ifs true λc r=>if r=true then do let ok <- isTrue c env (Wx c env);pure (ForInStep.yield ok) else pure (ForInStep.yield r)) (λok s4=>
      if ok=true then Wj (Wm prog w) A (Wx elt env) (λx s5=>Wj (Wm prog w) A (call (.builtin "list.append") [acc,x]) (λ_ s6=>∃m,m<n/\J m s6) (λ_ _=>False) s5) (λ_ _=>False) s4
      else ∃m,m<n/\J m s4) (λ_ _=>False) s3) (λ_ _=>False) s2) (λ_ _=>False) s1) (λ_ _=>False) s)
  (n:Nat) (h:J n s):Vd (Wm prog w) A (.compLoop (.ListComp elt [⟨tg,iter,ifs,0⟩] scope pos) 0 it acc env) R s:=by
 refine codeAny_loop rfl J (λn s hI=>wpAny_noted (wpAny_noRaise ?_)) n h;rw[compTurn_list];refine Wa (wpAny_standAt (Wa (aM (turn n s hI) λr s1 h1=>?_)));cases r with
 | none=>exact Wc h1
 | some v=>
  refine Wa (aM h1 λ_ s2 h2=>Wa (aM h2 λ_ s3 h3=>Wa (aM h3 λok s4 h4=>?_)));cases ok with
  | false=>exact Wc ⟨rfl,by simpa using h4⟩
  | true=>
   rw[Qf rfl]at h4;exact Wa (Wa (aM h4 λx s5 h5=>Wa (aM h5 λ_ s6 h6=>Wc (Wc ⟨rfl,h6⟩))))
theorem Zd {M:Model}{A:Wv}{E:Ti}{s:Wd}{sc:WX}{globals:We}{clo:List (Str×We)}{qual:Str}{out:Env}{Q:Env->Wd->Prop}
  (h:Q { scope:=sc,locals:=s.heap.objs.size,globals:=globals,cells:=WC (s.heap.objs.size+1) sc.names clo,qual:=qual,func:=none,code:=out.code,frame:=out.frame,builtins:=out.builtins }
   {s with heap:=pushCells (s.heap.push { cls:=.type "dict",data:=.dict #[] }) sc.names }) :
  Wj M A (newFunctionEnv sc globals clo [] qual none .none (some out)) Q E s:=by
 unfold newFunctionEnv;simp only[Option.isSome_some,if_true];refine Wa (wpAny_alloc (Wa (wpAny_layCells _ (λname kind cells=>by cases hkc:kind == OD<;>simp[hkc]) _ _ _ _ ?_)));rw[show({ s with heap:=s.heap.push { cls:=.type "dict",data:=.dict #[] } }:Wd).heap.objs.size=s.heap.objs.size+1 from QT ..];simp only[List.forIn_nil];exact Wa (Wc (Wc h))
def sW (X:Cx)(ifs:List Expr)(t:TT):Prop:=
 ∀(pins:Tg) (s:Wd) (σ:St) (H:Hp) (Q:Bool->Hp->Prop),Inv X pins σ H s->t σ H Q->
  Wj (Wm X.prog X.w) X.A (forIn ifs true λc r=>if r=true then do let ok <- isTrue c X.env (Wx c X.env);pure (ForInStep.yield ok) else pure (ForInStep.yield r)) (TP X pins σ Q) X.xe s
def HF:TT:=λ_ H Q=>Q true H
theorem HJ:sW X [] HF:=λpins s σ H Q I h=>wpAny_tests_nil ⟨H,I,h⟩
theorem Ze {c:Expr}{t:TT}(h:PT X c t):sW X [c] t:=λpins s σ H Q I q=>wpAny_tests_one (h pins s σ H Q I q)
def yX (J:It)(g:TG)(tt:TT)(te:TE)(l:We)(σb:St)(H1:Hp)(R:Hp->Prop):Prop:=
 ∃W:Nat->Nat->St->Hp->Prop,(∃m,W 0 m σb (upd H1 l (.lst [])))/\∀i m σ' H',W i m σ' H'->
  (J.stop i H'/\R H')\/(J.go i H'/\∀x H2,J.sI i H' x H2->g x σ' H2 λσ2 H3=>tt σ2 H3 λb H4=>if b=true
   then te σ2 H4 λv H5=>∃ys,H5 l=some (.lst ys)/\ys.length<Wi/\∃m',m'<m/\W (i+1) m' σ2 (upd H5 l (.lst (ys++[v])))
   else ∃m',m'<m/\W (i+1) m' σ2 H4)
def xJ (k:Nat)(js:Tt)(wi:TI)(g:TG)(tt:TT)(te:TE):TE:=λσ H Q=>wi σ H λJ H1=>∀l,H1 l=none->yX J g tt te l (lu k js σ) H1 λH'=>Q (.ref l) H'
section
variable {X:Cx}{elt tg iter:Expr}{ifs:List Expr}{sc:WX}{pos:Pos}{N:Tn}{k:Nat}{js:Tt}{wi:TI}{g:TG}{tt:TT}{te:TE}
structure Blk (X:Cx)(N:Tn)(sc:WX)(tg:Expr)(ifs:List Expr)(elt:Expr)(g:TG)(tt:TT)(te:TE):Prop where
 tgt:∀C cells fp s H,PG (lz X N sc C cells fp s H) tg g
 tst:∀C cells fp s H,sW (lz X N sc C cells fp s H) ifs tt
 val:∀C cells fp s H,PE (lz X N sc C cells fp s H) elt te
def After (X:Cx)(pins:Tg)(σ:St)(R:We->Hp->Prop)(acc:Wb)(C:We)(s':Wd):Prop:=
 ∃(l:We) (H':Hp) (m:Tj),acc=.ref l/\Inv X pins σ H' s'/\s'.heap.Ns C m/\cQ X pins H' C/\R l H'
theorem HN {pins:Tg}{σ:St}{H:Hp}{s:Wd}{R:We->Hp->Prop}(hc:X.calm=true)(S:ql X N k js sc)(hi:PI X tg iter wi)(B:Blk X N sc tg ifs elt g tt te)(I:Inv X pins σ H s)
  (h:wi σ H λJ H1=>∀l,H1 l=none->yX J g tt te l (lu k js σ) H1 (R l)) :
  Wj (Wm X.prog X.w) X.A (Wx iter X.env) (λx s1=>Wj (Wm X.prog X.w) X.A (pyIter x) (λit s2=>Wj (Wm X.prog X.w) X.A (newList []) (λacc s3=>
   Wj (Wm X.prog X.w) X.A (newFunctionEnv sc X.env.globals (jq X.env sc.names []) [] X.env.qual none .none (some X.env)) (λcenv s4=>
    Vd (Wm X.prog X.w) X.A (.compStart (.ListComp elt [⟨tg,iter,ifs,0⟩] sc pos) 0 it acc { cenv with scope:=relabel sc X.env })
     (λr s'=>match r with | .ok _=>After X pins σ R acc cenv.locals s' | .error _=>False) s4) X.xe s3) X.xe s2) X.xe s1) X.xe s:=by
 refine aM (hi pins s σ H _ I h) λv s1 h1=>aM h1 λitv s2 h2=>?_;obtain⟨it,fp,tn,J,H2,e,I2,T,st2,f2,hq⟩:=h2;subst e;have hl:H2 s2.heap.objs.size=none:=I2.fresh;have fplt:∀b∈fp,b<s2.heap.objs.size:=λb hb=>by
  obtain⟨o,e,_⟩:=T.obj 0 _ st2 b hb;exact XC e
 obtain⟨W,⟨m0,w0⟩,turn⟩:=hq _ hl;refine wpAny_newList ?_;have I3:Inv X pins σ (upd H2 s2.heap.objs.size (.lst [])) { s2 with heap:=s2.heap.push { cls:=.type "list",data:=.seq ([]:Tq).toArray } }:=I2.xq (its:=[]) (t':=s2.toks) .nil (Ye _);have u3:Un (frs X.stack) fp H2 (upd H2 s2.heap.objs.size (.lst [])) s2.heap (s2.heap.push { cls:=.type "list",data:=.seq ([]:Tq).toArray }):=Un.laid (λb o e=>Xn _ e) (Xj _) hl;have hz3:(s2.heap.push { cls:=.type "list",data:=.seq ([]:Tq).toArray }).objs.size=s2.heap.objs.size+1:=QT ..;have kp3:∀b o,s2.heap.get? b=some o->(s2.heap.push { cls:=.type "list",data:=.seq ([]:Tq).toArray }).get? b=some o:=λb o e=>Xn _ e;have fpn:∀b∈fp,upd H2 s2.heap.objs.size (.lst []) b=none:=λb hb=>by
  rw[aO (XM (fplt b hb))];exact(f2 b hb).1
 generalize hl0:s2.heap.objs.size=l at hl I3 u3 hz3 kp3 fpn w0 turn ⊢;rw[hl0]at fplt;generalize s2.heap.push { cls:=.type "list",data:=.seq ([]:Tq).toArray }=h3 at I3 u3 hz3 kp3 ⊢;generalize upd H2 l (.lst [])=H3 at I3 u3 fpn w0;have f3:∀b∈fp,cQ X pins H3 b:=λb hb=>⟨fpn b hb,(f2 b hb).2⟩;have I4:=I3.block S f3 (λb hb=>by show b<h3.objs.size;rw[hz3];exact YR (fplt b hb));have kp4:∀b o,s2.heap.get? b=some o->(pushCells (h3.push { cls:=.type "dict",data:=.dict #[] }) sc.names).get? b=some o:=λb o e=>pushCells_keeps _ _ b o (Xn _ (kp3 b o e));refine Zd ?_;have st4:tn 0 (pushCells (h3.push { cls:=.type "dict",data:=.dict #[] }) sc.names):=T.keep 0 _ _ st2 λb _ o e=>kp4 b o e;have stat:∀ {H':Hp},(∀b∈fp,H' b=none)->∀b∈fp,cQ (lz X N sc h3.objs.size (WC (h3.objs.size+1) sc.names (jq X.env sc.names [])) fp { s2 with heap:=h3 } H3) [] H' b:=λhn b hb=>
  ⟨hn b hb,(I4.ok.exf b hb).1,I4.ok.lg b hb,.inl hb,(I4.ok.exf b hb).2,λp hp=>Qg (show p∈([]:Tg) from hp) (by simp)⟩
 generalize hY:lz X N sc h3.objs.size (WC (h3.objs.size+1) sc.names (jq X.env sc.names [])) fp { s2 with heap:=h3 } H3=Y at I4 stat;have loop:Vd (Wm X.prog X.w) X.A (.compLoop (.ListComp elt [⟨tg,iter,ifs,0⟩] sc pos) 0 (.ref it) (.ref l) Y.env)
   (λr s'=>match r with | .ok _=>After X pins σ R (.ref l) h3.objs.size s' | .error _=>False) { s2 with heap:=pushCells (h3.push { cls:=.type "dict",data:=.dict #[] }) sc.names }:=by
  subst hY;refine Zc (λn s'=>∃i σ' H',Inv (lz X N sc h3.objs.size (WC (h3.objs.size+1) sc.names (jq X.env sc.names [])) fp { s2 with heap:=h3 } H3) [] σ' H' s'/\tn i s'.heap/\(∀b∈fp,H' b=none)/\W i n σ' H') ?_ m0
   ⟨0,lu k js σ,H3,I4,st4,fpn,w0⟩
  rintro n s5 ⟨i,σ5,H5,I5,st5,fr5,w5⟩;rcases turn i n σ5 H5 w5 with ⟨stop,qn⟩ | ⟨go,step⟩
  ·refine aM (T.done (lz X N sc h3.objs.size (WC (h3.objs.size+1) sc.names (jq X.env sc.names [])) fp { s2 with heap:=h3 } H3) rfl rfl rfl hc i [] s5 σ5 H5 (λ_ _=>False) I5 (stat fr5) st5 stop) λr s6 ⟨hr,I6⟩=>?_;subst hr;obtain⟨m6,hn6,_⟩:=id I6.loc;have IX:Inv X pins σ H5 s6:=I2.call' (ch:=fp) I6.os (u3.trans I6.base) I6.hok I6.bare λb hb=>⟨(f2 b hb).2.2.2.1,(f2 b hb).2.1,(f2 b hb).2.2.2.2.1,(f2 b hb).2.2.2.2.2⟩;exact⟨l,H5,m6,rfl,IX,hn6,I2.jb (by show s2.heap.objs.size<=h3.objs.size;rw[hz3,hl0];exact QX _) I6.free,qn⟩
  ·refine aM (T.item (lz X N sc h3.objs.size (WC (h3.objs.size+1) sc.names (jq X.env sc.names [])) fp { s2 with heap:=h3 } H3) rfl rfl rfl hc i [] s5 σ5 H5 (λ_ _=>False) I5 (stat fr5) st5 go) λr s6 ⟨u,hr,h6⟩=>?_;subst hr;refine aM h6 λ_ s7 ⟨x,H7,I7,r7,y7,st7,fr7⟩=>?_;have I7':=I7.pinned (stat fr7) (T.obj _ _ st7);refine aM (B.tgt _ _ _ _ _ _ s7 σ5 H7 x u _ I7' r7 (step x H7 y7)) λ_ s8 ⟨σ8,H8,I8,q8⟩=>?_;refine aM (B.tst _ _ _ _ _ _ s8 σ8 H8 _ I8 q8) λok s9 ⟨H9,I9,q9⟩=>?_;have kept:∀ {σ':St} {H':Hp} {s':Wd},Inv (lz X N sc h3.objs.size (WC (h3.objs.size+1) sc.names (jq X.env sc.names [])) fp { s2 with heap:=h3 } H3) ([]++wO fp s7.heap) σ' H' s'->tn (i+1) s'.heap/\∀b∈fp,H' b=none:=λ{σ' H' s'} I'=>
    ⟨T.keep _ _ _ st7 λb hb o e=>(I'.pin (b,o) (Yu _ (Yu _ (yN hb e)))).1,λb hb=>by
     obtain⟨o,e,_⟩:=T.obj _ _ st7 b hb;exact(I'.pin (b,o) (Yu _ (Yu _ (yN hb e)))).2.1⟩
   cases ok with
   | false=>
    rw[Qe Xw]at q9;rw[Qe Xw];obtain⟨m',hm,w9⟩:=q9;exact⟨m',hm,i+1,σ8,H9,I9.wQ,(kept I9).1,(kept I9).2,w9⟩
   | true=>
    rw[Qf rfl]at q9;rw[Qf rfl];refine aM (B.val _ _ _ _ _ _ s9 σ8 H9 _ I9 q9) λu10 s10 ⟨y,H10,I10,r10,ys,hys,hlen,m',hm,w10⟩=>?_;refine aM (vK _ s10 σ8 H10 (.ref l) [y] (.ref l) [u10] (λ_ H'=>H'=upd H10 l (.lst (ys++[y]))) I10 rfl (.cons r10 .nil) ⟨l,ys,y,rfl,rfl,hys,hlen,rfl⟩) λ_ s11 ⟨_,H11,I11,_,e11⟩=>?_;subst e11;exact⟨m',hm,i+1,σ8,_,I11.wQ,(kept I11).1,(kept I11).2,w10⟩
 subst hY;exact codeAny_compStart_list loop (T.self X.A 0 _ _ _ st4 loop)
theorem HS {X:Cx}(S:ql X N k js sc):∀x∈sc.names,x.2=.local->sc.names.lookup x.1=some .local:=λx hx hl=>Cr S.nm (by rw[<- hl];exact hx)
theorem Zf (hc:X.calm=true)(S:ql X N k js sc)(hi:PI X tg iter wi)(B:Blk X N sc tg ifs elt g tt te)(hs:∀x,WD iter X.env x=pure x:=by intro _;rfl) :
  PE X (.ListComp elt [⟨tg,iter,ifs,0⟩] sc pos) (xJ k js wi g tt te):=by
 intro pins s σ H Q I h;rw[eval_ListComp];refine wpAny_comprehension_free (use:=none) rfl hs (Hz λn hn=>I.ok.has n (S.fr n hn)) S.kind (HS S) ?_;refine aM (HN (pos:=pos) (R:=λl H'=>Q (.ref l) H') hc S hi B I h) λx s1 h1=>aM h1 λit s2 h2=>aM h2 λacc s3 h3=>aM h3 λcenv s4 h4=>Ve h4 λr s' hr=>?_;cases r with
 | error e=>exact QZ hr
 | ok f=>
  obtain⟨l,H',m,rfl,I',hn,⟨f0,f1,f2,f3,f4,f5⟩,q⟩:=hr;exact⟨m,hn,λh' sb=>⟨.ref l,H',I'.turned (t':=s'.toks) (λb o hb e=>sb.extBut b o hb e) f0 f1 f3 f4 f5,rfl,q⟩⟩
theorem Cu {i:Nat}{x:Str}{pos' pos2:Pos}(hc:X.calm=true)(S:ql X N k js sc)(hi:PI X tg iter wi)(B:Blk X N sc tg ifs elt g tt te)(hN:X.N.Nodup)(hx:X.N[i]? = some x)(hk:X.env.scope.names.lookup x=some .local)
  (hsw:WE (.ListComp elt [⟨tg,iter,ifs,0⟩] sc pos) (some (.Name x pos')) pos2.line X.env=pure true:=by rfl) (hs:∀x,WD iter X.env x=pure x:=by intro _;rfl) :
  PS X (.Assign [.Name x pos'] (.ListComp elt [⟨tg,iter,ifs,0⟩] sc pos) pos2) (qN (xJ k js wi g tt te) (vH i)):=by
 intro pins s σ H D I h;rw[exec_Assign_Name_used _ _ _ _ hsw];refine Wa (wpAny_standAt (Wa ?_));show Wj _ X.A (do let _ <- comprehension (.ListComp elt [⟨tg,iter,ifs,0⟩] sc pos) sc X.env _ (newList []) false (Wx iter X.env) (some (assign (.Name x pos') X.env))) _ _ s
 refine Wa (aM (wpAny_comprehension_free (use:=some (assign (.Name x pos') X.env)) (Q:=λ_ s'=>SP X pins D .next s') rfl hs (Hz λn hn=>I.ok.has n (S.fr n hn)) S.kind (HS S) ?_) λ_ s' hq=>Wc (Wc hq))
 refine aM (HN (pos:=pos) (R:=λl H'=>D.nx (σ.set i (some (.ref l))) H') hc S hi B I h) λy s1 h1=>aM h1 λit s2 h2=>aM h2 λacc s3 h3=>aM h3 λcenv s4 h4=>Ve h4 λr s' hr=>?_;cases r with
 | error e=>exact QZ hr
 | ok f=>
  obtain⟨l,H',m,rfl,I',hn,⟨f0,f1,f2,f3,f4,f5⟩,q⟩:=hr;refine wpAny_assign_Name (Gp I' hN hx (.inl hk) (show RelV (.ref l) (.ref l) from rfl) (λs'' I'' ⟨a,sb,ha⟩=>?_) (.inr hk));have ne:cenv.locals≠a:=by
   rcases ha with z | z
   ·rw[z];exact f1
   ·exact λw=>f4 x a z w.symm
  exact⟨m,hn.sameBut sb ne,λh' sb'=>⟨_,H',I''.turned (t':=s''.toks) (λb o hb e=>sb'.extBut b o hb e) f0 f1 f3 f4 f5,q⟩⟩
end
end L2
namespace JS
open PySem
variable {α:Type}{n i ep slot:Nat}{Q:Ti}{xs:Array Nat}{w:Ws}{h h':Heap}{a l:We}{es:Array (Int×Wb)}{t t':SetTable}{items:Array Wb}{tq:Tr}{order:Tq}
theorem Cv:∀ {l:List α}{i:Nat}(h:i<l.length),(l[i]::l.eraseIdx i).Perm l
 | _::_,0,_=>YG.refl _
 | x::r,i+1,h=>by
  have ih:=Cv (l:=r) (i:=i) (by simpa using h);rw[List.eraseIdx_cons_succ];exact(YG.swap x _ _).trans (ih.cons x)
section
variable {M:Model}{A:Wv}{E:Ti}{s:Wd}
theorem Zg {src:Source}{Q:Nat->Wd->Prop}(hn:n≠0)(h:∀i,i<n->Q i { s with drawn:=s.drawn.bump src }):Wj M A (choose src n) Q E s:=
 λ_ _ _=>⟨hn,h _ (Nat.mod_lt _ (Nat.pos_of_ne_zero hn))⟩
theorem HW:∀(n:Nat)(xs:List α)(s:Wd)(Q:List α->Wd->Prop),xs.length<=n->(∀ys d,ys.Perm xs->Q ys { s with drawn:=d })->Wj M A (drawOrder n xs) Q E s
 | 0,xs,s,Q,h,hq=>by
  have e:xs=[]:=XQ.mp (by lia);subst e;exact Wc (hq [] s.drawn (YG.refl _))
 | n+1,[],s,Q,_,hq=>Wc (hq [] s.drawn (YG.refl _))
 | n+1,x::r,s,Q,h,hq=>by
  show Wj M A (choose .order (x::r).length >>= λi=>match (x::r)[i]? with
   | some y=>drawOrder n ((x::r).eraseIdx i) >>= λys=>pure (y::ys)
   | none=>unsupported "internal:drawOrder") Q E s
  refine Wa (Zg (by simp) λi hi=>?_);have e:(x::r)[i]? = some (x::r)[i]:=by simp[hi]
  rw[e];refine Wa (HW n ((x::r).eraseIdx i) _ _ (by rw[List.length_eraseIdx_of_lt hi];simp at h ⊢;lia) λys d hp=>Wc (hq _ d ?_));exact(hp.cons _).trans (Cv hi)
end
theorem HX (next:Tw):∀(fuel k:Nat)(left:List α)(out:Array α),left.length=fuel->(pickOrder.go next fuel k left out).toList.Perm (out.toList++left)
 | 0,k,left,out,h=>by
  have e:left=[]:=XQ.mp h;subst e;simp[pickOrder.go]
 | fuel+1,k,left,out,h=>by
  unfold pickOrder.go;have hi:next k % left.length<left.length:=Nat.mod_lt _ (by lia)
  have e:left[next k % left.length]? = some left[next k % left.length]:=by simp[hi]
  rw[e];dsimp only;refine(HX next fuel (k+1) _ _ (by rw[List.length_eraseIdx_of_lt hi];lia)).trans ?_
  rw[Ph,XE];exact YG.append_left _ (Cv hi)
theorem HY (next:Tw)(xs:Array α):(pickOrder next xs).toList.Perm xs.toList:=by
 unfold pickOrder;have h:=HX next xs.size 0 xs.toList #[] (by simp)
 simpa using h
def jP (xs:Array Nat):Prop:=xs.toList.Pairwise (· < ·)
theorem jP.lt (h:jP xs){j:Nat}(hij:i<j)(hj:j<xs.size):xs.getD i 0<xs.getD j 0:=by
 have q:=List.pairwise_iff_getElem.mp h i j (by simp;lia) (by simpa using hj) hij;simpa[O1,hj,show i<xs.size by lia]using q
theorem yZ (n:Nat):jP (Array.range n):=by
 unfold jP;rw[Array.toList_range];exact List.pairwise_lt_range
theorem Cw (xs:Array Nat)(j:Nat):∀(fuel lo hi:Nat),jP xs->lo<=hi->hi<=xs.size->hi-lo<=fuel->(∀i,i<lo->xs.getD i 0<j)->(∀i,hi<=i->i<xs.size->¬ xs.getD i 0<j)->
  Yy.go xs j fuel lo hi<=xs.size/\(∀i,i<Yy.go xs j fuel lo hi->xs.getD i 0<j)/\∀i,Yy.go xs j fuel lo hi<=i->i<xs.size->¬ xs.getD i 0<j
 | 0,lo,hi,ha,h1,h2,h3,h4,h5=>by
  have:lo=hi:=by lia
  subst this;exact⟨h2,h4,h5⟩
 | fuel+1,lo,hi,ha,h1,h2,h3,h4,h5=>by
  unfold Yy.go;by_cases h:lo<hi
  ·rw[Qf h];dsimp only;have hm:(lo+hi) / 2<xs.size:=by lia
   have e:xs.getD ((lo+hi) / 2) j=xs.getD ((lo+hi) / 2) 0:=by simp[O1,hm]
   rw[e];by_cases hc:xs.getD ((lo+hi) / 2) 0<j
   ·rw[Qf hc];refine Cw xs j fuel _ _ ha (by lia) h2 (by lia) (λi hi'=>?_) h5;rcases Nf i ((lo+hi) / 2)with z | z
    ·exact Nat.lt_trans (ha.lt z hm) hc
    ·have:i=(lo+hi) / 2:=by lia
     rw[this];exact hc
   ·rw[Qe hc];refine Cw xs j fuel _ _ ha (by lia) (by lia) (by lia) h4 λi hi' hs z=>hc ?_;rcases Nf ((lo+hi) / 2) i with y | y
    ·exact Nat.lt_trans (ha.lt y hs) z
    ·have:i=(lo+hi) / 2:=by lia
     rw[<- this];exact z
  ·rw[Qe h];have:lo=hi:=by lia
   subst this;exact⟨h2,h4,h5⟩
theorem Ia (ha:jP xs)(j:Nat):Yy xs j<=xs.size/\(∀i,i<Yy xs j->xs.getD i 0<j)/\∀i,Yy xs j<=i->i<xs.size->¬ xs.getD i 0<j:=
 Cw xs j xs.size 0 xs.size ha (Ye _) (Xj _) (by lia) (λi h=>by lia) (λi h1 h2=>by lia)
theorem below_at (ha:jP xs)(hi:i<=xs.size):Yy xs (if i=0 then 0 else xs.getD (i-1) 0+1)=i:=by
 obtain⟨h1,h2,h3⟩:=Ia ha (if i=0 then 0 else xs.getD (i-1) 0+1)
 generalize Yy xs (if i=0 then 0 else xs.getD (i-1) 0+1)=r at h1 h2 h3
 by_cases e:i=0
 ·subst e;rw[Qf rfl]at h2;rcases Nat.eq_zero_or_pos r with z | z
  ·exact z
  ·exact Qg (h2 0 z) (by lia)
 ·rw[Qe e]at h2 h3;rcases Nat.lt_trichotomy r i with z | z | z
  ·have q:=h3 (i-1) (by lia) (by lia);lia
  ·exact z
  ·have q1:=h2 i z;have q2:=ha.lt (show i-1<i by lia) (show i<xs.size by lia);lia
structure Rec (w:Ws)(h:Heap)(a:We)(es:Array (Int×Wb))(ep:Nat)(t:SetTable):Prop where
 obj:∃o,h.get? a=some o/\o.ExactSet/\o.data=.set es ep t
 fits:t.fits es.size=true
 led:t.led=true\/w.params.followText "set-order" = true
 asc:jP t.place
 dm:t.dummies = #[]
 sz:es.size<W5
theorem Rec.keep (r:Rec w h a es ep t)(k:∀o,h.get? a=some o->h'.get? a=some o):Rec w h' a es ep t:=
 ⟨let ⟨o,e,x⟩:=r.obj;⟨o,k o e,x⟩,r.fits,r.led,r.asc,r.dm,r.sz⟩
theorem Rec.type {s:Wd}(r:Rec w s.heap a es ep t):s.TypeIs (.ref a) "set":=
 let ⟨o,e,x,_⟩:=r.obj;⟨o,e,x.1⟩
namespace F
theorem slot_next:Slot "set_iterator" "__next__" "set_iterator.__next__":=.of (owner:="set_iterator") (n:="__next__") (by rw[typeLookup_type,builtinLookup_eq_fast];kernel_rfl) (by decide +kernel) (by decide +kernel) (by decide +kernel) (by first | exact .inl (by decide +kernel) | exact .inr (by decide +kernel)) (by rw[isSubtype_type];kernel_rfl)
theorem entry_next:entryFor table "set_iterator.__next__" = some Builtin.«set_iterator.__next__»:=entryFor_of_tree (by kernel_rfl)
theorem args_next (a:Wb):argsOk "set_iterator.__next__" ⟨[a],[]⟩:=by unfold argsOk;kernel_rfl
theorem Ib:Slot "set_iterator" "__iter__" "set_iterator.__iter__":=.of (owner:="set_iterator") (n:="__iter__") (by rw[typeLookup_type,builtinLookup_eq_fast];kernel_rfl) (by decide +kernel) (by decide +kernel) (by decide +kernel) (by first | exact .inl (by decide +kernel) | exact .inr (by decide +kernel)) (by rw[isSubtype_type];kernel_rfl)
theorem Zh:entryFor table "set_iterator.__iter__" = some Builtin.«dict_keyiterator.__iter__»:=entryFor_alias (id':="dict_keyiterator.__iter__") (by kernel_rfl) rfl (by decide +kernel) (by kernel_rfl)
theorem Zi (a:Wb):argsOk "set_iterator.__iter__" ⟨[a],[]⟩:=by unfold argsOk;kernel_rfl
theorem Zj:entryFor table "set.__iter__" = some Builtin.«frozenset.__iter__»:=entryFor_alias (id':="frozenset.__iter__") (by kernel_rfl) rfl (by decide +kernel) (by kernel_rfl)
end F
abbrev byText (w:Ws):Bool:=w.params.followText "set-order"
abbrev nO (first:Wb)(i n ep:Nat)(a:We):Obj:={ cls:=.type "set_iterator",data:=.fields #[first,.int i 0,.ref a,.int n 0,.int ep 0] }
inductive At (w:Ws) (h:Heap) (it a:We) (es:Array (Int×Wb)) (ep:Nat) (t:SetTable):Tr->Tq->Nat->Prop where
 | drawn (tp:We) (ps:Tt) (i:Nat):(tp≠it)->h.get? it=some (nO (.ref tp) i es.size ep a)->h.IsTuple tp (ps.map λ(p:Nat)=>Oo (p:Int) 0).toArray->ps.Perm (Yj es.size)->At w h it a es ep t [tp] (ps.map λp=>(es.getD p (0,.none)).2) i
 | text (slot i:Nat):byText w=true->h.get? it=some (nO (.int slot 0) i es.size ep a)->At w h it a es ep t [] ((pickOrder (w.params.setOrder a ep) es).toList.map (·.2)) i
 | one (slot i:Nat):byText w=false->t.led=true->(t.plain=true\/es.size<=1)->h.get? it=some (nO (.int slot 0) i es.size ep a)->(slot=if i=0 then 0 else t.place.getD (i-1) 0+1)->At w h it a es ep t [] (es.toList.map (·.2)) i
section
variable {prog:Wo}{w:Ws}{A:Wv}{E:Ti}{s:Wd}{a it:We}{es:Array (Int×Wb)}{ep:Nat}{t:SetTable}
theorem oY {Q:(Array (Int×Wb)×Nat×SetTable)->Wd->Prop}(r:Rec w s.heap a es ep t)(h:Q (es,ep,t) s):Wj (Wm prog w) A (setState a) Q E s:=by
 obtain⟨o,e,_,d⟩:=r.obj;exact wpAny_setState_of e d r.fits h
theorem za {slot i n:Nat}{P:PySem.Fin->Wd->Prop}{F:Ti}(r:Rec w s.heap a es ep t)(ho:s.heap.get? it=some (nO (.int slot 0) i es.size ep a))
  (h:Wj (Wm prog w) A (setNext a slot i ep >>= λm=>match m with
     | some (x,next)=>setField (.ref it) 0 (rawInt next) >>= λ_=>setField (.ref it) 1 (rawInt ((i:Int)+1)) >>= λ_=>ret x
     | none=>setField (.ref it) 2 .none >>= λ_=>newExc (.type "StopIteration") [] >>= λe=>raiseNew e) P F s) :
  Wj (Wm prog w) A (Builtin.«set_iterator.__next__» ⟨[.ref it],[]⟩) P F s:=by
 unfold Builtin.«set_iterator.__next__» slotArgs;simp only[List.isEmpty_nil,YQ,XF,if_false,OJ,bne_self_eq_false];refine Wa (Wc (Wa (wpAny_fieldsOf ho rfl ?_)));dsimp only;unfold setEntries;refine Wa (Wa (oY r (Wc ?_)));simp only[bne_self_eq_false,XF,if_false,Yx];exact h
theorem Ie {tp i n:Nat}{items:Array Wb}{P:PySem.Fin->Wd->Prop}{F:Ti}(r:Rec w s.heap a es ep t)(ho:s.heap.get? it=some (nO (.ref tp) i es.size ep a))(ht:s.heap.IsTuple tp items)
  (h:Wj (Wm prog w) A (match items[i]? with
      | some (.int place _)=>setNextDrawn a place.toNat ep >>= λx=>setField (.ref it) 1 (rawInt ((i:Int)+1)) >>= λ_=>ret x
      | some _=>unsupported "internal:set_iterator"
      | none=>setField (.ref it) 0 (rawInt 0) >>= λ_=>setField (.ref it) 2 .none >>= λ_=>newExc (.type "StopIteration") [] >>= λe=>raiseNew e) P F s) :
  Wj (Wm prog w) A (Builtin.«set_iterator.__next__» ⟨[.ref it],[]⟩) P F s:=by
 unfold Builtin.«set_iterator.__next__» slotArgs;simp only[List.isEmpty_nil,YQ,XF,if_false,OJ,bne_self_eq_false];refine Wa (Wc (Wa (wpAny_fieldsOf ho rfl ?_)));dsimp only;unfold setEntries;refine Wa (Wa (oY r (Wc ?_)));simp only[bne_self_eq_false,XF,if_false,Yx];obtain⟨o,ho',_,n',hd⟩:=ht;exact Wa (Va ho' hd h)
theorem Ig {i:Nat}{slot:Nat}{Q:Option (Wb×Nat)->Wd->Prop}(r:Rec w s.heap a es ep t)(hb:byText w=true)
  (h:Q (((pickOrder (w.params.setOrder a ep) es)[i]?).map λe=>(e.2,slot)) s):Wj (Wm prog w) A (setNext a slot i ep) Q E s:=by
 have hb':w.params.followText "set-order" = true:=hb;unfold setNext setsByText;refine Wa (oY r ?_);refine Wa (Wa (WY (Wc ?_)));simp only[Wm,hb',if_true,bne_self_eq_false,XF,if_false];unfold setWalk setsByText;refine Wa (Wa (oY r ?_));refine Wa (Wa (WY (Wc ?_)));simp only[Wm,hb',if_true];exact Wa (WY (Wc (Wc h)))
theorem Ih {i:Nat}{slot:Nat}{Q:Option (Wb×Nat)->Wd->Prop}(r:Rec w s.heap a es ep t)(hb:byText w=false)(hl:t.led=true)(h1:t.plain=true\/es.size<=1)
  (h:Q (match es[Yy t.place slot]?,t.place[Yy t.place slot]? with | some (_,x),some j=>some (x,j+1) | _,_=>none) s):Wj (Wm prog w) A (setNext a slot i ep) Q E s:=by
 have hb':w.params.followText "set-order" = false:=hb;unfold setNext setsByText;refine Wa (oY r ?_);refine Wa (Wa (WY (Wc ?_)));simp only[Wm,hb',XF,if_false];have hd:(!t.plain&&decide (es.size > 1))=false:=by
  rcases h1 with z | z
  ·rw[z];rfl
  ·rw[Qc (by lia),Bool.and_false]
 have hm:(!t.led&&!es.isEmpty)=false:=by rw[hl];rfl
 show Wj (Wm prog w) A (if (!t.plain&&decide (es.size > 1))=true then _ else((if (!t.led&&!es.isEmpty)=true then unsupported "set:maker-not-led" else pure ()) >>= λ_=>pure _)) Q E s
 rw[hd,hm];exact Wa (Wc (Wc h))
theorem Zk {p:Nat}{x:Wb}{hx:Int}(r:Rec w s.heap a es ep t)(hp:es[p]? = some (hx,x))(h:Q x s):Wj (Wm prog w) A (setNextDrawn a p ep) Q E s:=by
 unfold setNextDrawn;refine Wa (oY r ?_);simp only[bne_self_eq_false,XF,if_false,hp];exact Wc h
theorem Ii (hh:A.handled=none){R:Tv->Wd->Prop}(hR:∀h',(∀b o,s.heap.get? b=some o->h'.get? b=some o)->R none { s with heap:=h' }) :
  Wj (Wm prog w) A.in1 (newExc (.type "StopIteration") [] >>= λe=>(raiseNew e:Sem PySem.Fin)) (λ_ _=>False)
   (λe s'=>Wj (Wm prog w) A (isInstance e (.type "StopIteration") >>= λb=>if b=true then pure none else throw e) R E s') s:=by
 refine Wa ?_;simp only[newExc,newTuple];refine Wa (W7 (Wa (m:=firstArgMember _ _) (wpAny_of_eq (a:=Value.none) (by first | rfl | (simp only[firstArgMember];rfl)) (W7 ?_ (by size_fits)))) (by size_fits))
 simp only[raiseNew];refine Wa (wpAny_handled ?_);rw[show A.in1.handled=none from hh];refine Wa (Wc (wpAny_throw ?_));refine Wa (Vf (T:="StopIteration") (b:=true) ⟨_,XA _ rfl,rfl⟩ isSubtype_stop ?_);exact Wc (hR _ λb o e=>Xn _ (Xn _ e))
theorem vM {first:Wb}{i n:Nat}{Q:Tv->Wd->Prop}(ho:s.heap.get? it=some (nO first i n ep a))
  (h:Wj (Wm prog w) A.in1 (Builtin.«set_iterator.__next__» ⟨[.ref it],[]⟩) (λfin s'=>∃u,fin=.done (.ret u)/\Q (some u) s')
   (λe s'=>Wj (Wm prog w) A (isInstance e (.type "StopIteration") >>= λb=>if b=true then pure none else throw e) Q E s') s):Wj (Wm prog w) A (Vo (.ref it)) Q E s:=by
 have hT:s.TypeIs (.ref it) "set_iterator":=⟨_,ho,rfl⟩;unfold Vo;refine Wa (wpAny_attempt (wpAny_callSpecial?_slot (name:=Str.ofString "__next__") hT F.slot_next (WN F.slot_next hT F.entry_next ?_ (F.args_next _))));exact W8 h (λfin s' ⟨u,e,q⟩=>⟨u,e,Wc q⟩) λ_ _ z=>z
theorem next_item {tq:Tr}{order:Tq}{i:Nat}{v:Wb}{Q:Tv->Wd->Prop}(r:Rec w s.heap a es ep t)(x:At w s.heap it a es ep t tq order i)(hv:order[i]? = some v)
  (hQ:∀h',At w h' it a es ep t tq order (i+1)->Ys it s.heap h'->Q (some v) { s with heap:=h' }):Wj (Wm prog w) A (Vo (.ref it)) Q E s:=by
 have hc:((i:Int)+1)=((i+1:Nat):Int):=by lia
 cases x with
 | drawn tp ps _ hne ho ht hp=>
  refine vM ho (Ie (n:=0) r ho ht ?_);rw[Xe]at hv;cases hpi:ps[i]? with
  | none=>rw[hpi]at hv;cases hv
  | some p=>
   rw[hpi]at hv;have hlt:p<es.size:=List.mem_range.mp (hp.mem_iff.mp (Xl hpi));have e1:(ps.map λ(p:Nat)=>Oo (p:Int) 0).toArray[i]? = some (Oo (p:Int) 0):=by simp[hpi]
   rw[e1];dsimp only;have e2:es[p]? = some (es[p].1,es[p].2):=by simp[hlt]
   have e3:v=es[p].2:=by
    have q:=Qa hv;rw[<- q];simp[O1,hlt]
   rw[Yx];refine Wa (Zk r e2 (Wa (WV ho rfl (by show 1<5;decide) (Wc ⟨_,rfl,?_⟩))));rw[<- e3];refine hQ _ (.drawn tp ps (i+1) hne ?_ ?_ hp) (Ys.update ..)
   ·rw[hc];exact Yh _ ho rfl
   ·obtain⟨o,q,c⟩:=ht;exact⟨o,(Yf _ _ (Qz hne)).trans q,c⟩
 | text slot _ hb ho=>
  refine vM ho (za (n:=0) r ho (Wa (Ig r hb ?_)));rw[Xe]at hv;cases hpi:(pickOrder (w.params.setOrder a ep) es).toList[i]? with
  | none=>rw[hpi]at hv;cases hv
  | some p=>
   rw[hpi]at hv;have e1:(pickOrder (w.params.setOrder a ep) es)[i]? = some p:=by rw[<- XT];exact hpi
   have e3:p.2=v:=Qa hv;rw[e1];dsimp only[Option.map];rw[e3];have ho1:(s.heap.update it (Obj.mapFields (·.setIfInBounds 0 (rawInt slot)))).get? it=some (nO (.int slot 0) i es.size ep a):=Yh _ ho rfl;refine Wa (WV ho rfl (by show 0<5;decide) (Wa (WV ho1 rfl (by show 1<5;decide) (Wc ⟨_,rfl,?_⟩))));refine hQ _ (.text slot (i+1) hb ?_) ((Ys.update ..).trans (Ys.update ..));rw[hc];exact Yh _ ho1 rfl
 | one slot _ hb hl h1 ho h0=>
  refine vM ho (za (n:=0) r ho (Wa (Ih r hb hl h1 ?_)));have hi:i<es.size:=by
   have q:=(Xf.mp hv).1;simpa using q
  have hps:t.place.size=es.size:=by
   have q:=r.fits;simp only[SetTable.fits,YE,beq_iff_eq]at q;exact q.1
  have e0:Yy t.place slot=i:=by rw[h0];exact below_at r.asc (by lia)
  have e1:es[i]? = some (es[i].1,es[i].2):=by simp[hi]
  have e3:es[i].2=v:=by
   rw[Xe]at hv;have q:es.toList[i]? = some es[i]:=by simp[hi]
   rw[q]at hv;exact Qa hv
  have qR:i<t.place.size:=by lia
  obtain⟨pl,hpl⟩:∃pl,t.place[i]? = some pl:=⟨t.place[i],getElem?_pos t.place i qR⟩;have hpd:t.place.getD i 0=pl:=by
   rw[getElem?_pos t.place i qR]at hpl;simp only[O1,qR,dif_pos];exact Qa hpl
  rw[e0,e1,hpl];dsimp only;rw[e3];have ho1:(s.heap.update it (Obj.mapFields (·.setIfInBounds 0 (rawInt ((pl+1:Nat):Int))))).get? it=some (nO (.int ((pl+1:Nat):Int) 0) i es.size ep a):=Yh _ ho rfl;refine Wa (WV ho rfl (by show 0<5;decide) (Wa (WV ho1 rfl (by show 1<5;decide) (Wc ⟨_,rfl,?_⟩))));refine hQ _ (.one (pl+1) (i+1) hb hl h1 ?_ (by rw[Qe (by lia),O2,hpd])) ((Ys.update ..).trans (Ys.update ..));rw[hc];exact Yh _ ho1 rfl
theorem Zm {tq:Tr}{order:Tq}{Q:Tv->Wd->Prop}(hh:A.handled=none)(r:Rec w s.heap a es ep t)(x:At w s.heap it a es ep t tq order es.size)
  (hQ:∀h',(∀b o,b≠it->s.heap.get? b=some o->h'.get? b=some o)->Q none { s with heap:=h' }):Wj (Wm prog w) A (Vo (.ref it)) Q E s:=by
 have up:∀(k:Nat) (y:Wb) (h:Heap) (b:We) (o:Obj),b≠it->h.get? b=some o->(h.update it (Obj.mapFields (·.setIfInBounds k y))).get? b=some o:=λk y h b o hb e=>(Yf _ _ (Qz hb)).trans e;have two:∀(slot i:Nat),s.heap.get? it=some (nO (.int slot 0) i es.size ep a)->Wj (Wm prog w) A.in1 (setField (.ref it) 2 .none >>= λ_=>newExc (.type "StopIteration") [] >>= λe=>(raiseNew e:Sem PySem.Fin))
   (λfin s'=>∃u,fin=.done (.ret u)/\Q (some u) s') (λe s'=>Wj (Wm prog w) A (isInstance e (.type "StopIteration") >>= λb=>if b=true then pure none else throw e) Q E s') s:=λslot i ho=>by
  refine Wa (WV ho rfl (by show 2<5;decide) ?_);exact W8 (Ii (E:=E) (R:=Q) hh λh' k=>hQ h' λb o hb e=>k b o (up _ _ _ b o hb e)) (λ_ _ z=>z.elim) λ_ _ z=>z
 cases x with
 | drawn tp ps _ hne ho ht hp=>
  refine vM ho (Ie (n:=0) r ho ht ?_);have e1:(ps.map λ(p:Nat)=>Oo (p:Int) 0).toArray[es.size]? = none:=by
   have q:=hp.length_eq;rw[Og]at q;simp[q]
  rw[e1];dsimp only;have ho1:(s.heap.update it (Obj.mapFields (·.setIfInBounds 0 (rawInt 0)))).get? it=some (nO (.int ((0:Nat):Int) 0) es.size es.size ep a):=Yh _ ho rfl;refine Wa (WV ho rfl (by show 0<5;decide) (Wa (WV ho1 rfl (by show 2<5;decide) ?_)));exact W8 (Ii (E:=E) (R:=Q) hh λh' k=>hQ h' λb o hb e=>k b o (up _ _ _ b o hb (up _ _ _ b o hb e))) (λ_ _ z=>z.elim) λ_ _ z=>z
 | text slot _ hb ho=>
  refine vM ho (za (n:=0) r ho (Wa (Ig r hb ?_)));have q:=(HY (w.params.setOrder a ep) es).length_eq;have e1:(pickOrder (w.params.setOrder a ep) es)[es.size]? = none:=by
   simp only[XB]at q;simp[q]
  rw[e1];dsimp only[Option.map];exact two slot _ ho
 | one slot _ hb hl h1 ho h0=>
  refine vM ho (za (n:=0) r ho (Wa (Ih r hb hl h1 ?_)));have hps:t.place.size=es.size:=by
   have q:=r.fits;simp only[SetTable.fits,YE,beq_iff_eq]at q;exact q.1
  have e0:es[Yy t.place slot]? = none:=by
   rw[h0,below_at r.asc (by lia)];simp
  rw[e0];dsimp only;exact two slot _ ho
theorem Zn {Q:Bool->Wd->Prop}(r:Rec w s.heap a es ep t)(h:Q (!byText w&&(!t.plain&&decide (es.size > 1))) s):Wj (Wm prog w) A (setDrawn a) Q E s:=by
 unfold setDrawn setsByText;refine Wa (oY r ?_);exact Wa (Wa (WY (Wc (Wc h))))
theorem At.keep (x:At w h it a es ep t tq order i)(k:∀b∈it::tq,∀o,h.get? b=some o->h'.get? b=some o):At w h' it a es ep t tq order i:=by
 cases x with
 | drawn tp ps _ hne ho ht hp=>
  obtain⟨o,q,c⟩:=ht;exact .drawn tp ps i hne (k it (by simp) _ ho) ⟨o,k tp (by simp) o q,c⟩ hp
 | text slot _ hb ho=>exact .text slot i hb (k it (by simp) _ ho)
 | one slot _ hb hl h1 ho h0=>exact .one slot i hb hl h1 (k it (by simp) _ ho) h0
theorem At.len (x:At w h it a es ep t tq order i):order.Perm (es.toList.map (·.2)):=by
 cases x with
 | drawn tp ps _ hne ho ht hp=>
  have e:(Yj es.size).map (λp=>(es.getD p (0,Value.none)).2)=es.toList.map (·.2):=by
   apply List.ext_getElem
   ·simp
   ·intro j h1 h2;simp at h1;simp[O1,h1]
  rw[<- e];exact hp.map _
 | text slot _ hb ho=>exact(HY _ _).map _
 | one slot _ hb hl h1 ho h0=>exact YG.refl _
theorem Zo {Q:Ti}(r:Rec w s.heap a es ep t)
  (h:∀(h':Heap) (d:Drawn) (it:We) (tq:Tr) (order:Tq),(∀b o,s.heap.get? b=some o->h'.get? b=some o)->s.heap.objs.size<=it->(∀b∈it::tq,s.heap.objs.size<=b/\b<h'.objs.size)->At w h' it a es ep t tq order 0->
   Q (.ref it) { s with heap:=h',drawn:=d }):Wj (Wm prog w) A (pyIter (.ref a)) Q E s:=by
 refine wpAny_pyIter_slot r.type PySem.F.slot_set_iter (WN PySem.F.slot_set_iter r.type F.Zj ?_ (PySem.F.args_set_iter_1 _));unfold Builtin.«frozenset.__iter__» Builtin.Frozenset.slot0 slotArgs;simp only[List.isEmpty_nil,YQ,XF,if_false,OJ,bne_self_eq_false,bind_assoc];unfold Builtin.Frozenset.addrOf Builtin.Frozenset.sizeOf setEntries setEpoch;refine Wa (Wc ?_);dsimp only;refine Wa (Wc ?_);simp only[bind_assoc];refine Wa (oY r (Wa (Wc (Wa (Wc (Wa (Zn r ?_)))))));cases hd:(!byText w&&(!t.plain&&decide (es.size > 1)))with
 | true=>
  simp only[YE,Bool.not_eq_true',decide_eq_true_eq]at hd;simp only[if_true,bind_assoc];refine Wa (HW es.size (Yj es.size) _ _ (by simp) λps d hp=>?_);refine Wa (wpAny_newTuple ?_ (by rw[Xb,hp.length_eq,Og];exact fits_of_scanBound r.sz));dsimp only;have hz:(s.heap.push { cls:=.type "tuple",data:=.seq (ps.map λ(i:Nat)=>rawInt (i:Int)).toArray }).objs.size=s.heap.objs.size+1:=QT ..;have r1:Rec w (s.heap.push { cls:=.type "tuple",data:=.seq (ps.map λ(i:Nat)=>rawInt (i:Int)).toArray }) a es ep t:=r.keep λo e=>Xn _ e;refine Wa (oY (s:={ s with heap:=s.heap.push { cls:=.type "tuple",data:=.seq (ps.map λ(i:Nat)=>rawInt (i:Int)).toArray },drawn:=d }) r1 (Wa (Wc (Wa (W7 (Wc ?_))))));refine⟨_,rfl,"set_iterator",_,⟨_,XA _ rfl,rfl⟩,F.slot_next.lookup,?_⟩;refine h _ d _ [s.heap.objs.size] _ (λb o e=>Xn _ (Xn _ e)) (by rw[hz];exact QX _) (λb hb=>?_)
   (.drawn s.heap.objs.size ps 0 (by rw[hz];exact XM (QR _)) (XA _ rfl) ⟨_,Xn _ (XA _ rfl),rfl,_,rfl⟩ hp)
  rw[QT,hz];rcases Xx.mp hb with e | hb
  ·rw[hz]at e;rw[e];exact⟨QX _,QR _⟩
  ·have e:=Xh.mp hb;rw[e];exact⟨Xj _,YR (QR _)⟩
 | false=>
  simp only[XF,if_false];refine Wa (Wc (Wa (oY r (Wa (Wc (Wa (W7 (Wc ?_))))))));refine⟨_,rfl,"set_iterator",_,⟨_,XA _ rfl,rfl⟩,F.slot_next.lookup,?_⟩;have fin:∀order,At w (s.heap.push (nO (.int ((0:Nat):Int) 0) 0 es.size ep a)) s.heap.objs.size a es ep t [] order 0->Q (.ref s.heap.objs.size) { s with heap:=s.heap.push (nO (.int ((0:Nat):Int) 0) 0 es.size ep a) }:=λorder x=>
   h _ s.drawn _ [] order (λb o e=>Xn _ e) (Xj _) (λb hb=>by
    have e:b=s.heap.objs.size:=by simpa using hb
    subst e;rw[QT];exact⟨Xj _,QR _⟩) x
  cases hb:byText w with
  | true=>exact fin _ (.text 0 0 hb (XA _ rfl))
  | false=>
   rw[hb]at hd;have hl:t.led=true:=by
    rcases r.led with z | z
    ·exact z
    ·have z':byText w=true:=z;rw[hb]at z';cases z'
   have h1:t.plain=true\/es.size<=1:=by
    cases hp:t.plain with
    | true=>exact .inl rfl
    | false=>
     rw[hp]at hd;simp only[Bool.not_false,Bool.true_and,decide_eq_false_iff_not]at hd;exact .inr (by lia)
   exact fin _ (.one 0 0 hb hl h1 (XA _ rfl) rfl)
theorem walks (hh:A.handled=none)(hta:a∉it::tq)(h0:order.length=es.size) :
  WalksS prog w A it (it::a::tq) [it] (λx y=>y=x) es.size (λi v=>order[i]? = some v) (λi s=>Rec w s.heap a es ep t/\At w s.heap it a es ep t tq order i) where
 sub:=λb hb=>by
  have e:b=it:=by simpa using hb
  subst e;exact Xg
 grefl:=λ_=>rfl
 gtrans:=λ_ _ _ h1 h2=>h2.trans h1
 frame:=λi s h' tk st _ k=>⟨st.1.keep λo e=>k a (by simp) o e,st.2.keep λb hb o e=>k b (by
  rcases Xx.mp hb with z | z
  ·subst z;exact Xg
  ·exact Xi _ (Xi _ z)) o e⟩
 item:=λi s Q E hi st hQ=>by
  have hv:order[i]? = some (order[i]'(by lia)):=by simp
  refine next_item st.1 st.2 hv λh' x sb=>?_;have ne:a≠it:=λz=>hta (by rw[z];exact Xg);exact hQ _ _ hv ⟨st.1.keep λo e=>(sb.2 a ne).trans e,x⟩ ⟨λb o hb e=>(sb.2 b (λz=>hb (by simp[z]))).trans e,rfl,rfl,rfl,Xj _⟩
 done:=λs Q E st hQ=>Zm hh st.1 st.2 λh' k=>hQ _ ⟨λb o hb e=>k b o (λz=>hb (by simp[z])) e,rfl,rfl,rfl,Xj _⟩
 self:=λi s Q E st hQ=>by
  have hT:s.TypeIs (.ref it) "set_iterator":=by
   rcases st.2 with ⟨tp,ps,_,_,ho,_⟩ | ⟨slot,_,_,ho⟩ | ⟨slot,_,_,_,_,ho,_⟩
   ·exact⟨_,ho,rfl⟩
   ·exact⟨_,ho,rfl⟩
   ·exact⟨_,ho,rfl⟩
  refine wpAny_pyIter_slot hT F.Ib (WN F.Ib hT F.Zh ?_ (F.Zi _));show Wj _ _ (ret (.ref it)) _ _ s;exact Wc ⟨_,rfl,"set_iterator",_,hT,F.slot_next.lookup,hQ⟩
theorem Zq {Q:Tq->Wd->Prop}(hh:A.handled=none)(r:Rec w s.heap a es ep t)
  (h:∀(h':Heap) (d:Drawn) (tk:Nat) (order:Tq),order.Perm (es.toList.map (·.2))->(∀b o,s.heap.get? b=some o->h'.get? b=some o)->Q order { s with heap:=h',drawn:=d,toks:=tk }):Wj (Wm prog w) A (collect (.ref a)) Q E s:=by
 unfold collect;refine Wa (wpAny_runValue (WI PySem.F.entry_proto_collect ?_));rw[Qy PySem.F.plain_proto_collect _];show Wj _ A.in1 (newList [] >>= λl=>again (.builtin "list.__iadd__" ⟨[l,.ref a],[]⟩)) _ _ s;refine Wa (wpAny_newList (Wc ⟨WO PySem.F.plain_list_iadd _,WI PySem.F.entry_list_iadd ?_⟩));rw[Qy PySem.F.plain_list_iadd _];have hS0:(s.heap.push { cls:=.type "list",data:=.seq ([]:Tq).toArray }).get? s.heap.objs.size=some { cls:=.type "list",data:=.seq ([]:Tq).toArray }:=XA _ rfl;have hz0:(s.heap.push { cls:=.type "list",data:=.seq ([]:Tq).toArray }).objs.size=s.heap.objs.size+1:=QT ..;have r0:Rec w (s.heap.push { cls:=.type "list",data:=.seq ([]:Tq).toArray }) a es ep t:=r.keep λo e=>Xn _ e;have haS:a<s.heap.objs.size:=by obtain⟨o,e,_⟩:=r.obj;exact XC e
 show Wj _ A.in1 (P0 (.ref s.heap.objs.size) (.ref a) (.ref s.heap.objs.size)) _ _ { s with heap:=s.heap.push { cls:=.type "list",data:=.seq ([]:Tq).toArray } };unfold P0;refine Wa (wpAny_typeOf (T:="set") r0.type ?_);have h1:Builtin.List.listSameRef (.ref s.heap.objs.size) (.ref a)=false:=by simp[Builtin.List.listSameRef,Nat.ne_of_gt haS]
 have h2:(QD "set" == QD "list")=false:=by decide
 have h3:(QD "set" == QD "tuple")=false:=by decide
 simp only[h1,h2,h3,Bool.or_false,XF,if_false];refine Wa (Zo (s:={ s with heap:=s.heap.push { cls:=.type "list",data:=.seq ([]:Tq).toArray } }) r0 λh' d it tq order kp hit hfp x=>?_);have rT:Shared.TypeIs { s with heap:=h',drawn:=d } (.ref a) "set":=(r0.keep λo e=>kp a o e).type;have room:∀ {Q':Bool->Wd->Prop} {A':Wv} {E':Ti},Q' false { s with heap:=h',drawn:=d }->Wj (Wm prog w) A' (Builtin.List.listLengthHint (.ref a)) Q' E' { s with heap:=h',drawn:=d }:=λ{Q' A' E'} hq=>by
  unfold Builtin.List.listLengthHint;refine Wa (Vi rT PySem.F.slot_set_len.lookup ?_);generalize hid:("set.__len__" : String)=id0;wp_delta;rw[show splitId id0=some ("set","__len__") from by subst hid;decide +kernel];subst hid;refine Wa (Vf (T:="set") (b:=true) rT (by rw[isSubtype_type];kernel_rfl) ?_);refine wpAny_ite_split (λhab=>Qg hab (by decide)) (λ_=>wpAny_ite_split (λ_=>?_) (λhab=>Qg (by decide +kernel) hab));exact Wa (wpAny_typeOf rT (Wc hq))
 refine Wa (Wy (room ?_));show Wj _ A.in1 (rule "list.extend.makes-room" >>= λ_=>Builtin.List.listTouch (.ref s.heap.objs.size) >>= λ_=>again (.builtin "list.extend.loop" ⟨[.ref s.heap.objs.size,.ref it,.ref s.heap.objs.size],[]⟩)) _ _ { s with heap:=h',drawn:=d };refine Wa (WK ?_);have hS1:h'.get? s.heap.objs.size=some { cls:=.type "list",data:=.seq ([]:Tq).toArray }:=kp _ _ hS0;refine Wa ?_;show Wj _ A.in1 (updateSeq s.heap.objs.size (·.push .none) >>= λ_=>updateSeq s.heap.objs.size (·.pop)) _ _ { s with heap:=h',drawn:=d };refine Wa (Vj hS1 rfl ?_);have hS2:=Yh (QF (·.push Value.none)) hS1 rfl;refine Vj hS2 rfl ?_;have hS3:=Yh (QF (·.pop)) hS2 rfl;have oth:∀b o,b≠s.heap.objs.size->h'.get? b=some o->((h'.update s.heap.objs.size (QF (·.push Value.none))).update s.heap.objs.size (QF (·.pop))).get? b=some o:=
  λb o hb e=>(Yf _ _ (Qz hb)).trans ((Yf _ _ (Qz hb)).trans e)
 have hlow:∀b∈it::tq,s.heap.objs.size<b:=λb hb=>by
  have q:=(hfp b hb).1;dsimp only at q;rw[hz0]at q;exact q
 have hta:a∉it::tq:=λz=>Nat.lt_asymm haS (hlow a z);have hSf:s.heap.objs.size∉it::a::tq:=λz=>by
  rcases Xx.mp z with e | z
  ·exact Qg (hlow it Xg) (by rw[<- e];exact YI _)
  ·rcases Xx.mp z with e | z
   ·exact Qg haS (by rw[<- e];exact YI _)
   ·exact Qg (hlow _ (Xi _ z)) (YI _)
 have W:=walks (prog:=prog) (w:=w) (A:=A.in1) (it:=it) (a:=a) (es:=es) (ep:=ep) (t:=t) (tq:=tq) (order:=order) (by simpa using hh) hta (by rw[x.len.length_eq];simp);refine Wc ⟨WO PySem.F.plain_extend_loop _,codeAny_extend_loopS W (fits_of_scanBound r.sz) _ hSf _ es.size 0 _ _ _ rfl (Ye _) ⟨(r0.keep λo e=>kp a o e).keep λo e=>oth a o (XM haS) e,x.keep λb hb o e=>oth b o (Nat.ne_of_gt (hlow b hb)) e⟩ hS3 (ItemsOf.nil _) λs' acc' c' hm hS' hacc=>?_⟩;show Wj _ A (load s.heap.objs.size >>= _) _ _ s';refine Wa (wpAny_load hS' (Wc ?_));have eacc:acc'.toList=order:=by
  apply List.ext_getElem?;intro j;by_cases hj:j<es.size
  ·have q1:acc'[j]? = some (acc'[j]'(by rw[hacc.1];exact hj)):=by simp[hacc.1,hj]
   have q2:=hacc.2 j _ q1;rw[q2,<- q1];simp
  ·have q1:acc'.toList[j]? = none:=by simp[hacc.1];lia
   have q3:order.length=es.size:=by rw[x.len.length_eq];simp
   have q2:order[j]? = none:=by simp[q3];lia
   rw[q1,q2]
 rw[eacc];obtain⟨h2',g2,d2,t2,o2⟩:=s';have e1:g2=s.gens:=hm.gens;have e2:d2=d:=hm.drawn;have e3:o2=s.os:=hm.os;subst e1 e2 e3;refine h h2' d2 t2 order x.len λb o e=>?_;have hb:b<s.heap.objs.size:=XC e;refine hm.heap b o (λz=>?_) (oth b o (XM hb) (kp b o (Xn _ e)));rcases Xx.mp z with q | q
 ·exact XM hb q
 ·have q':b=it:=by simpa using q
  exact Qg (hlow it Xg) (by rw[<- q'];exact Nat.lt_asymm hb)
end
open PySem PySem.Spec PyProof.Rows
def zb:Wb->Str
 | .str x _=>x
 | _=>Str.empty
theorem Ij {hs:Array Int}{o:Array Nat}(h:t.relaid hs n=some (t',o)):t'.led=t.led/\t'.plain=t.plain:=by
 unfold SetTable.relaid SetTable.laid at h;cases e:SetTable.layClean (SetTable.sizeAbove n-1) hs with
 | none=>rw[e]at h;cases h
 | some ow=>
  rw[e]at h;have q:=Qa h;rw[<- (Prod.mk.inj q).1];exact⟨rfl,rfl⟩
theorem Zr (t:SetTable)(es:Array (Int×Wb))(h:Int)(x:Wb):(layNew t es h x).2.1.led=t.led/\(t.plain=false->(layNew t es h x).2.1.plain=false):=by
 unfold layNew;cases e:t.freeSlot h with
 | none=>exact⟨rfl,λ_=>rfl⟩
 | some p=>
  obtain⟨slot,dm⟩:=p;dsimp only;unfold SetTable.orStandIn;split
  ·exact⟨rfl,λz=>z⟩
  ·exact⟨rfl,λ_=>rfl⟩
theorem Zt (t:SetTable)(es:Array (Int×Wb))(n:Nat):(Vm t es n).2.1.led=t.led/\(t.plain=false->(Vm t es n).2.1.plain=false):=by
 unfold Vm;cases e:t.relaid (es.map (·.1)) n with
 | none=>exact⟨rfl,λ_=>rfl⟩
 | some p=>
  obtain⟨t',o⟩:=p;dsimp only;split
  ·exact⟨(Ij e).1,λz=>(Ij e).2.trans z⟩
  ·exact⟨rfl,λ_=>rfl⟩
theorem Zu (ha:jP xs){j:Nat}(hn:¬ (xs[Yy xs j]? == some j)=true):jP (SetTable.insertAt xs (Yy xs j) j):=by
 obtain⟨h1,h2,h3⟩:=Ia ha j;generalize Yy xs j=r at h1 h2 h3 hn;have hnot:∀i,r<=i->i<xs.size->j<xs.getD i 0:=λi g1 g2=>by
  have q:=h3 r (Xj _) (by lia);have q2:xs.getD r 0≠j:=λe=>by
   have hr:r<xs.size:=by lia
   have e2:xs[r]=j:=by simpa[O1,hr]using e
   exact hn (by rw[getElem?_pos xs r hr,e2];simp)
  rcases Nf r i with z | z
  ·have:=ha.lt z g2;lia
  ·have:i=r:=by lia
   subst this;lia
 have hl:(SetTable.insertAt xs r j).toList=xs.toList.take r++[j]++xs.toList.drop r:=by
  unfold SetTable.insertAt;simp[Oj,QV,Xs]
 unfold jP;rw[hl,XU,XU];refine⟨⟨List.Pairwise.sublist (Oe _ _) ha,by simp,λa hm b hb=>?_⟩,List.Pairwise.sublist (List.drop_sublist _ _) ha,λa hm b hb=>?_⟩
 ·rw[Xh.mp hb];obtain⟨i,hi,rfl⟩:=List.mem_iff_getElem.mp hm;rw[XJ]at hi;rw[List.getElem_take];have q:=h2 i (by lia);simpa[O1,show i<xs.size by lia]using q
 ·obtain⟨i,hi,rfl⟩:=List.mem_iff_getElem.mp hb;rw[Px,XB]at hi;rw[List.getElem_drop];have q:=hnot (r+i) (by lia) (by lia);have q:j<xs.toList[r+i]'(by simp;lia):=by simpa[O1,show r+i<xs.size by lia]using q
  rcases Xr.mp hm with hm | hm
  ·obtain⟨k,hk,rfl⟩:=List.mem_iff_getElem.mp hm;rw[XJ]at hk;rw[List.getElem_take];have q2:=h2 k (by lia);have q2:xs.toList[k]'(by simp;lia)<j:=by simpa[O1,show k<xs.size by lia]using q2
   lia
  ·rw[Xh.mp hm];exact q
theorem Ik (t:SetTable)(hd:t.dummies = #[])(g:Nat->Int)(h:Int):∀(fuel:Nat)(p:SetTable.Probe)(j:Nat)(d:Option Nat),p.dummy=none->SetTable.probe.go t g h fuel p=some (.empty j d)->d=none/\t.slot j=.empty
 | 0,p,j,d,hp,e=>by unfold SetTable.probe.go at e;cases e
 | fuel+1,p,j,d,hp,e=>by
  have hadv:(t.advance p).dummy=none:=by unfold SetTable.advance;split<;>exact hp
  have hh:SetTable.has t.dummies p.j=false:=by rw[hd];unfold SetTable.has;simp
  have hno:t.slot p.j≠.dummy:=λz=>by
   unfold SetTable.slot at z;dsimp only at z;rw[hh]at z;simp only[XF,if_false]at z;split at z<;>cases z
  unfold SetTable.probe.go at e;cases hs:t.slot p.j with
  | empty=>rw[hs]at e;cases e;exact⟨hp,hs⟩
  | dummy=>exact Qg hs hno
  | live i=>
   rw[hs]at e;dsimp only at e;split at e
   ·cases e
   ·exact Ik t hd g h fuel _ j d hadv e
theorem Zv (ha:jP t.place)(hd:t.dummies = #[])(es:Array (Int×Wb))(h:Int)(x:Wb):jP (layNew t es h x).2.1.place/\(layNew t es h x).2.1.dummies = #[]:=by
 unfold layNew;cases e:t.freeSlot h with
 | none=>exact⟨yZ _,rfl⟩
 | some p=>
  obtain⟨slot,dm⟩:=p;dsimp only;unfold SetTable.orStandIn;split
  ·unfold SetTable.freeSlot at e;have hs:t.slot slot=.empty:=by
    cases hp:t.probe (λ_=>h+1) h (t.probeStart h)with
    | none=>rw[hp]at e;cases e
    | some m=>
     rw[hp]at e;cases m with
     | candidate j i n=>cases e
     | empty j d=>
      obtain⟨q1,q2⟩:=Ik t hd _ _ _ _ _ _ rfl hp;subst q1;cases e;exact q2
   unfold SetTable.put;dsimp only;have hnh:SetTable.has t.dummies slot=false:=by rw[hd];unfold SetTable.has;simp
   rw[hnh];refine⟨Zu ha λz=>?_,hd⟩;unfold SetTable.slot at hs;rw[Qf z]at hs;cases hs
  ·exact⟨yZ _,rfl⟩
theorem Zw {hs:Array Int}{o:Array Nat}(h:t.relaid hs n=some (t',o)):jP t'.place/\t'.dummies = #[]:=by
 unfold SetTable.relaid SetTable.laid at h;cases e:SetTable.layClean (SetTable.sizeAbove n-1) hs with
 | none=>rw[e]at h;cases h
 | some ow=>
  rw[e]at h;have q:=Qa h;rw[<- (Prod.mk.inj q).1];refine⟨?_,rfl⟩;unfold jP;dsimp only;rw[O8,List.pairwise_filterMap];refine List.pairwise_lt_range.imp λ{a b} hab p hp q hq=>?_;cases ha:ow.getD a none with
  | none=>rw[ha]at hp;cases hp
  | some x=>
   cases hb:ow.getD b none with
   | none=>rw[hb]at hq;cases hq
   | some y=>rw[ha]at hp;rw[hb]at hq;cases hp;cases hq;exact hab
theorem Zx (es:Array (Int×Wb))(n:Nat):jP (Vm t es n).2.1.place/\(Vm t es n).2.1.dummies = #[]:=by
 unfold Vm;cases e:t.relaid (es.map (·.1)) n with
 | none=>exact⟨yZ _,rfl⟩
 | some p=>
  obtain⟨t',o⟩:=p;dsimp only;split
  ·exact Zw e
  ·exact⟨yZ _,rfl⟩
def eU {α:Type} [DecidableEq α] {prog:Wo}{w:Ws}(knd:Nh prog w α)(of:Wb->α)(h:Heap)(a:We)(xs:List α):Prop:=
 ∃es ep t,Rec w h a es ep t/\ElemsOf knd es.toList/\(es.toList.map λe=>of e.2).Perm xs/\xs.Nodup
def bH {α:Type} [DecidableEq α] (xs:List α)(y:α):List α:=if y∈xs then xs else y::xs
abbrev Cy (prog:Wo)(w:Ws):Heap->We->Tn->Prop:=eU (PySem.strKind prog w) zb
section
variable {α:Type} [DecidableEq α] {prog:Wo}{w:Ws}{A:Wv}{E:Ti}{s:Wd}{a:We}{knd:Nh prog w α}{of:Wb->α}
theorem eU.keep {xs:List α}(S:eU knd of h a xs)(k:∀o,h.get? a=some o->h'.get? a=some o):eU knd of h' a xs:=
 let ⟨es,ep,t,r,q⟩:=S;⟨es,ep,t,r.keep k,q⟩
theorem Il {es':Array (Int×Wb)}(r:Rec w h a es ep t)(hf:t'.fits es'.size=true)(hl:t'.led=t.led)(hp:jP t'.place/\t'.dummies = #[])(hz:es'.size<W5) :
  Rec w (h.update a (Obj.putSet es' t')) a es' (ep+1) t':=by
 obtain⟨o,ho,hex,hd⟩:=r.obj;have hg:(h.update a (Obj.putSet es' t')).get? a=some { o with data:=.set es' (ep+1) t' }:=by
  have q:=Yh (Obj.putSet es' t') ho (by rw[putSet_of es' t' hd];rfl)
  rwa [putSet_of es' t' hd]at q
 exact⟨⟨_,hg,hex,rfl⟩,hf,by rw[hl];exact r.led,hp.1,hp.2,hz⟩
theorem Im {es':Array (Int×Wb)}{Q:Unit->Wd->Prop}(r:Rec w s.heap a es ep t)(hz:es'.size<W5)(h:Q () { s with heap:=s.heap.update a (Obj.putSet es' t') }):Wj (Wm prog w) A (storeSet a es' t') Q E s:=by
 obtain⟨o,ho,_,hd⟩:=r.obj;exact wpAny_storeSet_of ho hd h (fits_of_scanBound hz)
theorem Zy {es:List (Int×Wb)}{y:α}(hof:∀k v,knd.is k v=true->of v=k)(hel:ElemsOf knd es):(∃e∈es,knd.is y e.2=true)↔y∈es.map λe=>of e.2:=by
 constructor
 ·rintro⟨e,he,hi⟩;exact Xv.mpr ⟨e,he,hof _ _ hi⟩
 ·intro hm;obtain⟨e,he,q⟩:=Xv.mp hm;obtain⟨⟨k,hk,_⟩,_⟩:=hel e he;refine⟨e,he,?_⟩;rw[hof _ _ hk]at q;rw[<- q];exact hk
theorem Zz {xs:List α}{y:α}{x:Wb}{Q:Bool->Wd->Prop}(hof:∀k v,knd.is k v=true->of v=k)(hkey:knd.is y x=true)(hsc:x.scannable=true)(S:eU knd of s.heap a xs)(hroom:xs.length+1<W5)
  (h:∀h' b,Ys a s.heap h'->eU knd of h' a (bH xs y)->Q b { s with heap:=h' }):Wj (Wm prog w) A (setAddHashed a x (knd.hash y)) Q E s:=by
 obtain⟨es,ep,t,r,hel,hp,nd⟩:=S;obtain⟨o,ho,hex,hd⟩:=r.obj;have hsz:es.size=xs.length:=by rw[<- hp.length_eq];simp
 have hmem:(∃e∈es.toList,knd.is y e.2=true)↔y∈xs:=(Zy hof hel).trans hp.mem_iff;unfold setAddHashed;refine Wy ?_;show Wj _ _ (bind (setState a) _) _ _ s;refine Wa (oY r ?_);dsimp only;rw[byScan_of hsc r.sz hel];simp only[if_true];unfold setAddByScan;refine Wa (Wa (WK (Wa (wpAny_setScan_of (knd:=knd) hkey ho hd r.fits hel ?_))));cases hr:List.findIdx? (λe=>knd.is y e.2) es.toList with
 | some j=>
  obtain⟨hj,hpj,_⟩:=List.findIdx?_eq_some_iff_getElem.mp hr;have hy:y∈xs:=hmem.mp ⟨_,XY hj,hpj⟩;have q:=h s.heap false (Ys.refl a s.heap) (by unfold bH;rw[Qf hy];exact⟨es,ep,t,r,hel,hp,nd⟩);exact Wc (Wc q)
 | none=>
  have hy:y∉xs:=λz=>by
   obtain⟨e,he,hpe⟩:=hmem.mpr z;have q:=List.findIdx?_eq_none_iff.mp hr e he;rw[hpe]at q;cases q
  have hgw:∀(b:Bool) {s₁:Wd} {Q':Unit->Wd->Prop},Q' () s₁->Wj (Wm prog w) A (match b with | true=>rule "set.scan.the-table-gave-way" | false=>pure ()) Q' E s₁:=λb s₁ Q' hq=>by
   cases b
   ·exact Wc hq
   ·exact WK hq
  have p1:=layNew_perm t es (knd.hash y) x;have f1:=layNew_fits t es (knd.hash y) x;have l1:=Zr t es (knd.hash y) x;have g1:=Zv r.asc r.dm es (knd.hash y) x;generalize hL:layNew t es (knd.hash y) x=L at p1 f1 l1 g1 ⊢;obtain⟨es1,t1,dm,gave⟩:=L;dsimp only at p1 f1 l1 g1 ⊢;rw[Ph]at p1;have hel1:ElemsOf knd es1.toList:=(hel.push hkey hsc).perm p1;have z1:es1.size=xs.length+1:=by rw[<- XB,p1.length_eq,Xy,XB,hsz];rfl
  have b1:es1.size<W5:=by rw[z1];exact hroom
  have m1:(es1.toList.map λe=>of e.2).Perm (y::xs):=by
   refine(p1.map _).trans ?_;rw[Xp];refine(YF).trans ?_;show(of x::es.toList.map λe=>of e.2).Perm _;rw[hof _ _ hkey];exact hp.cons y
  have nd1:(y::xs).Nodup:=XI.mpr ⟨hy,nd⟩;have eadd:bH xs y=y::xs:=by unfold bH;rw[Qe hy]
  rw[eadd]at h;refine Wa (hgw gave ?_);have tail:∀t2:SetTable,t2.fits es1.size=true->t2.led=t.led->(jP t2.place/\t2.dummies = #[])->Wj (Wm prog w) A (do
    storeSet a es1 t2
    if (!dm&&t2.tooFull)=true then do
     (match (Vm t2 es1 (Py es1.size)).2.2 with | true=>rule "set.scan.the-table-gave-way" | false=>pure ())
     storeSet a (Vm t2 es1 (Py es1.size)).1 (Vm t2 es1 (Py es1.size)).2.1
     pure (some true)
    else pure (some true)) (λr s'=>Wj (Wm prog w) A (match r with | some added=>pure added | none=>setAddHashedIn a x (knd.hash y) 99999) Q E s') E s:=λt2 f2 l2 p2=>by
   have r2:=Il (w:=w) r f2 l2 p2 b1;have sb1:=Ys.update s.heap a (Obj.putSet es1 t2);refine Wa (Im r b1 ?_);split
   ·have p3:=relayAll_perm t2 es1 (Py es1.size);have f3:=relayAll_fits t2 es1 (Py es1.size);have l3:=Zt t2 es1 (Py es1.size);have g3:=Zx (t:=t2) es1 (Py es1.size);generalize hR:Vm t2 es1 (Py es1.size)=R at p3 f3 l3 g3 ⊢;obtain⟨es2,t3,gave2⟩:=R;dsimp only at p3 f3 l3 g3 ⊢;have z2:es2.size=es1.size:=by rw[<- XB,p3.length_eq,XB]
    refine Wa (hgw gave2 (Wa (Im (s:={ s with heap:=s.heap.update a (Obj.putSet es1 t2) }) r2 (by rw[z2];exact b1) (Wc (Wc ?_)))));exact h _ true (sb1.trans (Ys.update _ a _)) ⟨es2,_,t3,Il r2 f3 l3.1 g3 (by rw[z2];exact b1),hel1.perm p3,(p3.map _).trans m1,nd1⟩
   ·exact Wc (Wc (h _ true sb1 ⟨es1,_,t2,r2,hel1,m1,nd1⟩))
  cases hpl:t1.plain with
  | true=>
   simp only[if_true];rw[hashByValue_scannable 8 (x:=x) hsc];refine Wa (Wc ?_);cases plainKind x with
   | true=>exact tail t1 f1 l1.1 g1
   | false=>exact tail { t1 with plain:=false } (SetTable.fits_plain_off f1) l1.1 g1
  | false=>
   simp only[XF,if_false];refine Wa (Wc ?_);exact tail t1 f1 l1.1 g1
end
section
variable {α:Type} [DecidableEq α]
theorem ZC {xs:List α}{y x:α}:x∈bH xs y↔x=y\/x∈xs:=by
 unfold bH;split
 ·rename_i h
  constructor
  ·exact .inr
  ·rintro(rfl | h')
   ·exact h
   ·exact h'
 ·exact Xx
theorem ZD (xs:List α)(y:α):(bH xs y).length<=xs.length+1:=by
 unfold bH;split
 ·lia
 ·simp
theorem Cz:∀(ys xs:List α)(x:α),x∈ys.foldl bH xs↔x∈xs\/x∈ys
 | [],xs,x=>by simp
 | y::ys,xs,x=>by
  rw[Q0,Cz ys (bH xs y) x,ZC,Xx];constructor
  ·rintro((h | h) | h)
   ·exact .inr (.inl h)
   ·exact .inl h
   ·exact .inr (.inr h)
  ·rintro(h | h | h)
   ·exact .inl (.inr h)
   ·exact .inl (.inl h)
   ·exact .inr h
theorem CG:∀(ys xs:List α),(ys.foldl bH xs).length<=xs.length+ys.length
 | [],xs=>by simp
 | y::ys,xs=>by
  rw[Q0];have h1:=CG ys (bH xs y);have h2:=ZD xs y;rw[XX];lia
end
section
variable {α:Type} [DecidableEq α] {prog:Wo}{w:Ws}{A:Wv}{R:Result->Wd->Prop}{I:We}{fp wr:Tr}{G:Array GenState->Array GenState->Prop}{n:Nat}{P:Nat->Wb->Prop}{St:Nat->Wd->Prop}{knd:Nh prog w α}{of:Wb->α}
theorem ZF (W:WalksS prog w A.in1 I fp wr G n P St)(S:We)(hSf:S∉fp)(ys:List α)(hn:ys.length=n)(hof:∀k v,knd.is k v=true->of v=k)(hval:∀i v,P i v->∃y,ys[i]? = some y/\knd.is y v=true/\v.scannable=true)(hb:n+1<W5) :
  ∀(k i:Nat) (s:Wd),n-i=k->i<=n->St i s->eU knd of s.heap S ((ys.take i).foldl bH [])->
   (∀s',Moved (S::wr) G s s'->eU knd of s'.heap S (ys.foldl bH [])->R (.ok (.ret .none)) s')->
   Vd (Wm prog w) A (.builtin "set.update.loop" ⟨[.ref S,.ref I],[]⟩) R s:=by
 have hSw:S∉wr:=λh=>hSf (W.sub _ h);intro k;induction k with
 | zero=>
  intro i s hk hi hst hS hR;have hin:i=n:=by lia
  subst hin;refine WI PyProof.Rows.F.entry_set_update_loop ?_;rw[Qy Oa _];show Wj _ A.in1 (Vo (.ref I) >>= _) _ _ s;refine Wa (W.done s _ _ hst λs' hm=>Wc (hR s' (hm.mono λb hb=>Xi _ hb) ?_));rw[Xs (by lia)]at hS;exact hS.keep λo e=>hm.heap S o hSw e
 | succ k ih=>
  intro i s hk hi hst hS hR;have hlt:i<n:=by lia
  refine WI PyProof.Rows.F.entry_set_update_loop ?_;rw[Qy Oa _];show Wj _ A.in1 (Vo (.ref I) >>= _) _ _ s;refine Wa (W.item i s _ _ hlt hst λv s' hP hst' hm=>?_);obtain⟨y,hy,hkey,hsc⟩:=hval i v hP;have hS':=hS.keep λo e=>hm.heap S o hSw e;show Wj _ A.in1 (WZ [v] (setAdd S v) >>= _) _ _ s';refine Wa (Wy ?_);unfold setAdd;refine Wy (Wa (knd.pyHash (k:=y) hkey ?_));have hroom:((ys.take i).foldl bH []).length+1<W5:=by
   have q:=CG (ys.take i) [];rw[XJ]at q;simp at q;lia
  refine Zz (s:=_) hof hkey hsc hS' hroom λh' b hsb hS2=>?_;have hSi:eU knd of h' S ((ys.take (i+1)).foldl bH []):=by
   rw[XS,hy,Pj];exact hS2
  refine Wc ⟨WO Oa _,ih (i+1) _ (by lia) hlt (W.frame _ s' _ _ hst' (by first | exact Xj _ | exact QX _) λb hb o e=>?_) hSi λs'' hm'' hS''=>?_⟩
  ·rw[hsb.2 b (λh:b=S=>hSf (by rw[<- h];exact hb))];exact e
  ·refine hR s'' (Moved.trans W.gtrans ((hm.mono λb hb=>Xi _ hb).then_heap (by first | exact Xj _ | exact QX _) λb o hb e=>?_) hm'') hS''
   rw[hsb.2 b (λh:b=S=>hb (by rw[h];exact Xg))];exact e
end
abbrev nP (w:Ws):Obj:={ cls:=.type "set",dict:=none,data:=.set #[] 0 (.fresh 0 0 (!byText w)) }
theorem ZG  [DecidableEq α] {prog:Wo}{knd:Nh prog w α}{of:Wb->α}(e:h.get? a=some (nP w)):eU knd of h a []:=by
 refine⟨#[],0,_,⟨⟨_,e,⟨rfl,rfl,rfl⟩,rfl⟩,by rfl,?_,List.Pairwise.nil,rfl,by decide⟩,λz hz=>by simp at hz,by simp,YH⟩;show(!byText w)=true\/byText w=true;cases byText w
 ·exact .inl rfl
 ·exact .inr rfl
section
variable {prog:Wo}{w:Ws}{A:Wv}{E:Ti}{s:Wd}
theorem ZJ (x:Wb){Q₁:Ti}(h:Q₁ (.ref s.heap.objs.size) { s with heap:=s.heap.push (nP w) }) :
  Vd (Wm prog w) A (.call (.builtin "set.__new__") ⟨[.type "set",x],[]⟩) (wants Q₁ E) s:=by
 refine codeAny_of_tree ?_;show Wj _ A.in1 (do checkBuiltinCall "set.__new__" ⟨[.type "set",x],[]⟩;again (.builtin "set.__new__" ⟨[.type "set",x],[]⟩)) _ _ s
 refine Wa (wpAny_of_eq (PySem.F.newCall_set_1 x) (Wc ⟨WO PySem.F.plain_set_new _,WI PySem.F.entry_set_new ?_⟩));rw[Qy PySem.F.plain_set_new _];unfold Builtin.«set.__new__» Builtin.Frozenset.newClass;have hsub:=sub_set_self;obtain⟨hp,g,d,tk,os⟩:=s;dsimp only
 wp_walk
 refine WY (Wc ?_);dsimp only;simp only[newObj];exact Wa (wpAny_alloc (Wc (Wc h)))
theorem ZK {l:We}{items:Array Wb}{SP:Heap->We->Prop}{Q:Ti}(hh:A.handled=none)(hl:s.heap.IsList l items)
  (loop:∀ {A':Wv} {R:Result->Wd->Prop} {I:We} {fp wr:Tr} {G:Array GenState->Array GenState->Prop} {P:Nat->Wb->Prop} {St:Nat->Wd->Prop} (W:WalksS prog w A'.in1 I fp wr G items.size P St) (S:We),A'.units<=A.units+8->S∉fp->(∀i v,P i v->items[i]? = some v)->(∀b,b<s.heap.objs.size->b∉S::wr)->∀s1:Wd,(∀b o,s.heap.get? b=some o->s1.heap.get? b=some o)->St 0 s1->s1.heap.get? S=some (nP w)->(∀s',Moved (S::wr) G s1 s'->SP s'.heap S->R (.ok (.ret .none)) s')->
   Vd (Wm prog w) A' (.builtin "set.update.loop" ⟨[.ref S,.ref I],[]⟩) R s1)
  (h:∀(h':Heap) (tk:Nat),SP h' s.heap.objs.size->(∀b o,s.heap.get? b=some o->h'.get? b=some o)->Q (.ref s.heap.objs.size) { s with heap:=h',toks:=tk }) :
  Wj (Wm prog w) A (call (.type "set") [.ref l]) Q E s:=by
 obtain⟨c,tl,hmro⟩:=PySem.F.called_set.mro;have hmade:=PySem.F.called_set.made;have hsub:=PySem.F.called_set.sub;refine wpAny_call (codeAny_of_tree ?_);show Wj _ _ (callAny (.type "set") _) _ _ _;refine Wc ⟨Code.quiet_builtin _ (by decide +kernel),WI PySem.F.entry_type_call ?_⟩;rw[Around.under_plain (weight_type_call_type "set" [.ref l] []) rfl];have h1:=PySem.F.called_set.notType;have h2:=PySem.F.called_set.canCreate;have hct:=PySem.F.typeCall_set_1 (.ref l)
 repeat (any_goals (first | assumption | wp_step))
 refine Ve (ZJ (.ref l) (E:=E) (Q₁:=λob s1=>ob=.ref s.heap.objs.size/\s1={ s with heap:=s.heap.push (nP w) }) ⟨rfl,rfl⟩) λr s1 hr=>?_;cases r with
 | error e=>exact hr
 | ok fl=>
  cases fl with
  | ret ob=>
   obtain⟨rfl,rfl⟩:=hr;have hS:(s.heap.push (nP w)).get? s.heap.objs.size=some (nP w):=XA _ rfl;have hT:Shared.TypeIs { s with heap:=s.heap.push (nP w) } (.ref s.heap.objs.size) "set":=⟨_,hS,rfl⟩;have hli:=PySem.F.called_set.init.lookup;have hbi:=PySem.F.called_set.init.bind (.ref s.heap.objs.size)
   repeat (any_goals (first | assumption | wp_step))
   refine Ve (codeAny_call_builtin (R:=wants (λr s2=>r=.none/\∃h' tk,s2={ s with heap:=h',toks:=tk }/\SP h' s.heap.objs.size/\∀b o,s.heap.get? b=some o->h'.get? b=some o) E)
    PySem.F.called_set.init.plain PySem.F.entry_set_init (check_set_init_1 hT ?_)) λr₂ s₂ hr₂=>?_
   ·obtain⟨⟨ocls,odict,odata,oslots⟩,hol,hcl,nl,hdl⟩:=hl;simp only at hcl hdl;subst hcl;subst hdl;have hol':(s.heap.push (nP w)).get? l=some { cls:=.type "list",dict:=odict,data:=.seq items nl,slots:=oslots }:=Xn _ hol;have hsls:=PySem.F.sub_list_set;have hslf:=PySem.F.sub_list_frozenset;have hne:(QD "list" == QD "dict")=false:=by decide
    have hl1:(s.heap.push (nP w)).IsList l items:=⟨_,hol',rfl,nl,rfl⟩;unfold Builtin.«set.__init__» noKeywords Builtin.Frozenset.updateFrom;generalize hPI:pyIter=PI
    wp_walk
    subst hPI;refine W6 hl1 (Wa (wpAny_runValue ?_));have hlS:l<s.heap.objs.size:=XC hol;have hz1:(s.heap.push (nP w)).objs.size=s.heap.objs.size+1:=QT ..;have hneI:l≠(s.heap.push (nP w)).objs.size:=by rw[hz1];exact XM (YR hlS)
    have hSf:s.heap.objs.size∉[(s.heap.push (nP w)).objs.size,l]:=by
     rw[hz1];intro z;rcases Xx.mp z with e | e
     ·exact Qg e (XM (QR _))
     ·exact Qg (Xh.mp e) (Nat.ne_of_gt hlS)
    refine loop ((Walks.list (by simp[hh]) _ l hneI items).toS) s.heap.objs.size ?U hSf (λi v hv=>hv) (λb hb=>?W) _ (λb o e=>Xn _ (Xn _ e)) ⟨⟨_,XA _ rfl,rfl,rfl⟩,hl1.push _⟩ (Xn _ hS) λs' hm hS'=>?_
    case U=>show A.units+1+1<=_;lia
    case W=>
     intro z;rcases Xx.mp z with q | q
     ·exact XM hb q
     ·have q':=Xh.mp q;rw[hz1]at q';exact Qg q' (XM (YR hb))
    obtain⟨h',g',d',tk',os'⟩:=s';have eg:g'=s.gens:=hm.gens;have ed:d'=s.drawn:=hm.drawn;have eo:os'=s.os:=hm.os;subst eg;subst ed;subst eo;refine Wc (Wc ⟨rfl,h',tk',rfl,hS',λb o e=>?_⟩);have hb':b<s.heap.objs.size:=XC e;refine hm.heap b o (λz=>?_) (Xn _ (Xn _ e));rcases Xx.mp z with q | q
    ·exact XM hb' q
    ·have q':=Xh.mp q;rw[hz1]at q';exact Qg q' (XM (YR hb'))
   ·cases r₂ with
    | error e=>exact hr₂
    | ok fl₂=>
     cases fl₂ with
     | ret r=>
      obtain⟨rfl,h',tk,rfl,hS',hk'⟩:=hr₂
      repeat (any_goals (first | assumption | wp_step))
      exact h _ _ hS' hk'
     | _=>exact hr₂.elim
  | _=>exact hr.elim
theorem ZL {α:Type} [DecidableEq α] {knd:Nh prog w α}{of:Wb->α}{l:We}{items:Array Wb}{ys:List α}{Q:Ti}(hof:∀k v,knd.is k v=true->of v=k)(hh:A.handled=none)(hl:s.heap.IsList l items)(hi:∀(i:Nat) v,items[i]? = some v->∃y,ys[i]? = some y/\knd.is y v=true/\v.scannable=true)(hy:ys.length=items.size)(hb:items.size+1<W5)
  (h:∀(h':Heap) (tk:Nat),eU knd of h' s.heap.objs.size (ys.foldl bH [])->(∀b o,s.heap.get? b=some o->h'.get? b=some o)->Q (.ref s.heap.objs.size) { s with heap:=h',toks:=tk }) :
  Wj (Wm prog w) A (call (.type "set") [.ref l]) Q E s:=
 ZK (SP:=λh S=>eU knd of h S (ys.foldl bH [])) hh hl (λ{A' R I fp wr G P St} W S _ hSf hP _ s1 kp hst hS hR=>ZF W S hSf ys hy hof (λi v hv=>hi i v (hP i v hv)) hb _ 0 s1 rfl (Ye _) hst (ZG hS) hR) h
theorem ZM {l:We}{items:Array Wb}{ys:Tn}{Q:Ti}(hh:A.handled=none)(hl:s.heap.IsList l items)(hi:∀(i:Nat) v,items[i]? = some v->∃y t,ys[i]? = some y/\v=.str y t)(hy:ys.length=items.size)(hb:items.size+1<W5)
  (h:∀(h':Heap) (tk:Nat),Cy prog w h' s.heap.objs.size (ys.foldl bH [])->(∀b o,s.heap.get? b=some o->h'.get? b=some o)->Q (.ref s.heap.objs.size) { s with heap:=h',toks:=tk }) :
  Wj (Wm prog w) A (call (.type "set") [.ref l]) Q E s:=
 ZL (knd:=PySem.strKind prog w) (of:=zb) (λk v hk=>by obtain⟨t,rfl⟩:=Ou (show Oz k v=true from hk);rfl) hh hl (λi v hv=>by obtain⟨y,t,e1,rfl⟩:=hi i v hv;exact⟨y,e1,by simp[PySem.strKind,Oz],rfl⟩) hy hb h
end
section
variable {prog:Wo}{w:Ws}{A:Wv}{E:Ti}{s:Wd}{a:We}
theorem Io {vs:Tq}{ss:Tn}{Q:Ti}(hS:StrsAre vs ss)(h64:vs.length<64)
  (h:∀(h':Heap) (out:Tq) (zs:Tn) (e:Nat),StrsAre out zs->zs.Perm ss->sortedS zs=true->(∀b o,s.heap.get? b=some o->h'.get? b=some o)->h'.get? s.heap.objs.size=some { cls:=.type "list",data:=.seq out.toArray e }->Q (.ref s.heap.objs.size) { s with heap:=h' }) :
  Wj (Wm prog w) A (newList vs >>= λl=>WZ [l] (call (.builtin "list.sort") [l] []) >>= λ_=>ret l) (λfin s'=>∃r,fin=.done (.ret r)/\Q r s') E s:=by
 refine Wa (wpAny_newList ?_);have hoL:(s.heap.push (Vh "list" vs.toArray 0)).get? s.heap.objs.size=some (Vh "list" vs.toArray 0):=XA _ rfl;refine Wa (Wy (WN slot_list_sort ⟨_,hoL,rfl⟩ entry_list_sort (list_sort_treeK strKind_oneLt hoL hS.keysOf (λv1 v2 rest e=>keyKind_strs (by rw[<- e];exact hS)) h64 λst' a1 a2=>⟨_,rfl,?_⟩) (args_list_sort _)));obtain⟨zs,q1,q2,q3⟩:=sorted_out_str hS a1 a2;obtain⟨e,he⟩:=sortedHeap_at (out:=(Wn st').map (·.2)) hoL;refine Wc ⟨_,rfl,h _ ((Wn st').map (·.2)).toList zs e q1 q2 q3 (λb o hb=>?_) (by rw[Array.toArray_toList];exact he)⟩;have hlt:b<s.heap.objs.size:=XC hb;rw[sortedHeap_old (XM hlt) (by rw[size_push'];exact YR hlt)];exact Xn _ hb
theorem ZP {xs:Tn}{Q:Ti}(hh:A.handled=none)(S:Cy prog w s.heap a xs)(h64:xs.length<64)
  (h:∀(h1 h':Heap) (d:Drawn) (tk:Nat) (out:Tq) (zs:Tn) (e:Nat),StrsAre out zs->zs.Perm xs->sortedS zs=true->(∀b o,s.heap.get? b=some o->h1.get? b=some o)->(∀b o,h1.get? b=some o->h'.get? b=some o)->h'.get? h1.objs.size=some { cls:=.type "list",data:=.seq out.toArray e }->
   Q (.ref h1.objs.size) { s with heap:=h',drawn:=d,toks:=tk }):Wj (Wm prog w) A (call (.builtin "sorted") [.ref a]) Q E s:=by
 refine Calls.call_function_entry kind_sorted plain_sorted entry_sorted (args_sorted1 _) ?_;unfold Builtin.«sorted»;refine Wa (m:=checkCount "sorted" 1 1 _) (Wc ?_);obtain⟨es,ep,t,r,hel,hp,nd⟩:=S;refine Wa (Zq (by simpa using hh) r λh1 d tk order ho kp=>?_);have hst:∀v∈order,∃x t,v=Value.str x t:=λv hv=>by
  obtain⟨e,he,q⟩:=Xv.mp (ho.mem_iff.mp hv);obtain⟨⟨k,hk,_⟩,_⟩:=hel e he;obtain⟨t,q'⟩:=Ou (show Oz k e.2=true from hk);exact⟨k,t,by rw[<- q];exact q'⟩
 have hS:=strsAre_map order hst;have hperm:(order.map strOf).Perm xs:=by
  refine(ho.map strOf).trans ?_;rw[Yk];have e:es.toList.map (strOf ∘ λx=>x.2)=es.toList.map λe=>zb e.2:=Yg λe he=>by
   obtain⟨⟨k,hk,_⟩,_⟩:=hel e he;obtain⟨t,q'⟩:=Ou (show Oz k e.2=true from hk);show strOf e.2=zb e.2;rw[q'];rfl
  rw[e];exact hp
 have hlen:order.length<64:=by
  have q:=hperm.length_eq;rw[Xb]at q;lia
 refine Io (s:={ s with heap:=h1,drawn:=d,toks:=tk }) hS hlen λh' out zs e q1 q2 q3 kp' he=>?_;exact h h1 h' d tk out zs e q1 (q2.trans hperm) q3 kp kp' he
end
end JS
namespace L2
open PySem PySem.Spec PyProof.Rows
inductive D where
 | non | int (i:Int) | str (x:Str) | tup (ds:List D)
instance:DecidableEq D:=λ_ _=>Qt _
mutual
def aq (H:Hp):D->V->Prop
 | .non,v=>v=.non
 | .int i,v=>v=.int i
 | .str x,v=>v=.str x
 | .tup ds,v=>∃a xs,v=.ref a/\H a=some (.tup xs)/\aj H ds xs
def aj (H:Hp):List D->List V->Prop
 | [],xs=>xs=[]
 | d::ds,xs=>∃v r,xs=v::r/\aq H d v/\aj H ds r
end
def Ip (H H':Hp):Prop:=∀b xs,H b=some (.tup xs)->H' b=some (.tup xs)
mutual
theorem aq.mono {H H':Hp}(s:Ip H H'):∀(d:D)(v:V),aq H d v->aq H' d v
 | .non,v,h=>by unfold aq at h ⊢;exact h
 | .int i,v,h=>by unfold aq at h ⊢;exact h
 | .str x,v,h=>by unfold aq at h ⊢;exact h
 | .tup ds,v,h=>by
  unfold aq at h ⊢;obtain⟨a,xs,e,h1,h2⟩:=h;exact⟨a,xs,e,s a xs h1,aj.mono s ds xs h2⟩
theorem aj.mono {H H':Hp}(s:Ip H H'):∀(ds:List D)(xs:List V),aj H ds xs->aj H' ds xs
 | [],xs,h=>by unfold aj at h ⊢;exact h
 | d::ds,xs,h=>by
  unfold aj at h ⊢;obtain⟨v,r,e,h1,h2⟩:=h;exact⟨v,r,e,aq.mono s d v h1,aj.mono s ds r h2⟩
end
mutual
theorem aq.inj {H:Hp}:∀(d e:D)(v:V),aq H d v->aq H e v->d=e
 | .non,e,v,h,g=>by
  unfold aq at h;subst h;cases e<;>unfold aq at g
  ·rfl
  ·cases g
  ·cases g
  ·obtain⟨a,xs,z,_⟩:=g;cases z
 | .int i,e,v,h,g=>by
  unfold aq at h;subst h;cases e<;>unfold aq at g
  ·cases g
  ·injection g with g;rw[g]
  ·cases g
  ·obtain⟨a,xs,z,_⟩:=g;cases z
 | .str x,e,v,h,g=>by
  unfold aq at h;subst h;cases e<;>unfold aq at g
  ·cases g
  ·cases g
  ·injection g with g;rw[g]
  ·obtain⟨a,xs,z,_⟩:=g;cases z
 | .tup ds,e,v,h,g=>by
  unfold aq at h;obtain⟨a,xs,z,h1,h2⟩:=h;subst z;cases e<;>unfold aq at g
  ·cases g
  ·cases g
  ·cases g
  ·obtain⟨b,ys,z,g1,g2⟩:=g;cases z;rw[h1]at g1;cases g1;rw[aj.inj ds _ xs h2 g2]
theorem aj.inj {H:Hp}:∀(ds es:List D)(xs:List V),aj H ds xs->aj H es xs->ds=es
 | [],es,xs,h,g=>by
  unfold aj at h;subst h;cases es with
  | nil=>rfl
  | cons e es=>unfold aj at g;obtain⟨v,r,z,_⟩:=g;cases z
 | d::ds,es,xs,h,g=>by
  unfold aj at h;obtain⟨v,r,z,h1,h2⟩:=h;subst z;cases es with
  | nil=>unfold aj at g;cases g
  | cons e es=>
   unfold aj at g;obtain⟨v',r',z,g1,g2⟩:=g;cases z;rw[aq.inj d e v h1 g1,aj.inj ds es r h2 g2]
end
mutual
def mO:D->D->Prop
 | .non,e=>e=.non
 | .int _,e=>∃j,e=.int j
 | .str _,e=>∃y,e=.str y
 | .tup ds,e=>∃es,e=.tup es/\xK ds es
def xK:List D->List D->Prop
 | [],_=>True
 | d::ds,es=>∀e r,es=e::r->mO d e/\xK ds r
end
mutual
def dep:D->Nat
 | .tup ds=>xM ds+1
 | _=>0
def xM:List D->Nat
 | []=>0
 | d::ds=>max (dep d) (xM ds)
end
end L2
namespace L2
open PySem PySem.Spec PyProof.Rows
section
variable {X:Cx}
def ZQ (K:Xc):V->List V->Hp->VK->Prop:=λx vs H Q=>∃(l b:We)(xs zs:List V),x=.ref l/\vs=[.ref b]/\H l=some (.lst xs)/\bG K H b zs/\xs.length+zs.length<=Wi/\Q .non (upd H l (.lst (xs++zs)))
theorem ZR:xj X "list.extend" (ZQ X.K):=by
 intro pins s σ H x vs v us Q I rx rv h;obtain⟨l,b,xs,zs,rfl,rfl,hH,hB,hz,q⟩:=h;cases rx;obtain⟨u,rfl,ru⟩:=rv.one;cases ru;obtain⟨z,its,n,r,hl,e⟩:=I.mL hH;obtain⟨its2,r2,⟨o2,ho2,hc2,n2,hd2⟩,z2⟩:=I.tuple hB;have l2:=r2.length;have hne:l≠b:=λw=>by subst w;rw[e]at ho2;cases ho2;injection hc2 with z;exact Qg z (by decide)
 refine WN PySem.F.slot_list_extend ⟨_,e,rfl⟩ PySem.F.entry_list_extend ?_ (PySem.F.args_list_extend_2 _ _);show Wj _ _ (P0 (.ref l) (.ref b) .none) _ _ s;unfold P0;refine Wa (wpAny_typeOf (T:="tuple") ⟨o2,ho2,hc2⟩ ?_);have h3:(QD "tuple" == QD "tuple")=true:=by decide
 rw[Qf (by rw[h3];simp)];refine Wa (Vn ho2 hd2 (Wa (Vn e rfl ?_)));have oV:¬ (!its.toArray.isEmpty&&Oq (its.toArray.size+its2.toArray.size))=true:=by
  rw[Hi (by rw[Xo,Xo];lia),Bool.and_false];exact Xw
 rw[Qe oV];refine Wa (listUpdate_at e rfl (Wc ⟨_,rfl,?_⟩) (by rw[Xo];lia) (by rw[Array.size_append,Xo,Xo];lia));refine⟨.non,_,I.oU (its':=its++its2) (t':=s.toks) hH e (by simp) (r.append r2) (by rw[Xy];lia),rfl,q⟩
theorem Ir {ss:Tn}:∀ {its:Tq},StrsAre its ss->Vals (ss.map V.str) its:=by
 induction ss with
 | nil=>intro its r;cases r;exact .nil
 | cons x ss ih=>
  intro its r;cases r with
  | cons _ t r2=>exact .cons ⟨t,rfl⟩ (ih r2)
def CJ (K:Xc)(te:TE):TE:=λσ H Q=>te σ H λx H1=>∃(a:We)(xs:List V),x=.ref a/\aR K H1 a xs/\∀p,H1 p=none->Q (.ref p) (upd H1 p (.lst xs.reverse))
theorem ZS {e:Expr}{te:TE}{j:Nat}{p1 p2 p3 pos:Pos}(he:PE X e te):PE X (.Subscript e (.Slice none none (some (.UnaryOp .USub (.Constant (.int 1) j p1) p2)) p3) pos) (CJ X.K te):=by
 intro pins s σ H Q I h;refine Subscript_ (aM (he pins s σ H _ I h) λv s1 ⟨x,H1,I1,r1,q1⟩=>?_);obtain⟨a,xs,rfl,hx,q⟩:=q1;cases r1;refine wpAny_Slice ?_;rw[evalPart_none,evalPart_some];refine Wc (Wc ?_);refine aM (Gz GC Gr pins s1 σ H1 (λy H2=>y=.int (-1)/\H2=H1) I1 ⟨1,rfl,rfl,rfl⟩) λst s2 ⟨y,H2,I2,r2,ey,eH⟩=>?_;subst ey eH;obtain⟨t,rfl⟩:=r2;have I3:Inv X pins σ H2 { s2 with heap:=s2.heap.push { cls:=.type "slice",data:=.fields #[.none,.none,.int (-1) t] } }:=I2.kept (t':=s2.toks) λb ob q=>Xn _ q;obtain⟨its,r,ht,hz⟩:=I3.list hx;have hlen:=r.length;refine tail_any (ops:=[.ref a,.ref s2.heap.objs.size]) ht.isList.typeIs slot_list_getitem.lookup ?_ (by with_unfolding_all rfl);refine wpAny_getItem_list_slice ht.isList (Heap.IsSliceOf.new ..) .none .none (.int (-1) t) (by decide) ?_ (by rw[Xo];lia);rw[PySem.W.krv_pick];refine⟨.ref _,_,I3.laid (t':=s2.toks) (o:=.lst xs.reverse) (λb ob q=>Xn _ q) (Xj _) ?_,rfl,q _ (I3.hok.fresh (Xj _))⟩;exact⟨by rw[Pq];exact hz,its.reverse,0,r.reverse,XA _ rfl⟩
def lA (P:Wo)(w:Ws)(a:We)(xs:Tn):HO:=.ext λh=>JS.Cy P w h a xs
theorem ZV (hc:X.calm=true):j5 X (.type "set") (λxs H Q=>∃(p:We) (ss:Tn),xs=[.ref p]/\aR X.K H p (ss.map V.str)/\ss.length+1<W5/\∀l,H l=none->Q (.ref l) (upd H l (lA X.prog X.w l (ss.foldl JS.bH [])))):=by
 intro pins s σ H xs us Q I r h;obtain⟨p,ss,rfl,hp,hz,q⟩:=h;obtain⟨u,rfl,rx⟩:=vals1 r;cases rx;obtain⟨its,r,ht,_⟩:=I.list hp;have hlen:=r.length;rw[Xb]at hlen;refine JS.ZM (ys:=ss) (I.ok.hd hc) ht.isList (λi v hv=>?_) (by rw[Xo];exact hlen) (by rw[Xo];lia) λh' tk hS kp=>?_
 ·have hv':its[i]? = some v:=by simpa using hv
  have hi:i<its.length:=(Xf.mp hv').1;have e1:(ss.map V.str)[i]? = some (V.str ss[i]):=by simp[show i<ss.length by lia]
  obtain⟨u,q1,q2⟩:=r.get e1;rw[hv']at q1;cases q1;obtain⟨t,e2⟩:=(show ∃t,v=Value.str _ t from q2);exact⟨_,t,by simp[show i<ss.length by lia],e2⟩
 ·refine⟨.ref s.heap.objs.size,_,I.laid (t':=tk) (o:=lA X.prog X.w s.heap.objs.size (ss.foldl JS.bH [])) kp (Xj _) ?_,rfl,q _ I.fresh⟩;obtain⟨es,ep,t,rc,_⟩:=id hS;obtain⟨o,ho,_⟩:=rc.obj;exact⟨hS,⟨o,ho⟩,λh1 h2 hs k=>JS.eU.keep hs k⟩
theorem ZW (hc:X.calm=true):j5 X (.builtin "sorted") (λxs H Q=>∃(p:We) (ss:Tn),xs=[.ref p]/\H p=some (lA X.prog X.w p ss)/\ss.length<64/\∀l zs,H l=none->zs.Perm ss->sortedS zs=true->Q (.ref l) (upd H l (.lst (zs.map V.str)))):=by
 intro pins s σ H xs us Q I r h;obtain⟨p,ss,rfl,hp,h64,q⟩:=h;obtain⟨u,rfl,rx⟩:=vals1 r;cases rx;obtain⟨hS,_,_⟩:=(show dg X.prog X.w H s.heap p (lA X.prog X.w p ss) from I.hok p _ hp);refine JS.ZP (I.ok.hd hc) hS h64 λh1 h' d tk out zs e a1 a2 a3 kp kp' he=>?_;have I1:Inv X pins σ H { s with heap:=h1,drawn:=d,toks:=tk }:=I.call' (ch:=[]) rfl (Un.kept kp) (I.hok.kept kp) I.bare (λ_ z=>nomatch z);have hl2:zs.length=ss.length:=a2.length_eq;refine⟨.ref h1.objs.size,_,I1.laid (h':=h') (t':=tk) (o:=.lst (zs.map V.str)) kp' (Xj _) ?_,rfl,q _ zs (I1.hok.fresh (Xj _)) a2 a3⟩;exact⟨by rw[Xb,Wr];lia,out,e,Ir a1,he⟩
end
def ZX (K:Xc):List V->Hp->VK->Prop:=λxs H Q=>∃p ys,xs=[.ref p]/\((aR K H p ys/\∀l,H l=none->Q (.ref l) (upd H l (.tup ys)))\/(bG K H p ys/\Q (.ref p) H))
def Z0 (K:Xc):List V->Hp->VK->Prop:=λxs H Q=>∃p ys,xs=[.ref p]/\(aR K H p ys\/bG K H p ys)/\∀l,H l=none->Q (.ref l) (upd H l (.lst ys))
end L2
namespace PySem
variable {a:We}{Q:Bool->Wd->Prop}
section
variable {prog:Wo}{w:Ws}{K:Type} [DecidableEq K] (knd:KeyKind prog w K)
def lB (h:Heap)(k:K×List K)(a:We):Prop:=∃o items n v b,h.get? a=some o/\o.cls=.type "tuple"/\o.data=.seq items n/\items.toList=[v,.ref b]/\knd.is k.1 v=true/\IsTupleKey knd h k.2 b
def CK (k:K×List K):Int:=Vk (Qv [knd.hash k.1,W1 knd k.2])
variable {knd}
theorem lB.typeIs {s:Wd}{k:K×List K}(x:lB knd s.heap k a):s.TypeIs (.ref a) "tuple":=let ⟨o,_,_,_,_,ho,hc,_⟩:=x;⟨o,ho,hc⟩
theorem lB.inj {h:Heap}{x y:K×List K}(hx:lB knd h x a)(hy:lB knd h y a):x=y:=by
 obtain⟨o,items,n,v,b,ho,_,hd,hi,h1,h2⟩:=hx;obtain⟨o',items',n',v',b',ho',_,hd',hi',h1',h2'⟩:=hy;obtain rfl:o=o':=Qa (ho.symm.trans ho');rw[hd]at hd';injection hd' with e1 _;subst e1;rw[hi]at hi';cases hi';exact Prod.ext (knd.inj _ _ _ h1 h1') (h2.inj h2')
theorem lB.keeps {h h':Heap}{k:K×List K}{d:We}{o:Obj} {es ep}(x:lB knd h k a)(ho:h.get? d=some o)(hd:o.data=.dict es ep)(hs:Ys d h h'):lB knd h' k a:=by
 obtain⟨o',items,n,v,b,ho',hc,hd',hi,h1,h2⟩:=x;have hne:a≠d:=by
  rintro rfl;obtain rfl:o'=o:=Qa (ho'.symm.trans ho);rw[hd]at hd';exact nomatch hd'
 exact⟨o',items,n,v,b,(hs.2 a hne).trans ho',hc,hd',hi,h1,h2.keeps ho hd hs⟩
variable {A:Wv}{E:Ti}{s:Wd}
theorem Z3 {k:K×List K}{Q:Int->Wd->Prop}(hu:A.units+8<WG)(hk:lB knd s.heap k a)(h:Q (CK knd k) { s with toks:=s.toks+(k.2.length+3) }) :
  Wj (Wm prog w) A (pyHash (.ref a)) Q E s:=by
 have hT:=hk.typeIs;obtain⟨o,items,n,v,b,ho,_,hd,hi,h1,h2⟩:=hk;unfold pyHash
 first | unfold pyHashByItsType | skip
 first | refine Wa (wpAny_cRoomFor_or (.inr (by lia)) ?_) | skip
 refine Wa (Vi hT F.slot_tuple_hash.lookup ?_);show Wj _ _ (if (some (Value.builtin "tuple.__hash__") == some Value.none)=true then _ else _) Q E s
 rw[Qe (by rw[beq_builtin_none];exact Xw)];refine Wa (Vi hT F.slot_tuple_hash.lookup ?_);show Wj _ _ (callSpecialIfBoundUnlessNone? (.ref a) "__hash__" _ >>= _) Q E s;refine Wa (wpAny_callSpecialIfBoundUnlessNone?_slot hT F.slot_tuple_hash (WN F.slot_tuple_hash hT F.entry_tuple_hash ?_ (F.args_tuple_hash_1 _)));show Wj _ _ (Builtin.Tuple.tupleItemsOf (.ref a) >>= _) _ _ s;refine Wa (wpAny_tupleItemsOf ho hd ?_);refine Wa ?_;rw[<- Array.forIn_toList,hi];refine Vg _
  (λrest (c:Array Int) s'=>(rest=[v,.ref b]/\c = #[]/\s'=s)\/(rest=[.ref b]/\c = #[knd.hash k.1]/\s'={ s with toks:=s.toks+1 })\/(rest=[]/\c = #[knd.hash k.1,W1 knd k.2]/\s'={ s with toks:=s.toks+(k.2.length+2) }))
  _ ?_ ?_ _ _ (.inl ⟨rfl,rfl,rfl⟩)
 ·rintro x rest c s' (⟨e,rfl,rfl⟩ | ⟨e,rfl,rfl⟩ | ⟨e,_⟩)
  ·cases e;refine Wa (knd.pyHash h1 ?_)
   first
    | exact Wc (.inr (.inl ⟨rfl,rfl,rfl⟩))
    | exact Wa (Wc (Wc (.inr (.inl ⟨rfl,rfl,rfl⟩))))
  ·cases e;refine Wa (wpAny_pyHash_tuple (show A.units+1<WG by lia) h2 ?_)
   first
    | exact Wc (.inr (.inr ⟨rfl,rfl,by show({ s with toks:=s.toks+1+(k.2.length+1) }:Wd)=_;rw[show s.toks+1+(k.2.length+1)=s.toks+(k.2.length+2) by lia]⟩))
    | exact Wa (Wc (Wc (.inr (.inr ⟨rfl,rfl,by show({ s with toks:=s.toks+1+(k.2.length+1) }:Wd)=_;rw[show s.toks+1+(k.2.length+1)=s.toks+(k.2.length+2) by lia]⟩))))
  ·cases e
 ·rintro c s' (⟨e,_⟩ | ⟨e,_⟩ | ⟨_,rfl,rfl⟩)
  ·cases e
  ·cases e
  show Wj _ _ (retInt (Qv [knd.hash k.1,W1 knd k.2])) _ _ _;refine wpAny_ret_mkInt ?_;show Wj _ _ (if (decide (-(2:Int) ^ 63<=Qv [knd.hash k.1,W1 knd k.2])&&decide (Qv [knd.hash k.1,W1 knd k.2]<2 ^ 63))=true then _ else _) Q E _
  unfold CK Vk at h;by_cases hr:(decide (-(2:Int) ^ 63<=Qv [knd.hash k.1,W1 knd k.2])&&decide (Qv [knd.hash k.1,W1 knd k.2]<2 ^ 63))=true
  ·rw[Qf hr];rw[Qf hr]at h;exact Wc (by simpa[QM]using h)
  ·rw[Qe hr];rw[Qe hr]at h;exact Wa (WK (Wc (by simpa[QM]using h)))
theorem Z4 {x y:K×List K}{b:We}{P:Fin->Wd->Prop}(hu:A.units+6<WG)(hx:lB knd s.heap x a)(hy:lB knd s.heap y b)(h:P (.done (.ret (.bool (decide (x=y))))) s) :
  Wj (Wm prog w) A (Builtin.«tuple.__eq__» ⟨[.ref a,.ref b],[]⟩) P E s:=by
 have hTb:=hy.typeIs;obtain⟨oa,xs,na,va,ba,hoa,_,hda,hia,h1,h2⟩:=hx;obtain⟨ob,ys,nb,vb,bb,hob,_,hdb,hib,g1,g2⟩:=hy;show Wj _ _ (isInstance (.ref b) (.type "tuple") >>= _) _ _ s;refine Wa (Vf hTb isSubtype_tuple_tuple ?_);simp only[YQ,XF,if_false];refine Wa (wpAny_tupleItemsOf hoa hda ?_);refine Wa (wpAny_tupleItemsOf hob hdb ?_);refine Wa ?_;have hz:List.zip xs.toList ys.toList=[(va,vb),(.ref ba,.ref bb)]:=by rw[hia,hib];rfl
 have hdx:decide (x=y)=(decide (x.1=y.1)&&decide (x.2=y.2)):=by
  rw[<- Bool.decide_and];exact decide_eq_decide.mpr ⟨λz=>by rw[z];exact⟨rfl,rfl⟩,λz=>Prod.ext z.1 z.2⟩
 refine Vg _
  (λrest r s'=>r.1=none/\s'=s/\((rest=[(va,vb),(.ref ba,.ref bb)])\/(rest=[(.ref ba,.ref bb)]/\x.1=y.1)\/(rest=[]/\x=y)))
  _ ?_ ?_ _ _ ⟨rfl,rfl,.inl hz⟩
 ·rintro⟨u,v⟩ rest r s' ⟨hr,rfl,e | ⟨e,e1⟩ | ⟨e,_⟩⟩
  ·cases e;refine Wa (knd.eqBool h1 g1 ?_);by_cases hk:x.1=y.1
   ·rw[Qd hk];simp only[YQ,XF,if_false];exact Wc ⟨rfl,rfl,.inr (.inl ⟨trivial,hk⟩)⟩
   ·rw[Qc hk];simp only[Bool.not_false,if_true];rw[hdx,Qc hk,Bool.false_and]at h;exact Wa (Wc (Wc (Wc h)))
  ·cases e;refine Wa (wpAny_eqBool_tuple (by lia) h2 g2 ?_);by_cases hk:x.2=y.2
   ·rw[Qd hk];simp only[YQ,XF,if_false];exact Wc ⟨rfl,rfl,.inr (.inr ⟨trivial,Prod.ext e1 hk⟩)⟩
   ·rw[Qc hk];simp only[Bool.not_false,if_true];rw[hdx,Qc hk,Bool.and_false]at h;exact Wa (Wc (Wc (Wc h)))
  ·cases e
 ·rintro⟨r1,r2⟩ s' ⟨hr,rfl,e | ⟨e,_⟩ | ⟨_,e⟩⟩
  ·cases e
  ·cases e
  simp only at hr;subst hr;refine Wc ?_;have hfin:(xs.size == ys.size)=true:=by
   rw[<- XB,<- XB,hia,hib];rfl
  show P (.done (.ret (.bool (xs.size == ys.size)))) s';rw[Qd e]at h;rw[hfin];exact h
theorem Z5 {x y:K×List K}{b:We}(hu:A.units+8<WG)(hx:lB knd s.heap x a)(hy:lB knd s.heap y b)(h:Q (decide (x=y)) s) :
  Wj (Wm prog w) A (eqBool (.ref a) (.ref b)) Q E s:=by
 unfold eqBool
 try with_reducible refine Wy ?_
 show Wj _ _ (if (Qq a == Qq b)=true then _ else _) Q E s
 by_cases hab:(Qq a == Qq b)=true
 ·rw[Qf hab];have e:a=b:=by have:=eq_of_beq hab;injection this
  subst e;obtain rfl:=hx.inj hy;exact Wa (WK (Wc (by simpa using h)))
 ·rw[Qe hab];exact Wa (wpAny_richCompare_same_room (op:=.Eq) hx.typeIs hy.typeIs F.slot_tuple_eq
   (WN F.slot_tuple_eq hx.typeIs F.entry_tuple_eq (Z4 (show A.units+1+6<WG by lia) hx hy ⟨_,rfl,(λe=>nomatch e),WR h⟩) (F.args_tuple_eq_2 _ _)) (by lia))
theorem Z6 {ks:List K}{n:Nat}(hk:IsTupleKey knd s.heap ks a)(h:Q true s):Wj (Wm prog w) A (eqIsQuiet (n+1) (.ref a)) Q E s:=by
 have hT:=hk.typeIs;obtain⟨o,items,n,ho,_,hd,hi⟩:=hk;unfold eqIsQuiet;refine Wa (Vi hT F.slot_tuple_eq.lookup ?_);show Wj _ _ (isInstance (.ref a) (.type "tuple") >>= _) _ _ s;refine Wa (Vf hT isSubtype_tuple_tuple ?_);simp only[YQ,XF,if_false];refine Wa (Va ho hd ?_);refine Wa ?_;show Wj _ _ (forIn items _ _) _ _ s;rw[<- Array.forIn_toList];refine Vg _ (λrest r s'=>r.1=none/\s'=s/\∀v∈rest,carriedByValue v=true) _ ?_ ?_ _ _ ⟨rfl,rfl,hi.byValue⟩
 ·rintro v rest r s' ⟨hr,rfl,hall⟩;rw[eqIsQuiet_byValue _ (hall v Xg)];refine Wa (Wc ?_);simp only[YQ,XF,if_false];exact Wc ⟨rfl,rfl,λu hu'=>hall u (Xi _ hu')⟩
 ·rintro⟨r1,r2⟩ s' ⟨hr,rfl,_⟩;simp only at hr;subst hr;exact Wc h
theorem Z7 {k:K×List K}(hk:lB knd s.heap k a)(h:Q true s):Wj (Wm prog w) A (eqIsQuiet 8 (.ref a)) Q E s:=by
 have hT:=hk.typeIs;obtain⟨o,items,n,v,b,ho,_,hd,hi,h1,h2⟩:=hk;unfold eqIsQuiet;refine Wa (Vi hT F.slot_tuple_eq.lookup ?_);show Wj _ _ (isInstance (.ref a) (.type "tuple") >>= _) _ _ s;refine Wa (Vf hT isSubtype_tuple_tuple ?_);simp only[YQ,XF,if_false];refine Wa (Va ho hd ?_);refine Wa ?_;show Wj _ _ (forIn items _ _) _ _ s;rw[<- Array.forIn_toList,hi];refine Vg _ (λrest r s'=>r.1=none/\s'=s/\(rest=[v,.ref b]\/rest=[.ref b]\/rest=[])) _ ?_ ?_ _ _ ⟨rfl,rfl,.inl rfl⟩
 ·rintro u rest r s' ⟨hr,rfl,e | e | e⟩
  ·cases e;rw[eqIsQuiet_byValue _ (knd.byValue _ _ h1)];refine Wa (Wc ?_);simp only[YQ,XF,if_false];exact Wc ⟨rfl,rfl,.inr (.inl trivial)⟩
  ·cases e;refine Wa (Z6 (n:=6) h2 ?_);simp only[YQ,XF,if_false];exact Wc ⟨rfl,rfl,.inr (.inr trivial)⟩
  ·cases e
 ·rintro⟨r1,r2⟩ s' ⟨hr,rfl,_⟩;simp only at hr;subst hr;exact Wc h
end
def xN {prog:Wo}{w:Ws}{K:Type} [DecidableEq K] (knd:KeyKind prog w K):HeapKind prog w (K×List K) where
 is:=lB knd
 hash:=CK knd
 draws:=λk=>k.2.length+3
 room:=λA=>A.units+8<WG
 inj:=λhx hy=>hx.inj hy
 keeps:=λx ho hd hs=>x.keeps ho hd hs
 pyHash:=λhu hk h=>Z3 hu hk h
 eqBool:=λhu hx hy h=>Z5 hu hx hy h
 quiet:=λhk h=>Z7 hk h
end PySem
namespace PL
open PySem PySem.Spec L2
open PyProof.Rows hiding St
inductive PV where
 | non | bl (b:Bool) | int (i:Int) | str (x:Str) | ty (n:String)
 | tup (ds:List PV) | lst (ds:List PV) | dK (ks:List Key) (ds:List PV) | dT (ks:List (List Key)) (ds:List PV)
  | obj (C:We) (ks:Tn) (ds:List PV)
  | dP (ks:List (Int×Tp))
instance:DecidableEq PV:=λ_ _=>Qt _
abbrev FZ:=We->Prop
def KX (K:Xc)(a:We)(xs:List V):Prop:=∃(its:Array Wb)(n:Nat),K.lookup a=some { cls:=.type "list",data:=.seq its n }/\its.size<=Wi/\Vals xs its.toList
theorem KX.sq {K:Xc}{H:Hp}{a:We}{xs:List V}(h:KX K a xs):aR K H a xs:=let ⟨its,n,h1,h2,h3⟩:=h;.inr ⟨_,its,n,h1,rfl,rfl,rfl,h2,h3⟩
def zc (k:Int×Tp):Int:=Vk (Qv [hashInt k.1,Vk (Qv (k.2.map hashInt))])
def j7 (a:We)(ks:List (Int×Tp))(cs:Tr):HO:=.ext λh=>ks.length<=Wi/\(a == WH)=false/\cs.length=ks.length/\ks.Nodup/\∃o es ep,h.get? a=some o/\o.ExactDict/\o.data=.dict es ep/\es.toList=(ks.zip cs).map λx=>⟨zc x.1,.ref x.2,.bool true⟩
def PK (H:Hp)(k:Int×Tp)(a:We):Prop:=∃b,H a=some (.tup [.int k.1,.ref b])/\H b=some (.tup (k.2.map V.int))
mutual
def aq (K:Xc)(Fz:FZ)(H:Hp):PV->V->Prop
 | .non,v=>v=.non
 | .bl b,v=>v=.bl b
 | .int i,v=>v=.int i
 | .str x,v=>v=.str x
 | .ty n,v=>v=.ty n
 | .tup ds,v=>∃a xs,v=.ref a/\H a=some (.tup xs)/\aj K Fz H ds xs
 | .lst ds,v=>∃a xs,v=.ref a/\((Fz a/\Rd H a (.lst xs))\/KX K a xs)/\aj K Fz H ds xs
 | .dK ks ds,v=>∃a xs,v=.ref a/\Fz a/\Rd H a (.dK (ks.zip xs))/\ks.length=xs.length/\aj K Fz H ds xs
 | .dT ks ds,v=>∃a xs,v=.ref a/\Fz a/\Rd H a (.dT (ks.zip xs))/\ks.length=xs.length/\aj K Fz H ds xs
 | .dP ks,v=>∃a cs,v=.ref a/\Fz a/\Rd H a (j7 a ks cs)/\∀x∈ks.zip cs,PK H x.1 x.2
 | .obj C ks ds,v=>∃a dx xs,v=.ref a/\Fz a/\H a=some (.ins C dx (ks.zip xs))/\ks.length=xs.length/\aj K Fz H ds xs
def aj (K:Xc)(Fz:FZ)(H:Hp):List PV->List V->Prop
 | [],xs=>xs=[]
 | d::ds,xs=>∃v r,xs=v::r/\aq K Fz H d v/\aj K Fz H ds r
end
def aA (K:Xc)(Fz:FZ)(H:Hp):PV->V->Prop
 | .lst ds,v=>∃a xs,v=.ref a/\(Rd H a (.lst xs)\/KX K a xs)/\aj K Fz H ds xs
 | .dK ks ds,v=>∃a xs,v=.ref a/\Rd H a (.dK (ks.zip xs))/\ks.length=xs.length/\aj K Fz H ds xs
 | .dT ks ds,v=>∃a xs,v=.ref a/\Rd H a (.dT (ks.zip xs))/\ks.length=xs.length/\aj K Fz H ds xs
 | .dP ks,v=>∃a cs,v=.ref a/\Rd H a (j7 a ks cs)/\∀x∈ks.zip cs,PK H x.1 x.2
 | d,v=>aq K Fz H d v
def Own (K:Xc)(Fz:FZ)(H:Hp):PV->We->Prop
 | .lst ds,a=>∃xs,H a=some (.lst xs)/\aj K Fz H ds xs
 | .dK ks ds,a=>∃xs,H a=some (.dK (ks.zip xs))/\ks.length=xs.length/\aj K Fz H ds xs
 | .dT ks ds,a=>∃xs,H a=some (.dT (ks.zip xs))/\ks.length=xs.length/\aj K Fz H ds xs
 | .dP ks,a=>∃cs,H a=some (j7 a ks cs)/\∀x∈ks.zip cs,PK H x.1 x.2
 | _,_=>False
def nQ:HO->Prop
 | .tup _=>True
 | .aH _ _=>True
 | _=>False
def Pl:HO->Prop
 | .lst _=>True
 | .tup _=>True
 | .dK _=>True
 | .dT _=>True
 | .ext _=>True
 | _=>False
structure Keep (Fz:FZ)(H H':Hp):Prop where
 rd':∀b u,Pl u->Fz b->Rd H b u->Rd H' b u
 tup:∀b xs,H b=some (.tup xs)->H' b=some (.tup xs)
 ins:∀b C dx fs,Fz b->H b=some (.ins C dx fs)->H' b=some (.ins C dx fs)
def uz (Fz:FZ)(H H':Hp):Prop:=∀b o,H b=some o->(Fz b\/nQ o)->H' b=some o
theorem Keep.mk' {Fz:FZ}{H H':Hp}(h:uz Fz H H'):Keep Fz H H':=
 ⟨λb u _ f r=>by
  rcases r with r | ⟨o,r⟩
  ·exact .inl (h b _ r (.inl f))
  ·exact .inr ⟨o,h b _ r (.inl f)⟩,λb xs r=>h b _ r (.inr trivial),λb C dx fs f r=>h b _ r (.inl f)⟩
theorem Keep.of {Fz:FZ}{H H':Hp}(h:Same H H'):Keep Fz H H':=.mk' λb o e _=>h b o e
theorem Keep.rd {Fz:FZ}{H H':Hp}(k:Keep Fz H H'){a:We}{u:HO}(pl:Pl u)(hf:Fz a)(h:Rd H a u):Rd H' a u:=k.rd' a u pl hf h
theorem Keep.pk {Fz:FZ}{H H':Hp}(k:Keep Fz H H'){x:Int×Tp}{a:We}(h:PK H x a):PK H' x a:=let ⟨b,h1,h2⟩:=h;⟨b,k.tup _ _ h1,k.tup _ _ h2⟩
theorem Keep.Z8 {K:Xc}{Fz:FZ}{H H':Hp}(k:Keep Fz H H'){a:We}{xs:List V}(h:H a=some (.tup xs)):bG K H' a xs:=bG.of (k.tup a xs h)
section
variable {K:Xc}{Fz ao:FZ}{H H':Hp}
mutual
theorem aq.mono (k:Keep Fz H H')(s:∀b,Fz b->ao b):∀(d:PV)(v:V),aq K Fz H d v->aq K ao H' d v
 | .non,v,h=>by simpa only[aq]using h
 | .bl b,v,h=>by simpa only[aq]using h
 | .int i,v,h=>by simpa only[aq]using h
 | .str x,v,h=>by simpa only[aq]using h
 | .ty n,v,h=>by simpa only[aq]using h
 | .tup ds,v,h=>by
  simp only[aq]at h ⊢;obtain⟨a,xs,e,h1,h2⟩:=h;exact⟨a,xs,e,k.tup a xs h1,aj.mono k s ds xs h2⟩
 | .lst ds,v,h=>by
  simp only[aq]at h ⊢;obtain⟨a,xs,e,h1,h2⟩:=h;refine⟨a,xs,e,?_,aj.mono k s ds xs h2⟩;rcases h1 with ⟨f,h1⟩ | h1
  ·exact .inl ⟨s a f,k.rd trivial f h1⟩
  ·exact .inr h1
 | .dK ks ds,v,h=>by
  simp only[aq]at h ⊢;obtain⟨a,xs,e,f,h1,h2,h3⟩:=h;exact⟨a,xs,e,s a f,k.rd trivial f h1,h2,aj.mono k s ds xs h3⟩
 | .dT ks ds,v,h=>by
  simp only[aq]at h ⊢;obtain⟨a,xs,e,f,h1,h2,h3⟩:=h;exact⟨a,xs,e,s a f,k.rd trivial f h1,h2,aj.mono k s ds xs h3⟩
 | .dP ks,v,h=>by
  simp only[aq]at h ⊢;obtain⟨a,cs,e,f,h1,h2⟩:=h;exact⟨a,cs,e,s a f,k.rd trivial f h1,λx hx=>k.pk (h2 x hx)⟩
 | .obj C ks ds,v,h=>by
  simp only[aq]at h ⊢;obtain⟨a,dx,xs,e,f,h1,h2,h3⟩:=h;exact⟨a,dx,xs,e,s a f,k.ins a _ _ _ f h1,h2,aj.mono k s ds xs h3⟩
theorem aj.mono (k:Keep Fz H H')(s:∀b,Fz b->ao b):∀(ds:List PV)(xs:List V),aj K Fz H ds xs->aj K ao H' ds xs
 | [],xs,h=>by simpa only[aj]using h
 | d::ds,xs,h=>by
  simp only[aj]at h ⊢;obtain⟨v,r,e,h1,h2⟩:=h;exact⟨v,r,e,aq.mono k s d v h1,aj.mono k s ds r h2⟩
end
theorem aq.root {d:PV}{v:V}(h:aq K Fz H d v):aA K Fz H d v:=by
 cases d with
 | lst ds=>
  simp only[aq]at h;obtain⟨a,xs,e,h1,h2⟩:=h;refine⟨a,xs,e,?_,h2⟩;rcases h1 with ⟨f,h1⟩ | h1
  ·exact .inl h1
  ·exact .inr h1
 | dK ks ds=>
  simp only[aq]at h;obtain⟨a,xs,e,_,h1,h2⟩:=h;exact⟨a,xs,e,h1,h2⟩
 | dT ks ds=>
  simp only[aq]at h;obtain⟨a,xs,e,_,h1,h2⟩:=h;exact⟨a,xs,e,h1,h2⟩
 | non=>exact h
 | bl b=>exact h
 | int i=>exact h
 | str x=>exact h
 | ty n=>exact h
 | tup ds=>exact h
 | dP ks=>
  simp only[aq]at h;obtain⟨a,cs,e,_,h1,h2⟩:=h;exact⟨a,cs,e,h1,h2⟩
 | obj C ks ds=>exact h
theorem Own.root {d:PV}{a:We}(h:Own K Fz H d a):aA K Fz H d (.ref a):=by
 cases d with
 | lst ds=>obtain⟨xs,h1,h2⟩:=h;exact⟨a,xs,rfl,.inl (.inl h1),h2⟩
 | dK ks ds=>obtain⟨xs,h1,h2⟩:=h;exact⟨a,xs,rfl,.inl h1,h2⟩
 | dT ks ds=>obtain⟨xs,h1,h2⟩:=h;exact⟨a,xs,rfl,.inl h1,h2⟩
 | non=>exact h.elim
 | bl b=>exact h.elim
 | int i=>exact h.elim
 | str x=>exact h.elim
 | ty n=>exact h.elim
 | tup ds=>exact h.elim
 | dP ks=>obtain⟨cs,h1,h2⟩:=h;exact⟨a,cs,rfl,.inl h1,h2⟩
 | obj C ks ds=>exact h.elim
theorem Own.den {d:PV}{a:We}(h:Own K Fz H d a)(f:Fz a):aq K Fz H d (.ref a):=by
 cases d with
 | lst ds=>obtain⟨xs,h1,h2⟩:=h;simp only[aq];exact⟨a,xs,rfl,.inl ⟨f,.inl h1⟩,h2⟩
 | dK ks ds=>obtain⟨xs,h1,h2⟩:=h;simp only[aq];exact⟨a,xs,rfl,f,.inl h1,h2⟩
 | dT ks ds=>obtain⟨xs,h1,h2⟩:=h;simp only[aq];exact⟨a,xs,rfl,f,.inl h1,h2⟩
 | non=>exact h.elim
 | bl b=>exact h.elim
 | int i=>exact h.elim
 | str x=>exact h.elim
 | ty n=>exact h.elim
 | tup ds=>exact h.elim
 | dP ks=>obtain⟨cs,h1,h2⟩:=h;simp only[aq];exact⟨a,cs,rfl,f,.inl h1,h2⟩
 | obj C ks ds=>exact h.elim
theorem Own.at {d:PV}{a:We}(h:Own K Fz H d a):∃o,H a=some o/\¬ nQ o:=by
 cases d with
 | lst ds=>obtain⟨xs,h1,h2⟩:=h;exact⟨_,h1,λz=>z⟩
 | dK ks ds=>obtain⟨xs,h1,h2⟩:=h;exact⟨_,h1,λz=>z⟩
 | dT ks ds=>obtain⟨xs,h1,h2⟩:=h;exact⟨_,h1,λz=>z⟩
 | non=>exact h.elim
 | bl b=>exact h.elim
 | int i=>exact h.elim
 | str x=>exact h.elim
 | ty n=>exact h.elim
 | tup ds=>exact h.elim
 | dP ks=>obtain⟨cs,h1,h2⟩:=h;exact⟨_,h1,λz=>z⟩
 | obj C ks ds=>exact h.elim
theorem Own.mono {d:PV}{a:We}(k:Keep Fz H H')(s:∀b,Fz b->ao b)(ha:∀o,H a=some o->H' a=some o)(h:Own K Fz H d a):Own K ao H' d a:=by
 cases d with
 | lst ds=>obtain⟨xs,h1,h2⟩:=h;exact⟨xs,ha _ h1,aj.mono k s _ _ h2⟩
 | dK ks ds=>obtain⟨xs,h1,h2,h3⟩:=h;exact⟨xs,ha _ h1,h2,aj.mono k s _ _ h3⟩
 | dT ks ds=>obtain⟨xs,h1,h2,h3⟩:=h;exact⟨xs,ha _ h1,h2,aj.mono k s _ _ h3⟩
 | non=>exact h.elim
 | bl b=>exact h.elim
 | int i=>exact h.elim
 | str x=>exact h.elim
 | ty n=>exact h.elim
 | tup ds=>exact h.elim
 | dP ks=>obtain⟨cs,h1,h2⟩:=h;exact⟨cs,ha _ h1,λx hx=>k.pk (h2 x hx)⟩
 | obj C ks ds=>exact h.elim
theorem aA.mono {d:PV}{v:V}(k:Same H H')(s:∀b,Fz b->ao b)(h:aA K Fz H d v):aA K ao H' d v:=by
 have rd:∀ {a u},Rd H a u->Rd H' a u:=λ{a u} q=>by
  rcases q with q | ⟨o,q⟩
  ·exact .inl (k _ _ q)
  ·exact .inr ⟨o,k _ _ q⟩
 cases d with
 | lst ds=>obtain⟨a,xs,e,h1,h2⟩:=h;exact⟨a,xs,e,h1.imp rd id,aj.mono (.of k) s _ _ h2⟩
 | dK ks ds=>obtain⟨a,xs,e,h1,h2,h3⟩:=h;exact⟨a,xs,e,rd h1,h2,aj.mono (.of k) s _ _ h3⟩
 | dT ks ds=>obtain⟨a,xs,e,h1,h2,h3⟩:=h;exact⟨a,xs,e,rd h1,h2,aj.mono (.of k) s _ _ h3⟩
 | non=>exact aq.mono (.of k) s _ _ h
 | bl b=>exact aq.mono (.of k) s _ _ h
 | int i=>exact aq.mono (.of k) s _ _ h
 | str x=>exact aq.mono (.of k) s _ _ h
 | ty n=>exact aq.mono (.of k) s _ _ h
 | tup ds=>exact aq.mono (.of k) s _ _ h
 | dP ks=>obtain⟨a,cs,e,h1,h2⟩:=h;exact⟨a,cs,e,rd h1,λx hx=>(Keep.of (Fz:=Fz) k).pk (h2 x hx)⟩
 | obj C ks ds=>exact aq.mono (.of k) s _ _ h
theorem aj.length:∀(ds:List PV)(xs:List V),aj K Fz H ds xs->ds.length=xs.length
 | [],xs,h=>by simp only[aj]at h;subst h;rfl
 | d::ds,xs,h=>by
  simp only[aj]at h;obtain⟨v,r,z,_,h2⟩:=h;subst z;rw[XX,XX,aj.length ds r h2]
theorem aj.get:∀ {ds:List PV}{xs:List V}{i:Nat}{d:PV},aj K Fz H ds xs->ds[i]? = some d->∃v,xs[i]? = some v/\aq K Fz H d v
 | [],xs,i,d,h,e=>by simp at e
 | d0::ds,xs,i,d,h,e=>by
  simp only[aj]at h;obtain⟨v0,r,z,h1,h2⟩:=h;subst z;cases i with
  | zero=>simp at e;subst e;exact⟨v0,rfl,h1⟩
  | succ i=>
   obtain⟨v,q,h⟩:=aj.get h2 (i:=i) (d:=d) (by simpa using e);exact⟨v,by simpa using q,h⟩
theorem aj.nil:aj K Fz H [] []:=by simp only[aj]
theorem aj.cons {d:PV}{v:V}{ds:List PV}{xs:List V}(h1:aq K Fz H d v)(h2:aj K Fz H ds xs):aj K Fz H (d::ds) (v::xs):=by
 simp only[aj];exact⟨v,xs,rfl,h1,h2⟩
theorem aj.append:∀ {ds es:List PV}{xs ys:List V},aj K Fz H ds xs->aj K Fz H es ys->aj K Fz H (ds++es) (xs++ys)
 | [],es,xs,ys,h,g=>by simp only[aj]at h;subst h;exact g
 | d::ds,es,xs,ys,h,g=>by
  simp only[aj]at h;obtain⟨v,r,z,h1,h2⟩:=h;subst z;exact aj.cons h1 (aj.append h2 g)
theorem aj.snoc {ds:List PV}{xs:List V}{d:PV}{v:V}(h:aj K Fz H ds xs)(g:aq K Fz H d v):aj K Fz H (ds++[d]) (xs++[v]):=h.append (aj.cons g aj.nil)
theorem aj.split:∀ {ds es:List PV}{xs:List V},aj K Fz H (ds++es) xs->∃ys zs,xs=ys++zs/\aj K Fz H ds ys/\aj K Fz H es zs
 | [],es,xs,h=>⟨[],xs,rfl,aj.nil,h⟩
 | d::ds,es,xs,h=>by
  rw[List.cons_append]at h;simp only[aj]at h;obtain⟨v,r,z,h1,h2⟩:=h;subst z;obtain⟨ys,zs,e,g1,g2⟩:=aj.split h2;exact⟨v::ys,zs,by rw[e];rfl,aj.cons h1 g1,g2⟩
theorem aj.take {ds:List PV}{xs:List V}(n:Nat)(h:aj K Fz H ds xs):aj K Fz H (ds.take n) (xs.take n):=by
 have hl:=h.length;obtain⟨ys,zs,e,g1,g2⟩:=aj.split (ds:=ds.take n) (es:=ds.drop n) (by rw[Yi];exact h);have h1:=g1.length;subst e;by_cases hn:n<=ds.length
 ·rw[XJ,Oc hn]at h1;rw[List.take_append_of_le_length (by lia),Xs (i:=n) (l:=ys) (by lia)];exact g1
 ·rw[Xs (i:=n) (l:=ds) (by lia),Xs (i:=n) (l:=ys++zs) (by lia)];exact h
theorem aj.drop {ds:List PV}{xs:List V}(n:Nat)(h:aj K Fz H ds xs):aj K Fz H (ds.drop n) (xs.drop n):=by
 have hl:=h.length;obtain⟨ys,zs,e,g1,g2⟩:=aj.split (ds:=ds.take n) (es:=ds.drop n) (by rw[Yi];exact h);have h1:=g1.length;subst e;by_cases hn:n<=ds.length
 ·rw[XJ,Oc hn]at h1;rw[List.drop_append,YA (i:=n) (l:=ys) (by lia),show n-ys.length=0 by lia];exact g2
 ·rw[YA (i:=n) (l:=ds) (by lia),YA (i:=n) (l:=ys++zs) (by lia)];exact aj.nil
theorem aj.reverse:∀ {ds:List PV}{xs:List V},aj K Fz H ds xs->aj K Fz H ds.reverse xs.reverse
 | [],xs,h=>by simp only[aj]at h;subst h;exact aj.nil
 | d::ds,xs,h=>by
  simp only[aj]at h;obtain⟨v,r,z,h1,h2⟩:=h;subst z;rw[O7,O7];exact aj.snoc (aj.reverse h2) h1
theorem aj.set:∀ {ds:List PV}{xs:List V}{d:PV}{v:V}(i:Nat),aj K Fz H ds xs->aq K Fz H d v->aj K Fz H (ds.set i d) (xs.set i v)
 | [],xs,d,v,i,h,g=>by simp only[aj]at h;subst h;exact aj.nil
 | d0::ds,xs,d,v,i,h,g=>by
  simp only[aj]at h;obtain⟨v0,r,z,h1,h2⟩:=h;subst z;cases i with
  | zero=>exact aj.cons g h2
  | succ i=>exact aj.cons h1 (aj.set i h2 g)
theorem aj.eraseIdx:∀ {ds:List PV}{xs:List V}(i:Nat),aj K Fz H ds xs->aj K Fz H (ds.eraseIdx i) (xs.eraseIdx i)
 | [],xs,i,h=>by simp only[aj]at h;subst h;exact aj.nil
 | d0::ds,xs,i,h=>by
  simp only[aj]at h;obtain⟨v0,r,z,h1,h2⟩:=h;subst z;cases i with
  | zero=>exact h2
  | succ i=>exact aj.cons h1 (aj.eraseIdx i h2)
end
abbrev au:=List (Option (PV×Bool))
structure Rel (K:Xc)(Fz:FZ)(ρ:au)(σ:St)(H:Hp):Prop where
 al:∀b,Fz b->H b≠none
 len:ρ.length=σ.length
 aH:∀(i:Nat) (d:PV),ρ[i]? = some (some (d,false))->∃v,σ[i]? = some (some v)/\aq K Fz H d v
 own:∀(i:Nat) (d:PV),ρ[i]? = some (some (d,true))->∃a,σ[i]? = some (some (.ref a))/\¬ Fz a/\Own K Fz H d a
 inj:∀(i j:Nat) (d e:PV) (a:We),ρ[i]? = some (some (d,true))->ρ[j]? = some (some (e,true))->σ[i]? = some (some (.ref a))->σ[j]? = some (some (.ref a))->i=j
def bK (ρ:au)(σ:St)(a:We):Prop:=∃(i:Nat)(d:PV),ρ[i]? = some (some (d,true))/\σ[i]? = some (some (.ref a))
structure Ext (Fz:FZ)(H:Hp)(ao:FZ)(H':Hp):Prop where
 same:Same H H'
 sub:∀b,Fz b->ao b
 new:∀b,ao b->Fz b\/H b=none
 al:∀b,ao b->H' b≠none
theorem Ext.trans {F1 F2 F3:FZ}{H1 H2 H3:Hp}(a:Ext F1 H1 F2 H2)(b:Ext F2 H2 F3 H3):Ext F1 H1 F3 H3:=
 ⟨a.same.trans b.same,λc h=>b.sub c (a.sub c h),λc h=>by
  rcases b.new c h with h | h
  ·exact a.new c h
  ·exact .inr (a.same.free h),b.al⟩
theorem Ext.add {Fz ao:FZ}{H H':Hp}{a:We}(x:Ext Fz H ao H')(h:H a=none)(h':H' a≠none):Ext Fz H (λb=>ao b\/b=a) H':=
 ⟨x.same,λb h=>.inl (x.sub b h),λb hb=>by
  rcases hb with hb | rfl
  ·exact x.new b hb
  ·exact .inr h,λb hb=>by
  rcases hb with hb | rfl
  ·exact x.al b hb
  ·exact h'⟩
theorem Ext.laid {Fz ao:FZ}{H H':Hp}{p:We}{o:HO}(x:Ext Fz H ao H')(h:H' p=none):Ext Fz H ao (upd H' p o):=
 ⟨x.same.trans (λb u e=>by rw[aO (mH e h)];exact e),x.sub,x.new,λb hb=>by
  by_cases e:b=p
  ·subst e;rw[bF];exact λz=>nomatch z
  ·rw[aO e];exact x.al b hb⟩
theorem Rel.ext {K:Xc}{Fz ao:FZ}{ρ:au}{σ:St}{H H':Hp}(R:Rel K Fz ρ σ H)(x:Ext Fz H ao H'):Rel K ao ρ σ H' where
 al:=x.al
 len:=R.len
 aH i d h:=by
  obtain⟨v,e,q⟩:=R.aH i d h;exact⟨v,e,aq.mono (.of x.same) x.sub d v q⟩
 own i d h:=by
  obtain⟨a,e,n,q⟩:=R.own i d h;refine⟨a,e,λz=>?_,q.mono (.of x.same) x.sub (λo h=>x.same _ _ h)⟩;rcases x.new a z with z | z
  ·exact n z
  ·obtain⟨o,h,_⟩:=q.at;rw[h]at z;cases z
 inj:=R.inj
inductive Kd where
 | aH | new | own (i:Nat)
def lC (K:Xc)(ao:FZ)(H':Hp)(ρ:au)(σ:St)(H:Hp)(d:PV):Kd->V->Prop
 | .aH,v=>aq K ao H' d v
 | .new,v=>∃a,v=.ref a/\H a=none/\¬ ao a/\Own K ao H' d a
 | .own i,v=>ρ[i]? = some (some (d,true))/\σ[i]? = some (some v)
structure Post (K:Xc)(ρ:au)(σ:St)(Fz:FZ)(H:Hp)(ao:FZ)(H':Hp)(d:PV)(k:Kd)(v:V):Prop where
 ext:Ext Fz H ao H'
 gm:lC K ao H' ρ σ H d k v
theorem Post.root {K:Xc}{ρ:au}{σ:St}{Fz ao:FZ}{H H':Hp}{d:PV}{k:Kd}{v:V}(R:Rel K Fz ρ σ H)(p:Post K ρ σ Fz H ao H' d k v):aA K ao H' d v:=by
 cases k with
 | aH=>exact aq.root p.gm
 | new=>obtain⟨a,e,_,_,h⟩:=p.gm;subst e;exact h.root
 | own i=>
  obtain⟨h1,h2⟩:=p.gm;obtain⟨a,e,_,q⟩:=(R.ext p.ext).own i d h1;rw[h2]at e;cases e;exact q.root
theorem Post.frozen {K:Xc}{ρ:au}{σ:St}{Fz ao:FZ}{H H':Hp}{d:PV}{k:Kd}{v:V}(hk:k=.aH\/k=.new)(p:Post K ρ σ Fz H ao H' d k v) :
  ∃bV,Ext Fz H bV H'/\(∀b,ao b->bV b)/\aq K bV H' d v:=by
 rcases hk with rfl | rfl
 ·exact⟨ao,p.ext,λ_ h=>h,p.gm⟩
 ·obtain⟨a,e,hn,_,h⟩:=p.gm;subst e;exact⟨λb=>ao b\/b=a,p.ext.add hn (by obtain⟨o,e,_⟩:=h.at;rw[e];exact λz=>nomatch z),λ_ h=>.inl h,(h.mono (ao:=λb=>ao b\/b=a) (Keep.of (Same.refl _)) (λ_ h=>.inl h) (λ_ h=>h)).den (.inr rfl)⟩
abbrev aN:=au->(PV->Kd->Prop)->Prop
abbrev cY:=au->(Bool->Prop)->Prop
abbrev gO:=au->(List (PV×Kd)->Prop)->Prop
def lift (K:Xc)(t:aN):TE:=λσ H Q=>∃ρ Fz,Rel K Fz ρ σ H/\t ρ λd k=>∀v ao H',Post K ρ σ Fz H ao H' d k v->Q v H'
def liftT (K:Xc)(t:cY):TT:=λσ H Q=>∃ρ Fz,Rel K Fz ρ σ H/\t ρ λb=>∀ao H',Ext Fz H ao H'->Q b H'
structure aD (X:Cx)(e:Expr)(t:aN):Prop where
 mono:∀ρ Q Q',(∀d k,Q d k->Q' d k)->t ρ Q->t ρ Q'
 run:PE X e (lift X.K t)
structure gq (X:Cx)(e:Expr)(t:cY):Prop where
 mono:∀ρ Q Q',(∀b,Q b->Q' b)->t ρ Q->t ρ Q'
 run:PT X e (liftT X.K t)
theorem PE.weak {X:Cx}{e:Expr}{t t':TE}(h:PE X e t)(w:∀σ H Q,t' σ H Q->t σ H Q):PE X e t':=λpins s σ H Q I q=>h pins s σ H Q I (w σ H Q q)
theorem PT.weak {X:Cx}{e:Expr}{t t':TT}(h:PT X e t)(w:∀σ H Q,t' σ H Q->t σ H Q):PT X e t':=λpins s σ H Q I q=>h pins s σ H Q I (w σ H Q q)
theorem Z9 {X:Cx}{a b:Expr}{ta tb:aN}(ha:aD X a ta)(hb:aD X b tb){σ:St}{H:Hp}{R:V->V->Hp->Prop}
  (ρ:au) (Fz:FZ) (Re:Rel X.K Fz ρ σ H)
  (h:ta ρ λd kd=>tb ρ λe ke=>∀x y aX H1 bV H2,Post X.K ρ σ Fz H aX H1 d kd x->Post X.K ρ σ aX H1 bV H2 e ke y->R x y H2) :
  lift X.K ta σ H λx H1=>lift X.K tb σ H1 λy H2=>R x y H2:=
 ⟨ρ,Fz,Re,ha.mono ρ _ _ (λd kd q v aX H1 p1=>⟨ρ,aX,Re.ext p1.ext,hb.mono ρ _ _ (λe ke q w bV H2 p2=>q v w aX H1 bV H2 p1 p2) q⟩) h⟩
end PL
namespace PL
open PySem PySem.Spec L2
open PyProof.Rows hiding St
variable {ρ:au}{x:V}{e:Expr}{d:PV}{σ:St}{H:Hp}{K:Xc}{Fz:FZ}{ds es:List PV}
section
variable {K:Xc}{ρ:au}{σ:St}{Fz aX bV:FZ}{H H1 H2:Hp}{d:PV}{k:Kd}{v:V}
theorem lC.ext (x:Ext aX H1 bV H2)(h:lC K aX H1 ρ σ H d k v):lC K bV H2 ρ σ H d k v:=by
 cases k with
 | aH=>exact aq.mono (.of x.same) x.sub _ _ h
 | new=>
  obtain⟨a,e,hn,nf,o⟩:=h;refine⟨a,e,hn,λz=>?_,o.mono (.of x.same) x.sub (λo h=>x.same _ _ h)⟩;rcases x.new a z with z | z
  ·exact nf z
  ·obtain⟨o',h,_⟩:=o.at;rw[h]at z;cases z
 | own i=>exact h
theorem lC.back (s:Same H H1)(h:lC K bV H2 ρ σ H1 d k v):lC K bV H2 ρ σ H d k v:=by
 cases k with
 | aH=>exact h
 | new=>obtain⟨a,e,hn,r⟩:=h;exact⟨a,e,s.free hn,r⟩
 | own i=>exact h
theorem lC.up (h:lC K bV H2 [] [] H d k v):lC K bV H2 ρ σ H d k v:=by
 cases k with
 | aH=>exact h
 | new=>exact h
 | own i=>obtain⟨z,_⟩:=h;simp at z
theorem Post.behind (x:Ext Fz H aX H1)(p:Post K [] [] aX H1 bV H2 d k v):Post K ρ σ Fz H bV H2 d k v:=
 ⟨x.trans p.ext,(p.gm.up (ρ:=ρ) (σ:=σ)).back x.same⟩
theorem Post.then(x:Ext Fz H aX H1)(p:Post K ρ σ aX H1 bV H2 d k v):Post K ρ σ Fz H bV H2 d k v:=
 ⟨x.trans p.ext,p.gm.back x.same⟩
theorem Post.val (al:∀b,Fz b->H b≠none)(h:aq K Fz H d v):Post K ρ σ Fz H Fz H d .aH v:=⟨⟨Same.refl H,λ_ h=>h,λ_ h=>.inl h,al⟩,h⟩
end
def pVar (i:Nat):aN:=λρ Q=>match ρ[i]? with
 | some (some (d,b))=>Q d (if b then .own i else .aH)
 | _=>False
theorem CN {i:Nat}{Q:PV->Kd->Prop}:pVar i ρ Q↔∃d b,ρ[i]? = some (some (d,b))/\Q d (if b then .own i else .aH):=by
 unfold pVar;cases h:ρ[i]? with
 | none=>simp
 | some x=>
  cases x with
  | none=>simp
  | some p=>
   obtain⟨d,b⟩:=p;constructor
   ·exact λq=>⟨d,b,rfl,q⟩
   ·rintro⟨d',b',e,q⟩;cases e;exact q
def pC (d:PV):aN:=λ_ Q=>Q d .aH
section
variable {X:Cx}
theorem ak (i:Nat){x:Str}{pos:Pos}(hN:X.N[i]? = some x:=by rfl)(hv:iZ X.env.scope x:=by first | exact Qo rfl | exact Qp (Qo rfl) | exact Qp (Qp rfl))(hd:(x == ("__debug__" : Str))=false:=by decide)
  (hcd:(x == ("__classdict__" : Str))=false:=by decide):aD X (.Name x pos) (pVar i) where
 mono ρ Q Q' m h:=by obtain⟨d,b,e,q⟩:=CN.mp h;exact CN.mpr ⟨d,b,e,m _ _ q⟩
 run:=PE.weak (jn hN hv hd hcd) λσ H Q h=>by
  obtain⟨ρ,Fz,R,h⟩:=h;obtain⟨d,b,e,q⟩:=CN.mp h;cases b with
  | false=>
   obtain⟨v,e1,h1⟩:=R.aH i d e;exact⟨v,e1,q v Fz H (.val R.al h1)⟩
  | true=>
   obtain⟨a,e1,_,_⟩:=R.own i d e;exact⟨_,e1,q _ Fz H ⟨⟨Same.refl H,λ_ h=>h,λ_ h=>.inl h,R.al⟩,e,e1⟩⟩
theorem xO {v:V}(h:PE X e (tC v))(hd:∀Fz H,aq X.K Fz H d v):aD X e (pC d) where
 mono ρ Q Q' m h:=m _ _ h
 run:=PE.weak h λσ H Q h=>by
  obtain⟨ρ,Fz,R,q⟩:=h;exact q v Fz H (.val R.al (hd Fz H))
theorem bA {i j pos}:aD X (.Constant (.int i) j pos) (pC (.int i)):=xO Gr λ_ _=>by simp only[aq]
theorem sZ {b j pos}:aD X (.Constant (.bool b) j pos) (pC (.bl b)):=xO Gs λ_ _=>by simp only[aq]
theorem zf {j pos}:aD X (.Constant .none j pos) (pC .non):=xO Az λ_ _=>by simp only[aq]
theorem zug {x j pos}:aD X (.Constant (.str x) j pos) (pC (.str x)):=xO Sy λ_ _=>by simp only[aq]
theorem CP {x:Str}{T:String}{pos:Pos}(hg:Gl X x)(hm:X.mg x=none)(hv:Wt x=some (.type T))(hn:x≠"__name__":=by decide) (hd:(x == ("__debug__" : Str))=false:=by decide):aD X (.Name x pos) (pC (.ty T)):=
 xO (SM (v:=.ty T) hg hm hv rfl hn hd) λ_ _=>by simp only[aq]
end
abbrev P2:=PV->PV->(PV->Kd->Prop)->Prop
structure jB (K:Xc)(r:R2)(p:P2):Prop where
 mono:∀d e Q Q',(∀z k,Q z k->Q' z k)->p d e Q->p d e Q'
 run:∀Fz H x y d e Q,(∀b,Fz b->H b≠none)->aA K Fz H d x->aA K Fz H e y->p d e (λz k=>∀v ao H',Post K [] [] Fz H ao H' z k v->Q v H')->r x y H Q
def t2 (p:P2)(ta tb:aN):aN:=λρ Q=>ta ρ λd _=>tb ρ λe _=>p d e Q
section
variable {X:Cx}{a b:Expr}{ta tb:aN}{pos:Pos}{r:R2}{p:P2}
theorem qm (hp:jB X.K r p)(ha:aD X a ta)(hb:aD X b tb):∀ρ Q Q',(∀d k,Q d k->Q' d k)->t2 p ta tb ρ Q->t2 p ta tb ρ Q':=
 λρ Q Q' m h=>ha.mono ρ _ _ (λd _ h=>hb.mono ρ _ _ (λe _ h=>hp.mono d e _ _ m h) h) h
theorem vN (hp:jB X.K r p)(ha:aD X a ta)(hb:aD X b tb){Q:VK}(h:lift X.K (t2 p ta tb) σ H Q):wR r (lift X.K ta) (lift X.K tb) σ H Q:=by
 obtain⟨ρ,Fz,R,h⟩:=h;refine Z9 ha hb ρ Fz R (ha.mono ρ _ _ (λd kd h=>hb.mono ρ _ _ (λe ke h=>?_) h) h);intro x y aX H1 bV H2 p1 p2;have R1:=R.ext p1.ext;refine hp.run bV H2 x y d e Q p2.ext.al ((p1.root R).mono p2.ext.same p2.ext.sub) (p2.root R1) (hp.mono d e _ _ (λz k q v ao H' p3=>?_) h);exact q v ao H' (p3.behind (p1.ext.trans p2.ext))
theorem tu {op:Operator}(ho:gh X (W3 op) r)(hp:jB X.K r p)(ha:aD X a ta)(hb:aD X b tb):aD X (.BinOp a op b pos) (t2 p ta tb):=
 ⟨qm hp ha hb,PE.weak (Uh ho ha.run hb.run) λ_ _ _ h=>vN hp ha hb h⟩
theorem zuh {op:CmpOp}(ho:gh X (WU op) r)(hp:jB X.K r p)(ha:aD X a ta)(hb:aD X b tb)(hm:Ww op b=false:=by first | exact qg _ | rfl):aD X (.Compare a [op] [b] pos) (t2 p ta tb):=
 ⟨qm hp ha hb,PE.weak (Uw ho ha.run hb.run hm) λ_ _ _ h=>vN hp ha hb h⟩
def blP (d:PV)(Q:Bool->Prop):Prop:=match d with
 | .bl b=>Q b
 | _=>False
theorem xP {Q:Bool->Prop}:blP d Q↔∃b,d=.bl b/\Q b:=by
 unfold blP;constructor
 ·intro h;cases d<;>first | exact⟨_,rfl,h⟩ | exact h.elim
 ·rintro⟨b,rfl,q⟩;exact q
theorem CQ {Q Q':Bool->Prop}(m:∀b,Q b->Q' b)(h:blP d Q):blP d Q':=by
 obtain⟨b,e,q⟩:=xP.mp h;exact xP.mpr ⟨b,e,m b q⟩
def tBl (te:aN):cY:=λρ Q=>te ρ λd _=>blP d Q
theorem uD {op:CmpOp}(ho:gh X (WU op) r)(hp:jB X.K r p)(ha:aD X a ta)(hb:aD X b tb)(hm:Ww op b=false:=by first | exact qg _ | rfl):gq X (.Compare a [op] [b] pos) (tBl (t2 p ta tb)) where
 mono ρ Q Q' m h:=qm hp ha hb ρ _ _ (λd _ q=>CQ m q) h
 run:=PT.weak (Uy ho ha.run hb.run hm) λσ H Q h=>by
  obtain⟨ρ,Fz,R,h⟩:=h;refine vN hp ha hb ⟨ρ,Fz,R,qm hp ha hb ρ _ _ (λd k q v ao H' p=>?_) h⟩;obtain⟨b,e,q⟩:=xP.mp q;refine⟨b,?_,q ao H' p.ext⟩;subst e;have w:=p.root R;simpa only[aA,aq]using w
theorem zvO (ho:qi X r)(hp:jB X.K r p)(ha:aD X a ta)(hb:aD X b tb)(hs:yU b:=by exact λ_ _=>rfl):aD X (.Subscript a b pos) (t2 p ta tb):=
 ⟨qm hp ha hb,PE.weak (G6 ho ha.run hb.run hs) λ_ _ _ h=>vN hp ha hb h⟩
end
def i2 (C:Int->Int->Prop)(g:Int->Int->PV):P2:=λd e Q=>∃i j,d=.int i/\e=.int j/\C i j/\Q (g i j) .aH
def i0 (g:Int->Int->PV):P2:=λd e Q=>∃i j,d=.int i/\e=.int j/\Q (g i j) .aH
section
variable {K:Xc}
theorem zj {C:Int->Int->Prop}{g:Int->Int->Int}:jB K (rI C λi j=>.int (g i j)) (i2 C λi j=>.int (g i j)) where
 mono d e Q Q' m h:=by obtain⟨i,j,e1,e2,c,q⟩:=h;exact⟨i,j,e1,e2,c,m _ _ q⟩
 run Fz H x y d e Q al rx ry h:=by
  obtain⟨i,j,rfl,rfl,c,q⟩:=h;simp only[aA,aq]at rx ry;exact⟨i,j,rx,ry,c,q _ Fz H (.val al (by simp only[aq]))⟩
theorem Iu {g:Int->Int->Int}:jB K (sJ λi j=>.int (g i j)) (i0 λi j=>.int (g i j)) where
 mono d e Q Q' m h:=by obtain⟨i,j,e1,e2,q⟩:=h;exact⟨i,j,e1,e2,m _ _ q⟩
 run Fz H x y d e Q al rx ry h:=by
  obtain⟨i,j,rfl,rfl,q⟩:=h;simp only[aA,aq]at rx ry;exact⟨i,j,rx,ry,q _ Fz H (.val al (by simp only[aq]))⟩
theorem Iz {g:Int->Int->Bool}:jB K (sJ λi j=>.bl (g i j)) (i0 λi j=>.bl (g i j)) where
 mono d e Q Q' m h:=by obtain⟨i,j,e1,e2,q⟩:=h;exact⟨i,j,e1,e2,m _ _ q⟩
 run Fz H x y d e Q al rx ry h:=by
  obtain⟨i,j,rfl,rfl,q⟩:=h;simp only[aA,aq]at rx ry;exact⟨i,j,rx,ry,q _ Fz H (.val al (by simp only[aq]))⟩
end
section
variable {X:Cx}{a b:Expr}{ta tb:aN}{pos:Pos}
abbrev CT:=t2 (i0 λi j=>.int (i+j))
abbrev CV:=t2 (i0 λi j=>.int (i-j))
abbrev CW:=t2 (i2 oR λi j=>.int (i*j))
abbrev CZ:=t2 (i2 (λ_ j=>0<j) λi j=>.int (i % j))
abbrev Dc:=t2 (i2 wW λi j=>.int (i ^ j.toNat))
abbrev Dd:=t2 (i2 (λ_ j=>0<=j) λi j=>.int (i / 2 ^ j.toNat))
abbrev pLt:=t2 (i0 λi j=>.bl (decide (i<j)))
abbrev pGt:=t2 (i0 λi j=>.bl (decide (j<i)))
theorem lD (ha:aD X a ta)(hb:aD X b tb):aD X (.BinOp a .Add b pos) (CT ta tb):=tu Uj Iu ha hb
theorem zui (ha:aD X a ta)(hb:aD X b tb):aD X (.BinOp a .Sub b pos) (CV ta tb):=tu Uk Iu ha hb
theorem tD (ha:aD X a ta)(hb:aD X b tb):aD X (.BinOp a .Mult b pos) (CW ta tb):=tu Ul zj ha hb
theorem iQ (ha:aD X a ta)(hb:aD X b tb):aD X (.BinOp a .Mod b pos) (CZ ta tb):=tu Um zj ha hb
theorem zuj (ha:aD X a ta)(hb:aD X b tb):aD X (.BinOp a .Pow b pos) (Dc ta tb):=tu Uo zj ha hb
theorem IK (ha:aD X a ta)(hb:aD X b tb):aD X (.BinOp a .RShift b pos) (Dd ta tb):=tu Uq zj ha hb
end
def plain:Nat->PV->Bool
 | _,.non=>true
 | _,.int _=>true
 | _,.str _=>true
 | n+1,.tup ds=>ds.all (plain n)
 | n+1,.lst ds=>ds.all (plain n)
 | _,_=>false
theorem tG (h:aA K Fz H .non x):x=.non:=by simpa only[aA,aq]using h
theorem kI {i:Int}(h:aA K Fz H (.int i) x):x=.int i:=by simpa only[aA,aq]using h
theorem xQ {i:Bool}(h:aA K Fz H (.bl i) x):x=.bl i:=by simpa only[aA,aq]using h
theorem oZ {i:Str}(h:aA K Fz H (.str i) x):x=.str i:=by simpa only[aA,aq]using h
theorem lX (h:aA K Fz H (.tup ds) x):∃a xs,x=.ref a/\bG K H a xs/\aj K Fz H ds xs:=by
 simp only[aA,aq]at h;obtain⟨a,xs,e,h1,h2⟩:=h;exact⟨a,xs,e,bG.of h1,h2⟩
theorem xR (h:aA K Fz H (.tup ds) x):∃a xs,x=.ref a/\H a=some (.tup xs)/\aj K Fz H ds xs:=by simpa only[aA,aq]using h
theorem dB (h:aA K Fz H (.lst ds) x):∃a xs,x=.ref a/\aR K H a xs/\aj K Fz H ds xs:=by
 simp only[aA]at h;obtain⟨a,xs,e,h1,h2⟩:=h;exact⟨a,xs,e,h1.elim (λh=>.inl h) KX.sq,h2⟩
theorem IV (h:aA K Fz H (.lst ds) x):∃a xs,x=.ref a/\(Rd H a (.lst xs)\/KX K a xs)/\aj K Fz H ds xs:=by simpa only[aA]using h
theorem df {p:Prop} [Decidable p] (h:¬ p){Y:Bool->Prop}(y:Y false):Y (decide p):=by rw[Qc h];exact y
theorem dn {p:Prop} [Decidable p] (h:¬ p){Y:Bool->Prop}(y:Y true):Y (!decide p):=by rw[Qc h];exact y
section
variable {X:Cx}{pins:Tg}{σ:St}{H:Hp}{s:Wd}{Fz ao:FZ}
theorem zm (I:Inv X pins σ H s){a:We}{xs ys:List V}(h1:aR X.K H a xs)(h2:bG X.K H a ys):False:=by
 obtain⟨its,r,p,_⟩:=I.list h1;obtain⟨its2,r2,p2,_⟩:=I.tuple h2;exact SeqAt.ne_of_list_tuple p.isList (show s.heap.IsTuple a its2.toArray from p2) rfl
theorem Df (I:Inv X pins σ H s):∀(n:Nat)(d e:PV)(x:V),plain n d=true->plain n e=true->aA X.K Fz H d x->aA X.K ao H e x->d=e:=by
 intro n;induction n with
 | zero=>
  intro d e x pd pe h g;cases d<;>first
   | (simp only[plain]at pd;exact Qg pd (by decide))
   | (cases e<;>first
     | (simp only[plain]at pe;exact Qg pe (by decide))
     | (simp only[aA,aq]at h g;subst h;first | (cases g;rfl) | cases g))
 | succ n ih=>
  have all:∀(ds es:List PV) (xs:List V),ds.all (plain n)=true->es.all (plain n)=true->aj X.K Fz H ds xs->aj X.K ao H es xs->ds=es:=by
   intro ds;induction ds with
   | nil=>
    intro es xs _ _ h g;simp only[aj]at h;subst h;cases es with
    | nil=>rfl
    | cons e es=>simp only[aj]at g;obtain⟨_,_,z,_⟩:=g;cases z
   | cons d ds ihd=>
    intro es xs pd pe h g;simp only[aj]at h;obtain⟨v,r,z,h1,h2⟩:=h;subst z;cases es with
    | nil=>simp only[aj]at g;cases g
    | cons e es=>
     simp only[aj]at g;obtain⟨v',r',z,g1,g2⟩:=g;cases z;rw[Pk,YE]at pd pe;rw[ih d e v pd.1 pe.1 h1.root g1.root,ihd es r pd.2 pe.2 h2 g2]
  intro d e x pd pe h g;cases d with
  | tup ds=>
   simp only[plain]at pd;simp only[aA,aq]at h;obtain⟨a,xs,rfl,h1,h2⟩:=h;cases e with
   | tup es=>
    simp only[plain]at pe;simp only[aA,aq]at g;obtain⟨b,ys,z,g1,g2⟩:=g;cases z;have e1:=I.Gv (bG.of h1) (bG.of g1);subst e1;rw[all ds es xs pd pe h2 g2]
   | lst es=>
    obtain⟨b,ys,z,g1,g2⟩:=dB g;cases z;exact(zm I g1 (bG.of h1)).elim
   | non=>simp only[aA,aq]at g;cases g
   | int i=>simp only[aA,aq]at g;cases g
   | str i=>simp only[aA,aq]at g;cases g
   | bl _=>simp only[plain]at pe;exact Qg pe (by decide)
   | ty _=>simp only[plain]at pe;exact Qg pe (by decide)
   | dK _ _=>simp only[plain]at pe;exact Qg pe (by decide)
   | dT _ _=>simp only[plain]at pe;exact Qg pe (by decide)
   | dP _=>simp only[plain]at pe;exact Qg pe (by decide)
   | obj _ _ _=>simp only[plain]at pe;exact Qg pe (by decide)
  | lst ds=>
   simp only[plain]at pd;obtain⟨a,xs,rfl,h1,h2⟩:=dB h;cases e with
   | lst es=>
    simp only[plain]at pe;obtain⟨b,ys,z,g1,g2⟩:=dB g;cases z;have e1:=I.vG h1 g1;subst e1;rw[all ds es xs pd pe h2 g2]
   | tup es=>
    simp only[aA,aq]at g;obtain⟨b,ys,z,g1,g2⟩:=g;cases z;exact(zm I h1 (bG.of g1)).elim
   | non=>simp only[aA,aq]at g;cases g
   | int i=>simp only[aA,aq]at g;cases g
   | str i=>simp only[aA,aq]at g;cases g
   | bl _=>simp only[plain]at pe;exact Qg pe (by decide)
   | ty _=>simp only[plain]at pe;exact Qg pe (by decide)
   | dK _ _=>simp only[plain]at pe;exact Qg pe (by decide)
   | dT _ _=>simp only[plain]at pe;exact Qg pe (by decide)
   | dP _=>simp only[plain]at pe;exact Qg pe (by decide)
   | obj _ _ _=>simp only[plain]at pe;exact Qg pe (by decide)
  | bl _=>simp only[plain]at pd;exact Qg pd (by decide)
  | ty _=>simp only[plain]at pd;exact Qg pd (by decide)
  | dK _ _=>simp only[plain]at pd;exact Qg pd (by decide)
  | dT _ _=>simp only[plain]at pd;exact Qg pd (by decide)
  | dP _=>simp only[plain]at pd;exact Qg pd (by decide)
  | obj _ _ _=>simp only[plain]at pd;exact Qg pd (by decide)
  | non=>
   have h':=tG h;subst h';cases e with
   | non=>rfl
   | int i=>exact nomatch kI g
   | str i=>exact nomatch oZ g
   | tup ds=>obtain⟨_,_,z,_⟩:=lX g;exact nomatch z
   | lst ds=>obtain⟨_,_,z,_⟩:=dB g;exact nomatch z
   | _=>simp only[plain]at pe;exact Qg pe (by decide)
  | int i=>
   have h':=kI h;subst h';cases e with
   | non=>exact nomatch tG g
   | int j=>have:=kI g;injection this with this;rw[this]
   | str i=>exact nomatch oZ g
   | tup ds=>obtain⟨_,_,z,_⟩:=lX g;exact nomatch z
   | lst ds=>obtain⟨_,_,z,_⟩:=dB g;exact nomatch z
   | _=>simp only[plain]at pe;exact Qg pe (by decide)
  | str i=>
   have h':=oZ h;subst h';cases e with
   | non=>exact nomatch tG g
   | int j=>exact nomatch kI g
   | str j=>have:=oZ g;injection this with this;rw[this]
   | tup ds=>obtain⟨_,_,z,_⟩:=lX g;exact nomatch z
   | lst ds=>obtain⟨_,_,z,_⟩:=dB g;exact nomatch z
   | _=>simp only[plain]at pe;exact Qg pe (by decide)
theorem IW {n:Nat}(hn:n=min ds.length es.length):((Yj n).all λj=>decide (ds[j]? = es[j]?))=true↔∀j,j<ds.length->j<es.length->ds[j]? = es[j]?:=by
 rw[XV];constructor
 ·intro h j h1 h2;exact Qh (h j (List.mem_range.mpr (by lia)))
 ·intro h j hj;have:=List.mem_range.mp hj;exact Qd (h j (by lia) (by lia))
theorem Ja (hl:ds.length=es.length):(∀j,j<ds.length->j<es.length->ds[j]? = es[j]?)↔ds=es:=by
 constructor
 ·intro h;apply List.ext_getElem?;intro j;by_cases hj:j<ds.length
  ·exact h j hj (by lia)
  ·rw[XD (by lia),XD (by lia)]
 ·rintro rfl _ _ _;rfl
theorem Jb (ds es:List PV):((Yj (min ds.length es.length)).all (λj=>decide (ds[j]? = es[j]?))&&ds.length == es.length)=decide (ds=es):=by
 by_cases hlen:ds.length=es.length
 ·have hb':(ds.length == es.length)=true:=by simp;lia
  rw[hb',Bool.and_true];by_cases h:ds=es
  ·rw[(IW rfl).mpr ((Ja hlen).mpr h),Qd h]
  ·rw[Qc h];cases hq:(Yj (min ds.length es.length)).all (λj=>decide (ds[j]? = es[j]?))with
   | false=>rfl
   | true=>exact Qg ((Ja hlen).mp ((IW rfl).mp hq)) h
 ·have hb':(ds.length == es.length)=false:=by rw[beq_eq_false_iff_ne];exact hlen
  rw[hb',Bool.and_false,Qc (λz=>hlen (by rw[z]))]
theorem zjT (hlen:ds.length=es.length):((Yj ds.length).all (λj=>decide (ds[j]? = es[j]?)))=decide (ds=es):=by
 have q:=Jb ds es;rw[hlen,Nat.min_self]at q;rw[hlen];simpa using q
theorem Jc {i j:Int}:decide (PV.int i=PV.int j)=(i == j):=by
 rw[Q5];simp
theorem Jd {i j:Str}:decide (PV.str i=PV.str j)=(i == j):=by
 rw[Q5];simp
theorem zpz {i j:List PV}:decide (PV.tup i=PV.tup j)=decide (i=j):=by
 rw[Q5];simp
theorem zpA {i j:List PV}:decide (PV.lst i=PV.lst j)=decide (i=j):=by
 rw[Q5];simp
theorem Je {A:Wv}{n:Nat}{ds es:List PV}{xs ys:List V}{its its2:Tq}(I:Inv X pins σ H s)(r1:Vals xs its)(r2:Vals ys its2)(h1:aj X.K Fz H ds xs)(h2:aj X.K ao H es ys)(pd:ds.all (plain n)=true)(pe:es.all (plain n)=true)
  (ih:∀(d e:PV) (x y:V) (u v:Wb),plain n d=true->plain n e=true->aq X.K Fz H d x->aq X.K ao H e y->RelV x u->RelV y v->PN A s u v (decide (d=e))) :
  ∀j (h1:j<its.toArray.size) (h2:j<its2.toArray.size),PN A s its.toArray[j] its2.toArray[j] (decide (ds[j]? = es[j]?)):=λj h1' h2'=>by
 have l1:=r1.length;have l2:=r2.length;have l3:=h1.length;have l4:=h2.length;rw[Xo]at h1' h2';have e1:ds[j]? = some ds[j]:=Xa (by lia);have e2:es[j]? = some es[j]:=Xa (by lia);obtain⟨x,e3,q3⟩:=h1.get e1;obtain⟨y,e4,q4⟩:=h2.get e2;obtain⟨u1,q1,r1'⟩:=r1.get e3;obtain⟨u2,q2,r2'⟩:=r2.get e4;have f1:its.toArray[j]=u1:=by
  have:its[j]? = some its[j]:=Xa h1';rw[q1]at this;simpa using (Qa this).symm
 have f2:its2.toArray[j]=u2:=by
  have:its2[j]? = some its2[j]:=Xa h2';rw[q2]at this;simpa using (Qa this).symm
 rw[f1,f2];have w:decide (ds[j]=es[j])=decide (ds[j]? = es[j]?):=by
  rw[e1,e2];by_cases h:ds[j]=es[j]
  ·rw[Qd h,Qd (by rw[h])]
  ·rw[Qc h,Qc (λz=>h (Qa z))]
 rw[<- w];exact ih _ _ _ _ _ _ (XV.mp pd _ (XY _)) (XV.mp pe _ (XY _)) q3 q4 r1' r2'
inductive Leaf:PV->Wb->Prop
 | non:Leaf .non .none
 | int (i:Int) (t:Tok):Leaf (.int i) (.int i t)
 | str (i:Str) (t:Tok):Leaf (.str i) (.str i t)
theorem Jf {Fz:FZ}{H:Hp}{u:Wb}(hp:plain 0 d=true)(hx:aA K Fz H d x)(rx:RelV x u):Leaf d u:=by
 cases d with
 | non=>rw[tG hx]at rx;cases rx;exact .non
 | int i=>rw[kI hx]at rx;obtain⟨t,rfl⟩:=rx;exact .int i t
 | str i=>rw[oZ hx]at rx;obtain⟨t,rfl⟩:=rx;exact .str i t
 | _=>simp only[plain]at hp;exact Qg hp (by decide)
theorem zrY {A:Wv}{s:Wd}{e:PV}{u v:Wb}(h1:Leaf d u)(h2:Leaf e v):SeqAt.RcAt A s u v (decide (d=e))/\SeqAt.RcNeAt A s u v (!decide (d=e))/\PN A s u v (decide (d=e)):=by
 have no:∀ {d e:PV} {u v:Wb},d≠e->SeqAt.RcAt A s u v false->SeqAt.RcNeAt A s u v true->PN A s u v false->SeqAt.RcAt A s u v (decide (d=e))/\SeqAt.RcNeAt A s u v (!decide (d=e))/\PN A s u v (decide (d=e)):=λh a b c=>by rw[Qc h];exact⟨a,b,c⟩
 cases h1<;>cases h2
 ·rw[Qd rfl];exact⟨SeqAt.RcAt.none_none,SeqAt.RcNeAt.none_none,SeqAt.EqAt.same _⟩
 ·exact no (λz=>nomatch z) (SeqAt.RcAt.none_int _ _) (SeqAt.RcNeAt.none_int _ _) (SeqAt.EqAt.none_int _ _)
 ·exact no (λz=>nomatch z) (SeqAt.RcAt.none_str _ _) (SeqAt.RcNeAt.none_str _ _) (SeqAt.EqAt.none_str _ _)
 ·exact no (λz=>nomatch z) (SeqAt.RcAt.int_none _ _) (SeqAt.RcNeAt.int_none _ _) (SeqAt.EqAt.int_none _ _)
 ·rw[Jc];exact⟨SeqAt.RcAt.int_int _ _ _ _,SeqAt.RcNeAt.int_int _ _ _ _,SeqAt.EqAt.int_int _ _ _ _⟩
 ·exact no (λz=>nomatch z) (SeqAt.RcAt.int_str _ _ _ _) (SeqAt.RcNeAt.int_str _ _ _ _) (SeqAt.EqAt.int_str _ _ _ _)
 ·exact no (λz=>nomatch z) (SeqAt.RcAt.str_none _ _) (SeqAt.RcNeAt.str_none _ _) (SeqAt.EqAt.str_none _ _)
 ·exact no (λz=>nomatch z) (SeqAt.RcAt.str_int _ _ _ _) (SeqAt.RcNeAt.str_int _ _ _ _) (SeqAt.EqAt.str_int _ _ _ _)
 ·rw[Jd];exact⟨SeqAt.RcAt.str_str _ _ _ _,SeqAt.RcNeAt.str_str _ _ _ _,SeqAt.EqAt.str_str _ _ _ _⟩
theorem Dg (I:Inv X pins σ H s):∀(n:Nat)(A:Wv)(d e:PV)(x y:V)(u v:Wb),plain n d=true->plain n e=true->A.units+n<WG->aA X.K Fz H d x->aA X.K ao H e y->RelV x u->RelV y v->
  SeqAt.RcAt A s u v (decide (d=e))/\SeqAt.RcNeAt A s u v (!decide (d=e))/\PN A s u v (decide (d=e)):=by
 intro n;induction n with
 | zero=>exact λA d e x y u v pd pe hu hx hy rx ry=>zrY (Jf pd hx rx) (Jf pe hy ry)
 | succ n ih=>
  intro A d e x y u v pd pe hu hx hy rx ry;have hA:A.units<WG:=by lia
  have iha:∀(d e:PV) (x y:V) (u v:Wb),plain n d=true->plain n e=true->aq X.K Fz H d x->aq X.K ao H e y->RelV x u->RelV y v->PN A.in1 s u v (decide (d=e)):=
   λd e x y u v pd pe h1 h2 r1 r2=>(ih A.in1 d e x y u v pd pe (by show A.units+1+n<WG;lia) h1.root h2.root r1 r2).2.2
  have lower:∀c:PV,(∀ds,c≠.tup ds)->(∀ds,c≠.lst ds)->plain (n+1) c=true->plain n c=true:=λc h1 h2 hc=>by
   cases c with
   | tup ds=>exact Qg rfl (h1 ds)
   | lst ds=>exact Qg rfl (h2 ds)
   | non=>cases n<;>rfl
   | int i=>cases n<;>rfl
   | str i=>cases n<;>rfl
   | bl _=>simp only[plain]at hc;exact Qg hc (by decide)
   | ty _=>simp only[plain]at hc;exact Qg hc (by decide)
   | dK _ _=>simp only[plain]at hc;exact Qg hc (by decide)
   | dT _ _=>simp only[plain]at hc;exact Qg hc (by decide)
   | dP _=>simp only[plain]at hc;exact Qg hc (by decide)
   | obj _ _ _=>simp only[plain]at hc;exact Qg hc (by decide)
  have hA':A.units+n<WG:=by lia
  cases d with
  | tup ds=>
   have hx':=hx;simp only[aA,aq]at hx;obtain⟨a,xs,rfl,ha,h1⟩:=hx;cases rx;obtain⟨its,r1,p1,z1⟩:=I.tuple (bG.of ha);have dD:s.heap.IsTuple a its.toArray:=p1;cases e with
   | tup es=>
    have hy':=hy;simp only[aA,aq]at hy;obtain⟨b,ys,rfl,hb,h2⟩:=hy;cases ry;obtain⟨its2,r2,p2,z2⟩:=I.tuple (bG.of hb);have jQ:s.heap.IsTuple b its2.toArray:=p2;have he:=Je I r1 r2 h1 h2 (by simpa only[plain]using pd) (by simpa only[plain]using pe) iha;have w:((Yj (min its.toArray.size its2.toArray.size)).all (λj=>decide (ds[j]? = es[j]?))&&its.toArray.size == its2.toArray.size)=decide (PV.tup ds=PV.tup es):=by
     rw[Xo,Xo,<- r1.length,<- r2.length,<- h1.length,<- h2.length,Jb,zpz]
    have q:=SeqAt.RcAt.tuples dD jQ hA he;have q':=SeqAt.RcNeAt.tuples dD jQ hA he;rw[w]at q q';refine⟨q,q',?_⟩;by_cases hab:a=b
    ·subst hab;rw[Df I (n+1) _ _ _ pd pe hx' hy',Qd rfl];exact SeqAt.EqAt.same _
    ·exact SeqAt.EqAt.of_refs hab q
   | lst es=>
    obtain⟨b,ys,rfl,hb,h2⟩:=dB hy;cases ry;obtain⟨its2,r2,p2,z2⟩:=I.list hb;exact⟨df (λz=>nomatch z) (SeqAt.RcAt.tuple_list dD p2.isList hA),dn (λz=>nomatch z) (SeqAt.RcNeAt.tuple_list dD p2.isList hA),df (λz=>nomatch z) (SeqAt.EqAt.tuple_list dD p2.isList hA)⟩
   | non=>simp only[aA,aq]at hy;subst hy;cases ry;exact⟨df (λz=>nomatch z) (SeqAt.RcAt.tuple_none dD hA),dn (λz=>nomatch z) (SeqAt.RcNeAt.tuple_none dD hA),df (λz=>nomatch z) (SeqAt.EqAt.tuple_none dD hA)⟩
   | int i=>simp only[aA,aq]at hy;subst hy;obtain⟨t,rfl⟩:=ry;exact⟨df (λz=>nomatch z) (SeqAt.RcAt.tuple_int i t dD hA),dn (λz=>nomatch z) (SeqAt.RcNeAt.tuple_int i t dD hA),df (λz=>nomatch z) (SeqAt.EqAt.tuple_int i t dD hA)⟩
   | str i=>simp only[aA,aq]at hy;subst hy;obtain⟨t,rfl⟩:=ry;exact⟨df (λz=>nomatch z) (SeqAt.RcAt.tuple_str i t dD hA),dn (λz=>nomatch z) (SeqAt.RcNeAt.tuple_str i t dD hA),df (λz=>nomatch z) (SeqAt.EqAt.tuple_str i t dD hA)⟩
   | bl _=>simp only[plain]at pe;exact Qg pe (by decide)
   | ty _=>simp only[plain]at pe;exact Qg pe (by decide)
   | dK _ _=>simp only[plain]at pe;exact Qg pe (by decide)
   | dT _ _=>simp only[plain]at pe;exact Qg pe (by decide)
   | dP _=>simp only[plain]at pe;exact Qg pe (by decide)
   | obj _ _ _=>simp only[plain]at pe;exact Qg pe (by decide)
  | lst ds=>
   have hx':=hx;obtain⟨a,xs,rfl,ha,h1⟩:=dB hx;cases rx;obtain⟨its,r1,p1,z1⟩:=I.list ha;have dD:=p1.isList;cases e with
   | lst es=>
    have hy':=hy;obtain⟨b,ys,rfl,hb,h2⟩:=dB hy;cases ry;obtain⟨its2,r2,p2,z2⟩:=I.list hb;have he:=Je I r1 r2 h1 h2 (by simpa only[plain]using pd) (by simpa only[plain]using pe) iha;have l1:=r1.length;have l2:=r2.length;have l3:=h1.length;have l4:=h2.length;have key:SeqAt.RcAt A s (.ref a) (.ref b) (decide (PV.lst ds=PV.lst es))/\SeqAt.RcNeAt A s (.ref a) (.ref b) (!decide (PV.lst ds=PV.lst es)):=by
     by_cases hlen:ds.length=es.length
     ·have w:(Yj its.toArray.size).all (λj=>decide (ds[j]? = es[j]?))=decide (PV.lst ds=PV.lst es):=by
       rw[Xo,<- l1,<- l3,zjT hlen,zpA]
      have q:=SeqAt.RcAt.lists dD p2.isList (by rw[Xo,Xo];lia) hA he;have q':=SeqAt.RcNeAt.lists dD p2.isList (by rw[Xo,Xo];lia) hA he;rw[w]at q q';exact⟨q,q'⟩
     ·have hne:(its.toArray.size != its2.toArray.size)=true:=by rw[Xo,Xo];simp;lia
      rw[Qc (λz=>hlen (by rw[PV.lst.inj z]))];exact⟨SeqAt.RcAt.lists_lengths dD p2.isList hne hA,SeqAt.RcNeAt.lists_lengths dD p2.isList hne hA⟩
    refine⟨key.1,key.2,?_⟩;by_cases hab:a=b
    ·subst hab;rw[Df I (n+1) _ _ _ pd pe hx' hy',Qd rfl];exact SeqAt.EqAt.same _
    ·exact SeqAt.EqAt.of_refs hab key.1
   | tup es=>
    simp only[aA,aq]at hy;obtain⟨b,ys,rfl,hb,h2⟩:=hy;cases ry;obtain⟨its2,r2,p2,z2⟩:=I.tuple (bG.of hb);have jQ:s.heap.IsTuple b its2.toArray:=p2;exact⟨df (λz=>nomatch z) (SeqAt.RcAt.list_tuple dD jQ hA),dn (λz=>nomatch z) (SeqAt.RcNeAt.list_tuple dD jQ hA),df (λz=>nomatch z) (SeqAt.EqAt.list_tuple dD jQ hA)⟩
   | non=>simp only[aA,aq]at hy;subst hy;cases ry;exact⟨df (λz=>nomatch z) (SeqAt.RcAt.list_none dD hA),dn (λz=>nomatch z) (SeqAt.RcNeAt.list_none dD hA),df (λz=>nomatch z) (SeqAt.EqAt.list_none dD hA)⟩
   | int i=>simp only[aA,aq]at hy;subst hy;obtain⟨t,rfl⟩:=ry;exact⟨df (λz=>nomatch z) (SeqAt.RcAt.list_int i t dD hA),dn (λz=>nomatch z) (SeqAt.RcNeAt.list_int i t dD hA),df (λz=>nomatch z) (SeqAt.EqAt.list_int i t dD hA)⟩
   | str i=>simp only[aA,aq]at hy;subst hy;obtain⟨t,rfl⟩:=ry;exact⟨df (λz=>nomatch z) (SeqAt.RcAt.list_str i t dD hA),dn (λz=>nomatch z) (SeqAt.RcNeAt.list_str i t dD hA),df (λz=>nomatch z) (SeqAt.EqAt.list_str i t dD hA)⟩
   | bl _=>simp only[plain]at pe;exact Qg pe (by decide)
   | ty _=>simp only[plain]at pe;exact Qg pe (by decide)
   | dK _ _=>simp only[plain]at pe;exact Qg pe (by decide)
   | dT _ _=>simp only[plain]at pe;exact Qg pe (by decide)
   | dP _=>simp only[plain]at pe;exact Qg pe (by decide)
   | obj _ _ _=>simp only[plain]at pe;exact Qg pe (by decide)
  | bl _=>simp only[plain]at pd;exact Qg pd (by decide)
  | ty _=>simp only[plain]at pd;exact Qg pd (by decide)
  | dK _ _=>simp only[plain]at pd;exact Qg pd (by decide)
  | dT _ _=>simp only[plain]at pd;exact Qg pd (by decide)
  | dP _=>simp only[plain]at pd;exact Qg pd (by decide)
  | obj _ _ _=>simp only[plain]at pd;exact Qg pd (by decide)
  | non=>
   cases e with
   | tup es=>
    simp only[aA,aq]at hx hy;subst hx;cases rx;obtain⟨b,ys,rfl,hb,h2⟩:=hy;cases ry;obtain⟨its2,r2,p2,z2⟩:=I.tuple (bG.of hb);have jQ:s.heap.IsTuple b its2.toArray:=p2;exact⟨df (λz=>nomatch z) (SeqAt.RcAt.none_tuple jQ hA),dn (λz=>nomatch z) (SeqAt.RcNeAt.none_tuple jQ hA),df (λz=>nomatch z) (SeqAt.EqAt.none_tuple jQ hA)⟩
   | lst es=>
    simp only[aA,aq]at hx;subst hx;cases rx;obtain⟨b,ys,rfl,hb,h2⟩:=dB hy;cases ry;obtain⟨its2,r2,p2,z2⟩:=I.list hb;exact⟨df (λz=>nomatch z) (SeqAt.RcAt.none_list p2.isList hA),dn (λz=>nomatch z) (SeqAt.RcNeAt.none_list p2.isList hA),df (λz=>nomatch z) (SeqAt.EqAt.none_list p2.isList hA)⟩
   | _=>exact ih A _ _ x y u v (lower _ (λ_ z=>nomatch z) (λ_ z=>nomatch z) pd) (lower _ (λ_ z=>nomatch z) (λ_ z=>nomatch z) pe) hA' hx hy rx ry
  | int i=>
   cases e with
   | tup es=>
    simp only[aA,aq]at hx hy;subst hx;obtain⟨t,rfl⟩:=rx;obtain⟨b,ys,rfl,hb,h2⟩:=hy;cases ry;obtain⟨its2,r2,p2,z2⟩:=I.tuple (bG.of hb);have jQ:s.heap.IsTuple b its2.toArray:=p2;exact⟨df (λz=>nomatch z) (SeqAt.RcAt.int_tuple i t jQ hA),dn (λz=>nomatch z) (SeqAt.RcNeAt.int_tuple i t jQ hA),df (λz=>nomatch z) (SeqAt.EqAt.int_tuple i t jQ hA)⟩
   | lst es=>
    simp only[aA,aq]at hx;subst hx;obtain⟨t,rfl⟩:=rx;obtain⟨b,ys,rfl,hb,h2⟩:=dB hy;cases ry;obtain⟨its2,r2,p2,z2⟩:=I.list hb;exact⟨df (λz=>nomatch z) (SeqAt.RcAt.int_list i t p2.isList hA),dn (λz=>nomatch z) (SeqAt.RcNeAt.int_list i t p2.isList hA),df (λz=>nomatch z) (SeqAt.EqAt.int_list i t p2.isList hA)⟩
   | _=>exact ih A _ _ x y u v (lower _ (λ_ z=>nomatch z) (λ_ z=>nomatch z) pd) (lower _ (λ_ z=>nomatch z) (λ_ z=>nomatch z) pe) hA' hx hy rx ry
  | str i=>
   cases e with
   | tup es=>
    simp only[aA,aq]at hx hy;subst hx;obtain⟨t,rfl⟩:=rx;obtain⟨b,ys,rfl,hb,h2⟩:=hy;cases ry;obtain⟨its2,r2,p2,z2⟩:=I.tuple (bG.of hb);have jQ:s.heap.IsTuple b its2.toArray:=p2;exact⟨df (λz=>nomatch z) (SeqAt.RcAt.str_tuple i t jQ hA),dn (λz=>nomatch z) (SeqAt.RcNeAt.str_tuple i t jQ hA),df (λz=>nomatch z) (SeqAt.EqAt.str_tuple i t jQ hA)⟩
   | lst es=>
    simp only[aA,aq]at hx;subst hx;obtain⟨t,rfl⟩:=rx;obtain⟨b,ys,rfl,hb,h2⟩:=dB hy;cases ry;obtain⟨its2,r2,p2,z2⟩:=I.list hb;exact⟨df (λz=>nomatch z) (SeqAt.RcAt.str_list i t p2.isList hA),dn (λz=>nomatch z) (SeqAt.RcNeAt.str_list i t p2.isList hA),df (λz=>nomatch z) (SeqAt.EqAt.str_list i t p2.isList hA)⟩
   | _=>exact ih A _ _ x y u v (lower _ (λ_ z=>nomatch z) (λ_ z=>nomatch z) pd) (lower _ (λ_ z=>nomatch z) (λ_ z=>nomatch z) pe) hA' hx hy rx ry
end
def uE (K:Xc)(neg:Bool):R2:=λx y H Q=>∃Fz d e,aA K Fz H d x/\aA K Fz H e y/\plain 6 d=true/\plain 6 e=true/\Q (.bl (if neg then !decide (d=e) else decide (d=e))) H
def pEq (neg:Bool):P2:=λd e Q=>plain 6 d=true/\plain 6 e=true/\Q (.bl (if neg then !decide (d=e) else decide (d=e))) .aH
section
variable {X:Cx}
theorem Jg (hu:X.A.units+16<WG):gh X (WU .Eq) (uE X.K false):=by
 intro pins s σ H x y v u Q I rx ry h;obtain⟨Fz,d,e,hx,hy,pd,pe,q⟩:=h;exact(Dg I 6 X.A d e x y v u pd pe (by lia) hx hy rx ry).1 X.prog X.w X.xe _ ⟨.bl _,H,I,rfl,q⟩
theorem zuk (hu:X.A.units+16<WG):gh X (WU .NotEq) (uE X.K true):=by
 intro pins s σ H x y v u Q I rx ry h;obtain⟨Fz,d,e,hx,hy,pd,pe,q⟩:=h;exact(Dg I 6 X.A d e x y v u pd pe (by lia) hx hy rx ry).2.1 X.prog X.w X.xe _ ⟨.bl _,H,I,rfl,q⟩
theorem Dh {neg:Bool}:jB K (uE K neg) (pEq neg) where
 mono d e Q Q' m h:=⟨h.1,h.2.1,m _ _ h.2.2⟩
 run Fz H x y d e Q al rx ry h:=⟨Fz,d,e,rx,ry,h.1,h.2.1,h.2.2 _ Fz H (.val al (by simp only[aq]))⟩
end
section
variable {X:Cx}{a b c:Expr}{ta tb:aN}{tA j4:cY}{pos:Pos}{rest:List Expr}
structure lY (X:Cx)(e:Expr)(t:cY):Prop where
 mono:∀ρ Q Q',(∀b,Q b->Q' b)->t ρ Q->t ρ Q'
 run:PW X e (liftT X.K t)
theorem lY.t {t:cY}(h:lY X e t):gq X e t:=⟨h.mono,h.run.pt⟩
def zdq (t u:cY):cY:=λρ Q=>t ρ λc=>if c=true then u ρ Q else Q false
def tOrP (t u:cY):cY:=λρ Q=>t ρ λc=>if c=true then Q true else u ρ Q
def zdT (t:cY):cY:=λρ Q=>t ρ λc=>Q (!c)
theorem PW.weak {t t':TT}(h:PW X e t)(w:∀σ H Q,t' σ H Q->t σ H Q):PW X e t':=λwhole pins s σ H Q I q=>h whole pins s σ H Q I (w σ H Q q)
theorem Jh (ha:gq X a tA):lY X (.BoolOp .And [a] pos) tA:=⟨ha.mono,SX ha.run⟩
theorem zp (ha:gq X a tA):lY X (.BoolOp .Or [a] pos) tA:=⟨ha.mono,S5 ha.run⟩
theorem and_mono (m1:∀ρ (Q Q':Bool->Prop),(∀b,Q b->Q' b)->tA ρ Q->tA ρ Q')(m2:∀ρ (Q Q':Bool->Prop),(∀b,Q b->Q' b)->j4 ρ Q->j4 ρ Q') :
  ∀ρ (Q Q':Bool->Prop),(∀b,Q b->Q' b)->zdq tA j4 ρ Q->zdq tA j4 ρ Q':=λρ Q Q' m h=>m1 ρ _ _ (λc q=>by
 cases c with
 | true=>rw[Qf rfl]at q ⊢;exact m2 ρ _ _ m q
 | false=>rw[Qe Xw]at q ⊢;exact m _ q) h
theorem or_mono (m1:∀ρ (Q Q':Bool->Prop),(∀b,Q b->Q' b)->tA ρ Q->tA ρ Q')(m2:∀ρ (Q Q':Bool->Prop),(∀b,Q b->Q' b)->j4 ρ Q->j4 ρ Q') :
  ∀ρ (Q Q':Bool->Prop),(∀b,Q b->Q' b)->tOrP tA j4 ρ Q->tOrP tA j4 ρ Q':=λρ Q Q' m h=>m1 ρ _ _ (λc q=>by
 cases c with
 | false=>rw[Qe Xw]at q ⊢;exact m2 ρ _ _ m q
 | true=>rw[Qf rfl]at q ⊢;exact m _ q) h
theorem Ji (ha:gq X a tA)(hb:lY X (.BoolOp .And (b::rest) pos) j4):lY X (.BoolOp .And (a::b::rest) pos) (zdq tA j4) where
 mono:=and_mono ha.mono hb.mono
 run:=PW.weak (S6 ha.run hb.run) λσ H Q h=>by
  obtain⟨ρ,Fz,R,h⟩:=h;refine⟨ρ,Fz,R,ha.mono ρ _ _ (λc q ao H' x=>?_) h⟩;cases c with
  | true=>
   rw[Qf rfl]at q ⊢;exact⟨ρ,ao,R.ext x,hb.mono ρ _ _ (λb q bV H2 x2=>q bV H2 (x.trans x2)) q⟩
  | false=>rw[Qe Xw]at q ⊢;exact q ao H' x
theorem zq (ha:gq X a tA)(hb:lY X (.BoolOp .Or (b::rest) pos) j4):lY X (.BoolOp .Or (a::b::rest) pos) (tOrP tA j4) where
 mono:=or_mono ha.mono hb.mono
 run:=PW.weak (S7 ha.run hb.run) λσ H Q h=>by
  obtain⟨ρ,Fz,R,h⟩:=h;refine⟨ρ,Fz,R,ha.mono ρ _ _ (λc q ao H' x=>?_) h⟩;cases c with
  | false=>
   rw[Qe Xw]at q ⊢;exact⟨ρ,ao,R.ext x,hb.mono ρ _ _ (λb q bV H2 x2=>q bV H2 (x.trans x2)) q⟩
  | true=>rw[Qf rfl]at q ⊢;exact q ao H' x
theorem zu (ha:gq X a tA):gq X (.UnaryOp .Not a pos) (zdT tA) where
 mono ρ Q Q' m h:=ha.mono ρ _ _ (λc q=>m _ q) h
 run:=PT.weak (S8 ha.run) λσ H Q h=>h
def TruP:PV->Bool->Prop
 | .non,k=>k=false
 | .bl b,k=>k=b
 | .int i,k=>k=(i != 0)
 | .str y,k=>y.length<=Wi/\k=((y.length:Int) != 0)
 | .tup ds,k=>k = !ds.isEmpty
 | .lst ds,k=>k = !ds.isEmpty
 | _,_=>False
def tTru (te:aN):cY:=λρ Q=>te ρ λd _=>∃k,TruP d k/\Q k
theorem TruP.v {k:Bool}(r:aA K Fz H d x)(t:TruP d k):ux K x H k:=by
 cases d with
 | non=>cases tG r;exact t
 | bl b=>cases xQ r;exact t
 | int i=>cases kI r;exact t
 | str y=>cases oZ r;exact t
 | tup ds=>
  obtain⟨a,xs,rfl,h1,h2⟩:=lX r;refine .inr (.inl ⟨xs,h1,?_⟩);have hl:=h2.length;have t':k = !ds.isEmpty:=t;rw[t'];cases ds<;>cases xs<;>simp_all
 | lst ds=>
  obtain⟨a,xs,rfl,h1,h2⟩:=dB r;refine .inl ⟨xs,h1,?_⟩;have hl:=h2.length;have t':k = !ds.isEmpty:=t;rw[t'];cases ds<;>cases xs<;>simp_all
 | ty _=>exact t.elim
 | dK _ _=>exact t.elim
 | dT _ _=>exact t.elim
 | dP _=>exact t.elim
 | obj _ _ _=>exact t.elim
theorem uF (ha:aD X a ta)(he:∀whole,isTrue a X.env whole=(do let v <- whole;standAt a.pos;WZ [v] (truthy v)):=by intro _;rfl):gq X a (tTru ta) where
 mono ρ Q Q' m h:=ha.mono ρ _ _ (λd k ⟨b,e,q⟩=>⟨b,e,m b q⟩) h
 run:=PT.weak (UJ ha.run he) λσ H Q h=>by
  obtain⟨ρ,Fz,R,h⟩:=h;exact⟨ρ,Fz,R,ha.mono ρ _ _ (λd k ⟨b,e,q⟩ v ao H' p=>⟨b,TruP.v (p.root R) e,q ao H' p.ext⟩) h⟩
def tIfE (t:cY)(ta tb:aN):aN:=λρ Q=>t ρ λc=>if c=true then ta ρ Q else tb ρ Q
theorem zpB (hc:gq X c tA)(ha:aD X a ta)(hb:aD X b tb):aD X (.IfExp c a b pos) (tIfE tA ta tb) where
 mono ρ Q Q' m h:=hc.mono ρ _ _ (λd q=>by
  cases d with
  | true=>rw[Qf rfl]at q ⊢;exact ha.mono ρ _ _ m q
  | false=>rw[Qe Xw]at q ⊢;exact hb.mono ρ _ _ m q) h
 run:=PE.weak (Tz hc.run ha.run hb.run) λσ H Q h=>by
  obtain⟨ρ,Fz,R,h⟩:=h;refine⟨ρ,Fz,R,hc.mono ρ _ _ (λc q ao H' x=>?_) h⟩;cases c with
  | true=>
   rw[Qf rfl]at q ⊢;exact⟨ρ,ao,R.ext x,ha.mono ρ _ _ (λd k q v bV H2 p2=>q v bV H2 (p2.then x)) q⟩
  | false=>
   rw[Qe Xw]at q ⊢;exact⟨ρ,ao,R.ext x,hb.mono ρ _ _ (λd k q v bV H2 p2=>q v bV H2 (p2.then x)) q⟩
end
abbrev cZ (K:Xc)(ao:FZ)(H':Hp)(ρ:au)(σ:St)(H:Hp):List (PV×Kd)->List V->Prop:=Paired λp v=>lC K ao H' ρ σ H p.1 p.2 v
def Di (K:Xc)(t:gO):TA:=λσ H Q=>∃ρ Fz,Rel K Fz ρ σ H/\t ρ λops=>∀vs ao H',Ext Fz H ao H'->cZ K ao H' ρ σ H ops vs->Q vs H'
structure iR (X:Cx)(es:List Expr)(t:gO):Prop where
 mono:∀ρ Q Q',(∀ops,Q ops->Q' ops)->t ρ Q->t ρ Q'
 run:PA X es (Di X.K t)
theorem PA.weak {X:Cx}{es:List Expr}{t t':TA}(h:PA X es t)(w:∀σ H Q,t' σ H Q->t σ H Q):PA X es t':=λpos pins s σ H Q I q=>h pos pins s σ H Q I (w σ H Q q)
def pNil:gO:=λ_ Q=>Q []
def zbw (te:aN)(t:gO):gO:=λρ Q=>te ρ λd k=>t ρ λops=>Q ((d,k)::ops)
theorem cZ.back {bV:FZ}{H1 H2:Hp}(s:Same H H1):∀ {ops:List (PV×Kd)}{vs:List V},cZ K bV H2 ρ σ H1 ops vs->cZ K bV H2 ρ σ H ops vs
 | _,_,.nil=>.nil
 | _,_,.cons h t=>.cons (lC.back s h) (cZ.back s t)
section
variable {X:Cx}{e:Expr}{es:List Expr}{te:aN}{t:gO}{pos:Pos}
theorem aL:iR X [] pNil where
 mono ρ Q Q' m h:=m _ h
 run:=PA.weak mJ λσ H Q h=>by
  obtain⟨ρ,Fz,R,h⟩:=h;exact h [] Fz H ⟨Same.refl H,λ_ h=>h,λ_ h=>.inl h,R.al⟩ .nil
theorem aB (ha:aD X e te)(hr:iR X es t)(hs:Wf (e::es) X.env=(false,Wx e X.env)::Wf es X.env:=by rfl):iR X (e::es) (zbw te t) where
 mono ρ Q Q' m h:=ha.mono ρ _ _ (λd k h=>hr.mono ρ _ _ (λops h=>m _ h) h) h
 run:=PA.weak (nM ha.run hr.run hs) λσ H Q h=>by
  obtain⟨ρ,Fz,R,h⟩:=h;refine⟨ρ,Fz,R,ha.mono ρ _ _ (λd k h v aX H1 p=>?_) h⟩;refine⟨ρ,aX,R.ext p.ext,hr.mono ρ _ _ (λops h vs bV H2 x o=>?_) h⟩;exact h (v::vs) bV H2 (p.ext.trans x) (.cons (lC.ext x p.gm) (cZ.back p.ext.same o))
end
def zx (K:Xc)(Fz:FZ)(H:Hp):List PV->List V->Prop:=Paired (aA K Fz H)
theorem cZ.root {ao:FZ}{H':Hp}(R:Rel K Fz ρ σ H)(x:Ext Fz H ao H'):∀ {ops:List (PV×Kd)}{vs:List V},cZ K ao H' ρ σ H ops vs->zx K ao H' (ops.map (·.1)) vs
 | _,_,.nil=>.nil
 | _,_,.cons h t=>.cons (Post.root R ⟨x,h⟩) (cZ.root R x t)
def noOwn:List (PV×Kd)->Bool
 | []=>true
 | (_,.own _)::_=>false
 | _::r=>noOwn r
theorem cZ.frozen {ao:FZ}{H':Hp}(x:Ext Fz H ao H'):∀ {ops:List (PV×Kd)}{vs:List V},noOwn ops=true->cZ K ao H' ρ σ H ops vs->
  ∃bV,Ext Fz H bV H'/\(∀b,ao b->bV b)/\aj K bV H' (ops.map (·.1)) vs
 | _,_,_,.nil=>⟨ao,x,λ_ h=>h,aj.nil⟩
 | (d,k)::ops,v::vs,hn,.cons h t=>by
  cases k with
  | own i=>exact Qg hn Xw
  | aH=>
   obtain⟨F2,x2,s2,h2⟩:=cZ.frozen x (ops:=ops) hn t;exact⟨F2,x2,s2,aj.cons (aq.mono (Keep.of (Same.refl _)) s2 _ _ h) h2⟩
  | new=>
   obtain⟨F2,x2,s2,h2⟩:=cZ.frozen x (ops:=ops) hn t;obtain⟨a,e,hn',_,o⟩:=h;subst e;refine⟨λb=>F2 b\/b=a,x2.add hn' (by obtain⟨o',e,_⟩:=o.at;rw[e];exact λz=>nomatch z),λb h=>.inl (s2 b h),aj.cons ?_ (aj.mono (Keep.of (Same.refl _)) (λb h=>.inl h) _ _ h2)⟩;exact(o.mono (ao:=λb=>F2 b\/b=a) (Keep.of (Same.refl _)) (λb h=>.inl (s2 b h)) (λ_ h=>h)).den (.inr rfl)
def pTup (t:gO):aN:=λρ Q=>t ρ λops=>noOwn ops=true/\ops.length<=Wi/\Q (.tup (ops.map (·.1))) .aH
def pLst (t:gO):aN:=λρ Q=>t ρ λops=>noOwn ops=true/\ops.length<=Wi/\Q (.lst (ops.map (·.1))) .new
section
variable {X:Cx}{es:List Expr}{t:gO}{pos:Pos}
theorem tH {x1}(h:iR X es t):aD X (.Tuple es x1 pos) (pTup t) where
 mono ρ Q Q' m q:=h.mono ρ _ _ (λops q=>⟨q.1,q.2.1,m _ _ q.2.2⟩) q
 run:=PE.weak (U3 h.run) λσ H Q q=>by
  obtain⟨ρ,Fz,R,q⟩:=q;refine⟨ρ,Fz,R,h.mono ρ _ _ (λops q vs ao H' x o=>?_) q⟩;obtain⟨hn,hl,q⟩:=q;obtain⟨F2,x2,s2,h2⟩:=o.frozen x hn;have len:=h2.length;rw[Xb]at len;refine⟨by lia,λp hp=>q _ F2 _ ⟨x2.laid hp,?_⟩⟩;show aq _ _ _ _ _;simp only[aq];refine⟨p,vs,rfl,bF,aj.mono (Keep.of (λb u e=>by rw[aO (mH e hp)];exact e)) (λ_ h=>h) _ _ h2⟩
theorem jC (h:iR X es t):aD X (.List es pos) (pLst t) where
 mono ρ Q Q' m q:=h.mono ρ _ _ (λops q=>⟨q.1,q.2.1,m _ _ q.2.2⟩) q
 run:=PE.weak (GD h.run) λσ H Q q=>by
  obtain⟨ρ,Fz,R,q⟩:=q;refine⟨ρ,Fz,R,h.mono ρ _ _ (λops q vs ao H' x o=>?_) q⟩;obtain⟨hn,hl,q⟩:=q;obtain⟨F2,x2,s2,h2⟩:=o.frozen x hn;have len:=h2.length;rw[Xb]at len;refine⟨by lia,λp hp=>q _ F2 _ ⟨x2.laid hp,p,rfl,x.same.free hp,λz=>x2.al p z hp,vs,bF,?_⟩⟩;exact aj.mono (Keep.of (λb u e=>by rw[aO (mH e hp)];exact e)) (λ_ h=>h) _ _ h2
end
mutual
def zcf:PV->Bool
 | .tup ds=>zaN ds
 | .lst _=>false
 | .dK _ _=>false
 | .dT _ _=>false
 | .dP _=>false
 | .obj _ _ _=>false
 | _=>true
def zaN:List PV->Bool
 | []=>true
 | d::ds=>zcf d&&zaN ds
end
section
variable {K:Xc}{Fz ao:FZ}{H:Hp}
mutual
theorem Dj:∀(d:PV)(v:V),zcf d=true->aq K Fz H d v->aq K ao H d v
 | .non,v,_,h=>by simpa only[aq]using h
 | .bl b,v,_,h=>by simpa only[aq]using h
 | .int i,v,_,h=>by simpa only[aq]using h
 | .str x,v,_,h=>by simpa only[aq]using h
 | .ty n,v,_,h=>by simpa only[aq]using h
 | .tup ds,v,n,h=>by
  simp only[zcf]at n;simp only[aq]at h ⊢;obtain⟨a,xs,e,h1,h2⟩:=h;exact⟨a,xs,e,h1,tK ds xs n h2⟩
 | .lst ds,v,n,h=>by simp only[zcf]at n;exact Qg n (by decide)
 | .dK ks ds,v,n,h=>by simp only[zcf]at n;exact Qg n (by decide)
 | .dT ks ds,v,n,h=>by simp only[zcf]at n;exact Qg n (by decide)
theorem tK:∀(ds:List PV)(xs:List V),zaN ds=true->aj K Fz H ds xs->aj K ao H ds xs
 | [],xs,_,h=>by simpa only[aj]using h
 | d::ds,xs,n,h=>by
  simp only[zaN,YE]at n;simp only[aj]at h ⊢;obtain⟨v,r,e,h1,h2⟩:=h;exact⟨v,r,e,Dj d v n.1 h1,tK ds r n.2 h2⟩
end
end
def zbY:PV->Kd->Bool
 | .lst ds,.new=>zaN ds
 | .dK _ ds,.new=>zaN ds
 | .dT _ ds,.new=>zaN ds
 | .dP _,.new=>true
 | d,_=>zcf d
theorem zmk {K:Xc}{Fz ao:FZ}{H H':Hp}{d:PV}{k:Kd}{v:V}(n:zbY d k=true)(hal:∀b,ao b->H b≠none)(h:lC K Fz H' [] [] H d k v):lC K ao H' [] [] H d k v:=by
 cases k with
 | aH=>
  have n':zcf d=true:=by cases d<;>exact n
  exact Dj d v n' h
 | own i=>exact h
 | new=>
  obtain⟨a,e,hn,_,o⟩:=h;refine⟨a,e,hn,λz=>hal a z hn,?_⟩;cases d with
  | lst ds=>obtain⟨xs,h1,h2⟩:=o;exact⟨xs,h1,tK ds xs n h2⟩
  | dK ks ds=>obtain⟨xs,h1,h2,h3⟩:=o;exact⟨xs,h1,h2,tK ds xs n h3⟩
  | dT ks ds=>obtain⟨xs,h1,h2,h3⟩:=o;exact⟨xs,h1,h2,tK ds xs n h3⟩
  | non=>exact o.elim
  | bl b=>exact o.elim
  | int i=>exact o.elim
  | str x=>exact o.elim
  | ty n=>exact o.elim
  | tup ds=>exact o.elim
  | dP ks=>exact o
  | obj C ks ds=>exact o.elim
abbrev PF:=List PV->(PV->Kd->Prop)->Prop
def fQ (F:PF):Prop:=∀ds Q Q',(∀d k,Q d k->Q' d k)->F ds Q->F ds Q'
def bR (K:Xc)(F:PF):Sp:=λvs H Q _=>∃Fz ds,(∀b,Fz b->H b≠none)/\aj K Fz H ds vs/\F ds λd k=>∀v ao H',Post K [] [] Fz H ao H' d k v->Q v H'
theorem cZ.all {K:Xc}{ρ:au}{σ:St}{Fz ao:FZ}{H H':Hp}(R:Rel K Fz ρ σ H)(x:Ext Fz H ao H'):∀ {ops:List (PV×Kd)}{vs:List V},cZ K ao H' ρ σ H ops vs->
  ∃bV,(∀b,ao b->bV b)/\(∀b,bV b->H' b≠none)/\aj K bV H' (ops.map (·.1)) vs
 | _,_,.nil=>⟨ao,λ_ h=>h,x.al,aj.nil⟩
 | (d,k)::ops,v::vs,.cons h t=>by
  obtain⟨F2,s2,a2,h2⟩:=cZ.all R x t;have addr:∀a,v=.ref a->Own K ao H' d a->∃bV,(∀b,ao b->bV b)/\(∀b,bV b->H' b≠none)/\aj K bV H' ((d,k)::ops |>.map (·.1)) (v::vs):=λa e o=>by
   subst e;refine⟨λb=>F2 b\/b=a,λb h=>.inl (s2 b h),λb hb=>?_,aj.cons ?_ (aj.mono (Keep.of (Same.refl _)) (λb h=>.inl h) _ _ h2)⟩
   ·rcases hb with hb | rfl
    ·exact a2 b hb
    ·obtain⟨o',e,_⟩:=o.at;rw[e];exact λz=>nomatch z
   ·exact(o.mono (ao:=λb=>F2 b\/b=a) (Keep.of (Same.refl _)) (λb h=>.inl (s2 b h)) (λ_ h=>h)).den (.inr rfl)
  cases k with
  | aH=>exact⟨F2,s2,a2,aj.cons (aq.mono (Keep.of (Same.refl _)) s2 _ _ h) h2⟩
  | new=>obtain⟨a,e,_,_,o⟩:=h;exact addr a e o
  | own i=>
   obtain⟨h1,h2'⟩:=h;obtain⟨a,e,_,o⟩:=(R.ext x).own i d h1;rw[h2']at e;cases e;exact addr a rfl o
def zbt (F:PF)(t:gO):aN:=λρ Q=>t ρ λops=>F (ops.map (·.1)) λd k=>(noOwn ops=true\/zbY d k=true)/\Q d k
section
variable {X:Cx}{k:Nat}{f:We}{fd:WA}{ps:Tn}{F:PF}{x:Str}{p pos:Pos}{e:Expr}{es:List Expr}{t:gO}
theorem zpD {σ:St}{H:Hp}{Q:VK}(ha:iR X es t)(m:fQ F)(h:lift X.K (zbt F t) σ H Q):GF (bR X.K F) [] E0 (Di X.K t) σ H Q:=by
 obtain⟨ρ,Fz,R,h⟩:=h;refine⟨ρ,Fz,R,ha.mono ρ _ _ (λops h vs ao H' x o=>?_) h⟩;show bR X.K F (vs++[]) H' Q E0;rw[Ym];by_cases hn:noOwn ops=true
 ·obtain⟨F2,x2,s2,h2⟩:=o.frozen x hn;refine⟨F2,ops.map (·.1),x2.al,h2,m _ _ _ (λd k q v Fz3 H3 p3=>?_) h⟩;exact q.2 v Fz3 H3 (p3.behind x2)
 ·obtain⟨F2,s2,a2,h2⟩:=o.all R x;refine⟨F2,ops.map (·.1),a2,h2,m _ _ _ (λd k q v Fz3 H3 p3=>?_) h⟩;have nm:zbY d k=true:=q.1.resolve_left hn;have al:∀b,ao b->H3 b≠none:=λb hb z=>x.al b hb (p3.ext.same.free z);refine q.2 v ao H3 ⟨⟨x.same.trans p3.ext.same,x.sub,x.new,al⟩,?_⟩;exact((zmk nm x.al p3.gm).up).back x.same
theorem cD (G:aJ X.prog X.w X.K X.mg X.base bO k f fd ps (bR X.K F))(m:fQ F)(hr:cg k X.A)(hg:Gl X x)(hm:X.mg x=some (.ref f))(hk:PySem.W.keepIn X.K (.ref f)=true)(hb:Binds X.K fd ps [])(ha:iR X (e::es) t)
  (hd:(x == ("__debug__" : Str))=false:=by decide) (he:Wf (e::es) X.env=(false,Wx e X.env)::Wf es X.env:=by rfl) (hpl:(Wu pos (Wf es X.env)).any (·.1)=false:=by rfl) :
  aD X (.Call (.Name x p) (e::es) [] pos) (zbt F t) where
 mono ρ Q Q' mm h:=ha.mono ρ _ _ (λops h=>m _ _ _ (λd k q=>⟨q.1,mm _ _ q.2⟩) h) h
 run:=PE.weak (GJ G hr hg hm hk hb .nil Hw ha.run hd he hpl) λσ H Q h=>zpD ha m h
end
structure nR (K:Xc)(r:List V->Hp->VK->Prop)(p:PF):Prop where
 mono:fQ p
 run:∀Fz H ds vs Q,(∀b,Fz b->H b≠none)->zx K Fz H ds vs->p ds (λz k=>∀v ao H',Post K [] [] Fz H ao H' z k v->Q v H')->r vs H Q
def tB (p:PF)(t:gO):aN:=λρ Q=>t ρ λops=>p (ops.map (·.1)) Q
section
variable {X:Cx}{x:Str}{p pos:Pos}{e:Expr}{es:List Expr}{t:gO}{id T:String}{r:List V->Hp->VK->Prop}{pf:PF}
theorem Jj {σ:St}{H:Hp}{Q:VK}(ha:iR X es t)(m:nR X.K r pf)(h:lift X.K (tB pf t) σ H Q):BJ r (Di X.K t) σ H Q:=by
 obtain⟨ρ,Fz,R,h⟩:=h;refine⟨ρ,Fz,R,ha.mono ρ _ _ (λops h vs ao H' x o=>?_) h⟩;exact m.run ao H' _ vs Q x.al (o.root R x) (m.mono _ _ _ (λd k q v Fz3 H3 p3=>q v Fz3 H3 (p3.behind x)) h)
theorem uG (hc:j5 X (.builtin id) r)(m:nR X.K r pf)(hg:Gl X x)(hm:X.mg x=none)(hv:Wt x=some (.builtin id))(ha:iR X (e::es) t)(hn:x≠"__name__":=by decide) (hdb:(x == ("__debug__" : Str))=false:=by decide)
  (he:Wf (e::es) X.env=(false,Wx e X.env)::Wf es X.env:=by rfl) (hpl:(Wu pos (Wf es X.env)).any (·.1)=false:=by rfl):aD X (.Call (.Name x p) (e::es) [] pos) (tB pf t) where
 mono ρ Q Q' mm h:=ha.mono ρ _ _ (λops h=>m.mono _ _ _ mm h) h
 run:=PE.weak (BK hc hg hm hv ha.run hn hdb he hpl) λσ H Q h=>Jj ha m h
theorem Jk (hc:j5 X (.type T) r)(m:nR X.K r pf)(hg:Gl X x)(hm:X.mg x=none)(hv:Wt x=some (.type T))(ha:iR X (e::es) t)(hn:x≠"__name__":=by decide) (hdb:(x == ("__debug__" : Str))=false:=by decide)
  (he:Wf (e::es) X.env=(false,Wx e X.env)::Wf es X.env:=by rfl) (hpl:(Wu pos (Wf es X.env)).any (·.1)=false:=by rfl):aD X (.Call (.Name x p) (e::es) [] pos) (tB pf t) where
 mono ρ Q Q' mm h:=ha.mono ρ _ _ (λops h=>m.mono _ _ _ mm h) h
 run:=PE.weak (G3 hc hg hm hv ha.run hn hdb he hpl) λσ H Q h=>Jj ha m h
end
end PL
namespace PL
open PySem PySem.Spec L2
open PyProof.Rows hiding St
variable {ρ ρ':au}{σ σ':St}{Fz ao:FZ}{H H' H1:Hp}{X:Cx}{e tg:Expr}{K:Xc}{D:Ends}{a l:We}{i k n j:Nat}{d:PV}{te:aN}{x:Str}{pos':Pos}{o:HO}{N:Tn}{js:Tt}{F:PF}{ds:List PV}{vs xs:List V}{p:Prop}
structure eV where
 nx:au->Prop
 rt:PV->Kd->Prop
 bk:au->Prop
 ct:au->Prop
structure eV.le (O O':eV):Prop where
 nx:∀ρ,O.nx ρ->O'.nx ρ
 rt:∀d k,O.rt d k->O'.rt d k
 bk:∀ρ,O.bk ρ->O'.bk ρ
 ct:∀ρ,O.ct ρ->O'.ct ρ
abbrev cN:=au->eV->Prop
def dX (t:cN)(O:eV)(ρ:au):Prop:=t ρ O
def Jl (c:cY)(ρ:au)(Q:Bool->Prop):Prop:=c ρ Q
theorem zy {c:cY}{Q:Bool->Prop}(h:c ρ Q):Jl c ρ Q:=h
theorem hold {t:cN}{O:eV}(h:t ρ O):dX t O ρ:=h
structure Step (ρ:au)(σ:St)(Fz:FZ)(H:Hp)(ao:FZ)(H':Hp):Prop where
 sub:∀b,Fz b->ao b
 new:∀b,ao b->Fz b\/H b=none\/bK ρ σ b
 keep:∀b o,H b=some o->¬ bK ρ σ b->H' b=some o
def bB (ρ:au)(σ:St)(H:Hp)(ρ':au)(σ':St):Prop:=∀b,bK ρ' σ' b->bK ρ σ b\/H b=none
theorem Step.of (x:Ext Fz H ao H'):Step ρ σ Fz H ao H':=
 ⟨x.sub,λb h=>(x.new b h).elim .inl (λh=>.inr (.inl h)),λb o e _=>x.same b o e⟩
theorem Step.none (s:Step ρ σ Fz H ao H'){b:We}(h:H' b=Option.none):H b=Option.none\/bK ρ σ b:=by
 by_cases o:bK ρ σ b
 ·exact .inr o
 ·cases e:H b with
  | none=>exact .inl rfl
  | some u=>rw[s.keep b u e o]at h;cases h
theorem Step.trans {F1 F2 F3:FZ}{H2 H3:Hp}(a:Step ρ σ F1 H1 F2 H2)(oi:bB ρ σ H1 ρ' σ')(b:Step ρ' σ' F2 H2 F3 H3):Step ρ σ F1 H1 F3 H3:=
 ⟨λc h=>b.sub c (a.sub c h),λc h=>by
  rcases b.new c h with h | h | h
  ·exact a.new c h
  ·exact .inr (a.none h)
  ·exact .inr ((oi c h).symm),λc o e n=>by
  refine b.keep c o (a.keep c o e n) λz=>?_;rcases oi c z with z | z
  ·exact n z
  ·rw[e]at z;cases z⟩
theorem bB.trans {ρ'':au}{σ'':St}{F1 F2:FZ}{H2:Hp}(a:Step ρ σ F1 H1 F2 H2)(oi:bB ρ σ H1 ρ' σ')(oj:bB ρ' σ' H2 ρ'' σ''):bB ρ σ H1 ρ'' σ'':=λc h=>by
 rcases oj c h with h | h
 ·exact oi c h
 ·exact(a.none h).symm
theorem bB.refl (ρ:au)(σ:St)(H:Hp):bB ρ σ H ρ σ:=λ_ h=>.inl h
def Ret (K:Xc)(ρ:au)(σ:St)(H:Hp)(ao:FZ)(H':Hp)(d:PV):Kd->V->Prop
 | .aH,v=>aq K ao H' d v
 | .new,v=>∃a,v=.ref a/\¬ ao a/\Own K ao H' d a/\(bK ρ σ a\/H a=none)
 | .own _,_=>False
def nT (K:Xc)(D:Ends)(ρ:au)(σ:St)(Fz:FZ)(H:Hp):eV where
 nx:=λρ'=>∀σ' ao H',Step ρ σ Fz H ao H'->bB ρ σ H ρ' σ'->Rel K ao ρ' σ' H'->D.nx σ' H'
 bk:=λρ'=>∀σ' ao H',Step ρ σ Fz H ao H'->bB ρ σ H ρ' σ'->Rel K ao ρ' σ' H'->D.bk σ' H'
 ct:=λρ'=>∀σ' ao H',Step ρ σ Fz H ao H'->bB ρ σ H ρ' σ'->Rel K ao ρ' σ' H'->D.ct σ' H'
 rt:=λd k=>∀v ao H',Step ρ σ Fz H ao H'->(∀b,ao b->H' b≠none)->Ret K ρ σ H ao H' d k v->D.rt v H'
def zA (K:Xc)(t:cN):TS:=λD σ H=>∃ρ Fz,Rel K Fz ρ σ H/\t ρ (nT K D ρ σ Fz H)
structure jR (X:Cx)(st:WJ)(t:cN):Prop where
 mono:∀ρ O O',O.le O'->t ρ O->t ρ O'
 run:PS X st (zA X.K t)
structure dF (X:Cx)(st:List WJ)(t:cN):Prop where
 mono:∀ρ O O',O.le O'->t ρ O->t ρ O'
 run:dh X st (zA X.K t)
theorem PS.weak {e:WJ}{t t':TS}(h:PS X e t)(w:∀D σ H,t' D σ H->t D σ H):PS X e t':=λpins s σ H D I q=>h pins s σ H D I (w D σ H q)
theorem dh.weak {e:List WJ}{t t':TS}(h:dh X e t)(w:∀D σ H,t' D σ H->t D σ H):dh X e t':=λpins s σ H D I q=>h pins s σ H D I (w D σ H q)
theorem zpF {D':Ends}(s:Step ρ σ Fz H ao H')(oi:bB ρ σ H ρ' σ')(h1:∀σ H,D.nx σ H->D'.nx σ H)(h2:∀v H,D.rt v H->D'.rt v H)(h3:∀σ H,D.bk σ H->D'.bk σ H)(h4:∀σ H,D.ct σ H->D'.ct σ H) :
  (nT K D ρ σ Fz H).le (nT K D' ρ' σ' ao H') where
 nx ρ2 q σ2 F2 H2 s2 o2 R2:=h1 _ _ (q σ2 F2 H2 (s.trans oi s2) (bB.trans s oi o2) R2)
 bk ρ2 q σ2 F2 H2 s2 o2 R2:=h3 _ _ (q σ2 F2 H2 (s.trans oi s2) (bB.trans s oi o2) R2)
 ct ρ2 q σ2 F2 H2 s2 o2 R2:=h4 _ _ (q σ2 F2 H2 (s.trans oi s2) (bB.trans s oi o2) R2)
 rt d k q v F2 H2 s2 al r:=h2 _ _ (q v F2 H2 (s.trans oi s2) al (by
  cases k with
  | aH=>exact r
  | own i=>exact r
  | new=>
   obtain⟨a,e,nf,o,w⟩:=r;refine⟨a,e,nf,o,?_⟩;rcases w with w | w
   ·exact oi a w
   ·exact(s.none w).symm))
theorem uH (s:Step ρ σ Fz H ao H')(oi:bB ρ σ H ρ' σ'):(nT K D ρ σ Fz H).le (nT K D ρ' σ' ao H'):=
 zpF s oi (λ_ _ h=>h) (λ_ _ h=>h) (λ_ _ h=>h) (λ_ _ h=>h)
section
variable {X:Cx}{st:WJ}{rest:List WJ}{t u:cN}{e:Expr}{te:aN}{pos:Pos}
def zdU:cN:=λρ O=>O.nx ρ
def pSeq (t u:cN):cN:=λρ O=>t ρ { O with nx:=dX u O }
theorem qT:dF X [] zdU where
 mono ρ O O' m h:=m.nx _ h
 run:=dh.weak Bd λD σ H h=>by
  obtain⟨ρ,Fz,R,h⟩:=h;exact h σ Fz H (.of ⟨Same.refl H,λ_ h=>h,λ_ h=>.inl h,R.al⟩) (bB.refl ρ σ H) R
theorem bU (h1:jR X st t):dF X [st] t:=⟨h1.mono,wL h1.run⟩
theorem bD (h1:jR X st t)(h2:dF X rest u):dF X (st::rest) (pSeq t u) where
 mono ρ O O' m h:=h1.mono ρ { O with nx:=λρ'=>u ρ' O } _ ⟨λρ' q=>h2.mono ρ' _ _ m q,m.rt,m.bk,m.ct⟩ h
 run:=dh.weak (nJ h1.run h2.run) λD σ H h=>by
  obtain⟨ρ,Fz,R,h⟩:=h;refine⟨ρ,Fz,R,h1.mono ρ { nT X.K D ρ σ Fz H with nx:=λρ'=>u ρ' (nT X.K D ρ σ Fz H) } _ ⟨λρ' q=>?_,λ_ _ q=>q,λ_ q=>q,λ_ q=>q⟩ h⟩;intro σ' ao H' s oi R';exact⟨ρ',ao,R',h2.mono ρ' _ _ (uH s oi) q⟩
def pRet (te:aN):cN:=λρ O=>te ρ λd k=>O.rt d (match k with | .aH=>.aH | _=>.new)
theorem gP (he:aD X e te):jR X (.Return (some e) pos) (pRet te) where
 mono ρ O O' m h:=he.mono ρ _ _ (λ_ _ q=>m.rt _ _ q) h
 run:=PS.weak (Bf he.run) λD σ H h=>by
  obtain⟨ρ,Fz,R,h⟩:=h;refine⟨ρ,Fz,R,he.mono ρ _ _ (λd k q v ao H' p=>q v ao H' (.of p.ext) p.ext.al ?_) h⟩;cases k with
  | aH=>exact p.gm
  | new=>obtain⟨a,e,hn,nf,o⟩:=p.gm;exact⟨a,e,nf,o,.inr hn⟩
  | own i=>
   obtain⟨h1,h2⟩:=p.gm;obtain⟨a,e,nf,o⟩:=(R.ext p.ext).own i d h1;rw[h2]at e;cases e;exact⟨a,rfl,nf,o,.inl ⟨i,d,h1,h2⟩⟩
def pIf (c:cY)(t u:cN):cN:=λρ O=>c ρ λb=>if b=true then dX t O ρ else dX u O ρ
theorem qp {c:Expr}{a b:List WJ}{tc:cY}(hc:gq X c tc)(ha:dF X a t)(hb:dF X b u):jR X (.If c a b pos) (pIf tc t u) where
 mono ρ O O' m h:=hc.mono ρ _ _ (λd q=>by
  cases d with
  | true=>rw[Qf rfl]at q ⊢;exact ha.mono ρ _ _ m q
  | false=>rw[Qe Xw]at q ⊢;exact hb.mono ρ _ _ m q) h
 run:=PS.weak (Bh hc.run ha.run hb.run) λD σ H h=>by
  obtain⟨ρ,Fz,R,h⟩:=h;refine⟨ρ,Fz,R,hc.mono ρ _ _ (λd q ao H' x=>?_) h⟩;cases d with
  | true=>
   rw[Qf rfl]at q ⊢;exact⟨ρ,ao,R.ext x,ha.mono ρ _ _ (uH (.of x) (bB.refl ρ σ H)) q⟩
  | false=>
   rw[Qe Xw]at q ⊢;exact⟨ρ,ao,R.ext x,hb.mono ρ _ _ (uH (.of x) (bB.refl ρ σ H)) q⟩
def zdk (i:Nat)(ρ:au):au:=match ρ[i]? with
 | some (some (d,true))=>ρ.set i (some (d,false))
 | _=>ρ
def pFrz (i:Nat)(t:cN):cN:=λρ O=>t (zdk i ρ) O
end
section
variable {K:Xc}{Fz:FZ}{ρ:au}{σ:St}{H:Hp}
theorem Rel.set {v:V}(R:Rel K Fz ρ σ H)(h:aq K Fz H d v):Rel K Fz (ρ.set i (some (d,false))) (σ.set i (some v)) H where
 al:=R.al
 len:=by rw[Yb,Yb];exact R.len
 aH j e he:=by
  by_cases hij:i=j
  ·subst hij;by_cases hi:i<ρ.length
   ·rw[Xm hi]at he;cases he;exact⟨v,by rw[Xm (by rw[<- R.len];exact hi)],h⟩
   ·rw[XG (by lia),XD (by lia)]at he;cases he
  ·rw[Xk hij]at he ⊢;exact R.aH j e he
 own j e he:=by
  by_cases hij:i=j
  ·subst hij;by_cases hi:i<ρ.length
   ·rw[Xm hi]at he;cases he
   ·rw[XG (by lia),XD (by lia)]at he;cases he
  ·rw[Xk hij]at he ⊢;exact R.own j e he
 inj j k d' e a h1 h2 h3 h4:=by
  have nj:i≠j:=λz=>by
   subst z;by_cases hi:i<ρ.length
   ·rw[Xm hi]at h1;cases h1
   ·rw[XG (by lia),XD (by lia)]at h1;cases h1
  have nk:i≠k:=λz=>by
   subst z;by_cases hi:i<ρ.length
   ·rw[Xm hi]at h2;cases h2
   ·rw[XG (by lia),XD (by lia)]at h2;cases h2
  rw[Xk nj]at h1 h3;rw[Xk nk]at h2 h4;exact R.inj j k d' e a h1 h2 h3 h4
theorem uI {v:V}:∀b,bK (ρ.set i (some (d,false))) (σ.set i (some v)) b->bK ρ σ b:=λb ⟨j,e,h1,h2⟩=>by
 have nj:i≠j:=λz=>by
  subst z;by_cases hi:i<ρ.length
  ·rw[Xm hi]at h1;cases h1
  ·rw[XG (by lia),XD (by lia)]at h1;cases h1
 rw[Xk nj]at h1 h2;exact⟨j,e,h1,h2⟩
theorem Rel.zun (R:Rel K Fz ρ σ H)(nf:¬ Fz a)(h:Own K Fz H d a)(hno:¬ bK ρ σ a):Rel K Fz (ρ.set i (some (d,true))) (σ.set i (some (.ref a))) H where
 al:=R.al
 len:=by rw[Yb,Yb];exact R.len
 aH j e he:=by
  by_cases hij:i=j
  ·subst hij;by_cases hi:i<ρ.length
   ·rw[Xm hi]at he;cases he
   ·rw[XG (by lia),XD (by lia)]at he;cases he
  ·rw[Xk hij]at he ⊢;exact R.aH j e he
 own j e he:=by
  by_cases hij:i=j
  ·subst hij;by_cases hi:i<ρ.length
   ·rw[Xm hi]at he;cases he;exact⟨a,by rw[Xm (by rw[<- R.len];exact hi)],nf,h⟩
   ·rw[XG (by lia),XD (by lia)]at he;cases he
  ·rw[Xk hij]at he ⊢;exact R.own j e he
 inj j k d' e b h1 h2 h3 h4:=by
  by_cases hj:i=j
  ·by_cases hk:i=k
   ·rw[<- hj,<- hk]
   ·subst hj;rw[Xk hk]at h2 h4;by_cases hi:i<σ.length
    ·rw[Xm hi]at h3;cases h3;exact Qg ⟨k,e,h2,h4⟩ hno
    ·rw[XG (by lia),XD (by lia)]at h3;cases h3
  ·by_cases hk:i=k
   ·subst hk;rw[Xk hj]at h1 h3;by_cases hi:i<σ.length
    ·rw[Xm hi]at h4;cases h4;exact Qg ⟨j,d',h1,h3⟩ hno
    ·rw[XG (by lia),XD (by lia)]at h4;cases h4
   ·rw[Xk hj]at h1 h3;rw[Xk hk]at h2 h4;exact R.inj j k d' e b h1 h2 h3 h4
theorem zml:∀b,bK (ρ.set i (some (d,true))) (σ.set i (some (.ref a))) b->b=a\/bK ρ σ b:=λb ⟨j,e,h1,h2⟩=>by
 by_cases hij:i=j
 ·subst hij;by_cases hi:i<σ.length
  ·rw[Xm hi]at h2;cases h2;exact .inl rfl
  ·rw[XG (by lia),XD (by lia)]at h2;cases h2
 ·rw[Xk hij]at h1 h2;exact .inr ⟨j,e,h1,h2⟩
theorem Rel.frozen (R:Rel K Fz ρ σ H):∃ao,Rel K ao (zdk i ρ) σ H/\Step ρ σ Fz H ao H/\bB ρ σ H (zdk i ρ) σ:=by
 unfold zdk;split
 ·rename_i d he
  obtain⟨a,e,nf,o⟩:=R.own i d he;have R2:Rel K (λb=>Fz b\/b=a) (ρ.set i (some (d,false))) (σ.set i (some (.ref a))) H:=by
   have hno:∀j d',i≠j->ρ[j]? = some (some (d',true))->σ[j]?≠some (some (.ref a)):=λj d' hne h1 h2=>hne (R.inj i j d d' a he h1 e h2);have hal:∀b,(Fz b\/b=a)->H b≠none:=λb hb=>by
    rcases hb with hb | rfl
    ·exact R.al b hb
    ·obtain⟨o',q,_⟩:=o.at;rw[q];exact λz=>nomatch z
   refine⟨hal,by rw[Yb,Yb];exact R.len,λj e' he'=>?_,λj e' he'=>?_,λj k d' e' b h1 h2 h3 h4=>?_⟩
   ·by_cases hij:i=j
    ·subst hij;have hi:i<ρ.length:=(Xf.mp he).1;rw[Xm hi]at he';cases he';exact⟨_,by rw[Xm (by rw[<- R.len];exact hi)],(o.mono (ao:=λb=>Fz b\/b=a) (Keep.of (Same.refl _)) (λ_ h=>.inl h) (λ_ h=>h)).den (.inr rfl)⟩
    ·rw[Xk hij]at he' ⊢;obtain⟨v,q1,q2⟩:=R.aH j e' he';exact⟨v,q1,aq.mono (Keep.of (Same.refl _)) (λ_ h=>.inl h) _ _ q2⟩
   ·have hij:i≠j:=λz=>by
     subst z;have hi:i<ρ.length:=(Xf.mp he).1;rw[Xm hi]at he';cases he'
    rw[Xk hij]at he' ⊢;obtain⟨b,q1,q2,q3⟩:=R.own j e' he';refine⟨b,q1,λz=>?_,q3.mono (Keep.of (Same.refl _)) (λ_ h=>.inl h) (λ_ h=>h)⟩;rcases z with z | z
    ·exact q2 z
    ·subst z;exact hno j e' hij he' q1
   ·have hi:i<ρ.length:=(Xf.mp he).1;have nj:i≠j:=λz=>by subst z;rw[Xm hi]at h1;cases h1
    have nk:i≠k:=λz=>by subst z;rw[Xm hi]at h2;cases h2
    rw[Xk nj]at h1 h3;rw[Xk nk]at h2 h4;exact R.inj j k d' e' b h1 h2 h3 h4
  have es:σ.set i (some (.ref a))=σ:=List.ext_getElem? λj=>by
   by_cases hij:i=j
   ·subst hij;rw[Xm (Xf.mp e).1,e]
   ·rw[Xk hij]
  refine⟨λb=>Fz b\/b=a,by rw[es]at R2;exact R2,⟨λ_ h=>.inl h,λb hb=>?_,λb o e _=>e⟩,λb hb=>?_⟩
  ·rcases hb with hb | rfl
   ·exact .inl hb
   ·exact .inr (.inr ⟨i,d,he,e⟩)
  ·have:=uI (ρ:=ρ) (σ:=σ) (i:=i) (d:=d) (v:=.ref a) b (by rw[es];exact hb);exact .inl this
 ·exact⟨Fz,R,.of ⟨Same.refl H,λ_ h=>h,λ_ h=>.inl h,R.al⟩,bB.refl ρ σ H⟩
end
section
variable {X:Cx}{st:WJ}{sts:List WJ}{t:cN}
theorem lE (i:Nat)(h:jR X st t):jR X st (pFrz i t) where
 mono ρ O O' m q:=h.mono _ _ _ m q
 run:=PS.weak h.run λD σ H q=>by
  obtain⟨ρ,Fz,R,q⟩:=q;obtain⟨F2,R2,s2,o2⟩:=R.frozen (i:=i);exact⟨_,F2,R2,h.mono _ _ _ (uH s2 o2) q⟩
end
def pSet (i:Nat)(te:aN):cN:=λρ O=>te ρ λd k=>match k with
 | .aH=>O.nx (ρ.set i (some (d,false)))
 | .new=>O.nx (ρ.set i (some (d,true)))
 | .own _=>False
theorem Jm (he:aD X e te)(h:zA X.K (pSet i te) D σ H):qN (lift X.K te) (vH i) D σ H:=by
 obtain⟨ρ,Fz,R,h⟩:=h;refine⟨ρ,Fz,R,he.mono ρ _ _ (λd k q v ao H' p=>?_) h⟩;show D.nx (σ.set i (some v)) H';have R':=R.ext p.ext;cases k with
 | aH=>exact(show(nT X.K D ρ σ Fz H).nx (ρ.set i (some (d,false))) from q) _ ao H' (.of p.ext) (λb hb=>.inl (uI b hb)) (R'.set p.gm)
 | own j=>exact q.elim
 | new=>
  obtain⟨a,e,hn,nf,o⟩:=p.gm;subst e;have hno:¬ bK ρ σ a:=λ⟨j,e,h1,h2⟩=>by
   obtain⟨b,q1,_,q2⟩:=R.own j e h1;rw[h2]at q1;cases q1;obtain⟨o',q3,_⟩:=q2.at;rw[hn]at q3;cases q3
  refine(show(nT X.K D ρ σ Fz H).nx (ρ.set i (some (d,true))) from q) _ ao H' (.of p.ext) (λb hb=>?_) (R'.zun nf o hno);rcases zml b hb with rfl | hb
  ·exact .inr hn
  ·exact .inl hb
theorem Jo (he:aD X e te):∀ρ O O',eV.le O O'->pSet i te ρ O->pSet i te ρ O':=λρ O O' m h=>he.mono ρ _ _ (λd k q=>by
 cases k with
 | aH=>exact m.nx _ q
 | new=>exact m.nx _ q
 | own j=>exact q) h
section
variable {X:Cx}{e:Expr}{te:aN}{pos:Pos}
theorem cH (hN:X.N.Nodup)(hi:X.N[i]? = some x)(hx:Loc X.env.scope x)(he:aD X e te)(hs:WE e (some (.Name x pos')) pos.line X.env=pure false:=by rfl)(hf:X.fn x=true\/X.env.scope.names.lookup x=some .local:=by first | exact .inl rfl | exact .inr rfl | assumption) :
  jR X (.Assign [.Name x pos'] e pos) (pSet i te):=
 ⟨Jo he,PS.weak (ur hN hi hx he.run hs hf) λ_ _ _ h=>Jm he h⟩
end
abbrev jr:=PV->au->(au->Prop)->Prop
abbrev jc:=List PV->au->(au->Prop)->Prop
def tL (K:Xc)(t:jr):TG:=λv σ H Q=>∃ρ Fz d,Rel K Fz ρ σ H/\aq K Fz H d v/\t d ρ λρ'=>∀σ',Rel K Fz ρ' σ' H->(∀b,bK ρ' σ' b->bK ρ σ b)->Q σ' H
def zuo (K:Xc)(t:jc):qM:=λvs σ H Q=>∃ρ Fz ds,Rel K Fz ρ σ H/\aj K Fz H ds vs/\t ds ρ λρ'=>∀σ',Rel K Fz ρ' σ' H->(∀b,bK ρ' σ' b->bK ρ σ b)->Q σ' H
structure uJ (X:Cx)(tg:Expr)(t:jr):Prop where
 mono:∀d ρ Q Q',(∀ρ,Q ρ->Q' ρ)->t d ρ Q->t d ρ Q'
 run:PG X tg (tL X.K t)
structure qU (X:Cx)(tgs:List Expr)(t:jc):Prop where
 mono:∀ds ρ Q Q',(∀ρ,Q ρ->Q' ρ)->t ds ρ Q->t ds ρ Q'
 run:qe X tgs (zuo X.K t)
theorem PG.weak {t t':TG}(h:PG X e t)(w:∀v σ H Q,t' v σ H Q->t v σ H Q):PG X e t':=λpins s σ H v u Q I r q=>h pins s σ H v u Q I r (w v σ H Q q)
theorem qe.weak {e:List Expr}{t t':qM}(h:qe X e t)(w:∀v σ H Q,t' v σ H Q->t v σ H Q):qe X e t':=λpins s σ H v u Q I r q=>h pins s σ H v u Q I r (w v σ H Q q)
def zbu (i:Nat):jr:=λd ρ Q=>Q (ρ.set i (some (d,false)))
def zdr:jc:=λds ρ Q=>ds=[]/\Q ρ
def zbI (t:jr)(u:jc):jc:=λds ρ Q=>∃d r,ds=d::r/\t d ρ λρ'=>u r ρ' Q
def zds (n:Nat)(t:jc):jr:=λd ρ Q=>∃ds,d=.tup ds/\ds.length=n/\t ds ρ Q
section
variable {X:Cx}{pos:Pos}
theorem bW (hN:X.N.Nodup)(hi:X.N[i]? = some x)(hx:Loc X.env.scope x)(hf:X.fn x=true\/X.env.scope.names.lookup x=some .local:=by first | exact .inl rfl | exact .inr rfl | assumption):uJ X (.Name x pos) (zbu i) where
 mono d ρ Q Q' m h:=m _ h
 run:=PG.weak (yL hN hi hx hf) λv σ H Q h=>by
  obtain⟨ρ,Fz,d,R,hd,h⟩:=h;exact h _ (R.set hd) (λb hb=>uI b hb)
theorem vO:qU X [] zdr where
 mono d ρ Q Q' m h:=⟨h.1,m _ h.2⟩
 run:=qe.weak TV λv σ H Q h=>by
  obtain⟨ρ,Fz,ds,R,hd,e,h⟩:=h;subst e;simp only[aj]at hd;exact⟨hd,h σ R (λ_ h=>h)⟩
theorem nU {e:Expr}{es:List Expr}{t:jr}{u:jc}(h1:uJ X e t)(h2:qU X es u)
  (hs:(WS (e::es) X.env).map (·.2)=assign e X.env::(WS es X.env).map (·.2):=by rfl):qU X (e::es) (zbI t u) where
 mono ds ρ Q Q' m h:=by
  obtain⟨d,r,e,h⟩:=h;exact⟨d,r,e,h1.mono d ρ _ _ (λρ' q=>h2.mono r ρ' _ _ m q) h⟩
 run:=qe.weak (TX h1.run h2.run hs) λvs σ H Q h=>by
  obtain⟨ρ,Fz,ds,R,hd,d,r,e,h⟩:=h;subst e;simp only[aj]at hd;obtain⟨v,rs,e,d1,d2⟩:=hd;subst e;refine⟨v,rs,rfl,ρ,Fz,d,R,d1,h1.mono d ρ _ _ (λρ' q σ' R' o'=>?_) h⟩;exact⟨ρ',Fz,r,R',d2,h2.mono r ρ' _ _ (λρ2 q σ2 R2 o2=>q σ2 R2 (λb hb=>o' b (o2 b hb))) q⟩
theorem vP {es:List Expr}{k:Nat}{t:jc}{n:Nat}(hc:X.calm=true)(h:qU X es t)
  (hn:(WS es X.env).length=n:=by rfl) (hst:(WS es X.env).findIdx? (·.1)=none:=by rfl):uJ X (.Tuple es k pos) (zds n t) where
 mono d ρ Q Q' m q:=by
  obtain⟨ds,e,l,q⟩:=q;exact⟨ds,e,l,h.mono ds ρ _ _ m q⟩
 run:=PG.weak (TY hc h.run hn hst) λv σ H Q q=>by
  obtain⟨ρ,Fz,d,R,hd,ds,e,l,q⟩:=q;subst e;simp only[aq]at hd;obtain⟨a,xs,e,h1,h2⟩:=hd;have hl:=h2.length;exact⟨a,xs,e,bG.of h1,by lia,ρ,Fz,ds,R,h2,q⟩
end
def jD (k:Nat)(t:jr):Prop:=∀d ρ Q,t d ρ Q->t d ρ λρ'=>Q ρ'/\ρ'.length=ρ.length/\∀j,k<=j->ρ'[j]? = ρ[j]?
def Jp (k:Nat)(t:jc):Prop:=∀d ρ Q,t d ρ Q->t d ρ λρ'=>Q ρ'/\ρ'.length=ρ.length/\∀j,k<=j->ρ'[j]? = ρ[j]?
theorem jd (h:i<k):jD k (zbu i):=λd ρ Q q=>⟨q,by rw[Yb],λj hj=>by rw[Xk (by lia)]⟩
theorem zB {t:jc}(h:Jp k t):jD k (zds n t):=λd ρ Q q=>by
 obtain⟨ds,e,l,q⟩:=q;exact⟨ds,e,l,h ds ρ _ q⟩
def pUnp (te:aN)(g:jr):cN:=λρ O=>te ρ λd k=>k=.aH/\g d ρ λρ'=>O.nx ρ'
theorem zsb {X:Cx}{tg e:Expr}{te:aN}{g:jr}{pos:Pos}(he:aD X e te)(hg:uJ X tg g)(hs:swapsWithSole [tg] e pos.line X.env=pure false:=by rfl)(hw:swappedStores [tg] e X.env=pure none:=by rfl)
  (h1:(WS [tg] X.env).map (·.2)=[assign tg X.env]:=by rfl):jR X (.Assign [tg] e pos) (pUnp te g) where
 mono ρ O O' m h:=he.mono ρ _ _ (λd k q=>⟨q.1,hg.mono d ρ _ _ (λρ' q=>m.nx _ q) q.2⟩) h
 run:=PS.weak (Bo he.run hg.run hs hw h1) λD σ H h=>by
  obtain⟨ρ,Fz,R,h⟩:=h;refine⟨ρ,Fz,R,he.mono ρ _ _ (λd k q v ao H' p=>?_) h⟩;obtain⟨rfl,q⟩:=q;exact⟨ρ,ao,d,R.ext p.ext,p.gm,hg.mono d ρ _ _ (λρ' q σ' R' o'=>q σ' ao H' (.of p.ext) (λb hb=>.inl (o' b hb)) R') q⟩
abbrev je:=au->(List PV->Bool->Prop)->Prop
def Walk (K:Xc)(Fz:FZ)(o:Bool)(J:It)(its:List PV)(H:Hp):Prop:=∀H2,(Same H H2\/(o=false/\uz Fz H H2))->∀i:Nat,
 (∀d,its[i]? = some d->J.go i H2/\∀x H3,J.sI i H2 x H3->Same H2 H3/\aq K Fz H3 d x)/\(its.length<=i->J.stop i H2)
def zE (K:Xc)(t:je):TI:=λσ H R=>∃ρ Fz,Rel K Fz ρ σ H/\t ρ λits o=>∀J ao H',Ext Fz H ao H'->Walk K ao o J its H'->R J H'
structure lF (X:Cx)(tg iter:Expr)(t:je):Prop where
 mono:∀ρ Q Q',(∀its o,Q its o->Q' its o)->t ρ Q->t ρ Q'
 run:PI X tg iter (zE X.K t)
theorem PI.weak {t t':TI}(h:PI X tg e t)(w:∀σ H Q,t' σ H Q->t σ H Q):PI X tg e t':=λpins s σ H Q I q=>h pins s σ H Q I (w σ H Q q)
def isOwn:Kd->Bool
 | .own _=>true
 | _=>false
def iLst (te:aN):je:=λρ Q=>te ρ λd k=>∃ds,d=.lst ds/\Q ds (isOwn k)
def zdV (te:aN):je:=λρ Q=>te ρ λd k=>∃ds,d=.tup ds/\Q ds false
section
variable {X:Cx}{tg e:Expr}{te:aN}
theorem jf (he:aD X e te):lF X tg e (iLst te) where
 mono ρ Q Q' m h:=he.mono ρ _ _ (λd k ⟨ds,e,q⟩=>⟨ds,e,m _ _ q⟩) h
 run:=PI.weak (Gy he.run) λσ H Rr h=>by
  obtain⟨ρ,Fz,R,h⟩:=h;refine⟨ρ,Fz,R,he.mono ρ _ _ (λd k q v ao H' p=>?_) h⟩;obtain⟨ds,e,q⟩:=q;subst e;have rt:=p.root R;obtain⟨a,xs,rfl,h1,h2⟩:=dB rt;refine⟨a,rfl,⟨xs,h1⟩,?_⟩;have walk:∀(F2:FZ) (o:Bool),(∀b,ao b->F2 b)->(∀H2,(Same H' H2\/(o=false/\uz F2 H' H2))->aR X.K H2 a xs/\Keep F2 H' H2)->Walk X.K F2 o (vI X.K a) ds H':=λF2 o s2 st H2 hH i=>by
   obtain⟨g1,g2⟩:=st H2 hH;have g3:aj X.K F2 H2 ds xs:=aj.mono g2 (λ_ h=>h) _ _ (aj.mono (Keep.of (Same.refl _)) s2 _ _ h2);have hl:=g3.length;refine⟨λd hd=>?_,λhi=>⟨xs,g1,by lia⟩⟩;obtain⟨v,q1,q2⟩:=g3.get hd;exact⟨⟨xs,v,g1,q1⟩,λx H3 ⟨e,y⟩=>by
    subst e;have:=y xs g1;rw[q1]at this;cases this;exact⟨Same.refl _,q2⟩⟩
  cases k with
  | own i=>exact q _ ao H' p.ext (walk ao true (λ_ h=>h) λH2 hH=>by
    rcases hH with hH | ⟨z,_⟩
    ·exact⟨hH.seq h1,.of hH⟩
    ·cases z)
  | aH=>
   have pd:aq X.K ao H' (.lst ds) (.ref a):=p.gm;simp only[aq]at pd;obtain⟨a',xs',e,h3,h4⟩:=pd;cases e;refine q _ ao H' p.ext ?_;intro H2 hH i;have kp:Keep ao H' H2:=hH.elim (λz=>.of z) (λz=>.mk' z.2);have g1:aR X.K H2 a xs':=h3.elim (λh=>.inl (kp.rd trivial h.1 h.2)) KX.sq;have g3:aj X.K ao H2 ds xs':=aj.mono kp (λ_ h=>h) _ _ h4;have hl:=g3.length;refine⟨λd hd=>?_,λhi=>⟨xs',g1,by lia⟩⟩;obtain⟨v,q1,q2⟩:=g3.get hd;exact⟨⟨xs',v,g1,q1⟩,λx H3 ⟨e,y⟩=>by
    subst e;have:=y xs' g1;rw[q1]at this;cases this;exact⟨Same.refl _,q2⟩⟩
  | new=>
   obtain⟨b,e,hn,nf,o⟩:=p.gm;cases e;obtain⟨xs',o1,o2⟩:=o;refine q _ (λb=>ao b\/b=a) H' (p.ext.add hn (by rw[o1];exact λz=>nomatch z)) ?_;intro H2 hH i;have kp:Keep (λb=>ao b\/b=a) H' H2:=hH.elim (λz=>.of z) (λz=>.mk' z.2);have g1:aR X.K H2 a xs':=.inl (kp.rd trivial (.inr rfl) (.inl o1));have g3:aj X.K (λb=>ao b\/b=a) H2 ds xs':=aj.mono kp (λ_ h=>h) _ _ (aj.mono (Keep.of (Same.refl _)) (λ_ h=>.inl h) _ _ o2);have hl:=g3.length;refine⟨λd hd=>?_,λhi=>⟨xs',g1,by lia⟩⟩;obtain⟨v,q1,q2⟩:=g3.get hd;exact⟨⟨xs',v,g1,q1⟩,λx H3 ⟨e,y⟩=>by
    subst e;have:=y xs' g1;rw[q1]at this;cases this;exact⟨Same.refl _,q2⟩⟩
theorem xT (he:aD X e te):lF X tg e (zdV te) where
 mono ρ Q Q' m h:=he.mono ρ _ _ (λd k ⟨ds,e,q⟩=>⟨ds,e,m _ _ q⟩) h
 run:=PI.weak (T9 he.run) λσ H Rr h=>by
  obtain⟨ρ,Fz,R,h⟩:=h;refine⟨ρ,Fz,R,he.mono ρ _ _ (λd k q v ao H' p=>?_) h⟩;obtain⟨ds,e,q⟩:=q;subst e;obtain⟨a,xs,rfl,h1,h2⟩:=xR (p.root R);refine⟨a,rfl,⟨xs,bG.of h1⟩,q _ ao H' p.ext ?_⟩;intro H2 hH i;have kp:Keep ao H' H2:=hH.elim (λz=>.of z) (λz=>.mk' z.2);have g1:bG X.K H2 a xs:=kp.Z8 h1;have g3:aj X.K ao H2 ds xs:=aj.mono kp (λ_ h=>h) _ _ h2;have hl:=g3.length;refine⟨λd hd=>?_,λhi=>⟨xs,g1,by lia⟩⟩;obtain⟨v,q1,q2⟩:=g3.get hd;exact⟨⟨xs,v,g1,q1⟩,λx H3 ⟨e,y⟩=>by
   subst e;have:=y xs g1;rw[q1]at this;cases this;exact⟨Same.refl _,q2⟩⟩
end
def jE (lo:Int)(n:Nat):List PV:=(Yj n).map λ(i:Nat)=>PV.int (lo+i)
theorem lZ (lo:Int)(n:Nat):(jE lo n).length=n:=by simp[jE]
theorem o6 {lo:Int}(h:(jE lo n)[i]? = some d):i<n/\d=.int (lo+i):=by
 have hi:i<n:=by have:=(Xf.mp h).1;rw[lZ]at this;exact this
 refine⟨hi,?_⟩;unfold jE at h;rw[Xe,List.getElem?_range hi]at h;exact(Qa h).symm
def zbx (t:gO):je:=λρ Q=>t ρ λops=>∃j:Int,ops.map (·.1)=[.int j]/\-(2 ^ 62)<=j/\j<2 ^ 62/\Q (jE 0 j.toNat) false
theorem zpH {lo:Int}:Walk K Fz false (yM lo n) (jE lo n) H:=λH2 _ i=>by
 refine⟨λd hd=>?_,λhi=>by rw[lZ]at hi;exact hi⟩;obtain⟨h1,rfl⟩:=o6 hd;exact⟨h1,λx H3 ⟨e,y⟩=>by subst e y;exact⟨Same.refl _,by simp only[aq]⟩⟩
section
variable {X:Cx}{tg a b:Expr}{t:gO}{p pos:Pos}
theorem nY (hg:Gl X "range") (hm:X.mg "range" = none) (ha:iR X [a] t) (hs:Wf [a] X.env=[(false,Wx a X.env)]:=by rfl):lF X tg (.Call (.Name "range" p) [a] [] pos) (zbx t) where
 mono ρ Q Q' m h:=ha.mono ρ _ _ (λops ⟨j,e,h1,h2,q⟩=>⟨j,e,h1,h2,m _ _ q⟩) h
 run:=PI.weak (Uc hg hm ha.run hs) λσ H Rr h=>by
  obtain⟨ρ,Fz,R,h⟩:=h;refine⟨ρ,Fz,R,ha.mono ρ _ _ (λops q vs ao H' x o=>?_) h⟩;obtain⟨j,e,h1,h2,q⟩:=q;have rl:=o.root R x;rw[e]at rl;cases rl with
  | cons r1 r2=>
   cases r2;exact⟨j,by rw[kI r1],h1,h2,q _ ao H' x zpH⟩
end
def pFor (ti:je)(g:jr)(tb:cN):cN:=λρ O=>ti ρ λits o=>o=false/\∃Inv:Nat->au->Prop,Inv 0 ρ/\
 (∀i d ρ',its[i]? = some d->Inv i ρ'->g d ρ' (dX tb { O with nx:=Inv (i+1),ct:=Inv (i+1),bk:=O.nx }))/\∀ρ',Inv its.length ρ'->O.nx ρ'
def zcu (c:cY)(tb:cN):cN:=λρ O=>∃Inv:Nat->au->Prop,(∃m,Inv m ρ)/\∀m ρ',Inv m ρ'->Jl c ρ' λb=>if b=true
 then dX tb { O with nx:=λρ2=>∃m',m'<m/\Inv m' ρ2,ct:=λρ2=>∃m',m'<m/\Inv m' ρ2,bk:=O.nx } ρ' else O.nx ρ'
theorem Step.kept (R:Rel K Fz ρ σ H)(s:Step ρ σ Fz H ao H'):uz Fz H H':=λb o e w=>by
 refine s.keep b o e λ⟨i,d,h1,h2⟩=>?_;obtain⟨a,q1,q2,q3⟩:=R.own i d h1;rw[h2]at q1;cases q1;rcases w with w | w
 ·exact q2 w
 ·obtain⟨o',q4,q5⟩:=q3.at;rw[e]at q4;cases q4;exact q5 w
section
variable {X:Cx}{tg iter c:Expr}{body:List WJ}{ti:je}{g:jr}{tb:cN}{tc:cY}{pos:Pos}
theorem Dk (hgm:∀d ρ Q Q',(∀ρ,Q ρ->Q' ρ)->g d ρ Q->g d ρ Q')(hbm:∀ρ O O',eV.le O O'->tb ρ O->tb ρ O'){K:Xc}{ρ:au}{σ:St}{aX:FZ}{H1:Hp}{D:Ends}{J:It}{its:List PV}{O:eV}(R1:Rel K aX ρ σ H1)(wk:Walk K aX false J its H1)(Iv:Nat->au->Prop)(h0:Iv 0 ρ)
  (hstep:∀i d ρ',its[i]? = some d->Iv i ρ'->g d ρ' (dX tb { O with nx:=Iv (i+1),ct:=Iv (i+1),bk:=O.nx })) (hO:O.le (nT K D ρ σ aX H1)) (hdone:∀ρ',Iv its.length ρ'->O.nx ρ') :
  ∃W:Nat->Nat->St->Hp->Prop,(∃m,W 0 m σ H1)/\∀i m σ H,W i m σ H->
   (J.stop i H/\D.nx σ H)\/(J.go i H/\∃N:St->Hp->Prop,(∀σ' H',N σ' H'->∃m',m'<m/\W (i+1) m' σ' H')/\∀x H',J.sI i H x H'->tL K g x σ H' λσ2 H2=>zA K tb { D with nx:=N,ct:=N,bk:=D.nx } σ2 H2):=by
 refine⟨λi m σ' H'=>m=its.length-i/\i<=its.length/\∃ρ' F',Rel K F' ρ' σ' H'/\Iv i ρ'/\Step ρ σ aX H1 F' H'/\bB ρ σ H1 ρ' σ',
  ⟨its.length,by lia,Ye _,ρ,aX,R1,h0,.of ⟨Same.refl _,λ_ h=>h,λ_ h=>.inl h,R1.al⟩,bB.refl ρ σ H1⟩,?_⟩
 rintro i m σ' H' ⟨rfl,hle,ρ',F',R',hI,s',o'⟩;have kp:uz aX H1 H':=s'.kept R1;obtain⟨qW,wstop⟩:=wk H' (.inr ⟨rfl,kp⟩) i;by_cases hlt:i<its.length
 ·obtain⟨go,yl⟩:=qW its[i] (Xa hlt);refine .inr ⟨go,λσ2 H2=>∃ρ2 F2,Rel K F2 ρ2 σ2 H2/\Iv (i+1) ρ2/\Step ρ σ aX H1 F2 H2/\bB ρ σ H1 ρ2 σ2,λσ2 H2 hN=>⟨its.length-(i+1),by lia,rfl,hlt,hN⟩,λxv H2 y=>?_⟩;obtain⟨sm,dn⟩:=yl xv H2 y;have x2:Ext F' H' F' H2:=⟨sm,λ_ h=>h,λ_ h=>.inl h,λb hb z=>R'.al b hb (sm.free z)⟩;refine⟨ρ',F',its[i],R'.ext x2,aq.mono (Keep.of (Same.refl _)) s'.sub _ _ dn,hgm _ ρ' _ _ (λρ2 q σ2 R2 o2=>?_) (hstep i its[i] ρ' (Xa hlt) hI)⟩;have so:bB ρ σ H1 ρ2 σ2:=λb hb=>o' b (o2 b hb);have st:Step ρ σ aX H1 F' H2:=s'.trans o' (.of x2);refine⟨ρ2,F',R2,hbm ρ2 { O with nx:=Iv (i+1),ct:=Iv (i+1),bk:=O.nx } _ ⟨λρ3 q σ3 F3 H3 s3 o3 R3=>?_,λd k q v F3 H3 s3 al r=>?_,λρ3 q σ3 F3 H3 s3 o3 R3=>?_,λρ3 q σ3 F3 H3 s3 o3 R3=>?_⟩ q⟩
  ·exact⟨ρ3,F3,R3,q,st.trans so s3,bB.trans st so o3⟩
  ·refine hO.rt d k q v F3 H3 (st.trans so s3) al ?_;cases k with
   | aH=>exact r
   | own j=>exact r
   | new=>
    obtain⟨a,e,nf,ow,w⟩:=r;refine⟨a,e,nf,ow,?_⟩;rcases w with w | w
    ·exact so a w
    ·exact(st.none w).symm
  ·exact hO.nx ρ3 q σ3 F3 H3 (st.trans so s3) (bB.trans st so o3) R3
  ·exact⟨ρ3,F3,R3,q,st.trans so s3,bB.trans st so o3⟩
 ·have e:i=its.length:=by lia
  subst e;exact .inl ⟨wstop (Xj _),hO.nx ρ' (hdone ρ' hI) σ' F' H' s' o' R'⟩
theorem Jq (him:∀ρ Q Q',(∀its o,Q its o->Q' its o)->ti ρ Q->ti ρ Q')(hgm:∀d ρ Q Q',(∀ρ,Q ρ->Q' ρ)->g d ρ Q->g d ρ Q')(hbm:∀ρ O O',eV.le O O'->tb ρ O->tb ρ O'):∀ρ O O',eV.le O O'->pFor ti g tb ρ O->pFor ti g tb ρ O':=λρ O O' m h=>
 him ρ _ _ (λits o ⟨e,I,h0,hs,hd⟩=>⟨e,I,h0,λi d ρ' hi hI=>hgm d ρ' _ _ (λρ2 q=>hbm ρ2 { O with nx:=I (i+1),ct:=I (i+1),bk:=O.nx } _ ⟨λ_ q=>q,m.rt,m.nx,λ_ q=>q⟩ q) (hs i d ρ' hi hI),λρ' hI=>m.nx _ (hd ρ' hI)⟩) h
theorem nZ (hc:X.calm=true)(hp:PassesOwn (Wm X.prog X.w) X.A X.env X.xe)(hi:lF X tg iter ti)(hg:uJ X tg g)(hb:dF X body tb)(hs:∀x,WD iter X.env x=pure x:=by intro _;rfl):jR X (.For tg iter body [] pos) (pFor ti g tb) where
 mono:=Jq hi.mono hg.mono hb.mono
 run:=PS.weak (yO hp hc hi.run hg.run hb.run hs) λD σ H h=>by
  obtain⟨ρ,Fz,R,h⟩:=h;refine⟨ρ,Fz,R,hi.mono ρ _ _ (λits o q J aX H1 x wk=>?_) h⟩;obtain⟨rfl,Iv,h0,hstep,hdone⟩:=q;exact Dk hg.mono hb.mono (R.ext x) wk Iv h0 hstep (uH (.of x) (bB.refl ρ σ H)) hdone
theorem Jr (hp:PassesOwn (Wm X.prog X.w) X.A X.env X.xe)(hc:gq X c tc)(hb:dF X body tb):jR X (.While c body [] pos) (zcu tc tb) where
 mono ρ O O' m h:=by
  obtain⟨Iv,h0,h⟩:=h;refine⟨Iv,h0,λn ρ' hI=>hc.mono ρ' _ _ (λb q=>?_) (h n ρ' hI)⟩;cases b with
  | true=>rw[Qf rfl]at q ⊢;exact hb.mono ρ' { O with nx:=λρ2=>∃m',m'<n/\Iv m' ρ2,ct:=λρ2=>∃m',m'<n/\Iv m' ρ2,bk:=O.nx } _ ⟨λ_ q=>q,m.rt,m.nx,λ_ q=>q⟩ q
  | false=>rw[Qe Xw]at q ⊢;exact m.nx _ q
 run:=PS.weak (T4 hp hc.run hb.run) λD σ H h=>by
  obtain⟨ρ,Fz,R,Iv,⟨m0,h0⟩,h⟩:=h;refine⟨λm σ' H'=>∃ρ' F',Rel X.K F' ρ' σ' H'/\Iv m ρ'/\Step ρ σ Fz H F' H'/\bB ρ σ H ρ' σ',
   ⟨m0,ρ,Fz,R,h0,.of ⟨Same.refl _,λ_ h=>h,λ_ h=>.inl h,R.al⟩,bB.refl ρ σ H⟩,?_⟩
  rintro m σ' H' ⟨ρ',F',R',hI,s',o'⟩;refine⟨ρ',F',R',hc.mono ρ' _ _ (λb q F2 H2 x2=>?_) (h m ρ' hI)⟩;have st:Step ρ σ Fz H F2 H2:=s'.trans o' (.of x2);cases b with
  | true=>
   rw[Qf rfl]at q;refine oX ?_;refine⟨λσ3 H3=>∃m',m'<m/\∃ρ3 F3,Rel X.K F3 ρ3 σ3 H3/\Iv m' ρ3/\Step ρ σ Fz H F3 H3/\bB ρ σ H ρ3 σ3,λσ3 H3 hN=>hN,ρ',F2,R'.ext x2,hb.mono ρ' _ _ ⟨λρ3 q σ3 F3 H3 s3 o3 R3=>?_,λd k q v F3 H3 s3 al r=>?_,λρ3 q σ3 F3 H3 s3 o3 R3=>?_,λρ3 q σ3 F3 H3 s3 o3 R3=>?_⟩ q⟩
   ·obtain⟨m',hm,hI'⟩:=q;exact⟨m',hm,ρ3,F3,R3,hI',st.trans o' s3,bB.trans st o' o3⟩
   ·refine q v F3 H3 (st.trans o' s3) al ?_;cases k with
    | aH=>exact r
    | own j=>exact r
    | new=>
     obtain⟨a,e,nf,ow,w⟩:=r;refine⟨a,e,nf,ow,?_⟩;rcases w with w | w
     ·exact o' a w
     ·exact(st.none w).symm
   ·exact q σ3 F3 H3 (st.trans o' s3) (bB.trans st o' o3) R3
   ·obtain⟨m',hm,hI'⟩:=q;exact⟨m',hm,ρ3,F3,R3,hI',st.trans o' s3,bB.trans st o' o3⟩
  | false=>
   rw[Qe Xw]at q;exact qP (q σ' F2 H2 st o' (R'.ext x2))
end
theorem _root_.L2.Same.lG (s:Same H H')(h:H l=none):Same H (L2.upd H' l o):=λb u e=>by
 rw[aO (mH e h)];exact s b u e
structure uK (X:Cx)(ifs:List Expr)(t:cY):Prop where
 mono:∀ρ Q Q',(∀b,Q b->Q' b)->t ρ Q->t ρ Q'
 run:sW X ifs (liftT X.K t)
def zcM:cY:=λ_ Q=>Q true
theorem sW.weak {e:List Expr}{t t':TT}(h:sW X e t)(w:∀σ H Q,t' σ H Q->t σ H Q):sW X e t':=λpins s σ H Q I q=>h pins s σ H Q I (w σ H Q q)
theorem mj:uK X [] zcM where
 mono ρ Q Q' m h:=m _ h
 run:=sW.weak HJ λσ H Q h=>by
  obtain⟨ρ,Fz,R,h⟩:=h;exact h Fz H ⟨Same.refl H,λ_ h=>h,λ_ h=>.inl h,R.al⟩
theorem o7 {c:Expr}{t:cY}(h:gq X c t):uK X [c] t:=⟨h.mono,Ze h.run⟩
def blkP (k:Nat)(js:Tt)(ρ:au):au:=Ya k none++js.map λj=>(ρ[j]?).getD none
def zcZ (k:Nat)(js:Tt)(ti:je)(g:jr)(tt:cY)(te:aN):aN:=λρ Q=>ti ρ λits _=>its.length<=Wi/\∃Pv:Nat->List PV->Prop,Pv 0 []/\
 (∀i d out,its[i]? = some d->out.length<=i->Pv i out->g d (blkP k js ρ) λρ2=>tt ρ2 λb=>if b=true then te ρ2 λe ke=>isOwn ke=false/\Pv (i+1) (out++[e]) else Pv (i+1) out)/\
 ∀out,out.length<=its.length->Pv its.length out->Q (.lst out) .new
structure jg (X:Cx)(N:Tn)(sc:WX)(tg:Expr)(ifs:List Expr)(elt:Expr)(g:jr)(tt:cY)(te:aN):Prop where
 tgt:∀C cells fp s H,uJ (lz X N sc C cells fp s H) tg g
 tst:∀C cells fp s H,uK (lz X N sc C cells fp s H) ifs tt
 val:∀C cells fp s H,aD (lz X N sc C cells fp s H) elt te
theorem jg.blk {sc:WX}{ifs:List Expr}{elt:Expr}{g:jr}{tt:cY}(B:jg X N sc tg ifs elt g tt te):Blk X N sc tg ifs elt (tL X.K g) (liftT X.K tt) (lift X.K te):=
 ⟨λC cells fp s H=>(B.tgt C cells fp s H).run,λC cells fp s H=>(B.tst C cells fp s H).run,λC cells fp s H=>(B.val C cells fp s H).run⟩
theorem tM {b:Bool}(h:(blkP k js ρ)[i]? = some (some (d,b))):∃i' j,i=k+i'/\js[i']? = some j/\ρ[j]? = some (some (d,b)):=by
 unfold blkP at h;have hik:k<=i:=by
  by_cases hik:k<=i
  ·exact hik
  ·rw[Yd (by simp;lia),List.getElem?_replicate]at h;split at h<;>cases h
 obtain⟨i',rfl⟩:∃i',i=k+i':=⟨i-k,by lia⟩;rw[XO (by simp),Yv,show k+i'-k=i' by lia,Xe]at h;cases hj:js[i']? with
 | none=>rw[hj]at h;cases h
 | some j=>
  rw[hj]at h;refine⟨i',j,rfl,hj,?_⟩;have h':(ρ[j]?).getD none=some (d,b):=Qa h;cases q:ρ[j]? with
  | none=>rw[q]at h';cases h'
  | some o=>rw[q]at h';exact congrArg some h'
theorem xU {i':Nat}{o:Option V}(hj:js[i']? = some j)(h:σ[j]? = some o):(lu k js σ)[k+i']? = some o:=by
 unfold lu;rw[XO (by simp),Yv,show k+i'-k=i' by lia,Xe,hj];show some ((σ[j]?).getD none)=_;rw[h];rfl
theorem Rel.block (R:Rel K Fz ρ σ H)(nd:js.Nodup):Rel K Fz (blkP k js ρ) (lu k js σ) H where
 al:=R.al
 len:=by unfold blkP lu;simp
 aH i d h:=by
  obtain⟨i',j,rfl,hj,h⟩:=tM h;obtain⟨v,e,q⟩:=R.aH j d h;exact⟨v,xU hj e,q⟩
 own i d h:=by
  obtain⟨i',j,rfl,hj,h⟩:=tM h;obtain⟨a,e,n,q⟩:=R.own j d h;exact⟨a,xU hj e,n,q⟩
 inj i1 i2 d e a h1 h2 h3 h4:=by
  obtain⟨i',j,rfl,hj,h1⟩:=tM h1;obtain⟨i'',j',rfl,hj',h2⟩:=tM h2;obtain⟨a1,e1,_,_⟩:=R.own j d h1;obtain⟨a2,e2,_,_⟩:=R.own j' e h2;rw[xU hj e1]at h3;rw[xU hj' e2]at h4;have ea1:a1=a:=by have:=Qa (Qa h3);injection this
  have ea2:a2=a:=by have:=Qa (Qa h4);injection this
  subst ea1;subst ea2;have ej:=R.inj j j' d e _ h1 h2 e1 e2;subst ej;have l1:i'<js.length:=(Xf.mp hj).1;have e1':i'=i'':=(List.getElem?_inj l1 nd).mp (hj.trans hj'.symm);rw[e1']
theorem Js (R:Rel K Fz ρ σ H){b:We}(h:bK (blkP k js ρ) (lu k js σ) b):bK ρ σ b:=by
 obtain⟨i,d,h1,h2⟩:=h;obtain⟨i',j,rfl,hj,h1⟩:=tM h1;obtain⟨a1,e1,_,_⟩:=R.own j d h1;rw[xU hj e1]at h2;cases h2;exact⟨j,d,h1,e1⟩
theorem Rel.Dl (R:Rel K Fz ρ' σ H)(hl:ρ'.length=(blkP k js ρ).length)(hs:∀j,k<=j->ρ'[j]? = (blkP k js ρ)[j]?):Rel K Fz (blkP k js ρ) σ H:=by
 have tr:∀i d b,(blkP k js ρ)[i]? = some (some (d,b))->ρ'[i]? = some (some (d,b)):=λi d b h=>by
  obtain⟨i',j,rfl,_⟩:=tM h;rw[hs _ (by lia)];exact h
 exact⟨R.al,by rw[<- hl];exact R.len,λi d h=>R.aH i d (tr _ _ _ h),λi d h=>R.own i d (tr _ _ _ h),λi j d e a h1 h2=>R.inj i j d e a (tr _ _ _ h1) (tr _ _ _ h2)⟩
theorem Rel.other {u:HO}(R:Rel K Fz ρ σ H)(h:H l=some u)(hi:¬ nQ u)(nf:¬ Fz l)(no:¬ bK ρ σ l):Rel K Fz ρ σ (upd H l o):=by
 have kp:Keep Fz H (upd H l o):=.mk' λb w e hw=>by
  have ne:b≠l:=λz=>by
   subst z;rcases hw with hw | hw
   ·exact nf hw
   ·rw[h]at e;cases e;exact hi hw
  rw[aO ne];exact e
 refine⟨λb hb=>?_,R.len,λi d e=>?_,λi d e=>?_,R.inj⟩
 ·have ne:b≠l:=λz=>by subst z;exact nf hb
  rw[aO ne];exact R.al b hb
 ·obtain⟨v,q1,q2⟩:=R.aH i d e;exact⟨v,q1,aq.mono kp (λ_ h=>h) _ _ q2⟩
 ·obtain⟨a,q1,q2,q3⟩:=R.own i d e;refine⟨a,q1,q2,q3.mono kp (λ_ h=>h) λw hw=>?_⟩;have ne:a≠l:=λz=>by subst z;exact no ⟨i,d,e,q1⟩
  rw[aO ne];exact hw
section
variable {X:Cx}{elt tg iter:Expr}{ifs:List Expr}{sc:WX}{pos:Pos}{N:Tn}{k:Nat}{js:Tt}{ti:je}{g:jr}{tt:cY}{te:aN}
theorem znx (hi:lF X tg iter ti)(B:jg X N sc tg ifs elt g tt te):∀ρ Q Q',(∀d k,Q d k->Q' d k)->zcZ k js ti g tt te ρ Q->zcZ k js ti g tt te ρ Q':=
 λρ Q Q' m h=>hi.mono ρ _ _ (λits o ⟨hz,Pv,h0,hs,hd⟩=>⟨hz,Pv,h0,hs,λout hl hp=>m _ _ (hd out hl hp)⟩) h
theorem zny (nd:js.Nodup)(hloc:jD k g)(B:jg X N sc tg ifs elt g tt te){ρ:au}{σ:St}{H H1:Hp}{aX:FZ}{o:Bool}{J:It}{its:List PV}{l:We}{Rr:Hp->Prop}(R1:Rel X.K aX ρ σ H1)(wk:Walk X.K aX o J its H1)(hl:H1 l=none)(hz:its.length<=Wi)(Pv:Nat->List PV->Prop)(h0:Pv 0 [])
  (hstep:∀i d out,its[i]? = some d->out.length<=i->Pv i out->g d (blkP k js ρ) λρ2=>tt ρ2 λb=>if b=true then te ρ2 λe ke=>isOwn ke=false/\Pv (i+1) (out++[e]) else Pv (i+1) out)
  (hdone:∀F' out xs H',Ext aX H1 F' H'->H' l=some (.lst xs)->aj X.K F' H' out xs->¬ F' l->out.length<=its.length->Pv its.length out->Rr H') :
  yX J (tL X.K g) (liftT X.K tt) (lift X.K te) l (lu k js σ) H1 Rr:=by
 have mg:=(B.tgt 0 [] [] X.s₀ H).mono;have mt:=(B.tst 0 [] [] X.s₀ H).mono;have me:=(B.val 0 [] [] X.s₀ H).mono;have nf1:¬ aX l:=λz=>R1.al l z hl;have no1:¬ bK ρ σ l:=λ⟨i,d,h1,h2⟩=>by
  obtain⟨a,q1,_,q3⟩:=R1.own i d h1;rw[h2]at q1;cases q1;obtain⟨o',q4,_⟩:=q3.at;rw[hl]at q4;cases q4
 refine⟨λi m σ' H'=>m=its.length-i/\i<=its.length/\∃F' out xs,Rel X.K F' (blkP k js ρ) σ' H'/\(∀b,bK (blkP k js ρ) σ' b->bK ρ σ b)/\H' l=some (.lst xs)/\aj X.K F' H' out xs/\¬ F' l/\out.length<=i/\Pv i out/\Same H1 H'/\(∀b,aX b->F' b)/\(∀b,F' b->aX b\/H1 b=none),
  ⟨its.length,by lia,Ye _,aX,[],[],?_,λb hb=>Js R1 hb,bF,aj.nil,nf1,Ye _,h0,(Same.refl H1).lG hl,λ_ h=>h,λ_ h=>.inl h⟩,?_⟩
 ·have x0:Ext aX H1 aX (upd H1 l (.lst [])):=Ext.laid ⟨Same.refl _,λ_ h=>h,λ_ h=>.inl h,R1.al⟩ hl;exact(R1.block nd).ext x0
 rintro i m σ' H' ⟨rfl,hle,F',out,xs,Rb,ob,hlx,hout,nfl,hol,hP,sm,s1,s2⟩;obtain⟨qW,wstop⟩:=wk H' (.inl sm) i;by_cases hlt:i<its.length
 ·obtain⟨go,yl⟩:=qW its[i] (Xa hlt);refine .inr ⟨go,λxv H2 y=>?_⟩;obtain⟨iT,dn⟩:=yl xv H2 y;have x2:Ext F' H' F' H2:=⟨iT,λ_ h=>h,λ_ h=>.inl h,λb hb z=>Rb.al b hb (iT.free z)⟩;refine⟨blkP k js ρ,F',its[i],Rb.ext x2,aq.mono (Keep.of (Same.refl _)) s1 _ _ dn,mg _ _ _ _ (λρ2 ⟨q,l2,a2⟩ σ2 R2 o2=>?_) (hloc _ _ _ (hstep i its[i] out (Xa hlt) hol hP))⟩;refine⟨ρ2,F',R2,mt ρ2 _ _ (λb q F4 H4 x4=>?_) q⟩;have R4:Rel X.K F4 ρ2 σ2 H4:=R2.ext x4;have mQ:∀b,bK (blkP k js ρ) σ2 b->bK ρ σ b:=λb ⟨j,d,h1,h2⟩=>by
   refine ob b (o2 b ⟨j,d,?_,h2⟩);obtain⟨i',j',e,_⟩:=tM h1;rw[a2 j (by lia)];exact h1
  have hl4:H4 l=some (.lst xs):=x4.same _ _ (iT _ _ hlx);have nf4:¬ F4 l:=λz=>by
   rcases x4.new l z with z | z
   ·exact nfl z
   ·rw[iT _ _ hlx]at z;cases z
  cases b with
  | false=>
   rw[Qe Xw]at q;refine qP ⟨its.length-(i+1),by lia,rfl,hlt,F4,out,xs,Rel.Dl R4 l2 a2,mQ,hl4,aj.mono (.of (iT.trans x4.same)) x4.sub _ _ hout,nf4,by lia,q,sm.trans (iT.trans x4.same),λb hb=>x4.sub b (s1 b hb),λb hb=>?_⟩;rcases x4.new b hb with z | z
   ·exact s2 b z
   ·exact .inr (sm.free (iT.free z))
  | true=>
   rw[Qf rfl]at q;refine oX ⟨ρ2,F4,R4,me ρ2 _ _ (λe ke ⟨hk,q⟩ v F5 H5 p5=>?_) q⟩;have hk':ke=.aH\/ke=.new:=by
    cases ke with
    | aH=>exact .inl rfl
    | new=>exact .inr rfl
    | own j=>cases hk
   obtain⟨F6,x6,s6,d6⟩:=p5.frozen hk';have hl5:H5 l=some (.lst xs):=x6.same _ _ hl4;have nf6:¬ F6 l:=λz=>by
    rcases x6.new l z with z | z
    ·exact nf4 z
    ·rw[hl4]at z;cases z
   have R6:Rel X.K F6 ρ2 σ2 H5:=R4.ext x6;have Rb6:Rel X.K F6 (blkP k js ρ) σ2 H5:=Rel.Dl R6 l2 a2;have no6:¬ bK (blkP k js ρ) σ2 l:=λz=>no1 (mQ l z);have kp:Keep F6 H5 (upd H5 l (.lst (xs++[v]))):=.mk' λb w e hw=>by
    have ne:b≠l:=λz=>by
     subst z;rcases hw with hw | hw
     ·exact nf6 hw
     ·rw[hl5]at e;cases e;exact hw
    rw[aO ne];exact e
   have hxl:=hout.length;refine⟨xs,hl5,by lia,its.length-(i+1),by lia,rfl,hlt,F6,out++[e],xs++[v],Rb6.other hl5 (λz=>z) nf6 no6,mQ,bF,?_,nf6,by rw[Xy];simp;lia,q,?_,λb hb=>x6.sub b (x4.sub b (s1 b hb)),λb hb=>?_⟩
   ·exact aj.mono kp (λ_ h=>h) _ _ (aj.snoc (aj.mono (.of (iT.trans (x4.same.trans x6.same))) (λb hb=>x6.sub b (x4.sub b hb)) _ _ hout) d6)
   ·exact(sm.trans (iT.trans (x4.same.trans x6.same))).lG hl
   ·rcases x6.new b hb with z | z
    ·rcases x4.new b z with z | z
     ·exact s2 b z
     ·exact .inr (sm.free (iT.free z))
    ·exact .inr (sm.free (iT.free (x4.same.free z)))
 ·have e:i=its.length:=by lia
  subst e;exact .inl ⟨wstop (Xj _),hdone F' out xs H' ⟨sm,s1,s2,Rb.al⟩ hlx hout nfl hol hP⟩
theorem Jt (nd:js.Nodup)(hloc:jD k g)(hi:lF X tg iter ti)(B:jg X N sc tg ifs elt g tt te){Q:VK}(h:lift X.K (zcZ k js ti g tt te) σ H Q) :
  xJ k js (zE X.K ti) (tL X.K g) (liftT X.K tt) (lift X.K te) σ H Q:=by
 obtain⟨ρ,Fz,R,h⟩:=h;refine⟨ρ,Fz,R,hi.mono ρ _ _ (λits o q J aX H1 x wk l hl=>?_) h⟩;obtain⟨hz,Pv,h0,hstep,hdone⟩:=q;refine zny (H:=H) nd hloc B (R.ext x) wk hl hz Pv h0 hstep λF' out xs H' x' hlx hout nfl hol hP=>?_;exact hdone out hol hP _ F' H' ⟨x.trans x',l,rfl,x.same.free hl,nfl,xs,hlx,hout⟩
theorem jh (hc:X.calm=true)(S:ql X N k js sc)(nd:js.Nodup)(hloc:jD k g)(hi:lF X tg iter ti)(B:jg X N sc tg ifs elt g tt te)(hs:∀x,WD iter X.env x=pure x:=by intro _;rfl) :
  aD X (.ListComp elt [⟨tg,iter,ifs,0⟩] sc pos) (zcZ k js ti g tt te):=
 ⟨znx hi B,PE.weak (Zf hc S hi.run B.blk hs) λ_ _ _ h=>Jt nd hloc hi B h⟩
theorem xV {i:Nat}{x:Str}{pos' pos2:Pos}(hc:X.calm=true)(S:ql X N k js sc)(nd:js.Nodup)(hloc:jD k g)(hi:lF X tg iter ti)(B:jg X N sc tg ifs elt g tt te)(hN:X.N.Nodup)(hx:X.N[i]? = some x)(hk:X.env.scope.names.lookup x=some .local)
  (hsw:WE (.ListComp elt [⟨tg,iter,ifs,0⟩] sc pos) (some (.Name x pos')) pos2.line X.env=pure true:=by rfl) (hs:∀x,WD iter X.env x=pure x:=by intro _;rfl) :
  jR X (.Assign [.Name x pos'] (.ListComp elt [⟨tg,iter,ifs,0⟩] sc pos) pos2) (pSet i (zcZ k js ti g tt te)) where
 mono:=Jo (jh (pos:=pos) hc S nd hloc hi B hs)
 run:=PS.weak (Cu hc S hi.run B.blk hN hx hk hsw hs) λD σ H h=>by
  have q:=Jm (jh (pos:=pos) hc S nd hloc hi B hs) h;exact Jt nd hloc hi B q
end
def zbv (N:Tn)(ds:List PV):au:=ds.map (λd=>some (d,false))++Ya (N.length-ds.length) none
def zch (Q:PV->Kd->Prop):eV:=⟨λ_=>Q .non .aH,Q,λ_=>False,λ_=>False⟩
theorem zsc {ps:Tn}(h:∀ds Q,F ds Q->ds.length=ps.length):∀vs H Q E,bR K F vs H Q E->vs.length=ps.length:=λvs H Q E ⟨Fz,ds,_,hd,q⟩=>by rw[<- hd.length];exact h _ _ q
theorem Ju (al:∀b,Fz b->H b≠none)(h:aj K Fz H ds vs):Rel K Fz (zbv N ds) (start N vs) H/\∀σ b,¬ bK (zbv N ds) σ b:=by
 have hl:=h.length;have get:∀(i:Nat) (d:PV) (b:Bool),(zbv N ds)[i]? = some (some (d,b))->b=false/\ds[i]? = some d:=λi d b e=>by
  unfold zbv at e;by_cases hi:i<ds.length
  ·rw[Yd (by simpa using hi),Xe,Xa hi]at e;have e':(some (ds[i],false):Option (PV×Bool))=some (d,b):=Qa e;have e2:=Qa e';exact⟨(congrArg Prod.snd e2).symm,by rw[Xa hi];exact congrArg some (congrArg Prod.fst e2)⟩
  ·rw[XO (by simpa using hi),List.getElem?_replicate]at e;split at e<;>cases e
 refine⟨⟨al,by unfold zbv L2.start;simp[hl],λi d e=>?_,λi d e=>?_,λi j d e a h1=>?_⟩,λσ b ⟨i,d,e,_⟩=>?_⟩
 ·obtain⟨_,e'⟩:=get i d false e;obtain⟨v,q1,q2⟩:=h.get e';have hi:i<vs.length:=(Xf.mp q1).1;refine⟨v,?_,q2⟩;unfold L2.start;rw[Yd (by simpa using hi),Xe,q1];rfl
 ·exact Qg (get i d true e).1 (by decide)
 ·exact Qg (get i d true h1).1 (by decide)
 ·exact Qg (get i d true e).1 (by decide)
section
variable {P:Wo}{w:Ws}{K:Xc}{mg:Tj}{base:Heap}
theorem jt {x qual:Str}{st:WJ}{f:We}{fd:WA}{N ps:Tn}{k:Nat}{F:PF}(Fn:dU K x qual st f fd)(S:fO N ps (aU st))(len:∀ds Q,F ds Q->ds.length=ps.length)
  (hbody:∀(cdv:Wb) (A:Wv) (outer:List Env) (s:Wd) (H:Hp) (E:XK),cg k (A.deeper (envOfC qual (aU st) s.heap.objs.size f cdv))->
   ∃t,dF (lq bO P w K mg base N qual (aU st) f cdv A outer s H E).wJ (dz st) t/\∀ds Q,F ds Q->t (zbv N ds) (zch Q)):aJ P w K mg base bO (k+1) f fd ps (bR K F):=by
 refine Fn.ok S (zsc len) (λcdv A outer s H vs Q E hr h=>?_);obtain⟨t,ht,hq⟩:=hbody cdv A outer s H E hr;obtain⟨Fz,ds,al,hd,h⟩:=h;obtain⟨R,no⟩:=Ju (N:=N) al hd;refine⟨_,ht.run,zbv N ds,Fz,R,ht.mono _ (zch _) _ ⟨λρ' q σ' F' H' s' o' R'=>?_,λd k q v F' H' s' al' r=>?_,λ_ z=>z.elim,λ_ z=>z.elim⟩ (hq ds _ h)⟩
 ·exact q .non F' H' ⟨⟨λb o e=>s'.keep b o e (no _ b),s'.sub,λb hb=>(s'.new b hb).elim .inl (λz=>z.elim .inr (λz=>(no _ b z).elim)),R'.al⟩,by show aq _ _ _ _ _;simp only[aq]⟩
 ·refine q v F' H' ⟨⟨λb o e=>s'.keep b o e (no _ b),s'.sub,λb hb=>(s'.new b hb).elim .inl (λz=>z.elim .inr (λz=>(no _ b z).elim)),al'⟩,?_⟩;cases k with
  | aH=>exact r
  | own i=>exact r.elim
  | new=>
   obtain⟨a,e,nf,o,w⟩:=r;exact⟨a,e,w.resolve_left (no _ a),nf,o⟩
end
theorem Rel.mut {K:Xc}{Fz:FZ}{ρ:au}{σ:St}{H:Hp}{i:Nat}{d d':PV}{a:We}{o u:HO}(R:Rel K Fz ρ σ H)(hi:ρ[i]? = some (some (d,true)))(hs:σ[i]? = some (some (.ref a)))(hu:H a=some u)
  (ho:Own K Fz (upd H a o) d' a):Rel K Fz (ρ.set i (some (d',true))) σ (upd H a o)/\Step ρ σ Fz H Fz (upd H a o)/\bB ρ σ H (ρ.set i (some (d',true))) σ:=by
 obtain⟨a',e',nf,ow⟩:=R.own i d hi;rw[hs]at e';cases e';have hil:i<ρ.length:=(Xf.mp hi).1;have im:¬ nQ u:=by obtain⟨o',q1,q2⟩:=ow.at;rw[hu]at q1;cases q1;exact q2
 have kp:Keep Fz H (upd H a o):=.mk' λb w e hw=>by
  have ne:b≠a:=λz=>by
   subst z;rcases hw with hw | hw
   ·exact nf hw
   ·rw[hu]at e;cases e;exact im hw
  rw[aO ne];exact e
 have st:∀j e,(ρ.set i (some (d',true)))[j]? = some (some (e,true))->∃e0,ρ[j]? = some (some (e0,true)):=λj e h=>by
  by_cases hij:i=j
  ·subst hij;exact⟨d,hi⟩
  ·rw[Xk hij]at h;exact⟨e,h⟩
 refine⟨⟨λb hb=>?_,by rw[Yb];exact R.len,λj e h=>?_,λj e h=>?_,λj k e1 e2 b h1 h2 h3 h4=>?_⟩,⟨λ_ h=>h,λ_ h=>.inl h,λb w e n=>?_⟩,λb ⟨j,e,h1,h2⟩=>?_⟩
 ·have ne:b≠a:=λz=>by subst z;exact nf hb
  rw[aO ne];exact R.al b hb
 ·by_cases hij:i=j
  ·subst hij;rw[Xm hil]at h;cases h
  ·rw[Xk hij]at h;obtain⟨v,q1,q2⟩:=R.aH j e h;exact⟨v,q1,aq.mono kp (λ_ h=>h) _ _ q2⟩
 ·by_cases hij:i=j
  ·subst hij;rw[Xm hil]at h;cases h;exact⟨a,hs,nf,ho⟩
  ·rw[Xk hij]at h;obtain⟨b,q1,q2,q3⟩:=R.own j e h;refine⟨b,q1,q2,q3.mono kp (λ_ h=>h) λw hw=>?_⟩;have ne:b≠a:=λz=>by subst z;exact hij (R.inj i j d e _ hi h hs q1)
   rw[aO ne];exact hw
 ·obtain⟨e1',g1⟩:=st j e1 h1;obtain⟨e2',g2⟩:=st k e2 h2;exact R.inj j k e1' e2' b g1 g2 h3 h4
 ·have ne:b≠a:=λz=>by subst z;exact n ⟨i,d,hi,hs⟩
  rw[aO ne];exact e
 ·obtain⟨e',g⟩:=st j e h1;exact .inl ⟨j,e',g,h2⟩
abbrev n8:=au->(PV->au->Prop)->Prop
def liftM (K:Xc)(t:n8):TE:=λσ H Q=>∃ρ Fz,Rel K Fz ρ σ H/\t ρ λd ρ'=>∀v ao H',Step ρ σ Fz H ao H'->bB ρ σ H ρ' σ->Rel K ao ρ' σ H'->aq K ao H' d v->Q v H'
structure rm (X:Cx)(e:Expr)(t:n8):Prop where
 mono:∀ρ Q Q',(∀d ρ,Q d ρ->Q' d ρ)->t ρ Q->t ρ Q'
 run:PE X e (liftM X.K t)
def mApp (i:Nat)(te:aN):n8:=λρ Q=>∃ds,ρ[i]? = some (some (.lst ds,true))/\ds.length<Wi/\te ρ λd k=>isOwn k=false/\Q .non (ρ.set i (some (.lst (ds++[d]),true)))
def zdW (i:Nat)(te:n8):n8:=λρ Q=>∃ds0,ρ[i]? = some (some (.lst ds0,true))/\te ρ λd ρ'=>∃ds,ρ'[i]? = some (some (.lst ds,true))/\ds.length<Wi/\Q .non (ρ'.set i (some (.lst (ds++[d]),true)))
def zcv (i:Nat)(te:aN):n8:=λρ Q=>∃ds,ρ[i]? = some (some (.lst ds,true))/\te ρ λe _=>∃(j:Int)(k:Nat)(d:PV),e=.int j/\-(2 ^ 63)<=j/\j<2 ^ 63/\seqIndex? j ds.length=some k/\ds[k]? = some d/\Q d (ρ.set i (some (.lst (ds.eraseIdx k),true)))
def mPop (i:Nat):n8:=λρ Q=>∃ds d,ρ[i]? = some (some (.lst ds,true))/\ds[ds.length-1]? = some d/\Q d (ρ.set i (some (.lst ds.dropLast,true)))
def zdX (i:Nat)(te:aN):n8:=λρ Q=>∃ds,ρ[i]? = some (some (.lst ds,true))/\te ρ λd _=>∃es,d=.tup es/\ds.length+es.length<=Wi/\Q .non (ρ.set i (some (.lst (ds++es),true)))
theorem mR (R:Rel K Fz ρ σ H)(h:ρ[i]? = some (some (.lst ds,true))):∃a xs,σ[i]? = some (some (.ref a))/\H a=some (.lst xs)/\aj K Fz H ds xs/\¬ Fz a:=by
 obtain⟨a,e,nf,xs,h1,h2⟩:=R.own i _ h;exact⟨a,xs,e,h1,h2,nf⟩
theorem aj.qt {ys:List V}(ha:H a=some (.lst ys))(nf:¬ Fz a)(h:aj K Fz H ds xs):aj K Fz (upd H a o) ds xs:=
 aj.mono (.mk' λb w e hw=>by
  have ne:b≠a:=λz=>by
   subst z;rcases hw with hw | hw
   ·exact nf hw
   ·rw[ha]at e;cases e;exact hw
  rw[aO ne];exact e) (λ_ h=>h) _ _ h
section
variable {X:Cx}{x:Str}{e:Expr}{te:aN}{tm:n8}{p apos cpos:Pos}
theorem vQ (i:Nat)(he:aD X e te)(hN:X.N[i]? = some x:=by rfl)(hv:iZ X.env.scope x:=by first | exact Qo rfl | exact Qp (Qo rfl) | exact Qp (Qp rfl))(hd:(x == ("__debug__" : Str))=false:=by decide) (hcd:(x == ("__classdict__" : Str))=false:=by decide)
  (hbase:WF (.Name x p) "append" X.env (Wx (.Name x p) X.env)=Wx (.Name x p) X.env:=by rfl)
  (hfew:((Wu cpos (Wf [e] X.env)).all (λx=>!x.1)&&(W9 cpos (WP [] X.env)).all (λx=>x.1.isSome)&&decide ([e].length+([]:List WL).length+(if ([]:List WL).isEmpty then 0 else 1)<30))=true:=by rfl)
  (hline:(apos.endLine == cpos.line)=true:=by rfl) (hs:Wf [e] X.env=(false,Wx e X.env)::Wf [] X.env:=by rfl) (hplain:(Wu cpos (Wf [] X.env)).any (·.1)=false:=by rfl):rm X (.Call (.Attribute (.Name x p) "append" apos) [e] [] cpos) (mApp i te) where
 mono ρ Q Q' m h:=by
  obtain⟨ds,e1,e2,h⟩:=h;exact⟨ds,e1,e2,he.mono ρ _ _ (λd k ⟨hk,q⟩=>⟨hk,m _ _ q⟩) h⟩
 run:=PE.weak (sS Qw Q6 Q7 vK (jn hN hv hd hcd) (nM he.run mJ hs) hbase hfew hline hs hplain) λσ H Q h=>by
  obtain⟨ρ,Fz,R,ds,e1,e2,h⟩:=h;obtain⟨a,xs,hs,ha,hd,nf⟩:=mR R e1;refine⟨_,hs,.inl ⟨rfl,xs,aR.of ha⟩,ρ,Fz,R,he.mono ρ _ _ (λd k q v F1 H1 p1=>?_) h⟩;obtain⟨hk,q⟩:=q;have hk':k=.aH\/k=.new:=by
   cases k with
   | aH=>exact .inl rfl
   | new=>exact .inr rfl
   | own j=>cases hk
  obtain⟨F2,x2,s2,d2⟩:=p1.frozen hk';have R2:=R.ext x2;obtain⟨a',xs',hs',ha',hd',jF⟩:=mR R2 e1;rw[hs]at hs';cases hs';have hl:=hd'.length;refine⟨a,xs',v,rfl,rfl,ha',by lia,?_⟩;have ow:Own X.K F2 (upd H1 a (.lst (xs'++[v]))) (.lst (ds++[d])) a:=⟨_,bF,(aj.qt ha' jF (aj.snoc hd' d2))⟩;obtain⟨R3,s3,o3⟩:=R2.mut e1 hs ha' ow;exact q .non F2 _ ((Step.of x2).trans (bB.refl ρ σ H) s3) (bB.trans (Step.of x2) (bB.refl ρ σ H) o3) R3 (by simp only[aq])
theorem zjV (i:Nat)(he:rm X e tm)(hN:X.N[i]? = some x:=by rfl)(hv:iZ X.env.scope x:=by first | exact Qo rfl | exact Qp (Qo rfl) | exact Qp (Qp rfl))(hd:(x == ("__debug__" : Str))=false:=by decide) (hcd:(x == ("__classdict__" : Str))=false:=by decide)
  (hbase:WF (.Name x p) "append" X.env (Wx (.Name x p) X.env)=Wx (.Name x p) X.env:=by rfl)
  (hfew:((Wu cpos (Wf [e] X.env)).all (λx=>!x.1)&&(W9 cpos (WP [] X.env)).all (λx=>x.1.isSome)&&decide ([e].length+([]:List WL).length+(if ([]:List WL).isEmpty then 0 else 1)<30))=true:=by rfl)
  (hline:(apos.endLine == cpos.line)=true:=by rfl) (hs:Wf [e] X.env=(false,Wx e X.env)::Wf [] X.env:=by rfl) (hplain:(Wu cpos (Wf [] X.env)).any (·.1)=false:=by rfl):rm X (.Call (.Attribute (.Name x p) "append" apos) [e] [] cpos) (zdW i tm) where
 mono ρ Q Q' m h:=by
  obtain⟨ds0,e0,h⟩:=h;exact⟨ds0,e0,he.mono ρ _ _ (λd ρ' ⟨ds,e1,e2,q⟩=>⟨ds,e1,e2,m _ _ q⟩) h⟩
 run:=PE.weak (sS Qw Q6 Q7 vK (jn hN hv hd hcd) (nM he.run mJ hs) hbase hfew hline hs hplain) λσ H Q h=>by
  obtain⟨ρ,Fz,R,ds0,e0,h⟩:=h;obtain⟨a,xs,hs,ha,hd,nf⟩:=mR R e0;refine⟨_,hs,.inl ⟨rfl,xs,aR.of ha⟩,ρ,Fz,R,he.mono ρ _ _ (λd ρ1 q v F1 H1 s1 o1 R1 d1=>?_) h⟩;obtain⟨ds,e1,e2,q⟩:=q;obtain⟨a',xs',hs',ha',hd',jF⟩:=mR R1 e1;rw[hs]at hs';cases hs';have hl:=hd'.length;refine⟨a,xs',v,rfl,rfl,ha',by lia,?_⟩;have ow:Own X.K F1 (upd H1 a (.lst (xs'++[v]))) (.lst (ds++[d])) a:=⟨_,bF,(aj.qt ha' jF (aj.snoc hd' d1))⟩;obtain⟨R3,s3,o3⟩:=R1.mut e1 hs ha' ow;exact q .non F1 _ (s1.trans o1 s3) (bB.trans s1 o1 o3) R3 (by simp only[aq])
theorem znz (i:Nat)(he:aD X e te)(hN:X.N[i]? = some x:=by rfl)(hv:iZ X.env.scope x:=by first | exact Qo rfl | exact Qp (Qo rfl) | exact Qp (Qp rfl))(hd:(x == ("__debug__" : Str))=false:=by decide) (hcd:(x == ("__classdict__" : Str))=false:=by decide)
  (hbase:WF (.Name x p) "pop" X.env (Wx (.Name x p) X.env)=Wx (.Name x p) X.env:=by rfl)
  (hfew:((Wu cpos (Wf [e] X.env)).all (λx=>!x.1)&&(W9 cpos (WP [] X.env)).all (λx=>x.1.isSome)&&decide ([e].length+([]:List WL).length+(if ([]:List WL).isEmpty then 0 else 1)<30))=true:=by rfl)
  (hline:(apos.endLine == cpos.line)=true:=by rfl) (hs:Wf [e] X.env=(false,Wx e X.env)::Wf [] X.env:=by rfl) (hplain:(Wu cpos (Wf [] X.env)).any (·.1)=false:=by rfl):rm X (.Call (.Attribute (.Name x p) "pop" apos) [e] [] cpos) (zcv i te) where
 mono ρ Q Q' m h:=by
  obtain⟨ds,e1,h⟩:=h;exact⟨ds,e1,he.mono ρ _ _ (λd _ ⟨j,k,c,q1,q2,q3,q4,q5,q⟩=>⟨j,k,c,q1,q2,q3,q4,q5,m _ _ q⟩) h⟩
 run:=PE.weak (sS Qw PySem.F.slot_list_pop PySem.F.type_list_pop V7 (jn hN hv hd hcd) (nM he.run mJ hs) hbase hfew hline hs hplain) λσ H Q h=>by
  obtain⟨ρ,Fz,R,ds,e1,h⟩:=h;obtain⟨a,xs,hs,ha,hd,nf⟩:=mR R e1;refine⟨_,hs,.inl ⟨rfl,xs,aR.of ha⟩,ρ,Fz,R,he.mono ρ _ _ (λd k q v F1 H1 p1=>?_) h⟩;obtain⟨j,k,c,rfl,q2,q3,q4,q5,q⟩:=q;have R2:=R.ext p1.ext;obtain⟨a',xs',hs',ha',hd',jF⟩:=mR R2 e1;rw[hs]at hs';cases hs';have hl:=hd'.length;obtain⟨y,y1,y2⟩:=hd'.get q5;refine⟨a,xs',j,k,y,rfl,by rw[kI (p1.root R)],ha',q2,q3,by rw[<- hl];exact q4,y1,?_⟩;have ow:Own X.K F1 (upd H1 a (.lst (xs'.eraseIdx k))) (.lst (ds.eraseIdx k)) a:=⟨_,bF,(aj.qt ha' jF (aj.eraseIdx k hd'))⟩;obtain⟨R3,s3,o3⟩:=R2.mut e1 hs ha' ow;refine q y F1 _ ((Step.of p1.ext).trans (bB.refl ρ σ H) s3) (bB.trans (Step.of p1.ext) (bB.refl ρ σ H) o3) R3 ?_;have:=aj.qt (o:=.lst (xs'.eraseIdx k)) ha' jF (aj.cons y2 aj.nil);simp only[aj]at this;obtain⟨v',r',e',g1,_⟩:=this;cases e';exact g1
theorem zpI (i:Nat)(he:aD X e te)(hN:X.N[i]? = some x:=by rfl)(hv:iZ X.env.scope x:=by first | exact Qo rfl | exact Qp (Qo rfl) | exact Qp (Qp rfl))(hd:(x == ("__debug__" : Str))=false:=by decide) (hcd:(x == ("__classdict__" : Str))=false:=by decide)
  (hbase:WF (.Name x p) "extend" X.env (Wx (.Name x p) X.env)=Wx (.Name x p) X.env:=by rfl)
  (hfew:((Wu cpos (Wf [e] X.env)).all (λx=>!x.1)&&(W9 cpos (WP [] X.env)).all (λx=>x.1.isSome)&&decide ([e].length+([]:List WL).length+(if ([]:List WL).isEmpty then 0 else 1)<30))=true:=by rfl)
  (hline:(apos.endLine == cpos.line)=true:=by rfl) (hs:Wf [e] X.env=(false,Wx e X.env)::Wf [] X.env:=by rfl) (hplain:(Wu cpos (Wf [] X.env)).any (·.1)=false:=by rfl):rm X (.Call (.Attribute (.Name x p) "extend" apos) [e] [] cpos) (zdX i te) where
 mono ρ Q Q' m h:=by
  obtain⟨ds,e1,h⟩:=h;exact⟨ds,e1,he.mono ρ _ _ (λd _ ⟨es,q1,q2,q⟩=>⟨es,q1,q2,m _ _ q⟩) h⟩
 run:=PE.weak (sS Qw PySem.F.slot_list_extend PySem.F.type_list_extend ZR (jn hN hv hd hcd) (nM he.run mJ hs) hbase hfew hline hs hplain) λσ H Q h=>by
  obtain⟨ρ,Fz,R,ds,e1,h⟩:=h;obtain⟨a,xs,hs,ha,hd,nf⟩:=mR R e1;refine⟨_,hs,.inl ⟨rfl,xs,aR.of ha⟩,ρ,Fz,R,he.mono ρ _ _ (λd k q v F1 H1 p1=>?_) h⟩;obtain⟨es,rfl,q2,q⟩:=q;have R2:=R.ext p1.ext;obtain⟨a',xs',hs',ha',hd',jF⟩:=mR R2 e1;rw[hs]at hs';cases hs';obtain⟨b,zs,rfl,hb,hz⟩:=lX (p1.root R);have hl:=hd'.length;have hl2:=hz.length;refine⟨a,b,xs',zs,rfl,rfl,ha',hb,by lia,?_⟩;have ow:Own X.K F1 (upd H1 a (.lst (xs'++zs))) (.lst (ds++es)) a:=⟨_,bF,(aj.qt ha' jF (hd'.append hz))⟩;obtain⟨R3,s3,o3⟩:=R2.mut e1 hs ha' ow;exact q .non F1 _ ((Step.of p1.ext).trans (bB.refl ρ σ H) s3) (bB.trans (Step.of p1.ext) (bB.refl ρ σ H) o3) R3 (by simp only[aq])
def zci (tm:n8):cN:=λρ O=>tm ρ λ_ ρ'=>O.nx ρ'
def zdY (i:Nat)(tm:n8):cN:=λρ O=>tm ρ λd ρ'=>O.nx (ρ'.set i (some (d,false)))
variable {pos:Pos}
theorem rA (he:rm X e tm)(hs:WE e none pos.line X.env=pure false:=by rfl):jR X (.Expr e pos) (zci tm) where
 mono ρ O O' m h:=he.mono ρ _ _ (λ_ _ q=>m.nx _ q) h
 run:=PS.weak (yK he.run hs) λD σ H h=>by
  obtain⟨ρ,Fz,R,h⟩:=h;exact⟨ρ,Fz,R,he.mono ρ _ _ (λd ρ' q v F' H' s' o' R' _=>q σ F' H' s' o' R') h⟩
theorem zpJ {y:Str}(hN:X.N.Nodup)(hi:X.N[i]? = some y)(hx:Loc X.env.scope y)(he:rm X e tm)(hs:WE e (some (.Name y pos')) pos.line X.env=pure false:=by rfl)(hf:X.fn y=true\/X.env.scope.names.lookup y=some .local:=by first | exact .inl rfl | exact .inr rfl | assumption) :
  jR X (.Assign [.Name y pos'] e pos) (zdY i tm) where
 mono ρ O O' m h:=he.mono ρ _ _ (λ_ _ q=>m.nx _ q) h
 run:=PS.weak (ur hN hi hx he.run hs hf) λD σ H h=>by
  obtain⟨ρ,Fz,R,h⟩:=h;exact⟨ρ,Fz,R,he.mono ρ _ _ (λd ρ' q v F' H' s' o' R' dn=>q _ F' H' s' (λb hb=>o' b (uI b hb)) (R'.set dn)) h⟩
end
theorem Jx {i:Int}(h:aj K Fz H ds xs)(e:cW ds i=some d):∃v,cW xs i=some v/\aq K Fz H d v:=by
 unfold cW at e ⊢;rw[<- h.length];cases q:jo ds.length i with
 | none=>rw[q]at e;cases e
 | some j=>
  rw[q]at e;obtain⟨v,h1,h2⟩:=h.get (i:=j) (d:=d) e;exact⟨v,h1,h2⟩
def ixV (d e x:PV):Prop:=(∃ds i,(d=.lst ds\/d=.tup ds)/\e=.int i/\cW ds i=some x)\/∃z i c,d=.str z/\e=.int i/\z.length<=Wi/\cW z.cps.toList i=some c/\x=.str ⟨#[c]⟩
def pIx:P2:=λd e Q=>∃x,ixV d e x/\Q x .aH
theorem zvP:jB K (G8 K) pIx where
 mono d e Q Q' m h:=by obtain⟨x,h,q⟩:=h;exact⟨x,h,m _ _ q⟩
 run Fz H x y d e Q al rx ry h:=by
  obtain⟨x',h,q⟩:=h;rcases h with ⟨ds,i,e1,rfl,e3⟩ | ⟨z,i,c,rfl,rfl,e3,e4,rfl⟩
  ·rcases e1 with rfl | rfl
   ·obtain⟨a,xs,rfl,h1,h2⟩:=dB rx;obtain⟨v,g1,g2⟩:=Jx h2 e3;exact .inl ⟨a,xs,i,v,rfl,kI ry,h1,g1,q v Fz H (.val al g2)⟩
   ·obtain⟨a,xs,rfl,h1,h2⟩:=lX rx;obtain⟨v,g1,g2⟩:=Jx h2 e3;exact .inr (.inl ⟨a,xs,i,v,rfl,kI ry,h1,g1,q v Fz H (.val al g2)⟩)
  ·exact .inr (.inr ⟨z,i,c,oZ rx,kI ry,e3,e4,q _ Fz H (.val al (by simp only[aq]))⟩)
section
variable {X:Cx}{a b:Expr}{ta tb:aN}{pos:Pos}
theorem cO (ha:aD X a ta)(hb:aD X b tb)(hs:yU b:=by exact λ_ _=>rfl):aD X (.Subscript a b pos) (t2 pIx ta tb):=zvO Vz zvP ha hb hs
theorem zvQ (hu:X.A.units+16<WG)(ha:aD X a ta)(hb:aD X b tb)(hm:Ww .Eq b=false:=by first | exact qg _ | rfl):aD X (.Compare a [.Eq] [b] pos) (t2 (pEq false) ta tb):=zuh (Jg hu) Dh ha hb hm
theorem vR (hu:X.A.units+16<WG)(ha:aD X a ta)(hb:aD X b tb)(hm:Ww .Eq b=false:=by first | exact qg _ | rfl):gq X (.Compare a [.Eq] [b] pos) (tBl (t2 (pEq false) ta tb)):=uD (Jg hu) Dh ha hb hm
theorem uL (hu:X.A.units+16<WG)(ha:aD X a ta)(hb:aD X b tb)(hm:Ww .NotEq b=false:=by first | exact qg _ | rfl):gq X (.Compare a [.NotEq] [b] pos) (tBl (t2 (pEq true) ta tb)):=uD (zuk hu) Dh ha hb hm
theorem zuq (ha:aD X a ta)(hb:aD X b tb)(hm:Ww .Lt b=false:=by first | exact qg _ | rfl):gq X (.Compare a [.Lt] [b] pos) (tBl (pLt ta tb)):=uD Ut Iz ha hb hm
theorem Dm (ha:aD X a ta)(hb:aD X b tb)(hm:Ww .Gt b=false:=by first | exact qg _ | rfl):gq X (.Compare a [.Gt] [b] pos) (tBl (pGt ta tb)):=uD Uu Iz ha hb hm
end
def uM (K:Xc)(neg:Bool):R2:=λx y H Q=>∃Fz d ds p xs,aA K Fz H d x/\y=.ref p/\(aR K H p xs\/bG K H p xs)/\aj K Fz H ds xs/\plain 6 d=true/\ds.all (plain 6)=true/\Q (.bl (if neg then !decide (d∈ds) else decide (d∈ds))) H
def pIn (neg:Bool):P2:=λd e Q=>∃ds,(e=.lst ds\/e=.tup ds)/\plain 6 d=true/\ds.all (plain 6)=true/\Q (.bl (if neg then !decide (d∈ds) else decide (d∈ds))) .aH
theorem Jy {neg:Bool}:jB K (uM K neg) (pIn neg) where
 mono d e Q Q' m h:=by obtain⟨ds,e1,e2,e3,q⟩:=h;exact⟨ds,e1,e2,e3,m _ _ q⟩
 run Fz H x y d e Q al rx ry h:=by
  obtain⟨ds,e1,e2,e3,q⟩:=h;rcases e1 with rfl | rfl
  ·obtain⟨a,xs,rfl,h1,h2⟩:=dB ry;exact⟨Fz,d,ds,a,xs,rx,rfl,.inl h1,h2,e2,e3,q _ Fz H (.val al (by simp only[aq]))⟩
  ·obtain⟨a,xs,rfl,h1,h2⟩:=lX ry;exact⟨Fz,d,ds,a,xs,rx,rfl,.inr h1,h2,e2,e3,q _ Fz H (.val al (by simp only[aq]))⟩
def vU (p:Prop):Bool:=@decide p (Qt p)
theorem Jz (h:p):vU p=true:=@decide_eq_true p (Qt p) h
theorem znC (h:¬ p):vU p=false:=@decide_eq_false p (Qt p) h
theorem zsd:vU p=true↔p:=@decide_eq_true_iff p (Qt p)
section
variable {X:Cx}{pins:Tg}{σ:St}{H:Hp}{s:Wd}{Fz:FZ}
theorem zF (I:Inv X pins σ H s){A:Wv}(hu:A.units+16<WG){x:V}{v:Wb}{its:Tq}(hx:aA X.K Fz H d x)(rx:RelV x v)(r:Vals xs its)(h:aj X.K Fz H ds xs)(pd:plain 6 d=true)(ps:ds.all (plain 6)=true) :
  ∃e:Wb->Bool,(∀y,y∈its.toArray->PN A.in1 s y v (e y))/\its.toArray.any e=decide (d∈ds):=by
 refine⟨λu=>vU (∃j:Nat,its[j]? = some u/\ds[j]? = some d),λu hu'=>?_,?_⟩
 ·obtain⟨j,hj⟩:=List.mem_iff_getElem?.mp (show u∈its by simpa using hu');have l1:=r.length;have l2:=h.length;have hjl:j<its.length:=(Xf.mp hj).1;have e1:ds[j]? = some ds[j]:=Xa (by lia);obtain⟨y,e2,q2⟩:=h.get e1;obtain⟨u',e3,q3⟩:=r.get e2;rw[hj]at e3;cases e3;have pj:plain 6 ds[j]=true:=XV.mp ps _ (XY _);have w:vU (∃j':Nat,its[j']? = some u/\ds[j']? = some d)=decide (ds[j]=d):=by
   by_cases hd:ds[j]=d
   ·rw[Qd hd,Jz ⟨j,hj,by rw[e1,hd]⟩]
   ·rw[Qc hd];refine znC ?_;rintro⟨j',g1,g2⟩;obtain⟨y',e2',q2'⟩:=h.get g2;obtain⟨u',e3',q3'⟩:=r.get e2';rw[g1]at e3';cases e3';have ey:y=y':=q3.inj q3';subst ey;exact hd (Df I 6 _ _ _ pj pd q2.root q2'.root)
  show PN A.in1 s u v (vU (∃j':Nat,its[j']? = some u/\ds[j']? = some d));rw[w];exact(Dg I 6 A.in1 ds[j] d y x u v pj pd (by show A.units+1+6<WG;lia) q2.root hx q3 rx).2.2
 ·have l1:=r.length;have l2:=h.length;by_cases hd:d∈ds
  ·rw[Qd hd];obtain⟨j,hj⟩:=List.mem_iff_getElem?.mp hd;have hjl:j<ds.length:=(Xf.mp hj).1;rw[Array.any_eq_true];refine⟨j,by simpa using (by lia:j<its.length),?_⟩;refine Jz ⟨j,?_,hj⟩;simp
  ·rw[Qc hd];rw[Array.any_eq_false];intro i hi;intro z;obtain⟨j,g1,g2⟩:=zsd.mp z;exact hd (Xl g2)
theorem zus (hu:X.A.units+16<WG):gh X (WU .In) (uM X.K false):=by
 intro pins s σ H x y v u Q I rx ry h;obtain⟨Fz,d,ds,p,xs,hx,rfl,hq,hd,p1,p2,q⟩:=h;cases ry;rcases hq with hq | hq
 ·obtain⟨its,r,pl,hz⟩:=I.list hq;obtain⟨e,h1,h2⟩:=zF I hu hx rx r hd p1 p2;exact SeqAt.in_listAt e pl.isList h1 ⟨.bl _,H,I,rfl,by rw[h2];exact q⟩
 ·obtain⟨its,r,pl,hz⟩:=I.tuple hq;obtain⟨e,h1,h2⟩:=zF I hu hx rx r hd p1 p2;exact SeqAt.in_tupleAt e pl h1 ⟨.bl _,H,I,rfl,by rw[h2];exact q⟩
theorem znD (hu:X.A.units+16<WG):gh X (WU .NotIn) (uM X.K true):=by
 intro pins s σ H x y v u Q I rx ry h;obtain⟨Fz,d,ds,p,xs,hx,rfl,hq,hd,p1,p2,q⟩:=h;cases ry;rcases hq with hq | hq
 ·obtain⟨its,r,pl,hz⟩:=I.list hq;obtain⟨e,h1,h2⟩:=zF I hu hx rx r hd p1 p2;exact SeqAt.notIn_listAt e pl.isList h1 ⟨.bl _,H,I,rfl,by rw[h2];exact q⟩
 ·obtain⟨its,r,pl,hz⟩:=I.tuple hq;obtain⟨e,h1,h2⟩:=zF I hu hx rx r hd p1 p2;exact SeqAt.notIn_tupleAt e pl h1 ⟨.bl _,H,I,rfl,by rw[h2];exact q⟩
variable {a b:Expr}{ta tb:aN}{pos:Pos}
theorem zG (hu:X.A.units+16<WG)(ha:aD X a ta)(hb:aD X b tb)(hm:Ww .In b=false:=by first | exact qg _ | rfl):gq X (.Compare a [.In] [b] pos) (tBl (t2 (pIn false) ta tb)):=uD (zus hu) Jy ha hb hm
theorem Dn (hu:X.A.units+16<WG)(ha:aD X a ta)(hb:aD X b tb)(hm:Ww .NotIn b=false:=by first | exact qg _ | rfl):gq X (.Compare a [.NotIn] [b] pos) (tBl (t2 (pIn true) ta tb)):=uD (znD hu) Jy ha hb hm
end
def pIsN (neg:Bool):P2:=λd e Q=>e=.non/\Q (.bl (if neg then !decide (d=.non) else decide (d=.non))) .aH
theorem zpK {x:V}(r:aA K Fz H d x):decide (x=V.non)=decide (d=.non):=by
 cases d with
 | non=>rw[tG r];simp
 | bl b=>rw[xQ r];simp
 | int b=>rw[kI r];simp
 | str b=>rw[oZ r];simp
 | tup ds=>obtain⟨a,xs,rfl,_⟩:=lX r;simp
 | lst ds=>obtain⟨a,xs,rfl,_⟩:=dB r;simp
 | ty n=>simp only[aA,aq]at r;rw[r];simp
 | dK ks ds=>simp only[aA]at r;obtain⟨a,xs,rfl,_⟩:=r;simp
 | dT ks ds=>simp only[aA]at r;obtain⟨a,xs,rfl,_⟩:=r;simp
 | dP ks=>simp only[aA]at r;obtain⟨a,cs,rfl,_⟩:=r;simp
 | obj C ks ds=>simp only[aA,aq]at r;obtain⟨a,dx,xs,rfl,_⟩:=r;simp
theorem zse:jB K (λx y H Q=>y=.non/\Q (.bl (!decide (x=.non))) H) (pIsN true) where
 mono d e Q Q' m h:=⟨h.1,m _ _ h.2⟩
 run Fz H x y d e Q al rx ry h:=by
  obtain⟨rfl,q⟩:=h;refine⟨tG ry,?_⟩;rw[zpK rx];exact q _ Fz H (.val al (by simp only[aq];rfl))
section
variable {X:Cx}{a b:Expr}{ta tb:aN}{pos:Pos}
theorem zpL (ha:aD X a ta)(hb:aD X b tb)(hm:Ww .IsNot b=false:=by first | exact qg _ | rfl):gq X (.Compare a [.IsNot] [b] pos) (tBl (t2 (pIsN true) ta tb)):=uD Uv zse ha hb hm
end
theorem Dp:Wt "list" = some (.type "list"):=by decide +kernel
theorem JB:Wt "tuple" = some (.type "tuple"):=by decide +kernel
theorem Dq:Wt "set" = some (.type "set"):=by decide +kernel
theorem Dr:Wt "len" = some (.builtin "len"):=by decide +kernel
theorem Ds:Wt "sorted" = some (.builtin "sorted"):=by decide +kernel
theorem Dt:Wt "isinstance" = some (.builtin "isinstance"):=by decide +kernel
theorem qu (h:zx K Fz H [d] vs):∃v,vs=[v]/\aA K Fz H d v:=by
 cases h with
 | cons r t=>cases t;exact⟨_,rfl,r⟩
theorem JC {e:PV}(h:zx K Fz H [d,e] vs):∃v u,vs=[v,u]/\aA K Fz H d v/\aA K Fz H e u:=by
 cases h with
 | cons r t=>
  cases t with
  | cons r2 t=>cases t;exact⟨_,_,rfl,r,r2⟩
theorem Post.newL {p:We}(al:∀b,Fz b->H b≠none)(hp:H p=none)(h:aj K Fz H ds xs):Post K [] [] Fz H Fz (upd H p (.lst xs)) (.lst ds) .new (.ref p):=
 ⟨Ext.laid ⟨Same.refl H,λ_ h=>h,λ_ h=>.inl h,al⟩ hp,p,rfl,hp,λz=>al p z hp,xs,bF,aj.mono (Keep.of (λb u e=>by rw[aO (mH e hp)];exact e)) (λ_ h=>h) _ _ h⟩
theorem Post.xW {p:We}(al:∀b,Fz b->H b≠none)(hp:H p=none)(h:aj K Fz H ds xs):Post K [] [] Fz H Fz (upd H p (.tup xs)) (.tup ds) .aH (.ref p):=by
 refine⟨Ext.laid ⟨Same.refl H,λ_ h=>h,λ_ h=>.inl h,al⟩ hp,?_⟩;show aq _ _ _ _ _;simp only[aq];exact⟨p,xs,rfl,bF,aj.mono (Keep.of (λb u e=>by rw[aO (mH e hp)];exact e)) (λ_ h=>h) _ _ h⟩
def LenP:PV->Nat->Prop
 | .str y,n=>y.length<=Wi/\n=y.length
 | .lst ds,n=>n=ds.length
 | .tup ds,n=>n=ds.length
 | .dK ks _,n=>n=ks.length
 | _,_=>False
def fLen:PF:=λds Q=>∃d n,ds=[d]/\LenP d n/\Q (.int n) .aH
def xX (K:Xc):List V->Hp->VK->Prop:=λxs H Q=>(∃x n,xs=[x]/\wX K x H n/\Q (.int n) H)\/∃a kvs,xs=[.ref a]/\Rd H a (.dK kvs)/\Q (.int kvs.length) H
theorem znE:j5 X (.builtin "len") (xX X.K):=by
 intro pins s σ H xs us Q I r h;rcases h with h | ⟨a,kvs,rfl,ha,q⟩
 ·exact UW pins s σ H xs us Q I r h
 ·obtain⟨u,rfl,ru⟩:=vals1 r;cases ru;exact YT I ha λt s' I'=>⟨.int kvs.length,H,I',⟨t,rfl⟩,q⟩
theorem zut:nR K (xX K) fLen where
 mono ds Q Q' m h:=by obtain⟨d,n,e1,e2,q⟩:=h;exact⟨d,n,e1,e2,m _ _ q⟩
 run Fz H ds vs Q al r h:=by
  obtain⟨d,n,rfl,e,q⟩:=h;obtain⟨v,rfl,rv⟩:=qu r;have q':=q (.int n) Fz H (.val al (by simp only[aq]));cases d with
  | str y=>cases oZ rv;exact .inl ⟨_,n,rfl,e,q'⟩
  | lst ds=>obtain⟨a,xs,rfl,h1,h2⟩:=dB rv;exact .inl ⟨_,n,rfl,.inl ⟨xs,h1,by rw[<- h2.length];exact e⟩,q'⟩
  | tup ds=>obtain⟨a,xs,rfl,h1,h2⟩:=lX rv;exact .inl ⟨_,n,rfl,.inr ⟨xs,h1,by rw[<- h2.length];exact e⟩,q'⟩
  | dK ks ds=>
   simp only[aA]at rv;obtain⟨a,xs,rfl,h1,h2,h3⟩:=rv;have e':n=ks.length:=e;refine .inr ⟨a,_,rfl,h1,?_⟩;rw[QK,<- h2,Nat.min_self,<- e'];exact q'
  | non=>exact e.elim
  | bl b=>exact e.elim
  | int i=>exact e.elim
  | ty n=>exact e.elim
  | dT ks ds=>exact e.elim
  | dP ks=>exact e.elim
  | obj C ks ds=>exact e.elim
def zdC:PF:=λds Q=>∃es,(ds=[.lst es]\/ds=[.tup es])/\Q (.lst es) .new
def zcj:PF:=λds Q=>∃es,(ds=[.lst es]\/ds=[.tup es])/\Q (.tup es) .aH
theorem zsg:nR K (Z0 K) zdC where
 mono ds Q Q' m h:=by obtain⟨es,e,q⟩:=h;exact⟨es,e,m _ _ q⟩
 run Fz H ds vs Q al r h:=by
  obtain⟨es,e,q⟩:=h;rcases e with rfl | rfl
  ·obtain⟨v,rfl,rv⟩:=qu r;obtain⟨a,xs,rfl,h1,h2⟩:=dB rv;exact⟨a,xs,rfl,.inl h1,λl hl=>q _ Fz _ (.newL al hl h2)⟩
  ·obtain⟨v,rfl,rv⟩:=qu r;obtain⟨a,xs,rfl,h1,h2⟩:=lX rv;exact⟨a,xs,rfl,.inr h1,λl hl=>q _ Fz _ (.newL al hl h2)⟩
theorem zpM:nR K (ZX K) zcj where
 mono ds Q Q' m h:=by obtain⟨es,e,q⟩:=h;exact⟨es,e,m _ _ q⟩
 run Fz H ds vs Q al r h:=by
  obtain⟨es,e,q⟩:=h;rcases e with rfl | rfl
  ·obtain⟨v,rfl,rv⟩:=qu r;obtain⟨a,xs,rfl,h1,h2⟩:=dB rv;exact⟨a,xs,rfl,.inl ⟨h1,λl hl=>q _ Fz _ (.xW al hl h2)⟩⟩
  ·obtain⟨v,rfl,rv⟩:=qu r;obtain⟨a,xs,rfl,h1,h2⟩:=xR rv;exact⟨a,xs,rfl,.inr ⟨bG.of h1,q _ Fz H (.val al (by simp only[aq];exact⟨a,xs,rfl,h1,h2⟩))⟩⟩
theorem JD:∀ {ss:Tn}{xs:List V},aj K Fz H (ss.map PV.str) xs->xs=ss.map V.str
 | [],xs,h=>by rw[YL]at h;simp only[aj]at h;exact h
 | s::r,xs,h=>by
  rw[Xz]at h;simp only[aj]at h;obtain⟨v,t,z,h1,h2⟩:=h;simp only[aq]at h1;subst z h1;rw[Xz,JD h2]
theorem Du:∀(ss:Tn),aj K Fz H (ss.map PV.str) (ss.map V.str)
 | []=>aj.nil
 | s::r=>by rw[Xz,Xz];exact aj.cons (by simp only[aq]) (Du r)
section
variable {X:Cx}{e:Expr}{es:List Expr}{te:aN}{t:gO}{p p1 p2 pos pos2:Pos}
theorem o8 (hg:Gl X "len") (hm:X.mg "len" = none) (ha:iR X (e::es) t) (he:Wf (e::es) X.env=(false,Wx e X.env)::Wf es X.env:=by rfl) (hpl:(Wu pos (Wf es X.env)).any (·.1)=false:=by rfl):aD X (.Call (.Name "len" p) (e::es) [] pos) (tB fLen t):=
 uG znE zut hg hm Dr ha (by decide) (by decide) he hpl
theorem zsh (hg:Gl X "list") (hm:X.mg "list" = none) (ha:iR X (e::es) t) (he:Wf (e::es) X.env=(false,Wx e X.env)::Wf es X.env:=by rfl) (hpl:(Wu pos (Wf es X.env)).any (·.1)=false:=by rfl):aD X (.Call (.Name "list" p) (e::es) [] pos) (tB zdC t):=
 Jk VN zsg hg hm Dp ha (by decide) (by decide) he hpl
theorem xY (hg:Gl X "tuple") (hm:X.mg "tuple" = none) (ha:iR X (e::es) t) (he:Wf (e::es) X.env=(false,Wx e X.env)::Wf es X.env:=by rfl) (hpl:(Wu pos (Wf es X.env)).any (·.1)=false:=by rfl):aD X (.Call (.Name "tuple" p) (e::es) [] pos) (tB zcj t):=
 Jk VP zpM hg hm JB ha (by decide) (by decide) he hpl
def zaW (te:aN):aN:=λρ Q=>te ρ λd _=>∃ss:Tn,d=.lst (ss.map PV.str)/\ss.length<64/\∀zs,zs.Nodup->(∀x,x∈zs↔x∈ss)->sortedS zs=true->Q (.lst (zs.map PV.str)) .new
theorem JF:∀(ys xs:Tn),xs.Nodup->(ys.foldl JS.bH xs).Nodup
 | [],_,h=>h
 | y::ys,xs,h=>by
  rw[Q0];refine JF ys _ ?_;unfold JS.bH;split
  ·exact h
  ·rename_i hy
   exact XI.mpr ⟨hy,h⟩
theorem zmm (hc:X.calm=true)(hg:Gl X "sorted") (hm:X.mg "sorted" = none) (hg2:Gl X "set") (hm2:X.mg "set" = none) (he:aD X e te)
  (hs1:Wf [e] X.env=(false,Wx e X.env)::Wf [] X.env:=by rfl) (jG:(Wu pos2 (Wf [] X.env)).any (·.1)=false:=by rfl)
  (hs2:Wf [Expr.Call (.Name "set" p2) [e] [] pos2] X.env=(false,Wx (Expr.Call (.Name "set" p2) [e] [] pos2) X.env)::Wf [] X.env:=by rfl) (hpl2:(Wu pos (Wf [] X.env)).any (·.1)=false:=by rfl) :
  aD X (.Call (.Name "sorted" p) [.Call (.Name "set" p2) [e] [] pos2] [] pos) (zaW te) where
 mono ρ Q Q' m h:=he.mono ρ _ _ (λd k ⟨ss,e1,e2,q⟩=>⟨ss,e1,e2,λzs h1 h2 h3=>m _ _ (q zs h1 h2 h3)⟩) h
 run:=PE.weak (BK (ZW hc) hg hm Ds (nM (G3 (ZV hc) hg2 hm2 Dq (nM he.run mJ hs1) (by decide) (by decide) hs1 jG) mJ hs2) (by decide) (by decide) hs2 hpl2) λσ H Q h=>by
  obtain⟨ρ,Fz,R,h⟩:=h;refine⟨ρ,Fz,R,he.mono ρ _ _ (λd k q v F1 H1 p1=>?_) h⟩;obtain⟨ss,rfl,e2,q⟩:=q;obtain⟨a,xs,rfl,h1,h2⟩:=dB (p1.root R);have:=JD h2;subst this;refine⟨a,ss,rfl,h1,by unfold W5;lia,λst hst=>?_⟩;have q1:=JS.CG ss [];simp only[OJ,Nat.zero_add]at q1;refine⟨st,_,rfl,bF,by lia,λl zs hl hz hs=>?_⟩;have hne:l≠st:=λz=>by subst z;rw[bF]at hl;cases hl
  have hl':H1 l=none:=by rw[aO hne]at hl;exact hl
  have x2:Ext F1 H1 F1 (upd H1 st (lA X.prog X.w st (ss.foldl JS.bH []))):=Ext.laid ⟨Same.refl _,λ_ h=>h,λ_ h=>.inl h,p1.ext.al⟩ hst;have p3:Post X.K [] [] F1 (upd H1 st (lA X.prog X.w st (ss.foldl JS.bH []))) F1 (upd (upd H1 st (lA X.prog X.w st (ss.foldl JS.bH []))) l (.lst (zs.map V.str))) (.lst (zs.map PV.str)) .new (.ref l):=Post.newL x2.al hl (Du zs);refine q zs (hz.nodup_iff.mpr (JF ss [] YH)) (λx=>?_) hs _ F1 _ (p3.behind (p1.ext.trans x2));rw[hz.mem_iff,JS.Cz];simp
end
def tyP:PV->String
 | .non=>"NoneType"
 | .bl _=>"bool"
 | .int _=>"int"
 | .str _=>"str"
 | .ty _=>"type"
 | .tup _=>"tuple"
 | .lst _=>"list"
 | .dK _ _=>"dict"
 | .dT _ _=>"dict"
 | .dP _=>"dict"
 | .obj _ _ _=>"object"
def isObj:PV->Bool
 | .dP _=>true
 | .obj _ _ _=>true
 | _=>false
def NoT (d:PV):Prop:=(∀n,d≠.ty n)/\isObj d=false
theorem JG {pins:Tg}{s:Wd}{x:V}{u:Wb}(I:Inv X pins σ H s)(r:aA X.K Fz H d x)(rx:RelV x u)(hd:NoT d):∃P:Heap->Prop,PySem.W.KitX X.K u (.type (tyP d)) P/\P s.heap/\u≠.builtin "__main__.__loader__#opaque":=by
 cases d with
 | non=>cases tG r;cases (show u=Value.none from rx);exact⟨_,PySem.W.kitx_none,Oi,λz=>nomatch z⟩
 | bl y=>cases xQ r;cases (show u=Value.bool y from rx);exact⟨_,PySem.W.kitx_bool,Oi,λz=>nomatch z⟩
 | int i=>cases kI r;obtain⟨t,q⟩:=(show ∃t,u=Oo i t from rx);cases q;exact⟨_,PySem.W.kitx_int,Oi,λz=>nomatch z⟩
 | str y=>cases oZ r;obtain⟨t,q⟩:=(show ∃t,u=Value.str y t from rx);cases q;exact⟨_,PySem.W.kitx_str,Oi,λz=>nomatch z⟩
 | ty n=>exact Qg rfl (hd.1 n)
 | dP ks=>exact Qg hd.2 (by simp[isObj])
 | obj C ks ds=>exact Qg hd.2 (by simp[isObj])
 | lst ds=>
  obtain⟨a,xs,rfl,h1,_⟩:=dB r;cases (show u=Qq a from rx);obtain⟨its,_,⟨o,n,e,c,_⟩,_⟩:=I.list h1;exact⟨_,PySem.W.kitx_list,⟨o,e,c⟩,λz=>nomatch z⟩
 | tup ds=>
  obtain⟨a,xs,rfl,h1,_⟩:=lX r;cases (show u=Qq a from rx);obtain⟨its,_,⟨o,e,c,_⟩,_⟩:=I.tuple h1;exact⟨_,PySem.W.kitx_tuple,⟨o,e,c⟩,λz=>nomatch z⟩
 | dK ks ds=>
  simp only[aA]at r;obtain⟨a,xs,rfl,h1,_⟩:=r;cases (show u=Qq a from rx);obtain⟨_,_,vs,_,o,es,ep,e,ex,_⟩:=qj I.hok h1;exact⟨_,PySem.W.kitx_dict,⟨o,e,ex.1⟩,λz=>nomatch z⟩
 | dT ks ds=>
  simp only[aA]at r;obtain⟨a,xs,rfl,h1,_⟩:=r;cases (show u=Qq a from rx);obtain⟨_,_,vs,_,o,es,ep,e,ex,_⟩:=xr I.hok h1;exact⟨_,PySem.W.kitx_dict,⟨o,e,ex.1⟩,λz=>nomatch z⟩
def fIsi (K:Xc):PF:=λds Q=>(∃d c,ds=[d,.ty c]/\NoT d/\∃b,PySem.W.kitOne K (.type (tyP d)) (.type c)=some b/\Q (.bl b) .aH)\/
 ∃d es,ds=[d,.tup es]/\NoT d/\∃(cs:List String) (b:Bool),es=cs.map PV.ty/\PySem.W.kitAny K (.type (tyP d)) (cs.map QD)=some b/\Q (.bl b) .aH
def JH (K:Xc):List V->Hp->VK->Prop:=λxs H Q=>∃Fz d x b,aA K Fz H d x/\NoT d/\((∃c,xs=[x,.ty c]/\PySem.W.kitOne K (.type (tyP d)) (.type c)=some b)\/∃(p:We)(cs:List String),xs=[x,.ref p]/\bG K H p (cs.map V.ty)/\PySem.W.kitAny K (.type (tyP d)) (cs.map QD)=some b)/\Q (.bl b) H
theorem znF:j5 X (.builtin "isinstance") (JH X.K):=by
 intro pins s σ H xs us Q I r h;obtain⟨Fz,d,x,b,rt,hd,e,q⟩:=h;rcases e with ⟨c,rfl,e⟩ | ⟨p,cs,rfl,hp,e⟩
 ·obtain⟨u,w',rfl,r1,r2⟩:=vals2 r;cases r2;obtain⟨P,Z,hP,ne⟩:=JG I rt r1 hd;exact PySem.W.kia_one Z I.qd hP e ne λtk=>⟨.bl b,H,I.tok tk,rfl,q⟩
 ·obtain⟨u,w',rfl,r1,r2⟩:=vals2 r;cases r2;obtain⟨P,Z,hP,ne⟩:=JG I rt r1 hd;obtain⟨its,rv,⟨⟨cls,dd,data,sl⟩,ho,hc,n,hdt⟩,hzz⟩:=I.tuple hp;simp only at hc hdt;subst hc hdt;have ei:its=cs.map QD:=by
   clear hp ho e hzz;induction cs generalizing its with
   | nil=>cases rv;rfl
   | cons c cs ih=>
    cases rv with
    | cons q1 q2=>rw[show _=QD c from q1,ih _ q2];rfl
  subst ei;exact PySem.W.kia_tup Z I.qd hP ho e ne λtk=>⟨.bl b,H,I.tok tk,rfl,q⟩
theorem JK:∀ {ss:List String}{xs:List V},aj K Fz H (ss.map PV.ty) xs->xs=ss.map V.ty
 | [],xs,h=>by rw[YL]at h;simp only[aj]at h;exact h
 | s::r,xs,h=>by
  rw[Xz]at h;simp only[aj]at h;obtain⟨v,t,z,h1,h2⟩:=h;simp only[aq]at h1;subst z h1;rw[Xz,JK h2]
theorem zuv:nR K (JH K) (fIsi K) where
 mono ds Q Q' m h:=by
  rcases h with ⟨d,c,e,hd,b,e2,q⟩ | ⟨d,es,e,hd,cs,b,e2,e3,q⟩
  ·exact .inl ⟨d,c,e,hd,b,e2,m _ _ q⟩
  ·exact .inr ⟨d,es,e,hd,cs,b,e2,e3,m _ _ q⟩
 run Fz H ds vs Q al r h:=by
  rcases h with ⟨d,c,rfl,hd,b,e,q⟩ | ⟨d,es,rfl,hd,cs,b,rfl,e,q⟩
  ·have q':=q (.bl b) Fz H (.val al (by simp only[aq]));obtain⟨v,u,rfl,r1,r2⟩:=JC r;simp only[aA,aq]at r2;subst r2;exact⟨Fz,d,v,b,r1,hd,.inl ⟨c,rfl,e⟩,q'⟩
  ·have q':=q (.bl b) Fz H (.val al (by simp only[aq]));obtain⟨v,u,rfl,r1,r2⟩:=JC r;obtain⟨a,xs,rfl,h1,h2⟩:=lX r2;have:=JK h2;subst this;exact⟨Fz,d,v,b,r1,hd,.inr ⟨a,cs,rfl,h1,e⟩,q'⟩
section
variable {X:Cx}{e:Expr}{es:List Expr}{te:aN}{t:gO}{p p1 p2 pos pos2:Pos}
theorem Dv (hK:X.K=K)(hg:Gl X "isinstance") (hm:X.mg "isinstance" = none) (ha:iR X (e::es) t) (he:Wf (e::es) X.env=(false,Wx e X.env)::Wf es X.env:=by rfl) (hpl:(Wu pos (Wf es X.env)).any (·.1)=false:=by rfl):aD X (.Call (.Name "isinstance" p) (e::es) [] pos) (tB (fIsi K) t):=by
 subst hK;exact uG znF zuv hg hm Dt ha (by decide) (by decide) he hpl
end
abbrev vV:=au->(Option Int->Prop)->Prop
def zvR (K:Xc)(t:vV):TO:=λσ H Q=>∃ρ Fz,Rel K Fz ρ σ H/\t ρ λo=>∀ao H',Ext Fz H ao H'->Q o H'
structure zH (X:Cx)(e:Option Expr)(t:vV):Prop where
 mono:∀ρ Q Q',(∀o,Q o->Q' o)->t ρ Q->t ρ Q'
 run:PO X e (zvR X.K t)
theorem PO.weak {e:Option Expr}{t t':TO}(h:PO X e t)(w:∀σ H Q,t' σ H Q->t σ H Q):PO X e t':=λpins s σ H Q I q=>h pins s σ H Q I (w σ H Q q)
def zdu:vV:=λ_ Q=>Q none
def zdv (te:aN):vV:=λρ Q=>te ρ λd _=>∃i,d=.int i/\Q (some i)
theorem zJ:zH X none zdu where
 mono ρ Q Q' m h:=m _ h
 run:=PO.weak Vq λσ H Q h=>by
  obtain⟨ρ,Fz,R,h⟩:=h;exact h Fz H ⟨Same.refl H,λ_ h=>h,λ_ h=>.inl h,R.al⟩
theorem zK (h:aD X e te):zH X (some e) (zdv te) where
 mono ρ Q Q' m q:=h.mono ρ _ _ (λd k ⟨i,e,q⟩=>⟨i,e,m _ q⟩) q
 run:=PO.weak (Vr h.run) λσ H Q q=>by
  obtain⟨ρ,Fz,R,q⟩:=q;exact⟨ρ,Fz,R,h.mono ρ _ _ (λd k ⟨i,e,q⟩ v F1 H1 p1=>⟨i,by subst e;exact kI (p1.root R),q F1 H1 p1.ext⟩) q⟩
def ig (xs:List PV)(lo hi:Option Int):List PV:=(xs.drop (HT.gM xs.length 0 lo)).take (HT.gM xs.length xs.length hi-HT.gM xs.length 0 lo)
def pSlL (te:aN)(tl th:vV):aN:=λρ Q=>te ρ λd _=>tl ρ λl=>th ρ λu=>∃ds,d=.lst ds/\Q (.lst (ig ds l u)) .new
theorem zsi {lo hi:Option Int}(h:aj K Fz H ds xs):aj K Fz H (ig ds lo hi) (mK xs lo hi):=by
 unfold ig mK;rw[h.length];exact(h.drop _).take _
section
variable {X:Cx}{e a b:Expr}{te ta tb:aN}{lo hi:Option Expr}{tl th:vV}{pos p2:Pos}
theorem zL (he:aD X e te)(hl:zH X lo tl)(hu:zH X hi th):aD X (.Subscript e (.Slice lo hi none p2) pos) (pSlL te tl th) where
 mono ρ Q Q' m h:=he.mono ρ _ _ (λd k h=>hl.mono ρ _ _ (λl h=>hu.mono ρ _ _ (λu ⟨ds,e,q⟩=>⟨ds,e,m _ _ q⟩) h) h) h
 run:=PE.weak (Vt VJ he.run hl.run hu.run) λσ H Q h=>by
  obtain⟨ρ,Fz,R,h⟩:=h;refine⟨ρ,Fz,R,he.mono ρ _ _ (λd k q v F1 H1 p1=>?_) h⟩;refine⟨ρ,F1,R.ext p1.ext,hl.mono ρ _ _ (λl q F2 H2 x2=>?_) q⟩;refine⟨ρ,F2,(R.ext p1.ext).ext x2,hu.mono ρ _ _ (λu q3 F3 H3 x3=>?_) q⟩;obtain⟨ds,e3,q4⟩:=q3;subst e3;obtain⟨a,xs,rfl,h1,h2⟩:=dB (((p1.root R).mono x2.same x2.sub).mono x3.same x3.sub);exact⟨a,xs,rfl,h1,λp hp=>q4 _ F3 _ ((Post.newL x3.al hp (zsi h2)).behind (p1.ext.trans (x2.trans x3)))⟩
def pRev (te:aN):aN:=λρ Q=>te ρ λd _=>∃ds,d=.lst ds/\Q (.lst ds.reverse) .new
theorem Dw {q1 q2 q3:Pos}(he:aD X e te):aD X (.Subscript e (.Slice none none (some (.UnaryOp .USub (.Constant (.int 1) j q1) q2)) q3) pos) (pRev te) where
 mono ρ Q Q' m h:=he.mono ρ _ _ (λd k ⟨ds,e,q⟩=>⟨ds,e,m _ _ q⟩) h
 run:=PE.weak (ZS he.run) λσ H Q h=>by
  obtain⟨ρ,Fz,R,h⟩:=h;refine⟨ρ,Fz,R,he.mono ρ _ _ (λd k q v F1 H1 p1=>?_) h⟩;obtain⟨ds,rfl,q⟩:=q;obtain⟨a,xs,rfl,h1,h2⟩:=dB (p1.root R);exact⟨a,xs,rfl,h1,λp hp=>q _ F1 _ ((Post.newL p1.ext.al hp h2.reverse).behind p1.ext)⟩
def JL (K:Xc):R2:=λx y H Q=>∃l b xs zs,x=.ref l/\y=.ref b/\(Rd H l (.lst xs)\/KX K l xs)/\(Rd H b (.lst zs)\/KX K b zs)/\xs.length+zs.length<=Wi/\∀p,H p=none->Q (.ref p) (upd H p (.lst (xs++zs)))
theorem JM {pins:Tg}{s:Wd}(I:Inv X pins σ H s)(h:Rd H l (.lst xs)\/KX X.K l xs):∃(its:Tq)(n:Nat),Vals xs its/\s.heap.get? l=some { cls:=.type "list",data:=.seq its.toArray n }:=by
 rcases h with h | ⟨its,n,h1,_,h3⟩
 ·obtain⟨z,its,n,r,e⟩:=(show dg X.prog X.w H s.heap l (.lst xs) from h.ok I.hok);exact⟨its,n,r,e⟩
 ·exact⟨its.toList,n,h3,by rw[Array.toArray_toList];exact I.qd l _ h1⟩
theorem zsj:gh X (W3 .Add) (JL X.K):=by
 intro pins s σ H x y v u Q I rx ry h;obtain⟨l,b,xs,zs,rfl,rfl,hH,hB,hz,q⟩:=h;cases rx;cases ry;obtain⟨its,n,r,e⟩:=JM I hH;obtain⟨its2,n2,r2,e2⟩:=JM I hB;have l1:=r.length;have l2:=r2.length;refine PySem.P.add_list e e2 ?_ (by rw[Xo,Xo];lia);have ea:its.toArray++its2.toArray=(its++its2).toArray:=by simp
 rw[ea];exact⟨.ref _,_,I.xq (t':=s.toks) (r.append r2) (by rw[Xy];lia),rfl,q _ I.fresh⟩
def pCat:P2:=λd e Q=>∃ds es,d=.lst ds/\e=.lst es/\ds.length+es.length<=Wi/\Q (.lst (ds++es)) .new
theorem zuy:jB K (JL K) pCat where
 mono d e Q Q' m h:=by obtain⟨ds,es,e1,e2,e3,q⟩:=h;exact⟨ds,es,e1,e2,e3,m _ _ q⟩
 run Fz H x y d e Q al rx ry h:=by
  obtain⟨ds,es,rfl,rfl,e3,q⟩:=h;obtain⟨a,xs,rfl,h1,h2⟩:=IV rx;obtain⟨b,ys,rfl,g1,g2⟩:=IV ry;have l1:=h2.length;have l2:=g2.length;exact⟨a,b,xs,ys,rfl,rfl,h1,g1,by lia,λp hp=>q _ Fz _ (.newL al hp (h2.append g2))⟩
theorem zuz (ha:aD X a ta)(hb:aD X b tb):aD X (.BinOp a .Add b pos) (t2 pCat ta tb):=tu zsj zuy ha hb
end
structure Fx (K:Xc)(mg:Tj)(x:Str)(st:WJ)(ps:Tn)(f:We)(fd:WA):Prop where
 fn:dU K x x st f fd
 bd:Binds K fd ps []
 mg:mg x=some (.ref f)
structure Bl (mg:Tj):Prop where
 range:mg "range" = none
 len:mg "len" = none
 list:mg "list" = none
 tuple:mg "tuple" = none
 sorted:mg "sorted" = none
 set:mg "set" = none
 isi:mg "isinstance" = none
 str:mg "str" = none
 int:mg "int" = none
 bool:mg "bool" = none
 dict:mg "dict" = none
 enumerate:mg "enumerate" = none
 zip:mg "zip" = none
 min:mg "min" = none
 max:mg "max" = none
 sum:mg "sum" = none
 all:mg "all" = none
 any:mg "any" = none
 reversed:mg "reversed" = none
 abs:mg "abs" = none
 ord:mg "ord" = none
theorem Dy {T:String}:PySem.W.kitOne K (.type T) (.type T)=some true:=by
 unfold PySem.W.kitOne;rw[Qf (by simp)]
theorem rB (h:i<k)(h2:j<k):Jp k (zbI (zbu i) (zbI (zbu j) zdr)):=λds ρ Q ⟨d,r,e,d2,r2,e2,q⟩=>
 ⟨d,r,e,d2,r2,e2,q.1,q.2,by rw[Yb,Yb],λl hl=>by rw[Xk (by lia),Xk (by lia)]⟩
theorem znI {P:Wo}{w:Ws}{K:Xc}{mg mb:Tj}{CX:oM}{k:Nat}{fa a:We}{fd:WA}{x:Str}{sp:Sp}{s₁:Wd}{vs:Tq}{ns:Tp}
  (KX:K.In s₁.heap) (hns:s₁.heap.Ns Wg mg) (hb:s₁.heap.Ns builtinsNs mb) (hbb:∀x:Str,x≠"__name__"->mb x=Wt x) (hlim:s₁.heap.NoLimit) (hg:s₁.gens = #[])
  (ha:s₁.heap.get? a=some { cls:=.type "list",data:=.seq vs.toArray }) (hi:Vp vs ns) (hl:ns.length<=Wi) (hr:cg k callerA)
  (F:∀base:Heap,K.In base->base.Ns Wg mg->aJ P w K mg base CX k fa fd [x] sp) (hbind:∀(s:Wd) (u:Wb),BindsTo s fd ⟨[u],[]⟩ [(x,u)])
  (hsp:∀H:Hp,Only H->(Rd H a (.lst (ns.map V.int))\/PL.KX K a (ns.map V.int))->sp [.ref a] H (λv _=>v=.bl true) λ_ _ _=>False)
  (hCX:∀H e s',CX [] H s₁ (λ_ _ _=>False) e s'->False) :
  Vd (Wm P w) callerA (.call (.ref fa) ⟨[.ref a],[]⟩) (λr s'=>r=.ok (.ret (.bool true))/\OldK s₁.heap s'.heap/\s'.os=s₁.os/\AllBare s'.gens) s₁:=by
 have rv:=Hv hi;have lenV:=hi.length;have core:∀H:Hp,Only H->(Rd H a (.lst (ns.map V.int))\/PL.KX K a (ns.map V.int))->cV P w H s₁.heap->(∀b,H b≠none->b=a)->(H a≠none->K.lookup a=none)->
   Vd (Wm P w) callerA (.call (.ref fa) ⟨[.ref a],[]⟩) (λr s'=>r=.ok (.ret (.bool true))/\OldK s₁.heap s'.heap/\s'.os=s₁.os/\AllBare s'.gens) s₁:=by
  intro H hO hS hok hA hK;have mq:∀ {b:We} {o:Obj},s₁.heap.get? b=some o->H b=none->(jz s₁.heap H).get? b=some o:=λe n=>Ss e n;have noA:∀ {b:We} {o:Obj} {es:Array DictEntry} {ep:Nat},s₁.heap.get? b=some o->o.data=.dict es ep->H b=none:=λ{b o es ep} e d=>by
   cases q:H b with
   | none=>rfl
   | some u=>
    have e':b=a:=hA b (by rw[q];simp);subst e';rw[ha]at e;cases e;have d':Data.seq vs.toArray _=Data.dict es ep:=d;cases d'
  have nsK:∀ {b:We} {m:Tj},s₁.heap.Ns b m->(jz s₁.heap H).Ns b m:=λ{b m} ⟨o,es,ep,e,d,r⟩=>⟨o,es,ep,mq e (noA e d),d,r⟩;have hKb:K.In (jz s₁.heap H):=λb o e=>mq (KX b o e) (by
   cases q:H b with
   | none=>rfl
   | some u=>
    have e':b=a:=hA b (by rw[q];simp);subst e';rw[hK (by rw[q];simp)]at e;cases e)
  have hM:Mod K mg (jz s₁.heap H):=⟨hKb,nsK hns,⟨mb,nsK hb,hbb⟩,let ⟨mc,h1,h2⟩:=hlim;⟨mc,nsK h1,h2⟩⟩;have e0:qO P w K mg (jz s₁.heap H) callerA [] s₁ H:=⟨rfl,hM,λb o e=>Sv e,Nat.le_of_eq (Sq _ _),trivial,λb hb=>Qg (show b∈([]:Tr) from hb) (by simp),hok,.of_eq hg⟩;refine Ve ((F _ hKb (nsK hns)).run callerA [] s₁ H ⟨[.ref a],[]⟩ [.ref a] [.ref a] _ _ hr e0 (hbind s₁ (.ref a)) (.cons rfl .nil) (hsp H hO hS)) λr s' h=>?_;cases r with
  | error e=>exact(hCX H e s' h).elim
  | ok fl=>
   cases fl with
   | next=>exact QZ h
   | brk=>exact QZ h
   | cont=>exact QZ h
   | ret u=>
    obtain⟨v,H',os,bare,un,hok',r',q⟩:=h;have q':v=.bl true:=q;subst q';obtain rfl:u=Value.bool true:=r';refine⟨rfl,OldK.of_keep λb o e=>?_,os,bare⟩;cases q:H b with
    | none=>exact un.keep b o e q (by intro z;exact Qg (show b∈([]:Tr) from z) (by simp)) (by simp)
    | some u=>
     rcases hO b with z | ⟨ob,xs,z⟩
     ·rw[q]at z;cases z
     ·have z2:=un.dO b ob _ z;obtain⟨e1,_⟩:=hok b _ z;obtain⟨e2,_⟩:=hok' b _ z2;rw[e]at e1;cases e1;exact e2
 cases hk:K.lookup a with
 | some o=>
  have e:=KX a o hk;rw[ha]at e;cases e;refine core (λ_=>none) (λ_=>.inl rfl) (.inr ⟨vs.toArray,_,hk,by rw[Xo,lenV];exact hl,by simpa using rv⟩) (λb u z=>by have z':(none:Option HO)=some u:=z;cases z') (λb z=>Qg rfl z) λz=>Qg rfl z
 | none=>
  refine core (λb=>if b=a then some (.aH { cls:=.type "list",data:=.seq vs.toArray } (.lst (ns.map V.int))) else none) (λb=>?_) (.inl (.inr ⟨{ cls:=.type "list",data:=.seq vs.toArray },Qf rfl⟩)) (λb u z=>?_) (λb z=>?_) λ_=>hk
  ·by_cases hb:b=a
   ·exact .inr ⟨_,_,Qf hb⟩
   ·exact .inl (Qe hb)
  ·by_cases hb:b=a
   ·have z':=(Qf hb).symm.trans z;cases z';subst hb;exact⟨ha,by rw[Xb];exact hl,vs,_,rv,ha⟩
   ·have z':=(Qe hb).symm.trans z;cases z'
  ·by_cases hb:b=a
   ·exact hb
   ·exact Qg (Qe hb) z
theorem JN:∀(ns:Tp),aj K Fz H (ns.map PV.int) (ns.map V.int)
 | []=>aj.nil
 | n::r=>by rw[Xz,Xz];exact aj.cons (by simp only[aq]) (JN r)
theorem zuA {ns:Tp}{E:XK}(m:fQ F)(h:Rd H a (.lst (ns.map V.int))\/KX K a (ns.map V.int))(hF:F [.lst (ns.map PV.int)] λd k=>d=.bl true):bR K F [.ref a] H (λv _=>v=.bl true) E:=by
 refine⟨λb=>H b≠none,[.lst (ns.map PV.int)],λb hb=>hb,aj.cons ?_ aj.nil,m _ _ _ (λd k e v F' H' p=>?_) hF⟩
 ·simp only[aq];refine⟨a,ns.map V.int,rfl,?_,JN ns⟩;rcases h with h | h
  ·refine .inl ⟨?_,h⟩;rcases h with h | ⟨o,h⟩<;>(show H a≠none;rw[h];exact λz=>nomatch z)
  ·exact .inr h
 ·subst e;cases k with
  | aH=>have q:aq K F' H' (.bl true) v:=p.gm;simpa only[aq]using q
  | new=>obtain⟨b,_,_,_,o⟩:=p.gm;exact o.elim
  | own i=>obtain⟨z,_⟩:=p.gm;simp at z
end PL
namespace L2
open PySem PySem.Spec PyProof.Rows
variable {kvs:List (Key×V)}{pins:Tg}{σ:St}{s:Wd}{d:We}
def oh (d:We)(H:Hp):Hp:=match H d with
 | some (.aH _ u)=>upd H d u
 | _=>H
def Sw:HO->Prop
 | .dK _=>True
 | .dT _=>True
 | .aH _ _=>True
 | _=>False
section
variable {X:Cx}{pins:Tg}{σ:List (Option V)}{H:Hp}{s:Wd}{d:We}{u v:HO}
theorem cV.swap {P:Wo}{w:Ws}{h:Heap}(ok:cV P w H h)(e:H d=some u)(hu:Sw u)(new:dg P w (upd H d v) h d v):cV P w (upd H d v) h:=λb o q=>by
 by_cases hb:b=d
 ·subst hb;rw[bF]at q;cases q;exact new
 ·rw[aO hb]at q;refine(ok b o q).stay (λc v hc r=>r) (λc r=>?_) λc xs r=>?_
  ·have ne:c≠d:=λz=>by subst z;rw[e]at r;cases r;exact hu
   rw[aO ne];exact r
  ·have ne:c≠d:=λz=>by subst z;rw[e]at r;cases r;exact hu
   rw[aO ne];exact r
theorem Inv.swap (I:Inv X pins σ H s)(e:H d=some u)(hu:Sw u)(hf:∀o t,X.H₀ d≠some (.aH o t))(new:dg X.prog X.w (upd H d v) s.heap d v):Inv X pins σ (upd H d v) s:=by
 have ne:∀b,H b=none->b≠d:=λb n z=>by subst z;rw[e]at n;cases n
 refine⟨I.ok,I.os,I.bare,⟨I.base.keep,I.base.slot,λb o q n hx=>?_,I.base.there,λb xs q=>?_,λb o t q=>?_,λb ps q=>?_⟩,I.loc,I.cell,?_,λx c q=>?_,λp hp=>?_,I.hok.swap e hu new,I.len⟩
 ·have:=I.base.free b o q n hx;rw[aO (ne b this)];exact this
 ·have:=I.base.tups b xs q;have nb:b≠d:=λz=>by subst z;rw[e]at this;cases this;exact hu
  rw[aO nb];exact this
 ·have nb:b≠d:=λz=>by subst z;exact hf o t q
  rw[aO nb];exact I.base.dO b o t q
 ·obtain⟨more,q'⟩:=I.base.f9 b ps q;have nb:b≠d:=λz=>by subst z;rw[e]at q';cases q';exact hu
  exact⟨more,by rw[aO nb];exact q'⟩
 ·rw[aO (ne _ I.free)];exact I.free
 ·rw[aO (ne _ (I.bY x c q))];exact I.bY x c q
 ·obtain⟨p1,p2,p3⟩:=I.pin p hp;exact⟨p1,by rw[aO (ne _ p2)];exact p2,p3⟩
theorem Inv.JP (I:Inv X pins σ H s)(e:H d=some u)(hu:∀o t,u≠.aH o t):∀o t,X.H₀ d≠some (.aH o t):=λo t q=>by
 have:=I.base.dO d o t q;rw[e]at this;exact hu o t (Qa this)
theorem Inv.zsk (I:Inv X pins σ H s)(e:H d=some (.dK kvs)):∃o,s.heap.get? d=some o/\Inv X pins σ (upd H d (.aH o (.dK kvs))) s:=by
 obtain⟨z1,z2,vs,r,o,es,ep,ho,rest⟩:=(show dg X.prog X.w H s.heap d (.dK kvs) from I.hok d _ e);exact⟨o,ho,I.swap e trivial (I.JP e λ_ _ z=>nomatch z) ⟨ho,z1,z2,vs,r,o,es,ep,ho,rest⟩⟩
theorem Inv.ji (I:Inv X pins σ H s)(hf:∀o t,X.H₀ d≠some (.aH o t)):Inv X pins σ (oh d H) s:=by
 unfold oh;split
 ·rename_i o t e
  obtain⟨ho,ot⟩:=(show dg X.prog X.w H s.heap d (.aH o t) from I.hok d _ e);refine I.swap e trivial hf ?_;refine ot.stay (λc v hc r=>r) (λc r=>?_) λc xs r=>?_
  ·have ne:c≠d:=λz=>by subst z;rw[e]at r;cases r
   rw[aO ne];exact r
  ·have ne:c≠d:=λz=>by subst z;rw[e]at r;cases r
   rw[aO ne];exact r
 ·exact I
end
def Dz (d:We)(o:Obj)(kvs:List (Key×V)):It:=
 ⟨λi H=>H d=some (.aH o (.dK kvs))/\i<kvs.length,λi H x H'=>H'=H/\∃kv,kvs[i]? = some kv/\x=kV kv.1,λi H=>H d=some (.aH o (.dK kvs))/\kvs.length<=i⟩
def ItV (d:We)(o:Obj)(kvs:List (Key×V)):It:=
 ⟨λi H=>H d=some (.aH o (.dK kvs))/\i<kvs.length,λi H x H'=>H'=H/\∃kv,kvs[i]? = some kv/\x=kv.2,λi H=>H d=some (.aH o (.dK kvs))/\kvs.length<=i⟩
section
variable {P:Wo}{w:Ws}{K:Xc}{tg:Expr}
theorem JQ {vs:List (Key×Wb)}{i:Nat}{kv:Key×V}(r:KV kvs vs)(h:kvs[i]? = some kv):∃u,vs[i]? = some (kv.1,u)/\RelV kv.2 u:=by
 induction r generalizing i with
 | nil=>simp at h
 | @cons p q ps qs h1 h2 ih=>
  cases i with
  | zero=>simp at h;subst h;exact⟨q.2,by simp[h1.1],h1.2⟩
  | succ i=>simpa using ih (by simpa using h)
theorem zsl {k:Key}{u:Wb}(h:(eN P w).is k u=true):RelV (kV k) u:=by
 have h':um k u=true:=h;rcases qb h' with ⟨i,t,rfl,rfl⟩ | ⟨x,t,rfl,rfl⟩
 ·exact⟨t,rfl⟩
 ·exact⟨t,rfl⟩
theorem JR {X:Cx}{H:Hp}{o:Obj}(I:Inv X pins σ H s)(e:H d=some (.aH o (.dK kvs))):s.heap.get? d=some o/\(d == WH)=false/\∃vs ep,KV kvs vs/\s.heap.DictAt (eN X.prog X.w) d vs ep:=by
 obtain⟨ho,_,hs,vs,r,hd⟩:=(show dg X.prog X.w H s.heap d (.aH o (.dK kvs)) from I.hok d _ e);obtain⟨ep,hd⟩:=hd.dictAt;exact⟨ho,hs,vs,ep,r,hd⟩
theorem DG {X:Cx}{H:Hp}{o:Obj}{es:Array DictEntry}{ep:Nat}(I:Inv X pins σ H s)(e:H d=some (.aH o (.dK kvs)))(hd:o.data=.dict es ep):(d == WH)=false/\∃vs,KV kvs vs/\s.heap.DictAt (eN X.prog X.w) d vs ep:=by
 obtain⟨ho,hs,vs,ep',r,o',es',ho',c,hd',rest⟩:=JR I e;rw[ho]at ho';cases ho';rw[hd]at hd';injection hd' with e1 e2;subst e1 e2;exact⟨hs,vs,r,o,es,ho,c,hd,rest⟩
theorem znK (d it:We)(o:Obj)(kvs:List (Key×V)){es:Array DictEntry}{ep:Nat}(hd:o.data=.dict es ep):Turn P w K tg (Dz d o kvs) [it] it (λi h=>h.IsKeyIter it d i kvs.length ep) where
 mem:=by simp
 obj:=λi h st b hb=>by
  have e:b=it:=by simpa using hb
  subst e;obtain⟨o,e,c,d⟩:=st;exact⟨o,e,λv z=>by rw[d]at z;cases z⟩
 keep:=λi h h' st k=>by
  obtain⟨o,e,r⟩:=st;exact⟨o,k it (by simp) o e,r⟩
 item:=by
  intro X hP hw hK hc i pins s σ H E I hf st hg;subst hP hw hK;obtain⟨hq,hi⟩:=hg;obtain⟨hs,vs,r,hm⟩:=DG I hq hd;have hl:kvs.length=vs.length:=KV.length r;obtain⟨u,hu,ru⟩:=JQ r (Xa hi);obtain⟨f0,f1,f2,f3,f4,f5⟩:=hf it (by simp);rw[hl]at st;refine wpAny_pyNext_dict_item st hm hu λkey h' hk st' sb=>?_;have I1:Inv X pins σ H { s with heap:=h' }:=I.turned (t':=s.toks) (λb o hb e=>(sb.2 b hb).trans e) f0 f1 f3 f4 f5;obtain⟨o,e,c,d⟩:=id st';exact⟨key,rfl,wN (s:={ s with heap:=h' }) e c d (by decide) ⟨kV kvs[i].1,H,I1,zsl hk,⟨rfl,kvs[i],Xa hi,rfl⟩,by rw[hl];exact st',λb hb=>(hf b hb).1⟩⟩
 done:=by
  intro X hP hw hK hc i pins s σ H E I hf st hg;subst hP hw hK;obtain⟨hq,hi⟩:=hg;obtain⟨hs,vs,r,hm⟩:=DG I hq hd;have hl:kvs.length=vs.length:=KV.length r;obtain⟨f0,f1,f2,f3,f4,f5⟩:=hf it (by simp);rw[hl]at st;exact wpAny_pyNext_dict_end (I.ok.hd hc) st hm (XD (by lia)) λh' eb=>⟨rfl,I.turned (t':=s.toks) (λb o hb e=>eb b o hb e) f0 f1 f3 f4 f5⟩
 self:=λ_ _ _ _ _ st h=>wpAny_pyIter_keyiter st h
end
section
variable {X:Cx}{tg l:Expr}{td:TE}{apos cpos:Pos}
def vW (X:Cx)(d:We):Prop:=∀o t,X.H₀ d≠some (.aH o t)
def iD (X:Cx)(It':We->Obj->List (Key×V)->It)(td:TE):TI:=λσ H R=>td σ H λx H1=>∃d kvs,x=.ref d/\((H1 d=some (.dK kvs)/\(vW X d->∀o,R (It' d o kvs) (upd H1 d (.aH o (.dK kvs)))))\/∃o,H1 d=some (.aH o (.dK kvs))/\R (It' d o kvs) H1)
theorem zuC {It':We->Obj->List (Key×V)->It}{H1:Hp}{R:It->Hp->Prop}(I:Inv X pins σ H1 s)(h:(H1 d=some (.dK kvs)/\(vW X d->∀o,R (It' d o kvs) (upd H1 d (.aH o (.dK kvs)))))\/∃o,H1 d=some (.aH o (.dK kvs))/\R (It' d o kvs) H1) :
  ∃(o:Obj) (es:Array DictEntry) (ep:Nat) (H2:Hp),o.data=.dict es ep/\Inv X pins σ H2 s/\H2 d=some (.aH o (.dK kvs))/\R (It' d o kvs) H2:=by
 have dat:∀ {H2:Hp} {o:Obj},Inv X pins σ H2 s->H2 d=some (.aH o (.dK kvs))->∃es ep,o.data=.dict es ep:=λ{H2 o} I2 e=>by
  obtain⟨ho,_,vs,ep,_,o',es,ho',_,hd',_⟩:=JR I2 e;rw[ho]at ho';cases ho';exact⟨es,ep,hd'⟩
 rcases h with ⟨e,h⟩ | ⟨o,e,h⟩
 ·obtain⟨o,ho,I2⟩:=I.zsk e;obtain⟨es,ep,q⟩:=dat I2 bF;exact⟨o,es,ep,_,q,I2,bF,h (I.JP e λ_ _ z=>nomatch z) o⟩
 ·obtain⟨es,ep,q⟩:=dat I e;exact⟨o,es,ep,H1,q,I,e,h⟩
theorem zsm (hl:PE X l td):PI X tg l (iD X Dz td):=by
 intro pins s σ H R I h;refine aM (hl pins s σ H _ I h) λv s1 ⟨x,H1,I1,r1,q1⟩=>?_;obtain⟨d,kvs,e,q1⟩:=q1;subst e;cases r1;obtain⟨o,es,ep,H2,hd,I2,e2,q2⟩:=zuC I1 q1;obtain⟨hs,vs,r,hm⟩:=DG I2 e2 hd;have hl:kvs.length=vs.length:=KV.length r;refine wpAny_pyIter_dict hs hm ?_;refine⟨s1.heap.objs.size,[s1.heap.objs.size],_,_,H2,rfl,I2.kept (t':=s1.toks) λb o e=>Xn _ e,znK d _ o kvs hd,⟨_,XA _ rfl,rfl,by rw[hl];rfl⟩,λb hb=>?_,q2⟩;have e:b=s1.heap.objs.size:=by simpa using hb
 subst e;exact I2.jb (Xj _) (I2.hok.fresh (Xj _))
def JT (X:Cx)(D:Ends):Ends:=⟨λσ H=>D.nx σ H\/∃d,vW X d/\D.nx σ (oh d H),λv H=>D.rt v H\/∃d,vW X d/\D.rt v (oh d H),λσ H=>D.bk σ H\/∃d,vW X d/\D.bk σ (oh d H),λσ H=>D.ct σ H\/∃d,vW X d/\D.ct σ (oh d H)⟩
theorem PS.star {X:Cx}{st:WJ}{t:TS}(h:PS X st t):PS X st (λD σ H=>t (JT X D) σ H):=by
 intro pins s σ H D I q;refine aM (h pins s σ H (JT X D) I q) λf s1 q1=>?_;cases f with
 | next=>
  obtain⟨σ',H',I',q' | ⟨d,hf,q'⟩⟩:=q1
  ·exact⟨σ',H',I',q'⟩
  ·exact⟨σ',_,I'.ji hf,q'⟩
 | brk=>
  obtain⟨σ',H',I',q' | ⟨d,hf,q'⟩⟩:=q1
  ·exact⟨σ',H',I',q'⟩
  ·exact⟨σ',_,I'.ji hf,q'⟩
 | cont=>
  obtain⟨σ',H',I',q' | ⟨d,hf,q'⟩⟩:=q1
  ·exact⟨σ',H',I',q'⟩
  ·exact⟨σ',_,I'.ji hf,q'⟩
 | ret u=>
  obtain⟨v,σ',H',I',r',q' | ⟨d,hf,q'⟩⟩:=q1
  ·exact⟨v,σ',H',I',r',q'⟩
  ·exact⟨v,σ',_,I'.ji hf,r',q'⟩
end
end L2
namespace PL
open PySem PySem.Spec L2
open PyProof.Rows hiding St
variable {Fz ao F1 F2:FZ}{H H' H1 H2:Hp}{ks:List Key}{xs:List V}{i z:Nat}{u o:HO}{d:PV}{ds:List PV}{X:Cx}{te:aN}{a b:We}{ρ:au}{σ:St}{v:V}{β:BX}{bs:Tr}{O O':We->Prop}
def dG:Key->PV
 | .inl i=>.int i
 | .inr x=>.str x
theorem zsn {K:Xc}(k:Key):aq K Fz H (dG k) (kV k):=by
 cases k<;>simp only[dG,kV,aq]
theorem zip_get {kv:Key×V}(h:(ks.zip xs)[i]? = some kv):ks[i]? = some kv.1/\xs[i]? = some kv.2:=by
 rw[List.getElem?_zip_eq_some]at h;exact h
section
variable {K:Xc}{Fz F':FZ}{ρ:au}{σ:St}{H H1 H':Hp}{d:We}{o:Obj}{kvs:List (Key×V)}
theorem JV (e:H1 d=some (.dK kvs)):Keep Fz H1 (upd H1 d (.aH o (.dK kvs))) where
 rd' b u pl f r:=by
  by_cases hb:b=d
  ·subst hb;rcases r with r | ⟨o',r⟩
   ·rw[e]at r;cases r;exact .inr ⟨o,bF⟩
   ·rw[e]at r;cases r
  ·rcases r with r | ⟨o',r⟩
   ·exact .inl (by rw[aO hb];exact r)
   ·exact .inr ⟨o',by rw[aO hb];exact r⟩
 tup b xs r:=by
  have hb:b≠d:=λz=>by subst z;rw[e]at r;cases r
  rw[aO hb];exact r
 ins b C dx fs _ r:=by
  have hb:b≠d:=λz=>by subst z;rw[e]at r;cases r
  rw[aO hb];exact r
theorem uN (e:H' d=some (.aH o u)):oh d H'=upd H' d u:=by unfold oh;rw[e]
theorem JW (e:H' d=some (.aH o (.dK kvs))):Keep F' H' (oh d H') where
 rd' b u pl f r:=by
  rw[uN e];by_cases hb:b=d
  ·subst hb;rcases r with r | ⟨o',r⟩
   ·rw[e]at r;cases r;exact pl.elim
   ·rw[e]at r;cases r;exact .inl bF
  ·rcases r with r | ⟨o',r⟩
   ·exact .inl (by rw[aO hb];exact r)
   ·exact .inr ⟨o',by rw[aO hb];exact r⟩
 tup b xs r:=by
  rw[uN e];have hb:b≠d:=λz=>by subst z;rw[e]at r;cases r
  rw[aO hb];exact r
 ins b C dx fs _ r:=by
  rw[uN e];have hb:b≠d:=λz=>by subst z;rw[e]at r;cases r
  rw[aO hb];exact r
theorem Rel.keep (R:Rel K Fz ρ σ H)(kp:Keep Fz H H')(ha:∀b,Fz b->H' b≠none)(ho:∀a w,¬ Fz a->H a=some w->H' a=some w):Rel K Fz ρ σ H':=
 ⟨ha,R.len,λi d e=>by
  obtain⟨v,q1,q2⟩:=R.aH i d e;exact⟨v,q1,aq.mono kp (λ_ h=>h) _ _ q2⟩,λi d e=>by
  obtain⟨a,q1,q2,q3⟩:=R.own i d e;exact⟨a,q1,q2,q3.mono kp (λ_ h=>h) λw hw=>ho a w q2 hw⟩,R.inj⟩
theorem Rel.freeze (R:Rel K Fz ρ σ H1)(f:Fz d)(e:H1 d=some (.dK kvs)):Rel K Fz ρ σ (upd H1 d (.aH o (.dK kvs))):=
 R.keep (JV e) (λb hb=>by
  by_cases z:b=d
  ·subst z;rw[bF];exact λz=>nomatch z
  ·rw[aO z];exact R.al b hb) λa w na hw=>by
  have:a≠d:=λz=>by subst z;exact na f
  rw[aO this];exact hw
theorem Rel.ji (R:Rel K F' ρ σ H')(f:F' d)(e:H' d=some (.aH o (.dK kvs))):Rel K F' ρ σ (oh d H'):=by
 have kp:=JW (F':=F') e;rw[uN e]at kp ⊢;exact R.keep kp (λb hb=>by
  by_cases z:b=d
  ·subst z;rw[bF];exact λz=>nomatch z
  ·rw[aO z];exact R.al b hb) λa w na hw=>by
  have:a≠d:=λz=>by subst z;exact na f
  rw[aO this];exact hw
theorem Step.ji (s:Step ρ σ Fz (upd H1 d (.aH o (.dK kvs))) F' H')(e:H1 d=some (.dK kvs))(no:¬ bK ρ σ d):Step ρ σ Fz H1 F' (oh d H'):=by
 have e':H' d=some (.aH o (.dK kvs)):=s.keep d _ bF no;rw[uN e'];refine⟨s.sub,λb hb=>?_,λb w hw n=>?_⟩
 ·rcases s.new b hb with z | z | z
  ·exact .inl z
  ·by_cases hbd:b=d
   ·subst hbd;rw[bF]at z;cases z
   ·rw[aO hbd]at z;exact .inr (.inl z)
  ·exact .inr (.inr z)
 ·by_cases hbd:b=d
  ·subst hbd;rw[e]at hw;cases hw;exact bF
  ·rw[aO hbd];exact s.keep b w (by rw[aO hbd];exact hw) n
end
def DK (V2:Bool):List Key->List PV->List PV:=λks ds=>if V2 then ds else ks.map dG
def iDic (V2:Bool)(te:aN):je:=λρ Q=>te ρ λd k=>∃ks ds,d=.dK ks ds/\Q (DK V2 ks ds) (isOwn k)
def JX (V2:Bool):We->Obj->List (Key×V)->It:=if V2 then ItV else Dz
theorem JZ {K:Xc}{Fz:FZ}{V2:Bool}{d:We}{o:Obj}{ks:List Key}{ds:List PV}{xs:List V}{H:Hp}(hl:ks.length=xs.length)(f:Fz d)(e:H d=some (.aH o (.dK (ks.zip xs))))(hd:aj K Fz H ds xs)(ow:Bool)
  (hst:∀H2,(Same H H2\/(ow=false/\uz Fz H H2))->H2 d=some (.aH o (.dK (ks.zip xs)))/\Keep Fz H H2):Walk K Fz ow (JX V2 d o (ks.zip xs)) (DK V2 ks ds) H:=λH2 hH i=>by
 obtain⟨e2,kp⟩:=hst H2 hH;have g3:aj K Fz H2 ds xs:=aj.mono kp (λ_ h=>h) _ _ hd;have hlen:=g3.length;have zl:(ks.zip xs).length=xs.length:=by rw[QK];lia
 cases V2 with
 | true=>
  refine⟨λc hc=>?_,λhi=>⟨e2,by rw[zl];have:ds.length<=i:=hi;lia⟩⟩;have hc':ds[i]? = some c:=hc;obtain⟨v,q1,q2⟩:=g3.get hc';have hi:i<xs.length:=(Xf.mp q1).1;refine⟨⟨e2,by lia⟩,λx H3 ⟨e3,kv,y1,y2⟩=>?_⟩;subst e3;have:=(zip_get y1).2;rw[q1]at this;cases this;subst y2;exact⟨Same.refl _,q2⟩
 | false=>
  refine⟨λc hc=>?_,λhi=>⟨e2,by rw[zl];have:(ks.map dG).length<=i:=hi;rw[Xb]at this;lia⟩⟩;have hc':(ks.map dG)[i]? = some c:=hc;rw[Xe]at hc';cases hk:ks[i]? with
  | none=>rw[hk]at hc';cases hc'
  | some k=>
   rw[hk]at hc';cases hc';have hi:i<ks.length:=(Xf.mp hk).1;refine⟨⟨e2,by lia⟩,λx H3 ⟨e3,kv,y1,y2⟩=>?_⟩;subst e3;have:=(zip_get y1).1;rw[hk]at this;cases this;subst y2;exact⟨Same.refl _,zsn _⟩
structure uO (X:Cx)(tg iter:Expr)(V2:Bool)(te:aN):Prop where
 mono:∀ρ Q Q',(∀d k,Q d k->Q' d k)->te ρ Q->te ρ Q'
 run:PI X tg iter (iD X (JX V2) (lift X.K te))
theorem znM {tg e:Expr}(he:aD X e te):uO X tg e false te:=⟨he.mono,zsm he.run⟩
theorem znN {tg iter:Expr}{V2:Bool}(h:uO X tg iter V2 te):∀ρ Q Q',(∀its o,Q its o->Q' its o)->iDic V2 te ρ Q->iDic V2 te ρ Q':=λρ Q Q' m q=>h.mono ρ _ _ (λd k ⟨ks,ds,e,q⟩=>⟨ks,ds,e,m _ _ q⟩) q
section
variable {X:Cx}{tg iter:Expr}{body:List WJ}{V2:Bool}{te:aN}{g:jr}{tb:cN}{pos:Pos}
theorem zpN (hc:X.calm=true)(hp:PassesOwn (Wm X.prog X.w) X.A X.env X.xe)(hi:uO X tg iter V2 te)(hg:uJ X tg g)(hb:dF X body tb)(hs:∀x,WD iter X.env x=pure x:=by intro _;rfl):jR X (.For tg iter body [] pos) (pFor (iDic V2 te) g tb) where
 mono:=Jq (znN hi) hg.mono hb.mono
 run:=PS.weak (yO hp hc hi.run hg.run hb.run hs).star λD σ H h=>by
  obtain⟨ρ,Fz,R,h⟩:=h;refine⟨ρ,Fz,R,hi.mono ρ _ _ (λd k q v aX H1 p=>?_) h⟩;obtain⟨ks,ds,rfl,ho,Iv,h0,hstep,hdone⟩:=q;have hk:k=.aH\/k=.new:=by
   cases k with
   | aH=>exact .inl rfl
   | new=>exact .inr rfl
   | own j=>cases ho
  obtain⟨F2,x2,s2,dn⟩:=p.frozen hk;simp only[aq]at dn;obtain⟨a,xs,rfl,fa,hr,hl,hd⟩:=dn;have R2:=R.ext x2;have no:¬ bK ρ σ a:=λ⟨i,e,h1,h2⟩=>by
   obtain⟨b,q1,q2,_⟩:=R2.own i e h1;rw[h2]at q1;cases q1;exact q2 fa
  refine⟨a,ks.zip xs,rfl,?_⟩;rcases hr with hr | ⟨o,hr⟩
  ·refine .inl ⟨hr,λnf o=>?_⟩;have kf:=JV (Fz:=F2) (o:=o) hr;have R3:Rel X.K F2 ρ σ (upd H1 a (.aH o (.dK (ks.zip xs)))):=R2.freeze fa hr;refine Dk hg.mono hb.mono R3 (JZ hl fa bF (aj.mono kf (λ_ h=>h) _ _ hd) false λH2 hH=>?_) Iv h0 hstep ?_ hdone
   ·rcases hH with hH | ⟨_,hH⟩
    ·exact⟨hH _ _ bF,.of hH⟩
    ·exact⟨hH _ _ bF (.inr trivial),.mk' hH⟩
   ·have tr:∀ {F' H'},Step ρ σ F2 (upd H1 a (.aH o (.dK (ks.zip xs)))) F' H'->H' a=some (.aH o (.dK (ks.zip xs)))/\F' a/\Step ρ σ Fz H F' (oh a H'):=λ{F' H'} s'=>
     ⟨s'.keep _ _ bF no,s'.sub _ fa,(Step.of x2).trans (bB.refl ρ σ H) (s'.ji hr no)⟩
    have ow:∀ {ρ' σ'},bB ρ σ (upd H1 a (.aH o (.dK (ks.zip xs)))) ρ' σ'->bB ρ σ H ρ' σ':=λ{ρ' σ'} o' b hb=>by
     rcases o' b hb with z | z
     ·exact .inl z
     ·by_cases hba:b=a
      ·subst hba;rw[bF]at z;cases z
      ·rw[aO hba]at z;exact .inr (x2.same.free z)
    refine⟨λρ' q σ' F' H' s' o' R'=>?_,λe ke q v F' H' s' al' r'=>?_,λρ' q σ' F' H' s' o' R'=>?_,λρ' q σ' F' H' s' o' R'=>?_⟩
    ·obtain⟨t1,t2,t3⟩:=tr s';exact .inr ⟨a,nf,q σ' F' _ t3 (ow o') (R'.ji t2 t1)⟩
    ·obtain⟨t1,t2,t3⟩:=tr s';have kp:=JW (F':=F') t1;refine .inr ⟨a,nf,q v F' _ t3 (λb hb=>?_) ?_⟩
     ·rw[uN t1];by_cases hba:b=a
      ·subst hba;rw[bF];exact λz=>nomatch z
      ·rw[aO hba];exact al' b hb
     ·cases ke with
      | aH=>exact aq.mono kp (λ_ h=>h) _ _ r'
      | own j=>exact r'
      | new=>
       obtain⟨c,e,nfc,oc,w⟩:=r';have hca:c≠a:=λz=>by subst z;exact nfc t2
       refine⟨c,e,nfc,oc.mono kp (λ_ h=>h) (λw hw=>by rw[uN t1,aO hca];exact hw),?_⟩;rcases w with w | w
       ·exact .inl w
       ·rw[aO hca]at w;exact .inr (x2.same.free w)
    ·obtain⟨t1,t2,t3⟩:=tr s';exact .inr ⟨a,nf,q σ' F' _ t3 (ow o') (R'.ji t2 t1)⟩
    ·obtain⟨t1,t2,t3⟩:=tr s';exact .inr ⟨a,nf,q σ' F' _ t3 (ow o') (R'.ji t2 t1)⟩
  ·refine .inr ⟨o,hr,Dk hg.mono hb.mono R2 (JZ hl fa hr hd false λH2 hH=>?_) Iv h0 hstep ?_ hdone⟩
   ·rcases hH with hH | ⟨_,hH⟩
    ·exact⟨hH _ _ hr,.of hH⟩
    ·exact⟨hH _ _ hr (.inr trivial),.mk' hH⟩
   ·have le:=uH (K:=X.K) (D:=D) (Step.of x2) (bB.refl ρ σ H);exact⟨λρ' q σ' F' H' s' o' R'=>.inl (le.nx ρ' q σ' F' H' s' o' R'),λe ke q v F' H' s' al' r'=>.inl (le.rt e ke q v F' H' s' al' r'),λρ' q σ' F' H' s' o' R'=>.inl (le.bk ρ' q σ' F' H' s' o' R'),λρ' q σ' F' H' s' o' R'=>.inl (le.ct ρ' q σ' F' H' s' o' R')⟩
end
def fU {κ:Type} [DecidableEq κ] (ks:List κ)(ds:List PV)(k:κ):Option PV:=((ks.zip ds).find? λkv=>decide (kv.1=k)).map (·.2)
section
variable {K:Xc}{Fz:FZ}{H:Hp}
theorem uP {κ:Type} [DecidableEq κ]:∀(ks:List κ)(ds:List PV)(xs:List V)(k:κ),aj K Fz H ds xs->(∀d,fU ks ds k=some d->∃v,bf (ks.zip xs) k=some v/\aq K Fz H d v)/\(fU ks ds k=none->bf (ks.zip xs) k=none)
 | [],ds,xs,k,h=>⟨λd e=>by simp[fU]at e,λ_=>rfl⟩
 | c::ks,[],xs,k,h=>by
  simp only[aj]at h;subst h;exact⟨λd e=>by simp[fU]at e,λ_=>rfl⟩
 | c::ks,d0::ds,xs,k,h=>by
  simp only[aj]at h;obtain⟨v,r,rfl,h1,h2⟩:=h;have ih:=uP ks ds r k h2;by_cases e:c=k
  ·subst e;refine⟨λd hd=>⟨v,by simp[bf],?_⟩,λhn=>?_⟩
   ·have:d0=d:=by simpa[fU]using hd
    subst this;exact h1
   ·simp[fU]at hn
  ·refine⟨λd hd=>?_,λhn=>?_⟩
   ·have:fU ks ds k=some d:=by simpa[fU,Yq,e]using hd
    obtain⟨w,q1,q2⟩:=ih.1 d this;exact⟨w,by simpa[bf,Yq,e]using q1,q2⟩
   ·have:fU ks ds k=none:=by simpa[fU,Yq,e]using hn
    have:=ih.2 this;simpa[bf,Yq,e]using this
theorem zM {k:Key}{x:V}(h:aA K Fz H (dG k) x):x=kV k:=by
 cases k<;>simpa only[dG,kV,aA,aq]using h
theorem zso {x:V}(h:aA K Fz H (.dK ks ds) x):∃a xs,x=.ref a/\Rd H a (.dK (ks.zip xs))/\ks.length=xs.length/\aj K Fz H ds xs:=by
 simpa only[aA]using h
def DN (neg:Bool):R2:=λy x H Q=>∃a o,x=.ref a/\oW H a y o/\Q (.bl (if neg then !o.isSome else o.isSome)) H
def pDI (neg:Bool):P2:=λe d Q=>∃ks ds k,d=.dK ks ds/\e=dG k/\Q (.bl (if neg then !(fU ks ds k).isSome else(fU ks ds k).isSome)) .aH
theorem J0 {neg:Bool}:jB K (DN neg) (pDI neg) where
 mono d e Q Q' m h:=by obtain⟨ks,ds,k,e1,e2,q⟩:=h;exact⟨ks,ds,k,e1,e2,m _ _ q⟩
 run Fz H x y d e Q al rx ry h:=by
  obtain⟨ks,ds,k,rfl,rfl,q⟩:=h;obtain⟨a,xs,rfl,r,hl,hd⟩:=zso ry;obtain rfl:=zM rx;have e4:(bf (ks.zip xs) k).isSome=(fU ks ds k).isSome:=by
   cases e:fU ks ds k with
   | none=>rw[(uP ks ds xs k hd).2 e];rfl
   | some d'=>obtain⟨v,e5,_⟩:=(uP ks ds xs k hd).1 d' e;rw[e5];rfl
  refine⟨a,bf (ks.zip xs) k,rfl,.inl ⟨_,k,r,rfl,rfl⟩,?_⟩;rw[e4];exact q _ Fz H (.val al (by simp only[aq]))
end
theorem aj.mU {K:Xc}(ha:H a=some u)(hi:¬ nQ u)(nf:¬ Fz a)(h:aj K Fz H ds xs):aj K Fz (upd H a o) ds xs:=
 aj.mono (.mk' λb w e hw=>by
  have ne:b≠a:=λz=>by
   subst z;rcases hw with hw | hw
   ·exact nf hw
   ·rw[ha]at e;cases e;exact hi hw
  rw[aO ne];exact e) (λ_ h=>h) _ _ h
theorem DP {K:Xc}(R:Rel K Fz ρ σ H)(h:ρ[i]? = some (some (.dK ks ds,true))):∃a xs,σ[i]? = some (some (.ref a))/\H a=some (.dK (ks.zip xs))/\ks.length=xs.length/\aj K Fz H ds xs/\¬ Fz a:=by
 obtain⟨a,e,nf,xs,h1,h2,h3⟩:=R.own i _ h;exact⟨a,xs,e,h1,h2,h3,nf⟩
def zcw (i:Nat)(ti tv:aN):cN:=λρ O=>tv ρ λd k=>isOwn k=false/\∃ds,ρ[i]? = some (some (.lst ds,true))/\ti ρ λe _=>∃(j:Int)(n:Nat),e=.int j/\jo ds.length j=some n/\O.nx (ρ.set i (some (.lst (ds.set n d),true)))
theorem uQ {k:Kd}(hk:isOwn k=false):k=.aH\/k=.new:=by
 cases k with
 | aH=>exact .inl rfl
 | new=>exact .inr rfl
 | own j=>cases hk
section
variable {X:Cx}{x:Str}{ei ev:Expr}{ti tv:aN}{p pos pos':Pos}
theorem J1 (i:Nat)(hi:aD X ei ti)(hv:aD X ev tv)(hN:X.N[i]? = some x:=by rfl)(hvs:iZ X.env.scope x:=by first | exact Qo rfl | exact Qp (Qo rfl) | exact Qp (Qp rfl))(hd:(x == ("__debug__" : Str))=false:=by decide) (hcd:(x == ("__classdict__" : Str))=false:=by decide)
  (hs:swapsWithSole [.Subscript (.Name x p) ei pos'] ev pos.line X.env=pure false:=by rfl) (hw:swappedStores [.Subscript (.Name x p) ei pos'] ev X.env=pure none:=by rfl)
  (h1:(WS [.Subscript (.Name x p) ei pos'] X.env).map (·.2)=[assign (.Subscript (.Name x p) ei pos') X.env]:=by rfl)
  (ha:∀v,assign (.Subscript (.Name x p) ei pos') X.env v=(do
   let ov <- WZ [v] (Wx (.Name x p) X.env);let iv <- WZ [v,ov] (Wx ei X.env)
   standAt pos'
   WZ [v,ov,iv] (setItem ov iv v)
   release [v,ov,iv] []):=by intro _;rfl):jR X (.Assign [.Subscript (.Name x p) ei pos'] ev pos) (zcw i ti tv) where
 mono ρ O O' m h:=hv.mono ρ _ _ (λd k ⟨hk,ds,e1,h⟩=>⟨hk,ds,e1,hi.mono ρ _ _ (λe _ ⟨j,n,q1,q2,q⟩=>⟨j,n,q1,q2,m.nx _ q⟩) h⟩) h
 run:=PS.weak (Bo hv.run (Gw (jn hN hvs hd hcd) hi.run set_list ha) hs hw h1) λD σ H h=>by
  obtain⟨ρ,Fz,R,h⟩:=h;refine⟨ρ,Fz,R,hv.mono ρ _ _ (λd k q v F1 H1 p1=>?_) h⟩;obtain⟨hk,ds,e1,q⟩:=q;obtain⟨F2,x2,s2,d2⟩:=p1.frozen (uQ hk);have R2:=R.ext x2;obtain⟨a,xs,hs,ha,hd,nf⟩:=mR R2 e1;refine⟨_,hs,ρ,F2,R2,hi.mono ρ _ _ (λe ke q u F3 H3 p3=>?_) q⟩;obtain⟨j,n,rfl,q2,q⟩:=q;have R3:=R2.ext p3.ext;obtain⟨a',xs',hs',ha',hd',jF⟩:=mR R3 e1;rw[hs]at hs';cases hs';have hl:=hd'.length;refine⟨a,xs',j,n,rfl,kI (p3.root R2),ha',by rw[<- hl];exact q2,?_⟩;have ow:Own X.K F3 (upd H3 a (.lst (xs'.set n v))) (.lst (ds.set n d)) a:=⟨_,bF,(aj.qt ha' jF (aj.set n hd' (aq.mono (.of p3.ext.same) p3.ext.sub _ _ d2)))⟩;obtain⟨R4,s4,o4⟩:=R3.mut e1 hs ha' ow;have x3:=x2.trans p3.ext;exact q σ F3 _ ((Step.of x3).trans (bB.refl ρ σ H) s4) (bB.trans (Step.of x3) (bB.refl ρ σ H) o4) R4
end
def putD (ks:List Key)(ds:List PV)(k:Key)(d:PV):List PV:=(ks.zip ds).map λkv=>if kv.1=k then d else kv.2
theorem J2 {k:Key}:(ks.zip xs).map (λkv=>if kv.1=k then(kv.1,v) else kv)=ks.zip ((ks.zip xs).map λkv=>if kv.1=k then v else kv.2):=by
 induction ks generalizing xs with
 | nil=>rfl
 | cons c ks ih=>
  cases xs with
  | nil=>rfl
  | cons x xs=>
   simp only[YB,Xz,ih];by_cases e:c=k<;>simp[e]
theorem DQ {K:Xc}(k:Key)(hd:aq K Fz H d v):∀(ks:List Key)(ds:List PV)(xs:List V),aj K Fz H ds xs->aj K Fz H (putD ks ds k d) ((ks.zip xs).map λkv=>if kv.1=k then v else kv.2)
 | [],ds,xs,h=>aj.nil
 | c::ks,[],xs,h=>by simp only[aj]at h;subst h;exact aj.nil
 | c::ks,d0::ds,xs,h=>by
  simp only[aj]at h;obtain⟨w,r,rfl,h1,h2⟩:=h;have ih:=DQ k hd ks ds r h2;simp only[putD,YB,Xz]at ih ⊢;by_cases e:c=k
  ·rw[Qf e,Qf e];exact aj.cons hd ih
  ·rw[Qe e,Qe e];exact aj.cons h1 ih
def gw (ks:List Key)(c:Key):Bool:=ks.any λc'=>decide (c'=c)
def zcx (i:Nat)(ti tv:aN):cN:=λρ O=>tv ρ λd k=>isOwn k=false/\∃ks ds,ρ[i]? = some (some (.dK ks ds,true))/\ks.length<Wi/\ti ρ λe _=>∃c:Key,e=dG c/\
 O.nx (ρ.set i (some (if gw ks c=true then .dK ks (putD ks ds c d) else .dK (ks++[c]) (ds++[d]),true)))
theorem J3 {c:Key}(h:ks.length=xs.length):((ks.zip xs).any λkv=>decide (kv.1=c))=gw ks c:=by
 unfold gw;induction ks generalizing xs with
 | nil=>simp
 | cons d ks ih=>
  cases xs with
  | nil=>simp at h
  | cons x xs=>
   simp only[YB,List.any_cons,ih (by simpa using h)]
section
variable {X:Cx}{x:Str}{ei ev:Expr}{ti tv:aN}{p pos pos' apos cpos:Pos}
theorem znR (i:Nat)(hu:X.A.units+1<WG)(hi:aD X ei ti)(hv:aD X ev tv)(hN:X.N[i]? = some x:=by rfl)(hvs:iZ X.env.scope x:=by first | exact Qo rfl | exact Qp (Qo rfl) | exact Qp (Qp rfl))(hd:(x == ("__debug__" : Str))=false:=by decide) (hcd:(x == ("__classdict__" : Str))=false:=by decide)
  (hs:WE ev (some (.Subscript (.Name x p) ei pos')) pos.line X.env=pure false:=by rfl):jR X (.Assign [.Subscript (.Name x p) ei pos'] ev pos) (zcx i ti tv) where
 mono ρ O O' m h:=hv.mono ρ _ _ (λd k ⟨hk,ks,ds,e1,e2,h⟩=>⟨hk,ks,ds,e1,e2,hi.mono ρ _ _ (λe _ ⟨c,q1,q⟩=>⟨c,q1,m.nx _ q⟩) h⟩) h
 run:=PS.weak (Ck hu (jn hN hvs hd hcd) hi.run hv.run hs) λD σ H h=>by
  obtain⟨ρ,Fz,R,h⟩:=h;refine⟨ρ,Fz,R,hv.mono ρ _ _ (λd k q v F1 H1 p1=>?_) h⟩;obtain⟨hk,ks,ds,e1,e2,q⟩:=q;obtain⟨F2,x2,s2,d2⟩:=p1.frozen (uQ hk);have R2:=R.ext x2;obtain⟨a,xs,hs,ha,_,hd,nf⟩:=DP R2 e1;refine⟨_,hs,ρ,F2,R2,hi.mono ρ _ _ (λe ke q u F3 H3 p3=>?_) q⟩;obtain⟨c,rfl,q⟩:=q;have R3:=R2.ext p3.ext;obtain⟨a',xs',hs',ha',hl',hd',jF⟩:=DP R3 e1;rw[hs]at hs';cases hs';obtain rfl:=zM (p3.root R2);refine⟨a,_,rfl,jA.k ha' (by rw[QK];lia),?_⟩;have d3:=aq.mono (.of p3.ext.same) p3.ext.sub _ _ d2;have x3:=x2.trans p3.ext;have ow:Own X.K F3 (upd H3 a (.dK (putK (ks.zip xs') c v))) (if gw ks c=true then .dK ks (putD ks ds c d) else .dK (ks++[c]) (ds++[d])) a:=by
   unfold putK;rw[J3 hl'];by_cases hc:gw ks c=true
   ·rw[Qf hc,Qf hc,J2];exact⟨_,bF,by simp[hl'],aj.mU ha' (λz=>z) jF (DQ c d3 ks ds xs' hd')⟩
   ·rw[Qe hc,Qe hc];refine⟨xs'++[v],?_,by simp[hl'],aj.mU ha' (λz=>z) jF (aj.snoc hd' d3)⟩;rw[bF,O3 hl'];rfl
  obtain⟨R4,s4,o4⟩:=R3.mut e1 hs ha' ow;exact q σ F3 _ ((Step.of x3).trans (bB.refl ρ σ H) s4) (bB.trans (Step.of x3) (bB.refl ρ σ H) o4) R4
end
theorem DR:Wt "all" = some (.builtin "all"):=by decide +kernel
section
variable {X:Cx}
theorem znS (hc:X.calm=true):j5 X (.builtin "all") (λxs H Q=>∃(p:We) (bs:List Bool),xs=[V.ref p]/\aR X.K H p (bs.map V.bl)/\Q (.bl (bs.all id)) H):=by
 intro pins s σ H xs us Q I r h;obtain⟨p,bs,rfl,hq,q⟩:=h;obtain⟨u,rfl,rx⟩:=vals1 r;cases rx;obtain⟨its,r',pl,hz⟩:=I.list hq;have hL:=pl.isList;have hpl:p<s.heap.objs.size:=by obtain⟨_,x,_⟩:=hL;exact XC x
 have hlen:its.length=bs.length:=by rw[<- r'.length];simp
 refine call_all_walk (W6 hL ?_);refine⟨_,[_,p],[_],_,_,_,λi=>bs.getD i true,rfl,Walks.list (A:=X.A.in1) (I.ok.hd hc) _ p (XM hpl) its.toArray,⟨⟨_,XA _ rfl,rfl,rfl⟩,hL.push _⟩,?_,λh' tk hk=>?_⟩
 ·intro i v s' Q' E' hP hQ;have hv:its[i]? = some v:=by simpa using hP
  have hi:i<bs.length:=by rw[<- hlen];exact(Xf.mp hv).1
  obtain⟨v',hv',rv⟩:=r'.get (i:=i) (x:=.bl bs[i]) (by simp[hi]);rw[hv]at hv';cases hv';cases rv;refine WR ?_;have:bs.getD i true=bs[i]:=by rw[Xd,Xa hi];rfl
  rw[<- this];exact hQ
 ·refine⟨.bl (bs.all id),H,I.kept (t':=tk) (λb o x=>hk b o ?_ (Xn _ x)),?_,q⟩
  ·have:=XC x;simp;exact XM this
  ·have:(Yj its.toArray.size).all (λi=>bs.getD i true)=bs.all id:=by
    rw[Xo,hlen];rw[Q5,XV,XV];constructor
    ·intro h x hx;obtain⟨i,hi,e⟩:=Yr hx;have:=h i (List.mem_range.mpr hi);rw[Xd,Xa hi]at this;simpa[<- e]using this
    ·intro h i hi;have hi:=List.mem_range.mp hi;rw[Xd,Xa hi];simpa using h _ (XY hi)
   show RelV _ _;rw[this];rfl
theorem J4 {K:Xc}:∀ {bs:List Bool}{xs:List V},aj K Fz H (bs.map PV.bl) xs->xs=bs.map V.bl
 | [],xs,h=>by simpa only[Yl,aj]using h
 | b::bs,xs,h=>by
  simp only[Yl,aj,aq]at h;obtain⟨v,r,rfl,rfl,h⟩:=h;rw[J4 h];rfl
def fAll:PF:=λds Q=>∃bs:List Bool,ds=[.lst (bs.map PV.bl)]/\Q (.bl (bs.all id)) .aH
theorem zuE:nR X.K (λxs H Q=>∃(p:We)(bs:List Bool),xs=[V.ref p]/\aR X.K H p (bs.map V.bl)/\Q (.bl (bs.all id)) H) fAll where
 mono ds Q Q' m h:=by obtain⟨bs,e,q⟩:=h;exact⟨bs,e,m _ _ q⟩
 run Fz H ds vs Q al hr h:=by
  obtain⟨bs,rfl,q⟩:=h;obtain⟨v,rfl,h1⟩:=qu hr;obtain⟨a,xs,rfl,h2,h3⟩:=dB h1;rw[J4 h3]at h2;exact⟨a,bs,rfl,h2,q _ Fz H (.val al (by simp only[aq]))⟩
variable {e:Expr}{es:List Expr}{t:gO}{p pos:Pos}
theorem zuF (hc:X.calm=true)(hg:Gl X "all") (hm:X.mg "all" = none) (ha:iR X (e::es) t) (he:Wf (e::es) X.env=(false,Wx e X.env)::Wf es X.env:=by rfl) (hpl:(Wu pos (Wf es X.env)).any (·.1)=false:=by rfl):aD X (.Call (.Name "all" p) (e::es) [] pos) (tB fAll t):=
 uG (znS hc) zuE hg hm DR ha (by decide) (by decide) he hpl
end
theorem hu1 {A:Wv}(h:A.units+16<WG):A.units+1<WG:=by lia
abbrev PFM:=PV->List PV->(PV->PV->Prop)->Prop
structure uR where
 nx:au->Prop
 rt:au->Prop
structure uR.le (O O':uR):Prop where
 nx:∀ρ,O.nx ρ->O'.nx ρ
 rt:∀ρ,O.rt ρ->O'.rt ρ
abbrev TPF:=au->uR->Prop
inductive BX where
 | L (ds:List PV)
 | K (ks:List Key) (ds:List PV)
 | T (ks:List (List Key)) (ds:List PV)
def BX.xZ:BX->List PV
 | .L ds=>ds
 | .K _ ds=>ds
 | .T _ ds=>ds
def BX.pv:BX->PV
 | .L ds=>.lst ds
 | .K ks ds=>.dK ks ds
 | .T ks ds=>.dT ks ds
def BX.ok:BX->Prop
 | .L _=>True
 | .K ks ds=>ks.length=ds.length
 | .T ks ds=>ks.length=ds.length
def BX.obj:BX->Tr->HO
 | .L _,bs=>.lst (bs.map V.ref)
 | .K ks _,bs=>.dK (ks.zip (bs.map V.ref))
 | .T ks _,bs=>.dT (ks.zip (bs.map V.ref))
def aG (K:Xc)(Fz:FZ)(H:Hp):List PV->Tr->Prop
 | [],bs=>bs=[]
 | d::ds,bs=>∃b r,bs=b::r/\Own K Fz H d b/\aG K Fz H ds r
theorem aG.length {K:Xc}:∀ {ds:List PV}{bs:Tr},aG K Fz H ds bs->ds.length=bs.length
 | [],bs,h=>by unfold aG at h;subst h;rfl
 | d::ds,bs,h=>by
  unfold aG at h;obtain⟨b,r,rfl,_,h⟩:=h;simp[aG.length h]
theorem aG.mono {K:Xc}(k:Keep Fz H H')(s:∀b,Fz b->ao b):∀ {ds:List PV}{bs:Tr},(∀b∈bs,∀o,H b=some o->H' b=some o)->aG K Fz H ds bs->aG K ao H' ds bs
 | [],bs,ha,h=>by unfold aG at h ⊢;exact h
 | d::ds,bs,ha,h=>by
  unfold aG at h ⊢;obtain⟨b,r,rfl,h1,h⟩:=h;exact⟨b,r,rfl,h1.mono k s (ha b (Xg ..)),aG.mono k s (λc hc=>ha c (Xi _ hc)) h⟩
theorem aG.get {K:Xc}:∀ {ds:List PV}{bs:Tr}{j:Nat}{d:PV},aG K Fz H ds bs->ds[j]? = some d->∃b,bs[j]? = some b/\Own K Fz H d b
 | [],bs,j,d,h,e=>by simp at e
 | d0::ds,bs,j,d,h,e=>by
  unfold aG at h;obtain⟨b,r,rfl,h1,h⟩:=h;cases j with
  | zero=>rw[List.getElem?_cons_zero]at e;cases e;exact⟨b,rfl,h1⟩
  | succ j=>rw[List.getElem?_cons_succ]at e ⊢;exact aG.get h e
theorem aG.has {K:Xc}:∀ {ds:List PV}{bs:Tr}{b:We},aG K Fz H ds bs->b∈bs->∃o,H b=some o/\¬ nQ o
 | [],bs,b,h,e=>by unfold aG at h;subst h;cases e
 | d::ds,bs,b,h,e=>by
  unfold aG at h;obtain⟨b0,r,rfl,h1,h⟩:=h;rcases Xx.mp e with rfl | e
  ·exact h1.at
  ·exact aG.has h e
theorem aG.den {K:Xc}:∀ {ds:List PV}{bs:Tr},aG K Fz H ds bs->(∀b∈bs,Fz b)->aj K Fz H ds (bs.map V.ref)
 | [],bs,h,_=>by unfold aG at h;subst h;exact aj.nil
 | d::ds,bs,h,f=>by
  unfold aG at h;obtain⟨b,r,rfl,h1,h⟩:=h;exact aj.cons (h1.den (f b (Xg ..))) (aG.den h λc hc=>f c (Xi _ hc))
theorem aG.put {K:Xc}(hu:H b=some u)(im:¬ nQ u)(nf:¬ Fz b)(hb:Own K Fz (upd H b o) d b):∀ {ds:List PV}{bs:Tr}{j:Nat},aG K Fz H ds bs->bs.Nodup->bs[j]? = some b->aG K Fz (upd H b o) (ds.set j d) bs
 | [],bs,j,h,_,e=>by unfold aG at h;subst h;simp at e
 | d0::ds,bs,j,h,nd,e=>by
  have kp:Keep Fz H (upd H b o):=.mk' λc w e9 hw=>by
   have ne:c≠b:=λz=>by
    subst z;rcases hw with hw | hw
    ·exact nf hw
    ·rw[hu]at e9;cases e9;exact im hw
   rw[aO ne];exact e9
  unfold aG at h;obtain⟨b0,r,rfl,h1,h⟩:=h;rw[XI]at nd;cases j with
  | zero=>
   rw[List.getElem?_cons_zero]at e;cases e;rw[List.set_cons_zero];unfold aG;refine⟨b,r,rfl,hb,h.mono kp (λ_ h=>h) λc hc w hw=>?_⟩;have ne:c≠b:=λz=>nd.1 (by rw[<- z];exact hc);rw[aO ne];exact hw
  | succ j=>
   rw[List.getElem?_cons_succ]at e;rw[List.set_cons_succ];have ne:b0≠b:=λz=>nd.1 (z▸Xl e);unfold aG;exact⟨b0,r,rfl,h1.mono kp (λ_ h=>h) λw hw=>(by rw[aO ne];exact hw),aG.put hu im nf hb h nd.2 e⟩
theorem aG.snoc {K:Xc}(hb:Own K Fz H d b):∀ {ds:List PV}{bs:Tr},aG K Fz H ds bs->aG K Fz H (ds++[d]) (bs++[b])
 | [],bs,h=>by
  unfold aG at h;subst h;show aG K Fz H [d] [b];unfold aG;exact⟨b,[],rfl,hb,by unfold aG;rfl⟩
 | d0::ds,bs,h=>by
  unfold aG at h;obtain⟨b0,r,rfl,h1,h⟩:=h;show aG K Fz H (d0::(ds++[d])) (b0::(r++[b]));unfold aG;exact⟨b0,_,rfl,h1,aG.snoc hb h⟩
structure mV (K:Xc)(Fz:FZ)(H:Hp)(β:BX)(a:We)(bs:Tr):Prop where
 at_:H a=some (β.obj bs)
 ok:β.ok
 own:aG K Fz H β.xZ bs
 nd:(a::bs).Nodup
 nf:∀b∈a::bs,¬ Fz b
theorem BX.nim (β:BX)(bs:Tr):¬ nQ (β.obj bs):=by cases β<;>exact λz=>z
theorem mV.has {K:Xc}(B:mV K Fz H β a bs)(h:b∈a::bs):∃o,H b=some o/\¬ nQ o:=by
 rcases Xx.mp h with rfl | h
 ·exact⟨_,B.at_,β.nim bs⟩
 ·exact B.own.has h
theorem mV.keep {K:Xc}(B:mV K Fz H β a bs)(k:Keep Fz H H')(s:∀b,Fz b->ao b)(ha:∀b∈a::bs,∀o,H b=some o->H' b=some o)(nf:∀b∈a::bs,¬ ao b):mV K ao H' β a bs:=
 ⟨ha a (Xg ..) _ B.at_,B.ok,B.own.mono k s λb hb=>ha b (Xi _ hb),B.nd,nf⟩
theorem mV.ext {K:Xc}(B:mV K Fz H β a bs)(x:Ext Fz H ao H'):mV K ao H' β a bs:=
 B.keep (.of x.same) x.sub (λb _ o e=>x.same b o e) λb hb z=>by
  obtain⟨o,e,_⟩:=B.has hb;rcases x.new b z with z | z
  ·exact B.nf b hb z
  ·rw[e]at z;cases z
structure bM (K:Xc)(Fz:FZ)(ρ:au)(β:BX)(σ:St)(H:Hp)(z:Nat)(a:We)(bs:Tr):Prop where
 rel:Rel K Fz ρ σ H
 hz:ρ[z]? = some none
 sz:σ[z]? = some (some (.ref a))
 box:mV K Fz H β a bs
 no:∀b∈a::bs,¬ bK ρ σ b
theorem bM.ext {K:Xc}(R:bM K Fz ρ β σ H z a bs)(x:Ext Fz H ao H'):bM K ao ρ β σ H' z a bs:=
 ⟨R.rel.ext x,R.hz,R.sz,R.box.ext x,R.no⟩
structure cR (O:We->Prop)(Fz:FZ)(H:Hp)(ao:FZ)(H':Hp):Prop where
 sub:∀b,Fz b->ao b
 new:∀b,ao b->Fz b\/H b=none\/O b
 keep:∀b o,H b=some o->¬ O b->H' b=some o
def cI (O:We->Prop)(H:Hp)(O':We->Prop):Prop:=∀b,O' b->O b\/H b=none
theorem cR.of (x:Ext Fz H ao H'):cR O Fz H ao H':=
 ⟨x.sub,λb h=>(x.new b h).elim .inl (λh=>.inr (.inl h)),λb o e _=>x.same b o e⟩
theorem cR.none (s:cR O Fz H ao H')(h:H' b=Option.none):H b=Option.none\/O b:=by
 by_cases o:O b
 ·exact .inr o
 ·cases e:H b with
  | none=>exact .inl rfl
  | some u=>rw[s.keep b u e o]at h;cases h
theorem cR.trans {F3:FZ}{H3:Hp}(a:cR O F1 H1 F2 H2)(oi:cI O H1 O')(b:cR O' F2 H2 F3 H3):cR O F1 H1 F3 H3:=
 ⟨λc h=>b.sub c (a.sub c h),λc h=>by
  rcases b.new c h with h | h | h
  ·exact a.new c h
  ·exact .inr (a.none h)
  ·exact .inr ((oi c h).symm),λc o e n=>by
  refine b.keep c o (a.keep c o e n) λz=>?_;rcases oi c z with z | z
  ·exact n z
  ·rw[e]at z;cases z⟩
theorem cI.trans {O'':We->Prop}(a:cR O F1 H1 F2 H2)(oi:cI O H1 O')(oj:cI O' H2 O''):cI O H1 O'':=λc h=>by
 rcases oj c h with h | h
 ·exact oi c h
 ·exact(a.none h).symm
theorem cI.refl:cI O H O:=λ_ h=>.inl h
def OB (ρ:au)(σ:St)(A:Tr):We->Prop:=λb=>bK ρ σ b\/b∈A
structure gA where
 nx:au->BX->Prop
 rt:PV->Kd->Prop
 bk:au->BX->Prop
 ct:au->BX->Prop
structure gA.le (O O':gA):Prop where
 nx:∀ρ β,O.nx ρ β->O'.nx ρ β
 rt:∀d k,O.rt d k->O'.rt d k
 bk:∀ρ β,O.bk ρ β->O'.bk ρ β
 ct:∀ρ β,O.ct ρ β->O'.ct ρ β
abbrev dN:=au->BX->gA->Prop
def lH (t:dN)(O:gA)(ρ:au)(β:BX):Prop:=t ρ β O
theorem J5 {t:dN}{O:gA}(h:t ρ β O):lH t O ρ β:=h
def rC (K:Xc)(O:We->Prop)(H:Hp)(ao:FZ)(H':Hp)(d:PV):Kd->V->Prop
 | .aH,v=>aq K ao H' d v
 | .new,v=>∃a,v=.ref a/\¬ ao a/\Own K ao H' d a/\(O a\/H a=none)
 | .own _,_=>False
theorem rC.back {K:Xc}{k:Kd}(s:cR O F1 H1 F2 H2)(oi:cI O H1 O')(r:rC K O' H2 ao H' d k v):rC K O H1 ao H' d k v:=by
 cases k with
 | aH=>exact r
 | own i=>exact r
 | new=>
  obtain⟨a,e,nf,o,w⟩:=r;refine⟨a,e,nf,o,?_⟩;rcases w with w | w
  ·exact oi a w
  ·exact(s.none w).symm
def DW (K:Xc)(z:Nat)(E:St->Hp->Prop)(O:We->Prop)(Fz:FZ)(H:Hp)(ρ':au)(β':BX):Prop:=
 ∀σ' ao H' a' bs',cR O Fz H ao H'->cI O H (OB ρ' σ' (a'::bs'))->bM K ao ρ' β' σ' H' z a' bs'->E σ' H'
def ir (K:Xc)(z:Nat)(D:Ends)(O:We->Prop)(Fz:FZ)(H:Hp):gA where
 nx:=DW K z D.nx O Fz H
 bk:=DW K z D.bk O Fz H
 ct:=DW K z D.ct O Fz H
 rt:=λd k=>∀v ao H',cR O Fz H ao H'->(∀b,ao b->H' b≠none)->rC K O H ao H' d k v->D.rt v H'
def DX (K:Xc)(z:Nat)(t:dN):TS:=λD σ H=>∃ρ Fz β a bs,bM K Fz ρ β σ H z a bs/\t ρ β (ir K z D (OB ρ σ (a::bs)) Fz H)
structure jH (X:Cx)(z:Nat)(st:WJ)(t:dN):Prop where
 mono:∀ρ β O O',gA.le O O'->t ρ β O->t ρ β O'
 run:PS X st (DX X.K z t)
structure ou (X:Cx)(z:Nat)(st:List WJ)(t:dN):Prop where
 mono:∀ρ β O O',gA.le O O'->t ρ β O->t ρ β O'
 run:dh X st (DX X.K z t)
theorem zsq {K:Xc}{D D':Ends}(s:cR O Fz H ao H')(oi:cI O H O')(h1:∀σ H,D.nx σ H->D'.nx σ H)(h2:∀v H,D.rt v H->D'.rt v H)(h3:∀σ H,D.bk σ H->D'.bk σ H)(h4:∀σ H,D.ct σ H->D'.ct σ H) :
  (ir K z D O Fz H).le (ir K z D' O' ao H') where
 nx ρ2 β2 q σ2 F2 H2 a2 oA s2 o2 R2:=h1 _ _ (q σ2 F2 H2 a2 oA (s.trans oi s2) (cI.trans s oi o2) R2)
 bk ρ2 β2 q σ2 F2 H2 a2 oA s2 o2 R2:=h3 _ _ (q σ2 F2 H2 a2 oA (s.trans oi s2) (cI.trans s oi o2) R2)
 ct ρ2 β2 q σ2 F2 H2 a2 oA s2 o2 R2:=h4 _ _ (q σ2 F2 H2 a2 oA (s.trans oi s2) (cI.trans s oi o2) R2)
 rt d k q v F2 H2 s2 al r:=h2 _ _ (q v F2 H2 (s.trans oi s2) al (r.back s oi))
theorem zN {K:Xc}{D:Ends}(s:cR O Fz H ao H')(oi:cI O H O'):(ir K z D O Fz H).le (ir K z D O' ao H'):=
 zsq s oi (λ_ _ h=>h) (λ_ _ h=>h) (λ_ _ h=>h) (λ_ _ h=>h)
theorem cR.stay {K:Xc}(R:Rel K Fz ρ σ H):cR O Fz H Fz H:=.of ⟨Same.refl H,λ_ h=>h,λ_ h=>.inl h,R.al⟩
theorem bM.frozen {K:Xc}(R:bM K Fz ρ β σ H z a bs):Rel K (λb=>Fz b\/b∈a::bs) (ρ.set z (some (β.pv,false))) σ H:=by
 have hz:z<ρ.length:=(Xf.mp R.hz).1;have hd:aq K (λb=>Fz b\/b∈a::bs) H β.pv (.ref a):=by
  have hl:=R.box.own.length;have hok:=R.box.ok;have ow:=(R.box.own.mono (ao:=λb=>Fz b\/b∈a::bs) (Keep.of (Same.refl H)) (λ_ h=>.inl h) (λ_ _ _ h=>h)).den λb hb=>.inr (Xi _ hb);have hat:=R.box.at_;cases β with
  | L ds=>show aq _ _ _ (.lst ds) _;simp only[aq];exact⟨a,_,rfl,.inl ⟨.inr (Xg ..),.inl hat⟩,ow⟩
  | K ks ds=>show aq _ _ _ (.dK ks ds) _;simp only[aq];exact⟨a,_,rfl,.inr (Xg ..),.inl hat,by rw[Xb,<- hl];exact hok,ow⟩
  | T ks ds=>show aq _ _ _ (.dT ks ds) _;simp only[aq];exact⟨a,_,rfl,.inr (Xg ..),.inl hat,by rw[Xb,<- hl];exact hok,ow⟩
 refine⟨λb hb=>?_,by rw[Yb];exact R.rel.len,λj e he=>?_,λj e he=>?_,λj k d' e' b h1 h2 h3 h4=>?_⟩
 ·rcases hb with hb | hb
  ·exact R.rel.al b hb
  ·obtain⟨o,e,_⟩:=R.box.has hb;rw[e];exact λz=>nomatch z
 ·by_cases hj:z=j
  ·subst hj;rw[Xm hz]at he;cases he;exact⟨_,R.sz,hd⟩
  ·rw[Xk hj]at he;obtain⟨v,q1,q2⟩:=R.rel.aH j e he;exact⟨v,q1,aq.mono (Keep.of (Same.refl _)) (λ_ h=>.inl h) _ _ q2⟩
 ·have hj:z≠j:=λy=>by
   subst y;rw[Xm hz]at he;cases he
  rw[Xk hj]at he;obtain⟨b,q1,q2,q3⟩:=R.rel.own j e he;refine⟨b,q1,λy=>?_,q3.mono (Keep.of (Same.refl _)) (λ_ h=>.inl h) (λ_ h=>h)⟩;rcases y with y | y
  ·exact q2 y
  ·exact R.no b y ⟨j,e,he,q1⟩
 ·have nj:z≠j:=λy=>by subst y;rw[Xm hz]at h1;cases h1
  have nk:z≠k:=λy=>by subst y;rw[Xm hz]at h2;cases h2
  rw[Xk nj]at h1;rw[Xk nk]at h2;exact R.rel.inj j k d' e' b h1 h2 h3 h4
theorem DY:∀b,bK (ρ.set z (some (d,false))) σ b->bK ρ σ b:=λb ⟨j,e,h1,h2⟩=>by
 have nj:z≠j:=λy=>by
  subst y;by_cases hi:z<ρ.length
  ·rw[Xm hi]at h1;cases h1
  ·rw[XG (by lia),XD (by lia)]at h1;cases h1
 rw[Xk nj]at h1;exact⟨j,e,h1,h2⟩
def rdE (z:Nat)(te:aN)(ρ:au)(β:BX)(Q:PV->Prop):Prop:=te (ρ.set z (some (β.pv,false))) λd k=>k=.aH/\zcf d=true/\Q d
def rdT (z:Nat)(tc:cY)(ρ:au)(β:BX)(Q:Bool->Prop):Prop:=tc (ρ.set z (some (β.pv,false))) Q
theorem uT {X:Cx}{e:Expr}{te:aN}(he:aD X e te){Fz:FZ}{ρ:au}{β:BX}{σ:St}{H:Hp}{z:Nat}{a:We}{bs:Tr}(R:bM X.K Fz ρ β σ H z a bs){Q:PV->Prop}{W:V->Hp->Prop}
  (h:rdE z te ρ β Q) (hw:∀d v H',Q d->zcf d=true->Ext Fz H Fz H'->aq X.K Fz H' d v->W v H'):lift X.K te σ H W:=by
 refine⟨_,_,R.frozen,he.mono _ _ _ (λd k q v ao H' p=>?_) h⟩;obtain⟨rfl,nm,q⟩:=q;refine hw d v H' q nm ⟨p.ext.same,λ_ h=>h,λ_ h=>.inl h,λb hb y=>R.rel.al b hb (p.ext.same.free y)⟩ (Dj d v nm p.gm)
theorem J6 {X:Cx}{c:Expr}{tc:cY}(hc:gq X c tc){Fz:FZ}{ρ:au}{β:BX}{σ:St}{H:Hp}{z:Nat}{a:We}{bs:Tr}(R:bM X.K Fz ρ β σ H z a bs){Q:Bool->Prop}{W:Bool->Hp->Prop}
  (h:rdT z tc ρ β Q) (hw:∀b H',Q b->Ext Fz H Fz H'->W b H'):liftT X.K tc σ H W:=by
 refine⟨_,_,R.frozen,hc.mono _ _ _ (λb q ao H' x=>?_) h⟩;exact hw b H' q ⟨x.same,λ_ h=>h,λ_ h=>.inl h,λb hb y=>R.rel.al b hb (x.same.free y)⟩
section
variable {X:Cx}{z:Nat}{st:WJ}{rest a b body:List WJ}{t u:dN}{e c:Expr}{te:aN}{tc:cY}{pos pos' p:Pos}{x:Str}
def zbU:dN:=λρ β O=>O.nx ρ β
def zcR (t u:dN):dN:=λρ β O=>t ρ β { O with nx:=lH u O }
theorem zO:ou X z [] zbU where
 mono ρ β O O' m h:=m.nx _ _ h
 run:=dh.weak Bd λD σ H h=>by
  obtain⟨ρ,Fz,β,a,bs,R,h⟩:=h;exact h σ Fz H a bs (cR.stay R.rel) cI.refl R
theorem uU (h1:jH X z st t):ou X z [st] t:=⟨h1.mono,wL h1.run⟩
theorem vX (h1:jH X z st t)(h2:ou X z rest u):ou X z (st::rest) (zcR t u) where
 mono ρ β O O' m h:=h1.mono ρ β { O with nx:=λρ' β'=>u ρ' β' O } _ ⟨λρ' β' q=>h2.mono ρ' β' O O' m q,m.rt,m.bk,m.ct⟩ h
 run:=dh.weak (nJ h1.run h2.run) λD σ H h=>by
  obtain⟨ρ,Fz,β,a,bs,R,h⟩:=h;refine⟨ρ,Fz,β,a,bs,R,h1.mono ρ β { ir X.K z D (OB ρ σ (a::bs)) Fz H with nx:=λρ' β'=>u ρ' β' (ir X.K z D (OB ρ σ (a::bs)) Fz H) } _ ⟨λρ' β' q=>?_,λ_ _ q=>q,λ_ _ q=>q,λ_ _ q=>q⟩ h⟩;intro σ' ao H' a' bs' s oi R';exact⟨ρ',ao,β',a',bs',R',h2.mono ρ' β' _ _ (zN s oi) q⟩
def bxIf (tc:cY)(t u:dN)(z:Nat):dN:=λρ β O=>rdT z tc ρ β λb=>if b=true then lH t O ρ β else lH u O ρ β
theorem Ea (hc:gq X c tc)(ha:ou X z a t)(hb:ou X z b u):jH X z (.If c a b pos) (bxIf tc t u z) where
 mono ρ β O O' m h:=hc.mono _ _ _ (λb q=>by
  cases b with
  | true=>rw[Qf rfl]at q ⊢;exact ha.mono ρ β _ _ m q
  | false=>rw[Qe Xw]at q ⊢;exact hb.mono ρ β _ _ m q) h
 run:=PS.weak (Bh hc.run ha.run hb.run) λD σ H h=>by
  obtain⟨ρ,Fz,β,a,bs,R,h⟩:=h;refine J6 hc R h λb H' q x=>?_;have le:=zN (K:=X.K) (z:=z) (D:=D) (O:=OB ρ σ (a::bs)) (.of x) cI.refl;cases b with
  | true=>rw[Qf rfl]at q;exact oX ⟨ρ,Fz,β,a,bs,R.ext x,ha.mono ρ β _ _ le q⟩
  | false=>rw[Qe Xw]at q;exact qP ⟨ρ,Fz,β,a,bs,R.ext x,hb.mono ρ β _ _ le q⟩
def zdZ (i z:Nat)(te:aN):dN:=λρ β O=>rdE z te ρ β λd=>O.nx (ρ.set i (some (d,false))) β
theorem bM.set {K:Xc}{z:Nat}{a:We}(R:bM K Fz ρ β σ H z a bs)(h:aq K Fz H d v)(hi:i≠z):bM K Fz (ρ.set i (some (d,false))) β (σ.set i (some v)) H z a bs:=
 ⟨R.rel.set h,by rw[Xk hi];exact R.hz,by rw[Xk hi];exact R.sz,R.box,λb hb y=>R.no b hb (uI b y)⟩
theorem OB.set {A:Tr}:cI (OB ρ σ A) H (OB (ρ.set i (some (d,false))) (σ.set i (some v)) A):=λb hb=>by
 rcases hb with hb | hb
 ·exact .inl (.inl (uI b hb))
 ·exact .inl (.inr hb)
theorem Eb (hN:X.N.Nodup)(hi:X.N[i]? = some x)(hx:Loc X.env.scope x)(he:aD X e te)(hiz:i≠z:=by decide)(hs:WE e (some (.Name x pos')) pos.line X.env=pure false:=by rfl)(hf:X.fn x=true\/X.env.scope.names.lookup x=some .local:=by first | exact .inl rfl | exact .inr rfl | assumption) :
  jH X z (.Assign [.Name x pos'] e pos) (zdZ i z te) where
 mono ρ β O O' m h:=he.mono _ _ _ (λd k ⟨e1,e2,q⟩=>⟨e1,e2,m.nx _ _ q⟩) h
 run:=PS.weak (ur hN hi hx he.run hs hf) λD σ H h=>by
  obtain⟨ρ,Fz,β,a,bs,R,h⟩:=h;refine uT he R h λd v H' q nm x dv=>?_;exact q (σ.set i (some v)) Fz H' a bs (.of x) OB.set ((R.ext x).set dv hiz)
def zdw (ti:je)(i:Nat)(tb:dN):dN:=λρ β O=>ti ρ λits o=>o=false/\∃Iv:Nat->au->BX->Prop,Iv 0 ρ β/\(∀k d ρ' β',its[k]? = some d->Iv k ρ' β'->lH tb { O with nx:=Iv (k+1),ct:=Iv (k+1),bk:=O.nx } (ρ'.set i (some (d,false))) β')/\∀ρ' β',Iv its.length ρ' β'->O.nx ρ' β'
theorem yc {i:Nat}{iter:Expr}{ti:je}(hN:X.N.Nodup)(hi:X.N[i]? = some x)(hx:Loc X.env.scope x)(hc:X.calm=true)(hp:PassesOwn (Wm X.prog X.w) X.A X.env X.xe)(hit:lF X (.Name x p) iter ti)(hb:ou X z body t)(hiz:i≠z:=by decide)
  (hf:X.fn x=true\/X.env.scope.names.lookup x=some .local:=by first | exact .inl rfl | exact .inr rfl | assumption) (hs:∀x,WD iter X.env x=pure x:=by intro _;rfl):jH X z (.For (.Name x p) iter body [] pos) (zdw ti i t) where
 mono ρ β O O' m h:=hit.mono ρ _ _ (λits o ⟨e,I,h0,hs,hd⟩=>⟨e,I,h0,λk d ρ' β' hk hI=>hb.mono _ _ { O with nx:=I (k+1),ct:=I (k+1),bk:=O.nx } _ ⟨λ_ _ q=>q,m.rt,m.nx,λ_ _ q=>q⟩ (hs k d ρ' β' hk hI),λρ' β' hI=>m.nx _ _ (hd ρ' β' hI)⟩) h
 run:=PS.weak (yO hp hc hit.run (yL hN hi hx hf) hb.run hs) λD σ H h=>by
  obtain⟨ρ,Fz,β,a,bs,R,h⟩:=h;refine⟨ρ,Fz,R.rel,hit.mono ρ _ _ (λits o q J aX H1 x wk=>?_) h⟩;obtain⟨rfl,Iv,h0,hstep,hdone⟩:=q;have R1:=R.ext x;have le:=zN (K:=X.K) (z:=z) (D:=D) (O:=OB ρ σ (a::bs)) (.of x) cI.refl;refine⟨λi m σ' H'=>m=its.length-i/\i<=its.length/\∃ρ' F' β' a' bs',bM X.K F' ρ' β' σ' H' z a' bs'/\Iv i ρ' β'/\cR (OB ρ σ (a::bs)) aX H1 F' H'/\cI (OB ρ σ (a::bs)) H1 (OB ρ' σ' (a'::bs')),
   ⟨its.length,by lia,Ye _,ρ,aX,β,a,bs,R1,h0,cR.stay R1.rel,cI.refl⟩,?_⟩
  rintro k m σ' H' ⟨rfl,hle,ρ',F',β',a',bs',R',hI,s',o'⟩;have kp:uz aX H1 H':=λb o e w=>by
   refine s'.keep b o e λy=>?_;rcases y with ⟨i,d,h1,h2⟩ | y
   ·obtain⟨a0,q1,q2,q3⟩:=R1.rel.own i d h1;rw[h2]at q1;cases q1;rcases w with w | w
    ·exact q2 w
    ·obtain⟨o',q4,q5⟩:=q3.at;rw[e]at q4;cases q4;exact q5 w
   ·rcases w with w | w
    ·exact R1.box.nf b y w
    ·obtain⟨o',q4,q5⟩:=R1.box.has y;rw[e]at q4;cases q4;exact q5 w
  obtain⟨qW,wstop⟩:=wk H' (.inr ⟨rfl,kp⟩) k;by_cases hlt:k<its.length
  ·obtain⟨go,yl⟩:=qW its[k] (Xa hlt);refine .inr ⟨go,λσ2 H2=>∃ρ2 F2 β2 a2 oA,bM X.K F2 ρ2 β2 σ2 H2 z a2 oA/\Iv (k+1) ρ2 β2/\cR (OB ρ σ (a::bs)) aX H1 F2 H2/\cI (OB ρ σ (a::bs)) H1 (OB ρ2 σ2 (a2::oA)),λσ2 H2 hN=>⟨its.length-(k+1),by lia,rfl,hlt,hN⟩,λxv H2 y=>?_⟩;obtain⟨sm,dn⟩:=yl xv H2 y;have x2:Ext F' H' F' H2:=⟨sm,λ_ h=>h,λ_ h=>.inl h,λb hb z=>R'.rel.al b hb (sm.free z)⟩;have R2:=(R'.ext x2).set (i:=i) (aq.mono (Keep.of (Same.refl _)) s'.sub _ _ dn) hiz;have so:cI (OB ρ σ (a::bs)) H1 (OB (ρ'.set i (some (its[k],false))) (σ'.set i (some xv)) (a'::bs')):=λb hb=>by
    rcases hb with hb | hb
    ·exact o' b (.inl (uI b hb))
    ·exact o' b (.inr hb)
   have st:cR (OB ρ σ (a::bs)) aX H1 F' H2:=s'.trans o' (.of x2);refine⟨_,F',β',a',bs',R2,hb.mono _ _ { ir X.K z D (OB ρ σ (a::bs)) Fz H with nx:=Iv (k+1),ct:=Iv (k+1),bk:=(ir X.K z D (OB ρ σ (a::bs)) Fz H).nx } _ ⟨λρ3 β3 q σ3 F3 H3 a3 bs3 s3 o3 R3=>?_,λd k q v F3 H3 s3 al r=>?_,λρ3 β3 q σ3 F3 H3 a3 bs3 s3 o3 R3=>?_,λρ3 β3 q σ3 F3 H3 a3 bs3 s3 o3 R3=>?_⟩ (hstep k its[k] ρ' β' (Xa hlt) hI)⟩
   ·exact⟨ρ3,F3,β3,a3,bs3,R3,q,st.trans so s3,cI.trans st so o3⟩
   ·exact le.rt d k q v F3 H3 (st.trans so s3) al (r.back st so)
   ·exact le.nx ρ3 β3 q σ3 F3 H3 a3 bs3 (st.trans so s3) (cI.trans st so o3) R3
   ·exact⟨ρ3,F3,β3,a3,bs3,R3,q,st.trans so s3,cI.trans st so o3⟩
  ·have e:k=its.length:=by lia
   subst e;exact .inl ⟨wstop (Xj _),le.nx ρ' β' (hdone ρ' β' hI) σ' F' H' a' bs' s' o' R'⟩
def zck (z:Nat)(t:cN):dN:=λρ β O=>dX t { nx:=λ_=>False,rt:=O.rt,bk:=λ_=>False,ct:=λ_=>False } (ρ.set z (some (β.pv,false)))
theorem J7 {t:cN}(h:dF X rest t):ou X z rest (zck z t) where
 mono ρ β O O' m q:=h.mono _ { nx:=λ_=>False,rt:=O.rt,bk:=λ_=>False,ct:=λ_=>False } _ ⟨λ_ q=>q.elim,m.rt,λ_ q=>q.elim,λ_ q=>q.elim⟩ q
 run:=dh.weak h.run λD σ H q=>by
  obtain⟨ρ,Fz,β,a,bs,R,q⟩:=q;have RF:=R.frozen;refine⟨_,_,RF,h.mono _ { nx:=λ_=>False,rt:=(ir X.K z D (OB ρ σ (a::bs)) Fz H).rt,bk:=λ_=>False,ct:=λ_=>False } _ ⟨λ_ q=>q.elim,λd k q v ao H' s al r=>?_,λ_ q=>q.elim,λ_ q=>q.elim⟩ q⟩;refine q v ao H' ⟨λb hb=>s.sub b (.inl hb),λb hb=>?_,λb o e n=>s.keep b o e λy=>n (.inl (DY b y))⟩ al ?_
  ·rcases s.new b hb with (y | y) | y | y
   ·exact .inl y
   ·exact .inr (.inr (.inr y))
   ·exact .inr (.inl y)
   ·exact .inr (.inr (.inl (DY b y)))
  ·cases k with
   | aH=>exact r
   | own i=>exact r
   | new=>
    obtain⟨a0,e,nf,o,w⟩:=r;refine⟨a0,e,nf,o,?_⟩;rcases w with w | w
    ·exact .inl (.inl (DY a0 w))
    ·exact .inr w
end
theorem Rel.unset {K:Xc}(R:Rel K Fz ρ σ H):Rel K Fz (ρ.set i none) (σ.set i (some v)) H:=by
 have ne:∀(j:Nat) (p:PV×Bool),(ρ.set i none)[j]? = some (some p)->i≠j/\ρ[j]? = some (some p):=λj p h=>by
  have nj:i≠j:=λz=>by
   subst z;by_cases hi:i<ρ.length
   ·rw[Xm hi]at h;cases h
   ·rw[XG (by lia),XD (by lia)]at h;cases h
  rw[Xk nj]at h;exact⟨nj,h⟩
 refine⟨R.al,by rw[Yb,Yb];exact R.len,λj d h=>?_,λj d h=>?_,λj k d e a h1 h2 h3 h4=>?_⟩
 ·obtain⟨nj,h⟩:=ne j _ h;rw[Xk nj];exact R.aH j d h
 ·obtain⟨nj,h⟩:=ne j _ h;rw[Xk nj];exact R.own j d h
 ·obtain⟨nj,h1⟩:=ne j _ h1;obtain⟨nk,h2⟩:=ne k _ h2;rw[Xk nj]at h3;rw[Xk nk]at h4;exact R.inj j k d e a h1 h2 h3 h4
theorem o9:∀b,bK (ρ.set i none) (σ.set i (some v)) b->bK ρ σ b:=λb ⟨j,e,h1,h2⟩=>by
 have nj:i≠j:=λz=>by
  subst z;by_cases hi:i<ρ.length
  ·rw[Xm hi]at h1;cases h1
  ·rw[XG (by lia),XD (by lia)]at h1;cases h1
 rw[Xk nj]at h1 h2;exact⟨j,e,h1,h2⟩
theorem bM.put {K:Xc}{Fz:FZ}{ρ:au}{β:BX}{σ:St}{H:Hp}{z:Nat}{a:We}{bs:Tr}{j:Nat}{b:We}{d:PV}{o u:HO}(R:bM K Fz ρ β σ H z a bs)(hb:bs[j]? = some b)(hu:H b=some u)(im:¬ nQ u)(ow:Own K Fz (upd H b o) d b)
  (β':BX) (hc:β'.xZ=β.xZ.set j d) (ho:β'.obj bs=β.obj bs) (hk:β'.ok):bM K Fz ρ β' σ (upd H b o) z a bs/\cR (OB ρ σ (a::bs)) Fz H Fz (upd H b o):=by
 have hm:b∈a::bs:=Xi _ (Xl hb);have nf:=R.box.nf b hm;have no:=R.no b hm;have nd:=R.box.nd;rw[XI]at nd;have nea:a≠b:=λy=>nd.1 (by rw[y];exact Xl hb);refine⟨⟨R.rel.other hu im nf no,R.hz,R.sz,⟨by rw[aO nea,ho];exact R.box.at_,hk,by rw[hc];exact aG.put hu im nf ow R.box.own nd.2 hb,R.box.nd,R.box.nf⟩,R.no⟩,⟨λ_ h=>h,λ_ h=>.inl h,λc w e n=>?_⟩⟩;have ne:c≠b:=λy=>n (.inr (by rw[y];exact hm));rw[aO ne];exact e
section
variable {X:Cx}{z:Nat}{ei e:Expr}{ti te:aN}{x:Str}{p p1 apos cpos pos:Pos}
def zdE (z:Nat)(ti te:aN):dN:=λρ β O=>rdE z ti ρ β λdi=>∃(i:Int)(n:Nat)(ds es:List PV),di=.int i/\β=.L ds/\jo ds.length i=some n/\ds[n]? = some (.lst es)/\es.length<Wi/\rdE z te ρ β λd=>O.nx ρ (.L (ds.set n (.lst (es++[d]))))
theorem J8 (hi:aD X ei ti)(he:aD X e te)(hN:X.N[z]? = some x:=by rfl)(hv:iZ X.env.scope x:=by first | exact Qo rfl | exact Qp (Qo rfl) | exact Qp (Qp rfl))(hd:(x == ("__debug__" : Str))=false:=by decide) (hcd:(x == ("__classdict__" : Str))=false:=by decide)
  (hix:yU ei:=by exact λ_ _=>rfl) (hbase:WF (.Subscript (.Name x p) ei p1) "append" X.env (Wx (.Subscript (.Name x p) ei p1) X.env)=Wx (.Subscript (.Name x p) ei p1) X.env:=by rfl)
  (hfew:((Wu cpos (Wf [e] X.env)).all (λx=>!x.1)&&(W9 cpos (WP [] X.env)).all (λx=>x.1.isSome)&&decide ([e].length+([]:List WL).length+(if ([]:List WL).isEmpty then 0 else 1)<30))=true:=by rfl)
  (hline:(apos.endLine == cpos.line)=true:=by rfl) (hst:Wf [e] X.env=(false,Wx e X.env)::Wf [] X.env:=by rfl) (hplain:(Wu cpos (Wf [] X.env)).any (·.1)=false:=by rfl)
  (hs:WE (.Call (.Attribute (.Subscript (.Name x p) ei p1) "append" apos) [e] [] cpos) none pos.line X.env=pure false:=by rfl) :
  jH X z (.Expr (.Call (.Attribute (.Subscript (.Name x p) ei p1) "append" apos) [e] [] cpos) pos) (zdE z ti te) where
 mono ρ β O O' m h:=hi.mono _ _ _ (λd k ⟨e1,e2,i,n,ds,es,q1,q2,q3,q4,q5,q⟩=>⟨e1,e2,i,n,ds,es,q1,q2,q3,q4,q5,he.mono _ _ _ (λd k ⟨e1,e2,q⟩=>⟨e1,e2,m.nx _ _ q⟩) q⟩) h
 run:=PS.weak (yK (sS Qw Q6 Q7 vK (G6 G7 (jn hN hv hd hcd) hi.run hix) (nM he.run mJ hst) hbase hfew hline hst hplain) hs) λD σ H h=>by
  obtain⟨ρ,Fz,β,a,bs,R,h⟩:=h;refine⟨_,R.sz,uT hi R h λdi iv H1 q nm x1 dv=>?_⟩;obtain⟨i,n,ds,es,rfl,rfl,q3,q4,q5,q⟩:=q;have R1:=R.ext x1;obtain⟨b,hb,ow⟩:=R1.box.own.get q4;have hlen:=R1.box.own.length;have hiv:iv=.int i:=by simpa only[aq]using dv
  subst hiv;have hat:cW (bs.map V.ref) i=some (V.ref b):=by
   unfold cW;rw[Xb,<- hlen];show(jo ds.length i).bind _=_;rw[q3];show(bs.map V.ref)[n]? = _;rw[Xe,hb];rfl
  obtain⟨xs,hbx,hxs⟩:=ow;refine⟨a,_,i,.ref b,rfl,rfl,aR.of R1.box.at_,hat,.inl ⟨rfl,xs,aR.of hbx⟩,uT he R1 q λd v H2 q nm2 x2 dv2=>?_⟩;have R2:=R1.ext x2;have hbx2:=x2.same _ _ hbx;have hl2:=hxs.length;have nfb:¬ Fz b:=R2.box.nf b (Xi _ (Xl hb));refine⟨b,xs,v,rfl,rfl,hbx2,by lia,?_⟩;have hxs2:=aj.snoc (aj.mono (.of x2.same) (λ_ h=>h) _ _ hxs) dv2;have ow2:Own X.K Fz (upd H2 b (.lst (xs++[v]))) (.lst (es++[d])) b:=⟨_,bF,aj.qt hbx2 nfb hxs2⟩;obtain⟨R3,s3⟩:=R2.put hb hbx2 (λy=>y) ow2 (.L (ds.set n (.lst (es++[d])))) rfl rfl trivial;exact q σ Fz _ a bs ((cR.of (x1.trans x2)).trans cI.refl s3) cI.refl R3
end
section
variable {X:Cx}{z:Nat}{tg iter:Expr}{sc:WX}{pos pos' pos2 rD:Pos}{N:Tn}{ti:je}{t:dN}{x y:Str}{rest:List WJ}
def zaG (z:Nat)(ti:je)(t:dN):cN:=λρ O=>z<ρ.length/\ti ρ λits o=>its.length<=Wi/\lH t { nx:=λ_ _=>False,rt:=O.rt,bk:=λ_ _=>False,ct:=λ_ _=>False } (ρ.set z none) (.L (Ya its.length (.lst [])))
theorem J9 {K:Xc}:∀ {bs:Tr},(∀b∈bs,H b=some (.lst []))->aG K Fz H (Ya bs.length (.lst [])) bs
 | [],_=>by unfold aG;rfl
 | b::bs,h=>by
  rw[XX,List.replicate_succ];unfold aG;exact⟨b,bs,rfl,⟨[],h b (Xg ..),aj.nil⟩,J9 λc hc=>h c (Xi _ hc)⟩
theorem ziK {pq:Pos}(hc:X.calm=true)(S:ql X N 1 [] sc)(hi:lF X (.Name y rD) iter ti)(hg:∀C cells fp s H,PG (lz X N sc C cells fp s H) (.Name y rD) (vH 0))(hN:X.N.Nodup)(hx:X.N[z]? = some x)(hk:X.env.scope.names.lookup x=some .local)
  (hr:ou X z rest t) (hsw:WE (.ListComp (.List [] pos') [⟨.Name y rD,iter,[],0⟩] sc pos) (some (.Name x pq)) pos2.line X.env=pure true:=by rfl) (hs:∀x,WD iter X.env x=pure x:=by intro _;rfl) :
  dF X (.Assign [.Name x pq] (.ListComp (.List [] pos') [⟨.Name y rD,iter,[],0⟩] sc pos) pos2::rest) (zaG z ti t) where
 mono ρ O O' m h:=⟨h.1,hi.mono ρ _ _ (λits o ⟨e,q⟩=>⟨e,hr.mono _ _ { nx:=λ_ _=>False,rt:=O.rt,bk:=λ_ _=>False,ct:=λ_ _=>False } _ ⟨λ_ _ q=>q.elim,m.rt,λ_ _ q=>q.elim,λ_ _ q=>q.elim⟩ q⟩) h.2⟩
 run:=dh.weak (nJ (Cu hc S hi.run ⟨hg,λ_ _ _ _ _=>HJ,λ_ _ _ _ _=>GD mJ⟩ hN hx hk hsw hs) hr.run) λD σ H h=>by
  obtain⟨ρ,Fz,R,rE,h⟩:=h;refine⟨ρ,Fz,R,hi.mono ρ _ _ (λits o q J aX H1 x1 wk l hl=>?_) h⟩;obtain⟨hz,q⟩:=q;refine⟨λi m σ' H'=>m=its.length-i/\i<=its.length/\∃bs:Tr,bs.length=i/\H' l=some (.lst (bs.map V.ref))/\(∀b∈bs,H' b=some (.lst []))/\(l::bs).Nodup/\(∀b∈l::bs,H1 b=none)/\Same H1 H',
   ⟨its.length,by lia,Ye _,[],rfl,bF,λb hb=>by simp at hb,by simp,λb hb=>by simp at hb;rw[hb];exact hl,(Same.refl H1).lG hl⟩,?_⟩
  rintro i m σ' H' ⟨rfl,hle,bs,rF,hlx,hbs,hnd,hfr,sm⟩;obtain⟨qW,wstop⟩:=wk H' (.inl sm) i;by_cases hlt:i<its.length
  ·obtain⟨go,yl⟩:=qW its[i] (Xa hlt);refine .inr ⟨go,λxv H2 y=>?_⟩;obtain⟨iT,_⟩:=yl xv H2 y;have hl2:=iT _ _ hlx;simp only[vH,HF,if_true];refine⟨Ye _,λb hb=>?_⟩;have hbl':b≠l:=λe=>by rw[e,hl2]at hb;cases hb
   have hbn:H1 b=none:=sm.free (iT.free hb);have hbm:b∉bs:=λe=>by rw[iT _ _ (hbs b e)]at hb;cases hb
   refine⟨bs.map V.ref,by rw[aO (Qz hbl')];exact hl2,by rw[Xb];lia,its.length-(i+1),by lia,rfl,hlt,bs++[b],by simp[rF],by rw[bF,Xp];rfl,λc hc=>?_,?_,λc hc=>?_,?_⟩
   ·rcases Xr.mp hc with hc | hc
    ·have n1:c≠l:=λe=>(XI.mp hnd).1 (by rw[<- e];exact hc);have n2:c≠b:=λe=>hbm (by rw[<- e];exact hc);rw[aO n1,aO n2];exact iT _ _ (hbs c hc)
    ·have:=Xh.mp hc;subst this;rw[aO hbl',bF]
   ·rw[XI]at hnd ⊢;refine⟨λe=>?_,?_⟩
    ·rcases Xr.mp e with e | e
     ·exact hnd.1 e
     ·exact hbl' (Xh.mp e).symm
    ·rw[Yt];exact⟨hnd.2,by simp,λc hc d hd e=>hbm (by rw[<- Xh.mp hd,<- e];exact hc)⟩
   ·rcases Xx.mp hc with rfl | hc
    ·exact hl
    ·rcases Xr.mp hc with hc | hc
     ·exact hfr c (Xi _ hc)
     ·rw[Xh.mp hc];exact hbn
   ·exact((sm.trans iT).lG hbn).lG hl
  ·have e:i=its.length:=by lia
   subst e;refine .inl ⟨wstop (Xj _),?_⟩;have nfr:∀b∈l::bs,¬ aX b:=λb hb w=>x1.al b w (hfr b hb);have x2:Ext aX H1 aX H':=⟨sm,λ_ h=>h,λ_ h=>.inl h,λb hb w=>x1.al b hb (sm.free w)⟩;have x3:=x1.trans x2;have hno:∀b∈l::bs,¬ bK ρ σ b:=λb hb ⟨j,d,h1,h2⟩=>by
    obtain⟨a,q1,_,q3⟩:=R.own j d h1;rw[h2]at q1;cases q1;obtain⟨o',q4,_⟩:=q3.at;have:=x1.same _ _ q4;rw[hfr b hb]at this;cases this
   have hzN:z<σ.length:=by rw[<- R.len];exact rE
   have Rb:bM X.K aX (ρ.set z none) (.L (Ya its.length (.lst []))) (σ.set z (some (.ref l))) H' z l bs:=
    ⟨(R.ext x3).unset,Xm (by rw[R.len];exact hzN),Xm hzN,⟨hlx,trivial,by show aG _ _ _ (Ya its.length _) bs;rw[<- rF];exact J9 hbs,hnd,nfr⟩,λb hb w=>hno b hb (o9 b w)⟩
   refine⟨_,aX,_,l,bs,Rb,hr.mono _ _ { nx:=λ_ _=>False,rt:=(nT X.K D ρ σ Fz H).rt,bk:=λ_ _=>False,ct:=λ_ _=>False } _ ⟨λ_ _ q=>q.elim,λd k q v ao H'' s al r=>?_,λ_ _ q=>q.elim,λ_ _ q=>q.elim⟩ q⟩;have s0:cR (bK ρ σ) Fz H aX H':=.of x3;have oi:cI (bK ρ σ) H (OB (ρ.set z none) (σ.set z (some (.ref l))) (l::bs)):=λb hb=>by
    rcases hb with hb | hb
    ·exact .inl (o9 b hb)
    ·exact .inr (x1.same.free (hfr b hb))
   have s1:=s0.trans oi s;have r1:=r.back s0 oi;refine q v ao H'' ⟨s1.sub,s1.new,s1.keep⟩ al ?_;cases k with
   | aH=>exact r1
   | own i=>exact r1
   | new=>exact r1
end
end PL
namespace L2
open PySem PySem.Spec PyProof.Rows
section
variable {X:Cx}{pins:Tg}{σ:List (Option V)}{H:Hp}{s:Wd}{h':Heap}
theorem Inv.vY {t':Nat}{ch:Tr}(I:Inv X pins σ H s)(k:∀b o,b∉ch->s.heap.get? b=some o->h'.get? b=some o)(hf:∀b∈ch,cQ X pins H b):Inv X pins σ H { s with heap:=h',toks:=t' }:=by
 have nit:∀b u,H b=some u->b∉ch:=λb u e z=>by rw[(hf b z).1]at e;cases e
 refine I.step (g':=s.gens) (d':=s.drawn) (ch:=ch) (λb hb=>?_) (λb o _ _ hc e _=>k b o hc e) (λb o _ _ hc e _=>⟨o.slots,k b o hc e⟩) (λ_ _ _ _ n=>n)
  (λb o hc e=>⟨o,k b o hc e⟩) (λ_ _ e=>e) (λ_ _ _ e=>e) (λb ps e=>⟨#[],by rw[e];simp⟩) (λm hm=>?_) (λb u e=>?_) I.bare
 ·obtain⟨_,f1,_,f3,f4,f5⟩:=hf b hb;exact⟨f3,f1,f4,f5⟩
 ·obtain⟨o,es,ep,ho,r⟩:=hm;exact⟨o,es,ep,k _ o (λz=>(hf _ z).2.1 rfl) ho,r⟩
 ·refine(I.hok b u e).stay (λc v hc q=>k c v ?_ q) (λ_ q=>q) λ_ _ q=>q;rcases hc with z | z
  ·rw[z];exact nit b u e
  ·exact nit c _ z
end
def Ite (K:Xc)(a:We):It:=
 ⟨λi H=>∃xs x,aR K H a xs/\xs[i]? = some x,λi H x H'=>∃p y,x=.ref p/\H p=none/\(∀xs,aR K H a xs->xs[i]? = some y)/\H'=upd H p (.tup [.int (i:Int),y]),λi H=>∃xs,aR K H a xs/\xs.length<=i⟩
theorem znW {P:Wo}{w:Ws}{K:Xc}{elts:List Expr}{x1:Nat}{pos:Pos}(a e it:We)(hne:e≠it):Turn P w K (.Tuple elts x1 pos) (Ite K a) [e,it] e (λi h=>(∃old,IsEnum h e it (i:Int) old)/\h.IsListIter it a i) where
 mem:=by simp
 obj:=λi h st b hb=>by
  obtain⟨⟨old,he⟩,o,ho,c,d⟩:=st;rcases Xx.mp hb with rfl | hb
  ·exact⟨_,he,λv z=>by cases z⟩
  ·have:=Xh.mp hb;subst this;exact⟨o,ho,λv z=>by rw[d]at z;cases z⟩
 keep:=λi h h' st k=>by
  obtain⟨⟨old,he⟩,hit⟩:=st;exact⟨⟨old,k e (by simp) _ he⟩,hit.at λo q=>k it (by simp) o q⟩
 item:=by
  intro X hP hw hK hc i pins s σ H E I hf st hg;subst hP hw hK;obtain⟨⟨old,he⟩,hit⟩:=st;obtain⟨xs,x,hq,hx⟩:=hg;obtain⟨its,rv,p,hz⟩:=I.list hq;obtain⟨u,hu,ru⟩:=rv.get hx;have hfr:H s.heap.objs.size=none:=I.hok.fresh (Xj _);have heS:e<s.heap.objs.size:=XC he;have hiS:it<s.heap.objs.size:=by obtain⟨o,ho,_⟩:=id hit;exact XC ho
  refine wpAny_pyNext_enum_item he hit p.isList (x:=u) (by simpa using hu) hne λh1 heo hit1 ht1 hz1 hk1=>⟨.ref s.heap.objs.size,rfl,?_⟩;refine wpAny_letOwnedTupleGo_enum heo λh2 he2 hs2=>?_;replace hs2:Ys e h1 h2:=hs2;have I1:=I.laid (a:=s.heap.objs.size) (o:=.tup [.int (i:Int),x]) (h':=s.heap.push { cls:=.type "tuple",data:=.seq #[.int i s.toks,u] }) (t':=s.toks+1) (λb u e=>Xn _ e) (Xj _)
   ⟨by show 2<=Wi;decide,[.int i s.toks,u],.cons ⟨_,rfl⟩ (.cons ru .nil),nH.new _ _⟩
  have hfp:∀b∈[e,it],cQ X pins (upd H s.heap.objs.size (.tup [.int (i:Int),x])) b:=λb hb=>by
   obtain⟨f0,fr⟩:=hf b hb;have hbS:b≠s.heap.objs.size:=by
    rcases Xx.mp hb with rfl | hb
    ·exact XM heS
    ·rw[Xh.mp hb];exact XM hiS
   exact⟨by rw[aO hbS];exact f0,fr⟩
  have I2:=I1.vY (h':=h2) (t':=s.toks+1) (ch:=[e,it]) (λb o hb eb=>by
   have hb1:b≠e:=λz=>hb (by simp[z]);have hb2:b≠it:=λz=>hb (by simp[z]);refine(hs2.2 b hb1).trans ?_;rcases Heap.get?_push_cases eb with ⟨rfl,rfl⟩ | eb
   ·exact ht1
   ·exact hk1 b o hb1 hb2 eb) hfp
  refine⟨.ref s.heap.objs.size,_,I2,rfl,⟨_,x,rfl,hfr,λys hy=>by rw[I.vG hy hq];exact hx,rfl⟩,⟨⟨u,?_⟩,?_⟩,λb hb=>(hfp b hb).1⟩
  ·have:((i+1:Nat):Int)=(i:Int)+1:=by lia
   rw[this];exact he2
  ·exact hit1.extBut hs2.extBut (Qz hne)
 done:=by
  intro X hP hw hK hc i pins s σ H E I hf st hg;subst hP hw hK;obtain⟨⟨old,he⟩,hit⟩:=st;obtain⟨xs,hq,hx⟩:=hg;obtain⟨its,rv,p,hz⟩:=I.list hq;have hl:=rv.length;obtain⟨f0,f1,f2,f3,f4,f5⟩:=hf it (by simp);exact wpAny_pyNext_enum_end (I.ok.hd hc) he hit p.isList (by simp;lia) λh' eb=>⟨rfl,I.turned (t':=s.toks) (λb o hb e=>eb b o hb e) f0 f1 f3 f4 f5⟩
 self:=λ_ _ _ _ _ st h=>by obtain⟨⟨old,he⟩,_⟩:=st;exact wpAny_pyIter_enum he h
section
variable {X:Cx}{elts:List Expr}{x1:Nat}{tpos p pos:Pos}{e e2:Expr}{te te2:TE}
theorem zgl:Wt "enumerate" = some (.type "enumerate"):=by decide +kernel
def zvS (K:Xc)(te:TE):TI:=λσ H R=>te σ H λx H1=>∃a,x=.ref a/\(∃xs,aR K H1 a xs)/\R (Ite K a) H1
theorem zsr (hg:Gl X "enumerate") (hm:X.mg "enumerate" = none) (he:PE X e te) (hs1:Wf [e] X.env=(false,Wx e X.env)::Wf [] X.env:=by rfl) (jG:(Wu pos (Wf [] X.env)).any (·.1)=false:=by rfl) :
  PI X (.Tuple elts x1 tpos) (.Call (.Name "enumerate" p) [e] [] pos) (zvS X.K te):=by
 intro pins s σ H R I h;refine WM (qL I hg hm zgl ?_ (by decide) (by decide));refine QJ ?_ hs1 jG;rw[hs1];show Wj _ _ (spliced ((false,Wx _ X.env)::Wu pos (Wf [] X.env))) _ _ s;refine QB (aM (he pins s σ H _ I h) λu s1 ⟨x,H1,I1,r1,a,ex,⟨xs,hq⟩,q⟩=>QH ?_);subst ex;obtain rfl:u=Qq a:=r1;obtain⟨its,r,pl,hz⟩:=I1.list hq;refine call_enumerate_list pl.isList λh' hE hit hsz hk=>?_;refine wpAny_pyIter_enum (s:={ s1 with heap:=h' }) hE ?_;have I2:Inv X pins σ H1 { s1 with heap:=h' }:=I1.kept (t':=s1.toks) hk;refine⟨s1.heap.objs.size+1,[s1.heap.objs.size+1,s1.heap.objs.size],_,_,H1,rfl,I2,znW a _ _ (Nat.succ_ne_self _),⟨⟨_,hE⟩,hit⟩,λb hb=>?_,q⟩;have hb':s1.heap.objs.size<=b:=by
  rcases Xx.mp hb with rfl | hb
  ·exact QX _
  ·rw[Xh.mp hb];exact Xj _
 exact I1.jb hb' (I1.hok.fresh hb')
end
end L2
namespace PL
open PySem PySem.Spec L2
open PyProof.Rows hiding St
def uV (ds:List PV):List PV:=(Yj ds.length).map λ(i:Nat)=>.tup [.int (i:Int),ds.getD i .non]
theorem zP {ds:List PV}{i:Nat}{d:PV}(h:(uV ds)[i]? = some d):∃x,ds[i]? = some x/\d=.tup [.int (i:Int),x]:=by
 unfold uV at h;rw[Xe]at h;rcases Nf i ds.length with hi | hi
 ·rw[List.getElem?_range hi]at h;cases h;exact⟨ds[i],Xa hi,by show PV.tup [PV.int (i:Int),ds.getD i PV.non]=_;rw[Xd,Xa hi];rfl⟩
 ·rw[XD (by simpa using hi)]at h;cases h
theorem vZ (ds:List PV):(uV ds).length=ds.length:=by simp[uV]
def zcl (te:aN):je:=λρ Q=>te ρ λd k=>∃ds,d=.lst ds/\Q (uV ds) (isOwn k)
section
variable {X:Cx}{elts:List Expr}{x1:Nat}{tpos p pos:Pos}{e:Expr}{te:aN}
theorem Ec (hg:Gl X "enumerate") (hm:X.mg "enumerate" = none) (he:aD X e te) (hs1:Wf [e] X.env=(false,Wx e X.env)::Wf [] X.env:=by rfl) (jG:(Wu pos (Wf [] X.env)).any (·.1)=false:=by rfl) :
  lF X (.Tuple elts x1 tpos) (.Call (.Name "enumerate" p) [e] [] pos) (zcl te) where
 mono ρ Q Q' m h:=he.mono ρ _ _ (λd k ⟨ds,e,q⟩=>⟨ds,e,m _ _ q⟩) h
 run:=PI.weak (zsr hg hm he.run hs1 jG) λσ H Rr h=>by
  obtain⟨ρ,Fz,R,h⟩:=h;refine⟨ρ,Fz,R,he.mono ρ _ _ (λd k q v ao H' p=>?_) h⟩;obtain⟨ds,e,q⟩:=q;subst e;have rt:=p.root R;obtain⟨a,xs,rfl,h1,h2⟩:=dB rt;refine⟨a,rfl,⟨xs,h1⟩,?_⟩;have one:∀(F2:FZ) (H2:Hp) (zs:List V),aR X.K H2 a zs->aj X.K F2 H2 ds zs->∀i:Nat,(∀d,(uV ds)[i]? = some d->(Ite X.K a).go i H2/\∀x H3,(Ite X.K a).sI i H2 x H3->Same H2 H3/\aq X.K F2 H3 d x)/\((uV ds).length<=i->(Ite X.K a).stop i H2):=λF2 H2 zs g1 g3 i=>by
   have hl:=g3.length;refine⟨λd hd=>?_,λhi=>⟨zs,g1,by rw[vZ]at hi;lia⟩⟩;obtain⟨x,hx,rfl⟩:=zP hd;obtain⟨v,q1,q2⟩:=g3.get hx;refine⟨⟨zs,v,g1,q1⟩,λy H3 ⟨pp,w,ey,hn,gy,e3⟩=>?_⟩;subst ey e3;have exy:=gy zs g1;rw[q1]at exy;cases exy;have sm:Same H2 (upd H2 pp (.tup [.int (i:Int),v])):=λb o hb=>by rw[aO (mH hb hn)];exact hb
   refine⟨sm,?_⟩;simp only[aq];exact⟨pp,_,rfl,bF,aj.cons (by simp only[aq]) (aj.cons (aq.mono (.of sm) (λ_ h=>h) _ _ q2) aj.nil)⟩
  cases k with
  | own i=>
   refine q _ ao H' p.ext λH2 hH=>?_;rcases hH with hH | ⟨z,_⟩
   ·exact one ao H2 xs (hH.seq h1) (aj.mono (.of hH) (λ_ h=>h) _ _ h2)
   ·cases z
  | aH=>
   have pd:aq X.K ao H' (.lst ds) (.ref a):=p.gm;simp only[aq]at pd;obtain⟨a',xs',e,h3,h4⟩:=pd;cases e;refine q _ ao H' p.ext λH2 hH=>?_;have kp:Keep ao H' H2:=hH.elim (λz=>.of z) (λz=>.mk' z.2);exact one ao H2 xs' (h3.elim (λh=>.inl (kp.rd trivial h.1 h.2)) KX.sq) (aj.mono kp (λ_ h=>h) _ _ h4)
  | new=>
   obtain⟨b,e,hn,nf,o⟩:=p.gm;cases e;obtain⟨xs',o1,o2⟩:=o;refine q _ (λb=>ao b\/b=a) H' (p.ext.add hn (by rw[o1];exact λz=>nomatch z)) λH2 hH=>?_;have kp:Keep (λb=>ao b\/b=a) H' H2:=hH.elim (λz=>.of z) (λz=>.mk' z.2);exact one _ H2 xs' (.inl (kp.rd trivial (.inr rfl) (.inl o1))) (aj.mono kp (λ_ h=>h) _ _ (aj.mono (Keep.of (Same.refl _)) (λ_ h=>.inl h) _ _ o2))
end
end PL
namespace L2
open PySem PySem.Spec PyProof.Rows
def Ka (K:Xc)(a b:We):It:=
  ⟨λi H=>∃xs ys x y,aR K H a xs/\xs[i]? = some x/\aR K H b ys/\ys[i]? = some y,
   λi H x H'=>∃p u v,x=.ref p/\H p=none/\(∀xs,aR K H a xs->xs[i]? = some u)/\(∀ys,aR K H b ys->ys[i]? = some v)/\H'=upd H p (.tup [u,v]),
   λi H=>∃xs ys,aR K H a xs/\aR K H b ys/\(xs.length<=i\/ys.length<=i)⟩
theorem zpO {P:Wo}{w:Ws}{K:Xc}{elts:List Expr}{x1:Nat}{pos:Pos}(a b z TI TO i1 i2:We)(D:ZipApart z TI TO i1 i2 a b) :
  Turn P w K (.Tuple elts x1 pos) (Ka K a b) [z,TI,TO,i1,i2] z (λi h=>IsZip h z TI TO .none/\IsPair h TI (.ref i1) (.ref i2)/\(∃u v,IsPair h TO u v)/\h.IsListIter i1 a i/\h.IsListIter i2 b i) where
 mem:=by simp
 obj:=λi h st c hc=>by
  obtain⟨h1,h2,⟨u,v,h3⟩,⟨o4,h4,_,d4⟩,⟨o5,h5,_,d5⟩⟩:=st;simp only[Xx,Pz,or_false]at hc;rcases hc with rfl | rfl | rfl | rfl | rfl
  ·exact⟨_,h1,λv z=>by cases z⟩
  ·exact⟨_,h2,λv z=>by cases z⟩
  ·exact⟨_,h3,λv z=>by cases z⟩
  ·exact⟨_,h4,λv z=>by rw[d4]at z;cases z⟩
  ·exact⟨_,h5,λv z=>by rw[d5]at z;cases z⟩
 keep:=λi h h' st k=>by
  obtain⟨h1,h2,⟨u,v,h3⟩,h4,h5⟩:=st;exact⟨k z (by simp) _ h1,k TI (by simp) _ h2,⟨u,v,k TO (by simp) _ h3⟩,h4.at λo q=>k i1 (by simp) o q,h5.at λo q=>k i2 (by simp) o q⟩
 item:=by
  intro X hP hw hK hc i pins s σ H E I hf st hg;subst hP hw hK;obtain⟨h1,h2,⟨c1,c2,h3⟩,h4,h5⟩:=st;obtain⟨xs,ys,x,y,hq,hx,hq2,hy⟩:=hg;obtain⟨its,rv,p,hz⟩:=I.list hq;obtain⟨u,hu,ru⟩:=rv.get hx;obtain⟨its2,rv2,p2,hz2⟩:=I.list hq2;obtain⟨u2,hu2,ru2⟩:=rv2.get hy;have hfr:H s.heap.objs.size=none:=I.hok.fresh (Xj _);have lt:∀c∈[z,TI,TO,i1,i2],c<s.heap.objs.size:=λc hc=>by
   simp only[Xx,Pz,or_false]at hc;rcases hc with rfl | rfl | rfl | rfl | rfl
   ·exact XC h1
   ·exact XC h2
   ·exact XC h3
   ·obtain⟨o,ho,_⟩:=id h4;exact XC ho
   ·obtain⟨o,ho,_⟩:=id h5;exact XC ho
  refine wpAny_pyNext_zip_item D h1 h2 h3 h4 h5 p.isList p2.isList (x:=u) (y:=u2) (by simpa using hu) (by simpa using hu2) λhp1 g1 g3 g4 g5 gt gz gk=>⟨.ref s.heap.objs.size,rfl,?_⟩;refine wpAny_letOwnedTupleGo_zip g1 λhp2 k1 ks=>?_;replace ks:Ys z hp1 hp2:=ks;have I1:=I.laid (a:=s.heap.objs.size) (o:=.tup [x,y]) (h':=s.heap.push { cls:=.type "tuple",data:=.seq #[u,u2] }) (t':=s.toks) (λb u e=>Xn _ e) (Xj _)
   ⟨by show 2<=Wi;decide,[u,u2],.cons ru (.cons ru2 .nil),nH.new _ _⟩
  have hfp:∀c∈[z,TI,TO,i1,i2],cQ X pins (upd H s.heap.objs.size (.tup [x,y])) c:=λc hc=>by
   obtain⟨f0,fr⟩:=hf c hc;exact⟨by rw[aO (XM (lt c hc))];exact f0,fr⟩
  have I2:=I1.vY (h':=hp2) (t':=s.toks) (ch:=[z,TI,TO,i1,i2]) (λc o hc ec=>by
   have n1:c≠z:=λe=>hc (by simp[e]);refine(ks.2 c n1).trans ?_;rcases Heap.get?_push_cases ec with ⟨rfl,rfl⟩ | ec
   ·exact gt
   ·exact gk c o n1 (λe=>hc (by simp[e])) (λe=>hc (by simp[e])) (λe=>hc (by simp[e])) ec) hfp
  refine⟨.ref s.heap.objs.size,_,I2,rfl,⟨_,x,y,rfl,hfr,λzs hz=>by rw[I.vG hz hq];exact hx,λzs hz=>by rw[I.vG hz hq2];exact hy,rfl⟩,⟨k1,?_,⟨u,u2,?_⟩,?_,?_⟩,λc hc=>(hfp c hc).1⟩
  ·exact(ks.2 TI D.TIz).trans (gk TI _ D.TIz D.TITO D.TIi1 D.TIi2 h2)
  ·exact(ks.2 TO D.TOz).trans g3
  ·exact g4.extBut ks.extBut D.i1z
  ·exact g5.extBut ks.extBut D.i2z
 done:=by
  intro X hP hw hK hc i pins s σ H E I hf st hg;subst hP hw hK;obtain⟨h1,h2,⟨c1,c2,h3⟩,h4,h5⟩:=st;obtain⟨xs,ys,hq,hq2,hx⟩:=hg;obtain⟨its,rv,p,hz⟩:=I.list hq;obtain⟨its2,rv2,p2,hz2⟩:=I.list hq2;have hl:=rv.length;have hl2:=rv2.length;refine wpAny_pyNext_zip_end (I.ok.hd hc) D h1 h2 h3 h4 h5 p.isList p2.isList (hx.imp (λe=>by simp;lia) (λe=>by simp;lia)) λh' gk=>⟨rfl,?_⟩;exact I.vY (t':=s.toks) (ch:=[z,TI,TO,i1,i2]) (λc o hc ec=>gk c o (λe=>hc (by simp[e])) (λe=>hc (by simp[e])) (λe=>hc (by simp[e])) (λe=>hc (by simp[e])) ec) hf
 self:=λ_ _ _ _ _ st h=>wpAny_pyIter_zip st.1 h
section
variable {X:Cx}{elts:List Expr}{x1:Nat}{tpos p pos:Pos}{e e2:Expr}{t:TA}
theorem znX:Wt "zip" = some (.type "zip"):=by decide +kernel
def Ed (K:Xc)(t:TA):TI:=λσ H R=>t σ H λvs H1=>∃a b,vs=[.ref a,.ref b]/\(∃xs,aR K H1 a xs)/\(∃ys,aR K H1 b ys)/\R (Ka K a b) H1
theorem zuG (hg:Gl X "zip") (hm:X.mg "zip" = none) (ha:PA X [e,e2] t) (he:Wf [e,e2] X.env=(false,Wx e X.env)::Wf [e2] X.env:=by rfl) (hpl:(Wu pos (Wf [e2] X.env)).any (·.1)=false:=by rfl) :
  PI X (.Tuple elts x1 tpos) (.Call (.Name "zip" p) [e,e2] [] pos) (Ed X.K t):=by
 intro pins s σ H R I h;refine WM (qL I hg hm znX ?_ (by decide) (by decide));refine QJ (aM (ha pos pins s σ H _ I h) λus s1 ⟨vs,H1,I1,r1,a,b,ev,⟨xs,hq⟩,⟨ys,hq2⟩,q⟩=>?_) he hpl;subst ev;obtain⟨u1,u2,rfl,r2,r3⟩:=vals2 r1;obtain rfl:u1=Qq a:=r2;obtain rfl:u2=Qq b:=r3;obtain⟨its,r,pl,hz⟩:=I1.list hq;obtain⟨its2,r',pl2,hz2⟩:=I1.list hq2;have ha':@LT.lt Nat _ a s1.heap.objs.size:=by obtain⟨o,ho,_⟩:=pl.isList;exact XC ho
 have hb':@LT.lt Nat _ b s1.heap.objs.size:=by obtain⟨o,ho,_⟩:=pl2.isList;exact XC ho
 refine call_zip_2 pl.isList pl2.isList λh' g1 g2 g3 g4 g5 gz gk=>?_;refine wpAny_pyIter_zip (s:={ s1 with heap:=h' }) g1 ?_;have I2:Inv X pins σ H1 { s1 with heap:=h' }:=I1.kept (t':=s1.toks) gk;have D:ZipApart (s1.heap.objs.size+4) (s1.heap.objs.size+2) (s1.heap.objs.size+3) s1.heap.objs.size (s1.heap.objs.size+1) a b:=by constructor<;>first | exact XM (by lia) | exact Nat.ne_of_gt (by lia)
 refine⟨_,_,_,_,H1,rfl,I2,zpO a b _ _ _ _ _ D,⟨g1,g2,⟨_,_,g3⟩,g4,g5⟩,λc hc=>?_,q⟩;have hc':s1.heap.objs.size<=c:=by
  simp only[Xx,Pz,or_false]at hc;rcases hc with rfl | rfl | rfl | rfl | rfl<;>lia
 exact I1.jb hc' (I1.hok.fresh hc')
end
end L2
namespace PL
open PySem PySem.Spec L2
open PyProof.Rows hiding St
def pD (ds es:List PV):List PV:=List.zipWith (λd e=>.tup [d,e]) ds es
theorem Kc {ds es:List PV}{i:Nat}{d:PV}(h:(pD ds es)[i]? = some d):∃x y,ds[i]? = some x/\es[i]? = some y/\d=.tup [x,y]:=by
 unfold pD at h;rw[List.getElem?_zipWith]at h;cases h1:ds[i]? with
 | none=>rw[h1]at h;cases h
 | some x=>
  cases h2:es[i]? with
  | none=>rw[h1,h2]at h;cases h
  | some y=>rw[h1,h2]at h;cases h;exact⟨x,y,rfl,rfl,rfl⟩
theorem Ef (ds es:List PV):(pD ds es).length=min ds.length es.length:=by simp[pD]
def zea (t:gO):je:=λρ Q=>t ρ λops=>noOwn ops=true/\∃ds es,ops.map (·.1)=[.lst ds,.lst es]/\Q (pD ds es) false
section
variable {X:Cx}{elts:List Expr}{x1:Nat}{tpos p pos:Pos}{e e2:Expr}{t:gO}
theorem zss (hg:Gl X "zip") (hm:X.mg "zip" = none) (ha:iR X [e,e2] t) (he:Wf [e,e2] X.env=(false,Wx e X.env)::Wf [e2] X.env:=by rfl) (hpl:(Wu pos (Wf [e2] X.env)).any (·.1)=false:=by rfl) :
  lF X (.Tuple elts x1 tpos) (.Call (.Name "zip" p) [e,e2] [] pos) (zea t) where
 mono ρ Q Q' m h:=ha.mono ρ _ _ (λops ⟨e1,ds,es,e,q⟩=>⟨e1,ds,es,e,m _ _ q⟩) h
 run:=PI.weak (zuG hg hm ha.run he hpl) λσ H Rr h=>by
  obtain⟨ρ,Fz,R,h⟩:=h;refine⟨ρ,Fz,R,ha.mono ρ _ _ (λops q vs ao H' x o=>?_) h⟩;obtain⟨hn,ds,es,eo,q⟩:=q;obtain⟨F2,x2,s2,d2⟩:=o.frozen x hn;rw[eo]at d2;simp only[aj]at d2;obtain⟨v1,r1,rfl,d1,v2,r2,rfl,d3,rfl⟩:=d2;simp only[aq]at d1 d3;obtain⟨a,xs,rfl,a1,a2⟩:=d1;obtain⟨b,ys,rfl,b1,b2⟩:=d3;have sq:∀ {c:We} {zs:List V} {H2:Hp},Keep F2 H' H2->((F2 c/\Rd H' c (.lst zs))\/KX X.K c zs)->aR X.K H2 c zs:=λkp h=>h.elim (λh=>.inl (kp.rd trivial h.1 h.2)) KX.sq;refine⟨a,b,rfl,⟨xs,sq (.of (Same.refl _)) a1⟩,⟨ys,sq (.of (Same.refl _)) b1⟩,q _ F2 H' x2 λH2 hH i=>?_⟩;have kp:Keep F2 H' H2:=hH.elim (λz=>.of z) (λz=>.mk' z.2);have g1:=sq kp a1;have g2:=sq kp b1;have m1:=aj.mono kp (λ_ h=>h) _ _ a2;have m2:=aj.mono kp (λ_ h=>h) _ _ b2;have l1:=m1.length;have l2:=m2.length;refine⟨λd hd=>?_,λhi=>⟨xs,ys,g1,g2,by rw[Ef]at hi;lia⟩⟩;obtain⟨u,w,hu,hw,rfl⟩:=Kc hd;obtain⟨v,q1,q2⟩:=m1.get hu;obtain⟨v',q3,q4⟩:=m2.get hw;refine⟨⟨xs,ys,v,v',g1,q1,g2,q3⟩,λy H3 ⟨pp,c1,c2,ey,hnp,gy,gy2,e3⟩=>?_⟩;subst ey e3;have e1:=gy xs g1;rw[q1]at e1;cases e1;have e2:=gy2 ys g2;rw[q3]at e2;cases e2;have sm:Same H2 (upd H2 pp (.tup [v,v'])):=λb o hb=>by rw[aO (mH hb hnp)];exact hb
  refine⟨sm,?_⟩;simp only[aq];exact⟨pp,_,rfl,bF,aj.cons (aq.mono (.of sm) (λ_ h=>h) _ _ q2) (aj.cons (aq.mono (.of sm) (λ_ h=>h) _ _ q4) aj.nil)⟩
end
end PL
namespace PySem.SeqAt
open MeetsSeq
theorem ziL {M:Model}{A:Wv}{E:Ti}{s:Wd}{β:Type}{a b:Nat}{f:Nat->β->Sem (ForInStep β)}(I:Nat->β->Wd->Prop)(Q:β->Wd->Prop)
  (turn:∀i c s,a<=i->i<b->I i c s->Wj M A (f i c) (λr s'=>match r with | .yield c'=>I (i+1) c' s' | .done c'=>Q c' s') E s)
  (fin:∀c s,I (max a b) c s->Q c s) (c:β) (h:I a c s):Wj M A (forIn ([a:b]:Std.Legacy.Range) c f) Q E s:=by
 rw[Std.Legacy.Range.forIn_eq_forIn_range'];have hz:([a:b]:Std.Legacy.Range).size=b-a:=by simp[Std.Legacy.Range.size]
 show Wj M A (forIn (List.range' a ([a:b]:Std.Legacy.Range).size 1) c f) Q E s;rw[hz];refine Vg f (λl c s=>∃i,a<=i/\i<=max a b/\l=List.range' i (max a b-i) 1/\I i c s) Q ?_ ?_ _ c ⟨a,Xj _,by lia,by congr 1;lia,h⟩
 ·rintro x rest c s ⟨i,h1,h2,hl,hI⟩;have lt:i<max a b:=by
   rcases Nf i (max a b)with h' | h'
   ·exact h'
   ·rw[show max a b-i=0 by lia]at hl;simp at hl
  obtain⟨n,hn⟩:∃n,max a b-i=n+1:=⟨max a b-i-1,by lia⟩;rw[hn,List.range'_succ]at hl;obtain⟨rfl,rfl⟩:=Pn hl;refine W8 (turn x c s h1 (by lia) hI) (λr s' h'=>?_) λ_ _ h'=>h';cases r with
  | done c'=>exact h'
  | yield c'=>exact⟨x+1,by lia,by lia,by congr 1;lia,h'⟩
 ·rintro c s ⟨i,h1,h2,hl,hI⟩;have e:i=max a b:=by
   rcases Nf i (max a b)with h' | h'
   ·obtain⟨n,hn⟩:∃n,max a b-i=n+1:=⟨max a b-i-1,by lia⟩;rw[hn,List.range'_succ]at hl;simp at hl
   ·lia
  subst e;exact fin _ _ hI
theorem zhF (l:We)(items:Array Wb)(n:Nat)(dd:Option We)(sl:Array (Tv))(x:Wb)(e:Wb->Bool)(j:Nat)(hj:j<items.size)
  (hit:e items[j]=true) (hno:∀m (hm:m<items.size),m<j->e items[m]=false) :
  Meets (Builtin.«tuple.index» ⟨[.ref l,x],[]⟩)
   (λA R s=>s.heap.get? l=some { cls:=.type "tuple",dict:=dd,data:=.seq items n,slots:=sl }/\(∀y,y∈items->EqAt A.in1 s y x (e y))/\R (.ok (.ret (.int j s.toks))) { s with toks:=s.toks+1 }):=
 .of_wp λprog w A R s h=>by
  obtain⟨hp,g,d,tk,os⟩:=s;obtain⟨hl,he,h⟩:=h
  wp_walk using wpAny_loadPart' hl,ziL (λi (b:Option _×Unit) s'=>b.1=none/\s'=⟨hp,g,d,tk,os⟩/\i<=j) _
  case turn=>
   rintro i b s' h0 hi ⟨hb,rfl,hij⟩;have hi':i<items.size:=by lia
   rw[show items[i]? = some items[i] from Array.getElem?_eq_getElem hi'];refine Wa (he _ (Array.getElem_mem hi') prog w _ _ ?_);by_cases ej:i=j
   ·subst ej;rw[hit]
    wp_walk
    exact⟨_,rfl,h⟩
   ·rw[hno i hi' (by lia)]
    wp_walk
    exact⟨rfl,rfl,by lia⟩
  case fin=>
   rintro b s' ⟨hb,rfl,hij⟩;exact Qg hij (by lia)
  case h=>exact⟨rfl,rfl,Ye _⟩
end PySem.SeqAt
namespace L2
open PySem PySem.Spec PyProof.Rows
variable {xs:List V}
section
variable {X:Cx}
def yd (sq:Hp->We->List V->Prop):V->List V->Hp->VK->Prop:=λx vs H Q=>∃(p:We)(xs:List V)(y:V)(j:Nat),x=.ref p/\vs=[y]/\sq H p xs/\lW y=true/\xs.all lW=true/\(∃w,xs[j]? = some w/\g8 w y=true)/\(∀m w,m<j->xs[m]? = some w->g8 w y=false)/\Q (.int (j:Int)) H
theorem Ke:∀ {xs:List V}{us:Tq}{m:Nat}{u:Wb},Vals xs us->us[m]? = some u->∃w,xs[m]? = some w/\RelV w u
 | _,_,m,u,.nil,h=>by simp at h
 | x::xs,v::us,0,u,.cons r t,h=>by simp at h;subst h;exact⟨x,rfl,r⟩
 | x::xs,v::us,m+1,u,.cons r t,h=>by simpa using Ke t (by simpa using h)
theorem zst {m:Nat}{w:V}(f:xs.all lW=true)(h:xs[m]? = some w):lW w=true:=XV.mp f w (Xl h)
theorem Kf {its:Tq}{y:V}{j:Nat}(r:Vals xs its)(fs:xs.all lW=true)(h1:∃w,xs[j]? = some w/\g8 w y=true)(h2:∀m w,m<j->xs[m]? = some w->g8 w y=false) :
  ∃hj:j<its.toArray.size,uy y its.toArray[j]=true/\∀m (hm:m<its.toArray.size),m<j->uy y its.toArray[m]=false:=by
 have hl:=r.length;obtain⟨w,hw,ew⟩:=h1;have hj:j<xs.length:=(Xf.mp hw).1;have hj':j<its.length:=by lia
 have at_:∀m (hm:m<its.length),∀w,xs[m]? = some w->uy y its[m]=g8 w y:=λm hm w hx=>by
  obtain⟨w',q1,q2⟩:=Ke r (Xa hm);rw[hx]at q1;cases q1;exact G9 q2 (zst fs hx)
 refine⟨by simpa using hj',?_,λm hm hlt=>?_⟩
 ·have:=at_ j hj' w hw;simpa[ew]using this
 ·have hm':m<its.length:=by simpa using hm
  have hx:xs[m]? = some xs[m]:=Xa (by lia);have:=at_ m hm' _ hx;rw[h2 m _ hlt hx]at this;simpa using this
theorem znZ:wY X "list.index" (yd λH p xs=>aR X.K H p xs):=by
 intro pins s σ H x vs v us Q I rx rv h;obtain⟨p,xs,y,j,rfl,rfl,hq,fy,fs,h1,h2,q⟩:=h;cases rx;obtain⟨u,rfl,ru⟩:=rv.one;obtain⟨its,r,pl,hz⟩:=I.list hq;obtain⟨hj,e1,e2⟩:=Kf r fs h1 h2;obtain⟨⟨cls,dd,data,sl⟩,n,ho,hc,hd,hs⟩:=id pl;simp only at hc hd hs;subst hc hd hs;have hl:=r.length;have hz':=hz;rw[Wr]at hz';have hj2:j<its.length:=by simpa using hj
 exact call_meets PySem.F.slot_list_index ⟨_,ho,rfl⟩ PySem.F.entry_list_index (PySem.F.args_list_index_2 _ _) (SeqAt.list_indexAt p its.toArray n _ sl u (uy y) j hj (by lia) e1 e2) ⟨ho,λz hz=>BR ru fy r fs z (by simpa using hz),⟨.int (j:Int),H,I.tok _,⟨_,rfl⟩,q⟩⟩
theorem zoa:wY X "tuple.index" (yd λH p xs=>bG X.K H p xs):=by
 intro pins s σ H x vs v us Q I rx rv h;obtain⟨p,xs,y,j,rfl,rfl,hq,fy,fs,h1,h2,q⟩:=h;cases rx;obtain⟨u,rfl,ru⟩:=rv.one;obtain⟨its,r,pl,hz⟩:=I.tuple hq;obtain⟨hj,e1,e2⟩:=Kf r fs h1 h2;obtain⟨⟨cls,dd,data,sl⟩,ho,hc,n,hd⟩:=id pl;simp only at hc hd;subst hc hd;exact call_meets PySem.F.slot_tuple_index ⟨_,ho,rfl⟩ PySem.F.entry_tuple_index (PySem.F.args_tuple_index_2 _ _) (SeqAt.zhF p its.toArray n dd sl u (uy y) j hj e1 e2) ⟨ho,λz hz=>BR ru fy r fs z (by simpa using hz),⟨.int (j:Int),H,I.tok _,⟨_,rfl⟩,q⟩⟩
theorem Inv.zuH {pins:Tg}{σ:St}{H:Hp}{s:Wd}{a:We}(I:Inv X pins σ H s)(h:bG X.K H a xs):∃ob,s.heap.get? a=some ob/\ob.cls=.type "tuple"/\ob.dict=none:=by
 rcases h with h | ⟨o,its,n,hk,hc,hs,hz,r,hd⟩
 ·obtain⟨z,its,r,o,h1,h2,h3,h4⟩:=h.ok I.hok;exact⟨o,h1,h2,h4⟩
 ·exact⟨o,I.qd a o hk,hc,hd⟩
variable {o e:Expr}{to te:TE}{name:Str}{apos cpos:Pos}{id:String}{r:V->List V->Hp->VK->Prop}
end
end L2
namespace PL
open PySem PySem.Spec L2
open PyProof.Rows hiding St
variable {d:PV}{v:V}
def oE:PV->Bool
 | .non=>true
 | .int _=>true
 | .str _=>true
 | _=>false
def iu (ds:List PV)(e:PV):Nat:=ds.findIdx λx=>decide (x=e)
section
variable {K:Xc}{Fz:FZ}{H:Hp}
theorem Kg (f:oE d=true)(h:aq K Fz H d v):lW v=true:=by
 cases d with
 | non=>simp only[aq]at h;subst h;rfl
 | int i=>simp only[aq]at h;subst h;rfl
 | str x=>simp only[aq]at h;subst h;rfl
 | _=>exact Qg (show false=true from f) Xw
theorem Kh {e:PV}{w:V}(fd:oE d=true)(fe:oE e=true)(hd:aq K Fz H d v)(he:aq K Fz H e w):g8 v w=decide (d=e):=by
 cases d with
 | non=>
  simp only[aq]at hd;subst hd;cases e with
  | non=>simp only[aq]at he;subst he;simp[g8]
  | int i=>simp only[aq]at he;subst he;simp[g8]
  | str x=>simp only[aq]at he;subst he;simp[g8]
  | _=>exact Qg (show false=true from fe) Xw
 | int i=>
  simp only[aq]at hd;subst hd;cases e with
  | non=>simp only[aq]at he;subst he;simp[g8]
  | int i=>simp only[aq]at he;subst he;rw[Jc];rfl
  | str x=>simp only[aq]at he;subst he;simp[g8]
  | _=>exact Qg (show false=true from fe) Xw
 | str x=>
  simp only[aq]at hd;subst hd;cases e with
  | non=>simp only[aq]at he;subst he;simp[g8]
  | int i=>simp only[aq]at he;subst he;simp[g8]
  | str x=>simp only[aq]at he;subst he;rw[Jd];rfl
  | _=>exact Qg (show false=true from fe) Xw
 | _=>exact Qg (show false=true from fd) Xw
theorem Kl:∀ {ds:List PV}{xs:List V},ds.all oE=true->aj K Fz H ds xs->xs.all lW=true
 | [],xs,_,h=>by simp only[aj]at h;subst h;rfl
 | d::ds,xs,f,h=>by
  simp only[aj]at h;obtain⟨v,r,rfl,h1,h2⟩:=h;rw[Pk,YE]at f ⊢;exact⟨Kg f.1 h1,Kl f.2 h2⟩
theorem zsu {ds:List PV}{xs:List V}{e:PV}{y:V}(f:ds.all oE=true)(fe:oE e=true)(h:aj K Fz H ds xs)(hy:aq K Fz H e y)(hm:e∈ds) :
  (∃w,xs[iu ds e]? = some w/\g8 w y=true)/\∀m w,m<iu ds e->xs[m]? = some w->g8 w y=false:=by
 have hi:iu ds e<ds.length:=QS ⟨e,hm,by simp⟩;have hl:=h.length;refine⟨?_,λm w hlt hw=>?_⟩
 ·obtain⟨w,q1,q2⟩:=h.get (Xa hi);refine⟨w,q1,?_⟩;have:=List.findIdx_getElem (p:=λx=>decide (x=e)) (xs:=ds) (w:=hi);rw[Kh (XV.mp f _ (XY hi)) fe q2 hy];exact this
 ·have hm':m<ds.length:=by
   have:=(Xf.mp hw).1;lia
  obtain⟨w',q1,q2⟩:=h.get (Xa hm');rw[hw]at q1;cases q1;rw[Kh (XV.mp f _ (XY hm')) fe q2 hy];have:=List.not_of_lt_findIdx (p:=λx=>decide (x=e)) (xs:=ds) hlt;simpa using this
end
theorem zoc {K:Xc}{Fz:FZ}{H:Hp}(f:oE d=true)(h:aA K Fz H d v):aq K Fz H d v:=by
 cases d with
 | non=>exact h
 | int i=>exact h
 | str x=>exact h
 | _=>exact Qg (show false=true from f) Xw
end PL
namespace L2
open PySem PySem.Spec PyProof.Rows
section
variable {X:Cx}
theorem zod (hc:X.calm=true):j5 X (.builtin "sum") (λxs H Q=>∃(p:We) (ns:Tp),xs=[V.ref p]/\aR X.K H p (ns.map V.int)/\Q (.int ns.sum) H):=by
 intro pins s σ H xs us Q I r h;obtain⟨p,ns,rfl,hq,q⟩:=h;obtain⟨u,rfl,rx⟩:=vals1 r;cases rx;obtain⟨its,r',pl,hz⟩:=I.list hq;have hI:Vp its ns:=intsAre_of r';have hl:=pl.isList;have hall:=hI.allInts;obtain⟨zs,ez⟩:=hall.items;rw[ez]at hl;refine sum_intListG (I.ok.hd hc) hl λh' tk t' hk=>?_;have en:preSum (numAt zs) zs.size=ns.sum:=by
  have e1:numsOf its.toArray.toList=ns:=hI.numsOf;rw[ez,nums_intItems]at e1;rw[preSum_eq,Xs (by simp),e1]
 rw[en];exact⟨.int ns.sum,H,I.kept hk,⟨_,rfl⟩,q⟩
theorem zoe (hc:X.calm=true){pins:Tg}{σ:St}{H:Hp}{p it:We}{as:Tr}{cJ:List (List V)}{R:Result->Wd->Prop}(hq:aR X.K H p (as.map V.ref))(hl:as.length=cJ.length)(hy:∀(i:Nat) a ys,as[i]? = some a->cJ[i]? = some ys->aR X.K H a ys)(hf:cQ X pins H it) :
  ∀(k i:Nat) (s:Wd),as.length-i=k->i<=as.length->Inv X pins σ H s->s.heap.IsListIter it p i->(∀s',Inv X pins σ H s'->R (.ok (.ret (.bool ((cJ.drop i).all λys=>!ys.isEmpty)))) s')->Vd (Wm X.prog X.w) X.A (.builtin "all.loop" ⟨[.ref it],[]⟩) R s:=by
 intro k;obtain⟨f0,f1,f2,f3,f4,f5⟩:=hf;induction k with
 | zero=>
  intro i s hk hi I st hR;obtain⟨its,rv,pl,hz⟩:=I.list hq;have hlen:=rv.length;rw[Xb]at hlen;refine WI F.entry_all_loop ?_;rw[Qy F.plain_all_loop _];show Wj _ X.A.in1 (Vo (.ref it) >>= _) _ _ s;refine Wa (wpAny_pyNext_list_end (I.ok.hd hc) st pl.isList (by simp;lia) λh' eb=>?_);have I1:Inv X pins σ H { s with heap:=h' }:=I.turned (t':=s.toks) (λb o hb e=>eb b o hb e) f0 f1 f3 f4 f5;refine Wa (WK (Wc ?_));have:=hR _ I1;rw[YA (by lia)]at this;exact this
 | succ k ih=>
  intro i s hk hi I st hR;obtain⟨its,rv,pl,hz⟩:=I.list hq;have hlt:i<as.length:=by lia
  have hlt2:i<cJ.length:=by lia
  obtain⟨u,hu,ru⟩:=rv.get (i:=i) (x:=.ref as[i]) (by simp[hlt]);cases ru;have hys:=hy i _ _ (Xa hlt) (Xa hlt2);have hd:cJ.drop i=cJ[i]::cJ.drop (i+1):=Yz hlt2;refine WI F.entry_all_loop ?_;rw[Qy F.plain_all_loop _];show Wj _ X.A.in1 (Vo (.ref it) >>= _) _ _ s;refine Wa (W0 st pl.isList (x:=.ref as[i]) (by simpa using hu) λh' st' sb=>?_);have I1:Inv X pins σ H { s with heap:=h' }:=I.turned (t':=s.toks) (λb o hb e=>(sb.2 b hb).trans e) f0 f1 f3 f4 f5;obtain⟨its2,rv2,pl2,hz2⟩:=I1.list hys;have hlen2:=rv2.length;rw[Wr]at hz2;refine Wa (Wy (wpAny_truthy_list pl2.isList (by simp only[Xo];lia) ?_));refine Wa (wpAny_letGo ?_);rw[Bt rv2];have I2:=I1.tok (s.toks+1+1);cases hb:(cJ[i]).isEmpty with
  | false=>
   refine Wc ⟨WO F.plain_all_loop _,ih (i+1) _ (by lia) hlt I2 st' λs' I'=>?_⟩;have:=hR s' I';rw[hd,Pk,hb]at this;simpa using this
  | true=>
   refine Wa (WK (Wc ?_));have:=hR _ I2;rw[hd,Pk,hb]at this;simpa using this
theorem zof (hc:X.calm=true):j5 X (.builtin "all") (λxs H Q=>∃(p:We) (as:Tr) (cJ:List (List V)),xs=[V.ref p]/\aR X.K H p (as.map V.ref)/\as.length=cJ.length/\(∀(i:Nat) a ys,as[i]? = some a->cJ[i]? = some ys->aR X.K H a ys)/\Q (.bl (cJ.all λys=>!ys.isEmpty)) H):=by
 intro pins s σ H xs us Q I r h;obtain⟨p,as,cJ,rfl,hq,hl,hy,q⟩:=h;obtain⟨u,rfl,rx⟩:=vals1 r;cases rx;obtain⟨its,r',pl,hz⟩:=I.list hq;have I1:Inv X pins σ H { s with heap:=s.heap.push { cls:=.type "list_iterator",data:=.fields #[.ref p,.int 0 0] } }:=I.kept (t':=s.toks) λb o e=>Xn _ e;refine call_function_tree F.kind_all F.plain_all F.entry_all (F.args_all1 _) ?_;unfold Builtin.«all»;refine Wa (m:=oneArg "all" _) (Wc ?_);refine Wa (W6 pl.isList (Wc ⟨WO F.plain_all_loop _,?_⟩));refine zoe hc hq hl hy (I.jb (Xj _) (I.hok.fresh (Xj _))) _ 0 _ rfl (Ye _) I1 ⟨_,XA _ rfl,rfl,rfl⟩ λs' I'=>?_;exact⟨.bl _,H,I',rfl,by simpa using q⟩
end
end L2
namespace PL
open PySem PySem.Spec L2
open PyProof.Rows hiding St
variable {H:Hp}
section
variable {X:Cx}
def fSum:PF:=λds Q=>∃ns:Tp,ds=[.lst (ns.map PV.int)]/\Q (.int ns.sum) .aH
theorem Eg {K:Xc}{Fz:FZ}:∀ {ns:Tp}{xs:List V},aj K Fz H (ns.map PV.int) xs->xs=ns.map V.int
 | [],xs,h=>by simpa only[Yl,aj]using h
 | n::ns,xs,h=>by
  simp only[Yl,aj,aq]at h;obtain⟨v,r,rfl,rfl,h⟩:=h;rw[Eg h];rfl
theorem zuI:nR X.K (λxs H Q=>∃(p:We)(ns:Tp),xs=[V.ref p]/\aR X.K H p (ns.map V.int)/\Q (.int ns.sum) H) fSum where
 mono ds Q Q' m h:=by obtain⟨ns,e,q⟩:=h;exact⟨ns,e,m _ _ q⟩
 run Fz H ds vs Q al hr h:=by
  obtain⟨ns,rfl,q⟩:=h;obtain⟨v,rfl,h1⟩:=qu hr;obtain⟨a,xs,rfl,h2,h3⟩:=dB h1;rw[Eg h3]at h2;exact⟨a,ns,rfl,h2,q _ Fz H (.val al (by simp only[aq]))⟩
def fOrd:PF:=λds Q=>∃x:Str,ds=[.str x]/\x.length=1/\Q (.int (x.cps.getD 0 0:Nat)) .aH
theorem zuJ:nR X.K (λxs H Q=>∃x,xs=[V.str x]/\x.length=1/\Q (.int (x.cps.getD 0 0:Nat)) H) fOrd where
 mono ds Q Q' m h:=by obtain⟨x,e,e2,q⟩:=h;exact⟨x,e,e2,m _ _ q⟩
 run Fz H ds vs Q al hr h:=by
  obtain⟨x,rfl,e2,q⟩:=h;obtain⟨v,rfl,h1⟩:=qu hr;exact⟨x,by rw[oZ h1],e2,q _ Fz H (.val al (by simp only[aq]))⟩
def zdF:PF:=λds Q=>∃dss:List (List PV),ds=[.lst (dss.map PV.lst)]/\Q (.bl (dss.all λd=>!d.isEmpty)) .aH
theorem Km {K:Xc}{Fz:FZ}:∀ {dss:List (List PV)}{xs:List V},aj K Fz H (dss.map PV.lst) xs->∃(as:Tr)(cJ:List (List V)),xs=as.map V.ref/\as.length=cJ.length/\(∀(i:Nat) a ys,as[i]? = some a->cJ[i]? = some ys->aR K H a ys)/\(cJ.all λys=>!ys.isEmpty)=dss.all λd=>!d.isEmpty
 | [],xs,h=>by
  simp only[Yl,aj]at h;exact⟨[],[],by rw[h];rfl,rfl,λi a ys h=>by simp at h,rfl⟩
 | d::dss,xs,h=>by
  simp only[Yl,aj,aq]at h;obtain⟨v,r,rfl,⟨a,ys,rfl,h1,h2⟩,h⟩:=h;obtain⟨as,cJ,e,el,hs,hb⟩:=Km h;have hl:=h2.length;refine⟨a::as,ys::cJ,by rw[e];rfl,by simp[el],λi b zs q1 q2=>?_,?_⟩
  ·cases i with
   | zero=>simp at q1 q2;subst q1 q2;exact h1.elim (λz=>.inl z.2) KX.sq
   | succ i=>exact hs i b zs (by simpa using q1) (by simpa using q2)
  ·rw[Pk,Pk,hb];cases d with
   | nil=>cases ys with
    | nil=>rfl
    | cons _ _=>simp at hl
   | cons _ _=>cases ys with
    | nil=>simp at hl
    | cons _ _=>rfl
theorem zsv:nR X.K (λxs H Q=>∃(p:We)(as:Tr)(cJ:List (List V)),xs=[V.ref p]/\aR X.K H p (as.map V.ref)/\as.length=cJ.length/\(∀(i:Nat) a ys,as[i]? = some a->cJ[i]? = some ys->aR X.K H a ys)/\Q (.bl (cJ.all λys=>!ys.isEmpty)) H) zdF where
 mono ds Q Q' m h:=by obtain⟨ns,e,q⟩:=h;exact⟨ns,e,m _ _ q⟩
 run Fz H ds vs Q al hr h:=by
  obtain⟨dss,rfl,q⟩:=h;obtain⟨v,rfl,h1⟩:=qu hr;obtain⟨a,xs,rfl,h2,h3⟩:=dB h1;obtain⟨as,cJ,rfl,el,hs,hb⟩:=Km h3;exact⟨a,as,cJ,rfl,h2,el,hs,q _ Fz H (.val al (by simp only[aq];rw[hb]))⟩
variable {e:Expr}{es:List Expr}{t:gO}{p pos:Pos}
theorem Eh:Wt "sum" = some (.builtin "sum"):=by decide +kernel
theorem Ei:Wt "ord" = some (.builtin "ord"):=by decide +kernel
theorem zvT:Wt "all" = some (.builtin "all"):=by decide +kernel
theorem zuK (hc:X.calm=true)(hg:Gl X "sum") (hm:X.mg "sum" = none) (ha:iR X (e::es) t) (he:Wf (e::es) X.env=(false,Wx e X.env)::Wf es X.env:=by rfl) (hpl:(Wu pos (Wf es X.env)).any (·.1)=false:=by rfl):aD X (.Call (.Name "sum" p) (e::es) [] pos) (tB fSum t):=
 uG (zod hc) zuI hg hm Eh ha (by decide) (by decide) he hpl
theorem zuL (hg:Gl X "ord") (hm:X.mg "ord" = none) (ha:iR X (e::es) t) (he:Wf (e::es) X.env=(false,Wx e X.env)::Wf es X.env:=by rfl) (hpl:(Wu pos (Wf es X.env)).any (·.1)=false:=by rfl):aD X (.Call (.Name "ord" p) (e::es) [] pos) (tB fOrd t):=
 uG UL zuJ hg hm Ei ha (by decide) (by decide) he hpl
theorem zsw (hc:X.calm=true)(hg:Gl X "all") (hm:X.mg "all" = none) (ha:iR X (e::es) t) (he:Wf (e::es) X.env=(false,Wx e X.env)::Wf es X.env:=by rfl) (hpl:(Wu pos (Wf es X.env)).any (·.1)=false:=by rfl):aD X (.Call (.Name "all" p) (e::es) [] pos) (tB zdF t):=
 uG (zof hc) zsv hg hm zvT ha (by decide) (by decide) he hpl
end
section
variable {X:Cx}{pos:Pos}
def zeb:aN:=λ_ Q=>Q (.dK [] []) .new
def zec:aN:=λ_ Q=>Q (.dT [] []) .new
theorem Ko:aD X (.Dict [] [] pos) zeb where
 mono ρ Q Q' m h:=m _ _ h
 run:=PE.weak Hs λσ H Q h=>by
  obtain⟨ρ,Fz,R,h⟩:=h;exact λp hp=>h _ Fz _ ⟨Ext.laid ⟨Same.refl H,λ_ h=>h,λ_ h=>.inl h,R.al⟩ hp,p,rfl,hp,λz=>R.al p z hp,[],bF,rfl,aj.nil⟩
theorem zsx:aD X (.Dict [] [] pos) zec where
 mono ρ Q Q' m h:=m _ _ h
 run:=PE.weak Ht λσ H Q h=>by
  obtain⟨ρ,Fz,R,h⟩:=h;exact λp hp=>h _ Fz _ ⟨Ext.laid ⟨Same.refl H,λ_ h=>h,λ_ h=>.inl h,R.al⟩ hp,p,rfl,hp,λz=>R.al p z hp,[],bF,rfl,aj.nil⟩
end
def lJ (k:List Key):PV:=.tup (k.map dG)
section
variable {K:Xc}{Fz:FZ}{H:Hp}
theorem Kp:∀ {k:List Key}{xs:List V},aj K Fz H (k.map dG) xs->xs=k.map kV
 | [],xs,h=>by simpa only[Yl,aj]using h
 | c::k,xs,h=>by
  simp only[Yl,aj]at h;obtain⟨v,r,rfl,h1,h2⟩:=h;rw[Kp h2,zM (show aA K Fz H (dG c) v by cases c<;>exact h1)];rfl
theorem zQ {k:List Key}{x:V}(h:aA K Fz H (lJ k) x):∃b,x=.ref b/\H b=some (.tup (k.map kV)):=by
 obtain⟨b,xs,rfl,h1,h2⟩:=xR h;rw[Kp h2]at h1;exact⟨b,rfl,h1⟩
theorem zsy {ks:List (List Key)}{ds:List PV}{x:V}(h:aA K Fz H (.dT ks ds) x):∃a xs,x=.ref a/\Rd H a (.dT (ks.zip xs))/\ks.length=xs.length/\aj K Fz H ds xs:=by
 simpa only[aA]using h
def pDIT (neg:Bool):P2:=λe d Q=>∃ks ds k,d=.dT ks ds/\e=lJ k/\Q (.bl (if neg then !(fU ks ds k).isSome else(fU ks ds k).isSome)) .aH
theorem Ej {neg:Bool}:jB K (DN neg) (pDIT neg) where
 mono d e Q Q' m h:=by obtain⟨ks,ds,k,e1,e2,q⟩:=h;exact⟨ks,ds,k,e1,e2,m _ _ q⟩
 run Fz H x y d e Q al rx ry h:=by
  obtain⟨ks,ds,k,rfl,rfl,q⟩:=h;obtain⟨a,xs,rfl,r,hl,hd⟩:=zsy ry;obtain⟨b,rfl,hb⟩:=zQ rx;have e4:(bf (ks.zip xs) k).isSome=(fU ks ds k).isSome:=by
   cases e:fU ks ds k with
   | none=>rw[(uP ks ds xs k hd).2 e];rfl
   | some d'=>obtain⟨v,e5,_⟩:=(uP ks ds xs k hd).1 d' e;rw[e5];rfl
  refine⟨a,bf (ks.zip xs) k,rfl,.inr ⟨_,k,b,r,rfl,hb,rfl⟩,?_⟩;rw[e4];exact q _ Fz H (.val al (by simp only[aq]))
end
section
variable {X:Cx}{a b c:Expr}{ta tb tc:aN}{pos apos cpos:Pos}
theorem Kq {p:P2}(hp:jB X.K (DN false) p)(ha:aD X a ta)(hb:aD X b tb){σ:St}{Q:VK}(h:lift X.K (t2 p ta tb) σ H Q):xu (lift X.K ta) (lift X.K tb) σ H Q:=by
 have:=vN hp ha hb h;exact this
theorem zuM (hu:X.A.units+1<WG)(ha:aD X a ta)(hb:aD X b tb)(hm:Ww .In b=false:=by rfl):aD X (.Compare a [.In] [b] pos) (t2 (pDI false) ta tb):=
 ⟨qm J0 ha hb,PE.weak (SN (Hr hu ha.run hb.run) hm) λ_ _ _ h=>Kq J0 ha hb h⟩
theorem zpP (hu:X.A.units+1<WG)(ha:aD X a ta)(hb:aD X b tb)(hm:Ww .In b=false:=by rfl):gq X (.Compare a [.In] [b] pos) (tBl (t2 (pDIT false) ta tb)) where
 mono ρ Q Q' m h:=qm Ej ha hb ρ _ _ (λd k q=>CQ m q) h
 run:=PT.weak (Gu (Hr hu ha.run hb.run) hm) λσ H Q h=>by
  obtain⟨ρ,Fz,R,h⟩:=h;refine Kq Ej ha hb ⟨ρ,Fz,R,qm Ej ha hb ρ _ _ (λd k q v F1 H1 p=>?_) h⟩;obtain⟨bb,rfl,q⟩:=xP.mp q;exact⟨bb,xQ (p.root R),q F1 H1 p.ext⟩
def zcy (ta tb tc:aN):aN:=λρ Q=>ta ρ λd kd=>∃ks ds,d=.dT ks ds/\isOwn kd=false/\tb ρ λe _=>∃k,e=lJ k/\tc ρ λf kf=>isOwn kf=false/\Q ((fU ks ds k).getD f) .aH
theorem zpQ (hu:X.A.units+1<WG)(ha:aD X a ta)(hb:aD X b tb)(hc:aD X c tc)(m:M2 X a "get" apos b c cpos:=by exact⟨rfl,rfl,rfl,rfl⟩):aD X (.Call (.Attribute a "get" apos) [b,c] [] cpos) (zcy ta tb tc) where
 mono ρ Q Q' mm h:=ha.mono ρ _ _ (λd _ ⟨ks,ds,e1,e2,h⟩=>⟨ks,ds,e1,e2,hb.mono ρ _ _ (λe _ ⟨k,e3,h⟩=>⟨k,e3,hc.mono ρ _ _ (λf _ ⟨e4,q⟩=>⟨e4,mm _ _ q⟩) h⟩) h⟩) h
 run:=PE.weak (Y6 hu ha.run hb.run hc.run m) λσ H Q h=>by
  obtain⟨ρ,Fz,R,h⟩:=h;refine⟨ρ,Fz,R,ha.mono ρ _ _ (λd kd q v F1 H1 p1=>?_) h⟩;obtain⟨ks,ds,rfl,ho,q⟩:=q;obtain⟨F1',x1,s1,d1⟩:=p1.frozen (uQ ho);have R1:=R.ext x1;simp only[aq]at d1;obtain⟨a,xs,rfl,f1,r1,l1,dl1⟩:=d1;refine⟨a,rfl,.inr ⟨_,r1⟩,ρ,F1',R1,hb.mono ρ _ _ (λe ke q w F2 H2 p2=>?_) q⟩;obtain⟨k,rfl,q⟩:=q;have R2:=R1.ext p2.ext;obtain⟨bb,rfl,hbb⟩:=zQ (p2.root R1);refine⟨ρ,F2,R2,hc.mono ρ _ _ (λf kf q u F3 H3 p3=>?_) q⟩;obtain⟨ho3,q⟩:=q;obtain⟨F4,x4,s4,d4⟩:=p3.frozen (uQ ho3);have kp:Keep F1' H1 H3:=.of (p2.ext.same.trans x4.same);have sb:∀b,F1' b->F4 b:=λb h=>x4.sub b (p2.ext.sub b h);have r3:Rd H3 a (.dT (ks.zip xs)):=kp.rd trivial f1 r1;have dl3:aj X.K F4 H3 ds xs:=aj.mono kp sb _ _ dl1;refine⟨bf (ks.zip xs) k,.inr ⟨_,k,bb,r3,rfl,x4.same _ _ hbb,rfl⟩,q _ F4 H3 ⟨(x1.trans p2.ext).trans x4,?_⟩⟩;show aq _ _ _ _ _;cases e:fU ks ds k with
  | none=>rw[(uP ks ds xs k dl3).2 e];exact d4
  | some d'=>obtain⟨v,e5,h5⟩:=(uP ks ds xs k dl3).1 d' e;rw[e5];exact h5
end
end PL
namespace PySem
section
variable {prog:Wo}{w:Ws}{K:Type} [DecidableEq K] {knd:HeapKind prog w K}{A:Wv}{E:Ti}{s:Wd}
theorem zfh {d a:We}{xs:List (K×We×Wb)}{k:K}{v:Wb}{Q:Ti}(hu:knd.room A)(hkey:knd.is s.heap k a)(hm:s.heap.DictOfH knd d xs)
  (there:∀p,atKey xs k=some p->Q p.2 { s with toks:=s.toks+knd.draws k })
  (fresh:atKey xs k=none->∀h',h'.DictOfH knd d (storedH xs k a v)->Ys d s.heap h'->Q v { s with heap:=h',toks:=s.toks+knd.draws k })
  (hsz:xs.length<=Wi):Wj (Wm prog w) A (dictSetDefault d (.ref a) v) Q E s:=by
 obtain⟨ob,es,ep,hob,hcl,hdt,hes,hks,hnd⟩:=hm;unfold dictSetDefault;refine Wy ?_;refine Wa (knd.pyHash hu hkey (Wa (wpAny_dictFind_heap (s:={ s with toks:=s.toks+knd.draws k }) hu hkey hob hdt hes hks hnd (λhno=>?_) λj q hj=>?_)))
 ·have hk0:=atKey_none_of_get hno;have hnew:k∉xs.map (·.1):=not_mem_keys_of_get hno;refine Wa (WK (Wa (wpAny_updateDictKeys (hz:=by have e:=size_of_entries hes;lia) (s:={ s with toks:=s.toks+knd.draws k }) hob hdt (Wc (fresh hk0 _ ?_ (Ys.update ..))))));refine⟨_,_,ep+1,Yh _ hob (Obj.isFreed_of_dict (Obj.data_mapDictKeys hdt _)),hcl.mapDictKeys _,Obj.data_mapDictKeys hdt _,?_,?_,?_⟩<;>rw[storedH_new hk0]
  ·simp[hes,entryOfKey]
  ·intro y hy;rcases Xr.mp hy with hy | hy
   ·exact knd.keeps (hks y hy) hob hdt (Ys.update ..)
   ·have:=Xh.mp hy;subst this;exact knd.keeps hkey hob hdt (Ys.update ..)
  ·rw[Xp,Yt];exact⟨hnd,by simp,λy hy z hz e=>hnew (by have:=Xh.mp hz;rw[e,this]at hy;exact hy)⟩
 ·refine Wa (wpAny_dictEntries (s:={ s with toks:=s.toks+knd.draws k }) hob hdt ?_);rw[entry_at hes j,hj];exact Wa (WK (Wc (there q (atKey_of_get hnd hj))))
end
section
variable {prog:Wo}{w:Ws}{K:Type} [DecidableEq K] (knd:HeapKind prog w K)(d a:We)
theorem zfi (hd:(d == WH)=false)(v:Wb) :
  MeetsIn prog w (Builtin.«dict.setdefault» ⟨[.ref d,.ref a,v],[]⟩) (λA R s=>knd.room A.in1/\∃k xs,knd.is s.heap k a/\s.heap.DictOfH knd d xs/\xs.length<=Wi/\
   (∀p,atKey xs k=some p->R (.ok (.ret p.2)) { s with toks:=s.toks+knd.draws k })/\
   (atKey xs k=none->∀h',h'.DictOfH knd d (storedH xs k a v)->Ys d s.heap h'->R (.ok (.ret v)) { s with heap:=h',toks:=s.toks+knd.draws k })):=
 .of_wp λA R s ⟨hu,k,xs,hkey,hm,hsz,h1,h2⟩=>by
  unfold Builtin.«dict.setdefault»;refine Wa ?_;unfold Builtin.Dict.keyAndDefault;refine Wa (wpAny_notOrdered_dict hm.typeIs (Wc ?_));show Wj _ _ (if (d == WH)=true then _ else(dictSetDefault d (.ref a) v >>= _)) _ _ s
  rw[Qe (by rw[hd];exact Xw)];exact Wa (zfh hu hkey hm (λp hp=>Wc ⟨_,rfl,h1 p hp⟩) (λhn h' hm' hs=>Wc ⟨_,rfl,h2 hn h' hm' hs⟩) hsz)
end
end PySem
namespace L2
open PySem PySem.Spec PyProof.Rows
section
variable {X:Cx}{pins:Tg}{σ:St}{H:Hp}{s:Wd}{a b:We}{kvs:List (List Key×V)}{k:List Key}{z:V}{r:Wb}{A:Wv}{E:Ti}
theorem zoj {Q:Ti}(hu:A.units+1<WG)(I:Inv X pins σ H s)(e:H a=some (.dT kvs))(eb:H b=some (.tup (k.map kV)))(l:kvs.length<Wi)(rz:RelV z r)
  (h1:∀v w' s',bf kvs k=some v->Inv X pins σ H s'->RelV v w'->Q w' s') (h2:bf kvs k=none->∀s',Inv X pins σ (upd H a (.dT (putK kvs k z))) s'->Q r s') :
  Wj (Wm X.prog X.w) A (call (.builtin "dict.setdefault") [.ref a,.ref b,r]) Q E s:=by
 obtain⟨hz,hd,xs,rel,dd⟩:=Ho I.hok e;have hl:(putK kvs k z).length<=Wi:=by have:=Ce kvs k z;lia
 have rv:=rel.val k;refine call_meetsIn PySem.F.slot_dict_setdefault dd.typeIs PySem.F.entry_dict_setdefault (PySem.F.args_dict_setdefault_3 _ _ _) (zfi (tupleKind (eN X.prog X.w)) a b hd r)
  ⟨tupleKind_room_in1 hu,k,xs,vL I.hok eb,dd,by rw[<- Paired.length rel];exact hz,λp hp=>?_,λhn h' sU hs=>?_⟩
 ·rw[hp]at rv;cases hv:bf kvs k with
  | none=>rw[hv]at rv;cases rv
  | some v=>
   rw[hv]at rv;exact h1 v p.2 _ hv (I.tok _) rv
 ·have hvn:bf kvs k=none:=by
   rw[hn]at rv;cases hv:bf kvs k with
   | none=>rfl
   | some v=>rw[hv]at rv;cases rv
  refine h2 hvn _ ?_;obtain⟨q,es,ep,hq,g2,g3,g4,_,g5⟩:=sU;refine yW I (by rw[e];exact Oi) hs ⟨q,hq⟩ ⟨hl,hd,_,(rel.put k eb rz).keeps λc ys ec=>?_,q,es,ep,hq,g2,g3,g4,g5⟩;rw[aO (yI ec e (λy=>nomatch y))];exact ec
end
def zvU (td ty tx:TE):TE:=λσ H Q=>td σ H λx H1=>∃a,x=.ref a/\Cm H1 a/\ty σ H1 λy H2=>tx σ H2 λz H3=>∃kvs k b,H3 a=some (.dT kvs)/\y=.ref b/\H3 b=some (.tup (k.map kV))/\kvs.length<Wi/\
 (∀v,bf kvs k=some v->Q v H3)/\(bf kvs k=none->Q z (upd H3 a (.dT (putK kvs k z))))
section
variable {X:Cx}{o e f:Expr}{apos cpos:Pos}{td ty tx:TE}
theorem zsz (hu:X.A.units+1<WG)(ho:PE X o td)(he:PE X e ty)(hf:PE X f tx)(m:M2 X o "setdefault" apos e f cpos):PE X (.Call (.Attribute o "setdefault" apos) [e,f] [] cpos) (zvU td ty tx):=by
 intro pins s σ H Q I h;refine wpAny_Call_method m.base m.few m.line PySem.F.plainAttrs_dict PySem.F.slot_dict_setdefault PySem.F.type_dict_setdefault (aM (ho pins s σ H _ I h) λu s1 ⟨x,H1,I1,rx,a,ex,d,q1⟩=>?_);subst ex;obtain rfl:u=Qq a:=rx;obtain⟨t1,t2,_⟩:=Hu I1 d;refine⟨t1,t2,?_⟩;rw[m.trees];refine QL rfl (Oh (QB (aM (he pins s1 σ H1 _ I1 q1) λiv s2 ⟨y,H2,I2,ry,q2⟩=>
  QB (aM (hf pins s2 σ H2 _ I2 q2) λfv s3 ⟨z,H3,I3,rz,kvs,k,b,ea,ey,eb,hl,q3,q4⟩=>QH ?_))))
 subst ey;obtain rfl:iv=Qq b:=ry;exact zoj hu I3 ea eb hl rz (λv w' s' hv I' rv=>⟨v,H3,I',rv,q3 v hv⟩) λhn s' I'=>⟨z,_,I',rz,q4 hn⟩
end
end L2
namespace PL
open PySem PySem.Spec L2
open PyProof.Rows hiding St
variable {ks:List (List Key)}{k:List Key}{vs:List V}
def gB (ks:List (List Key))(k:List Key):Bool:=ks.any λc=>decide (c=k)
theorem zR:gB ks k=true↔k∈ks:=by
 unfold gB;rw[List.any_eq_true];constructor
 ·rintro⟨c,hc,e⟩;have:c=k:=by simpa using e
  rw[<- this];exact hc
 ·exact λh=>⟨k,h,by simp⟩
def jJ (ks:List (List Key))(ds:List PV)(k:List Key):List (List Key)×List PV:=if gB ks k=true then(ks,ds) else(ks++[k],ds++[.dK [] []])
def tO (cs:List Key)(es:List PV)(c:Key)(d:PV):PV:=if gw cs c=true then .dK cs (putD cs es c d) else .dK (cs++[c]) (es++[d])
def iw (ks:List (List Key))(k:List Key):Nat:=ks.findIdx λx=>decide (x=k)
def zcz (z iy:Nat)(tk ti tv:aN):dN:=λρ β O=>∃ks ds,β=.T ks ds/\iy<ρ.length/\rdE z tk ρ β λdk=>∃k,dk=lJ k/\ks.length<Wi/\
 rdE z tv (ρ.set iy none) (.T (jJ ks ds k).1 (jJ ks ds k).2) λdv=>rdE z ti (ρ.set iy none) (.T (jJ ks ds k).1 (jJ ks ds k).2) λdi=>∃c cs es,di=dG c/\(jJ ks ds k).2[iw (jJ ks ds k).1 k]? = some (.dK cs es)/\cs.length<Wi/\
  O.nx (ρ.set iy none) (.T (jJ ks ds k).1 ((jJ ks ds k).2.set (iw (jJ ks ds k).1 k) (tO cs es c dv)))
theorem zok (hl:ks.length=vs.length):bf (ks.zip vs) k=none↔k∉ks:=by
 unfold bf;rw[Option.map_eq_none_iff,List.find?_eq_none];constructor
 ·intro h hk;obtain⟨i,hi,e⟩:=Yr hk;have:=h (ks[i],vs[i]'(by lia)) (by
   rw[List.mem_iff_getElem];exact⟨i,by simp;lia,by simp⟩)
  simp[e]at this
 ·intro h x hx;have:=(List.of_mem_zip (a:=x.1) (b:=x.2) hx).1;simp;exact λz=>h (z▸this)
theorem zol {v:V}(hl:ks.length=vs.length)(h:bf (ks.zip vs) k=some v):k∈ks/\vs[iw ks k]? = some v:=by
 induction ks generalizing vs with
 | nil=>simp[bf]at h
 | cons c ks ih=>
  cases vs with
  | nil=>simp at hl
  | cons x vs=>
   by_cases e:c=k
   ·subst e;have:x=v:=by simpa[bf]using h
    subst this;exact⟨Xg ..,by simp[iw,List.findIdx_cons]⟩
   ·have h':bf (ks.zip vs) k=some v:=by simpa[bf,Yq,e]using h
    obtain⟨q1,q2⟩:=ih (by simpa using hl) h';refine⟨Xi _ q1,?_⟩;have:iw (c::ks) k=iw ks k+1:=by unfold iw;simp[List.findIdx_cons,e]
    rw[this,List.getElem?_cons_succ];exact q2
theorem Ek (h:k∉ks):iw (ks++[k]) k=ks.length:=by
 unfold iw;induction ks with
 | nil=>simp[List.findIdx_cons]
 | cons c ks ih=>
  have e:¬ c=k:=λz=>h (z▸Xg ..);have:=ih λz=>h (Xi _ z);simp[List.findIdx_cons,e,this]
theorem zpR {v:V}(hl:ks.length=vs.length)(h:k∉ks):putK (ks.zip vs) k v=(ks++[k]).zip (vs++[v]):=by
 unfold putK;have:((ks.zip vs).any λkv=>decide (kv.1=k))=false:=by
  rw[List.any_eq_false];intro x hx;have:=(List.of_mem_zip (a:=x.1) (b:=x.2) hx).1;simp;exact λz=>h (z▸this)
 rw[this,O3 hl];rfl
section
variable {X:Cx}{z iy:Nat}{ek ei ev:Expr}{tk ti tv:aN}{x y:Str}{rest:List WJ}{t:dN}{p p1 p2 p3 p4 apos cpos pos1 pos2 dpos:Pos}
theorem zpS (hu:X.A.units+1<WG)(hN:X.N.Nodup)(hk:aD X ek tk)(hi:aD X ei ti)(hv:aD X ev tv)(hr:ou X z rest t)(hz:X.N[z]? = some x:=by rfl)(hy:X.N[iy]? = some y:=by rfl)(hly:Loc X.env.scope y:=by first | exact Qo rfl | exact Qp rfl)(hzy:iy≠z:=by decide)
  (hvx:iZ X.env.scope x:=by first | exact Qo rfl | exact Qp (Qo rfl) | exact Qp (Qp rfl)) (hvy:iZ X.env.scope y:=by first | exact Qo rfl | exact Qp (Qo rfl) | exact Qp (Qp rfl)) (hd:(x == ("__debug__" : Str))=false:=by decide) (hcd:(x == ("__classdict__" : Str))=false:=by decide) (hd2:(y == ("__debug__" : Str))=false:=by decide) (hcd2:(y == ("__classdict__" : Str))=false:=by decide)
  (m:M2 X (.Name x p) "setdefault" apos ek (.Dict [] [] dpos) cpos:=by exact⟨rfl,rfl,rfl,rfl⟩) (hs1:WE (.Call (.Attribute (.Name x p) "setdefault" apos) [ek,.Dict [] [] dpos] [] cpos) (some (.Name y p1)) pos1.line X.env=pure false:=by rfl)
  (hf:X.fn y=true\/X.env.scope.names.lookup y=some .local:=by first | exact .inl rfl | exact .inr rfl | assumption) (hs2:WE ev (some (.Subscript (.Name y p2) ei p3)) pos2.line X.env=pure false:=by rfl) :
  ou X z (.Assign [.Name y p1] (.Call (.Attribute (.Name x p) "setdefault" apos) [ek,.Dict [] [] dpos] [] cpos) pos1::.Assign [.Subscript (.Name y p2) ei p3] ev pos2::rest) (zcR (zcz z iy tk ti tv) t) where
 mono ρ β O O' m h:=by
  obtain⟨ks,ds,e0,el,h⟩:=h;exact⟨ks,ds,e0,el,hk.mono _ _ _ (λd k ⟨e1,e2,kk,q2,q3,q⟩=>⟨e1,e2,kk,q2,q3,hv.mono _ _ _ (λd k ⟨e1,e2,q⟩=>⟨e1,e2,hi.mono _ _ _ (λd k ⟨e1,e2,c,cs,es,q1,q2,q3,q⟩=>⟨e1,e2,c,cs,es,q1,q2,q3,hr.mono _ _ _ _ m q⟩) q⟩) q⟩) h⟩
 run:=dh.weak (nJ (ur hN hy hly (zsz hu (jn hz hvx hd hcd) hk.run Hs m) hs1 hf) (nJ (Ck hu (jn hy hvy hd2 hcd2) hi.run hv.run hs2) hr.run)) λD σ H h=>by
  obtain⟨ρ,Fz,β,a,bs,R,ks,ds,rfl,hiyl,h⟩:=h;have hok:ks.length=ds.length:=R.box.ok;have rF:=R.box.own.length;have rF:ds.length=bs.length:=rF;have fin:∀(k:List Key) (H':Hp) (mz:List (List Key)) (qw:List PV) (bs1:Tr) (bb:We),bM X.K Fz (ρ.set iy none) (.T mz qw) (σ.set iy (some (.ref bb))) H' z a bs1->bs1[iw mz k]? = some bb->cR (OB ρ σ (a::bs)) Fz H Fz H'->cI (OB ρ σ (a::bs)) H (OB (ρ.set iy none) (σ.set iy (some (.ref bb))) (a::bs1))->
    (rdE z tv (ρ.set iy none) (.T mz qw) λdv=>rdE z ti (ρ.set iy none) (.T mz qw) λdi=>∃c cs es,di=dG c/\qw[iw mz k]? = some (.dK cs es)/\cs.length<Wi/\lH t (ir X.K z D (OB ρ σ (a::bs)) Fz H) (ρ.set iy none) (.T mz (qw.set (iw mz k) (tO cs es c dv))))->
    wK (Hq (wI iy) (lift X.K ti) (lift X.K tv)) (DX X.K z t) D (σ.set iy (some (.ref bb))) H':=λk H' mz qw bs1 bb RB hbb st oi q=>by
   refine uT hv RB q λdv v H2 q nm2 x2 dv2=>⟨.ref bb,Xm (by rw[<- R.rel.len];exact hiyl),uT hi (RB.ext x2) q λdi u H3 q nm3 x3 du=>?_⟩;obtain⟨c,cs,es,rfl,hcs,hcl,q⟩:=q;have RB3:=(RB.ext x2).ext x3;obtain⟨b',hb',ow⟩:=RB3.box.own.get (show(BX.T mz qw).xZ[iw mz k]? = _ from hcs);rw[hbb]at hb';cases hb';obtain⟨xs,hbx,hxl,hxs⟩:=ow;have hu':u=kV c:=zM du.root;subst hu';have nfb:¬ Fz bb:=RB3.box.nf bb (Xi _ (Xl hbb));refine⟨bb,_,rfl,jA.k hbx (by rw[QK];lia),?_⟩;have d3:=aq.mono (.of x3.same) (λ_ h=>h) _ _ dv2;have ow2:Own X.K Fz (upd H3 bb (.dK (putK (cs.zip xs) c v))) (tO cs es c dv) bb:=by
    unfold tO putK;rw[J3 hxl];by_cases hc:gw cs c=true
    ·rw[Qf hc,Qf hc,J2];exact⟨_,bF,by simp[hxl],aj.mU hbx (λz=>z) nfb (DQ c d3 cs es xs hxs)⟩
    ·rw[Qe hc,Qe hc];refine⟨xs++[v],?_,by simp[hxl],aj.mU hbx (λz=>z) nfb (aj.snoc hxs d3)⟩;rw[bF,O3 hxl];rfl
   have hok1:mz.length=qw.length:=RB3.box.ok;obtain⟨R4,s4⟩:=RB3.put hbb hbx (λy=>y) ow2 (.T mz (qw.set (iw mz k) (tO cs es c dv))) rfl rfl (by show mz.length=(qw.set _ _).length;rw[Yb];exact hok1);have s5:cR (OB ρ σ (a::bs)) Fz H Fz _:=st.trans oi ((cR.of (x2.trans x3)).trans cI.refl s4);exact⟨_,Fz,_,a,bs1,R4,hr.mono _ _ _ _ (zN s5 oi) q⟩
  refine⟨_,R.sz,a,rfl,.inr ⟨_,.inl R.box.at_⟩,uT hk R h λdk w H1 q nm x1 dw p hp=>?_⟩;obtain⟨k,rfl,hkl,q⟩:=q;have R1:=R.ext x1;have x2:Ext Fz H1 Fz (upd H1 p (.dK [])):=Ext.laid ⟨Same.refl _,λ_ h=>h,λ_ h=>.inl h,R1.rel.al⟩ hp;have R2:=R1.ext x2;obtain⟨b,rfl,hb⟩:=zQ (aq.root dw);have hl2:ks.length=(bs.map V.ref).length:=by rw[Xb];lia
  refine⟨ks.zip (bs.map V.ref),k,b,R2.box.at_,rfl,x2.same _ _ hb,by rw[QK];lia,λv hv0=>?_,λhn=>?_⟩
  ·obtain⟨hkm,hat⟩:=zol hl2 hv0;rw[Xe]at hat;cases hbb:bs[iw ks k]? with
   | none=>rw[hbb]at hat;cases hat
   | some bb=>
    rw[hbb]at hat;cases hat;have es:jJ ks ds k=(ks,ds):=by unfold jJ;rw[Qf (zR.mpr hkm)]
    rw[es]at q;exact fin k _ ks ds bs bb ⟨R2.rel.unset,by rw[Xk hzy];exact R2.hz,by rw[Xk hzy];exact R2.sz,R2.box,λb hb w=>R2.no b hb (o9 b w)⟩ hbb (.of (x1.trans x2)) (λb hb=>.inl (hb.imp (o9 b) id)) q
  ·have hkm:k∉ks:=(zok hl2).mp hn;have es:jJ ks ds k=(ks++[k],ds++[.dK [] []]):=by unfold jJ;rw[Qe (λz=>hkm (zR.mp z))]
   rw[es]at q;rw[zpR hl2 hkm];have hpb:∀c∈a::bs,c≠p:=λc hc e=>by
    obtain⟨o,ho,_⟩:=R1.box.has hc;rw[e,hp]at ho;cases ho
   have hpa:a≠p:=hpb a (Xg ..);have nfp:¬ Fz p:=λw=>R1.rel.al p w hp;have nop:¬ bK ρ σ p:=λ⟨i,d,g1,g2⟩=>by
    obtain⟨a0,q1,_,q3⟩:=R1.rel.own i d g1;rw[g2]at q1;cases q1;obtain⟨o,q4,_⟩:=q3.at;rw[hp]at q4;cases q4
   have mW:(upd H1 p (HO.dK [])) a=some ((BX.T ks ds).obj bs):=R2.box.at_;have kp:Keep Fz (upd H1 p (.dK [])) (upd (upd H1 p (.dK [])) a (.dT ((ks++[k]).zip (bs.map V.ref++[.ref p])))):=.mk' λc o e hw=>by
    have ne:c≠a:=λy=>by
     subst y;rcases hw with hw | hw
     ·exact R2.box.nf c (Xg ..) hw
     ·rw[mW]at e;cases e;exact hw
    rw[aO ne];exact e
   have hbs:∀c∈bs,c≠a:=λc hc e=>(XI.mp R.box.nd).1 (by rw[<- e];exact hc);have rel3:=R2.rel.other (o:=.dT ((ks++[k]).zip (bs.map V.ref++[.ref p]))) mW (λy=>y) (R2.box.nf a (Xg ..)) (R2.no a (Xg ..));have Rn:bM X.K Fz (ρ.set iy none) (.T (ks++[k]) (ds++[.dK [] []])) (σ.set iy (some (.ref p))) (upd (upd H1 p (.dK [])) a (.dT ((ks++[k]).zip (bs.map V.ref++[.ref p])))) z a (bs++[p]):=by
    refine⟨rel3.unset,by rw[Xk hzy];exact R2.hz,by rw[Xk hzy];exact R2.sz,⟨?_,?_,?_,?_,λc hc=>?_⟩,λc hc w=>?_⟩
    ·show _=some (HO.dT ((ks++[k]).zip ((bs++[p]).map V.ref)));rw[bF,Xp];rfl
    ·show(ks++[k]).length=(ds++[_]).length;simp[hok]
    ·show aG _ _ _ (ds++[_]) (bs++[p]);have op:Own X.K Fz (upd (upd H1 p (.dK [])) a (.dT ((ks++[k]).zip (bs.map V.ref++[.ref p])))) (.dK [] []) p:=⟨[],by rw[aO (Qz hpa),bF];rfl,rfl,aj.nil⟩;refine aG.snoc op (R2.box.own.mono kp (λ_ h=>h) λc hc o ho=>?_);rw[aO (hbs c hc)];exact ho
    ·have nd:=XI.mp R.box.nd;rw[XI];refine⟨λhm=>?_,?_⟩
     ·rcases Xr.mp hm with hm | hm
      ·exact nd.1 hm
      ·exact hpa (Xh.mp hm)
     ·rw[Yt];exact⟨nd.2,by simp,λc hc d hd e=>hpb c (Xi _ hc) (by rw[e,Xh.mp hd])⟩
    ·rcases Xx.mp hc with rfl | hc
     ·exact R2.box.nf _ (Xg ..)
     ·rcases Xr.mp hc with hc | hc
      ·exact R2.box.nf c (Xi _ hc)
      ·rw[Xh.mp hc];exact nfp
    ·have w:=o9 c w;rcases Xx.mp hc with rfl | hc
     ·exact R2.no _ (Xg ..) w
     ·rcases Xr.mp hc with hc | hc
      ·exact R2.no c (Xi _ hc) w
      ·rw[Xh.mp hc]at w;exact nop w
   refine fin k _ (ks++[k]) (ds++[.dK [] []]) (bs++[p]) p Rn ?_ ?_ ?_ q
   ·rw[Ek hkm];have:ks.length=bs.length:=by lia
    rw[this,XO (Xj _),Nat.sub_self];rfl
   ·refine(cR.of (x1.trans x2)).trans cI.refl ⟨λ_ h=>h,λ_ h=>.inl h,λc o e n=>?_⟩;have ne:c≠a:=λy=>n (.inr (by rw[y];exact Xg ..));rw[aO ne];exact e
   ·intro c hc;rcases hc with hc | hc
    ·exact .inl (.inl (o9 c hc))
    ·rcases Xx.mp hc with rfl | hc
     ·exact .inl (.inr (Xg ..))
     ·rcases Xr.mp hc with hc | hc
      ·exact .inl (.inr (Xi _ hc))
      ·rw[Xh.mp hc];exact .inr (x1.same.free hp)
end
section
variable {X:Cx}{z:Nat}{pos pos' pos2:Pos}{t:dN}{x:Str}{rest:List WJ}
def zcA (z:Nat)(t:dN):cN:=λρ O=>z<ρ.length/\lH t { nx:=λ_ _=>False,rt:=O.rt,bk:=λ_ _=>False,ct:=λ_ _=>False } (ρ.set z none) (.T [] [])
theorem zom (hN:X.N.Nodup)(hx:X.N[z]? = some x)(hl:Loc X.env.scope x)(hr:ou X z rest t)(hs:WE (.Dict [] [] pos) (some (.Name x pos')) pos2.line X.env=pure false:=by rfl)(hf:X.fn x=true\/X.env.scope.names.lookup x=some .local:=by first | exact .inl rfl | exact .inr rfl | assumption) :
  dF X (.Assign [.Name x pos'] (.Dict [] [] pos) pos2::rest) (zcA z t) where
 mono ρ O O' m h:=⟨h.1,hr.mono _ _ { nx:=λ_ _=>False,rt:=O.rt,bk:=λ_ _=>False,ct:=λ_ _=>False } _ ⟨λ_ _ q=>q.elim,m.rt,λ_ _ q=>q.elim,λ_ _ q=>q.elim⟩ h.2⟩
 run:=dh.weak (nJ (ur hN hx hl Ht hs hf) hr.run) λD σ H h=>by
  obtain⟨ρ,Fz,R,rE,q⟩:=h;intro l hp;have x2:Ext Fz H Fz (upd H l (.dT [])):=Ext.laid ⟨Same.refl _,λ_ h=>h,λ_ h=>.inl h,R.al⟩ hp;have nfl:¬ Fz l:=λw=>R.al l w hp;have nol:¬ bK ρ σ l:=λ⟨i,d,g1,g2⟩=>by
   obtain⟨a0,q1,_,q3⟩:=R.own i d g1;rw[g2]at q1;cases q1;obtain⟨o,q4,_⟩:=q3.at;rw[hp]at q4;cases q4
  have hzN:z<σ.length:=by rw[<- R.len];exact rE
  have Rb:bM X.K Fz (ρ.set z none) (.T [] []) (σ.set z (some (.ref l))) (upd H l (.dT [])) z l []:=
   ⟨(R.ext x2).unset,Xm rE,Xm hzN,⟨bF,rfl,by show aG _ _ _ [] [];unfold aG;rfl,by simp,λb hb=>by rw[Xh.mp hb];exact nfl⟩,λb hb w=>by rw[Xh.mp hb]at w;exact nol (o9 l w)⟩
  refine⟨_,Fz,_,l,[],Rb,hr.mono _ _ { nx:=λ_ _=>False,rt:=(nT X.K D ρ σ Fz H).rt,bk:=λ_ _=>False,ct:=λ_ _=>False } _ ⟨λ_ _ q=>q.elim,λd k q v ao H'' s al r=>?_,λ_ _ q=>q.elim,λ_ _ q=>q.elim⟩ q⟩;have s0:cR (bK ρ σ) Fz H Fz (upd H l (.dT [])):=.of x2;have oi:cI (bK ρ σ) H (OB (ρ.set z none) (σ.set z (some (.ref l))) [l]):=λb hb=>by
   rcases hb with hb | hb
   ·exact .inl (o9 b hb)
   ·rw[Xh.mp hb];exact .inr hp
  have s1:=s0.trans oi s;have r1:=r.back s0 oi;refine q v ao H'' ⟨s1.sub,s1.new,s1.keep⟩ al ?_;cases k with
  | aH=>exact r1
  | own i=>exact r1
  | new=>exact r1
end
end PL
namespace L2
open PySem PySem.Spec PyProof.Rows
section
variable {X:Cx}{o e:Expr}{to te:TE}{apos cpos:Pos}
theorem zpT (ho:PE X o to)(he:PE X e te)(m:M1 X o "index" apos e cpos) :
  PE X (.Call (.Attribute o "index" apos) [e] [] cpos) (λσ H Q=>to σ H λx H1=>∃a xs,x=.ref a/\(aR X.K H1 a xs\/bG X.K H1 a xs)/\te σ H1 λy H2=>∃zs,(aR X.K H1 a xs/\aR X.K H2 a zs\/bG X.K H1 a xs/\bG X.K H2 a zs)/\∃j:Nat,lW y=true/\zs.all lW=true/\(∃w,zs[j]? = some w/\g8 w y=true)/\(∀m w,m<j->zs[m]? = some w->g8 w y=false)/\Q (.int (j:Int)) H2):=by
 intro pins s σ H Q I h;refine wpAny_Call_method_late m.base m.few m.line rfl (aM (ho pins s σ H _ I h) λu s1 ⟨x,H1,I1,rx,a,xs,ex,d,q1⟩=>?_);subst ex;obtain rfl:u=Qq a:=rx;rcases d with d | d
 ·obtain⟨its,rv,⟨ob,n,h1,h2,h3,h4⟩,hz⟩:=I1.list d;refine⟨"list","list.index",Qw,PySem.F.slot_list_index,PySem.F.type_list_index,⟨ob,h1,h2⟩,λb q=>by cases q;exact⟨ob,h1,h3⟩,?_⟩;rw[m.trees];refine QL rfl (Oh (QB (aM (he pins s1 σ H1 _ I1 q1) λiv s2 ⟨y,H2,I2,ry,zs,rG,j,f1,f2,g1,g2,q2⟩=>QH ?_)));rcases rG with ⟨_,rG⟩ | ⟨hst,_⟩
  ·exact znZ pins s2 σ H2 (.ref a) [y] (.ref a) [iv] Q I2 rfl (.cons ry .nil) ⟨a,zs,y,j,rfl,rfl,rG,f1,f2,g1,g2,q2⟩
  ·exact(PL.zm I1 d hst).elim
 ·obtain⟨ob,h1,h2,h4⟩:=I1.zuH d;refine⟨"tuple","tuple.index",PySem.F.plainAttrs_tuple,PySem.F.slot_tuple_index,PySem.F.type_tuple_index,⟨ob,h1,h2⟩,λb q=>by cases q;exact⟨ob,h1,h4⟩,?_⟩;rw[m.trees];refine QL rfl (Oh (QB (aM (he pins s1 σ H1 _ I1 q1) λiv s2 ⟨y,H2,I2,ry,zs,rG,j,f1,f2,g1,g2,q2⟩=>QH ?_)));rcases rG with ⟨hsl,_⟩ | ⟨_,rG⟩
  ·exact(PL.zm I1 hsl d).elim
  ·exact zoa pins s2 σ H2 (.ref a) [y] (.ref a) [iv] Q I2 rfl (.cons ry .nil) ⟨a,zs,y,j,rfl,rfl,rG,f1,f2,g1,g2,q2⟩
end
end L2
namespace PL
open PySem PySem.Spec L2
open PyProof.Rows hiding St
def pIdx (to te:aN):aN:=λρ Q=>to ρ λd _=>∃ds,(d=.lst ds\/d=.tup ds)/\ds.all oE=true/\te ρ λe _=>oE e=true/\e∈ds/\Q (.int (iu ds e:Int)) .aH
section
variable {X:Cx}{o e:Expr}{to te:aN}{apos cpos:Pos}
theorem zT (ho:aD X o to)(he:aD X e te)(m:M1 X o "index" apos e cpos:=by exact⟨rfl,rfl,rfl,rfl⟩):aD X (.Call (.Attribute o "index" apos) [e] [] cpos) (pIdx to te) where
 mono ρ Q Q' mm h:=ho.mono ρ _ _ (λd _ ⟨ds,e1,e2,h⟩=>⟨ds,e1,e2,he.mono ρ _ _ (λe _ ⟨q1,q2,q⟩=>⟨q1,q2,mm _ _ q⟩) h⟩) h
 run:=PE.weak (zpT ho.run he.run m) λσ H Q h=>by
  obtain⟨ρ,Fz,R,h⟩:=h;refine⟨ρ,Fz,R,ho.mono ρ _ _ (λd k q v F1 H1 p1=>?_) h⟩;obtain⟨ds,hd,f,q⟩:=q;have rt:=p1.root R;obtain⟨a,xs,rfl,rG,hsq2,h2⟩:∃a xs,v=.ref a/\(aR X.K H1 a xs\/bG X.K H1 a xs)/\(∀H2,Same H1 H2->(aR X.K H1 a xs/\aR X.K H2 a xs\/bG X.K H1 a xs/\bG X.K H2 a xs))/\aj X.K F1 H1 ds xs:=by
   rcases hd with rfl | rfl
   ·obtain⟨a,xs,rfl,h1,h2⟩:=dB rt;exact⟨a,xs,rfl,.inl h1,λH2 s=>.inl ⟨h1,s.seq h1⟩,h2⟩
   ·obtain⟨a,xs,rfl,h1,h2⟩:=xR rt;exact⟨a,xs,rfl,.inr (bG.of h1),λH2 s=>.inr ⟨bG.of h1,bG.of (s _ _ h1)⟩,h2⟩
  refine⟨a,xs,rfl,rG,ρ,F1,R.ext p1.ext,he.mono ρ _ _ (λe ke q w F2 H2 p2=>?_) q⟩;obtain⟨fe,hm,q⟩:=q;have h3:=aj.mono (.of p2.ext.same) p2.ext.sub _ _ h2;have hy:=zoc fe (p2.root (R.ext p1.ext));obtain⟨g1,g2⟩:=zsu f fe h3 hy hm;exact⟨xs,hsq2 H2 p2.ext.same,iu ds e,Kg fe hy,Kl f h3,g1,g2,q _ F2 H2 ⟨p1.ext.trans p2.ext,by show aq _ _ _ _ _;simp only[aq]⟩⟩
end
end PL
namespace L2
open PySem PySem.Spec PyProof.Rows
section
variable {X:Cx}
theorem zsA (hc:X.calm=true){pins:Tg}{σ:St}{H:Hp}{p it S:We}{as:Tr}{aW:List (List (Key×V))}{R:Result->Wd->Prop}(hq:aR X.K H p (as.map V.ref))(hl:as.length=aW.length)
  (hy:∀(i:Nat) a kvs,as[i]? = some a->aW[i]? = some kvs->Rd H a (.dK kvs)) (hne:it≠S) (hf:∀b∈[it,S],cQ X pins H b)
  (hR:∀(j:Nat) (a:We) s',as[j]? = some a->(∀m,m<aW.length->(aW.getD j []).length<=(aW.getD m []).length)->Inv X pins σ H s'->R (.ok (.ret (.ref a))) s') :
  ∀(k i:Nat) (s:Wd) (b:Nat) (a:We) (t:Tok) (c:Nat),as.length-i=k->i<=as.length->Inv X pins σ H s->s.heap.IsListIter it p i->as[b]? = some a->(∀m,m<i->(aW.getD b []).length<=(aW.getD m []).length)->
   s.heap.get? S=some { cls:=.type "list",dict:=none,data:=.seq #[.ref a,.int ((aW.getD b []).length:Nat) t] c,slots:=#[] }->
   Vd (Wm X.prog X.w) X.A (.builtin "min.loop" ⟨[.ref it,.builtin "len",.ref S],[]⟩) R s:=by
 have hname:(toString "min"++toString ".loop" : String) = "min.loop":=by decide
 have fit:=hf it (by simp);obtain⟨f0,f1,f2,f3,f4,f5⟩:=fit;intro k;induction k with
 | zero=>
  intro i s b a t c hk hi I st hb hmin hS;obtain⟨its,rv,pl,hz⟩:=I.list hq;have hlen:=rv.length;rw[Xb]at hlen;refine WI F.entry_min_loop ?_;rw[Qy PB _];show Wj _ X.A.in1 (seqItems? (.ref S) >>= _) _ _ s;refine Wa (Va hS rfl ?_);show Wj _ X.A.in1 (tryCatch (Vo (.ref it)) _ >>= _) _ _ s;refine Wa (Vb (wpAny_pyNext_list_end (I.ok.hd hc) st pl.isList (by simp;lia) λh' eb=>?_));have hS':h'.get? S=_:=eb S _ (Qz hne) hS;show Wj _ X.A.in1 (updateSeq S (λ_=>#[]) >>= _) _ _ _;refine Wa (Vj hS' rfl (Wa (wpAny_letGo (Wc ?_))));refine hR b a _ hb (λm hm=>hmin m (by lia)) ?_;have I1:Inv X pins σ H { s with heap:=h' }:=I.turned (t':=s.toks) (λb o hb e=>eb b o hb e) f0 f1 f3 f4 f5;exact I1.vY (t':=s.toks) (ch:=[it,S]) (λd o hd e=>(Yf _ _ (λz:S=d=>hd (by simp[z]))).trans e) hf
 | succ k ih=>
  intro i s b a t c hk hi I st hb hmin hS;obtain⟨its,rv,pl,hz⟩:=I.list hq;have hlt:i<as.length:=by lia
  have hlt2:i<aW.length:=by lia
  obtain⟨u,hu,ru⟩:=rv.get (i:=i) (x:=.ref as[i]) (by simp[hlt]);cases ru;have hd:=hy i _ _ (Xa hlt) (Xa hlt2);have hgd:aW.getD i []=aW[i]:=by rw[Xd,Xa hlt2];rfl
  refine WI F.entry_min_loop ?_;rw[Qy PB _];show Wj _ X.A.in1 (seqItems? (.ref S) >>= _) _ _ s;refine Wa (Va hS rfl ?_);show Wj _ X.A.in1 (tryCatch (Vo (.ref it)) _ >>= _) _ _ s;refine Wa (Vb (W0 st pl.isList (x:=.ref as[i]) (by simpa using hu) λh' st' sb=>?_));have I1:Inv X pins σ H { s with heap:=h' }:=I.turned (t':=s.toks) (λb o hb e=>(sb.2 b hb).trans e) f0 f1 f3 f4 f5;have hS':h'.get? S=_:=(sb.2 S (Qz hne)).trans hS;show Wj _ X.A.in1 (tryCatch (WZ [.ref as[i]] (call (.builtin "len") [.ref as[i]])) _ >>= _) _ _ _;obtain⟨z1,z2,vs,rel,dd⟩:=qj I1.hok hd;refine Wa (Vb (Wy (call_len_dict z2 dd (by rw[<- rel.length];rw[Wr]at z1;lia) ?_)));have hvl:(vs.length:Int)=((aW.getD i []).length:Nat):=by rw[hgd];exact congrArg _ rel.length.symm
  rw[hvl];have I2:=I1.tok (s.toks+1+1);have cmp:CmpOf X.prog X.w X.A.in1 .Lt (λ(m:Nat) v=>∃t,v=.int ((aW.getD m []).length:Nat) t) (λm m'=>decide (((aW.getD m []).length:Int)<((aW.getD m' []).length:Nat))):=CmpOf.ints_lt (λm=>((aW.getD m []).length:Nat)) λ_ _ h=>h;show Wj _ X.A.in1 (tryCatch (WZ [.ref as[i],.int _ _] (richCompare .Lt (.int _ _) (.int _ t) >>= _)) _ >>= _) _ _ _;refine Wa (Vb (Wy (Wa (cmp i b _ _ _ _ _ ⟨_,rfl⟩ ⟨_,rfl⟩ ?_))));refine Wa (Wy (WR ?_));refine Wa (wpAny_letGo (Wc ?_));by_cases hlt3:((aW.getD i []).length:Int)<((aW.getD b []).length:Nat)
  ·have e9:(λm m':Nat=>decide (((aW.getD m []).length:Int)<((aW.getD m' []).length:Nat))) i b=true:=Qd hlt3;rw[Qf e9];refine Wa (Vj hS' rfl (Wa (wpAny_letGo ?_)));rw[hname];refine Wc ⟨WO PB _,ih (i+1) _ i as[i] _ _ (by lia) hlt ?_ ?_ (Xa hlt) (λm hm=>?_) (Yh _ hS' rfl)⟩
   ·exact I2.vY (t':=s.toks+1+1) (ch:=[it,S]) (λd o hd e=>(Yf _ _ (λz:S=d=>hd (by simp[z]))).trans e) hf
   ·exact st'.at λo e=>(Yf _ _ (λz:S=it=>hne z.symm)).trans e
   ·rcases Nat.lt_succ_iff_lt_or_eq.mp hm with hm | rfl
    ·have:=hmin m hm;lia
    ·exact Xj _
  ·have e9:¬ (λm m':Nat=>decide (((aW.getD m []).length:Int)<((aW.getD m' []).length:Nat))) i b=true:=by show ¬ decide _=true;simpa using hlt3
   rw[Qe e9];refine Wa (wpAny_letGo ?_);rw[hname];refine Wc ⟨WO PB _,ih (i+1) _ b a t c (by lia) hlt I2 st' hb (λm hm=>?_) hS'⟩;rcases Nat.lt_succ_iff_lt_or_eq.mp hm with hm | rfl
   ·exact hmin m hm
   ·lia
theorem zhG (hc:X.calm=true){pins:Tg}{σ:St}{H:Hp}{p it S:We}{as:Tr}{aW:List (List (Key×V))}{R:Result->Wd->Prop}{s:Wd}{c:Nat}(hq:aR X.K H p (as.map V.ref))(hl:as.length=aW.length)(h0:0<as.length)
  (hy:∀(i:Nat) a kvs,as[i]? = some a->aW[i]? = some kvs->Rd H a (.dK kvs)) (hne:it≠S) (hf:∀b∈[it,S],cQ X pins H b) (I:Inv X pins σ H s) (st:s.heap.IsListIter it p 0) (hS:s.heap.get? S=some { cls:=.type "list",dict:=none,data:=.seq #[] c,slots:=#[] })
  (hR:∀(j:Nat) (a:We) s',as[j]? = some a->(∀m,m<aW.length->(aW.getD j []).length<=(aW.getD m []).length)->Inv X pins σ H s'->R (.ok (.ret (.ref a))) s') :
  Vd (Wm X.prog X.w) X.A (.builtin "min.loop" ⟨[.ref it,.builtin "len",.ref S],[]⟩) R s:=by
 have hname:(toString "min"++toString ".loop" : String) = "min.loop":=by decide
 obtain⟨f0,f1,f2,f3,f4,f5⟩:=hf it (by simp);obtain⟨its,rv,pl,hz⟩:=I.list hq;have hlt2:0<aW.length:=by lia
 obtain⟨u,hu,ru⟩:=rv.get (i:=0) (x:=.ref as[0]) (by simp[h0]);cases ru;have hd:=hy 0 _ _ (Xa h0) (Xa hlt2);have hgd:aW.getD 0 []=aW[0]:=by rw[Xd,Xa hlt2];rfl
 refine WI F.entry_min_loop ?_;rw[Qy PB _];show Wj _ X.A.in1 (seqItems? (.ref S) >>= _) _ _ s;refine Wa (Va hS rfl ?_);show Wj _ X.A.in1 (tryCatch (Vo (.ref it)) _ >>= _) _ _ s;refine Wa (Vb (W0 st pl.isList (x:=.ref as[0]) (by simpa using hu) λh' st' sb=>?_));have I1:Inv X pins σ H { s with heap:=h' }:=I.turned (t':=s.toks) (λb o hb e=>(sb.2 b hb).trans e) f0 f1 f3 f4 f5;have hS':h'.get? S=_:=(sb.2 S (Qz hne)).trans hS;show Wj _ X.A.in1 (tryCatch (WZ [.ref as[0]] (call (.builtin "len") [.ref as[0]])) _ >>= _) _ _ _;obtain⟨z1,z2,vs,rel,dd⟩:=qj I1.hok hd;refine Wa (Vb (Wy (call_len_dict z2 dd (by rw[<- rel.length];rw[Wr]at z1;lia) ?_)));have hvl:(vs.length:Int)=((aW.getD 0 []).length:Nat):=by rw[hgd];exact congrArg _ rel.length.symm
 rw[hvl];have I2:=I1.tok (s.toks+1+1);show Wj _ X.A.in1 (updateSeq S (λ_=>#[.ref as[0],.int _ _]) >>= _) _ _ _;refine Wa (Vj hS' rfl ?_);rw[hname];refine Wc ⟨WO PB _,zsA hc hq hl hy hne hf hR _ 1 _ 0 as[0] _ _ rfl h0 ?_ ?_ (Xa h0) (λm hm=>?_) (Yh _ hS' rfl)⟩
 ·exact I2.vY (t':=s.toks+1+1) (ch:=[it,S]) (λd o hd e=>(Yf _ _ (λz:S=d=>hd (by simp[z]))).trans e) hf
 ·exact st'.at λo e=>(Yf _ _ (λz:S=it=>hne z.symm)).trans e
 ·have:m=0:=by lia
  subst this;exact Xj _
theorem ziR (a b:Wb):argsOk "min" ⟨[a],[("key",b)]⟩:=by unfold argsOk;kernel_rfl
theorem ziS {prog:Wo}{w:Ws}{A:Wv}{E:Ti}{s:Wd}{id:String}{bt:Builtin}{args:Tq}{kw:List (Str×Wb)}{Q:Ti}(hk:builtinKind id=none)(hp:plainId id=true)(hb:entryFor table id=some bt)(ha:argsOk id ⟨args,kw⟩)
  (hc:Wj (Wm prog w) A.in1 (bt ⟨args,kw⟩) (λfin s'=>match fin with
   | .done f=>(match (Except.ok f:Result)with | .ok (.ret v)=>Q v s' | .ok _=>False | .error e=>E e s')
   | .again c'=>c'.quiet=true/\Vd (Wm prog w) A c' (λr s'=>match r with | .ok (.ret v)=>Q v s' | .ok _=>False | .error e=>E e s') s') E s) :
  Wj (Wm prog w) A (call (.builtin id) args kw) Q E s:=by
 refine wpAny_call (codeAny_call_builtin hp hb ?_);simp only[checkBuiltinCall,hk];cases sg:Manifest.signature? id with
 | none=>exact Wc hc
 | some g=>
  have h2:Bind.checkArgs id g ⟨args,kw⟩=pure ():=by simpa only[argsOk,sg]using ha
  simp only[h2];exact Wc hc
def zsB (K:Xc)(te:TE):TE:=λσ H Q=>te σ H λx H1=>∃(p:We)(as:Tr)(aW:List (List (Key×V))),x=.ref p/\aR K H1 p (as.map V.ref)/\as.length=aW.length/\0<as.length/\(∀(i:Nat) a kvs,as[i]? = some a->aW[i]? = some kvs->Rd H1 a (.dK kvs))/\
 ∀(j:Nat) (a:We),as[j]? = some a->(∀m,m<aW.length->(aW.getD j []).length<=(aW.getD m []).length)->Q (.ref a) H1
variable {e:Expr}{te:TE}{p p2 kp pos:Pos}
theorem zon (hc:X.calm=true)(hg:Gl X "min") (hm:X.mg "min" = none) (hg2:Gl X "len") (hm2:X.mg "len" = none) (he:PE X e te) (hs:Wf [e] X.env=(false,Wx e X.env)::Wf [] X.env:=by rfl)
  (hbt:Wu pos (Wf [e] X.env)=(false,Wx e X.env)::Wu pos (Wf [] X.env):=by rfl) (hpl:(Wu pos (Wf [e] X.env)).any (·.1)=false:=by rfl):PE X (.Call (.Name "min" p) [e] [⟨some "key",.Name "len" p2,kp⟩] pos) (zsB X.K te):=by
 intro pins s σ H Q I h;refine WM (qL I hg hm (show Wt "min" = some (.builtin "min") by decide +kernel) ?_ (by decide) (by decide));refine callWith_kw ?_ hbt hpl;rw[hbt];refine QB (aM (he pins s σ H _ I h) λu s1 ⟨x,H1,I1,r1,l,as,aW,ex,hq,hl,h0,hy,q⟩=>QH ?_);subst ex;obtain rfl:u=Qq l:=r1;refine kws_cons (qL I1 hg2 hm2 (show Wt "len" = some (.builtin "len") by decide +kernel) (kws_nil ?_) (by decide) (by decide));obtain⟨its,rv,pl,hz⟩:=I1.list hq;have hname:(toString "min"++toString ".loop" : String) = "min.loop":=by decide
 refine ziS F.kind_min F.plain_min F.entry_min (ziR _ _) ?_;show Wj _ X.A.in1 (Builtin.Builtins.bindParams "min" ["key","default"] 0 ⟨[],[("key",.builtin "len")]⟩ >>= _) _ _ s1;refine Wa (wpAny_of_eq (show Builtin.Builtins.bindParams "min" ["key","default"] 0 ⟨[],[("key",.builtin "len")]⟩=pure [some (.builtin "len"),none] from rfl) ?_);refine Wa (Wc ?_);refine Wa (W6 pl.isList ?_);refine Wa (W7 ?_);rw[hname];have I2:Inv X pins σ H1 { s1 with heap:=s1.heap.push { cls:=.type "list_iterator",data:=.fields #[.ref l,.int 0 0] } }:=I1.kept (t':=s1.toks) λb o e=>Xn _ e;have I3:Inv X pins σ H1 { s1 with heap:=(s1.heap.push { cls:=.type "list_iterator",data:=.fields #[.ref l,.int 0 0] }).push { cls:=.type "list",data:=.seq #[] } }:=I2.kept (t':=s1.toks) λb o e=>Xn _ e;have hsz:(s1.heap.push { cls:=.type "list_iterator",data:=.fields #[.ref l,.int 0 0] }).objs.size=s1.heap.objs.size+1:=QT ..;have hne:s1.heap.objs.size≠(s1.heap.push { cls:=.type "list_iterator",data:=.fields #[.ref l,.int 0 0] }).objs.size:=by rw[hsz];exact XM (QR _)
 have hf:∀b∈[s1.heap.objs.size,(s1.heap.push { cls:=.type "list_iterator",data:=.fields #[.ref l,.int 0 0] }).objs.size],cQ X pins H1 b:=λb hb=>by
  have hb':s1.heap.objs.size<=b:=by
   rcases Xx.mp hb with rfl | hb
   ·exact Xj _
   ·rw[Xh.mp hb,hsz];exact QX _
  exact I1.jb hb' (I1.hok.fresh hb')
 have st0:((s1.heap.push { cls:=.type "list_iterator",data:=.fields #[.ref l,.int 0 0] }).push { cls:=.type "list",data:=.seq #[] }).IsListIter s1.heap.objs.size l 0:=⟨_,Xn _ (XA _ rfl),rfl,rfl⟩;refine Wc ⟨WO PB _,zhG hc hq hl h0 hy hne hf I3 st0 (XA _ rfl) λj a s' hj hmin I'=>?_⟩;exact⟨.ref a,H1,I',rfl,q j a hj hmin⟩
end
end L2
namespace PL
open PySem PySem.Spec L2
open PyProof.Rows hiding St
theorem Kr {K:Xc}{Fz:FZ}{H:Hp}:∀ {fV:List (List Key×List PV)}{xs:List V},aj K Fz H (fV.map λp=>PV.dK p.1 p.2) xs->∃(as:Tr)(cJ:List (List V)),xs=as.map V.ref/\as.length=fV.length/\cJ.length=fV.length/\
  (∀(i:Nat) a p ys,as[i]? = some a->fV[i]? = some p->cJ[i]? = some ys->Fz a/\Rd H a (.dK (p.1.zip ys))/\p.1.length=ys.length/\aj K Fz H p.2 ys)
 | [],xs,h=>by
  simp only[Yl,aj]at h;exact⟨[],[],by rw[h];rfl,rfl,rfl,λi a p ys h=>by simp at h⟩
 | q::fV,xs,h=>by
  simp only[Yl,aj,aq]at h;obtain⟨v,r,rfl,⟨a,ys,rfl,h1,h2,h3,h4⟩,h⟩:=h;obtain⟨as,cJ,e,e1,e2,hs⟩:=Kr h;refine⟨a::as,ys::cJ,by rw[e];rfl,by simp[e1],by simp[e2],λi b p zs q1 q2 q3=>?_⟩;cases i with
  | zero=>simp at q1 q2 q3;subst q1 q2 q3;exact⟨h1,h2,h3,h4⟩
  | succ i=>exact hs i b p zs (by simpa using q1) (by simpa using q2) (by simpa using q3)
def zby (te:aN):aN:=λρ Q=>te ρ λd k=>isOwn k=false/\∃fV:List (List Key×List PV),d=.lst (fV.map λp=>PV.dK p.1 p.2)/\0<fV.length/\∀p∈fV,(∀q∈fV,p.1.length<=q.1.length)->Q (.dK p.1 p.2) .aH
section
variable {X:Cx}{e:Expr}{te:aN}{p p2 kp pos:Pos}
theorem zoo (hc:X.calm=true)(hg:Gl X "min") (hm:X.mg "min" = none) (hg2:Gl X "len") (hm2:X.mg "len" = none) (he:aD X e te) (hs:Wf [e] X.env=(false,Wx e X.env)::Wf [] X.env:=by rfl)
  (hbt:Wu pos (Wf [e] X.env)=(false,Wx e X.env)::Wu pos (Wf [] X.env):=by rfl) (hpl:(Wu pos (Wf [e] X.env)).any (·.1)=false:=by rfl):aD X (.Call (.Name "min" p) [e] [⟨some "key",.Name "len" p2,kp⟩] pos) (zby te) where
 mono ρ Q Q' m h:=he.mono ρ _ _ (λd k ⟨e1,fV,e2,e3,q⟩=>⟨e1,fV,e2,e3,λp hp hq=>m _ _ (q p hp hq)⟩) h
 run:=PE.weak (zon hc hg hm hg2 hm2 he.run hs hbt hpl) λσ H Q h=>by
  obtain⟨ρ,Fz,R,h⟩:=h;refine⟨ρ,Fz,R,he.mono ρ _ _ (λd k q v F1 H1 p1=>?_) h⟩;obtain⟨ho,fV,rfl,h0,q⟩:=q;obtain⟨F2,x2,s2,d2⟩:=p1.frozen (uQ ho);simp only[aq]at d2;obtain⟨a,xs,rfl,h1,h2⟩:=d2;obtain⟨as,cJ,rfl,e1,e2,hs⟩:=Kr h2;have hget:∀(i:Nat) (hi:i<fV.length),((fV.zip cJ).map λz=>z.1.1.zip z.2)[i]? = some ((fV[i]).1.zip (cJ[i]'(by lia))):=λi hi=>by
   rw[Xe,Xa (by simp;lia)];simp
  have hlen:∀(i:Nat) (hi:i<fV.length),(((fV.zip cJ).map λz=>z.1.1.zip z.2).getD i []).length=(fV[i]).1.length:=λi hi=>by
   rw[Xd,hget i hi];obtain⟨_,_,q3,_⟩:=hs i (as[i]'(by lia)) fV[i] (cJ[i]'(by lia)) (Xa (by lia)) (Xa hi) (Xa (by lia));simp[q3]
  refine⟨a,as,(fV.zip cJ).map λz=>z.1.1.zip z.2,rfl,h1.elim (λz=>.inl z.2) KX.sq,by simp;lia,by lia,λi b kvs q1 q2=>?_,λj b hj hmin=>?_⟩
  ·have hi:i<fV.length:=by have:=(Xf.mp q1).1;lia
   rw[hget i hi]at q2;cases q2;exact(hs i b fV[i] (cJ[i]'(by lia)) q1 (Xa hi) (Xa (by lia))).2.1
  ·have hji:j<fV.length:=by have:=(Xf.mp hj).1;lia
   obtain⟨q1,q2,q3,q4⟩:=hs j b fV[j] (cJ[j]'(by lia)) hj (Xa hji) (Xa (by lia));refine q fV[j] (XY hji) (λr hr=>?_) _ F2 H1 ⟨x2,?_⟩
   ·obtain⟨m,hm,rfl⟩:=Yr hr;have:=hmin m (by simp;lia);rw[hlen j hji,hlen m hm]at this;exact this
   ·show aq _ _ _ _ _;simp only[aq];exact⟨b,_,rfl,q1,q2,q3,q4⟩
end
section
variable {X:Cx}{a b:Expr}{ta tb:aN}{pos:Pos}
theorem zpU {prog:Wo}{w:Ws}{A:Wv}{E:Ti}{s:Wd}{t b:We}{vs ws:Tq}{Q:Ti}(ht:IsTup s.heap t vs.toArray)(hb:IsTup s.heap b ws.toArray)(hv:vs=[])
  (h:Q (.ref b) s):Wj (Wm prog w) A (W3 .Add (.ref t) (.ref b)) Q E s:=by
 obtain⟨o,ho,hc,n,hd⟩:=ht;obtain⟨o2,ho2,hc2,n2,hd2⟩:=hb;cases o with | mk cls dd data sl=>
 cases o2 with | mk cls2 dd2 data2 sl2=>
 cases hc;cases hd;cases hc2;cases hd2;have he:vs.toArray.isEmpty=true:=by rw[hv];rfl
 have m:=tuple_addW0 t b vs.toArray ws.toArray n n2 dd dd2 sl sl2 he;exact concat_meets ⟨_,ho,rfl⟩ ⟨_,ho2,rfl⟩ noFill_tuple_add seq_tuple_add PySem.F.slot_tuple_add PySem.F.entry_tuple_add (PySem.F.args_tuple_add_2 _ _) m ⟨ho,ho2,h⟩
def Ks (K:Xc):R2:=λx y H Q=>∃l r xs zs,x=.ref l/\y=.ref r/\bG K H l xs/\bG K H r zs/\xs.length+zs.length<=Wi/\
 (xs=[]->Q (.ref r) H)/\(zs=[]->Q (.ref l) H)/\∀p,H p=none->Q (.ref p) (upd H p (.tup (xs++zs)))
theorem zpV:gh X (W3 .Add) (Ks X.K):=by
 intro pins s σ H x y v u Q I rx ry h;obtain⟨l,r,xs,zs,rfl,rfl,hl,hr,hz,q0,q1,q2⟩:=h;by_cases hx:xs=[]
 ·cases rx;cases ry;obtain⟨its,r1,p1,_⟩:=I.tuple hl;obtain⟨its2,r2,p2,_⟩:=I.tuple hr;exact zpU p1 p2 (r1.yS.mpr hx) ⟨.ref r,H,I,rfl,q0 hx⟩
 ·exact Vw pins s σ H (.ref l) (.ref r) v u Q I rx ry ⟨l,r,xs,zs,rfl,rfl,hl,hr,hx,hz,q1,λ_=>q2⟩
def zdG:P2:=λd e Q=>∃ds es,d=.tup ds/\e=.tup es/\ds.length+es.length<=Wi/\Q (.tup (ds++es)) .aH
theorem zsC {K:Xc}:jB K (Ks K) zdG where
 mono d e Q Q' m h:=by obtain⟨ds,es,e1,e2,e3,q⟩:=h;exact⟨ds,es,e1,e2,e3,m _ _ q⟩
 run Fz H x y d e Q al rx ry h:=by
  obtain⟨ds,es,rfl,rfl,e3,q⟩:=h;have dx:aq K Fz H (.tup ds) x:=rx;have dy:aq K Fz H (.tup es) y:=ry;obtain⟨l,xs,rfl,h1,h2⟩:=lX rx;obtain⟨r,ys,rfl,g1,g2⟩:=lX ry;have l1:=h2.length;have l2:=g2.length;refine⟨l,r,xs,ys,rfl,rfl,h1,g1,by lia,λz=>?_,λz=>?_,λp hp=>q _ Fz _ (.xW al hp (h2.append g2))⟩
  ·have:ds=[]:=XQ.mp (by rw[z]at l1;simpa using l1);subst this;exact q _ Fz _ (.val al dy)
  ·have:es=[]:=XQ.mp (by rw[z]at l2;simpa using l2);subst this;rw[Ym]at q;exact q _ Fz _ (.val al dx)
theorem zsD (ha:aD X a ta)(hb:aD X b tb):aD X (.BinOp a .Add b pos) (t2 zdG ta tb):=tu zpV zsC ha hb
end
section
variable {X:Cx}{a:Expr}{ta:aN}{pos:Pos}
def pNeg (ta:aN):aN:=λρ Q=>ta ρ λd _=>∃i:Int,d=.int i/\Q (.int (-i)) .aH
theorem zU (ha:aD X a ta):aD X (.UnaryOp .USub a pos) (pNeg ta) where
 mono ρ Q Q' m h:=ha.mono ρ _ _ (λd k ⟨c,e,q⟩=>⟨c,e,m _ _ q⟩) h
 run:=PE.weak (Gz GC ha.run) λσ H Q h=>by
  obtain⟨ρ,Fz,R,h⟩:=h;refine⟨ρ,Fz,R,ha.mono ρ _ _ (λd k ⟨c,e,q⟩ v ao H' p=>⟨c,?_,q _ ao H' ⟨p.ext,by show aq _ _ _ _ _;simp only[aq]⟩⟩) h⟩;subst e;exact kI (p.root R)
end
end PL
namespace mX
open PySem PyProof.Rows
variable {a b a':Array Wp}{i n na nb lo sa hi p q:Nat}{Q:Bool->WB->Prop}{st:WB}{l:Bool}{α β:Type}{v:Wb}{ns:Tp}
section
variable {σ α:Type}{M:Model}{A:Wv}{E:Ti}{s:Wd}{c:Prop}{dc:Decidable c}{Q:α->σ->Prop}{st:σ}
theorem Ku {L H:Nat}(h:¬ L>=H):L<=L+(H-L) / 2/\L+(H-L) / 2<H:=by lia
theorem zsE {L H:Nat}(h:¬ L>=H):L<=(L+H) / 2/\(L+H) / 2<H:=by lia
theorem eX {x y:StateT σ Sem α}(h1:c->wpS M A E s x Q st)(h2:¬ c->wpS M A E s y Q st):wpS M A E s (if c then x else y) Q st:=by
 split
 ·exact h1 ‹_›
 ·exact h2 ‹_›
theorem Kv {x y:StateT σ Sem α}(R:σ->Prop)(key:∀st2,R st2->wpS M A E s y Q st2)(h1:c->(∀st2,R st2->wpS M A E s y Q st2)->wpS M A E s x Q st)(h2:¬ c->R st):wpS M A E s (if c then x else y) Q st:=by
 split
 ·exact h1 ‹_› key
 ·exact key _ (h2 ‹_›)
theorem Kw {γ:Type}{g:γ->StateT σ Sem α}{v:γ}(h:∀z,wpS M A E s (g z) Q st):∀u:γ,wpS M A E s (if c then g u else g v) Q st:=λu=>by
 split<;>exact h _
theorem zV {γ δ:Type}{g m:γ->δ->StateT σ Sem α}{H:γ->δ->Prop}(P:γ->δ->Prop)(key:∀x y,P x y->wpS M A E s (g x y) Q st)(h1:∀u v,H u v->c->(∀x y,P x y->wpS M A E s (g x y) Q st)->wpS M A E s (m u v) Q st)(h2:∀u v,H u v->¬ c->P u v):∀u v,H u v->wpS M A E s (if c then m u v else g u v) Q st:=λu v hH=>by
 by_cases h:c
 ·rw[Qf h];exact h1 u v hH h key
 ·rw[Qe h];exact key _ _ (h2 u v hH h)
end
def gal:Bool->Wp->Array Wp->Nat->Nat->Nat->StateT WB Sem (Option Nat):=sortPriv% PySem.Builtin.gallop
structure mO (prog:Wo)(w:Ws)(A:Wv)(E:Ti)(s:Wd)(k:Vc)(P:Wp->Prop)(f:Wp->Wp->Bool):Prop where
 run:∀ {x y:Wp} {Q:Option Bool->WB->Prop} {st:WB},P x->P y->kindOf st=k->Q (some (f x y)) st->wpS (Wm prog w) A E s (lt' x y) Q st
section
variable {prog:Wo}{w:Ws}{A:Wv}{E:Ti}{s:Wd}{k:Vc}{P:Wp->Prop}{f:Wp->Wp->Bool}
def gC (f:Wp->Wp->Bool)(l:Bool)(key:Wp)(a:Array Wp)(b i:Nat):Bool:=match a[b+i]? with
 | some x=>if l then f x key else !f key x
 | none=>false
theorem iz {x:Wp}{Q:Wp->WB->Prop}(hx:a[i]? = some x)(h:Q x st):wpS (Wm prog w) A E s (elem' a i) Q st:=by
 rw[elem'_eq,hx];exact Wl h
theorem zuO (C:mO prog w A E s k P f){key:Wp}{b:Nat}{Q:Option Bool->WB->Prop}(hi:b+i<a.size)(hP:∀(j:Nat) x,a[j]? = some x->P x)(hk:P key)(hst:kindOf st=k)(h:Q (some (gC f l key a b i)) st) :
  wpS (Wm prog w) A E s (do let x <- elem' a (b+i);if l=true then lt' x key else do let r <- lt' key x;pure (Option.map (λx=>!x) r)) Q st:=by
 have hx:a[b+i]? = some (a[b+i]):=getElem?_pos a (b+i) hi;have hp:=hP _ _ hx;unfold gC at h;rw[hx]at h;refine Wh (iz hx ?_);cases l with
 | true=>rw[Qf rfl];exact C.run hp hk hst h
 | false=>
  rw[Qe (by decide)];refine Wh (C.run hk hp hst ?_);exact Wl h
structure Cut (B:Nat->Bool)(n r:Nat):Prop where
 le:r<=n
 below:∀i,i<r->B i=true
 above:∀i,r<=i->i<n->B i=false
theorem v5 (C:mO prog w A E s k P f){l:Bool}{key:Wp}{a:Array Wp}{b n h:Nat}{Q:Option Nat->WB->Prop}{st:WB}(hh:h<n)(hn:b+n<=a.size)(hP:∀(j:Nat) x,a[j]? = some x->P x)(hk:P key)(hst:kindOf st=k)
  (hm:∀i j,i<=j->j<n->gC f l key a b j=true->gC f l key a b i=true) (hQ:∀r,Cut (gC f l key a b) n r->Q (some r) st):wpS (Wm prog w) A E s (gal l key a b n h) Q st:=by
 generalize hB:gC f l key a b=B at hm hQ;have bey:∀ {i:Nat} {R:Option Bool->WB->Prop},i<n->R (some (B i)) st->wpS (Wm prog w) A E s (do let x <- elem' a (b+i);if l=true then lt' x key else do let r <- lt' key x;pure (Option.map (λx=>!x) r)) R st:=
  λ{i} {R} hi hr=>zuO C (by lia) hP hk hst (by rw[hB];exact hr)
 have hmF:∀i j,i<=j->j<n->B i=false->B j=false:=λi j h1 h2 h3=>by
  cases hj:B j with
  | false=>rfl
  | true=>rw[hm i j h1 h2 hj]at h3;cases h3
 refine Wh (bey hh ?_);dsimp only;cases hb:B h with
 | true=>
  rw[Qf rfl];refine Wh (WQ (Wz (I:=λx c st'=>st'=st/\∃lastofs ofs,c=(none,lastofs,ofs)/\lastofs<ofs/\x<ofs/\h+lastofs<n/\B (h+lastofs)=true)
   (Q:=λc st'=>st'=st/\∃lastofs ofs,c=(none,lastofs,ofs)/\lastofs<ofs/\h+lastofs<n/\B (h+lastofs)=true/\(n-h<=ofs\/(h+ofs<n/\B (h+ofs)=false))) ?step ?fin ⟨rfl,0,1,rfl,by lia,by lia,by lia,hb⟩) ?post)
  case fin=>
   rintro c st' ⟨rfl,lo,os,rfl,h1,h2,h3,h4⟩;exact⟨rfl,lo,os,rfl,h1,h3,h4,.inl (by lia)⟩
  case step=>
   rintro x c st' _ hx ⟨rfl,lo,os,rfl,h1,h2,h3,h4⟩;dsimp only;by_cases hge:os>=n-h
   ·rw[Qf hge];exact Wl ⟨rfl,lo,os,rfl,h1,h3,h4,.inl hge⟩
   ·rw[Qe hge];refine Wh (bey (by lia) ?_);dsimp only;cases hv:B (h+os)with
    | true=>
     rw[Qe (by decide)];exact Wl ⟨rfl,os,2*os+1,rfl,by lia,by lia,by lia,hv⟩
    | false=>
     rw[Qf (by decide)];exact Wl ⟨rfl,lo,os,rfl,h1,h3,h4,.inr ⟨by lia,hv⟩⟩
  case post=>
   rintro c st' ⟨rfl,lo,os,rfl,h1,h3,h4,h5⟩;dsimp only;have b1:∀i,i<h+lo+1->B i=true:=λi hi=>hm i (h+lo) (by lia) h3 h4;have b2:∀i,h+min os (n-h)<=i->i<n->B i=false:=λi hi1 hi2=>by
    rcases h5 with h5 | ⟨h5,h6⟩
    ·lia
    ·exact hmF (h+os) i (by lia) hi2 h6
   have b3:h+lo+1<=h+min os (n-h):=by lia
   have b4:h+min os (n-h)<=n:=by lia
   generalize h+lo+1=L at b1 b3;generalize h+min os (n-h)=H at b2 b3 b4;refine Wh (WQ (Wz (I:=λx c st2=>st2=st'/\∃L H,c=(none,L,H)/\L<=H/\H<=n/\H-L<=n-x/\(∀i,i<L->B i=true)/\(∀i,H<=i->i<n->B i=false))
    (Q:=λc st2=>st2=st'/\∃H,c=(none,H,H)/\Cut B n H) ?hstep ?hfin ⟨rfl,L,H,rfl,b3,b4,by lia,b1,b2⟩) ?hpost)
   case hfin=>
    rintro c st2 ⟨rfl,L,H,rfl,g1,g2,g3,g4,g5⟩;have:L=H:=by lia
    subst this;exact⟨rfl,L,rfl,⟨g2,g4,g5⟩⟩
   case hstep=>
    rintro x c st2 _ hx ⟨rfl,L,H,rfl,g1,g2,g3,g4,g5⟩;dsimp only;by_cases hge:L>=H
    ·rw[Qf hge];have:L=H:=by lia
     subst this;exact Wl ⟨rfl,L,rfl,⟨g2,g4,g5⟩⟩
    ·rw[Qe hge];obtain⟨hmi,hmid⟩:=Ku hge;generalize L+(H-L) / 2=md at hmi hmid ⊢;refine Wh (bey (by lia) ?_);dsimp only;cases hv:B md with
     | true=>
      rw[Qf rfl];exact Wl ⟨rfl,_,H,rfl,by lia,g2,by lia,λi hi=>hm i _ (by lia) (by lia) hv,g5⟩
     | false=>
      rw[Qe (by decide)];exact Wl ⟨rfl,L,_,rfl,by lia,by lia,by lia,g4,λi h1 h2=>hmF _ i h1 h2 hv⟩
   case hpost=>
    rintro c st2 ⟨rfl,H,rfl,hc⟩;exact Wl (hQ H hc)
 | false=>
  rw[Qe (by decide)];refine Wh (WQ (Wz (I:=λx c st'=>st'=st/\∃lastofs ofs,c=(none,lastofs,ofs)/\lastofs<ofs/\x<ofs/\lastofs<=h/\B (h-lastofs)=false)
   (Q:=λc st'=>st'=st/\∃lastofs ofs,c=(none,lastofs,ofs)/\lastofs<ofs/\lastofs<=h/\B (h-lastofs)=false/\(h+1<=ofs\/(ofs<=h/\B (h-ofs)=true))) ?step ?fin ⟨rfl,0,1,rfl,by lia,by lia,by lia,hb⟩) ?post)
  case fin=>
   rintro c st' ⟨rfl,lo,os,rfl,h1,h2,h3,h4⟩;exact⟨rfl,lo,os,rfl,h1,h3,h4,.inl (by lia)⟩
  case step=>
   rintro x c st' _ hx ⟨rfl,lo,os,rfl,h1,h2,h3,h4⟩;dsimp only;by_cases hge:os>=h+1
   ·rw[Qf hge];exact Wl ⟨rfl,lo,os,rfl,h1,h3,h4,.inl hge⟩
   ·rw[Qe hge];refine Wh (bey (by lia) ?_);dsimp only;cases hv:B (h-os)with
    | true=>
     rw[Qf rfl];exact Wl ⟨rfl,lo,os,rfl,h1,h3,h4,.inr ⟨by lia,hv⟩⟩
    | false=>
     rw[Qe (by decide)];exact Wl ⟨rfl,os,2*os+1,rfl,by lia,by lia,by lia,hv⟩
  case post=>
   rintro c st' ⟨rfl,lo,os,rfl,h1,h3,h4,h5⟩;dsimp only;have b1:∀i,i<h+1-min os (h+1)->B i=true:=λi hi=>by
    rcases h5 with h5 | ⟨h5,h6⟩
    ·lia
    ·exact hm i (h-os) (by lia) (by lia) h6
   have b2:∀i,h-lo<=i->i<n->B i=false:=λi hi1 hi2=>hmF (h-lo) i hi1 hi2 h4;have b3:h+1-min os (h+1)<=h-lo:=by lia
   have b4:h-lo<=n:=by lia
   generalize h+1-min os (h+1)=L at b1 b3;generalize h-lo=H at b2 b3 b4;refine Wh (WQ (Wz (I:=λx c st2=>st2=st'/\∃L H,c=(none,L,H)/\L<=H/\H<=n/\H-L<=n-x/\(∀i,i<L->B i=true)/\(∀i,H<=i->i<n->B i=false))
    (Q:=λc st2=>st2=st'/\∃H,c=(none,H,H)/\Cut B n H) ?hstep ?hfin ⟨rfl,L,H,rfl,b3,b4,by lia,b1,b2⟩) ?hpost)
   case hfin=>
    rintro c st2 ⟨rfl,L,H,rfl,g1,g2,g3,g4,g5⟩;have:L=H:=by lia
    subst this;exact⟨rfl,L,rfl,⟨g2,g4,g5⟩⟩
   case hstep=>
    rintro x c st2 _ hx ⟨rfl,L,H,rfl,g1,g2,g3,g4,g5⟩;dsimp only;by_cases hge:L>=H
    ·rw[Qf hge];have:L=H:=by lia
     subst this;exact Wl ⟨rfl,L,rfl,⟨g2,g4,g5⟩⟩
    ·rw[Qe hge];obtain⟨hmi,hmid⟩:=Ku hge;generalize L+(H-L) / 2=md at hmi hmid ⊢;refine Wh (bey (by lia) ?_);dsimp only;cases hv:B md with
     | true=>
      rw[Qf rfl];exact Wl ⟨rfl,_,H,rfl,by lia,g2,by lia,λi hi=>hm i _ (by lia) (by lia) hv,g5⟩
     | false=>
      rw[Qe (by decide)];exact Wl ⟨rfl,L,_,rfl,by lia,by lia,by lia,g4,λi h1 h2=>hmF _ i h1 h2 hv⟩
   case hpost=>
    rintro c st2 ⟨rfl,H,rfl,hc⟩;exact Wl (hQ H hc)
end
structure Mid {α:Type}(R:α->α->Prop)(a b out:List α)(ia ib:Nat):Prop where
 pm:(out++(a.drop ia++b.drop ib)).Perm (a++b)
 sa:(out++a.drop ia).Pairwise R
 sb:(out++b.drop ib).Pairwise R
structure Good {α:Type}(R:α->α->Prop)(a b out:List α):Prop where
 pm:out.Perm (a++b)
 so:out.Pairwise R
section
variable {α:Type}{R:α->α->Prop}{a b out:List α}{ia ib:Nat}
theorem Mid.lK (h:Mid R a b out ia ib)(k:Nat)(hR:∀x∈(a.drop ia).take k,∀z∈b.drop ib,R x z):Mid R a b (out++(a.drop ia).take k) (ia+k) ib:=by
 have e:a.drop ia=(a.drop ia).take k++a.drop (ia+k):=by rw[<- PJ,Yi]
 refine⟨?_,?_,?_⟩
 ·have:=h.pm;rw[e]at this;simpa[XE]using this
 ·have:=h.sa;rw[e]at this;simpa[XE]using this
 ·have h1:=h.sa;have h2:=h.sb;rw[e,<- XE,XU]at h1;rw[XU]at h2 ⊢;refine⟨h1.1,h2.2.1,λx hx z hz=>?_⟩;rcases Xr.mp hx with hx | hx
  ·exact h2.2.2 x hx z hz
  ·exact hR x hx z hz
theorem Mid.flip (h:Mid R a b out ia ib):Mid R b a out ib ia:=⟨(YG.append_left out YF).trans (h.pm.trans YF),h.sb,h.sa⟩
theorem Mid.uW (h:Mid R a b out ia ib)(k:Nat)(hR:∀x∈(b.drop ib).take k,∀z∈a.drop ia,R x z):Mid R a b (out++(b.drop ib).take k) ia (ib+k):=(h.flip.lK k hR).flip
theorem take_one {l:List α}{x:α}(h:l[i]? = some x):(l.drop i).take 1=[x]:=by
 obtain⟨hi,e⟩:=Xf.mp h;rw[Yz hi,e];rfl
theorem Mid.one (h:Mid R a b out ia ib){x:α}(hx:a[ia]? = some x)(hR:∀z∈b.drop ib,R x z):Mid R a b (out++[x]) (ia+1) ib:=by
 have:=h.lK 1 (by rw[take_one hx];intro y hy;rw[Xh.mp hy];exact hR)
 rwa [take_one hx]at this
theorem Mid.uX (h:Mid R a b out ia ib){x:α}(hx:b[ib]? = some x)(hR:∀z∈a.drop ia,R x z):Mid R a b (out++[x]) ia (ib+1):=(h.flip.one hx hR).flip
theorem Mid.mY (h:Mid R a b out ia ib)(hb:b.length<=ib):Good R a b (out++a.drop ia++b.drop ib):=by
 have e:b.drop ib=[]:=YA hb;have h1:=h.pm;rw[e,Ym]at h1 ⊢;exact⟨h1,h.sa⟩
theorem Mid.uY (h:Mid R a b out ia ib)(ha:a.length<=ia):Good R a b (out++a.drop ia++b.drop ib):=by
 have e:a.drop ia=[]:=YA ha;have h1:=h.pm;rw[e,List.nil_append]at h1;rw[e,Ym];exact⟨h1,h.sb⟩
theorem Mid.last (h:Mid R a b out ia ib)(hR:∀y∈b.drop ib,∀z∈a.drop ia,R y z):Good R a b (out++b.drop ib++a.drop ia):=by
 refine⟨?_,?_⟩
 ·rw[XE];exact(YG.append_left out YF).trans h.pm
 ·have h1:=XU.mp h.sa;rw[XU];refine⟨h.sb,h1.2.1,λx hx z hz=>?_⟩;rcases Xr.mp hx with hx | hx
  ·exact h1.2.2 x hx z hz
  ·exact hR x hx z hz
end
def mLo:Array Wp->Array Wp->StateT WB Sem (Array Wp):=sortPriv% PySem.Builtin.mergeLo
def setG:Nat->StateT WB Sem Unit:=sortPriv% PySem.Builtin.setMinGallop
structure Same (st st':WB):Prop where
 kind:kindOf st'=kindOf st
 arr:Wn st'=Wn st
 pend:Wq st'=Wq st
 failed:W4 st'=W4 st
theorem Same.refl (st:WB):Same st st:=⟨rfl,rfl,rfl,rfl⟩
theorem jT (a:Array α)(i:Nat):(a.extract i a.size).toList=a.toList.drop i:=by
 rw[Oj,QV,Xs (by simp)]
theorem uZ (a:Array α)(i k:Nat):(a.extract i (i+k)).toList=(a.toList.drop i).take k:=by
 rw[Oj,QV,Nat.add_sub_cancel_left]
structure jU (f:Wp->Wp->Bool)(P:Wp->Prop):Prop where
 iB:∀x y,P x->P y->f x y=true->f y x=false
 tr:∀x y z,P x->P y->P z->f y x=false->f z y=false->f z x=false
abbrev Le (f:Wp->Wp->Bool)(x y:Wp):Prop:=f y x=false
section
variable {prog:Wo}{w:Ws}{A:Wv}{E:Ti}{s:Wd}{k:Vc}{P:Wp->Prop}{f:Wp->Wp->Bool}
theorem zW {g:Nat}{Q:Unit->WB->Prop}{st0:WB}(hs:Same st0 st)(h:∀st',Same st0 st'->Q () st'):wpS (Wm prog w) A E s (setG g) Q st:=
 W2 (h _ ⟨hs.kind,hs.arr,hs.pend,hs.failed⟩)
theorem u0 (h:∀(j:Nat) x,a[j]? = some x->P x):∀x∈a.toList,P x:=λx hx=>by
 obtain⟨j,hj,e⟩:=Yr hx;exact h j x (by rw[<- XT,Xa hj,e])
theorem zX {l:List Wp}{x:Wp}(T:jU f P)(hP:∀x∈l,P x)(hs:l.Pairwise (Le f))(hx:l[i]? = some x){y:Wp}(hy:P y)(hyx:Le f y x):∀z∈l.drop i,Le f y z:=λz hz=>by
 obtain⟨hi,e⟩:=Xf.mp hx;have hd:=hs.drop (i:=i);rw[Yz hi,e]at hz hd;rcases Xx.mp hz with rfl | hz2
 ·exact hyx
 ·exact T.tr y x z hy (hP x (Xl hx)) (hP z (YO hz2)) hyx (List.rel_of_pairwise_cons hd hz2)
theorem kJ {key:Wp}{b:Nat}(h:b+i<a.size):gC f l key a b i=if l then f a[b+i] key else !f key a[b+i]:=by
 unfold gC;rw[getElem?_pos a (b+i) h]
theorem El (hs:a.toList.Pairwise (Le f)){j:Nat}(hij:i<j)(hj:j<a.size):Le f (a[i]'(by lia)) a[j]:=by
 have:=List.pairwise_iff_getElem.mp hs i j (by simp;lia) (by simpa using hj) hij;simpa using this
theorem zY (T:jU f P){key:Wp}{b:Nat}(hn:b+n<=a.size)(hP:∀(j:Nat) x,a[j]? = some x->P x)(hk:P key)(hs:a.toList.Pairwise (Le f)):∀i j,i<=j->j<n->gC f l key a b j=true->gC f l key a b i=true:=by
 intro i j hij hj h;rcases O4 hij with hlt | rfl
 ·have hi':b+i<a.size:=by lia
  have hj':b+j<a.size:=by lia
  have pi:P a[b+i]:=hP _ _ (getElem?_pos a _ hi');have pj:P a[b+j]:=hP _ _ (getElem?_pos a _ hj');have hle:Le f a[b+i] a[b+j]:=El hs (by lia) hj';rw[kJ hj']at h;rw[kJ hi'];cases l with
  | true=>
   simp only[if_true]at h ⊢;cases hc:f a[b+i] key with
   | true=>rfl
   | false=>rw[T.tr key a[b+i] a[b+j] hk pi pj hc hle]at h;cases h
  | false=>
   simp only[XF,if_false]at h ⊢;have h:f key a[b+j]=false:=by simpa using h
   rw[T.tr a[b+i] a[b+j] key pi pj hk hle h];rfl
 ·exact h
theorem u9 {k:Nat}(hk:i+k<=a.size){x:Wp}(hx:x∈(a.toList.drop i).take k):∃j,∃h:i+j<a.size,j<k/\x=a[i+j]:=by
 obtain⟨j,hj,e⟩:=Yr hx;rw[XJ,Px,XB]at hj;refine⟨j,by lia,by lia,?_⟩;rw[<- e];simp
theorem zuP (C:mO prog w A E s k P f)(T:jU f P){a b:Array Wp}{Q:Array Wp->WB->Prop}{st:WB}(hst:kindOf st=k)(ha:0<a.size)(hb:0<b.size)(hPa:∀(j:Nat) x,a[j]? = some x->P x)(hPb:∀(j:Nat) x,b[j]? = some x->P x)
  (sa:a.toList.Pairwise (Le f)) (sb:b.toList.Pairwise (Le f)) (h0:f b[0] a[0]=true) (hl:∀y∈b.toList,Le f y (a[a.size-1]'(by lia)))
  (hQ:∀out st',Good (Le f) a.toList b.toList out.toList->Same st st'->Q out st'):wpS (Wm prog w) A E s (mLo a b) Q st:=by
 have pa:=u0 hPa;have pb:=u0 hPb;have la:a.toList.length=a.size:=XB;have lb:b.toList.length=b.size:=XB;have ga:∀ {i:Nat},(hi:i<a.size)->a[i]? = some a[i]:=λ{i} hi=>getElem?_pos a i hi;have gb:∀ {i:Nat},(hi:i<b.size)->b[i]? = some b[i]:=λ{i} hi=>getElem?_pos b i hi;have gla:∀ {i:Nat},(hi:i<a.size)->a.toList[i]? = some a[i]:=λ{i} hi=>by rw[XT];exact ga hi
 have glb:∀ {i:Nat},(hi:i<b.size)->b.toList[i]? = some b[i]:=λ{i} hi=>by rw[XT];exact gb hi
 have Pa:∀ {i:Nat},(hi:i<a.size)->P a[i]:=λ{i} hi=>hPa i _ (ga hi);have Pb:∀ {i:Nat},(hi:i<b.size)->P b[i]:=λ{i} hi=>hPb i _ (gb hi);have stB:∀ {out:List Wp} {ia ib:Nat},Mid (Le f) a.toList b.toList out ia ib->(h1:ia<a.size)->(h2:ib<b.size)->f b[ib] a[ia]=true->Mid (Le f) a.toList b.toList (out++[b[ib]]) ia (ib+1):=
  λm h1 h2 hf=>m.uX (glb h2) (zX T pa sa (gla h1) (Pb h2) (T.iB _ _ (Pb h2) (Pa h1) hf))
 have stA:∀ {out:List Wp} {ia ib:Nat},Mid (Le f) a.toList b.toList out ia ib->(h1:ia<a.size)->(h2:ib<b.size)->f b[ib] a[ia]=false->Mid (Le f) a.toList b.toList (out++[a[ia]]) (ia+1) ib:=
  λm h1 h2 hf=>m.one (gla h1) (zX T pb sb (glb h2) (Pa h1) hf)
 have lst:∀ {out:List Wp} {ia ib:Nat},Mid (Le f) a.toList b.toList out ia ib->ia+1=a.size->Good (Le f) a.toList b.toList (out++b.toList.drop ib++a.toList.drop ia):=λ{out ia ib} m h1=>
  m.last λy hy z hz=>by
   have e:a.toList.drop ia=[a[a.size-1]'(by lia)]:=by
    rw[Yz (by lia),YA (by lia)]
    congr 1
    rw[Array.getElem_toList]
    congr 1
    lia
   rw[e]at hz;rw[Xh.mp hz];exact hl y (YO hy)
 have start:Mid (Le f) a.toList b.toList [b[0]] 0 1:=by
  have:Mid (Le f) a.toList b.toList [] 0 0:=⟨by simp,by simpa using sa,by simpa using sb⟩;exact stB this ha hb h0
 refine Wh (wpS_lift (WK ⟨rfl,?_⟩));refine Wh (iz (gb hb) ?_);refine eX (λhb1=>?_) (λhb1=>?_)
 ·refine Wl (hQ _ _ ?_ (.refl st));have e:1=b.size:=by simpa using hb1
  rw[Xq,Xq,jT,jT];exact start.mY (by lia)
 refine eX (λha1=>?_) (λha1=>?_)
 ·refine Wl (hQ _ _ ?_ (.refl st));have e:0+1=a.size:=by simpa using ha1
  rw[Xq,Xq,jT,jT];exact lst start (by lia)
 have hb2:1<b.size:=by have:¬ 1=b.size:=(by simpa using hb1);lia
 have ha2:0+1<a.size:=by have:¬ 0+1=a.size:=(by simpa using ha1);lia
 refine Wh (wpS_get ?_);refine Wh (WQ (Wz
  (I:=λx c st'=>Same st st'/\∃out ia ib mg,c=(none,out,ia,ib,mg)/\Mid (Le f) a.toList b.toList out.toList ia ib/\ia+1<a.size/\ib<b.size/\x+1<=ia+ib)
  (Q:=λc st'=>Same st st'/\∃out,c.1=some out/\Good (Le f) a.toList b.toList out.toList) ?step ?fin ⟨.refl st,_,0,1,_,rfl,by simpa using start,ha2,hb2,by lia⟩) ?post)
 case fin=>
  rintro c st' ⟨_,out,ia,ib,mg,rfl,_,h1,h2,h3⟩;exfalso
  lia
 case post=>
  rintro⟨c1,c2⟩ st' ⟨hs,out,e,g⟩;simp only at e;subst e;exact Wl (hQ _ _ g hs)
 case step=>
  rintro x c st1 _ hx ⟨hs,out,ia,ib,mg,rfl,m,h1,h2,h3⟩;show wpS _ _ _ _ (bind _ _) _ _;dsimp -zeta only;refine Wh (WQ (Wz
   (I:=λx c st'=>Same st st'/\∃out gQ iU ac bc,c=(none,out,gQ,iU,ac,bc)/\Mid (Le f) a.toList b.toList out.toList gQ iU/\gQ+1<a.size/\iU<b.size/\x+(ia+ib)<=gQ+iU)
   (Q:=λc st'=>Same st st'/\((∃out,c.1=some out/\Good (Le f) a.toList b.toList out.toList)\/∃out gQ iU ac bc,c=(none,out,gQ,iU,ac,bc)/\Mid (Le f) a.toList b.toList out.toList gQ iU/\gQ+1<a.size/\iU<b.size/\1+(ia+ib)<=gQ+iU)) ?step1 ?fin1 ⟨hs,out,ia,ib,0,0,rfl,m,h1,h2,by lia⟩) ?pF)
  case fin1=>
   rintro c st' ⟨_,out,gQ,iU,ac,bc,rfl,_,h1,h2,h3⟩;exfalso
   lia
  case step1=>
   rintro y c st2 _ hy ⟨hs2,iC,gQ,iU,ac,bc,rfl,m2,g1,g2,g3⟩;dsimp only;refine Wh (iz (gb g2) (Wh (iz (ga (show gQ<a.size by lia)) (Wh (C.run (Pb g2) (Pa _) (by rw[hs2.kind];exact hst) ?_)))));dsimp only;cases hf:f b[iU] (a[gQ]'(by lia))with
   | true=>
    have m3:=stB m2 (by lia) g2 hf;rw[<- Ph]at m3;rw[Qf rfl];refine Wh (iz (gb g2) ?_);refine eX (λe1=>?_) (λe1=>?_)
    ·have e1:iU+1=b.size:=by simpa using e1
     refine Wl ⟨hs2,.inl ⟨_,rfl,?_⟩⟩;rw[Xq,Xq,jT,jT];exact m3.mY (by lia)
    ·have e1:¬ iU+1=b.size:=by simpa using e1
     refine eX (λe2=>?_) (λe2=>?_)
     ·exact Wl ⟨hs2,.inr ⟨_,_,_,_,_,rfl,m3,g1,by lia,by lia⟩⟩
     ·exact Wl ⟨hs2,_,_,_,_,_,rfl,m3,g1,by lia,by lia⟩
   | false=>
    have m3:=stA m2 (by lia) g2 hf;rw[<- Ph]at m3;rw[Qe (by decide)];refine Wh (iz (ga (show gQ<a.size by lia)) ?_);refine eX (λe1=>?_) (λe1=>?_)
    ·have e1:gQ+1+1=a.size:=by simpa using e1
     refine Wl ⟨hs2,.inl ⟨_,rfl,?_⟩⟩;rw[Xq,Xq,jT,jT];exact lst m3 e1
    ·have e1:¬ gQ+1+1=a.size:=by simpa using e1
     refine eX (λe2=>?_) (λe2=>?_)
     ·exact Wl ⟨hs2,.inr ⟨_,_,_,_,_,rfl,m3,by lia,g2,by lia⟩⟩
     ·exact Wl ⟨hs2,_,_,_,_,_,rfl,m3,by lia,g2,by lia⟩
  case pF=>
   rintro c st2 ⟨hs2,hc⟩;rcases hc with ⟨iC,e,g⟩ | ⟨iC,gQ,iU,ac,bc,rfl,m2,g1,g2,g3⟩
   ·obtain⟨c1,c2⟩:=c;simp only at e;subst e;exact Wl ⟨hs2,_,rfl,g⟩
   show wpS _ _ _ _ (bind _ _) _ _;dsimp -zeta only;refine Wh (wpS_lift (WK ⟨rfl,?_⟩));refine Wh (WQ (Wz
    (I:=λx c st'=>Same st st'/\∃out gR dY mg ac bc,c=(none,out,gR,dY,mg,ac,bc)/\Mid (Le f) a.toList b.toList out.toList gR dY/\gR+1<a.size/\dY<b.size/\x+(gQ+iU)<=gR+dY)
    (Q:=λc st'=>Same st st'/\((∃out,c.1=some out/\Good (Le f) a.toList b.toList out.toList)\/∃out gR dY mg ac bc,c=(none,out,gR,dY,mg,ac,bc)/\Mid (Le f) a.toList b.toList out.toList gR dY/\gR+1<a.size/\dY<b.size/\gQ+iU<=gR+dY)) ?j8 ?fin2 ⟨hs2,iC,gQ,iU,_,ac,bc,rfl,m2,g1,g2,by lia⟩) ?post2)
   case fin2=>
    rintro c st' ⟨_,out,gQ,iU,mg,ac,bc,rfl,_,h1,h2,h3⟩;exfalso
    lia
   case post2=>
    rintro c st3 ⟨hs3,hc⟩;rcases hc with ⟨eY,e,g⟩ | ⟨eY,gR,dY,mg3,ac3,bc3,rfl,m3,q1,q2,q3⟩
    ·obtain⟨c1,c2⟩:=c;simp only at e;subst e;exact Wl ⟨hs3,_,rfl,g⟩
    dsimp only;refine Wh (zW hs3 λst4 gD=>?_);exact Wl ⟨gD,_,_,_,_,rfl,m3,q1,q2,by lia⟩
   case j8=>
    rintro y c st3 _ hy ⟨hs3,eY,gR,dY,mg3,ac3,bc3,rfl,m3,q1,q2,q3⟩;have nA:gR+(a.size-gR)<=a.size:=by lia
    show wpS _ _ _ _ (ite _ _ _) _ _;dsimp -zeta only;generalize mg3-1=mu;revert mu;refine Kw λmgX=>?_;refine Wh (zW hs3 λst4 gD=>?_);refine Wh (iz (gb q2) (Wh ?_));refine v5 C (l:=false) (key:=b[dY]) (a:=a) (b:=gR) (n:=a.size-gR) (h:=0) (by lia) nA hPa (Pb q2) (by rw[gD.kind];exact hst) (zY T nA hPa (Pb q2) sa) λkk cut=>?_;have c1:=cut.le;have m4:=m3.lK kk λx hx=>by
     obtain⟨j,hj,hjk,rfl⟩:=u9 (by lia) hx;have:=cut.below j hjk;rw[kJ hj]at this;simp only[XF,if_false]at this;exact zX T pb sb (glb q2) (Pa hj) (show f b[dY] a[gR+j]=false by simpa using this)
    have c2:∀(h:gR+kk<a.size),f b[dY] a[gR+kk]=true:=λh=>by
     have:=cut.above kk (Xj _) (by lia);rw[kJ h]at this;simp only[XF,if_false]at this;simpa using this
    show wpS _ _ _ _ (ite _ _ _) _ _;dsimp -zeta only;have HH:=QC m4 (QC c1 (QC c2 (QC q1 q3)));clear c1 c2 m4 cut nA m3 q1 q3;revert HH;revert gR;revert eY;refine zV (λo i=>Mid (Le f) a.toList b.toList o.toList i dY/\i+1<a.size/\(∀(h:i<a.size),f b[dY] a[i]=true)/\y+(gQ+iU)<=i+dY) ?_ (λeY gR ⟨m4,c1,c2,q1,q3⟩ hk0 key=>?_) λeY gR ⟨m4,c1,c2,q1,q3⟩ hk0=>?_
    rotate_left
    ·refine eX (λe1=>?_) (λe1=>?_)
     ·refine Wl ⟨gD,.inl ⟨_,rfl,?_⟩⟩;rw[Xq,Xq,Xq,jT,jT,uZ];exact lst m4 (by simpa using e1)
     refine eX (λe2=>?_) (λe2=>?_)
     ·have e2:gR+kk=a.size:=by simpa using e2
      refine Wl ⟨gD,.inl ⟨_,rfl,?_⟩⟩;rw[Xq,Xq,Xq,jT,jT,uZ];exact m4.uY (by lia)
     have e1:¬ gR+kk+1=a.size:=by simpa using e1
     have e2:¬ gR+kk=a.size:=by simpa using e2
     rw[<- uZ,<- Xq]at m4;exact key _ _ ⟨m4,by lia,c2,by lia⟩
    ·have hk0:kk=0:=Nat.eq_zero_of_not_pos hk0;subst hk0;rw[Nat.add_zero,List.take_zero,Ym]at m4;exact⟨m4,q1,c2,by lia⟩
    rintro pG tQ ⟨m4,gX,fX,qX⟩;have rH:tQ<a.size:=by lia
    have m5:=stB m4 rH q2 (fX rH);rw[<- Ph]at m5;refine Wh (iz (gb q2) ?_);refine eX (λe3=>?_) (λe3=>?_)
    ·have e3:dY+1=b.size:=by simpa using e3
     refine Wl ⟨gD,.inl ⟨_,rfl,?_⟩⟩;rw[Xq,Xq,jT,jT];exact m5.mY (by lia)
    have e3:¬ dY+1=b.size:=by simpa using e3
    have nB:(dY+1)+(b.size-(dY+1))<=b.size:=by lia
    refine Wh (iz (ga rH) (Wh ?_));refine v5 C (l:=true) (key:=a[tQ]) (a:=b) (b:=dY+1) (n:=b.size-(dY+1)) (h:=0) (by lia) nB hPb (Pa rH) (by rw[gD.kind];exact hst) (zY T nB hPb (Pa rH) sb) λk2 eZ=>?_;have d1:=eZ.le;have m6:=m5.uW k2 λx hx=>by
     obtain⟨j,hj,hjk,rfl⟩:=u9 (by lia) hx;have:=eZ.below j hjk;rw[kJ hj]at this;simp only[if_true]at this;exact zX T pa sa (gla rH) (Pb hj) (T.iB _ _ (Pb hj) (Pa rH) this)
    have d2:∀(h:dY+1+k2<b.size),f b[dY+1+k2] a[tQ]=false:=λh=>by
     have:=eZ.above k2 (Xj _) (by lia);rw[kJ h]at this;simpa only[if_true]using this
    have l3:dY+1<b.size:=by lia
    have qY:y+1+(gQ+iU)<=tQ+(dY+1):=by lia
    clear m5 eZ e3 nB m4 fX;generalize pG.push b[dY]=jK at m6;show wpS _ _ _ _ (ite _ _ _) _ _;dsimp -zeta only;generalize dY+1=ib4 at m6 d1 d2 l3 qY ⊢;have HH:=QC m6 (QC d1 (QC d2 (QC l3 qY)));clear m6 d1 d2 l3 qY;revert HH;revert ib4;revert jK;refine zV (γ:=Array Wp) (δ:=Nat) (λo i=>Mid (Le f) a.toList b.toList o.toList tQ i/\i<b.size/\(∀(h:i<b.size),f b[i] a[tQ]=false)/\y+1+(gQ+iU)<=tQ+i) ?_ (λjK ib4 ⟨m6,d1,d2,l3,qY⟩ hk2 key=>?_) λjK ib4 ⟨m6,d1,d2,l3,qY⟩ hk2=>?_
    rotate_left
    ·refine eX (λe4=>?_) (λe4=>?_)
     ·have e4:ib4+k2=b.size:=by simpa using e4
      refine Wl ⟨gD,.inl ⟨_,rfl,?_⟩⟩;rw[Xq,Xq,Xq,jT,jT,uZ];exact m6.mY (by lia)
     have e4:¬ ib4+k2=b.size:=by simpa using e4
     rw[<- uZ,<- Xq]at m6;exact key _ _ ⟨m6,by lia,d2,by lia⟩
    ·have hk2:k2=0:=Nat.eq_zero_of_not_pos hk2;subst hk2;rw[Nat.add_zero,List.take_zero,Ym]at m6;exact⟨m6,l3,d2,qY⟩
    rintro outZ ibZ ⟨m6,gY,fY,qY⟩;have m7:=stA m6 rH gY (fY gY);rw[<- Ph]at m7;refine Wh (iz (ga rH) ?_);refine eX (λe5=>?_) (λe5=>?_)
    ·refine Wl ⟨gD,.inl ⟨_,rfl,?_⟩⟩;rw[Xq,Xq,jT,jT];exact lst m7 (by simpa using e5)
    have e5:¬ tQ+1+1=a.size:=by simpa using e5
    split
    ·exact Wl ⟨gD,.inr ⟨_,_,_,_,_,_,rfl,m7,by lia,gY,by lia⟩⟩
    ·exact Wl ⟨gD,_,_,_,_,_,_,rfl,m7,by lia,gY,by lia⟩
end
def mHi:Array Wp->Array Wp->StateT WB Sem (Array Wp):=sortPriv% PySem.Builtin.mergeHi
structure Up {α:Type}(R:α->α->Prop)(a b O:List α)(na nb:Nat):Prop where
 pm:(a.take na++(b.take nb++O)).Perm (a++b)
 sa:(a.take na++O).Pairwise R
 sb:(b.take nb++O).Pairwise R
section
variable {α:Type}{R:α->α->Prop}{a b O:List α}{na nb:Nat}
theorem zuQ {l:List α}(h:i<=n):l.take n=l.take i++(l.take n).drop i:=by
 have:=(Yi i (l.take n)).symm
 rwa [List.take_take,Oc h]at this
theorem Up.flip (h:Up R a b O na nb):Up R b a O nb na:=by
 refine⟨?_,h.sb,h.sa⟩;refine YG.trans ?_ (h.pm.trans YF);rw[<- XE,<- XE];exact YG.append_right O YF
theorem Up.lK (h:Up R a b O na nb)(hi:i<=na)(hR:∀z∈b.take nb,∀x∈(a.take na).drop i,R z x):Up R a b ((a.take na).drop i++O) i nb:=by
 have e:=zuQ (l:=a) hi;refine⟨?_,?_,?_⟩
 ·refine YG.trans ?_ h.pm;have e2:a.take na++(b.take nb++O)=a.take i++((a.take na).drop i++(b.take nb++O)):=by
   rw[<- XE (a.take i),<- e]
  rw[e2];refine YG.append_left _ ?_;rw[<- XE,<- XE];exact YG.append_right O YF
 ·rw[<- XE,<- e];exact h.sa
 ·have h1:=h.sa;have h2:=XU.mp h.sb;rw[e,XE]at h1;have h1:=(XU.mp h1).2.1;rw[XU];refine⟨h2.1,h1,λz hz x hx=>?_⟩;rcases Xr.mp hx with hx | hx
  ·exact hR z hz x hx
  ·exact h2.2.2 z hz x hx
theorem Up.uW (h:Up R a b O na nb)(hi:i<=nb)(hR:∀z∈a.take na,∀x∈(b.take nb).drop i,R z x):Up R a b ((b.take nb).drop i++O) na i:=(h.flip.lK hi hR).flip
theorem Ky {l:List α}{x:α}(h:l[i]? = some x):(l.take (i+1)).drop i=[x]:=by
 obtain⟨hi,e⟩:=Xf.mp h;rw[List.drop_take,Yz hi,e,Nat.add_sub_cancel_left];rfl
theorem Up.one (h:Up R a b O (na+1) nb){x:α}(hx:a[na]? = some x)(hR:∀z∈b.take nb,R z x):Up R a b (x::O) na nb:=by
 have:=h.lK (i:=na) (by lia) (by rw[Ky hx];intro z hz y hy;rw[Xh.mp hy];exact hR z hz)
 rwa [Ky hx]at this
theorem Up.uX (h:Up R a b O na (nb+1)){x:α}(hx:b[nb]? = some x)(hR:∀z∈a.take na,R z x):Up R a b (x::O) na nb:=(h.flip.one hx hR).flip
theorem Up.uY (h:Up R a b O 0 nb):Good R a b (a.take 0++b.take nb++O):=⟨by rw[XE];exact h.pm,by simpa using h.sb⟩
theorem Up.mY (h:Up R a b O na 0):Good R a b (a.take na++b.take 0++O):=⟨by rw[XE];exact h.pm,by simpa using h.sa⟩
theorem Up.first (h:Up R a b O na nb)(hR:∀y∈b.take nb,∀z∈a.take na,R y z):Good R a b (b.take nb++a.take na++O):=by
 refine⟨?_,?_⟩
 ·refine YG.trans ?_ h.pm;rw[<- XE];exact YG.append_right O YF
 ·have h1:=XU.mp h.sb;rw[XE,XU];refine⟨h1.1,h.sa,λy hy z hz=>?_⟩;rcases Xr.mp hz with hz | hz
  ·exact hR y hy z hz
  ·exact h1.2.2 y hy z hz
end
theorem jV (a:Array α)(n:Nat):(a.extract 0 n).toList=a.toList.take n:=by
 rw[Oj,QV,List.drop_zero,Nat.sub_zero]
theorem Kz (a:Array α)(i n:Nat):(a.extract i n).toList=(a.toList.take n).drop i:=by
 rw[Oj,QV,List.drop_take]
section
variable {prog:Wo}{w:Ws}{A:Wv}{E:Ti}{s:Wd}{k:Vc}{P:Wp->Prop}{f:Wp->Wp->Bool}
theorem Em {x:Wp}(hx:x∈a.toList.take n):∃j,∃h:j<a.size,j<n/\x=a[j]:=by
 obtain⟨j,hj,e⟩:=Yr hx;rw[XJ,XB]at hj;exact⟨j,by lia,by lia,by rw[<- e];simp⟩
theorem mem_mid {x:Wp}(hx:x∈(a.toList.take n).drop i):∃j,∃h:j<a.size,i<=j/\j<n/\x=a[j]:=by
 obtain⟨j,hj,e⟩:=Yr hx;rw[Px,XJ,XB]at hj;exact⟨i+j,by lia,by lia,by lia,by rw[<- e];simp⟩
theorem zZ (T:jU f P)(hP:∀(j:Nat) x,a[j]? = some x->P x)(hs:a.toList.Pairwise (Le f))(hn:n<a.size){y:Wp}(hy:P y)(hxy:Le f a[n] y):∀z∈a.toList.take (n+1),Le f z y:=λz hz=>by
 obtain⟨j,hj,hjn,rfl⟩:=Em hz;rcases O4 (Nat.le_of_lt_succ hjn)with h | rfl
 ·exact T.tr a[j] a[n] y (hP j _ (getElem?_pos a j hj)) (hP n _ (getElem?_pos a n hn)) hy (El hs h hn) hxy
 ·exact hxy
end
theorem Up.z6 {R:α->α->Prop}{a b O:List α}(h:Up R a b O na nb)(e:na=0):Good R a b (a.take na++b.take nb++O):=by subst e;exact h.uY
theorem Up.zvV {R:α->α->Prop}{a b O:List α}(h:Up R a b O na nb)(e:nb=0):Good R a b (a.take na++b.take nb++O):=by subst e;exact h.mY
section
variable {prog:Wo}{w:Ws}{A:Wv}{E:Ti}{s:Wd}{k:Vc}{P:Wp->Prop}{f:Wp->Wp->Bool}
theorem zuR (C:mO prog w A E s k P f)(T:jU f P){a b:Array Wp}{Q:Array Wp->WB->Prop}{st:WB}(hst:kindOf st=k)(ha:0<a.size)(hb:0<b.size)(hPa:∀(j:Nat) x,a[j]? = some x->P x)(hPb:∀(j:Nat) x,b[j]? = some x->P x)
  (sa:a.toList.Pairwise (Le f)) (sb:b.toList.Pairwise (Le f)) (h0:f b[0] a[0]=true) (hl:∀y∈b.toList,Le f y (a[a.size-1]'(by lia)))
  (hQ:∀out st',Good (Le f) a.toList b.toList out.toList->Same st st'->Q out st'):wpS (Wm prog w) A E s (mHi a b) Q st:=by
 have pa:=u0 hPa;have pb:=u0 hPb;have la:a.toList.length=a.size:=XB;have lb:b.toList.length=b.size:=XB;have ga:∀ {i:Nat},(hi:i<a.size)->a[i]? = some a[i]:=λ{i} hi=>getElem?_pos a i hi;have gb:∀ {i:Nat},(hi:i<b.size)->b[i]? = some b[i]:=λ{i} hi=>getElem?_pos b i hi;have gla:∀ {i:Nat},(hi:i<a.size)->a.toList[i]? = some a[i]:=λ{i} hi=>by rw[XT];exact ga hi
 have glb:∀ {i:Nat},(hi:i<b.size)->b.toList[i]? = some b[i]:=λ{i} hi=>by rw[XT];exact gb hi
 have Pa:∀ {i:Nat},(hi:i<a.size)->P a[i]:=λ{i} hi=>hPa i _ (ga hi);have Pb:∀ {i:Nat},(hi:i<b.size)->P b[i]:=λ{i} hi=>hPb i _ (gb hi);have stA:∀ {O:List Wp} {n m:Nat},Up (Le f) a.toList b.toList O (n+1) (m+1)->(h1:n<a.size)->(h2:m<b.size)->f b[m] a[n]=true->Up (Le f) a.toList b.toList (a[n]::O) n (m+1):=
  λu h1 h2 hf=>u.one (gla h1) (zZ T hPb sb h2 (Pa h1) (T.iB _ _ (Pb h2) (Pa h1) hf))
 have stB:∀ {O:List Wp} {n m:Nat},Up (Le f) a.toList b.toList O (n+1) (m+1)->(h1:n<a.size)->(h2:m<b.size)->f b[m] a[n]=false->Up (Le f) a.toList b.toList (b[m]::O) (n+1) m:=
  λu h1 h2 hf=>u.uX (glb h2) (zZ T hPa sa h1 (Pb h2) hf)
 have fst:∀ {O:List Wp} {n m:Nat},Up (Le f) a.toList b.toList O n m->m=1->Good (Le f) a.toList b.toList (b.toList.take m++a.toList.take n++O):=λ{O n m} u em=>
  u.first λy hy z hz=>by
   obtain⟨i,hi,hi1,rfl⟩:=Em hy;obtain⟨j,hj,_,rfl⟩:=Em hz;have:i=0:=by lia
   subst this;have h1:=T.iB _ _ (Pb hb) (Pa ha) h0;rcases Nat.eq_zero_or_pos j with rfl | hj0
   ·exact h1
   ·exact T.tr _ _ _ (Pb hb) (Pa ha) (Pa hj) h1 (El sa hj0 hj)
 have start:Up (Le f) a.toList b.toList [a[a.size-1]'(by lia)] (a.size-1) b.size:=by
  have h:Up (Le f) a.toList b.toList [] (a.size-1+1) b.size:=by
   refine⟨?_,?_,?_⟩
   ·rw[Xs (by lia),Xs (by lia),Ym]
   ·rw[Xs (by lia),Ym];exact sa
   ·rw[Xs (by lia),Ym];exact sb
  exact h.one (gla (by lia)) λz hz=>hl z (YC hz)
 refine Wh (wpS_lift (WK ⟨rfl,?_⟩));refine Wh (iz (ga (show a.size-1<a.size by lia)) ?_);refine eX (λha1=>?_) (λha1=>?_)
 ·have e:a.size-1=0:=by simpa using ha1
  refine Wl (hQ _ _ ?_ (.refl st));rw[Xq,Xq,jV,jV,Yw];exact start.z6 e
 refine eX (λhb1=>?_) (λhb1=>?_)
 ·have e:b.size=1:=by simpa using hb1
  refine Wl (hQ _ _ ?_ (.refl st));rw[Xq,Xq,jV,jV,Yw];exact fst start e
 have ha2:1<=a.size-1:=by have:¬ a.size-1=0:=(by simpa using ha1);lia
 have hb2:2<=b.size:=by have:¬ b.size=1:=(by simpa using hb1);lia
 refine Wh (wpS_get ?_);refine Wh (WQ (Wz
  (I:=λx c st'=>Same st st'/\∃out na nb mg,c=(none,na,nb,out,mg)/\Up (Le f) a.toList b.toList out.toList.reverse na nb/\1<=na/\2<=nb/\na<=a.size/\nb<=b.size/\x+(na+nb)+1<=a.size+b.size)
  (Q:=λc st'=>Same st st'/\∃out,c.1=some out/\Good (Le f) a.toList b.toList out.toList) ?step ?fin ⟨.refl st,_,a.size-1,b.size,_,rfl,by simpa using start,ha2,hb2,by lia,by lia,by lia⟩) ?post)
 case fin=>
  rintro c st' ⟨_,out,na,nb,mg,rfl,_,h1,h2,h3,h4,h5⟩;exfalso
  lia
 case post=>
  rintro⟨c1,c2⟩ st' ⟨hs,out,e,g⟩;simp only at e;subst e;exact Wl (hQ _ _ g hs)
 case step=>
  rintro x c st1 _ hx ⟨hs,out,na,nb,mg,rfl,u,h1,h2,h3,h4,h5⟩;show wpS _ _ _ _ (bind _ _) _ _;dsimp -zeta only;refine Wh (WQ (Wz
   (I:=λx c st'=>Same st st'/\∃out n2 m2 ac bc,c=(none,n2+1,m2+1,out,ac,bc)/\Up (Le f) a.toList b.toList out.toList.reverse (n2+1) (m2+1)/\1<=m2/\n2<a.size/\m2<b.size/\x+(n2+m2+2)<=na+nb)
   (Q:=λc st'=>Same st st'/\((∃out,c.1=some out/\Good (Le f) a.toList b.toList out.toList)\/∃out n2 m2 ac bc,c=(none,n2+1,m2+1,out,ac,bc)/\Up (Le f) a.toList b.toList out.toList.reverse (n2+1) (m2+1)/\1<=m2/\n2<a.size/\m2<b.size/\1+(n2+m2+2)<=na+nb)) ?step1 ?fin1 ?ini1) ?pF)
  case ini1=>
   obtain⟨n,rfl⟩:∃n,na=n+1:=⟨na-1,by lia⟩;obtain⟨m,rfl⟩:∃m,nb=m+1:=⟨nb-1,by lia⟩;exact⟨hs,out,n,m,0,0,rfl,u,by lia,by lia,by lia,by lia⟩
  case fin1=>
   rintro c st' ⟨_,out,n2,m2,ac,bc,rfl,_,h1,h2,h3,h4⟩;exfalso
   lia
  case step1=>
   rintro y c st2 _ hy ⟨hs2,iC,n2,m2,ac,bc,rfl,u2,g1,g2,g3,g4⟩;dsimp only;refine Wh (iz (gb g3) (Wh (iz (ga g2) (Wh (C.run (Pb g3) (Pa g2) (by rw[hs2.kind];exact hst) ?_)))));simp only[O2];cases hf:f b[m2] a[n2]with
   | true=>
    have u3:=stA u2 g2 g3 hf;have er:a[n2]::iC.toList.reverse=(iC.push a[n2]).toList.reverse:=by simp
    rw[er]at u3;rw[Qf rfl];refine Wh (iz (ga g2) ?_);refine eX (λe1=>?_) (λe1=>?_)
    ·refine Wl ⟨hs2,.inl ⟨_,rfl,?_⟩⟩;rw[Xq,Xq,jV,jV,Yw];exact u3.z6 (by simpa using e1)
    ·have e1:¬ n2=0:=by simpa using e1
     obtain⟨n3,rfl⟩:∃n3,n2=n3+1:=⟨n2-1,by lia⟩;refine eX (λe2=>?_) (λe2=>?_)
     ·exact Wl ⟨hs2,.inr ⟨_,_,_,_,_,rfl,u3,g1,by lia,g3,by lia⟩⟩
     ·exact Wl ⟨hs2,_,_,_,_,_,rfl,u3,g1,by lia,g3,by lia⟩
   | false=>
    have u3:=stB u2 g2 g3 hf;have er:b[m2]::iC.toList.reverse=(iC.push b[m2]).toList.reverse:=by simp
    rw[er]at u3;rw[Qe (by decide)];refine Wh (iz (gb g3) ?_);refine eX (λe1=>?_) (λe1=>?_)
    ·refine Wl ⟨hs2,.inl ⟨_,rfl,?_⟩⟩;rw[Xq,Xq,jV,jV,Yw];exact fst u3 (by simpa using e1)
    ·have e1:¬ m2=1:=by simpa using e1
     obtain⟨m3,rfl⟩:∃m3,m2=m3+1:=⟨m2-1,by lia⟩;refine eX (λe2=>?_) (λe2=>?_)
     ·exact Wl ⟨hs2,.inr ⟨_,_,_,_,_,rfl,u3,by lia,g2,by lia,by lia⟩⟩
     ·exact Wl ⟨hs2,_,_,_,_,_,rfl,u3,by lia,g2,by lia,by lia⟩
  case pF=>
   rintro c st2 ⟨hs2,hc⟩;rcases hc with ⟨iC,e,g⟩ | ⟨iC,n2,m2,ac,bc,rfl,u2,g1,g2,g3,g4⟩
   ·obtain⟨c1,c2⟩:=c;simp only at e;subst e;exact Wl ⟨hs2,_,rfl,g⟩
   show wpS _ _ _ _ (bind _ _) _ _;dsimp -zeta only;refine Wh (wpS_lift (WK ⟨rfl,?_⟩));refine Wh (WQ (Wz
    (I:=λx c st'=>Same st st'/\∃out n3 m3 mg ac bc,c=(none,n3+1,m3+1,out,mg,ac,bc)/\Up (Le f) a.toList b.toList out.toList.reverse (n3+1) (m3+1)/\1<=m3/\n3<a.size/\m3<b.size/\x+(n3+m3)<=n2+m2)
    (Q:=λc st'=>Same st st'/\((∃out,c.1=some out/\Good (Le f) a.toList b.toList out.toList)\/∃out n3 m3 mg ac bc,c=(none,n3+1,m3+1,out,mg,ac,bc)/\Up (Le f) a.toList b.toList out.toList.reverse (n3+1) (m3+1)/\1<=m3/\n3<a.size/\m3<b.size/\n3+m3<=n2+m2)) ?j8 ?fin2 ⟨hs2,iC,n2,m2,_,ac,bc,rfl,u2,g1,g2,g3,by lia⟩) ?post2)
   case fin2=>
    rintro c st' ⟨_,out,n3,m3,mg,ac,bc,rfl,_,h1,h2,h3,h4⟩;exfalso
    lia
   case post2=>
    rintro c st3 ⟨hs3,hc⟩;rcases hc with ⟨eY,e,g⟩ | ⟨eY,n3,m3,mg3,ac3,bc3,rfl,u3,q1,q2,q3,q4⟩
    ·obtain⟨c1,c2⟩:=c;simp only at e;subst e;exact Wl ⟨hs3,_,rfl,g⟩
    dsimp only;refine Wh (zW hs3 λst4 gD=>?_);exact Wl ⟨gD,_,_,_,_,rfl,u3,by lia,by lia,by lia,by lia,by lia⟩
   case j8=>
    rintro y c st3 _ hy ⟨hs3,eY,n3,m3,mg3,ac3,bc3,rfl,u3,q1,q2,q3,q4⟩;show wpS _ _ _ _ (ite _ _ _) _ _;dsimp -zeta only;generalize mg3-1=mu;revert mu;refine Kw λmgX=>?_;refine Wh (zW hs3 λst4 gD=>?_);have hk4:kindOf st4=k:=by rw[gD.kind];exact hst
    have nA:0+(n3+1)<=a.size:=by lia
    refine Wh (iz (gb q3) (Wh ?_));refine v5 C (l:=false) (key:=b[m3]) (a:=a) (b:=0) (n:=n3+1) (h:=n3+1-1) (by lia) nA hPa (Pb q3) hk4 (zY T nA hPa (Pb q3) sa) λi1 cut=>?_;have c1:=cut.le;have c2:∀(j:Nat) (h:j<a.size),i1<=j->j<n3+1->f b[m3] a[j]=true:=λj h h1 h2=>by
     have:=cut.above j h1 h2;rw[kJ (by lia)]at this;simpa using this
    have c3:∀(j:Nat) (h:j<a.size),j<i1->f b[m3] a[j]=false:=λj h h1=>by
     have:=cut.below j h1;rw[kJ (by lia)]at this;simpa using this
    have u4:=u3.lK c1 λz hz x hx=>by
     obtain⟨j,hj,h1,h2,rfl⟩:=mem_mid hx;exact zZ T hPb sb q3 (Pa hj) (T.iB _ _ (Pb q3) (Pa hj) (c2 j hj h1 h2)) z hz
    clear cut c2;show wpS _ _ _ _ (ite _ _ _) _ _;dsimp -zeta only;generalize hn4:n3+1=n4 at u4 c1 q4 nA ⊢;generalize hac:n4-i1=ac4;have q5:y+(n4-1+m3)<=n2+m2:=by lia
    have q6:0<n4:=by lia
    have HH:=QC u4 (QC c1 (QC c3 (QC q5 (QC q6 (QC nA hac)))));clear u4 c1 c3 q5 q6 nA u3 q2 q4 hn4 hac;revert HH;revert n4;revert eY;refine zV (γ:=Array Wp) (δ:=Nat) (λo n=>Up (Le f) a.toList b.toList o.toList.reverse n (m3+1)/\0<n/\n<=a.size/\(∀(h:n-1<a.size),f b[m3] a[n-1]=false)/\y+(n-1+m3)<=n2+m2) ?_ (λeY n4 ⟨u4,c1,c3,q5,q6,nA,hac⟩ hk0 key=>?_) λeY n4 ⟨u4,c1,c3,q5,q6,nA,hac⟩ hk0=>?_
    rotate_left
    ·have er:(a.toList.take n4).drop i1++eY.toList.reverse=(eY++(a.extract i1 n4).reverse).toList.reverse:=by
      rw[Xq,Yw,List.reverse_append,List.reverse_reverse,Kz]
     rw[er]at u4;clear er;refine eX (λe1=>?_) (λe1=>?_)
     ·refine Wl ⟨gD,.inl ⟨_,rfl,?_⟩⟩;rw[Xq,Xq,jV,jV,Yw];exact u4.z6 (by simpa using e1)
     have e1:¬ i1=0:=by simpa using e1
     exact key _ _ ⟨u4,by lia,by lia,λh=>c3 _ h (by lia),by lia⟩
    ·have hk0:i1=n4:=by lia
     subst hk0;have en:(a.toList.take i1).drop i1=[]:=YA (by rw[XJ];lia);rw[en,List.nil_append]at u4;exact⟨u4,q6,by lia,λh=>c3 _ h (by lia),q5⟩
    rintro pG n5 ⟨u4,p1,p2,fX',qX⟩;obtain⟨nX,rfl⟩:∃nX,n5=nX+1:=⟨n5-1,by lia⟩;have gX:nX<a.size:=by lia
    have fX:f b[m3] a[nX]=false:=fX' gX;have qX:y+(nX+m3)<=n2+m2:=qX;clear fX' p1 p2;have u5:=stB u4 gX q3 fX;have er:b[m3]::pG.toList.reverse=(pG.push b[m3]).toList.reverse:=by simp
    rw[er]at u5;clear er;refine Wh (iz (gb q3) ?_);simp only[O2];generalize pG.push b[m3]=jK at u5;refine eX (λe3=>?_) (λe3=>?_)
    ·refine Wl ⟨gD,.inl ⟨_,rfl,?_⟩⟩;rw[Xq,Xq,jV,jV,Yw];exact fst u5 (by simpa using e3)
    have e3:¬ m3=1:=by simpa using e3
    have nB:0+m3<=b.size:=by lia
    refine Wh (iz (ga gX) (Wh ?_));refine v5 C (l:=true) (key:=a[nX]) (a:=b) (b:=0) (n:=m3) (h:=m3-1) (by lia) nB hPb (Pa gX) hk4 (zY T nB hPb (Pa gX) sb) λi2 eZ=>?_;have d1:=eZ.le;have d2:∀(j:Nat) (h:j<b.size),i2<=j->j<m3->f b[j] a[nX]=false:=λj h h1 h2=>by
     have:=eZ.above j h1 h2;rw[kJ (by lia)]at this;simpa using this
    have d3:∀(j:Nat) (h:j<b.size),j<i2->f b[j] a[nX]=true:=λj h h1=>by
     have:=eZ.below j h1;rw[kJ (by lia)]at this;simpa using this
    have u6:=u5.uW d1 λz hz x hx=>by
     obtain⟨j,hj,h1,h2,rfl⟩:=mem_mid hx;exact zZ T hPa sa gX (Pb hj) (d2 j hj h1 h2) z hz
    clear eZ d2 u5 u4;show wpS _ _ _ _ (ite _ _ _) _ _;have q7:y+1+(nX+(m3-1))<=n2+m2:=by lia
    have q8:2<=m3:=by lia
    clear fX e3 qX;generalize m3=m4 at u6 d1 q7 q8 nB ⊢;generalize hbc:m4-i2=bc4;have HH:=QC u6 (QC d1 (QC q7 (QC q8 (QC nB hbc))));clear u6 d1 q7 q8 nB hbc;revert HH;revert m4;revert jK;refine zV (γ:=Array Wp) (δ:=Nat) (λo m=>Up (Le f) a.toList b.toList o.toList.reverse (nX+1) m/\2<=m/\m<=b.size/\(∀(h:m-1<b.size),f b[m-1] a[nX]=true)/\y+1+(nX+(m-1))<=n2+m2) ?_ (λjK m4 ⟨u6,d1,q7,q8,nB,hbc⟩ hk2 key=>?_) λjK m4 ⟨u6,d1,q7,q8,nB,hbc⟩ hk2=>?_
    rotate_left
    ·have er:(b.toList.take m4).drop i2++jK.toList.reverse=(jK++(b.extract i2 m4).reverse).toList.reverse:=by
      rw[Xq,Yw,List.reverse_append,List.reverse_reverse,Kz]
     rw[er]at u6;clear er;refine eX (λe4=>?_) (λe4=>?_)
     ·refine Wl ⟨gD,.inl ⟨_,rfl,?_⟩⟩;rw[Xq,Xq,jV,jV,Yw];exact fst u6 (by simpa using e4)
     have e4:¬ i2=1:=by simpa using e4
     refine eX (λe5=>?_) (λe5=>?_)
     ·refine Wl ⟨gD,.inl ⟨_,rfl,?_⟩⟩;rw[Xq,Xq,jV,jV,Yw];exact u6.zvV (by simpa using e5)
     have e5:¬ i2=0:=by simpa using e5
     exact key _ _ ⟨u6,by lia,by lia,λh=>d3 _ h (by lia),by lia⟩
    ·have hk2:i2=m4:=by lia
     subst hk2;have en:(b.toList.take i2).drop i2=[]:=YA (by rw[XJ];lia);rw[en,List.nil_append]at u6;exact⟨u6,q8,by lia,λh=>d3 _ h (by lia),q7⟩
    rintro outZ m5 ⟨u6,p1,p2,fZ',qZ⟩;obtain⟨mZ,rfl⟩:∃mZ,m5=mZ+1:=⟨m5-1,by lia⟩;have gZ:mZ<b.size:=by lia
    have fZ:f b[mZ] a[nX]=true:=fZ' gZ;have g1Z:1<=mZ:=by lia
    have qZ:y+1+(nX+mZ)<=n2+m2:=qZ;have u7:=stA u6 gX gZ fZ;have er:a[nX]::outZ.toList.reverse=(outZ.push a[nX]).toList.reverse:=by simp
    rw[er]at u7;clear er;refine Wh (iz (ga gX) ?_);refine eX (λe6=>?_) (λe6=>?_)
    ·refine Wl ⟨gD,.inl ⟨_,rfl,?_⟩⟩;rw[Xq,Xq,jV,jV,Yw];exact u7.z6 (by simpa using e6)
    have e6:¬ nX=0:=by simpa using e6
    obtain⟨nW,rfl⟩:∃nW,nX=nW+1:=⟨nX-1,by lia⟩;split
    ·exact Wl ⟨gD,.inr ⟨_,_,_,_,_,_,rfl,u7,g1Z,by lia,gZ,by lia⟩⟩
    ·exact Wl ⟨gD,_,_,_,_,_,_,rfl,u7,g1Z,by lia,gZ,by lia⟩
end
def KC:Nat->StateT WB Sem Bool:=sortPriv% PySem.Builtin.mergeAt
theorem KD:∀(m:List α)(a:Array α)(s n:Nat),s+n+m.length<=a.size->((m.zipIdx n).foldl (λa (p:α×Nat)=>a.setIfInBounds (s+p.2) p.1) a).toList=a.toList.take (s+n)++m++a.toList.drop (s+n+m.length)
 | [],a,s,n,h=>by simp
 | x::m,a,s,n,h=>by
  rw[List.zipIdx_cons,Q0,KD m _ s (n+1) (by simp at h ⊢;lia)];simp only[Array.toList_setIfInBounds,XX]at h ⊢;have hs:s+n<a.toList.length:=by simp;lia
  rw[List.take_set,List.drop_set_of_lt (by lia)];have e1:(a.toList.take (s+(n+1))).set (s+n) x=a.toList.take (s+n)++[x]:=by
   rw[show s+(n+1)=s+n+1 by lia,XS,Xa hs];rw[List.set_append_right _ _ (by rw[XJ];lia)];rw[XJ,Oc (Nat.le_of_lt hs),Nat.sub_self];rfl
  rw[e1,show s+(n+1)+m.length=s+n+(m.length+1) by lia];simp
theorem joined {f:Wp->Wp->Bool}{P:Wp->Prop}(T:jU f P){A0 A1 B0 B1 m:List Wp}(hP:∀x∈A0++A1++(B0++B1),P x)(sa:(A0++A1).Pairwise (Le f))(sb:(B0++B1).Pairwise (Le f))(g:Good (Le f) A1 B0 m)
  (h1:∀x∈A0,∀y∈B0++B1,Le f x y) (h2:∀x∈A1,∀y∈B1,Le f x y):(A0++m++B1).Pairwise (Le f)/\(A0++m++B1).Perm (A0++A1++(B0++B1)):=by
 have a:=XU.mp sa;have b:=XU.mp sb;refine⟨?_,?_⟩
 ·rw[XE,XU,XU];refine⟨a.1,⟨g.so,b.2.1,λx hx y hy=>?_⟩,λx hx y hy=>?_⟩
  ·rcases Xr.mp (g.pm.mem_iff.mp hx)with h | h
   ·exact h2 x h y hy
   ·exact b.2.2 x h y hy
  ·rcases Xr.mp hy with hy | hy
   ·rcases Xr.mp (g.pm.mem_iff.mp hy)with h | h
    ·exact a.2.2 x hx y h
    ·exact h1 x hx y (Xr.mpr (.inl h))
   ·exact h1 x hx y (Xr.mpr (.inr hy))
 ·rw[XE,XE];refine YG.append_left _ ?_;rw[<- XE];exact YG.append_right _ g.pm
section
variable {prog:Wo}{w:Ws}{A:Wv}{E:Ti}{s:Wd}{k:Vc}{P:Wp->Prop}{f:Wp->Wp->Bool}
theorem zuS {x:WB}{Q:PUnit->WB->Prop}(h:Q ⟨⟩ x):wpS (Wm prog w) A E s (set x:StateT WB Sem PUnit) Q st:=by
 unfold wpS;rw[StateT.run_set];exact Wc ⟨rfl,h⟩
def Run (f:Wp->Wp->Bool)(a:Array Wp)(lo hi:Nat):Prop:=∀(i j:Nat)(hj:j<a.size)(hij:i<j),lo<=i->j<hi->Le f (a[i]'(by lia)) a[j]
theorem KH (T:jU f P){key:Wp}{b:Nat}(hn:b+n<=a.size)(hP:∀(j:Nat) x,a[j]? = some x->P x)(hk:P key)(hs:Run f a b (b+n)):∀i j,i<=j->j<n->gC f l key a b j=true->gC f l key a b i=true:=by
 intro i j hij hj h;rcases O4 hij with hlt | rfl
 ·have hi':b+i<a.size:=by lia
  have hj':b+j<a.size:=by lia
  have pi:P a[b+i]:=hP _ _ (getElem?_pos a _ hi');have pj:P a[b+j]:=hP _ _ (getElem?_pos a _ hj');have hle:Le f a[b+i] a[b+j]:=hs _ _ hj' (by lia) (by lia) (by lia);rw[kJ hj']at h;rw[kJ hi'];cases l with
  | true=>
   simp only[if_true]at h ⊢;cases hc:f a[b+i] key with
   | true=>rfl
   | false=>rw[T.tr key a[b+i] a[b+j] hk pi pj hc hle]at h;cases h
  | false=>
   simp only[XF,if_false]at h ⊢;have h:f key a[b+j]=false:=by simpa using h
   rw[T.tr a[b+i] a[b+j] key pi pj hk hle h];rfl
 ·exact h
theorem En (hs:Run f a lo (lo+n))(hn:lo+n<=a.size):((a.toList.drop lo).take n).Pairwise (Le f):=by
 rw[List.pairwise_iff_getElem];intro i j hi hj hij;rw[XJ,Px,XB]at hi hj;have:=hs (lo+i) (lo+j) (by lia) (by lia) (by lia) (by lia);simpa using this
theorem v7 (T:jU f P){x:Wp}(hx:P x):Le f x x:=by
 cases h:f x x with
 | false=>exact h
 | true=>have:=T.iB x x hx hx h;rw[h]at this;cases this
theorem zuT (C:mO prog w A E s k P f)(T:jU f P){i sa na pw nb pw2:Nat}{Q:Bool->WB->Prop}{st:WB}(hst:kindOf st=k)(hfl:W4 st=none)(h1:(Wq st)[i]? = some (sa,na,pw))(h2:(Wq st)[i+1]? = some (sa+na,nb,pw2))(hna:0<na)(hnb:0<nb)
  (hsz:sa+na+nb<=(Wn st).size) (hP:∀(j:Nat) x,(Wn st)[j]? = some x->P x) (r1:Run f (Wn st) sa (sa+na)) (r2:Run f (Wn st) (sa+na) (sa+na+nb))
  (hQ:∀st' S,kindOf st'=k->W4 st'=none->Wq st'=((Wq st).setIfInBounds i (sa,na+nb,pw)).eraseIdxIfInBounds (i+1)->S.Pairwise (Le f)->S.Perm (((Wn st).toList.drop sa).take (na+nb))->
   (Wn st').toList=(Wn st).toList.take sa++S++(Wn st).toList.drop (sa+na+nb)->Q true st'):wpS (Wm prog w) A E s (KC i) Q st:=by
 refine Wh (wpS_get ?_);rw[h1,h2];refine Wh (zuS ?_);dsimp only[Wn]at hsz hP r1 r2 hQ;generalize harr:(sortPriv% PySem.Builtin.SortState.a) st=a at *;have hl:a.toList.length=a.size:=XB;have ga:∀ {i:Nat},(hi:i<a.size)->a[i]? = some a[i]:=λ{i} hi=>getElem?_pos a i hi;have Pa:∀ {i:Nat},(hi:i<a.size)->P a[i]:=λ{i} hi=>hP i _ (ga hi);have pl:=u0 hP;have hb0:sa+na<a.size:=by lia
 refine Wh (iz (ga hb0) (Wh ?_));refine v5 C (l:=false) (key:=a[sa+na]) (a:=a) (b:=sa) (n:=na) (h:=0) (by lia) (by lia) hP (Pa hb0) hst (KH T (by lia) hP (Pa hb0) r1) λk1 cut=>?_;have c1:=cut.le;have c2:∀(j:Nat) (h:sa+j<a.size),j<k1->Le f a[sa+j] a[sa+na]:=λj h hj=>by
  have:=cut.below j hj;rw[kJ h]at this;simpa using this
 have c3:k1<na->f a[sa+na] (a[sa+k1]'(by lia))=true:=λhj=>by
  have:=cut.above k1 (Xj _) hj;rw[kJ (by lia)]at this;simpa using this
 have eA:(a.toList.drop sa).take na=(a.toList.drop sa).take k1++(a.toList.drop (sa+k1)).take (na-k1):=by
  have:=List.take_add (l:=a.toList.drop sa) (i:=k1) (j:=na-k1);rw[PJ]at this;rw[<- this];congr 1;lia
 have eS:(a.toList.drop sa).take (na+nb)=(a.toList.drop sa).take na++(a.toList.drop (sa+na)).take nb:=by
  rw[List.take_add,PJ]
 have eT:a.toList.take (sa+k1)=a.toList.take sa++(a.toList.drop sa).take k1:=List.take_add;have pA:=En r1 (by lia);have pB:=En r2 (by lia);have leB:∀x,P x->Le f x a[sa+na]->∀y∈(a.toList.drop (sa+na)).take nb,Le f x y:=λx px hx y hy=>by
  obtain⟨j,hj,hjn,rfl⟩:=u9 (by lia) hy;rcases Nat.eq_zero_or_pos j with rfl | h0
  ·exact hx
  ·exact T.tr _ _ _ px (Pa hb0) (Pa hj) hx (r2 _ _ hj (by lia) (by lia) (by lia))
 have hA0:∀x∈(a.toList.drop sa).take k1,∀y∈(a.toList.drop (sa+na)).take nb,Le f x y:=λx hx=>by
  obtain⟨j,hj,hjk,rfl⟩:=u9 (by lia) hx;exact leB _ (Pa hj) (c2 j hj hjk)
 dsimp only;refine eX (λe1=>?_) (λe1=>?_)
 ·have e1:na-k1=0:=by simpa using e1
  have ek:k1=na:=by lia
  subst ek;refine Wl (hQ _ ((a.toList.drop sa).take (k1+nb)) hst hfl rfl ?_ (.refl _) ?_)
  ·rw[eS,XU];exact⟨pA,pB,hA0⟩
  ·show a.toList=_;rw[QM,<- PJ,XE,Yi,Yi]
 have e1:¬ na-k1=0:=by simpa using e1
 have elast:sa+k1+(na-k1)-1=sa+na-1:=by rw[QM,Nat.add_sub_cancel' (show k1<=na by lia)]
 rw[elast];have hla:sa+na-1<a.size:=by lia
 refine Wh (iz (ga hla) (Wh ?_));refine v5 C (l:=true) (key:=a[sa+na-1]) (a:=a) (b:=sa+na) (n:=nb) (h:=nb-1) (by lia) (by lia) hP (Pa hla) hst (KH T (by lia) hP (Pa hla) r2) λk2 eZ=>?_;have d1:=eZ.le;have d2:∀(j:Nat) (h:sa+na+j<a.size),j<k2->f a[sa+na+j] a[sa+na-1]=true:=λj h hj=>by
  have:=eZ.below j hj;rw[kJ h]at this;simpa using this
 have d3:∀(j:Nat) (h:sa+na+j<a.size),k2<=j->j<nb->Le f a[sa+na-1] a[sa+na+j]:=λj h h1 h2=>by
  have:=eZ.above j h1 h2;rw[kJ h]at this;simpa using this
 have leL:∀x∈(a.toList.drop sa).take na,Le f x a[sa+na-1]:=λx hx=>by
  obtain⟨j,hj,hjn,rfl⟩:=u9 (by lia) hx;by_cases e:j=na-1
  ·have:sa+j=sa+na-1:=by lia
   simp only[this];exact v7 T (Pa hla)
  ·exact r1 _ _ hla (by lia) (by lia) (by lia)
 have eB:(a.toList.drop (sa+na)).take nb=(a.toList.drop (sa+na)).take k2++(a.toList.drop (sa+na+k2)).take (nb-k2):=by
  have:=List.take_add (l:=a.toList.drop (sa+na)) (i:=k2) (j:=nb-k2);rw[PJ]at this;rw[<- this];congr 1;lia
 have hB1:∀x∈(a.toList.drop sa).take na,∀y∈(a.toList.drop (sa+na+k2)).take (nb-k2),Le f x y:=λx hx y hy=>by
  obtain⟨j,hj,hjn,rfl⟩:=u9 (by lia) hy;have px:P x:=pl x (YO (YC hx));have q:=d3 (k2+j) (by lia) (by lia) (by lia);simp only[<- QM]at q;exact T.tr _ _ _ px (Pa hla) (Pa hj) (leL x hx) q
 dsimp only;refine eX (λe2=>?_) (λe2=>?_)
 ·have e2:k2=0:=by simpa using e2
  subst e2;refine Wl (hQ _ ((a.toList.drop sa).take (na+nb)) hst hfl rfl ?_ (.refl _) ?_)
  ·rw[eS,XU];exact⟨pA,pB,hB1⟩
  ·show a.toList=_;rw[QM,<- PJ,XE,Yi,Yi]
 have e2:¬ k2=0:=by simpa using e2
 have hX:(a.extract (sa+k1) (sa+na)).toList=(a.toList.drop (sa+k1)).take (na-k1):=by
  have:=uZ a (sa+k1) (na-k1)
  rwa [show sa+k1+(na-k1)=sa+na by lia]at this
 have hY:(a.extract (sa+na) (sa+na+k2)).toList=(a.toList.drop (sa+na)).take k2:=uZ a (sa+na) k2;have sX:(a.extract (sa+k1) (sa+na)).size=na-k1:=by rw[Array.size_extract,Oc (show sa+na<=a.size by lia),Nat.add_sub_add_left]
 have sY:(a.extract (sa+na) (sa+na+k2)).size=k2:=by rw[Array.size_extract,Oc (show sa+na+k2<=a.size by lia),Nat.add_sub_cancel_left]
 have PX:∀(j:Nat) x,(a.extract (sa+k1) (sa+na))[j]? = some x->P x:=λj x h=>by
  rw[<- XT,hX]at h;exact pl x (YO (YC (Xl h)))
 have PY:∀(j:Nat) x,(a.extract (sa+na) (sa+na+k2))[j]? = some x->P x:=λj x h=>by
  rw[<- XT,hY]at h;exact pl x (YO (YC (Xl h)))
 have pA':=pA;rw[eA]at pA';have pB':=pB;rw[eB]at pB';have soX:(a.extract (sa+k1) (sa+na)).toList.Pairwise (Le f):=by rw[hX];exact(XU.mp pA').2.1
 have soY:(a.extract (sa+na) (sa+na+k2)).toList.Pairwise (Le f):=by rw[hY];exact(XU.mp pB').1
 have f0:f ((a.extract (sa+na) (sa+na+k2))[0]'(by lia)) ((a.extract (sa+k1) (sa+na))[0]'(by lia))=true:=by
  have:=c3 (by lia);simpa using this
 have fl:∀y∈(a.extract (sa+na) (sa+na+k2)).toList,Le f y ((a.extract (sa+k1) (sa+na))[(a.extract (sa+k1) (sa+na)).size-1]'(by lia)):=λy hy=>by
  rw[hY]at hy;obtain⟨j,hj,hjn,rfl⟩:=u9 (by lia) hy;have e:sa+k1+((a.extract (sa+k1) (sa+na)).size-1)=sa+na-1:=by rw[sX];lia
  rw[Array.getElem_extract];simp only[e];exact T.iB _ _ (Pa hj) (Pa hla) (d2 j hj hjn)
 by_cases e3:na-k1<=k2;rw[Qf e3];refine Wh (zuP C T hst (by lia) (by lia) PX PY soX soY f0 fl λm st2 g sm=>?_)
 rotate_left
 rw[Qe e3];refine Wh (zuR C T hst (by lia) (by lia) PX PY soX soY f0 fl λm st2 g sm=>?_)
 all_goals
  rw[hX,hY]at g;have lm:m.toList.length=(na-k1)+k2:=by
   rw[g.pm.length_eq,Xy,<- hX,<- hY,XB,XB,sX,sY]
  obtain⟨j1,j2⟩:=joined T (A0:=(a.toList.drop sa).take k1) (B1:=(a.toList.drop (sa+na+k2)).take (nb-k2)) (P:=P) (λx hx=>by
   rcases Xr.mp hx with hx | hx<;>rcases Xr.mp hx with hx | hx<;>exact pl x (YO (YC hx))) pA' pB' g
   (λx hx y hy=>hA0 x hx y (by rw[eB];exact hy)) (λx hx y hy=>hB1 x (by rw[eA];exact Xr.mpr (.inr hx)) y hy)
  have e4:W4 st2=none:=by rw[sm.failed];exact hfl
  have e5:Wn st2=a:=sm.arr;refine Wh (W2 (Wh (wpS_get (Wl ?_))));have e6:(W4 st2).isNone=true:=by rw[e4];rfl
  show Q (W4 st2).isNone _;rw[e6];refine hQ _ _ (by show kindOf st2=k;rw[sm.kind];exact hst) e4 (by show Wq st2=_;exact sm.pend) j1 (j2.trans (by rw[eS,eA,eB])) ?_;show(m.toList.zipIdx.foldl (λa (p:Wp×Nat)=>a.setIfInBounds (sa+k1+p.2) p.1) (Wn st2)).toList=_;rw[e5];have:=KD m.toList a (sa+k1) 0 (by rw[lm];lia);rw[this,Nat.add_zero,lm,eT];have e7:a.toList.drop (sa+k1+(na-k1+k2))=(a.toList.drop (sa+na+k2)).take (nb-k2)++a.toList.drop (sa+na+nb):=by
   have:=(Yi (nb-k2) (a.toList.drop (sa+na+k2))).symm;rw[PJ,show sa+na+k2+(nb-k2)=sa+na+nb by lia]at this;rw[show sa+k1+(na-k1+k2)=sa+na+k2 by lia];exact this
  rw[e7];simp only[XE]
end
def bin:Nat->Nat->Nat->StateT WB Sem Bool:=sortPriv% PySem.Builtin.binarySort
def cnt:Nat->Nat->StateT WB Sem (Option Nat):=sortPriv% PySem.Builtin.countRun
section
variable {prog:Wo}{w:Ws}{A:Wv}{E:Ti}{s:Wd}{k:Vc}{P:Wp->Prop}{f:Wp->Wp->Bool}
structure Moved (a a':Array Wp)(lo hi:Nat):Prop where
 pm:a'.Perm a
 out:∀j:Nat,j<lo\/hi<=j->a'[j]? = a[j]?
theorem Moved.refl (a:Array Wp)(lo hi:Nat):Moved a a lo hi:=⟨.refl _,λ_ _=>rfl⟩
theorem Moved.trans {c:Array Wp}(h:Moved a b lo hi)(g:Moved b c lo hi):Moved a c lo hi:=⟨g.pm.trans h.pm,λj hj=>(g.out j hj).trans (h.out j hj)⟩
theorem Moved.size (h:Moved a a' lo hi):a'.size=a.size:=h.pm.size_eq
theorem Moved.all (h:Moved a a' lo hi)(hP:∀(j:Nat) x,a[j]? = some x->P x):∀(j:Nat) x,a'[j]? = some x->P x:=λj x e=>by
 have h1:x∈a'.toList:=Xl (by rw[XT];exact e);exact u0 hP x ((Array.perm_iff_toList_perm.mp h.pm).mem_iff.mp h1)
theorem v8 (C:mO prog w A E s k P f){st:WB}{a:Array Wp}{i j:Nat}{Q:Option Bool->WB->Prop}(hst:kindOf st=k)(ha:Wn st=a)(hP:∀(j:Nat) x,a[j]? = some x->P x)(hi:i<a.size)(hj:j<a.size)
  (h:Q (some (f a[i] a[j])) st):wpS (Wm prog w) A E s (ltAt' i j) Q st:=by
 subst ha;have gi:=getElem?_pos (Wn st) i hi;have gj:=getElem?_pos (Wn st) j hj;rw[ltAt'_eq];refine Wh (wpS_get ?_);exact Wh (iz gi (Wh (iz gj (C.run (hP _ _ gi) (hP _ _ gj) hst h))))
theorem zuU (C:mO prog w A E s k P f)(T:jU f P){lo n ok:Nat}{Q:Bool->WB->Prop}{st:WB}(hst:kindOf st=k)(hn:lo+n<=(Wn st).size)(hok:ok<=n)(hP:∀(j:Nat) x,(Wn st)[j]? = some x->P x)(hr:Run f (Wn st) lo (lo+ok))
  (hQ:∀a',Moved (Wn st) a' lo (lo+n)->Run f a' lo (lo+n)->Q true (WT st a')):wpS (Wm prog w) A E s (bin lo n ok) Q st:=by
 refine Wh (WQ (Wz (I:=λx c st'=>c=(none,())/\∃a',st'=WT st a'/\Moved (Wn st) a' lo (lo+n)/\Run f a' lo (lo+min x n))
  (Q:=λc st'=>c=(none,())/\∃a',st'=WT st a'/\Moved (Wn st) a' lo (lo+n)/\Run f a' lo (lo+n)) ?step ?fin ⟨rfl,Wn st,rfl,.refl _ _ _,?ini⟩) ?post)
 case ini=>
  intro i j hj hij h1 h2;by_cases h0:ok=0
  ·lia
  ·exact hr i j hj hij h1 (by lia)
 case fin=>
  rintro c st' ⟨hc,a',e,m,r⟩;exact⟨hc,a',e,m,by rwa [show min (max (max ok 1) n) n=n by lia]at r⟩
 case post=>
  rintro c st' ⟨rfl,a',rfl,m,r⟩;exact Wl (hQ a' m r)
 case step=>
  rintro x c st' hx1 hx2 ⟨rfl,a',rfl,m,r⟩;rw[show min x n=x by lia]at r;have hs:=m.size;have hx:lo+x<a'.size:=by lia
  have hP':=m.all hP;have Pa:∀ {i:Nat},(hi:i<a'.size)->P a'[i]:=λ{i} hi=>hP' i _ (getElem?_pos a' i hi);refine Wh (WQ (Wz (I:=λy c st2=>st2=WT st a'/\∃l r,c=(none,l,r)/\l<=r/\r<=x/\r-l<=x-y/\(∀(i:Nat) (h:lo+i<a'.size),i<l->Le f a'[lo+i] a'[lo+x])/\(∀(i:Nat) (h:lo+i<a'.size),r<=i->i<x->f a'[lo+x] a'[lo+i]=true))
   (Q:=λc st2=>st2=WT st a'/\∃l r,c=(none,l,r)/\l<=x/\(∀(i:Nat) (h:lo+i<a'.size),i<l->Le f a'[lo+i] a'[lo+x])/\(∀(i:Nat) (h:lo+i<a'.size),l<=i->i<x->f a'[lo+x] a'[lo+i]=true)) ?istep ?ifin ⟨rfl,0,x,rfl,by lia,by lia,by lia,λi _ h=>by lia,λi _ h1 h2=>by lia⟩) ?ipost)
  case ifin=>
   rintro c st2 ⟨rfl,l,r,rfl,g1,g2,g3,g4,g5⟩;have:l=r:=by lia
   subst this;exact⟨rfl,l,l,rfl,g2,g4,g5⟩
  case istep=>
   rintro y c st2 _ hy ⟨rfl,l,r2,rfl,g1,g2,g3,g4,g5⟩;dsimp only;refine eX (λhge=>?_) (λhge=>?_)
   ·have:l=r2:=by lia
    subst this;exact Wl ⟨rfl,l,l,rfl,g2,g4,g5⟩
   ·obtain⟨m1,m2⟩:=zsE hge;generalize (l+r2) / 2=md at m1 m2 ⊢;have hmid:lo+md<a'.size:=by lia
    refine Wh (v8 C (st:=WT st a') (a:=a') hst rfl hP' hx hmid ?_);cases hv:f a'[lo+x] a'[lo+md]with
    | true=>
     dsimp only;rw[Qf rfl];refine Wl ⟨rfl,l,_,rfl,by lia,by lia,by lia,g4,λi h h1 h2=>?_⟩;rcases O4 h1 with h3 | h3
     ·cases hw:f a'[lo+x] a'[lo+i]with
      | true=>rfl
      | false=>
       have:=T.tr _ _ _ (Pa hmid) (Pa h) (Pa hx) (r _ _ h (by lia) (by lia) (by lia)) hw;rw[hv]at this;cases this
     ·simp only[<- h3];exact hv
    | false=>
     dsimp only;rw[Qe (by decide)];refine Wl ⟨rfl,_,r2,rfl,by lia,by lia,by lia,λi h h1=>?_,g5⟩;rcases O4 (Nat.le_of_lt_succ h1)with h3 | h3
     ·exact T.tr _ _ _ (Pa h) (Pa hmid) (Pa hx) (r _ _ hmid (by lia) (by lia) (by lia)) hv
     ·simp only[h3];exact hv
  case ipost=>
   rintro c st2 ⟨rfl,l,r2,rfl,g1,g4,g5⟩;dsimp only;have hd:lo+x-(lo+l)=x-l:=by lia
   have gt:∀(i:Nat) (h:i<(bubble a' (lo+x) (lo+x-(lo+l))).size),∃i',∃h':i'<a'.size,(bubble a' (lo+x) (lo+x-(lo+l)))[i]=a'[i']/\((i=lo+l/\i'=lo+x)\/(lo+l<i/\i<=lo+x/\i'=i-1)\/((i<lo+l\/lo+x<i)/\i'=i)):=λi h=>by
    have e:=getElem?_bubble hx (lo+x-(lo+l)) (by lia) i;rw[bubble_size]at h;rw[getElem?_pos _ i (by rw[bubble_size];exact h),show lo+x-(lo+x-(lo+l))=lo+l by lia]at e;by_cases h1:i=lo+l
    ·rw[Qf h1,getElem?_pos a' _ hx]at e;exact⟨lo+x,hx,Qa e,.inl ⟨h1,rfl⟩⟩
    ·rw[Qe h1]at e;by_cases h2:lo+l<i/\i<=lo+x
     ·rw[Qf h2,getElem?_pos a' (i-1) (by lia)]at e;exact⟨i-1,by lia,Qa e,.inr (.inl ⟨h2.1,h2.2,rfl⟩)⟩
     ·rw[Qe h2,getElem?_pos a' i h]at e;exact⟨i,h,Qa e,.inr (.inr ⟨by lia,rfl⟩)⟩
   refine Wh (W2 (Wl ⟨rfl,bubble a' (lo+x) (lo+x-(lo+l)),rfl,m.trans ⟨bubble_perm _ _ _,λj hj=>?_⟩,?_⟩))
   ·rw[getElem?_bubble hx _ (by lia),Qe (by lia),Qe (by lia)]
   ·rw[show min (x+1) n=x+1 by lia];intro i j hj hij h1 h2;obtain⟨i',hi',ei,ci⟩:=gt i (by lia);obtain⟨j',hj',ej,cj⟩:=gt j hj;rw[ei,ej];rcases ci with ⟨c1,rfl⟩ | ⟨c1,c2,rfl⟩ | ⟨c1,rfl⟩<;>rcases cj with ⟨d1,rfl⟩ | ⟨d1,d2,rfl⟩ | ⟨d1,rfl⟩
    ·lia
    ·have q:=g5 (j-1-lo) (by lia) (by lia) (by lia);simp only[show lo+(j-1-lo)=j-1 by lia]at q;exact T.iB _ _ (Pa hx) (Pa hj') q
    ·lia
    ·lia
    ·exact r _ _ hj' (by lia) (by lia) (by lia)
    ·lia
    ·have q:=g4 (i'-lo) (by lia) (by lia);simp only[show lo+(i'-lo)=i' by lia]at q;exact q
    ·exact r _ _ hj' (by lia) (by lia) (by lia)
    ·exact r _ _ hj' (by lia) (by lia) (by lia)
end
section
variable {prog:Wo}{w:Ws}{A:Wv}{E:Ti}{s:Wd}{k:Vc}{P:Wp->Prop}{f:Wp->Wp->Bool}
def Dec (f:Wp->Wp->Bool)(a:Array Wp)(lo hi:Nat):Prop:=∀(i j:Nat)(hj:j<a.size)(hij:i<j),lo<=i->j<hi->Le f a[j] (a[i]'(by lia))
def Alike (f:Wp->Wp->Bool)(a:Array Wp)(p q:Nat):Prop:=∀(i j:Nat)(hi:i<a.size)(hj:j<a.size),p<=i->i<q->p<=j->j<q->Le f a[i] a[j]
abbrev rev (a:Array Wp)(i j:Nat):Array Wp:=mirror a i j ((j-i) / 2)
theorem z7 (hq:q<=a.size)(i:Nat)(h:i<(rev a p q).size):∃i',∃h':i'<a.size,(rev a p q)[i]=a[i']/\((p<=i/\i<q/\i'=p+q-1-i)\/((i<p\/q<=i)/\i'=i)):=by
 have e:=getElem?_mirror_all (i:=p) hq i;rw[getElem?_pos _ i h]at e;rw[mirror_size]at h;by_cases h1:p<=i/\i<q
 ·rw[Qf h1,getElem?_pos a _ (show p+q-1-i<a.size by lia)]at e;exact⟨_,by lia,Qa e,.inl ⟨h1.1,h1.2,rfl⟩⟩
 ·rw[Qe h1,getElem?_pos a i h]at e;exact⟨i,h,Qa e,.inr ⟨by lia,rfl⟩⟩
theorem z8 (hq:q<=a.size)(h1:lo<=p)(h2:q<=hi):Moved a (rev a p q) lo hi:=⟨mirror_perm _ _ _ _,λj hj=>by rw[getElem?_mirror_all hq,Qe (by lia)]⟩
theorem zsF (hq:q<=a.size)(h:Dec f a p q):Run f (rev a p q) p q:=by
 intro i j hj hij h1 h2;obtain⟨i',hi',ei,ci⟩:=z7 (p:=p) hq i (by lia);obtain⟨j',hj',ej,cj⟩:=z7 hq j hj;rw[ei,ej];rcases ci with ⟨c1,c2,rfl⟩ | ⟨c1,rfl⟩<;>rcases cj with ⟨d1,d2,rfl⟩ | ⟨d1,rfl⟩
 ·exact h _ _ hi' (by lia) (by lia) (by lia)
 all_goals lia
theorem Eo (hh:hi<=a.size)(h1:lo<=p)(h2:q<=hi)(h:Dec f a lo hi)(e:Alike f a p q):Dec f (rev a p q) lo hi:=by
 intro i j hj hij g1 g2;have hqa:q<=a.size:=by lia
 obtain⟨i',hi',ei,ci⟩:=z7 (p:=p) hqa i (by lia);obtain⟨j',hj',ej,cj⟩:=z7 hqa j hj;rw[ei,ej];rcases ci with ⟨c1,c2,rfl⟩ | ⟨c1,rfl⟩<;>rcases cj with ⟨d1,d2,rfl⟩ | ⟨d1,rfl⟩
 ·exact e _ _ hj' hi' (by lia) (by lia) (by lia) (by lia)
 ·exact h _ _ hj' (by lia) (by lia) (by lia)
 ·exact h _ _ hj' (by lia) (by lia) (by lia)
 ·exact h _ _ hj' (by lia) (by lia) (by lia)
theorem Run.more (T:jU f P)(hP:∀(j:Nat) x,a[j]? = some x->P x)(h0:1<=n)(hn:lo+n<a.size)(h:Run f a lo (lo+n))(hf:f a[lo+n] (a[lo+n-1]'(by lia))=false):Run f a lo (lo+(n+1)):=by
 intro i j hj hij h1 h2;have Pa:∀ {i:Nat},(hi:i<a.size)->P a[i]:=λ{i} hi=>hP i _ (getElem?_pos a i hi);by_cases e:j=lo+n
 ·subst e;by_cases e2:i=lo+n-1
  ·subst e2;exact hf
  ·exact T.tr _ _ _ (Pa _) (Pa (show lo+n-1<a.size by lia)) (Pa hj) (h i (lo+n-1) (by lia) (by lia) h1 (by lia)) hf
 ·exact h i j hj hij h1 (by lia)
theorem Dec.more (T:jU f P)(hP:∀(j:Nat) x,a[j]? = some x->P x)(h0:1<=n)(hn:lo+n<a.size)(h:Dec f a lo (lo+n))(hf:Le f a[lo+n] (a[lo+n-1]'(by lia))):Dec f a lo (lo+(n+1)):=by
 intro i j hj hij h1 h2;have Pa:∀ {i:Nat},(hi:i<a.size)->P a[i]:=λ{i} hi=>hP i _ (getElem?_pos a i hi);by_cases e:j=lo+n
 ·subst e;by_cases e2:i=lo+n-1
  ·subst e2;exact hf
  ·exact T.tr _ _ _ (Pa hj) (Pa (show lo+n-1<a.size by lia)) (Pa _) hf (h i (lo+n-1) (by lia) (by lia) h1 (by lia))
 ·exact h i j hj hij h1 (by lia)
theorem Alike.more (T:jU f P)(hP:∀(j:Nat) x,a[j]? = some x->P x)(hp:p<q)(hq:q<a.size)(h:Alike f a p q)(h1:Le f a[q] (a[q-1]'(by lia)))(h2:Le f (a[q-1]'(by lia)) a[q]):Alike f a p (q+1):=by
 intro i j hi hj g1 g2 g3 g4;have Pa:∀ {i:Nat},(hi:i<a.size)->P a[i]:=λ{i} hi=>hP i _ (getElem?_pos a i hi);have hq1:q-1<a.size:=by lia
 by_cases e1:i=q
 ·subst e1;by_cases e2:j=i
  ·subst e2;exact v7 T (Pa hi)
  ·exact T.tr _ _ _ (Pa hi) (Pa hq1) (Pa hj) h1 (h _ _ hq1 hj (by lia) (by lia) g3 (by lia))
 ·by_cases e2:j=q
  ·subst e2;exact T.tr _ _ _ (Pa hi) (Pa hq1) (Pa hj) (h _ _ hi hq1 g1 (by lia) (by lia) (by lia)) h2
  ·exact h i j hi hj g1 (by lia) g3 (by lia)
theorem Ep (T:jU f P)(hP:∀(j:Nat) x,a[j]? = some x->P x)(h:q=p+1):Alike f a p q:=by
 intro i j hi hj g1 g2 g3 g4;have:i=j:=by lia
 subst this;exact v7 T (hP i _ (getElem?_pos a i hi))
theorem zuV (C:mO prog w A E s k P f)(T:jU f P){lo n:Nat}{Q:Option Nat->WB->Prop}{st:WB}(hst:kindOf st=k)(h0:1<=n)(hn:lo+n<=(Wn st).size)(hP:∀(j:Nat) x,(Wn st)[j]? = some x->P x)
  (hQ:∀a' m,1<=m->m<=n->Moved (Wn st) a' lo (lo+n)->Run f a' lo (lo+m)->Q (some m) (WT st a')):wpS (Wm prog w) A E s (cnt lo n) Q st:=by
 refine Wh (WQ (Wz (I:=λx c st'=>st'=st/\c=(none,x)/\x<=n/\Run f (Wn st) lo (lo+x))
  (Q:=λc st'=>st'=st/\∃x,c=(none,x)/\1<=x/\x<=n/\Run f (Wn st) lo (lo+x)/\(x<n->∃h:lo+x<(Wn st).size,f (Wn st)[lo+x] ((Wn st)[lo+x-1]'(by lia))=true)) ?step ?fin ⟨rfl,rfl,h0,λi j _ _ _ _=>by lia⟩) ?post)
 case fin=>
  rintro c st' ⟨rfl,rfl,h1,h2⟩;exact⟨rfl,_,rfl,by lia,h1,h2,λh=>by lia⟩
 case step=>
  rintro x c st' hx1 hx2 ⟨rfl,rfl,h1,h2⟩;dsimp only;refine Wh (v8 C hst rfl hP (show lo+x<(Wn st').size by lia) (show lo+x-1<(Wn st').size by lia) ?_);cases hv:f ((Wn st')[lo+x]'(by lia)) ((Wn st')[lo+x-1]'(by lia))with
  | true=>
   dsimp only;rw[Qf rfl];exact Wl ⟨rfl,x,rfl,hx1,by lia,h2,λ_=>⟨by lia,hv⟩⟩
  | false=>
   dsimp only;rw[Qe (by decide)];exact Wl ⟨rfl,rfl,by lia,h2.more T hP hx1 (by lia) hv⟩
 case post=>
  rintro c st' ⟨rfl,x,rfl,h1,h2,h3,h4⟩;dsimp only;have Pa:∀ {i:Nat},(hi:i<(Wn st').size)->P (Wn st')[i]:=λ{i} hi=>hP i _ (getElem?_pos (Wn st') i hi);refine eX (λe1=>?_) (λe1=>?_)
  ·have e1:x=n:=by simpa using e1
   exact Wl (hQ (Wn st') x h1 h2 (.refl _ _ _) h3)
  have e1:¬ x=n:=by simpa using e1
  obtain⟨hx,hv⟩:=h4 (by lia);have hx1:lo+x-1<(Wn st').size:=by lia
  have hdn:Le f (Wn st')[lo+x] (Wn st')[lo+x-1]:=T.iB _ _ (Pa hx) (Pa hx1) hv;refine Kv (λst2=>∃a1,st2=WT st' a1/\Moved (Wn st') a1 lo (lo+n)/\Dec f a1 lo (lo+(x+1))) ?_ (λe2 key=>?_) (λe2=>⟨Wn st',rfl,.refl _ _ _,Dec.more T hP h1 hx (λi j _ _ _ _=>by lia) hdn⟩)
  rotate_left
  ·refine Wh (v8 C hst rfl hP (show lo<(Wn st').size by lia) hx1 ?_);cases hw:f ((Wn st')[lo]'(by lia)) (Wn st')[lo+x-1]with
   | true=>
    dsimp only;rw[Qf rfl];exact Wl (hQ (Wn st') x h1 h2 (.refl _ _ _) h3)
   | false=>
    dsimp only;rw[Qe (by decide)];have al:Alike f (Wn st') lo (lo+x):=λi j hi hj g1 g2 g3 g4=>by
     rcases Nat.lt_trichotomy i j with h | h | h
     ·exact h3 i j hj h g1 g4
     ·subst h;exact v7 T (Pa hi)
     ·have q1:Le f (Wn st')[i] (Wn st')[lo+x-1]:=by
       by_cases e:i=lo+x-1
       ·subst e;exact v7 T (Pa hi)
       ·exact h3 _ _ hx1 (by lia) g1 (by lia)
      have hlo:lo<(Wn st').size:=by lia
      have q2:Le f (Wn st')[lo] (Wn st')[j]:=by
       by_cases e:j=lo
       ·subst e;exact v7 T (Pa hj)
       ·exact h3 _ _ hj (by lia) (by lia) (by lia)
      exact T.tr _ _ _ (Pa hi) (Pa hx1) (Pa hj) q1 (T.tr _ _ _ (Pa hx1) (Pa hlo) (Pa hj) hw q2)
    have dc:Dec f (Wn st') lo (lo+x):=λi j hj hij g1 g2=>al j i hj (by lia) (by lia) g2 g1 (by lia);exact Wh (W2 (key _ ⟨_,rfl,z8 (by lia) (by lia) (by lia),Eo (by lia) (by lia) (by lia) (dc.more T hP h1 hx hdn) al⟩))
  rintro st2 ⟨a1,rfl,m1,D1⟩;refine Wh (wpS_lift (WK ⟨rfl,?_⟩));refine Wh (WQ (Wz
   (I:=λy c st2=>∃a2 neq,st2=WT st' a2/\c=(none,y,neq)/\y<=n/\neq<y/\Moved (Wn st') a2 lo (lo+n)/\Dec f a2 lo (lo+y)/\Alike f a2 (lo+y-(neq+1)) (lo+y))
   (Q:=λc st2=>∃a2 y neq,st2=WT st' a2/\c=(none,y,neq)/\x+1<=y/\y<=n/\neq<y/\Moved (Wn st') a2 lo (lo+n)/\Dec f a2 lo (lo+y)/\Alike f a2 (lo+y-(neq+1)) (lo+y)) ?j8 ?fin2 ⟨a1,0,rfl,rfl,by lia,by lia,m1,D1,Ep T (m1.all hP) (by lia)⟩) ?post2)
  case fin2=>
   rintro c st2 ⟨a2,neq,rfl,rfl,g1,g2,g3,g4,g5⟩;exact⟨a2,_,neq,rfl,rfl,by lia,g1,g2,g3,g4,g5⟩
  case j8=>
   rintro y c st2 hy1 hy2 ⟨a2,neq,rfl,rfl,g1,g2,g3,g4,g5⟩;have hs2:=g3.size;have hP2:=g3.all hP;have hy:lo+y<a2.size:=by lia
   have hyp:lo+y-1<a2.size:=by lia
   have Pb:∀ {i:Nat},(hi:i<a2.size)->P a2[i]:=λ{i} hi=>hP2 i _ (getElem?_pos a2 i hi);dsimp only;refine Wh (v8 C (st:=WT st' a2) (a:=a2) hst rfl hP2 hy hyp ?_);cases hc:f a2[lo+y] a2[lo+y-1]with
   | true=>
    dsimp only;rw[Qf rfl];have D2:=g4.more T hP2 (by lia) hy (T.iB _ _ (Pb hy) (Pb hyp) hc);refine eX (λhq=>?_) (λhq=>?_)
    ·have m2:=g3.trans (z8 (p:=lo+y-(neq+1)) (q:=lo+y) (lo:=lo) (hi:=lo+n) (show lo+y<=a2.size by lia) (by lia) (by lia));have D3:=Eo (p:=lo+y-(neq+1)) (q:=lo+y) (show lo+(y+1)<=a2.size by lia) (by lia) (by lia) D2 g5;exact Wh (W2 (Wl ⟨rev a2 (lo+y-(neq+1)) (lo+y),0,rfl,rfl,by lia,by lia,m2,D3,Ep T (m2.all hP) (by lia)⟩))
    ·exact Wl ⟨a2,0,rfl,rfl,by lia,by lia,g3,D2,Ep T hP2 (by lia)⟩
   | false=>
    dsimp only;rw[Qe (by decide)];refine Wh (v8 C (st:=WT st' a2) (a:=a2) hst rfl hP2 hyp hy ?_);cases hd:f a2[lo+y-1] a2[lo+y]with
    | true=>
     dsimp only;rw[Qf rfl];exact Wl ⟨a2,y,neq,rfl,rfl,by lia,by lia,g2,g3,g4,g5⟩
    | false=>
     dsimp only;rw[Qe (by decide)];have D2:=g4.more T hP2 (by lia) hy hd;have A2:=g5.more T hP2 (by lia) hy hd hc;refine Wl ⟨a2,neq+1,rfl,rfl,by lia,by lia,g3,D2,?_⟩;rw[show lo+(y+1)-(neq+1+1)=lo+y-(neq+1) by lia,show lo+(y+1)=lo+y+1 by lia];exact A2
  case post2=>
   rintro c st2 ⟨a2,y,neq,rfl,rfl,g0,g1,g2,g3,g4,g5⟩;have hs2:=g3.size;dsimp only;refine Kv (λst3=>∃a3,st3=WT st' a3/\Moved (Wn st') a3 lo (lo+n)/\Dec f a3 lo (lo+y)) ?_ (λhq key=>Wh (W2 (key _ ⟨_,rfl,g3.trans (z8 (by lia) (by lia) (by lia)),Eo (by lia) (by lia) (by lia) g4 g5⟩))) (λhq=>⟨a2,rfl,g3,g4⟩);rintro st3 ⟨a3,rfl,m3,D3⟩;have hs3:=m3.size;refine Wh (W2 ?_);obtain⟨a4,m4,R4,hg⟩:∃a4,Moved (Wn st') a4 lo (lo+n)/\Run f a4 lo (lo+y)/\WT st' (rev a3 lo (lo+y))=WT st' a4:=
    ⟨_,m3.trans (z8 (by lia) (by lia) (by lia)),zsF (by lia) D3,rfl⟩
   show wpS _ _ _ _ _ _ (WT st' (rev a3 lo (lo+y)));rw[hg];clear hg;have gD:=m4.size;have hP4:=m4.all hP;refine Wh (WQ (Wz (I:=λz c st2=>st2=WT st' a4/\c=(none,z)/\z<=n/\Run f a4 lo (lo+z))
    (Q:=λc st2=>st2=WT st' a4/\∃z,c=(none,z)/\1<=z/\z<=n/\Run f a4 lo (lo+z)) ?step3 ?fin3 ⟨rfl,rfl,g1,R4⟩) ?post3)
   case fin3=>
    rintro c st2 ⟨rfl,rfl,k1,k2⟩;exact⟨rfl,_,rfl,by lia,k1,k2⟩
   case post3=>
    rintro c st2 ⟨rfl,z,rfl,k1,k2,k3⟩;exact Wl (hQ a4 z k1 k2 m4 k3)
   case step3=>
    rintro z c st2 hz1 hz2 ⟨rfl,rfl,k1,k2⟩;dsimp only;refine Wh (v8 C (st:=WT st' a4) (a:=a4) hst rfl hP4 (show lo+z<a4.size by lia) (show lo+z-1<a4.size by lia) ?_);cases hc:f (a4[lo+z]'(by lia)) (a4[lo+z-1]'(by lia))with
    | true=>
     dsimp only;rw[Qf rfl];exact Wl ⟨rfl,z,rfl,by lia,by lia,k2⟩
    | false=>
     dsimp only;rw[Qe (by decide)];exact Wl ⟨rfl,rfl,by lia,k2.more T hP4 (by lia) (by lia) hc⟩
end
variable {P:Wp->Prop}{f:Wp->Wp->Bool}
def cX (f:Wp->Wp->Bool)(a:Array Wp):Nat->List (Nat×Nat×Nat)->Nat->Prop
 | s,[],hi=>s=hi
 | s,e::r,hi=>e.1=s/\0<e.2.1/\Run f a s (s+e.2.1)/\cX f a (s+e.2.1) r hi
theorem Run.congr (h:Run f a lo hi)(hs:a'.size=a.size)(he:∀j:Nat,lo<=j->j<hi->a'[j]? = a[j]?):Run f a' lo hi:=by
 intro i j hj hij h1 h2;have e1:=he i h1 (by lia);have e2:=he j (by lia) h2;rw[getElem?_pos a' i (by lia),getElem?_pos a i (by lia)]at e1;rw[getElem?_pos a' j hj,getElem?_pos a j (by lia)]at e2;rw[Qa e1,Qa e2];exact h i j (by lia) hij h1 h2
theorem cX.le:∀ {l:List (Nat×Nat×Nat)}{s hi:Nat},cX f a s l hi->s+l.length<=hi
 | [],s,hi,h=>by have:s=hi:=h;simp[this]
 | e::r,s,hi,⟨h1,h2,h3,h4⟩=>by have:=cX.le h4;rw[XX];lia
theorem cX.congr (hs:a'.size=a.size):∀ {l:List (Nat×Nat×Nat)}{s hi:Nat},cX f a s l hi->(∀j:Nat,s<=j->j<hi->a'[j]? = a[j]?)->cX f a' s l hi
 | [],s,hi,h,_=>h
 | e::r,s,hi,⟨h1,h2,h3,h4⟩,he=>by
  have:=h4.le;exact⟨h1,h2,h3.congr hs λj g1 g2=>he j g1 (by lia),cX.congr hs h4 λj g1 g2=>he j (by lia) g2⟩
theorem cX.append:∀ {l m:List (Nat×Nat×Nat)}{s hi:Nat},cX f a s (l++m) hi↔∃t,cX f a s l t/\cX f a t m hi
 | [],m,s,hi=>⟨λh=>⟨s,rfl,h⟩,λ⟨t,h1,h2⟩=>by have:s=t:=h1;rw[this];exact h2⟩
 | e::r,m,s,hi=>by
  constructor
  ·rintro⟨h1,h2,h3,h4⟩;obtain⟨t,g1,g2⟩:=cX.append.mp h4;exact⟨t,⟨h1,h2,h3,g1⟩,g2⟩
  ·rintro⟨t,⟨h1,h2,h3,h4⟩,g⟩;exact⟨h1,h2,h3,cX.append.mpr ⟨t,h4,g⟩⟩
theorem cX.snoc {l:List (Nat×Nat×Nat)}{s:Nat}(h:cX f a s l lo)(hn:0<n)(r:Run f a lo (lo+n)):cX f a s (l++[(lo,n,p)]) (lo+n):=cX.append.mpr ⟨lo,h,rfl,hn,r,rfl⟩
theorem cX.merge {pre post:List (Nat×Nat×Nat)}{pw sb pw2 s:Nat}(h:cX f a s (pre++(sa,na,pw)::(sb,nb,pw2)::post) hi)(hs:a'.size=a.size)(ho:∀j:Nat,j<sa\/sa+na+nb<=j->a'[j]? = a[j]?)(r:Run f a' sa (sa+na+nb)) :
  cX f a' s (pre++(sa,na+nb,pw)::post) hi:=by
 obtain⟨t,h1,h2,h3,h4,h5,h6,h7,h8⟩:=cX.append.mp h;simp only at h2 h3 h4 h5 h6 h7 h8;subst h2;refine cX.append.mpr ⟨sa,h1.congr hs λj g1 g2=>ho j (.inl g2),rfl,by show 0<na+nb;lia,?_,?_⟩
 ·show Run f a' sa (sa+(na+nb));rw[<- QM];exact r
 ·show cX f a' (sa+(na+nb)) post hi;rw[<- QM];exact h8.congr hs λj g1 g2=>ho j (.inr g1)
theorem zpX {p:Array (Nat×Nat×Nat)}{pre post:List (Nat×Nat×Nat)}{e1 e2 e:Nat×Nat×Nat}(h:p.toList=pre++e1::e2::post):((p.setIfInBounds pre.length e).eraseIdxIfInBounds (pre.length+1)).toList=pre++e::post:=by
 have hsz:p.size=pre.length+(post.length+2):=by rw[<- XB,h];simp
 rw[Array.eraseIdxIfInBounds,dif_pos (by simp;lia)];simp[h,List.eraseIdx_append_of_length_le]
theorem zor {S:List Wp}(hn:sa+n<=a.size)(so:S.Pairwise (Le f))(pm:S.Perm ((a.toList.drop sa).take n))(e:a'.toList=a.toList.take sa++S++a.toList.drop (sa+n)) :
  a'.Perm a/\a'.size=a.size/\(∀j:Nat,j<sa\/sa+n<=j->a'[j]? = a[j]?)/\Run f a' sa (sa+n):=by
 have hl:a.toList.length=a.size:=XB;have hS:S.length=n:=by rw[pm.length_eq,XJ,Px];lia
 have ht:(a.toList.take sa).length=sa:=by rw[XJ];lia
 have hp:a'.Perm a:=by
  rw[Array.perm_iff_toList_perm,e];have e2:a.toList=a.toList.take sa++(a.toList.drop sa).take n++a.toList.drop (sa+n):=by
   rw[<- PJ,XE,Yi,Yi]
  refine YG.trans ?_ (YG.of_eq e2.symm);exact YG.append_right _ (YG.append_left _ pm)
 refine⟨hp,hp.size_eq,λj hj=>?_,λi j hj hij h1 h2=>?_⟩
 ·rw[<- XT,<- XT,e];rcases hj with hj | hj
  ·rw[XE,Yd (by lia),List.getElem?_take_of_lt hj]
  ·rw[XO (by rw[Xy];lia),Xy,List.getElem?_drop]
   congr 1
   lia
 ·have at':∀(i:Nat) (h:i<a'.size),sa<=i->(h2:i<sa+n)->a'[i]=S[i-sa]'(by lia):=λi h g1 g2=>by
   have:a'.toList[i]? = S[i-sa]?:=by
    rw[e,XE,XO (by lia),ht,Yd (by lia)]
   rw[XT,getElem?_pos a' i h,Xa (by lia)]at this;exact Qa this
  rw[at' i (by lia) h1 (by lia),at' j hj (by lia) h2];exact List.pairwise_iff_getElem.mp so _ _ _ _ (by lia)
def v9:StateT WB Sem Unit:=sortPriv% PySem.Builtin.sortRuns
section
variable {prog:Wo}{w:Ws}{A:Wv}{E:Ti}{s:Wd}{k:Vc}{P:Wp->Prop}{f:Wp->Wp->Bool}
structure Inv (f:Wp->Wp->Bool)(k:Vc)(a:Array Wp)(st:WB)(lo:Nat):Prop where
 kind:kindOf st=k
 failed:W4 st=none
 pm:(Wn st).Perm a
 oN:cX f (Wn st) 0 (Wq st).toList lo
theorem KJ (C:mO prog w A E s k P f)(T:jU f P){a:Array Wp}{i lo:Nat}{Q:Bool->WB->Prop}{st:WB}(hP:∀(j:Nat) x,a[j]? = some x->P x)(I:Inv f k a st lo)(hlo:lo<=a.size)(hi:i+1<(Wq st).size)
  (hQ:∀st',Inv f k a st' lo->(Wq st').size+1=(Wq st).size->(∀j:Nat,lo<=j->(Wn st')[j]? = (Wn st)[j]?)->Q true st'):wpS (Wm prog w) A E s (KC i) Q st:=by
 have hlen:(Wq st).toList.length=(Wq st).size:=XB;have hsz:(Wn st).size=a.size:=I.pm.size_eq;obtain⟨pre,⟨sa,na,pw⟩,⟨sb,nb,pw2⟩,post,hl,hpre⟩:∃pre e1 e2 post,(Wq st).toList=pre++e1::e2::post/\pre.length=i:=by
  refine⟨(Wq st).toList.take i,(Wq st).toList[i],(Wq st).toList[i+1],(Wq st).toList.drop (i+2),?_,by rw[XJ];lia⟩;rw[<- Yz,<- Yz,Yi]
 have hst:=I.oN;rw[hl]at hst;obtain⟨t,h1,h2,h3,h4,h5,h6,h7,h8⟩:=cX.append.mp hst;simp only at h2 h3 h4 h5 h6 h7 h8;subst h2;subst h5;have hle:=h8.le;have g1:(Wq st)[i]? = some (sa,na,pw):=by rw[<- XT,hl,<- hpre];simp
 have g2:(Wq st)[i+1]? = some (sa+na,nb,pw2):=by rw[<- XT,hl,<- hpre];simp
 have hP':∀(j:Nat) x,(Wn st)[j]? = some x->P x:=(Moved.all (lo:=0) (hi:=(Wn st).size+a.size) ⟨I.pm,λj hj=>by
  rcases hj with hj | hj
  ·lia
  ·rw[getElem?_neg (Wn st) j (by lia),getElem?_neg a j (by lia)]⟩ hP)
 refine zuT C T I.kind I.failed g1 g2 h3 h6 (by lia) hP' h4 h7 λst' S q1 q2 q3 q4 q5 q6=>?_;rw[QM]at q6;obtain⟨r1,r2,r3,r4⟩:=zor (by lia) q4 q5 q6;have hpl:(Wq st').toList=pre++(sa,na+nb,pw)::post:=by rw[q3,<- hpre];exact zpX hl
 refine hQ st' ⟨q1,q2,r1.trans I.pm,?_⟩ ?_ λj hj=>r3 j (.inr (by lia))
 ·rw[hpl];exact hst.merge r2 (λj hj=>r3 j (by lia)) (by rw[QM];exact r4)
 ·have e1:(Wq st').size=(Wq st').toList.length:=XB.symm;rw[e1,hpl,<- hlen,hl];simp
  lia
end
section
variable {prog:Wo}{w:Ws}{A:Wv}{E:Ti}{s:Wd}{k:Vc}{P:Wp->Prop}{f:Wp->Wp->Bool}
theorem cX.modify {g:Nat×Nat×Nat->Nat×Nat×Nat}(hg:∀e,(g e).1=e.1/\(g e).2.1=e.2.1):∀ {l:List (Nat×Nat×Nat)}{i s hi:Nat},cX f a s l hi->cX f a s (l.modify i g) hi
 | [],i,s,hi,h=>by cases i<;>exact h
 | e::r,0,s,hi,⟨h1,h2,h3,h4⟩=>by
  show cX f a s (g e::r) hi;have:=hg e;exact⟨by rw[this.1];exact h1,by rw[this.2];exact h2,by rw[this.2];exact h3,by rw[this.2];exact h4⟩
 | e::r,i+1,s,hi,⟨h1,h2,h3,h4⟩=>by
  show cX f a s (e::r.modify i g) hi;exact⟨h1,h2,h3,cX.modify hg h4⟩
theorem Inv.moved (I:Inv f k a st lo)(m:Moved (Wn st) a' lo n):Inv f k a (WT st a') lo:=
 ⟨I.kind,I.failed,m.pm.trans I.pm,I.oN.congr m.size λj _ h=>m.out j (.inl h)⟩
theorem Inv.all (I:Inv f k a st lo)(hP:∀(j:Nat) x,a[j]? = some x->P x):∀(j:Nat) x,(Wn st)[j]? = some x->P x:=λj x e=>by
 have h1:x∈(Wn st).toList:=Xl (by rw[XT];exact e);exact u0 hP x ((Array.perm_iff_toList_perm.mp I.pm).mem_iff.mp h1)
theorem Inv.push (I:Inv f k a st lo)(hn:1<=n)(r:Run f (Wn st) lo (lo+n)):Inv f k a (SortSt.mk' (kindOf st) (Wn st) ((Wq st).push (lo,n,0)) (gallopOf st) (W4 st)) (lo+n):=
 ⟨I.kind,I.failed,I.pm,by show cX f (Wn st) 0 ((Wq st).push (lo,n,0)).toList (lo+n);rw[Ph];exact I.oN.snoc (by lia) r⟩
theorem Inv.power (I:Inv f k a st lo){g:Nat×Nat×Nat->Nat×Nat×Nat}(hg:∀e,(g e).1=e.1/\(g e).2.1=e.2.1):Inv f k a (SortSt.mk' (kindOf st) (Wn st) ((Wq st).modify i g) (gallopOf st) (W4 st)) lo:=
 ⟨I.kind,I.failed,I.pm,by show cX f (Wn st) 0 ((Wq st).modify i g).toList lo;rw[Array.toList_modify];exact I.oN.modify hg⟩
theorem zsG {c:Prop} [Decidable c] (h:¬ n<=1):(if c then n-2-1 else n-2)+1<n:=by split<;>lia
theorem KN {c:Prop} [Decidable c] {m1 m2:StateT WB Sem α}{Q:α->WB->Prop}(h1:c->wpS (Wm prog w) A E s m1 Q st)(h2:¬ c->wpS (Wm prog w) A E s m2 Q st):wpS (Wm prog w) A E s (if c then m1 else m2) Q st:=by
 by_cases h:c
 ·rw[Qf h];exact h1 h
 ·rw[Qe h];exact h2 h
theorem zuW (C:mO prog w A E s k P f)(T:jU f P){Q:Unit->WB->Prop}{st:WB}(hst:kindOf st=k)(hfl:W4 st=none)(hpn:Wq st = #[])(hP:∀(j:Nat) x,(Wn st)[j]? = some x->P x)
  (hQ:∀st',(Wn st').Perm (Wn st)->W4 st'=none->(Wn st').toList.Pairwise (Le f)->Q () st'):wpS (Wm prog w) A E s v9 Q st:=by
 refine Wh (wpS_get ?_);refine Wh (WQ (Wz (I:=λx c st'=>∃lo,c=(none,lo)/\lo<=(Wn st).size/\x<=lo/\Inv f k (Wn st) st' lo)
  (Q:=λc st'=>∃lo,c=(none,lo)/\lo=(Wn st).size/\Inv f k (Wn st) st' lo) ?step ?fin ⟨0,rfl,by lia,by lia,hst,hfl,.refl _,by rw[hpn];rfl⟩) ?post)
 case fin=>
  rintro c st' ⟨lo,rfl,h1,h2,I⟩;change max 0 (Wn st).size<=lo at h2;exact⟨lo,rfl,by lia,I⟩
 case post=>
  rintro c st' ⟨lo,rfl,rfl,I⟩;have hle:=I.oN.le;rw[XB]at hle;refine Wh (WQ (Wz (I:=λx c st2=>c=(none,())/\(Wq st2).size+x<=(Wn st).size/\Inv f k (Wn st) st2 (Wn st).size)
   (Q:=λc st2=>c=(none,())/\(Wq st2).size<=1/\Inv f k (Wn st) st2 (Wn st).size) ?step9 ?fin9 ⟨rfl,by lia,I⟩) ?post9)
  case fin9=>
   rintro c st2 ⟨rfl,h1,I2⟩;change (Wq st2).size+max 0 (Wn st).size<=(Wn st).size at h1;exact⟨rfl,by lia,I2⟩
  case post9=>
   rintro c st2 ⟨rfl,h1,I2⟩;refine Wl (hQ st2 I2.pm I2.failed ?_);have hsz:(Wn st2).size=(Wn st).size:=I2.pm.size_eq;have hr:Run f (Wn st2) 0 (0+(Wn st2).size):=by
    have hs:=I2.oN;have hl:(Wq st2).toList.length<=1:=by rw[XB];exact h1
    cases hp:(Wq st2).toList with
    | nil=>
     rw[hp]at hs;have:0=(Wn st).size:=hs;intro i j hj hij _ h2
     lia
    | cons e r=>
     rw[hp]at hs hl;have:r=[]:=XQ.mp (by simp at hl;exact XQ.mpr hl);subst this;obtain⟨g1,g2,g3,g4⟩:=hs;have:0+e.2.1=(Wn st).size:=g4;rw[this]at g3;rw[hsz,Nat.zero_add];exact g3
   have:=En hr (by lia)
   rwa [List.drop_zero,Xs (by rw[XB];exact Xj _)]at this
  case step9=>
   rintro x c st2 _ hx ⟨rfl,h1,I2⟩;refine Wh (wpS_get ?_);by_cases e1:(Wq st2).size<=1
   ·rw[Qf e1];exact Wl ⟨rfl,e1,I2⟩
   rw[Qe e1];refine Wh (KJ C T hP I2 (Xj _) ?_ λst3 I3 h3 _=>?_)
   ·exact zsG e1
   ·exact Wl ⟨rfl,by lia,I3⟩
 case step=>
  rintro x c st1 _ hx ⟨lo,rfl,h1,h2,I⟩;by_cases e1:lo>=(Wn st).size
  ·rw[Qf e1];exact Wl ⟨lo,rfl,by lia,I⟩
  rw[Qe e1];have hsz:(Wn st1).size=(Wn st).size:=I.pm.size_eq;refine Wh (zuV C T I.kind (show 1<=(Wn st).size-lo by lia) (show lo+((Wn st).size-lo)<=(Wn st1).size by lia) (I.all hP) λa1 m q1 q2 mv r1=>?_);have I1:=I.moved mv;have hs1:=mv.size;have q2':m<=(Wn st).size-lo:=q2;refine KN (λe2=>?_) (λe2=>?_);generalize hmr:(sortPriv% PySem.Builtin.minRun) _ _ _=mr at *;refine Wh (wpS_lift (WK ⟨rfl,?_⟩));refine Wh (zuU C T I1.kind (show lo+min ((Wn st).size-lo) mr<=a1.size by lia) (by lia) (I1.all hP) r1 λa2 mv2 r2=>?_);rw[Qe (by decide)];obtain⟨nn,hnn⟩:∃nn,nn=min ((Wn st).size-lo) mr:=⟨_,rfl⟩;obtain⟨oF,IX,rX,hg⟩:∃oF,Inv f k (Wn st) oF lo/\Run f (Wn oF) lo (lo+min ((Wn st).size-lo) mr)/\WT (WT st1 a1) a2=oF:=⟨_,I1.moved mv2,r2,rfl⟩;show wpS _ _ _ _ _ _ (WT (WT st1 a1) a2);rw[hg];clear hg;have n1:1<=min ((Wn st).size-lo) mr:=by lia
  have n2:lo+min ((Wn st).size-lo) mr<=(Wn st).size:=by lia
  rotate_left
  obtain⟨oF,IX,rX,hg⟩:∃oF,Inv f k (Wn st) oF lo/\Run f (Wn oF) lo (lo+m)/\WT st1 a1=oF:=⟨_,I1,r1,rfl⟩;show wpS _ _ _ _ _ _ (WT st1 a1);rw[hg];clear hg;have n1:1<=m:=by lia
  have n2:lo+m<=(Wn st).size:=by lia
  all_goals
   refine Wh (wpS_get ?_);rcases hb:(Wq oF).back? with _ | ⟨s1,l1,p1⟩
   ·dsimp only;exact Wh (W2 (Wl ⟨_,rfl,n2,by lia,IX.push n1 rX⟩))
   ·dsimp only;refine Wh (WQ (Wz (I:=λy c st2=>c=(none,())/\Inv f k (Wn st) st2 lo/\(∀j:Nat,lo<=j->(Wn st2)[j]? = (Wn oF)[j]?))
     (Q:=λc st2=>c=(none,())/\Inv f k (Wn st) st2 lo/\(∀j:Nat,lo<=j->(Wn st2)[j]? = (Wn oF)[j]?)) ?step5 ?fin5 ⟨rfl,IX,λ_ _=>rfl⟩) ?post5)
    case fin5=>exact λc st2 h=>h
    case post5=>
     rintro c st2 ⟨rfl,I2,o2⟩;dsimp only;have r2:=rX.congr (a':=Wn st2) (by rw[I2.pm.size_eq,IX.pm.size_eq]) λj g1 _=>o2 j g1;refine Wh (W2 (Wh (W2 (Wl ⟨_,rfl,n2,by lia,?_⟩))));exact Inv.push (Inv.power I2 (λe=>⟨rfl,rfl⟩)) n1 r2
    case step5=>
     rintro y c st2 _ hy ⟨rfl,I2,o2⟩;refine Wh (wpS_get ?_);by_cases hp:(Wq st2).size > 1
     ·rw[Qf hp,getElem?_pos (Wq st2) ((Wq st2).size-2) (by lia)];dsimp only;refine KN (λe3=>?_) (λe3=>?_)
      ·exact Wl ⟨rfl,I2,o2⟩
      ·refine Wh (KJ C T hP I2 (by lia) (show(Wq st2).size-2+1<(Wq st2).size by lia) λst3 I3 h3 o3=>?_);rw[Qe (by decide)];exact Wl ⟨rfl,I3,λj hj=>(o3 j hj).trans (o2 j hj)⟩
     ·rw[Qe hp];exact Wl ⟨rfl,I2,o2⟩
end
def ltI:Tp->Tp->Bool
 | [],[]=>false
 | [],_::_=>true
 | _::_,[]=>false
 | x::xs,y::ys=>if x=y then ltI xs ys else decide (x<y)
theorem z9:∀x:Tp,ltI x x=false
 | []=>rfl
 | a::x=>by unfold ltI;rw[Qf rfl];exact z9 x
theorem wg:∀x y:Tp,ltI x y=true->ltI y x=false
 | [],[],h=>rfl
 | [],_::_,h=>rfl
 | _::_,[],h=>by cases h
 | a::x,b::y,h=>by
  unfold ltI at h ⊢;by_cases e:a=b
  ·rw[Qf e]at h;rw[Qf e.symm];exact wg x y h
  ·rw[Qe e]at h;rw[Qe (λz=>e z.symm)];have:=Qh h;exact Qc (by lia)
theorem ye:∀x y:Tp,ltI x y=false->ltI y x=false->x=y
 | [],[],_,_=>rfl
 | [],_::_,h,_=>by cases h
 | _::_,[],_,h=>by cases h
 | a::x,b::y,h1,h2=>by
  unfold ltI at h1 h2;by_cases e:a=b
  ·rw[Qf e]at h1;rw[Qf e.symm]at h2;rw[e,ye x y h1 h2]
  ·rw[Qe e]at h1;rw[Qe (λz=>e z.symm)]at h2;have:=of_decide_eq_false h1;have:=of_decide_eq_false h2;exact Qg (show a=b by lia) e
theorem Aa:∀x y z:Tp,ltI x y=true->ltI y z=true->ltI x z=true
 | [],[],_,h,_=>by cases h
 | [],_::_,[],_,h=>by cases h
 | [],_::_,_::_,_,_=>rfl
 | _::_,[],_,h,_=>by cases h
 | _::_,_::_,[],_,h=>by cases h
 | a::x,b::y,c::z,h1,h2=>by
  unfold ltI at h1 h2 ⊢;by_cases e:a=b
  ·rw[Qf e]at h1;by_cases e2:b=c
   ·rw[Qf e2]at h2;rw[Qf (e.trans e2)];exact Aa x y z h1 h2
   ·rw[Qe e2]at h2;rw[Qe (by rw[e];exact e2),e];exact h2
  ·rw[Qe e]at h1;have l1:=Qh h1;by_cases e2:b=c
   ·rw[Qe (by rw[<- e2];exact e),<- e2];exact h1
   ·rw[Qe e2]at h2;have l2:=Qh h2;rw[Qe (by lia)];exact Qd (by lia)
theorem zsH:∀x y:Tp,x.zip y=[]->ltI x y=decide (x.length<y.length)
 | [],[],_=>rfl
 | [],_::_,_=>by simp[ltI]
 | _::_,[],_=>by simp[ltI]
 | _::_,_::_,h=>by cases h
def TupAt (h:Heap)(v:Wb)(ns:Tp):Prop:=∃a o vs n,v=.ref a/\h.get? a=some o/\o.cls=.type "tuple"/\o.data=.seq (List.toArray vs) n/\Vp vs ns
theorem TupAt.inj {h:Heap}{ms:Tp}(h1:TupAt h v ns)(h2:TupAt h v ms):ns=ms:=by
 obtain⟨a,o,vs,n,rfl,e,_,d,i⟩:=h1;obtain⟨a2,o2,vs2,n2,ea,e2,_,d2,i2⟩:=h2;cases ea;rw[e]at e2;cases e2;rw[d]at d2;cases d2;rw[<- i.nums,<- i2.nums]
open Classical in
def qx (h:Heap)(v:Wb):Tp:=if z:∃ns,TupAt h v ns then z.choose else[]
theorem Ab {h:Heap}(z:TupAt h v ns):qx h v=ns:=by
 unfold qx;have hz:∃ns,TupAt h v ns:=⟨ns,z⟩;rw[dif_pos hz];exact hz.choose_spec.inj z
section
variable {prog:Wo}{w:Ws}{M:Model}{A:Wv}{E:Ti}{s:Wd}
theorem KQ {α β:Type}(f:α->β->Sem (ForInStep β))(I:List α->β->Prop){Q:β->Wd->Prop}
  (hstep:∀x rest b,I (x::rest) b->Wj M A (f x b) (λr s'=>s'=s/\match r with | .done b'=>Q b' s | .yield b'=>I rest b') E s)
  (hend:∀b,I [] b->Q b s):∀(l:List α) (b:β),I l b->Wj M A (forIn l b f) Q E s
 | [],b,h=>by rw[List.forIn_nil];exact Wc (hend _ h)
 | x::rest,b,h=>by
  rw[List.forIn_cons];refine Wa (W8 (hstep x rest b h) (λr s' h'=>?_) λ_ _ e=>e);obtain⟨es,h'⟩:=h';rw[es];cases r with
  | done b'=>exact Wc h'
  | yield b'=>exact KQ f I hstep hend rest b' h'
theorem zos {a b:Int}{t u:Tok}{o:Bool}{Q:Bool->Wd->Prop}(h:Q (decide (a<b)) s):Wj (Wm prog w) A (oneLt' o (.int a t) (.int b u)) Q E s:=by
 cases o with
 | true=>exact oneLt_int h
 | false=>
  rw[oneLt'_eq];simp only[XF,if_false];refine Wa (wpAny_lt_int (Q:=λr s'=>Wj (Wm prog w) A (truthOfDropped r) Q E s') ?_);exact WR h
theorem zot {k:Bool}{x y:Wb}{ms:Tp}{Q:Bool->Wd->Prop}(hx:TupAt s.heap x ns)(hy:TupAt s.heap y ms)(h:Q (ltI ns ms) s):Wj (Wm prog w) A (keyLt' (tuples' k) x y) Q E s:=by
 obtain⟨a,o,vs,n,rfl,e,_,d,i⟩:=hx;obtain⟨b,o2,ws,n2,rfl,e2,_,d2,i2⟩:=hy;refine Wa (Vn e d (Wa (Vn e2 d2 ?_)));refine Wa (KQ _ (I:=λl c=>c=(none,PUnit.unit)/\∃vs' ws' ns' tR j,l=(vs'.zip ws').zipIdx j/\Vp vs' ns'/\Vp ws' tR/\ltI ns ms=ltI ns' tR/\ns'.length+ms.length=tR.length+ns.length) ?step ?fin _ _ ⟨rfl,vs,ws,ns,ms,0,rfl,i,i2,rfl,by lia⟩)
 case fin=>
  rintro c ⟨rfl,vs',ws',ns',tR,j,hl,i3,i4,h1,h2⟩;dsimp only;have hz:ns'.zip tR=[]:=by
   have q:(vs'.zip ws').length=0:=by have:=congrArg QW hl;simpa using this.symm
   rw[QK]at q;have l3:=i3.nums;have l4:=i4.nums;have l3:=congrArg QW l3;have l4:=congrArg QW l4;rw[Xb]at l3 l4;refine XQ.mp ?_;rw[QK,<- l3,<- l4];exact q
  rw[h1,zsH _ _ hz]at h;have l1:=congrArg QW i.nums;have l2:=congrArg QW i2.nums;rw[Xb]at l1 l2;have hd:decide (ns'.length<tR.length)=decide (vs.toArray.size<ws.toArray.size):=by
   rw[Xo,Xo,l1,l2];by_cases q:ns'.length<tR.length
   ·rw[Qd q,Qd (by lia)]
   ·rw[Qc q,Qc (by lia)]
  rw[hd]at h;exact Wc h
 case step=>
  rintro⟨⟨p,q⟩,j0⟩ rest c ⟨rfl,vs',ws',ns',tR,j,hl,i3,i4,h1,h2⟩;cases i3 with
  | nil=>simp at hl
  | @cons n1 t1 vs1 ns1 i3=>
   cases i4 with
   | nil=>simp at hl
   | @cons m1 u1 ws1 ms1 i4=>
    rw[YB,List.zipIdx_cons]at hl;obtain⟨hl1,hl2⟩:=Pn hl;cases hl1;dsimp only;refine Wa (wpAny_eqBool_int ?_);by_cases e3:n1=m1
    ·subst e3;rw[Qe (by simp)];refine Wc ⟨rfl,rfl,vs1,ws1,ns1,ms1,_,hl2,i3,i4,?_,?_⟩
     ·rw[h1,ltI,Qf rfl]
     ·rw[XX,XX]at h2;lia
    ·rw[Qf (by simpa using e3)];refine Wa (zos ?_);refine Wc ⟨rfl,?_⟩;dsimp only;rw[h1,ltI,Qe e3]at h;exact Wc h
theorem zsI (k:Bool):mO prog w A E s (tuples' k) (λx=>∃ns,TupAt s.heap x.1 ns) (λx y=>ltI (qx s.heap x.1) (qx s.heap y.1)) where
 run {x y Q st} hx hy hk h:=by
  obtain⟨ns,hx⟩:=hx;obtain⟨ms,hy⟩:=hy;rw[Ab hx,Ab hy]at h;rw[lt'_eq];refine Wh (wpS_get ?_);rw[hk];refine Wh (wpS_lift (wpAny_attempt (zot hx hy ⟨rfl,?_⟩)));exact Wl h
end
theorem Ac {x y z:Tp}(h1:ltI y x=false)(h2:ltI z y=false):ltI z x=false:=by
 cases h:ltI z x with
 | false=>rfl
 | true=>
  cases h3:ltI x y with
  | true=>rw[Aa _ _ _ h h3]at h2;cases h2
  | false=>rw[ye _ _ h3 h1]at h;rw[h]at h2;cases h2
theorem zsJ (h:Heap):jU (λx y=>ltI (qx h x.1) (qx h y.1)) (λx=>∃ns,TupAt h x.1 ns) where
 iB x y _ _ e:=wg _ _ e
 tr x y z _ _ _ h1 h2:=Ac h1 h2
theorem ziU {φ:α->β}{l m:List β}(h:l.Perm m):∀us:List α,m=us.map φ->∃us':List α,us'.Perm us/\l=us'.map φ:=by
 induction h with
 | nil=>intro us e;exact⟨us,.refl _,by rw[<- e]⟩
 | @cons x l1 l2 hp ih=>
  intro us e;cases us with
  | nil=>cases e
  | cons u us=>
   rw[Xz]at e;have e1:=(Pn e).1;have e2:=(Pn e).2;obtain⟨us',h1,h2⟩:=ih us e2;exact⟨u::us',h1.cons u,by rw[Xz,h2,e1]⟩
 | @swap x y l1=>
  intro us e
  match us,e with
  | u::v::us,e=>
   rw[Xz,Xz]at e;have e1:=(Pn e).1;have e2:=(Pn (Pn e).2).1;have e3:=(Pn (Pn e).2).2;exact⟨v::u::us,.swap _ _ _,by rw[Xz,Xz,e1,e2,e3]⟩
 | trans _ _ ih1 ih2=>
  intro us e;obtain⟨u2,h1,h2⟩:=ih2 us e;obtain⟨u3,h3,h4⟩:=ih1 u2 h2;exact⟨u3,h3.trans h1,h4⟩
section
variable {prog:Wo}{w:Ws}{M:Model}{A:Wv}{E:Ti}{s:Wd}
theorem KR {g:α->Sem β}{φ:α->β}:∀(vs:List α){Q:List β->Wd->Prop},(∀v∈vs,∀ {Q':β->Wd->Prop},Q' (φ v) s->Wj M A (g v) Q' E s)->Q (vs.map φ) s->Wj M A (vs.mapM g) Q E s
 | [],Q,_,h=>by rw[List.mapM_nil];exact Wc h
 | v::vs,Q,hg,h=>by
  rw[List.mapM_cons];refine Wa (hg v Xg (Wa (KR vs (λu hu=>hg u (Xi _ hu)) (Wc ?_))));exact h
theorem zou {g:α->Sem β}{φ:α->β}(vs:List α){Q:Array β->Wd->Prop}(hg:∀v∈vs,∀ {Q':β->Wd->Prop},Q' (φ v) s->Wj M A (g v) Q' E s)(h:Q (vs.map φ).toArray s):Wj M A (vs.toArray.mapM g) Q E s:=by
 rw[List.mapM_toArray,map_eq_pure_bind];exact Wa (KR vs hg (Wc h))
def qy (h:Heap)(v:Wb):Tv:=match v with
 | .ref a=>match h.get? a with
  | some o=>match o.data with
   | .seq xs _=>xs[0]?
   | _=>none
  | none=>none
 | _=>none
theorem KY (hv:TupAt s.heap v ns)(hn:ns≠[]):(∃n t,qy s.heap v=some (.int n t))/\∀ {Q:Tv->Wd->Prop},Q (qy s.heap v) s->Wj M A (firstOfTuple' v) Q E s:=by
 obtain⟨a,o,vs,n,rfl,e,c,d,i⟩:=hv;have hf:qy s.heap (.ref a)=vs.toArray[0]?:=by unfold qy;dsimp only;rw[e];dsimp only;rw[d]
 refine⟨?_,λ{Q} h=>?_⟩
 ·rw[hf];cases i with
  | nil=>exact Qg rfl hn
  | cons n t i=>exact⟨n,t,rfl⟩
 ·refine Wa (wpAny_typeOf (T:="tuple") ⟨o,e,c⟩ ?_);rw[Qe (by decide)];refine Wa (Vn e d (Wc ?_));rw[<- hf];exact h
theorem zpY {vs:Tq}{Q:Vc->Wd->Prop}(hv:∀v∈vs,∃ns,TupAt s.heap v ns/\ns≠[])(h1:vs≠[])(h:Q (tuples' true) s):Wj M A (keyKind' vs.toArray) Q E s:=by
 rw[keyKind'_eq];have hi:∀v∈vs,∃n t,qy s.heap v=some (.int n t):=λv hm=>by
  obtain⟨ns,z1,z2⟩:=hv v hm;exact(KY (M:=M) (A:=A) (E:=E) z1 z2).1
 refine Wa (zou (φ:=qy s.heap) vs (λv hm {Q'} q=>?_) ?_)
 ·obtain⟨ns,z1,z2⟩:=hv v hm;exact(KY z1 z2).2 q
 have ha:((vs.map (qy s.heap)).toArray.all λx=>x.isSome)=true:=by
  rw[List.all_toArray,Ot,XV];intro v hm;obtain⟨n,t,e⟩:=hi v hm;show(qy s.heap v).isSome=true;rw[e];rfl
 rw[Qf ha];have hx:∃us:Tq,(vs.map (qy s.heap)).filterMap id=us/\us≠[]/\∀u∈us,∃n t,u=Oo n t:=by
  refine⟨_,rfl,?_,λu hu=>?_⟩
  ·cases vs with
   | nil=>exact Qg rfl h1
   | cons v vs=>
    obtain⟨n,t,e⟩:=hi v Xg;rw[Xz,e];simp
  ·rw[List.mem_filterMap]at hu;obtain⟨o,ho,e⟩:=hu;obtain⟨v,hm,rfl⟩:=Xv.mp ho;obtain⟨n,t,e2⟩:=hi v hm;have e:qy s.heap v=some u:=e;rw[e2]at e;exact⟨n,t,(Qa e).symm⟩
 obtain⟨us,e1,e2,e3⟩:=hx;refine Wa (WK ?_);rw[List.filterMap_toArray,e1,oneTypeOnly'_eq,List.mapM_toArray,mapM_typeOf_ints (intsAre_map us e3)];simp only[map_pure,pure_bind];cases us with
 | nil=>exact Qg rfl e2
 | cons u us=>
  have h0:(Yl (λ_=>QD "int") (u::us)).toArray[0]? = some (QD "int"):=rfl;have hall:((Yl (λ_=>QD "int") (u::us)).toArray.all λx=>x == QD "int")=true:=by
   rw[List.all_toArray,Ot,XV];intro _ _;rfl
  rw[h0];simp only[hall,if_true,pure_bind];exact Wc h
abbrev refsOf (us:List (We×Tp)):Tq:=us.map λu=>Qq u.1
theorem yg:∀us:List (We×Tp),(refsOf us).zip (refsOf us)=us.map λu=>(Qq u.1,Qq u.1)
 | []=>rfl
 | u::us=>by show(_,_)::(refsOf us).zip (refsOf us)=_;rw[yg us];rfl
theorem zhM {a:We}{us:List (We×Tp)}{n:Nat}{P:Fin->Wd->Prop}(ho:s.heap.get? a=some (Vh "list" (refsOf us).toArray n)) (hT:∀u∈us,TupAt s.heap (.ref u.1) u.2/\u.2≠[]) (hsz:us.length<=Wi)
  (h:∀us',us'.Perm us->(us'.map (·.2)).Pairwise (λx y=>ltI y x=false)->P (.done (.ret .none)) { s with heap:=sortedHeap s.heap a (refsOf us) (refsOf us').toArray }) :
  Wj (Wm prog w) A (Builtin.«list.sort» ⟨[.ref a],[]⟩) P E s:=by
 rw[list_sort_plain];have ha:a<s.heap.objs.size:=XC ho;refine Wa (Vn ho rfl (Wa (listUpdate_at ho rfl ?_ (hsz:=by rw[Xo,Xb];exact hsz) (hsz2:=Ye _))));obtain⟨e1,ho1⟩:∃e1,(s.heap.update a (QF λ_=>#[])).get? a=some (Vh "list" #[] e1):=⟨_,get?_update_seq ho (λ_=>#[])⟩;refine Wa (seqEpoch_at ho1 rfl (Wa (wpAny_newTuple (Wa (wpAny_newList (Wy ?_))))));obtain⟨h6,eh⟩:∃h6,h6=(((s.heap.update a (QF λ_=>#[])).push (Vh "tuple" (refsOf us).toArray 0)).push (Vh "list" #[] 0)):=⟨_,rfl⟩;have kp:∀b,b<s.heap.objs.size->h6.get? b=(s.heap.update a (QF λ_=>#[])).get? b:=λb hb=>by
  rw[eh,Heap.get?_push_ne _ _ _ (by rw[size_push',Heap.size_update];exact XM (YR hb)),Heap.get?_push_ne _ _ _ (by rw[Heap.size_update];exact XM hb)]
 have ho6:h6.get? a=some (Vh "list" #[] e1):=by rw[kp a ha];exact ho1
 have hT6:∀u∈us,TupAt h6 (.ref u.1) u.2:=λu hu=>by
  obtain⟨b,o,vs,m,e,hb,c,d,i⟩:=(hT u hu).1;cases e;have hne:u.1≠a:=λz=>by rw[z,ho]at hb;cases hb;injection c with c;exact Qg c (by decide)
  refine⟨u.1,o,vs,m,rfl,?_,c,d,i⟩;rw[kp u.1 (XC hb),Yf _ _ (Qz hne)];exact hb
 show Wj (Wm prog w) A _ P E { s with heap:=(((s.heap.update a (QF λ_=>#[])).push (Vh "tuple" (refsOf us).toArray 0)).push (Vh "list" #[] 0)) };have hfin:∀us':List (We×Tp),us'.Perm us->(us'.map (·.2)).Pairwise (λx y=>ltI y x=false)->P (.done (.ret .none)) { s with heap:=h6.update a (QF λ_=>(refsOf us').toArray) }:=by
  rw[eh];exact h
 rw[<- eh];dsimp only;by_cases h2:(refsOf us).toArray.size<2
 ·rw[Qf h2,Qf h2];refine Wa (Wc ?_);rw[StateT.run_pure];refine Wa (Wc (Wa (seqEpoch_at ho6 rfl (Wa (listUpdate_at ho6 rfl ?_ (hsz:=Ye _) (hsz2:=?_))))))
  ·simp only[bne_self_eq_false,XF,if_false];have e2:Array.map (λx=>x.2) (Wn (SortSt.mk' general' ((refsOf us).toArray.zip (refsOf us).toArray) #[] 7 none))=(refsOf us).toArray:=by
    show Array.map (λx=>x.2) ((refsOf us).toArray.zip (refsOf us).toArray)=_;rw[List.zip_toArray,yg,List.map_toArray,Yk];rfl
   refine Wc ?_;have q:=hfin us (.refl _) (by
    rw[Xo,Xb]at h2
    match us,h2 with
    | [],_=>exact List.Pairwise.nil
    | [u],_=>simp)
   rw[<- e2]at q;exact q
  ·rw[Array.size_map];show((refsOf us).toArray.zip (refsOf us).toArray).size<=_;rw[List.zip_toArray,Xo,yg,Xb];lia
 ·rw[Qe h2,Qe h2];have hpos:us≠[]:=λz=>by subst z;exact h2 (by decide)
  refine Wa (zpY (s:={ s with heap:=h6 }) (λv hv=>?_) (λz=>hpos (List.map_eq_nil_iff.mp z)) ?_)
  ·obtain⟨u,hu,rfl⟩:=Xv.mp hv;exact⟨u.2,hT6 u hu,(hT u hu).2⟩
  have hW:=zuW (prog:=prog) (w:=w) (A:=A) (E:=E) (s:={ s with heap:=h6 }) (zsI (s:={ s with heap:=h6 }) true) (zsJ h6) (st:=SortSt.mk' (tuples' true) ((refsOf us).toArray.zip (refsOf us).toArray) #[] 7 none)
   (Q:=λ_ st'=>(Wn st').Perm ((refsOf us).toArray.zip (refsOf us).toArray)/\W4 st'=none/\(Wn st').toList.Pairwise (Le λx y=>ltI (qx h6 x.1) (qx h6 y.1))) rfl rfl rfl (λj x hx=>?_) (λst' a1 a2 a3=>⟨a1,a2,a3⟩)
  ·refine Wa (W8 hW ?_ λ_ _ e=>e);rintro⟨⟨⟩,st'⟩ s' ⟨rfl,hp,hf,hs⟩;dsimp only;have hpl:(Wn st').toList.Perm (us.map λu=>(Qq u.1,Qq u.1)):=by
    have q:=Array.perm_iff_toList_perm.mp hp;rw[List.zip_toArray,yg]at q;exact q
   obtain⟨us',p1,p2⟩:=ziU hpl us rfl;have e2:Array.map (λx=>x.2) (Wn st')=(refsOf us').toArray:=by
    have e3:Wn st'=(us'.map λu=>(Qq u.1,Qq u.1)).toArray:=by rw[<- p2,Array.toArray_toList]
    rw[e3,List.map_toArray,Yk];rfl
   refine Wa (seqEpoch_at ho6 rfl (Wa (listUpdate_at ho6 rfl ?_ (hsz:=Ye _) (hsz2:=?_))))
   ·rw[hf];simp only[bne_self_eq_false,XF,if_false];refine Wc ?_;have q:=hfin us' p1 (by
     rw[p2,O8]at hs;rw[O8];refine hs.imp_of_mem λ{x y} hx hy z=>?_;have z:ltI (qx h6 (.ref y.1)) (qx h6 (.ref x.1))=false:=z;rw[Ab (hT6 y (p1.mem_iff.mp hy)),Ab (hT6 x (p1.mem_iff.mp hx))]at z;exact z)
    rw[<- e2]at q;exact q
   ·show(Array.map (λx=>x.2) (Wn st')).size<=_;rw[e2,Xo,Xb,p1.length_eq];lia
  ·have hm:x∈(us.map λu=>(Qq u.1,Qq u.1)):=by
    have hx:((refsOf us).toArray.zip (refsOf us).toArray)[j]? = some x:=hx;rw[List.zip_toArray,yg,List.getElem?_toArray]at hx;exact Xl hx
   obtain⟨u,hu,rfl⟩:=Xv.mp hm;exact⟨u.2,hT6 u hu⟩
theorem zke {l:We}{us:List (We×Tp)}{Q:Ti}(hl:s.heap.IsList l (refsOf us).toArray)(hT:∀u∈us,TupAt s.heap (.ref u.1) u.2/\u.2≠[])(hsz:us.length<=Wi)
  (h:∀us',us'.Perm us->(us'.map (·.2)).Pairwise (λx y=>ltI y x=false)->Q (.ref (s.heap.objs.size+1)) { s with heap:=sortedAll s.heap (refsOf us) (refsOf us').toArray }) :
  Wj (Wm prog w) A (call (.builtin "sorted") [.ref l]) Q E s:=by
 refine Calls.call_function_entry kind_sorted plain_sorted entry_sorted (args_sorted1 _) ?_;unfold Builtin.«sorted»;refine Wa (m:=checkCount "sorted" 1 1 _) (Wc (Wa (collect_list hl (Wa (wpAny_newList ?_)) (hsz:=by rw[Xb];exact hsz))));obtain⟨h5,eh⟩:∃h5,h5=(s.heap.push (Vh "list" #[] 0)).update s.heap.objs.size (QF (·++(refsOf us).toArray)):=⟨_,rfl⟩;have hz:h5.objs.size=s.heap.objs.size+1:=by rw[eh,Heap.size_update,size_push']
 have hoL:(h5.push (Vh "list" (refsOf us).toArray 0)).get? (s.heap.objs.size+1)=some (Vh "list" (refsOf us).toArray 0):=by rw[<- hz];exact XA _ rfl
 have kp:∀b o,s.heap.get? b=some o->(h5.push (Vh "list" (refsOf us).toArray 0)).get? b=some o:=λb o e=>by
  have hb:=XC e;rw[Heap.get?_push_ne _ _ _ (by rw[hz];exact XM (YR hb)),eh,Yf _ _ (Nat.ne_of_gt hb),Heap.get?_push_ne _ _ _ (XM hb)];exact e
 have hfin:∀us',us'.Perm us->(us'.map (·.2)).Pairwise (λx y=>ltI y x=false)->Q (.ref (s.heap.objs.size+1)) { s with heap:=sortedHeap (h5.push (Vh "list" (refsOf us).toArray 0)) (s.heap.objs.size+1) (refsOf us) (refsOf us').toArray }:=by
  rw[eh];exact h
 show Wj _ _ _ _ _ { s with heap:=((s.heap.push (Vh "list" #[] 0)).update s.heap.objs.size (QF (·++(refsOf us).toArray))).push (Vh "list" (refsOf us).toArray 0) };rw[<- eh,hz];refine Wa (Wy (WN slot_list_sort ⟨_,hoL,rfl⟩ entry_list_sort (zhM (s:={ s with heap:=h5.push (Vh "list" (refsOf us).toArray 0) }) hoL (λu hu=>?_) hsz λus' a1 a2=>⟨_,rfl,?_⟩) (args_list_sort _)))
 ·obtain⟨⟨b,o,vs,m,e,hb,c,d,i⟩,z⟩:=hT u hu;exact⟨⟨b,o,vs,m,e,kp b o hb,c,d,i⟩,z⟩
 ·exact Wc ⟨_,rfl,hfin us' a1 a2⟩
end
end mX
namespace L2
open PySem PySem.Spec PyProof.Rows
theorem KZ:∀ {us:List (We×Tp)}{its:Tq},Vals (us.map λu=>V.ref u.1) its->its=mX.refsOf us
 | [],_,r=>by cases r;rfl
 | u::us,_,r=>by
  cases r with
  | cons r1 r2=>
   have e:_=Qq u.1:=r1;rw[e,KZ r2];rfl
theorem K1:∀(us:List (We×Tp)),Vals (us.map λu=>V.ref u.1) (mX.refsOf us)
 | []=>.nil
 | u::us=>.cons rfl (K1 us)
theorem ints_of:∀ {ns:Tp}{its:Tq},Vals (ns.map V.int) its->Vp its ns
 | [],_,r=>by cases r;exact .nil
 | n::ns,_,r=>by
  cases r with
  | cons r1 r2=>
   obtain⟨t,rfl⟩:=(show ∃t,_=Oo n t from r1);exact .cons n t (ints_of r2)
def vd (v d:We):HO:=.ext λh=>PySem.W.KdlKeysView h v d
section
variable {X:Cx}
theorem zmo:j5 X (.builtin "sorted") (λxs H Q=>∃(p:We) (us:List (We×Tp)),xs=[.ref p]/\aR X.K H p (us.map λu=>V.ref u.1)/\(∀u∈us,bG X.K H u.1 (u.2.map V.int)/\u.2≠[])/\
  ∀(l:We) (us':List (We×Tp)),H l=none->us'.Perm us->(us'.map (·.2)).Pairwise (λx y=>mX.ltI y x=false)->Q (.ref l) (upd H l (.lst (us'.map λu=>V.ref u.1)))):=by
 intro pins s σ H xs us Q I r h;obtain⟨p,us,rfl,hp,hT,q⟩:=h;obtain⟨u,rfl,rx⟩:=vals1 r;cases rx;obtain⟨its,r,ht,hz⟩:=I.list hp;have ei:=KZ r;subst ei;rw[Xb]at hz;refine mX.zke ht.isList (λu hu=>?_) (by lia) λus' a1 a2=>?_
 ·obtain⟨h1,h2⟩:=hT u hu;obtain⟨its2,rv,⟨o,ho,hc,n,hd⟩,_⟩:=I.tuple h1;exact⟨⟨u.1,o,its2,n,rfl,ho,hc,hd,ints_of rv⟩,h2⟩
 ·obtain⟨e,he⟩:=sortedAll_at s.heap (mX.refsOf us) (mX.refsOf us').toArray;have kp:∀b o,s.heap.get? b=some o->(sortedAll s.heap (mX.refsOf us) (mX.refsOf us').toArray).get? b=some o:=λ_ _=>sortedAll_old;refine⟨.ref (s.heap.objs.size+1),_,I.laid (t':=s.toks) (o:=.lst (us'.map λu=>V.ref u.1)) kp (QX _) ?_,rfl,q _ us' (I.hok.fresh (QX _)) a1 a2⟩;exact⟨by rw[Xb,a1.length_eq];exact hz,mX.refsOf us',e,K1 us',he⟩
theorem zsK:wY X "dict.keys" (λx xs H Q=>∃(d:We) (kvs:List (Key×V)),x=.ref d/\xs=[]/\Rd H d (.dK kvs)/\∀v,H v=none->Q (.ref v) (upd H v (vd v d))):=by
 intro pins s σ H x xs v us Q I rx rv h;obtain⟨d,kvs,rfl,rfl,hq,q⟩:=h;cases rx;cases rv;obtain⟨z,lo,vs,rel,dd⟩:=qj I.hok hq;refine call_meetsIn PySem.F.slot_dict_keys dd.typeIs PySem.F.entry_dict_keys (PySem.F.args_dict_keys_1 _) (PySem.W.kdl_meets_keys (eN X.prog X.w) d lo) ⟨⟨vs,dd⟩,?_⟩;refine⟨.ref s.heap.objs.size,_,I.laid (t':=s.toks) (o:=vd s.heap.objs.size d) (λb o e=>Xn _ e) (Xj _) ?_,rfl,q _ I.fresh⟩;exact⟨⟨_,XA _ rfl,rfl,rfl⟩,⟨_,XA _ rfl⟩,λh1 h2 ⟨o,e,c⟩ k=>⟨o,k o e,c⟩⟩
end
end L2
namespace PL
open PySem PySem.Spec L2
open PyProof.Rows hiding St
open mX (ltI z9 wg ye Aa Ac)
variable {K:Xc}{Fz:FZ}{H:Hp}
section
variable {X:Cx}
theorem zhN (hc:X.calm=true):j5 X (.builtin "sorted") (λxs H Q=>∃(v d:We) (kvs:List (Key×V)) (ss:Tn),xs=[.ref v]/\H v=some (vd v d)/\Rd H d (.dK kvs)/\kvs.map (·.1)=ss.map Pu/\ss.length<64/\∀(l:We) (zs:Tn),H l=none->zs.Perm ss->sortedS zs=true->Q (.ref l) (upd H l (.lst (zs.map V.str)))):=by
 intro pins s σ H xs us Q I r h;obtain⟨v,d,kvs,ss,rfl,hv,hq,hk,h64,q⟩:=h;obtain⟨u,rfl,rx⟩:=vals1 r;cases rx;obtain⟨hS,_,_⟩:=(show dg X.prog X.w H s.heap v (vd v d) from I.hok v _ hv);obtain⟨z,lo,vs,rel,dd⟩:=qj I.hok hq;obtain⟨ep,hat⟩:=dd.dictAt;have hlen:kvs.length=vs.length:=KV.length rel;have hks:kvs.length=ss.length:=by have:=congrArg QW hk;simpa using this
 refine Calls.call_function_entry kind_sorted plain_sorted entry_sorted (args_sorted1 _) ?_;unfold Builtin.«sorted»;refine Wa (m:=checkCount "sorted" 1 1 _) (Wc ?_);refine Wa (PySem.W.kdu_collect (A:=X.A.in1) (PySem.W.kdl_keys (knd:=eN X.prog X.w) (kvs:=vs) (ep:=ep)) (I.ok.hd hc) ⟨hS,hat⟩ (by rw[Wr];lia) λh1 tk acc kp hacc=>?_);have hst:StrsAre acc.toList ss:=by
  obtain⟨hs,hv⟩:=hacc;have key:∀(l:Tq) (ss:Tn) (n:Nat),l.length=ss.length->(∀(j:Nat) v,l[j]? = some v->∃(x:Str) (t:Tok),ss[j]? = some x/\v=Value.str x t)->StrsAre l ss:=by
   intro l;induction l with
   | nil=>intro ss n hl _;cases ss with
    | nil=>exact .nil
    | cons _ _=>simp at hl
   | cons y l ih=>intro ss n hl hh;cases ss with
    | nil=>simp at hl
    | cons x ss=>
     obtain⟨x',t,e1,e2⟩:=hh 0 y rfl;cases e1;rw[e2];exact .cons x t (ih ss n (by simpa using hl) λj v hj=>hh (j+1) v (by simpa using hj))
  refine key acc.toList ss 0 (by rw[XB,hs];lia) λj u hu=>?_;obtain⟨k,x,hx,hk2⟩:=hv j u (by rw[<- XT];exact hu);have hj:j<kvs.length:=by have:=(Xf.mp hx).1;lia
  have hkj:kvs[j]? = some kvs[j]:=Xa hj;obtain⟨u2,hu2,_⟩:=JQ rel hkj;rw[hx]at hu2;have ek:k=kvs[j].1:=by cases hu2;rfl
  have es:(kvs.map (·.1))[j]? = (ss.map Pu)[j]?:=by rw[hk]
  rw[Xe,Xe,hkj]at es;have hjs:j<ss.length:=by lia
  rw[Xa hjs]at es;have es:kvs[j].1=Pu ss[j]:=Qa es;rw[ek,es]at hk2;obtain⟨t,e⟩:=Ou (show Oz ss[j] u=true from hk2);exact⟨ss[j],t,Xa hjs,e⟩
 have hl64:acc.toList.length<64:=by rw[StrsAre.length hst];exact h64
 refine JS.Io (s:={ s with heap:=h1,toks:=tk }) hst hl64 λh' out zs e a1 a2 a3 kp' he=>?_;have I1:Inv X pins σ H { s with heap:=h1,toks:=tk }:=I.kept (t':=tk) kp;have hl2:zs.length=ss.length:=a2.length_eq;refine⟨.ref h1.objs.size,_,I1.laid (h':=h') (t':=tk) (o:=.lst (zs.map V.str)) kp' (Xj _) ?_,rfl,q _ zs (I1.hok.fresh (Xj _)) a2 a3⟩;exact⟨by rw[Xb,Wr];lia,out,e,Ir a1,he⟩
end
def sortI (ss:Td):Td:=ss.mergeSort λa b=>!ltI b a
theorem sortI_perm (ss:Td):(sortI ss).Perm ss:=List.mergeSort_perm ss _
theorem zpZ (ss:Td):(sortI ss).Pairwise (λx y=>ltI y x=false):=by
 have h:=List.pairwise_mergeSort (le:=λa b:Tp=>!ltI b a) (λa b c h1 h2=>by
  simp only[Bool.not_eq_true']at h1 h2 ⊢;exact Ac h1 h2) (λa b=>by
  cases h:ltI b a with
  | false=>rfl
  | true=>rw[wg _ _ h];rfl) ss
 exact h.imp λ{a b} z=>by simpa using z
theorem K3:∀ {l m:Td},l.Perm m->l.Pairwise (λx y=>ltI y x=false)->m.Pairwise (λx y=>ltI y x=false)->l=m
 | [],m,h,_,_=>(List.nil_perm.mp h).symm
 | a::l,[],h,_,_=>Qg h.length_eq (by simp)
 | a::l,b::m,h,h1,h2=>by
  have e:a=b:=by
   rcases Xx.mp (h.mem_iff.mp Xg)with z | z
   ·exact z
   ·rcases Xx.mp (h.symm.mem_iff.mp (Xg (a:=b) (l:=m)))with y | y
    ·exact y.symm
    ·exact ye _ _ ((YM.mp h2).1 a z) ((YM.mp h1).1 b y)
  subst e;rw[K3 ((List.perm_cons a).mp h) (YM.mp h1).2 (YM.mp h2).2]
theorem K4 {zs ss:Td}(h:zs.Perm ss)(hp:zs.Pairwise (λx y=>ltI y x=false)):zs=sortI ss:=K3 (h.trans (sortI_perm ss).symm) hp (zpZ ss)
theorem K5:∀ {ss:Tp}{xs:List V},aj K Fz H (ss.map PV.int) xs->xs=ss.map V.int
 | [],xs,h=>by rw[YL]at h;simp only[aj]at h;exact h
 | s::r,xs,h=>by
  rw[Xz]at h;simp only[aj]at h;obtain⟨v,t,z,h1,h2⟩:=h;simp only[aq]at h1;subst z h1;rw[Xz,K5 h2]
theorem K6:∀(ss:Tp),aj K Fz H (ss.map PV.int) (ss.map V.int)
 | []=>aj.nil
 | s::r=>by rw[Xz,Xz];exact aj.cons (by simp only[aq]) (K6 r)
theorem K7:∀ {ss:Td}{xs:List V},aj K Fz H (ss.map λr=>PV.tup (r.map PV.int)) xs->∃us:List (We×Tp),xs=us.map (λu=>V.ref u.1)/\us.map (·.2)=ss/\∀u∈us,H u.1=some (.tup (u.2.map V.int))
 | [],xs,h=>by rw[YL]at h;simp only[aj]at h;exact⟨[],h,rfl,λu hu=>by cases hu⟩
 | s::r,xs,h=>by
  rw[Xz]at h;simp only[aj]at h;obtain⟨v,t,z,h1,h2⟩:=h;simp only[aq]at h1;obtain⟨p,ys,e1,e2,e3⟩:=h1;have e4:=K5 e3;subst e4;obtain⟨us,g1,g2,g3⟩:=K7 h2;refine⟨(p,s)::us,by rw[z,e1,g1];rfl,by rw[Xz,g2],λu hu=>?_⟩;rcases Xx.mp hu with rfl | hu
  ·exact e2
  ·exact g3 u hu
theorem K8:∀(us:List (We×Tp)),(∀u∈us,H u.1=some (.tup (u.2.map V.int)))->aj K Fz H ((us.map (·.2)).map λr=>PV.tup (r.map PV.int)) (us.map λu=>V.ref u.1)
 | [],_=>aj.nil
 | u::us,h=>by
  rw[Xz,Xz,Xz];refine aj.cons ?_ (K8 us λv hv=>h v (Xi _ hv));simp only[aq];exact⟨u.1,_,rfl,h u Xg,K6 u.2⟩
def zca:PF:=λds Q=>∃ss:Td,ds=[.lst (ss.map λr=>PV.tup (r.map PV.int))]/\(∀r∈ss,r≠[])/\Q (.lst ((sortI ss).map λr=>PV.tup (r.map PV.int))) .new
theorem zqa {X:Cx}:nR X.K (λxs H Q=>∃(p:We)(us:List (We×Tp)),xs=[.ref p]/\aR X.K H p (us.map λu=>V.ref u.1)/\(∀u∈us,bG X.K H u.1 (u.2.map V.int)/\u.2≠[])/\
  ∀(l:We) (us':List (We×Tp)),H l=none->us'.Perm us->(us'.map (·.2)).Pairwise (λx y=>mX.ltI y x=false)->Q (.ref l) (upd H l (.lst (us'.map λu=>V.ref u.1)))) zca where
 mono ds Q Q' m h:=by obtain⟨ss,e1,e2,q⟩:=h;exact⟨ss,e1,e2,m _ _ q⟩
 run Fz H ds vs Q al r h:=by
  obtain⟨ss,rfl,e2,q⟩:=h;obtain⟨v,rfl,rv⟩:=qu r;obtain⟨a,xs,rfl,h1,h2⟩:=dB rv;obtain⟨us,rfl,g2,g3⟩:=K7 h2;refine⟨a,us,rfl,h1,λu hu=>⟨bG.of (g3 u hu),e2 _ (by rw[<- g2];exact Xv.mpr ⟨u,hu,rfl⟩)⟩,λl us' hl hz hs=>?_⟩;have ez:us'.map (·.2)=sortI ss:=K4 (by rw[<- g2];exact hz.map _) hs;have hd:aj X.K Fz H ((us'.map (·.2)).map λr=>PV.tup (r.map PV.int)) (us'.map λu=>V.ref u.1):=K8 us' λu hu=>g3 u (hz.mem_iff.mp hu);rw[ez]at hd;exact q _ Fz _ (.newL al hl hd)
section
variable {X:Cx}{e:Expr}{es:List Expr}{te:aN}{t:gO}{x:Str}{p p1 p2 q1 pos pos2 apos cpos:Pos}
theorem K9 (hg:Gl X "sorted") (hm:X.mg "sorted" = none) (ha:iR X (e::es) t) (he:Wf (e::es) X.env=(false,Wx e X.env)::Wf es X.env:=by rfl) (hpl:(Wu pos (Wf es X.env)).any (·.1)=false:=by rfl):aD X (.Call (.Name "sorted" p) (e::es) [] pos) (tB zca t):=
 uG zmo zqa hg hm Ds ha (by decide) (by decide) he hpl
theorem La:∀(ys xs:Tp),xs.Nodup->(ys.foldl JS.bH xs).Nodup
 | [],_,h=>h
 | y::ys,xs,h=>by
  rw[Q0];refine La ys _ ?_;unfold JS.bH;split
  ·exact h
  ·rename_i hy
   exact XI.mpr ⟨hy,h⟩
def zaH (i:Nat):aN:=λρ Q=>∃(ss:Tn)(ds:List PV),ρ[i]? = some (some (.dK (ss.map Pu) ds,true))/\ss.length<64/\∀zs:Tn,zs.Perm ss->sortedS zs=true->Q (.lst (zs.map PV.str)) .new
theorem zkg (i:Nat)(hc:X.calm=true)(hg:Gl X "sorted") (hm:X.mg "sorted" = none) (hN:X.N[i]? = some x:=by rfl) (hv:iZ X.env.scope x:=by first | exact Qo rfl | exact Qp (Qo rfl) | exact Qp (Qp rfl)) (hd:(x == ("__debug__" : Str))=false:=by decide) (hcd:(x == ("__classdict__" : Str))=false:=by decide)
  (hbase:WF (.Name x q1) "keys" X.env (Wx (.Name x q1) X.env)=Wx (.Name x q1) X.env:=by rfl) (hline:(apos.endLine == cpos.line)=true:=by rfl)
  (hs2:Wf [Expr.Call (.Attribute (.Name x q1) "keys" apos) [] [] cpos] X.env=(false,Wx (Expr.Call (.Attribute (.Name x q1) "keys" apos) [] [] cpos) X.env)::Wf [] X.env:=by rfl) (hpl2:(Wu pos (Wf [] X.env)).any (·.1)=false:=by rfl) :
  aD X (.Call (.Name "sorted" p) [.Call (.Attribute (.Name x q1) "keys" apos) [] [] cpos] [] pos) (zaH i) where
 mono ρ Q Q' m h:=by obtain⟨ss,ds,e1,e2,q⟩:=h;exact⟨ss,ds,e1,e2,λzs h1 h2=>m _ _ (q zs h1 h2)⟩
 run:=PE.weak (BK (zhN hc) hg hm Ds (nM (Hg PySem.F.plainAttrs_dict PySem.F.slot_dict_keys PySem.F.type_dict_keys zsK (jn hN hv hd hcd) hbase hline) mJ hs2) (by decide) (by decide) hs2 hpl2) λσ H Q h=>by
  obtain⟨ρ,Fz,R,ss,ds,e1,e2,q⟩:=h;obtain⟨a,xs,hs,ha,hl,hdn,nf⟩:=DP R e1;refine⟨_,hs,.inr (.inr (.inl ⟨rfl,.inl ⟨_,ha⟩⟩)),a,(ss.map Pu).zip xs,rfl,rfl,.inl ha,λv hv=>?_⟩;have hne:a≠v:=λz=>by subst z;rw[ha]at hv;cases hv
  have x2:Ext Fz H Fz (upd H v (vd v a)):=Ext.laid ⟨Same.refl _,λ_ h=>h,λ_ h=>.inl h,R.al⟩ hv;refine⟨v,a,(ss.map Pu).zip xs,ss,rfl,bF,.inl (by rw[aO hne];exact ha),List.map_fst_zip (by lia),e2,λl zs hl hz hs=>?_⟩;have p3:Post X.K [] [] Fz (upd H v (vd v a)) Fz (upd (upd H v (vd v a)) l (.lst (zs.map V.str))) (.lst (zs.map PV.str)) .new (.ref l):=Post.newL x2.al hl (Du zs);exact q zs hz hs _ Fz _ (p3.behind x2)
def zed (i:Nat)(te:aN):n8:=λρ Q=>∃ds,ρ[i]? = some (some (.lst ds,true))/\te ρ λd k=>∃es,d=.lst es/\k=.new/\ds.length+es.length<=Wi/\Q .non (ρ.set i (some (.lst (ds++es),true)))
theorem zqb (i:Nat)(he:aD X e te)(hN:X.N[i]? = some x:=by rfl)(hv:iZ X.env.scope x:=by first | exact Qo rfl | exact Qp (Qo rfl) | exact Qp (Qp rfl))(hd:(x == ("__debug__" : Str))=false:=by decide) (hcd:(x == ("__classdict__" : Str))=false:=by decide)
  (hbase:WF (.Name x p) "extend" X.env (Wx (.Name x p) X.env)=Wx (.Name x p) X.env:=by rfl)
  (hfew:((Wu cpos (Wf [e] X.env)).all (λx=>!x.1)&&(W9 cpos (WP [] X.env)).all (λx=>x.1.isSome)&&decide ([e].length+([]:List WL).length+(if ([]:List WL).isEmpty then 0 else 1)<30))=true:=by rfl)
  (hline:(apos.endLine == cpos.line)=true:=by rfl) (hs:Wf [e] X.env=(false,Wx e X.env)::Wf [] X.env:=by rfl) (hplain:(Wu cpos (Wf [] X.env)).any (·.1)=false:=by rfl):rm X (.Call (.Attribute (.Name x p) "extend" apos) [e] [] cpos) (zed i te) where
 mono ρ Q Q' m h:=by
  obtain⟨ds,e1,h⟩:=h;exact⟨ds,e1,he.mono ρ _ _ (λd _ ⟨es,q1,q2,q3,q⟩=>⟨es,q1,q2,q3,m _ _ q⟩) h⟩
 run:=PE.weak (sS Qw PySem.F.slot_list_extend PySem.F.type_list_extend V4 (jn hN hv hd hcd) (nM he.run mJ hs) hbase hfew hline hs hplain) λσ H Q h=>by
  obtain⟨ρ,Fz,R,ds,e1,h⟩:=h;obtain⟨a,xs,hs,ha,hd,nf⟩:=mR R e1;refine⟨_,hs,.inl ⟨rfl,xs,aR.of ha⟩,ρ,Fz,R,he.mono ρ _ _ (λd k q v F1 H1 p1=>?_) h⟩;obtain⟨es,rfl,rfl,q2,q⟩:=q;have R2:=R.ext p1.ext;obtain⟨a',xs',hs',ha',hd',jF⟩:=mR R2 e1;rw[hs]at hs';cases hs';obtain⟨pe,b,rfl,hb0,hbf,zs,hb,hz⟩:=p1;have hl:=hd'.length;have hl2:=hz.length;refine⟨a,b,xs',zs,rfl,rfl,ha',hb,by lia,?_⟩;have ow:Own X.K F1 (upd H1 a (.lst (xs'++zs))) (.lst (ds++es)) a:=⟨_,bF,(aj.qt ha' jF (hd'.append hz))⟩;obtain⟨R3,s3,o3⟩:=R2.mut e1 hs ha' ow;exact q .non F1 _ ((Step.of pe).trans (bB.refl ρ σ H) s3) (bB.trans (Step.of pe) (bB.refl ρ σ H) o3) R3 (by simp only[aq])
end
end PL
namespace JS
open PySem
abbrev tb (m:Nat):SetTable:={ SetTable.fresh 0 0 true with mask:=m }
def Er (m:Nat)(h:Int):Nat->SetTable.Probe
 | 0=>(tb m).probeStart h
 | n+1=>(tb m).advance (Er m h n)
structure Own (m:Nat)(ow:Array (Option Nat))(hs:Tp):Prop where
 sz:ow.size=m+1
 at_:∀(k:Nat) (h:Int),hs[k]? = some h->∃j n,ow[j]? = some (some k)/\(Er m h n).j=j/\∀d,d<n->∃q,ow[(Er m h d).j]? = some (some q)
 lt:∀(j k:Nat),ow[j]? = some (some k)->k<hs.length
 one:∀(j j' k:Nat),ow[j]? = some (some k)->ow[j']? = some (some k)->j=j'
end JS
namespace PL
open PySem PySem.Spec L2
open PyProof.Rows hiding St
variable {Fz:FZ}{ρ:au}{σ:St}{H:Hp}{i:Nat}
theorem Lb {K:Xc}{ks:List (List Key)}{ds:List PV}(R:Rel K Fz ρ σ H)(h:ρ[i]? = some (some (.dT ks ds,true))):∃a xs,σ[i]? = some (some (.ref a))/\H a=some (.dT (ks.zip xs))/\ks.length=xs.length/\aj K Fz H ds xs/\¬ Fz a:=by
 obtain⟨a,e,nf,xs,h1,h2,h3⟩:=R.own i _ h;exact⟨a,xs,e,h1,h2,h3,nf⟩
def tU (ks:List (List Key))(ds:List PV)(k:List Key)(d:PV):List PV:=(ks.zip ds).map λkv=>if kv.1=k then d else kv.2
theorem Ld {k:List Key}{v:V}:∀ {ks:List (List Key)}{xs:List V},(ks.zip xs).map (λkv=>if kv.1=k then(kv.1,v) else kv)=ks.zip ((ks.zip xs).map λkv=>if kv.1=k then v else kv.2)
 | [],_=>rfl
 | _::_,[]=>rfl
 | c::ks,x::xs=>by
  simp only[YB,Xz];rw[Ld];by_cases h:c=k<;>simp[h]
theorem Lf {K:Xc}(k:List Key){d:PV}{v:V}(hd:aq K Fz H d v):∀(ks:List (List Key))(ds:List PV)(xs:List V),aj K Fz H ds xs->aj K Fz H (tU ks ds k d) ((ks.zip xs).map λkv=>if kv.1=k then v else kv.2)
 | [],ds,xs,h=>by unfold tU;simp only[List.zip_nil_left,YL];exact aj.nil
 | c::ks,[],xs,h=>by
  simp only[aj]at h;subst h;unfold tU;simp only[List.zip_nil_right,YL];exact aj.nil
 | c::ks,e::ds,xs,h=>by
  simp only[aj]at h;obtain⟨x,r,rfl,h1,h2⟩:=h;have ih:=Lf k hd ks ds r h2;unfold tU at ih ⊢;simp only[YB,Xz];refine aj.cons ?_ ih;by_cases hc:c=k
  ·rw[Qf hc,Qf hc];exact hd
  ·rw[Qe hc,Qe hc];exact h1
theorem zqc {ks:List (List Key)}{xs:List V}{c:List Key}(h:ks.length=xs.length):((ks.zip xs).any λkv=>decide (kv.1=c))=gB ks c:=by
 unfold gB;induction ks generalizing xs with
 | nil=>rfl
 | cons k ks ih=>
  cases xs with
  | nil=>simp at h
  | cons x xs=>simp only[YB,List.any_cons,ih (by simpa using h)]
def zbz (i:Nat)(ti tv:aN):cN:=λρ O=>tv ρ λd k=>isOwn k=false/\∃ks ds,ρ[i]? = some (some (.dT ks ds,true))/\ks.length<Wi/\ti ρ λe _=>∃c:List Key,e=lJ c/\
 O.nx (ρ.set i (some (if gB ks c=true then .dT ks (tU ks ds c d) else .dT (ks++[c]) (ds++[d]),true)))
section
variable {X:Cx}{x:Str}{a b ei ev:Expr}{ta tb ti tv:aN}{p pos pos':Pos}
theorem zmp (i:Nat)(hu:X.A.units+1<WG)(hi:aD X ei ti)(hv:aD X ev tv)(hN:X.N[i]? = some x:=by rfl)(hvs:iZ X.env.scope x:=by first | exact Qo rfl | exact Qp (Qo rfl) | exact Qp (Qp rfl))(hd:(x == ("__debug__" : Str))=false:=by decide) (hcd:(x == ("__classdict__" : Str))=false:=by decide)
  (hs:WE ev (some (.Subscript (.Name x p) ei pos')) pos.line X.env=pure false:=by rfl):jR X (.Assign [.Subscript (.Name x p) ei pos'] ev pos) (zbz i ti tv) where
 mono ρ O O' m h:=hv.mono ρ _ _ (λd k ⟨hk,ks,ds,e1,e2,h⟩=>⟨hk,ks,ds,e1,e2,hi.mono ρ _ _ (λe _ ⟨c,q1,q⟩=>⟨c,q1,m.nx _ q⟩) h⟩) h
 run:=PS.weak (Ck hu (jn hN hvs hd hcd) hi.run hv.run hs) λD σ H h=>by
  obtain⟨ρ,Fz,R,h⟩:=h;refine⟨ρ,Fz,R,hv.mono ρ _ _ (λd k q v F1 H1 p1=>?_) h⟩;obtain⟨hk,ks,ds,e1,e2,q⟩:=q;obtain⟨F2,x2,s2,d2⟩:=p1.frozen (uQ hk);have R2:=R.ext x2;obtain⟨a,xs,hs,ha,_,hd,nf⟩:=Lb R2 e1;refine⟨_,hs,ρ,F2,R2,hi.mono ρ _ _ (λe ke q u F3 H3 p3=>?_) q⟩;obtain⟨c,rfl,q⟩:=q;have R3:=R2.ext p3.ext;obtain⟨a',xs',hs',ha',hl',hd',jF⟩:=Lb R3 e1;rw[hs]at hs';cases hs';obtain⟨bb,rfl,hbb⟩:=zQ (p3.root R2);refine⟨a,_,rfl,jA.t ha' hbb (by rw[QK];lia),?_⟩;have d3:=aq.mono (.of p3.ext.same) p3.ext.sub _ _ d2;have x3:=x2.trans p3.ext;have ow:Own X.K F3 (upd H3 a (.dT (putK (ks.zip xs') c v))) (if gB ks c=true then .dT ks (tU ks ds c d) else .dT (ks++[c]) (ds++[d])) a:=by
   unfold putK;rw[zqc hl'];by_cases hc:gB ks c=true
   ·rw[Qf hc,Qf hc,Ld];exact⟨_,bF,by simp[hl'],aj.mU ha' (λz=>z) jF (Lf c d3 ks ds xs' hd')⟩
   ·rw[Qe hc,Qe hc];refine⟨xs'++[v],?_,by simp[hl'],aj.mU ha' (λz=>z) jF (aj.snoc hd' d3)⟩;rw[bF,O3 hl'];rfl
  obtain⟨R4,s4,o4⟩:=R3.mut e1 hs ha' ow;exact q σ F3 _ ((Step.of x3).trans (bB.refl ρ σ H) s4) (bB.trans (Step.of x3) (bB.refl ρ σ H) o4) R4
end
section
variable {X:Cx}{z i:Nat}{ei ej ev e:Expr}{ti tj tv te:aN}{x y:Str}{p p1 p2 p3 apos cpos pos pos' lp:Pos}
def zcm (i z:Nat)(te:aN):dN:=λρ β O=>te (ρ.set z (some (β.pv,false))) λd k=>k=.new/\(∃ds,d=.lst ds/\zaN ds=true)/\O.nx (ρ.set i (some (d,false))) β
theorem zqd {pos':Pos}(hN:X.N.Nodup)(hi:X.N[i]? = some y)(hx:Loc X.env.scope y)(he:aD X e te)(hiz:i≠z:=by decide)(hs:WE e (some (.Name y pos')) pos.line X.env=pure false:=by rfl)(hf:X.fn y=true\/X.env.scope.names.lookup y=some .local:=by first | exact .inl rfl | exact .inr rfl | assumption) :
  jH X z (.Assign [.Name y pos'] e pos) (zcm i z te) where
 mono ρ β O O' m h:=he.mono _ _ _ (λd k ⟨e1,e2,q⟩=>⟨e1,e2,m.nx _ _ q⟩) h
 run:=PS.weak (ur hN hi hx he.run hs hf) λD σ H h=>by
  obtain⟨ρ,Fz,β,a,bs,R,h⟩:=h;refine⟨_,_,R.frozen,he.mono _ _ _ (λd k q v ao H' p=>?_) h⟩;obtain⟨rfl,⟨ds,rfl,nm⟩,q⟩:=q;obtain⟨px,l,rfl,hl0,hlf,xs,hlx,hds⟩:=p;have nl:¬ Fz l:=λw=>R.rel.al l w hl0;have x1:Ext Fz H Fz H':=⟨px.same,λ_ h=>h,λ_ h=>.inl h,λb hb y=>R.rel.al b hb (px.same.free y)⟩;have x2:Ext Fz H (λb=>Fz b\/b=l) H':=x1.add hl0 (by rw[hlx];exact λz=>nomatch z);have R2:=R.ext x2;have dn:aq X.K (λb=>Fz b\/b=l) H' (.lst ds) (.ref l):=by
   simp only[aq];exact⟨l,xs,rfl,.inl ⟨.inr rfl,.inl hlx⟩,tK ds xs nm hds⟩
  exact q (σ.set i (some (.ref l))) _ H' a bs (.of x2) OB.set (R2.set dn hiz)
end
def Lg:PV->Bool
 | .lst es=>zaN es
 | _=>false
section
variable {X:Cx}{elt tg iter:Expr}{sc:WX}{pos:Pos}{N:Tn}{k:Nat}{js:Tt}{ti:je}{g:jr}{te:aN}
theorem zqe (nd:js.Nodup)(hloc:jD k g)(B:jg X N sc tg [] elt g zcM te){ρ:au}{σ:St}{H H1:Hp}{aX:FZ}{o:Bool}{J:It}{its:List PV}{l:We}{Rr:Hp->Prop}(R1:Rel X.K aX ρ σ H1)(wk:Walk X.K aX o J its H1)(hl:H1 l=none)(hz:its.length<=Wi)(Pv:Nat->List PV->Prop)(h0:Pv 0 [])
  (hstep:∀i d out,its[i]? = some d->out.length=i->Pv i out->g d (blkP k js ρ) λρ2=>te ρ2 λe ke=>ke=.new/\Lg e=true/\Pv (i+1) (out++[e]))
  (hdone:∀out bs H',Ext aX H1 aX H'->mV X.K aX H' (.L out) l bs->(∀b∈l::bs,H1 b=none)->out.length=its.length->Pv its.length out->Rr H') :
  yX J (tL X.K g) (liftT X.K zcM) (lift X.K te) l (lu k js σ) H1 Rr:=by
 have mg:=(B.tgt 0 [] [] X.s₀ H).mono;have me:=(B.val 0 [] [] X.s₀ H).mono;have nf1:¬ aX l:=λz=>R1.al l z hl;have no1:¬ bK ρ σ l:=λ⟨i,d,h1,h2⟩=>by
  obtain⟨a,q1,_,q3⟩:=R1.own i d h1;rw[h2]at q1;cases q1;obtain⟨o',q4,_⟩:=q3.at;rw[hl]at q4;cases q4
 refine⟨λi m σ' H'=>m=its.length-i/\i<=its.length/\∃out bs,Rel X.K aX (blkP k js ρ) σ' H'/\(∀b,bK (blkP k js ρ) σ' b->bK ρ σ b)/\H' l=some (.lst (bs.map V.ref))/\aG X.K aX H' out bs/\(l::bs).Nodup/\(∀b∈l::bs,H1 b=none)/\out.length=i/\Pv i out/\Same H1 H',
  ⟨its.length,by lia,Ye _,[],[],?_,λb hb=>Js R1 hb,bF,by unfold aG;rfl,by simp,λb hb=>by rw[Xh.mp hb];exact hl,rfl,h0,(Same.refl H1).lG hl⟩,?_⟩
 ·have x0:Ext aX H1 aX (upd H1 l (.lst [])):=Ext.laid ⟨Same.refl _,λ_ h=>h,λ_ h=>.inl h,R1.al⟩ hl;exact(R1.block nd).ext x0
 rintro i m σ' H' ⟨rfl,hle,out,bs,Rb,ob,hlx,hout,hnd,hfr,hol,hP,sm⟩;obtain⟨qW,wstop⟩:=wk H' (.inl sm) i;by_cases hlt:i<its.length
 ·obtain⟨go,yl⟩:=qW its[i] (Xa hlt);refine .inr ⟨go,λxv H2 y=>?_⟩;obtain⟨iT,dn⟩:=yl xv H2 y;have x2:Ext aX H' aX H2:=⟨iT,λ_ h=>h,λ_ h=>.inl h,λb hb z=>Rb.al b hb (iT.free z)⟩;refine⟨blkP k js ρ,aX,its[i],Rb.ext x2,dn,mg _ _ _ _ (λρ2 ⟨q,l2,a2⟩ σ2 R2 o2=>?_) (hloc _ _ _ (hstep i its[i] out (Xa hlt) hol hP))⟩;have mQ:∀b,bK (blkP k js ρ) σ2 b->bK ρ σ b:=λb ⟨j,d,h1,h2⟩=>by
   refine ob b (o2 b ⟨j,d,?_,h2⟩);obtain⟨i',j',e,_⟩:=tM h1;rw[a2 j (by lia)];exact h1
  refine⟨ρ2,aX,R2,λF4 H4 x4=>?_⟩;have R4':Rel X.K F4 ρ2 σ2 H4:=R2.ext x4;have x4':Ext aX H2 aX H4:=⟨x4.same,λ_ h=>h,λ_ h=>.inl h,λb hb z=>R2.al b hb (x4.same.free z)⟩;have R4:Rel X.K aX ρ2 σ2 H4:=R2.ext x4';refine oX ⟨ρ2,aX,R4,me ρ2 _ _ (λe ke ⟨hk,hne,q⟩ v F5 H5 p5=>?_) q⟩;subst hk;obtain⟨px,b,rfl,hb0,hbf,ow⟩:=p5;cases e with
  | lst es=>
   obtain⟨ys,hbx,hys⟩:=ow;have sm5:Same H' H5:=iT.trans (x4.same.trans px.same);have hl5:H5 l=some (.lst (bs.map V.ref)):=sm5 _ _ hlx;have x5:Ext aX H4 aX H5:=⟨px.same,λ_ h=>h,λ_ h=>.inl h,λb hb z=>R4.al b hb (px.same.free z)⟩;have R5:Rel X.K aX ρ2 σ2 H5:=R4.ext x5;have Rb5:Rel X.K aX (blkP k js ρ) σ2 H5:=Rel.Dl R5 l2 a2;have no5:¬ bK (blkP k js ρ) σ2 l:=λz=>no1 (mQ l z);have rJ:H' b=none:=iT.free (x4.same.free hb0);have hb1:H1 b=none:=sm.free rJ;have rF:b≠l:=λe=>by rw[e,hlx]at rJ;cases rJ
   have hbm:b∉bs:=λe=>by
    obtain⟨o,eo,_⟩:=hout.has e;rw[rJ]at eo;cases eo
   have m8:=XI.mp hnd;have hle2:=hout.length;have kp:Keep aX H5 (upd H5 l (.lst (bs.map V.ref++[.ref b]))):=.mk' λc w e hw=>by
    have ne:c≠l:=λz=>by
     subst z;rcases hw with hw | hw
     ·exact nf1 hw
     ·rw[hl5]at e;cases e;exact hw
    rw[aO ne];exact e
   have owb:Own X.K aX (upd H5 l (.lst (bs.map V.ref++[.ref b]))) (.lst es) b:=⟨ys,by rw[aO rF];exact hbx,aj.mono kp (λ_ h=>h) _ _ (tK es ys hne hys)⟩;refine⟨bs.map V.ref,hl5,by rw[Xb];lia,its.length-(i+1),by lia,rfl,hlt,out++[.lst es],bs++[b],Rb5.other hl5 (λz=>z) nf1 no5,mQ,by rw[bF,Xp];rfl,?_,?_,λc hc=>?_,by rw[Xy];simp;lia,q,?_⟩
   ·refine aG.snoc owb (hout.mono (.mk' λc w e hw=>?_) (λ_ h=>h) λc hc w e=>?_)
    ·have ne:c≠l:=λz=>by
      subst z;rcases hw with hw | hw
      ·exact nf1 hw
      ·rw[hlx]at e;cases e;exact hw
     rw[aO ne];exact sm5 _ _ e
    ·have ne:c≠l:=λz=>m8.1 (by rw[<- z];exact hc);rw[aO ne];exact sm5 _ _ e
   ·rw[XI];refine⟨λhm=>?_,?_⟩
    ·rcases Xr.mp hm with hm | hm
     ·exact m8.1 hm
     ·exact rF (Xh.mp hm).symm
    ·rw[Yt];exact⟨m8.2,by simp,λc hc d hd e=>hbm (by rw[<- Xh.mp hd,<- e];exact hc)⟩
   ·rcases Xx.mp hc with rfl | hc
    ·exact hl
    ·rcases Xr.mp hc with hc | hc
     ·exact hfr c (Xi _ hc)
     ·rw[Xh.mp hc];exact hb1
   ·exact(sm.trans sm5).lG hl
  | _=>cases hne
 ·have e:i=its.length:=by lia
  subst e;refine .inl ⟨wstop (Xj _),hdone out bs H' ⟨sm,λ_ h=>h,λ_ h=>.inl h,Rb.al⟩ ⟨hlx,trivial,hout,hnd,λb hb w=>R1.al b w (hfr b hb)⟩ hfr hol hP⟩
def zcb (k:Nat)(js:Tt)(ti:je)(g:jr)(te:aN)(ρ:au)(O:List PV->Prop):Prop:=ti ρ λits _=>its.length<=Wi/\∃Pv:Nat->List PV->Prop,Pv 0 []/\
 (∀i d out,its[i]? = some d->out.length=i->Pv i out->g d (blkP k js ρ) λρ2=>te ρ2 λe ke=>ke=.new/\Lg e=true/\Pv (i+1) (out++[e]))/\∀out,out.length=its.length->Pv its.length out->O out
theorem zmq (nd:js.Nodup)(hloc:jD k g)(hi:lF X tg iter ti)(B:jg X N sc tg [] elt g zcM te){ρ:au}{σ:St}{H:Hp}{Fz:FZ}{Q:VK}(R:Rel X.K Fz ρ σ H){O:List PV->Prop}(h:zcb k js ti g te ρ O)
  (hO:∀es a bs ao H',O es->Ext Fz H ao H'->mV X.K ao H' (.L es) a bs->(∀b∈a::bs,H b=none)->Q (.ref a) H') :
  xJ k js (zE X.K ti) (tL X.K g) (liftT X.K zcM) (lift X.K te) σ H Q:=by
 refine⟨ρ,Fz,R,hi.mono ρ _ _ (λits o q J aX H1 x wk l hl=>?_) h⟩;obtain⟨hz,Pv,h0,hstep,hdone⟩:=q;refine zqe (H:=H) nd hloc B (R.ext x) wk hl hz Pv h0 hstep λout bs H' x' bx hf hol hP=>?_;exact hO out l bs aX H' (hdone out hol hP) (x.trans x') bx λb hb=>x.same.free (hf b hb)
end
abbrev yh:=List PV->(List PV->Prop)->Prop
def yj (K:Xc)(F:yh):Sp:=λvs H Q _=>∃Fz ds,(∀b,Fz b->H b≠none)/\aj K Fz H ds vs/\F ds λes=>∀a bs ao H',Ext Fz H ao H'->mV K ao H' (.L es) a bs->(∀b∈a::bs,H b=none)->Q (.ref a) H'
theorem Rel.away {K:Xc}{H':Hp}{S:Tr}(R:Rel K Fz ρ σ H)(k:∀c o,H c=some o->c∉S->H' c=some o)(th:∀c,H c≠none->H' c≠none)(h:∀c∈S,¬ Fz c/\¬ bK ρ σ c/\∃o,H c=some o/\¬ nQ o):Rel K Fz ρ σ H':=by
 have kp:Keep Fz H H':=.mk' λc o e w=>k c o e λhc=>by
  obtain⟨nf,_,o',e',ni⟩:=h c hc;rcases w with w | w
  ·exact nf w
  ·rw[e]at e';cases e';exact ni w
 refine⟨λb hb=>th b (R.al b hb),R.len,λi d e=>?_,λi d e=>?_,R.inj⟩
 ·obtain⟨v,q1,q2⟩:=R.aH i d e;exact⟨v,q1,aq.mono kp (λ_ h=>h) _ _ q2⟩
 ·obtain⟨a,q1,q2,q3⟩:=R.own i d e;exact⟨a,q1,q2,q3.mono kp (λ_ h=>h) λo eo=>k a o eo λhc=>(h a hc).2.1 ⟨i,d,e,q1⟩⟩
theorem Rel.forget {K:Xc}{σ':St}{z:Nat}(R:Rel K Fz ρ σ H)(hl:σ'.length=σ.length)(hs:∀j,j≠z->j≠i->σ'[j]? = σ[j]?):Rel K Fz ((ρ.set z none).set i none) σ' H:=by
 have ne:∀(j:Nat) (p:PV×Bool),((ρ.set z none).set i none)[j]? = some (some p)->j≠z/\j≠i/\ρ[j]? = some (some p):=λj p h=>by
  by_cases h1:i=j
  ·subst h1;by_cases hi:i<(ρ.set z none).length
   ·rw[Xm hi]at h;cases h
   ·rw[XG (by lia),XD (by lia)]at h;cases h
  ·rw[Xk h1]at h;by_cases h2:z=j
   ·subst h2;by_cases hi:z<ρ.length
    ·rw[Xm hi]at h;cases h
    ·rw[XG (by lia),XD (by lia)]at h;cases h
   ·rw[Xk h2]at h;exact⟨Qz h2,Qz h1,h⟩
 refine⟨R.al,by rw[Yb,Yb,hl];exact R.len,λj d e=>?_,λj d e=>?_,λj k d e a h1 h2 h3 h4=>?_⟩
 ·obtain⟨n1,n2,e⟩:=ne j _ e;rw[hs j n1 n2];exact R.aH j d e
 ·obtain⟨n1,n2,e⟩:=ne j _ e;rw[hs j n1 n2];exact R.own j d e
 ·obtain⟨n1,n2,e1⟩:=ne j _ h1;obtain⟨m1,m2,e2⟩:=ne k _ h2;rw[hs j n1 n2]at h3;rw[hs k m1 m2]at h4;exact R.inj j k d e a e1 e2 h3 h4
theorem zmr {σ':St}{z:Nat}(hs:∀j,j≠z->j≠i->σ'[j]? = σ[j]?):∀b,bK ((ρ.set z none).set i none) σ' b->bK ρ σ b:=λb ⟨j,d,h,g⟩=>by
 by_cases h1:i=j
 ·subst h1;by_cases hi:i<(ρ.set z none).length
  ·rw[Xm hi]at h;cases h
  ·rw[XG (by lia),XD (by lia)]at h;cases h
 ·rw[Xk h1]at h;by_cases h2:z=j
  ·subst h2;by_cases hi:z<ρ.length
   ·rw[Xm hi]at h;cases h
   ·rw[XG (by lia),XD (by lia)]at h;cases h
  ·rw[Xk h2]at h;rw[hs j (Qz h2) (Qz h1)]at g;exact⟨j,d,h,g⟩
section
variable {X:Cx}{k z i:Nat}{f:We}{fd:WA}{ps:Tn}{F:yh}{fx x y:Str}{e c:Expr}{es:List Expr}{ta:gO}{tc:cY}{rest:List WJ}{t:cN}{p0 p1 p2 p3 p4 p5 p6 p7 p8 p9 q0 q1 q2 q3 q4 q5 q6 q7 q8 q9:Pos}{j0 j1 j2:Nat}
def zcC (z i:Nat)(F:yh)(ta:gO)(tc:cY)(t:cN):cN:=λρ O=>z<ρ.length/\i<ρ.length/\ta ρ λops=>noOwn ops=true/\F (ops.map (·.1)) λls=>ls.length<Wi/\(∀l∈ls,∃ds,l=.lst ds/\ds.length<Wi)/\
 tc ((ρ.set z none).set z (some (.lst ls,false))) λb=>if b=true then O.rt (.bl false) .aH else dX t O ((ρ.set z none).set i none)
theorem zms (G:aJ X.prog X.w X.K X.mg X.base bO k f fd ps (yj X.K F))(mF:∀ds Q Q',(∀es,Q es->Q' es)->F ds Q->F ds Q')(hcalm:X.calm=true)(hr:cg k X.A)(hg:Gl X fx)(hm:X.mg fx=some (.ref f))(hk:PySem.W.keepIn X.K (.ref f)=true)(hb:Binds X.K fd ps [])(ha:iR X (e::es) ta)(hc:gq X c tc)(hrest:dF X rest t)
  (hN:X.N.Nodup) (hz:X.N[z]? = some x) (hlx:Loc X.env.scope x) (hi:X.N[i]? = some y) (hly:Loc X.env.scope y) (hzi:z≠i:=by decide)
  (hvx:iZ X.env.scope x:=by first | exact Qo rfl | exact Qp (Qo rfl) | exact Qp (Qp rfl)) (hvy:iZ X.env.scope y:=by first | exact Qo rfl | exact Qp (Qo rfl) | exact Qp (Qp rfl)) (hd:(x == ("__debug__" : Str))=false:=by decide) (hcd:(x == ("__classdict__" : Str))=false:=by decide) (hd2:(y == ("__debug__" : Str))=false:=by decide) (hcd2:(y == ("__classdict__" : Str))=false:=by decide) (hdf:(fx == ("__debug__" : Str))=false:=by decide)
  (he:Wf (e::es) X.env=(false,Wx e X.env)::Wf es X.env:=by rfl) (hpl:(Wu p1 (Wf es X.env)).any (·.1)=false:=by rfl)
  (hs1:WE (.Call (.Name fx p0) (e::es) [] p1) (some (.Name x p2)) p3.line X.env=pure false:=by rfl) (hf:X.fn x=true\/X.env.scope.names.lookup x=some .local:=by first | exact .inl rfl | exact .inr rfl | assumption) (hfy:X.fn y=true\/X.env.scope.names.lookup y=some .local:=by first | exact .inl rfl | exact .inr rfl | assumption)
  (hs3:WE (.Call (.Attribute (.Name y q0) "append" q1) [.Constant .none j1 q2] [] q3) none q4.line X.env=pure false:=by rfl) (gD:WE (.Call (.Attribute (.Name x q5) "append" q6) [.Constant .none j2 q7] [] q8) none p9.line X.env=pure false:=by rfl)
  (hby:WF (.Name y q0) "append" X.env (Wx (.Name y q0) X.env)=Wx (.Name y q0) X.env:=by rfl) (hbx:WF (.Name x q5) "append" X.env (Wx (.Name x q5) X.env)=Wx (.Name x q5) X.env:=by rfl)
  (hfw1:((Wu q3 (Wf [.Constant .none j1 q2] X.env)).all (λx=>!x.1)&&(W9 q3 (WP [] X.env)).all (λx=>x.1.isSome)&&decide ([Expr.Constant .none j1 q2].length+([]:List WL).length+(if ([]:List WL).isEmpty then 0 else 1)<30))=true:=by rfl)
  (hfw2:((Wu q8 (Wf [.Constant .none j2 q7] X.env)).all (λx=>!x.1)&&(W9 q8 (WP [] X.env)).all (λx=>x.1.isSome)&&decide ([Expr.Constant .none j2 q7].length+([]:List WL).length+(if ([]:List WL).isEmpty then 0 else 1)<30))=true:=by rfl)
  (hln1:(q1.endLine == q3.line)=true:=by rfl) (hln2:(q6.endLine == q8.line)=true:=by rfl) (hst1:Wf [.Constant .none j1 q2] X.env=(false,Wx (.Constant .none j1 q2) X.env)::Wf [] X.env:=by rfl) (hst2:Wf [.Constant .none j2 q7] X.env=(false,Wx (.Constant .none j2 q7) X.env)::Wf [] X.env:=by rfl)
  (hp1:(Wu q3 (Wf [] X.env)).any (·.1)=false:=by rfl) (hp2:(Wu q8 (Wf [] X.env)).any (·.1)=false:=by rfl) (hfs:∀v,WD (.Name x p7) X.env v=pure v:=by intro _;rfl) (hps:PassesOwn (Wm X.prog X.w) X.A X.env X.xe:=by exact Qs) :
  dF X (.Assign [.Name x p2] (.Call (.Name fx p0) (e::es) [] p1) p3::.If c [.Return (some (.Constant (.bool false) j0 p4)) p5] [] p6::.For (.Name y p8) (.Name x p7) [.Expr (.Call (.Attribute (.Name y q0) "append" q1) [.Constant .none j1 q2] [] q3) q4] [] q9::.Expr (.Call (.Attribute (.Name x q5) "append" q6) [.Constant .none j2 q7] [] q8) p9::rest) (zcC z i F ta tc t) where
 mono ρ O O' m h:=by
  refine⟨h.1,h.2.1,ha.mono ρ _ _ (λops ⟨hn,q⟩=>⟨hn,mF _ _ _ (λls ⟨z1,z2,q⟩=>⟨z1,z2,hc.mono _ _ _ (λb q=>?_) q⟩) q⟩) h.2.2⟩;cases b with
  | true=>rw[Qf rfl]at q ⊢;exact m.rt _ _ q
  | false=>rw[Qe Xw]at q ⊢;exact hrest.mono _ _ _ m q
 run:=dh.weak (nJ (ur hN hz hlx (GJ G hr hg hm hk hb .nil Hw ha.run hdf he hpl) hs1 hf) (nJ (Bh hc.run (wL (Bf Gs)) Bd) (nJ (yO hps hcalm (Gy (jn hz hvx hd hcd)) (yL hN hi hly hfy) (wL (yK (sS Qw Q6 Q7 vK (jn hi hvy hd2 hcd2) (nM Az mJ hst1) hby hfw1 hln1 hst1 hp1) hs3)) hfs) (nJ (yK (sS Qw Q6 Q7 vK (jn hz hvx hd hcd) (nM Az mJ hst2) hbx hfw2 hln2 hst2 hp2) gD) hrest.run)))) λD σ H h=>by
  obtain⟨ρ,Fz,R,rE,hil,h⟩:=h;refine⟨ρ,Fz,R,ha.mono ρ _ _ (λops q vs F1 H1 x1 o=>?_) h⟩;obtain⟨hn,q⟩:=q;show yj X.K F (vs++[]) H1 _ E0;rw[Ym];obtain⟨F2,x2,s2,h2⟩:=o.frozen x1 hn;refine⟨F2,ops.map (·.1),x2.al,h2,mF _ _ _ (λls q a bs F3 H3 x3 bx hfr=>?_) q⟩;obtain⟨hlz,hlb,q⟩:=q;have x13:Ext Fz H F3 H3:=x2.trans x3;have hzs:z<σ.length:=by rw[<- R.len];exact rE
  have his:i<σ.length:=by rw[<- R.len];exact hil
  have hfr0:∀b∈a::bs,H b=none:=λb hb=>x2.same.free (hfr b hb);have hno:∀b∈a::bs,¬ bK ρ σ b:=λb hb ⟨j,d,g1,g2⟩=>by
   obtain⟨a0,w1,_,w3⟩:=R.own j d g1;rw[g2]at w1;cases w1;obtain⟨o',w4,_⟩:=w3.at;rw[hfr0 b hb]at w4;cases w4
  have R3:=R.ext x13;have RB:bM X.K F3 (ρ.set z none) (.L ls) (σ.set z (some (.ref a))) H3 z a bs:=⟨R3.unset,Xm rE,Xm hzs,bx,λb hb w=>hno b hb (o9 b w)⟩;refine J6 hc RB q λb H4 q x4=>?_;have x14:Ext Fz H F3 H4:=x13.trans x4;cases b with
  | true=>
   rw[Qf rfl]at q;exact oX (q (.bl false) F3 H4 (Step.of x14) x14.al (by show aq _ _ _ _ _;simp only[aq]))
  | false=>
   rw[Qe Xw]at q;refine qP ?_;have rK:=RB.ext x4;have hat4:H4 a=some (.lst (bs.map V.ref)):=rK.box.at_;have m8:=XI.mp rK.box.nd;have own4:∀j b,bs[j]? = some b->∃xs,H4 b=some (.lst xs)/\xs.length<Wi:=λj b hb=>by
    have hjl:j<ls.length:=by
     have:=rK.box.own.length;have:ls.length=bs.length:=this;rw[this];exact(Xf.mp hb).1
    obtain⟨ds,ed,hdl⟩:=hlb _ (XY hjl);obtain⟨b',hb',ow⟩:=rK.box.own.get (show(BX.L ls).xZ[j]? = some (.lst ds) by show ls[j]? = _;rw[Xa hjl,ed]);rw[hb]at hb';cases hb';obtain⟨xs,g1,g2⟩:=ow;exact⟨xs,g1,by rw[<- g2.length];exact hdl⟩
   refine⟨_,rK.sz,a,rfl,⟨_,aR.of hat4⟩,Ue (xs:=bs.map V.ref) (λn σ' H'=>σ'.length=σ.length/\(∀j,j≠z->j≠i->σ'[j]? = σ[j]?)/\σ'[z]? = some (some (.ref a))/\(∀c o,H4 c=some o->c∉bs->H' c=some o)/\(∀j b,bs[j]? = some b->n<=j->H' b=H4 b)/\∀c,H4 c≠none->H' c≠none) ?_ ?_ ?_ ?_⟩
   ·exact⟨by rw[Yb],λj n1 n2=>by rw[Xk (Qz n1)],rK.sz,λ_ _ e _=>e,λ_ _ _ _=>rfl,λ_ e=>e⟩
   ·rintro n σ' H' - ⟨_,_,_,k1,_⟩;exact aR.of (k1 a _ hat4 m8.1)
   ·rintro n xv σ' H' hxv ⟨l1,l2,l3,k1,k2,k3⟩;rw[Xe]at hxv;cases hbn:bs[n]? with
    | none=>rw[hbn]at hxv;cases hxv
    | some b=>
     rw[hbn]at hxv;cases hxv;obtain⟨xs,g1,g2⟩:=own4 n b hbn;have g1':H' b=some (.lst xs):=by rw[k2 n b hbn (Xj _)];exact g1
     refine⟨_,Xm (by rw[l1];exact his),.inl ⟨rfl,xs,aR.of g1'⟩,b,xs,.non,rfl,rfl,g1',g2,by rw[Yb];exact l1,λj n1 n2=>by rw[Xk (Qz n2)];exact l2 j n1 n2,by rw[Xk (Qz hzi)];exact l3,λc o e hc=>?_,λj b' hb' hj=>?_,λc e=>?_⟩
     ·rw[aO (λw=>hc (by rw[w];exact Xl hbn))];exact k1 c o e hc
     ·have nb:b'≠b:=λw=>by
       subst w;have:=(List.getElem?_inj (Xf.mp hbn).1 m8.2).mp (hbn.trans hb'.symm);lia
      rw[aO nb];exact k2 j b' hb' (by lia)
     ·by_cases w:c=b
      ·subst w;rw[bF];exact λz=>nomatch z
      ·rw[aO w];exact k3 c e
   ·rintro σ' H' ⟨l1,l2,l3,k1,k2,k3⟩;have ha':H' a=some (.lst (bs.map V.ref)):=k1 a _ hat4 m8.1;have rF:ls.length=bs.length:=rK.box.own.length;refine⟨_,l3,.inl ⟨rfl,_,aR.of ha'⟩,a,bs.map V.ref,.non,rfl,rfl,ha',by rw[Xb];lia,?_⟩;have R4:Rel X.K F3 ρ σ H4:=R3.ext x4;have hS:∀c∈a::bs,¬ F3 c/\¬ bK ρ σ c/\∃o,H4 c=some o/\¬ nQ o:=λc hc=>⟨rK.box.nf c hc,hno c hc,rK.box.has hc⟩;have kk:∀c o,H4 c=some o->c∉a::bs->upd H' a (.lst (bs.map V.ref++[.non])) c=some o:=λc o e hc=>by
     rw[aO (λw=>hc (by rw[w];exact Xg ..))];exact k1 c o e λw=>hc (Xi _ w)
    have R5:=R4.away (H':=upd H' a (.lst (bs.map V.ref++[.non]))) kk (λc e=>by
     by_cases w:c=a
     ·subst w;rw[bF];exact λz=>nomatch z
     ·rw[aO w];exact k3 c e) hS
    have R6:=R5.forget (z:=z) (i:=i) (σ':=σ') l1 l2;have st:Step ρ σ Fz H F3 (upd H' a (.lst (bs.map V.ref++[.non]))):=by
     have s0:=Step.of (ρ:=ρ) (σ:=σ) x14;refine⟨s0.sub,s0.new,λb o e n=>kk b o (s0.keep b o e n) λhc=>?_⟩;rw[hfr0 b hc]at e;cases e
    have oi:bB ρ σ H ((ρ.set z none).set i none) σ':=λb hb=>.inl (zmr l2 b hb);exact⟨_,F3,R6,hrest.mono _ _ _ (uH st oi) q⟩
end
def Es (K:Xc)(z:Nat)(D:Ends)(O:We->Prop)(Fz:FZ)(H:Hp)(ρ':au)(β':BX):Prop:=
 ∀σ' ao H' a' bs',cR O Fz H ao H'->cI O H (OB ρ' σ' (a'::bs'))->bM K ao ρ' β' σ' H' z a' bs'->D.rt (.ref a') H'
def outR (W:au->BX->Prop):gA:={ nx:=W,rt:=λ_ _=>False,bk:=λ_ _=>False,ct:=λ_ _=>False }
theorem Lh {W W':au->BX->Prop}(h:∀ρ β,W ρ β->W' ρ β):(outR W).le (outR W'):=⟨h,λ_ _ q=>q,λ_ _ q=>q,λ_ _ q=>q⟩
def Li (K:Xc)(z:Nat)(t:dN):TS:=λD σ H=>∃ρ Fz β a bs,bM K Fz ρ β σ H z a bs/\t ρ β (outR (Es K z D (OB ρ σ (a::bs)) Fz H))
structure rM (X:Cx)(z:Nat)(st:List WJ)(t:dN):Prop where
 mono:∀ρ β O O',gA.le O O'->t ρ β O->t ρ β O'
 run:dh X st (Li X.K z t)
section
variable {X:Cx}{z:Nat}{st:WJ}{rest:List WJ}{t u:dN}{x:Str}{p pos:Pos}
theorem zqf (hN:X.N[z]? = some x:=by rfl)(hv:iZ X.env.scope x:=by first | exact Qo rfl | exact Qp (Qo rfl) | exact Qp (Qp rfl))(hd:(x == ("__debug__" : Str))=false:=by decide) (hcd:(x == ("__classdict__" : Str))=false:=by decide):rM X z [.Return (some (.Name x p)) pos] zbU where
 mono ρ β O O' m h:=m.nx _ _ h
 run:=dh.weak (wL (Bf (jn hN hv hd hcd))) λD σ H h=>by
  obtain⟨ρ,Fz,β,a,bs,R,h⟩:=h;exact⟨_,R.sz,h σ Fz H a bs (cR.stay R.rel) cI.refl R⟩
theorem Et (h1:jH X z st t)(h2:rM X z rest u):rM X z (st::rest) (zcR t u) where
 mono ρ β O O' m h:=h1.mono ρ β { O with nx:=λρ' β'=>u ρ' β' O } _ ⟨λρ' β' q=>h2.mono ρ' β' O O' m q,m.rt,m.bk,m.ct⟩ h
 run:=dh.weak (nJ h1.run h2.run) λD σ H h=>by
  obtain⟨ρ,Fz,β,a,bs,R,h⟩:=h;refine⟨ρ,Fz,β,a,bs,R,h1.mono ρ β { outR (Es X.K z D (OB ρ σ (a::bs)) Fz H)with nx:=λρ' β'=>u ρ' β' (outR (Es X.K z D (OB ρ σ (a::bs)) Fz H)) } _ ⟨λρ' β' q=>?_,λ_ _ q=>q.elim,λ_ _ q=>q.elim,λ_ _ q=>q.elim⟩ h⟩;intro σ' ao H' a' bs' s oi R';exact⟨ρ',ao,β',a',bs',R',h2.mono ρ' β' _ _ (Lh λρ2 β2 q2 σ2 F2 H2 a2 oA s2 o2 R2=>q2 σ2 F2 H2 a2 oA (s.trans oi s2) (cI.trans s oi o2) R2) q⟩
end
theorem aG.swap {K:Xc}{Fz:FZ}{H:Hp}{d:PV}{b:We}(hb:Own K Fz H d b):∀ {ds:List PV}{bs:Tr}{n:Nat},aG K Fz H ds bs->aG K Fz H (ds.set n d) (bs.set n b)
 | [],bs,n,h=>by unfold aG at h;subst h;show aG K Fz H [] [];unfold aG;rfl
 | d0::ds,bs,n,h=>by
  unfold aG at h;obtain⟨b0,r,rfl,h1,h⟩:=h;cases n with
  | zero=>rw[List.set_cons_zero,List.set_cons_zero];unfold aG;exact⟨b,r,rfl,hb,h⟩
  | succ n=>rw[List.set_cons_succ,List.set_cons_succ];unfold aG;exact⟨b0,_,rfl,h1,aG.swap hb h⟩
theorem Lj {b:We}:∀ {bs:Tr}{n:Nat},bs.Nodup->b∉bs->(bs.set n b).Nodup
 | [],n,_,_=>by simp
 | c::bs,0,h,hb=>by
  rw[List.set_cons_zero];exact XI.mpr ⟨λz=>hb (Xi _ z),(XI.mp h).2⟩
 | c::bs,n+1,h,hb=>by
  rw[List.set_cons_succ];refine XI.mpr ⟨λz=>?_,Lj (XI.mp h).2 λz=>hb (Xi _ z)⟩;rcases Ol z with z | z
  ·exact(XI.mp h).1 z
  ·exact hb (by rw[<- z];exact Xg)
def zja (z:Nat)(ti te:aN):dN:=λρ β O=>te (ρ.set z (some (β.pv,false))) λd k=>k=.new/\(∃es,d=.lst es/\zaN es=true)/\rdE z ti ρ β λdi=>∃(i:Int)(n:Nat)(ds:List PV),di=.int i/\β=.L ds/\jo ds.length i=some n/\O.nx ρ (.L (ds.set n d))
section
variable {X:Cx}{z:Nat}{ei ev:Expr}{ti te:aN}{x:Str}{p pos pos':Pos}
theorem Lk (hi:aD X ei ti)(hv:aD X ev te)(hN:X.N[z]? = some x:=by rfl)(hvs:iZ X.env.scope x:=by first | exact Qo rfl | exact Qp (Qo rfl) | exact Qp (Qp rfl))(hd:(x == ("__debug__" : Str))=false:=by decide) (hcd:(x == ("__classdict__" : Str))=false:=by decide)
  (hs:swapsWithSole [.Subscript (.Name x p) ei pos'] ev pos.line X.env=pure false:=by rfl) (hw:swappedStores [.Subscript (.Name x p) ei pos'] ev X.env=pure none:=by rfl)
  (h1:(WS [.Subscript (.Name x p) ei pos'] X.env).map (·.2)=[assign (.Subscript (.Name x p) ei pos') X.env]:=by rfl)
  (ha:∀v,assign (.Subscript (.Name x p) ei pos') X.env v=(do
   let ov <- WZ [v] (Wx (.Name x p) X.env);let iv <- WZ [v,ov] (Wx ei X.env)
   standAt pos'
   WZ [v,ov,iv] (setItem ov iv v)
   release [v,ov,iv] []):=by intro _;rfl):jH X z (.Assign [.Subscript (.Name x p) ei pos'] ev pos) (zja z ti te) where
 mono ρ β O O' m h:=hv.mono _ _ _ (λd k ⟨e1,e2,q⟩=>⟨e1,e2,hi.mono _ _ _ (λd k ⟨g1,g2,i,n,ds,q1,q2,q3,q⟩=>⟨g1,g2,i,n,ds,q1,q2,q3,m.nx _ _ q⟩) q⟩) h
 run:=PS.weak (Bo hv.run (Gw (jn hN hvs hd hcd) hi.run set_list ha) hs hw h1) λD σ H h=>by
  obtain⟨ρ,Fz,β,a,bs,R,h⟩:=h;refine⟨_,_,R.frozen,hv.mono _ _ _ (λd k q v ao H' p=>?_) h⟩;obtain⟨rfl,⟨es,rfl,nm⟩,q⟩:=q;obtain⟨px,l,rfl,hl0,hlf,xs,hlx,hds⟩:=p;have nl:¬ Fz l:=λw=>R.rel.al l w hl0;have x1:Ext Fz H Fz H':=⟨px.same,λ_ h=>h,λ_ h=>.inl h,λb hb y=>R.rel.al b hb (px.same.free y)⟩;have R1:=R.ext x1;have ow1:Own X.K Fz H' (.lst es) l:=⟨xs,hlx,tK es xs nm hds⟩;refine⟨_,R1.sz,uT hi R1 q λdi iv H2 q nm2 x2 dv=>?_⟩;obtain⟨i,n,ds,rfl,rfl,q3,q⟩:=q;have R2:=R1.ext x2;have hiv:iv=.int i:=by simpa only[aq]using dv
  subst hiv;have hlen:=R2.box.own.length;have hln:∀b∈a::bs,b≠l:=λb hb e=>by
   obtain⟨o,eo,_⟩:=R.box.has hb;rw[e,hl0]at eo;cases eo
  have m8:=XI.mp R2.box.nd;have hno:¬ bK ρ σ l:=λ⟨j,d,g1,g2⟩=>by
   obtain⟨c,q1,_,q5⟩:=R.rel.own j d g1;rw[g2]at q1;cases q1;obtain⟨o',q4,_⟩:=q5.at;rw[hl0]at q4;cases q4
  have hix:jo (bs.map V.ref).length i=some n:=by rw[Xb,<- hlen];exact q3
  have hat:H2 a=some (.lst (bs.map V.ref)):=R2.box.at_;refine⟨a,_,i,n,rfl,rfl,hat,hix,?_⟩;have nea:l≠a:=λe=>hln a Xg e.symm;have ow2:=ow1.mono (Keep.of x2.same) (λ_ h=>h) (λo e=>x2.same _ _ e);have hnfa:¬ Fz a:=R2.box.nf a Xg;have kp:Keep Fz H2 (upd H2 a (.lst ((bs.map V.ref).set n (.ref l)))):=.mk' λc w e hw=>by
   have ne:c≠a:=λy=>by
    subst y;rcases hw with hw | hw
    ·exact hnfa hw
    ·rw[hat]at e;cases e;exact hw
   rw[aO ne];exact e
  have mem2:∀b∈a::bs.set n l,b∈a::bs\/b=l:=λb hb=>by
   rcases Xx.mp hb with rfl | hb
   ·exact .inl Xg
   ·rcases Ol hb with hb | hb
    ·exact .inl (Xi _ hb)
    ·exact .inr hb
  have R3:bM X.K Fz ρ (.L (ds.set n (.lst es))) σ (upd H2 a (.lst ((bs.map V.ref).set n (.ref l)))) z a (bs.set n l):=by
   refine⟨R2.rel.other hat (λy=>y) hnfa (R2.no a Xg),R2.hz,R2.sz,⟨?_,trivial,?_,?_,λb hb=>?_⟩,λb hb=>?_⟩
   ·rw[bF];show _=some (HO.lst ((bs.set n l).map V.ref));rw[List.map_set]
   ·have ow3:=ow2.mono kp (λ_ h=>h) (λo e=>by rw[aO nea];exact e);have owl:aG X.K Fz (upd H2 a (.lst ((bs.map V.ref).set n (.ref l)))) ds bs:=aG.mono kp (λ_ h=>h) (λc hc w e=>by rw[aO λy=>m8.1 (by rw[<- y];exact hc)];exact e) R2.box.own;exact aG.swap ow3 owl
   ·refine XI.mpr ⟨λy=>?_,Lj m8.2 λy=>hln l (Xi _ y) rfl⟩;rcases Ol y with y | y
    ·exact m8.1 y
    ·exact nea y.symm
   ·rcases mem2 b hb with hb | rfl
    ·exact R2.box.nf b hb
    ·exact nl
   ·rcases mem2 b hb with hb | rfl
    ·exact R2.no b hb
    ·exact hno
  have s3:cR (OB ρ σ (a::bs)) Fz H2 Fz (upd H2 a (.lst ((bs.map V.ref).set n (.ref l)))):=⟨λ_ h=>h,λ_ h=>.inl h,λc w e n=>by
   rw[aO λy=>n (.inr (by rw[y];exact Xg))];exact e⟩
  refine q σ Fz _ a (bs.set n l) ((cR.of (x1.trans x2)).trans cI.refl s3) (λb hb=>?_) R3;rcases hb with hb | hb
  ·exact .inl (.inl hb)
  ·rcases mem2 b hb with hb | rfl
   ·exact .inl (.inr hb)
   ·exact .inr hl0
end
def zvW (K:Xc)(z k:Nat)(js:Tt)(ti:je)(g:jr)(te:aN)(t:dN):TS:=λD σ H=>∃ρ Fz,Rel K Fz ρ σ H/\(∀b,¬ bK ρ σ b)/\z<ρ.length/\zcb k js ti g te ρ λes=>lH t (outR λ_ β'=>∀ao H' a' bs',Ext Fz H ao H'->mV K ao H' β' a' bs'->(∀b∈a'::bs',H b=none)->D.rt (.ref a') H') (ρ.set z none) (.L es)
section
variable {X:Cx}{elt tg iter:Expr}{sc:WX}{pos pos2 pq:Pos}{N:Tn}{k z:Nat}{js:Tt}{ti:je}{g:jr}{te:aN}{t:dN}{x:Str}{rest:List WJ}
theorem zqg (hc:X.calm=true)(S:ql X N k js sc)(nd:js.Nodup)(hloc:jD k g)(hi:lF X tg iter ti)(B:jg X N sc tg [] elt g zcM te)(hN:X.N.Nodup)(hx:X.N[z]? = some x)(hk:X.env.scope.names.lookup x=some .local)(hr:rM X z rest t)
  (hsw:WE (.ListComp elt [⟨tg,iter,[],0⟩] sc pos) (some (.Name x pq)) pos2.line X.env=pure true:=by rfl) (hs:∀x,WD iter X.env x=pure x:=by intro _;rfl) :
  dh X (.Assign [.Name x pq] (.ListComp elt [⟨tg,iter,[],0⟩] sc pos) pos2::rest) (zvW X.K z k js ti g te t):=dh.weak (nJ (Cu hc S hi.run B.blk hN hx hk hsw hs) hr.run) λD σ H h=>by
 obtain⟨ρ,Fz,R,no,rE,h⟩:=h;show xJ k js (zE X.K ti) (tL X.K g) (liftT X.K zcM) (lift X.K te) σ H λv H'=>Li X.K z t D (σ.set z (some v)) H';refine zmq nd hloc hi B R h λes a bs ao H' q x bx fr=>?_;have hzN:z<σ.length:=by rw[<- R.len];exact rE
 have Rb:bM X.K ao (ρ.set z none) (.L es) (σ.set z (some (.ref a))) H' z a bs:=
  ⟨(R.ext x).unset,Xm (by rw[R.len];exact hzN),Xm hzN,bx,λb _ w=>no b (o9 b w)⟩
 refine⟨_,ao,_,a,bs,Rb,hr.mono _ _ _ _ (Lh λρ2 β2 q σ2 F2 H2 a2 oA s o R2=>?_) q⟩;have oi:cI (bK ρ σ) H (OB (ρ.set z none) (σ.set z (some (.ref a))) (a::bs)):=λb hb=>by
  rcases hb with hb | hb
  ·exact .inl (o9 b hb)
  ·exact .inr (fr b hb)
 have s1:=(cR.of (O:=bK ρ σ) x).trans oi s;have o1:=cI.trans (cR.of (O:=bK ρ σ) x) oi o;refine q F2 H2 a2 oA ⟨λb u e=>s1.keep b u e (no b),s1.sub,λb hb=>?_,R2.rel.al⟩ R2.box λb hb=>?_
 ·rcases s1.new b hb with y | y | y
  ·exact .inl y
  ·exact .inr y
  ·exact(no b y).elim
 ·exact(o1 b (.inr hb)).elim (λy=>(no b y).elim) id
end
theorem aJ.unboxed {P:Wo}{w:Ws}{K:Xc}{mg:Tj}{base:Heap}{k:Nat}{f:We}{fd:WA}{ps:Tn}{F:yh}(mF:∀ds Q Q',(∀es,Q es->Q' es)->F ds Q->F ds Q')(G:aJ P w K mg base bO k f fd ps (yj K F)):aJ P w K mg base bO k f fd ps (bR K λds Q=>F ds λes=>Q (.lst es) .new):=G.imp λvs H Q E h=>by
 obtain⟨Fz,ds,al,hd,h⟩:=h;refine⟨Fz,ds,al,hd,mF _ _ _ (λes q a bs ao H' x bx fr=>?_) h⟩;refine q (.ref a) (λb=>ao b\/b∈bs) H' ⟨⟨x.same,λb hb=>.inl (x.sub b hb),λb hb=>?_,λb hb=>?_⟩,?_⟩
 ·rcases hb with hb | hb
  ·exact x.new b hb
  ·exact .inr (fr b (Xi _ hb))
 ·rcases hb with hb | hb
  ·exact x.al b hb
  ·obtain⟨o,e,_⟩:=bx.own.has hb;rw[e];exact λz=>nomatch z
 ·have m8:=XI.mp bx.nd;refine⟨a,rfl,fr a Xg,λy=>?_,bs.map V.ref,bx.at_,aG.den (aG.mono (.of (Same.refl H')) (λ_ h=>.inl h) (λ_ _ _ e=>e) bx.own) λb hb=>.inr hb⟩;rcases y with y | y
  ·exact bx.nf a Xg y
  ·exact m8.1 y
theorem cu {k:Nat}{A:Wv}(h:cg k A):A.units+16<WG:=by have q:=h.units;lia
theorem fsc {N P:Tn}{sc:WX}(h1:sc.kind=.function:=by rfl)(h2:sc.isCoroutine=false:=by rfl)(h3:sc.isGenerator=false:=by rfl)(h4:N.Nodup:=by decide +kernel)(h5:N.take P.length=P:=by rfl)(h6:∀x∈P,sc.names.lookup x=some .local\/sc.names.lookup x=some .cell:=by decide +kernel)(h7:∀y∈sc.names,y.2≠.free:=by decide +kernel):fO N P sc:=⟨h1,h2,h3,h4,h5,h6,h7⟩
end PL
namespace L2
open PySem PySem.Spec PySem.W
open PyProof.Rows hiding St
def pH (K:Xc)(a:We)(n:Nat):It:=⟨λi H=>i<n/\∃xs x,aR K H a xs/\xs.length=n/\xs[n-1-i]? = some x,λi H x H'=>H'=H/\∀xs,aR K H a xs->xs[n-1-i]? = some x,λi _=>n<=i⟩
def tV (n i:Nat):Int:=if i<n then((n-1-i:Nat):Int) else -1
theorem zqh {P:Wo}{w:Ws}{K:Xc}{tg:Expr}(a it:We)(n:Nat):Turn P w K tg (pH K a n) [it] it (λi h=>h.IsRevIter it a (tV n i)) where
 mem:=by simp
 obj:=λi h st b hb=>by
  have e:b=it:=by simpa using hb
  subst e;obtain⟨o,e,c,d⟩:=st;exact⟨o,e,λv z=>by rw[d]at z;cases z⟩
 keep:=λi h h' st k=>st.at λo e=>k it (by simp) o e
 item:=by
  intro X hP hw hK hc i pins s σ H E I hf st hg;subst hP hw hK;obtain⟨hi,xs,x,hq,hl,hx⟩:=hg;obtain⟨its,rv,p,hz⟩:=I.list hq;obtain⟨u,hu,ru⟩:=rv.get hx;obtain⟨f0,f1,f2,f3,f4,f5⟩:=hf it (by simp);have e0:tV n i=((n-1-i:Nat):Int):=Qf hi;rw[e0]at st;refine wpAny_pyNext_rev_item st p.isList (x:=u) (by simpa using hu) λh' st' sb=>?_;have e1:((n-1-i:Nat):Int)-1=tV n (i+1):=by
   unfold tV;split<;>lia
  rw[e1]at st';have I1:Inv X pins σ H { s with heap:=h' }:=I.turned (t':=s.toks) (λb o hb e=>(sb.2 b hb).trans e) f0 f1 f3 f4 f5;obtain⟨o,e,c,d⟩:=id st';exact⟨u,rfl,wN (s:={ s with heap:=h' }) e c d (by decide) ⟨x,H,I1,ru,⟨rfl,λys hy=>by rw[I.vG hy hq];exact hx⟩,st',λb hb=>(hf b hb).1⟩⟩
 done:=by
  intro X hP hw hK hc i pins s σ H E I hf st hg;subst hP hw hK;have hi:n<=i:=hg;obtain⟨f0,f1,f2,f3,f4,f5⟩:=hf it (by simp);have e0:tV n i = -1:=Qe (by lia);rw[e0]at st;exact wpAny_pyNext_rev_end (I.ok.hd hc) st λh' eb=>⟨rfl,I.turned (t':=s.toks) (λb o hb e=>eb b o hb e) f0 f1 f3 f4 f5⟩
 self:=λ_ _ _ _ _ st h=>wpAny_pyIter_revIter st h
theorem zgH:Wt "reversed" = some (.type "reversed"):=by decide +kernel
section
variable {X:Cx}{tg e:Expr}{te:TE}{p pos:Pos}
theorem zuY (hg:Gl X "reversed") (hm:X.mg "reversed" = none) (he:PE X e te) (hs1:Wf [e] X.env=(false,Wx e X.env)::Wf [] X.env:=by rfl) (jG:(Wu pos (Wf [] X.env)).any (·.1)=false:=by rfl) :
  PI X tg (.Call (.Name "reversed" p) [e] [] pos) (λσ H R=>te σ H λx H1=>∃a xs,x=.ref a/\aR X.K H1 a xs/\R (pH X.K a xs.length) H1):=by
 intro pins s σ H R I h;refine WM (qL I hg hm zgH ?_ (by decide) (by decide));refine QJ ?_ hs1 jG;rw[hs1];show Wj _ _ (spliced ((false,Wx _ X.env)::Wu pos (Wf [] X.env))) _ _ s;refine QB (aM (he pins s σ H _ I h) λu s1 ⟨x,H1,I1,r1,a,xs,ex,hq,q⟩=>QH ?_);subst ex;obtain rfl:u=Qq a:=r1;obtain⟨its,r,pl,hz⟩:=I1.list hq;have hl:=r.length;refine call_reversed_list pl.isList ?_;have hit:(s1.heap.push (revObj a ((its.toArray.size:Int)-1))).IsRevIter s1.heap.objs.size a (tV xs.length 0):=by
  have e:((its.toArray.size:Int)-1)=tV xs.length 0:=by
   unfold tV;rw[Xo];split<;>lia
  rw[e];exact⟨_,XA _ rfl,rfl,rfl⟩
 refine wpAny_pyIter_revIter (s:={ s1 with heap:=s1.heap.push (revObj a ((its.toArray.size:Int)-1)) }) hit ?_;refine⟨s1.heap.objs.size,[s1.heap.objs.size],_,_,H1,rfl,I1.kept (t':=s1.toks) λb o e=>Xn _ e,zqh a _ xs.length,hit,λb hb=>?_,q⟩;have hb':b=s1.heap.objs.size:=by simpa using hb
 subst hb';exact I1.jb (Xj _) (I1.hok.fresh (Xj _))
end
end L2
namespace PL
open PySem PySem.Spec L2
open PyProof.Rows hiding St
def zdH (te:aN):je:=λρ Q=>te ρ λd k=>∃ds,d=.lst ds/\Q ds.reverse (isOwn k)
section
variable {X:Cx}{tg e:Expr}{te:aN}{p pos:Pos}
theorem zsL (hg:Gl X "reversed") (hm:X.mg "reversed" = none) (he:aD X e te) (hs1:Wf [e] X.env=(false,Wx e X.env)::Wf [] X.env:=by rfl) (jG:(Wu pos (Wf [] X.env)).any (·.1)=false:=by rfl) :
  lF X tg (.Call (.Name "reversed" p) [e] [] pos) (zdH te) where
 mono ρ Q Q' m h:=he.mono ρ _ _ (λd k ⟨ds,e,q⟩=>⟨ds,e,m _ _ q⟩) h
 run:=PI.weak (zuY hg hm he.run hs1 jG) λσ H Rr h=>by
  obtain⟨ρ,Fz,R,h⟩:=h;refine⟨ρ,Fz,R,he.mono ρ _ _ (λd k q v ao H' p=>?_) h⟩;obtain⟨ds,e,q⟩:=q;subst e;have rt:=p.root R;obtain⟨a,xs,rfl,h1,h2⟩:=dB rt;refine⟨a,xs,rfl,h1,?_⟩;have hxl:=h2.length;have one:∀(F2:FZ) (H2:Hp) (zs:List V),aR X.K H2 a zs->aj X.K F2 H2 ds zs->∀i:Nat,(∀d,ds.reverse[i]? = some d->(pH X.K a xs.length).go i H2/\∀x H3,(pH X.K a xs.length).sI i H2 x H3->Same H2 H3/\aq X.K F2 H3 d x)/\(ds.reverse.length<=i->(pH X.K a xs.length).stop i H2):=λF2 H2 zs g1 g3 i=>by
   have hl:=g3.length;refine⟨λd hd=>?_,λhi=>by rw[Pq]at hi;show xs.length<=i;lia⟩;have hi:i<ds.length:=by have:=(Xf.mp hd).1;rw[Pq]at this;exact this
   rw[List.getElem?_reverse hi]at hd;obtain⟨v,q1,q2⟩:=g3.get hd;rw[hxl]at q1;refine⟨⟨by lia,zs,v,g1,by lia,q1⟩,λy H3 ⟨e3,gy⟩=>?_⟩;subst e3;have exy:=gy zs g1;rw[q1]at exy;cases exy;exact⟨Same.refl _,q2⟩
  cases k with
  | own i=>
   refine q _ ao H' p.ext λH2 hH=>?_;rcases hH with hH | ⟨z,_⟩
   ·exact one ao H2 xs (hH.seq h1) (aj.mono (.of hH) (λ_ h=>h) _ _ h2)
   ·cases z
  | aH=>
   have pd:aq X.K ao H' (.lst ds) (.ref a):=p.gm;simp only[aq]at pd;obtain⟨a',xs',e,h3,h4⟩:=pd;cases e;refine q _ ao H' p.ext λH2 hH=>?_;have kp:Keep ao H' H2:=hH.elim (λz=>.of z) (λz=>.mk' z.2);exact one ao H2 xs' (h3.elim (λh=>.inl (kp.rd trivial h.1 h.2)) KX.sq) (aj.mono kp (λ_ h=>h) _ _ h4)
  | new=>
   obtain⟨b,e,hn,nf,o⟩:=p.gm;cases e;obtain⟨xs',o1,o2⟩:=o;refine q _ (λb=>ao b\/b=a) H' (p.ext.add hn (by rw[o1];exact λz=>nomatch z)) λH2 hH=>?_;have kp:Keep (λb=>ao b\/b=a) H' H2:=hH.elim (λz=>.of z) (λz=>.mk' z.2);exact one _ H2 xs' (.inl (kp.rd trivial (.inr rfl) (.inl o1))) (aj.mono kp (λ_ h=>h) _ _ (aj.mono (Keep.of (Same.refl _)) (λ_ h=>.inl h) _ _ o2))
end
section
variable {X:Cx}{x:Str}{p apos cpos:Pos}
theorem zsM (i:Nat)(hN:X.N[i]? = some x:=by rfl)(hv:iZ X.env.scope x:=by first | exact Qo rfl | exact Qp (Qo rfl) | exact Qp (Qp rfl))(hd:(x == ("__debug__" : Str))=false:=by decide) (hcd:(x == ("__classdict__" : Str))=false:=by decide)
  (hbase:WF (.Name x p) "pop" X.env (Wx (.Name x p) X.env)=Wx (.Name x p) X.env:=by rfl) (hline:(apos.endLine == cpos.line)=true:=by rfl):rm X (.Call (.Attribute (.Name x p) "pop" apos) [] [] cpos) (mPop i) where
 mono ρ Q Q' m h:=by
  obtain⟨ds,d,e1,e2,h⟩:=h;exact⟨ds,d,e1,e2,m _ _ h⟩
 run:=PE.weak (Hg Qw PySem.F.slot_list_pop PySem.F.type_list_pop V5 (jn hN hv hd hcd) hbase hline) λσ H Q h=>by
  obtain⟨ρ,Fz,R,ds,d,e1,e2,q⟩:=h;obtain⟨a,xs,hs,ha,hd,nf⟩:=mR R e1;have hl:=hd.length;obtain⟨y,y1,y2⟩:=hd.get e2;refine⟨_,hs,.inl ⟨rfl,xs,aR.of ha⟩,a,xs,y,rfl,rfl,ha,by rw[<- hl];exact y1,?_⟩;have hdl:aj X.K Fz H ds.dropLast xs.dropLast:=by
   rw[List.dropLast_eq_take,List.dropLast_eq_take,<- hl];exact hd.take _
  have ow:Own X.K Fz (upd H a (.lst xs.dropLast)) (.lst ds.dropLast) a:=⟨_,bF,(aj.qt ha nf hdl)⟩;obtain⟨R3,s3,o3⟩:=R.mut e1 hs ha ow;refine q y Fz _ s3 o3 R3 ?_;have:=aj.qt (o:=.lst xs.dropLast) ha nf (aj.cons y2 aj.nil);simp only[aj]at this;obtain⟨v',r',e',g1,_⟩:=this;cases e';exact g1
end
abbrev zwe:=List PV->(Tn->List PV->Prop)->Prop
end PL
namespace L2
open PySem PySem.Spec PL
open PyProof.Rows hiding St
variable {k:Int×Tp}
abbrev kP (k:Int×Tp):Key×List Key:=(.inl k.1,k.2.map .inl)
theorem Ln {l:Int×Tp}(h:kP k=kP l):k=l:=by
 have h1:(Pr k.1:Key)=.inl l.1:=congrArg Prod.fst h;have h2:k.2.map (Pr:Int->Key)=l.2.map .inl:=congrArg Prod.snd h;exact Prod.ext (Sum.inl.inj h1) ((List.map_inj_right λa b z=>Sum.inl.inj z).mp h2)
theorem zuZ (l:Tp):(l.map (Pr:Int->Key)).map kV=l.map V.int:=by rw[Yk];rfl
section
variable {P:Wo}{w:Ws}{H:Hp}{h:Heap}{a:We}
theorem Eu (ok:cV P w H h)(e:PL.PK H k a):(xN (eN P w)).is h (kP k) a:=by
 obtain⟨b,h1,h2⟩:=e;obtain⟨_,its,r,o,g1,g2,⟨n,g3⟩,_⟩:=(show dg P w H h a (.tup [.int k.1,.ref b]) from ok a _ h1);cases r with
 | cons r1 r'=>
 cases r' with
 | cons r2 r3=>
 cases r3
 rename_i v v2
 obtain⟨t,rfl⟩:∃t,v=Oo k.1 t:=r1;obtain rfl:v2=Qq b:=r2;refine⟨o,_,n,_,b,g1,g2,g3,rfl,Gj P w k.1 t,?_⟩;exact vL (ks:=k.2.map .inl) ok (by rw[zuZ];exact h2)
theorem Lp (k:Int×Tp):(xN (eN P w)).hash (kP k)=zc k:=by
 show Vk _=Vk _;unfold W1;show Vk (Qv [hashInt k.1,Vk (Qv ((k.2.map Pr).map (wF w)))])=_;rw[Yk];rfl
def oG (ks:List (Int×Tp))(cs:Tr):List ((Key×List Key)×We×Wb):=(ks.zip cs).map λx=>(kP x.1,x.2,.bool true)
theorem Lq {ks:List (Int×Tp)}{cs:Tr}(ok:cV P w H h)(e:Rd H a (j7 a ks cs))(pk:∀x∈ks.zip cs,PL.PK H x.1 x.2):ks.length<=Wi/\(a == WH)=false/\cs.length=ks.length/\ks.Nodup/\h.DictOfH (xN (eN P w)) a (oG ks cs):=by
 obtain⟨⟨z,y,hl,nd,o,es,ep,h1,h2,h3,h4⟩,_⟩:=(show dg P w H h a (j7 a ks cs) from Ci ok e);refine⟨z,y,hl,nd,o,es,ep,h1,h2,h3,?_,λx hx=>?_,?_⟩
 ·rw[h4];unfold oG;rw[Yk];exact Yg λx _=>by show(⟨zc x.1,.ref x.2,.bool true⟩:DictEntry)=⟨(xN (eN P w)).hash (kP x.1),.ref x.2,.bool true⟩;rw[Lp]
 ·obtain⟨q,hq,rfl⟩:=Xv.mp hx;exact Eu ok (pk q hq)
 ·unfold oG;rw[Yk,show((λx:(Key×List Key)×We×Wb=>x.1) ∘ λx:(Int×Tp)×We=>(kP x.1,x.2,Value.bool true))=(λk=>kP k) ∘ Prod.fst from rfl,<- Yk,List.map_fst_zip (by lia)];exact List.pairwise_map.mpr (nd.imp λn e=>n (Ln e))
theorem Lr {ks:List (Int×Tp)}{cs:Tr}(hl:cs.length=ks.length):(atKey (oG ks cs) (kP k)).isSome=decide (k∈ks):=by
 induction ks generalizing cs with
 | nil=>rfl
 | cons c ks ih=>
  cases cs with
  | nil=>simp at hl
  | cons b cs=>
   have ih:=ih (cs:=cs) (by simpa using hl);unfold atKey oG at ih ⊢;rw[YB,Xz,Yq];by_cases z:c=k
   ·subst z;simp
   ·rw[show decide (kP c=kP k)=false from Qc λy=>z (Ln y)];simp only;rw[ih];exact decide_eq_decide.mpr ⟨λy=>Xi _ y,λy=>(Xx.mp y).resolve_left λx=>z x.symm⟩
end
section
variable {X:Cx}{pins:Tg}{σ:St}{H:Hp}{s:Wd}{a b:We}{ks:List (Int×Tp)}{cs:Tr}{k:Int×Tp}{A:Wv}{E:Ti}
theorem zvX {Q:Ti}(hu:A.units+9<WG)(I:Inv X pins σ H s)(e:Rd H a (j7 a ks cs))(pk:∀x∈ks.zip cs,PL.PK H x.1 x.2)(eb:PL.PK H k b)(h:∀s',Inv X pins σ H s'->Q (.bool (decide (k∈ks))) s') :
  Wj (Wm X.prog X.w) A (WU .In (.ref b) (.ref a)) Q E s:=by
 obtain⟨z,hd,hl,nd,dd⟩:=Lq I.hok e pk;refine wpAny_in_heap (show A.units+1+8<WG by lia) (Eu I.hok eb) hd dd ?_;rw[Lr hl];exact h _ (I.tok _)
def cP (ks:List (Int×Tp))(k:Int×Tp):List (Int×Tp):=if k∈ks then ks else ks++[k]
theorem zvc {Q:Unit->Wd->Prop}(hu:A.units+9<WG)(I:Inv X pins σ H s)(e:H a=some (j7 a ks cs))(pk:∀x∈ks.zip cs,PL.PK H x.1 x.2)(eb:PL.PK H k b)(l:ks.length<Wi)
  (h:∀s' cs',(∀x∈(cP ks k).zip cs',PL.PK H x.1 x.2)->Inv X pins σ (upd H a (j7 a (cP ks k) cs')) s'->Q () s') :
  Wj (Wm X.prog X.w) A (setItem (.ref a) (.ref b) (.bool true)) Q E s:=by
 obtain⟨z,hd,hl,nd,dd⟩:=Lq I.hok (.inl e) pk;have hz:(oG ks cs).length<=Wi:=by unfold oG;rw[Xb,QK];lia
 refine wpAny_setItem_heap (hsz:=hz) (show A.units+1+8<WG by lia) (Eu I.hok eb) dd λh' sU hs=>?_;obtain⟨q,es,ep,hq,h2,h3,h4,_,h5⟩:=sU;obtain⟨cs',hl',hst,hpk,hnd⟩:∃cs',cs'.length=(cP ks k).length/\storedH (oG ks cs) (kP k) b (.bool true)=oG (cP ks k) cs'/\(∀x∈(cP ks k).zip cs',PL.PK H x.1 x.2)/\(cP ks k).Nodup:=by
  unfold storedH cP;rw[Lr hl];by_cases y:k∈ks
  ·rw[Qf y,Qf (Qd y)];refine⟨cs,hl,?_,pk,nd⟩;unfold oG;rw[Yk];refine Yg λx _=>?_;show putAt (kP k) (.bool true) (kP x.1,x.2,.bool true)=_;unfold putAt;split<;>rfl
  ·rw[Qe y,Qe (λx=>y (Qh x))];refine⟨cs++[b],by simp[hl],?_,λx hx=>?_,?_⟩
   ·unfold oG;rw[O3 hl.symm,Xp];rfl
   ·rw[O3 hl.symm]at hx;rcases Xr.mp hx with hx | hx
    ·exact pk x hx
    ·rw[Xh.mp hx];exact eb
   ·rw[Yt];exact⟨nd,XI.mpr ⟨Pz,YH⟩,λc hc d hd e=>y (by rw[<- Xh.mp hd,<- e];exact hc)⟩
 refine h _ cs' hpk (yW I (by rw[e];exact Oi) hs ⟨q,hq⟩ ⟨⟨?_,hd,hl',hnd,q,es,ep,hq,h2,h3,?_⟩,⟨q,hq⟩,?_⟩)
 ·unfold cP;split
  ·exact z
  ·rw[Xy,Nb];lia
 ·rw[h4,hst];unfold oG;rw[Yk];exact Yg λx _=>by show(⟨(xN (eN X.prog X.w)).hash (kP x.1),.ref x.2,.bool true⟩:DictEntry)=⟨zc x.1,.ref x.2,.bool true⟩;rw[Lp]
 ·rintro g1 g2 ⟨p1,p2,p3,p4,o,es,ep,i1,i2⟩ k;exact⟨p1,p2,p3,p4,o,es,ep,k o i1,i2⟩
def zvd:TE:=λ_ H Q=>∀p,H p=none->Q (.ref p) (upd H p (j7 p [] []))
def zvY (ty td:TE):TE:=λσ H Q=>ty σ H λy H1=>td σ H1 λx H2=>∃a b ks cs k,x=.ref a/\y=.ref b/\Rd H2 a (j7 a ks cs)/\(∀x∈ks.zip cs,PL.PK H2 x.1 x.2)/\PL.PK H2 k b/\Q (.bl (decide (k∈ks))) H2
def zve (td ty tv:TE):TS:=λD σ H=>tv σ H λv H1=>td σ H1 λx H2=>ty σ H2 λy H3=>∃a b ks cs k,x=.ref a/\y=.ref b/\v=.bl true/\H3 a=some (j7 a ks cs)/\(∀x∈ks.zip cs,PL.PK H3 x.1 x.2)/\PL.PK H3 k b/\ks.length<Wi/\
 ∀cs',(∀x∈(cP ks k).zip cs',PL.PK H3 x.1 x.2)->D.nx σ (upd H3 a (j7 a (cP ks k) cs'))
end
section
variable {X:Cx}{o i value:Expr}{td ty tv:TE}{pos pos':Pos}
theorem zqi:PE X (.Dict [] [] pos) zvd:=λpins s σ H Q I h=>
 wpAny_Dict_empty ⟨.ref s.heap.objs.size,_,I.laid (a:=s.heap.objs.size) (o:=j7 s.heap.objs.size [] []) (t':=s.toks) (λ_ _ q=>Xn _ q) (Xj _)
  ⟨⟨Ye _,beq_eq_false_iff_ne.mpr (Qz (XM I.big)),rfl,YH,_,#[],0,XA _ rfl,⟨rfl,rfl,rfl⟩,rfl,rfl⟩,⟨_,XA _ rfl⟩,by
   rintro g1 g2 ⟨p1,p2,p3,p4,o,es,ep,i1,i2⟩ k;exact⟨p1,p2,p3,p4,o,es,ep,k o i1,i2⟩⟩,rfl,h _ (I.hok.fresh (Xj _))⟩
theorem zsN (hu:X.A.units+9<WG)(hi:PE X i ty)(ho:PE X o td):PC X .In i o (zvY ty td):=by
 intro pins s σ H Q I h;refine aM (hi pins s σ H _ I h) λiv s1 ⟨y,H1,I1,ry,q1⟩=>aM (ho pins s1 σ H1 _ I1 q1) λu s2 ⟨x,H2,I2,rx,a,b,ks,cs,k,ex,ey,g,pk,eb,q2⟩=>?_;subst ex ey;obtain rfl:u=Qq a:=rx;obtain rfl:iv=Qq b:=ry;exact zvX hu I2 g pk eb λs3 I3=>⟨.bl (decide (k∈ks)),H2,I3,rfl,q2⟩
theorem zqj (hu:X.A.units+9<WG)(ho:PE X o td)(hi:PE X i ty)(hv:PE X value tv)(hs:WE value (some (.Subscript o i pos')) pos.line X.env=pure false) :
  PS X (.Assign [.Subscript o i pos'] value pos) (zve td ty tv):=by
 intro pins s σ H D I h;refine wpAny_Assign_Subscript (aM (hv pins s σ H _ I h) λr s1 ⟨v,H1,I1,rv,q1⟩=>aM (ho pins s1 σ H1 _ I1 q1) λu s2 ⟨x,H2,I2,rx,q2⟩=>aM (hi pins s2 σ H2 _ I2 q2) λiv s3 ⟨y,H3,I3,ry,a,b,ks,cs,k,ex,ey,ev,g,pk,eb,l,q3⟩=>?_) hs;subst ex ey ev;obtain rfl:u=Qq a:=rx;obtain rfl:iv=Qq b:=ry;obtain rfl:r=Value.bool true:=rv;exact zvc hu I3 g pk eb l λs4 cs' hp I4=>⟨σ,_,I4,q3 cs' hp⟩
end
end L2
namespace PL
open PySem PySem.Spec L2
open PyProof.Rows hiding St
def vf (k:Int×Tp):PV:=.tup [.int k.1,.tup (k.2.map PV.int)]
section
variable {K:Xc}{Fz:FZ}{H:Hp}
theorem Lw {k:Int×Tp}{x:V}(h:aA K Fz H (vf k) x):∃b,x=.ref b/\PK H k b:=by
 obtain⟨b,xs,rfl,h1,h2⟩:=xR h;simp only[aj,aq]at h2;obtain⟨v,r,rfl,rfl,v2,r2,rfl,⟨c,ys,rfl,h3,h4⟩,rfl⟩:=h2;rw[Eg h4]at h3;exact⟨b,rfl,c,h1,h3⟩
end
def zsO:aN:=λ_ Q=>Q (.dP []) .new
def Ew:R2:=λy x H Q=>∃a b ks cs k,x=.ref a/\y=.ref b/\Rd H a (j7 a ks cs)/\(∀x∈ks.zip cs,PK H x.1 x.2)/\PK H k b/\Q (.bl (decide (k∈ks))) H
def pDIP:P2:=λe d Q=>∃ks k,d=.dP ks/\e=vf k/\Q (.bl (decide (k∈ks))) .aH
theorem Ey {K:Xc}:jB K Ew pDIP where
 mono d e Q Q' m h:=by obtain⟨ks,k,e1,e2,q⟩:=h;exact⟨ks,k,e1,e2,m _ _ q⟩
 run Fz H x y d e Q al rx ry h:=by
  obtain⟨ks,k,rfl,rfl,q⟩:=h;simp only[aA]at ry;obtain⟨a,cs,rfl,r,pk⟩:=ry;obtain⟨b,rfl,hb⟩:=Lw rx;exact⟨a,b,ks,cs,k,rfl,rfl,r,pk,hb,q _ Fz H (.val al (by simp only[aq]))⟩
def zsP (i:Nat)(ti tv:aN):cN:=λρ O=>tv ρ λd k=>isOwn k=false/\d=.bl true/\∃ks,ρ[i]? = some (some (.dP ks,true))/\ks.length<Wi/\ti ρ λe _=>∃c,e=vf c/\O.nx (ρ.set i (some (.dP (cP ks c),true)))
section
variable {X:Cx}{x:Str}{a b ei ev:Expr}{ta tb ti tv:aN}{p pos pos':Pos}
theorem zsQ:aD X (.Dict [] [] pos) zsO where
 mono ρ Q Q' m h:=m _ _ h
 run:=PE.weak zqi λσ H Q h=>by
  obtain⟨ρ,Fz,R,h⟩:=h;exact λp hp=>h _ Fz _ ⟨Ext.laid ⟨Same.refl H,λ_ h=>h,λ_ h=>.inl h,R.al⟩ hp,p,rfl,hp,λz=>R.al p z hp,[],bF,λx hx=>by simp at hx⟩
theorem zqk (hu:X.A.units+9<WG)(ha:aD X a ta)(hb:aD X b tb)(hm:Ww .In b=false:=by rfl):gq X (.Compare a [.In] [b] pos) (tBl (t2 pDIP ta tb)) where
 mono ρ Q Q' m h:=qm Ey ha hb ρ _ _ (λd k q=>CQ m q) h
 run:=PT.weak (Gu (zsN hu ha.run hb.run) hm) λσ H Q h=>by
  obtain⟨ρ,Fz,R,h⟩:=h;have:=vN Ey ha hb (Q:=λv H'=>∃bb,v=.bl bb/\Q bb H') ⟨ρ,Fz,R,qm Ey ha hb ρ _ _ (λd k q v F1 H1 p=>by
   obtain⟨bb,rfl,q⟩:=xP.mp q;exact⟨bb,xQ (p.root R),q F1 H1 p.ext⟩) h⟩
  exact this
theorem Lx {K:Xc}{Fz:FZ}{ρ:au}{σ:St}{H:Hp}{i:Nat}{ks:List (Int×Tp)}(R:Rel K Fz ρ σ H)(h:ρ[i]? = some (some (.dP ks,true))):∃a cs,σ[i]? = some (some (.ref a))/\H a=some (j7 a ks cs)/\(∀x∈ks.zip cs,PK H x.1 x.2)/\¬ Fz a:=by
 obtain⟨a,e,nf,cs,h1,h2⟩:=R.own i _ h;exact⟨a,cs,e,h1,h2,nf⟩
theorem zql (i:Nat)(hu:X.A.units+9<WG)(hi:aD X ei ti)(hv:aD X ev tv)(hN:X.N[i]? = some x:=by rfl)(hvs:iZ X.env.scope x:=by first | exact Qo rfl | exact Qp (Qo rfl) | exact Qp (Qp rfl))(hd:(x == ("__debug__" : Str))=false:=by decide) (hcd:(x == ("__classdict__" : Str))=false:=by decide)
  (hs:WE ev (some (.Subscript (.Name x p) ei pos')) pos.line X.env=pure false:=by rfl):jR X (.Assign [.Subscript (.Name x p) ei pos'] ev pos) (zsP i ti tv) where
 mono ρ O O' m h:=hv.mono ρ _ _ (λd k ⟨hk,e0,ks,e1,e2,h⟩=>⟨hk,e0,ks,e1,e2,hi.mono ρ _ _ (λe _ ⟨c,q1,q⟩=>⟨c,q1,m.nx _ q⟩) h⟩) h
 run:=PS.weak (zqj hu (jn hN hvs hd hcd) hi.run hv.run hs) λD σ H h=>by
  obtain⟨ρ,Fz,R,h⟩:=h;refine⟨ρ,Fz,R,hv.mono ρ _ _ (λd k q v F1 H1 p1=>?_) h⟩;obtain⟨hk,rfl,ks,e1,e2,q⟩:=q;obtain⟨F2,x2,s2,d2⟩:=p1.frozen (uQ hk);have R2:=R.ext x2;obtain⟨a,cs,hs,ha,pk,nf⟩:=Lx R2 e1;refine⟨_,hs,ρ,F2,R2,hi.mono ρ _ _ (λe ke q u F3 H3 p3=>?_) q⟩;obtain⟨c,rfl,q⟩:=q;have R3:=R2.ext p3.ext;obtain⟨a',cs3,hs',ha',pk',jF⟩:=Lx R3 e1;rw[hs]at hs';cases hs';obtain⟨bb,rfl,hbb⟩:=Lw (p3.root R2);have ev:v=.bl true:=by simpa only[aq]using d2
  refine⟨a,bb,ks,cs3,c,rfl,rfl,ev,ha',pk',hbb,e2,λcs' hp=>?_⟩;have x3:=x2.trans p3.ext;have kp:∀ {y:Int×Tp} {b:We},PK H3 y b->PK (upd H3 a (j7 a (cP ks c) cs')) y b:=λ{y b} ⟨z,z1,z2⟩=>⟨z,by rw[aO (yI z1 ha' λy=>nomatch y)];exact z1,by rw[aO (yI z2 ha' λy=>nomatch y)];exact z2⟩;have ow:Own X.K F3 (upd H3 a (j7 a (cP ks c) cs')) (.dP (cP ks c)) a:=⟨cs',bF,λx hx=>kp (hp x hx)⟩;obtain⟨R4,s4,o4⟩:=R3.mut e1 hs ha' ow;exact q σ F3 _ ((Step.of x3).trans (bB.refl ρ σ H) s4) (bB.trans (Step.of x3) (bB.refl ρ σ H) o4) R4
end
end PL
namespace K01
open PySem PySem.Spec PyProof.Rows
variable {a b:Str}
def pI (a b:Str):Prop:=a.cps.toList<=b.cps.toList
theorem zoy {c:Str}(h1:pI a b)(h2:pI b c):pI a c:=List.le_trans h1 h2
theorem zjd (h1:pI a b)(h2:pI b a):a=b:=by
 have e:a.cps.toList=b.cps.toList:=List.le_antisymm h1 h2;cases a;cases b;simp only[Str.mk.injEq];exact Array.toList_inj.mp e
theorem zvf (h:ltCps b.cps.toList a.cps.toList=false):pI a b:=by
 rw[ltCps_eq]at h;exact List.not_lt.mp (of_decide_eq_false h)
theorem Ly:∀(p:Str)(l:Tn),risingS p l=true->(p::l).Pairwise pI
 | p,[],_=>List.pairwise_singleton _ _
 | p,x::r,h=>by
  have h':(!ltCps x.cps.toList p.cps.toList&&risingS x r)=true:=h;rw[YE]at h';have h1:pI p x:=zvf (by simpa using h'.1);have ih:=Ly x r h'.2;refine YM.mpr ⟨λy hy=>?_,ih⟩;rcases Xx.mp hy with e | hy
  ·rw[e];exact h1
  ·exact zoy h1 ((YM.mp ih).1 y hy)
theorem Lz:∀(l:Tn),sortedS l=true->l.Pairwise pI
 | [],_=>List.Pairwise.nil
 | x::r,h=>Ly x r h
theorem LC:∀ {xs ys:Tn},xs.Pairwise pI->ys.Pairwise pI->xs.Nodup->ys.Nodup->(∀x,x∈xs↔x∈ys)->xs=ys
 | [],[],_,_,_,_,_=>rfl
 | [],y::ys,_,_,_,_,h=>Qg ((h y).mpr Xg) (by simp)
 | x::xs,[],_,_,_,_,h=>Qg ((h x).mp Xg) (by simp)
 | x::xs,y::ys,p,q,n,m,h=>by
  obtain⟨p1,p2⟩:=YM.mp p;obtain⟨q1,q2⟩:=YM.mp q;obtain⟨n1,n2⟩:=XI.mp n;obtain⟨m1,m2⟩:=XI.mp m;have e:x=y:=by
   rcases Xx.mp ((h x).mp Xg)with e | hx
   ·exact e
   ·rcases Xx.mp ((h y).mpr Xg)with e | hy
    ·exact e.symm
    ·exact zjd (p1 y hy) (q1 x hx)
  subst e;rw[LC p2 q2 n2 m2 λz=>?_];constructor
  ·intro hz;rcases Xx.mp ((h z).mp (Xi _ hz))with e | hz'
   ·subst e;exact Qg hz n1
   ·exact hz'
  ·intro hz;rcases Xx.mp ((h z).mpr (Xi _ hz))with e | hz'
   ·subst e;exact Qg hz m1
   ·exact hz'
def mix (c j:Int):Int:=
 if c % 2=1/\c / 2 ^ 27≠0 then(c / 2 ^ (1+20*j).toNat) % 1048576
 else(((c*(2*j+3)+j) % 2147483629*((c*(2*j+3)+j) % 2147483629)+1)*48271 % 2147483629)*(((c*(2*j+3)+j) % 2147483629*((c*(2*j+3)+j) % 2147483629)+1)*48271 % 2147483629) % 2147483587
theorem vg (c j:Int):0<=mix c j:=by
 unfold mix;split
 ·exact YD _ (by decide)
 ·exact YD _ (by decide)
def abc (n:Nat):Str:=⟨#[65+n]⟩
def stepOf (i:Nat):Nat:=[1,3,5,7,9,11].getD i 1
def tW (start step:Nat):Tn:=(Yj 6).map λk=>abc ((start+step*k) % 26)
theorem zgI:∀start,start<26->∀i,i<6->((Yj 6).map λk=>(start+stepOf i*k) % 26).Nodup:=by decide +kernel
theorem zsR {a b:Nat}(h:abc a=abc b):a=b:=by
 unfold abc at h;simp only[Str.mk.injEq,Array.mk.injEq,List.cons.injEq]at h;lia
theorem Ez (start i:Nat)(h1:start<26)(h2:i<6):(tW start (stepOf i)).Nodup:=by
 have h:=zgI start h1 i h2;unfold tW;rw[show((Yj 6).map λk=>abc ((start+stepOf i*k) % 26))=((Yj 6).map λk=>(start+stepOf i*k) % 26).map abc by rw[Yk];rfl];exact List.Pairwise.map abc (λa b hab e=>hab (zsR e)) h
end K01
namespace HK
open PySem PySem.W
def vh (h:Heap):Frag:=(Yj h.objs.size).filterMap λa=>(h.get? a).map λo=>(a,o)
theorem zsS (h:Heap):(vh h).In h:=by
 intro a o e;unfold vh at e;generalize Yj h.objs.size=l at e;induction l with
 | nil=>cases e
 | cons b l ih=>
  rw[List.filterMap_cons]at e;cases hb:h.get? b with
  | none=>rw[hb]at e;exact ih e
  | some o'=>
   rw[hb]at e;dsimp only[Option.map_some]at e;rw[YN]at e;by_cases z:a=b
   ·subst z;rw[beq_self_eq_true]at e;cases e;exact hb
   ·rw[beq_false_of_ne z]at e;exact ih e
def hook {T:Type}(see:Frag->T)(told:T):Hook:=
 ⟨T,λs=>see (vh s.heap),λ_=>told,λ_ h=>∃K:Frag,K.In h/\see K=told,λ_ s e=>⟨_,zsS _,e⟩,λ_ _ _ ⟨K,x,e⟩ k=>⟨K,x.keeps k,e⟩⟩
abbrev Seen:=Option (Str×Str×Arguments×FuncBody×WX×We×List (Str×We)×Wb×We×Bool)
def gU (K:Frag)(v:Option (Tv)):Seen:=match v with
 | some (some (.ref f))=>(match K.lookup f with
  | some ⟨_,_,.func d,_⟩=>some (d.name,d.qualname,d.params,d.body,d.scope,d.globals,d.closure,d.defaults,d.builtins,codeIn K d.code d.qualname&&keepIn K (.ref f)&&isFn K (.ref f))
  | _=>none)
 | _=>none
def gV (n q:Str)(a:Arguments)(b:List WJ)(c:WX):Seen:=some (n,q,a,.stmts b,c,Wg,[],.none,builtinsNs,true)
theorem yQ {K:Frag}{v:Option (Tv)}{n q:Str}{a:Arguments}{b:List WJ}{c:WX}(e:gU K v=gV n q a b c) :
  ∃(f:We) (oc:Wb) (od:Option We) (sl:Array (Tv)) (kV dc pm:Wb) (an:Option We) (cd ct:Wb),v=some (some (.ref f))/\K.lookup f=some ⟨oc,od,.func (fnOf n q a b c .none kV dc pm an cd ct),sl⟩/\codeIn K cd q=true/\keepIn K (.ref f)=true/\isFn K (.ref f)=true:=by
 unfold gU gV at e;split at e
 ·rename_i f
  split at e
  ·rename_i oc od d sl hl
   obtain⟨d1,d2,d3,d4,d5,d6,d7,d8,d9,d10,d11,d12,d13,d14,d15⟩:=d;simp only[Option.some.injEq,Prod.mk.injEq,YE]at e;obtain⟨rfl,rfl,rfl,rfl,rfl,rfl,rfl,rfl,rfl,⟨h1,h2⟩,h3⟩:=e;exact⟨f,_,_,_,_,_,_,_,_,_,rfl,hl,h1,h2,h3⟩
  ·cases e
 ·cases e
def ref? (v:Option (Tv)):We:=match v with
 | some (some (.ref a))=>a
 | _=>0
def vm (K:Frag)(v:Option (Tv)):WA:=match K.lookup (ref? v)with
 | some ⟨_,_,.func d,_⟩=>d
 | _=>default
structure Def (K:Frag)(n q:Str)(st:WJ)(v:Option (Tv)):Prop where
 fn:L2.dU K n q st (ref? v) (vm K v)
 ad:v=some (some (.ref (ref? v)))
 kp:keepIn K (.ref (ref? v))=true
 is:isFn K (.ref (ref? v))=true
theorem ju {K:Frag}{v:Option (Tv)}{n q:Str}{st:WJ}(e:gU K v=gV n q (L2.dR st) (L2.dz st) (L2.aU st)):Def K n q st v:=by
 obtain⟨f,oc,od,sl,kV,dc,pm,an,cd,ct,rfl,l,c,k,m⟩:=yQ e;have h:vm K (some (some (.ref f)))=fnOf n q (L2.dR st) (L2.dz st) (L2.aU st) .none kV dc pm an cd ct:=by
  unfold vm ref?;rw[l]
 exact⟨h▸L2.Hx l c k,rfl,k,m⟩
theorem pick {α:Type}{l m:List α}(h:l=m)(i:Nat):l[i]? = m[i]?:=by rw[h]
end HK
namespace PL
open PySem PySem.Spec L2
open PyProof.Rows hiding St
theorem zvZ {l:PySem.W.OpenLaw}{k:Nat}{q:Wo}{loose:Tn}{XP:(Tj)->Heap->Prop}{YP:Ws->Heap->Prop}{d:DefRec}{G:Xc->Prop}{FL:PF}{x:Str}
  (hn:l.most=some 63) (hdf:d.params.defaults=[]) (hr:cg k callerA) (m:fQ FL)
  (hY:∀(w:Ws) (h:Heap),YP w h->∃K:Xc,K.In h/\G K)
  (F:∀(w:Ws) (mg:Tj) (fa:We) (h:Heap) (K:Xc),G K->K.In h->h.Ns Wg mg->mg d.name=some (.ref fa)->
   ∃fd:WA,(∀(s:Wd) (u:Wb),BindsTo s fd ⟨[u],[]⟩ [(x,u)])/\∀base:Heap,K.In base->base.Ns Wg mg->aJ l.prog w K mg base bO k fa fd [x] (bR K FL))
  (hF:∀ns:Tp,ns.length<=63->FL [.lst (ns.map PV.int)] λd k=>d=.bl true) :
  PySem.W.WalkO q loose XP YP l.row.toRowW d [] (λf vs=>PySem.call f vs):=by
 refine Att.Za hn hdf λw s₀ s₁ mg mb fa o pm cd doc a vs ns Gd Y ho hd hcd hmg hobj hints hlen hg=>?_;obtain⟨K,KX,gk⟩:=hY w _ Y;obtain⟨fd,hb,hFn⟩:=F w mg fa _ K gk KX Gd.T.g hmg;exact znI KX Gd.T.g Gd.T.b Gd.T.builtins Gd.T.nolimit hg hobj hints (XZ hlen (by decide)) hr hFn hb (λH hO hS=>zuA m hS (hF ns hlen)) λH e s' z=>z
end PL
namespace Q21
open PySem PySem.Spec L2 PL
open PyProof.Rows hiding St
variable {ls ea:Tn}{f f1:We}{fd jw:WA}{g:jx}{κ cs p:Tp}{c:Int}{x:Str}{t:Td}
def top (i:Nat):WJ:=PySem.Challenge.pw_joinwood_k21_reduced.main.body.getD i (.Pass ⟨0,0,0,0⟩)
abbrev tX:WJ:=top 1
abbrev tY:WJ:=top 2
abbrev pJ:WJ:=top 3
abbrev qz:WJ:=top 4
abbrev tZ:WJ:=top 5
abbrev rN:WJ:=top 7
abbrev qC:WJ:=top 8
abbrev qD:WJ:=top 9
abbrev rO:WJ:=top 10
abbrev qF:WJ:=top 12
abbrev t6:WJ:=top 13
abbrev qG:WJ:=top 15
abbrev rP:WJ:=top 16
abbrev lM:WJ:=top 18
abbrev rQ:WJ:=top 19
abbrev oH:WJ:=top 20
abbrev t7:WJ:=top 21
abbrev oJ:WJ:=top 22
abbrev iG:WJ:=top 23
abbrev rR:WJ:=top 24
abbrev sLaw:WJ:=top 25
def cA (ls:Tn)(w:Str):Nat:=iu (ls.map PV.str) (.str w)
theorem pK {w:Str}(h:w∈ls):cA ls w<ls.length:=by
 have:iu (ls.map PV.str) (.str w)<(ls.map PV.str).length:=QS ⟨.str w,Xv.mpr ⟨w,h,rfl⟩,by simp⟩;simpa[cA]using this
def cellsOf (row:List PV)(ls ws:Tn):List PV:=ws.map λw=>row.getD (cA ls w) .non
def zat:PF:=λds Q=>∃(row:List PV)(lp:PV)(ls ws:Tn),ds=[.tup row,lp,.lst (ws.map PV.str)]/\(lp=.lst (ls.map PV.str)\/lp=.tup (ls.map PV.str))/\(∀w∈ws,w∈ls)/\ls.length=row.length/\ws.length<=100/\Q (.tup (cellsOf row ls ws)) .aH
theorem yo:fQ zat:=λds Q Q' m ⟨a,b,c,d,e,h1,h2,h3,h4,q⟩=>⟨a,b,c,d,e,h1,h2,h3,h4,m _ _ q⟩
theorem EY (ls:Tn):(ls.map PV.str).all oE=true:=by simp[oE]
open Lean in
def puM:MacroM (TSyntax `tactic):=do
 let es<-("pForR zat zbb zbA zaA zav fMix zbc zbm zgu zaR zaw zaq zcH zgL zhS zkq zbd zks zdb zja outR zsO zsP pDIP zhW fDue zhY zdh".splitOn " ").filterM λn=>return !(<-Macro.resolveGlobalName n.toName).isEmpty;let ls<-("pSeq zcR zbU bxIf zdZ zdw zck zdE zaG zcA zcm zcC zcb zcz rdE rdT BX.pv pIdx fSum fOrd zdF zeb zec pDIT zcy zcl zea zcf pSet pRet pIf zdU zci zdY mApp zdW zcv zdX pUnp zbu zdr zbI zds t2 i0 i2 pVar pC zbw pNil pTup pLst noOwn isOwn tBl blP zdq tOrP zdT tTru zcM TruP tIfE pEq pIn pIsN pIx ixV pCat PL.tB fLen LenP zdC zcj fIsi NoT PL.isObj zdH mPop zed zbt zaW pSlL pRev zdu zdv zcZ zbx iLst zdV pDI fAll zcw zcx iDic pFor zcu PL.plain zbv zch blkP List.map_cons List.map_nil List.length_cons List.length_nil List.cons_append List.nil_append List.replicate List.getElem?_cons_zero List.getElem?_cons_succ List.getElem?_nil Option.getD_some Option.getD_none List.set_cons_zero List.set_cons_succ List.cons.injEq Option.some.injEq Prod.mk.injEq PV.int.injEq PV.bl.injEq PV.str.injEq PV.lst.injEq PV.tup.injEq PV.ty.injEq PV.dK.injEq exists_eq_left' exists_eq_left exists_eq' exists_eq exists_and_left exists_and_right exists_eq_right true_and and_true reduceCtorEq false_and and_false false_or or_false exists_false exists_const Bool.false_eq_true if_true if_false and_assoc ite_true ite_false Bool.not_eq_true' decide_eq_true_eq decide_eq_false_iff_not Bool.not_false Bool.not_true true_or or_true not_true_eq_false not_false_eq_true Bool.and_eq_true Nat.zero_add Nat.sub_self Nat.reduceAdd Nat.reduceSub implies_true ne_eq zbY zaN Bool.true_and Bool.and_true List.all_nil pFrz zdk pNeg zby zdG zaH zbz zca".splitOn " "++es).toArray.mapM λn=>`(Lean.Parser.Tactic.simpLemma|$(mkIdent n.toName):term)
 `(tactic|first|(dsimp only[$ls,*];try simp only[$ls,*])|simp only[$ls,*])
local macro_rules | `(tactic| walk_at "pu")=>puM
local macro_rules | `(tactic| walk_at "go")=>`(tactic| ((first | (with_reducible refine hold ?_) | (with_reducible refine zy ?_) | (with_reducible refine J5 ?_));walk_at "pu"))
local macro_rules | `(tactic| walk_at "side")=>`(tactic| first | assumption | decide | lia | exact⟨by decide,by decide⟩ | exact⟨by decide,by decide,by decide⟩ | exact Or.inl ⟨by lia,by lia⟩ | exact Or.inr ⟨by lia,by lia⟩)
local macro_rules | `(tactic| walk_at "auto")=>`(tactic| repeat (first | ((with_reducible refine hold ?_);walk_at "pu") | ((with_reducible refine zy ?_);walk_at "pu") | ((with_reducible refine And.intro ?_ ?_);(· walk_at "side"))))
section
variable {P:Wo}{w:Ws}{K:Xc}{mg:Tj}{base:Heap}
theorem LK:fO ["row","letters","wanted"] ["row","letters","wanted"] (aU tX):=fsc
abbrev Z1 (P:Wo)(w:Ws)(K:Xc)(mg:Tj)(base:Heap)(k:Nat)(f:We)(fd:WA):=aJ P w K mg base bO k f fd ["row","letters","wanted"] (bR K zat)
theorem Ad (F:dU K "cells_of" "cells_of" tX f fd) (B:Bl mg):Z1 P w K mg base 1 f fd:=by
 refine jt F LK (λds Q ⟨a,b,c,d,e,_⟩=>by rw[e];rfl) (λcdv A outer s H E hr=>?_);have hu:=cu hr;have nd:=LK.nd;refine⟨_,(bU (gP (xY rfl B.tuple (aB (jh (N:=["letter","row","letters"]) (k:=1) (js:=[0,1]) rfl (fP (sup:=aU tX) (XN:=["row","letters","wanted"]) rfl rfl (by decide +kernel)) (by decide) (jd (by decide)) (jf (ak 2)) ⟨λ_ _ _ _ _=>(bW (i:=0) (by show(["letter","row","letters"]:Tn).Nodup;decide +kernel) rfl (Qo rfl)),λ_ _ _ _ _=>mj,λ_ _ _ _ _=>(cO (ak 1) (zT (ak 2) (ak 0)))⟩) aL)))),λds Q h=>?_⟩;obtain⟨row,lp,ls,ws,rfl,hlp,hws,hll,h100,q⟩:=h;walk_at "pu";refine⟨by rw[Xb,Wr];lia,λi out=>out=cellsOf row ls (ws.take i),rfl,?_,?_⟩
 ·rintro i d out hd-rfl;rw[Xe]at hd;cases hw:ws[i]? with
  | none=>rw[hw]at hd;cases hd
  | some x=>
   rw[hw]at hd;cases hd;have hx:=hws x (Xl hw);have hi:=pK hx;refine⟨ls.map PV.str,hlp,EY ls,rfl,Xv.mpr ⟨x,hx,rfl⟩,row[cA ls x]'(by lia),eE (Xa (show cA ls x<row.length by lia)),?_⟩;show _=_;rw[XS,hw];unfold cellsOf;rw[Xp]
   congr 1
   simp[Xa (show cA ls x<row.length by lia)]
 ·rintro out-rfl;rw[Xb,Xs (Xj _)];exact q
end
abbrev jx:=List (Tp×Tp)
def aF (κ:Tp):List Key:=κ.map λi=>(Pr i:Key)
def rW (cs:Tp):PV:=.dK (aF cs) (cs.map λ_=>.bl true)
def cL (g:jx):List (List Key):=g.map λp=>aF p.1
def iV (g:jx):List PV:=g.map λp=>rW p.2
def LQ (g:jx):PV:=.dT (cL g) (iV g)
def aQ (r:Tp):PV:=.tup (r.map PV.int)
theorem yp {a b:Tp}(h:aF a=aF b):a=b:=by
 unfold aF at h;exact List.map_inj_right (λx y e=>by injection e) |>.mp h
theorem Ae (κ:Tp):lJ (aF κ)=aQ κ:=by
 unfold lJ aF aQ;rw[Yk];rfl
def bT (cs:Tp)(c:Int):Tp:=if c∈cs then cs else cs++[c]
def gF (g:jx)(κ:Tp)(c:Int):jx:=if g.any (λp=>decide (p.1=κ))=true then g.map (λp=>if p.1=κ then(p.1,bT p.2 c) else p) else g++[(κ,[c])]
theorem zqm (g:jx)(κ:Tp)(c:Int):(gF g κ c).map (·.1)=if g.any (λp=>decide (p.1=κ))=true then g.map (·.1) else g.map (·.1)++[κ]:=by
 unfold gF;split
 ·rw[Yk];refine Yg λp _=>?_;show(if p.1=κ then(p.1,bT p.2 c) else p).1=p.1
  split<;>rfl
 ·rw[Xp];rfl
theorem zqn (h:(g.map (·.1)).Nodup):((gF g κ c).map (·.1)).Nodup:=by
 rw[zqm];split
 ·exact h
 ·rename_i hn
  rw[Yt];refine⟨h,by simp,λx hx y hy e=>hn ?_⟩;rw[List.any_eq_true];obtain⟨p,hp,rfl⟩:=Xv.mp hx;exact⟨p,hp,by rw[decide_eq_true_iff,e];exact Xh.mp hy⟩
theorem LR (g:jx)(κ:Tp):gB (cL g) (aF κ)=g.any λp=>decide (p.1=κ):=by
 unfold gB cL;rw[List.any_map]
 congr 1
 funext p;show decide (aF p.1=aF κ)=decide (p.1=κ);by_cases e:p.1=κ
 ·simp[e]
 ·have:¬ aF p.1=aF κ:=λz=>e (yp z);simp[e,this]
theorem yq (cs:Tp)(c:Int):tO (aF cs) (cs.map λ_=>.bl true) (.inl c) (.bl true)=rW (bT cs c):=by
 have hk:gw (aF cs) (.inl c)=decide (c∈cs):=by
  unfold gw aF;rw[List.any_map,Q5,List.any_eq_true,decide_eq_true_iff];constructor
  ·rintro⟨x,hx,e⟩;have:x=c:=by simpa using e
   rw[<- this];exact hx
  ·exact λh=>⟨c,h,by simp⟩
 unfold tO bT rW;rw[hk];by_cases h:c∈cs
 ·rw[Qf (Qd h),Qf h]
  congr 1
  unfold putD aF;rw[List.zip_map',Yk];refine Yg λx _=>?_;show(if (Pr x:Key)=Pr c then PV.bl true else PV.bl true)=_
  split<;>rfl
 ·rw[Qe (by simpa using h),Qe h];unfold aF;rw[Xp,Xp];rfl
theorem zvg (h:g.any (λp=>decide (p.1=κ))=true)(nd:(g.map (·.1)).Nodup):∃(j:Nat)(cs:Tp),iw (cL g) (aF κ)=j/\g[j]? = some (κ,cs)/\∀(m:Nat) p,g[m]? = some p->(p.1=κ↔m=j):=by
 have hex:∃x∈cL g,decide (x=aF κ)=true:=by
  obtain⟨p,hp,e⟩:=List.any_eq_true.mp h;have e:p.1=κ:=by simpa using e
  exact⟨aF p.1,Xv.mpr ⟨p,hp,rfl⟩,by rw[e];simp⟩
 obtain⟨j,hj,hlt,hat⟩:∃j,iw (cL g) (aF κ)=j/\j<(cL g).length/\(cL g)[j]? = some (aF κ):=by
  have hlt:(cL g).findIdx (λx=>decide (x=aF κ))<(cL g).length:=QS hex;have:=List.findIdx_getElem (p:=λx=>decide (x=aF κ)) (xs:=cL g) (w:=hlt);exact⟨(cL g).findIdx (λx=>decide (x=aF κ)),rfl,hlt,by rw[Xa hlt];exact congrArg some (by simpa using this)⟩
 have hq:∃q,g[j]? = some q/\q.1=κ:=by
  unfold cL at hat;rw[Xe]at hat;cases hg:g[j]? with
  | none=>rw[hg]at hat;cases hat
  | some q=>rw[hg]at hat;exact⟨q,rfl,yp (Qa hat)⟩
 obtain⟨q,hq,hk⟩:=hq;refine⟨j,q.2,hj,by rw[hq];congr 1;exact Prod.ext hk rfl,λm p hm=>?_⟩;constructor
 ·intro e;have h1:(g.map (·.1))[m]? = some κ:=by rw[Xe,hm,<- e];rfl
  have h2:(g.map (·.1))[j]? = some κ:=by rw[Xe,hq,<- hk];rfl
  exact(List.getElem?_inj (by have:=(Xf.mp hm).1;simpa using this) nd).mp (h1.trans h2.symm)
 ·intro e;subst e;rw[hq]at hm;rw[<- Qa hm];exact hk
theorem zqo (nd:(g.map (·.1)).Nodup)(κ:Tp)(c:Int):∃cs:Tp,(jJ (cL g) (iV g) (aF κ)).2[iw (jJ (cL g) (iV g) (aF κ)).1 (aF κ)]? = some (rW cs)/\(cs=[]\/∃κ',(κ',cs)∈g)/\
  (BX.T (jJ (cL g) (iV g) (aF κ)).1 ((jJ (cL g) (iV g) (aF κ)).2.set (iw (jJ (cL g) (iV g) (aF κ)).1 (aF κ)) (tO (aF cs) (cs.map λ_=>.bl true) (.inl c) (.bl true))))=.T (cL (gF g κ c)) (iV (gF g κ c)):=by
 unfold jJ;rw[LR];by_cases h:g.any (λp=>decide (p.1=κ))=true
 ·rw[Qf h];obtain⟨j,cs,e1,e2,e3⟩:=zvg h nd;refine⟨cs,?_,.inr ⟨κ,Xl e2⟩,?_⟩
  ·show(iV g)[iw (cL g) (aF κ)]? = _;rw[e1];unfold iV;rw[Xe,e2];rfl
  ·rw[yq];show BX.T (cL g) ((iV g).set (iw (cL g) (aF κ)) (rW (bT cs c)))=_;rw[e1];have hg:gF g κ c=g.map (λp=>if p.1=κ then(p.1,bT p.2 c) else p):=by unfold gF;rw[Qf h]
   rw[hg]
   congr 1
   ·unfold cL;rw[Yk];refine Yg λp _=>?_;show aF p.1=aF (if p.1=κ then(p.1,bT p.2 c) else p).1
    split<;>rfl
   ·refine List.ext_getElem? λm=>?_;unfold iV;rw[List.getElem?_set,Xe,Xe,Xe];by_cases em:j=m
    ·subst em;have hjl:j<(g.map λp=>rW p.2).length:=by have:=(Xf.mp e2).1;simpa using this
     rw[Qf rfl,Qf hjl,e2];simp
    ·rw[Qe em];cases hm:g[m]? with
     | none=>rfl
     | some p=>
      have:¬ p.1=κ:=λz=>em ((e3 m p hm).mp z).symm;simp[this]
 ·rw[Qe h];have hk:aF κ∉cL g:=λz=>h (by rw[<- LR];exact zR.mpr z);refine⟨[],?_,.inl rfl,?_⟩
  ·show(iV g++[PV.dK [] []])[iw (cL g++[aF κ]) (aF κ)]? = _;rw[Ek hk];have:(cL g).length=(iV g).length:=by simp[cL,iV]
   rw[this,XO (Xj _),Nat.sub_self];rfl
  ·rw[yq];show BX.T (cL g++[aF κ]) ((iV g++[PV.dK [] []]).set (iw (cL g++[aF κ]) (aF κ)) _)=_;rw[Ek hk];have:(cL g).length=(iV g).length:=by simp[cL,iV]
   rw[this,List.set_append_right _ _ (Xj _),Nat.sub_self];have hg:gF g κ c=g++[(κ,[c])]:=by unfold gF;rw[Qe h]
   rw[hg];unfold cL iV;rw[Xp,Xp];rfl
def aZ (row:Tp)(ls ws:Tn):Tp:=ws.map λw=>row.getD (cA ls w) 0
theorem yr {row:Tp}{ws:Tn}(hl:ls.length=row.length)(hw:∀w∈ws,w∈ls):PV.tup (cellsOf (row.map PV.int) ls ws)=aQ (aZ row ls ws):=by
 unfold aQ aZ cellsOf;rw[Yk]
 congr 1
 refine Yg λw hm=>?_;have hi:=pK (hw w hm);have h1:(row.map PV.int).getD (cA ls w) .non=PV.int (row[cA ls w]'(by lia)):=by
  rw[Xd,Xe,Xa (by lia)];rfl
 have h2:row.getD (cA ls w) 0=row[cA ls w]'(by lia):=by
  rw[Xd,Xa (by lia)];rfl
 show(row.map PV.int).getD (cA ls w) .non=PV.int (row.getD (cA ls w) 0);rw[h1,h2]
def iW (ls ea:Tn):Tn:=ls.filter λx=>decide (x∈ea)
def jW (ls ea:Tn)(x:Str)(rows:Td):jx:=rows.foldl (λg r=>gF g (aZ r ls (iW ls ea)) (r.getD (cA ls x) 0)) []
structure Fb (ls:Tn)(rows:Td):Prop where
 many:rows.length<=10000
 wide:∀r∈rows,r.length=ls.length
def zbb:PF:=λds Q=>∃(ls ea:Tn)(x:Str)(rows:Td),ds=[.tup (ls.map PV.str),.lst (rows.map aQ),.lst (ea.map PV.str),.str x]/\ls.length<=100/\x∈ls/\Fb ls rows/\Q (.tup [.lst ((iW ls ea).map PV.str),LQ (jW ls ea x rows)]) .aH
theorem zji:fQ zbb:=λds Q Q' m ⟨a,b,c,d,e,h1,h2,h3,q⟩=>⟨a,b,c,d,e,h1,h2,h3,m _ _ q⟩
theorem Ma:∀(rows:Td)(g:jx)(k:Tp->Tp)(c:Tp->Int),(g.map (·.1)).Nodup->((rows.foldl (λg r=>gF g (k r) (c r)) g).map (·.1)).Nodup
 | [],g,k,c,h=>h
 | r::rows,g,k,c,h=>Ma rows _ k c (zqn h)
theorem zoB (g:jx)(κ:Tp)(c:Int):(gF g κ c).length<=g.length+1:=by
 unfold gF;split
 ·rw[Xb];lia
 ·rw[Xy];simp
theorem zqp (cs:Tp)(c:Int):(bT cs c).length<=cs.length+1:=by
 unfold bT;split
 ·lia
 ·simp
theorem zkh {M:Nat}(h:∀p∈g,p.2.length<=M):∀p∈gF g κ c,p.2.length<=M+1:=by
 unfold gF;split
 ·intro p hp;obtain⟨q,hq,rfl⟩:=Xv.mp hp;have h1:=h q hq;have h2:=zqp q.2 c;by_cases e:q.1=κ
  ·rw[Qf e];show(bT q.2 c).length<=_;lia
  ·rw[Qe e];lia
 ·intro p hp;rcases Xr.mp hp with hp | hp
  ·have:=h p hp;lia
  ·rw[Xh.mp hp];simp
theorem Mf:∀(rows:Td)(g:jx)(k:Tp->Tp)(c:Tp->Int)(M:Nat),(∀p∈g,p.2.length<=M)->(rows.foldl (λg r=>gF g (k r) (c r)) g).length<=g.length+rows.length/\∀p∈rows.foldl (λg r=>gF g (k r) (c r)) g,p.2.length<=M+rows.length
 | [],g,k,c,M,h=>⟨by simp,by simpa using h⟩
 | r::rows,g,k,c,M,h=>by
  obtain⟨h1,h2⟩:=Mf rows (gF g (k r) (c r)) k c (M+1) (zkh h);have h3:=zoB g (k r) (c r);refine⟨by rw[Q0,XX];lia,λp hp=>?_⟩;have:=h2 p hp;rw[XX];lia
theorem yt (r:Tp):zaN (r.map PV.int)=true:=by
 induction r with
 | nil=>rfl
 | cons a r ih=>simp[zaN,zcf,ih]
theorem yu (r:Tn):(r.map PV.str).all (PL.plain 6)=true:=by simp[PL.plain]
theorem rY {r:Tn}:PV.str x∈r.map PV.str↔x∈r:=by simp
section
variable {P:Wo}{w:Ws}{K:Xc}{mg:Tj}{base:Heap}
theorem Mg:fO ["letters","rows","earlier","letter","known","place","choices","row","cells"] ["letters","rows","earlier","letter"] (aU tY):=fsc
abbrev Y1 (K:Xc)(mg:Tj):=Fx K mg "cells_of" tX ["row","letters","wanted"]
theorem zmt (F:dU K "guide_of" "guide_of" tY f fd) (aC:Y1 K mg f1 jw) (B:Bl mg):aJ P w K mg base bO 2 f fd ["letters","rows","earlier","letter"] (bR K zbb):=by
 have bN:Z1 P w K mg base 1 f1 jw:=Ad aC.fn B;refine jt F Mg (λds Q ⟨a,b,c,d,e,_⟩=>by rw[e];rfl) (λcdv A outer s H E hr=>?_);have hu:=cu hr;have nd:=Mg.nd;refine⟨_,(bD (xV (i:=4) (N:=["name","earlier"]) (k:=1) (js:=[2]) rfl (fP (sup:=aU tY) (XN:=["letters","rows","earlier","letter","known","place","choices","row","cells"]) rfl rfl (by decide +kernel)) (by decide) (jd (by decide)) (xT (ak 0)) ⟨λ_ _ _ _ _=>(bW (i:=0) (by show(["name","earlier"]:Tn).Nodup;decide +kernel) rfl (Qo rfl)),λ_ _ _ _ _=>(o7 (zG hu (ak 0) (ak 1))),λ_ _ _ _ _=>(ak 0)⟩ nd rfl rfl)
   (bD (cH (i:=5) nd rfl (Qo rfl) (zT (ak 0) (ak 3)))
   (zom (z:=6) nd rfl (Qo rfl) (vX (yc (i:=7) nd rfl (Qo rfl) rfl Qs (jf (ak 1)) (zpS (iy:=8) (hu1 hu) nd (cD bN yo hr rfl aC.mg aC.fn.kp aC.bd (aB (ak 7) (aB (ak 0) (aB (ak 4) aL)))) (cO (ak 7) (ak 5)) sZ zO))
   (J7 (bU (lE 4 (gP (tH (aB (ak 4) (aB (ak 6) aL))))))))))),λds Q h=>?_⟩
 obtain⟨ls,ea,x,rows,rfl,hl100,hx,rok,q⟩:=h;have hsz:=Wr;walk_at "pu";refine⟨by rw[Xb];lia,λi out=>out=(iW (ls.take i) ea).map PV.str,rfl,?_,?_⟩
 ·rintro i d out hd-rfl;rw[Xe]at hd;cases hw:ls[i]? with
  | none=>rw[hw]at hd;cases hd
  | some y=>
   rw[hw]at hd;cases hd;refine⟨rfl,yu ea,dW (λe=>?_) (λe=>?_)⟩
   ·have hy:y∈ea:=rY.mp e;show _=_;rw[XS,hw];unfold iW;simp[hy]
   ·have hy:¬ y∈ea:=λz=>e (rY.mpr z);show _=_;rw[XS,hw];unfold iW;simp[hy]
 ·rintro out-rfl;rw[Xb,Xs (Xj _)];walk_at "go";refine⟨EY ls,rfl,rY.mpr hx,?_⟩;walk_at "go";refine⟨by decide,?_⟩;walk_at "go";obtain⟨Iv,bC⟩:∃Iv:Nat->au->BX->Prop,∀i ρ β,Iv i ρ β↔∃(k7:Option (PV×Bool)),ρ=[some (PV.tup (Yl PV.str ls),false),some (PV.lst (Yl aQ rows),false),some (PV.lst (Yl PV.str ea),false),some (PV.str x,false),
    some (PV.lst (Yl PV.str (iW ls ea)),true),some (PV.int (cA ls x:Int),false),none,k7,none]/\β=.T (cL (jW ls ea x (rows.take i))) (iV (jW ls ea x (rows.take i))):=⟨_,λ_ _ _=>QG⟩
  refine⟨Iv,(bC _ _ _).mpr ⟨none,rfl,rfl⟩,?_,?_⟩
  ·intro i d ρ β hd hI;obtain⟨k7,rfl,rfl⟩:=(bC _ _ _).mp hI;rw[Xe]at hd;cases hr2:rows[i]? with
   | none=>rw[hr2]at hd;cases hd
   | some r=>
    rw[hr2]at hd;cases hd;have hrl:=rok.wide r (Xl hr2);have hkn:∀w∈iW ls ea,w∈ls:=λw hw=>(XH.mp hw).1;have hkl:(iW ls ea).length<=100:=XZ (Yo _ _) hl100;have hil:i<rows.length:=(Xf.mp hr2).1;have htl:(rows.take i).length<=10000:=by rw[XJ];have:=rok.many;lia
    obtain⟨gl,gc⟩:=Mf (rows.take i) [] (λr=>aZ r ls (iW ls ea)) (λr=>r.getD (cA ls x) 0) 0 (λp hp=>by cases hp);have gn:=Ma (rows.take i) [] (λr=>aZ r ls (iW ls ea)) (λr=>r.getD (cA ls x) 0) YH;have hcI:=yr (row:=r) hrl.symm hkn;have hci:cellsOf (r.map PV.int) ls (iW ls ea)=(aZ r ls (iW ls ea)).map PV.int:=by
     unfold aQ at hcI;injection hcI
    have hxi:=pK hx;obtain⟨cs,b1,b2,b3⟩:=zqo (g:=jW ls ea x (rows.take i)) gn (aZ r ls (iW ls ea)) (r.getD (cA ls x) 0);have hcl:cs.length<=10000:=by
     rcases b2 with rfl | ⟨κ,hκ⟩
     ·simp
     ·have:=gc _ hκ;simp only at this;lia
    have hstep:jW ls ea x (rows.take (i+1))=gF (jW ls ea x (rows.take i)) (aZ r ls (iW ls ea)) (r.getD (cA ls x) 0):=by
     unfold jW;rw[XS,hr2,Pj];rfl
    walk_at "go";refine⟨_,_,rfl,by decide,_,rfl,ls,iW ls ea,rfl,rfl,hkn,by rw[Xb];lia,hkl,?_,?_,aF (aZ r ls (iW ls ea)),?_,?_,PV.int (r.getD (cA ls x) 0),.inl ⟨_,.inr rfl,?_⟩,rfl,.inl (r.getD (cA ls x) 0),rfl,_,_,b1,?_,?_⟩
    ·rw[hci];exact yt _
    ·rw[hci];exact yt _
    ·rw[Ae];exact hcI
    ·have:(cL (jW ls ea x (rows.take i))).length<=10000:=by
      unfold cL;rw[Xb];have h0:(jW ls ea x (rows.take i)).length<=(0:Nat)+(rows.take i).length:=gl;lia
     lia
    ·refine eE ?_;rw[Xe,Xa (show cA ls x<r.length by lia),Xd,Xa (show cA ls x<r.length by lia)];rfl
    ·unfold aF;rw[Xb];lia
    ·walk_at "go";refine(bC _ _ _).mpr ⟨_,rfl,?_⟩;rw[hstep];exact b3
  ·intro ρ β hI;obtain⟨k7,rfl,rfl⟩:=(bC _ _ _).mp hI;rw[Xb,Xs (Xj _)];walk_at "go";walk_at "go";exact⟨by decide,q⟩
end
abbrev GP:=Tn×jx
def eF (g:jx)(κ:Tp):Tp:=((g.find? λp=>decide (p.1=κ)).map (·.2)).getD []
theorem zvh (g:jx)(κ:Tp):(fU (cL g) (iV g) (aF κ)).getD (.dK [] [])=rW (eF g κ):=by
 induction g with
 | nil=>rfl
 | cons p g ih=>
  unfold fU cL iV eF at *;simp only[Xz,YB,Yq];by_cases e:p.1=κ
  ·rw[Qd e,Qd (congrArg aF e)];rfl
  ·have:¬ aF p.1=aF κ:=λz=>e (yp z);rw[Qc e,Qc this];exact ih
theorem Mh (g:jx)(κ:Tp):eF g κ=[]\/∃e∈g,eF g κ=e.2:=by
 unfold eF;cases h:g.find? λp=>decide (p.1=κ)with
 | none=>exact .inl rfl
 | some e=>exact .inr ⟨e,List.mem_of_find?_eq_some h,rfl⟩
theorem zwa (cs:Tp)(c:Int):(fU (aF cs) (cs.map λ_=>PV.bl true) (.inl c)).isSome=decide (c∈cs):=by
 induction cs with
 | nil=>rfl
 | cons a cs ih=>
  unfold fU aF at *;simp only[Xz,YB,Yq];by_cases e:a=c
  ·subst e;simp
  ·have h2:¬ (Pr a:Key)=Pr c:=λz=>e (by injection z);rw[Qc h2];simp only;rw[ih];have:¬ c=a:=λz=>e z.symm;simp[this]
def jX (p:Tp)(ea:Tn)(gs:List GP):Td:=gs.map λg=>eF g.2 (aZ p ea g.1)
def inAll (ch:Td)(c:Int):Bool:=(ch.map λd=>decide (c∈d)).all id
theorem Mi {ch:Td}:inAll ch c=true↔∀d∈ch,c∈d:=by
 unfold inAll;rw[Ot,XV];simp
structure wj (parts:Td)(ea:Tn)(gs:List GP)(L:Td):Prop where
 mem:∀q,q∈L↔∃p∈parts,∃c,q=p++[c]/\inAll (jX p ea gs) c=true
 nd:parts.Nodup->(∀g∈gs,∀e∈g.2,e.2.Nodup)->L.Nodup
theorem wj.step {parts L:Td}{gs:List GP}(h:wj parts ea gs L)(p:Tp)(hcs:cs∈jX p ea gs):wj (parts++[p]) ea gs (L++(cs.filter (inAll (jX p ea gs))).map λc=>p++[c]) where
 mem q:=by
  rw[Xr,h.mem,Xv];constructor
  ·rintro(⟨r,hr,c,rfl,hc⟩ | ⟨c,hc,rfl⟩)
   ·exact⟨r,Xr.mpr (.inl hr),c,rfl,hc⟩
   ·exact⟨p,Xr.mpr (.inr (Xh.mpr rfl)),c,rfl,(XH.mp hc).2⟩
  ·rintro⟨r,hr,c,rfl,hc⟩;rcases Xr.mp hr with hr | hr
   ·exact .inl ⟨r,hr,c,rfl,hc⟩
   ·rw[Xh.mp hr]at hc ⊢;exact .inr ⟨c,XH.mpr ⟨Mi.mp hc cs hcs,hc⟩,rfl⟩
 nd hp hg:=by
  rw[Yt]at hp;obtain⟨h1,_,h3⟩:=hp;rw[Yt];have hcn:cs.Nodup:=by
   obtain⟨g,hg2,rfl⟩:=Xv.mp hcs;rcases Mh g.2 (aZ p ea g.1)with e | ⟨e,he,e2⟩
   ·rw[e];exact YH
   ·rw[e2];exact hg g hg2 e he
  refine⟨h.nd h1 hg,(hcn.filter _).map _ (λa b hab z=>hab (by simpa using z)),λa ha b hb e=>?_⟩;obtain⟨r,hr,c,rfl,_⟩:=(h.mem a).mp ha;obtain⟨c2,_,rfl⟩:=Xv.mp hb;exact h3 r hr p (Xh.mpr rfl) (List.append_inj_left' e rfl)
def yw (g:GP):PV:=.tup [.lst (g.1.map PV.str),LQ g.2]
structure Fd (ea:Tn)(M:Nat)(g:GP):Prop where
 sub:∀w∈g.1,w∈ea
 few:g.1.length<=100
 cells:∀e∈g.2,e.2.length<=M
def zbA:PF:=λds Q=>∃(parts:Td)(ea:Tn)(gs:List GP)(M:Nat),ds=[.lst (parts.map aQ),.lst (ea.map PV.str),.lst (gs.map yw)]/\gs≠[]/\gs.length<=100/\ea.length<=100/\(∀p∈parts,p.length=ea.length)/\(∀g∈gs,Fd ea M g)/\parts.length*M<=100000/\
 ∀L,wj parts ea gs L->L.length<=parts.length*M->Q (.lst (L.map aQ)) .new
theorem zki:fQ zbA:=λds Q Q' m ⟨a,b,c,d,e,h1,h2,h3,h4,h5,h6,q⟩=>⟨a,b,c,d,e,h1,h2,h3,h4,h5,h6,λL g l=>m _ _ (q L g l)⟩
section
variable {P:Wo}{w:Ws}{K:Xc}{mg:Tj}{base:Heap}
theorem Mj:fO ["parts","earlier","guides","grown","part","choices","cell"] ["parts","earlier","guides"] (aU pJ):=fsc
abbrev Qi:List Str:=["parts","earlier","guides","grown","part","choices","cell"]
theorem zoD (F:dU K "longer" "longer" pJ f fd) (aC:Y1 K mg f1 jw) (B:Bl mg):aJ P w K mg base bO 2 f fd ["parts","earlier","guides"] (bR K zbA):=by
 have bN:Z1 P w K mg base 1 f1 jw:=Ad aC.fn B;refine jt F Mj (λds Q ⟨a,b,c,d,e,_⟩=>by rw[e];rfl) (λcdv A outer s H E hr=>?_);have hu:=cu hr;have nd:=Mj.nd;refine⟨_,(bD (cH (i:=3) nd rfl (Qo rfl) (jC aL))
   (bD (nZ rfl Qs (jf (ak 0)) (bW (i:=4) nd rfl (Qp rfl)) (bD (xV (i:=5) (N:=["known","found","earlier","part"]) (k:=2) (js:=[1,4]) rfl (fP (sup:=aU pJ) (XN:=Qi) rfl rfl (by decide +kernel)) (by decide) (zB (rB (by decide) (by decide))) (jf (ak 2)) ⟨λ_ _ _ _ _=>(vP (n:=2) rfl (nU (bW (i:=0) (by show(["known","found","earlier","part"]:Tn).Nodup;decide +kernel) rfl (Qo rfl)) (nU (bW (i:=1) (by show(["known","found","earlier","part"]:Tn).Nodup;decide +kernel) rfl (Qo rfl)) vO))),λ_ _ _ _ _=>mj,λ_ _ _ _ _=>(zpQ (hu1 hu) (ak 1) (cD bN yo hr rfl aC.mg aC.fn.kp aC.bd (aB (ak 3) (aB (ak 2) (aB (ak 0) aL)))) Ko)⟩ nd rfl rfl)
   (bU (lE 5 (zpN rfl Qs (znM (zoo rfl rfl B.min rfl B.len (ak 5))) (bW (i:=6) nd rfl (Qp rfl)) (bU (qp (uF (zuF rfl rfl B.all (aB (jh (N:=["cells","cell"]) (k:=1) (js:=[6]) rfl (fP (sup:=aU pJ) (XN:=Qi) rfl rfl (by decide +kernel)) (by decide) (jd (by decide)) (jf (ak 5)) ⟨λ_ _ _ _ _=>(bW (i:=0) (by show(["cells","cell"]:Tn).Nodup;decide +kernel) rfl (Qo rfl)),λ_ _ _ _ _=>mj,λ_ _ _ _ _=>(zuM (hu1 hu) (ak 1) (ak 0))⟩) aL))) (bU (rA (vQ 3 (zsD (ak 4) (tH (aB (ak 6) aL)))))) qT)))))))
   (bU (gP (ak 3))))),λds Q h=>?_⟩
 obtain⟨parts,ea,gs,M,rfl,hgs,hg100,he100,hpl,hok,hM,q⟩:=h;have hsz:=Wr;walk_at "pu";walk_at "auto";obtain⟨Iv,bC⟩:∃Iv:Nat->au->Prop,∀i ρ,Iv i ρ↔∃(L:Td) (k4 k5 k6:Option (PV×Bool)),wj (parts.take i) ea gs L/\L.length<=i*M/\ρ=[some (PV.lst (Yl aQ parts),false),some (PV.lst (Yl PV.str ea),false),
     some (PV.lst (Yl yw gs),false),some (PV.lst (L.map aQ),true),k4,k5,k6]:=⟨_,λ_ _=>QG⟩
 refine⟨Iv,(bC _ _).mpr ⟨[],none,none,none,⟨λq=>by simp,λ_ _=>YH⟩,by simp,rfl⟩,?_,?_⟩
 ·intro i d ρ hd hI;obtain⟨L,k4,k5,k6,hG,hL,rfl⟩:=(bC _ _).mp hI;rw[Xe]at hd;cases hp:parts[i]? with
  | none=>rw[hp]at hd;cases hd
  | some p=>
   rw[hp]at hd;cases hd;have hpm:=Xl hp;have hpe:=hpl p hpm;have qR:i<parts.length:=(Xf.mp hp).1;have hiM:(i+1)*M<=100000:=XZ (Nat.mul_le_mul_right M qR) hM;have htk:parts.take (i+1)=parts.take i++[p]:=by rw[XS,hp];rfl
   walk_at "go";refine⟨by rw[Xb];lia,λj out=>out=(jX p ea (gs.take j)).map rW,rfl,?_,?_⟩
   ·rintro j d out hd-rfl;rw[Xe]at hd;cases hg:gs[j]? with
    | none=>rw[hg]at hd;cases hd
    | some g=>
     rw[hg]at hd;cases hd;have gok:=hok g (Xl hg);have hcI:=yr (row:=p) (ls:=ea) (ws:=g.1) hpe.symm gok.sub;refine⟨_,rfl,rfl,_,_,rfl,_,_,rfl,rfl,cL g.2,iV g.2,rfl,p.map PV.int,rfl,ea,g.1,rfl,rfl,gok.sub,by rw[Xb];lia,gok.few,aF (aZ p ea g.1),by rw[Ae];exact hcI,?_⟩;show _=_;rw[zvh,XS,hg];unfold jX;rw[Xp,Xp];rfl
   ·rintro out-rfl;rw[Xb,Xs (Xj _)];walk_at "go";have hcl:(jX p ea gs).length=gs.length:=by unfold jX;rw[Xb]
    have hg0:0<gs.length:=List.length_pos_iff.mpr hgs;refine⟨(jX p ea gs).map λcs=>(aF cs,cs.map λ_=>PV.bl true),by rw[Yk];rfl,by rw[Xb];lia,λz hz _=>?_⟩;obtain⟨cs,hcs,rfl⟩:=Xv.mp hz;have hcsM:cs.length<=M:=by
     obtain⟨g,hg2,rfl⟩:=Xv.mp hcs;rcases Mh g.2 (aZ p ea g.1)with e | ⟨e,he,e2⟩
     ·rw[e];exact Ye _
     ·rw[e2];exact(hok g hg2).cells e he
    have hwk:DK false (aF cs) (cs.map λ_=>PV.bl true)=cs.map PV.int:=by
     show(aF cs).map dG=_;unfold aF;rw[Yk];rfl
    simp only[hwk];obtain⟨Jv,lN⟩:∃Jv:Nat->au->Prop,∀j ρ,Jv j ρ↔∃(k6:Option (PV×Bool)),ρ=[some (PV.lst (Yl aQ parts),false),some (PV.lst (Yl PV.str ea),false),
     some (PV.lst (Yl yw gs),false),some (PV.lst ((L++((cs.take j).filter (inAll (jX p ea gs))).map λc=>p++[c]).map aQ),true),some (aQ p,false),some (PV.lst ((jX p ea gs).map rW),false),k6]:=⟨_,λ_ _=>QG⟩
    refine⟨Jv,(lN _ _).mpr ⟨k6,by simp⟩,?_,?_⟩
    ·intro j d ρ hd hJ;obtain⟨k6,rfl⟩:=(lN _ _).mp hJ;rw[Xe]at hd;cases hc:cs[j]? with
     | none=>rw[hc]at hd;cases hd
     | some c=>
      rw[hc]at hd;cases hd;have hjc:j<cs.length:=(Xf.mp hc).1;have hfl:((cs.take j).filter (inAll (jX p ea gs))).length<=j:=XZ (Yo _ _) (by rw[XJ];lia);walk_at "go";refine⟨by rw[Xb];lia,λm out=>out=(((jX p ea gs).take m).map λd=>decide (c∈d)).map PV.bl,rfl,?_,?_⟩
      ·rintro m d out hd-rfl;rw[Xe]at hd;cases hx:(jX p ea gs)[m]? with
       | none=>rw[hx]at hd;cases hd
       | some x=>
        rw[hx]at hd;cases hd;refine⟨aF x,x.map λ_=>PV.bl true,rfl,.inl c,rfl,?_⟩;show _=_;rw[zwa,XS,hx,Xp,Xp];rfl
      ·rintro out-rfl;rw[Xb,Xs (Xj _)];refine⟨_,rfl,?_⟩;refine dW (λe=>?_) (λe=>?_)
       ·walk_at "go";refine⟨by rw[Xb,Xy,Xb];rw[Nat.add_mul]at hiM;lia,by lia,p.map PV.int,rfl,by rw[Xb];lia,?_⟩;refine(lN _ _).mpr ⟨some (.int c,false),?_⟩;have e:inAll (jX p ea gs) c=true:=e;rw[XS,hc];simp[Yp,e,aQ]
       ·walk_at "go";refine(lN _ _).mpr ⟨some (.int c,false),?_⟩;have e:¬ inAll (jX p ea gs) c=true:=e;rw[XS,hc];simp[Yp,e]
    ·intro ρ hJ;obtain⟨k6,rfl⟩:=(lN _ _).mp hJ;rw[Xb,Xs (Xj _)];refine(bC _ _).mpr ⟨_,_,_,_,by rw[htk];exact hG.step p hcs,?_,rfl⟩;rw[Xy,Xb];have:=Yo (inAll (jX p ea gs)) cs;rw[Nat.add_mul];lia
 ·intro ρ hI;obtain⟨L,k4,k5,k6,hG,hL,rfl⟩:=(bC _ _).mp hI;rw[Xb]at hG hL;rw[Xs (Xj _)]at hG;walk_at "go";exact q L hG hL
end
theorem zsT (g:jx)(κ':Tp)(c':Int)(κ:Tp):eF (g.map λp=>if p.1=κ' then(p.1,bT p.2 c') else p) κ=if κ'=κ/\g.any (λp=>decide (p.1=κ'))=true then bT (eF g κ) c' else eF g κ:=by
 induction g with
 | nil=>simp[eF]
 | cons a g ih=>
  by_cases e:a.1=κ
  ·by_cases e2:κ'=κ
   ·subst e2;have hany:((a::g).any λp=>decide (p.1=κ'))=true:=by simp[e]
    rw[Qf ⟨rfl,hany⟩];unfold eF;rw[Xz,Qf e];simp[e]
   ·have hn:¬ a.1=κ':=λz=>e2 (z.symm.trans e);rw[Qe (λz=>e2 z.1)];unfold eF;rw[Xz,Qe hn];simp[e]
  ·have h1:¬ (if a.1=κ' then(a.1,bT a.2 c') else a).1=κ:=by split<;>exact e
   have hl:eF ((a::g).map λp=>if p.1=κ' then(p.1,bT p.2 c') else p) κ=eF (g.map λp=>if p.1=κ' then(p.1,bT p.2 c') else p) κ:=by
    unfold eF;rw[Xz,Yq,Qc h1]
   have hr:eF (a::g) κ=eF g κ:=by
    unfold eF;rw[Yq,Qc e]
   rw[hl,hr,ih];by_cases e2:κ'=κ
   ·subst e2;have:((a::g).any λp=>decide (p.1=κ'))=g.any λp=>decide (p.1=κ'):=by simp[e]
    rw[this]
   ·rw[Qe (λz=>e2 z.1),Qe (λz=>e2 z.1)]
theorem zqq (h:¬ g.any (λp=>decide (p.1=κ))=true):g.find? (λp=>decide (p.1=κ))=none:=by
 rw[List.find?_eq_none];intro x hx e;exact h (List.any_eq_true.mpr ⟨x,hx,e⟩)
theorem zqr (g:jx)(κ':Tp)(c':Int)(κ:Tp):eF (gF g κ' c') κ=if κ'=κ then bT (eF g κ) c' else eF g κ:=by
 unfold gF;by_cases h:g.any (λp=>decide (p.1=κ'))=true
 ·rw[Qf h,zsT];by_cases e:κ'=κ
  ·rw[Qf ⟨e,h⟩,Qf e]
  ·rw[Qe (λz=>e z.1),Qe e]
 ·rw[Qe h];unfold eF;rw[List.find?_append];by_cases e:κ'=κ
  ·subst e;rw[zqq h,Qf rfl];simp[bT]
  ·rw[Qe e];simp[e]
theorem Ml {d:Int}:d∈bT cs c↔d∈cs\/c=d:=by
 unfold bT;split
 ·constructor
  ·exact .inl
  ·rintro(h | rfl)
   ·exact h
   ·assumption
 ·rw[Xr,Xh];constructor<;>(rintro(h | h);exact .inl h;exact .inr h.symm)
theorem zsU (h:cs.Nodup):(bT cs c).Nodup:=by
 unfold bT;split
 ·exact h
 ·rename_i hn
  rw[Yt];exact⟨h,by simp,λa ha b hb e=>hn (by rw[<- Xh.mp hb,<- e];exact ha)⟩
theorem Mp:∀(rows:Td)(g:jx)(k:Tp->Tp)(c:Tp->Int)(κ:Tp)(d:Int),d∈eF (rows.foldl (λg r=>gF g (k r) (c r)) g) κ↔d∈eF g κ\/∃r∈rows,k r=κ/\c r=d
 | [],g,k,c,κ,d=>by simp
 | r::rows,g,k,c,κ,d=>by
  rw[Q0,Mp rows,zqr];by_cases e:k r=κ
  ·rw[Qf e,Ml];constructor
   ·rintro((h | h) | ⟨r2,h1,h2⟩)
    ·exact .inl h
    ·exact .inr ⟨r,Xg,e,h⟩
    ·exact .inr ⟨r2,Xi _ h1,h2⟩
   ·rintro(h | ⟨r2,h1,h2,h3⟩)
    ·exact .inl (.inl h)
    ·rcases Xx.mp h1 with rfl | h1
     ·exact .inl (.inr h3)
     ·exact .inr ⟨r2,h1,h2,h3⟩
  ·rw[Qe e];constructor
   ·rintro(h | ⟨r2,h1,h2⟩)
    ·exact .inl h
    ·exact .inr ⟨r2,Xi _ h1,h2⟩
   ·rintro(h | ⟨r2,h1,h2,h3⟩)
    ·exact .inl h
    ·rcases Xx.mp h1 with rfl | h1
     ·exact Qg h2 e
     ·exact .inr ⟨r2,h1,h2,h3⟩
theorem zqs (ls ea:Tn)(x:Str)(rows:Td)(κ:Tp)(d:Int):d∈eF (jW ls ea x rows) κ↔∃r∈rows,aZ r ls (iW ls ea)=κ/\r.getD (cA ls x) 0=d:=by
 unfold jW;rw[Mp];constructor
 ·rintro(h | h)
  ·exact Qg h (by simp[eF])
  ·exact h
 ·exact .inr
theorem zoE {Z:Tp->Prop}(h0:Z [c])(hs:∀cs,Z cs->Z (bT cs c))(h:∀p∈g,Z p.2):∀p∈gF g κ c,Z p.2:=by
 unfold gF;split
 ·intro p hp;obtain⟨q,hq,rfl⟩:=Xv.mp hp;by_cases e:q.1=κ
  ·rw[Qf e];exact hs _ (h q hq)
  ·rw[Qe e];exact h q hq
 ·intro p hp;rcases Xr.mp hp with hp | hp
  ·exact h p hp
  ·rw[Xh.mp hp];exact h0
theorem Mq {Z:Tp->Prop}:∀(rows:Td)(g:jx)(k:Tp->Tp)(c:Tp->Int),(∀r∈rows,Z [c r])->(∀r∈rows,∀cs,Z cs->Z (bT cs (c r)))->(∀p∈g,Z p.2)->∀p∈rows.foldl (λg r=>gF g (k r) (c r)) g,Z p.2
 | [],g,k,c,h0,hs,h=>h
 | r::rows,g,k,c,h0,hs,h=>Mq rows _ k c (λr2 m=>h0 r2 (Xi _ m)) (λr2 m=>hs r2 (Xi _ m)) (zoE (h0 r Xg) (hs r Xg) h)
theorem zkj (ls ea:Tn){rows:Td}(hx:x∈ls)(hw:∀r∈rows,r.length=ls.length){vals:Tp}(hv:∀r∈rows,∀c∈r,c∈vals):∀e∈jW ls ea x rows,e.2.Nodup/\∀c∈e.2,c∈vals:=by
 unfold jW;have hc:∀r∈rows,r.getD (cA ls x) 0∈vals:=λr hr=>by
  have hi:cA ls x<r.length:=by rw[hw r hr];exact pK hx
  rw[Xd,Xa hi];exact hv r hr _ (XY hi)
 refine Mq (Z:=λcs=>cs.Nodup/\∀c∈cs,c∈vals) rows [] _ _ (λr hr=>⟨by simp,λc hm=>by rw[Xh.mp hm];exact hc r hr⟩) (λr hr cs h=>⟨zsU h.1,λc hm=>?_⟩) (λp hp=>by cases hp);rcases Ml.mp hm with h2 | rfl
 ·exact h.2 c h2
 ·exact hc r hr
theorem Af {w:Str}(l:Tn)(h:w∈ea):cA (ea++l) w=cA ea w:=by
 have hl:=pK h;unfold cA iu at hl ⊢;rw[Xp,List.findIdx_append,Qf (by simpa using hl)]
theorem Mr (h:x∉ea):cA (ea++[x]) x=ea.length:=by
 unfold cA iu;have h1:(ea.map PV.str).findIdx (λy=>decide (y=PV.str x))=(ea.map PV.str).length:=by
  rw[List.findIdx_eq_length];intro y hy;obtain⟨z,hz,rfl⟩:=Xv.mp hy;exact Qc λe=>h (by injection e with e;rw[<- e];exact hz)
 rw[Xp,List.findIdx_append,Qe (by rw[h1];lia)];simp
def Fits (ls:Tn)(t:Td)(ea:Tn)(p:Tp):Prop:=∃r∈t,∀w∈ls,w∈ea->p.getD (cA ea w) 0=r.getD (cA ls w) 0
abbrev Tab:=Tn×Td
structure Parts (tabs:List Tab)(ea:Tn)(L:Td):Prop where
 nd:L.Nodup
 mem:∀p,p∈L↔p.length=ea.length/\∀b∈tabs,Fits b.1 b.2 ea p
def kO (tabs:List Tab)(ea:Tn)(x:Str):List GP:=(tabs.filter λb=>decide (x∈b.1)).map λb=>(iW b.1 ea,jW b.1 ea x b.2)
theorem Parts.start (tabs:List Tab):Parts tabs [] (if (tabs.all λb=>!b.2.isEmpty)=true then[[]] else[]):=by
 refine⟨by split<;>simp,λp=>?_⟩;have key:(tabs.all λb=>!b.2.isEmpty)=true↔∀b∈tabs,Fits b.1 b.2 [] []:=by
  rw[XV];refine⟨λh b hb=>?_,λh b hb=>?_⟩
  ·have:=h b hb;cases ht:b.2 with
   | nil=>rw[ht]at this;simp at this
   | cons r t=>exact⟨r,Xg,λw _ hw=>by cases hw⟩
  ·obtain⟨r,hr,_⟩:=h b hb;cases ht:b.2 with
   | nil=>rw[ht]at hr;cases hr
   | cons r t=>rfl
 by_cases h:(tabs.all λb=>!b.2.isEmpty)=true
 ·rw[Qf h,Xh];constructor
  ·rintro rfl;exact⟨rfl,key.mp h⟩
  ·rintro⟨e,_⟩;exact XQ.mp e
 ·rw[Qe h];constructor
  ·intro z;cases z
  ·rintro⟨e,z⟩;have:p=[]:=XQ.mp e;subst this;exact Qg (key.mpr z) h
theorem Fe {r:Tp}{ks:Tn}:aZ r ls ks=aZ p ea ks↔∀w∈ks,r.getD (cA ls w) 0=p.getD (cA ea w) 0:=by
 unfold aZ;rw[List.map_inj_left]
theorem Ah {i:Nat}(h:i<p.length):(p++[c]).getD i 0=p.getD i 0:=by
 rw[Xd,Xd,Yd h]
theorem Ms (p:Tp)(c:Int):(p++[c]).getD p.length 0=c:=by
 rw[Xd,XO (Xj _),Nat.sub_self];rfl
theorem zqt (hx:x∉ea)(hl:p.length=ea.length)(h:Fits ls t (ea++[x]) (p++[c])):Fits ls t ea p:=by
 obtain⟨r,hr,h⟩:=h;refine⟨r,hr,λw hw he=>?_⟩;have:=h w hw (Xr.mpr (.inl he));rw[Af [x] he,Ah (by rw[hl];exact pK he)]at this;exact this
theorem Mt (hx:x∉ea)(hl:p.length=ea.length)(hm:x∈ls):Fits ls t (ea++[x]) (p++[c])↔c∈eF (jW ls ea x t) (aZ p ea (iW ls ea)):=by
 rw[zqs];constructor
 ·rintro⟨r,hr,h⟩;refine⟨r,hr,Fe.mpr λw hw=>?_,?_⟩
  ·obtain⟨h1,h2⟩:=XH.mp hw;have h2:w∈ea:=by simpa using h2
   have:=h w h1 (Xr.mpr (.inl h2));rw[Af [x] h2,Ah (by rw[hl];exact pK h2)]at this;exact this.symm
  ·have:=h x hm (Xr.mpr (.inr (Xh.mpr rfl)));rw[Mr hx,<- hl,Ms]at this;exact this.symm
 ·rintro⟨r,hr,h1,h2⟩;refine⟨r,hr,λw hw he=>?_⟩;rcases Xr.mp he with he | he
  ·rw[Af [x] he,Ah (by rw[hl];exact pK he)];exact(Fe.mp h1 w (XH.mpr ⟨hw,by simpa using he⟩)).symm
  ·have:=Xh.mp he;subst this;rw[Mr hx,<- hl,Ms];exact h2.symm
theorem zmv (hl:p.length=ea.length)(hm:x∉ls)(h:Fits ls t ea p):Fits ls t (ea++[x]) (p++[c]):=by
 obtain⟨r,hr,h⟩:=h;refine⟨r,hr,λw hw he=>?_⟩;rcases Xr.mp he with he | he
 ·rw[Af [x] he,Ah (by rw[hl];exact pK he)];exact h w hw he
 ·exact Qg (Xh.mp he▸hw) hm
theorem Mu {tabs:List Tab}:inAll (jX p ea (kO tabs ea x)) c=true↔∀b∈tabs,x∈b.1->c∈eF (jW b.1 ea x b.2) (aZ p ea (iW b.1 ea)):=by
 rw[Mi];unfold jX kO;constructor
 ·intro h b hb hx;exact h _ (Xv.mpr ⟨_,Xv.mpr ⟨b,XH.mpr ⟨hb,by simpa using hx⟩,rfl⟩,rfl⟩)
 ·intro h d hd;obtain⟨g,hg,rfl⟩:=Xv.mp hd;obtain⟨b,hb,rfl⟩:=Xv.mp hg;obtain⟨h1,h2⟩:=XH.mp hb;exact h b h1 (by simpa using h2)
theorem Parts.step {tabs:List Tab}{L L':Td}(h:Parts tabs ea L)(hx:x∉ea)(hG:wj L ea (kO tabs ea x) L')(hn:∀g∈kO tabs ea x,∀e∈g.2,e.2.Nodup):Parts tabs (ea++[x]) L':=by
 refine⟨hG.nd h.nd hn,λq=>?_⟩;rw[hG.mem];constructor
 ·rintro⟨p,hp,c,rfl,hc⟩;obtain⟨hl,hf⟩:=(h.mem p).mp hp;refine⟨by simp[hl],λb hb=>?_⟩;by_cases hm:x∈b.1
  ·exact(Mt hx hl hm).mpr (Mu.mp hc b hb hm)
  ·exact zmv hl hm (hf b hb)
 ·rintro⟨hl,hf⟩;rw[Xy]at hl;have hne:q≠[]:=λe=>by subst e;simp at hl
  have e:=(List.dropLast_concat_getLast hne).symm;have hl2:q.dropLast.length=ea.length:=by rw[List.length_dropLast];simp at hl;lia
  rw[e]at hf;refine⟨q.dropLast,(h.mem _).mpr ⟨hl2,λb hb=>zqt hx hl2 (hf b hb)⟩,q.getLast hne,e,Mu.mpr λb hb hm=>(Mt hx hl2 hm).mp (hf b hb)⟩
def fj (tabs:List Tab):PV:=.lst (tabs.map λb=>.tup (b.1.map PV.str))
def aP (t:Td):PV:=.lst (t.map aQ)
def fB (tabs:List Tab):PV:=.lst (tabs.map λb=>aP b.2)
structure TabsOk (tabs:List Tab)(order:Tn)(vals:Tp):Prop where
 few:tabs.length<=100
 ls:∀b∈tabs,b.1.length<=100
 rows:∀b∈tabs,Fb b.1 b.2
 cells:∀b∈tabs,∀r∈b.2,∀c∈r,c∈vals
 nd:order.Nodup
 short:order.length<=100
 all:∀x∈order,∃b∈tabs,x∈b.1
 v1:1<=vals.length
 size:vals.length ^ order.length<=100000
structure Ff (tabs:List Tab):Prop where
 few:tabs.length<=100
 ls:∀b∈tabs,b.1.length<=100
 rows:∀b∈tabs,Fb b.1 b.2
def zaA:PF:=λds Q=>∃(tabs:List Tab)(ea:Tn)(x:Str),ds=[fj tabs,fB tabs,.lst (ea.map PV.str),.str x]/\Ff tabs/\Q (.lst ((kO tabs ea x).map yw)) .new
theorem zhO:fQ zaA:=λds Q Q' m ⟨a,b,c,e,h1,q⟩=>⟨a,b,c,e,h1,m _ _ q⟩
def Ai (Ls:Tc):PV:=.lst (Ls.map λL=>.lst (L.map aQ))
structure Mv (tabs:List Tab)(order:Tn)(vals:Tp)(n:Nat)(Ls:Tc):Prop where
 len:Ls.length=n+1
 at_:∀i L,Ls[i]? = some L->Parts tabs (order.take i) L/\L.length<=vals.length ^ i
def zav:PF:=λds Q=>∃(tabs:List Tab)(order:Tn)(vals:Tp),ds=[fj tabs,fB tabs,.lst (order.map PV.str)]/\TabsOk tabs order vals/\∀Ls,Mv tabs order vals order.length Ls->Q (Ai Ls) .new
theorem zgt:fQ zav:=λds Q Q' m ⟨a,b,c,e,h1,q⟩=>⟨a,b,c,e,h1,λL g=>m _ _ (q L g)⟩
theorem sub_len:∀ {l m:Tp},l.Nodup->(∀c∈l,c∈m)->l.length<=m.length
 | [],m,_,_=>Ye _
 | a::l,m,h,hs=>by
  rw[XI]at h;have ha:=hs a Xg;have:=sub_len (m:=m.erase a) h.2 (λc hc=>(List.mem_erase_of_ne (λe=>h.1 (by rw[<- e];exact hc))).mpr (hs c (Xi _ hc)));rw[List.length_erase_of_mem ha]at this;have:=List.length_pos_of_mem ha;rw[XX];lia
theorem Mw (ds:List PV)(i:Nat):ig ds none (some (i:Int))=ds.take i:=by
 unfold ig;rw[HT.U7,HT.yR,List.drop_zero,Nat.sub_zero];by_cases h:i<=ds.length
 ·rw[Oc h]
 ·rw[Nat.min_eq_right (by lia),Xs (Xj _),Xs (by lia)]
theorem Mx {ds:List PV}{d:PV}(h:ds[ds.length-1]? = some d):cW ds (-1)=some d:=by
 have hl:ds.length-1<ds.length:=(Xf.mp h).1;unfold cW jo;rw[Qe (by decide),Qf (by lia)];have e:((-1:Int)+(ds.length:Int)).toNat=ds.length-1:=by lia
 rw[e];exact h
section
variable {P:Wo}{w:Ws}{K:Xc}{mg:Tj}{base:Heap}
theorem My:fO ["shape","rows","earlier","letter"] ["shape","rows","earlier","letter"] (aU qz):=fsc
abbrev Y3 (K:Xc)(mg:Tj):=Fx K mg "guide_of" tY ["letters","rows","earlier","letter"]
theorem zkk {f2:We}{fd2:WA}(F:dU K "guides_to" "guides_to" qz f fd) (aC:Y1 K mg f1 jw) (bZ:Y3 K mg f2 fd2) (B:Bl mg):aJ P w K mg base bO 3 f fd ["shape","rows","earlier","letter"] (bR K zaA):=by
 have pL:aJ P w K mg base bO 2 f2 fd2 ["letters","rows","earlier","letter"] (bR K zbb):=zmt bZ.fn aC B;refine jt F My (λds Q ⟨a,b,c,e,_⟩=>by rw[e];rfl) (λcdv A outer s H E hr=>?_);have hu:=cu hr;have nd:=My.nd;refine⟨_,(bU (gP (jh (N:=["own","table","earlier","letter"]) (k:=2) (js:=[2,3]) rfl (fP (sup:=aU qz) (XN:=["shape","rows","earlier","letter"]) rfl rfl (by decide +kernel)) (by decide) (zB (rB (by decide) (by decide))) (zss rfl B.zip (aB (ak 0) (aB (ak 1) aL))) ⟨λ_ _ _ _ _=>(vP (n:=2) rfl (nU (bW (i:=0) (by show(["own","table","earlier","letter"]:Tn).Nodup;decide +kernel) rfl (Qo rfl)) (nU (bW (i:=1) (by show(["own","table","earlier","letter"]:Tn).Nodup;decide +kernel) rfl (Qo rfl)) vO))),λ_ _ _ _ _=>(o7 (zG hu (ak 3) (ak 0))),λ_ _ _ _ _=>(cD pL zji hr rfl bZ.mg bZ.fn.kp bZ.bd (aB (ak 0) (aB (ak 1) (aB (ak 2) (aB (ak 3) aL)))))⟩))),λds Q h=>?_⟩;obtain⟨tabs,ea,x,rfl,ok,q⟩:=h;have hsz:=Wr;have hf:=ok.few;walk_at "pu";refine⟨_,rfl,_,rfl,?_⟩;refine⟨by rw[Ef,Xb,Xb];lia,λj out=>out=(kO (tabs.take j) ea x).map yw,rfl,?_,?_⟩
 ·rintro j d out hd-rfl;obtain⟨u,v,hu2,hv2,rfl⟩:=Kc hd;rw[Xe]at hu2 hv2;cases hb:tabs[j]? with
  | none=>rw[hb]at hu2;cases hu2
  | some b=>
   rw[hb]at hu2 hv2;cases hu2;cases hv2;have hbm:=Xl hb;have htl:tabs.take (j+1)=tabs.take j++[b]:=by rw[XS,hb];rfl
   refine⟨_,rfl,?_⟩;walk_at "pu";refine⟨yu b.1,dW (λe=>?_) (λe=>?_)⟩
   ·have hm:x∈b.1:=rY.mp e;refine⟨b.1,rfl,ea,x,b.2,rfl,rfl,rfl,ok.ls b hbm,hm,ok.rows b hbm,?_⟩;have hg1:kO (tabs.take (j+1)) ea x=kO (tabs.take j) ea x++[(iW b.1 ea,jW b.1 ea x b.2)]:=by
     rw[htl];unfold kO;rw[Yp,Xp];simp[hm]
    rw[hg1,Xp];rfl
   ·have hm:¬ x∈b.1:=λz=>e (rY.mpr z);have hg1:kO (tabs.take (j+1)) ea x=kO (tabs.take j) ea x:=by
     rw[htl];unfold kO;rw[Yp,Xp];simp[hm]
    rw[hg1]
 ·rintro out-rfl;rw[Ef,Xb,Xb,Nat.min_self,Xs (Xj _)];exact q
theorem Mz:fO ["shape","rows","order","found","place","letter","earlier"] ["shape","rows","order"] (aU tZ):=fsc
theorem zhP {f2 f3 f4:We}{fd2 qH pM:WA}(F:dU K "parts_along" "parts_along" tZ f fd) (aC:Y1 K mg f1 jw) (bZ:Y3 K mg f2 fd2) (fD:Fx K mg "longer" pJ ["parts","earlier","guides"] f3 qH) (cF:Fx K mg "guides_to" qz ["shape","rows","earlier","letter"] f4 pM) (B:Bl mg):aJ P w K mg base bO 4 f fd ["shape","rows","order"] (bR K zav):=by
 have m9:aJ P w K mg base bO 3 f4 pM ["shape","rows","earlier","letter"] (bR K zaA):=zkk cF.fn aC bZ B;have rZ:aJ P w K mg base bO 3 f3 qH ["parts","earlier","guides"] (bR K zbA):=(zoD fD.fn aC B).mono (by decide);refine jt F Mz (λds Q ⟨a,b,c,e,_⟩=>by rw[e];rfl) (λcdv A outer s H E hr=>?_);have hu:=cu hr;have nd:=Mz.nd;refine⟨_,(bD (cH (i:=3) nd rfl (Qo rfl) (jC (aB (zpB (uF (zsw rfl rfl B.all (aB (ak 1) aL))) (jC (aB (tH aL) aL)) (jC aL)) aL)))
   (bD (nZ rfl Qs (Ec rfl B.enumerate (ak 2)) (vP (n:=2) rfl (nU (bW (i:=4) nd rfl (Qo rfl)) (nU (bW (i:=5) nd rfl (Qo rfl)) vO))) (bD (cH (i:=6) nd rfl (Qo rfl) (zL (ak 2) zJ (zK (ak 4))))
   (bU (lE 6 (rA (vQ 3 (cD rZ zki hr rfl fD.mg fD.fn.kp fD.bd (aB (cO (ak 3) (zU bA)) (aB (ak 6) (aB (cD m9 zhO hr rfl cF.mg cF.fn.kp cF.bd (aB (ak 0) (aB (ak 1) (aB (ak 6) (aB (ak 5) aL))))) aL))))))))))
   (bU (gP (ak 3))))),λds Q h=>?_⟩
 obtain⟨tabs,order,vals,rfl,ok,q⟩:=h;have hsz:=Wr;walk_at "pu";have hh:∀L0:Td,Parts tabs [] L0->L0.length<=1->dX
       (pSeq
        (pFor (zcl (pVar 2)) (zds 2 (zbI (zbu 4) (zbI (zbu 5) zdr)))
         (pSeq (pSet 6 (pSlL (pVar 2) zdu (zdv (pVar 4))))
          (pFrz 6
           (zci
            (mApp 3
             (zbt zbA
              (zbw (t2 pIx (pVar 3) (pNeg (pC (PV.int 1))))
               (zbw (pVar 6)
                (zbw
                 (zbt zaA
                  (zbw (pVar 0) (zbw (pVar 1) (zbw (pVar 6) (zbw (pVar 5) pNil)))))
                 pNil)))))))))
        (pRet (pVar 3)))
       {nx:=λx=>Q PV.non Kd.aH,rt:=Q,bk:=λx=>False,ct:=λx=>False }
       [some (fj tabs,false),some (fB tabs,false),some (PV.lst (Yl PV.str order),false),
        some (Ai [L0],true),none,none,none]:=by
  intro L0 hP0 hL0;walk_at "go";obtain⟨Iv,bC⟩:∃Iv:Nat->au->Prop,∀i ρ,Iv i ρ↔∃(Ls:Tc) (k4 k5 k6:Option (PV×Bool)),Mv tabs order vals i Ls/\ρ=[some (fj tabs,false),some (fB tabs,false),some (PV.lst (Yl PV.str order),false),
        some (Ai Ls,true),k4,k5,k6]:=⟨_,λ_ _=>QG⟩
  refine⟨Iv,(bC _ _).mpr ⟨[L0],none,none,none,⟨rfl,λi L e=>?_⟩,rfl⟩,?_,?_⟩
  ·match i,e with
   | 0,e=>cases e;exact⟨by simpa using hP0,by simpa using hL0⟩
   | i+1,e=>simp at e
  ·intro i d ρ hd hI;obtain⟨Ls,k4,k5,k6,hLs,rfl⟩:=(bC _ _).mp hI;obtain⟨x,hx,rfl⟩:=zP hd;rw[Xe]at hx;cases ho:order[i]? with
   | none=>rw[ho]at hx;cases hx
   | some x=>
    rw[ho]at hx;cases hx;refine⟨_,rfl,?_⟩;walk_at "pu";have hio:i<order.length:=(Xf.mp ho).1;have hxo:x∈order:=Xl ho;have htk:order.take (i+1)=order.take i++[x]:=by rw[XS,ho];rfl
    have hxn:x∉order.take i:=λz=>by
     have h1:(order.take (i+1)).Nodup:=(Oe _ _).nodup ok.nd;rw[htk,Yt]at h1;exact h1.2.2 x z x (Xh.mpr rfl) rfl
    have hlen:=hLs.len;have iH:Ls[i]? = some (Ls[i]'(by lia)):=Xa (by lia);obtain⟨hP,hL⟩:=hLs.at_ i _ iH;generalize Ls[i]'(by lia)=L at iH hP hL;walk_at "go";rw[Mw,<- List.map_take];walk_at "go";have hgc:∀g∈kO tabs (order.take i) x,(∀w∈g.1,w∈order.take i)/\g.1.length<=100/\∀e∈g.2,e.2.Nodup/\e.2.length<=vals.length:=λg hg=>by
     obtain⟨b,hb,rfl⟩:=Xv.mp hg;obtain⟨h1,h2⟩:=XH.mp hb;have h2:x∈b.1:=by simpa using h2
     refine⟨λw hw=>by have:=(XH.mp hw).2;simpa using this,XZ (Yo _ _) (ok.ls b h1),λe he=>?_⟩;obtain⟨n1,n2⟩:=zkj b.1 (order.take i) h2 (ok.rows b h1).wide (ok.cells b h1) e he;exact⟨n1,sub_len n1 n2⟩
    have hpow:L.length*vals.length<=100000:=by
     refine XZ (Nat.mul_le_mul_right _ hL) ?_;rw[<- Nat.pow_succ];exact XZ (Nat.pow_le_pow_right ok.v1 hio) ok.size
    have hlo:(order.take i).length<=100:=by rw[XJ];have:=ok.short;lia
    have hso:=ok.short;refine⟨_,rfl,by rw[Xb];lia,PV.lst (L.map aQ),.inl ⟨_,.inl rfl,Mx ?_⟩,tabs,rfl,rfl,order.take i,rfl,⟨ok.few,ok.ls,ok.rows⟩,L,rfl,order.take i,rfl,kO tabs (order.take i) x,rfl,?_,?_,hlo,λp hp=>((hP.mem p).mp hp).1,vals.length,λg hg=>⟨(hgc g hg).1,(hgc g hg).2.1,λe he=>((hgc g hg).2.2 e he).2⟩,hpow,λL' hG hl=>?_⟩
    ·rw[Xb,hlen,O2,Xe,iH];rfl
    ·obtain⟨b,hb,hx⟩:=ok.all x hxo;have:(iW b.1 (order.take i),jW b.1 (order.take i) x b.2)∈kO tabs (order.take i) x:=Xv.mpr ⟨b,XH.mpr ⟨hb,by simpa using hx⟩,rfl⟩;exact List.ne_nil_of_mem this
    ·unfold kO;rw[Xb];exact XZ (Yo _ _) ok.few
    ·refine(bC _ _).mpr ⟨Ls++[L'],_,_,_,⟨by rw[Xy,hlen];rfl,λj M e=>?_⟩,by unfold Ai;rw[Xp];rfl⟩;rcases Nf j Ls.length with hj | hj
     ·rw[Yd hj]at e;exact hLs.at_ j M e
     ·rw[XO hj]at e;have hj0:j-Ls.length=0:=by
       rcases Nat.eq_zero_or_pos (j-Ls.length)with z | z
       ·exact z
       ·rw[XD (by simp;lia)]at e;cases e
      rw[hj0]at e;have e:L'=M:=Qa e;have hji:j=i+1:=by lia
      rw[<- e,hji,htk];refine⟨hP.step hxn hG λg hg e he=>((hgc g hg).2.2 e he).1,XZ hl ?_⟩;rw[Nat.pow_succ];exact Nat.mul_le_mul_right _ hL
  ·intro ρ hI;obtain⟨Ls,k4,k5,k6,hLs,rfl⟩:=(bC _ _).mp hI;rw[vZ,Xb]at hLs;walk_at "go";exact q Ls hLs
 refine⟨tabs.map λb=>b.2.map aQ,by unfold fB aP;rw[Yk];rfl,?_⟩;have hst:=Parts.start tabs;have hall:((tabs.map λb=>b.2.map aQ).all λd=>!d.isEmpty)=tabs.all λb=>!b.2.isEmpty:=by
  rw[Ot]
  congr 1
  funext b;show(!(b.2.map aQ).isEmpty) = !b.2.isEmpty;cases b.2<;>rfl
 rw[hall];refine dW (λe=>?_) (λe=>?_)
 ·rw[Qf e]at hst;exact⟨by lia,by lia,by lia,hh _ hst (by simp)⟩
 ·rw[Qe e]at hst;exact⟨by lia,by lia,hh _ hst (by simp)⟩
end
open K01 (mix vg abc stepOf tW Ez)
def fMix:PF:=λds Q=>∃c j:Int,ds=[.int c,.int j]/\0<=j/\j<=1000/\Q (.int (mix c j)) .aH
theorem nu:fQ fMix:=λds Q Q' m ⟨c,j,e,h1,h2,q⟩=>⟨c,j,e,h1,h2,m _ _ q⟩
section
variable {P:Wo}{w:Ws}{K:Xc}{mg:Tj}{base:Heap}
theorem MF:fO ["_law_cell","_law_j","_law_number"] ["_law_cell","_law_j"] (aU lM):=fsc
abbrev Z2 (P:Wo)(w:Ws)(K:Xc)(mg:Tj)(base:Heap)(k:Nat)(f:We)(fd:WA):=aJ P w K mg base bO k f fd ["_law_cell","_law_j"] (bR K fMix)
theorem Aj (F:dU K "_law_mix" "_law_mix" lM f fd):Z2 P w K mg base 1 f fd:=by
 refine jt F MF (λds Q ⟨c,j,e,_⟩=>by rw[e];rfl) (λcdv A outer s H E hr=>?_);have hu:=cu hr;have nd:=MF.nd;refine⟨_,(bD (qp (lY.t (Ji (vR hu (iQ (ak 0) bA) bA) (Jh (uL hu (IK (ak 0) bA) bA)))) (bU (gP (iQ (IK (ak 0) (lD bA (tD bA (ak 1)))) bA))) qT)
   (bD (cH (i:=2) nd rfl (Qo rfl) (iQ (lD (tD (ak 0) (lD (tD bA (ak 1)) bA)) (ak 1)) bA))
   (bD (cH (i:=2) nd rfl (Qo rfl) (iQ (tD (lD (tD (ak 2) (ak 2)) bA) bA) bA))
   (bU (gP (iQ (tD (ak 2) (ak 2)) bA)))))),λds Q h=>?_⟩
 obtain⟨c,j,rfl,h0,h1,q⟩:=h;have n1:=YD (c*(2*j+3)+j) (show(2147483629:Int)≠0 by decide);have n2:=Ob (c*(2*j+3)+j) (show(0:Int)<2147483629 by decide);have b2:∀z:Int,oR (z % 2147483629) (z % 2147483629):=λz=>.inl ⟨by lia,by lia⟩;have els:¬ (c % 2=1/\c / 2 ^ 27≠0)->Q (.int ((((c*(2*j+3)+j) % 2147483629*((c*(2*j+3)+j) % 2147483629)+1)*48271 % 2147483629)*(((c*(2*j+3)+j) % 2147483629*((c*(2*j+3)+j) % 2147483629)+1)*48271 % 2147483629) % 2147483587)) .aH:=λhn=>by
  unfold mix at q;rw[Qe hn]at q;exact q
 walk_at "pu";refine⟨by decide,dW (λe1=>⟨by decide,dW (λe2=>?a) (λe2=>?b)⟩) (λe1=>?c)⟩
 case a=>
  walk_at "auto";unfold mix at q;rw[Qf ⟨e1,e2⟩]at q;exact q
 case b=>
  walk_at "auto";exact els λz=>e2 z.2
 case c=>
  walk_at "auto";exact els λz=>e1 z.1
theorem take_snoc {α:Type}{l:List α}{i:Nat}{o:α}(h:l[i]? = some o):l.take i++[o]=l.take (i+1):=by rw[XS,h];rfl
def wu (c:Int):Tn:=tW (mix c 1 % 26).toNat (stepOf (mix c 2 % 6).toNat)
theorem zkl (c:Int):(wu c).Nodup:=Ez _ _ (by lia) (by lia)
theorem zjn (c:Int):(wu c).length=6:=by simp[wu,tW]
abbrev ABC:Str:="ABCDEFGHIJKLMNOPQRSTUVWXYZ"
theorem zvj:∀n:Nat,n<26->ABC.cps.toList[n]? = some (65+n):=by decide +kernel
theorem zsV:ABC.length=26:=by decide +kernel
theorem zqu:∀n:Nat,n<6->cW [PV.int 1,PV.int 3,PV.int 5,PV.int 7,PV.int 9,PV.int 11] (n:Int)=some (PV.int (stepOf n)):=λn h=>eE (by
 match n,h with
 | 0,_=>rfl
 | 1,_=>rfl
 | 2,_=>rfl
 | 3,_=>rfl
 | 4,_=>rfl
 | 5,_=>rfl)
def fG (c:Int):Tn:=wu c
theorem zsW (c:Int):(fG c).Nodup:=zkl c
theorem yx (c:Int):(fG c).length=6:=zjn c
def zbc:PF:=λds Q=>∃c:Int,ds=[.int c]/\Q (.lst ((fG c).map PV.str)) .new
theorem zjo:fQ zbc:=λds Q Q' m ⟨c,e,q⟩=>⟨c,e,m _ _ q⟩
theorem MJ:fO ["_law_cell","_law_letters_here","_law_start","_law_step"] ["_law_cell"] (aU rQ):=fsc
abbrev Y2 (K:Xc)(mg:Tj):=Fx K mg "_law_mix" lM ["_law_cell","_law_j"]
theorem zmw {fM:We}{su:WA}(F:dU K "_law_letters" "_law_letters" rQ f fd) (Mix:Y2 K mg fM su) (B:Bl mg):aJ P w K mg base bO 2 f fd ["_law_cell"] (bR K zbc):=by
 have c7:Z2 P w K mg base 1 fM su:=Aj Mix.fn;refine jt F MJ (λds Q ⟨c,e,_⟩=>by rw[e];rfl) (λcdv A outer s H E hr=>?_);have hu:=cu hr;have nd:=MJ.nd;refine⟨_,(bD (cH (i:=1) nd rfl (Qp rfl) zug)
   (bD (cH (i:=2) nd rfl (Qp rfl) (iQ (cD c7 nu hr rfl Mix.mg Mix.fn.kp Mix.bd (aB (ak 0) (aB bA aL))) bA))
   (bD (cH (i:=3) nd rfl (Qp rfl) (cO (jC (aB bA (aB bA (aB bA (aB bA (aB bA (aB bA aL))))))) (iQ (cD c7 nu hr rfl Mix.mg Mix.fn.kp Mix.bd (aB (ak 0) (aB bA aL))) bA)))
   (bU (gP (jh (N:=["_law_k","_law_letters_here","_law_start","_law_step"]) (k:=1) (js:=[1,2,3]) rfl (fP (sup:=aU rQ) (XN:=["_law_cell","_law_letters_here","_law_start","_law_step"]) rfl rfl (by decide +kernel)) (by decide) (jd (by decide)) (nY rfl B.range (aB bA aL)) ⟨λ_ _ _ _ _=>(bW (i:=0) (by show(["_law_k","_law_letters_here","_law_start","_law_step"]:Tn).Nodup;decide +kernel) rfl (Qo rfl)),λ_ _ _ _ _=>mj,λ_ _ _ _ _=>(cO (ak 1) (iQ (lD (ak 2) (tD (ak 3) (ak 0))) bA))⟩)))))),λds Q h=>?_⟩
 obtain⟨c,rfl,q⟩:=h;have m1:=vg c 1;have m2:=vg c 2;have e1:mix c 1 % 26=((mix c 1 % 26).toNat:Int):=by lia
 have e2:mix c 2 % 6=((mix c 2 % 6).toNat:Int):=by lia
 walk_at "pu";walk_at "auto";refine⟨_,by rw[e2];exact zqu _ (by lia),?_⟩;walk_at "go";have hl:(jE 0 (6:Int).toNat).length=6:=lZ 0 _;refine⟨by decide,by decide,by rw[hl,Wr];decide,λi out=>out=((fG c).map PV.str).take i,rfl,?_,?_⟩
 ·rintro i d out hd-rfl;obtain⟨hi,rfl⟩:=o6 hd;have hi6:i<6:=hi;have n0:((mix c 1 % 26)+(stepOf (mix c 2 % 6).toNat:Int)*(0+(i:Int))) % 26=((((mix c 1 % 26).toNat+stepOf (mix c 2 % 6).toNat*i) % 26:Nat):Int):=by
   rw[Q8,e1];lia
  refine⟨_,rfl,.inr ⟨by lia,by lia⟩,by decide,by rw[zsV];decide,_,⟨65+((mix c 1 % 26).toNat+stepOf (mix c 2 % 6).toNat*i) % 26,?_,rfl⟩,take_snoc ?_⟩
  ·rw[n0];exact eE (zvj _ (Nat.mod_lt _ (by decide)))
  ·unfold fG;rw[Xe];unfold wu tW;simp[List.getElem?_range (show i<6 by lia),abc]
 ·rintro out-rfl;rw[hl,Xs (by rw[Xb,yx];exact Xj _)];exact q
end
def cB (sh:Te):PV:=.lst (sh.map λls=>.tup (ls.map PV.str))
end Q21
set_option maxHeartbeats 7000000
namespace Q21
open PySem PySem.Spec L2 PL
open PyProof.Rows hiding St
open K01 (mix vg abc stepOf tW Ez)
variable {f fM f1 f2 f3 f4:We}{fd su jw fd2 qH pM:WA}{ls:Tn}{w s0 s1:Str}{i p n j k o:Nat}{row cells nums r:Tp}{t l:Td}{sh:Te}{F ts:Tc}{c:Int}{α:Type}{s:oK}{ps:Tf}{rk:Tw}{vs:eG}{D:Str->Int}{us:Tq}
def far (c:Int):Int:=c % (10 ^ 60-1)
def aK (c:Int):Tp:=[[far c,0],[far c,-far c,far c+1],[0,-far c,1]].getD (mix c 70 % 3).toNat []
theorem Ak (c:Int):2<=(aK c).length/\(aK c).length<=3:=by
 unfold aK;have h:(mix c 70 % 3).toNat<3:=by lia
 generalize (mix c 70 % 3).toNat=n at h
 match n,h with
 | 0,_=>exact⟨by show 2<=_;simp,by simp⟩
 | 1,_=>exact⟨by show 2<=_;simp,by simp⟩
 | 2,_=>exact⟨by show 2<=_;simp,by simp⟩
def zbm:PF:=λds Q=>∃c:Int,ds=[.int c]/\Q (.lst ((aK c).map PV.int)) .aH
theorem zjq:fQ zbm:=λds Q Q' m ⟨c,e,q⟩=>⟨c,e,m _ _ q⟩
local macro_rules | `(tactic| walk_at "pu")=>puM
local macro_rules | `(tactic| walk_at "go")=>`(tactic| ((first | (with_reducible refine hold ?_) | (with_reducible refine zy ?_) | (with_reducible refine J5 ?_));walk_at "pu"))
local macro_rules | `(tactic| walk_at "side")=>`(tactic| first | assumption | decide | lia | exact⟨by decide,by decide⟩ | exact⟨by decide,by decide,by decide⟩ | exact Or.inl ⟨by lia,by lia⟩ | exact Or.inr ⟨by lia,by lia⟩)
local macro_rules | `(tactic| walk_at "auto")=>`(tactic| repeat (first | ((with_reducible refine hold ?_);walk_at "pu") | ((with_reducible refine zy ?_);walk_at "pu") | ((with_reducible refine And.intro ?_ ?_);(· walk_at "side"))))
section
variable {P:Wo}{w:Ws}{K:Xc}{mg:Tj}{base:Heap}
theorem MK:fO ["_law_cell","_law_far"] ["_law_cell"] (aU t7):=fsc
theorem zmx (F:dU K "_law_numbers" "_law_numbers" t7 f fd) (Mix:Y2 K mg fM su) (B:Bl mg):aJ P w K mg base bO 2 f fd ["_law_cell"] (bR K zbm):=by
 have c7:Z2 P w K mg base 1 fM su:=Aj Mix.fn;refine jt F MK (λds Q ⟨c,e,_⟩=>by rw[e];rfl) (λcdv A outer s H E hr=>?_);have hu:=cu hr;have nd:=MK.nd;refine⟨_,(bD (cH (i:=1) nd rfl (Qo rfl) (iQ (ak 0) (zui (zuj bA bA) bA)))
   (bU (gP (cO (jC (aB (jC (aB (ak 1) (aB bA aL))) (aB (jC (aB (ak 1) (aB (zU (ak 1)) (aB (lD (ak 1) bA) aL)))) (aB (jC (aB bA (aB (zU (ak 1)) (aB bA aL)))) aL)))) (iQ (cD c7 nu hr rfl Mix.mg Mix.fn.kp Mix.bd (aB (ak 0) (aB bA aL))) bA))))),λds Q h=>?_⟩
 obtain⟨c,rfl,q⟩:=h;walk_at "pu";walk_at "auto";have m:=vg c 70;have e2:mix c 70 % 3=((mix c 70 % 3).toNat:Int):=by lia
 have h3:(mix c 70 % 3).toNat<3:=by lia
 refine⟨.lst ((aK c).map PV.int),?_,q⟩;rw[e2];refine eE ?_;unfold aK;generalize (mix c 70 % 3).toNat=n at h3
 match n,h3 with
 | 0,_=>rfl
 | 1,_=>rfl
 | 2,_=>rfl
end
open mX (ltI z9 wg ye Aa Ac)
theorem Fg (h:w∈ls):ls[cA ls w]? = some w:=by
 have h1:(ls.map PV.str).findIdx (λy=>decide (y=PV.str w))<(ls.map PV.str).length:=QS ⟨.str w,Xv.mpr ⟨w,h,rfl⟩,by simp⟩;have h2:=List.findIdx_getElem (p:=λy=>decide (y=PV.str w)) (xs:=ls.map PV.str) (w:=h1);have h3:(ls.map PV.str)[(ls.map PV.str).findIdx (λy=>decide (y=PV.str w))]? = some (PV.str w):=by rw[Xa h1];exact congrArg some (Qh h2)
 rw[Xe]at h3;show ls[(ls.map PV.str).findIdx (λy=>decide (y=PV.str w))]? = some w;cases e:ls[(ls.map PV.str).findIdx (λy=>decide (y=PV.str w))]? with
 | none=>rw[e]at h3;cases h3
 | some y=>rw[e]at h3;cases h3;rfl
theorem zvk (nd:ls.Nodup)(h:ls[i]? = some w):cA ls w=i:=by
 have hm:=Xl h;have h1:=pK hm;exact(List.getElem?_inj h1 nd).mp ((Fg hm).trans h.symm)
theorem Fi (row:Tp)(ls ws:Tn):(aZ row ls ws).length=ws.length:=by unfold aZ;rw[Xb]
theorem MN {ws:Tn}(h:w∈ws):(aZ row ls ws).getD (cA ws w) 0=row.getD (cA ls w) 0:=by
 unfold aZ;rw[Xd,Xe,Fg h];rfl
theorem wz {A B C:Tn}(h:∀w∈C,w∈B):aZ (aZ row A B) B C=aZ row A C:=by
 show C.map _=C.map _;exact Yg λw hw=>MN (h w hw)
theorem wA (nd:ls.Nodup)(hl:row.length=ls.length):aZ row ls ls=row:=by
 refine List.ext_getElem? λi=>?_;unfold aZ;rw[Xe];cases h:ls[i]? with
 | none=>
  have:ls.length<=i:=by simpa using h
  simp;lia
 | some w=>
  have hi:i<ls.length:=(Xf.mp h).1;rw[Option.map_some,zvk nd h,Xd,Xa (show i<row.length by lia)];rfl
theorem MP {ea:Tn}{p:Tp}(nd:ls.Nodup)(hs:∀w∈ls,w∈ea)(hw:∀r∈t,r.length=ls.length):Fits ls t ea p↔aZ p ea ls∈t:=by
 constructor
 ·rintro⟨r,hr,h⟩;have:aZ p ea ls=r:=by
   rw[<- wA nd (hw r hr)];show ls.map _=ls.map _;exact Yg λw hm=>h w hm (hs w hm)
  rw[this];exact hr
 ·intro h;exact⟨_,h,λw hm _=>(MN hm).symm⟩
def qI (cells:Tp):Nat->Td
 | 0=>[[]]
 | n+1=>(qI cells n).flatMap λp=>cells.map λc=>p++[c]
theorem vo:∀ {n:Nat}{p:Tp},p∈qI cells n↔p.length=n/\∀c∈p,c∈cells
 | 0,p=>by
  show p∈[[]]↔_;rw[Xh];constructor
  ·rintro rfl;exact⟨rfl,λc h=>by cases h⟩
  ·rintro⟨h,_⟩;exact XQ.mp h
 | n+1,p=>by
  show p∈(qI cells n).flatMap _↔_;rw[List.mem_flatMap];constructor
  ·rintro⟨q,hq,hp⟩;obtain⟨c,hc,rfl⟩:=Xv.mp hp;obtain⟨h1,h2⟩:=vo.mp hq;refine⟨by simp[h1],λd hd=>?_⟩;rcases Xr.mp hd with hd | hd
   ·exact h2 d hd
   ·rw[Xh.mp hd];exact hc
  ·rintro⟨h1,h2⟩;have hne:p≠[]:=λe=>by subst e;simp at h1
   have e:=(List.dropLast_concat_getLast hne).symm;refine⟨p.dropLast,vo.mpr ⟨by rw[List.length_dropLast];lia,λc hc=>h2 c ((List.dropLast_sublist p).mem hc)⟩,Xv.mpr ⟨p.getLast hne,h2 _ (List.getLast_mem hne),e.symm⟩⟩
theorem MT:∀ {p q:Tp}{a b:Int},p.length=q.length->ltI p q=true->ltI (p++[a]) (q++[b])=true
 | [],[],_,_,_,h=>by cases h
 | [],_::_,_,_,hl,_=>by simp at hl
 | _::_,[],_,_,hl,_=>by simp at hl
 | x::p,y::q,a,b,hl,h=>by
  unfold ltI at h;show ltI (x::(p++[a])) (y::(q++[b]))=true;unfold ltI;by_cases e:x=y
  ·rw[Qf e]at h ⊢;exact MT (by simpa using hl) h
  ·rw[Qe e]at h ⊢;exact h
theorem M4:∀ {p:Tp}{a b:Int},a<b->ltI (p++[a]) (p++[b])=true
 | [],a,b,h=>by
  show ltI [a] [b]=true;unfold ltI;rw[Qe (by lia)];exact Qd h
 | x::p,a,b,h=>by
  show ltI (x::(p++[a])) (x::(p++[b]))=true;unfold ltI;rw[Qf rfl];exact M4 h
theorem M5 (hc:cells.Pairwise (· < ·)):∀n:Nat,(qI cells n).Pairwise (λx y=>ltI x y=true)
 | 0=>by show[([]:Tp)].Pairwise _;simp
 | n+1=>by
  show((qI cells n).flatMap _).Pairwise _;rw[List.pairwise_flatMap];refine⟨λp _=>?_,(M5 hc n).imp_of_mem λ{p q} hp hq h x hx y hy=>?_⟩
  ·rw[O8];exact hc.imp λ{a b} h=>M4 h
  ·obtain⟨a,_,rfl⟩:=Xv.mp hx;obtain⟨b,_,rfl⟩:=Xv.mp hy;exact MT (by rw[(vo.mp hp).1,(vo.mp hq).1]) h
def Fj (tabs:List Tab)(names:Tn)(p:Tp):Bool:=tabs.all λb=>decide (aZ p names b.1∈b.2)
def j9 (tabs:List Tab)(names:Tn)(cells:Tp):Td:=(qI cells names.length).filter (Fj tabs names)
theorem zqv (h:l.Pairwise (λx y=>ltI x y=true)):l.Nodup:=h.imp λ{a b} h e=>by subst e;rw[z9]at h;cases h
theorem zqw {tabs:List Tab}{order names:Tn}{cells:Tp}{L:Td}(hP:Parts tabs order L)(no:order.Nodup)(nn:names.Nodup)(hm:∀w,w∈order↔w∈names)
  (nl:∀b∈tabs,b.1.Nodup) (hw:∀b∈tabs,∀r∈b.2,r.length=b.1.length) (hs:∀b∈tabs,∀w∈b.1,w∈names) (ha:∀w∈names,∃b∈tabs,w∈b.1) (hc:∀b∈tabs,∀r∈b.2,∀c∈r,c∈cells) (hp:cells.Pairwise (· < ·)) :
  sortI (L.map λp=>aZ p order names)=j9 tabs names cells:=by
 have hlen:order.length=names.length:=((List.perm_ext_iff_of_nodup no nn).mpr hm).length_eq;have pwd:(j9 tabs names cells).Pairwise (λx y=>ltI x y=true):=(M5 hp _).filter _
 symm
 refine K4 ((List.perm_ext_iff_of_nodup (zqv pwd) ?_).mpr λq=>?_) (pwd.imp λ{a b} h=>wg _ _ h)
 ·rw[List.Nodup,O8];refine hP.nd.imp_of_mem λ{a b} h1 h2 hab e=>hab ?_;have l1:=((hP.mem a).mp h1).1;have l2:=((hP.mem b).mp h2).1;have e1:aZ (aZ a order names) names order=a:=by rw[wz λw hw=>(hm w).mp hw,wA no l1]
  have e2:aZ (aZ b order names) names order=b:=by rw[wz λw hw=>(hm w).mp hw,wA no l2]
  rw[<- e1,<- e2,e]
 ·unfold j9;rw[XH,vo,Xv];unfold Fj;rw[XV];constructor
  ·rintro⟨⟨h1,h2⟩,h3⟩;have eq:aZ (aZ q names order) order names=q:=by rw[wz λw hw=>(hm w).mpr hw,wA nn h1]
   refine⟨aZ q names order,(hP.mem _).mpr ⟨Fi _ _ _,λb hb=>?_⟩,eq⟩;rw[MP (nl b hb) (λw hx=>(hm w).mpr (hs b hb w hx)) (hw b hb),wz λw hx=>(hm w).mpr (hs b hb w hx)];exact Qh (h3 b hb)
  ·rintro⟨p,h1,rfl⟩;obtain⟨l1,hf⟩:=(hP.mem p).mp h1;have hin:∀b∈tabs,aZ (aZ p order names) names b.1∈b.2:=λb hb=>by
    rw[wz (hs b hb)];exact(MP (nl b hb) (λw hx=>(hm w).mpr (hs b hb w hx)) (hw b hb)).mp (hf b hb)
   refine⟨⟨Fi _ _ _,λc hcm=>?_⟩,λb hb=>Qd (hin b hb)⟩;obtain⟨w,hwn,rfl⟩:=Xv.mp hcm;obtain⟨b,hb,hwb⟩:=ha w hwn;refine hc b hb _ (hin b hb) _ ?_;rw[wz (hs b hb)];exact Xv.mpr ⟨w,hwb,rfl⟩
structure Names (sh:Te)(ns:Tn):Prop where
 nd:ns.Nodup
 mem:∀x,x∈ns↔∃p∈sh,x∈p
 v9:sortedS ns=true
theorem Names.uniq {a b:Tn}(h1:Names sh a)(h2:Names sh b):a=b:=
 K01.LC (K01.Lz a h1.v9) (K01.Lz b h2.v9) h1.nd h2.nd λx=>(h1.mem x).trans (h2.mem x).symm
def lO (x:Str):Int:=((x.cps.getD 0 0:Nat):Int)
def dZ (F:Tc)(i:Nat)(r:Tp):Tc:=if r∈F.getD i [] then F else F.set i (F.getD i []++[r])
structure RW (sh:Te)(nums:Tp)(F:Tc)(n:Nat):Prop where
 len:F.length=sh.length
 row:∀i l,F[i]? = some l->l.length<=n/\∀r∈l,r.length=(sh.getD i []).length/\∀c∈r,c∈nums
theorem RW.start (sh:Te)(nums:Tp):RW sh nums (sh.map λ_=>[]) 0:=by
 refine⟨by simp,λi l h=>?_⟩;rw[Xe]at h;cases e:sh[i]? with
 | none=>rw[e]at h;cases h
 | some x=>rw[e]at h;cases h;exact⟨by simp,λr hr=>by cases hr⟩
theorem RW.weak {m:Nat}(h:RW sh nums F n)(hm:n<=m):RW sh nums F m:=⟨h.len,λi l e=>⟨XZ (h.row i l e).1 hm,(h.row i l e).2⟩⟩
theorem RW.put (h:RW sh nums F n)(hi:i<sh.length)(hr:r.length=(sh.getD i []).length)(hc:∀c∈r,c∈nums):RW sh nums (dZ F i r) (n+1):=by
 unfold dZ;split
 ·exact h.weak (QX _)
 ·have hiF:i<F.length:=by rw[h.len];exact hi
  refine⟨by rw[Yb];exact h.len,λj l e=>?_⟩;rw[List.getElem?_set]at e;by_cases hij:i=j
  ·subst hij;rw[Qf rfl,Qf hiF]at e;have e:=Qa e;have g:F.getD i []=F[i]:=by rw[Xd,Xa hiF];rfl
   obtain⟨h1,h2⟩:=h.row i F[i] (Xa hiF);rw[g]at e;rw[<- e];refine⟨by rw[Xy];simp;lia,λr' hr'=>?_⟩;rcases Xr.mp hr' with hr' | hr'
   ·exact h2 r' hr'
   ·rw[Xh.mp hr'];exact⟨hr,hc⟩
  ·rw[Qe hij]at e;obtain⟨h1,h2⟩:=h.row j l e;exact⟨by lia,h2⟩
def kW (c:Int)(n:Nat):Nat:=(mix c 1 % (n:Int)).toNat
theorem M6 (h:0<n):kW c n<n:=by
 unfold kW;have:=YD (mix c 1) (show(n:Int)≠0 by lia);have:=Ob (mix c 1) (show(0:Int)<n by lia);lia
def numAt (nums:Tp)(i:Int):Int:=nums.getD (i % (nums.length:Int)).toNat 0
theorem Fl {i:Int}(h:0<nums.length):(i % (nums.length:Int)).toNat<nums.length:=by
 have:=YD i (show(nums.length:Int)≠0 by lia);have:=Ob i (show(0:Int)<nums.length by lia);lia
theorem M7 {i:Int}(h:0<nums.length):numAt nums i∈nums:=by
 unfold numAt;rw[Xd,Xa (Fl h)];exact XY _
def rowOf (nums:Tp)(c:Int)(k:Nat):Tp:=(Yj k).map λ(j:Nat)=>numAt nums (mix c (2+(j:Int)))
def t8 (nums:Tp)(ls:Tn):Tp:=ls.map λw=>numAt nums (lO w)
def cT (sh:Te)(nums:Tp)(cells:Tp):Tc:=cells.foldl (λF c=>dZ F (kW c sh.length) (rowOf nums c (sh.getD (kW c sh.length) []).length)) (sh.map λ_=>[])
def jL (sh:Te)(nums:Tp)(F:Tc)(m:Nat):Tc:=(Yj m).foldl (λF i=>dZ F i (t8 nums (sh.getD i []))) F
def lQ (sh:Te)(nums:Tp)(cells:Tp)(total:Int):Tc:=if mix total 71 % 4 > 0 then jL sh nums (cT sh nums cells) sh.length else cT sh nums cells
theorem M8 (h:0<nums.length)(c:Int)(k:Nat):(rowOf nums c k).length=k/\∀x∈rowOf nums c k,x∈nums:=by
 refine⟨by simp[rowOf],λx hx=>?_⟩;obtain⟨j,_,rfl⟩:=Xv.mp hx;exact M7 h
theorem M9 (h:0<nums.length)(ls:Tn):(t8 nums ls).length=ls.length/\∀x∈t8 nums ls,x∈nums:=by
 refine⟨by simp[t8],λx hx=>?_⟩;obtain⟨j,_,rfl⟩:=Xv.mp hx;exact M7 h
theorem zoG (sh:Te)(nums:Tp)(cells:Tp)(c:Int):cT sh nums (cells++[c])=dZ (cT sh nums cells) (kW c sh.length) (rowOf nums c (sh.getD (kW c sh.length) []).length):=by
 unfold cT;rw[Pj];rfl
theorem Ni (sh:Te)(nums:Tp)(F:Tc)(m:Nat):jL sh nums F (m+1)=dZ (jL sh nums F m) m (t8 nums (sh.getD m [])):=by
 unfold jL;rw[O5,Pj];rfl
theorem RW.fold (hs:0<sh.length)(hn:0<nums.length):∀(cells:Tp)(F:Tc)(n:Nat),RW sh nums F n->RW sh nums (cells.foldl (λF c=>dZ F (kW c sh.length) (rowOf nums c (sh.getD (kW c sh.length) []).length)) F) (n+cells.length)
 | [],F,n,h=>h
 | c::cells,F,n,h=>by
  have:=RW.fold hs hn cells _ (n+1) (h.put (i:=kW c sh.length) (r:=rowOf nums c (sh.getD (kW c sh.length) []).length) (M6 hs) (M8 hn c _).1 (M8 hn c _).2);rw[Q0,XX,show n+(cells.length+1)=n+1+cells.length by lia];exact this
theorem Al (hs:0<sh.length)(hn:0<nums.length)(cells:Tp):RW sh nums (cT sh nums cells) cells.length:=by
 have:=RW.fold hs hn cells _ 0 (RW.start sh nums);rw[Nat.zero_add]at this;exact this
theorem Fo (hn:0<nums.length)(h:RW sh nums F n):∀m,m<=sh.length->RW sh nums (jL sh nums F m) (n+m)
 | 0,_=>h
 | m+1,hm=>by
  rw[Ni];exact(Fo hn h m (by lia)).put (by lia) (M9 hn _).1 (M9 hn _).2
theorem Fp (hs:0<sh.length)(hn:0<nums.length)(cells:Tp)(total:Int):RW sh nums (lQ sh nums cells total) (cells.length+sh.length):=by
 unfold lQ;split
 ·exact Fo hn (Al hs hn cells) _ (Xj _)
 ·exact(Al hs hn cells).weak (by lia)
def gG (sh:Te)(cells:Tp)(total:Int):Tc:=(lQ sh (aK total) cells total).map sortI
structure yC (sh:Te):Prop where
 pos:0<sh.length
 few:sh.length<=6
 pat:∀ls∈sh,1<=ls.length/\ls.length<=4/\ls.Nodup/\∀x∈ls,x.length=1
def zgu:PF:=λds Q=>∃(sh:Te)(cells:Tp)(total:Int),ds=[cB sh,.lst (cells.map PV.int),.int total]/\yC sh/\cells.length<=63/\Q (.lst ((gG sh cells total).map aP)) .new
theorem Nj:fQ zgu:=λds Q Q' m ⟨a,b,c,e,h1,h2,q⟩=>⟨a,b,c,e,h1,h2,m _ _ q⟩
theorem zmy (l:Td):(l.map aQ).all (PL.plain 6)=true:=by
 rw[Ot,XV];intro r _;show PL.plain 6 (PV.tup (r.map PV.int))=true;simp[PL.plain]
theorem zqx {a b:Tp}(h:aQ a=aQ b):a=b:=by
 unfold aQ at h;injection h with h;exact List.map_inj_right (λx y e=>by injection e) |>.mp h
theorem Nk:aQ r∈l.map aQ↔r∈l:=by
 rw[Xv];constructor
 ·rintro⟨x,hx,e⟩;rw[<- zqx e];exact hx
 ·exact λh=>⟨r,h,rfl⟩
theorem zvl {m:Nat}(h:m<n):jo n (m:Int)=some m:=by
 unfold jo;rw[Qf (by lia),Qf (by lia)];simp
theorem Nm {O:gA}{a0 a1 a2 a3 a5:Option (PV×Bool)}(hl:F[n]? = some l)(hs:l.length<Wi)(h:O.nx [a0,a1,a2,a3,none,a5,some (.int (n:Int),false),some (aQ r,false)] (BX.L ((dZ F n r).map aP))) :
  lH (bxIf (tBl (t2 (pIn true) (pVar 7) (t2 pIx (pVar 4) (pVar 6)))) (zdE 4 (pVar 6) (pVar 7)) zbU 4) O [a0,a1,a2,a3,none,a5,some (.int (n:Int),false),some (aQ r,false)] (BX.L (F.map aP)):=by
 have hg:F.getD n []=l:=by rw[Xd,hl];rfl
 have hnl:n<F.length:=(Xf.mp hl).1;walk_at "go";refine⟨aP l,eE (by rw[Xe,hl];rfl),l.map aQ,.inl rfl,by unfold aQ;simp[PL.plain],zmy l,dW (λe=>?_) (λe=>?_)⟩
 ·have hm:¬ r∈l:=λz=>e (Nk.mpr z);walk_at "go";have e2:(dZ F n r).map aP=(F.map aP).set n (.lst (l.map aQ++[aQ r])):=by
   unfold dZ;rw[hg,Qe hm,List.map_set]
   congr 1
   unfold aP;rw[Xp];rfl
  rw[e2]at h;exact⟨n,_,rfl,zvl (by rw[Xb];exact hnl),l.map aQ,by rw[Xe,hl];rfl,by rw[Xb];exact hs,yt r,h⟩
 ·have hm:r∈l:=Om λz=>e λy=>z (Nk.mp y);walk_at "go";have e2:dZ F n r=F:=by unfold dZ;rw[hg,Qf hm]
  rw[e2]at h;exact h
section
variable {P:Wo}{w:Ws}{K:Xc}{mg:Tj}{base:Heap}
theorem Np:fO ["_law_shape","_law_cells","_law_total","_law_numbers_here","_law_found","_law_cell","_law_i","_law_row"] ["_law_shape","_law_cells","_law_total"] (aU oJ):=fsc
abbrev Qj:List Str:=["_law_shape","_law_cells","_law_total","_law_numbers_here","_law_found","_law_cell","_law_i","_law_row"]
theorem zsY {fN:We}{fdN:WA}(F:dU K "_law_rows" "_law_rows" oJ f fd) (Mix:Y2 K mg fM su) (Numbers:Fx K mg "_law_numbers" t7 ["_law_cell"] fN fdN) (B:Bl mg):aJ P w K mg base bO 3 f fd ["_law_shape","_law_cells","_law_total"] (bR K zgu):=by
 have c7:Z2 P w K mg base 2 fM su:=(Aj Mix.fn).mono (by decide);have pN:aJ P w K mg base bO 2 fN fdN ["_law_cell"] (bR K zbm):=zmx Numbers.fn Mix B;refine jt F Np (λds Q ⟨a,b,c,e,_⟩=>by rw[e];rfl) (λcdv A outer s H E hr=>?_);have hu:=cu hr;have nd:=Np.nd;refine⟨_,(bD (cH (i:=3) nd rfl (Qp rfl) (cD pN zjq hr rfl Numbers.mg Numbers.fn.kp Numbers.bd (aB (ak 2) aL)))
   (ziK (N:=["_law_pattern"]) (z:=4) rfl (fP (sup:=aU oJ) (XN:=Qj) rfl rfl (by decide +kernel)) (jf (ak 0)) (λ_ _ _ _ _=>yL (i:=0) (by show(["_law_pattern"]:Tn).Nodup;decide +kernel) rfl (Qo rfl)) nd rfl rfl (vX (yc (i:=5) nd rfl (Qp rfl) rfl Qs (jf (ak 1)) (vX (Eb (i:=6) nd rfl (Qo rfl) (iQ (cD c7 nu hr rfl Mix.mg Mix.fn.kp Mix.bd (aB (ak 5) (aB bA aL))) (o8 rfl B.len (aB (ak 0) aL))))
   (vX (Eb (i:=7) nd rfl (Qo rfl) (xY rfl B.tuple (aB (jh (N:=["_law_k","_law_numbers_here","_law_cell"]) (k:=1) (js:=[3,5]) rfl (fP (sup:=aU oJ) (XN:=Qj) rfl rfl (by decide +kernel)) (by decide) (jd (by decide)) (nY rfl B.range (aB (o8 rfl B.len (aB (cO (ak 0) (ak 6)) aL)) aL)) ⟨λ_ _ _ _ _=>(bW (i:=0) (by show(["_law_k","_law_numbers_here","_law_cell"]:Tn).Nodup;decide +kernel) rfl (Qo rfl)),λ_ _ _ _ _=>mj,λ_ _ _ _ _=>(cO (ak 1) (iQ (cD c7 nu hr rfl Mix.mg Mix.fn.kp Mix.bd (aB (ak 2) (aB (lD bA (ak 0)) aL))) (o8 rfl B.len (aB (ak 1) aL))))⟩) aL)))
   (uU (Ea (Dn hu (ak 7) (cO (ak 4) (ak 6))) (uU (J8 (ak 6) (ak 7))) zO)))))
   (vX (Ea (Dm (iQ (cD c7 nu hr rfl Mix.mg Mix.fn.kp Mix.bd (aB (ak 2) (aB bA aL))) bA) bA) (uU (yc (i:=6) nd rfl (Qo rfl) rfl Qs (nY rfl B.range (aB (o8 rfl B.len (aB (ak 0) aL)) aL)) (vX (Eb (i:=7) nd rfl (Qo rfl) (xY rfl B.tuple (aB (jh (N:=["_law_letter","_law_numbers_here"]) (k:=1) (js:=[3]) rfl (fP (sup:=aU oJ) (XN:=Qj) rfl rfl (by decide +kernel)) (by decide) (jd (by decide)) (xT (cO (ak 0) (ak 6))) ⟨λ_ _ _ _ _=>(bW (i:=0) (by show(["_law_letter","_law_numbers_here"]:Tn).Nodup;decide +kernel) rfl (Qo rfl)),λ_ _ _ _ _=>mj,λ_ _ _ _ _=>(cO (ak 1) (iQ (zuL rfl B.ord (aB (ak 0) aL)) (o8 rfl B.len (aB (ak 1) aL))))⟩) aL)))
   (uU (Ea (Dn hu (ak 7) (cO (ak 4) (ak 6))) (uU (J8 (ak 6) (ak 7))) zO))))) zO)
   (J7 (bU (gP (jh (N:=["_law_lines"]) (k:=1) (js:=[]) rfl (fP (sup:=aU oJ) (XN:=Qj) rfl rfl (by decide +kernel)) (by decide) (jd (by decide)) (jf (ak 4)) ⟨λ_ _ _ _ _=>(bW (i:=0) (by show(["_law_lines"]:Tn).Nodup;decide +kernel) rfl (Qo rfl)),λ_ _ _ _ _=>mj,λ_ _ _ _ _=>(K9 rfl B.sorted (aB (ak 0) aL))⟩)))))))),λds Q h=>?_⟩
 obtain⟨sh,cells,total,rfl,ok,h63,q⟩:=h;have hsz:=Wr;walk_at "pu";walk_at "auto";have hfew:=ok.few;have hpos:=ok.pos;have hn:=Ak total;refine⟨_,rfl,by rw[Xb];lia,?_⟩;have hβ0:Ya (sh.map λls=>PV.tup (ls.map PV.str)).length (PV.lst [])=(cT sh (aK total) (cells.take 0)).map aP:=by
  unfold cT;rw[Xb,List.take_zero,List.foldl_nil,Yk];show _=sh.map (Function.const _ (PV.lst []));rw[List.map_const]
 rw[hβ0];walk_at "go";obtain⟨Iv,bC⟩:∃Iv:Nat->au->BX->Prop,∀i ρ β,Iv i ρ β↔∃(k5 k6 k7:Option (PV×Bool)),ρ=[some (cB sh,false),some (PV.lst (Yl PV.int cells),false),some (PV.int total,false),
      some (PV.lst (Yl PV.int (aK total)),false),none,k5,k6,k7]/\β=.L ((cT sh (aK total) (cells.take i)).map aP):=⟨_,λ_ _ _=>QG⟩
 refine⟨Iv,(bC _ _ _).mpr ⟨none,none,none,rfl,rfl⟩,?_,?_⟩
 ·intro i d ρ β hd hI;obtain⟨k5,k6,k7,rfl,rfl⟩:=(bC _ _ _).mp hI;rw[Xe]at hd;cases hc:cells[i]? with
  | none=>rw[hc]at hd;cases hd
  | some c=>
   rw[hc]at hd;cases hd;have m1:=vg c 1;have hix:=M6 (c:=c) hpos;walk_at "go";refine⟨by decide,by decide,_,rfl,by rw[Xb];lia,?_⟩;have em:mix c 1 % ((sh.map λls=>PV.tup (ls.map PV.str)).length:Int)=((kW c sh.length:Nat):Int):=by
    rw[Xb];have:=YD (mix c 1) (show(sh.length:Int)≠0 by lia);unfold kW;lia
   rw[em];obtain⟨ls,hls⟩:∃ls,sh[kW c sh.length]? = some ls:=⟨_,Xa hix⟩;have hlg:sh.getD (kW c sh.length) []=ls:=by rw[Xd,hls];rfl
   have hp:=ok.pat ls (Xl hls);have hR:=Al hpos (show 0<(aK total).length by lia) (cells.take i);have hst:cT sh (aK total) (cells.take (i+1))=dZ (cT sh (aK total) (cells.take i)) (kW c sh.length) (rowOf (aK total) c ls.length):=by
    rw[XS,hc];show cT sh (aK total) (cells.take i++[c])=_;rw[zoG,hlg]
   generalize cT sh (aK total) (cells.take i)=F0 at hR hst;walk_at "go";have hlen:(jE 0 ((ls.map PV.str).length:Int).toNat).length=ls.length:=by rw[lZ,Xb];simp
   have hp4:=hp.2.1;refine⟨PV.tup (ls.map PV.str),.inl ⟨_,.inl rfl,eE (by rw[Xe,hls];rfl)⟩,_,rfl,by lia,by rw[Xb];lia,by rw[hlen];lia,λk out=>out=(rowOf (aK total) c k).map PV.int,rfl,?_,?_⟩
   ·rintro k d out hd-rfl;obtain⟨hk,rfl⟩:=o6 hd;rw[Q8];have hk:k<ls.length:=by rw[Xb]at hk;lia
    have hnl:(0:Int)<((aK total).map PV.int).length:=by rw[Xb];lia
    refine⟨(k:Int),rfl,by lia,by lia,hnl,PV.int (numAt (aK total) (mix c (2+(k:Int)))),?_,?_⟩
    ·rw[Xb];have e0:=YD (mix c (2+(k:Int))) (show((aK total).length:Int)≠0 by lia);have hlt:=Fl (nums:=aK total) (i:=mix c (2+(k:Int))) (by lia);have e1:mix c (2+(k:Int)) % ((aK total).length:Int)=(((mix c (2+(k:Int)) % ((aK total).length:Int)).toNat:Nat):Int):=by lia
     rw[e1];refine eE ?_;rw[Xe,Xa hlt];unfold numAt;rw[Xd,Xa hlt];rfl
    ·show _=_;unfold rowOf;rw[O5,Xp,Xp];rfl
   ·rintro out-rfl;rw[hlen];have hix2:kW c sh.length<F0.length:=by rw[hR.len];exact hix
    have hF:=Xa hix2;have hz:=(hR.row _ _ hF).1;refine⟨yt _,Nm hF (by rw[XJ]at hz;lia) ((bC _ _ _).mpr ⟨_,_,_,rfl,by rw[hst]⟩)⟩
 ·intro ρ β hI;obtain⟨k5,k6,k7,rfl,rfl⟩:=(bC _ _ _).mp hI;rw[Xb,Xs (Xj _)];have fin:∀(F:Tc) (k5 k6 k7:Option (PV×Bool)),lQ sh (aK total) cells total=F->lH
         (zck 4 (pRet (zcZ 1 [] (iLst (pVar 4)) (zbu 0) zcM (PL.tB zca (zbw (pVar 0) pNil)))))
         {nx:=λx x_1=>False,rt:=Q,bk:=λx x_1=>False,ct:=λx x_1=>False }
      [some (cB sh,false),some (PV.lst (Yl PV.int cells),false),some (PV.int total,false),
       some (PV.lst (Yl PV.int (aK total)),false),none,k5,k6,k7]
      (BX.L (Yl aP F)):=by
   intro F k5 k6 k7 hF;have hR:=Fp hpos (show 0<(aK total).length by lia) cells total;have hq:gG sh cells total=F.map sortI:=by unfold gG;rw[hF]
   rw[hF]at hR;rw[hq]at q;walk_at "go";walk_at "go";refine⟨by rw[Xb,hR.len];lia,λi out=>out=((F.take i).map sortI).map aP,rfl,?_,?_⟩
   ·rintro i d out hd-rfl;rw[Xe]at hd;cases hl:F[i]? with
    | none=>rw[hl]at hd;cases hd
    | some l=>
     rw[hl]at hd;cases hd;obtain⟨r1,r2⟩:=hR.row i l hl;refine⟨l,rfl,λr hr z=>?_,?_⟩
     ·have hw:=(r2 r hr).1;rw[z]at hw;have hi:i<sh.length:=by rw[<- hR.len];exact(Xf.mp hl).1
      have hg:sh.getD i []=sh[i]:=by rw[Xd,Xa hi];rfl
      rw[hg]at hw;have:=(ok.pat _ (XY hi)).1;simp at hw;lia
     ·show _=_;rw[XS,hl,Xp,Xp];rfl
   ·rintro out-rfl;rw[Xb,Xs (Xj _)];exact q
  walk_at "go";refine⟨by decide,by decide,by decide,dW (λe=>?_) (λe=>?_)⟩
  ·walk_at "go";have hlen:(jE 0 ((sh.map λls=>PV.tup (ls.map PV.str)).length:Int).toNat).length=sh.length:=by rw[lZ,Xb];simp
   obtain⟨Jv,lN⟩:∃Jv:Nat->au->BX->Prop,∀i ρ β,Jv i ρ β↔∃(k5 k6 k7:Option (PV×Bool)),ρ=[some (cB sh,false),some (PV.lst (Yl PV.int cells),false),some (PV.int total,false),
      some (PV.lst (Yl PV.int (aK total)),false),none,k5,k6,k7]/\β=.L ((jL sh (aK total) (cT sh (aK total) cells) i).map aP):=⟨_,λ_ _ _=>QG⟩
   refine⟨_,rfl,by lia,by rw[Xb];lia,Jv,(lN _ _ _).mpr ⟨_,_,_,rfl,rfl⟩,?_,?_⟩
   ·intro i d ρ β hd hJ;obtain⟨k5,k6,k7,rfl,rfl⟩:=(lN _ _ _).mp hJ;obtain⟨hi,rfl⟩:=o6 hd;rw[Q8];have hi:i<sh.length:=by rw[Xb]at hi;lia
    obtain⟨ls,hls⟩:∃ls,sh[i]? = some ls:=⟨_,Xa hi⟩;have hlg:sh.getD i []=ls:=by rw[Xd,hls];rfl
    have hp:=ok.pat ls (Xl hls);have hp4:=hp.2.1;have hR:=Fo (show 0<(aK total).length by lia) (Al hpos (show 0<(aK total).length by lia) cells) i (by lia);have hst:jL sh (aK total) (cT sh (aK total) cells) (i+1)=dZ (jL sh (aK total) (cT sh (aK total) cells) i) i (t8 (aK total) ls):=by rw[Ni,hlg]
    generalize jL sh (aK total) (cT sh (aK total) cells) i=F0 at hR hst;walk_at "go";refine⟨PV.tup (ls.map PV.str),.inl ⟨_,.inl rfl,eE (by rw[Xe,hls];rfl)⟩,_,rfl,by rw[Xb];lia,λk out=>out=(t8 (aK total) (ls.take k)).map PV.int,rfl,?_,?_⟩
    ·rintro k d out hd-rfl;rw[Xe]at hd;cases hx:ls[k]? with
     | none=>rw[hx]at hd;cases hd
     | some x=>
      rw[hx]at hd;cases hd;have hnl:(0:Int)<((aK total).map PV.int).length:=by rw[Xb];lia
      refine⟨x,rfl,hp.2.2.2 x (Xl hx),hnl,PV.int (numAt (aK total) (lO x)),?_,?_⟩
      ·rw[Xb];show cW _ (lO x % _)=_;have e0:=YD (lO x) (show((aK total).length:Int)≠0 by lia);have hlt:=Fl (nums:=aK total) (i:=lO x) (by lia);have e1:lO x % ((aK total).length:Int)=(((lO x % ((aK total).length:Int)).toNat:Nat):Int):=by lia
       rw[e1];refine eE ?_;rw[Xe,Xa hlt];unfold numAt;rw[Xd,Xa hlt];rfl
      ·show _=_;unfold t8;rw[XS,hx,Xp,Xp];rfl
    ·rintro out-rfl;rw[Xb,Xs (Xj _)];have hix2:i<F0.length:=by rw[hR.len];exact hi
     have hF:=Xa hix2;have hz:=(hR.row _ _ hF).1;refine⟨yt _,Nm hF (by lia) ((lN _ _ _).mpr ⟨_,_,_,rfl,by rw[hst]⟩)⟩
   ·intro ρ β hJ;obtain⟨k5,k6,k7,rfl,rfl⟩:=(lN _ _ _).mp hJ;rw[hlen];exact fin _ _ _ _ (by unfold lQ;rw[Qf e])
  ·walk_at "go";exact fin _ _ _ _ (by unfold lQ;rw[Qe e])
end
def zaR:PF:=λds Q=>∃sh:Te,ds=[cB sh]/\sh.length<=6/\(∀p∈sh,p.length<=4)/\∀zs:Tn,Names sh zs->Q (.lst (zs.map PV.str)) .new
theorem Nq:fQ zaR:=λds Q Q' m ⟨sh,e,h1,h2,q⟩=>⟨sh,e,h1,h2,λzs g=>m _ _ (q zs g)⟩
def Fq (sh:Te)(x:Str)(i:Nat):Bool:=decide (x∈sh.getD i [])
def yD (sh:Te)(x:Str)(n:Nat):List PV:=((Yj n).filter (Fq sh x)).map λ(i:Nat)=>PV.int (i:Int)
def zaw:PF:=λds Q=>∃(sh:Te)(x:Str),ds=[cB sh,.str x]/\sh.length<=6/\Q (.lst (yD sh x sh.length)) .new
theorem zfl:fQ zaw:=λds Q Q' m ⟨sh,x,e,h,q⟩=>⟨sh,x,e,h,m _ _ q⟩
def zaq:PF:=λds Q=>∃sh:Te,ds=[cB sh]/\sh.length<=6/\(∀p∈sh,p.length<=4)/\∀zs:Tn,zs.Nodup->(∀x,x∈zs↔∃p∈sh,x∈p)->Q (.lst (zs.map PV.str)) .new
theorem zfD:fQ zaq:=λds Q Q' m ⟨sh,e,h1,h2,q⟩=>⟨sh,e,h1,h2,λzs g1 g2=>m _ _ (q zs g1 g2)⟩
theorem zwb {p:α->Bool}{x:α}(h:p x=true):[x].filter p=[x]:=by simp[h]
theorem zwc {p:α->Bool}{x:α}(h:p x=false):[x].filter p=[]:=by simp[h]
theorem zoI {ns:Tn}(nd:ns.Nodup)(h:∀x,x∈ns↔∃p∈sh,x∈p)(h4:∀p∈sh,p.length<=4):ns.length<=4*sh.length:=by
 have h1:∀x∈ns,x∈sh.flatten:=λx hx=>by
  obtain⟨p,hp,hxp⟩:=(h x).mp hx;exact List.mem_flatten.mpr ⟨p,hp,hxp⟩
 have h2:ns.length<=sh.flatten.length:=Q9 nd h1;refine XZ h2 ?_;clear h h1 h2 nd;induction sh with
 | nil=>simp
 | cons p sh ih=>
  rw[List.flatten_cons,Xy,XX];have:=h4 p Xg;have:=ih λq hq=>h4 q (Xi _ hq);lia
section
variable {P:Wo}{w:Ws}{K:Xc}{mg:Tj}{base:Heap}
theorem Nr:fO ["shape","found","letters"] ["shape"] (aU rN):=fsc
theorem Nt (F:dU K "letters_of" "letters_of" rN f fd) (B:Bl mg):aJ P w K mg base bO 1 f fd ["shape"] (bR K zaR):=by
 refine jt F Nr (λds Q ⟨c,e,_⟩=>by rw[e];rfl) (λcdv A outer s H E hr=>?_);have hu:=cu hr;have nd:=Nr.nd;refine⟨_,(bD (cH (i:=1) nd rfl (Qo rfl) (jC aL))
   (bD (nZ rfl Qs (jf (ak 0)) (bW (i:=2) nd rfl (Qo rfl)) (bU (rA (zpI 1 (ak 2)))))
   (bU (gP (zmm rfl rfl B.sorted rfl B.set (ak 1)))))),λds Q h=>?_⟩
 obtain⟨sh,rfl,h6,h4,q⟩:=h;walk_at "pu";walk_at "auto";obtain⟨Iv,bC⟩:∃Iv:Nat->au->Prop,∀i ρ,Iv i ρ↔∃(fs:Tn) (kv:Option (PV×Bool)),ρ=[some (cB sh,false),some (PV.lst (fs.map PV.str),true),kv]/\fs.length<=4*i/\∀x,x∈fs↔∃p∈sh.take i,x∈p:=⟨_,λ_ _=>QG⟩;refine⟨_,rfl,Iv,(bC _ _).mpr ⟨[],none,rfl,Ye _,λx=>by simp⟩,?_,?_⟩
 ·intro i d ρ hd hI;obtain⟨fs,kv,rfl,l1,hm⟩:=(bC _ _).mp hI;rw[Xe]at hd;cases hp:sh[i]? with
  | none=>rw[hp]at hd;cases hd
  | some p=>
   rw[hp]at hd;cases hd;have hil:i<sh.length:=(Xf.mp hp).1;have hle:=h4 p (Xl hp);walk_at "go";refine⟨by rw[Xb,Xb,Wr];lia,(bC _ _).mpr ⟨fs++p,_,by rw[Xp],by rw[Xy];lia,λy=>?_⟩⟩;rw[Xr,hm,XS,hp];simp only[Option.toList_some,Xr,Xh];constructor
   ·rintro(⟨p,h1,h2⟩ | h)
    ·exact⟨p,.inl h1,h2⟩
    ·exact⟨_,.inr rfl,h⟩
   ·rintro⟨p,h1 | rfl,h2⟩
    ·exact .inl ⟨p,h1,h2⟩
    ·exact .inr h2
 ·intro ρ hI;obtain⟨fs,kv,rfl,l1,hm⟩:=(bC _ _).mp hI;rw[Xb]at l1 hm;walk_at "go";refine⟨fs,rfl,by lia,λzs n1 n2 n3=>q zs ⟨n1,λx=>?_,n3⟩⟩;rw[n2,hm,Xs (Xj _)]
theorem Nu:fO ["shape","letter"] ["shape","letter"] (aU qC):=fsc
theorem zgw (F:dU K "patterns_with" "patterns_with" qC f fd) (B:Bl mg):aJ P w K mg base bO 1 f fd ["shape","letter"] (bR K zaw):=by
 refine jt F Nu (λds Q ⟨c,x,e,_⟩=>by rw[e];rfl) (λcdv A outer s H E hr=>?_);have hu:=cu hr;have nd:=Nu.nd;refine⟨_,(bU (gP (jh (N:=["i","letters","letter"]) (k:=2) (js:=[1]) rfl (fP (sup:=aU qC) (XN:=["shape","letter"]) rfl rfl (by decide +kernel)) (by decide) (zB (rB (by decide) (by decide))) (Ec rfl B.enumerate (ak 0)) ⟨λ_ _ _ _ _=>(vP (n:=2) rfl (nU (bW (i:=0) (by show(["i","letters","letter"]:Tn).Nodup;decide +kernel) rfl (Qo rfl)) (nU (bW (i:=1) (by show(["i","letters","letter"]:Tn).Nodup;decide +kernel) rfl (Qo rfl)) vO))),λ_ _ _ _ _=>(o7 (zG hu (ak 2) (ak 1))),λ_ _ _ _ _=>(ak 0)⟩))),λds Q h=>?_⟩;obtain⟨sh,x,rfl,h6,q⟩:=h;have hsz:=Wr;walk_at "pu";refine⟨_,rfl,?_⟩;refine⟨by rw[vZ,Xb];lia,λi out=>out=yD sh x i,rfl,?_,?_⟩
 ·rintro i d out hd-rfl;obtain⟨y,hy,rfl⟩:=zP hd;rw[Xe]at hy;cases hp:sh[i]? with
  | none=>rw[hp]at hy;cases hy
  | some p=>
   rw[hp]at hy;cases hy;refine⟨_,rfl,?_⟩;walk_at "pu";have hw:Fq sh x i=decide (x∈p):=by unfold Fq;rw[Xd,hp];rfl
   refine⟨yu p,dW (λe=>?_) (λe=>?_)⟩
   ·have hm:x∈p:=rY.mp e;show _=_;unfold yD;rw[O5,Yp,Xp];simp[hw,hm]
   ·have hm:¬ x∈p:=λz=>e (rY.mpr z);show _=_;unfold yD;rw[O5,Yp,Xp];simp[hw,hm]
 ·rintro out-rfl;rw[vZ,Xb];exact q
theorem Nv:fO ["shape","letters","shared"] ["shape"] (aU qD):=fsc
theorem zgK (F:dU K "shared_first" "shared_first" qD f fd) (aY:Fx K mg "letters_of" rN ["shape"] f1 jw) (bh:Fx K mg "patterns_with" qC ["shape","letter"] f2 fd2) (B:Bl mg):aJ P w K mg base bO 2 f fd ["shape"] (bR K zaq):=by
 have dH:aJ P w K mg base bO 1 f1 jw ["shape"] (bR K zaR):=Nt aY.fn B;have jj:aJ P w K mg base bO 1 f2 fd2 ["shape","letter"] (bR K zaw):=zgw bh.fn B;refine jt F Nv (λds Q ⟨c,e,_⟩=>by rw[e];rfl) (λcdv A outer s H E hr=>?_);have hu:=cu hr;have nd:=Nv.nd;refine⟨_,(bD (cH (i:=1) nd rfl (Qo rfl) (cD dH Nq hr rfl aY.mg aY.fn.kp aY.bd (aB (ak 0) aL)))
   (bD (lE 1 (cH (i:=2) nd rfl (Qp rfl) (jh (N:=["letter","shape"]) (k:=1) (js:=[0]) rfl (fP (sup:=aU qD) (XN:=["shape","letters","shared"]) rfl rfl (by decide +kernel)) (by decide) (jd (by decide)) (jf (ak 1)) ⟨λ_ _ _ _ _=>(bW (i:=0) (by show(["letter","shape"]:Tn).Nodup;decide +kernel) rfl (Qo rfl)),λ_ _ _ _ _=>(o7 (Dm (o8 rfl B.len (aB (cD jj zfl hr rfl bh.mg bh.fn.kp bh.bd (aB (ak 1) (aB (ak 0) aL))) aL)) bA)),λ_ _ _ _ _=>(ak 0)⟩)))
   (bU (lE 2 (gP (zuz (ak 2) (jh (N:=["letter","shared"]) (k:=1) (js:=[2]) rfl (fP (sup:=aU qD) (XN:=["shape","letters","shared"]) rfl rfl (by decide +kernel)) (by decide) (jd (by decide)) (jf (ak 1)) ⟨λ_ _ _ _ _=>(bW (i:=0) (by show(["letter","shared"]:Tn).Nodup;decide +kernel) rfl (Qo rfl)),λ_ _ _ _ _=>(o7 (Dn hu (ak 0) (ak 1))),λ_ _ _ _ _=>(ak 0)⟩))))))),λds Q h=>?_⟩
 obtain⟨sh,rfl,h6,h4,q⟩:=h;have hsz:=Wr;walk_at "pu";refine⟨sh,rfl,h6,h4,λns hn=>?_⟩;have hl:=zoI hn.nd hn.mem h4;obtain⟨g,hg⟩:∃g:Str->Bool,∀x,g x=decide (1<(yD sh x sh.length).length):=⟨_,λ_=>rfl⟩;walk_at "go";refine⟨by rw[Xb];lia,λi out=>out=((ns.take i).filter g).map PV.str,rfl,?_,?_⟩
 ·rintro i d out hd-rfl;rw[Xe]at hd;cases hx:ns[i]? with
  | none=>rw[hx]at hd;cases hd
  | some x=>
   rw[hx]at hd;cases hd;have htk:ns.take (i+1)=ns.take i++[x]:=by rw[XS,hx];rfl
   refine⟨sh,rfl,x,rfl,h6,dW (λe=>?_) (λe=>?_)⟩
   ·have hgx:g x=true:=by rw[hg];exact Qd (by lia)
    show _=_;rw[htk,Yp,Xp];simp[hgx]
   ·have hgx:g x=false:=by rw[hg];exact Qc (by lia)
    show _=_;rw[htk,Yp,Xp];simp[hgx]
 ·rintro out-rfl;rw[Xb,Xs (Xj _)];walk_at "go";refine⟨by rw[Xb];lia,λi out=>out=((ns.take i).filter λx=>decide (x∉ns.filter g)).map PV.str,rfl,?_,?_⟩
  ·rintro i d out hd-rfl;rw[Xe]at hd;cases hx:ns[i]? with
   | none=>rw[hx]at hd;cases hd
   | some x=>
    rw[hx]at hd;cases hd;have htk:ns.take (i+1)=ns.take i++[x]:=by rw[XS,hx];rfl
    refine⟨rfl,yu _,dW (λe=>?_) (λe=>?_)⟩
    ·have hm:x∉ns.filter g:=λz=>e (rY.mpr z);show _=_;rw[htk,Yp,Xp,zwb (p:=λx=>decide (x∉ns.filter g)) (Qd hm)];rfl
    ·have hm:x∈ns.filter g:=Om λz=>e λy=>z (rY.mp y);show _=_;rw[htk,Yp,Xp,zwc (p:=λx=>decide (x∉ns.filter g)) (Qc λz=>z hm)];simp
  ·rintro out-rfl;rw[show ns.take (Yl PV.str ns).length=ns from Xs (by rw[Xb];exact Xj _)];have l1:=Yo g ns;have l2:=Yo (λx=>decide (x∉ns.filter g)) ns;refine⟨by rw[Xb,Xb];lia,?_⟩;rw[<- Xp];refine q _ ?_ λx=>?_
   ·rw[Yt];refine⟨hn.nd.filter _,hn.nd.filter _,λa ha b hb e=>?_⟩;have h2:=(XH.mp hb).2;rw[<- e]at h2;exact(Qh h2) ha
   ·rw[Xr,<- hn.mem];constructor
    ·rintro(h | h)
     ·exact(XH.mp h).1
     ·exact(XH.mp h).1
    ·intro h;by_cases hm:x∈ns.filter g
     ·exact .inl hm
     ·exact .inr (XH.mpr ⟨h,Qd hm⟩)
end
structure Am (tabs:List Tab)(names:Tn)(cells:Tp):Prop where
 pos:0<tabs.length
 few:tabs.length<=6
 pat:∀b∈tabs,1<=b.1.length/\b.1.length<=4/\b.1.Nodup
 rows:∀b∈tabs,b.2.length<=100/\∀r∈b.2,r.length=b.1.length/\∀c∈r,c∈cells
 nms:Names (tabs.map (·.1)) names
 six:names.length<=6
 v9:cells.Pairwise (· < ·)
 three:1<=cells.length/\cells.length<=3
def zcH:PF:=λds Q=>∃(tabs:List Tab)(names:Tn)(cells:Tp),ds=[fj tabs,fB tabs]/\Am tabs names cells/\Q (.lst ((j9 tabs names cells).map aQ)) .new
theorem zjy:fQ zcH:=λds Q Q' m ⟨a,b,c,e,h,q⟩=>⟨a,b,c,e,h,m _ _ q⟩
theorem Ft (tabs:List Tab):fj tabs=cB (tabs.map (·.1)):=by unfold fj cB;rw[Yk];rfl
section
variable {P:Wo}{w:Ws}{K:Xc}{mg:Tj}{base:Heap}
theorem Nx:fO ["shape","rows","order","letters"] ["shape","rows"] (aU rO):=fsc
theorem zmz {f f1 f2 f3 f4 f5 f6 f7 f8:We}{fd jw fd2 qH pM fd5 fd6 fd7 fd8:WA}(F:dU K "answers" "answers" rO f fd) (aC:Y1 K mg f1 jw) (bZ:Y3 K mg f2 fd2) (fD:Fx K mg "longer" pJ ["parts","earlier","guides"] f3 qH) (cF:Fx K mg "guides_to" qz ["shape","rows","earlier","letter"] f4 pM)
  (cG:Fx K mg "parts_along" tZ ["shape","rows","order"] f5 fd5) (aY:Fx K mg "letters_of" rN ["shape"] f6 fd6) (bh:Fx K mg "patterns_with" qC ["shape","letter"] f7 fd7) (b7:Fx K mg "shared_first" qD ["shape"] f8 fd8) (B:Bl mg):aJ P w K mg base bO 5 f fd ["shape","rows"] (bR K zcH):=by
 have bN:Z1 P w K mg base 4 f1 jw:=(Ad aC.fn B).mono (by decide);have kh:aJ P w K mg base bO 4 f5 fd5 ["shape","rows","order"] (bR K zav):=zhP cG.fn aC bZ fD cF B;have dH:aJ P w K mg base bO 4 f6 fd6 ["shape"] (bR K zaR):=(Nt aY.fn B).mono (by decide);have jM:aJ P w K mg base bO 4 f8 fd8 ["shape"] (bR K zaq):=(zgK b7.fn aY bh B).mono (by decide);refine jt F Nx (λds Q ⟨a,b,c,e,_⟩=>by rw[e];rfl) (λcdv A outer s H E hr=>?_);have hu:=cu hr;have nd:=Nx.nd;refine⟨_,(bD (cH (i:=2) nd rfl (Qp rfl) (cD jM zfD hr rfl b7.mg b7.fn.kp b7.bd (aB (ak 0) aL)))
   (bD (cH (i:=3) nd rfl (Qp rfl) (cD dH Nq hr rfl aY.mg aY.fn.kp aY.bd (aB (ak 0) aL)))
   (bU (lE 3 (lE 2 (gP (K9 rfl B.sorted (aB (jh (N:=["part","order","letters"]) (k:=1) (js:=[2,3]) rfl (fP (sup:=aU rO) (XN:=["shape","rows","order","letters"]) rfl rfl (by decide +kernel)) (by decide) (jd (by decide)) (jf (cO (cD kh zgt hr rfl cG.mg cG.fn.kp cG.bd (aB (ak 0) (aB (ak 1) (aB (ak 2) aL)))) (zU bA))) ⟨λ_ _ _ _ _=>(bW (i:=0) (by show(["part","order","letters"]:Tn).Nodup;decide +kernel) rfl (Qo rfl)),λ_ _ _ _ _=>mj,λ_ _ _ _ _=>(cD bN yo hr rfl aC.mg aC.fn.kp aC.bd (aB (ak 0) (aB (ak 1) (aB (ak 2) aL))))⟩) aL)))))))),λds Q h=>?_⟩
 obtain⟨tabs,names,cells,rfl,ok,q⟩:=h;have hsz:=Wr;have h4:∀p∈tabs.map (·.1),p.length<=4:=λp hp=>by obtain⟨b,hb,rfl⟩:=Xv.mp hp;exact(ok.pat b hb).2.1
 have h6:(tabs.map (·.1)).length<=6:=by rw[Xb];exact ok.few
 walk_at "pu";refine⟨tabs.map (·.1),Ft tabs,h6,h4,λorder no om=>?_⟩;walk_at "go";refine⟨tabs.map (·.1),Ft tabs,h6,h4,λns hn=>?_⟩;have en:=hn.uniq ok.nms;subst en;have hmem:∀w,w∈order↔w∈ns:=λw=>(om w).trans (hn.mem w).symm;have hlen:order.length=ns.length:=((List.perm_ext_iff_of_nodup no hn.nd).mpr hmem).length_eq;have hsix:=ok.six;have pO:=ok.three;walk_at "go";have hTO:TabsOk tabs order cells:=by
  have hf:=ok.few;refine⟨by lia,λb hb=>by have:=(ok.pat b hb).2.1;lia,λb hb=>⟨by have:=(ok.rows b hb).1;lia,λr hr=>((ok.rows b hb).2 r hr).1⟩,λb hb r hr=>((ok.rows b hb).2 r hr).2,no,by lia,λx hx=>?_,pO.1,?_⟩
  ·obtain⟨p,hp,hxp⟩:=(om x).mp hx;obtain⟨b,hb,rfl⟩:=Xv.mp hp;exact⟨b,hb,hxp⟩
  ·refine XZ (Nat.pow_le_pow_left pO.2 _) (XZ (Nat.pow_le_pow_right (by lia) (show order.length<=6 by lia)) (by decide))
 have hne:ns≠[]:=λz=>by
  have h0:=ok.pos;obtain⟨b,hb⟩:∃b,b∈tabs:=⟨tabs[0],XY _⟩;have h1:=(ok.pat b hb).1;have:b.1[0]∈ns:=(hn.mem _).mpr ⟨b.1,Xv.mpr ⟨b,hb,rfl⟩,XY _⟩;rw[z]at this;cases this
 refine⟨tabs,rfl,rfl,order,rfl,cells,hTO,λLs hLs=>?_⟩;have hll:=hLs.len;have iH:Ls[order.length]? = some (Ls[order.length]'(by lia)):=Xa (by lia);obtain⟨hP,hL⟩:=hLs.at_ _ _ iH;generalize Ls[order.length]'(by lia)=L at iH hP hL;rw[Xs (Xj _)]at hP;have hLL:L.length<=100000:=XZ hL hTO.size;refine⟨PV.lst (L.map aQ),.inl ⟨_,.inl rfl,Mx (by rw[Xb,hll,O2,Xe,iH];rfl)⟩,_,rfl,by rw[Xb];lia,λi out=>out=((L.take i).map λp=>aZ p order ns).map aQ,rfl,?_,?_⟩
 ·rintro i d out hd-rfl;rw[Xe]at hd;cases hp:L[i]? with
  | none=>rw[hp]at hd;cases hd
  | some p=>
   rw[hp]at hd;cases hd;have hpl:=((hP.mem p).mp (Xl hp)).1;have hsub:∀w∈ns,w∈order:=λw hw=>(hmem w).mpr hw;refine⟨_,rfl,order,ns,rfl,rfl,hsub,by rw[Xb];lia,by lia,?_⟩;show _=_;rw[yr hpl.symm hsub,XS,hp,Xp,Xp];rfl
 ·rintro out-rfl;rw[Xb,Xs (Xj _)];refine⟨L.map λp=>aZ p order ns,rfl,λr hr z=>?_,?_⟩
  ·obtain⟨p,_,rfl⟩:=Xv.mp hr;have:=Fi p order ns;rw[z]at this;exact hne (XQ.mp this.symm)
  ·rw[zqw hP no hn.nd hmem (λb hb=>(ok.pat b hb).2.2) (λb hb r hr=>((ok.rows b hb).2 r hr).1) (λb hb w hw=>(hn.mem w).mpr ⟨b.1,Xv.mpr ⟨b,hb,rfl⟩,hw⟩) (λw hw=>?_) (λb hb r hr=>((ok.rows b hb).2 r hr).2) ok.v9]
   ·exact q
   ·obtain⟨p,hp,hxp⟩:=(hn.mem w).mp hw;obtain⟨b,hb,rfl⟩:=Xv.mp hp;exact⟨b,hb,hxp⟩
end
structure oK where
 fr:Tn
 sh:Te
 ps:Tf
def bI (c:Int)(i:Nat):Option Nat:=if i=0 then none else some (mix c (4+(i:Int)) % (i:Int)).toNat
def gH (sh:Te):Option Nat->Tn
 | none=>[]
 | some j=>sh.getD j []
def vp (c:Int)(i:Nat)(ab:Tn):Nat->Tn
 | 0=>[]
 | k+1=>if mix c (20+4*(i:Int)+(k:Int)) % 2=1 then vp c i ab k++[ab.getD k ⟨#[]⟩] else vp c i ab k
def kY (c:Int)(i:Nat)(s:oK):Tn:=(vp c i (gH s.sh (bI c i)) (gH s.sh (bI c i)).length).take 3
def vq (c:Int)(i:Nat):Nat:=(1+mix c (12+(i:Int)) % 4).toNat
def cU (c:Int)(i:Nat)(s:oK):Nat:=min s.fr.length (vq c i-(kY c i s).length)
def iI (c:Int)(i:Nat)(s:oK):Tn:=kY c i s++s.fr.take (cU c i s)
def fH (c:Int)(i:Nat)(s:oK):Tn:=if iI c i s=[] then[(gH s.sh (bI c i)).getD 0 ⟨#[]⟩] else iI c i s
def gJ (c:Int)(i:Nat)(s:oK):Tn:=if mix c (50+(i:Int)) % 2=1 then(fH c i s).reverse else fH c i s
def Fv (c:Int)(i:Nat)(s:oK):oK:=⟨s.fr.drop (cU c i s),s.sh++[gJ c i s],s.ps++[bI c i]⟩
def iY (c:Int):Nat->oK
 | 0=>⟨fG c,[],[]⟩
 | i+1=>Fv c i (iY c i)
def aV (c:Int):Nat:=(1+mix c 3 % 6).toNat
theorem Ny (c:Int):1<=aV c/\aV c<=6:=by unfold aV;lia
theorem Nz (h:bI c i=some j):j<i:=by
 unfold bI at h;by_cases z:i=0
 ·rw[Qf z]at h;cases h
 ·rw[Qe z]at h;cases h;have a:=YD (mix c (4+(i:Int))) (show(i:Int)≠0 by lia);have b:=Ob (mix c (4+(i:Int))) (show(0:Int)<i by lia);lia
theorem NK (c:Int)(i:Nat)(ab:Tn):∀k,k<=ab.length->(vp c i ab k).Sublist (ab.take k)
 | 0,_=>List.nil_sublist _
 | k+1,h=>by
  have ih:=NK c i ab k (by lia);have hk:ab[k]? = some ab[k]:=Xa (by lia);rw[<- take_snoc hk];unfold vp;split
  ·rw[Xd,hk];exact ih.append (List.Sublist.refl _)
  ·exact ih.trans (List.sublist_append_left _ _)
theorem zqz (c:Int)(i:Nat)(s:oK):(kY c i s).Sublist (gH s.sh (bI c i)):=
 (Oe _ _).trans ((NK c i _ _ (Xj _)).trans (Oe _ _))
theorem Fw {l:List α}{y z:α}(h:(l++[y])[k]? = some z):l[k]? = some z\/(k=l.length/\z=y):=by
 by_cases hk:k<l.length
 ·rw[Yd hk]at h;exact .inl h
 ·rw[XO (by lia)]at h;cases hm:k-l.length with
  | zero=>rw[hm]at h;exact .inr ⟨by lia,(Qa h).symm⟩
  | succ m=>rw[hm]at h;cases h
theorem Ao {l m:List α}{y:α}(h:l[k]? = some y):(l++m)[k]? = some y:=by
 rw[Yd (Xf.mp h).1];exact h
structure pP (c:Int)(i:Nat)(s:oK):Prop where
 sl:s.sh.length=i
 pl:s.ps.length=i
 pat:∀p∈s.sh,p≠[]/\p.length<=4/\p.Nodup/\∀x∈p,x∈fG c
 iM:∀(k j:Nat),s.ps[k]? = some (some j)->j<k
 root:∀(k:Nat),s.ps[k]? = some none->k=0
 r0:0<i->s.ps[0]? = some none
 rip:∀(k:Nat) (p:Tn),s.sh[k]? = some p->∀l∈p,(∃(j:Nat) (q:Tn),s.ps[k]? = some (some j)/\s.sh[j]? = some q/\l∈q)\/∀(m:Nat) (q:Tn),m<k->s.sh[m]? = some q->l∉q
 fnd:s.fr.Nodup
 lR:∀x∈s.fr,x∈fG c/\∀p∈s.sh,x∉p
 f0:i=0->s.fr=fG c
theorem yE (T:pP c i s)(h:0<i):∃j q,bI c i=some j/\s.sh[j]? = some q/\gH s.sh (bI c i)=q/\q≠[]:=by
 have e:∃j,bI c i=some j:=by unfold bI;rw[Qe (by lia)];exact⟨_,rfl⟩
 obtain⟨j,hj⟩:=e;have hl:=Nz hj;have hs:=T.sl;have hq:s.sh[j]? = some s.sh[j]:=Xa (by lia);refine⟨j,s.sh[j],hj,hq,?_,(T.pat _ (Xl hq)).1⟩;rw[hj];show s.sh.getD j []=_;rw[Xd,hq];rfl
theorem NP:gH s.sh (bI c 0)=[]:=rfl
theorem Fy (c:Int)(i:Nat):1<=vq c i/\vq c i<=4:=by unfold vq;lia
theorem NQ (h:iI c i s=[]):s.fr=[]:=by
 have h1:=List.append_eq_nil_iff.mp h;have w:=Fy c i;have h2:(s.fr.take (cU c i s)).length=0:=by rw[h1.2];rfl
 rw[XJ]at h2;unfold cU at h2;rw[h1.1]at h2;have h3:([]:Tn).length=0:=rfl;rw[h3]at h2;exact XQ.mp (by lia)
theorem pP.step (T:pP c i s):pP c (i+1) (Fv c i s):=by
 have sl:=T.sl;have pl:=T.pl;have w:=Fy c i;have hsub:=zqz c i s;have ab:∀x∈gH s.sh (bI c i),∃j q,bI c i=some j/\s.sh[j]? = some q/\x∈q:=λx hx=>by
  by_cases z:i=0
  ·subst z;rw[NP]at hx;cases hx
  ·obtain⟨j,q,h1,h2,h3,_⟩:=yE T (by lia);exact⟨j,q,h1,h2,by rw[<- h3];exact hx⟩
 have abn:(gH s.sh (bI c i)).Nodup/\∀x∈gH s.sh (bI c i),x∈fG c:=by
  by_cases z:i=0
  ·subst z;rw[NP];exact⟨YH,λx h=>nomatch h⟩
  ·obtain⟨j,q,h1,h2,h3,_⟩:=yE T (by lia);rw[h3];have:=T.pat q (Xl h2);exact⟨this.2.2.1,this.2.2.2⟩
 have m1:∀x∈iI c i s,x∈gH s.sh (bI c i)\/x∈s.fr:=λx hx=>by
  rcases Xr.mp hx with hx | hx
  ·exact .inl (hsub.subset hx)
  ·exact .inr (YC hx)
 have n1:(iI c i s).Nodup:=by
  refine Yt.mpr ⟨hsub.nodup abn.1,(Oe _ _).nodup T.fnd,λa ha b hb e=>?_⟩;obtain⟨j,q,_,h2,h3⟩:=ab a (hsub.subset ha);exact(T.lR b (YC hb)).2 q (Xl h2) (e▸h3)
 have l1:(iI c i s).length<=4:=by
  unfold iI;rw[Xy,XJ];have h3:(kY c i s).length<=3:=by unfold kY;rw[XJ];lia
  unfold cU;lia
 have two:fH c i s≠[]/\(fH c i s).length<=4/\(fH c i s).Nodup/\∀x∈fH c i s,x∈gH s.sh (bI c i)\/x∈s.fr.take (cU c i s):=by
  unfold fH;by_cases z:iI c i s=[]
  ·rw[Qf z];have fr:=NQ z;have hi:0<i:=Nat.pos_of_ne_zero λy=>by
    have h6:=yx c;rw[T.f0 y]at fr;rw[fr]at h6;cases h6
   obtain⟨j,q,h1,h2,h3,h4⟩:=yE T hi;refine⟨λy=>(by cases y),(by decide:1<=4),XI.mpr ⟨Pz,YH⟩,λx hx=>.inl ?_⟩;rw[Xh.mp hx,h3];have hq:q[0]? = some (q[0]'(List.length_pos_iff.mpr h4)):=Xa _;rw[Xd,hq];exact XY _
  ·rw[Qe z];refine⟨z,l1,n1,λx hx=>?_⟩;rcases Xr.mp hx with hx | hx
   ·exact .inl (hsub.subset hx)
   ·exact .inr hx
 have three:gJ c i s≠[]/\(gJ c i s).length<=4/\(gJ c i s).Nodup/\∀x∈gJ c i s,x∈gH s.sh (bI c i)\/x∈s.fr.take (cU c i s):=by
  unfold gJ;split
  ·exact⟨λy=>two.1 (List.reverse_eq_nil_iff.mp y),by rw[Pq];exact two.2.1,(List.reverse_perm _).nodup_iff.mpr two.2.2.1,λx hx=>two.2.2.2 x (List.mem_reverse.mp hx)⟩
  ·exact two
 refine⟨?_,?_,λp hp=>?_,λk j h=>?_,λk h=>?_,λ_=>?_,λk p h l hl=>?_,(List.drop_sublist _ _).nodup T.fnd,λx hx=>?_,λz=>Qg z (Nat.succ_ne_zero i)⟩
 ·show(s.sh++[_]).length=_;rw[Xy,sl];rfl
 ·show(s.ps++[_]).length=_;rw[Xy,pl];rfl
 ·rcases Xr.mp hp with hp | hp
  ·exact T.pat p hp
  ·rw[Xh.mp hp];refine⟨three.1,three.2.1,three.2.2.1,λx hx=>?_⟩;rcases three.2.2.2 x hx with h | h
   ·exact abn.2 x h
   ·exact(T.lR x (YC h)).1
 ·rcases Fw h with h | ⟨h1,h2⟩
  ·exact T.iM k j h
  ·rw[h1,pl];exact Nz h2.symm
 ·rcases Fw h with h | ⟨h1,h2⟩
  ·exact T.root k h
  ·unfold bI at h2;by_cases z:i=0
   ·lia
   ·rw[Qe z]at h2;cases h2
 ·by_cases z:i=0
  ·subst z;have:s.ps=[]:=XQ.mp pl;show(s.ps++[bI c 0])[0]? = _;rw[this];rfl
  ·exact Ao (T.r0 (by lia))
 ·have hold:∀m q,m<i->(s.sh++[gJ c i s])[m]? = some q->s.sh[m]? = some q:=λm q hm hq=>by
   rw[Yd (by lia)]at hq;exact hq
  rcases Fw h with h | ⟨h1,h2⟩
  ·have hk:=(Xf.mp h).1;rcases T.rip k p h l hl with ⟨j,q,g1,g2,g3⟩ | g
   ·exact .inl ⟨j,q,Ao g1,Ao g2,g3⟩
   ·exact .inr λm q hm hq=>g m q hm (hold m q (by lia) hq)
  ·subst h2;rcases three.2.2.2 l hl with y | y
   ·obtain⟨j,q,g1,g2,g3⟩:=ab l y;refine .inl ⟨j,q,?_,Ao g2,g3⟩;show(s.ps++[bI c i])[k]? = _;rw[h1,sl,XO (by lia),show i-s.ps.length=0 by lia,g1];rfl
   ·exact .inr λm q hm hq=>(T.lR l (YC y)).2 q (Xl (hold m q (by lia) hq))
 ·have hx1:x∈s.fr:=YO hx;refine⟨(T.lR x hx1).1,λp hp=>?_⟩;rcases Xr.mp hp with hp | hp
  ·exact(T.lR x hx1).2 p hp
  ·rw[Xh.mp hp];intro y;rcases three.2.2.2 x y with y | y
   ·obtain⟨j,q,_,g2,g3⟩:=ab x y;exact(T.lR x hx1).2 q (Xl g2) g3
   ·have hn:=T.fnd;rw[<- Yi (cU c i s) s.fr]at hn;exact(Yt.mp hn).2.2 x y x hx rfl
theorem Aq (c:Int):∀i,pP c i (iY c i)
 | 0=>⟨rfl,rfl,λp h=>(nomatch h),λk j h=>(by cases h),λk h=>(by cases h),λh=>Qg h (YI 0),λk p h=>(by cases h),zsW c,λx hx=>⟨hx,λp h=>(nomatch h)⟩,λ_=>rfl⟩
 | i+1=>(Aq c i).step
def iJ (c:Int)(n:Nat):Nat:=(mix c 60 % (n:Int)).toNat
def wB (c:Int)(n:Nat):Tt:=(Yj n).map λk=>(k+iJ c n) % n
def sy (c:Int)(n:Nat):Tt:=if mix c 61 % 2=1 then(wB c n).reverse else wB c n
def fW {α:Type}(f:Tw)(g:Nat->Option α)(l:List α):Nat->List α
 | 0=>l
 | i+1=>match g i with
  | some v=>(fW f g l i).set (f i) v
  | none=>fW f g l i
theorem NT {f:Tw}{g:Nat->Option α}{l:List α}{v:α}(h:g i=some v):fW f g l (i+1)=(fW f g l i).set (f i) v:=by
 rw[fW];rw[h]
theorem zmA {f:Tw}{g:Nat->Option α}{l:List α}(h:g i=none):fW f g l (i+1)=fW f g l i:=by
 rw[fW];rw[h]
theorem vy (f:Tw)(g:Nat->Option α)(l:List α):∀n,(fW f g l n).length=l.length
 | 0=>rfl
 | n+1=>by
  unfold fW;split
  ·rw[Yb,vy]
  ·exact vy f g l n
theorem NZ {f:Tw}{g:Nat->Option α}{l:List α}:∀n,(∀i,i<n->f i≠j)->(fW f g l n)[j]? = l[j]?
 | 0,_=>rfl
 | n+1,h=>by
  have ih:=NZ (g:=g) (l:=l) n λi hi=>h i (by lia);unfold fW;split
  ·rw[Xk (h n (by lia)),ih]
  ·exact ih
theorem FJ {f:Tw}{g:Nat->Option α}{l:List α}:∀n,(∀i,i<n->f i<l.length)->(∀i j,i<n->j<n->f i=f j->i=j)->∀i,i<n->(fW f g l n)[f i]? = match g i with | some v=>some v | none=>l[f i]?
 | 0,_,_,i,h=>Qg h (Od _)
 | n+1,hl,hi,i,h=>by
  by_cases z:i=n
  ·subst z;have ho:=NZ (f:=f) (g:=g) (l:=l) (j:=f i) i λk hk e=>Qg (hi k i (by lia) (by lia) e) (by lia);unfold fW;cases hg:g i with
   | some v=>simp only;rw[Xm (by rw[vy];exact hl i (by lia))]
   | none=>simp only;exact ho
  ·have ih:=FJ (g:=g) n (λi h=>hl i (by lia)) (λi j h1 h2=>hi i j (by lia) (by lia)) i (by lia);rw[<- ih];show(match g n with | some v=>(fW f g l n).set (f n) v | none=>fW f g l n)[f i]? = _
   split
   ·rw[Xk λe=>z (hi i n (by lia) (by lia) e.symm)]
   ·rfl
def b8 (c:Int)(n k:Nat):Nat:=(sy c n).getD k 0
def pQ (c:Int):Tf:=fW (b8 c (aV c)) (λi=>((iY c (aV c)).ps.getD i none).map λp=>some (b8 c (aV c) p)) (Ya (aV c) none) (aV c)
def jk (c:Int):Te:=fW (b8 c (aV c)) (λi=>some ((iY c (aV c)).sh.getD i [])) (Ya (aV c) []) (aV c)
theorem N5:∀n,n<7->∀f,f<n->∀a,a<n->∀b,b<n->(a+f) % n=(b+f) % n->a=b:=by decide +kernel
theorem ztb:∀n,n<7->∀f,f<n->∀j,j<n->∃k,k<n/\(k+f) % n=j:=by decide +kernel
theorem yF (h1:1<=n):∀k,k<n->b8 c n k=((if mix c 61 % 2=1 then n-1-k else k)+iJ c n) % n:=λk hk=>by
 unfold b8 sy wB;have hl:((Yj n).map λk=>(k+iJ c n) % n).length=n:=by rw[Xb,Og]
 by_cases z:mix c 61 % 2=1
 ·rw[Qf z,Qf z,Xd,List.getElem?_reverse (by rw[hl];exact hk),hl,Xe,List.getElem?_range (by lia)];rfl
 ·rw[Qe z,Qe z,Xd,Xe,List.getElem?_range hk];rfl
theorem FN (h1:1<=n):iJ c n<n:=by
 unfold iJ;have a:=YD (mix c 60) (show(n:Int)≠0 by lia);have b:=Ob (mix c 60) (show(0:Int)<n by lia);lia
theorem N6 (h1:1<=n)(hk:k<n):b8 c n k<n:=by rw[yF h1 k hk];exact Nat.mod_lt _ h1
theorem ztc {a b:Nat}(h1:1<=n)(h6:n<=6)(ha:a<n)(hb:b<n)(e:b8 c n a=b8 c n b):a=b:=by
 rw[yF h1 a ha,yF h1 b hb]at e;by_cases z:mix c 61 % 2=1
 ·rw[Qf z,Qf z]at e;have:=N5 n (by lia) _ (FN h1) _ (by lia) _ (by lia) e;lia
 ·rw[Qe z,Qe z]at e;exact N5 n (by lia) _ (FN h1) _ ha _ hb e
theorem N7 (h1:1<=n)(h6:n<=6)(hj:j<n):∃k,k<n/\b8 c n k=j:=by
 obtain⟨k,hk,e⟩:=ztb n (by lia) _ (FN (c:=c) h1) j hj;by_cases z:mix c 61 % 2=1
 ·refine⟨n-1-k,by lia,?_⟩;rw[yF h1 _ (by lia),Qf z,show n-1-(n-1-k)=k by lia,e]
 ·exact⟨k,hk,by rw[yF h1 k hk,Qe z,e]⟩
theorem zqB (c:Int):∀x∈fG c,x.length=1:=λx hx=>by
 unfold fG wu tW at hx;obtain⟨k,_,rfl⟩:=Xv.mp hx;rfl
structure dj (sh:Te)(ps:Tf)(rk:Tw)(r:Nat):Prop where
 pl:ps.length=sh.length
 n1:1<=sh.length
 n6:sh.length<=6
 pat:∀p∈sh,p≠[]/\p.length<=4/\p.Nodup
 six:∃L:Tn,L.length=6/\(∀x∈L,x.length=1)/\∀p∈sh,∀x∈p,x∈L
 root:ps[r]? = some none
 one:∀(k:Nat),ps[k]? = some none->k=r
 iM:∀(c p:Nat),ps[c]? = some (some p)->p<sh.length/\rk c<rk p
 low:∀i,i<sh.length->rk i<7
 inj:∀i j,i<sh.length->j<sh.length->rk i=rk j->i=j
 rip:∀(c:Nat),c<sh.length->∀l∈sh.getD c [],(∃p:Nat,ps[c]? = some (some p)/\l∈sh.getD p [])\/∀m,m<sh.length->rk c<rk m->l∉sh.getD m []
theorem ztd (c:Int):∃rk r,dj (jk c) (pQ c) rk r:=by
 obtain⟨h1,h6⟩:=Ny c;have T:=Aq c (aV c);have hlt:∀i,i<aV c->b8 c (aV c) i<aV c:=λi hi=>N6 h1 hi;have hin:∀i j,i<aV c->j<aV c->b8 c (aV c) i=b8 c (aV c) j->i=j:=λi j hi hj=>ztc h1 h6 hi hj;have sl:(jk c).length=aV c:=by unfold jk;rw[vy,Yv]
 have pl:(pQ c).length=aV c:=by unfold pQ;rw[vy,Yv]
 have sat:∀i,i<aV c->(jk c)[b8 c (aV c) i]? = some ((iY c (aV c)).sh.getD i []):=λi hi=>FJ (aV c) (λi h=>by rw[Yv];exact hlt i h) hin i hi;have pat':∀i,i<aV c->(pQ c)[b8 c (aV c) i]? = some (((iY c (aV c)).ps.getD i none).map λp=>b8 c (aV c) p):=λi hi=>by
  have:=FJ (g:=λi=>((iY c (aV c)).ps.getD i none).map λp=>some (b8 c (aV c) p)) (l:=Ya (aV c) none) (aV c) (λi h=>by rw[Yv];exact hlt i h) hin i hi;rw[show(pQ c)[b8 c (aV c) i]? = _ from this];cases (iY c (aV c)).ps.getD i none with
  | some p=>rfl
  | none=>show(Ya (aV c) none)[b8 c (aV c) i]? = _;rw[List.getElem?_replicate,Qf (hlt i hi)];rfl
 have sg:∀i,i<aV c->(jk c).getD (b8 c (aV c) i) []=(iY c (aV c)).sh.getD i []:=λi hi=>by rw[Xd,sat i hi];rfl
 have psl:=T.pl;have shl:=T.sl;have pg:∀i,i<aV c->(iY c (aV c)).ps[i]? = some ((iY c (aV c)).ps.getD i none):=λi hi=>by rw[Xd,Xa (by lia)];rfl
 have hg:∀i,i<aV c->(iY c (aV c)).sh[i]? = some ((iY c (aV c)).sh.getD i []):=λi hi=>by rw[Xd,Xa (by lia)];rfl
 have inv:∃τ:Tw,∀j,j<aV c->τ j<aV c/\b8 c (aV c) (τ j)=j:=
  ⟨λj=>if h:j<aV c then Classical.choose (N7 (c:=c) h1 h6 h) else 0,λj h=>by simp only[h,dif_pos];exact Classical.choose_spec (N7 (c:=c) h1 h6 h)⟩
 obtain⟨τ,hτ⟩:=inv;have τn:∀i,i<aV c->τ (b8 c (aV c) i)=i:=λi hi=>hin _ _ (hτ _ (hlt i hi)).1 hi (hτ _ (hlt i hi)).2;refine⟨λj=>aV c-τ j,b8 c (aV c) 0,by rw[pl,sl],by rw[sl];exact h1,by rw[sl];exact h6,λp hp=>?_,⟨fG c,yx c,λx hx=>zqB c x hx,λp hp x hx=>?_⟩,?_,λk hk=>?_,λd p hd=>?_,λi hi=>by show aV c-τ i<7;lia,λi j hi hj e=>?_,λd hd l hl=>?_⟩
 ·obtain⟨j,hj,e⟩:=Yr hp;rw[sl]at hj;obtain⟨k1,k2⟩:=hτ j hj;have:=sat (τ j) k1;rw[k2,Xa (by rw[sl];exact hj),e]at this;have hm:=T.pat _ (Xl ((hg _ k1).trans this.symm));exact⟨hm.1,hm.2.1,hm.2.2.1⟩
 ·obtain⟨j,hj,e⟩:=Yr hp;rw[sl]at hj;obtain⟨k1,k2⟩:=hτ j hj;have:=sat (τ j) k1;rw[k2,Xa (by rw[sl];exact hj),e]at this;exact(T.pat _ (Xl ((hg _ k1).trans this.symm))).2.2.2 x hx
 ·rw[pat' 0 (by lia)];have:=T.r0 (by lia);rw[Xd,this];rfl
 ·have hkl:=(Xf.mp hk).1;rw[pl]at hkl;obtain⟨k1,k2⟩:=hτ k hkl;have:=pat' (τ k) k1;rw[k2,hk]at this;have hn:(iY c (aV c)).ps.getD (τ k) none=none:=by
   cases h:(iY c (aV c)).ps.getD (τ k) none with
   | none=>rfl
   | some p=>rw[h]at this;cases this
  have h0:=T.root (τ k) (by rw[pg _ k1,hn]);rw[<- k2,h0]
 ·have hdl:=(Xf.mp hd).1;rw[pl]at hdl;obtain⟨k1,k2⟩:=hτ d hdl;have:=pat' (τ d) k1;rw[k2,hd]at this;cases h:(iY c (aV c)).ps.getD (τ d) none with
  | none=>rw[h]at this;cases this
  | some q=>
   rw[h]at this;have e:p=b8 c (aV c) q:=Qa (Qa this);have hq:=T.iM (τ d) q (by rw[pg _ k1,h]);have hq2:q<aV c:=by lia
   subst e;refine⟨by rw[sl];exact hlt q hq2,?_⟩;show aV c-τ d<aV c-τ (b8 c (aV c) q);rw[τn q hq2];lia
 ·rw[sl]at hi hj;have a:=(hτ i hi).1;have b:=(hτ j hj).1;have:τ i=τ j:=by have e':aV c-τ i=aV c-τ j:=e;lia
  rw[<- (hτ i hi).2,this,(hτ j hj).2]
 ·rw[sl]at hd;obtain⟨k1,k2⟩:=hτ d hd;rw[<- k2,sg _ k1]at hl;rcases T.rip (τ d) _ (hg _ k1) l hl with ⟨j,q,g1,g2,g3⟩ | g
  ·refine .inl ⟨b8 c (aV c) j,?_,?_⟩
   ·rw[<- k2,pat' _ k1,Xd,g1];rfl
   ·have hj:=(Xf.mp g2).1;rw[shl]at hj;rw[sg j hj,Xd,g2];exact g3
  ·refine .inr λm hm hlt2=>?_;rw[sl]at hm;obtain⟨m1,m2⟩:=hτ m hm;have hlt3:aV c-τ d<aV c-τ m:=hlt2;rw[<- m2,sg _ m1];exact g (τ m) _ (by lia) (hg _ m1)
def bJ:Option Nat->PV
 | none=>.non
 | some p=>.int p
def zgL (ps:Tf):PV:=.lst (ps.map bJ)
def zhS (l:Tt):PV:=.lst (l.map λ(k:Nat)=>PV.int k)
def zkq:PF:=λds Q=>∃c:Int,ds=[.int c]/\Q (.tup [cB (jk c),zgL (pQ c)]) .aH
theorem N8:fQ zkq:=λds Q Q' m ⟨c,e,q⟩=>⟨c,e,m _ _ q⟩
theorem bw {t u:cN}{ρ:au}{O:eV}(h:∀N:au->Prop,(∀ρ',dX u O ρ'->N ρ')->dX t ⟨N,O.rt,O.bk,O.ct⟩ ρ):dX (pSeq t u) O ρ:=h _ λ_ x=>x
abbrev cC (ls:Tn):PV:=.tup (ls.map PV.str)
theorem Qk (l:Tn):(l.map PV.str).all (PL.plain 5)=true:=by
 rw[XV];intro d hd;obtain⟨x,_,rfl⟩:=Xv.mp hd;rfl
abbrev Ov:=Option (PV×Bool)
def tE (c:Int)(s:oK)(k4 k5 k6:Ov):au:=[some (PV.int c,false),some (PV.lst (s.fr.map PV.str),true),some (PV.lst (s.sh.map cC),true),some (PV.lst (s.ps.map bJ),true),k4,k5,k6,none,none,none,none,none]
theorem zte (xs:List PV)(k:Nat):ig xs none (some (k:Int))=xs.take k:=by
 unfold ig;have h1:HT.gM xs.length 0 none=0:=rfl;rw[h1,List.drop_zero,Nat.sub_zero];by_cases h:k<=xs.length
 ·have:HT.gM xs.length xs.length (some (k:Int))=k:=by rw[HT.yR];lia
  rw[this]
 ·have:HT.gM xs.length xs.length (some (k:Int))=xs.length:=by rw[HT.yR];lia
  rw[this,YJ,Xs (by lia)]
section
variable {P:Wo}{w:Ws}{K:Xc}{mg:Tj}{base:Heap}
theorem Ra:fO ["_law_cell","_law_fresh","_law_shape","_law_parents","_law_i","_law_some","_law_above","_law_many","_law_far","_law_names","_law_told","_law_turned"] ["_law_cell"] (aU oH):=fsc
abbrev Ql:List Str:=["_law_cell","_law_fresh","_law_shape","_law_parents","_law_i","_law_some","_law_above","_law_many","_law_far","_law_names","_law_told","_law_turned"]
theorem ztf {fL:We}{fdL:WA}(F:dU K "_law_tree" "_law_tree" oH f fd) (Mix:Y2 K mg fM su) (Letters:Fx K mg "_law_letters" rQ ["_law_cell"] fL fdL) (B:Bl mg):aJ P w K mg base bO 3 f fd ["_law_cell"] (bR K zkq):=by
 have c7:Z2 P w K mg base 2 fM su:=(Aj Mix.fn).mono (by decide);have pR:aJ P w K mg base bO 2 fL fdL ["_law_cell"] (bR K zbc):=zmw Letters.fn Mix B;refine jt F Ra (λds Q ⟨c,e,_⟩=>by rw[e];rfl) (λcdv A outer s H E hr=>?_);have hu:=cu hr;have nd:=Ra.nd;refine⟨_,(bD (cH (i:=1) nd rfl (Qo rfl) (cD pR zjo hr rfl Letters.mg Letters.fn.kp Letters.bd (aB (ak 0) aL)))
   (bD (cH (i:=2) nd rfl (Qo rfl) (jC aL))
   (bD (cH (i:=3) nd rfl (Qo rfl) (jC aL))
   (bD (nZ rfl Qs (nY rfl B.range (aB (lD bA (iQ (cD c7 nu hr rfl Mix.mg Mix.fn.kp Mix.bd (aB (ak 0) (aB bA aL))) bA)) aL)) (bW (i:=4) nd rfl (Qp rfl)) (bD (cH (i:=5) nd rfl (Qo rfl) (jC aL))
   (bD (qp (Dm (ak 4) bA) (bD (rA (vQ 3 (iQ (cD c7 nu hr rfl Mix.mg Mix.fn.kp Mix.bd (aB (ak 0) (aB (lD bA (ak 4)) aL))) (ak 4))))
   (bD (cH (i:=6) nd rfl (Qp rfl) (cO (ak 2) (cO (ak 3) (ak 4))))
   (bU (cH (i:=5) nd rfl (Qo rfl) (zL (jh (N:=["_law_k","_law_cell","_law_i","_law_above"]) (k:=1) (js:=[0,4,6]) rfl (fP (sup:=aU oH) (XN:=Ql) rfl rfl (by decide +kernel)) (by decide) (jd (by decide)) (nY rfl B.range (aB (o8 rfl B.len (aB (ak 6) aL)) aL)) ⟨λ_ _ _ _ _=>(bW (i:=0) (by show(["_law_k","_law_cell","_law_i","_law_above"]:Tn).Nodup;decide +kernel) rfl (Qo rfl)),λ_ _ _ _ _=>(o7 (vR hu (iQ (cD c7 nu hr rfl Mix.mg Mix.fn.kp Mix.bd (aB (ak 1) (aB (lD (lD bA (tD bA (ak 2))) (ak 0)) aL))) bA) bA)),λ_ _ _ _ _=>(cO (ak 3) (ak 0))⟩) zJ (zK bA)))))) (bU (rA (vQ 3 zf))))
   (bD (Jr Qs (lY.t (Ji (uL hu (ak 1) (jC aL)) (Jh (zuq (o8 rfl B.len (aB (ak 5) aL)) (lD bA (iQ (cD c7 nu hr rfl Mix.mg Mix.fn.kp Mix.bd (aB (ak 0) (aB (lD bA (ak 4)) aL))) bA)))))) (bU (rA (zjV 5 (znz 1 bA)))))
   (bD (qp (vR hu (ak 5) (jC aL)) (bU (cH (i:=5) nd rfl (Qo rfl) (jC (aB (cO (cO (ak 2) (cO (ak 3) (ak 4))) bA) aL)))) qT)
   (bD (qp (vR hu (iQ (cD c7 nu hr rfl Mix.mg Mix.fn.kp Mix.bd (aB (ak 0) (aB (lD bA (ak 4)) aL))) bA) bA) (bU (cH (i:=5) nd rfl (Qo rfl) (Dw (ak 5)))) qT)
   (bU (rA (vQ 2 (xY rfl B.tuple (aB (ak 5) aL)))))))))))
   (bD (cH (i:=7) nd rfl (Qp rfl) (o8 rfl B.len (aB (ak 2) aL)))
   (bD (cH (i:=8) nd rfl (Qp rfl) (iQ (cD c7 nu hr rfl Mix.mg Mix.fn.kp Mix.bd (aB (ak 0) (aB bA aL))) (ak 7)))
   (bD (xV (i:=9) (N:=["_law_k","_law_many","_law_far"]) (k:=1) (js:=[7,8]) rfl (fP (sup:=aU oH) (XN:=Ql) rfl rfl (by decide +kernel)) (by decide) (jd (by decide)) (nY rfl B.range (aB (ak 7) aL)) ⟨λ_ _ _ _ _=>(bW (i:=0) (by show(["_law_k","_law_many","_law_far"]:Tn).Nodup;decide +kernel) rfl (Qo rfl)),λ_ _ _ _ _=>mj,λ_ _ _ _ _=>(iQ (lD (ak 0) (ak 2)) (ak 1))⟩ nd rfl rfl)
   (bD (qp (vR hu (iQ (cD c7 nu hr rfl Mix.mg Mix.fn.kp Mix.bd (aB (ak 0) (aB bA aL))) bA) bA) (bU (cH (i:=9) nd rfl (Qo rfl) (Dw (ak 9)))) qT)
   (bD (xV (i:=10) (N:=["_law_k"]) (k:=1) (js:=[]) rfl (fP (sup:=aU oH) (XN:=Ql) rfl rfl (by decide +kernel)) (by decide) (jd (by decide)) (nY rfl B.range (aB (ak 7) aL)) ⟨λ_ _ _ _ _=>(bW (i:=0) (by show(["_law_k"]:Tn).Nodup;decide +kernel) rfl (Qo rfl)),λ_ _ _ _ _=>mj,λ_ _ _ _ _=>zf⟩ nd rfl rfl)
   (bD (nZ rfl Qs (nY rfl B.range (aB (ak 7) aL)) (bW (i:=4) nd rfl (Qp rfl)) (bU (qp (zpL (cO (ak 3) (ak 4)) zf) (bU (J1 10 (cO (ak 9) (ak 4)) (cO (ak 9) (cO (ak 3) (ak 4))))) qT)))
   (bD (xV (i:=11) (N:=["_law_k"]) (k:=1) (js:=[]) rfl (fP (sup:=aU oH) (XN:=Ql) rfl rfl (by decide +kernel)) (by decide) (jd (by decide)) (nY rfl B.range (aB (ak 7) aL)) ⟨λ_ _ _ _ _=>(bW (i:=0) (by show(["_law_k"]:Tn).Nodup;decide +kernel) rfl (Qo rfl)),λ_ _ _ _ _=>mj,λ_ _ _ _ _=>(tH aL)⟩ nd rfl rfl)
   (bD (nZ rfl Qs (nY rfl B.range (aB (ak 7) aL)) (bW (i:=4) nd rfl (Qp rfl)) (bU (J1 11 (cO (ak 9) (ak 4)) (cO (ak 2) (ak 4)))))
   (bU (lE 10 (lE 11 (gP (tH (aB (ak 11) (aB (ak 10) aL))))))))))))))))))),λds Q h=>?_⟩
 obtain⟨c,rfl,q⟩:=h;have hsz:=Wr;obtain⟨n1,n6⟩:=Ny c;refine bw λN hN=>?_;walk_at "go";refine hN _ (bw λN hN=>?_);walk_at "go";refine⟨Ye _,hN _ (bw λN hN=>?_)⟩;walk_at "go";refine⟨Ye _,hN _ (bw λN hN=>?_)⟩;walk_at "go";obtain⟨Iv,bC⟩:∃Iv:Nat->au->Prop,∀i ρ,Iv i ρ↔∃k4 k5 k6:Ov,ρ=tE c (iY c i) k4 k5 k6:=⟨_,λ_ _=>QG⟩;refine⟨by decide,by decide,by decide,by lia,by lia,Iv,(bC _ _).mpr ⟨_,_,_,rfl⟩,?_,?_⟩
 ·intro i d ρ hd hI;obtain⟨k4,k5,k6,rfl⟩:=(bC _ _).mp hI;obtain⟨hi,rfl⟩:=o6 hd;rw[Q8];have hi6:i<6:=by lia
  have T:=Aq c i;have hN':∀k4 k5 k6,Iv (i+1) (tE c (Fv c i (iY c i)) k4 k5 k6):=λk4 k5 k6=>(bC _ _).mpr ⟨k4,k5,k6,rfl⟩;generalize iY c i=s at T hN' hI ⊢;have sl:=T.sl;have pl:=T.pl;have fl:s.fr.length<=6:=by
   rw[<- yx c];exact Q9 T.fnd λx hx=>(T.lR x hx).1
  show dX _ _ [some (PV.int c,false),some (PV.lst (s.fr.map PV.str),true),some (PV.lst (s.sh.map cC),true),some (PV.lst (s.ps.map bJ),true),some (PV.int i,false),k5,k6,none,none,none,none,none];refine bw λM hM=>?_;walk_at "go";refine⟨Ye _,hM _ (bw λM hM=>?_)⟩;refine(λ(key:∀k6:Ov,M [some (PV.int c,false),some (PV.lst (s.fr.map PV.str),true),some (PV.lst (s.sh.map cC),true),some (PV.lst ((s.ps++[bI c i]).map bJ),true),some (PV.int i,false),some (PV.lst ((kY c i s).map PV.str),true),k6,none,none,none,none,none])=>?_) λk6=>hM _ ?_
  ·walk_at "go";refine dW (λe0=>?_) (λe0=>?_)
   ·have hi0:0<i:=by lia
    obtain⟨j,qq,hj,hq,hab,hq0⟩:=yE T hi0;have hjm:mix c (4+(i:Int)) % (i:Int)=(j:Int):=by
     unfold bI at hj;rw[Qe (by lia)]at hj;have a:=YD (mix c (4+(i:Int))) (show(i:Int)≠0 by lia);have:=Qa hj;lia
    have hq4:=(T.pat qq (Xl hq)).2.1;refine bw λM2 hM2=>?_;walk_at "go";rw[hjm];refine⟨by rw[Xb];lia,by lia,by lia,by lia,hM2 _ (bw λM2 hM2=>?_)⟩;have hat:cW (s.ps.map bJ++[PV.int (j:Int)]) (i:Int)=some (PV.int j):=eE (by rw[XO (by rw[Xb];lia),Xb,show i-s.ps.length=0 by lia];rfl);have mW:cW (s.sh.map cC) (j:Int)=some (cC qq):=eE (by rw[Xe,hq];rfl);walk_at "go";refine⟨_,hat,_,⟨_,rfl,mW⟩,hM2 _ ?_⟩;walk_at "go";rw[Xb];rw[Yx,lZ];refine⟨by lia,by lia,by lia,λk out=>out=(vp c i qq k).map PV.str,rfl,?_,?_⟩
    ·rintro k d out hd-rfl;obtain⟨hk,rfl⟩:=o6 hd;rw[Q8];have hqk:qq[k]? = some qq[k]:=Xa hk;refine⟨.inr ⟨by lia,by lia⟩,_,rfl,by lia,by lia,by decide,?_⟩;show ite _ _ _;by_cases z:mix c (20+4*(i:Int)+(k:Int)) % 2=1
     ·rw[Qf z];refine⟨_,⟨_,rfl,eE (by rw[Xe,hqk];rfl)⟩,?_⟩;show _=(if _ then _ else _:Tn).map PV.str
      rw[Qf z,Xd,hqk,Xp];rfl
     ·rw[Qe z];show _=(if _ then _ else _:Tn).map PV.str
      rw[Qe z]
    ·rintro out-rfl;have e3:ig ((vp c i qq qq.length).map PV.str) none (some 3)=(kY c i s).map PV.str:=by
      rw[show(3:Int)=((3:Nat):Int) from rfl,zte,<- List.map_take];unfold kY;rw[hab]
     rw[e3];have:=key (some (cC qq,false));rw[Xp,hj]at this;exact this
   ·have hi0:i=0:=by lia
    subst hi0;walk_at "go";have:=key k6;rw[Xp]at this;exact⟨by rw[Xb];lia,this⟩
  refine bw λM hM=>?_;walk_at "go";obtain⟨Iw,nC⟩:∃Iw:Nat->au->Prop,∀m ρ,Iw m ρ↔∃t:Nat,m=cU c i s-t/\t<=cU c i s/\ρ=[some (PV.int c,false),some (PV.lst ((s.fr.drop t).map PV.str),true),some (PV.lst (s.sh.map cC),true),some (PV.lst ((s.ps++[bI c i]).map bJ),true),some (PV.int i,false),some (PV.lst ((kY c i s++s.fr.take t).map PV.str),true),k6,none,none,none,none,none]:=⟨_,λ_ _=>QG⟩;refine⟨Iw,⟨_,(nC _ _).mpr ⟨0,rfl,Ye _,by rw[List.drop_zero,List.take_zero,Ym]⟩⟩,λm ρ hI2=>?_⟩;obtain⟨t,rfl,ht,rfl⟩:=(nC _ _).mp hI2;walk_at "go";have w4:=Fy c i;have s3:(kY c i s).length<=3:=by unfold kY;rw[XJ];lia
  have hlen:((kY c i s++s.fr.take t).map PV.str).length=(kY c i s).length+t:=by
   rw[Xb,Xy,XJ];have:cU c i s<=s.fr.length:=Nat.min_le_left _ _;lia
  have hw:1+mix c (12+(i:Int)) % 4=(vq c i:Int):=by unfold vq;lia
  have hnum:cU c i s=min s.fr.length (vq c i-(kY c i s).length):=rfl;have fin:t=cU c i s->M [some (PV.int c,false),some (PV.lst ((s.fr.drop t).map PV.str),true),some (PV.lst (s.sh.map cC),true),some (PV.lst ((s.ps++[bI c i]).map bJ),true),some (PV.int i,false),some (PV.lst ((kY c i s++s.fr.take t).map PV.str),true),k6,none,none,none,none,none]:=λe=>hM _ ?_
  ·refine⟨by lia,Qk _,?_⟩;by_cases hd:s.fr.drop t=[]
   ·rw[Qe (λz=>z (by rw[hd];rfl))];refine fin ?_;have:=congrArg QW hd;rw[Px,OJ]at this;lia
   ·rw[Qf (λz=>hd (List.map_eq_nil_iff.mp z))];have ht2:t<s.fr.length:=Decidable.byContradiction λz=>hd (List.drop_eq_nil_iff.mpr (by lia));refine⟨by lia,by lia,by decide,?_⟩;rw[hlen,hw];refine dW (λe=>?_) (λe=>fin (by lia));have hdt:s.fr.drop t=s.fr[t]::s.fr.drop (t+1):=Yz ht2;rw[hdt];walk_at "go";refine⟨by decide,by decide,0,by unfold seqIndex?;simp,_,rfl,by rw[hlen];lia,cU c i s-(t+1),by lia,(nC _ _).mpr ⟨t+1,rfl,by lia,?_⟩⟩;have htk:s.fr[t]? = some s.fr[t]:=Xa ht2;rw[<- take_snoc htk,<- XE,Xp (l₂:=[s.fr[t]])];rfl
  subst e;have hs1:kY c i s++s.fr.take (cU c i s)=iI c i s:=rfl;rw[hs1];refine bw λM hM=>?_;have two:M [some (PV.int c,false),some (PV.lst ((s.fr.drop (cU c i s)).map PV.str),true),some (PV.lst (s.sh.map cC),true),some (PV.lst ((s.ps++[bI c i]).map bJ),true),some (PV.int i,false),some (PV.lst ((fH c i s).map PV.str),true),k6,none,none,none,none,none]:=hM _ ?_
  ·walk_at "go";by_cases z:iI c i s=[]
   ·have fr:=NQ z;have hi0:0<i:=Nat.pos_of_ne_zero λy=>by
     have h6:=yx c;rw[T.f0 y]at fr;rw[fr]at h6;cases h6
    obtain⟨j,qq,hj,hq,hab,hq0⟩:=yE T hi0;have hat:cW ((s.ps++[bI c i]).map bJ) (i:Int)=some (PV.int j):=eE (by rw[Xe,XO (by lia),show i-s.ps.length=0 by lia,hj];rfl);have mW:cW (s.sh.map cC) (j:Int)=some (cC qq):=eE (by rw[Xe,hq];rfl);have hp0:qq[0]? = some (qq[0]'(List.length_pos_iff.mpr hq0)):=Xa _;have hat3:cW (qq.map PV.str) 0=some (.str (qq[0]'(List.length_pos_iff.mpr hq0))):=eE (j:=0) (by rw[Xe,hp0];rfl);have e2:fH c i s=[qq[0]'(List.length_pos_iff.mpr hq0)]:=by unfold fH;rw[Qf z,hab,Xd,hp0];rfl
    rw[e2]at two;rw[z];refine⟨by lia,rfl,?_⟩;rw[Qf (show Yl PV.str []=[] from rfl)];walk_at "go";exact⟨_,hat,_,⟨_,rfl,mW⟩,_,.inl ⟨_,.inr rfl,hat3⟩,by lia,two⟩
   ·have e2:fH c i s=iI c i s:=Qe z;rw[e2]at two;refine⟨by lia,Qk _,?_⟩;rw[Qe λy=>z (List.map_eq_nil_iff.mp y)];walk_at "go";exact two
  refine bw λM hM=>?_;have thr:M [some (PV.int c,false),some (PV.lst ((s.fr.drop (cU c i s)).map PV.str),true),some (PV.lst (s.sh.map cC),true),some (PV.lst ((s.ps++[bI c i]).map bJ),true),some (PV.int i,false),some (PV.lst ((gJ c i s).map PV.str),true),k6,none,none,none,none,none]:=hM _ ?_
  ·walk_at "go";have m50:=vg c (50+(i:Int));refine⟨by lia,by lia,by decide,?_⟩;by_cases z:mix c (50+(i:Int)) % 2=1
   ·rw[Qf z];have e3:gJ c i s=(fH c i s).reverse:=Qf z;rw[e3,Ng]at thr;walk_at "go";exact thr
   ·rw[Qe z];have e3:gJ c i s=fH c i s:=Qe z;rw[e3]at thr;walk_at "go";exact thr
  walk_at "go";refine⟨by rw[Xb];lia,?_⟩;rw[show Yl cC s.sh++[PV.tup ((gJ c i s).map PV.str)]=(s.sh++[gJ c i s]).map cC by rw[Xp];rfl];exact hN' _ _ _
 ·intro ρ hI;obtain⟨k4,k5,k6,rfl⟩:=(bC _ _).mp hI;rw[lZ,show(1+mix c 3 % 6).toNat=aV c from rfl];have T:=Aq c (aV c);have hq:Q (.tup [cB (fW (b8 c (aV c)) (λi=>some ((iY c (aV c)).sh.getD i [])) (Ya (aV c) []) (aV c)),zgL (fW (b8 c (aV c)) (λi=>((iY c (aV c)).ps.getD i none).map λp=>some (b8 c (aV c) p)) (Ya (aV c) none) (aV c))]) .aH:=q;clear hI bC Iv q;generalize iY c (aV c)=s at T hq ⊢;generalize aV c=n at *;have sl:=T.sl;have pl:=T.pl;have hlt:∀i,i<n->b8 c n i<n:=λi hi=>N6 n1 hi;refine hN _ (bw λM hM=>?_);unfold tE;walk_at "go";rw[Xb,sl];refine hM _ (bw λM hM=>?_);walk_at "go";refine⟨by decide,by decide,by lia,?_⟩;have a60:=YD (mix c 60) (show(n:Int)≠0 by lia);have b60:=Ob (mix c 60) (show(0:Int)<n by lia);rw[show mix c 60 % (n:Int)=(iJ c n:Int) by unfold iJ;lia];refine hM _ (bw λM hM=>?_);walk_at "go";rw[Yx,lZ];refine⟨by lia,by lia,by lia,λk out=>out=((Yj k).map λk=>(k+iJ c n) % n).map λ(k:Nat)=>PV.int k,rfl,?_,?_⟩
  ·rintro k d out hd-rfl;obtain⟨hk,rfl⟩:=o6 hd;rw[Q8];refine⟨_,rfl,by lia,?_⟩;show _=_;rw[O5,Xp,Xp];rfl
  rintro out-rfl;refine hM _ (bw λM hM=>?_);have nml:M [some (PV.int c,false),some (PV.lst (s.fr.map PV.str),true),some (PV.lst (s.sh.map cC),true),some (PV.lst (s.ps.map bJ),true),k4,k5,k6,some (PV.int n,false),some (PV.int (iJ c n),false),some (PV.lst ((sy c n).map λ(k:Nat)=>PV.int k),true),none,none]:=hM _ ?_
  ·walk_at "go";refine⟨by decide,by decide,by decide,?_⟩;by_cases z:mix c 61 % 2=1
   ·rw[Qf z];have e:sy c n=(wB c n).reverse:=Qf z;rw[e,Ng]at nml;walk_at "go";exact nml
   ·rw[Qe z];have e:sy c n=wB c n:=Qe z;rw[e]at nml;walk_at "go";exact nml
  have hnm:∀k,k<n->cW ((sy c n).map λ(k:Nat)=>PV.int k) (k:Int)=some (PV.int (b8 c n k)):=λk hk=>eE (by
   have hl:(sy c n).length=n:=by unfold sy wB;split<;>simp
   rw[Xe,Xa (by lia)];unfold b8;rw[Xd,Xa (by lia)];rfl)
  generalize sy c n=nms at hnm ⊢;refine bw λM hM=>?_;walk_at "go";rw[Yx,lZ];refine⟨by lia,by lia,by lia,λk out=>out=(Ya k (none:Option Nat)).map bJ,rfl,?_,?_⟩
  ·rintro k d out - - rfl;show _=_;rw[List.replicate_succ',Xp];rfl
  rintro out-rfl;have hps:∀k,k<n->cW (s.ps.map bJ) (k:Int)=some (bJ (s.ps.getD k none)):=λk hk=>eE (by
   rw[Xe,Xd,Xa (by lia)];rfl)
  have hsh:∀k,k<n->cW (s.sh.map cC) (k:Int)=some (cC (s.sh.getD k [])):=λk hk=>eE (by
   rw[Xe,Xd,Xa (by lia)];rfl)
  have hix:∀j,j<n->jo n (j:Int)=some j:=λj hj=>by unfold jo;simp;lia
  refine hM _ (bw λM hM=>?_);walk_at "go";rw[Yx,lZ];obtain⟨g1,hg1⟩:∃g1:Nat->Option (Option Nat),∀i,g1 i=(s.ps.getD i none).map λp=>some (b8 c n p):=⟨_,λ_=>rfl⟩;rw[show(λi=>(s.ps.getD i none).map λp=>some (b8 c n p))=g1 from(funext hg1).symm]at hq;obtain⟨Iv,bC⟩:∃Iv:Nat->au->Prop,∀i ρ,Iv i ρ↔∃k4:Ov,ρ=[some (PV.int c,false),some (PV.lst (s.fr.map PV.str),true),some (PV.lst (s.sh.map cC),true),some (PV.lst (s.ps.map bJ),true),k4,k5,k6,some (PV.int n,false),some (PV.int (iJ c n),false),some (PV.lst (nms.map λ(k:Nat)=>PV.int k),true),some (PV.lst ((fW (b8 c n) g1 (Ya n none) i).map bJ),true),none]:=⟨_,λ_ _=>QG⟩;refine⟨by lia,by lia,Iv,(bC _ _).mpr ⟨_,rfl⟩,?_,?_⟩
  ·intro i d ρ hd hI;obtain⟨k4,rfl⟩:=(bC _ _).mp hI;obtain⟨hi,rfl⟩:=o6 hd;rw[Q8];have hil:=(vy (b8 c n) g1 (Ya n none) i).trans Yv;walk_at "go";refine⟨_,hps i hi,?_⟩;cases hp:s.ps.getD i none with
   | none=>
    rw[Qe (λz=>z rfl)];walk_at "go";have st:fW (b8 c n) g1 (Ya n none) (i+1)=_:=zmA (by rw[hg1,hp];rfl);exact(bC _ _).mpr ⟨some (PV.int i,false),by rw[st]⟩
   | some p=>
    have hpi:=T.iM i p (by rw[<- hp,Xd,Xa (by lia)];rfl);rw[Qf (λz=>nomatch z)];have st:fW (b8 c n) g1 (Ya n none) (i+1)=_:=NT (v:=some (b8 c n p)) (by rw[hg1,hp];rfl);walk_at "go";have hpsi:=hps i hi;rw[hp]at hpsi;refine⟨_,hpsi,_,⟨_,rfl,hnm p (by lia)⟩,_,hnm i hi,_,rfl,b8 c n i,by rw[Xb,hil];exact hix _ (hlt i hi),(bC _ _).mpr ⟨some (PV.int i,false),?_⟩⟩;rw[st,List.map_set];rfl
  intro ρ hI;obtain⟨k4',rfl⟩:=(bC _ _).mp hI;refine hM _ (bw λM hM=>?_);walk_at "go";rw[Yx,lZ];refine⟨by lia,by lia,by lia,λk out=>out=(Ya k ([]:Tn)).map cC,rfl,?_,?_⟩
  ·rintro k d out - - rfl;refine⟨by lia,?_⟩;show _=_;rw[List.replicate_succ',Xp];rfl
  rintro out-rfl;refine hM _ (bw λM hM=>?_);walk_at "go";rw[Yx,lZ];clear hI bC Iv;obtain⟨Iv,bC⟩:∃Iv:Nat->au->Prop,∀i ρ,Iv i ρ↔∃k4:Ov,ρ=[some (PV.int c,false),some (PV.lst (s.fr.map PV.str),true),some (PV.lst (s.sh.map cC),true),some (PV.lst (s.ps.map bJ),true),k4,k5,k6,some (PV.int n,false),some (PV.int (iJ c n),false),some (PV.lst (nms.map λ(k:Nat)=>PV.int k),true),some (PV.lst ((fW (b8 c n) g1 (Ya n none) n).map bJ),true),some (PV.lst ((fW (b8 c n) (λi=>some (s.sh.getD i [])) (Ya n []) i).map cC),true)]:=⟨_,λ_ _=>QG⟩;refine⟨by lia,by lia,Iv,(bC _ _).mpr ⟨_,rfl⟩,?_,?_⟩
  ·intro i d ρ hd hI;obtain⟨k4,rfl⟩:=(bC _ _).mp hI;obtain⟨hi,rfl⟩:=o6 hd;rw[Q8];have hil:=(vy (b8 c n) (λi=>some (s.sh.getD i [])) (Ya n []) i).trans Yv;walk_at "go";refine⟨_,hsh i hi,_,hnm i hi,_,rfl,b8 c n i,by rw[Xb,hil];exact hix _ (hlt i hi),(bC _ _).mpr ⟨some (PV.int i,false),?_⟩⟩;rw[show fW (b8 c n) (λi=>some (s.sh.getD i [])) (Ya n []) (i+1)=_ from NT rfl,List.map_set]
  intro ρ hI;obtain⟨k4',rfl⟩:=(bC _ _).mp hI;refine hM _ ?_;walk_at "go";exact⟨by lia,hq⟩
end
theorem Rc {u:Nat}(h:u+16<WG):u+9<WG:=by lia
def kids (ps:Tf)(i:Nat):Tt:=(Yj ps.length).filter λc=>ps[c]? == some (some i)
def zbd:PF:=λds Q=>∃(ps:Tf)(i:Nat),ds=[zgL ps,.int i]/\ps.length<=1000/\Q (zhS (kids ps i)) .new
theorem zgy:fQ zbd:=λds Q Q' m ⟨a,b,e,h,q⟩=>⟨a,b,e,h,m _ _ q⟩
section
variable {P:Wo}{w:Ws}{K:Xc}{mg:Tj}{base:Heap}
theorem Rf:fO ["parents","i"] ["parents","i"] (aU qF):=fsc
theorem zhT (F:dU K "children_of" "children_of" qF f fd) (B:Bl mg):aJ P w K mg base bO 1 f fd ["parents","i"] (bR K zbd):=by
 refine jt F Rf (λds Q ⟨a,b,e,_⟩=>by rw[e];rfl) (λcdv A outer s H E hr=>?_);have hu:=cu hr;have nd:=Rf.nd;refine⟨_,(bU (gP (jh (N:=["child","parent","i"]) (k:=2) (js:=[1]) rfl (fP (sup:=aU qF) (XN:=["parents","i"]) rfl rfl (by decide +kernel)) (by decide) (zB (rB (by decide) (by decide))) (Ec rfl B.enumerate (ak 0)) ⟨λ_ _ _ _ _=>(vP (n:=2) rfl (nU (bW (i:=0) (by show(["child","parent","i"]:Tn).Nodup;decide +kernel) rfl (Qo rfl)) (nU (bW (i:=1) (by show(["child","parent","i"]:Tn).Nodup;decide +kernel) rfl (Qo rfl)) vO))),λ_ _ _ _ _=>(o7 (vR hu (ak 1) (ak 2))),λ_ _ _ _ _=>(ak 0)⟩))),λds Q h=>?_⟩;obtain⟨ps,i,rfl,hl,q⟩:=h;have hsz:=Wr;walk_at "pu";refine⟨by rw[vZ,Xb];lia,λk out=>out=((Yj k).filter λc=>ps[c]? == some (some i)).map λ(c:Nat)=>PV.int c,rfl,?_,?_⟩
 ·rintro k d out hd-rfl;obtain⟨x,hx,rfl⟩:=zP hd;rw[Xe]at hx;cases hp:ps[k]? with
  | none=>rw[hp]at hx;cases hx
  | some p=>
   rw[hp]at hx;cases hx;have hpe:(bJ p=PV.int i)↔p=some i:=by
    cases p with
    | none=>exact⟨λz=>(nomatch z),λz=>(nomatch z)⟩
    | some p=>
     constructor
     ·intro z;have z':(p:Int)=(i:Int):=PV.int.inj z;rw[show p=i by lia]
     ·intro z;cases z;rfl
   refine⟨_,rfl,rfl,_,_,rfl,_,_,rfl,rfl,by cases p<;>rfl,?_⟩;show if _ then _=_ else _=_
   rw[O5,Yp,Xp];refine dW (λe=>?_) (λe=>?_)
   ·rw[Ow (by rw[hp,hpe.mp e];simp)];rfl
   ·rw[Ox (by rw[hp];simp;exact λz=>e (hpe.mpr z)),List.filter_nil,YL,Ym]
 ·rintro out-rfl;rw[vZ,Xb];exact q
def pre (ps:Tf):Nat->Nat->Tt
 | 0,_=>[]
 | t+1,i=>i::(kids ps i).flatMap (pre ps t)
structure vz (ps:Tf)(rk:Tw):Prop where
 lt:∀c p,ps[c]? = some (some p)->rk c<rk p
theorem FP {c:Nat}(h:c∈kids ps i):ps[c]? = some (some i):=by
 have:=(XH.mp h).2;exact eq_of_beq this
theorem Rg (R:vz ps rk):∀(t i t':Nat),rk i<t->rk i<t'->pre ps t i=pre ps t' i
 | 0,i,t',h,_=>Qg h (Od _)
 | t+1,i,t',h,h'=>by
  cases t' with
  | zero=>exact Qg h' (Od _)
  | succ t'=>
   show i::_=i::_
   congr 1
   have:∀l:Tt,(∀c∈l,ps[c]? = some (some i))->l.flatMap (pre ps t)=l.flatMap (pre ps t'):=by
    intro l;induction l with
    | nil=>intro _;rfl
    | cons c l ih=>
     intro hl;have hc:=R.lt c i (hl c (Xg ..));rw[YK,YK,Rg R t c t' (by lia) (by lia),ih λd hd=>hl d (Xi _ hd)]
   exact this _ λc hc=>FP hc
def dI (ps:Tf)(rk:Tw)(i:Nat):Tt:=pre ps (rk i+1) i
theorem FQ (R:vz ps rk)(i:Nat):dI ps rk i=i::(kids ps i).flatMap (dI ps rk):=by
 unfold dI;show i::_=i::_
 congr 1
 have:∀l:Tt,(∀c∈l,ps[c]? = some (some i))->l.flatMap (pre ps (rk i))=l.flatMap λc=>pre ps (rk c+1) c:=by
  intro l;induction l with
  | nil=>intro _;rfl
  | cons c l ih=>
   intro hl;have hc:=R.lt c i (hl c (Xg ..));rw[YK,YK,Rg R (rk i) c (rk c+1) (by lia) (by lia),ih λd hd=>hl d (Xi _ hd)]
 exact this _ λc hc=>FP hc
def zks:PF:=λds Q=>∃(ps:Tf)(rk:Tw)(r:Nat),ds=[zgL ps]/\ps.length<=1000/\vz ps rk/\ps[r]? = some none/\(∀j,j<r->ps[j]?≠some none)/\(dI ps rk r).length<=1000000/\Q (zhS (dI ps rk r)) .new
theorem zoO:fQ zks:=λds Q Q' m ⟨a,b,c,e,h1,h2,h3,h4,h5,q⟩=>⟨a,b,c,e,h1,h2,h3,h4,h5,m _ _ q⟩
theorem Rh:fO ["parents","found","waiting","i"] ["parents"] (aU t6):=fsc
theorem ztg {fC:We}{fdC:WA}(F:dU K "walk" "walk" t6 f fd) (bL:Fx K mg "children_of" qF ["parents","i"] fC fdC) (B:Bl mg):aJ P w K mg base bO 2 f fd ["parents"] (bR K zks):=by
 have kj:aJ P w K mg base bO 1 fC fdC ["parents","i"] (bR K zbd):=zhT bL.fn B;refine jt F Rh (λds Q ⟨a,b,c,e,_⟩=>by rw[e];rfl) (λcdv A outer s H E hr=>?_);have hu:=cu hr;have nd:=Rh.nd;refine⟨_,(bD (cH (i:=1) nd rfl (Qo rfl) (jC aL))
   (bD (cH (i:=2) nd rfl (Qo rfl) (jC (aB (zT (ak 0) zf) aL)))
   (bD (Jr Qs (uF (ak 2)) (bD (zpJ (i:=3) nd rfl (Qo rfl) (zsM 2))
   (bD (rA (vQ 1 (ak 3)))
   (bU (rA (zqb 2 (Dw (cD kj zgy hr rfl bL.mg bL.fn.kp bL.bd (aB (ak 0) (aB (ak 3) aL))))))))))
   (bU (gP (ak 1)))))),λds Q h=>?_⟩
 obtain⟨ps,rk,r,rfl,hl,R,hr0,hr1,hpl,q⟩:=h;have hsz:=Wr;walk_at "pu";refine⟨by lia,?_⟩;walk_at "go";have hflat:((ps.map bJ).all oE)=true:=by
  rw[XV];intro d hd;obtain⟨p,_,rfl⟩:=Xv.mp hd;cases p<;>rfl
 have hmem:PV.non∈ps.map bJ:=Xv.mpr ⟨none,Xl hr0,rfl⟩;have hidx:iu (ps.map bJ) PV.non=r:=by
  unfold iu;have hrl:r<ps.length:=(Xf.mp hr0).1;refine(List.findIdx_eq (by rw[Xb];exact hrl)).mpr ⟨?_,λj hj=>?_⟩
  ·rw[List.getElem_map,(Xf.mp hr0).2];exact Qd rfl
  ·have hjl:j<ps.length:=by lia
   rw[List.getElem_map];have hj1:=hr1 j hj;rw[Xa hjl]at hj1;cases hp:ps[j]with
   | none=>rw[hp]at hj1;exact Qg rfl hj1
   | some p=>exact Qc λz=>nomatch z
 refine⟨hflat,rfl,hmem,by lia,?_⟩;rw[hidx];walk_at "go";obtain⟨Iv,bC⟩:∃Iv:Nat->au->Prop,∀m ρ,Iv m ρ↔∃(fs ws:Tt) (k3:Option (PV×Bool)),fs++ws.reverse.flatMap (dI ps rk)=dI ps rk r/\m=(ws.reverse.flatMap (dI ps rk)).length/\
  ρ=[some (PV.lst (Yl bJ ps),false),some (PV.lst (fs.map λ(k:Nat)=>PV.int k),true),some (PV.lst (ws.map λ(k:Nat)=>PV.int k),true),k3]:=⟨_,λ_ _=>QG⟩
 refine⟨Iv,⟨_,(bC _ _).mpr ⟨[],[r],none,by simp,rfl,rfl⟩⟩,λm ρ' hI=>?_⟩;obtain⟨fs,ws,k3,h1,h2,rfl⟩:=(bC _ _).mp hI;walk_at "go";rcases List.eq_nil_or_concat ws with rfl | ⟨us,i,rfl⟩
 ·rw[Qe (by simp)];walk_at "go";simp only[List.reverse_nil,List.flatMap_nil,Ym]at h1;rw[h1];exact q
 ·rw[Qf (by simp)];rw[List.concat_eq_append]at h1 h2 ⊢;have hrev:(us++[i]).reverse=i::us.reverse:=by simp
  rw[hrev,YK,FQ R i]at h1 h2;walk_at "go";rw[Xb];refine⟨PV.int i,by simp,?_⟩;have hdl:(Yl (λ(k:Nat)=>PV.int k) (us++[i])).dropLast=us.map λ(k:Nat)=>PV.int k:=by
   rw[Xp];exact List.dropLast_concat
  rw[hdl];have hlen:=congrArg QW h1;simp only[Xy,XX]at hlen h2;walk_at "go";refine⟨by rw[Xb];lia,?_⟩;walk_at "go";have hkl:(kids ps i).length<=1000:=by
   have:=Yo (λc=>ps[c]? == some (some i)) (Yj ps.length);rw[Og]at this;exact XZ this hl
  have hul:us.length<=(us.reverse.flatMap (dI ps rk)).length:=by
   have:∀l:Tt,l.length<=(l.flatMap (dI ps rk)).length:=by
    intro l;induction l with
    | nil=>exact Xj _
    | cons c l ih=>rw[YK,FQ R c,Xy,XX,XX];lia
   have:=this us.reverse;rw[Pq]at this;exact this
  refine⟨ps,rfl,i,rfl,hl,by rw[Xb,Pq,Xb];lia,((kids ps i).flatMap (dI ps rk)++us.reverse.flatMap (dI ps rk)).length,by rw[h2,Xy];lia,?_⟩;refine(bC _ _).mpr ⟨fs++[i],us++(kids ps i).reverse,some (PV.int i,false),?_,?_,?_⟩
  ·rw[List.reverse_append,List.reverse_reverse,List.flatMap_append,<- h1];simp
  ·rw[List.reverse_append,List.reverse_reverse,List.flatMap_append]
  ·rw[Xp,Xp,Ng];rfl
end
theorem uc {c:Nat}:c∈kids ps i↔ps[c]? = some (some i):=by
 refine⟨FP,λh=>XH.mpr ⟨List.mem_range.mpr (Xf.mp h).1,by rw[h];exact beq_self_eq_true _⟩⟩
def dJ (ps:Tf)(l:Tt):Prop:=∀l1 i l2,l=l1++i::l2->∀c∈kids ps i,c∈l2
theorem dJ.app {a b:Tt}(ha:dJ ps a)(hb:dJ ps b):dJ ps (a++b):=λl1 i l2 h c hc=>by
 rcases List.append_eq_append_iff.mp h with ⟨w,e1,e2⟩ | ⟨w,e1,e2⟩
 ·exact hb w i l2 e2 c hc
 ·cases w with
  | nil=>
   rw[List.nil_append]at e2;exact hb [] i l2 e2.symm c hc
  | cons y w=>
   rw[List.cons_append,List.cons.injEq]at e2;obtain⟨rfl,rfl⟩:=e2;exact List.mem_append_left _ (ha l1 i w e1 c hc)
theorem dJ.cons {ps:Tf}{j:Nat}{b:Tt}(hb:dJ ps b)(hk:∀c∈kids ps j,c∈b):dJ ps (j::b):=λl1 i l2 h c hc=>by
 cases l1 with
 | nil=>
  rw[List.nil_append,List.cons.injEq]at h;obtain⟨rfl,rfl⟩:=h;exact hk c hc
 | cons y l1=>
  rw[List.cons_append,List.cons.injEq]at h;exact hb l1 i l2 h.2 c hc
theorem dJ.flat {g:Nat->Tt}:∀ {l:Tt},(∀c∈l,dJ ps (g c))->dJ ps (l.flatMap g)
 | [],_=>λl1 i l2 h=>by cases l1<;>cases h
 | c::l,h=>by
  rw[YK];exact(h c (Xg ..)).app (dJ.flat λd hd=>h d (Xi _ hd))
theorem FT {t:Nat}(h:0<t):i∈pre ps t i:=by
 cases t with
 | zero=>exact Qg h (Od _)
 | succ t=>exact Xg ..
theorem Ri (R:vz ps rk):∀(t j:Nat),rk j<t->dJ ps (pre ps t j)
 | 0,_,h=>Qg h (Od _)
 | t+1,j,h=>by
  refine dJ.cons (dJ.flat λc hc=>Ri R t c ?_) λc hc=>List.mem_flatMap.mpr ⟨c,hc,FT ?_⟩
  ·have:=R.lt c j (uc.mp hc);lia
  ·have:=R.lt c j (uc.mp hc);lia
theorem Rj (R:vz ps rk){c:Nat}(hc:c∈kids ps p):∀(t j:Nat),rk j<t->p∈pre ps t j->c∈pre ps t j
 | 0,_,h,_=>Qg h (Od _)
 | t+1,j,h,hp=>by
  rcases Xx.mp hp with rfl | hp
  ·have:=R.lt c p (uc.mp hc);exact Xi _ (List.mem_flatMap.mpr ⟨c,hc,FT (by lia)⟩)
  ·obtain⟨k,hk,hpk⟩:=List.mem_flatMap.mp hp;have:=R.lt k j (uc.mp hk);exact Xi _ (List.mem_flatMap.mpr ⟨k,hk,Rj R hc t k (by lia) hpk⟩)
theorem Rk {r:Nat}(R:vz ps rk)(one:∀k:Nat,ps[k]? = some none->k=r)(hp:∀c p:Nat,ps[c]? = some (some p)->p<ps.length)(b:Nat)(hb:∀i,i<ps.length->rk i<b):∀(m i:Nat),i<ps.length->b-rk i<=m->i∈pre ps (rk r+1) r
 | 0,i,hi,hm=>by have:=hb i hi;lia
 | m+1,i,hi,hm=>by
  cases hpi:ps[i]? with
  | none=>rw[Xa hi]at hpi;cases hpi
  | some o=>
   cases o with
   | none=>
    rw[one i hpi];exact FT (Nat.succ_pos _)
   | some p=>
    have h1:=R.lt i p hpi;have h2:=hb p (hp i p hpi);exact Rj R (uc.mpr hpi) _ _ (QR _) (Rk R one hp b hb m p (hp i p hpi) (by lia))
def jY (ps:Tf):Tt->Tt->Prop
 | _,[]=>True
 | seen,c::l=>(∃p∈seen,ps[c]? = some (some p))/\jY ps (c::seen) l
theorem jY.mono:∀ {l s s':Tt},(∀x∈s,x∈s')->jY ps s l->jY ps s' l
 | [],_,_,_,_=>trivial
 | c::l,s,s',h,⟨⟨p,hp,e⟩,a⟩=>⟨⟨p,h p hp,e⟩,a.mono λx hx=>by
   rcases Xx.mp hx with rfl | hx
   ·exact Xg
   ·exact Xi _ (h x hx)⟩
theorem jY.app:∀ {a b s:Tt},jY ps s a->jY ps s b->jY ps s (a++b)
 | [],_,_,_,hb=>hb
 | c::a,b,s,⟨h,ha⟩,hb=>⟨h,ha.app (hb.mono λx hx=>Xi _ hx)⟩
theorem jY.flat {g:Nat->Tt}{s:Tt}:∀ {l:Tt},(∀c∈l,jY ps s (g c))->jY ps s (l.flatMap g)
 | [],_=>trivial
 | c::l,h=>by
  rw[YK];exact(h c Xg).app (jY.flat λd hd=>h d (Xi _ hd))
theorem Rm:∀(t j:Nat)(s:Tt),(∃p∈s,ps[j]? = some (some p))->jY ps s (pre ps t j)
 | 0,_,_,_=>trivial
 | t+1,j,s,h=>⟨h,jY.flat λc hc=>Rm t c _ ⟨j,Xg,uc.mp hc⟩⟩
theorem jY.at:∀ {l1 l2 s:Tt}{c:Nat},jY ps s (l1++c::l2)->∃p,ps[c]? = some (some p)/\(p∈s\/p∈l1)
 | [],_,_,_,⟨⟨p,hp,e⟩,_⟩=>⟨p,e,.inl hp⟩
 | b::l1,l2,s,c,⟨_,a⟩=>by
  obtain⟨p,e,h⟩:=a.at;refine⟨p,e,?_⟩;rcases h with h | h
  ·rcases Xx.mp h with rfl | h
   ·exact .inr Xg
   ·exact .inl h
  ·exact .inr (Xi _ h)
def beneath (ps:Tf)(rk:Tw)(r:Nat):Tt:=(kids ps r).flatMap (dI ps rk)
theorem Ro {β:Type}{g:α->List β}{b:Nat}:∀(l:List α),(∀x∈l,(g x).length<=b)->(l.flatMap g).length<=l.length*b
 | [],_=>Ye _
 | x::l,h=>by
  have h1:=h x Xg;have h2:=Ro (g:=g) (b:=b) l λy hy=>h y (Xi _ hy);rw[YK,Xy,XX,Nat.succ_mul];lia
def pU:Tw
 | 0=>0
 | t+1=>1+6*pU t
theorem Rp (h:ps.length<=6):∀t i,(pre ps t i).length<=pU t
 | 0,_=>Ye _
 | t+1,i=>by
  have hk:(kids ps i).length<=6:=by
   refine XZ (Yo _ _) ?_;rw[Og];exact h
  have:=Ro (g:=pre ps t) (b:=pU t) (kids ps i) λx _=>Rp h t x;show(i::_).length<=1+6*pU t;rw[XX];have:=XZ this (Nat.mul_le_mul_right _ hk);lia
structure Wk (sh:Te)(ps:Tf)(rk:Tw)(r:Nat)(l:Tt):Prop where
 ordr:dJ ps l
 ahead:∀l1 c l2,l=l1++c::l2->∃p,ps[c]? = some (some p)/\(p=r\/p∈l1)
 all:∀c p,ps[c]? = some (some p)->c∈l
 mem:∀c∈l,∃p:Nat,ps[c]? = some (some p)
theorem dj.Rq {r:Nat}(T:dj sh ps rk r):vz ps rk:=⟨λc p h=>(T.iM c p h).2⟩
theorem dj.wk {r:Nat}(T:dj sh ps rk r):dI ps rk r=r::beneath ps rk r/\Wk sh ps rk r (beneath ps rk r)/\(dI ps rk r).length<=1000000:=by
 have R:=T.Rq;have e:=FQ R r;have hah:jY ps [r] (beneath ps rk r):=jY.flat λc hc=>Rm _ c _ ⟨r,Xg,uc.mp hc⟩;have hat:∀l1 c l2,beneath ps rk r=l1++c::l2->∃p,ps[c]? = some (some p)/\(p=r\/p∈l1):=λl1 c l2 h=>by
  rw[h]at hah;obtain⟨p,h1,h2⟩:=hah.at;exact⟨p,h1,h2.imp_left Xh.mp⟩
 refine⟨e,⟨?_,hat,λc p h=>?_,λc hc=>?_⟩,?_⟩
 ·have ho:=Ri R (rk r+1) r (QR _);rw[show pre ps (rk r+1) r=r::beneath ps rk r from e]at ho;exact λl1 i l2 h c hc=>ho (r::l1) i l2 (by rw[h];rfl) c hc
 ·have hcl:=(Xf.mp h).1;have:=Rk R T.one (λc p h=>by rw[T.pl];exact(T.iM c p h).1) 7 (λi hi=>T.low i (by rw[<- T.pl];exact hi)) 7 c hcl (by lia);rw[show pre ps (rk r+1) r=r::beneath ps rk r from e]at this;rcases Xx.mp this with rfl | this
  ·rw[T.root]at h;cases h
  ·exact this
 ·obtain⟨l1,l2,h⟩:=List.append_of_mem hc;obtain⟨p,h1,_⟩:=hat l1 c l2 h;exact⟨p,h1⟩
 ·have hr:=T.low r (by rw[<- T.pl];exact(Xf.mp T.root).1);have h1:=Rp (ps:=ps) (by rw[T.pl];exact T.n6) (rk r+1) r;have h2:∀t,t<8->pU t<=1000000:=by decide
  exact XZ h1 (h2 _ (by lia))
def jl (sh:Te)(i o:Nat):Tn:=(sh.getD i []).filter λl=>decide (l∈sh.getD o [])
def mC (sh:Te)(ts:Tc)(i o:Nat):Td:=(ts.getD i []).filter λr=>decide (aZ r (sh.getD i []) (jl sh i o)∈(ts.getD o []).map λr'=>aZ r' (sh.getD o []) (jl sh i o))
structure cM (sh:Te)(ts:Tc):Prop where
 len:ts.length=sh.length
 few:∀t∈ts,t.length<=100
 row:∀(k:Nat) (t:Td),ts[k]? = some t->∀r∈t,r.length=(sh.getD k []).length
def zdb:PF:=λds Q=>∃(sh:Te)(ts:Tc)(i o:Nat),ds=[cB sh,.lst (ts.map aP),.int i,.int o]/\i<sh.length/\o<sh.length/\(∀p∈sh,p.length<=4)/\cM sh ts/\Q (aP (mC sh ts i o)) .new
theorem Rt:fQ zdb:=λds Q Q' m ⟨a,b,c,d,e,h1,h2,h3,h4,q⟩=>⟨a,b,c,d,e,h1,h2,h3,h4,m _ _ q⟩
def nD (ks:Td)(k:Tp):Td:=if k∈ks then ks else ks++[k]
theorem zqC {ks:Td}{k x:Tp}:x∈nD ks k↔x∈ks\/x=k:=by
 unfold nD;by_cases h:k∈ks
 ·rw[Qf h];exact⟨.inl,λz=>z.elim id λe=>e▸h⟩
 ·rw[Qe h,Xr,Xh]
def FW (ks:Td):PV:=.dT (ks.map aF) (ks.map λ_=>.bl true)
theorem zvm (ks:Td)(k:Tp):gB (ks.map aF) (aF k)=decide (k∈ks):=by
 rw[Q5,zR,decide_eq_true_iff,Xv];constructor
 ·rintro⟨x,hx,e⟩;rw[<- yp e];exact hx
 ·exact λh=>⟨k,h,rfl⟩
theorem zvn (ks:Td)(k:Tp):(if gB (ks.map aF) (aF k)=true then PV.dT (ks.map aF) (tU (ks.map aF) (ks.map λ_=>PV.bl true) (aF k) (PV.bl true)) else PV.dT (ks.map aF++[aF k]) ((ks.map λ_=>PV.bl true)++[PV.bl true]))=FW (nD ks k):=by
 rw[zvm];unfold nD FW;by_cases h:k∈ks
 ·rw[Qf (Qd h),Qf h]
  congr 1
  unfold tU;rw[List.zip_map',Yk];refine Yg λy _=>?_;show(if aF y=aF k then PV.bl true else PV.bl true)=_
  split<;>rfl
 ·rw[Qe (by simpa using h),Qe h,Xp,Xp];rfl
theorem zwd (ks:Td)(k:Tp):(fU (ks.map aF) (ks.map λ_=>PV.bl true) (aF k)).isSome=decide (k∈ks):=by
 induction ks with
 | nil=>rfl
 | cons a ks ih=>
  unfold fU at *;simp only[Xz,YB,Yq];by_cases e:a=k
  ·subst e;simp
  ·have h2:¬ aF a=aF k:=λz=>e (yp z);rw[Qc h2];simp only;rw[ih];have:¬ k=a:=λz=>e z.symm;simp[this]
section
variable {P:Wo}{w:Ws}{K:Xc}{mg:Tj}{base:Heap}
theorem Ru:fO ["shape","rows","i","other","shared","seen","row"] ["shape","rows","i","other"] (aU qG):=fsc
abbrev Qm:List Str:=["shape","rows","i","other","shared","seen","row"]
theorem zoT (F:dU K "held_by" "held_by" qG f fd) (aC:Y1 K mg f1 jw) (B:Bl mg):aJ P w K mg base bO 2 f fd ["shape","rows","i","other"] (bR K zdb):=by
 have bN:Z1 P w K mg base 1 f1 jw:=Ad aC.fn B;refine jt F Ru (λds Q ⟨a,b,c,d,e,_⟩=>by rw[e];rfl) (λcdv A outer s H E hr=>?_);have hu:=cu hr;have nd:=Ru.nd;refine⟨_,(bD (cH (i:=4) nd rfl (Qp rfl) (jh (N:=["letter","shape","other"]) (k:=1) (js:=[0,3]) rfl (fP (sup:=aU qG) (XN:=Qm) rfl rfl (by decide +kernel)) (by decide) (jd (by decide)) (xT (cO (ak 0) (ak 2))) ⟨λ_ _ _ _ _=>(bW (i:=0) (by show(["letter","shape","other"]:Tn).Nodup;decide +kernel) rfl (Qo rfl)),λ_ _ _ _ _=>(o7 (zG hu (ak 0) (cO (ak 1) (ak 2)))),λ_ _ _ _ _=>(ak 0)⟩))
   (bD (cH (i:=5) nd rfl (Qp rfl) zsx)
   (bD (lE 4 (nZ rfl Qs (jf (cO (ak 1) (ak 3))) (bW (i:=6) nd rfl (Qo rfl)) (bU (zmp 5 (hu1 hu) (cD bN yo hr rfl aC.mg aC.fn.kp aC.bd (aB (ak 6) (aB (cO (ak 0) (ak 3)) (aB (ak 4) aL)))) sZ))))
   (bU (lE 5 (gP (jh (N:=["row","shape","i","shared","seen"]) (k:=1) (js:=[0,2,4,5]) rfl (fP (sup:=aU qG) (XN:=Qm) rfl rfl (by decide +kernel)) (by decide) (jd (by decide)) (jf (cO (ak 1) (ak 2))) ⟨λ_ _ _ _ _=>(bW (i:=0) (by show(["row","shape","i","shared","seen"]:Tn).Nodup;decide +kernel) rfl (Qo rfl)),λ_ _ _ _ _=>(o7 (zpP (hu1 hu) (cD bN yo hr rfl aC.mg aC.fn.kp aC.bd (aB (ak 0) (aB (cO (ak 1) (ak 2)) (aB (ak 3) aL)))) (ak 4))),λ_ _ _ _ _=>(ak 0)⟩))))))),λds Q h=>?_⟩
 obtain⟨sh,ts,i,o,rfl,hi,ho,h4,fit,q⟩:=h;have hsz:=Wr;have hpi:sh[i]? = some (sh.getD i []):=by rw[Xd,Xa hi];rfl
 have hpo:sh[o]? = some (sh.getD o []):=by rw[Xd,Xa ho];rfl
 have hl:=fit.len;have hti:ts[i]? = some (ts.getD i []):=by rw[Xd,Xa (by lia)];rfl
 have hto:ts[o]? = some (ts.getD o []):=by rw[Xd,Xa (by lia)];rfl
 have q':Q (aP ((ts.getD i []).filter λr=>decide (aZ r (sh.getD i []) (jl sh i o)∈(ts.getD o []).map λr'=>aZ r' (sh.getD o []) (jl sh i o)))) .new:=q;have pW:jl sh i o=(sh.getD i []).filter λl=>decide (l∈sh.getD o []):=rfl;have w4:=h4 _ (Xl hpi);have t1:=fit.few _ (Xl hti);have t2':=fit.few _ (Xl hto);have ri:=fit.row i _ hti;have ro:=fit.row o _ hto;have at1:cW (sh.map λls=>PV.tup (ls.map PV.str)) (i:Int)=some (.tup ((sh.getD i []).map PV.str)):=eE (by rw[Xe,hpi];rfl);have at2:cW (sh.map λls=>PV.tup (ls.map PV.str)) (o:Int)=some (.tup ((sh.getD o []).map PV.str)):=eE (by rw[Xe,hpo];rfl);have at3:cW (ts.map aP) (i:Int)=some (aP (ts.getD i [])):=eE (by rw[Xe,hti];rfl);have at4:cW (ts.map aP) (o:Int)=some (aP (ts.getD o [])):=eE (by rw[Xe,hto];rfl);generalize jl sh i o=ss at q' pW;generalize sh.getD i []=pi at *;generalize sh.getD o []=po at *;generalize ts.getD i []=ti at *;generalize ts.getD o []=to at *;have ss1:∀w∈ss,w∈pi:=λw hw=>by rw[pW]at hw;exact(XH.mp hw).1
 have ss2:∀w∈ss,w∈po:=λw hw=>by rw[pW]at hw;exact Qh (XH.mp hw).2
 have ssl:ss.length<=4:=by rw[pW];exact XZ (Yo _ _) w4
 walk_at "pu";refine⟨_,.inl ⟨_,.inl rfl,at1⟩,_,rfl,by rw[Xb];lia,λk out=>out=((pi.take k).filter λl=>decide (l∈po)).map PV.str,rfl,?_,?_⟩
 ·rintro k d out hd-rfl;rw[Xe]at hd;cases hx:pi[k]? with
  | none=>rw[hx]at hd;cases hd
  | some x=>
   rw[hx]at hd;cases hd;refine⟨_,.inl ⟨_,.inl rfl,at2⟩,_,.inr rfl,rfl,yu po,?_⟩;show ite _ (_=_) (_=_);rw[<- take_snoc hx,Yp,Xp];by_cases z:x∈po
   ·rw[Qf (Xv.mpr ⟨x,z,rfl⟩),Ow (p:=λl=>decide (l∈po)) (Qd z)];rfl
   ·rw[Qe (λy=>by obtain⟨x',h1,h2⟩:=Xv.mp y;cases h2;exact z h1),Ox (p:=λl=>decide (l∈po)) (by simpa using z),List.filter_nil,YL,Ym]
 rintro out-rfl;rw[Xb,YJ,<- pW];refine bw λN hN=>?_;walk_at "go";refine hN _ (bw λN hN=>?_);walk_at "go";obtain⟨Iv,bC⟩:∃Iv:Nat->au->Prop,∀k ρ,Iv k ρ↔∃(ks:Td) (k6:Ov),ρ=[some (cB sh,false),some (PV.lst (ts.map aP),false),some (PV.int i,false),some (PV.int o,false),some (PV.lst (ss.map PV.str),false),some (FW ks,true),k6]/\ks.length<=k/\∀x,x∈ks↔x∈(to.take k).map λr=>aZ r po ss:=⟨_,λ_ _=>QG⟩;refine⟨_,at4,_,rfl,Iv,(bC _ _).mpr ⟨[],_,rfl,Xj _,λx=>by simp⟩,?_,?_⟩
 ·intro k d ρ hd hI;obtain⟨ks,k6,rfl,hkl,hks⟩:=(bC _ _).mp hI;rw[Xe]at hd;cases hr:to[k]? with
  | none=>rw[hr]at hd;cases hd
  | some r=>
   rw[hr]at hd;cases hd;have hrl:=ro r (Xl hr);have hk:=(Xf.mp hr).1;walk_at "go";refine⟨_,_,rfl,by rw[Xb];lia,_,.inl ⟨_,.inl rfl,at2⟩,_,rfl,po,ss,rfl,.inr rfl,ss2,by rw[Xb];exact hrl.symm,by lia,aF (aZ r po ss),?_,(bC _ _).mpr ⟨nD ks (aZ r po ss),_,by rw[zvn],?_,λx=>?_⟩⟩
   ·rw[yr hrl.symm ss2];exact(Ae _).symm
   ·unfold nD;split
    ·lia
    ·rw[Xy,Nb];lia
   ·rw[zqC,hks,<- take_snoc hr,Xp,Xr,List.map_singleton,Xh]
 intro ρ hI;obtain⟨ks,k6,rfl,hkl,hks⟩:=(bC _ _).mp hI;rw[Xb,YJ]at hks;refine hN _ ?_;walk_at "go";refine⟨_,at3,_,rfl,by rw[Xb];lia,λk out=>out=((ti.take k).filter λr=>decide (aZ r pi ss∈to.map λr'=>aZ r' po ss)).map aQ,rfl,?_,?_⟩
 ·rintro k d out hd-rfl;rw[Xe]at hd;cases hr:ti[k]? with
  | none=>rw[hr]at hd;cases hd
  | some r=>
   rw[hr]at hd;cases hd;have hrl:=ri r (Xl hr);refine⟨_,.inl ⟨_,.inl rfl,at1⟩,_,rfl,pi,ss,rfl,.inr rfl,ss1,by rw[Xb];exact hrl.symm,by lia,_,_,rfl,aF (aZ r pi ss),by rw[yr hrl.symm ss1];exact(Ae _).symm,?_⟩;rw[zwd];show ite _ (_=_) (_=_);rw[<- take_snoc hr,Yp,Xp];by_cases z:aZ r pi ss∈ks
   ·rw[Qf (Qd z),Ow (by exact Qd ((hks _).mp z))];rfl
   ·rw[Qe (by simpa using z),Ox (by exact λy=>z ((hks _).mpr (Qh y))),List.filter_nil,YL,Ym]
 rintro out-rfl;rw[Xb,YJ];exact q'
end
def fJ (sh:Te)(ps:Tf)(ts:Tc)(i:Nat):Tc:=match ps.getD i none with
 | some p=>ts.set p (mC sh ts p i)
 | none=>ts
def iK (sh:Te)(ps:Tf)(ts:Tc)(i:Nat):Tc:=match ps.getD i none with
 | some p=>ts.set i (mC sh ts i p)
 | none=>ts
def gK (sh:Te)(ps:Tf)(l:Tt)(ts:Tc):Tc:=l.foldl (iK sh ps) (l.reverse.foldl (fJ sh ps) ts)
theorem cM.held (F:cM sh ts)(i o:Nat):cM sh (ts.set i (mC sh ts i o)):=by
 have sub:∀r∈mC sh ts i o,r∈ts.getD i []:=λr hr=>(XH.mp hr).1;by_cases hi:i<ts.length
 ·have hti:ts[i]? = some (ts.getD i []):=by rw[Xd,Xa hi];rfl
  refine⟨by rw[Yb];exact F.len,λt ht=>?_,λk t hk r hr=>?_⟩
  ·rcases Ol ht with ht | rfl
   ·exact F.few t ht
   ·exact XZ (Yo _ _) (F.few _ (Xl hti))
  ·by_cases z:i=k
   ·subst z;rw[Xm hi]at hk;cases hk;exact F.row i _ hti r (sub r hr)
   ·rw[Xk z]at hk;exact F.row k t hk r hr
 ·rw[XG (by lia)];exact F
theorem cM.up (F:cM sh ts)(i:Nat):cM sh (fJ sh ps ts i):=by
 unfold fJ;split
 ·exact F.held _ _
 ·exact F
theorem cM.dn (F:cM sh ts)(i:Nat):cM sh (iK sh ps ts i):=by
 unfold iK;split
 ·exact F.held _ _
 ·exact F
theorem cM.ups:∀ {l:Tt}{ts:Tc},cM sh ts->cM sh (l.foldl (fJ sh ps) ts)
 | [],_,F=>F
 | i::l,_,F=>cM.ups (l:=l) (F.up i)
theorem cM.vA:∀ {l:Tt}{ts:Tc},cM sh ts->cM sh (l.foldl (iK sh ps) ts)
 | [],_,F=>F
 | i::l,_,F=>cM.vA (l:=l) (F.dn i)
def zdh:yh:=λds Q=>∃(sh:Te)(ts:Tc)(ps:Tf)(rk:Tw)(r:Nat),ds=[cB sh,.lst (ts.map aP),zgL ps]/\dj sh ps rk r/\cM sh ts/\Q ((gK sh ps (beneath ps rk r) ts).map aP)
theorem Ga:∀ds Q Q',(∀es,Q es->Q' es)->zdh ds Q->zdh ds Q':=λds Q Q' m ⟨a,b,c,d,e,h,h1,h2,q⟩=>⟨a,b,c,d,e,h,h1,h2,m _ q⟩
def zhW:PF:=λds Q=>zdh ds λes=>Q (.lst es) .new
theorem Rv:fQ zhW:=λds Q Q' m h=>Ga ds _ _ (λes q=>m _ _ q) h
theorem Gb (t:Td):zaN (t.map aQ)=true:=by
 induction t with
 | nil=>rfl
 | cons r t ih=>
  rw[Xz];show(zaN (r.map PV.int)&&zaN (t.map aQ))=true;rw[ih,Bool.and_true];induction r with
  | nil=>rfl
  | cons x r ih2=>exact ih2
theorem Rw:∀l:Tt,zaN (l.map λ(k:Nat)=>PV.int k)=true
 | []=>rfl
 | x::l=>Rw l
theorem zth (x:PV)(l:List PV):ig (x::l) (some 1) none=l:=by
 unfold ig;have h1:HT.gM (x::l).length 0 (some 1)=1:=by rw[show(1:Int)=((1:Nat):Int) from rfl,HT.yR];rw[XX];lia
 rw[h1];show(l.take _)=l;exact Xs (by show l.length<=(l.length+1)-1;lia)
theorem vB {t u:dN}{O:gA}{ρ:au}{β:BX}(h:∀N:au->BX->Prop,(∀ρ' β',lH u O ρ' β'->N ρ' β')->lH t { O with nx:=N } ρ β):lH (zcR t u) O ρ β:=h _ λ_ _ x=>x
theorem Rx (ts:Tc)(n:Nat)(t:Td):(ts.map aP).set n (aP t)=(ts.set n t).map aP:=by rw[List.map_set]
theorem zti {r:Nat}(T:dj sh ps rk r)(fit:cM sh ts){W:au->BX->Prop}(hW:∀ρ,W ρ (.L ((gK sh ps (beneath ps rk r) ts).map aP))) :
  lH (zcR (zcm 4 3 (pSlL (zbt zks (zbw (pVar 2) pNil)) (zdv (pC (PV.int 1))) zdu)) (zcR (zdw (zdH (pVar 4)) 5 (zja 3 (t2 pIx (pVar 2) (pVar 5)) (zbt zdb (zbw (pVar 0) (zbw (pVar 3) (zbw (t2 pIx (pVar 2) (pVar 5)) (zbw (pVar 5) pNil)))))))
   (zcR (zdw (iLst (pVar 4)) 5 (zja 3 (pVar 5) (zbt zdb (zbw (pVar 0) (zbw (pVar 3) (zbw (pVar 5) (zbw (t2 pIx (pVar 2) (pVar 5)) pNil))))))) zbU))) { nx:=W,rt:=λ_ _=>False,bk:=λ_ _=>False,ct:=λ_ _=>False }
   [some (cB sh,false),some (PV.lst (ts.map aP),false),some (PV.lst (ps.map bJ),false),none,none,none] (.L (ts.map aP)):=by
 have hsz:=Wr;obtain⟨hw,Wk,hwl⟩:=T.wk;have n6:=T.n6;have pl:=T.pl;have h4:∀p∈sh,p.length<=4:=λp hp=>(T.pat p hp).2.1;refine vB λN hN=>?_;walk_at "go";obtain⟨bn,hbn⟩:∃bn,beneath ps rk r=bn:=⟨_,rfl⟩;rw[hbn]at hw Wk hW;refine⟨ps,rfl,by lia,rk,T.Rq,r,T.root,λj hj z=>Qg (T.one j z) (by lia),hwl,?_⟩;rw[hw,Xz,zth];have bl:bn.length<=1000000:=by rw[hw]at hwl;rw[XX]at hwl;lia
 refine⟨Rw bn,hN _ _ (vB λN hN=>?_)⟩;walk_at "go";obtain⟨E5,hE5⟩:∃E5:Ov->au,∀k5,E5 k5=[some (cB sh,false),some (PV.lst (ts.map aP),false),some (PV.lst (ps.map bJ),false),none,some (PV.lst (bn.map λ(k:Nat)=>PV.int k),false),k5]:=⟨_,λ_=>rfl⟩;have iM:∀i∈bn,∃p,ps[i]? = some (some p)/\ps.getD i none=some p/\p<sh.length/\i<sh.length:=λi hi=>by
  obtain⟨p,hp⟩:=Wk.mem i hi;have h1:=(Xf.mp hp).1;exact⟨p,hp,by rw[Xd,hp];rfl,(T.iM i p hp).1,by lia⟩
 have hix:∀j,j<sh.length->jo sh.length (j:Int)=some j:=λj hj=>by unfold jo;simp;lia
 obtain⟨Iv,bC⟩:∃Iv:Nat->au->BX->Prop,∀k ρ β,Iv k ρ β↔(∃k5,ρ=E5 k5)/\β=.L (((bn.reverse.take k).foldl (fJ sh ps) ts).map aP):=⟨_,λ_ _ _=>QG⟩;refine⟨Iv,(bC _ _ _).mpr ⟨⟨none,by rw[hE5]⟩,rfl⟩,?_,?_⟩
 ·intro k d ρ β hd hI;obtain⟨⟨k5,rfl⟩,rfl⟩:=(bC _ _ _).mp hI;rw[<- Ng,Xe]at hd;cases hi:bn.reverse[k]? with
  | none=>rw[hi]at hd;cases hd
  | some i=>
   rw[hi]at hd;cases hd;have him:i∈bn:=List.mem_reverse.mp (Xl hi);obtain⟨p,hp,hg,hpl,hil⟩:=iM i him;have lU:cM sh ((bn.reverse.take k).foldl (fJ sh ps) ts):=fit.ups;have nxt:(bn.reverse.take (k+1)).foldl (fJ sh ps) ts=((bn.reverse.take k).foldl (fJ sh ps) ts).set p (mC sh ((bn.reverse.take k).foldl (fJ sh ps) ts) p i):=by
    rw[<- take_snoc hi,Pj];show fJ sh ps _ i=_;unfold fJ;rw[hg]
   generalize (bn.reverse.take k).foldl (fJ sh ps) ts=us at lU nxt;have atp:cW (ps.map bJ) (i:Int)=some (PV.int p):=eE (by rw[Xe,hp];rfl);rw[hE5];walk_at "go";refine⟨_,atp,sh,rfl,us,rfl,p,rfl,i,rfl,hpl,hil,h4,lU,⟨_,rfl,Gb _⟩,_,atp,rfl,_,rfl,p,_,rfl,by rw[Xb,lU.len];exact hix p hpl,(bC _ _ _).mpr ⟨⟨some (PV.int i,false),by rw[hE5]⟩,?_⟩⟩;rw[nxt,Rx]
 intro ρ β hI;obtain⟨⟨k5,rfl⟩,rfl⟩:=(bC _ _ _).mp hI;rw[<- Ng,Xb,YJ];refine hN _ _ (vB λN hN=>?_);have lV:cM sh (bn.reverse.foldl (fJ sh ps) ts):=fit.ups;have hW2:∀ρ,W ρ (.L ((bn.foldl (iK sh ps) (bn.reverse.foldl (fJ sh ps) ts)).map aP)):=hW;generalize bn.reverse.foldl (fJ sh ps) ts=us at lV hW2 ⊢;rw[hE5];walk_at "go";obtain⟨Iw,nC⟩:∃Iw:Nat->au->BX->Prop,∀k ρ β,Iw k ρ β↔(∃k5,ρ=E5 k5)/\β=.L (((bn.take k).foldl (iK sh ps) us).map aP):=⟨_,λ_ _ _=>QG⟩;refine⟨Iw,(nC _ _ _).mpr ⟨⟨k5,by rw[hE5]⟩,rfl⟩,?_,?_⟩
 ·intro k d ρ β hd hI;obtain⟨⟨k5,rfl⟩,rfl⟩:=(nC _ _ _).mp hI;rw[Xe]at hd;cases hi:bn[k]? with
  | none=>rw[hi]at hd;cases hd
  | some i=>
   rw[hi]at hd;cases hd;obtain⟨p,hp,hg,hpl,hil⟩:=iM i (Xl hi);have lU:cM sh ((bn.take k).foldl (iK sh ps) us):=lV.vA;have nxt:(bn.take (k+1)).foldl (iK sh ps) us=((bn.take k).foldl (iK sh ps) us).set i (mC sh ((bn.take k).foldl (iK sh ps) us) i p):=by
    rw[<- take_snoc hi,Pj];show iK sh ps _ i=_;unfold iK;rw[hg]
   generalize (bn.take k).foldl (iK sh ps) us=vs at lU nxt;have atp:cW (ps.map bJ) (i:Int)=some (PV.int p):=eE (by rw[Xe,hp];rfl);rw[hE5];walk_at "go";refine⟨_,atp,sh,rfl,vs,rfl,i,rfl,p,rfl,hil,hpl,h4,lU,⟨_,rfl,Gb _⟩,i,_,rfl,by rw[Xb,lU.len];exact hix i hil,(nC _ _ _).mpr ⟨⟨some (PV.int i,false),by rw[hE5]⟩,?_⟩⟩;rw[nxt,Rx]
 intro ρ β hI;obtain⟨⟨k5,rfl⟩,rfl⟩:=(nC _ _ _).mp hI;rw[Xb,YJ];exact hN _ _ (hW2 _)
section
variable {P:Wo}{w:Ws}{K:Xc}{mg:Tj}{base:Heap}
theorem Ry:fO ["shape","rows","parents","left","beneath","i"] ["shape","rows","parents"] (aU rP):=fsc
theorem zkt (F:dU K "reduced" "reduced" rP f fd) (aC:Y1 K mg f1 jw) (bL:Fx K mg "children_of" qF ["parents","i"] f2 fd2) (Walk:Fx K mg "walk" t6 ["parents"] f3 qH) (dM:Fx K mg "held_by" qG ["shape","rows","i","other"] f4 pM) (B:Bl mg):aJ P w K mg base bO 3 f fd ["shape","rows","parents"] (yj K zdh):=by
 have GWalk:aJ P w K mg base bO 2 f3 qH ["parents"] (bR K zks):=ztg Walk.fn bL B;have mD:aJ P w K mg base bO 2 f4 pM ["shape","rows","i","other"] (bR K zdb):=zoT dM.fn aC B;refine F.ok Ry (λvs H Q E ⟨Fz,ds,_,hd,⟨_,_,_,_,_,e,_⟩⟩=>by rw[<- hd.length,e];rfl) (λcdv A outer s H vs Q E hr h=>?_);have hu:=cu hr;have nd:=Ry.nd;obtain⟨Fz,ds,al,hd,sh,ts,ps,rk,r,rfl,T,fit,q⟩:=h;obtain⟨R,no⟩:=Ju (N:=["shape","rows","parents","left","beneath","i"]) al hd;refine⟨_,zqg (z:=3) (N:=["table"]) (k:=1) (js:=[]) rfl (fP (sup:=aU rP) (XN:=["shape","rows","parents","left","beneath","i"]) rfl rfl (by decide +kernel)) (by decide) (jd (by decide)) (jf (ak 1)) ⟨λ_ _ _ _ _=>(bW (i:=0) (by show(["table"]:Tn).Nodup;decide +kernel) rfl (Qo rfl)),λ_ _ _ _ _=>mj,λ_ _ _ _ _=>(zsh rfl B.list (aB (ak 0) aL))⟩ nd rfl rfl
   (Et (zqd (i:=4) nd rfl (Qo rfl) (zL (cD GWalk zoO hr rfl Walk.mg Walk.fn.kp Walk.bd (aB (ak 2) aL)) (zK bA) zJ))
   (Et (yc (i:=5) nd rfl (Qo rfl) rfl Qs (zsL rfl B.reversed (ak 4)) (uU (Lk (cO (ak 2) (ak 5)) (cD mD Rt hr rfl dM.mg dM.fn.kp dM.bd (aB (ak 0) (aB (ak 3) (aB (cO (ak 2) (ak 5)) (aB (ak 5) aL))))))))
   (Et (yc (i:=5) nd rfl (Qo rfl) rfl Qs (jf (ak 4)) (uU (Lk (ak 5) (cD mD Rt hr rfl dM.mg dM.fn.kp dM.bd (aB (ak 0) (aB (ak 3) (aB (ak 5) (aB (cO (ak 2) (ak 5)) aL))))))))
   zqf))),_,Fz,R,no _,(by show 3<6;decide),?_⟩
 have hsz:=Wr;have hl:=fit.len;have n6:=T.n6;unfold zcb;walk_at "pu";refine⟨by rw[Xb];lia,λk out=>out=(ts.take k).map aP,rfl,?_,?_⟩
 ·rintro k d out hd-rfl;rw[Xe]at hd;cases ht:ts[k]? with
  | none=>rw[ht]at hd;cases hd
  | some t=>
   rw[ht]at hd;cases hd;refine⟨_,.inl rfl,Gb t,?_⟩;show _=_;rw[<- take_snoc ht,Xp];rfl
 rintro out-rfl;rw[Xb,YJ];exact zti T fit λρ ao H' a' bs' x y z=>q a' bs' ao H' x y z
end
abbrev eG:=Tc
def vl (sh:Te)(i:Nat)(r:Tp)(l:Str):Int:=r.getD (cA (sh.getD i []) l) 0
def Ag (sh:Te)(i:Nat)(r:Tp)(o:Nat)(r':Tp):Prop:=∀l,l∈sh.getD i []->l∈sh.getD o []->vl sh i r l=vl sh o r' l
theorem Ag.symm {r':Tp}(h:Ag sh i r o r'):Ag sh o r' i r:=λl h1 h2=>(h l h2 h1).symm
theorem wC {ts:eG}:r∈mC sh ts i o↔r∈ts.getD i []/\∃r'∈ts.getD o [],Ag sh i r o r':=by
 unfold mC;rw[XH,decide_eq_true_eq,Xv];have key:∀r',aZ r' (sh.getD o []) (jl sh i o)=aZ r (sh.getD i []) (jl sh i o)↔Ag sh i r o r':=λr'=>by
  rw[Fe];constructor
  ·intro h l h1 h2;exact(h l (XH.mpr ⟨h1,Qd h2⟩)).symm
  ·intro h l hl;exact(h l (XH.mp hl).1 (Qh (XH.mp hl).2)).symm
 constructor
 ·rintro⟨h1,r',h2,h3⟩;exact⟨h1,r',h2,(key r').mp h3⟩
 ·rintro⟨h1,r',h2,h3⟩;exact⟨h1,r',h2,(key r').mpr h3⟩
section
variable {sh:Te}{ps:Tf}{rk:Tw}{r0:Nat}
def ud (sh:Te)(ps:Tf)(ts:eG)(c:Nat):Prop:=∀p,ps[c]? = some (some p)->∀r∈ts.getD p [],∃r'∈ts.getD c [],Ag sh p r c r'
def Ar (sh:Te)(ps:Tf)(ts:eG)(c:Nat):Prop:=∀p,ps[c]? = some (some p)->∀r∈ts.getD c [],∃r'∈ts.getD p [],Ag sh c r p r'
theorem qJ {ts:eG}(h:i≠j):(ts.set i t).getD j []=ts.getD j []:=by rw[Xd,Xk h,Xd]
theorem vC {ts:eG}(h:i<ts.length):(ts.set i t).getD i []=t:=by rw[Xd,Xm h];rfl
theorem up_eq {ts:eG}(h:ps[i]? = some (some p)):fJ sh ps ts i=ts.set p (mC sh ts p i):=by unfold fJ;rw[Xd,h];rfl
theorem Rz {ts:eG}(h:ps[i]? = some (some p)):iK sh ps ts i=ts.set i (mC sh ts i p):=by unfold iK;rw[Xd,h];rfl
theorem dj.ne (T:dj sh ps rk r0){c:Nat}(h:ps[c]? = some (some p)):c≠p:=λz=>by have:=(T.iM c p h).2;rw[z]at this;lia
theorem dj.cl (T:dj sh ps rk r0){c:Nat}(h:ps[c]? = some (some p)):c<sh.length:=by rw[<- T.pl];exact(Xf.mp h).1
theorem RD (T:dj sh ps rk r0){ts:eG}{bn:Tt}(W:Wk sh ps rk r0 bn)(fit:cM sh ts):∀l2 l1:Tt,bn=l1++l2->∀c∈l2,c∉l1->ud sh ps (l2.reverse.foldl (fJ sh ps) ts) c
 | [],_,_,c,h,_=>nomatch h
 | i::l2,l1,e,c,hc,hn=>by
  obtain⟨p,hp,hpl⟩:=W.ahead l1 i l2 e;have ih:=RD T W fit l2 (l1++[i]) (by rw[e,XE];rfl);rw[O7,Pj];show ud sh ps (fJ sh ps _ i) c;have hf:cM sh (l2.reverse.foldl (fJ sh ps) ts):=fit.ups;rw[up_eq hp];generalize l2.reverse.foldl (fJ sh ps) ts=us at ih hf;have hpu:p<us.length:=by rw[hf.len];exact(T.iM i p hp).1
  have qR:=T.ne hp;intro q hq r hr;by_cases z:c=i
  ·subst z;rw[hp]at hq;cases hq;rw[vC hpu]at hr;obtain⟨h1,r',h2,h3⟩:=wC.mp hr;exact⟨r',by rw[qJ qR.symm];exact h2,h3⟩
  ·have hc2:c∈l2:=(Xx.mp hc).resolve_left z;have up:=ih c hc2 (λy=>(Xr.mp y).elim hn λy=>z (Xh.mp y));have hcp:p≠c:=λy=>by
    rcases hpl with h | h
    ·rw[<- y,h,T.root]at hq;cases hq
    ·exact hn (y▸h)
   have hr2:r∈us.getD q []:=by
    by_cases y:p=q
    ·subst y;rw[vC hpu]at hr;exact(wC.mp hr).1
    ·rw[qJ y]at hr;exact hr
   obtain⟨r',h1,h2⟩:=up q hq r hr2;exact⟨r',by rw[qJ hcp];exact h1,h2⟩
theorem RG (T:dj sh ps rk r0){bn:Tt}(W:Wk sh ps rk r0 bn):∀(l2 l1:Tt)(ts:eG),bn=l1++l2->cM sh ts->(∀c,ud sh ps ts c)->(∀c∈l1,c∉l2->Ar sh ps ts c)->(∀c,ud sh ps (l2.foldl (iK sh ps) ts) c)/\∀c∈bn,Ar sh ps (l2.foldl (iK sh ps) ts) c
 | [],l1,ts,e,_,up,dn=>⟨up,λc hc=>dn c (by rw[e,Ym]at hc;exact hc) Pz⟩
 | i::l2,l1,ts,e,hf,up,dn=>by
  obtain⟨p,hp,hpl⟩:=W.ahead l1 i l2 e;have qR:=T.ne hp;have hiu:i<ts.length:=by rw[hf.len];exact T.cl hp
  show(∀c,ud sh ps (l2.foldl (iK sh ps) (iK sh ps ts i)) c)/\_;refine RG T W l2 (l1++[i]) _ (by rw[e,XE];rfl) (hf.dn i) (λc q hq r hr=>?_) λc hc hn q hq r hr=>?_
  ·rw[Rz hp]at hr ⊢;have hr2:r∈ts.getD q []:=by
    by_cases y:i=q
    ·subst y;rw[vC hiu]at hr;exact(wC.mp hr).1
    ·rw[qJ y]at hr;exact hr
   obtain⟨r',h1,h2⟩:=up c q hq r hr2;by_cases z:i=c
   ·subst z;rw[hp]at hq;cases hq;exact⟨r',by rw[vC hiu];exact wC.mpr ⟨h1,r,hr2,h2.symm⟩,h2⟩
   ·exact⟨r',by rw[qJ z];exact h1,h2⟩
  ·rw[Rz hp]at hr ⊢;by_cases z:i=c
   ·subst z;rw[hp]at hq;cases hq;rw[vC hiu]at hr;obtain⟨_,r',h1,h2⟩:=wC.mp hr;exact⟨r',by rw[qJ qR];exact h1,h2⟩
   ·rw[qJ z]at hr;have hcl1:c∈l1:=(Xr.mp hc).resolve_right λy=>z (Xh.mp y).symm;obtain⟨r',h1,h2⟩:=dn c hcl1 (λy=>(Xx.mp y).elim (λy=>z y.symm) hn) q hq r hr;have hqi:i≠q:=λy=>hn (W.ordr l1 i l2 e c (uc.mpr (y▸hq)));exact⟨r',by rw[qJ hqi];exact h1,h2⟩
theorem path (T:dj sh ps rk r0)(dn:∀c,Ar sh ps vs c):∀(m i:Nat)(r:Tp),7-rk i<=m->i<sh.length->r∈vs.getD i []->∃(S:Nat->Prop)(f:Nat->Tp),S i/\f i=r/\(∀j,S j->rk i<=rk j/\j<sh.length/\f j∈vs.getD j [])/\S r0/\∀c p,S c->ps[c]? = some (some p)->S p/\Ag sh c (f c) p (f p)
 | 0,i,r,hm,hi,hr=>by have:=T.low i hi;lia
 | m+1,i,r,hm,hi,hr=>by
  cases hpi:ps[i]? with
  | none=>rw[Xa (by rw[T.pl];exact hi)]at hpi;cases hpi
  | some o=>
   cases o with
   | none=>
    have e:=T.one i hpi;subst e;exact⟨λj=>j=i,λ_=>r,rfl,rfl,λj hj=>by subst hj;exact⟨Xj _,hi,hr⟩,rfl,λc p hc hp=>by subst hc;rw[hpi]at hp;cases hp⟩
   | some p=>
    obtain⟨h1,h2⟩:=T.iM i p hpi;obtain⟨r',hr',ha⟩:=dn i p hpi r hr;obtain⟨S,f,s1,s2,s3,s4,s5⟩:=path T dn m p r' (by lia) h1 hr';have ni:¬ S i:=λy=>by have:=(s3 i y).1;lia
    have ne:∀j,S j->j≠i:=λj hj y=>ni (y▸hj);refine⟨λj=>S j\/j=i,λj=>if j=i then r else f j,.inr rfl,Qf rfl,λj hj=>?_,.inl s4,λc q hc hq=>?_⟩
    ·show rk i<=rk j/\j<sh.length/\(if j=i then r else f j)∈vs.getD j []
     rcases hj with hj | rfl
     ·rw[Qe (ne j hj)];obtain⟨a,b,d⟩:=s3 j hj;exact⟨by lia,b,d⟩
     ·rw[Qf rfl];exact⟨Xj _,hi,hr⟩
    ·show(S q\/q=i)/\Ag sh c (if c=i then r else f c) q (if q=i then r else f q)
     rcases hc with hc | rfl
     ·obtain⟨a,b⟩:=s5 c q hc hq;rw[Qe (ne c hc),Qe (ne q a)];exact⟨.inl a,b⟩
     ·rw[hpi]at hq;cases hq;rw[Qf rfl,Qe (ne p s1),s2];exact⟨.inl s1,ha⟩
theorem fill (T:dj sh ps rk r0)(up:∀c,ud sh ps vs c){S:Nat->Prop}{f0:Nat->Tp}(hs:∀j,S j->f0 j∈vs.getD j [])(hr:S r0)(hc:∀c p,S c->ps[c]? = some (some p)->S p/\Ag sh c (f0 c) p (f0 p)) :
  ∀k,k<=7->∃f:Nat->Tp,(∀j,S j->f j=f0 j)/\(∀j,j<sh.length->7-k<=rk j->f j∈vs.getD j [])/\∀c p,ps[c]? = some (some p)->7-k<=rk c->Ag sh c (f c) p (f p)
 | 0,_=>⟨f0,λ_ _=>rfl,λj hj h=>by have:=T.low j hj;lia,λc p h hk=>by have:=T.low c (T.cl h);lia⟩
 | k+1,hk=>by
  obtain⟨f,g1,g2,g3⟩:=fill T up hs hr hc k (by lia);by_cases z:∃j,j<sh.length/\rk j=7-(k+1)/\¬ S j
  ·obtain⟨j0,hj0,hrk,nS⟩:=z;have hp:∃p,ps[j0]? = some (some p):=by
    cases h:ps[j0]? with
    | none=>rw[Xa (by rw[T.pl];exact hj0)]at h;cases h
    | some o=>
     cases o with
     | none=>exact Qg (T.one j0 h▸hr) nS
     | some p=>exact⟨p,rfl⟩
   obtain⟨p,hp⟩:=hp;obtain⟨h1,h2⟩:=T.iM j0 p hp;obtain⟨r',hr',ha⟩:=up j0 p hp (f p) (g2 p h1 (by lia));refine⟨λj=>if j=j0 then r' else f j,λj hj=>(Qe λy:j=j0=>nS (y▸hj)).trans (g1 j hj),λj hj hjk=>?_,λc q hq hck=>?_⟩
   ·show(if j=j0 then r' else f j)∈_
    by_cases y:j=j0
    ·subst y;rw[Qf rfl];exact hr'
    ·rw[Qe y];exact g2 j hj (by
      have:rk j≠rk j0:=λx=>y (T.inj j j0 hj hj0 x);lia)
   ·have hq2:=(T.iM c q hq).2;have nq:q≠j0:=λy=>by rw[y]at hq2;lia
    show Ag sh c (if c=j0 then r' else f c) q (if q=j0 then r' else f q)
    rw[Qe nq];by_cases y:c=j0
    ·subst y;rw[hp]at hq;cases hq;rw[Qf rfl];exact ha.symm
    ·rw[Qe y];exact g3 c q hq (by
      have:rk c≠rk j0:=λx=>y (T.inj c j0 (T.cl hq) hj0 x);lia)
  ·refine⟨f,g1,λj hj hjk=>?_,λc q hq hck=>?_⟩
   ·by_cases y:rk j=7-(k+1)
    ·have sj:S j:=Om λx=>z ⟨j,hj,y,x⟩;rw[g1 j sj];exact hs j sj
    ·exact g2 j hj (by lia)
   ·by_cases y:rk c=7-(k+1)
    ·have sc:S c:=Om λx=>z ⟨c,T.cl hq,y,x⟩;obtain⟨a,b⟩:=hc c q sc hq;rw[g1 c sc,g1 q a];exact b
    ·exact g3 c q hq (by lia)
theorem alike (T:dj sh ps rk r0){f:Nat->Tp}(ag:∀c p,ps[c]? = some (some p)->Ag sh c (f c) p (f p)):∀(m i j:Nat)(l:Str),14-rk i-rk j<=m->i<sh.length->j<sh.length->l∈sh.getD i []->l∈sh.getD j []->vl sh i (f i) l=vl sh j (f j) l
 | 0,i,j,l,hm,hi,hj,_,_=>by have:=T.low i hi;have:=T.low j hj;lia
 | m+1,i,j,l,hm,hi,hj,h1,h2=>by
  have l1:=T.low i hi;have l2:=T.low j hj;by_cases e:i=j
  ·rw[e]
  ·have hne:rk i≠rk j:=λy=>e (T.inj i j hi hj y);rcases Nat.lt_or_gt_of_ne hne with lt | gt
   ·rcases T.rip i hi l h1 with ⟨p,hp,hl⟩ | g
    ·obtain⟨a,b⟩:=T.iM i p hp;rw[ag i p hp l h1 hl];exact alike T ag m p j l (by lia) a hj hl h2
    ·exact Qg h2 (g j hj lt)
   ·rcases T.rip j hj l h2 with ⟨p,hp,hl⟩ | g
    ·obtain⟨a,b⟩:=T.iM j p hp;rw[ag j p hp l h2 hl];exact alike T ag m i p l (by lia) hi a h1 hl
    ·exact Qg h1 (g i hi gt)
def Stand (sh:Te)(ts:eG)(i:Nat)(r:Tp):Prop:=∃D:Str->Int,(∀k,k<sh.length->(sh.getD k []).map D∈ts.getD k [])/\(sh.getD i []).map D=r
theorem RJ (T:dj sh ps rk r0)(hk:k<sh.length):(sh.getD k []).Nodup:=by
 have:sh.getD k []∈sh:=by rw[Xd,Xa hk];exact XY _
 exact(T.pat _ this).2.2
theorem zvp (fit:cM sh vs)(h:r∈vs.getD k []):r.length=(sh.getD k []).length:=by
 cases ht:vs[k]? with
 | none=>rw[Xd,ht]at h;cases h
 | some t=>rw[Xd,ht]at h;exact fit.row k t ht r h
theorem stands (T:dj sh ps rk r0)(fit:cM sh vs)(up:∀c,ud sh ps vs c)(dn:∀c,Ar sh ps vs c)(hi:i<sh.length)(hr:r∈vs.getD i []):Stand sh vs i r:=by
 obtain⟨S,f0,s1,s2,s3,s4,s5⟩:=path T dn 7 i r (by lia) hi hr;obtain⟨f,g1,g2,g3⟩:=fill T up (λj hj=>(s3 j hj).2.2) s4 s5 7 (Xj _);have al:=alike T (f:=f) λc p h=>g3 c p h (by lia);have pick:∀l,∃j,(∃k,k<sh.length/\l∈sh.getD k [])->j<sh.length/\l∈sh.getD j []:=λl=>by
  by_cases z:∃k,k<sh.length/\l∈sh.getD k []
  ·obtain⟨k,h⟩:=z;exact⟨k,λ_=>h⟩
  ·exact⟨0,λy=>Qg y z⟩
 obtain⟨J,hJ⟩:∃J:Str->Nat,∀l,(∃k,k<sh.length/\l∈sh.getD k [])->J l<sh.length/\l∈sh.getD (J l) []:=⟨λl=>Classical.choose (pick l),λl=>Classical.choose_spec (pick l)⟩;have each:∀k,k<sh.length->(sh.getD k []).map (λl=>vl sh (J l) (f (J l)) l)=f k:=λk hk=>by
  have hm:=g2 k hk (by lia);have e:(sh.getD k []).map (λl=>vl sh (J l) (f (J l)) l)=aZ (f k) (sh.getD k []) (sh.getD k []):=by
   unfold aZ;refine Yg λl hl=>?_;obtain⟨a,b⟩:=hJ l ⟨k,hk,hl⟩;exact al 14 (J l) k l (by lia) a hk b hl
  rw[e,wA (RJ T hk) (zvp fit hm)]
 refine⟨λl=>vl sh (J l) (f (J l)) l,λk hk=>by rw[each k hk];exact g2 k hk (by lia),?_⟩;rw[each i hi,g1 i s1,s2]
theorem RK (T:dj sh ps rk r0)(hk:k<sh.length){l:Str}(hl:l∈sh.getD k []):vl sh k ((sh.getD k []).map D) l=D l:=by
 have e:(sh.getD k []).map D=aZ ((sh.getD k []).map D) (sh.getD k []) (sh.getD k []):=(wA (RJ T hk) (by rw[Xb])).symm;have e2:∀(ls:Tn) (g:Str->Int),ls.map D=ls.map g->∀l∈ls,g l=D l:=λls g h l hl=>((List.map_inj_left.mp h) l hl).symm;exact e2 _ _ e l hl
theorem RL (T:dj sh ps rk r0){ts:eG}(fit:cM sh ts)(h:∀k,k<sh.length->(sh.getD k []).map D∈ts.getD k [])(hi:i<sh.length)(ho:o<sh.length):∀k,k<sh.length->(sh.getD k []).map D∈(ts.set i (mC sh ts i o)).getD k []:=λk hk=>by
 by_cases z:i=k
 ·subst z;rw[vC (by rw[fit.len];exact hi)];exact wC.mpr ⟨h i hi,_,h o ho,λl h1 h2=>by rw[RK T hi h1,RK T ho h2]⟩
 ·rw[qJ z];exact h k hk
theorem RM (T:dj sh ps rk r0):∀ {l:Tt}{ts:eG},cM sh ts->(∀k,k<sh.length->(sh.getD k []).map D∈ts.getD k [])->∀k,k<sh.length->(sh.getD k []).map D∈(l.foldl (fJ sh ps) ts).getD k []
 | [],_,_,h=>h
 | i::l,ts,fit,h=>RM T (l:=l) (fit.up i) (by
   unfold fJ;split
   ·rename_i p hp
    have hp':ps[i]? = some (some p):=by
     rw[Xd]at hp;cases hh:ps[i]? with
     | none=>rw[hh]at hp;cases hp
     | some o=>rw[hh]at hp;exact congrArg some hp
    exact RL T fit h (T.iM i p hp').1 (T.cl hp')
   ·exact h)
theorem RN (T:dj sh ps rk r0):∀ {l:Tt}{ts:eG},cM sh ts->(∀k,k<sh.length->(sh.getD k []).map D∈ts.getD k [])->∀k,k<sh.length->(sh.getD k []).map D∈(l.foldl (iK sh ps) ts).getD k []
 | [],_,_,h=>h
 | i::l,ts,fit,h=>RN T (l:=l) (fit.dn i) (by
   unfold iK;split
   ·rename_i p hp
    have hp':ps[i]? = some (some p):=by
     rw[Xd]at hp;cases hh:ps[i]? with
     | none=>rw[hh]at hp;cases hp
     | some o=>rw[hh]at hp;exact congrArg some hp
    exact RL T fit h (T.cl hp') (T.iM i p hp').1
   ·exact h)
def Cut (ts us:eG):Prop:=us.length=ts.length/\∃q:Nat->Tp->Bool,∀i,us.getD i []=(ts.getD i []).filter (q i)
theorem Cut.refl (ts:eG):Cut ts ts:=⟨rfl,λ_ _=>true,λi=>by rw[List.filter_eq_self.mpr λ_ _=>rfl]⟩
theorem Cut.held {ts us:eG}(h:Cut ts us)(i o:Nat):Cut ts (us.set i (mC sh us i o)):=by
 obtain⟨hl,q,hq⟩:=h;refine⟨by rw[Yb];exact hl,λk r=>if k=i then(q i r&&decide (aZ r (sh.getD i []) (jl sh i o)∈(us.getD o []).map λr'=>aZ r' (sh.getD o []) (jl sh i o))) else q k r,λk=>?_⟩
 by_cases z:k=i
 ·subst z;by_cases hk:k<us.length
  ·rw[vC hk];unfold mC;rw[hq k,List.filter_filter];exact List.filter_congr λr _=>(Bool.and_comm _ _).trans (Qf rfl).symm
  ·rw[XG (by lia)];have e:us.getD k []=[]:=by rw[Xd,XD (by lia)];rfl
   have e2:ts.getD k []=[]:=by rw[Xd,XD (by lia)];rfl
   rw[e,e2];rfl
 ·rw[qJ (λy=>z y.symm),hq k];exact List.filter_congr λr _=>(Qe z).symm
theorem Cut.ups {ts:eG}:∀ {l:Tt}{us:eG},Cut ts us->Cut ts (l.foldl (fJ sh ps) us)
 | [],_,h=>h
 | i::l,us,h=>Cut.ups (l:=l) (by
   unfold fJ;split
   ·exact h.held _ _
   ·exact h)
theorem Cut.vA {ts:eG}:∀ {l:Tt}{us:eG},Cut ts us->Cut ts (l.foldl (iK sh ps) us)
 | [],_,h=>h
 | i::l,us,h=>Cut.vA (l:=l) (by
   unfold iK;split
   ·exact h.held _ _
   ·exact h)
open Classical in
def stL (sh:Te)(ts:eG):eG:=(Yj sh.length).map λi=>(ts.getD i []).filter λr=>decide (Stand sh ts i r)
theorem wD (sh:Te)(ts:eG):(stL sh ts).length=sh.length:=by unfold stL;rw[Xb,Og]
theorem Ge {ts:eG}(hi:i<sh.length):(stL sh ts).getD i []=(ts.getD i []).filter λr=>@decide (Stand sh ts i r) (Qt _):=by
 unfold stL;rw[Xd,Xe,List.getElem?_range hi];rfl
theorem RP {a b:eG}(hl:a.length=b.length)(h:∀i,i<a.length->a.getD i []=b.getD i []):a=b:=by
 refine List.ext_getElem hl λi h1 h2=>?_;have:=h i h1;rw[Xd,Xa h1,Xd,Xa h2]at this;exact this
theorem Gf (T:dj sh ps rk r0){ts:eG}(fit:cM sh ts):gK sh ps (beneath ps rk r0) ts=stL sh ts/\∀i,i<sh.length->∀r∈(gK sh ps (beneath ps rk r0) ts).getD i [],Stand sh (gK sh ps (beneath ps rk r0) ts) i r:=by
 obtain⟨_,W,_⟩:=T.wk;have fu:cM sh ((beneath ps rk r0).reverse.foldl (fJ sh ps) ts):=fit.ups;have up0:∀c,ud sh ps ((beneath ps rk r0).reverse.foldl (fJ sh ps) ts) c:=λc p hp=>RD T W fit _ [] rfl c (W.all c p hp) Pz p hp;obtain⟨up,dn⟩:=RG T W (beneath ps rk r0) [] _ rfl fu up0 λc h=>nomatch h;have fd:cM sh (gK sh ps (beneath ps rk r0) ts):=fu.vA;have sec:∀i,i<sh.length->∀r∈(gK sh ps (beneath ps rk r0) ts).getD i [],Stand sh (gK sh ps (beneath ps rk r0) ts) i r:=λi hi r hr=>stands T fd up (λc p hp=>dn c (W.all c p hp) p hp) hi hr;refine⟨?_,sec⟩;obtain⟨cl,q,hq⟩:Cut ts (gK sh ps (beneath ps rk r0) ts):=((Cut.refl ts).ups).vA;have fl:=fit.len;refine RP (by rw[cl,fl,wD]) λi h1=>?_;have hi:i<sh.length:=by rw[cl,fl]at h1;exact h1
 rw[hq i,Ge hi];refine List.filter_congr λr hr=>?_;have iff:q i r=true↔Stand sh ts i r:=by
  have hm:q i r=true↔r∈(gK sh ps (beneath ps rk r0) ts).getD i []:=by rw[hq i,XH];exact⟨λz=>⟨hr,z⟩,λz=>z.2⟩
  rw[hm];constructor
  ·intro h;obtain⟨D,d1,d2⟩:=sec i hi r h;refine⟨D,λk hk=>?_,d2⟩;have:=d1 k hk;rw[hq k]at this;exact(XH.mp this).1
  ·rintro⟨D,d1,d2⟩;have:=RN T (l:=beneath ps rk r0) fu (RM T (l:=(beneath ps rk r0).reverse) fit d1) i hi;rw[<- d2];exact this
 cases hb:q i r with
 | true=>exact(@decide_eq_true _ (Qt _) (iff.mp hb)).symm
 | false=>exact(@decide_eq_false _ (Qt _) λz=>by rw[iff.mpr z]at hb;cases hb).symm
theorem zoX (T:dj sh ps rk r0){ts:eG}(fit:cM sh ts):cM sh (stL sh ts)/\gK sh ps (beneath ps rk r0) (stL sh ts)=stL sh ts:=by
 obtain⟨e,st⟩:=Gf T fit;have fd:cM sh (gK sh ps (beneath ps rk r0) ts):=(fit.ups).vA;rw[e]at st fd;obtain⟨e2,_⟩:=Gf T fd;refine⟨fd,e2.trans ?_⟩;have fl:=fd.len;refine RP (by rw[wD,wD]) λi h1=>?_;rw[wD]at h1;rw[Ge h1];exact List.filter_eq_self.mpr λr hr=>@decide_eq_true _ (Qt _) (st i h1 r hr)
end
def fDue:PF:=λds Q=>∃(tabs:List Tab)(cells:Tp),ds=[fj tabs,fB tabs]/\tabs.length<=6/\(∀b∈tabs,b.1.length<=4)/\(∀names,Names (tabs.map (·.1)) names->Am tabs names cells)/\Q (.lst ((stL (tabs.map (·.1)) (tabs.map (·.2))).map aP)) .new
theorem zqD:fQ fDue:=λds Q Q' m ⟨a,b,e,h1,h2,h3,q⟩=>⟨a,b,e,h1,h2,h3,m _ _ q⟩
def fK (fs:Tn):List Key:=fs.map Pu
def jm (fs:Tn)(x:Str):Tn:=if x∈fs then fs else fs++[x]
theorem zvq (fs:Tn)(x:Str):gw (fK fs) (.inr x)=decide (x∈fs):=by
 unfold gw fK;rw[List.any_map,Q5,List.any_eq_true,decide_eq_true_iff];constructor
 ·rintro⟨y,hy,e⟩;have:y=x:=by simpa using e
  rw[<- this];exact hy
 ·exact λh=>⟨x,h,by simp⟩
theorem ztj {fs:Tn}{x:Str}(h:fs.Nodup):(jm fs x).Nodup:=by
 unfold jm;split
 ·exact h
 ·rename_i hn
  rw[Yt];exact⟨h,by simp,λa ha b hb e=>hn (by rw[<- Xh.mp hb,<- e];exact ha)⟩
theorem zqE {fs:Tn}{x y:Str}:y∈jm fs x↔y∈fs\/y=x:=by
 unfold jm;split
 ·constructor
  ·exact .inl
  ·rintro(h | rfl)
   ·exact h
   ·assumption
 ·rw[Xr,Xh]
theorem zqF (fs:Tn)(x:Str):(jm fs x).length<=fs.length+1:=by
 unfold jm;split
 ·lia
 ·simp
theorem Gg (gs:Tn)(x:Str):(if gw (fK gs) (.inr x)=true then PV.dK (fK gs) (putD (fK gs) (gs.map λ_=>PV.bl true) (.inr x) (PV.bl true)) else PV.dK (fK gs++[.inr x]) ((gs.map λ_=>PV.bl true)++[PV.bl true]))=PV.dK (fK (jm gs x)) ((jm gs x).map λ_=>PV.bl true):=by
 rw[zvq];unfold jm;by_cases h:x∈gs
 ·rw[Qf (Qd h),Qf h]
  congr 1
  unfold putD fK;rw[List.zip_map',Yk];refine Yg λy _=>?_;show(if (Pu y:Key)=Pu x then PV.bl true else PV.bl true)=_
  split<;>rfl
 ·rw[Qe (by simpa using h),Qe h];unfold fK;rw[Xp,Xp];rfl
theorem RQ (cells:Tp):∀n:Nat,(qI cells n).length=cells.length ^ n
 | 0=>rfl
 | n+1=>by
  show((qI cells n).flatMap _).length=_;rw[List.length_flatMap];have:(qI cells n).map (λp=>(cells.map λc=>p++[c]).length)=(qI cells n).map λ_=>cells.length:=Yg λp _=>by rw[Xb]
  rw[this];have h2:∀(l:Td) (k:Nat),(l.map λ_=>k).sum=l.length*k:=λl k=>by
   induction l with
   | nil=>simp
   | cons a l ih=>rw[Xz,List.sum_cons,ih,XX,Nat.add_mul];lia
  rw[h2,RQ cells n,Nat.pow_succ]
theorem zoY {tabs:List Tab}{names:Tn}(ok:Am tabs names cells)(hi:i<tabs.length):Stand (tabs.map (·.1)) (tabs.map (·.2)) i r↔∃a∈j9 tabs names cells,aZ a names ((tabs.map (·.1)).getD i [])=r:=by
 have g1:∀k b,tabs[k]? = some b->(tabs.map (·.1)).getD k []=b.1/\(tabs.map (·.2)).getD k []=b.2:=λk b h=>by
  rw[Xd,Xe,Xd,Xe,h];exact⟨rfl,rfl⟩
 have hmem:∀b∈tabs,∀w∈b.1,w∈names:=λb hb w hw=>(ok.nms.mem w).mpr ⟨b.1,Xv.mpr ⟨b,hb,rfl⟩,hw⟩;unfold j9 Fj;constructor
 ·rintro⟨D,h1,rfl⟩;have hc:∀ls:Tn,(∀w∈ls,w∈names)->aZ (names.map D) names ls=ls.map D:=λls hl=>by
   unfold aZ;refine Yg λw hw=>?_;rw[Xd,Xe,Fg (hl w hw)];rfl
  refine⟨names.map D,XH.mpr ⟨vo.mpr ⟨by rw[Xb],λc hc'=>?_⟩,?_⟩,?_⟩
  ·obtain⟨w,hw,rfl⟩:=Xv.mp hc';obtain⟨p,hp,hwp⟩:=(ok.nms.mem w).mp hw;obtain⟨b,hb,rfl⟩:=Xv.mp hp;obtain⟨k,hk,e⟩:=Yr hb;have hb':tabs[k]? = some b:=by rw[Xa hk,e]
   have:=h1 k (by rw[Xb];exact hk);rw[(g1 k b hb').1,(g1 k b hb').2]at this;exact((ok.rows b hb).2 _ this).2 _ (Xv.mpr ⟨w,hwp,rfl⟩)
  ·rw[XV];intro b hb;obtain⟨k,hk,e⟩:=Yr hb;have hb':tabs[k]? = some b:=by rw[Xa hk,e]
   have:=h1 k (by rw[Xb];exact hk);rw[(g1 k b hb').1,(g1 k b hb').2]at this;rw[decide_eq_true_eq,hc b.1 (hmem b hb)];exact this
  ·have hb':tabs[i]? = some tabs[i]:=Xa hi;rw[(g1 i _ hb').1];exact hc _ (hmem _ (XY hi))
 ·rintro⟨a,ha,rfl⟩;obtain⟨_,hall⟩:=XH.mp ha;rw[XV]at hall;refine⟨λw=>a.getD (cA names w) 0,λk hk=>?_,rfl⟩;rw[Xb]at hk;have hb':tabs[k]? = some tabs[k]:=Xa hk;rw[(g1 k _ hb').1,(g1 k _ hb').2];exact Qh (hall _ (XY hk))
theorem zqG {ks:List (Int×Tp)}{k x:Int×Tp}:x∈cP ks k↔x∈ks\/x=k:=by
 unfold cP;by_cases h:k∈ks
 ·rw[Qf h];exact⟨.inl,λz=>z.elim id λe=>e▸h⟩
 ·rw[Qe h,Xr,Xh]
theorem zqH (ks:List (Int×Tp))(k:Int×Tp):(cP ks k).length<=ks.length+1:=by
 unfold cP;split
 ·lia
 ·rw[Xy,Nb];lia
section
variable {P:Wo}{w:Ws}{K:Xc}{mg:Tj}{base:Heap}
theorem RT:fO ["_law_shape","_law_rows_here","_law_known","_law_pattern","_law_letter","_law_names","_law_stand","_law_answer","_law_i"] ["_law_shape","_law_rows_here"] (aU iG):=fsc
abbrev Qn:List Str:=["_law_shape","_law_rows_here","_law_known","_law_pattern","_law_letter","_law_names","_law_stand","_law_answer","_law_i"]
theorem zvs (F:dU K "_law_due" "_law_due" iG f fd) (Answers:Fx K mg "answers" rO ["shape","rows"] f1 jw) (pX:aJ P w K mg base bO 5 f1 jw ["shape","rows"] (bR K zcH)) (B:Bl mg):aJ P w K mg base bO 6 f fd ["_law_shape","_law_rows_here"] (bR K fDue):=by
 refine jt F RT (λds Q ⟨a,b,e,_⟩=>by rw[e];rfl) (λcdv A outer s H E hr=>?_);have hu:=cu hr;have nd:=RT.nd;refine⟨_,(bD (cH (i:=2) nd rfl (Qo rfl) Ko)
   (bD (nZ rfl Qs (jf (ak 0)) (bW (i:=3) nd rfl (Qo rfl)) (bU (nZ rfl Qs (xT (ak 3)) (bW (i:=4) nd rfl (Qo rfl)) (bU (znR 2 (hu1 hu) (ak 4) sZ)))))
   (bD (cH (i:=5) nd rfl (Qp rfl) (zkg 2 rfl rfl B.sorted))
   (bD (cH (i:=6) nd rfl (Qp rfl) zsQ)
   (bD (lE 5 (nZ rfl Qs (jf (cD pX zjy hr rfl Answers.mg Answers.fn.kp Answers.bd (aB (ak 0) (aB (ak 1) aL)))) (bW (i:=7) nd rfl (Qp rfl)) (bU (nZ rfl Qs (nY rfl B.range (aB (o8 rfl B.len (aB (ak 0) aL)) aL)) (bW (i:=8) nd rfl (Qo rfl)) (bU (zql 6 (Rc hu) (tH (aB (ak 8) (aB (xY rfl B.tuple (aB (jh (N:=["_law_letter","_law_names","_law_answer"]) (k:=1) (js:=[5,7]) rfl (fP (sup:=aU iG) (XN:=Qn) rfl rfl (by decide +kernel)) (by decide) (jd (by decide)) (xT (cO (ak 0) (ak 8))) ⟨λ_ _ _ _ _=>(bW (i:=0) (by show(["_law_letter","_law_names","_law_answer"]:Tn).Nodup;decide +kernel) rfl (Qo rfl)),λ_ _ _ _ _=>mj,λ_ _ _ _ _=>(cO (ak 2) (zT (ak 1) (ak 0)))⟩) aL)) aL))) sZ))))))
   (bU (lE 6 (gP (jh (N:=["_law_i","_law_rows_here","_law_stand"]) (k:=1) (js:=[1,6]) rfl (fP (sup:=aU iG) (XN:=Qn) rfl rfl (by decide +kernel)) (by decide) (jd (by decide)) (nY rfl B.range (aB (o8 rfl B.len (aB (ak 0) aL)) aL)) ⟨λ_ _ _ _ _=>(bW (i:=0) (by show(["_law_i","_law_rows_here","_law_stand"]:Tn).Nodup;decide +kernel) rfl (Qp rfl)),λ_ _ _ _ _=>mj,λ_ _ _ _ _=>(jh (N:=["_law_row","_law_i","_law_stand"]) (k:=1) (js:=[0,2]) rfl (fP (sup:=qQ ⟨.function,[(".0",.local),("_law_i",.cell),("_law_rows_here",.free),("_law_stand",.free)],false,false,[]⟩ (aU iG)) (XN:=["_law_i","_law_rows_here","_law_stand"]) rfl rfl (by decide +kernel)) (by decide) (jd (by decide)) (jf (cO (ak 1) (ak 0))) ⟨λ_ _ _ _ _=>(bW (i:=0) (by show(["_law_row","_law_i","_law_stand"]:Tn).Nodup;decide +kernel) rfl (Qo rfl)),λ_ _ _ _ _=>(o7 (zqk (Rc hu) (tH (aB (ak 1) (aB (ak 0) aL))) (ak 2))),λ_ _ _ _ _=>(ak 0)⟩)⟩))))))))),λds Q h=>?_⟩
 obtain⟨tabs,cells,rfl,hf,h4,hok,q⟩:=h;have hsz:=Wr;refine bw λN hN=>?_;walk_at "go";refine hN _ (bw λN hN=>?_);walk_at "go";obtain⟨Iv,bC⟩:∃Iv:Nat->au->Prop,∀i ρ,Iv i ρ↔∃(fs:Tn) (k4 k5:Option (PV×Bool)),fs.Nodup/\fs.length<=4*i/\(∀x,x∈fs↔∃p∈(tabs.map (·.1)).take i,x∈p)/\ρ=[some (fj tabs,false),some (fB tabs,false),some (PV.dK (fK fs) (fs.map λ_=>PV.bl true),true),
       k4,k5,none,none,none,none]:=⟨_,λ_ _=>QG⟩
 refine⟨_,rfl,Iv,(bC _ _).mpr ⟨[],none,none,YH,by simp,λx=>by simp,rfl⟩,?_,?_⟩
 ·intro i d ρ hd hI;obtain⟨fs,k4,k5,n1,n2,n3,rfl⟩:=(bC _ _).mp hI;rw[Xe]at hd;cases hb:tabs[i]? with
  | none=>rw[hb]at hd;cases hd
  | some b=>
   rw[hb]at hd;cases hd;have hbm:=Xl hb;have hil:i<tabs.length:=(Xf.mp hb).1;have hb4:=h4 b hbm;have htk:(tabs.map (·.1)).take (i+1)=(tabs.map (·.1)).take i++[b.1]:=by rw[XS,Xe,hb];rfl
   walk_at "go";obtain⟨Jv,lN⟩:∃Jv:Nat->au->Prop,∀j ρ,Jv j ρ↔∃(gs:Tn) (k5:Option (PV×Bool)),gs.Nodup/\gs.length<=4*i+j/\(∀x,x∈gs↔x∈fs\/x∈b.1.take j)/\ρ=[some (fj tabs,false),some (fB tabs,false),some (PV.dK (fK gs) (gs.map λ_=>PV.bl true),true),
       some (PV.tup (b.1.map PV.str),false),k5,none,none,none,none]:=⟨_,λ_ _=>QG⟩
   refine⟨Jv,(lN _ _).mpr ⟨fs,k5,n1,by lia,λx=>by simp,rfl⟩,?_,?_⟩
   ·intro j d ρ hd hJ;obtain⟨gs,k5,g1,g2,g3,rfl⟩:=(lN _ _).mp hJ;rw[Xe]at hd;cases hx:b.1[j]? with
    | none=>rw[hx]at hd;cases hd
    | some x=>
     rw[hx]at hd;cases hd;have hjl:j<b.1.length:=(Xf.mp hx).1;walk_at "go";have hg:gs.length<Wi:=by lia
     refine⟨by unfold fK;rw[Xb];exact hg,.inr x,rfl,(lN _ _).mpr ⟨jm gs x,_,ztj g1,by have:=zqF gs x;lia,λy=>?_,by rw[Gg]⟩⟩;rw[zqE,g3,XS,hx];simp only[Option.toList_some,Xr,Xh];constructor
     ·rintro((h | h) | h)
      ·exact .inl h
      ·exact .inr (.inl h)
      ·exact .inr (.inr h)
     ·rintro(h | h | h)
      ·exact .inl (.inl h)
      ·exact .inl (.inr h)
      ·exact .inr h
   ·intro ρ hJ;obtain⟨gs,k5,g1,g2,g3,rfl⟩:=(lN _ _).mp hJ;rw[Xb]at g2 g3;rw[Xs (Xj _)]at g3;refine(bC _ _).mpr ⟨gs,_,k5,g1,by lia,λx=>?_,rfl⟩;rw[g3,n3,htk];simp only[Xr,Xh];constructor
    ·rintro(⟨p,h1,h2⟩ | h)
     ·exact⟨p,.inl h1,h2⟩
     ·exact⟨_,.inr rfl,h⟩
    ·rintro⟨p,h1 | rfl,h2⟩
     ·exact .inl ⟨p,h1,h2⟩
     ·exact .inr h2
 intro ρ hI;obtain⟨fs,k4,k5,n1,n2,n3,rfl⟩:=(bC _ _).mp hI;rw[Xb]at n2 n3;rw[Xs (by rw[Xb];exact Xj _)]at n3;refine hN _ (bw λN hN=>?_);walk_at "go";refine⟨fs,rfl,by lia,λzs z1 z2=>?_⟩;have ok:=hok zs ⟨z1.nodup_iff.mpr n1,λx=>z1.mem_iff.trans (n3 x),z2⟩;refine hN _ (bw λN hN=>?_);walk_at "go";refine hN _ (bw λN hN=>?_);walk_at "go";have h729:(j9 tabs zs cells).length<=729:=by
  refine XZ (Yo _ _) ?_;rw[RQ];exact XZ (Nat.pow_le_pow_left ok.three.2 _) (XZ (Nat.pow_le_pow_right (by lia) ok.six) (by decide))
 have hst:=λ(i:Nat) (r:Tp) (hi:i<tabs.length)=>zoY ok (r:=r) hi;obtain⟨kn,hkn⟩:∃kn,kn=some (PV.dK (fK fs) (Yl (λx=>PV.bl true) fs),true):=⟨_,rfl⟩;rw[<- hkn];obtain⟨ans,pY⟩:∃ans,ans=j9 tabs zs cells:=⟨_,rfl⟩;have key:∀a∈ans,a.length=zs.length:=λa ha=>by
  rw[pY]at ha;exact(vo.mp (XH.mp ha).1).1
 obtain⟨pt,hpt⟩:∃pt:Nat->Tn,∀k,pt k=(tabs.map (·.1)).getD k []:=⟨_,λ_=>rfl⟩;have pts:∀k,k<tabs.length->pt k∈tabs.map (·.1)/\(pt k).length<=4/\∀w∈pt k,w∈zs:=λk hk=>by
  have e:pt k=tabs[k].1:=by rw[hpt,Xd,Xe,Xa hk];rfl
  have hm:pt k∈tabs.map (·.1):=by rw[e];exact Xv.mpr ⟨_,XY hk,rfl⟩
  exact⟨hm,by rw[e];exact(ok.pat _ (XY hk)).2.1,λw hw=>(ok.nms.mem w).mpr ⟨_,hm,hw⟩⟩
 have atP:∀k,k<tabs.length->cW (tabs.map λb=>PV.tup (b.1.map PV.str)) (k:Int)=some (.tup ((pt k).map PV.str)):=λk hk=>eE (by
  rw[Xe,Xa hk,hpt,Xd,Xe,Xa hk];rfl)
 rw[<- pY]at h729;obtain⟨Iw,nC⟩:∃Iw:Nat->au->Prop,∀k ρ,Iw k ρ↔∃(ks:List (Int×Tp)) (k7 k8:Ov),ρ=[some (fj tabs,false),some (fB tabs,false),kn,k4,k5,some (PV.lst (zs.map PV.str),false),some (PV.dP ks,true),k7,k8]/\ks.length<=6*k/\∀x:Int×Tp,x∈ks↔∃a∈ans.take k,∃j:Nat,j<tabs.length/\x=((j:Int),aZ a zs (pt j)):=⟨_,λ_ _=>QG⟩;refine⟨tabs,rfl,rfl,zs,cells,ok,Iw,(nC _ _).mpr ⟨[],_,_,rfl,Ye _,λx=>by simp⟩,?_,?_⟩
 ·intro k d ρ hd hI;obtain⟨ks0,k7,k8,rfl,l0,m0⟩:=(nC _ _).mp hI;rw[<- pY,Xe]at hd;cases ha:ans[k]? with
  | none=>rw[ha]at hd;cases hd
  | some a=>
   rw[ha]at hd;cases hd;have hk:=(Xf.mp ha).1;have hal:=key a (Xl ha);walk_at "go";obtain⟨Jw,hJw⟩:∃Jw:Nat->au->Prop,∀j ρ,Jw j ρ↔∃(ks:List (Int×Tp)) (k8:Ov),ρ=[some (fj tabs,false),some (fB tabs,false),kn,k4,k5,some (PV.lst (zs.map PV.str),false),some (PV.dP ks,true),some (aQ a,false),k8]/\ks.length<=6*k+j/\∀x:Int×Tp,x∈ks↔x∈ks0\/∃j':Nat,j'<j/\x=((j':Int),aZ a zs (pt j')):=⟨_,λ_ _=>QG⟩;have hlt:(tabs.map λb=>PV.tup (b.1.map PV.str)).length=tabs.length:=by rw[Xb]
   refine⟨tabs.length,by show _=_;rw[Xb],by lia,by lia,Jw,(hJw _ _).mpr ⟨ks0,_,rfl,by lia,λx=>⟨.inl,λz=>z.elim id λ⟨j',h,_⟩=>Qg h (Od _)⟩⟩,?_,?_⟩
   ·intro j d ρ hd hJ;obtain⟨ks,k8,rfl,l1,m1⟩:=(hJw _ _).mp hJ;rw[Yx]at hd;obtain⟨hj,rfl⟩:=o6 hd;rw[Q8];obtain⟨p1,p2,p3⟩:=pts j hj;walk_at "go";refine⟨_,rfl,by lia,_,.inl ⟨_,.inl rfl,atP j hj⟩,_,rfl,by rw[Xb];lia,λm out=>out=(aZ a zs ((pt j).take m)).map PV.int,rfl,?_,?_⟩
    ·rintro m d out hd-rfl;rw[Xe]at hd;cases hx:(pt j)[m]? with
     | none=>rw[hx]at hd;cases hd
     | some x=>
      rw[hx]at hd;cases hd;have hxz:=p3 x (Xl hx);have hix:=pK hxz;refine⟨EY zs,rfl,Xv.mpr ⟨x,hxz,rfl⟩,PV.int (a.getD (cA zs x) 0),.inl ⟨_,.inr rfl,eE ?_⟩,?_⟩
      ·show(a.map PV.int)[cA zs x]? = _;rw[Xe,Xd,Xa (by lia)];rfl
      ·show _=_;unfold aZ;rw[<- take_snoc hx,Xp,Xp];rfl
    ·rintro out-rfl;rw[Xb,YJ];refine⟨by lia,((j:Int),aZ a zs (pt j)),rfl,(hJw _ _).mpr ⟨_,_,rfl,?_,λx=>?_⟩⟩
     ·have:=zqH ks ((j:Int),aZ a zs (pt j));lia
     ·rw[zqG,m1];constructor
      ·rintro((h | ⟨j',h,e⟩) | e)
       ·exact .inl h
       ·exact .inr ⟨j',by lia,e⟩
       ·exact .inr ⟨j,by lia,e⟩
      ·rintro(h | ⟨j',h,e⟩)
       ·exact .inl (.inl h)
       ·by_cases z:j'=j
        ·subst z;exact .inr e
        ·exact .inl (.inr ⟨j',by lia,e⟩)
   ·intro ρ hJ;obtain⟨ks,k8,rfl,l1,m1⟩:=(hJw _ _).mp hJ;rw[Yx,lZ]at l1 m1;refine(nC _ _).mpr ⟨ks,_,_,rfl,by lia,λx=>?_⟩;rw[m1,m0,<- take_snoc ha];constructor
    ·rintro(⟨b,hb,j,h⟩ | ⟨j,h⟩)
     ·exact⟨b,List.mem_append_left _ hb,j,h⟩
     ·exact⟨a,Yu _ Xg,j,h⟩
    ·rintro⟨b,hb,j,h⟩;rcases Xr.mp hb with hb | hb
     ·exact .inl ⟨b,hb,j,h⟩
     ·rw[Xh.mp hb]at h;exact .inr ⟨j,h⟩
 intro ρ hI;obtain⟨ks,k7,k8,rfl,l0,m0⟩:=(nC _ _).mp hI;rw[Xb,<- pY,YJ]at m0;refine hN _ ?_;walk_at "go";have qK:∀k,k<tabs.length->∃tb,(tabs.map (·.2)).getD k []=tb/\tb.length<=100/\cW (tabs.map λb=>aP b.2) (k:Int)=some (aP tb):=λk hk=>
  ⟨tabs[k].2,by rw[Xd,Xe,Xa hk];rfl,(ok.rows _ (XY hk)).1,eE (by rw[Xe,Xa hk];rfl)⟩
 refine⟨tabs.length,by show _=_;rw[Xb],by lia,by lia,?_⟩;rw[Yx,lZ];refine⟨by lia,λk out=>out=((stL (tabs.map (·.1)) (tabs.map (·.2))).take k).map aP,rfl,?_,?_⟩
 ·rintro k d out hd-rfl;obtain⟨hk,rfl⟩:=o6 hd;rw[Q8];obtain⟨tb,e1,e2,e3⟩:=qK k hk;have hsk:(stL (tabs.map (·.1)) (tabs.map (·.2)))[k]? = some (tb.filter λr=>decide (((k:Int),r)∈ks)):=by
   have hkl:k<(tabs.map (·.1)).length:=by rw[Xb];exact hk
   have g:=Ge (ts:=tabs.map (·.2)) hkl;have hl:k<(stL (tabs.map (·.1)) (tabs.map (·.2))).length:=by rw[wD];exact hkl
   rw[Xd,Xa hl,e1]at g;rw[Xa hl];refine congrArg some (g.trans (List.filter_congr λr _=>?_));have iff:((k:Int),r)∈ks↔Stand (tabs.map (·.1)) (tabs.map (·.2)) k r:=by
    rw[m0,hst k r hk,<- pY,<- hpt];constructor
    ·rintro⟨a,ha,j,_,e⟩;have ej:j=k:=by have:=congrArg Prod.fst e;simp only at this;lia
     subst ej;exact⟨a,ha,(congrArg Prod.snd e).symm⟩
    ·rintro⟨a,ha,e⟩;exact⟨a,ha,k,hk,by rw[e]⟩
   by_cases z:((k:Int),r)∈ks
   ·rw[Qd z];exact @decide_eq_true _ (Qt _) (iff.mp z)
   ·rw[Qc z];exact @decide_eq_false _ (Qt _) λy=>z (iff.mpr y)
  refine⟨_,.inl ⟨_,.inl rfl,_,rfl,e3⟩,_,rfl,by rw[Xb];lia,λm out=>out=((tb.take m).filter λr=>decide (((k:Int),r)∈ks)).map aQ,rfl,?_,?_⟩
  ·rintro m d out hd-rfl;rw[Xe]at hd;cases hr:tb[m]? with
   | none=>rw[hr]at hd;cases hd
   | some r=>
    rw[hr]at hd;cases hd;refine⟨by lia,_,rfl,((k:Int),r),rfl,?_⟩;show ite _ (_=_) (_=_);rw[<- take_snoc hr,Yp,Xp];by_cases z:((k:Int),r)∈ks
    ·rw[Qf z,Ow (by exact Qd z)];rfl
    ·rw[Qe z,Ox (by exact λy=>z (Qh y)),List.filter_nil,YL,Ym]
  ·rintro out-rfl;rw[Xb,YJ];show _=_;rw[<- take_snoc hsk,Xp];rfl
 rintro out-rfl;rw[Xs (by rw[wD,Xb];exact Xj _)];exact q
end
def jN (ns:Tp):Tp:=(ns.foldl JS.bH []).mergeSort λa b=>decide (a<=b)
theorem zqI (ns:Tp)(x:Int):x∈jN ns↔x∈ns:=by
 unfold jN;rw[(List.mergeSort_perm _ _).mem_iff,JS.Cz];simp
theorem ztk (ns:Tp):(jN ns).Pairwise (· < ·):=by
 have h1:(jN ns).Pairwise (λa b=>a<=b):=(List.pairwise_mergeSort (le:=λa b:Int=>decide (a<=b)) (λa b c h1 h2=>Qd (by have:=Qh h1;have:=Qh h2;lia)) (λa b=>by
  rw[Bool.or_eq_true];rcases Int.le_total a b with h | h
  ·exact .inl (Qd h)
  ·exact .inr (Qd h)) _).imp λ{a b} h=>Qh h
 have h2:(jN ns).Nodup:=(List.mergeSort_perm _ _).nodup_iff.mpr (La ns [] YH);exact List.Pairwise.imp₂ (λa b (h1:a<=b) (h2:a≠b)=>by lia) h1 h2
theorem Gh (sh:Te)(hs:0<sh.length)(cells:Tp)(total:Int):(gG sh cells total).length=sh.length:=by
 unfold gG;rw[Xb];exact(Fp hs (by have:=Ak total;lia) cells total).len
theorem Gi (hs:0<sh.length)(cells:Tp)(total:Int)(h:(gG sh cells total)[i]? = some l):l.length<=cells.length+sh.length/\∀r∈l,r.length=(sh.getD i []).length/\∀c∈r,c∈aK total:=by
 unfold gG at h;rw[Xe]at h;cases e:(lQ sh (aK total) cells total)[i]? with
 | none=>rw[e]at h;cases h
 | some l0=>
  rw[e]at h;have h:=Qa h;obtain⟨h1,h2⟩:=(Fp hs (by have:=Ak total;lia) cells total).row i l0 e;have hp:=sortI_perm l0;rw[<- h];exact⟨by rw[hp.length_eq];exact h1,λr hr=>h2 r (hp.mem_iff.mp hr)⟩
theorem zoZ (n:Nat)(sh:Te):PL.plain (n+3) (cB sh)=true:=by
 unfold cB;show(sh.map _).all (PL.plain (n+2))=true;rw[Ot,XV];intro r _;show PL.plain (n+2) (PV.tup (r.map PV.str))=true;simp[PL.plain]
theorem uf (n:Nat)(l:Tc):(l.map aP).all (PL.plain (n+3))=true:=by
 rw[Ot,XV];intro r _;show PL.plain (n+3) (PV.lst (r.map aQ))=true;show(r.map aQ).all (PL.plain (n+2))=true;rw[Ot,XV];intro x _;show PL.plain (n+2) (PV.tup (x.map PV.int))=true;simp[PL.plain]
theorem ztl {r:Nat}(T:dj sh ps rk r):yC sh:=by
 obtain⟨L,h1,h2,h3⟩:=T.six;refine⟨T.n1,T.n6,λp hp=>?_⟩;obtain⟨a,b,c⟩:=T.pat p hp;exact⟨List.length_pos_iff.mpr a,b,c,λx hx=>h2 x (h3 p hp x hx)⟩
def mG (sh:Te)(cells:Tp)(total:Int):List Tab:=sh.zip (gG sh cells total)
section
variable {sh:Te}{ps:Tf}{rk:Tw}{r:Nat}
theorem zqJ (T:dj sh ps rk r)(h:cells.length<=63)(total:Int):cM sh (gG sh cells total):=by
 have n6:=T.n6;refine⟨Gh sh T.n1 cells total,λt ht=>?_,λk t hk r hr=>((Gi T.n1 cells total hk).2 r hr).1⟩;obtain⟨k,hk,e⟩:=Yr ht;have:=(Gi T.n1 cells total (i:=k) (l:=t) (by rw[Xa hk,e])).1;lia
theorem yG (T:dj sh ps rk r)(cells:Tp)(total:Int):(mG sh cells total).map (·.1)=sh:=List.map_fst_zip (by rw[Gh sh T.n1];exact Xj _)
theorem RV (T:dj sh ps rk r)(cells:Tp)(total:Int):(mG sh cells total).map (·.2)=gG sh cells total:=List.map_snd_zip (by rw[Gh sh T.n1];exact Xj _)
theorem zqK (T:dj sh ps rk r)(cells:Tp)(total:Int):fj (mG sh cells total)=cB sh:=by rw[Ft,yG T]
theorem zqL (T:dj sh ps rk r)(cells:Tp)(total:Int):fB (mG sh cells total)=.lst ((gG sh cells total).map aP):=by
 unfold fB;rw[<- RV T,Yk];rfl
theorem yH (T:dj sh ps rk r){total:Int}{b:Tab}(h:b∈mG sh cells total):b.1∈sh/\b.2.length<=cells.length+6/\∀r∈b.2,r.length=b.1.length/\∀c∈r,c∈aK total:=by
 obtain⟨i,hi,e⟩:=Yr h;have hz:=Xa hi;rw[e]at hz;unfold mG at hz;rw[List.getElem?_zip_eq_some]at hz;obtain⟨z1,z2⟩:=hz;obtain⟨h1,h2⟩:=Gi T.n1 cells total z2;have hg:sh.getD i []=b.1:=by rw[Xd,z1];rfl
 rw[hg]at h2;have:=T.n6;exact⟨Xl z1,by lia,h2⟩
theorem zvt (T:dj sh ps rk r){total:Int}(h:cells.length<=63):∀names,Names ((mG sh cells total).map (·.1)) names->Am (mG sh cells total) names (jN (aK total)):=λnames hn=>by
 have hl:(mG sh cells total).length=sh.length:=by have:=congrArg QW (yG T cells total);rw[Xb]at this;exact this
 have nl:=Ak total;have hp:=ztk (aK total);have hm:=zqI (aK total);have n1:=T.n1;have six:names.length<=6:=by
  obtain⟨L,h1,_,h3⟩:=T.six;rw[yG T]at hn;rw[<- h1];refine Q9 hn.nd λx hx=>?_;obtain⟨p,hp,hxp⟩:=(hn.mem x).mp hx;exact h3 p hp x hxp
 refine⟨by lia,by rw[hl];exact T.n6,λb hb=>?_,λb hb=>⟨by have:=(yH T hb).2.1;lia,λr hr=>⟨((yH T hb).2.2 r hr).1,λc hc=>(hm c).mpr (((yH T hb).2.2 r hr).2 c hc)⟩⟩,hn,six,hp,?_,?_⟩
 ·obtain⟨a,b',c⟩:=T.pat _ (yH T hb).1;exact⟨List.length_pos_iff.mpr a,b',c⟩
 ·have h0:(aK total)[0]'(by lia)∈jN (aK total):=(hm _).mpr (XY _);exact List.length_pos_of_mem h0
 ·have nd:(jN (aK total)).Nodup:=hp.imp λ{a b} z=>by lia
  have:=Q9 nd (λc hc=>(hm c).mp hc);lia
end
def zhY:PF:=λds Q=>∃ug:Tc,ds=[.lst (ug.map aP),.lst (ug.map aP)]/\ug.length<=6/\(∀t∈ug,t.length<=100)/\Q (.bl true) .aH
theorem zkv:fQ zhY:=λds Q Q' m ⟨a,e,h1,h2,q⟩=>⟨a,e,h1,h2,m _ _ q⟩
def fLaw:PF:=λds Q=>∃ns:Tp,ds=[.lst (ns.map PV.int)]/\ns.length<=63/\Q (.bl true) .aH
theorem zqM:fQ fLaw:=λds Q Q' m ⟨ns,e,h,q⟩=>⟨ns,e,h,m _ _ q⟩
section
variable {P:Wo}{w:Ws}{K:Xc}{mg:Tj}{base:Heap}
theorem RX:fO ["_law_found","_law_due_here","_law_lines"] ["_law_found","_law_due_here"] (aU rR):=fsc
theorem zpa (F:dU K "_law_is_rows" "_law_is_rows" rR f fd) (B:Bl mg):aJ P w K mg base bO 2 f fd ["_law_found","_law_due_here"] (bR K zhY):=by
 refine jt F RX (λds Q ⟨a,e,_⟩=>by rw[e];rfl) (λcdv A outer s H E hr=>?_);have hu:=cu hr;have nd:=RX.nd;refine⟨_,(bD (qp (lY.t (zq (zu (uF (Dv (K:=K) rfl rfl B.isi (aB (ak 0) (aB (CP rfl B.list Dp) aL))))) (zp (uL hu (ak 0) (ak 1))))) (bU (gP sZ)) qT)
   (bD (nZ rfl Qs (jf (ak 0)) (bW (i:=2) nd rfl (Qo rfl)) (bU (qp (lY.t (zq (zu (uF (Dv (K:=K) rfl rfl B.isi (aB (ak 2) (aB (CP rfl B.list Dp) aL))))) (zp (uL hu (jh (N:=["_law_row"]) (k:=1) (js:=[]) rfl (fP (sup:=aU rR) (XN:=["_law_found","_law_due_here","_law_lines"]) rfl rfl (by decide +kernel)) (by decide) (jd (by decide)) (jf (ak 2)) ⟨λ_ _ _ _ _=>(bW (i:=0) (by show(["_law_row"]:Tn).Nodup;decide +kernel) rfl (Qo rfl)),λ_ _ _ _ _=>(o7 (zu (uF (Dv (K:=K) rfl rfl B.isi (aB (ak 0) (aB (CP rfl B.tuple JB) aL)))))),λ_ _ _ _ _=>(ak 0)⟩) (jC aL))))) (bU (gP sZ)) qT)))
   (bU (gP sZ)))),λds Q h=>?_⟩
 obtain⟨ug,rfl,h6,h60,q⟩:=h;have hsz:=Wr;refine bw λN hN=>?_;walk_at "go";refine⟨true,Dy,?_⟩;rw[Qe (λz=>nomatch z)];refine⟨uf 2 _,uf 2 _,hN _ (bw λN hN=>?_)⟩;walk_at "go";obtain⟨Iv,bC⟩:∃Iv:Nat->au->Prop,∀i ρ,Iv i ρ↔∃k2,ρ=[some (PV.lst (Yl aP ug),false),some (PV.lst (Yl aP ug),false),k2]:=⟨_,λ_ _=>QG⟩;refine⟨Iv,(bC _ _).mpr ⟨none,rfl⟩,?_,?_⟩
 ·intro i d ρ hd hI;obtain⟨k2,rfl⟩:=(bC _ _).mp hI;rw[Xe]at hd;cases hp:ug[i]? with
  | none=>rw[hp]at hd;cases hd
  | some tb=>
   rw[hp]at hd;cases hd;have l60:=h60 tb (Xl hp);walk_at "go";refine⟨(λn z=>nomatch z),rfl,true,Dy,?_⟩;rw[Qe (λz=>nomatch z)];refine⟨_,rfl,by rw[Xb];lia,λ_ out=>out=[],rfl,?_,?_⟩
   ·rintro j d out hd-rfl;have hdm:=Xl hd;obtain⟨r,_,rfl⟩:=Xv.mp hdm;refine⟨(λn z=>nomatch z),rfl,true,Dy,?_⟩;rw[Qe (λz=>nomatch z)]
   ·rintro out-rfl;refine⟨by lia,rfl,?_⟩;rw[Qe (λz=>z rfl)];walk_at "go";exact(bC _ _).mpr ⟨_,rfl⟩
 intro ρ hI;obtain⟨k2,rfl⟩:=(bC _ _).mp hI;refine hN _ ?_;walk_at "go";exact q
theorem RZ:fO ["_law_script","_law_cells","_law_total","_law_shape","_law_parents","_law_rows_here","_law_due_here","_law_found","_law_lines"] ["_law_script"] (aU sLaw):=fsc
theorem zvv {f f1 f2 f3 f4 f5:We}{fd jw fd2 qH pM fd5:WA}(F:dU K "law" "law" sLaw f fd) (Tree:Fx K mg "_law_tree" oH ["_law_cell"] f1 jw) (uh:aJ P w K mg base bO 6 f1 jw ["_law_cell"] (bR K zkq)) (Rows:Fx K mg "_law_rows" oJ ["_law_shape","_law_cells","_law_total"] f2 fd2) (ul:aJ P w K mg base bO 6 f2 fd2 ["_law_shape","_law_cells","_law_total"] (bR K zgu))
  (Due:Fx K mg "_law_due" iG ["_law_shape","_law_rows_here"] f3 qH) (GDue:aJ P w K mg base bO 6 f3 qH ["_law_shape","_law_rows_here"] (bR K fDue)) (bQ:Fx K mg "reduced" rP ["shape","rows","parents"] f4 pM) (jy:aJ P w K mg base bO 6 f4 pM ["shape","rows","parents"] (yj K zdh)) (jO:Fx K mg "_law_is_rows" rR ["_law_found","_law_due_here"] f5 fd5) (B:Bl mg):aJ P w K mg base bO 7 f fd ["_law_script"] (bR K fLaw):=by
 have sE:aJ P w K mg base bO 6 f5 fd5 ["_law_found","_law_due_here"] (bR K zhY):=(zpa jO.fn B).mono (by decide);have kE:aJ P w K mg base bO 6 f4 pM ["shape","rows","parents"] (bR K zhW):=aJ.unboxed Ga jy;refine jt F RZ (λds Q ⟨c,e,_⟩=>by rw[e];rfl) (λcdv A outer s H E hr=>?_);have hu:=cu hr;have nd:=RZ.nd;refine⟨_,(bD (cH (i:=1) nd rfl (Qo rfl) (zL (ak 0) zJ (zK bA)))
   (bD (cH (i:=2) nd rfl (Qo rfl) (zuK rfl rfl B.sum (aB (ak 1) aL)))
   (bD (zsb (cD uh N8 hr rfl Tree.mg Tree.fn.kp Tree.bd (aB (ak 2) aL)) (vP (n:=2) rfl (nU (bW (i:=3) nd rfl (Qo rfl)) (nU (bW (i:=4) nd rfl (Qo rfl)) vO))))
   (bD (lE 1 (cH (i:=5) nd rfl (Qo rfl) (cD ul Nj hr rfl Rows.mg Rows.fn.kp Rows.bd (aB (ak 3) (aB (ak 1) (aB (ak 2) aL))))))
   (bD (lE 5 (cH (i:=6) nd rfl (Qo rfl) (cD GDue zqD hr rfl Due.mg Due.fn.kp Due.bd (aB (ak 3) (aB (ak 5) aL)))))
   (zms jy Ga rfl hr rfl bQ.mg bQ.fn.kp bQ.bd (aB (ak 3) (aB (ak 5) (aB (ak 4) aL))) (lY.t (zq (zu (uF (cD sE zkv hr rfl jO.mg jO.fn.kp jO.bd (aB (ak 7) (aB (ak 6) aL))))) (zp (uL hu (cD kE Rv hr rfl bQ.mg bQ.fn.kp bQ.bd (aB (ak 3) (aB (ak 7) (aB (ak 4) aL)))) (ak 6))))) (bD (qp (lY.t (zq (uL hu (tH (aB (ak 3) (aB (ak 4) aL))) (cD uh N8 hr rfl Tree.mg Tree.fn.kp Tree.bd (aB (ak 2) aL))) (zp (uL hu (ak 5) (cD ul Nj hr rfl Rows.mg Rows.fn.kp Rows.bd (aB (ak 3) (aB (ak 1) (aB (ak 2) aL)))))))) (bU (gP sZ)) qT)
   (bU (gP (zvQ hu (cD kE Rv hr rfl bQ.mg bQ.fn.kp bQ.bd (aB (ak 3) (aB (ak 5) (aB (ak 4) aL)))) (ak 6))))) nd (z:=7) (i:=8) rfl (Qo rfl) rfl (Qo rfl))))))),λds Q h=>?_⟩
 obtain⟨ns,rfl,h63,q⟩:=h;have hsz:=Wr;refine bw λN hN=>?_;walk_at "go";have hcut:∃ms:Tp,ig (ns.map PV.int) none (some 59)=ms.map PV.int/\ms.length<=63:=by
  refine⟨ns.take 59,by rw[show(59:Int)=((59:Nat):Int) from rfl,Mw,List.map_take],by rw[XJ];lia⟩
 obtain⟨ms,hcut,hms⟩:=hcut;rw[hcut];refine hN _ (bw λN hN=>?_);walk_at "go";refine⟨ms,rfl,?_⟩;generalize ms.sum=total;obtain⟨rk,r,T⟩:=ztd total;refine hN _ (bw λN hN=>?_);walk_at "go";have sok:=ztl T;have fit:=zqJ T hms total;obtain⟨rw,hrw⟩:∃rw,gG (jk total) ms total=rw:=⟨_,rfl⟩;refine hN _ (bw λN hN=>?_);walk_at "go";refine⟨jk total,rfl,ms,rfl,sok,hms,hN _ (bw λN hN=>?_)⟩;rw[hrw]at fit;have hds:=zqK T ms total;have hdr:=zqL T ms total;have h4:∀b∈mG (jk total) ms total,b.1.length<=4:=λb hb=>(T.pat _ (yH T hb).1).2.1;have hl6:(mG (jk total) ms total).length<=6:=by
  have:=congrArg QW (yG T ms total);rw[Xb]at this;have:=T.n6;lia
 obtain⟨red1,_⟩:=Gf T fit;obtain⟨lV,red2⟩:=zoX T fit;have hst:stL ((mG (jk total) ms total).map (·.1)) ((mG (jk total) ms total).map (·.2))=stL (jk total) rw:=by rw[yG T,RV T,hrw]
 rw[hrw]at hdr;rw[hrw];walk_at "go";refine⟨mG (jk total) ms total,hds.symm,hdr.symm,hl6,h4,⟨jN (aK total),zvt T hms⟩,?_⟩;rw[hst];refine hN _ ?_;walk_at "go";refine⟨by decide,by decide,jk total,rfl,rw,rfl,pQ total,rfl,rk,r,T,fit,?_⟩;rw[red1];have n6:=T.n6;have sl:=lV.len;refine⟨by rw[Xb];lia,λl hl=>?_,stL (jk total) rw,rfl,rfl,by lia,lV.few,jk total,rfl,stL (jk total) rw,rfl,pQ total,rfl,rk,r,T,lV,?_⟩
 ·obtain⟨t,ht,rfl⟩:=Xv.mp hl;have:=lV.few t ht;exact⟨_,rfl,by rw[Xb];lia⟩
 rw[red2];refine⟨uf 2 _,uf 2 _,?_⟩;rw[Qe (λz=>z rfl)];refine bw λN hN=>?_;walk_at "go";have plt:[cB (jk total),PV.lst (Yl bJ (pQ total))].all (PL.plain 5)=true:=by
  rw[Pk,zoZ 2,Pk,List.all_nil,Bool.and_true,Bool.true_and];show((pQ total).map bJ).all (PL.plain 4)=true;rw[XV];intro d hd;obtain⟨p,_,rfl⟩:=Xv.mp hd;cases p<;>rfl
 refine⟨by lia,plt,plt,jk total,rfl,ms,rfl,sok,hms,uf 2 _,uf 2 _,?_⟩;rw[hrw,Qe (λz=>z rfl)];refine hN _ ?_;walk_at "go";refine⟨jk total,rfl,rw,rfl,pQ total,rfl,rk,r,T,fit,?_⟩;rw[red1];refine⟨uf 2 _,uf 2 _,?_⟩;rw[Qd rfl];exact q
end
theorem zqN:∀ns:Tp,ns.length<=63->fLaw [.lst (ns.map PV.int)] λd k=>d=.bl true:=λns h=>⟨ns,rfl,h,rfl⟩
def see (K:Xc):List HK.Seen×List (Option (Tv))×List Bool:=
  ([HK.gU K (Xu K Wg "cells_of"),HK.gU K (Xu K Wg "guide_of"),HK.gU K (Xu K Wg "longer"),HK.gU K (Xu K Wg "guides_to"),HK.gU K (Xu K Wg "parts_along"),HK.gU K (Xu K Wg "letters_of"),HK.gU K (Xu K Wg "patterns_with"),HK.gU K (Xu K Wg "shared_first"),HK.gU K (Xu K Wg "answers"),HK.gU K (Xu K Wg "children_of"),HK.gU K (Xu K Wg "walk"),HK.gU K (Xu K Wg "held_by"),HK.gU K (Xu K Wg "reduced"),HK.gU K (Xu K Wg "_law_mix"),HK.gU K (Xu K Wg "_law_letters"),HK.gU K (Xu K Wg "_law_tree"),HK.gU K (Xu K Wg "_law_numbers"),HK.gU K (Xu K Wg "_law_rows"),HK.gU K (Xu K Wg "_law_due"),HK.gU K (Xu K Wg "_law_is_rows"),HK.gU K (Xu K Wg "law")],
   [Xu K Wg "range",Xu K Wg "len",Xu K Wg "list",Xu K Wg "tuple",Xu K Wg "sorted",Xu K Wg "set",Xu K Wg "isinstance",Xu K Wg "str",Xu K Wg "int",Xu K Wg "bool",Xu K Wg "dict",Xu K Wg "enumerate",Xu K Wg "zip",Xu K Wg "min",Xu K Wg "max",Xu K Wg "sum",Xu K Wg "all",Xu K Wg "any",Xu K Wg "reversed",Xu K Wg "abs",Xu K Wg "ord"],
   [])
def told:List HK.Seen×List (Option (Tv))×List Bool:=
  ([HK.gV "cells_of" "cells_of" (dR tX) (dz tX) (aU tX),HK.gV "guide_of" "guide_of" (dR tY) (dz tY) (aU tY),HK.gV "longer" "longer" (dR pJ) (dz pJ) (aU pJ),HK.gV "guides_to" "guides_to" (dR qz) (dz qz) (aU qz),HK.gV "parts_along" "parts_along" (dR tZ) (dz tZ) (aU tZ),HK.gV "letters_of" "letters_of" (dR rN) (dz rN) (aU rN),HK.gV "patterns_with" "patterns_with" (dR qC) (dz qC) (aU qC),HK.gV "shared_first" "shared_first" (dR qD) (dz qD) (aU qD),HK.gV "answers" "answers" (dR rO) (dz rO) (aU rO),HK.gV "children_of" "children_of" (dR qF) (dz qF) (aU qF),HK.gV "walk" "walk" (dR t6) (dz t6) (aU t6),HK.gV "held_by" "held_by" (dR qG) (dz qG) (aU qG),HK.gV "reduced" "reduced" (dR rP) (dz rP) (aU rP),HK.gV "_law_mix" "_law_mix" (dR lM) (dz lM) (aU lM),HK.gV "_law_letters" "_law_letters" (dR rQ) (dz rQ) (aU rQ),HK.gV "_law_tree" "_law_tree" (dR oH) (dz oH) (aU oH),HK.gV "_law_numbers" "_law_numbers" (dR t7) (dz t7) (aU t7),HK.gV "_law_rows" "_law_rows" (dR oJ) (dz oJ) (aU oJ),HK.gV "_law_due" "_law_due" (dR iG) (dz iG) (aU iG),HK.gV "_law_is_rows" "_law_is_rows" (dR rR) (dz rR) (aU rR),HK.gV "law" "law" (dR sLaw) (dz sLaw) (aU sLaw)],
   [some none,some none,some none,some none,some none,some none,some none,some none,some none,some none,some none,some none,some none,some none,some none,some none,some none,some none,some none,some none,some none],
   [])
theorem nF (h:us.length=[s0].length):∃a0,us=[a0]:=by obtain⟨a0,us,rfl⟩:=XR h;have h:=Pg h;rw[XQ.mp h];exact⟨a0,rfl⟩
theorem nG (h:us.length=[s0,s1].length):∃a0 a1,us=[a0,a1]:=by obtain⟨a0,us,rfl⟩:=XR h;have h:=Pg h;obtain⟨a1,us,rfl⟩:=XR h;have h:=Pg h;rw[XQ.mp h];exact⟨a0,a1,rfl⟩
theorem pZ {s2:Str}(h:us.length=[s0,s1,s2].length):∃a0 a1 a2,us=[a0,a1,a2]:=by obtain⟨a0,us,rfl⟩:=XR h;have h:=Pg h;obtain⟨a1,us,rfl⟩:=XR h;have h:=Pg h;obtain⟨a2,us,rfl⟩:=XR h;have h:=Pg h;rw[XQ.mp h];exact⟨a0,a1,a2,rfl⟩
theorem vD {s2 s3:Str}(h:us.length=[s0,s1,s2,s3].length):∃a0 a1 a2 a3,us=[a0,a1,a2,a3]:=by obtain⟨a0,us,rfl⟩:=XR h;have h:=Pg h;obtain⟨a1,us,rfl⟩:=XR h;have h:=Pg h;obtain⟨a2,us,rfl⟩:=XR h;have h:=Pg h;obtain⟨a3,us,rfl⟩:=XR h;have h:=Pg h;rw[XQ.mp h];exact⟨a0,a1,a2,a3,rfl⟩
theorem all_mk {l:PySem.W.OpenLaw}{w:Ws}{K:Xc}{h:Heap}{mg:Tj}{fa:We}(E:see K=told)(X:K.In h)(G:h.Ns Wg mg)(hfa:mg "law" = some (.ref fa)) :
  ∃fd:WA,(∀(s:Wd) (v:Wb),BindsTo s fd ⟨[v],[]⟩ [("_law_script",v)])/\∀base:Heap,K.In base->base.Ns Wg mg->aJ l.prog w K mg base bO 7 fa fd ["_law_script"] (bR K fLaw):=by
 have e1:=congrArg Prod.fst (E);have e2:=congrArg Prod.fst (congrArg Prod.snd (E));have e3:=congrArg Prod.snd (congrArg Prod.snd (E));have D0:HK.Def K "cells_of" "cells_of" tX (Xu K Wg "cells_of"):=HK.ju (Qa (HK.pick e1 0));have X0:Y1 K mg _ _:=⟨D0.fn,D0.fn.binds (ps:=["row","letters","wanted"]) λ_ _ _ _ _ _ us hl=>by obtain⟨_,_,_,rfl⟩:=pZ hl;rfl,Yn X G D0.ad⟩;have D1:HK.Def K "guide_of" "guide_of" tY (Xu K Wg "guide_of"):=HK.ju (Qa (HK.pick e1 1));have X1:Y3 K mg _ _:=⟨D1.fn,D1.fn.binds (ps:=["letters","rows","earlier","letter"]) λ_ _ _ _ _ _ us hl=>by obtain⟨_,_,_,_,rfl⟩:=vD hl;rfl,Yn X G D1.ad⟩;have D2:HK.Def K "longer" "longer" pJ (Xu K Wg "longer"):=HK.ju (Qa (HK.pick e1 2));have X2:Fx K mg "longer" pJ ["parts","earlier","guides"] _ _:=⟨D2.fn,D2.fn.binds (ps:=["parts","earlier","guides"]) λ_ _ _ _ _ _ us hl=>by obtain⟨_,_,_,rfl⟩:=pZ hl;rfl,Yn X G D2.ad⟩;have D3:HK.Def K "guides_to" "guides_to" qz (Xu K Wg "guides_to"):=HK.ju (Qa (HK.pick e1 3));have X3:Fx K mg "guides_to" qz ["shape","rows","earlier","letter"] _ _:=⟨D3.fn,D3.fn.binds (ps:=["shape","rows","earlier","letter"]) λ_ _ _ _ _ _ us hl=>by obtain⟨_,_,_,_,rfl⟩:=vD hl;rfl,Yn X G D3.ad⟩;have D4:HK.Def K "parts_along" "parts_along" tZ (Xu K Wg "parts_along"):=HK.ju (Qa (HK.pick e1 4));have X4:Fx K mg "parts_along" tZ ["shape","rows","order"] _ _:=⟨D4.fn,D4.fn.binds (ps:=["shape","rows","order"]) λ_ _ _ _ _ _ us hl=>by obtain⟨_,_,_,rfl⟩:=pZ hl;rfl,Yn X G D4.ad⟩;have D5:HK.Def K "letters_of" "letters_of" rN (Xu K Wg "letters_of"):=HK.ju (Qa (HK.pick e1 5));have X5:Fx K mg "letters_of" rN ["shape"] _ _:=⟨D5.fn,D5.fn.binds (ps:=["shape"]) λ_ _ _ _ _ _ us hl=>by obtain⟨_,rfl⟩:=nF hl;rfl,Yn X G D5.ad⟩;have D6:HK.Def K "patterns_with" "patterns_with" qC (Xu K Wg "patterns_with"):=HK.ju (Qa (HK.pick e1 6));have X6:Fx K mg "patterns_with" qC ["shape","letter"] _ _:=⟨D6.fn,D6.fn.binds (ps:=["shape","letter"]) λ_ _ _ _ _ _ us hl=>by obtain⟨_,_,rfl⟩:=nG hl;rfl,Yn X G D6.ad⟩;have D7:HK.Def K "shared_first" "shared_first" qD (Xu K Wg "shared_first"):=HK.ju (Qa (HK.pick e1 7));have X7:Fx K mg "shared_first" qD ["shape"] _ _:=⟨D7.fn,D7.fn.binds (ps:=["shape"]) λ_ _ _ _ _ _ us hl=>by obtain⟨_,rfl⟩:=nF hl;rfl,Yn X G D7.ad⟩;have D8:HK.Def K "answers" "answers" rO (Xu K Wg "answers"):=HK.ju (Qa (HK.pick e1 8));have X8:Fx K mg "answers" rO ["shape","rows"] _ _:=⟨D8.fn,D8.fn.binds (ps:=["shape","rows"]) λ_ _ _ _ _ _ us hl=>by obtain⟨_,_,rfl⟩:=nG hl;rfl,Yn X G D8.ad⟩;have D9:HK.Def K "children_of" "children_of" qF (Xu K Wg "children_of"):=HK.ju (Qa (HK.pick e1 9));have X9:Fx K mg "children_of" qF ["parents","i"] _ _:=⟨D9.fn,D9.fn.binds (ps:=["parents","i"]) λ_ _ _ _ _ _ us hl=>by obtain⟨_,_,rfl⟩:=nG hl;rfl,Yn X G D9.ad⟩;have D10:HK.Def K "walk" "walk" t6 (Xu K Wg "walk"):=HK.ju (Qa (HK.pick e1 10));have X10:Fx K mg "walk" t6 ["parents"] _ _:=⟨D10.fn,D10.fn.binds (ps:=["parents"]) λ_ _ _ _ _ _ us hl=>by obtain⟨_,rfl⟩:=nF hl;rfl,Yn X G D10.ad⟩;have D11:HK.Def K "held_by" "held_by" qG (Xu K Wg "held_by"):=HK.ju (Qa (HK.pick e1 11));have X11:Fx K mg "held_by" qG ["shape","rows","i","other"] _ _:=⟨D11.fn,D11.fn.binds (ps:=["shape","rows","i","other"]) λ_ _ _ _ _ _ us hl=>by obtain⟨_,_,_,_,rfl⟩:=vD hl;rfl,Yn X G D11.ad⟩;have D12:HK.Def K "reduced" "reduced" rP (Xu K Wg "reduced"):=HK.ju (Qa (HK.pick e1 12));have X12:Fx K mg "reduced" rP ["shape","rows","parents"] _ _:=⟨D12.fn,D12.fn.binds (ps:=["shape","rows","parents"]) λ_ _ _ _ _ _ us hl=>by obtain⟨_,_,_,rfl⟩:=pZ hl;rfl,Yn X G D12.ad⟩;have D13:HK.Def K "_law_mix" "_law_mix" lM (Xu K Wg "_law_mix"):=HK.ju (Qa (HK.pick e1 13));have X13:Y2 K mg _ _:=⟨D13.fn,D13.fn.binds (ps:=["_law_cell","_law_j"]) λ_ _ _ _ _ _ us hl=>by obtain⟨_,_,rfl⟩:=nG hl;rfl,Yn X G D13.ad⟩;have D14:HK.Def K "_law_letters" "_law_letters" rQ (Xu K Wg "_law_letters"):=HK.ju (Qa (HK.pick e1 14));have X14:Fx K mg "_law_letters" rQ ["_law_cell"] _ _:=⟨D14.fn,D14.fn.binds (ps:=["_law_cell"]) λ_ _ _ _ _ _ us hl=>by obtain⟨_,rfl⟩:=nF hl;rfl,Yn X G D14.ad⟩;have D15:HK.Def K "_law_tree" "_law_tree" oH (Xu K Wg "_law_tree"):=HK.ju (Qa (HK.pick e1 15));have X15:Fx K mg "_law_tree" oH ["_law_cell"] _ _:=⟨D15.fn,D15.fn.binds (ps:=["_law_cell"]) λ_ _ _ _ _ _ us hl=>by obtain⟨_,rfl⟩:=nF hl;rfl,Yn X G D15.ad⟩;have D16:HK.Def K "_law_numbers" "_law_numbers" t7 (Xu K Wg "_law_numbers"):=HK.ju (Qa (HK.pick e1 16));have X16:Fx K mg "_law_numbers" t7 ["_law_cell"] _ _:=⟨D16.fn,D16.fn.binds (ps:=["_law_cell"]) λ_ _ _ _ _ _ us hl=>by obtain⟨_,rfl⟩:=nF hl;rfl,Yn X G D16.ad⟩;have D17:HK.Def K "_law_rows" "_law_rows" oJ (Xu K Wg "_law_rows"):=HK.ju (Qa (HK.pick e1 17));have X17:Fx K mg "_law_rows" oJ ["_law_shape","_law_cells","_law_total"] _ _:=⟨D17.fn,D17.fn.binds (ps:=["_law_shape","_law_cells","_law_total"]) λ_ _ _ _ _ _ us hl=>by obtain⟨_,_,_,rfl⟩:=pZ hl;rfl,Yn X G D17.ad⟩;have D18:HK.Def K "_law_due" "_law_due" iG (Xu K Wg "_law_due"):=HK.ju (Qa (HK.pick e1 18));have X18:Fx K mg "_law_due" iG ["_law_shape","_law_rows_here"] _ _:=⟨D18.fn,D18.fn.binds (ps:=["_law_shape","_law_rows_here"]) λ_ _ _ _ _ _ us hl=>by obtain⟨_,_,rfl⟩:=nG hl;rfl,Yn X G D18.ad⟩;have D19:HK.Def K "_law_is_rows" "_law_is_rows" rR (Xu K Wg "_law_is_rows"):=HK.ju (Qa (HK.pick e1 19));have X19:Fx K mg "_law_is_rows" rR ["_law_found","_law_due_here"] _ _:=⟨D19.fn,D19.fn.binds (ps:=["_law_found","_law_due_here"]) λ_ _ _ _ _ _ us hl=>by obtain⟨_,_,rfl⟩:=nG hl;rfl,Yn X G D19.ad⟩;obtain⟨fl,oc,od,sl,kV,dc,pm,an,cd,ct,a,l,c,k,_⟩:=HK.yQ (v:=Xu K Wg "law") (n:="law") (q:="law") (a:=dR sLaw) (b:=dz sLaw) (c:=aU sLaw) (Qa (HK.pick e1 20));cases hfa.symm.trans (Yn X G a);have F20:=Hx (st:=sLaw) l c k;have B:Bl mg:=⟨XW X G (Qa (HK.pick e2 0)),XW X G (Qa (HK.pick e2 1)),XW X G (Qa (HK.pick e2 2)),XW X G (Qa (HK.pick e2 3)),XW X G (Qa (HK.pick e2 4)),XW X G (Qa (HK.pick e2 5)),XW X G (Qa (HK.pick e2 6)),XW X G (Qa (HK.pick e2 7)),XW X G (Qa (HK.pick e2 8)),XW X G (Qa (HK.pick e2 9)),XW X G (Qa (HK.pick e2 10)),XW X G (Qa (HK.pick e2 11)),XW X G (Qa (HK.pick e2 12)),XW X G (Qa (HK.pick e2 13)),XW X G (Qa (HK.pick e2 14)),XW X G (Qa (HK.pick e2 15)),XW X G (Qa (HK.pick e2 16)),XW X G (Qa (HK.pick e2 17)),XW X G (Qa (HK.pick e2 18)),XW X G (Qa (HK.pick e2 19)),XW X G (Qa (HK.pick e2 20))⟩;exact⟨O9 "law" "law" (dR sLaw) (dz sLaw) (aU sLaw) .none kV dc pm an cd ct,λs v=>.of_eq rfl,λbase _ _=>zvv F20 X15 ((ztf X15.fn X13 X14 B).mono (by decide)) X17 ((zsY X17.fn X13 X16 B).mono (by decide)) X18 (zvs X18.fn X8 (zmz X8.fn X0 X1 X2 X3 X4 X5 X6 X7 B) B) X12 ((zkt X12.fn X0 X9 X10 X11 B).mono (by decide)) X19 B⟩
def vw:Wo:={ PySem.Challenge.pw_joinwood_k21_reduced with main:={ PySem.Challenge.pw_joinwood_k21_reduced.main with body:=[sLaw] } }
def lo:List PySem.Str:=["__name__","cells_of","guide_of","longer","guides_to","parts_along","letters_of","patterns_with","shared_first","answers","children_of","walk","held_by","reduced","_law_mix","_law_letters","_law_tree","_law_numbers","_law_rows","_law_due","_law_is_rows"]
abbrev hk:PySem.W.Hook:=HK.hook see told
abbrev xt:Wd->Bool:=λs=>PySem.W.xlAt vw [] s&&PySem.W.recOk [] s
theorem ws:PySem.Challenge.rw_joinwood_k21_reduced.wellSaid=true:=by kernel_rfl
theorem hl:PySem.W.LeftO PySem.Challenge.pw_joinwood_k21_reduced vw lo xt hk.obs hk.val 20000:=by
 intro w
 kernel_rfl
end Q21
open PySem PySem.W
set_option maxRecDepth 100000 in
set_option maxHeartbeats 0 in
theorem PySem.Challenge.cw_joinwood_k21_reduced_holds : PySem.Challenge.rw_joinwood_k21_reduced.Holds := by
 refine holds_law Q21.ws fun said=>holds_open (r:=PySem.Challenge.rw_joinwood_k21_reduced.row) (Xt:=Q21.xt) (XP:=XL Q21.vw []) Q21.hl Q21.hk.of Q21.hk.keeps (fun s e=>xl_of s (Bool.and_eq_true_iff.mp e).1) XL.keeps rfl rfl rfl (fun s e=>recFacts_of (Bool.and_eq_true_iff.mp e).2) rfl said (by decide +kernel) ⟨rfl,rfl,rfl,rfl,rfl,by decide +kernel⟩ ?hw ?hc
 case hw=>w_witness2
 exact PL.zvZ (l:=PySem.Challenge.rw_joinwood_k21_reduced) (k:=7) (G:=fun K=>Q21.see K=Q21.told) (FL:=Q21.fLaw) (x:="_law_script") rfl rfl ⟨rfl,by decide,by decide⟩ Q21.zqM (fun w h Y=>Y) (fun w mg fa h K E KX G hmg=>Q21.all_mk E KX G hmg) Q21.zqN
#print axioms PySem.Challenge.cw_joinwood_k21_reduced_holds
