import PyProof.Rows.All
import Wide.All
import OpenK.AllK
import Wide.FinOn
import Lean
import PyProof.EqAt
import PyProof.EqKinds
import PyProof.TupleCall
import PyProof.NeKinds
import PyProof.AttrMissHeap
import PyProof.EnumMake
import PyProof.DictUpdate
import KE.KDictOf
import KE.KDictList
import PyProof.MaxThree
import PyProof.ListStr
import PyProof.ConsumeWalk
import PyProof.SliceStr2
import PyProof.StrBlockI
import PyProof.EnumStmt
import PyProof.ZipIter
import PyProof.Rows.CallKwBuiltin
import PyProof.Rows.SeqMore
import PyProof.Rows.SortRuns
import PyProof.Rows.SortPure
import PyProof.Rows.SortShell
import PyProof.Dict
import PyProof.TupleOfStr
import PyProof.Rows.StrRules
import PyProof.ExcBaseAll.ValueError
import PyProof.ExcArgsOwn
import PyProof.ExcAttrAll.ValueError
import KE.KIsAll
import PyProof.StrWalks
import PyProof.StrBlockH
import PyProof.Rows.CountFlat
import KE.KIntText
import KE.IntTextLaws
import PyProof.CallStr
import PyProof.StrOps2
import PyProof.Rows.StrItems
import PyProof.Rows.StrSplitAre
import PyProof.Rows.CatFin
import PyProof.Rows.StrClose
import PyProof.StrLawsIn
import KE.IntTextText
import KE.RegKIsAll
import PySem.Challenge.RW_joinwood_k62_rows_as_texts
set_option Elab.async false
set_option linter.all false
set_option maxRecDepth 100000
set_option maxHeartbeats 4000000
theorem aU0x (h:True:=by rfl):True:=h
abbrev aU0:Lean.Syntax:=aU0x._auto_1
theorem aU1x (h:True:=by decide):True:=h
abbrev aU1:Lean.Syntax:=aU1x._auto_1
theorem aU2x (h:True:=by first | exact zbn _ | rfl):True:=h
abbrev aU2:Lean.Syntax:=aU2x._auto_1
theorem aU3x (h:True:=by intro _;rfl):True:=h
abbrev aU3:Lean.Syntax:=aU3x._auto_1
theorem aU4x (h:True:=by first | exact .inl rfl | exact .inr rfl | assumption):True:=h
abbrev aU4:Lean.Syntax:=aU4x._auto_1
theorem aU5x (h:True:=by with_unfolding_all rfl):True:=h
abbrev aU5:Lean.Syntax:=aU5x._auto_1
theorem aU6x (h:True:=by first | exact Or.inl rfl | exact Or.inr (Or.inl rfl) | exact Or.inr (Or.inr rfl)):True:=h
abbrev aU6:Lean.Syntax:=aU6x._auto_1
theorem aU7x (h:True:=by exact λ_ _=>rfl):True:=h
abbrev aU7:Lean.Syntax:=aU7x._auto_1
theorem aU8x (h:True:=by exact⟨rfl,rfl,rfl,rfl⟩):True:=h
abbrev aU8:Lean.Syntax:=aU8x._auto_1
namespace L2
open PySem PySem.Spec PyProof.Rows
noncomputable abbrev Key:=Sum Int Str
noncomputable def zik:Key->Value->Bool
 | .inl k,v=>Value.isInt k v
 | .inr x,v=>Value.isStrOf x v
noncomputable def keyH (w:World):Key->Int
 | .inl k=>hashInt k
 | .inr x=>hashStr w x
theorem zaA:∀ {k:Key}{v:Value},zik k v=true->(∃i t,k=Sum.inl i/\v=Value.int i t)\/(∃x t,k=Sum.inr x/\v=Value.str x t)
 | .inl i,v,h=>by
  obtain⟨t,e⟩:=Value.isInt_shape (k:=i) (v:=v) h;exact .inl ⟨i,t,rfl,e⟩
 | .inr x,v,h=>by
  obtain⟨t,e⟩:=Value.isStrOf_shape (x:=x) (v:=v) h;exact .inr ⟨x,t,rfl,e⟩
theorem ziT (i:Int)(t:Tok):zik (.inl i) (.int i t)=true:=by simp[zik,Value.isInt]
theorem ziU (x:Str)(t:Tok):zik (.inr x) (.str x t)=true:=by simp[zik,Value.isStrOf]
theorem zol (a b:Int):decide ((Sum.inl a:Key)=Sum.inl b)=(a == b):=by
 by_cases e:a=b
 ·subst e;simp
 ·have h:¬ (Sum.inl a:Key)=Sum.inl b:=λq=>e (Sum.inl.inj q);rw[decide_eq_false h];exact(beq_eq_false_iff_ne.mpr e).symm
theorem zom (a b:Str):decide ((Sum.inr a:Key)=Sum.inr b)=decide (a=b):=by
 by_cases e:a=b
 ·subst e;simp
 ·have h:¬ (Sum.inr a:Key)=Sum.inr b:=λq=>e (Sum.inr.inj q);rw[decide_eq_false h,decide_eq_false e]
theorem zon (a:Int)(b:Str):decide ((Sum.inl a:Key)=Sum.inr b)=false:=decide_eq_false (λq=>nomatch q)
theorem zoo (a:Str)(b:Int):decide ((Sum.inr a:Key)=Sum.inl b)=false:=decide_eq_false (λq=>nomatch q)
noncomputable def zbm (prog:Program)(w:World):PySem.KeyKind prog w Key where
 is:=zik
 hash:=keyH w
 inj:=λv a b ha hb=>by
  rcases zaA ha with ⟨i,t,rfl,rfl⟩ | ⟨x,t,rfl,rfl⟩
  ·rcases zaA hb with ⟨j,u,rfl,e⟩ | ⟨y,u,rfl,e⟩
   ·injection e with e1 _;rw[e1]
   ·exact nomatch e
  ·rcases zaA hb with ⟨j,u,rfl,e⟩ | ⟨y,u,rfl,e⟩
   ·exact nomatch e
   ·injection e with e1 _;rw[e1]
 byValue:=λk v h=>by
  rcases zaA h with ⟨i,t,rfl,rfl⟩ | ⟨x,t,rfl,rfl⟩<;>rfl
 pyHash:=λhv h=>by
  rcases zaA hv with ⟨i,t,rfl,rfl⟩ | ⟨x,t,rfl,rfl⟩
  ·exact wpAny_pyHash_int h
  ·exact wpAny_pyHash_str h
 eqBool:=λhu hv h=>by
  rcases zaA hu with ⟨i,t,rfl,rfl⟩ | ⟨x,t,rfl,rfl⟩
  ·rcases zaA hv with ⟨j,u,rfl,rfl⟩ | ⟨y,u,rfl,rfl⟩
   ·rw[zol]at h;exact wpAny_eqBool_int h
   ·rw[zon]at h;exact SeqAt.EqAt.int_str i t y u _ _ _ _ h
  ·rcases zaA hv with ⟨j,u,rfl,rfl⟩ | ⟨y,u,rfl,rfl⟩
   ·rw[zoo]at h;exact SeqAt.EqAt.str_int x t j u _ _ _ _ h
   ·rw[zom]at h;exact wpAny_eqBool_str h
 «strs»:=λk x t v h=>by
  rcases zaA h with ⟨i,u,rfl,e⟩ | ⟨y,u,rfl,e⟩
  ·exact nomatch e
  ·injection e with e1 _;subst e1;cases v<;>rfl
theorem zgx (prog:Program)(w:World)(i:Int)(t:Tok):(zbm prog w).is (.inl i) (.int i t)=true:=ziT i t
theorem zgy (prog:Program)(w:World)(x:Str)(t:Tok):(zbm prog w).is (.inr x) (.str x t)=true:=ziU x t
inductive V where
 | non | bl (b:Bool) | int (i:Int) | str (x:Str) | byt (b:Array UInt8) | flt (b:UInt64) | ref (a:Addr) | ty (n:String)
 deriving DecidableEq
noncomputable def RelV:V->Value->Prop
 | .non,u=>u=Value.none
 | .bl b,u=>u=Value.bool b
 | .int i,u=>∃t,u=Value.int i t
 | .str x,u=>∃t,u=Value.str x t
 | .byt b,u=>∃t,u=Value.bytes b t
 | .flt b,u=>∃t,u=Value.float b t
 | .ref a,u=>u=Value.ref a
 | .ty n,u=>u=Value.type n
noncomputable abbrev Vals:List V->List Value->Prop:=Paired RelV
theorem Vals.length {xs:List V}{us:List Value}(r:Vals xs us):xs.length=us.length:=Paired.length r
theorem Vals.get:∀ {xs:List V}{us:List Value}{i:Nat}{x:V},Vals xs us->xs[i]? = some x->∃u,us[i]? = some u/\RelV x u
 | _,_,_,_,.nil,e=>by simp at e
 | _,_,0,_,.cons r _,e=>by simp at e;subst e;exact⟨_,rfl,r⟩
 | _,_,i+1,x,.cons _ t,e=>by
  obtain⟨u,h1,h2⟩:=Vals.get (i:=i) (x:=x) t (by simpa using e);exact⟨u,by simpa using h1,h2⟩
theorem Vals.append:∀ {xs ys:List V}{us ws:List Value},Vals xs us->Vals ys ws->Vals (xs++ys) (us++ws):=by
 intro xs ys us ws h s;induction h with
 | nil=>exact s
 | cons r t ih=>exact .cons r ih
theorem Vals.take:∀ {xs:List V}{us:List Value}(n:Nat),Vals xs us->Vals (xs.take n) (us.take n)
 | _,_,0,_=>.nil
 | _,_,_+1,.nil=>.nil
 | _,_,n+1,.cons r t=>.cons r (Vals.take n t)
theorem Vals.drop:∀ {xs:List V}{us:List Value}(n:Nat),Vals xs us->Vals (xs.drop n) (us.drop n)
 | _,_,0,r=>r
 | _,_,_+1,.nil=>.nil
 | _,_,n+1,.cons _ t=>Vals.drop n t
noncomputable def RelO:Option V->Option Value->Prop
 | some v,some u=>RelV v u
 | none,none=>True
 | _,_=>False
noncomputable def KV {κ:Type}:List (κ×V)->List (κ×Value)->Prop:=Paired λ(p:κ×V)(q:κ×Value)=>p.1=q.1/\RelV p.2 q.2
noncomputable def kV:Key->V
 | .inl i=>.int i
 | .inr x=>.str x
inductive HO where
  | lst (xs:List V)
  | tup (xs:List V)
  | dK (kvs:List (Key×V)) | dT (kvs:List (List Key×V))
  | set (S:Int->Bool) (n:Nat)
  | ins (C dx:Addr) (fs:List (Str×V))
  | own (x:Addr)
  | xd (fs:List (Str×V))
  | met (f x:Addr)
  | rng (lo hi:Int)
  | frz (o:Obj) (u:HO)
  | tbl (ps:Array Value)
  | ext (φ:Heap->Prop)
noncomputable abbrev Hp:=Addr->Option HO
noncomputable def upd (H:Hp)(a:Addr)(o:HO):Hp:=λb=>if b=a then some o else H b
theorem zat {H:Hp}{a:Addr}{o:HO}:upd H a o a=some o:=by unfold upd;rw[if_pos rfl]
theorem zao {H:Hp}{a b:Addr}{o:HO}(h:b≠a):upd H a o b=H b:=by unfold upd;rw[if_neg h]
theorem zav {H:Hp}{a b:Addr}{o:HO}(h:H a=some o)(h':H b=none):a≠b:=by
 intro e;subst e;rw[h]at h';cases h'
noncomputable def zcv (h:Heap)(a:Addr)(its:Array Value):Prop:=∃o,h.get? a=some o/\o.cls=.type "tuple"/\(∃n,o.data=.seq its n)/\o.dict=none
theorem zcv.tup {h:Heap}{a:Addr}{its:Array Value}(p:zcv h a its):IsTup h a its:=by obtain⟨o,e,c,⟨n,d⟩,_⟩:=p;exact⟨o,e,c,n,d⟩
theorem zcv.lt {h:Heap}{a:Addr}{its:Array Value}(p:zcv h a its):a<h.objs.size:=p.tup.lt
theorem zcv.new (h:Heap)(items:Array Value):zcv (h.push { cls:=.type "tuple",data:=.seq items }) h.objs.size items:=⟨_,Heap.get?_push_size _ rfl,rfl,⟨_,rfl⟩,rfl⟩
section
variable (P:Program)(w:World)
noncomputable def zby (H:Hp)(h:Heap)(a:Addr):HO->Prop
 | .lst xs=>xs.length<=sizeLine/\∃(its:List Value) (n:Nat),Vals xs its/\h.get? a=some { cls:=.type "list",data:=.seq its.toArray n }
 | .tup xs=>xs.length<=sizeLine/\∃its:List Value,Vals xs its/\zcv h a its.toArray
 | .dK kvs=>kvs.length<=sizeLine/\(a == sysModules)=false/\∃vs,KV kvs vs/\h.DictOf (zbm P w) a vs
 | .dT kvs=>kvs.length<=sizeLine/\(a == sysModules)=false/\∃xs:List (List Key×Addr×Value),
   Paired (λ(p:List Key×V) (q:List Key×Addr×Value)=>p.1=q.1/\H q.2.1=some (.tup (p.1.map kV))/\RelV p.2 q.2.2) kvs xs/\
   ∃o es ep,h.get? a=some o/\o.ExactDict/\o.data=.dict es ep/\es.toList=xs.map (entryOfKey (tupleKind (zbm P w)))/\(xs.map (·.1)).Nodup
 | .set S n=>h.SetOf (intKind P w) a S n
 | .ins C dx fs=>H dx=some (.own a)/\fs.length<=1000/\dx≠a/\h.get? a=some (PySem.W.instObj C dx)/\
   ∃mA,h.Ns1 dx mA/\(∀f,RelO (fs.lookup f) (mA f))/\PySem.Within mA (fs.map (·.1))
 | .own _=>∃o,h.get? a=some o
 | .xd fs=>∃mA,h.Ns1 a mA/\∀f,RelO (fs.lookup f) (mA f)
 | .rng lo hi=>∃t u v,h.get? a=some { cls:=.type "range",data:=.fields #[.int lo t,.int hi u,.int 1 v] }
 | .frz o u=>h.get? a=some o/\zby H h a u
 | .tbl ps=>h.get? a=some { cls:=.none,data:=.fields ps }
 | .met f x=>h.get? a=some (PySem.W.methodObj (.ref f) (.ref x))
 | .ext φ=>φ h/\(∃o,h.get? a=some o)/\∀h1 h2:Heap,φ h1->(∀o,h1.get? a=some o->h2.get? a=some o)->φ h2
noncomputable def HOk (H:Hp)(h:Heap):Prop:=∀a o,H a=some o->zby P w H h a o
end
section
variable {P:Program}{w:World}{H H':Hp}{h h':Heap}{a:Addr}{o:HO}
theorem zby.lt (x:zby P w H h a o):a<h.objs.size:=by
 cases o with
 | lst xs=>obtain⟨_,_,_,_,e⟩:=x;exact Heap.lt_size e
 | tup xs=>obtain⟨_,_,_,p⟩:=x;exact p.lt
 | dK kvs=>obtain⟨_,_,_,_,o,_,_,e,_⟩:=x;exact Heap.lt_size e
 | dT kvs=>obtain⟨_,_,_,_,o,_,_,e,_⟩:=x;exact Heap.lt_size e
 | set S n=>obtain⟨o,_,_,_,e,_⟩:=x;exact Heap.lt_size e
 | ins C dx fs=>obtain⟨_,_,_,e,_⟩:=x;exact Heap.lt_size e
 | own y=>obtain⟨_,e⟩:=x;exact Heap.lt_size e
 | xd fs=>obtain⟨_,⟨_,_,_,e,_⟩,_⟩:=x;exact Heap.lt_size e
 | rng lo hi=>obtain⟨_,_,_,e⟩:=x;exact Heap.lt_size e
 | frz ob u=>obtain⟨e,_⟩:=x;exact Heap.lt_size e
 | tbl ps=>exact Heap.lt_size (show h.get? a=some _ from x)
 | met f y=>exact Heap.lt_size (show h.get? a=some _ from x)
 | ext φ=>obtain⟨_,⟨_,e⟩,_⟩:=x;exact Heap.lt_size e
theorem Paired.mapP {α β:Type}{F G:α->β->Prop}:∀ {l₁:List α}{l₂:List β},Paired F l₁ l₂->(∀a b,F a b->G a b)->Paired G l₁ l₂:=by
 intro l₁ l₂ h f;induction h with
 | nil=>exact .nil
 | cons r t ih=>exact .cons (f _ _ r) ih
theorem zby.stay (x:zby P w H h a o)(k:∀b u,(b=a\/H b=some (.own a))->h.get? b=some u->h'.get? b=some u)
  (ho:∀b,H b=some (.own a)->H' b=some (.own a)) (ht:∀b xs,H b=some (.tup xs)->H' b=some (.tup xs)):zby P w H' h' a o:=by
 induction o with
 | lst xs=>obtain⟨z,its,n,r,e⟩:=x;exact⟨z,its,n,r,k _ _ (.inl rfl) e⟩
 | tup xs=>obtain⟨z,its,r,ob,e,c⟩:=x;exact⟨z,its,r,ob,k _ _ (.inl rfl) e,c⟩
 | dK kvs=>obtain⟨z,y,vs,r,ob,es,ep,e,c⟩:=x;exact⟨z,y,vs,r,ob,es,ep,k _ _ (.inl rfl) e,c⟩
 | dT kvs=>
  obtain⟨z,y,xs,r,ob,es,ep,e,c⟩:=x;exact⟨z,y,xs,Paired.mapP r λp q z=>⟨z.1,ht _ _ z.2.1,z.2.2⟩,ob,es,ep,k _ _ (.inl rfl) e,c⟩
 | set S n=>obtain⟨ob,es,ep,t,e,c⟩:=x;exact⟨ob,es,ep,t,k _ _ (.inl rfl) e,c⟩
 | ins C dx fs=>
  obtain⟨d,z,ne,e,mA,⟨od,es,ep,e2,c⟩,r⟩:=x;exact⟨ho _ d,z,ne,k _ _ (.inl rfl) e,mA,⟨od,es,ep,k _ _ (.inr d) e2,c⟩,r⟩
 | own y=>obtain⟨ob,e⟩:=x;exact⟨ob,k _ _ (.inl rfl) e⟩
 | xd fs=>obtain⟨mA,⟨od,es,ep,e,c⟩,r⟩:=x;exact⟨mA,⟨od,es,ep,k _ _ (.inl rfl) e,c⟩,r⟩
 | rng lo hi=>obtain⟨t,u,v,e⟩:=x;exact⟨t,u,v,k _ _ (.inl rfl) e⟩
 | frz ob u ih=>obtain⟨e,q⟩:=x;exact⟨k _ _ (.inl rfl) e,ih q⟩
 | tbl ps=>
  have e:h.get? a=some { cls:=.none,data:=.fields ps }:=x;show h'.get? a=some { cls:=.none,data:=.fields ps };exact k a _ (.inl rfl) e
 | met f y=>
  have e:h.get? a=some (PySem.W.methodObj (.ref f) (.ref y)):=x;show h'.get? a=some (PySem.W.methodObj (.ref f) (.ref y));exact k a _ (.inl rfl) e
 | ext φ=>obtain⟨p,⟨o,e⟩,st⟩:=x;exact⟨st _ _ p λo q=>k _ _ (.inl rfl) q,⟨o,k _ _ (.inl rfl) e⟩,st⟩
theorem HOk.lt (x:HOk P w H h)(e:H a=some o):a<h.objs.size:=(x a o e).lt
theorem HOk.fresh (x:HOk P w H h)(e:h.objs.size<=a):H a=none:=by
 cases q:H a with
 | none=>rfl
 | some u=>exact absurd (Nat.lt_of_lt_of_le (x.lt q) e) (Nat.lt_irrefl _)
theorem HOk.kept (x:HOk P w H h)(k:∀b u,h.get? b=some u->h'.get? b=some u):HOk P w H h':=λa o e=>
 (x a o e).stay (λb u _ q=>k b u q) (λ_ q=>q) λ_ _ q=>q
theorem HOk.laid (x:HOk P w H h)(k:∀b u,h.get? b=some u->h'.get? b=some u)(hp:h.objs.size<=a)(new:zby P w (upd H a o) h' a o):HOk P w (upd H a o) h':=λb u e=>by
 have hn:=x.fresh hp;by_cases hb:b=a
 ·subst hb;rw[zat]at e;cases e;exact new
 ·rw[zao hb]at e;exact(x b u e).stay (λc v _ q=>k c v q) (λc q=>by rw[zao (zav q hn)];exact q) λc xs q=>by rw[zao (zav q hn)];exact q
end
noncomputable def Rd (H:Hp)(a:Addr)(u:HO):Prop:=H a=some u\/∃o,H a=some (.frz o u)
theorem Rd.ok {P:Program}{w:World}{H:Hp}{h:Heap}{a:Addr}{u:HO}(r:Rd H a u)(x:HOk P w H h):zby P w H h a u:=by
 rcases r with r | ⟨o,r⟩
 ·exact x a u r
 ·obtain⟨_,q⟩:=x a _ r;exact q
noncomputable def Mut:Option HO->Prop
 | some (.lst _)=>True
 | some (.dK _)=>True
 | some (.dT _)=>True
 | some (.set _ _)=>True
 | some (.ins _ _ _)=>True
 | some (.ext _)=>True
 | _=>False
section
variable {P:Program}{w:World}{H:Hp}{h h':Heap}{x e:Addr}{o':HO}
theorem HOk.write (ok:HOk P w H h)(mu:Mut (H x))(he:e=x\/H e=some (.own x))(k:∀b u,b≠e->h.get? b=some u->h'.get? b=some u)(heo:∃u,h'.get? e=some u)
  (new:zby P w (upd H x o') h' x o'):HOk P w (upd H x o') h':=λb u q=>by
 have nown:∀c y,H c=some (.own y)->c≠x:=λc y r z=>by subst z;rw[r]at mu;exact mu
 have ntup:∀c xs,H c=some (.tup xs)->c≠x:=λc xs r z=>by subst z;rw[r]at mu;exact mu
 by_cases hb:b=x
 ·subst hb;rw[zat]at q;cases q;exact new
 ·rw[zao hb]at q;by_cases hbe:b=e
  ·have q':H b=some (.own x):=by
    rcases he with z | z
    ·exact absurd (hbe.trans z) hb
    ·rw[hbe];exact z
   rw[q]at q';cases q';obtain⟨v,hv⟩:=heo;exact⟨v,by rw[hbe];exact hv⟩
  ·refine(ok b u q).stay (λc v hc r=>k c v ?_ r) (λc r=>by rw[zao (nown c b r)];exact r) λc xs r=>by rw[zao (ntup c xs r)];exact r
   rcases hc with rfl | hc
   ·exact hbe
   ·rintro rfl;rcases he with z | z
    ·exact nown c b hc z
    ·rw[hc]at z;cases z;exact hb rfl
end
structure Un (fs ex:List Addr)(H H':Hp)(h h':Heap):Prop where
 keep:∀b o,h.get? b=some o->H b=none->b∉fs->b∉ex->h'.get? b=some o
 slot:∀b o,h.get? b=some o->H b=none->b∈fs->b∉ex->∃sl,h'.get? b=some { o with slots:=sl }
 free:∀b o,h.get? b=some o->H b=none->b∉ex->H' b=none
 there:∀b o,h.get? b=some o->b∉ex->∃o',h'.get? b=some o'
 tups:∀b xs,H b=some (.tup xs)->H' b=some (.tup xs)
 frzs:∀b o u,H b=some (.frz o u)->H' b=some (.frz o u)
 tbls:∀b ps,H b=some (.tbl ps)->∃more,H' b=some (.tbl (ps++more))
section
variable {fs fs' ex ex':List Addr}{H H1 H2:Hp}{h h1 h2 h':Heap}{a x e:Addr}{o:HO}
theorem Un.any (u:Un fs ex H H1 h h1){b:Addr}{ob:Obj}(q:h.get? b=some ob)(n:H b=none)(hx:b∉ex):∃sl,h1.get? b=some { ob with slots:=sl }:=by
 by_cases hb:b∈fs
 ·exact u.slot b ob q n hb hx
 ·exact⟨ob.slots,u.keep b ob q n hb hx⟩
theorem Un.trans (a:Un fs ex H H1 h h1)(b:Un fs ex H1 H2 h1 h2):Un fs ex H H2 h h2 where
 keep:=λc ob q n hc hx=>b.keep c ob (a.keep c ob q n hc hx) (a.free c ob q n hx) hc hx
 slot:=λc ob q n hc hx=>by
  obtain⟨sl,e1⟩:=a.slot c ob q n hc hx;obtain⟨sl',e2⟩:=b.slot c _ e1 (a.free c ob q n hx) hc hx;exact⟨sl',e2⟩
 free:=λc ob q n hx=>by
  obtain⟨o',e1⟩:=a.there c ob q hx;exact b.free c o' e1 (a.free c ob q n hx) hx
 there:=λc ob q hx=>by
  obtain⟨o',e1⟩:=a.there c ob q hx;exact b.there c o' e1 hx
 tups:=λc xs q=>b.tups c xs (a.tups c xs q)
 frzs:=λc ob xs q=>b.frzs c ob xs (a.frzs c ob xs q)
 tbls:=λc ps q=>by
  obtain⟨m1,e1⟩:=a.tbls c ps q;obtain⟨m2,e2⟩:=b.tbls c _ e1;exact⟨m1++m2,by rw[e2,Array.append_assoc]⟩
theorem Un.kept (k:∀b u,h.get? b=some u->h'.get? b=some u):Un fs ex H H h h':=
 ⟨λb ob q _ _ _=>k b ob q,λb ob q _ _ _=>⟨ob.slots,k b ob q⟩,λ_ _ _ n _=>n,λb ob q _=>⟨ob,k b ob q⟩,λ_ _ q=>q,λ_ _ _ q=>q,λ_ ps q=>⟨#[],by rw[q];simp⟩⟩
theorem Un.refl:Un fs ex H H h h:=Un.kept λ_ _ q=>q
theorem Un.laid (k:∀b u,h.get? b=some u->h'.get? b=some u)(hp:h.objs.size<=a)(hn:H a=none):Un fs ex H (upd H a o) h h' where
 keep:=λb u q _ _ _=>k b u q
 slot:=λb u q _ _ _=>⟨u.slots,k b u q⟩
 free:=λb u q n _=>by rw[zao (Nat.ne_of_lt (Nat.lt_of_lt_of_le (Heap.lt_size q) hp))];exact n
 there:=λb u q _=>⟨u,k b u q⟩
 tups:=λb xs q=>by rw[zao (zav q hn)];exact q
 frzs:=λb u xs q=>by rw[zao (zav q hn)];exact q
 tbls:=λb ps q=>⟨#[],by rw[zao (zav q hn),q];simp⟩
theorem Un.write (mu:Mut (H x))(he:e=x\/H e=some (.own x))(k:∀b u,b≠e->h.get? b=some u->h'.get? b=some u)(heo:∃u,h'.get? e=some u):Un fs ex H (upd H x o) h h':=by
 have hx:∀b,H b=none->b≠x:=λb n z=>by subst z;rw[n]at mu;exact mu
 have hb:∀b,H b=none->b≠e:=λb n z=>by
  subst z;rcases he with r | r
  ·exact hx b n r
  ·rw[n]at r;cases r
 have hm:∀b u,H b=some u->¬ Mut (some u)->b≠x:=λb u q nm z=>by subst z;rw[q]at mu;exact nm mu
 refine⟨λb u q n _ _=>k b u (hb b n) q,λb u q n _ _=>⟨u.slots,k b u (hb b n) q⟩,λb u q n _=>by rw[zao (hx b n)];exact n,λb u q _=>?_,
  λb xs q=>by rw[zao (hm b _ q λz=>z)];exact q,λb u xs q=>by rw[zao (hm b _ q λz=>z)];exact q,λb ps q=>⟨#[],by rw[zao (hm b _ q λz=>z),q];simp⟩⟩
 by_cases hbe:b=e
 ·subst hbe;exact heo
 ·exact⟨u,k b u hbe q⟩
theorem Un.mono (u:Un fs ex H H1 h h1)(hs:∀b∈fs,b∈fs')(hx:∀b∈ex,b∈ex'):Un fs' ex' H H1 h h1:=
 ⟨λb ob q n hb he=>u.keep b ob q n (λz=>hb (hs b z)) λz=>he (hx b z),λ_ _ q n _ he=>u.any q n λz=>he (hx _ z),λb ob q n he=>u.free b ob q n λz=>he (hx b z),λb ob q he=>u.there b ob q λz=>he (hx b z),u.tups,u.frzs,u.tbls⟩
end
noncomputable def trk (h:Heap)(H:Hp):List Addr:=(List.range h.objs.size).filter λa=>(H a).isSome
noncomputable def hidT (h:Heap)(H:Hp):Heap:=PySem.W.hideAll h (trk h H)
theorem ziV (h:Heap)(H:Hp):(hidT h H).objs.size=h.objs.size:=PySem.W.hideAll_size _ _
theorem zlh {h:Heap}{H:Hp}{b:Addr}{o:Obj}(e:h.get? b=some o)(n:H b=none):(hidT h H).get? b=some o:=
 PySem.W.hideAll_get _ e λhm=>by
  have q:(H b).isSome=true:=(List.mem_filter.mp hm).2;rw[n]at q;simp at q
theorem zmT {h:Heap}{H:Hp}{b:Addr}{o:Obj}(e:(hidT h H).get? b=some o):h.get? b=some o/\H b=none:=by
 have e':h.get? b=some o:=PySem.W.of_hideAll (trk h H) e;refine⟨e',?_⟩;cases q:H b with
 | none=>rfl
 | some x=>
  have hm:b∈trk h H:=List.mem_filter.mpr ⟨List.mem_range.mpr (Heap.lt_size e'),by simp[q]⟩;have z:(hidT h H).get? b=none:=PySem.W.hideAll_none (trk h H) hm;rw[z]at e;cases e
noncomputable def zmU (g h:Heap)(L:Addr):List (Addr×Obj):=(List.range h.objs.size).filterMap λa=>if a=L\/(g.get? a).isSome=true then none else(h.get? a).map λo=>(a,o)
noncomputable def rest (g h:Heap)(L d:Addr):List (Addr×Obj):=(zmU g h L).filter λp=>decide (p.1≠d)
structure Mod (K:PySem.W.Frag)(mg:Str->Option Value)(base:Heap):Prop where
 kin:K.In base
 glob:base.Ns mainGlobals mg
 blt:∃mb,base.Ns builtinsNs mb/\∀x:Str,x≠"__name__"->mb x=bootBuiltins x
 nolimit:base.NoLimit
structure Cx where
 prog:Program
 w:World
 K:PySem.W.Frag
 mg:Str->Option Value
 base:Heap
 A:Around
 N:List Str
 s₀:Shared
 H₀:Hp
 env:Env
 outer:List Env
 stack:List Env
 ex:List Addr
 fn:Str->Bool
 calm:Bool
 pn:List (Addr×Obj)
 xe:Value->Shared->Prop
noncomputable def frs (l:List Env):List Addr:=l.filterMap (·.frame)
noncomputable abbrev Cx.fs (X:Cx):List Addr:=frs X.outer
noncomputable def Vis (sc:Scope)(x:Str):Prop:=sc.names.lookup x=some .local\/sc.names.lookup x=some .cell\/sc.names.lookup x=some .free
noncomputable def Loc (sc:Scope)(x:Str):Prop:=sc.names.lookup x=some .local\/sc.names.lookup x=some .cell
noncomputable def Look (env:Env)(h:Heap)(m:Str->Option Value)(x:Str)(u:Value):Prop:=
 (env.kindOf x=some .local/\m x=some u)\/((env.kindOf x=some .cell\/env.kindOf x=some .free)/\∃c,env.cells.lookup x=some c/\h.IsCell c (some u))
structure Cx.Ok (X:Cx):Prop where
 mod:Mod X.K X.mg X.base
 kind:X.env.scope.kind=.function
 glob:X.env.globals=mainGlobals
 blt:X.env.builtins=builtinsNs
 above:X.s₀.heap.objs.size<=X.env.locals
 inj:∀x y c,X.env.cells.lookup x=some c->X.env.cells.lookup y=some c->x=y
 has:∀x,(X.env.kindOf x=some .cell\/X.env.kindOf x=some .free)->∃c,X.env.cells.lookup x=some c
 cab:∀x c,X.fn x=true->X.env.cells.lookup x=some c->X.s₀.heap.objs.size<=c
 hd:X.calm=true->X.A.handled=none
 frames:X.A.frames=some X.stack
 stk:X.stack=X.outer\/(X.stack=X.env::X.outer/\X.env.frame=some X.env.locals)
 exf:∀b∈X.ex,b≠X.env.locals/\∀x c,X.env.cells.lookup x=some c->c≠b
 bs:∀b o,X.base.get? b=some o->X.s₀.heap.get? b=some o/\X.H₀ b=none
 bsz:X.base.objs.size<=X.s₀.heap.objs.size
 noex:∀b o,X.base.get? b=some o->b∉X.ex
 exfs:∀b∈X.ex,b∉X.fs
 funs:X.s₀.heap.FunFrames X.base X.outer
 frf:∀b∈X.fs,X.H₀ b=none
structure Inv (X:Cx)(pins:List (Addr×Obj))(σ:List (Option V))(H:Hp)(s:Shared):Prop where
 ok:X.Ok
 os:s.os=X.s₀.os
 bare:AllBare s.gens
 base:Un X.fs X.ex X.H₀ H X.s₀.heap s.heap
 loc:∃m,s.heap.Ns X.env.locals m/\∀(i:Nat) (x:Str) (v:V),X.N[i]? = some x->σ[i]? = some (some v)->Vis X.env.scope x->∃u,RelV v u/\Look X.env s.heap m x u
 cell:∀x c,X.env.cells.lookup x=some c->∃v,s.heap.IsCell c v
 free:H X.env.locals=none
 freeC:∀x c,X.env.cells.lookup x=some c->H c=none
 pin:∀p∈X.pn++pins,s.heap.get? p.1=some p.2/\H p.1=none/\p.1≠X.env.locals/\p.1∉X.fs/\∀v,p.2.data≠.cell v
 hok:HOk X.prog X.w H s.heap
 len:σ.length=X.N.length
section
variable {X:Cx}{pins:List (Addr×Obj)}{σ:List (Option V)}{H H':Hp}{s:Shared}{h':Heap}
theorem Cx.Ok.nofr (ok:X.Ok){b:Addr}{o:Obj}(e:X.base.get? b=some o):b∉X.fs:=λhb=>by
 have:=(ok.funs.mem hb).1;rw[e]at this;cases this
theorem Inv.bs (I:Inv X pins σ H s):∀b o,X.base.get? b=some o->s.heap.get? b=some o/\H b=none:=λb o e=>
 ⟨I.base.keep b o (I.ok.bs b o e).1 (I.ok.bs b o e).2 (I.ok.nofr e) (I.ok.noex b o e),I.base.free b o (I.ok.bs b o e).1 (I.ok.bs b o e).2 (I.ok.noex b o e)⟩
theorem Inv.bk (I:Inv X pins σ H s):∀b o,X.base.get? b=some o->s.heap.get? b=some o:=λb o e=>(I.bs b o e).1
theorem Inv.mod (I:Inv X pins σ H s):Mod X.K X.mg X.base:=I.ok.mod
theorem Inv.kIn (I:Inv X pins σ H s):X.K.In s.heap:=I.ok.mod.kin.keeps I.bk
theorem Inv.lt (I:Inv X pins σ H s):X.env.locals<s.heap.objs.size:=let ⟨_,hn,_⟩:=I.loc;hn.lt
theorem Inv.sz (I:Inv X pins σ H s):X.s₀.heap.objs.size<=s.heap.objs.size:=Nat.le_trans I.ok.above (Nat.le_of_lt I.lt)
theorem Inv.nofs (I:Inv X pins σ H s){a:Addr}(h:s.heap.objs.size<=a):a∉X.fs:=λhb=>by
 obtain⟨_,o,ho,_⟩:=I.ok.funs.mem hb;exact absurd (Nat.lt_of_lt_of_le (Heap.lt_size ho) (Nat.le_trans I.sz h)) (Nat.lt_irrefl _)
theorem Inv.cne (I:Inv X pins σ H s):∀x c,X.env.cells.lookup x=some c->c≠X.env.locals:=λx c e z=>by
 obtain⟨v,o,ho,hd⟩:=I.cell x c e;obtain⟨m,⟨o',es,ep,ho',hd',_⟩,_⟩:=I.loc;rw[z,ho']at ho;cases ho;rw[hd']at hd;cases hd
theorem Inv.funs (I:Inv X pins σ H s):s.heap.FunFrames X.base X.outer:=by
 have all:∀(l:List Env),(∀b∈frs l,b∈X.fs)->X.s₀.heap.FunFrames X.base l->s.heap.FunFrames X.base l:=by
  intro l;induction l with
  | nil=>intro _ _;trivial
  | cons env r ih=>
   intro hs hl;obtain⟨hk,⟨L,o,hf,hn,ho,hd⟩,hr⟩:=hl;have hL:L∈X.fs:=hs L (by unfold frs;rw[List.filterMap_cons,hf];exact List.mem_cons_self);obtain⟨sl,e⟩:=I.base.slot L o ho (I.ok.frf L hL) hL λz=>I.ok.exfs L z hL;exact⟨hk,⟨L,_,hf,hn,e,hd⟩,ih (λb hb=>hs b (by unfold frs;rw[List.filterMap_cons,hf];exact List.mem_cons_of_mem _ hb)) hr⟩
 exact all X.outer (λ_ hb=>hb) I.ok.funs
theorem Inv.stack (I:Inv X pins σ H s):s.heap.FunFrames X.base X.stack:=by
 rcases I.ok.stk with e | ⟨e,hf⟩
 ·rw[e];exact I.funs
 ·rw[e];obtain⟨m,hn,_⟩:=I.loc;refine .cons (by rw[I.ok.kind];decide) hf hn ?_ I.funs;exact Heap.get?_none_of_le (Nat.le_trans I.ok.bsz I.ok.above)
theorem Inv.ziW (I:Inv X pins σ H s):∀b∈frs X.stack,b∈X.env.locals::X.fs:=λb hb=>by
 rcases I.ok.stk with e | ⟨e,hf⟩
 ·rw[e]at hb;exact List.mem_cons_of_mem _ hb
 ·rw[e]at hb;unfold frs at hb;rw[List.filterMap_cons,hf]at hb;exact hb
theorem Inv.zgz (I:Inv X pins σ H s):∀b∈frs X.stack,H b=none:=λb hb=>by
 rcases List.mem_cons.mp (I.ziW b hb)with e | hb
 ·rw[e];exact I.free
 ·obtain⟨_,o,ho,_⟩:=I.ok.funs.mem hb;exact I.base.free b o ho (I.ok.frf b hb) λz=>I.ok.exfs b z hb
theorem Inv.step {g':Array GenState}{t':Nat}{d':Drawn}{ch:List Addr}(I:Inv X pins σ H s)
  (hch:∀b∈ch,(b∈X.ex\/X.s₀.heap.objs.size<=b)/\b≠X.env.locals/\(∀x c,X.env.cells.lookup x=some c->c≠b)/\∀p∈X.pn++pins,p.1≠b)
  (keep:∀b o,b≠X.env.locals->b∉X.fs->b∉ch->s.heap.get? b=some o->H b=none->h'.get? b=some o)
  (slot:∀b o,b≠X.env.locals->b∈X.fs->b∉ch->s.heap.get? b=some o->H b=none->∃sl,h'.get? b=some { o with slots:=sl }) (free:∀b o,b∉ch->s.heap.get? b=some o->H b=none->H' b=none)
  (there:∀b o,b∉ch->s.heap.get? b=some o->∃o',h'.get? b=some o')
  (tups:∀b xs,H b=some (.tup xs)->H' b=some (.tup xs)) (frzs:∀b o u,H b=some (.frz o u)->H' b=some (.frz o u)) (tbls:∀b ps,H b=some (.tbl ps)->∃more,H' b=some (.tbl (ps++more)))
  (ns:∀m,s.heap.Ns X.env.locals m->h'.Ns X.env.locals m) (hok:HOk X.prog X.w H' h') (hg:AllBare g') :
  Inv X pins σ H' { s with heap:=h',gens:=g',drawn:=d',toks:=t' }:=by
 have neL:∀b o,X.s₀.heap.get? b=some o->b≠X.env.locals:=λb o e=>Nat.ne_of_lt (Nat.lt_of_lt_of_le (Heap.lt_size e) I.ok.above);have neC:∀b o,X.s₀.heap.get? b=some o->b∉X.ex->b∉ch:=λb o e hx hb=>by
  rcases(hch b hb).1 with z | z
  ·exact hx z
  ·exact absurd (Nat.lt_of_lt_of_le (Heap.lt_size e) z) (Nat.lt_irrefl _)
 have cellK:∀x c,X.env.cells.lookup x=some c->∀v,s.heap.IsCell c v->h'.IsCell c v:=λx c e v ⟨o,ho,hd⟩=>by
  have nch:c∉ch:=λz=>(hch c z).2.2.1 x c e rfl;by_cases hc:c∈X.fs
  ·obtain⟨sl,q⟩:=slot c o (I.cne x c e) hc nch ho (I.freeC x c e);exact⟨_,q,hd⟩
  ·exact⟨o,keep c o (I.cne x c e) hc nch ho (I.freeC x c e),hd⟩
 refine⟨I.ok,I.os,hg,⟨λb o e n hb hx=>?_,λb o e n hb hx=>?_,λb o e n hx=>?_,λb o e hx=>?_,λb xs e=>tups b xs (I.base.tups b xs e),λb o xs e=>frzs b o xs (I.base.frzs b o xs e),λb ps e=>?_⟩,?_,λx c e=>?_,?_,λx c e=>?_,λp hp=>?_,hok,I.len⟩
 ·exact keep b o (neL b o e) hb (neC b o e hx) (I.base.keep b o e n hb hx) (I.base.free b o e n hx)
 ·obtain⟨sl,e1⟩:=I.base.slot b o e n hb hx;obtain⟨sl',e2⟩:=slot b _ (neL b o e) hb (neC b o e hx) e1 (I.base.free b o e n hx);exact⟨sl',e2⟩
 ·obtain⟨o',e1⟩:=I.base.there b o e hx;exact free b o' (neC b o e hx) e1 (I.base.free b o e n hx)
 ·obtain⟨o',e1⟩:=I.base.there b o e hx;exact there b o' (neC b o e hx) e1
 ·obtain⟨m1,e1⟩:=I.base.tbls b ps e;obtain⟨m2,e2⟩:=tbls b _ e1;exact⟨m1++m2,by rw[e2,Array.append_assoc]⟩
 ·obtain⟨m,hn,hl⟩:=I.loc;refine⟨m,ns m hn,λi x v e1 e2 e3=>?_⟩;obtain⟨u,r,l⟩:=hl i x v e1 e2 e3;refine⟨u,r,?_⟩;rcases l with l | ⟨k,c,e,z⟩
  ·exact .inl l
  ·exact .inr ⟨k,c,e,cellK x c e _ z⟩
 ·obtain⟨v,z⟩:=I.cell x c e;exact⟨v,cellK x c e v z⟩
 ·obtain⟨m,⟨o,_,_,ho,_⟩,_⟩:=I.loc;exact free _ o (λz=>(hch _ z).2.1 rfl) ho I.free
 ·obtain⟨v,o,ho,hd⟩:=I.cell x c e;exact free c o (λz=>(hch c z).2.2.1 x c e rfl) ho (I.freeC x c e)
 ·obtain⟨e,n,ne,nf,d⟩:=I.pin p hp;have nch:p.1∉ch:=λz=>(hch p.1 z).2.2.2 p hp rfl;exact⟨keep p.1 p.2 ne nf nch e n,free p.1 p.2 nch e n,ne,nf,d⟩
theorem Inv.un {t':Nat}(I:Inv X pins σ H s)(u:Un X.fs [] H H' s.heap h')(hok:HOk X.prog X.w H' h'):Inv X pins σ H' { s with heap:=h',toks:=t' }:=by
 obtain⟨m,⟨o,es,ep,ho,r⟩,_⟩:=id I.loc;obtain⟨sl,hL⟩:=u.any ho I.free (by simp);exact I.step (g':=s.gens) (d':=s.drawn) (ch:=[]) (λ_ z=>nomatch z) (λb o _ hb _ e n=>u.keep b o e n hb (by simp)) (λb o _ hb _ e n=>u.slot b o e n hb (by simp)) (λb o _ e n=>u.free b o e n (by simp)) (λb o _ e=>u.there b o e (by simp)) u.tups u.frzs u.tbls (λm' hm=>by
  obtain⟨o',es',ep',ho',r'⟩:=hm;rw[ho]at ho';cases ho';exact⟨_,es',ep',hL,r'⟩) hok I.bare
theorem Inv.call {g':Array GenState}{t':Nat}{d':Drawn}{ch:List Addr}(I:Inv X pins σ H s)(u:Un (frs X.stack) ch H H' s.heap h')(hok:HOk X.prog X.w H' h')(hg:AllBare g')
  (hch:∀b∈ch,(b∈X.ex\/X.s₀.heap.objs.size<=b)/\b≠X.env.locals/\(∀x c,X.env.cells.lookup x=some c->c≠b)/\∀p∈X.pn++pins,p.1≠b) :
  Inv X pins σ H' { s with heap:=h',gens:=g',drawn:=d',toks:=t' }:=by
 obtain⟨m,⟨o,es,ep,ho,r⟩,_⟩:=id I.loc;obtain⟨sl,hL⟩:=u.any ho I.free λz=>(hch _ z).2.1 rfl;exact I.step (ch:=ch) hch (λb o hL hb hc e n=>u.keep b o e n (λz=>(List.mem_cons.mp (I.ziW b z)).elim hL hb) hc) (λb o _ _ hc e n=>u.any e n hc) (λb o hc e n=>u.free b o e n hc) (λb o hc e=>u.there b o e hc) u.tups u.frzs u.tbls (λm' hm=>by
  obtain⟨o',es',ep',ho',r'⟩:=hm;rw[ho]at ho';cases ho';exact⟨_,es',ep',hL,r'⟩) hok hg
theorem Inv.turned {t':Nat}{it:Addr}(I:Inv X pins σ H s)(k:∀b o,b≠it->s.heap.get? b=some o->h'.get? b=some o)(hn:H it=none)(hL:it≠X.env.locals)
  (h1:it∈X.ex\/X.s₀.heap.objs.size<=it) (h2:∀x c,X.env.cells.lookup x=some c->c≠it) (h3:∀p∈X.pn++pins,p.1≠it):Inv X pins σ H { s with heap:=h',toks:=t' }:=by
 have nit:∀b u,H b=some u->b≠it:=λb u e z=>by rw[z,hn]at e;cases e
 refine I.step (g':=s.gens) (d':=s.drawn) (ch:=[it]) (λb hb=>?_) (λb o _ _ hc e _=>k b o (λz=>hc (by simp[z])) e) (λb o _ _ hc e _=>⟨o.slots,k b o (λz=>hc (by simp[z])) e⟩) (λ_ _ _ _ n=>n)
  (λb o hc e=>⟨o,k b o (λz=>hc (by simp[z])) e⟩) (λ_ _ e=>e) (λ_ _ _ e=>e) (λb ps e=>⟨#[],by rw[e];simp⟩) (λm hm=>?_) (λb u e=>?_) I.bare
 ·have e:b=it:=by simpa using hb
  subst e;exact⟨h1,hL,h2,h3⟩
 ·obtain⟨o,es,ep,ho,r⟩:=hm;exact⟨o,es,ep,k _ o (Ne.symm hL) ho,r⟩
 ·refine(I.hok b u e).stay (λc v hc q=>k c v ?_ q) (λ_ q=>q) λ_ _ q=>q;rcases hc with z | z
  ·rw[z];exact nit b u e
  ·exact nit c _ z
theorem Inv.tok (I:Inv X pins σ H s)(t:Nat):Inv X pins σ H { s with toks:=t }:=I.un (h':=s.heap) (t':=t) Un.refl I.hok
theorem Inv.kept {t':Nat}(I:Inv X pins σ H s)(k:∀b u,s.heap.get? b=some u->h'.get? b=some u):Inv X pins σ H { s with heap:=h',toks:=t' }:=I.un (Un.kept k) (I.hok.kept k)
theorem Inv.laid {a:Addr}{o:HO}{t':Nat}(I:Inv X pins σ H s)(k:∀b u,s.heap.get? b=some u->h'.get? b=some u)(hp:s.heap.objs.size<=a)(new:zby X.prog X.w (upd H a o) h' a o) :
  Inv X pins σ (upd H a o) { s with heap:=h',toks:=t' }:=I.un (Un.laid k hp (I.hok.fresh hp)) (I.hok.laid k hp new)
theorem Inv.write {x e:Addr}{o:HO}{t':Nat}(I:Inv X pins σ H s)(mu:Mut (H x))(he:e=x\/H e=some (.own x))(k:∀b u,b≠e->s.heap.get? b=some u->h'.get? b=some u)(heo:∃u,h'.get? e=some u)
  (new:zby X.prog X.w (upd H x o) h' x o):Inv X pins σ (upd H x o) { s with heap:=h',toks:=t' }:=I.un (Un.write mu he k heo) (I.hok.write mu he k heo new)
theorem Inv.ziX {pins':List (Addr×Obj)}(I:Inv X pins σ H s)(h:∀p∈pins',s.heap.get? p.1=some p.2/\H p.1=none/\p.1≠X.env.locals/\p.1∉X.fs/\∀v,p.2.data≠.cell v):Inv X pins' σ H s:=
 ⟨I.ok,I.os,I.bare,I.base,I.loc,I.cell,I.free,I.freeC,λp hp=>(List.mem_append.mp hp).elim (λz=>I.pin p (List.mem_append_left _ z)) (h p),I.hok,I.len⟩
theorem zeN {N:List Str}(hN:N.Nodup){i j:Nat}{x:Str}(a:N[i]? = some x)(b:N[j]? = some x):i=j:=by
 obtain⟨h1,e1⟩:=List.getElem?_eq_some_iff.mp a;obtain⟨h2,e2⟩:=List.getElem?_eq_some_iff.mp b;exact(List.getElem_inj hN).mp (e1.trans e2.symm)
theorem zcw {M:Model}{A:Around}{E:Value->Shared->Prop}{i:Nat}{x:Str}{v:V}{u:Value}{Q:Unit->Shared->Prop}(I:Inv X pins σ H s)(hN:X.N.Nodup)(hi:X.N[i]? = some x)(hx:Loc X.env.scope x)(r:RelV v u)
  (h:∀s',Inv X pins (σ.set i (some v)) H s'->(∃a,Heap.SameBut a s.heap s'.heap/\(a=X.env.locals\/X.env.cells.lookup x=some a))->Q () s') (hf:autoParam (X.fn x=true\/X.env.scope.names.lookup x=some .local) aU4):wpAny M A (storeName X.env x u) Q E s:=by
 obtain⟨m,hn,hl⟩:=id I.loc;have hcls:(X.env.scope.kind == .class||(X.env.scope.kind == .module&&X.env.locals != X.env.globals))=false:=by rw[I.ok.kind];rfl
 have hiσ:i<σ.length:=by rw[I.len];exact(List.getElem?_eq_some_iff.mp hi).1
 have cne:=I.cne;have tracked:∀ {a:Addr} {h':Heap},(∃o,s.heap.get? a=some o/\H a=none)->Heap.SameBut a s.heap h'->HOk X.prog X.w H h':=λ{a h'} ha hs b ob e=>by
  obtain⟨_,_,hfree⟩:=ha;refine(I.hok b ob e).stay (λc w' hc q=>(hs.2 c ?_).trans q) (λ_ q=>q) λ_ _ q=>q;rintro rfl;rcases hc with rfl | hc
  ·rw[hfree]at e;cases e
  ·rw[hfree]at hc;cases hc
 rcases hx with hk | hk
 ·refine wpAny_storeName_local hk hn (λh' hn' hs=>?_) hcls;obtain⟨oL,_,_,hoL,_⟩:=id hn;refine h _ ⟨I.ok,I.os,I.bare,⟨λb o e n hb hx=>?_,λb o e n hb hx=>?_,I.base.free,λb o e hx=>?_,I.base.tups,I.base.frzs,I.base.tbls⟩,⟨_,hn',λj y v' e1 e2 e3=>?_⟩,λy c e=>?_,I.free,I.freeC,λp hp=>?_,tracked ⟨oL,hoL,I.free⟩ hs,by simpa using I.len⟩ ⟨_,hs,.inl rfl⟩
  ·exact(hs.2 b (Nat.ne_of_lt (Nat.lt_of_lt_of_le (Heap.lt_size e) I.ok.above))).trans (I.base.keep b o e n hb hx)
  ·obtain⟨sl,e1⟩:=I.base.slot b o e n hb hx;exact⟨sl,(hs.2 b (Nat.ne_of_lt (Nat.lt_of_lt_of_le (Heap.lt_size e) I.ok.above))).trans e1⟩
  ·obtain⟨o',e1⟩:=I.base.there b o e hx;exact⟨o',(hs.2 b (Nat.ne_of_lt (Nat.lt_of_lt_of_le (Heap.lt_size e) I.ok.above))).trans e1⟩
  ·by_cases hj:j=i
   ·subst hj;rw[hi]at e1;cases e1;rw[List.getElem?_set_self hiσ]at e2;cases e2;exact⟨u,r,.inl ⟨hk,by simp⟩⟩
   ·rw[List.getElem?_set_ne (Ne.symm hj)]at e2;obtain⟨u',r',q⟩:=hl j y v' e1 e2 e3;refine⟨u',r',?_⟩;rcases q with ⟨k,e⟩ | ⟨k,c,e,z⟩
    ·refine .inl ⟨k,?_⟩;have:y≠x:=λe=>hj (zeN hN e1 (e▸hi));simp[this,e]
    ·exact .inr ⟨k,c,e,z.sameBut hs (cne y c e)⟩
  ·obtain⟨w',z⟩:=I.cell y c e;exact⟨w',z.sameBut hs (cne y c e)⟩
  ·obtain⟨e,n,ne,nf,d⟩:=I.pin p hp;exact⟨(hs.2 p.1 ne).trans e,n,ne,nf,d⟩
 ·have hfn:X.fn x=true:=by
   rcases hf with z | z
   ·exact z
   ·rw[z]at hk;cases hk
  obtain⟨c,hc⟩:=I.ok.has x (.inl hk);obtain⟨w',z⟩:=I.cell x c hc;refine wpAny_storeName_cell I.ok.kind hk hc z (λh' hc' hs=>?_);obtain⟨oc,hoc,hocd⟩:=id z;refine h { s with heap:=h' } ⟨I.ok,I.os,I.bare,⟨λb o e n hb hx=>?_,λb o e n hb hx=>?_,I.base.free,λb o e hx=>?_,I.base.tups,I.base.frzs,I.base.tbls⟩,⟨m,hn.sameBut hs (Ne.symm (cne x c hc)),λj y v' e1 e2 e3=>?_⟩,λy c' e=>?_,I.free,I.freeC,λp hp=>?_,tracked ⟨oc,hoc,I.freeC x c hc⟩ hs,by simpa using I.len⟩ ⟨c,hs,.inr hc⟩
  ·exact(hs.2 b (Nat.ne_of_lt (Nat.lt_of_lt_of_le (Heap.lt_size e) (I.ok.cab x c hfn hc)))).trans (I.base.keep b o e n hb hx)
  ·obtain⟨sl,e1⟩:=I.base.slot b o e n hb hx;exact⟨sl,(hs.2 b (Nat.ne_of_lt (Nat.lt_of_lt_of_le (Heap.lt_size e) (I.ok.cab x c hfn hc)))).trans e1⟩
  ·obtain⟨o',e1⟩:=I.base.there b o e hx;exact⟨o',(hs.2 b (Nat.ne_of_lt (Nat.lt_of_lt_of_le (Heap.lt_size e) (I.ok.cab x c hfn hc)))).trans e1⟩
  ·by_cases hj:j=i
   ·subst hj;rw[hi]at e1;cases e1;rw[List.getElem?_set_self hiσ]at e2;cases e2;exact⟨u,r,.inr ⟨.inl hk,c,hc,hc'⟩⟩
   ·rw[List.getElem?_set_ne (Ne.symm hj)]at e2;obtain⟨u',r',q⟩:=hl j y v' e1 e2 e3;refine⟨u',r',?_⟩;rcases q with q | ⟨k,c',e,z'⟩
    ·exact .inl q
    ·refine .inr ⟨k,c',e,z'.sameBut hs ?_⟩;rintro rfl;exact hj (zeN hN e1 (I.ok.inj _ _ _ e hc▸hi))
  ·by_cases hcc:c'=c
   ·subst hcc;exact⟨_,hc'⟩
   ·obtain⟨w2,z2⟩:=I.cell y c' e;exact⟨w2,z2.sameBut hs hcc⟩
  ·obtain⟨e,n,ne,nf,d⟩:=I.pin p hp;refine⟨(hs.2 p.1 ?_).trans e,n,ne,nf,d⟩;intro q;rw[q,hoc]at e;have q':oc=p.2:=Option.some.inj e;exact d w' (by rw[<- q'];exact hocd)
theorem zhm {M:Model}{A:Around}{E:Value->Shared->Prop}{i:Nat}{x:Str}{v:V}{u:Value}{Q:Unit->Shared->Prop}(I:Inv X pins σ H s)(hN:X.N.Nodup)(hi:X.N[i]? = some x)(hx:Loc X.env.scope x)(r:RelV v u)
  (h:∀s',Inv X pins (σ.set i (some v)) H s'->Q () s') (hf:autoParam (X.fn x=true\/X.env.scope.names.lookup x=some .local) aU4):wpAny M A (storeName X.env x u) Q E s:=
 zcw I hN hi hx r (λs' I' _=>h s' I') hf
theorem Inv.call' {s':Shared}{ch:List Addr}(I:Inv X pins σ H s)(ho:s'.os=s.os)(u:Un (frs X.stack) ch H H' s.heap s'.heap)(hok:HOk X.prog X.w H' s'.heap)(hg:AllBare s'.gens)
  (hch:∀b∈ch,(b∈X.ex\/X.s₀.heap.objs.size<=b)/\b≠X.env.locals/\(∀x c,X.env.cells.lookup x=some c->c≠b)/\∀p∈X.pn++pins,p.1≠b):Inv X pins σ H' s':=by
 obtain⟨h',g',d',t',o'⟩:=s';have e:o'=s.os:=ho;subst e;exact I.call (g':=g') (t':=t') (d':=d') u hok hg hch
end
noncomputable abbrev XK:=Value->Option Addr->Hp->Prop
noncomputable abbrev St:=List (Option V)
noncomputable abbrev VK:=V->Hp->Prop
noncomputable abbrev TE:=St->Hp->VK->Prop
noncomputable abbrev TT:=St->Hp->(Bool->Hp->Prop)->Prop
noncomputable abbrev TA:=St->Hp->(List V->Hp->Prop)->Prop
structure Ends where
 nx:St->Hp->Prop
 rt:VK
 bk:St->Hp->Prop:=λ_ _=>False
 ct:St->Hp->Prop:=λ_ _=>False
noncomputable abbrev TS:=Ends->St->Hp->Prop
noncomputable def EP (X:Cx)(pins:List (Addr×Obj))(σ:St)(Q:VK)(u:Value)(s':Shared):Prop:=∃v H',Inv X pins σ H' s'/\RelV v u/\Q v H'
noncomputable def TP (X:Cx)(pins:List (Addr×Obj))(σ:St)(Q:Bool->Hp->Prop)(b:Bool)(s':Shared):Prop:=∃H',Inv X pins σ H' s'/\Q b H'
noncomputable def AP (X:Cx)(pins:List (Addr×Obj))(σ:St)(Q:List V->Hp->Prop)(us:List Value)(s':Shared):Prop:=∃vs H',Inv X pins σ H' s'/\Vals vs us/\Q vs H'
noncomputable def SP (X:Cx)(pins:List (Addr×Obj))(D:Ends)(f:Flow)(s':Shared):Prop:=
 match f with
 | .next=>∃σ' H',Inv X pins σ' H' s'/\D.nx σ' H'
 | .brk=>∃σ' H',Inv X pins σ' H' s'/\D.bk σ' H'
 | .cont=>∃σ' H',Inv X pins σ' H' s'/\D.ct σ' H'
 | .ret u=>∃v σ' H',Inv X pins σ' H' s'/\RelV v u/\D.rt v H'
noncomputable def PE (X:Cx)(e:Expr)(t:TE):Prop:=
 ∀(pins:List (Addr×Obj)) (s:Shared) (σ:St) (H:Hp) (Q:VK),Inv X pins σ H s->t σ H Q->wpAny (model X.prog X.w) X.A (eval e X.env) (EP X pins σ Q) X.xe s
noncomputable def PT (X:Cx)(e:Expr)(t:TT):Prop:=
 ∀(pins:List (Addr×Obj)) (s:Shared) (σ:St) (H:Hp) (Q:Bool->Hp->Prop),Inv X pins σ H s->t σ H Q->wpAny (model X.prog X.w) X.A (isTrue e X.env (eval e X.env)) (TP X pins σ Q) X.xe s
noncomputable def PW (X:Cx)(e:Expr)(t:TT):Prop:=
 ∀(whole:Sem Value) (pins:List (Addr×Obj)) (s:Shared) (σ:St) (H:Hp) (Q:Bool->Hp->Prop),Inv X pins σ H s->t σ H Q->wpAny (model X.prog X.w) X.A (isTrue e X.env whole) (TP X pins σ Q) X.xe s
theorem PW.pt {X:Cx}{e:Expr}{t:TT}(h:PW X e t):PT X e t:=h _
noncomputable def PA (X:Cx)(es:List Expr)(t:TA):Prop:=
 ∀(pos:Pos) (pins:List (Addr×Obj)) (s:Shared) (σ:St) (H:Hp) (Q:List V->Hp->Prop),Inv X pins σ H s->t σ H Q->wpAny (model X.prog X.w) X.A (spliced (backTo pos (starEach es X.env))) (AP X pins σ Q) X.xe s
noncomputable def PS (X:Cx)(st:Stmt)(t:TS):Prop:=
 ∀(pins:List (Addr×Obj)) (s:Shared) (σ:St) (H:Hp) (D:Ends),Inv X pins σ H s->t D σ H->wpAny (model X.prog X.w) X.A (exec st X.env) (SP X pins D) X.xe s
noncomputable def PSs (X:Cx)(st:List Stmt)(t:TS):Prop:=
 ∀(pins:List (Addr×Obj)) (s:Shared) (σ:St) (H:Hp) (D:Ends),Inv X pins σ H s->t D σ H->wpAny (model X.prog X.w) X.A (execs st X.env) (SP X pins D) X.xe s
theorem thn {α:Type}{t:Sem α}{Q Q':α->Shared->Prop}{M:Model}{A:Around}{E:Value->Shared->Prop}{s:Shared}(h:wpAny M A t Q E s)(hQ:∀a s,Q a s->Q' a s):wpAny M A t Q' E s:=wpAny_mono h hQ λ_ _ x=>x
section
variable {X:Cx}
noncomputable def tVar (i:Nat):TE:=λσ H Q=>∃v,σ[i]? = some (some v)/\Q v H
noncomputable def tC (v:V):TE:=λ_ H Q=>Q v H
theorem zcZ {i:Nat}{x:Str}{pos:Pos}(hN:X.N[i]? = some x)(hv:Vis X.env.scope x)(hd:autoParam ((x == ("__debug__" : Str))=false) aU1) (hcd:autoParam ((x == ("__classdict__" : Str))=false) aU1):PE X (.Name x pos) (tVar i):=by
 intro pins s σ H Q I h;obtain⟨v,e,h⟩:=h;obtain⟨m,hn,hl⟩:=I.loc;obtain⟨u,r,l⟩:=hl i x v hN e hv;have fin:EP X pins σ Q u s:=⟨v,H,I,r,h⟩;rcases l with ⟨hk,hm⟩ | ⟨hk,c,hc,hcell⟩
 ·exact wpAny_Name (wpAny_loadName_local I.ok.kind hk hn hm fin) hd
 ·rcases hk with hk | hk
  ·exact wpAny_Name (wpAny_loadName_cell I.ok.kind hk hc hcell fin) hd
  ·exact wpAny_Name (wpAny_loadName_free I.ok.kind hk hc hcell fin hcd) hd
theorem zop {i j pos}:PE X (.Constant (.int i) j pos) (tC (.int i)):=λ_ _ _ H _ I h=>wpAny_Constant_int ⟨.int i,H,I.tok _,⟨_,rfl⟩,h⟩
theorem zqg {b j pos}:PE X (.Constant (.bool b) j pos) (tC (.bl b)):=λ_ _ _ H _ I h=>Constant_bool ⟨.bl b,H,I,rfl,h⟩
theorem zhn {j pos}:PE X (.Constant .none j pos) (tC .non):=λ_ _ _ H _ I h=>Constant_none ⟨.non,H,I,rfl,h⟩
theorem zml {x j pos}:PE X (.Constant (.str x) j pos) (tC (.str x)):=λ_ _ _ H _ I h=>Calls.Constant_str ⟨.str x,H,I.tok _,⟨_,rfl⟩,h⟩
noncomputable def Gl (X:Cx)(x:Str):Prop:=X.env.kindOf x=some .globalImplicit
theorem zdA {E:Value->Shared->Prop}{pins:List (Addr×Obj)}{s:Shared}{σ:St}{H:Hp}{x:Str}{u:Value}{pos:Pos}{Q:Value->Shared->Prop}(I:Inv X pins σ H s)(hg:Gl X x)(hm:X.mg x=some u)(h:Q u s)
  (hd:autoParam ((x == ("__debug__" : Str))=false) aU1):wpAny (model X.prog X.w) X.A (eval (.Name x pos) X.env) Q E s:=
 Calls.Name_function_global I.ok.kind hg (Calls.loadGlobal_global (by rw[I.ok.glob];exact I.mod.glob.keeps I.bk) hm h) hd
theorem zho {E:Value->Shared->Prop}{pins:List (Addr×Obj)}{s:Shared}{σ:St}{H:Hp}{x:Str}{u:Value}{pos:Pos}{Q:Value->Shared->Prop}(I:Inv X pins σ H s)(hg:Gl X x)(hm:X.mg x=none)(hv:bootBuiltins x=some u)(h:Q u s)
  (hn:autoParam (x≠"__name__") aU1) (hd:autoParam ((x == ("__debug__" : Str))=false) aU1):wpAny (model X.prog X.w) X.A (eval (.Name x pos) X.env) Q E s:=by
 obtain⟨mb,h1,h2⟩:=I.mod.blt;exact Calls.Name_function_global I.ok.kind hg (Calls.loadGlobal_builtin (by rw[I.ok.glob];exact I.mod.glob.keeps I.bk) hm (by rw[I.ok.blt];exact h1.keeps I.bk) ((h2 x hn).trans hv) h) hd
theorem zcN {x:Str}{v:V}{u:Value}{pos:Pos}(hg:Gl X x)(hm:X.mg x=some u)(r:RelV v u)(hd:autoParam ((x == ("__debug__" : Str))=false) aU1):PE X (.Name x pos) (tC v):=
 λ_ _ _ H _ I h=>zdA I hg hm ⟨v,H,I,r,h⟩ hd
theorem ziY {x:Str}{v:V}{u:Value}{pos:Pos}(hg:Gl X x)(hm:X.mg x=none)(hv:bootBuiltins x=some u)(r:RelV v u)(hn:autoParam (x≠"__name__") aU1) (hd:autoParam ((x == ("__debug__" : Str))=false) aU1):PE X (.Name x pos) (tC v):=
 λ_ _ _ H _ I h=>zho I hg hm hv ⟨v,H,I,r,h⟩ hn hd
variable {a b:Expr}{ta tb:TE}{pos:Pos}
noncomputable def tB (t:TE):TT:=λσ H Q=>t σ H λx H1=>∃c,x=.bl c/\Q c H1
theorem zoq {e:Expr}{t:TE}(h:PE X e t)(he:autoParam (∀whole,isTrue e X.env whole=(do let v <- whole;standAt e.pos;holding [v] (truthy v))) aU3):PT X e (tB t):=by
 intro pins s σ H Q I hw;refine isTrue_plain (thn (h pins s σ H _ I hw) λv s1 q1q=>?_) (he _);obtain⟨x,H1,I1,r1,q1⟩:=q1q;obtain⟨d,rfl,q⟩:=q1;cases r1;exact wpAny_truthy_bool ⟨H1,I1,q⟩
variable {tA tB':TT}{rest:List Expr}
noncomputable def tAnd (t u:TT):TT:=λσ H Q=>t σ H λc H1=>if c=true then u σ H1 Q else Q false H1
noncomputable def tOr (t u:TT):TT:=λσ H Q=>t σ H λc H1=>if c=true then Q true H1 else u σ H1 Q
noncomputable def tNot (t:TT):TT:=λσ H Q=>t σ H λc H1=>Q (!c) H1
theorem zmV (ha:PT X a tA):PW X (.BoolOp .And [a] pos) tA:=by
 intro wh pins s σ H Q I h;refine isTrue_and (thn (ha pins s σ H Q I h) λc s1 e=>?_);cases c with
 | true=>exact isTrue_and_nil e
 | false=>exact e
theorem zor (ha:PT X a tA):PW X (.BoolOp .Or [a] pos) tA:=by
 intro wh pins s σ H Q I h;refine isTrue_or (thn (ha pins s σ H Q I h) λc s1 e=>?_);cases c with
 | false=>exact isTrue_or_nil e
 | true=>exact e
theorem zos (ha:PT X a tA)(hb:PW X (.BoolOp .And (b::rest) pos) tB'):PW X (.BoolOp .And (a::b::rest) pos) (tAnd tA tB'):=by
 intro wh pins s σ H Q I h;refine isTrue_and (thn (ha pins s σ H _ I h) λc s1 q2q=>?_);obtain⟨H1,I1,q1⟩:=q2q;cases c with
 | true=>exact hb wh pins s1 σ H1 Q I1 q1
 | false=>exact⟨H1,I1,q1⟩
theorem zqh (ha:PT X a tA)(hb:PW X (.BoolOp .Or (b::rest) pos) tB'):PW X (.BoolOp .Or (a::b::rest) pos) (tOr tA tB'):=by
 intro wh pins s σ H Q I h;refine isTrue_or (thn (ha pins s σ H _ I h) λc s1 q3q=>?_);obtain⟨H1,I1,q1⟩:=q3q;cases c with
 | true=>exact⟨H1,I1,q1⟩
 | false=>exact hb wh pins s1 σ H1 Q I1 q1
theorem zot (ha:PT X a tA):PT X (.UnaryOp .Not a pos) (tNot tA):=by
 intro pins s σ H Q I h;exact isTrue_not (ha pins s σ H (λc H1=>Q (!c) H1) I h)
noncomputable def zqi (ta tb:TE):TE:=λσ H Q=>ta σ H λx H1=>∃c,x=.bl c/\if c=true then tb σ H1 Q else Q (.bl false) H1
noncomputable def zqj (ta:TE):TE:=λσ H Q=>ta σ H λx H1=>∃c,x=.bl c/\Q (.bl (!c)) H1
theorem zmm {op}{t:TE}(h:PE X a t):PE X (.BoolOp op [a] pos) t:=λpins s σ H Q I hw=>BoolOp_one (h pins s σ H Q I hw)
theorem zmn (ha:PE X a ta)(hb:PE X (.BoolOp .And (b::rest) pos) tb):PE X (.BoolOp .And (a::b::rest) pos) (zqi ta tb):=by
 intro pins s σ H Q I h;refine BoolOp_and (thn (ha pins s σ H _ I h) λv s1 q4q=>?_);obtain⟨x,H1,I1,r1,q1⟩:=q4q;obtain⟨c,rfl,q1⟩:=q1;cases r1;refine wpAny_truthy_bool ?_;cases c with
 | true=>exact hb pins s1 σ H1 Q I1 q1
 | false=>exact⟨.bl false,H1,I1,rfl,q1⟩
theorem zou (ha:PE X a ta):PE X (.UnaryOp .Not a pos) (zqj ta):=by
 intro pins s σ H Q I h;refine UnaryOp_ (thn (ha pins s σ H _ I h) λv s1 q5q=>?_);obtain⟨x,H1,I1,r1,q1⟩:=q5q;obtain⟨c,rfl,q1⟩:=q1;cases r1;exact not_of (wpAny_truthy_bool ⟨.bl (!c),H1,I1,rfl,q1⟩)
noncomputable def tIf (t:TT)(ta tb:TE):TE:=λσ H Q=>t σ H λc H1=>if c=true then ta σ H1 Q else tb σ H1 Q
theorem zli {c:Expr}(hc:PT X c tA)(ha:PE X a ta)(hb:PE X b tb):PE X (.IfExp c a b pos) (tIf tA ta tb):=by
 intro pins s σ H Q I h;refine wpAny_IfExp (thn (hc pins s σ H _ I h) λd s1 q6q=>?_);obtain⟨H1,I1,q1⟩:=q6q;cases d with
 | true=>exact ha pins s1 σ H1 Q I1 q1
 | false=>exact hb pins s1 σ H1 Q I1 q1
end
noncomputable def SqL (K:PySem.W.Frag)(H:Hp)(a:Addr)(xs:List V):Prop:=
 Rd H a (.lst xs)\/
  ∃(o:Obj) (its:Array Value) (n:Nat),K.lookup a=some o/\o.cls=.type "list"/\o.dict=none/\o.data=.seq its n/\its.size<=sizeLine/\Vals xs its.toList
noncomputable def SqT (K:PySem.W.Frag)(H:Hp)(a:Addr)(xs:List V):Prop:=
 Rd H a (.tup xs)\/
  ∃(o:Obj) (its:Array Value) (n:Nat),K.lookup a=some o/\o.cls=.type "tuple"/\o.data=.seq its n/\its.size<=sizeLine/\Vals xs its.toList/\o.dict=none
noncomputable def absV:Value->Option V
 | .none=>some .non
 | .bool b=>some (.bl b)
 | .int i _=>some (.int i)
 | .str x _=>some (.str x)
 | .bytes b _=>some (.byt b)
 | .float b _=>some (.flt b)
 | .ref a=>some (.ref a)
 | .type n=>some (.ty n)
 | _=>none
theorem RelV.abs {x:V}{u:Value}(r:RelV x u):absV u=some x:=by
 cases x with
 | non=>cases r;rfl
 | bl _=>cases r;rfl
 | int _=>obtain⟨t,rfl⟩:=r;rfl
 | str _=>obtain⟨t,rfl⟩:=r;rfl
 | byt _=>obtain⟨t,rfl⟩:=r;rfl
 | flt _=>obtain⟨t,rfl⟩:=r;rfl
 | ref _=>cases r;rfl
 | ty _=>cases r;rfl
theorem RelV.inj {x y:V}{u:Value}(r:RelV x u)(q:RelV y u):x=y:=Option.some.inj (r.abs.symm.trans q.abs)
theorem Vals.inj:∀ {xs ys:List V}{us:List Value},Vals xs us->Vals ys us->xs=ys:=by
 intro xs ys us h;induction h generalizing ys with
 | nil=>intro h2;cases h2;rfl
 | cons r t ih=>
  intro h2;cases h2 with
  | cons r' t'=>rw[r.inj r',ih t']
section
variable {X:Cx}{pins:List (Addr×Obj)}{σ:St}{H:Hp}{s:Shared}{a:Addr}{xs ys:List V}
theorem SqL.of {K:PySem.W.Frag}(h:H a=some (.lst xs)):SqL K H a xs:=.inl (.inl h)
theorem SqT.of {K:PySem.W.Frag}(h:H a=some (.tup xs)):SqT K H a xs:=.inl (.inl h)
theorem Inv.list (I:Inv X pins σ H s)(h:SqL X.K H a xs):∃its:List Value,Vals xs its/\PlainL s.heap a its.toArray/\xs.length<=sizeLine:=by
 rcases h with h | ⟨o,its,n,hk,hc,hd,hs,hz,r⟩
 ·obtain⟨z,its,n,r,e⟩:=h.ok I.hok;exact⟨its,r,⟨_,n,e,rfl,rfl,rfl⟩,z⟩
 ·refine⟨its.toList,r,⟨o,n,I.kIn a o hk,hc,hd,by simpa using hs⟩,?_⟩;have e:=r.length;simp only[Array.length_toList]at e;lia
theorem Inv.tuple (I:Inv X pins σ H s)(h:SqT X.K H a xs):∃its:List Value,Vals xs its/\IsTup s.heap a its.toArray/\xs.length<=sizeLine:=by
 rcases h with h | ⟨o,its,n,hk,hc,hs,hz,r,_⟩
 ·obtain⟨z,its,r,p⟩:=h.ok I.hok;exact⟨its,r,p.tup,z⟩
 ·refine⟨its.toList,r,⟨o,I.kIn a o hk,hc,n,by simpa using hs⟩,?_⟩;have e:=r.length;simp only[Array.length_toList]at e;lia
theorem Inv.zhp (I:Inv X pins σ H s)(h:SqL X.K H a xs)(h':SqL X.K H a ys):xs=ys:=by
 obtain⟨its,r,⟨o,n,e,_,_,d⟩,_⟩:=I.list h;obtain⟨its',r',⟨o',n',e',_,_,d'⟩,_⟩:=I.list h';rw[e]at e';cases e';rw[d]at d';injection d' with d1 _;have:its=its':=by simpa using congrArg Array.toList d1
 subst this;exact r.inj r'
theorem Inv.zfv (I:Inv X pins σ H s)(h:SqT X.K H a xs)(h':SqT X.K H a ys):xs=ys:=by
 obtain⟨its,r,⟨o,e,_,n,d⟩,_⟩:=I.tuple h;obtain⟨its',r',⟨o',e',_,n',d'⟩,_⟩:=I.tuple h';rw[e]at e';cases e';rw[d]at d';injection d' with d1 _;have:its=its':=by simpa using congrArg Array.toList d1
 subst this;exact r.inj r'
end
noncomputable abbrev Cx.wish (X:Cx)(E:Value->Shared->Prop):Cx:={ X with xe:=E }
noncomputable abbrev Cx.nox (X:Cx):Cx:=X.wish λ_ _=>False
theorem Cx.Ok.wish {X:Cx}(ok:X.Ok)(E:Value->Shared->Prop):(X.wish E).Ok:=
 ⟨ok.mod,ok.kind,ok.glob,ok.blt,ok.above,ok.inj,ok.has,ok.cab,ok.hd,ok.frames,ok.stk,ok.exf,ok.bs,ok.bsz,ok.noex,ok.exfs,ok.funs,ok.frf⟩
theorem Cx.Ok.zaT {X:Cx}{E:Value->Shared->Prop}(ok:(X.wish E).Ok):X.Ok:=
 ⟨ok.mod,ok.kind,ok.glob,ok.blt,ok.above,ok.inj,ok.has,ok.cab,ok.hd,ok.frames,ok.stk,ok.exf,ok.bs,ok.bsz,ok.noex,ok.exfs,ok.funs,ok.frf⟩
section
variable {X:Cx}{pins:List (Addr×Obj)}{σ:St}{H:Hp}{s:Shared}{E:Value->Shared->Prop}
theorem Inv.wish (I:Inv X pins σ H s)(E:Value->Shared->Prop):Inv (X.wish E) pins σ H s:=⟨I.ok.wish E,I.os,I.bare,I.base,I.loc,I.cell,I.free,I.freeC,I.pin,I.hok,I.len⟩
theorem Inv.zaT (I:Inv (X.wish E) pins σ H s):Inv X pins σ H s:=⟨I.ok.zaT,I.os,I.bare,I.base,I.loc,I.cell,I.free,I.freeC,I.pin,I.hok,I.len⟩
theorem SP.zaT {D:Ends}{f:Flow}{s':Shared}(h:SP (X.wish E) pins D f s'):SP X pins D f s':=by
 cases f with
 | next=>obtain⟨σ',H',I,q⟩:=h;exact⟨σ',H',I.zaT,q⟩
 | brk=>obtain⟨σ',H',I,q⟩:=h;exact⟨σ',H',I.zaT,q⟩
 | cont=>obtain⟨σ',H',I,q⟩:=h;exact⟨σ',H',I.zaT,q⟩
 | ret u=>obtain⟨v,σ',H',I,r,q⟩:=h;exact⟨v,σ',H',I.zaT,r,q⟩
theorem PSs.nox {st:List Stmt}{t:TS}(h:PSs X.nox st t):PSs X st t:=λpins s σ H D I hw=>
 wpAny_mono (h pins s σ H D (I.wish _) hw) (λ_ _ q=>q.zaT) λ_ _ z=>False.elim z
end
section
variable {X:Cx}{st:Stmt}{rest:List Stmt}{t u:TS}{e:Expr}{te:TE}{pos:Pos}
noncomputable def zqk:TS:=λD σ H=>D.nx σ H
noncomputable def tSeq (t u:TS):TS:=λD σ H=>t { D with nx:=u D } σ H
theorem zgA:PSs X [] zqk:=λ_ _ σ H _ I h=>wpAny_execs_nil ⟨σ,H,I,h⟩
theorem zbr (h1:PS X st t)(h2:PSs X rest u):PSs X (st::rest) (tSeq t u):=by
 intro pins s σ H D I h;refine wpAny_execs_cons (thn (h1 pins s σ H { D with nx:=u D } I h) λf s1 q=>?_);cases f with
 | next=>
  obtain⟨σ',H',I',q⟩:=q;exact h2 pins s1 σ' H' D I' q
 | ret v=>exact q
 | brk=>exact q
 | cont=>exact q
theorem zgB (h1:PS X st t):PSs X [st] t:=by
 intro pins s σ H D I h;refine wpAny_execs_cons (thn (h1 pins s σ H D I h) λf s1 q=>?_);cases f with
 | next=>exact wpAny_execs_nil q
 | ret v=>exact q
 | brk=>exact q
 | cont=>exact q
theorem Inv.quiet {pins:List (Addr×Obj)}{σ:St}{H:Hp}{s:Shared}(I:Inv X pins σ H s):interactive X.env=false:=by simp[interactive,I.ok.kind]
noncomputable def zql (te:TE):TS:=λD σ H=>te σ H λ_ H1=>D.nx σ H1
theorem zmW (he:PE X e te)(hs:autoParam (swapsWith e none pos.line X.env=pure false) aU0):PS X (.Expr e pos) (zql te):=by
 intro pins s σ H D I h;exact wpAny_Expr_any (thn (he pins s σ H _ I h) λv s1 q7q=>by obtain⟨x,H1,I1,r1,q1⟩:=q7q;exact⟨σ,H1,I1,q1⟩) I.quiet hs
noncomputable def tRet (te:TE):TS:=λD σ H=>te σ H D.rt
theorem zmo (he:PE X e te):PS X (.Return (some e) pos) (tRet te):=by
 intro pins s σ H D I h;exact wpAny_Return_some (thn (he pins s σ H _ I h) λv s1 q8q=>by obtain⟨x,H1,I1,r1,q1⟩:=q8q;exact⟨x,σ,H1,I1,r1,q1⟩)
noncomputable def tIfS (c:TT)(t u:TS):TS:=λD σ H=>c σ H λb H1=>if b=true then t D σ H1 else u D σ H1
theorem zlj {c:Expr}{a b:List Stmt}{tc:TT}(hc:PT X c tc)(ha:PSs X a t)(hb:PSs X b u):PS X (.If c a b pos) (tIfS tc t u):=by
 intro pins s σ H D I h;refine wpAny_If (thn (hc pins s σ H _ I h) λd s1 q9q=>?_);obtain⟨H1,I1,q1⟩:=q9q;cases d with
 | true=>exact ha pins s1 σ H1 D I1 q1
 | false=>exact hb pins s1 σ H1 D I1 q1
noncomputable def zov:TS:=λ_ _ _=>False
theorem zfw {sts:List Stmt}:PSs X sts zov:=λ_ _ _ _ _ _ h=>h.elim
end
noncomputable abbrev TG:=V->St->Hp->(St->Hp->Prop)->Prop
noncomputable def PG (X:Cx)(target:Expr)(t:TG):Prop:=
 ∀(pins:List (Addr×Obj)) (s:Shared) (σ:St) (H:Hp) (v:V) (u:Value) (Q:St->Hp->Prop),Inv X pins σ H s->RelV v u->t v σ H Q->
  wpAny (model X.prog X.w) X.A (assign target X.env u) (λ_ s'=>∃σ' H',Inv X pins σ' H' s'/\Q σ' H') X.xe s
section
variable {X:Cx}{pos:Pos}
noncomputable def zlk (i:Nat):TG:=λv σ H Q=>Q (σ.set i (some v)) H
theorem zmX {i:Nat}{x:Str}(hN:X.N.Nodup)(hi:X.N[i]? = some x)(hx:Loc X.env.scope x)(hf:autoParam (X.fn x=true\/X.env.scope.names.lookup x=some .local) aU4):PG X (.Name x pos) (zlk i):=by
 intro pins s σ H v u Q I r h;exact wpAny_assign_Name (zhm I hN hi hx r (λs' I'=>⟨_,H,I',h⟩) hf)
noncomputable def tAsg (te:TE)(g:TG):TS:=λD σ H=>te σ H λx H1=>g x σ H1 D.nx
theorem zfx {i:Nat}{x:Str}{e:Expr}{te:TE}{pos':Pos}(hN:X.N.Nodup)(hi:X.N[i]? = some x)(hx:Loc X.env.scope x)(he:PE X e te)(hs:autoParam (swapsWith e (some (.Name x pos')) pos.line X.env=pure false) aU0)(hf:autoParam (X.fn x=true\/X.env.scope.names.lookup x=some .local) aU4) :
  PS X (.Assign [.Name x pos'] e pos) (tAsg te (zlk i)):=by
 intro pins s σ H D I h;refine wpAny_Assign_Name (thn (he pins s σ H _ I h) λv s1 q10q=>?_) hs;obtain⟨y,H1,I1,r1,q1⟩:=q10q;exact zhm I1 hN hi hx r1 (λs2 I2=>⟨_,H1,I2,q1⟩) hf
end
structure It where
 go:Nat->Hp->Prop
 yld:Nat->Hp->V->Hp->Prop
 stop:Nat->Hp->Prop
noncomputable def FpOk (X:Cx)(pins:List (Addr×Obj))(H:Hp)(b:Addr):Prop:=
 H b=none/\b≠X.env.locals/\b∉X.fs/\(b∈X.ex\/X.s₀.heap.objs.size<=b)/\(∀x c,X.env.cells.lookup x=some c->c≠b)/\∀p∈X.pn++pins,p.1≠b
theorem Inv.fpOk {X:Cx}{pins:List (Addr×Obj)}{σ:St}{H H':Hp}{s:Shared}{b:Addr}(I:Inv X pins σ H s)(hb:s.heap.objs.size<=b)(hn:H' b=none):FpOk X pins H' b:=by
 refine⟨hn,Nat.ne_of_gt (Nat.lt_of_lt_of_le I.lt hb),I.nofs hb,.inr (Nat.le_trans I.sz hb),λx c e z=>?_,λp hp z=>?_⟩
 ·obtain⟨v,q⟩:=I.cell x c e;exact absurd (Nat.lt_of_lt_of_le q.lt (by rw[z];exact hb)) (Nat.lt_irrefl _)
 ·exact absurd (Nat.lt_of_lt_of_le (Heap.lt_size (I.pin p hp).1) (by rw[z];exact hb)) (Nat.lt_irrefl _)
structure Turn (P:Program)(w:World)(K:PySem.W.Frag)(tg:Expr)(J:It)(fp:List Addr)(it:Addr)(tn:Nat->Heap->Prop):Prop where
 mem:it∈fp
 obj:∀i h,tn i h->∀b∈fp,∃o,h.get? b=some o/\∀v,o.data≠.cell v
 keep:∀i h h',tn i h->(∀b∈fp,∀o,h.get? b=some o->h'.get? b=some o)->tn i h'
 item:∀(X:Cx),X.prog=P->X.w=w->X.K=K->X.calm=true->∀(i:Nat) (pins:List (Addr×Obj)) (s:Shared) (σ:St) (H:Hp) (E:Value->Shared->Prop),Inv X pins σ H s->(∀b∈fp,FpOk X pins H b)->tn i s.heap->J.go i H->
  wpAny (model P w) X.A (pyNext (.ref it)) (λr s1=>∃u,r=some u/\
   wpAny (model P w) X.A (letOwnedTupleGo tg (.ref it) u) (λ_ s2=>∃x H',Inv X pins σ H' s2/\RelV x u/\J.yld i H x H'/\tn (i+1) s2.heap/\∀b∈fp,H' b=none) E s1) E s
 done:∀(X:Cx),X.prog=P->X.w=w->X.K=K->X.calm=true->∀(i:Nat) (pins:List (Addr×Obj)) (s:Shared) (σ:St) (H:Hp) (E:Value->Shared->Prop),Inv X pins σ H s->(∀b∈fp,FpOk X pins H b)->tn i s.heap->J.stop i H->
  wpAny (model P w) X.A (pyNext (.ref it)) (λr s1=>r=none/\Inv X pins σ H s1) E s
 self:∀(A:Around) (i:Nat) (s:Shared) (Q:Value->Shared->Prop) (E:Value->Shared->Prop),tn i s.heap->Q (.ref it) s->wpAny (model P w) A (pyIter (.ref it)) Q E s
noncomputable abbrev TI:=St->Hp->(It->Hp->Prop)->Prop
noncomputable def PIE (X:Cx)(pins:List (Addr×Obj))(σ:St)(tg:Expr)(R:It->Hp->Prop)(itv:Value)(s2:Shared):Prop:=
 ∃(it:Addr) (fp:List Addr) (tn:Nat->Heap->Prop) (J:It) (H':Hp),itv=.ref it/\Inv X pins σ H' s2/\Turn X.prog X.w X.K tg J fp it tn/\tn 0 s2.heap/\(∀b∈fp,FpOk X pins H' b)/\R J H'
noncomputable def PI (X:Cx)(tg iter:Expr)(wi:TI):Prop:=
 ∀(pins:List (Addr×Obj)) (s:Shared) (σ:St) (H:Hp) (R:It->Hp->Prop),Inv X pins σ H s->wi σ H R->
  wpAny (model X.prog X.w) X.A (eval iter X.env) (λv s1=>wpAny (model X.prog X.w) X.A (pyIter v) (PIE X pins σ tg R) X.xe s1) X.xe s
theorem ziZ {M:Model}{A:Around}{E:Value->Shared->Prop}{s:Shared}{tg:Expr}{it:Addr}{u:Value}{o:Obj}{n:String}{vs:Array Value}{Q:Unit->Shared->Prop}(ho:s.heap.get? it=some o)(hc:o.cls=.type n)(hd:o.data=.fields vs)
    (hn:["enumerate","zip","dict_itemiterator","dict_reverseitemiterator","odict_iterator","itertools.zip_longest","itertools.pairwise"].contains n=false) (hQ:Q () s):wpAny M A (letOwnedTupleGo tg (.ref it) u) Q E s:=by
  unfold letOwnedTupleGo;cases tg<;>first
    | exact wpAny_pure hQ
    | (cases u<;>first
        | exact wpAny_pure hQ
        | (refine wpAny_bind (wpAny_load ho ?_)
           rw[hc,hd];show wpAny M A (if (["enumerate","zip","dict_itemiterator","dict_reverseitemiterator","odict_iterator","itertools.zip_longest","itertools.pairwise"].contains n&&vs[0]? == some (rawInt _))=true then _ else _) Q E s
           rw[if_neg (by intro h;rw[hn,Bool.false_and]at h;cases h)];exact wpAny_pure hQ))
noncomputable def Itl (K:PySem.W.Frag)(a:Addr):It:=
 ⟨λi H=>∃xs x,SqL K H a xs/\xs[i]? = some x,λi H x H'=>H'=H/\∀xs,SqL K H a xs->xs[i]? = some x,λi H=>∃xs,SqL K H a xs/\xs.length<=i⟩
noncomputable def Itt (K:PySem.W.Frag)(a:Addr):It:=
 ⟨λi H=>∃xs x,SqT K H a xs/\xs[i]? = some x,λi H x H'=>H'=H/\∀xs,SqT K H a xs->xs[i]? = some x,λi H=>∃xs,SqT K H a xs/\xs.length<=i⟩
noncomputable def Itr (lo:Int)(n:Nat):It:=⟨λi _=>i<n,λi H x H'=>H'=H/\x=.int (lo+i),λi _=>n<=i⟩
theorem zja {P:Program}{w:World}{K:PySem.W.Frag}{tg:Expr}(a it:Addr):Turn P w K tg (Itl K a) [it] it (λi h=>h.IsListIter it a i) where
 mem:=by simp
 obj:=λi h st b hb=>by
  have e:b=it:=by simpa using hb
  subst e;obtain⟨o,e,c,d⟩:=st;exact⟨o,e,λv z=>by rw[d]at z;cases z⟩
 keep:=λi h h' st k=>st.at λo e=>k it (by simp) o e
 item:=by
  intro X hP hw hK hc i pins s σ H E I hf st hg;subst hP hw hK;obtain⟨xs,x,hq,hx⟩:=hg;obtain⟨its,rv,p,hz⟩:=I.list hq;obtain⟨u,hu,ru⟩:=rv.get hx;obtain⟨f0,f1,f2,f3,f4,f5⟩:=hf it (by simp);refine wpAny_pyNext_list_item st p.isList (x:=u) (by simpa using hu) λh' st' sb=>?_;have I1:Inv X pins σ H { s with heap:=h' }:=I.turned (t':=s.toks) (λb o hb e=>(sb.2 b hb).trans e) f0 f1 f3 f4 f5;obtain⟨o,e,c,d⟩:=id st';exact⟨u,rfl,ziZ (s:={ s with heap:=h' }) e c d (by decide) ⟨x,H,I1,ru,⟨rfl,λys hy=>by rw[I.zhp hy hq];exact hx⟩,st',λb hb=>(hf b hb).1⟩⟩
 done:=by
  intro X hP hw hK hc i pins s σ H E I hf st hg;subst hP hw hK;obtain⟨xs,hq,hx⟩:=hg;obtain⟨its,rv,p,hz⟩:=I.list hq;obtain⟨f0,f1,f2,f3,f4,f5⟩:=hf it (by simp);have hl:=rv.length;exact wpAny_pyNext_list_end (I.ok.hd hc) st p.isList (by simp;lia) λh' eb=>⟨rfl,I.turned (t':=s.toks) (λb o hb e=>eb b o hb e) f0 f1 f3 f4 f5⟩
 self:=λ_ _ _ _ _ st h=>wpAny_pyIter_listiter st h
theorem zil {P:Program}{w:World}{K:PySem.W.Frag}{tg:Expr}(a it:Addr):Turn P w K tg (Itt K a) [it] it (λi h=>h.IsTupleIter it a i) where
 mem:=by simp
 obj:=λi h st b hb=>by
  have e:b=it:=by simpa using hb
  subst e;obtain⟨o,e,c,d⟩:=st;exact⟨o,e,λv z=>by rw[d]at z;cases z⟩
 keep:=λi h h' st k=>st.at λo e=>k it (by simp) o e
 item:=by
  intro X hP hw hK hc i pins s σ H E I hf st hg;subst hP hw hK;obtain⟨xs,x,hq,hx⟩:=hg;obtain⟨its,rv,p,hz⟩:=I.tuple hq;obtain⟨u,hu,ru⟩:=rv.get hx;obtain⟨f0,f1,f2,f3,f4,f5⟩:=hf it (by simp);refine wpAny_pyNext_tuple_item st (show s.heap.IsTuple a its.toArray from p) (x:=u) (by simpa using hu) λh' st' sb=>?_;have I1:Inv X pins σ H { s with heap:=h' }:=I.turned (t':=s.toks) (λb o hb e=>(sb.2 b hb).trans e) f0 f1 f3 f4 f5;obtain⟨o,e,c,d⟩:=id st';exact⟨u,rfl,ziZ (s:={ s with heap:=h' }) e c d (by decide) ⟨x,H,I1,ru,⟨rfl,λys hy=>by rw[I.zfv hy hq];exact hx⟩,st',λb hb=>(hf b hb).1⟩⟩
 done:=by
  intro X hP hw hK hc i pins s σ H E I hf st hg;subst hP hw hK;obtain⟨xs,hq,hx⟩:=hg;obtain⟨its,rv,p,hz⟩:=I.tuple hq;obtain⟨f0,f1,f2,f3,f4,f5⟩:=hf it (by simp);have hl:=rv.length;exact wpAny_pyNext_tuple_end (I.ok.hd hc) st (show s.heap.IsTuple a its.toArray from p) (by simp;lia) λh' eb=>⟨rfl,I.turned (t':=s.toks) (λb o hb e=>eb b o hb e) f0 f1 f3 f4 f5⟩
 self:=λ_ _ _ _ _ st h=>wpAny_pyIter_tupleiter st h
theorem zim {P:Program}{w:World}{K:PySem.W.Frag}{tg:Expr}(it:Addr)(lo:Int)(n:Nat):Turn P w K tg (Itr lo n) [it] it (λi h=>IsRangeIter h it (lo+(i:Nat)*1) ((n:Int)-(i:Nat)) 1) where
 mem:=by simp
 obj:=λi h st b hb=>by
  have e:b=it:=by simpa using hb
  subst e;exact⟨_,st,λv z=>by
   have z':Data.fields _=Data.cell v:=z;cases z'⟩
 keep:=λi h h' st k=>k it (by simp) _ st
 item:=by
  intro X hP hw hK hc i pins s σ H E I hf st hg;subst hP hw hK;obtain⟨f0,f1,f2,f3,f4,f5⟩:=hf it (by simp);have W:=Walks.range (prog:=X.prog) (w:=X.w) (I.ok.hd hc) it lo 1 n;refine W.item i s _ _ hg st λv h' tk hv st' kk=>?_;obtain⟨t,rfl⟩:=hv;have I1:Inv X pins σ H { s with heap:=h',toks:=tk }:=I.turned (λb o hb e=>kk b o (by simpa using hb) e) f0 f1 f3 f4 f5;refine⟨_,rfl,ziZ (s:={ s with heap:=h',toks:=tk }) (n:="range_iterator") st' rfl rfl (by decide) ⟨.int (lo+i),H,I1,⟨t,?_⟩,⟨rfl,rfl⟩,st',λb hb=>(hf b hb).1⟩⟩;rw[Int.mul_one]
 done:=by
  intro X hP hw hK hc i pins s σ H E I hf st hg;subst hP hw hK;obtain⟨f0,f1,f2,f3,f4,f5⟩:=hf it (by simp);exact wpAny_pyNext_range_end (I.ok.hd hc) st (by have:n<=i:=hg;lia) λh' eb=>⟨rfl,I.turned (t':=s.toks) (λb o hb e=>eb b o hb e) f0 f1 f3 f4 f5⟩
 self:=λ_ _ _ _ _ st h=>wpAny_pyIter_rangeiter st h
section
variable {X:Cx}{tg:Expr}
noncomputable def zqm (K:PySem.W.Frag)(tl:TE):TI:=λσ H R=>tl σ H λx H1=>∃a,x=.ref a/\(∃xs,SqL K H1 a xs)/\R (Itl K a) H1
noncomputable def iTup (K:PySem.W.Frag)(tl:TE):TI:=λσ H R=>tl σ H λx H1=>∃a,x=.ref a/\(∃xs,SqT K H1 a xs)/\R (Itt K a) H1
theorem zmY {l:Expr}{tl:TE}(hl:PE X l tl):PI X tg l (zqm X.K tl):=by
 intro pins s σ H R I h;refine thn (hl pins s σ H _ I h) λv s1 q11q=>?_;obtain⟨x,H1,I1,r1,q1⟩:=q11q;obtain⟨a,e,⟨xs,hq⟩,q⟩:=q1;subst e;cases r1;obtain⟨its,rv,p,hz⟩:=I1.list hq;refine wpAny_pyIter_list p.isList ?_;refine⟨s1.heap.objs.size,[s1.heap.objs.size],_,_,H1,rfl,I1.kept (t':=s1.toks) λb o e=>Heap.get?_push_of_some _ e,zja a _,⟨_,Heap.get?_push_size _ rfl,rfl,rfl⟩,λb hb=>?_,q⟩;have e:b=s1.heap.objs.size:=by simpa using hb
 subst e;exact I1.fpOk (Nat.le_refl _) (I1.hok.fresh (Nat.le_refl _))
theorem zow {l:Expr}{tl:TE}(hl:PE X l tl):PI X tg l (iTup X.K tl):=by
 intro pins s σ H R I h;refine thn (hl pins s σ H _ I h) λv s1 q12q=>?_;obtain⟨x,H1,I1,r1,q1⟩:=q12q;obtain⟨a,e,⟨xs,hq⟩,q⟩:=q1;subst e;cases r1;obtain⟨its,rv,p,hz⟩:=I1.tuple hq;refine wpAny_pyIter_tuple (show s1.heap.IsTuple a its.toArray from p) ?_;refine⟨s1.heap.objs.size,[s1.heap.objs.size],_,_,H1,rfl,I1.kept (t':=s1.toks) λb o e=>Heap.get?_push_of_some _ e,zil a _,⟨_,Heap.get?_push_size _ rfl,rfl,rfl⟩,λb hb=>?_,q⟩;have e:b=s1.heap.objs.size:=by simpa using hb
 subst e;exact I1.fpOk (Nat.le_refl _) (I1.hok.fresh (Nat.le_refl _))
theorem zll {pins:List (Addr×Obj)}{σ:St}{H:Hp}{s:Shared}{R:It->Hp->Prop}{E:Value->Shared->Prop}{lo hi:Int}{t u v:Tok}{tk:Nat}(I:Inv X pins σ H s)(h1:-(2 ^ 62)<=lo)(h2:lo<2 ^ 62)(h3:-(2 ^ 62)<=hi)(h4:hi<2 ^ 62)
  (q:R (Itr lo (hi-lo).toNat) H):wpAny (model X.prog X.w) X.A (pyIter (.ref s.heap.objs.size)) (PIE X pins σ tg R) E { s with heap:=s.heap.push { cls:=.type "range",data:=.fields #[.int lo t,.int hi u,.int 1 v] },toks:=tk }:=by
 refine wpAny_pyIter_range (IsRange.new ..) (small_one h1 h2 h3 h4) ?_;have I1:Inv X pins σ H { s with heap:=s.heap.push { cls:=.type "range",data:=.fields #[.int lo t,.int hi u,.int 1 v] },toks:=tk }:=I.kept λb o e=>Heap.get?_push_of_some _ e;refine⟨(s.heap.push { cls:=.type "range",data:=.fields #[.int lo t,.int hi u,.int 1 v] }).objs.size,[(s.heap.push { cls:=.type "range",data:=.fields #[.int lo t,.int hi u,.int 1 v] }).objs.size],_,_,H,rfl,
  I1.kept (t':=tk) λb o e=>Heap.get?_push_of_some _ e,zim _ lo (hi-lo).toNat,?_,λb hb=>?_,q⟩
 ·have e1:lo+((0:Nat):Int)*1=lo:=by simp
  have e2:(((hi-lo).toNat:Nat):Int)-((0:Nat):Int)=Builtin.Range.rangeSize lo hi 1:=by rw[rangeSize_one];split<;>lia
  show IsRangeIter _ _ (lo+((0:Nat):Int)*1) ((((hi-lo).toNat:Nat):Int)-((0:Nat):Int)) 1;rw[e1,e2];exact Heap.get?_push_size _ rfl
 ·have e:b=(s.heap.push { cls:=.type "range",data:=.fields #[.int lo t,.int hi u,.int 1 v] }).objs.size:=by simpa using hb
  subst e;exact I1.fpOk (Nat.le_refl _) (I1.hok.fresh (Nat.le_refl _))
noncomputable def zqn (ta:TA):TI:=λσ H R=>ta σ H λvs H1=>∃j:Int,vs=[.int j]/\-(2 ^ 62)<=j/\j<2 ^ 62/\R (Itr 0 j.toNat) H1
theorem zjb {a:Expr}{ta:TA}{p pos:Pos}(hg:Gl X "range") (hm:X.mg "range" = none) (ha:PA X [a] ta) (hs:autoParam (starEach [a] X.env=[(false,eval a X.env)]) aU0):PI X tg (.Call (.Name "range" p) [a] [] pos) (zqn ta):=by
 intro pins s σ H R I h;refine Call_ (zho I hg hm boot_range (PyProof.Rows.callWith_type1 (thn (ha pos pins s σ H _ I h) λus s1 q13q=>?_) hs rfl));obtain⟨vs,H1,I1,r1,q1⟩:=q13q;obtain⟨j,e,q1,q2,q⟩:=q1;subst e;cases r1 with
 | cons r rr=>
  cases rr;obtain⟨t,rfl⟩:=r;exact call_range_1 (zll I1 (by lia) (by lia) q1 q2 (by simpa using q))
noncomputable def tFor (wi:TI)(g:TG)(tb:TS):TS:=λD σ H=>wi σ H λJ H1=>∃W:Nat->Nat->St->Hp->Prop,(∃m,W 0 m σ H1)/\∀i m σ H,W i m σ H->
 (J.stop i H/\D.nx σ H)\/(J.go i H/\∃N:St->Hp->Prop,(∀σ' H',N σ' H'->∃m',m'<m/\W (i+1) m' σ' H')/\∀x H',J.yld i H x H'->g x σ H' λσ2 H2=>tb { D with nx:=N,ct:=N,bk:=D.nx } σ2 H2)
noncomputable def zeo (fp:List Addr)(h:Heap):List (Addr×Obj):=fp.filterMap λb=>(h.get? b).map λo=>(b,o)
theorem zbk {fp:List Addr}{h:Heap}{b:Addr}{o:Obj}(hb:b∈fp)(e:h.get? b=some o):(b,o)∈zeo fp h:=List.mem_filterMap.mpr ⟨b,hb,by rw[e];rfl⟩
theorem zjc {fp:List Addr}{h:Heap}{p:Addr×Obj}(hp:p∈zeo fp h):p.1∈fp/\h.get? p.1=some p.2:=by
 obtain⟨b,hb,e⟩:=List.mem_filterMap.mp hp;cases q:h.get? b with
 | none=>rw[q]at e;cases e
 | some o=>
  rw[q]at e;have e':(b,o)=p:=Option.some.inj e;subst e';exact⟨hb,q⟩
theorem Inv.pinned {pins:List (Addr×Obj)}{σ:St}{H:Hp}{s:Shared}{fp:List Addr}(I:Inv X pins σ H s)(hf:∀b∈fp,FpOk X pins H b)(ho:∀b∈fp,∃o,s.heap.get? b=some o/\∀v,o.data≠.cell v):Inv X (pins++zeo fp s.heap) σ H s:=
 I.ziX λp hp=>(List.mem_append.mp hp).elim (λz=>I.pin p (List.mem_append_right _ z)) λz=>by
  obtain⟨hb,e⟩:=zjc z;obtain⟨f0,f1,f2,_⟩:=hf p.1 hb;obtain⟨o,e',d⟩:=ho p.1 hb;rw[e]at e';cases e';exact⟨e,f0,f1,f2,d⟩
theorem Inv.zbE {pins pl:List (Addr×Obj)}{σ:St}{H:Hp}{s:Shared}(I:Inv X (pins++pl) σ H s):Inv X pins σ H s:=I.ziX λp hp=>I.pin p (List.mem_append_right _ (List.mem_append_left _ hp))
theorem zox {iter:Expr}{body:List Stmt}{wi:TI}{g:TG}{tb:TS}{pos:Pos}(hp:PassesOwn (model X.prog X.w) X.A X.env X.xe)(hc:X.calm=true)(hi:PI X tg iter wi)(hg:PG X tg g)(hb:PSs X body tb)
  (hs:autoParam (∀x,foldedSetIterable iter X.env x=pure x) aU3):PS X (.For tg iter body [] pos) (tFor wi g tb):=by
 intro pins s σ H D I h;refine wpAny_For (thn (hi pins s σ H _ I h) λv s1 h1=>thn h1 λitv s2 h2=>?_) hs;obtain⟨it,fp,tn,J,H2,e,I2,T,st2,f2,W,⟨m0,w0⟩,turn⟩:=h2;subst e;have stat:∀ {H':Hp},(∀b∈fp,H' b=none)->∀b∈fp,FpOk X pins H' b:=λhn b hb=>⟨hn b hb,(f2 b hb).2⟩;refine codeAny_forLoop_any (λn s'=>∃i σ' H',Inv X pins σ' H' s'/\tn i s'.heap/\(∀b∈fp,H' b=none)/\W i n σ' H') ?_ m0 ⟨0,σ,H2,I2,st2,λb hb=>(f2 b hb).1,w0⟩;rintro n s3 ⟨i,σ3,H3,I3,st3,fr3,w3⟩;rcases turn i n σ3 H3 w3 with ⟨stop,qn⟩ | ⟨go,N,hN,step⟩
 ·refine wpAny_passesOwn hp (thn (T.done X rfl rfl rfl hc i pins s3 σ3 H3 X.xe I3 (stat fr3) st3 stop) λr s4 q14q=>?_);obtain⟨hr,I4⟩:=q14q;subst hr;exact wpAny_execs_nil ⟨σ3,H3,I4,qn⟩
 ·refine wpAny_passesOwn hp (thn (T.item X rfl rfl rfl hc i pins s3 σ3 H3 X.xe I3 (stat fr3) st3 go) λr s4 q15q=>?_);obtain⟨u,hr,h4⟩:=q15q;subst hr;refine wpAny_passesOwn hp (thn h4 λ_ s5 q16q=>?_);obtain⟨x,H5,I5,r5,y5,st5,fr5⟩:=q16q;have I5':=I5.pinned (stat fr5) (T.obj _ _ st5);refine wpAny_passesOwn hp (thn (hg _ s5 σ3 H5 x u _ I5' r5 (step x H5 y5)) λ_ s6 q17q=>?_);obtain⟨σ6,H6,I6,q6⟩:=q17q;refine wpAny_passesOwn hp (thn (hb _ s6 σ6 H6 _ I6 q6) λf s7 q7=>?_);have again:∀ {σ7:St} {H7:Hp},Inv X (pins++zeo fp s5.heap) σ7 H7 s7->N σ7 H7->∃m,m<n/\∃i σ' H',Inv X pins σ' H' s7/\tn i s7.heap/\(∀b∈fp,H' b=none)/\W i m σ' H':=λ{σ7 H7} I7 n7=>by
   obtain⟨m',hm,w7⟩:=hN σ7 H7 n7;refine⟨m',hm,i+1,σ7,H7,I7.zbE,T.keep _ _ _ st5 λb hb o e=>(I7.pin (b,o) (List.mem_append_right _ (List.mem_append_right _ (zbk hb e)))).1,λb hb=>?_,w7⟩;obtain⟨o,e,d⟩:=T.obj _ _ st5 b hb;exact(I7.pin (b,o) (List.mem_append_right _ (List.mem_append_right _ (zbk hb e)))).2.1
  cases f with
  | next=>obtain⟨σ7,H7,I7,n7⟩:=q7;exact again I7 n7
  | cont=>obtain⟨σ7,H7,I7,n7⟩:=q7;exact again I7 n7
  | brk=>obtain⟨σ7,H7,I7,q7⟩:=q7;exact⟨σ7,H7,I7.zbE,q7⟩
  | ret v=>obtain⟨x7,σ7,H7,I7,r7,q7⟩:=q7;exact⟨x7,σ7,H7,I7.zbE,r7,q7⟩
end
noncomputable abbrev R2:=V->V->Hp->VK->Prop
noncomputable def OpR (X:Cx)(f:Value->Value->Sem Value)(r:R2):Prop:=
 ∀(pins:List (Addr×Obj)) (s:Shared) (σ:St) (H:Hp) (x y:V) (v u:Value) (Q:VK),Inv X pins σ H s->RelV x v->RelV y u->r x y H Q->
  wpAny (model X.prog X.w) X.A (f v u) (EP X pins σ Q) X.xe s
noncomputable def zbF (X:Cx)(f:Value)(r:List V->Hp->VK->Prop):Prop:=
 ∀(pins:List (Addr×Obj)) (s:Shared) (σ:St) (H:Hp) (xs:List V) (us:List Value) (Q:VK),Inv X pins σ H s->Vals xs us->r xs H Q->
  wpAny (model X.prog X.w) X.A (call f us) (EP X pins σ Q) X.xe s
noncomputable def TruR (X:Cx)(r:V->Hp->(Bool->Hp->Prop)->Prop):Prop:=
 ∀(pins:List (Addr×Obj)) (s:Shared) (σ:St) (H:Hp) (x:V) (v:Value) (Q:Bool->Hp->Prop),Inv X pins σ H s->RelV x v->r x H Q->
  wpAny (model X.prog X.w) X.A (truthy v) (TP X pins σ Q) X.xe s
noncomputable def tOp (r:R2)(ta tb:TE):TE:=λσ H Q=>ta σ H λx H1=>tb σ H1 λy H2=>r x y H2 Q
noncomputable def rI (C:Int->Int->Prop)(g:Int->Int->V):R2:=λx y H Q=>∃i j,x=.int i/\y=.int j/\C i j/\Q (g i j) H
noncomputable def rI0 (g:Int->Int->V):R2:=λx y H Q=>∃i j,x=.int i/\y=.int j/\Q (g i j) H
section
variable {X:Cx}{a b c:Expr}{ta tb tc:TE}{pos:Pos}
theorem binT (ha:PE X a ta)(hb:PE X b tb){pins:List (Addr×Obj)}{s:Shared}{σ:St}{H:Hp}{R:V->V->Hp->Prop}(I:Inv X pins σ H s)
  (h:ta σ H λx H1=>tb σ H1 λy H2=>R x y H2) {Q:Value->Shared->Prop} {f:Value->Value->Sem Value}
  (hf:∀v u s2 x y H2,Inv X pins σ H2 s2->RelV x v->RelV y u->R x y H2->wpAny (model X.prog X.w) X.A (f v u) Q X.xe s2) :
  wpAny (model X.prog X.w) X.A (eval a X.env) (λv s₁=>wpAny (model X.prog X.w) X.A (eval b X.env) (λu s₂=>wpAny (model X.prog X.w) X.A (f v u) Q X.xe s₂) X.xe s₁) X.xe s:=by
 refine thn (ha pins s σ H _ I h) λv s1 q18q=>?_;obtain⟨x,H1,I1,r1,q1⟩:=q18q;refine thn (hb pins s1 σ H1 _ I1 q1) λu s2 q19q=>?_;obtain⟨y,H2,I2,r2,q2⟩:=q19q;exact hf v u s2 x y H2 I2 r1 r2 q2
theorem zqo {op:Operator}{r:R2}(ho:OpR X (binaryOp op) r)(ha:PE X a ta)(hb:PE X b tb):PE X (.BinOp a op b pos) (tOp r ta tb):=by
 intro pins s σ H Q I h;exact wpAny_BinOp (binT ha hb I h λv u s2 x y H2 I2 rx ry q=>ho pins s2 σ H2 x y v u Q I2 rx ry q)
theorem opI {f:Value->Value->Sem Value}{C:Int->Int->Prop}{g:Int->Int->Int}
  (rule:∀(i j:Int) (t u:Tok) (s:Shared) (Q:Value->Shared->Prop) (E:Value->Shared->Prop),C i j->Q (.int (g i j) s.toks) { s with toks:=s.toks+1 }->wpAny (model X.prog X.w) X.A (f (.int i t) (.int j u)) Q E s) :
  OpR X f (rI C λi j=>.int (g i j)):=by
 intro pins s σ H x y v u Q I rx ry h;obtain⟨i,j,rfl,rfl,hc,q⟩:=h;obtain⟨t,rfl⟩:=rx;obtain⟨t',rfl⟩:=ry;exact rule i j t t' s _ _ hc ⟨.int (g i j),H,I.tok _,⟨_,rfl⟩,q⟩
theorem opI0 {f:Value->Value->Sem Value}{g:Int->Int->Int}
  (rule:∀(i j:Int) (t u:Tok) (s:Shared) (Q:Value->Shared->Prop) (E:Value->Shared->Prop),Q (.int (g i j) s.toks) { s with toks:=s.toks+1 }->wpAny (model X.prog X.w) X.A (f (.int i t) (.int j u)) Q E s) :
  OpR X f (rI0 λi j=>.int (g i j)):=by
 intro pins s σ H x y v u Q I rx ry h;obtain⟨i,j,rfl,rfl,q⟩:=h;obtain⟨t,rfl⟩:=rx;obtain⟨t',rfl⟩:=ry;exact rule i j t t' s _ _ ⟨.int (g i j),H,I.tok _,⟨_,rfl⟩,q⟩
theorem opB0 {f:Value->Value->Sem Value}{g:Int->Int->Bool}
  (rule:∀(i j:Int) (t u:Tok) (s:Shared) (Q:Value->Shared->Prop) (E:Value->Shared->Prop),Q (.bool (g i j)) s->wpAny (model X.prog X.w) X.A (f (.int i t) (.int j u)) Q E s) :
  OpR X f (rI0 λi j=>.bl (g i j)):=by
 intro pins s σ H x y v u Q I rx ry h;obtain⟨i,j,rfl,rfl,q⟩:=h;obtain⟨t,rfl⟩:=rx;obtain⟨t',rfl⟩:=ry;exact rule i j t t' s _ _ ⟨.bl (g i j),H,I,rfl,q⟩
noncomputable def CDiv (i j:Int):Prop:=0<j/\j<1073741824
noncomputable def CPow (i j:Int):Prop:=0<=j/\j<=1000000/\i.natAbs<2 ^ 64
noncomputable def CMul (i j:Int):Prop:=(-(2 ^ 64)<i/\i<2 ^ 64)\/(-(2 ^ 64)<j/\j<2 ^ 64)
theorem CMul.ok {i j:Int}(h:CMul i j):IntMulOk i j:=by
 rcases h with ⟨h1,h2⟩ | ⟨h1,h2⟩
 ·exact .of_left (intBits_le_64 h1 h2)
 ·exact .of_right (intBits_le_64 h1 h2)
theorem zin (k:Nat):(0:Int)<=2 ^ k:=by
 rw[two_pow_cast];exact Int.natCast_nonneg _
theorem zoy:OpR X (binaryOp .Add) (rI0 λi j=>.int (i+j)):=opI0 λ_ _ _ _ _ _ _ q=>add_int q
theorem zoz:OpR X (binaryOp .Sub) (rI0 λi j=>.int (i-j)):=opI0 λ_ _ _ _ _ _ _ q=>sub_int q
theorem zoA:OpR X (binaryOp .Mult) (rI CMul λi j=>.int (i*j)):=opI λ_ _ _ _ _ _ _ hc q=>mul_int q hc.ok
theorem zmZ:OpR X (binaryOp .FloorDiv) (rI CDiv λi j=>.int (i / j)):=opI λi j _ _ _ _ _ hc q=>by
 have h1:(0:Int)<j:=hc.1;have h2:j<1073741824:=hc.2;exact floordiv_int (by lia) (by rw[Int.fdiv_eq_ediv_of_nonneg i (by lia)];exact q) (.inl (PyProof.noPylong_small (by lia)))
theorem zoB:OpR X (binaryOp .Mod) (rI (λ_ j=>0<j) λi j=>.int (i % j)):=opI λi j _ _ _ _ _ hc q=>by
 have h1:(0:Int)<j:=hc;exact mod_int' (by lia) (by rw[Int.fmod_eq_emod_of_nonneg i (by lia)];exact q)
theorem zoC:OpR X (binaryOp .Pow) (rI CPow λi j=>.int (i ^ j.toNat)):=opI λ_ _ _ _ _ _ _ hc q=>pow_int_small hc.1 hc.2.1 hc.2.2 q
theorem zoD:OpR X (binaryOp .RShift) (rI (λ_ j=>0<=j) λi j=>.int (i / 2 ^ j.toNat)):=opI λi j _ _ _ _ _ hc q=>
 rshift_int hc (by rw[Int.fdiv_eq_ediv_of_nonneg i (zin _)];exact q)
end
section
variable {X:Cx}{a b c:Expr}{ta tb tc:TE}{pos:Pos}
theorem zhq {pins:List (Addr×Obj)}{σ:St}{H:Hp}{s:Shared}{Q:VK}{k k':Bool}(I:Inv X pins σ H s)(q:Q (.bl k) H)(e:k=k'):EP X pins σ Q (.bool k') s:=by
 subst e;exact⟨.bl k,H,I,rfl,q⟩
theorem zqp:OpR X (compareOp .Lt) (rI0 λi j=>.bl (decide (i<j))):=opB0 λ_ _ _ _ _ _ _ q=>lt_int q
theorem zoE:OpR X (compareOp .LtE) (rI0 λi j=>.bl (decide (i<=j))):=opB0 λ_ _ _ _ _ _ _ q=>le_int q
theorem zqq:OpR X (compareOp .Gt) (rI0 λi j=>.bl (decide (j<i))):=opB0 λ_ _ _ _ _ _ _ q=>gt_int q
theorem zjd:OpR X (compareOp .In) (λx y H Q=>∃i j,x=.str i/\y=.str j/\Q (.bl (!(Builtin.Str.occurrences j i 0 j.length 1).isEmpty)) H):=by
 intro pins s σ H x y v u Q I rx ry h;obtain⟨i,j,rfl,rfl,q⟩:=h;obtain⟨t,rfl⟩:=rx;obtain⟨t',rfl⟩:=ry;exact in_str (zhq I q rfl)
theorem zmp:OpR X (compareOp .Is) (λx y H Q=>y=.non/\Q (.bl (decide (x=.non))) H):=by
 intro pins s σ H x y v u Q I rx ry h;obtain⟨rfl,q⟩:=h;cases ry;refine is_none_gen (zhq I q ?_);cases x<;>first
  | (cases rx;rfl)
  | (obtain⟨t,rfl⟩:=rx;rfl)
theorem zna:OpR X (compareOp .IsNot) (λx y H Q=>y=.non/\Q (.bl (!decide (x=.non))) H):=by
 intro pins s σ H x y v u Q I rx ry h;obtain⟨rfl,q⟩:=h;cases ry;refine isnot_none_gen (zhq I q ?_);cases x<;>first
  | (cases rx;rfl)
  | (obtain⟨t,rfl⟩:=rx;rfl)
theorem zfy:OpR X (compareOp .NotIn) (λx y H Q=>∃i j,x=.str i/\y=.str j/\Q (.bl (!(!(Builtin.Str.occurrences j i 0 j.length 1).isEmpty))) H):=by
 intro pins s σ H x y v u Q I rx ry h;obtain⟨i,j,rfl,rfl,q⟩:=h;obtain⟨t,rfl⟩:=rx;obtain⟨t',rfl⟩:=ry;exact notIn_str (zhq I q rfl)
theorem zbn (b:Expr){op:CmpOp}(h:autoParam (op≠.In) aU1)(h2:autoParam (op≠.NotIn) aU1):behindInMarks op b=false:=by
 have e1:(op == CmpOp.In)=false:=by cases op<;>first | rfl | exact absurd rfl h
 have e2:(op == CmpOp.NotIn)=false:=by cases op<;>first | rfl | exact absurd rfl h2
 cases b<;>simp[behindInMarks,e1,e2]
theorem znb {op:CmpOp}{r:R2}(ho:OpR X (compareOp op) r)(ha:PE X a ta)(hb:PE X b tb)(hm:behindInMarks op b=false):PE X (.Compare a [op] [b] pos) (tOp r ta tb):=by
 intro pins s σ H Q I h;exact wpAny_Compare1 (binT ha hb I h λv u s2 x y H2 I2 rx ry q=>ho pins s2 σ H2 x y v u Q I2 rx ry q) hm
noncomputable def zoF (t:TE):TT:=λσ H Q=>t σ H λx H'=>∃k,x=.bl k/\Q k H'
theorem zje {op:CmpOp}{r:R2}(ho:OpR X (compareOp op) r)(ha:PE X a ta)(hb:PE X b tb)(hm:behindInMarks op b=false):PT X (.Compare a [op] [b] pos) (zoF (tOp r ta tb)):=by
 intro pins s σ H Q I h;refine wpAny_isTrue_Compare1 (thn (ha pins s σ H _ I h) λv s1 ⟨x,H1,I1,r1,q1⟩=>thn (hb pins s1 σ H1 _ I1 q1) λu s2 ⟨y,H2,I2,r2,q2⟩=>
  thn (ho pins s2 σ H2 x y v u _ I2 r1 r2 q2) λc s3 ⟨z,H3,I3,r3,k,e,q3⟩=>?_) hm
 subst e;cases r3;exact wpAny_truthy_bool ⟨H3,I3,q3⟩
noncomputable def zmq (r r':R2)(ta tb tc:TE):TE:=λσ H Q=>ta σ H λx H1=>tb σ H1 λy H2=>r x y H2 λz H3=>∃k,z=.bl k/\
 (if k=true then tc σ H3 λw' H4=>r' y w' H4 Q else Q (.bl false) H3)
theorem zlm {op op':CmpOp}{r r':R2}(ho:OpR X (compareOp op) r)(ho':OpR X (compareOp op') r')(ha:PE X a ta)(hb:PE X b tb)(hc:PE X c tc)
  (hm:autoParam (lastMarks [op,op'] [b,c]=false) aU5):PT X (.Compare a [op,op'] [b,c] pos) (zoF (zmq r r' ta tb tc)):=by
 intro pins s σ H Q I h;refine isTrue_chain (thn (ha pins s σ H _ I h) λv s1 ⟨x,H1,I1,r1,q1⟩=>test_link (thn (hb pins s1 σ H1 _ I1 q1) λu s2 ⟨y,H2,I2,r2,q2⟩=>
  thn (ho pins s2 σ H2 x y v u _ I2 r1 r2 q2) λd s3 ⟨z,H3,I3,r3,k,e,q3⟩=>?_)) hm
 subst e;cases r3;refine wpAny_truthy_bool ?_;cases k with
 | false=>
  obtain⟨k',e',q'⟩:=q3;cases e';exact ite_ff ⟨H3,I3,q'⟩
 | true=>
  refine ite_tt (test_last (thn (hc pins s3 σ H3 _ I3 q3) λw' s4 ⟨z',H4,I4,r4,q4⟩=>thn (ho' pins s4 σ H4 y z' u w' _ I4 r2 r4 q4) λd' s5 q27q=>?_));obtain⟨z2,H5,I5,r5,k2,e2,q5⟩:=q27q;subst e2;cases r5;exact wpAny_truthy_bool ⟨H5,I5,q5⟩
noncomputable def TruV (K:PySem.W.Frag)(x:V)(H:Hp)(k:Bool):Prop:=
 match x with
 | .non=>k=false
 | .bl b=>k=b
 | .int i=>k=(i != 0)
 | .str y=>y.length<=sizeLine/\k=((y.length:Int) != 0)
 | .byt y=>y.size<=sizeLine/\k=((y.size:Int) != 0)
 | .ref p=>(∃xs,SqL K H p xs/\k = !xs.isEmpty)\/(∃xs,SqT K H p xs/\k = !xs.isEmpty)\/∃kvs,H p=some (.dK kvs)/\k = !kvs.isEmpty
 | _=>False
theorem zio {κ:Type}{kvs:List (κ×V)}{vs:List (κ×Value)}(r:KV kvs vs):(!vs.isEmpty) = !kvs.isEmpty:=by
 cases r<;>rfl
theorem zep {xs:List V}{its:List Value}(r:Vals xs its):(!its.toArray.isEmpty) = !xs.isEmpty:=by
 cases r<;>simp
theorem zfz:(sizeLine:Nat)<2 ^ 63:=by rw[sizeLine_eq];decide
theorem zoG:TruR X (λx H Q=>∃k,TruV X.K x H k/\Q k H):=by
 intro pins s σ H x v Q I rx h;obtain⟨k,e,q⟩:=h;have hl:=zfz;have hs:sizeLine=16777216:=sizeLine_eq;cases x with
 | non=>
  cases rx;have e':k=false:=e;subst e';exact truthy_none ⟨H,I,q⟩
 | bl b=>
  cases rx;have e':k=b:=e;subst e';exact wpAny_truthy_bool ⟨H,I,q⟩
 | int i=>
  obtain⟨t,rfl⟩:=rx;have e':k=(i != 0):=e;subst e';exact PySem.P.truthy_int ⟨H,I,q⟩
 | str y=>
  obtain⟨t,rfl⟩:=rx;obtain⟨hy,e'⟩:y.length<=sizeLine/\k=((y.length:Int) != 0):=e;subst e';exact PySem.P.truthy_str (by lia) ⟨H,I.tok _,q⟩
 | byt y=>
  obtain⟨t,rfl⟩:=rx;obtain⟨hy,e'⟩:y.size<=sizeLine/\k=((y.size:Int) != 0):=e;subst e';exact PySem.W.truthy_bytes (by lia) ⟨H,I.tok _,q⟩
 | ref p=>
  cases rx;have e':(∃xs,SqL X.K H p xs/\k = !xs.isEmpty)\/(∃xs,SqT X.K H p xs/\k = !xs.isEmpty)\/∃kvs,H p=some (.dK kvs)/\k = !kvs.isEmpty:=e;rcases e' with ⟨xs,hx,e'⟩ | ⟨xs,hx,e'⟩ | ⟨kvs,hx,e'⟩
  ·subst e';obtain⟨its,r,pl,hz⟩:=I.list hx;have hlen:=r.length;exact wpAny_truthy_list pl.isList (by simp only[List.size_toArray];lia) ⟨H,I.tok _,by rw[zep r];exact q⟩
  ·subst e';obtain⟨its,r,pl,hz⟩:=I.tuple hx;have hlen:=r.length;exact truthy_tuple pl (by simp only[List.size_toArray];lia) ⟨H,I.tok _,by rw[zep r];exact q⟩
  ·subst e';obtain⟨hz,hS,vs,r,m⟩:kvs.length<=sizeLine/\(p == sysModules)=false/\∃vs,KV kvs vs/\s.heap.DictOf (zbm X.prog X.w) p vs:=I.hok p _ hx;have hlen:kvs.length=vs.length:=Paired.length r;exact wpAny_truthy_dict hS m (by lia) ⟨H,I.tok _,by rw[zio r];exact q⟩
 | _=>exact(show False from e).elim
theorem zln (ha:PE X a ta)(he:∀whole,isTrue a X.env whole=(do let v <- whole;standAt a.pos;holding [v] (truthy v))) :
  PT X a (λσ H Q=>ta σ H λx H'=>∃k,TruV X.K x H' k/\Q k H'):=by
 intro pins s σ H Q I h;exact isTrue_plain (thn (ha pins s σ H _ I h) λv s1 q28q=>by obtain⟨x,H1,I1,r1,q1⟩:=q28q;exact zoG pins s1 σ H1 x v Q I1 r1 q1) (he _)
theorem vals1 {x:V}{us:List Value}(r:Vals [x] us):∃u,us=[u]/\RelV x u:=by
 cases r with
 | cons r1 r2=>cases r2;exact⟨_,rfl,r1⟩
theorem vals2 {x y:V}{us:List Value}(r:Vals [x,y] us):∃u w',us=[u,w']/\RelV x u/\RelV y w':=by
 cases r with
 | cons r1 r2=>
  cases r2 with
  | cons r3 r4=>cases r4;exact⟨_,_,rfl,r1,r3⟩
theorem zjf:zbF X (.type "int") (λxs H Q=>(∃i,xs=[.int i]/\Q (.int i) H)\/∃k,xs=[.bl k]/\Q (.int (if k then 1 else 0)) H):=by
 intro pins s σ H xs us Q I r h;rcases h with ⟨i,rfl,q⟩ | ⟨k,rfl,q⟩
 ·obtain⟨u,rfl,t,rfl⟩:=vals1 r;exact call_int_int ⟨.int i,H,I,⟨_,rfl⟩,q⟩
 ·obtain⟨u,rfl,r1⟩:=vals1 r;cases r1;exact call_int_bool ⟨.int (if k then 1 else 0),H,I.tok _,⟨_,rfl⟩,q⟩
noncomputable def LenV (K:PySem.W.Frag)(x:V)(H:Hp)(n:Nat):Prop:=
 match x with
 | .str y=>y.length<=sizeLine/\n=y.length
 | .byt y=>y.size<=sizeLine/\n=y.size
 | .ref p=>(∃xs,SqL K H p xs/\n=xs.length)\/∃xs,SqT K H p xs/\n=xs.length
 | _=>False
theorem zlo:zbF X (.builtin "len") (λxs H Q=>∃x n,xs=[x]/\LenV X.K x H n/\Q (.int n) H):=by
 intro pins s σ H xs us Q I r h;obtain⟨x,n,rfl,e,q⟩:=h;obtain⟨u,rfl,rx⟩:=vals1 r;have hl:=zfz;have hs:sizeLine=16777216:=sizeLine_eq;cases x with
 | str y=>
  obtain⟨t,rfl⟩:=rx;obtain⟨hy,e'⟩:y.length<=sizeLine/\n=y.length:=e;subst e';exact len_str (by lia) ⟨.int _,H,I.tok _,⟨_,rfl⟩,q⟩
 | byt y=>
  obtain⟨t,rfl⟩:=rx;obtain⟨hy,e'⟩:y.size<=sizeLine/\n=y.size:=e;subst e';exact PySem.W.len_bytes (by lia) ⟨.int _,H,I.tok _,⟨_,rfl⟩,q⟩
 | ref p=>
  cases rx;have e':(∃xs,SqL X.K H p xs/\n=xs.length)\/∃xs,SqT X.K H p xs/\n=xs.length:=e;rcases e' with ⟨xs,hx,e'⟩ | ⟨xs,hx,e'⟩
  ·subst e';obtain⟨its,r',pl,hz⟩:=I.list hx;have hlen:=r'.length;exact Calls.call_len_list pl.isList (by simp only[List.size_toArray];lia) ⟨.int xs.length,H,I.tok _,⟨_,by simp only[List.size_toArray];rw[hlen]⟩,q⟩
  ·subst e';obtain⟨its,r',pl,hz⟩:=I.tuple hx;have hlen:=r'.length;exact len_tuple pl (by simp only[List.size_toArray];lia) ⟨.int xs.length,H,I.tok _,⟨_,by simp only[List.size_toArray];rw[hlen]⟩,q⟩
 | _=>exact(show False from e).elim
end
structure Room (k:Nat)(A:Around):Prop where
 hd:A.handled=none
 dp:A.depth+3*k+5<recursionLimit
 un:A.units+16*k+200<cLine
theorem Room.mono {j k:Nat}{A:Around}(r:Room k A)(h:j<=k):Room j A:=⟨r.hd,by have:=r.dp;lia,by have:=r.un;lia⟩
theorem Room.deeper {k:Nat}{A:Around}(r:Room (k+1) A)(env:Env):Room k (A.deeper env):=
 ⟨r.hd,by have:=r.dp;show A.depth+1+3*k+5<_;lia,by have:=r.un;show A.units+3+16*k+200<_;lia⟩
theorem Room.depth {k:Nat}{A:Around}(r:Room k A):A.depth<recursionLimit:=by have:=r.dp;lia
theorem Room.units {k:Nat}{A:Around}(r:Room k A):A.units+64<cLine:=by have:=r.un;lia
noncomputable def tNil:TA:=λ_ H Q=>Q [] H
noncomputable def zqr (ta:TE)(tr:TA):TA:=λσ H Q=>ta σ H λx H1=>tr σ H1 λxs H2=>Q (x::xs) H2
section
variable {X:Cx}{e:Expr}{es:List Expr}{te:TE}{t:TA}{pos:Pos}
theorem zbU:PA X [] tNil:=λ_ _ _ _ H Q I h=>Calls.spliced_nil ⟨[],H,I,.nil,h⟩
theorem zaE (ha:PE X e te)(hr:PA X es t)(hs:autoParam (starEach (e::es) X.env=(false,eval e X.env)::starEach es X.env) aU0):PA X (e::es) (zqr te t):=by
 intro pos pins s σ H Q I h;rw[hs];show wpAny _ _ (spliced ((false,eval e X.env)::backTo pos (starEach es X.env))) _ _ s;refine Calls.spliced_cons (thn (ha pins s σ H _ I h) λu s1 q29q=>?_);obtain⟨x,H1,I1,r1,q1⟩:=q29q;exact thn (hr pos pins s1 σ H1 _ I1 q1) λus s2 q30q=>by obtain⟨xs,H2,I2,r2,q2⟩:=q30q;exact⟨x::xs,H2,I2,.cons r1 r2,q2⟩
noncomputable def tTup (t:TA):TE:=λσ H Q=>t σ H λxs H1=>xs.length<=sizeLine/\∀p,H1 p=none->Q (.ref p) (upd H1 p (.tup xs))
noncomputable def tLst (t:TA):TE:=λσ H Q=>t σ H λxs H1=>xs.length<=sizeLine/\∀p,H1 p=none->Q (.ref p) (upd H1 p (.lst xs))
theorem zmr {x1}(h:PA X es t):PE X (.Tuple es x1 pos) (tTup t):=by
 intro pins s σ H Q I hq;refine wpAny_Tuple_spliced (thn (h pos pins s σ H _ I hq) λus s1 ⟨xs,H1,I1,r,z,q⟩=>⟨by rw[<- r.length];exact z,?_⟩);have hf:H1 s1.heap.objs.size=none:=I1.hok.fresh (Nat.le_refl _);refine⟨.ref s1.heap.objs.size,upd H1 s1.heap.objs.size (.tup xs),I1.laid (t':=s1.toks) (λb u e=>Heap.get?_push_of_some _ e) (Nat.le_refl _) ?_,rfl,q _ hf⟩;exact⟨z,us,r,zcv.new _ _⟩
theorem zoH (h:PA X es t):PE X (.List es pos) (tLst t):=by
 intro pins s σ H Q I hq;refine wpAny_List_spliced (thn (h pos pins s σ H _ I hq) λus s1 ⟨xs,H1,I1,r,z,q⟩=>⟨by rw[<- r.length];exact z,?_⟩);have hf:H1 s1.heap.objs.size=none:=I1.hok.fresh (Nat.le_refl _);refine⟨.ref s1.heap.objs.size,upd H1 s1.heap.objs.size (.lst xs),I1.laid (t':=s1.toks) (λb u e=>Heap.get?_push_of_some _ e) (Nat.le_refl _) ?_,rfl,q _ hf⟩;exact⟨z,us,0,r,Heap.get?_push_size _ rfl⟩
end
noncomputable abbrev Sp:=List V->Hp->VK->XK->Prop
noncomputable abbrev CXT:=List Env->Hp->Shared->XK->Value->Shared->Prop
structure Env0 (P:Program)(w:World)(K:PySem.W.Frag)(mg:Str->Option Value)(base:Heap)(A:Around)(outer:List Env)(s:Shared)(H:Hp):Prop where
 frames:A.frames=some outer
 mod:Mod K mg base
 bs:∀b o,base.get? b=some o->s.heap.get? b=some o/\H b=none
 bsz:base.objs.size<=s.heap.objs.size
 funs:s.heap.FunFrames base outer
 frf:∀b∈frs outer,H b=none
 hok:HOk P w H s.heap
 bare:AllBare s.gens
noncomputable def CE (outer:List Env)(P:Program)(w:World)(H:Hp)(s:Shared)(Q:VK)(u:Value)(s':Shared):Prop:=
 ∃v H',s'.os=s.os/\AllBare s'.gens/\Un (frs outer) [] H H' s.heap s'.heap/\HOk P w H' s'.heap/\RelV v u/\Q v H'
noncomputable def CR (CX:CXT)(outer:List Env)(P:Program)(w:World)(H:Hp)(s:Shared)(Q:VK)(E:XK)(r:Result)(s':Shared):Prop:=
 match r with
 | .ok (.ret u)=>CE outer P w H s Q u s'
 | .ok _=>False
 | .error e=>CX outer H s E e s'
structure FnOk (P:Program)(w:World)(K:PySem.W.Frag)(mg:Str->Option Value)(base:Heap)(CX:CXT)(k:Nat)(f:Addr)(fd:FuncData)(ps:List Str)(sp:Sp):Prop where
 len:∀vs H Q E,sp vs H Q E->vs.length=ps.length
 run:∀(A:Around) (outer:List Env) (s:Shared) (H:Hp) (args:Args) (us:List Value) (vs:List V) (Q:VK) (E:XK),Room k A->Env0 P w K mg base A outer s H->BindsTo s fd args (ps.zip us)->Vals vs us->sp vs H Q E->
  codeAny (model P w) A (.call (.ref f) args) (CR CX outer P w H s Q E) s
theorem FnOk.mono {P:Program}{w:World}{K:PySem.W.Frag}{mg:Str->Option Value}{base:Heap}{CX:CXT}{j k:Nat}{f:Addr}{fd:FuncData}{ps:List Str}{sp:Sp}(F:FnOk P w K mg base CX j f fd ps sp)(h:j<=k) :
  FnOk P w K mg base CX k f fd ps sp:=⟨F.len,λA outer s H args us vs Q E hr=>F.run A outer s H args us vs Q E (hr.mono h)⟩
section
variable {X:Cx}{pins:List (Addr×Obj)}{σ:St}{H:Hp}{s s':Shared}
theorem Inv.env0 (I:Inv X pins σ H s):Env0 X.prog X.w X.K X.mg X.base X.A X.stack s H:=
 ⟨I.ok.frames,I.ok.mod,I.bs,Nat.le_trans I.ok.bsz I.sz,I.stack,I.zgz,I.hok,I.bare⟩
theorem Inv.after {Q:VK}{u:Value}(I:Inv X pins σ H s)(h:CE X.stack X.prog X.w H s Q u s'):EP X pins σ Q u s':=by
 obtain⟨v,H',os,bare,un,hok,r,q⟩:=h;obtain⟨hh,g,d,t,os'⟩:=s';obtain rfl:os'=s.os:=os;exact⟨v,H',I.call (h':=hh) (g':=g) (d':=d) (t':=t) (ch:=[]) un hok bare (λb z=>absurd z (by simp)),r,q⟩
end
noncomputable def zoI (sp:Sp)(dvs:List V)(E:XK)(t:TA):TE:=λσ H Q=>t σ H λvs H1=>sp (vs++dvs) H1 Q E
noncomputable def Binds (K:PySem.W.Frag)(fd:FuncData)(ps:List Str)(ds:List Value):Prop:=
 ∀(s:Shared) (us:List Value),K.In s.heap->(us++ds).length=ps.length->BindsTo s fd ⟨us,[]⟩ (ps.zip (us++ds))
theorem Binds.all {K:PySem.W.Frag}{fd:FuncData}{ps:List Str}(h:∀us:List Value,us.length=ps.length->bindArgs fd ⟨us,[]⟩=pure (ps.zip us)):Binds K fd ps []:=λs us _ hl=>by
 rw[List.append_nil]at hl ⊢;exact .of_eq (h us hl)
noncomputable def zeq (CX:CXT)(X:Cx)(E:XK):Prop:=∀(pins:List (Addr×Obj))(σ:St)(H:Hp)(s:Shared)(e:Value)(s':Shared),Inv X pins σ H s->CX X.stack H s E e s'->X.xe e s'
section
variable {X:Cx}{CX:CXT}{k:Nat}{f C:Addr}{fd:FuncData}{ps:List Str}{sp:Sp}{dvs:List V}{ds:List Value}{E:XK}{x m:Str}{p pos apos:Pos}{e o:Expr}{es:List Expr}{ta:TE}{t:TA}
theorem zoJ {pins:List (Addr×Obj)}{σ:St}{H:Hp}{s:Shared}{Q:VK}{us:List Value}{vs:List V}(F:FnOk X.prog X.w X.K X.mg X.base CX k f fd ps sp)(hr:Room k X.A)(hb:Binds X.K fd ps ds)(hd:Vals dvs ds)(hx:zeq CX X E)
  (I:Inv X pins σ H s) (r:Vals vs us) (h:sp (vs++dvs) H Q E):wpAny (model X.prog X.w) X.A (call (.ref f) us) (EP X pins σ Q) X.xe s:=by
 have r2:Vals (vs++dvs) (us++ds):=r.append hd;have hl:(us++ds).length=ps.length:=by rw[<- r2.length];exact F.len _ _ _ _ h
 refine wpAny_call (codeAny_mono (F.run X.A X.stack s H ⟨us,[]⟩ (us++ds) (vs++dvs) Q E hr I.env0 (hb s us I.kIn hl) r2 h) λr s' hq=>?_);cases r with
 | error e=>exact hx pins σ H s e s' I hq
 | ok fl=>
  cases fl with
  | ret u=>exact I.after hq
  | next=>exact False.elim hq
  | brk=>exact False.elim hq
  | cont=>exact False.elim hq
theorem zjg (F:FnOk X.prog X.w X.K X.mg X.base CX k f fd ps sp)(hr:Room k X.A)(hg:Gl X x)(hm:X.mg x=some (.ref f))(hk:PySem.W.keepIn X.K (.ref f)=true)(hb:Binds X.K fd ps ds)(hd:Vals dvs ds)(hx:zeq CX X E)
  (ha:PA X (e::es) t) (hdb:autoParam ((x == ("__debug__" : Str))=false) aU1) (he:autoParam (starEach (e::es) X.env=(false,eval e X.env)::starEach es X.env) aU0) (hpl:autoParam ((backTo pos (starEach es X.env)).any (·.1)=false) aU0) :
  PE X (.Call (.Name x p) (e::es) [] pos) (zoI sp dvs E t):=by
 intro pins s σ H Q I h;refine wpAny_Call_Name_kw (zdA I hg hm ?_ hdb);refine PySem.W.callWith_K (h₀:=X.base) I.ok.mod.kin hk (thn (ha pos pins s σ H _ I h) λus s1 ⟨vs,H1,I1,r,q⟩=>⟨I1.kIn,?_⟩) he hpl;exact zoJ F hr hb hd hx I1 r q
end
structure zaq (N P:List Str)(sc:Scope):Prop where
 kind:sc.kind=.function
 co:sc.isCoroutine=false
 gen:sc.isGenerator=false
 nd:N.Nodup
 pre:N.take P.length=P
 par:∀x∈P,sc.names.lookup x=some .local\/sc.names.lookup x=some .cell
 nofree:∀y∈sc.names,y.2≠.free
theorem zfA {kindOf:Str->Option NameKind}{x:Str}:∀ {binds:List (Str×Value)}{m:Str->Option Value},(∀v,(x,v)∉binds)->bindL kindOf binds m x=m x
 | [],_,_=>rfl
 | (n,v)::r,m,h=>by
  unfold bindL;rw[zfA λw hw=>h w (List.mem_cons_of_mem _ hw)];split
  ·have:x≠n:=by rintro rfl;exact h v List.mem_cons_self
   simp[this]
  ·rfl
theorem zfB {kindOf:Str->Option NameKind}{x:Str}:∀ {binds:List (Str×Value)}{m:Str->Option Value},(∀v,(x,v)∉binds)->bindC kindOf binds m x=m x
 | [],_,_=>rfl
 | (n,v)::r,m,h=>by
  unfold bindC;rw[zfB λw hw=>h w (List.mem_cons_of_mem _ hw)];split
  ·rfl
  ·have:x≠n:=by rintro rfl;exact h v List.mem_cons_self
   simp[this]
theorem zfC {kindOf:Str->Option NameKind}{x:Str}{v:Value}:∀ {P:List Str}{vs:List Value}{i:Nat}{m:Str->Option Value},P.Nodup->P[i]? = some x->vs[i]? = some v->kindOf x=some .local->
  bindL kindOf (P.zip vs) m x=some v
 | [],_,_,_,_,h,_,_=>by simp at h
 | _::_,[],_,_,_,_,h,_=>by simp at h
 | p::P,w::vs,0,m,nd,h1,h2,hk=>by
  simp at h1 h2;subst h1;subst h2;show bindL kindOf ((p,w)::P.zip vs) m p=_;unfold bindL;rw[zfA λv hv=>(List.nodup_cons.mp nd).1 (List.of_mem_zip hv).1,if_pos hk];simp
 | p::P,w::vs,i+1,m,nd,h1,h2,hk=>by
  show bindL kindOf ((p,w)::P.zip vs) m x=_;unfold bindL;exact zfC (i:=i) (List.nodup_cons.mp nd).2 (by simpa using h1) (by simpa using h2) hk
theorem zfD {kindOf:Str->Option NameKind}{x:Str}{v:Value}:∀ {P:List Str}{vs:List Value}{i:Nat}{m:Str->Option Value},P.Nodup->P[i]? = some x->vs[i]? = some v->kindOf x≠some .local->
  bindC kindOf (P.zip vs) m x=some v
 | [],_,_,_,_,h,_,_=>by simp at h
 | _::_,[],_,_,_,_,h,_=>by simp at h
 | p::P,w::vs,0,m,nd,h1,h2,hk=>by
  simp at h1 h2;subst h1;subst h2;show bindC kindOf ((p,w)::P.zip vs) m p=_;unfold bindC;rw[zfB λv hv=>(List.nodup_cons.mp nd).1 (List.of_mem_zip hv).1,if_neg hk];simp
 | p::P,w::vs,i+1,m,nd,h1,h2,hk=>by
  show bindC kindOf ((p,w)::P.zip vs) m x=_;unfold bindC;exact zfD (i:=i) (List.nodup_cons.mp nd).2 (by simpa using h1) (by simpa using h2) hk
noncomputable def start (N:List Str)(vs:List V):St:=vs.map some++List.replicate (N.length-vs.length) none
noncomputable def cxOf (CX:CXT)(P:Program)(w:World)(K:PySem.W.Frag)(mg:Str->Option Value)(base:Heap)(N:List Str)(qual:Str)(scope:Scope)(f:Addr)(cd:Value)(A:Around)(outer:List Env)(s:Shared)(H:Hp)(E:XK):Cx where
 prog:=P
 w:=w
 K:=K
 mg:=mg
 base:=base
 A:=A.deeper (envOfC qual scope s.heap.objs.size f cd)
 N:=N
 s₀:=s
 H₀:=H
 env:=envOfC qual scope s.heap.objs.size f cd
 outer:=outer
 stack:=envOfC qual scope s.heap.objs.size f cd::outer
 ex:=[]
 calm:=true
 fn:=λ_=>true
 pn:=[]
 xe:=λe s'=>wpAny (model P w) (A.deeper (envOfC qual scope s.heap.objs.size f cd)) (leaving (envOfC qual scope s.heap.objs.size f cd) e) (λ_ s''=>CX outer H s E e s'') (λe' s''=>CX outer H s E e' s'') s'
theorem zhr {sc:Scope}{n:Nat}{x:Str}(h:sc.names.lookup x=some .cell):∃c,(cellsFrom n sc.names []).lookup x=some c:=by
 have q:=PySem.W.cellsFrom_some sc.names n [] (.inl h);exact Option.isSome_iff_exists.mp q
theorem zjh {CX:CXT}{P:Program}{w:World}{K:PySem.W.Frag}{mg:Str->Option Value}{base:Heap}{N ps:List Str}{qual:Str}{scope:Scope}{f:Addr}{cd:Value}{A:Around}{outer:List Env}{s s1:Shared}{H:Hp}{E:XK}{us:List Value}{vs:List V}
  (S:zaq N ps scope) (hd:A.handled=none) (e0:Env0 P w K mg base A outer s H) (hl:vs.length=ps.length) (r:Vals vs us)
  (x:InCallC s s.heap.objs.size (bindL (envOfC qual scope s.heap.objs.size f cd).kindOf (ps.zip us) λ_=>none) (cellsFrom (s.heap.objs.size+1) scope.names []) (bindC (envOfC qual scope s.heap.objs.size f cd).kindOf (ps.zip us) λ_=>none) s1) :
  Inv (cxOf CX P w K mg base N qual scope f cd A outer s H E) [] (start N vs) H s1:=by
 have hpl:ps.length<=N.length:=by have:=congrArg List.length S.pre;rw[List.length_take]at this;lia
 obtain⟨h1,tk,rfl,hk⟩:=x.done;have noA:∀b:Addr,b∉(cxOf CX P w K mg base N qual scope f cd A outer s H E).ex:=λb z=>absurd (show b∈([]:List Addr) from z) (by simp);refine⟨⟨e0.mod,S.kind,rfl,rfl,Nat.le_refl _,λy z c h1 h2=>?_,λy hy=>?_,λy c _ h=>?_,λ_=>hd,Around.frames_deeper e0.frames,.inr ⟨rfl,rfl⟩,λb z=>absurd z (noA b),e0.bs,e0.bsz,λb _ _=>noA b,λb z=>absurd z (noA b),e0.funs,e0.frf⟩,
  rfl,e0.bare,Un.kept hk,⟨_,x.toInCall.ns,λi y v h1 h2 h3=>?_⟩,λy c h=>⟨_,x.cell y c h⟩,e0.hok.fresh (Nat.le_refl _),λy c h=>?_,λp hp=>absurd (show p∈([]:List (Addr×Obj)) from hp) (by simp),e0.hok.kept hk,?_⟩
 ·exact name_of_addr x.apart (PySem.mem_of_lookup h1) (PySem.mem_of_lookup h2)
 ·have hy:scope.names.lookup y=some .cell\/scope.names.lookup y=some .free:=hy;rcases hy with hy | hy
  ·exact zhr hy
  ·exact absurd rfl (S.nofree _ (PySem.mem_of_lookup hy))
 ·exact Nat.le_of_lt (x.above y c (PySem.mem_of_lookup h))
 ·have hi:i<vs.length:=by
   unfold start at h2;by_cases hi:i<vs.length
   ·exact hi
   ·rw[List.getElem?_append_right (by simpa using hi)]at h2;rw[List.getElem?_replicate]at h2;split at h2<;>cases h2
  have ha:vs[i]? = some v:=by
   unfold start at h2;rw[List.getElem?_append_left (by simpa using hi),List.getElem?_map]at h2;cases e:vs[i]? with
   | none=>rw[e]at h2;cases h2
   | some a=>rw[e]at h2;cases h2;rfl
  obtain⟨u,hu,rv⟩:=r.get ha;have hp:ps[i]? = some y:=by
   rw[<- S.pre,List.getElem?_take_of_lt (by lia)];exact h1
  have ndP:ps.Nodup:=by rw[<- S.pre];exact S.nd.sublist (List.take_sublist _ _)
  refine⟨u,rv,?_⟩;rcases S.par y (List.mem_of_getElem? hp)with k | k
  ·exact .inl ⟨k,zfC ndP hp hu k⟩
  ·obtain⟨c,e⟩:=zhr (n:=s.heap.objs.size+1) k;refine .inr ⟨.inl k,c,e,?_⟩;have q:=x.cell y c e;rw[zfD ndP hp hu (by show scope.names.lookup y≠_;rw[k];decide)]at q;exact q
 ·exact e0.hok.fresh (Nat.le_of_lt (x.above y c (PySem.mem_of_lookup h)))
 ·unfold start;show _=N.length;rw[List.length_append,List.length_map,List.length_replicate];lia
theorem zoK {CX:CXT}{P:Program}{w:World}{K:PySem.W.Frag}{mg:Str->Option Value}{base:Heap}{k:Nat}{f:Addr}{name qual:Str}{params:Arguments}{body:List Stmt}{scope:Scope}{dV kV doc pm cdv ct oc:Value}{an od:Option Addr}
  {osl:Array (Option Value)} {N ps:List Str} {sp:Sp} (lk:K.lookup f=some ⟨oc,od,.func (PySem.W.fnOf name qual params body scope dV kV doc pm an cdv ct),osl⟩) (hcd:PySem.W.codeIn K cdv qual=true) (S:zaq N ps scope)
  (len:∀vs H Q E,sp vs H Q E->vs.length=ps.length)
  (hbody:∀(A:Around) (outer:List Env) (s:Shared) (H:Hp) (vs:List V) (Q:VK) (E:XK),Room k (A.deeper (envOfC qual scope s.heap.objs.size f cdv))->sp vs H Q E->
   ∃t,PSs (cxOf CX P w K mg base N qual scope f cdv A outer s H E) body t/\t { nx:=λ_ H'=>Q .non H',rt:=Q } (start N vs) H) :
  FnOk P w K mg base CX (k+1) f (PySem.W.fnOf name qual params body scope dV kV doc pm an cdv ct) ps sp:=by
 refine⟨len,λA outer s H args us vs Q E hr e0 hb r hsp=>?_⟩;have hl:=len _ _ _ _ hsp;have KX:K.In s.heap:=e0.mod.kin.keeps λb o e=>(e0.bs b o e).1;have lim:s.heap.NoLimit:=e0.mod.nolimit.keeps λb o e=>(e0.bs b o e).1;have hkind:∀y∈ps.zip us,scope.names.lookup y.1=some .local\/(scope.names.lookup y.1=some .cell/\((cellsFrom (s.heap.objs.size+1) scope.names []).lookup y.1).isSome=true):=λ⟨n,v⟩ hy=>by
  rcases S.par n (List.of_mem_zip hy).1 with q | q
  ·exact .inl q
  ·exact .inr ⟨q,PySem.W.cellsFrom_some _ _ _ (.inl q)⟩
 refine codeAny_call_function hr.depth (KX _ _ lk) rfl S.co S.gen rfl (PySem.W.codeRec_of KX hcd) (hb _ _ _ _ ?_);refine wpAny_newFunctionEnv_cells S.kind hkind λenv he s1 x=>?_;subst he;refine⟨lim.keeps x.toInCall.keep,codeAny_func ?_⟩;obtain⟨t,ht,hq⟩:=hbody A outer s H vs Q E (hr.deeper _) hsp;have I:Inv (cxOf CX P w K mg base N qual scope f cdv A outer s H E) [] (start N vs) H s1:=zjh S hr.hd e0 hl r x;refine wpAny_mono (ht [] s1 (start N vs) H _ I hq) (λfl s' hs=>?_) λe s' hs=>hs;have fin:∀ {σ':St} {H':Hp} {v:V} {u:Value},Inv (cxOf CX P w K mg base N qual scope f cdv A outer s H E) [] σ' H' s'->RelV v u->Q v H'->CE outer P w H s Q u s':=
  λ{σ' H' v u} J rv q=>⟨v,H',J.os,J.bare,J.base,J.hok,rv,q⟩
 cases fl with
 | ret u=>
  obtain⟨v,σ',H',J,rv,q⟩:=hs;exact fin J rv q
 | next=>
  obtain⟨σ',H',J,q⟩:=hs;exact fin (v:=V.non) (u:=Value.none) J rfl q
 | brk=>
  obtain⟨_,_,_,q⟩:=hs;exact False.elim q
 | cont=>
  obtain⟨_,_,_,q⟩:=hs;exact False.elim q
section
variable {X:Cx}{x:Str}{p pos:Pos}{e:Expr}{es:List Expr}{t:TA}{id T:String}{r:List V->Hp->VK->Prop}
noncomputable def tCB (r:List V->Hp->VK->Prop)(t:TA):TE:=λσ H Q=>t σ H λvs H1=>r vs H1 Q
theorem zcx (hc:zbF X (.builtin id) r)(hg:Gl X x)(hm:X.mg x=none)(hv:bootBuiltins x=some (.builtin id))(ha:PA X (e::es) t)(hn:autoParam (x≠"__name__") aU1) (hdb:autoParam ((x == ("__debug__" : Str))=false) aU1)
  (he:autoParam (starEach (e::es) X.env=(false,eval e X.env)::starEach es X.env) aU0) (hpl:autoParam ((backTo pos (starEach es X.env)).any (·.1)=false) aU0):PE X (.Call (.Name x p) (e::es) [] pos) (tCB r t):=by
 intro pins s σ H Q I h;refine wpAny_Call_Name_kw (zho I hg hm hv ?_ hn hdb);exact PyProof.Rows.callWith_builtin1 (thn (ha pos pins s σ H _ I h) λus s1 q35q=>by obtain⟨vs,H1,I1,r1,q1⟩:=q35q;exact hc pins s1 σ H1 vs us Q I1 r1 q1) he hpl
theorem zdB (hc:zbF X (.type T) r)(hg:Gl X x)(hm:X.mg x=none)(hv:bootBuiltins x=some (.type T))(ha:PA X (e::es) t)(hn:autoParam (x≠"__name__") aU1) (hdb:autoParam ((x == ("__debug__" : Str))=false) aU1)
  (he:autoParam (starEach (e::es) X.env=(false,eval e X.env)::starEach es X.env) aU0) (hpl:autoParam ((backTo pos (starEach es X.env)).any (·.1)=false) aU0):PE X (.Call (.Name x p) (e::es) [] pos) (tCB r t):=by
 intro pins s σ H Q I h;refine wpAny_Call_Name_kw (zho I hg hm hv ?_ hn hdb);exact PyProof.Rows.callWith_type1 (thn (ha pos pins s σ H _ I h) λus s1 q36q=>by obtain⟨vs,H1,I1,r1,q1⟩:=q36q;exact hc pins s1 σ H1 vs us Q I1 r1 q1) he hpl
end
end L2
namespace HT
open PySem PyProof.Rows
section
open PySem.SeqAt
open PySem.MeetsSeq PySem.MeetsSeq2 PySem.MeetsSeq3
end
section
variable {prog:Program}{w:World}{A:Around}{E:Value->Shared->Prop}{s:Shared}
noncomputable def sIx (n d:Nat):Option Int->Nat
 | none=>d
 | some v=>if v<0 then(v+(n:Int)).toNat else min v.toNat n
theorem zji (n d k:Nat):sIx n d (some (k:Int))=min k n:=by
 show(if (k:Int)<0 then((k:Int)+(n:Int)).toNat else min (k:Int).toNat n)=min k n
 rw[if_neg (by lia),Int.toNat_natCast]
end
end HT
namespace L2
open PySem PySem.Spec PyProof.Rows
noncomputable abbrev TO:=St->Hp->(Option Int->Hp->Prop)->Prop
noncomputable def PO (X:Cx)(e:Option Expr)(t:TO):Prop:=
 ∀(pins:List (Addr×Obj)) (s:Shared) (σ:St) (H:Hp) (Q:Option Int->Hp->Prop),Inv X pins σ H s->t σ H Q->
  wpAny (model X.prog X.w) X.A (evalPart e X.env) (λu s'=>∃o H',Inv X pins σ H' s'/\IsPart u o/\Q o H') X.xe s
noncomputable def znc:TO:=λ_ H Q=>Q none H
noncomputable def zqs (t:TE):TO:=λσ H Q=>t σ H λx H1=>∃i,x=.int i/\Q (some i) H1
section
variable {X:Cx}{e:Expr}{te:TE}{lo hi:Option Expr}{tl th:TO}{pos p2:Pos}
theorem znd:PO X none znc:=by
 intro pins s σ H Q I h;rw[evalPart_none];exact wpAny_pure ⟨none,H,I,.none,h⟩
theorem zne (h:PE X e te):PO X (some e) (zqs te):=by
 intro pins s σ H Q I hw;rw[evalPart_some];refine thn (h pins s σ H _ I hw) λu s1 q37q=>?_;obtain⟨x,H1,I1,r1,q1⟩:=q37q;obtain⟨i,rfl,q⟩:=q1;obtain⟨t,rfl⟩:=r1;exact⟨some i,H1,I1,.int i t,q⟩
noncomputable def SlR (X:Cx)(r:V->Option Int->Option Int->Hp->VK->Prop):Prop:=
 ∀(pins:List (Addr×Obj)) (s:Shared) (σ:St) (H:Hp) (x:V) (v vl vu:Value) (lo hi:Option Int) (sl:Addr) (Q:VK),Inv X pins σ H s->RelV x v->s.heap.IsSliceOf sl vl vu .none->IsPart vl lo->IsPart vu hi->r x lo hi H Q->
  ∃T id,typeLookup (.type T) "__getitem__" = pure (some (.builtin id))/\s.TypeIs v T/\wpAny (model X.prog X.w) X.A (getItem v (.ref sl)) (EP X pins σ Q) X.xe s
noncomputable def tSl (r:V->Option Int->Option Int->Hp->VK->Prop)(te:TE)(tl th:TO):TE:=λσ H Q=>te σ H λx H1=>tl σ H1 λl H2=>th σ H2 λu H3=>r x l u H3 Q
theorem zhs {r:V->Option Int->Option Int->Hp->VK->Prop}(hr:SlR X r)(he:PE X e te)(hl:PO X lo tl)(hu:PO X hi th):PE X (.Subscript e (.Slice lo hi none p2) pos) (tSl r te tl th):=by
 intro pins s σ H Q I h;refine Subscript_ (thn (he pins s σ H _ I h) λv s1 q38q=>?_);obtain⟨x,H1,I1,r1,q1⟩:=q38q;refine wpAny_Slice (thn (hl pins s1 σ H1 _ I1 q1) λvl s2 ⟨l,H2,I2,pl,q2⟩=>thn (hu pins s2 σ H2 _ I2 q2) λvu s3 q40q=>?_);obtain⟨u,H3,I3,pu,q3⟩:=q40q;rw[evalPart_none];refine wpAny_pure ?_;have I4:Inv X pins σ H3 { s3 with heap:=s3.heap.push { cls:=.type "slice",data:=.fields #[vl,vu,.none] } }:=I3.kept (t':=s3.toks) λb ob q=>Heap.get?_push_of_some _ q;obtain⟨T,id,hT,ht,hg⟩:=hr pins { s3 with heap:=s3.heap.push { cls:=.type "slice",data:=.fields #[vl,vu,.none] } } σ H3 x v vl vu l u s3.heap.objs.size Q I4 r1 (Heap.IsSliceOf.new ..) pl pu q3;show wpAny (model X.prog X.w) X.A (subscriptTail e (.Slice lo hi none p2) v (.ref s3.heap.objs.size)) (EP X pins σ Q) X.xe { s3 with heap:=s3.heap.push { cls:=.type "slice",data:=.fields #[vl,vu,.none] } };exact tail_any (ops:=[.ref s3.heap.objs.size,v]) ht hT hg (by with_unfolding_all rfl)
noncomputable def cutV (xs:List V)(lo hi:Option Int):List V:=(xs.drop (HT.sIx xs.length 0 lo)).take (HT.sIx xs.length xs.length hi-HT.sIx xs.length 0 lo)
theorem zgC (xs:List V)(lo hi:Option Int):(cutV xs lo hi).length<=xs.length:=by
 unfold cutV;rw[List.length_take,List.length_drop];lia
end
noncomputable def ixN (n:Nat)(i:Int):Option Nat:=if 0<=i then(if i<n then some i.toNat else none) else if -(n:Int)<=i then some (i+n).toNat else none
noncomputable def atI {α:Type}(xs:List α)(i:Int):Option α:=(ixN xs.length i).bind λj=>xs[j]?
theorem znf {n:Nat}{i:Int}{j:Nat}(h:ixN n i=some j):seqIndex? i n=some j/\j<n/\-(n:Int)<=i/\i<n:=by
 unfold ixN at h;by_cases h0:0<=i
 ·rw[if_pos h0]at h;by_cases h1:i<n
  ·rw[if_pos h1]at h;have e:i.toNat=j:=Option.some.inj h;exact⟨by rw[seqIndex_of h0 h1,e],by lia,by lia,h1⟩
  ·rw[if_neg h1]at h;cases h
 ·rw[if_neg h0]at h;by_cases h1:-(n:Int)<=i
  ·rw[if_pos h1]at h;have e:(i+n).toNat=j:=Option.some.inj h;exact⟨by rw[seqIndex_neg (by lia) h1,e],by lia,h1,by lia⟩
  ·rw[if_neg h1]at h;cases h
theorem zgD {α:Type}{xs:List α}{i:Int}{v:α}(h:atI xs i=some v):∃j,seqIndex? i xs.length=some j/\xs[j]? = some v/\j<xs.length/\-(xs.length:Int)<=i/\i<xs.length:=by
 unfold atI at h;cases e:ixN xs.length i with
 | none=>rw[e]at h;cases h
 | some j=>
  rw[e]at h;obtain⟨h1,h2,h3,h4⟩:=znf e;exact⟨j,h1,h,h2,h3,h4⟩
theorem zbo {α:Type}{xs:List α}{j:Nat}{v:α}(h:xs[j]? = some v):atI xs (j:Int)=some v:=by
 have hj:j<xs.length:=(List.getElem?_eq_some_iff.mp h).1;have e:ixN xs.length (j:Int)=some j:=by
  unfold ixN;rw[if_pos (by lia),if_pos (by lia)];simp
 unfold atI;rw[e];exact h
noncomputable def zgE (b:Expr):Prop:=∀o i,subscripted b false o i=operate [o,i] (getItem o i)
noncomputable def IxR (X:Cx)(r:R2):Prop:=
 ∀(value slice:Expr) (pins:List (Addr×Obj)) (s:Shared) (σ:St) (H:Hp) (x y:V) (v u:Value) (Q:VK),Inv X pins σ H s->RelV x v->RelV y u->r x y H Q->
  subscripted slice false v u=operate [v,u] (getItem v u)->wpAny (model X.prog X.w) X.A (subscriptTail value slice v u) (EP X pins σ Q) X.xe s
noncomputable def MtR (X:Cx)(id:String)(r:V->List V->Hp->VK->Prop):Prop:=
 ∀(pins:List (Addr×Obj)) (s:Shared) (σ:St) (H:Hp) (x:V) (xs:List V) (v:Value) (us:List Value) (Q:VK),Inv X pins σ H s->RelV x v->Vals xs us->r x xs H Q->
  wpAny (model X.prog X.w) X.A (call (.builtin id) (v::us)) (EP X pins σ Q) X.xe s
section
variable {X:Cx}{a b:Expr}{ta tb:TE}{pos:Pos}
theorem IxR.or {r r':R2}(h:IxR X r)(h':IxR X r'):IxR X (λx y H Q=>r x y H Q\/r' x y H Q):=by
 intro value slice pins s σ H x y v u Q I rx ry q hs;rcases q with q | q
 ·exact h value slice pins s σ H x y v u Q I rx ry q hs
 ·exact h' value slice pins s σ H x y v u Q I rx ry q hs
theorem zqt {r:R2}(hr:IxR X r)(ha:PE X a ta)(hb:PE X b tb)(hs:zgE b):PE X (.Subscript a b pos) (tOp r ta tb):=by
 intro pins s σ H Q I h;exact Subscript_ (binT ha hb I h λv u s2 x y H2 I2 rx ry q=>hr a b pins s2 σ H2 x y v u Q I2 rx ry q (hs _ _))
noncomputable def rIxL (K:PySem.W.Frag):R2:=λx y H Q=>∃p xs i v,x=.ref p/\y=.int i/\SqL K H p xs/\atI xs i=some v/\Q v H
noncomputable def rIxT (K:PySem.W.Frag):R2:=λx y H Q=>∃p xs i v,x=.ref p/\y=.int i/\SqT K H p xs/\atI xs i=some v/\Q v H
noncomputable def rIxS:R2:=λx y H Q=>∃z i c,x=.str z/\y=.int i/\z.length<=sizeLine/\atI z.cps.toList i=some c/\Q (.str ⟨#[c]⟩) H
theorem zng:IxR X (rIxL X.K):=by
 intro value slice pins s σ H x y v u Q I rx ry h hs;obtain⟨p,xs,i,z,rfl,rfl,hq,he,q⟩:=h;cases rx;obtain⟨t,rfl⟩:=ry;obtain⟨its,r,pl,hz⟩:=I.list hq;obtain⟨j,h1,h2,h3,h4,h5⟩:=zgD he;obtain⟨w,ew,rw'⟩:=r.get h2;have hl:=r.length;have hn:=zfz;have fin:EP X pins σ Q w s:=⟨z,H,I,rw',q⟩;by_cases h0:0<=i
 ·have hj:i.toNat=j:=by
   rw[seqIndex_of h0 h5]at h1;exact Option.some.inj h1
  exact item_listR pl.isList h0 (by lia) (by rw[hj];simpa using ew) fin hs
 ·have hj:(i+(its.toArray.size:Int)).toNat=j:=by
   rw[seqIndex_neg (by lia) h4]at h1;rw[List.size_toArray,<- hl];exact Option.some.inj h1
  exact subscriptTail_builtinR (x:=w) pl.isList.typeIs slot_list_getitem.lookup
   (wpAny_getItem_list_neg (Q:=λr s'=>r=w/\EP X pins σ Q r s') pl.isList (by lia) (by rw[List.size_toArray]<;>lia) (by lia) (by rw[hj];simpa using ew) ⟨rfl,fin⟩) hs
theorem zoL:IxR X (rIxT X.K):=by
 intro value slice pins s σ H x y v u Q I rx ry h hs;obtain⟨p,xs,i,z,rfl,rfl,hq,he,q⟩:=h;cases rx;obtain⟨t,rfl⟩:=ry;obtain⟨its,r,pl,hz⟩:=I.tuple hq;obtain⟨j,h1,h2,h3,h4,h5⟩:=zgD he;obtain⟨w,ew,rw'⟩:=r.get h2;have hl:=r.length;have hn:=zfz;have fin:EP X pins σ Q w s:=⟨z,H,I,rw',q⟩;exact subscriptTail_builtinR (x:=w) pl.typeIs slot_tuple_getitem.lookup
  (getItem_tuple (j:=j) (Q:=λr s'=>r=w/\EP X pins σ Q r s') pl (by lia) (by lia) (by rw[List.size_toArray,<- hl];exact h1) (by simpa using ew) ⟨rfl,fin⟩) hs
theorem zoM:IxR X rIxS:=by
 intro value slice pins s σ H x y v u Q I rx ry h hs;obtain⟨z,i,c,rfl,rfl,hz,he,q⟩:=h;obtain⟨t,rfl⟩:=rx;obtain⟨t',rfl⟩:=ry;obtain⟨j,h1,h2,h3,h4,h5⟩:=zgD he;have hl:z.cps.toList.length=z.length:=by simp[Str.length]
 rw[hl]at h1 h4 h5;have hn:=zfz;exact tail_any (typeIs_str s z t) slot_str_getitem.lookup (getItem_str (c:=c) (by
  have e1:decide (i < -(2 ^ 63:Int))=false:=decide_eq_false (by lia);have e2:decide (i>=2 ^ 63)=false:=decide_eq_false (by lia);rw[e1,e2,Bool.or_false]) (by rw[h1];simpa using h2) ⟨.str ⟨#[c]⟩,H,I.tok _,⟨_,rfl⟩,q⟩) hs
noncomputable def rIx (K:PySem.W.Frag):R2:=λx y H Q=>rIxL K x y H Q\/rIxT K x y H Q\/rIxS x y H Q
theorem zoN:IxR X (rIx X.K):=zng.or (zoL.or zoM)
theorem zfE (lo hi:Option Int)(n:Nat):(sliceBounds lo hi none n).1=((HT.sIx n 0 lo:Nat):Int)/\(sliceBounds lo hi none n).2.1=((HT.sIx n n hi:Nat):Int)/\(sliceBounds lo hi none n).2.2=1:=by
 refine⟨?_,?_,rfl⟩
 ·cases lo with
  | none=>simp[sliceBounds,HT.sIx]
  | some i=>
   simp only[sliceBounds,HT.sIx,Option.getD_none,show(1:Int) > 0 by decide,if_true];by_cases h:i<0
   ·simp only[h,if_true]<;>lia
   ·simp only[h,if_false]<;>lia
 ·cases hi with
  | none=>simp[sliceBounds,HT.sIx]
  | some i=>
   simp only[sliceBounds,HT.sIx,Option.getD_none,show(1:Int) > 0 by decide,if_true];by_cases h:i<0
   ·simp only[h,if_true]<;>lia
   ·simp only[h,if_false]<;>lia
theorem zeO (its:List Value)(lo hi:Option Int):slicePick its.toArray lo hi none=((its.drop (HT.sIx its.length 0 lo)).take (HT.sIx its.length its.length hi-HT.sIx its.length 0 lo)).toArray:=by
 obtain⟨h1,h2,h3⟩:=zfE lo hi its.toArray.size;unfold slicePick;rw[h1,h2,h3];simp only[sliceRange_one,pick_run,List.size_toArray]<;>rfl
noncomputable def rSlL (K:PySem.W.Frag):V->Option Int->Option Int->Hp->VK->Prop:=λx lo hi H Q=>∃a xs,x=.ref a/\SqL K H a xs/\∀p,H p=none->Q (.ref p) (upd H p (.lst (cutV xs lo hi)))
theorem znh:SlR X (rSlL X.K):=by
 intro pins s σ H x v vl vu lo hi sl Q I rx hs pl pu h;obtain⟨a,xs,rfl,hx,q⟩:=h;cases rx;obtain⟨its,r,ht,hz⟩:=I.list hx;have hlen:=r.length;refine⟨"list",_,slot_list_getitem.lookup,ht.isList.typeIs,?_⟩;refine wpAny_getItem_list_slice ht.isList hs pl pu .none (by simp) ?_ (by rw[List.size_toArray]<;>lia);rw[zeO,<- hlen];refine⟨.ref s.heap.objs.size,_,I.laid (t':=s.toks) (o:=.lst (cutV xs lo hi)) (λb ob q=>Heap.get?_push_of_some _ q) (Nat.le_refl _) ?_,rfl,q _ (I.hok.fresh (Nat.le_refl _))⟩;exact⟨Nat.le_trans (zgC xs lo hi) hz,_,0,(r.drop (HT.sIx xs.length 0 lo)).take (HT.sIx xs.length xs.length hi-HT.sIx xs.length 0 lo),Heap.get?_push_size _ rfl⟩
theorem zfF:zbF X (.type "list") (λxs H Q=>∃p ys,xs=[.ref p]/\(SqL X.K H p ys\/SqT X.K H p ys)/\∀l,H l=none->Q (.ref l) (upd H l (.lst ys))):=by
 intro pins s σ H xs us Q I r h;obtain⟨p,ys,rfl,hq,q⟩:=h;obtain⟨u,rfl,rx⟩:=vals1 r;cases rx;have fin:∀(its:List Value),Vals ys its->ys.length<=sizeLine->∀(h':Heap) (c':Nat),(∀b o',s.heap.get? b=some o'->h'.get? b=some o')->
   h'.get? s.heap.objs.size=some { cls:=.type "list",dict:=none,data:=.seq its.toArray c',slots:=#[] }->EP X pins σ Q (.ref s.heap.objs.size) { s with heap:=h' }:=λits r' hz h' c' kp e=>
  ⟨.ref s.heap.objs.size,_,I.laid (t':=s.toks) kp (Nat.le_refl _) (show zby X.prog X.w _ h' _ (.lst ys) from⟨hz,its,c',r',e⟩),rfl,q _ (I.hok.fresh (Nat.le_refl _))⟩
 rcases hq with hq | hq
 ·obtain⟨its,r',pl,hz⟩:=I.list hq;have hlen:=r'.length;obtain⟨o,ho,hc,n,hd⟩:=pl.isList;exact call_list_seq p (.inl rfl) ho hc hd (λh' c' kp e=>fin its r' hz h' c' kp e) (by simp only[List.size_toArray]<;>lia)
 ·obtain⟨its,r',pl,hz⟩:=I.tuple hq;have hlen:=r'.length;obtain⟨o,ho,hc,n,hd⟩:=pl;exact call_list_seq p (.inr rfl) ho hc hd (λh' c' kp e=>fin its r' hz h' c' kp e) (by simp only[List.size_toArray]<;>lia)
theorem zcy:zbF X (.type "tuple") (λxs H Q=>∃p ys,xs=[.ref p]/\((SqL X.K H p ys/\∀l,H l=none->Q (.ref l) (upd H l (.tup ys)))\/(SqT X.K H p ys/\Q (.ref p) H))):=by
 intro pins s σ H xs us Q I r h;obtain⟨p,ys,rfl,h⟩:=h;obtain⟨u,rfl,rx⟩:=vals1 r;cases rx;rcases h with ⟨hq,q⟩ | ⟨hq,q⟩
 ·obtain⟨its,r',pl,hz⟩:=I.list hq;have hlen:=r'.length;refine call_tuple_list pl.isList (λh' kp=>?_) (by simp only[List.size_toArray]<;>lia);have I1:Inv X pins σ H { s with heap:=h' }:=I.kept (t':=s.toks) kp;have I2:Inv X pins σ (upd H h'.objs.size (.tup ys)) { s with heap:=h'.push { cls:=.type "tuple",data:=.seq its.toArray } }:=
   I1.laid (t':=s.toks) (λb o e=>Heap.get?_push_of_some _ e) (Nat.le_refl _) (show zby X.prog X.w _ _ _ (.tup ys) from⟨hz,its,r',zcv.new _ _⟩)
  exact⟨.ref h'.objs.size,_,I2,rfl,q _ (I1.hok.fresh (Nat.le_refl _))⟩
 ·obtain⟨its,r',pl,hz⟩:=I.tuple hq;exact call_tuple_same pl ⟨.ref p,H,I,rfl,q⟩
noncomputable def tyV (K:PySem.W.Frag)(T:String)(x:V)(H:Hp):Prop:=match x with
 | .str _=>T = "str"
 | .int _=>T = "int"
 | .ref p=>(T = "list"/\∃xs,SqL K H p xs)\/(T = "tuple"/\∃o,K.lookup p=some o/\o.cls=.type "tuple"/\o.dict=none)\/
   (T = "dict"/\((∃kvs,H p=some (.dK kvs))\/∃kvs,H p=some (.dT kvs)))\/(T = "set"/\∃S n,H p=some (.set S n))
 | _=>False
theorem zoO {pins:List (Addr×Obj)}{σ:St}{H:Hp}{s:Shared}{T:String}{x:V}{v:Value}(I:Inv X pins σ H s)(r:RelV x v)(ty:tyV X.K T x H) :
  s.TypeIs v T/\∀a,v=.ref a->∃ob,s.heap.get? a=some ob/\ob.dict=none:=by
 cases x with
 | str z=>
  obtain⟨t,rfl⟩:=r;cases (show T = "str" from ty);exact⟨typeIs_str s z t,λ_ e=>nomatch e⟩
 | int i=>
  obtain⟨t,rfl⟩:=r;cases (show T = "int" from ty);exact⟨typeIs_int s i t,λ_ e=>nomatch e⟩
 | ref p=>
  cases r;rcases ty with ⟨rfl,xs,hq⟩ | ⟨rfl,o,hk,hc,hd⟩ | ⟨rfl,hk⟩ | ⟨rfl,S,n,hk⟩
  ·obtain⟨its,_,pl,_⟩:=I.list hq;refine⟨pl.isList.typeIs,λa e=>?_⟩;cases e;obtain⟨o,n,e,c,hd,_⟩:=pl;exact⟨o,e,hd⟩
  ·refine⟨⟨o,I.kIn p o hk,hc⟩,λa e=>?_⟩;cases e;exact⟨o,I.kIn _ o hk,hd⟩
  ·have z:∃o,s.heap.get? p=some o/\o.ExactDict:=by
    rcases hk with ⟨kvs,hk⟩ | ⟨kvs,hk⟩
    ·obtain⟨_,_,_,_,o,_,_,e,ex,_⟩:=I.hok p _ hk;exact⟨o,e,ex⟩
    ·obtain⟨_,_,_,_,o,_,_,e,ex,_⟩:=I.hok p _ hk;exact⟨o,e,ex⟩
   obtain⟨o,e,ex⟩:=z;refine⟨⟨o,e,ex.1⟩,λa e2=>?_⟩;cases e2;exact⟨o,e,ex.2.1⟩
  ·obtain⟨o,_,_,_,e,ex,_⟩:=I.hok p _ hk;refine⟨⟨o,e,ex.1⟩,λa e2=>?_⟩;cases e2;exact⟨o,e,ex.2.1⟩
 | _=>exact False.elim ty
noncomputable def tBM (K:PySem.W.Frag)(T:String)(r:V->List V->Hp->VK->Prop)(to:TE)(t:TA):TE:=λσ H Q=>to σ H λx H1=>tyV K T x H1/\t σ H1 λxs H2=>r x xs H2 Q
variable {o e:Expr}{es:List Expr}{to:TE}{t:TA}{name:Str}{apos cpos:Pos}{T id:String}{r:V->List V->Hp->VK->Prop}
theorem zoP (pa:PlainAttrs T)(slot:Slot T name id)(hty:typeOf (.builtin id)=pure (.type "method_descriptor")) (hm:MtR X id r) (ho:PE X o to) (ha:PA X (e::es) t)
  (hbase:autoParam (attributeBase o name X.env (eval o X.env)=eval o X.env) aU0)
  (hfew:autoParam (((backTo cpos (starEach (e::es) X.env)).all (λx=>!x.1)&&(backToKw cpos (keywordEach [] X.env)).all (λx=>x.1.isSome)
   && decide ((e::es).length+([]:List Keyword).length+(if ([]:List Keyword).isEmpty then 0 else 1)<30))=true) aU0)
  (hline:autoParam ((apos.endLine == cpos.line)=true) aU0) (hs:autoParam (starEach (e::es) X.env=(false,eval e X.env)::starEach es X.env) aU0) (hplain:autoParam ((backTo cpos (starEach es X.env)).any (·.1)=false) aU0) :
  PE X (.Call (.Attribute o name apos) (e::es) [] cpos) (tBM X.K T r to t):=by
 intro pins s σ H Q I h;refine wpAny_Call_method_late hbase hfew hline rfl (thn (ho pins s σ H _ I h) λv s1 q41q=>?_);obtain⟨x,H1,I1,r1,ty,q1⟩:=q41q;obtain⟨h1,h2⟩:=zoO I1 r1 ty;refine⟨T,id,pa,slot,hty,h1,h2,?_⟩;have hA:=ha cpos pins s1 σ H1 _ I1 q1;rw[hs]at hA ⊢;refine Calls.callWith_builtin (by show(false||(backTo cpos (starEach es X.env)).any (·.1))=false;rw[hplain]<;>rfl) (Calls.evalArgs_plain ?_)
 exact thn hA λus s2 q42q=>by obtain⟨vs,H2,I2,r2,q2⟩:=q42q;exact hm pins s2 σ H2 x vs v us Q I2 r1 r2 q2
end
noncomputable def MtM (X:Cx)(id:String)(r:V->List V->Hp->VK->Prop):Prop:=
 ∀(pins:List (Addr×Obj)) (s:Shared) (σ:St) (H:Hp) (x:V) (xs:List V) (v:Value) (us:List Value) (Q:VK),Inv X pins σ H s->RelV x v->Vals xs us->r x xs H Q->
  wpAny (model X.prog X.w) X.A (call (.builtin id) (v::us)) (EP X pins σ Q) X.xe s
theorem Vals.one:∀ {x:V}{us:List Value},Vals [x] us->∃u,us=[u]/\RelV x u:=by
 intro x us h;cases h with
 | cons r t=>cases t;exact⟨_,rfl,r⟩
section
variable {X:Cx}{pins:List (Addr×Obj)}{σ:St}{H:Hp}{s:Shared}{l b:Addr}{xs ys zs:List V}
theorem Inv.lset {its its':List Value}{n:Nat}{f:Array Value->Array Value}{t':Nat}(I:Inv X pins σ H s)(hH:H l=some (.lst xs))
  (e:s.heap.get? l=some { cls:=.type "list",data:=.seq its.toArray n }) (hf:f its.toArray=its'.toArray) (hv:Vals ys its') (hz:ys.length<=sizeLine) :
  Inv X pins σ (upd H l (.lst ys)) { s with heap:=s.heap.update l (Obj.mapSeq f),toks:=t' }:=by
 have q:=PySem.IsL.update e f;rw[hf]at q;refine I.write (x:=l) (e:=l) (by rw[hH];exact trivial) (.inl rfl) (λb' u hb hu=>(Heap.get?_update_other s.heap (Obj.mapSeq f) (Ne.symm hb)).trans hu) ⟨_,q⟩ ?_;exact⟨hz,its',_,hv,q⟩
theorem Inv.lnew {its:List Value}{t':Nat}(I:Inv X pins σ H s)(hv:Vals ys its)(hz:ys.length<=sizeLine) :
  Inv X pins σ (upd H s.heap.objs.size (.lst ys)) { s with heap:=s.heap.push { cls:=.type "list",data:=.seq its.toArray },toks:=t' }:=
 I.laid (λ_ _ q=>Heap.get?_push_of_some _ q) (Nat.le_refl _) ⟨hz,its,0,hv,Heap.get?_push_size _ rfl⟩
theorem Inv.fresh (I:Inv X pins σ H s):H s.heap.objs.size=none:=I.hok.fresh (Nat.le_refl _)
theorem Inv.lstM (I:Inv X pins σ H s)(hH:H l=some (.lst xs)):xs.length<=sizeLine/\∃(its:List Value)(n:Nat),Vals xs its/\xs.length=its.length/\s.heap.get? l=some { cls:=.type "list",data:=.seq its.toArray n }:=by
 obtain⟨z,its,n,r,e⟩:=I.hok l _ hH;exact⟨z,its,n,r,r.length,e⟩
end
section
variable {X:Cx}
noncomputable def zni:V->List V->Hp->VK->Prop:=λx vs H Q=>∃l xs y,x=.ref l/\vs=[y]/\H l=some (.lst xs)/\xs.length<sizeLine/\Q .non (upd H l (.lst (xs++[y])))
theorem zdC:MtM X "list.append" zni:=by
 intro pins s σ H x vs v us Q I rx rv h;obtain⟨l,xs,y,rfl,rfl,hH,hz,q⟩:=h;cases rx;obtain⟨u,rfl,ru⟩:=rv.one;obtain⟨z,its,n,r,hl,e⟩:=I.lstM hH;refine call_meets F.slot_list_append ⟨_,e,rfl⟩ F.entry_list_append (F.args_list_append_2 _ _) (PySem.list_append l its.toArray n u (by rw[List.size_toArray];lia)) ⟨e,?_⟩;refine⟨.non,_,I.lset (its':=its++[u]) hH e (by simp) (r.append (.cons ru .nil)) ?_,rfl,q⟩;rw[List.length_append,List.length_singleton];lia
end
section
variable {κ:Type} [DecidableEq κ]
theorem KV.length {kvs:List (κ×V)}{vs:List (κ×Value)}(r:KV kvs vs):kvs.length=vs.length:=Paired.length r
end
theorem zqu {P:Program}{w:World}{k:Key}{u:Value}(r:RelV (kV k) u):(zbm P w).is k u=true:=by
 cases k with
 | inl i=>obtain⟨t,e⟩:=(show ∃t,u=Value.int i t from r);subst e;exact zgx P w i t
 | inr x=>obtain⟨t,e⟩:=(show ∃t,u=Value.str x t from r);subst e;exact zgy P w x t
theorem zfG {P:Program}{w:World}:∀ {ks:List Key}{us:List Value},Vals (ks.map kV) us->ItemsAre (zbm P w) ks us
 | [],_,r=>by rw[List.map_nil]at r;cases r;exact .nil
 | k::ks,_,r=>by
  rw[List.map_cons]at r;cases r with
  | cons h t=>exact .cons (zqu h) (zfG t)
noncomputable abbrev KT (H:Hp):List (List Key×V)->List (List Key×Addr×Value)->Prop:=Paired λp q=>p.1=q.1/\H q.2.1=some (.tup (p.1.map kV))/\RelV p.2 q.2.2
section
variable {P:Program}{w:World}{H:Hp}{h:Heap}{a:Addr}
theorem zoQ {u:HO}(ok:HOk P w H h)(e:Rd H a u):zby P w H h a u:=e.ok ok
theorem zoR {kvs:List (Key×V)}(ok:HOk P w H h)(e:Rd H a (.dK kvs)):kvs.length<=sizeLine/\(a == sysModules)=false/\∃vs,KV kvs vs/\h.DictOf (zbm P w) a vs:=
 show zby P w H h a (.dK kvs) from zoQ ok e
theorem zoS {ks:List Key}(ok:HOk P w H h)(e:H a=some (.tup (ks.map kV))):(tupleKind (zbm P w)).is h ks a:=by
 obtain⟨_,its,r,o,h1,h2,⟨n,h3⟩,_⟩:=(show zby P w H h a (.tup (ks.map kV)) from ok a _ e);exact⟨o,its.toArray,n,h1,h2,h3,by simpa using zfG r⟩
theorem zqv {kvs:List (List Key×V)}(ok:HOk P w H h)(e:Rd H a (.dT kvs)):kvs.length<=sizeLine/\(a == sysModules)=false/\
  ∃xs,KT H kvs xs/\h.DictOfH (tupleKind (zbm P w)) a xs:=by
 obtain⟨z,y,xs,r,o,es,ep,h1,h2,h3,h4,h5⟩:=(show zby P w H h a (.dT kvs) from zoQ ok e);refine⟨z,y,xs,r,o,es,ep,h1,h2,h3,h4,λx hx=>?_,h5⟩;have all:∀ {l:List (List Key×V)} {m:List (List Key×Addr×Value)},KT H l m->∀x∈m,(tupleKind (zbm P w)).is h x.1 x.2.1:=by
  intro l m q;induction q with
  | nil=>intro x hx;exact nomatch hx
  | @cons p q ps qs hq t ih=>
   intro x hx;rcases List.mem_cons.mp hx with e | hx
   ·subst e;exact zoS ok (by rw[<- hq.1];exact hq.2.1)
   ·exact ih x hx
 exact all r x hx
end
section
variable {X:Cx}{pins:List (Addr×Obj)}{σ:St}{H:Hp}{s:Shared}{a:Addr}{kvs:List (Key×V)}{k:Key}{u:Value}{A:Around}{E:Value->Shared->Prop}
theorem zqw {Q:Value->Shared->Prop}(I:Inv X pins σ H s)(e:Rd H a (.dK kvs))(h:∀t s',Inv X pins σ H s'->Q (.int kvs.length t) s'):wpAny (model X.prog X.w) A (call (.builtin "len") [.ref a]) Q E s:=by
 obtain⟨z,hd,vs,rel,dd⟩:=zoR I.hok e;refine call_len_dict hd dd (by rw[<- rel.length];rw[sizeLine_eq]at z;lia) ?_;rw[<- rel.length];exact h _ _ (I.tok _)
end
structure M1 (X:Cx)(o:Expr)(m:Str)(apos:Pos)(e:Expr)(cpos:Pos):Prop where
 base:attributeBase o m X.env (eval o X.env)=eval o X.env
 few:((backTo cpos (starEach [e] X.env)).all (λx=>!x.1)&&(backToKw cpos (keywordEach [] X.env)).all (λx=>x.1.isSome)
  && decide (([e]:List Expr).length+([]:List Keyword).length+(if ([]:List Keyword).isEmpty then 0 else 1)<30))=true
 line:(apos.endLine == cpos.line)=true
 trees:backTo cpos (starEach [e] X.env)=[(false,eval e X.env)]
end L2
namespace Att
open PySem PySem.W PySem.Calls PyProof.Rows
theorem zdD {P:Params}{h:Heap}:∀(ns:List Int)(vs:List Value),WellAll P h vs (ns.map WData.int)->IntsAre vs ns:=by
 intro ns;induction ns with
 | nil=>
  intro vs w;rw[List.map_nil]at w;cases w;exact .nil
 | cons n ns ih=>
  intro vs w;rw[List.map_cons]at w;cases w with
  | cons a b=>
   cases a;exact .cons _ _ (ih _ b)
theorem zjj {l:OpenLaw}{n:Nat}(hn:l.most=some n){P:Params}{h:Heap}{args:List WData}{vals:List Value}
  (hpre:l.row.toRowW.claim.pre args=true) (hwl:WellAll P h vals args) :
  ∃a vs ns,vals=[Value.ref a]/\args=[WData.list (ns.map WData.int)]/\h.get? a=some { cls:=.type "list",data:=.seq vs.toArray }/\IntsAre vs ns/\ns.length<=n:=by
 have hsh:WShape.hasAll [] args [.list .int]=true:=(pre_splitW hpre).1;have hc:l.pre.holds [] { args:=args }=true:=(pre_splitW hpre).2;obtain⟨d,r,rfl,h1,h2⟩:=hasAllW_cons hsh;obtain rfl:=hasAllW_nil h2;obtain⟨xs,rfl,h3⟩:=hasW_list h1;obtain⟨ns,rfl⟩:=items_int h3;have hlen:ns.length<=n:=by
  unfold OpenLaw.pre at hc;have h4:(WTm.not (.lt (.lit (.int (n:Int))) (.len (.arg 0)))).holds [] { args:=[.list (ns.map .int)] }=true:=by
   have h4:=(holds_andW hc).1;rw[hn]at h4;exact h4
  have h5:=condW_of h4 (w_not (w_lt w_lit (w_len_list (w_arg rfl))));rw[List.length_map]at h5;refine Nat.le_of_not_lt λq=>?_;have q':(n:Int)<((ns.length:Nat):Int):=by lia
  first
   | (rw[decide_eq_true q']at h5;exact absurd h5 (by decide))
   | (simp at h5;lia)
 cases hwl with
 | cons w1 w2=>
  cases w2;cases w1 with
  | list ho hall=>exact⟨_,_,ns,rfl,rfl,ho,zdD ns _ hall,hlen⟩
theorem zjk (l:OpenLaw)(args:List WData):l.row.toRowW.claim.post args (.bool true) args=true:=
 postW_of (r:=l.row.toRowW) (X:=(true == true))
  (show WShape.has [] (.bool true) .bool=true by first | rfl | decide | simp[WShape.has,WShape.arms,WShape.armsAll])
  (show(WTm.eq .res (.lit (.bool true))).value [] { args:=args,res:=some (.bool true),after:=args }=some (.bool (true == true)) from w_eq_bool (w_res rfl) w_lit) rfl
theorem zgF {l:OpenLaw}{n:Nat}{q:Program}{loose:List Str}{XP:(Str->Option Value)->Heap->Prop}{YP:World->Heap->Prop}{d:DefRec}
  (hn:l.most=some n) (hdf:d.params.defaults=[])
  (call:∀(w:World) (s₀ s₁:Shared) (mg mb:Str->Option Value) (fa:Addr) (o:Obj) (pm cd doc:Value) (a:Addr) (vs:List Value) (ns:List Int),
   Ground q loose [] XP w s₀ mg mb s₁.heap->YP w s₁.heap->
   s₁.heap.get? fa=some o->o.data=.func (docDef d.name d.params d.body d.scope pm cd doc)->s₁.heap.CodeRec cd d.name->mg d.name=some (.ref fa)->
   s₁.heap.get? a=some { cls:=.type "list",data:=.seq vs.toArray }->IntsAre vs ns->ns.length<=n->s₁.gens = #[]->
   codeAny (model l.prog w) callerA (.call (.ref fa) ⟨[.ref a],[]⟩) (λr s'=>r=.ok (.ret (.bool true))/\OldK s₁.heap s'.heap/\s'.os=s₁.os/\AllBare s'.gens) s₁) :
  WalkO q loose XP YP l.row.toRowW d [] (λf vs=>PySem.call f vs):=by
 intro w s₀ s₁ mg mb G Y fa o pm cd doc dV kV ho hd hcd hD hmg hg args vals as hpre hlay hrd hwl hlo;obtain rfl:dV=.none:=Dflts.none hD hdf;obtain rfl:kV=.none:=Dflts.noKw hD;obtain⟨a,vs,ns,rfl,rfl,hobj,hints,hlen⟩:=zjj hn hpre hwl;refine enter_call (codeAny_mono (call w s₀ s₁ mg mb fa o pm cd doc a vs ns G Y ho (fd_plain hd) hcd hmg hobj hints hlen hg) λr s' hq=>?_);obtain⟨rfl,h2,h3,h4⟩:=hq;exact⟨.inl ⟨.bool true,.bool true,[],rfl,λ_=>rfl,.bool true,zjk l _,λ_=>⟨List.Pairwise.nil,λ_ hm=>(nomatch hm)⟩⟩,h2,h3,h4⟩
end Att
namespace L2
open PySem PySem.Spec PyProof.Rows
theorem zfH:∀ {vs:List Value}{ns:List Int},IntsAre vs ns->Vals (ns.map V.int) vs
 | _,_,.nil=>.nil
 | _,_,.cons n t h=>.cons ⟨t,rfl⟩ (zfH h)
noncomputable def Only (H:Hp):Prop:=∀b,H b=none\/∃o xs,H b=some (.frz o (.lst xs))
noncomputable abbrev KOf {K:PySem.W.Frag}{h:Heap}(_:K.In h):PySem.W.Frag:=K
noncomputable def zar (s:Stmt):Arguments:=match s with
 | .FunctionDef _ a _ _ _ _ _ _ _ _=>a
 | _=>{ posonlyargs:=[],args:=[],vararg:=none,kwonlyargs:=[],kw_defaults:=[],kwarg:=none,defaults:=[] }
noncomputable def zap (s:Stmt):List Stmt:=match s with
 | .FunctionDef _ _ b _ _ _ _ _ _ _=>b
 | _=>[]
noncomputable def zac (s:Stmt):Scope:=match s with
 | .FunctionDef _ _ _ _ _ _ sc _ _ _=>sc
 | _=>{ kind:=.function,names:=[],isGenerator:=false,isCoroutine:=false }
noncomputable abbrev CX0:CXT:=λ_ _ _ _ _ _=>False
noncomputable abbrev E0:XK:=λ_ _ _=>False
theorem zqx {X:Cx}:zeq CX0 X E0:=λ_ _ _ _ _ _ _ h=>h.elim
structure Fun (K:PySem.W.Frag)(x qual:Str)(st:Stmt)(f:Addr)(fd:FuncData):Prop where
 ex:∃(oc:Value) (od:Option Addr) (kV doc pm:Value) (an:Option Addr) (cdv ct:Value) (osl:Array (Option Value)),
  fd=PySem.W.fnOf x qual (zar st) (zap st) (zac st) .none kV doc pm an cdv ct/\K.lookup f=some ⟨oc,od,.func fd,osl⟩/\PySem.W.codeIn K cdv qual=true
 kp:PySem.W.keepIn K (.ref f)=true
section
variable {P:Program}{w:World}{K:PySem.W.Frag}{mg:Str->Option Value}{base:Heap}
theorem Fun.ok {x qual:Str}{st:Stmt}{f:Addr}{fd:FuncData}{N ps:List Str}{k:Nat}{sp:Sp}(F:Fun K x qual st f fd)(S:zaq N ps (zac st))(len:∀vs H Q E,sp vs H Q E->vs.length=ps.length)
  (hbody:∀(cdv:Value) (A:Around) (outer:List Env) (s:Shared) (H:Hp) (vs:List V) (Q:VK) (E:XK),Room k (A.deeper (envOfC qual (zac st) s.heap.objs.size f cdv))->sp vs H Q E->
   ∃t,PSs (cxOf CX0 P w K mg base N qual (zac st) f cdv A outer s H E).nox (zap st) t/\t { nx:=λ_ H'=>Q .non H',rt:=Q } (start N vs) H):FnOk P w K mg base CX0 (k+1) f fd ps sp:=by
 obtain⟨oc,od,kV,doc,pm,an,cdv,ct,osl,rfl,lk,hcd⟩:=F.ex;refine zoK lk hcd S len λA outer s H vs Q E hr hsp=>?_;obtain⟨t,h,q⟩:=hbody cdv A outer s H vs Q E hr hsp;exact⟨t,h.nox,q⟩
theorem Fun.binds {x qual:Str}{st:Stmt}{f:Addr}{fd:FuncData}{ps:List Str}(F:Fun K x qual st f fd)
  (h:∀(kV doc pm:Value) (an:Option Addr) (cdv ct:Value) (us:List Value),us.length=ps.length->bindArgs (PySem.W.fnOf x qual (zar st) (zap st) (zac st) .none kV doc pm an cdv ct) ⟨us,[]⟩=pure (ps.zip us)):Binds K fd ps []:=by
 obtain⟨oc,od,kV,doc,pm,an,cdv,ct,osl,rfl,lk,hcd⟩:=F.ex;exact .all (h kV doc pm an cdv ct)
theorem zaU {x qual:Str}{st:Stmt}{f:Addr}{oc:Value}{od an:Option Addr}{osl:Array (Option Value)}{kV doc pm cdv ct:Value}(l:K.lookup f=some ⟨oc,od,.func (PySem.W.fnOf x qual (zar st) (zap st) (zac st) .none kV doc pm an cdv ct),osl⟩)
  (c:PySem.W.codeIn K cdv qual=true) (k:PySem.W.keepIn K (.ref f)=true):Fun K x qual st f (PySem.W.fnOf x qual (zar st) (zap st) (zac st) .none kV doc pm an cdv ct):=⟨⟨oc,od,kV,doc,pm,an,cdv,ct,osl,rfl,l,c⟩,k⟩
end
theorem iteF {A B:Prop}(h:B):if false=true then A else B:=by
 rw[if_neg Bool.false_ne_true];exact h
theorem iteT {A B:Prop}(h:A):if true=true then A else B:=by
 rw[if_pos rfl];exact h
theorem ite2 {c A B:Prop} [Decidable c] (h1:c->A)(h2:¬ c->B):if c then A else B:=by
 by_cases h:c
 ·rw[if_pos h];exact h1 h
 ·rw[if_neg h];exact h2 h
noncomputable def Same (H H':Hp):Prop:=∀b o,H b=some o->H' b=some o
theorem Same.refl (H:Hp):Same H H:=λ_ _ h=>h
theorem Same.trans {H H1 H2:Hp}(a:Same H H1)(b:Same H1 H2):Same H H2:=λc o h=>b c o (a c o h)
theorem Same.free {H H':Hp}(e:Same H H'){l:Addr}(h:H' l=Option.none):H l=Option.none:=by
 cases q:H l with
 | none=>rfl
 | some o=>
  rw[e l o q]at h;cases h
theorem Same.seq {K:PySem.W.Frag}{H H':Hp}{a:Addr}{xs:List V}(e:Same H H')(h:SqL K H a xs):SqL K H' a xs:=by
 rcases h with (h | ⟨o,h⟩) | h
 ·exact .inl (.inl (e _ _ h))
 ·exact .inl (.inr ⟨o,e _ _ h⟩)
 ·exact .inr h
noncomputable def zaw (env:Env):List (Str×NameKind)->List (Str×Addr)->List (Str×Addr)
 | [],acc=>acc
 | (n,k)::r,acc=>zaw env r (if k == .free then(n,(env.cells.lookup n).getD 0)::acc else acc)
theorem zht {env:Env}(f:Str×NameKind->List (Str×Addr)->Sem (ForInStep (List (Str×Addr))))
  (hf:∀n k cs,f (n,k) cs=if k == .free then(do let a <- cellOf env n;pure (.yield ((n,a)::cs))) else pure (.yield cs)) :
  ∀(l:List (Str×NameKind)) (acc:List (Str×Addr)),(∀n,(n,NameKind.free)∈l->∃c,env.cells.lookup n=some c)->forIn l acc f=pure (zaw env l acc)
 | [],acc,_=>by rw[List.forIn_nil];rfl
 | (n,k)::r,acc,h=>by
  have ih:=zht f hf r;have hr:∀m,(m,NameKind.free)∈r->∃c,env.cells.lookup m=some c:=λm hm=>h m (List.mem_cons_of_mem _ hm);rw[List.forIn_cons,hf];unfold zaw;by_cases hk:(k == NameKind.free)=true
  ·have hk':k=NameKind.free:=by simpa using hk
   subst hk';obtain⟨c,hc⟩:=h n List.mem_cons_self;have e:cellOf env n=pure c:=by unfold cellOf;rw[hc]
   rw[if_pos hk,if_pos hk,e,hc];simp only[pure_bind,Option.getD_some];exact ih _ hr
  ·rw[if_neg hk,if_neg hk];simp only[pure_bind];exact ih _ hr
theorem zjl {scope:Scope}{env:Env}(h:∀n,(n,NameKind.free)∈scope.names->∃c,env.cells.lookup n=some c):closureFor scope env=pure (zaw env scope.names []):=by
 simp only[closureFor];rw[zht (env:=env) _ (λn k cs=>by cases hk:(k == NameKind.free)<;>simp[hk]) scope.names [] h];simp
theorem zer {env:Env}:∀(l:List (Str×NameKind))(acc:List (Str×Addr)),(∀n,(n,NameKind.free)∈l->∃c,env.cells.lookup n=some c)->(∀n c,(n,c)∈acc->env.cells.lookup n=some c)->
  ∀n c,(n,c)∈zaw env l acc->env.cells.lookup n=some c
 | [],_,_,ha,n,c,hm=>ha n c hm
 | (x,k)::r,acc,h,ha,n,c,hm=>by
  have hr:∀m,(m,NameKind.free)∈r->∃c,env.cells.lookup m=some c:=λm hm=>h m (List.mem_cons_of_mem _ hm);unfold zaw at hm;refine zer r _ hr (λm d hd=>?_) n c hm;by_cases hk:(k == NameKind.free)=true
  ·have hk':k=NameKind.free:=by simpa using hk
   subst hk';rw[if_pos hk]at hd;rcases List.mem_cons.mp hd with e | hd
   ·obtain⟨c',hc'⟩:=h x List.mem_cons_self;cases e;rw[hc'];rfl
   ·exact ha m d hd
  ·rw[if_neg hk]at hd;exact ha m d hd
theorem zcO {env:Env}:∀(l:List (Str×NameKind))(acc:List (Str×Addr))(n:Str),((n,NameKind.free)∈l\/(acc.lookup n).isSome=true)->((zaw env l acc).lookup n).isSome=true
 | [],_,_,h=>h.elim (λz=>nomatch z) id
 | (x,k)::r,acc,n,h=>by
  unfold zaw;refine zcO r _ n ?_;have up:(acc.lookup n).isSome=true->((if (k == NameKind.free)=true then(x,(env.cells.lookup x).getD 0)::acc else acc).lookup n).isSome=true:=λz=>by
   by_cases hk:(k == NameKind.free)=true
   ·rw[if_pos hk,List.lookup_cons];cases n == x<;>simp[z]
   ·rw[if_neg hk];exact z
  rcases h with h | h
  ·rcases List.mem_cons.mp h with e | h
   ·right;cases e;rw[if_pos (by rfl),List.lookup_cons];simp
   ·exact .inl h
  ·exact .inr (up h)
theorem zaM:∀(names:List (Str×NameKind))(n:Nat)(acc:List (Str×Addr)),cellsFrom n names acc=cellsFrom n names []++acc
 | [],_,_=>rfl
 | (x,k)::r,n,acc=>by
  unfold cellsFrom;by_cases hk:(k == NameKind.cell)=true
  ·rw[if_pos hk,if_pos hk,zaM r (n+1) ((x,n)::acc),zaM r (n+1) [(x,n)],List.append_assoc];rfl
  ·rw[if_neg hk,if_neg hk];exact zaM r n acc
theorem zbv:∀(names:List (Str×NameKind))(n:Nat)(acc:List (Str×Addr))(x:Str)(c:Addr),(x,c)∈cellsFrom n names acc->(x,c)∈acc\/(x,NameKind.cell)∈names
 | [],_,_,_,_,h=>.inl h
 | (y,k)::r,n,acc,x,c,h=>by
  unfold cellsFrom at h;by_cases hk:(k == NameKind.cell)=true
  ·have hk':k=NameKind.cell:=by simpa using hk
   subst hk';rw[if_pos hk]at h;rcases zbv r _ _ x c h with h | h
   ·rcases List.mem_cons.mp h with e | h
    ·cases e;exact .inr List.mem_cons_self
    ·exact .inl h
   ·exact .inr (List.mem_cons_of_mem _ h)
  ·rw[if_neg hk]at h;rcases zbv r _ _ x c h with h | h
   ·exact .inl h
   ·exact .inr (List.mem_cons_of_mem _ h)
noncomputable def zcz (sc sup:Scope):Scope:=
 {sc with names:=sc.names.map λ(n,k)=>if (k == .free&&sup.kind == .function&&sup.names.lookup n == some .cell) then(n,.cell) else(n,k) }
noncomputable def cpOk (sup:Scope)(XN N:List Str)(k:Nat)(js:List Nat)(sc:Scope):Bool:=
 sc.kind == .function&&decide N.Nodup&&decide (sc.names.map (·.1)).Nodup&&(sc.names.all λp=>p.2 != .free||(sup.names.lookup p.1 == some .cell||sup.names.lookup p.1 == some .free)) &&
  N.length == k+js.length&&((N.drop k).zip js).all λp=>sc.names.lookup p.1 == some .free&&XN[p.2]? == some p.1
structure zbG (X:Cx)(N:List Str)(k:Nat)(js:List Nat)(sc:Scope):Prop where
 kind:sc.kind=.function
 nd:N.Nodup
 nm:(sc.names.map (·.1)).Nodup
 fr:∀n,(n,NameKind.free)∈sc.names->X.env.kindOf n=some .cell\/X.env.kindOf n=some .free
 len:N.length=k+js.length
 at':∀(i:Nat) (x:Str),N[k+i]? = some x->sc.names.lookup x=some .free/\∃j,js[i]? = some j/\X.N[j]? = some x
theorem zdE {X:Cx}{sup:Scope}{XN N:List Str}{k:Nat}{js:List Nat}{sc:Scope}(hs:X.env.scope=sup)(hn:X.N=XN)(h:cpOk sup XN N k js sc=true):zbG X N k js sc:=by
 subst hs hn;unfold cpOk at h;simp only[Bool.and_eq_true,decide_eq_true_eq,beq_iff_eq,List.all_eq_true]at h;obtain⟨⟨⟨⟨⟨h1,h2⟩,h3⟩,h4⟩,h5⟩,h6⟩:=h;refine⟨h1,h2,h3,λn hn=>?_,h5,λi x hi=>?_⟩
 ·have q:=h4 _ hn;simp only[bne_self_eq_false,Bool.false_or,Bool.or_eq_true,beq_iff_eq]at q;exact q
 ·have hi':(N.drop k)[i]? = some x:=by rw[List.getElem?_drop];exact hi
  have hl:k+i<N.length:=(List.getElem?_eq_some_iff.mp hi).1;have hj:i<js.length:=by lia
  have hm:(x,js[i])∈(N.drop k).zip js:=by
   refine List.mem_iff_getElem?.mpr ⟨i,?_⟩;rw[List.getElem?_zip_eq_some];exact⟨hi',by simp[hj]⟩
  have q:=h6 _ hm;exact⟨q.1,js[i],by simp[hj],q.2⟩
theorem zbH {α:Type}:∀ {l:List (Str×α)}{x:Str}{v:α},(l.map (·.1)).Nodup->(x,v)∈l->l.lookup x=some v
 | (y,u)::r,x,v,nd,h=>by
  rw[List.map_cons,List.nodup_cons]at nd;rw[List.lookup_cons];rcases List.mem_cons.mp h with e | h
  ·cases e;simp
  ·have ne:x≠y:=λz=>nd.1 (List.mem_map.mpr ⟨(x,v),h,z⟩);have hb:(x == y)=false:=by simpa using ne
   rw[hb];exact zbH nd.2 h
noncomputable def zbV (k:Nat)(js:List Nat)(σ:St):St:=List.replicate k none++js.map λj=>(σ[j]?).getD none
noncomputable def cxB (X:Cx)(N:List Str)(sc:Scope)(C:Addr)(cells:List (Str×Addr))(fp:List Addr)(s:Shared)(H:Hp):Cx where
 prog:=X.prog
 w:=X.w
 K:=X.K
 mg:=X.mg
 base:=X.base
 A:=X.A
 N:=N
 s₀:=s
 H₀:=H
 env:={ scope:=zcz sc X.env.scope,locals:=C,globals:=X.env.globals,cells:=cells,qual:=X.env.qual,func:=none,code:=X.env.code,frame:=X.env.frame,builtins:=X.env.builtins }
 outer:=X.stack
 stack:=X.stack
 ex:=fp
 fn:=λx=>sc.names.lookup x == some .cell
 calm:=X.calm
 pn:=[]
 xe:=λ_ _=>False
section
variable {X:Cx}{pins:List (Addr×Obj)}{σ:St}{H:Hp}{s:Shared}
theorem zcA {sc sup:Scope}{x:Str}{k:NameKind}(h:(zcz sc sup).names.lookup x=some k):sc.names.lookup x=some k\/(sc.names.lookup x=some .free/\k=.cell):=by
 unfold zcz at h;dsimp only at h;generalize sc.names=l at h ⊢;induction l with
 | nil=>simp at h
 | cons p r ih=>
  obtain⟨n,kd⟩:=p;rw[List.map_cons,List.lookup_cons]at h;rw[List.lookup_cons];dsimp only at h;by_cases hc:(kd == NameKind.free&&sup.kind == ScopeKind.function&&sup.names.lookup n == some NameKind.cell)=true
  ·rw[if_pos hc]at h;dsimp only at h;cases hx:x == n with
   | true=>
    rw[hx]at h;simp only[Bool.and_eq_true,beq_iff_eq]at hc;right;exact⟨by rw[hc.1.1],(Option.some.inj h).symm⟩
   | false=>rw[hx]at h;exact ih h
  ·rw[if_neg hc]at h;dsimp only at h;cases hx:x == n with
   | true=>rw[hx]at h;left;exact h
   | false=>rw[hx]at h;exact ih h
theorem zcB {sc sup:Scope}{x:Str}(h:sc.names.lookup x=some .free):(zcz sc sup).names.lookup x=some .cell\/(zcz sc sup).names.lookup x=some .free:=by
 unfold zcz;dsimp only;generalize sc.names=l at h ⊢;induction l with
 | nil=>simp at h
 | cons p r ih=>
  obtain⟨n,kd⟩:=p;rw[List.lookup_cons]at h;rw[List.map_cons];dsimp only;by_cases hc:(kd == NameKind.free&&sup.kind == ScopeKind.function&&sup.names.lookup n == some NameKind.cell)=true
  ·rw[if_pos hc,List.lookup_cons];cases hx:x == n with
   | true=>left;rfl
   | false=>rw[hx]at h;exact ih h
  ·rw[if_neg hc,List.lookup_cons];cases hx:x == n with
   | true=>rw[hx]at h;right;exact h
   | false=>rw[hx]at h;exact ih h
theorem Inv.block {N:List Str}{k:Nat}{js:List Nat}{sc:Scope}{fp:List Addr}(I:Inv X pins σ H s)(S:zbG X N k js sc)(hf:∀b∈fp,FpOk X pins H b)(hfs:∀b∈fp,b<s.heap.objs.size) :
  Inv (cxB X N sc s.heap.objs.size (cellsFrom (s.heap.objs.size+1) sc.names (zaw X.env sc.names [])) fp s H) [] (zbV k js σ) H
   {s with heap:=pushCells (s.heap.push { cls:=.type "dict",data:=.dict #[] }) sc.names }:=by
 have hz:(s.heap.push { cls:=.type "dict",data:=.dict #[] }).objs.size=s.heap.objs.size+1:=Heap.size_push ..;have kp:∀b o,s.heap.get? b=some o->(pushCells (s.heap.push { cls:=.type "dict",data:=.dict #[] }) sc.names).get? b=some o:=λb o e=>pushCells_keeps _ _ b o (Heap.get?_push_of_some _ e);have cok:=cellsFrom_ok sc.names (s.heap.push { cls:=.type "dict",data:=.dict #[] }) (s.heap.objs.size+1) [] ⟨λ_ _ hm=>(nomatch hm),List.Pairwise.nil⟩ (by rw[hz];exact Nat.le_refl _);rw[hz]at cok;have frs':∀n,(n,NameKind.free)∈sc.names->∃c,X.env.cells.lookup n=some c:=λn hn=>I.ok.has n (S.fr n hn);have csub:=zer (env:=X.env) sc.names [] frs' (λ_ _ z=>nomatch z);have cases_:∀x c,(cellsFrom (s.heap.objs.size+1) sc.names (zaw X.env sc.names [])).lookup x=some c->
   ((cellsFrom (s.heap.objs.size+1) sc.names []).lookup x=some c)\/((cellsFrom (s.heap.objs.size+1) sc.names []).lookup x=none/\(zaw X.env sc.names []).lookup x=some c):=λx c h=>by
  rw[zaM,List.lookup_append]at h;cases q:(cellsFrom (s.heap.objs.size+1) sc.names []).lookup x with
  | some d=>rw[q]at h;left;simpa using h
  | none=>rw[q]at h;right;exact⟨rfl,by simpa using h⟩
 have old:∀x c,(zaw X.env sc.names []).lookup x=some c->X.env.cells.lookup x=some c:=λx c h=>csub x c (PySem.mem_of_lookup h);have oldlt:∀x c,X.env.cells.lookup x=some c->c<s.heap.objs.size:=λx c h=>let ⟨_,q⟩:=I.cell x c h;q.lt;have ownge:∀x c,(cellsFrom (s.heap.objs.size+1) sc.names []).lookup x=some c->s.heap.objs.size+1<=c:=λx c h=>(cok.empty x c (PySem.mem_of_lookup h)).2;refine⟨⟨I.ok.mod,S.kind,I.ok.glob,I.ok.blt,Nat.le_refl _,?inj,?has,?cab,I.ok.hd,I.ok.frames,.inl rfl,?exf,I.bs,Nat.le_trans I.ok.bsz I.sz,?noex,?exfs,I.stack,I.zgz⟩,rfl,I.bare,Un.kept kp,?loc,?cell,I.hok.fresh (Nat.le_refl _),?freeC,λp hp=>absurd (show p∈([]:List (Addr×Obj)) from hp) (by simp),I.hok.kept kp,?len⟩
 case inj=>
  intro x y c hx hy;rcases cases_ x c hx with h1 | ⟨_,h1⟩<;>rcases cases_ y c hy with h2 | ⟨_,h2⟩
  ·exact name_of_addr cok.apart (PySem.mem_of_lookup h1) (PySem.mem_of_lookup h2)
  ·exact absurd (Nat.lt_of_lt_of_le (oldlt y c (old y c h2)) (Nat.le_of_succ_le (ownge x c h1))) (Nat.lt_irrefl _)
  ·exact absurd (Nat.lt_of_lt_of_le (oldlt x c (old x c h1)) (Nat.le_of_succ_le (ownge y c h2))) (Nat.lt_irrefl _)
  ·exact I.ok.inj x y c (old x c h1) (old y c h2)
 case has=>
  intro x hx;have hx':(zcz sc X.env.scope).names.lookup x=some .cell\/(zcz sc X.env.scope).names.lookup x=some .free:=hx;have q:sc.names.lookup x=some .cell\/sc.names.lookup x=some .free:=by
   rcases hx' with h | h
   ·rcases zcA h with h | ⟨h,_⟩
    ·exact .inl h
    ·exact .inr h
   ·rcases zcA h with h | ⟨h,_⟩
    ·exact .inr h
    ·exact .inr h
  refine Option.isSome_iff_exists.mp (PySem.W.cellsFrom_some sc.names _ _ ?_);rcases q with q | q
  ·exact .inl q
  ·exact .inr (zcO _ _ _ (.inl (PySem.mem_of_lookup q)))
 case cab=>
  intro x c hfn hx;have hc:sc.names.lookup x=some .cell:=by simpa[cxB]using hfn
  rcases cases_ x c hx with h | ⟨h,_⟩
  ·have:=ownge x c h;show s.heap.objs.size<=c;lia
  ·have q:=PySem.W.cellsFrom_some sc.names (s.heap.objs.size+1) [] (.inl hc);rw[h]at q;cases q
 case exf=>
  intro b hb;have hlt:=hfs b hb;refine⟨Nat.ne_of_lt hlt,λx c hx=>?_⟩;rcases cases_ x c hx with h | ⟨_,h⟩
  ·exact λz=>absurd (Nat.lt_of_lt_of_le (show c<s.heap.objs.size by rw[z];exact hlt) (Nat.le_of_succ_le (ownge x c h))) (Nat.lt_irrefl _)
  ·exact(hf b hb).2.2.2.2.1 x c (old x c h)
 case noex=>
  intro b o e hb;rcases(hf b hb).2.2.2.1 with z | z
  ·exact I.ok.noex b o e z
  ·exact absurd (Nat.lt_of_lt_of_le (Heap.lt_size (I.ok.bs b o e).1) z) (Nat.lt_irrefl _)
 case exfs=>
  intro b hb hbf;rcases List.mem_cons.mp (I.ziW b hbf)with z | z
  ·exact(hf b hb).2.1 z
  ·exact(hf b hb).2.2.1 z
 case loc=>
  refine⟨_,(Heap.Ns.new s.heap (.type "dict")).keeps (pushCells_keeps _ _),λi x v e1 e2 e3=>?_⟩;have hik:k<=i:=by
   unfold zbV at e2;by_cases hik:k<=i
   ·exact hik
   ·rw[List.getElem?_append_left (by simp;lia),List.getElem?_replicate]at e2;split at e2<;>cases e2
  obtain⟨i',rfl⟩:∃i',i=k+i':=⟨i-k,by lia⟩;obtain⟨hfree,j,hj,hX⟩:=S.at' i' x e1;have e2':(σ[j]?).getD none=some v:=by
   unfold zbV at e2;rw[List.getElem?_append_right (by simp)]at e2;rw[List.length_replicate,show k+i'-k=i' by lia,List.getElem?_map,hj]at e2;exact Option.some.inj e2
  have hσ:σ[j]? = some (some v):=by
   cases q:σ[j]? with
   | none=>rw[q]at e2';cases e2'
   | some o=>rw[q]at e2';exact congrArg some e2'
  have hk:=S.fr x (PySem.mem_of_lookup hfree);obtain⟨m,hn,hl⟩:=I.loc;obtain⟨u,r,l⟩:=hl j x v hX hσ (by rcases hk with h | h;exact .inr (.inl h);exact .inr (.inr h))
  rcases l with ⟨hloc,_⟩ | ⟨_,c,hc,hcell⟩
  ·rcases hk with h | h<;>(rw[h]at hloc;cases hloc)
  ·refine⟨u,r,.inr ⟨zcB hfree,c,?_,hcell.keeps kp⟩⟩;show(cellsFrom (s.heap.objs.size+1) sc.names (zaw X.env sc.names [])).lookup x=some c;have hno:(cellsFrom (s.heap.objs.size+1) sc.names []).lookup x=none:=by
    cases q:(cellsFrom (s.heap.objs.size+1) sc.names []).lookup x with
    | none=>rfl
    | some d=>
     rcases zbv _ _ _ x d (PySem.mem_of_lookup q)with z | z
     ·cases z
     ·have:=zbH S.nm z;rw[hfree]at this;cases this
   obtain⟨d,hd⟩:=Option.isSome_iff_exists.mp (zcO (env:=X.env) sc.names [] x (.inl (PySem.mem_of_lookup hfree)));have hdc:d=c:=by
    have:=old x d hd;rw[hc]at this;exact(Option.some.inj this).symm
   rw[zaM,List.lookup_append,hno,hd,hdc];rfl
 case cell=>
  intro x c hx;rcases cases_ x c hx with h | ⟨_,h⟩
  ·exact⟨none,(cok.empty x c (PySem.mem_of_lookup h)).1⟩
  ·obtain⟨v,q⟩:=I.cell x c (old x c h);exact⟨v,q.keeps kp⟩
 case freeC=>
  intro x c hx;rcases cases_ x c hx with h | ⟨_,h⟩
  ·exact I.hok.fresh (by have:=ownge x c h;lia)
  ·exact I.freeC x c (old x c h)
 case len=>
  show(zbV k js σ).length=N.length;unfold zbV;rw[List.length_append,List.length_replicate,List.length_map];exact S.len.symm
end
theorem zjm {prog:Program}{w:World}{A:Around}{R:Result->Shared->Prop}{s:Shared}{elt tg iter:Expr}{ifs:List Expr}{scope:Scope}{pos:Pos}{it acc:Value}{env:Env}(J:Nat->Shared->Prop)
  (turn:∀n s,J n s->wpAny (model prog w) A (pyNext it) (λr s1=>match r with
   | none=>R (.ok .next) s1
   | some v=>wpAny (model prog w) A (letOwnedTupleGo tg it v) (λ_ s2=>wpAny (model prog w) A (assign tg env v) (λ_ s3=>
     wpAny (model prog w) A (forIn ifs true λc r=>if r=true then do let ok <- isTrue c env (eval c env);pure (ForInStep.yield ok) else pure (ForInStep.yield r)) (λok s4=>
      if ok=true then wpAny (model prog w) A (eval elt env) (λx s5=>wpAny (model prog w) A (call (.builtin "list.append") [acc,x]) (λ_ s6=>∃m,m<n/\J m s6) (λ_ _=>False) s5) (λ_ _=>False) s4
      else ∃m,m<n/\J m s4) (λ_ _=>False) s3) (λ_ _=>False) s2) (λ_ _=>False) s1) (λ_ _=>False) s)
  (n:Nat) (h:J n s):codeAny (model prog w) A (.compLoop (.ListComp elt [⟨tg,iter,ifs,0⟩] scope pos) 0 it acc env) R s:=by
 refine codeAny_loop rfl J (λn s hI=>wpAny_noted (wpAny_noRaise ?_)) n h;rw[compTurn_list];refine wpAny_bind (wpAny_standAt (wpAny_bind (thn (turn n s hI) λr s1 h1=>?_)));cases r with
 | none=>exact wpAny_pure h1
 | some v=>
  refine wpAny_bind (thn h1 λ_ s2 h2=>wpAny_bind (thn h2 λ_ s3 h3=>wpAny_bind (thn h3 λok s4 h4=>?_)));cases ok with
  | false=>exact wpAny_pure ⟨rfl,by simpa using h4⟩
  | true=>
   rw[if_pos rfl]at h4;exact wpAny_bind (wpAny_bind (thn h4 λx s5 h5=>wpAny_bind (thn h5 λ_ s6 h6=>wpAny_pure (wpAny_pure ⟨rfl,h6⟩))))
theorem zfI {M:Model}{A:Around}{E:Value->Shared->Prop}{s:Shared}{sc:Scope}{globals:Addr}{clo:List (Str×Addr)}{qual:Str}{out:Env}{Q:Env->Shared->Prop}
  (h:Q { scope:=sc,locals:=s.heap.objs.size,globals:=globals,cells:=cellsFrom (s.heap.objs.size+1) sc.names clo,qual:=qual,func:=none,code:=out.code,frame:=out.frame,builtins:=out.builtins }
   {s with heap:=pushCells (s.heap.push { cls:=.type "dict",data:=.dict #[] }) sc.names }) :
  wpAny M A (newFunctionEnv sc globals clo [] qual none .none (some out)) Q E s:=by
 unfold newFunctionEnv;simp only[Option.isSome_some,if_true];refine wpAny_bind (wpAny_alloc (wpAny_bind (wpAny_layCells _ (λname kind cells=>by cases hkc:kind == NameKind.cell<;>simp[hkc]) _ _ _ _ ?_)));rw[show({ s with heap:=s.heap.push { cls:=.type "dict",data:=.dict #[] } }:Shared).heap.objs.size=s.heap.objs.size+1 from Heap.size_push ..];simp only[List.forIn_nil];exact wpAny_bind (wpAny_pure (wpAny_pure h))
noncomputable def PTs (X:Cx)(ifs:List Expr)(t:TT):Prop:=
 ∀(pins:List (Addr×Obj)) (s:Shared) (σ:St) (H:Hp) (Q:Bool->Hp->Prop),Inv X pins σ H s->t σ H Q->
  wpAny (model X.prog X.w) X.A (forIn ifs true λc r=>if r=true then do let ok <- isTrue c X.env (eval c X.env);pure (ForInStep.yield ok) else pure (ForInStep.yield r)) (TP X pins σ Q) X.xe s
noncomputable def znj:TT:=λ_ H Q=>Q true H
theorem znk {X:Cx}:PTs X [] znj:=λpins s σ H Q I h=>wpAny_tests_nil ⟨H,I,h⟩
theorem znl {X:Cx}{c:Expr}{t:TT}(h:PT X c t):PTs X [c] t:=λpins s σ H Q I q=>wpAny_tests_one (h pins s σ H Q I q)
noncomputable def zfJ (J:It)(g:TG)(tt:TT)(te:TE)(l:Addr)(σb:St)(H1:Hp)(R:Hp->Prop):Prop:=
 ∃W:Nat->Nat->St->Hp->Prop,(∃m,W 0 m σb (upd H1 l (.lst [])))/\∀i m σ' H',W i m σ' H'->
  (J.stop i H'/\R H')\/(J.go i H'/\∀x H2,J.yld i H' x H2->g x σ' H2 λσ2 H3=>tt σ2 H3 λb H4=>if b=true
   then te σ2 H4 λv H5=>∃ys,H5 l=some (.lst ys)/\ys.length<sizeLine/\∃m',m'<m/\W (i+1) m' σ2 (upd H5 l (.lst (ys++[v])))
   else ∃m',m'<m/\W (i+1) m' σ2 H4)
noncomputable def zlp (k:Nat)(js:List Nat)(wi:TI)(g:TG)(tt:TT)(te:TE):TE:=λσ H Q=>wi σ H λJ H1=>∀l,H1 l=none->zfJ J g tt te l (zbV k js σ) H1 λH'=>Q (.ref l) H'
section
variable {X:Cx}{elt tg iter:Expr}{ifs:List Expr}{sc:Scope}{pos:Pos}{N:List Str}{k:Nat}{js:List Nat}{wi:TI}{g:TG}{tt:TT}{te:TE}
structure Blk (X:Cx)(N:List Str)(sc:Scope)(tg:Expr)(ifs:List Expr)(elt:Expr)(g:TG)(tt:TT)(te:TE):Prop where
 tgt:∀C cells fp s H,PG (cxB X N sc C cells fp s H) tg g
 tst:∀C cells fp s H,PTs (cxB X N sc C cells fp s H) ifs tt
 val:∀C cells fp s H,PE (cxB X N sc C cells fp s H) elt te
noncomputable def After (X:Cx)(pins:List (Addr×Obj))(σ:St)(R:Addr->Hp->Prop)(acc:Value)(C:Addr)(s':Shared):Prop:=
 ∃(l:Addr) (H':Hp) (m:Str->Option Value),acc=.ref l/\Inv X pins σ H' s'/\s'.heap.Ns C m/\FpOk X pins H' C/\R l H'
theorem zlq {pins:List (Addr×Obj)}{σ:St}{H:Hp}{s:Shared}{R:Addr->Hp->Prop}(hc:X.calm=true)(S:zbG X N k js sc)(hi:PI X tg iter wi)(B:Blk X N sc tg ifs elt g tt te)(I:Inv X pins σ H s)
  (h:wi σ H λJ H1=>∀l,H1 l=none->zfJ J g tt te l (zbV k js σ) H1 (R l)) :
  wpAny (model X.prog X.w) X.A (eval iter X.env) (λx s1=>wpAny (model X.prog X.w) X.A (pyIter x) (λit s2=>wpAny (model X.prog X.w) X.A (newList []) (λacc s3=>
   wpAny (model X.prog X.w) X.A (newFunctionEnv sc X.env.globals (zaw X.env sc.names []) [] X.env.qual none .none (some X.env)) (λcenv s4=>
    codeAny (model X.prog X.w) X.A (.compStart (.ListComp elt [⟨tg,iter,ifs,0⟩] sc pos) 0 it acc { cenv with scope:=relabel sc X.env })
     (λr s'=>match r with | .ok _=>After X pins σ R acc cenv.locals s' | .error _=>False) s4) X.xe s3) X.xe s2) X.xe s1) X.xe s:=by
 refine thn (hi pins s σ H _ I h) λv s1 h1=>thn h1 λitv s2 h2=>?_;obtain⟨it,fp,tn,J,H2,e,I2,T,st2,f2,hq⟩:=h2;subst e;have hl:H2 s2.heap.objs.size=none:=I2.fresh;have fplt:∀b∈fp,b<s2.heap.objs.size:=λb hb=>by
  obtain⟨o,e,_⟩:=T.obj 0 _ st2 b hb;exact Heap.lt_size e
 obtain⟨W,⟨m0,w0⟩,turn⟩:=hq _ hl;refine wpAny_newList ?_;have I3:Inv X pins σ (upd H2 s2.heap.objs.size (.lst [])) { s2 with heap:=s2.heap.push { cls:=.type "list",data:=.seq ([]:List Value).toArray } }:=I2.lnew (its:=[]) (t':=s2.toks) .nil (Nat.zero_le _);have u3:Un (frs X.stack) fp H2 (upd H2 s2.heap.objs.size (.lst [])) s2.heap (s2.heap.push { cls:=.type "list",data:=.seq ([]:List Value).toArray }):=Un.laid (λb o e=>Heap.get?_push_of_some _ e) (Nat.le_refl _) hl;have hz3:(s2.heap.push { cls:=.type "list",data:=.seq ([]:List Value).toArray }).objs.size=s2.heap.objs.size+1:=Heap.size_push ..;have kp3:∀b o,s2.heap.get? b=some o->(s2.heap.push { cls:=.type "list",data:=.seq ([]:List Value).toArray }).get? b=some o:=λb o e=>Heap.get?_push_of_some _ e;have fpn:∀b∈fp,upd H2 s2.heap.objs.size (.lst []) b=none:=λb hb=>by
  rw[zao (Nat.ne_of_lt (fplt b hb))];exact(f2 b hb).1
 generalize hl0:s2.heap.objs.size=l at hl I3 u3 hz3 kp3 fpn w0 turn ⊢;rw[hl0]at fplt;generalize s2.heap.push { cls:=.type "list",data:=.seq ([]:List Value).toArray }=h3 at I3 u3 hz3 kp3 ⊢;generalize upd H2 l (.lst [])=H3 at I3 u3 fpn w0;have f3:∀b∈fp,FpOk X pins H3 b:=λb hb=>⟨fpn b hb,(f2 b hb).2⟩;have I4:=I3.block S f3 (λb hb=>by show b<h3.objs.size;rw[hz3];exact Nat.lt_succ_of_lt (fplt b hb));have kp4:∀b o,s2.heap.get? b=some o->(pushCells (h3.push { cls:=.type "dict",data:=.dict #[] }) sc.names).get? b=some o:=λb o e=>pushCells_keeps _ _ b o (Heap.get?_push_of_some _ (kp3 b o e));refine zfI ?_;have st4:tn 0 (pushCells (h3.push { cls:=.type "dict",data:=.dict #[] }) sc.names):=T.keep 0 _ _ st2 λb _ o e=>kp4 b o e;have stat:∀ {H':Hp},(∀b∈fp,H' b=none)->∀b∈fp,FpOk (cxB X N sc h3.objs.size (cellsFrom (h3.objs.size+1) sc.names (zaw X.env sc.names [])) fp { s2 with heap:=h3 } H3) [] H' b:=λhn b hb=>
  ⟨hn b hb,(I4.ok.exf b hb).1,I4.ok.exfs b hb,.inl hb,(I4.ok.exf b hb).2,λp hp=>absurd (show p∈([]:List (Addr×Obj)) from hp) (by simp)⟩
 generalize hY:cxB X N sc h3.objs.size (cellsFrom (h3.objs.size+1) sc.names (zaw X.env sc.names [])) fp { s2 with heap:=h3 } H3=Y at I4 stat;have loop:codeAny (model X.prog X.w) X.A (.compLoop (.ListComp elt [⟨tg,iter,ifs,0⟩] sc pos) 0 (.ref it) (.ref l) Y.env)
   (λr s'=>match r with | .ok _=>After X pins σ R (.ref l) h3.objs.size s' | .error _=>False) { s2 with heap:=pushCells (h3.push { cls:=.type "dict",data:=.dict #[] }) sc.names }:=by
  subst hY;refine zjm (λn s'=>∃i σ' H',Inv (cxB X N sc h3.objs.size (cellsFrom (h3.objs.size+1) sc.names (zaw X.env sc.names [])) fp { s2 with heap:=h3 } H3) [] σ' H' s'/\tn i s'.heap/\(∀b∈fp,H' b=none)/\W i n σ' H') ?_ m0
   ⟨0,zbV k js σ,H3,I4,st4,fpn,w0⟩
  rintro n s5 ⟨i,σ5,H5,I5,st5,fr5,w5⟩;rcases turn i n σ5 H5 w5 with ⟨stop,qn⟩ | ⟨go,step⟩
  ·refine thn (T.done (cxB X N sc h3.objs.size (cellsFrom (h3.objs.size+1) sc.names (zaw X.env sc.names [])) fp { s2 with heap:=h3 } H3) rfl rfl rfl hc i [] s5 σ5 H5 (λ_ _=>False) I5 (stat fr5) st5 stop) λr s6 q43q=>?_;obtain⟨hr,I6⟩:=q43q;subst hr;obtain⟨m6,hn6,_⟩:=id I6.loc;have IX:Inv X pins σ H5 s6:=I2.call' (ch:=fp) I6.os (u3.trans I6.base) I6.hok I6.bare λb hb=>⟨(f2 b hb).2.2.2.1,(f2 b hb).2.1,(f2 b hb).2.2.2.2.1,(f2 b hb).2.2.2.2.2⟩;exact⟨l,H5,m6,rfl,IX,hn6,I2.fpOk (by show s2.heap.objs.size<=h3.objs.size;rw[hz3,hl0];exact Nat.le_succ _) I6.free,qn⟩
  ·refine thn (T.item (cxB X N sc h3.objs.size (cellsFrom (h3.objs.size+1) sc.names (zaw X.env sc.names [])) fp { s2 with heap:=h3 } H3) rfl rfl rfl hc i [] s5 σ5 H5 (λ_ _=>False) I5 (stat fr5) st5 go) λr s6 q44q=>?_;obtain⟨u,hr,h6⟩:=q44q;subst hr;refine thn h6 λ_ s7 q45q=>?_;obtain⟨x,H7,I7,r7,y7,st7,fr7⟩:=q45q;have I7':=I7.pinned (stat fr7) (T.obj _ _ st7);refine thn (B.tgt _ _ _ _ _ _ s7 σ5 H7 x u _ I7' r7 (step x H7 y7)) λ_ s8 q46q=>?_;obtain⟨σ8,H8,I8,q8⟩:=q46q;refine thn (B.tst _ _ _ _ _ _ s8 σ8 H8 _ I8 q8) λok s9 q47q=>?_;obtain⟨H9,I9,q9⟩:=q47q;have kept:∀ {σ':St} {H':Hp} {s':Shared},Inv (cxB X N sc h3.objs.size (cellsFrom (h3.objs.size+1) sc.names (zaw X.env sc.names [])) fp { s2 with heap:=h3 } H3) ([]++zeo fp s7.heap) σ' H' s'->tn (i+1) s'.heap/\∀b∈fp,H' b=none:=λ{σ' H' s'} I'=>
    ⟨T.keep _ _ _ st7 λb hb o e=>(I'.pin (b,o) (List.mem_append_right _ (List.mem_append_right _ (zbk hb e)))).1,λb hb=>by
     obtain⟨o,e,_⟩:=T.obj _ _ st7 b hb;exact(I'.pin (b,o) (List.mem_append_right _ (List.mem_append_right _ (zbk hb e)))).2.1⟩
   cases ok with
   | false=>
    rw[if_neg Bool.false_ne_true]at q9;rw[if_neg Bool.false_ne_true];obtain⟨m',hm,w9⟩:=q9;exact⟨m',hm,i+1,σ8,H9,I9.zbE,(kept I9).1,(kept I9).2,w9⟩
   | true=>
    rw[if_pos rfl]at q9;rw[if_pos rfl];refine thn (B.val _ _ _ _ _ _ s9 σ8 H9 _ I9 q9) λu10 s10 q48q=>?_;obtain⟨y,H10,I10,r10,ys,hys,hlen,m',hm,w10⟩:=q48q;refine thn (zdC _ s10 σ8 H10 (.ref l) [y] (.ref l) [u10] (λ_ H'=>H'=upd H10 l (.lst (ys++[y]))) I10 rfl (.cons r10 .nil) ⟨l,ys,y,rfl,rfl,hys,hlen,rfl⟩) λ_ s11 q49q=>?_;obtain⟨_,H11,I11,_,e11⟩:=q49q;subst e11;exact⟨m',hm,i+1,σ8,_,I11.zbE,(kept I11).1,(kept I11).2,w10⟩
 subst hY;exact codeAny_compStart_list loop (T.self X.A 0 _ _ _ st4 loop)
theorem zes {X:Cx}(S:zbG X N k js sc):∀x∈sc.names,x.2=.local->sc.names.lookup x.1=some .local:=λx hx hl=>zbH S.nm (by rw[<- hl];exact hx)
theorem znm (hc:X.calm=true)(S:zbG X N k js sc)(hi:PI X tg iter wi)(B:Blk X N sc tg ifs elt g tt te)(hs:autoParam (∀x,foldedSetIterable iter X.env x=pure x) aU3) :
  PE X (.ListComp elt [⟨tg,iter,ifs,0⟩] sc pos) (zlp k js wi g tt te):=by
 intro pins s σ H Q I h;rw[eval_ListComp];refine wpAny_comprehension_free (use:=none) rfl hs (zjl λn hn=>I.ok.has n (S.fr n hn)) S.kind (zes S) ?_;refine thn (zlq (pos:=pos) (R:=λl H'=>Q (.ref l) H') hc S hi B I h) λx s1 h1=>thn h1 λit s2 h2=>thn h2 λacc s3 h3=>thn h3 λcenv s4 h4=>codeAny_mono h4 λr s' hr=>?_;cases r with
 | error e=>exact False.elim hr
 | ok f=>
  obtain⟨l,H',m,rfl,I',hn,⟨f0,f1,f2,f3,f4,f5⟩,q⟩:=hr;exact⟨m,hn,λh' sb=>⟨.ref l,H',I'.turned (t':=s'.toks) (λb o hb e=>sb.extBut b o hb e) f0 f1 f3 f4 f5,rfl,q⟩⟩
end
end L2
namespace JS
open PySem
theorem zcP {α:Type}:∀ {l:List α}{i:Nat}(h:i<l.length),(l[i]::l.eraseIdx i).Perm l
 | _::_,0,_=>List.Perm.refl _
 | x::r,i+1,h=>by
  have ih:=zcP (l:=r) (i:=i) (by simpa using h);rw[List.eraseIdx_cons_succ];exact(List.Perm.swap x _ _).trans (ih.cons x)
section
variable {M:Model}{A:Around}{E:Value->Shared->Prop}{s:Shared}
theorem ziq {src:Source}{n:Nat}{Q:Nat->Shared->Prop}(hn:n≠0)(h:∀i,i<n->Q i { s with drawn:=s.drawn.bump src }):wpAny M A (choose src n) Q E s:=
 λ_ _ _=>⟨hn,h _ (Nat.mod_lt _ (Nat.pos_of_ne_zero hn))⟩
theorem zhu {α:Type}:∀(n:Nat)(xs:List α)(s:Shared)(Q:List α->Shared->Prop),xs.length<=n->(∀ys d,ys.Perm xs->Q ys { s with drawn:=d })->wpAny M A (drawOrder n xs) Q E s
 | 0,xs,s,Q,h,hq=>by
  have e:xs=[]:=List.length_eq_zero_iff.mp (by lia);subst e;exact wpAny_pure (hq [] s.drawn (List.Perm.refl _))
 | n+1,[],s,Q,_,hq=>wpAny_pure (hq [] s.drawn (List.Perm.refl _))
 | n+1,x::r,s,Q,h,hq=>by
  show wpAny M A (choose .order (x::r).length >>= λi=>match (x::r)[i]? with
   | some y=>drawOrder n ((x::r).eraseIdx i) >>= λys=>pure (y::ys)
   | none=>unsupported "internal:drawOrder") Q E s
  refine wpAny_bind (ziq (by simp) λi hi=>?_);have e:(x::r)[i]? = some (x::r)[i]:=by simp[hi]
  rw[e];refine wpAny_bind (zhu n ((x::r).eraseIdx i) _ _ (by rw[List.length_eraseIdx_of_lt hi];simp at h ⊢;lia) λys d hp=>wpAny_pure (hq _ d ?_));exact(hp.cons _).trans (zcP hi)
end
theorem zjn {α:Type}(next:Nat->Nat):∀(fuel k:Nat)(left:List α)(out:Array α),left.length=fuel->(pickOrder.go next fuel k left out).toList.Perm (out.toList++left)
 | 0,k,left,out,h=>by
  have e:left=[]:=List.length_eq_zero_iff.mp h;subst e;simp[pickOrder.go]
 | fuel+1,k,left,out,h=>by
  unfold pickOrder.go;have hi:next k % left.length<left.length:=Nat.mod_lt _ (by lia)
  have e:left[next k % left.length]? = some left[next k % left.length]:=by simp[hi]
  rw[e];dsimp only;refine(zjn next fuel (k+1) _ _ (by rw[List.length_eraseIdx_of_lt hi];lia)).trans ?_
  rw[Array.toList_push,List.append_assoc];exact List.Perm.append_left _ (zcP hi)
theorem zfK {α:Type}(next:Nat->Nat)(xs:Array α):(pickOrder next xs).toList.Perm xs.toList:=by
 unfold pickOrder;have h:=zjn next xs.size 0 xs.toList #[] (by simp)
 simpa using h
noncomputable def Asc (xs:Array Nat):Prop:=xs.toList.Pairwise (· < ·)
theorem Asc.lt {xs:Array Nat}(h:Asc xs){i j:Nat}(hij:i<j)(hj:j<xs.size):xs.getD i 0<xs.getD j 0:=by
 have q:=List.pairwise_iff_getElem.mp h i j (by simp;lia) (by simpa using hj) hij;simpa[Array.getD,hj,show i<xs.size by lia]using q
theorem zeP (xs:Array Nat)(j:Nat):∀(fuel lo hi:Nat),Asc xs->lo<=hi->hi<=xs.size->hi-lo<=fuel->(∀i,i<lo->xs.getD i 0<j)->(∀i,hi<=i->i<xs.size->¬ xs.getD i 0<j)->
  SetTable.below.go xs j fuel lo hi<=xs.size/\(∀i,i<SetTable.below.go xs j fuel lo hi->xs.getD i 0<j)/\∀i,SetTable.below.go xs j fuel lo hi<=i->i<xs.size->¬ xs.getD i 0<j
 | 0,lo,hi,ha,h1,h2,h3,h4,h5=>by
  have:lo=hi:=by lia
  subst this;exact⟨h2,h4,h5⟩
 | fuel+1,lo,hi,ha,h1,h2,h3,h4,h5=>by
  unfold SetTable.below.go;by_cases h:lo<hi
  ·rw[if_pos h];dsimp only;have hm:(lo+hi) / 2<xs.size:=by lia
   have e:xs.getD ((lo+hi) / 2) j=xs.getD ((lo+hi) / 2) 0:=by simp[Array.getD,hm]
   rw[e];by_cases hc:xs.getD ((lo+hi) / 2) 0<j
   ·rw[if_pos hc];refine zeP xs j fuel _ _ ha (by lia) h2 (by lia) (λi hi'=>?_) h5;rcases Nat.lt_or_ge i ((lo+hi) / 2)with z | z
    ·exact Nat.lt_trans (ha.lt z hm) hc
    ·have:i=(lo+hi) / 2:=by lia
     rw[this];exact hc
   ·rw[if_neg hc];refine zeP xs j fuel _ _ ha (by lia) (by lia) (by lia) h4 λi hi' hs z=>hc ?_;rcases Nat.lt_or_ge ((lo+hi) / 2) i with y | y
    ·exact Nat.lt_trans (ha.lt y hs) z
    ·have:i=(lo+hi) / 2:=by lia
     rw[<- this];exact z
  ·rw[if_neg h];have:lo=hi:=by lia
   subst this;exact⟨h2,h4,h5⟩
theorem zdk {xs:Array Nat}(ha:Asc xs)(j:Nat):SetTable.below xs j<=xs.size/\(∀i,i<SetTable.below xs j->xs.getD i 0<j)/\∀i,SetTable.below xs j<=i->i<xs.size->¬ xs.getD i 0<j:=
 zeP xs j xs.size 0 xs.size ha (Nat.zero_le _) (Nat.le_refl _) (by lia) (λi h=>by lia) (λi h1 h2=>by lia)
theorem below_at {xs:Array Nat}(ha:Asc xs){i:Nat}(hi:i<=xs.size):SetTable.below xs (if i=0 then 0 else xs.getD (i-1) 0+1)=i:=by
 obtain⟨h1,h2,h3⟩:=zdk ha (if i=0 then 0 else xs.getD (i-1) 0+1)
 generalize SetTable.below xs (if i=0 then 0 else xs.getD (i-1) 0+1)=r at h1 h2 h3
 by_cases e:i=0
 ·subst e;rw[if_pos rfl]at h2;rcases Nat.eq_zero_or_pos r with z | z
  ·exact z
  ·exact absurd (h2 0 z) (by lia)
 ·rw[if_neg e]at h2 h3;rcases Nat.lt_trichotomy r i with z | z | z
  ·have q:=h3 (i-1) (by lia) (by lia);lia
  ·exact z
  ·have q1:=h2 i z;have q2:=ha.lt (show i-1<i by lia) (show i<xs.size by lia);lia
structure Rec (w:World)(h:Heap)(a:Addr)(es:Array (Int×Value))(ep:Nat)(t:SetTable):Prop where
 obj:∃o,h.get? a=some o/\o.ExactSet/\o.data=.set es ep t
 fits:t.fits es.size=true
 led:t.led=true\/w.params.followText "set-order" = true
 asc:Asc t.place
 dm:t.dummies = #[]
 sz:es.size<scanBound
theorem Rec.keep {w:World}{h h':Heap}{a:Addr}{es:Array (Int×Value)}{ep:Nat}{t:SetTable}(r:Rec w h a es ep t)(k:∀o,h.get? a=some o->h'.get? a=some o):Rec w h' a es ep t:=
 ⟨let ⟨o,e,x⟩:=r.obj;⟨o,k o e,x⟩,r.fits,r.led,r.asc,r.dm,r.sz⟩
theorem Rec.type {w:World}{s:Shared}{a:Addr}{es:Array (Int×Value)}{ep:Nat}{t:SetTable}(r:Rec w s.heap a es ep t):s.TypeIs (.ref a) "set":=
 let ⟨o,e,x,_⟩:=r.obj;⟨o,e,x.1⟩
namespace F
theorem slot_next:Slot "set_iterator" "__next__" "set_iterator.__next__":=.of (owner:="set_iterator") (n:="__next__") (by rw[typeLookup_type,builtinLookup_eq_fast];kernel_rfl) (by decide +kernel) (by decide +kernel) (by decide +kernel) (by first | exact .inl (by decide +kernel) | exact .inr (by decide +kernel)) (by rw[isSubtype_type];kernel_rfl)
theorem entry_next:entryFor table "set_iterator.__next__" = some Builtin.«set_iterator.__next__»:=entryFor_of_tree (by kernel_rfl)
theorem args_next (a:Value):argsOk "set_iterator.__next__" ⟨[a],[]⟩:=by unfold argsOk;kernel_rfl
theorem zfL:Slot "set_iterator" "__iter__" "set_iterator.__iter__":=.of (owner:="set_iterator") (n:="__iter__") (by rw[typeLookup_type,builtinLookup_eq_fast];kernel_rfl) (by decide +kernel) (by decide +kernel) (by decide +kernel) (by first | exact .inl (by decide +kernel) | exact .inr (by decide +kernel)) (by rw[isSubtype_type];kernel_rfl)
theorem zir:entryFor table "set_iterator.__iter__" = some Builtin.«dict_keyiterator.__iter__»:=entryFor_alias (id':="dict_keyiterator.__iter__") (by kernel_rfl) rfl (by decide +kernel) (by kernel_rfl)
theorem zjo (a:Value):argsOk "set_iterator.__iter__" ⟨[a],[]⟩:=by unfold argsOk;kernel_rfl
theorem zeg:entryFor table "set.__iter__" = some Builtin.«frozenset.__iter__»:=entryFor_alias (id':="frozenset.__iter__") (by kernel_rfl) rfl (by decide +kernel) (by kernel_rfl)
end F
noncomputable abbrev byText (w:World):Bool:=w.params.followText "set-order"
noncomputable abbrev zdg (first:Value)(i n ep:Nat)(a:Addr):Obj:={ cls:=.type "set_iterator",data:=.fields #[first,.int i 0,.ref a,.int n 0,.int ep 0] }
inductive At (w:World) (h:Heap) (it a:Addr) (es:Array (Int×Value)) (ep:Nat) (t:SetTable):List Addr->List Value->Nat->Prop where
 | drawn (tp:Addr) (ps:List Nat) (i:Nat):(tp≠it)->h.get? it=some (zdg (.ref tp) i es.size ep a)->h.IsTuple tp (ps.map λ(p:Nat)=>Value.int (p:Int) 0).toArray->ps.Perm (List.range es.size)->At w h it a es ep t [tp] (ps.map λp=>(es.getD p (0,.none)).2) i
 | text (slot i:Nat):byText w=true->h.get? it=some (zdg (.int slot 0) i es.size ep a)->At w h it a es ep t [] ((pickOrder (w.params.setOrder a ep) es).toList.map (·.2)) i
 | one (slot i:Nat):byText w=false->t.led=true->(t.plain=true\/es.size<=1)->h.get? it=some (zdg (.int slot 0) i es.size ep a)->(slot=if i=0 then 0 else t.place.getD (i-1) 0+1)->At w h it a es ep t [] (es.toList.map (·.2)) i
section
variable {prog:Program}{w:World}{A:Around}{E:Value->Shared->Prop}{s:Shared}{a it:Addr}{es:Array (Int×Value)}{ep:Nat}{t:SetTable}
theorem zaB {Q:(Array (Int×Value)×Nat×SetTable)->Shared->Prop}(r:Rec w s.heap a es ep t)(h:Q (es,ep,t) s):wpAny (model prog w) A (setState a) Q E s:=by
 obtain⟨o,e,_,d⟩:=r.obj;exact wpAny_setState_of e d r.fits h
theorem zdl {slot i n:Nat}{P:PySem.Fin->Shared->Prop}{F:Value->Shared->Prop}(r:Rec w s.heap a es ep t)(ho:s.heap.get? it=some (zdg (.int slot 0) i es.size ep a))
  (h:wpAny (model prog w) A (setNext a slot i ep >>= λm=>match m with
     | some (x,next)=>setField (.ref it) 0 (rawInt next) >>= λ_=>setField (.ref it) 1 (rawInt ((i:Int)+1)) >>= λ_=>ret x
     | none=>setField (.ref it) 2 .none >>= λ_=>newExc (.type "StopIteration") [] >>= λe=>raiseNew e) P F s) :
  wpAny (model prog w) A (Builtin.«set_iterator.__next__» ⟨[.ref it],[]⟩) P F s:=by
 unfold Builtin.«set_iterator.__next__» slotArgs;simp only[List.isEmpty_nil,Bool.not_true,Bool.false_eq_true,if_false,List.length_nil,bne_self_eq_false];refine wpAny_bind (wpAny_pure (wpAny_bind (wpAny_fieldsOf ho rfl ?_)));dsimp only;unfold setEntries;refine wpAny_bind (wpAny_bind (zaB r (wpAny_pure ?_)));simp only[bne_self_eq_false,Bool.false_eq_true,if_false,Int.toNat_natCast];exact h
theorem zhv {tp i n:Nat}{items:Array Value}{P:PySem.Fin->Shared->Prop}{F:Value->Shared->Prop}(r:Rec w s.heap a es ep t)(ho:s.heap.get? it=some (zdg (.ref tp) i es.size ep a))(ht:s.heap.IsTuple tp items)
  (h:wpAny (model prog w) A (match items[i]? with
      | some (.int place _)=>setNextDrawn a place.toNat ep >>= λx=>setField (.ref it) 1 (rawInt ((i:Int)+1)) >>= λ_=>ret x
      | some _=>unsupported "internal:set_iterator"
      | none=>setField (.ref it) 0 (rawInt 0) >>= λ_=>setField (.ref it) 2 .none >>= λ_=>newExc (.type "StopIteration") [] >>= λe=>raiseNew e) P F s) :
  wpAny (model prog w) A (Builtin.«set_iterator.__next__» ⟨[.ref it],[]⟩) P F s:=by
 unfold Builtin.«set_iterator.__next__» slotArgs;simp only[List.isEmpty_nil,Bool.not_true,Bool.false_eq_true,if_false,List.length_nil,bne_self_eq_false];refine wpAny_bind (wpAny_pure (wpAny_bind (wpAny_fieldsOf ho rfl ?_)));dsimp only;unfold setEntries;refine wpAny_bind (wpAny_bind (zaB r (wpAny_pure ?_)));simp only[bne_self_eq_false,Bool.false_eq_true,if_false,Int.toNat_natCast];obtain⟨o,ho',_,n',hd⟩:=ht;exact wpAny_bind (wpAny_seqItems ho' hd h)
theorem zda {i:Nat}{slot:Nat}{Q:Option (Value×Nat)->Shared->Prop}(r:Rec w s.heap a es ep t)(hb:byText w=true)
  (h:Q (((pickOrder (w.params.setOrder a ep) es)[i]?).map λe=>(e.2,slot)) s):wpAny (model prog w) A (setNext a slot i ep) Q E s:=by
 have hb':w.params.followText "set-order" = true:=hb;unfold setNext setsByText;refine wpAny_bind (zaB r ?_);refine wpAny_bind (wpAny_bind (wpAny_askSetting (wpAny_pure ?_)));simp only[model,hb',if_true,bne_self_eq_false,Bool.false_eq_true,if_false];unfold setWalk setsByText;refine wpAny_bind (wpAny_bind (zaB r ?_));refine wpAny_bind (wpAny_bind (wpAny_askSetting (wpAny_pure ?_)));simp only[model,hb',if_true];exact wpAny_bind (wpAny_askSetting (wpAny_pure (wpAny_pure h)))
theorem zdF {i:Nat}{slot:Nat}{Q:Option (Value×Nat)->Shared->Prop}(r:Rec w s.heap a es ep t)(hb:byText w=false)(hl:t.led=true)(h1:t.plain=true\/es.size<=1)
  (h:Q (match es[SetTable.below t.place slot]?,t.place[SetTable.below t.place slot]? with | some (_,x),some j=>some (x,j+1) | _,_=>none) s):wpAny (model prog w) A (setNext a slot i ep) Q E s:=by
 have hb':w.params.followText "set-order" = false:=hb;unfold setNext setsByText;refine wpAny_bind (zaB r ?_);refine wpAny_bind (wpAny_bind (wpAny_askSetting (wpAny_pure ?_)));simp only[model,hb',Bool.false_eq_true,if_false];have hd:(!t.plain&&decide (es.size > 1))=false:=by
  rcases h1 with z | z
  ·rw[z];rfl
  ·rw[decide_eq_false (by lia),Bool.and_false]
 have hm:(!t.led&&!es.isEmpty)=false:=by rw[hl];rfl
 show wpAny (model prog w) A (if (!t.plain&&decide (es.size > 1))=true then _ else((if (!t.led&&!es.isEmpty)=true then unsupported "set:maker-not-led" else pure ()) >>= λ_=>pure _)) Q E s
 rw[hd,hm];exact wpAny_bind (wpAny_pure (wpAny_pure h))
theorem zis {p:Nat}{x:Value}{hx:Int}{Q:Value->Shared->Prop}(r:Rec w s.heap a es ep t)(hp:es[p]? = some (hx,x))(h:Q x s):wpAny (model prog w) A (setNextDrawn a p ep) Q E s:=by
 unfold setNextDrawn;refine wpAny_bind (zaB r ?_);simp only[bne_self_eq_false,Bool.false_eq_true,if_false,hp];exact wpAny_pure h
theorem zjp (hh:A.handled=none){R:Option Value->Shared->Prop}(hR:∀h',(∀b o,s.heap.get? b=some o->h'.get? b=some o)->R none { s with heap:=h' }) :
  wpAny (model prog w) A.in1 (newExc (.type "StopIteration") [] >>= λe=>(raiseNew e:Sem PySem.Fin)) (λ_ _=>False)
   (λe s'=>wpAny (model prog w) A (isInstance e (.type "StopIteration") >>= λb=>if b=true then pure none else throw e) R E s') s:=by
 refine wpAny_bind ?_;simp only[newExc,newTuple];refine wpAny_bind (wpAny_newObj_type (wpAny_bind (m:=firstArgMember _ _) (wpAny_of_eq (a:=Value.none) (by first | rfl | (simp only[firstArgMember];rfl)) (wpAny_newObj_type ?_ (by size_fits)))) (by size_fits))
 simp only[raiseNew];refine wpAny_bind (wpAny_handled ?_);rw[show A.in1.handled=none from hh];refine wpAny_bind (wpAny_pure (wpAny_throw ?_));refine wpAny_bind (wpAny_isInstance (T:="StopIteration") (b:=true) ⟨_,Heap.get?_push_size _ rfl,rfl⟩ isSubtype_stop ?_);exact wpAny_pure (hR _ λb o e=>Heap.get?_push_of_some _ (Heap.get?_push_of_some _ e))
theorem zbz {first:Value}{i n:Nat}{Q:Option Value->Shared->Prop}(ho:s.heap.get? it=some (zdg first i n ep a))
  (h:wpAny (model prog w) A.in1 (Builtin.«set_iterator.__next__» ⟨[.ref it],[]⟩) (λfin s'=>∃u,fin=.done (.ret u)/\Q (some u) s')
   (λe s'=>wpAny (model prog w) A (isInstance e (.type "StopIteration") >>= λb=>if b=true then pure none else throw e) Q E s') s):wpAny (model prog w) A (pyNext (.ref it)) Q E s:=by
 have hT:s.TypeIs (.ref it) "set_iterator":=⟨_,ho,rfl⟩;unfold pyNext;refine wpAny_bind (wpAny_attempt (wpAny_callSpecial?_slot (name:=Str.ofString "__next__") hT F.slot_next (wpAny_call_entry F.slot_next hT F.entry_next ?_ (F.args_next _))));exact wpAny_mono h (λfin s' q50q=>by obtain⟨u,e,q⟩:=q50q;exact⟨u,e,wpAny_pure q⟩) λ_ _ z=>z
theorem next_item {tq:List Addr}{order:List Value}{i:Nat}{v:Value}{Q:Option Value->Shared->Prop}(r:Rec w s.heap a es ep t)(x:At w s.heap it a es ep t tq order i)(hv:order[i]? = some v)
  (hQ:∀h',At w h' it a es ep t tq order (i+1)->Heap.SameBut it s.heap h'->Q (some v) { s with heap:=h' }):wpAny (model prog w) A (pyNext (.ref it)) Q E s:=by
 have hc:((i:Int)+1)=((i+1:Nat):Int):=by lia
 cases x with
 | drawn tp ps _ hne ho ht hp=>
  refine zbz ho (zhv (n:=0) r ho ht ?_);rw[List.getElem?_map]at hv;cases hpi:ps[i]? with
  | none=>rw[hpi]at hv;cases hv
  | some p=>
   rw[hpi]at hv;have hlt:p<es.size:=List.mem_range.mp (hp.mem_iff.mp (List.mem_of_getElem? hpi));have e1:(ps.map λ(p:Nat)=>Value.int (p:Int) 0).toArray[i]? = some (Value.int (p:Int) 0):=by simp[hpi]
   rw[e1];dsimp only;have e2:es[p]? = some (es[p].1,es[p].2):=by simp[hlt]
   have e3:v=es[p].2:=by
    have q:=Option.some.inj hv;rw[<- q];simp[Array.getD,hlt]
   rw[Int.toNat_natCast];refine wpAny_bind (zis r e2 (wpAny_bind (wpAny_setField ho rfl (by show 1<5;decide) (wpAny_pure ⟨_,rfl,?_⟩))));rw[<- e3];refine hQ _ (.drawn tp ps (i+1) hne ?_ ?_ hp) (Heap.SameBut.update ..)
   ·rw[hc];exact Heap.get?_update_self _ ho rfl
   ·obtain⟨o,q,c⟩:=ht;exact⟨o,(Heap.get?_update_other _ _ (Ne.symm hne)).trans q,c⟩
 | text slot _ hb ho=>
  refine zbz ho (zdl (n:=0) r ho (wpAny_bind (zda r hb ?_)));rw[List.getElem?_map]at hv;cases hpi:(pickOrder (w.params.setOrder a ep) es).toList[i]? with
  | none=>rw[hpi]at hv;cases hv
  | some p=>
   rw[hpi]at hv;have e1:(pickOrder (w.params.setOrder a ep) es)[i]? = some p:=by rw[<- Array.getElem?_toList];exact hpi
   have e3:p.2=v:=Option.some.inj hv;rw[e1];dsimp only[Option.map];rw[e3];have ho1:(s.heap.update it (Obj.mapFields (·.setIfInBounds 0 (rawInt slot)))).get? it=some (zdg (.int slot 0) i es.size ep a):=Heap.get?_update_self _ ho rfl;refine wpAny_bind (wpAny_setField ho rfl (by show 0<5;decide) (wpAny_bind (wpAny_setField ho1 rfl (by show 1<5;decide) (wpAny_pure ⟨_,rfl,?_⟩))));refine hQ _ (.text slot (i+1) hb ?_) ((Heap.SameBut.update ..).trans (Heap.SameBut.update ..));rw[hc];exact Heap.get?_update_self _ ho1 rfl
 | one slot _ hb hl h1 ho h0=>
  refine zbz ho (zdl (n:=0) r ho (wpAny_bind (zdF r hb hl h1 ?_)));have hi:i<es.size:=by
   have q:=(List.getElem?_eq_some_iff.mp hv).1;simpa using q
  have hps:t.place.size=es.size:=by
   have q:=r.fits;simp only[SetTable.fits,Bool.and_eq_true,beq_iff_eq]at q;exact q.1
  have e0:SetTable.below t.place slot=i:=by rw[h0];exact below_at r.asc (by lia)
  have e1:es[i]? = some (es[i].1,es[i].2):=by simp[hi]
  have e3:es[i].2=v:=by
   rw[List.getElem?_map]at hv;have q:es.toList[i]? = some es[i]:=by simp[hi]
   rw[q]at hv;exact Option.some.inj hv
  have hip:i<t.place.size:=by lia
  obtain⟨pl,hpl⟩:∃pl,t.place[i]? = some pl:=⟨t.place[i],getElem?_pos t.place i hip⟩;have hpd:t.place.getD i 0=pl:=by
   rw[getElem?_pos t.place i hip]at hpl;simp only[Array.getD,hip,dif_pos];exact Option.some.inj hpl
  rw[e0,e1,hpl];dsimp only;rw[e3];have ho1:(s.heap.update it (Obj.mapFields (·.setIfInBounds 0 (rawInt ((pl+1:Nat):Int))))).get? it=some (zdg (.int ((pl+1:Nat):Int) 0) i es.size ep a):=Heap.get?_update_self _ ho rfl;refine wpAny_bind (wpAny_setField ho rfl (by show 0<5;decide) (wpAny_bind (wpAny_setField ho1 rfl (by show 1<5;decide) (wpAny_pure ⟨_,rfl,?_⟩))));refine hQ _ (.one (pl+1) (i+1) hb hl h1 ?_ (by rw[if_neg (by lia),Nat.add_sub_cancel,hpd])) ((Heap.SameBut.update ..).trans (Heap.SameBut.update ..));rw[hc];exact Heap.get?_update_self _ ho1 rfl
theorem zjq {tq:List Addr}{order:List Value}{Q:Option Value->Shared->Prop}(hh:A.handled=none)(r:Rec w s.heap a es ep t)(x:At w s.heap it a es ep t tq order es.size)
  (hQ:∀h',(∀b o,b≠it->s.heap.get? b=some o->h'.get? b=some o)->Q none { s with heap:=h' }):wpAny (model prog w) A (pyNext (.ref it)) Q E s:=by
 have up:∀(k:Nat) (y:Value) (h:Heap) (b:Addr) (o:Obj),b≠it->h.get? b=some o->(h.update it (Obj.mapFields (·.setIfInBounds k y))).get? b=some o:=λk y h b o hb e=>(Heap.get?_update_other _ _ (Ne.symm hb)).trans e;have two:∀(slot i:Nat),s.heap.get? it=some (zdg (.int slot 0) i es.size ep a)->wpAny (model prog w) A.in1 (setField (.ref it) 2 .none >>= λ_=>newExc (.type "StopIteration") [] >>= λe=>(raiseNew e:Sem PySem.Fin))
   (λfin s'=>∃u,fin=.done (.ret u)/\Q (some u) s') (λe s'=>wpAny (model prog w) A (isInstance e (.type "StopIteration") >>= λb=>if b=true then pure none else throw e) Q E s') s:=λslot i ho=>by
  refine wpAny_bind (wpAny_setField ho rfl (by show 2<5;decide) ?_);exact wpAny_mono (zjp (E:=E) (R:=Q) hh λh' k=>hQ h' λb o hb e=>k b o (up _ _ _ b o hb e)) (λ_ _ z=>z.elim) λ_ _ z=>z
 cases x with
 | drawn tp ps _ hne ho ht hp=>
  refine zbz ho (zhv (n:=0) r ho ht ?_);have e1:(ps.map λ(p:Nat)=>Value.int (p:Int) 0).toArray[es.size]? = none:=by
   have q:=hp.length_eq;rw[List.length_range]at q;simp[q]
  rw[e1];dsimp only;have ho1:(s.heap.update it (Obj.mapFields (·.setIfInBounds 0 (rawInt 0)))).get? it=some (zdg (.int ((0:Nat):Int) 0) es.size es.size ep a):=Heap.get?_update_self _ ho rfl;refine wpAny_bind (wpAny_setField ho rfl (by show 0<5;decide) (wpAny_bind (wpAny_setField ho1 rfl (by show 2<5;decide) ?_)));exact wpAny_mono (zjp (E:=E) (R:=Q) hh λh' k=>hQ h' λb o hb e=>k b o (up _ _ _ b o hb (up _ _ _ b o hb e))) (λ_ _ z=>z.elim) λ_ _ z=>z
 | text slot _ hb ho=>
  refine zbz ho (zdl (n:=0) r ho (wpAny_bind (zda r hb ?_)));have q:=(zfK (w.params.setOrder a ep) es).length_eq;have e1:(pickOrder (w.params.setOrder a ep) es)[es.size]? = none:=by
   simp only[Array.length_toList]at q;simp[q]
  rw[e1];dsimp only[Option.map];exact two slot _ ho
 | one slot _ hb hl h1 ho h0=>
  refine zbz ho (zdl (n:=0) r ho (wpAny_bind (zdF r hb hl h1 ?_)));have hps:t.place.size=es.size:=by
   have q:=r.fits;simp only[SetTable.fits,Bool.and_eq_true,beq_iff_eq]at q;exact q.1
  have e0:es[SetTable.below t.place slot]? = none:=by
   rw[h0,below_at r.asc (by lia)];simp
  rw[e0];dsimp only;exact two slot _ ho
theorem zjr {Q:Bool->Shared->Prop}(r:Rec w s.heap a es ep t)(h:Q (!byText w&&(!t.plain&&decide (es.size > 1))) s):wpAny (model prog w) A (setDrawn a) Q E s:=by
 unfold setDrawn setsByText;refine wpAny_bind (zaB r ?_);exact wpAny_bind (wpAny_bind (wpAny_askSetting (wpAny_pure (wpAny_pure h))))
theorem At.keep {h h':Heap}{tq:List Addr}{order:List Value}{i:Nat}(x:At w h it a es ep t tq order i)(k:∀b∈it::tq,∀o,h.get? b=some o->h'.get? b=some o):At w h' it a es ep t tq order i:=by
 cases x with
 | drawn tp ps _ hne ho ht hp=>
  obtain⟨o,q,c⟩:=ht;exact .drawn tp ps i hne (k it (by simp) _ ho) ⟨o,k tp (by simp) o q,c⟩ hp
 | text slot _ hb ho=>exact .text slot i hb (k it (by simp) _ ho)
 | one slot _ hb hl h1 ho h0=>exact .one slot i hb hl h1 (k it (by simp) _ ho) h0
theorem At.len {h:Heap}{tq:List Addr}{order:List Value}{i:Nat}(x:At w h it a es ep t tq order i):order.Perm (es.toList.map (·.2)):=by
 cases x with
 | drawn tp ps _ hne ho ht hp=>
  have e:(List.range es.size).map (λp=>(es.getD p (0,Value.none)).2)=es.toList.map (·.2):=by
   apply List.ext_getElem
   ·simp
   ·intro j h1 h2;simp at h1;simp[Array.getD,h1]
  rw[<- e];exact hp.map _
 | text slot _ hb ho=>exact(zfK _ _).map _
 | one slot _ hb hl h1 ho h0=>exact List.Perm.refl _
theorem zlr {Q:Value->Shared->Prop}(r:Rec w s.heap a es ep t)
  (h:∀(h':Heap) (d:Drawn) (it:Addr) (tq:List Addr) (order:List Value),(∀b o,s.heap.get? b=some o->h'.get? b=some o)->s.heap.objs.size<=it->(∀b∈it::tq,s.heap.objs.size<=b/\b<h'.objs.size)->At w h' it a es ep t tq order 0->
   Q (.ref it) { s with heap:=h',drawn:=d }):wpAny (model prog w) A (pyIter (.ref a)) Q E s:=by
 refine wpAny_pyIter_slot r.type PySem.F.slot_set_iter (wpAny_call_entry PySem.F.slot_set_iter r.type F.zeg ?_ (PySem.F.args_set_iter_1 _));unfold Builtin.«frozenset.__iter__» Builtin.Frozenset.slot0 slotArgs;simp only[List.isEmpty_nil,Bool.not_true,Bool.false_eq_true,if_false,List.length_nil,bne_self_eq_false,bind_assoc];unfold Builtin.Frozenset.addrOf Builtin.Frozenset.sizeOf setEntries setEpoch;refine wpAny_bind (wpAny_pure ?_);dsimp only;refine wpAny_bind (wpAny_pure ?_);simp only[bind_assoc];refine wpAny_bind (zaB r (wpAny_bind (wpAny_pure (wpAny_bind (wpAny_pure (wpAny_bind (zjr r ?_)))))));cases hd:(!byText w&&(!t.plain&&decide (es.size > 1)))with
 | true=>
  simp only[Bool.and_eq_true,Bool.not_eq_true',decide_eq_true_eq]at hd;simp only[if_true,bind_assoc];refine wpAny_bind (zhu es.size (List.range es.size) _ _ (by simp) λps d hp=>?_);refine wpAny_bind (wpAny_newTuple ?_ (by rw[List.length_map,hp.length_eq,List.length_range];exact fits_of_scanBound r.sz));dsimp only;have hz:(s.heap.push { cls:=.type "tuple",data:=.seq (ps.map λ(i:Nat)=>rawInt (i:Int)).toArray }).objs.size=s.heap.objs.size+1:=Heap.size_push ..;have r1:Rec w (s.heap.push { cls:=.type "tuple",data:=.seq (ps.map λ(i:Nat)=>rawInt (i:Int)).toArray }) a es ep t:=r.keep λo e=>Heap.get?_push_of_some _ e;refine wpAny_bind (zaB (s:={ s with heap:=s.heap.push { cls:=.type "tuple",data:=.seq (ps.map λ(i:Nat)=>rawInt (i:Int)).toArray },drawn:=d }) r1 (wpAny_bind (wpAny_pure (wpAny_bind (wpAny_newObj_type (wpAny_pure ?_))))));refine⟨_,rfl,"set_iterator",_,⟨_,Heap.get?_push_size _ rfl,rfl⟩,F.slot_next.lookup,?_⟩;refine h _ d _ [s.heap.objs.size] _ (λb o e=>Heap.get?_push_of_some _ (Heap.get?_push_of_some _ e)) (by rw[hz];exact Nat.le_succ _) (λb hb=>?_)
   (.drawn s.heap.objs.size ps 0 (by rw[hz];exact Nat.ne_of_lt (Nat.lt_succ_self _)) (Heap.get?_push_size _ rfl) ⟨_,Heap.get?_push_of_some _ (Heap.get?_push_size _ rfl),rfl,_,rfl⟩ hp)
  rw[Heap.size_push,hz];rcases List.mem_cons.mp hb with e | hb
  ·rw[hz]at e;rw[e];exact⟨Nat.le_succ _,Nat.lt_succ_self _⟩
  ·have e:=List.mem_singleton.mp hb;rw[e];exact⟨Nat.le_refl _,Nat.lt_succ_of_lt (Nat.lt_succ_self _)⟩
 | false=>
  simp only[Bool.false_eq_true,if_false];refine wpAny_bind (wpAny_pure (wpAny_bind (zaB r (wpAny_bind (wpAny_pure (wpAny_bind (wpAny_newObj_type (wpAny_pure ?_))))))));refine⟨_,rfl,"set_iterator",_,⟨_,Heap.get?_push_size _ rfl,rfl⟩,F.slot_next.lookup,?_⟩;have fin:∀order,At w (s.heap.push (zdg (.int ((0:Nat):Int) 0) 0 es.size ep a)) s.heap.objs.size a es ep t [] order 0->Q (.ref s.heap.objs.size) { s with heap:=s.heap.push (zdg (.int ((0:Nat):Int) 0) 0 es.size ep a) }:=λorder x=>
   h _ s.drawn _ [] order (λb o e=>Heap.get?_push_of_some _ e) (Nat.le_refl _) (λb hb=>by
    have e:b=s.heap.objs.size:=by simpa using hb
    subst e;rw[Heap.size_push];exact⟨Nat.le_refl _,Nat.lt_succ_self _⟩) x
  cases hb:byText w with
  | true=>exact fin _ (.text 0 0 hb (Heap.get?_push_size _ rfl))
  | false=>
   rw[hb]at hd;have hl:t.led=true:=by
    rcases r.led with z | z
    ·exact z
    ·have z':byText w=true:=z;rw[hb]at z';cases z'
   have h1:t.plain=true\/es.size<=1:=by
    cases hp:t.plain with
    | true=>exact .inl rfl
    | false=>
     rw[hp]at hd;simp only[Bool.not_false,Bool.true_and,decide_eq_false_iff_not]at hd;exact .inr (by lia)
   exact fin _ (.one 0 0 hb hl h1 (Heap.get?_push_size _ rfl) rfl)
theorem walks {tq:List Addr}{order:List Value}(hh:A.handled=none)(hta:a∉it::tq)(h0:order.length=es.size) :
  WalksS prog w A it (it::a::tq) [it] (λx y=>y=x) es.size (λi v=>order[i]? = some v) (λi s=>Rec w s.heap a es ep t/\At w s.heap it a es ep t tq order i) where
 sub:=λb hb=>by
  have e:b=it:=by simpa using hb
  subst e;exact List.mem_cons_self
 grefl:=λ_=>rfl
 gtrans:=λ_ _ _ h1 h2=>h2.trans h1
 frame:=λi s h' tk st _ k=>⟨st.1.keep λo e=>k a (by simp) o e,st.2.keep λb hb o e=>k b (by
  rcases List.mem_cons.mp hb with z | z
  ·subst z;exact List.mem_cons_self
  ·exact List.mem_cons_of_mem _ (List.mem_cons_of_mem _ z)) o e⟩
 item:=λi s Q E hi st hQ=>by
  have hv:order[i]? = some (order[i]'(by lia)):=by simp
  refine next_item st.1 st.2 hv λh' x sb=>?_;have ne:a≠it:=λz=>hta (by rw[z];exact List.mem_cons_self);exact hQ _ _ hv ⟨st.1.keep λo e=>(sb.2 a ne).trans e,x⟩ ⟨λb o hb e=>(sb.2 b (λz=>hb (by simp[z]))).trans e,rfl,rfl,rfl,Nat.le_refl _⟩
 done:=λs Q E st hQ=>zjq hh st.1 st.2 λh' k=>hQ _ ⟨λb o hb e=>k b o (λz=>hb (by simp[z])) e,rfl,rfl,rfl,Nat.le_refl _⟩
 self:=λi s Q E st hQ=>by
  have hT:s.TypeIs (.ref it) "set_iterator":=by
   rcases st.2 with ⟨tp,ps,_,_,ho,_⟩ | ⟨slot,_,_,ho⟩ | ⟨slot,_,_,_,_,ho,_⟩
   ·exact⟨_,ho,rfl⟩
   ·exact⟨_,ho,rfl⟩
   ·exact⟨_,ho,rfl⟩
  refine wpAny_pyIter_slot hT F.zfL (wpAny_call_entry F.zfL hT F.zir ?_ (F.zjo _));show wpAny _ _ (ret (.ref it)) _ _ s;exact wpAny_pure ⟨_,rfl,"set_iterator",_,hT,F.slot_next.lookup,hQ⟩
theorem zgG {Q:List Value->Shared->Prop}(hh:A.handled=none)(r:Rec w s.heap a es ep t)
  (h:∀(h':Heap) (d:Drawn) (tk:Nat) (order:List Value),order.Perm (es.toList.map (·.2))->(∀b o,s.heap.get? b=some o->h'.get? b=some o)->Q order { s with heap:=h',drawn:=d,toks:=tk }):wpAny (model prog w) A (collect (.ref a)) Q E s:=by
 unfold collect;refine wpAny_bind (wpAny_runValue (codeAny_builtin PySem.F.entry_proto_collect ?_));rw[Around.under_plainId PySem.F.plain_proto_collect _];show wpAny _ A.in1 (newList [] >>= λl=>again (.builtin "list.__iadd__" ⟨[l,.ref a],[]⟩)) _ _ s;refine wpAny_bind (wpAny_newList (wpAny_pure ⟨plainId_quiet PySem.F.plain_list_iadd _,codeAny_builtin PySem.F.entry_list_iadd ?_⟩));rw[Around.under_plainId PySem.F.plain_list_iadd _];have hS0:(s.heap.push { cls:=.type "list",data:=.seq ([]:List Value).toArray }).get? s.heap.objs.size=some { cls:=.type "list",data:=.seq ([]:List Value).toArray }:=Heap.get?_push_size _ rfl;have hz0:(s.heap.push { cls:=.type "list",data:=.seq ([]:List Value).toArray }).objs.size=s.heap.objs.size+1:=Heap.size_push ..;have r0:Rec w (s.heap.push { cls:=.type "list",data:=.seq ([]:List Value).toArray }) a es ep t:=r.keep λo e=>Heap.get?_push_of_some _ e;have haS:a<s.heap.objs.size:=by obtain⟨o,e,_⟩:=r.obj;exact Heap.lt_size e
 show wpAny _ A.in1 (Builtin.List.listExtendWith (.ref s.heap.objs.size) (.ref a) (.ref s.heap.objs.size)) _ _ { s with heap:=s.heap.push { cls:=.type "list",data:=.seq ([]:List Value).toArray } };unfold Builtin.List.listExtendWith;refine wpAny_bind (wpAny_typeOf (T:="set") r0.type ?_);have h1:Builtin.List.listSameRef (.ref s.heap.objs.size) (.ref a)=false:=by simp[Builtin.List.listSameRef,Nat.ne_of_gt haS]
 have h2:(Value.type "set" == Value.type "list")=false:=by decide
 have h3:(Value.type "set" == Value.type "tuple")=false:=by decide
 simp only[h1,h2,h3,Bool.or_false,Bool.false_eq_true,if_false];refine wpAny_bind (zlr (s:={ s with heap:=s.heap.push { cls:=.type "list",data:=.seq ([]:List Value).toArray } }) r0 λh' d it tq order kp hit hfp x=>?_);have rT:Shared.TypeIs { s with heap:=h',drawn:=d } (.ref a) "set":=(r0.keep λo e=>kp a o e).type;have room:∀ {Q':Bool->Shared->Prop} {A':Around} {E':Value->Shared->Prop},Q' false { s with heap:=h',drawn:=d }->wpAny (model prog w) A' (Builtin.List.listLengthHint (.ref a)) Q' E' { s with heap:=h',drawn:=d }:=λ{Q' A' E'} hq=>by
  unfold Builtin.List.listLengthHint;refine wpAny_bind (wpAny_specialOf rT PySem.F.slot_set_len.lookup ?_);generalize hid:("set.__len__" : String)=id0;wp_delta;rw[show splitId id0=some ("set","__len__") from by subst hid;decide +kernel];subst hid;refine wpAny_bind (wpAny_isInstance (T:="set") (b:=true) rT (by rw[isSubtype_type];kernel_rfl) ?_);refine wpAny_ite_split (λhab=>absurd hab (by decide)) (λ_=>wpAny_ite_split (λ_=>?_) (λhab=>absurd (by decide +kernel) hab));exact wpAny_bind (wpAny_typeOf rT (wpAny_pure hq))
 refine wpAny_bind (wpAny_holding (room ?_));show wpAny _ A.in1 (rule "list.extend.makes-room" >>= λ_=>Builtin.List.listTouch (.ref s.heap.objs.size) >>= λ_=>again (.builtin "list.extend.loop" ⟨[.ref s.heap.objs.size,.ref it,.ref s.heap.objs.size],[]⟩)) _ _ { s with heap:=h',drawn:=d };refine wpAny_bind (wpAny_rule ?_);have hS1:h'.get? s.heap.objs.size=some { cls:=.type "list",data:=.seq ([]:List Value).toArray }:=kp _ _ hS0;refine wpAny_bind ?_;show wpAny _ A.in1 (updateSeq s.heap.objs.size (·.push .none) >>= λ_=>updateSeq s.heap.objs.size (·.pop)) _ _ { s with heap:=h',drawn:=d };refine wpAny_bind (wpAny_updateSeq hS1 rfl ?_);have hS2:=Heap.get?_update_self (Obj.mapSeq (·.push Value.none)) hS1 rfl;refine wpAny_updateSeq hS2 rfl ?_;have hS3:=Heap.get?_update_self (Obj.mapSeq (·.pop)) hS2 rfl;have oth:∀b o,b≠s.heap.objs.size->h'.get? b=some o->((h'.update s.heap.objs.size (Obj.mapSeq (·.push Value.none))).update s.heap.objs.size (Obj.mapSeq (·.pop))).get? b=some o:=
  λb o hb e=>(Heap.get?_update_other _ _ (Ne.symm hb)).trans ((Heap.get?_update_other _ _ (Ne.symm hb)).trans e)
 have hlow:∀b∈it::tq,s.heap.objs.size<b:=λb hb=>by
  have q:=(hfp b hb).1;dsimp only at q;rw[hz0]at q;exact q
 have hta:a∉it::tq:=λz=>Nat.lt_asymm haS (hlow a z);have hSf:s.heap.objs.size∉it::a::tq:=λz=>by
  rcases List.mem_cons.mp z with e | z
  ·exact absurd (hlow it List.mem_cons_self) (by rw[<- e];exact Nat.lt_irrefl _)
  ·rcases List.mem_cons.mp z with e | z
   ·exact absurd haS (by rw[<- e];exact Nat.lt_irrefl _)
   ·exact absurd (hlow _ (List.mem_cons_of_mem _ z)) (Nat.lt_irrefl _)
 have W:=walks (prog:=prog) (w:=w) (A:=A.in1) (it:=it) (a:=a) (es:=es) (ep:=ep) (t:=t) (tq:=tq) (order:=order) (by simpa using hh) hta (by rw[x.len.length_eq];simp);refine wpAny_pure ⟨plainId_quiet PySem.F.plain_extend_loop _,codeAny_extend_loopS W (fits_of_scanBound r.sz) _ hSf _ es.size 0 _ _ _ rfl (Nat.zero_le _) ⟨(r0.keep λo e=>kp a o e).keep λo e=>oth a o (Nat.ne_of_lt haS) e,x.keep λb hb o e=>oth b o (Nat.ne_of_gt (hlow b hb)) e⟩ hS3 (ItemsOf.nil _) λs' acc' c' hm hS' hacc=>?_⟩;show wpAny _ A (load s.heap.objs.size >>= _) _ _ s';refine wpAny_bind (wpAny_load hS' (wpAny_pure ?_));have eacc:acc'.toList=order:=by
  apply List.ext_getElem?;intro j;by_cases hj:j<es.size
  ·have q1:acc'[j]? = some (acc'[j]'(by rw[hacc.1];exact hj)):=by simp[hacc.1,hj]
   have q2:=hacc.2 j _ q1;rw[q2,<- q1];simp
  ·have q1:acc'.toList[j]? = none:=by simp[hacc.1];lia
   have q3:order.length=es.size:=by rw[x.len.length_eq];simp
   have q2:order[j]? = none:=by simp[q3];lia
   rw[q1,q2]
 rw[eacc];obtain⟨h2',g2,d2,t2,o2⟩:=s';have e1:g2=s.gens:=hm.gens;have e2:d2=d:=hm.drawn;have e3:o2=s.os:=hm.os;subst e1 e2 e3;refine h h2' d2 t2 order x.len λb o e=>?_;have hb:b<s.heap.objs.size:=Heap.lt_size e;refine hm.heap b o (λz=>?_) (oth b o (Nat.ne_of_lt hb) (kp b o (Heap.get?_push_of_some _ e)));rcases List.mem_cons.mp z with q | q
 ·exact Nat.ne_of_lt hb q
 ·have q':b=it:=by simpa using q
  exact absurd (hlow it List.mem_cons_self) (by rw[<- q'];exact Nat.lt_asymm hb)
end
open PySem PySem.Spec PyProof.Rows
theorem zit {xs:Array Nat}(ha:Asc xs){j:Nat}(hn:¬ (xs[SetTable.below xs j]? == some j)=true):Asc (SetTable.insertAt xs (SetTable.below xs j) j):=by
 obtain⟨h1,h2,h3⟩:=zdk ha j;generalize SetTable.below xs j=r at h1 h2 h3 hn;have hnot:∀i,r<=i->i<xs.size->j<xs.getD i 0:=λi g1 g2=>by
  have q:=h3 r (Nat.le_refl _) (by lia);have q2:xs.getD r 0≠j:=λe=>by
   have hr:r<xs.size:=by lia
   have e2:xs[r]=j:=by simpa[Array.getD,hr]using e
   exact hn (by rw[getElem?_pos xs r hr,e2];simp)
  rcases Nat.lt_or_ge r i with z | z
  ·have:=ha.lt z g2;lia
  ·have:i=r:=by lia
   subst this;lia
 have hl:(SetTable.insertAt xs r j).toList=xs.toList.take r++[j]++xs.toList.drop r:=by
  unfold SetTable.insertAt;simp[Array.toList_extract,List.extract_eq_drop_take,List.take_of_length_le]
 unfold Asc;rw[hl,List.pairwise_append,List.pairwise_append];refine⟨⟨List.Pairwise.sublist (List.take_sublist _ _) ha,by simp,λa hm b hb=>?_⟩,List.Pairwise.sublist (List.drop_sublist _ _) ha,λa hm b hb=>?_⟩
 ·rw[List.mem_singleton.mp hb];obtain⟨i,hi,rfl⟩:=List.mem_iff_getElem.mp hm;rw[List.length_take]at hi;rw[List.getElem_take];have q:=h2 i (by lia);simpa[Array.getD,show i<xs.size by lia]using q
 ·obtain⟨i,hi,rfl⟩:=List.mem_iff_getElem.mp hb;rw[List.length_drop,Array.length_toList]at hi;rw[List.getElem_drop];have q:=hnot (r+i) (by lia) (by lia);have q:j<xs.toList[r+i]'(by simp;lia):=by simpa[Array.getD,show r+i<xs.size by lia]using q
  rcases List.mem_append.mp hm with hm | hm
  ·obtain⟨k,hk,rfl⟩:=List.mem_iff_getElem.mp hm;rw[List.length_take]at hk;rw[List.getElem_take];have q2:=h2 k (by lia);have q2:xs.toList[k]'(by simp;lia)<j:=by simpa[Array.getD,show k<xs.size by lia]using q2
   lia
  ·rw[List.mem_singleton.mp hm];exact q
theorem ziu {t t':SetTable}{hs:Array Int}{n:Nat}{o:Array Nat}(h:t.relaid hs n=some (t',o)):Asc t'.place/\t'.dummies = #[]:=by
 unfold SetTable.relaid SetTable.laid at h;cases e:SetTable.layClean (SetTable.sizeAbove n-1) hs with
 | none=>rw[e]at h;cases h
 | some ow=>
  rw[e]at h;have q:=Option.some.inj h;rw[<- (Prod.mk.inj q).1];refine⟨?_,rfl⟩;unfold Asc;dsimp only;rw[List.pairwise_map,List.pairwise_filterMap];refine List.pairwise_lt_range.imp λ{a b} hab p hp q hq=>?_;cases ha:ow.getD a none with
  | none=>rw[ha]at hp;cases hp
  | some x=>
   cases hb:ow.getD b none with
   | none=>rw[hb]at hq;cases hq
   | some y=>rw[ha]at hp;rw[hb]at hq;cases hp;cases hq;exact hab
section
variable {α:Type} [DecidableEq α] {prog:Program}{w:World}{A:Around}{E:Value->Shared->Prop}{s:Shared}{a:Addr}{knd:PySem.KeyKind prog w α}{of:Value->α}
theorem zjs {h:Heap}{es es':Array (Int×Value)}{ep:Nat}{t t':SetTable}(r:Rec w h a es ep t)(hf:t'.fits es'.size=true)(hl:t'.led=t.led)(hp:Asc t'.place/\t'.dummies = #[])(hz:es'.size<scanBound) :
  Rec w (h.update a (Obj.putSet es' t')) a es' (ep+1) t':=by
 obtain⟨o,ho,hex,hd⟩:=r.obj;have hg:(h.update a (Obj.putSet es' t')).get? a=some { o with data:=.set es' (ep+1) t' }:=by
  have q:=Heap.get?_update_self (Obj.putSet es' t') ho (by rw[putSet_of es' t' hd];rfl)
  rwa [putSet_of es' t' hd]at q
 exact⟨⟨_,hg,hex,rfl⟩,hf,by rw[hl];exact r.led,hp.1,hp.2,hz⟩
theorem zfM {es es':Array (Int×Value)}{ep:Nat}{t t':SetTable}{Q:Unit->Shared->Prop}(r:Rec w s.heap a es ep t)(hz:es'.size<scanBound)(h:Q () { s with heap:=s.heap.update a (Obj.putSet es' t') }):wpAny (model prog w) A (storeSet a es' t') Q E s:=by
 obtain⟨o,ho,_,hd⟩:=r.obj;exact wpAny_storeSet_of ho hd h (fits_of_scanBound hz)
end
noncomputable abbrev zbe (w:World):Obj:={ cls:=.type "set",dict:=none,data:=.set #[] 0 (.fresh 0 0 (!byText w)) }
section
variable {prog:Program}{w:World}{A:Around}{E:Value->Shared->Prop}{s:Shared}
theorem znn (x:Value){Q₁:Value->Shared->Prop}(h:Q₁ (.ref s.heap.objs.size) { s with heap:=s.heap.push (zbe w) }) :
  codeAny (model prog w) A (.call (.builtin "set.__new__") ⟨[.type "set",x],[]⟩) (wants Q₁ E) s:=by
 refine codeAny_of_tree ?_;show wpAny _ A.in1 (do checkBuiltinCall "set.__new__" ⟨[.type "set",x],[]⟩;again (.builtin "set.__new__" ⟨[.type "set",x],[]⟩)) _ _ s
 refine wpAny_bind (wpAny_of_eq (PySem.F.newCall_set_1 x) (wpAny_pure ⟨plainId_quiet PySem.F.plain_set_new _,codeAny_builtin PySem.F.entry_set_new ?_⟩));rw[Around.under_plainId PySem.F.plain_set_new _];unfold Builtin.«set.__new__» Builtin.Frozenset.newClass;have hsub:=sub_set_self;obtain⟨hp,g,d,tk,os⟩:=s;dsimp only
 wp_walk
 refine wpAny_askSetting (wpAny_pure ?_);dsimp only;simp only[newObj];exact wpAny_bind (wpAny_alloc (wpAny_pure (wpAny_pure h)))
theorem zjt {l:Addr}{items:Array Value}{SP:Heap->Addr->Prop}{Q:Value->Shared->Prop}(hh:A.handled=none)(hl:s.heap.IsList l items)
  (loop:∀ {A':Around} {R:Result->Shared->Prop} {I:Addr} {fp wr:List Addr} {G:Array GenState->Array GenState->Prop} {P:Nat->Value->Prop} {St:Nat->Shared->Prop} (W:WalksS prog w A'.in1 I fp wr G items.size P St) (S:Addr),A'.units<=A.units+8->S∉fp->(∀i v,P i v->items[i]? = some v)->(∀b,b<s.heap.objs.size->b∉S::wr)->∀s1:Shared,(∀b o,s.heap.get? b=some o->s1.heap.get? b=some o)->St 0 s1->s1.heap.get? S=some (zbe w)->(∀s',Moved (S::wr) G s1 s'->SP s'.heap S->R (.ok (.ret .none)) s')->
   codeAny (model prog w) A' (.builtin "set.update.loop" ⟨[.ref S,.ref I],[]⟩) R s1)
  (h:∀(h':Heap) (tk:Nat),SP h' s.heap.objs.size->(∀b o,s.heap.get? b=some o->h'.get? b=some o)->Q (.ref s.heap.objs.size) { s with heap:=h',toks:=tk }) :
  wpAny (model prog w) A (call (.type "set") [.ref l]) Q E s:=by
 obtain⟨c,tl,hmro⟩:=PySem.F.called_set.mro;have hmade:=PySem.F.called_set.made;have hsub:=PySem.F.called_set.sub;refine wpAny_call (codeAny_of_tree ?_);show wpAny _ _ (callAny (.type "set") _) _ _ _;refine wpAny_pure ⟨Code.quiet_builtin _ (by decide +kernel),codeAny_builtin PySem.F.entry_type_call ?_⟩;rw[Around.under_plain (weight_type_call_type "set" [.ref l] []) rfl];have h1:=PySem.F.called_set.notType;have h2:=PySem.F.called_set.canCreate;have hct:=PySem.F.typeCall_set_1 (.ref l)
 repeat (any_goals (first | assumption | wp_step))
 refine codeAny_mono (znn (.ref l) (E:=E) (Q₁:=λob s1=>ob=.ref s.heap.objs.size/\s1={ s with heap:=s.heap.push (zbe w) }) ⟨rfl,rfl⟩) λr s1 hr=>?_;cases r with
 | error e=>exact hr
 | ok fl=>
  cases fl with
  | ret ob=>
   obtain⟨rfl,rfl⟩:=hr;have hS:(s.heap.push (zbe w)).get? s.heap.objs.size=some (zbe w):=Heap.get?_push_size _ rfl;have hT:Shared.TypeIs { s with heap:=s.heap.push (zbe w) } (.ref s.heap.objs.size) "set":=⟨_,hS,rfl⟩;have hli:=PySem.F.called_set.init.lookup;have hbi:=PySem.F.called_set.init.bind (.ref s.heap.objs.size)
   repeat (any_goals (first | assumption | wp_step))
   refine codeAny_mono (codeAny_call_builtin (R:=wants (λr s2=>r=.none/\∃h' tk,s2={ s with heap:=h',toks:=tk }/\SP h' s.heap.objs.size/\∀b o,s.heap.get? b=some o->h'.get? b=some o) E)
    PySem.F.called_set.init.plain PySem.F.entry_set_init (check_set_init_1 hT ?_)) λr₂ s₂ hr₂=>?_
   ·obtain⟨⟨ocls,odict,odata,oslots⟩,hol,hcl,nl,hdl⟩:=hl;simp only at hcl hdl;subst hcl;subst hdl;have hol':(s.heap.push (zbe w)).get? l=some { cls:=.type "list",dict:=odict,data:=.seq items nl,slots:=oslots }:=Heap.get?_push_of_some _ hol;have hsls:=PySem.F.sub_list_set;have hslf:=PySem.F.sub_list_frozenset;have hne:(Value.type "list" == Value.type "dict")=false:=by decide
    have hl1:(s.heap.push (zbe w)).IsList l items:=⟨_,hol',rfl,nl,rfl⟩;unfold Builtin.«set.__init__» noKeywords Builtin.Frozenset.updateFrom;generalize hPI:pyIter=PI
    wp_walk
    subst hPI;refine wpAny_pyIter_list hl1 (wpAny_bind (wpAny_runValue ?_));have hlS:l<s.heap.objs.size:=Heap.lt_size hol;have hz1:(s.heap.push (zbe w)).objs.size=s.heap.objs.size+1:=Heap.size_push ..;have hneI:l≠(s.heap.push (zbe w)).objs.size:=by rw[hz1];exact Nat.ne_of_lt (Nat.lt_succ_of_lt hlS)
    have hSf:s.heap.objs.size∉[(s.heap.push (zbe w)).objs.size,l]:=by
     rw[hz1];intro z;rcases List.mem_cons.mp z with e | e
     ·exact absurd e (Nat.ne_of_lt (Nat.lt_succ_self _))
     ·exact absurd (List.mem_singleton.mp e) (Nat.ne_of_gt hlS)
    refine loop ((Walks.list (by simp[hh]) _ l hneI items).toS) s.heap.objs.size ?U hSf (λi v hv=>hv) (λb hb=>?W) _ (λb o e=>Heap.get?_push_of_some _ (Heap.get?_push_of_some _ e)) ⟨⟨_,Heap.get?_push_size _ rfl,rfl,rfl⟩,hl1.push _⟩ (Heap.get?_push_of_some _ hS) λs' hm hS'=>?_
    case U=>show A.units+1+1<=_;lia
    case W=>
     intro z;rcases List.mem_cons.mp z with q | q
     ·exact Nat.ne_of_lt hb q
     ·have q':=List.mem_singleton.mp q;rw[hz1]at q';exact absurd q' (Nat.ne_of_lt (Nat.lt_succ_of_lt hb))
    obtain⟨h',g',d',tk',os'⟩:=s';have eg:g'=s.gens:=hm.gens;have ed:d'=s.drawn:=hm.drawn;have eo:os'=s.os:=hm.os;subst eg;subst ed;subst eo;refine wpAny_pure (wpAny_pure ⟨rfl,h',tk',rfl,hS',λb o e=>?_⟩);have hb':b<s.heap.objs.size:=Heap.lt_size e;refine hm.heap b o (λz=>?_) (Heap.get?_push_of_some _ (Heap.get?_push_of_some _ e));rcases List.mem_cons.mp z with q | q
    ·exact Nat.ne_of_lt hb' q
    ·have q':=List.mem_singleton.mp q;rw[hz1]at q';exact absurd q' (Nat.ne_of_lt (Nat.lt_succ_of_lt hb'))
   ·cases r₂ with
    | error e=>exact hr₂
    | ok fl₂=>
     cases fl₂ with
     | ret r=>
      obtain⟨rfl,h',tk,rfl,hS',hk'⟩:=hr₂
      repeat (any_goals (first | assumption | wp_step))
      exact h _ _ hS' hk'
     | _=>exact hr₂.elim
  | _=>exact hr.elim
end
end JS
namespace L2
open PySem PySem.Spec PyProof.Rows
inductive D where
 | non | int (i:Int) | str (x:Str) | tup (ds:List D)
noncomputable instance:DecidableEq D:=λ_ _=>Classical.propDecidable _
mutual
noncomputable def Den (H:Hp):D->V->Prop
 | .non,v=>v=.non
 | .int i,v=>v=.int i
 | .str x,v=>v=.str x
 | .tup ds,v=>∃a xs,v=.ref a/\H a=some (.tup xs)/\DenL H ds xs
noncomputable def DenL (H:Hp):List D->List V->Prop
 | [],xs=>xs=[]
 | d::ds,xs=>∃v r,xs=v::r/\Den H d v/\DenL H ds r
end
noncomputable def zoT (H H':Hp):Prop:=∀b xs,H b=some (.tup xs)->H' b=some (.tup xs)
mutual
theorem Den.mono {H H':Hp}(s:zoT H H'):∀(d:D)(v:V),Den H d v->Den H' d v
 | .non,v,h=>by unfold Den at h ⊢;exact h
 | .int i,v,h=>by unfold Den at h ⊢;exact h
 | .str x,v,h=>by unfold Den at h ⊢;exact h
 | .tup ds,v,h=>by
  unfold Den at h ⊢;obtain⟨a,xs,e,h1,h2⟩:=h;exact⟨a,xs,e,s a xs h1,DenL.mono s ds xs h2⟩
theorem DenL.mono {H H':Hp}(s:zoT H H'):∀(ds:List D)(xs:List V),DenL H ds xs->DenL H' ds xs
 | [],xs,h=>by unfold DenL at h ⊢;exact h
 | d::ds,xs,h=>by
  unfold DenL at h ⊢;obtain⟨v,r,e,h1,h2⟩:=h;exact⟨v,r,e,Den.mono s d v h1,DenL.mono s ds r h2⟩
end
mutual
theorem Den.inj {H:Hp}:∀(d e:D)(v:V),Den H d v->Den H e v->d=e
 | .non,e,v,h,g=>by
  unfold Den at h;subst h;cases e<;>unfold Den at g
  ·rfl
  ·cases g
  ·cases g
  ·obtain⟨a,xs,z,_⟩:=g;cases z
 | .int i,e,v,h,g=>by
  unfold Den at h;subst h;cases e<;>unfold Den at g
  ·cases g
  ·injection g with g;rw[g]
  ·cases g
  ·obtain⟨a,xs,z,_⟩:=g;cases z
 | .str x,e,v,h,g=>by
  unfold Den at h;subst h;cases e<;>unfold Den at g
  ·cases g
  ·cases g
  ·injection g with g;rw[g]
  ·obtain⟨a,xs,z,_⟩:=g;cases z
 | .tup ds,e,v,h,g=>by
  unfold Den at h;obtain⟨a,xs,z,h1,h2⟩:=h;subst z;cases e<;>unfold Den at g
  ·cases g
  ·cases g
  ·cases g
  ·obtain⟨b,ys,z,g1,g2⟩:=g;cases z;rw[h1]at g1;cases g1;rw[DenL.inj ds _ xs h2 g2]
theorem DenL.inj {H:Hp}:∀(ds es:List D)(xs:List V),DenL H ds xs->DenL H es xs->ds=es
 | [],es,xs,h,g=>by
  unfold DenL at h;subst h;cases es with
  | nil=>rfl
  | cons e es=>unfold DenL at g;obtain⟨v,r,z,_⟩:=g;cases z
 | d::ds,es,xs,h,g=>by
  unfold DenL at h;obtain⟨v,r,z,h1,h2⟩:=h;subst z;cases es with
  | nil=>unfold DenL at g;cases g
  | cons e es=>
   unfold DenL at g;obtain⟨v',r',z,g1,g2⟩:=g;cases z;rw[Den.inj d e v h1 g1,DenL.inj ds es r h2 g2]
end
mutual
noncomputable def Cmp:D->D->Prop
 | .non,e=>e=.non
 | .int _,e=>∃j,e=.int j
 | .str _,e=>∃y,e=.str y
 | .tup ds,e=>∃es,e=.tup es/\CmpL ds es
noncomputable def CmpL:List D->List D->Prop
 | [],_=>True
 | d::ds,es=>∀e r,es=e::r->Cmp d e/\CmpL ds r
end
mutual
noncomputable def dep:D->Nat
 | .tup ds=>depL ds+1
 | _=>0
noncomputable def depL:List D->Nat
 | []=>0
 | d::ds=>max (dep d) (depL ds)
end
end L2
namespace L2
open PySem PySem.Spec PyProof.Rows
section
variable {X:Cx}
theorem ziv {ss:List Str}:∀ {its:List Value},Vals (ss.map V.str) its->StrsAre its ss:=by
 induction ss with
 | nil=>intro its r;cases r;exact .nil
 | cons x ss ih=>
  intro its r;cases r with
  | cons r1 r2=>
   obtain⟨t,rfl⟩:=(show ∃t,_=Value.str x t from r1);exact .cons x t (ih r2)
noncomputable def rJoin (K:PySem.W.Frag):V->List V->Hp->VK->Prop:=λx vs H Q=>∃(sep:Str)(l:Addr)(ys:List Str),x=.str sep/\vs=[.ref l]/\SqL K H l (ys.map V.str)/\(ys.map (·.length)).sum+ys.length*sep.length<=16777216/\Q (.str (Txt.join sep ys)) H
theorem zno:MtR X "str.join" (rJoin X.K):=by
 intro pins s σ H x vs v us Q I rx rv h;obtain⟨sep,l,ys,rfl,rfl,hl,hz,q⟩:=h;obtain⟨t,rfl⟩:=rx;obtain⟨u,rfl,ru⟩:=rv.one;cases ru;obtain⟨its,r,p,_⟩:=I.list hl;exact join_list p.isList (by simpa using ziv r) hz λt' k=>⟨.str _,H,I.tok k,⟨t',rfl⟩,q⟩
end
noncomputable def zoU (K:PySem.W.Frag):List V->Hp->VK->Prop:=λxs H Q=>∃p ys,xs=[.ref p]/\((SqL K H p ys/\∀l,H l=none->Q (.ref l) (upd H l (.tup ys)))\/(SqT K H p ys/\Q (.ref p) H))
noncomputable def znp (K:PySem.W.Frag):List V->Hp->VK->Prop:=λxs H Q=>∃p ys,xs=[.ref p]/\(SqL K H p ys\/SqT K H p ys)/\∀l,H l=none->Q (.ref l) (upd H l (.lst ys))
end L2
namespace PL
open PySem PySem.Spec L2
open PyProof.Rows hiding St
inductive PV where
 | non | bl (b:Bool) | int (i:Int) | str (x:Str) | ty (n:String)
 | tup (ds:List PV) | lst (ds:List PV) | dK (ks:List Key) (ds:List PV) | dT (ks:List (List Key)) (ds:List PV)
noncomputable instance:DecidableEq PV:=λ_ _=>Classical.propDecidable _
noncomputable abbrev FZ:=Addr->Prop
noncomputable def KX (K:PySem.W.Frag)(a:Addr)(xs:List V):Prop:=∃(its:Array Value)(n:Nat),K.lookup a=some { cls:=.type "list",data:=.seq its n }/\its.size<=sizeLine/\Vals xs its.toList
theorem KX.sq {K:PySem.W.Frag}{H:Hp}{a:Addr}{xs:List V}(h:KX K a xs):SqL K H a xs:=by obtain⟨its,n,h1,h2,h3⟩:=h;exact .inr ⟨_,its,n,h1,rfl,rfl,rfl,h2,h3⟩
mutual
noncomputable def Den (K:PySem.W.Frag)(Fz:FZ)(H:Hp):PV->V->Prop
 | .non,v=>v=.non
 | .bl b,v=>v=.bl b
 | .int i,v=>v=.int i
 | .str x,v=>v=.str x
 | .ty n,v=>v=.ty n
 | .tup ds,v=>∃a xs,v=.ref a/\H a=some (.tup xs)/\DenL K Fz H ds xs
 | .lst ds,v=>∃a xs,v=.ref a/\((Fz a/\Rd H a (.lst xs))\/KX K a xs)/\DenL K Fz H ds xs
 | .dK ks ds,v=>∃a xs,v=.ref a/\Fz a/\Rd H a (.dK (ks.zip xs))/\ks.length=xs.length/\DenL K Fz H ds xs
 | .dT ks ds,v=>∃a xs,v=.ref a/\Fz a/\Rd H a (.dT (ks.zip xs))/\ks.length=xs.length/\DenL K Fz H ds xs
noncomputable def DenL (K:PySem.W.Frag)(Fz:FZ)(H:Hp):List PV->List V->Prop
 | [],xs=>xs=[]
 | d::ds,xs=>∃v r,xs=v::r/\Den K Fz H d v/\DenL K Fz H ds r
end
noncomputable def Root (K:PySem.W.Frag)(Fz:FZ)(H:Hp):PV->V->Prop
 | .lst ds,v=>∃a xs,v=.ref a/\(Rd H a (.lst xs)\/KX K a xs)/\DenL K Fz H ds xs
 | .dK ks ds,v=>∃a xs,v=.ref a/\Rd H a (.dK (ks.zip xs))/\ks.length=xs.length/\DenL K Fz H ds xs
 | .dT ks ds,v=>∃a xs,v=.ref a/\Rd H a (.dT (ks.zip xs))/\ks.length=xs.length/\DenL K Fz H ds xs
 | d,v=>Den K Fz H d v
noncomputable def Own (K:PySem.W.Frag)(Fz:FZ)(H:Hp):PV->Addr->Prop
 | .lst ds,a=>∃xs,H a=some (.lst xs)/\DenL K Fz H ds xs
 | .dK ks ds,a=>∃xs,H a=some (.dK (ks.zip xs))/\ks.length=xs.length/\DenL K Fz H ds xs
 | .dT ks ds,a=>∃xs,H a=some (.dT (ks.zip xs))/\ks.length=xs.length/\DenL K Fz H ds xs
 | _,_=>False
noncomputable def Imm:HO->Prop
 | .tup _=>True
 | .frz _ _=>True
 | _=>False
noncomputable def Pl:HO->Prop
 | .lst _=>True
 | .tup _=>True
 | .dK _=>True
 | .dT _=>True
 | _=>False
structure Keep (Fz:FZ)(H H':Hp):Prop where
 rd':∀b u,Pl u->Fz b->Rd H b u->Rd H' b u
 tup:∀b xs,H b=some (.tup xs)->H' b=some (.tup xs)
noncomputable def zju (Fz:FZ)(H H':Hp):Prop:=∀b o,H b=some o->(Fz b\/Imm o)->H' b=some o
theorem Keep.mk' {Fz:FZ}{H H':Hp}(h:zju Fz H H'):Keep Fz H H':=
 ⟨λb u _ f r=>by
  rcases r with r | ⟨o,r⟩
  ·exact .inl (h b _ r (.inl f))
  ·exact .inr ⟨o,h b _ r (.inl f)⟩,λb xs r=>h b _ r (.inr trivial)⟩
theorem Keep.of {Fz:FZ}{H H':Hp}(h:Same H H'):Keep Fz H H':=.mk' λb o e _=>h b o e
theorem Keep.rd {Fz:FZ}{H H':Hp}(k:Keep Fz H H'){a:Addr}{u:HO}(pl:Pl u)(hf:Fz a)(h:Rd H a u):Rd H' a u:=k.rd' a u pl hf h
theorem Keep.sqT {K:PySem.W.Frag}{Fz:FZ}{H H':Hp}(k:Keep Fz H H'){a:Addr}{xs:List V}(h:H a=some (.tup xs)):SqT K H' a xs:=SqT.of (k.tup a xs h)
section
variable {K:PySem.W.Frag}{Fz Fz':FZ}{H H':Hp}
mutual
theorem Den.mono (k:Keep Fz H H')(s:∀b,Fz b->Fz' b):∀(d:PV)(v:V),Den K Fz H d v->Den K Fz' H' d v
 | .non,v,h=>by simpa only[Den]using h
 | .bl b,v,h=>by simpa only[Den]using h
 | .int i,v,h=>by simpa only[Den]using h
 | .str x,v,h=>by simpa only[Den]using h
 | .ty n,v,h=>by simpa only[Den]using h
 | .tup ds,v,h=>by
  simp only[Den]at h ⊢;obtain⟨a,xs,e,h1,h2⟩:=h;exact⟨a,xs,e,k.tup a xs h1,DenL.mono k s ds xs h2⟩
 | .lst ds,v,h=>by
  simp only[Den]at h ⊢;obtain⟨a,xs,e,h1,h2⟩:=h;refine⟨a,xs,e,?_,DenL.mono k s ds xs h2⟩;rcases h1 with ⟨f,h1⟩ | h1
  ·exact .inl ⟨s a f,k.rd trivial f h1⟩
  ·exact .inr h1
 | .dK ks ds,v,h=>by
  simp only[Den]at h ⊢;obtain⟨a,xs,e,f,h1,h2,h3⟩:=h;exact⟨a,xs,e,s a f,k.rd trivial f h1,h2,DenL.mono k s ds xs h3⟩
 | .dT ks ds,v,h=>by
  simp only[Den]at h ⊢;obtain⟨a,xs,e,f,h1,h2,h3⟩:=h;exact⟨a,xs,e,s a f,k.rd trivial f h1,h2,DenL.mono k s ds xs h3⟩
theorem DenL.mono (k:Keep Fz H H')(s:∀b,Fz b->Fz' b):∀(ds:List PV)(xs:List V),DenL K Fz H ds xs->DenL K Fz' H' ds xs
 | [],xs,h=>by simpa only[DenL]using h
 | d::ds,xs,h=>by
  simp only[DenL]at h ⊢;obtain⟨v,r,e,h1,h2⟩:=h;exact⟨v,r,e,Den.mono k s d v h1,DenL.mono k s ds r h2⟩
end
theorem Den.root {d:PV}{v:V}(h:Den K Fz H d v):Root K Fz H d v:=by
 cases d with
 | lst ds=>
  simp only[Den]at h;obtain⟨a,xs,e,h1,h2⟩:=h;refine⟨a,xs,e,?_,h2⟩;rcases h1 with ⟨f,h1⟩ | h1
  ·exact .inl h1
  ·exact .inr h1
 | dK ks ds=>
  simp only[Den]at h;obtain⟨a,xs,e,_,h1,h2⟩:=h;exact⟨a,xs,e,h1,h2⟩
 | dT ks ds=>
  simp only[Den]at h;obtain⟨a,xs,e,_,h1,h2⟩:=h;exact⟨a,xs,e,h1,h2⟩
 | non=>exact h
 | bl b=>exact h
 | int i=>exact h
 | str x=>exact h
 | ty n=>exact h
 | tup ds=>exact h
theorem Own.root {d:PV}{a:Addr}(h:Own K Fz H d a):Root K Fz H d (.ref a):=by
 cases d with
 | lst ds=>obtain⟨xs,h1,h2⟩:=h;exact⟨a,xs,rfl,.inl (.inl h1),h2⟩
 | dK ks ds=>obtain⟨xs,h1,h2⟩:=h;exact⟨a,xs,rfl,.inl h1,h2⟩
 | dT ks ds=>obtain⟨xs,h1,h2⟩:=h;exact⟨a,xs,rfl,.inl h1,h2⟩
 | non=>exact h.elim
 | bl b=>exact h.elim
 | int i=>exact h.elim
 | str x=>exact h.elim
 | ty n=>exact h.elim
 | tup ds=>exact h.elim
theorem Own.den {d:PV}{a:Addr}(h:Own K Fz H d a)(f:Fz a):Den K Fz H d (.ref a):=by
 cases d with
 | lst ds=>obtain⟨xs,h1,h2⟩:=h;simp only[Den];exact⟨a,xs,rfl,.inl ⟨f,.inl h1⟩,h2⟩
 | dK ks ds=>obtain⟨xs,h1,h2⟩:=h;simp only[Den];exact⟨a,xs,rfl,f,.inl h1,h2⟩
 | dT ks ds=>obtain⟨xs,h1,h2⟩:=h;simp only[Den];exact⟨a,xs,rfl,f,.inl h1,h2⟩
 | non=>exact h.elim
 | bl b=>exact h.elim
 | int i=>exact h.elim
 | str x=>exact h.elim
 | ty n=>exact h.elim
 | tup ds=>exact h.elim
theorem Own.at {d:PV}{a:Addr}(h:Own K Fz H d a):∃o,H a=some o/\¬ Imm o:=by
 cases d with
 | lst ds=>obtain⟨xs,h1,h2⟩:=h;exact⟨_,h1,λz=>z⟩
 | dK ks ds=>obtain⟨xs,h1,h2⟩:=h;exact⟨_,h1,λz=>z⟩
 | dT ks ds=>obtain⟨xs,h1,h2⟩:=h;exact⟨_,h1,λz=>z⟩
 | non=>exact h.elim
 | bl b=>exact h.elim
 | int i=>exact h.elim
 | str x=>exact h.elim
 | ty n=>exact h.elim
 | tup ds=>exact h.elim
theorem Own.mono {d:PV}{a:Addr}(k:Keep Fz H H')(s:∀b,Fz b->Fz' b)(ha:∀o,H a=some o->H' a=some o)(h:Own K Fz H d a):Own K Fz' H' d a:=by
 cases d with
 | lst ds=>obtain⟨xs,h1,h2⟩:=h;exact⟨xs,ha _ h1,DenL.mono k s _ _ h2⟩
 | dK ks ds=>obtain⟨xs,h1,h2,h3⟩:=h;exact⟨xs,ha _ h1,h2,DenL.mono k s _ _ h3⟩
 | dT ks ds=>obtain⟨xs,h1,h2,h3⟩:=h;exact⟨xs,ha _ h1,h2,DenL.mono k s _ _ h3⟩
 | non=>exact h.elim
 | bl b=>exact h.elim
 | int i=>exact h.elim
 | str x=>exact h.elim
 | ty n=>exact h.elim
 | tup ds=>exact h.elim
theorem Root.mono {d:PV}{v:V}(k:Same H H')(s:∀b,Fz b->Fz' b)(h:Root K Fz H d v):Root K Fz' H' d v:=by
 have rd:∀ {a u},Rd H a u->Rd H' a u:=λ{a u} q=>by
  rcases q with q | ⟨o,q⟩
  ·exact .inl (k _ _ q)
  ·exact .inr ⟨o,k _ _ q⟩
 cases d with
 | lst ds=>obtain⟨a,xs,e,h1,h2⟩:=h;exact⟨a,xs,e,h1.imp rd id,DenL.mono (.of k) s _ _ h2⟩
 | dK ks ds=>obtain⟨a,xs,e,h1,h2,h3⟩:=h;exact⟨a,xs,e,rd h1,h2,DenL.mono (.of k) s _ _ h3⟩
 | dT ks ds=>obtain⟨a,xs,e,h1,h2,h3⟩:=h;exact⟨a,xs,e,rd h1,h2,DenL.mono (.of k) s _ _ h3⟩
 | non=>exact Den.mono (.of k) s _ _ h
 | bl b=>exact Den.mono (.of k) s _ _ h
 | int i=>exact Den.mono (.of k) s _ _ h
 | str x=>exact Den.mono (.of k) s _ _ h
 | ty n=>exact Den.mono (.of k) s _ _ h
 | tup ds=>exact Den.mono (.of k) s _ _ h
theorem DenL.length:∀(ds:List PV)(xs:List V),DenL K Fz H ds xs->ds.length=xs.length
 | [],xs,h=>by simp only[DenL]at h;subst h;rfl
 | d::ds,xs,h=>by
  simp only[DenL]at h;obtain⟨v,r,z,_,h2⟩:=h;subst z;rw[List.length_cons,List.length_cons,DenL.length ds r h2]
theorem DenL.get:∀ {ds:List PV}{xs:List V}{i:Nat}{d:PV},DenL K Fz H ds xs->ds[i]? = some d->∃v,xs[i]? = some v/\Den K Fz H d v
 | [],xs,i,d,h,e=>by simp at e
 | d0::ds,xs,i,d,h,e=>by
  simp only[DenL]at h;obtain⟨v0,r,z,h1,h2⟩:=h;subst z;cases i with
  | zero=>simp at e;subst e;exact⟨v0,rfl,h1⟩
  | succ i=>
   obtain⟨v,q,h⟩:=DenL.get h2 (i:=i) (d:=d) (by simpa using e);exact⟨v,by simpa using q,h⟩
theorem DenL.nil:DenL K Fz H [] []:=by simp only[DenL]
theorem DenL.cons {d:PV}{v:V}{ds:List PV}{xs:List V}(h1:Den K Fz H d v)(h2:DenL K Fz H ds xs):DenL K Fz H (d::ds) (v::xs):=by
 simp only[DenL];exact⟨v,xs,rfl,h1,h2⟩
theorem DenL.append:∀ {ds es:List PV}{xs ys:List V},DenL K Fz H ds xs->DenL K Fz H es ys->DenL K Fz H (ds++es) (xs++ys)
 | [],es,xs,ys,h,g=>by simp only[DenL]at h;subst h;exact g
 | d::ds,es,xs,ys,h,g=>by
  simp only[DenL]at h;obtain⟨v,r,z,h1,h2⟩:=h;subst z;exact DenL.cons h1 (DenL.append h2 g)
theorem DenL.snoc {ds:List PV}{xs:List V}{d:PV}{v:V}(h:DenL K Fz H ds xs)(g:Den K Fz H d v):DenL K Fz H (ds++[d]) (xs++[v]):=h.append (DenL.cons g DenL.nil)
theorem DenL.split:∀ {ds es:List PV}{xs:List V},DenL K Fz H (ds++es) xs->∃ys zs,xs=ys++zs/\DenL K Fz H ds ys/\DenL K Fz H es zs
 | [],es,xs,h=>⟨[],xs,rfl,DenL.nil,h⟩
 | d::ds,es,xs,h=>by
  rw[List.cons_append]at h;simp only[DenL]at h;obtain⟨v,r,z,h1,h2⟩:=h;subst z;obtain⟨ys,zs,e,g1,g2⟩:=DenL.split h2;exact⟨v::ys,zs,by rw[e];rfl,DenL.cons h1 g1,g2⟩
theorem DenL.take {ds:List PV}{xs:List V}(n:Nat)(h:DenL K Fz H ds xs):DenL K Fz H (ds.take n) (xs.take n):=by
 have hl:=h.length;obtain⟨ys,zs,e,g1,g2⟩:=DenL.split (ds:=ds.take n) (es:=ds.drop n) (by rw[List.take_append_drop];exact h);have h1:=g1.length;subst e;by_cases hn:n<=ds.length
 ·rw[List.length_take,Nat.min_eq_left hn]at h1;rw[List.take_append_of_le_length (by lia),List.take_of_length_le (i:=n) (l:=ys) (by lia)];exact g1
 ·rw[List.take_of_length_le (i:=n) (l:=ds) (by lia),List.take_of_length_le (i:=n) (l:=ys++zs) (by lia)];exact h
theorem DenL.drop {ds:List PV}{xs:List V}(n:Nat)(h:DenL K Fz H ds xs):DenL K Fz H (ds.drop n) (xs.drop n):=by
 have hl:=h.length;obtain⟨ys,zs,e,g1,g2⟩:=DenL.split (ds:=ds.take n) (es:=ds.drop n) (by rw[List.take_append_drop];exact h);have h1:=g1.length;subst e;by_cases hn:n<=ds.length
 ·rw[List.length_take,Nat.min_eq_left hn]at h1;rw[List.drop_append,List.drop_of_length_le (i:=n) (l:=ys) (by lia),show n-ys.length=0 by lia];exact g2
 ·rw[List.drop_of_length_le (i:=n) (l:=ds) (by lia),List.drop_of_length_le (i:=n) (l:=ys++zs) (by lia)];exact DenL.nil
end
noncomputable abbrev PEnv:=List (Option (PV×Bool))
structure Rel (K:PySem.W.Frag)(Fz:FZ)(ρ:PEnv)(σ:St)(H:Hp):Prop where
 al:∀b,Fz b->H b≠none
 len:ρ.length=σ.length
 frz:∀(i:Nat) (d:PV),ρ[i]? = some (some (d,false))->∃v,σ[i]? = some (some v)/\Den K Fz H d v
 own:∀(i:Nat) (d:PV),ρ[i]? = some (some (d,true))->∃a,σ[i]? = some (some (.ref a))/\¬ Fz a/\Own K Fz H d a
 inj:∀(i j:Nat) (d e:PV) (a:Addr),ρ[i]? = some (some (d,true))->ρ[j]? = some (some (e,true))->σ[i]? = some (some (.ref a))->σ[j]? = some (some (.ref a))->i=j
noncomputable def zaG (ρ:PEnv)(σ:St)(a:Addr):Prop:=∃(i:Nat)(d:PV),ρ[i]? = some (some (d,true))/\σ[i]? = some (some (.ref a))
structure Ext (Fz:FZ)(H:Hp)(Fz':FZ)(H':Hp):Prop where
 same:Same H H'
 sub:∀b,Fz b->Fz' b
 new:∀b,Fz' b->Fz b\/H b=none
 al:∀b,Fz' b->H' b≠none
theorem Ext.trans {F1 F2 F3:FZ}{H1 H2 H3:Hp}(a:Ext F1 H1 F2 H2)(b:Ext F2 H2 F3 H3):Ext F1 H1 F3 H3:=
 ⟨a.same.trans b.same,λc h=>b.sub c (a.sub c h),λc h=>by
  rcases b.new c h with h | h
  ·exact a.new c h
  ·exact .inr (a.same.free h),b.al⟩
theorem Ext.add {Fz Fz':FZ}{H H':Hp}{a:Addr}(x:Ext Fz H Fz' H')(h:H a=none)(h':H' a≠none):Ext Fz H (λb=>Fz' b\/b=a) H':=
 ⟨x.same,λb h=>.inl (x.sub b h),λb hb=>by
  rcases hb with hb | rfl
  ·exact x.new b hb
  ·exact .inr h,λb hb=>by
  rcases hb with hb | rfl
  ·exact x.al b hb
  ·exact h'⟩
theorem Ext.laid {Fz Fz':FZ}{H H':Hp}{p:Addr}{o:HO}(x:Ext Fz H Fz' H')(h:H' p=none):Ext Fz H Fz' (upd H' p o):=
 ⟨x.same.trans (λb u e=>by rw[zao (zav e h)];exact e),x.sub,x.new,λb hb=>by
  by_cases e:b=p
  ·subst e;rw[zat];exact λz=>nomatch z
  ·rw[zao e];exact x.al b hb⟩
theorem Rel.ext {K:PySem.W.Frag}{Fz Fz':FZ}{ρ:PEnv}{σ:St}{H H':Hp}(R:Rel K Fz ρ σ H)(x:Ext Fz H Fz' H'):Rel K Fz' ρ σ H' where
 al:=x.al
 len:=R.len
 frz i d h:=by
  obtain⟨v,e,q⟩:=R.frz i d h;exact⟨v,e,Den.mono (.of x.same) x.sub d v q⟩
 own i d h:=by
  obtain⟨a,e,n,q⟩:=R.own i d h;refine⟨a,e,λz=>?_,q.mono (.of x.same) x.sub (λo h=>x.same _ _ h)⟩;rcases x.new a z with z | z
  ·exact n z
  ·obtain⟨o,h,_⟩:=q.at;rw[h]at z;cases z
 inj:=R.inj
inductive Kd where
 | frz | new | own (i:Nat)
noncomputable def Opd (K:PySem.W.Frag)(Fz':FZ)(H':Hp)(ρ:PEnv)(σ:St)(H:Hp)(d:PV):Kd->V->Prop
 | .frz,v=>Den K Fz' H' d v
 | .new,v=>∃a,v=.ref a/\H a=none/\¬ Fz' a/\Own K Fz' H' d a
 | .own i,v=>ρ[i]? = some (some (d,true))/\σ[i]? = some (some v)
structure Post (K:PySem.W.Frag)(ρ:PEnv)(σ:St)(Fz:FZ)(H:Hp)(Fz':FZ)(H':Hp)(d:PV)(k:Kd)(v:V):Prop where
 ext:Ext Fz H Fz' H'
 opd:Opd K Fz' H' ρ σ H d k v
theorem Post.root {K:PySem.W.Frag}{ρ:PEnv}{σ:St}{Fz Fz':FZ}{H H':Hp}{d:PV}{k:Kd}{v:V}(R:Rel K Fz ρ σ H)(p:Post K ρ σ Fz H Fz' H' d k v):Root K Fz' H' d v:=by
 cases k with
 | frz=>exact Den.root p.opd
 | new=>obtain⟨a,e,_,_,h⟩:=p.opd;subst e;exact h.root
 | own i=>
  obtain⟨h1,h2⟩:=p.opd;obtain⟨a,e,_,q⟩:=(R.ext p.ext).own i d h1;rw[h2]at e;cases e;exact q.root
theorem Post.frozen {K:PySem.W.Frag}{ρ:PEnv}{σ:St}{Fz Fz':FZ}{H H':Hp}{d:PV}{k:Kd}{v:V}(hk:k=.frz\/k=.new)(p:Post K ρ σ Fz H Fz' H' d k v) :
  ∃Fz2,Ext Fz H Fz2 H'/\(∀b,Fz' b->Fz2 b)/\Den K Fz2 H' d v:=by
 rcases hk with rfl | rfl
 ·exact⟨Fz',p.ext,λ_ h=>h,p.opd⟩
 ·obtain⟨a,e,hn,_,h⟩:=p.opd;subst e;exact⟨λb=>Fz' b\/b=a,p.ext.add hn (by obtain⟨o,e,_⟩:=h.at;rw[e];exact λz=>nomatch z),λ_ h=>.inl h,(h.mono (Fz':=λb=>Fz' b\/b=a) (Keep.of (Same.refl _)) (λ_ h=>.inl h) (λ_ h=>h)).den (.inr rfl)⟩
noncomputable abbrev TPE:=PEnv->(PV->Kd->Prop)->Prop
noncomputable abbrev TPT:=PEnv->(Bool->Prop)->Prop
noncomputable abbrev TPA:=PEnv->(List (PV×Kd)->Prop)->Prop
noncomputable def lift (K:PySem.W.Frag)(t:TPE):TE:=λσ H Q=>∃ρ Fz,Rel K Fz ρ σ H/\t ρ λd k=>∀v Fz' H',Post K ρ σ Fz H Fz' H' d k v->Q v H'
noncomputable def liftT (K:PySem.W.Frag)(t:TPT):TT:=λσ H Q=>∃ρ Fz,Rel K Fz ρ σ H/\t ρ λb=>∀Fz' H',Ext Fz H Fz' H'->Q b H'
structure PuE (X:Cx)(e:Expr)(t:TPE):Prop where
 mono:∀ρ Q Q',(∀d k,Q d k->Q' d k)->t ρ Q->t ρ Q'
 run:PE X e (lift X.K t)
structure PuT (X:Cx)(e:Expr)(t:TPT):Prop where
 mono:∀ρ Q Q',(∀b,Q b->Q' b)->t ρ Q->t ρ Q'
 run:PT X e (liftT X.K t)
theorem PE.weak {X:Cx}{e:Expr}{t t':TE}(h:PE X e t)(w:∀σ H Q,t' σ H Q->t σ H Q):PE X e t':=λpins s σ H Q I q=>h pins s σ H Q I (w σ H Q q)
theorem PT.weak {X:Cx}{e:Expr}{t t':TT}(h:PT X e t)(w:∀σ H Q,t' σ H Q->t σ H Q):PT X e t':=λpins s σ H Q I q=>h pins s σ H Q I (w σ H Q q)
theorem zoV {X:Cx}{a b:Expr}{ta tb:TPE}(ha:PuE X a ta)(hb:PuE X b tb){σ:St}{H:Hp}{R:V->V->Hp->Prop}
  (ρ:PEnv) (Fz:FZ) (Re:Rel X.K Fz ρ σ H)
  (h:ta ρ λd kd=>tb ρ λe ke=>∀x y Fz1 H1 Fz2 H2,Post X.K ρ σ Fz H Fz1 H1 d kd x->Post X.K ρ σ Fz1 H1 Fz2 H2 e ke y->R x y H2) :
  lift X.K ta σ H λx H1=>lift X.K tb σ H1 λy H2=>R x y H2:=
 ⟨ρ,Fz,Re,ha.mono ρ _ _ (λd kd q v Fz1 H1 p1=>⟨ρ,Fz1,Re.ext p1.ext,hb.mono ρ _ _ (λe ke q w Fz2 H2 p2=>q v w Fz1 H1 Fz2 H2 p1 p2) q⟩) h⟩
end PL
namespace PL
open PySem PySem.Spec L2
open PyProof.Rows hiding St
section
variable {K:PySem.W.Frag}{ρ:PEnv}{σ:St}{Fz Fz1 Fz2:FZ}{H H1 H2:Hp}{d:PV}{k:Kd}{v:V}
theorem Opd.ext (x:Ext Fz1 H1 Fz2 H2)(h:Opd K Fz1 H1 ρ σ H d k v):Opd K Fz2 H2 ρ σ H d k v:=by
 cases k with
 | frz=>exact Den.mono (.of x.same) x.sub _ _ h
 | new=>
  obtain⟨a,e,hn,nf,o⟩:=h;refine⟨a,e,hn,λz=>?_,o.mono (.of x.same) x.sub (λo h=>x.same _ _ h)⟩;rcases x.new a z with z | z
  ·exact nf z
  ·obtain⟨o',h,_⟩:=o.at;rw[h]at z;cases z
 | own i=>exact h
theorem Opd.back (s:Same H H1)(h:Opd K Fz2 H2 ρ σ H1 d k v):Opd K Fz2 H2 ρ σ H d k v:=by
 cases k with
 | frz=>exact h
 | new=>obtain⟨a,e,hn,r⟩:=h;exact⟨a,e,s.free hn,r⟩
 | own i=>exact h
theorem Opd.up (h:Opd K Fz2 H2 [] [] H d k v):Opd K Fz2 H2 ρ σ H d k v:=by
 cases k with
 | frz=>exact h
 | new=>exact h
 | own i=>obtain⟨z,_⟩:=h;simp at z
theorem Post.behind (x:Ext Fz H Fz1 H1)(p:Post K [] [] Fz1 H1 Fz2 H2 d k v):Post K ρ σ Fz H Fz2 H2 d k v:=
 ⟨x.trans p.ext,(p.opd.up (ρ:=ρ) (σ:=σ)).back x.same⟩
theorem Post.then(x:Ext Fz H Fz1 H1)(p:Post K ρ σ Fz1 H1 Fz2 H2 d k v):Post K ρ σ Fz H Fz2 H2 d k v:=
 ⟨x.trans p.ext,p.opd.back x.same⟩
theorem Post.val (al:∀b,Fz b->H b≠none)(h:Den K Fz H d v):Post K ρ σ Fz H Fz H d .frz v:=⟨⟨Same.refl H,λ_ h=>h,λ_ h=>.inl h,al⟩,h⟩
end
noncomputable def pVar (i:Nat):TPE:=λρ Q=>match ρ[i]? with
 | some (some (d,b))=>Q d (if b then .own i else .frz)
 | _=>False
theorem zeQ {i:Nat}{ρ:PEnv}{Q:PV->Kd->Prop}:pVar i ρ Q↔∃d b,ρ[i]? = some (some (d,b))/\Q d (if b then .own i else .frz):=by
 unfold pVar;cases h:ρ[i]? with
 | none=>simp
 | some x=>
  cases x with
  | none=>simp
  | some p=>
   obtain⟨d,b⟩:=p;constructor
   ·exact λq=>⟨d,b,rfl,q⟩
   ·rintro⟨d',b',e,q⟩;cases e;exact q
noncomputable def pC (d:PV):TPE:=λ_ Q=>Q d .frz
section
variable {X:Cx}
theorem zab (i:Nat){x:Str}{pos:Pos}(hN:autoParam (X.N[i]? = some x) aU0)(hv:autoParam (Vis X.env.scope x) aU6)(hd:autoParam ((x == ("__debug__" : Str))=false) aU1)
  (hcd:autoParam ((x == ("__classdict__" : Str))=false) aU1):PuE X (.Name x pos) (pVar i) where
 mono ρ Q Q' m h:=by obtain⟨d,b,e,q⟩:=zeQ.mp h;exact zeQ.mpr ⟨d,b,e,m _ _ q⟩
 run:=PE.weak (zcZ hN hv hd hcd) λσ H Q h=>by
  obtain⟨ρ,Fz,R,h⟩:=h;obtain⟨d,b,e,q⟩:=zeQ.mp h;cases b with
  | false=>
   obtain⟨v,e1,h1⟩:=R.frz i d e;exact⟨v,e1,q v Fz H (.val R.al h1)⟩
  | true=>
   obtain⟨a,e1,_,_⟩:=R.own i d e;exact⟨_,e1,q _ Fz H ⟨⟨Same.refl H,λ_ h=>h,λ_ h=>.inl h,R.al⟩,e,e1⟩⟩
theorem zcf {e:Expr}{d:PV}{v:V}(h:PE X e (tC v))(hd:∀Fz H,Den X.K Fz H d v):PuE X e (pC d) where
 mono ρ Q Q' m h:=m _ _ h
 run:=PE.weak h λσ H Q h=>by
  obtain⟨ρ,Fz,R,q⟩:=h;exact q v Fz H (.val R.al (hd Fz H))
theorem zaf {i j pos}:PuE X (.Constant (.int i) j pos) (pC (.int i)):=zcf zop λ_ _=>by simp only[Den]
theorem ziw {b j pos}:PuE X (.Constant (.bool b) j pos) (pC (.bl b)):=zcf zqg λ_ _=>by simp only[Den]
theorem zbO {j pos}:PuE X (.Constant .none j pos) (pC .non):=zcf zhn λ_ _=>by simp only[Den]
theorem zaj {x j pos}:PuE X (.Constant (.str x) j pos) (pC (.str x)):=zcf zml λ_ _=>by simp only[Den]
theorem zgH {x:Str}{T:String}{pos:Pos}(hg:Gl X x)(hm:X.mg x=none)(hv:bootBuiltins x=some (.type T))(hn:autoParam (x≠"__name__") aU1) (hd:autoParam ((x == ("__debug__" : Str))=false) aU1):PuE X (.Name x pos) (pC (.ty T)):=
 zcf (ziY (v:=.ty T) hg hm hv rfl hn hd) λ_ _=>by simp only[Den]
end
noncomputable abbrev P2:=PV->PV->(PV->Kd->Prop)->Prop
structure POp (K:PySem.W.Frag)(r:R2)(p:P2):Prop where
 mono:∀d e Q Q',(∀z k,Q z k->Q' z k)->p d e Q->p d e Q'
 run:∀Fz H x y d e Q,(∀b,Fz b->H b≠none)->Root K Fz H d x->Root K Fz H e y->p d e (λz k=>∀v Fz' H',Post K [] [] Fz H Fz' H' z k v->Q v H')->r x y H Q
noncomputable def t2 (p:P2)(ta tb:TPE):TPE:=λρ Q=>ta ρ λd _=>tb ρ λe _=>p d e Q
section
variable {X:Cx}{a b:Expr}{ta tb:TPE}{pos:Pos}{r:R2}{p:P2}
theorem zdG (hp:POp X.K r p)(ha:PuE X a ta)(hb:PuE X b tb):∀ρ Q Q',(∀d k,Q d k->Q' d k)->t2 p ta tb ρ Q->t2 p ta tb ρ Q':=
 λρ Q Q' m h=>ha.mono ρ _ _ (λd _ h=>hb.mono ρ _ _ (λe _ h=>hp.mono d e _ _ m h) h) h
theorem zhw (hp:POp X.K r p)(ha:PuE X a ta)(hb:PuE X b tb){σ:St}{H:Hp}{Q:VK}(h:lift X.K (t2 p ta tb) σ H Q):tOp r (lift X.K ta) (lift X.K tb) σ H Q:=by
 obtain⟨ρ,Fz,R,h⟩:=h;refine zoV ha hb ρ Fz R (ha.mono ρ _ _ (λd kd h=>hb.mono ρ _ _ (λe ke h=>?_) h) h);intro x y Fz1 H1 Fz2 H2 p1 p2;have R1:=R.ext p1.ext;refine hp.run Fz2 H2 x y d e Q p2.ext.al ((p1.root R).mono p2.ext.same p2.ext.sub) (p2.root R1) (hp.mono d e _ _ (λz k q v Fz' H' p3=>?_) h);exact q v Fz' H' (p3.behind (p1.ext.trans p2.ext))
theorem zeh {op:Operator}(ho:OpR X (binaryOp op) r)(hp:POp X.K r p)(ha:PuE X a ta)(hb:PuE X b tb):PuE X (.BinOp a op b pos) (t2 p ta tb):=
 ⟨zdG hp ha hb,PE.weak (zqo ho ha.run hb.run) λ_ _ _ h=>zhw hp ha hb h⟩
theorem zjv {op:CmpOp}(ho:OpR X (compareOp op) r)(hp:POp X.K r p)(ha:PuE X a ta)(hb:PuE X b tb)(hm:autoParam (behindInMarks op b=false) aU2):PuE X (.Compare a [op] [b] pos) (t2 p ta tb):=
 ⟨zdG hp ha hb,PE.weak (znb ho ha.run hb.run hm) λ_ _ _ h=>zhw hp ha hb h⟩
noncomputable def blP (d:PV)(Q:Bool->Prop):Prop:=match d with
 | .bl b=>Q b
 | _=>False
theorem zeR {d:PV}{Q:Bool->Prop}:blP d Q↔∃b,d=.bl b/\Q b:=by
 unfold blP;constructor
 ·intro h;cases d<;>first | exact⟨_,rfl,h⟩ | exact h.elim
 ·rintro⟨b,rfl,q⟩;exact q
theorem zhx {d:PV}{Q Q':Bool->Prop}(m:∀b,Q b->Q' b)(h:blP d Q):blP d Q':=by
 obtain⟨b,e,q⟩:=zeR.mp h;exact zeR.mpr ⟨b,e,m b q⟩
noncomputable def tBl (te:TPE):TPT:=λρ Q=>te ρ λd _=>blP d Q
theorem zbI {op:CmpOp}(ho:OpR X (compareOp op) r)(hp:POp X.K r p)(ha:PuE X a ta)(hb:PuE X b tb)(hm:autoParam (behindInMarks op b=false) aU2):PuT X (.Compare a [op] [b] pos) (tBl (t2 p ta tb)) where
 mono ρ Q Q' m h:=zdG hp ha hb ρ _ _ (λd _ q=>zhx m q) h
 run:=PT.weak (zje ho ha.run hb.run hm) λσ H Q h=>by
  obtain⟨ρ,Fz,R,h⟩:=h;refine zhw hp ha hb ⟨ρ,Fz,R,zdG hp ha hb ρ _ _ (λd k q v Fz' H' p=>?_) h⟩;obtain⟨b,e,q⟩:=zeR.mp q;refine⟨b,?_,q Fz' H' p.ext⟩;subst e;have w:=p.root R;simpa only[Root,Den]using w
theorem zqy (ho:IxR X r)(hp:POp X.K r p)(ha:PuE X a ta)(hb:PuE X b tb)(hs:autoParam (zgE b) aU7):PuE X (.Subscript a b pos) (t2 p ta tb):=
 ⟨zdG hp ha hb,PE.weak (zqt ho ha.run hb.run hs) λ_ _ _ h=>zhw hp ha hb h⟩
end
noncomputable def i2 (C:Int->Int->Prop)(g:Int->Int->PV):P2:=λd e Q=>∃i j,d=.int i/\e=.int j/\C i j/\Q (g i j) .frz
noncomputable def i0 (g:Int->Int->PV):P2:=λd e Q=>∃i j,d=.int i/\e=.int j/\Q (g i j) .frz
section
variable {K:PySem.W.Frag}
theorem zfN {C:Int->Int->Prop}{g:Int->Int->Int}:POp K (rI C λi j=>.int (g i j)) (i2 C λi j=>.int (g i j)) where
 mono d e Q Q' m h:=by obtain⟨i,j,e1,e2,c,q⟩:=h;exact⟨i,j,e1,e2,c,m _ _ q⟩
 run Fz H x y d e Q al rx ry h:=by
  obtain⟨i,j,rfl,rfl,c,q⟩:=h;simp only[Root,Den]at rx ry;exact⟨i,j,rx,ry,c,q _ Fz H (.val al (by simp only[Den]))⟩
theorem zjw {g:Int->Int->Int}:POp K (rI0 λi j=>.int (g i j)) (i0 λi j=>.int (g i j)) where
 mono d e Q Q' m h:=by obtain⟨i,j,e1,e2,q⟩:=h;exact⟨i,j,e1,e2,m _ _ q⟩
 run Fz H x y d e Q al rx ry h:=by
  obtain⟨i,j,rfl,rfl,q⟩:=h;simp only[Root,Den]at rx ry;exact⟨i,j,rx,ry,q _ Fz H (.val al (by simp only[Den]))⟩
theorem zdm {g:Int->Int->Bool}:POp K (rI0 λi j=>.bl (g i j)) (i0 λi j=>.bl (g i j)) where
 mono d e Q Q' m h:=by obtain⟨i,j,e1,e2,q⟩:=h;exact⟨i,j,e1,e2,m _ _ q⟩
 run Fz H x y d e Q al rx ry h:=by
  obtain⟨i,j,rfl,rfl,q⟩:=h;simp only[Root,Den]at rx ry;exact⟨i,j,rx,ry,q _ Fz H (.val al (by simp only[Den]))⟩
end
section
variable {X:Cx}{a b:Expr}{ta tb:TPE}{pos:Pos}
noncomputable abbrev pAdd:=t2 (i0 λi j=>.int (i+j))
noncomputable abbrev pSub:=t2 (i0 λi j=>.int (i-j))
noncomputable abbrev pMul:=t2 (i2 CMul λi j=>.int (i*j))
noncomputable abbrev pMod:=t2 (i2 (λ_ j=>0<j) λi j=>.int (i % j))
noncomputable abbrev pDiv:=t2 (i2 CDiv λi j=>.int (i / j))
noncomputable abbrev pPow:=t2 (i2 CPow λi j=>.int (i ^ j.toNat))
noncomputable abbrev pShr:=t2 (i2 (λ_ j=>0<=j) λi j=>.int (i / 2 ^ j.toNat))
noncomputable abbrev pLt:=t2 (i0 λi j=>.bl (decide (i<j)))
noncomputable abbrev pGt:=t2 (i0 λi j=>.bl (decide (j<i)))
theorem zbs (ha:PuE X a ta)(hb:PuE X b tb):PuE X (.BinOp a .Add b pos) (pAdd ta tb):=zeh zoy zjw ha hb
theorem zdH (ha:PuE X a ta)(hb:PuE X b tb):PuE X (.BinOp a .Sub b pos) (pSub ta tb):=zeh zoz zjw ha hb
theorem zcl (ha:PuE X a ta)(hb:PuE X b tb):PuE X (.BinOp a .Mult b pos) (pMul ta tb):=zeh zoA zfN ha hb
theorem zaH (ha:PuE X a ta)(hb:PuE X b tb):PuE X (.BinOp a .Mod b pos) (pMod ta tb):=zeh zoB zfN ha hb
theorem zjx (ha:PuE X a ta)(hb:PuE X b tb):PuE X (.BinOp a .FloorDiv b pos) (pDiv ta tb):=zeh zmZ zfN ha hb
theorem zjy (ha:PuE X a ta)(hb:PuE X b tb):PuE X (.BinOp a .Pow b pos) (pPow ta tb):=zeh zoC zfN ha hb
theorem zms (ha:PuE X a ta)(hb:PuE X b tb):PuE X (.BinOp a .RShift b pos) (pShr ta tb):=zeh zoD zfN ha hb
end
noncomputable def plain:Nat->PV->Bool
 | _,.non=>true
 | _,.int _=>true
 | _,.str _=>true
 | n+1,.tup ds=>ds.all (plain n)
 | n+1,.lst ds=>ds.all (plain n)
 | _,_=>false
theorem zbg {K:PySem.W.Frag}{Fz:FZ}{H:Hp}{x:V}(h:Root K Fz H .non x):x=.non:=by simpa only[Root,Den]using h
theorem zaC {K:PySem.W.Frag}{Fz:FZ}{H:Hp}{x:V}{i:Int}(h:Root K Fz H (.int i) x):x=.int i:=by simpa only[Root,Den]using h
theorem zcr {K:PySem.W.Frag}{Fz:FZ}{H:Hp}{x:V}{i:Bool}(h:Root K Fz H (.bl i) x):x=.bl i:=by simpa only[Root,Den]using h
theorem zal {K:PySem.W.Frag}{Fz:FZ}{H:Hp}{x:V}{i:Str}(h:Root K Fz H (.str i) x):x=.str i:=by simpa only[Root,Den]using h
theorem zaN {K:PySem.W.Frag}{Fz:FZ}{H:Hp}{x:V}{ds:List PV}(h:Root K Fz H (.tup ds) x):∃a xs,x=.ref a/\SqT K H a xs/\DenL K Fz H ds xs:=by
 simp only[Root,Den]at h;obtain⟨a,xs,e,h1,h2⟩:=h;exact⟨a,xs,e,SqT.of h1,h2⟩
theorem zfO {K:PySem.W.Frag}{Fz:FZ}{H:Hp}{x:V}{ds:List PV}(h:Root K Fz H (.tup ds) x):∃a xs,x=.ref a/\H a=some (.tup xs)/\DenL K Fz H ds xs:=by simpa only[Root,Den]using h
theorem zai {K:PySem.W.Frag}{Fz:FZ}{H:Hp}{x:V}{ds:List PV}(h:Root K Fz H (.lst ds) x):∃a xs,x=.ref a/\SqL K H a xs/\DenL K Fz H ds xs:=by
 simp only[Root]at h;obtain⟨a,xs,e,h1,h2⟩:=h;exact⟨a,xs,e,h1.elim (λh=>.inl h) KX.sq,h2⟩
theorem zfP {K:PySem.W.Frag}{Fz:FZ}{H:Hp}{x:V}{ds:List PV}(h:Root K Fz H (.lst ds) x):∃a xs,x=.ref a/\(Rd H a (.lst xs)\/KX K a xs)/\DenL K Fz H ds xs:=by simpa only[Root]using h
theorem df {p:Prop} [Decidable p] (h:¬ p){Y:Bool->Prop}(y:Y false):Y (decide p):=by rw[decide_eq_false h];exact y
theorem dn {p:Prop} [Decidable p] (h:¬ p){Y:Bool->Prop}(y:Y true):Y (!decide p):=by rw[decide_eq_false h];exact y
section
variable {X:Cx}{pins:List (Addr×Obj)}{σ:St}{H:Hp}{s:Shared}{Fz Fz':FZ}
theorem zfQ (I:Inv X pins σ H s){a:Addr}{xs ys:List V}(h1:SqL X.K H a xs)(h2:SqT X.K H a ys):False:=by
 obtain⟨its,r,p,_⟩:=I.list h1;obtain⟨its2,r2,p2,_⟩:=I.tuple h2;exact SeqAt.ne_of_list_tuple p.isList (show s.heap.IsTuple a its2.toArray from p2) rfl
theorem zeS (I:Inv X pins σ H s):∀(n:Nat)(d e:PV)(x:V),plain n d=true->plain n e=true->Root X.K Fz H d x->Root X.K Fz' H e x->d=e:=by
 intro n;induction n with
 | zero=>
  intro d e x pd pe h g;cases d<;>first
   | (simp only[plain]at pd;exact absurd pd (by decide))
   | (cases e<;>first
     | (simp only[plain]at pe;exact absurd pe (by decide))
     | (simp only[Root,Den]at h g;subst h;first | (cases g;rfl) | cases g))
 | succ n ih=>
  have all:∀(ds es:List PV) (xs:List V),ds.all (plain n)=true->es.all (plain n)=true->DenL X.K Fz H ds xs->DenL X.K Fz' H es xs->ds=es:=by
   intro ds;induction ds with
   | nil=>
    intro es xs _ _ h g;simp only[DenL]at h;subst h;cases es with
    | nil=>rfl
    | cons e es=>simp only[DenL]at g;obtain⟨_,_,z,_⟩:=g;cases z
   | cons d ds ihd=>
    intro es xs pd pe h g;simp only[DenL]at h;obtain⟨v,r,z,h1,h2⟩:=h;subst z;cases es with
    | nil=>simp only[DenL]at g;cases g
    | cons e es=>
     simp only[DenL]at g;obtain⟨v',r',z,g1,g2⟩:=g;cases z;rw[List.all_cons,Bool.and_eq_true]at pd pe;rw[ih d e v pd.1 pe.1 h1.root g1.root,ihd es r pd.2 pe.2 h2 g2]
  intro d e x pd pe h g;cases d with
  | tup ds=>
   simp only[plain]at pd;simp only[Root,Den]at h;obtain⟨a,xs,rfl,h1,h2⟩:=h;cases e with
   | tup es=>
    simp only[plain]at pe;simp only[Root,Den]at g;obtain⟨b,ys,z,g1,g2⟩:=g;cases z;have e1:=I.zfv (SqT.of h1) (SqT.of g1);subst e1;rw[all ds es xs pd pe h2 g2]
   | lst es=>
    obtain⟨b,ys,z,g1,g2⟩:=zai g;cases z;exact(zfQ I g1 (SqT.of h1)).elim
   | non=>simp only[Root,Den]at g;cases g
   | int i=>simp only[Root,Den]at g;cases g
   | str i=>simp only[Root,Den]at g;cases g
   | bl _=>simp only[plain]at pe;exact absurd pe (by decide)
   | ty _=>simp only[plain]at pe;exact absurd pe (by decide)
   | dK _ _=>simp only[plain]at pe;exact absurd pe (by decide)
   | dT _ _=>simp only[plain]at pe;exact absurd pe (by decide)
  | lst ds=>
   simp only[plain]at pd;obtain⟨a,xs,rfl,h1,h2⟩:=zai h;cases e with
   | lst es=>
    simp only[plain]at pe;obtain⟨b,ys,z,g1,g2⟩:=zai g;cases z;have e1:=I.zhp h1 g1;subst e1;rw[all ds es xs pd pe h2 g2]
   | tup es=>
    simp only[Root,Den]at g;obtain⟨b,ys,z,g1,g2⟩:=g;cases z;exact(zfQ I h1 (SqT.of g1)).elim
   | non=>simp only[Root,Den]at g;cases g
   | int i=>simp only[Root,Den]at g;cases g
   | str i=>simp only[Root,Den]at g;cases g
   | bl _=>simp only[plain]at pe;exact absurd pe (by decide)
   | ty _=>simp only[plain]at pe;exact absurd pe (by decide)
   | dK _ _=>simp only[plain]at pe;exact absurd pe (by decide)
   | dT _ _=>simp only[plain]at pe;exact absurd pe (by decide)
  | bl _=>simp only[plain]at pd;exact absurd pd (by decide)
  | ty _=>simp only[plain]at pd;exact absurd pd (by decide)
  | dK _ _=>simp only[plain]at pd;exact absurd pd (by decide)
  | dT _ _=>simp only[plain]at pd;exact absurd pd (by decide)
  | non=>
   have h':=zbg h;subst h';cases e with
   | non=>rfl
   | int i=>exact nomatch zaC g
   | str i=>exact nomatch zal g
   | tup ds=>obtain⟨_,_,z,_⟩:=zaN g;exact nomatch z
   | lst ds=>obtain⟨_,_,z,_⟩:=zai g;exact nomatch z
   | _=>simp only[plain]at pe;exact absurd pe (by decide)
  | int i=>
   have h':=zaC h;subst h';cases e with
   | non=>exact nomatch zbg g
   | int j=>have:=zaC g;injection this with this;rw[this]
   | str i=>exact nomatch zal g
   | tup ds=>obtain⟨_,_,z,_⟩:=zaN g;exact nomatch z
   | lst ds=>obtain⟨_,_,z,_⟩:=zai g;exact nomatch z
   | _=>simp only[plain]at pe;exact absurd pe (by decide)
  | str i=>
   have h':=zal h;subst h';cases e with
   | non=>exact nomatch zbg g
   | int j=>exact nomatch zaC g
   | str j=>have:=zal g;injection this with this;rw[this]
   | tup ds=>obtain⟨_,_,z,_⟩:=zaN g;exact nomatch z
   | lst ds=>obtain⟨_,_,z,_⟩:=zai g;exact nomatch z
   | _=>simp only[plain]at pe;exact absurd pe (by decide)
theorem zjz {ds es:List PV}{n:Nat}(hn:n=min ds.length es.length):((List.range n).all λj=>decide (ds[j]? = es[j]?))=true↔∀j,j<ds.length->j<es.length->ds[j]? = es[j]?:=by
 rw[List.all_eq_true];constructor
 ·intro h j h1 h2;exact of_decide_eq_true (h j (List.mem_range.mpr (by lia)))
 ·intro h j hj;have:=List.mem_range.mp hj;exact decide_eq_true (h j (by lia) (by lia))
theorem zfR {ds es:List PV}(hl:ds.length=es.length):(∀j,j<ds.length->j<es.length->ds[j]? = es[j]?)↔ds=es:=by
 constructor
 ·intro h;apply List.ext_getElem?;intro j;by_cases hj:j<ds.length
  ·exact h j hj (by lia)
  ·rw[List.getElem?_eq_none (by lia),List.getElem?_eq_none (by lia)]
 ·rintro rfl _ _ _;rfl
theorem zdI (ds es:List PV):((List.range (min ds.length es.length)).all (λj=>decide (ds[j]? = es[j]?))&&ds.length == es.length)=decide (ds=es):=by
 by_cases hlen:ds.length=es.length
 ·have hb':(ds.length == es.length)=true:=by simp;lia
  rw[hb',Bool.and_true];by_cases h:ds=es
  ·rw[(zjz rfl).mpr ((zfR hlen).mpr h),decide_eq_true h]
  ·rw[decide_eq_false h];cases hq:(List.range (min ds.length es.length)).all (λj=>decide (ds[j]? = es[j]?))with
   | false=>rfl
   | true=>exact absurd ((zfR hlen).mp ((zjz rfl).mp hq)) h
 ·have hb':(ds.length == es.length)=false:=by rw[beq_eq_false_iff_ne];exact hlen
  rw[hb',Bool.and_false,decide_eq_false (λz=>hlen (by rw[z]))]
theorem zgI {ds es:List PV}(hlen:ds.length=es.length):((List.range ds.length).all (λj=>decide (ds[j]? = es[j]?)))=decide (ds=es):=by
 have q:=zdI ds es;rw[hlen,Nat.min_self]at q;rw[hlen];simpa using q
theorem zls {i j:Int}:decide (PV.int i=PV.int j)=(i == j):=by
 rw[Bool.eq_iff_iff];simp
theorem zlt {i j:Str}:decide (PV.str i=PV.str j)=(i == j):=by
 rw[Bool.eq_iff_iff];simp
theorem zlu {i j:List PV}:decide (PV.tup i=PV.tup j)=decide (i=j):=by
 rw[Bool.eq_iff_iff];simp
theorem zlv {i j:List PV}:decide (PV.lst i=PV.lst j)=decide (i=j):=by
 rw[Bool.eq_iff_iff];simp
theorem zhy {A:Around}{n:Nat}{ds es:List PV}{xs ys:List V}{its its2:List Value}(I:Inv X pins σ H s)(r1:Vals xs its)(r2:Vals ys its2)(h1:DenL X.K Fz H ds xs)(h2:DenL X.K Fz' H es ys)(pd:ds.all (plain n)=true)(pe:es.all (plain n)=true)
  (ih:∀(d e:PV) (x y:V) (u v:Value),plain n d=true->plain n e=true->Den X.K Fz H d x->Den X.K Fz' H e y->RelV x u->RelV y v->SeqAt.EqAt A s u v (decide (d=e))) :
  ∀j (h1:j<its.toArray.size) (h2:j<its2.toArray.size),SeqAt.EqAt A s its.toArray[j] its2.toArray[j] (decide (ds[j]? = es[j]?)):=λj h1' h2'=>by
 have l1:=r1.length;have l2:=r2.length;have l3:=h1.length;have l4:=h2.length;rw[List.size_toArray]at h1' h2';have e1:ds[j]? = some ds[j]:=List.getElem?_eq_getElem (by lia);have e2:es[j]? = some es[j]:=List.getElem?_eq_getElem (by lia);obtain⟨x,e3,q3⟩:=h1.get e1;obtain⟨y,e4,q4⟩:=h2.get e2;obtain⟨u1,q1,r1'⟩:=r1.get e3;obtain⟨u2,q2,r2'⟩:=r2.get e4;have f1:its.toArray[j]=u1:=by
  have:its[j]? = some its[j]:=List.getElem?_eq_getElem h1';rw[q1]at this;simpa using (Option.some.inj this).symm
 have f2:its2.toArray[j]=u2:=by
  have:its2[j]? = some its2[j]:=List.getElem?_eq_getElem h2';rw[q2]at this;simpa using (Option.some.inj this).symm
 rw[f1,f2];have w:decide (ds[j]=es[j])=decide (ds[j]? = es[j]?):=by
  rw[e1,e2];by_cases h:ds[j]=es[j]
  ·rw[decide_eq_true h,decide_eq_true (by rw[h])]
  ·rw[decide_eq_false h,decide_eq_false (λz=>h (Option.some.inj z))]
 rw[<- w];exact ih _ _ _ _ _ _ (List.all_eq_true.mp pd _ (List.getElem_mem _)) (List.all_eq_true.mp pe _ (List.getElem_mem _)) q3 q4 r1' r2'
inductive Leaf:PV->Value->Prop
 | non:Leaf .non .none
 | int (i:Int) (t:Tok):Leaf (.int i) (.int i t)
 | str (i:Str) (t:Tok):Leaf (.str i) (.str i t)
theorem zjA {K:PySem.W.Frag}{Fz:FZ}{H:Hp}{d:PV}{x:V}{u:Value}(hp:plain 0 d=true)(hx:Root K Fz H d x)(rx:RelV x u):Leaf d u:=by
 cases d with
 | non=>rw[zbg hx]at rx;cases rx;exact .non
 | int i=>rw[zaC hx]at rx;obtain⟨t,rfl⟩:=rx;exact .int i t
 | str i=>rw[zal hx]at rx;obtain⟨t,rfl⟩:=rx;exact .str i t
 | _=>simp only[plain]at hp;exact absurd hp (by decide)
theorem znq {A:Around}{s:Shared}{d e:PV}{u v:Value}(h1:Leaf d u)(h2:Leaf e v):SeqAt.RcAt A s u v (decide (d=e))/\SeqAt.RcNeAt A s u v (!decide (d=e))/\SeqAt.EqAt A s u v (decide (d=e)):=by
 have no:∀ {d e:PV} {u v:Value},d≠e->SeqAt.RcAt A s u v false->SeqAt.RcNeAt A s u v true->SeqAt.EqAt A s u v false->SeqAt.RcAt A s u v (decide (d=e))/\SeqAt.RcNeAt A s u v (!decide (d=e))/\SeqAt.EqAt A s u v (decide (d=e)):=λh a b c=>by rw[decide_eq_false h];exact⟨a,b,c⟩
 cases h1<;>cases h2
 ·rw[decide_eq_true rfl];exact⟨SeqAt.RcAt.none_none,SeqAt.RcNeAt.none_none,SeqAt.EqAt.same _⟩
 ·exact no (λz=>nomatch z) (SeqAt.RcAt.none_int _ _) (SeqAt.RcNeAt.none_int _ _) (SeqAt.EqAt.none_int _ _)
 ·exact no (λz=>nomatch z) (SeqAt.RcAt.none_str _ _) (SeqAt.RcNeAt.none_str _ _) (SeqAt.EqAt.none_str _ _)
 ·exact no (λz=>nomatch z) (SeqAt.RcAt.int_none _ _) (SeqAt.RcNeAt.int_none _ _) (SeqAt.EqAt.int_none _ _)
 ·rw[zls];exact⟨SeqAt.RcAt.int_int _ _ _ _,SeqAt.RcNeAt.int_int _ _ _ _,SeqAt.EqAt.int_int _ _ _ _⟩
 ·exact no (λz=>nomatch z) (SeqAt.RcAt.int_str _ _ _ _) (SeqAt.RcNeAt.int_str _ _ _ _) (SeqAt.EqAt.int_str _ _ _ _)
 ·exact no (λz=>nomatch z) (SeqAt.RcAt.str_none _ _) (SeqAt.RcNeAt.str_none _ _) (SeqAt.EqAt.str_none _ _)
 ·exact no (λz=>nomatch z) (SeqAt.RcAt.str_int _ _ _ _) (SeqAt.RcNeAt.str_int _ _ _ _) (SeqAt.EqAt.str_int _ _ _ _)
 ·rw[zlt];exact⟨SeqAt.RcAt.str_str _ _ _ _,SeqAt.RcNeAt.str_str _ _ _ _,SeqAt.EqAt.str_str _ _ _ _⟩
theorem znr (I:Inv X pins σ H s):∀(n:Nat)(A:Around)(d e:PV)(x y:V)(u v:Value),plain n d=true->plain n e=true->A.units+n<cLine->Root X.K Fz H d x->Root X.K Fz' H e y->RelV x u->RelV y v->
  SeqAt.RcAt A s u v (decide (d=e))/\SeqAt.RcNeAt A s u v (!decide (d=e))/\SeqAt.EqAt A s u v (decide (d=e)):=by
 intro n;induction n with
 | zero=>exact λA d e x y u v pd pe hu hx hy rx ry=>znq (zjA pd hx rx) (zjA pe hy ry)
 | succ n ih=>
  intro A d e x y u v pd pe hu hx hy rx ry;have hA:A.units<cLine:=by lia
  have iha:∀(d e:PV) (x y:V) (u v:Value),plain n d=true->plain n e=true->Den X.K Fz H d x->Den X.K Fz' H e y->RelV x u->RelV y v->SeqAt.EqAt A.in1 s u v (decide (d=e)):=
   λd e x y u v pd pe h1 h2 r1 r2=>(ih A.in1 d e x y u v pd pe (by show A.units+1+n<cLine;lia) h1.root h2.root r1 r2).2.2
  have lower:∀c:PV,(∀ds,c≠.tup ds)->(∀ds,c≠.lst ds)->plain (n+1) c=true->plain n c=true:=λc h1 h2 hc=>by
   cases c with
   | tup ds=>exact absurd rfl (h1 ds)
   | lst ds=>exact absurd rfl (h2 ds)
   | non=>cases n<;>rfl
   | int i=>cases n<;>rfl
   | str i=>cases n<;>rfl
   | bl _=>simp only[plain]at hc;exact absurd hc (by decide)
   | ty _=>simp only[plain]at hc;exact absurd hc (by decide)
   | dK _ _=>simp only[plain]at hc;exact absurd hc (by decide)
   | dT _ _=>simp only[plain]at hc;exact absurd hc (by decide)
  have hA':A.units+n<cLine:=by lia
  cases d with
  | tup ds=>
   have hx':=hx;simp only[Root,Den]at hx;obtain⟨a,xs,rfl,ha,h1⟩:=hx;cases rx;obtain⟨its,r1,p1,z1⟩:=I.tuple (SqT.of ha);have p1':s.heap.IsTuple a its.toArray:=p1;cases e with
   | tup es=>
    have hy':=hy;simp only[Root,Den]at hy;obtain⟨b,ys,rfl,hb,h2⟩:=hy;cases ry;obtain⟨its2,r2,p2,z2⟩:=I.tuple (SqT.of hb);have p2':s.heap.IsTuple b its2.toArray:=p2;have he:=zhy I r1 r2 h1 h2 (by simpa only[plain]using pd) (by simpa only[plain]using pe) iha;have w:((List.range (min its.toArray.size its2.toArray.size)).all (λj=>decide (ds[j]? = es[j]?))&&its.toArray.size == its2.toArray.size)=decide (PV.tup ds=PV.tup es):=by
     rw[List.size_toArray,List.size_toArray,<- r1.length,<- r2.length,<- h1.length,<- h2.length,zdI,zlu]
    have q:=SeqAt.RcAt.tuples p1' p2' hA he;have q':=SeqAt.RcNeAt.tuples p1' p2' hA he;rw[w]at q q';refine⟨q,q',?_⟩;by_cases hab:a=b
    ·subst hab;rw[zeS I (n+1) _ _ _ pd pe hx' hy',decide_eq_true rfl];exact SeqAt.EqAt.same _
    ·exact SeqAt.EqAt.of_refs hab q
   | lst es=>
    obtain⟨b,ys,rfl,hb,h2⟩:=zai hy;cases ry;obtain⟨its2,r2,p2,z2⟩:=I.list hb;exact⟨df (λz=>nomatch z) (SeqAt.RcAt.tuple_list p1' p2.isList hA),dn (λz=>nomatch z) (SeqAt.RcNeAt.tuple_list p1' p2.isList hA),df (λz=>nomatch z) (SeqAt.EqAt.tuple_list p1' p2.isList hA)⟩
   | non=>simp only[Root,Den]at hy;subst hy;cases ry;exact⟨df (λz=>nomatch z) (SeqAt.RcAt.tuple_none p1' hA),dn (λz=>nomatch z) (SeqAt.RcNeAt.tuple_none p1' hA),df (λz=>nomatch z) (SeqAt.EqAt.tuple_none p1' hA)⟩
   | int i=>simp only[Root,Den]at hy;subst hy;obtain⟨t,rfl⟩:=ry;exact⟨df (λz=>nomatch z) (SeqAt.RcAt.tuple_int i t p1' hA),dn (λz=>nomatch z) (SeqAt.RcNeAt.tuple_int i t p1' hA),df (λz=>nomatch z) (SeqAt.EqAt.tuple_int i t p1' hA)⟩
   | str i=>simp only[Root,Den]at hy;subst hy;obtain⟨t,rfl⟩:=ry;exact⟨df (λz=>nomatch z) (SeqAt.RcAt.tuple_str i t p1' hA),dn (λz=>nomatch z) (SeqAt.RcNeAt.tuple_str i t p1' hA),df (λz=>nomatch z) (SeqAt.EqAt.tuple_str i t p1' hA)⟩
   | bl _=>simp only[plain]at pe;exact absurd pe (by decide)
   | ty _=>simp only[plain]at pe;exact absurd pe (by decide)
   | dK _ _=>simp only[plain]at pe;exact absurd pe (by decide)
   | dT _ _=>simp only[plain]at pe;exact absurd pe (by decide)
  | lst ds=>
   have hx':=hx;obtain⟨a,xs,rfl,ha,h1⟩:=zai hx;cases rx;obtain⟨its,r1,p1,z1⟩:=I.list ha;have p1':=p1.isList;cases e with
   | lst es=>
    have hy':=hy;obtain⟨b,ys,rfl,hb,h2⟩:=zai hy;cases ry;obtain⟨its2,r2,p2,z2⟩:=I.list hb;have he:=zhy I r1 r2 h1 h2 (by simpa only[plain]using pd) (by simpa only[plain]using pe) iha;have l1:=r1.length;have l2:=r2.length;have l3:=h1.length;have l4:=h2.length;have key:SeqAt.RcAt A s (.ref a) (.ref b) (decide (PV.lst ds=PV.lst es))/\SeqAt.RcNeAt A s (.ref a) (.ref b) (!decide (PV.lst ds=PV.lst es)):=by
     by_cases hlen:ds.length=es.length
     ·have w:(List.range its.toArray.size).all (λj=>decide (ds[j]? = es[j]?))=decide (PV.lst ds=PV.lst es):=by
       rw[List.size_toArray,<- l1,<- l3,zgI hlen,zlv]
      have q:=SeqAt.RcAt.lists p1' p2.isList (by rw[List.size_toArray,List.size_toArray];lia) hA he;have q':=SeqAt.RcNeAt.lists p1' p2.isList (by rw[List.size_toArray,List.size_toArray];lia) hA he;rw[w]at q q';exact⟨q,q'⟩
     ·have hne:(its.toArray.size != its2.toArray.size)=true:=by rw[List.size_toArray,List.size_toArray];simp;lia
      rw[decide_eq_false (λz=>hlen (by rw[PV.lst.inj z]))];exact⟨SeqAt.RcAt.lists_lengths p1' p2.isList hne hA,SeqAt.RcNeAt.lists_lengths p1' p2.isList hne hA⟩
    refine⟨key.1,key.2,?_⟩;by_cases hab:a=b
    ·subst hab;rw[zeS I (n+1) _ _ _ pd pe hx' hy',decide_eq_true rfl];exact SeqAt.EqAt.same _
    ·exact SeqAt.EqAt.of_refs hab key.1
   | tup es=>
    simp only[Root,Den]at hy;obtain⟨b,ys,rfl,hb,h2⟩:=hy;cases ry;obtain⟨its2,r2,p2,z2⟩:=I.tuple (SqT.of hb);have p2':s.heap.IsTuple b its2.toArray:=p2;exact⟨df (λz=>nomatch z) (SeqAt.RcAt.list_tuple p1' p2' hA),dn (λz=>nomatch z) (SeqAt.RcNeAt.list_tuple p1' p2' hA),df (λz=>nomatch z) (SeqAt.EqAt.list_tuple p1' p2' hA)⟩
   | non=>simp only[Root,Den]at hy;subst hy;cases ry;exact⟨df (λz=>nomatch z) (SeqAt.RcAt.list_none p1' hA),dn (λz=>nomatch z) (SeqAt.RcNeAt.list_none p1' hA),df (λz=>nomatch z) (SeqAt.EqAt.list_none p1' hA)⟩
   | int i=>simp only[Root,Den]at hy;subst hy;obtain⟨t,rfl⟩:=ry;exact⟨df (λz=>nomatch z) (SeqAt.RcAt.list_int i t p1' hA),dn (λz=>nomatch z) (SeqAt.RcNeAt.list_int i t p1' hA),df (λz=>nomatch z) (SeqAt.EqAt.list_int i t p1' hA)⟩
   | str i=>simp only[Root,Den]at hy;subst hy;obtain⟨t,rfl⟩:=ry;exact⟨df (λz=>nomatch z) (SeqAt.RcAt.list_str i t p1' hA),dn (λz=>nomatch z) (SeqAt.RcNeAt.list_str i t p1' hA),df (λz=>nomatch z) (SeqAt.EqAt.list_str i t p1' hA)⟩
   | bl _=>simp only[plain]at pe;exact absurd pe (by decide)
   | ty _=>simp only[plain]at pe;exact absurd pe (by decide)
   | dK _ _=>simp only[plain]at pe;exact absurd pe (by decide)
   | dT _ _=>simp only[plain]at pe;exact absurd pe (by decide)
  | bl _=>simp only[plain]at pd;exact absurd pd (by decide)
  | ty _=>simp only[plain]at pd;exact absurd pd (by decide)
  | dK _ _=>simp only[plain]at pd;exact absurd pd (by decide)
  | dT _ _=>simp only[plain]at pd;exact absurd pd (by decide)
  | non=>
   cases e with
   | tup es=>
    simp only[Root,Den]at hx hy;subst hx;cases rx;obtain⟨b,ys,rfl,hb,h2⟩:=hy;cases ry;obtain⟨its2,r2,p2,z2⟩:=I.tuple (SqT.of hb);have p2':s.heap.IsTuple b its2.toArray:=p2;exact⟨df (λz=>nomatch z) (SeqAt.RcAt.none_tuple p2' hA),dn (λz=>nomatch z) (SeqAt.RcNeAt.none_tuple p2' hA),df (λz=>nomatch z) (SeqAt.EqAt.none_tuple p2' hA)⟩
   | lst es=>
    simp only[Root,Den]at hx;subst hx;cases rx;obtain⟨b,ys,rfl,hb,h2⟩:=zai hy;cases ry;obtain⟨its2,r2,p2,z2⟩:=I.list hb;exact⟨df (λz=>nomatch z) (SeqAt.RcAt.none_list p2.isList hA),dn (λz=>nomatch z) (SeqAt.RcNeAt.none_list p2.isList hA),df (λz=>nomatch z) (SeqAt.EqAt.none_list p2.isList hA)⟩
   | _=>exact ih A _ _ x y u v (lower _ (λ_ z=>nomatch z) (λ_ z=>nomatch z) pd) (lower _ (λ_ z=>nomatch z) (λ_ z=>nomatch z) pe) hA' hx hy rx ry
  | int i=>
   cases e with
   | tup es=>
    simp only[Root,Den]at hx hy;subst hx;obtain⟨t,rfl⟩:=rx;obtain⟨b,ys,rfl,hb,h2⟩:=hy;cases ry;obtain⟨its2,r2,p2,z2⟩:=I.tuple (SqT.of hb);have p2':s.heap.IsTuple b its2.toArray:=p2;exact⟨df (λz=>nomatch z) (SeqAt.RcAt.int_tuple i t p2' hA),dn (λz=>nomatch z) (SeqAt.RcNeAt.int_tuple i t p2' hA),df (λz=>nomatch z) (SeqAt.EqAt.int_tuple i t p2' hA)⟩
   | lst es=>
    simp only[Root,Den]at hx;subst hx;obtain⟨t,rfl⟩:=rx;obtain⟨b,ys,rfl,hb,h2⟩:=zai hy;cases ry;obtain⟨its2,r2,p2,z2⟩:=I.list hb;exact⟨df (λz=>nomatch z) (SeqAt.RcAt.int_list i t p2.isList hA),dn (λz=>nomatch z) (SeqAt.RcNeAt.int_list i t p2.isList hA),df (λz=>nomatch z) (SeqAt.EqAt.int_list i t p2.isList hA)⟩
   | _=>exact ih A _ _ x y u v (lower _ (λ_ z=>nomatch z) (λ_ z=>nomatch z) pd) (lower _ (λ_ z=>nomatch z) (λ_ z=>nomatch z) pe) hA' hx hy rx ry
  | str i=>
   cases e with
   | tup es=>
    simp only[Root,Den]at hx hy;subst hx;obtain⟨t,rfl⟩:=rx;obtain⟨b,ys,rfl,hb,h2⟩:=hy;cases ry;obtain⟨its2,r2,p2,z2⟩:=I.tuple (SqT.of hb);have p2':s.heap.IsTuple b its2.toArray:=p2;exact⟨df (λz=>nomatch z) (SeqAt.RcAt.str_tuple i t p2' hA),dn (λz=>nomatch z) (SeqAt.RcNeAt.str_tuple i t p2' hA),df (λz=>nomatch z) (SeqAt.EqAt.str_tuple i t p2' hA)⟩
   | lst es=>
    simp only[Root,Den]at hx;subst hx;obtain⟨t,rfl⟩:=rx;obtain⟨b,ys,rfl,hb,h2⟩:=zai hy;cases ry;obtain⟨its2,r2,p2,z2⟩:=I.list hb;exact⟨df (λz=>nomatch z) (SeqAt.RcAt.str_list i t p2.isList hA),dn (λz=>nomatch z) (SeqAt.RcNeAt.str_list i t p2.isList hA),df (λz=>nomatch z) (SeqAt.EqAt.str_list i t p2.isList hA)⟩
   | _=>exact ih A _ _ x y u v (lower _ (λ_ z=>nomatch z) (λ_ z=>nomatch z) pd) (lower _ (λ_ z=>nomatch z) (λ_ z=>nomatch z) pe) hA' hx hy rx ry
end
noncomputable def rEqP (K:PySem.W.Frag)(neg:Bool):R2:=λx y H Q=>∃Fz d e,Root K Fz H d x/\Root K Fz H e y/\plain 6 d=true/\plain 6 e=true/\Q (.bl (if neg then !decide (d=e) else decide (d=e))) H
noncomputable def pEq (neg:Bool):P2:=λd e Q=>plain 6 d=true/\plain 6 e=true/\Q (.bl (if neg then !decide (d=e) else decide (d=e))) .frz
section
variable {X:Cx}
theorem zmt (hu:X.A.units+16<cLine):OpR X (compareOp .Eq) (rEqP X.K false):=by
 intro pins s σ H x y v u Q I rx ry h;obtain⟨Fz,d,e,hx,hy,pd,pe,q⟩:=h;exact(znr I 6 X.A d e x y v u pd pe (by lia) hx hy rx ry).1 X.prog X.w X.xe _ ⟨.bl _,H,I,rfl,q⟩
theorem zmu (hu:X.A.units+16<cLine):OpR X (compareOp .NotEq) (rEqP X.K true):=by
 intro pins s σ H x y v u Q I rx ry h;obtain⟨Fz,d,e,hx,hy,pd,pe,q⟩:=h;exact(znr I 6 X.A d e x y v u pd pe (by lia) hx hy rx ry).2.1 X.prog X.w X.xe _ ⟨.bl _,H,I,rfl,q⟩
theorem zhz {K:PySem.W.Frag}{neg:Bool}:POp K (rEqP K neg) (pEq neg) where
 mono d e Q Q' m h:=⟨h.1,h.2.1,m _ _ h.2.2⟩
 run Fz H x y d e Q al rx ry h:=⟨Fz,d,e,rx,ry,h.1,h.2.1,h.2.2 _ Fz H (.val al (by simp only[Den]))⟩
end
section
variable {X:Cx}{a b c:Expr}{ta tb:TPE}{tA tB':TPT}{pos:Pos}{rest:List Expr}
structure PuW (X:Cx)(e:Expr)(t:TPT):Prop where
 mono:∀ρ Q Q',(∀b,Q b->Q' b)->t ρ Q->t ρ Q'
 run:PW X e (liftT X.K t)
theorem PuW.t {e:Expr}{t:TPT}(h:PuW X e t):PuT X e t:=⟨h.mono,h.run.pt⟩
noncomputable def zdJ (t u:TPT):TPT:=λρ Q=>t ρ λc=>if c=true then u ρ Q else Q false
noncomputable def tOrP (t u:TPT):TPT:=λρ Q=>t ρ λc=>if c=true then Q true else u ρ Q
noncomputable def zeT (t:TPT):TPT:=λρ Q=>t ρ λc=>Q (!c)
theorem PW.weak {e:Expr}{t t':TT}(h:PW X e t)(w:∀σ H Q,t' σ H Q->t σ H Q):PW X e t':=λwhole pins s σ H Q I q=>h whole pins s σ H Q I (w σ H Q q)
theorem zcg (ha:PuT X a tA):PuW X (.BoolOp .And [a] pos) tA:=⟨ha.mono,zmV ha.run⟩
theorem zcs (ha:PuT X a tA):PuW X (.BoolOp .Or [a] pos) tA:=⟨ha.mono,zor ha.run⟩
theorem and_mono (m1:∀ρ (Q Q':Bool->Prop),(∀b,Q b->Q' b)->tA ρ Q->tA ρ Q')(m2:∀ρ (Q Q':Bool->Prop),(∀b,Q b->Q' b)->tB' ρ Q->tB' ρ Q') :
  ∀ρ (Q Q':Bool->Prop),(∀b,Q b->Q' b)->zdJ tA tB' ρ Q->zdJ tA tB' ρ Q':=λρ Q Q' m h=>m1 ρ _ _ (λc q=>by
 cases c with
 | true=>rw[if_pos rfl]at q ⊢;exact m2 ρ _ _ m q
 | false=>rw[if_neg Bool.false_ne_true]at q ⊢;exact m _ q) h
theorem or_mono (m1:∀ρ (Q Q':Bool->Prop),(∀b,Q b->Q' b)->tA ρ Q->tA ρ Q')(m2:∀ρ (Q Q':Bool->Prop),(∀b,Q b->Q' b)->tB' ρ Q->tB' ρ Q') :
  ∀ρ (Q Q':Bool->Prop),(∀b,Q b->Q' b)->tOrP tA tB' ρ Q->tOrP tA tB' ρ Q':=λρ Q Q' m h=>m1 ρ _ _ (λc q=>by
 cases c with
 | false=>rw[if_neg Bool.false_ne_true]at q ⊢;exact m2 ρ _ _ m q
 | true=>rw[if_pos rfl]at q ⊢;exact m _ q) h
theorem zcQ (ha:PuT X a tA)(hb:PuW X (.BoolOp .And (b::rest) pos) tB'):PuW X (.BoolOp .And (a::b::rest) pos) (zdJ tA tB') where
 mono:=and_mono ha.mono hb.mono
 run:=PW.weak (zos ha.run hb.run) λσ H Q h=>by
  obtain⟨ρ,Fz,R,h⟩:=h;refine⟨ρ,Fz,R,ha.mono ρ _ _ (λc q Fz' H' x=>?_) h⟩;cases c with
  | true=>
   rw[if_pos rfl]at q ⊢;exact⟨ρ,Fz',R.ext x,hb.mono ρ _ _ (λb q Fz2 H2 x2=>q Fz2 H2 (x.trans x2)) q⟩
  | false=>rw[if_neg Bool.false_ne_true]at q ⊢;exact q Fz' H' x
theorem zbP (ha:PuT X a tA)(hb:PuW X (.BoolOp .Or (b::rest) pos) tB'):PuW X (.BoolOp .Or (a::b::rest) pos) (tOrP tA tB') where
 mono:=or_mono ha.mono hb.mono
 run:=PW.weak (zqh ha.run hb.run) λσ H Q h=>by
  obtain⟨ρ,Fz,R,h⟩:=h;refine⟨ρ,Fz,R,ha.mono ρ _ _ (λc q Fz' H' x=>?_) h⟩;cases c with
  | false=>
   rw[if_neg Bool.false_ne_true]at q ⊢;exact⟨ρ,Fz',R.ext x,hb.mono ρ _ _ (λb q Fz2 H2 x2=>q Fz2 H2 (x.trans x2)) q⟩
  | true=>rw[if_pos rfl]at q ⊢;exact q Fz' H' x
theorem zbp (ha:PuT X a tA):PuT X (.UnaryOp .Not a pos) (zeT tA) where
 mono ρ Q Q' m h:=ha.mono ρ _ _ (λc q=>m _ q) h
 run:=PT.weak (zot ha.run) λσ H Q h=>h
noncomputable def TruP:PV->Bool->Prop
 | .non,k=>k=false
 | .bl b,k=>k=b
 | .int i,k=>k=(i != 0)
 | .str y,k=>y.length<=sizeLine/\k=((y.length:Int) != 0)
 | .tup ds,k=>k = !ds.isEmpty
 | .lst ds,k=>k = !ds.isEmpty
 | _,_=>False
noncomputable def tTru (te:TPE):TPT:=λρ Q=>te ρ λd _=>∃k,TruP d k/\Q k
theorem TruP.v {K:PySem.W.Frag}{Fz:FZ}{H:Hp}{d:PV}{x:V}{k:Bool}(r:Root K Fz H d x)(t:TruP d k):TruV K x H k:=by
 cases d with
 | non=>cases zbg r;exact t
 | bl b=>cases zcr r;exact t
 | int i=>cases zaC r;exact t
 | str y=>cases zal r;exact t
 | tup ds=>
  obtain⟨a,xs,rfl,h1,h2⟩:=zaN r;refine .inr (.inl ⟨xs,h1,?_⟩);have hl:=h2.length;have t':k = !ds.isEmpty:=t;rw[t'];cases ds<;>cases xs<;>simp_all
 | lst ds=>
  obtain⟨a,xs,rfl,h1,h2⟩:=zai r;refine .inl ⟨xs,h1,?_⟩;have hl:=h2.length;have t':k = !ds.isEmpty:=t;rw[t'];cases ds<;>cases xs<;>simp_all
 | ty _=>exact t.elim
 | dK _ _=>exact t.elim
 | dT _ _=>exact t.elim
theorem zaX (ha:PuE X a ta)(he:autoParam (∀whole,isTrue a X.env whole=(do let v <- whole;standAt a.pos;holding [v] (truthy v))) aU3):PuT X a (tTru ta) where
 mono ρ Q Q' m h:=ha.mono ρ _ _ (λd k q51q=>by obtain⟨b,e,q⟩:=q51q;exact⟨b,e,m b q⟩) h
 run:=PT.weak (zln ha.run he) λσ H Q h=>by
  obtain⟨ρ,Fz,R,h⟩:=h;exact⟨ρ,Fz,R,ha.mono ρ _ _ (λd k q52q v Fz' H' p=>by obtain⟨b,e,q⟩:=q52q;exact⟨b,TruP.v (p.root R) e,q Fz' H' p.ext⟩) h⟩
noncomputable def zeU (ta:TPE):TPE:=λρ Q=>ta ρ λd _=>∃c,d=.bl c/\Q (.bl (!c)) .frz
noncomputable def zeV (ta tb:TPE):TPE:=λρ Q=>ta ρ λd _=>∃c,d=.bl c/\if c=true then tb ρ Q else Q (.bl false) .frz
theorem zoW (ha:PuE X a ta):PuE X (.UnaryOp .Not a pos) (zeU ta) where
 mono ρ Q Q' m h:=ha.mono ρ _ _ (λd k q53q=>by obtain⟨c,e,q⟩:=q53q;exact⟨c,e,m _ _ q⟩) h
 run:=PE.weak (zou ha.run) λσ H Q h=>by
  obtain⟨ρ,Fz,R,h⟩:=h;refine⟨ρ,Fz,R,ha.mono ρ _ _ (λd k ⟨c,e,q⟩ v Fz' H' p=>⟨c,?_,q _ Fz' H' ⟨p.ext,by show Den _ _ _ _ _;simp only[Den]⟩⟩) h⟩;subst e;exact zcr (p.root R)
theorem zoX {op}{t:TPE}(h:PuE X a t):PuE X (.BoolOp op [a] pos) t:=⟨h.mono,zmm h.run⟩
theorem zoY (ha:PuE X a ta)(hb:PuE X (.BoolOp .And (b::rest) pos) tb):PuE X (.BoolOp .And (a::b::rest) pos) (zeV ta tb) where
 mono ρ Q Q' m h:=ha.mono ρ _ _ (λd k ⟨c,e,q⟩=>⟨c,e,by
  cases c with
  | true=>rw[if_pos rfl]at q ⊢;exact hb.mono ρ _ _ m q
  | false=>rw[if_neg Bool.false_ne_true]at q ⊢;exact m _ _ q⟩) h
 run:=PE.weak (zmn ha.run hb.run) λσ H Q h=>by
  obtain⟨ρ,Fz,R,h⟩:=h;refine⟨ρ,Fz,R,ha.mono ρ _ _ (λd k ⟨c,e,q⟩ v Fz' H' p=>⟨c,?_,?_⟩) h⟩
  ·subst e;exact zcr (p.root R)
  ·cases c with
   | true=>
    rw[if_pos rfl]at q ⊢;exact⟨ρ,Fz',R.ext p.ext,hb.mono ρ _ _ (λd k q v Fz2 H2 p2=>q v Fz2 H2 (p2.then p.ext)) q⟩
   | false=>rw[if_neg Bool.false_ne_true]at q ⊢;exact q _ Fz' H' ⟨p.ext,by show Den _ _ _ _ _;simp only[Den]⟩
noncomputable def tIfE (t:TPT)(ta tb:TPE):TPE:=λρ Q=>t ρ λc=>if c=true then ta ρ Q else tb ρ Q
theorem zlw (hc:PuT X c tA)(ha:PuE X a ta)(hb:PuE X b tb):PuE X (.IfExp c a b pos) (tIfE tA ta tb) where
 mono ρ Q Q' m h:=hc.mono ρ _ _ (λd q=>by
  cases d with
  | true=>rw[if_pos rfl]at q ⊢;exact ha.mono ρ _ _ m q
  | false=>rw[if_neg Bool.false_ne_true]at q ⊢;exact hb.mono ρ _ _ m q) h
 run:=PE.weak (zli hc.run ha.run hb.run) λσ H Q h=>by
  obtain⟨ρ,Fz,R,h⟩:=h;refine⟨ρ,Fz,R,hc.mono ρ _ _ (λc q Fz' H' x=>?_) h⟩;cases c with
  | true=>
   rw[if_pos rfl]at q ⊢;exact⟨ρ,Fz',R.ext x,ha.mono ρ _ _ (λd k q v Fz2 H2 p2=>q v Fz2 H2 (p2.then x)) q⟩
  | false=>
   rw[if_neg Bool.false_ne_true]at q ⊢;exact⟨ρ,Fz',R.ext x,hb.mono ρ _ _ (λd k q v Fz2 H2 p2=>q v Fz2 H2 (p2.then x)) q⟩
end
noncomputable abbrev OpdL (K:PySem.W.Frag)(Fz':FZ)(H':Hp)(ρ:PEnv)(σ:St)(H:Hp):List (PV×Kd)->List V->Prop:=Paired λp v=>Opd K Fz' H' ρ σ H p.1 p.2 v
noncomputable def zns (K:PySem.W.Frag)(t:TPA):TA:=λσ H Q=>∃ρ Fz,Rel K Fz ρ σ H/\t ρ λops=>∀vs Fz' H',Ext Fz H Fz' H'->OpdL K Fz' H' ρ σ H ops vs->Q vs H'
structure PuA (X:Cx)(es:List Expr)(t:TPA):Prop where
 mono:∀ρ Q Q',(∀ops,Q ops->Q' ops)->t ρ Q->t ρ Q'
 run:PA X es (zns X.K t)
theorem PA.weak {X:Cx}{es:List Expr}{t t':TA}(h:PA X es t)(w:∀σ H Q,t' σ H Q->t σ H Q):PA X es t':=λpos pins s σ H Q I q=>h pos pins s σ H Q I (w σ H Q q)
noncomputable def pNil:TPA:=λ_ Q=>Q []
noncomputable def zeW (te:TPE)(t:TPA):TPA:=λρ Q=>te ρ λd k=>t ρ λops=>Q ((d,k)::ops)
theorem OpdL.back {K:PySem.W.Frag}{ρ:PEnv}{σ:St}{Fz2:FZ}{H H1 H2:Hp}(s:Same H H1):∀ {ops:List (PV×Kd)}{vs:List V},OpdL K Fz2 H2 ρ σ H1 ops vs->OpdL K Fz2 H2 ρ σ H ops vs
 | _,_,.nil=>.nil
 | _,_,.cons h t=>.cons (Opd.back s h) (OpdL.back s t)
section
variable {X:Cx}{e:Expr}{es:List Expr}{te:TPE}{t:TPA}{pos:Pos}
theorem zad:PuA X [] pNil where
 mono ρ Q Q' m h:=m _ h
 run:=PA.weak zbU λσ H Q h=>by
  obtain⟨ρ,Fz,R,h⟩:=h;exact h [] Fz H ⟨Same.refl H,λ_ h=>h,λ_ h=>.inl h,R.al⟩ .nil
theorem zaa (ha:PuE X e te)(hr:PuA X es t)(hs:autoParam (starEach (e::es) X.env=(false,eval e X.env)::starEach es X.env) aU0):PuA X (e::es) (zeW te t) where
 mono ρ Q Q' m h:=ha.mono ρ _ _ (λd k h=>hr.mono ρ _ _ (λops h=>m _ h) h) h
 run:=PA.weak (zaE ha.run hr.run hs) λσ H Q h=>by
  obtain⟨ρ,Fz,R,h⟩:=h;refine⟨ρ,Fz,R,ha.mono ρ _ _ (λd k h v Fz1 H1 p=>?_) h⟩;refine⟨ρ,Fz1,R.ext p.ext,hr.mono ρ _ _ (λops h vs Fz2 H2 x o=>?_) h⟩;exact h (v::vs) Fz2 H2 (p.ext.trans x) (.cons (Opd.ext x p.opd) (OpdL.back p.ext.same o))
end
noncomputable def zlx (K:PySem.W.Frag)(Fz:FZ)(H:Hp):List PV->List V->Prop:=Paired (Root K Fz H)
theorem OpdL.root {K:PySem.W.Frag}{ρ:PEnv}{σ:St}{Fz Fz':FZ}{H H':Hp}(R:Rel K Fz ρ σ H)(x:Ext Fz H Fz' H'):∀ {ops:List (PV×Kd)}{vs:List V},OpdL K Fz' H' ρ σ H ops vs->zlx K Fz' H' (ops.map (·.1)) vs
 | _,_,.nil=>.nil
 | _,_,.cons h t=>.cons (Post.root R ⟨x,h⟩) (OpdL.root R x t)
noncomputable def noOwn:List (PV×Kd)->Bool
 | []=>true
 | (_,.own _)::_=>false
 | _::r=>noOwn r
theorem OpdL.frozen {K:PySem.W.Frag}{ρ:PEnv}{σ:St}{Fz Fz':FZ}{H H':Hp}(x:Ext Fz H Fz' H'):∀ {ops:List (PV×Kd)}{vs:List V},noOwn ops=true->OpdL K Fz' H' ρ σ H ops vs->
  ∃Fz2,Ext Fz H Fz2 H'/\(∀b,Fz' b->Fz2 b)/\DenL K Fz2 H' (ops.map (·.1)) vs
 | _,_,_,.nil=>⟨Fz',x,λ_ h=>h,DenL.nil⟩
 | (d,k)::ops,v::vs,hn,.cons h t=>by
  cases k with
  | own i=>exact absurd hn Bool.false_ne_true
  | frz=>
   obtain⟨F2,x2,s2,h2⟩:=OpdL.frozen x (ops:=ops) hn t;exact⟨F2,x2,s2,DenL.cons (Den.mono (Keep.of (Same.refl _)) s2 _ _ h) h2⟩
  | new=>
   obtain⟨F2,x2,s2,h2⟩:=OpdL.frozen x (ops:=ops) hn t;obtain⟨a,e,hn',_,o⟩:=h;subst e;refine⟨λb=>F2 b\/b=a,x2.add hn' (by obtain⟨o',e,_⟩:=o.at;rw[e];exact λz=>nomatch z),λb h=>.inl (s2 b h),DenL.cons ?_ (DenL.mono (Keep.of (Same.refl _)) (λb h=>.inl h) _ _ h2)⟩;exact(o.mono (Fz':=λb=>F2 b\/b=a) (Keep.of (Same.refl _)) (λb h=>.inl (s2 b h)) (λ_ h=>h)).den (.inr rfl)
noncomputable def pTup (t:TPA):TPE:=λρ Q=>t ρ λops=>noOwn ops=true/\ops.length<=sizeLine/\Q (.tup (ops.map (·.1))) .frz
noncomputable def pLst (t:TPA):TPE:=λρ Q=>t ρ λops=>noOwn ops=true/\ops.length<=sizeLine/\Q (.lst (ops.map (·.1))) .new
section
variable {X:Cx}{es:List Expr}{t:TPA}{pos:Pos}
theorem zoZ {x1}(h:PuA X es t):PuE X (.Tuple es x1 pos) (pTup t) where
 mono ρ Q Q' m q:=h.mono ρ _ _ (λops q=>⟨q.1,q.2.1,m _ _ q.2.2⟩) q
 run:=PE.weak (zmr h.run) λσ H Q q=>by
  obtain⟨ρ,Fz,R,q⟩:=q;refine⟨ρ,Fz,R,h.mono ρ _ _ (λops q vs Fz' H' x o=>?_) q⟩;obtain⟨hn,hl,q⟩:=q;obtain⟨F2,x2,s2,h2⟩:=o.frozen x hn;have len:=h2.length;rw[List.length_map]at len;refine⟨by lia,λp hp=>q _ F2 _ ⟨x2.laid hp,?_⟩⟩;show Den _ _ _ _ _;simp only[Den];refine⟨p,vs,rfl,zat,DenL.mono (Keep.of (λb u e=>by rw[zao (zav e hp)];exact e)) (λ_ h=>h) _ _ h2⟩
theorem zbQ (h:PuA X es t):PuE X (.List es pos) (pLst t) where
 mono ρ Q Q' m q:=h.mono ρ _ _ (λops q=>⟨q.1,q.2.1,m _ _ q.2.2⟩) q
 run:=PE.weak (zoH h.run) λσ H Q q=>by
  obtain⟨ρ,Fz,R,q⟩:=q;refine⟨ρ,Fz,R,h.mono ρ _ _ (λops q vs Fz' H' x o=>?_) q⟩;obtain⟨hn,hl,q⟩:=q;obtain⟨F2,x2,s2,h2⟩:=o.frozen x hn;have len:=h2.length;rw[List.length_map]at len;refine⟨by lia,λp hp=>q _ F2 _ ⟨x2.laid hp,p,rfl,x.same.free hp,λz=>x2.al p z hp,vs,zat,?_⟩⟩;exact DenL.mono (Keep.of (λb u e=>by rw[zao (zav e hp)];exact e)) (λ_ h=>h) _ _ h2
end
mutual
noncomputable def zbT:PV->Bool
 | .tup ds=>zaI ds
 | .lst _=>false
 | .dK _ _=>false
 | .dT _ _=>false
 | _=>true
noncomputable def zaI:List PV->Bool
 | []=>true
 | d::ds=>zbT d&&zaI ds
end
section
variable {K:PySem.W.Frag}{Fz Fz':FZ}{H:Hp}
mutual
theorem zfS:∀(d:PV)(v:V),zbT d=true->Den K Fz H d v->Den K Fz' H d v
 | .non,v,_,h=>by simpa only[Den]using h
 | .bl b,v,_,h=>by simpa only[Den]using h
 | .int i,v,_,h=>by simpa only[Den]using h
 | .str x,v,_,h=>by simpa only[Den]using h
 | .ty n,v,_,h=>by simpa only[Den]using h
 | .tup ds,v,n,h=>by
  simp only[zbT]at n;simp only[Den]at h ⊢;obtain⟨a,xs,e,h1,h2⟩:=h;exact⟨a,xs,e,h1,zbA ds xs n h2⟩
 | .lst ds,v,n,h=>by simp only[zbT]at n;exact absurd n (by decide)
 | .dK ks ds,v,n,h=>by simp only[zbT]at n;exact absurd n (by decide)
 | .dT ks ds,v,n,h=>by simp only[zbT]at n;exact absurd n (by decide)
theorem zbA:∀(ds:List PV)(xs:List V),zaI ds=true->DenL K Fz H ds xs->DenL K Fz' H ds xs
 | [],xs,_,h=>by simpa only[DenL]using h
 | d::ds,xs,n,h=>by
  simp only[zaI,Bool.and_eq_true]at n;simp only[DenL]at h ⊢;obtain⟨v,r,e,h1,h2⟩:=h;exact⟨v,r,e,zfS d v n.1 h1,zbA ds r n.2 h2⟩
end
end
noncomputable def zbW:PV->Kd->Bool
 | .lst ds,.new=>zaI ds
 | .dK _ ds,.new=>zaI ds
 | .dT _ ds,.new=>zaI ds
 | d,_=>zbT d
theorem zix {K:PySem.W.Frag}{Fz Fz':FZ}{H H':Hp}{d:PV}{k:Kd}{v:V}(n:zbW d k=true)(hal:∀b,Fz' b->H b≠none)(h:Opd K Fz H' [] [] H d k v):Opd K Fz' H' [] [] H d k v:=by
 cases k with
 | frz=>
  have n':zbT d=true:=by cases d<;>exact n
  exact zfS d v n' h
 | own i=>exact h
 | new=>
  obtain⟨a,e,hn,_,o⟩:=h;refine⟨a,e,hn,λz=>hal a z hn,?_⟩;cases d with
  | lst ds=>obtain⟨xs,h1,h2⟩:=o;exact⟨xs,h1,zbA ds xs n h2⟩
  | dK ks ds=>obtain⟨xs,h1,h2,h3⟩:=o;exact⟨xs,h1,h2,zbA ds xs n h3⟩
  | dT ks ds=>obtain⟨xs,h1,h2,h3⟩:=o;exact⟨xs,h1,h2,zbA ds xs n h3⟩
  | non=>exact o.elim
  | bl b=>exact o.elim
  | int i=>exact o.elim
  | str x=>exact o.elim
  | ty n=>exact o.elim
  | tup ds=>exact o.elim
noncomputable abbrev PF:=List PV->(PV->Kd->Prop)->Prop
noncomputable def zbJ (F:PF):Prop:=∀ds Q Q',(∀d k,Q d k->Q' d k)->F ds Q->F ds Q'
noncomputable def spP (K:PySem.W.Frag)(F:PF):Sp:=λvs H Q _=>∃Fz ds,(∀b,Fz b->H b≠none)/\DenL K Fz H ds vs/\F ds λd k=>∀v Fz' H',Post K [] [] Fz H Fz' H' d k v->Q v H'
theorem OpdL.all {K:PySem.W.Frag}{ρ:PEnv}{σ:St}{Fz Fz':FZ}{H H':Hp}(R:Rel K Fz ρ σ H)(x:Ext Fz H Fz' H'):∀ {ops:List (PV×Kd)}{vs:List V},OpdL K Fz' H' ρ σ H ops vs->
  ∃Fz2,(∀b,Fz' b->Fz2 b)/\(∀b,Fz2 b->H' b≠none)/\DenL K Fz2 H' (ops.map (·.1)) vs
 | _,_,.nil=>⟨Fz',λ_ h=>h,x.al,DenL.nil⟩
 | (d,k)::ops,v::vs,.cons h t=>by
  obtain⟨F2,s2,a2,h2⟩:=OpdL.all R x t;have addr:∀a,v=.ref a->Own K Fz' H' d a->∃Fz2,(∀b,Fz' b->Fz2 b)/\(∀b,Fz2 b->H' b≠none)/\DenL K Fz2 H' ((d,k)::ops |>.map (·.1)) (v::vs):=λa e o=>by
   subst e;refine⟨λb=>F2 b\/b=a,λb h=>.inl (s2 b h),λb hb=>?_,DenL.cons ?_ (DenL.mono (Keep.of (Same.refl _)) (λb h=>.inl h) _ _ h2)⟩
   ·rcases hb with hb | rfl
    ·exact a2 b hb
    ·obtain⟨o',e,_⟩:=o.at;rw[e];exact λz=>nomatch z
   ·exact(o.mono (Fz':=λb=>F2 b\/b=a) (Keep.of (Same.refl _)) (λb h=>.inl (s2 b h)) (λ_ h=>h)).den (.inr rfl)
  cases k with
  | frz=>exact⟨F2,s2,a2,DenL.cons (Den.mono (Keep.of (Same.refl _)) s2 _ _ h) h2⟩
  | new=>obtain⟨a,e,_,_,o⟩:=h;exact addr a e o
  | own i=>
   obtain⟨h1,h2'⟩:=h;obtain⟨a,e,_,o⟩:=(R.ext x).own i d h1;rw[h2']at e;cases e;exact addr a rfl o
noncomputable def zcm (F:PF)(t:TPA):TPE:=λρ Q=>t ρ λops=>F (ops.map (·.1)) λd k=>(noOwn ops=true\/zbW d k=true)/\Q d k
section
variable {X:Cx}{k:Nat}{f:Addr}{fd:FuncData}{ps:List Str}{F:PF}{x:Str}{p pos:Pos}{e:Expr}{es:List Expr}{t:TPA}
theorem zly {σ:St}{H:Hp}{Q:VK}(ha:PuA X es t)(m:zbJ F)(h:lift X.K (zcm F t) σ H Q):zoI (spP X.K F) [] E0 (zns X.K t) σ H Q:=by
 obtain⟨ρ,Fz,R,h⟩:=h;refine⟨ρ,Fz,R,ha.mono ρ _ _ (λops h vs Fz' H' x o=>?_) h⟩;show spP X.K F (vs++[]) H' Q E0;rw[List.append_nil];by_cases hn:noOwn ops=true
 ·obtain⟨F2,x2,s2,h2⟩:=o.frozen x hn;refine⟨F2,ops.map (·.1),x2.al,h2,m _ _ _ (λd k q v Fz3 H3 p3=>?_) h⟩;exact q.2 v Fz3 H3 (p3.behind x2)
 ·obtain⟨F2,s2,a2,h2⟩:=o.all R x;refine⟨F2,ops.map (·.1),a2,h2,m _ _ _ (λd k q v Fz3 H3 p3=>?_) h⟩;have nm:zbW d k=true:=q.1.resolve_left hn;have al:∀b,Fz' b->H3 b≠none:=λb hb z=>x.al b hb (p3.ext.same.free z);refine q.2 v Fz' H3 ⟨⟨x.same.trans p3.ext.same,x.sub,x.new,al⟩,?_⟩;exact((zix nm x.al p3.opd).up).back x.same
theorem zan (G:FnOk X.prog X.w X.K X.mg X.base CX0 k f fd ps (spP X.K F))(m:zbJ F)(hr:Room k X.A)(hg:Gl X x)(hm:X.mg x=some (.ref f))(hk:PySem.W.keepIn X.K (.ref f)=true)(hb:Binds X.K fd ps [])(ha:PuA X (e::es) t)
  (hd:autoParam ((x == ("__debug__" : Str))=false) aU1) (he:autoParam (starEach (e::es) X.env=(false,eval e X.env)::starEach es X.env) aU0) (hpl:autoParam ((backTo pos (starEach es X.env)).any (·.1)=false) aU0) :
  PuE X (.Call (.Name x p) (e::es) [] pos) (zcm F t) where
 mono ρ Q Q' mm h:=ha.mono ρ _ _ (λops h=>m _ _ _ (λd k q=>⟨q.1,mm _ _ q.2⟩) h) h
 run:=PE.weak (zjg G hr hg hm hk hb .nil zqx ha.run hd he hpl) λσ H Q h=>zly ha m h
end
structure zcR (K:PySem.W.Frag)(r:List V->Hp->VK->Prop)(p:PF):Prop where
 mono:zbJ p
 run:∀Fz H ds vs Q,(∀b,Fz b->H b≠none)->zlx K Fz H ds vs->p ds (λz k=>∀v Fz' H',Post K [] [] Fz H Fz' H' z k v->Q v H')->r vs H Q
noncomputable def tB (p:PF)(t:TPA):TPE:=λρ Q=>t ρ λops=>p (ops.map (·.1)) Q
section
variable {X:Cx}{x:Str}{p pos:Pos}{e:Expr}{es:List Expr}{t:TPA}{id T:String}{r:List V->Hp->VK->Prop}{pf:PF}
theorem zpa {σ:St}{H:Hp}{Q:VK}(ha:PuA X es t)(m:zcR X.K r pf)(h:lift X.K (tB pf t) σ H Q):tCB r (zns X.K t) σ H Q:=by
 obtain⟨ρ,Fz,R,h⟩:=h;refine⟨ρ,Fz,R,ha.mono ρ _ _ (λops h vs Fz' H' x o=>?_) h⟩;exact m.run Fz' H' _ vs Q x.al (o.root R x) (m.mono _ _ _ (λd k q v Fz3 H3 p3=>q v Fz3 H3 (p3.behind x)) h)
theorem zcC (hc:zbF X (.builtin id) r)(m:zcR X.K r pf)(hg:Gl X x)(hm:X.mg x=none)(hv:bootBuiltins x=some (.builtin id))(ha:PuA X (e::es) t)(hn:autoParam (x≠"__name__") aU1) (hdb:autoParam ((x == ("__debug__" : Str))=false) aU1)
  (he:autoParam (starEach (e::es) X.env=(false,eval e X.env)::starEach es X.env) aU0) (hpl:autoParam ((backTo pos (starEach es X.env)).any (·.1)=false) aU0):PuE X (.Call (.Name x p) (e::es) [] pos) (tB pf t) where
 mono ρ Q Q' mm h:=ha.mono ρ _ _ (λops h=>m.mono _ _ _ mm h) h
 run:=PE.weak (zcx hc hg hm hv ha.run hn hdb he hpl) λσ H Q h=>zpa ha m h
theorem zbX (hc:zbF X (.type T) r)(m:zcR X.K r pf)(hg:Gl X x)(hm:X.mg x=none)(hv:bootBuiltins x=some (.type T))(ha:PuA X (e::es) t)(hn:autoParam (x≠"__name__") aU1) (hdb:autoParam ((x == ("__debug__" : Str))=false) aU1)
  (he:autoParam (starEach (e::es) X.env=(false,eval e X.env)::starEach es X.env) aU0) (hpl:autoParam ((backTo pos (starEach es X.env)).any (·.1)=false) aU0):PuE X (.Call (.Name x p) (e::es) [] pos) (tB pf t) where
 mono ρ Q Q' mm h:=ha.mono ρ _ _ (λops h=>m.mono _ _ _ mm h) h
 run:=PE.weak (zdB hc hg hm hv ha.run hn hdb he hpl) λσ H Q h=>zpa ha m h
end
end PL
namespace PL
open PySem PySem.Spec L2
open PyProof.Rows hiding St
structure POut where
 nx:PEnv->Prop
 rt:PV->Kd->Prop
 bk:PEnv->Prop
 ct:PEnv->Prop
structure POut.le (O O':POut):Prop where
 nx:∀ρ,O.nx ρ->O'.nx ρ
 rt:∀d k,O.rt d k->O'.rt d k
 bk:∀ρ,O.bk ρ->O'.bk ρ
 ct:∀ρ,O.ct ρ->O'.ct ρ
noncomputable abbrev TPS:=PEnv->POut->Prop
noncomputable def Hold (t:TPS)(O:POut)(ρ:PEnv):Prop:=t ρ O
theorem hold {t:TPS}{O:POut}{ρ:PEnv}(h:t ρ O):Hold t O ρ:=h
structure Step (ρ:PEnv)(σ:St)(Fz:FZ)(H:Hp)(Fz':FZ)(H':Hp):Prop where
 sub:∀b,Fz b->Fz' b
 new:∀b,Fz' b->Fz b\/H b=none\/zaG ρ σ b
 keep:∀b o,H b=some o->¬ zaG ρ σ b->H' b=some o
noncomputable def zaz (ρ:PEnv)(σ:St)(H:Hp)(ρ':PEnv)(σ':St):Prop:=∀b,zaG ρ' σ' b->zaG ρ σ b\/H b=none
theorem Step.of {ρ:PEnv}{σ:St}{Fz Fz':FZ}{H H':Hp}(x:Ext Fz H Fz' H'):Step ρ σ Fz H Fz' H':=
 ⟨x.sub,λb h=>(x.new b h).elim .inl (λh=>.inr (.inl h)),λb o e _=>x.same b o e⟩
theorem Step.none {ρ:PEnv}{σ:St}{Fz Fz':FZ}{H H':Hp}(s:Step ρ σ Fz H Fz' H'){b:Addr}(h:H' b=Option.none):H b=Option.none\/zaG ρ σ b:=by
 by_cases o:zaG ρ σ b
 ·exact .inr o
 ·cases e:H b with
  | none=>exact .inl rfl
  | some u=>rw[s.keep b u e o]at h;cases h
theorem Step.trans {ρ ρ':PEnv}{σ σ':St}{F1 F2 F3:FZ}{H1 H2 H3:Hp}(a:Step ρ σ F1 H1 F2 H2)(oi:zaz ρ σ H1 ρ' σ')(b:Step ρ' σ' F2 H2 F3 H3):Step ρ σ F1 H1 F3 H3:=
 ⟨λc h=>b.sub c (a.sub c h),λc h=>by
  rcases b.new c h with h | h | h
  ·exact a.new c h
  ·exact .inr (a.none h)
  ·exact .inr ((oi c h).symm),λc o e n=>by
  refine b.keep c o (a.keep c o e n) λz=>?_;rcases oi c z with z | z
  ·exact n z
  ·rw[e]at z;cases z⟩
theorem zaz.trans {ρ ρ' ρ'':PEnv}{σ σ' σ'':St}{F1 F2:FZ}{H1 H2:Hp}(a:Step ρ σ F1 H1 F2 H2)(oi:zaz ρ σ H1 ρ' σ')(oj:zaz ρ' σ' H2 ρ'' σ''):zaz ρ σ H1 ρ'' σ'':=λc h=>by
 rcases oj c h with h | h
 ·exact oi c h
 ·exact(a.none h).symm
theorem zaz.refl (ρ:PEnv)(σ:St)(H:Hp):zaz ρ σ H ρ σ:=λ_ h=>.inl h
noncomputable def Ret (K:PySem.W.Frag)(ρ:PEnv)(σ:St)(H:Hp)(Fz':FZ)(H':Hp)(d:PV):Kd->V->Prop
 | .frz,v=>Den K Fz' H' d v
 | .new,v=>∃a,v=.ref a/\¬ Fz' a/\Own K Fz' H' d a/\(zaG ρ σ a\/H a=none)
 | .own _,_=>False
noncomputable def zct (K:PySem.W.Frag)(D:Ends)(ρ:PEnv)(σ:St)(Fz:FZ)(H:Hp):POut where
 nx:=λρ'=>∀σ' Fz' H',Step ρ σ Fz H Fz' H'->zaz ρ σ H ρ' σ'->Rel K Fz' ρ' σ' H'->D.nx σ' H'
 bk:=λρ'=>∀σ' Fz' H',Step ρ σ Fz H Fz' H'->zaz ρ σ H ρ' σ'->Rel K Fz' ρ' σ' H'->D.bk σ' H'
 ct:=λρ'=>∀σ' Fz' H',Step ρ σ Fz H Fz' H'->zaz ρ σ H ρ' σ'->Rel K Fz' ρ' σ' H'->D.ct σ' H'
 rt:=λd k=>∀v Fz' H',Step ρ σ Fz H Fz' H'->(∀b,Fz' b->H' b≠none)->Ret K ρ σ H Fz' H' d k v->D.rt v H'
noncomputable def zlz (K:PySem.W.Frag)(t:TPS):TS:=λD σ H=>∃ρ Fz,Rel K Fz ρ σ H/\t ρ (zct K D ρ σ Fz H)
structure PuS (X:Cx)(st:Stmt)(t:TPS):Prop where
 mono:∀ρ O O',O.le O'->t ρ O->t ρ O'
 run:PS X st (zlz X.K t)
structure PuSs (X:Cx)(st:List Stmt)(t:TPS):Prop where
 mono:∀ρ O O',O.le O'->t ρ O->t ρ O'
 run:PSs X st (zlz X.K t)
theorem PS.weak {X:Cx}{e:Stmt}{t t':TS}(h:PS X e t)(w:∀D σ H,t' D σ H->t D σ H):PS X e t':=λpins s σ H D I q=>h pins s σ H D I (w D σ H q)
theorem PSs.weak {X:Cx}{e:List Stmt}{t t':TS}(h:PSs X e t)(w:∀D σ H,t' D σ H->t D σ H):PSs X e t':=λpins s σ H D I q=>h pins s σ H D I (w D σ H q)
theorem zlA {K:PySem.W.Frag}{D D':Ends}{ρ ρ':PEnv}{σ σ':St}{Fz Fz':FZ}{H H':Hp}(s:Step ρ σ Fz H Fz' H')(oi:zaz ρ σ H ρ' σ')(h1:∀σ H,D.nx σ H->D'.nx σ H)(h2:∀v H,D.rt v H->D'.rt v H)(h3:∀σ H,D.bk σ H->D'.bk σ H)(h4:∀σ H,D.ct σ H->D'.ct σ H) :
  (zct K D ρ σ Fz H).le (zct K D' ρ' σ' Fz' H') where
 nx ρ2 q σ2 F2 H2 s2 o2 R2:=h1 _ _ (q σ2 F2 H2 (s.trans oi s2) (zaz.trans s oi o2) R2)
 bk ρ2 q σ2 F2 H2 s2 o2 R2:=h3 _ _ (q σ2 F2 H2 (s.trans oi s2) (zaz.trans s oi o2) R2)
 ct ρ2 q σ2 F2 H2 s2 o2 R2:=h4 _ _ (q σ2 F2 H2 (s.trans oi s2) (zaz.trans s oi o2) R2)
 rt d k q v F2 H2 s2 al r:=h2 _ _ (q v F2 H2 (s.trans oi s2) al (by
  cases k with
  | frz=>exact r
  | own i=>exact r
  | new=>
   obtain⟨a,e,nf,o,w⟩:=r;refine⟨a,e,nf,o,?_⟩;rcases w with w | w
   ·exact oi a w
   ·exact(s.none w).symm))
theorem zbd {K:PySem.W.Frag}{D:Ends}{ρ ρ':PEnv}{σ σ':St}{Fz Fz':FZ}{H H':Hp}(s:Step ρ σ Fz H Fz' H')(oi:zaz ρ σ H ρ' σ'):(zct K D ρ σ Fz H).le (zct K D ρ' σ' Fz' H'):=
 zlA s oi (λ_ _ h=>h) (λ_ _ h=>h) (λ_ _ h=>h) (λ_ _ h=>h)
section
variable {X:Cx}{st:Stmt}{rest:List Stmt}{t u:TPS}{e:Expr}{te:TPE}{pos:Pos}
noncomputable def zei:TPS:=λρ O=>O.nx ρ
noncomputable def pSeq (t u:TPS):TPS:=λρ O=>t ρ { O with nx:=Hold u O }
theorem zam:PuSs X [] zei where
 mono ρ O O' m h:=m.nx _ h
 run:=PSs.weak zgA λD σ H h=>by
  obtain⟨ρ,Fz,R,h⟩:=h;exact h σ Fz H (.of ⟨Same.refl H,λ_ h=>h,λ_ h=>.inl h,R.al⟩) (zaz.refl ρ σ H) R
theorem zag (h1:PuS X st t):PuSs X [st] t:=⟨h1.mono,zgB h1.run⟩
theorem zae (h1:PuS X st t)(h2:PuSs X rest u):PuSs X (st::rest) (pSeq t u) where
 mono ρ O O' m h:=h1.mono ρ { O with nx:=λρ'=>u ρ' O } _ ⟨λρ' q=>h2.mono ρ' _ _ m q,m.rt,m.bk,m.ct⟩ h
 run:=PSs.weak (zbr h1.run h2.run) λD σ H h=>by
  obtain⟨ρ,Fz,R,h⟩:=h;refine⟨ρ,Fz,R,h1.mono ρ { zct X.K D ρ σ Fz H with nx:=λρ'=>u ρ' (zct X.K D ρ σ Fz H) } _ ⟨λρ' q=>?_,λ_ _ q=>q,λ_ q=>q,λ_ q=>q⟩ h⟩;intro σ' Fz' H' s oi R';exact⟨ρ',Fz',R',h2.mono ρ' _ _ (zbd s oi) q⟩
noncomputable def pRet (te:TPE):TPS:=λρ O=>te ρ λd k=>O.rt d (match k with | .frz=>.frz | _=>.new)
theorem zah (he:PuE X e te):PuS X (.Return (some e) pos) (pRet te) where
 mono ρ O O' m h:=he.mono ρ _ _ (λ_ _ q=>m.rt _ _ q) h
 run:=PS.weak (zmo he.run) λD σ H h=>by
  obtain⟨ρ,Fz,R,h⟩:=h;refine⟨ρ,Fz,R,he.mono ρ _ _ (λd k q v Fz' H' p=>q v Fz' H' (.of p.ext) p.ext.al ?_) h⟩;cases k with
  | frz=>exact p.opd
  | new=>obtain⟨a,e,hn,nf,o⟩:=p.opd;exact⟨a,e,nf,o,.inr hn⟩
  | own i=>
   obtain⟨h1,h2⟩:=p.opd;obtain⟨a,e,nf,o⟩:=(R.ext p.ext).own i d h1;rw[h2]at e;cases e;exact⟨a,rfl,nf,o,.inl ⟨i,d,h1,h2⟩⟩
noncomputable def pIf (c:TPT)(t u:TPS):TPS:=λρ O=>c ρ λb=>if b=true then Hold t O ρ else Hold u O ρ
theorem zaF {c:Expr}{a b:List Stmt}{tc:TPT}(hc:PuT X c tc)(ha:PuSs X a t)(hb:PuSs X b u):PuS X (.If c a b pos) (pIf tc t u) where
 mono ρ O O' m h:=hc.mono ρ _ _ (λd q=>by
  cases d with
  | true=>rw[if_pos rfl]at q ⊢;exact ha.mono ρ _ _ m q
  | false=>rw[if_neg Bool.false_ne_true]at q ⊢;exact hb.mono ρ _ _ m q) h
 run:=PS.weak (zlj hc.run ha.run hb.run) λD σ H h=>by
  obtain⟨ρ,Fz,R,h⟩:=h;refine⟨ρ,Fz,R,hc.mono ρ _ _ (λd q Fz' H' x=>?_) h⟩;cases d with
  | true=>
   rw[if_pos rfl]at q ⊢;exact⟨ρ,Fz',R.ext x,ha.mono ρ _ _ (zbd (.of x) (zaz.refl ρ σ H)) q⟩
  | false=>
   rw[if_neg Bool.false_ne_true]at q ⊢;exact⟨ρ,Fz',R.ext x,hb.mono ρ _ _ (zbd (.of x) (zaz.refl ρ σ H)) q⟩
noncomputable def zjB (i:Nat)(ρ:PEnv):PEnv:=match ρ[i]? with
 | some (some (d,true))=>ρ.set i (some (d,false))
 | _=>ρ
noncomputable def pFrz (i:Nat)(t:TPS):TPS:=λρ O=>t (zjB i ρ) O
end
section
variable {K:PySem.W.Frag}{Fz:FZ}{ρ:PEnv}{σ:St}{H:Hp}
theorem Rel.set {i:Nat}{d:PV}{v:V}(R:Rel K Fz ρ σ H)(h:Den K Fz H d v):Rel K Fz (ρ.set i (some (d,false))) (σ.set i (some v)) H where
 al:=R.al
 len:=by rw[List.length_set,List.length_set];exact R.len
 frz j e he:=by
  by_cases hij:i=j
  ·subst hij;by_cases hi:i<ρ.length
   ·rw[List.getElem?_set_self hi]at he;cases he;exact⟨v,by rw[List.getElem?_set_self (by rw[<- R.len];exact hi)],h⟩
   ·rw[List.set_eq_of_length_le (by lia),List.getElem?_eq_none (by lia)]at he;cases he
  ·rw[List.getElem?_set_ne hij]at he ⊢;exact R.frz j e he
 own j e he:=by
  by_cases hij:i=j
  ·subst hij;by_cases hi:i<ρ.length
   ·rw[List.getElem?_set_self hi]at he;cases he
   ·rw[List.set_eq_of_length_le (by lia),List.getElem?_eq_none (by lia)]at he;cases he
  ·rw[List.getElem?_set_ne hij]at he ⊢;exact R.own j e he
 inj j k d' e a h1 h2 h3 h4:=by
  have nj:i≠j:=λz=>by
   subst z;by_cases hi:i<ρ.length
   ·rw[List.getElem?_set_self hi]at h1;cases h1
   ·rw[List.set_eq_of_length_le (by lia),List.getElem?_eq_none (by lia)]at h1;cases h1
  have nk:i≠k:=λz=>by
   subst z;by_cases hi:i<ρ.length
   ·rw[List.getElem?_set_self hi]at h2;cases h2
   ·rw[List.set_eq_of_length_le (by lia),List.getElem?_eq_none (by lia)]at h2;cases h2
  rw[List.getElem?_set_ne nj]at h1 h3;rw[List.getElem?_set_ne nk]at h2 h4;exact R.inj j k d' e a h1 h2 h3 h4
theorem zeX {i:Nat}{d:PV}{v:V}:∀b,zaG (ρ.set i (some (d,false))) (σ.set i (some v)) b->zaG ρ σ b:=λb ⟨j,e,h1,h2⟩=>by
 have nj:i≠j:=λz=>by
  subst z;by_cases hi:i<ρ.length
  ·rw[List.getElem?_set_self hi]at h1;cases h1
  ·rw[List.set_eq_of_length_le (by lia),List.getElem?_eq_none (by lia)]at h1;cases h1
 rw[List.getElem?_set_ne nj]at h1 h2;exact⟨j,e,h1,h2⟩
theorem Rel.zmv {i:Nat}{d:PV}{a:Addr}(R:Rel K Fz ρ σ H)(nf:¬ Fz a)(h:Own K Fz H d a)(hno:¬ zaG ρ σ a):Rel K Fz (ρ.set i (some (d,true))) (σ.set i (some (.ref a))) H where
 al:=R.al
 len:=by rw[List.length_set,List.length_set];exact R.len
 frz j e he:=by
  by_cases hij:i=j
  ·subst hij;by_cases hi:i<ρ.length
   ·rw[List.getElem?_set_self hi]at he;cases he
   ·rw[List.set_eq_of_length_le (by lia),List.getElem?_eq_none (by lia)]at he;cases he
  ·rw[List.getElem?_set_ne hij]at he ⊢;exact R.frz j e he
 own j e he:=by
  by_cases hij:i=j
  ·subst hij;by_cases hi:i<ρ.length
   ·rw[List.getElem?_set_self hi]at he;cases he;exact⟨a,by rw[List.getElem?_set_self (by rw[<- R.len];exact hi)],nf,h⟩
   ·rw[List.set_eq_of_length_le (by lia),List.getElem?_eq_none (by lia)]at he;cases he
  ·rw[List.getElem?_set_ne hij]at he ⊢;exact R.own j e he
 inj j k d' e b h1 h2 h3 h4:=by
  by_cases hj:i=j
  ·by_cases hk:i=k
   ·rw[<- hj,<- hk]
   ·subst hj;rw[List.getElem?_set_ne hk]at h2 h4;by_cases hi:i<σ.length
    ·rw[List.getElem?_set_self hi]at h3;cases h3;exact absurd ⟨k,e,h2,h4⟩ hno
    ·rw[List.set_eq_of_length_le (by lia),List.getElem?_eq_none (by lia)]at h3;cases h3
  ·by_cases hk:i=k
   ·subst hk;rw[List.getElem?_set_ne hj]at h1 h3;by_cases hi:i<σ.length
    ·rw[List.getElem?_set_self hi]at h4;cases h4;exact absurd ⟨j,d',h1,h3⟩ hno
    ·rw[List.set_eq_of_length_le (by lia),List.getElem?_eq_none (by lia)]at h4;cases h4
   ·rw[List.getElem?_set_ne hj]at h1 h3;rw[List.getElem?_set_ne hk]at h2 h4;exact R.inj j k d' e b h1 h2 h3 h4
theorem zet {i:Nat}{d:PV}{a:Addr}:∀b,zaG (ρ.set i (some (d,true))) (σ.set i (some (.ref a))) b->b=a\/zaG ρ σ b:=λb ⟨j,e,h1,h2⟩=>by
 by_cases hij:i=j
 ·subst hij;by_cases hi:i<σ.length
  ·rw[List.getElem?_set_self hi]at h2;cases h2;exact .inl rfl
  ·rw[List.set_eq_of_length_le (by lia),List.getElem?_eq_none (by lia)]at h2;cases h2
 ·rw[List.getElem?_set_ne hij]at h1 h2;exact .inr ⟨j,e,h1,h2⟩
theorem Rel.frozen {i:Nat}(R:Rel K Fz ρ σ H):∃Fz',Rel K Fz' (zjB i ρ) σ H/\Step ρ σ Fz H Fz' H/\zaz ρ σ H (zjB i ρ) σ:=by
 unfold zjB;split
 ·rename_i d he
  obtain⟨a,e,nf,o⟩:=R.own i d he;have R2:Rel K (λb=>Fz b\/b=a) (ρ.set i (some (d,false))) (σ.set i (some (.ref a))) H:=by
   have hno:∀j d',i≠j->ρ[j]? = some (some (d',true))->σ[j]?≠some (some (.ref a)):=λj d' hne h1 h2=>hne (R.inj i j d d' a he h1 e h2);have hal:∀b,(Fz b\/b=a)->H b≠none:=λb hb=>by
    rcases hb with hb | rfl
    ·exact R.al b hb
    ·obtain⟨o',q,_⟩:=o.at;rw[q];exact λz=>nomatch z
   refine⟨hal,by rw[List.length_set,List.length_set];exact R.len,λj e' he'=>?_,λj e' he'=>?_,λj k d' e' b h1 h2 h3 h4=>?_⟩
   ·by_cases hij:i=j
    ·subst hij;have hi:i<ρ.length:=(List.getElem?_eq_some_iff.mp he).1;rw[List.getElem?_set_self hi]at he';cases he';exact⟨_,by rw[List.getElem?_set_self (by rw[<- R.len];exact hi)],(o.mono (Fz':=λb=>Fz b\/b=a) (Keep.of (Same.refl _)) (λ_ h=>.inl h) (λ_ h=>h)).den (.inr rfl)⟩
    ·rw[List.getElem?_set_ne hij]at he' ⊢;obtain⟨v,q1,q2⟩:=R.frz j e' he';exact⟨v,q1,Den.mono (Keep.of (Same.refl _)) (λ_ h=>.inl h) _ _ q2⟩
   ·have hij:i≠j:=λz=>by
     subst z;have hi:i<ρ.length:=(List.getElem?_eq_some_iff.mp he).1;rw[List.getElem?_set_self hi]at he';cases he'
    rw[List.getElem?_set_ne hij]at he' ⊢;obtain⟨b,q1,q2,q3⟩:=R.own j e' he';refine⟨b,q1,λz=>?_,q3.mono (Keep.of (Same.refl _)) (λ_ h=>.inl h) (λ_ h=>h)⟩;rcases z with z | z
    ·exact q2 z
    ·subst z;exact hno j e' hij he' q1
   ·have hi:i<ρ.length:=(List.getElem?_eq_some_iff.mp he).1;have nj:i≠j:=λz=>by subst z;rw[List.getElem?_set_self hi]at h1;cases h1
    have nk:i≠k:=λz=>by subst z;rw[List.getElem?_set_self hi]at h2;cases h2
    rw[List.getElem?_set_ne nj]at h1 h3;rw[List.getElem?_set_ne nk]at h2 h4;exact R.inj j k d' e' b h1 h2 h3 h4
  have es:σ.set i (some (.ref a))=σ:=List.ext_getElem? λj=>by
   by_cases hij:i=j
   ·subst hij;rw[List.getElem?_set_self (List.getElem?_eq_some_iff.mp e).1,e]
   ·rw[List.getElem?_set_ne hij]
  refine⟨λb=>Fz b\/b=a,by rw[es]at R2;exact R2,⟨λ_ h=>.inl h,λb hb=>?_,λb o e _=>e⟩,λb hb=>?_⟩
  ·rcases hb with hb | rfl
   ·exact .inl hb
   ·exact .inr (.inr ⟨i,d,he,e⟩)
  ·have:=zeX (ρ:=ρ) (σ:=σ) (i:=i) (d:=d) (v:=.ref a) b (by rw[es];exact hb);exact .inl this
 ·exact⟨Fz,R,.of ⟨Same.refl H,λ_ h=>h,λ_ h=>.inl h,R.al⟩,zaz.refl ρ σ H⟩
end
section
variable {X:Cx}{st:Stmt}{sts:List Stmt}{t:TPS}
theorem znt (i:Nat)(h:PuS X st t):PuS X st (pFrz i t) where
 mono ρ O O' m q:=h.mono _ _ _ m q
 run:=PS.weak h.run λD σ H q=>by
  obtain⟨ρ,Fz,R,q⟩:=q;obtain⟨F2,R2,s2,o2⟩:=R.frozen (i:=i);exact⟨_,F2,R2,h.mono _ _ _ (zbd s2 o2) q⟩
end
noncomputable def pSet (i:Nat)(te:TPE):TPS:=λρ O=>te ρ λd k=>match k with
 | .frz=>O.nx (ρ.set i (some (d,false)))
 | .new=>O.nx (ρ.set i (some (d,true)))
 | .own _=>False
theorem zlB {X:Cx}{e:Expr}{te:TPE}{i:Nat}(he:PuE X e te){D:Ends}{σ:St}{H:Hp}(h:zlz X.K (pSet i te) D σ H):tAsg (lift X.K te) (zlk i) D σ H:=by
 obtain⟨ρ,Fz,R,h⟩:=h;refine⟨ρ,Fz,R,he.mono ρ _ _ (λd k q v Fz' H' p=>?_) h⟩;show D.nx (σ.set i (some v)) H';have R':=R.ext p.ext;cases k with
 | frz=>exact(show(zct X.K D ρ σ Fz H).nx (ρ.set i (some (d,false))) from q) _ Fz' H' (.of p.ext) (λb hb=>.inl (zeX b hb)) (R'.set p.opd)
 | own j=>exact q.elim
 | new=>
  obtain⟨a,e,hn,nf,o⟩:=p.opd;subst e;have hno:¬ zaG ρ σ a:=λ⟨j,e,h1,h2⟩=>by
   obtain⟨b,q1,_,q2⟩:=R.own j e h1;rw[h2]at q1;cases q1;obtain⟨o',q3,_⟩:=q2.at;rw[hn]at q3;cases q3
  refine(show(zct X.K D ρ σ Fz H).nx (ρ.set i (some (d,true))) from q) _ Fz' H' (.of p.ext) (λb hb=>?_) (R'.zmv nf o hno);rcases zet b hb with rfl | hb
  ·exact .inr hn
  ·exact .inl hb
theorem zjC {X:Cx}{e:Expr}{te:TPE}{i:Nat}(he:PuE X e te):∀ρ O O',POut.le O O'->pSet i te ρ O->pSet i te ρ O':=λρ O O' m h=>he.mono ρ _ _ (λd k q=>by
 cases k with
 | frz=>exact m.nx _ q
 | new=>exact m.nx _ q
 | own j=>exact q) h
section
variable {X:Cx}{e:Expr}{te:TPE}{pos:Pos}
theorem zak {i:Nat}{x:Str}{pos':Pos}(hN:X.N.Nodup)(hi:X.N[i]? = some x)(hx:Loc X.env.scope x)(he:PuE X e te)(hs:autoParam (swapsWith e (some (.Name x pos')) pos.line X.env=pure false) aU0)(hf:autoParam (X.fn x=true\/X.env.scope.names.lookup x=some .local) aU4) :
  PuS X (.Assign [.Name x pos'] e pos) (pSet i te):=
 ⟨zjC he,PS.weak (zfx hN hi hx he.run hs hf) λ_ _ _ h=>zlB he h⟩
end
noncomputable abbrev TPG:=PV->PEnv->(PEnv->Prop)->Prop
noncomputable def zfT (K:PySem.W.Frag)(t:TPG):TG:=λv σ H Q=>∃ρ Fz d,Rel K Fz ρ σ H/\Den K Fz H d v/\t d ρ λρ'=>∀σ',Rel K Fz ρ' σ' H->(∀b,zaG ρ' σ' b->zaG ρ σ b)->Q σ' H
structure PuG (X:Cx)(tg:Expr)(t:TPG):Prop where
 mono:∀d ρ Q Q',(∀ρ,Q ρ->Q' ρ)->t d ρ Q->t d ρ Q'
 run:PG X tg (zfT X.K t)
theorem PG.weak {X:Cx}{e:Expr}{t t':TG}(h:PG X e t)(w:∀v σ H Q,t' v σ H Q->t v σ H Q):PG X e t':=λpins s σ H v u Q I r q=>h pins s σ H v u Q I r (w v σ H Q q)
noncomputable def zcn (i:Nat):TPG:=λd ρ Q=>Q (ρ.set i (some (d,false)))
section
variable {X:Cx}{pos:Pos}
theorem zau {i:Nat}{x:Str}(hN:X.N.Nodup)(hi:X.N[i]? = some x)(hx:Loc X.env.scope x)(hf:autoParam (X.fn x=true\/X.env.scope.names.lookup x=some .local) aU4):PuG X (.Name x pos) (zcn i) where
 mono d ρ Q Q' m h:=m _ h
 run:=PG.weak (zmX hN hi hx hf) λv σ H Q h=>by
  obtain⟨ρ,Fz,d,R,hd,h⟩:=h;exact h _ (R.set hd) (λb hb=>zeX b hb)
end
noncomputable def LocG (k:Nat)(t:TPG):Prop:=∀d ρ Q,t d ρ Q->t d ρ λρ'=>Q ρ'/\ρ'.length=ρ.length/\∀j,k<=j->ρ'[j]? = ρ[j]?
theorem zaO {k i:Nat}(h:i<k):LocG k (zcn i):=λd ρ Q q=>⟨q,by rw[List.length_set],λj hj=>by rw[List.getElem?_set_ne (by lia)]⟩
noncomputable abbrev TPI:=PEnv->(List PV->Bool->Prop)->Prop
noncomputable def Walk (K:PySem.W.Frag)(Fz:FZ)(o:Bool)(J:It)(its:List PV)(H:Hp):Prop:=∀H2,(Same H H2\/(o=false/\zju Fz H H2))->∀i:Nat,
 (∀d,its[i]? = some d->J.go i H2/\∀x H3,J.yld i H2 x H3->Same H2 H3/\Den K Fz H3 d x)/\(its.length<=i->J.stop i H2)
noncomputable def zpb (K:PySem.W.Frag)(t:TPI):TI:=λσ H R=>∃ρ Fz,Rel K Fz ρ σ H/\t ρ λits o=>∀J Fz' H',Ext Fz H Fz' H'->Walk K Fz' o J its H'->R J H'
structure PuI (X:Cx)(tg iter:Expr)(t:TPI):Prop where
 mono:∀ρ Q Q',(∀its o,Q its o->Q' its o)->t ρ Q->t ρ Q'
 run:PI X tg iter (zpb X.K t)
theorem PI.weak {X:Cx}{tg e:Expr}{t t':TI}(h:PI X tg e t)(w:∀σ H Q,t' σ H Q->t σ H Q):PI X tg e t':=λpins s σ H Q I q=>h pins s σ H Q I (w σ H Q q)
noncomputable def isOwn:Kd->Bool
 | .own _=>true
 | _=>false
noncomputable def iLst (te:TPE):TPI:=λρ Q=>te ρ λd k=>∃ds,d=.lst ds/\Q ds (isOwn k)
noncomputable def zeY (te:TPE):TPI:=λρ Q=>te ρ λd k=>∃ds,d=.tup ds/\Q ds false
section
variable {X:Cx}{tg e:Expr}{te:TPE}
theorem zbt (he:PuE X e te):PuI X tg e (iLst te) where
 mono ρ Q Q' m h:=he.mono ρ _ _ (λd k q60q=>by obtain⟨ds,e,q⟩:=q60q;exact⟨ds,e,m _ _ q⟩) h
 run:=PI.weak (zmY he.run) λσ H Rr h=>by
  obtain⟨ρ,Fz,R,h⟩:=h;refine⟨ρ,Fz,R,he.mono ρ _ _ (λd k q v Fz' H' p=>?_) h⟩;obtain⟨ds,e,q⟩:=q;subst e;have rt:=p.root R;obtain⟨a,xs,rfl,h1,h2⟩:=zai rt;refine⟨a,rfl,⟨xs,h1⟩,?_⟩;have walk:∀(F2:FZ) (o:Bool),(∀b,Fz' b->F2 b)->(∀H2,(Same H' H2\/(o=false/\zju F2 H' H2))->SqL X.K H2 a xs/\Keep F2 H' H2)->Walk X.K F2 o (Itl X.K a) ds H':=λF2 o s2 st H2 hH i=>by
   obtain⟨g1,g2⟩:=st H2 hH;have g3:DenL X.K F2 H2 ds xs:=DenL.mono g2 (λ_ h=>h) _ _ (DenL.mono (Keep.of (Same.refl _)) s2 _ _ h2);have hl:=g3.length;refine⟨λd hd=>?_,λhi=>⟨xs,g1,by lia⟩⟩;obtain⟨v,q1,q2⟩:=g3.get hd;exact⟨⟨xs,v,g1,q1⟩,λx H3 ⟨e,y⟩=>by
    subst e;have:=y xs g1;rw[q1]at this;cases this;exact⟨Same.refl _,q2⟩⟩
  cases k with
  | own i=>exact q _ Fz' H' p.ext (walk Fz' true (λ_ h=>h) λH2 hH=>by
    rcases hH with hH | ⟨z,_⟩
    ·exact⟨hH.seq h1,.of hH⟩
    ·cases z)
  | frz=>
   have pd:Den X.K Fz' H' (.lst ds) (.ref a):=p.opd;simp only[Den]at pd;obtain⟨a',xs',e,h3,h4⟩:=pd;cases e;refine q _ Fz' H' p.ext ?_;intro H2 hH i;have kp:Keep Fz' H' H2:=hH.elim (λz=>.of z) (λz=>.mk' z.2);have g1:SqL X.K H2 a xs':=h3.elim (λh=>.inl (kp.rd trivial h.1 h.2)) KX.sq;have g3:DenL X.K Fz' H2 ds xs':=DenL.mono kp (λ_ h=>h) _ _ h4;have hl:=g3.length;refine⟨λd hd=>?_,λhi=>⟨xs',g1,by lia⟩⟩;obtain⟨v,q1,q2⟩:=g3.get hd;exact⟨⟨xs',v,g1,q1⟩,λx H3 ⟨e,y⟩=>by
    subst e;have:=y xs' g1;rw[q1]at this;cases this;exact⟨Same.refl _,q2⟩⟩
  | new=>
   obtain⟨b,e,hn,nf,o⟩:=p.opd;cases e;obtain⟨xs',o1,o2⟩:=o;refine q _ (λb=>Fz' b\/b=a) H' (p.ext.add hn (by rw[o1];exact λz=>nomatch z)) ?_;intro H2 hH i;have kp:Keep (λb=>Fz' b\/b=a) H' H2:=hH.elim (λz=>.of z) (λz=>.mk' z.2);have g1:SqL X.K H2 a xs':=.inl (kp.rd trivial (.inr rfl) (.inl o1));have g3:DenL X.K (λb=>Fz' b\/b=a) H2 ds xs':=DenL.mono kp (λ_ h=>h) _ _ (DenL.mono (Keep.of (Same.refl _)) (λ_ h=>.inl h) _ _ o2);have hl:=g3.length;refine⟨λd hd=>?_,λhi=>⟨xs',g1,by lia⟩⟩;obtain⟨v,q1,q2⟩:=g3.get hd;exact⟨⟨xs',v,g1,q1⟩,λx H3 ⟨e,y⟩=>by
    subst e;have:=y xs' g1;rw[q1]at this;cases this;exact⟨Same.refl _,q2⟩⟩
theorem zgJ (he:PuE X e te):PuI X tg e (zeY te) where
 mono ρ Q Q' m h:=he.mono ρ _ _ (λd k q64q=>by obtain⟨ds,e,q⟩:=q64q;exact⟨ds,e,m _ _ q⟩) h
 run:=PI.weak (zow he.run) λσ H Rr h=>by
  obtain⟨ρ,Fz,R,h⟩:=h;refine⟨ρ,Fz,R,he.mono ρ _ _ (λd k q v Fz' H' p=>?_) h⟩;obtain⟨ds,e,q⟩:=q;subst e;obtain⟨a,xs,rfl,h1,h2⟩:=zfO (p.root R);refine⟨a,rfl,⟨xs,SqT.of h1⟩,q _ Fz' H' p.ext ?_⟩;intro H2 hH i;have kp:Keep Fz' H' H2:=hH.elim (λz=>.of z) (λz=>.mk' z.2);have g1:SqT X.K H2 a xs:=kp.sqT h1;have g3:DenL X.K Fz' H2 ds xs:=DenL.mono kp (λ_ h=>h) _ _ h2;have hl:=g3.length;refine⟨λd hd=>?_,λhi=>⟨xs,g1,by lia⟩⟩;obtain⟨v,q1,q2⟩:=g3.get hd;exact⟨⟨xs,v,g1,q1⟩,λx H3 ⟨e,y⟩=>by
   subst e;have:=y xs g1;rw[q1]at this;cases this;exact⟨Same.refl _,q2⟩⟩
end
noncomputable def rngP (lo:Int)(n:Nat):List PV:=(List.range n).map λ(i:Nat)=>PV.int (lo+i)
theorem zdn (lo:Int)(n:Nat):(rngP lo n).length=n:=by simp[rngP]
theorem zdo {lo:Int}{n i:Nat}{d:PV}(h:(rngP lo n)[i]? = some d):i<n/\d=.int (lo+i):=by
 have hi:i<n:=by have:=(List.getElem?_eq_some_iff.mp h).1;rw[zdn]at this;exact this
 refine⟨hi,?_⟩;unfold rngP at h;rw[List.getElem?_map,List.getElem?_range hi]at h;exact(Option.some.inj h).symm
noncomputable def zbK (t:TPA):TPI:=λρ Q=>t ρ λops=>∃j:Int,ops.map (·.1)=[.int j]/\-(2 ^ 62)<=j/\j<2 ^ 62/\Q (rngP 0 j.toNat) false
theorem zlC {K:PySem.W.Frag}{Fz:FZ}{lo:Int}{n:Nat}{H:Hp}:Walk K Fz false (Itr lo n) (rngP lo n) H:=λH2 _ i=>by
 refine⟨λd hd=>?_,λhi=>by rw[zdn]at hi;exact hi⟩;obtain⟨h1,rfl⟩:=zdo hd;exact⟨h1,λx H3 q66q=>by obtain⟨e,y⟩:=q66q;subst e y;exact⟨Same.refl _,by simp only[Den]⟩⟩
section
variable {X:Cx}{tg a b:Expr}{t:TPA}{p pos:Pos}
theorem zcS (hg:Gl X "range") (hm:X.mg "range" = none) (ha:PuA X [a] t) (hs:autoParam (starEach [a] X.env=[(false,eval a X.env)]) aU0):PuI X tg (.Call (.Name "range" p) [a] [] pos) (zbK t) where
 mono ρ Q Q' m h:=ha.mono ρ _ _ (λops q67q=>by obtain⟨j,e,h1,h2,q⟩:=q67q;exact⟨j,e,h1,h2,m _ _ q⟩) h
 run:=PI.weak (zjb hg hm ha.run hs) λσ H Rr h=>by
  obtain⟨ρ,Fz,R,h⟩:=h;refine⟨ρ,Fz,R,ha.mono ρ _ _ (λops q vs Fz' H' x o=>?_) h⟩;obtain⟨j,e,h1,h2,q⟩:=q;have rl:=o.root R x;rw[e]at rl;cases rl with
  | cons r1 r2=>
   cases r2;exact⟨j,by rw[zaC r1],h1,h2,q _ Fz' H' x zlC⟩
end
noncomputable def pFor (ti:TPI)(g:TPG)(tb:TPS):TPS:=λρ O=>ti ρ λits o=>o=false/\∃Inv:Nat->PEnv->Prop,Inv 0 ρ/\
 (∀i d ρ',its[i]? = some d->Inv i ρ'->g d ρ' (Hold tb { O with nx:=Inv (i+1),ct:=Inv (i+1),bk:=O.nx }))/\∀ρ',Inv its.length ρ'->O.nx ρ'
theorem Step.kept {K:PySem.W.Frag}{ρ:PEnv}{σ:St}{Fz Fz':FZ}{H H':Hp}(R:Rel K Fz ρ σ H)(s:Step ρ σ Fz H Fz' H'):zju Fz H H':=λb o e w=>by
 refine s.keep b o e λ q68q=>?_;obtain⟨i,d,h1,h2⟩:=q68q;obtain⟨a,q1,q2,q3⟩:=R.own i d h1;rw[h2]at q1;cases q1;rcases w with w | w
 ·exact q2 w
 ·obtain⟨o',q4,q5⟩:=q3.at;rw[e]at q4;cases q4;exact q5 w
section
variable {X:Cx}{tg iter c:Expr}{body:List Stmt}{ti:TPI}{g:TPG}{tb:TPS}{tc:TPT}{pos:Pos}
theorem zlD (hgm:∀d ρ Q Q',(∀ρ,Q ρ->Q' ρ)->g d ρ Q->g d ρ Q')(hbm:∀ρ O O',POut.le O O'->tb ρ O->tb ρ O'){K:PySem.W.Frag}{ρ:PEnv}{σ:St}{Fz1:FZ}{H1:Hp}{D:Ends}{J:It}{its:List PV}{O:POut}(R1:Rel K Fz1 ρ σ H1)(wk:Walk K Fz1 false J its H1)(Iv:Nat->PEnv->Prop)(h0:Iv 0 ρ)
  (hstep:∀i d ρ',its[i]? = some d->Iv i ρ'->g d ρ' (Hold tb { O with nx:=Iv (i+1),ct:=Iv (i+1),bk:=O.nx })) (hO:O.le (zct K D ρ σ Fz1 H1)) (hdone:∀ρ',Iv its.length ρ'->O.nx ρ') :
  ∃W:Nat->Nat->St->Hp->Prop,(∃m,W 0 m σ H1)/\∀i m σ H,W i m σ H->
   (J.stop i H/\D.nx σ H)\/(J.go i H/\∃N:St->Hp->Prop,(∀σ' H',N σ' H'->∃m',m'<m/\W (i+1) m' σ' H')/\∀x H',J.yld i H x H'->zfT K g x σ H' λσ2 H2=>zlz K tb { D with nx:=N,ct:=N,bk:=D.nx } σ2 H2):=by
 refine⟨λi m σ' H'=>m=its.length-i/\i<=its.length/\∃ρ' F',Rel K F' ρ' σ' H'/\Iv i ρ'/\Step ρ σ Fz1 H1 F' H'/\zaz ρ σ H1 ρ' σ',
  ⟨its.length,by lia,Nat.zero_le _,ρ,Fz1,R1,h0,.of ⟨Same.refl _,λ_ h=>h,λ_ h=>.inl h,R1.al⟩,zaz.refl ρ σ H1⟩,?_⟩
 rintro i m σ' H' ⟨rfl,hle,ρ',F',R',hI,s',o'⟩;have kp:zju Fz1 H1 H':=s'.kept R1;obtain⟨wgo,wstop⟩:=wk H' (.inr ⟨rfl,kp⟩) i;by_cases hlt:i<its.length
 ·obtain⟨go,yl⟩:=wgo its[i] (List.getElem?_eq_getElem hlt);refine .inr ⟨go,λσ2 H2=>∃ρ2 F2,Rel K F2 ρ2 σ2 H2/\Iv (i+1) ρ2/\Step ρ σ Fz1 H1 F2 H2/\zaz ρ σ H1 ρ2 σ2,λσ2 H2 hN=>⟨its.length-(i+1),by lia,rfl,hlt,hN⟩,λxv H2 y=>?_⟩;obtain⟨sm,dn⟩:=yl xv H2 y;have x2:Ext F' H' F' H2:=⟨sm,λ_ h=>h,λ_ h=>.inl h,λb hb z=>R'.al b hb (sm.free z)⟩;refine⟨ρ',F',its[i],R'.ext x2,Den.mono (Keep.of (Same.refl _)) s'.sub _ _ dn,hgm _ ρ' _ _ (λρ2 q σ2 R2 o2=>?_) (hstep i its[i] ρ' (List.getElem?_eq_getElem hlt) hI)⟩;have so:zaz ρ σ H1 ρ2 σ2:=λb hb=>o' b (o2 b hb);have st:Step ρ σ Fz1 H1 F' H2:=s'.trans o' (.of x2);refine⟨ρ2,F',R2,hbm ρ2 { O with nx:=Iv (i+1),ct:=Iv (i+1),bk:=O.nx } _ ⟨λρ3 q σ3 F3 H3 s3 o3 R3=>?_,λd k q v F3 H3 s3 al r=>?_,λρ3 q σ3 F3 H3 s3 o3 R3=>?_,λρ3 q σ3 F3 H3 s3 o3 R3=>?_⟩ q⟩
  ·exact⟨ρ3,F3,R3,q,st.trans so s3,zaz.trans st so o3⟩
  ·refine hO.rt d k q v F3 H3 (st.trans so s3) al ?_;cases k with
   | frz=>exact r
   | own j=>exact r
   | new=>
    obtain⟨a,e,nf,ow,w⟩:=r;refine⟨a,e,nf,ow,?_⟩;rcases w with w | w
    ·exact so a w
    ·exact(st.none w).symm
  ·exact hO.nx ρ3 q σ3 F3 H3 (st.trans so s3) (zaz.trans st so o3) R3
  ·exact⟨ρ3,F3,R3,q,st.trans so s3,zaz.trans st so o3⟩
 ·have e:i=its.length:=by lia
  subst e;exact .inl ⟨wstop (Nat.le_refl _),hO.nx ρ' (hdone ρ' hI) σ' F' H' s' o' R'⟩
theorem zjD (him:∀ρ Q Q',(∀its o,Q its o->Q' its o)->ti ρ Q->ti ρ Q')(hgm:∀d ρ Q Q',(∀ρ,Q ρ->Q' ρ)->g d ρ Q->g d ρ Q')(hbm:∀ρ O O',POut.le O O'->tb ρ O->tb ρ O'):∀ρ O O',POut.le O O'->pFor ti g tb ρ O->pFor ti g tb ρ O':=λρ O O' m h=>
 him ρ _ _ (λits o q69q=>by obtain⟨e,I,h0,hs,hd⟩:=q69q;exact⟨e,I,h0,λi d ρ' hi hI=>hgm d ρ' _ _ (λρ2 q=>hbm ρ2 { O with nx:=I (i+1),ct:=I (i+1),bk:=O.nx } _ ⟨λ_ q=>q,m.rt,m.nx,λ_ q=>q⟩ q) (hs i d ρ' hi hI),λρ' hI=>m.nx _ (hd ρ' hI)⟩) h
theorem zdK (hc:X.calm=true)(hp:PassesOwn (model X.prog X.w) X.A X.env X.xe)(hi:PuI X tg iter ti)(hg:PuG X tg g)(hb:PuSs X body tb)(hs:autoParam (∀x,foldedSetIterable iter X.env x=pure x) aU3):PuS X (.For tg iter body [] pos) (pFor ti g tb) where
 mono:=zjD hi.mono hg.mono hb.mono
 run:=PS.weak (zox hp hc hi.run hg.run hb.run hs) λD σ H h=>by
  obtain⟨ρ,Fz,R,h⟩:=h;refine⟨ρ,Fz,R,hi.mono ρ _ _ (λits o q J Fz1 H1 x wk=>?_) h⟩;obtain⟨rfl,Iv,h0,hstep,hdone⟩:=q;exact zlD hg.mono hb.mono (R.ext x) wk Iv h0 hstep (zbd (.of x) (zaz.refl ρ σ H)) hdone
end
theorem _root_.L2.Same.upd' {H H':Hp}{l:Addr}{o:HO}(s:Same H H')(h:H l=none):Same H (L2.upd H' l o):=λb u e=>by
 rw[zao (zav e h)];exact s b u e
structure PuTs (X:Cx)(ifs:List Expr)(t:TPT):Prop where
 mono:∀ρ Q Q',(∀b,Q b->Q' b)->t ρ Q->t ρ Q'
 run:PTs X ifs (liftT X.K t)
noncomputable def zdh:TPT:=λ_ Q=>Q true
theorem PTs.weak {X:Cx}{e:List Expr}{t t':TT}(h:PTs X e t)(w:∀σ H Q,t' σ H Q->t σ H Q):PTs X e t':=λpins s σ H Q I q=>h pins s σ H Q I (w σ H Q q)
theorem zbh {X:Cx}:PuTs X [] zdh where
 mono ρ Q Q' m h:=m _ h
 run:=PTs.weak znk λσ H Q h=>by
  obtain⟨ρ,Fz,R,h⟩:=h;exact h Fz H ⟨Same.refl H,λ_ h=>h,λ_ h=>.inl h,R.al⟩
theorem zlE {X:Cx}{c:Expr}{t:TPT}(h:PuT X c t):PuTs X [c] t:=⟨h.mono,znl h.run⟩
noncomputable def blkP (k:Nat)(js:List Nat)(ρ:PEnv):PEnv:=List.replicate k none++js.map λj=>(ρ[j]?).getD none
noncomputable def zdi (k:Nat)(js:List Nat)(ti:TPI)(g:TPG)(tt:TPT)(te:TPE):TPE:=λρ Q=>ti ρ λits _=>its.length<=sizeLine/\∃Pv:Nat->List PV->Prop,Pv 0 []/\
 (∀i d out,its[i]? = some d->out.length<=i->Pv i out->g d (blkP k js ρ) λρ2=>tt ρ2 λb=>if b=true then te ρ2 λe ke=>isOwn ke=false/\Pv (i+1) (out++[e]) else Pv (i+1) out)/\
 ∀out,out.length<=its.length->Pv its.length out->Q (.lst out) .new
structure PBlk (X:Cx)(N:List Str)(sc:Scope)(tg:Expr)(ifs:List Expr)(elt:Expr)(g:TPG)(tt:TPT)(te:TPE):Prop where
 tgt:∀C cells fp s H,PuG (cxB X N sc C cells fp s H) tg g
 tst:∀C cells fp s H,PuTs (cxB X N sc C cells fp s H) ifs tt
 val:∀C cells fp s H,PuE (cxB X N sc C cells fp s H) elt te
theorem PBlk.blk {X:Cx}{N:List Str}{sc:Scope}{tg:Expr}{ifs:List Expr}{elt:Expr}{g:TPG}{tt:TPT}{te:TPE}(B:PBlk X N sc tg ifs elt g tt te):Blk X N sc tg ifs elt (zfT X.K g) (liftT X.K tt) (lift X.K te):=
 ⟨λC cells fp s H=>(B.tgt C cells fp s H).run,λC cells fp s H=>(B.tst C cells fp s H).run,λC cells fp s H=>(B.val C cells fp s H).run⟩
theorem zbY {k:Nat}{js:List Nat}{ρ:PEnv}{i:Nat}{d:PV}{b:Bool}(h:(blkP k js ρ)[i]? = some (some (d,b))):∃i' j,i=k+i'/\js[i']? = some j/\ρ[j]? = some (some (d,b)):=by
 unfold blkP at h;have hik:k<=i:=by
  by_cases hik:k<=i
  ·exact hik
  ·rw[List.getElem?_append_left (by simp;lia),List.getElem?_replicate]at h;split at h<;>cases h
 obtain⟨i',rfl⟩:∃i',i=k+i':=⟨i-k,by lia⟩;rw[List.getElem?_append_right (by simp),List.length_replicate,show k+i'-k=i' by lia,List.getElem?_map]at h;cases hj:js[i']? with
 | none=>rw[hj]at h;cases h
 | some j=>
  rw[hj]at h;refine⟨i',j,rfl,hj,?_⟩;have h':(ρ[j]?).getD none=some (d,b):=Option.some.inj h;cases q:ρ[j]? with
  | none=>rw[q]at h';cases h'
  | some o=>rw[q]at h';exact congrArg some h'
theorem zbZ {k:Nat}{js:List Nat}{σ:St}{i' j:Nat}{o:Option V}(hj:js[i']? = some j)(h:σ[j]? = some o):(zbV k js σ)[k+i']? = some o:=by
 unfold zbV;rw[List.getElem?_append_right (by simp),List.length_replicate,show k+i'-k=i' by lia,List.getElem?_map,hj];show some ((σ[j]?).getD none)=_;rw[h];rfl
theorem Rel.block {K:PySem.W.Frag}{Fz:FZ}{ρ:PEnv}{σ:St}{H:Hp}{k:Nat}{js:List Nat}(R:Rel K Fz ρ σ H)(nd:js.Nodup):Rel K Fz (blkP k js ρ) (zbV k js σ) H where
 al:=R.al
 len:=by unfold blkP zbV;simp
 frz i d h:=by
  obtain⟨i',j,rfl,hj,h⟩:=zbY h;obtain⟨v,e,q⟩:=R.frz j d h;exact⟨v,zbZ hj e,q⟩
 own i d h:=by
  obtain⟨i',j,rfl,hj,h⟩:=zbY h;obtain⟨a,e,n,q⟩:=R.own j d h;exact⟨a,zbZ hj e,n,q⟩
 inj i1 i2 d e a h1 h2 h3 h4:=by
  obtain⟨i',j,rfl,hj,h1⟩:=zbY h1;obtain⟨i'',j',rfl,hj',h2⟩:=zbY h2;obtain⟨a1,e1,_,_⟩:=R.own j d h1;obtain⟨a2,e2,_,_⟩:=R.own j' e h2;rw[zbZ hj e1]at h3;rw[zbZ hj' e2]at h4;have ea1:a1=a:=by have:=Option.some.inj (Option.some.inj h3);injection this
  have ea2:a2=a:=by have:=Option.some.inj (Option.some.inj h4);injection this
  subst ea1;subst ea2;have ej:=R.inj j j' d e _ h1 h2 e1 e2;subst ej;have l1:i'<js.length:=(List.getElem?_eq_some_iff.mp hj).1;have e1':i'=i'':=(List.getElem?_inj l1 nd).mp (hj.trans hj'.symm);rw[e1']
theorem zjE {ρ:PEnv}{σ:St}{k:Nat}{js:List Nat}{Fz:FZ}{K:PySem.W.Frag}{H:Hp}(R:Rel K Fz ρ σ H){b:Addr}(h:zaG (blkP k js ρ) (zbV k js σ) b):zaG ρ σ b:=by
 obtain⟨i,d,h1,h2⟩:=h;obtain⟨i',j,rfl,hj,h1⟩:=zbY h1;obtain⟨a1,e1,_,_⟩:=R.own j d h1;rw[zbZ hj e1]at h2;cases h2;exact⟨j,d,h1,e1⟩
theorem Rel.zgK {K:PySem.W.Frag}{Fz:FZ}{ρ ρ':PEnv}{σ:St}{H:Hp}{k:Nat}{js:List Nat}(R:Rel K Fz ρ' σ H)(hl:ρ'.length=(blkP k js ρ).length)(hs:∀j,k<=j->ρ'[j]? = (blkP k js ρ)[j]?):Rel K Fz (blkP k js ρ) σ H:=by
 have tr:∀i d b,(blkP k js ρ)[i]? = some (some (d,b))->ρ'[i]? = some (some (d,b)):=λi d b h=>by
  obtain⟨i',j,rfl,_⟩:=zbY h;rw[hs _ (by lia)];exact h
 exact⟨R.al,by rw[<- hl];exact R.len,λi d h=>R.frz i d (tr _ _ _ h),λi d h=>R.own i d (tr _ _ _ h),λi j d e a h1 h2=>R.inj i j d e a (tr _ _ _ h1) (tr _ _ _ h2)⟩
theorem Rel.other {K:PySem.W.Frag}{Fz:FZ}{ρ:PEnv}{σ:St}{H:Hp}{l:Addr}{o u:HO}(R:Rel K Fz ρ σ H)(h:H l=some u)(hi:¬ Imm u)(nf:¬ Fz l)(no:¬ zaG ρ σ l):Rel K Fz ρ σ (upd H l o):=by
 have kp:Keep Fz H (upd H l o):=.mk' λb w e hw=>by
  have ne:b≠l:=λz=>by
   subst z;rcases hw with hw | hw
   ·exact nf hw
   ·rw[h]at e;cases e;exact hi hw
  rw[zao ne];exact e
 refine⟨λb hb=>?_,R.len,λi d e=>?_,λi d e=>?_,R.inj⟩
 ·have ne:b≠l:=λz=>by subst z;exact nf hb
  rw[zao ne];exact R.al b hb
 ·obtain⟨v,q1,q2⟩:=R.frz i d e;exact⟨v,q1,Den.mono kp (λ_ h=>h) _ _ q2⟩
 ·obtain⟨a,q1,q2,q3⟩:=R.own i d e;refine⟨a,q1,q2,q3.mono kp (λ_ h=>h) λw hw=>?_⟩;have ne:a≠l:=λz=>by subst z;exact no ⟨i,d,e,q1⟩
  rw[zao ne];exact hw
section
variable {X:Cx}{elt tg iter:Expr}{ifs:List Expr}{sc:Scope}{pos:Pos}{N:List Str}{k:Nat}{js:List Nat}{ti:TPI}{g:TPG}{tt:TPT}{te:TPE}
theorem zjF (hi:PuI X tg iter ti)(B:PBlk X N sc tg ifs elt g tt te):∀ρ Q Q',(∀d k,Q d k->Q' d k)->zdi k js ti g tt te ρ Q->zdi k js ti g tt te ρ Q':=
 λρ Q Q' m h=>hi.mono ρ _ _ (λits o q70q=>by obtain⟨hz,Pv,h0,hs,hd⟩:=q70q;exact⟨hz,Pv,h0,hs,λout hl hp=>m _ _ (hd out hl hp)⟩) h
theorem zjG (nd:js.Nodup)(hloc:LocG k g)(B:PBlk X N sc tg ifs elt g tt te){ρ:PEnv}{σ:St}{H H1:Hp}{Fz1:FZ}{o:Bool}{J:It}{its:List PV}{l:Addr}{Rr:Hp->Prop}(R1:Rel X.K Fz1 ρ σ H1)(wk:Walk X.K Fz1 o J its H1)(hl:H1 l=none)(hz:its.length<=sizeLine)(Pv:Nat->List PV->Prop)(h0:Pv 0 [])
  (hstep:∀i d out,its[i]? = some d->out.length<=i->Pv i out->g d (blkP k js ρ) λρ2=>tt ρ2 λb=>if b=true then te ρ2 λe ke=>isOwn ke=false/\Pv (i+1) (out++[e]) else Pv (i+1) out)
  (hdone:∀F' out xs H',Ext Fz1 H1 F' H'->H' l=some (.lst xs)->DenL X.K F' H' out xs->¬ F' l->out.length<=its.length->Pv its.length out->Rr H') :
  zfJ J (zfT X.K g) (liftT X.K tt) (lift X.K te) l (zbV k js σ) H1 Rr:=by
 have mg:=(B.tgt 0 [] [] X.s₀ H).mono;have mt:=(B.tst 0 [] [] X.s₀ H).mono;have me:=(B.val 0 [] [] X.s₀ H).mono;have nf1:¬ Fz1 l:=λz=>R1.al l z hl;have no1:¬ zaG ρ σ l:=λ⟨i,d,h1,h2⟩=>by
  obtain⟨a,q1,_,q3⟩:=R1.own i d h1;rw[h2]at q1;cases q1;obtain⟨o',q4,_⟩:=q3.at;rw[hl]at q4;cases q4
 refine⟨λi m σ' H'=>m=its.length-i/\i<=its.length/\∃F' out xs,Rel X.K F' (blkP k js ρ) σ' H'/\(∀b,zaG (blkP k js ρ) σ' b->zaG ρ σ b)/\H' l=some (.lst xs)/\DenL X.K F' H' out xs/\¬ F' l/\out.length<=i/\Pv i out/\Same H1 H'/\(∀b,Fz1 b->F' b)/\(∀b,F' b->Fz1 b\/H1 b=none),
  ⟨its.length,by lia,Nat.zero_le _,Fz1,[],[],?_,λb hb=>zjE R1 hb,zat,DenL.nil,nf1,Nat.zero_le _,h0,(Same.refl H1).upd' hl,λ_ h=>h,λ_ h=>.inl h⟩,?_⟩
 ·have x0:Ext Fz1 H1 Fz1 (upd H1 l (.lst [])):=Ext.laid ⟨Same.refl _,λ_ h=>h,λ_ h=>.inl h,R1.al⟩ hl;exact(R1.block nd).ext x0
 rintro i m σ' H' ⟨rfl,hle,F',out,xs,Rb,ob,hlx,hout,nfl,hol,hP,sm,s1,s2⟩;obtain⟨wgo,wstop⟩:=wk H' (.inl sm) i;by_cases hlt:i<its.length
 ·obtain⟨go,yl⟩:=wgo its[i] (List.getElem?_eq_getElem hlt);refine .inr ⟨go,λxv H2 y=>?_⟩;obtain⟨sm2,dn⟩:=yl xv H2 y;have x2:Ext F' H' F' H2:=⟨sm2,λ_ h=>h,λ_ h=>.inl h,λb hb z=>Rb.al b hb (sm2.free z)⟩;refine⟨blkP k js ρ,F',its[i],Rb.ext x2,Den.mono (Keep.of (Same.refl _)) s1 _ _ dn,mg _ _ _ _ (λρ2 ⟨q,l2,a2⟩ σ2 R2 o2=>?_) (hloc _ _ _ (hstep i its[i] out (List.getElem?_eq_getElem hlt) hol hP))⟩;refine⟨ρ2,F',R2,mt ρ2 _ _ (λb q F4 H4 x4=>?_) q⟩;have R4:Rel X.K F4 ρ2 σ2 H4:=R2.ext x4;have own2:∀b,zaG (blkP k js ρ) σ2 b->zaG ρ σ b:=λb ⟨j,d,h1,h2⟩=>by
   refine ob b (o2 b ⟨j,d,?_,h2⟩);obtain⟨i',j',e,_⟩:=zbY h1;rw[a2 j (by lia)];exact h1
  have hl4:H4 l=some (.lst xs):=x4.same _ _ (sm2 _ _ hlx);have nf4:¬ F4 l:=λz=>by
   rcases x4.new l z with z | z
   ·exact nfl z
   ·rw[sm2 _ _ hlx]at z;cases z
  cases b with
  | false=>
   rw[if_neg Bool.false_ne_true]at q;refine iteF ⟨its.length-(i+1),by lia,rfl,hlt,F4,out,xs,Rel.zgK R4 l2 a2,own2,hl4,DenL.mono (.of (sm2.trans x4.same)) x4.sub _ _ hout,nf4,by lia,q,sm.trans (sm2.trans x4.same),λb hb=>x4.sub b (s1 b hb),λb hb=>?_⟩;rcases x4.new b hb with z | z
   ·exact s2 b z
   ·exact .inr (sm.free (sm2.free z))
  | true=>
   rw[if_pos rfl]at q;refine iteT ⟨ρ2,F4,R4,me ρ2 _ _ (λe ke q74q v F5 H5 p5=>?_) q⟩;obtain⟨hk,q⟩:=q74q;have hk':ke=.frz\/ke=.new:=by
    cases ke with
    | frz=>exact .inl rfl
    | new=>exact .inr rfl
    | own j=>cases hk
   obtain⟨F6,x6,s6,d6⟩:=p5.frozen hk';have hl5:H5 l=some (.lst xs):=x6.same _ _ hl4;have nf6:¬ F6 l:=λz=>by
    rcases x6.new l z with z | z
    ·exact nf4 z
    ·rw[hl4]at z;cases z
   have R6:Rel X.K F6 ρ2 σ2 H5:=R4.ext x6;have Rb6:Rel X.K F6 (blkP k js ρ) σ2 H5:=Rel.zgK R6 l2 a2;have no6:¬ zaG (blkP k js ρ) σ2 l:=λz=>no1 (own2 l z);have kp:Keep F6 H5 (upd H5 l (.lst (xs++[v]))):=.mk' λb w e hw=>by
    have ne:b≠l:=λz=>by
     subst z;rcases hw with hw | hw
     ·exact nf6 hw
     ·rw[hl5]at e;cases e;exact hw
    rw[zao ne];exact e
   have hxl:=hout.length;refine⟨xs,hl5,by lia,its.length-(i+1),by lia,rfl,hlt,F6,out++[e],xs++[v],Rb6.other hl5 (λz=>z) nf6 no6,own2,zat,?_,nf6,by rw[List.length_append];simp;lia,q,?_,λb hb=>x6.sub b (x4.sub b (s1 b hb)),λb hb=>?_⟩
   ·exact DenL.mono kp (λ_ h=>h) _ _ (DenL.snoc (DenL.mono (.of (sm2.trans (x4.same.trans x6.same))) (λb hb=>x6.sub b (x4.sub b hb)) _ _ hout) d6)
   ·exact(sm.trans (sm2.trans (x4.same.trans x6.same))).upd' hl
   ·rcases x6.new b hb with z | z
    ·rcases x4.new b z with z | z
     ·exact s2 b z
     ·exact .inr (sm.free (sm2.free z))
    ·exact .inr (sm.free (sm2.free (x4.same.free z)))
 ·have e:i=its.length:=by lia
  subst e;exact .inl ⟨wstop (Nat.le_refl _),hdone F' out xs H' ⟨sm,s1,s2,Rb.al⟩ hlx hout nfl hol hP⟩
theorem zjH (nd:js.Nodup)(hloc:LocG k g)(hi:PuI X tg iter ti)(B:PBlk X N sc tg ifs elt g tt te){σ:St}{H:Hp}{Q:VK}(h:lift X.K (zdi k js ti g tt te) σ H Q) :
  zlp k js (zpb X.K ti) (zfT X.K g) (liftT X.K tt) (lift X.K te) σ H Q:=by
 obtain⟨ρ,Fz,R,h⟩:=h;refine⟨ρ,Fz,R,hi.mono ρ _ _ (λits o q J Fz1 H1 x wk l hl=>?_) h⟩;obtain⟨hz,Pv,h0,hstep,hdone⟩:=q;refine zjG (H:=H) nd hloc B (R.ext x) wk hl hz Pv h0 hstep λF' out xs H' x' hlx hout nfl hol hP=>?_;exact hdone out hol hP _ F' H' ⟨x.trans x',l,rfl,x.same.free hl,nfl,xs,hlx,hout⟩
theorem zbL (hc:X.calm=true)(S:zbG X N k js sc)(nd:js.Nodup)(hloc:LocG k g)(hi:PuI X tg iter ti)(B:PBlk X N sc tg ifs elt g tt te)(hs:autoParam (∀x,foldedSetIterable iter X.env x=pure x) aU3) :
  PuE X (.ListComp elt [⟨tg,iter,ifs,0⟩] sc pos) (zdi k js ti g tt te):=
 ⟨zjF hi B,PE.weak (znm hc S hi.run B.blk hs) λ_ _ _ h=>zjH nd hloc hi B h⟩
end
noncomputable def zaV (N:List Str)(ds:List PV):PEnv:=ds.map (λd=>some (d,false))++List.replicate (N.length-ds.length) none
noncomputable def zbR (Q:PV->Kd->Prop):POut:=⟨λ_=>Q .non .frz,Q,λ_=>False,λ_=>False⟩
theorem znu {K:PySem.W.Frag}{F:PF}{ps:List Str}(h:∀ds Q,F ds Q->ds.length=ps.length):∀vs H Q E,spP K F vs H Q E->vs.length=ps.length:=λvs H Q E q75q=>by obtain⟨Fz,ds,_,hd,q⟩:=q75q;rw[<- hd.length];exact h _ _ q
theorem zdL {K:PySem.W.Frag}{Fz:FZ}{H:Hp}{N:List Str}{ds:List PV}{vs:List V}(al:∀b,Fz b->H b≠none)(h:DenL K Fz H ds vs):Rel K Fz (zaV N ds) (start N vs) H/\∀σ b,¬ zaG (zaV N ds) σ b:=by
 have hl:=h.length;have get:∀(i:Nat) (d:PV) (b:Bool),(zaV N ds)[i]? = some (some (d,b))->b=false/\ds[i]? = some d:=λi d b e=>by
  unfold zaV at e;by_cases hi:i<ds.length
  ·rw[List.getElem?_append_left (by simpa using hi),List.getElem?_map,List.getElem?_eq_getElem hi]at e;have e':(some (ds[i],false):Option (PV×Bool))=some (d,b):=Option.some.inj e;have e2:=Option.some.inj e';exact⟨(congrArg Prod.snd e2).symm,by rw[List.getElem?_eq_getElem hi];exact congrArg some (congrArg Prod.fst e2)⟩
  ·rw[List.getElem?_append_right (by simpa using hi),List.getElem?_replicate]at e;split at e<;>cases e
 refine⟨⟨al,by unfold zaV L2.start;simp[hl],λi d e=>?_,λi d e=>?_,λi j d e a h1=>?_⟩,λσ b ⟨i,d,e,_⟩=>?_⟩
 ·obtain⟨_,e'⟩:=get i d false e;obtain⟨v,q1,q2⟩:=h.get e';have hi:i<vs.length:=(List.getElem?_eq_some_iff.mp q1).1;refine⟨v,?_,q2⟩;unfold L2.start;rw[List.getElem?_append_left (by simpa using hi),List.getElem?_map,q1];rfl
 ·exact absurd (get i d true e).1 (by decide)
 ·exact absurd (get i d true h1).1 (by decide)
 ·exact absurd (get i d true e).1 (by decide)
section
variable {P:Program}{w:World}{K:PySem.W.Frag}{mg:Str->Option Value}{base:Heap}
theorem zaP {x qual:Str}{st:Stmt}{f:Addr}{fd:FuncData}{N ps:List Str}{k:Nat}{F:PF}(Fn:Fun K x qual st f fd)(S:zaq N ps (zac st))(len:∀ds Q,F ds Q->ds.length=ps.length)
  (hbody:∀(cdv:Value) (A:Around) (outer:List Env) (s:Shared) (H:Hp) (E:XK),Room k (A.deeper (envOfC qual (zac st) s.heap.objs.size f cdv))->
   ∃t,PuSs (cxOf CX0 P w K mg base N qual (zac st) f cdv A outer s H E).nox (zap st) t/\∀ds Q,F ds Q->t (zaV N ds) (zbR Q)):FnOk P w K mg base CX0 (k+1) f fd ps (spP K F):=by
 refine Fn.ok S (znu len) (λcdv A outer s H vs Q E hr h=>?_);obtain⟨t,ht,hq⟩:=hbody cdv A outer s H E hr;obtain⟨Fz,ds,al,hd,h⟩:=h;obtain⟨R,no⟩:=zdL (N:=N) al hd;refine⟨_,ht.run,zaV N ds,Fz,R,ht.mono _ (zbR _) _ ⟨λρ' q σ' F' H' s' o' R'=>?_,λd k q v F' H' s' al' r=>?_,λ_ z=>z.elim,λ_ z=>z.elim⟩ (hq ds _ h)⟩
 ·exact q .non F' H' ⟨⟨λb o e=>s'.keep b o e (no _ b),s'.sub,λb hb=>(s'.new b hb).elim .inl (λz=>z.elim .inr (λz=>(no _ b z).elim)),R'.al⟩,by show Den _ _ _ _ _;simp only[Den]⟩
 ·refine q v F' H' ⟨⟨λb o e=>s'.keep b o e (no _ b),s'.sub,λb hb=>(s'.new b hb).elim .inl (λz=>z.elim .inr (λz=>(no _ b z).elim)),al'⟩,?_⟩;cases k with
  | frz=>exact r
  | own i=>exact r.elim
  | new=>
   obtain⟨a,e,nf,o,w⟩:=r;exact⟨a,e,w.resolve_left (no _ a),nf,o⟩
end
theorem Rel.mut {K:PySem.W.Frag}{Fz:FZ}{ρ:PEnv}{σ:St}{H:Hp}{i:Nat}{d d':PV}{a:Addr}{o u:HO}(R:Rel K Fz ρ σ H)(hi:ρ[i]? = some (some (d,true)))(hs:σ[i]? = some (some (.ref a)))(hu:H a=some u)
  (ho:Own K Fz (upd H a o) d' a):Rel K Fz (ρ.set i (some (d',true))) σ (upd H a o)/\Step ρ σ Fz H Fz (upd H a o)/\zaz ρ σ H (ρ.set i (some (d',true))) σ:=by
 obtain⟨a',e',nf,ow⟩:=R.own i d hi;rw[hs]at e';cases e';have hil:i<ρ.length:=(List.getElem?_eq_some_iff.mp hi).1;have im:¬ Imm u:=by obtain⟨o',q1,q2⟩:=ow.at;rw[hu]at q1;cases q1;exact q2
 have kp:Keep Fz H (upd H a o):=.mk' λb w e hw=>by
  have ne:b≠a:=λz=>by
   subst z;rcases hw with hw | hw
   ·exact nf hw
   ·rw[hu]at e;cases e;exact im hw
  rw[zao ne];exact e
 have st:∀j e,(ρ.set i (some (d',true)))[j]? = some (some (e,true))->∃e0,ρ[j]? = some (some (e0,true)):=λj e h=>by
  by_cases hij:i=j
  ·subst hij;exact⟨d,hi⟩
  ·rw[List.getElem?_set_ne hij]at h;exact⟨e,h⟩
 refine⟨⟨λb hb=>?_,by rw[List.length_set];exact R.len,λj e h=>?_,λj e h=>?_,λj k e1 e2 b h1 h2 h3 h4=>?_⟩,⟨λ_ h=>h,λ_ h=>.inl h,λb w e n=>?_⟩,λb ⟨j,e,h1,h2⟩=>?_⟩
 ·have ne:b≠a:=λz=>by subst z;exact nf hb
  rw[zao ne];exact R.al b hb
 ·by_cases hij:i=j
  ·subst hij;rw[List.getElem?_set_self hil]at h;cases h
  ·rw[List.getElem?_set_ne hij]at h;obtain⟨v,q1,q2⟩:=R.frz j e h;exact⟨v,q1,Den.mono kp (λ_ h=>h) _ _ q2⟩
 ·by_cases hij:i=j
  ·subst hij;rw[List.getElem?_set_self hil]at h;cases h;exact⟨a,hs,nf,ho⟩
  ·rw[List.getElem?_set_ne hij]at h;obtain⟨b,q1,q2,q3⟩:=R.own j e h;refine⟨b,q1,q2,q3.mono kp (λ_ h=>h) λw hw=>?_⟩;have ne:b≠a:=λz=>by subst z;exact hij (R.inj i j d e _ hi h hs q1)
   rw[zao ne];exact hw
 ·obtain⟨e1',g1⟩:=st j e1 h1;obtain⟨e2',g2⟩:=st k e2 h2;exact R.inj j k e1' e2' b g1 g2 h3 h4
 ·have ne:b≠a:=λz=>by subst z;exact n ⟨i,d,hi,hs⟩
  rw[zao ne];exact e
 ·obtain⟨e',g⟩:=st j e h1;exact .inl ⟨j,e',g,h2⟩
noncomputable abbrev TPM:=PEnv->(PV->PEnv->Prop)->Prop
noncomputable def liftM (K:PySem.W.Frag)(t:TPM):TE:=λσ H Q=>∃ρ Fz,Rel K Fz ρ σ H/\t ρ λd ρ'=>∀v Fz' H',Step ρ σ Fz H Fz' H'->zaz ρ σ H ρ' σ->Rel K Fz' ρ' σ H'->Den K Fz' H' d v->Q v H'
structure PuM (X:Cx)(e:Expr)(t:TPM):Prop where
 mono:∀ρ Q Q',(∀d ρ,Q d ρ->Q' d ρ)->t ρ Q->t ρ Q'
 run:PE X e (liftM X.K t)
noncomputable def mApp (i:Nat)(te:TPE):TPM:=λρ Q=>∃ds,ρ[i]? = some (some (.lst ds,true))/\ds.length<sizeLine/\te ρ λd k=>isOwn k=false/\Q .non (ρ.set i (some (.lst (ds++[d]),true)))
theorem zjI {K:PySem.W.Frag}{Fz:FZ}{ρ:PEnv}{σ:St}{H:Hp}{i:Nat}{ds:List PV}(R:Rel K Fz ρ σ H)(h:ρ[i]? = some (some (.lst ds,true))):∃a xs,σ[i]? = some (some (.ref a))/\H a=some (.lst xs)/\DenL K Fz H ds xs/\¬ Fz a:=by
 obtain⟨a,e,nf,xs,h1,h2⟩:=R.own i _ h;exact⟨a,xs,e,h1,h2,nf⟩
theorem DenL.rew {K:PySem.W.Frag}{Fz:FZ}{H:Hp}{ds:List PV}{xs ys:List V}{a:Addr}{o:HO}(ha:H a=some (.lst ys))(nf:¬ Fz a)(h:DenL K Fz H ds xs):DenL K Fz (upd H a o) ds xs:=
 DenL.mono (.mk' λb w e hw=>by
  have ne:b≠a:=λz=>by
   subst z;rcases hw with hw | hw
   ·exact nf hw
   ·rw[ha]at e;cases e;exact hw
  rw[zao ne];exact e) (λ_ h=>h) _ _ h
section
variable {X:Cx}{x:Str}{e:Expr}{te:TPE}{tm:TPM}{p apos cpos:Pos}
theorem zeu (i:Nat)(he:PuE X e te)(hN:autoParam (X.N[i]? = some x) aU0)(hv:autoParam (Vis X.env.scope x) aU6)(hd:autoParam ((x == ("__debug__" : Str))=false) aU1) (hcd:autoParam ((x == ("__classdict__" : Str))=false) aU1)
  (hbase:autoParam (attributeBase (.Name x p) "append" X.env (eval (.Name x p) X.env)=eval (.Name x p) X.env) aU0)
  (hfew:autoParam (((backTo cpos (starEach [e] X.env)).all (λx=>!x.1)&&(backToKw cpos (keywordEach [] X.env)).all (λx=>x.1.isSome)&&decide ([e].length+([]:List Keyword).length+(if ([]:List Keyword).isEmpty then 0 else 1)<30))=true) aU0)
  (hline:autoParam ((apos.endLine == cpos.line)=true) aU0) (hs:autoParam (starEach [e] X.env=(false,eval e X.env)::starEach [] X.env) aU0) (hplain:autoParam ((backTo cpos (starEach [] X.env)).any (·.1)=false) aU0):PuM X (.Call (.Attribute (.Name x p) "append" apos) [e] [] cpos) (mApp i te) where
 mono ρ Q Q' m h:=by
  obtain⟨ds,e1,e2,h⟩:=h;exact⟨ds,e1,e2,he.mono ρ _ _ (λd k q78q=>by obtain⟨hk,q⟩:=q78q;exact⟨hk,m _ _ q⟩) h⟩
 run:=PE.weak (zoP PySem.F.plainAttrs_list PySem.F.slot_list_append PySem.F.type_list_append zdC (zcZ hN hv hd hcd) (zaE he.run zbU hs) hbase hfew hline hs hplain) λσ H Q h=>by
  obtain⟨ρ,Fz,R,ds,e1,e2,h⟩:=h;obtain⟨a,xs,hs,ha,hd,nf⟩:=zjI R e1;refine⟨_,hs,.inl ⟨rfl,xs,SqL.of ha⟩,ρ,Fz,R,he.mono ρ _ _ (λd k q v F1 H1 p1=>?_) h⟩;obtain⟨hk,q⟩:=q;have hk':k=.frz\/k=.new:=by
   cases k with
   | frz=>exact .inl rfl
   | new=>exact .inr rfl
   | own j=>cases hk
  obtain⟨F2,x2,s2,d2⟩:=p1.frozen hk';have R2:=R.ext x2;obtain⟨a',xs',hs',ha',hd',nf'⟩:=zjI R2 e1;rw[hs]at hs';cases hs';have hl:=hd'.length;refine⟨a,xs',v,rfl,rfl,ha',by lia,?_⟩;have ow:Own X.K F2 (upd H1 a (.lst (xs'++[v]))) (.lst (ds++[d])) a:=⟨_,zat,(DenL.rew ha' nf' (DenL.snoc hd' d2))⟩;obtain⟨R3,s3,o3⟩:=R2.mut e1 hs ha' ow;exact q .non F2 _ ((Step.of x2).trans (zaz.refl ρ σ H) s3) (zaz.trans (Step.of x2) (zaz.refl ρ σ H) o3) R3 (by simp only[Den])
noncomputable def zco (tm:TPM):TPS:=λρ O=>tm ρ λ_ ρ'=>O.nx ρ'
variable {pos:Pos}
theorem zfU (he:PuM X e tm)(hs:autoParam (swapsWith e none pos.line X.env=pure false) aU0):PuS X (.Expr e pos) (zco tm) where
 mono ρ O O' m h:=he.mono ρ _ _ (λ_ _ q=>m.nx _ q) h
 run:=PS.weak (zmW he.run hs) λD σ H h=>by
  obtain⟨ρ,Fz,R,h⟩:=h;exact⟨ρ,Fz,R,he.mono ρ _ _ (λd ρ' q v F' H' s' o' R' _=>q σ F' H' s' o' R') h⟩
end
theorem zjJ {K:PySem.W.Frag}{Fz:FZ}{H:Hp}{ds:List PV}{xs:List V}{i:Int}{d:PV}(h:DenL K Fz H ds xs)(e:atI ds i=some d):∃v,atI xs i=some v/\Den K Fz H d v:=by
 unfold atI at e ⊢;rw[<- h.length];cases q:ixN ds.length i with
 | none=>rw[q]at e;cases e
 | some j=>
  rw[q]at e;obtain⟨v,h1,h2⟩:=h.get (i:=j) (d:=d) e;exact⟨v,h1,h2⟩
noncomputable def ixV (d e x:PV):Prop:=(∃ds i,(d=.lst ds\/d=.tup ds)/\e=.int i/\atI ds i=some x)\/∃z i c,d=.str z/\e=.int i/\z.length<=sizeLine/\atI z.cps.toList i=some c/\x=.str ⟨#[c]⟩
noncomputable def pIx:P2:=λd e Q=>∃x,ixV d e x/\Q x .frz
theorem zqz {K:PySem.W.Frag}:POp K (rIx K) pIx where
 mono d e Q Q' m h:=by obtain⟨x,h,q⟩:=h;exact⟨x,h,m _ _ q⟩
 run Fz H x y d e Q al rx ry h:=by
  obtain⟨x',h,q⟩:=h;rcases h with ⟨ds,i,e1,rfl,e3⟩ | ⟨z,i,c,rfl,rfl,e3,e4,rfl⟩
  ·rcases e1 with rfl | rfl
   ·obtain⟨a,xs,rfl,h1,h2⟩:=zai rx;obtain⟨v,g1,g2⟩:=zjJ h2 e3;exact .inl ⟨a,xs,i,v,rfl,zaC ry,h1,g1,q v Fz H (.val al g2)⟩
   ·obtain⟨a,xs,rfl,h1,h2⟩:=zaN rx;obtain⟨v,g1,g2⟩:=zjJ h2 e3;exact .inr (.inl ⟨a,xs,i,v,rfl,zaC ry,h1,g1,q v Fz H (.val al g2)⟩)
  ·exact .inr (.inr ⟨z,i,c,zal rx,zaC ry,e3,e4,q _ Fz H (.val al (by simp only[Den]))⟩)
section
variable {X:Cx}{a b:Expr}{ta tb:TPE}{pos:Pos}
theorem zbw (ha:PuE X a ta)(hb:PuE X b tb)(hs:autoParam (zgE b) aU7):PuE X (.Subscript a b pos) (t2 pIx ta tb):=zqy zoN zqz ha hb hs
theorem zqA (hu:X.A.units+16<cLine)(ha:PuE X a ta)(hb:PuE X b tb)(hm:autoParam (behindInMarks .Eq b=false) aU2):PuE X (.Compare a [.Eq] [b] pos) (t2 (pEq false) ta tb):=zjv (zmt hu) zhz ha hb hm
theorem zpc (hu:X.A.units+16<cLine)(ha:PuE X a ta)(hb:PuE X b tb)(hm:autoParam (behindInMarks .NotEq b=false) aU2):PuE X (.Compare a [.NotEq] [b] pos) (t2 (pEq true) ta tb):=zjv (zmu hu) zhz ha hb hm
theorem zbB (hu:X.A.units+16<cLine)(ha:PuE X a ta)(hb:PuE X b tb)(hm:autoParam (behindInMarks .Eq b=false) aU2):PuT X (.Compare a [.Eq] [b] pos) (tBl (t2 (pEq false) ta tb)):=zbI (zmt hu) zhz ha hb hm
theorem zcp (hu:X.A.units+16<cLine)(ha:PuE X a ta)(hb:PuE X b tb)(hm:autoParam (behindInMarks .NotEq b=false) aU2):PuT X (.Compare a [.NotEq] [b] pos) (tBl (t2 (pEq true) ta tb)):=zbI (zmu hu) zhz ha hb hm
theorem zpd (ha:PuE X a ta)(hb:PuE X b tb)(hm:autoParam (behindInMarks .Lt b=false) aU2):PuT X (.Compare a [.Lt] [b] pos) (tBl (pLt ta tb)):=zbI zqp zdm ha hb hm
theorem zfV (ha:PuE X a ta)(hb:PuE X b tb)(hm:autoParam (behindInMarks .Gt b=false) aU2):PuT X (.Compare a [.Gt] [b] pos) (tBl (pGt ta tb)):=zbI zqq zdm ha hb hm
end
noncomputable def rInP (K:PySem.W.Frag)(neg:Bool):R2:=λx y H Q=>∃Fz d ds p xs,Root K Fz H d x/\y=.ref p/\(SqL K H p xs\/SqT K H p xs)/\DenL K Fz H ds xs/\plain 6 d=true/\ds.all (plain 6)=true/\Q (.bl (if neg then !decide (d∈ds) else decide (d∈ds))) H
noncomputable def pIn (neg:Bool):P2:=λd e Q=>∃ds,(e=.lst ds\/e=.tup ds)/\plain 6 d=true/\ds.all (plain 6)=true/\Q (.bl (if neg then !decide (d∈ds) else decide (d∈ds))) .frz
theorem zpe {K:PySem.W.Frag}{neg:Bool}:POp K (rInP K neg) (pIn neg) where
 mono d e Q Q' m h:=by obtain⟨ds,e1,e2,e3,q⟩:=h;exact⟨ds,e1,e2,e3,m _ _ q⟩
 run Fz H x y d e Q al rx ry h:=by
  obtain⟨ds,e1,e2,e3,q⟩:=h;rcases e1 with rfl | rfl
  ·obtain⟨a,xs,rfl,h1,h2⟩:=zai ry;exact⟨Fz,d,ds,a,xs,rx,rfl,.inl h1,h2,e2,e3,q _ Fz H (.val al (by simp only[Den]))⟩
  ·obtain⟨a,xs,rfl,h1,h2⟩:=zaN ry;exact⟨Fz,d,ds,a,xs,rx,rfl,.inr h1,h2,e2,e3,q _ Fz H (.val al (by simp only[Den]))⟩
noncomputable def dcd (p:Prop):Bool:=@decide p (Classical.propDecidable p)
theorem zhA {p:Prop}(h:p):dcd p=true:=@decide_eq_true p (Classical.propDecidable p) h
theorem zjK {p:Prop}(h:¬ p):dcd p=false:=@decide_eq_false p (Classical.propDecidable p) h
theorem znv {p:Prop}:dcd p=true↔p:=@decide_eq_true_iff p (Classical.propDecidable p)
section
variable {X:Cx}{pins:List (Addr×Obj)}{σ:St}{H:Hp}{s:Shared}{Fz:FZ}
theorem zdp (I:Inv X pins σ H s){A:Around}(hu:A.units+16<cLine){d:PV}{ds:List PV}{x:V}{xs:List V}{v:Value}{its:List Value}(hx:Root X.K Fz H d x)(rx:RelV x v)(r:Vals xs its)(h:DenL X.K Fz H ds xs)(pd:plain 6 d=true)(ps:ds.all (plain 6)=true) :
  ∃e:Value->Bool,(∀y,y∈its.toArray->SeqAt.EqAt A.in1 s y v (e y))/\its.toArray.any e=decide (d∈ds):=by
 refine⟨λu=>dcd (∃j:Nat,its[j]? = some u/\ds[j]? = some d),λu hu'=>?_,?_⟩
 ·obtain⟨j,hj⟩:=List.mem_iff_getElem?.mp (show u∈its by simpa using hu');have l1:=r.length;have l2:=h.length;have hjl:j<its.length:=(List.getElem?_eq_some_iff.mp hj).1;have e1:ds[j]? = some ds[j]:=List.getElem?_eq_getElem (by lia);obtain⟨y,e2,q2⟩:=h.get e1;obtain⟨u',e3,q3⟩:=r.get e2;rw[hj]at e3;cases e3;have pj:plain 6 ds[j]=true:=List.all_eq_true.mp ps _ (List.getElem_mem _);have w:dcd (∃j':Nat,its[j']? = some u/\ds[j']? = some d)=decide (ds[j]=d):=by
   by_cases hd:ds[j]=d
   ·rw[decide_eq_true hd,zhA ⟨j,hj,by rw[e1,hd]⟩]
   ·rw[decide_eq_false hd];refine zjK ?_;rintro⟨j',g1,g2⟩;obtain⟨y',e2',q2'⟩:=h.get g2;obtain⟨u',e3',q3'⟩:=r.get e2';rw[g1]at e3';cases e3';have ey:y=y':=q3.inj q3';subst ey;exact hd (zeS I 6 _ _ _ pj pd q2.root q2'.root)
  show SeqAt.EqAt A.in1 s u v (dcd (∃j':Nat,its[j']? = some u/\ds[j']? = some d));rw[w];exact(znr I 6 A.in1 ds[j] d y x u v pj pd (by show A.units+1+6<cLine;lia) q2.root hx q3 rx).2.2
 ·have l1:=r.length;have l2:=h.length;by_cases hd:d∈ds
  ·rw[decide_eq_true hd];obtain⟨j,hj⟩:=List.mem_iff_getElem?.mp hd;have hjl:j<ds.length:=(List.getElem?_eq_some_iff.mp hj).1;rw[Array.any_eq_true];refine⟨j,by simpa using (by lia:j<its.length),?_⟩;refine zhA ⟨j,?_,hj⟩;simp
  ·rw[decide_eq_false hd];rw[Array.any_eq_false];intro i hi;intro z;obtain⟨j,g1,g2⟩:=znv.mp z;exact hd (List.mem_of_getElem? g2)
theorem zpf (hu:X.A.units+16<cLine):OpR X (compareOp .In) (rInP X.K false):=by
 intro pins s σ H x y v u Q I rx ry h;obtain⟨Fz,d,ds,p,xs,hx,rfl,hq,hd,p1,p2,q⟩:=h;cases ry;rcases hq with hq | hq
 ·obtain⟨its,r,pl,hz⟩:=I.list hq;obtain⟨e,h1,h2⟩:=zdp I hu hx rx r hd p1 p2;exact SeqAt.in_listAt e pl.isList h1 ⟨.bl _,H,I,rfl,by rw[h2];exact q⟩
 ·obtain⟨its,r,pl,hz⟩:=I.tuple hq;obtain⟨e,h1,h2⟩:=zdp I hu hx rx r hd p1 p2;exact SeqAt.in_tupleAt e pl h1 ⟨.bl _,H,I,rfl,by rw[h2];exact q⟩
theorem zjL (hu:X.A.units+16<cLine):OpR X (compareOp .NotIn) (rInP X.K true):=by
 intro pins s σ H x y v u Q I rx ry h;obtain⟨Fz,d,ds,p,xs,hx,rfl,hq,hd,p1,p2,q⟩:=h;cases ry;rcases hq with hq | hq
 ·obtain⟨its,r,pl,hz⟩:=I.list hq;obtain⟨e,h1,h2⟩:=zdp I hu hx rx r hd p1 p2;exact SeqAt.notIn_listAt e pl.isList h1 ⟨.bl _,H,I,rfl,by rw[h2];exact q⟩
 ·obtain⟨its,r,pl,hz⟩:=I.tuple hq;obtain⟨e,h1,h2⟩:=zdp I hu hx rx r hd p1 p2;exact SeqAt.notIn_tupleAt e pl h1 ⟨.bl _,H,I,rfl,by rw[h2];exact q⟩
variable {a b:Expr}{ta tb:TPE}{pos:Pos}
theorem zpg (hu:X.A.units+16<cLine)(ha:PuE X a ta)(hb:PuE X b tb)(hm:autoParam (behindInMarks .In b=false) aU2):PuT X (.Compare a [.In] [b] pos) (tBl (t2 (pIn false) ta tb)):=zbI (zpf hu) zpe ha hb hm
theorem zjM (hu:X.A.units+16<cLine)(ha:PuE X a ta)(hb:PuE X b tb)(hm:autoParam (behindInMarks .NotIn b=false) aU2):PuT X (.Compare a [.NotIn] [b] pos) (tBl (t2 (pIn true) ta tb)):=zbI (zjL hu) zpe ha hb hm
end
noncomputable def pIsN (neg:Bool):P2:=λd e Q=>e=.non/\Q (.bl (if neg then !decide (d=.non) else decide (d=.non))) .frz
theorem zhB {K:PySem.W.Frag}{Fz:FZ}{H:Hp}{d:PV}{x:V}(r:Root K Fz H d x):decide (x=V.non)=decide (d=.non):=by
 cases d with
 | non=>rw[zbg r];simp
 | bl b=>rw[zcr r];simp
 | int b=>rw[zaC r];simp
 | str b=>rw[zal r];simp
 | tup ds=>obtain⟨a,xs,rfl,_⟩:=zaN r;simp
 | lst ds=>obtain⟨a,xs,rfl,_⟩:=zai r;simp
 | ty n=>simp only[Root,Den]at r;rw[r];simp
 | dK ks ds=>simp only[Root]at r;obtain⟨a,xs,rfl,_⟩:=r;simp
 | dT ks ds=>simp only[Root]at r;obtain⟨a,xs,rfl,_⟩:=r;simp
theorem zph {K:PySem.W.Frag}:POp K (λx y H Q=>y=.non/\Q (.bl (decide (x=.non))) H) (pIsN false) where
 mono d e Q Q' m h:=⟨h.1,m _ _ h.2⟩
 run Fz H x y d e Q al rx ry h:=by
  obtain⟨rfl,q⟩:=h;refine⟨zbg ry,?_⟩;rw[zhB rx];exact q _ Fz H (.val al (by simp only[Den];rfl))
theorem znw {K:PySem.W.Frag}:POp K (λx y H Q=>y=.non/\Q (.bl (!decide (x=.non))) H) (pIsN true) where
 mono d e Q Q' m h:=⟨h.1,m _ _ h.2⟩
 run Fz H x y d e Q al rx ry h:=by
  obtain⟨rfl,q⟩:=h;refine⟨zbg ry,?_⟩;rw[zhB rx];exact q _ Fz H (.val al (by simp only[Den];rfl))
section
variable {X:Cx}{a b:Expr}{ta tb:TPE}{pos:Pos}
theorem znx (ha:PuE X a ta)(hb:PuE X b tb)(hm:autoParam (behindInMarks .Is b=false) aU2):PuT X (.Compare a [.Is] [b] pos) (tBl (t2 (pIsN false) ta tb)):=zbI zmp zph ha hb hm
theorem zhC (ha:PuE X a ta)(hb:PuE X b tb)(hm:autoParam (behindInMarks .IsNot b=false) aU2):PuT X (.Compare a [.IsNot] [b] pos) (tBl (t2 (pIsN true) ta tb)):=zbI zna znw ha hb hm
end
theorem zpi:bootBuiltins "list" = some (.type "list"):=by decide +kernel
theorem zjN:bootBuiltins "tuple" = some (.type "tuple"):=by decide +kernel
theorem bSet:bootBuiltins "set" = some (.type "set"):=by decide +kernel
theorem bStr:bootBuiltins "str" = some (.type "str"):=by decide +kernel
theorem bInt:bootBuiltins "int" = some (.type "int"):=by decide +kernel
theorem zqB:bootBuiltins "bool" = some (.type "bool"):=by decide +kernel
theorem bLen:bootBuiltins "len" = some (.builtin "len"):=by decide +kernel
theorem zjO:bootBuiltins "sorted" = some (.builtin "sorted"):=by decide +kernel
theorem bIsi:bootBuiltins "isinstance" = some (.builtin "isinstance"):=by decide +kernel
theorem zca {K:PySem.W.Frag}{Fz:FZ}{H:Hp}{d:PV}{vs:List V}(h:zlx K Fz H [d] vs):∃v,vs=[v]/\Root K Fz H d v:=by
 cases h with
 | cons r t=>cases t;exact⟨_,rfl,r⟩
theorem zmw {K:PySem.W.Frag}{Fz:FZ}{H:Hp}{d e:PV}{vs:List V}(h:zlx K Fz H [d,e] vs):∃v u,vs=[v,u]/\Root K Fz H d v/\Root K Fz H e u:=by
 cases h with
 | cons r t=>
  cases t with
  | cons r2 t=>cases t;exact⟨_,_,rfl,r,r2⟩
theorem Post.newL {K:PySem.W.Frag}{Fz:FZ}{H:Hp}{p:Addr}{ds:List PV}{xs:List V}(al:∀b,Fz b->H b≠none)(hp:H p=none)(h:DenL K Fz H ds xs):Post K [] [] Fz H Fz (upd H p (.lst xs)) (.lst ds) .new (.ref p):=
 ⟨Ext.laid ⟨Same.refl H,λ_ h=>h,λ_ h=>.inl h,al⟩ hp,p,rfl,hp,λz=>al p z hp,xs,zat,DenL.mono (Keep.of (λb u e=>by rw[zao (zav e hp)];exact e)) (λ_ h=>h) _ _ h⟩
theorem Post.newT {K:PySem.W.Frag}{Fz:FZ}{H:Hp}{p:Addr}{ds:List PV}{xs:List V}(al:∀b,Fz b->H b≠none)(hp:H p=none)(h:DenL K Fz H ds xs):Post K [] [] Fz H Fz (upd H p (.tup xs)) (.tup ds) .frz (.ref p):=by
 refine⟨Ext.laid ⟨Same.refl H,λ_ h=>h,λ_ h=>.inl h,al⟩ hp,?_⟩;show Den _ _ _ _ _;simp only[Den];exact⟨p,xs,rfl,zat,DenL.mono (Keep.of (λb u e=>by rw[zao (zav e hp)];exact e)) (λ_ h=>h) _ _ h⟩
noncomputable def LenP:PV->Nat->Prop
 | .str y,n=>y.length<=sizeLine/\n=y.length
 | .lst ds,n=>n=ds.length
 | .tup ds,n=>n=ds.length
 | .dK ks _,n=>n=ks.length
 | _,_=>False
noncomputable def fLen:PF:=λds Q=>∃d n,ds=[d]/\LenP d n/\Q (.int n) .frz
noncomputable def rLen (K:PySem.W.Frag):List V->Hp->VK->Prop:=λxs H Q=>(∃x n,xs=[x]/\LenV K x H n/\Q (.int n) H)\/∃a kvs,xs=[.ref a]/\Rd H a (.dK kvs)/\Q (.int kvs.length) H
theorem zjP {X:Cx}:zbF X (.builtin "len") (rLen X.K):=by
 intro pins s σ H xs us Q I r h;rcases h with h | ⟨a,kvs,rfl,ha,q⟩
 ·exact zlo pins s σ H xs us Q I r h
 ·obtain⟨u,rfl,ru⟩:=vals1 r;cases ru;exact zqw I ha λt s' I'=>⟨.int kvs.length,H,I',⟨t,rfl⟩,q⟩
theorem zpj {K:PySem.W.Frag}:zcR K (rLen K) fLen where
 mono ds Q Q' m h:=by obtain⟨d,n,e1,e2,q⟩:=h;exact⟨d,n,e1,e2,m _ _ q⟩
 run Fz H ds vs Q al r h:=by
  obtain⟨d,n,rfl,e,q⟩:=h;obtain⟨v,rfl,rv⟩:=zca r;have q':=q (.int n) Fz H (.val al (by simp only[Den]));cases d with
  | str y=>cases zal rv;exact .inl ⟨_,n,rfl,e,q'⟩
  | lst ds=>obtain⟨a,xs,rfl,h1,h2⟩:=zai rv;exact .inl ⟨_,n,rfl,.inl ⟨xs,h1,by rw[<- h2.length];exact e⟩,q'⟩
  | tup ds=>obtain⟨a,xs,rfl,h1,h2⟩:=zaN rv;exact .inl ⟨_,n,rfl,.inr ⟨xs,h1,by rw[<- h2.length];exact e⟩,q'⟩
  | dK ks ds=>
   simp only[Root]at rv;obtain⟨a,xs,rfl,h1,h2,h3⟩:=rv;have e':n=ks.length:=e;refine .inr ⟨a,_,rfl,h1,?_⟩;rw[List.length_zip,<- h2,Nat.min_self,<- e'];exact q'
  | non=>exact e.elim
  | bl b=>exact e.elim
  | int i=>exact e.elim
  | ty n=>exact e.elim
  | dT ks ds=>exact e.elim
noncomputable def zej:PF:=λds Q=>∃es,(ds=[.lst es]\/ds=[.tup es])/\Q (.lst es) .new
noncomputable def zcb:PF:=λds Q=>∃es,(ds=[.lst es]\/ds=[.tup es])/\Q (.tup es) .frz
theorem zny {K:PySem.W.Frag}:zcR K (znp K) zej where
 mono ds Q Q' m h:=by obtain⟨es,e,q⟩:=h;exact⟨es,e,m _ _ q⟩
 run Fz H ds vs Q al r h:=by
  obtain⟨es,e,q⟩:=h;rcases e with rfl | rfl
  ·obtain⟨v,rfl,rv⟩:=zca r;obtain⟨a,xs,rfl,h1,h2⟩:=zai rv;exact⟨a,xs,rfl,.inl h1,λl hl=>q _ Fz _ (.newL al hl h2)⟩
  ·obtain⟨v,rfl,rv⟩:=zca r;obtain⟨a,xs,rfl,h1,h2⟩:=zaN rv;exact⟨a,xs,rfl,.inr h1,λl hl=>q _ Fz _ (.newL al hl h2)⟩
theorem zdq {K:PySem.W.Frag}:zcR K (zoU K) zcb where
 mono ds Q Q' m h:=by obtain⟨es,e,q⟩:=h;exact⟨es,e,m _ _ q⟩
 run Fz H ds vs Q al r h:=by
  obtain⟨es,e,q⟩:=h;rcases e with rfl | rfl
  ·obtain⟨v,rfl,rv⟩:=zca r;obtain⟨a,xs,rfl,h1,h2⟩:=zai rv;exact⟨a,xs,rfl,.inl ⟨h1,λl hl=>q _ Fz _ (.newT al hl h2)⟩⟩
  ·obtain⟨v,rfl,rv⟩:=zca r;obtain⟨a,xs,rfl,h1,h2⟩:=zfO rv;exact⟨a,xs,rfl,.inr ⟨SqT.of h1,q _ Fz H (.val al (by simp only[Den];exact⟨a,xs,rfl,h1,h2⟩))⟩⟩
theorem zfW {K:PySem.W.Frag}{Fz:FZ}{H:Hp}:∀ {ss:List Str}{xs:List V},DenL K Fz H (ss.map PV.str) xs->xs=ss.map V.str
 | [],xs,h=>by rw[List.map_nil]at h;simp only[DenL]at h;exact h
 | s::r,xs,h=>by
  rw[List.map_cons]at h;simp only[DenL]at h;obtain⟨v,t,z,h1,h2⟩:=h;simp only[Den]at h1;subst z h1;rw[List.map_cons,zfW h2]
theorem zfX {K:PySem.W.Frag}{Fz:FZ}{H:Hp}:∀(ss:List Str),DenL K Fz H (ss.map PV.str) (ss.map V.str)
 | []=>DenL.nil
 | s::r=>by rw[List.map_cons,List.map_cons];exact DenL.cons (by simp only[Den]) (zfX r)
section
variable {X:Cx}{e:Expr}{es:List Expr}{te:TPE}{t:TPA}{p p1 p2 pos pos2:Pos}
theorem zbu (hg:Gl X "len") (hm:X.mg "len" = none) (ha:PuA X (e::es) t) (he:autoParam (starEach (e::es) X.env=(false,eval e X.env)::starEach es X.env) aU0) (hpl:autoParam ((backTo pos (starEach es X.env)).any (·.1)=false) aU0):PuE X (.Call (.Name "len" p) (e::es) [] pos) (tB fLen t):=
 zcC zjP zpj hg hm bLen ha (by decide) (by decide) he hpl
theorem znz (hg:Gl X "list") (hm:X.mg "list" = none) (ha:PuA X (e::es) t) (he:autoParam (starEach (e::es) X.env=(false,eval e X.env)::starEach es X.env) aU0) (hpl:autoParam ((backTo pos (starEach es X.env)).any (·.1)=false) aU0):PuE X (.Call (.Name "list" p) (e::es) [] pos) (tB zej t):=
 zbX zfF zny hg hm zpi ha (by decide) (by decide) he hpl
theorem zhD (hg:Gl X "tuple") (hm:X.mg "tuple" = none) (ha:PuA X (e::es) t) (he:autoParam (starEach (e::es) X.env=(false,eval e X.env)::starEach es X.env) aU0) (hpl:autoParam ((backTo pos (starEach es X.env)).any (·.1)=false) aU0):PuE X (.Call (.Name "tuple" p) (e::es) [] pos) (tB zcb t):=
 zbX zcy zdq hg hm zjN ha (by decide) (by decide) he hpl
noncomputable def zeZ (sep:Str)(te:TPE):TPE:=λρ Q=>te ρ λd _=>∃ss:List Str,d=.lst (ss.map PV.str)/\(ss.map (·.length)).sum+ss.length*sep.length<=16777216/\Q (.str (Txt.join sep ss)) .frz
theorem zfa {sep:Str}{j:Nat}{apos cpos sp:Pos}(he:PuE X e te)(hbase:autoParam (attributeBase (.Constant (.str sep) j sp) "join" X.env (eval (.Constant (.str sep) j sp) X.env)=eval (.Constant (.str sep) j sp) X.env) aU0)
  (hfew:autoParam (((backTo cpos (starEach [e] X.env)).all (λx=>!x.1)&&(backToKw cpos (keywordEach [] X.env)).all (λx=>x.1.isSome)&&decide ([e].length+([]:List Keyword).length+(if ([]:List Keyword).isEmpty then 0 else 1)<30))=true) aU0)
  (hline:autoParam ((apos.endLine == cpos.line)=true) aU0) (hs:autoParam (starEach [e] X.env=(false,eval e X.env)::starEach [] X.env) aU0) (hplain:autoParam ((backTo cpos (starEach [] X.env)).any (·.1)=false) aU0) :
  PuE X (.Call (.Attribute (.Constant (.str sep) j sp) "join" apos) [e] [] cpos) (zeZ sep te) where
 mono ρ Q Q' m h:=he.mono ρ _ _ (λd k q79q=>by obtain⟨ss,e1,e2,q⟩:=q79q;exact⟨ss,e1,e2,m _ _ q⟩) h
 run:=PE.weak (zoP PySem.F.plainAttrs_str PySem.F.slot_str_join PySem.F.type_str_join zno zml (zaE he.run zbU hs) hbase hfew hline hs hplain) λσ H Q h=>by
  obtain⟨ρ,Fz,R,h⟩:=h;refine⟨rfl,ρ,Fz,R,he.mono ρ _ _ (λd k q v F1 H1 p1=>?_) h⟩;obtain⟨ss,rfl,e2,q⟩:=q;obtain⟨a,xs,rfl,h1,h2⟩:=zai (p1.root R);have:=zfW h2;subst this;exact⟨sep,a,ss,rfl,rfl,h1,e2,q _ F1 H1 ⟨p1.ext,by show Den _ _ _ _ _;simp only[Den]⟩⟩
end
noncomputable def tyP:PV->String
 | .non=>"NoneType"
 | .bl _=>"bool"
 | .int _=>"int"
 | .str _=>"str"
 | .ty _=>"type"
 | .tup _=>"tuple"
 | .lst _=>"list"
 | .dK _ _=>"dict"
 | .dT _ _=>"dict"
theorem zhE {X:Cx}{pins:List (Addr×Obj)}{σ:St}{H:Hp}{s:Shared}{Fz:FZ}{d:PV}{x:V}{u:Value}(I:Inv X pins σ H s)(r:Root X.K Fz H d x)(rx:RelV x u)(hd:∀n,d≠.ty n):∃P:Heap->Prop,PySem.W.KitX X.K u (.type (tyP d)) P/\P s.heap/\u≠.builtin "__main__.__loader__#opaque":=by
 cases d with
 | non=>cases zbg r;cases (show u=Value.none from rx);exact⟨_,PySem.W.kitx_none,True.intro,λz=>nomatch z⟩
 | bl y=>cases zcr r;cases (show u=Value.bool y from rx);exact⟨_,PySem.W.kitx_bool,True.intro,λz=>nomatch z⟩
 | int i=>cases zaC r;obtain⟨t,q⟩:=(show ∃t,u=Value.int i t from rx);cases q;exact⟨_,PySem.W.kitx_int,True.intro,λz=>nomatch z⟩
 | str y=>cases zal r;obtain⟨t,q⟩:=(show ∃t,u=Value.str y t from rx);cases q;exact⟨_,PySem.W.kitx_str,True.intro,λz=>nomatch z⟩
 | ty n=>exact absurd rfl (hd n)
 | lst ds=>
  obtain⟨a,xs,rfl,h1,_⟩:=zai r;cases (show u=Value.ref a from rx);obtain⟨its,_,⟨o,n,e,c,_⟩,_⟩:=I.list h1;exact⟨_,PySem.W.kitx_list,⟨o,e,c⟩,λz=>nomatch z⟩
 | tup ds=>
  obtain⟨a,xs,rfl,h1,_⟩:=zaN r;cases (show u=Value.ref a from rx);obtain⟨its,_,⟨o,e,c,_⟩,_⟩:=I.tuple h1;exact⟨_,PySem.W.kitx_tuple,⟨o,e,c⟩,λz=>nomatch z⟩
 | dK ks ds=>
  simp only[Root]at r;obtain⟨a,xs,rfl,h1,_⟩:=r;cases (show u=Value.ref a from rx);obtain⟨_,_,vs,_,o,es,ep,e,ex,_⟩:=zoR I.hok h1;exact⟨_,PySem.W.kitx_dict,⟨o,e,ex.1⟩,λz=>nomatch z⟩
 | dT ks ds=>
  simp only[Root]at r;obtain⟨a,xs,rfl,h1,_⟩:=r;cases (show u=Value.ref a from rx);obtain⟨_,_,vs,_,o,es,ep,e,ex,_⟩:=zqv I.hok h1;exact⟨_,PySem.W.kitx_dict,⟨o,e,ex.1⟩,λz=>nomatch z⟩
noncomputable def fIsi (K:PySem.W.Frag):PF:=λds Q=>(∃d c,ds=[d,.ty c]/\(∀n,d≠.ty n)/\∃b,PySem.W.kitOne K (.type (tyP d)) (.type c)=some b/\Q (.bl b) .frz)\/
 ∃d es,ds=[d,.tup es]/\(∀n,d≠.ty n)/\∃(cs:List String) (b:Bool),es=cs.map PV.ty/\PySem.W.kitAny K (.type (tyP d)) (cs.map Value.type)=some b/\Q (.bl b) .frz
noncomputable def zpk (K:PySem.W.Frag):List V->Hp->VK->Prop:=λxs H Q=>∃Fz d x b,Root K Fz H d x/\(∀n,d≠.ty n)/\((∃c,xs=[x,.ty c]/\PySem.W.kitOne K (.type (tyP d)) (.type c)=some b)\/∃(p:Addr)(cs:List String),xs=[x,.ref p]/\SqT K H p (cs.map V.ty)/\PySem.W.kitAny K (.type (tyP d)) (cs.map Value.type)=some b)/\Q (.bl b) H
theorem zjQ {X:Cx}:zbF X (.builtin "isinstance") (zpk X.K):=by
 intro pins s σ H xs us Q I r h;obtain⟨Fz,d,x,b,rt,hd,e,q⟩:=h;rcases e with ⟨c,rfl,e⟩ | ⟨p,cs,rfl,hp,e⟩
 ·obtain⟨u,w',rfl,r1,r2⟩:=vals2 r;cases r2;obtain⟨P,Z,hP,ne⟩:=zhE I rt r1 hd;exact PySem.W.kia_one Z I.kIn hP e ne λtk=>⟨.bl b,H,I.tok tk,rfl,q⟩
 ·obtain⟨u,w',rfl,r1,r2⟩:=vals2 r;cases r2;obtain⟨P,Z,hP,ne⟩:=zhE I rt r1 hd;obtain⟨its,rv,⟨⟨cls,dd,data,sl⟩,ho,hc,n,hdt⟩,hzz⟩:=I.tuple hp;simp only at hc hdt;subst hc hdt;have ei:its=cs.map Value.type:=by
   clear hp ho e hzz;induction cs generalizing its with
   | nil=>cases rv;rfl
   | cons c cs ih=>
    cases rv with
    | cons q1 q2=>rw[show _=Value.type c from q1,ih _ q2];rfl
  subst ei;exact PySem.W.kia_tup Z I.kIn hP ho e ne λtk=>⟨.bl b,H,I.tok tk,rfl,q⟩
theorem zhF {K:PySem.W.Frag}{Fz:FZ}{H:Hp}:∀ {ss:List String}{xs:List V},DenL K Fz H (ss.map PV.ty) xs->xs=ss.map V.ty
 | [],xs,h=>by rw[List.map_nil]at h;simp only[DenL]at h;exact h
 | s::r,xs,h=>by
  rw[List.map_cons]at h;simp only[DenL]at h;obtain⟨v,t,z,h1,h2⟩:=h;simp only[Den]at h1;subst z h1;rw[List.map_cons,zhF h2]
theorem zpl {K:PySem.W.Frag}:zcR K (zpk K) (fIsi K) where
 mono ds Q Q' m h:=by
  rcases h with ⟨d,c,e,hd,b,e2,q⟩ | ⟨d,es,e,hd,cs,b,e2,e3,q⟩
  ·exact .inl ⟨d,c,e,hd,b,e2,m _ _ q⟩
  ·exact .inr ⟨d,es,e,hd,cs,b,e2,e3,m _ _ q⟩
 run Fz H ds vs Q al r h:=by
  rcases h with ⟨d,c,rfl,hd,b,e,q⟩ | ⟨d,es,rfl,hd,cs,b,rfl,e,q⟩
  ·have q':=q (.bl b) Fz H (.val al (by simp only[Den]));obtain⟨v,u,rfl,r1,r2⟩:=zmw r;simp only[Root,Den]at r2;subst r2;exact⟨Fz,d,v,b,r1,hd,.inl ⟨c,rfl,e⟩,q'⟩
  ·have q':=q (.bl b) Fz H (.val al (by simp only[Den]));obtain⟨v,u,rfl,r1,r2⟩:=zmw r;obtain⟨a,xs,rfl,h1,h2⟩:=zaN r2;have:=zhF h2;subst this;exact⟨Fz,d,v,b,r1,hd,.inr ⟨a,cs,rfl,h1,e⟩,q'⟩
section
variable {X:Cx}{e:Expr}{es:List Expr}{te:TPE}{t:TPA}{p p1 p2 pos pos2:Pos}
theorem zdM {K:PySem.W.Frag}(hK:X.K=K)(hg:Gl X "isinstance") (hm:X.mg "isinstance" = none) (ha:PuA X (e::es) t) (he:autoParam (starEach (e::es) X.env=(false,eval e X.env)::starEach es X.env) aU0) (hpl:autoParam ((backTo pos (starEach es X.env)).any (·.1)=false) aU0):PuE X (.Call (.Name "isinstance" p) (e::es) [] pos) (tB (fIsi K) t):=by
 subst hK;exact zcC zjQ zpl hg hm bIsi ha (by decide) (by decide) he hpl
end
noncomputable abbrev TPO:=PEnv->(Option Int->Prop)->Prop
noncomputable def zqC (K:PySem.W.Frag)(t:TPO):TO:=λσ H Q=>∃ρ Fz,Rel K Fz ρ σ H/\t ρ λo=>∀Fz' H',Ext Fz H Fz' H'->Q o H'
structure PuO (X:Cx)(e:Option Expr)(t:TPO):Prop where
 mono:∀ρ Q Q',(∀o,Q o->Q' o)->t ρ Q->t ρ Q'
 run:PO X e (zqC X.K t)
theorem PO.weak {X:Cx}{e:Option Expr}{t t':TO}(h:PO X e t)(w:∀σ H Q,t' σ H Q->t σ H Q):PO X e t':=λpins s σ H Q I q=>h pins s σ H Q I (w σ H Q q)
noncomputable def zfb:TPO:=λ_ Q=>Q none
noncomputable def zfc (te:TPE):TPO:=λρ Q=>te ρ λd _=>∃i,d=.int i/\Q (some i)
theorem zaY {X:Cx}:PuO X none zfb where
 mono ρ Q Q' m h:=m _ h
 run:=PO.weak znd λσ H Q h=>by
  obtain⟨ρ,Fz,R,h⟩:=h;exact h Fz H ⟨Same.refl H,λ_ h=>h,λ_ h=>.inl h,R.al⟩
theorem zaZ {X:Cx}{e:Expr}{te:TPE}(h:PuE X e te):PuO X (some e) (zfc te) where
 mono ρ Q Q' m q:=h.mono ρ _ _ (λd k q80q=>by obtain⟨i,e,q⟩:=q80q;exact⟨i,e,m _ q⟩) q
 run:=PO.weak (zne h.run) λσ H Q q=>by
  obtain⟨ρ,Fz,R,q⟩:=q;exact⟨ρ,Fz,R,h.mono ρ _ _ (λd k q81q v F1 H1 p1=>by obtain⟨i,e,q⟩:=q81q;exact⟨i,by subst e;exact zaC (p1.root R),q F1 H1 p1.ext⟩) q⟩
noncomputable def cutP (xs:List PV)(lo hi:Option Int):List PV:=(xs.drop (HT.sIx xs.length 0 lo)).take (HT.sIx xs.length xs.length hi-HT.sIx xs.length 0 lo)
noncomputable def pSlL (te:TPE)(tl th:TPO):TPE:=λρ Q=>te ρ λd _=>tl ρ λl=>th ρ λu=>∃ds,d=.lst ds/\Q (.lst (cutP ds l u)) .new
theorem znA {K:PySem.W.Frag}{Fz:FZ}{H:Hp}{ds:List PV}{xs:List V}{lo hi:Option Int}(h:DenL K Fz H ds xs):DenL K Fz H (cutP ds lo hi) (cutV xs lo hi):=by
 unfold cutP cutV;rw[h.length];exact(h.drop _).take _
section
variable {X:Cx}{e a b:Expr}{te ta tb:TPE}{lo hi:Option Expr}{tl th:TPO}{pos p2:Pos}
theorem zlF (he:PuE X e te)(hl:PuO X lo tl)(hu:PuO X hi th):PuE X (.Subscript e (.Slice lo hi none p2) pos) (pSlL te tl th) where
 mono ρ Q Q' m h:=he.mono ρ _ _ (λd k h=>hl.mono ρ _ _ (λl h=>hu.mono ρ _ _ (λu q82q=>by obtain⟨ds,e,q⟩:=q82q;exact⟨ds,e,m _ _ q⟩) h) h) h
 run:=PE.weak (zhs znh he.run hl.run hu.run) λσ H Q h=>by
  obtain⟨ρ,Fz,R,h⟩:=h;refine⟨ρ,Fz,R,he.mono ρ _ _ (λd k q v F1 H1 p1=>?_) h⟩;refine⟨ρ,F1,R.ext p1.ext,hl.mono ρ _ _ (λl q F2 H2 x2=>?_) q⟩;refine⟨ρ,F2,(R.ext p1.ext).ext x2,hu.mono ρ _ _ (λu q3 F3 H3 x3=>?_) q⟩;obtain⟨ds,e3,q4⟩:=q3;subst e3;obtain⟨a,xs,rfl,h1,h2⟩:=zai (((p1.root R).mono x2.same x2.sub).mono x3.same x3.sub);exact⟨a,xs,rfl,h1,λp hp=>q4 _ F3 _ ((Post.newL x3.al hp (znA h2)).behind (p1.ext.trans (x2.trans x3)))⟩
noncomputable def zpm (K:PySem.W.Frag):R2:=λx y H Q=>∃l b xs zs,x=.ref l/\y=.ref b/\(Rd H l (.lst xs)\/KX K l xs)/\(Rd H b (.lst zs)\/KX K b zs)/\xs.length+zs.length<=sizeLine/\∀p,H p=none->Q (.ref p) (upd H p (.lst (xs++zs)))
theorem zpn {pins:List (Addr×Obj)}{σ:St}{H:Hp}{s:Shared}{l:Addr}{xs:List V}(I:Inv X pins σ H s)(h:Rd H l (.lst xs)\/KX X.K l xs):∃(its:List Value)(n:Nat),Vals xs its/\s.heap.get? l=some { cls:=.type "list",data:=.seq its.toArray n }:=by
 rcases h with h | ⟨its,n,h1,_,h3⟩
 ·obtain⟨z,its,n,r,e⟩:=(show zby X.prog X.w H s.heap l (.lst xs) from h.ok I.hok);exact⟨its,n,r,e⟩
 ·exact⟨its.toList,n,h3,by rw[Array.toArray_toList];exact I.kIn l _ h1⟩
theorem znB:OpR X (binaryOp .Add) (zpm X.K):=by
 intro pins s σ H x y v u Q I rx ry h;obtain⟨l,b,xs,zs,rfl,rfl,hH,hB,hz,q⟩:=h;cases rx;cases ry;obtain⟨its,n,r,e⟩:=zpn I hH;obtain⟨its2,n2,r2,e2⟩:=zpn I hB;have l1:=r.length;have l2:=r2.length;refine PySem.P.add_list e e2 ?_ (by rw[List.size_toArray,List.size_toArray];lia);have ea:its.toArray++its2.toArray=(its++its2).toArray:=by simp
 rw[ea];exact⟨.ref _,_,I.lnew (t':=s.toks) (r.append r2) (by rw[List.length_append];lia),rfl,q _ I.fresh⟩
noncomputable def pCat:P2:=λd e Q=>∃ds es,d=.lst ds/\e=.lst es/\ds.length+es.length<=sizeLine/\Q (.lst (ds++es)) .new
theorem zpo {K:PySem.W.Frag}:POp K (zpm K) pCat where
 mono d e Q Q' m h:=by obtain⟨ds,es,e1,e2,e3,q⟩:=h;exact⟨ds,es,e1,e2,e3,m _ _ q⟩
 run Fz H x y d e Q al rx ry h:=by
  obtain⟨ds,es,rfl,rfl,e3,q⟩:=h;obtain⟨a,xs,rfl,h1,h2⟩:=zfP rx;obtain⟨b,ys,rfl,g1,g2⟩:=zfP ry;have l1:=h2.length;have l2:=g2.length;exact⟨a,b,xs,ys,rfl,rfl,h1,g1,by lia,λp hp=>q _ Fz _ (.newL al hp (h2.append g2))⟩
theorem zmx (ha:PuE X a ta)(hb:PuE X b tb):PuE X (.BinOp a .Add b pos) (t2 pCat ta tb):=zeh znB zpo ha hb
end
structure Fx (K:PySem.W.Frag)(mg:Str->Option Value)(x:Str)(st:Stmt)(ps:List Str)(f:Addr)(fd:FuncData):Prop where
 fn:Fun K x x st f fd
 bd:Binds K fd ps []
 mg:mg x=some (.ref f)
structure Bl (mg:Str->Option Value):Prop where
 range:mg "range" = none
 len:mg "len" = none
 list:mg "list" = none
 tuple:mg "tuple" = none
 sorted:mg "sorted" = none
 set:mg "set" = none
 isi:mg "isinstance" = none
 str:mg "str" = none
 int:mg "int" = none
 bool:mg "bool" = none
 dict:mg "dict" = none
 enumerate:mg "enumerate" = none
 zip:mg "zip" = none
 min:mg "min" = none
 max:mg "max" = none
 sum:mg "sum" = none
 all:mg "all" = none
 any:mg "any" = none
 reversed:mg "reversed" = none
 abs:mg "abs" = none
 ord:mg "ord" = none
theorem zcD {K:PySem.W.Frag}{T c:String}{b:Bool}(h1:PySem.W.kitMeta c=true)(h2:(fastBuiltinMro T).map (·.contains (.type c))=some b)(h3:(Value.type T == Value.type c)=false):PySem.W.kitOne K (.type T) (.type c)=some b:=by
 unfold PySem.W.kitOne PySem.W.kitCls;rw[if_neg (by rw[h3];decide)];dsimp only;rw[if_pos h1];exact h2
theorem zch {K:PySem.W.Frag}{T:String}:PySem.W.kitOne K (.type T) (.type T)=some true:=by
 unfold PySem.W.kitOne;rw[if_pos (by simp)]
theorem zdN {K:PySem.W.Frag}:PySem.W.kitOne K (.type "int") (.type "str")=some false:=zcD (by decide +kernel) (by decide +kernel) (by decide +kernel)
theorem zfY {K:PySem.W.Frag}:PySem.W.kitOne K (.type "int") (.type "bool")=some false:=zcD (by decide +kernel) (by decide +kernel) (by decide +kernel)
theorem zjR {P:Program}{w:World}{K:PySem.W.Frag}{mg mb:Str->Option Value}{CX:CXT}{k:Nat}{fa a:Addr}{fd:FuncData}{x:Str}{sp:Sp}{s₁:Shared}{vs:List Value}{ns:List Int}
  (KX:K.In s₁.heap) (hns:s₁.heap.Ns mainGlobals mg) (hb:s₁.heap.Ns builtinsNs mb) (hbb:∀x:Str,x≠"__name__"->mb x=bootBuiltins x) (hlim:s₁.heap.NoLimit) (hg:s₁.gens = #[])
  (ha:s₁.heap.get? a=some { cls:=.type "list",data:=.seq vs.toArray }) (hi:IntsAre vs ns) (hl:ns.length<=sizeLine) (hr:Room k callerA)
  (F:∀base:Heap,K.In base->base.Ns mainGlobals mg->FnOk P w K mg base CX k fa fd [x] sp) (hbind:∀(s:Shared) (u:Value),BindsTo s fd ⟨[u],[]⟩ [(x,u)])
  (hsp:∀H:Hp,Only H->(Rd H a (.lst (ns.map V.int))\/PL.KX K a (ns.map V.int))->sp [.ref a] H (λv _=>v=.bl true) λ_ _ _=>False)
  (hCX:∀H e s',CX [] H s₁ (λ_ _ _=>False) e s'->False) :
  codeAny (model P w) callerA (.call (.ref fa) ⟨[.ref a],[]⟩) (λr s'=>r=.ok (.ret (.bool true))/\OldK s₁.heap s'.heap/\s'.os=s₁.os/\AllBare s'.gens) s₁:=by
 have rv:=zfH hi;have lenV:=hi.length;have core:∀H:Hp,Only H->(Rd H a (.lst (ns.map V.int))\/PL.KX K a (ns.map V.int))->HOk P w H s₁.heap->(∀b,H b≠none->b=a)->(H a≠none->K.lookup a=none)->
   codeAny (model P w) callerA (.call (.ref fa) ⟨[.ref a],[]⟩) (λr s'=>r=.ok (.ret (.bool true))/\OldK s₁.heap s'.heap/\s'.os=s₁.os/\AllBare s'.gens) s₁:=by
  intro H hO hS hok hA hK;have base_of:∀ {b:Addr} {o:Obj},s₁.heap.get? b=some o->H b=none->(hidT s₁.heap H).get? b=some o:=λe n=>zlh e n;have noA:∀ {b:Addr} {o:Obj} {es:Array DictEntry} {ep:Nat},s₁.heap.get? b=some o->o.data=.dict es ep->H b=none:=λ{b o es ep} e d=>by
   cases q:H b with
   | none=>rfl
   | some u=>
    have e':b=a:=hA b (by rw[q];simp);subst e';rw[ha]at e;cases e;have d':Data.seq vs.toArray _=Data.dict es ep:=d;cases d'
  have nsK:∀ {b:Addr} {m:Str->Option Value},s₁.heap.Ns b m->(hidT s₁.heap H).Ns b m:=λ{b m} ⟨o,es,ep,e,d,r⟩=>⟨o,es,ep,base_of e (noA e d),d,r⟩;have hKb:K.In (hidT s₁.heap H):=λb o e=>base_of (KX b o e) (by
   cases q:H b with
   | none=>rfl
   | some u=>
    have e':b=a:=hA b (by rw[q];simp);subst e';rw[hK (by rw[q];simp)]at e;cases e)
  have hM:Mod K mg (hidT s₁.heap H):=⟨hKb,nsK hns,⟨mb,nsK hb,hbb⟩,let ⟨mc,h1,h2⟩:=hlim;⟨mc,nsK h1,h2⟩⟩;have e0:Env0 P w K mg (hidT s₁.heap H) callerA [] s₁ H:=⟨rfl,hM,λb o e=>zmT e,Nat.le_of_eq (ziV _ _),trivial,λb hb=>absurd (show b∈([]:List Addr) from hb) (by simp),hok,.of_eq hg⟩;refine codeAny_mono ((F _ hKb (nsK hns)).run callerA [] s₁ H ⟨[.ref a],[]⟩ [.ref a] [.ref a] _ _ hr e0 (hbind s₁ (.ref a)) (.cons rfl .nil) (hsp H hO hS)) λr s' h=>?_;cases r with
  | error e=>exact(hCX H e s' h).elim
  | ok fl=>
   cases fl with
   | next=>exact False.elim h
   | brk=>exact False.elim h
   | cont=>exact False.elim h
   | ret u=>
    obtain⟨v,H',os,bare,un,hok',r',q⟩:=h;have q':v=.bl true:=q;subst q';obtain rfl:u=Value.bool true:=r';refine⟨rfl,OldK.of_keep λb o e=>?_,os,bare⟩;cases q:H b with
    | none=>exact un.keep b o e q (by intro z;exact absurd (show b∈([]:List Addr) from z) (by simp)) (by simp)
    | some u=>
     rcases hO b with z | ⟨ob,xs,z⟩
     ·rw[q]at z;cases z
     ·have z2:=un.frzs b ob _ z;obtain⟨e1,_⟩:=hok b _ z;obtain⟨e2,_⟩:=hok' b _ z2;rw[e]at e1;cases e1;exact e2
 cases hk:K.lookup a with
 | some o=>
  have e:=KX a o hk;rw[ha]at e;cases e;refine core (λ_=>none) (λ_=>.inl rfl) (.inr ⟨vs.toArray,_,hk,by rw[List.size_toArray,lenV];exact hl,by simpa using rv⟩) (λb u z=>by have z':(none:Option HO)=some u:=z;cases z') (λb z=>absurd rfl z) λz=>absurd rfl z
 | none=>
  refine core (λb=>if b=a then some (.frz { cls:=.type "list",data:=.seq vs.toArray } (.lst (ns.map V.int))) else none) (λb=>?_) (.inl (.inr ⟨{ cls:=.type "list",data:=.seq vs.toArray },if_pos rfl⟩)) (λb u z=>?_) (λb z=>?_) λ_=>hk
  ·by_cases hb:b=a
   ·exact .inr ⟨_,_,if_pos hb⟩
   ·exact .inl (if_neg hb)
  ·by_cases hb:b=a
   ·have z':=(if_pos hb).symm.trans z;cases z';subst hb;exact⟨ha,by rw[List.length_map];exact hl,vs,_,rv,ha⟩
   ·have z':=(if_neg hb).symm.trans z;cases z'
  ·by_cases hb:b=a
   ·exact hb
   ·exact absurd (if_neg hb) z
theorem zfZ {K:PySem.W.Frag}{Fz:FZ}{H:Hp}:∀(ns:List Int),DenL K Fz H (ns.map PV.int) (ns.map V.int)
 | []=>DenL.nil
 | n::r=>by rw[List.map_cons,List.map_cons];exact DenL.cons (by simp only[Den]) (zfZ r)
theorem zpp {K:PySem.W.Frag}{H:Hp}{a:Addr}{ns:List Int}{F:PF}{E:XK}(m:zbJ F)(h:Rd H a (.lst (ns.map V.int))\/KX K a (ns.map V.int))(hF:F [.lst (ns.map PV.int)] λd k=>d=.bl true):spP K F [.ref a] H (λv _=>v=.bl true) E:=by
 refine⟨λb=>H b≠none,[.lst (ns.map PV.int)],λb hb=>hb,DenL.cons ?_ DenL.nil,m _ _ _ (λd k e v F' H' p=>?_) hF⟩
 ·simp only[Den];refine⟨a,ns.map V.int,rfl,?_,zfZ ns⟩;rcases h with h | h
  ·refine .inl ⟨?_,h⟩;rcases h with h | ⟨o,h⟩<;>(show H a≠none;rw[h];exact λz=>nomatch z)
  ·exact .inr h
 ·subst e;cases k with
  | frz=>have q:Den K F' H' (.bl true) v:=p.opd;simpa only[Den]using q
  | new=>obtain⟨b,_,_,_,o⟩:=p.opd;exact o.elim
  | own i=>obtain⟨z,_⟩:=p.opd;simp at z
theorem zqD {l:PySem.W.OpenLaw}{k:Nat}{q:Program}{loose:List Str}{XP:(Str->Option Value)->Heap->Prop}{YP:World->Heap->Prop}{d:DefRec}{K:Params->PySem.W.Frag}{FL:PF}{x:Str}
  (hn:l.most=some 63) (hdf:d.params.defaults=[]) (hr:Room k callerA) (m:zbJ FL)
  (hY:∀(w:World) (h:Heap),YP w h->(K w.params).In h)
  (F:∀(w:World) (mg:Str->Option Value) (fa:Addr) (h:Heap),(K w.params).In h->h.Ns mainGlobals mg->mg d.name=some (.ref fa)->
   ∃fd:FuncData,(∀(s:Shared) (u:Value),BindsTo s fd ⟨[u],[]⟩ [(x,u)])/\∀base:Heap,(K w.params).In base->base.Ns mainGlobals mg->FnOk l.prog w (K w.params) mg base CX0 k fa fd [x] (spP (K w.params) FL))
  (hF:∀ns:List Int,ns.length<=63->FL [.lst (ns.map PV.int)] λd k=>d=.bl true) :
  PySem.W.WalkO q loose XP YP l.row.toRowW d [] (λf vs=>PySem.call f vs):=by
 refine Att.zgF hn hdf λw s₀ s₁ mg mb fa o pm cd doc a vs ns G Y ho hd hcd hmg hobj hints hlen hg=>?_;have KX:=hY w _ Y;obtain⟨fd,hb,hFn⟩:=F w mg fa _ KX G.T.g hmg;exact zjR KX G.T.g G.T.b G.T.builtins G.T.nolimit hg hobj hints (Nat.le_trans hlen (by decide)) hr hFn hb (λH hO hS=>zpp m hS (hF ns hlen)) λH e s' z=>z
section
variable {X:Cx}{a b c:Expr}{rest:List Expr}{pos:Pos}{ta tb tc:TPE}
noncomputable def zbC (p p':P2)(ta tb tc:TPE):TPE:=λρ Q=>ta ρ λd _=>tb ρ λe _=>p d e λz _=>∃k,z=.bl k/\if k=true then tc ρ λf _=>p' e f Q else Q (.bl false) .frz
variable {r r':R2}{p p':P2}
theorem zew (hp:POp X.K r p)(hp':POp X.K r' p')(ha:PuE X a ta)(hb:PuE X b tb)(hc:PuE X c tc):∀ρ Q Q',(∀d k,Q d k->Q' d k)->zbC p p' ta tb tc ρ Q->zbC p p' ta tb tc ρ Q':=λρ Q Q' m h=>
 ha.mono ρ _ _ (λd _ h=>hb.mono ρ _ _ (λe _ h=>hp.mono d e _ _ (λz _ ⟨k,e1,q⟩=>⟨k,e1,by
  cases k with
  | false=>rw[if_neg Bool.false_ne_true]at q ⊢;exact m _ _ q
  | true=>rw[if_pos rfl]at q ⊢;exact hc.mono ρ _ _ (λf _ q=>hp'.mono e f _ _ m q) q⟩) h) h) h
theorem zjS (hp:POp X.K r p)(hp':POp X.K r' p')(ha:PuE X a ta)(hb:PuE X b tb)(hc:PuE X c tc){σ:St}{H:Hp}{Q:VK}(h:lift X.K (zbC p p' ta tb tc) σ H Q) :
  zmq r r' (lift X.K ta) (lift X.K tb) (lift X.K tc) σ H Q:=by
 obtain⟨ρ,Fz,R,h⟩:=h;refine zoV ha hb ρ Fz R (ha.mono ρ _ _ (λd kd h=>hb.mono ρ _ _ (λe ke h=>?_) h) h);intro x y Fz1 H1 Fz2 H2 p1 p2;have R1:=R.ext p1.ext;have R2:=R1.ext p2.ext;have ry:=p2.root R1;refine hp.run Fz2 H2 x y d e _ p2.ext.al ((p1.root R).mono p2.ext.same p2.ext.sub) ry (hp.mono d e _ _ (λz k q v Fz3 H3 p3=>?_) h);obtain⟨c',rfl,q⟩:=q;have p3':Post X.K ρ σ Fz2 H2 Fz3 H3 (.bl c') k v:=⟨p3.ext,p3.opd.up⟩;refine⟨c',zcr (p3'.root R2),?_⟩;have R3:=R2.ext p3.ext;cases c' with
 | false=>
  rw[if_neg Bool.false_ne_true]at q ⊢;exact q _ Fz3 H3 ⟨(p1.ext.trans p2.ext).trans p3.ext,by show Den _ _ _ _ _;simp only[Den]⟩
 | true=>
  rw[if_pos rfl]at q ⊢;refine⟨ρ,Fz3,R3,hc.mono ρ _ _ (λf kf q w Fz4 H4 p4=>?_) q⟩;refine hp'.run Fz4 H4 y w e f Q p4.ext.al ((ry.mono p3.ext.same p3.ext.sub).mono p4.ext.same p4.ext.sub) (p4.root R3) (hp'.mono e f _ _ (λz k q v Fz' H' p5=>?_) q);exact q v Fz' H' (p5.behind (((p1.ext.trans p2.ext).trans p3.ext).trans p4.ext))
theorem zjT {op op':CmpOp}(ho:OpR X (compareOp op) r)(ho':OpR X (compareOp op') r')(hp:POp X.K r p)(hp':POp X.K r' p')(ha:PuE X a ta)(hb:PuE X b tb)(hc:PuE X c tc)
  (hm:autoParam (lastMarks [op,op'] [b,c]=false) aU5):PuT X (.Compare a [op,op'] [b,c] pos) (tBl (zbC p p' ta tb tc)) where
 mono ρ Q Q' m h:=zew hp hp' ha hb hc ρ _ _ (λd _ q=>zhx m q) h
 run:=PT.weak (zlm ho ho' ha.run hb.run hc.run hm) λσ H Q h=>by
  obtain⟨ρ,Fz,R,h⟩:=h;refine zjS hp hp' ha hb hc ⟨ρ,Fz,R,zew hp hp' ha hb hc ρ _ _ (λd k q v Fz' H' p=>?_) h⟩;obtain⟨b,e,q⟩:=zeR.mp q;refine⟨b,?_,q Fz' H' p.ext⟩;subst e;have w:=p.root R;simpa only[Root,Den]using w
noncomputable abbrev pILe:P2:=i0 λi j=>.bl (decide (i<=j))
theorem zlG (ha:PuE X a ta)(hb:PuE X b tb)(hc:PuE X c tc)(hm:autoParam (lastMarks [.LtE,.LtE] [b,c]=false) aU5):PuT X (.Compare a [.LtE,.LtE] [b,c] pos) (tBl (zbC pILe pILe ta tb tc)):=zjT zoE zoE zdm zdm ha hb hc hm
end
theorem bAll:bootBuiltins "all" = some (.builtin "all"):=by decide +kernel
section
variable {X:Cx}
theorem zjU (hc:X.calm=true):zbF X (.builtin "all") (λxs H Q=>∃(p:Addr) (bs:List Bool),xs=[V.ref p]/\SqL X.K H p (bs.map V.bl)/\Q (.bl (bs.all id)) H):=by
 intro pins s σ H xs us Q I r h;obtain⟨p,bs,rfl,hq,q⟩:=h;obtain⟨u,rfl,rx⟩:=vals1 r;cases rx;obtain⟨its,r',pl,hz⟩:=I.list hq;have hL:=pl.isList;have hpl:p<s.heap.objs.size:=by obtain⟨_,x,_⟩:=hL;exact Heap.lt_size x
 have hlen:its.length=bs.length:=by rw[<- r'.length];simp
 refine call_all_walk (wpAny_pyIter_list hL ?_);refine⟨_,[_,p],[_],_,_,_,λi=>bs.getD i true,rfl,Walks.list (A:=X.A.in1) (I.ok.hd hc) _ p (Nat.ne_of_lt hpl) its.toArray,⟨⟨_,Heap.get?_push_size _ rfl,rfl,rfl⟩,hL.push _⟩,?_,λh' tk hk=>?_⟩
 ·intro i v s' Q' E' hP hQ;have hv:its[i]? = some v:=by simpa using hP
  have hi:i<bs.length:=by rw[<- hlen];exact(List.getElem?_eq_some_iff.mp hv).1
  obtain⟨v',hv',rv⟩:=r'.get (i:=i) (x:=.bl bs[i]) (by simp[hi]);rw[hv]at hv';cases hv';cases rv;refine wpAny_truthy_bool ?_;have:bs.getD i true=bs[i]:=by rw[List.getD_eq_getElem?_getD,List.getElem?_eq_getElem hi];rfl
  rw[<- this];exact hQ
 ·refine⟨.bl (bs.all id),H,I.kept (t':=tk) (λb o x=>hk b o ?_ (Heap.get?_push_of_some _ x)),?_,q⟩
  ·have:=Heap.lt_size x;simp;exact Nat.ne_of_lt this
  ·have:(List.range its.toArray.size).all (λi=>bs.getD i true)=bs.all id:=by
    rw[List.size_toArray,hlen];rw[Bool.eq_iff_iff,List.all_eq_true,List.all_eq_true];constructor
    ·intro h x hx;obtain⟨i,hi,e⟩:=List.getElem_of_mem hx;have:=h i (List.mem_range.mpr hi);rw[List.getD_eq_getElem?_getD,List.getElem?_eq_getElem hi]at this;simpa[<- e]using this
    ·intro h i hi;have hi:=List.mem_range.mp hi;rw[List.getD_eq_getElem?_getD,List.getElem?_eq_getElem hi];simpa using h _ (List.getElem_mem hi)
   show RelV _ _;rw[this];rfl
theorem zfd {K:PySem.W.Frag}{Fz:FZ}{H:Hp}:∀ {bs:List Bool}{xs:List V},DenL K Fz H (bs.map PV.bl) xs->xs=bs.map V.bl
 | [],xs,h=>by simpa only[List.map,DenL]using h
 | b::bs,xs,h=>by
  simp only[List.map,DenL,Den]at h;obtain⟨v,r,rfl,rfl,h⟩:=h;rw[zfd h];rfl
noncomputable def fAll:PF:=λds Q=>∃bs:List Bool,ds=[.lst (bs.map PV.bl)]/\Q (.bl (bs.all id)) .frz
theorem zpq:zcR X.K (λxs H Q=>∃(p:Addr)(bs:List Bool),xs=[V.ref p]/\SqL X.K H p (bs.map V.bl)/\Q (.bl (bs.all id)) H) fAll where
 mono ds Q Q' m h:=by obtain⟨bs,e,q⟩:=h;exact⟨bs,e,m _ _ q⟩
 run Fz H ds vs Q al hr h:=by
  obtain⟨bs,rfl,q⟩:=h;obtain⟨v,rfl,h1⟩:=zca hr;obtain⟨a,xs,rfl,h2,h3⟩:=zai h1;rw[zfd h3]at h2;exact⟨a,bs,rfl,h2,q _ Fz H (.val al (by simp only[Den]))⟩
variable {e:Expr}{es:List Expr}{t:TPA}{p pos:Pos}
theorem zpr (hc:X.calm=true)(hg:Gl X "all") (hm:X.mg "all" = none) (ha:PuA X (e::es) t) (he:autoParam (starEach (e::es) X.env=(false,eval e X.env)::starEach es X.env) aU0) (hpl:autoParam ((backTo pos (starEach es X.env)).any (·.1)=false) aU0):PuE X (.Call (.Name "all" p) (e::es) [] pos) (tB fAll t):=
 zcC (zjU hc) zpq hg hm bAll ha (by decide) (by decide) he hpl
end
section
variable {X:Cx}
variable {e:Expr}{es:List Expr}{t:TPA}{p pos:Pos}
theorem zps:SlR X (λx lo hi H Q=>∃z:Str,x=.str z/\z.length<=sizeLine/\Q (.str (Txt.slice z lo hi)) H):=by
 intro pins s σ H x v vl vu lo hi sl Q I rx hs pl pu h;obtain⟨z,rfl,hz,q⟩:=h;obtain⟨t,rfl⟩:=rx;refine⟨"str",_,PySem.F.slot_str_getitem.lookup,typeIs_str _ _ _,?_⟩;have fin:∀(l u:Option (Int×Tok)),s.heap.IsSlice sl l u none->l.map (·.1)=lo->u.map (·.1)=hi->wpAny (model X.prog X.w) X.A (getItem (.str z t) (.ref sl)) (EP X pins σ Q) X.xe s:=λl u h1 h2 h3=>by
  subst h2 h3;refine wpAny_getItem_str_slice (st:=none) h1 rfl (post_val_or_str ⟨Nat.le_trans (Txt.slice_le z _ _) hz,λt' k=>?_⟩);exact⟨.str (Txt.slice z (l.map (·.1)) (u.map (·.1))),H,I.tok _,⟨t',rfl⟩,q⟩
 cases pl with
 | none=>cases pu with
  | none=>exact fin none none hs rfl rfl
  | int j t2=>exact fin none (some (j,t2)) hs rfl rfl
 | int i t1=>cases pu with
  | none=>exact fin (some (i,t1)) none hs rfl rfl
  | int j t2=>exact fin (some (i,t1)) (some (j,t2)) hs rfl rfl
noncomputable def pSlS (te:TPE)(tl th:TPO):TPE:=λρ Q=>te ρ λd _=>tl ρ λl=>th ρ λu=>∃z:Str,d=.str z/\z.length<=sizeLine/\Q (.str (Txt.slice z l u)) .frz
variable {e:Expr}{te:TPE}{lo hi:Option Expr}{tl th:TPO}{p2 pos:Pos}
theorem zaQ (he:PuE X e te)(hl:PuO X lo tl)(hu:PuO X hi th):PuE X (.Subscript e (.Slice lo hi none p2) pos) (pSlS te tl th) where
 mono ρ Q Q' m h:=he.mono ρ _ _ (λd k h=>hl.mono ρ _ _ (λl h=>hu.mono ρ _ _ (λu q84q=>by obtain⟨ds,e,e2,q⟩:=q84q;exact⟨ds,e,e2,m _ _ q⟩) h) h) h
 run:=PE.weak (zhs zps he.run hl.run hu.run) λσ H Q h=>by
  obtain⟨ρ,Fz,R,h⟩:=h;refine⟨ρ,Fz,R,he.mono ρ _ _ (λd k q v F1 H1 p1=>?_) h⟩;refine⟨ρ,F1,R.ext p1.ext,hl.mono ρ _ _ (λl q F2 H2 x2=>?_) q⟩;refine⟨ρ,F2,(R.ext p1.ext).ext x2,hu.mono ρ _ _ (λu q3 F3 H3 x3=>?_) q⟩;obtain⟨z,e3,e4,q4⟩:=q3;subst e3;exact⟨z,zal (p1.root R),e4,q4 _ F3 _ ((Post.val x3.al (by simp only[Den])).behind (p1.ext.trans (x2.trans x3)))⟩
end
noncomputable abbrev PFM:=PV->List PV->(PV->PV->Prop)->Prop
structure FOut where
 nx:PEnv->Prop
 rt:PEnv->Prop
structure FOut.le (O O':FOut):Prop where
 nx:∀ρ,O.nx ρ->O'.nx ρ
 rt:∀ρ,O.rt ρ->O'.rt ρ
noncomputable abbrev TPF:=PEnv->FOut->Prop
section
variable {X:Cx}
noncomputable def zek:PF:=λds Q=>∃b:Bool,ds=[.bl b]/\Q (.int (if b then 1 else 0)) .frz
theorem znC:zcR X.K (λxs H Q=>(∃i,xs=[.int i]/\Q (.int i) H)\/∃k,xs=[.bl k]/\Q (.int (if k then 1 else 0)) H) zek where
 mono ds Q Q' m h:=by obtain⟨b,e,q⟩:=h;exact⟨b,e,m _ _ q⟩
 run Fz H ds vs Q al hr h:=by
  obtain⟨b,rfl,q⟩:=h;obtain⟨v,rfl,h1⟩:=zca hr;refine .inr ⟨b,by rw[zcr h1],q _ Fz H (.val al ?_)⟩;simp only[Den]
variable {e:Expr}{es:List Expr}{t:TPA}{p pos:Pos}
theorem zjV (hg:Gl X "int") (hm:X.mg "int" = none) (ha:PuA X (e::es) t) (he:autoParam (starEach (e::es) X.env=(false,eval e X.env)::starEach es X.env) aU0) (hpl:autoParam ((backTo pos (starEach es X.env)).any (·.1)=false) aU0):PuE X (.Call (.Name "int" p) (e::es) [] pos) (tB zek t):=
 zbX zjf znC hg hm bInt ha (by decide) (by decide) he hpl
end
inductive BX where
 | L (ds:List PV)
 | K (ks:List Key) (ds:List PV)
 | T (ks:List (List Key)) (ds:List PV)
noncomputable def BX.ok:BX->Prop
 | .L _=>True
 | .K ks ds=>ks.length=ds.length
 | .T ks ds=>ks.length=ds.length
noncomputable def BX.obj:BX->List Addr->HO
 | .L _,bs=>.lst (bs.map V.ref)
 | .K ks _,bs=>.dK (ks.zip (bs.map V.ref))
 | .T ks _,bs=>.dT (ks.zip (bs.map V.ref))
structure BOut where
 nx:PEnv->BX->Prop
 rt:PV->Kd->Prop
 bk:PEnv->BX->Prop
 ct:PEnv->BX->Prop
structure BOut.le (O O':BOut):Prop where
 nx:∀ρ β,O.nx ρ β->O'.nx ρ β
 rt:∀d k,O.rt d k->O'.rt d k
 bk:∀ρ β,O.bk ρ β->O'.bk ρ β
 ct:∀ρ β,O.ct ρ β->O'.ct ρ β
noncomputable abbrev TPB:=PEnv->BX->BOut->Prop
end PL
namespace Srt
open PySem PyProof.Rows
section
variable {σ α:Type}{M:Model}{A:Around}{E:Value->Shared->Prop}{s:Shared}{c:Prop}{dc:Decidable c}{Q:α->σ->Prop}{st:σ}
theorem zmy {L H:Nat}(h:¬ L>=H):L<=L+(H-L) / 2/\L+(H-L) / 2<H:=by lia
theorem znD {L H:Nat}(h:¬ L>=H):L<=(L+H) / 2/\(L+H) / 2<H:=by lia
theorem zax {x y:StateT σ Sem α}(h1:c->wpS M A E s x Q st)(h2:¬ c->wpS M A E s y Q st):wpS M A E s (if c then x else y) Q st:=by
 split
 ·exact h1 ‹_›
 ·exact h2 ‹_›
theorem zmz {x y:StateT σ Sem α}(R:σ->Prop)(key:∀st2,R st2->wpS M A E s y Q st2)(h1:c->(∀st2,R st2->wpS M A E s y Q st2)->wpS M A E s x Q st)(h2:¬ c->R st):wpS M A E s (if c then x else y) Q st:=by
 split
 ·exact h1 ‹_› key
 ·exact key _ (h2 ‹_›)
theorem zpt {γ:Type}{g:γ->StateT σ Sem α}{v:γ}(h:∀z,wpS M A E s (g z) Q st):∀u:γ,wpS M A E s (if c then g u else g v) Q st:=λu=>by
 split<;>exact h _
theorem zhG {γ δ:Type}{g m:γ->δ->StateT σ Sem α}{H:γ->δ->Prop}(P:γ->δ->Prop)(key:∀x y,P x y->wpS M A E s (g x y) Q st)(h1:∀u v,H u v->c->(∀x y,P x y->wpS M A E s (g x y) Q st)->wpS M A E s (m u v) Q st)(h2:∀u v,H u v->¬ c->P u v):∀u v,H u v->wpS M A E s (if c then m u v else g u v) Q st:=λu v hH=>by
 by_cases h:c
 ·rw[if_pos h];exact h1 u v hH h key
 ·rw[if_neg h];exact key _ _ (h2 u v hH h)
end
noncomputable def gal:Bool->Keyed->Array Keyed->Nat->Nat->Nat->StateT SortSt Sem (Option Nat):=sortPriv% PySem.Builtin.gallop
structure Cmp (prog:Program)(w:World)(A:Around)(E:Value->Shared->Prop)(s:Shared)(k:SortKind)(P:Keyed->Prop)(f:Keyed->Keyed->Bool):Prop where
 run:∀ {x y:Keyed} {Q:Option Bool->SortSt->Prop} {st:SortSt},P x->P y->kindOf st=k->Q (some (f x y)) st->wpS (model prog w) A E s (lt' x y) Q st
section
variable {prog:Program}{w:World}{A:Around}{E:Value->Shared->Prop}{s:Shared}{k:SortKind}{P:Keyed->Prop}{f:Keyed->Keyed->Bool}
noncomputable def beyB (f:Keyed->Keyed->Bool)(l:Bool)(key:Keyed)(a:Array Keyed)(b i:Nat):Bool:=match a[b+i]? with
 | some x=>if l then f x key else !f key x
 | none=>false
theorem zas {a:Array Keyed}{i:Nat}{x:Keyed}{Q:Keyed->SortSt->Prop}{st:SortSt}(hx:a[i]? = some x)(h:Q x st):wpS (model prog w) A E s (elem' a i) Q st:=by
 rw[elem'_eq,hx];exact wpS_pure h
theorem zpu (C:Cmp prog w A E s k P f){l:Bool}{key:Keyed}{a:Array Keyed}{b i:Nat}{Q:Option Bool->SortSt->Prop}{st:SortSt}(hi:b+i<a.size)(hP:∀(j:Nat) x,a[j]? = some x->P x)(hk:P key)(hst:kindOf st=k)(h:Q (some (beyB f l key a b i)) st) :
  wpS (model prog w) A E s (do let x <- elem' a (b+i);if l=true then lt' x key else do let r <- lt' key x;pure (Option.map (λx=>!x) r)) Q st:=by
 have hx:a[b+i]? = some (a[b+i]):=getElem?_pos a (b+i) hi;have hp:=hP _ _ hx;unfold beyB at h;rw[hx]at h;refine wpS_bind (zas hx ?_);cases l with
 | true=>rw[if_pos rfl];exact C.run hp hk hst h
 | false=>
  rw[if_neg (by decide)];refine wpS_bind (C.run hk hp hst ?_);exact wpS_pure h
structure Cut (B:Nat->Bool)(n r:Nat):Prop where
 le:r<=n
 below:∀i,i<r->B i=true
 above:∀i,r<=i->i<n->B i=false
theorem zex (C:Cmp prog w A E s k P f){l:Bool}{key:Keyed}{a:Array Keyed}{b n h:Nat}{Q:Option Nat->SortSt->Prop}{st:SortSt}(hh:h<n)(hn:b+n<=a.size)(hP:∀(j:Nat) x,a[j]? = some x->P x)(hk:P key)(hst:kindOf st=k)
  (hm:∀i j,i<=j->j<n->beyB f l key a b j=true->beyB f l key a b i=true) (hQ:∀r,Cut (beyB f l key a b) n r->Q (some r) st):wpS (model prog w) A E s (gal l key a b n h) Q st:=by
 generalize hB:beyB f l key a b=B at hm hQ;have bey:∀ {i:Nat} {R:Option Bool->SortSt->Prop},i<n->R (some (B i)) st->wpS (model prog w) A E s (do let x <- elem' a (b+i);if l=true then lt' x key else do let r <- lt' key x;pure (Option.map (λx=>!x) r)) R st:=
  λ{i} {R} hi hr=>zpu C (by lia) hP hk hst (by rw[hB];exact hr)
 have hmF:∀i j,i<=j->j<n->B i=false->B j=false:=λi j h1 h2 h3=>by
  cases hj:B j with
  | false=>rfl
  | true=>rw[hm i j h1 h2 hj]at h3;cases h3
 refine wpS_bind (bey hh ?_);dsimp only;cases hb:B h with
 | true=>
  rw[if_pos rfl];refine wpS_bind (wpS_mono (wpS_forRange (I:=λx c st'=>st'=st/\∃lastofs ofs,c=(none,lastofs,ofs)/\lastofs<ofs/\x<ofs/\h+lastofs<n/\B (h+lastofs)=true)
   (Q:=λc st'=>st'=st/\∃lastofs ofs,c=(none,lastofs,ofs)/\lastofs<ofs/\h+lastofs<n/\B (h+lastofs)=true/\(n-h<=ofs\/(h+ofs<n/\B (h+ofs)=false))) ?step ?fin ⟨rfl,0,1,rfl,by lia,by lia,by lia,hb⟩) ?post)
  case fin=>
   rintro c st' ⟨rfl,lo,os,rfl,h1,h2,h3,h4⟩;exact⟨rfl,lo,os,rfl,h1,h3,h4,.inl (by lia)⟩
  case step=>
   rintro x c st' _ hx ⟨rfl,lo,os,rfl,h1,h2,h3,h4⟩;dsimp only;by_cases hge:os>=n-h
   ·rw[if_pos hge];exact wpS_pure ⟨rfl,lo,os,rfl,h1,h3,h4,.inl hge⟩
   ·rw[if_neg hge];refine wpS_bind (bey (by lia) ?_);dsimp only;cases hv:B (h+os)with
    | true=>
     rw[if_neg (by decide)];exact wpS_pure ⟨rfl,os,2*os+1,rfl,by lia,by lia,by lia,hv⟩
    | false=>
     rw[if_pos (by decide)];exact wpS_pure ⟨rfl,lo,os,rfl,h1,h3,h4,.inr ⟨by lia,hv⟩⟩
  case post=>
   rintro c st' ⟨rfl,lo,os,rfl,h1,h3,h4,h5⟩;dsimp only;have b1:∀i,i<h+lo+1->B i=true:=λi hi=>hm i (h+lo) (by lia) h3 h4;have b2:∀i,h+min os (n-h)<=i->i<n->B i=false:=λi hi1 hi2=>by
    rcases h5 with h5 | ⟨h5,h6⟩
    ·lia
    ·exact hmF (h+os) i (by lia) hi2 h6
   have b3:h+lo+1<=h+min os (n-h):=by lia
   have b4:h+min os (n-h)<=n:=by lia
   generalize h+lo+1=L at b1 b3;generalize h+min os (n-h)=H at b2 b3 b4;refine wpS_bind (wpS_mono (wpS_forRange (I:=λx c st2=>st2=st'/\∃L H,c=(none,L,H)/\L<=H/\H<=n/\H-L<=n-x/\(∀i,i<L->B i=true)/\(∀i,H<=i->i<n->B i=false))
    (Q:=λc st2=>st2=st'/\∃H,c=(none,H,H)/\Cut B n H) ?hstep ?hfin ⟨rfl,L,H,rfl,b3,b4,by lia,b1,b2⟩) ?hpost)
   case hfin=>
    rintro c st2 ⟨rfl,L,H,rfl,g1,g2,g3,g4,g5⟩;have:L=H:=by lia
    subst this;exact⟨rfl,L,rfl,⟨g2,g4,g5⟩⟩
   case hstep=>
    rintro x c st2 _ hx ⟨rfl,L,H,rfl,g1,g2,g3,g4,g5⟩;dsimp only;by_cases hge:L>=H
    ·rw[if_pos hge];have:L=H:=by lia
     subst this;exact wpS_pure ⟨rfl,L,rfl,⟨g2,g4,g5⟩⟩
    ·rw[if_neg hge];obtain⟨hmi,hmid⟩:=zmy hge;generalize L+(H-L) / 2=md at hmi hmid ⊢;refine wpS_bind (bey (by lia) ?_);dsimp only;cases hv:B md with
     | true=>
      rw[if_pos rfl];exact wpS_pure ⟨rfl,_,H,rfl,by lia,g2,by lia,λi hi=>hm i _ (by lia) (by lia) hv,g5⟩
     | false=>
      rw[if_neg (by decide)];exact wpS_pure ⟨rfl,L,_,rfl,by lia,by lia,by lia,g4,λi h1 h2=>hmF _ i h1 h2 hv⟩
   case hpost=>
    rintro c st2 ⟨rfl,H,rfl,hc⟩;exact wpS_pure (hQ H hc)
 | false=>
  rw[if_neg (by decide)];refine wpS_bind (wpS_mono (wpS_forRange (I:=λx c st'=>st'=st/\∃lastofs ofs,c=(none,lastofs,ofs)/\lastofs<ofs/\x<ofs/\lastofs<=h/\B (h-lastofs)=false)
   (Q:=λc st'=>st'=st/\∃lastofs ofs,c=(none,lastofs,ofs)/\lastofs<ofs/\lastofs<=h/\B (h-lastofs)=false/\(h+1<=ofs\/(ofs<=h/\B (h-ofs)=true))) ?step ?fin ⟨rfl,0,1,rfl,by lia,by lia,by lia,hb⟩) ?post)
  case fin=>
   rintro c st' ⟨rfl,lo,os,rfl,h1,h2,h3,h4⟩;exact⟨rfl,lo,os,rfl,h1,h3,h4,.inl (by lia)⟩
  case step=>
   rintro x c st' _ hx ⟨rfl,lo,os,rfl,h1,h2,h3,h4⟩;dsimp only;by_cases hge:os>=h+1
   ·rw[if_pos hge];exact wpS_pure ⟨rfl,lo,os,rfl,h1,h3,h4,.inl hge⟩
   ·rw[if_neg hge];refine wpS_bind (bey (by lia) ?_);dsimp only;cases hv:B (h-os)with
    | true=>
     rw[if_pos rfl];exact wpS_pure ⟨rfl,lo,os,rfl,h1,h3,h4,.inr ⟨by lia,hv⟩⟩
    | false=>
     rw[if_neg (by decide)];exact wpS_pure ⟨rfl,os,2*os+1,rfl,by lia,by lia,by lia,hv⟩
  case post=>
   rintro c st' ⟨rfl,lo,os,rfl,h1,h3,h4,h5⟩;dsimp only;have b1:∀i,i<h+1-min os (h+1)->B i=true:=λi hi=>by
    rcases h5 with h5 | ⟨h5,h6⟩
    ·lia
    ·exact hm i (h-os) (by lia) (by lia) h6
   have b2:∀i,h-lo<=i->i<n->B i=false:=λi hi1 hi2=>hmF (h-lo) i hi1 hi2 h4;have b3:h+1-min os (h+1)<=h-lo:=by lia
   have b4:h-lo<=n:=by lia
   generalize h+1-min os (h+1)=L at b1 b3;generalize h-lo=H at b2 b3 b4;refine wpS_bind (wpS_mono (wpS_forRange (I:=λx c st2=>st2=st'/\∃L H,c=(none,L,H)/\L<=H/\H<=n/\H-L<=n-x/\(∀i,i<L->B i=true)/\(∀i,H<=i->i<n->B i=false))
    (Q:=λc st2=>st2=st'/\∃H,c=(none,H,H)/\Cut B n H) ?hstep ?hfin ⟨rfl,L,H,rfl,b3,b4,by lia,b1,b2⟩) ?hpost)
   case hfin=>
    rintro c st2 ⟨rfl,L,H,rfl,g1,g2,g3,g4,g5⟩;have:L=H:=by lia
    subst this;exact⟨rfl,L,rfl,⟨g2,g4,g5⟩⟩
   case hstep=>
    rintro x c st2 _ hx ⟨rfl,L,H,rfl,g1,g2,g3,g4,g5⟩;dsimp only;by_cases hge:L>=H
    ·rw[if_pos hge];have:L=H:=by lia
     subst this;exact wpS_pure ⟨rfl,L,rfl,⟨g2,g4,g5⟩⟩
    ·rw[if_neg hge];obtain⟨hmi,hmid⟩:=zmy hge;generalize L+(H-L) / 2=md at hmi hmid ⊢;refine wpS_bind (bey (by lia) ?_);dsimp only;cases hv:B md with
     | true=>
      rw[if_pos rfl];exact wpS_pure ⟨rfl,_,H,rfl,by lia,g2,by lia,λi hi=>hm i _ (by lia) (by lia) hv,g5⟩
     | false=>
      rw[if_neg (by decide)];exact wpS_pure ⟨rfl,L,_,rfl,by lia,by lia,by lia,g4,λi h1 h2=>hmF _ i h1 h2 hv⟩
   case hpost=>
    rintro c st2 ⟨rfl,H,rfl,hc⟩;exact wpS_pure (hQ H hc)
end
structure Mid {α:Type}(R:α->α->Prop)(a b out:List α)(ia ib:Nat):Prop where
 pm:(out++(a.drop ia++b.drop ib)).Perm (a++b)
 sa:(out++a.drop ia).Pairwise R
 sb:(out++b.drop ib).Pairwise R
structure Good {α:Type}(R:α->α->Prop)(a b out:List α):Prop where
 pm:out.Perm (a++b)
 so:out.Pairwise R
section
variable {α:Type}{R:α->α->Prop}{a b out:List α}{ia ib:Nat}
theorem Mid.runA (h:Mid R a b out ia ib)(k:Nat)(hR:∀x∈(a.drop ia).take k,∀z∈b.drop ib,R x z):Mid R a b (out++(a.drop ia).take k) (ia+k) ib:=by
 have e:a.drop ia=(a.drop ia).take k++a.drop (ia+k):=by rw[<- List.drop_drop,List.take_append_drop]
 refine⟨?_,?_,?_⟩
 ·have:=h.pm;rw[e]at this;simpa[List.append_assoc]using this
 ·have:=h.sa;rw[e]at this;simpa[List.append_assoc]using this
 ·have h1:=h.sa;have h2:=h.sb;rw[e,<- List.append_assoc,List.pairwise_append]at h1;rw[List.pairwise_append]at h2 ⊢;refine⟨h1.1,h2.2.1,λx hx z hz=>?_⟩;rcases List.mem_append.mp hx with hx | hx
  ·exact h2.2.2 x hx z hz
  ·exact hR x hx z hz
theorem Mid.flip (h:Mid R a b out ia ib):Mid R b a out ib ia:=⟨(List.Perm.append_left out List.perm_append_comm).trans (h.pm.trans List.perm_append_comm),h.sb,h.sa⟩
theorem Mid.runB (h:Mid R a b out ia ib)(k:Nat)(hR:∀x∈(b.drop ib).take k,∀z∈a.drop ia,R x z):Mid R a b (out++(b.drop ib).take k) ia (ib+k):=(h.flip.runA k hR).flip
theorem take_one {l:List α}{i:Nat}{x:α}(h:l[i]? = some x):(l.drop i).take 1=[x]:=by
 obtain⟨hi,e⟩:=List.getElem?_eq_some_iff.mp h;rw[List.drop_eq_getElem_cons hi,e];rfl
theorem Mid.one (h:Mid R a b out ia ib){x:α}(hx:a[ia]? = some x)(hR:∀z∈b.drop ib,R x z):Mid R a b (out++[x]) (ia+1) ib:=by
 have:=h.runA 1 (by rw[take_one hx];intro y hy;rw[List.mem_singleton.mp hy];exact hR)
 rwa [take_one hx]at this
theorem Mid.oneB (h:Mid R a b out ia ib){x:α}(hx:b[ib]? = some x)(hR:∀z∈a.drop ia,R x z):Mid R a b (out++[x]) ia (ib+1):=(h.flip.one hx hR).flip
theorem Mid.endB (h:Mid R a b out ia ib)(hb:b.length<=ib):Good R a b (out++a.drop ia++b.drop ib):=by
 have e:b.drop ib=[]:=List.drop_of_length_le hb;have h1:=h.pm;rw[e,List.append_nil]at h1 ⊢;exact⟨h1,h.sa⟩
theorem Mid.endA (h:Mid R a b out ia ib)(ha:a.length<=ia):Good R a b (out++a.drop ia++b.drop ib):=by
 have e:a.drop ia=[]:=List.drop_of_length_le ha;have h1:=h.pm;rw[e,List.nil_append]at h1;rw[e,List.append_nil];exact⟨h1,h.sb⟩
theorem Mid.last (h:Mid R a b out ia ib)(hR:∀y∈b.drop ib,∀z∈a.drop ia,R y z):Good R a b (out++b.drop ib++a.drop ia):=by
 refine⟨?_,?_⟩
 ·rw[List.append_assoc];exact(List.Perm.append_left out List.perm_append_comm).trans h.pm
 ·have h1:=List.pairwise_append.mp h.sa;rw[List.pairwise_append];refine⟨h.sb,h1.2.1,λx hx z hz=>?_⟩;rcases List.mem_append.mp hx with hx | hx
  ·exact h1.2.2 x hx z hz
  ·exact hR x hx z hz
end
noncomputable def mLo:Array Keyed->Array Keyed->StateT SortSt Sem (Array Keyed):=sortPriv% PySem.Builtin.mergeLo
noncomputable def setG:Nat->StateT SortSt Sem Unit:=sortPriv% PySem.Builtin.setMinGallop
structure Same (st st':SortSt):Prop where
 kind:kindOf st'=kindOf st
 arr:arrOf st'=arrOf st
 pend:pendingOf st'=pendingOf st
 failed:failedOf st'=failedOf st
theorem Same.refl (st:SortSt):Same st st:=⟨rfl,rfl,rfl,rfl⟩
theorem zaD {α:Type}(a:Array α)(i:Nat):(a.extract i a.size).toList=a.toList.drop i:=by
 rw[Array.toList_extract,List.extract_eq_drop_take,List.take_of_length_le (by simp)]
theorem zgL {α:Type}(a:Array α)(i k:Nat):(a.extract i (i+k)).toList=(a.toList.drop i).take k:=by
 rw[Array.toList_extract,List.extract_eq_drop_take,Nat.add_sub_cancel_left]
structure Tot (f:Keyed->Keyed->Bool)(P:Keyed->Prop):Prop where
 asym:∀x y,P x->P y->f x y=true->f y x=false
 tr:∀x y z,P x->P y->P z->f y x=false->f z y=false->f z x=false
noncomputable abbrev Le (f:Keyed->Keyed->Bool)(x y:Keyed):Prop:=f y x=false
section
variable {prog:Program}{w:World}{A:Around}{E:Value->Shared->Prop}{s:Shared}{k:SortKind}{P:Keyed->Prop}{f:Keyed->Keyed->Bool}
theorem zfe {g:Nat}{Q:Unit->SortSt->Prop}{st st0:SortSt}(hs:Same st0 st)(h:∀st',Same st0 st'->Q () st'):wpS (model prog w) A E s (setG g) Q st:=
 wpS_modify (h _ ⟨hs.kind,hs.arr,hs.pend,hs.failed⟩)
theorem zdO {a:Array Keyed}(h:∀(j:Nat) x,a[j]? = some x->P x):∀x∈a.toList,P x:=λx hx=>by
 obtain⟨j,hj,e⟩:=List.getElem_of_mem hx;exact h j x (by rw[<- Array.getElem?_toList,List.getElem?_eq_getElem hj,e])
theorem zff {l:List Keyed}{i:Nat}{x:Keyed}(T:Tot f P)(hP:∀x∈l,P x)(hs:l.Pairwise (Le f))(hx:l[i]? = some x){y:Keyed}(hy:P y)(hyx:Le f y x):∀z∈l.drop i,Le f y z:=λz hz=>by
 obtain⟨hi,e⟩:=List.getElem?_eq_some_iff.mp hx;have hd:=hs.drop (i:=i);rw[List.drop_eq_getElem_cons hi,e]at hz hd;rcases List.mem_cons.mp hz with rfl | hz2
 ·exact hyx
 ·exact T.tr y x z hy (hP x (List.mem_of_getElem? hx)) (hP z (List.mem_of_mem_drop hz2)) hyx (List.rel_of_pairwise_cons hd hz2)
theorem zbf {l:Bool}{key:Keyed}{a:Array Keyed}{b i:Nat}(h:b+i<a.size):beyB f l key a b i=if l then f a[b+i] key else !f key a[b+i]:=by
 unfold beyB;rw[getElem?_pos a (b+i) h]
theorem zgM {a:Array Keyed}(hs:a.toList.Pairwise (Le f)){i j:Nat}(hij:i<j)(hj:j<a.size):Le f (a[i]'(by lia)) a[j]:=by
 have:=List.pairwise_iff_getElem.mp hs i j (by simp;lia) (by simpa using hj) hij;simpa using this
theorem zdr (T:Tot f P){l:Bool}{key:Keyed}{a:Array Keyed}{b n:Nat}(hn:b+n<=a.size)(hP:∀(j:Nat) x,a[j]? = some x->P x)(hk:P key)(hs:a.toList.Pairwise (Le f)):∀i j,i<=j->j<n->beyB f l key a b j=true->beyB f l key a b i=true:=by
 intro i j hij hj h;rcases Nat.lt_or_eq_of_le hij with hlt | rfl
 ·have hi':b+i<a.size:=by lia
  have hj':b+j<a.size:=by lia
  have pi:P a[b+i]:=hP _ _ (getElem?_pos a _ hi');have pj:P a[b+j]:=hP _ _ (getElem?_pos a _ hj');have hle:Le f a[b+i] a[b+j]:=zgM hs (by lia) hj';rw[zbf hj']at h;rw[zbf hi'];cases l with
  | true=>
   simp only[if_true]at h ⊢;cases hc:f a[b+i] key with
   | true=>rfl
   | false=>rw[T.tr key a[b+i] a[b+j] hk pi pj hc hle]at h;cases h
  | false=>
   simp only[Bool.false_eq_true,if_false]at h ⊢;have h:f key a[b+j]=false:=by simpa using h
   rw[T.tr a[b+i] a[b+j] key pi pj hk hle h];rfl
 ·exact h
theorem zcu {a:Array Keyed}{i k:Nat}(hk:i+k<=a.size){x:Keyed}(hx:x∈(a.toList.drop i).take k):∃j,∃h:i+j<a.size,j<k/\x=a[i+j]:=by
 obtain⟨j,hj,e⟩:=List.getElem_of_mem hx;rw[List.length_take,List.length_drop,Array.length_toList]at hj;refine⟨j,by lia,by lia,?_⟩;rw[<- e];simp
theorem zpv (C:Cmp prog w A E s k P f)(T:Tot f P){a b:Array Keyed}{Q:Array Keyed->SortSt->Prop}{st:SortSt}(hst:kindOf st=k)(ha:0<a.size)(hb:0<b.size)(hPa:∀(j:Nat) x,a[j]? = some x->P x)(hPb:∀(j:Nat) x,b[j]? = some x->P x)
  (sa:a.toList.Pairwise (Le f)) (sb:b.toList.Pairwise (Le f)) (h0:f b[0] a[0]=true) (hl:∀y∈b.toList,Le f y (a[a.size-1]'(by lia)))
  (hQ:∀out st',Good (Le f) a.toList b.toList out.toList->Same st st'->Q out st'):wpS (model prog w) A E s (mLo a b) Q st:=by
 have pa:=zdO hPa;have pb:=zdO hPb;have la:a.toList.length=a.size:=Array.length_toList;have lb:b.toList.length=b.size:=Array.length_toList;have ga:∀ {i:Nat},(hi:i<a.size)->a[i]? = some a[i]:=λ{i} hi=>getElem?_pos a i hi;have gb:∀ {i:Nat},(hi:i<b.size)->b[i]? = some b[i]:=λ{i} hi=>getElem?_pos b i hi;have gla:∀ {i:Nat},(hi:i<a.size)->a.toList[i]? = some a[i]:=λ{i} hi=>by rw[Array.getElem?_toList];exact ga hi
 have glb:∀ {i:Nat},(hi:i<b.size)->b.toList[i]? = some b[i]:=λ{i} hi=>by rw[Array.getElem?_toList];exact gb hi
 have Pa:∀ {i:Nat},(hi:i<a.size)->P a[i]:=λ{i} hi=>hPa i _ (ga hi);have Pb:∀ {i:Nat},(hi:i<b.size)->P b[i]:=λ{i} hi=>hPb i _ (gb hi);have stB:∀ {out:List Keyed} {ia ib:Nat},Mid (Le f) a.toList b.toList out ia ib->(h1:ia<a.size)->(h2:ib<b.size)->f b[ib] a[ia]=true->Mid (Le f) a.toList b.toList (out++[b[ib]]) ia (ib+1):=
  λm h1 h2 hf=>m.oneB (glb h2) (zff T pa sa (gla h1) (Pb h2) (T.asym _ _ (Pb h2) (Pa h1) hf))
 have stA:∀ {out:List Keyed} {ia ib:Nat},Mid (Le f) a.toList b.toList out ia ib->(h1:ia<a.size)->(h2:ib<b.size)->f b[ib] a[ia]=false->Mid (Le f) a.toList b.toList (out++[a[ia]]) (ia+1) ib:=
  λm h1 h2 hf=>m.one (gla h1) (zff T pb sb (glb h2) (Pa h1) hf)
 have lst:∀ {out:List Keyed} {ia ib:Nat},Mid (Le f) a.toList b.toList out ia ib->ia+1=a.size->Good (Le f) a.toList b.toList (out++b.toList.drop ib++a.toList.drop ia):=λ{out ia ib} m h1=>
  m.last λy hy z hz=>by
   have e:a.toList.drop ia=[a[a.size-1]'(by lia)]:=by
    rw[List.drop_eq_getElem_cons (by lia),List.drop_of_length_le (by lia)]
    congr 1
    rw[Array.getElem_toList]
    congr 1
    lia
   rw[e]at hz;rw[List.mem_singleton.mp hz];exact hl y (List.mem_of_mem_drop hy)
 have start:Mid (Le f) a.toList b.toList [b[0]] 0 1:=by
  have:Mid (Le f) a.toList b.toList [] 0 0:=⟨by simp,by simpa using sa,by simpa using sb⟩;exact stB this ha hb h0
 refine wpS_bind (wpS_lift (wpAny_rule ⟨rfl,?_⟩));refine wpS_bind (zas (gb hb) ?_);refine zax (λhb1=>?_) (λhb1=>?_)
 ·refine wpS_pure (hQ _ _ ?_ (.refl st));have e:1=b.size:=by simpa using hb1
  rw[Array.toList_append,Array.toList_append,zaD,zaD];exact start.endB (by lia)
 refine zax (λha1=>?_) (λha1=>?_)
 ·refine wpS_pure (hQ _ _ ?_ (.refl st));have e:0+1=a.size:=by simpa using ha1
  rw[Array.toList_append,Array.toList_append,zaD,zaD];exact lst start (by lia)
 have hb2:1<b.size:=by have:¬ 1=b.size:=(by simpa using hb1);lia
 have ha2:0+1<a.size:=by have:¬ 0+1=a.size:=(by simpa using ha1);lia
 refine wpS_bind (wpS_get ?_);refine wpS_bind (wpS_mono (wpS_forRange
  (I:=λx c st'=>Same st st'/\∃out ia ib mg,c=(none,out,ia,ib,mg)/\Mid (Le f) a.toList b.toList out.toList ia ib/\ia+1<a.size/\ib<b.size/\x+1<=ia+ib)
  (Q:=λc st'=>Same st st'/\∃out,c.1=some out/\Good (Le f) a.toList b.toList out.toList) ?step ?fin ⟨.refl st,_,0,1,_,rfl,by simpa using start,ha2,hb2,by lia⟩) ?post)
 case fin=>
  rintro c st' ⟨_,out,ia,ib,mg,rfl,_,h1,h2,h3⟩;exfalso
  lia
 case post=>
  rintro⟨c1,c2⟩ st' ⟨hs,out,e,g⟩;simp only at e;subst e;exact wpS_pure (hQ _ _ g hs)
 case step=>
  rintro x c st1 _ hx ⟨hs,out,ia,ib,mg,rfl,m,h1,h2,h3⟩;show wpS _ _ _ _ (bind _ _) _ _;dsimp -zeta only;refine wpS_bind (wpS_mono (wpS_forRange
   (I:=λx c st'=>Same st st'/\∃out ia2 ib2 ac bc,c=(none,out,ia2,ib2,ac,bc)/\Mid (Le f) a.toList b.toList out.toList ia2 ib2/\ia2+1<a.size/\ib2<b.size/\x+(ia+ib)<=ia2+ib2)
   (Q:=λc st'=>Same st st'/\((∃out,c.1=some out/\Good (Le f) a.toList b.toList out.toList)\/∃out ia2 ib2 ac bc,c=(none,out,ia2,ib2,ac,bc)/\Mid (Le f) a.toList b.toList out.toList ia2 ib2/\ia2+1<a.size/\ib2<b.size/\1+(ia+ib)<=ia2+ib2)) ?step1 ?fin1 ⟨hs,out,ia,ib,0,0,rfl,m,h1,h2,by lia⟩) ?post1)
  case fin1=>
   rintro c st' ⟨_,out,ia2,ib2,ac,bc,rfl,_,h1,h2,h3⟩;exfalso
   lia
  case step1=>
   rintro y c st2 _ hy ⟨hs2,out2,ia2,ib2,ac,bc,rfl,m2,g1,g2,g3⟩;dsimp only;refine wpS_bind (zas (gb g2) (wpS_bind (zas (ga (show ia2<a.size by lia)) (wpS_bind (C.run (Pb g2) (Pa _) (by rw[hs2.kind];exact hst) ?_)))));dsimp only;cases hf:f b[ib2] (a[ia2]'(by lia))with
   | true=>
    have m3:=stB m2 (by lia) g2 hf;rw[<- Array.toList_push]at m3;rw[if_pos rfl];refine wpS_bind (zas (gb g2) ?_);refine zax (λe1=>?_) (λe1=>?_)
    ·have e1:ib2+1=b.size:=by simpa using e1
     refine wpS_pure ⟨hs2,.inl ⟨_,rfl,?_⟩⟩;rw[Array.toList_append,Array.toList_append,zaD,zaD];exact m3.endB (by lia)
    ·have e1:¬ ib2+1=b.size:=by simpa using e1
     refine zax (λe2=>?_) (λe2=>?_)
     ·exact wpS_pure ⟨hs2,.inr ⟨_,_,_,_,_,rfl,m3,g1,by lia,by lia⟩⟩
     ·exact wpS_pure ⟨hs2,_,_,_,_,_,rfl,m3,g1,by lia,by lia⟩
   | false=>
    have m3:=stA m2 (by lia) g2 hf;rw[<- Array.toList_push]at m3;rw[if_neg (by decide)];refine wpS_bind (zas (ga (show ia2<a.size by lia)) ?_);refine zax (λe1=>?_) (λe1=>?_)
    ·have e1:ia2+1+1=a.size:=by simpa using e1
     refine wpS_pure ⟨hs2,.inl ⟨_,rfl,?_⟩⟩;rw[Array.toList_append,Array.toList_append,zaD,zaD];exact lst m3 e1
    ·have e1:¬ ia2+1+1=a.size:=by simpa using e1
     refine zax (λe2=>?_) (λe2=>?_)
     ·exact wpS_pure ⟨hs2,.inr ⟨_,_,_,_,_,rfl,m3,by lia,g2,by lia⟩⟩
     ·exact wpS_pure ⟨hs2,_,_,_,_,_,rfl,m3,by lia,g2,by lia⟩
  case post1=>
   rintro c st2 ⟨hs2,hc⟩;rcases hc with ⟨out2,e,g⟩ | ⟨out2,ia2,ib2,ac,bc,rfl,m2,g1,g2,g3⟩
   ·obtain⟨c1,c2⟩:=c;simp only at e;subst e;exact wpS_pure ⟨hs2,_,rfl,g⟩
   show wpS _ _ _ _ (bind _ _) _ _;dsimp -zeta only;refine wpS_bind (wpS_lift (wpAny_rule ⟨rfl,?_⟩));refine wpS_bind (wpS_mono (wpS_forRange
    (I:=λx c st'=>Same st st'/\∃out ia3 ib3 mg ac bc,c=(none,out,ia3,ib3,mg,ac,bc)/\Mid (Le f) a.toList b.toList out.toList ia3 ib3/\ia3+1<a.size/\ib3<b.size/\x+(ia2+ib2)<=ia3+ib3)
    (Q:=λc st'=>Same st st'/\((∃out,c.1=some out/\Good (Le f) a.toList b.toList out.toList)\/∃out ia3 ib3 mg ac bc,c=(none,out,ia3,ib3,mg,ac,bc)/\Mid (Le f) a.toList b.toList out.toList ia3 ib3/\ia3+1<a.size/\ib3<b.size/\ia2+ib2<=ia3+ib3)) ?step2 ?fin2 ⟨hs2,out2,ia2,ib2,_,ac,bc,rfl,m2,g1,g2,by lia⟩) ?post2)
   case fin2=>
    rintro c st' ⟨_,out,ia2,ib2,mg,ac,bc,rfl,_,h1,h2,h3⟩;exfalso
    lia
   case post2=>
    rintro c st3 ⟨hs3,hc⟩;rcases hc with ⟨out3,e,g⟩ | ⟨out3,ia3,ib3,mg3,ac3,bc3,rfl,m3,q1,q2,q3⟩
    ·obtain⟨c1,c2⟩:=c;simp only at e;subst e;exact wpS_pure ⟨hs3,_,rfl,g⟩
    dsimp only;refine wpS_bind (zfe hs3 λst4 hs4=>?_);exact wpS_pure ⟨hs4,_,_,_,_,rfl,m3,q1,q2,by lia⟩
   case step2=>
    rintro y c st3 _ hy ⟨hs3,out3,ia3,ib3,mg3,ac3,bc3,rfl,m3,q1,q2,q3⟩;have nA:ia3+(a.size-ia3)<=a.size:=by lia
    show wpS _ _ _ _ (ite _ _ _) _ _;dsimp -zeta only;generalize mg3-1=mu;revert mu;refine zpt λmgX=>?_;refine wpS_bind (zfe hs3 λst4 hs4=>?_);refine wpS_bind (zas (gb q2) (wpS_bind ?_));refine zex C (l:=false) (key:=b[ib3]) (a:=a) (b:=ia3) (n:=a.size-ia3) (h:=0) (by lia) nA hPa (Pb q2) (by rw[hs4.kind];exact hst) (zdr T nA hPa (Pb q2) sa) λkk cut=>?_;have c1:=cut.le;have m4:=m3.runA kk λx hx=>by
     obtain⟨j,hj,hjk,rfl⟩:=zcu (by lia) hx;have:=cut.below j hjk;rw[zbf hj]at this;simp only[Bool.false_eq_true,if_false]at this;exact zff T pb sb (glb q2) (Pa hj) (show f b[ib3] a[ia3+j]=false by simpa using this)
    have c2:∀(h:ia3+kk<a.size),f b[ib3] a[ia3+kk]=true:=λh=>by
     have:=cut.above kk (Nat.le_refl _) (by lia);rw[zbf h]at this;simp only[Bool.false_eq_true,if_false]at this;simpa using this
    show wpS _ _ _ _ (ite _ _ _) _ _;dsimp -zeta only;have HH:=And.intro m4 (And.intro c1 (And.intro c2 (And.intro q1 q3)));clear c1 c2 m4 cut nA m3 q1 q3;revert HH;revert ia3;revert out3;refine zhG (λo i=>Mid (Le f) a.toList b.toList o.toList i ib3/\i+1<a.size/\(∀(h:i<a.size),f b[ib3] a[i]=true)/\y+(ia2+ib2)<=i+ib3) ?_ (λout3 ia3 ⟨m4,c1,c2,q1,q3⟩ hk0 key=>?_) λout3 ia3 ⟨m4,c1,c2,q1,q3⟩ hk0=>?_
    rotate_left
    ·refine zax (λe1=>?_) (λe1=>?_)
     ·refine wpS_pure ⟨hs4,.inl ⟨_,rfl,?_⟩⟩;rw[Array.toList_append,Array.toList_append,Array.toList_append,zaD,zaD,zgL];exact lst m4 (by simpa using e1)
     refine zax (λe2=>?_) (λe2=>?_)
     ·have e2:ia3+kk=a.size:=by simpa using e2
      refine wpS_pure ⟨hs4,.inl ⟨_,rfl,?_⟩⟩;rw[Array.toList_append,Array.toList_append,Array.toList_append,zaD,zaD,zgL];exact m4.endA (by lia)
     have e1:¬ ia3+kk+1=a.size:=by simpa using e1
     have e2:¬ ia3+kk=a.size:=by simpa using e2
     rw[<- zgL,<- Array.toList_append]at m4;exact key _ _ ⟨m4,by lia,c2,by lia⟩
    ·have hk0:kk=0:=Nat.eq_zero_of_not_pos hk0;subst hk0;rw[Nat.add_zero,List.take_zero,List.append_nil]at m4;exact⟨m4,q1,c2,by lia⟩
    rintro outX iaX ⟨m4,gX,fX,qX⟩;have gX':iaX<a.size:=by lia
    have m5:=stB m4 gX' q2 (fX gX');rw[<- Array.toList_push]at m5;refine wpS_bind (zas (gb q2) ?_);refine zax (λe3=>?_) (λe3=>?_)
    ·have e3:ib3+1=b.size:=by simpa using e3
     refine wpS_pure ⟨hs4,.inl ⟨_,rfl,?_⟩⟩;rw[Array.toList_append,Array.toList_append,zaD,zaD];exact m5.endB (by lia)
    have e3:¬ ib3+1=b.size:=by simpa using e3
    have nB:(ib3+1)+(b.size-(ib3+1))<=b.size:=by lia
    refine wpS_bind (zas (ga gX') (wpS_bind ?_));refine zex C (l:=true) (key:=a[iaX]) (a:=b) (b:=ib3+1) (n:=b.size-(ib3+1)) (h:=0) (by lia) nB hPb (Pa gX') (by rw[hs4.kind];exact hst) (zdr T nB hPb (Pa gX') sb) λk2 cut2=>?_;have d1:=cut2.le;have m6:=m5.runB k2 λx hx=>by
     obtain⟨j,hj,hjk,rfl⟩:=zcu (by lia) hx;have:=cut2.below j hjk;rw[zbf hj]at this;simp only[if_true]at this;exact zff T pa sa (gla gX') (Pb hj) (T.asym _ _ (Pb hj) (Pa gX') this)
    have d2:∀(h:ib3+1+k2<b.size),f b[ib3+1+k2] a[iaX]=false:=λh=>by
     have:=cut2.above k2 (Nat.le_refl _) (by lia);rw[zbf h]at this;simpa only[if_true]using this
    have l3:ib3+1<b.size:=by lia
    have qY:y+1+(ia2+ib2)<=iaX+(ib3+1):=by lia
    clear m5 cut2 e3 nB m4 fX;generalize outX.push b[ib3]=outY at m6;show wpS _ _ _ _ (ite _ _ _) _ _;dsimp -zeta only;generalize ib3+1=ib4 at m6 d1 d2 l3 qY ⊢;have HH:=And.intro m6 (And.intro d1 (And.intro d2 (And.intro l3 qY)));clear m6 d1 d2 l3 qY;revert HH;revert ib4;revert outY;refine zhG (γ:=Array Keyed) (δ:=Nat) (λo i=>Mid (Le f) a.toList b.toList o.toList iaX i/\i<b.size/\(∀(h:i<b.size),f b[i] a[iaX]=false)/\y+1+(ia2+ib2)<=iaX+i) ?_ (λoutY ib4 ⟨m6,d1,d2,l3,qY⟩ hk2 key=>?_) λoutY ib4 ⟨m6,d1,d2,l3,qY⟩ hk2=>?_
    rotate_left
    ·refine zax (λe4=>?_) (λe4=>?_)
     ·have e4:ib4+k2=b.size:=by simpa using e4
      refine wpS_pure ⟨hs4,.inl ⟨_,rfl,?_⟩⟩;rw[Array.toList_append,Array.toList_append,Array.toList_append,zaD,zaD,zgL];exact m6.endB (by lia)
     have e4:¬ ib4+k2=b.size:=by simpa using e4
     rw[<- zgL,<- Array.toList_append]at m6;exact key _ _ ⟨m6,by lia,d2,by lia⟩
    ·have hk2:k2=0:=Nat.eq_zero_of_not_pos hk2;subst hk2;rw[Nat.add_zero,List.take_zero,List.append_nil]at m6;exact⟨m6,l3,d2,qY⟩
    rintro outZ ibZ ⟨m6,gY,fY,qY⟩;have m7:=stA m6 gX' gY (fY gY);rw[<- Array.toList_push]at m7;refine wpS_bind (zas (ga gX') ?_);refine zax (λe5=>?_) (λe5=>?_)
    ·refine wpS_pure ⟨hs4,.inl ⟨_,rfl,?_⟩⟩;rw[Array.toList_append,Array.toList_append,zaD,zaD];exact lst m7 (by simpa using e5)
    have e5:¬ iaX+1+1=a.size:=by simpa using e5
    split
    ·exact wpS_pure ⟨hs4,.inr ⟨_,_,_,_,_,_,rfl,m7,by lia,gY,by lia⟩⟩
    ·exact wpS_pure ⟨hs4,_,_,_,_,_,_,rfl,m7,by lia,gY,by lia⟩
end
noncomputable def mHi:Array Keyed->Array Keyed->StateT SortSt Sem (Array Keyed):=sortPriv% PySem.Builtin.mergeHi
structure Up {α:Type}(R:α->α->Prop)(a b O:List α)(na nb:Nat):Prop where
 pm:(a.take na++(b.take nb++O)).Perm (a++b)
 sa:(a.take na++O).Pairwise R
 sb:(b.take nb++O).Pairwise R
section
variable {α:Type}{R:α->α->Prop}{a b O:List α}{na nb:Nat}
theorem zpw {l:List α}{i n:Nat}(h:i<=n):l.take n=l.take i++(l.take n).drop i:=by
 have:=(List.take_append_drop i (l.take n)).symm
 rwa [List.take_take,Nat.min_eq_left h]at this
theorem Up.flip (h:Up R a b O na nb):Up R b a O nb na:=by
 refine⟨?_,h.sb,h.sa⟩;refine List.Perm.trans ?_ (h.pm.trans List.perm_append_comm);rw[<- List.append_assoc,<- List.append_assoc];exact List.Perm.append_right O List.perm_append_comm
theorem Up.runA (h:Up R a b O na nb){i:Nat}(hi:i<=na)(hR:∀z∈b.take nb,∀x∈(a.take na).drop i,R z x):Up R a b ((a.take na).drop i++O) i nb:=by
 have e:=zpw (l:=a) hi;refine⟨?_,?_,?_⟩
 ·refine List.Perm.trans ?_ h.pm;have e2:a.take na++(b.take nb++O)=a.take i++((a.take na).drop i++(b.take nb++O)):=by
   rw[<- List.append_assoc (a.take i),<- e]
  rw[e2];refine List.Perm.append_left _ ?_;rw[<- List.append_assoc,<- List.append_assoc];exact List.Perm.append_right O List.perm_append_comm
 ·rw[<- List.append_assoc,<- e];exact h.sa
 ·have h1:=h.sa;have h2:=List.pairwise_append.mp h.sb;rw[e,List.append_assoc]at h1;have h1:=(List.pairwise_append.mp h1).2.1;rw[List.pairwise_append];refine⟨h2.1,h1,λz hz x hx=>?_⟩;rcases List.mem_append.mp hx with hx | hx
  ·exact hR z hz x hx
  ·exact h2.2.2 z hz x hx
theorem Up.runB (h:Up R a b O na nb){i:Nat}(hi:i<=nb)(hR:∀z∈a.take na,∀x∈(b.take nb).drop i,R z x):Up R a b ((b.take nb).drop i++O) na i:=(h.flip.runA hi hR).flip
theorem zmA {l:List α}{i:Nat}{x:α}(h:l[i]? = some x):(l.take (i+1)).drop i=[x]:=by
 obtain⟨hi,e⟩:=List.getElem?_eq_some_iff.mp h;rw[List.drop_take,List.drop_eq_getElem_cons hi,e,Nat.add_sub_cancel_left];rfl
theorem Up.one (h:Up R a b O (na+1) nb){x:α}(hx:a[na]? = some x)(hR:∀z∈b.take nb,R z x):Up R a b (x::O) na nb:=by
 have:=h.runA (i:=na) (by lia) (by rw[zmA hx];intro z hz y hy;rw[List.mem_singleton.mp hy];exact hR z hz)
 rwa [zmA hx]at this
theorem Up.oneB (h:Up R a b O na (nb+1)){x:α}(hx:b[nb]? = some x)(hR:∀z∈a.take na,R z x):Up R a b (x::O) na nb:=(h.flip.one hx hR).flip
theorem Up.endA (h:Up R a b O 0 nb):Good R a b (a.take 0++b.take nb++O):=⟨by rw[List.append_assoc];exact h.pm,by simpa using h.sb⟩
theorem Up.endB (h:Up R a b O na 0):Good R a b (a.take na++b.take 0++O):=⟨by rw[List.append_assoc];exact h.pm,by simpa using h.sa⟩
theorem Up.first (h:Up R a b O na nb)(hR:∀y∈b.take nb,∀z∈a.take na,R y z):Good R a b (b.take nb++a.take na++O):=by
 refine⟨?_,?_⟩
 ·refine List.Perm.trans ?_ h.pm;rw[<- List.append_assoc];exact List.Perm.append_right O List.perm_append_comm
 ·have h1:=List.pairwise_append.mp h.sb;rw[List.append_assoc,List.pairwise_append];refine⟨h1.1,h.sa,λy hy z hz=>?_⟩;rcases List.mem_append.mp hz with hz | hz
  ·exact hR y hy z hz
  ·exact h1.2.2 y hy z hz
end
theorem zaW {α:Type}(a:Array α)(n:Nat):(a.extract 0 n).toList=a.toList.take n:=by
 rw[Array.toList_extract,List.extract_eq_drop_take,List.drop_zero,Nat.sub_zero]
theorem zjW {α:Type}(a:Array α)(i n:Nat):(a.extract i n).toList=(a.toList.take n).drop i:=by
 rw[Array.toList_extract,List.extract_eq_drop_take,List.drop_take]
section
variable {prog:Program}{w:World}{A:Around}{E:Value->Shared->Prop}{s:Shared}{k:SortKind}{P:Keyed->Prop}{f:Keyed->Keyed->Bool}
theorem zfg {a:Array Keyed}{n:Nat}{x:Keyed}(hx:x∈a.toList.take n):∃j,∃h:j<a.size,j<n/\x=a[j]:=by
 obtain⟨j,hj,e⟩:=List.getElem_of_mem hx;rw[List.length_take,Array.length_toList]at hj;exact⟨j,by lia,by lia,by rw[<- e];simp⟩
theorem mem_mid {a:Array Keyed}{i n:Nat}{x:Keyed}(hx:x∈(a.toList.take n).drop i):∃j,∃h:j<a.size,i<=j/\j<n/\x=a[j]:=by
 obtain⟨j,hj,e⟩:=List.getElem_of_mem hx;rw[List.length_drop,List.length_take,Array.length_toList]at hj;exact⟨i+j,by lia,by lia,by lia,by rw[<- e];simp⟩
theorem zfh (T:Tot f P){a:Array Keyed}(hP:∀(j:Nat) x,a[j]? = some x->P x)(hs:a.toList.Pairwise (Le f)){n:Nat}(hn:n<a.size){y:Keyed}(hy:P y)(hxy:Le f a[n] y):∀z∈a.toList.take (n+1),Le f z y:=λz hz=>by
 obtain⟨j,hj,hjn,rfl⟩:=zfg hz;rcases Nat.lt_or_eq_of_le (Nat.le_of_lt_succ hjn)with h | rfl
 ·exact T.tr a[j] a[n] y (hP j _ (getElem?_pos a j hj)) (hP n _ (getElem?_pos a n hn)) hy (zgM hs h hn) hxy
 ·exact hxy
end
theorem Up.zlH {α:Type}{R:α->α->Prop}{a b O:List α}{na nb:Nat}(h:Up R a b O na nb)(e:na=0):Good R a b (a.take na++b.take nb++O):=by subst e;exact h.endA
theorem Up.zqE {α:Type}{R:α->α->Prop}{a b O:List α}{na nb:Nat}(h:Up R a b O na nb)(e:nb=0):Good R a b (a.take na++b.take nb++O):=by subst e;exact h.endB
section
variable {prog:Program}{w:World}{A:Around}{E:Value->Shared->Prop}{s:Shared}{k:SortKind}{P:Keyed->Prop}{f:Keyed->Keyed->Bool}
theorem zpx (C:Cmp prog w A E s k P f)(T:Tot f P){a b:Array Keyed}{Q:Array Keyed->SortSt->Prop}{st:SortSt}(hst:kindOf st=k)(ha:0<a.size)(hb:0<b.size)(hPa:∀(j:Nat) x,a[j]? = some x->P x)(hPb:∀(j:Nat) x,b[j]? = some x->P x)
  (sa:a.toList.Pairwise (Le f)) (sb:b.toList.Pairwise (Le f)) (h0:f b[0] a[0]=true) (hl:∀y∈b.toList,Le f y (a[a.size-1]'(by lia)))
  (hQ:∀out st',Good (Le f) a.toList b.toList out.toList->Same st st'->Q out st'):wpS (model prog w) A E s (mHi a b) Q st:=by
 have pa:=zdO hPa;have pb:=zdO hPb;have la:a.toList.length=a.size:=Array.length_toList;have lb:b.toList.length=b.size:=Array.length_toList;have ga:∀ {i:Nat},(hi:i<a.size)->a[i]? = some a[i]:=λ{i} hi=>getElem?_pos a i hi;have gb:∀ {i:Nat},(hi:i<b.size)->b[i]? = some b[i]:=λ{i} hi=>getElem?_pos b i hi;have gla:∀ {i:Nat},(hi:i<a.size)->a.toList[i]? = some a[i]:=λ{i} hi=>by rw[Array.getElem?_toList];exact ga hi
 have glb:∀ {i:Nat},(hi:i<b.size)->b.toList[i]? = some b[i]:=λ{i} hi=>by rw[Array.getElem?_toList];exact gb hi
 have Pa:∀ {i:Nat},(hi:i<a.size)->P a[i]:=λ{i} hi=>hPa i _ (ga hi);have Pb:∀ {i:Nat},(hi:i<b.size)->P b[i]:=λ{i} hi=>hPb i _ (gb hi);have stA:∀ {O:List Keyed} {n m:Nat},Up (Le f) a.toList b.toList O (n+1) (m+1)->(h1:n<a.size)->(h2:m<b.size)->f b[m] a[n]=true->Up (Le f) a.toList b.toList (a[n]::O) n (m+1):=
  λu h1 h2 hf=>u.one (gla h1) (zfh T hPb sb h2 (Pa h1) (T.asym _ _ (Pb h2) (Pa h1) hf))
 have stB:∀ {O:List Keyed} {n m:Nat},Up (Le f) a.toList b.toList O (n+1) (m+1)->(h1:n<a.size)->(h2:m<b.size)->f b[m] a[n]=false->Up (Le f) a.toList b.toList (b[m]::O) (n+1) m:=
  λu h1 h2 hf=>u.oneB (glb h2) (zfh T hPa sa h1 (Pb h2) hf)
 have fst:∀ {O:List Keyed} {n m:Nat},Up (Le f) a.toList b.toList O n m->m=1->Good (Le f) a.toList b.toList (b.toList.take m++a.toList.take n++O):=λ{O n m} u em=>
  u.first λy hy z hz=>by
   obtain⟨i,hi,hi1,rfl⟩:=zfg hy;obtain⟨j,hj,_,rfl⟩:=zfg hz;have:i=0:=by lia
   subst this;have h1:=T.asym _ _ (Pb hb) (Pa ha) h0;rcases Nat.eq_zero_or_pos j with rfl | hj0
   ·exact h1
   ·exact T.tr _ _ _ (Pb hb) (Pa ha) (Pa hj) h1 (zgM sa hj0 hj)
 have start:Up (Le f) a.toList b.toList [a[a.size-1]'(by lia)] (a.size-1) b.size:=by
  have h:Up (Le f) a.toList b.toList [] (a.size-1+1) b.size:=by
   refine⟨?_,?_,?_⟩
   ·rw[List.take_of_length_le (by lia),List.take_of_length_le (by lia),List.append_nil]
   ·rw[List.take_of_length_le (by lia),List.append_nil];exact sa
   ·rw[List.take_of_length_le (by lia),List.append_nil];exact sb
  exact h.one (gla (by lia)) λz hz=>hl z (List.mem_of_mem_take hz)
 refine wpS_bind (wpS_lift (wpAny_rule ⟨rfl,?_⟩));refine wpS_bind (zas (ga (show a.size-1<a.size by lia)) ?_);refine zax (λha1=>?_) (λha1=>?_)
 ·have e:a.size-1=0:=by simpa using ha1
  refine wpS_pure (hQ _ _ ?_ (.refl st));rw[Array.toList_append,Array.toList_append,zaW,zaW,Array.toList_reverse];exact start.zlH e
 refine zax (λhb1=>?_) (λhb1=>?_)
 ·have e:b.size=1:=by simpa using hb1
  refine wpS_pure (hQ _ _ ?_ (.refl st));rw[Array.toList_append,Array.toList_append,zaW,zaW,Array.toList_reverse];exact fst start e
 have ha2:1<=a.size-1:=by have:¬ a.size-1=0:=(by simpa using ha1);lia
 have hb2:2<=b.size:=by have:¬ b.size=1:=(by simpa using hb1);lia
 refine wpS_bind (wpS_get ?_);refine wpS_bind (wpS_mono (wpS_forRange
  (I:=λx c st'=>Same st st'/\∃out na nb mg,c=(none,na,nb,out,mg)/\Up (Le f) a.toList b.toList out.toList.reverse na nb/\1<=na/\2<=nb/\na<=a.size/\nb<=b.size/\x+(na+nb)+1<=a.size+b.size)
  (Q:=λc st'=>Same st st'/\∃out,c.1=some out/\Good (Le f) a.toList b.toList out.toList) ?step ?fin ⟨.refl st,_,a.size-1,b.size,_,rfl,by simpa using start,ha2,hb2,by lia,by lia,by lia⟩) ?post)
 case fin=>
  rintro c st' ⟨_,out,na,nb,mg,rfl,_,h1,h2,h3,h4,h5⟩;exfalso
  lia
 case post=>
  rintro⟨c1,c2⟩ st' ⟨hs,out,e,g⟩;simp only at e;subst e;exact wpS_pure (hQ _ _ g hs)
 case step=>
  rintro x c st1 _ hx ⟨hs,out,na,nb,mg,rfl,u,h1,h2,h3,h4,h5⟩;show wpS _ _ _ _ (bind _ _) _ _;dsimp -zeta only;refine wpS_bind (wpS_mono (wpS_forRange
   (I:=λx c st'=>Same st st'/\∃out n2 m2 ac bc,c=(none,n2+1,m2+1,out,ac,bc)/\Up (Le f) a.toList b.toList out.toList.reverse (n2+1) (m2+1)/\1<=m2/\n2<a.size/\m2<b.size/\x+(n2+m2+2)<=na+nb)
   (Q:=λc st'=>Same st st'/\((∃out,c.1=some out/\Good (Le f) a.toList b.toList out.toList)\/∃out n2 m2 ac bc,c=(none,n2+1,m2+1,out,ac,bc)/\Up (Le f) a.toList b.toList out.toList.reverse (n2+1) (m2+1)/\1<=m2/\n2<a.size/\m2<b.size/\1+(n2+m2+2)<=na+nb)) ?step1 ?fin1 ?ini1) ?post1)
  case ini1=>
   obtain⟨n,rfl⟩:∃n,na=n+1:=⟨na-1,by lia⟩;obtain⟨m,rfl⟩:∃m,nb=m+1:=⟨nb-1,by lia⟩;exact⟨hs,out,n,m,0,0,rfl,u,by lia,by lia,by lia,by lia⟩
  case fin1=>
   rintro c st' ⟨_,out,n2,m2,ac,bc,rfl,_,h1,h2,h3,h4⟩;exfalso
   lia
  case step1=>
   rintro y c st2 _ hy ⟨hs2,out2,n2,m2,ac,bc,rfl,u2,g1,g2,g3,g4⟩;dsimp only;refine wpS_bind (zas (gb g3) (wpS_bind (zas (ga g2) (wpS_bind (C.run (Pb g3) (Pa g2) (by rw[hs2.kind];exact hst) ?_)))));simp only[Nat.add_sub_cancel];cases hf:f b[m2] a[n2]with
   | true=>
    have u3:=stA u2 g2 g3 hf;have er:a[n2]::out2.toList.reverse=(out2.push a[n2]).toList.reverse:=by simp
    rw[er]at u3;rw[if_pos rfl];refine wpS_bind (zas (ga g2) ?_);refine zax (λe1=>?_) (λe1=>?_)
    ·refine wpS_pure ⟨hs2,.inl ⟨_,rfl,?_⟩⟩;rw[Array.toList_append,Array.toList_append,zaW,zaW,Array.toList_reverse];exact u3.zlH (by simpa using e1)
    ·have e1:¬ n2=0:=by simpa using e1
     obtain⟨n3,rfl⟩:∃n3,n2=n3+1:=⟨n2-1,by lia⟩;refine zax (λe2=>?_) (λe2=>?_)
     ·exact wpS_pure ⟨hs2,.inr ⟨_,_,_,_,_,rfl,u3,g1,by lia,g3,by lia⟩⟩
     ·exact wpS_pure ⟨hs2,_,_,_,_,_,rfl,u3,g1,by lia,g3,by lia⟩
   | false=>
    have u3:=stB u2 g2 g3 hf;have er:b[m2]::out2.toList.reverse=(out2.push b[m2]).toList.reverse:=by simp
    rw[er]at u3;rw[if_neg (by decide)];refine wpS_bind (zas (gb g3) ?_);refine zax (λe1=>?_) (λe1=>?_)
    ·refine wpS_pure ⟨hs2,.inl ⟨_,rfl,?_⟩⟩;rw[Array.toList_append,Array.toList_append,zaW,zaW,Array.toList_reverse];exact fst u3 (by simpa using e1)
    ·have e1:¬ m2=1:=by simpa using e1
     obtain⟨m3,rfl⟩:∃m3,m2=m3+1:=⟨m2-1,by lia⟩;refine zax (λe2=>?_) (λe2=>?_)
     ·exact wpS_pure ⟨hs2,.inr ⟨_,_,_,_,_,rfl,u3,by lia,g2,by lia,by lia⟩⟩
     ·exact wpS_pure ⟨hs2,_,_,_,_,_,rfl,u3,by lia,g2,by lia,by lia⟩
  case post1=>
   rintro c st2 ⟨hs2,hc⟩;rcases hc with ⟨out2,e,g⟩ | ⟨out2,n2,m2,ac,bc,rfl,u2,g1,g2,g3,g4⟩
   ·obtain⟨c1,c2⟩:=c;simp only at e;subst e;exact wpS_pure ⟨hs2,_,rfl,g⟩
   show wpS _ _ _ _ (bind _ _) _ _;dsimp -zeta only;refine wpS_bind (wpS_lift (wpAny_rule ⟨rfl,?_⟩));refine wpS_bind (wpS_mono (wpS_forRange
    (I:=λx c st'=>Same st st'/\∃out n3 m3 mg ac bc,c=(none,n3+1,m3+1,out,mg,ac,bc)/\Up (Le f) a.toList b.toList out.toList.reverse (n3+1) (m3+1)/\1<=m3/\n3<a.size/\m3<b.size/\x+(n3+m3)<=n2+m2)
    (Q:=λc st'=>Same st st'/\((∃out,c.1=some out/\Good (Le f) a.toList b.toList out.toList)\/∃out n3 m3 mg ac bc,c=(none,n3+1,m3+1,out,mg,ac,bc)/\Up (Le f) a.toList b.toList out.toList.reverse (n3+1) (m3+1)/\1<=m3/\n3<a.size/\m3<b.size/\n3+m3<=n2+m2)) ?step2 ?fin2 ⟨hs2,out2,n2,m2,_,ac,bc,rfl,u2,g1,g2,g3,by lia⟩) ?post2)
   case fin2=>
    rintro c st' ⟨_,out,n3,m3,mg,ac,bc,rfl,_,h1,h2,h3,h4⟩;exfalso
    lia
   case post2=>
    rintro c st3 ⟨hs3,hc⟩;rcases hc with ⟨out3,e,g⟩ | ⟨out3,n3,m3,mg3,ac3,bc3,rfl,u3,q1,q2,q3,q4⟩
    ·obtain⟨c1,c2⟩:=c;simp only at e;subst e;exact wpS_pure ⟨hs3,_,rfl,g⟩
    dsimp only;refine wpS_bind (zfe hs3 λst4 hs4=>?_);exact wpS_pure ⟨hs4,_,_,_,_,rfl,u3,by lia,by lia,by lia,by lia,by lia⟩
   case step2=>
    rintro y c st3 _ hy ⟨hs3,out3,n3,m3,mg3,ac3,bc3,rfl,u3,q1,q2,q3,q4⟩;show wpS _ _ _ _ (ite _ _ _) _ _;dsimp -zeta only;generalize mg3-1=mu;revert mu;refine zpt λmgX=>?_;refine wpS_bind (zfe hs3 λst4 hs4=>?_);have hk4:kindOf st4=k:=by rw[hs4.kind];exact hst
    have nA:0+(n3+1)<=a.size:=by lia
    refine wpS_bind (zas (gb q3) (wpS_bind ?_));refine zex C (l:=false) (key:=b[m3]) (a:=a) (b:=0) (n:=n3+1) (h:=n3+1-1) (by lia) nA hPa (Pb q3) hk4 (zdr T nA hPa (Pb q3) sa) λi1 cut=>?_;have c1:=cut.le;have c2:∀(j:Nat) (h:j<a.size),i1<=j->j<n3+1->f b[m3] a[j]=true:=λj h h1 h2=>by
     have:=cut.above j h1 h2;rw[zbf (by lia)]at this;simpa using this
    have c3:∀(j:Nat) (h:j<a.size),j<i1->f b[m3] a[j]=false:=λj h h1=>by
     have:=cut.below j h1;rw[zbf (by lia)]at this;simpa using this
    have u4:=u3.runA c1 λz hz x hx=>by
     obtain⟨j,hj,h1,h2,rfl⟩:=mem_mid hx;exact zfh T hPb sb q3 (Pa hj) (T.asym _ _ (Pb q3) (Pa hj) (c2 j hj h1 h2)) z hz
    clear cut c2;show wpS _ _ _ _ (ite _ _ _) _ _;dsimp -zeta only;generalize hn4:n3+1=n4 at u4 c1 q4 nA ⊢;generalize hac:n4-i1=ac4;have q5:y+(n4-1+m3)<=n2+m2:=by lia
    have q6:0<n4:=by lia
    have HH:=And.intro u4 (And.intro c1 (And.intro c3 (And.intro q5 (And.intro q6 (And.intro nA hac)))));clear u4 c1 c3 q5 q6 nA u3 q2 q4 hn4 hac;revert HH;revert n4;revert out3;refine zhG (γ:=Array Keyed) (δ:=Nat) (λo n=>Up (Le f) a.toList b.toList o.toList.reverse n (m3+1)/\0<n/\n<=a.size/\(∀(h:n-1<a.size),f b[m3] a[n-1]=false)/\y+(n-1+m3)<=n2+m2) ?_ (λout3 n4 ⟨u4,c1,c3,q5,q6,nA,hac⟩ hk0 key=>?_) λout3 n4 ⟨u4,c1,c3,q5,q6,nA,hac⟩ hk0=>?_
    rotate_left
    ·have er:(a.toList.take n4).drop i1++out3.toList.reverse=(out3++(a.extract i1 n4).reverse).toList.reverse:=by
      rw[Array.toList_append,Array.toList_reverse,List.reverse_append,List.reverse_reverse,zjW]
     rw[er]at u4;clear er;refine zax (λe1=>?_) (λe1=>?_)
     ·refine wpS_pure ⟨hs4,.inl ⟨_,rfl,?_⟩⟩;rw[Array.toList_append,Array.toList_append,zaW,zaW,Array.toList_reverse];exact u4.zlH (by simpa using e1)
     have e1:¬ i1=0:=by simpa using e1
     exact key _ _ ⟨u4,by lia,by lia,λh=>c3 _ h (by lia),by lia⟩
    ·have hk0:i1=n4:=by lia
     subst hk0;have en:(a.toList.take i1).drop i1=[]:=List.drop_of_length_le (by rw[List.length_take];lia);rw[en,List.nil_append]at u4;exact⟨u4,q6,by lia,λh=>c3 _ h (by lia),q5⟩
    rintro outX n5 ⟨u4,p1,p2,fX',qX⟩;obtain⟨nX,rfl⟩:∃nX,n5=nX+1:=⟨n5-1,by lia⟩;have gX:nX<a.size:=by lia
    have fX:f b[m3] a[nX]=false:=fX' gX;have qX:y+(nX+m3)<=n2+m2:=qX;clear fX' p1 p2;have u5:=stB u4 gX q3 fX;have er:b[m3]::outX.toList.reverse=(outX.push b[m3]).toList.reverse:=by simp
    rw[er]at u5;clear er;refine wpS_bind (zas (gb q3) ?_);simp only[Nat.add_sub_cancel];generalize outX.push b[m3]=outY at u5;refine zax (λe3=>?_) (λe3=>?_)
    ·refine wpS_pure ⟨hs4,.inl ⟨_,rfl,?_⟩⟩;rw[Array.toList_append,Array.toList_append,zaW,zaW,Array.toList_reverse];exact fst u5 (by simpa using e3)
    have e3:¬ m3=1:=by simpa using e3
    have nB:0+m3<=b.size:=by lia
    refine wpS_bind (zas (ga gX) (wpS_bind ?_));refine zex C (l:=true) (key:=a[nX]) (a:=b) (b:=0) (n:=m3) (h:=m3-1) (by lia) nB hPb (Pa gX) hk4 (zdr T nB hPb (Pa gX) sb) λi2 cut2=>?_;have d1:=cut2.le;have d2:∀(j:Nat) (h:j<b.size),i2<=j->j<m3->f b[j] a[nX]=false:=λj h h1 h2=>by
     have:=cut2.above j h1 h2;rw[zbf (by lia)]at this;simpa using this
    have d3:∀(j:Nat) (h:j<b.size),j<i2->f b[j] a[nX]=true:=λj h h1=>by
     have:=cut2.below j h1;rw[zbf (by lia)]at this;simpa using this
    have u6:=u5.runB d1 λz hz x hx=>by
     obtain⟨j,hj,h1,h2,rfl⟩:=mem_mid hx;exact zfh T hPa sa gX (Pb hj) (d2 j hj h1 h2) z hz
    clear cut2 d2 u5 u4;show wpS _ _ _ _ (ite _ _ _) _ _;have q7:y+1+(nX+(m3-1))<=n2+m2:=by lia
    have q8:2<=m3:=by lia
    clear fX e3 qX;generalize m3=m4 at u6 d1 q7 q8 nB ⊢;generalize hbc:m4-i2=bc4;have HH:=And.intro u6 (And.intro d1 (And.intro q7 (And.intro q8 (And.intro nB hbc))));clear u6 d1 q7 q8 nB hbc;revert HH;revert m4;revert outY;refine zhG (γ:=Array Keyed) (δ:=Nat) (λo m=>Up (Le f) a.toList b.toList o.toList.reverse (nX+1) m/\2<=m/\m<=b.size/\(∀(h:m-1<b.size),f b[m-1] a[nX]=true)/\y+1+(nX+(m-1))<=n2+m2) ?_ (λoutY m4 ⟨u6,d1,q7,q8,nB,hbc⟩ hk2 key=>?_) λoutY m4 ⟨u6,d1,q7,q8,nB,hbc⟩ hk2=>?_
    rotate_left
    ·have er:(b.toList.take m4).drop i2++outY.toList.reverse=(outY++(b.extract i2 m4).reverse).toList.reverse:=by
      rw[Array.toList_append,Array.toList_reverse,List.reverse_append,List.reverse_reverse,zjW]
     rw[er]at u6;clear er;refine zax (λe4=>?_) (λe4=>?_)
     ·refine wpS_pure ⟨hs4,.inl ⟨_,rfl,?_⟩⟩;rw[Array.toList_append,Array.toList_append,zaW,zaW,Array.toList_reverse];exact fst u6 (by simpa using e4)
     have e4:¬ i2=1:=by simpa using e4
     refine zax (λe5=>?_) (λe5=>?_)
     ·refine wpS_pure ⟨hs4,.inl ⟨_,rfl,?_⟩⟩;rw[Array.toList_append,Array.toList_append,zaW,zaW,Array.toList_reverse];exact u6.zqE (by simpa using e5)
     have e5:¬ i2=0:=by simpa using e5
     exact key _ _ ⟨u6,by lia,by lia,λh=>d3 _ h (by lia),by lia⟩
    ·have hk2:i2=m4:=by lia
     subst hk2;have en:(b.toList.take i2).drop i2=[]:=List.drop_of_length_le (by rw[List.length_take];lia);rw[en,List.nil_append]at u6;exact⟨u6,q8,by lia,λh=>d3 _ h (by lia),q7⟩
    rintro outZ m5 ⟨u6,p1,p2,fZ',qZ⟩;obtain⟨mZ,rfl⟩:∃mZ,m5=mZ+1:=⟨m5-1,by lia⟩;have gZ:mZ<b.size:=by lia
    have fZ:f b[mZ] a[nX]=true:=fZ' gZ;have g1Z:1<=mZ:=by lia
    have qZ:y+1+(nX+mZ)<=n2+m2:=qZ;have u7:=stA u6 gX gZ fZ;have er:a[nX]::outZ.toList.reverse=(outZ.push a[nX]).toList.reverse:=by simp
    rw[er]at u7;clear er;refine wpS_bind (zas (ga gX) ?_);refine zax (λe6=>?_) (λe6=>?_)
    ·refine wpS_pure ⟨hs4,.inl ⟨_,rfl,?_⟩⟩;rw[Array.toList_append,Array.toList_append,zaW,zaW,Array.toList_reverse];exact u7.zlH (by simpa using e6)
    have e6:¬ nX=0:=by simpa using e6
    obtain⟨nW,rfl⟩:∃nW,nX=nW+1:=⟨nX-1,by lia⟩;split
    ·exact wpS_pure ⟨hs4,.inr ⟨_,_,_,_,_,_,rfl,u7,g1Z,by lia,gZ,by lia⟩⟩
    ·exact wpS_pure ⟨hs4,_,_,_,_,_,_,rfl,u7,g1Z,by lia,gZ,by lia⟩
end
noncomputable def mAt:Nat->StateT SortSt Sem Bool:=sortPriv% PySem.Builtin.mergeAt
theorem zhH {α:Type}:∀(m:List α)(a:Array α)(s n:Nat),s+n+m.length<=a.size->((m.zipIdx n).foldl (λa (p:α×Nat)=>a.setIfInBounds (s+p.2) p.1) a).toList=a.toList.take (s+n)++m++a.toList.drop (s+n+m.length)
 | [],a,s,n,h=>by simp
 | x::m,a,s,n,h=>by
  rw[List.zipIdx_cons,List.foldl_cons,zhH m _ s (n+1) (by simp at h ⊢;lia)];simp only[Array.toList_setIfInBounds,List.length_cons]at h ⊢;have hs:s+n<a.toList.length:=by simp;lia
  rw[List.take_set,List.drop_set_of_lt (by lia)];have e1:(a.toList.take (s+(n+1))).set (s+n) x=a.toList.take (s+n)++[x]:=by
   rw[show s+(n+1)=s+n+1 by lia,List.take_add_one,List.getElem?_eq_getElem hs];rw[List.set_append_right _ _ (by rw[List.length_take];lia)];rw[List.length_take,Nat.min_eq_left (Nat.le_of_lt hs),Nat.sub_self];rfl
  rw[e1,show s+(n+1)+m.length=s+n+(m.length+1) by lia];simp
theorem joined {f:Keyed->Keyed->Bool}{P:Keyed->Prop}(T:Tot f P){A0 A1 B0 B1 m:List Keyed}(hP:∀x∈A0++A1++(B0++B1),P x)(sa:(A0++A1).Pairwise (Le f))(sb:(B0++B1).Pairwise (Le f))(g:Good (Le f) A1 B0 m)
  (h1:∀x∈A0,∀y∈B0++B1,Le f x y) (h2:∀x∈A1,∀y∈B1,Le f x y):(A0++m++B1).Pairwise (Le f)/\(A0++m++B1).Perm (A0++A1++(B0++B1)):=by
 have a:=List.pairwise_append.mp sa;have b:=List.pairwise_append.mp sb;refine⟨?_,?_⟩
 ·rw[List.append_assoc,List.pairwise_append,List.pairwise_append];refine⟨a.1,⟨g.so,b.2.1,λx hx y hy=>?_⟩,λx hx y hy=>?_⟩
  ·rcases List.mem_append.mp (g.pm.mem_iff.mp hx)with h | h
   ·exact h2 x h y hy
   ·exact b.2.2 x h y hy
  ·rcases List.mem_append.mp hy with hy | hy
   ·rcases List.mem_append.mp (g.pm.mem_iff.mp hy)with h | h
    ·exact a.2.2 x hx y h
    ·exact h1 x hx y (List.mem_append.mpr (.inl h))
   ·exact h1 x hx y (List.mem_append.mpr (.inr hy))
 ·rw[List.append_assoc,List.append_assoc];refine List.Perm.append_left _ ?_;rw[<- List.append_assoc];exact List.Perm.append_right _ g.pm
section
variable {prog:Program}{w:World}{A:Around}{E:Value->Shared->Prop}{s:Shared}{k:SortKind}{P:Keyed->Prop}{f:Keyed->Keyed->Bool}
theorem zpy {x:SortSt}{Q:PUnit->SortSt->Prop}{st:SortSt}(h:Q ⟨⟩ x):wpS (model prog w) A E s (set x:StateT SortSt Sem PUnit) Q st:=by
 unfold wpS;rw[StateT.run_set];exact wpAny_pure ⟨rfl,h⟩
noncomputable def Run (f:Keyed->Keyed->Bool)(a:Array Keyed)(lo hi:Nat):Prop:=∀(i j:Nat)(hj:j<a.size)(hij:i<j),lo<=i->j<hi->Le f (a[i]'(by lia)) a[j]
theorem zhI (T:Tot f P){l:Bool}{key:Keyed}{a:Array Keyed}{b n:Nat}(hn:b+n<=a.size)(hP:∀(j:Nat) x,a[j]? = some x->P x)(hk:P key)(hs:Run f a b (b+n)):∀i j,i<=j->j<n->beyB f l key a b j=true->beyB f l key a b i=true:=by
 intro i j hij hj h;rcases Nat.lt_or_eq_of_le hij with hlt | rfl
 ·have hi':b+i<a.size:=by lia
  have hj':b+j<a.size:=by lia
  have pi:P a[b+i]:=hP _ _ (getElem?_pos a _ hi');have pj:P a[b+j]:=hP _ _ (getElem?_pos a _ hj');have hle:Le f a[b+i] a[b+j]:=hs _ _ hj' (by lia) (by lia) (by lia);rw[zbf hj']at h;rw[zbf hi'];cases l with
  | true=>
   simp only[if_true]at h ⊢;cases hc:f a[b+i] key with
   | true=>rfl
   | false=>rw[T.tr key a[b+i] a[b+j] hk pi pj hc hle]at h;cases h
  | false=>
   simp only[Bool.false_eq_true,if_false]at h ⊢;have h:f key a[b+j]=false:=by simpa using h
   rw[T.tr a[b+i] a[b+j] key pi pj hk hle h];rfl
 ·exact h
theorem zhJ {a:Array Keyed}{lo n:Nat}(hs:Run f a lo (lo+n))(hn:lo+n<=a.size):((a.toList.drop lo).take n).Pairwise (Le f):=by
 rw[List.pairwise_iff_getElem];intro i j hi hj hij;rw[List.length_take,List.length_drop,Array.length_toList]at hi hj;have:=hs (lo+i) (lo+j) (by lia) (by lia) (by lia) (by lia);simpa using this
theorem zci (T:Tot f P){x:Keyed}(hx:P x):Le f x x:=by
 cases h:f x x with
 | false=>exact h
 | true=>have:=T.asym x x hx hx h;rw[h]at this;cases this
theorem zpz (C:Cmp prog w A E s k P f)(T:Tot f P){i sa na pw nb pw2:Nat}{Q:Bool->SortSt->Prop}{st:SortSt}(hst:kindOf st=k)(hfl:failedOf st=none)(h1:(pendingOf st)[i]? = some (sa,na,pw))(h2:(pendingOf st)[i+1]? = some (sa+na,nb,pw2))(hna:0<na)(hnb:0<nb)
  (hsz:sa+na+nb<=(arrOf st).size) (hP:∀(j:Nat) x,(arrOf st)[j]? = some x->P x) (r1:Run f (arrOf st) sa (sa+na)) (r2:Run f (arrOf st) (sa+na) (sa+na+nb))
  (hQ:∀st' S,kindOf st'=k->failedOf st'=none->pendingOf st'=((pendingOf st).setIfInBounds i (sa,na+nb,pw)).eraseIdxIfInBounds (i+1)->S.Pairwise (Le f)->S.Perm (((arrOf st).toList.drop sa).take (na+nb))->
   (arrOf st').toList=(arrOf st).toList.take sa++S++(arrOf st).toList.drop (sa+na+nb)->Q true st'):wpS (model prog w) A E s (mAt i) Q st:=by
 refine wpS_bind (wpS_get ?_);rw[h1,h2];refine wpS_bind (zpy ?_);dsimp only[arrOf]at hsz hP r1 r2 hQ;generalize harr:(sortPriv% PySem.Builtin.SortState.a) st=a at *;have hl:a.toList.length=a.size:=Array.length_toList;have ga:∀ {i:Nat},(hi:i<a.size)->a[i]? = some a[i]:=λ{i} hi=>getElem?_pos a i hi;have Pa:∀ {i:Nat},(hi:i<a.size)->P a[i]:=λ{i} hi=>hP i _ (ga hi);have pl:=zdO hP;have hb0:sa+na<a.size:=by lia
 refine wpS_bind (zas (ga hb0) (wpS_bind ?_));refine zex C (l:=false) (key:=a[sa+na]) (a:=a) (b:=sa) (n:=na) (h:=0) (by lia) (by lia) hP (Pa hb0) hst (zhI T (by lia) hP (Pa hb0) r1) λk1 cut=>?_;have c1:=cut.le;have c2:∀(j:Nat) (h:sa+j<a.size),j<k1->Le f a[sa+j] a[sa+na]:=λj h hj=>by
  have:=cut.below j hj;rw[zbf h]at this;simpa using this
 have c3:k1<na->f a[sa+na] (a[sa+k1]'(by lia))=true:=λhj=>by
  have:=cut.above k1 (Nat.le_refl _) hj;rw[zbf (by lia)]at this;simpa using this
 have eA:(a.toList.drop sa).take na=(a.toList.drop sa).take k1++(a.toList.drop (sa+k1)).take (na-k1):=by
  have:=List.take_add (l:=a.toList.drop sa) (i:=k1) (j:=na-k1);rw[List.drop_drop]at this;rw[<- this];congr 1;lia
 have eS:(a.toList.drop sa).take (na+nb)=(a.toList.drop sa).take na++(a.toList.drop (sa+na)).take nb:=by
  rw[List.take_add,List.drop_drop]
 have eT:a.toList.take (sa+k1)=a.toList.take sa++(a.toList.drop sa).take k1:=List.take_add;have pA:=zhJ r1 (by lia);have pB:=zhJ r2 (by lia);have leB:∀x,P x->Le f x a[sa+na]->∀y∈(a.toList.drop (sa+na)).take nb,Le f x y:=λx px hx y hy=>by
  obtain⟨j,hj,hjn,rfl⟩:=zcu (by lia) hy;rcases Nat.eq_zero_or_pos j with rfl | h0
  ·exact hx
  ·exact T.tr _ _ _ px (Pa hb0) (Pa hj) hx (r2 _ _ hj (by lia) (by lia) (by lia))
 have hA0:∀x∈(a.toList.drop sa).take k1,∀y∈(a.toList.drop (sa+na)).take nb,Le f x y:=λx hx=>by
  obtain⟨j,hj,hjk,rfl⟩:=zcu (by lia) hx;exact leB _ (Pa hj) (c2 j hj hjk)
 dsimp only;refine zax (λe1=>?_) (λe1=>?_)
 ·have e1:na-k1=0:=by simpa using e1
  have ek:k1=na:=by lia
  subst ek;refine wpS_pure (hQ _ ((a.toList.drop sa).take (k1+nb)) hst hfl rfl ?_ (.refl _) ?_)
  ·rw[eS,List.pairwise_append];exact⟨pA,pB,hA0⟩
  ·show a.toList=_;rw[Nat.add_assoc,<- List.drop_drop,List.append_assoc,List.take_append_drop,List.take_append_drop]
 have e1:¬ na-k1=0:=by simpa using e1
 have elast:sa+k1+(na-k1)-1=sa+na-1:=by rw[Nat.add_assoc,Nat.add_sub_cancel' (show k1<=na by lia)]
 rw[elast];have hla:sa+na-1<a.size:=by lia
 refine wpS_bind (zas (ga hla) (wpS_bind ?_));refine zex C (l:=true) (key:=a[sa+na-1]) (a:=a) (b:=sa+na) (n:=nb) (h:=nb-1) (by lia) (by lia) hP (Pa hla) hst (zhI T (by lia) hP (Pa hla) r2) λk2 cut2=>?_;have d1:=cut2.le;have d2:∀(j:Nat) (h:sa+na+j<a.size),j<k2->f a[sa+na+j] a[sa+na-1]=true:=λj h hj=>by
  have:=cut2.below j hj;rw[zbf h]at this;simpa using this
 have d3:∀(j:Nat) (h:sa+na+j<a.size),k2<=j->j<nb->Le f a[sa+na-1] a[sa+na+j]:=λj h h1 h2=>by
  have:=cut2.above j h1 h2;rw[zbf h]at this;simpa using this
 have leL:∀x∈(a.toList.drop sa).take na,Le f x a[sa+na-1]:=λx hx=>by
  obtain⟨j,hj,hjn,rfl⟩:=zcu (by lia) hx;by_cases e:j=na-1
  ·have:sa+j=sa+na-1:=by lia
   simp only[this];exact zci T (Pa hla)
  ·exact r1 _ _ hla (by lia) (by lia) (by lia)
 have eB:(a.toList.drop (sa+na)).take nb=(a.toList.drop (sa+na)).take k2++(a.toList.drop (sa+na+k2)).take (nb-k2):=by
  have:=List.take_add (l:=a.toList.drop (sa+na)) (i:=k2) (j:=nb-k2);rw[List.drop_drop]at this;rw[<- this];congr 1;lia
 have hB1:∀x∈(a.toList.drop sa).take na,∀y∈(a.toList.drop (sa+na+k2)).take (nb-k2),Le f x y:=λx hx y hy=>by
  obtain⟨j,hj,hjn,rfl⟩:=zcu (by lia) hy;have px:P x:=pl x (List.mem_of_mem_drop (List.mem_of_mem_take hx));have q:=d3 (k2+j) (by lia) (by lia) (by lia);simp only[<- Nat.add_assoc]at q;exact T.tr _ _ _ px (Pa hla) (Pa hj) (leL x hx) q
 dsimp only;refine zax (λe2=>?_) (λe2=>?_)
 ·have e2:k2=0:=by simpa using e2
  subst e2;refine wpS_pure (hQ _ ((a.toList.drop sa).take (na+nb)) hst hfl rfl ?_ (.refl _) ?_)
  ·rw[eS,List.pairwise_append];exact⟨pA,pB,hB1⟩
  ·show a.toList=_;rw[Nat.add_assoc,<- List.drop_drop,List.append_assoc,List.take_append_drop,List.take_append_drop]
 have e2:¬ k2=0:=by simpa using e2
 have hX:(a.extract (sa+k1) (sa+na)).toList=(a.toList.drop (sa+k1)).take (na-k1):=by
  have:=zgL a (sa+k1) (na-k1)
  rwa [show sa+k1+(na-k1)=sa+na by lia]at this
 have hY:(a.extract (sa+na) (sa+na+k2)).toList=(a.toList.drop (sa+na)).take k2:=zgL a (sa+na) k2;have sX:(a.extract (sa+k1) (sa+na)).size=na-k1:=by rw[Array.size_extract,Nat.min_eq_left (show sa+na<=a.size by lia),Nat.add_sub_add_left]
 have sY:(a.extract (sa+na) (sa+na+k2)).size=k2:=by rw[Array.size_extract,Nat.min_eq_left (show sa+na+k2<=a.size by lia),Nat.add_sub_cancel_left]
 have PX:∀(j:Nat) x,(a.extract (sa+k1) (sa+na))[j]? = some x->P x:=λj x h=>by
  rw[<- Array.getElem?_toList,hX]at h;exact pl x (List.mem_of_mem_drop (List.mem_of_mem_take (List.mem_of_getElem? h)))
 have PY:∀(j:Nat) x,(a.extract (sa+na) (sa+na+k2))[j]? = some x->P x:=λj x h=>by
  rw[<- Array.getElem?_toList,hY]at h;exact pl x (List.mem_of_mem_drop (List.mem_of_mem_take (List.mem_of_getElem? h)))
 have pA':=pA;rw[eA]at pA';have pB':=pB;rw[eB]at pB';have soX:(a.extract (sa+k1) (sa+na)).toList.Pairwise (Le f):=by rw[hX];exact(List.pairwise_append.mp pA').2.1
 have soY:(a.extract (sa+na) (sa+na+k2)).toList.Pairwise (Le f):=by rw[hY];exact(List.pairwise_append.mp pB').1
 have f0:f ((a.extract (sa+na) (sa+na+k2))[0]'(by lia)) ((a.extract (sa+k1) (sa+na))[0]'(by lia))=true:=by
  have:=c3 (by lia);simpa using this
 have fl:∀y∈(a.extract (sa+na) (sa+na+k2)).toList,Le f y ((a.extract (sa+k1) (sa+na))[(a.extract (sa+k1) (sa+na)).size-1]'(by lia)):=λy hy=>by
  rw[hY]at hy;obtain⟨j,hj,hjn,rfl⟩:=zcu (by lia) hy;have e:sa+k1+((a.extract (sa+k1) (sa+na)).size-1)=sa+na-1:=by rw[sX];lia
  rw[Array.getElem_extract];simp only[e];exact T.asym _ _ (Pa hj) (Pa hla) (d2 j hj hjn)
 by_cases e3:na-k1<=k2;rw[if_pos e3];refine wpS_bind (zpv C T hst (by lia) (by lia) PX PY soX soY f0 fl λm st2 g sm=>?_)
 rotate_left
 rw[if_neg e3];refine wpS_bind (zpx C T hst (by lia) (by lia) PX PY soX soY f0 fl λm st2 g sm=>?_)
 all_goals
  rw[hX,hY]at g;have lm:m.toList.length=(na-k1)+k2:=by
   rw[g.pm.length_eq,List.length_append,<- hX,<- hY,Array.length_toList,Array.length_toList,sX,sY]
  obtain⟨j1,j2⟩:=joined T (A0:=(a.toList.drop sa).take k1) (B1:=(a.toList.drop (sa+na+k2)).take (nb-k2)) (P:=P) (λx hx=>by
   rcases List.mem_append.mp hx with hx | hx<;>rcases List.mem_append.mp hx with hx | hx<;>exact pl x (List.mem_of_mem_drop (List.mem_of_mem_take hx))) pA' pB' g
   (λx hx y hy=>hA0 x hx y (by rw[eB];exact hy)) (λx hx y hy=>hB1 x (by rw[eA];exact List.mem_append.mpr (.inr hx)) y hy)
  have e4:failedOf st2=none:=by rw[sm.failed];exact hfl
  have e5:arrOf st2=a:=sm.arr;refine wpS_bind (wpS_modify (wpS_bind (wpS_get (wpS_pure ?_))));have e6:(failedOf st2).isNone=true:=by rw[e4];rfl
  show Q (failedOf st2).isNone _;rw[e6];refine hQ _ _ (by show kindOf st2=k;rw[sm.kind];exact hst) e4 (by show pendingOf st2=_;exact sm.pend) j1 (j2.trans (by rw[eS,eA,eB])) ?_;show(m.toList.zipIdx.foldl (λa (p:Keyed×Nat)=>a.setIfInBounds (sa+k1+p.2) p.1) (arrOf st2)).toList=_;rw[e5];have:=zhH m.toList a (sa+k1) 0 (by rw[lm];lia);rw[this,Nat.add_zero,lm,eT];have e7:a.toList.drop (sa+k1+(na-k1+k2))=(a.toList.drop (sa+na+k2)).take (nb-k2)++a.toList.drop (sa+na+nb):=by
   have:=(List.take_append_drop (nb-k2) (a.toList.drop (sa+na+k2))).symm;rw[List.drop_drop,show sa+na+k2+(nb-k2)=sa+na+nb by lia]at this;rw[show sa+k1+(na-k1+k2)=sa+na+k2 by lia];exact this
  rw[e7];simp only[List.append_assoc]
end
noncomputable def bin:Nat->Nat->Nat->StateT SortSt Sem Bool:=sortPriv% PySem.Builtin.binarySort
noncomputable def cnt:Nat->Nat->StateT SortSt Sem (Option Nat):=sortPriv% PySem.Builtin.countRun
section
variable {prog:Program}{w:World}{A:Around}{E:Value->Shared->Prop}{s:Shared}{k:SortKind}{P:Keyed->Prop}{f:Keyed->Keyed->Bool}
structure Moved (a a':Array Keyed)(lo hi:Nat):Prop where
 pm:a'.Perm a
 out:∀j:Nat,j<lo\/hi<=j->a'[j]? = a[j]?
theorem Moved.refl (a:Array Keyed)(lo hi:Nat):Moved a a lo hi:=⟨.refl _,λ_ _=>rfl⟩
theorem Moved.trans {a b c:Array Keyed}{lo hi:Nat}(h:Moved a b lo hi)(g:Moved b c lo hi):Moved a c lo hi:=⟨g.pm.trans h.pm,λj hj=>(g.out j hj).trans (h.out j hj)⟩
theorem Moved.size {a a':Array Keyed}{lo hi:Nat}(h:Moved a a' lo hi):a'.size=a.size:=h.pm.size_eq
theorem Moved.all {a a':Array Keyed}{lo hi:Nat}(h:Moved a a' lo hi)(hP:∀(j:Nat) x,a[j]? = some x->P x):∀(j:Nat) x,a'[j]? = some x->P x:=λj x e=>by
 have h1:x∈a'.toList:=List.mem_of_getElem? (by rw[Array.getElem?_toList];exact e);exact zdO hP x ((Array.perm_iff_toList_perm.mp h.pm).mem_iff.mp h1)
theorem zcT (C:Cmp prog w A E s k P f){st:SortSt}{a:Array Keyed}{i j:Nat}{Q:Option Bool->SortSt->Prop}(hst:kindOf st=k)(ha:arrOf st=a)(hP:∀(j:Nat) x,a[j]? = some x->P x)(hi:i<a.size)(hj:j<a.size)
  (h:Q (some (f a[i] a[j])) st):wpS (model prog w) A E s (ltAt' i j) Q st:=by
 subst ha;have gi:=getElem?_pos (arrOf st) i hi;have gj:=getElem?_pos (arrOf st) j hj;rw[ltAt'_eq];refine wpS_bind (wpS_get ?_);exact wpS_bind (zas gi (wpS_bind (zas gj (C.run (hP _ _ gi) (hP _ _ gj) hst h))))
theorem zmB (C:Cmp prog w A E s k P f)(T:Tot f P){lo n ok:Nat}{Q:Bool->SortSt->Prop}{st:SortSt}(hst:kindOf st=k)(hn:lo+n<=(arrOf st).size)(hok:ok<=n)(hP:∀(j:Nat) x,(arrOf st)[j]? = some x->P x)(hr:Run f (arrOf st) lo (lo+ok))
  (hQ:∀a',Moved (arrOf st) a' lo (lo+n)->Run f a' lo (lo+n)->Q true (setArr st a')):wpS (model prog w) A E s (bin lo n ok) Q st:=by
 refine wpS_bind (wpS_mono (wpS_forRange (I:=λx c st'=>c=(none,())/\∃a',st'=setArr st a'/\Moved (arrOf st) a' lo (lo+n)/\Run f a' lo (lo+min x n))
  (Q:=λc st'=>c=(none,())/\∃a',st'=setArr st a'/\Moved (arrOf st) a' lo (lo+n)/\Run f a' lo (lo+n)) ?step ?fin ⟨rfl,arrOf st,rfl,.refl _ _ _,?ini⟩) ?post)
 case ini=>
  intro i j hj hij h1 h2;by_cases h0:ok=0
  ·lia
  ·exact hr i j hj hij h1 (by lia)
 case fin=>
  rintro c st' ⟨hc,a',e,m,r⟩;exact⟨hc,a',e,m,by rwa [show min (max (max ok 1) n) n=n by lia]at r⟩
 case post=>
  rintro c st' ⟨rfl,a',rfl,m,r⟩;exact wpS_pure (hQ a' m r)
 case step=>
  rintro x c st' hx1 hx2 ⟨rfl,a',rfl,m,r⟩;rw[show min x n=x by lia]at r;have hs:=m.size;have hx:lo+x<a'.size:=by lia
  have hP':=m.all hP;have Pa:∀ {i:Nat},(hi:i<a'.size)->P a'[i]:=λ{i} hi=>hP' i _ (getElem?_pos a' i hi);refine wpS_bind (wpS_mono (wpS_forRange (I:=λy c st2=>st2=setArr st a'/\∃l r,c=(none,l,r)/\l<=r/\r<=x/\r-l<=x-y/\(∀(i:Nat) (h:lo+i<a'.size),i<l->Le f a'[lo+i] a'[lo+x])/\(∀(i:Nat) (h:lo+i<a'.size),r<=i->i<x->f a'[lo+x] a'[lo+i]=true))
   (Q:=λc st2=>st2=setArr st a'/\∃l r,c=(none,l,r)/\l<=x/\(∀(i:Nat) (h:lo+i<a'.size),i<l->Le f a'[lo+i] a'[lo+x])/\(∀(i:Nat) (h:lo+i<a'.size),l<=i->i<x->f a'[lo+x] a'[lo+i]=true)) ?istep ?ifin ⟨rfl,0,x,rfl,by lia,by lia,by lia,λi _ h=>by lia,λi _ h1 h2=>by lia⟩) ?ipost)
  case ifin=>
   rintro c st2 ⟨rfl,l,r,rfl,g1,g2,g3,g4,g5⟩;have:l=r:=by lia
   subst this;exact⟨rfl,l,l,rfl,g2,g4,g5⟩
  case istep=>
   rintro y c st2 _ hy ⟨rfl,l,r2,rfl,g1,g2,g3,g4,g5⟩;dsimp only;refine zax (λhge=>?_) (λhge=>?_)
   ·have:l=r2:=by lia
    subst this;exact wpS_pure ⟨rfl,l,l,rfl,g2,g4,g5⟩
   ·obtain⟨m1,m2⟩:=znD hge;generalize (l+r2) / 2=md at m1 m2 ⊢;have hmid:lo+md<a'.size:=by lia
    refine wpS_bind (zcT C (st:=setArr st a') (a:=a') hst rfl hP' hx hmid ?_);cases hv:f a'[lo+x] a'[lo+md]with
    | true=>
     dsimp only;rw[if_pos rfl];refine wpS_pure ⟨rfl,l,_,rfl,by lia,by lia,by lia,g4,λi h h1 h2=>?_⟩;rcases Nat.lt_or_eq_of_le h1 with h3 | h3
     ·cases hw:f a'[lo+x] a'[lo+i]with
      | true=>rfl
      | false=>
       have:=T.tr _ _ _ (Pa hmid) (Pa h) (Pa hx) (r _ _ h (by lia) (by lia) (by lia)) hw;rw[hv]at this;cases this
     ·simp only[<- h3];exact hv
    | false=>
     dsimp only;rw[if_neg (by decide)];refine wpS_pure ⟨rfl,_,r2,rfl,by lia,by lia,by lia,λi h h1=>?_,g5⟩;rcases Nat.lt_or_eq_of_le (Nat.le_of_lt_succ h1)with h3 | h3
     ·exact T.tr _ _ _ (Pa h) (Pa hmid) (Pa hx) (r _ _ hmid (by lia) (by lia) (by lia)) hv
     ·simp only[h3];exact hv
  case ipost=>
   rintro c st2 ⟨rfl,l,r2,rfl,g1,g4,g5⟩;dsimp only;have hd:lo+x-(lo+l)=x-l:=by lia
   have gt:∀(i:Nat) (h:i<(bubble a' (lo+x) (lo+x-(lo+l))).size),∃i',∃h':i'<a'.size,(bubble a' (lo+x) (lo+x-(lo+l)))[i]=a'[i']/\((i=lo+l/\i'=lo+x)\/(lo+l<i/\i<=lo+x/\i'=i-1)\/((i<lo+l\/lo+x<i)/\i'=i)):=λi h=>by
    have e:=getElem?_bubble hx (lo+x-(lo+l)) (by lia) i;rw[bubble_size]at h;rw[getElem?_pos _ i (by rw[bubble_size];exact h),show lo+x-(lo+x-(lo+l))=lo+l by lia]at e;by_cases h1:i=lo+l
    ·rw[if_pos h1,getElem?_pos a' _ hx]at e;exact⟨lo+x,hx,Option.some.inj e,.inl ⟨h1,rfl⟩⟩
    ·rw[if_neg h1]at e;by_cases h2:lo+l<i/\i<=lo+x
     ·rw[if_pos h2,getElem?_pos a' (i-1) (by lia)]at e;exact⟨i-1,by lia,Option.some.inj e,.inr (.inl ⟨h2.1,h2.2,rfl⟩)⟩
     ·rw[if_neg h2,getElem?_pos a' i h]at e;exact⟨i,h,Option.some.inj e,.inr (.inr ⟨by lia,rfl⟩)⟩
   refine wpS_bind (wpS_modify (wpS_pure ⟨rfl,bubble a' (lo+x) (lo+x-(lo+l)),rfl,m.trans ⟨bubble_perm _ _ _,λj hj=>?_⟩,?_⟩))
   ·rw[getElem?_bubble hx _ (by lia),if_neg (by lia),if_neg (by lia)]
   ·rw[show min (x+1) n=x+1 by lia];intro i j hj hij h1 h2;obtain⟨i',hi',ei,ci⟩:=gt i (by lia);obtain⟨j',hj',ej,cj⟩:=gt j hj;rw[ei,ej];rcases ci with ⟨c1,rfl⟩ | ⟨c1,c2,rfl⟩ | ⟨c1,rfl⟩<;>rcases cj with ⟨d1,rfl⟩ | ⟨d1,d2,rfl⟩ | ⟨d1,rfl⟩
    ·lia
    ·have q:=g5 (j-1-lo) (by lia) (by lia) (by lia);simp only[show lo+(j-1-lo)=j-1 by lia]at q;exact T.asym _ _ (Pa hx) (Pa hj') q
    ·lia
    ·lia
    ·exact r _ _ hj' (by lia) (by lia) (by lia)
    ·lia
    ·have q:=g4 (i'-lo) (by lia) (by lia);simp only[show lo+(i'-lo)=i' by lia]at q;exact q
    ·exact r _ _ hj' (by lia) (by lia) (by lia)
    ·exact r _ _ hj' (by lia) (by lia) (by lia)
end
section
variable {prog:Program}{w:World}{A:Around}{E:Value->Shared->Prop}{s:Shared}{k:SortKind}{P:Keyed->Prop}{f:Keyed->Keyed->Bool}
noncomputable def Dec (f:Keyed->Keyed->Bool)(a:Array Keyed)(lo hi:Nat):Prop:=∀(i j:Nat)(hj:j<a.size)(hij:i<j),lo<=i->j<hi->Le f a[j] (a[i]'(by lia))
noncomputable def Alike (f:Keyed->Keyed->Bool)(a:Array Keyed)(p q:Nat):Prop:=∀(i j:Nat)(hi:i<a.size)(hj:j<a.size),p<=i->i<q->p<=j->j<q->Le f a[i] a[j]
noncomputable abbrev rev (a:Array Keyed)(i j:Nat):Array Keyed:=mirror a i j ((j-i) / 2)
theorem zhK {a:Array Keyed}{p q:Nat}(hq:q<=a.size)(i:Nat)(h:i<(rev a p q).size):∃i',∃h':i'<a.size,(rev a p q)[i]=a[i']/\((p<=i/\i<q/\i'=p+q-1-i)\/((i<p\/q<=i)/\i'=i)):=by
 have e:=getElem?_mirror_all (i:=p) hq i;rw[getElem?_pos _ i h]at e;rw[mirror_size]at h;by_cases h1:p<=i/\i<q
 ·rw[if_pos h1,getElem?_pos a _ (show p+q-1-i<a.size by lia)]at e;exact⟨_,by lia,Option.some.inj e,.inl ⟨h1.1,h1.2,rfl⟩⟩
 ·rw[if_neg h1,getElem?_pos a i h]at e;exact⟨i,h,Option.some.inj e,.inr ⟨by lia,rfl⟩⟩
theorem zcE {a:Array Keyed}{p q lo hi:Nat}(hq:q<=a.size)(h1:lo<=p)(h2:q<=hi):Moved a (rev a p q) lo hi:=⟨mirror_perm _ _ _ _,λj hj=>by rw[getElem?_mirror_all hq,if_neg (by lia)]⟩
theorem znE {a:Array Keyed}{p q:Nat}(hq:q<=a.size)(h:Dec f a p q):Run f (rev a p q) p q:=by
 intro i j hj hij h1 h2;obtain⟨i',hi',ei,ci⟩:=zhK (p:=p) hq i (by lia);obtain⟨j',hj',ej,cj⟩:=zhK hq j hj;rw[ei,ej];rcases ci with ⟨c1,c2,rfl⟩ | ⟨c1,rfl⟩<;>rcases cj with ⟨d1,d2,rfl⟩ | ⟨d1,rfl⟩
 ·exact h _ _ hi' (by lia) (by lia) (by lia)
 all_goals lia
theorem zgN {a:Array Keyed}{lo hi p q:Nat}(hh:hi<=a.size)(h1:lo<=p)(h2:q<=hi)(h:Dec f a lo hi)(e:Alike f a p q):Dec f (rev a p q) lo hi:=by
 intro i j hj hij g1 g2;have hqa:q<=a.size:=by lia
 obtain⟨i',hi',ei,ci⟩:=zhK (p:=p) hqa i (by lia);obtain⟨j',hj',ej,cj⟩:=zhK hqa j hj;rw[ei,ej];rcases ci with ⟨c1,c2,rfl⟩ | ⟨c1,rfl⟩<;>rcases cj with ⟨d1,d2,rfl⟩ | ⟨d1,rfl⟩
 ·exact e _ _ hj' hi' (by lia) (by lia) (by lia) (by lia)
 ·exact h _ _ hj' (by lia) (by lia) (by lia)
 ·exact h _ _ hj' (by lia) (by lia) (by lia)
 ·exact h _ _ hj' (by lia) (by lia) (by lia)
theorem Run.more (T:Tot f P){a:Array Keyed}(hP:∀(j:Nat) x,a[j]? = some x->P x){lo n:Nat}(h0:1<=n)(hn:lo+n<a.size)(h:Run f a lo (lo+n))(hf:f a[lo+n] (a[lo+n-1]'(by lia))=false):Run f a lo (lo+(n+1)):=by
 intro i j hj hij h1 h2;have Pa:∀ {i:Nat},(hi:i<a.size)->P a[i]:=λ{i} hi=>hP i _ (getElem?_pos a i hi);by_cases e:j=lo+n
 ·subst e;by_cases e2:i=lo+n-1
  ·subst e2;exact hf
  ·exact T.tr _ _ _ (Pa _) (Pa (show lo+n-1<a.size by lia)) (Pa hj) (h i (lo+n-1) (by lia) (by lia) h1 (by lia)) hf
 ·exact h i j hj hij h1 (by lia)
theorem Dec.more (T:Tot f P){a:Array Keyed}(hP:∀(j:Nat) x,a[j]? = some x->P x){lo n:Nat}(h0:1<=n)(hn:lo+n<a.size)(h:Dec f a lo (lo+n))(hf:Le f a[lo+n] (a[lo+n-1]'(by lia))):Dec f a lo (lo+(n+1)):=by
 intro i j hj hij h1 h2;have Pa:∀ {i:Nat},(hi:i<a.size)->P a[i]:=λ{i} hi=>hP i _ (getElem?_pos a i hi);by_cases e:j=lo+n
 ·subst e;by_cases e2:i=lo+n-1
  ·subst e2;exact hf
  ·exact T.tr _ _ _ (Pa hj) (Pa (show lo+n-1<a.size by lia)) (Pa _) hf (h i (lo+n-1) (by lia) (by lia) h1 (by lia))
 ·exact h i j hj hij h1 (by lia)
theorem Alike.more (T:Tot f P){a:Array Keyed}(hP:∀(j:Nat) x,a[j]? = some x->P x){p q:Nat}(hp:p<q)(hq:q<a.size)(h:Alike f a p q)(h1:Le f a[q] (a[q-1]'(by lia)))(h2:Le f (a[q-1]'(by lia)) a[q]):Alike f a p (q+1):=by
 intro i j hi hj g1 g2 g3 g4;have Pa:∀ {i:Nat},(hi:i<a.size)->P a[i]:=λ{i} hi=>hP i _ (getElem?_pos a i hi);have hq1:q-1<a.size:=by lia
 by_cases e1:i=q
 ·subst e1;by_cases e2:j=i
  ·subst e2;exact zci T (Pa hi)
  ·exact T.tr _ _ _ (Pa hi) (Pa hq1) (Pa hj) h1 (h _ _ hq1 hj (by lia) (by lia) g3 (by lia))
 ·by_cases e2:j=q
  ·subst e2;exact T.tr _ _ _ (Pa hi) (Pa hq1) (Pa hj) (h _ _ hi hq1 g1 (by lia) (by lia) (by lia)) h2
  ·exact h i j hi hj g1 (by lia) g3 (by lia)
theorem zdP (T:Tot f P){a:Array Keyed}(hP:∀(j:Nat) x,a[j]? = some x->P x){p q:Nat}(h:q=p+1):Alike f a p q:=by
 intro i j hi hj g1 g2 g3 g4;have:i=j:=by lia
 subst this;exact zci T (hP i _ (getElem?_pos a i hi))
theorem zmC (C:Cmp prog w A E s k P f)(T:Tot f P){lo n:Nat}{Q:Option Nat->SortSt->Prop}{st:SortSt}(hst:kindOf st=k)(h0:1<=n)(hn:lo+n<=(arrOf st).size)(hP:∀(j:Nat) x,(arrOf st)[j]? = some x->P x)
  (hQ:∀a' m,1<=m->m<=n->Moved (arrOf st) a' lo (lo+n)->Run f a' lo (lo+m)->Q (some m) (setArr st a')):wpS (model prog w) A E s (cnt lo n) Q st:=by
 refine wpS_bind (wpS_mono (wpS_forRange (I:=λx c st'=>st'=st/\c=(none,x)/\x<=n/\Run f (arrOf st) lo (lo+x))
  (Q:=λc st'=>st'=st/\∃x,c=(none,x)/\1<=x/\x<=n/\Run f (arrOf st) lo (lo+x)/\(x<n->∃h:lo+x<(arrOf st).size,f (arrOf st)[lo+x] ((arrOf st)[lo+x-1]'(by lia))=true)) ?step ?fin ⟨rfl,rfl,h0,λi j _ _ _ _=>by lia⟩) ?post)
 case fin=>
  rintro c st' ⟨rfl,rfl,h1,h2⟩;exact⟨rfl,_,rfl,by lia,h1,h2,λh=>by lia⟩
 case step=>
  rintro x c st' hx1 hx2 ⟨rfl,rfl,h1,h2⟩;dsimp only;refine wpS_bind (zcT C hst rfl hP (show lo+x<(arrOf st').size by lia) (show lo+x-1<(arrOf st').size by lia) ?_);cases hv:f ((arrOf st')[lo+x]'(by lia)) ((arrOf st')[lo+x-1]'(by lia))with
  | true=>
   dsimp only;rw[if_pos rfl];exact wpS_pure ⟨rfl,x,rfl,hx1,by lia,h2,λ_=>⟨by lia,hv⟩⟩
  | false=>
   dsimp only;rw[if_neg (by decide)];exact wpS_pure ⟨rfl,rfl,by lia,h2.more T hP hx1 (by lia) hv⟩
 case post=>
  rintro c st' ⟨rfl,x,rfl,h1,h2,h3,h4⟩;dsimp only;have Pa:∀ {i:Nat},(hi:i<(arrOf st').size)->P (arrOf st')[i]:=λ{i} hi=>hP i _ (getElem?_pos (arrOf st') i hi);refine zax (λe1=>?_) (λe1=>?_)
  ·have e1:x=n:=by simpa using e1
   exact wpS_pure (hQ (arrOf st') x h1 h2 (.refl _ _ _) h3)
  have e1:¬ x=n:=by simpa using e1
  obtain⟨hx,hv⟩:=h4 (by lia);have hx1:lo+x-1<(arrOf st').size:=by lia
  have hdn:Le f (arrOf st')[lo+x] (arrOf st')[lo+x-1]:=T.asym _ _ (Pa hx) (Pa hx1) hv;refine zmz (λst2=>∃a1,st2=setArr st' a1/\Moved (arrOf st') a1 lo (lo+n)/\Dec f a1 lo (lo+(x+1))) ?_ (λe2 key=>?_) (λe2=>⟨arrOf st',rfl,.refl _ _ _,Dec.more T hP h1 hx (λi j _ _ _ _=>by lia) hdn⟩)
  rotate_left
  ·refine wpS_bind (zcT C hst rfl hP (show lo<(arrOf st').size by lia) hx1 ?_);cases hw:f ((arrOf st')[lo]'(by lia)) (arrOf st')[lo+x-1]with
   | true=>
    dsimp only;rw[if_pos rfl];exact wpS_pure (hQ (arrOf st') x h1 h2 (.refl _ _ _) h3)
   | false=>
    dsimp only;rw[if_neg (by decide)];have al:Alike f (arrOf st') lo (lo+x):=λi j hi hj g1 g2 g3 g4=>by
     rcases Nat.lt_trichotomy i j with h | h | h
     ·exact h3 i j hj h g1 g4
     ·subst h;exact zci T (Pa hi)
     ·have q1:Le f (arrOf st')[i] (arrOf st')[lo+x-1]:=by
       by_cases e:i=lo+x-1
       ·subst e;exact zci T (Pa hi)
       ·exact h3 _ _ hx1 (by lia) g1 (by lia)
      have hlo:lo<(arrOf st').size:=by lia
      have q2:Le f (arrOf st')[lo] (arrOf st')[j]:=by
       by_cases e:j=lo
       ·subst e;exact zci T (Pa hj)
       ·exact h3 _ _ hj (by lia) (by lia) (by lia)
      exact T.tr _ _ _ (Pa hi) (Pa hx1) (Pa hj) q1 (T.tr _ _ _ (Pa hx1) (Pa hlo) (Pa hj) hw q2)
    have dc:Dec f (arrOf st') lo (lo+x):=λi j hj hij g1 g2=>al j i hj (by lia) (by lia) g2 g1 (by lia);exact wpS_bind (wpS_modify (key _ ⟨_,rfl,zcE (by lia) (by lia) (by lia),zgN (by lia) (by lia) (by lia) (dc.more T hP h1 hx hdn) al⟩))
  rintro st2 ⟨a1,rfl,m1,D1⟩;refine wpS_bind (wpS_lift (wpAny_rule ⟨rfl,?_⟩));refine wpS_bind (wpS_mono (wpS_forRange
   (I:=λy c st2=>∃a2 neq,st2=setArr st' a2/\c=(none,y,neq)/\y<=n/\neq<y/\Moved (arrOf st') a2 lo (lo+n)/\Dec f a2 lo (lo+y)/\Alike f a2 (lo+y-(neq+1)) (lo+y))
   (Q:=λc st2=>∃a2 y neq,st2=setArr st' a2/\c=(none,y,neq)/\x+1<=y/\y<=n/\neq<y/\Moved (arrOf st') a2 lo (lo+n)/\Dec f a2 lo (lo+y)/\Alike f a2 (lo+y-(neq+1)) (lo+y)) ?step2 ?fin2 ⟨a1,0,rfl,rfl,by lia,by lia,m1,D1,zdP T (m1.all hP) (by lia)⟩) ?post2)
  case fin2=>
   rintro c st2 ⟨a2,neq,rfl,rfl,g1,g2,g3,g4,g5⟩;exact⟨a2,_,neq,rfl,rfl,by lia,g1,g2,g3,g4,g5⟩
  case step2=>
   rintro y c st2 hy1 hy2 ⟨a2,neq,rfl,rfl,g1,g2,g3,g4,g5⟩;have hs2:=g3.size;have hP2:=g3.all hP;have hy:lo+y<a2.size:=by lia
   have hyp:lo+y-1<a2.size:=by lia
   have Pb:∀ {i:Nat},(hi:i<a2.size)->P a2[i]:=λ{i} hi=>hP2 i _ (getElem?_pos a2 i hi);dsimp only;refine wpS_bind (zcT C (st:=setArr st' a2) (a:=a2) hst rfl hP2 hy hyp ?_);cases hc:f a2[lo+y] a2[lo+y-1]with
   | true=>
    dsimp only;rw[if_pos rfl];have D2:=g4.more T hP2 (by lia) hy (T.asym _ _ (Pb hy) (Pb hyp) hc);refine zax (λhq=>?_) (λhq=>?_)
    ·have m2:=g3.trans (zcE (p:=lo+y-(neq+1)) (q:=lo+y) (lo:=lo) (hi:=lo+n) (show lo+y<=a2.size by lia) (by lia) (by lia));have D3:=zgN (p:=lo+y-(neq+1)) (q:=lo+y) (show lo+(y+1)<=a2.size by lia) (by lia) (by lia) D2 g5;exact wpS_bind (wpS_modify (wpS_pure ⟨rev a2 (lo+y-(neq+1)) (lo+y),0,rfl,rfl,by lia,by lia,m2,D3,zdP T (m2.all hP) (by lia)⟩))
    ·exact wpS_pure ⟨a2,0,rfl,rfl,by lia,by lia,g3,D2,zdP T hP2 (by lia)⟩
   | false=>
    dsimp only;rw[if_neg (by decide)];refine wpS_bind (zcT C (st:=setArr st' a2) (a:=a2) hst rfl hP2 hyp hy ?_);cases hd:f a2[lo+y-1] a2[lo+y]with
    | true=>
     dsimp only;rw[if_pos rfl];exact wpS_pure ⟨a2,y,neq,rfl,rfl,by lia,by lia,g2,g3,g4,g5⟩
    | false=>
     dsimp only;rw[if_neg (by decide)];have D2:=g4.more T hP2 (by lia) hy hd;have A2:=g5.more T hP2 (by lia) hy hd hc;refine wpS_pure ⟨a2,neq+1,rfl,rfl,by lia,by lia,g3,D2,?_⟩;rw[show lo+(y+1)-(neq+1+1)=lo+y-(neq+1) by lia,show lo+(y+1)=lo+y+1 by lia];exact A2
  case post2=>
   rintro c st2 ⟨a2,y,neq,rfl,rfl,g0,g1,g2,g3,g4,g5⟩;have hs2:=g3.size;dsimp only;refine zmz (λst3=>∃a3,st3=setArr st' a3/\Moved (arrOf st') a3 lo (lo+n)/\Dec f a3 lo (lo+y)) ?_ (λhq key=>wpS_bind (wpS_modify (key _ ⟨_,rfl,g3.trans (zcE (by lia) (by lia) (by lia)),zgN (by lia) (by lia) (by lia) g4 g5⟩))) (λhq=>⟨a2,rfl,g3,g4⟩);rintro st3 ⟨a3,rfl,m3,D3⟩;have hs3:=m3.size;refine wpS_bind (wpS_modify ?_);obtain⟨a4,m4,R4,hg⟩:∃a4,Moved (arrOf st') a4 lo (lo+n)/\Run f a4 lo (lo+y)/\setArr st' (rev a3 lo (lo+y))=setArr st' a4:=
    ⟨_,m3.trans (zcE (by lia) (by lia) (by lia)),znE (by lia) D3,rfl⟩
   show wpS _ _ _ _ _ _ (setArr st' (rev a3 lo (lo+y)));rw[hg];clear hg;have hs4:=m4.size;have hP4:=m4.all hP;refine wpS_bind (wpS_mono (wpS_forRange (I:=λz c st2=>st2=setArr st' a4/\c=(none,z)/\z<=n/\Run f a4 lo (lo+z))
    (Q:=λc st2=>st2=setArr st' a4/\∃z,c=(none,z)/\1<=z/\z<=n/\Run f a4 lo (lo+z)) ?step3 ?fin3 ⟨rfl,rfl,g1,R4⟩) ?post3)
   case fin3=>
    rintro c st2 ⟨rfl,rfl,k1,k2⟩;exact⟨rfl,_,rfl,by lia,k1,k2⟩
   case post3=>
    rintro c st2 ⟨rfl,z,rfl,k1,k2,k3⟩;exact wpS_pure (hQ a4 z k1 k2 m4 k3)
   case step3=>
    rintro z c st2 hz1 hz2 ⟨rfl,rfl,k1,k2⟩;dsimp only;refine wpS_bind (zcT C (st:=setArr st' a4) (a:=a4) hst rfl hP4 (show lo+z<a4.size by lia) (show lo+z-1<a4.size by lia) ?_);cases hc:f (a4[lo+z]'(by lia)) (a4[lo+z-1]'(by lia))with
    | true=>
     dsimp only;rw[if_pos rfl];exact wpS_pure ⟨rfl,z,rfl,by lia,by lia,k2⟩
    | false=>
     dsimp only;rw[if_neg (by decide)];exact wpS_pure ⟨rfl,rfl,by lia,k2.more T hP4 (by lia) (by lia) hc⟩
end
variable {P:Keyed->Prop}{f:Keyed->Keyed->Bool}
noncomputable def Stk (f:Keyed->Keyed->Bool)(a:Array Keyed):Nat->List (Nat×Nat×Nat)->Nat->Prop
 | s,[],hi=>s=hi
 | s,e::r,hi=>e.1=s/\0<e.2.1/\Run f a s (s+e.2.1)/\Stk f a (s+e.2.1) r hi
theorem Run.congr {a a':Array Keyed}{lo hi:Nat}(h:Run f a lo hi)(hs:a'.size=a.size)(he:∀j:Nat,lo<=j->j<hi->a'[j]? = a[j]?):Run f a' lo hi:=by
 intro i j hj hij h1 h2;have e1:=he i h1 (by lia);have e2:=he j (by lia) h2;rw[getElem?_pos a' i (by lia),getElem?_pos a i (by lia)]at e1;rw[getElem?_pos a' j hj,getElem?_pos a j (by lia)]at e2;rw[Option.some.inj e1,Option.some.inj e2];exact h i j (by lia) hij h1 h2
theorem Stk.le {a:Array Keyed}:∀ {l:List (Nat×Nat×Nat)}{s hi:Nat},Stk f a s l hi->s+l.length<=hi
 | [],s,hi,h=>by have:s=hi:=h;simp[this]
 | e::r,s,hi,⟨h1,h2,h3,h4⟩=>by have:=Stk.le h4;rw[List.length_cons];lia
theorem Stk.congr {a a':Array Keyed}(hs:a'.size=a.size):∀ {l:List (Nat×Nat×Nat)}{s hi:Nat},Stk f a s l hi->(∀j:Nat,s<=j->j<hi->a'[j]? = a[j]?)->Stk f a' s l hi
 | [],s,hi,h,_=>h
 | e::r,s,hi,⟨h1,h2,h3,h4⟩,he=>by
  have:=h4.le;exact⟨h1,h2,h3.congr hs λj g1 g2=>he j g1 (by lia),Stk.congr hs h4 λj g1 g2=>he j (by lia) g2⟩
theorem Stk.append {a:Array Keyed}:∀ {l m:List (Nat×Nat×Nat)}{s hi:Nat},Stk f a s (l++m) hi↔∃t,Stk f a s l t/\Stk f a t m hi
 | [],m,s,hi=>⟨λh=>⟨s,rfl,h⟩,λ⟨t,h1,h2⟩=>by have:s=t:=h1;rw[this];exact h2⟩
 | e::r,m,s,hi=>by
  constructor
  ·rintro⟨h1,h2,h3,h4⟩;obtain⟨t,g1,g2⟩:=Stk.append.mp h4;exact⟨t,⟨h1,h2,h3,g1⟩,g2⟩
  ·rintro⟨t,⟨h1,h2,h3,h4⟩,g⟩;exact⟨h1,h2,h3,Stk.append.mpr ⟨t,h4,g⟩⟩
theorem Stk.snoc {a:Array Keyed}{l:List (Nat×Nat×Nat)}{s lo n p:Nat}(h:Stk f a s l lo)(hn:0<n)(r:Run f a lo (lo+n)):Stk f a s (l++[(lo,n,p)]) (lo+n):=Stk.append.mpr ⟨lo,h,rfl,hn,r,rfl⟩
theorem Stk.merge {a a':Array Keyed}{pre post:List (Nat×Nat×Nat)}{sa na pw sb nb pw2 s hi:Nat}(h:Stk f a s (pre++(sa,na,pw)::(sb,nb,pw2)::post) hi)(hs:a'.size=a.size)(ho:∀j:Nat,j<sa\/sa+na+nb<=j->a'[j]? = a[j]?)(r:Run f a' sa (sa+na+nb)) :
  Stk f a' s (pre++(sa,na+nb,pw)::post) hi:=by
 obtain⟨t,h1,h2,h3,h4,h5,h6,h7,h8⟩:=Stk.append.mp h;simp only at h2 h3 h4 h5 h6 h7 h8;subst h2;refine Stk.append.mpr ⟨sa,h1.congr hs λj g1 g2=>ho j (.inl g2),rfl,by show 0<na+nb;lia,?_,?_⟩
 ·show Run f a' sa (sa+(na+nb));rw[<- Nat.add_assoc];exact r
 ·show Stk f a' (sa+(na+nb)) post hi;rw[<- Nat.add_assoc];exact h8.congr hs λj g1 g2=>ho j (.inr g1)
theorem zlI {p:Array (Nat×Nat×Nat)}{pre post:List (Nat×Nat×Nat)}{e1 e2 e:Nat×Nat×Nat}(h:p.toList=pre++e1::e2::post):((p.setIfInBounds pre.length e).eraseIdxIfInBounds (pre.length+1)).toList=pre++e::post:=by
 have hsz:p.size=pre.length+(post.length+2):=by rw[<- Array.length_toList,h];simp
 rw[Array.eraseIdxIfInBounds,dif_pos (by simp;lia)];simp[h,List.eraseIdx_append_of_length_le]
theorem zjX {a a':Array Keyed}{S:List Keyed}{sa n:Nat}(hn:sa+n<=a.size)(so:S.Pairwise (Le f))(pm:S.Perm ((a.toList.drop sa).take n))(e:a'.toList=a.toList.take sa++S++a.toList.drop (sa+n)) :
  a'.Perm a/\a'.size=a.size/\(∀j:Nat,j<sa\/sa+n<=j->a'[j]? = a[j]?)/\Run f a' sa (sa+n):=by
 have hl:a.toList.length=a.size:=Array.length_toList;have hS:S.length=n:=by rw[pm.length_eq,List.length_take,List.length_drop];lia
 have ht:(a.toList.take sa).length=sa:=by rw[List.length_take];lia
 have hp:a'.Perm a:=by
  rw[Array.perm_iff_toList_perm,e];have e2:a.toList=a.toList.take sa++(a.toList.drop sa).take n++a.toList.drop (sa+n):=by
   rw[<- List.drop_drop,List.append_assoc,List.take_append_drop,List.take_append_drop]
  refine List.Perm.trans ?_ (List.Perm.of_eq e2.symm);exact List.Perm.append_right _ (List.Perm.append_left _ pm)
 refine⟨hp,hp.size_eq,λj hj=>?_,λi j hj hij h1 h2=>?_⟩
 ·rw[<- Array.getElem?_toList,<- Array.getElem?_toList,e];rcases hj with hj | hj
  ·rw[List.append_assoc,List.getElem?_append_left (by lia),List.getElem?_take_of_lt hj]
  ·rw[List.getElem?_append_right (by rw[List.length_append];lia),List.length_append,List.getElem?_drop]
   congr 1
   lia
 ·have at':∀(i:Nat) (h:i<a'.size),sa<=i->(h2:i<sa+n)->a'[i]=S[i-sa]'(by lia):=λi h g1 g2=>by
   have:a'.toList[i]? = S[i-sa]?:=by
    rw[e,List.append_assoc,List.getElem?_append_right (by lia),ht,List.getElem?_append_left (by lia)]
   rw[Array.getElem?_toList,getElem?_pos a' i h,List.getElem?_eq_getElem (by lia)]at this;exact Option.some.inj this
  rw[at' i (by lia) h1 (by lia),at' j hj (by lia) h2];exact List.pairwise_iff_getElem.mp so _ _ _ _ (by lia)
noncomputable def srt:StateT SortSt Sem Unit:=sortPriv% PySem.Builtin.sortRuns
section
variable {prog:Program}{w:World}{A:Around}{E:Value->Shared->Prop}{s:Shared}{k:SortKind}{P:Keyed->Prop}{f:Keyed->Keyed->Bool}
structure Inv (f:Keyed->Keyed->Bool)(k:SortKind)(a:Array Keyed)(st:SortSt)(lo:Nat):Prop where
 kind:kindOf st=k
 failed:failedOf st=none
 pm:(arrOf st).Perm a
 stk:Stk f (arrOf st) 0 (pendingOf st).toList lo
theorem zhL (C:Cmp prog w A E s k P f)(T:Tot f P){a:Array Keyed}{i lo:Nat}{Q:Bool->SortSt->Prop}{st:SortSt}(hP:∀(j:Nat) x,a[j]? = some x->P x)(I:Inv f k a st lo)(hlo:lo<=a.size)(hi:i+1<(pendingOf st).size)
  (hQ:∀st',Inv f k a st' lo->(pendingOf st').size+1=(pendingOf st).size->(∀j:Nat,lo<=j->(arrOf st')[j]? = (arrOf st)[j]?)->Q true st'):wpS (model prog w) A E s (mAt i) Q st:=by
 have hlen:(pendingOf st).toList.length=(pendingOf st).size:=Array.length_toList;have hsz:(arrOf st).size=a.size:=I.pm.size_eq;obtain⟨pre,⟨sa,na,pw⟩,⟨sb,nb,pw2⟩,post,hl,hpre⟩:∃pre e1 e2 post,(pendingOf st).toList=pre++e1::e2::post/\pre.length=i:=by
  refine⟨(pendingOf st).toList.take i,(pendingOf st).toList[i],(pendingOf st).toList[i+1],(pendingOf st).toList.drop (i+2),?_,by rw[List.length_take];lia⟩;rw[<- List.drop_eq_getElem_cons,<- List.drop_eq_getElem_cons,List.take_append_drop]
 have hst:=I.stk;rw[hl]at hst;obtain⟨t,h1,h2,h3,h4,h5,h6,h7,h8⟩:=Stk.append.mp hst;simp only at h2 h3 h4 h5 h6 h7 h8;subst h2;subst h5;have hle:=h8.le;have g1:(pendingOf st)[i]? = some (sa,na,pw):=by rw[<- Array.getElem?_toList,hl,<- hpre];simp
 have g2:(pendingOf st)[i+1]? = some (sa+na,nb,pw2):=by rw[<- Array.getElem?_toList,hl,<- hpre];simp
 have hP':∀(j:Nat) x,(arrOf st)[j]? = some x->P x:=(Moved.all (lo:=0) (hi:=(arrOf st).size+a.size) ⟨I.pm,λj hj=>by
  rcases hj with hj | hj
  ·lia
  ·rw[getElem?_neg (arrOf st) j (by lia),getElem?_neg a j (by lia)]⟩ hP)
 refine zpz C T I.kind I.failed g1 g2 h3 h6 (by lia) hP' h4 h7 λst' S q1 q2 q3 q4 q5 q6=>?_;rw[Nat.add_assoc]at q6;obtain⟨r1,r2,r3,r4⟩:=zjX (by lia) q4 q5 q6;have hpl:(pendingOf st').toList=pre++(sa,na+nb,pw)::post:=by rw[q3,<- hpre];exact zlI hl
 refine hQ st' ⟨q1,q2,r1.trans I.pm,?_⟩ ?_ λj hj=>r3 j (.inr (by lia))
 ·rw[hpl];exact hst.merge r2 (λj hj=>r3 j (by lia)) (by rw[Nat.add_assoc];exact r4)
 ·have e1:(pendingOf st').size=(pendingOf st').toList.length:=Array.length_toList.symm;rw[e1,hpl,<- hlen,hl];simp
  lia
end
section
variable {prog:Program}{w:World}{A:Around}{E:Value->Shared->Prop}{s:Shared}{k:SortKind}{P:Keyed->Prop}{f:Keyed->Keyed->Bool}
theorem Stk.modify {a:Array Keyed}{g:Nat×Nat×Nat->Nat×Nat×Nat}(hg:∀e,(g e).1=e.1/\(g e).2.1=e.2.1):∀ {l:List (Nat×Nat×Nat)}{i s hi:Nat},Stk f a s l hi->Stk f a s (l.modify i g) hi
 | [],i,s,hi,h=>by cases i<;>exact h
 | e::r,0,s,hi,⟨h1,h2,h3,h4⟩=>by
  show Stk f a s (g e::r) hi;have:=hg e;exact⟨by rw[this.1];exact h1,by rw[this.2];exact h2,by rw[this.2];exact h3,by rw[this.2];exact h4⟩
 | e::r,i+1,s,hi,⟨h1,h2,h3,h4⟩=>by
  show Stk f a s (e::r.modify i g) hi;exact⟨h1,h2,h3,Stk.modify hg h4⟩
theorem Inv.moved {a:Array Keyed}{st:SortSt}{lo n:Nat}(I:Inv f k a st lo){a':Array Keyed}(m:Moved (arrOf st) a' lo n):Inv f k a (setArr st a') lo:=
 ⟨I.kind,I.failed,m.pm.trans I.pm,I.stk.congr m.size λj _ h=>m.out j (.inl h)⟩
theorem Inv.all {a:Array Keyed}{st:SortSt}{lo:Nat}(I:Inv f k a st lo)(hP:∀(j:Nat) x,a[j]? = some x->P x):∀(j:Nat) x,(arrOf st)[j]? = some x->P x:=λj x e=>by
 have h1:x∈(arrOf st).toList:=List.mem_of_getElem? (by rw[Array.getElem?_toList];exact e);exact zdO hP x ((Array.perm_iff_toList_perm.mp I.pm).mem_iff.mp h1)
theorem Inv.push {a:Array Keyed}{st:SortSt}{lo n:Nat}(I:Inv f k a st lo)(hn:1<=n)(r:Run f (arrOf st) lo (lo+n)):Inv f k a (SortSt.mk' (kindOf st) (arrOf st) ((pendingOf st).push (lo,n,0)) (gallopOf st) (failedOf st)) (lo+n):=
 ⟨I.kind,I.failed,I.pm,by show Stk f (arrOf st) 0 ((pendingOf st).push (lo,n,0)).toList (lo+n);rw[Array.toList_push];exact I.stk.snoc (by lia) r⟩
theorem Inv.power {a:Array Keyed}{st:SortSt}{lo i:Nat}(I:Inv f k a st lo){g:Nat×Nat×Nat->Nat×Nat×Nat}(hg:∀e,(g e).1=e.1/\(g e).2.1=e.2.1):Inv f k a (SortSt.mk' (kindOf st) (arrOf st) ((pendingOf st).modify i g) (gallopOf st) (failedOf st)) lo:=
 ⟨I.kind,I.failed,I.pm,by show Stk f (arrOf st) 0 ((pendingOf st).modify i g).toList lo;rw[Array.toList_modify];exact I.stk.modify hg⟩
theorem znF {c:Prop} [Decidable c] {n:Nat}(h:¬ n<=1):(if c then n-2-1 else n-2)+1<n:=by split<;>lia
theorem zjY {α:Type}{c:Prop} [Decidable c] {m1 m2:StateT SortSt Sem α}{Q:α->SortSt->Prop}{st:SortSt}(h1:c->wpS (model prog w) A E s m1 Q st)(h2:¬ c->wpS (model prog w) A E s m2 Q st):wpS (model prog w) A E s (if c then m1 else m2) Q st:=by
 by_cases h:c
 ·rw[if_pos h];exact h1 h
 ·rw[if_neg h];exact h2 h
theorem zpA (C:Cmp prog w A E s k P f)(T:Tot f P){Q:Unit->SortSt->Prop}{st:SortSt}(hst:kindOf st=k)(hfl:failedOf st=none)(hpn:pendingOf st = #[])(hP:∀(j:Nat) x,(arrOf st)[j]? = some x->P x)
  (hQ:∀st',(arrOf st').Perm (arrOf st)->failedOf st'=none->(arrOf st').toList.Pairwise (Le f)->Q () st'):wpS (model prog w) A E s srt Q st:=by
 refine wpS_bind (wpS_get ?_);refine wpS_bind (wpS_mono (wpS_forRange (I:=λx c st'=>∃lo,c=(none,lo)/\lo<=(arrOf st).size/\x<=lo/\Inv f k (arrOf st) st' lo)
  (Q:=λc st'=>∃lo,c=(none,lo)/\lo=(arrOf st).size/\Inv f k (arrOf st) st' lo) ?step ?fin ⟨0,rfl,by lia,by lia,hst,hfl,.refl _,by rw[hpn];rfl⟩) ?post)
 case fin=>
  rintro c st' ⟨lo,rfl,h1,h2,I⟩;change max 0 (arrOf st).size<=lo at h2;exact⟨lo,rfl,by lia,I⟩
 case post=>
  rintro c st' ⟨lo,rfl,rfl,I⟩;have hle:=I.stk.le;rw[Array.length_toList]at hle;refine wpS_bind (wpS_mono (wpS_forRange (I:=λx c st2=>c=(none,())/\(pendingOf st2).size+x<=(arrOf st).size/\Inv f k (arrOf st) st2 (arrOf st).size)
   (Q:=λc st2=>c=(none,())/\(pendingOf st2).size<=1/\Inv f k (arrOf st) st2 (arrOf st).size) ?step9 ?fin9 ⟨rfl,by lia,I⟩) ?post9)
  case fin9=>
   rintro c st2 ⟨rfl,h1,I2⟩;change (pendingOf st2).size+max 0 (arrOf st).size<=(arrOf st).size at h1;exact⟨rfl,by lia,I2⟩
  case post9=>
   rintro c st2 ⟨rfl,h1,I2⟩;refine wpS_pure (hQ st2 I2.pm I2.failed ?_);have hsz:(arrOf st2).size=(arrOf st).size:=I2.pm.size_eq;have hr:Run f (arrOf st2) 0 (0+(arrOf st2).size):=by
    have hs:=I2.stk;have hl:(pendingOf st2).toList.length<=1:=by rw[Array.length_toList];exact h1
    cases hp:(pendingOf st2).toList with
    | nil=>
     rw[hp]at hs;have:0=(arrOf st).size:=hs;intro i j hj hij _ h2
     lia
    | cons e r=>
     rw[hp]at hs hl;have:r=[]:=List.length_eq_zero_iff.mp (by simp at hl;exact List.length_eq_zero_iff.mpr hl);subst this;obtain⟨g1,g2,g3,g4⟩:=hs;have:0+e.2.1=(arrOf st).size:=g4;rw[this]at g3;rw[hsz,Nat.zero_add];exact g3
   have:=zhJ hr (by lia)
   rwa [List.drop_zero,List.take_of_length_le (by rw[Array.length_toList];exact Nat.le_refl _)]at this
  case step9=>
   rintro x c st2 _ hx ⟨rfl,h1,I2⟩;refine wpS_bind (wpS_get ?_);by_cases e1:(pendingOf st2).size<=1
   ·rw[if_pos e1];exact wpS_pure ⟨rfl,e1,I2⟩
   rw[if_neg e1];refine wpS_bind (zhL C T hP I2 (Nat.le_refl _) ?_ λst3 I3 h3 _=>?_)
   ·exact znF e1
   ·exact wpS_pure ⟨rfl,by lia,I3⟩
 case step=>
  rintro x c st1 _ hx ⟨lo,rfl,h1,h2,I⟩;by_cases e1:lo>=(arrOf st).size
  ·rw[if_pos e1];exact wpS_pure ⟨lo,rfl,by lia,I⟩
  rw[if_neg e1];have hsz:(arrOf st1).size=(arrOf st).size:=I.pm.size_eq;refine wpS_bind (zmC C T I.kind (show 1<=(arrOf st).size-lo by lia) (show lo+((arrOf st).size-lo)<=(arrOf st1).size by lia) (I.all hP) λa1 m q1 q2 mv r1=>?_);have I1:=I.moved mv;have hs1:=mv.size;have q2':m<=(arrOf st).size-lo:=q2;refine zjY (λe2=>?_) (λe2=>?_);generalize hmr:(sortPriv% PySem.Builtin.minRun) _ _ _=mr at *;refine wpS_bind (wpS_lift (wpAny_rule ⟨rfl,?_⟩));refine wpS_bind (zmB C T I1.kind (show lo+min ((arrOf st).size-lo) mr<=a1.size by lia) (by lia) (I1.all hP) r1 λa2 mv2 r2=>?_);rw[if_neg (by decide)];obtain⟨nn,hnn⟩:∃nn,nn=min ((arrOf st).size-lo) mr:=⟨_,rfl⟩;obtain⟨stX,IX,rX,hg⟩:∃stX,Inv f k (arrOf st) stX lo/\Run f (arrOf stX) lo (lo+min ((arrOf st).size-lo) mr)/\setArr (setArr st1 a1) a2=stX:=⟨_,I1.moved mv2,r2,rfl⟩;show wpS _ _ _ _ _ _ (setArr (setArr st1 a1) a2);rw[hg];clear hg;have n1:1<=min ((arrOf st).size-lo) mr:=by lia
  have n2:lo+min ((arrOf st).size-lo) mr<=(arrOf st).size:=by lia
  rotate_left
  obtain⟨stX,IX,rX,hg⟩:∃stX,Inv f k (arrOf st) stX lo/\Run f (arrOf stX) lo (lo+m)/\setArr st1 a1=stX:=⟨_,I1,r1,rfl⟩;show wpS _ _ _ _ _ _ (setArr st1 a1);rw[hg];clear hg;have n1:1<=m:=by lia
  have n2:lo+m<=(arrOf st).size:=by lia
  all_goals
   refine wpS_bind (wpS_get ?_);rcases hb:(pendingOf stX).back? with _ | ⟨s1,l1,p1⟩
   ·dsimp only;exact wpS_bind (wpS_modify (wpS_pure ⟨_,rfl,n2,by lia,IX.push n1 rX⟩))
   ·dsimp only;refine wpS_bind (wpS_mono (wpS_forRange (I:=λy c st2=>c=(none,())/\Inv f k (arrOf st) st2 lo/\(∀j:Nat,lo<=j->(arrOf st2)[j]? = (arrOf stX)[j]?))
     (Q:=λc st2=>c=(none,())/\Inv f k (arrOf st) st2 lo/\(∀j:Nat,lo<=j->(arrOf st2)[j]? = (arrOf stX)[j]?)) ?step5 ?fin5 ⟨rfl,IX,λ_ _=>rfl⟩) ?post5)
    case fin5=>exact λc st2 h=>h
    case post5=>
     rintro c st2 ⟨rfl,I2,o2⟩;dsimp only;have r2:=rX.congr (a':=arrOf st2) (by rw[I2.pm.size_eq,IX.pm.size_eq]) λj g1 _=>o2 j g1;refine wpS_bind (wpS_modify (wpS_bind (wpS_modify (wpS_pure ⟨_,rfl,n2,by lia,?_⟩))));exact Inv.push (Inv.power I2 (λe=>⟨rfl,rfl⟩)) n1 r2
    case step5=>
     rintro y c st2 _ hy ⟨rfl,I2,o2⟩;refine wpS_bind (wpS_get ?_);by_cases hp:(pendingOf st2).size > 1
     ·rw[if_pos hp,getElem?_pos (pendingOf st2) ((pendingOf st2).size-2) (by lia)];dsimp only;refine zjY (λe3=>?_) (λe3=>?_)
      ·exact wpS_pure ⟨rfl,I2,o2⟩
      ·refine wpS_bind (zhL C T hP I2 (by lia) (show(pendingOf st2).size-2+1<(pendingOf st2).size by lia) λst3 I3 h3 o3=>?_);rw[if_neg (by decide)];exact wpS_pure ⟨rfl,I3,λj hj=>(o3 j hj).trans (o2 j hj)⟩
     ·rw[if_neg hp];exact wpS_pure ⟨rfl,I2,o2⟩
end
noncomputable def ltI:List Int->List Int->Bool
 | [],[]=>false
 | [],_::_=>true
 | _::_,[]=>false
 | x::xs,y::ys=>if x=y then ltI xs ys else decide (x<y)
theorem zcF:∀x y:List Int,ltI x y=true->ltI y x=false
 | [],[],h=>rfl
 | [],_::_,h=>rfl
 | _::_,[],h=>by cases h
 | a::x,b::y,h=>by
  unfold ltI at h ⊢;by_cases e:a=b
  ·rw[if_pos e]at h;rw[if_pos e.symm];exact zcF x y h
  ·rw[if_neg e]at h;rw[if_neg (λz=>e z.symm)];have:=of_decide_eq_true h;exact decide_eq_false (by lia)
theorem zdQ:∀x y:List Int,ltI x y=false->ltI y x=false->x=y
 | [],[],_,_=>rfl
 | [],_::_,h,_=>by cases h
 | _::_,[],_,h=>by cases h
 | a::x,b::y,h1,h2=>by
  unfold ltI at h1 h2;by_cases e:a=b
  ·rw[if_pos e]at h1;rw[if_pos e.symm]at h2;rw[e,zdQ x y h1 h2]
  ·rw[if_neg e]at h1;rw[if_neg (λz=>e z.symm)]at h2;have:=of_decide_eq_false h1;have:=of_decide_eq_false h2;exact absurd (show a=b by lia) e
theorem zcG:∀x y z:List Int,ltI x y=true->ltI y z=true->ltI x z=true
 | [],[],_,h,_=>by cases h
 | [],_::_,[],_,h=>by cases h
 | [],_::_,_::_,_,_=>rfl
 | _::_,[],_,h,_=>by cases h
 | _::_,_::_,[],_,h=>by cases h
 | a::x,b::y,c::z,h1,h2=>by
  unfold ltI at h1 h2 ⊢;by_cases e:a=b
  ·rw[if_pos e]at h1;by_cases e2:b=c
   ·rw[if_pos e2]at h2;rw[if_pos (e.trans e2)];exact zcG x y z h1 h2
   ·rw[if_neg e2]at h2;rw[if_neg (by rw[e];exact e2),e];exact h2
  ·rw[if_neg e]at h1;have l1:=of_decide_eq_true h1;by_cases e2:b=c
   ·rw[if_neg (by rw[<- e2];exact e),<- e2];exact h1
   ·rw[if_neg e2]at h2;have l2:=of_decide_eq_true h2;rw[if_neg (by lia)];exact decide_eq_true (by lia)
theorem znG:∀x y:List Int,x.zip y=[]->ltI x y=decide (x.length<y.length)
 | [],[],_=>rfl
 | [],_::_,_=>by simp[ltI]
 | _::_,[],_=>by simp[ltI]
 | _::_,_::_,h=>by cases h
noncomputable def TupAt (h:Heap)(v:Value)(ns:List Int):Prop:=∃a o vs n,v=.ref a/\h.get? a=some o/\o.cls=.type "tuple"/\o.data=.seq (List.toArray vs) n/\IntsAre vs ns
theorem TupAt.inj {h:Heap}{v:Value}{ns ms:List Int}(h1:TupAt h v ns)(h2:TupAt h v ms):ns=ms:=by
 obtain⟨a,o,vs,n,rfl,e,_,d,i⟩:=h1;obtain⟨a2,o2,vs2,n2,ea,e2,_,d2,i2⟩:=h2;cases ea;rw[e]at e2;cases e2;rw[d]at d2;cases d2;rw[<- i.nums,<- i2.nums]
open Classical in
noncomputable def gOf (h:Heap)(v:Value):List Int:=if z:∃ns,TupAt h v ns then z.choose else[]
theorem zey {h:Heap}{v:Value}{ns:List Int}(z:TupAt h v ns):gOf h v=ns:=by
 unfold gOf;have hz:∃ns,TupAt h v ns:=⟨ns,z⟩;rw[dif_pos hz];exact hz.choose_spec.inj z
section
variable {prog:Program}{w:World}{M:Model}{A:Around}{E:Value->Shared->Prop}{s:Shared}
theorem zga {α β:Type}(f:α->β->Sem (ForInStep β))(I:List α->β->Prop){Q:β->Shared->Prop}
  (hstep:∀x rest b,I (x::rest) b->wpAny M A (f x b) (λr s'=>s'=s/\match r with | .done b'=>Q b' s | .yield b'=>I rest b') E s)
  (hend:∀b,I [] b->Q b s):∀(l:List α) (b:β),I l b->wpAny M A (forIn l b f) Q E s
 | [],b,h=>by rw[List.forIn_nil];exact wpAny_pure (hend _ h)
 | x::rest,b,h=>by
  rw[List.forIn_cons];refine wpAny_bind (wpAny_mono (hstep x rest b h) (λr s' h'=>?_) λ_ _ e=>e);obtain⟨es,h'⟩:=h';rw[es];cases r with
  | done b'=>exact wpAny_pure h'
  | yield b'=>exact zga f I hstep hend rest b' h'
theorem zjZ {a b:Int}{t u:Tok}{o:Bool}{Q:Bool->Shared->Prop}(h:Q (decide (a<b)) s):wpAny (model prog w) A (oneLt' o (.int a t) (.int b u)) Q E s:=by
 cases o with
 | true=>exact oneLt_int h
 | false=>
  rw[oneLt'_eq];simp only[Bool.false_eq_true,if_false];refine wpAny_bind (wpAny_lt_int (Q:=λr s'=>wpAny (model prog w) A (truthOfDropped r) Q E s') ?_);exact wpAny_truthy_bool h
theorem zka {k:Bool}{x y:Value}{ns ms:List Int}{Q:Bool->Shared->Prop}(hx:TupAt s.heap x ns)(hy:TupAt s.heap y ms)(h:Q (ltI ns ms) s):wpAny (model prog w) A (keyLt' (tuples' k) x y) Q E s:=by
 obtain⟨a,o,vs,n,rfl,e,_,d,i⟩:=hx;obtain⟨b,o2,ws,n2,rfl,e2,_,d2,i2⟩:=hy;refine wpAny_bind (listItems_at e d (wpAny_bind (listItems_at e2 d2 ?_)));refine wpAny_bind (zga _ (I:=λl c=>c=(none,PUnit.unit)/\∃vs' ws' ns' ms' j,l=(vs'.zip ws').zipIdx j/\IntsAre vs' ns'/\IntsAre ws' ms'/\ltI ns ms=ltI ns' ms'/\ns'.length+ms.length=ms'.length+ns.length) ?step ?fin _ _ ⟨rfl,vs,ws,ns,ms,0,rfl,i,i2,rfl,by lia⟩)
 case fin=>
  rintro c ⟨rfl,vs',ws',ns',ms',j,hl,i3,i4,h1,h2⟩;dsimp only;have hz:ns'.zip ms'=[]:=by
   have q:(vs'.zip ws').length=0:=by have:=congrArg List.length hl;simpa using this.symm
   rw[List.length_zip]at q;have l3:=i3.nums;have l4:=i4.nums;have l3:=congrArg List.length l3;have l4:=congrArg List.length l4;rw[List.length_map]at l3 l4;refine List.length_eq_zero_iff.mp ?_;rw[List.length_zip,<- l3,<- l4];exact q
  rw[h1,znG _ _ hz]at h;have l1:=congrArg List.length i.nums;have l2:=congrArg List.length i2.nums;rw[List.length_map]at l1 l2;have hd:decide (ns'.length<ms'.length)=decide (vs.toArray.size<ws.toArray.size):=by
   rw[List.size_toArray,List.size_toArray,l1,l2];by_cases q:ns'.length<ms'.length
   ·rw[decide_eq_true q,decide_eq_true (by lia)]
   ·rw[decide_eq_false q,decide_eq_false (by lia)]
  rw[hd]at h;exact wpAny_pure h
 case step=>
  rintro⟨⟨p,q⟩,j0⟩ rest c ⟨rfl,vs',ws',ns',ms',j,hl,i3,i4,h1,h2⟩;cases i3 with
  | nil=>simp at hl
  | @cons n1 t1 vs1 ns1 i3=>
   cases i4 with
   | nil=>simp at hl
   | @cons m1 u1 ws1 ms1 i4=>
    rw[List.zip_cons_cons,List.zipIdx_cons]at hl;obtain⟨hl1,hl2⟩:=List.cons.inj hl;cases hl1;dsimp only;refine wpAny_bind (wpAny_eqBool_int ?_);by_cases e3:n1=m1
    ·subst e3;rw[if_neg (by simp)];refine wpAny_pure ⟨rfl,rfl,vs1,ws1,ns1,ms1,_,hl2,i3,i4,?_,?_⟩
     ·rw[h1,ltI,if_pos rfl]
     ·rw[List.length_cons,List.length_cons]at h2;lia
    ·rw[if_pos (by simpa using e3)];refine wpAny_bind (zjZ ?_);refine wpAny_pure ⟨rfl,?_⟩;dsimp only;rw[h1,ltI,if_neg e3]at h;exact wpAny_pure h
theorem zkb (k:Bool):Cmp prog w A E s (tuples' k) (λx=>∃ns,TupAt s.heap x.1 ns) (λx y=>ltI (gOf s.heap x.1) (gOf s.heap y.1)) where
 run {x y Q st} hx hy hk h:=by
  obtain⟨ns,hx⟩:=hx;obtain⟨ms,hy⟩:=hy;rw[zey hx,zey hy]at h;rw[lt'_eq];refine wpS_bind (wpS_get ?_);rw[hk];refine wpS_bind (wpS_lift (wpAny_attempt (zka hx hy ⟨rfl,?_⟩)));exact wpS_pure h
end
theorem zcH {x y z:List Int}(h1:ltI y x=false)(h2:ltI z y=false):ltI z x=false:=by
 cases h:ltI z x with
 | false=>rfl
 | true=>
  cases h3:ltI x y with
  | true=>rw[zcG _ _ _ h h3]at h2;cases h2
  | false=>rw[zdQ _ _ h3 h1]at h;rw[h]at h2;cases h2
theorem zkc (h:Heap):Tot (λx y=>ltI (gOf h x.1) (gOf h y.1)) (λx=>∃ns,TupAt h x.1 ns) where
 asym x y _ _ e:=zcF _ _ e
 tr x y z _ _ _ h1 h2:=zcH h1 h2
theorem zdb {α β:Type}{φ:α->β}{l m:List β}(h:l.Perm m):∀us:List α,m=us.map φ->∃us':List α,us'.Perm us/\l=us'.map φ:=by
 induction h with
 | nil=>intro us e;exact⟨us,.refl _,by rw[<- e]⟩
 | @cons x l1 l2 hp ih=>
  intro us e;cases us with
  | nil=>cases e
  | cons u us=>
   rw[List.map_cons]at e;have e1:=(List.cons.inj e).1;have e2:=(List.cons.inj e).2;obtain⟨us',h1,h2⟩:=ih us e2;exact⟨u::us',h1.cons u,by rw[List.map_cons,h2,e1]⟩
 | @swap x y l1=>
  intro us e
  match us,e with
  | u::v::us,e=>
   rw[List.map_cons,List.map_cons]at e;have e1:=(List.cons.inj e).1;have e2:=(List.cons.inj (List.cons.inj e).2).1;have e3:=(List.cons.inj (List.cons.inj e).2).2;exact⟨v::u::us,.swap _ _ _,by rw[List.map_cons,List.map_cons,e1,e2,e3]⟩
 | trans _ _ ih1 ih2=>
  intro us e;obtain⟨u2,h1,h2⟩:=ih2 us e;obtain⟨u3,h3,h4⟩:=ih1 u2 h2;exact⟨u3,h3.trans h1,h4⟩
section
variable {prog:Program}{w:World}{M:Model}{A:Around}{E:Value->Shared->Prop}{s:Shared}
theorem zhM {α β:Type}{g:α->Sem β}{φ:α->β}:∀(vs:List α){Q:List β->Shared->Prop},(∀v∈vs,∀ {Q':β->Shared->Prop},Q' (φ v) s->wpAny M A (g v) Q' E s)->Q (vs.map φ) s->wpAny M A (vs.mapM g) Q E s
 | [],Q,_,h=>by rw[List.mapM_nil];exact wpAny_pure h
 | v::vs,Q,hg,h=>by
  rw[List.mapM_cons];refine wpAny_bind (hg v List.mem_cons_self (wpAny_bind (zhM vs (λu hu=>hg u (List.mem_cons_of_mem _ hu)) (wpAny_pure ?_))));exact h
theorem zkd {α β:Type}{g:α->Sem β}{φ:α->β}(vs:List α){Q:Array β->Shared->Prop}(hg:∀v∈vs,∀ {Q':β->Shared->Prop},Q' (φ v) s->wpAny M A (g v) Q' E s)(h:Q (vs.map φ).toArray s):wpAny M A (vs.toArray.mapM g) Q E s:=by
 rw[List.mapM_toArray,map_eq_pure_bind];exact wpAny_bind (zhM vs hg (wpAny_pure h))
noncomputable def zel (h:Heap)(v:Value):Option Value:=match v with
 | .ref a=>match h.get? a with
  | some o=>match o.data with
   | .seq xs _=>xs[0]?
   | _=>none
  | none=>none
 | _=>none
theorem zhN {v:Value}{ns:List Int}(hv:TupAt s.heap v ns)(hn:ns≠[]):(∃n t,zel s.heap v=some (.int n t))/\∀ {Q:Option Value->Shared->Prop},Q (zel s.heap v) s->wpAny M A (firstOfTuple' v) Q E s:=by
 obtain⟨a,o,vs,n,rfl,e,c,d,i⟩:=hv;have hf:zel s.heap (.ref a)=vs.toArray[0]?:=by unfold zel;dsimp only;rw[e];dsimp only;rw[d]
 refine⟨?_,λ{Q} h=>?_⟩
 ·rw[hf];cases i with
  | nil=>exact absurd rfl hn
  | cons n t i=>exact⟨n,t,rfl⟩
 ·refine wpAny_bind (wpAny_typeOf (T:="tuple") ⟨o,e,c⟩ ?_);rw[if_neg (by decide)];refine wpAny_bind (listItems_at e d (wpAny_pure ?_));rw[<- hf];exact h
theorem zhO {vs:List Value}{Q:SortKind->Shared->Prop}(hv:∀v∈vs,∃ns,TupAt s.heap v ns/\ns≠[])(h1:vs≠[])(h:Q (tuples' true) s):wpAny M A (keyKind' vs.toArray) Q E s:=by
 rw[keyKind'_eq];have hi:∀v∈vs,∃n t,zel s.heap v=some (.int n t):=λv hm=>by
  obtain⟨ns,z1,z2⟩:=hv v hm;exact(zhN (M:=M) (A:=A) (E:=E) z1 z2).1
 refine wpAny_bind (zkd (φ:=zel s.heap) vs (λv hm {Q'} q=>?_) ?_)
 ·obtain⟨ns,z1,z2⟩:=hv v hm;exact(zhN z1 z2).2 q
 have ha:((vs.map (zel s.heap)).toArray.all λx=>x.isSome)=true:=by
  rw[List.all_toArray,List.all_map,List.all_eq_true];intro v hm;obtain⟨n,t,e⟩:=hi v hm;show(zel s.heap v).isSome=true;rw[e];rfl
 rw[if_pos ha];have hx:∃us:List Value,(vs.map (zel s.heap)).filterMap id=us/\us≠[]/\∀u∈us,∃n t,u=Value.int n t:=by
  refine⟨_,rfl,?_,λu hu=>?_⟩
  ·cases vs with
   | nil=>exact absurd rfl h1
   | cons v vs=>
    obtain⟨n,t,e⟩:=hi v List.mem_cons_self;rw[List.map_cons,e];simp
  ·rw[List.mem_filterMap]at hu;obtain⟨o,ho,e⟩:=hu;obtain⟨v,hm,rfl⟩:=List.mem_map.mp ho;obtain⟨n,t,e2⟩:=hi v hm;have e:zel s.heap v=some u:=e;rw[e2]at e;exact⟨n,t,(Option.some.inj e).symm⟩
 obtain⟨us,e1,e2,e3⟩:=hx;refine wpAny_bind (wpAny_rule ?_);rw[List.filterMap_toArray,e1,oneTypeOnly'_eq,List.mapM_toArray,mapM_typeOf_ints (intsAre_map us e3)];simp only[map_pure,pure_bind];cases us with
 | nil=>exact absurd rfl e2
 | cons u us=>
  have h0:(List.map (λ_=>Value.type "int") (u::us)).toArray[0]? = some (Value.type "int"):=rfl;have hall:((List.map (λ_=>Value.type "int") (u::us)).toArray.all λx=>x == Value.type "int")=true:=by
   rw[List.all_toArray,List.all_map,List.all_eq_true];intro _ _;rfl
  rw[h0];simp only[hall,if_true,pure_bind];exact wpAny_pure h
noncomputable abbrev refsOf (us:List (Addr×List Int)):List Value:=us.map λu=>Value.ref u.1
theorem zba:∀us:List (Addr×List Int),(refsOf us).zip (refsOf us)=us.map λu=>(Value.ref u.1,Value.ref u.1)
 | []=>rfl
 | u::us=>by show(_,_)::(refsOf us).zip (refsOf us)=_;rw[zba us];rfl
theorem zfi {a:Addr}{us:List (Addr×List Int)}{n:Nat}{P:Fin->Shared->Prop}(ho:s.heap.get? a=some (seqObj "list" (refsOf us).toArray n)) (hT:∀u∈us,TupAt s.heap (.ref u.1) u.2/\u.2≠[]) (hsz:us.length<=sizeLine)
  (h:∀us',us'.Perm us->(us'.map (·.2)).Pairwise (λx y=>ltI y x=false)->P (.done (.ret .none)) { s with heap:=sortedHeap s.heap a (refsOf us) (refsOf us').toArray }) :
  wpAny (model prog w) A (Builtin.«list.sort» ⟨[.ref a],[]⟩) P E s:=by
 rw[list_sort_plain];have ha:a<s.heap.objs.size:=Heap.lt_size ho;refine wpAny_bind (listItems_at ho rfl (wpAny_bind (listUpdate_at ho rfl ?_ (hsz:=by rw[List.size_toArray,List.length_map];exact hsz) (hsz2:=Nat.zero_le _))));obtain⟨e1,ho1⟩:∃e1,(s.heap.update a (Obj.mapSeq λ_=>#[])).get? a=some (seqObj "list" #[] e1):=⟨_,get?_update_seq ho (λ_=>#[])⟩;refine wpAny_bind (seqEpoch_at ho1 rfl (wpAny_bind (wpAny_newTuple (wpAny_bind (wpAny_newList (wpAny_holding ?_))))));obtain⟨h6,eh⟩:∃h6,h6=(((s.heap.update a (Obj.mapSeq λ_=>#[])).push (seqObj "tuple" (refsOf us).toArray 0)).push (seqObj "list" #[] 0)):=⟨_,rfl⟩;have kp:∀b,b<s.heap.objs.size->h6.get? b=(s.heap.update a (Obj.mapSeq λ_=>#[])).get? b:=λb hb=>by
  rw[eh,Heap.get?_push_ne _ _ _ (by rw[size_push',Heap.size_update];exact Nat.ne_of_lt (Nat.lt_succ_of_lt hb)),Heap.get?_push_ne _ _ _ (by rw[Heap.size_update];exact Nat.ne_of_lt hb)]
 have ho6:h6.get? a=some (seqObj "list" #[] e1):=by rw[kp a ha];exact ho1
 have hT6:∀u∈us,TupAt h6 (.ref u.1) u.2:=λu hu=>by
  obtain⟨b,o,vs,m,e,hb,c,d,i⟩:=(hT u hu).1;cases e;have hne:u.1≠a:=λz=>by rw[z,ho]at hb;cases hb;injection c with c;exact absurd c (by decide)
  refine⟨u.1,o,vs,m,rfl,?_,c,d,i⟩;rw[kp u.1 (Heap.lt_size hb),Heap.get?_update_other _ _ (Ne.symm hne)];exact hb
 show wpAny (model prog w) A _ P E { s with heap:=(((s.heap.update a (Obj.mapSeq λ_=>#[])).push (seqObj "tuple" (refsOf us).toArray 0)).push (seqObj "list" #[] 0)) };have hfin:∀us':List (Addr×List Int),us'.Perm us->(us'.map (·.2)).Pairwise (λx y=>ltI y x=false)->P (.done (.ret .none)) { s with heap:=h6.update a (Obj.mapSeq λ_=>(refsOf us').toArray) }:=by
  rw[eh];exact h
 rw[<- eh];dsimp only;by_cases h2:(refsOf us).toArray.size<2
 ·rw[if_pos h2,if_pos h2];refine wpAny_bind (wpAny_pure ?_);rw[StateT.run_pure];refine wpAny_bind (wpAny_pure (wpAny_bind (seqEpoch_at ho6 rfl (wpAny_bind (listUpdate_at ho6 rfl ?_ (hsz:=Nat.zero_le _) (hsz2:=?_))))))
  ·simp only[bne_self_eq_false,Bool.false_eq_true,if_false];have e2:Array.map (λx=>x.2) (arrOf (SortSt.mk' general' ((refsOf us).toArray.zip (refsOf us).toArray) #[] 7 none))=(refsOf us).toArray:=by
    show Array.map (λx=>x.2) ((refsOf us).toArray.zip (refsOf us).toArray)=_;rw[List.zip_toArray,zba,List.map_toArray,List.map_map];rfl
   refine wpAny_pure ?_;have q:=hfin us (.refl _) (by
    rw[List.size_toArray,List.length_map]at h2
    match us,h2 with
    | [],_=>exact List.Pairwise.nil
    | [u],_=>simp)
   rw[<- e2]at q;exact q
  ·rw[Array.size_map];show((refsOf us).toArray.zip (refsOf us).toArray).size<=_;rw[List.zip_toArray,List.size_toArray,zba,List.length_map];lia
 ·rw[if_neg h2,if_neg h2];have hpos:us≠[]:=λz=>by subst z;exact h2 (by decide)
  refine wpAny_bind (zhO (s:={ s with heap:=h6 }) (λv hv=>?_) (λz=>hpos (List.map_eq_nil_iff.mp z)) ?_)
  ·obtain⟨u,hu,rfl⟩:=List.mem_map.mp hv;exact⟨u.2,hT6 u hu,(hT u hu).2⟩
  have hW:=zpA (prog:=prog) (w:=w) (A:=A) (E:=E) (s:={ s with heap:=h6 }) (zkb (s:={ s with heap:=h6 }) true) (zkc h6) (st:=SortSt.mk' (tuples' true) ((refsOf us).toArray.zip (refsOf us).toArray) #[] 7 none)
   (Q:=λ_ st'=>(arrOf st').Perm ((refsOf us).toArray.zip (refsOf us).toArray)/\failedOf st'=none/\(arrOf st').toList.Pairwise (Le λx y=>ltI (gOf h6 x.1) (gOf h6 y.1))) rfl rfl rfl (λj x hx=>?_) (λst' a1 a2 a3=>⟨a1,a2,a3⟩)
  ·refine wpAny_bind (wpAny_mono hW ?_ λ_ _ e=>e);rintro⟨⟨⟩,st'⟩ s' ⟨rfl,hp,hf,hs⟩;dsimp only;have hpl:(arrOf st').toList.Perm (us.map λu=>(Value.ref u.1,Value.ref u.1)):=by
    have q:=Array.perm_iff_toList_perm.mp hp;rw[List.zip_toArray,zba]at q;exact q
   obtain⟨us',p1,p2⟩:=zdb hpl us rfl;have e2:Array.map (λx=>x.2) (arrOf st')=(refsOf us').toArray:=by
    have e3:arrOf st'=(us'.map λu=>(Value.ref u.1,Value.ref u.1)).toArray:=by rw[<- p2,Array.toArray_toList]
    rw[e3,List.map_toArray,List.map_map];rfl
   refine wpAny_bind (seqEpoch_at ho6 rfl (wpAny_bind (listUpdate_at ho6 rfl ?_ (hsz:=Nat.zero_le _) (hsz2:=?_))))
   ·rw[hf];simp only[bne_self_eq_false,Bool.false_eq_true,if_false];refine wpAny_pure ?_;have q:=hfin us' p1 (by
     rw[p2,List.pairwise_map]at hs;rw[List.pairwise_map];refine hs.imp_of_mem λ{x y} hx hy z=>?_;have z:ltI (gOf h6 (.ref y.1)) (gOf h6 (.ref x.1))=false:=z;rw[zey (hT6 y (p1.mem_iff.mp hy)),zey (hT6 x (p1.mem_iff.mp hx))]at z;exact z)
    rw[<- e2]at q;exact q
   ·show(Array.map (λx=>x.2) (arrOf st')).size<=_;rw[e2,List.size_toArray,List.length_map,p1.length_eq];lia
  ·have hm:x∈(us.map λu=>(Value.ref u.1,Value.ref u.1)):=by
    have hx:((refsOf us).toArray.zip (refsOf us).toArray)[j]? = some x:=hx;rw[List.zip_toArray,zba,List.getElem?_toArray]at hx;exact List.mem_of_getElem? hx
   obtain⟨u,hu,rfl⟩:=List.mem_map.mp hm;exact⟨u.2,hT6 u hu⟩
end
end Srt
namespace L2
open PySem PySem.Spec PyProof.Rows
theorem zdR:∀ {us:List (Addr×List Int)}{its:List Value},Vals (us.map λu=>V.ref u.1) its->its=Srt.refsOf us
 | [],_,r=>by cases r;rfl
 | u::us,_,r=>by
  cases r with
  | cons r1 r2=>
   have e:_=Value.ref u.1:=r1;rw[e,zdR r2];rfl
theorem zdS:∀(us:List (Addr×List Int)),Vals (us.map λu=>V.ref u.1) (Srt.refsOf us)
 | []=>.nil
 | u::us=>.cons rfl (zdS us)
theorem ints_of:∀ {ns:List Int}{its:List Value},Vals (ns.map V.int) its->IntsAre its ns
 | [],_,r=>by cases r;exact .nil
 | n::ns,_,r=>by
  cases r with
  | cons r1 r2=>
   obtain⟨t,rfl⟩:=(show ∃t,_=Value.int n t from r1);exact .cons n t (ints_of r2)
end L2
namespace PL
open PySem PySem.Spec L2
open PyProof.Rows hiding St
open Srt (ltI zcF zdQ zcG zcH)
noncomputable def sortI (ss:List (List Int)):List (List Int):=ss.mergeSort λa b=>!ltI b a
theorem sortI_perm (ss:List (List Int)):(sortI ss).Perm ss:=List.mergeSort_perm ss _
theorem zfj (ss:List (List Int)):(sortI ss).Pairwise (λx y=>ltI y x=false):=by
 have h:=List.pairwise_mergeSort (le:=λa b:List Int=>!ltI b a) (λa b c h1 h2=>by
  simp only[Bool.not_eq_true']at h1 h2 ⊢;exact zcH h1 h2) (λa b=>by
  cases h:ltI b a with
  | false=>rfl
  | true=>rw[zcF _ _ h];rfl) ss
 exact h.imp λ{a b} z=>by simpa using z
theorem zcI:∀ {l m:List (List Int)},l.Perm m->l.Pairwise (λx y=>ltI y x=false)->m.Pairwise (λx y=>ltI y x=false)->l=m
 | [],m,h,_,_=>(List.nil_perm.mp h).symm
 | a::l,[],h,_,_=>absurd h.length_eq (by simp)
 | a::l,b::m,h,h1,h2=>by
  have e:a=b:=by
   rcases List.mem_cons.mp (h.mem_iff.mp List.mem_cons_self)with z | z
   ·exact z
   ·rcases List.mem_cons.mp (h.symm.mem_iff.mp (List.mem_cons_self (a:=b) (l:=m)))with y | y
    ·exact y.symm
    ·exact zdQ _ _ ((List.pairwise_cons.mp h2).1 a z) ((List.pairwise_cons.mp h1).1 b y)
  subst e;rw[zcI ((List.perm_cons a).mp h) (List.pairwise_cons.mp h1).2 (List.pairwise_cons.mp h2).2]
theorem zfk {zs ss:List (List Int)}(h:zs.Perm ss)(hp:zs.Pairwise (λx y=>ltI y x=false)):zs=sortI ss:=zcI (h.trans (sortI_perm ss).symm) hp (zfj ss)
theorem zhP {K:PySem.W.Frag}{Fz:FZ}{H:Hp}:∀ {ss:List Int}{xs:List V},DenL K Fz H (ss.map PV.int) xs->xs=ss.map V.int
 | [],xs,h=>by rw[List.map_nil]at h;simp only[DenL]at h;exact h
 | s::r,xs,h=>by
  rw[List.map_cons]at h;simp only[DenL]at h;obtain⟨v,t,z,h1,h2⟩:=h;simp only[Den]at h1;subst z h1;rw[List.map_cons,zhP h2]
theorem zhQ {K:PySem.W.Frag}{Fz:FZ}{H:Hp}:∀(ss:List Int),DenL K Fz H (ss.map PV.int) (ss.map V.int)
 | []=>DenL.nil
 | s::r=>by rw[List.map_cons,List.map_cons];exact DenL.cons (by simp only[Den]) (zhQ r)
theorem zdT {K:PySem.W.Frag}{Fz:FZ}{H:Hp}:∀ {ss:List (List Int)}{xs:List V},DenL K Fz H (ss.map λr=>PV.tup (r.map PV.int)) xs->∃us:List (Addr×List Int),xs=us.map (λu=>V.ref u.1)/\us.map (·.2)=ss/\∀u∈us,H u.1=some (.tup (u.2.map V.int))
 | [],xs,h=>by rw[List.map_nil]at h;simp only[DenL]at h;exact⟨[],h,rfl,λu hu=>by cases hu⟩
 | s::r,xs,h=>by
  rw[List.map_cons]at h;simp only[DenL]at h;obtain⟨v,t,z,h1,h2⟩:=h;simp only[Den]at h1;obtain⟨p,ys,e1,e2,e3⟩:=h1;have e4:=zhP e3;subst e4;obtain⟨us,g1,g2,g3⟩:=zdT h2;refine⟨(p,s)::us,by rw[z,e1,g1];rfl,by rw[List.map_cons,g2],λu hu=>?_⟩;rcases List.mem_cons.mp hu with rfl | hu
  ·exact e2
  ·exact g3 u hu
theorem zdU {K:PySem.W.Frag}{Fz:FZ}{H:Hp}:∀(us:List (Addr×List Int)),(∀u∈us,H u.1=some (.tup (u.2.map V.int)))->DenL K Fz H ((us.map (·.2)).map λr=>PV.tup (r.map PV.int)) (us.map λu=>V.ref u.1)
 | [],_=>DenL.nil
 | u::us,h=>by
  rw[List.map_cons,List.map_cons,List.map_cons];refine DenL.cons ?_ (zdU us λv hv=>h v (List.mem_cons_of_mem _ hv));simp only[Den];exact⟨u.1,_,rfl,h u List.mem_cons_self,zhQ u.2⟩
end PL
namespace JS
open PySem
noncomputable abbrev tb (m:Nat):SetTable:={ SetTable.fresh 0 0 true with mask:=m }
noncomputable def pth (m:Nat)(h:Int):Nat->SetTable.Probe
 | 0=>(tb m).probeStart h
 | n+1=>(tb m).advance (pth m h n)
noncomputable def hdP (m:Nat)(h:Int):Nat->Nat×Nat
 | 0=>(SetTable.bits h % (m+1),SetTable.bits h)
 | k+1=>SetTable.leap m (hdP m h k).1 (hdP m h k).2
noncomputable def ixP (m:Nat)(h:Int):Nat->Nat
 | 0=>0
 | k+1=>ixP m h k+(SetTable.runEnd m (hdP m h k).1-(hdP m h k).1)+1
theorem zke (m i:Nat):i<=SetTable.runEnd m i/\SetTable.runEnd m i<=i+9/\(i<=m->SetTable.runEnd m i<=m):=by
 unfold SetTable.runEnd;split<;>lia
theorem zkf (m:Nat)(h:Int):∀k,(hdP m h k).1<=m
 | 0=>Nat.le_of_lt_succ (Nat.mod_lt _ (Nat.succ_pos _))
 | k+1=>Nat.le_of_lt_succ (Nat.mod_lt _ (Nat.succ_pos _))
theorem zcU (m:Nat)(h:Int):∀k r,r<=SetTable.runEnd m (hdP m h k).1-(hdP m h k).1->
  pth m h (ixP m h k+r)={ j:=(hdP m h k).1+r,more:=SetTable.runEnd m (hdP m h k).1-(hdP m h k).1-r,i:=(hdP m h k).1,perturb:=(hdP m h k).2,dummy:=none }
 | 0,0,_=>rfl
 | k+1,0,_=>by
  have q:=zcU m h k _ (Nat.le_refl _);show(tb m).advance (pth m h (ixP m h k+(SetTable.runEnd m (hdP m h k).1-(hdP m h k).1)))=_;rw[q];unfold SetTable.advance;rw[if_neg (by simp)];rfl
 | k,r+1,hr=>by
  have q:=zcU m h k r (by lia);show(tb m).advance (pth m h (ixP m h k+r))=_;rw[q];unfold SetTable.advance;rw[if_pos (show _ > 0 by dsimp only;lia)];rfl
termination_by k r=>(k,r)
theorem zmD (m:Nat)(h:Int):∀k,ixP m h k<=10*k
 | 0=>Nat.le_refl _
 | k+1=>by
  have:=zmD m h k;have:=zke m (hdP m h k).1;show ixP m h k+_+1<=_;lia
theorem zmE (m:Nat)(h:Int)(n:Nat):∃k r,r<=SetTable.runEnd m (hdP m h k).1-(hdP m h k).1/\n=ixP m h k+r:=by
 induction n with
 | zero=>exact⟨0,0,Nat.zero_le _,rfl⟩
 | succ n ih=>
  obtain⟨k,r,hr,e⟩:=ih;by_cases c:r=SetTable.runEnd m (hdP m h k).1-(hdP m h k).1
  ·exact⟨k+1,0,Nat.zero_le _,by rw[e,c];rfl⟩
  ·exact⟨k,r+1,by lia,by lia⟩
theorem zmF (m:Nat)(h:Int)(n:Nat):(pth m h n).j<=m:=by
 obtain⟨k,r,hr,rfl⟩:=zmE m h n;rw[zcU m h k r hr];have:=zkf m h k;have:=(zke m (hdP m h k).1).2.2 this;dsimp only;lia
theorem zpB (m:Nat)(h:Int)(n:Nat):(pth m h n).dummy=none:=by
 obtain⟨k,r,hr,rfl⟩:=zmE m h n;rw[zcU m h k r hr]
theorem zkg (m:Nat)(h:Int):∀k,(hdP m h k).2=SetTable.bits h / 32 ^ k
 | 0=>by show SetTable.bits h=_;simp
 | k+1=>by
  show(hdP m h k).2 / 32=_;rw[zkg m h k,Nat.div_div_eq_div_mul,Nat.pow_succ]
theorem znH (h:Int):SetTable.bits h<2 ^ 64:=by
 unfold SetTable.bits;have h1:h % (2 ^ 64:Int)<2 ^ 64:=Int.emod_lt_of_pos h (by decide);have h2:0<=h % (2 ^ 64:Int):=Int.emod_nonneg h (by decide);lia
noncomputable def lcg (m:Nat):Nat->Nat->Nat
 | 0,i=>i
 | k+1,i=>lcg m k ((i*5+1) % (m+1))
theorem zkh (m:Nat)(h:Int):∀k K,13<=K->(hdP m h (K+k)).1=lcg m k (hdP m h K).1
 | 0,K,_=>rfl
 | k+1,K,hK=>by
  have q:=zkh m h k (K+1) (by lia);rw[show K+1+k=K+(k+1) by lia]at q;rw[q];show lcg m k (((hdP m h K).1*5+1+(hdP m h K).2 / 32) % (m+1))=lcg m k (((hdP m h K).1*5+1) % (m+1));have z:(hdP m h K).2 / 32=0:=by
   rw[zkg];have h1:=znH h;have h2:SetTable.bits h / 32 ^ K=0:=by
    apply Nat.div_eq_of_lt;exact Nat.lt_of_lt_of_le h1 (Nat.le_trans (show 2 ^ 64<=32 ^ 13 by decide) (Nat.pow_le_pow_right (by decide) hK))
   rw[h2]
  rw[z,Nat.add_zero]
noncomputable abbrev okM (m:Nat):Prop:=m=7\/m=31\/m=127
noncomputable def orb (m:Nat):Nat->Nat->List Nat
 | 0,_=>[]
 | n+1,i=>i::orb m n ((i*5+1) % (m+1))
theorem zki (m:Nat):∀(n k i:Nat),k<n->(orb m n i)[k]? = some (lcg m k i)
 | n+1,0,i,_=>rfl
 | n+1,k+1,i,h=>by
  show(orb m n _)[k]? = _;exact zki m n k _ (by lia)
theorem zgO (m:Nat):∀n i,(orb m n i).length=n
 | 0,_=>rfl
 | n+1,i=>by show(orb m n _).length+1=_;rw[zgO]
theorem zfl (m:Nat):∀a b i,lcg m (a+b) i=lcg m b (lcg m a i)
 | 0,b,i=>by rw[Nat.zero_add];rfl
 | a+1,b,i=>by
  rw[show a+1+b=(a+b)+1 by lia];exact zfl m a b _
noncomputable def covB (m:Nat):Bool:=(List.range (m+1)).all (λe=>(orb m (m+1) 0).contains e)&&(orb m (m+2) 0)[m+1]? == some 0
theorem cov7:covB 7=true:=by decide +kernel
theorem zqF:covB 31=true:=by decide +kernel
theorem zpC:covB 127=true:=by decide +kernel
theorem cov {m:Nat}(hm:okM m){i e:Nat}(hi:i<=m)(he:e<=m):∃k,k<=m/\lcg m k i=e:=by
 have c:covB m=true:=by
  rcases hm with rfl | rfl | rfl
  ·exact cov7
  ·exact zqF
  ·exact zpC
 unfold covB at c;rw[Bool.and_eq_true]at c;obtain⟨c1,c2⟩:=c;have at0:∀e,e<=m->∃k,k<=m/\lcg m k 0=e:=λe he=>by
  have h1:=List.all_eq_true.mp c1 e (List.mem_range.mpr (by lia));have h2:e∈orb m (m+1) 0:=by simpa using h1
  obtain⟨k,hk,q⟩:=List.mem_iff_getElem.mp h2;rw[zgO]at hk;have q2:=zki m (m+1) k 0 hk;rw[List.getElem?_eq_getElem (by rw[zgO];exact hk),q]at q2;exact⟨k,by lia,(Option.some.inj q2).symm⟩
 have per:lcg m (m+1) 0=0:=by
  have q:=eq_of_beq c2;rw[zki m (m+2) (m+1) 0 (by lia)]at q;exact Option.some.inj q
 obtain⟨x,hx,ex⟩:=at0 i hi;obtain⟨y,hy,ey⟩:=at0 e he;rcases Nat.lt_or_ge y x with z | z
 ·refine⟨m+1-x+y,by lia,?_⟩;rw[<- ex,<- zfl,show x+(m+1-x+y)=(m+1)+y by lia,zfl,per];exact ey
 ·refine⟨y-x,by lia,?_⟩;rw[<- ex,<- zfl,show x+(y-x)=y by lia];exact ey
theorem zmG {m:Nat}(hm:okM m)(h:Int){e:Nat}(he:e<=m):∃k,k<=m+13/\(hdP m h k).1=e:=by
 obtain⟨k,hk,q⟩:=cov hm (zkf m h 13) he;exact⟨13+k,by lia,by rw[zkh m h k 13 (by lia)];exact q⟩
theorem least {p:Nat->Prop}(n:Nat)(hn:p n):∃k,k<=n/\p k/\∀i,i<k->¬ p i:=by
 induction n using Nat.strongRecOn with
 | ind n ih=>
  by_cases h:∃i,i<n/\p i
  ·obtain⟨i,hi,pi⟩:=h;obtain⟨k,h1,h2,h3⟩:=ih i hi pi;exact⟨k,by lia,h2,h3⟩
  ·exact⟨n,Nat.le_refl _,hn,λi hi pi=>h ⟨i,hi,pi⟩⟩
theorem ziy {m:Nat}(hm:okM m)(h:Int){l:List Nat}(hz:∃e,e<=m/\e∉l):∃N,N<=10*(m+13)/\(pth m h N).j∉l/\∀d,d<N->(pth m h d).j∈l:=by
 obtain⟨e,he,hn⟩:=hz;obtain⟨k,hk,q⟩:=zmG hm h he;have e1:=zcU m h k 0 (Nat.zero_le _);have e2:(pth m h (ixP m h k)).j=e:=by rw[show ixP m h k=ixP m h k+0 from rfl,e1];exact q
 obtain⟨N,h1,h2,h3⟩:=least (p:=λn=>(pth m h n).j∉l) (ixP m h k) (by rw[e2];exact hn);have:=zmD m h k;exact⟨N,by lia,h2,λd hd=>Classical.byContradiction (h3 d hd)⟩
theorem zgb {l:List Nat}{m:Nat}(hl:l.length<m+1):∃e,e<=m/\e∉l:=by
 refine Classical.byContradiction λhno=>?_;have hall:∀e,e<m+1->e∈l:=λe he=>Classical.byContradiction λhn=>hno ⟨e,by lia,hn⟩;have:∀(k:Nat) (l:List Nat),(∀e,e<k->e∈l)->k<=l.length:=by
  intro k;induction k with
  | zero=>intro l _;exact Nat.zero_le _
  | succ k ih=>
   intro l h;have h1:=h k (Nat.lt_succ_self k);have h2:=ih (l.erase k) λe he=>(List.mem_erase_of_ne (Nat.ne_of_lt he)).mpr (h e (by lia));rw[List.length_erase_of_mem h1]at h2;have:0<l.length:=List.length_pos_of_mem h1;lia
 have:=this (m+1) l hall;lia
section
variable {t:SetTable}
theorem zkj (ha:Asc t.place){j:Nat}(hj:j∈t.place.toList):∃i,t.slot j=.live i/\t.place[i]? = some j:=by
 obtain⟨h1,h2,h3⟩:=zdk ha j;obtain⟨i,hi,e⟩:=List.mem_iff_getElem.mp hj;have hi':i<t.place.size:=by simpa using hi
 have e':t.place.getD i 0=j:=by simpa[Array.getD,hi']using e
 have q1:¬ i<SetTable.below t.place j:=λz=>by have:=h2 i z;lia
 have q2:i=SetTable.below t.place j:=by
  rcases Nat.lt_or_ge (SetTable.below t.place j) i with z | z
  ·have:=ha.lt z hi';have:=h3 (SetTable.below t.place j) (Nat.le_refl _) (by lia);lia
  ·lia
 have q3:t.place[i]? = some j:=by rw[<- Array.getElem?_toList,List.getElem?_eq_getElem hi,e]
 refine⟨i,?_,q3⟩;unfold SetTable.slot;rw[<- q2];dsimp only;rw[if_pos (by rw[q3];simp)]
theorem ziz (hd:t.dummies = #[]){j:Nat}(hj:j∉t.place.toList):t.slot j=.empty:=by
 unfold SetTable.slot;dsimp only;rw[if_neg,if_neg]
 ·rw[hd];unfold SetTable.has;simp
 ·intro z;have q:=eq_of_beq z;exact hj (List.mem_of_getElem? (by rw[Array.getElem?_toList];exact q))
theorem zmH (ha:Asc t.place)(hd:t.dummies = #[])(g:Nat->Int)(h:Int){N:Nat}(hN:(pth t.mask h N).j∉t.place.toList)(hL:∀d,d<N->(pth t.mask h d).j∈t.place.toList):∀(fuel c:Nat),c<=N->N-c<fuel->
  (∃e i,c<=e/\e<N/\t.slot (pth t.mask h e).j=.live i/\t.place[i]? = some (pth t.mask h e).j/\g i=h/\SetTable.probe.go t g h fuel (pth t.mask h c)=some (.candidate (pth t.mask h e).j i (pth t.mask h (e+1)))/\∀d i',c<=d->d<e->t.place[i']? = some (pth t.mask h d).j->g i'≠h)\/
  (SetTable.probe.go t g h fuel (pth t.mask h c)=some (.empty (pth t.mask h N).j none)/\∀d i',c<=d->d<N->t.place[i']? = some (pth t.mask h d).j->g i'≠h)
 | 0,c,_,hf=>absurd hf (Nat.not_lt_zero _)
 | fuel+1,c,hc,hf=>by
  by_cases e:c=N
  ·subst e;refine .inr ⟨?_,λd i' h1 h2=>by lia⟩;unfold SetTable.probe.go;rw[ziz hd hN,zpB]
  ·obtain⟨i,hs,hp⟩:=zkj ha (hL c (by lia));have step:t.advance (pth t.mask h c)=pth t.mask h (c+1):=rfl;have uniq:∀i',t.place[i']? = some (pth t.mask h c).j->i'=i:=λi' hi'=>by
    have nd:t.place.toList.Nodup:=ha.imp λh=>Nat.ne_of_lt h;have e1:t.place.toList[i']? = some (pth t.mask h c).j:=by rw[Array.getElem?_toList];exact hi'
    have e2:t.place.toList[i]? = some (pth t.mask h c).j:=by rw[Array.getElem?_toList];exact hp
    exact(List.getElem?_inj (List.getElem?_eq_some_iff.mp e1).1 nd).mp (e1.trans e2.symm)
   by_cases gi:g i=h
   ·refine .inl ⟨c,i,Nat.le_refl _,by lia,hs,hp,gi,?_,λd i' h1 h2=>by lia⟩;unfold SetTable.probe.go;rw[hs];dsimp only;rw[if_pos (by rw[gi];simp),step]
   ·have un:SetTable.probe.go t g h (fuel+1) (pth t.mask h c)=SetTable.probe.go t g h fuel (pth t.mask h (c+1)):=by
     conv=>lhs;unfold SetTable.probe.go
     rw[hs];dsimp only;rw[if_neg (by simpa using gi),step]
    rw[un];have no:∀i',t.place[i']? = some (pth t.mask h c).j->g i'≠h:=λi' hi'=>by rw[uniq i' hi'];exact gi
    rcases zmH ha hd g h hN hL fuel (c+1) (by lia) (by lia)with ⟨e',i',q1,q2,q3,q4,q5,q6,q7⟩ | ⟨q1,q2⟩
    ·refine .inl ⟨e',i',by lia,q2,q3,q4,q5,q6,λd i2 h1 h2 h3=>?_⟩;rcases Nat.eq_or_lt_of_le h1 with z | z
     ·subst z;exact no i2 h3
     ·exact q7 d i2 z h2 h3
    ·refine .inr ⟨q1,λd i2 h1 h2 h3=>?_⟩;rcases Nat.eq_or_lt_of_le h1 with z | z
     ·subst z;exact no i2 h3
     ·exact q2 d i2 z h2 h3
end
structure TabS (t:SetTable)(es:Array (Int×Value)):Prop where
 msk:okM t.mask
 asc:Asc t.place
 dm:t.dummies = #[]
 sz:t.place.size=es.size
 le:∀j∈t.place.toList,j<=t.mask
 way:∀(i j:Nat) (e:Int×Value),es[i]? = some e->t.place[i]? = some j->∃n,(pth t.mask e.1 n).j=j/\∀m,m<n->(pth t.mask e.1 m).j∈t.place.toList
theorem TabS.free {t:SetTable}{es:Array (Int×Value)}(T:TabS t es)(hl:es.size<=t.mask)(h:Int):∃N,N<=10*(t.mask+13)/\(pth t.mask h N).j∉t.place.toList/\∀d,d<N->(pth t.mask h d).j∈t.place.toList:=
 ziy T.msk h (zgb (by rw[Array.length_toList,T.sz];lia))
theorem zds {α:Type}(xs:Array α)(p:Nat)(x:α):(SetTable.insertAt xs p x).toList=xs.toList.take p++x::xs.toList.drop p:=by
 unfold SetTable.insertAt;simp[Array.toList_extract,List.extract_eq_drop_take,List.take_of_length_le]
theorem zkk {α:Type}{xs:Array α}{p:Nat}(hp:p<=xs.size)(x:α)(i:Nat):(SetTable.insertAt xs p x)[i]? = if i<p then xs[i]? else if i=p then some x else xs[i-1]?:=by
 rw[<- Array.getElem?_toList,zds];have hl:(xs.toList.take p).length=p:=by rw[List.length_take,Array.length_toList];lia
 by_cases h1:i<p
 ·rw[if_pos h1,List.getElem?_append_left (by lia),List.getElem?_take_of_lt h1,Array.getElem?_toList]
 ·rw[if_neg h1,List.getElem?_append_right (by lia),hl];by_cases h2:i=p
  ·subst h2;rw[if_pos rfl,Nat.sub_self];rfl
  ·rw[if_neg h2];obtain⟨d,rfl⟩:∃d,i=p+1+d:=⟨i-p-1,by lia⟩;rw[show p+1+d-p=d+1 by lia,List.getElem?_cons_succ,List.getElem?_drop,Array.getElem?_toList]
   congr 1
   lia
theorem zgP {xs:Array Nat}{p x j:Nat}:j∈(SetTable.insertAt xs p x).toList↔j=x\/j∈xs.toList:=by
 rw[zds,List.mem_append,List.mem_cons]
 conv=>rhs;rw[<- List.take_append_drop p xs.toList]
 rw[List.mem_append];constructor
 ·rintro(h | h | h)
  ·exact .inr (.inl h)
  ·exact .inl h
  ·exact .inr (.inr h)
 ·rintro(h | h | h)
  ·exact .inr (.inl h)
  ·exact .inl h
  ·exact .inr (.inr h)
theorem zhR {α:Type}{xs:Array α}{p:Nat}(x:α):(SetTable.insertAt xs p x).size=xs.size+1:=by
 rw[<- Array.length_toList,zds];simp;lia
theorem TabS.put {t:SetTable}{es:Array (Int×Value)}(T:TabS t es){h:Int}{x:Value}{N:Nat}(hN:(pth t.mask h N).j∉t.place.toList)(hL:∀d,d<N->(pth t.mask h d).j∈t.place.toList) :
  (t.put (pth t.mask h N).j).1.mask=t.mask/\(t.put (pth t.mask h N).j).1.led=t.led/\(t.put (pth t.mask h N).j).1.plain=t.plain/\TabS (t.put (pth t.mask h N).j).1 (SetTable.insertAt es (t.put (pth t.mask h N).j).2 (h,x)):=by
 have hhas:SetTable.has t.dummies (pth t.mask h N).j=false:=by rw[T.dm];unfold SetTable.has;simp
 have hp:=(zdk T.asc (pth t.mask h N).j).1;have hne:¬ (t.place[SetTable.below t.place (pth t.mask h N).j]? == some (pth t.mask h N).j)=true:=λz=>hN (List.mem_of_getElem? (by rw[Array.getElem?_toList];exact eq_of_beq z));have ha:=zit T.asc hne;unfold SetTable.put;rw[hhas];dsimp only;generalize hpp:SetTable.below t.place (pth t.mask h N).j=p at hp ha;refine⟨rfl,rfl,rfl,⟨T.msk,ha,T.dm,?_,λj hj=>?_,λi j e he hj=>?_⟩⟩
 ·show(SetTable.insertAt t.place p _).size=_;rw[zhR,zhR,T.sz]
 ·rcases zgP.mp hj with rfl | hj
  ·exact zmF _ _ _
  ·exact T.le j hj
 ·have he:(SetTable.insertAt es p (h,x))[i]? = some e:=he;have hj:(SetTable.insertAt t.place p (pth t.mask h N).j)[i]? = some j:=hj;rw[zkk (by rw[<- T.sz];exact hp)]at he;rw[zkk hp]at hj;have old:∀i',es[i']? = some e->t.place[i']? = some j->∃n,(pth t.mask e.1 n).j=j/\∀m,m<n->(pth t.mask e.1 m).j∈(SetTable.insertAt t.place p (pth t.mask h N).j).toList:=λi' h1 h2=>by
   obtain⟨n,q1,q2⟩:=T.way i' j e h1 h2;exact⟨n,q1,λm hm=>zgP.mpr (.inr (q2 m hm))⟩
  by_cases c1:i<p
  ·rw[if_pos c1]at he hj;exact old i he hj
  ·rw[if_neg c1]at he hj;by_cases c2:i=p
   ·rw[if_pos c2]at he hj;cases he;cases hj;exact⟨N,rfl,λm hm=>zgP.mpr (.inr (hL m hm))⟩
   ·rw[if_neg c2]at he hj;exact old _ he hj
theorem TabS.fresh (a b:Nat)(l:Bool):TabS (.fresh a b l) #[]:=⟨.inl rfl,List.Pairwise.nil,rfl,rfl,λj hj=>(by cases hj),λi j e he=>(by simp at he)⟩
structure Own (m:Nat)(ow:Array (Option Nat))(hs:List Int):Prop where
 sz:ow.size=m+1
 at_:∀(k:Nat) (h:Int),hs[k]? = some h->∃j n,ow[j]? = some (some k)/\(pth m h n).j=j/\∀d,d<n->∃q,ow[(pth m h d).j]? = some (some q)
 lt:∀(j k:Nat),ow[j]? = some (some k)->k<hs.length
 one:∀(j j' k:Nat),ow[j]? = some (some k)->ow[j']? = some (some k)->j=j'
theorem Own.start (m:Nat):Own m (Array.replicate (m+1) none) []:=by
 refine⟨by simp,λk h e=>by simp at e,λj k e=>?_,λj j' k e=>?_⟩ <;>
 ·rw[Array.getElem?_replicate]at e;split at e<;>simp at e
theorem Own.gap {m:Nat}{ow:Array (Option Nat)}{hs:List Int}(O:Own m ow hs)(hl:hs.length<=m):∃e,e<=m/\ow[e]? = some none:=by
 have hc:∀k,∃j,k<hs.length->ow[j]? = some (some k):=λk=>by
  by_cases hk:k<hs.length
  ·obtain⟨j,n,h1,_⟩:=O.at_ k hs[k] (List.getElem?_eq_getElem hk);exact⟨j,λ_=>h1⟩
  ·exact⟨0,λz=>absurd z hk⟩
 obtain⟨e,he,hn⟩:=zgb (l:=(List.range hs.length).map λk=>(hc k).choose) (m:=m) (by simp;lia);refine⟨e,he,?_⟩;have hlt:e<ow.size:=by rw[O.sz];lia
 rw[getElem?_pos ow e hlt];cases c:ow[e]with
 | none=>rfl
 | some k=>
  exfalso;have h1:ow[e]? = some (some k):=by rw[getElem?_pos ow e hlt,c]
  have hk:=O.lt e k h1;have h2:=(hc k).choose_spec hk;have:=O.one _ _ _ h1 h2;exact hn (List.mem_map.mpr ⟨k,List.mem_range.mpr hk,this.symm⟩)
theorem ziA {p:Nat->Bool}{n r:Nat}(h:(List.range n).find? p=some r):p r=true/\r<n/\∀i,i<r->p i=false:=by
 rw[List.find?_range_eq_some]at h;obtain⟨h1,h2,h3⟩:=h;exact⟨h1,List.mem_range.mp h2,λi hi=>by simpa using h3 i hi⟩
theorem zkl {m:Nat}{ow:Array (Option Nat)}(hz:ow.size=m+1)(h:Int){K:Nat}(hK:ow[(hdP m h K).1]? = some none):∀(fuel k:Nat),k<=K->K-k<fuel->(∀d,d<ixP m h k->∃q,ow[(pth m h d).j]? = some (some q))->
  ∃N,SetTable.layClean.free m ow fuel (hdP m h k).1 (hdP m h k).2=some (pth m h N).j/\ow[(pth m h N).j]? = some none/\∀d,d<N->∃q,ow[(pth m h d).j]? = some (some q)
 | 0,k,_,hf,_=>absurd hf (Nat.not_lt_zero _)
 | fuel+1,k,hk,hf,hb=>by
  obtain⟨r0,r9,rm⟩:=zke m (hdP m h k).1;have rm:=rm (zkf m h k);have val:∀r,r<=SetTable.runEnd m (hdP m h k).1-(hdP m h k).1->(pth m h (ixP m h k+r)).j=(hdP m h k).1+r:=λr hr=>by rw[zcU m h k r hr]
  have isN:∀r,r<=SetTable.runEnd m (hdP m h k).1-(hdP m h k).1->((ow.getD ((hdP m h k).1+r) (some 0)).isNone=true/\ow[(hdP m h k).1+r]? = some none)\/((ow.getD ((hdP m h k).1+r) (some 0)).isNone=false/\∃q,ow[(hdP m h k).1+r]? = some (some q)):=λr hr=>by
   have hlt:(hdP m h k).1+r<ow.size:=by rw[hz];lia
   have e1:ow.getD ((hdP m h k).1+r) (some 0)=ow[(hdP m h k).1+r]:=by simp[Array.getD,hlt]
   rw[e1,getElem?_pos ow _ hlt];cases ow[(hdP m h k).1+r]with
   | none=>exact .inl ⟨rfl,rfl⟩
   | some q=>exact .inr ⟨rfl,q,rfl⟩
  unfold SetTable.layClean.free;cases hr:(List.range (SetTable.runEnd m (hdP m h k).1+1-(hdP m h k).1)).find? λk'=>(ow.getD ((hdP m h k).1+k') (some 0)).isNone with
  | some r=>
   obtain⟨p1,p2,p3⟩:=ziA hr;have hr':r<=SetTable.runEnd m (hdP m h k).1-(hdP m h k).1:=by lia
   refine⟨ixP m h k+r,by rw[val r hr'],?_,λd hd=>?_⟩
   ·rw[val r hr'];rcases isN r hr' with ⟨_,q⟩ | ⟨q,_⟩
    ·exact q
    ·rw[p1]at q;cases q
   ·rcases Nat.lt_or_ge d (ixP m h k)with z | z
    ·exact hb d z
    ·obtain⟨i,rfl⟩:∃i,d=ixP m h k+i:=⟨d-ixP m h k,by lia⟩;rw[val i (by lia)];rcases isN i (by lia)with ⟨q,_⟩ | ⟨_,q⟩
     ·rw[p3 i (by lia)]at q;cases q
     ·exact q
  | none=>
   have hall:=List.find?_eq_none.mp hr;have no:∀r,r<=SetTable.runEnd m (hdP m h k).1-(hdP m h k).1->∃q,ow[(hdP m h k).1+r]? = some (some q):=λr hr'=>by
    rcases isN r hr' with ⟨q,_⟩ | ⟨_,q⟩
    ·exact absurd q (hall r (List.mem_range.mpr (by lia)))
    ·exact q
   have hne:k≠K:=λz=>by
    subst z;obtain⟨q,e⟩:=no 0 (Nat.zero_le _);rw[Nat.add_zero,hK]at e;cases e
   dsimp only;exact zkl hz h hK fuel (k+1) (by lia) (by lia) λd hd=>by
    rcases Nat.lt_or_ge d (ixP m h k)with z | z
    ·exact hb d z
    ·have hd:d<ixP m h k+(SetTable.runEnd m (hdP m h k).1-(hdP m h k).1)+1:=hd;obtain⟨i,rfl⟩:∃i,d=ixP m h k+i:=⟨d-ixP m h k,by lia⟩;rw[val i (by lia)];exact no i (by lia)
theorem Own.put {m:Nat}{ow:Array (Option Nat)}{hs:List Int}(O:Own m ow hs){h:Int}{N:Nat}(hN:ow[(pth m h N).j]? = some none)(hL:∀d,d<N->∃q,ow[(pth m h d).j]? = some (some q)) :
  Own m (ow.setIfInBounds (pth m h N).j (some hs.length)) (hs++[h]):=by
 have hlt:(pth m h N).j<ow.size:=by rw[O.sz];exact Nat.lt_succ_of_le (zmF m h N)
 have get:∀j:Nat,(ow.setIfInBounds (pth m h N).j (some hs.length))[j]? = if (pth m h N).j=j then some (some hs.length) else ow[j]?:=λj=>by
  rw[Array.getElem?_setIfInBounds];by_cases c:(pth m h N).j=j
  ·rw[if_pos c,if_pos c,if_pos hlt]
  ·rw[if_neg c,if_neg c]
 have up:∀(j q:Nat),ow[j]? = some (some q)->∃q,(ow.setIfInBounds (pth m h N).j (some hs.length))[j]? = some (some q):=λj q e=>by
  rw[get];split
  ·exact⟨_,rfl⟩
  ·exact⟨q,e⟩
 refine⟨by rw[Array.size_setIfInBounds];exact O.sz,λk h' e=>?_,λj k e=>?_,λj j' k e e'=>?_⟩
 ·rcases Nat.lt_or_ge k hs.length with z | z
  ·rw[List.getElem?_append_left z]at e;obtain⟨j,n,h1,h2,h3⟩:=O.at_ k h' e;refine⟨j,n,?_,h2,λd hd=>?_⟩
   ·rw[get,if_neg (λc=>by rw[<- c,hN]at h1;cases h1)];exact h1
   ·obtain⟨q,hq⟩:=h3 d hd;exact up _ _ hq
  ·have hk:k=hs.length:=by
    have:=(List.getElem?_eq_some_iff.mp e).1;rw[List.length_append]at this;simp at this;lia
   subst hk;rw[List.getElem?_append_right (Nat.le_refl _),Nat.sub_self]at e;cases e;refine⟨(pth m h N).j,N,by rw[get,if_pos rfl],rfl,λd hd=>?_⟩;obtain⟨q,hq⟩:=hL d hd;exact up _ _ hq
 ·rw[get]at e;rw[List.length_append];split at e
  ·cases e;simp
  ·have:=O.lt j k e;lia
 ·rw[get]at e e';split at e
  ·rename_i c
   cases e;split at e'
   ·rename_i c';rw[<- c,<- c']
   ·have:=O.lt _ _ e';lia
  ·split at e'
   ·cases e';have:=O.lt _ _ e;lia
   ·exact O.one _ _ _ e e'
noncomputable abbrev layF (m:Nat)(acc:Option (Array (Option Nat)×Nat))(h:Int):Option (Array (Option Nat)×Nat):=do
 let (owner,k) <- acc;let j <- SetTable.layClean.free m owner (SetTable.turns m) (SetTable.bits h % (m+1)) (SetTable.bits h)
 pure (owner.setIfInBounds j (some k),k+1)
theorem zkm {m:Nat}(hm:okM m):∀(rest hs:List Int)(ow:Array (Option Nat)),Own m ow hs->hs.length+rest.length<=m->∃ow',rest.foldl (layF m) (some (ow,hs.length))=some (ow',hs.length+rest.length)/\Own m ow' (hs++rest)
 | [],hs,ow,O,_=>⟨ow,rfl,by rw[List.append_nil];exact O⟩
 | h::rest,hs,ow,O,hl=>by
  rw[List.length_cons]at hl;obtain⟨e,he,hn⟩:=O.gap (by lia);obtain⟨K,hK,eK⟩:=zmG hm h he;obtain⟨N,g1,g2,g3⟩:=zkl O.sz h (K:=K) (by rw[eK];exact hn) (SetTable.turns m) 0 (Nat.zero_le _) (by unfold SetTable.turns;lia) (λd hd=>absurd hd (Nat.not_lt_zero _));have O':=O.put g2 g3;obtain⟨ow',e1,e2⟩:=zkm hm rest (hs++[h]) _ O' (by rw[List.length_append];simp;lia);have st:layF m (some (ow,hs.length)) h=some (ow.setIfInBounds (pth m h N).j (some hs.length),(hs++[h]).length):=by
   show(SetTable.layClean.free m ow (SetTable.turns m) (hdP m h 0).1 (hdP m h 0).2 >>= λj=>pure (ow.setIfInBounds j (some hs.length),hs.length+1))=_;rw[g1,List.length_append];rfl
  refine⟨ow',?_,by rw[List.append_assoc]at e2;exact e2⟩;rw[List.foldl_cons,st,e1,List.length_append]
  congr 2
  simp;lia
theorem zkn {es:Array (Int×Value)}:∀ {l:List Nat}(_:∀k∈l,k<es.size)(i:Nat),(l.filterMap λk=>es[k]?)[i]? = (l[i]?).bind λk=>es[k]?
 | [],_,i=>by simp
 | k::l,h,i=>by
  have hk:=h k List.mem_cons_self;rw[List.filterMap_cons_some (getElem?_pos es k hk)];cases i with
  | zero=>rw[List.getElem?_cons_zero,List.getElem?_cons_zero];exact(getElem?_pos es k hk).symm
  | succ i=>rw[List.getElem?_cons_succ,List.getElem?_cons_succ];exact zkn (λk' h'=>h k' (List.mem_cons_of_mem _ h')) i
theorem zmI {es:Array (Int×Value)}:∀ {l:List Nat}(_:∀k∈l,k<es.size),(l.filterMap λk=>es[k]?).length=l.length
 | [],_=>rfl
 | k::l,h=>by
  rw[List.filterMap_cons_some (getElem?_pos es k (h k List.mem_cons_self)),List.length_cons,List.length_cons,zmI λk' h'=>h k' (List.mem_cons_of_mem _ h')]
theorem zlJ (es:Array (Int×Value)):((List.range es.size).filterMap λk=>es[k]?)=es.toList:=by
 apply List.ext_getElem?;intro i;rw[zkn (λk hk=>List.mem_range.mp hk)];by_cases hi:i<es.size
 ·rw[List.getElem?_range hi,Array.getElem?_toList];rfl
 ·rw[List.getElem?_eq_none (by simp;lia),List.getElem?_eq_none (by simp;lia)];rfl
theorem zko {t:SetTable}{es:Array (Int×Value)}{n:Nat}(hm:okM (SetTable.sizeAbove n-1))(hl:es.size<=SetTable.sizeAbove n-1):∃t' order,t.relaid (es.map (·.1)) n=some (t',order)/\(order.filterMap (es[·]?)).toList.Perm es.toList/\t'.mask=SetTable.sizeAbove n-1/\t'.led=t.led/\TabS t' (order.filterMap (es[·]?)):=by
 generalize hmm:SetTable.sizeAbove n-1=m at hm hl;obtain⟨ow,e1,O⟩:=zkm hm (es.map (·.1)).toList [] _ (Own.start m) (by simp;lia);rw[List.nil_append]at O;have hcl:SetTable.layClean m (es.map (·.1))=some ow:=by
  show Option.map (·.1) ((es.map (·.1)).foldl (layF m) (some (Array.replicate (m+1) none,0)))=_;rw[<- Array.foldl_toList];exact congrArg (Option.map (·.1)) e1
 have hsz:(es.map (·.1)).toList.length=es.size:=by simp
 obtain⟨live,hlive⟩:∃live,live=(List.range (m+1)).filterMap λj=>(ow.getD j none).map (j,·):=⟨_,rfl⟩;have hrl:t.relaid (es.map (·.1)) n=some ({ mask:=m,place:=(live.map (·.1)).toArray,dummies:=#[],finger:=t.finger,led:=t.led,moves:=t.movedTo m,plain:=t.plain },(live.map (·.2)).toArray):=by
  unfold SetTable.relaid SetTable.laid;rw[hmm,hcl,hlive];rfl
 have mem:∀j k,(j,k)∈live↔ow[j]? = some (some k):=λj k=>by
  rw[hlive,List.mem_filterMap];constructor
  ·rintro⟨j',hj',e⟩;have hlt:j'<ow.size:=by rw[O.sz];exact List.mem_range.mp hj'
   have e2:ow.getD j' none=ow[j']:=by simp[Array.getD,hlt]
   rw[e2]at e;cases c:ow[j']with
   | none=>rw[c]at e;cases e
   | some q=>rw[c]at e;cases e;rw[getElem?_pos ow _ hlt,c]
  ·intro e;obtain⟨hlt,c⟩:=Array.getElem?_eq_some_iff.mp e;refine⟨j,List.mem_range.mpr (by rw[<- O.sz];exact hlt),?_⟩;have e2:ow.getD j none=ow[j]:=by simp[Array.getD,hlt]
   rw[e2,c];rfl
 obtain⟨ha,_⟩:=ziu hrl;have ha:(live.map (·.1)).Pairwise (· < ·):=ha;have ndl:live.Nodup:=(List.pairwise_map.mp ha).imp λ{a b} h e=>by rw[e]at h;exact Nat.lt_irrefl _ h
 have nd2:(live.map (·.2)).Nodup:=by
  rw[List.Nodup,List.pairwise_map];refine ndl.imp_of_mem λ{a b} h1 h2 hne e=>hne ?_;obtain⟨j,k⟩:=a;obtain⟨j',k'⟩:=b;have e:k=k':=e;subst e;rw[O.one j j' k ((mem _ _).mp h1) ((mem _ _).mp h2)]
 have lt2:∀k∈live.map (·.2),k<es.size:=λk hk=>by
  obtain⟨⟨j,k'⟩,h1,rfl⟩:=List.mem_map.mp hk;have:=O.lt _ _ ((mem _ _).mp h1);rw[hsz]at this;exact this
 have perm:(live.map (·.2)).Perm (List.range es.size):=(List.perm_ext_iff_of_nodup nd2 List.nodup_range).mpr λk=>by
  constructor
  ·exact λhk=>List.mem_range.mpr (lt2 k hk)
  ·intro hk;have hk:=List.mem_range.mp hk;obtain⟨j,_,h1,_⟩:=O.at_ k _ (List.getElem?_eq_getElem (show k<(es.map (·.1)).toList.length by rw[hsz];exact hk));exact List.mem_map.mpr ⟨(j,k),(mem _ _).mpr h1,rfl⟩
 have eL:((live.map (·.2)).toArray.filterMap (es[·]?)).toList=(live.map (·.2)).filterMap λk=>es[k]?:=by rw[List.filterMap_toArray]
 refine⟨_,_,hrl,?_,rfl,rfl,⟨hm,ha,rfl,?_,λj hj=>?_,λi j e he hj=>?_⟩⟩
 ·rw[eL,<- zlJ es];exact perm.filterMap _
 ·show(live.map (·.1)).toArray.size=_;have q:=congrArg List.length eL;rw[Array.length_toList,zmI lt2]at q;rw[q];simp
 ·obtain⟨⟨j',k⟩,h1,rfl⟩:=List.mem_map.mp hj;have:=(Array.getElem?_eq_some_iff.mp ((mem _ _).mp h1)).1;rw[O.sz]at this;exact Nat.le_of_lt_succ this
 ·have hj:(live.map (·.1))[i]? = some j:=by rw[<- List.getElem?_toArray];exact hj
  have he:((live.map (·.2)).filterMap λk=>es[k]?)[i]? = some e:=by rw[<- eL,Array.getElem?_toList];exact he
  rw[zkn lt2,List.getElem?_map]at he;rw[List.getElem?_map]at hj;cases c:live[i]? with
  | none=>rw[c]at hj;cases hj
  | some p=>
   obtain⟨j',k⟩:=p;rw[c]at hj he;cases hj;have he:es[k]? = some e:=he;have h1:=(mem _ _).mp (List.mem_of_getElem? c);obtain⟨j2,n2,g1,g2,g3⟩:=O.at_ k e.1 (by rw[Array.getElem?_toList,Array.getElem?_map,he];rfl);have:=O.one _ _ _ h1 g1;subst this;refine⟨n2,g2,λd hd=>?_⟩;obtain⟨q,hq⟩:=g3 d hd;exact List.mem_map.mpr ⟨(_,q),(mem _ _).mpr hq,rfl⟩
open PySem PySem.Spec PyProof.Rows
section
variable {prog:Program}{w:World}{A:Around}{E:Value->Shared->Prop}{s:Shared}
noncomputable abbrev TK (prog:Program)(w:World)(h:Heap)(y:List Int)(b:Addr):Prop:=IsTupleKey (PySem.intKind prog w) h y b
noncomputable abbrev tH (prog:Program)(w:World)(y:List Int):Int:=tupleKeyHash (PySem.intKind prog w) y
theorem items_int {x:List Int}{vs:List Value}(h:ItemsAre (PySem.intKind prog w) x vs):∀v∈vs,∃n t,v=Value.int n t:=by
 induction h with
 | nil=>intro v hv;cases hv
 | cons h1 _ ih=>
  intro v hv;rcases List.mem_cons.mp hv with rfl | hv
  ·obtain⟨t,rfl⟩:=Value.isInt_shape h1;exact⟨_,t,rfl⟩
  ·exact ih v hv
theorem zhS {x:List Int}{b:Addr}{Q:Bool->Shared->Prop}(hk:TK prog w s.heap x b)(h:Q false s):wpAny (model prog w) A (ofAClassStatement 8 (.ref b)) Q E s:=by
 have hT:=hk.typeIs;obtain⟨o,items,n,ho,_,hd,hi⟩:=hk;unfold ofAClassStatement;refine wpAny_bind (wpAny_typeOf hT ?_);show wpAny _ _ (pure true >>= _) _ _ s;refine wpAny_bind (wpAny_pure ?_);simp only[Bool.not_true,Bool.false_eq_true,if_false];refine wpAny_bind (wpAny_seqItems ho hd ?_);refine wpAny_bind ?_;show wpAny _ _ (forIn items _ _) _ _ s;rw[<- Array.forIn_toList];refine wpAny_forIn_list _ (λrest r s'=>r.1=none/\s'=s/\∀v∈rest,∃n t,v=Value.int n t) _ ?_ ?_ _ _ ⟨rfl,rfl,items_int hi⟩
 ·rintro v rest r s' ⟨hr,rfl,hall⟩;obtain⟨n,t,rfl⟩:=hall v List.mem_cons_self;refine wpAny_bind (m:=ofAClassStatement 7 (.int n t)) (wpAny_pure ?_);simp only[Bool.false_eq_true,if_false];exact wpAny_pure ⟨rfl,rfl,λu hu'=>hall u (List.mem_cons_of_mem _ hu')⟩
 ·rintro⟨r1,r2⟩ s' ⟨hr,rfl,_⟩;simp only at hr;subst hr;exact wpAny_pure h
theorem zqG {x:List Int}{b:Addr}{Q:Bool->Shared->Prop}(hk:TK prog w s.heap x b)(h:Q true s):wpAny (model prog w) A (hashByValue 8 (.ref b)) Q E s:=by
 have hT:=hk.typeIs;obtain⟨o,items,n,ho,_,hd,hi⟩:=hk;show wpAny _ _ (bind (specialOf (.ref b) "__hash__") _) _ _ s;refine wpAny_bind (wpAny_specialOf hT PySem.F.slot_tuple_hash.lookup ?_);dsimp only;refine wpAny_bind (wpAny_seqItems ho hd ?_);dsimp only[Option.getD];refine wpAny_bind ?_;show wpAny _ _ (forIn items _ _) _ _ s;rw[<- Array.forIn_toList];refine wpAny_forIn_list _ (λrest r s'=>r.1=none/\s'=s/\∀v∈rest,∃n t,v=Value.int n t) _ ?_ ?_ _ _ ⟨rfl,rfl,items_int hi⟩
 ·rintro v rest r s' ⟨hr,rfl,hall⟩;obtain⟨n,t,rfl⟩:=hall v List.mem_cons_self;refine wpAny_bind (m:=hashByValue 7 (.int n t)) (wpAny_pure ?_);simp only[Bool.not_true,Bool.false_eq_true,if_false];exact wpAny_pure ⟨rfl,rfl,λu hu'=>hall u (List.mem_cons_of_mem _ hu')⟩
 ·rintro⟨r1,r2⟩ s' ⟨hr,rfl,_⟩;simp only at hr;subst hr;exact wpAny_pure h
theorem zpD {x:List Int}{b:Addr}{vs:List Value}{Q:Bool->Shared->Prop}(hk:TK prog w s.heap x b)(hv:∀v∈vs,∃y c,v=.ref c/\TK prog w s.heap y c)(h:Q false s):wpAny (model prog w) A (searchCouldBeSeen (.ref b) vs) Q E s:=by
 unfold searchCouldBeSeen;refine wpAny_bind (wpAny_forIn_list _ (λrest r s'=>r.1=none/\s'=s/\∀v∈rest,∃y c,v=.ref c/\TK prog w s.heap y c) _ ?_ ?_ _ _ ⟨rfl,rfl,hv⟩)
 ·rintro v rest r s' ⟨hr,rfl,hall⟩;obtain⟨y,c,rfl,hy⟩:=hall v List.mem_cons_self;have hrest:=λu hu'=>hall u (List.mem_cons_of_mem _ hu');dsimp only;split
  ·exact wpAny_pure ⟨rfl,rfl,hrest⟩
  ·refine wpAny_bind (wpAny_eqIsQuiet_tuple hk ?_);simp only[Bool.not_true,Bool.false_eq_true,if_false];refine wpAny_bind (wpAny_eqIsQuiet_tuple hy ?_);simp only[Bool.not_true,Bool.false_eq_true,if_false];refine wpAny_bind (zhS hk ?_);simp only[Bool.false_eq_true,if_false];refine wpAny_bind (zhS hy ?_);simp only[Bool.false_eq_true,if_false];exact wpAny_pure ⟨rfl,rfl,hrest⟩
 ·rintro⟨r1,r2⟩ s' ⟨hr,rfl,_⟩;simp only at hr;subst hr;exact wpAny_pure h
theorem znI {α:Type}{c:Prop}{dc:Decidable c}{m:Sem Bool}{u T:Sem α}{Q:α->Shared->Prop}(hm:∀Q':Bool->Shared->Prop,Q' false s->wpAny (model prog w) A m Q' E s)(h:wpAny (model prog w) A T Q E s):wpAny (model prog w) A (if c then(m >>= λb=>if b=true then u else T) else T) Q E s:=by
 split
 ·refine wpAny_bind (hm _ ?_);rw[if_neg Bool.false_ne_true];exact h
 ·exact h
noncomputable def Ents (prog:Program)(w:World)(h:Heap)(es:Array (Int×Value)):Prop:=∀(i:Nat) e,es[i]? = some e->∃x c,e=(tH prog w x,Value.ref c)/\TK prog w h x c
theorem zgc {a b:Addr}{es:Array (Int×Value)}{ep:Nat}{t:SetTable}{y:List Int}{Q:SetFound->Shared->Prop}(hu:A.units<cLine)(r:Rec w s.heap a es ep t)(T:TabS t es)(hE:Ents prog w s.heap es)(hb:TK prog w s.heap y b)
  {N:Nat} (hN:(pth t.mask (tH prog w y) N).j∉t.place.toList) (hL:∀d,d<N->(pth t.mask (tH prog w y) d).j∈t.place.toList) (hNb:N<=10*(t.mask+13))
  (h1:(∃(i:Nat) (e:Int×Value) (c:Addr),es[i]? = some e/\e.2=.ref c/\TK prog w s.heap y c)->Q (.there none) s) (h2:(∀(i:Nat) (e:Int×Value) (c:Addr),es[i]? = some e->e.2=.ref c->¬ TK prog w s.heap y c)->Q (.free (pth t.mask (tH prog w y) N).j false) s) :
  ∀(fuel c:Nat) (st:Option SetTable.Probe),c<=N->N-c<fuel->st.getD (t.probeStart (tH prog w y))=pth t.mask (tH prog w y) c->(∀(d i:Nat) (e:Int×Value) (q:Addr),d<c->t.place[i]? = some (pth t.mask (tH prog w y) d).j->es[i]? = some e->e.2=.ref q->¬ TK prog w s.heap y q)->
   wpAny (model prog w) A (setSearchFrom a (.ref b) (tH prog w y) true fuel st) Q E s
 | 0,c,_,_,hf,_,_=>absurd hf (Nat.not_lt_zero _)
 | fuel+1,c,st,hc,hf,hst,hseen=>by
  have hodd:t.gaveWay=false:=by
   unfold SetTable.gaveWay;rcases T.msk with e | e | e<;>rw[e]<;>rfl
  have gm:=zmH T.asc T.dm (λi=>(es[i]?.map (·.1)).getD 0) (tH prog w y) hN hL (10*SetTable.turns t.mask) c hc (by unfold SetTable.turns;lia);have hcol:∀(d i:Nat) (e:Int×Value) (q:Addr),t.place[i]? = some (pth t.mask (tH prog w y) d).j->(λi=>(es[i]?.map (·.1)).getD 0) i≠tH prog w y->es[i]? = some e->e.2=.ref q->¬ TK prog w s.heap y q:=λd i e q hp hg he e2 hq=>by
   obtain⟨x,c',rfl,hx⟩:=hE i e he;cases e2;have:=hx.inj hq;subst this;refine hg ?_;show(es[i]?.map (·.1)).getD 0=_;rw[he];rfl
  show wpAny _ _ (bind (setState a) _) _ _ s;refine wpAny_bind (zaB r ?_);dsimp only;rw[hodd];simp only[Bool.false_eq_true,if_false];rw[hst];generalize hpr:t.probe _ _ _=pr;rcases gm with ⟨e,i,g1,g2,g3,g4,g5,g6,g7⟩ | ⟨g1,g2⟩
  ·have e6:pr=_:=hpr.symm.trans g6;rw[e6];obtain⟨hi,e0⟩:∃hi:i<es.size,es[i]? = some es[i]:=by
    have hp:i<t.place.size:=(Array.getElem?_eq_some_iff.mp g4).1;rw[T.sz]at hp;exact⟨hp,Array.getElem?_eq_getElem hp⟩
   obtain⟨x,q,ex,hx⟩:=hE i _ e0;rw[ex]at e0;have hstill:∀(d i':Nat) (e':Int×Value) (q':Addr),x≠y->d<e+1->t.place[i']? = some (pth t.mask (tH prog w y) d).j->es[i']? = some e'->e'.2=.ref q'->¬ TK prog w s.heap y q':=λd i' e' q' hne hd hp he' e2=>by
    rcases Nat.lt_or_ge d c with z | z
    ·exact hseen d i' e' q' z hp he' e2
    ·rcases Nat.lt_or_ge d e with z2 | z2
     ·exact hcol d i' e' q' hp (g7 d i' z z2 hp) he' e2
     ·have hde:d=e:=by lia
      subst hde;have nd:t.place.toList.Nodup:=T.asc.imp λh=>Nat.ne_of_lt h;have q1:t.place.toList[i']? = some (pth t.mask (tH prog w y) d).j:=by rw[Array.getElem?_toList];exact hp
      have q2:t.place.toList[i]? = some (pth t.mask (tH prog w y) d).j:=by rw[Array.getElem?_toList];exact g4
      have hii:i'=i:=(List.getElem?_inj (List.getElem?_eq_some_iff.mp q1).1 nd).mp (q1.trans q2.symm);subst hii;rw[e0]at he';cases he';cases e2;intro hq;exact hne (hx.inj hq)
   have hvs:∀v∈(es.filter λz=>z.1 == tH prog w y).toList.map (·.2),∃y c,v=.ref c/\TK prog w s.heap y c:=λv hv=>by
    obtain⟨z,hz,rfl⟩:=List.mem_map.mp hv;have hz:z∈es:=by
     have:=Array.mem_toList_iff.mp hz;exact(Array.mem_filter.mp this).1
    obtain⟨k,hk,ek⟩:=Array.mem_iff_getElem.mp hz;obtain⟨x',c',e',hx'⟩:=hE k z (by rw[Array.getElem?_eq_getElem hk,ek]);rw[e'];exact⟨x',c',rfl,hx'⟩
   refine znI (λQ' hq=>zpD hb hvs hq) ?_;rw[e0];dsimp only;refine wpAny_bind (wpAny_holding (wpAny_eqBool_tuple hu hx hb ?_));refine wpAny_bind (zaB r ?_);by_cases hxy:x=y
   ·subst hxy;rw[decide_eq_true rfl];simp only[Bool.and_true,if_true];exact wpAny_pure (h1 ⟨i,_,q,e0,rfl,hx⟩)
   ·rw[decide_eq_false hxy];have hsm:t.sameMemory t.moves t.mask=some true:=by unfold SetTable.sameMemory;simp
    dsimp only;simp only[Bool.and_false,Bool.false_eq_true,if_false,hsm,if_true,g3,e0];refine wpAny_bind (wpAny_isSame_ref_self ?_);simp only[if_true];refine wpAny_bind (wpAny_pure ?_);dsimp only;exact zgc hu r T hE hb hN hL hNb h1 h2 fuel (e+1) (some (pth t.mask (tH prog w y) (e+1))) (by lia) (by lia) rfl (λd i' e' q' hd=>hstill d i' e' q' hxy hd)
  ·have e1:pr=_:=hpr.symm.trans g1;rw[e1];dsimp only;refine wpAny_pure (h2 λi e q he e2 hq=>?_);obtain⟨x,q',rfl,hx⟩:=hE i e he;cases e2;have:=hx.inj hq;subst this;have hip:i<t.place.size:=by rw[T.sz];exact(Array.getElem?_eq_some_iff.mp he).1
   obtain⟨n,w1,w2⟩:=T.way i _ _ he (Array.getElem?_eq_getElem hip);dsimp only at w1 w2;have hpl:t.place[i]? = some (pth t.mask (tH prog w x) n).j:=by rw[w1];exact Array.getElem?_eq_getElem hip
   have hin:(pth t.mask (tH prog w x) n).j∈t.place.toList:=List.mem_of_getElem? (by rw[Array.getElem?_toList];exact hpl);have hn:n<N:=by
    rcases Nat.lt_trichotomy n N with z | z | z
    ·exact z
    ·subst z;exact absurd hin hN
    ·exact absurd (w2 N z) hN
   rcases Nat.lt_or_ge n c with z | z
   ·exact hseen n i _ _ z hpl he rfl hx
   ·exact hcol n i _ _ hpl (g2 n i z hn hpl) he rfl hx
end
noncomputable abbrev PA2:=List Int×Addr
noncomputable abbrev ent (prog:Program)(w:World)(p:PA2):Int×Value:=(tH prog w p.1,.ref p.2)
structure Few (t:SetTable)(n:Nat):Prop where
 all:n<=76
 a:t.mask=7->n<=4
 b:t.mask=31->n<=18
noncomputable def HSet (prog:Program)(w:World)(h:Heap)(a:Addr)(ps:List PA2):Prop:=
 ∃es ep t,Rec w h a es ep t/\TabS t es/\Few t es.size/\es.toList.Perm (ps.map (ent prog w))/\(∀p∈ps,TK prog w h p.1 p.2)/\(ps.map (·.1)).Nodup
noncomputable def addP (ps:List PA2)(p:PA2):List PA2:=if p.1∈ps.map (·.1) then ps else p::ps
theorem zlK (ps:List PA2)(p:PA2):(addP ps p).length<=ps.length+1:=by
 unfold addP;split
 ·lia
 ·simp
theorem zlL {ps:List PA2}{p q:PA2}(h:q∈addP ps p):q=p\/q∈ps:=by
 unfold addP at h;split at h
 ·exact .inr h
 ·exact List.mem_cons.mp h
theorem zdV:∀(qs ps:List PA2),(qs.foldl addP ps).length<=ps.length+qs.length
 | [],ps=>by simp
 | q::qs,ps=>by
  rw[List.foldl_cons];have h1:=zdV qs (addP ps q);have h2:=zlK ps q;rw[List.length_cons];lia
theorem zdW:∀(qs ps:List PA2)(q:PA2),q∈qs.foldl addP ps->q∈ps\/q∈qs
 | [],ps,q,h=>.inl h
 | p::qs,ps,q,h=>by
  rcases zdW qs _ q h with z | z
  ·rcases zlL z with rfl | z
   ·exact .inr List.mem_cons_self
   ·exact .inl z
  ·exact .inr (List.mem_cons_of_mem _ z)
theorem zez:∀(qs ps:List PA2)(y:List Int),y∈(qs.foldl addP ps).map (·.1)↔y∈ps.map (·.1)\/y∈qs.map (·.1)
 | [],ps,y=>by simp
 | p::qs,ps,y=>by
  rw[List.foldl_cons,zez qs,List.map_cons,List.mem_cons];unfold addP;split
  ·rename_i hp
   constructor
   ·rintro(h | h)
    ·exact .inl h
    ·exact .inr (.inr h)
   ·rintro(h | rfl | h)
    ·exact .inl h
    ·exact .inl hp
    ·exact .inr h
  ·rw[List.map_cons,List.mem_cons];constructor
   ·rintro((h | h) | h)
    ·exact .inr (.inl h)
    ·exact .inl h
    ·exact .inr (.inr h)
   ·rintro(h | h | h)
    ·exact .inl (.inr h)
    ·exact .inl (.inl h)
    ·exact .inr h
section
variable {prog:Program}{w:World}{A:Around}{E:Value->Shared->Prop}{s:Shared}{a:Addr}
theorem TK.keep {h h':Heap}{y:List Int}{b:Addr}(x:TK prog w h y b)(k:∀o,h.get? b=some o->h'.get? b=some o):TK prog w h' y b:=
 let ⟨o,i,n,e,r⟩:=x;⟨o,i,n,k o e,r⟩
theorem TK.ne {h:Heap}{y:List Int}{b:Addr}{es:Array (Int×Value)}{ep:Nat}{t:SetTable}(x:TK prog w h y b)(r:Rec w h a es ep t):b≠a:=λe=>by
 subst e;obtain⟨o,i,n,e,c,d,_⟩:=x;obtain⟨o',e',_,d'⟩:=r.obj;rw[e]at e';cases e';rw[d]at d';cases d'
theorem TK.but {h h':Heap}{y:List Int}{b:Addr}{es:Array (Int×Value)}{ep:Nat}{t:SetTable}(x:TK prog w h y b)(r:Rec w h a es ep t)(k:Heap.SameBut a h h'):TK prog w h' y b:=
 TK.keep x λo e=>(k.2 b (TK.ne x r)).trans e
theorem HSet.keep {h h':Heap}{ps:List PA2}(S:HSet prog w h a ps)(k:∀b o,(b=a\/b∈ps.map (·.2))->h.get? b=some o->h'.get? b=some o):HSet prog w h' a ps:=
 let ⟨es,ep,t,r,T,F,p,q,n⟩:=S;⟨es,ep,t,r.keep λo e=>k a o (.inl rfl) e,T,F,p,λx hx=>TK.keep (q x hx) λo e=>k _ o (.inr (List.mem_map.mpr ⟨x,hx,rfl⟩)) e,n⟩
theorem HSet.ne {h:Heap}{ps:List PA2}{y:List Int}{b:Addr}(S:HSet prog w h a ps)(x:TK prog w h y b):b≠a:=let ⟨_,_,_,r,_⟩:=S;TK.ne x r
theorem zhT {α:Type}(xs:Array α)(p:Nat)(x:α):(SetTable.insertAt xs p x).toList.Perm (x::xs.toList):=by
 rw[zds];exact List.perm_middle.trans (by rw[List.take_append_drop])
theorem zmJ {t:SetTable}{es:Array (Int×Value)}(T:TabS t es)(h:es.size<=t.mask):t.fits es.size=true:=by
 unfold SetTable.fits SetTable.fill;rw[T.sz,T.dm];simp[h]
theorem addT {ps:List PA2}{y:List Int}{b:Addr}{Q:Bool->Shared->Prop}(hu:A.units<cLine)(hk:TK prog w s.heap y b)(S:HSet prog w s.heap a ps)(hroom:ps.length+1<=76)
  (h:∀h' bl,Heap.SameBut a s.heap h'->HSet prog w h' a (addP ps (y,b))->Q bl { s with heap:=h' }):wpAny (model prog w) A (setAddHashed a (.ref b) (tH prog w y)) Q E s:=by
 have S0:=S;obtain⟨es,ep,t,r,T,F,hp,hT,nd⟩:=S;have hsz:es.size=ps.length:=by rw[<- Array.length_toList,hp.length_eq,List.length_map]
 have hlm:es.size+1<=t.mask:=by
  rcases T.msk with e | e | e
  ·have:=F.a e;lia
  ·have:=F.b e;lia
  ·lia
 have hE:Ents prog w s.heap es:=λi e he=>by
  have:e∈ps.map (ent prog w):=hp.mem_iff.mp (List.mem_of_getElem? (by rw[Array.getElem?_toList];exact he));obtain⟨p,h1,rfl⟩:=List.mem_map.mp this;exact⟨p.1,p.2,rfl,hT p h1⟩
 obtain⟨N,n1,n2,n3⟩:=T.free (by lia) (tH prog w y);unfold setAddHashed;refine wpAny_holding ?_;show wpAny _ _ (bind (setState a) _) _ _ s;refine wpAny_bind (zaB r ?_);dsimp only;have hns:byScan (.ref b) es=false:=rfl;rw[hns];simp only[Bool.false_eq_true,if_false];unfold setSearch;refine wpAny_bind (zgc hu r T hE hk n2 n3 n1 (λhex=>?_) (λhno=>?_) 100000 0 none (Nat.zero_le _) (by rcases T.msk with e | e | e<;>rw[e]at n1<;>lia) rfl (λd i e q hd=>absurd hd (Nat.not_lt_zero _)))
 ·obtain⟨i,e,c,e1,e2,e3⟩:=hex;obtain⟨p,h1,rfl⟩:=List.mem_map.mp (hp.mem_iff.mp (List.mem_of_getElem? (by rw[Array.getElem?_toList];exact e1)));cases e2;have hy:y∈ps.map (·.1):=List.mem_map.mpr ⟨p,h1,(hT p h1).inj e3⟩;have ea:addP ps (y,b)=ps:=by unfold addP;rw[if_pos hy]
  have q:=h s.heap false (Heap.SameBut.refl a s.heap) (by rw[ea];exact S0);exact wpAny_pure q
 ·have hy:y∉ps.map (·.1):=λz=>by
   obtain⟨p,h1,rfl⟩:=List.mem_map.mp z;have:ent prog w p∈es.toList:=hp.mem_iff.mpr (List.mem_map.mpr ⟨p,h1,rfl⟩);obtain⟨i,hi,e⟩:=List.mem_iff_getElem.mp this;exact hno i _ p.2 (by rw[<- Array.getElem?_toList,List.getElem?_eq_getElem hi,e]) rfl (hT p h1)
  have ea:addP ps (y,b)=(y,b)::ps:=by unfold addP;rw[if_neg hy]
  rw[ea]at h;refine wpAny_bind (zaB r ?_);obtain⟨m1,l1,pl1,T1⟩:=T.put (x:=.ref b) n2 n3;generalize hput:t.put (pth t.mask (tH prog w y) N).j=tp at m1 l1 pl1 T1 ⊢;obtain⟨t1,ix⟩:=tp;dsimp only at m1 l1 pl1 T1 ⊢;have z1:(SetTable.insertAt es ix (tH prog w y,Value.ref b)).size=es.size+1:=by
   rw[<- Array.length_toList,(zhT _ _ _).length_eq,List.length_cons,Array.length_toList]
  have p1:(SetTable.insertAt es ix (tH prog w y,Value.ref b)).toList.Perm (((y,b)::ps).map (ent prog w)):=(zhT _ _ _).trans (hp.cons _);have nd1:(((y,b)::ps).map (·.1)).Nodup:=List.nodup_cons.mpr ⟨hy,nd⟩;generalize hes:SetTable.insertAt es ix (tH prog w y,Value.ref b)=es1 at T1 z1 p1 ⊢;have f1:t1.fits es1.size=true:=zmJ T1 (by rw[z1,m1];exact hlm);have sc:scanBound > 1000:=by decide
  have b1:es1.size<scanBound:=by lia
  have r1:=zjs (w:=w) r f1 l1 ⟨T1.asc,T1.dm⟩ b1;have sb1:=Heap.SameBut.update s.heap a (Obj.putSet es1 t1);have hT1:∀p∈(y,b)::ps,TK prog w (s.heap.update a (Obj.putSet es1 t1)) p.1 p.2:=λp hp'=>by
   rcases List.mem_cons.mp hp' with rfl | hp'
   ·exact TK.but hk r sb1
   ·exact TK.but (hT p hp') r sb1
  have tail:wpAny (model prog w) A (do
    storeSet a es1 t1
    if (!false&&t1.tooFull)=true then do
     setRelay a (SetTable.grown (es.size+1))
     pure true
    else pure true) Q E s:=by
   refine wpAny_bind (zfM r b1 ?_);have hfull:t1.tooFull=decide ((es.size+1)*5>=t.mask*3):=by
    unfold SetTable.tooFull SetTable.fill;rw[T1.sz,T1.dm,m1,z1];rfl
   by_cases hf:(es.size+1)*5>=t.mask*3
   ·rw[hfull,decide_eq_true hf];simp only[Bool.not_false,Bool.and_true,if_true];unfold setRelay;have hgr:∃m,SetTable.sizeAbove (SetTable.grown (es.size+1))=m+1/\((m=31/\es.size+1=5)\/(m=127/\es.size+1=19)):=by
     rcases T.msk with e | e | e
     ·have:=F.a e;have e5:es.size=4:=by lia
      rw[e5];exact⟨31,by decide,.inl ⟨rfl,rfl⟩⟩
     ·have:=F.b e;have e5:es.size=18:=by lia
      rw[e5];exact⟨127,by decide,.inr ⟨rfl,rfl⟩⟩
     ·lia
    obtain⟨m,g1,g2⟩:=hgr;obtain⟨t2,order,e1,e2,e3,e4,T2⟩:=zko (t:=t1) (es:=es1) (n:=SetTable.grown (es.size+1)) (by rw[g1];rcases g2 with ⟨z,_⟩ | ⟨z,_⟩<;>rw[z]<;>simp[okM]) (by rw[g1,z1];lia)
    have z2:(order.filterMap (es1[·]?)).size=es1.size:=by rw[<- Array.length_toList,e2.length_eq,Array.length_toList]
    refine wpAny_bind (wpAny_bind (zaB r1 ?_));dsimp only;have hsl:¬ SetTable.sizeAbove (SetTable.grown (es.size+1)) > sizeLine:=by
     rw[g1];have:sizeLine > 1000:=by decide
     rcases g2 with ⟨z,_⟩ | ⟨z,_⟩<;>lia
    rw[if_neg hsl,e1];refine wpAny_bind ?_;show wpAny _ _ (if ((order.filterMap (es1[·]?)).size != es1.size)=true then _ else _) _ _ _
    rw[if_neg (by rw[z2];simp)];refine wpAny_pure (zfM (s:={ s with heap:=s.heap.update a (Obj.putSet es1 t1) }) r1 (by rw[z2];exact b1) (wpAny_pure ?_));have f2:t2.fits (order.filterMap (es1[·]?)).size=true:=zmJ T2 (by rw[z2,z1,e3,g1];lia);have r2:=zjs (w:=w) r1 f2 e4 ⟨T2.asc,T2.dm⟩ (by rw[z2];exact b1);have sb2:=Heap.SameBut.update (s.heap.update a (Obj.putSet es1 t1)) a (Obj.putSet (order.filterMap (es1[·]?)) t2);refine h _ true (sb1.trans sb2) ⟨_,_,t2,r2,T2,⟨by lia,λe=>?_,λe=>?_⟩,e2.trans p1,λp hp'=>TK.but (hT1 p hp') r1 sb2,nd1⟩
    ·rw[e3,g1]at e;lia
    ·rw[e3,g1]at e;lia
   ·rw[hfull,decide_eq_false hf];simp only[Bool.not_false,Bool.and_false,Bool.false_eq_true,if_false];exact wpAny_pure (h _ true sb1 ⟨es1,_,t1,r1,T1,⟨by lia,λe=>by rw[m1]at e;rw[e]at hf;lia,λe=>by rw[m1]at e;rw[e]at hf;lia⟩,p1,hT1,nd1⟩)
  cases hpl:t1.plain with
  | true=>
   simp only[if_true];refine wpAny_bind (zqG hk ?_);exact tail
  | false=>
   simp only[Bool.false_eq_true,if_false];refine wpAny_bind (wpAny_pure ?_);exact tail
end
theorem zlM {prog:Program}{w:World}{h:Heap}{a:Addr}(e:h.get? a=some (zbe w)):HSet prog w h a []:=by
 refine⟨#[],0,_,⟨⟨_,e,⟨rfl,rfl,rfl⟩,rfl⟩,by rfl,?_,List.Pairwise.nil,rfl,by decide⟩,TabS.fresh _ _ _,⟨by decide,λ_=>by decide,λ_=>by decide⟩,by simp,λp hp=>(by cases hp),List.nodup_nil⟩;show(!byText w)=true\/byText w=true;cases byText w
 ·exact .inl rfl
 ·exact .inr rfl
section
variable {prog:Program}{w:World}{A:Around}{R:Result->Shared->Prop}{I:Addr}{fp wr:List Addr}{G:Array GenState->Array GenState->Prop}{n:Nat}{P:Nat->Value->Prop}{St:Nat->Shared->Prop}
theorem zgd (hu:A.in1.units<cLine)(W:WalksS prog w A.in1 I fp wr G n P St)(S:Addr)(hSf:S∉fp)(ps:List PA2)(hn:ps.length=n)(hval:∀i v,P i v->∃p,ps[i]? = some p/\v=.ref p.2)(hw:∀p∈ps,p.2∉S::wr)(hb:n<=76) :
  ∀(k i:Nat) (s:Shared),n-i=k->i<=n->St i s->(∀p∈ps,TK prog w s.heap p.1 p.2)->HSet prog w s.heap S ((ps.take i).foldl addP [])->
   (∀s',Moved (S::wr) G s s'->HSet prog w s'.heap S (ps.foldl addP [])->R (.ok (.ret .none)) s')->
   codeAny (model prog w) A (.builtin "set.update.loop" ⟨[.ref S,.ref I],[]⟩) R s:=by
 have hSw:S∉wr:=λh=>hSf (W.sub _ h);have hsub:∀i,∀q∈((ps.take i).foldl addP []),q∈ps:=λi q hq=>by
  rcases zdW _ _ q hq with z | z
  ·cases z
  ·exact List.mem_of_mem_take z
 intro k;induction k with
 | zero=>
  intro i s hk hi hst hT hS hR;have hin:i=n:=by lia
  subst hin;refine codeAny_builtin PyProof.Rows.F.entry_set_update_loop ?_;rw[Around.under_plainId PyProof.Rows.F.plain_set_update_loop _];show wpAny _ A.in1 (pyNext (.ref I) >>= _) _ _ s;refine wpAny_bind (W.done s _ _ hst λs' hm=>wpAny_pure (hR s' (hm.mono λb hb=>List.mem_cons_of_mem _ hb) ?_));have hS2:=hS.keep (h':=s'.heap) λb o hb e=>hm.heap b o (by
   rcases hb with rfl | hb
   ·exact hSw
   ·obtain⟨q,hq,rfl⟩:=List.mem_map.mp hb;exact λz=>hw q (hsub i q hq) (List.mem_cons_of_mem _ z)) e
  rw[List.take_of_length_le (by lia)]at hS2;exact hS2
 | succ k ih=>
  intro i s hk hi hst hT hS hR;have hlt:i<n:=by lia
  refine codeAny_builtin PyProof.Rows.F.entry_set_update_loop ?_;rw[Around.under_plainId PyProof.Rows.F.plain_set_update_loop _];show wpAny _ A.in1 (pyNext (.ref I) >>= _) _ _ s;refine wpAny_bind (W.item i s _ _ hlt hst λv s' hP hst' hm=>?_);obtain⟨p,hp,rfl⟩:=hval i v hP;have hpm:p∈ps:=List.mem_of_getElem? hp;have hT':∀p∈ps,TK prog w s'.heap p.1 p.2:=λq hq=>TK.keep (hT q hq) λo e=>hm.heap _ o (λz=>hw q hq (List.mem_cons_of_mem _ z)) e;have hS':=hS.keep (h':=s'.heap) λb o hb e=>hm.heap b o (by
   rcases hb with rfl | hb
   ·exact hSw
   ·obtain⟨q,hq,rfl⟩:=List.mem_map.mp hb;exact λz=>hw q (hsub i q hq) (List.mem_cons_of_mem _ z)) e
  show wpAny _ A.in1 (holding [.ref p.2] (setAdd S (.ref p.2)) >>= _) _ _ s';refine wpAny_bind (wpAny_holding ?_);unfold setAdd;refine wpAny_holding (wpAny_bind (wpAny_pyHash_tuple hu (hT' p hpm) ?_));have hroom:((ps.take i).foldl addP []).length+1<=76:=by
   have q:=zdV (ps.take i) [];rw[List.length_take]at q;simp at q;lia
  refine addT (s:={ s' with toks:=s'.toks+(p.1.length+1) }) hu (hT' p hpm) hS' hroom λh' b hsb hS2=>?_;have hSi:HSet prog w h' S ((ps.take (i+1)).foldl addP []):=by
   rw[List.take_add_one,hp,List.foldl_append];exact hS2
  refine wpAny_pure ⟨plainId_quiet PyProof.Rows.F.plain_set_update_loop _,ih (i+1) _ (by lia) hlt (W.frame _ s' _ _ hst' (Nat.le_add_right _ _) λb hb o e=>?_) (λq hq=>TK.keep (hT' q hq) λo e=>(hsb.2 _ (hS'.ne (hT' q hq))).trans e) hSi λs'' hm'' hS''=>?_⟩
  ·rw[hsb.2 b (λh:b=S=>hSf (by rw[<- h];exact hb))];exact e
  ·refine hR s'' (Moved.trans W.gtrans ((hm.mono λb hb=>List.mem_cons_of_mem _ hb).then_heap (Nat.le_add_right _ _) λb o hb e=>?_) hm'') hS'';rw[hsb.2 b (λh:b=S=>hb (by rw[h];exact List.mem_cons_self))];exact e
end
section
variable {prog:Program}{w:World}{A:Around}{E:Value->Shared->Prop}{s:Shared}
theorem zdX {l:Addr}{ps:List PA2}{Q:Value->Shared->Prop}(hu:A.units+16<cLine)(hh:A.handled=none)(hl:s.heap.IsList l (ps.map λp=>Value.ref p.2).toArray)(hT:∀p∈ps,TK prog w s.heap p.1 p.2)(hb:ps.length<=76)
  (h:∀(h':Heap) (tk:Nat),HSet prog w h' s.heap.objs.size (ps.foldl addP [])->(∀b o,s.heap.get? b=some o->h'.get? b=some o)->Q (.ref s.heap.objs.size) { s with heap:=h',toks:=tk }) :
  wpAny (model prog w) A (call (.type "set") [.ref l]) Q E s:=by
 refine zjt (SP:=λh S=>HSet prog w h S (ps.foldl addP [])) hh hl (λ{A' R I fp wr G P St} W S hA hSf hP hlt s1 kp hst hS hR=>?_) h;refine zgd (by show A'.units+1<_;lia) W S hSf ps (by simp) (λi v hv=>?_) (λp hp=>?_) (by simp;lia) _ 0 s1 rfl (Nat.zero_le _) hst (λp hp=>TK.keep (hT p hp) λo e=>kp _ o e) (zlM hS) hR
 ·have:=hP i v hv;rw[List.getElem?_toArray,List.getElem?_map]at this;cases e:ps[i]? with
  | none=>rw[e]at this;cases this
  | some p=>rw[e]at this;cases this;exact⟨p,rfl,rfl⟩
 ·obtain⟨o,_,_,ho,_⟩:=hT p hp;exact hlt _ (Heap.lt_size ho)
end
open PySem PySem.Spec PyProof.Rows Srt
theorem zeA {α β:Type}{f:α->β}:∀ {l:List β}{m:List α},l.Perm (m.map f)->∃m':List α,m'.Perm m/\l=m'.map f
 | [],m,h=>by
  have:=List.nil_perm.mp h;have:m=[]:=List.map_eq_nil_iff.mp this;subst this;exact⟨[],.refl _,rfl⟩
 | x::l,m,h=>by
  obtain⟨a,ha,rfl⟩:=List.mem_map.mp (h.mem_iff.mp List.mem_cons_self);obtain⟨m1,m2,rfl⟩:=List.append_of_mem ha;have h2:(f a::l).Perm (f a::(m1++m2).map f):=h.trans (by rw[List.map_append,List.map_append,List.map_cons];exact List.perm_middle);obtain⟨m',q1,q2⟩:=zeA ((List.perm_cons _).mp h2);exact⟨a::m',(q1.cons a).trans List.perm_middle.symm,by rw[q2];rfl⟩
noncomputable def RSet (prog:Program)(w:World)(h:Heap)(a:Addr)(ps:List PA2):Prop:=∃es ep t,Rec w h a es ep t/\es.toList.Perm (ps.map (ent prog w))
theorem HSet.rset {prog:Program}{w:World}{h:Heap}{a:Addr}{ps:List PA2}(S:HSet prog w h a ps):RSet prog w h a ps:=by obtain⟨es,ep,t,r,_,_,p,_⟩:=S;exact⟨es,ep,t,r,p⟩
theorem RSet.keep {prog:Program}{w:World}{h h':Heap}{a:Addr}{ps:List PA2}(S:RSet prog w h a ps)(k:∀o,h.get? a=some o->h'.get? a=some o):RSet prog w h' a ps:=by obtain⟨es,ep,t,r,p⟩:=S;exact⟨es,ep,t,r.keep k,p⟩
section
variable {prog:Program}{w:World}{A:Around}{E:Value->Shared->Prop}{s:Shared}{a:Addr}
theorem zgQ {ps:List PA2}{Q:Value->Shared->Prop}(hh:A.handled=none)(S:RSet prog w s.heap a ps)(hT:∀p∈ps,TupAt s.heap (.ref p.2) p.1/\p.1≠[])(hsz:ps.length<=sizeLine)
  (h:∀(h1 h':Heap) (d:Drawn) (tk:Nat) (us:List (Addr×List Int)) (e:Nat),us.Perm (ps.map λp=>(p.2,p.1))->(us.map (·.2)).Pairwise (λx y=>ltI y x=false)->(∀b o,s.heap.get? b=some o->h1.get? b=some o)->(∀b o,h1.get? b=some o->h'.get? b=some o)->h'.get? h1.objs.size=some { cls:=.type "list",data:=.seq (refsOf us).toArray e }->
   Q (.ref h1.objs.size) { s with heap:=h',drawn:=d,toks:=tk }):wpAny (model prog w) A (call (.builtin "sorted") [.ref a]) Q E s:=by
 refine Calls.call_function_entry kind_sorted plain_sorted entry_sorted (args_sorted1 _) ?_;unfold Builtin.«sorted»;refine wpAny_bind (m:=checkCount "sorted" 1 1 _) (wpAny_pure ?_);obtain⟨es,ep,t,r,hp⟩:=S;refine wpAny_bind (zgG (by simpa using hh) r λh1 d tk order ho kp=>?_);have ho2:order.Perm ((ps.map λp=>(p.2,p.1)).map λu:Addr×List Int=>Value.ref u.1):=by
  refine ho.trans ((hp.map _).trans ?_);rw[List.map_map,List.map_map];exact .refl _
 obtain⟨us,hu,rfl⟩:=zeA ho2;have hlen:us.length=ps.length:=by rw[hu.length_eq,List.length_map]
 refine wpAny_bind (wpAny_newList ?_);have hoL:(h1.push (seqObj "list" (refsOf us).toArray 0)).get? h1.objs.size=some (seqObj "list" (refsOf us).toArray 0):=Heap.get?_push_size _ rfl;refine wpAny_bind (wpAny_holding (wpAny_call_entry slot_list_sort ⟨_,hoL,rfl⟩ entry_list_sort (zfi (s:={ s with heap:=h1.push (seqObj "list" (refsOf us).toArray 0),drawn:=d,toks:=tk }) hoL (λu hu'=>?_) (by lia) λus' a1 a2=>⟨_,rfl,?_⟩) (args_list_sort _)))
 ·obtain⟨p,hp',rfl⟩:=List.mem_map.mp (hu.mem_iff.mp hu');obtain⟨⟨b,o,vs,m,e,hb,c⟩,z⟩:=hT p hp';exact⟨⟨b,o,vs,m,e,Heap.get?_push_of_some _ (kp b o hb),c⟩,z⟩
 ·obtain⟨e,he⟩:=sortedHeap_at (out:=(refsOf us').toArray) hoL;refine wpAny_pure ⟨_,rfl,h h1 _ d tk us' e (a1.trans hu) a2 kp (λb o hb=>?_) he⟩;have hlt:b<h1.objs.size:=Heap.lt_size hb;rw[sortedHeap_old (Nat.ne_of_lt hlt) (by rw[size_push'];exact Nat.lt_succ_of_lt hlt)];exact Heap.get?_push_of_some _ hb
end
end JS
namespace L2
open PySem PySem.Spec PyProof.Rows
theorem zhU {P:Program}{w:World}:∀ {ns:List Int}{its:List Value},Vals (ns.map V.int) its->ItemsAre (PySem.intKind P w) ns its
 | [],_,r=>by cases r;exact .nil
 | n::ns,_,r=>by
  cases r with
  | cons r1 r2=>
   obtain⟨t,rfl⟩:=(show ∃t,_=Value.int n t from r1);exact .cons (intKind_is _ _ n t) (zhU r2)
noncomputable def zgR (P:Program)(w:World)(a:Addr)(ps:List JS.PA2):HO:=.ext λh=>JS.RSet P w h a ps
noncomputable abbrev swp (us:List (Addr×List Int)):List JS.PA2:=us.map λu=>(u.2,u.1)
section
variable {X:Cx}
theorem zdX (hu:X.A.units+16<cLine)(hc:X.calm=true):zbF X (.type "set") (λxs H Q=>∃(p:Addr) (us:List (Addr×List Int)),xs=[.ref p]/\SqL X.K H p (us.map λu=>V.ref u.1)/\(∀u∈us,SqT X.K H u.1 (u.2.map V.int))/\us.length<=76/\∀l,H l=none->Q (.ref l) (upd H l (zgR X.prog X.w l ((swp us).foldl JS.addP [])))):=by
 intro pins s σ H xs us Q I r h;obtain⟨p,us,rfl,hp,hT,hz,q⟩:=h;obtain⟨u,rfl,rx⟩:=vals1 r;cases rx;obtain⟨its,r,ht,_⟩:=I.list hp;have ei:=zdR r;subst ei;have er:Srt.refsOf us=(swp us).map λp=>Value.ref p.2:=by unfold swp;rw[List.map_map];rfl
 refine JS.zdX (ps:=swp us) hu (I.ok.hd hc) (by rw[<- er];exact ht.isList) (λp hp'=>?_) (by unfold swp;rw[List.length_map];exact hz) λh' tk hS kp=>?_
 ·obtain⟨u,hu,rfl⟩:=List.mem_map.mp hp';obtain⟨its2,rv,⟨o,ho,hc,n,hd⟩,_⟩:=I.tuple (hT u hu);exact⟨o,_,n,ho,hc,hd,zhU rv⟩
 ·refine⟨.ref s.heap.objs.size,_,I.laid (t':=tk) (o:=zgR X.prog X.w s.heap.objs.size ((swp us).foldl JS.addP [])) kp (Nat.le_refl _) ?_,rfl,q _ I.fresh⟩;have hS:=hS.rset;obtain⟨es,ep,t,rc,_⟩:=id hS;obtain⟨o,ho,_⟩:=rc.obj;exact⟨hS,⟨o,ho⟩,λh1 h2 hs k=>JS.RSet.keep hs k⟩
theorem zfm (hc:X.calm=true):zbF X (.builtin "sorted") (λxs H Q=>∃(p:Addr) (ps:List JS.PA2),xs=[.ref p]/\H p=some (zgR X.prog X.w p ps)/\(∀u∈ps,SqT X.K H u.2 (u.1.map V.int)/\u.1≠[])/\ps.length<=76/\
  ∀(l:Addr) (us:List (Addr×List Int)),H l=none->us.Perm (ps.map λp=>(p.2,p.1))->(us.map (·.2)).Pairwise (λx y=>Srt.ltI y x=false)->Q (.ref l) (upd H l (.lst (us.map λu=>V.ref u.1)))):=by
 intro pins s σ H xs us Q I r h;obtain⟨p,ps,rfl,hp,hT,hz,q⟩:=h;obtain⟨u,rfl,rx⟩:=vals1 r;cases rx;obtain⟨hS,_,_⟩:=(show zby X.prog X.w H s.heap p (zgR X.prog X.w p ps) from I.hok p _ hp);have hsl:=sizeLine_eq;refine JS.zgQ (I.ok.hd hc) hS (λu hu=>?_) (by lia) λh1 h' d tk us e a1 a2 kp kp' he=>?_
 ·obtain⟨g1,g2⟩:=hT u hu;obtain⟨its2,rv,⟨o,ho,hc,n,hd⟩,_⟩:=I.tuple g1;exact⟨⟨u.2,o,its2,n,rfl,ho,hc,hd,ints_of rv⟩,g2⟩
 ·have I1:Inv X pins σ H { s with heap:=h1,drawn:=d,toks:=tk }:=I.call' (ch:=[]) rfl (Un.kept kp) (I.hok.kept kp) I.bare (λ_ z=>nomatch z);have hl2:us.length=ps.length:=by rw[a1.length_eq,List.length_map]
  refine⟨.ref h1.objs.size,_,I1.laid (h':=h') (t':=tk) (o:=.lst (us.map λu=>V.ref u.1)) kp' (Nat.le_refl _) ?_,rfl,q _ us (I1.hok.fresh (Nat.le_refl _)) a1 a2⟩;exact⟨by rw[List.length_map];lia,Srt.refsOf us,e,zdS us,he⟩
end
end L2
namespace PL
open PySem PySem.Spec L2
open PyProof.Rows hiding St
section
variable {X:Cx}{e:Expr}{te:TPE}{p p2 pos pos2:Pos}
noncomputable def zdY (te:TPE):TPE:=λρ Q=>te ρ λd _=>∃ss:List (List Int),d=.lst (ss.map λr=>PV.tup (r.map PV.int))/\(∀r∈ss,r≠[])/\ss.length<=76/\∀zs:List (List Int),zs.Nodup->zs.Pairwise (λx y=>Srt.ltI y x=false)->(∀x,x∈zs↔x∈ss)->Q (.lst (zs.map λr=>PV.tup (r.map PV.int))) .new
theorem zeB:∀(qs ps:List JS.PA2),(ps.map (·.1)).Nodup->((qs.foldl JS.addP ps).map (·.1)).Nodup
 | [],_,h=>h
 | q::qs,ps,h=>by
  rw[List.foldl_cons];refine zeB qs _ ?_;unfold JS.addP;split
  ·exact h
  ·rename_i hy
   exact List.nodup_cons.mpr ⟨hy,h⟩
theorem zgS (hu:X.A.units+16<cLine)(hc:X.calm=true)(hg:Gl X "sorted") (hm:X.mg "sorted" = none) (hg2:Gl X "set") (hm2:X.mg "set" = none) (he:PuE X e te)
  (hs1:autoParam (starEach [e] X.env=(false,eval e X.env)::starEach [] X.env) aU0) (hpl1:autoParam ((backTo pos2 (starEach [] X.env)).any (·.1)=false) aU0)
  (hs2:autoParam (starEach [Expr.Call (.Name "set" p2) [e] [] pos2] X.env=(false,eval (Expr.Call (.Name "set" p2) [e] [] pos2) X.env)::starEach [] X.env) aU0) (hpl2:autoParam ((backTo pos (starEach [] X.env)).any (·.1)=false) aU0) :
  PuE X (.Call (.Name "sorted" p) [.Call (.Name "set" p2) [e] [] pos2] [] pos) (zdY te) where
 mono ρ Q Q' m h:=he.mono ρ _ _ (λd k q93q=>by obtain⟨ss,e1,e2,e3,q⟩:=q93q;exact⟨ss,e1,e2,e3,λzs h1 h2 h3=>m _ _ (q zs h1 h2 h3)⟩) h
 run:=PE.weak (zcx (zfm hc) hg hm zjO (zaE (zdB (zdX hu hc) hg2 hm2 bSet (zaE he.run zbU hs1) (by decide) (by decide) hs1 hpl1) zbU hs2) (by decide) (by decide) hs2 hpl2) λσ H Q h=>by
  obtain⟨ρ,Fz,R,h⟩:=h;refine⟨ρ,Fz,R,he.mono ρ _ _ (λd k q v F1 H1 p1=>?_) h⟩;obtain⟨ss,rfl,e2,e3,q⟩:=q;obtain⟨a,xs,rfl,h1,h2⟩:=zai (p1.root R);obtain⟨us,rfl,g2,g3⟩:=zdT h2;have hlen:us.length=ss.length:=by rw[<- g2,List.length_map]
  have hmem:∀u∈(swp us).foldl JS.addP [],(u.2,u.1)∈us:=λu hu=>by
   rcases JS.zdW _ _ u hu with z | z
   ·cases z
   ·obtain⟨v,hv,rfl⟩:=List.mem_map.mp z;exact hv
  refine⟨a,us,rfl,h1,λu hu=>SqT.of (g3 u hu),by lia,λst hst=>?_⟩;have hne:∀u∈us,u.1≠st:=λu hu z=>by have:=g3 u hu;rw[z,hst]at this;cases this
  have hq1:=JS.zdV (swp us) [];unfold swp at hq1;rw[List.length_map]at hq1;simp only[List.length_nil,Nat.zero_add]at hq1;have x2:Ext F1 H1 F1 (upd H1 st (zgR X.prog X.w st ((swp us).foldl JS.addP []))):=Ext.laid ⟨Same.refl _,λ_ h=>h,λ_ h=>.inl h,p1.ext.al⟩ hst;refine⟨st,_,rfl,zat,λu hu=>⟨SqT.of (by rw[zao (hne _ (hmem u hu))];exact g3 _ (hmem u hu)),e2 _ (by rw[<- g2];exact List.mem_map.mpr ⟨_,hmem u hu,rfl⟩)⟩,by unfold swp;lia,λl us' hl hz hs=>?_⟩;have hmem':∀u∈us',u∈us:=λu hu=>by
   obtain⟨p,hp,rfl⟩:=List.mem_map.mp (hz.mem_iff.mp hu);exact hmem p hp
  have hk:(us'.map (·.2)).Perm (((swp us).foldl JS.addP []).map (·.1)):=by
   have:=hz.map (·.2);rw[List.map_map]at this;exact this
  have p3:Post X.K [] [] F1 (upd H1 st (zgR X.prog X.w st ((swp us).foldl JS.addP []))) F1 (upd (upd H1 st (zgR X.prog X.w st ((swp us).foldl JS.addP []))) l (.lst (us'.map λu=>V.ref u.1))) (.lst ((us'.map (·.2)).map λr=>PV.tup (r.map PV.int))) .new (.ref l):=
   Post.newL x2.al hl (zdU us' λu hu=>by rw[zao (hne _ (hmem' u hu))];exact g3 _ (hmem' u hu))
  refine q (us'.map (·.2)) (hk.nodup_iff.mpr (zeB _ _ List.nodup_nil)) hs (λx=>?_) _ F1 _ (p3.behind (p1.ext.trans x2));rw[hk.mem_iff,JS.zez,<- g2];unfold swp;rw[List.map_map];constructor
  ·rintro(z | z)
   ·cases z
   ·exact z
  ·exact .inr
end
section
variable {X:Cx}{a b e o:Expr}{ta tb te to:TPE}{es:List Expr}{t:TPA}{p pos apos cpos:Pos}
noncomputable def zpE:R2:=λx y H Q=>∃u v,x=.str u/\y=.str v/\u.length+v.length<=sizeLine/\Q (.str (u++v)) H
theorem znJ:OpR X (binaryOp .Add) zpE:=by
 intro pins s σ H x y v u Q I rx ry h;obtain⟨a,b,rfl,rfl,hz,q⟩:=h;obtain⟨t1,rfl⟩:=rx;obtain⟨t2,rfl⟩:=ry;exact PyProof.Rows.add_str (λt' tk=>⟨.str (a++b),H,I.tok tk,⟨t',rfl⟩,q⟩) hz
noncomputable def zem:P2:=λd e Q=>∃u v,d=.str u/\e=.str v/\u.length+v.length<=sizeLine/\Q (.str (u++v)) .frz
theorem znK {K:PySem.W.Frag}:POp K zpE zem where
 mono d e Q Q' m h:=by obtain⟨u,v,e1,e2,z,q⟩:=h;exact⟨u,v,e1,e2,z,m _ _ q⟩
 run Fz H x y d e Q al rx ry h:=by
  obtain⟨u,v,rfl,rfl,z,q⟩:=h;exact⟨u,v,zal rx,zal ry,z,q _ Fz H (.val al (by simp only[Den]))⟩
theorem zdZ (ha:PuE X a ta)(hb:PuE X b tb):PuE X (.BinOp a .Add b pos) (t2 zem ta tb):=zeh znJ znK ha hb
theorem zpF {to te:TE}{name:Str}{id:String}{r:V->List V->Hp->VK->Prop}(slot:Slot "str" name id) (hty:typeOf (.builtin id)=pure (.type "method_descriptor")) (hm:MtR X id r) (ho:PE X o to) (he:PE X e te)
  (m:M1 X o name apos e cpos):PE X (.Call (.Attribute o name apos) [e] [] cpos) (λσ H Q=>to σ H λx H1=>∃y,x=.str y/\te σ H1 λz H2=>r x [z] H2 Q):=by
 intro pins s σ H Q I h;refine wpAny_Call_method m.base m.few m.line PySem.F.plainAttrs_str slot hty (thn (ho pins s σ H _ I h) λu s1 q94q=>?_);obtain⟨x,H1,I1,rx,y,ex,q1⟩:=q94q;subst ex;have rx':=rx;obtain⟨tk,rfl⟩:=rx;refine⟨typeIs_str _ _ _,(λb q=>nomatch q),?_⟩;rw[m.trees];refine Calls.callWith_builtin rfl (Calls.evalArgs_plain (Calls.spliced_cons (thn (he pins s1 σ H1 _ I1 q1) λiv s2 q95q=>Calls.spliced_nil ?_)));obtain⟨z,H2,I2,rz,q2⟩:=q95q;exact hm pins s2 σ H2 (.str y) [z] (.str y tk) [iv] Q I2 rx' (.cons rz .nil) q2
end
noncomputable abbrev PFB:=List PV->(List PV->Prop)->Prop
section
variable {X:Cx}{e:Expr}{te:TPE}{lo hi:Option Expr}{tl th:TPO}{pos p2:Pos}
theorem zge {st:Stmt}:PuS X st (λ_ _=>False) where
 mono ρ O O' m h:=h
 run:=λpins s σ H D I h=>by obtain⟨_,_,_,z⟩:=h;exact z.elim
end
noncomputable def hide (S:List Addr)(h:Heap):Heap:={ h with objs:=h.objs.mapIdx λi o=>if i∈S then { o with data:=.freed } else o }
theorem zgT {S:List Addr}{h:Heap}{b:Addr}(hb:b∈S):(hide S h).get? b=none:=by
 unfold hide Heap.get?;simp only[Array.getElem?_mapIdx];cases h.objs[b]? with
 | none=>rfl
 | some o=>simp only[Option.map_some,if_pos hb]
theorem zdu {S:List Addr}{h:Heap}{b:Addr}(hb:b∉S):(hide S h).get? b=h.get? b:=by
 unfold hide Heap.get?;simp only[Array.getElem?_mapIdx];cases h.objs[b]? with
 | none=>rfl
 | some o=>simp only[Option.map_some,if_neg hb]
theorem ziB {S:List Addr}{h:Heap}:(hide S h).StaysIn h:=λb o e=>by
 by_cases hb:b∈S
 ·rw[zgT hb]at e;cases e
 ·rw[zdu hb]at e;exact e
noncomputable def ExcAt (h0:Heap)(H:Hp)(h:Heap)(a:Addr)(cls:Value)(T:Addr)(fl:Value):Prop:=
 h0.get? a=none/\H a=none/\h0.get? T=none/\H T=none/\T≠a/\∃oe vs oT ts a0,h.get? a=some oe/\oe.cls=cls/\oe.data=.fields vs/\vs[0]? = some a0/\vs[1]? = some (.ref T)/\h.get? T=some oT/\oT.data=.fields ts/\ts[3]? = some fl
structure zcc (fs:List Addr)(a T:Addr)(h h':Heap):Prop where
 keep:∀b o,h.get? b=some o->b≠a->b≠T->b∉fs->h'.get? b=some o
 slot:∀b o,h.get? b=some o->b∈fs->∃sl,h'.get? b=some { o with slots:=sl }
 there:∀b o,h.get? b=some o->∃o',h'.get? b=some o'
theorem zcc.refl {fs:List Addr}{a T:Addr}{h:Heap}:zcc fs a T h h:=⟨λ_ _ e _ _ _=>e,λ_ o e _=>⟨o.slots,e⟩,λ_ o e=>⟨o,e⟩⟩
theorem zcc.trans {fs:List Addr}{a T T':Addr}{h1 h2 h3:Heap}(x:zcc fs a T h1 h2)(w:T'=T\/h1.get? T'=none)(y:zcc fs a T' h2 h3):zcc fs a T h1 h3:=
 ⟨λc o e n1 n2 nf=>y.keep c o (x.keep c o e n1 n2 nf) n1 (λz=>by
  rcases w with w | w
  ·exact n2 (z.trans w)
  ·rw[<- z,e]at w;cases w) nf,λc o e hc=>by
  obtain⟨sl,e1⟩:=x.slot c o e hc;obtain⟨sl2,e2⟩:=y.slot c _ e1 hc;exact⟨sl2,e2⟩,λc o e=>by obtain⟨o1,e1⟩:=x.there c o e;exact y.there c o1 e1⟩
theorem zcc.funs {fs:List Addr}{a T:Addr}{h h' base:Heap}(x:zcc fs a T h h'){l:List Env}(hl:h.FunFrames base l)(na:a∉frs l)(nT:T∉frs l):h'.FunFrames base l:=by
 induction l with
 | nil=>trivial
 | cons env rest ih=>
  obtain⟨hk,⟨L,o,hf,hn,ho,hd⟩,hr⟩:=hl;unfold frs at na nT;rw[List.filterMap_cons,hf]at na nT;obtain⟨na1,na2⟩:=not_or.mp (λz=>na (List.mem_cons.mpr z));obtain⟨nT1,nT2⟩:=not_or.mp (λz=>nT (List.mem_cons.mpr z));refine⟨hk,?_,ih hr na2 nT2⟩;by_cases hb:L∈fs
  ·obtain⟨sl,e1⟩:=x.slot L o ho hb;exact⟨L,_,hf,hn,e1,hd⟩
  ·exact⟨L,o,hf,hn,x.keep L o ho (Ne.symm na1) (Ne.symm nT1) hb,hd⟩
theorem zgf {h base:Heap}{S:List Addr}:∀ {l:List Env},h.FunFrames base l->(∀b∈frs l,b∈S)->h.FunFrames (hide S h) l
 | [],_,_=>trivial
 | env::rest,⟨hk,⟨L,o,hf,hn,ho,hd⟩,hr⟩,hs=>by
  have hL:L∈frs (env::rest):=by unfold frs;rw[List.filterMap_cons,hf];exact List.mem_cons_self ..
  refine⟨hk,⟨L,o,hf,zgT (hs L hL),ho,hd⟩,zgf hr λb hb=>hs b ?_⟩;unfold frs at hb ⊢;rw[List.filterMap_cons,hf];exact List.mem_cons_of_mem _ hb
theorem HOk.there {P:Program}{w:World}{H:Hp}{h:Heap}(x:HOk P w H h){a:Addr}{o:HO}(e:H a=some o):∃ob,h.get? a=some ob:=by
 have q:=x a o e;cases o with
 | lst xs=>obtain⟨_,_,_,_,e⟩:=q;exact⟨_,e⟩
 | tup xs=>obtain⟨_,_,_,o,e,_⟩:=q;exact⟨_,e⟩
 | dK kvs=>obtain⟨_,_,_,_,o,_,_,e,_⟩:=q;exact⟨_,e⟩
 | dT kvs=>obtain⟨_,_,_,_,o,_,_,e,_⟩:=q;exact⟨_,e⟩
 | set S n=>obtain⟨o,_,_,_,e,_⟩:=q;exact⟨_,e⟩
 | ins C dx fs=>obtain⟨_,_,_,e,_⟩:=q;exact⟨_,e⟩
 | own y=>obtain⟨_,e⟩:=q;exact⟨_,e⟩
 | xd fs=>obtain⟨_,⟨_,_,_,e,_⟩,_⟩:=q;exact⟨_,e⟩
 | rng lo hi=>obtain⟨_,_,_,e⟩:=q;exact⟨_,e⟩
 | frz ob u=>obtain⟨e,_⟩:=q;exact⟨_,e⟩
 | tbl ps=>exact⟨_,show h.get? a=some _ from q⟩
 | met f y=>exact⟨_,show h.get? a=some _ from q⟩
 | ext φ=>obtain⟨_,⟨_,e⟩,_⟩:=q;exact⟨_,e⟩
section
variable {M:Model}{A:Around}{E:Value->Shared->Prop}{s:Shared}{h0:Heap}{H:Hp}{a T:Addr}{cls fl:Value}{env:Env}{outer:List Env}{base:Heap}{L:Addr}
theorem zeC {env env':Env}(h:env.frame=env'.frame)(e:Value):noteFrame e env=noteFrame e env':=by
 unfold noteFrame PySem.frameOf;rw[h]
theorem ExcAt.nofr (hx:ExcAt h0 H s.heap a cls T fl){l:List Env}(hl:s.heap.FunFrames base l):a∉frs l/\T∉frs l:=by
 obtain⟨ha,hHa,hT,hHT,hTa,oe,vs,oT,ts,a0,he,hc,hd,h0,h1,hgT,hdT,h3⟩:=hx;refine⟨λhm=>?_,λhm=>?_⟩
 ·obtain⟨_,o,e,nd⟩:=hl.mem hm;rw[he]at e;cases e;exact nd _ hd
 ·obtain⟨_,o,e,nd⟩:=hl.mem hm;rw[hgT]at e;cases e;exact nd _ hdT
theorem setT {x:Value}(hx:ExcAt h0 H s.heap a cls T fl){l:List Env}(nf:T∉frs l):zcc (frs l) a T s.heap (s.heap.update T (Obj.mapFields (·.setIfInBounds 3 x)))/\ExcAt h0 H (s.heap.update T (Obj.mapFields (·.setIfInBounds 3 x))) a cls T x:=by
 obtain⟨ha,hHa,hT,hHT,hTa,oe,vs,oT,ts,a0,he,hc,hd,h0,h1,hgT,hdT,h3⟩:=hx;have hsz3:3<ts.size:=(Array.getElem?_eq_some_iff.mp h3).1;refine⟨⟨λb o e n1 n2 nb=>?_,λb o e hb=>⟨o.slots,?_⟩,λb o e=>?_⟩,⟨ha,hHa,hT,hHT,hTa,oe,vs,_,_,a0,(Heap.get?_update_other _ _ hTa).trans he,hc,hd,h0,h1,Heap.get?_update_self _ hgT (Obj.isFreed_of_fields (Obj.data_mapFields hdT _)),Obj.data_mapFields hdT _,by simp[hsz3]⟩⟩
 ·rw[Heap.get?_update_other _ _ (Ne.symm n2)];exact e
 ·have ne:T≠b:=λz=>nf (z▸hb);rw[Heap.get?_update_other _ _ ne];exact e
 ·by_cases ne:T=b
  ·subst ne;exact⟨_,Heap.get?_update_self _ hgT (Obj.isFreed_of_fields (Obj.data_mapFields hdT _))⟩
  ·exact⟨o,by rw[Heap.get?_update_other _ _ ne];exact e⟩
theorem zhV {f:Option Addr}{Q:Unit->Shared->Prop}(hx:ExcAt h0 H s.heap a cls T fl){l:List Env}(nf:T∉frs l)
  (h:∀h' fl',zcc (frs l) a T s.heap h'->ExcAt h0 H h' a cls T fl'->Q () { s with heap:=h' }):wpAny M A (setFlight (.ref a) f) Q E s:=by
 obtain⟨x1,x2⟩:=setT (l:=l) (x:=f.elim Value.none λx=>rawInt x) hx nf;obtain⟨ha,hHa,hT,hHT,hTa,oe,vs,oT,ts,a0,he,hc,hd,h00,h1,hgT,hdT,h3⟩:=hx;have hsz3:3<ts.size:=(Array.getElem?_eq_some_iff.mp h3).1;unfold setFlight;refine wpAny_bind (wpAny_field he hd h1 ?_);rw[if_pos (show(Value.ref T != Value.none)=true from by simp)];exact wpAny_setField hgT hdT hsz3 (h _ _ x1 x2)
theorem zkp {Q:Unit->Shared->Prop}{oe:Obj}{vs:Array Value}{a0 head:Value}{hadNext:Bool}(hfr:A.frames=some (env::outer))(hl:s.heap.FunFrames base (env::outer))(hf:env.frame=some L)
  (ha:h0.get? a=none) (hHa:H a=none) (he:s.heap.get? a=some oe) (hd:oe.data=.fields vs) (hs0:vs[0]? = some a0) (hs1:1<vs.size)
  (old:∀b,h0.get? b≠none\/H b≠none->∃o,s.heap.get? b=some o)
  (h:∀h' T' fl',s.heap.get? T'=none->(∀T,zcc (frs (env::outer)) a T s.heap h')->ExcAt h0 H h' a oe.cls T' fl'->Q () { s with heap:=h' }) :
  wpAny M A (do let fo <- PySem.frameOf env;let pl <- entryPlaceOf L hadNext;let en <- EntryCells.newEntry head fo .none (rawInt L) .none pl;setField (.ref a) 1 en) Q E s:=by
 refine wpAny_entryW (base:=hide (a::frs (env::outer)) s.heap) hfr (zgf hl λb hb=>List.mem_cons_of_mem _ hb) hf he ziB (zgT (List.mem_cons_self ..)) hd hs1 hs0 λh' hN=>?_;obtain⟨k1,k2,⟨oe3,vs3,T3,oT3,ts3,he3,⟨hc3,h03⟩,hd3,h13,hnT3,hTe3,hgT3,hdT3,h33⟩,k4⟩:=hN;have nT3:T3∉frs (env::outer):=λhm=>by
  obtain⟨_,o,e,nd⟩:=k2.mem hm;rw[hgT3]at e;cases e;exact nd _ hdT3
 have fresh3:s.heap.get? T3=none:=by
  rw[zdu (λy=>by
   rcases List.mem_cons.mp y with y | y
   ·exact hTe3 y
   ·exact nT3 y)]at hnT3
  exact hnT3
 have hT3:h0.get? T3=none/\H T3=none:=by
  refine⟨?_,?_⟩
  ·cases q:h0.get? T3 with
   | none=>rfl
   | some o=>obtain⟨o',e⟩:=old T3 (.inl (by rw[q];exact λz=>nomatch z));rw[fresh3]at e;cases e
  ·cases q:H T3 with
   | none=>rfl
   | some o=>obtain⟨o',e⟩:=old T3 (.inr (by rw[q];exact λz=>nomatch z));rw[fresh3]at e;cases e
 refine h h' T3 _ fresh3 (λT=>⟨λb o e n1 n2 nb=>?_,λb o e hb=>?_,λb o e=>?_⟩) ⟨ha,hHa,hT3.1,hT3.2,hTe3,oe3,vs3,oT3,ts3,a0,he3,hc3,hd3,h03,h13,hgT3,hdT3,h33⟩
 ·refine k1 b o ?_;rw[zdu λy=>?_]
  ·exact e
  ·rcases List.mem_cons.mp y with y | y
   ·exact n1 y
   ·exact nb y
 ·obtain⟨_,o2,e2,nd⟩:=hl.mem hb;rw[e]at e2;cases e2;exact k4 b o e nd
 ·by_cases y:b∈a::frs (env::outer)
  ·rcases List.mem_cons.mp y with y | y
   ·subst y;exact⟨_,he3⟩
   ·obtain⟨_,o2,e2,nd2⟩:=hl.mem y;rw[e]at e2;cases e2;obtain⟨sl,e2⟩:=k4 b o e nd2;exact⟨_,e2⟩
  ·exact⟨o,k1 b o (by rw[zdu y];exact e)⟩
theorem zmK {Q:Unit->Shared->Prop}(hfr:A.frames=some (env::outer))(hl:s.heap.FunFrames base (env::outer))(hf:env.frame=some L)(hx:ExcAt h0 H s.heap a cls T fl)
  (old:∀b,h0.get? b≠none\/H b≠none->∃o,s.heap.get? b=some o)
  (h:∀h' T' fl',(T'=T\/s.heap.get? T'=none)->zcc (frs (env::outer)) a T s.heap h'->ExcAt h0 H h' a cls T' fl'->Q () { s with heap:=h' }):wpAny M A (noteFrame (.ref a) env) Q E s:=by
 have nf:=hx.nofr hl;obtain⟨x1,x2⟩:=setT (l:=env::outer) (x:=Value.none) hx nf.2;have hx':=hx;obtain⟨ha,hHa,hT,hHT,hTa,oe,vs,oT,ts,a0,he,hc,hd,h00,h1,hgT,hdT,h3⟩:=hx;have hsz3:3<ts.size:=(Array.getElem?_eq_some_iff.mp h3).1;unfold noteFrame;simp only[hf];refine wpAny_bind (wpAny_field he hd h1 ?_);rw[if_pos (show(Value.ref T != Value.none)=true from by simp)];refine wpAny_bind (wpAny_field hgT hdT h3 ?_);by_cases hq:(fl == rawInt L)=true
 ·rw[if_pos hq];exact wpAny_pure (h _ _ _ (.inl rfl) .refl hx')
 rw[if_neg hq];refine wpAny_bind (wpAny_setField hgT hdT hsz3 ?_);generalize s.heap.update T (Obj.mapFields (·.setIfInBounds 3 Value.none))=hm at x1 x2 ⊢;obtain⟨_,_,_,_,_,oe2,vs2,oT2,ts2,a02,he2,hc2,hd2,h02,h12,hgT2,hdT2,h32⟩:=x2;refine zkp (s:={ s with heap:=hm }) (h0:=h0) (H:=H) hfr (x1.funs hl nf.1 nf.2) hf ha hHa he2 hd2 h02 (Array.getElem?_eq_some_iff.mp h12).1 (λb hb=>?_) λh' T' fl' f y z=>?_
 ·obtain⟨o,e⟩:=old b hb;exact x1.there b o e
 ·have ft:s.heap.get? T'=none:=by
   cases q:s.heap.get? T' with
   | none=>rfl
   | some o=>obtain⟨o',e⟩:=x1.there T' o q;rw[f]at e;cases e
  exact h h' T' fl' (.inr ft) (x1.trans (.inl rfl) (y T)) (by rw[hc2]at z;exact z)
theorem zpG {Q:Unit->Shared->Prop}{oe:Obj}{vs:Array Value}{a0:Value}(hfr:A.frames=some (env::outer))(hl:s.heap.FunFrames base (env::outer))(hf:env.frame=some L)
  (ha:h0.get? a=none) (hHa:H a=none) (he:s.heap.get? a=some oe) (hd:oe.data=.fields vs) (hs0:vs[0]? = some a0) (hs1:vs[1]? = some .none)
  (old:∀b,h0.get? b≠none\/H b≠none->∃o,s.heap.get? b=some o)
  (h:∀h' T' fl',s.heap.get? T'=none->(∀T,zcc (frs (env::outer)) a T s.heap h')->ExcAt h0 H h' a oe.cls T' fl'->Q () { s with heap:=h' }):wpAny M A (noteFrame (.ref a) env) Q E s:=by
 unfold noteFrame;simp only[hf];refine wpAny_bind (wpAny_field he hd hs1 ?_);rw[if_neg (by decide)];exact zkp hfr hl hf ha hHa he hd hs0 (Array.getElem?_eq_some_iff.mp hs1).1 old h
end
theorem zqH {P:Program}{w:World}{fs:List Addr}{H:Hp}{h h':Heap}{a T:Addr}(ok:HOk P w H h)(x:zcc fs a T h h')(ha:H a=none)(hT:H T=none)(hf:∀b∈fs,H b=none):HOk P w H h':=λb o e=>
 (ok b o e).stay (λc u hc q=>by
  have tr:H c≠none:=by
   rcases hc with rfl | hc
   ·rw[e];exact λz=>nomatch z
   ·rw[hc];exact λz=>nomatch z
  exact x.keep c u q (λz=>tr (by rw[z];exact ha)) (λz=>tr (by rw[z];exact hT)) λz=>tr (hf c z)) (λ_ q=>q) λ_ _ q=>q
section
variable {X:Cx}{pins:List (Addr×Obj)}{σ:St}{H H':Hp}{s s':Shared}{a T:Addr}{cls fl:Value}{E E':XK}
noncomputable def RecAt (X:Cx)(H:Hp)(h:Heap)(a:Addr):Prop:=X.s₀.heap.get? a=none/\H a=none/\∃oe vs,h.get? a=some oe/\oe.data=.fields vs
theorem zmL {h':Heap}(I:Inv X pins σ H s)(x:zcc (frs X.stack) a T s.heap h')(ra:RecAt X H s.heap a)(rT:RecAt X H s.heap T)(hp:∀p∈X.pn++pins,p.1≠a/\p.1≠T):Inv X pins σ H { s with heap:=h' }:=by
 obtain⟨ha,hHa,oe,vs,he,hd⟩:=ra;obtain⟨hT,hHT,oT,ts,hgT,hdT⟩:=rT;have old:∀b o,X.s₀.heap.get? b=some o->b≠a/\b≠T:=λb o e=>⟨λz=>(by rw[z,ha]at e;cases e),λz=>(by rw[z,hT]at e;cases e)⟩;have nst:∀b,b∉X.fs->b≠X.env.locals->b∉frs X.stack:=λb h1 h2 h3=>by
  rcases I.ok.stk with z | ⟨z,zf⟩
  ·rw[z]at h3;exact h1 h3
  ·rw[z]at h3;unfold frs at h3;rw[List.filterMap_cons,zf]at h3;rcases List.mem_cons.mp h3 with h3 | h3
   ·exact h2 h3
   ·exact h1 h3
 have sub:∀b∈X.fs,b∈frs X.stack:=λb hb=>by
  rcases I.ok.stk with z | ⟨z,zf⟩
  ·rw[z];exact hb
  ·rw[z];unfold frs;rw[List.filterMap_cons,zf];exact List.mem_cons_of_mem _ hb
 have dat:∀b o,s.heap.get? b=some o->(∀vs,o.data≠.fields vs)->∃sl,h'.get? b=some { o with slots:=sl }:=λb o e nd=>by
  by_cases hb:b∈frs X.stack
  ·exact x.slot b o e hb
  ·exact⟨o.slots,x.keep b o e (λz=>by rw[z,he]at e;cases e;exact nd _ hd) (λz=>by rw[z,hgT]at e;cases e;exact nd _ hdT) hb⟩
 have cel:∀c v,s.heap.IsCell c v->h'.IsCell c v:=λc v ⟨o,e,q⟩=>by
  obtain⟨sl,e'⟩:=dat c o e (λvs z=>by rw[q]at z;cases z);exact⟨_,e',q⟩
 have low:∀b o,X.s₀.heap.get? b=some o->b≠X.env.locals:=λb o e=>Nat.ne_of_lt (Nat.lt_of_lt_of_le (Heap.lt_size e) I.ok.above);obtain⟨m,⟨o,es,ep,hg,hdd,hk⟩,hl⟩:=id I.loc;obtain⟨sl,hg'⟩:=dat _ o hg (λvs z=>by rw[hdd]at z;cases z);refine⟨I.ok,I.os,I.bare,⟨λb o e n hb hx=>?_,λb o e n hb hx=>?_,I.base.free,λb o e hx=>?_,I.base.tups,I.base.frzs,I.base.tbls⟩,⟨m,⟨_,es,ep,hg',hdd,hk⟩,λi y v e1 e2 e3=>?_⟩,λy c e=>?_,I.free,I.freeC,λp hp'=>?_,zqH I.hok x hHa hHT I.zgz,I.len⟩
 ·exact x.keep b o (I.base.keep b o e n hb hx) (old b o e).1 (old b o e).2 (nst b hb (low b o e))
 ·obtain⟨sl,e1⟩:=I.base.slot b o e n hb hx;obtain⟨sl2,e2⟩:=x.slot b _ e1 (sub b hb);exact⟨sl2,e2⟩
 ·obtain⟨o',e1⟩:=I.base.there b o e hx;exact x.there b o' e1
 ·obtain⟨u,r,q⟩:=hl i y v e1 e2 e3;refine⟨u,r,?_⟩;rcases q with q | ⟨k,c,e,z⟩
  ·exact .inl q
  ·exact .inr ⟨k,c,e,cel _ _ z⟩
 ·obtain⟨v,z⟩:=I.cell y c e;exact⟨v,cel _ _ z⟩
 ·obtain⟨e,n,ne,nf,d⟩:=I.pin p hp';exact⟨x.keep p.1 p.2 e (hp p hp').1 (hp p hp').2 (nst _ nf ne),n,ne,nf,d⟩
theorem zlN {h':Heap}(I:Inv X pins σ H s)(x:zcc (frs X.stack) a T s.heap h')(hx:ExcAt X.s₀.heap H s.heap a cls T fl)(hp:∀p∈X.pn++pins,p.1≠a/\p.1≠T):Inv X pins σ H { s with heap:=h' }:=by
 obtain⟨ha,hHa,hT,hHT,hTa,oe,vs,oT,ts,a0,he,hc,hd,h00,h1,hgT,hdT,h3⟩:=hx;exact zmL I x ⟨ha,hHa,_,_,he,hd⟩ ⟨hT,hHT,_,_,hgT,hdT⟩ hp
noncomputable def CXJ (P:Program)(w:World):CXT:=λouter H s E e s'=>
 ∃a T cls fl H',e=.ref a/\s'.os=s.os/\AllBare s'.gens/\Un (frs outer) [] H H' s.heap s'.heap/\HOk P w H' s'.heap/\ExcAt s.heap H' s'.heap a cls T fl/\E cls none H'
noncomputable def FlyI (X:Cx)(pins:List (Addr×Obj))(σ:St)(E:XK)(e:Value)(s':Shared):Prop:=
 ∃a T cls fl H',e=.ref a/\Inv X pins σ H' s'/\ExcAt X.s₀.heap H' s'.heap a cls T fl/\(∀p∈X.pn++pins,p.1≠a/\p.1≠T)/\E cls none H'
theorem ExcAt.back {h0 h1 h:Heap}(x:ExcAt h1 H h a cls T fl)(k:∀b o,h0.get? b=some o->∃o',h1.get? b=some o'):ExcAt h0 H h a cls T fl:=by
 obtain⟨ha,hHa,hT,hHT,r⟩:=x;have f:∀b,h1.get? b=none->h0.get? b=none:=λb e=>by
  cases q:h0.get? b with
  | none=>rfl
  | some o=>obtain⟨o',e'⟩:=k b o q;rw[e]at e';cases e'
 exact⟨f a ha,hHa,f T hT,hHT,r⟩
theorem FlyI.of (I:Inv X pins σ H s)(hex:X.ex=[]){e:Value}(h:CXJ X.prog X.w X.stack H s E e s'):FlyI X pins σ E e s':=by
 obtain⟨a,T,cls,fl,H',rfl,os,bare,un,hok,ex,q⟩:=h;refine⟨a,T,cls,fl,H',rfl,I.call' (ch:=[]) os un hok bare (λb z=>absurd z (by simp)),ex.back λb o e=>I.base.there b o e (by rw[hex];simp),λp hp=>?_,q⟩;obtain⟨e,_⟩:=I.pin p hp;exact⟨λz=>(by rw[z,ex.1]at e;cases e),λz=>(by rw[z,ex.2.2.1]at e;cases e)⟩
theorem FlyI.old (I:Inv X pins σ H s)(hex:X.ex=[]):∀b,X.s₀.heap.get? b≠none\/H b≠none->∃o,s.heap.get? b=some o:=λb hb=>by
 rcases hb with hb | hb
 ·cases q:X.s₀.heap.get? b with
  | none=>exact absurd q hb
  | some o=>exact I.base.there b o q (by rw[hex];simp)
 ·cases q:H b with
  | none=>exact absurd q hb
  | some o=>exact HOk.there I.hok q
theorem FlyI.note {M:Model}{Ex:Value->Shared->Prop}{e:Value}{env:Env}{Q:Unit->Shared->Prop}{L:Addr}(h:FlyI X pins σ E e s')(hex:X.ex=[])(hst:X.stack=X.env::X.outer)(hf:X.env.frame=some L)(hen:env.frame=X.env.frame)
  (q:∀s'',FlyI X pins σ E e s''->Q () s''):wpAny M X.A (noteFrame e env) Q Ex s':=by
 obtain⟨a,T,cls,fl,H',rfl,I,ex,hp,hE⟩:=h;rw[zeC hen];have hfr:X.A.frames=some (X.env::X.outer):=by rw[I.ok.frames,hst]
 have hl:=I.stack;rw[hst]at hl;refine zmK hfr hl hf ex (FlyI.old I hex) λh' T' fl' w x z=>q _ ⟨a,T',cls,fl',H',rfl,zlN I (by rw[hst];exact x) ex hp,z,λp hp'=>⟨(hp p hp').1,λy=>?_⟩,hE⟩;rcases w with w | w
 ·exact(hp p hp').2 (y.trans w)
 ·obtain⟨e,_⟩:=I.pin p hp';rw[y,w]at e;cases e
theorem FlyI.flight {M:Model}{A:Around}{Ex:Value->Shared->Prop}{e:Value}{f:Option Addr}{Q:Unit->Shared->Prop}(h:FlyI X pins σ E e s')(q:∀s'',FlyI X pins σ E e s''->Q () s''):wpAny M A (setFlight e f) Q Ex s':=by
 obtain⟨a,T,cls,fl,H',rfl,I,ex,hp,hE⟩:=h;exact zhV (l:=X.stack) ex (ex.nofr I.stack).2 λh' fl' x z=>q _ ⟨a,T,cls,fl',H',rfl,zlN I x ex hp,z,hp,hE⟩
end
noncomputable abbrev bmV:List Value:=[.type "ValueError",.type "Exception",.type "BaseException",.type "object"]
noncomputable def ExcC (K:PySem.W.Frag)(C:Addr)(bm:List Value):Prop:=∀h:Heap,K.In h->∃N nm q bs hdct sn sub ab col dd k0 k1 k2 k3 k5 mN,
 h.get? C=some (excClassObj nm q C N bs bm hdct sn sub ab col dd k0 k1 k2 k3 k5 "ValueError.__new__")/\h.Ns N mN/\mN "__init__" = none/\OwnTail h bmV bm
noncomputable def mroIn (K:PySem.W.Frag)(C:Addr)(bm:List Value):Bool:=match K.lookup C with
 | some ⟨_,_,.cls cd,_⟩=>cd.mro == .ref C::bm
 | _=>false
theorem zgU {K:PySem.W.Frag}{C:Addr}{bm:List Value}(q:PySem.W.excIn K C bmV "ValueError.__new__" = true) (q2:mroIn K C bm=true):ExcC K C bm:=λh X=>by
 unfold PySem.W.excIn at q;unfold mroIn at q2;split at q
 ·rename_i dd cd sl ho
  rw[ho]at q2;have q2':cd.mro=.ref C::bm:=beq_iff_eq.mp q2;split at q
  ·rename_i C' bm' k0 k1 k2 k3 n k5 hm hs
   simp only[Bool.and_eq_true,beq_iff_eq,Bool.not_eq_true']at q;obtain⟨⟨⟨⟨⟨rfl,rfl⟩,hdel⟩,ht⟩,hok⟩,hni⟩:=q;rw[hm]at q2';cases q2';obtain⟨nm,bs,mro,ns,qn,hd,sn,sub,ab,col,del⟩:=cd;dsimp only at hm hdel hok hni;subst hm hdel;have hsl:sl = #[k0,k1,k2,k3,some (.builtin "ValueError.__new__"),k5]:=by
    cases sl;simp only at hs;rw[hs]
   subst hsl;exact⟨ns,nm,qn,bs,hd,sn,sub,ab,col,dd,k0,k1,k2,k3,k5,_,X _ _ ho,.of_isNs (PySem.W.isNs_of_in X hok),PySem.W.nsMap_none_of_in X hok hni,PySem.W.tail_of_in X ht⟩
  ·cases q
 ·cases q
theorem ziC {prog:Program}{w:World}{A:Around}{R:Result->Shared->Prop}{s:Shared}{elt tg iter:Expr}{ifs:List Expr}{scope:Scope}{pos:Pos}{it acc:Value}{env:Env}(Ex:Value->Shared->Prop)
  (hE:∀e s,Ex e s->notedBy (model prog w) A env (λx s'=>R (.error x) s') e s) (J:Nat->Shared->Prop)
  (turn:∀n s,J n s->wpAny (model prog w) A (pyNext it) (λr s1=>match r with
   | none=>R (.ok .next) s1
   | some v=>wpAny (model prog w) A (letOwnedTupleGo tg it v) (λ_ s2=>wpAny (model prog w) A (assign tg env v) (λ_ s3=>
     wpAny (model prog w) A (forIn ifs true λc r=>if r=true then do let ok <- isTrue c env (eval c env);pure (ForInStep.yield ok) else pure (ForInStep.yield r)) (λok s4=>
      if ok=true then wpAny (model prog w) A (eval elt env) (λx s5=>wpAny (model prog w) A (call (.builtin "list.append") [acc,x]) (λ_ s6=>∃m,m<n/\J m s6) (λ_ _=>False) s5) Ex s4
      else ∃m,m<n/\J m s4) (λ_ _=>False) s3) (λ_ _=>False) s2) (λ_ _=>False) s1) (λ_ _=>False) s)
  (n:Nat) (h:J n s):codeAny (model prog w) A (.compLoop (.ListComp elt [⟨tg,iter,ifs,0⟩] scope pos) 0 it acc env) R s:=by
 refine codeAny_loop rfl J (λn s hI=>wpAny_noted (wpAny_mono (E:=Ex) ?_ (λ_ _ q=>q) hE)) n h;rw[compTurn_list];refine wpAny_bind (wpAny_standAt (wpAny_bind (wpAny_mono (turn n s hI) (λr s1 h1=>?_) λ_ _ z=>z.elim)));cases r with
 | none=>exact wpAny_pure h1
 | some v=>
  refine wpAny_bind (wpAny_mono h1 (λ_ s2 h2=>wpAny_bind (wpAny_mono h2 (λ_ s3 h3=>wpAny_bind (wpAny_mono h3 (λok s4 h4=>?_) λ_ _ z=>z.elim)) λ_ _ z=>z.elim)) λ_ _ z=>z.elim);cases ok with
  | false=>exact wpAny_pure ⟨rfl,by simpa using h4⟩
  | true=>
   rw[if_pos rfl]at h4;exact wpAny_bind (wpAny_bind (thn h4 λx s5 h5=>wpAny_bind (wpAny_mono h5 (λ_ s6 h6=>wpAny_pure (wpAny_pure ⟨rfl,h6⟩)) λ_ _ z=>z.elim)))
noncomputable def XB (Y:Cx)(E:XK):Value->Shared->Prop:=λe s'=>∃pins σ H s,Inv Y pins σ H s/\CXJ Y.prog Y.w Y.stack H s E e s'
section
variable {X:Cx}{elt tg iter:Expr}{ifs:List Expr}{sc:Scope}{pos:Pos}{N:List Str}{k:Nat}{js:List Nat}{wi:TI}{g:TG}{tt:TT}{te:TE}{E:XK}
theorem zpH {Y:Cx}:zeq (CXJ Y.prog Y.w) (Y.wish (XB Y E)) E:=λpins σ H s e s' I h=>⟨pins,σ,H,s,I.zaT,h⟩
structure BlkX (X:Cx)(N:List Str)(sc:Scope)(tg:Expr)(ifs:List Expr)(elt:Expr)(g:TG)(tt:TT)(te:TE)(E:XK):Prop where
 tgt:∀C cells fp s H,PG (cxB X N sc C cells fp s H) tg g
 tst:∀C cells fp s H,PTs (cxB X N sc C cells fp s H) ifs tt
 val:∀C cells fp s H,PE ((cxB X N sc C cells fp s H).wish (XB (cxB X N sc C cells fp s H) E)) elt te
noncomputable def FlyC (X:Cx)(pins:List (Addr×Obj))(σ:St)(E:XK)(C:Addr)(e:Value)(s':Shared):Prop:=
 ∃a T cls fl H',e=.ref a/\Inv X pins σ H' s'/\ExcAt X.s₀.heap H' s'.heap a cls T fl/\(∀p∈X.pn++pins,p.1≠a/\p.1≠T)/\E cls none H'/\FpOk X pins H' C/\∃m,s'.heap.Ns C m
theorem zqI {fs:List Addr}{a T c:Addr}{h h' h0:Heap}{H:Hp}{cls fl:Value}{m:Str->Option Value}(x:zcc fs a T h h')(ex:ExcAt h0 H h a cls T fl)(hn:h.Ns c m):h'.Ns c m:=by
 obtain⟨ha,hHa,hT,hHT,hTa,oe,vs,oT,ts,a0,he,hc,hd,h00,h1,hgT,hdT,h3⟩:=ex;obtain⟨o,es,ep,hg,hdd,hk⟩:=hn;by_cases hb:c∈fs
 ·obtain⟨sl,e⟩:=x.slot c o hg hb;exact⟨_,es,ep,e,hdd,hk⟩
 ·exact⟨o,es,ep,x.keep c o hg (λz=>by rw[z,he]at hg;cases hg;rw[hd]at hdd;cases hdd) (λz=>by rw[z,hgT]at hg;cases hg;rw[hdT]at hdd;cases hdd) hb,hdd,hk⟩
theorem FlyC.note {M:Model}{Ex:Value->Shared->Prop}{e:Value}{env:Env}{Q:Unit->Shared->Prop}{L C:Addr}{pins:List (Addr×Obj)}{σ:St}{s':Shared}(h:FlyC X pins σ E C e s')(hex:X.ex=[])(hst:X.stack=X.env::X.outer)(hf:X.env.frame=some L)(hen:env.frame=X.env.frame)
  (q:∀s'',FlyC X pins σ E C e s''->Q () s''):wpAny M X.A (noteFrame e env) Q Ex s':=by
 obtain⟨a,T,cls,fl,H',rfl,I,ex,hp,hE,fc,m,hn⟩:=h;rw[zeC hen];have hfr:X.A.frames=some (X.env::X.outer):=by rw[I.ok.frames,hst]
 have hl:=I.stack;rw[hst]at hl;refine zmK hfr hl hf ex (FlyI.old I hex) λh' T' fl' w x z=>q _ ⟨a,T',cls,fl',H',rfl,zlN I (by rw[hst];exact x) ex hp,z,λp hp'=>⟨(hp p hp').1,λy=>?_⟩,hE,fc,m,zqI x ex hn⟩;rcases w with w | w
 ·exact(hp p hp').2 (y.trans w)
 ·obtain⟨e,_⟩:=I.pin p hp';rw[y,w]at e;cases e
theorem zkq {pins:List (Addr×Obj)}{σ:St}{H:Hp}{s:Shared}{R:Addr->Hp->Prop}{L:Addr}(hc:X.calm=true)(hex:X.ex=[])(hst:X.stack=X.env::X.outer)(hfm:X.env.frame=some L)(S:zbG X N k js sc)(hi:PI X tg iter wi)(B:BlkX X N sc tg ifs elt g tt te E)(I:Inv X pins σ H s)
  (h:wi σ H λJ H1=>∀l,H1 l=none->zfJ J g tt te l (zbV k js σ) H1 (R l)) :
  wpAny (model X.prog X.w) X.A (eval iter X.env) (λx s1=>wpAny (model X.prog X.w) X.A (pyIter x) (λit s2=>wpAny (model X.prog X.w) X.A (newList []) (λacc s3=>
   wpAny (model X.prog X.w) X.A (newFunctionEnv sc X.env.globals (zaw X.env sc.names []) [] X.env.qual none .none (some X.env)) (λcenv s4=>
    codeAny (model X.prog X.w) X.A (.compStart (.ListComp elt [⟨tg,iter,ifs,0⟩] sc pos) 0 it acc { cenv with scope:=relabel sc X.env })
     (λr s'=>match r with | .ok _=>After X pins σ R acc cenv.locals s' | .error e=>FlyC X pins σ E cenv.locals e s') s4) X.xe s3) X.xe s2) X.xe s1) X.xe s:=by
 refine thn (hi pins s σ H _ I h) λv s1 h1=>thn h1 λitv s2 h2=>?_;obtain⟨it,fp,tn,J,H2,e,I2,T,st2,f2,hq⟩:=h2;subst e;have hl:H2 s2.heap.objs.size=none:=I2.fresh;have fplt:∀b∈fp,b<s2.heap.objs.size:=λb hb=>by
  obtain⟨o,e,_⟩:=T.obj 0 _ st2 b hb;exact Heap.lt_size e
 obtain⟨W,⟨m0,w0⟩,turn⟩:=hq _ hl;refine wpAny_newList ?_;have I3:Inv X pins σ (upd H2 s2.heap.objs.size (.lst [])) { s2 with heap:=s2.heap.push { cls:=.type "list",data:=.seq ([]:List Value).toArray } }:=I2.lnew (its:=[]) (t':=s2.toks) .nil (Nat.zero_le _);have u3:Un (frs X.stack) fp H2 (upd H2 s2.heap.objs.size (.lst [])) s2.heap (s2.heap.push { cls:=.type "list",data:=.seq ([]:List Value).toArray }):=Un.laid (λb o e=>Heap.get?_push_of_some _ e) (Nat.le_refl _) hl;have hz3:(s2.heap.push { cls:=.type "list",data:=.seq ([]:List Value).toArray }).objs.size=s2.heap.objs.size+1:=Heap.size_push ..;have kp3:∀b o,s2.heap.get? b=some o->(s2.heap.push { cls:=.type "list",data:=.seq ([]:List Value).toArray }).get? b=some o:=λb o e=>Heap.get?_push_of_some _ e;have fpn:∀b∈fp,upd H2 s2.heap.objs.size (.lst []) b=none:=λb hb=>by
  rw[zao (Nat.ne_of_lt (fplt b hb))];exact(f2 b hb).1
 generalize hl0:s2.heap.objs.size=l at hl I3 u3 hz3 kp3 fpn w0 turn ⊢;rw[hl0]at fplt;generalize s2.heap.push { cls:=.type "list",data:=.seq ([]:List Value).toArray }=h3 at I3 u3 hz3 kp3 ⊢;generalize upd H2 l (.lst [])=H3 at I3 u3 fpn w0;have f3:∀b∈fp,FpOk X pins H3 b:=λb hb=>⟨fpn b hb,(f2 b hb).2⟩;have I4:=I3.block S f3 (λb hb=>by show b<h3.objs.size;rw[hz3];exact Nat.lt_succ_of_lt (fplt b hb));have kp4:∀b o,s2.heap.get? b=some o->(pushCells (h3.push { cls:=.type "dict",data:=.dict #[] }) sc.names).get? b=some o:=λb o e=>pushCells_keeps _ _ b o (Heap.get?_push_of_some _ (kp3 b o e));refine zfI ?_;have st4:tn 0 (pushCells (h3.push { cls:=.type "dict",data:=.dict #[] }) sc.names):=T.keep 0 _ _ st2 λb _ o e=>kp4 b o e;have stat:∀ {H':Hp},(∀b∈fp,H' b=none)->∀b∈fp,FpOk (cxB X N sc h3.objs.size (cellsFrom (h3.objs.size+1) sc.names (zaw X.env sc.names [])) fp { s2 with heap:=h3 } H3) [] H' b:=λhn b hb=>
  ⟨hn b hb,(I4.ok.exf b hb).1,I4.ok.exfs b hb,.inl hb,(I4.ok.exf b hb).2,λp hp=>absurd (show p∈([]:List (Addr×Obj)) from hp) (by simp)⟩
 have fly:∀e s',XB (cxB X N sc h3.objs.size (cellsFrom (h3.objs.size+1) sc.names (zaw X.env sc.names [])) fp { s2 with heap:=h3 } H3) E e s'->FlyC X pins σ E h3.objs.size e s':=by
  rintro e s' ⟨pins9,σ9,H9,s9,I9,a,T9,cls,fl,H',rfl,os,bare,un,hok,ex,hE⟩;have u9:Un (frs X.stack) fp H2 H9 s2.heap s9.heap:=u3.trans I9.base;have IX:Inv X pins σ H' s':=I2.call' (ch:=fp) (os.trans I9.os) (u9.trans (un.mono (λ_ z=>z) λb z=>absurd z (by simp))) hok bare λb hb=>⟨(f2 b hb).2.2.2.1,(f2 b hb).2.1,(f2 b hb).2.2.2.2.1,(f2 b hb).2.2.2.2.2⟩;have I10:=I9.call' (ch:=[]) os un hok bare (λb z=>absurd z (by simp));obtain⟨m10,hn10,_⟩:=id I10.loc;refine⟨a,T9,cls,fl,H',rfl,IX,ex.back λb o e=>?_,λp hp=>?_,hE,I2.fpOk (by rw[hz3,hl0];exact Nat.le_succ _) I10.free,m10,hn10⟩
  ·obtain⟨o2,e2⟩:=I2.base.there b o e (by rw[hex];simp);refine u9.there b o2 e2 λhb=>?_;rcases(f2 b hb).2.2.2.1 with z | z
   ·rw[hex]at z;simp at z
   ·exact absurd (Heap.lt_size e) (Nat.not_lt.mpr z)
  ·obtain⟨e,_⟩:=I2.pin p hp;obtain⟨o9,e9⟩:=u9.there p.1 p.2 e λhb=>(f2 p.1 hb).2.2.2.2.2 p hp rfl;exact⟨λz=>(by rw[z,ex.1]at e9;cases e9),λz=>(by rw[z,ex.2.2.1]at e9;cases e9)⟩
 generalize hY:cxB X N sc h3.objs.size (cellsFrom (h3.objs.size+1) sc.names (zaw X.env sc.names [])) fp { s2 with heap:=h3 } H3=Y at I4 stat fly;have loop:codeAny (model X.prog X.w) X.A (.compLoop (.ListComp elt [⟨tg,iter,ifs,0⟩] sc pos) 0 (.ref it) (.ref l) Y.env)
   (λr s'=>match r with | .ok _=>After X pins σ R (.ref l) h3.objs.size s' | .error e=>FlyC X pins σ E h3.objs.size e s') { s2 with heap:=pushCells (h3.push { cls:=.type "dict",data:=.dict #[] }) sc.names }:=by
  refine ziC (XB Y E) (λe s' hx=>FlyC.note (fly e s' hx) hex hst hfm (by subst hY;rfl) λs'' q=>q) (λn s'=>∃i σ' H',Inv Y [] σ' H' s'/\tn i s'.heap/\(∀b∈fp,H' b=none)/\W i n σ' H') ?_ m0
   ⟨0,zbV k js σ,H3,I4,st4,fpn,w0⟩
  subst hY;rintro n s5 ⟨i,σ5,H5,I5,st5,fr5,w5⟩;rcases turn i n σ5 H5 w5 with ⟨stop,qn⟩ | ⟨go,step⟩
  ·refine thn (T.done (cxB X N sc h3.objs.size (cellsFrom (h3.objs.size+1) sc.names (zaw X.env sc.names [])) fp { s2 with heap:=h3 } H3) rfl rfl rfl hc i [] s5 σ5 H5 (λ_ _=>False) I5 (stat fr5) st5 stop) λr s6 q97q=>?_;obtain⟨hr,I6⟩:=q97q;subst hr;obtain⟨m6,hn6,_⟩:=id I6.loc;have IX:Inv X pins σ H5 s6:=I2.call' (ch:=fp) I6.os (u3.trans I6.base) I6.hok I6.bare λb hb=>⟨(f2 b hb).2.2.2.1,(f2 b hb).2.1,(f2 b hb).2.2.2.2.1,(f2 b hb).2.2.2.2.2⟩;exact⟨l,H5,m6,rfl,IX,hn6,I2.fpOk (by show s2.heap.objs.size<=h3.objs.size;rw[hz3,hl0];exact Nat.le_succ _) I6.free,qn⟩
  ·refine thn (T.item (cxB X N sc h3.objs.size (cellsFrom (h3.objs.size+1) sc.names (zaw X.env sc.names [])) fp { s2 with heap:=h3 } H3) rfl rfl rfl hc i [] s5 σ5 H5 (λ_ _=>False) I5 (stat fr5) st5 go) λr s6 q98q=>?_;obtain⟨u,hr,h6⟩:=q98q;subst hr;refine thn h6 λ_ s7 q99q=>?_;obtain⟨x,H7,I7,r7,y7,st7,fr7⟩:=q99q;have I7':=I7.pinned (stat fr7) (T.obj _ _ st7);refine thn (B.tgt _ _ _ _ _ _ s7 σ5 H7 x u _ I7' r7 (step x H7 y7)) λ_ s8 q100q=>?_;obtain⟨σ8,H8,I8,q8⟩:=q100q;refine thn (B.tst _ _ _ _ _ _ s8 σ8 H8 _ I8 q8) λok s9 q101q=>?_;obtain⟨H9,I9,q9⟩:=q101q;have kept:∀ {σ':St} {H':Hp} {s':Shared},Inv (cxB X N sc h3.objs.size (cellsFrom (h3.objs.size+1) sc.names (zaw X.env sc.names [])) fp { s2 with heap:=h3 } H3) ([]++zeo fp s7.heap) σ' H' s'->tn (i+1) s'.heap/\∀b∈fp,H' b=none:=λ{σ' H' s'} I'=>
    ⟨T.keep _ _ _ st7 λb hb o e=>(I'.pin (b,o) (List.mem_append_right _ (List.mem_append_right _ (zbk hb e)))).1,λb hb=>by
     obtain⟨o,e,_⟩:=T.obj _ _ st7 b hb;exact(I'.pin (b,o) (List.mem_append_right _ (List.mem_append_right _ (zbk hb e)))).2.1⟩
   cases ok with
   | false=>
    rw[if_neg Bool.false_ne_true]at q9;rw[if_neg Bool.false_ne_true];obtain⟨m',hm,w9⟩:=q9;exact⟨m',hm,i+1,σ8,H9,I9.zbE,(kept I9).1,(kept I9).2,w9⟩
   | true=>
    rw[if_pos rfl]at q9;rw[if_pos rfl];refine thn (B.val _ _ _ _ _ _ s9 σ8 H9 _ (I9.wish _) q9) λu10 s10 q102q=>?_;obtain⟨y,H10,I10',r10,ys,hys,hlen,m',hm,w10⟩:=q102q;have I10:=I10'.zaT;refine thn (zdC _ s10 σ8 H10 (.ref l) [y] (.ref l) [u10] (λ_ H'=>H'=upd H10 l (.lst (ys++[y]))) I10 rfl (.cons r10 .nil) ⟨l,ys,y,rfl,rfl,hys,hlen,rfl⟩) λ_ s11 q103q=>?_;obtain⟨_,H11,I11,_,e11⟩:=q103q;subst e11;exact⟨m',hm,i+1,σ8,_,I11.zbE,(kept I11).1,(kept I11).2,w10⟩
 subst hY;exact codeAny_compStart_list loop (T.self X.A 0 _ _ _ st4 loop)
theorem zlO {L:Addr}(hc:X.calm=true)(hex:X.ex=[])(hst:X.stack=X.env::X.outer)(hfm:X.env.frame=some L)(hxe:∀pins σ e s',FlyI X pins σ E e s'->X.xe e s')(S:zbG X N k js sc)(hi:PI X tg iter wi)(B:BlkX X N sc tg ifs elt g tt te E)(hs:autoParam (∀x,foldedSetIterable iter X.env x=pure x) aU3) :
  PE X (.ListComp elt [⟨tg,iter,ifs,0⟩] sc pos) (zlp k js wi g tt te):=by
 intro pins s σ H Q I h;rw[eval_ListComp];refine wpAny_comprehension_free (use:=none) rfl hs (zjl λn hn=>I.ok.has n (S.fr n hn)) S.kind (zes S) ?_;refine thn (zkq (pos:=pos) (R:=λl H'=>Q (.ref l) H') hc hex hst hfm S hi B I h) λx s1 h1=>thn h1 λit s2 h2=>thn h2 λacc s3 h3=>thn h3 λcenv s4 h4=>codeAny_mono h4 λr s' hr=>?_;cases r with
 | error e=>
  obtain⟨a,T,cls,fl,H',rfl,I',ex,hp,hE,⟨f0,f1,f2,f3,f4,f5⟩,m,hn⟩:=hr;refine⟨m,hn,λh' sb cenv' hce=>?_⟩;have I'':=I'.turned (t':=s'.toks) (λb o hb e=>sb.extBut b o hb e) f0 f1 f3 f4 f5;have ex':ExcAt X.s₀.heap H' h' a cls T fl:=by
   obtain⟨ha,hHa,hT,hHT,hTa,oe,vs,oT,ts,a0,he,hc,hd,h00,h1,hgT,hdT,h3⟩:=ex;obtain⟨o,es,ep,hg,hdd,hk⟩:=hn;have n1:a≠cenv.locals:=λz=>by rw[z,hg]at he;cases he;rw[hd]at hdd;cases hdd
   have n2:T≠cenv.locals:=λz=>by rw[z,hg]at hgT;cases hgT;rw[hdT]at hdd;cases hdd
   exact⟨ha,hHa,hT,hHT,hTa,oe,vs,oT,ts,a0,sb.extBut _ _ n1 he,hc,hd,h00,h1,sb.extBut _ _ n2 hgT,hdT,h3⟩
  have F:FlyI X pins σ E (.ref a) { s' with heap:=h' }:=⟨a,T,cls,fl,H',rfl,I'',ex',hp,hE⟩;unfold PySem.passOn;obtain⟨ha,hHa,hT,hHT,hTa,oe,vs,oT,ts,a0,he,hc,hd,h00,h1,hgT,hdT,h3⟩:=ex';refine wpAny_bind (wpAny_field he hd h1 ?_);rw[if_neg (by simp)];exact wpAny_bind (FlyI.flight F λs'' F'=>wpAny_throw (hxe pins σ _ _ F'))
 | ok f=>
  obtain⟨l,H',m,rfl,I',hn,⟨f0,f1,f2,f3,f4,f5⟩,q⟩:=hr;exact⟨m,hn,λh' sb=>⟨.ref l,H',I'.turned (t':=s'.toks) (λb o hb e=>sb.extBut b o hb e) f0 f1 f3 f4 f5,rfl,q⟩⟩
end
noncomputable def ClsAt (a:Addr)(cls:Value):HO:=.ext λh=>∃o,h.get? a=some o/\o.cls=cls
section
variable {X:Cx}{pins:List (Addr×Obj)}{σ:St}{H H':Hp}{s s':Shared}{a T:Addr}{cls fl:Value}{E E':XK}
theorem zkr (I:Inv X pins σ H s)(hx:ExcAt X.s₀.heap H s.heap a cls T fl)(hp:∀p∈X.pn++pins,p.1≠a):Inv X pins σ (upd H a (ClsAt a cls)) s:=by
 obtain⟨ha,hHa,hT,hHT,hTa,oe,vs,oT,ts,a0,he,hc,hd,h00,h1,hgT,hdT,h3⟩:=hx;have ne:∀b u,H b=some u->b≠a:=λb u e z=>by rw[z,hHa]at e;cases e
 obtain⟨m,⟨o,es,ep,hg,hdd,hk⟩,hl⟩:=id I.loc;have nl:X.env.locals≠a:=λz=>by rw[z,he]at hg;cases hg;rw[hd]at hdd;cases hdd
 have hbe:∀b,b≠a->upd H a (ClsAt a cls) b=H b:=λb n=>zao n;refine⟨I.ok,I.os,I.bare,⟨I.base.keep,I.base.slot,λb o e n hx=>?_,I.base.there,λb xs e=>?_,λb o u e=>?_,λb ps e=>?_⟩,I.loc,I.cell,by rw[hbe _ nl];exact I.free,λx c e=>?_,λp hp'=>?_,λb u e=>?_,I.len⟩
 ·rw[hbe b λz=>by rw[z,ha]at e;cases e];exact I.base.free b o e n hx
 ·have q:=I.base.tups b xs e;rw[hbe b (ne b _ q)];exact q
 ·have q:=I.base.frzs b o u e;rw[hbe b (ne b _ q)];exact q
 ·obtain⟨more,q⟩:=I.base.tbls b ps e;exact⟨more,by rw[hbe b (ne b _ q)];exact q⟩
 ·obtain⟨v,oc,ec,q⟩:=I.cell x c e;rw[hbe c λz=>by rw[z,he]at ec;cases ec;rw[hd]at q;cases q];exact I.freeC x c e
 ·obtain⟨q,n,r⟩:=I.pin p hp';exact⟨q,by rw[hbe _ (hp p hp')];exact n,r⟩
 ·by_cases hb:b=a
  ·subst hb;rw[zat]at e;cases e;exact⟨⟨oe,he,hc⟩,⟨oe,he⟩,λh1 h2 q104q k=>by obtain⟨o,e,c⟩:=q104q;exact⟨o,k o e,c⟩⟩
  ·rw[hbe b hb]at e;exact(I.hok b u e).stay (λ_ _ _ q=>q) (λc q=>by rw[hbe c (ne c _ q)];exact q) λc xs q=>by rw[hbe c (ne c _ q)];exact q
noncomputable abbrev hCx (X:Cx)(a:Addr):Cx:={ X with A:=X.A.mark (some (.ref a)),calm:=false,xe:=λ_ _=>False }
theorem zpI (I:Inv X pins σ H s)(a:Addr):Inv (hCx X a) pins σ H s:=
 ⟨⟨I.ok.mod,I.ok.kind,I.ok.glob,I.ok.blt,I.ok.above,I.ok.inj,I.ok.has,I.ok.cab,(λz=>nomatch z),I.ok.frames,I.ok.stk,I.ok.exf,I.ok.bs,I.ok.bsz,I.ok.noex,I.ok.exfs,I.ok.funs,I.ok.frf⟩,I.os,I.bare,I.base,I.loc,I.cell,I.free,I.freeC,I.pin,I.hok,I.len⟩
theorem zpJ (I:Inv (hCx X a) pins σ H s)(ok:X.Ok):Inv X pins σ H s:=⟨ok,I.os,I.bare,I.base,I.loc,I.cell,I.free,I.freeC,I.pin,I.hok,I.len⟩
theorem zks {M:Model}{A:Around}{Ex:Value->Shared->Prop}{j:Nat}{x:Str}{v:V}{Q:Unit->Shared->Prop}(I:Inv X pins σ H s)(hN:X.N.Nodup)(hj:X.N[j]? = some x)(hk:X.env.scope.names.lookup x=some .local)(hv:σ[j]? = some (some v))
  (h:∀s',Inv X pins (σ.set j none) H s'->Q () s'):wpAny M A (unbindName X.env x) Q Ex s:=by
 obtain⟨m,hn,hl⟩:=id I.loc;have hcls:(X.env.scope.kind == .class||(X.env.scope.kind == .module&&X.env.locals != X.env.globals))=false:=by rw[I.ok.kind];rfl
 have hjσ:j<σ.length:=(List.getElem?_eq_some_iff.mp hv).1;have cne:=I.cne;obtain⟨u,r,q⟩:=hl j x v hj hv (.inl hk);have hm:m x=some u:=by
  rcases q with q | ⟨k,_⟩
  ·exact q.2
  ·have k':X.env.scope.names.lookup x=some .cell\/X.env.scope.names.lookup x=some .free:=k;rw[hk]at k';rcases k' with k' | k'<;>cases k'
 refine wpAny_unbindName_local hk hn hm hcls λh' w hn' hs=>?_;obtain⟨oL,_,_,hoL,_⟩:=id hn;refine h _ ⟨I.ok,I.os,I.bare,⟨λb o e n hb hx=>?_,λb o e n hb hx=>?_,I.base.free,λb o e hx=>?_,I.base.tups,I.base.frzs,I.base.tbls⟩,⟨_,hn',λi y v' e1 e2 e3=>?_⟩,λy c e=>?_,I.free,I.freeC,λp hp=>?_,λb ob e=>?_,by simpa using I.len⟩
 ·exact(hs.2 b (Nat.ne_of_lt (Nat.lt_of_lt_of_le (Heap.lt_size e) I.ok.above))).trans (I.base.keep b o e n hb hx)
 ·obtain⟨sl,e1⟩:=I.base.slot b o e n hb hx;exact⟨sl,(hs.2 b (Nat.ne_of_lt (Nat.lt_of_lt_of_le (Heap.lt_size e) I.ok.above))).trans e1⟩
 ·obtain⟨o',e1⟩:=I.base.there b o e hx;exact⟨o',(hs.2 b (Nat.ne_of_lt (Nat.lt_of_lt_of_le (Heap.lt_size e) I.ok.above))).trans e1⟩
 ·by_cases hi:i=j
  ·subst hi;rw[List.getElem?_set_self hjσ]at e2;cases e2
  ·rw[List.getElem?_set_ne (Ne.symm hi)]at e2;obtain⟨u',r',q'⟩:=hl i y v' e1 e2 e3;refine⟨u',r',?_⟩;rcases q' with ⟨k,e⟩ | ⟨k,c,e,z⟩
   ·refine .inl ⟨k,?_⟩;have:y≠x:=λe=>hi (zeN hN e1 (e▸hj));simp[this,e]
   ·exact .inr ⟨k,c,e,z.sameBut hs (cne y c e)⟩
 ·obtain⟨w',z⟩:=I.cell y c e;exact⟨w',z.sameBut hs (cne y c e)⟩
 ·obtain⟨e,n,ne,nf,d⟩:=I.pin p hp;exact⟨(hs.2 p.1 ne).trans e,n,ne,nf,d⟩
 ·refine(I.hok b ob e).stay (λc w' hc q=>(hs.2 c ?_).trans q) (λ_ q=>q) λ_ _ q=>q;rintro rfl;rcases hc with z | hc
  ·rw[<- z,I.free]at e;cases e
  ·rw[I.free]at hc;cases hc
end
section
variable {M:Model}{A:Around}{E:Value->Shared->Prop}
theorem zgV {nm q nm' q':Str}{C D N N':Addr}{bs bm bs' bm':List Value}{hdct hdct':Bool}{sn sn':List Str}{sub sub':List Value}{ab ab':Bool}{col col':Option Bool}{dd dd':Option Addr}{k0 k1 k2 k3 k5 j0 j1 j2 j3 j5:Option Value}{newId newId':String}
  {h:Heap} {g:Array GenState} {d:Drawn} {t:Nat} {os:OsState} {e:Addr} {oe:Obj} {Q:Bool->Shared->Prop}
  (hC:h.get? C=some (excClassObj nm q C N bs bm hdct sn sub ab col dd k0 k1 k2 k3 k5 newId)) (hD:h.get? D=some (excClassObj nm' q' D N' bs' bm' hdct' sn' sub' ab' col' dd' j0 j1 j2 j3 j5 newId')) (he:h.get? e=some oe) (hcls:oe.cls=.ref C)
  (hbase:bm'.contains (.type "BaseException")=true) (hin:(Value.ref C::bm).contains (.ref D)=true) (hq:Q true ⟨h,g,d,t,os⟩):wpAny M A (excMatches (.ref e) (.ref D)) Q E ⟨h,g,d,t,os⟩:=by
 have hcB:(Value.ref D::bm').contains (.type "BaseException")=true:=by rw[List.contains_cons,hbase,Bool.or_true]
 have f:=tc_notTuple;unfold excMatches
 repeat (first | (with_reducible refine wpAny_loadPart_at he ?_;rw[hcls]) | with_reducible refine wpAny_loadPart_at hD ?_ | (with_reducible refine wpAny_isSubtype_exc hD ?_;rw[hcB]) | (with_reducible refine wpAny_isSubtype_exc hC ?_;rw[hin]) | wp_step)
 exact hq
end
section
variable {X:Cx}{k:Nat}{f:Addr}{fd:FuncData}{ps:List Str}{sp:Sp}{x:Str}{p pos:Pos}{e:Expr}{es:List Expr}{t:TA}
theorem zpK {pins:List (Addr×Obj)}{σ:St}{H:Hp}{s:Shared}{Q:VK}{E:XK}(F:FnOk X.prog X.w X.K X.mg X.base (CXJ X.prog X.w) k f fd ps sp)(hex:X.ex=[])(hr:Room k X.A)(hg:Gl X x)(hm:X.mg x=some (.ref f))(hk:PySem.W.keepIn X.K (.ref f)=true)(hb:Binds X.K fd ps [])
  (ha:PA X.nox (e::es) t) (I:Inv X pins σ H s) (h:t σ H λvs H1=>sp vs H1 Q E) (hdb:(x == ("__debug__" : Str))=false) (he:starEach (e::es) X.env=(false,eval e X.env)::starEach es X.env) (hpl:(backTo pos (starEach es X.env)).any (·.1)=false) :
  wpAny (model X.prog X.w) X.A (eval (.Call (.Name x p) (e::es) [] pos) X.env) (EP X pins σ Q) (FlyI X pins σ E) s:=by
 refine wpAny_Call_Name_kw (zdA I hg hm ?_ hdb);refine PySem.W.callWith_K (h₀:=X.base) I.ok.mod.kin hk (wpAny_mono (ha pos pins s σ H _ (I.wish _) h) (λus s1 q105q=>?_) λ_ _ z=>z.elim) he hpl;obtain⟨vs,H1,I1',r,q⟩:=q105q;have I1:Inv X pins σ H1 s1:=I1'.zaT;refine⟨I1.kIn,?_⟩;have r2:Vals (vs++[]) (us++[]):=r.append .nil;rw[List.append_nil,List.append_nil]at r2;have hl:(us++[]).length=ps.length:=by rw[List.append_nil,<- r2.length];exact F.len _ _ _ _ q
 have hbs:=hb s1 us I1.kIn hl;rw[List.append_nil]at hbs;refine wpAny_call (codeAny_mono (F.run X.A X.stack s1 H1 ⟨us,[]⟩ us vs Q E hr I1.env0 hbs r2 q) λr s' hq=>?_);cases r with
 | error e=>exact FlyI.of I1 hex hq
 | ok fl=>
  cases fl with
  | ret u=>exact I1.after hq
  | next=>exact False.elim hq
  | brk=>exact False.elim hq
  | cont=>exact False.elim hq
end
structure ExcK (K:PySem.W.Frag)(C:Addr)(bm:List Value):Prop where
 cls:ExcC K C bm
 ga:PySem.W.findIn K (.ref C) "__getattribute__" = some (some (.builtin "BaseException.__getattribute__"))
 gt:PySem.W.findIn K (.ref C) "__getattr__" = some none
 ca:PySem.W.findIn K (.ref C) "__class__" = some (some (.builtin "object.__class__"))
section
variable {prog:Program}{w:World}{A:Around}{E:Value->Shared->Prop}{h:Heap}{g:Array GenState}{d:Drawn}{t:Nat}{os:OsState}{a:Addr}{o:Obj}{K:PySem.W.Frag}{C:Addr}{bm:List Value}
theorem znL {R:Result->Shared->Prop}(X:K.In h)(FK:ExcK K C bm)(hx:h.get? a=some o)(hc:o.cls=.ref C)(hq:R (.ok (.ret (.ref C))) ⟨h,g,d,t,os⟩) :
  codeAny (model prog w) A (.call (.builtin "getset_descriptor.__get__") ⟨[.builtin "object.__class__",.ref a,.ref C],[]⟩) R ⟨h,g,d,t,os⟩:=by
 obtain⟨N,nm,q,bs,hdct,sn,sub,ab,col,dd,k0,k1,k2,k3,k5,mN,hC,hN,hni,T⟩:=FK.cls h X;have hT5:(⟨h,g,d,t,os⟩:Shared).TypeIs (.builtin "object.__class__") "getset_descriptor":=F.typeOf_object_class;have hcB:(Value.ref C::bm).contains (.type (".".intercalate ("object.__class__".cutAt '.').dropLast))=true:=by
  rw[F.owner_object_class,List.contains_cons,T.hasType (show bmV.contains (.type "object")=true by decide)];rfl
 refine codeAny_call_builtin F.slot_gs_get.plain F.entry_gs_get (F.slot_gs_get.check _ _ _ _ _ _ _ _ hT5 (F.args_gs_get _ _ _) ?_)
 repeat (any_goals (first | assumption | (with_reducible refine wpAny_loadPart_at hx ?_;rw[hc]) | (with_reducible refine wpAny_isSubtype_exc hC ?_;rw[hcB]) | wp_step))
 refine⟨Code.quiet_builtin _ (by decide +kernel),codeAny_builtin F.entry_object_class ?_⟩
 repeat (any_goals (first | assumption | (with_reducible refine wpAny_loadPart_at hx ?_;rw[hc]) | wp_step))
theorem zkt {tk:Tok}{Q:Fin->Shared->Prop}(X:K.In h)(FK:ExcK K C bm)(hx:h.get? a=some o)(hc:o.cls=.ref C)(hq:Q (.done (.ret (.ref C))) ⟨h,g,d,t,os⟩) :
  wpAny (model prog w) A (Builtin.«object.__getattribute__» ⟨[.ref a,.str "__class__" tk],[]⟩) Q E ⟨h,g,d,t,os⟩:=by
 have hT5:(⟨h,g,d,t,os⟩:Shared).TypeIs (.builtin "object.__class__") "getset_descriptor":=F.typeOf_object_class;have f5:=F.typeOf_object_class;have f6:=F.slot_gs_get.lookup;have f7:=F.slot_gs_set.lookup
 repeat (any_goals (first | assumption | (with_reducible refine wpAny_loadPart_at hx ?_;rw[hc]) | with_reducible refine(PySem.W.looks_findIn X FK.ca).at ?_ | wp_step))
 refine znL X FK hx hc ?_
 repeat (any_goals (first | assumption | wp_step))
theorem zku {M:Model}{nameV:Value}{Q:Unit->Shared->Prop}(X:K.In h)(FK:ExcK K C bm)(hx:h.get? a=some o)(hc:o.cls=.ref C)(hq:Q () ⟨h,g,d,t,os⟩):wpAny M A (checkBuiltinCall "BaseException.__getattribute__" ⟨[.ref a,nameV],[]⟩) Q E ⟨h,g,d,t,os⟩:=by
 obtain⟨N,nm,q,bs,hdct,sn,sub,ab,col,dd,k0,k1,k2,k3,k5,mN,hC,hN,hni,T⟩:=FK.cls h X;have hk:builtinKind "BaseException.__getattribute__" = some .slot:=by decide +kernel
 have hsplit:splitId "BaseException.__getattribute__" = some ("BaseException","__getattribute__"):=by decide +kernel
 have hcB:(Value.ref C::bm).contains (.type "BaseException")=true:=by rw[List.contains_cons,T.hasType (show bmV.contains (.type "BaseException")=true by decide)];rfl
 have ha:=F.args_bexc_ga (.ref a) nameV;simp only[checkBuiltinCall,hk,hsplit];refine wpAny_bind ?_;unfold isInstance
 repeat (first | (with_reducible refine wpAny_loadPart_at hx ?_;rw[hc]) | (with_reducible refine wpAny_isSubtype_exc hC ?_;rw[hcB]) | wp_step)
 exact hq
theorem zpL {tk:Tok}{Q:Value->Shared->Prop}(X:K.In h)(FK:ExcK K C bm)(hx:h.get? a=some o)(hc:o.cls=.ref C)(hq:Q (.ref C) ⟨h,g,d,t,os⟩):wpAny (model prog w) A (getAttrBy (.ref a) (.str "__class__" tk) false) Q E ⟨h,g,d,t,os⟩:=by
 have f3:=F.attr_ValueError.ga.bind (.ref a);have hx2:(Value.builtin "BaseException.__getattribute__" == Value.builtin "object.__getattribute__")=false:=by decide +kernel
 have hx1:(onTheHeap (Value.ref C)&&Value.builtin "BaseException.__getattribute__" == Value.builtin "object.__getattribute__")=false:=by rw[hx2];rfl
 repeat (any_goals (first | assumption | (with_reducible refine wpAny_loadPart_at hx ?_;rw[hc]) | with_reducible refine(PySem.W.looks_findIn X FK.ga).at ?_ | with_reducible refine(PySem.W.looks_findIn X FK.gt).at ?_ | wp_step))
 refine codeAny_call_builtin F.attr_ValueError.ga.plain F.entry_bexc_ga (zku X FK hx hc (zkt X FK hx hc ?_))
 repeat (any_goals (first | assumption | wp_step))
theorem zlP {Q:Option Value->Shared->Prop}(X:K.In h)(FK:ExcK K C bm)(hx:h.get? a=some o)(hc:o.cls=.ref C)(hq:Q (some (.ref C)) ⟨h,g,d,t+1,os⟩):wpAny (model prog w) A (getAttr? (.ref a) "__class__") Q E ⟨h,g,d,t,os⟩:=by
 unfold getAttr? getAttrBy?
 repeat (any_goals (first | assumption | with_reducible apply zpL X FK hx hc | wp_step))
end
noncomputable def CAt (a C:Addr)(h:Heap):Prop:=∃o,h.get? a=some o/\o.cls=.ref C
theorem zkv {K:PySem.W.Frag}{C a:Addr}{bm:List Value}(FK:ExcK K C bm):PySem.W.KitX K (.ref a) (.ref C) (CAt a C) where
 ty:=λM h _ q106q=>by obtain⟨o,h1,h2⟩:=q106q;exact h2▸(PySem.W.Looks.ld h1).andThen .now
 it:=λM h X _=>by
  obtain⟨N,nm,q,bs,hdct,sn,sub,ab,col,dd,k0,k1,k2,k3,k5,mN,hC,hN,hni,T⟩:=FK.cls h X;intro A' Q' E' s' k q;unfold isType loadHead;exact wpAny_bind (wpAny_loadPart (k _ _ hC) (wpAny_pure q))
 ne:=λh tp dd its n sl X htp=>by
  obtain⟨N,nm,q,bs,hdct,sn,sub,ab,col,dd,k0,k1,k2,k3,k5,mN,hC,hN,hni,T⟩:=FK.cls h X;refine Bool.eq_false_iff.mpr λq=>?_;have e:C=tp:=Value.ref.inj (beq_iff_eq.mp q);subst e;rw[hC]at htp;have z:Value.type "type" = Value.type "tuple":=congrArg Obj.cls (Option.some.inj htp);exact absurd (Value.type.inj z) (by decide)
 ca:=λ{_ _ _ _ _ s} X ⟨o,h1,h2⟩ k=>by
  obtain⟨h,g,d,t,os⟩:=s;exact zlP X FK h1 h2 k
section
variable {X:Cx}
noncomputable def rIsX (K:PySem.W.Frag):List V->Hp->VK->Prop:=λxs H Q=>∃(a C:Addr)(bm:List Value)(b:Bool),H a=some (ClsAt a (.ref C))/\ExcK K C bm/\((∃c,xs=[.ref a,.ty c]/\PySem.W.kitOne K (.ref C) (.type c)=some b)\/∃D,xs=[.ref a,.ref D]/\PySem.W.kitOne K (.ref C) (.ref D)=some b)/\Q (.bl b) H
theorem zhW:zbF X (.builtin "isinstance") (rIsX X.K):=by
 intro pins s σ H xs us Q I r h;obtain⟨a,C,bm,b,ha,FK,e,q⟩:=h;obtain⟨hA,_⟩:=I.hok a _ ha;rcases e with ⟨c,rfl,e⟩ | ⟨D,rfl,e⟩
 ·obtain⟨u,w',rfl,r1,r2⟩:=vals2 r;cases r1;cases r2;exact PySem.W.kia_one (zkv FK) I.kIn hA e (λz=>nomatch z) λtk=>⟨.bl b,H,I.tok tk,rfl,q⟩
 ·obtain⟨u,w',rfl,r1,r2⟩:=vals2 r;cases r1;cases r2;exact PySem.W.kia_one (zkv FK) I.kIn hA e (λz=>nomatch z) λtk=>⟨.bl b,H,I.tok tk,rfl,q⟩
end
section
variable {X:Cx}{E:XK}{e:Value}{s':Shared}{L:Addr}
noncomputable def FlyM (X:Cx)(E:XK)(e:Value)(s':Shared):Prop:=(∃pins σ,FlyI X pins σ E e s')\/∃(s0:Shared)(pins:List (Addr×Obj))(σ:St)(H':Hp)(a:Addr)(C:Value)(args:List Value)(h':Heap),e=.ref a/\s'={ s0 with heap:=h' }/\Inv X pins σ H' s0/\Heap.MadeExcOf s0.heap h' a C args/\E C none H'
theorem FlyM.note {M:Model}{Ex:Value->Shared->Prop}{Q:Unit->Shared->Prop}(h:FlyM X E e s')(hex:X.ex=[])(hst:X.stack=X.env::X.outer)(hf:X.env.frame=some L)
  (q:∀s'' pins σ,FlyI X pins σ E e s''->Q () s''):wpAny M X.A (noteFrame e X.env) Q Ex s':=by
 rcases h with ⟨pins,σ,h⟩ | ⟨s0,pins,σ,H',a,C,args,h',rfl,rfl,I,m,hE⟩
 ·exact FlyI.note h hex hst hf rfl λs'' h=>q s'' pins σ h
 ·obtain⟨t,ht,_,htt⟩:=m.there;have I1:Inv X pins σ H' { s0 with heap:=h' }:=I.call' (ch:=[]) rfl (Un.kept m.keeps) (I.hok.kept m.keeps) I.bare (λb z=>absurd z (by simp));have he0:X.s₀.heap.get? a=none:=by
   cases q:X.s₀.heap.get? a with
   | none=>rfl
   | some o=>obtain⟨o',e'⟩:=I.base.there a o q (by rw[hex];simp);rw[m.new]at e';cases e'
  have hHe:H' a=none:=by
   cases q:H' a with
   | none=>rfl
   | some o=>obtain⟨o',e'⟩:=HOk.there I.hok q;rw[m.new]at e';cases e'
  have hfr:X.A.frames=some (X.env::X.outer):=by rw[I.ok.frames,hst]
  have hl:=I1.stack;rw[hst]at hl;refine zpG (h0:=X.s₀.heap) (H:=H') hfr hl hf he0 hHe ht rfl rfl rfl (FlyI.old I1 hex) λh2 T' fl' wT x z=>q _ pins σ ?_;have pe:∀p∈X.pn++pins,p.1≠a:=λp hp y=>by
   obtain⟨q,_⟩:=I.pin p hp;rw[y,m.new]at q;cases q
  refine⟨a,T',C,fl',H',rfl,zmL (T:=a) (s:={ s0 with heap:=h' }) I1 (by rw[hst];exact x a) ⟨he0,hHe,_,_,ht,rfl⟩ ⟨he0,hHe,_,_,ht,rfl⟩ (λp hp=>⟨pe p hp,pe p hp⟩),z,λp hp=>⟨pe p hp,λy=>?_⟩,hE⟩;obtain⟨q,_⟩:=I1.pin p hp;rw[y]at q;have wT':h'.get? T'=none:=wT;rw[show({ s0 with heap:=h' }:Shared).heap.get? T'=h'.get? T' from rfl,wT']at q;cases q
end
section
variable {P:Program}{w:World}{K:PySem.W.Frag}{mg:Str->Option Value}{base:Heap}{N:List Str}{qual:Str}{scope:Scope}{f:Addr}{cd:Value}{A:Around}{outer:List Env}{s s':Shared}{H:Hp}{E:XK}
theorem FlyM.leave {e:Value}(h:FlyM (cxOf (CXJ P w) P w K mg base N qual scope f cd A outer s H E) E e s'):(cxOf (CXJ P w) P w K mg base N qual scope f cd A outer s H E).xe e s':=by
 show wpAny _ _ (leaving _ e) _ _ s';unfold leaving;refine wpAny_bind (FlyM.note h rfl rfl rfl λs1 pins σ h1=>FlyI.flight h1 λs2 h2=>?_);obtain⟨a,T,cls,fl,H',rfl,I,ex,hp,hE⟩:=h2;exact⟨a,T,cls,fl,H',rfl,I.os,I.bare,I.base,I.hok,ex,hE⟩
end
section
variable {X:Cx}{E:XK}
theorem FlyM.pass (hex:X.ex=[]):zeq (CXJ X.prog X.w) (X.wish (FlyM X E)) E:=λpins σ H' s1 e s2 I h=>.inl ⟨pins,σ,FlyI.of I.zaT hex h⟩
theorem zkw {x:Str}{C:Addr}{bm:List Value}{e0:Expr}{te:TE}{np cpos pos:Pos}(he:PE (X.wish (FlyM X E)) e0 te)(hg:Gl X x)(hm:X.mg x=some (.ref C))(hx:ExcC X.K C bm)(hh:X.calm=true)
  (hd:autoParam ((x == ("__debug__" : Str))=false) aU1) (hst:autoParam (starEach [e0] X.env=[(false,eval e0 X.env)]) aU0) :
  PS (X.wish (FlyM X E)) (.Raise (some (.Call (.Name x np) [e0] [] cpos)) none pos) (λD σ H=>te σ H λv H'=>E (.ref C) none H'):=by
 intro pins s1 σ H1 D I h;obtain⟨N',nm,q,bs,hdct,sn,sub,ab,col,dd,k0,k1,k2,k3,k5,mN,hC,hN,hni,T⟩:=hx X.base I.ok.mod.kin;refine wpAny_Raise_call_subT (C:=C) (nm:=nm) (q:=q) (N:=N') (bs:=bs) (bm:=bm) (hdct:=hdct) (sn:=sn) (sub:=sub) (ab:=ab) (col:=col) (dd:=dd) (k0:=k0) (k1:=k1) (k2:=k2) (k3:=k3) (k5:=k5) (mN:=mN) PySem.F.excBase_ValueError (T.hasType (by decide)) (I.ok.hd hh)
  (by show(backTo cpos (starEach [e0] X.env)).any (·.1)=false;rw[hst];rfl) hni (zdA I hg hm ?_ hd)
 refine⟨rfl,?_⟩;show wpAny _ _ (evalArgs (.ref C) true (backTo cpos (starEach [e0] X.env)) []) _ _ _;rw[hst];refine Calls.evalArgs_plain (Calls.spliced_cons (thn (he pins s1 σ H1 _ I h) λu s2 q107q=>Calls.spliced_nil ?_));obtain⟨v,H2,I2,r,hE⟩:=q107q;exact⟨rfl,(by decide:1<=sizeLine),I2.bk _ _ hC,hN.keeps I2.bk,T.keeps I2.bk,λh' e m=>.inr ⟨s2,pins,σ,H2,e,.ref C,_,h',rfl,rfl,I2.zaT,m,hE⟩⟩
end
noncomputable def xOf (E:XK)(ρ:PEnv)(σ:St)(Fz:FZ)(H:Hp):Addr->Prop:=λC=>∀Fz' H',Step ρ σ Fz H Fz' H'->E (.ref C) none H'
theorem zgg {E:XK}{ρ ρ':PEnv}{σ σ':St}{Fz Fz':FZ}{H H':Hp}(s:Step ρ σ Fz H Fz' H')(oi:zaz ρ σ H ρ' σ'):∀C,xOf E ρ σ Fz H C->xOf E ρ' σ' Fz' H' C:=λC h F2 H2 s2=>h F2 H2 (s.trans oi s2)
noncomputable abbrev TXS:=(Addr->Prop)->TPS
noncomputable abbrev TXE:=(Addr->Prop)->TPE
noncomputable def znM (K:PySem.W.Frag)(E:XK)(t:TXS):TS:=λD σ H=>∃ρ Fz,Rel K Fz ρ σ H/\t (xOf E ρ σ Fz H) ρ (zct K D ρ σ Fz H)
structure PuX (X:Cx)(E:XK)(st:Stmt)(t:TXS):Prop where
 mono:∀Z Z' ρ O O',(∀c,Z c->Z' c)->O.le O'->t Z ρ O->t Z' ρ O'
 run:PS X st (znM X.K E t)
structure PuXs (X:Cx)(E:XK)(st:List Stmt)(t:TXS):Prop where
 mono:∀Z Z' ρ O O',(∀c,Z c->Z' c)->O.le O'->t Z ρ O->t Z' ρ O'
 run:PSs X st (znM X.K E t)
noncomputable def zeD (K:PySem.W.Frag)(E:XK)(t:TXE):TE:=λσ H Q=>∃ρ Fz,Rel K Fz ρ σ H/\t (xOf E ρ σ Fz H) ρ λd k=>∀v Fz' H',Post K ρ σ Fz H Fz' H' d k v->Q v H'
structure PuXE (X:Cx)(E:XK)(e:Expr)(t:TXE):Prop where
 mono:∀Z Z' ρ Q Q',(∀c,Z c->Z' c)->(∀d k,Q d k->Q' d k)->t Z ρ Q->t Z' ρ Q'
 run:PE X e (zeD X.K E t)
section
variable {X:Cx}{E:XK}{st:Stmt}{rest:List Stmt}{t:TPS}{tx ux:TXS}{e:Expr}{te:TPE}{pos:Pos}
theorem ziD (h:PuS X st t):PuX X E st (λ_=>t):=⟨λ_ _ ρ O O' _ m q=>h.mono ρ O O' m q,h.run⟩
theorem zcV:PuXs X E [] (λ_=>zei):=⟨λ_ _ ρ O O' _ m q=>m.nx _ q,zam.run⟩
theorem zbx (h:PuX X E st tx):PuXs X E [st] tx:=⟨h.mono,zgB h.run⟩
theorem zaR (h1:PuX X E st tx)(h2:PuXs X E rest ux):PuXs X E (st::rest) (λZ=>pSeq (tx Z) (ux Z)) where
 mono Z Z' ρ O O' z m h:=h1.mono Z Z' ρ { O with nx:=λρ'=>ux Z ρ' O } _ z ⟨λρ' q=>h2.mono Z Z' ρ' _ _ z m q,m.rt,m.bk,m.ct⟩ h
 run:=PSs.weak (zbr h1.run h2.run) λD σ H h=>by
  obtain⟨ρ,Fz,R,h⟩:=h;refine⟨ρ,Fz,R,h1.mono _ _ ρ { zct X.K D ρ σ Fz H with nx:=λρ'=>ux (xOf E ρ σ Fz H) ρ' (zct X.K D ρ σ Fz H) } _ (λ_ z=>z) ⟨λρ' q=>?_,λ_ _ q=>q,λ_ q=>q,λ_ q=>q⟩ h⟩;intro σ' Fz' H' s oi R';exact⟨ρ',Fz',R',h2.mono _ _ ρ' _ _ (zgg s oi) (zbd s oi) q⟩
theorem ziE {c:Expr}{a b:List Stmt}{tc:TPT}(hc:PuT X c tc)(ha:PuXs X E a tx)(hb:PuXs X E b ux):PuX X E (.If c a b pos) (λZ=>pIf tc (tx Z) (ux Z)) where
 mono Z Z' ρ O O' z m h:=hc.mono ρ _ _ (λd q=>by
  cases d with
  | true=>rw[if_pos rfl]at q ⊢;exact ha.mono _ _ ρ _ _ z m q
  | false=>rw[if_neg Bool.false_ne_true]at q ⊢;exact hb.mono _ _ ρ _ _ z m q) h
 run:=PS.weak (zlj hc.run ha.run hb.run) λD σ H h=>by
  obtain⟨ρ,Fz,R,h⟩:=h;refine⟨ρ,Fz,R,hc.mono ρ _ _ (λd q Fz' H' x=>?_) h⟩;cases d with
  | true=>
   rw[if_pos rfl]at q ⊢;exact⟨ρ,Fz',R.ext x,ha.mono _ _ ρ _ _ (zgg (.of x) (zaz.refl ρ σ H)) (zbd (.of x) (zaz.refl ρ σ H)) q⟩
  | false=>
   rw[if_neg Bool.false_ne_true]at q ⊢;exact⟨ρ,Fz',R.ext x,hb.mono _ _ ρ _ _ (zgg (.of x) (zaz.refl ρ σ H)) (zbd (.of x) (zaz.refl ρ σ H)) q⟩
end
section
variable {X:Cx}{E:XK}
noncomputable def zkx (C:Addr)(te:TPE):TXS:=λZ ρ O=>te ρ λ_ _=>Z C
theorem zcj {x:Str}{C:Addr}{bm:List Value}{e0:Expr}{te:TPE}{np cpos pos:Pos}(he:PuE (X.wish (FlyM X E)) e0 te)(hg:Gl X x)(hm:X.mg x=some (.ref C))(hx:ExcC X.K C bm)(hh:X.calm=true)
  (hd:autoParam ((x == ("__debug__" : Str))=false) aU1) (hst:autoParam (starEach [e0] X.env=[(false,eval e0 X.env)]) aU0) :
  PuX (X.wish (FlyM X E)) E (.Raise (some (.Call (.Name x np) [e0] [] cpos)) none pos) (zkx C te) where
 mono Z Z' ρ O O' z m h:=he.mono ρ _ _ (λ_ _ q=>z _ q) h
 run:=PS.weak (zkw he.run hg hm hx hh hd hst) λD σ H h=>by
  obtain⟨ρ,Fz,R,h⟩:=h;exact⟨ρ,Fz,R,he.mono ρ _ _ (λd k q v F' H' p=>q F' H' (.of p.ext)) h⟩
end
noncomputable abbrev PFX:=List PV->(PV->Kd->Prop)->(Addr->Prop)->Prop
noncomputable def zgW (F:PFX):Prop:=∀ds Q Q' Z Z',(∀d k,Q d k->Q' d k)->(∀c,Z c->Z' c)->F ds Q Z->F ds Q' Z'
noncomputable def spPX (K:PySem.W.Frag)(F:PFX):Sp:=λvs H Q E=>∃Fz ds,(∀b,Fz b->H b≠none)/\DenL K Fz H ds vs/\F ds (λd k=>∀v Fz' H',Post K [] [] Fz H Fz' H' d k v->Q v H') (λC=>∀H',Same H H'->E (.ref C) none H')
section
variable {P:Program}{w:World}{K:PySem.W.Frag}{mg:Str->Option Value}{base:Heap}
theorem PSs.zqJ {X:Cx}{E:Value->Shared->Prop}{st:List Stmt}{t:TS}(h:PSs (X.wish E) st t)(m:∀e s',E e s'->X.xe e s'):PSs X st t:=λpins s σ H D I hw=>
 wpAny_mono (h pins s σ H D (I.wish _) hw) (λ_ _ q=>q.zaT) m
theorem zdv {x qual:Str}{st:Stmt}{f:Addr}{fd:FuncData}{N ps:List Str}{k:Nat}{F:PFX}(Fn:Fun K x qual st f fd)(S:zaq N ps (zac st))(len:∀ds Q Z,F ds Q Z->ds.length=ps.length)
  (hbody:∀(cdv:Value) (A:Around) (outer:List Env) (s:Shared) (H:Hp) (E:XK),Room k (A.deeper (envOfC qual (zac st) s.heap.objs.size f cdv))->
   ∃t,PuXs ((cxOf (CXJ P w) P w K mg base N qual (zac st) f cdv A outer s H E).wish (FlyM (cxOf (CXJ P w) P w K mg base N qual (zac st) f cdv A outer s H E) E)) E (zap st) t/\∀ds Q Z,F ds Q Z->t Z (zaV N ds) (zbR Q)):FnOk P w K mg base (CXJ P w) (k+1) f fd ps (spPX K F):=by
 obtain⟨oc,od,kV,doc,pm,an,cdv,ct,osl,rfl,lk,hcd⟩:=Fn.ex;refine zoK lk hcd S (λvs H Q E q108q=>by obtain⟨Fz,ds,_,hd,q⟩:=q108q;rw[<- hd.length];exact len _ _ _ q) λA outer s H vs Q E hr h=>?_;obtain⟨t,ht,hq⟩:=hbody cdv A outer s H E hr;obtain⟨Fz,ds,al,hd,h⟩:=h;obtain⟨R,no⟩:=zdL (N:=N) al hd;refine⟨_,PSs.zqJ ht.run (λe s' h=>FlyM.leave h),zaV N ds,Fz,R,ht.mono _ _ _ (zbR _) _ (λC q F' H' s'=>q H' λb o e=>s'.keep b o e (no _ b)) ⟨λρ' q σ' F' H' s' o' R'=>?_,λd k q v F' H' s' al' r=>?_,λ_ z=>z.elim,λ_ z=>z.elim⟩ (hq ds _ _ h)⟩
 ·exact q .non F' H' ⟨⟨λb o e=>s'.keep b o e (no _ b),s'.sub,λb hb=>(s'.new b hb).elim .inl (λz=>z.elim .inr (λz=>(no _ b z).elim)),R'.al⟩,by show Den _ _ _ _ _;simp only[Den]⟩
 ·refine q v F' H' ⟨⟨λb o e=>s'.keep b o e (no _ b),s'.sub,λb hb=>(s'.new b hb).elim .inl (λz=>z.elim .inr (λz=>(no _ b z).elim)),al'⟩,?_⟩;cases k with
  | frz=>exact r
  | own i=>exact r.elim
  | new=>
   obtain⟨a,e,nf,o,w⟩:=r;exact⟨a,e,w.resolve_left (no _ a),nf,o⟩
end
section
variable {X:Cx}{E:XK}{k:Nat}{f:Addr}{fd:FuncData}{ps:List Str}{F:PFX}{x:Str}{p pos:Pos}{e:Expr}{es:List Expr}{t:TPA}
noncomputable def zdc (F:PFX)(t:TPA):TXE:=λZ ρ Q=>t ρ λops=>noOwn ops=true/\F (ops.map (·.1)) Q Z
theorem zgX (G:FnOk X.prog X.w X.K X.mg X.base (CXJ X.prog X.w) k f fd ps (spPX X.K F))(m:zgW F)(hr:Room k X.A)(hg:Gl X x)(hm:X.mg x=some (.ref f))(hk:PySem.W.keepIn X.K (.ref f)=true)(hb:Binds X.K fd ps [])(hp:zeq (CXJ X.prog X.w) X E)(ha:PuA X (e::es) t)
  (hd:autoParam ((x == ("__debug__" : Str))=false) aU1) (he:autoParam (starEach (e::es) X.env=(false,eval e X.env)::starEach es X.env) aU0) (hpl:autoParam ((backTo pos (starEach es X.env)).any (·.1)=false) aU0) :
  PuXE X E (.Call (.Name x p) (e::es) [] pos) (zdc F t) where
 mono Z Z' ρ Q Q' z mm h:=ha.mono ρ _ _ (λops h=>⟨h.1,m _ _ _ _ _ mm z h.2⟩) h
 run:=PE.weak (zjg G hr hg hm hk hb .nil hp ha.run hd he hpl) λσ H Q h=>by
  obtain⟨ρ,Fz,R,h⟩:=h;refine⟨ρ,Fz,R,ha.mono ρ _ _ (λops h vs Fz' H' x o=>?_) h⟩;obtain⟨hn,h⟩:=h;show spPX X.K F (vs++[]) H' Q E;rw[List.append_nil];obtain⟨F2,x2,s2,h2⟩:=o.frozen x hn;refine⟨F2,ops.map (·.1),x2.al,h2,m _ _ _ _ _ (λd k q v Fz3 H3 p3=>q v Fz3 H3 (p3.behind x2)) (λC q H3 sm=>q F2 H3 (.of ⟨x2.same.trans sm,x2.sub,x2.new,λb hb z=>x2.al b hb (sm.free z)⟩)) h⟩
end
section
variable {X:Cx}{E:XK}{elt tg iter:Expr}{sc:Scope}{pos:Pos}{N:List Str}{k:Nat}{js:List Nat}{ti:TPI}{g:TPG}{te:TXE}
structure ziF (X:Cx)(E:XK)(N:List Str)(sc:Scope)(tg elt:Expr)(g:TPG)(te:TXE):Prop where
 tgt:∀C cells fp s H,PuG (cxB X N sc C cells fp s H) tg g
 val:∀C cells fp s H,PuXE ((cxB X N sc C cells fp s H).wish (XB (cxB X N sc C cells fp s H) E)) E elt te
theorem ziG (nd:js.Nodup)(hloc:LocG k g)(B:ziF X E N sc tg elt g te){ρ:PEnv}{σ:St}{H H1:Hp}{Fz1:FZ}{o:Bool}{J:It}{its:List PV}{l:Addr}{Rr:Hp->Prop}{Z:Addr->Prop}(R1:Rel X.K Fz1 ρ σ H1)(wk:Walk X.K Fz1 o J its H1)(hl:H1 l=none)(hz:its.length<=sizeLine)(hZ:∀c,Z c->xOf E ρ σ Fz1 H1 c)(Pv:Nat->List PV->Prop)(h0:Pv 0 [])
  (hstep:∀i d out,its[i]? = some d->out.length<=i->Pv i out->g d (blkP k js ρ) λρ2=>te Z ρ2 λe ke=>isOwn ke=false/\Pv (i+1) (out++[e]))
  (hdone:∀F' out xs H',Ext Fz1 H1 F' H'->H' l=some (.lst xs)->DenL X.K F' H' out xs->¬ F' l->out.length<=its.length->Pv its.length out->Rr H') :
  zfJ J (zfT X.K g) (liftT X.K zdh) (zeD X.K E te) l (zbV k js σ) H1 Rr:=by
 have mg:=(B.tgt 0 [] [] X.s₀ H).mono;have me:=(B.val 0 [] [] X.s₀ H).mono;have nf1:¬ Fz1 l:=λz=>R1.al l z hl;have no1:¬ zaG ρ σ l:=λ⟨i,d,h1,h2⟩=>by
  obtain⟨a,q1,_,q3⟩:=R1.own i d h1;rw[h2]at q1;cases q1;obtain⟨o',q4,_⟩:=q3.at;rw[hl]at q4;cases q4
 refine⟨λi m σ' H'=>m=its.length-i/\i<=its.length/\∃F' out xs,Rel X.K F' (blkP k js ρ) σ' H'/\(∀b,zaG (blkP k js ρ) σ' b->zaG ρ σ b)/\H' l=some (.lst xs)/\DenL X.K F' H' out xs/\¬ F' l/\out.length<=i/\Pv i out/\Same H1 H'/\(∀b,Fz1 b->F' b)/\(∀b,F' b->Fz1 b\/H1 b=none),
  ⟨its.length,by lia,Nat.zero_le _,Fz1,[],[],?_,λb hb=>zjE R1 hb,zat,DenL.nil,nf1,Nat.zero_le _,h0,(Same.refl H1).upd' hl,λ_ h=>h,λ_ h=>.inl h⟩,?_⟩
 ·have x0:Ext Fz1 H1 Fz1 (upd H1 l (.lst [])):=Ext.laid ⟨Same.refl _,λ_ h=>h,λ_ h=>.inl h,R1.al⟩ hl;exact(R1.block nd).ext x0
 rintro i m σ' H' ⟨rfl,hle,F',out,xs,Rb,ob,hlx,hout,nfl,hol,hP,sm,s1,s2⟩;obtain⟨wgo,wstop⟩:=wk H' (.inl sm) i;by_cases hlt:i<its.length
 ·obtain⟨go,yl⟩:=wgo its[i] (List.getElem?_eq_getElem hlt);refine .inr ⟨go,λxv H2 y=>?_⟩;obtain⟨sm2,dn⟩:=yl xv H2 y;have x2:Ext F' H' F' H2:=⟨sm2,λ_ h=>h,λ_ h=>.inl h,λb hb z=>Rb.al b hb (sm2.free z)⟩;refine⟨blkP k js ρ,F',its[i],Rb.ext x2,Den.mono (Keep.of (Same.refl _)) s1 _ _ dn,mg _ _ _ _ (λρ2 ⟨q,l2,a2⟩ σ2 R2 o2=>?_) (hloc _ _ _ (hstep i its[i] out (List.getElem?_eq_getElem hlt) hol hP))⟩;refine⟨ρ2,F',R2,λF4 H4 x4=>?_⟩;have R4:Rel X.K F4 ρ2 σ2 H4:=R2.ext x4;have own2:∀b,zaG (blkP k js ρ) σ2 b->zaG ρ σ b:=λb ⟨j,d,h1,h2⟩=>by
   refine ob b (o2 b ⟨j,d,?_,h2⟩);obtain⟨i',j',e,_⟩:=zbY h1;rw[a2 j (by lia)];exact h1
  have own3:zaz ρ σ H1 ρ2 σ2:=λb hb=>.inl (ob b (o2 b hb));have hl4:H4 l=some (.lst xs):=x4.same _ _ (sm2 _ _ hlx);have nf4:¬ F4 l:=λz=>by
   rcases x4.new l z with z | z
   ·exact nfl z
   ·rw[sm2 _ _ hlx]at z;cases z
  have x14:Ext Fz1 H1 F4 H4:=⟨sm.trans (sm2.trans x4.same),λb hb=>x4.sub b (s1 b hb),λb hb=>by
   rcases x4.new b hb with z | z
   ·exact s2 b z
   ·exact .inr (sm.free (sm2.free z)),x4.al⟩
  refine iteT ⟨ρ2,F4,R4,me Z _ ρ2 _ _ (λc z=>zgg (.of x14) own3 c (hZ c z)) (λe ke q112q v F5 H5 p5=>?_) q⟩;obtain⟨hk,q⟩:=q112q;have hk':ke=.frz\/ke=.new:=by
   cases ke with
   | frz=>exact .inl rfl
   | new=>exact .inr rfl
   | own j=>cases hk
  obtain⟨F6,x6,s6,d6⟩:=p5.frozen hk';have hl5:H5 l=some (.lst xs):=x6.same _ _ hl4;have nf6:¬ F6 l:=λz=>by
   rcases x6.new l z with z | z
   ·exact nf4 z
   ·rw[hl4]at z;cases z
  have R6:Rel X.K F6 ρ2 σ2 H5:=R4.ext x6;have Rb6:Rel X.K F6 (blkP k js ρ) σ2 H5:=Rel.zgK R6 l2 a2;have no6:¬ zaG (blkP k js ρ) σ2 l:=λz=>no1 (own2 l z);have kp:Keep F6 H5 (upd H5 l (.lst (xs++[v]))):=.mk' λb w e hw=>by
   have ne:b≠l:=λz=>by
    subst z;rcases hw with hw | hw
    ·exact nf6 hw
    ·rw[hl5]at e;cases e;exact hw
   rw[zao ne];exact e
  have hxl:=hout.length;refine⟨xs,hl5,by lia,its.length-(i+1),by lia,rfl,hlt,F6,out++[e],xs++[v],Rb6.other hl5 (λz=>z) nf6 no6,own2,zat,?_,nf6,by rw[List.length_append];simp;lia,q,?_,λb hb=>x6.sub b (x4.sub b (s1 b hb)),λb hb=>?_⟩
  ·exact DenL.mono kp (λ_ h=>h) _ _ (DenL.snoc (DenL.mono (.of (sm2.trans (x4.same.trans x6.same))) (λb hb=>x6.sub b (x4.sub b hb)) _ _ hout) d6)
  ·exact(sm.trans (sm2.trans (x4.same.trans x6.same))).upd' hl
  ·rcases x6.new b hb with z | z
   ·rcases x4.new b z with z | z
    ·exact s2 b z
    ·exact .inr (sm.free (sm2.free z))
   ·exact .inr (sm.free (sm2.free (x4.same.free z)))
 ·have e:i=its.length:=by lia
  subst e;exact .inl ⟨wstop (Nat.le_refl _),hdone F' out xs H' ⟨sm,s1,s2,Rb.al⟩ hlx hout nfl hol hP⟩
theorem ziF.blk (B:ziF X E N sc tg elt g te):BlkX X N sc tg [] elt (zfT X.K g) (liftT X.K zdh) (zeD X.K E te) E:=
 ⟨λC cells fp s H=>(B.tgt C cells fp s H).run,λC cells fp s H=>zbh.run,λC cells fp s H=>(B.val C cells fp s H).run⟩
end
theorem FlyI.zaT {X:Cx}{F:Value->Shared->Prop}{pins:List (Addr×Obj)}{σ:St}{E:XK}{e:Value}{s':Shared}(h:FlyI (X.wish F) pins σ E e s'):FlyI X pins σ E e s':=by
 obtain⟨a,T,cls,fl,H',rfl,I,ex,hp,hE⟩:=h;exact⟨a,T,cls,fl,H',rfl,I.zaT,ex,hp,hE⟩
noncomputable def Its (x:Str):It:=⟨λi _=>i<x.cps.size,λi H v H'=>H'=H/\∃c,x.cps[i]? = some c/\v=.str ⟨#[c]⟩,λi _=>x.cps.size<=i⟩
theorem zky {P:Program}{w:World}{K:PySem.W.Frag}{tg:Expr}(x:Str)(t:Tok)(it:Addr):Turn P w K tg (Its x) [it] it (λi h=>h.IsStrIter it "str_ascii_iterator" x t i) where
 mem:=by simp
 obj:=λi h st b hb=>by
  have e:b=it:=by simpa using hb
  subst e;obtain⟨o,e,c,d⟩:=st;exact⟨o,e,λv z=>by rw[d]at z;cases z⟩
 keep:=λi h h' st k=>by
  obtain⟨o,e,c,d⟩:=st;exact⟨o,k it (by simp) o e,c,d⟩
 item:=by
  intro X hP hw hK hc i pins s σ H E I hf st hg;subst hP hw hK;have hi:i<x.cps.size:=hg;obtain⟨f0,f1,f2,f3,f4,f5⟩:=hf it (by simp);refine wpAny_pyNext_ascii_item st (c:=x.cps[i]) (by simp[hi]) λh' st' sb=>?_;have I1:Inv X pins σ H { s with heap:=h',toks:=s.toks+1 }:=I.turned (t':=s.toks+1) (λb o hb e=>(sb.2 b hb).trans e) f0 f1 f3 f4 f5;obtain⟨o,e,c,d⟩:=id st';exact⟨_,rfl,ziZ (s:={ s with heap:=h',toks:=s.toks+1 }) e c d (by decide) ⟨.str ⟨#[x.cps[i]]⟩,H,I1,⟨_,rfl⟩,⟨rfl,_,by simp[hi],rfl⟩,st',λb hb=>(hf b hb).1⟩⟩
 done:=by
  intro X hP hw hK hc i pins s σ H E I hf st hg;subst hP hw hK;have hi:x.cps.size<=i:=hg;obtain⟨f0,f1,f2,f3,f4,f5⟩:=hf it (by simp);exact wpAny_pyNext_ascii_end (I.ok.hd hc) st (by simp[hi]) λh' eb=>⟨rfl,I.turned (t':=s.toks) (λb o hb e=>eb b o hb e) f0 f1 f3 f4 f5⟩
 self:=λ_ _ _ _ _ st h=>wpAny_pyIter_striter_ascii st h
theorem zkz {P:Program}{w:World}{K:PySem.W.Frag}{tg:Expr}(x:Str)(t:Tok)(it:Addr):Turn P w K tg (Its x) [it] it (λi h=>h.IsStrIter it "str_iterator" x t i) where
 mem:=by simp
 obj:=λi h st b hb=>by
  have e:b=it:=by simpa using hb
  subst e;obtain⟨o,e,c,d⟩:=st;exact⟨o,e,λv z=>by rw[d]at z;cases z⟩
 keep:=λi h h' st k=>by
  obtain⟨o,e,c,d⟩:=st;exact⟨o,k it (by simp) o e,c,d⟩
 item:=by
  intro X hP hw hK hc i pins s σ H E I hf st hg;subst hP hw hK;have hi:i<x.cps.size:=hg;obtain⟨f0,f1,f2,f3,f4,f5⟩:=hf it (by simp);refine wpAny_pyNext_wide_item st (c:=x.cps[i]) (by simp[hi]) λh' st' sb=>?_;have I1:Inv X pins σ H { s with heap:=h',toks:=s.toks+1 }:=I.turned (t':=s.toks+1) (λb o hb e=>(sb.2 b hb).trans e) f0 f1 f3 f4 f5;obtain⟨o,e,c,d⟩:=id st';exact⟨_,rfl,ziZ (s:={ s with heap:=h',toks:=s.toks+1 }) e c d (by decide) ⟨.str ⟨#[x.cps[i]]⟩,H,I1,⟨_,rfl⟩,⟨rfl,_,by simp[hi],rfl⟩,st',λb hb=>(hf b hb).1⟩⟩
 done:=by
  intro X hP hw hK hc i pins s σ H E I hf st hg;subst hP hw hK;have hi:x.cps.size<=i:=hg;obtain⟨f0,f1,f2,f3,f4,f5⟩:=hf it (by simp);exact wpAny_pyNext_wide_end (I.ok.hd hc) st (by simp[hi]) λh' eb=>⟨rfl,I.turned (t':=s.toks) (λb o hb e=>eb b o hb e) f0 f1 f3 f4 f5⟩
 self:=λ_ _ _ _ _ st h=>wpAny_pyIter_striter_wide st h
section
variable {X:Cx}{tg e:Expr}{te:TPE}
theorem zpM {l:Expr}{tl:TE}(hl:PE X l tl):PI X tg l (λσ H R=>tl σ H λx H1=>∃y,x=.str y/\R (Its y) H1):=by
 intro pins s σ H R I h;refine thn (hl pins s σ H _ I h) λv s1 q113q=>?_;obtain⟨x,H1,I1,r1,q1⟩:=q113q;obtain⟨y,e,q⟩:=q1;subst e;obtain⟨t,rfl⟩:=r1;have fp:∀b∈[s1.heap.objs.size],FpOk X pins H1 b:=λb hb=>by
  have e:b=s1.heap.objs.size:=by simpa using hb
  subst e;exact I1.fpOk (Nat.le_refl _) (I1.hok.fresh (Nat.le_refl _))
 cases ha:y.cps.all (· < 128)
 ·exact wpAny_pyIter_wide ha ⟨s1.heap.objs.size,[s1.heap.objs.size],_,_,H1,rfl,I1.kept (t':=s1.toks) λb o e=>Heap.get?_push_of_some _ e,zkz y t _,⟨_,Heap.get?_push_size _ rfl,rfl,rfl⟩,fp,q⟩
 ·exact wpAny_pyIter_ascii ha ⟨s1.heap.objs.size,[s1.heap.objs.size],_,_,H1,rfl,I1.kept (t':=s1.toks) λb o e=>Heap.get?_push_of_some _ e,zky y t _,⟨_,Heap.get?_push_size _ rfl,rfl,rfl⟩,fp,q⟩
noncomputable def zlQ (te:TPE):TPI:=λρ Q=>te ρ λd _=>∃x,d=.str x/\Q ((signs x).map PV.str) false
theorem zlR {K:PySem.W.Frag}{Fz:FZ}{x:Str}{H:Hp}:Walk K Fz false (Its x) ((signs x).map PV.str) H:=λH2 _ i=>by
 have hl:((signs x).map PV.str).length=x.cps.size:=by simp[signs]
 refine⟨λd hd=>?_,λhi=>by rw[hl]at hi;exact hi⟩;have h1:i<x.cps.size:=by have:=(List.getElem?_eq_some_iff.mp hd).1;rw[hl]at this;exact this
 have e:d=.str ⟨#[x.cps[i]]⟩:=by
  simp only[signs,List.getElem?_map,Array.getElem?_toList,Array.getElem?_eq_getElem h1,Option.map_some]at hd;exact(Option.some.inj hd).symm
 refine⟨h1,λv H3 q114q=>?_⟩;obtain⟨e3,c,hc,y⟩:=q114q;subst e3 y e;rw[Array.getElem?_eq_getElem h1]at hc;cases hc;exact⟨Same.refl _,by simp only[Den]⟩
theorem zkA (he:PuE X e te):PuI X tg e (zlQ te) where
 mono ρ Q Q' m h:=he.mono ρ _ _ (λd k q115q=>by obtain⟨ds,e,q⟩:=q115q;exact⟨ds,e,m _ _ q⟩) h
 run:=PI.weak (zpM he.run) λσ H Rr h=>by
  obtain⟨ρ,Fz,R,h⟩:=h;refine⟨ρ,Fz,R,he.mono ρ _ _ (λd k q v Fz' H' p=>?_) h⟩;obtain⟨x,rfl,q⟩:=q;exact⟨x,zal (p.root R),q _ Fz' H' p.ext zlR⟩
end
section
variable {X:Cx}{a b e o:Expr}{ta tb te to:TPE}{p pos apos cpos:Pos}
theorem zlS:MtR X "str.split" (λx xs H Q=>∃u v,x=.str u/\xs=[.str v]/\v.length≠0/\u.length<=sizeLine/\(Txt.split u v).length<=sizeLine/\∀l,H l=none->Q (.ref l) (upd H l (.lst ((Txt.split u v).map V.str)))):=by
 intro pins s σ H x xs u us Q I rx r h;obtain⟨y,z,rfl,rfl,hz,h1,h2,q⟩:=h;obtain⟨t1,rfl⟩:=rx;obtain⟨w,rfl,t2,rfl⟩:=vals1 r;have hv:∀(l:List (Str×Tok)) (zs:List Str),l.map (·.1)=zs->Vals (zs.map V.str) (strValues l):=λl=>by
  induction l with
  | nil=>intro zs e;subst e;exact .nil
  | cons p l ih=>intro zs e;subst e;exact .cons ⟨p.2,rfl⟩ (ih _ rfl)
 have fin:∀(l:List (Str×Tok)) (tk:Nat),l.map (·.1)=Txt.split y z->EP X pins σ Q (.ref s.heap.objs.size) { s with heap:=s.heap.push { cls:=.type "list",data:=.seq (strValues l).toArray },toks:=tk }:=λl tk e=>
  ⟨.ref s.heap.objs.size,_,I.lnew (t':=tk) (hv l _ e) (by rw[List.length_map];exact h2),rfl,q _ I.fresh⟩
 have hy:(z.length == 0)=false:=by simpa using hz
 cases c1:(decide (y.length<z.length)||decide (Builtin.Str.strKind y<Builtin.Str.strKind z))
 ·cases hf:(Builtin.Str.occurrences y z 0 y.length (y.length+1)).isEmpty
  ·have es:Txt.split y z=Builtin.Str.partsBetween y (Builtin.Str.occurrences y z 0 y.length (y.length+1)) z.length:=(if_neg (ne_true_of_eq_false c1)).trans (if_neg (ne_true_of_eq_false hf));refine call_meets PySem.F.slot_str_split (typeIs_str _ _ _) PySem.F.entry_str_split (PySem.F.args_str_split_2 _ _) (meets_str_split_sep y z t1 t2 c1 hy hf h1 (by rw[<- es];exact h2)) ?_;show wants _ _ _ { s with toks:=_,heap:=s.heap.push { cls:=.type "list",data:=.seq (strsFrom s.toks (Builtin.Str.partsBetween y (Builtin.Str.occurrences y z 0 y.length (y.length+1)) z.length)).toArray } };rw[strsFrom_eq];exact fin (numbered s.toks _) _ ((numbered_texts _ _).trans es.symm)
  ·exact call_meets PySem.F.slot_str_split (typeIs_str _ _ _) PySem.F.entry_str_split (PySem.F.args_str_split_2 _ _) (meets_str_split_not_found y z t1 t2 c1 hy hf) (fin [(y,t1)] _ ((if_neg (ne_true_of_eq_false c1)).trans (if_pos hf)).symm)
 ·exact call_meets PySem.F.slot_str_split (typeIs_str _ _ _) PySem.F.entry_str_split (PySem.F.args_str_split_2 _ _) (meets_str_split_cannot_occur y z t1 t2 c1) (fin [(y,t1)] _ (if_pos c1).symm)
noncomputable def zhX (to te:TPE):TPE:=λρ Q=>to ρ λd _=>∃u,d=.str u/\te ρ λe _=>∃v,e=.str v/\v.length≠0/\u.length<=sizeLine/\(Txt.split u v).length<=sizeLine/\Q (.lst ((Txt.split u v).map PV.str)) .new
theorem zdw (ho:PuE X o to)(he:PuE X e te)(m:autoParam (M1 X o "split" apos e cpos) aU8):PuE X (.Call (.Attribute o "split" apos) [e] [] cpos) (zhX to te) where
 mono ρ Q Q' mm h:=ho.mono ρ _ _ (λd _ q116q=>by obtain⟨u,e1,h⟩:=q116q;exact⟨u,e1,he.mono ρ _ _ (λe _ q117q=>by obtain⟨v,e2,h1,h2,h3,q⟩:=q117q;exact⟨v,e2,h1,h2,h3,mm _ _ q⟩) h⟩) h
 run:=PE.weak (zpF PySem.F.slot_str_split PySem.F.type_str_split zlS ho.run he.run m) λσ H Q h=>by
  obtain⟨ρ,Fz,R,h⟩:=h;refine⟨ρ,Fz,R,ho.mono ρ _ _ (λd k q v F1 H1 p1=>?_) h⟩;obtain⟨u,rfl,q⟩:=q;refine⟨u,zal (p1.root R),ρ,F1,R.ext p1.ext,he.mono ρ _ _ (λe ke q w F2 H2 p2=>?_) q⟩;obtain⟨y,rfl,h1,h2,h3,q⟩:=q;exact⟨u,y,zal (p1.root R),by rw[zal (p2.root (R.ext p1.ext))],h1,h2,h3,λl hl=>q _ F2 _ ((Post.newL p2.ext.al hl (zfX _)).behind (p1.ext.trans p2.ext))⟩
noncomputable def inS (x y:Str):Bool:=!(Builtin.Str.occurrences y x 0 y.length 1).isEmpty
noncomputable def pInS (neg:Bool):P2:=λd e Q=>∃x y,d=.str x/\e=.str y/\Q (.bl (if neg then !inS x y else inS x y)) .frz
theorem zpN {K:PySem.W.Frag}:POp K (λx y H Q=>∃i j,x=.str i/\y=.str j/\Q (.bl (!(Builtin.Str.occurrences j i 0 j.length 1).isEmpty)) H) (pInS false) where
 mono d e Q Q' m h:=by obtain⟨x,y,e1,e2,q⟩:=h;exact⟨x,y,e1,e2,m _ _ q⟩
 run Fz H x y d e Q al rx ry h:=by
  obtain⟨u,v,rfl,rfl,q⟩:=h;exact⟨u,v,zal rx,zal ry,q _ Fz H (.val al (by simp only[Den];rfl))⟩
theorem znN {K:PySem.W.Frag}:POp K (λx y H Q=>∃i j,x=.str i/\y=.str j/\Q (.bl (!(!(Builtin.Str.occurrences j i 0 j.length 1).isEmpty))) H) (pInS true) where
 mono d e Q Q' m h:=by obtain⟨x,y,e1,e2,q⟩:=h;exact⟨x,y,e1,e2,m _ _ q⟩
 run Fz H x y d e Q al rx ry h:=by
  obtain⟨u,v,rfl,rfl,q⟩:=h;exact⟨u,v,zal rx,zal ry,q _ Fz H (.val al (by simp only[Den];rfl))⟩
end
section
variable {X:Cx}{E:XK}{e:Expr}{ee:TXE}{pos:Pos}
theorem zgh {i:Nat}(he:∀Z Z' ρ Q Q',(∀c,Z c->Z' c)->(∀d k,Q d k->Q' d k)->ee Z ρ Q->ee Z' ρ Q'){D:Ends}{σ:St}{H:Hp}(h:znM X.K E (λZ=>pSet i (ee Z)) D σ H):tAsg (zeD X.K E ee) (zlk i) D σ H:=by
 obtain⟨ρ,Fz,R,h⟩:=h;refine⟨ρ,Fz,R,he _ _ ρ _ _ (λ_ z=>z) (λd k q v Fz' H' p=>?_) h⟩;show D.nx (σ.set i (some v)) H';have R':=R.ext p.ext;cases k with
 | frz=>exact(show(zct X.K D ρ σ Fz H).nx (ρ.set i (some (d,false))) from q) _ Fz' H' (.of p.ext) (λb hb=>.inl (zeX b hb)) (R'.set p.opd)
 | own j=>exact q.elim
 | new=>
  obtain⟨a,e,hn,nf,o⟩:=p.opd;subst e;have hno:¬ zaG ρ σ a:=λ⟨j,e,h1,h2⟩=>by
   obtain⟨b,q1,_,q2⟩:=R.own j e h1;rw[h2]at q1;cases q1;obtain⟨o',q3,_⟩:=q2.at;rw[hn]at q3;cases q3
  refine(show(zct X.K D ρ σ Fz H).nx (ρ.set i (some (d,true))) from q) _ Fz' H' (.of p.ext) (λb hb=>?_) (R'.zmv nf o hno);rcases zet b hb with rfl | hb
  ·exact .inr hn
  ·exact .inl hb
theorem zea {i:Nat}(he:∀Z Z' ρ Q Q',(∀c,Z c->Z' c)->(∀d k,Q d k->Q' d k)->ee Z ρ Q->ee Z' ρ Q'):∀Z Z' ρ O O',(∀c,Z c->Z' c)->POut.le O O'->pSet i (ee Z) ρ O->pSet i (ee Z') ρ O':=λZ Z' ρ O O' z m h=>he Z Z' ρ _ _ z (λd k q=>by
 cases k with
 | frz=>exact m.nx _ q
 | new=>exact m.nx _ q
 | own j=>exact q) h
theorem zkB {i:Nat}{x:Str}{pos':Pos}(hN:X.N.Nodup)(hi:X.N[i]? = some x)(hx:Loc X.env.scope x)(he:PuXE X E e ee)(hs:autoParam (swapsWith e (some (.Name x pos')) pos.line X.env=pure false) aU0)(hf:autoParam (X.fn x=true\/X.env.scope.names.lookup x=some .local) aU4) :
  PuX X E (.Assign [.Name x pos'] e pos) (λZ=>pSet i (ee Z)):=
 ⟨zea he.mono,PS.weak (zfx hN hi hx he.run hs hf) λ_ _ _ h=>zgh he.mono h⟩
theorem zlT {p:Pos}(hg:Gl X "tuple") (hm:X.mg "tuple" = none) (he:PuXE X E e ee) (h1:autoParam (starEach [e] X.env=(false,eval e X.env)::starEach [] X.env) aU0) (hpl:autoParam ((backTo pos (starEach [] X.env)).any (·.1)=false) aU0):PuXE X E (.Call (.Name "tuple" p) [e] [] pos) (λZ ρ Q=>ee Z ρ λd _=>zcb [d] Q) where
 mono Z Z' ρ Q Q' z m h:=he.mono Z Z' ρ _ _ z (λd k q=>zdq (K:=X.K).mono _ _ _ m q) h
 run:=PE.weak (zdB zcy hg hm zjN (zaE he.run zbU h1) (by decide) (by decide) h1 hpl) λσ H Q h=>by
  obtain⟨ρ,Fz,R,h⟩:=h;refine⟨ρ,Fz,R,he.mono _ _ ρ _ _ (λ_ z=>z) (λd k q v F' H' p=>?_) h⟩;exact zdq.run F' H' [d] [v] Q p.ext.al (.cons (p.root R) .nil) (zdq (K:=X.K).mono _ _ _ (λd k q v F3 H3 p3=>q v F3 H3 (p3.behind p.ext)) q)
end
noncomputable abbrev TXI:=(Addr->Prop)->TPI
noncomputable def zmM (K:PySem.W.Frag)(E:XK)(t:TXI):TI:=λσ H R=>∃ρ Fz,Rel K Fz ρ σ H/\t (xOf E ρ σ Fz H) ρ λits o=>∀J Fz' H',Ext Fz H Fz' H'->Walk K Fz' o J its H'->R J H'
structure PuXI (X:Cx)(E:XK)(tg iter:Expr)(t:TXI):Prop where
 mono:∀Z Z' ρ Q Q',(∀c,Z c->Z' c)->(∀its o,Q its o->Q' its o)->t Z ρ Q->t Z' ρ Q'
 run:PI X tg iter (zmM X.K E t)
theorem zmN {X:Cx}{E:XK}{tg e:Expr}{ti:TPI}(h:PuI X tg e ti):PuXI X E tg e (λ_=>ti):=⟨λ_ _ ρ Q Q' _ m q=>h.mono ρ Q Q' m q,h.run⟩
section
variable {X:Cx}{E:XK}{elt tg iter:Expr}{sc:Scope}{pos:Pos}{N:List Str}{k:Nat}{js:List Nat}{ti:TXI}{g:TPG}{te:TXE}
noncomputable def zeE (k:Nat)(js:List Nat)(ti:TXI)(g:TPG)(te:TXE):TXE:=λZ ρ Q=>ti Z ρ λits _=>its.length<=sizeLine/\∃Pv:Nat->List PV->Prop,Pv 0 []/\
 (∀i d out,its[i]? = some d->out.length<=i->Pv i out->g d (blkP k js ρ) λρ2=>te Z ρ2 λe ke=>isOwn ke=false/\Pv (i+1) (out++[e]))/\∀out,out.length<=its.length->Pv its.length out->Q (.lst out) .new
theorem ziH (hi:PuXI X E tg iter ti)(B:ziF X E N sc tg elt g te):∀Z Z' ρ Q Q',(∀c,Z c->Z' c)->(∀d k,Q d k->Q' d k)->zeE k js ti g te Z ρ Q->zeE k js ti g te Z' ρ Q':=λZ Z' ρ Q Q' z m h=>
 hi.mono Z Z' ρ _ _ z (λits o q119q=>by obtain⟨hz,Pv,h0,hs,hd⟩:=q119q;exact⟨hz,Pv,h0,λi d out h1 h2 h3=>(B.tgt 0 [] [] X.s₀ λ_=>none).mono _ _ _ _ (λρ2 q=>(B.val 0 [] [] X.s₀ λ_=>none).mono Z Z' ρ2 _ _ z (λ_ _ q=>q) q) (hs i d out h1 h2 h3),λout hl hp=>m _ _ (hd out hl hp)⟩) h
theorem ziI (nd:js.Nodup)(hloc:LocG k g)(hi:PuXI X E tg iter ti)(B:ziF X E N sc tg elt g te){σ:St}{H:Hp}{Q:VK}(h:zeD X.K E (zeE k js ti g te) σ H Q) :
  zlp k js (zmM X.K E ti) (zfT X.K g) (liftT X.K zdh) (zeD X.K E te) σ H Q:=by
 obtain⟨ρ,Fz,R,h⟩:=h;refine⟨ρ,Fz,R,hi.mono _ _ ρ _ _ (λ_ z=>z) (λits o q J Fz1 H1 x wk l hl=>?_) h⟩;obtain⟨hz,Pv,h0,hstep,hdone⟩:=q;refine ziG (H:=H) nd hloc B (R.ext x) wk hl hz (zgg (.of x) (zaz.refl ρ σ H)) Pv h0 hstep λF' out xs H' x' hlx hout nfl hol hP=>?_;exact hdone out hol hP _ F' H' ⟨x.trans x',l,rfl,x.same.free hl,nfl,xs,hlx,hout⟩
theorem zgi {L:Addr}(hc:X.calm=true)(hex:X.ex=[])(hst:X.stack=X.env::X.outer)(hfm:X.env.frame=some L)(hxe:∀pins σ e s',FlyI X pins σ E e s'->X.xe e s')(S:zbG X N k js sc)(nd:js.Nodup)(hloc:LocG k g)(hi:PuXI X E tg iter ti)(B:ziF X E N sc tg elt g te)(hs:autoParam (∀x,foldedSetIterable iter X.env x=pure x) aU3) :
  PuXE X E (.ListComp elt [⟨tg,iter,[],0⟩] sc pos) (zeE k js ti g te):=
 ⟨ziH hi B,PE.weak (zlO hc hex hst hfm hxe S hi.run B.blk hs) λσ H Q h=>ziI nd hloc hi B h⟩
end
section
variable {X:Cx}{k:Nat}{f:Addr}{fd:FuncData}{ps:List Str}{sp:Sp}{x:Str}{p pos:Pos}{e:Expr}{es:List Expr}{t:TA}
noncomputable def zqK (K:PySem.W.Frag)(J:Addr)(sp:Sp)(t:TA)(z i j:Nat):TS:=λD σ H=>j<σ.length/\i<σ.length/\∃E:XK,(t σ H λvs H1=>sp vs H1 (λv H'=>D.nx (σ.set z (some v)) H') E)/\
 ∀cls o H',E cls o H'->(∃C bm,cls=.ref C/\ExcC K C bm/\(Value.ref C::bm).contains (.ref J)=true)/\∀a,H' a=none->D.nx ((((σ.set j (some (.ref a))).set i (some (.ref a))).set j (some .non)).set j none) (upd H' a (ClsAt a cls))
theorem zkC {L J:Addr}{bmJ:List Value}{jx en y zx:Str}{z i j:Nat}{np py pz pe pa pos' pos2 pos3:Pos}(F:FnOk X.prog X.w X.K X.mg X.base (CXJ X.prog X.w) k f fd ps sp)(hex:X.ex=[])(hst:X.stack=X.env::X.outer)(hfm:X.env.frame=some L)(hr:Room k X.A)(hg:Gl X x)(hm:X.mg x=some (.ref f))(hk:PySem.W.keepIn X.K (.ref f)=true)(hb:Binds X.K fd ps [])
  (ha:PA X.nox (e::es) t) (hN:X.N.Nodup) (hz:X.N[z]? = some zx) (hlz:X.env.scope.names.lookup zx=some .local) (hi:X.N[i]? = some y) (hly:X.env.scope.names.lookup y=some .local) (hj:X.N[j]? = some en) (hle:X.env.scope.names.lookup en=some .local) (hij:i≠j) (hgj:Gl X jx) (hmj:X.mg jx=some (.ref J)) (hJ:ExcC X.K J bmJ)
  (hdb:autoParam ((x == ("__debug__" : Str))=false) aU1) (hdj:autoParam ((jx == ("__debug__" : Str))=false) aU1) (hde:autoParam ((en == ("__debug__" : Str))=false) aU1) (hce:autoParam ((en == ("__classdict__" : Str))=false) aU1)
  (he:autoParam (starEach (e::es) X.env=(false,eval e X.env)::starEach es X.env) aU0) (hpl:autoParam ((backTo pos (starEach es X.env)).any (·.1)=false) aU0)
  (hs:autoParam (swapsWith (.Call (.Name x p) (e::es) [] pos) (some (.Name zx pz)) pos2.line X.env=pure false) aU0) (hs2:autoParam (swapsWith (.Name en pe) (some (.Name y py)) pa.line X.env=pure false) aU0) :
  PS X (.Try [.Assign [.Name zx pz] (.Call (.Name x p) (e::es) [] pos) pos2] [.ExceptHandler (some (.Name jx np)) (some en) [.Assign [.Name y py] (.Name en pe) pa] pos'] [] [] pos3) (zqK X.K J sp t z i j):=by
 intro pins s σ H D I h;obtain⟨hjl,hil,E,h,hE⟩:=h;refine wpAny_Try_except (wpAny_execs_cons (wpAny_Assign_Name (wpAny_mono (zpK F hex hr hg hm hk hb ha I h hdb he hpl) (λv s1 ⟨v',H1,I1,r1,q1⟩=>?_) λev s1 fy=>?_) hs))
 ·refine zcw I1 hN hz (.inl hlz) r1 (λs2 I2 _=>?_) (.inr hlz);exact wpAny_execs_nil (wpAny_execs_nil ⟨_,H1,I2,q1⟩)
 refine FlyI.note fy hex hst hfm rfl λs2 fy2=>FlyI.flight fy2 λs3 fy3=>?_;obtain⟨a,T,cls,fl,H',rfl,I3,ex,hp,hE3⟩:=fy3;obtain⟨⟨C,bm,rfl,hC,hin⟩,hD⟩:=hE _ _ _ hE3;refine wpAny_handleBy_cons (codeAny_handlers_test ?_) (by intro q;cases q);refine zdA (zpI I3 a) hgj hmj ?_ hdj;obtain⟨N',nm,q,bs,hdct,sn,sub,ab,col,dd,k0,k1,k2,k3,k5,mN,gC,hNs,hni,TC⟩:=hC s3.heap I3.kIn;obtain⟨N2,nm2,q2,bs2,hdct2,sn2,sub2,ab2,col2,dd2,j0,j1,j2,j3,j5,mN2,gJ,hNs2,hni2,TJ⟩:=hJ s3.heap I3.kIn;have ex':=ex;obtain⟨xa,hHa,xT,hHT,hTa,oe,vs,oT,ts,a0,hge,hc,hd,h00,h1,hgT,hdT,h3⟩:=ex';refine zgV gC gJ hge hc (TJ.hasType (by decide)) hin ?_;show codeAny _ _ _ _ s3;refine codeAny_handlers_suite_as (zhV (l:=X.stack) ex (ex.nofr I3.stack).2 λh' fl' xs ex2=>?_);have I4:Inv X pins σ H' { s3 with heap:=h' }:=zlN I3 xs ex hp;have I5:=zkr I4 ex2 λp hp'=>(hp p hp').1;refine zcw I5 hN hj (.inl hle) (show RelV (.ref a) (.ref a) from rfl) (λs5 I6 _=>?_) (.inr hle);have hset:=zfx (X:=hCx X a) (i:=i) (x:=y) (e:=.Name en pe) (pos':=py) (pos:=pa) hN hi (.inl hly) (zcZ (X:=hCx X a) (i:=j) hj (.inl hle) hde hce) hs2 (.inr hly);refine wpAny_execs_cons (wpAny_mono (hset pins s5 _ _ { nx:=λσ' H''=>σ'=(σ.set j (some (.ref a))).set i (some (.ref a))/\H''=upd H' a (ClsAt a (.ref C)),rt:=λ_ _=>False } (zpI I6 a) ⟨.ref a,List.getElem?_set_self hjl,rfl,rfl⟩) (λfl s6 hfl=>?_) λ_ _ z=>z.elim);cases fl with
 | next=>
  obtain⟨σ',H'',I7,rfl,rfl⟩:=hfl;refine wpAny_execs_nil ?_;have I8:Inv X pins _ _ s6:=zpJ I7 I.ok;refine wpAny_bind (wpAny_bindName (zcw I8 hN hj (.inl hle) (show RelV .non .none from rfl) (λs8 I9 _=>?_) (.inr hle)));unfold unbindBehindTheSuite;refine wpAny_onRaise (wpAny_mono (zks (Ex:=λ_ _=>False) I9 hN hj hle (List.getElem?_set_self (by simpa using hjl)) λs9 I10=>?_) (λ_ _ q=>q) λ_ _ z=>z.elim);exact⟨_,_,I10,hD a hHa⟩
 | ret v=>obtain⟨_,_,_,_,_,z⟩:=hfl;exact z.elim
 | brk=>obtain⟨_,_,_,z⟩:=hfl;exact z.elim
 | cont=>obtain⟨_,_,_,z⟩:=hfl;exact z.elim
end
section
variable {X:Cx}{o e a b:Expr}{to te ta tb:TPE}{apos cpos pos:Pos}
theorem zpO (ha:PuE X a ta)(hb:PuE X b tb)(hm:autoParam (behindInMarks .In b=false) aU2):PuE X (.Compare a [.In] [b] pos) (t2 (pInS false) ta tb):=zjv zjd zpN ha hb hm
theorem zlU (ha:PuE X a ta)(hb:PuE X b tb)(hm:autoParam (behindInMarks .NotIn b=false) aU2):PuT X (.Compare a [.NotIn] [b] pos) (tBl (t2 (pInS true) ta tb)):=zbI zfy znN ha hb hm
theorem znO {x y:Str}{t:Tok}(hg:Gl X x)(hm:X.mg x=some (.str y t))(hd:autoParam ((x == ("__debug__" : Str))=false) aU1):PuE X (.Name x pos) (pC (.str y)):=
 zcf (zcN (v:=.str y) hg hm ⟨t,rfl⟩ hd) λ_ _=>by simp only[Den]
end
section
variable {X:Cx}
noncomputable def zqL (K:PySem.W.Frag):List V->Hp->VK->Prop:=λxs H Q=>∃(a C:Addr)(bm:List Value)(p:Addr)(Ds:List Addr)(b:Bool),H a=some (ClsAt a (.ref C))/\ExcK K C bm/\xs=[.ref a,.ref p]/\H p=some (.tup (Ds.map V.ref))/\PySem.W.kitAny K (.ref C) (Ds.map Value.ref)=some b/\Q (.bl b) H
theorem zkD:zbF X (.builtin "isinstance") (zqL X.K):=by
 intro pins s σ H xs us Q I r h;obtain⟨a,C,bm,p,Ds,b,ha,FK,rfl,hp,e,q⟩:=h;obtain⟨hA,_⟩:=I.hok a _ ha;obtain⟨u,w',rfl,r1,r2⟩:=vals2 r;cases r1;cases r2;obtain⟨its,rv,⟨⟨cls,dd,data,sl⟩,ho,hc,n,hd⟩,hzz⟩:=I.tuple (SqT.of (K:=X.K) hp);simp only at hc hd;subst hc hd;have ei:its=Ds.map Value.ref:=by
  clear hp ho e hzz;induction Ds generalizing its with
  | nil=>cases rv;rfl
  | cons c cs ih=>
   cases rv with
   | cons q1 q2=>rw[show _=Value.ref c from q1,ih _ q2];rfl
 subst ei;exact PySem.W.kia_tup (zkv FK) I.kIn hA ho e (λz=>nomatch z) λtk=>⟨.bl b,H,I.tok tk,rfl,q⟩
end
theorem FnOk.or {P:Program}{w:World}{K:PySem.W.Frag}{mg:Str->Option Value}{base:Heap}{CX:CXT}{k:Nat}{f:Addr}{fd:FuncData}{ps:List Str}{sp1 sp2 sp:Sp}(G1:FnOk P w K mg base CX k f fd ps sp1)(G2:FnOk P w K mg base CX k f fd ps sp2)(h:∀vs H Q E,sp vs H Q E->sp1 vs H Q E\/sp2 vs H Q E):FnOk P w K mg base CX k f fd ps sp where
 len vs H Q E q:=(h vs H Q E q).elim (G1.len vs H Q E) (G2.len vs H Q E)
 run A outer s H args us vs Q E hr he hb hv q:=(h vs H Q E q).elim (G1.run A outer s H args us vs Q E hr he hb hv) (G2.run A outer s H args us vs Q E hr he hb hv)
section
variable {X:Cx}{k:Nat}{f:Addr}{fd:FuncData}{ps:List Str}{F:PFX}{x:Str}{p pos:Pos}{e:Expr}{es:List Expr}{t:TPA}
noncomputable def zpP (F:PFX)(t:TPA)(z i j:Nat):TPS:=λρ O=>j<ρ.length/\i<ρ.length/\pSet z (zdc F t λ_=>False) ρ O
theorem zcW (m:zgW F)(ha:PuA X.nox (e::es) t):∀Z Z' ρ Q Q',(∀c,Z c->Z' c)->(∀d k,Q d k->Q' d k)->zdc F t Z ρ Q->zdc F t Z' ρ Q':=λZ Z' ρ Q Q' z mm h=>ha.mono ρ _ _ (λops h=>⟨h.1,m _ _ _ _ _ mm z h.2⟩) h
theorem zlV {L J:Addr}{bmJ:List Value}{jx en y zx:Str}{z i j:Nat}{np py pz pe pa pos' pos2 pos3:Pos}(G:FnOk X.prog X.w X.K X.mg X.base (CXJ X.prog X.w) k f fd ps (spPX X.K F))(m:zgW F)(hex:X.ex=[])(hst:X.stack=X.env::X.outer)(hfm:X.env.frame=some L)(hr:Room k X.A)(hg:Gl X x)(hm:X.mg x=some (.ref f))(hk:PySem.W.keepIn X.K (.ref f)=true)(hb:Binds X.K fd ps [])
  (ha:PuA X.nox (e::es) t) (hN:X.N.Nodup) (hz:X.N[z]? = some zx) (hlz:X.env.scope.names.lookup zx=some .local) (hi:X.N[i]? = some y) (hly:X.env.scope.names.lookup y=some .local) (hj:X.N[j]? = some en) (hle:X.env.scope.names.lookup en=some .local) (hij:i≠j) (hgj:Gl X jx) (hmj:X.mg jx=some (.ref J)) (hJ:ExcC X.K J bmJ)
  (hdb:autoParam ((x == ("__debug__" : Str))=false) aU1) (hdj:autoParam ((jx == ("__debug__" : Str))=false) aU1) (hde:autoParam ((en == ("__debug__" : Str))=false) aU1) (hce:autoParam ((en == ("__classdict__" : Str))=false) aU1)
  (he:autoParam (starEach (e::es) X.env=(false,eval e X.env)::starEach es X.env) aU0) (hpl:autoParam ((backTo pos (starEach es X.env)).any (·.1)=false) aU0)
  (hs:autoParam (swapsWith (.Call (.Name x p) (e::es) [] pos) (some (.Name zx pz)) pos2.line X.env=pure false) aU0) (hs2:autoParam (swapsWith (.Name en pe) (some (.Name y py)) pa.line X.env=pure false) aU0) :
  PuS X (.Try [.Assign [.Name zx pz] (.Call (.Name x p) (e::es) [] pos) pos2] [.ExceptHandler (some (.Name jx np)) (some en) [.Assign [.Name y py] (.Name en pe) pa] pos'] [] [] pos3) (zpP F t z i j) where
 mono ρ O O' mm h:=⟨h.1,h.2.1,zea (zcW m ha) _ _ ρ O O' (λ_ z=>z) mm h.2.2⟩
 run:=PS.weak (zkC (z:=z) (i:=i) (j:=j) G hex hst hfm hr hg hm hk hb ha.run hN hz hlz hi hly hj hle hij hgj hmj hJ hdb hdj hde hce he hpl hs hs2) λD σ H h=>by
  obtain⟨ρ,Fz,R,h1,h2,h⟩:=h;refine⟨by rw[<- R.len];exact h1,by rw[<- R.len];exact h2,λ_ _ _=>False,?_,λ_ _ _ z=>z.elim⟩;obtain⟨ρ,Fz,R,h⟩:=zgh (E:=λ_ _ _=>False) (ee:=zdc F t) (i:=z) (zcW m ha) (D:=D) (σ:=σ) (H:=H) ⟨ρ,Fz,R,zea (i:=z) (zcW m ha) _ _ ρ _ _ (λ_ z=>z.elim) ⟨λ_ q=>q,λ_ _ q=>q,λ_ q=>q,λ_ q=>q⟩ h⟩;refine⟨ρ,Fz,R,ha.mono ρ _ _ (λops h vs Fz' H' x o=>?_) h⟩;obtain⟨hn,h⟩:=h;obtain⟨F2,x2,s2,h2⟩:=o.frozen x hn;exact⟨F2,ops.map (·.1),x2.al,h2,m _ _ _ _ _ (λd k q v Fz3 H3 p3=>q v Fz3 H3 (p3.behind x2)) (λC q H3 sm=>q F2 H3 (.of ⟨x2.same.trans sm,x2.sub,x2.new,λb hb z=>x2.al b hb (sm.free z)⟩)) h⟩
end
section
variable {X:Cx}{o e a b:Expr}{to te ta tb:TPE}{es:List Expr}{t:TPA}{p pos apos cpos:Pos}
noncomputable def zpQ:List V->Hp->VK->Prop:=λxs H Q=>∃(x:Str)(n:Int),xs=[.str x]/\PySem.intText? x=some n/\x.length<=640/\Q (.int n) H
theorem zkE:zbF X (.type "int") zpQ:=by
 intro pins s σ H xs us Q I r h;obtain⟨x,n,rfl,h1,h2,q⟩:=h;obtain⟨u,rfl,t,rfl⟩:=vals1 r;exact PySem.W.KIN.call_text h1 h2 ⟨.int n,H,I.tok _,⟨_,rfl⟩,q⟩
noncomputable def zkF:PF:=λds Q=>∃(x:Str)(n:Int),ds=[.str x]/\PySem.intText? x=some n/\x.length<=640/\Q (.int n) .frz
theorem znP {K:PySem.W.Frag}:zcR K zpQ zkF where
 mono ds Q Q' m h:=by obtain⟨x,n,e,h1,h2,q⟩:=h;exact⟨x,n,e,h1,h2,m _ _ q⟩
 run Fz H ds vs Q al hr h:=by
  obtain⟨x,n,rfl,h1,h2,q⟩:=h;obtain⟨v,rfl,h3⟩:=zca hr;exact⟨x,n,by rw[zal h3],h1,h2,q _ Fz H (.val al (by simp only[Den]))⟩
theorem zkG (hg:Gl X "int") (hm:X.mg "int" = none) (ha:PuA X (e::es) t) (he:autoParam (starEach (e::es) X.env=(false,eval e X.env)::starEach es X.env) aU0) (hpl:autoParam ((backTo pos (starEach es X.env)).any (·.1)=false) aU0):PuE X (.Call (.Name "int" p) (e::es) [] pos) (tB zkF t):=
 zbX zkE znP hg hm bInt ha (by decide) (by decide) he hpl
noncomputable def txtI (i:Int):Str:=Str.ofString (toString i)
noncomputable def zpR:List V->Hp->VK->Prop:=λxs H Q=>∃i:Int,xs=[.int i]/\i.natAbs.log2<1920/\Q (.str (txtI i)) H
theorem zkH:zbF X (.type "str") zpR:=by
 intro pins s σ H xs us Q I r h;obtain⟨i,rfl,h1,q⟩:=h;obtain⟨u,rfl,t,rfl⟩:=vals1 r;exact P.str_of_int h1 ⟨.str (txtI i),H,I.tok _,⟨_,rfl⟩,q⟩
noncomputable def znQ:PF:=λds Q=>∃i:Int,ds=[.int i]/\i.natAbs.log2<1920/\Q (.str (txtI i)) .frz
theorem znR {K:PySem.W.Frag}:zcR K zpR znQ where
 mono ds Q Q' m h:=by obtain⟨i,e,h1,q⟩:=h;exact⟨i,e,h1,m _ _ q⟩
 run Fz H ds vs Q al hr h:=by
  obtain⟨i,rfl,h1,q⟩:=h;obtain⟨v,rfl,h3⟩:=zca hr;exact⟨i,by rw[zaC h3],h1,q _ Fz H (.val al (by simp only[Den]))⟩
theorem zkI (hg:Gl X "str") (hm:X.mg "str" = none) (ha:PuA X (e::es) t) (he:autoParam (starEach (e::es) X.env=(false,eval e X.env)::starEach es X.env) aU0) (hpl:autoParam ((backTo pos (starEach es X.env)).any (·.1)=false) aU0):PuE X (.Call (.Name "str" p) (e::es) [] pos) (tB znQ t):=
 zbX zkH znR hg hm bStr ha (by decide) (by decide) he hpl
theorem zkJ:MtR X "str.startswith" (λx xs H Q=>∃u v,x=.str u/\xs=[.str v]/\Q (.bl (Txt.startswith u v)) H):=by
 intro pins s σ H x xs u us Q I rx r h;obtain⟨y,z,rfl,rfl,q⟩:=h;obtain⟨t1,rfl⟩:=rx;obtain⟨w,rfl,t2,rfl⟩:=vals1 r;exact call_gives PySem.F.slot_str_startswith (typeIs_str _ _ _) PySem.F.entry_str_startswith (PySem.F.args_str_startswith_2 _ _) (gives_str_startswith y z t1 t2) ⟨.bl (Txt.startswith y z),H,I,rfl,q⟩
noncomputable def zgY (to te:TPE):TPE:=λρ Q=>to ρ λd _=>∃u,d=.str u/\te ρ λe _=>∃v,e=.str v/\Q (.bl (Txt.startswith u v)) .frz
theorem zcJ (ho:PuE X o to)(he:PuE X e te)(m:autoParam (M1 X o "startswith" apos e cpos) aU8):PuE X (.Call (.Attribute o "startswith" apos) [e] [] cpos) (zgY to te) where
 mono ρ Q Q' mm h:=ho.mono ρ _ _ (λd _ q121q=>by obtain⟨u,e1,h⟩:=q121q;exact⟨u,e1,he.mono ρ _ _ (λe _ q122q=>by obtain⟨v,e2,q⟩:=q122q;exact⟨v,e2,mm _ _ q⟩) h⟩) h
 run:=PE.weak (zpF PySem.F.slot_str_startswith PySem.F.type_str_startswith zkJ ho.run he.run m) λσ H Q h=>by
  obtain⟨ρ,Fz,R,h⟩:=h;refine⟨ρ,Fz,R,ho.mono ρ _ _ (λd k q v F1 H1 p1=>?_) h⟩;obtain⟨u,rfl,q⟩:=q;refine⟨u,zal (p1.root R),ρ,F1,R.ext p1.ext,he.mono ρ _ _ (λe ke q w F2 H2 p2=>?_) q⟩;obtain⟨y,rfl,q⟩:=q;exact⟨u,y,zal (p1.root R),by rw[zal (p2.root (R.ext p1.ext))],q _ F2 H2 ⟨p1.ext.trans p2.ext,by show Den _ _ _ _ _;simp only[Den]⟩⟩
noncomputable def mulT (x:Str)(n:Int):Str:=⟨(List.replicate n.toNat x.cps).foldl (·++·) #[]⟩
noncomputable def zpS:R2:=λx y H Q=>∃(u:Str)(n:Int),x=.str u/\y=.int n/\1<n/\n<1000/\u.length≠0/\u.length<1000/\(mulT u n).length<=sizeLine/\Q (.str (mulT u n)) H
theorem znS:OpR X (binaryOp .Mult) zpS:=by
 intro pins s σ H x y v u Q I rx ry h;obtain⟨z,n,rfl,rfl,h1,h2,h3,h4,h5,q⟩:=h;obtain⟨t1,rfl⟩:=rx;obtain⟨t2,rfl⟩:=ry;have hm:z.length*n.toNat<=1000*1000:=Nat.mul_le_mul (by lia) (by lia);have hsz:=sizeLine_eq;refine P.mul_str ?_ (λ_ _=>?_) (λ_ _=>?_) ?_
 ·rw[Bool.or_eq_false_iff,decide_eq_false_iff_not,decide_eq_false_iff_not];lia
 ·have:(1000:Int)<=(2 ^ 63-1) / n:=(Int.le_ediv_iff_mul_le (by lia)).mpr (by lia);lia
 ·unfold Builtin.Str.tooLong;rw[decide_eq_false_iff_not];lia
 ·rw[if_neg (by lia),if_neg (by rw[Bool.or_eq_true,beq_iff_eq,beq_iff_eq];lia)];exact⟨h5,.str (mulT z n),H,I.tok _,⟨_,rfl⟩,q⟩
noncomputable def zkK:P2:=λd e Q=>∃(u:Str)(n:Int),d=.str u/\e=.int n/\1<n/\n<1000/\u.length≠0/\u.length<1000/\(mulT u n).length<=sizeLine/\Q (.str (mulT u n)) .frz
theorem znT {K:PySem.W.Frag}:POp K zpS zkK where
 mono d e Q Q' m h:=by obtain⟨u,n,e1,e2,h1,h2,h3,h4,h5,q⟩:=h;exact⟨u,n,e1,e2,h1,h2,h3,h4,h5,m _ _ q⟩
 run Fz H x y d e Q al rx ry h:=by
  obtain⟨u,n,rfl,rfl,h1,h2,h3,h4,h5,q⟩:=h;exact⟨u,n,zal rx,zaC ry,h1,h2,h3,h4,h5,q _ Fz H (.val al (by simp only[Den]))⟩
theorem znU (ha:PuE X a ta)(hb:PuE X b tb):PuE X (.BinOp a .Mult b pos) (t2 zkK ta tb):=zeh znS znT ha hb
noncomputable def rAny (K:PySem.W.Frag):List V->Hp->VK->Prop:=λxs H Q=>∃(p:Addr)(bs:List Bool),xs=[V.ref p]/\SqL K H p (bs.map V.bl)/\Q (.bl (bs.any id)) H
theorem zkL (hc:X.calm=true):zbF X (.builtin "any") (rAny X.K):=by
 intro pins s σ H xs us Q I r h;obtain⟨p,bs,rfl,hq,q⟩:=h;obtain⟨u,rfl,rx⟩:=vals1 r;cases rx;obtain⟨its,r',pl,hz⟩:=I.list hq;have hL:=pl.isList;have hpl:p<s.heap.objs.size:=by obtain⟨_,x,_⟩:=hL;exact Heap.lt_size x
 have hlen:its.length=bs.length:=by rw[<- r'.length];simp
 refine call_any_walk (wpAny_pyIter_list hL ?_);refine⟨_,[_,p],[_],_,_,_,λi=>bs.getD i true,rfl,Walks.list (A:=X.A.in1) (I.ok.hd hc) _ p (Nat.ne_of_lt hpl) its.toArray,⟨⟨_,Heap.get?_push_size _ rfl,rfl,rfl⟩,hL.push _⟩,?_,λh' tk hk=>?_⟩
 ·intro i v s' Q' E' hP hQ;have hv:its[i]? = some v:=by simpa using hP
  have hi:i<bs.length:=by rw[<- hlen];exact(List.getElem?_eq_some_iff.mp hv).1
  obtain⟨v',hv',rv⟩:=r'.get (i:=i) (x:=.bl bs[i]) (by simp[hi]);rw[hv]at hv';cases hv';cases rv;refine wpAny_truthy_bool ?_;have:bs.getD i true=bs[i]:=by rw[List.getD_eq_getElem?_getD,List.getElem?_eq_getElem hi];rfl
  rw[<- this];exact hQ
 ·refine⟨.bl (bs.any id),H,I.kept (t':=tk) (λb o x=>hk b o ?_ (Heap.get?_push_of_some _ x)),?_,q⟩
  ·have:=Heap.lt_size x;simp;exact Nat.ne_of_lt this
  ·have:(List.range its.toArray.size).any (λi=>bs.getD i true)=bs.any id:=by
    rw[List.size_toArray,hlen];rw[Bool.eq_iff_iff,List.any_eq_true,List.any_eq_true];constructor
    ·rintro⟨i,hi,h⟩;have hi:=List.mem_range.mp hi;rw[List.getD_eq_getElem?_getD,List.getElem?_eq_getElem hi]at h;exact⟨_,List.getElem_mem hi,h⟩
    ·rintro⟨x,hx,h⟩;obtain⟨i,hi,e⟩:=List.getElem_of_mem hx;refine⟨i,List.mem_range.mpr hi,?_⟩;rw[List.getD_eq_getElem?_getD,List.getElem?_eq_getElem hi];simpa[e]using h
   show RelV _ _;rw[this];rfl
noncomputable def fAny:PF:=λds Q=>∃bs:List Bool,ds=[.lst (bs.map PV.bl)]/\Q (.bl (bs.any id)) .frz
theorem zpT:zcR X.K (rAny X.K) fAny where
 mono ds Q Q' m h:=by obtain⟨bs,e,q⟩:=h;exact⟨bs,e,m _ _ q⟩
 run Fz H ds vs Q al hr h:=by
  obtain⟨bs,rfl,q⟩:=h;obtain⟨v,rfl,h1⟩:=zca hr;obtain⟨a,xs,rfl,h2,h3⟩:=zai h1;rw[zfd h3]at h2;exact⟨a,bs,rfl,h2,q _ Fz H (.val al (by simp only[Den]))⟩
theorem bAny:bootBuiltins "any" = some (.builtin "any"):=by decide +kernel
theorem zpU (hc:X.calm=true)(hg:Gl X "any") (hm:X.mg "any" = none) (ha:PuA X (e::es) t) (he:autoParam (starEach (e::es) X.env=(false,eval e X.env)::starEach es X.env) aU0) (hpl:autoParam ((backTo pos (starEach es X.env)).any (·.1)=false) aU0):PuE X (.Call (.Name "any" p) (e::es) [] pos) (tB fAny t):=
 zcC (zkL hc) zpT hg hm bAny ha (by decide) (by decide) he hpl
end
end PL
namespace Srt
open PySem PyProof.Rows
section
variable {prog:Program}{w:World}{A:Around}{E:Value->Shared->Prop}{s:Shared}{k:SortKind}{P:Keyed->Prop}{f:Keyed->Keyed->Bool}
theorem ziJ {n:Nat}(h:n<64):(sortPriv% PySem.Builtin.minRun) n n 0=n:=by
 cases n with
 | zero=>rfl
 | succ n=>
  show(if n+1<64 then n+1+0 else _)=n+1
  rw[if_pos h]
theorem zlW (C:Cmp prog w A E s k P f)(T:Tot f P){Q:Unit->SortSt->Prop}{st:SortSt}(hst:kindOf st=k)(hfl:failedOf st=none)(hpn:pendingOf st = #[])(h64:(arrOf st).size<64)(hP:∀(j:Nat) x,(arrOf st)[j]? = some x->P x)
  (hQ:∀st',(arrOf st').Perm (arrOf st)->failedOf st'=none->(arrOf st').toList.Pairwise (Le f)->Q () st'):wpS (model prog w) A E s srt Q st:=by
 refine wpS_bind (wpS_get ?_);dsimp only;have hmr:=ziJ h64;refine wpS_bind (wpS_mono (wpS_forRange (I:=λx c st'=>(c=(none,0)/\x=0/\st'=st)\/(c=(none,(arrOf st).size)/\(arrOf st').Perm (arrOf st)/\failedOf st'=none/\(pendingOf st').size<=1/\Run f (arrOf st') 0 (arrOf st).size))
  (Q:=λc st'=>∃lo,c=(none,lo)/\(arrOf st').Perm (arrOf st)/\failedOf st'=none/\(pendingOf st').size<=1/\Run f (arrOf st') 0 (arrOf st).size) ?step ?fin (.inl ⟨rfl,rfl,rfl⟩)) ?post)
 case fin=>
  rintro c st' (⟨rfl,h1,rfl⟩ | ⟨rfl,h1,h2,h3,h4⟩)
  ·change max 0 (arrOf st').size=0 at h1;exact⟨0,rfl,.refl _,hfl,by rw[hpn];decide,λi j hj hij g1 g2=>by lia⟩
  ·exact⟨_,rfl,h1,h2,h3,h4⟩
 case post=>
  rintro c st' ⟨lo,rfl,h1,h2,h3,h4⟩;dsimp only;refine wpS_bind (wpS_mono (wpS_forRange (I:=λx c st2=>c=(none,())/\st2=st')
   (Q:=λc st2=>c=(none,())/\st2=st') ?step9 ?fin9 ⟨rfl,rfl⟩) ?post9)
  case fin9=>exact λc st2 h=>h
  case post9=>
   rintro c st2 ⟨rfl,rfl⟩;refine wpS_pure (hQ st2 h1 h2 ?_);have hsz:(arrOf st2).size=(arrOf st).size:=h1.size_eq;rw[<- hsz]at h4;have:=zhJ (show Run f (arrOf st2) 0 (0+(arrOf st2).size) by rw[Nat.zero_add];exact h4) (by lia)
   rwa [List.drop_zero,List.take_of_length_le (by rw[Array.length_toList];exact Nat.le_refl _)]at this
  case step9=>
   rintro x c st2 _ hx ⟨rfl,rfl⟩;refine wpS_bind (wpS_get ?_);rw[if_pos h3];exact wpS_pure ⟨rfl,rfl⟩
 case step=>
  rintro x c st1 _ hx (⟨rfl,rfl,rfl⟩ | ⟨rfl,h1,h2,h3,h4⟩)
  ·dsimp only;by_cases e1:0>=(arrOf st1).size
   ·rw[if_pos e1];exact wpS_pure ⟨0,rfl,.refl _,hfl,by rw[hpn];decide,λi j hj hij g1 g2=>by lia⟩
   rw[if_neg e1];refine wpS_bind (zmC C T hst (show 1<=(arrOf st1).size-0 by lia) (show 0+((arrOf st1).size-0)<=(arrOf st1).size by lia) hP λa1 m q1 q2 mv r1=>?_);have hs1:=mv.size;have q2':m<=(arrOf st1).size-0:=q2;dsimp only;have done:∀(a2:Array Keyed),Moved (arrOf st1) a2 0 (0+((arrOf st1).size-0))->Run f a2 0 (arrOf st1).size->(arrOf (setArr st1 a2)).Perm (arrOf st1):=λa2 m2 _=>m2.pm;generalize hmm:(sortPriv% PySem.Builtin.minRun) _ _ _=mr at *;subst hmr;refine zjY (λe2=>?_) (λe2=>?_)
   ·refine wpS_bind (wpS_lift (wpAny_rule ⟨rfl,?_⟩));refine wpS_bind (zmB C T (st:=setArr st1 a1) hst (show 0+min ((arrOf st1).size-0) (arrOf st1).size<=a1.size by lia) (by lia) (mv.all hP) r1 λa2 mv2 r2=>?_);rw[if_neg (by decide)];have hmin:0+min ((arrOf st1).size-0) (arrOf st1).size=(arrOf st1).size:=by lia
    rw[hmin]at r2;refine wpS_bind (wpS_get ?_);have hb:(pendingOf (setArr (setArr st1 a1) a2)).back? = none:=by show(pendingOf st1).back? = none;rw[hpn];rfl
    rcases hc:(pendingOf (setArr (setArr st1 a1) a2)).back? with _ | ⟨s1,l1,p1⟩
    ·dsimp only;refine wpS_bind (wpS_modify (wpS_pure (.inr ⟨by rw[hmin],mv2.pm.trans mv.pm,hfl,?_,r2⟩)));show((pendingOf st1).push _).size<=1;rw[hpn];exact Nat.le_refl 1
    ·rw[hb]at hc;cases hc
   ·have hm:m=(arrOf st1).size:=by lia
    subst hm;refine wpS_bind (wpS_get ?_);have hb:(pendingOf (setArr st1 a1)).back? = none:=by show(pendingOf st1).back? = none;rw[hpn];rfl
    rcases hc:(pendingOf (setArr st1 a1)).back? with _ | ⟨s1,l1,p1⟩
    ·dsimp only;rw[Nat.zero_add]at r1;refine wpS_bind (wpS_modify (wpS_pure (.inr ⟨by rw[Nat.zero_add],mv.pm,hfl,?_,r1⟩)));show((pendingOf st1).push _).size<=1;rw[hpn];exact Nat.le_refl 1
    ·rw[hb]at hc;cases hc
  ·dsimp only;rw[if_pos (Nat.le_refl _)];exact wpS_pure ⟨_,rfl,h1,h2,h3,h4⟩
theorem zgZ {a:Addr}{us:List (Addr×List Int)}{n:Nat}{P:Fin->Shared->Prop}(ho:s.heap.get? a=some (seqObj "list" (refsOf us).toArray n)) (hT:∀u∈us,TupAt s.heap (.ref u.1) u.2/\u.2≠[]) (h64:us.length<64)
  (h:∀us',us'.Perm us->(us'.map (·.2)).Pairwise (λx y=>ltI y x=false)->P (.done (.ret .none)) { s with heap:=sortedHeap s.heap a (refsOf us) (refsOf us').toArray }) :
  wpAny (model prog w) A (Builtin.«list.sort» ⟨[.ref a],[]⟩) P E s:=by
 have hsz:us.length<=sizeLine:=by rw[sizeLine_eq];lia
 rw[list_sort_plain];have ha:a<s.heap.objs.size:=Heap.lt_size ho;refine wpAny_bind (listItems_at ho rfl (wpAny_bind (listUpdate_at ho rfl ?_ (hsz:=by rw[List.size_toArray,List.length_map];exact hsz) (hsz2:=Nat.zero_le _))));obtain⟨e1,ho1⟩:∃e1,(s.heap.update a (Obj.mapSeq λ_=>#[])).get? a=some (seqObj "list" #[] e1):=⟨_,get?_update_seq ho (λ_=>#[])⟩;refine wpAny_bind (seqEpoch_at ho1 rfl (wpAny_bind (wpAny_newTuple (wpAny_bind (wpAny_newList (wpAny_holding ?_))))));obtain⟨h6,eh⟩:∃h6,h6=(((s.heap.update a (Obj.mapSeq λ_=>#[])).push (seqObj "tuple" (refsOf us).toArray 0)).push (seqObj "list" #[] 0)):=⟨_,rfl⟩;have kp:∀b,b<s.heap.objs.size->h6.get? b=(s.heap.update a (Obj.mapSeq λ_=>#[])).get? b:=λb hb=>by
  rw[eh,Heap.get?_push_ne _ _ _ (by rw[size_push',Heap.size_update];exact Nat.ne_of_lt (Nat.lt_succ_of_lt hb)),Heap.get?_push_ne _ _ _ (by rw[Heap.size_update];exact Nat.ne_of_lt hb)]
 have ho6:h6.get? a=some (seqObj "list" #[] e1):=by rw[kp a ha];exact ho1
 have hT6:∀u∈us,TupAt h6 (.ref u.1) u.2:=λu hu=>by
  obtain⟨b,o,vs,m,e,hb,c,d,i⟩:=(hT u hu).1;cases e;have hne:u.1≠a:=λz=>by rw[z,ho]at hb;cases hb;injection c with c;exact absurd c (by decide)
  refine⟨u.1,o,vs,m,rfl,?_,c,d,i⟩;rw[kp u.1 (Heap.lt_size hb),Heap.get?_update_other _ _ (Ne.symm hne)];exact hb
 show wpAny (model prog w) A _ P E { s with heap:=(((s.heap.update a (Obj.mapSeq λ_=>#[])).push (seqObj "tuple" (refsOf us).toArray 0)).push (seqObj "list" #[] 0)) };have hfin:∀us':List (Addr×List Int),us'.Perm us->(us'.map (·.2)).Pairwise (λx y=>ltI y x=false)->P (.done (.ret .none)) { s with heap:=h6.update a (Obj.mapSeq λ_=>(refsOf us').toArray) }:=by
  rw[eh];exact h
 rw[<- eh];dsimp only;by_cases h2:(refsOf us).toArray.size<2
 ·rw[if_pos h2,if_pos h2];refine wpAny_bind (wpAny_pure ?_);rw[StateT.run_pure];refine wpAny_bind (wpAny_pure (wpAny_bind (seqEpoch_at ho6 rfl (wpAny_bind (listUpdate_at ho6 rfl ?_ (hsz:=Nat.zero_le _) (hsz2:=?_))))))
  ·simp only[bne_self_eq_false,Bool.false_eq_true,if_false];have e2:Array.map (λx=>x.2) (arrOf (SortSt.mk' general' ((refsOf us).toArray.zip (refsOf us).toArray) #[] 7 none))=(refsOf us).toArray:=by
    show Array.map (λx=>x.2) ((refsOf us).toArray.zip (refsOf us).toArray)=_;rw[List.zip_toArray,zba,List.map_toArray,List.map_map];rfl
   refine wpAny_pure ?_;have q:=hfin us (.refl _) (by
    rw[List.size_toArray,List.length_map]at h2
    match us,h2 with
    | [],_=>exact List.Pairwise.nil
    | [u],_=>simp)
   rw[<- e2]at q;exact q
  ·rw[Array.size_map];show((refsOf us).toArray.zip (refsOf us).toArray).size<=_;rw[List.zip_toArray,List.size_toArray,zba,List.length_map];lia
 ·rw[if_neg h2,if_neg h2];have hpos:us≠[]:=λz=>by subst z;exact h2 (by decide)
  refine wpAny_bind (zhO (s:={ s with heap:=h6 }) (λv hv=>?_) (λz=>hpos (List.map_eq_nil_iff.mp z)) ?_)
  ·obtain⟨u,hu,rfl⟩:=List.mem_map.mp hv;exact⟨u.2,hT6 u hu,(hT u hu).2⟩
  have hW:=zlW (prog:=prog) (w:=w) (A:=A) (E:=E) (s:={ s with heap:=h6 }) (zkb (s:={ s with heap:=h6 }) true) (zkc h6) (st:=SortSt.mk' (tuples' true) ((refsOf us).toArray.zip (refsOf us).toArray) #[] 7 none)
   (Q:=λ_ st'=>(arrOf st').Perm ((refsOf us).toArray.zip (refsOf us).toArray)/\failedOf st'=none/\(arrOf st').toList.Pairwise (Le λx y=>ltI (gOf h6 x.1) (gOf h6 y.1))) rfl rfl rfl (by show((refsOf us).toArray.zip (refsOf us).toArray).size<64;rw[List.zip_toArray,List.size_toArray,zba,List.length_map];exact h64) (λj x hx=>?_) (λst' a1 a2 a3=>⟨a1,a2,a3⟩)
  ·refine wpAny_bind (wpAny_mono hW ?_ λ_ _ e=>e);rintro⟨⟨⟩,st'⟩ s' ⟨rfl,hp,hf,hs⟩;dsimp only;have hpl:(arrOf st').toList.Perm (us.map λu=>(Value.ref u.1,Value.ref u.1)):=by
    have q:=Array.perm_iff_toList_perm.mp hp;rw[List.zip_toArray,zba]at q;exact q
   obtain⟨us',p1,p2⟩:=zdb hpl us rfl;have e2:Array.map (λx=>x.2) (arrOf st')=(refsOf us').toArray:=by
    have e3:arrOf st'=(us'.map λu=>(Value.ref u.1,Value.ref u.1)).toArray:=by rw[<- p2,Array.toArray_toList]
    rw[e3,List.map_toArray,List.map_map];rfl
   refine wpAny_bind (seqEpoch_at ho6 rfl (wpAny_bind (listUpdate_at ho6 rfl ?_ (hsz:=Nat.zero_le _) (hsz2:=?_))))
   ·rw[hf];simp only[bne_self_eq_false,Bool.false_eq_true,if_false];refine wpAny_pure ?_;have q:=hfin us' p1 (by
     rw[p2,List.pairwise_map]at hs;rw[List.pairwise_map];refine hs.imp_of_mem λ{x y} hx hy z=>?_;have z:ltI (gOf h6 (.ref y.1)) (gOf h6 (.ref x.1))=false:=z;rw[zey (hT6 y (p1.mem_iff.mp hy)),zey (hT6 x (p1.mem_iff.mp hx))]at z;exact z)
    rw[<- e2]at q;exact q
   ·show(Array.map (λx=>x.2) (arrOf st')).size<=_;rw[e2,List.size_toArray,List.length_map,p1.length_eq];lia
  ·have hm:x∈(us.map λu=>(Value.ref u.1,Value.ref u.1)):=by
    have hx:((refsOf us).toArray.zip (refsOf us).toArray)[j]? = some x:=hx;rw[List.zip_toArray,zba,List.getElem?_toArray]at hx;exact List.mem_of_getElem? hx
   obtain⟨u,hu,rfl⟩:=List.mem_map.mp hm;exact⟨u.2,hT6 u hu⟩
theorem zlX {l:Addr}{us:List (Addr×List Int)}{Q:Value->Shared->Prop}(hl:s.heap.IsList l (refsOf us).toArray)(hT:∀u∈us,TupAt s.heap (.ref u.1) u.2/\u.2≠[])(h64:us.length<64)
  (h:∀us',us'.Perm us->(us'.map (·.2)).Pairwise (λx y=>ltI y x=false)->Q (.ref (s.heap.objs.size+1)) { s with heap:=sortedAll s.heap (refsOf us) (refsOf us').toArray }) :
  wpAny (model prog w) A (call (.builtin "sorted") [.ref l]) Q E s:=by
 have hsz:us.length<=sizeLine:=by rw[sizeLine_eq];lia
 refine Calls.call_function_entry kind_sorted plain_sorted entry_sorted (args_sorted1 _) ?_;unfold Builtin.«sorted»;refine wpAny_bind (m:=checkCount "sorted" 1 1 _) (wpAny_pure (wpAny_bind (collect_list hl (wpAny_bind (wpAny_newList ?_)) (hsz:=by rw[List.length_map];exact hsz))));obtain⟨h5,eh⟩:∃h5,h5=(s.heap.push (seqObj "list" #[] 0)).update s.heap.objs.size (Obj.mapSeq (·++(refsOf us).toArray)):=⟨_,rfl⟩;have hz:h5.objs.size=s.heap.objs.size+1:=by rw[eh,Heap.size_update,size_push']
 have hoL:(h5.push (seqObj "list" (refsOf us).toArray 0)).get? (s.heap.objs.size+1)=some (seqObj "list" (refsOf us).toArray 0):=by rw[<- hz];exact Heap.get?_push_size _ rfl
 have kp:∀b o,s.heap.get? b=some o->(h5.push (seqObj "list" (refsOf us).toArray 0)).get? b=some o:=λb o e=>by
  have hb:=Heap.lt_size e;rw[Heap.get?_push_ne _ _ _ (by rw[hz];exact Nat.ne_of_lt (Nat.lt_succ_of_lt hb)),eh,Heap.get?_update_other _ _ (Nat.ne_of_gt hb),Heap.get?_push_ne _ _ _ (Nat.ne_of_lt hb)];exact e
 have hfin:∀us',us'.Perm us->(us'.map (·.2)).Pairwise (λx y=>ltI y x=false)->Q (.ref (s.heap.objs.size+1)) { s with heap:=sortedHeap (h5.push (seqObj "list" (refsOf us).toArray 0)) (s.heap.objs.size+1) (refsOf us) (refsOf us').toArray }:=by
  rw[eh];exact h
 show wpAny _ _ _ _ _ { s with heap:=((s.heap.push (seqObj "list" #[] 0)).update s.heap.objs.size (Obj.mapSeq (·++(refsOf us).toArray))).push (seqObj "list" (refsOf us).toArray 0) };rw[<- eh,hz];refine wpAny_bind (wpAny_holding (wpAny_call_entry slot_list_sort ⟨_,hoL,rfl⟩ entry_list_sort (zgZ (s:={ s with heap:=h5.push (seqObj "list" (refsOf us).toArray 0) }) hoL (λu hu=>?_) h64 λus' a1 a2=>⟨_,rfl,?_⟩) (args_list_sort _)))
 ·obtain⟨⟨b,o,vs,m,e,hb,c,d,i⟩,z⟩:=hT u hu;exact⟨⟨b,o,vs,m,e,kp b o hb,c,d,i⟩,z⟩
 ·exact wpAny_pure ⟨_,rfl,hfin us' a1 a2⟩
end
end Srt
namespace L2
open PySem PySem.Spec PyProof.Rows
section
variable {X:Cx}
theorem ziK:zbF X (.builtin "sorted") (λxs H Q=>∃(p:Addr) (us:List (Addr×List Int)),xs=[.ref p]/\SqL X.K H p (us.map λu=>V.ref u.1)/\(∀u∈us,SqT X.K H u.1 (u.2.map V.int)/\u.2≠[])/\us.length<64/\
  ∀(l:Addr) (us':List (Addr×List Int)),H l=none->us'.Perm us->(us'.map (·.2)).Pairwise (λx y=>Srt.ltI y x=false)->Q (.ref l) (upd H l (.lst (us'.map λu=>V.ref u.1)))):=by
 intro pins s σ H xs us Q I r h;obtain⟨p,us,rfl,hp,hT,h64,q⟩:=h;obtain⟨u,rfl,rx⟩:=vals1 r;cases rx;obtain⟨its,r,ht,hz⟩:=I.list hp;have ei:=zdR r;subst ei;rw[List.length_map]at hz;refine Srt.zlX ht.isList (λu hu=>?_) h64 λus' a1 a2=>?_
 ·obtain⟨h1,h2⟩:=hT u hu;obtain⟨its2,rv,⟨o,ho,hc,n,hd⟩,_⟩:=I.tuple h1;exact⟨⟨u.1,o,its2,n,rfl,ho,hc,hd,ints_of rv⟩,h2⟩
 ·obtain⟨e,he⟩:=sortedAll_at s.heap (Srt.refsOf us) (Srt.refsOf us').toArray;have kp:∀b o,s.heap.get? b=some o->(sortedAll s.heap (Srt.refsOf us) (Srt.refsOf us').toArray).get? b=some o:=λ_ _=>sortedAll_old;refine⟨.ref (s.heap.objs.size+1),_,I.laid (t':=s.toks) (o:=.lst (us'.map λu=>V.ref u.1)) kp (Nat.le_succ _) ?_,rfl,q _ us' (I.hok.fresh (Nat.le_succ _)) a1 a2⟩;exact⟨by rw[List.length_map,a1.length_eq];exact hz,Srt.refsOf us',e,zdS us',he⟩
end
end L2
namespace PL
open PySem PySem.Spec L2
open PyProof.Rows hiding St
open Srt (ltI zcF zdQ zcG zcH)
noncomputable def zkM:PF:=λds Q=>∃ss:List (List Int),ds=[.lst (ss.map λr=>PV.tup (r.map PV.int))]/\(∀r∈ss,r≠[])/\ss.length<64/\Q (.lst ((sortI ss).map λr=>PV.tup (r.map PV.int))) .new
theorem zlY {X:Cx}:zcR X.K (λxs H Q=>∃(p:Addr)(us:List (Addr×List Int)),xs=[.ref p]/\SqL X.K H p (us.map λu=>V.ref u.1)/\(∀u∈us,SqT X.K H u.1 (u.2.map V.int)/\u.2≠[])/\us.length<64/\
  ∀(l:Addr) (us':List (Addr×List Int)),H l=none->us'.Perm us->(us'.map (·.2)).Pairwise (λx y=>Srt.ltI y x=false)->Q (.ref l) (upd H l (.lst (us'.map λu=>V.ref u.1)))) zkM where
 mono ds Q Q' m h:=by obtain⟨ss,e1,e2,e3,q⟩:=h;exact⟨ss,e1,e2,e3,m _ _ q⟩
 run Fz H ds vs Q al r h:=by
  obtain⟨ss,rfl,e2,e3,q⟩:=h;obtain⟨v,rfl,rv⟩:=zca r;obtain⟨a,xs,rfl,h1,h2⟩:=zai rv;obtain⟨us,rfl,g2,g3⟩:=zdT h2;refine⟨a,us,rfl,h1,λu hu=>⟨SqT.of (g3 u hu),e2 _ (by rw[<- g2];exact List.mem_map.mpr ⟨u,hu,rfl⟩)⟩,by rw[<- g2,List.length_map]at e3;exact e3,λl us' hl hz hs=>?_⟩;have ez:us'.map (·.2)=sortI ss:=zfk (by rw[<- g2];exact hz.map _) hs;have hd:DenL X.K Fz H ((us'.map (·.2)).map λr=>PV.tup (r.map PV.int)) (us'.map λu=>V.ref u.1):=zdU us' λu hu=>g3 u (hz.mem_iff.mp hu);rw[ez]at hd;exact q _ Fz _ (.newL al hl hd)
section
variable {X:Cx}{e:Expr}{es:List Expr}{te:TPE}{t:TPA}{x:Str}{p p1 p2 q1 pos pos2 apos cpos:Pos}
theorem zlZ (hg:Gl X "sorted") (hm:X.mg "sorted" = none) (ha:PuA X (e::es) t) (he:autoParam (starEach (e::es) X.env=(false,eval e X.env)::starEach es X.env) aU0) (hpl:autoParam ((backTo pos (starEach es X.env)).any (·.1)=false) aU0):PuE X (.Call (.Name "sorted" p) (e::es) [] pos) (tB zkM t):=
 zcC ziK zlY hg hm zjO ha (by decide) (by decide) he hpl
end
end PL
namespace M62
open PySem PySem.Spec PL
open PySem.StrLaws PySem.NumText
open PyProof.Rows hiding St
noncomputable def addR (acc:List (List Int))(r:List Int):List (List Int):=if r∈acc then acc else acc++[r]
noncomputable def setR (l:List (List Int)):List (List Int):=l.foldl addR []
theorem zha:∀(l acc:List (List Int)),acc.Nodup->acc.Pairwise (λx y=>Srt.ltI y x=false)->(∀a∈acc,∀x∈l,Srt.ltI x a=false)->l.Pairwise (λx y=>Srt.ltI y x=false)->(l.foldl addR acc).Nodup/\(l.foldl addR acc).Pairwise (λx y=>Srt.ltI y x=false)/\∀x,x∈l.foldl addR acc↔x∈acc\/x∈l
 | [],acc,h1,h2,_,_=>⟨h1,h2,λx=>by simp⟩
 | r::l,acc,h1,h2,h3,h4=>by
  rw[List.pairwise_cons]at h4;rw[List.foldl_cons];by_cases hr:r∈acc
  ·have e:addR acc r=acc:=if_pos hr;rw[e];obtain⟨q1,q2,q3⟩:=zha l acc h1 h2 (λa ha x hx=>h3 a ha x (List.mem_cons_of_mem _ hx)) h4.2;refine⟨q1,q2,λx=>(q3 x).trans ⟨λh=>h.imp id (List.mem_cons_of_mem _),λh=>?_⟩⟩;rcases h with h | h
   ·exact .inl h
   ·rcases List.mem_cons.mp h with rfl | h
    ·exact .inl hr
    ·exact .inr h
  ·have e:addR acc r=acc++[r]:=if_neg hr;rw[e];obtain⟨q1,q2,q3⟩:=zha l (acc++[r]) (by rw[List.nodup_append];exact⟨h1,by simp,λa ha b hb e=>hr (by rw[<- List.mem_singleton.mp hb,<- e];exact ha)⟩) (by rw[List.pairwise_append];exact⟨h2,List.pairwise_singleton _ _,λa ha b hb=>by rw[List.mem_singleton.mp hb];exact h3 a ha r (List.mem_cons_self ..)⟩) (λa ha x hx=>by
    rcases List.mem_append.mp ha with ha | ha
    ·exact h3 a ha x (List.mem_cons_of_mem _ hx)
    ·rw[List.mem_singleton.mp ha];exact h4.1 x hx) h4.2
   refine⟨q1,q2,λx=>(q3 x).trans ⟨λh=>?_,λh=>?_⟩⟩
   ·rcases h with h | h
    ·rcases List.mem_append.mp h with h | h
     ·exact .inl h
     ·rw[List.mem_singleton.mp h];exact .inr (List.mem_cons_self ..)
    ·exact .inr (List.mem_cons_of_mem _ h)
   ·rcases h with h | h
    ·exact .inl (List.mem_append_left _ h)
    ·rcases List.mem_cons.mp h with rfl | h
     ·exact .inl (List.mem_append_right _ (List.mem_singleton.mpr rfl))
     ·exact .inr h
noncomputable def setI (tb:List (List Int)):List (List Int):=setR (sortI tb)
theorem zhb (tb:List (List Int)):(setI tb).Nodup/\(setI tb).Pairwise (λx y=>Srt.ltI y x=false)/\∀x,x∈setI tb↔x∈tb:=by
 obtain⟨q1,q2,q3⟩:=zha (sortI tb) [] List.nodup_nil List.Pairwise.nil (λa ha=>by cases ha) (zfj tb);exact⟨q1,q2,λx=>(q3 x).trans ⟨λh=>(sortI_perm tb).mem_iff.mp (h.resolve_left (λz=>by cases z)),λh=>.inr ((sortI_perm tb).mem_iff.mpr h)⟩⟩
theorem zgj {tb zs:List (List Int)}(h1:zs.Nodup)(h2:zs.Pairwise (λx y=>Srt.ltI y x=false))(h3:∀x,x∈zs↔x∈tb):zs=setI tb:=by
 obtain⟨q1,q2,q3⟩:=zhb tb;have p:zs.Perm (setI tb):=(List.perm_ext_iff_of_nodup h1 q1).mpr λx=>(h3 x).trans (q3 x).symm;have e1:=zfk p h2;have e2:=zfk (List.Perm.refl (setI tb)) q2;exact e1.trans e2.symm
theorem zhY:∀(l acc:List (List Int)),(l.foldl addR acc).length<=acc.length+l.length
 | [],acc=>Nat.le_refl _
 | r::l,acc=>by
  rw[List.foldl_cons,List.length_cons];have:=zhY l (addR acc r);have h:(addR acc r).length<=acc.length+1:=by
   unfold addR;split
   ·lia
   ·rw[List.length_append];simp
  lia
theorem znV (tb:List (List Int)):(setI tb).length<=tb.length:=by
 have:=zhY (sortI tb) [];rw[(sortI_perm tb).length_eq]at this;simpa[setI,setR]using this
theorem zkN {fs rs:List (List Int)}(hn:fs.Nodup)(hm:∀x,x∈fs↔x∈rs):sortI fs=setI rs:=
 zgj ((sortI_perm fs).nodup_iff.mpr hn) (zfj fs) λx=>((sortI_perm fs).mem_iff).trans (hm x)
noncomputable abbrev FIG:Str:="0123456789"
theorem zhZ:("-" : Str)=⟨#[45]⟩:=by decide +kernel
theorem zkO:("0" : Str)=⟨#[48]⟩:=by decide +kernel
theorem zeF (x:Str)(c:Nat):Txt.startswith x ⟨#[c]⟩=true↔x.cps.toList[0]? = some c:=by
 rw[<- subAt_one x c 0];unfold Txt.startswith;rw[Bool.and_eq_true,decide_eq_true_eq]
noncomputable def neg (w:Str):Bool:=Txt.startswith w "-"
theorem zfn {w:Str}:neg w=true↔∃cs,w.cps.toList=45::cs:=by
 unfold neg;rw[zhZ,zeF];cases h:w.cps.toList with
 | nil=>simp
 | cons a l=>simp
noncomputable def figs (w:Str):Str:=if neg w=true then Txt.slice w (some 1) none else w
theorem len_list (w:Str):w.cps.toList.length=w.length:=Array.length_toList
theorem zia {x y:Str}(h:x.cps.toList=y.cps.toList):x=y:=by
 obtain⟨⟨a⟩⟩:=x;obtain⟨⟨b⟩⟩:=y;cases h;rfl
theorem zpV {w:Str}{c:Nat}{cs:List Nat}(h:w.cps.toList=c::cs):(Txt.slice w (some 1) none).cps.toList=cs:=by
 have hl:=len_list w;rw[h,List.length_cons]at hl;rw[slice_from_eq (b:=(w.length:Int)) (by decide) (by lia) rfl,h];show(List.take _ cs)=cs;exact List.take_of_length_le (by lia)
theorem zpW (w:Str):Txt.slice w (some 0) none=w:=by
 rw[slice_from_eq (b:=(w.length:Int)) (by decide) (by lia) rfl];apply zia;show List.take _ (List.drop 0 w.cps.toList)=w.cps.toList;rw[List.drop_zero,List.take_of_length_le (by rw[len_list];lia)]
theorem zpX (w:Str):decide (Txt.slice w none (some 1) = "-")=neg w:=by
 rw[Bool.eq_iff_iff,decide_eq_true_iff,zfn,zhZ];have hl:=len_list w;cases h:w.cps.toList with
 | nil=>
  rw[h]at hl;have h1:=Txt.slice_le w none (some 1);refine⟨λz=>?_,λ q123q=>by obtain⟨cs,z⟩:=q123q;exact nomatch z⟩;rw[z]at h1;have:(1:Nat)<=w.length:=h1;simp at hl;lia
 | cons a l=>
  rw[h,List.length_cons]at hl;have h1:=eq_of_beq (slice_closes_to (x:=w) (j:=1) ⟨by decide,by rw[len_list];lia⟩);rw[h1,h];show(⟨(List.take 1 (a::l)).toArray⟩:Str)=⟨#[45]⟩↔_;constructor
  ·intro z;have z':a=45:=by simpa using z
   exact⟨l,by rw[z']⟩
  ·rintro⟨cs,z⟩;cases z;rfl
theorem zkP (w:Str):(Txt.slice w none (some 1) = "-")↔neg w=true:=⟨λh=>by rw[<- zpX w];exact decide_eq_true h,λh=>by rw[<- zpX w]at h;exact of_decide_eq_true h⟩
theorem zib {w:Str}{cs:List Nat}(h:w.cps.toList=45::cs):(figs w).cps.toList=cs:=by
 unfold figs;rw[if_pos (zfn.mpr ⟨cs,h⟩)];exact zpV h
theorem zma (w:Str):Txt.slice w (some (if neg w=true then 1 else 0)) none=figs w:=by
 unfold figs;split
 ·rfl
 ·exact zpW w
theorem znW (w:Str):(figs w≠w)↔neg w=true:=by
 constructor
 ·intro h;refine Classical.byContradiction λn=>h ?_;unfold figs;exact if_neg n
 ·intro h e;obtain⟨cs,hc⟩:=zfn.mp h;have h1:=zib hc;rw[e,hc]at h1;have:=congrArg List.length h1;rw[List.length_cons]at this;lia
theorem zic (w:Str):(figs w).length<=w.length:=by
 unfold figs;split
 ·exact Txt.slice_le w _ _
 ·exact Nat.le_refl _
theorem zid {x:Str}{s:Str}:s∈signs x↔∃c∈x.cps.toList,s=⟨#[c]⟩:=by
 unfold signs;rw[List.mem_map];constructor
 ·rintro⟨c,h,rfl⟩;exact⟨c,h,rfl⟩
 ·rintro⟨c,h,rfl⟩;exact⟨c,h,rfl⟩
theorem znX:∀c:Nat,c∈FIG.cps.toList↔48<=c/\c<=57:=by
 intro c;have e:FIG.cps.toList=[48,49,50,51,52,53,54,55,56,57]:=by decide +kernel
 rw[e];simp only[List.mem_cons,List.not_mem_nil,or_false];omega
theorem zpY (c:Nat):inS ⟨#[c]⟩ FIG=true↔48<=c/\c<=57:=by
 unfold inS;rw[found_one,decide_eq_true_iff];exact znX c
theorem znY {x:Str}:(∀s∈signs x,inS s FIG=true)↔AllDigits x.cps.toList:=by
 constructor
 ·intro h c hc;exact(zpY c).mp (h _ (zid.mpr ⟨c,hc,rfl⟩))
 ·intro h s hs;obtain⟨c,hc,rfl⟩:=zid.mp hs;exact(zpY c).mpr (h c hc)
structure zck (w:Str):Prop where
 pos:1<=(figs w).length
 le:(figs w).length<=60
 dig:∀s∈signs (figs w),inS s FIG=true
 no0:¬ (Txt.startswith (figs w) "0" = true/\w≠"0")
noncomputable def numV (w:Str):Int:=(PySem.intText? w).getD 0
theorem zpZ:∀(cs:List Nat)(a:Nat),AllDigits cs->cs.foldl (λacc c=>acc*10+(c-48)) a<(a+1)*10 ^ cs.length
 | [],a,_=>by simp
 | c::cs,a,h=>by
  rw[List.foldl_cons];have h1:=zpZ cs (a*10+(c-48)) h.tail;have h2:=h.head;rw[List.length_cons,Nat.pow_succ,Nat.mul_comm (10 ^ cs.length) 10,<- Nat.mul_assoc];exact Nat.lt_of_lt_of_le h1 (Nat.mul_le_mul_right _ (by lia))
theorem zeb {w:Str}(h:zck w):∃m:Nat,m<10 ^ 60/\PySem.intText? (figs w)=some (m:Int)/\PySem.intText? w=some (numV w)/\numV w=(if neg w=true then -(m:Int) else m)/\w.length<=61:=by
 have hd:=znY.mp h.dig;have hp:=h.pos;have hl:=h.le;have hne:(figs w).cps.toList≠[]:=λz=>by have:=len_list (figs w);rw[z]at this;simp at this;lia
 have h1:=intText_digits hd hne (by lia);have hlt:digitsVal (figs w).cps.toList<10 ^ 60:=by
  have:=zpZ _ 0 hd;rw[Nat.zero_add,Nat.one_mul,len_list]at this;exact Nat.lt_of_lt_of_le this (Nat.pow_le_pow_right (by decide) hl)
 refine⟨_,hlt,h1,?_⟩;by_cases hn:neg w=true
 ·obtain⟨cs,hc⟩:=zfn.mp hn;have hf:=zib hc;have hwl:=len_list w;have hfl:=len_list (figs w);rw[hf]at hfl hd hne;rw[hc,List.length_cons]at hwl;have h2:=intText_neg hc hd hne (by lia);have e:numV w = -((digitsVal cs:Nat):Int):=by unfold numV;rw[h2];rfl
  rw[if_pos hn,hf];exact⟨by rw[e];exact h2,e,by lia⟩
 ·have hf:figs w=w:=if_neg hn;rw[hf]at h1 hl ⊢;have e:numV w=((digitsVal w.cps.toList:Nat):Int):=by unfold numV;rw[h1];rfl
  rw[if_neg hn];exact⟨by rw[e];exact h1,e,by lia⟩
theorem znZ {w:Str}(h:zck w):(numV w).natAbs<10 ^ 60:=by
 obtain⟨m,h1,_,_,e,_⟩:=zeb h;rw[e];split<;>lia
noncomputable def words (p:Str):List Str:=Txt.split p " "
noncomputable def pieces (x:Str):List Str:=Txt.split x "; "
theorem zgk (p:Str):(words p).length<=p.length+2:=split_le p " "
theorem words_pos (p:Str):1<=(words p).length:=split_pos p " "
theorem zeG (x:Str):(pieces x).length<=x.length+2:=split_le x "; "
theorem zeH (x:Str):1<=(pieces x).length:=split_pos x "; "
theorem word_short {p w:Str}(h:w∈words p):w.length<=p.length:=part_short h
theorem zec {x p:Str}(h:p∈pieces x):p.length<=x.length:=part_short h
structure zgl (p:Str):Prop where
 num:∀w∈words p,zck w
 le6:(words p).length<=6
noncomputable def rowV (p:Str):List Int:=(words p).map numV
theorem zbM (p:Str):(rowV p).length=(words p).length:=List.length_map ..
structure zdd (x:Str):Prop where
 row:∀p∈pieces x,zgl p
 few:(pieces x).length<=60
 wide:∀p∈pieces x,∀q∈pieces x,(words p).length=(words q).length
noncomputable def zcd (x:Str):List (List Int):=(pieces x).map rowV
noncomputable def rowP (r:List Int):PV:=.tup (r.map PV.int)
noncomputable def tblP (t:List (List Int)):PV:=.lst (t.map rowP)
structure zeI (t:List (List Int)):Prop where
 few:t.length<=61
 wide:∀r∈t,r.length<=7
 num:∀r∈t,∀i∈r,i.natAbs<10 ^ 60
theorem zhc {x:Str}(h:zdd x):zeI (setI (zcd x)):=by
 refine⟨?_,λr hr=>?_,λr hr i hi=>?_⟩
 ·have h1:=znV (zcd x);have h2:=h.few;unfold zcd at h1 ⊢;rw[List.length_map]at h1;lia
 ·obtain⟨p,hp,rfl⟩:=List.mem_map.mp (((zhb _).2.2 r).mp hr);rw[zbM];have:=(h.row p hp).le6;lia
 ·obtain⟨p,hp,rfl⟩:=List.mem_map.mp (((zhb _).2.2 r).mp hr);obtain⟨w,hw,rfl⟩:=List.mem_map.mp hi;exact znZ ((h.row p hp).num w hw)
theorem zkQ {x:Str}:∀r∈zcd x,r≠[]:=λr hr e=>by
 obtain⟨p,hp,rfl⟩:=List.mem_map.mp hr;have h1:=words_pos p;have h2:=zbM p;rw[e]at h2;simp at h2;lia
noncomputable def shR (r:List Int):Str:=Txt.join " " (r.map txtI)
noncomputable def shT (t:List (List Int)):Str:=Txt.join "; " (t.map shR)
theorem zoa {i:Int}(h:i.natAbs<10 ^ 60):(txtI i).length<=61:=by
 have e:=int_text_length_le10 (k:=60) (by decide) h;unfold txtI;rw[PySem.ofString_length];exact e
theorem zkR {i:Int}(h:i.natAbs<10 ^ 60):i.natAbs.log2<1920:=by
 by_cases h0:i.natAbs=0
 ·rw[h0];decide
 ·rw[Nat.log2_lt h0];exact Nat.lt_trans h (by decide +kernel)
theorem zie (sep:Str):∀ss:List Str,(Txt.join sep ss).length<=(ss.map (·.length)).sum+ss.length*sep.length:=by
 intro ss;have key:∀(ss:List Str) (acc:Array Nat),(ss.foldl (λacc p=>acc++sep.cps++p.cps) acc).size<=acc.size+(ss.map (·.length)).sum+ss.length*sep.length:=by
  intro ss;induction ss with
  | nil=>intro acc;simp
  | cons s r ih=>
   intro acc;rw[List.foldl_cons];refine Nat.le_trans (ih _) ?_;rw[Array.size_append,Array.size_append,List.map_cons,List.sum_cons,List.length_cons,Nat.succ_mul];show acc.size+sep.length+s.length+_+_<=_;lia
 cases ss with
 | nil=>exact Nat.zero_le _
 | cons s r=>
  have h:=key r s.cps;rw[List.map_cons,List.sum_cons,List.length_cons,Nat.succ_mul];refine Nat.le_trans h ?_;show s.length+_+_<=_;lia
theorem zkS (n:Nat):∀ss:List Str,(∀s∈ss,s.length<=n)->(ss.map (·.length)).sum<=ss.length*n
 | [],_=>by simp
 | s::r,h=>by
  rw[List.map_cons,List.sum_cons,List.length_cons,Nat.succ_mul];have h1:=h s (List.mem_cons_self ..);have h2:=zkS n r λx hx=>h x (List.mem_cons_of_mem _ hx);lia
theorem zhd {r:List Int}(h1:r.length<=7)(h2:∀i∈r,i.natAbs<10 ^ 60):((r.map txtI).map (·.length)).sum<=427:=by
 have h:=zkS 61 (r.map txtI) λs hs=>by obtain⟨i,hi,rfl⟩:=List.mem_map.mp hs;exact zoa (h2 i hi)
 rw[List.length_map]at h;lia
theorem zob {r:List Int}(h1:r.length<=7)(h2:∀i∈r,i.natAbs<10 ^ 60):(shR r).length<=434:=by
 have h3:=zie " " (r.map txtI);have h4:=zhd h1 h2;have e:(" " : Str).length=1:=by decide +kernel
 rw[e,List.length_map]at h3;unfold shR;lia
theorem zhe {t:List (List Int)}(h:zeI t):((t.map shR).map (·.length)).sum<=26474:=by
 have h1:=zkS 434 (t.map shR) λs hs=>by obtain⟨r,hr,rfl⟩:=List.mem_map.mp hs;exact zob (h.wide r hr) (h.num r hr)
 have:=h.few;rw[List.length_map]at h1;lia
theorem zkT {t:List (List Int)}(h:zeI t):(shT t).length<=26600:=by
 have h1:=zie "; " (t.map shR);have h2:=zhe h;have h3:=h.few;have e:("; " : Str).length=2:=by decide +kernel
 rw[e,List.length_map]at h1;unfold shT;lia
end M62
namespace K01
open PySem PySem.Spec PyProof.Rows
noncomputable def mix (c j:Int):Int:=
 if c % 2=1/\c / 2 ^ 27≠0 then(c / 2 ^ (1+20*j).toNat) % 1048576
 else(((c*(2*j+3)+j) % 2147483629*((c*(2*j+3)+j) % 2147483629)+1)*48271 % 2147483629)*(((c*(2*j+3)+j) % 2147483629*((c*(2*j+3)+j) % 2147483629)+1)*48271 % 2147483629) % 2147483587
theorem zbD (c j:Int):0<=mix c j:=by
 unfold mix;split
 ·exact Int.emod_nonneg _ (by decide)
 ·exact Int.emod_nonneg _ (by decide)
end K01
namespace Q62
open PySem PySem.Spec L2 PL M62
open PyProof.Rows hiding St
open K01 (mix zbD)
noncomputable def top (i:Nat):Stmt:=PySem.Challenge.pw_joinwood_k62_rows_as_texts.main.body.getD i (.Pass ⟨0,0,0,0⟩)
noncomputable abbrev zdj:Stmt:=top 9
noncomputable abbrev zbi:Stmt:=top 10
noncomputable abbrev zaJ:Stmt:=top 11
noncomputable abbrev zbb:Stmt:=top 12
noncomputable abbrev zay:Stmt:=top 13
noncomputable abbrev zbc:Stmt:=top 14
noncomputable abbrev zaK:Stmt:=top 15
noncomputable abbrev zcq:Stmt:=top 17
noncomputable abbrev sMix:Stmt:=top 18
noncomputable abbrev zbN:Stmt:=top 19
noncomputable abbrev zen:Stmt:=top 20
noncomputable abbrev zed:Stmt:=top 21
noncomputable abbrev sOdd:Stmt:=top 22
noncomputable abbrev zbj:Stmt:=top 23
noncomputable abbrev zaL:Stmt:=top 24
noncomputable abbrev zcX:Stmt:=top 25
noncomputable abbrev zbS:Stmt:=top 26
noncomputable abbrev sLaw:Stmt:=top 27
noncomputable def fMix:PF:=λds Q=>∃c j:Int,ds=[.int c,.int j]/\0<=j/\j<=1000/\Q (.int (mix c j)) .frz
open Lean in
def puM:MacroM (TSyntax `tactic):=do
 let es<-("fMix zfo M62.rowP M62.tblP zdx fOdd znQ zkK zkX zkx pInS zlQ zhX zeE zdc zgY zkF zce zcM fAny zdY zcL zdz zkM zpP zmc fText zcK zdy zih".splitOn " ").filterM λn=>return !(<-Macro.resolveGlobalName n.toName).isEmpty;let ls<-("pSeq zem zek zbT pSet pRet pIf zei zco mApp zcn t2 i0 i2 pVar pC zeW pNil pTup pLst noOwn isOwn tBl blP zdJ tOrP zeT tTru zdh TruP zeU zeV tIfE pEq pIn pIsN pIx ixV pCat PL.tB fLen LenP zej zcb fIsi zcm zeZ pSlL zfb zfc zdi zbK iLst zeY zbC fAll pSlS pFor PL.plain zaV zbR blkP List.map_cons List.map_nil List.length_cons List.length_nil List.cons_append List.nil_append List.replicate List.getElem?_cons_zero List.getElem?_cons_succ List.getElem?_nil Option.getD_some Option.getD_none List.set_cons_zero List.set_cons_succ List.cons.injEq Option.some.injEq Prod.mk.injEq PV.int.injEq PV.bl.injEq PV.str.injEq PV.lst.injEq PV.tup.injEq PV.ty.injEq PV.dK.injEq exists_eq_left' exists_eq_left exists_eq' exists_eq exists_and_left exists_and_right exists_eq_right true_and and_true reduceCtorEq false_and and_false false_or or_false exists_false exists_const Bool.false_eq_true if_true if_false and_assoc ite_true ite_false Bool.not_eq_true' decide_eq_true_eq decide_eq_false_iff_not Bool.not_false Bool.not_true true_or or_true not_true_eq_false not_false_eq_true Bool.and_eq_true Nat.zero_add Nat.sub_self Nat.reduceAdd Nat.reduceSub implies_true ne_eq zbW zaI Bool.true_and Bool.and_true List.all_nil".splitOn " "++es).toArray.mapM λn=>`(Lean.Parser.Tactic.simpLemma|$(mkIdent n.toName):term)
 `(tactic|first|(dsimp only[$ls,*];try simp only[$ls,*])|simp only[$ls,*])
local macro_rules | `(tactic| walk_at "pu")=>puM
local macro_rules | `(tactic| walk_at "go")=>`(tactic| ((first | (with_reducible refine hold ?_) | (with_reducible refine holdT ?_) | (with_reducible refine holdB ?_));walk_at "pu"))
local macro_rules | `(tactic| walk_at "side")=>`(tactic| first | assumption | decide | lia | exact⟨by decide,by decide⟩ | exact⟨by decide,by decide,by decide⟩ | exact Or.inl ⟨by lia,by lia⟩ | exact Or.inr ⟨by lia,by lia⟩)
local macro_rules | `(tactic| walk_at "auto")=>`(tactic| repeat (first | ((with_reducible refine hold ?_);walk_at "pu") | ((with_reducible refine holdT ?_);walk_at "pu") | ((with_reducible refine And.intro ?_ ?_);(· walk_at "side"))))
theorem zaS:zbJ fMix:=λds Q Q' m q124q=>by obtain⟨c,j,e,h1,h2,q⟩:=q124q;exact⟨c,j,e,h1,h2,m _ _ q⟩
section
variable {P:Program}{w:World}{K:PySem.W.Frag}{mg:Str->Option Value}{base:Heap}
theorem zqa:zaq ["_law_cell","_law_j","_law_number_here"] ["_law_cell","_law_j"] (zac sMix):=⟨rfl,rfl,rfl,by decide +kernel,rfl,by decide +kernel,by decide +kernel⟩
theorem zif {f:Addr}{fd:FuncData}(F:Fun K "_law_mix" "_law_mix" sMix f fd):FnOk P w K mg base CX0 1 f fd ["_law_cell","_law_j"] (spP K fMix):=by
 refine zaP F zqa (λds Q q125q=>by obtain⟨c,j,e,_⟩:=q125q;rw[e];rfl) (λcdv A outer s H E hr=>?_);have hu:(A.deeper (envOfC "_law_mix" (zac sMix) s.heap.objs.size f cdv)).units+16<cLine:=by have q:=hr.units;lia
 have nd:=zqa.nd;refine⟨_,(zae (zaF (PuW.t (zcQ (zbB hu (zaH (zab 0) zaf) zaf) (zcg (zcp hu (zms (zab 0) zaf) zaf)))) (zag (zah (zaH (zms (zab 0) (zbs zaf (zcl zaf (zab 1)))) zaf))) zam)
   (zae (zak (i:=2) nd rfl (Or.inl rfl) (zaH (zbs (zcl (zab 0) (zbs (zcl zaf (zab 1)) zaf)) (zab 1)) zaf))
   (zae (zak (i:=2) nd rfl (Or.inl rfl) (zaH (zcl (zbs (zcl (zab 2) (zab 2)) zaf) zaf) zaf))
   (zag (zah (zaH (zcl (zab 2) (zab 2)) zaf)))))),λds Q h=>?_⟩
 obtain⟨c,j,rfl,h0,h1,q⟩:=h;have n1:=Int.emod_nonneg (c*(2*j+3)+j) (show(2147483629:Int)≠0 by decide);have n2:=Int.emod_lt_of_pos (c*(2*j+3)+j) (show(0:Int)<2147483629 by decide);have b2:∀z:Int,CMul (z % 2147483629) (z % 2147483629):=λz=>.inl ⟨by lia,by lia⟩;have els:¬ (c % 2=1/\c / 2 ^ 27≠0)->Q (.int ((((c*(2*j+3)+j) % 2147483629*((c*(2*j+3)+j) % 2147483629)+1)*48271 % 2147483629)*(((c*(2*j+3)+j) % 2147483629*((c*(2*j+3)+j) % 2147483629)+1)*48271 % 2147483629) % 2147483587)) .frz:=λhn=>by
  unfold mix at q;rw[if_neg hn]at q;exact q
 walk_at "pu";refine⟨by decide,ite2 (λe1=>⟨by decide,ite2 (λe2=>?a) (λe2=>?b)⟩) (λe1=>?c)⟩
 case a=>
  walk_at "auto";unfold mix at q;rw[if_pos ⟨e1,e2⟩]at q;exact q
 case b=>
  walk_at "auto";exact els λz=>e2 z.2
 case c=>
  walk_at "auto";exact els λz=>e1 z.1
theorem take_snoc {α:Type}{l:List α}{i:Nat}{o:α}(h:l[i]? = some o):l.take i++[o]=l.take (i+1):=by rw[List.take_add_one,h];rfl
theorem zmb {l:List PV}{c j:Int}{k:Nat}{ws:List Int}(hl:l=ws.map PV.int)(hk:ws.length=k)(h0:0<k):∃x:Int,atI l (mix c j % (k:Int))=some (PV.int x)/\x∈ws:=by
 have m:=zbD c j;have hlt:=Int.emod_lt_of_pos (mix c j) (show(0:Int)<(k:Int) by lia);have hge:=Int.emod_nonneg (mix c j) (show(k:Int)≠0 by lia);obtain⟨n,hn⟩:∃n:Nat,mix c j % (k:Int)=(n:Int):=⟨_,(Int.toNat_of_nonneg hge).symm⟩;have hnl:n<ws.length:=by lia
 refine⟨ws[n],?_,List.getElem_mem hnl⟩;rw[hn,hl];exact zbo (by rw[List.getElem?_map,List.getElem?_eq_getElem hnl];rfl)
noncomputable def zfo:PF:=λds Q=>∃c j:Int,ds=[.int c,.int j]/\0<=j/\j<=900/\∀n:Int,n.natAbs<10 ^ 60->Q (.int n) .frz
theorem zhf:zbJ zfo:=λds Q Q' m q126q=>by obtain⟨c,j,e,h1,h2,q⟩:=q126q;exact⟨c,j,e,h1,h2,λn h=>m _ _ (q n h)⟩
theorem zig:zaq ["_law_cell","_law_j","_law_drawn"] ["_law_cell","_law_j"] (zac zbN):=⟨rfl,rfl,rfl,by decide +kernel,rfl,by decide +kernel,by decide +kernel⟩
theorem zkU {f fM:Addr}{fd fdM:FuncData}(F:Fun K "_law_number" "_law_number" zbN f fd) (Mix:Fx K mg "_law_mix" sMix ["_law_cell","_law_j"] fM fdM) (B:Bl mg):FnOk P w K mg base CX0 2 f fd ["_law_cell","_law_j"] (spP K zfo):=by
 have GMix:FnOk P w K mg base CX0 1 fM fdM ["_law_cell","_law_j"] (spP K fMix):=zif Mix.fn;refine zaP F zig (λds Q q127q=>by obtain⟨c,d,e,_⟩:=q127q;rw[e];rfl) (λcdv A outer s H E hr=>?_);have hu:(A.deeper (envOfC "_law_number" (zac zbN) s.heap.objs.size f cdv)).units+16<cLine:=by have q:=hr.units;lia
 have nd:=zig.nd;refine⟨_,(zae (zak (i:=2) nd rfl (Or.inl rfl) (zan GMix zaS hr rfl Mix.mg Mix.fn.kp Mix.bd (zaa (zab 0) (zaa (zab 1) zad))))
   (zae (zaF (zbB hu (zaH (zab 2) zaf) zaf) (zag (zah (zdH (zaH (zjx (zab 2) zaf) zaf) zaf))) zam)
   (zae (zaF (zbB hu (zaH (zab 2) zaf) zaf) (zag (zah (zdH (zaH (zjx (zab 2) zaf) zaf) zaf))) zam)
   (zag (zah (zdH (zaH (zdH (zbs (zcl (zab 0) (zbs (zab 1) zaf)) (zjy zaf zaf)) zaf) (zdH (zcl zaf (zjy zaf zaf)) zaf)) (zdH (zjy zaf zaf) zaf))))))),λds Q h=>?_⟩
 obtain⟨c,j,rfl,h0,h9,q⟩:=h;have m1:=zbD c j;walk_at "pu";walk_at "auto";have big:(1000000:Nat)<10 ^ 60:=by decide
 refine ite2 (λe=>?_) (λe=>?_)
 ·walk_at "go";walk_at "auto";refine q _ ?_;have b1:=Int.emod_nonneg (mix c j / 3) (show(5:Int)≠0 by decide);have b2:=Int.emod_lt_of_pos (mix c j / 3) (show(0:Int)<5 by decide);exact Nat.lt_of_le_of_lt (show _<=1000000 by lia) big
 walk_at "go";walk_at "go";walk_at "auto";refine ite2 (λe=>?_) (λe=>?_)
 ·walk_at "go";walk_at "auto";refine q _ ?_;have b1:=Int.emod_nonneg (mix c j / 3) (show(2001:Int)≠0 by decide);have b2:=Int.emod_lt_of_pos (mix c j / 3) (show(0:Int)<2001 by decide);exact Nat.lt_of_le_of_lt (show _<=1000000 by lia) big
 walk_at "go";walk_at "go";have cp:CPow 10 60:=⟨by decide,by decide,by decide⟩;refine⟨.inr ⟨by lia,by lia⟩,cp,cp,.inl ⟨by decide,by decide⟩,by decide,cp,q _ ?_⟩;have hM:((10 ^ 60:Nat):Int)=10 ^ Int.toNat 60:=by decide +kernel
 rw[<- hM];have hp:0<(10 ^ 60:Nat):=by decide
 generalize (10 ^ 60:Nat)=M at hp ⊢;have b1:=Int.emod_nonneg (c*(j+1)+(M:Int)-1) (show(2*(M:Int)-1)≠0 by lia);have b2:=Int.emod_lt_of_pos (c*(j+1)+(M:Int)-1) (show(0:Int)<2*(M:Int)-1 by lia);lia
end
noncomputable def zmc:PF:=λds Q=>∃(cs:List Int)(a:Nat),ds=[.lst (cs.map PV.int),.int a]/\a<cs.length/\cs.length<=100/\∀t,zeI t->Q (tblP t) .new
theorem zkV:zbJ zmc:=λds Q Q' m q128q=>by obtain⟨c,j,e,h1,h2,q⟩:=q128q;exact⟨c,j,e,h1,h2,λn h=>m _ _ (q n h)⟩
theorem zeJ (n:Nat)(ss:List Int):(ss.map PV.int).all (PL.plain n)=true:=by
 rw[List.all_eq_true];intro d hd;obtain⟨x,_,rfl⟩:=List.mem_map.mp hd;cases n<;>rfl
theorem zkW (n:Nat)(r:List Int):PL.plain (n+1) (rowP r)=true:=by
 unfold rowP;simp only[PL.plain];exact zeJ n r
theorem zbl (n:Nat)(t:List (List Int)):(t.map rowP).all (PL.plain (n+1))=true:=by
 rw[List.all_eq_true];intro d hd;obtain⟨x,_,rfl⟩:=List.mem_map.mp hd;exact zkW n x
section
variable {P:Program}{w:World}{K:PySem.W.Frag}{mg:Str->Option Value}{base:Heap}
theorem zmO:zaq ["_law_cells","_law_at","_law_total","_law_width","_law_many","_law_found","_law_k","_law_cell","_law_row"] ["_law_cells","_law_at"] (zac zen):=⟨rfl,rfl,rfl,by decide +kernel,rfl,by decide +kernel,by decide +kernel⟩
theorem zoc {f fM fN:Addr}{fd fdM fdN:FuncData}(F:Fun K "_law_rows" "_law_rows" zen f fd) (Mix:Fx K mg "_law_mix" sMix ["_law_cell","_law_j"] fM fdM) (Number:Fx K mg "_law_number" zbN ["_law_cell","_law_j"] fN fdN) (B:Bl mg):FnOk P w K mg base CX0 3 f fd ["_law_cells","_law_at"] (spP K zmc):=by
 have GMix:FnOk P w K mg base CX0 2 fM fdM ["_law_cell","_law_j"] (spP K fMix):=(zif Mix.fn).mono (by decide);have GNumber:FnOk P w K mg base CX0 2 fN fdN ["_law_cell","_law_j"] (spP K zfo):=zkU Number.fn Mix B;refine zaP F zmO (λds Q q129q=>by obtain⟨c,d,e,_⟩:=q129q;rw[e];rfl) (λcdv A outer s H E hr=>?_);have hu:(A.deeper (envOfC "_law_rows" (zac zen) s.heap.objs.size f cdv)).units+16<cLine:=by have q:=hr.units;lia
 have nd:=zmO.nd;refine⟨_,(zae (zak (i:=2) nd rfl (Or.inl rfl) (zbw (zab 0) (zab 1)))
   (zae (zak (i:=3) nd rfl (Or.inl rfl) (zbw (zbQ (zaa zaf (zaa zaf (zaa zaf (zaa zaf (zaa zaf (zaa zaf (zaa zaf (zaa zaf (zaa zaf (zaa zaf zad))))))))))) (zaH (zan GMix zaS hr rfl Mix.mg Mix.fn.kp Mix.bd (zaa (zab 2) (zaa zaf zad))) zaf)))
   (zae (zak (i:=4) nd rfl (Or.inl rfl) (zaH (zan GMix zaS hr rfl Mix.mg Mix.fn.kp Mix.bd (zaa (zab 2) (zaa zaf zad))) zaf))
   (zae (zaF (PuW.t (zcQ (zbB hu (zab 1) zaf) (zcg (zbB hu (zaH (zan GMix zaS hr rfl Mix.mg Mix.fn.kp Mix.bd (zaa (zab 2) (zaa zaf zad))) zaf) zaf)))) (zag (zak (i:=4) nd rfl (Or.inl rfl) (zbs zaf (zaH (zan GMix zaS hr rfl Mix.mg Mix.fn.kp Mix.bd (zaa (zab 2) (zaa zaf zad))) zaf)))) zam)
   (zae (zak (i:=5) nd rfl (Or.inl rfl) (zbQ zad))
   (zae (zdK rfl PassesOwn.never (zcS rfl B.range (zaa (zab 4) zad)) (zau (i:=6) nd rfl (Or.inl rfl)) (zae (zak (i:=7) nd rfl (Or.inr rfl) (zbs (zbw (zab 0) (zaH (zbs (zab 1) (zab 6)) (zbu rfl B.len (zaa (zab 0) zad)))) (zjx (zab 6) zaf)))
   (zae (zak (i:=8) nd rfl (Or.inl rfl) (zhD rfl B.tuple (zaa (zbL (N:=["_law_j","_law_cell"]) (k:=1) (js:=[7]) rfl (zdE (sup:=zac zen) (XN:=["_law_cells","_law_at","_law_total","_law_width","_law_many","_law_found","_law_k","_law_cell","_law_row"]) rfl rfl (by decide +kernel)) (by decide) (zaO (by decide)) (zcS rfl B.range (zaa (zab 3) zad)) ⟨λ_ _ _ _ _=>(zau (i:=0) (by show(["_law_j","_law_cell"]:List Str).Nodup;decide +kernel) rfl (Or.inl rfl)),λ_ _ _ _ _=>zbh,λ_ _ _ _ _=>(zan GNumber zhf hr rfl Number.mg Number.fn.kp Number.bd (zaa (zab 1) (zaa (zbs zaf (zab 0)) zad)))⟩) zad)))
   (zae (zaF (PuW.t (zcQ (zcp hu (zab 5) (zbQ zad)) (zcg (zbB hu (zaH (zan GMix zaS hr rfl Mix.mg Mix.fn.kp Mix.bd (zaa (zab 7) (zaa zaf zad))) zaf) zaf)))) (zag (zak (i:=8) nd rfl (Or.inl rfl) (zbw (zab 5) (zaH (zan GMix zaS hr rfl Mix.mg Mix.fn.kp Mix.bd (zaa (zab 7) (zaa zaf zad))) (zbu rfl B.len (zaa (zab 5) zad)))))) zam)
   (zag (zfU (zeu 5 (zab 8))))))))
   (zag (zah (zab 5))))))))),λds Q h=>?_⟩
 obtain⟨cs,a,rfl,ha,hc,q⟩:=h;have hsz:=sizeLine_eq;walk_at "pu";refine⟨_,zbo (by rw[List.getElem?_map,List.getElem?_eq_getElem ha];rfl),?_⟩;generalize cs[a]=tt;walk_at "go";walk_at "auto";obtain⟨wd,hw,hwm⟩:=zmb (c:=tt) (j:=1) (k:=10) (ws:=[1,2,3,4,5,6,2,3,1,7]) rfl rfl (by decide);refine⟨_,hw,?_⟩;have hw7:1<=wd/\wd<=7:=by simp only[List.mem_cons,List.not_mem_nil,or_false]at hwm;omega
 have m2:=zbD tt 2;have m3:=zbD tt 3;have m4:=zbD tt 4;walk_at "auto";generalize hK:Hold (pSeq (pSet 5 (pLst pNil)) _) _=KK;have fin:∀mn:Int,0<=mn->mn<=61->KK [some (PV.lst (List.map PV.int cs),false),some (PV.int a,false),some (PV.int tt,false),some (PV.int wd,false),some (PV.int mn,false),none,none,none,none]:=by
  subst hK;intro mn n0 n1;walk_at "go";refine⟨by lia,?_⟩;walk_at "go";obtain⟨Iv,hIv⟩:∃Iv:Nat->PEnv->Prop,∀i ρ,Iv i ρ↔∃(t:List (List Int)) (k6 k7 k8:Option (PV×Bool)),t.length=i/\(∀r∈t,r.length<=7/\∀z∈r,z.natAbs<10 ^ 60)/\ρ=[some (PV.lst (List.map PV.int cs),false),some (PV.int a,false),some (PV.int tt,false),some (PV.int wd,false),some (PV.int mn,false),some (PV.lst (t.map rowP),true),k6,k7,k8]:=⟨_,λ_ _=>Iff.rfl⟩;refine⟨by lia,by lia,Iv,(hIv _ _).mpr ⟨[],none,none,none,rfl,by simp,rfl⟩,?_,?_⟩
  ·intro i d ρ hd hI;obtain⟨t,k6,k7,k8,tl,tr,rfl⟩:=(hIv _ _).mp hI;obtain⟨hi,rfl⟩:=zdo hd;have hpos:(0:Int)<(cs.length:Int):=by lia
   have b1:=Int.emod_nonneg ((a:Int)+(0+(i:Int))) (Int.ne_of_gt hpos);have b2:=Int.emod_lt_of_pos ((a:Int)+(0+(i:Int))) hpos;obtain⟨n,hn⟩:∃n:Nat,((a:Int)+(0+(i:Int))) % (cs.length:Int)=(n:Int):=⟨_,(Int.toNat_of_nonneg b1).symm⟩;have hnl:n<cs.length:=by lia
   walk_at "go";rw[List.length_map,hn];refine⟨hpos,_,zbo (by rw[List.getElem?_map,List.getElem?_eq_getElem hnl];rfl),?_⟩;generalize cs[n]=cc;refine⟨⟨by decide,by decide⟩,_,rfl,?_⟩;generalize cc+(0+(i:Int)) / 7=cl;have m6:=zbD cl 6;walk_at "go";have hl:(rngP 0 wd.toNat).length=wd.toNat:=zdn 0 _;refine⟨by lia,by lia,by rw[hl];lia,λk out=>∃r:List Int,out=r.map PV.int/\r.length=k/\∀z∈r,z.natAbs<10 ^ 60,⟨[],rfl,rfl,by simp⟩,?_,?_⟩
   ·rintro k d out hd - ⟨r,rfl,hr,hz⟩;obtain⟨hk,rfl⟩:=zdo hd;refine⟨_,rfl,by lia,by lia,λz hzz=>⟨r++[z],by rw[List.map_append];rfl,by rw[List.length_append,hr];rfl,λy hy=>?_⟩⟩;rcases List.mem_append.mp hy with hy | hy
    ·exact hz y hy
    ·rw[List.mem_singleton.mp hy];exact hzz
   rintro out - ⟨r,rfl,hr,hz⟩;rw[hl]at hr;walk_at "go";generalize hK:Hold (zco (mApp 5 (pVar 8))) _=K2;have fin2:∀r:List Int,r.length<=7->(∀z∈r,z.natAbs<10 ^ 60)->K2 [some (PV.lst (List.map PV.int cs),false),some (PV.int a,false),some (PV.int tt,false),some (PV.int wd,false),some (PV.int mn,false),some (PV.lst (t.map rowP),true),some (PV.int (0+(i:Int)),false),some (PV.int cl,false),some (PV.tup (r.map PV.int),false)]:=by
    subst hK;intro r h1 h2;walk_at "go";refine⟨by rw[List.length_map];lia,(hIv _ _).mpr ⟨t++[r],some (PV.int (0+(i:Int)),false),some (PV.int cl,false),some (PV.tup (r.map PV.int),false),by rw[List.length_append,tl];rfl,λy hy=>?_,by rw[List.map_append];rfl⟩⟩;rcases List.mem_append.mp hy with hy | hy
    ·exact tr y hy
    ·rw[List.mem_singleton.mp hy];exact⟨h1,h2⟩
   refine⟨by lia,zbl 4 t,ite2 (λe1=>⟨by decide,by decide,by decide,ite2 (λe2=>?_) (λe2=>?_)⟩) (λe1=>?_)⟩
   ·have hne:t≠[]:=λz=>e1 (by rw[z];rfl);have hp:(0:Int)<(t.length:Int):=by have:=List.length_pos_iff.mpr hne;lia
    have b1:=Int.emod_nonneg (mix cl 6) (Int.ne_of_gt hp);have b2:=Int.emod_lt_of_pos (mix cl 6) hp;obtain⟨n,hn⟩:∃n:Nat,mix cl 6 % (t.length:Int)=(n:Int):=⟨_,(Int.toNat_of_nonneg b1).symm⟩;have hnl:n<t.length:=by lia
    obtain⟨g1,g2⟩:=tr _ (List.getElem_mem hnl);walk_at "go";rw[List.length_map,hn];exact⟨by decide,by decide,hp,rowP t[n],zbo (by rw[List.getElem?_map,List.getElem?_eq_getElem hnl];rfl),fin2 _ g1 g2⟩
   ·walk_at "go";exact fin2 r (by lia) hz
   ·walk_at "go";exact fin2 r (by lia) hz
  ·intro ρ hI;obtain⟨t,k6,k7,k8,tl,tr,rfl⟩:=(hIv _ _).mp hI;rw[zdn]at tl;walk_at "go";exact q t ⟨by lia,λr hr=>(tr r hr).1,λr hr=>(tr r hr).2⟩
 refine ite2 (λe1=>⟨by decide,by decide,by decide,ite2 (λe2=>?_) (λe2=>?_)⟩) (λe1=>?_)
 ·walk_at "go";walk_at "auto";exact fin _ (by lia) (by lia)
 ·walk_at "go";exact fin _ (by lia) (by lia)
 ·walk_at "go";exact fin _ (by lia) (by lia)
end
noncomputable def zdx:PF:=λds Q=>∃r:List Int,ds=[rowP r]/\r.length<=7/\(∀i∈r,i.natAbs<10 ^ 60)/\Q (.str (shR r)) .frz
theorem zgm:zbJ zdx:=λds Q Q' m q130q=>by obtain⟨p,e,h,h2,q⟩:=q130q;exact⟨p,e,h,h2,m _ _ q⟩
noncomputable def fText:PF:=λds Q=>∃t:List (List Int),ds=[tblP t]/\zeI t/\Q (.str (shT t)) .frz
theorem zee:zbJ fText:=λds Q Q' m q131q=>by obtain⟨p,e,h,q⟩:=q131q;exact⟨p,e,h,m _ _ q⟩
noncomputable abbrev zcK:PF:=fText
theorem zfp:zbJ zcK:=zee
noncomputable abbrev oddL:PV:=.lst [.tup [.int 1]]
noncomputable def TxtD (d:PV):Prop:=(∃y:Str,d=.str y/\y.length<=60000)\/d=.non\/d=.int 7\/d=oddL
noncomputable def fOdd:PF:=λds Q=>∃c:Int,ds=[.int c]/\∀d,TxtD d->Q d .frz
theorem zmd:zbJ fOdd:=λds Q Q' m q132q=>by obtain⟨p,e,q⟩:=q132q;exact⟨p,e,λd h=>m _ _ (q d h)⟩
noncomputable abbrev sgS:Str:="   ;;--0123456789x,\n\t"
noncomputable def zdy:PF:=λds Q=>∃(x:Str)(c:Int),ds=[.str x,.int c]/\x.length<=26600/\∀d,TxtD d->Q d .frz
theorem zgn:zbJ zdy:=λds Q Q' m q133q=>by obtain⟨p,c,e,h,q⟩:=q133q;exact⟨p,c,e,h,λd h=>m _ _ (q d h)⟩
section
variable {P:Program}{w:World}{K:PySem.W.Frag}{mg:Str->Option Value}{base:Heap}
theorem zgo:zaq ["row"] ["row"] (zac zbc):=⟨rfl,rfl,rfl,by decide +kernel,rfl,by decide +kernel,by decide +kernel⟩
theorem ziL {f:Addr}{fd:FuncData}(F:Fun K "show_row" "show_row" zbc f fd) (B:Bl mg):FnOk P w K mg base CX0 1 f fd ["row"] (spP K zdx):=by
 refine zaP F zgo (λds Q q134q=>by obtain⟨c,e,_⟩:=q134q;rw[e];rfl) (λcdv A outer s H E hr=>?_);have hu:(A.deeper (envOfC "show_row" (zac zbc) s.heap.objs.size f cdv)).units+16<cLine:=by have q:=hr.units;lia
 have nd:=zgo.nd;refine⟨_,(zag (zah (zfa (zbL (N:=["cell"]) (k:=1) (js:=[]) rfl (zdE (sup:=zac zbc) (XN:=["row"]) rfl rfl (by decide +kernel)) (by decide) (zaO (by decide)) (zgJ (zab 0)) ⟨λ_ _ _ _ _=>(zau (i:=0) (by show(["cell"]:List Str).Nodup;decide +kernel) rfl (Or.inl rfl)),λ_ _ _ _ _=>zbh,λ_ _ _ _ _=>(zkI rfl B.str (zaa (zab 0) zad))⟩)))),λds Q h=>?_⟩;obtain⟨r,rfl,h7,hz,q⟩:=h;have hsz:=sizeLine_eq;have h1:=zhd h7 hz;have e1:(" " : Str).length=1:=by decide +kernel
 walk_at "pu";refine⟨by rw[List.length_map];lia,λi out=>out=((r.take i).map txtI).map PV.str,rfl,?_,?_⟩
 ·rintro i d out hd-rfl;rw[List.getElem?_map]at hd;cases hs:r[i]? with
  | none=>rw[hs]at hd;cases hd
  | some z=>
   rw[hs]at hd;cases hd;refine⟨_,rfl,zkR (hz z (List.mem_of_getElem? hs)),?_⟩;show _=_;rw[<- take_snoc hs,List.map_append,List.map_append];rfl
 ·rintro out-rfl;rw[List.length_map,List.take_of_length_le (Nat.le_refl _)];exact⟨r.map txtI,rfl,by rw[e1,List.length_map];lia,q⟩
theorem zeK:zaq ["rows"] ["rows"] (zac zaK):=⟨rfl,rfl,rfl,by decide +kernel,rfl,by decide +kernel,by decide +kernel⟩
theorem zhg {f fP:Addr}{fd fdP:FuncData}(F:Fun K "show_rows" "show_rows" zaK f fd) (ShowRow:Fx K mg "show_row" zbc ["row"] fP fdP) (B:Bl mg):FnOk P w K mg base CX0 2 f fd ["rows"] (spP K zcK):=by
 have GShowRow:FnOk P w K mg base CX0 1 fP fdP ["row"] (spP K zdx):=ziL ShowRow.fn B;refine zaP F zeK (λds Q q135q=>by obtain⟨c,e,_⟩:=q135q;rw[e];rfl) (λcdv A outer s H E hr=>?_);have hu:(A.deeper (envOfC "show_rows" (zac zaK) s.heap.objs.size f cdv)).units+16<cLine:=by have q:=hr.units;lia
 have nd:=zeK.nd;refine⟨_,(zag (zah (zfa (zbL (N:=["row"]) (k:=1) (js:=[]) rfl (zdE (sup:=zac zaK) (XN:=["rows"]) rfl rfl (by decide +kernel)) (by decide) (zaO (by decide)) (zbt (zab 0)) ⟨λ_ _ _ _ _=>(zau (i:=0) (by show(["row"]:List Str).Nodup;decide +kernel) rfl (Or.inl rfl)),λ_ _ _ _ _=>zbh,λ_ _ _ _ _=>(zan GShowRow zgm hr rfl ShowRow.mg ShowRow.fn.kp ShowRow.bd (zaa (zab 0) zad))⟩)))),λds Q h=>?_⟩;obtain⟨t,rfl,hq,q⟩:=h;have hsz:=sizeLine_eq;have h1:=zhe hq;have h2:=hq.few;have e1:("; " : Str).length=2:=by decide +kernel
 walk_at "pu";refine⟨by rw[List.length_map];lia,λi out=>out=((t.take i).map shR).map PV.str,rfl,?_,?_⟩
 ·rintro i d out hd-rfl;rw[List.getElem?_map]at hd;cases hs:t[i]? with
  | none=>rw[hs]at hd;cases hd
  | some r=>
   rw[hs]at hd;cases hd;have hm:=List.mem_of_getElem? hs;refine⟨r,rfl,hq.wide r hm,hq.num r hm,?_⟩;show _=_;rw[<- take_snoc hs,List.map_append,List.map_append];rfl
 ·rintro out-rfl;rw[List.length_map,List.take_of_length_le (Nat.le_refl _)];exact⟨t.map shR,rfl,by rw[e1,List.length_map];lia,q⟩
theorem zmP:zaq ["_law_rows_here"] ["_law_rows_here"] (zac zed):=⟨rfl,rfl,rfl,by decide +kernel,rfl,by decide +kernel,by decide +kernel⟩
theorem zod {f:Addr}{fd:FuncData}(F:Fun K "_law_text" "_law_text" zed f fd) (B:Bl mg):FnOk P w K mg base CX0 1 f fd ["_law_rows_here"] (spP K fText):=by
 refine zaP F zmP (λds Q q136q=>by obtain⟨c,e,_⟩:=q136q;rw[e];rfl) (λcdv A outer s H E hr=>?_);have hu:(A.deeper (envOfC "_law_text" (zac zed) s.heap.objs.size f cdv)).units+16<cLine:=by have q:=hr.units;lia
 have nd:=zmP.nd;refine⟨_,(zag (zah (zfa (zbL (N:=["_law_row"]) (k:=1) (js:=[]) rfl (zdE (sup:=zac zed) (XN:=["_law_rows_here"]) rfl rfl (by decide +kernel)) (by decide) (zaO (by decide)) (zbt (zab 0)) ⟨λ_ _ _ _ _=>(zau (i:=0) (by show(["_law_row"]:List Str).Nodup;decide +kernel) rfl (Or.inl rfl)),λ_ _ _ _ _=>zbh,λ_ _ _ _ _=>(zfa (zbL (N:=["_law_cell"]) (k:=1) (js:=[]) rfl (zdE (sup:=zcz ⟨.function,[(".0",.local),("_law_row",.local)],false,false,[]⟩ (zac zed)) (XN:=["_law_row"]) rfl rfl (by decide +kernel)) (by decide) (zaO (by decide)) (zgJ (zab 0)) ⟨λ_ _ _ _ _=>(zau (i:=0) (by show(["_law_cell"]:List Str).Nodup;decide +kernel) rfl (Or.inl rfl)),λ_ _ _ _ _=>zbh,λ_ _ _ _ _=>(zkI rfl B.str (zaa (zab 0) zad))⟩))⟩)))),λds Q h=>?_⟩;obtain⟨t,rfl,hq,q⟩:=h;have hsz:=sizeLine_eq;have h1:=zhe hq;have h2:=hq.few;have e1:("; " : Str).length=2:=by decide +kernel
 have e2:(" " : Str).length=1:=by decide +kernel
 walk_at "pu";refine⟨by rw[List.length_map];lia,λi out=>out=((t.take i).map shR).map PV.str,rfl,?_,?_⟩
 ·rintro i d out hd-rfl;rw[List.getElem?_map]at hd;cases hs:t[i]? with
  | none=>rw[hs]at hd;cases hd
  | some r=>
   rw[hs]at hd;cases hd;have hm:=List.mem_of_getElem? hs;have h7:=hq.wide r hm;have hz:=hq.num r hm;have h3:=zhd h7 hz;refine⟨r.map PV.int,rfl,by rw[List.length_map];lia,λj out=>out=((r.take j).map txtI).map PV.str,rfl,?_,?_⟩
   ·rintro j d out hd-rfl;rw[List.getElem?_map]at hd;cases hs:r[j]? with
    | none=>rw[hs]at hd;cases hd
    | some z=>
     rw[hs]at hd;cases hd;refine⟨_,rfl,zkR (hz z (List.mem_of_getElem? hs)),?_⟩;show _=_;rw[<- take_snoc hs,List.map_append,List.map_append];rfl
   ·rintro out-rfl;rw[List.length_map,List.take_of_length_le (Nat.le_refl _)];refine⟨r.map txtI,rfl,by rw[e2,List.length_map];lia,?_⟩;show _=_;rw[<- take_snoc hs,List.map_append,List.map_append];rfl
 ·rintro out-rfl;rw[List.length_map,List.take_of_length_le (Nat.le_refl _)];exact⟨t.map shR,rfl,by rw[e1,List.length_map];lia,q⟩
theorem zqb:zaq ["_law_cell","_law_some"] ["_law_cell"] (zac sOdd):=⟨rfl,rfl,rfl,by decide +kernel,rfl,by decide +kernel,by decide +kernel⟩
theorem zqc {f fM:Addr}{fd fdM:FuncData}(F:Fun K "_law_odd" "_law_odd" sOdd f fd) (Mix:Fx K mg "_law_mix" sMix ["_law_cell","_law_j"] fM fdM) (B:Bl mg):FnOk P w K mg base CX0 2 f fd ["_law_cell"] (spP K fOdd):=by
 have GMix:FnOk P w K mg base CX0 1 fM fdM ["_law_cell","_law_j"] (spP K fMix):=zif Mix.fn;refine zaP F zqb (λds Q q137q=>by obtain⟨c,e,_⟩:=q137q;rw[e];rfl) (λcdv A outer s H E hr=>?_);have hu:(A.deeper (envOfC "_law_odd" (zac sOdd) s.heap.objs.size f cdv)).units+16<cLine:=by have q:=hr.units;lia
 have nd:=zqb.nd;refine⟨_,(zae (zak (i:=1) nd rfl (Or.inl rfl) (zbQ (zaa zaj (zaa zaj (zaa zaj (zaa zaj (zaa zaj (zaa zaj (zaa zaj (zaa zaj (zaa zaj (zaa zaj (zaa zaj (zaa zaj (zaa zaj (zaa zaj (zaa zaj zad)))))))))))))))))
   (zae (zak (i:=1) nd rfl (Or.inl rfl) (zmx (zab 1) (zbQ (zaa zaj (zaa zaj (zaa zaj (zaa zaj (zaa zaj (zaa zaj (zaa zaj (zaa (znU zaj zaf) (zaa zaj (zaa zbO (zaa zaf (zaa (zbQ (zaa (zoZ (zaa zaf zad)) zad)) zad)))))))))))))))
   (zag (zah (zbw (zab 1) (zaH (zan GMix zaS hr rfl Mix.mg Mix.fn.kp Mix.bd (zaa (zab 0) (zaa zaf zad))) zaf)))))),λds Q h=>?_⟩
 obtain⟨c,rfl,q⟩:=h;have hsz:=sizeLine_eq;have m1:=zbD c 30;have e2:mix c 30 % 27=((mix c 30 % 27).toNat:Int):=by lia
 walk_at "pu";walk_at "auto";have key:∀(l:List PV),l.length=27->(∀d∈l,TxtD d)->∃x,atI l (mix c 30 % 27)=some x/\Q x Kd.frz:=λl hl hd=>by
  have hn:(mix c 30 % 27).toNat<l.length:=by lia
  exact⟨l[(mix c 30 % 27).toNat],(congrArg (atI l) e2).trans (zbo (List.getElem?_eq_getElem hn)),q _ (hd _ (List.getElem_mem hn))⟩
 have tx:∀x:Str,x.length<=60000->TxtD (.str x):=λx h=>.inl ⟨x,rfl,h⟩;refine key _ rfl ?_;simp only[List.forall_mem_cons]
 repeat (first | exact List.forall_mem_nil _ | (refine⟨?_,?_⟩;· first | exact tx _ (by decide +kernel) | exact .inr (.inl rfl) | exact .inr (.inr (.inl rfl)) | exact .inr (.inr (.inr rfl))))
theorem zgp:zaq ["_law_text_here","_law_cell","_law_signs","_law_way","_law_at","_law_sign"] ["_law_text_here","_law_cell"] (zac zbj):=⟨rfl,rfl,rfl,by decide +kernel,rfl,by decide +kernel,by decide +kernel⟩
theorem ziM {f fM fO:Addr}{fd fdM fdO:FuncData}(F:Fun K "_law_spoiled" "_law_spoiled" zbj f fd) (Mix:Fx K mg "_law_mix" sMix ["_law_cell","_law_j"] fM fdM) (Odd:Fx K mg "_law_odd" sOdd ["_law_cell"] fO fdO) (B:Bl mg):FnOk P w K mg base CX0 3 f fd ["_law_text_here","_law_cell"] (spP K zdy):=by
 have GMix:FnOk P w K mg base CX0 2 fM fdM ["_law_cell","_law_j"] (spP K fMix):=(zif Mix.fn).mono (by decide);have GOdd:FnOk P w K mg base CX0 2 fO fdO ["_law_cell"] (spP K fOdd):=zqc Odd.fn Mix B;refine zaP F zgp (λds Q q138q=>by obtain⟨c,d,e,_⟩:=q138q;rw[e];rfl) (λcdv A outer s H E hr=>?_);have hu:(A.deeper (envOfC "_law_spoiled" (zac zbj) s.heap.objs.size f cdv)).units+16<cLine:=by have q:=hr.units;lia
 have nd:=zgp.nd;refine⟨_,(zae (zak (i:=2) nd rfl (Or.inl rfl) zaj)
   (zae (zak (i:=3) nd rfl (Or.inl rfl) (zaH (zan GMix zaS hr rfl Mix.mg Mix.fn.kp Mix.bd (zaa (zab 1) (zaa zaf zad))) zaf))
   (zae (zak (i:=4) nd rfl (Or.inl rfl) (zaH (zan GMix zaS hr rfl Mix.mg Mix.fn.kp Mix.bd (zaa (zab 1) (zaa zaf zad))) (zbs (zbu rfl B.len (zaa (zab 0) zad)) zaf)))
   (zae (zak (i:=5) nd rfl (Or.inl rfl) (zbw (zab 2) (zaH (zan GMix zaS hr rfl Mix.mg Mix.fn.kp Mix.bd (zaa (zab 1) (zaa zaf zad))) (zbu rfl B.len (zaa (zab 2) zad)))))
   (zae (zaF (zbB hu (zab 3) zaf) (zag (zah (zdZ (zdZ (zaQ (zab 0) zaY (zaZ (zab 4))) (zab 5)) (zaQ (zab 0) (zaZ (zab 4)) zaY)))) zam)
   (zae (zaF (zbB hu (zab 3) zaf) (zag (zah (zdZ (zaQ (zab 0) zaY (zaZ (zab 4))) (zaQ (zab 0) (zaZ (zbs (zab 4) zaf)) zaY)))) zam)
   (zae (zaF (zpd (zab 3) zaf) (zag (zah (zdZ (zdZ (zaQ (zab 0) zaY (zaZ (zab 4))) (zab 5)) (zaQ (zab 0) (zaZ (zbs (zab 4) zaf)) zaY)))) zam)
   (zae (zaF (zbB hu (zab 3) zaf) (zag (zah (zan GOdd zmd hr rfl Odd.mg Odd.fn.kp Odd.bd (zaa (zab 1) zad)))) zam)
   (zag (zah (zab 0))))))))))),λds Q h=>?_⟩
 obtain⟨x,c,rfl,hx,q⟩:=h;have hsz:=sizeLine_eq;have m1:=zbD c 31;have m2:=zbD c 32;have m3:=zbD c 33;walk_at "pu";walk_at "auto";have tx:∀y:Str,y.length<=60000->Q (.str y) .frz:=λy h=>q _ (.inl ⟨y,rfl,h⟩);obtain⟨ch,hch⟩:∃ch,atI sgS.cps.toList (mix c 33 % (sgS.length:Int))=some ch:=by
  have e1:sgS.length=21:=by decide +kernel
  have hn:(mix c 33 % (sgS.length:Int)).toNat<sgS.cps.toList.length:=by rw[show sgS.cps.toList.length=21 by decide +kernel,e1];lia
  have e2:mix c 33 % (sgS.length:Int)=((mix c 33 % (sgS.length:Int)).toNat:Int):=by rw[e1];lia
  exact⟨_,(congrArg (atI sgS.cps.toList) e2).trans (zbo (List.getElem?_eq_getElem hn))⟩
 refine⟨_,⟨ch,hch,rfl⟩,?_⟩;have c1:(⟨#[ch]⟩:Str).length=1:=rfl;generalize (⟨#[ch]⟩:Str)=sg at c1 ⊢;generalize mix c 31 % 8=way;generalize mix c 32 % (↑x.length+1)=at';have s1:=Txt.slice_le x none (some at');have s2:=Txt.slice_le x (some at') none;have s3:=Txt.slice_le x (some (at'+1)) none;walk_at "go";refine ite2 (λe=>?_) (λe=>?_)
 ·walk_at "go";refine⟨by lia,by lia,by lia,by rw[Str.length_append];lia,tx _ ?_⟩;rw[Str.length_append,Str.length_append];lia
 walk_at "go";walk_at "go";refine ite2 (λe=>?_) (λe=>?_)
 ·walk_at "go";refine⟨by lia,by lia,by lia,tx _ ?_⟩;rw[Str.length_append];lia
 walk_at "go";walk_at "go";refine ite2 (λe=>?_) (λe=>?_)
 ·walk_at "go";refine⟨by lia,by lia,by lia,by rw[Str.length_append];lia,tx _ ?_⟩;rw[Str.length_append,Str.length_append];lia
 walk_at "go";walk_at "go";refine ite2 (λe=>?_) (λe=>?_)
 ·walk_at "go";exact q
 ·walk_at "go";walk_at "go";exact tx x (by lia)
end
structure Gs (K:PySem.W.Frag)(mg:Str->Option Value)(NX:Addr)(bm:List Value):Prop where
 nx:mg "NoText" = some (.ref NX)
 ex:ExcC K NX bm
 fig:∃t,mg "FIGURES" = some (.str FIG t)
noncomputable def zme (x y:Str):Bool:=(signs x).all λs=>inS s y
noncomputable def zkX:PF:=λds Q=>∃x y:Str,ds=[.str x,.str y]/\x.length<=100000/\Q (.bl (zme x y)) .frz
theorem zkY:zbJ zkX:=λds Q Q' m q139q=>by obtain⟨a,b,e,h1,q⟩:=q139q;exact⟨a,b,e,h1,m _ _ q⟩
noncomputable def zcL (NX:Addr):PFX:=λds Q Z=>∃d mk,ds=[d,.str mk]/\mk.length≠0/\((∃x:Str,d=.str x/\x.length<=100000/\Q (.lst ((Txt.split x mk).map PV.str)) .new)\/((d=.non\/d=.int 7\/∃ds,d=.lst ds)/\Z NX))
theorem zgq (NX:Addr):zgW (zcL NX):=λds Q Q' Z Z' m z q140q=>by obtain⟨d,mk,e,h1,h⟩:=q140q;exact⟨d,mk,e,h1,h.imp (λ q141q=>by obtain⟨x,e,h2,q⟩:=q141q;exact⟨x,e,h2,m _ _ q⟩) λ q142q=>by obtain⟨h,q⟩:=q142q;exact⟨h,z _ q⟩⟩
noncomputable def zce (NX:Addr):PFX:=λds Q Z=>∃x:Str,ds=[.str x]/\x.length<=100000/\(zck x->Q (.int (numV x)) .frz)/\(¬ zck x->Z NX)
theorem zfq (NX:Addr):zgW (zce NX):=λds Q Q' Z Z' m z q143q=>by obtain⟨x,e,h1,h2,h3⟩:=q143q;exact⟨x,e,h1,λh=>m _ _ (h2 h),λh=>z _ (h3 h)⟩
noncomputable def zcM (NX:Addr):PFX:=λds Q Z=>∃x:Str,ds=[.str x]/\x.length<=100000/\(zgl x->Q (rowP (rowV x)) .frz)/\(¬ zgl x->Z NX)
theorem zgr (NX:Addr):zgW (zcM NX):=λds Q Q' Z Z' m z q144q=>by obtain⟨x,e,h1,h2,h3⟩:=q144q;exact⟨x,e,h1,λh=>m _ _ (h2 h),λh=>z _ (h3 h)⟩
theorem zgs {x y:Str}:zme x y=true↔∀s∈signs x,inS s y=true:=List.all_eq_true
theorem zkZ (x:Str):(signs x).length=x.length:=by unfold signs;rw[List.length_map,Array.length_toList];rfl
theorem zde {K:PySem.W.Frag}:PySem.W.kitOne K (.type "NoneType") (.type "str")=some false:=zcD (by decide +kernel) (by decide +kernel) (by decide +kernel)
theorem zdf {K:PySem.W.Frag}:PySem.W.kitOne K (.type "list") (.type "str")=some false:=zcD (by decide +kernel) (by decide +kernel) (by decide +kernel)
section
variable {P:Program}{w:World}{K:PySem.W.Frag}{mg:Str->Option Value}{base:Heap}
theorem zmQ:zaq ["text","signs"] ["text","signs"] (zac zdj):=⟨rfl,rfl,rfl,by decide +kernel,rfl,by decide +kernel,by decide +kernel⟩
theorem zoe {f:Addr}{fd:FuncData}(F:Fun K "only" "only" zdj f fd) (B:Bl mg):FnOk P w K mg base CX0 1 f fd ["text","signs"] (spP K zkX):=by
 refine zaP F zmQ (λds Q q145q=>by obtain⟨c,d,e,_⟩:=q145q;rw[e];rfl) (λcdv A outer s H E hr=>?_);have hu:(A.deeper (envOfC "only" (zac zdj) s.heap.objs.size f cdv)).units+16<cLine:=by have q:=hr.units;lia
 have nd:=zmQ.nd;refine⟨_,(zag (zah (zpr rfl rfl B.all (zaa (zbL (N:=["sign","signs"]) (k:=1) (js:=[1]) rfl (zdE (sup:=zac zdj) (XN:=["text","signs"]) rfl rfl (by decide +kernel)) (by decide) (zaO (by decide)) (zkA (zab 0)) ⟨λ_ _ _ _ _=>(zau (i:=0) (by show(["sign","signs"]:List Str).Nodup;decide +kernel) rfl (Or.inl rfl)),λ_ _ _ _ _=>zbh,λ_ _ _ _ _=>(zpO (zab 0) (zab 1))⟩) zad)))),λds Q h=>?_⟩;obtain⟨x,y,rfl,hx,q⟩:=h;have hsz:=sizeLine_eq;have hsl:=zkZ x;walk_at "pu";refine⟨by rw[List.length_map];lia,λi out=>out=(((signs x).take i).map λs=>inS s y).map PV.bl,rfl,?_,?_⟩
 ·rintro i d out hd-rfl;rw[List.getElem?_map]at hd;cases hs:(signs x)[i]? with
  | none=>rw[hs]at hd;cases hd
  | some s=>
   rw[hs]at hd;cases hd;refine⟨_,rfl,?_⟩;show _=_;rw[<- take_snoc hs,List.map_append,List.map_append];rfl
 ·rintro out-rfl;rw[List.length_map,List.take_of_length_le (Nat.le_refl _)];refine⟨_,rfl,?_⟩;unfold zme at q;rw[List.all_map];exact q
theorem zgt:zaq ["text","mark"] ["text","mark"] (zac zbi):=⟨rfl,rfl,rfl,by decide +kernel,rfl,by decide +kernel,by decide +kernel⟩
theorem ziN {f NX:Addr}{fd:FuncData}{bm:List Value}(F:Fun K "parts_of" "parts_of" zbi f fd) (B:Bl mg) (G:Gs K mg NX bm):FnOk P w K mg base (CXJ P w) 1 f fd ["text","mark"] (spPX K (zcL NX)):=by
 refine zdv F zgt (λds Q Z q146q=>by obtain⟨a,b,e,_⟩:=q146q;rw[e];rfl) (λcdv A outer s H E hr=>?_);have hu:(A.deeper (envOfC "parts_of" (zac zbi) s.heap.objs.size f cdv)).units+16<cLine:=by have q:=hr.units;lia
 have nd:=zgt.nd;refine⟨_,(zaR (ziE (zbp (zaX (zdM (K:=K) rfl rfl B.isi (zaa (zab 0) (zaa (zgH rfl B.str bStr) zad))))) (zbx (zcj zaj rfl G.nx G.ex rfl)) zcV) (zbx (ziD (zah (zdw (zab 0) (zab 1)))))),λds Q Z h=>?_⟩;obtain⟨d,mk,rfl,hm,h⟩:=h;have hsz:=sizeLine_eq;rcases h with ⟨x,rfl,hx,q⟩ | ⟨rfl | rfl | ⟨ds,rfl⟩,q⟩
 ·have h1:=split_le x mk;walk_at "pu";refine⟨true,zch,?_⟩;rw[if_neg (by decide)];walk_at "auto";exact q
 ·walk_at "pu";refine⟨false,zde,?_⟩;rw[if_pos (by decide)];walk_at "go";exact q
 ·walk_at "pu";refine⟨false,zdN,?_⟩;rw[if_pos (by decide)];walk_at "go";exact q
 ·walk_at "pu";refine⟨false,zdf,?_⟩;rw[if_pos (by decide)];walk_at "go";exact q
theorem zeL:zaq ["text","figures"] ["text"] (zac zaJ):=⟨rfl,rfl,rfl,by decide +kernel,rfl,by decide +kernel,by decide +kernel⟩
theorem zhh {f NX fO:Addr}{fd fdO:FuncData}{bm:List Value}(F:Fun K "read_cell" "read_cell" zaJ f fd) (Only:Fx K mg "only" zdj ["text","signs"] fO fdO) (B:Bl mg) (G:Gs K mg NX bm):FnOk P w K mg base (CXJ P w) 2 f fd ["text"] (spPX K (zce NX)):=by
 have GOnly:FnOk P w K mg base CX0 1 fO fdO ["text","signs"] (spP K zkX):=zoe Only.fn B;obtain⟨ts,gs⟩:=G.fig;refine zdv F zeL (λds Q Z q147q=>by obtain⟨a,e,_⟩:=q147q;rw[e];rfl) (λcdv A outer s H E hr=>?_);have hu:(A.deeper (envOfC "read_cell" (zac zaJ) s.heap.objs.size f cdv)).units+16<cLine:=by have q:=hr.units;lia
 have nd:=zeL.nd;refine⟨_,(zaR (ziD (zak (i:=1) nd rfl (Or.inl rfl) (zlw (zaX (zcJ (zab 0) zaj)) (zaQ (zab 0) (zaZ zaf) zaY) (zab 0))))
  (zaR (ziE (PuW.t (zbP (zbp (zlG zaf (zbu rfl B.len (zaa (zab 1) zad)) zaf)) (zcs (zbp (zaX (zan GOnly zkY hr rfl Only.mg Only.fn.kp Only.bd (zaa (zab 1) (zaa (znO rfl gs) zad)))))))) (zbx (zcj zaj rfl G.nx G.ex rfl)) zcV)
  (zaR (ziE (PuW.t (zcQ (zaX (zcJ (zab 1) zaj)) (zcg (zcp hu (zab 0) zaj)))) (zbx (zcj zaj rfl G.nx G.ex rfl)) zcV)
  (zbx (ziD (zah (zkG rfl B.int (zaa (zab 0) zad)))))))),λds Q Z h=>?_⟩
 obtain⟨x,rfl,hx,h1,h2⟩:=h;have hsz:=sizeLine_eq;have hfl:=zic x;have no:zck x↔((1<=(figs x).length/\(figs x).length<=60/\zme (figs x) FIG=true)/\¬ (Txt.startswith (figs x) "0" = true/\x≠"0")):=
  ⟨λh=>⟨⟨h.pos,h.le,zgs.mpr h.dig⟩,h.no0⟩,λh=>⟨h.1.1,h.1.2.1,zgs.mp h.1.2.2,h.2⟩⟩
 walk_at "pu";generalize hK:Hold (pSeq (pIf _ _ _) _) _=KK;have fin:∀fg,fg=figs x->KK [some (PV.str x,false),some (PV.str fg,false)]:=by
  subst hK;rintro fg rfl;walk_at "go";refine⟨by lia,ite2 (λe1=>ite2 (λe2=>?_) (λe2=>⟨by lia,ite2 (λe3=>?_) (λe3=>?_)⟩)) (λe1=>?_)⟩
  ·walk_at "go";exact h2 λz=>e2 (by have:=z.le;lia)
  ·walk_at "go";exact h2 λz=>by rw[(no.mp z).1.2.2]at e3;cases e3
  ·walk_at "go";walk_at "go";refine ite2 (λe4=>ite2 (λe5=>?_) (λe5=>?_)) (λe4=>?_)
   ·walk_at "go";exact h2 λz=>(no.mp z).2 ⟨e4,e5⟩
   all_goals
    have hn:zck x:=no.mpr ⟨⟨by lia,by lia,(Bool.not_eq_false _).mp e3⟩,λz=>by first | exact e5 z.2 | exact e4 z.1⟩
    obtain⟨m,_,_,g1,_,g2⟩:=zeb hn;walk_at "go";walk_at "go";exact⟨_,g1,by lia,h1 hn⟩
  ·walk_at "go";exact h2 λz=>e1 (by have:=z.pos;lia)
 refine ite2 (λe=>⟨by lia,fin _ ?_⟩) (λe=>fin _ ?_)
 ·unfold figs neg;rw[if_pos e]
 ·unfold figs neg;rw[if_neg e]
theorem zgu:zaq ["text","cells"] ["text"] (zac zbb):=⟨rfl,rfl,rfl,by decide +kernel,rfl,by decide +kernel,by decide +kernel⟩
theorem zmR:(" " : Str).length≠0:=by decide +kernel
theorem ziO {f NX fO fC:Addr}{fd fdO fdC:FuncData}{bm:List Value}(F:Fun K "read_row" "read_row" zbb f fd) (Only:Fx K mg "only" zdj ["text","signs"] fO fdO) (ReadCell:Fx K mg "read_cell" zaJ ["text"] fC fdC) (B:Bl mg) (G:Gs K mg NX bm):FnOk P w K mg base (CXJ P w) 3 f fd ["text"] (spPX K (zcM NX)):=by
 have GC:FnOk P w K mg base (CXJ P w) 2 fC fdC ["text"] (spPX K (zce NX)):=zhh ReadCell.fn Only B G;refine zdv F zgu (λds Q Z q148q=>by obtain⟨a,e,_⟩:=q148q;rw[e];rfl) (λcdv A outer s H E hr=>?_);have hu:(A.deeper (envOfC "read_row" (zac zbb) s.heap.objs.size f cdv)).units+16<cLine:=by have q:=hr.units;lia
 have nd:=zgu.nd;refine⟨_,(zaR (zkB (i:=1) nd rfl (Or.inl rfl) (zlT rfl B.tuple (zgi (N:=["word"]) (k:=1) (js:=[]) rfl rfl rfl rfl (λpins σ e s' h=>.inl ⟨pins,σ,FlyI.zaT h⟩) (zdE (sup:=zac zbb) (XN:=["text","cells"]) rfl rfl (by decide +kernel)) (by decide) (zaO (by decide)) (zmN (zbt (zdw (zab 0) zaj))) ⟨λ_ _ _ _ _=>(zau (i:=0) (by show(["word"]:List Str).Nodup;decide +kernel) rfl (Or.inl rfl)),λ_ _ _ _ _=>(zgX GC (zfq NX) hr rfl ReadCell.mg ReadCell.fn.kp ReadCell.bd zpH (zaa (zab 0) zad))⟩)))
  (zaR (ziE (zfV (zbu rfl B.len (zaa (zab 1) zad)) zaf) (zbx (zcj zaj rfl G.nx G.ex rfl)) zcV)
  (zbx (ziD (zah (zab 1)))))),λds Q Z h=>?_⟩
 obtain⟨x,rfl,hx,h1,h2⟩:=h;have hsz:=sizeLine_eq;have hwl:=zgk x;walk_at "pu";rw[show Txt.split x " " = words x from rfl];refine⟨zmR,by lia,by lia,by rw[List.length_map];lia,λi out=>out=((words x).take i).map (λw=>PV.int (numV w))/\∀w∈(words x).take i,zck w,⟨rfl,by simp⟩,?_,?_⟩
 ·rintro i d out hd - ⟨rfl,hok⟩;rw[List.getElem?_map]at hd;cases hs:(words x)[i]? with
  | none=>rw[hs]at hd;cases hd
  | some w=>
   rw[hs]at hd;cases hd;have hm:=List.mem_of_getElem? hs;have hsh:=word_short hm;refine⟨w,rfl,by lia,λhl=>⟨?_,λy hy=>?_⟩,λhl=>h2 λz=>hl (z.num w hm)⟩
   ·rw[<- take_snoc hs,List.map_append];rfl
   ·rw[<- take_snoc hs]at hy;rcases List.mem_append.mp hy with hy | hy
    ·exact hok y hy
    ·rw[List.mem_singleton.mp hy];exact hl
 ·rintro out - ⟨rfl,hok⟩;rw[List.length_map,List.take_of_length_le (Nat.le_refl _)]at hok;rw[List.length_map,List.take_of_length_le (Nat.le_refl _)];walk_at "go";rw[List.length_map];refine ite2 (λe1=>?_) (λe1=>?_)
  ·walk_at "go";exact h2 λz=>by have:=z.le6;lia
  ·walk_at "go";walk_at "go";have:=h1 ⟨hok,by lia⟩;unfold rowP rowV at this;rw[List.map_map]at this;exact this
end
noncomputable def zbq (NX:Addr):PFX:=λds Q Z=>∃d,ds=[d]/\((∃x:Str,d=.str x/\x.length<=70000/\(x = ""->Q (tblP []) .new)/\(x≠""->zdd x->Q (tblP (setI (zcd x))) .new)/\(x≠""->¬ zdd x->Z NX))\/((d=.non\/d=.int 7\/∃ds,d=.lst ds)/\Z NX))
theorem zfr (NX:Addr):zgW (zbq NX):=λds Q Q' Z Z' m z q149q=>by obtain⟨d,e,h⟩:=q149q;exact⟨d,e,h.imp (λ q150q=>by obtain⟨x,e,h1,h0,h2,h3⟩:=q150q;exact⟨x,e,h1,λh=>m _ _ (h0 h),λg h=>m _ _ (h2 g h),λg h=>z _ (h3 g h)⟩) λ q151q=>by obtain⟨h,q⟩:=q151q;exact⟨h,z _ q⟩⟩
section
variable {P:Program}{w:World}{K:PySem.W.Frag}{mg:Str->Option Value}{base:Heap}
theorem zeM:zaq ["text","parts","rows"] ["text"] (zac zay):=⟨rfl,rfl,rfl,by decide +kernel,rfl,by decide +kernel,by decide +kernel⟩
theorem zqd:("; " : Str).length≠0:=by decide +kernel
theorem zhi {f NX fO fC fR fA:Addr}{fd fdO fdC fdR fdA:FuncData}{bm:List Value}(F:Fun K "read_rows" "read_rows" zay f fd) (Only:Fx K mg "only" zdj ["text","signs"] fO fdO) (ReadCell:Fx K mg "read_cell" zaJ ["text"] fC fdC) (ReadRow:Fx K mg "read_row" zbb ["text"] fR fdR) (PartsOf:Fx K mg "parts_of" zbi ["text","mark"] fA fdA) (B:Bl mg) (G:Gs K mg NX bm):FnOk P w K mg base (CXJ P w) 4 f fd ["text"] (spPX K (zbq NX)):=by
 have GP:FnOk P w K mg base (CXJ P w) 3 fR fdR ["text"] (spPX K (zcM NX)):=ziO ReadRow.fn Only ReadCell B G;have GA:FnOk P w K mg base (CXJ P w) 3 fA fdA ["text","mark"] (spPX K (zcL NX)):=(ziN PartsOf.fn B G).mono (by decide);refine zdv F zeM (λds Q Z q152q=>by obtain⟨a,e,_⟩:=q152q;rw[e];rfl) (λcdv A outer s H E hr=>?_);have hu:(A.deeper (envOfC "read_rows" (zac zay) s.heap.objs.size f cdv)).units+16<cLine:=by have q:=hr.units;lia
 have nd:=zeM.nd;refine⟨_,(zaR (zkB (i:=1) nd rfl (Or.inl rfl) (zgX GA (zgq NX) hr rfl PartsOf.mg PartsOf.fn.kp PartsOf.bd (FlyM.pass rfl) (zaa (zab 0) (zaa zaj zad))))
  (zaR (ziD (zaF (zbB hu (zab 0) zaj) (zag (zah (zbQ zad))) zam))
  (zaR (zkB (i:=2) nd rfl (Or.inr rfl) (zgi (N:=["part"]) (k:=1) (js:=[]) rfl rfl rfl rfl (λpins σ e s' h=>.inl ⟨pins,σ,FlyI.zaT h⟩) (zdE (sup:=zac zay) (XN:=["text","parts","rows"]) rfl rfl (by decide +kernel)) (by decide) (zaO (by decide)) (zmN (zbt (zab 1))) ⟨λ_ _ _ _ _=>(zau (i:=0) (by show(["part"]:List Str).Nodup;decide +kernel) rfl (Or.inl rfl)),λ_ _ _ _ _=>(zgX GP (zgr NX) hr rfl ReadRow.mg ReadRow.fn.kp ReadRow.bd zpH (zaa (zab 0) zad))⟩))
  (zaR (ziE (zfV (zbu rfl B.len (zaa (zab 2) zad)) zaf) (zbx (zcj zaj rfl G.nx G.ex rfl)) zcV)
  (zaR (ziE (zaX (zpU rfl rfl B.any (zaa (zbL (N:=["row","rows"]) (k:=1) (js:=[2]) rfl (zdE (sup:=zac zay) (XN:=["text","parts","rows"]) rfl rfl (by decide +kernel)) (by decide) (zaO (by decide)) (zbt (zab 2)) ⟨λ_ _ _ _ _=>(zau (i:=0) (by show(["row","rows"]:List Str).Nodup;decide +kernel) rfl (Or.inl rfl)),λ_ _ _ _ _=>zbh,λ_ _ _ _ _=>(zpc hu (zbu rfl B.len (zaa (zab 0) zad)) (zbu rfl B.len (zaa (zbw (zab 1) zaf) zad)))⟩) zad))) (zbx (zcj zaj rfl G.nx G.ex rfl)) zcV)
  (zbx (ziD (zah (zgS hu rfl rfl B.sorted rfl B.set (zab 2)))))))))),λds Q Z h=>?_⟩
 obtain⟨d,rfl,h⟩:=h;have hsz:=sizeLine_eq;walk_at "pu";refine⟨zqd,?_⟩;rcases h with ⟨x,rfl,hx,h0,h1,h2⟩ | ⟨hd,q⟩
 ·have hpl:=zeG x;have hpp:=zeH x;refine .inl ⟨x,rfl,by lia,?_⟩;rw[show Txt.split x "; " = pieces x from rfl];walk_at "go";refine ite2 (λe0=>?_) (λe0=>?_)
  ·walk_at "go";exact⟨by lia,h0 e0⟩
  replace h1:=h1 e0;replace h2:=h2 e0;walk_at "go";walk_at "go";refine⟨by rw[List.length_map];lia,λi out=>out=(((pieces x).take i).map rowV).map rowP/\∀p∈(pieces x).take i,zgl p,⟨rfl,by simp⟩,?_,?_⟩
  ·rintro i d out hd - ⟨rfl,hok⟩;rw[List.getElem?_map]at hd;cases hs:(pieces x)[i]? with
   | none=>rw[hs]at hd;cases hd
   | some p=>
    rw[hs]at hd;cases hd;have hm:=List.mem_of_getElem? hs;have hsh:=zec hm;refine⟨p,rfl,by lia,λhp=>⟨?_,λy hy=>?_⟩,λhp=>h2 λz=>hp (z.row p hm)⟩
    ·rw[<- take_snoc hs,List.map_append,List.map_append];rfl
    ·rw[<- take_snoc hs]at hy;rcases List.mem_append.mp hy with hy | hy
     ·exact hok y hy
     ·rw[List.mem_singleton.mp hy];exact hp
  ·rintro out - ⟨rfl,hok⟩;rw[List.length_map,List.take_of_length_le (Nat.le_refl _)]at hok;rw[List.length_map,List.take_of_length_le (Nat.le_refl _),show(pieces x).map rowV=zcd x from rfl];have hrl:(zcd x).length=(pieces x).length:=by unfold zcd;rw[List.length_map]
   obtain⟨p0,ps,hps⟩:∃p0 ps,pieces x=p0::ps:=by
    cases h:pieces x with
    | nil=>rw[h]at hpp;exact absurd hpp (by decide)
    | cons a l=>exact⟨a,l,rfl⟩
   have h00:(zcd x)[0]? = some (rowV p0):=by unfold zcd;rw[hps];rfl
   have hm0:p0∈pieces x:=by rw[hps];exact List.mem_cons_self ..
   walk_at "go";rw[List.length_map,hrl];refine ite2 (λe1=>?_) (λe1=>?_)
   ·walk_at "go";exact h2 λz=>by have:=z.few;lia
   walk_at "go";walk_at "go";rw[List.length_map,hrl];refine⟨by lia,λi out=>out=(((zcd x).take i).map λr=>!decide (r.length=(rowV p0).length)).map PV.bl,rfl,?_,?_⟩
   ·rintro i d out hd-rfl;rw[List.getElem?_map]at hd;cases hs:(zcd x)[i]? with
    | none=>rw[hs]at hd;cases hd
    | some r=>
     rw[hs]at hd;cases hd;refine⟨(r.map PV.int).length,rfl,_,zbo (j:=0) (by rw[List.getElem?_map,h00];rfl),((rowV p0).map PV.int).length,rfl,?_⟩;show _=_;rw[<- take_snoc hs,List.map_append,List.map_append,List.length_map,List.length_map];simp only[List.map_cons,List.map_nil,Int.ofNat_inj]
   ·rintro out-rfl;rw[List.take_of_length_le (by lia)];refine⟨_,rfl,ite2 (λe2=>?_) (λe2=>?_)⟩
    ·walk_at "go";refine h2 λz=>?_;obtain⟨b,hb,e3⟩:=List.any_eq_true.mp e2;obtain⟨r,hr,rfl⟩:=List.mem_map.mp hb;obtain⟨p,hp,rfl⟩:=List.mem_map.mp hr;rw[zbM,zbM,z.wide p hp p0 hm0]at e3;simp at e3
    ·have hw:∀p∈pieces x,(words p).length=(words p0).length:=λp hp=>by
      refine Classical.byContradiction λn=>e2 (List.any_eq_true.mpr ⟨true,List.mem_map.mpr ⟨rowV p,List.mem_map.mpr ⟨p,hp,rfl⟩,?_⟩,rfl⟩);rw[zbM,zbM,decide_eq_false n];rfl
     walk_at "go";walk_at "go";refine⟨zcd x,rfl,zkQ,by lia,λzs n1 n2 n3=>?_⟩;rw[zgj n1 n2 n3];exact h1 ⟨hok,by lia,λp hp q hq=>(hw p hp).trans (hw q hq).symm⟩
 ·exact .inr ⟨hd,q⟩
end
noncomputable def numD (w:Str):PV:=@ite _ (zck w) (Classical.propDecidable _) (.int (numV w)) .non
theorem zfs {w:Str}(h:zck w):numD w=.int (numV w):=@if_pos _ (Classical.propDecidable _) h _ _ _
theorem zhj {w:Str}(h:¬ zck w):numD w=.non:=@if_neg _ (Classical.propDecidable _) h _ _ _
noncomputable def zdz:PF:=λds Q=>∃w:Str,ds=[.str w]/\w.length<=100000/\Q (numD w) .frz
theorem zgv:zbJ zdz:=λds Q Q' m q153q=>by obtain⟨x,e,h,q⟩:=q153q;exact⟨x,e,h,m _ _ q⟩
noncomputable def zhk:PF:=λds Q=>∃d,ds=[d]/\((∃x:Str,d=.str x/\x.length<=70000/\(x = ""->Q (tblP []) .new)/\(x≠""->zdd x->Q (tblP (setI (zcd x))) .new)/\(x≠""->¬ zdd x->Q .non .frz))\/((d=.non\/d=.int 7\/∃ds,d=.lst ds)/\Q .non .frz))
theorem zef:zbJ zhk:=λds Q Q' m q154q=>by obtain⟨d,e,h⟩:=q154q;exact⟨d,e,h.imp (λ q155q=>by obtain⟨x,e,h1,h0,h2,h3⟩:=q155q;exact⟨x,e,h1,λh=>m _ _ (h0 h),λg h=>m _ _ (h2 g h),λg h=>m _ _ (h3 g h)⟩) λ q156q=>by obtain⟨h,q⟩:=q156q;exact⟨h,m _ _ q⟩⟩
section
variable {P:Program}{w:World}{K:PySem.W.Frag}{mg:Str->Option Value}{base:Heap}
theorem zgw:zaq ["_law_word","_law_figures","_law_sign"] ["_law_word"] (zac zaL):=⟨rfl,rfl,rfl,by decide +kernel,rfl,by decide +kernel,by decide +kernel⟩
theorem ziP {f:Addr}{fd:FuncData}(F:Fun K "_law_number_told" "_law_number_told" zaL f fd) (B:Bl mg):FnOk P w K mg base CX0 1 f fd ["_law_word"] (spP K zdz):=by
 refine zaP F zgw (λds Q q157q=>by obtain⟨c,e,_⟩:=q157q;rw[e];rfl) (λcdv A outer s H E hr=>?_);have hu:(A.deeper (envOfC "_law_number_told" (zac zaL) s.heap.objs.size f cdv)).units+16<cLine:=by have q:=hr.units;lia
 have nd:=zgw.nd;refine⟨_,(zae (zak (i:=1) nd rfl (Or.inl rfl) (zaQ (zab 0) (zaZ (zjV rfl B.int (zaa (zqA hu (zaQ (zab 0) zaY (zaZ zaf)) zaj) zad))) zaY))
   (zae (zaF (PuW.t (zbP (zbB hu (zab 1) zaj) (zbP (zfV (zbu rfl B.len (zaa (zab 1) zad)) zaf) (zcs (PuW.t (zcQ (zbB hu (zbw (zab 1) zaf) zaj) (zcg (zcp hu (zab 0) zaj)))))))) (zag (zah zbO)) zam)
   (zae (zdK rfl PassesOwn.never (zkA (zab 1)) (zau (i:=2) nd rfl (Or.inl rfl)) (zag (zaF (zlU (zab 2) zaj) (zag (zah zbO)) zam)))
   (zag (zah (zcl (zkG rfl B.int (zaa (zab 1) zad)) (zdH zaf (zcl zaf (zjV rfl B.int (zaa (zpc hu (zab 1) (zab 0)) zad)))))))))),λds Q h=>?_⟩
 obtain⟨x,rfl,hx,q⟩:=h;have hsz:=sizeLine_eq;have hfl:=zic x;have hno:¬ zck x->Q .non .frz:=λh=>by rw[zhj h]at q;exact q
 have hfg:∀ [inst:Decidable (Txt.slice x none (some 1) = "-")],Txt.slice x (some (@ite Int (Txt.slice x none (some 1) = "-") inst 1 0)) none=figs x:=λ{inst}=>by
  have h1:=zkP x;have h2:=zma x;by_cases h:Txt.slice x none (some 1) = "-"
  ·rw[if_pos (h1.mp h)]at h2;rw[if_pos h];exact h2
  ·rw[if_neg (λz=>h (h1.mpr z))]at h2;rw[if_neg h];exact h2
 walk_at "pu";rw[hfg];refine⟨by lia,by lia,?_⟩;walk_at "go";have e0:("" : Str).length=0:=rfl;have z0:figs x = ""↔(figs x).length=0:=⟨λh=>by rw[h];rfl,λh=>zia (by have:=len_list (figs x);rw[h]at this;rw[List.length_eq_zero_iff.mp this];rfl)⟩;refine ite2 (λe1=>?_) (λe1=>⟨by lia,ite2 (λe2=>?_) (λe2=>?_)⟩)
 ·walk_at "go";exact hno λz=>by have:=z0.mp e1;have:=z.pos;lia
 ·walk_at "go";exact hno λz=>by have:=z.le;lia
 have hpos:1<=(figs x).length:=by
  have:(figs x).length≠0:=λh=>e1 (z0.mpr h);lia
 obtain⟨c,cs,hc⟩:∃c cs,(figs x).cps.toList=c::cs:=by
  have:=len_list (figs x);cases h:(figs x).cps.toList with
  | nil=>rw[h]at this;simp at this;lia
  | cons a l=>exact⟨a,l,rfl⟩
 have h48:(PV.str ⟨#[c]⟩=PV.str "0")↔Txt.startswith (figs x) "0" = true:=by
  rw[zkO,zeF,hc];constructor
  ·intro h;cases h;rfl
  ·intro h;cases h;rfl
 refine⟨by lia,_,⟨c,zbo (j:=0) (by rw[hc];rfl),rfl⟩,rfl,?_⟩;generalize hK:Hold (pSeq (pFor _ _ _) _) _=KK;have fin:¬ (Txt.startswith (figs x) "0" = true/\x≠"0")->KK [some (PV.str x,false),some (PV.str (figs x),false),none]:=by
  subst hK;intro hn0;walk_at "go";obtain⟨Iv,hIv⟩:∃Iv:Nat->PEnv->Prop,∀i ρ,Iv i ρ↔(∀s∈(signs (figs x)).take i,inS s FIG=true)/\∃k1,ρ=[some (PV.str x,false),some (PV.str (figs x),false),k1]:=⟨_,λ_ _=>Iff.rfl⟩;refine⟨Iv,(hIv _ _).mpr ⟨by simp,none,rfl⟩,?_,?_⟩
  ·intro i d ρ hd hI;obtain⟨h0,k1,rfl⟩:=(hIv _ _).mp hI;rw[List.getElem?_map]at hd;cases hs:(signs (figs x))[i]? with
   | none=>rw[hs]at hd;cases hd
   | some s=>
    rw[hs]at hd;cases hd;walk_at "go";refine ite2 (λe3=>?_) (λe3=>?_)
    ·walk_at "go";refine hno λz=>?_;rw[z.dig s (List.mem_of_getElem? hs)]at e3;cases e3
    ·walk_at "go";refine(hIv _ _).mpr ⟨λy hy=>?_,_,rfl⟩;rw[<- take_snoc hs]at hy;rcases List.mem_append.mp hy with hy | hy
     ·exact h0 y hy
     ·rw[List.mem_singleton.mp hy];exact(Bool.not_eq_false _).mp e3
  ·intro ρ hI;obtain⟨h0,k1,rfl⟩:=(hIv _ _).mp hI;rw[List.length_map,List.take_of_length_le (Nat.le_refl _)]at h0;have hok:zck x:=⟨hpos,by lia,h0,hn0⟩;rw[zfs hok]at q;obtain⟨m,g1,g2,g3,g4,g5⟩:=zeb hok;walk_at "go";have hne:=znW x;refine⟨_,g2,by lia,?_⟩;by_cases hg:neg x=true
   ·rw[if_pos hg]at g4;rw[if_pos (hne.mpr hg)];refine⟨.inl ⟨by decide,by decide⟩,.inr ⟨by decide,by decide⟩,?_⟩;rw[show(m:Int)*(1-2*1)=numV x by rw[g4];lia];exact q
   ·rw[if_neg hg]at g4;rw[if_neg λz=>hg (hne.mp z)];refine⟨.inl ⟨by decide,by decide⟩,.inr ⟨by decide,by decide⟩,?_⟩;rw[show(m:Int)*(1-2*0)=numV x by rw[g4];lia];exact q
 refine ite2 (λe3=>ite2 (λe4=>?_) (λe4=>?_)) (λe3=>?_)
 ·walk_at "go";exact hno λz=>z.no0 ⟨h48.mp e3,e4⟩
 ·walk_at "go";exact fin λz=>e4 z.2
 ·walk_at "go";exact fin λz=>e3 (h48.mpr z.1)
theorem zmS:zaq ["_law_text_here","_law_found","_law_many","_law_piece","_law_row"] ["_law_text_here"] (zac zcX):=⟨rfl,rfl,rfl,by decide +kernel,rfl,by decide +kernel,by decide +kernel⟩
theorem zhl {f fN:Addr}{fd fdN:FuncData}(F:Fun K "_law_told" "_law_told" zcX f fd) (NumTold:Fx K mg "_law_number_told" zaL ["_law_word"] fN fdN) (B:Bl mg):FnOk P w K mg base CX0 2 f fd ["_law_text_here"] (spP K zhk):=by
 have GNumTold:FnOk P w K mg base CX0 1 fN fdN ["_law_word"] (spP K zdz):=ziP NumTold.fn B;refine zaP F zmS (λds Q q158q=>by obtain⟨c,e,_⟩:=q158q;rw[e];rfl) (λcdv A outer s H E hr=>?_);have hu:(A.deeper (envOfC "_law_told" (zac zcX) s.heap.objs.size f cdv)).units+16<cLine:=by have q:=hr.units;lia
 have nd:=zmS.nd;refine⟨_,(zae (zaF (zbp (zaX (zdM (K:=K) rfl rfl B.isi (zaa (zab 0) (zaa (zgH rfl B.str bStr) zad))))) (zag (zah zbO)) zam)
   (zae (zaF (zbB hu (zab 0) zaj) (zag (zah (zbQ zad))) zam)
   (zae (zak (i:=1) nd rfl (Or.inl rfl) (zbQ zad))
   (zae (zak (i:=2) nd rfl (Or.inl rfl) zaf)
   (zae (zdK rfl PassesOwn.never (zbt (zdw (zab 0) zaj)) (zau (i:=3) nd rfl (Or.inl rfl)) (zae (zak (i:=4) nd rfl (Or.inl rfl) (zhD rfl B.tuple (zaa (zbL (N:=["_law_word"]) (k:=1) (js:=[]) rfl (zdE (sup:=zac zcX) (XN:=["_law_text_here","_law_found","_law_many","_law_piece","_law_row"]) rfl rfl (by decide +kernel)) (by decide) (zaO (by decide)) (zbt (zdw (zab 3) zaj)) ⟨λ_ _ _ _ _=>(zau (i:=0) (by show(["_law_word"]:List Str).Nodup;decide +kernel) rfl (Or.inl rfl)),λ_ _ _ _ _=>zbh,λ_ _ _ _ _=>(zan GNumTold zgv hr rfl NumTold.mg NumTold.fn.kp NumTold.bd (zaa (zab 0) zad))⟩) zad)))
   (zae (zak (i:=2) nd rfl (Or.inl rfl) (zbs (zab 2) zaf))
   (zae (zaF (PuW.t (zbP (zpg hu zbO (zab 4)) (zbP (zfV (zbu rfl B.len (zaa (zab 4) zad)) zaf) (zcs (PuW.t (zcQ (zcp hu (zab 1) (zbQ zad)) (zcg (zcp hu (zbu rfl B.len (zaa (zab 4) zad)) (zbu rfl B.len (zaa (zbw (zab 1) zaf) zad)))))))))) (zag (zah zbO)) zam)
   (zag (zaF (zjM hu (zab 4) (zab 1)) (zag (zfU (zeu 1 (zab 4)))) zam))))))
   (zae (zaF (zfV (zab 2) zaf) (zag (zah zbO)) zam)
   (zag (zah (zlZ rfl B.sorted (zaa (zab 1) zad)))))))))),λds Q h=>?_⟩
 obtain⟨d,rfl,h⟩:=h;have hsz:=sizeLine_eq;rcases h with ⟨x,rfl,hx,h0,h1,h2⟩ | ⟨rfl | rfl | ⟨ds,rfl⟩,q⟩
 ·walk_at "pu";refine⟨true,zch,?_⟩;rw[if_neg (by decide)];walk_at "go";walk_at "go";refine ite2 (λe0=>?_) (λe0=>?_)
  ·walk_at "go";exact⟨by lia,h0 e0⟩
  replace h1:=h1 e0;replace h2:=h2 e0;have hpl:=zeG x;have hpp:=zeH x;walk_at "go";walk_at "auto";rw[show Txt.split x "; " = pieces x from rfl];obtain⟨p0,ps,hps⟩:∃p0 ps,pieces x=p0::ps:=by
   cases h:pieces x with
   | nil=>rw[h]at hpp;exact absurd hpp (by decide)
   | cons a l=>exact⟨a,l,rfl⟩
  have hm0:p0∈pieces x:=by rw[hps];exact List.mem_cons_self ..
  obtain⟨Iv,hIv⟩:∃Iv:Nat->PEnv->Prop,∀i ρ,Iv i ρ↔(∀p∈(pieces x).take i,zgl p/\(words p).length=(words p0).length)/\∃(fs:List (List Int)) (k3 k4:Option (PV×Bool)),fs.Nodup/\(∀r,r∈fs↔∃p∈(pieces x).take i,rowV p=r)/\fs.length<=i/\((i=0/\fs=[])\/fs[0]? = some (rowV p0))/\
   ρ=[some (PV.str x,false),some (PV.lst (fs.map rowP),true),some (PV.int i,false),k3,k4]:=⟨_,λ_ _=>Iff.rfl⟩
  refine⟨by lia,Iv,(hIv _ _).mpr ⟨by simp,[],none,none,List.nodup_nil,by simp,by simp,.inl ⟨rfl,rfl⟩,rfl⟩,?_,?_⟩
  ·intro i d ρ hd hI;obtain⟨hok,fs,k3,k4,fn,fm,fl,f0,rfl⟩:=(hIv _ _).mp hI;rw[List.getElem?_map]at hd;cases hs:(pieces x)[i]? with
   | none=>rw[hs]at hd;cases hd
   | some p=>
    rw[hs]at hd;cases hd;have hil:i<(pieces x).length:=(List.getElem?_eq_some_iff.mp hs).1;have hm:=List.mem_of_getElem? hs;have hsh:=zec hm;have hwl:=zgk p;walk_at "go";rw[show Txt.split p " " = words p from rfl];refine⟨zmR,by lia,by lia,by rw[List.length_map];lia,λj out=>out=((words p).take j).map numD,rfl,?_,?_⟩
    ·rintro j d out hd-rfl;rw[List.getElem?_map]at hd;cases hw:(words p)[j]? with
     | none=>rw[hw]at hd;cases hd
     | some w=>
      rw[hw]at hd;cases hd;have hws:=word_short (List.mem_of_getElem? hw);refine⟨w,rfl,by lia,?_⟩;show _=_;rw[<- take_snoc hw,List.map_append];rfl
    rintro out-rfl;rw[List.length_map,List.take_of_length_le (Nat.le_refl _)];have hpln:∀(n:Nat) (l:List Str),(l.map numD).all (PL.plain n)=true:=λn l=>by
     rw[List.all_eq_true];intro d hd;obtain⟨w,_,rfl⟩:=List.mem_map.mp hd;by_cases h:zck w
     ·rw[zfs h];cases n<;>rfl
     ·rw[zhj h];cases n<;>rfl
    walk_at "go";walk_at "go";generalize hK:Hold (pIf (tBl (t2 (pIn true) _ _)) _ _) _=K3;have hrow:(∀w∈words p,zck w)->(words p).map numD=(rowV p).map PV.int:=λh=>by
     unfold rowV;rw[List.map_map];exact List.map_congr_left λw hw=>zfs (h w hw)
    have fin3:zgl p->(words p).length=(words p0).length->K3 [some (PV.str x,false),some (PV.lst (fs.map rowP),true),some (PV.int ((i:Int)+1),false),some (PV.str p,false),some (PV.tup ((words p).map numD),false)]:=by
     subst hK;intro ok hw;rw[hrow ok.num];have hstep:∀p'∈(pieces x).take (i+1),zgl p'/\(words p').length=(words p0).length:=λy hy=>by
      rw[<- take_snoc hs]at hy;rcases List.mem_append.mp hy with hy | hy
      ·exact hok y hy
      ·rw[List.mem_singleton.mp hy];exact⟨ok,hw⟩
     have hmem:PV.tup ((rowV p).map PV.int)∈fs.map rowP↔rowV p∈fs:=by
      constructor
      ·intro h;obtain⟨r,hr,e⟩:=List.mem_map.mp h;have e2:r.map PV.int=(rowV p).map PV.int:=PV.tup.inj e;have e3:r=rowV p:=(List.map_inj_right (λa b h=>PV.int.inj h)).mp e2;rw[<- e3];exact hr
      ·exact λh=>List.mem_map.mpr ⟨_,h,rfl⟩
     have hi0:i=0->p=p0:=λh=>by rw[h,hps]at hs;exact(Option.some.inj hs).symm
     walk_at "go";refine⟨zeJ 5 _,zbl 5 fs,ite2 (λe=>?_) (λe=>?_)⟩
     ·have hnew:rowV p∉fs:=λz=>e (hmem.mpr z);walk_at "go";refine⟨by rw[List.length_map];lia,(hIv _ _).mpr ⟨hstep,fs++[rowV p],some (PV.str p,false),some (PV.tup ((rowV p).map PV.int),false),?_,λr=>?_,by rw[List.length_append];show _+1<=_;lia,?_,by rw[List.map_append];rfl⟩⟩
      ·exact List.nodup_append.mpr ⟨fn,by simp,λa ha b hb e=>hnew (by rw[<- List.mem_singleton.mp hb,<- e];exact ha)⟩
      ·rw[List.mem_append,fm,List.mem_singleton,<- take_snoc hs];constructor
       ·rintro(⟨y,h1,h2⟩ | h)
        ·exact⟨y,List.mem_append_left _ h1,h2⟩
        ·exact⟨p,List.mem_append_right _ (List.mem_singleton.mpr rfl),h.symm⟩
       ·rintro⟨y,h1,h2⟩;rcases List.mem_append.mp h1 with h1 | h1
        ·exact .inl ⟨y,h1,h2⟩
        ·rw[List.mem_singleton.mp h1]at h2;exact .inr h2.symm
      ·rcases f0 with ⟨h,rfl⟩ | h
       ·refine .inr ?_;rw[hi0 h];rfl
       ·refine .inr ?_;rw[List.getElem?_append_left (List.getElem?_eq_some_iff.mp h).1];exact h
     ·have hold:rowV p∈fs:=hmem.mp (Classical.not_not.mp e);walk_at "go";refine(hIv _ _).mpr ⟨hstep,fs,some (PV.str p,false),some (PV.tup ((rowV p).map PV.int),false),fn,λr=>?_,by lia,?_,rfl⟩
      ·rw[fm,<- take_snoc hs];constructor
       ·rintro⟨y,h1,h2⟩;exact⟨y,List.mem_append_left _ h1,h2⟩
       ·rintro⟨y,h1,h2⟩;rcases List.mem_append.mp h1 with h1 | h1
        ·exact⟨y,h1,h2⟩
        ·rw[List.mem_singleton.mp h1]at h2;exact(fm r).mp (h2▸hold)
      ·rcases f0 with ⟨h,rfl⟩ | h
       ·exact nomatch hold
       ·exact .inr h
    refine⟨hpln _ _,ite2 (λe1=>?_) (λe1=>?_)⟩
    ·walk_at "go";refine h2 λz=>?_;obtain⟨w,hw,e⟩:=List.mem_map.mp e1;rw[zfs ((z.row p hm).num w hw)]at e;cases e
    have hnum:∀w∈words p,zck w:=λw hw=>Classical.byContradiction λn=>e1 (List.mem_map.mpr ⟨w,hw,zhj n⟩);rw[List.length_map];refine ite2 (λe2=>?_) (λe2=>?_)
    ·walk_at "go";exact h2 λz=>by have:=(z.row p hm).le6;lia
    have ok:zgl p:=⟨hnum,by lia⟩;refine⟨by lia,zbl 4 fs,ite2 (λe3=>?_) (λe3=>?_)⟩
    ·have hf0:fs[0]? = some (rowV p0):=f0.resolve_left λz=>e3 (by rw[z.2];rfl);refine⟨_,zbo (j:=0) (by rw[List.getElem?_map,hf0];rfl),((rowV p0).map PV.int).length,rfl,?_⟩;rw[List.length_map,zbM];refine ite2 (λe4=>?_) (λe4=>?_)
     ·walk_at "go";exact h2 λz=>e4 (by rw[z.wide p hm p0 hm0])
     ·walk_at "go";exact fin3 ok (by lia)
    ·walk_at "go";refine fin3 ok ?_;have hfs:fs=[]:=List.map_eq_nil_iff.mp (Classical.not_not.mp e3);rcases f0 with ⟨h,_⟩ | h
     ·rw[h,hps]at hs;rw[<- Option.some.inj hs]
     ·rw[hfs]at h;cases h
  ·intro ρ hI;obtain⟨hok,fs,k3,k4,fn,fm,fl,f0,rfl⟩:=(hIv _ _).mp hI;rw[List.length_map]at fl;rw[List.length_map,List.take_of_length_le (Nat.le_refl _)]at hok fm;rw[List.length_map];walk_at "go";refine ite2 (λe1=>?_) (λe1=>?_)
   ·walk_at "go";exact h2 λz=>by have:=z.few;lia
   ·walk_at "go";walk_at "go";have hm':∀r,r∈fs↔r∈zcd x:=λr=>by
     rw[fm];unfold zcd;exact List.mem_map.symm
    refine⟨fs,rfl,λr hr=>zkQ r ((hm' r).mp hr),by lia,?_⟩;rw[zkN fn hm'];exact h1 ⟨λp hp=>(hok p hp).1,by lia,λp hp q hq=>(hok p hp).2.trans (hok q hq).2.symm⟩
 ·walk_at "pu";refine⟨false,zde,?_⟩;rw[if_pos (by decide)];walk_at "go";exact q
 ·walk_at "pu";refine⟨false,zdN,?_⟩;rw[if_pos (by decide)];walk_at "go";exact q
 ·walk_at "pu";refine⟨false,zdf,?_⟩;rw[if_pos (by decide)];walk_at "go";exact q
end
structure Ms (K:PySem.W.Frag)(mg:Str->Option Value)(NX NT NW NA NR J:Addr)(bm bmJ:List Value):Prop where
 t:mg "NoTable" = some (.ref NT)
 w:mg "NoWidth" = some (.ref NW)
 a:mg "NoAnswer" = some (.ref NA)
 r:mg "NoRow" = some (.ref NR)
 v:mg "ValueError" = none
 j:mg "JoinError" = some (.ref J)
 ej:ExcC K J bmJ
 xj:(Value.ref NX::bm).contains (.ref J)=true
 kx:ExcK K NX bm
 k0:PySem.W.kitAny K (.ref NX) [.ref NT,.ref NW,.ref NA,.ref NR]=some false
 k1:PySem.W.kitOne K (.ref NX) (.ref NX)=some true
 k2:PySem.W.kitOne K (.ref NX) (.type "ValueError")=some true
noncomputable def zih:PF:=λds Q=>∃d,ds=[d]/\TxtD d/\Q (.bl true) .frz
theorem zcY:zbJ zih:=λds Q Q' m q159q=>by obtain⟨d,e,h,q⟩:=q159q;exact⟨d,e,h,m _ _ q⟩
theorem zof:bootBuiltins "ValueError" = some (.type "ValueError"):=by decide +kernel
theorem zft:bootBuiltins "isinstance" = some (.builtin "isinstance"):=by decide +kernel
section
variable {P:Program}{w:World}{K:PySem.W.Frag}{mg:Str->Option Value}{base:Heap}
noncomputable abbrev zii:List Str:=["_law_text_here","_law_due","_law_error","_law_found","e","_law_row"]
theorem zfu:zaq zii ["_law_text_here"] (zac zbS):=⟨rfl,rfl,rfl,by decide +kernel,rfl,by decide +kernel,by decide +kernel⟩
noncomputable def valT (x:Str)(o:Option (List (List Int))):Prop:=(x = ""/\o=some [])\/(x≠""/\zdd x/\o=some (setI (zcd x)))\/(x≠""/\¬ zdd x/\o=none)
noncomputable def Told (d:PV)(o:Option (List (List Int))):Prop:=(∃x:Str,d=.str x/\x.length<=70000/\valT x o)\/((d=.non\/d=.int 7\/∃ds,d=.lst ds)/\o=none)
theorem zij {y:Str}(h:y.length<=70000):∃o,Told (.str y) o:=by
 by_cases hy:y = ""
 ·exact⟨_,.inl ⟨y,rfl,h,.inl ⟨hy,rfl⟩⟩⟩
 ·by_cases hq:zdd y
  ·exact⟨_,.inl ⟨y,rfl,h,.inr (.inl ⟨hy,hq,rfl⟩)⟩⟩
  ·exact⟨_,.inl ⟨y,rfl,h,.inr (.inr ⟨hy,hq,rfl⟩)⟩⟩
theorem zog {d:PV}(h:TxtD d):∃o,Told d o:=by
 rcases h with ⟨y,rfl,h⟩ | rfl | rfl | rfl
 ·exact zij (by lia)
 ·exact⟨_,.inr ⟨.inl rfl,rfl⟩⟩
 ·exact⟨_,.inr ⟨.inr (.inl rfl),rfl⟩⟩
 ·exact⟨_,.inr ⟨.inr (.inr ⟨_,rfl⟩),rfl⟩⟩
theorem zla {d:PV}{r:List (List Int)}{Q:PV->Kd->Prop}(h:Told d (some r))(q:Q (tblP r) .new):zhk [d] Q:=by
 rcases h with ⟨x,rfl,hx,⟨hy,e⟩ | ⟨hy,hq,e⟩ | ⟨hy,hq,e⟩⟩ | ⟨h,e⟩
 ·cases e;exact⟨_,rfl,.inl ⟨x,rfl,hx,λ_=>q,λz=>absurd hy z,λz=>absurd hy z⟩⟩
 ·cases e;exact⟨_,rfl,.inl ⟨x,rfl,hx,λz=>absurd z hy,λ_ _=>q,λ_ z=>absurd hq z⟩⟩
 ·cases e
 ·cases e
theorem zlb {d:PV}{Q:PV->Kd->Prop}(h:Told d none)(q:Q .non .frz):zhk [d] Q:=by
 rcases h with ⟨x,rfl,hx,⟨hy,e⟩ | ⟨hy,hq,e⟩ | ⟨hy,hq,e⟩⟩ | ⟨h,e⟩
 ·cases e
 ·cases e
 ·exact⟨_,rfl,.inl ⟨x,rfl,hx,λz=>absurd z hy,λ_ z=>absurd z hq,λ_ _=>q⟩⟩
 ·exact⟨_,rfl,.inr ⟨h,q⟩⟩
theorem zoh {d:PV}{r:List (List Int)}{NX:Addr}{Q:PV->Kd->Prop}{Z:Addr->Prop}(h:Told d (some r))(q:Q (tblP r) .new):zbq NX [d] Q Z:=by
 rcases h with ⟨x,rfl,hx,⟨hy,e⟩ | ⟨hy,hq,e⟩ | ⟨hy,hq,e⟩⟩ | ⟨h,e⟩
 ·cases e;exact⟨_,rfl,.inl ⟨x,rfl,hx,λ_=>q,λz=>absurd hy z,λz=>absurd hy z⟩⟩
 ·cases e;exact⟨_,rfl,.inl ⟨x,rfl,hx,λz=>absurd z hy,λ_ _=>q,λ_ z=>absurd hq z⟩⟩
 ·cases e
 ·cases e
theorem zoi {d:PV}{NX:Addr}{Q:PV->Kd->Prop}{Z:Addr->Prop}(h:Told d none)(q:Z NX):zbq NX [d] Q Z:=by
 rcases h with ⟨x,rfl,hx,⟨hy,e⟩ | ⟨hy,hq,e⟩ | ⟨hy,hq,e⟩⟩ | ⟨h,e⟩
 ·cases e
 ·cases e
 ·exact⟨_,rfl,.inl ⟨x,rfl,hx,λz=>absurd z hy,λ_ z=>absurd z hq,λ_ _=>q⟩⟩
 ·exact⟨_,rfl,.inr ⟨h,q⟩⟩
theorem zlc {d:PV}{r:List (List Int)}(h:Told d (some r)):zeI r:=by
 rcases h with ⟨x,rfl,hx,⟨hy,e⟩ | ⟨hy,hq,e⟩ | ⟨hy,hq,e⟩⟩ | ⟨h,e⟩
 ·cases e;exact⟨by simp,λr hr=>(nomatch hr),λr hr=>(nomatch hr)⟩
 ·cases e;exact zhc hq
 ·cases e
 ·cases e
noncomputable def zld:PF:=λds Q=>∃i:Int,ds=[.int i]/\Q (.bl true) .frz
theorem ziQ:zbJ zld:=λds Q Q' m q160q=>by obtain⟨i,e,q⟩:=q160q;exact⟨i,e,m _ _ q⟩
theorem zle:zaq ["_law_found"] ["_law_found"] (zac zcq):=⟨rfl,rfl,rfl,by decide +kernel,rfl,by decide +kernel,by decide +kernel⟩
theorem zmf {f:Addr}{fd:FuncData}(F:Fun K "_law_whole" "_law_whole" zcq f fd) (B:Bl mg):FnOk P w K mg base CX0 1 f fd ["_law_found"] (spP K zld):=by
 refine zaP F zle (λds Q q161q=>by obtain⟨c,e,_⟩:=q161q;rw[e];rfl) (λcdv A outer s H E hr=>?_);have hu:(A.deeper (envOfC "_law_whole" (zac zcq) s.heap.objs.size f cdv)).units+16<cLine:=by have q:=hr.units;lia
 have nd:=zle.nd;refine⟨_,(zag (zah (zoY (zdM (K:=K) rfl rfl B.isi (zaa (zab 0) (zaa (zgH rfl B.int bInt) zad))) (zoX (zoW (zdM (K:=K) rfl rfl B.isi (zaa (zab 0) (zaa (zgH rfl B.bool zqB) zad)))))))),λds Q h=>?_⟩;obtain⟨i,rfl,q⟩:=h;walk_at "pu";exact⟨true,zch,iteT ⟨false,zfY,q⟩⟩
theorem zoj {A B:Prop}(h:B):if true=false then A else B:=by
 rw[if_neg (by decide)];exact h
noncomputable def zok:PF:=λds Q=>∃d r,ds=[d]/\Told d (some r)/\Q (.bl true) .frz
noncomputable def zmg (K:PySem.W.Frag):Sp:=λvs H Q _=>∃Fz d,(∀b,Fz b->H b≠none)/\DenL K Fz H [d] vs/\Told d none/\∀H',Same H H'->Q (.bl true) H'
theorem zlf {f fW fT fN fR NX NT NW NA NR J:Addr}{fd fdW fdT fdN fdR:FuncData}{bm bmJ:List Value}(F:Fun K "_law_right" "_law_right" zbS f fd) (Whole:Fx K mg "_law_whole" zcq ["_law_found"] fW fdW) (Told:Fx K mg "_law_told" zcX ["_law_text_here"] fT fdT) (NumTold:Fx K mg "_law_number_told" zaL ["_law_word"] fN fdN) (ReadRows:Fx K mg "read_rows" zay ["text"] fR fdR)
  (GR:FnOk P w K mg base (CXJ P w) 4 fR fdR ["text"] (spPX K (zbq NX))) (B:Bl mg) (M:Ms K mg NX NT NW NA NR J bm bmJ):FnOk P w K mg base CX0 5 f fd ["_law_text_here"] (spP K zok):=by
 have GWhole:FnOk P w K mg base CX0 4 fW fdW ["_law_found"] (spP K zld):=(zmf Whole.fn B).mono (by decide);have GTold:FnOk P w K mg base CX0 4 fT fdT ["_law_text_here"] (spP K zhk):=(zhl Told.fn NumTold B).mono (by decide);refine zaP F zfu (λds Q q162q=>by obtain⟨c,r,e,_⟩:=q162q;rw[e];rfl) (λcdv A outer s H E hr=>?_);have hu:(A.deeper (envOfC "_law_right" (zac zbS) s.heap.objs.size f cdv)).units+16<cLine:=by have q:=hr.units;lia
 have nd:=zfu.nd;refine⟨_,(zae (zak (i:=1) nd rfl (Or.inl rfl) (zan GTold zef hr rfl Told.mg Told.fn.kp Told.bd (zaa (zab 0) zad)))
  (zae (zak (i:=2) nd rfl (Or.inl rfl) zbO) (zae (zak (i:=3) nd rfl (Or.inl rfl) zbO)
  (zae (zlV (z:=3) (i:=2) (j:=4) GR (zfr NX) rfl rfl rfl hr rfl ReadRows.mg ReadRows.fn.kp ReadRows.bd (zaa (zab 0) zad) nd rfl rfl rfl rfl rfl rfl (by decide) rfl M.j M.ej)
  (zae (zaF (znx (zab 1) zbO) (zae zge (zag zge)) zam)
  (zae (zaF (PuW.t (zbP (zhC (zab 2) zbO) (zbP (zbp (zaX (zdM (K:=K) rfl rfl B.isi (zaa (zab 3) (zaa (zgH rfl B.list zpi) zad))))) (zcs (zcp hu (zab 3) (zab 1)))))) (zag (zah ziw)) zam)
  (zae (znt 3 (zdK rfl PassesOwn.never (zbt (zab 3)) (zau (i:=5) nd rfl (Or.inl rfl)) (zag (zaF (PuW.t (zbP (zbp (zaX (zdM (K:=K) rfl rfl B.isi (zaa (zab 5) (zaa (zgH rfl B.tuple zjN) zad))))) (zcs (zcp hu (zbL (N:=["_law_cell"]) (k:=1) (js:=[]) rfl (zdE (sup:=zac zbS) (XN:=zii) rfl rfl (by decide +kernel)) (by decide) (zaO (by decide)) (zgJ (zab 5)) ⟨λ_ _ _ _ _=>(zau (i:=0) (by show(["_law_cell"]:List Str).Nodup;decide +kernel) rfl (Or.inl rfl)),λ_ _ _ _ _=>(zlE (zbp (zaX (zan GWhole ziQ hr rfl Whole.mg Whole.fn.kp Whole.bd (zaa (zab 0) zad))))),λ_ _ _ _ _=>(zab 0)⟩) (zbQ zad))))) (zag (zah ziw)) zam))))
  (zag (zah ziw))))))))),λds Q h=>?_⟩
 obtain⟨d,r,rfl,ht,q⟩:=h;have hsm:=zlc ht;have hsz:=sizeLine_eq;walk_at "pu";refine zla ht ?_;dsimp only;walk_at "go";walk_at "go";walk_at "go";refine⟨by decide,by decide,zoh ht ?_⟩;dsimp only;have hq:(r.map rowP).all (PL.plain 5)=true:=zbl 4 r;walk_at "go";walk_at "go";walk_at "go";refine⟨true,zch,?_⟩;rw[if_neg (by decide)];refine⟨hq,hq,?_⟩;walk_at "go";walk_at "go";simp only[pFrz,zjB];walk_at "pu";obtain⟨Iv,hIv⟩:∃Iv:Nat->PEnv->Prop,∀i ρ,Iv i ρ↔∃k5,ρ=[some (d,false),some (PV.lst (List.map rowP r),true),some (PV.non,false),some (PV.lst (List.map rowP r),false),none,k5]:=⟨_,λ_ _=>Iff.rfl⟩;refine⟨Iv,(hIv _ _).mpr ⟨none,rfl⟩,?_,?_⟩
 ·intro i d' ρ hd hI;obtain⟨k5,rfl⟩:=(hIv _ _).mp hI;rw[List.getElem?_map]at hd;cases hs:r[i]? with
  | none=>rw[hs]at hd;cases hd
  | some w=>
   rw[hs]at hd;cases hd;have h7:=hsm.wide w (List.mem_of_getElem? hs);walk_at "go";refine⟨true,zch,zoj ⟨by rw[List.length_map];lia,λj out=>out=[],rfl,?_,?_⟩⟩
   ·rintro j d2 out hd2-rfl;rw[List.getElem?_map]at hd2;cases hz:w[j]? with
    | none=>rw[hz]at hd2;cases hd2
    | some z=>rw[hz]at hd2;cases hd2;exact⟨z,rfl,true,rfl,zoj rfl⟩
   ·rintro out-rfl;refine⟨Nat.zero_le _,rfl,?_⟩;rw[if_neg (by simp)];walk_at "go";exact(hIv _ _).mpr ⟨_,rfl⟩
 ·intro ρ hI;obtain⟨k5,rfl⟩:=(hIv _ _).mp hI;walk_at "go";exact q
theorem zlg {f fT fN fR NX NT NW NA NR J:Addr}{fd fdT fdN fdR:FuncData}{bm bmJ:List Value}(F:Fun K "_law_right" "_law_right" zbS f fd) (Told:Fx K mg "_law_told" zcX ["_law_text_here"] fT fdT) (NumTold:Fx K mg "_law_number_told" zaL ["_law_word"] fN fdN) (ReadRows:Fx K mg "read_rows" zay ["text"] fR fdR)
  (GR:FnOk P w K mg base (CXJ P w) 4 fR fdR ["text"] (spPX K (zbq NX))) (B:Bl mg) (G:Gs K mg NX bm) (M:Ms K mg NX NT NW NA NR J bm bmJ):FnOk P w K mg base CX0 5 f fd ["_law_text_here"] (zmg K):=by
 have GTold:FnOk P w K mg base CX0 4 fT fdT ["_law_text_here"] (spP K zhk):=(zhl Told.fn NumTold B).mono (by decide);refine F.ok zfu (λvs H Q E q163q=>by obtain⟨Fz,d,_,hd,_⟩:=q163q;rw[<- hd.length];rfl) (λcdv A outer s H vs Q E hr h=>?_);have nd:=zfu.nd;obtain⟨Fz,d,al,hd,ho,q⟩:=h;refine⟨_,zbr (PuS.run (zak (i:=1) nd rfl (Or.inl rfl) (zan GTold zef hr rfl Told.mg Told.fn.kp Told.bd (zaa (zab 0) zad))))
  (zbr (zfx (i:=2) nd rfl (.inl rfl) zhn) (zbr (zfx (i:=3) nd rfl (.inl rfl) zhn)
  (zbr (zkC (z:=3) (i:=2) (j:=4) GR rfl rfl rfl hr rfl ReadRows.mg ReadRows.fn.kp ReadRows.bd (zaE (zcZ (i:=0) rfl (.inl rfl)) zbU) nd rfl rfl rfl rfl rfl rfl (by decide) rfl M.j M.ej)
  (zbr (zlj (zje zmp (zcZ (i:=1) rfl (.inl rfl)) zhn (by first | exact zbn _ | rfl)) (zbr (zlj (zoq (zcx zkD rfl B.isi zft (zaE (zcZ (i:=2) rfl (.inl rfl)) (zaE (zmr (zaE (zcN (v:=.ref NT) rfl M.t rfl) (zaE (zcN (v:=.ref NW) rfl M.w rfl) (zaE (zcN (v:=.ref NA) rfl M.a rfl) (zaE (zcN (v:=.ref NR) rfl M.r rfl) zbU))))) zbU)))) L2.zfw zgA)
   (zgB (zmo (zmn (zcx zhW rfl B.isi zft (zaE (zcZ (i:=2) rfl (.inl rfl)) (zaE (zcN (v:=.ref NX) rfl G.nx rfl) zbU))) (zmm (zcx zhW rfl B.isi zft (zaE (zcZ (i:=2) rfl (.inl rfl)) (zaE (ziY (v:=.ty "ValueError") rfl M.v zof rfl) zbU)))))))) zgA) L2.zfw)))),?_⟩
 have hsz:=sizeLine_eq;obtain⟨R,no⟩:=zdL (N:=zii) al hd;refine⟨zaV zii [d],Fz,R,?_⟩;walk_at "pu";refine zlb ho ?_;dsimp only;intro σ' Fz' H' s' oi R';have sm:Same H H':=λb o e=>s'.keep b o e (no _ b);obtain⟨v0,g0,d0⟩:=R'.frz 0 d rfl;obtain⟨v1,g1,d1⟩:=R'.frz 1 .non rfl;simp only[PL.Den]at d1;subst d1;have hl:σ'.length=6:=R'.len.symm;refine⟨by show 4<((σ'.set 2 _).set 3 _).length;rw[List.length_set,List.length_set];lia,by show 2<((σ'.set 2 _).set 3 _).length;rw[List.length_set,List.length_set];lia,λcls o H2=>cls=.ref NX/\Same H' H2,⟨v0,?_,Fz',[d],R'.al,PL.DenL.cons d0 PL.DenL.nil,zoi ho λH2 s2=>⟨rfl,s2⟩⟩,?_⟩
 ·rw[List.getElem?_set_ne (by decide),List.getElem?_set_ne (by decide)];exact g0
 rintro cls o H2 ⟨rfl,s2⟩;refine⟨⟨NX,bm,rfl,G.ex,M.xj⟩,λa ha=>?_⟩;have sa:Same H H2:=sm.trans s2;have t1:((((((List.set σ' 2 (some V.non)).set 3 (some V.non)).set 4 (some (V.ref a))).set 2 (some (V.ref a))).set 4 (some V.non)).set 4 none)[1]? = some (some V.non):=by
  rw[List.getElem?_set_ne (by decide),List.getElem?_set_ne (by decide),List.getElem?_set_ne (by decide),List.getElem?_set_ne (by decide),List.getElem?_set_ne (by decide),List.getElem?_set_ne (by decide)];exact g1
 have t2:((((((List.set σ' 2 (some V.non)).set 3 (some V.non)).set 4 (some (V.ref a))).set 2 (some (V.ref a))).set 4 (some V.non)).set 4 none)[2]? = some (some (V.ref a)):=by
  rw[List.getElem?_set_ne (by decide),List.getElem?_set_ne (by decide),List.getElem?_set_self (by simp only[List.length_set];lia)]
 generalize ((((((List.set σ' 2 (some V.non)).set 3 (some V.non)).set 4 (some (V.ref a))).set 2 (some (V.ref a))).set 4 (some V.non)).set 4 none)=τ at t1 t2 ⊢;have e3:upd H2 a (PL.ClsAt a (Value.ref NX)) a=some (PL.ClsAt a (Value.ref NX)):=zat;have s3:Same H (upd H2 a (PL.ClsAt a (Value.ref NX))):=sa.upd' (sa.free ha);generalize upd H2 a (PL.ClsAt a (Value.ref NX))=H3 at e3 s3 ⊢;refine⟨.non,t1,rfl,true,by simp,iteT ?_⟩;refine⟨.ref a,t2,by show 4<=sizeLine;lia,λp hp=>?_⟩;have npa:a≠p:=λe=>by rw[<- e,e3]at hp;cases hp
 have e4:upd H3 p (.tup [.ref NT,.ref NW,.ref NA,.ref NR]) a=some (PL.ClsAt a (Value.ref NX)):=by rw[zao npa];exact e3
 refine⟨a,NX,bm,p,[NT,NW,NA,NR],false,e4,M.kx,rfl,zat,M.k0,false,rfl,iteF ?_⟩;have s4:Same H (upd H3 p (.tup [.ref NT,.ref NW,.ref NA,.ref NR])):=s3.upd' (s3.free hp);refine⟨.ref a,t2,a,NX,bm,true,e4,M.kx,.inr ⟨NX,rfl,M.k1⟩,true,rfl,iteT ?_⟩;exact⟨.ref a,t2,a,NX,bm,true,e4,M.kx,.inl ⟨_,rfl,M.k2⟩,q _ s4⟩
theorem zmh {f fW fT fN fR NX NT NW NA NR J:Addr}{fd fdW fdT fdN fdR:FuncData}{bm bmJ:List Value}(F:Fun K "_law_right" "_law_right" zbS f fd) (Whole:Fx K mg "_law_whole" zcq ["_law_found"] fW fdW) (Told:Fx K mg "_law_told" zcX ["_law_text_here"] fT fdT) (NumTold:Fx K mg "_law_number_told" zaL ["_law_word"] fN fdN) (ReadRows:Fx K mg "read_rows" zay ["text"] fR fdR)
  (GR:FnOk P w K mg base (CXJ P w) 4 fR fdR ["text"] (spPX K (zbq NX))) (B:Bl mg) (G:Gs K mg NX bm) (M:Ms K mg NX NT NW NA NR J bm bmJ):FnOk P w K mg base CX0 5 f fd ["_law_text_here"] (spP K zih):=by
 refine FnOk.or (zlf F Whole Told NumTold ReadRows GR B M) (zlg F Told NumTold ReadRows GR B G M) λvs H Q E q164q=>?_;obtain⟨Fz,ds,al,hd,d,e,ht,q⟩:=q164q;subst e;obtain⟨o,ho⟩:=zog ht;cases o with
 | some r=>exact .inl ⟨Fz,[d],al,hd,d,r,rfl,ho,q⟩
 | none=>exact .inr ⟨Fz,d,al,hd,ho,λH' sm=>q _ Fz H' ⟨⟨sm,λ_ h=>h,λ_ h=>.inl h,λb hb z=>al b hb (sm.free z)⟩,by show PL.Den _ _ _ _ _;simp only[PL.Den]⟩⟩
end
noncomputable def fLaw:PF:=λds Q=>∃ns:List Int,ds=[.lst (ns.map PV.int)]/\ns.length<=63/\Q (.bl true) .frz
theorem zmi:zbJ fLaw:=λds Q Q' m q165q=>by obtain⟨ns,e,h,q⟩:=q165q;exact⟨ns,e,h,m _ _ q⟩
theorem zqM (NT J:Addr):(Value.ref NT::.ref J::bmV).contains (.ref J)=true:=by
 rw[List.contains_cons,List.contains_cons,beq_self_eq_true,Bool.true_or,Bool.or_true]
theorem ziR (l:List Int):zaI (l.map PV.int)=true:=by
 induction l with
 | nil=>rw[List.map_nil];simp only[zaI]
 | cons a l ih=>rw[List.map_cons];simp only[zaI,zbT,ih,Bool.and_self]
theorem ziS (t:List (List Int)):zaI (t.map rowP)=true:=by
 induction t with
 | nil=>rw[List.map_nil];simp only[zaI]
 | cons a l ih=>rw[List.map_cons];unfold rowP at ih ⊢;simp only[zaI,zbT,ziR,ih,Bool.and_self]
section
variable {P:Program}{w:World}{K:PySem.W.Frag}{mg:Str->Option Value}{base:Heap}
theorem zmj (xs:List PV)(k:Nat):cutP xs none (some (k:Int))=xs.take k:=by
 unfold cutP;have h1:HT.sIx xs.length 0 none=0:=rfl;rw[h1,List.drop_zero,Nat.sub_zero];by_cases h:k<=xs.length
 ·have:HT.sIx xs.length xs.length (some (k:Int))=k:=by rw[HT.zji];lia
  rw[this]
 ·have:HT.sIx xs.length xs.length (some (k:Int))=xs.length:=by rw[HT.zji];lia
  rw[this,List.take_length,List.take_of_length_le (by lia)]
theorem zqe:zaq ["_law_script","_law_cells","_law_at","_law_rows_here","_law_text_here","_law_due","_law_kept","_law_found"] ["_law_script"] (zac sLaw):=⟨rfl,rfl,rfl,by decide +kernel,rfl,by decide +kernel,by decide +kernel⟩
theorem zqf {f f1 f2 f3 f4 f5 f6:Addr}{fd fd1 fd2 fd3 fd4 fd5 fd6:FuncData}(F:Fun K "law" "law" sLaw f fd) (Rows:Fx K mg "_law_rows" zen ["_law_cells","_law_at"] f1 fd1) (GRows:FnOk P w K mg base CX0 5 f1 fd1 ["_law_cells","_law_at"] (spP K zmc))
  (Text:Fx K mg "_law_text" zed ["_law_rows_here"] f2 fd2) (GText:FnOk P w K mg base CX0 5 f2 fd2 ["_law_rows_here"] (spP K fText)) (ShowRows:Fx K mg "show_rows" zaK ["rows"] f3 fd3) (GShowRows:FnOk P w K mg base CX0 5 f3 fd3 ["rows"] (spP K zcK))
  (Right:Fx K mg "_law_right" zbS ["_law_text_here"] f4 fd4) (GRight:FnOk P w K mg base CX0 5 f4 fd4 ["_law_text_here"] (spP K zih)) (Spoiled:Fx K mg "_law_spoiled" zbj ["_law_text_here","_law_cell"] f5 fd5) (GSpoiled:FnOk P w K mg base CX0 5 f5 fd5 ["_law_text_here","_law_cell"] (spP K zdy))
  (Told:Fx K mg "_law_told" zcX ["_law_text_here"] f6 fd6) (GTold:FnOk P w K mg base CX0 5 f6 fd6 ["_law_text_here"] (spP K zhk)) (B:Bl mg):FnOk P w K mg base CX0 6 f fd ["_law_script"] (spP K fLaw):=by
 refine zaP F zqe (λds Q q166q=>by obtain⟨c,e,_⟩:=q166q;rw[e];rfl) (λcdv A outer s H E hr=>?_);have hu:(A.deeper (envOfC "law" (zac sLaw) s.heap.objs.size f cdv)).units+16<cLine:=by have q:=hr.units;lia
 have nd:=zqe.nd;refine⟨_,(zae (zak (i:=1) nd rfl (Or.inl rfl) (zmx (zlF (zab 0) zaY (zaZ zaf)) (zbQ (zaa zaf zad))))
   (zae (zdK rfl PassesOwn.never (zcS rfl B.range (zaa (zbu rfl B.len (zaa (zab 1) zad)) zad)) (zau (i:=2) nd rfl (Or.inl rfl)) (zae (zak (i:=3) nd rfl (Or.inl rfl) (zan GRows zkV hr rfl Rows.mg Rows.fn.kp Rows.bd (zaa (zab 1) (zaa (zab 2) zad))))
   (zae (zak (i:=4) nd rfl (Or.inl rfl) (zan GText zee hr rfl Text.mg Text.fn.kp Text.bd (zaa (zab 3) zad)))
   (zae (zak (i:=5) nd rfl (Or.inl rfl) (zan GTold zef hr rfl Told.mg Told.fn.kp Told.bd (zaa (zab 4) zad)))
   (zae (zaF (zhC (zab 5) zbO) (zae (zak (i:=6) nd rfl (Or.inl rfl) (znz rfl B.list (zaa (zab 5) zad)))
   (zae (zak (i:=7) nd rfl (Or.inl rfl) (zan GShowRows zfp hr rfl ShowRows.mg ShowRows.fn.kp ShowRows.bd (zaa (zab 5) zad)))
   (zag (zaF (PuW.t (zbP (zbp (zaX (zdM (K:=K) rfl rfl B.isi (zaa (zab 7) (zaa (zgH rfl B.str bStr) zad))))) (zbP (zcp hu (zab 7) (zan GText zee hr rfl Text.mg Text.fn.kp Text.bd (zaa (zab 6) zad))) (zbP (zcp hu (zab 5) (zab 6)) (zcs (zbp (zaX (zan GRight zcY hr rfl Right.mg Right.fn.kp Right.bd (zaa (zab 7) zad))))))))) (zag (zah ziw)) zam)))) zam)
   (zag (zaF (PuW.t (zbP (zbp (zaX (zan GRight zcY hr rfl Right.mg Right.fn.kp Right.bd (zaa (zab 4) zad)))) (zcs (zbp (zaX (zan GRight zcY hr rfl Right.mg Right.fn.kp Right.bd (zaa (zan GSpoiled zgn hr rfl Spoiled.mg Spoiled.fn.kp Spoiled.bd (zaa (zab 4) (zaa (zbw (zab 1) (zab 2)) zad))) zad))))))) (zag (zah ziw)) zam)))))))
   (zag (zah ziw)))),λds Q h=>?_⟩
 obtain⟨ns,rfl,h63,q⟩:=h;have hsz:=sizeLine_eq;have hcut:cutP (List.map PV.int ns) none (some 63)=ns.map PV.int:=by
  rw[show(63:Int)=((63:Nat):Int) from rfl,zmj,List.take_of_length_le (by rw[List.length_map];exact h63)]
 walk_at "pu";rw[hcut];have hcs:List.map PV.int ns++[PV.int 0]=(ns++[0]).map PV.int:=by rw[List.map_append];rfl
 have hcl:(ns++[0]).length=ns.length+1:=by rw[List.length_append];rfl
 rw[hcs];generalize ns++[(0:Int)]=cs at hcl ⊢;refine⟨by lia,by rw[List.length_map];lia,?_⟩;walk_at "go";rw[List.length_map];obtain⟨Iv,hIv⟩:∃Iv:Nat->PEnv->Prop,∀i ρ,Iv i ρ↔∃k2 k3 k4 k5 k6 k7,ρ=[some (PV.lst (List.map PV.int ns),false),some (PV.lst (List.map PV.int cs),true),k2,k3,k4,k5,k6,k7]:=⟨_,λ_ _=>Iff.rfl⟩;refine⟨by lia,by lia,Iv,(hIv _ _).mpr ⟨none,none,none,none,none,none,rfl⟩,?_,?_⟩
 ·intro i d ρ hd hI;obtain⟨k2,k3,k4,k5,k6,k7,rfl⟩:=(hIv _ _).mp hI;obtain⟨hi,rfl⟩:=zdo hd;rw[Int.toNat_natCast]at hi;rw[show(0:Int)+(i:Int)=(i:Int) by lia];walk_at "go";refine⟨cs,rfl,i,rfl,hi,by lia,λt ht=>⟨ziS t,?_⟩⟩;have hl:=zkT ht;walk_at "go";refine⟨t,rfl,ht,?_⟩;walk_at "go";obtain⟨o,ho⟩:=zij (y:=shT t) (by lia);cases o with
  | none=>
   refine zlb ho ?_;dsimp only;walk_at "go";walk_at "go";walk_at "go";refine⟨.inl ⟨_,rfl,by lia⟩,_,zbo (by rw[List.getElem?_map,List.getElem?_eq_getElem hi];rfl),⟨_,rfl⟩,by lia,λd hd=>⟨hd,?_⟩⟩;walk_at "go";exact(hIv _ _).mpr ⟨_,_,_,_,_,_,rfl⟩
  | some r=>
   have hr:=zlc ho;have hrl:=zkT hr;refine zla ho ?_;dsimp only;walk_at "go";walk_at "go";walk_at "go";refine⟨r,rfl,hr,?_⟩;walk_at "go";refine⟨true,zch,zoj ⟨r,rfl,hr,?_⟩⟩;rw[if_neg (by simp)];refine⟨zbl 4 r,zbl 4 r,?_⟩;refine⟨.inl ⟨_,rfl,by lia⟩,?_⟩;walk_at "go";walk_at "go";refine⟨.inl ⟨_,rfl,by lia⟩,_,zbo (by rw[List.getElem?_map,List.getElem?_eq_getElem hi];rfl),⟨_,rfl⟩,by lia,λd hd=>⟨hd,?_⟩⟩;walk_at "go";exact(hIv _ _).mpr ⟨_,_,_,_,_,_,rfl⟩
 ·intro ρ hI;obtain⟨k2,k3,k4,k5,k6,k7,rfl⟩:=(hIv _ _).mp hI;walk_at "go";exact q
theorem zmk:∀ns:List Int,ns.length<=63->fLaw [.lst (ns.map PV.int)] λd k=>d=.bl true:=λns h=>⟨ns,rfl,h,rfl⟩
end
open PySem PySem.Spec L2 PL
theorem len1 {us:List Value}{s0:Str}(h:us.length=[s0].length):∃a0,us=[a0]:=by obtain⟨a0,us,rfl⟩:=List.exists_cons_of_length_eq_add_one h;have h:=Nat.succ.inj h;rw[List.length_eq_zero_iff.mp h];exact⟨a0,rfl⟩
theorem len2 {us:List Value}{s0 s1:Str}(h:us.length=[s0,s1].length):∃a0 a1,us=[a0,a1]:=by obtain⟨a0,us,rfl⟩:=List.exists_cons_of_length_eq_add_one h;have h:=Nat.succ.inj h;obtain⟨a1,us,rfl⟩:=List.exists_cons_of_length_eq_add_one h;have h:=Nat.succ.inj h;rw[List.length_eq_zero_iff.mp h];exact⟨a0,a1,rfl⟩
theorem all_mk {tkS:Tok}{l:PySem.W.OpenLaw}{w:World}{K:PySem.W.Frag}{h:Heap}{mg:Str->Option Value}{fa f0 f1 f2 f3 f4 f5 f6 f7 f8 f9 f10 f11 f12 f13 f14 f15 f16 f17 g0 g1 g2 g3 g4 g5:Addr}(X:K.In h)(G:h.Ns mainGlobals mg)(hfa:mg "law" = some (.ref fa))
  {od0 an0 od1 an1 od2 an2 od3 an3 od4 an4 od5 an5 od6 an6 od7 an7 od8 an8 od9 an9 od10 an10 od11 an11 od12 an12 od13 an13 od14 an14 od15 an15 od16 an16 od17 an17:Option Addr} {sl0 sl1 sl2 sl3 sl4 sl5 sl6 sl7 sl8 sl9 sl10 sl11 sl12 sl13 sl14 sl15 sl16 sl17:Array (Option Value)} {oc0 kV0 dc0 pm0 cd0 ct0 oc1 kV1 dc1 pm1 cd1 ct1 oc2 kV2 dc2 pm2 cd2 ct2 oc3 kV3 dc3 pm3 cd3 ct3 oc4 kV4 dc4 pm4 cd4 ct4 oc5 kV5 dc5 pm5 cd5 ct5 oc6 kV6 dc6 pm6 cd6 ct6 oc7 kV7 dc7 pm7 cd7 ct7 oc8 kV8 dc8 pm8 cd8 ct8 oc9 kV9 dc9 pm9 cd9 ct9 oc10 kV10 dc10 pm10 cd10 ct10 oc11 kV11 dc11 pm11 cd11 ct11 oc12 kV12 dc12 pm12 cd12 ct12 oc13 kV13 dc13 pm13 cd13 ct13 oc14 kV14 dc14 pm14 cd14 ct14 oc15 kV15 dc15 pm15 cd15 ct15 oc16 kV16 dc16 pm16 cd16 ct16 oc17 kV17 dc17 pm17 cd17 ct17:Value}
  (a0:PySem.W.nsIn K mainGlobals "only" = some (some (.ref f0))) (l0:K.lookup f0=some ⟨oc0,od0,.func (PySem.W.fnOf "only" "only" (zar zdj) (zap zdj) (zac zdj) .none kV0 dc0 pm0 an0 cd0 ct0),sl0⟩) (c0:PySem.W.codeIn K cd0 "only" = true) (k0:PySem.W.keepIn K (.ref f0)=true)
  (a1:PySem.W.nsIn K mainGlobals "parts_of" = some (some (.ref f1))) (l1:K.lookup f1=some ⟨oc1,od1,.func (PySem.W.fnOf "parts_of" "parts_of" (zar zbi) (zap zbi) (zac zbi) .none kV1 dc1 pm1 an1 cd1 ct1),sl1⟩) (c1:PySem.W.codeIn K cd1 "parts_of" = true) (k1:PySem.W.keepIn K (.ref f1)=true)
  (a2:PySem.W.nsIn K mainGlobals "read_cell" = some (some (.ref f2))) (l2:K.lookup f2=some ⟨oc2,od2,.func (PySem.W.fnOf "read_cell" "read_cell" (zar zaJ) (zap zaJ) (zac zaJ) .none kV2 dc2 pm2 an2 cd2 ct2),sl2⟩) (c2:PySem.W.codeIn K cd2 "read_cell" = true) (k2:PySem.W.keepIn K (.ref f2)=true)
  (a3:PySem.W.nsIn K mainGlobals "read_row" = some (some (.ref f3))) (l3:K.lookup f3=some ⟨oc3,od3,.func (PySem.W.fnOf "read_row" "read_row" (zar zbb) (zap zbb) (zac zbb) .none kV3 dc3 pm3 an3 cd3 ct3),sl3⟩) (c3:PySem.W.codeIn K cd3 "read_row" = true) (k3:PySem.W.keepIn K (.ref f3)=true)
  (a4:PySem.W.nsIn K mainGlobals "read_rows" = some (some (.ref f4))) (l4:K.lookup f4=some ⟨oc4,od4,.func (PySem.W.fnOf "read_rows" "read_rows" (zar zay) (zap zay) (zac zay) .none kV4 dc4 pm4 an4 cd4 ct4),sl4⟩) (c4:PySem.W.codeIn K cd4 "read_rows" = true) (k4:PySem.W.keepIn K (.ref f4)=true)
  (a5:PySem.W.nsIn K mainGlobals "show_row" = some (some (.ref f5))) (l5:K.lookup f5=some ⟨oc5,od5,.func (PySem.W.fnOf "show_row" "show_row" (zar zbc) (zap zbc) (zac zbc) .none kV5 dc5 pm5 an5 cd5 ct5),sl5⟩) (c5:PySem.W.codeIn K cd5 "show_row" = true) (k5:PySem.W.keepIn K (.ref f5)=true)
  (a6:PySem.W.nsIn K mainGlobals "show_rows" = some (some (.ref f6))) (l6:K.lookup f6=some ⟨oc6,od6,.func (PySem.W.fnOf "show_rows" "show_rows" (zar zaK) (zap zaK) (zac zaK) .none kV6 dc6 pm6 an6 cd6 ct6),sl6⟩) (c6:PySem.W.codeIn K cd6 "show_rows" = true) (k6:PySem.W.keepIn K (.ref f6)=true)
  (a7:PySem.W.nsIn K mainGlobals "_law_whole" = some (some (.ref f7))) (l7:K.lookup f7=some ⟨oc7,od7,.func (PySem.W.fnOf "_law_whole" "_law_whole" (zar zcq) (zap zcq) (zac zcq) .none kV7 dc7 pm7 an7 cd7 ct7),sl7⟩) (c7:PySem.W.codeIn K cd7 "_law_whole" = true) (k7:PySem.W.keepIn K (.ref f7)=true)
  (a8:PySem.W.nsIn K mainGlobals "_law_mix" = some (some (.ref f8))) (l8:K.lookup f8=some ⟨oc8,od8,.func (PySem.W.fnOf "_law_mix" "_law_mix" (zar sMix) (zap sMix) (zac sMix) .none kV8 dc8 pm8 an8 cd8 ct8),sl8⟩) (c8:PySem.W.codeIn K cd8 "_law_mix" = true) (k8:PySem.W.keepIn K (.ref f8)=true)
  (a9:PySem.W.nsIn K mainGlobals "_law_number" = some (some (.ref f9))) (l9:K.lookup f9=some ⟨oc9,od9,.func (PySem.W.fnOf "_law_number" "_law_number" (zar zbN) (zap zbN) (zac zbN) .none kV9 dc9 pm9 an9 cd9 ct9),sl9⟩) (c9:PySem.W.codeIn K cd9 "_law_number" = true) (k9:PySem.W.keepIn K (.ref f9)=true)
  (a10:PySem.W.nsIn K mainGlobals "_law_rows" = some (some (.ref f10))) (l10:K.lookup f10=some ⟨oc10,od10,.func (PySem.W.fnOf "_law_rows" "_law_rows" (zar zen) (zap zen) (zac zen) .none kV10 dc10 pm10 an10 cd10 ct10),sl10⟩) (c10:PySem.W.codeIn K cd10 "_law_rows" = true) (k10:PySem.W.keepIn K (.ref f10)=true)
  (a11:PySem.W.nsIn K mainGlobals "_law_text" = some (some (.ref f11))) (l11:K.lookup f11=some ⟨oc11,od11,.func (PySem.W.fnOf "_law_text" "_law_text" (zar zed) (zap zed) (zac zed) .none kV11 dc11 pm11 an11 cd11 ct11),sl11⟩) (c11:PySem.W.codeIn K cd11 "_law_text" = true) (k11:PySem.W.keepIn K (.ref f11)=true)
  (a12:PySem.W.nsIn K mainGlobals "_law_odd" = some (some (.ref f12))) (l12:K.lookup f12=some ⟨oc12,od12,.func (PySem.W.fnOf "_law_odd" "_law_odd" (zar sOdd) (zap sOdd) (zac sOdd) .none kV12 dc12 pm12 an12 cd12 ct12),sl12⟩) (c12:PySem.W.codeIn K cd12 "_law_odd" = true) (k12:PySem.W.keepIn K (.ref f12)=true)
  (a13:PySem.W.nsIn K mainGlobals "_law_spoiled" = some (some (.ref f13))) (l13:K.lookup f13=some ⟨oc13,od13,.func (PySem.W.fnOf "_law_spoiled" "_law_spoiled" (zar zbj) (zap zbj) (zac zbj) .none kV13 dc13 pm13 an13 cd13 ct13),sl13⟩) (c13:PySem.W.codeIn K cd13 "_law_spoiled" = true) (k13:PySem.W.keepIn K (.ref f13)=true)
  (a14:PySem.W.nsIn K mainGlobals "_law_number_told" = some (some (.ref f14))) (l14:K.lookup f14=some ⟨oc14,od14,.func (PySem.W.fnOf "_law_number_told" "_law_number_told" (zar zaL) (zap zaL) (zac zaL) .none kV14 dc14 pm14 an14 cd14 ct14),sl14⟩) (c14:PySem.W.codeIn K cd14 "_law_number_told" = true) (k14:PySem.W.keepIn K (.ref f14)=true)
  (a15:PySem.W.nsIn K mainGlobals "_law_told" = some (some (.ref f15))) (l15:K.lookup f15=some ⟨oc15,od15,.func (PySem.W.fnOf "_law_told" "_law_told" (zar zcX) (zap zcX) (zac zcX) .none kV15 dc15 pm15 an15 cd15 ct15),sl15⟩) (c15:PySem.W.codeIn K cd15 "_law_told" = true) (k15:PySem.W.keepIn K (.ref f15)=true)
  (a16:PySem.W.nsIn K mainGlobals "_law_right" = some (some (.ref f16))) (l16:K.lookup f16=some ⟨oc16,od16,.func (PySem.W.fnOf "_law_right" "_law_right" (zar zbS) (zap zbS) (zac zbS) .none kV16 dc16 pm16 an16 cd16 ct16),sl16⟩) (c16:PySem.W.codeIn K cd16 "_law_right" = true) (k16:PySem.W.keepIn K (.ref f16)=true)
  (a17:PySem.W.nsIn K mainGlobals "law" = some (some (.ref f17))) (l17:K.lookup f17=some ⟨oc17,od17,.func (PySem.W.fnOf "law" "law" (zar sLaw) (zap sLaw) (zac sLaw) .none kV17 dc17 pm17 an17 cd17 ct17),sl17⟩) (c17:PySem.W.codeIn K cd17 "law" = true) (k17:PySem.W.keepIn K (.ref f17)=true)
  (z0:PySem.W.nsIn K mainGlobals "range" = some none)
  (z1:PySem.W.nsIn K mainGlobals "len" = some none)
  (z2:PySem.W.nsIn K mainGlobals "list" = some none)
  (z3:PySem.W.nsIn K mainGlobals "tuple" = some none)
  (z4:PySem.W.nsIn K mainGlobals "sorted" = some none)
  (z5:PySem.W.nsIn K mainGlobals "set" = some none)
  (z6:PySem.W.nsIn K mainGlobals "isinstance" = some none)
  (z7:PySem.W.nsIn K mainGlobals "str" = some none)
  (z8:PySem.W.nsIn K mainGlobals "int" = some none)
  (z9:PySem.W.nsIn K mainGlobals "bool" = some none)
  (z10:PySem.W.nsIn K mainGlobals "dict" = some none)
  (z11:PySem.W.nsIn K mainGlobals "enumerate" = some none)
  (z12:PySem.W.nsIn K mainGlobals "zip" = some none)
  (z13:PySem.W.nsIn K mainGlobals "min" = some none)
  (z14:PySem.W.nsIn K mainGlobals "max" = some none)
  (z15:PySem.W.nsIn K mainGlobals "sum" = some none)
  (z16:PySem.W.nsIn K mainGlobals "all" = some none)
  (z17:PySem.W.nsIn K mainGlobals "any" = some none)
  (z18:PySem.W.nsIn K mainGlobals "reversed" = some none)
  (z19:PySem.W.nsIn K mainGlobals "abs" = some none)
  (z20:PySem.W.nsIn K mainGlobals "ord" = some none)
  (y0:PySem.W.nsIn K mainGlobals "NoText" = some (some (.ref g0)))
  (y1:PySem.W.nsIn K mainGlobals "NoTable" = some (some (.ref g1)))
  (y2:PySem.W.nsIn K mainGlobals "NoWidth" = some (some (.ref g2)))
  (y3:PySem.W.nsIn K mainGlobals "NoAnswer" = some (some (.ref g3)))
  (y4:PySem.W.nsIn K mainGlobals "NoRow" = some (some (.ref g4)))
  (y5:PySem.W.nsIn K mainGlobals "JoinError" = some (some (.ref g5)))
  (v0:PySem.W.nsIn K mainGlobals "ValueError" = some none)
  (es:PySem.W.nsIn K mainGlobals "FIGURES" = some (some (.str M62.FIG tkS)))
  (ex:PySem.W.excIn K g0 bmV "ValueError.__new__" = true)
  (mx:mroIn K g0 (.ref g5::bmV)=true)
  (ej:PySem.W.excIn K g5 bmV "ValueError.__new__" = true)
  (mj:mroIn K g5 bmV=true)
  (ga:PySem.W.findIn K (.ref g0) "__getattribute__" = some (some (.builtin "BaseException.__getattribute__")))
  (gt:PySem.W.findIn K (.ref g0) "__getattr__" = some none)
  (ca:PySem.W.findIn K (.ref g0) "__class__" = some (some (.builtin "object.__class__")))
  (q0:PySem.W.kitAny K (.ref g0) [.ref g1,.ref g2,.ref g3,.ref g4]=some false)
  (q1:PySem.W.kitOne K (.ref g0) (.ref g0)=some true)
  (q2:PySem.W.kitOne K (.ref g0) (.type "ValueError")=some true) :
  ∃fd:FuncData,(∀(s:Shared) (v:Value),BindsTo s fd ⟨[v],[]⟩ [("_law_script",v)])/\∀base:Heap,K.In base->base.Ns mainGlobals mg->FnOk l.prog w K mg base CX0 6 fa fd ["_law_script"] (spP K fLaw):=by
 have e:=hfa.symm.trans (PySem.W.mg_of X G a17);cases e;have F0:=zaU (st:=zdj) l0 c0 k0;have X0:Fx K mg "only" zdj ["text","signs"] f0 _:=⟨F0,F0.binds (ps:=["text","signs"]) λ_ _ _ _ _ _ us hl=>by obtain⟨_,_,rfl⟩:=len2 hl;rfl,PySem.W.mg_of X G a0⟩;have F1:=zaU (st:=zbi) l1 c1 k1;have X1:Fx K mg "parts_of" zbi ["text","mark"] f1 _:=⟨F1,F1.binds (ps:=["text","mark"]) λ_ _ _ _ _ _ us hl=>by obtain⟨_,_,rfl⟩:=len2 hl;rfl,PySem.W.mg_of X G a1⟩;have F2:=zaU (st:=zaJ) l2 c2 k2;have X2:Fx K mg "read_cell" zaJ ["text"] f2 _:=⟨F2,F2.binds (ps:=["text"]) λ_ _ _ _ _ _ us hl=>by obtain⟨_,rfl⟩:=len1 hl;rfl,PySem.W.mg_of X G a2⟩;have F3:=zaU (st:=zbb) l3 c3 k3;have X3:Fx K mg "read_row" zbb ["text"] f3 _:=⟨F3,F3.binds (ps:=["text"]) λ_ _ _ _ _ _ us hl=>by obtain⟨_,rfl⟩:=len1 hl;rfl,PySem.W.mg_of X G a3⟩;have F4:=zaU (st:=zay) l4 c4 k4;have X4:Fx K mg "read_rows" zay ["text"] f4 _:=⟨F4,F4.binds (ps:=["text"]) λ_ _ _ _ _ _ us hl=>by obtain⟨_,rfl⟩:=len1 hl;rfl,PySem.W.mg_of X G a4⟩;have F5:=zaU (st:=zbc) l5 c5 k5;have X5:Fx K mg "show_row" zbc ["row"] f5 _:=⟨F5,F5.binds (ps:=["row"]) λ_ _ _ _ _ _ us hl=>by obtain⟨_,rfl⟩:=len1 hl;rfl,PySem.W.mg_of X G a5⟩;have F6:=zaU (st:=zaK) l6 c6 k6;have X6:Fx K mg "show_rows" zaK ["rows"] f6 _:=⟨F6,F6.binds (ps:=["rows"]) λ_ _ _ _ _ _ us hl=>by obtain⟨_,rfl⟩:=len1 hl;rfl,PySem.W.mg_of X G a6⟩;have F7:=zaU (st:=zcq) l7 c7 k7;have X7:Fx K mg "_law_whole" zcq ["_law_found"] f7 _:=⟨F7,F7.binds (ps:=["_law_found"]) λ_ _ _ _ _ _ us hl=>by obtain⟨_,rfl⟩:=len1 hl;rfl,PySem.W.mg_of X G a7⟩;have F8:=zaU (st:=sMix) l8 c8 k8;have X8:Fx K mg "_law_mix" sMix ["_law_cell","_law_j"] f8 _:=⟨F8,F8.binds (ps:=["_law_cell","_law_j"]) λ_ _ _ _ _ _ us hl=>by obtain⟨_,_,rfl⟩:=len2 hl;rfl,PySem.W.mg_of X G a8⟩;have F9:=zaU (st:=zbN) l9 c9 k9;have X9:Fx K mg "_law_number" zbN ["_law_cell","_law_j"] f9 _:=⟨F9,F9.binds (ps:=["_law_cell","_law_j"]) λ_ _ _ _ _ _ us hl=>by obtain⟨_,_,rfl⟩:=len2 hl;rfl,PySem.W.mg_of X G a9⟩;have F10:=zaU (st:=zen) l10 c10 k10;have X10:Fx K mg "_law_rows" zen ["_law_cells","_law_at"] f10 _:=⟨F10,F10.binds (ps:=["_law_cells","_law_at"]) λ_ _ _ _ _ _ us hl=>by obtain⟨_,_,rfl⟩:=len2 hl;rfl,PySem.W.mg_of X G a10⟩;have F11:=zaU (st:=zed) l11 c11 k11;have X11:Fx K mg "_law_text" zed ["_law_rows_here"] f11 _:=⟨F11,F11.binds (ps:=["_law_rows_here"]) λ_ _ _ _ _ _ us hl=>by obtain⟨_,rfl⟩:=len1 hl;rfl,PySem.W.mg_of X G a11⟩;have F12:=zaU (st:=sOdd) l12 c12 k12;have X12:Fx K mg "_law_odd" sOdd ["_law_cell"] f12 _:=⟨F12,F12.binds (ps:=["_law_cell"]) λ_ _ _ _ _ _ us hl=>by obtain⟨_,rfl⟩:=len1 hl;rfl,PySem.W.mg_of X G a12⟩;have F13:=zaU (st:=zbj) l13 c13 k13;have X13:Fx K mg "_law_spoiled" zbj ["_law_text_here","_law_cell"] f13 _:=⟨F13,F13.binds (ps:=["_law_text_here","_law_cell"]) λ_ _ _ _ _ _ us hl=>by obtain⟨_,_,rfl⟩:=len2 hl;rfl,PySem.W.mg_of X G a13⟩;have F14:=zaU (st:=zaL) l14 c14 k14;have X14:Fx K mg "_law_number_told" zaL ["_law_word"] f14 _:=⟨F14,F14.binds (ps:=["_law_word"]) λ_ _ _ _ _ _ us hl=>by obtain⟨_,rfl⟩:=len1 hl;rfl,PySem.W.mg_of X G a14⟩;have F15:=zaU (st:=zcX) l15 c15 k15;have X15:Fx K mg "_law_told" zcX ["_law_text_here"] f15 _:=⟨F15,F15.binds (ps:=["_law_text_here"]) λ_ _ _ _ _ _ us hl=>by obtain⟨_,rfl⟩:=len1 hl;rfl,PySem.W.mg_of X G a15⟩;have F16:=zaU (st:=zbS) l16 c16 k16;have X16:Fx K mg "_law_right" zbS ["_law_text_here"] f16 _:=⟨F16,F16.binds (ps:=["_law_text_here"]) λ_ _ _ _ _ _ us hl=>by obtain⟨_,rfl⟩:=len1 hl;rfl,PySem.W.mg_of X G a16⟩;have F17:=zaU (st:=sLaw) l17 c17 k17;have B:Bl mg:=⟨PySem.W.mg_none_of X G z0,PySem.W.mg_none_of X G z1,PySem.W.mg_none_of X G z2,PySem.W.mg_none_of X G z3,PySem.W.mg_none_of X G z4,PySem.W.mg_none_of X G z5,PySem.W.mg_none_of X G z6,PySem.W.mg_none_of X G z7,PySem.W.mg_none_of X G z8,PySem.W.mg_none_of X G z9,PySem.W.mg_none_of X G z10,PySem.W.mg_none_of X G z11,PySem.W.mg_none_of X G z12,PySem.W.mg_none_of X G z13,PySem.W.mg_none_of X G z14,PySem.W.mg_none_of X G z15,PySem.W.mg_none_of X G z16,PySem.W.mg_none_of X G z17,PySem.W.mg_none_of X G z18,PySem.W.mg_none_of X G z19,PySem.W.mg_none_of X G z20⟩;have G1:Gs K mg g0 (.ref g5::bmV):=⟨PySem.W.mg_of X G y0,zgU ex mx,⟨_,PySem.W.mg_of X G es⟩⟩;have M:Ms K mg g0 g1 g2 g3 g4 g5 (.ref g5::bmV) bmV:=⟨PySem.W.mg_of X G y1,PySem.W.mg_of X G y2,PySem.W.mg_of X G y3,PySem.W.mg_of X G y4,PySem.W.mg_none_of X G v0,PySem.W.mg_of X G y5,zgU ej mj,zqM _ _,⟨zgU ex mx,ga,gt,ca⟩,q0,q1,q2⟩;exact⟨PySem.W.fnOf "law" "law" (zar sLaw) (zap sLaw) (zac sLaw) .none kV17 dc17 pm17 an17 cd17 ct17,λs v=>.of_eq rfl,λbase _ _=>zqf F17 X10 ((zoc X10.fn X8 X9 B).mono (by decide)) X11 ((zod X11.fn B).mono (by decide)) X6 ((zhg X6.fn X5 B).mono (by decide)) X16 (zmh X16.fn X7 X15 X14 X4 (zhi X4.fn X0 X2 X3 X1 B G1) B G1 M) X13 ((ziM X13.fn X8 X12 B).mono (by decide)) X15 ((zhl X15.fn X14 B).mono (by decide)) B⟩
end Q62
open PySem PySem.W
set_option maxRecDepth 100000 in
set_option maxHeartbeats 0 in
theorem PySem.Challenge.cw_joinwood_k62_rows_as_texts_holds : PySem.Challenge.rw_joinwood_k62_rows_as_texts.Holds := by
 w_on;o_law;k_head;(case hw=>w_witness2)
 k_fill
 refine PL.zqD (l:=PySem.Challenge.rw_joinwood_k62_rows_as_texts) (k:=6) (FL:=Q62.fLaw) (x:="_law_script") rfl rfl ⟨rfl,by decide,by decide⟩ Q62.zmi (fun w h Y=>PySem.W.kIn_of Y) ?F Q62.zmk
 case F=>
  intro w mg fa h KX G hmg
  refine' Q62.all_mk KX G hmg ?a0 ?l0 ?c0 ?k0 ?a1 ?l1 ?c1 ?k1 ?a2 ?l2 ?c2 ?k2 ?a3 ?l3 ?c3 ?k3 ?a4 ?l4 ?c4 ?k4 ?a5 ?l5 ?c5 ?k5 ?a6 ?l6 ?c6 ?k6 ?a7 ?l7 ?c7 ?k7 ?a8 ?l8 ?c8 ?k8 ?a9 ?l9 ?c9 ?k9 ?a10 ?l10 ?c10 ?k10 ?a11 ?l11 ?c11 ?k11 ?a12 ?l12 ?c12 ?k12 ?a13 ?l13 ?c13 ?k13 ?a14 ?l14 ?c14 ?k14 ?a15 ?l15 ?c15 ?k15 ?a16 ?l16 ?c16 ?k16 ?a17 ?l17 ?c17 ?k17 ?z0 ?z1 ?z2 ?z3 ?z4 ?z5 ?z6 ?z7 ?z8 ?z9 ?z10 ?z11 ?z12 ?z13 ?z14 ?z15 ?z16 ?z17 ?z18 ?z19 ?z20 ?y0 ?y1 ?y2 ?y3 ?y4 ?y5 ?v0 ?es ?ex ?mx ?ej ?mj ?ga ?gt ?ca ?q0 ?q1 ?q2
  (case a0=>k_is)
  (case l0=>k_is)
  (case c0=>k_is)
  (case k0=>k_is)
  (case a1=>k_is)
  (case l1=>k_is)
  (case c1=>k_is)
  (case k1=>k_is)
  (case a2=>k_is)
  (case l2=>k_is)
  (case c2=>k_is)
  (case k2=>k_is)
  (case a3=>k_is)
  (case l3=>k_is)
  (case c3=>k_is)
  (case k3=>k_is)
  (case a4=>k_is)
  (case l4=>k_is)
  (case c4=>k_is)
  (case k4=>k_is)
  (case a5=>k_is)
  (case l5=>k_is)
  (case c5=>k_is)
  (case k5=>k_is)
  (case a6=>k_is)
  (case l6=>k_is)
  (case c6=>k_is)
  (case k6=>k_is)
  (case a7=>k_is)
  (case l7=>k_is)
  (case c7=>k_is)
  (case k7=>k_is)
  (case a8=>k_is)
  (case l8=>k_is)
  (case c8=>k_is)
  (case k8=>k_is)
  (case a9=>k_is)
  (case l9=>k_is)
  (case c9=>k_is)
  (case k9=>k_is)
  (case a10=>k_is)
  (case l10=>k_is)
  (case c10=>k_is)
  (case k10=>k_is)
  (case a11=>k_is)
  (case l11=>k_is)
  (case c11=>k_is)
  (case k11=>k_is)
  (case a12=>k_is)
  (case l12=>k_is)
  (case c12=>k_is)
  (case k12=>k_is)
  (case a13=>k_is)
  (case l13=>k_is)
  (case c13=>k_is)
  (case k13=>k_is)
  (case a14=>k_is)
  (case l14=>k_is)
  (case c14=>k_is)
  (case k14=>k_is)
  (case a15=>k_is)
  (case l15=>k_is)
  (case c15=>k_is)
  (case k15=>k_is)
  (case a16=>k_is)
  (case l16=>k_is)
  (case c16=>k_is)
  (case k16=>k_is)
  (case a17=>k_is)
  (case l17=>k_is)
  (case c17=>k_is)
  (case k17=>k_is)
  (case z0=>k_is)
  (case z1=>k_is)
  (case z2=>k_is)
  (case z3=>k_is)
  (case z4=>k_is)
  (case z5=>k_is)
  (case z6=>k_is)
  (case z7=>k_is)
  (case z8=>k_is)
  (case z9=>k_is)
  (case z10=>k_is)
  (case z11=>k_is)
  (case z12=>k_is)
  (case z13=>k_is)
  (case z14=>k_is)
  (case z15=>k_is)
  (case z16=>k_is)
  (case z17=>k_is)
  (case z18=>k_is)
  (case z19=>k_is)
  (case z20=>k_is)
  (case y0=>k_is)
  (case y1=>k_is)
  (case y2=>k_is)
  (case y3=>k_is)
  (case y4=>k_is)
  (case y5=>k_is)
  (case v0=>k_is)
  (case es=>first | k_is | k_exc | kit_is | kernel_rfl)
  (case ex=>first | k_is | k_exc | kit_is | kernel_rfl)
  (case mx=>first | k_is | k_exc | kit_is | kernel_rfl)
  (case ej=>first | k_is | k_exc | kit_is | kernel_rfl)
  (case mj=>first | k_is | k_exc | kit_is | kernel_rfl)
  (case ga=>first | k_is | k_exc | kit_is | kernel_rfl)
  (case gt=>first | k_is | k_exc | kit_is | kernel_rfl)
  (case ca=>first | k_is | k_exc | kit_is | kernel_rfl)
  (case q0=>first | k_is | k_exc | kit_is | kernel_rfl)
  (case q1=>first | k_is | k_exc | kit_is | kernel_rfl)
  (case q2=>first | k_is | k_exc | kit_is | kernel_rfl)
#print axioms PySem.Challenge.cw_joinwood_k62_rows_as_texts_holds
