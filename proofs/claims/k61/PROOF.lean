import PyProof.Rows.All
import Wide.All
import OpenK.AllK
import Wide.FinOn
import Lean
import PyProof.EqAt
import PyProof.EqKinds
import PyProof.TupleCall
import PyProof.NeKinds
import PyProof.AttrMissHeap
import PyProof.EnumMake
import PyProof.DictUpdate
import KE.KDictOf
import KE.KDictList
import PyProof.MaxThree
import PyProof.ListStr
import PyProof.ConsumeWalk
import PyProof.SliceStr2
import PyProof.StrBlockI
import PyProof.EnumStmt
import PyProof.ZipIter
import PyProof.Rows.CallKwBuiltin
import PyProof.Rows.SeqMore
import PyProof.Rows.SortRuns
import PyProof.Rows.SortPure
import PyProof.Rows.SortShell
import PyProof.Dict
import PyProof.TupleOfStr
import PyProof.Rows.StrRules
import PyProof.ExcBaseAll.ValueError
import PyProof.ExcArgsOwn
import PyProof.ExcAttrAll.ValueError
import KE.KIsAll
import PyProof.StrWalks
import PyProof.StrBlockH
import PyProof.Rows.CountFlat
import PyProof.Rows.StrItems
import PyProof.Rows.StrSplitAre
import KE.RegKIsAll
import PySem.Challenge.RW_joinwood_k61_questions_as_texts
set_option Elab.async false
set_option linter.all false
set_option maxRecDepth 100000
set_option maxHeartbeats 4000000
theorem aU0x (h:True:=by rfl):True:=h
abbrev aU0:Lean.Syntax:=aU0x._auto_1
theorem aU1x (h:True:=by decide):True:=h
abbrev aU1:Lean.Syntax:=aU1x._auto_1
theorem aU2x (h:True:=by first | exact zbU _ | rfl):True:=h
abbrev aU2:Lean.Syntax:=aU2x._auto_1
theorem aU3x (h:True:=by intro _;rfl):True:=h
abbrev aU3:Lean.Syntax:=aU3x._auto_1
theorem aU4x (h:True:=by first | exact .inl rfl | exact .inr rfl | assumption):True:=h
abbrev aU4:Lean.Syntax:=aU4x._auto_1
theorem aU5x (h:True:=by first | exact Or.inl rfl | exact Or.inr (Or.inl rfl) | exact Or.inr (Or.inr rfl)):True:=h
abbrev aU5:Lean.Syntax:=aU5x._auto_1
theorem aU6x (h:True:=by with_unfolding_all rfl):True:=h
abbrev aU6:Lean.Syntax:=aU6x._auto_1
theorem aU7x (h:True:=by exact λ_ _=>rfl):True:=h
abbrev aU7:Lean.Syntax:=aU7x._auto_1
theorem aU8x (h:True:=by exact⟨rfl,rfl,rfl,rfl⟩):True:=h
abbrev aU8:Lean.Syntax:=aU8x._auto_1
namespace L2
open PySem PySem.Spec PyProof.Rows
noncomputable abbrev Key:=Sum Int Str
noncomputable def zhP:Key->Value->Bool
 | .inl k,v=>Value.isInt k v
 | .inr x,v=>Value.isStrOf x v
noncomputable def keyH (w:World):Key->Int
 | .inl k=>hashInt k
 | .inr x=>hashStr w x
theorem zaE:∀ {k:Key}{v:Value},zhP k v=true->(∃i t,k=Sum.inl i/\v=Value.int i t)\/(∃x t,k=Sum.inr x/\v=Value.str x t)
 | .inl i,v,h=>by
  obtain⟨t,e⟩:=Value.isInt_shape (k:=i) (v:=v) h;exact .inl ⟨i,t,rfl,e⟩
 | .inr x,v,h=>by
  obtain⟨t,e⟩:=Value.isStrOf_shape (x:=x) (v:=v) h;exact .inr ⟨x,t,rfl,e⟩
theorem ziu (i:Int)(t:Tok):zhP (.inl i) (.int i t)=true:=by simp[zhP,Value.isInt]
theorem ziv (x:Str)(t:Tok):zhP (.inr x) (.str x t)=true:=by simp[zhP,Value.isStrOf]
theorem zmV (a b:Int):decide ((Sum.inl a:Key)=Sum.inl b)=(a == b):=by
 by_cases e:a=b
 ·subst e;simp
 ·have h:¬ (Sum.inl a:Key)=Sum.inl b:=λq=>e (Sum.inl.inj q);rw[decide_eq_false h];exact(beq_eq_false_iff_ne.mpr e).symm
theorem zmW (a b:Str):decide ((Sum.inr a:Key)=Sum.inr b)=decide (a=b):=by
 by_cases e:a=b
 ·subst e;simp
 ·have h:¬ (Sum.inr a:Key)=Sum.inr b:=λq=>e (Sum.inr.inj q);rw[decide_eq_false h,decide_eq_false e]
theorem zmX (a:Int)(b:Str):decide ((Sum.inl a:Key)=Sum.inr b)=false:=decide_eq_false (λq=>nomatch q)
theorem zmY (a:Str)(b:Int):decide ((Sum.inr a:Key)=Sum.inl b)=false:=decide_eq_false (λq=>nomatch q)
noncomputable def zaP (prog:Program)(w:World):PySem.KeyKind prog w Key where
 is:=zhP
 hash:=keyH w
 inj:=λv a b ha hb=>by
  rcases zaE ha with ⟨i,t,rfl,rfl⟩ | ⟨x,t,rfl,rfl⟩
  ·rcases zaE hb with ⟨j,u,rfl,e⟩ | ⟨y,u,rfl,e⟩
   ·injection e with e1 _;rw[e1]
   ·exact nomatch e
  ·rcases zaE hb with ⟨j,u,rfl,e⟩ | ⟨y,u,rfl,e⟩
   ·exact nomatch e
   ·injection e with e1 _;rw[e1]
 byValue:=λk v h=>by
  rcases zaE h with ⟨i,t,rfl,rfl⟩ | ⟨x,t,rfl,rfl⟩<;>rfl
 pyHash:=λhv h=>by
  rcases zaE hv with ⟨i,t,rfl,rfl⟩ | ⟨x,t,rfl,rfl⟩
  ·exact wpAny_pyHash_int h
  ·exact wpAny_pyHash_str h
 eqBool:=λhu hv h=>by
  rcases zaE hu with ⟨i,t,rfl,rfl⟩ | ⟨x,t,rfl,rfl⟩
  ·rcases zaE hv with ⟨j,u,rfl,rfl⟩ | ⟨y,u,rfl,rfl⟩
   ·rw[zmV]at h;exact wpAny_eqBool_int h
   ·rw[zmX]at h;exact SeqAt.EqAt.int_str i t y u _ _ _ _ h
  ·rcases zaE hv with ⟨j,u,rfl,rfl⟩ | ⟨y,u,rfl,rfl⟩
   ·rw[zmY]at h;exact SeqAt.EqAt.str_int x t j u _ _ _ _ h
   ·rw[zmW]at h;exact wpAny_eqBool_str h
 «strs»:=λk x t v h=>by
  rcases zaE h with ⟨i,u,rfl,e⟩ | ⟨y,u,rfl,e⟩
  ·exact nomatch e
  ·injection e with e1 _;subst e1;cases v<;>rfl
theorem zgu (prog:Program)(w:World)(i:Int)(t:Tok):(zaP prog w).is (.inl i) (.int i t)=true:=ziu i t
theorem zgv (prog:Program)(w:World)(x:Str)(t:Tok):(zaP prog w).is (.inr x) (.str x t)=true:=ziv x t
inductive V where
 | non | bl (b:Bool) | int (i:Int) | str (x:Str) | byt (b:Array UInt8) | flt (b:UInt64) | ref (a:Addr) | ty (n:String)
 deriving DecidableEq
noncomputable def RelV:V->Value->Prop
 | .non,u=>u=Value.none
 | .bl b,u=>u=Value.bool b
 | .int i,u=>∃t,u=Value.int i t
 | .str x,u=>∃t,u=Value.str x t
 | .byt b,u=>∃t,u=Value.bytes b t
 | .flt b,u=>∃t,u=Value.float b t
 | .ref a,u=>u=Value.ref a
 | .ty n,u=>u=Value.type n
noncomputable abbrev Vals:List V->List Value->Prop:=Paired RelV
theorem Vals.length {xs:List V}{us:List Value}(r:Vals xs us):xs.length=us.length:=Paired.length r
theorem Vals.get:∀ {xs:List V}{us:List Value}{i:Nat}{x:V},Vals xs us->xs[i]? = some x->∃u,us[i]? = some u/\RelV x u
 | _,_,_,_,.nil,e=>by simp at e
 | _,_,0,_,.cons r _,e=>by simp at e;subst e;exact⟨_,rfl,r⟩
 | _,_,i+1,x,.cons _ t,e=>by
  obtain⟨u,h1,h2⟩:=Vals.get (i:=i) (x:=x) t (by simpa using e);exact⟨u,by simpa using h1,h2⟩
theorem Vals.append:∀ {xs ys:List V}{us ws:List Value},Vals xs us->Vals ys ws->Vals (xs++ys) (us++ws):=by
 intro xs ys us ws h s;induction h with
 | nil=>exact s
 | cons r t ih=>exact .cons r ih
theorem Vals.take:∀ {xs:List V}{us:List Value}(n:Nat),Vals xs us->Vals (xs.take n) (us.take n)
 | _,_,0,_=>.nil
 | _,_,_+1,.nil=>.nil
 | _,_,n+1,.cons r t=>.cons r (Vals.take n t)
theorem Vals.drop:∀ {xs:List V}{us:List Value}(n:Nat),Vals xs us->Vals (xs.drop n) (us.drop n)
 | _,_,0,r=>r
 | _,_,_+1,.nil=>.nil
 | _,_,n+1,.cons _ t=>Vals.drop n t
noncomputable def RelO:Option V->Option Value->Prop
 | some v,some u=>RelV v u
 | none,none=>True
 | _,_=>False
noncomputable def KV {κ:Type}:List (κ×V)->List (κ×Value)->Prop:=Paired λ(p:κ×V)(q:κ×Value)=>p.1=q.1/\RelV p.2 q.2
noncomputable def kV:Key->V
 | .inl i=>.int i
 | .inr x=>.str x
inductive HO where
  | lst (xs:List V)
  | tup (xs:List V)
  | dK (kvs:List (Key×V)) | dT (kvs:List (List Key×V))
  | set (S:Int->Bool) (n:Nat)
  | ins (C dx:Addr) (fs:List (Str×V))
  | own (x:Addr)
  | xd (fs:List (Str×V))
  | met (f x:Addr)
  | rng (lo hi:Int)
  | frz (o:Obj) (u:HO)
  | tbl (ps:Array Value)
  | ext (φ:Heap->Prop)
noncomputable abbrev Hp:=Addr->Option HO
noncomputable def upd (H:Hp)(a:Addr)(o:HO):Hp:=λb=>if b=a then some o else H b
theorem zam {H:Hp}{a:Addr}{o:HO}:upd H a o a=some o:=by unfold upd;rw[if_pos rfl]
theorem zap {H:Hp}{a b:Addr}{o:HO}(h:b≠a):upd H a o b=H b:=by unfold upd;rw[if_neg h]
theorem zov {H:Hp}{a b:Addr}{o u:HO}(h:H a=some o)(h':H b=some u)(d:o≠u):a≠b:=by
 intro e;subst e;rw[h]at h';exact d (Option.some.inj h')
theorem zaC {H:Hp}{a b:Addr}{o:HO}(h:H a=some o)(h':H b=none):a≠b:=by
 intro e;subst e;rw[h]at h';cases h'
noncomputable def zcD (h:Heap)(a:Addr)(its:Array Value):Prop:=∃o,h.get? a=some o/\o.cls=.type "tuple"/\(∃n,o.data=.seq its n)/\o.dict=none
theorem zcD.tup {h:Heap}{a:Addr}{its:Array Value}(p:zcD h a its):IsTup h a its:=by obtain⟨o,e,c,⟨n,d⟩,_⟩:=p;exact⟨o,e,c,n,d⟩
theorem zcD.lt {h:Heap}{a:Addr}{its:Array Value}(p:zcD h a its):a<h.objs.size:=p.tup.lt
theorem zcD.new (h:Heap)(items:Array Value):zcD (h.push { cls:=.type "tuple",data:=.seq items }) h.objs.size items:=⟨_,Heap.get?_push_size _ rfl,rfl,⟨_,rfl⟩,rfl⟩
section
variable (P:Program)(w:World)
noncomputable def zbj (H:Hp)(h:Heap)(a:Addr):HO->Prop
 | .lst xs=>xs.length<=sizeLine/\∃(its:List Value) (n:Nat),Vals xs its/\h.get? a=some { cls:=.type "list",data:=.seq its.toArray n }
 | .tup xs=>xs.length<=sizeLine/\∃its:List Value,Vals xs its/\zcD h a its.toArray
 | .dK kvs=>kvs.length<=sizeLine/\(a == sysModules)=false/\∃vs,KV kvs vs/\h.DictOf (zaP P w) a vs
 | .dT kvs=>kvs.length<=sizeLine/\(a == sysModules)=false/\∃xs:List (List Key×Addr×Value),
   Paired (λ(p:List Key×V) (q:List Key×Addr×Value)=>p.1=q.1/\H q.2.1=some (.tup (p.1.map kV))/\RelV p.2 q.2.2) kvs xs/\
   ∃o es ep,h.get? a=some o/\o.ExactDict/\o.data=.dict es ep/\es.toList=xs.map (entryOfKey (tupleKind (zaP P w)))/\(xs.map (·.1)).Nodup
 | .set S n=>h.SetOf (intKind P w) a S n
 | .ins C dx fs=>H dx=some (.own a)/\fs.length<=1000/\dx≠a/\h.get? a=some (PySem.W.instObj C dx)/\
   ∃mA,h.Ns1 dx mA/\(∀f,RelO (fs.lookup f) (mA f))/\PySem.Within mA (fs.map (·.1))
 | .own _=>∃o,h.get? a=some o
 | .xd fs=>∃mA,h.Ns1 a mA/\∀f,RelO (fs.lookup f) (mA f)
 | .rng lo hi=>∃t u v,h.get? a=some { cls:=.type "range",data:=.fields #[.int lo t,.int hi u,.int 1 v] }
 | .frz o u=>h.get? a=some o/\zbj H h a u
 | .tbl ps=>h.get? a=some { cls:=.none,data:=.fields ps }
 | .met f x=>h.get? a=some (PySem.W.methodObj (.ref f) (.ref x))
 | .ext φ=>φ h/\(∃o,h.get? a=some o)/\∀h1 h2:Heap,φ h1->(∀o,h1.get? a=some o->h2.get? a=some o)->φ h2
noncomputable def HOk (H:Hp)(h:Heap):Prop:=∀a o,H a=some o->zbj P w H h a o
end
section
variable {P:Program}{w:World}{H H':Hp}{h h':Heap}{a:Addr}{o:HO}
theorem zbj.lt (x:zbj P w H h a o):a<h.objs.size:=by
 cases o with
 | lst xs=>obtain⟨_,_,_,_,e⟩:=x;exact Heap.lt_size e
 | tup xs=>obtain⟨_,_,_,p⟩:=x;exact p.lt
 | dK kvs=>obtain⟨_,_,_,_,o,_,_,e,_⟩:=x;exact Heap.lt_size e
 | dT kvs=>obtain⟨_,_,_,_,o,_,_,e,_⟩:=x;exact Heap.lt_size e
 | set S n=>obtain⟨o,_,_,_,e,_⟩:=x;exact Heap.lt_size e
 | ins C dx fs=>obtain⟨_,_,_,e,_⟩:=x;exact Heap.lt_size e
 | own y=>obtain⟨_,e⟩:=x;exact Heap.lt_size e
 | xd fs=>obtain⟨_,⟨_,_,_,e,_⟩,_⟩:=x;exact Heap.lt_size e
 | rng lo hi=>obtain⟨_,_,_,e⟩:=x;exact Heap.lt_size e
 | frz ob u=>obtain⟨e,_⟩:=x;exact Heap.lt_size e
 | tbl ps=>exact Heap.lt_size (show h.get? a=some _ from x)
 | met f y=>exact Heap.lt_size (show h.get? a=some _ from x)
 | ext φ=>obtain⟨_,⟨_,e⟩,_⟩:=x;exact Heap.lt_size e
theorem Paired.mapP {α β:Type}{F G:α->β->Prop}:∀ {l₁:List α}{l₂:List β},Paired F l₁ l₂->(∀a b,F a b->G a b)->Paired G l₁ l₂:=by
 intro l₁ l₂ h f;induction h with
 | nil=>exact .nil
 | cons r t ih=>exact .cons (f _ _ r) ih
theorem zbj.stay (x:zbj P w H h a o)(k:∀b u,(b=a\/H b=some (.own a))->h.get? b=some u->h'.get? b=some u)
  (ho:∀b,H b=some (.own a)->H' b=some (.own a)) (ht:∀b xs,H b=some (.tup xs)->H' b=some (.tup xs)):zbj P w H' h' a o:=by
 induction o with
 | lst xs=>obtain⟨z,its,n,r,e⟩:=x;exact⟨z,its,n,r,k _ _ (.inl rfl) e⟩
 | tup xs=>obtain⟨z,its,r,ob,e,c⟩:=x;exact⟨z,its,r,ob,k _ _ (.inl rfl) e,c⟩
 | dK kvs=>obtain⟨z,y,vs,r,ob,es,ep,e,c⟩:=x;exact⟨z,y,vs,r,ob,es,ep,k _ _ (.inl rfl) e,c⟩
 | dT kvs=>
  obtain⟨z,y,xs,r,ob,es,ep,e,c⟩:=x;exact⟨z,y,xs,Paired.mapP r λp q z=>⟨z.1,ht _ _ z.2.1,z.2.2⟩,ob,es,ep,k _ _ (.inl rfl) e,c⟩
 | set S n=>obtain⟨ob,es,ep,t,e,c⟩:=x;exact⟨ob,es,ep,t,k _ _ (.inl rfl) e,c⟩
 | ins C dx fs=>
  obtain⟨d,z,ne,e,mA,⟨od,es,ep,e2,c⟩,r⟩:=x;exact⟨ho _ d,z,ne,k _ _ (.inl rfl) e,mA,⟨od,es,ep,k _ _ (.inr d) e2,c⟩,r⟩
 | own y=>obtain⟨ob,e⟩:=x;exact⟨ob,k _ _ (.inl rfl) e⟩
 | xd fs=>obtain⟨mA,⟨od,es,ep,e,c⟩,r⟩:=x;exact⟨mA,⟨od,es,ep,k _ _ (.inl rfl) e,c⟩,r⟩
 | rng lo hi=>obtain⟨t,u,v,e⟩:=x;exact⟨t,u,v,k _ _ (.inl rfl) e⟩
 | frz ob u ih=>obtain⟨e,q⟩:=x;exact⟨k _ _ (.inl rfl) e,ih q⟩
 | tbl ps=>
  have e:h.get? a=some { cls:=.none,data:=.fields ps }:=x;show h'.get? a=some { cls:=.none,data:=.fields ps };exact k a _ (.inl rfl) e
 | met f y=>
  have e:h.get? a=some (PySem.W.methodObj (.ref f) (.ref y)):=x;show h'.get? a=some (PySem.W.methodObj (.ref f) (.ref y));exact k a _ (.inl rfl) e
 | ext φ=>obtain⟨p,⟨o,e⟩,st⟩:=x;exact⟨st _ _ p λo q=>k _ _ (.inl rfl) q,⟨o,k _ _ (.inl rfl) e⟩,st⟩
theorem HOk.lt (x:HOk P w H h)(e:H a=some o):a<h.objs.size:=(x a o e).lt
theorem HOk.fresh (x:HOk P w H h)(e:h.objs.size<=a):H a=none:=by
 cases q:H a with
 | none=>rfl
 | some u=>exact absurd (Nat.lt_of_lt_of_le (x.lt q) e) (Nat.lt_irrefl _)
theorem HOk.kept (x:HOk P w H h)(k:∀b u,h.get? b=some u->h'.get? b=some u):HOk P w H h':=λa o e=>
 (x a o e).stay (λb u _ q=>k b u q) (λ_ q=>q) λ_ _ q=>q
theorem HOk.laid (x:HOk P w H h)(k:∀b u,h.get? b=some u->h'.get? b=some u)(hp:h.objs.size<=a)(new:zbj P w (upd H a o) h' a o):HOk P w (upd H a o) h':=λb u e=>by
 have hn:=x.fresh hp;by_cases hb:b=a
 ·subst hb;rw[zam]at e;cases e;exact new
 ·rw[zap hb]at e;exact(x b u e).stay (λc v _ q=>k c v q) (λc q=>by rw[zap (zaC q hn)];exact q) λc xs q=>by rw[zap (zaC q hn)];exact q
end
noncomputable def Rd (H:Hp)(a:Addr)(u:HO):Prop:=H a=some u\/∃o,H a=some (.frz o u)
theorem Rd.ok {P:Program}{w:World}{H:Hp}{h:Heap}{a:Addr}{u:HO}(r:Rd H a u)(x:HOk P w H h):zbj P w H h a u:=by
 rcases r with r | ⟨o,r⟩
 ·exact x a u r
 ·obtain⟨_,q⟩:=x a _ r;exact q
noncomputable def Mut:Option HO->Prop
 | some (.lst _)=>True
 | some (.dK _)=>True
 | some (.dT _)=>True
 | some (.set _ _)=>True
 | some (.ins _ _ _)=>True
 | some (.ext _)=>True
 | _=>False
section
variable {P:Program}{w:World}{H:Hp}{h h':Heap}{x e:Addr}{o':HO}
theorem HOk.write (ok:HOk P w H h)(mu:Mut (H x))(he:e=x\/H e=some (.own x))(k:∀b u,b≠e->h.get? b=some u->h'.get? b=some u)(heo:∃u,h'.get? e=some u)
  (new:zbj P w (upd H x o') h' x o'):HOk P w (upd H x o') h':=λb u q=>by
 have nown:∀c y,H c=some (.own y)->c≠x:=λc y r z=>by subst z;rw[r]at mu;exact mu
 have ntup:∀c xs,H c=some (.tup xs)->c≠x:=λc xs r z=>by subst z;rw[r]at mu;exact mu
 by_cases hb:b=x
 ·subst hb;rw[zam]at q;cases q;exact new
 ·rw[zap hb]at q;by_cases hbe:b=e
  ·have q':H b=some (.own x):=by
    rcases he with z | z
    ·exact absurd (hbe.trans z) hb
    ·rw[hbe];exact z
   rw[q]at q';cases q';obtain⟨v,hv⟩:=heo;exact⟨v,by rw[hbe];exact hv⟩
  ·refine(ok b u q).stay (λc v hc r=>k c v ?_ r) (λc r=>by rw[zap (nown c b r)];exact r) λc xs r=>by rw[zap (ntup c xs r)];exact r
   rcases hc with rfl | hc
   ·exact hbe
   ·rintro rfl;rcases he with z | z
    ·exact nown c b hc z
    ·rw[hc]at z;cases z;exact hb rfl
end
structure Un (fs ex:List Addr)(H H':Hp)(h h':Heap):Prop where
 keep:∀b o,h.get? b=some o->H b=none->b∉fs->b∉ex->h'.get? b=some o
 slot:∀b o,h.get? b=some o->H b=none->b∈fs->b∉ex->∃sl,h'.get? b=some { o with slots:=sl }
 free:∀b o,h.get? b=some o->H b=none->b∉ex->H' b=none
 there:∀b o,h.get? b=some o->b∉ex->∃o',h'.get? b=some o'
 tups:∀b xs,H b=some (.tup xs)->H' b=some (.tup xs)
 frzs:∀b o u,H b=some (.frz o u)->H' b=some (.frz o u)
 tbls:∀b ps,H b=some (.tbl ps)->∃more,H' b=some (.tbl (ps++more))
section
variable {fs fs' ex ex':List Addr}{H H1 H2:Hp}{h h1 h2 h':Heap}{a x e:Addr}{o:HO}
theorem Un.any (u:Un fs ex H H1 h h1){b:Addr}{ob:Obj}(q:h.get? b=some ob)(n:H b=none)(hx:b∉ex):∃sl,h1.get? b=some { ob with slots:=sl }:=by
 by_cases hb:b∈fs
 ·exact u.slot b ob q n hb hx
 ·exact⟨ob.slots,u.keep b ob q n hb hx⟩
theorem Un.trans (a:Un fs ex H H1 h h1)(b:Un fs ex H1 H2 h1 h2):Un fs ex H H2 h h2 where
 keep:=λc ob q n hc hx=>b.keep c ob (a.keep c ob q n hc hx) (a.free c ob q n hx) hc hx
 slot:=λc ob q n hc hx=>by
  obtain⟨sl,e1⟩:=a.slot c ob q n hc hx;obtain⟨sl',e2⟩:=b.slot c _ e1 (a.free c ob q n hx) hc hx;exact⟨sl',e2⟩
 free:=λc ob q n hx=>by
  obtain⟨o',e1⟩:=a.there c ob q hx;exact b.free c o' e1 (a.free c ob q n hx) hx
 there:=λc ob q hx=>by
  obtain⟨o',e1⟩:=a.there c ob q hx;exact b.there c o' e1 hx
 tups:=λc xs q=>b.tups c xs (a.tups c xs q)
 frzs:=λc ob xs q=>b.frzs c ob xs (a.frzs c ob xs q)
 tbls:=λc ps q=>by
  obtain⟨m1,e1⟩:=a.tbls c ps q;obtain⟨m2,e2⟩:=b.tbls c _ e1;exact⟨m1++m2,by rw[e2,Array.append_assoc]⟩
theorem Un.kept (k:∀b u,h.get? b=some u->h'.get? b=some u):Un fs ex H H h h':=
 ⟨λb ob q _ _ _=>k b ob q,λb ob q _ _ _=>⟨ob.slots,k b ob q⟩,λ_ _ _ n _=>n,λb ob q _=>⟨ob,k b ob q⟩,λ_ _ q=>q,λ_ _ _ q=>q,λ_ ps q=>⟨#[],by rw[q];simp⟩⟩
theorem Un.refl:Un fs ex H H h h:=Un.kept λ_ _ q=>q
theorem Un.laid (k:∀b u,h.get? b=some u->h'.get? b=some u)(hp:h.objs.size<=a)(hn:H a=none):Un fs ex H (upd H a o) h h' where
 keep:=λb u q _ _ _=>k b u q
 slot:=λb u q _ _ _=>⟨u.slots,k b u q⟩
 free:=λb u q n _=>by rw[zap (Nat.ne_of_lt (Nat.lt_of_lt_of_le (Heap.lt_size q) hp))];exact n
 there:=λb u q _=>⟨u,k b u q⟩
 tups:=λb xs q=>by rw[zap (zaC q hn)];exact q
 frzs:=λb u xs q=>by rw[zap (zaC q hn)];exact q
 tbls:=λb ps q=>⟨#[],by rw[zap (zaC q hn),q];simp⟩
theorem Un.write (mu:Mut (H x))(he:e=x\/H e=some (.own x))(k:∀b u,b≠e->h.get? b=some u->h'.get? b=some u)(heo:∃u,h'.get? e=some u):Un fs ex H (upd H x o) h h':=by
 have hx:∀b,H b=none->b≠x:=λb n z=>by subst z;rw[n]at mu;exact mu
 have hb:∀b,H b=none->b≠e:=λb n z=>by
  subst z;rcases he with r | r
  ·exact hx b n r
  ·rw[n]at r;cases r
 have hm:∀b u,H b=some u->¬ Mut (some u)->b≠x:=λb u q nm z=>by subst z;rw[q]at mu;exact nm mu
 refine⟨λb u q n _ _=>k b u (hb b n) q,λb u q n _ _=>⟨u.slots,k b u (hb b n) q⟩,λb u q n _=>by rw[zap (hx b n)];exact n,λb u q _=>?_,
  λb xs q=>by rw[zap (hm b _ q λz=>z)];exact q,λb u xs q=>by rw[zap (hm b _ q λz=>z)];exact q,λb ps q=>⟨#[],by rw[zap (hm b _ q λz=>z),q];simp⟩⟩
 by_cases hbe:b=e
 ·subst hbe;exact heo
 ·exact⟨u,k b u hbe q⟩
theorem Un.mono (u:Un fs ex H H1 h h1)(hs:∀b∈fs,b∈fs')(hx:∀b∈ex,b∈ex'):Un fs' ex' H H1 h h1:=
 ⟨λb ob q n hb he=>u.keep b ob q n (λz=>hb (hs b z)) λz=>he (hx b z),λ_ _ q n _ he=>u.any q n λz=>he (hx _ z),λb ob q n he=>u.free b ob q n λz=>he (hx b z),λb ob q he=>u.there b ob q λz=>he (hx b z),u.tups,u.frzs,u.tbls⟩
end
noncomputable def trk (h:Heap)(H:Hp):List Addr:=(List.range h.objs.size).filter λa=>(H a).isSome
noncomputable def hidT (h:Heap)(H:Hp):Heap:=PySem.W.hideAll h (trk h H)
theorem ziw (h:Heap)(H:Hp):(hidT h H).objs.size=h.objs.size:=PySem.W.hideAll_size _ _
theorem zke {h:Heap}{H:Hp}{b:Addr}{o:Obj}(e:h.get? b=some o)(n:H b=none):(hidT h H).get? b=some o:=
 PySem.W.hideAll_get _ e λhm=>by
  have q:(H b).isSome=true:=(List.mem_filter.mp hm).2;rw[n]at q;simp at q
theorem zlL {h:Heap}{H:Hp}{b:Addr}{o:Obj}(e:(hidT h H).get? b=some o):h.get? b=some o/\H b=none:=by
 have e':h.get? b=some o:=PySem.W.of_hideAll (trk h H) e;refine⟨e',?_⟩;cases q:H b with
 | none=>rfl
 | some x=>
  have hm:b∈trk h H:=List.mem_filter.mpr ⟨List.mem_range.mpr (Heap.lt_size e'),by simp[q]⟩;have z:(hidT h H).get? b=none:=PySem.W.hideAll_none (trk h H) hm;rw[z]at e;cases e
noncomputable def zlM (g h:Heap)(L:Addr):List (Addr×Obj):=(List.range h.objs.size).filterMap λa=>if a=L\/(g.get? a).isSome=true then none else(h.get? a).map λo=>(a,o)
noncomputable def rest (g h:Heap)(L d:Addr):List (Addr×Obj):=(zlM g h L).filter λp=>decide (p.1≠d)
structure Mod (K:PySem.W.Frag)(mg:Str->Option Value)(base:Heap):Prop where
 kin:K.In base
 glob:base.Ns mainGlobals mg
 blt:∃mb,base.Ns builtinsNs mb/\∀x:Str,x≠"__name__"->mb x=bootBuiltins x
 nolimit:base.NoLimit
structure Cx where
 prog:Program
 w:World
 K:PySem.W.Frag
 mg:Str->Option Value
 base:Heap
 A:Around
 N:List Str
 s₀:Shared
 H₀:Hp
 env:Env
 outer:List Env
 stack:List Env
 ex:List Addr
 fn:Str->Bool
 calm:Bool
 pn:List (Addr×Obj)
 xe:Value->Shared->Prop
noncomputable def frs (l:List Env):List Addr:=l.filterMap (·.frame)
noncomputable abbrev Cx.fs (X:Cx):List Addr:=frs X.outer
noncomputable def Vis (sc:Scope)(x:Str):Prop:=sc.names.lookup x=some .local\/sc.names.lookup x=some .cell\/sc.names.lookup x=some .free
noncomputable def Loc (sc:Scope)(x:Str):Prop:=sc.names.lookup x=some .local\/sc.names.lookup x=some .cell
noncomputable def Look (env:Env)(h:Heap)(m:Str->Option Value)(x:Str)(u:Value):Prop:=
 (env.kindOf x=some .local/\m x=some u)\/((env.kindOf x=some .cell\/env.kindOf x=some .free)/\∃c,env.cells.lookup x=some c/\h.IsCell c (some u))
structure Cx.Ok (X:Cx):Prop where
 mod:Mod X.K X.mg X.base
 kind:X.env.scope.kind=.function
 glob:X.env.globals=mainGlobals
 blt:X.env.builtins=builtinsNs
 above:X.s₀.heap.objs.size<=X.env.locals
 inj:∀x y c,X.env.cells.lookup x=some c->X.env.cells.lookup y=some c->x=y
 has:∀x,(X.env.kindOf x=some .cell\/X.env.kindOf x=some .free)->∃c,X.env.cells.lookup x=some c
 cab:∀x c,X.fn x=true->X.env.cells.lookup x=some c->X.s₀.heap.objs.size<=c
 hd:X.calm=true->X.A.handled=none
 frames:X.A.frames=some X.stack
 stk:X.stack=X.outer\/(X.stack=X.env::X.outer/\X.env.frame=some X.env.locals)
 exf:∀b∈X.ex,b≠X.env.locals/\∀x c,X.env.cells.lookup x=some c->c≠b
 bs:∀b o,X.base.get? b=some o->X.s₀.heap.get? b=some o/\X.H₀ b=none
 bsz:X.base.objs.size<=X.s₀.heap.objs.size
 noex:∀b o,X.base.get? b=some o->b∉X.ex
 exfs:∀b∈X.ex,b∉X.fs
 funs:X.s₀.heap.FunFrames X.base X.outer
 frf:∀b∈X.fs,X.H₀ b=none
structure Inv (X:Cx)(pins:List (Addr×Obj))(σ:List (Option V))(H:Hp)(s:Shared):Prop where
 ok:X.Ok
 os:s.os=X.s₀.os
 bare:AllBare s.gens
 base:Un X.fs X.ex X.H₀ H X.s₀.heap s.heap
 loc:∃m,s.heap.Ns X.env.locals m/\∀(i:Nat) (x:Str) (v:V),X.N[i]? = some x->σ[i]? = some (some v)->Vis X.env.scope x->∃u,RelV v u/\Look X.env s.heap m x u
 cell:∀x c,X.env.cells.lookup x=some c->∃v,s.heap.IsCell c v
 free:H X.env.locals=none
 freeC:∀x c,X.env.cells.lookup x=some c->H c=none
 pin:∀p∈X.pn++pins,s.heap.get? p.1=some p.2/\H p.1=none/\p.1≠X.env.locals/\p.1∉X.fs/\∀v,p.2.data≠.cell v
 hok:HOk X.prog X.w H s.heap
 len:σ.length=X.N.length
section
variable {X:Cx}{pins:List (Addr×Obj)}{σ:List (Option V)}{H H':Hp}{s:Shared}{h':Heap}
theorem Cx.Ok.nofr (ok:X.Ok){b:Addr}{o:Obj}(e:X.base.get? b=some o):b∉X.fs:=λhb=>by
 have:=(ok.funs.mem hb).1;rw[e]at this;cases this
theorem Inv.bs (I:Inv X pins σ H s):∀b o,X.base.get? b=some o->s.heap.get? b=some o/\H b=none:=λb o e=>
 ⟨I.base.keep b o (I.ok.bs b o e).1 (I.ok.bs b o e).2 (I.ok.nofr e) (I.ok.noex b o e),I.base.free b o (I.ok.bs b o e).1 (I.ok.bs b o e).2 (I.ok.noex b o e)⟩
theorem Inv.bk (I:Inv X pins σ H s):∀b o,X.base.get? b=some o->s.heap.get? b=some o:=λb o e=>(I.bs b o e).1
theorem Inv.mod (I:Inv X pins σ H s):Mod X.K X.mg X.base:=I.ok.mod
theorem Inv.kIn (I:Inv X pins σ H s):X.K.In s.heap:=I.ok.mod.kin.keeps I.bk
theorem Inv.lt (I:Inv X pins σ H s):X.env.locals<s.heap.objs.size:=let ⟨_,hn,_⟩:=I.loc;hn.lt
theorem Inv.sz (I:Inv X pins σ H s):X.s₀.heap.objs.size<=s.heap.objs.size:=Nat.le_trans I.ok.above (Nat.le_of_lt I.lt)
theorem Inv.nofs (I:Inv X pins σ H s){a:Addr}(h:s.heap.objs.size<=a):a∉X.fs:=λhb=>by
 obtain⟨_,o,ho,_⟩:=I.ok.funs.mem hb;exact absurd (Nat.lt_of_lt_of_le (Heap.lt_size ho) (Nat.le_trans I.sz h)) (Nat.lt_irrefl _)
theorem Inv.cne (I:Inv X pins σ H s):∀x c,X.env.cells.lookup x=some c->c≠X.env.locals:=λx c e z=>by
 obtain⟨v,o,ho,hd⟩:=I.cell x c e;obtain⟨m,⟨o',es,ep,ho',hd',_⟩,_⟩:=I.loc;rw[z,ho']at ho;cases ho;rw[hd']at hd;cases hd
theorem Inv.funs (I:Inv X pins σ H s):s.heap.FunFrames X.base X.outer:=by
 have all:∀(l:List Env),(∀b∈frs l,b∈X.fs)->X.s₀.heap.FunFrames X.base l->s.heap.FunFrames X.base l:=by
  intro l;induction l with
  | nil=>intro _ _;trivial
  | cons env r ih=>
   intro hs hl;obtain⟨hk,⟨L,o,hf,hn,ho,hd⟩,hr⟩:=hl;have hL:L∈X.fs:=hs L (by unfold frs;rw[List.filterMap_cons,hf];exact List.mem_cons_self);obtain⟨sl,e⟩:=I.base.slot L o ho (I.ok.frf L hL) hL λz=>I.ok.exfs L z hL;exact⟨hk,⟨L,_,hf,hn,e,hd⟩,ih (λb hb=>hs b (by unfold frs;rw[List.filterMap_cons,hf];exact List.mem_cons_of_mem _ hb)) hr⟩
 exact all X.outer (λ_ hb=>hb) I.ok.funs
theorem Inv.stack (I:Inv X pins σ H s):s.heap.FunFrames X.base X.stack:=by
 rcases I.ok.stk with e | ⟨e,hf⟩
 ·rw[e];exact I.funs
 ·rw[e];obtain⟨m,hn,_⟩:=I.loc;refine .cons (by rw[I.ok.kind];decide) hf hn ?_ I.funs;exact Heap.get?_none_of_le (Nat.le_trans I.ok.bsz I.ok.above)
theorem Inv.zix (I:Inv X pins σ H s):∀b∈frs X.stack,b∈X.env.locals::X.fs:=λb hb=>by
 rcases I.ok.stk with e | ⟨e,hf⟩
 ·rw[e]at hb;exact List.mem_cons_of_mem _ hb
 ·rw[e]at hb;unfold frs at hb;rw[List.filterMap_cons,hf]at hb;exact hb
theorem Inv.zgw (I:Inv X pins σ H s):∀b∈frs X.stack,H b=none:=λb hb=>by
 rcases List.mem_cons.mp (I.zix b hb)with e | hb
 ·rw[e];exact I.free
 ·obtain⟨_,o,ho,_⟩:=I.ok.funs.mem hb;exact I.base.free b o ho (I.ok.frf b hb) λz=>I.ok.exfs b z hb
theorem Inv.step {g':Array GenState}{t':Nat}{d':Drawn}{ch:List Addr}(I:Inv X pins σ H s)
  (hch:∀b∈ch,(b∈X.ex\/X.s₀.heap.objs.size<=b)/\b≠X.env.locals/\(∀x c,X.env.cells.lookup x=some c->c≠b)/\∀p∈X.pn++pins,p.1≠b)
  (keep:∀b o,b≠X.env.locals->b∉X.fs->b∉ch->s.heap.get? b=some o->H b=none->h'.get? b=some o)
  (slot:∀b o,b≠X.env.locals->b∈X.fs->b∉ch->s.heap.get? b=some o->H b=none->∃sl,h'.get? b=some { o with slots:=sl }) (free:∀b o,b∉ch->s.heap.get? b=some o->H b=none->H' b=none)
  (there:∀b o,b∉ch->s.heap.get? b=some o->∃o',h'.get? b=some o')
  (tups:∀b xs,H b=some (.tup xs)->H' b=some (.tup xs)) (frzs:∀b o u,H b=some (.frz o u)->H' b=some (.frz o u)) (tbls:∀b ps,H b=some (.tbl ps)->∃more,H' b=some (.tbl (ps++more)))
  (ns:∀m,s.heap.Ns X.env.locals m->h'.Ns X.env.locals m) (hok:HOk X.prog X.w H' h') (hg:AllBare g') :
  Inv X pins σ H' { s with heap:=h',gens:=g',drawn:=d',toks:=t' }:=by
 have neL:∀b o,X.s₀.heap.get? b=some o->b≠X.env.locals:=λb o e=>Nat.ne_of_lt (Nat.lt_of_lt_of_le (Heap.lt_size e) I.ok.above);have neC:∀b o,X.s₀.heap.get? b=some o->b∉X.ex->b∉ch:=λb o e hx hb=>by
  rcases(hch b hb).1 with z | z
  ·exact hx z
  ·exact absurd (Nat.lt_of_lt_of_le (Heap.lt_size e) z) (Nat.lt_irrefl _)
 have cellK:∀x c,X.env.cells.lookup x=some c->∀v,s.heap.IsCell c v->h'.IsCell c v:=λx c e v ⟨o,ho,hd⟩=>by
  have nch:c∉ch:=λz=>(hch c z).2.2.1 x c e rfl;by_cases hc:c∈X.fs
  ·obtain⟨sl,q⟩:=slot c o (I.cne x c e) hc nch ho (I.freeC x c e);exact⟨_,q,hd⟩
  ·exact⟨o,keep c o (I.cne x c e) hc nch ho (I.freeC x c e),hd⟩
 refine⟨I.ok,I.os,hg,⟨λb o e n hb hx=>?_,λb o e n hb hx=>?_,λb o e n hx=>?_,λb o e hx=>?_,λb xs e=>tups b xs (I.base.tups b xs e),λb o xs e=>frzs b o xs (I.base.frzs b o xs e),λb ps e=>?_⟩,?_,λx c e=>?_,?_,λx c e=>?_,λp hp=>?_,hok,I.len⟩
 ·exact keep b o (neL b o e) hb (neC b o e hx) (I.base.keep b o e n hb hx) (I.base.free b o e n hx)
 ·obtain⟨sl,e1⟩:=I.base.slot b o e n hb hx;obtain⟨sl',e2⟩:=slot b _ (neL b o e) hb (neC b o e hx) e1 (I.base.free b o e n hx);exact⟨sl',e2⟩
 ·obtain⟨o',e1⟩:=I.base.there b o e hx;exact free b o' (neC b o e hx) e1 (I.base.free b o e n hx)
 ·obtain⟨o',e1⟩:=I.base.there b o e hx;exact there b o' (neC b o e hx) e1
 ·obtain⟨m1,e1⟩:=I.base.tbls b ps e;obtain⟨m2,e2⟩:=tbls b _ e1;exact⟨m1++m2,by rw[e2,Array.append_assoc]⟩
 ·obtain⟨m,hn,hl⟩:=I.loc;refine⟨m,ns m hn,λi x v e1 e2 e3=>?_⟩;obtain⟨u,r,l⟩:=hl i x v e1 e2 e3;refine⟨u,r,?_⟩;rcases l with l | ⟨k,c,e,z⟩
  ·exact .inl l
  ·exact .inr ⟨k,c,e,cellK x c e _ z⟩
 ·obtain⟨v,z⟩:=I.cell x c e;exact⟨v,cellK x c e v z⟩
 ·obtain⟨m,⟨o,_,_,ho,_⟩,_⟩:=I.loc;exact free _ o (λz=>(hch _ z).2.1 rfl) ho I.free
 ·obtain⟨v,o,ho,hd⟩:=I.cell x c e;exact free c o (λz=>(hch c z).2.2.1 x c e rfl) ho (I.freeC x c e)
 ·obtain⟨e,n,ne,nf,d⟩:=I.pin p hp;have nch:p.1∉ch:=λz=>(hch p.1 z).2.2.2 p hp rfl;exact⟨keep p.1 p.2 ne nf nch e n,free p.1 p.2 nch e n,ne,nf,d⟩
theorem Inv.un {t':Nat}(I:Inv X pins σ H s)(u:Un X.fs [] H H' s.heap h')(hok:HOk X.prog X.w H' h'):Inv X pins σ H' { s with heap:=h',toks:=t' }:=by
 obtain⟨m,⟨o,es,ep,ho,r⟩,_⟩:=id I.loc;obtain⟨sl,hL⟩:=u.any ho I.free (by simp);exact I.step (g':=s.gens) (d':=s.drawn) (ch:=[]) (λ_ z=>nomatch z) (λb o _ hb _ e n=>u.keep b o e n hb (by simp)) (λb o _ hb _ e n=>u.slot b o e n hb (by simp)) (λb o _ e n=>u.free b o e n (by simp)) (λb o _ e=>u.there b o e (by simp)) u.tups u.frzs u.tbls (λm' hm=>by
  obtain⟨o',es',ep',ho',r'⟩:=hm;rw[ho]at ho';cases ho';exact⟨_,es',ep',hL,r'⟩) hok I.bare
theorem Inv.call {g':Array GenState}{t':Nat}{d':Drawn}{ch:List Addr}(I:Inv X pins σ H s)(u:Un (frs X.stack) ch H H' s.heap h')(hok:HOk X.prog X.w H' h')(hg:AllBare g')
  (hch:∀b∈ch,(b∈X.ex\/X.s₀.heap.objs.size<=b)/\b≠X.env.locals/\(∀x c,X.env.cells.lookup x=some c->c≠b)/\∀p∈X.pn++pins,p.1≠b) :
  Inv X pins σ H' { s with heap:=h',gens:=g',drawn:=d',toks:=t' }:=by
 obtain⟨m,⟨o,es,ep,ho,r⟩,_⟩:=id I.loc;obtain⟨sl,hL⟩:=u.any ho I.free λz=>(hch _ z).2.1 rfl;exact I.step (ch:=ch) hch (λb o hL hb hc e n=>u.keep b o e n (λz=>(List.mem_cons.mp (I.zix b z)).elim hL hb) hc) (λb o _ _ hc e n=>u.any e n hc) (λb o hc e n=>u.free b o e n hc) (λb o hc e=>u.there b o e hc) u.tups u.frzs u.tbls (λm' hm=>by
  obtain⟨o',es',ep',ho',r'⟩:=hm;rw[ho]at ho';cases ho';exact⟨_,es',ep',hL,r'⟩) hok hg
theorem Inv.turned {t':Nat}{it:Addr}(I:Inv X pins σ H s)(k:∀b o,b≠it->s.heap.get? b=some o->h'.get? b=some o)(hn:H it=none)(hL:it≠X.env.locals)
  (h1:it∈X.ex\/X.s₀.heap.objs.size<=it) (h2:∀x c,X.env.cells.lookup x=some c->c≠it) (h3:∀p∈X.pn++pins,p.1≠it):Inv X pins σ H { s with heap:=h',toks:=t' }:=by
 have nit:∀b u,H b=some u->b≠it:=λb u e z=>by rw[z,hn]at e;cases e
 refine I.step (g':=s.gens) (d':=s.drawn) (ch:=[it]) (λb hb=>?_) (λb o _ _ hc e _=>k b o (λz=>hc (by simp[z])) e) (λb o _ _ hc e _=>⟨o.slots,k b o (λz=>hc (by simp[z])) e⟩) (λ_ _ _ _ n=>n)
  (λb o hc e=>⟨o,k b o (λz=>hc (by simp[z])) e⟩) (λ_ _ e=>e) (λ_ _ _ e=>e) (λb ps e=>⟨#[],by rw[e];simp⟩) (λm hm=>?_) (λb u e=>?_) I.bare
 ·have e:b=it:=by simpa using hb
  subst e;exact⟨h1,hL,h2,h3⟩
 ·obtain⟨o,es,ep,ho,r⟩:=hm;exact⟨o,es,ep,k _ o (Ne.symm hL) ho,r⟩
 ·refine(I.hok b u e).stay (λc v hc q=>k c v ?_ q) (λ_ q=>q) λ_ _ q=>q;rcases hc with z | z
  ·rw[z];exact nit b u e
  ·exact nit c _ z
theorem Inv.tok (I:Inv X pins σ H s)(t:Nat):Inv X pins σ H { s with toks:=t }:=I.un (h':=s.heap) (t':=t) Un.refl I.hok
theorem Inv.kept {t':Nat}(I:Inv X pins σ H s)(k:∀b u,s.heap.get? b=some u->h'.get? b=some u):Inv X pins σ H { s with heap:=h',toks:=t' }:=I.un (Un.kept k) (I.hok.kept k)
theorem Inv.laid {a:Addr}{o:HO}{t':Nat}(I:Inv X pins σ H s)(k:∀b u,s.heap.get? b=some u->h'.get? b=some u)(hp:s.heap.objs.size<=a)(new:zbj X.prog X.w (upd H a o) h' a o) :
  Inv X pins σ (upd H a o) { s with heap:=h',toks:=t' }:=I.un (Un.laid k hp (I.hok.fresh hp)) (I.hok.laid k hp new)
theorem Inv.write {x e:Addr}{o:HO}{t':Nat}(I:Inv X pins σ H s)(mu:Mut (H x))(he:e=x\/H e=some (.own x))(k:∀b u,b≠e->s.heap.get? b=some u->h'.get? b=some u)(heo:∃u,h'.get? e=some u)
  (new:zbj X.prog X.w (upd H x o) h' x o):Inv X pins σ (upd H x o) { s with heap:=h',toks:=t' }:=I.un (Un.write mu he k heo) (I.hok.write mu he k heo new)
theorem Inv.ziy {pins':List (Addr×Obj)}(I:Inv X pins σ H s)(h:∀p∈pins',s.heap.get? p.1=some p.2/\H p.1=none/\p.1≠X.env.locals/\p.1∉X.fs/\∀v,p.2.data≠.cell v):Inv X pins' σ H s:=
 ⟨I.ok,I.os,I.bare,I.base,I.loc,I.cell,I.free,I.freeC,λp hp=>(List.mem_append.mp hp).elim (λz=>I.pin p (List.mem_append_left _ z)) (h p),I.hok,I.len⟩
theorem zeV {N:List Str}(hN:N.Nodup){i j:Nat}{x:Str}(a:N[i]? = some x)(b:N[j]? = some x):i=j:=by
 obtain⟨h1,e1⟩:=List.getElem?_eq_some_iff.mp a;obtain⟨h2,e2⟩:=List.getElem?_eq_some_iff.mp b;exact(List.getElem_inj hN).mp (e1.trans e2.symm)
theorem zbZ {M:Model}{A:Around}{E:Value->Shared->Prop}{i:Nat}{x:Str}{v:V}{u:Value}{Q:Unit->Shared->Prop}(I:Inv X pins σ H s)(hN:X.N.Nodup)(hi:X.N[i]? = some x)(hx:Loc X.env.scope x)(r:RelV v u)
  (h:∀s',Inv X pins (σ.set i (some v)) H s'->(∃a,Heap.SameBut a s.heap s'.heap/\(a=X.env.locals\/X.env.cells.lookup x=some a))->Q () s') (hf:autoParam (X.fn x=true\/X.env.scope.names.lookup x=some .local) aU4):wpAny M A (storeName X.env x u) Q E s:=by
 obtain⟨m,hn,hl⟩:=id I.loc;have hcls:(X.env.scope.kind == .class||(X.env.scope.kind == .module&&X.env.locals != X.env.globals))=false:=by rw[I.ok.kind];rfl
 have hiσ:i<σ.length:=by rw[I.len];exact(List.getElem?_eq_some_iff.mp hi).1
 have cne:=I.cne;have tracked:∀ {a:Addr} {h':Heap},(∃o,s.heap.get? a=some o/\H a=none)->Heap.SameBut a s.heap h'->HOk X.prog X.w H h':=λ{a h'} ha hs b ob e=>by
  obtain⟨_,_,hfree⟩:=ha;refine(I.hok b ob e).stay (λc w' hc q=>(hs.2 c ?_).trans q) (λ_ q=>q) λ_ _ q=>q;rintro rfl;rcases hc with rfl | hc
  ·rw[hfree]at e;cases e
  ·rw[hfree]at hc;cases hc
 rcases hx with hk | hk
 ·refine wpAny_storeName_local hk hn (λh' hn' hs=>?_) hcls;obtain⟨oL,_,_,hoL,_⟩:=id hn;refine h _ ⟨I.ok,I.os,I.bare,⟨λb o e n hb hx=>?_,λb o e n hb hx=>?_,I.base.free,λb o e hx=>?_,I.base.tups,I.base.frzs,I.base.tbls⟩,⟨_,hn',λj y v' e1 e2 e3=>?_⟩,λy c e=>?_,I.free,I.freeC,λp hp=>?_,tracked ⟨oL,hoL,I.free⟩ hs,by simpa using I.len⟩ ⟨_,hs,.inl rfl⟩
  ·exact(hs.2 b (Nat.ne_of_lt (Nat.lt_of_lt_of_le (Heap.lt_size e) I.ok.above))).trans (I.base.keep b o e n hb hx)
  ·obtain⟨sl,e1⟩:=I.base.slot b o e n hb hx;exact⟨sl,(hs.2 b (Nat.ne_of_lt (Nat.lt_of_lt_of_le (Heap.lt_size e) I.ok.above))).trans e1⟩
  ·obtain⟨o',e1⟩:=I.base.there b o e hx;exact⟨o',(hs.2 b (Nat.ne_of_lt (Nat.lt_of_lt_of_le (Heap.lt_size e) I.ok.above))).trans e1⟩
  ·by_cases hj:j=i
   ·subst hj;rw[hi]at e1;cases e1;rw[List.getElem?_set_self hiσ]at e2;cases e2;exact⟨u,r,.inl ⟨hk,by simp⟩⟩
   ·rw[List.getElem?_set_ne (Ne.symm hj)]at e2;obtain⟨u',r',q⟩:=hl j y v' e1 e2 e3;refine⟨u',r',?_⟩;rcases q with ⟨k,e⟩ | ⟨k,c,e,z⟩
    ·refine .inl ⟨k,?_⟩;have:y≠x:=λe=>hj (zeV hN e1 (e▸hi));simp[this,e]
    ·exact .inr ⟨k,c,e,z.sameBut hs (cne y c e)⟩
  ·obtain⟨w',z⟩:=I.cell y c e;exact⟨w',z.sameBut hs (cne y c e)⟩
  ·obtain⟨e,n,ne,nf,d⟩:=I.pin p hp;exact⟨(hs.2 p.1 ne).trans e,n,ne,nf,d⟩
 ·have hfn:X.fn x=true:=by
   rcases hf with z | z
   ·exact z
   ·rw[z]at hk;cases hk
  obtain⟨c,hc⟩:=I.ok.has x (.inl hk);obtain⟨w',z⟩:=I.cell x c hc;refine wpAny_storeName_cell I.ok.kind hk hc z (λh' hc' hs=>?_);obtain⟨oc,hoc,hocd⟩:=id z;refine h { s with heap:=h' } ⟨I.ok,I.os,I.bare,⟨λb o e n hb hx=>?_,λb o e n hb hx=>?_,I.base.free,λb o e hx=>?_,I.base.tups,I.base.frzs,I.base.tbls⟩,⟨m,hn.sameBut hs (Ne.symm (cne x c hc)),λj y v' e1 e2 e3=>?_⟩,λy c' e=>?_,I.free,I.freeC,λp hp=>?_,tracked ⟨oc,hoc,I.freeC x c hc⟩ hs,by simpa using I.len⟩ ⟨c,hs,.inr hc⟩
  ·exact(hs.2 b (Nat.ne_of_lt (Nat.lt_of_lt_of_le (Heap.lt_size e) (I.ok.cab x c hfn hc)))).trans (I.base.keep b o e n hb hx)
  ·obtain⟨sl,e1⟩:=I.base.slot b o e n hb hx;exact⟨sl,(hs.2 b (Nat.ne_of_lt (Nat.lt_of_lt_of_le (Heap.lt_size e) (I.ok.cab x c hfn hc)))).trans e1⟩
  ·obtain⟨o',e1⟩:=I.base.there b o e hx;exact⟨o',(hs.2 b (Nat.ne_of_lt (Nat.lt_of_lt_of_le (Heap.lt_size e) (I.ok.cab x c hfn hc)))).trans e1⟩
  ·by_cases hj:j=i
   ·subst hj;rw[hi]at e1;cases e1;rw[List.getElem?_set_self hiσ]at e2;cases e2;exact⟨u,r,.inr ⟨.inl hk,c,hc,hc'⟩⟩
   ·rw[List.getElem?_set_ne (Ne.symm hj)]at e2;obtain⟨u',r',q⟩:=hl j y v' e1 e2 e3;refine⟨u',r',?_⟩;rcases q with q | ⟨k,c',e,z'⟩
    ·exact .inl q
    ·refine .inr ⟨k,c',e,z'.sameBut hs ?_⟩;rintro rfl;exact hj (zeV hN e1 (I.ok.inj _ _ _ e hc▸hi))
  ·by_cases hcc:c'=c
   ·subst hcc;exact⟨_,hc'⟩
   ·obtain⟨w2,z2⟩:=I.cell y c' e;exact⟨w2,z2.sameBut hs hcc⟩
  ·obtain⟨e,n,ne,nf,d⟩:=I.pin p hp;refine⟨(hs.2 p.1 ?_).trans e,n,ne,nf,d⟩;intro q;rw[q,hoc]at e;have q':oc=p.2:=Option.some.inj e;exact d w' (by rw[<- q'];exact hocd)
theorem zgY {M:Model}{A:Around}{E:Value->Shared->Prop}{i:Nat}{x:Str}{v:V}{u:Value}{Q:Unit->Shared->Prop}(I:Inv X pins σ H s)(hN:X.N.Nodup)(hi:X.N[i]? = some x)(hx:Loc X.env.scope x)(r:RelV v u)
  (h:∀s',Inv X pins (σ.set i (some v)) H s'->Q () s') (hf:autoParam (X.fn x=true\/X.env.scope.names.lookup x=some .local) aU4):wpAny M A (storeName X.env x u) Q E s:=
 zbZ I hN hi hx r (λs' I' _=>h s' I') hf
theorem Inv.call' {s':Shared}{ch:List Addr}(I:Inv X pins σ H s)(ho:s'.os=s.os)(u:Un (frs X.stack) ch H H' s.heap s'.heap)(hok:HOk X.prog X.w H' s'.heap)(hg:AllBare s'.gens)
  (hch:∀b∈ch,(b∈X.ex\/X.s₀.heap.objs.size<=b)/\b≠X.env.locals/\(∀x c,X.env.cells.lookup x=some c->c≠b)/\∀p∈X.pn++pins,p.1≠b):Inv X pins σ H' s':=by
 obtain⟨h',g',d',t',o'⟩:=s';have e:o'=s.os:=ho;subst e;exact I.call (g':=g') (t':=t') (d':=d') u hok hg hch
end
noncomputable abbrev XK:=Value->Option Addr->Hp->Prop
noncomputable abbrev St:=List (Option V)
noncomputable abbrev VK:=V->Hp->Prop
noncomputable abbrev TE:=St->Hp->VK->Prop
noncomputable abbrev TT:=St->Hp->(Bool->Hp->Prop)->Prop
noncomputable abbrev TA:=St->Hp->(List V->Hp->Prop)->Prop
structure Ends where
 nx:St->Hp->Prop
 rt:VK
 bk:St->Hp->Prop:=λ_ _=>False
 ct:St->Hp->Prop:=λ_ _=>False
noncomputable abbrev TS:=Ends->St->Hp->Prop
noncomputable def EP (X:Cx)(pins:List (Addr×Obj))(σ:St)(Q:VK)(u:Value)(s':Shared):Prop:=∃v H',Inv X pins σ H' s'/\RelV v u/\Q v H'
noncomputable def TP (X:Cx)(pins:List (Addr×Obj))(σ:St)(Q:Bool->Hp->Prop)(b:Bool)(s':Shared):Prop:=∃H',Inv X pins σ H' s'/\Q b H'
noncomputable def AP (X:Cx)(pins:List (Addr×Obj))(σ:St)(Q:List V->Hp->Prop)(us:List Value)(s':Shared):Prop:=∃vs H',Inv X pins σ H' s'/\Vals vs us/\Q vs H'
noncomputable def SP (X:Cx)(pins:List (Addr×Obj))(D:Ends)(f:Flow)(s':Shared):Prop:=
 match f with
 | .next=>∃σ' H',Inv X pins σ' H' s'/\D.nx σ' H'
 | .brk=>∃σ' H',Inv X pins σ' H' s'/\D.bk σ' H'
 | .cont=>∃σ' H',Inv X pins σ' H' s'/\D.ct σ' H'
 | .ret u=>∃v σ' H',Inv X pins σ' H' s'/\RelV v u/\D.rt v H'
noncomputable def PE (X:Cx)(e:Expr)(t:TE):Prop:=
 ∀(pins:List (Addr×Obj)) (s:Shared) (σ:St) (H:Hp) (Q:VK),Inv X pins σ H s->t σ H Q->wpAny (model X.prog X.w) X.A (eval e X.env) (EP X pins σ Q) X.xe s
noncomputable def PT (X:Cx)(e:Expr)(t:TT):Prop:=
 ∀(pins:List (Addr×Obj)) (s:Shared) (σ:St) (H:Hp) (Q:Bool->Hp->Prop),Inv X pins σ H s->t σ H Q->wpAny (model X.prog X.w) X.A (isTrue e X.env (eval e X.env)) (TP X pins σ Q) X.xe s
noncomputable def PW (X:Cx)(e:Expr)(t:TT):Prop:=
 ∀(whole:Sem Value) (pins:List (Addr×Obj)) (s:Shared) (σ:St) (H:Hp) (Q:Bool->Hp->Prop),Inv X pins σ H s->t σ H Q->wpAny (model X.prog X.w) X.A (isTrue e X.env whole) (TP X pins σ Q) X.xe s
theorem PW.pt {X:Cx}{e:Expr}{t:TT}(h:PW X e t):PT X e t:=h _
noncomputable def PA (X:Cx)(es:List Expr)(t:TA):Prop:=
 ∀(pos:Pos) (pins:List (Addr×Obj)) (s:Shared) (σ:St) (H:Hp) (Q:List V->Hp->Prop),Inv X pins σ H s->t σ H Q->wpAny (model X.prog X.w) X.A (spliced (backTo pos (starEach es X.env))) (AP X pins σ Q) X.xe s
noncomputable def PS (X:Cx)(st:Stmt)(t:TS):Prop:=
 ∀(pins:List (Addr×Obj)) (s:Shared) (σ:St) (H:Hp) (D:Ends),Inv X pins σ H s->t D σ H->wpAny (model X.prog X.w) X.A (exec st X.env) (SP X pins D) X.xe s
noncomputable def PSs (X:Cx)(st:List Stmt)(t:TS):Prop:=
 ∀(pins:List (Addr×Obj)) (s:Shared) (σ:St) (H:Hp) (D:Ends),Inv X pins σ H s->t D σ H->wpAny (model X.prog X.w) X.A (execs st X.env) (SP X pins D) X.xe s
theorem thn {α:Type}{t:Sem α}{Q Q':α->Shared->Prop}{M:Model}{A:Around}{E:Value->Shared->Prop}{s:Shared}(h:wpAny M A t Q E s)(hQ:∀a s,Q a s->Q' a s):wpAny M A t Q' E s:=wpAny_mono h hQ λ_ _ x=>x
section
variable {X:Cx}
noncomputable def tVar (i:Nat):TE:=λσ H Q=>∃v,σ[i]? = some (some v)/\Q v H
noncomputable def tC (v:V):TE:=λ_ H Q=>Q v H
theorem zbT {i:Nat}{x:Str}{pos:Pos}(hN:X.N[i]? = some x)(hv:Vis X.env.scope x)(hd:autoParam ((x == ("__debug__" : Str))=false) aU1) (hcd:autoParam ((x == ("__classdict__" : Str))=false) aU1):PE X (.Name x pos) (tVar i):=by
 intro pins s σ H Q I h;obtain⟨v,e,h⟩:=h;obtain⟨m,hn,hl⟩:=I.loc;obtain⟨u,r,l⟩:=hl i x v hN e hv;have fin:EP X pins σ Q u s:=⟨v,H,I,r,h⟩;rcases l with ⟨hk,hm⟩ | ⟨hk,c,hc,hcell⟩
 ·exact wpAny_Name (wpAny_loadName_local I.ok.kind hk hn hm fin) hd
 ·rcases hk with hk | hk
  ·exact wpAny_Name (wpAny_loadName_cell I.ok.kind hk hc hcell fin) hd
  ·exact wpAny_Name (wpAny_loadName_free I.ok.kind hk hc hcell fin hcd) hd
theorem zmZ {i j pos}:PE X (.Constant (.int i) j pos) (tC (.int i)):=λ_ _ _ H _ I h=>wpAny_Constant_int ⟨.int i,H,I.tok _,⟨_,rfl⟩,h⟩
theorem zow {b j pos}:PE X (.Constant (.bool b) j pos) (tC (.bl b)):=λ_ _ _ H _ I h=>Constant_bool ⟨.bl b,H,I,rfl,h⟩
theorem zgZ {j pos}:PE X (.Constant .none j pos) (tC .non):=λ_ _ _ H _ I h=>Constant_none ⟨.non,H,I,rfl,h⟩
theorem zlq {x j pos}:PE X (.Constant (.str x) j pos) (tC (.str x)):=λ_ _ _ H _ I h=>Calls.Constant_str ⟨.str x,H,I.tok _,⟨_,rfl⟩,h⟩
noncomputable def Gl (X:Cx)(x:Str):Prop:=X.env.kindOf x=some .globalImplicit
theorem zdG {E:Value->Shared->Prop}{pins:List (Addr×Obj)}{s:Shared}{σ:St}{H:Hp}{x:Str}{u:Value}{pos:Pos}{Q:Value->Shared->Prop}(I:Inv X pins σ H s)(hg:Gl X x)(hm:X.mg x=some u)(h:Q u s)
  (hd:autoParam ((x == ("__debug__" : Str))=false) aU1):wpAny (model X.prog X.w) X.A (eval (.Name x pos) X.env) Q E s:=
 Calls.Name_function_global I.ok.kind hg (Calls.loadGlobal_global (by rw[I.ok.glob];exact I.mod.glob.keeps I.bk) hm h) hd
theorem zha {E:Value->Shared->Prop}{pins:List (Addr×Obj)}{s:Shared}{σ:St}{H:Hp}{x:Str}{u:Value}{pos:Pos}{Q:Value->Shared->Prop}(I:Inv X pins σ H s)(hg:Gl X x)(hm:X.mg x=none)(hv:bootBuiltins x=some u)(h:Q u s)
  (hn:autoParam (x≠"__name__") aU1) (hd:autoParam ((x == ("__debug__" : Str))=false) aU1):wpAny (model X.prog X.w) X.A (eval (.Name x pos) X.env) Q E s:=by
 obtain⟨mb,h1,h2⟩:=I.mod.blt;exact Calls.Name_function_global I.ok.kind hg (Calls.loadGlobal_builtin (by rw[I.ok.glob];exact I.mod.glob.keeps I.bk) hm (by rw[I.ok.blt];exact h1.keeps I.bk) ((h2 x hn).trans hv) h) hd
theorem zcY {x:Str}{v:V}{u:Value}{pos:Pos}(hg:Gl X x)(hm:X.mg x=some u)(r:RelV v u)(hd:autoParam ((x == ("__debug__" : Str))=false) aU1):PE X (.Name x pos) (tC v):=
 λ_ _ _ H _ I h=>zdG I hg hm ⟨v,H,I,r,h⟩ hd
theorem ziz {x:Str}{v:V}{u:Value}{pos:Pos}(hg:Gl X x)(hm:X.mg x=none)(hv:bootBuiltins x=some u)(r:RelV v u)(hn:autoParam (x≠"__name__") aU1) (hd:autoParam ((x == ("__debug__" : Str))=false) aU1):PE X (.Name x pos) (tC v):=
 λ_ _ _ H _ I h=>zha I hg hm hv ⟨v,H,I,r,h⟩ hn hd
variable {a b:Expr}{ta tb:TE}{pos:Pos}
noncomputable def tB (t:TE):TT:=λσ H Q=>t σ H λx H1=>∃c,x=.bl c/\Q c H1
theorem zna {e:Expr}{t:TE}(h:PE X e t)(he:autoParam (∀whole,isTrue e X.env whole=(do let v <- whole;standAt e.pos;holding [v] (truthy v))) aU3):PT X e (tB t):=by
 intro pins s σ H Q I hw;refine isTrue_plain (thn (h pins s σ H _ I hw) λv s1 q1q=>?_) (he _);obtain⟨x,H1,I1,r1,q1⟩:=q1q;obtain⟨d,rfl,q⟩:=q1;cases r1;exact wpAny_truthy_bool ⟨H1,I1,q⟩
variable {tA tB':TT}{rest:List Expr}
noncomputable def tAnd (t u:TT):TT:=λσ H Q=>t σ H λc H1=>if c=true then u σ H1 Q else Q false H1
noncomputable def tOr (t u:TT):TT:=λσ H Q=>t σ H λc H1=>if c=true then Q true H1 else u σ H1 Q
noncomputable def tNot (t:TT):TT:=λσ H Q=>t σ H λc H1=>Q (!c) H1
theorem zlN (ha:PT X a tA):PW X (.BoolOp .And [a] pos) tA:=by
 intro wh pins s σ H Q I h;refine isTrue_and (thn (ha pins s σ H Q I h) λc s1 e=>?_);cases c with
 | true=>exact isTrue_and_nil e
 | false=>exact e
theorem znb (ha:PT X a tA):PW X (.BoolOp .Or [a] pos) tA:=by
 intro wh pins s σ H Q I h;refine isTrue_or (thn (ha pins s σ H Q I h) λc s1 e=>?_);cases c with
 | false=>exact isTrue_or_nil e
 | true=>exact e
theorem znc (ha:PT X a tA)(hb:PW X (.BoolOp .And (b::rest) pos) tB'):PW X (.BoolOp .And (a::b::rest) pos) (tAnd tA tB'):=by
 intro wh pins s σ H Q I h;refine isTrue_and (thn (ha pins s σ H _ I h) λc s1 q2q=>?_);obtain⟨H1,I1,q1⟩:=q2q;cases c with
 | true=>exact hb wh pins s1 σ H1 Q I1 q1
 | false=>exact⟨H1,I1,q1⟩
theorem zox (ha:PT X a tA)(hb:PW X (.BoolOp .Or (b::rest) pos) tB'):PW X (.BoolOp .Or (a::b::rest) pos) (tOr tA tB'):=by
 intro wh pins s σ H Q I h;refine isTrue_or (thn (ha pins s σ H _ I h) λc s1 q3q=>?_);obtain⟨H1,I1,q1⟩:=q3q;cases c with
 | true=>exact⟨H1,I1,q1⟩
 | false=>exact hb wh pins s1 σ H1 Q I1 q1
theorem znd (ha:PT X a tA):PT X (.UnaryOp .Not a pos) (tNot tA):=by
 intro pins s σ H Q I h;exact isTrue_not (ha pins s σ H (λc H1=>Q (!c) H1) I h)
noncomputable def zoy (ta tb:TE):TE:=λσ H Q=>ta σ H λx H1=>∃c,x=.bl c/\if c=true then tb σ H1 Q else Q (.bl false) H1
theorem zne {op}{t:TE}(h:PE X a t):PE X (.BoolOp op [a] pos) t:=λpins s σ H Q I hw=>BoolOp_one (h pins s σ H Q I hw)
theorem znf (ha:PE X a ta)(hb:PE X (.BoolOp .And (b::rest) pos) tb):PE X (.BoolOp .And (a::b::rest) pos) (zoy ta tb):=by
 intro pins s σ H Q I h;refine BoolOp_and (thn (ha pins s σ H _ I h) λv s1 q4q=>?_);obtain⟨x,H1,I1,r1,q1⟩:=q4q;obtain⟨c,rfl,q1⟩:=q1;cases r1;refine wpAny_truthy_bool ?_;cases c with
 | true=>exact hb pins s1 σ H1 Q I1 q1
 | false=>exact⟨.bl false,H1,I1,rfl,q1⟩
end
noncomputable def SqL (K:PySem.W.Frag)(H:Hp)(a:Addr)(xs:List V):Prop:=
 Rd H a (.lst xs)\/
  ∃(o:Obj) (its:Array Value) (n:Nat),K.lookup a=some o/\o.cls=.type "list"/\o.dict=none/\o.data=.seq its n/\its.size<=sizeLine/\Vals xs its.toList
noncomputable def SqT (K:PySem.W.Frag)(H:Hp)(a:Addr)(xs:List V):Prop:=
 Rd H a (.tup xs)\/
  ∃(o:Obj) (its:Array Value) (n:Nat),K.lookup a=some o/\o.cls=.type "tuple"/\o.data=.seq its n/\its.size<=sizeLine/\Vals xs its.toList/\o.dict=none
noncomputable def absV:Value->Option V
 | .none=>some .non
 | .bool b=>some (.bl b)
 | .int i _=>some (.int i)
 | .str x _=>some (.str x)
 | .bytes b _=>some (.byt b)
 | .float b _=>some (.flt b)
 | .ref a=>some (.ref a)
 | .type n=>some (.ty n)
 | _=>none
theorem RelV.abs {x:V}{u:Value}(r:RelV x u):absV u=some x:=by
 cases x with
 | non=>cases r;rfl
 | bl _=>cases r;rfl
 | int _=>obtain⟨t,rfl⟩:=r;rfl
 | str _=>obtain⟨t,rfl⟩:=r;rfl
 | byt _=>obtain⟨t,rfl⟩:=r;rfl
 | flt _=>obtain⟨t,rfl⟩:=r;rfl
 | ref _=>cases r;rfl
 | ty _=>cases r;rfl
theorem RelV.inj {x y:V}{u:Value}(r:RelV x u)(q:RelV y u):x=y:=Option.some.inj (r.abs.symm.trans q.abs)
theorem Vals.inj:∀ {xs ys:List V}{us:List Value},Vals xs us->Vals ys us->xs=ys:=by
 intro xs ys us h;induction h generalizing ys with
 | nil=>intro h2;cases h2;rfl
 | cons r t ih=>
  intro h2;cases h2 with
  | cons r' t'=>rw[r.inj r',ih t']
section
variable {X:Cx}{pins:List (Addr×Obj)}{σ:St}{H:Hp}{s:Shared}{a:Addr}{xs ys:List V}
theorem SqL.of {K:PySem.W.Frag}(h:H a=some (.lst xs)):SqL K H a xs:=.inl (.inl h)
theorem SqT.of {K:PySem.W.Frag}(h:H a=some (.tup xs)):SqT K H a xs:=.inl (.inl h)
theorem Inv.list (I:Inv X pins σ H s)(h:SqL X.K H a xs):∃its:List Value,Vals xs its/\PlainL s.heap a its.toArray/\xs.length<=sizeLine:=by
 rcases h with h | ⟨o,its,n,hk,hc,hd,hs,hz,r⟩
 ·obtain⟨z,its,n,r,e⟩:=h.ok I.hok;exact⟨its,r,⟨_,n,e,rfl,rfl,rfl⟩,z⟩
 ·refine⟨its.toList,r,⟨o,n,I.kIn a o hk,hc,hd,by simpa using hs⟩,?_⟩;have e:=r.length;simp only[Array.length_toList]at e;lia
theorem Inv.tuple (I:Inv X pins σ H s)(h:SqT X.K H a xs):∃its:List Value,Vals xs its/\IsTup s.heap a its.toArray/\xs.length<=sizeLine:=by
 rcases h with h | ⟨o,its,n,hk,hc,hs,hz,r,_⟩
 ·obtain⟨z,its,r,p⟩:=h.ok I.hok;exact⟨its,r,p.tup,z⟩
 ·refine⟨its.toList,r,⟨o,I.kIn a o hk,hc,n,by simpa using hs⟩,?_⟩;have e:=r.length;simp only[Array.length_toList]at e;lia
theorem Inv.zhb (I:Inv X pins σ H s)(h:SqL X.K H a xs)(h':SqL X.K H a ys):xs=ys:=by
 obtain⟨its,r,⟨o,n,e,_,_,d⟩,_⟩:=I.list h;obtain⟨its',r',⟨o',n',e',_,_,d'⟩,_⟩:=I.list h';rw[e]at e';cases e';rw[d]at d';injection d' with d1 _;have:its=its':=by simpa using congrArg Array.toList d1
 subst this;exact r.inj r'
theorem Inv.ziA (I:Inv X pins σ H s)(h:SqT X.K H a xs)(h':SqT X.K H a ys):xs=ys:=by
 obtain⟨its,r,⟨o,e,_,n,d⟩,_⟩:=I.tuple h;obtain⟨its',r',⟨o',e',_,n',d'⟩,_⟩:=I.tuple h';rw[e]at e';cases e';rw[d]at d';injection d' with d1 _;have:its=its':=by simpa using congrArg Array.toList d1
 subst this;exact r.inj r'
end
noncomputable abbrev Cx.wish (X:Cx)(E:Value->Shared->Prop):Cx:={ X with xe:=E }
noncomputable abbrev Cx.nox (X:Cx):Cx:=X.wish λ_ _=>False
theorem Cx.Ok.wish {X:Cx}(ok:X.Ok)(E:Value->Shared->Prop):(X.wish E).Ok:=
 ⟨ok.mod,ok.kind,ok.glob,ok.blt,ok.above,ok.inj,ok.has,ok.cab,ok.hd,ok.frames,ok.stk,ok.exf,ok.bs,ok.bsz,ok.noex,ok.exfs,ok.funs,ok.frf⟩
theorem Cx.Ok.zaY {X:Cx}{E:Value->Shared->Prop}(ok:(X.wish E).Ok):X.Ok:=
 ⟨ok.mod,ok.kind,ok.glob,ok.blt,ok.above,ok.inj,ok.has,ok.cab,ok.hd,ok.frames,ok.stk,ok.exf,ok.bs,ok.bsz,ok.noex,ok.exfs,ok.funs,ok.frf⟩
section
variable {X:Cx}{pins:List (Addr×Obj)}{σ:St}{H:Hp}{s:Shared}{E:Value->Shared->Prop}
theorem Inv.wish (I:Inv X pins σ H s)(E:Value->Shared->Prop):Inv (X.wish E) pins σ H s:=⟨I.ok.wish E,I.os,I.bare,I.base,I.loc,I.cell,I.free,I.freeC,I.pin,I.hok,I.len⟩
theorem Inv.zaY (I:Inv (X.wish E) pins σ H s):Inv X pins σ H s:=⟨I.ok.zaY,I.os,I.bare,I.base,I.loc,I.cell,I.free,I.freeC,I.pin,I.hok,I.len⟩
theorem SP.zaY {D:Ends}{f:Flow}{s':Shared}(h:SP (X.wish E) pins D f s'):SP X pins D f s':=by
 cases f with
 | next=>obtain⟨σ',H',I,q⟩:=h;exact⟨σ',H',I.zaY,q⟩
 | brk=>obtain⟨σ',H',I,q⟩:=h;exact⟨σ',H',I.zaY,q⟩
 | cont=>obtain⟨σ',H',I,q⟩:=h;exact⟨σ',H',I.zaY,q⟩
 | ret u=>obtain⟨v,σ',H',I,r,q⟩:=h;exact⟨v,σ',H',I.zaY,r,q⟩
theorem PSs.nox {st:List Stmt}{t:TS}(h:PSs X.nox st t):PSs X st t:=λpins s σ H D I hw=>
 wpAny_mono (h pins s σ H D (I.wish _) hw) (λ_ _ q=>q.zaY) λ_ _ z=>False.elim z
end
section
variable {X:Cx}{st:Stmt}{rest:List Stmt}{t u:TS}{e:Expr}{te:TE}{pos:Pos}
noncomputable def zoz:TS:=λD σ H=>D.nx σ H
noncomputable def tSeq (t u:TS):TS:=λD σ H=>t { D with nx:=u D } σ H
theorem zgx:PSs X [] zoz:=λ_ _ σ H _ I h=>wpAny_execs_nil ⟨σ,H,I,h⟩
theorem zbx (h1:PS X st t)(h2:PSs X rest u):PSs X (st::rest) (tSeq t u):=by
 intro pins s σ H D I h;refine wpAny_execs_cons (thn (h1 pins s σ H { D with nx:=u D } I h) λf s1 q=>?_);cases f with
 | next=>
  obtain⟨σ',H',I',q⟩:=q;exact h2 pins s1 σ' H' D I' q
 | ret v=>exact q
 | brk=>exact q
 | cont=>exact q
theorem zgy (h1:PS X st t):PSs X [st] t:=by
 intro pins s σ H D I h;refine wpAny_execs_cons (thn (h1 pins s σ H D I h) λf s1 q=>?_);cases f with
 | next=>exact wpAny_execs_nil q
 | ret v=>exact q
 | brk=>exact q
 | cont=>exact q
theorem Inv.quiet {pins:List (Addr×Obj)}{σ:St}{H:Hp}{s:Shared}(I:Inv X pins σ H s):interactive X.env=false:=by simp[interactive,I.ok.kind]
noncomputable def zoA (te:TE):TS:=λD σ H=>te σ H λ_ H1=>D.nx σ H1
theorem zlO (he:PE X e te)(hs:autoParam (swapsWith e none pos.line X.env=pure false) aU0):PS X (.Expr e pos) (zoA te):=by
 intro pins s σ H D I h;exact wpAny_Expr_any (thn (he pins s σ H _ I h) λv s1 q5q=>by obtain⟨x,H1,I1,r1,q1⟩:=q5q;exact⟨σ,H1,I1,q1⟩) I.quiet hs
noncomputable def tRet (te:TE):TS:=λD σ H=>te σ H D.rt
theorem zlr (he:PE X e te):PS X (.Return (some e) pos) (tRet te):=by
 intro pins s σ H D I h;exact wpAny_Return_some (thn (he pins s σ H _ I h) λv s1 q6q=>by obtain⟨x,H1,I1,r1,q1⟩:=q6q;exact⟨x,σ,H1,I1,r1,q1⟩)
noncomputable def tIfS (c:TT)(t u:TS):TS:=λD σ H=>c σ H λb H1=>if b=true then t D σ H1 else u D σ H1
theorem zkf {c:Expr}{a b:List Stmt}{tc:TT}(hc:PT X c tc)(ha:PSs X a t)(hb:PSs X b u):PS X (.If c a b pos) (tIfS tc t u):=by
 intro pins s σ H D I h;refine wpAny_If (thn (hc pins s σ H _ I h) λd s1 q7q=>?_);obtain⟨H1,I1,q1⟩:=q7q;cases d with
 | true=>exact ha pins s1 σ H1 D I1 q1
 | false=>exact hb pins s1 σ H1 D I1 q1
noncomputable def zng:TS:=λ_ _ _=>False
theorem zfo {sts:List Stmt}:PSs X sts zng:=λ_ _ _ _ _ _ h=>h.elim
end
noncomputable abbrev TG:=V->St->Hp->(St->Hp->Prop)->Prop
noncomputable abbrev TGs:=List V->St->Hp->(St->Hp->Prop)->Prop
noncomputable def PG (X:Cx)(target:Expr)(t:TG):Prop:=
 ∀(pins:List (Addr×Obj)) (s:Shared) (σ:St) (H:Hp) (v:V) (u:Value) (Q:St->Hp->Prop),Inv X pins σ H s->RelV v u->t v σ H Q->
  wpAny (model X.prog X.w) X.A (assign target X.env u) (λ_ s'=>∃σ' H',Inv X pins σ' H' s'/\Q σ' H') X.xe s
noncomputable def PGs (X:Cx)(ts:List Expr)(t:TGs):Prop:=
 ∀(pins:List (Addr×Obj)) (s:Shared) (σ:St) (H:Hp) (vs:List V) (us:List Value) (Q:St->Hp->Prop),Inv X pins σ H s->Vals vs us->t vs σ H Q->
  wpAny (model X.prog X.w) X.A (assignInOrder ((assignEach ts X.env).map (·.2)) us) (λ_ s'=>∃σ' H',Inv X pins σ' H' s'/\Q σ' H') X.xe s
section
variable {X:Cx}{pos:Pos}
noncomputable def ziB (i:Nat):TG:=λv σ H Q=>Q (σ.set i (some v)) H
theorem zlP {i:Nat}{x:Str}(hN:X.N.Nodup)(hi:X.N[i]? = some x)(hx:Loc X.env.scope x)(hf:autoParam (X.fn x=true\/X.env.scope.names.lookup x=some .local) aU4):PG X (.Name x pos) (ziB i):=by
 intro pins s σ H v u Q I r h;exact wpAny_assign_Name (zgY I hN hi hx r (λs' I'=>⟨_,H,I',h⟩) hf)
noncomputable def gNil:TGs:=λvs σ H Q=>vs=[]/\Q σ H
noncomputable def zoB (t:TG)(u:TGs):TGs:=λvs σ H Q=>∃v r,vs=v::r/\t v σ H λσ' H'=>u r σ' H' Q
theorem zlQ:PGs X [] gNil:=by
 intro pins s σ H vs us Q I r h;obtain⟨e,h⟩:=h;subst e;cases r;exact assignInOrder_nil ⟨σ,H,I,h⟩
theorem zkg {e:Expr}{es:List Expr}{t:TG}{u:TGs}(h1:PG X e t)(h2:PGs X es u)
  (hs:autoParam ((assignEach (e::es) X.env).map (·.2)=assign e X.env::(assignEach es X.env).map (·.2)) aU0):PGs X (e::es) (zoB t u):=by
 intro pins s σ H vs us Q I r h;obtain⟨v,vr,e1,h⟩:=h;subst e1;cases r with
 | cons r rr=>
  rw[hs];refine assignInOrder_cons (thn (h1 pins s σ H _ _ _ I r h) λ_ s1 q8q=>?_);obtain⟨σ1,H1,I1,q1⟩:=q8q;exact h2 pins s1 σ1 H1 _ _ Q I1 rr q1
noncomputable def gTup (K:PySem.W.Frag)(n:Nat)(t:TGs):TG:=λv σ H Q=>∃a xs,v=.ref a/\SqT K H a xs/\xs.length=n/\t xs σ H Q
theorem znh {es:List Expr}{k:Nat}{t:TGs}{n:Nat}(hc:X.calm=true)(h:PGs X es t)
  (hn:autoParam ((assignEach es X.env).length=n) aU0) (hst:autoParam ((assignEach es X.env).findIdx? (·.1)=none) aU0):PG X (.Tuple es k pos) (gTup X.K n t):=by
 intro pins s σ H v u Q I r hw;obtain⟨a,xs,e1,hq,hl,hw⟩:=hw;subst e1;cases r;obtain⟨its,rv,ht,hz⟩:=I.tuple hq;refine assign_Tuple_tuple (I.ok.hd hc) ht (by simp[hn,<- hl,rv.length]) hst λh' hx=>?_;have I1:Inv X pins σ H { s with heap:=h' }:=I.kept (t':=s.toks) λb o e=>hx b o (Nat.ne_of_lt (Heap.lt_size e)) e;exact h pins _ σ H xs _ Q I1 (by simpa using rv) hw
noncomputable def tAsg (te:TE)(g:TG):TS:=λD σ H=>te σ H λx H1=>g x σ H1 D.nx
theorem zfp {i:Nat}{x:Str}{e:Expr}{te:TE}{pos':Pos}(hN:X.N.Nodup)(hi:X.N[i]? = some x)(hx:Loc X.env.scope x)(he:PE X e te)(hs:autoParam (swapsWith e (some (.Name x pos')) pos.line X.env=pure false) aU0)(hf:autoParam (X.fn x=true\/X.env.scope.names.lookup x=some .local) aU4) :
  PS X (.Assign [.Name x pos'] e pos) (tAsg te (ziB i)):=by
 intro pins s σ H D I h;refine wpAny_Assign_Name (thn (he pins s σ H _ I h) λv s1 q9q=>?_) hs;obtain⟨y,H1,I1,r1,q1⟩:=q9q;exact zgY I1 hN hi hx r1 (λs2 I2=>⟨_,H1,I2,q1⟩) hf
end
structure It where
 go:Nat->Hp->Prop
 yld:Nat->Hp->V->Hp->Prop
 stop:Nat->Hp->Prop
noncomputable def FpOk (X:Cx)(pins:List (Addr×Obj))(H:Hp)(b:Addr):Prop:=
 H b=none/\b≠X.env.locals/\b∉X.fs/\(b∈X.ex\/X.s₀.heap.objs.size<=b)/\(∀x c,X.env.cells.lookup x=some c->c≠b)/\∀p∈X.pn++pins,p.1≠b
theorem Inv.fpOk {X:Cx}{pins:List (Addr×Obj)}{σ:St}{H H':Hp}{s:Shared}{b:Addr}(I:Inv X pins σ H s)(hb:s.heap.objs.size<=b)(hn:H' b=none):FpOk X pins H' b:=by
 refine⟨hn,Nat.ne_of_gt (Nat.lt_of_lt_of_le I.lt hb),I.nofs hb,.inr (Nat.le_trans I.sz hb),λx c e z=>?_,λp hp z=>?_⟩
 ·obtain⟨v,q⟩:=I.cell x c e;exact absurd (Nat.lt_of_lt_of_le q.lt (by rw[z];exact hb)) (Nat.lt_irrefl _)
 ·exact absurd (Nat.lt_of_lt_of_le (Heap.lt_size (I.pin p hp).1) (by rw[z];exact hb)) (Nat.lt_irrefl _)
structure Turn (P:Program)(w:World)(K:PySem.W.Frag)(tg:Expr)(J:It)(fp:List Addr)(it:Addr)(tn:Nat->Heap->Prop):Prop where
 mem:it∈fp
 obj:∀i h,tn i h->∀b∈fp,∃o,h.get? b=some o/\∀v,o.data≠.cell v
 keep:∀i h h',tn i h->(∀b∈fp,∀o,h.get? b=some o->h'.get? b=some o)->tn i h'
 item:∀(X:Cx),X.prog=P->X.w=w->X.K=K->X.calm=true->∀(i:Nat) (pins:List (Addr×Obj)) (s:Shared) (σ:St) (H:Hp) (E:Value->Shared->Prop),Inv X pins σ H s->(∀b∈fp,FpOk X pins H b)->tn i s.heap->J.go i H->
  wpAny (model P w) X.A (pyNext (.ref it)) (λr s1=>∃u,r=some u/\
   wpAny (model P w) X.A (letOwnedTupleGo tg (.ref it) u) (λ_ s2=>∃x H',Inv X pins σ H' s2/\RelV x u/\J.yld i H x H'/\tn (i+1) s2.heap/\∀b∈fp,H' b=none) E s1) E s
 done:∀(X:Cx),X.prog=P->X.w=w->X.K=K->X.calm=true->∀(i:Nat) (pins:List (Addr×Obj)) (s:Shared) (σ:St) (H:Hp) (E:Value->Shared->Prop),Inv X pins σ H s->(∀b∈fp,FpOk X pins H b)->tn i s.heap->J.stop i H->
  wpAny (model P w) X.A (pyNext (.ref it)) (λr s1=>r=none/\Inv X pins σ H s1) E s
 self:∀(A:Around) (i:Nat) (s:Shared) (Q:Value->Shared->Prop) (E:Value->Shared->Prop),tn i s.heap->Q (.ref it) s->wpAny (model P w) A (pyIter (.ref it)) Q E s
noncomputable abbrev TI:=St->Hp->(It->Hp->Prop)->Prop
noncomputable def PIE (X:Cx)(pins:List (Addr×Obj))(σ:St)(tg:Expr)(R:It->Hp->Prop)(itv:Value)(s2:Shared):Prop:=
 ∃(it:Addr) (fp:List Addr) (tn:Nat->Heap->Prop) (J:It) (H':Hp),itv=.ref it/\Inv X pins σ H' s2/\Turn X.prog X.w X.K tg J fp it tn/\tn 0 s2.heap/\(∀b∈fp,FpOk X pins H' b)/\R J H'
noncomputable def PI (X:Cx)(tg iter:Expr)(wi:TI):Prop:=
 ∀(pins:List (Addr×Obj)) (s:Shared) (σ:St) (H:Hp) (R:It->Hp->Prop),Inv X pins σ H s->wi σ H R->
  wpAny (model X.prog X.w) X.A (eval iter X.env) (λv s1=>wpAny (model X.prog X.w) X.A (pyIter v) (PIE X pins σ tg R) X.xe s1) X.xe s
theorem zkh {M:Model}{A:Around}{E:Value->Shared->Prop}{s:Shared}{tg:Expr}{it:Addr}{u:Value}{o:Obj}{n:String}{vs:Array Value}{Q:Unit->Shared->Prop}(ho:s.heap.get? it=some o)(hc:o.cls=.type n)(hd:o.data=.fields vs)
    (hn:["enumerate","zip","dict_itemiterator","dict_reverseitemiterator","odict_iterator","itertools.zip_longest","itertools.pairwise"].contains n=false) (hQ:Q () s):wpAny M A (letOwnedTupleGo tg (.ref it) u) Q E s:=by
  unfold letOwnedTupleGo;cases tg<;>first
    | exact wpAny_pure hQ
    | (cases u<;>first
        | exact wpAny_pure hQ
        | (refine wpAny_bind (wpAny_load ho ?_)
           rw[hc,hd];show wpAny M A (if (["enumerate","zip","dict_itemiterator","dict_reverseitemiterator","odict_iterator","itertools.zip_longest","itertools.pairwise"].contains n&&vs[0]? == some (rawInt _))=true then _ else _) Q E s
           rw[if_neg (by intro h;rw[hn,Bool.false_and]at h;cases h)];exact wpAny_pure hQ))
noncomputable def Itl (K:PySem.W.Frag)(a:Addr):It:=
 ⟨λi H=>∃xs x,SqL K H a xs/\xs[i]? = some x,λi H x H'=>H'=H/\∀xs,SqL K H a xs->xs[i]? = some x,λi H=>∃xs,SqL K H a xs/\xs.length<=i⟩
noncomputable def Itr (lo:Int)(n:Nat):It:=⟨λi _=>i<n,λi H x H'=>H'=H/\x=.int (lo+i),λi _=>n<=i⟩
theorem ziC {P:Program}{w:World}{K:PySem.W.Frag}{tg:Expr}(a it:Addr):Turn P w K tg (Itl K a) [it] it (λi h=>h.IsListIter it a i) where
 mem:=by simp
 obj:=λi h st b hb=>by
  have e:b=it:=by simpa using hb
  subst e;obtain⟨o,e,c,d⟩:=st;exact⟨o,e,λv z=>by rw[d]at z;cases z⟩
 keep:=λi h h' st k=>st.at λo e=>k it (by simp) o e
 item:=by
  intro X hP hw hK hc i pins s σ H E I hf st hg;subst hP hw hK;obtain⟨xs,x,hq,hx⟩:=hg;obtain⟨its,rv,p,hz⟩:=I.list hq;obtain⟨u,hu,ru⟩:=rv.get hx;obtain⟨f0,f1,f2,f3,f4,f5⟩:=hf it (by simp);refine wpAny_pyNext_list_item st p.isList (x:=u) (by simpa using hu) λh' st' sb=>?_;have I1:Inv X pins σ H { s with heap:=h' }:=I.turned (t':=s.toks) (λb o hb e=>(sb.2 b hb).trans e) f0 f1 f3 f4 f5;obtain⟨o,e,c,d⟩:=id st';exact⟨u,rfl,zkh (s:={ s with heap:=h' }) e c d (by decide) ⟨x,H,I1,ru,⟨rfl,λys hy=>by rw[I.zhb hy hq];exact hx⟩,st',λb hb=>(hf b hb).1⟩⟩
 done:=by
  intro X hP hw hK hc i pins s σ H E I hf st hg;subst hP hw hK;obtain⟨xs,hq,hx⟩:=hg;obtain⟨its,rv,p,hz⟩:=I.list hq;obtain⟨f0,f1,f2,f3,f4,f5⟩:=hf it (by simp);have hl:=rv.length;exact wpAny_pyNext_list_end (I.ok.hd hc) st p.isList (by simp;lia) λh' eb=>⟨rfl,I.turned (t':=s.toks) (λb o hb e=>eb b o hb e) f0 f1 f3 f4 f5⟩
 self:=λ_ _ _ _ _ st h=>wpAny_pyIter_listiter st h
theorem zhQ {P:Program}{w:World}{K:PySem.W.Frag}{tg:Expr}(it:Addr)(lo:Int)(n:Nat):Turn P w K tg (Itr lo n) [it] it (λi h=>IsRangeIter h it (lo+(i:Nat)*1) ((n:Int)-(i:Nat)) 1) where
 mem:=by simp
 obj:=λi h st b hb=>by
  have e:b=it:=by simpa using hb
  subst e;exact⟨_,st,λv z=>by
   have z':Data.fields _=Data.cell v:=z;cases z'⟩
 keep:=λi h h' st k=>k it (by simp) _ st
 item:=by
  intro X hP hw hK hc i pins s σ H E I hf st hg;subst hP hw hK;obtain⟨f0,f1,f2,f3,f4,f5⟩:=hf it (by simp);have W:=Walks.range (prog:=X.prog) (w:=X.w) (I.ok.hd hc) it lo 1 n;refine W.item i s _ _ hg st λv h' tk hv st' kk=>?_;obtain⟨t,rfl⟩:=hv;have I1:Inv X pins σ H { s with heap:=h',toks:=tk }:=I.turned (λb o hb e=>kk b o (by simpa using hb) e) f0 f1 f3 f4 f5;refine⟨_,rfl,zkh (s:={ s with heap:=h',toks:=tk }) (n:="range_iterator") st' rfl rfl (by decide) ⟨.int (lo+i),H,I1,⟨t,?_⟩,⟨rfl,rfl⟩,st',λb hb=>(hf b hb).1⟩⟩;rw[Int.mul_one]
 done:=by
  intro X hP hw hK hc i pins s σ H E I hf st hg;subst hP hw hK;obtain⟨f0,f1,f2,f3,f4,f5⟩:=hf it (by simp);exact wpAny_pyNext_range_end (I.ok.hd hc) st (by have:n<=i:=hg;lia) λh' eb=>⟨rfl,I.turned (t':=s.toks) (λb o hb e=>eb b o hb e) f0 f1 f3 f4 f5⟩
 self:=λ_ _ _ _ _ st h=>wpAny_pyIter_rangeiter st h
section
variable {X:Cx}{tg:Expr}
noncomputable def zoC (K:PySem.W.Frag)(tl:TE):TI:=λσ H R=>tl σ H λx H1=>∃a,x=.ref a/\(∃xs,SqL K H1 a xs)/\R (Itl K a) H1
theorem ziD {l:Expr}{tl:TE}(hl:PE X l tl):PI X tg l (zoC X.K tl):=by
 intro pins s σ H R I h;refine thn (hl pins s σ H _ I h) λv s1 q10q=>?_;obtain⟨x,H1,I1,r1,q1⟩:=q10q;obtain⟨a,e,⟨xs,hq⟩,q⟩:=q1;subst e;cases r1;obtain⟨its,rv,p,hz⟩:=I1.list hq;refine wpAny_pyIter_list p.isList ?_;refine⟨s1.heap.objs.size,[s1.heap.objs.size],_,_,H1,rfl,I1.kept (t':=s1.toks) λb o e=>Heap.get?_push_of_some _ e,ziC a _,⟨_,Heap.get?_push_size _ rfl,rfl,rfl⟩,λb hb=>?_,q⟩;have e:b=s1.heap.objs.size:=by simpa using hb
 subst e;exact I1.fpOk (Nat.le_refl _) (I1.hok.fresh (Nat.le_refl _))
theorem zki {pins:List (Addr×Obj)}{σ:St}{H:Hp}{s:Shared}{R:It->Hp->Prop}{E:Value->Shared->Prop}{lo hi:Int}{t u v:Tok}{tk:Nat}(I:Inv X pins σ H s)(h1:-(2 ^ 62)<=lo)(h2:lo<2 ^ 62)(h3:-(2 ^ 62)<=hi)(h4:hi<2 ^ 62)
  (q:R (Itr lo (hi-lo).toNat) H):wpAny (model X.prog X.w) X.A (pyIter (.ref s.heap.objs.size)) (PIE X pins σ tg R) E { s with heap:=s.heap.push { cls:=.type "range",data:=.fields #[.int lo t,.int hi u,.int 1 v] },toks:=tk }:=by
 refine wpAny_pyIter_range (IsRange.new ..) (small_one h1 h2 h3 h4) ?_;have I1:Inv X pins σ H { s with heap:=s.heap.push { cls:=.type "range",data:=.fields #[.int lo t,.int hi u,.int 1 v] },toks:=tk }:=I.kept λb o e=>Heap.get?_push_of_some _ e;refine⟨(s.heap.push { cls:=.type "range",data:=.fields #[.int lo t,.int hi u,.int 1 v] }).objs.size,[(s.heap.push { cls:=.type "range",data:=.fields #[.int lo t,.int hi u,.int 1 v] }).objs.size],_,_,H,rfl,
  I1.kept (t':=tk) λb o e=>Heap.get?_push_of_some _ e,zhQ _ lo (hi-lo).toNat,?_,λb hb=>?_,q⟩
 ·have e1:lo+((0:Nat):Int)*1=lo:=by simp
  have e2:(((hi-lo).toNat:Nat):Int)-((0:Nat):Int)=Builtin.Range.rangeSize lo hi 1:=by rw[rangeSize_one];split<;>lia
  show IsRangeIter _ _ (lo+((0:Nat):Int)*1) ((((hi-lo).toNat:Nat):Int)-((0:Nat):Int)) 1;rw[e1,e2];exact Heap.get?_push_size _ rfl
 ·have e:b=(s.heap.push { cls:=.type "range",data:=.fields #[.int lo t,.int hi u,.int 1 v] }).objs.size:=by simpa using hb
  subst e;exact I1.fpOk (Nat.le_refl _) (I1.hok.fresh (Nat.le_refl _))
noncomputable def zoD (ta:TA):TI:=λσ H R=>ta σ H λvs H1=>∃j:Int,vs=[.int j]/\-(2 ^ 62)<=j/\j<2 ^ 62/\R (Itr 0 j.toNat) H1
theorem ziE {a:Expr}{ta:TA}{p pos:Pos}(hg:Gl X "range") (hm:X.mg "range" = none) (ha:PA X [a] ta) (hs:autoParam (starEach [a] X.env=[(false,eval a X.env)]) aU0):PI X tg (.Call (.Name "range" p) [a] [] pos) (zoD ta):=by
 intro pins s σ H R I h;refine Call_ (zha I hg hm boot_range (PyProof.Rows.callWith_type1 (thn (ha pos pins s σ H _ I h) λus s1 q11q=>?_) hs rfl));obtain⟨vs,H1,I1,r1,q1⟩:=q11q;obtain⟨j,e,q1,q2,q⟩:=q1;subst e;cases r1 with
 | cons r rr=>
  cases rr;obtain⟨t,rfl⟩:=r;exact call_range_1 (zki I1 (by lia) (by lia) q1 q2 (by simpa using q))
noncomputable def tFor (wi:TI)(g:TG)(tb:TS):TS:=λD σ H=>wi σ H λJ H1=>∃W:Nat->Nat->St->Hp->Prop,(∃m,W 0 m σ H1)/\∀i m σ H,W i m σ H->
 (J.stop i H/\D.nx σ H)\/(J.go i H/\∃N:St->Hp->Prop,(∀σ' H',N σ' H'->∃m',m'<m/\W (i+1) m' σ' H')/\∀x H',J.yld i H x H'->g x σ H' λσ2 H2=>tb { D with nx:=N,ct:=N,bk:=D.nx } σ2 H2)
noncomputable def zey (fp:List Addr)(h:Heap):List (Addr×Obj):=fp.filterMap λb=>(h.get? b).map λo=>(b,o)
theorem zbr {fp:List Addr}{h:Heap}{b:Addr}{o:Obj}(hb:b∈fp)(e:h.get? b=some o):(b,o)∈zey fp h:=List.mem_filterMap.mpr ⟨b,hb,by rw[e];rfl⟩
theorem ziF {fp:List Addr}{h:Heap}{p:Addr×Obj}(hp:p∈zey fp h):p.1∈fp/\h.get? p.1=some p.2:=by
 obtain⟨b,hb,e⟩:=List.mem_filterMap.mp hp;cases q:h.get? b with
 | none=>rw[q]at e;cases e
 | some o=>
  rw[q]at e;have e':(b,o)=p:=Option.some.inj e;subst e';exact⟨hb,q⟩
theorem Inv.pinned {pins:List (Addr×Obj)}{σ:St}{H:Hp}{s:Shared}{fp:List Addr}(I:Inv X pins σ H s)(hf:∀b∈fp,FpOk X pins H b)(ho:∀b∈fp,∃o,s.heap.get? b=some o/\∀v,o.data≠.cell v):Inv X (pins++zey fp s.heap) σ H s:=
 I.ziy λp hp=>(List.mem_append.mp hp).elim (λz=>I.pin p (List.mem_append_right _ z)) λz=>by
  obtain⟨hb,e⟩:=ziF z;obtain⟨f0,f1,f2,_⟩:=hf p.1 hb;obtain⟨o,e',d⟩:=ho p.1 hb;rw[e]at e';cases e';exact⟨e,f0,f1,f2,d⟩
theorem Inv.zbN {pins pl:List (Addr×Obj)}{σ:St}{H:Hp}{s:Shared}(I:Inv X (pins++pl) σ H s):Inv X pins σ H s:=I.ziy λp hp=>I.pin p (List.mem_append_right _ (List.mem_append_left _ hp))
theorem zni {iter:Expr}{body:List Stmt}{wi:TI}{g:TG}{tb:TS}{pos:Pos}(hp:PassesOwn (model X.prog X.w) X.A X.env X.xe)(hc:X.calm=true)(hi:PI X tg iter wi)(hg:PG X tg g)(hb:PSs X body tb)
  (hs:autoParam (∀x,foldedSetIterable iter X.env x=pure x) aU3):PS X (.For tg iter body [] pos) (tFor wi g tb):=by
 intro pins s σ H D I h;refine wpAny_For (thn (hi pins s σ H _ I h) λv s1 h1=>thn h1 λitv s2 h2=>?_) hs;obtain⟨it,fp,tn,J,H2,e,I2,T,st2,f2,W,⟨m0,w0⟩,turn⟩:=h2;subst e;have stat:∀ {H':Hp},(∀b∈fp,H' b=none)->∀b∈fp,FpOk X pins H' b:=λhn b hb=>⟨hn b hb,(f2 b hb).2⟩;refine codeAny_forLoop_any (λn s'=>∃i σ' H',Inv X pins σ' H' s'/\tn i s'.heap/\(∀b∈fp,H' b=none)/\W i n σ' H') ?_ m0 ⟨0,σ,H2,I2,st2,λb hb=>(f2 b hb).1,w0⟩;rintro n s3 ⟨i,σ3,H3,I3,st3,fr3,w3⟩;rcases turn i n σ3 H3 w3 with ⟨stop,qn⟩ | ⟨go,N,hN,step⟩
 ·refine wpAny_passesOwn hp (thn (T.done X rfl rfl rfl hc i pins s3 σ3 H3 X.xe I3 (stat fr3) st3 stop) λr s4 q12q=>?_);obtain⟨hr,I4⟩:=q12q;subst hr;exact wpAny_execs_nil ⟨σ3,H3,I4,qn⟩
 ·refine wpAny_passesOwn hp (thn (T.item X rfl rfl rfl hc i pins s3 σ3 H3 X.xe I3 (stat fr3) st3 go) λr s4 q13q=>?_);obtain⟨u,hr,h4⟩:=q13q;subst hr;refine wpAny_passesOwn hp (thn h4 λ_ s5 q14q=>?_);obtain⟨x,H5,I5,r5,y5,st5,fr5⟩:=q14q;have I5':=I5.pinned (stat fr5) (T.obj _ _ st5);refine wpAny_passesOwn hp (thn (hg _ s5 σ3 H5 x u _ I5' r5 (step x H5 y5)) λ_ s6 q15q=>?_);obtain⟨σ6,H6,I6,q6⟩:=q15q;refine wpAny_passesOwn hp (thn (hb _ s6 σ6 H6 _ I6 q6) λf s7 q7=>?_);have again:∀ {σ7:St} {H7:Hp},Inv X (pins++zey fp s5.heap) σ7 H7 s7->N σ7 H7->∃m,m<n/\∃i σ' H',Inv X pins σ' H' s7/\tn i s7.heap/\(∀b∈fp,H' b=none)/\W i m σ' H':=λ{σ7 H7} I7 n7=>by
   obtain⟨m',hm,w7⟩:=hN σ7 H7 n7;refine⟨m',hm,i+1,σ7,H7,I7.zbN,T.keep _ _ _ st5 λb hb o e=>(I7.pin (b,o) (List.mem_append_right _ (List.mem_append_right _ (zbr hb e)))).1,λb hb=>?_,w7⟩;obtain⟨o,e,d⟩:=T.obj _ _ st5 b hb;exact(I7.pin (b,o) (List.mem_append_right _ (List.mem_append_right _ (zbr hb e)))).2.1
  cases f with
  | next=>obtain⟨σ7,H7,I7,n7⟩:=q7;exact again I7 n7
  | cont=>obtain⟨σ7,H7,I7,n7⟩:=q7;exact again I7 n7
  | brk=>obtain⟨σ7,H7,I7,q7⟩:=q7;exact⟨σ7,H7,I7.zbN,q7⟩
  | ret v=>obtain⟨x7,σ7,H7,I7,r7,q7⟩:=q7;exact⟨x7,σ7,H7,I7.zbN,r7,q7⟩
end
noncomputable abbrev R2:=V->V->Hp->VK->Prop
noncomputable def OpR (X:Cx)(f:Value->Value->Sem Value)(r:R2):Prop:=
 ∀(pins:List (Addr×Obj)) (s:Shared) (σ:St) (H:Hp) (x y:V) (v u:Value) (Q:VK),Inv X pins σ H s->RelV x v->RelV y u->r x y H Q->
  wpAny (model X.prog X.w) X.A (f v u) (EP X pins σ Q) X.xe s
noncomputable def zcq (X:Cx)(f:Value)(r:List V->Hp->VK->Prop):Prop:=
 ∀(pins:List (Addr×Obj)) (s:Shared) (σ:St) (H:Hp) (xs:List V) (us:List Value) (Q:VK),Inv X pins σ H s->Vals xs us->r xs H Q->
  wpAny (model X.prog X.w) X.A (call f us) (EP X pins σ Q) X.xe s
noncomputable def TruR (X:Cx)(r:V->Hp->(Bool->Hp->Prop)->Prop):Prop:=
 ∀(pins:List (Addr×Obj)) (s:Shared) (σ:St) (H:Hp) (x:V) (v:Value) (Q:Bool->Hp->Prop),Inv X pins σ H s->RelV x v->r x H Q->
  wpAny (model X.prog X.w) X.A (truthy v) (TP X pins σ Q) X.xe s
noncomputable def tOp (r:R2)(ta tb:TE):TE:=λσ H Q=>ta σ H λx H1=>tb σ H1 λy H2=>r x y H2 Q
noncomputable def rI (C:Int->Int->Prop)(g:Int->Int->V):R2:=λx y H Q=>∃i j,x=.int i/\y=.int j/\C i j/\Q (g i j) H
noncomputable def rI0 (g:Int->Int->V):R2:=λx y H Q=>∃i j,x=.int i/\y=.int j/\Q (g i j) H
section
variable {X:Cx}{a b c:Expr}{ta tb tc:TE}{pos:Pos}
theorem binT (ha:PE X a ta)(hb:PE X b tb){pins:List (Addr×Obj)}{s:Shared}{σ:St}{H:Hp}{R:V->V->Hp->Prop}(I:Inv X pins σ H s)
  (h:ta σ H λx H1=>tb σ H1 λy H2=>R x y H2) {Q:Value->Shared->Prop} {f:Value->Value->Sem Value}
  (hf:∀v u s2 x y H2,Inv X pins σ H2 s2->RelV x v->RelV y u->R x y H2->wpAny (model X.prog X.w) X.A (f v u) Q X.xe s2) :
  wpAny (model X.prog X.w) X.A (eval a X.env) (λv s₁=>wpAny (model X.prog X.w) X.A (eval b X.env) (λu s₂=>wpAny (model X.prog X.w) X.A (f v u) Q X.xe s₂) X.xe s₁) X.xe s:=by
 refine thn (ha pins s σ H _ I h) λv s1 q16q=>?_;obtain⟨x,H1,I1,r1,q1⟩:=q16q;refine thn (hb pins s1 σ H1 _ I1 q1) λu s2 q17q=>?_;obtain⟨y,H2,I2,r2,q2⟩:=q17q;exact hf v u s2 x y H2 I2 r1 r2 q2
theorem zoE {op:Operator}{r:R2}(ho:OpR X (binaryOp op) r)(ha:PE X a ta)(hb:PE X b tb):PE X (.BinOp a op b pos) (tOp r ta tb):=by
 intro pins s σ H Q I h;exact wpAny_BinOp (binT ha hb I h λv u s2 x y H2 I2 rx ry q=>ho pins s2 σ H2 x y v u Q I2 rx ry q)
theorem opI {f:Value->Value->Sem Value}{C:Int->Int->Prop}{g:Int->Int->Int}
  (rule:∀(i j:Int) (t u:Tok) (s:Shared) (Q:Value->Shared->Prop) (E:Value->Shared->Prop),C i j->Q (.int (g i j) s.toks) { s with toks:=s.toks+1 }->wpAny (model X.prog X.w) X.A (f (.int i t) (.int j u)) Q E s) :
  OpR X f (rI C λi j=>.int (g i j)):=by
 intro pins s σ H x y v u Q I rx ry h;obtain⟨i,j,rfl,rfl,hc,q⟩:=h;obtain⟨t,rfl⟩:=rx;obtain⟨t',rfl⟩:=ry;exact rule i j t t' s _ _ hc ⟨.int (g i j),H,I.tok _,⟨_,rfl⟩,q⟩
theorem opI0 {f:Value->Value->Sem Value}{g:Int->Int->Int}
  (rule:∀(i j:Int) (t u:Tok) (s:Shared) (Q:Value->Shared->Prop) (E:Value->Shared->Prop),Q (.int (g i j) s.toks) { s with toks:=s.toks+1 }->wpAny (model X.prog X.w) X.A (f (.int i t) (.int j u)) Q E s) :
  OpR X f (rI0 λi j=>.int (g i j)):=by
 intro pins s σ H x y v u Q I rx ry h;obtain⟨i,j,rfl,rfl,q⟩:=h;obtain⟨t,rfl⟩:=rx;obtain⟨t',rfl⟩:=ry;exact rule i j t t' s _ _ ⟨.int (g i j),H,I.tok _,⟨_,rfl⟩,q⟩
theorem opB0 {f:Value->Value->Sem Value}{g:Int->Int->Bool}
  (rule:∀(i j:Int) (t u:Tok) (s:Shared) (Q:Value->Shared->Prop) (E:Value->Shared->Prop),Q (.bool (g i j)) s->wpAny (model X.prog X.w) X.A (f (.int i t) (.int j u)) Q E s) :
  OpR X f (rI0 λi j=>.bl (g i j)):=by
 intro pins s σ H x y v u Q I rx ry h;obtain⟨i,j,rfl,rfl,q⟩:=h;obtain⟨t,rfl⟩:=rx;obtain⟨t',rfl⟩:=ry;exact rule i j t t' s _ _ ⟨.bl (g i j),H,I,rfl,q⟩
noncomputable def CMul (i j:Int):Prop:=(-(2 ^ 64)<i/\i<2 ^ 64)\/(-(2 ^ 64)<j/\j<2 ^ 64)
theorem CMul.ok {i j:Int}(h:CMul i j):IntMulOk i j:=by
 rcases h with ⟨h1,h2⟩ | ⟨h1,h2⟩
 ·exact .of_left (intBits_le_64 h1 h2)
 ·exact .of_right (intBits_le_64 h1 h2)
theorem zhR (k:Nat):(0:Int)<=2 ^ k:=by
 rw[two_pow_cast];exact Int.natCast_nonneg _
theorem znj:OpR X (binaryOp .Add) (rI0 λi j=>.int (i+j)):=opI0 λ_ _ _ _ _ _ _ q=>add_int q
theorem znk:OpR X (binaryOp .Mult) (rI CMul λi j=>.int (i*j)):=opI λ_ _ _ _ _ _ _ hc q=>mul_int q hc.ok
theorem znl:OpR X (binaryOp .Mod) (rI (λ_ j=>0<j) λi j=>.int (i % j)):=opI λi j _ _ _ _ _ hc q=>by
 have h1:(0:Int)<j:=hc;exact mod_int' (by lia) (by rw[Int.fmod_eq_emod_of_nonneg i (by lia)];exact q)
theorem znm:OpR X (binaryOp .RShift) (rI (λ_ j=>0<=j) λi j=>.int (i / 2 ^ j.toNat)):=opI λi j _ _ _ _ _ hc q=>
 rshift_int hc (by rw[Int.fdiv_eq_ediv_of_nonneg i (zhR _)];exact q)
end
section
variable {X:Cx}{a b c:Expr}{ta tb tc:TE}{pos:Pos}
theorem zhc {pins:List (Addr×Obj)}{σ:St}{H:Hp}{s:Shared}{Q:VK}{k k':Bool}(I:Inv X pins σ H s)(q:Q (.bl k) H)(e:k=k'):EP X pins σ Q (.bool k') s:=by
 subst e;exact⟨.bl k,H,I,rfl,q⟩
theorem zoF:OpR X (compareOp .Lt) (rI0 λi j=>.bl (decide (i<j))):=opB0 λ_ _ _ _ _ _ _ q=>lt_int q
theorem znn:OpR X (compareOp .LtE) (rI0 λi j=>.bl (decide (i<=j))):=opB0 λ_ _ _ _ _ _ _ q=>le_int q
theorem zoG:OpR X (compareOp .Gt) (rI0 λi j=>.bl (decide (j<i))):=opB0 λ_ _ _ _ _ _ _ q=>gt_int q
theorem ziG:OpR X (compareOp .In) (λx y H Q=>∃i j,x=.str i/\y=.str j/\Q (.bl (!(Builtin.Str.occurrences j i 0 j.length 1).isEmpty)) H):=by
 intro pins s σ H x y v u Q I rx ry h;obtain⟨i,j,rfl,rfl,q⟩:=h;obtain⟨t,rfl⟩:=rx;obtain⟨t',rfl⟩:=ry;exact in_str (zhc I q rfl)
theorem zls:OpR X (compareOp .Is) (λx y H Q=>y=.non/\Q (.bl (decide (x=.non))) H):=by
 intro pins s σ H x y v u Q I rx ry h;obtain⟨rfl,q⟩:=h;cases ry;refine is_none_gen (zhc I q ?_);cases x<;>first
  | (cases rx;rfl)
  | (obtain⟨t,rfl⟩:=rx;rfl)
theorem zlR:OpR X (compareOp .IsNot) (λx y H Q=>y=.non/\Q (.bl (!decide (x=.non))) H):=by
 intro pins s σ H x y v u Q I rx ry h;obtain⟨rfl,q⟩:=h;cases ry;refine isnot_none_gen (zhc I q ?_);cases x<;>first
  | (cases rx;rfl)
  | (obtain⟨t,rfl⟩:=rx;rfl)
theorem zfq:OpR X (compareOp .NotIn) (λx y H Q=>∃i j,x=.str i/\y=.str j/\Q (.bl (!(!(Builtin.Str.occurrences j i 0 j.length 1).isEmpty))) H):=by
 intro pins s σ H x y v u Q I rx ry h;obtain⟨i,j,rfl,rfl,q⟩:=h;obtain⟨t,rfl⟩:=rx;obtain⟨t',rfl⟩:=ry;exact notIn_str (zhc I q rfl)
theorem zbU (b:Expr){op:CmpOp}(h:autoParam (op≠.In) aU1)(h2:autoParam (op≠.NotIn) aU1):behindInMarks op b=false:=by
 have e1:(op == CmpOp.In)=false:=by cases op<;>first | rfl | exact absurd rfl h
 have e2:(op == CmpOp.NotIn)=false:=by cases op<;>first | rfl | exact absurd rfl h2
 cases b<;>simp[behindInMarks,e1,e2]
theorem zlS {op:CmpOp}{r:R2}(ho:OpR X (compareOp op) r)(ha:PE X a ta)(hb:PE X b tb)(hm:behindInMarks op b=false):PE X (.Compare a [op] [b] pos) (tOp r ta tb):=by
 intro pins s σ H Q I h;exact wpAny_Compare1 (binT ha hb I h λv u s2 x y H2 I2 rx ry q=>ho pins s2 σ H2 x y v u Q I2 rx ry q) hm
noncomputable def zno (t:TE):TT:=λσ H Q=>t σ H λx H'=>∃k,x=.bl k/\Q k H'
theorem ziH {op:CmpOp}{r:R2}(ho:OpR X (compareOp op) r)(ha:PE X a ta)(hb:PE X b tb)(hm:behindInMarks op b=false):PT X (.Compare a [op] [b] pos) (zno (tOp r ta tb)):=by
 intro pins s σ H Q I h;refine wpAny_isTrue_Compare1 (thn (ha pins s σ H _ I h) λv s1 ⟨x,H1,I1,r1,q1⟩=>thn (hb pins s1 σ H1 _ I1 q1) λu s2 ⟨y,H2,I2,r2,q2⟩=>
  thn (ho pins s2 σ H2 x y v u _ I2 r1 r2 q2) λc s3 ⟨z,H3,I3,r3,k,e,q3⟩=>?_) hm
 subst e;cases r3;exact wpAny_truthy_bool ⟨H3,I3,q3⟩
noncomputable def zlt (r r':R2)(ta tb tc:TE):TE:=λσ H Q=>ta σ H λx H1=>tb σ H1 λy H2=>r x y H2 λz H3=>∃k,z=.bl k/\
 (if k=true then tc σ H3 λw' H4=>r' y w' H4 Q else Q (.bl false) H3)
theorem zkj {op op':CmpOp}{r r':R2}(ho:OpR X (compareOp op) r)(ho':OpR X (compareOp op') r')(ha:PE X a ta)(hb:PE X b tb)(hc:PE X c tc)
  (hm:autoParam (lastMarks [op,op'] [b,c]=false) aU6):PT X (.Compare a [op,op'] [b,c] pos) (zno (zlt r r' ta tb tc)):=by
 intro pins s σ H Q I h;refine isTrue_chain (thn (ha pins s σ H _ I h) λv s1 ⟨x,H1,I1,r1,q1⟩=>test_link (thn (hb pins s1 σ H1 _ I1 q1) λu s2 ⟨y,H2,I2,r2,q2⟩=>
  thn (ho pins s2 σ H2 x y v u _ I2 r1 r2 q2) λd s3 ⟨z,H3,I3,r3,k,e,q3⟩=>?_)) hm
 subst e;cases r3;refine wpAny_truthy_bool ?_;cases k with
 | false=>
  obtain⟨k',e',q'⟩:=q3;cases e';exact ite_ff ⟨H3,I3,q'⟩
 | true=>
  refine ite_tt (test_last (thn (hc pins s3 σ H3 _ I3 q3) λw' s4 ⟨z',H4,I4,r4,q4⟩=>thn (ho' pins s4 σ H4 y z' u w' _ I4 r2 r4 q4) λd' s5 q25q=>?_));obtain⟨z2,H5,I5,r5,k2,e2,q5⟩:=q25q;subst e2;cases r5;exact wpAny_truthy_bool ⟨H5,I5,q5⟩
noncomputable def TruV (K:PySem.W.Frag)(x:V)(H:Hp)(k:Bool):Prop:=
 match x with
 | .non=>k=false
 | .bl b=>k=b
 | .int i=>k=(i != 0)
 | .str y=>y.length<=sizeLine/\k=((y.length:Int) != 0)
 | .byt y=>y.size<=sizeLine/\k=((y.size:Int) != 0)
 | .ref p=>(∃xs,SqL K H p xs/\k = !xs.isEmpty)\/(∃xs,SqT K H p xs/\k = !xs.isEmpty)\/∃kvs,H p=some (.dK kvs)/\k = !kvs.isEmpty
 | _=>False
theorem zhS {κ:Type}{kvs:List (κ×V)}{vs:List (κ×Value)}(r:KV kvs vs):(!vs.isEmpty) = !kvs.isEmpty:=by
 cases r<;>rfl
theorem zez {xs:List V}{its:List Value}(r:Vals xs its):(!its.toArray.isEmpty) = !xs.isEmpty:=by
 cases r<;>simp
theorem zfr:(sizeLine:Nat)<2 ^ 63:=by rw[sizeLine_eq];decide
theorem znp:TruR X (λx H Q=>∃k,TruV X.K x H k/\Q k H):=by
 intro pins s σ H x v Q I rx h;obtain⟨k,e,q⟩:=h;have hl:=zfr;have hs:sizeLine=16777216:=sizeLine_eq;cases x with
 | non=>
  cases rx;have e':k=false:=e;subst e';exact truthy_none ⟨H,I,q⟩
 | bl b=>
  cases rx;have e':k=b:=e;subst e';exact wpAny_truthy_bool ⟨H,I,q⟩
 | int i=>
  obtain⟨t,rfl⟩:=rx;have e':k=(i != 0):=e;subst e';exact PySem.P.truthy_int ⟨H,I,q⟩
 | str y=>
  obtain⟨t,rfl⟩:=rx;obtain⟨hy,e'⟩:y.length<=sizeLine/\k=((y.length:Int) != 0):=e;subst e';exact PySem.P.truthy_str (by lia) ⟨H,I.tok _,q⟩
 | byt y=>
  obtain⟨t,rfl⟩:=rx;obtain⟨hy,e'⟩:y.size<=sizeLine/\k=((y.size:Int) != 0):=e;subst e';exact PySem.W.truthy_bytes (by lia) ⟨H,I.tok _,q⟩
 | ref p=>
  cases rx;have e':(∃xs,SqL X.K H p xs/\k = !xs.isEmpty)\/(∃xs,SqT X.K H p xs/\k = !xs.isEmpty)\/∃kvs,H p=some (.dK kvs)/\k = !kvs.isEmpty:=e;rcases e' with ⟨xs,hx,e'⟩ | ⟨xs,hx,e'⟩ | ⟨kvs,hx,e'⟩
  ·subst e';obtain⟨its,r,pl,hz⟩:=I.list hx;have hlen:=r.length;exact wpAny_truthy_list pl.isList (by simp only[List.size_toArray];lia) ⟨H,I.tok _,by rw[zez r];exact q⟩
  ·subst e';obtain⟨its,r,pl,hz⟩:=I.tuple hx;have hlen:=r.length;exact truthy_tuple pl (by simp only[List.size_toArray];lia) ⟨H,I.tok _,by rw[zez r];exact q⟩
  ·subst e';obtain⟨hz,hS,vs,r,m⟩:kvs.length<=sizeLine/\(p == sysModules)=false/\∃vs,KV kvs vs/\s.heap.DictOf (zaP X.prog X.w) p vs:=I.hok p _ hx;have hlen:kvs.length=vs.length:=Paired.length r;exact wpAny_truthy_dict hS m (by lia) ⟨H,I.tok _,by rw[zhS r];exact q⟩
 | _=>exact(show False from e).elim
theorem zkk (ha:PE X a ta)(he:∀whole,isTrue a X.env whole=(do let v <- whole;standAt a.pos;holding [v] (truthy v))) :
  PT X a (λσ H Q=>ta σ H λx H'=>∃k,TruV X.K x H' k/\Q k H'):=by
 intro pins s σ H Q I h;exact isTrue_plain (thn (ha pins s σ H _ I h) λv s1 q26q=>by obtain⟨x,H1,I1,r1,q1⟩:=q26q;exact znp pins s1 σ H1 x v Q I1 r1 q1) (he _)
theorem vals1 {x:V}{us:List Value}(r:Vals [x] us):∃u,us=[u]/\RelV x u:=by
 cases r with
 | cons r1 r2=>cases r2;exact⟨_,rfl,r1⟩
theorem vals2 {x y:V}{us:List Value}(r:Vals [x,y] us):∃u w',us=[u,w']/\RelV x u/\RelV y w':=by
 cases r with
 | cons r1 r2=>
  cases r2 with
  | cons r3 r4=>cases r4;exact⟨_,_,rfl,r1,r3⟩
noncomputable def LenV (K:PySem.W.Frag)(x:V)(H:Hp)(n:Nat):Prop:=
 match x with
 | .str y=>y.length<=sizeLine/\n=y.length
 | .byt y=>y.size<=sizeLine/\n=y.size
 | .ref p=>(∃xs,SqL K H p xs/\n=xs.length)\/∃xs,SqT K H p xs/\n=xs.length
 | _=>False
theorem zkl:zcq X (.builtin "len") (λxs H Q=>∃x n,xs=[x]/\LenV X.K x H n/\Q (.int n) H):=by
 intro pins s σ H xs us Q I r h;obtain⟨x,n,rfl,e,q⟩:=h;obtain⟨u,rfl,rx⟩:=vals1 r;have hl:=zfr;have hs:sizeLine=16777216:=sizeLine_eq;cases x with
 | str y=>
  obtain⟨t,rfl⟩:=rx;obtain⟨hy,e'⟩:y.length<=sizeLine/\n=y.length:=e;subst e';exact len_str (by lia) ⟨.int _,H,I.tok _,⟨_,rfl⟩,q⟩
 | byt y=>
  obtain⟨t,rfl⟩:=rx;obtain⟨hy,e'⟩:y.size<=sizeLine/\n=y.size:=e;subst e';exact PySem.W.len_bytes (by lia) ⟨.int _,H,I.tok _,⟨_,rfl⟩,q⟩
 | ref p=>
  cases rx;have e':(∃xs,SqL X.K H p xs/\n=xs.length)\/∃xs,SqT X.K H p xs/\n=xs.length:=e;rcases e' with ⟨xs,hx,e'⟩ | ⟨xs,hx,e'⟩
  ·subst e';obtain⟨its,r',pl,hz⟩:=I.list hx;have hlen:=r'.length;exact Calls.call_len_list pl.isList (by simp only[List.size_toArray];lia) ⟨.int xs.length,H,I.tok _,⟨_,by simp only[List.size_toArray];rw[hlen]⟩,q⟩
  ·subst e';obtain⟨its,r',pl,hz⟩:=I.tuple hx;have hlen:=r'.length;exact len_tuple pl (by simp only[List.size_toArray];lia) ⟨.int xs.length,H,I.tok _,⟨_,by simp only[List.size_toArray];rw[hlen]⟩,q⟩
 | _=>exact(show False from e).elim
end
structure Room (k:Nat)(A:Around):Prop where
 hd:A.handled=none
 dp:A.depth+3*k+5<recursionLimit
 un:A.units+16*k+200<cLine
theorem Room.mono {j k:Nat}{A:Around}(r:Room k A)(h:j<=k):Room j A:=⟨r.hd,by have:=r.dp;lia,by have:=r.un;lia⟩
theorem Room.deeper {k:Nat}{A:Around}(r:Room (k+1) A)(env:Env):Room k (A.deeper env):=
 ⟨r.hd,by have:=r.dp;show A.depth+1+3*k+5<_;lia,by have:=r.un;show A.units+3+16*k+200<_;lia⟩
theorem Room.depth {k:Nat}{A:Around}(r:Room k A):A.depth<recursionLimit:=by have:=r.dp;lia
theorem Room.units {k:Nat}{A:Around}(r:Room k A):A.units+64<cLine:=by have:=r.un;lia
noncomputable def tNil:TA:=λ_ H Q=>Q [] H
noncomputable def zoH (ta:TE)(tr:TA):TA:=λσ H Q=>ta σ H λx H1=>tr σ H1 λxs H2=>Q (x::xs) H2
section
variable {X:Cx}{e:Expr}{es:List Expr}{te:TE}{t:TA}{pos:Pos}
theorem zbh:PA X [] tNil:=λ_ _ _ _ H Q I h=>Calls.spliced_nil ⟨[],H,I,.nil,h⟩
theorem zaw (ha:PE X e te)(hr:PA X es t)(hs:autoParam (starEach (e::es) X.env=(false,eval e X.env)::starEach es X.env) aU0):PA X (e::es) (zoH te t):=by
 intro pos pins s σ H Q I h;rw[hs];show wpAny _ _ (spliced ((false,eval e X.env)::backTo pos (starEach es X.env))) _ _ s;refine Calls.spliced_cons (thn (ha pins s σ H _ I h) λu s1 q27q=>?_);obtain⟨x,H1,I1,r1,q1⟩:=q27q;exact thn (hr pos pins s1 σ H1 _ I1 q1) λus s2 q28q=>by obtain⟨xs,H2,I2,r2,q2⟩:=q28q;exact⟨x::xs,H2,I2,.cons r1 r2,q2⟩
noncomputable def tTup (t:TA):TE:=λσ H Q=>t σ H λxs H1=>xs.length<=sizeLine/\∀p,H1 p=none->Q (.ref p) (upd H1 p (.tup xs))
noncomputable def tLst (t:TA):TE:=λσ H Q=>t σ H λxs H1=>xs.length<=sizeLine/\∀p,H1 p=none->Q (.ref p) (upd H1 p (.lst xs))
theorem zlu {x1}(h:PA X es t):PE X (.Tuple es x1 pos) (tTup t):=by
 intro pins s σ H Q I hq;refine wpAny_Tuple_spliced (thn (h pos pins s σ H _ I hq) λus s1 ⟨xs,H1,I1,r,z,q⟩=>⟨by rw[<- r.length];exact z,?_⟩);have hf:H1 s1.heap.objs.size=none:=I1.hok.fresh (Nat.le_refl _);refine⟨.ref s1.heap.objs.size,upd H1 s1.heap.objs.size (.tup xs),I1.laid (t':=s1.toks) (λb u e=>Heap.get?_push_of_some _ e) (Nat.le_refl _) ?_,rfl,q _ hf⟩;exact⟨z,us,r,zcD.new _ _⟩
theorem znq (h:PA X es t):PE X (.List es pos) (tLst t):=by
 intro pins s σ H Q I hq;refine wpAny_List_spliced (thn (h pos pins s σ H _ I hq) λus s1 ⟨xs,H1,I1,r,z,q⟩=>⟨by rw[<- r.length];exact z,?_⟩);have hf:H1 s1.heap.objs.size=none:=I1.hok.fresh (Nat.le_refl _);refine⟨.ref s1.heap.objs.size,upd H1 s1.heap.objs.size (.lst xs),I1.laid (t':=s1.toks) (λb u e=>Heap.get?_push_of_some _ e) (Nat.le_refl _) ?_,rfl,q _ hf⟩;exact⟨z,us,0,r,Heap.get?_push_size _ rfl⟩
end
noncomputable abbrev Sp:=List V->Hp->VK->XK->Prop
noncomputable abbrev CXT:=List Env->Hp->Shared->XK->Value->Shared->Prop
structure Env0 (P:Program)(w:World)(K:PySem.W.Frag)(mg:Str->Option Value)(base:Heap)(A:Around)(outer:List Env)(s:Shared)(H:Hp):Prop where
 frames:A.frames=some outer
 mod:Mod K mg base
 bs:∀b o,base.get? b=some o->s.heap.get? b=some o/\H b=none
 bsz:base.objs.size<=s.heap.objs.size
 funs:s.heap.FunFrames base outer
 frf:∀b∈frs outer,H b=none
 hok:HOk P w H s.heap
 bare:AllBare s.gens
noncomputable def CE (outer:List Env)(P:Program)(w:World)(H:Hp)(s:Shared)(Q:VK)(u:Value)(s':Shared):Prop:=
 ∃v H',s'.os=s.os/\AllBare s'.gens/\Un (frs outer) [] H H' s.heap s'.heap/\HOk P w H' s'.heap/\RelV v u/\Q v H'
noncomputable def CR (CX:CXT)(outer:List Env)(P:Program)(w:World)(H:Hp)(s:Shared)(Q:VK)(E:XK)(r:Result)(s':Shared):Prop:=
 match r with
 | .ok (.ret u)=>CE outer P w H s Q u s'
 | .ok _=>False
 | .error e=>CX outer H s E e s'
structure FnOk (P:Program)(w:World)(K:PySem.W.Frag)(mg:Str->Option Value)(base:Heap)(CX:CXT)(k:Nat)(f:Addr)(fd:FuncData)(ps:List Str)(sp:Sp):Prop where
 len:∀vs H Q E,sp vs H Q E->vs.length=ps.length
 run:∀(A:Around) (outer:List Env) (s:Shared) (H:Hp) (args:Args) (us:List Value) (vs:List V) (Q:VK) (E:XK),Room k A->Env0 P w K mg base A outer s H->BindsTo s fd args (ps.zip us)->Vals vs us->sp vs H Q E->
  codeAny (model P w) A (.call (.ref f) args) (CR CX outer P w H s Q E) s
theorem FnOk.mono {P:Program}{w:World}{K:PySem.W.Frag}{mg:Str->Option Value}{base:Heap}{CX:CXT}{j k:Nat}{f:Addr}{fd:FuncData}{ps:List Str}{sp:Sp}(F:FnOk P w K mg base CX j f fd ps sp)(h:j<=k) :
  FnOk P w K mg base CX k f fd ps sp:=⟨F.len,λA outer s H args us vs Q E hr=>F.run A outer s H args us vs Q E (hr.mono h)⟩
section
variable {X:Cx}{pins:List (Addr×Obj)}{σ:St}{H:Hp}{s s':Shared}
theorem Inv.env0 (I:Inv X pins σ H s):Env0 X.prog X.w X.K X.mg X.base X.A X.stack s H:=
 ⟨I.ok.frames,I.ok.mod,I.bs,Nat.le_trans I.ok.bsz I.sz,I.stack,I.zgw,I.hok,I.bare⟩
theorem Inv.after {Q:VK}{u:Value}(I:Inv X pins σ H s)(h:CE X.stack X.prog X.w H s Q u s'):EP X pins σ Q u s':=by
 obtain⟨v,H',os,bare,un,hok,r,q⟩:=h;obtain⟨hh,g,d,t,os'⟩:=s';obtain rfl:os'=s.os:=os;exact⟨v,H',I.call (h':=hh) (g':=g) (d':=d) (t':=t) (ch:=[]) un hok bare (λb z=>absurd z (by simp)),r,q⟩
end
noncomputable def znr (sp:Sp)(dvs:List V)(E:XK)(t:TA):TE:=λσ H Q=>t σ H λvs H1=>sp (vs++dvs) H1 Q E
noncomputable def Binds (K:PySem.W.Frag)(fd:FuncData)(ps:List Str)(ds:List Value):Prop:=
 ∀(s:Shared) (us:List Value),K.In s.heap->(us++ds).length=ps.length->BindsTo s fd ⟨us,[]⟩ (ps.zip (us++ds))
theorem Binds.all {K:PySem.W.Frag}{fd:FuncData}{ps:List Str}(h:∀us:List Value,us.length=ps.length->bindArgs fd ⟨us,[]⟩=pure (ps.zip us)):Binds K fd ps []:=λs us _ hl=>by
 rw[List.append_nil]at hl ⊢;exact .of_eq (h us hl)
noncomputable def zeA (CX:CXT)(X:Cx)(E:XK):Prop:=∀(pins:List (Addr×Obj))(σ:St)(H:Hp)(s:Shared)(e:Value)(s':Shared),Inv X pins σ H s->CX X.stack H s E e s'->X.xe e s'
section
variable {X:Cx}{CX:CXT}{k:Nat}{f C:Addr}{fd:FuncData}{ps:List Str}{sp:Sp}{dvs:List V}{ds:List Value}{E:XK}{x m:Str}{p pos apos:Pos}{e o:Expr}{es:List Expr}{ta:TE}{t:TA}
theorem zns {pins:List (Addr×Obj)}{σ:St}{H:Hp}{s:Shared}{Q:VK}{us:List Value}{vs:List V}(F:FnOk X.prog X.w X.K X.mg X.base CX k f fd ps sp)(hr:Room k X.A)(hb:Binds X.K fd ps ds)(hd:Vals dvs ds)(hx:zeA CX X E)
  (I:Inv X pins σ H s) (r:Vals vs us) (h:sp (vs++dvs) H Q E):wpAny (model X.prog X.w) X.A (call (.ref f) us) (EP X pins σ Q) X.xe s:=by
 have r2:Vals (vs++dvs) (us++ds):=r.append hd;have hl:(us++ds).length=ps.length:=by rw[<- r2.length];exact F.len _ _ _ _ h
 refine wpAny_call (codeAny_mono (F.run X.A X.stack s H ⟨us,[]⟩ (us++ds) (vs++dvs) Q E hr I.env0 (hb s us I.kIn hl) r2 h) λr s' hq=>?_);cases r with
 | error e=>exact hx pins σ H s e s' I hq
 | ok fl=>
  cases fl with
  | ret u=>exact I.after hq
  | next=>exact False.elim hq
  | brk=>exact False.elim hq
  | cont=>exact False.elim hq
theorem ziI (F:FnOk X.prog X.w X.K X.mg X.base CX k f fd ps sp)(hr:Room k X.A)(hg:Gl X x)(hm:X.mg x=some (.ref f))(hk:PySem.W.keepIn X.K (.ref f)=true)(hb:Binds X.K fd ps ds)(hd:Vals dvs ds)(hx:zeA CX X E)
  (ha:PA X (e::es) t) (hdb:autoParam ((x == ("__debug__" : Str))=false) aU1) (he:autoParam (starEach (e::es) X.env=(false,eval e X.env)::starEach es X.env) aU0) (hpl:autoParam ((backTo pos (starEach es X.env)).any (·.1)=false) aU0) :
  PE X (.Call (.Name x p) (e::es) [] pos) (znr sp dvs E t):=by
 intro pins s σ H Q I h;refine wpAny_Call_Name_kw (zdG I hg hm ?_ hdb);refine PySem.W.callWith_K (h₀:=X.base) I.ok.mod.kin hk (thn (ha pos pins s σ H _ I h) λus s1 ⟨vs,H1,I1,r,q⟩=>⟨I1.kIn,?_⟩) he hpl;exact zns F hr hb hd hx I1 r q
end
structure zas (N P:List Str)(sc:Scope):Prop where
 kind:sc.kind=.function
 co:sc.isCoroutine=false
 gen:sc.isGenerator=false
 nd:N.Nodup
 pre:N.take P.length=P
 par:∀x∈P,sc.names.lookup x=some .local\/sc.names.lookup x=some .cell
 nofree:∀y∈sc.names,y.2≠.free
theorem zfs {kindOf:Str->Option NameKind}{x:Str}:∀ {binds:List (Str×Value)}{m:Str->Option Value},(∀v,(x,v)∉binds)->bindL kindOf binds m x=m x
 | [],_,_=>rfl
 | (n,v)::r,m,h=>by
  unfold bindL;rw[zfs λw hw=>h w (List.mem_cons_of_mem _ hw)];split
  ·have:x≠n:=by rintro rfl;exact h v List.mem_cons_self
   simp[this]
  ·rfl
theorem zft {kindOf:Str->Option NameKind}{x:Str}:∀ {binds:List (Str×Value)}{m:Str->Option Value},(∀v,(x,v)∉binds)->bindC kindOf binds m x=m x
 | [],_,_=>rfl
 | (n,v)::r,m,h=>by
  unfold bindC;rw[zft λw hw=>h w (List.mem_cons_of_mem _ hw)];split
  ·rfl
  ·have:x≠n:=by rintro rfl;exact h v List.mem_cons_self
   simp[this]
theorem zfu {kindOf:Str->Option NameKind}{x:Str}{v:Value}:∀ {P:List Str}{vs:List Value}{i:Nat}{m:Str->Option Value},P.Nodup->P[i]? = some x->vs[i]? = some v->kindOf x=some .local->
  bindL kindOf (P.zip vs) m x=some v
 | [],_,_,_,_,h,_,_=>by simp at h
 | _::_,[],_,_,_,_,h,_=>by simp at h
 | p::P,w::vs,0,m,nd,h1,h2,hk=>by
  simp at h1 h2;subst h1;subst h2;show bindL kindOf ((p,w)::P.zip vs) m p=_;unfold bindL;rw[zfs λv hv=>(List.nodup_cons.mp nd).1 (List.of_mem_zip hv).1,if_pos hk];simp
 | p::P,w::vs,i+1,m,nd,h1,h2,hk=>by
  show bindL kindOf ((p,w)::P.zip vs) m x=_;unfold bindL;exact zfu (i:=i) (List.nodup_cons.mp nd).2 (by simpa using h1) (by simpa using h2) hk
theorem zfv {kindOf:Str->Option NameKind}{x:Str}{v:Value}:∀ {P:List Str}{vs:List Value}{i:Nat}{m:Str->Option Value},P.Nodup->P[i]? = some x->vs[i]? = some v->kindOf x≠some .local->
  bindC kindOf (P.zip vs) m x=some v
 | [],_,_,_,_,h,_,_=>by simp at h
 | _::_,[],_,_,_,_,h,_=>by simp at h
 | p::P,w::vs,0,m,nd,h1,h2,hk=>by
  simp at h1 h2;subst h1;subst h2;show bindC kindOf ((p,w)::P.zip vs) m p=_;unfold bindC;rw[zft λv hv=>(List.nodup_cons.mp nd).1 (List.of_mem_zip hv).1,if_neg hk];simp
 | p::P,w::vs,i+1,m,nd,h1,h2,hk=>by
  show bindC kindOf ((p,w)::P.zip vs) m x=_;unfold bindC;exact zfv (i:=i) (List.nodup_cons.mp nd).2 (by simpa using h1) (by simpa using h2) hk
noncomputable def start (N:List Str)(vs:List V):St:=vs.map some++List.replicate (N.length-vs.length) none
noncomputable def cxOf (CX:CXT)(P:Program)(w:World)(K:PySem.W.Frag)(mg:Str->Option Value)(base:Heap)(N:List Str)(qual:Str)(scope:Scope)(f:Addr)(cd:Value)(A:Around)(outer:List Env)(s:Shared)(H:Hp)(E:XK):Cx where
 prog:=P
 w:=w
 K:=K
 mg:=mg
 base:=base
 A:=A.deeper (envOfC qual scope s.heap.objs.size f cd)
 N:=N
 s₀:=s
 H₀:=H
 env:=envOfC qual scope s.heap.objs.size f cd
 outer:=outer
 stack:=envOfC qual scope s.heap.objs.size f cd::outer
 ex:=[]
 calm:=true
 fn:=λ_=>true
 pn:=[]
 xe:=λe s'=>wpAny (model P w) (A.deeper (envOfC qual scope s.heap.objs.size f cd)) (leaving (envOfC qual scope s.heap.objs.size f cd) e) (λ_ s''=>CX outer H s E e s'') (λe' s''=>CX outer H s E e' s'') s'
theorem zhd {sc:Scope}{n:Nat}{x:Str}(h:sc.names.lookup x=some .cell):∃c,(cellsFrom n sc.names []).lookup x=some c:=by
 have q:=PySem.W.cellsFrom_some sc.names n [] (.inl h);exact Option.isSome_iff_exists.mp q
theorem ziJ {CX:CXT}{P:Program}{w:World}{K:PySem.W.Frag}{mg:Str->Option Value}{base:Heap}{N ps:List Str}{qual:Str}{scope:Scope}{f:Addr}{cd:Value}{A:Around}{outer:List Env}{s s1:Shared}{H:Hp}{E:XK}{us:List Value}{vs:List V}
  (S:zas N ps scope) (hd:A.handled=none) (e0:Env0 P w K mg base A outer s H) (hl:vs.length=ps.length) (r:Vals vs us)
  (x:InCallC s s.heap.objs.size (bindL (envOfC qual scope s.heap.objs.size f cd).kindOf (ps.zip us) λ_=>none) (cellsFrom (s.heap.objs.size+1) scope.names []) (bindC (envOfC qual scope s.heap.objs.size f cd).kindOf (ps.zip us) λ_=>none) s1) :
  Inv (cxOf CX P w K mg base N qual scope f cd A outer s H E) [] (start N vs) H s1:=by
 have hpl:ps.length<=N.length:=by have:=congrArg List.length S.pre;rw[List.length_take]at this;lia
 obtain⟨h1,tk,rfl,hk⟩:=x.done;have noA:∀b:Addr,b∉(cxOf CX P w K mg base N qual scope f cd A outer s H E).ex:=λb z=>absurd (show b∈([]:List Addr) from z) (by simp);refine⟨⟨e0.mod,S.kind,rfl,rfl,Nat.le_refl _,λy z c h1 h2=>?_,λy hy=>?_,λy c _ h=>?_,λ_=>hd,Around.frames_deeper e0.frames,.inr ⟨rfl,rfl⟩,λb z=>absurd z (noA b),e0.bs,e0.bsz,λb _ _=>noA b,λb z=>absurd z (noA b),e0.funs,e0.frf⟩,
  rfl,e0.bare,Un.kept hk,⟨_,x.toInCall.ns,λi y v h1 h2 h3=>?_⟩,λy c h=>⟨_,x.cell y c h⟩,e0.hok.fresh (Nat.le_refl _),λy c h=>?_,λp hp=>absurd (show p∈([]:List (Addr×Obj)) from hp) (by simp),e0.hok.kept hk,?_⟩
 ·exact name_of_addr x.apart (PySem.mem_of_lookup h1) (PySem.mem_of_lookup h2)
 ·have hy:scope.names.lookup y=some .cell\/scope.names.lookup y=some .free:=hy;rcases hy with hy | hy
  ·exact zhd hy
  ·exact absurd rfl (S.nofree _ (PySem.mem_of_lookup hy))
 ·exact Nat.le_of_lt (x.above y c (PySem.mem_of_lookup h))
 ·have hi:i<vs.length:=by
   unfold start at h2;by_cases hi:i<vs.length
   ·exact hi
   ·rw[List.getElem?_append_right (by simpa using hi)]at h2;rw[List.getElem?_replicate]at h2;split at h2<;>cases h2
  have ha:vs[i]? = some v:=by
   unfold start at h2;rw[List.getElem?_append_left (by simpa using hi),List.getElem?_map]at h2;cases e:vs[i]? with
   | none=>rw[e]at h2;cases h2
   | some a=>rw[e]at h2;cases h2;rfl
  obtain⟨u,hu,rv⟩:=r.get ha;have hp:ps[i]? = some y:=by
   rw[<- S.pre,List.getElem?_take_of_lt (by lia)];exact h1
  have ndP:ps.Nodup:=by rw[<- S.pre];exact S.nd.sublist (List.take_sublist _ _)
  refine⟨u,rv,?_⟩;rcases S.par y (List.mem_of_getElem? hp)with k | k
  ·exact .inl ⟨k,zfu ndP hp hu k⟩
  ·obtain⟨c,e⟩:=zhd (n:=s.heap.objs.size+1) k;refine .inr ⟨.inl k,c,e,?_⟩;have q:=x.cell y c e;rw[zfv ndP hp hu (by show scope.names.lookup y≠_;rw[k];decide)]at q;exact q
 ·exact e0.hok.fresh (Nat.le_of_lt (x.above y c (PySem.mem_of_lookup h)))
 ·unfold start;show _=N.length;rw[List.length_append,List.length_map,List.length_replicate];lia
theorem znt {CX:CXT}{P:Program}{w:World}{K:PySem.W.Frag}{mg:Str->Option Value}{base:Heap}{k:Nat}{f:Addr}{name qual:Str}{params:Arguments}{body:List Stmt}{scope:Scope}{dV kV doc pm cdv ct oc:Value}{an od:Option Addr}
  {osl:Array (Option Value)} {N ps:List Str} {sp:Sp} (lk:K.lookup f=some ⟨oc,od,.func (PySem.W.fnOf name qual params body scope dV kV doc pm an cdv ct),osl⟩) (hcd:PySem.W.codeIn K cdv qual=true) (S:zas N ps scope)
  (len:∀vs H Q E,sp vs H Q E->vs.length=ps.length)
  (hbody:∀(A:Around) (outer:List Env) (s:Shared) (H:Hp) (vs:List V) (Q:VK) (E:XK),Room k (A.deeper (envOfC qual scope s.heap.objs.size f cdv))->sp vs H Q E->
   ∃t,PSs (cxOf CX P w K mg base N qual scope f cdv A outer s H E) body t/\t { nx:=λ_ H'=>Q .non H',rt:=Q } (start N vs) H) :
  FnOk P w K mg base CX (k+1) f (PySem.W.fnOf name qual params body scope dV kV doc pm an cdv ct) ps sp:=by
 refine⟨len,λA outer s H args us vs Q E hr e0 hb r hsp=>?_⟩;have hl:=len _ _ _ _ hsp;have KX:K.In s.heap:=e0.mod.kin.keeps λb o e=>(e0.bs b o e).1;have lim:s.heap.NoLimit:=e0.mod.nolimit.keeps λb o e=>(e0.bs b o e).1;have hkind:∀y∈ps.zip us,scope.names.lookup y.1=some .local\/(scope.names.lookup y.1=some .cell/\((cellsFrom (s.heap.objs.size+1) scope.names []).lookup y.1).isSome=true):=λ⟨n,v⟩ hy=>by
  rcases S.par n (List.of_mem_zip hy).1 with q | q
  ·exact .inl q
  ·exact .inr ⟨q,PySem.W.cellsFrom_some _ _ _ (.inl q)⟩
 refine codeAny_call_function hr.depth (KX _ _ lk) rfl S.co S.gen rfl (PySem.W.codeRec_of KX hcd) (hb _ _ _ _ ?_);refine wpAny_newFunctionEnv_cells S.kind hkind λenv he s1 x=>?_;subst he;refine⟨lim.keeps x.toInCall.keep,codeAny_func ?_⟩;obtain⟨t,ht,hq⟩:=hbody A outer s H vs Q E (hr.deeper _) hsp;have I:Inv (cxOf CX P w K mg base N qual scope f cdv A outer s H E) [] (start N vs) H s1:=ziJ S hr.hd e0 hl r x;refine wpAny_mono (ht [] s1 (start N vs) H _ I hq) (λfl s' hs=>?_) λe s' hs=>hs;have fin:∀ {σ':St} {H':Hp} {v:V} {u:Value},Inv (cxOf CX P w K mg base N qual scope f cdv A outer s H E) [] σ' H' s'->RelV v u->Q v H'->CE outer P w H s Q u s':=
  λ{σ' H' v u} J rv q=>⟨v,H',J.os,J.bare,J.base,J.hok,rv,q⟩
 cases fl with
 | ret u=>
  obtain⟨v,σ',H',J,rv,q⟩:=hs;exact fin J rv q
 | next=>
  obtain⟨σ',H',J,q⟩:=hs;exact fin (v:=V.non) (u:=Value.none) J rfl q
 | brk=>
  obtain⟨_,_,_,q⟩:=hs;exact False.elim q
 | cont=>
  obtain⟨_,_,_,q⟩:=hs;exact False.elim q
section
variable {X:Cx}{x:Str}{p pos:Pos}{e:Expr}{es:List Expr}{t:TA}{id T:String}{r:List V->Hp->VK->Prop}
noncomputable def tCB (r:List V->Hp->VK->Prop)(t:TA):TE:=λσ H Q=>t σ H λvs H1=>r vs H1 Q
theorem zci (hc:zcq X (.builtin id) r)(hg:Gl X x)(hm:X.mg x=none)(hv:bootBuiltins x=some (.builtin id))(ha:PA X (e::es) t)(hn:autoParam (x≠"__name__") aU1) (hdb:autoParam ((x == ("__debug__" : Str))=false) aU1)
  (he:autoParam (starEach (e::es) X.env=(false,eval e X.env)::starEach es X.env) aU0) (hpl:autoParam ((backTo pos (starEach es X.env)).any (·.1)=false) aU0):PE X (.Call (.Name x p) (e::es) [] pos) (tCB r t):=by
 intro pins s σ H Q I h;refine wpAny_Call_Name_kw (zha I hg hm hv ?_ hn hdb);exact PyProof.Rows.callWith_builtin1 (thn (ha pos pins s σ H _ I h) λus s1 q33q=>by obtain⟨vs,H1,I1,r1,q1⟩:=q33q;exact hc pins s1 σ H1 vs us Q I1 r1 q1) he hpl
theorem zcE (hc:zcq X (.type T) r)(hg:Gl X x)(hm:X.mg x=none)(hv:bootBuiltins x=some (.type T))(ha:PA X (e::es) t)(hn:autoParam (x≠"__name__") aU1) (hdb:autoParam ((x == ("__debug__" : Str))=false) aU1)
  (he:autoParam (starEach (e::es) X.env=(false,eval e X.env)::starEach es X.env) aU0) (hpl:autoParam ((backTo pos (starEach es X.env)).any (·.1)=false) aU0):PE X (.Call (.Name x p) (e::es) [] pos) (tCB r t):=by
 intro pins s σ H Q I h;refine wpAny_Call_Name_kw (zha I hg hm hv ?_ hn hdb);exact PyProof.Rows.callWith_type1 (thn (ha pos pins s σ H _ I h) λus s1 q34q=>by obtain⟨vs,H1,I1,r1,q1⟩:=q34q;exact hc pins s1 σ H1 vs us Q I1 r1 q1) he hpl
end
end L2
namespace HT
open PySem PyProof.Rows
section
open PySem.SeqAt
open PySem.MeetsSeq PySem.MeetsSeq2 PySem.MeetsSeq3
end
section
variable {prog:Program}{w:World}{A:Around}{E:Value->Shared->Prop}{s:Shared}
noncomputable def sIx (n d:Nat):Option Int->Nat
 | none=>d
 | some v=>if v<0 then(v+(n:Int)).toNat else min v.toNat n
theorem zkm (n d:Nat):sIx n d none=d:=rfl
theorem zgz (n d k:Nat):sIx n d (some (k:Int))=min k n:=by
 show(if (k:Int)<0 then((k:Int)+(n:Int)).toNat else min (k:Int).toNat n)=min k n
 rw[if_neg (by lia),Int.toNat_natCast]
end
end HT
namespace L2
open PySem PySem.Spec PyProof.Rows
noncomputable abbrev TO:=St->Hp->(Option Int->Hp->Prop)->Prop
noncomputable def PO (X:Cx)(e:Option Expr)(t:TO):Prop:=
 ∀(pins:List (Addr×Obj)) (s:Shared) (σ:St) (H:Hp) (Q:Option Int->Hp->Prop),Inv X pins σ H s->t σ H Q->
  wpAny (model X.prog X.w) X.A (evalPart e X.env) (λu s'=>∃o H',Inv X pins σ H' s'/\IsPart u o/\Q o H') X.xe s
noncomputable def zlT:TO:=λ_ H Q=>Q none H
noncomputable def zoI (t:TE):TO:=λσ H Q=>t σ H λx H1=>∃i,x=.int i/\Q (some i) H1
section
variable {X:Cx}{e:Expr}{te:TE}{lo hi:Option Expr}{tl th:TO}{pos p2:Pos}
theorem zlU:PO X none zlT:=by
 intro pins s σ H Q I h;rw[evalPart_none];exact wpAny_pure ⟨none,H,I,.none,h⟩
theorem zlV (h:PE X e te):PO X (some e) (zoI te):=by
 intro pins s σ H Q I hw;rw[evalPart_some];refine thn (h pins s σ H _ I hw) λu s1 q35q=>?_;obtain⟨x,H1,I1,r1,q1⟩:=q35q;obtain⟨i,rfl,q⟩:=q1;obtain⟨t,rfl⟩:=r1;exact⟨some i,H1,I1,.int i t,q⟩
noncomputable def SlR (X:Cx)(r:V->Option Int->Option Int->Hp->VK->Prop):Prop:=
 ∀(pins:List (Addr×Obj)) (s:Shared) (σ:St) (H:Hp) (x:V) (v vl vu:Value) (lo hi:Option Int) (sl:Addr) (Q:VK),Inv X pins σ H s->RelV x v->s.heap.IsSliceOf sl vl vu .none->IsPart vl lo->IsPart vu hi->r x lo hi H Q->
  ∃T id,typeLookup (.type T) "__getitem__" = pure (some (.builtin id))/\s.TypeIs v T/\wpAny (model X.prog X.w) X.A (getItem v (.ref sl)) (EP X pins σ Q) X.xe s
noncomputable def tSl (r:V->Option Int->Option Int->Hp->VK->Prop)(te:TE)(tl th:TO):TE:=λσ H Q=>te σ H λx H1=>tl σ H1 λl H2=>th σ H2 λu H3=>r x l u H3 Q
theorem zhe {r:V->Option Int->Option Int->Hp->VK->Prop}(hr:SlR X r)(he:PE X e te)(hl:PO X lo tl)(hu:PO X hi th):PE X (.Subscript e (.Slice lo hi none p2) pos) (tSl r te tl th):=by
 intro pins s σ H Q I h;refine Subscript_ (thn (he pins s σ H _ I h) λv s1 q36q=>?_);obtain⟨x,H1,I1,r1,q1⟩:=q36q;refine wpAny_Slice (thn (hl pins s1 σ H1 _ I1 q1) λvl s2 ⟨l,H2,I2,pl,q2⟩=>thn (hu pins s2 σ H2 _ I2 q2) λvu s3 q38q=>?_);obtain⟨u,H3,I3,pu,q3⟩:=q38q;rw[evalPart_none];refine wpAny_pure ?_;have I4:Inv X pins σ H3 { s3 with heap:=s3.heap.push { cls:=.type "slice",data:=.fields #[vl,vu,.none] } }:=I3.kept (t':=s3.toks) λb ob q=>Heap.get?_push_of_some _ q;obtain⟨T,id,hT,ht,hg⟩:=hr pins { s3 with heap:=s3.heap.push { cls:=.type "slice",data:=.fields #[vl,vu,.none] } } σ H3 x v vl vu l u s3.heap.objs.size Q I4 r1 (Heap.IsSliceOf.new ..) pl pu q3;show wpAny (model X.prog X.w) X.A (subscriptTail e (.Slice lo hi none p2) v (.ref s3.heap.objs.size)) (EP X pins σ Q) X.xe { s3 with heap:=s3.heap.push { cls:=.type "slice",data:=.fields #[vl,vu,.none] } };exact tail_any (ops:=[.ref s3.heap.objs.size,v]) ht hT hg (by with_unfolding_all rfl)
noncomputable def cutV (xs:List V)(lo hi:Option Int):List V:=(xs.drop (HT.sIx xs.length 0 lo)).take (HT.sIx xs.length xs.length hi-HT.sIx xs.length 0 lo)
theorem zgA (xs:List V)(lo hi:Option Int):(cutV xs lo hi).length<=xs.length:=by
 unfold cutV;rw[List.length_take,List.length_drop];lia
end
noncomputable def ixN (n:Nat)(i:Int):Option Nat:=if 0<=i then(if i<n then some i.toNat else none) else if -(n:Int)<=i then some (i+n).toNat else none
noncomputable def atI {α:Type}(xs:List α)(i:Int):Option α:=(ixN xs.length i).bind λj=>xs[j]?
theorem zlW {n:Nat}{i:Int}{j:Nat}(h:ixN n i=some j):seqIndex? i n=some j/\j<n/\-(n:Int)<=i/\i<n:=by
 unfold ixN at h;by_cases h0:0<=i
 ·rw[if_pos h0]at h;by_cases h1:i<n
  ·rw[if_pos h1]at h;have e:i.toNat=j:=Option.some.inj h;exact⟨by rw[seqIndex_of h0 h1,e],by lia,by lia,h1⟩
  ·rw[if_neg h1]at h;cases h
 ·rw[if_neg h0]at h;by_cases h1:-(n:Int)<=i
  ·rw[if_pos h1]at h;have e:(i+n).toNat=j:=Option.some.inj h;exact⟨by rw[seqIndex_neg (by lia) h1,e],by lia,h1,by lia⟩
  ·rw[if_neg h1]at h;cases h
theorem zgB {α:Type}{xs:List α}{i:Int}{v:α}(h:atI xs i=some v):∃j,seqIndex? i xs.length=some j/\xs[j]? = some v/\j<xs.length/\-(xs.length:Int)<=i/\i<xs.length:=by
 unfold atI at h;cases e:ixN xs.length i with
 | none=>rw[e]at h;cases h
 | some j=>
  rw[e]at h;obtain⟨h1,h2,h3,h4⟩:=zlW e;exact⟨j,h1,h,h2,h3,h4⟩
theorem zaQ {α:Type}{xs:List α}{j:Nat}{v:α}(h:xs[j]? = some v):atI xs (j:Int)=some v:=by
 have hj:j<xs.length:=(List.getElem?_eq_some_iff.mp h).1;have e:ixN xs.length (j:Int)=some j:=by
  unfold ixN;rw[if_pos (by lia),if_pos (by lia)];simp
 unfold atI;rw[e];exact h
noncomputable def zgC (b:Expr):Prop:=∀o i,subscripted b false o i=operate [o,i] (getItem o i)
noncomputable def IxR (X:Cx)(r:R2):Prop:=
 ∀(value slice:Expr) (pins:List (Addr×Obj)) (s:Shared) (σ:St) (H:Hp) (x y:V) (v u:Value) (Q:VK),Inv X pins σ H s->RelV x v->RelV y u->r x y H Q->
  subscripted slice false v u=operate [v,u] (getItem v u)->wpAny (model X.prog X.w) X.A (subscriptTail value slice v u) (EP X pins σ Q) X.xe s
noncomputable def MtR (X:Cx)(id:String)(r:V->List V->Hp->VK->Prop):Prop:=
 ∀(pins:List (Addr×Obj)) (s:Shared) (σ:St) (H:Hp) (x:V) (xs:List V) (v:Value) (us:List Value) (Q:VK),Inv X pins σ H s->RelV x v->Vals xs us->r x xs H Q->
  wpAny (model X.prog X.w) X.A (call (.builtin id) (v::us)) (EP X pins σ Q) X.xe s
section
variable {X:Cx}{a b:Expr}{ta tb:TE}{pos:Pos}
theorem IxR.or {r r':R2}(h:IxR X r)(h':IxR X r'):IxR X (λx y H Q=>r x y H Q\/r' x y H Q):=by
 intro value slice pins s σ H x y v u Q I rx ry q hs;rcases q with q | q
 ·exact h value slice pins s σ H x y v u Q I rx ry q hs
 ·exact h' value slice pins s σ H x y v u Q I rx ry q hs
theorem zoJ {r:R2}(hr:IxR X r)(ha:PE X a ta)(hb:PE X b tb)(hs:zgC b):PE X (.Subscript a b pos) (tOp r ta tb):=by
 intro pins s σ H Q I h;exact Subscript_ (binT ha hb I h λv u s2 x y H2 I2 rx ry q=>hr a b pins s2 σ H2 x y v u Q I2 rx ry q (hs _ _))
noncomputable def rIxL (K:PySem.W.Frag):R2:=λx y H Q=>∃p xs i v,x=.ref p/\y=.int i/\SqL K H p xs/\atI xs i=some v/\Q v H
noncomputable def rIxT (K:PySem.W.Frag):R2:=λx y H Q=>∃p xs i v,x=.ref p/\y=.int i/\SqT K H p xs/\atI xs i=some v/\Q v H
noncomputable def rIxS:R2:=λx y H Q=>∃z i c,x=.str z/\y=.int i/\z.length<=sizeLine/\atI z.cps.toList i=some c/\Q (.str ⟨#[c]⟩) H
theorem zlX:IxR X (rIxL X.K):=by
 intro value slice pins s σ H x y v u Q I rx ry h hs;obtain⟨p,xs,i,z,rfl,rfl,hq,he,q⟩:=h;cases rx;obtain⟨t,rfl⟩:=ry;obtain⟨its,r,pl,hz⟩:=I.list hq;obtain⟨j,h1,h2,h3,h4,h5⟩:=zgB he;obtain⟨w,ew,rw'⟩:=r.get h2;have hl:=r.length;have hn:=zfr;have fin:EP X pins σ Q w s:=⟨z,H,I,rw',q⟩;by_cases h0:0<=i
 ·have hj:i.toNat=j:=by
   rw[seqIndex_of h0 h5]at h1;exact Option.some.inj h1
  exact item_listR pl.isList h0 (by lia) (by rw[hj];simpa using ew) fin hs
 ·have hj:(i+(its.toArray.size:Int)).toNat=j:=by
   rw[seqIndex_neg (by lia) h4]at h1;rw[List.size_toArray,<- hl];exact Option.some.inj h1
  exact subscriptTail_builtinR (x:=w) pl.isList.typeIs slot_list_getitem.lookup
   (wpAny_getItem_list_neg (Q:=λr s'=>r=w/\EP X pins σ Q r s') pl.isList (by lia) (by rw[List.size_toArray]<;>lia) (by lia) (by rw[hj];simpa using ew) ⟨rfl,fin⟩) hs
theorem znu:IxR X (rIxT X.K):=by
 intro value slice pins s σ H x y v u Q I rx ry h hs;obtain⟨p,xs,i,z,rfl,rfl,hq,he,q⟩:=h;cases rx;obtain⟨t,rfl⟩:=ry;obtain⟨its,r,pl,hz⟩:=I.tuple hq;obtain⟨j,h1,h2,h3,h4,h5⟩:=zgB he;obtain⟨w,ew,rw'⟩:=r.get h2;have hl:=r.length;have hn:=zfr;have fin:EP X pins σ Q w s:=⟨z,H,I,rw',q⟩;exact subscriptTail_builtinR (x:=w) pl.typeIs slot_tuple_getitem.lookup
  (getItem_tuple (j:=j) (Q:=λr s'=>r=w/\EP X pins σ Q r s') pl (by lia) (by lia) (by rw[List.size_toArray,<- hl];exact h1) (by simpa using ew) ⟨rfl,fin⟩) hs
theorem znv:IxR X rIxS:=by
 intro value slice pins s σ H x y v u Q I rx ry h hs;obtain⟨z,i,c,rfl,rfl,hz,he,q⟩:=h;obtain⟨t,rfl⟩:=rx;obtain⟨t',rfl⟩:=ry;obtain⟨j,h1,h2,h3,h4,h5⟩:=zgB he;have hl:z.cps.toList.length=z.length:=by simp[Str.length]
 rw[hl]at h1 h4 h5;have hn:=zfr;exact tail_any (typeIs_str s z t) slot_str_getitem.lookup (getItem_str (c:=c) (by
  have e1:decide (i < -(2 ^ 63:Int))=false:=decide_eq_false (by lia);have e2:decide (i>=2 ^ 63)=false:=decide_eq_false (by lia);rw[e1,e2,Bool.or_false]) (by rw[h1];simpa using h2) ⟨.str ⟨#[c]⟩,H,I.tok _,⟨_,rfl⟩,q⟩) hs
noncomputable def rIx (K:PySem.W.Frag):R2:=λx y H Q=>rIxL K x y H Q\/rIxT K x y H Q\/rIxS x y H Q
theorem znw:IxR X (rIx X.K):=zlX.or (znu.or znv)
theorem zfw (lo hi:Option Int)(n:Nat):(sliceBounds lo hi none n).1=((HT.sIx n 0 lo:Nat):Int)/\(sliceBounds lo hi none n).2.1=((HT.sIx n n hi:Nat):Int)/\(sliceBounds lo hi none n).2.2=1:=by
 refine⟨?_,?_,rfl⟩
 ·cases lo with
  | none=>simp[sliceBounds,HT.sIx]
  | some i=>
   simp only[sliceBounds,HT.sIx,Option.getD_none,show(1:Int) > 0 by decide,if_true];by_cases h:i<0
   ·simp only[h,if_true]<;>lia
   ·simp only[h,if_false]<;>lia
 ·cases hi with
  | none=>simp[sliceBounds,HT.sIx]
  | some i=>
   simp only[sliceBounds,HT.sIx,Option.getD_none,show(1:Int) > 0 by decide,if_true];by_cases h:i<0
   ·simp only[h,if_true]<;>lia
   ·simp only[h,if_false]<;>lia
theorem zeW (its:List Value)(lo hi:Option Int):slicePick its.toArray lo hi none=((its.drop (HT.sIx its.length 0 lo)).take (HT.sIx its.length its.length hi-HT.sIx its.length 0 lo)).toArray:=by
 obtain⟨h1,h2,h3⟩:=zfw lo hi its.toArray.size;unfold slicePick;rw[h1,h2,h3];simp only[sliceRange_one,pick_run,List.size_toArray]<;>rfl
noncomputable def rSlL (K:PySem.W.Frag):V->Option Int->Option Int->Hp->VK->Prop:=λx lo hi H Q=>∃a xs,x=.ref a/\SqL K H a xs/\∀p,H p=none->Q (.ref p) (upd H p (.lst (cutV xs lo hi)))
theorem zlY:SlR X (rSlL X.K):=by
 intro pins s σ H x v vl vu lo hi sl Q I rx hs pl pu h;obtain⟨a,xs,rfl,hx,q⟩:=h;cases rx;obtain⟨its,r,ht,hz⟩:=I.list hx;have hlen:=r.length;refine⟨"list",_,slot_list_getitem.lookup,ht.isList.typeIs,?_⟩;refine wpAny_getItem_list_slice ht.isList hs pl pu .none (by simp) ?_ (by rw[List.size_toArray]<;>lia);rw[zeW,<- hlen];refine⟨.ref s.heap.objs.size,_,I.laid (t':=s.toks) (o:=.lst (cutV xs lo hi)) (λb ob q=>Heap.get?_push_of_some _ q) (Nat.le_refl _) ?_,rfl,q _ (I.hok.fresh (Nat.le_refl _))⟩;exact⟨Nat.le_trans (zgA xs lo hi) hz,_,0,(r.drop (HT.sIx xs.length 0 lo)).take (HT.sIx xs.length xs.length hi-HT.sIx xs.length 0 lo),Heap.get?_push_size _ rfl⟩
theorem zfx:zcq X (.type "list") (λxs H Q=>∃p ys,xs=[.ref p]/\(SqL X.K H p ys\/SqT X.K H p ys)/\∀l,H l=none->Q (.ref l) (upd H l (.lst ys))):=by
 intro pins s σ H xs us Q I r h;obtain⟨p,ys,rfl,hq,q⟩:=h;obtain⟨u,rfl,rx⟩:=vals1 r;cases rx;have fin:∀(its:List Value),Vals ys its->ys.length<=sizeLine->∀(h':Heap) (c':Nat),(∀b o',s.heap.get? b=some o'->h'.get? b=some o')->
   h'.get? s.heap.objs.size=some { cls:=.type "list",dict:=none,data:=.seq its.toArray c',slots:=#[] }->EP X pins σ Q (.ref s.heap.objs.size) { s with heap:=h' }:=λits r' hz h' c' kp e=>
  ⟨.ref s.heap.objs.size,_,I.laid (t':=s.toks) kp (Nat.le_refl _) (show zbj X.prog X.w _ h' _ (.lst ys) from⟨hz,its,c',r',e⟩),rfl,q _ (I.hok.fresh (Nat.le_refl _))⟩
 rcases hq with hq | hq
 ·obtain⟨its,r',pl,hz⟩:=I.list hq;have hlen:=r'.length;obtain⟨o,ho,hc,n,hd⟩:=pl.isList;exact call_list_seq p (.inl rfl) ho hc hd (λh' c' kp e=>fin its r' hz h' c' kp e) (by simp only[List.size_toArray]<;>lia)
 ·obtain⟨its,r',pl,hz⟩:=I.tuple hq;have hlen:=r'.length;obtain⟨o,ho,hc,n,hd⟩:=pl;exact call_list_seq p (.inr rfl) ho hc hd (λh' c' kp e=>fin its r' hz h' c' kp e) (by simp only[List.size_toArray]<;>lia)
theorem zcF:zcq X (.type "tuple") (λxs H Q=>∃p ys,xs=[.ref p]/\((SqL X.K H p ys/\∀l,H l=none->Q (.ref l) (upd H l (.tup ys)))\/(SqT X.K H p ys/\Q (.ref p) H))):=by
 intro pins s σ H xs us Q I r h;obtain⟨p,ys,rfl,h⟩:=h;obtain⟨u,rfl,rx⟩:=vals1 r;cases rx;rcases h with ⟨hq,q⟩ | ⟨hq,q⟩
 ·obtain⟨its,r',pl,hz⟩:=I.list hq;have hlen:=r'.length;refine call_tuple_list pl.isList (λh' kp=>?_) (by simp only[List.size_toArray]<;>lia);have I1:Inv X pins σ H { s with heap:=h' }:=I.kept (t':=s.toks) kp;have I2:Inv X pins σ (upd H h'.objs.size (.tup ys)) { s with heap:=h'.push { cls:=.type "tuple",data:=.seq its.toArray } }:=
   I1.laid (t':=s.toks) (λb o e=>Heap.get?_push_of_some _ e) (Nat.le_refl _) (show zbj X.prog X.w _ _ _ (.tup ys) from⟨hz,its,r',zcD.new _ _⟩)
  exact⟨.ref h'.objs.size,_,I2,rfl,q _ (I1.hok.fresh (Nat.le_refl _))⟩
 ·obtain⟨its,r',pl,hz⟩:=I.tuple hq;exact call_tuple_same pl ⟨.ref p,H,I,rfl,q⟩
noncomputable def tyV (K:PySem.W.Frag)(T:String)(x:V)(H:Hp):Prop:=match x with
 | .str _=>T = "str"
 | .int _=>T = "int"
 | .ref p=>(T = "list"/\∃xs,SqL K H p xs)\/(T = "tuple"/\∃o,K.lookup p=some o/\o.cls=.type "tuple"/\o.dict=none)\/
   (T = "dict"/\((∃kvs,H p=some (.dK kvs))\/∃kvs,H p=some (.dT kvs)))\/(T = "set"/\∃S n,H p=some (.set S n))
 | _=>False
theorem znx {pins:List (Addr×Obj)}{σ:St}{H:Hp}{s:Shared}{T:String}{x:V}{v:Value}(I:Inv X pins σ H s)(r:RelV x v)(ty:tyV X.K T x H) :
  s.TypeIs v T/\∀a,v=.ref a->∃ob,s.heap.get? a=some ob/\ob.dict=none:=by
 cases x with
 | str z=>
  obtain⟨t,rfl⟩:=r;cases (show T = "str" from ty);exact⟨typeIs_str s z t,λ_ e=>nomatch e⟩
 | int i=>
  obtain⟨t,rfl⟩:=r;cases (show T = "int" from ty);exact⟨typeIs_int s i t,λ_ e=>nomatch e⟩
 | ref p=>
  cases r;rcases ty with ⟨rfl,xs,hq⟩ | ⟨rfl,o,hk,hc,hd⟩ | ⟨rfl,hk⟩ | ⟨rfl,S,n,hk⟩
  ·obtain⟨its,_,pl,_⟩:=I.list hq;refine⟨pl.isList.typeIs,λa e=>?_⟩;cases e;obtain⟨o,n,e,c,hd,_⟩:=pl;exact⟨o,e,hd⟩
  ·refine⟨⟨o,I.kIn p o hk,hc⟩,λa e=>?_⟩;cases e;exact⟨o,I.kIn _ o hk,hd⟩
  ·have z:∃o,s.heap.get? p=some o/\o.ExactDict:=by
    rcases hk with ⟨kvs,hk⟩ | ⟨kvs,hk⟩
    ·obtain⟨_,_,_,_,o,_,_,e,ex,_⟩:=I.hok p _ hk;exact⟨o,e,ex⟩
    ·obtain⟨_,_,_,_,o,_,_,e,ex,_⟩:=I.hok p _ hk;exact⟨o,e,ex⟩
   obtain⟨o,e,ex⟩:=z;refine⟨⟨o,e,ex.1⟩,λa e2=>?_⟩;cases e2;exact⟨o,e,ex.2.1⟩
  ·obtain⟨o,_,_,_,e,ex,_⟩:=I.hok p _ hk;refine⟨⟨o,e,ex.1⟩,λa e2=>?_⟩;cases e2;exact⟨o,e,ex.2.1⟩
 | _=>exact False.elim ty
noncomputable def tBM (K:PySem.W.Frag)(T:String)(r:V->List V->Hp->VK->Prop)(to:TE)(t:TA):TE:=λσ H Q=>to σ H λx H1=>tyV K T x H1/\t σ H1 λxs H2=>r x xs H2 Q
variable {o e:Expr}{es:List Expr}{to:TE}{t:TA}{name:Str}{apos cpos:Pos}{T id:String}{r:V->List V->Hp->VK->Prop}
theorem ziK (pa:PlainAttrs T)(slot:Slot T name id)(hty:typeOf (.builtin id)=pure (.type "method_descriptor")) (hm:MtR X id r) (ho:PE X o to) (ha:PA X (e::es) t)
  (hbase:autoParam (attributeBase o name X.env (eval o X.env)=eval o X.env) aU0)
  (hfew:autoParam (((backTo cpos (starEach (e::es) X.env)).all (λx=>!x.1)&&(backToKw cpos (keywordEach [] X.env)).all (λx=>x.1.isSome)
   && decide ((e::es).length+([]:List Keyword).length+(if ([]:List Keyword).isEmpty then 0 else 1)<30))=true) aU0)
  (hline:autoParam ((apos.endLine == cpos.line)=true) aU0) (hs:autoParam (starEach (e::es) X.env=(false,eval e X.env)::starEach es X.env) aU0) (hplain:autoParam ((backTo cpos (starEach es X.env)).any (·.1)=false) aU0) :
  PE X (.Call (.Attribute o name apos) (e::es) [] cpos) (tBM X.K T r to t):=by
 intro pins s σ H Q I h;refine wpAny_Call_method_late hbase hfew hline rfl (thn (ho pins s σ H _ I h) λv s1 q39q=>?_);obtain⟨x,H1,I1,r1,ty,q1⟩:=q39q;obtain⟨h1,h2⟩:=znx I1 r1 ty;refine⟨T,id,pa,slot,hty,h1,h2,?_⟩;have hA:=ha cpos pins s1 σ H1 _ I1 q1;rw[hs]at hA ⊢;refine Calls.callWith_builtin (by show(false||(backTo cpos (starEach es X.env)).any (·.1))=false;rw[hplain]<;>rfl) (Calls.evalArgs_plain ?_)
 exact thn hA λus s2 q40q=>by obtain⟨vs,H2,I2,r2,q2⟩:=q40q;exact hm pins s2 σ H2 x vs v us Q I2 r1 r2 q2
end
noncomputable def MtM (X:Cx)(id:String)(r:V->List V->Hp->VK->Prop):Prop:=
 ∀(pins:List (Addr×Obj)) (s:Shared) (σ:St) (H:Hp) (x:V) (xs:List V) (v:Value) (us:List Value) (Q:VK),Inv X pins σ H s->RelV x v->Vals xs us->r x xs H Q->
  wpAny (model X.prog X.w) X.A (call (.builtin id) (v::us)) (EP X pins σ Q) X.xe s
theorem Vals.one:∀ {x:V}{us:List Value},Vals [x] us->∃u,us=[u]/\RelV x u:=by
 intro x us h;cases h with
 | cons r t=>cases t;exact⟨_,rfl,r⟩
theorem Vals.eraseIdx:∀ {xs:List V}{us:List Value}(i:Nat),Vals xs us->Vals (xs.eraseIdx i) (us.eraseIdx i)
 | _,_,_,.nil=>.nil
 | _,_,0,.cons _ t=>t
 | _,_,i+1,.cons r t=>.cons r (Vals.eraseIdx i t)
theorem zfy {α:Type}:∀(l:List α)(i:Nat),(l.eraseIdx i).length<=l.length
 | [],_=>Nat.le_refl _
 | _::_,0=>Nat.le_succ _
 | _::r,i+1=>Nat.succ_le_succ (zfy r i)
section
variable {X:Cx}{pins:List (Addr×Obj)}{σ:St}{H:Hp}{s:Shared}{l b:Addr}{xs ys zs:List V}
theorem Inv.lset {its its':List Value}{n:Nat}{f:Array Value->Array Value}{t':Nat}(I:Inv X pins σ H s)(hH:H l=some (.lst xs))
  (e:s.heap.get? l=some { cls:=.type "list",data:=.seq its.toArray n }) (hf:f its.toArray=its'.toArray) (hv:Vals ys its') (hz:ys.length<=sizeLine) :
  Inv X pins σ (upd H l (.lst ys)) { s with heap:=s.heap.update l (Obj.mapSeq f),toks:=t' }:=by
 have q:=PySem.IsL.update e f;rw[hf]at q;refine I.write (x:=l) (e:=l) (by rw[hH];exact trivial) (.inl rfl) (λb' u hb hu=>(Heap.get?_update_other s.heap (Obj.mapSeq f) (Ne.symm hb)).trans hu) ⟨_,q⟩ ?_;exact⟨hz,its',_,hv,q⟩
theorem Inv.lnew {its:List Value}{t':Nat}(I:Inv X pins σ H s)(hv:Vals ys its)(hz:ys.length<=sizeLine) :
  Inv X pins σ (upd H s.heap.objs.size (.lst ys)) { s with heap:=s.heap.push { cls:=.type "list",data:=.seq its.toArray },toks:=t' }:=
 I.laid (λ_ _ q=>Heap.get?_push_of_some _ q) (Nat.le_refl _) ⟨hz,its,0,hv,Heap.get?_push_size _ rfl⟩
theorem Inv.fresh (I:Inv X pins σ H s):H s.heap.objs.size=none:=I.hok.fresh (Nat.le_refl _)
theorem Inv.lstM (I:Inv X pins σ H s)(hH:H l=some (.lst xs)):xs.length<=sizeLine/\∃(its:List Value)(n:Nat),Vals xs its/\xs.length=its.length/\s.heap.get? l=some { cls:=.type "list",data:=.seq its.toArray n }:=by
 obtain⟨z,its,n,r,e⟩:=I.hok l _ hH;exact⟨z,its,n,r,r.length,e⟩
theorem zkn {n:Nat}(h:n<=sizeLine):Builtin.List.listTooLong n=false:=by
 unfold Builtin.List.listTooLong;exact decide_eq_false (by lia)
end
section
variable {X:Cx}
noncomputable def zlZ:V->List V->Hp->VK->Prop:=λx vs H Q=>∃l xs y,x=.ref l/\vs=[y]/\H l=some (.lst xs)/\xs.length<sizeLine/\Q .non (upd H l (.lst (xs++[y])))
theorem zcG:MtM X "list.append" zlZ:=by
 intro pins s σ H x vs v us Q I rx rv h;obtain⟨l,xs,y,rfl,rfl,hH,hz,q⟩:=h;cases rx;obtain⟨u,rfl,ru⟩:=rv.one;obtain⟨z,its,n,r,hl,e⟩:=I.lstM hH;refine call_meets F.slot_list_append ⟨_,e,rfl⟩ F.entry_list_append (F.args_list_append_2 _ _) (PySem.list_append l its.toArray n u (by rw[List.size_toArray];lia)) ⟨e,?_⟩;refine⟨.non,_,I.lset (its':=its++[u]) hH e (by simp) (r.append (.cons ru .nil)) ?_,rfl,q⟩;rw[List.length_append,List.length_singleton];lia
noncomputable def zny:V->List V->Hp->VK->Prop:=λx vs H Q=>∃l xs i k y,x=.ref l/\vs=[.int i]/\H l=some (.lst xs)/\-(2 ^ 63)<=i/\i<2 ^ 63/\seqIndex? i xs.length=some k/\xs[k]? = some y/\Q y (upd H l (.lst (xs.eraseIdx k)))
theorem zko:MtM X "list.pop" zny:=by
 intro pins s σ H x vs v us Q I rx rv h;obtain⟨l,xs,i,k,y,rfl,rfl,hH,h1,h2,hk,hy,q⟩:=h;cases rx;obtain⟨u,rfl,ru⟩:=rv.one;obtain⟨t,rfl⟩:=ru;obtain⟨z,its,n,r,hl,e⟩:=I.lstM hH;obtain⟨w,hw,rw'⟩:=r.get hy;refine call_meets F.slot_list_pop ⟨_,e,rfl⟩ F.entry_list_pop (F.args_list_pop_2 _ _)
  (MeetsSeq.list_pop_at l its.toArray n i t k w (fitsIndex_both h1 h2) (by rw[List.size_toArray,<- hl];exact hk) (by rw[<- Array.getElem?_toList];exact hw) (by rw[List.size_toArray];lia)) ⟨e,?_⟩
 refine⟨y,_,I.lset (its':=its.eraseIdx k) hH e ?_ (r.eraseIdx k) ?_,rw',q⟩
 ·show its.toArray.eraseIdxIfInBounds k=(its.eraseIdx k).toArray;rw[List.eraseIdxIfInBounds_toArray]
 ·have:=zfy xs k;lia
end
section
variable {κ:Type} [DecidableEq κ]
noncomputable def valV (kvs:List (κ×V))(k:κ):Option V:=(kvs.find? λkv=>decide (kv.1=k)).map (·.2)
noncomputable def putK (kvs:List (κ×V))(k:κ)(v:V):List (κ×V):=
 if (kvs.any λkv=>decide (kv.1=k))=true then kvs.map (λkv=>if kv.1=k then(kv.1,v) else kv) else kvs++[(k,v)]
theorem zhf {p:κ×V}{r:List (κ×V)}{k:κ}(e:p.1=k):valV (p::r) k=some p.2:=by simp[valV,List.find?_cons,e]
theorem zhg {p:κ×V}{r:List (κ×V)}{k:κ}(e:¬ p.1=k):valV (p::r) k=valV r k:=by simp[valV,List.find?_cons,e]
theorem zhh (k:κ):∀kvs:List (κ×V),(kvs.any λkv=>decide (kv.1=k))=(valV kvs k).isSome
 | []=>rfl
 | p::r=>by
  rw[List.any_cons];by_cases e:p.1=k
  ·simp only[zhf e,decide_eq_true e,Bool.true_or,Option.isSome_some]
  ·rw[zhg e,decide_eq_false e,Bool.false_or];exact zhh k r
theorem zdH (kvs:List (κ×V))(k:κ)(v:V):(putK kvs k v).length<=kvs.length+1:=by
 unfold putK;split
 ·rw[List.length_map];lia
 ·rw[List.length_append,List.length_cons,List.length_nil];lia
theorem RelO.ziL {o:Option V}{u:Option Value}(r:RelO o u):o.isSome=u.isSome:=by
 cases o with
 | none=>cases u with
  | none=>rfl
  | some _=>exact(show False from r).elim
 | some _=>cases u with
  | none=>exact(show False from r).elim
  | some _=>rfl
theorem KV.any {kvs:List (κ×V)}{vs:List (κ×Value)}(r:KV kvs vs)(k:κ):(kvs.any λkv=>decide (kv.1=k))=vs.any λkv=>decide (kv.1=k):=by
 unfold KV at r;induction r with
 | nil=>rfl
 | cons h t ih=>rw[List.any_cons,List.any_cons,ih,h.1]
theorem KV.repl {kvs:List (κ×V)}{vs:List (κ×Value)}(r:KV kvs vs)(k:κ){y:V}{u:Value}(ry:RelV y u) :
  KV (kvs.map λkv=>if kv.1=k then(kv.1,y) else kv) (vs.map λkv=>if kv.1=k then(kv.1,u) else kv):=by
 unfold KV at r ⊢;induction r with
 | nil=>exact .nil
 | @cons p q ps qs h t ih=>
  rw[List.map_cons,List.map_cons];refine .cons ?_ ih;obtain⟨h1,h2⟩:=h;by_cases e:p.1=k
  ·rw[if_pos e,if_pos (h1.symm.trans e)];exact⟨h1,ry⟩
  ·rw[if_neg e,if_neg (λz=>e (h1.trans z))];exact⟨h1,h2⟩
theorem KV.put {kvs:List (κ×V)}{vs:List (κ×Value)}(r:KV kvs vs)(k:κ){y:V}{u:Value}(ry:RelV y u):KV (putK kvs k y) (stored vs k u):=by
 unfold putK stored;rw[r.any k];by_cases e:(vs.any λkv=>decide (kv.1=k))=true
 ·rw[if_pos e,if_pos e];exact r.repl k ry
 ·rw[if_neg e,if_neg e];exact Paired.snoc r ⟨rfl,ry⟩
theorem KV.length {kvs:List (κ×V)}{vs:List (κ×Value)}(r:KV kvs vs):kvs.length=vs.length:=Paired.length r
end
theorem znz {P:Program}{w:World}{k:Key}{u:Value}(r:RelV (kV k) u):(zaP P w).is k u=true:=by
 cases k with
 | inl i=>obtain⟨t,e⟩:=(show ∃t,u=Value.int i t from r);subst e;exact zgu P w i t
 | inr x=>obtain⟨t,e⟩:=(show ∃t,u=Value.str x t from r);subst e;exact zgv P w x t
theorem zfz {P:Program}{w:World}:∀ {ks:List Key}{us:List Value},Vals (ks.map kV) us->ItemsAre (zaP P w) ks us
 | [],_,r=>by rw[List.map_nil]at r;cases r;exact .nil
 | k::ks,_,r=>by
  rw[List.map_cons]at r;cases r with
  | cons h t=>exact .cons (znz h) (zfz t)
noncomputable abbrev KT (H:Hp):List (List Key×V)->List (List Key×Addr×Value)->Prop:=Paired λp q=>p.1=q.1/\H q.2.1=some (.tup (p.1.map kV))/\RelV p.2 q.2.2
theorem KT.val {H:Hp}{kvs:List (List Key×V)}{xs:List (List Key×Addr×Value)}(r:KT H kvs xs)(k:List Key):RelO (valV kvs k) ((atKey xs k).map (·.2)):=by
 induction r with
 | nil=>exact True.intro
 | @cons p q ps qs h t ih=>
  obtain⟨h1,_,h2⟩:=h;by_cases e:p.1=k
  ·have e':q.1=k:=h1.symm.trans e;have b:atKey (q::qs) k=some q.2:=by simp[atKey,List.find?_cons,e']
   rw[zhf e,b];exact h2
  ·have e':¬ q.1=k:=λz=>e (h1.trans z);have b:atKey (q::qs) k=atKey qs k:=by simp[atKey,List.find?_cons,e']
   rw[zhg e,b];exact ih
theorem KT.repl {H:Hp}{kvs:List (List Key×V)}{xs:List (List Key×Addr×Value)}(r:KT H kvs xs)(k:List Key){y:V}{u:Value}(ry:RelV y u) :
  KT H (kvs.map λkv=>if kv.1=k then(kv.1,y) else kv) (xs.map (putAt k u)):=by
 induction r with
 | nil=>exact .nil
 | @cons p q ps qs h t ih=>
  rw[List.map_cons,List.map_cons];refine .cons ?_ ih;obtain⟨h1,h2,h3⟩:=h;unfold putAt;by_cases e:p.1=k
  ·rw[if_pos e,if_pos (h1.symm.trans e)];exact⟨h1,h2,ry⟩
  ·rw[if_neg e,if_neg (λz=>e (h1.trans z))];exact⟨h1,h2,h3⟩
theorem KT.put {H:Hp}{kvs:List (List Key×V)}{xs:List (List Key×Addr×Value)}(r:KT H kvs xs)(k:List Key){b:Addr}{y:V}{u:Value}(hb:H b=some (.tup (k.map kV)))(ry:RelV y u) :
  KT H (putK kvs k y) (storedH xs k b u):=by
 have e:(kvs.any λkv=>decide (kv.1=k))=(atKey xs k).isSome:=by
  rw[zhh,(r.val k).ziL,Option.isSome_map]
 unfold putK storedH;rw[e];by_cases q:(atKey xs k).isSome=true
 ·rw[if_pos q,if_pos q];exact r.repl k ry
 ·rw[if_neg q,if_neg q];exact Paired.snoc r ⟨rfl,hb,ry⟩
theorem KT.keeps {H H':Hp}{kvs:List (List Key×V)}{xs:List (List Key×Addr×Value)}(r:KT H kvs xs)(ht:∀b ys,H b=some (.tup ys)->H' b=some (.tup ys)):KT H' kvs xs:=
 Paired.mapP r λ_ _ z=>⟨z.1,ht _ _ z.2.1,z.2.2⟩
section
variable {P:Program}{w:World}{H:Hp}{h:Heap}{a:Addr}
theorem znA {u:HO}(ok:HOk P w H h)(e:Rd H a u):zbj P w H h a u:=e.ok ok
theorem zma {kvs:List (Key×V)}(ok:HOk P w H h)(e:Rd H a (.dK kvs)):kvs.length<=sizeLine/\(a == sysModules)=false/\∃vs,KV kvs vs/\h.DictOf (zaP P w) a vs:=
 show zbj P w H h a (.dK kvs) from znA ok e
theorem zoK {kvs:List (Key×V)}(ok:HOk P w H h)(e:H a=some (.dK kvs)):kvs.length<=sizeLine/\(a == sysModules)=false/\∃vs,KV kvs vs/\h.DictOf (zaP P w) a vs:=zma ok (.inl e)
theorem zlv {ks:List Key}(ok:HOk P w H h)(e:H a=some (.tup (ks.map kV))):(tupleKind (zaP P w)).is h ks a:=by
 obtain⟨_,its,r,o,h1,h2,⟨n,h3⟩,_⟩:=(show zbj P w H h a (.tup (ks.map kV)) from ok a _ e);exact⟨o,its.toArray,n,h1,h2,h3,by simpa using zfz r⟩
theorem znB {kvs:List (List Key×V)}(ok:HOk P w H h)(e:Rd H a (.dT kvs)):kvs.length<=sizeLine/\(a == sysModules)=false/\
  ∃xs,KT H kvs xs/\h.DictOfH (tupleKind (zaP P w)) a xs:=by
 obtain⟨z,y,xs,r,o,es,ep,h1,h2,h3,h4,h5⟩:=(show zbj P w H h a (.dT kvs) from znA ok e);refine⟨z,y,xs,r,o,es,ep,h1,h2,h3,h4,λx hx=>?_,h5⟩;have all:∀ {l:List (List Key×V)} {m:List (List Key×Addr×Value)},KT H l m->∀x∈m,(tupleKind (zaP P w)).is h x.1 x.2.1:=by
  intro l m q;induction q with
  | nil=>intro x hx;exact nomatch hx
  | @cons p q ps qs hq t ih=>
   intro x hx;rcases List.mem_cons.mp hx with e | hx
   ·subst e;exact zlv ok (by rw[<- hq.1];exact hq.2.1)
   ·exact ih x hx
 exact all r x hx
theorem zoL {kvs:List (List Key×V)}(ok:HOk P w H h)(e:H a=some (.dT kvs)):kvs.length<=sizeLine/\(a == sysModules)=false/\
  ∃xs,KT H kvs xs/\h.DictOfH (tupleKind (zaP P w)) a xs:=znB ok (.inl e)
end
noncomputable def DPut (H:Hp)(a:Addr)(y v:V)(H':Hp):Prop:=
 (∃kvs k,H a=some (.dK kvs)/\y=kV k/\kvs.length<sizeLine/\H'=upd H a (.dK (putK kvs k v)))\/
 ∃kvs k b,H a=some (.dT kvs)/\y=.ref b/\H b=some (.tup (k.map kV))/\kvs.length<sizeLine/\H'=upd H a (.dT (putK kvs k v))
theorem DPut.k {H:Hp}{a:Addr}{kvs:List (Key×V)}{k:Key}{v:V}(e:H a=some (.dK kvs))(hl:kvs.length<sizeLine):DPut H a (kV k) v (upd H a (.dK (putK kvs k v))):=.inl ⟨kvs,k,e,rfl,hl,rfl⟩
section
variable {X:Cx}{pins:List (Addr×Obj)}{σ:St}{H:Hp}{s:Shared}{a:Addr}{y v:V}{u r:Value}{o:Option V}{A:Around}{E:Value->Shared->Prop}
theorem Inv.big (I:Inv X pins σ H s):sysModules<s.heap.objs.size:=by
 have h:mainGlobals<s.heap.objs.size:=(I.mod.glob.keeps I.bk).lt;exact Nat.lt_trans (by decide) h
theorem ziM {h':Heap}{t':Nat}{ob:HO}(I:Inv X pins σ H s)(mu:Mut (H a))(hs:Heap.SameBut a s.heap h')(he:∃q,h'.get? a=some q)(new:zbj X.prog X.w (upd H a ob) h' a ob) :
  Inv X pins σ (upd H a ob) { s with heap:=h',toks:=t' }:=
 I.write (x:=a) (e:=a) mu (.inl rfl) (λb q hb z=>(hs.2 b hb).trans z) he new
theorem znC {P:Program}{w:World}{H':Hp}{h':Heap}{kvs:List (Key×V)}{vs:List (Key×Value)}(z:kvs.length<=sizeLine)(hd:(a == sysModules)=false)(rel:KV kvs vs)(dd:h'.DictOf (zaP P w) a vs) :
  zbj P w H' h' a (.dK kvs):=⟨z,hd,vs,rel,dd⟩
theorem ziN {H':Hp}{Q:Unit->Shared->Prop}(hu:A.units+1<cLine)(I:Inv X pins σ H s)(g:DPut H a y v H')(ry:RelV y u)(rv:RelV v r)(h:∀s',Inv X pins σ H' s'->Q () s') :
  wpAny (model X.prog X.w) A (setItem (.ref a) u r) Q E s:=by
 rcases g with ⟨kvs,k,e,ey,l,eH⟩ | ⟨kvs,k,b,e,ey,eb,l,eH⟩
 ·subst ey eH;obtain⟨z,hd,vs,rel,dd⟩:=zoK I.hok e;have hz:vs.length<=sizeLine:=by rw[<- rel.length];exact z
  have hl:(putK kvs k v).length<=sizeLine:=by have:=zdH kvs k v;lia
  refine wpAny_setItem_pairs (hsz:=hz) (znz ry) dd λh' dd' hs=>h _ ?_;have he:∃q,h'.get? a=some q:=let ⟨q,_,_,hq,_⟩:=dd';⟨q,hq⟩;exact ziM I (by rw[e];exact True.intro) hs he (znC hl hd (rel.put k rv) dd')
 ·subst ey eH;cases (show u=Value.ref b from ry);obtain⟨z,hd,xs,rel,dd⟩:=zoL I.hok e;have hz:xs.length<=sizeLine:=by rw[<- Paired.length rel];exact z
  have hl:(putK kvs k v).length<=sizeLine:=by have:=zdH kvs k v;lia
  refine wpAny_setItem_heap (hsz:=hz) (tupleKind_room_in1 hu) (zlv I.hok eb) dd λh' dd' hs=>h _ ?_;obtain⟨q,es,ep,hq,h2,h3,h4,_,h5⟩:=dd';refine ziM I (by rw[e];exact True.intro) hs ⟨q,hq⟩ ⟨hl,hd,_,(rel.put k eb rv).keeps λc ys ec=>?_,q,es,ep,hq,h2,h3,h4,h5⟩;rw[zap (zov ec e (λz=>nomatch z))];exact ec
end
section
variable {X:Cx}{pins:List (Addr×Obj)}{σ:St}{H:Hp}{s:Shared}{a:Addr}{kvs:List (Key×V)}{k:Key}{u:Value}{A:Around}{E:Value->Shared->Prop}
theorem zoM {Q:Value->Shared->Prop}(I:Inv X pins σ H s)(e:Rd H a (.dK kvs))(h:∀t s',Inv X pins σ H s'->Q (.int kvs.length t) s'):wpAny (model X.prog X.w) A (call (.builtin "len") [.ref a]) Q E s:=by
 obtain⟨z,hd,vs,rel,dd⟩:=zma I.hok e;refine call_len_dict hd dd (by rw[<- rel.length];rw[sizeLine_eq]at z;lia) ?_;rw[<- rel.length];exact h _ _ (I.tok _)
end
noncomputable def zoN (td ty tv:TE):TS:=λD σ H=>tv σ H λv H1=>td σ H1 λx H2=>ty σ H2 λy H3=>∃a H4,x=.ref a/\DPut H3 a y v H4/\D.nx σ H4
section
variable {X:Cx}{o i e value:Expr}{pos pos' tpos:Pos}{td ty tv:TE}
theorem zmb (hu:X.A.units+1<cLine)(ho:PE X o td)(hi:PE X i ty)(hv:PE X value tv)(hs:swapsWith value (some (.Subscript o i pos')) pos.line X.env=pure false) :
  PS X (.Assign [.Subscript o i pos'] value pos) (zoN td ty tv):=by
 intro pins s σ H D I h;refine wpAny_Assign_Subscript (thn (hv pins s σ H _ I h) λr s1 ⟨v,H1,I1,rv,q1⟩=>thn (ho pins s1 σ H1 _ I1 q1) λu s2 ⟨x,H2,I2,rx,q2⟩=>thn (hi pins s2 σ H2 _ I2 q2) λiv s3 q43q=>?_) hs;obtain⟨y,H3,I3,ry,a,H4,ex,g,q3⟩:=q43q;subst ex;obtain rfl:u=Value.ref a:=rx;exact ziN hu I3 g ry rv λs4 I4=>⟨σ,H4,I4,q3⟩
end
theorem zkp {P:Program}{w:World}{H:Hp}(h:Heap)(hb:sysModules<h.objs.size):zbj P w H (h.push { cls:=.type "dict",data:=.dict #[] }) h.objs.size (.dK []):=
 ⟨Nat.zero_le _,beq_eq_false_iff_ne.mpr (Ne.symm (Nat.ne_of_lt hb)),[],.nil,Heap.DictOf.new h⟩
noncomputable def znD:TE:=λ_ H Q=>∀p,H p=none->Q (.ref p) (upd H p (.dK []))
section
variable {X:Cx}{pos:Pos}
theorem zkq:PE X (.Dict [] [] pos) znD:=λpins s σ H Q I h=>
 wpAny_Dict_empty ⟨.ref s.heap.objs.size,_,I.laid (a:=s.heap.objs.size) (o:=.dK []) (t':=s.toks) (λ_ _ q=>Heap.get?_push_of_some _ q) (Nat.le_refl _) (zkp s.heap I.big),rfl,h _ (I.hok.fresh (Nat.le_refl _))⟩
end
structure M1 (X:Cx)(o:Expr)(m:Str)(apos:Pos)(e:Expr)(cpos:Pos):Prop where
 base:attributeBase o m X.env (eval o X.env)=eval o X.env
 few:((backTo cpos (starEach [e] X.env)).all (λx=>!x.1)&&(backToKw cpos (keywordEach [] X.env)).all (λx=>x.1.isSome)
  && decide (([e]:List Expr).length+([]:List Keyword).length+(if ([]:List Keyword).isEmpty then 0 else 1)<30))=true
 line:(apos.endLine == cpos.line)=true
 trees:backTo cpos (starEach [e] X.env)=[(false,eval e X.env)]
end L2
namespace Att
open PySem PySem.W PySem.Calls PyProof.Rows
theorem zdI {P:Params}{h:Heap}:∀(ns:List Int)(vs:List Value),WellAll P h vs (ns.map WData.int)->IntsAre vs ns:=by
 intro ns;induction ns with
 | nil=>
  intro vs w;rw[List.map_nil]at w;cases w;exact .nil
 | cons n ns ih=>
  intro vs w;rw[List.map_cons]at w;cases w with
  | cons a b=>
   cases a;exact .cons _ _ (ih _ b)
theorem ziO {l:OpenLaw}{n:Nat}(hn:l.most=some n){P:Params}{h:Heap}{args:List WData}{vals:List Value}
  (hpre:l.row.toRowW.claim.pre args=true) (hwl:WellAll P h vals args) :
  ∃a vs ns,vals=[Value.ref a]/\args=[WData.list (ns.map WData.int)]/\h.get? a=some { cls:=.type "list",data:=.seq vs.toArray }/\IntsAre vs ns/\ns.length<=n:=by
 have hsh:WShape.hasAll [] args [.list .int]=true:=(pre_splitW hpre).1;have hc:l.pre.holds [] { args:=args }=true:=(pre_splitW hpre).2;obtain⟨d,r,rfl,h1,h2⟩:=hasAllW_cons hsh;obtain rfl:=hasAllW_nil h2;obtain⟨xs,rfl,h3⟩:=hasW_list h1;obtain⟨ns,rfl⟩:=items_int h3;have hlen:ns.length<=n:=by
  unfold OpenLaw.pre at hc;have h4:(WTm.not (.lt (.lit (.int (n:Int))) (.len (.arg 0)))).holds [] { args:=[.list (ns.map .int)] }=true:=by
   have h4:=(holds_andW hc).1;rw[hn]at h4;exact h4
  have h5:=condW_of h4 (w_not (w_lt w_lit (w_len_list (w_arg rfl))));rw[List.length_map]at h5;refine Nat.le_of_not_lt λq=>?_;have q':(n:Int)<((ns.length:Nat):Int):=by lia
  first
   | (rw[decide_eq_true q']at h5;exact absurd h5 (by decide))
   | (simp at h5;lia)
 cases hwl with
 | cons w1 w2=>
  cases w2;cases w1 with
  | list ho hall=>exact⟨_,_,ns,rfl,rfl,ho,zdI ns _ hall,hlen⟩
theorem ziP (l:OpenLaw)(args:List WData):l.row.toRowW.claim.post args (.bool true) args=true:=
 postW_of (r:=l.row.toRowW) (X:=(true == true))
  (show WShape.has [] (.bool true) .bool=true by first | rfl | decide | simp[WShape.has,WShape.arms,WShape.armsAll])
  (show(WTm.eq .res (.lit (.bool true))).value [] { args:=args,res:=some (.bool true),after:=args }=some (.bool (true == true)) from w_eq_bool (w_res rfl) w_lit) rfl
theorem zgD {l:OpenLaw}{n:Nat}{q:Program}{loose:List Str}{XP:(Str->Option Value)->Heap->Prop}{YP:World->Heap->Prop}{d:DefRec}
  (hn:l.most=some n) (hdf:d.params.defaults=[])
  (call:∀(w:World) (s₀ s₁:Shared) (mg mb:Str->Option Value) (fa:Addr) (o:Obj) (pm cd doc:Value) (a:Addr) (vs:List Value) (ns:List Int),
   Ground q loose [] XP w s₀ mg mb s₁.heap->YP w s₁.heap->
   s₁.heap.get? fa=some o->o.data=.func (docDef d.name d.params d.body d.scope pm cd doc)->s₁.heap.CodeRec cd d.name->mg d.name=some (.ref fa)->
   s₁.heap.get? a=some { cls:=.type "list",data:=.seq vs.toArray }->IntsAre vs ns->ns.length<=n->s₁.gens = #[]->
   codeAny (model l.prog w) callerA (.call (.ref fa) ⟨[.ref a],[]⟩) (λr s'=>r=.ok (.ret (.bool true))/\OldK s₁.heap s'.heap/\s'.os=s₁.os/\AllBare s'.gens) s₁) :
  WalkO q loose XP YP l.row.toRowW d [] (λf vs=>PySem.call f vs):=by
 intro w s₀ s₁ mg mb G Y fa o pm cd doc dV kV ho hd hcd hD hmg hg args vals as hpre hlay hrd hwl hlo;obtain rfl:dV=.none:=Dflts.none hD hdf;obtain rfl:kV=.none:=Dflts.noKw hD;obtain⟨a,vs,ns,rfl,rfl,hobj,hints,hlen⟩:=ziO hn hpre hwl;refine enter_call (codeAny_mono (call w s₀ s₁ mg mb fa o pm cd doc a vs ns G Y ho (fd_plain hd) hcd hmg hobj hints hlen hg) λr s' hq=>?_);obtain⟨rfl,h2,h3,h4⟩:=hq;exact⟨.inl ⟨.bool true,.bool true,[],rfl,λ_=>rfl,.bool true,ziP l _,λ_=>⟨List.Pairwise.nil,λ_ hm=>(nomatch hm)⟩⟩,h2,h3,h4⟩
end Att
namespace L2
open PySem PySem.Spec PyProof.Rows
theorem zfA:∀ {vs:List Value}{ns:List Int},IntsAre vs ns->Vals (ns.map V.int) vs
 | _,_,.nil=>.nil
 | _,_,.cons n t h=>.cons ⟨t,rfl⟩ (zfA h)
noncomputable def Only (H:Hp):Prop:=∀b,H b=none\/∃o xs,H b=some (.frz o (.lst xs))
noncomputable abbrev KOf {K:PySem.W.Frag}{h:Heap}(_:K.In h):PySem.W.Frag:=K
noncomputable def zat (s:Stmt):Arguments:=match s with
 | .FunctionDef _ a _ _ _ _ _ _ _ _=>a
 | _=>{ posonlyargs:=[],args:=[],vararg:=none,kwonlyargs:=[],kw_defaults:=[],kwarg:=none,defaults:=[] }
noncomputable def zan (s:Stmt):List Stmt:=match s with
 | .FunctionDef _ _ b _ _ _ _ _ _ _=>b
 | _=>[]
noncomputable def zac (s:Stmt):Scope:=match s with
 | .FunctionDef _ _ _ _ _ _ sc _ _ _=>sc
 | _=>{ kind:=.function,names:=[],isGenerator:=false,isCoroutine:=false }
noncomputable abbrev CX0:CXT:=λ_ _ _ _ _ _=>False
noncomputable abbrev E0:XK:=λ_ _ _=>False
theorem zoO {X:Cx}:zeA CX0 X E0:=λ_ _ _ _ _ _ _ h=>h.elim
structure Fun (K:PySem.W.Frag)(x qual:Str)(st:Stmt)(f:Addr)(fd:FuncData):Prop where
 ex:∃(oc:Value) (od:Option Addr) (kV doc pm:Value) (an:Option Addr) (cdv ct:Value) (osl:Array (Option Value)),
  fd=PySem.W.fnOf x qual (zat st) (zan st) (zac st) .none kV doc pm an cdv ct/\K.lookup f=some ⟨oc,od,.func fd,osl⟩/\PySem.W.codeIn K cdv qual=true
 kp:PySem.W.keepIn K (.ref f)=true
section
variable {P:Program}{w:World}{K:PySem.W.Frag}{mg:Str->Option Value}{base:Heap}
theorem Fun.ok {x qual:Str}{st:Stmt}{f:Addr}{fd:FuncData}{N ps:List Str}{k:Nat}{sp:Sp}(F:Fun K x qual st f fd)(S:zas N ps (zac st))(len:∀vs H Q E,sp vs H Q E->vs.length=ps.length)
  (hbody:∀(cdv:Value) (A:Around) (outer:List Env) (s:Shared) (H:Hp) (vs:List V) (Q:VK) (E:XK),Room k (A.deeper (envOfC qual (zac st) s.heap.objs.size f cdv))->sp vs H Q E->
   ∃t,PSs (cxOf CX0 P w K mg base N qual (zac st) f cdv A outer s H E).nox (zan st) t/\t { nx:=λ_ H'=>Q .non H',rt:=Q } (start N vs) H):FnOk P w K mg base CX0 (k+1) f fd ps sp:=by
 obtain⟨oc,od,kV,doc,pm,an,cdv,ct,osl,rfl,lk,hcd⟩:=F.ex;refine znt lk hcd S len λA outer s H vs Q E hr hsp=>?_;obtain⟨t,h,q⟩:=hbody cdv A outer s H vs Q E hr hsp;exact⟨t,h.nox,q⟩
theorem Fun.binds {x qual:Str}{st:Stmt}{f:Addr}{fd:FuncData}{ps:List Str}(F:Fun K x qual st f fd)
  (h:∀(kV doc pm:Value) (an:Option Addr) (cdv ct:Value) (us:List Value),us.length=ps.length->bindArgs (PySem.W.fnOf x qual (zat st) (zan st) (zac st) .none kV doc pm an cdv ct) ⟨us,[]⟩=pure (ps.zip us)):Binds K fd ps []:=by
 obtain⟨oc,od,kV,doc,pm,an,cdv,ct,osl,rfl,lk,hcd⟩:=F.ex;exact .all (h kV doc pm an cdv ct)
theorem zaM {x qual:Str}{st:Stmt}{f:Addr}{oc:Value}{od an:Option Addr}{osl:Array (Option Value)}{kV doc pm cdv ct:Value}(l:K.lookup f=some ⟨oc,od,.func (PySem.W.fnOf x qual (zat st) (zan st) (zac st) .none kV doc pm an cdv ct),osl⟩)
  (c:PySem.W.codeIn K cdv qual=true) (k:PySem.W.keepIn K (.ref f)=true):Fun K x qual st f (PySem.W.fnOf x qual (zat st) (zan st) (zac st) .none kV doc pm an cdv ct):=⟨⟨oc,od,kV,doc,pm,an,cdv,ct,osl,rfl,l,c⟩,k⟩
end
theorem iteF {A B:Prop}(h:B):if false=true then A else B:=by
 rw[if_neg Bool.false_ne_true];exact h
theorem iteT {A B:Prop}(h:A):if true=true then A else B:=by
 rw[if_pos rfl];exact h
theorem ite2 {c A B:Prop} [Decidable c] (h1:c->A)(h2:¬ c->B):if c then A else B:=by
 by_cases h:c
 ·rw[if_pos h];exact h1 h
 ·rw[if_neg h];exact h2 h
noncomputable def Same (H H':Hp):Prop:=∀b o,H b=some o->H' b=some o
theorem Same.refl (H:Hp):Same H H:=λ_ _ h=>h
theorem Same.trans {H H1 H2:Hp}(a:Same H H1)(b:Same H1 H2):Same H H2:=λc o h=>b c o (a c o h)
theorem Same.free {H H':Hp}(e:Same H H'){l:Addr}(h:H' l=Option.none):H l=Option.none:=by
 cases q:H l with
 | none=>rfl
 | some o=>
  rw[e l o q]at h;cases h
theorem Same.seq {K:PySem.W.Frag}{H H':Hp}{a:Addr}{xs:List V}(e:Same H H')(h:SqL K H a xs):SqL K H' a xs:=by
 rcases h with (h | ⟨o,h⟩) | h
 ·exact .inl (.inl (e _ _ h))
 ·exact .inl (.inr ⟨o,e _ _ h⟩)
 ·exact .inr h
noncomputable def zaD (env:Env):List (Str×NameKind)->List (Str×Addr)->List (Str×Addr)
 | [],acc=>acc
 | (n,k)::r,acc=>zaD env r (if k == .free then(n,(env.cells.lookup n).getD 0)::acc else acc)
theorem zhi {env:Env}(f:Str×NameKind->List (Str×Addr)->Sem (ForInStep (List (Str×Addr))))
  (hf:∀n k cs,f (n,k) cs=if k == .free then(do let a <- cellOf env n;pure (.yield ((n,a)::cs))) else pure (.yield cs)) :
  ∀(l:List (Str×NameKind)) (acc:List (Str×Addr)),(∀n,(n,NameKind.free)∈l->∃c,env.cells.lookup n=some c)->forIn l acc f=pure (zaD env l acc)
 | [],acc,_=>by rw[List.forIn_nil];rfl
 | (n,k)::r,acc,h=>by
  have ih:=zhi f hf r;have hr:∀m,(m,NameKind.free)∈r->∃c,env.cells.lookup m=some c:=λm hm=>h m (List.mem_cons_of_mem _ hm);rw[List.forIn_cons,hf];unfold zaD;by_cases hk:(k == NameKind.free)=true
  ·have hk':k=NameKind.free:=by simpa using hk
   subst hk';obtain⟨c,hc⟩:=h n List.mem_cons_self;have e:cellOf env n=pure c:=by unfold cellOf;rw[hc]
   rw[if_pos hk,if_pos hk,e,hc];simp only[pure_bind,Option.getD_some];exact ih _ hr
  ·rw[if_neg hk,if_neg hk];simp only[pure_bind];exact ih _ hr
theorem zgE {scope:Scope}{env:Env}(h:∀n,(n,NameKind.free)∈scope.names->∃c,env.cells.lookup n=some c):closureFor scope env=pure (zaD env scope.names []):=by
 simp only[closureFor];rw[zhi (env:=env) _ (λn k cs=>by cases hk:(k == NameKind.free)<;>simp[hk]) scope.names [] h];simp
theorem zeB {env:Env}:∀(l:List (Str×NameKind))(acc:List (Str×Addr)),(∀n,(n,NameKind.free)∈l->∃c,env.cells.lookup n=some c)->(∀n c,(n,c)∈acc->env.cells.lookup n=some c)->
  ∀n c,(n,c)∈zaD env l acc->env.cells.lookup n=some c
 | [],_,_,ha,n,c,hm=>ha n c hm
 | (x,k)::r,acc,h,ha,n,c,hm=>by
  have hr:∀m,(m,NameKind.free)∈r->∃c,env.cells.lookup m=some c:=λm hm=>h m (List.mem_cons_of_mem _ hm);unfold zaD at hm;refine zeB r _ hr (λm d hd=>?_) n c hm;by_cases hk:(k == NameKind.free)=true
  ·have hk':k=NameKind.free:=by simpa using hk
   subst hk';rw[if_pos hk]at hd;rcases List.mem_cons.mp hd with e | hd
   ·obtain⟨c',hc'⟩:=h x List.mem_cons_self;cases e;rw[hc'];rfl
   ·exact ha m d hd
  ·rw[if_neg hk]at hd;exact ha m d hd
theorem zcZ {env:Env}:∀(l:List (Str×NameKind))(acc:List (Str×Addr))(n:Str),((n,NameKind.free)∈l\/(acc.lookup n).isSome=true)->((zaD env l acc).lookup n).isSome=true
 | [],_,_,h=>h.elim (λz=>nomatch z) id
 | (x,k)::r,acc,n,h=>by
  unfold zaD;refine zcZ r _ n ?_;have up:(acc.lookup n).isSome=true->((if (k == NameKind.free)=true then(x,(env.cells.lookup x).getD 0)::acc else acc).lookup n).isSome=true:=λz=>by
   by_cases hk:(k == NameKind.free)=true
   ·rw[if_pos hk,List.lookup_cons];cases n == x<;>simp[z]
   ·rw[if_neg hk];exact z
  rcases h with h | h
  ·rcases List.mem_cons.mp h with e | h
   ·right;cases e;rw[if_pos (by rfl),List.lookup_cons];simp
   ·exact .inl h
  ·exact .inr (up h)
theorem zaR:∀(names:List (Str×NameKind))(n:Nat)(acc:List (Str×Addr)),cellsFrom n names acc=cellsFrom n names []++acc
 | [],_,_=>rfl
 | (x,k)::r,n,acc=>by
  unfold cellsFrom;by_cases hk:(k == NameKind.cell)=true
  ·rw[if_pos hk,if_pos hk,zaR r (n+1) ((x,n)::acc),zaR r (n+1) [(x,n)],List.append_assoc];rfl
  ·rw[if_neg hk,if_neg hk];exact zaR r n acc
theorem zbC:∀(names:List (Str×NameKind))(n:Nat)(acc:List (Str×Addr))(x:Str)(c:Addr),(x,c)∈cellsFrom n names acc->(x,c)∈acc\/(x,NameKind.cell)∈names
 | [],_,_,_,_,h=>.inl h
 | (y,k)::r,n,acc,x,c,h=>by
  unfold cellsFrom at h;by_cases hk:(k == NameKind.cell)=true
  ·have hk':k=NameKind.cell:=by simpa using hk
   subst hk';rw[if_pos hk]at h;rcases zbC r _ _ x c h with h | h
   ·rcases List.mem_cons.mp h with e | h
    ·cases e;exact .inr List.mem_cons_self
    ·exact .inl h
   ·exact .inr (List.mem_cons_of_mem _ h)
  ·rw[if_neg hk]at h;rcases zbC r _ _ x c h with h | h
   ·exact .inl h
   ·exact .inr (List.mem_cons_of_mem _ h)
noncomputable def zdj (sc sup:Scope):Scope:=
 {sc with names:=sc.names.map λ(n,k)=>if (k == .free&&sup.kind == .function&&sup.names.lookup n == some .cell) then(n,.cell) else(n,k) }
noncomputable def cpOk (sup:Scope)(XN N:List Str)(k:Nat)(js:List Nat)(sc:Scope):Bool:=
 sc.kind == .function&&decide N.Nodup&&decide (sc.names.map (·.1)).Nodup&&(sc.names.all λp=>p.2 != .free||(sup.names.lookup p.1 == some .cell||sup.names.lookup p.1 == some .free)) &&
  N.length == k+js.length&&((N.drop k).zip js).all λp=>sc.names.lookup p.1 == some .free&&XN[p.2]? == some p.1
structure zbs (X:Cx)(N:List Str)(k:Nat)(js:List Nat)(sc:Scope):Prop where
 kind:sc.kind=.function
 nd:N.Nodup
 nm:(sc.names.map (·.1)).Nodup
 fr:∀n,(n,NameKind.free)∈sc.names->X.env.kindOf n=some .cell\/X.env.kindOf n=some .free
 len:N.length=k+js.length
 at':∀(i:Nat) (x:Str),N[k+i]? = some x->sc.names.lookup x=some .free/\∃j,js[i]? = some j/\X.N[j]? = some x
theorem zeX {X:Cx}{sup:Scope}{XN N:List Str}{k:Nat}{js:List Nat}{sc:Scope}(hs:X.env.scope=sup)(hn:X.N=XN)(h:cpOk sup XN N k js sc=true):zbs X N k js sc:=by
 subst hs hn;unfold cpOk at h;simp only[Bool.and_eq_true,decide_eq_true_eq,beq_iff_eq,List.all_eq_true]at h;obtain⟨⟨⟨⟨⟨h1,h2⟩,h3⟩,h4⟩,h5⟩,h6⟩:=h;refine⟨h1,h2,h3,λn hn=>?_,h5,λi x hi=>?_⟩
 ·have q:=h4 _ hn;simp only[bne_self_eq_false,Bool.false_or,Bool.or_eq_true,beq_iff_eq]at q;exact q
 ·have hi':(N.drop k)[i]? = some x:=by rw[List.getElem?_drop];exact hi
  have hl:k+i<N.length:=(List.getElem?_eq_some_iff.mp hi).1;have hj:i<js.length:=by lia
  have hm:(x,js[i])∈(N.drop k).zip js:=by
   refine List.mem_iff_getElem?.mpr ⟨i,?_⟩;rw[List.getElem?_zip_eq_some];exact⟨hi',by simp[hj]⟩
  have q:=h6 _ hm;exact⟨q.1,js[i],by simp[hj],q.2⟩
theorem zbO {α:Type}:∀ {l:List (Str×α)}{x:Str}{v:α},(l.map (·.1)).Nodup->(x,v)∈l->l.lookup x=some v
 | (y,u)::r,x,v,nd,h=>by
  rw[List.map_cons,List.nodup_cons]at nd;rw[List.lookup_cons];rcases List.mem_cons.mp h with e | h
  ·cases e;simp
  ·have ne:x≠y:=λz=>nd.1 (List.mem_map.mpr ⟨(x,v),h,z⟩);have hb:(x == y)=false:=by simpa using ne
   rw[hb];exact zbO nd.2 h
noncomputable def zca (k:Nat)(js:List Nat)(σ:St):St:=List.replicate k none++js.map λj=>(σ[j]?).getD none
noncomputable def cxB (X:Cx)(N:List Str)(sc:Scope)(C:Addr)(cells:List (Str×Addr))(fp:List Addr)(s:Shared)(H:Hp):Cx where
 prog:=X.prog
 w:=X.w
 K:=X.K
 mg:=X.mg
 base:=X.base
 A:=X.A
 N:=N
 s₀:=s
 H₀:=H
 env:={ scope:=zdj sc X.env.scope,locals:=C,globals:=X.env.globals,cells:=cells,qual:=X.env.qual,func:=none,code:=X.env.code,frame:=X.env.frame,builtins:=X.env.builtins }
 outer:=X.stack
 stack:=X.stack
 ex:=fp
 fn:=λx=>sc.names.lookup x == some .cell
 calm:=X.calm
 pn:=[]
 xe:=λ_ _=>False
section
variable {X:Cx}{pins:List (Addr×Obj)}{σ:St}{H:Hp}{s:Shared}
theorem zcH {sc sup:Scope}{x:Str}{k:NameKind}(h:(zdj sc sup).names.lookup x=some k):sc.names.lookup x=some k\/(sc.names.lookup x=some .free/\k=.cell):=by
 unfold zdj at h;dsimp only at h;generalize sc.names=l at h ⊢;induction l with
 | nil=>simp at h
 | cons p r ih=>
  obtain⟨n,kd⟩:=p;rw[List.map_cons,List.lookup_cons]at h;rw[List.lookup_cons];dsimp only at h;by_cases hc:(kd == NameKind.free&&sup.kind == ScopeKind.function&&sup.names.lookup n == some NameKind.cell)=true
  ·rw[if_pos hc]at h;dsimp only at h;cases hx:x == n with
   | true=>
    rw[hx]at h;simp only[Bool.and_eq_true,beq_iff_eq]at hc;right;exact⟨by rw[hc.1.1],(Option.some.inj h).symm⟩
   | false=>rw[hx]at h;exact ih h
  ·rw[if_neg hc]at h;dsimp only at h;cases hx:x == n with
   | true=>rw[hx]at h;left;exact h
   | false=>rw[hx]at h;exact ih h
theorem zcI {sc sup:Scope}{x:Str}(h:sc.names.lookup x=some .free):(zdj sc sup).names.lookup x=some .cell\/(zdj sc sup).names.lookup x=some .free:=by
 unfold zdj;dsimp only;generalize sc.names=l at h ⊢;induction l with
 | nil=>simp at h
 | cons p r ih=>
  obtain⟨n,kd⟩:=p;rw[List.lookup_cons]at h;rw[List.map_cons];dsimp only;by_cases hc:(kd == NameKind.free&&sup.kind == ScopeKind.function&&sup.names.lookup n == some NameKind.cell)=true
  ·rw[if_pos hc,List.lookup_cons];cases hx:x == n with
   | true=>left;rfl
   | false=>rw[hx]at h;exact ih h
  ·rw[if_neg hc,List.lookup_cons];cases hx:x == n with
   | true=>rw[hx]at h;right;exact h
   | false=>rw[hx]at h;exact ih h
theorem Inv.block {N:List Str}{k:Nat}{js:List Nat}{sc:Scope}{fp:List Addr}(I:Inv X pins σ H s)(S:zbs X N k js sc)(hf:∀b∈fp,FpOk X pins H b)(hfs:∀b∈fp,b<s.heap.objs.size) :
  Inv (cxB X N sc s.heap.objs.size (cellsFrom (s.heap.objs.size+1) sc.names (zaD X.env sc.names [])) fp s H) [] (zca k js σ) H
   {s with heap:=pushCells (s.heap.push { cls:=.type "dict",data:=.dict #[] }) sc.names }:=by
 have hz:(s.heap.push { cls:=.type "dict",data:=.dict #[] }).objs.size=s.heap.objs.size+1:=Heap.size_push ..;have kp:∀b o,s.heap.get? b=some o->(pushCells (s.heap.push { cls:=.type "dict",data:=.dict #[] }) sc.names).get? b=some o:=λb o e=>pushCells_keeps _ _ b o (Heap.get?_push_of_some _ e);have cok:=cellsFrom_ok sc.names (s.heap.push { cls:=.type "dict",data:=.dict #[] }) (s.heap.objs.size+1) [] ⟨λ_ _ hm=>(nomatch hm),List.Pairwise.nil⟩ (by rw[hz];exact Nat.le_refl _);rw[hz]at cok;have frs':∀n,(n,NameKind.free)∈sc.names->∃c,X.env.cells.lookup n=some c:=λn hn=>I.ok.has n (S.fr n hn);have csub:=zeB (env:=X.env) sc.names [] frs' (λ_ _ z=>nomatch z);have cases_:∀x c,(cellsFrom (s.heap.objs.size+1) sc.names (zaD X.env sc.names [])).lookup x=some c->
   ((cellsFrom (s.heap.objs.size+1) sc.names []).lookup x=some c)\/((cellsFrom (s.heap.objs.size+1) sc.names []).lookup x=none/\(zaD X.env sc.names []).lookup x=some c):=λx c h=>by
  rw[zaR,List.lookup_append]at h;cases q:(cellsFrom (s.heap.objs.size+1) sc.names []).lookup x with
  | some d=>rw[q]at h;left;simpa using h
  | none=>rw[q]at h;right;exact⟨rfl,by simpa using h⟩
 have old:∀x c,(zaD X.env sc.names []).lookup x=some c->X.env.cells.lookup x=some c:=λx c h=>csub x c (PySem.mem_of_lookup h);have oldlt:∀x c,X.env.cells.lookup x=some c->c<s.heap.objs.size:=λx c h=>let ⟨_,q⟩:=I.cell x c h;q.lt;have ownge:∀x c,(cellsFrom (s.heap.objs.size+1) sc.names []).lookup x=some c->s.heap.objs.size+1<=c:=λx c h=>(cok.empty x c (PySem.mem_of_lookup h)).2;refine⟨⟨I.ok.mod,S.kind,I.ok.glob,I.ok.blt,Nat.le_refl _,?inj,?has,?cab,I.ok.hd,I.ok.frames,.inl rfl,?exf,I.bs,Nat.le_trans I.ok.bsz I.sz,?noex,?exfs,I.stack,I.zgw⟩,rfl,I.bare,Un.kept kp,?loc,?cell,I.hok.fresh (Nat.le_refl _),?freeC,λp hp=>absurd (show p∈([]:List (Addr×Obj)) from hp) (by simp),I.hok.kept kp,?len⟩
 case inj=>
  intro x y c hx hy;rcases cases_ x c hx with h1 | ⟨_,h1⟩<;>rcases cases_ y c hy with h2 | ⟨_,h2⟩
  ·exact name_of_addr cok.apart (PySem.mem_of_lookup h1) (PySem.mem_of_lookup h2)
  ·exact absurd (Nat.lt_of_lt_of_le (oldlt y c (old y c h2)) (Nat.le_of_succ_le (ownge x c h1))) (Nat.lt_irrefl _)
  ·exact absurd (Nat.lt_of_lt_of_le (oldlt x c (old x c h1)) (Nat.le_of_succ_le (ownge y c h2))) (Nat.lt_irrefl _)
  ·exact I.ok.inj x y c (old x c h1) (old y c h2)
 case has=>
  intro x hx;have hx':(zdj sc X.env.scope).names.lookup x=some .cell\/(zdj sc X.env.scope).names.lookup x=some .free:=hx;have q:sc.names.lookup x=some .cell\/sc.names.lookup x=some .free:=by
   rcases hx' with h | h
   ·rcases zcH h with h | ⟨h,_⟩
    ·exact .inl h
    ·exact .inr h
   ·rcases zcH h with h | ⟨h,_⟩
    ·exact .inr h
    ·exact .inr h
  refine Option.isSome_iff_exists.mp (PySem.W.cellsFrom_some sc.names _ _ ?_);rcases q with q | q
  ·exact .inl q
  ·exact .inr (zcZ _ _ _ (.inl (PySem.mem_of_lookup q)))
 case cab=>
  intro x c hfn hx;have hc:sc.names.lookup x=some .cell:=by simpa[cxB]using hfn
  rcases cases_ x c hx with h | ⟨h,_⟩
  ·have:=ownge x c h;show s.heap.objs.size<=c;lia
  ·have q:=PySem.W.cellsFrom_some sc.names (s.heap.objs.size+1) [] (.inl hc);rw[h]at q;cases q
 case exf=>
  intro b hb;have hlt:=hfs b hb;refine⟨Nat.ne_of_lt hlt,λx c hx=>?_⟩;rcases cases_ x c hx with h | ⟨_,h⟩
  ·exact λz=>absurd (Nat.lt_of_lt_of_le (show c<s.heap.objs.size by rw[z];exact hlt) (Nat.le_of_succ_le (ownge x c h))) (Nat.lt_irrefl _)
  ·exact(hf b hb).2.2.2.2.1 x c (old x c h)
 case noex=>
  intro b o e hb;rcases(hf b hb).2.2.2.1 with z | z
  ·exact I.ok.noex b o e z
  ·exact absurd (Nat.lt_of_lt_of_le (Heap.lt_size (I.ok.bs b o e).1) z) (Nat.lt_irrefl _)
 case exfs=>
  intro b hb hbf;rcases List.mem_cons.mp (I.zix b hbf)with z | z
  ·exact(hf b hb).2.1 z
  ·exact(hf b hb).2.2.1 z
 case loc=>
  refine⟨_,(Heap.Ns.new s.heap (.type "dict")).keeps (pushCells_keeps _ _),λi x v e1 e2 e3=>?_⟩;have hik:k<=i:=by
   unfold zca at e2;by_cases hik:k<=i
   ·exact hik
   ·rw[List.getElem?_append_left (by simp;lia),List.getElem?_replicate]at e2;split at e2<;>cases e2
  obtain⟨i',rfl⟩:∃i',i=k+i':=⟨i-k,by lia⟩;obtain⟨hfree,j,hj,hX⟩:=S.at' i' x e1;have e2':(σ[j]?).getD none=some v:=by
   unfold zca at e2;rw[List.getElem?_append_right (by simp)]at e2;rw[List.length_replicate,show k+i'-k=i' by lia,List.getElem?_map,hj]at e2;exact Option.some.inj e2
  have hσ:σ[j]? = some (some v):=by
   cases q:σ[j]? with
   | none=>rw[q]at e2';cases e2'
   | some o=>rw[q]at e2';exact congrArg some e2'
  have hk:=S.fr x (PySem.mem_of_lookup hfree);obtain⟨m,hn,hl⟩:=I.loc;obtain⟨u,r,l⟩:=hl j x v hX hσ (by rcases hk with h | h;exact .inr (.inl h);exact .inr (.inr h))
  rcases l with ⟨hloc,_⟩ | ⟨_,c,hc,hcell⟩
  ·rcases hk with h | h<;>(rw[h]at hloc;cases hloc)
  ·refine⟨u,r,.inr ⟨zcI hfree,c,?_,hcell.keeps kp⟩⟩;show(cellsFrom (s.heap.objs.size+1) sc.names (zaD X.env sc.names [])).lookup x=some c;have hno:(cellsFrom (s.heap.objs.size+1) sc.names []).lookup x=none:=by
    cases q:(cellsFrom (s.heap.objs.size+1) sc.names []).lookup x with
    | none=>rfl
    | some d=>
     rcases zbC _ _ _ x d (PySem.mem_of_lookup q)with z | z
     ·cases z
     ·have:=zbO S.nm z;rw[hfree]at this;cases this
   obtain⟨d,hd⟩:=Option.isSome_iff_exists.mp (zcZ (env:=X.env) sc.names [] x (.inl (PySem.mem_of_lookup hfree)));have hdc:d=c:=by
    have:=old x d hd;rw[hc]at this;exact(Option.some.inj this).symm
   rw[zaR,List.lookup_append,hno,hd,hdc];rfl
 case cell=>
  intro x c hx;rcases cases_ x c hx with h | ⟨_,h⟩
  ·exact⟨none,(cok.empty x c (PySem.mem_of_lookup h)).1⟩
  ·obtain⟨v,q⟩:=I.cell x c (old x c h);exact⟨v,q.keeps kp⟩
 case freeC=>
  intro x c hx;rcases cases_ x c hx with h | ⟨_,h⟩
  ·exact I.hok.fresh (by have:=ownge x c h;lia)
  ·exact I.freeC x c (old x c h)
 case len=>
  show(zca k js σ).length=N.length;unfold zca;rw[List.length_append,List.length_replicate,List.length_map];exact S.len.symm
end
theorem ziQ {prog:Program}{w:World}{A:Around}{R:Result->Shared->Prop}{s:Shared}{elt tg iter:Expr}{ifs:List Expr}{scope:Scope}{pos:Pos}{it acc:Value}{env:Env}(J:Nat->Shared->Prop)
  (turn:∀n s,J n s->wpAny (model prog w) A (pyNext it) (λr s1=>match r with
   | none=>R (.ok .next) s1
   | some v=>wpAny (model prog w) A (letOwnedTupleGo tg it v) (λ_ s2=>wpAny (model prog w) A (assign tg env v) (λ_ s3=>
     wpAny (model prog w) A (forIn ifs true λc r=>if r=true then do let ok <- isTrue c env (eval c env);pure (ForInStep.yield ok) else pure (ForInStep.yield r)) (λok s4=>
      if ok=true then wpAny (model prog w) A (eval elt env) (λx s5=>wpAny (model prog w) A (call (.builtin "list.append") [acc,x]) (λ_ s6=>∃m,m<n/\J m s6) (λ_ _=>False) s5) (λ_ _=>False) s4
      else ∃m,m<n/\J m s4) (λ_ _=>False) s3) (λ_ _=>False) s2) (λ_ _=>False) s1) (λ_ _=>False) s)
  (n:Nat) (h:J n s):codeAny (model prog w) A (.compLoop (.ListComp elt [⟨tg,iter,ifs,0⟩] scope pos) 0 it acc env) R s:=by
 refine codeAny_loop rfl J (λn s hI=>wpAny_noted (wpAny_noRaise ?_)) n h;rw[compTurn_list];refine wpAny_bind (wpAny_standAt (wpAny_bind (thn (turn n s hI) λr s1 h1=>?_)));cases r with
 | none=>exact wpAny_pure h1
 | some v=>
  refine wpAny_bind (thn h1 λ_ s2 h2=>wpAny_bind (thn h2 λ_ s3 h3=>wpAny_bind (thn h3 λok s4 h4=>?_)));cases ok with
  | false=>exact wpAny_pure ⟨rfl,by simpa using h4⟩
  | true=>
   rw[if_pos rfl]at h4;exact wpAny_bind (wpAny_bind (thn h4 λx s5 h5=>wpAny_bind (thn h5 λ_ s6 h6=>wpAny_pure (wpAny_pure ⟨rfl,h6⟩))))
theorem zfB {M:Model}{A:Around}{E:Value->Shared->Prop}{s:Shared}{sc:Scope}{globals:Addr}{clo:List (Str×Addr)}{qual:Str}{out:Env}{Q:Env->Shared->Prop}
  (h:Q { scope:=sc,locals:=s.heap.objs.size,globals:=globals,cells:=cellsFrom (s.heap.objs.size+1) sc.names clo,qual:=qual,func:=none,code:=out.code,frame:=out.frame,builtins:=out.builtins }
   {s with heap:=pushCells (s.heap.push { cls:=.type "dict",data:=.dict #[] }) sc.names }) :
  wpAny M A (newFunctionEnv sc globals clo [] qual none .none (some out)) Q E s:=by
 unfold newFunctionEnv;simp only[Option.isSome_some,if_true];refine wpAny_bind (wpAny_alloc (wpAny_bind (wpAny_layCells _ (λname kind cells=>by cases hkc:kind == NameKind.cell<;>simp[hkc]) _ _ _ _ ?_)));rw[show({ s with heap:=s.heap.push { cls:=.type "dict",data:=.dict #[] } }:Shared).heap.objs.size=s.heap.objs.size+1 from Heap.size_push ..];simp only[List.forIn_nil];exact wpAny_bind (wpAny_pure (wpAny_pure h))
noncomputable def PTs (X:Cx)(ifs:List Expr)(t:TT):Prop:=
 ∀(pins:List (Addr×Obj)) (s:Shared) (σ:St) (H:Hp) (Q:Bool->Hp->Prop),Inv X pins σ H s->t σ H Q->
  wpAny (model X.prog X.w) X.A (forIn ifs true λc r=>if r=true then do let ok <- isTrue c X.env (eval c X.env);pure (ForInStep.yield ok) else pure (ForInStep.yield r)) (TP X pins σ Q) X.xe s
noncomputable def zmc:TT:=λ_ H Q=>Q true H
theorem zmd {X:Cx}:PTs X [] zmc:=λpins s σ H Q I h=>wpAny_tests_nil ⟨H,I,h⟩
theorem zme {X:Cx}{c:Expr}{t:TT}(h:PT X c t):PTs X [c] t:=λpins s σ H Q I q=>wpAny_tests_one (h pins s σ H Q I q)
noncomputable def zfC (J:It)(g:TG)(tt:TT)(te:TE)(l:Addr)(σb:St)(H1:Hp)(R:Hp->Prop):Prop:=
 ∃W:Nat->Nat->St->Hp->Prop,(∃m,W 0 m σb (upd H1 l (.lst [])))/\∀i m σ' H',W i m σ' H'->
  (J.stop i H'/\R H')\/(J.go i H'/\∀x H2,J.yld i H' x H2->g x σ' H2 λσ2 H3=>tt σ2 H3 λb H4=>if b=true
   then te σ2 H4 λv H5=>∃ys,H5 l=some (.lst ys)/\ys.length<sizeLine/\∃m',m'<m/\W (i+1) m' σ2 (upd H5 l (.lst (ys++[v])))
   else ∃m',m'<m/\W (i+1) m' σ2 H4)
noncomputable def ziR (k:Nat)(js:List Nat)(wi:TI)(g:TG)(tt:TT)(te:TE):TE:=λσ H Q=>wi σ H λJ H1=>∀l,H1 l=none->zfC J g tt te l (zca k js σ) H1 λH'=>Q (.ref l) H'
section
variable {X:Cx}{elt tg iter:Expr}{ifs:List Expr}{sc:Scope}{pos:Pos}{N:List Str}{k:Nat}{js:List Nat}{wi:TI}{g:TG}{tt:TT}{te:TE}
structure Blk (X:Cx)(N:List Str)(sc:Scope)(tg:Expr)(ifs:List Expr)(elt:Expr)(g:TG)(tt:TT)(te:TE):Prop where
 tgt:∀C cells fp s H,PG (cxB X N sc C cells fp s H) tg g
 tst:∀C cells fp s H,PTs (cxB X N sc C cells fp s H) ifs tt
 val:∀C cells fp s H,PE (cxB X N sc C cells fp s H) elt te
noncomputable def After (X:Cx)(pins:List (Addr×Obj))(σ:St)(R:Addr->Hp->Prop)(acc:Value)(C:Addr)(s':Shared):Prop:=
 ∃(l:Addr) (H':Hp) (m:Str->Option Value),acc=.ref l/\Inv X pins σ H' s'/\s'.heap.Ns C m/\FpOk X pins H' C/\R l H'
theorem zkr {pins:List (Addr×Obj)}{σ:St}{H:Hp}{s:Shared}{R:Addr->Hp->Prop}(hc:X.calm=true)(S:zbs X N k js sc)(hi:PI X tg iter wi)(B:Blk X N sc tg ifs elt g tt te)(I:Inv X pins σ H s)
  (h:wi σ H λJ H1=>∀l,H1 l=none->zfC J g tt te l (zca k js σ) H1 (R l)) :
  wpAny (model X.prog X.w) X.A (eval iter X.env) (λx s1=>wpAny (model X.prog X.w) X.A (pyIter x) (λit s2=>wpAny (model X.prog X.w) X.A (newList []) (λacc s3=>
   wpAny (model X.prog X.w) X.A (newFunctionEnv sc X.env.globals (zaD X.env sc.names []) [] X.env.qual none .none (some X.env)) (λcenv s4=>
    codeAny (model X.prog X.w) X.A (.compStart (.ListComp elt [⟨tg,iter,ifs,0⟩] sc pos) 0 it acc { cenv with scope:=relabel sc X.env })
     (λr s'=>match r with | .ok _=>After X pins σ R acc cenv.locals s' | .error _=>False) s4) X.xe s3) X.xe s2) X.xe s1) X.xe s:=by
 refine thn (hi pins s σ H _ I h) λv s1 h1=>thn h1 λitv s2 h2=>?_;obtain⟨it,fp,tn,J,H2,e,I2,T,st2,f2,hq⟩:=h2;subst e;have hl:H2 s2.heap.objs.size=none:=I2.fresh;have fplt:∀b∈fp,b<s2.heap.objs.size:=λb hb=>by
  obtain⟨o,e,_⟩:=T.obj 0 _ st2 b hb;exact Heap.lt_size e
 obtain⟨W,⟨m0,w0⟩,turn⟩:=hq _ hl;refine wpAny_newList ?_;have I3:Inv X pins σ (upd H2 s2.heap.objs.size (.lst [])) { s2 with heap:=s2.heap.push { cls:=.type "list",data:=.seq ([]:List Value).toArray } }:=I2.lnew (its:=[]) (t':=s2.toks) .nil (Nat.zero_le _);have u3:Un (frs X.stack) fp H2 (upd H2 s2.heap.objs.size (.lst [])) s2.heap (s2.heap.push { cls:=.type "list",data:=.seq ([]:List Value).toArray }):=Un.laid (λb o e=>Heap.get?_push_of_some _ e) (Nat.le_refl _) hl;have hz3:(s2.heap.push { cls:=.type "list",data:=.seq ([]:List Value).toArray }).objs.size=s2.heap.objs.size+1:=Heap.size_push ..;have kp3:∀b o,s2.heap.get? b=some o->(s2.heap.push { cls:=.type "list",data:=.seq ([]:List Value).toArray }).get? b=some o:=λb o e=>Heap.get?_push_of_some _ e;have fpn:∀b∈fp,upd H2 s2.heap.objs.size (.lst []) b=none:=λb hb=>by
  rw[zap (Nat.ne_of_lt (fplt b hb))];exact(f2 b hb).1
 generalize hl0:s2.heap.objs.size=l at hl I3 u3 hz3 kp3 fpn w0 turn ⊢;rw[hl0]at fplt;generalize s2.heap.push { cls:=.type "list",data:=.seq ([]:List Value).toArray }=h3 at I3 u3 hz3 kp3 ⊢;generalize upd H2 l (.lst [])=H3 at I3 u3 fpn w0;have f3:∀b∈fp,FpOk X pins H3 b:=λb hb=>⟨fpn b hb,(f2 b hb).2⟩;have I4:=I3.block S f3 (λb hb=>by show b<h3.objs.size;rw[hz3];exact Nat.lt_succ_of_lt (fplt b hb));have kp4:∀b o,s2.heap.get? b=some o->(pushCells (h3.push { cls:=.type "dict",data:=.dict #[] }) sc.names).get? b=some o:=λb o e=>pushCells_keeps _ _ b o (Heap.get?_push_of_some _ (kp3 b o e));refine zfB ?_;have st4:tn 0 (pushCells (h3.push { cls:=.type "dict",data:=.dict #[] }) sc.names):=T.keep 0 _ _ st2 λb _ o e=>kp4 b o e;have stat:∀ {H':Hp},(∀b∈fp,H' b=none)->∀b∈fp,FpOk (cxB X N sc h3.objs.size (cellsFrom (h3.objs.size+1) sc.names (zaD X.env sc.names [])) fp { s2 with heap:=h3 } H3) [] H' b:=λhn b hb=>
  ⟨hn b hb,(I4.ok.exf b hb).1,I4.ok.exfs b hb,.inl hb,(I4.ok.exf b hb).2,λp hp=>absurd (show p∈([]:List (Addr×Obj)) from hp) (by simp)⟩
 generalize hY:cxB X N sc h3.objs.size (cellsFrom (h3.objs.size+1) sc.names (zaD X.env sc.names [])) fp { s2 with heap:=h3 } H3=Y at I4 stat;have loop:codeAny (model X.prog X.w) X.A (.compLoop (.ListComp elt [⟨tg,iter,ifs,0⟩] sc pos) 0 (.ref it) (.ref l) Y.env)
   (λr s'=>match r with | .ok _=>After X pins σ R (.ref l) h3.objs.size s' | .error _=>False) { s2 with heap:=pushCells (h3.push { cls:=.type "dict",data:=.dict #[] }) sc.names }:=by
  subst hY;refine ziQ (λn s'=>∃i σ' H',Inv (cxB X N sc h3.objs.size (cellsFrom (h3.objs.size+1) sc.names (zaD X.env sc.names [])) fp { s2 with heap:=h3 } H3) [] σ' H' s'/\tn i s'.heap/\(∀b∈fp,H' b=none)/\W i n σ' H') ?_ m0
   ⟨0,zca k js σ,H3,I4,st4,fpn,w0⟩
  rintro n s5 ⟨i,σ5,H5,I5,st5,fr5,w5⟩;rcases turn i n σ5 H5 w5 with ⟨stop,qn⟩ | ⟨go,step⟩
  ·refine thn (T.done (cxB X N sc h3.objs.size (cellsFrom (h3.objs.size+1) sc.names (zaD X.env sc.names [])) fp { s2 with heap:=h3 } H3) rfl rfl rfl hc i [] s5 σ5 H5 (λ_ _=>False) I5 (stat fr5) st5 stop) λr s6 q44q=>?_;obtain⟨hr,I6⟩:=q44q;subst hr;obtain⟨m6,hn6,_⟩:=id I6.loc;have IX:Inv X pins σ H5 s6:=I2.call' (ch:=fp) I6.os (u3.trans I6.base) I6.hok I6.bare λb hb=>⟨(f2 b hb).2.2.2.1,(f2 b hb).2.1,(f2 b hb).2.2.2.2.1,(f2 b hb).2.2.2.2.2⟩;exact⟨l,H5,m6,rfl,IX,hn6,I2.fpOk (by show s2.heap.objs.size<=h3.objs.size;rw[hz3,hl0];exact Nat.le_succ _) I6.free,qn⟩
  ·refine thn (T.item (cxB X N sc h3.objs.size (cellsFrom (h3.objs.size+1) sc.names (zaD X.env sc.names [])) fp { s2 with heap:=h3 } H3) rfl rfl rfl hc i [] s5 σ5 H5 (λ_ _=>False) I5 (stat fr5) st5 go) λr s6 q45q=>?_;obtain⟨u,hr,h6⟩:=q45q;subst hr;refine thn h6 λ_ s7 q46q=>?_;obtain⟨x,H7,I7,r7,y7,st7,fr7⟩:=q46q;have I7':=I7.pinned (stat fr7) (T.obj _ _ st7);refine thn (B.tgt _ _ _ _ _ _ s7 σ5 H7 x u _ I7' r7 (step x H7 y7)) λ_ s8 q47q=>?_;obtain⟨σ8,H8,I8,q8⟩:=q47q;refine thn (B.tst _ _ _ _ _ _ s8 σ8 H8 _ I8 q8) λok s9 q48q=>?_;obtain⟨H9,I9,q9⟩:=q48q;have kept:∀ {σ':St} {H':Hp} {s':Shared},Inv (cxB X N sc h3.objs.size (cellsFrom (h3.objs.size+1) sc.names (zaD X.env sc.names [])) fp { s2 with heap:=h3 } H3) ([]++zey fp s7.heap) σ' H' s'->tn (i+1) s'.heap/\∀b∈fp,H' b=none:=λ{σ' H' s'} I'=>
    ⟨T.keep _ _ _ st7 λb hb o e=>(I'.pin (b,o) (List.mem_append_right _ (List.mem_append_right _ (zbr hb e)))).1,λb hb=>by
     obtain⟨o,e,_⟩:=T.obj _ _ st7 b hb;exact(I'.pin (b,o) (List.mem_append_right _ (List.mem_append_right _ (zbr hb e)))).2.1⟩
   cases ok with
   | false=>
    rw[if_neg Bool.false_ne_true]at q9;rw[if_neg Bool.false_ne_true];obtain⟨m',hm,w9⟩:=q9;exact⟨m',hm,i+1,σ8,H9,I9.zbN,(kept I9).1,(kept I9).2,w9⟩
   | true=>
    rw[if_pos rfl]at q9;rw[if_pos rfl];refine thn (B.val _ _ _ _ _ _ s9 σ8 H9 _ I9 q9) λu10 s10 q49q=>?_;obtain⟨y,H10,I10,r10,ys,hys,hlen,m',hm,w10⟩:=q49q;refine thn (zcG _ s10 σ8 H10 (.ref l) [y] (.ref l) [u10] (λ_ H'=>H'=upd H10 l (.lst (ys++[y]))) I10 rfl (.cons r10 .nil) ⟨l,ys,y,rfl,rfl,hys,hlen,rfl⟩) λ_ s11 q50q=>?_;obtain⟨_,H11,I11,_,e11⟩:=q50q;subst e11;exact⟨m',hm,i+1,σ8,_,I11.zbN,(kept I11).1,(kept I11).2,w10⟩
 subst hY;exact codeAny_compStart_list loop (T.self X.A 0 _ _ _ st4 loop)
theorem zda {X:Cx}(S:zbs X N k js sc):∀x∈sc.names,x.2=.local->sc.names.lookup x.1=some .local:=λx hx hl=>zbO S.nm (by rw[<- hl];exact hx)
theorem zmf (hc:X.calm=true)(S:zbs X N k js sc)(hi:PI X tg iter wi)(B:Blk X N sc tg ifs elt g tt te)(hs:autoParam (∀x,foldedSetIterable iter X.env x=pure x) aU3) :
  PE X (.ListComp elt [⟨tg,iter,ifs,0⟩] sc pos) (ziR k js wi g tt te):=by
 intro pins s σ H Q I h;rw[eval_ListComp];refine wpAny_comprehension_free (use:=none) rfl hs (zgE λn hn=>I.ok.has n (S.fr n hn)) S.kind (zda S) ?_;refine thn (zkr (pos:=pos) (R:=λl H'=>Q (.ref l) H') hc S hi B I h) λx s1 h1=>thn h1 λit s2 h2=>thn h2 λacc s3 h3=>thn h3 λcenv s4 h4=>codeAny_mono h4 λr s' hr=>?_;cases r with
 | error e=>exact False.elim hr
 | ok f=>
  obtain⟨l,H',m,rfl,I',hn,⟨f0,f1,f2,f3,f4,f5⟩,q⟩:=hr;exact⟨m,hn,λh' sb=>⟨.ref l,H',I'.turned (t':=s'.toks) (λb o hb e=>sb.extBut b o hb e) f0 f1 f3 f4 f5,rfl,q⟩⟩
end
end L2
namespace JS
open PySem
theorem zdb {α:Type}:∀ {l:List α}{i:Nat}(h:i<l.length),(l[i]::l.eraseIdx i).Perm l
 | _::_,0,_=>List.Perm.refl _
 | x::r,i+1,h=>by
  have ih:=zdb (l:=r) (i:=i) (by simpa using h);rw[List.eraseIdx_cons_succ];exact(List.Perm.swap x _ _).trans (ih.cons x)
section
variable {M:Model}{A:Around}{E:Value->Shared->Prop}{s:Shared}
theorem zhT {src:Source}{n:Nat}{Q:Nat->Shared->Prop}(hn:n≠0)(h:∀i,i<n->Q i { s with drawn:=s.drawn.bump src }):wpAny M A (choose src n) Q E s:=
 λ_ _ _=>⟨hn,h _ (Nat.mod_lt _ (Nat.pos_of_ne_zero hn))⟩
theorem zhj {α:Type}:∀(n:Nat)(xs:List α)(s:Shared)(Q:List α->Shared->Prop),xs.length<=n->(∀ys d,ys.Perm xs->Q ys { s with drawn:=d })->wpAny M A (drawOrder n xs) Q E s
 | 0,xs,s,Q,h,hq=>by
  have e:xs=[]:=List.length_eq_zero_iff.mp (by lia);subst e;exact wpAny_pure (hq [] s.drawn (List.Perm.refl _))
 | n+1,[],s,Q,_,hq=>wpAny_pure (hq [] s.drawn (List.Perm.refl _))
 | n+1,x::r,s,Q,h,hq=>by
  show wpAny M A (choose .order (x::r).length >>= λi=>match (x::r)[i]? with
   | some y=>drawOrder n ((x::r).eraseIdx i) >>= λys=>pure (y::ys)
   | none=>unsupported "internal:drawOrder") Q E s
  refine wpAny_bind (zhT (by simp) λi hi=>?_);have e:(x::r)[i]? = some (x::r)[i]:=by simp[hi]
  rw[e];refine wpAny_bind (zhj n ((x::r).eraseIdx i) _ _ (by rw[List.length_eraseIdx_of_lt hi];simp at h ⊢;lia) λys d hp=>wpAny_pure (hq _ d ?_));exact(hp.cons _).trans (zdb hi)
end
theorem ziS {α:Type}(next:Nat->Nat):∀(fuel k:Nat)(left:List α)(out:Array α),left.length=fuel->(pickOrder.go next fuel k left out).toList.Perm (out.toList++left)
 | 0,k,left,out,h=>by
  have e:left=[]:=List.length_eq_zero_iff.mp h;subst e;simp[pickOrder.go]
 | fuel+1,k,left,out,h=>by
  unfold pickOrder.go;have hi:next k % left.length<left.length:=Nat.mod_lt _ (by lia)
  have e:left[next k % left.length]? = some left[next k % left.length]:=by simp[hi]
  rw[e];dsimp only;refine(ziS next fuel (k+1) _ _ (by rw[List.length_eraseIdx_of_lt hi];lia)).trans ?_
  rw[Array.toList_push,List.append_assoc];exact List.Perm.append_left _ (zdb hi)
theorem zfD {α:Type}(next:Nat->Nat)(xs:Array α):(pickOrder next xs).toList.Perm xs.toList:=by
 unfold pickOrder;have h:=ziS next xs.size 0 xs.toList #[] (by simp)
 simpa using h
noncomputable def Asc (xs:Array Nat):Prop:=xs.toList.Pairwise (· < ·)
theorem Asc.lt {xs:Array Nat}(h:Asc xs){i j:Nat}(hij:i<j)(hj:j<xs.size):xs.getD i 0<xs.getD j 0:=by
 have q:=List.pairwise_iff_getElem.mp h i j (by simp;lia) (by simpa using hj) hij;simpa[Array.getD,hj,show i<xs.size by lia]using q
theorem zcJ (n:Nat):Asc (Array.range n):=by
 unfold Asc;rw[Array.toList_range];exact List.pairwise_lt_range
theorem zeY (xs:Array Nat)(j:Nat):∀(fuel lo hi:Nat),Asc xs->lo<=hi->hi<=xs.size->hi-lo<=fuel->(∀i,i<lo->xs.getD i 0<j)->(∀i,hi<=i->i<xs.size->¬ xs.getD i 0<j)->
  SetTable.below.go xs j fuel lo hi<=xs.size/\(∀i,i<SetTable.below.go xs j fuel lo hi->xs.getD i 0<j)/\∀i,SetTable.below.go xs j fuel lo hi<=i->i<xs.size->¬ xs.getD i 0<j
 | 0,lo,hi,ha,h1,h2,h3,h4,h5=>by
  have:lo=hi:=by lia
  subst this;exact⟨h2,h4,h5⟩
 | fuel+1,lo,hi,ha,h1,h2,h3,h4,h5=>by
  unfold SetTable.below.go;by_cases h:lo<hi
  ·rw[if_pos h];dsimp only;have hm:(lo+hi) / 2<xs.size:=by lia
   have e:xs.getD ((lo+hi) / 2) j=xs.getD ((lo+hi) / 2) 0:=by simp[Array.getD,hm]
   rw[e];by_cases hc:xs.getD ((lo+hi) / 2) 0<j
   ·rw[if_pos hc];refine zeY xs j fuel _ _ ha (by lia) h2 (by lia) (λi hi'=>?_) h5;rcases Nat.lt_or_ge i ((lo+hi) / 2)with z | z
    ·exact Nat.lt_trans (ha.lt z hm) hc
    ·have:i=(lo+hi) / 2:=by lia
     rw[this];exact hc
   ·rw[if_neg hc];refine zeY xs j fuel _ _ ha (by lia) (by lia) (by lia) h4 λi hi' hs z=>hc ?_;rcases Nat.lt_or_ge ((lo+hi) / 2) i with y | y
    ·exact Nat.lt_trans (ha.lt y hs) z
    ·have:i=(lo+hi) / 2:=by lia
     rw[<- this];exact z
  ·rw[if_neg h];have:lo=hi:=by lia
   subst this;exact⟨h2,h4,h5⟩
theorem zhk {xs:Array Nat}(ha:Asc xs)(j:Nat):SetTable.below xs j<=xs.size/\(∀i,i<SetTable.below xs j->xs.getD i 0<j)/\∀i,SetTable.below xs j<=i->i<xs.size->¬ xs.getD i 0<j:=
 zeY xs j xs.size 0 xs.size ha (Nat.zero_le _) (Nat.le_refl _) (by lia) (λi h=>by lia) (λi h1 h2=>by lia)
theorem below_at {xs:Array Nat}(ha:Asc xs){i:Nat}(hi:i<=xs.size):SetTable.below xs (if i=0 then 0 else xs.getD (i-1) 0+1)=i:=by
 obtain⟨h1,h2,h3⟩:=zhk ha (if i=0 then 0 else xs.getD (i-1) 0+1)
 generalize SetTable.below xs (if i=0 then 0 else xs.getD (i-1) 0+1)=r at h1 h2 h3
 by_cases e:i=0
 ·subst e;rw[if_pos rfl]at h2;rcases Nat.eq_zero_or_pos r with z | z
  ·exact z
  ·exact absurd (h2 0 z) (by lia)
 ·rw[if_neg e]at h2 h3;rcases Nat.lt_trichotomy r i with z | z | z
  ·have q:=h3 (i-1) (by lia) (by lia);lia
  ·exact z
  ·have q1:=h2 i z;have q2:=ha.lt (show i-1<i by lia) (show i<xs.size by lia);lia
structure Rec (w:World)(h:Heap)(a:Addr)(es:Array (Int×Value))(ep:Nat)(t:SetTable):Prop where
 obj:∃o,h.get? a=some o/\o.ExactSet/\o.data=.set es ep t
 fits:t.fits es.size=true
 led:t.led=true\/w.params.followText "set-order" = true
 asc:Asc t.place
 dm:t.dummies = #[]
 sz:es.size<scanBound
theorem Rec.keep {w:World}{h h':Heap}{a:Addr}{es:Array (Int×Value)}{ep:Nat}{t:SetTable}(r:Rec w h a es ep t)(k:∀o,h.get? a=some o->h'.get? a=some o):Rec w h' a es ep t:=
 ⟨let ⟨o,e,x⟩:=r.obj;⟨o,k o e,x⟩,r.fits,r.led,r.asc,r.dm,r.sz⟩
theorem Rec.type {w:World}{s:Shared}{a:Addr}{es:Array (Int×Value)}{ep:Nat}{t:SetTable}(r:Rec w s.heap a es ep t):s.TypeIs (.ref a) "set":=
 let ⟨o,e,x,_⟩:=r.obj;⟨o,e,x.1⟩
namespace F
theorem slot_next:Slot "set_iterator" "__next__" "set_iterator.__next__":=.of (owner:="set_iterator") (n:="__next__") (by rw[typeLookup_type,builtinLookup_eq_fast];kernel_rfl) (by decide +kernel) (by decide +kernel) (by decide +kernel) (by first | exact .inl (by decide +kernel) | exact .inr (by decide +kernel)) (by rw[isSubtype_type];kernel_rfl)
theorem entry_next:entryFor table "set_iterator.__next__" = some Builtin.«set_iterator.__next__»:=entryFor_of_tree (by kernel_rfl)
theorem args_next (a:Value):argsOk "set_iterator.__next__" ⟨[a],[]⟩:=by unfold argsOk;kernel_rfl
theorem zfE:Slot "set_iterator" "__iter__" "set_iterator.__iter__":=.of (owner:="set_iterator") (n:="__iter__") (by rw[typeLookup_type,builtinLookup_eq_fast];kernel_rfl) (by decide +kernel) (by decide +kernel) (by decide +kernel) (by first | exact .inl (by decide +kernel) | exact .inr (by decide +kernel)) (by rw[isSubtype_type];kernel_rfl)
theorem zhU:entryFor table "set_iterator.__iter__" = some Builtin.«dict_keyiterator.__iter__»:=entryFor_alias (id':="dict_keyiterator.__iter__") (by kernel_rfl) rfl (by decide +kernel) (by kernel_rfl)
theorem ziT (a:Value):argsOk "set_iterator.__iter__" ⟨[a],[]⟩:=by unfold argsOk;kernel_rfl
theorem zek:entryFor table "set.__iter__" = some Builtin.«frozenset.__iter__»:=entryFor_alias (id':="frozenset.__iter__") (by kernel_rfl) rfl (by decide +kernel) (by kernel_rfl)
end F
noncomputable abbrev byText (w:World):Bool:=w.params.followText "set-order"
noncomputable abbrev zdr (first:Value)(i n ep:Nat)(a:Addr):Obj:={ cls:=.type "set_iterator",data:=.fields #[first,.int i 0,.ref a,.int n 0,.int ep 0] }
inductive At (w:World) (h:Heap) (it a:Addr) (es:Array (Int×Value)) (ep:Nat) (t:SetTable):List Addr->List Value->Nat->Prop where
 | drawn (tp:Addr) (ps:List Nat) (i:Nat):(tp≠it)->h.get? it=some (zdr (.ref tp) i es.size ep a)->h.IsTuple tp (ps.map λ(p:Nat)=>Value.int (p:Int) 0).toArray->ps.Perm (List.range es.size)->At w h it a es ep t [tp] (ps.map λp=>(es.getD p (0,.none)).2) i
 | text (slot i:Nat):byText w=true->h.get? it=some (zdr (.int slot 0) i es.size ep a)->At w h it a es ep t [] ((pickOrder (w.params.setOrder a ep) es).toList.map (·.2)) i
 | one (slot i:Nat):byText w=false->t.led=true->(t.plain=true\/es.size<=1)->h.get? it=some (zdr (.int slot 0) i es.size ep a)->(slot=if i=0 then 0 else t.place.getD (i-1) 0+1)->At w h it a es ep t [] (es.toList.map (·.2)) i
section
variable {prog:Program}{w:World}{A:Around}{E:Value->Shared->Prop}{s:Shared}{a it:Addr}{es:Array (Int×Value)}{ep:Nat}{t:SetTable}
theorem zaS {Q:(Array (Int×Value)×Nat×SetTable)->Shared->Prop}(r:Rec w s.heap a es ep t)(h:Q (es,ep,t) s):wpAny (model prog w) A (setState a) Q E s:=by
 obtain⟨o,e,_,d⟩:=r.obj;exact wpAny_setState_of e d r.fits h
theorem zdx {slot i n:Nat}{P:PySem.Fin->Shared->Prop}{F:Value->Shared->Prop}(r:Rec w s.heap a es ep t)(ho:s.heap.get? it=some (zdr (.int slot 0) i es.size ep a))
  (h:wpAny (model prog w) A (setNext a slot i ep >>= λm=>match m with
     | some (x,next)=>setField (.ref it) 0 (rawInt next) >>= λ_=>setField (.ref it) 1 (rawInt ((i:Int)+1)) >>= λ_=>ret x
     | none=>setField (.ref it) 2 .none >>= λ_=>newExc (.type "StopIteration") [] >>= λe=>raiseNew e) P F s) :
  wpAny (model prog w) A (Builtin.«set_iterator.__next__» ⟨[.ref it],[]⟩) P F s:=by
 unfold Builtin.«set_iterator.__next__» slotArgs;simp only[List.isEmpty_nil,Bool.not_true,Bool.false_eq_true,if_false,List.length_nil,bne_self_eq_false];refine wpAny_bind (wpAny_pure (wpAny_bind (wpAny_fieldsOf ho rfl ?_)));dsimp only;unfold setEntries;refine wpAny_bind (wpAny_bind (zaS r (wpAny_pure ?_)));simp only[bne_self_eq_false,Bool.false_eq_true,if_false,Int.toNat_natCast];exact h
theorem zhl {tp i n:Nat}{items:Array Value}{P:PySem.Fin->Shared->Prop}{F:Value->Shared->Prop}(r:Rec w s.heap a es ep t)(ho:s.heap.get? it=some (zdr (.ref tp) i es.size ep a))(ht:s.heap.IsTuple tp items)
  (h:wpAny (model prog w) A (match items[i]? with
      | some (.int place _)=>setNextDrawn a place.toNat ep >>= λx=>setField (.ref it) 1 (rawInt ((i:Int)+1)) >>= λ_=>ret x
      | some _=>unsupported "internal:set_iterator"
      | none=>setField (.ref it) 0 (rawInt 0) >>= λ_=>setField (.ref it) 2 .none >>= λ_=>newExc (.type "StopIteration") [] >>= λe=>raiseNew e) P F s) :
  wpAny (model prog w) A (Builtin.«set_iterator.__next__» ⟨[.ref it],[]⟩) P F s:=by
 unfold Builtin.«set_iterator.__next__» slotArgs;simp only[List.isEmpty_nil,Bool.not_true,Bool.false_eq_true,if_false,List.length_nil,bne_self_eq_false];refine wpAny_bind (wpAny_pure (wpAny_bind (wpAny_fieldsOf ho rfl ?_)));dsimp only;unfold setEntries;refine wpAny_bind (wpAny_bind (zaS r (wpAny_pure ?_)));simp only[bne_self_eq_false,Bool.false_eq_true,if_false,Int.toNat_natCast];obtain⟨o,ho',_,n',hd⟩:=ht;exact wpAny_bind (wpAny_seqItems ho' hd h)
theorem zdk {i:Nat}{slot:Nat}{Q:Option (Value×Nat)->Shared->Prop}(r:Rec w s.heap a es ep t)(hb:byText w=true)
  (h:Q (((pickOrder (w.params.setOrder a ep) es)[i]?).map λe=>(e.2,slot)) s):wpAny (model prog w) A (setNext a slot i ep) Q E s:=by
 have hb':w.params.followText "set-order" = true:=hb;unfold setNext setsByText;refine wpAny_bind (zaS r ?_);refine wpAny_bind (wpAny_bind (wpAny_askSetting (wpAny_pure ?_)));simp only[model,hb',if_true,bne_self_eq_false,Bool.false_eq_true,if_false];unfold setWalk setsByText;refine wpAny_bind (wpAny_bind (zaS r ?_));refine wpAny_bind (wpAny_bind (wpAny_askSetting (wpAny_pure ?_)));simp only[model,hb',if_true];exact wpAny_bind (wpAny_askSetting (wpAny_pure (wpAny_pure h)))
theorem zdJ {i:Nat}{slot:Nat}{Q:Option (Value×Nat)->Shared->Prop}(r:Rec w s.heap a es ep t)(hb:byText w=false)(hl:t.led=true)(h1:t.plain=true\/es.size<=1)
  (h:Q (match es[SetTable.below t.place slot]?,t.place[SetTable.below t.place slot]? with | some (_,x),some j=>some (x,j+1) | _,_=>none) s):wpAny (model prog w) A (setNext a slot i ep) Q E s:=by
 have hb':w.params.followText "set-order" = false:=hb;unfold setNext setsByText;refine wpAny_bind (zaS r ?_);refine wpAny_bind (wpAny_bind (wpAny_askSetting (wpAny_pure ?_)));simp only[model,hb',Bool.false_eq_true,if_false];have hd:(!t.plain&&decide (es.size > 1))=false:=by
  rcases h1 with z | z
  ·rw[z];rfl
  ·rw[decide_eq_false (by lia),Bool.and_false]
 have hm:(!t.led&&!es.isEmpty)=false:=by rw[hl];rfl
 show wpAny (model prog w) A (if (!t.plain&&decide (es.size > 1))=true then _ else((if (!t.led&&!es.isEmpty)=true then unsupported "set:maker-not-led" else pure ()) >>= λ_=>pure _)) Q E s
 rw[hd,hm];exact wpAny_bind (wpAny_pure (wpAny_pure h))
theorem zhV {p:Nat}{x:Value}{hx:Int}{Q:Value->Shared->Prop}(r:Rec w s.heap a es ep t)(hp:es[p]? = some (hx,x))(h:Q x s):wpAny (model prog w) A (setNextDrawn a p ep) Q E s:=by
 unfold setNextDrawn;refine wpAny_bind (zaS r ?_);simp only[bne_self_eq_false,Bool.false_eq_true,if_false,hp];exact wpAny_pure h
theorem ziU (hh:A.handled=none){R:Option Value->Shared->Prop}(hR:∀h',(∀b o,s.heap.get? b=some o->h'.get? b=some o)->R none { s with heap:=h' }) :
  wpAny (model prog w) A.in1 (newExc (.type "StopIteration") [] >>= λe=>(raiseNew e:Sem PySem.Fin)) (λ_ _=>False)
   (λe s'=>wpAny (model prog w) A (isInstance e (.type "StopIteration") >>= λb=>if b=true then pure none else throw e) R E s') s:=by
 refine wpAny_bind ?_;simp only[newExc,newTuple];refine wpAny_bind (wpAny_newObj_type (wpAny_bind (m:=firstArgMember _ _) (wpAny_of_eq (a:=Value.none) (by first | rfl | (simp only[firstArgMember];rfl)) (wpAny_newObj_type ?_ (by size_fits)))) (by size_fits))
 simp only[raiseNew];refine wpAny_bind (wpAny_handled ?_);rw[show A.in1.handled=none from hh];refine wpAny_bind (wpAny_pure (wpAny_throw ?_));refine wpAny_bind (wpAny_isInstance (T:="StopIteration") (b:=true) ⟨_,Heap.get?_push_size _ rfl,rfl⟩ isSubtype_stop ?_);exact wpAny_pure (hR _ λb o e=>Heap.get?_push_of_some _ (Heap.get?_push_of_some _ e))
theorem zbG {first:Value}{i n:Nat}{Q:Option Value->Shared->Prop}(ho:s.heap.get? it=some (zdr first i n ep a))
  (h:wpAny (model prog w) A.in1 (Builtin.«set_iterator.__next__» ⟨[.ref it],[]⟩) (λfin s'=>∃u,fin=.done (.ret u)/\Q (some u) s')
   (λe s'=>wpAny (model prog w) A (isInstance e (.type "StopIteration") >>= λb=>if b=true then pure none else throw e) Q E s') s):wpAny (model prog w) A (pyNext (.ref it)) Q E s:=by
 have hT:s.TypeIs (.ref it) "set_iterator":=⟨_,ho,rfl⟩;unfold pyNext;refine wpAny_bind (wpAny_attempt (wpAny_callSpecial?_slot (name:=Str.ofString "__next__") hT F.slot_next (wpAny_call_entry F.slot_next hT F.entry_next ?_ (F.args_next _))));exact wpAny_mono h (λfin s' q51q=>by obtain⟨u,e,q⟩:=q51q;exact⟨u,e,wpAny_pure q⟩) λ_ _ z=>z
theorem next_item {tq:List Addr}{order:List Value}{i:Nat}{v:Value}{Q:Option Value->Shared->Prop}(r:Rec w s.heap a es ep t)(x:At w s.heap it a es ep t tq order i)(hv:order[i]? = some v)
  (hQ:∀h',At w h' it a es ep t tq order (i+1)->Heap.SameBut it s.heap h'->Q (some v) { s with heap:=h' }):wpAny (model prog w) A (pyNext (.ref it)) Q E s:=by
 have hc:((i:Int)+1)=((i+1:Nat):Int):=by lia
 cases x with
 | drawn tp ps _ hne ho ht hp=>
  refine zbG ho (zhl (n:=0) r ho ht ?_);rw[List.getElem?_map]at hv;cases hpi:ps[i]? with
  | none=>rw[hpi]at hv;cases hv
  | some p=>
   rw[hpi]at hv;have hlt:p<es.size:=List.mem_range.mp (hp.mem_iff.mp (List.mem_of_getElem? hpi));have e1:(ps.map λ(p:Nat)=>Value.int (p:Int) 0).toArray[i]? = some (Value.int (p:Int) 0):=by simp[hpi]
   rw[e1];dsimp only;have e2:es[p]? = some (es[p].1,es[p].2):=by simp[hlt]
   have e3:v=es[p].2:=by
    have q:=Option.some.inj hv;rw[<- q];simp[Array.getD,hlt]
   rw[Int.toNat_natCast];refine wpAny_bind (zhV r e2 (wpAny_bind (wpAny_setField ho rfl (by show 1<5;decide) (wpAny_pure ⟨_,rfl,?_⟩))));rw[<- e3];refine hQ _ (.drawn tp ps (i+1) hne ?_ ?_ hp) (Heap.SameBut.update ..)
   ·rw[hc];exact Heap.get?_update_self _ ho rfl
   ·obtain⟨o,q,c⟩:=ht;exact⟨o,(Heap.get?_update_other _ _ (Ne.symm hne)).trans q,c⟩
 | text slot _ hb ho=>
  refine zbG ho (zdx (n:=0) r ho (wpAny_bind (zdk r hb ?_)));rw[List.getElem?_map]at hv;cases hpi:(pickOrder (w.params.setOrder a ep) es).toList[i]? with
  | none=>rw[hpi]at hv;cases hv
  | some p=>
   rw[hpi]at hv;have e1:(pickOrder (w.params.setOrder a ep) es)[i]? = some p:=by rw[<- Array.getElem?_toList];exact hpi
   have e3:p.2=v:=Option.some.inj hv;rw[e1];dsimp only[Option.map];rw[e3];have ho1:(s.heap.update it (Obj.mapFields (·.setIfInBounds 0 (rawInt slot)))).get? it=some (zdr (.int slot 0) i es.size ep a):=Heap.get?_update_self _ ho rfl;refine wpAny_bind (wpAny_setField ho rfl (by show 0<5;decide) (wpAny_bind (wpAny_setField ho1 rfl (by show 1<5;decide) (wpAny_pure ⟨_,rfl,?_⟩))));refine hQ _ (.text slot (i+1) hb ?_) ((Heap.SameBut.update ..).trans (Heap.SameBut.update ..));rw[hc];exact Heap.get?_update_self _ ho1 rfl
 | one slot _ hb hl h1 ho h0=>
  refine zbG ho (zdx (n:=0) r ho (wpAny_bind (zdJ r hb hl h1 ?_)));have hi:i<es.size:=by
   have q:=(List.getElem?_eq_some_iff.mp hv).1;simpa using q
  have hps:t.place.size=es.size:=by
   have q:=r.fits;simp only[SetTable.fits,Bool.and_eq_true,beq_iff_eq]at q;exact q.1
  have e0:SetTable.below t.place slot=i:=by rw[h0];exact below_at r.asc (by lia)
  have e1:es[i]? = some (es[i].1,es[i].2):=by simp[hi]
  have e3:es[i].2=v:=by
   rw[List.getElem?_map]at hv;have q:es.toList[i]? = some es[i]:=by simp[hi]
   rw[q]at hv;exact Option.some.inj hv
  have hip:i<t.place.size:=by lia
  obtain⟨pl,hpl⟩:∃pl,t.place[i]? = some pl:=⟨t.place[i],getElem?_pos t.place i hip⟩;have hpd:t.place.getD i 0=pl:=by
   rw[getElem?_pos t.place i hip]at hpl;simp only[Array.getD,hip,dif_pos];exact Option.some.inj hpl
  rw[e0,e1,hpl];dsimp only;rw[e3];have ho1:(s.heap.update it (Obj.mapFields (·.setIfInBounds 0 (rawInt ((pl+1:Nat):Int))))).get? it=some (zdr (.int ((pl+1:Nat):Int) 0) i es.size ep a):=Heap.get?_update_self _ ho rfl;refine wpAny_bind (wpAny_setField ho rfl (by show 0<5;decide) (wpAny_bind (wpAny_setField ho1 rfl (by show 1<5;decide) (wpAny_pure ⟨_,rfl,?_⟩))));refine hQ _ (.one (pl+1) (i+1) hb hl h1 ?_ (by rw[if_neg (by lia),Nat.add_sub_cancel,hpd])) ((Heap.SameBut.update ..).trans (Heap.SameBut.update ..));rw[hc];exact Heap.get?_update_self _ ho1 rfl
theorem ziV {tq:List Addr}{order:List Value}{Q:Option Value->Shared->Prop}(hh:A.handled=none)(r:Rec w s.heap a es ep t)(x:At w s.heap it a es ep t tq order es.size)
  (hQ:∀h',(∀b o,b≠it->s.heap.get? b=some o->h'.get? b=some o)->Q none { s with heap:=h' }):wpAny (model prog w) A (pyNext (.ref it)) Q E s:=by
 have up:∀(k:Nat) (y:Value) (h:Heap) (b:Addr) (o:Obj),b≠it->h.get? b=some o->(h.update it (Obj.mapFields (·.setIfInBounds k y))).get? b=some o:=λk y h b o hb e=>(Heap.get?_update_other _ _ (Ne.symm hb)).trans e;have two:∀(slot i:Nat),s.heap.get? it=some (zdr (.int slot 0) i es.size ep a)->wpAny (model prog w) A.in1 (setField (.ref it) 2 .none >>= λ_=>newExc (.type "StopIteration") [] >>= λe=>(raiseNew e:Sem PySem.Fin))
   (λfin s'=>∃u,fin=.done (.ret u)/\Q (some u) s') (λe s'=>wpAny (model prog w) A (isInstance e (.type "StopIteration") >>= λb=>if b=true then pure none else throw e) Q E s') s:=λslot i ho=>by
  refine wpAny_bind (wpAny_setField ho rfl (by show 2<5;decide) ?_);exact wpAny_mono (ziU (E:=E) (R:=Q) hh λh' k=>hQ h' λb o hb e=>k b o (up _ _ _ b o hb e)) (λ_ _ z=>z.elim) λ_ _ z=>z
 cases x with
 | drawn tp ps _ hne ho ht hp=>
  refine zbG ho (zhl (n:=0) r ho ht ?_);have e1:(ps.map λ(p:Nat)=>Value.int (p:Int) 0).toArray[es.size]? = none:=by
   have q:=hp.length_eq;rw[List.length_range]at q;simp[q]
  rw[e1];dsimp only;have ho1:(s.heap.update it (Obj.mapFields (·.setIfInBounds 0 (rawInt 0)))).get? it=some (zdr (.int ((0:Nat):Int) 0) es.size es.size ep a):=Heap.get?_update_self _ ho rfl;refine wpAny_bind (wpAny_setField ho rfl (by show 0<5;decide) (wpAny_bind (wpAny_setField ho1 rfl (by show 2<5;decide) ?_)));exact wpAny_mono (ziU (E:=E) (R:=Q) hh λh' k=>hQ h' λb o hb e=>k b o (up _ _ _ b o hb (up _ _ _ b o hb e))) (λ_ _ z=>z.elim) λ_ _ z=>z
 | text slot _ hb ho=>
  refine zbG ho (zdx (n:=0) r ho (wpAny_bind (zdk r hb ?_)));have q:=(zfD (w.params.setOrder a ep) es).length_eq;have e1:(pickOrder (w.params.setOrder a ep) es)[es.size]? = none:=by
   simp only[Array.length_toList]at q;simp[q]
  rw[e1];dsimp only[Option.map];exact two slot _ ho
 | one slot _ hb hl h1 ho h0=>
  refine zbG ho (zdx (n:=0) r ho (wpAny_bind (zdJ r hb hl h1 ?_)));have hps:t.place.size=es.size:=by
   have q:=r.fits;simp only[SetTable.fits,Bool.and_eq_true,beq_iff_eq]at q;exact q.1
  have e0:es[SetTable.below t.place slot]? = none:=by
   rw[h0,below_at r.asc (by lia)];simp
  rw[e0];dsimp only;exact two slot _ ho
theorem ziW {Q:Bool->Shared->Prop}(r:Rec w s.heap a es ep t)(h:Q (!byText w&&(!t.plain&&decide (es.size > 1))) s):wpAny (model prog w) A (setDrawn a) Q E s:=by
 unfold setDrawn setsByText;refine wpAny_bind (zaS r ?_);exact wpAny_bind (wpAny_bind (wpAny_askSetting (wpAny_pure (wpAny_pure h))))
theorem At.keep {h h':Heap}{tq:List Addr}{order:List Value}{i:Nat}(x:At w h it a es ep t tq order i)(k:∀b∈it::tq,∀o,h.get? b=some o->h'.get? b=some o):At w h' it a es ep t tq order i:=by
 cases x with
 | drawn tp ps _ hne ho ht hp=>
  obtain⟨o,q,c⟩:=ht;exact .drawn tp ps i hne (k it (by simp) _ ho) ⟨o,k tp (by simp) o q,c⟩ hp
 | text slot _ hb ho=>exact .text slot i hb (k it (by simp) _ ho)
 | one slot _ hb hl h1 ho h0=>exact .one slot i hb hl h1 (k it (by simp) _ ho) h0
theorem At.len {h:Heap}{tq:List Addr}{order:List Value}{i:Nat}(x:At w h it a es ep t tq order i):order.Perm (es.toList.map (·.2)):=by
 cases x with
 | drawn tp ps _ hne ho ht hp=>
  have e:(List.range es.size).map (λp=>(es.getD p (0,Value.none)).2)=es.toList.map (·.2):=by
   apply List.ext_getElem
   ·simp
   ·intro j h1 h2;simp at h1;simp[Array.getD,h1]
  rw[<- e];exact hp.map _
 | text slot _ hb ho=>exact(zfD _ _).map _
 | one slot _ hb hl h1 ho h0=>exact List.Perm.refl _
theorem zks {Q:Value->Shared->Prop}(r:Rec w s.heap a es ep t)
  (h:∀(h':Heap) (d:Drawn) (it:Addr) (tq:List Addr) (order:List Value),(∀b o,s.heap.get? b=some o->h'.get? b=some o)->s.heap.objs.size<=it->(∀b∈it::tq,s.heap.objs.size<=b/\b<h'.objs.size)->At w h' it a es ep t tq order 0->
   Q (.ref it) { s with heap:=h',drawn:=d }):wpAny (model prog w) A (pyIter (.ref a)) Q E s:=by
 refine wpAny_pyIter_slot r.type PySem.F.slot_set_iter (wpAny_call_entry PySem.F.slot_set_iter r.type F.zek ?_ (PySem.F.args_set_iter_1 _));unfold Builtin.«frozenset.__iter__» Builtin.Frozenset.slot0 slotArgs;simp only[List.isEmpty_nil,Bool.not_true,Bool.false_eq_true,if_false,List.length_nil,bne_self_eq_false,bind_assoc];unfold Builtin.Frozenset.addrOf Builtin.Frozenset.sizeOf setEntries setEpoch;refine wpAny_bind (wpAny_pure ?_);dsimp only;refine wpAny_bind (wpAny_pure ?_);simp only[bind_assoc];refine wpAny_bind (zaS r (wpAny_bind (wpAny_pure (wpAny_bind (wpAny_pure (wpAny_bind (ziW r ?_)))))));cases hd:(!byText w&&(!t.plain&&decide (es.size > 1)))with
 | true=>
  simp only[Bool.and_eq_true,Bool.not_eq_true',decide_eq_true_eq]at hd;simp only[if_true,bind_assoc];refine wpAny_bind (zhj es.size (List.range es.size) _ _ (by simp) λps d hp=>?_);refine wpAny_bind (wpAny_newTuple ?_ (by rw[List.length_map,hp.length_eq,List.length_range];exact fits_of_scanBound r.sz));dsimp only;have hz:(s.heap.push { cls:=.type "tuple",data:=.seq (ps.map λ(i:Nat)=>rawInt (i:Int)).toArray }).objs.size=s.heap.objs.size+1:=Heap.size_push ..;have r1:Rec w (s.heap.push { cls:=.type "tuple",data:=.seq (ps.map λ(i:Nat)=>rawInt (i:Int)).toArray }) a es ep t:=r.keep λo e=>Heap.get?_push_of_some _ e;refine wpAny_bind (zaS (s:={ s with heap:=s.heap.push { cls:=.type "tuple",data:=.seq (ps.map λ(i:Nat)=>rawInt (i:Int)).toArray },drawn:=d }) r1 (wpAny_bind (wpAny_pure (wpAny_bind (wpAny_newObj_type (wpAny_pure ?_))))));refine⟨_,rfl,"set_iterator",_,⟨_,Heap.get?_push_size _ rfl,rfl⟩,F.slot_next.lookup,?_⟩;refine h _ d _ [s.heap.objs.size] _ (λb o e=>Heap.get?_push_of_some _ (Heap.get?_push_of_some _ e)) (by rw[hz];exact Nat.le_succ _) (λb hb=>?_)
   (.drawn s.heap.objs.size ps 0 (by rw[hz];exact Nat.ne_of_lt (Nat.lt_succ_self _)) (Heap.get?_push_size _ rfl) ⟨_,Heap.get?_push_of_some _ (Heap.get?_push_size _ rfl),rfl,_,rfl⟩ hp)
  rw[Heap.size_push,hz];rcases List.mem_cons.mp hb with e | hb
  ·rw[hz]at e;rw[e];exact⟨Nat.le_succ _,Nat.lt_succ_self _⟩
  ·have e:=List.mem_singleton.mp hb;rw[e];exact⟨Nat.le_refl _,Nat.lt_succ_of_lt (Nat.lt_succ_self _)⟩
 | false=>
  simp only[Bool.false_eq_true,if_false];refine wpAny_bind (wpAny_pure (wpAny_bind (zaS r (wpAny_bind (wpAny_pure (wpAny_bind (wpAny_newObj_type (wpAny_pure ?_))))))));refine⟨_,rfl,"set_iterator",_,⟨_,Heap.get?_push_size _ rfl,rfl⟩,F.slot_next.lookup,?_⟩;have fin:∀order,At w (s.heap.push (zdr (.int ((0:Nat):Int) 0) 0 es.size ep a)) s.heap.objs.size a es ep t [] order 0->Q (.ref s.heap.objs.size) { s with heap:=s.heap.push (zdr (.int ((0:Nat):Int) 0) 0 es.size ep a) }:=λorder x=>
   h _ s.drawn _ [] order (λb o e=>Heap.get?_push_of_some _ e) (Nat.le_refl _) (λb hb=>by
    have e:b=s.heap.objs.size:=by simpa using hb
    subst e;rw[Heap.size_push];exact⟨Nat.le_refl _,Nat.lt_succ_self _⟩) x
  cases hb:byText w with
  | true=>exact fin _ (.text 0 0 hb (Heap.get?_push_size _ rfl))
  | false=>
   rw[hb]at hd;have hl:t.led=true:=by
    rcases r.led with z | z
    ·exact z
    ·have z':byText w=true:=z;rw[hb]at z';cases z'
   have h1:t.plain=true\/es.size<=1:=by
    cases hp:t.plain with
    | true=>exact .inl rfl
    | false=>
     rw[hp]at hd;simp only[Bool.not_false,Bool.true_and,decide_eq_false_iff_not]at hd;exact .inr (by lia)
   exact fin _ (.one 0 0 hb hl h1 (Heap.get?_push_size _ rfl) rfl)
theorem walks {tq:List Addr}{order:List Value}(hh:A.handled=none)(hta:a∉it::tq)(h0:order.length=es.size) :
  WalksS prog w A it (it::a::tq) [it] (λx y=>y=x) es.size (λi v=>order[i]? = some v) (λi s=>Rec w s.heap a es ep t/\At w s.heap it a es ep t tq order i) where
 sub:=λb hb=>by
  have e:b=it:=by simpa using hb
  subst e;exact List.mem_cons_self
 grefl:=λ_=>rfl
 gtrans:=λ_ _ _ h1 h2=>h2.trans h1
 frame:=λi s h' tk st _ k=>⟨st.1.keep λo e=>k a (by simp) o e,st.2.keep λb hb o e=>k b (by
  rcases List.mem_cons.mp hb with z | z
  ·subst z;exact List.mem_cons_self
  ·exact List.mem_cons_of_mem _ (List.mem_cons_of_mem _ z)) o e⟩
 item:=λi s Q E hi st hQ=>by
  have hv:order[i]? = some (order[i]'(by lia)):=by simp
  refine next_item st.1 st.2 hv λh' x sb=>?_;have ne:a≠it:=λz=>hta (by rw[z];exact List.mem_cons_self);exact hQ _ _ hv ⟨st.1.keep λo e=>(sb.2 a ne).trans e,x⟩ ⟨λb o hb e=>(sb.2 b (λz=>hb (by simp[z]))).trans e,rfl,rfl,rfl,Nat.le_refl _⟩
 done:=λs Q E st hQ=>ziV hh st.1 st.2 λh' k=>hQ _ ⟨λb o hb e=>k b o (λz=>hb (by simp[z])) e,rfl,rfl,rfl,Nat.le_refl _⟩
 self:=λi s Q E st hQ=>by
  have hT:s.TypeIs (.ref it) "set_iterator":=by
   rcases st.2 with ⟨tp,ps,_,_,ho,_⟩ | ⟨slot,_,_,ho⟩ | ⟨slot,_,_,_,_,ho,_⟩
   ·exact⟨_,ho,rfl⟩
   ·exact⟨_,ho,rfl⟩
   ·exact⟨_,ho,rfl⟩
  refine wpAny_pyIter_slot hT F.zfE (wpAny_call_entry F.zfE hT F.zhU ?_ (F.ziT _));show wpAny _ _ (ret (.ref it)) _ _ s;exact wpAny_pure ⟨_,rfl,"set_iterator",_,hT,F.slot_next.lookup,hQ⟩
theorem zgF {Q:List Value->Shared->Prop}(hh:A.handled=none)(r:Rec w s.heap a es ep t)
  (h:∀(h':Heap) (d:Drawn) (tk:Nat) (order:List Value),order.Perm (es.toList.map (·.2))->(∀b o,s.heap.get? b=some o->h'.get? b=some o)->Q order { s with heap:=h',drawn:=d,toks:=tk }):wpAny (model prog w) A (collect (.ref a)) Q E s:=by
 unfold collect;refine wpAny_bind (wpAny_runValue (codeAny_builtin PySem.F.entry_proto_collect ?_));rw[Around.under_plainId PySem.F.plain_proto_collect _];show wpAny _ A.in1 (newList [] >>= λl=>again (.builtin "list.__iadd__" ⟨[l,.ref a],[]⟩)) _ _ s;refine wpAny_bind (wpAny_newList (wpAny_pure ⟨plainId_quiet PySem.F.plain_list_iadd _,codeAny_builtin PySem.F.entry_list_iadd ?_⟩));rw[Around.under_plainId PySem.F.plain_list_iadd _];have hS0:(s.heap.push { cls:=.type "list",data:=.seq ([]:List Value).toArray }).get? s.heap.objs.size=some { cls:=.type "list",data:=.seq ([]:List Value).toArray }:=Heap.get?_push_size _ rfl;have hz0:(s.heap.push { cls:=.type "list",data:=.seq ([]:List Value).toArray }).objs.size=s.heap.objs.size+1:=Heap.size_push ..;have r0:Rec w (s.heap.push { cls:=.type "list",data:=.seq ([]:List Value).toArray }) a es ep t:=r.keep λo e=>Heap.get?_push_of_some _ e;have haS:a<s.heap.objs.size:=by obtain⟨o,e,_⟩:=r.obj;exact Heap.lt_size e
 show wpAny _ A.in1 (Builtin.List.listExtendWith (.ref s.heap.objs.size) (.ref a) (.ref s.heap.objs.size)) _ _ { s with heap:=s.heap.push { cls:=.type "list",data:=.seq ([]:List Value).toArray } };unfold Builtin.List.listExtendWith;refine wpAny_bind (wpAny_typeOf (T:="set") r0.type ?_);have h1:Builtin.List.listSameRef (.ref s.heap.objs.size) (.ref a)=false:=by simp[Builtin.List.listSameRef,Nat.ne_of_gt haS]
 have h2:(Value.type "set" == Value.type "list")=false:=by decide
 have h3:(Value.type "set" == Value.type "tuple")=false:=by decide
 simp only[h1,h2,h3,Bool.or_false,Bool.false_eq_true,if_false];refine wpAny_bind (zks (s:={ s with heap:=s.heap.push { cls:=.type "list",data:=.seq ([]:List Value).toArray } }) r0 λh' d it tq order kp hit hfp x=>?_);have rT:Shared.TypeIs { s with heap:=h',drawn:=d } (.ref a) "set":=(r0.keep λo e=>kp a o e).type;have room:∀ {Q':Bool->Shared->Prop} {A':Around} {E':Value->Shared->Prop},Q' false { s with heap:=h',drawn:=d }->wpAny (model prog w) A' (Builtin.List.listLengthHint (.ref a)) Q' E' { s with heap:=h',drawn:=d }:=λ{Q' A' E'} hq=>by
  unfold Builtin.List.listLengthHint;refine wpAny_bind (wpAny_specialOf rT PySem.F.slot_set_len.lookup ?_);generalize hid:("set.__len__" : String)=id0;wp_delta;rw[show splitId id0=some ("set","__len__") from by subst hid;decide +kernel];subst hid;refine wpAny_bind (wpAny_isInstance (T:="set") (b:=true) rT (by rw[isSubtype_type];kernel_rfl) ?_);refine wpAny_ite_split (λhab=>absurd hab (by decide)) (λ_=>wpAny_ite_split (λ_=>?_) (λhab=>absurd (by decide +kernel) hab));exact wpAny_bind (wpAny_typeOf rT (wpAny_pure hq))
 refine wpAny_bind (wpAny_holding (room ?_));show wpAny _ A.in1 (rule "list.extend.makes-room" >>= λ_=>Builtin.List.listTouch (.ref s.heap.objs.size) >>= λ_=>again (.builtin "list.extend.loop" ⟨[.ref s.heap.objs.size,.ref it,.ref s.heap.objs.size],[]⟩)) _ _ { s with heap:=h',drawn:=d };refine wpAny_bind (wpAny_rule ?_);have hS1:h'.get? s.heap.objs.size=some { cls:=.type "list",data:=.seq ([]:List Value).toArray }:=kp _ _ hS0;refine wpAny_bind ?_;show wpAny _ A.in1 (updateSeq s.heap.objs.size (·.push .none) >>= λ_=>updateSeq s.heap.objs.size (·.pop)) _ _ { s with heap:=h',drawn:=d };refine wpAny_bind (wpAny_updateSeq hS1 rfl ?_);have hS2:=Heap.get?_update_self (Obj.mapSeq (·.push Value.none)) hS1 rfl;refine wpAny_updateSeq hS2 rfl ?_;have hS3:=Heap.get?_update_self (Obj.mapSeq (·.pop)) hS2 rfl;have oth:∀b o,b≠s.heap.objs.size->h'.get? b=some o->((h'.update s.heap.objs.size (Obj.mapSeq (·.push Value.none))).update s.heap.objs.size (Obj.mapSeq (·.pop))).get? b=some o:=
  λb o hb e=>(Heap.get?_update_other _ _ (Ne.symm hb)).trans ((Heap.get?_update_other _ _ (Ne.symm hb)).trans e)
 have hlow:∀b∈it::tq,s.heap.objs.size<b:=λb hb=>by
  have q:=(hfp b hb).1;dsimp only at q;rw[hz0]at q;exact q
 have hta:a∉it::tq:=λz=>Nat.lt_asymm haS (hlow a z);have hSf:s.heap.objs.size∉it::a::tq:=λz=>by
  rcases List.mem_cons.mp z with e | z
  ·exact absurd (hlow it List.mem_cons_self) (by rw[<- e];exact Nat.lt_irrefl _)
  ·rcases List.mem_cons.mp z with e | z
   ·exact absurd haS (by rw[<- e];exact Nat.lt_irrefl _)
   ·exact absurd (hlow _ (List.mem_cons_of_mem _ z)) (Nat.lt_irrefl _)
 have W:=walks (prog:=prog) (w:=w) (A:=A.in1) (it:=it) (a:=a) (es:=es) (ep:=ep) (t:=t) (tq:=tq) (order:=order) (by simpa using hh) hta (by rw[x.len.length_eq];simp);refine wpAny_pure ⟨plainId_quiet PySem.F.plain_extend_loop _,codeAny_extend_loopS W (fits_of_scanBound r.sz) _ hSf _ es.size 0 _ _ _ rfl (Nat.zero_le _) ⟨(r0.keep λo e=>kp a o e).keep λo e=>oth a o (Nat.ne_of_lt haS) e,x.keep λb hb o e=>oth b o (Nat.ne_of_gt (hlow b hb)) e⟩ hS3 (ItemsOf.nil _) λs' acc' c' hm hS' hacc=>?_⟩;show wpAny _ A (load s.heap.objs.size >>= _) _ _ s';refine wpAny_bind (wpAny_load hS' (wpAny_pure ?_));have eacc:acc'.toList=order:=by
  apply List.ext_getElem?;intro j;by_cases hj:j<es.size
  ·have q1:acc'[j]? = some (acc'[j]'(by rw[hacc.1];exact hj)):=by simp[hacc.1,hj]
   have q2:=hacc.2 j _ q1;rw[q2,<- q1];simp
  ·have q1:acc'.toList[j]? = none:=by simp[hacc.1];lia
   have q3:order.length=es.size:=by rw[x.len.length_eq];simp
   have q2:order[j]? = none:=by simp[q3];lia
   rw[q1,q2]
 rw[eacc];obtain⟨h2',g2,d2,t2,o2⟩:=s';have e1:g2=s.gens:=hm.gens;have e2:d2=d:=hm.drawn;have e3:o2=s.os:=hm.os;subst e1 e2 e3;refine h h2' d2 t2 order x.len λb o e=>?_;have hb:b<s.heap.objs.size:=Heap.lt_size e;refine hm.heap b o (λz=>?_) (oth b o (Nat.ne_of_lt hb) (kp b o (Heap.get?_push_of_some _ e)));rcases List.mem_cons.mp z with q | q
 ·exact Nat.ne_of_lt hb q
 ·have q':b=it:=by simpa using q
  exact absurd (hlow it List.mem_cons_self) (by rw[<- q'];exact Nat.lt_asymm hb)
end
open PySem PySem.Spec PyProof.Rows
noncomputable def sOf:Value->Str
 | .str x _=>x
 | _=>Str.empty
theorem zeC {t t':SetTable}{hs:Array Int}{n:Nat}{o:Array Nat}(h:t.relaid hs n=some (t',o)):t'.led=t.led/\t'.plain=t.plain:=by
 unfold SetTable.relaid SetTable.laid at h;cases e:SetTable.layClean (SetTable.sizeAbove n-1) hs with
 | none=>rw[e]at h;cases h
 | some ow=>
  rw[e]at h;have q:=Option.some.inj h;rw[<- (Prod.mk.inj q).1];exact⟨rfl,rfl⟩
theorem zhW (t:SetTable)(es:Array (Int×Value))(h:Int)(x:Value):(layNew t es h x).2.1.led=t.led/\(t.plain=false->(layNew t es h x).2.1.plain=false):=by
 unfold layNew;cases e:t.freeSlot h with
 | none=>exact⟨rfl,λ_=>rfl⟩
 | some p=>
  obtain⟨slot,dm⟩:=p;dsimp only;unfold SetTable.orStandIn;split
  ·exact⟨rfl,λz=>z⟩
  ·exact⟨rfl,λ_=>rfl⟩
theorem ziX (t:SetTable)(es:Array (Int×Value))(n:Nat):(relayAll t es n).2.1.led=t.led/\(t.plain=false->(relayAll t es n).2.1.plain=false):=by
 unfold relayAll;cases e:t.relaid (es.map (·.1)) n with
 | none=>exact⟨rfl,λ_=>rfl⟩
 | some p=>
  obtain⟨t',o⟩:=p;dsimp only;split
  ·exact⟨(zeC e).1,λz=>(zeC e).2.trans z⟩
  ·exact⟨rfl,λ_=>rfl⟩
theorem zhX {xs:Array Nat}(ha:Asc xs){j:Nat}(hn:¬ (xs[SetTable.below xs j]? == some j)=true):Asc (SetTable.insertAt xs (SetTable.below xs j) j):=by
 obtain⟨h1,h2,h3⟩:=zhk ha j;generalize SetTable.below xs j=r at h1 h2 h3 hn;have hnot:∀i,r<=i->i<xs.size->j<xs.getD i 0:=λi g1 g2=>by
  have q:=h3 r (Nat.le_refl _) (by lia);have q2:xs.getD r 0≠j:=λe=>by
   have hr:r<xs.size:=by lia
   have e2:xs[r]=j:=by simpa[Array.getD,hr]using e
   exact hn (by rw[getElem?_pos xs r hr,e2];simp)
  rcases Nat.lt_or_ge r i with z | z
  ·have:=ha.lt z g2;lia
  ·have:i=r:=by lia
   subst this;lia
 have hl:(SetTable.insertAt xs r j).toList=xs.toList.take r++[j]++xs.toList.drop r:=by
  unfold SetTable.insertAt;simp[Array.toList_extract,List.extract_eq_drop_take,List.take_of_length_le]
 unfold Asc;rw[hl,List.pairwise_append,List.pairwise_append];refine⟨⟨List.Pairwise.sublist (List.take_sublist _ _) ha,by simp,λa hm b hb=>?_⟩,List.Pairwise.sublist (List.drop_sublist _ _) ha,λa hm b hb=>?_⟩
 ·rw[List.mem_singleton.mp hb];obtain⟨i,hi,rfl⟩:=List.mem_iff_getElem.mp hm;rw[List.length_take]at hi;rw[List.getElem_take];have q:=h2 i (by lia);simpa[Array.getD,show i<xs.size by lia]using q
 ·obtain⟨i,hi,rfl⟩:=List.mem_iff_getElem.mp hb;rw[List.length_drop,Array.length_toList]at hi;rw[List.getElem_drop];have q:=hnot (r+i) (by lia) (by lia);have q:j<xs.toList[r+i]'(by simp;lia):=by simpa[Array.getD,show r+i<xs.size by lia]using q
  rcases List.mem_append.mp hm with hm | hm
  ·obtain⟨k,hk,rfl⟩:=List.mem_iff_getElem.mp hm;rw[List.length_take]at hk;rw[List.getElem_take];have q2:=h2 k (by lia);have q2:xs.toList[k]'(by simp;lia)<j:=by simpa[Array.getD,show k<xs.size by lia]using q2
   lia
  ·rw[List.mem_singleton.mp hm];exact q
theorem zhm (t:SetTable)(hd:t.dummies = #[])(g:Nat->Int)(h:Int):∀(fuel:Nat)(p:SetTable.Probe)(j:Nat)(d:Option Nat),p.dummy=none->SetTable.probe.go t g h fuel p=some (.empty j d)->d=none/\t.slot j=.empty
 | 0,p,j,d,hp,e=>by unfold SetTable.probe.go at e;cases e
 | fuel+1,p,j,d,hp,e=>by
  have hadv:(t.advance p).dummy=none:=by unfold SetTable.advance;split<;>exact hp
  have hh:SetTable.has t.dummies p.j=false:=by rw[hd];unfold SetTable.has;simp
  have hno:t.slot p.j≠.dummy:=λz=>by
   unfold SetTable.slot at z;dsimp only at z;rw[hh]at z;simp only[Bool.false_eq_true,if_false]at z;split at z<;>cases z
  unfold SetTable.probe.go at e;cases hs:t.slot p.j with
  | empty=>rw[hs]at e;cases e;exact⟨hp,hs⟩
  | dummy=>exact absurd hs hno
  | live i=>
   rw[hs]at e;dsimp only at e;split at e
   ·cases e
   ·exact zhm t hd g h fuel _ j d hadv e
theorem zhY {t:SetTable}(ha:Asc t.place)(hd:t.dummies = #[])(es:Array (Int×Value))(h:Int)(x:Value):Asc (layNew t es h x).2.1.place/\(layNew t es h x).2.1.dummies = #[]:=by
 unfold layNew;cases e:t.freeSlot h with
 | none=>exact⟨zcJ _,rfl⟩
 | some p=>
  obtain⟨slot,dm⟩:=p;dsimp only;unfold SetTable.orStandIn;split
  ·unfold SetTable.freeSlot at e;have hs:t.slot slot=.empty:=by
    cases hp:t.probe (λ_=>h+1) h (t.probeStart h)with
    | none=>rw[hp]at e;cases e
    | some m=>
     rw[hp]at e;cases m with
     | candidate j i n=>cases e
     | empty j d=>
      obtain⟨q1,q2⟩:=zhm t hd _ _ _ _ _ _ rfl hp;subst q1;cases e;exact q2
   unfold SetTable.put;dsimp only;have hnh:SetTable.has t.dummies slot=false:=by rw[hd];unfold SetTable.has;simp
   rw[hnh];refine⟨zhX ha λz=>?_,hd⟩;unfold SetTable.slot at hs;rw[if_pos z]at hs;cases hs
  ·exact⟨zcJ _,rfl⟩
theorem zhZ {t t':SetTable}{hs:Array Int}{n:Nat}{o:Array Nat}(h:t.relaid hs n=some (t',o)):Asc t'.place/\t'.dummies = #[]:=by
 unfold SetTable.relaid SetTable.laid at h;cases e:SetTable.layClean (SetTable.sizeAbove n-1) hs with
 | none=>rw[e]at h;cases h
 | some ow=>
  rw[e]at h;have q:=Option.some.inj h;rw[<- (Prod.mk.inj q).1];refine⟨?_,rfl⟩;unfold Asc;dsimp only;rw[List.pairwise_map,List.pairwise_filterMap];refine List.pairwise_lt_range.imp λ{a b} hab p hp q hq=>?_;cases ha:ow.getD a none with
  | none=>rw[ha]at hp;cases hp
  | some x=>
   cases hb:ow.getD b none with
   | none=>rw[hb]at hq;cases hq
   | some y=>rw[ha]at hp;rw[hb]at hq;cases hp;cases hq;exact hab
theorem ziY {t:SetTable}(es:Array (Int×Value))(n:Nat):Asc (relayAll t es n).2.1.place/\(relayAll t es n).2.1.dummies = #[]:=by
 unfold relayAll;cases e:t.relaid (es.map (·.1)) n with
 | none=>exact⟨zcJ _,rfl⟩
 | some p=>
  obtain⟨t',o⟩:=p;dsimp only;split
  ·exact zhZ e
  ·exact⟨zcJ _,rfl⟩
noncomputable def KSet {α:Type} [DecidableEq α] {prog:Program}{w:World}(knd:PySem.KeyKind prog w α)(of:Value->α)(h:Heap)(a:Addr)(xs:List α):Prop:=
 ∃es ep t,Rec w h a es ep t/\ElemsOf knd es.toList/\(es.toList.map λe=>of e.2).Perm xs/\xs.Nodup
noncomputable def addS {α:Type} [DecidableEq α] (xs:List α)(y:α):List α:=if y∈xs then xs else y::xs
noncomputable abbrev zfF (prog:Program)(w:World):Heap->Addr->List Str->Prop:=KSet (PySem.strKind prog w) sOf
section
variable {α:Type} [DecidableEq α] {prog:Program}{w:World}{A:Around}{E:Value->Shared->Prop}{s:Shared}{a:Addr}{knd:PySem.KeyKind prog w α}{of:Value->α}
theorem KSet.keep {h h':Heap}{xs:List α}(S:KSet knd of h a xs)(k:∀o,h.get? a=some o->h'.get? a=some o):KSet knd of h' a xs:=
 let ⟨es,ep,t,r,q⟩:=S;⟨es,ep,t,r.keep k,q⟩
theorem ziZ {h:Heap}{es es':Array (Int×Value)}{ep:Nat}{t t':SetTable}(r:Rec w h a es ep t)(hf:t'.fits es'.size=true)(hl:t'.led=t.led)(hp:Asc t'.place/\t'.dummies = #[])(hz:es'.size<scanBound) :
  Rec w (h.update a (Obj.putSet es' t')) a es' (ep+1) t':=by
 obtain⟨o,ho,hex,hd⟩:=r.obj;have hg:(h.update a (Obj.putSet es' t')).get? a=some { o with data:=.set es' (ep+1) t' }:=by
  have q:=Heap.get?_update_self (Obj.putSet es' t') ho (by rw[putSet_of es' t' hd];rfl)
  rwa [putSet_of es' t' hd]at q
 exact⟨⟨_,hg,hex,rfl⟩,hf,by rw[hl];exact r.led,hp.1,hp.2,hz⟩
theorem zfG {es es':Array (Int×Value)}{ep:Nat}{t t':SetTable}{Q:Unit->Shared->Prop}(r:Rec w s.heap a es ep t)(hz:es'.size<scanBound)(h:Q () { s with heap:=s.heap.update a (Obj.putSet es' t') }):wpAny (model prog w) A (storeSet a es' t') Q E s:=by
 obtain⟨o,ho,_,hd⟩:=r.obj;exact wpAny_storeSet_of ho hd h (fits_of_scanBound hz)
theorem znE {es:List (Int×Value)}{y:α}(hof:∀k v,knd.is k v=true->of v=k)(hel:ElemsOf knd es):(∃e∈es,knd.is y e.2=true)↔y∈es.map λe=>of e.2:=by
 constructor
 ·rintro⟨e,he,hi⟩;exact List.mem_map.mpr ⟨e,he,hof _ _ hi⟩
 ·intro hm;obtain⟨e,he,q⟩:=List.mem_map.mp hm;obtain⟨⟨k,hk,_⟩,_⟩:=hel e he;refine⟨e,he,?_⟩;rw[hof _ _ hk]at q;rw[<- q];exact hk
theorem znF {xs:List α}{y:α}{x:Value}{Q:Bool->Shared->Prop}(hof:∀k v,knd.is k v=true->of v=k)(hkey:knd.is y x=true)(hsc:x.scannable=true)(S:KSet knd of s.heap a xs)(hroom:xs.length+1<scanBound)
  (h:∀h' b,Heap.SameBut a s.heap h'->KSet knd of h' a (addS xs y)->Q b { s with heap:=h' }):wpAny (model prog w) A (setAddHashed a x (knd.hash y)) Q E s:=by
 obtain⟨es,ep,t,r,hel,hp,nd⟩:=S;obtain⟨o,ho,hex,hd⟩:=r.obj;have hsz:es.size=xs.length:=by rw[<- hp.length_eq];simp
 have hmem:(∃e∈es.toList,knd.is y e.2=true)↔y∈xs:=(znE hof hel).trans hp.mem_iff;unfold setAddHashed;refine wpAny_holding ?_;show wpAny _ _ (bind (setState a) _) _ _ s;refine wpAny_bind (zaS r ?_);dsimp only;rw[byScan_of hsc r.sz hel];simp only[if_true];unfold setAddByScan;refine wpAny_bind (wpAny_bind (wpAny_rule (wpAny_bind (wpAny_setScan_of (knd:=knd) hkey ho hd r.fits hel ?_))));cases hr:List.findIdx? (λe=>knd.is y e.2) es.toList with
 | some j=>
  obtain⟨hj,hpj,_⟩:=List.findIdx?_eq_some_iff_getElem.mp hr;have hy:y∈xs:=hmem.mp ⟨_,List.getElem_mem hj,hpj⟩;have q:=h s.heap false (Heap.SameBut.refl a s.heap) (by unfold addS;rw[if_pos hy];exact⟨es,ep,t,r,hel,hp,nd⟩);exact wpAny_pure (wpAny_pure q)
 | none=>
  have hy:y∉xs:=λz=>by
   obtain⟨e,he,hpe⟩:=hmem.mpr z;have q:=List.findIdx?_eq_none_iff.mp hr e he;rw[hpe]at q;cases q
  have hgw:∀(b:Bool) {s₁:Shared} {Q':Unit->Shared->Prop},Q' () s₁->wpAny (model prog w) A (match b with | true=>rule "set.scan.the-table-gave-way" | false=>pure ()) Q' E s₁:=λb s₁ Q' hq=>by
   cases b
   ·exact wpAny_pure hq
   ·exact wpAny_rule hq
  have p1:=layNew_perm t es (knd.hash y) x;have f1:=layNew_fits t es (knd.hash y) x;have l1:=zhW t es (knd.hash y) x;have g1:=zhY r.asc r.dm es (knd.hash y) x;generalize hL:layNew t es (knd.hash y) x=L at p1 f1 l1 g1 ⊢;obtain⟨es1,t1,dm,gave⟩:=L;dsimp only at p1 f1 l1 g1 ⊢;rw[Array.toList_push]at p1;have hel1:ElemsOf knd es1.toList:=(hel.push hkey hsc).perm p1;have z1:es1.size=xs.length+1:=by rw[<- Array.length_toList,p1.length_eq,List.length_append,Array.length_toList,hsz];rfl
  have b1:es1.size<scanBound:=by rw[z1];exact hroom
  have m1:(es1.toList.map λe=>of e.2).Perm (y::xs):=by
   refine(p1.map _).trans ?_;rw[List.map_append];refine(List.perm_append_comm).trans ?_;show(of x::es.toList.map λe=>of e.2).Perm _;rw[hof _ _ hkey];exact hp.cons y
  have nd1:(y::xs).Nodup:=List.nodup_cons.mpr ⟨hy,nd⟩;have eadd:addS xs y=y::xs:=by unfold addS;rw[if_neg hy]
  rw[eadd]at h;refine wpAny_bind (hgw gave ?_);have tail:∀t2:SetTable,t2.fits es1.size=true->t2.led=t.led->(Asc t2.place/\t2.dummies = #[])->wpAny (model prog w) A (do
    storeSet a es1 t2
    if (!dm&&t2.tooFull)=true then do
     (match (relayAll t2 es1 (SetTable.grown es1.size)).2.2 with | true=>rule "set.scan.the-table-gave-way" | false=>pure ())
     storeSet a (relayAll t2 es1 (SetTable.grown es1.size)).1 (relayAll t2 es1 (SetTable.grown es1.size)).2.1
     pure (some true)
    else pure (some true)) (λr s'=>wpAny (model prog w) A (match r with | some added=>pure added | none=>setAddHashedIn a x (knd.hash y) 99999) Q E s') E s:=λt2 f2 l2 p2=>by
   have r2:=ziZ (w:=w) r f2 l2 p2 b1;have sb1:=Heap.SameBut.update s.heap a (Obj.putSet es1 t2);refine wpAny_bind (zfG r b1 ?_);split
   ·have p3:=relayAll_perm t2 es1 (SetTable.grown es1.size);have f3:=relayAll_fits t2 es1 (SetTable.grown es1.size);have l3:=ziX t2 es1 (SetTable.grown es1.size);have g3:=ziY (t:=t2) es1 (SetTable.grown es1.size);generalize hR:relayAll t2 es1 (SetTable.grown es1.size)=R at p3 f3 l3 g3 ⊢;obtain⟨es2,t3,gave2⟩:=R;dsimp only at p3 f3 l3 g3 ⊢;have z2:es2.size=es1.size:=by rw[<- Array.length_toList,p3.length_eq,Array.length_toList]
    refine wpAny_bind (hgw gave2 (wpAny_bind (zfG (s:={ s with heap:=s.heap.update a (Obj.putSet es1 t2) }) r2 (by rw[z2];exact b1) (wpAny_pure (wpAny_pure ?_)))));exact h _ true (sb1.trans (Heap.SameBut.update _ a _)) ⟨es2,_,t3,ziZ r2 f3 l3.1 g3 (by rw[z2];exact b1),hel1.perm p3,(p3.map _).trans m1,nd1⟩
   ·exact wpAny_pure (wpAny_pure (h _ true sb1 ⟨es1,_,t2,r2,hel1,m1,nd1⟩))
  cases hpl:t1.plain with
  | true=>
   simp only[if_true];rw[hashByValue_scannable 8 (x:=x) hsc];refine wpAny_bind (wpAny_pure ?_);cases plainKind x with
   | true=>exact tail t1 f1 l1.1 g1
   | false=>exact tail { t1 with plain:=false } (SetTable.fits_plain_off f1) l1.1 g1
  | false=>
   simp only[Bool.false_eq_true,if_false];refine wpAny_bind (wpAny_pure ?_);exact tail t1 f1 l1.1 g1
end
section
variable {α:Type} [DecidableEq α]
theorem zkt {xs:List α}{y x:α}:x∈addS xs y↔x=y\/x∈xs:=by
 unfold addS;split
 ·rename_i h
  constructor
  ·exact .inr
  ·rintro(rfl | h')
   ·exact h
   ·exact h'
 ·exact List.mem_cons
theorem zku (xs:List α)(y:α):(addS xs y).length<=xs.length+1:=by
 unfold addS;split
 ·lia
 ·simp
theorem zfH:∀(ys xs:List α)(x:α),x∈ys.foldl addS xs↔x∈xs\/x∈ys
 | [],xs,x=>by simp
 | y::ys,xs,x=>by
  rw[List.foldl_cons,zfH ys (addS xs y) x,zkt,List.mem_cons];constructor
  ·rintro((h | h) | h)
   ·exact .inr (.inl h)
   ·exact .inl h
   ·exact .inr (.inr h)
  ·rintro(h | h | h)
   ·exact .inl (.inr h)
   ·exact .inl (.inl h)
   ·exact .inr h
theorem zcb:∀(ys xs:List α),(ys.foldl addS xs).length<=xs.length+ys.length
 | [],xs=>by simp
 | y::ys,xs=>by
  rw[List.foldl_cons];have h1:=zcb ys (addS xs y);have h2:=zku xs y;rw[List.length_cons];lia
end
section
variable {α:Type} [DecidableEq α] {prog:Program}{w:World}{A:Around}{R:Result->Shared->Prop}{I:Addr}{fp wr:List Addr}{G:Array GenState->Array GenState->Prop}{n:Nat}{P:Nat->Value->Prop}{St:Nat->Shared->Prop}{knd:PySem.KeyKind prog w α}{of:Value->α}
theorem zdK (W:WalksS prog w A.in1 I fp wr G n P St)(S:Addr)(hSf:S∉fp)(ys:List α)(hn:ys.length=n)(hof:∀k v,knd.is k v=true->of v=k)(hval:∀i v,P i v->∃y,ys[i]? = some y/\knd.is y v=true/\v.scannable=true)(hb:n+1<scanBound) :
  ∀(k i:Nat) (s:Shared),n-i=k->i<=n->St i s->KSet knd of s.heap S ((ys.take i).foldl addS [])->
   (∀s',Moved (S::wr) G s s'->KSet knd of s'.heap S (ys.foldl addS [])->R (.ok (.ret .none)) s')->
   codeAny (model prog w) A (.builtin "set.update.loop" ⟨[.ref S,.ref I],[]⟩) R s:=by
 have hSw:S∉wr:=λh=>hSf (W.sub _ h);intro k;induction k with
 | zero=>
  intro i s hk hi hst hS hR;have hin:i=n:=by lia
  subst hin;refine codeAny_builtin PyProof.Rows.F.entry_set_update_loop ?_;rw[Around.under_plainId PyProof.Rows.F.plain_set_update_loop _];show wpAny _ A.in1 (pyNext (.ref I) >>= _) _ _ s;refine wpAny_bind (W.done s _ _ hst λs' hm=>wpAny_pure (hR s' (hm.mono λb hb=>List.mem_cons_of_mem _ hb) ?_));rw[List.take_of_length_le (by lia)]at hS;exact hS.keep λo e=>hm.heap S o hSw e
 | succ k ih=>
  intro i s hk hi hst hS hR;have hlt:i<n:=by lia
  refine codeAny_builtin PyProof.Rows.F.entry_set_update_loop ?_;rw[Around.under_plainId PyProof.Rows.F.plain_set_update_loop _];show wpAny _ A.in1 (pyNext (.ref I) >>= _) _ _ s;refine wpAny_bind (W.item i s _ _ hlt hst λv s' hP hst' hm=>?_);obtain⟨y,hy,hkey,hsc⟩:=hval i v hP;have hS':=hS.keep λo e=>hm.heap S o hSw e;show wpAny _ A.in1 (holding [v] (setAdd S v) >>= _) _ _ s';refine wpAny_bind (wpAny_holding ?_);unfold setAdd;refine wpAny_holding (wpAny_bind (knd.pyHash (k:=y) hkey ?_));have hroom:((ys.take i).foldl addS []).length+1<scanBound:=by
   have q:=zcb (ys.take i) [];rw[List.length_take]at q;simp at q;lia
  refine znF (s:=_) hof hkey hsc hS' hroom λh' b hsb hS2=>?_;have hSi:KSet knd of h' S ((ys.take (i+1)).foldl addS []):=by
   rw[List.take_add_one,hy,List.foldl_append];exact hS2
  refine wpAny_pure ⟨plainId_quiet PyProof.Rows.F.plain_set_update_loop _,ih (i+1) _ (by lia) hlt (W.frame _ s' _ _ hst' (by first | exact Nat.le_refl _ | exact Nat.le_succ _) λb hb o e=>?_) hSi λs'' hm'' hS''=>?_⟩
  ·rw[hsb.2 b (λh:b=S=>hSf (by rw[<- h];exact hb))];exact e
  ·refine hR s'' (Moved.trans W.gtrans ((hm.mono λb hb=>List.mem_cons_of_mem _ hb).then_heap (by first | exact Nat.le_refl _ | exact Nat.le_succ _) λb o hb e=>?_) hm'') hS''
   rw[hsb.2 b (λh:b=S=>hb (by rw[h];exact List.mem_cons_self))];exact e
end
noncomputable abbrev zax (w:World):Obj:={ cls:=.type "set",dict:=none,data:=.set #[] 0 (.fresh 0 0 (!byText w)) }
theorem zhn {α:Type} [DecidableEq α] {prog:Program}{w:World}{knd:PySem.KeyKind prog w α}{of:Value->α}{h:Heap}{a:Addr}(e:h.get? a=some (zax w)):KSet knd of h a []:=by
 refine⟨#[],0,_,⟨⟨_,e,⟨rfl,rfl,rfl⟩,rfl⟩,by rfl,?_,List.Pairwise.nil,rfl,by decide⟩,λz hz=>by simp at hz,by simp,List.nodup_nil⟩;show(!byText w)=true\/byText w=true;cases byText w
 ·exact .inl rfl
 ·exact .inr rfl
section
variable {prog:Program}{w:World}{A:Around}{E:Value->Shared->Prop}{s:Shared}
theorem zja (x:Value){Q₁:Value->Shared->Prop}(h:Q₁ (.ref s.heap.objs.size) { s with heap:=s.heap.push (zax w) }) :
  codeAny (model prog w) A (.call (.builtin "set.__new__") ⟨[.type "set",x],[]⟩) (wants Q₁ E) s:=by
 refine codeAny_of_tree ?_;show wpAny _ A.in1 (do checkBuiltinCall "set.__new__" ⟨[.type "set",x],[]⟩;again (.builtin "set.__new__" ⟨[.type "set",x],[]⟩)) _ _ s
 refine wpAny_bind (wpAny_of_eq (PySem.F.newCall_set_1 x) (wpAny_pure ⟨plainId_quiet PySem.F.plain_set_new _,codeAny_builtin PySem.F.entry_set_new ?_⟩));rw[Around.under_plainId PySem.F.plain_set_new _];unfold Builtin.«set.__new__» Builtin.Frozenset.newClass;have hsub:=sub_set_self;obtain⟨hp,g,d,tk,os⟩:=s;dsimp only
 wp_walk
 refine wpAny_askSetting (wpAny_pure ?_);dsimp only;simp only[newObj];exact wpAny_bind (wpAny_alloc (wpAny_pure (wpAny_pure h)))
theorem zjb {l:Addr}{items:Array Value}{SP:Heap->Addr->Prop}{Q:Value->Shared->Prop}(hh:A.handled=none)(hl:s.heap.IsList l items)
  (loop:∀ {A':Around} {R:Result->Shared->Prop} {I:Addr} {fp wr:List Addr} {G:Array GenState->Array GenState->Prop} {P:Nat->Value->Prop} {St:Nat->Shared->Prop} (W:WalksS prog w A'.in1 I fp wr G items.size P St) (S:Addr),A'.units<=A.units+8->S∉fp->(∀i v,P i v->items[i]? = some v)->(∀b,b<s.heap.objs.size->b∉S::wr)->∀s1:Shared,(∀b o,s.heap.get? b=some o->s1.heap.get? b=some o)->St 0 s1->s1.heap.get? S=some (zax w)->(∀s',Moved (S::wr) G s1 s'->SP s'.heap S->R (.ok (.ret .none)) s')->
   codeAny (model prog w) A' (.builtin "set.update.loop" ⟨[.ref S,.ref I],[]⟩) R s1)
  (h:∀(h':Heap) (tk:Nat),SP h' s.heap.objs.size->(∀b o,s.heap.get? b=some o->h'.get? b=some o)->Q (.ref s.heap.objs.size) { s with heap:=h',toks:=tk }) :
  wpAny (model prog w) A (call (.type "set") [.ref l]) Q E s:=by
 obtain⟨c,tl,hmro⟩:=PySem.F.called_set.mro;have hmade:=PySem.F.called_set.made;have hsub:=PySem.F.called_set.sub;refine wpAny_call (codeAny_of_tree ?_);show wpAny _ _ (callAny (.type "set") _) _ _ _;refine wpAny_pure ⟨Code.quiet_builtin _ (by decide +kernel),codeAny_builtin PySem.F.entry_type_call ?_⟩;rw[Around.under_plain (weight_type_call_type "set" [.ref l] []) rfl];have h1:=PySem.F.called_set.notType;have h2:=PySem.F.called_set.canCreate;have hct:=PySem.F.typeCall_set_1 (.ref l)
 repeat (any_goals (first | assumption | wp_step))
 refine codeAny_mono (zja (.ref l) (E:=E) (Q₁:=λob s1=>ob=.ref s.heap.objs.size/\s1={ s with heap:=s.heap.push (zax w) }) ⟨rfl,rfl⟩) λr s1 hr=>?_;cases r with
 | error e=>exact hr
 | ok fl=>
  cases fl with
  | ret ob=>
   obtain⟨rfl,rfl⟩:=hr;have hS:(s.heap.push (zax w)).get? s.heap.objs.size=some (zax w):=Heap.get?_push_size _ rfl;have hT:Shared.TypeIs { s with heap:=s.heap.push (zax w) } (.ref s.heap.objs.size) "set":=⟨_,hS,rfl⟩;have hli:=PySem.F.called_set.init.lookup;have hbi:=PySem.F.called_set.init.bind (.ref s.heap.objs.size)
   repeat (any_goals (first | assumption | wp_step))
   refine codeAny_mono (codeAny_call_builtin (R:=wants (λr s2=>r=.none/\∃h' tk,s2={ s with heap:=h',toks:=tk }/\SP h' s.heap.objs.size/\∀b o,s.heap.get? b=some o->h'.get? b=some o) E)
    PySem.F.called_set.init.plain PySem.F.entry_set_init (check_set_init_1 hT ?_)) λr₂ s₂ hr₂=>?_
   ·obtain⟨⟨ocls,odict,odata,oslots⟩,hol,hcl,nl,hdl⟩:=hl;simp only at hcl hdl;subst hcl;subst hdl;have hol':(s.heap.push (zax w)).get? l=some { cls:=.type "list",dict:=odict,data:=.seq items nl,slots:=oslots }:=Heap.get?_push_of_some _ hol;have hsls:=PySem.F.sub_list_set;have hslf:=PySem.F.sub_list_frozenset;have hne:(Value.type "list" == Value.type "dict")=false:=by decide
    have hl1:(s.heap.push (zax w)).IsList l items:=⟨_,hol',rfl,nl,rfl⟩;unfold Builtin.«set.__init__» noKeywords Builtin.Frozenset.updateFrom;generalize hPI:pyIter=PI
    wp_walk
    subst hPI;refine wpAny_pyIter_list hl1 (wpAny_bind (wpAny_runValue ?_));have hlS:l<s.heap.objs.size:=Heap.lt_size hol;have hz1:(s.heap.push (zax w)).objs.size=s.heap.objs.size+1:=Heap.size_push ..;have hneI:l≠(s.heap.push (zax w)).objs.size:=by rw[hz1];exact Nat.ne_of_lt (Nat.lt_succ_of_lt hlS)
    have hSf:s.heap.objs.size∉[(s.heap.push (zax w)).objs.size,l]:=by
     rw[hz1];intro z;rcases List.mem_cons.mp z with e | e
     ·exact absurd e (Nat.ne_of_lt (Nat.lt_succ_self _))
     ·exact absurd (List.mem_singleton.mp e) (Nat.ne_of_gt hlS)
    refine loop ((Walks.list (by simp[hh]) _ l hneI items).toS) s.heap.objs.size ?U hSf (λi v hv=>hv) (λb hb=>?W) _ (λb o e=>Heap.get?_push_of_some _ (Heap.get?_push_of_some _ e)) ⟨⟨_,Heap.get?_push_size _ rfl,rfl,rfl⟩,hl1.push _⟩ (Heap.get?_push_of_some _ hS) λs' hm hS'=>?_
    case U=>show A.units+1+1<=_;lia
    case W=>
     intro z;rcases List.mem_cons.mp z with q | q
     ·exact Nat.ne_of_lt hb q
     ·have q':=List.mem_singleton.mp q;rw[hz1]at q';exact absurd q' (Nat.ne_of_lt (Nat.lt_succ_of_lt hb))
    obtain⟨h',g',d',tk',os'⟩:=s';have eg:g'=s.gens:=hm.gens;have ed:d'=s.drawn:=hm.drawn;have eo:os'=s.os:=hm.os;subst eg;subst ed;subst eo;refine wpAny_pure (wpAny_pure ⟨rfl,h',tk',rfl,hS',λb o e=>?_⟩);have hb':b<s.heap.objs.size:=Heap.lt_size e;refine hm.heap b o (λz=>?_) (Heap.get?_push_of_some _ (Heap.get?_push_of_some _ e));rcases List.mem_cons.mp z with q | q
    ·exact Nat.ne_of_lt hb' q
    ·have q':=List.mem_singleton.mp q;rw[hz1]at q';exact absurd q' (Nat.ne_of_lt (Nat.lt_succ_of_lt hb'))
   ·cases r₂ with
    | error e=>exact hr₂
    | ok fl₂=>
     cases fl₂ with
     | ret r=>
      obtain⟨rfl,h',tk,rfl,hS',hk'⟩:=hr₂
      repeat (any_goals (first | assumption | wp_step))
      exact h _ _ hS' hk'
     | _=>exact hr₂.elim
  | _=>exact hr.elim
theorem zjc {α:Type} [DecidableEq α] {knd:PySem.KeyKind prog w α}{of:Value->α}{l:Addr}{items:Array Value}{ys:List α}{Q:Value->Shared->Prop}(hof:∀k v,knd.is k v=true->of v=k)(hh:A.handled=none)(hl:s.heap.IsList l items)(hi:∀(i:Nat) v,items[i]? = some v->∃y,ys[i]? = some y/\knd.is y v=true/\v.scannable=true)(hy:ys.length=items.size)(hb:items.size+1<scanBound)
  (h:∀(h':Heap) (tk:Nat),KSet knd of h' s.heap.objs.size (ys.foldl addS [])->(∀b o,s.heap.get? b=some o->h'.get? b=some o)->Q (.ref s.heap.objs.size) { s with heap:=h',toks:=tk }) :
  wpAny (model prog w) A (call (.type "set") [.ref l]) Q E s:=
 zjb (SP:=λh S=>KSet knd of h S (ys.foldl addS [])) hh hl (λ{A' R I fp wr G P St} W S _ hSf hP _ s1 kp hst hS hR=>zdK W S hSf ys hy hof (λi v hv=>hi i v (hP i v hv)) hb _ 0 s1 rfl (Nat.zero_le _) hst (zhn hS) hR) h
theorem zkv {l:Addr}{items:Array Value}{ys:List Str}{Q:Value->Shared->Prop}(hh:A.handled=none)(hl:s.heap.IsList l items)(hi:∀(i:Nat) v,items[i]? = some v->∃y t,ys[i]? = some y/\v=.str y t)(hy:ys.length=items.size)(hb:items.size+1<scanBound)
  (h:∀(h':Heap) (tk:Nat),zfF prog w h' s.heap.objs.size (ys.foldl addS [])->(∀b o,s.heap.get? b=some o->h'.get? b=some o)->Q (.ref s.heap.objs.size) { s with heap:=h',toks:=tk }) :
  wpAny (model prog w) A (call (.type "set") [.ref l]) Q E s:=
 zjc (knd:=PySem.strKind prog w) (of:=sOf) (λk v hk=>by obtain⟨t,rfl⟩:=Value.isStrOf_shape (show Value.isStrOf k v=true from hk);rfl) hh hl (λi v hv=>by obtain⟨y,t,e1,rfl⟩:=hi i v hv;exact⟨y,e1,by simp[PySem.strKind,Value.isStrOf],rfl⟩) hy hb h
end
section
variable {prog:Program}{w:World}{A:Around}{E:Value->Shared->Prop}{s:Shared}{a:Addr}
theorem zkw {vs:List Value}{ss:List Str}{Q:Value->Shared->Prop}(hS:StrsAre vs ss)(h64:vs.length<64)
  (h:∀(h':Heap) (out:List Value) (zs:List Str) (e:Nat),StrsAre out zs->zs.Perm ss->sortedS zs=true->(∀b o,s.heap.get? b=some o->h'.get? b=some o)->h'.get? s.heap.objs.size=some { cls:=.type "list",data:=.seq out.toArray e }->Q (.ref s.heap.objs.size) { s with heap:=h' }) :
  wpAny (model prog w) A (newList vs >>= λl=>holding [l] (call (.builtin "list.sort") [l] []) >>= λ_=>ret l) (λfin s'=>∃r,fin=.done (.ret r)/\Q r s') E s:=by
 refine wpAny_bind (wpAny_newList ?_);have hoL:(s.heap.push (seqObj "list" vs.toArray 0)).get? s.heap.objs.size=some (seqObj "list" vs.toArray 0):=Heap.get?_push_size _ rfl;refine wpAny_bind (wpAny_holding (wpAny_call_entry slot_list_sort ⟨_,hoL,rfl⟩ entry_list_sort (list_sort_treeK strKind_oneLt hoL hS.keysOf (λv1 v2 rest e=>keyKind_strs (by rw[<- e];exact hS)) h64 λst' a1 a2=>⟨_,rfl,?_⟩) (args_list_sort _)));obtain⟨zs,q1,q2,q3⟩:=sorted_out_str hS a1 a2;obtain⟨e,he⟩:=sortedHeap_at (out:=(arrOf st').map (·.2)) hoL;refine wpAny_pure ⟨_,rfl,h _ ((arrOf st').map (·.2)).toList zs e q1 q2 q3 (λb o hb=>?_) (by rw[Array.toArray_toList];exact he)⟩;have hlt:b<s.heap.objs.size:=Heap.lt_size hb;rw[sortedHeap_old (Nat.ne_of_lt hlt) (by rw[size_push'];exact Nat.lt_succ_of_lt hlt)];exact Heap.get?_push_of_some _ hb
theorem zia {xs:List Str}{Q:Value->Shared->Prop}(hh:A.handled=none)(S:zfF prog w s.heap a xs)(h64:xs.length<64)
  (h:∀(h1 h':Heap) (d:Drawn) (tk:Nat) (out:List Value) (zs:List Str) (e:Nat),StrsAre out zs->zs.Perm xs->sortedS zs=true->(∀b o,s.heap.get? b=some o->h1.get? b=some o)->(∀b o,h1.get? b=some o->h'.get? b=some o)->h'.get? h1.objs.size=some { cls:=.type "list",data:=.seq out.toArray e }->
   Q (.ref h1.objs.size) { s with heap:=h',drawn:=d,toks:=tk }):wpAny (model prog w) A (call (.builtin "sorted") [.ref a]) Q E s:=by
 refine Calls.call_function_entry kind_sorted plain_sorted entry_sorted (args_sorted1 _) ?_;unfold Builtin.«sorted»;refine wpAny_bind (m:=checkCount "sorted" 1 1 _) (wpAny_pure ?_);obtain⟨es,ep,t,r,hel,hp,nd⟩:=S;refine wpAny_bind (zgF (by simpa using hh) r λh1 d tk order ho kp=>?_);have hst:∀v∈order,∃x t,v=Value.str x t:=λv hv=>by
  obtain⟨e,he,q⟩:=List.mem_map.mp (ho.mem_iff.mp hv);obtain⟨⟨k,hk,_⟩,_⟩:=hel e he;obtain⟨t,q'⟩:=Value.isStrOf_shape (show Value.isStrOf k e.2=true from hk);exact⟨k,t,by rw[<- q];exact q'⟩
 have hS:=strsAre_map order hst;have hperm:(order.map strOf).Perm xs:=by
  refine(ho.map strOf).trans ?_;rw[List.map_map];have e:es.toList.map (strOf ∘ λx=>x.2)=es.toList.map λe=>sOf e.2:=List.map_congr_left λe he=>by
   obtain⟨⟨k,hk,_⟩,_⟩:=hel e he;obtain⟨t,q'⟩:=Value.isStrOf_shape (show Value.isStrOf k e.2=true from hk);show strOf e.2=sOf e.2;rw[q'];rfl
  rw[e];exact hp
 have hlen:order.length<64:=by
  have q:=hperm.length_eq;rw[List.length_map]at q;lia
 refine zkw (s:={ s with heap:=h1,drawn:=d,toks:=tk }) hS hlen λh' out zs e q1 q2 q3 kp' he=>?_;exact h h1 h' d tk out zs e q1 (q2.trans hperm) q3 kp kp' he
end
end JS
namespace L2
open PySem PySem.Spec PyProof.Rows
inductive D where
 | non | int (i:Int) | str (x:Str) | tup (ds:List D)
noncomputable instance:DecidableEq D:=λ_ _=>Classical.propDecidable _
mutual
noncomputable def Den (H:Hp):D->V->Prop
 | .non,v=>v=.non
 | .int i,v=>v=.int i
 | .str x,v=>v=.str x
 | .tup ds,v=>∃a xs,v=.ref a/\H a=some (.tup xs)/\DenL H ds xs
noncomputable def DenL (H:Hp):List D->List V->Prop
 | [],xs=>xs=[]
 | d::ds,xs=>∃v r,xs=v::r/\Den H d v/\DenL H ds r
end
noncomputable def znG (H H':Hp):Prop:=∀b xs,H b=some (.tup xs)->H' b=some (.tup xs)
mutual
theorem Den.mono {H H':Hp}(s:znG H H'):∀(d:D)(v:V),Den H d v->Den H' d v
 | .non,v,h=>by unfold Den at h ⊢;exact h
 | .int i,v,h=>by unfold Den at h ⊢;exact h
 | .str x,v,h=>by unfold Den at h ⊢;exact h
 | .tup ds,v,h=>by
  unfold Den at h ⊢;obtain⟨a,xs,e,h1,h2⟩:=h;exact⟨a,xs,e,s a xs h1,DenL.mono s ds xs h2⟩
theorem DenL.mono {H H':Hp}(s:znG H H'):∀(ds:List D)(xs:List V),DenL H ds xs->DenL H' ds xs
 | [],xs,h=>by unfold DenL at h ⊢;exact h
 | d::ds,xs,h=>by
  unfold DenL at h ⊢;obtain⟨v,r,e,h1,h2⟩:=h;exact⟨v,r,e,Den.mono s d v h1,DenL.mono s ds r h2⟩
end
mutual
theorem Den.inj {H:Hp}:∀(d e:D)(v:V),Den H d v->Den H e v->d=e
 | .non,e,v,h,g=>by
  unfold Den at h;subst h;cases e<;>unfold Den at g
  ·rfl
  ·cases g
  ·cases g
  ·obtain⟨a,xs,z,_⟩:=g;cases z
 | .int i,e,v,h,g=>by
  unfold Den at h;subst h;cases e<;>unfold Den at g
  ·cases g
  ·injection g with g;rw[g]
  ·cases g
  ·obtain⟨a,xs,z,_⟩:=g;cases z
 | .str x,e,v,h,g=>by
  unfold Den at h;subst h;cases e<;>unfold Den at g
  ·cases g
  ·cases g
  ·injection g with g;rw[g]
  ·obtain⟨a,xs,z,_⟩:=g;cases z
 | .tup ds,e,v,h,g=>by
  unfold Den at h;obtain⟨a,xs,z,h1,h2⟩:=h;subst z;cases e<;>unfold Den at g
  ·cases g
  ·cases g
  ·cases g
  ·obtain⟨b,ys,z,g1,g2⟩:=g;cases z;rw[h1]at g1;cases g1;rw[DenL.inj ds _ xs h2 g2]
theorem DenL.inj {H:Hp}:∀(ds es:List D)(xs:List V),DenL H ds xs->DenL H es xs->ds=es
 | [],es,xs,h,g=>by
  unfold DenL at h;subst h;cases es with
  | nil=>rfl
  | cons e es=>unfold DenL at g;obtain⟨v,r,z,_⟩:=g;cases z
 | d::ds,es,xs,h,g=>by
  unfold DenL at h;obtain⟨v,r,z,h1,h2⟩:=h;subst z;cases es with
  | nil=>unfold DenL at g;cases g
  | cons e es=>
   unfold DenL at g;obtain⟨v',r',z,g1,g2⟩:=g;cases z;rw[Den.inj d e v h1 g1,DenL.inj ds es r h2 g2]
end
mutual
noncomputable def Cmp:D->D->Prop
 | .non,e=>e=.non
 | .int _,e=>∃j,e=.int j
 | .str _,e=>∃y,e=.str y
 | .tup ds,e=>∃es,e=.tup es/\CmpL ds es
noncomputable def CmpL:List D->List D->Prop
 | [],_=>True
 | d::ds,es=>∀e r,es=e::r->Cmp d e/\CmpL ds r
end
mutual
noncomputable def dep:D->Nat
 | .tup ds=>depL ds+1
 | _=>0
noncomputable def depL:List D->Nat
 | []=>0
 | d::ds=>max (dep d) (depL ds)
end
end L2
namespace L2
open PySem PySem.Spec PyProof.Rows
section
variable {X:Cx}
noncomputable def zoP (K:PySem.W.Frag):V->List V->Hp->VK->Prop:=λx vs H Q=>∃(l b:Addr)(xs zs:List V),x=.ref l/\vs=[.ref b]/\H l=some (.lst xs)/\SqT K H b zs/\xs.length+zs.length<=sizeLine/\Q .non (upd H l (.lst (xs++zs)))
theorem zmg:MtM X "list.extend" (zoP X.K):=by
 intro pins s σ H x vs v us Q I rx rv h;obtain⟨l,b,xs,zs,rfl,rfl,hH,hB,hz,q⟩:=h;cases rx;obtain⟨u,rfl,ru⟩:=rv.one;cases ru;obtain⟨z,its,n,r,hl,e⟩:=I.lstM hH;obtain⟨its2,r2,⟨o2,ho2,hc2,n2,hd2⟩,z2⟩:=I.tuple hB;have l2:=r2.length;have hne:l≠b:=λw=>by subst w;rw[e]at ho2;cases ho2;injection hc2 with z;exact absurd z (by decide)
 refine wpAny_call_entry PySem.F.slot_list_extend ⟨_,e,rfl⟩ PySem.F.entry_list_extend ?_ (PySem.F.args_list_extend_2 _ _);show wpAny _ _ (Builtin.List.listExtendWith (.ref l) (.ref b) .none) _ _ s;unfold Builtin.List.listExtendWith;refine wpAny_bind (wpAny_typeOf (T:="tuple") ⟨o2,ho2,hc2⟩ ?_);have h3:(Value.type "tuple" == Value.type "tuple")=true:=by decide
 rw[if_pos (by rw[h3];simp)];refine wpAny_bind (listItems_at ho2 hd2 (wpAny_bind (listItems_at e rfl ?_)));have hlong:¬ (!its.toArray.isEmpty&&Builtin.List.listTooLong (its.toArray.size+its2.toArray.size))=true:=by
  rw[zkn (by rw[List.size_toArray,List.size_toArray];lia),Bool.and_false];exact Bool.false_ne_true
 rw[if_neg hlong];refine wpAny_bind (listUpdate_at e rfl (wpAny_pure ⟨_,rfl,?_⟩) (by rw[List.size_toArray];lia) (by rw[Array.size_append,List.size_toArray,List.size_toArray];lia));refine⟨.non,_,I.lset (its':=its++its2) (t':=s.toks) hH e (by simp) (r.append r2) (by rw[List.length_append];lia),rfl,q⟩
theorem zcj {ss:List Str}:∀ {its:List Value},Vals (ss.map V.str) its->StrsAre its ss:=by
 induction ss with
 | nil=>intro its r;cases r;exact .nil
 | cons x ss ih=>
  intro its r;cases r with
  | cons r1 r2=>
   obtain⟨t,rfl⟩:=(show ∃t,_=Value.str x t from r1);exact .cons x t (ih r2)
theorem zjd {ss:List Str}:∀ {its:List Value},StrsAre its ss->Vals (ss.map V.str) its:=by
 induction ss with
 | nil=>intro its r;cases r;exact .nil
 | cons x ss ih=>
  intro its r;cases r with
  | cons _ t r2=>exact .cons ⟨t,rfl⟩ (ih r2)
noncomputable def rJoin (K:PySem.W.Frag):V->List V->Hp->VK->Prop:=λx vs H Q=>∃(sep:Str)(l:Addr)(ys:List Str),x=.str sep/\vs=[.ref l]/\SqL K H l (ys.map V.str)/\(ys.map (·.length)).sum+ys.length*sep.length<=16777216/\Q (.str (Txt.join sep ys)) H
theorem zmh:MtR X "str.join" (rJoin X.K):=by
 intro pins s σ H x vs v us Q I rx rv h;obtain⟨sep,l,ys,rfl,rfl,hl,hz,q⟩:=h;obtain⟨t,rfl⟩:=rx;obtain⟨u,rfl,ru⟩:=rv.one;cases ru;obtain⟨its,r,p,_⟩:=I.list hl;exact join_list p.isList (by simpa using zcj r) hz λt' k=>⟨.str _,H,I.tok k,⟨t',rfl⟩,q⟩
noncomputable def SetO (P:Program)(w:World)(a:Addr)(xs:List Str):HO:=.ext λh=>JS.zfF P w h a xs
theorem zje (hc:X.calm=true):zcq X (.type "set") (λxs H Q=>∃(p:Addr) (ss:List Str),xs=[.ref p]/\SqL X.K H p (ss.map V.str)/\ss.length+1<scanBound/\∀l,H l=none->Q (.ref l) (upd H l (SetO X.prog X.w l (ss.foldl JS.addS [])))):=by
 intro pins s σ H xs us Q I r h;obtain⟨p,ss,rfl,hp,hz,q⟩:=h;obtain⟨u,rfl,rx⟩:=vals1 r;cases rx;obtain⟨its,r,ht,_⟩:=I.list hp;have hlen:=r.length;rw[List.length_map]at hlen;refine JS.zkv (ys:=ss) (I.ok.hd hc) ht.isList (λi v hv=>?_) (by rw[List.size_toArray];exact hlen) (by rw[List.size_toArray];lia) λh' tk hS kp=>?_
 ·have hv':its[i]? = some v:=by simpa using hv
  have hi:i<its.length:=(List.getElem?_eq_some_iff.mp hv').1;have e1:(ss.map V.str)[i]? = some (V.str ss[i]):=by simp[show i<ss.length by lia]
  obtain⟨u,q1,q2⟩:=r.get e1;rw[hv']at q1;cases q1;obtain⟨t,e2⟩:=(show ∃t,v=Value.str _ t from q2);exact⟨_,t,by simp[show i<ss.length by lia],e2⟩
 ·refine⟨.ref s.heap.objs.size,_,I.laid (t':=tk) (o:=SetO X.prog X.w s.heap.objs.size (ss.foldl JS.addS [])) kp (Nat.le_refl _) ?_,rfl,q _ I.fresh⟩;obtain⟨es,ep,t,rc,_⟩:=id hS;obtain⟨o,ho,_⟩:=rc.obj;exact⟨hS,⟨o,ho⟩,λh1 h2 hs k=>JS.KSet.keep hs k⟩
theorem zfI (hc:X.calm=true):zcq X (.builtin "sorted") (λxs H Q=>∃(p:Addr) (ss:List Str),xs=[.ref p]/\H p=some (SetO X.prog X.w p ss)/\ss.length<64/\∀l zs,H l=none->zs.Perm ss->sortedS zs=true->Q (.ref l) (upd H l (.lst (zs.map V.str)))):=by
 intro pins s σ H xs us Q I r h;obtain⟨p,ss,rfl,hp,h64,q⟩:=h;obtain⟨u,rfl,rx⟩:=vals1 r;cases rx;obtain⟨hS,_,_⟩:=(show zbj X.prog X.w H s.heap p (SetO X.prog X.w p ss) from I.hok p _ hp);refine JS.zia (I.ok.hd hc) hS h64 λh1 h' d tk out zs e a1 a2 a3 kp kp' he=>?_;have I1:Inv X pins σ H { s with heap:=h1,drawn:=d,toks:=tk }:=I.call' (ch:=[]) rfl (Un.kept kp) (I.hok.kept kp) I.bare (λ_ z=>nomatch z);have hl2:zs.length=ss.length:=a2.length_eq;refine⟨.ref h1.objs.size,_,I1.laid (h':=h') (t':=tk) (o:=.lst (zs.map V.str)) kp' (Nat.le_refl _) ?_,rfl,q _ zs (I1.hok.fresh (Nat.le_refl _)) a2 a3⟩;exact⟨by rw[List.length_map,sizeLine_eq];lia,out,e,zjd a1,he⟩
end
noncomputable def znH (K:PySem.W.Frag):List V->Hp->VK->Prop:=λxs H Q=>∃p ys,xs=[.ref p]/\((SqL K H p ys/\∀l,H l=none->Q (.ref l) (upd H l (.tup ys)))\/(SqT K H p ys/\Q (.ref p) H))
noncomputable def zmi (K:PySem.W.Frag):List V->Hp->VK->Prop:=λxs H Q=>∃p ys,xs=[.ref p]/\(SqL K H p ys\/SqT K H p ys)/\∀l,H l=none->Q (.ref l) (upd H l (.lst ys))
end L2
namespace PL
open PySem PySem.Spec L2
open PyProof.Rows hiding St
inductive PV where
 | non | bl (b:Bool) | int (i:Int) | str (x:Str) | ty (n:String)
 | tup (ds:List PV) | lst (ds:List PV) | dK (ks:List Key) (ds:List PV) | dT (ks:List (List Key)) (ds:List PV)
noncomputable instance:DecidableEq PV:=λ_ _=>Classical.propDecidable _
noncomputable abbrev FZ:=Addr->Prop
noncomputable def KX (K:PySem.W.Frag)(a:Addr)(xs:List V):Prop:=∃(its:Array Value)(n:Nat),K.lookup a=some { cls:=.type "list",data:=.seq its n }/\its.size<=sizeLine/\Vals xs its.toList
theorem KX.sq {K:PySem.W.Frag}{H:Hp}{a:Addr}{xs:List V}(h:KX K a xs):SqL K H a xs:=by obtain⟨its,n,h1,h2,h3⟩:=h;exact .inr ⟨_,its,n,h1,rfl,rfl,rfl,h2,h3⟩
mutual
noncomputable def Den (K:PySem.W.Frag)(Fz:FZ)(H:Hp):PV->V->Prop
 | .non,v=>v=.non
 | .bl b,v=>v=.bl b
 | .int i,v=>v=.int i
 | .str x,v=>v=.str x
 | .ty n,v=>v=.ty n
 | .tup ds,v=>∃a xs,v=.ref a/\H a=some (.tup xs)/\DenL K Fz H ds xs
 | .lst ds,v=>∃a xs,v=.ref a/\((Fz a/\Rd H a (.lst xs))\/KX K a xs)/\DenL K Fz H ds xs
 | .dK ks ds,v=>∃a xs,v=.ref a/\Fz a/\Rd H a (.dK (ks.zip xs))/\ks.length=xs.length/\DenL K Fz H ds xs
 | .dT ks ds,v=>∃a xs,v=.ref a/\Fz a/\Rd H a (.dT (ks.zip xs))/\ks.length=xs.length/\DenL K Fz H ds xs
noncomputable def DenL (K:PySem.W.Frag)(Fz:FZ)(H:Hp):List PV->List V->Prop
 | [],xs=>xs=[]
 | d::ds,xs=>∃v r,xs=v::r/\Den K Fz H d v/\DenL K Fz H ds r
end
noncomputable def Root (K:PySem.W.Frag)(Fz:FZ)(H:Hp):PV->V->Prop
 | .lst ds,v=>∃a xs,v=.ref a/\(Rd H a (.lst xs)\/KX K a xs)/\DenL K Fz H ds xs
 | .dK ks ds,v=>∃a xs,v=.ref a/\Rd H a (.dK (ks.zip xs))/\ks.length=xs.length/\DenL K Fz H ds xs
 | .dT ks ds,v=>∃a xs,v=.ref a/\Rd H a (.dT (ks.zip xs))/\ks.length=xs.length/\DenL K Fz H ds xs
 | d,v=>Den K Fz H d v
noncomputable def Own (K:PySem.W.Frag)(Fz:FZ)(H:Hp):PV->Addr->Prop
 | .lst ds,a=>∃xs,H a=some (.lst xs)/\DenL K Fz H ds xs
 | .dK ks ds,a=>∃xs,H a=some (.dK (ks.zip xs))/\ks.length=xs.length/\DenL K Fz H ds xs
 | .dT ks ds,a=>∃xs,H a=some (.dT (ks.zip xs))/\ks.length=xs.length/\DenL K Fz H ds xs
 | _,_=>False
noncomputable def Imm:HO->Prop
 | .tup _=>True
 | .frz _ _=>True
 | _=>False
noncomputable def Pl:HO->Prop
 | .lst _=>True
 | .tup _=>True
 | .dK _=>True
 | .dT _=>True
 | _=>False
structure Keep (Fz:FZ)(H H':Hp):Prop where
 rd':∀b u,Pl u->Fz b->Rd H b u->Rd H' b u
 tup:∀b xs,H b=some (.tup xs)->H' b=some (.tup xs)
noncomputable def zjf (Fz:FZ)(H H':Hp):Prop:=∀b o,H b=some o->(Fz b\/Imm o)->H' b=some o
theorem Keep.mk' {Fz:FZ}{H H':Hp}(h:zjf Fz H H'):Keep Fz H H':=
 ⟨λb u _ f r=>by
  rcases r with r | ⟨o,r⟩
  ·exact .inl (h b _ r (.inl f))
  ·exact .inr ⟨o,h b _ r (.inl f)⟩,λb xs r=>h b _ r (.inr trivial)⟩
theorem Keep.of {Fz:FZ}{H H':Hp}(h:Same H H'):Keep Fz H H':=.mk' λb o e _=>h b o e
theorem Keep.rd {Fz:FZ}{H H':Hp}(k:Keep Fz H H'){a:Addr}{u:HO}(pl:Pl u)(hf:Fz a)(h:Rd H a u):Rd H' a u:=k.rd' a u pl hf h
section
variable {K:PySem.W.Frag}{Fz Fz':FZ}{H H':Hp}
mutual
theorem Den.mono (k:Keep Fz H H')(s:∀b,Fz b->Fz' b):∀(d:PV)(v:V),Den K Fz H d v->Den K Fz' H' d v
 | .non,v,h=>by simpa only[Den]using h
 | .bl b,v,h=>by simpa only[Den]using h
 | .int i,v,h=>by simpa only[Den]using h
 | .str x,v,h=>by simpa only[Den]using h
 | .ty n,v,h=>by simpa only[Den]using h
 | .tup ds,v,h=>by
  simp only[Den]at h ⊢;obtain⟨a,xs,e,h1,h2⟩:=h;exact⟨a,xs,e,k.tup a xs h1,DenL.mono k s ds xs h2⟩
 | .lst ds,v,h=>by
  simp only[Den]at h ⊢;obtain⟨a,xs,e,h1,h2⟩:=h;refine⟨a,xs,e,?_,DenL.mono k s ds xs h2⟩;rcases h1 with ⟨f,h1⟩ | h1
  ·exact .inl ⟨s a f,k.rd trivial f h1⟩
  ·exact .inr h1
 | .dK ks ds,v,h=>by
  simp only[Den]at h ⊢;obtain⟨a,xs,e,f,h1,h2,h3⟩:=h;exact⟨a,xs,e,s a f,k.rd trivial f h1,h2,DenL.mono k s ds xs h3⟩
 | .dT ks ds,v,h=>by
  simp only[Den]at h ⊢;obtain⟨a,xs,e,f,h1,h2,h3⟩:=h;exact⟨a,xs,e,s a f,k.rd trivial f h1,h2,DenL.mono k s ds xs h3⟩
theorem DenL.mono (k:Keep Fz H H')(s:∀b,Fz b->Fz' b):∀(ds:List PV)(xs:List V),DenL K Fz H ds xs->DenL K Fz' H' ds xs
 | [],xs,h=>by simpa only[DenL]using h
 | d::ds,xs,h=>by
  simp only[DenL]at h ⊢;obtain⟨v,r,e,h1,h2⟩:=h;exact⟨v,r,e,Den.mono k s d v h1,DenL.mono k s ds r h2⟩
end
theorem Den.root {d:PV}{v:V}(h:Den K Fz H d v):Root K Fz H d v:=by
 cases d with
 | lst ds=>
  simp only[Den]at h;obtain⟨a,xs,e,h1,h2⟩:=h;refine⟨a,xs,e,?_,h2⟩;rcases h1 with ⟨f,h1⟩ | h1
  ·exact .inl h1
  ·exact .inr h1
 | dK ks ds=>
  simp only[Den]at h;obtain⟨a,xs,e,_,h1,h2⟩:=h;exact⟨a,xs,e,h1,h2⟩
 | dT ks ds=>
  simp only[Den]at h;obtain⟨a,xs,e,_,h1,h2⟩:=h;exact⟨a,xs,e,h1,h2⟩
 | non=>exact h
 | bl b=>exact h
 | int i=>exact h
 | str x=>exact h
 | ty n=>exact h
 | tup ds=>exact h
theorem Own.root {d:PV}{a:Addr}(h:Own K Fz H d a):Root K Fz H d (.ref a):=by
 cases d with
 | lst ds=>obtain⟨xs,h1,h2⟩:=h;exact⟨a,xs,rfl,.inl (.inl h1),h2⟩
 | dK ks ds=>obtain⟨xs,h1,h2⟩:=h;exact⟨a,xs,rfl,.inl h1,h2⟩
 | dT ks ds=>obtain⟨xs,h1,h2⟩:=h;exact⟨a,xs,rfl,.inl h1,h2⟩
 | non=>exact h.elim
 | bl b=>exact h.elim
 | int i=>exact h.elim
 | str x=>exact h.elim
 | ty n=>exact h.elim
 | tup ds=>exact h.elim
theorem Own.den {d:PV}{a:Addr}(h:Own K Fz H d a)(f:Fz a):Den K Fz H d (.ref a):=by
 cases d with
 | lst ds=>obtain⟨xs,h1,h2⟩:=h;simp only[Den];exact⟨a,xs,rfl,.inl ⟨f,.inl h1⟩,h2⟩
 | dK ks ds=>obtain⟨xs,h1,h2⟩:=h;simp only[Den];exact⟨a,xs,rfl,f,.inl h1,h2⟩
 | dT ks ds=>obtain⟨xs,h1,h2⟩:=h;simp only[Den];exact⟨a,xs,rfl,f,.inl h1,h2⟩
 | non=>exact h.elim
 | bl b=>exact h.elim
 | int i=>exact h.elim
 | str x=>exact h.elim
 | ty n=>exact h.elim
 | tup ds=>exact h.elim
theorem Own.at {d:PV}{a:Addr}(h:Own K Fz H d a):∃o,H a=some o/\¬ Imm o:=by
 cases d with
 | lst ds=>obtain⟨xs,h1,h2⟩:=h;exact⟨_,h1,λz=>z⟩
 | dK ks ds=>obtain⟨xs,h1,h2⟩:=h;exact⟨_,h1,λz=>z⟩
 | dT ks ds=>obtain⟨xs,h1,h2⟩:=h;exact⟨_,h1,λz=>z⟩
 | non=>exact h.elim
 | bl b=>exact h.elim
 | int i=>exact h.elim
 | str x=>exact h.elim
 | ty n=>exact h.elim
 | tup ds=>exact h.elim
theorem Own.mono {d:PV}{a:Addr}(k:Keep Fz H H')(s:∀b,Fz b->Fz' b)(ha:∀o,H a=some o->H' a=some o)(h:Own K Fz H d a):Own K Fz' H' d a:=by
 cases d with
 | lst ds=>obtain⟨xs,h1,h2⟩:=h;exact⟨xs,ha _ h1,DenL.mono k s _ _ h2⟩
 | dK ks ds=>obtain⟨xs,h1,h2,h3⟩:=h;exact⟨xs,ha _ h1,h2,DenL.mono k s _ _ h3⟩
 | dT ks ds=>obtain⟨xs,h1,h2,h3⟩:=h;exact⟨xs,ha _ h1,h2,DenL.mono k s _ _ h3⟩
 | non=>exact h.elim
 | bl b=>exact h.elim
 | int i=>exact h.elim
 | str x=>exact h.elim
 | ty n=>exact h.elim
 | tup ds=>exact h.elim
theorem Root.mono {d:PV}{v:V}(k:Same H H')(s:∀b,Fz b->Fz' b)(h:Root K Fz H d v):Root K Fz' H' d v:=by
 have rd:∀ {a u},Rd H a u->Rd H' a u:=λ{a u} q=>by
  rcases q with q | ⟨o,q⟩
  ·exact .inl (k _ _ q)
  ·exact .inr ⟨o,k _ _ q⟩
 cases d with
 | lst ds=>obtain⟨a,xs,e,h1,h2⟩:=h;exact⟨a,xs,e,h1.imp rd id,DenL.mono (.of k) s _ _ h2⟩
 | dK ks ds=>obtain⟨a,xs,e,h1,h2,h3⟩:=h;exact⟨a,xs,e,rd h1,h2,DenL.mono (.of k) s _ _ h3⟩
 | dT ks ds=>obtain⟨a,xs,e,h1,h2,h3⟩:=h;exact⟨a,xs,e,rd h1,h2,DenL.mono (.of k) s _ _ h3⟩
 | non=>exact Den.mono (.of k) s _ _ h
 | bl b=>exact Den.mono (.of k) s _ _ h
 | int i=>exact Den.mono (.of k) s _ _ h
 | str x=>exact Den.mono (.of k) s _ _ h
 | ty n=>exact Den.mono (.of k) s _ _ h
 | tup ds=>exact Den.mono (.of k) s _ _ h
theorem DenL.length:∀(ds:List PV)(xs:List V),DenL K Fz H ds xs->ds.length=xs.length
 | [],xs,h=>by simp only[DenL]at h;subst h;rfl
 | d::ds,xs,h=>by
  simp only[DenL]at h;obtain⟨v,r,z,_,h2⟩:=h;subst z;rw[List.length_cons,List.length_cons,DenL.length ds r h2]
theorem DenL.get:∀ {ds:List PV}{xs:List V}{i:Nat}{d:PV},DenL K Fz H ds xs->ds[i]? = some d->∃v,xs[i]? = some v/\Den K Fz H d v
 | [],xs,i,d,h,e=>by simp at e
 | d0::ds,xs,i,d,h,e=>by
  simp only[DenL]at h;obtain⟨v0,r,z,h1,h2⟩:=h;subst z;cases i with
  | zero=>simp at e;subst e;exact⟨v0,rfl,h1⟩
  | succ i=>
   obtain⟨v,q,h⟩:=DenL.get h2 (i:=i) (d:=d) (by simpa using e);exact⟨v,by simpa using q,h⟩
theorem DenL.nil:DenL K Fz H [] []:=by simp only[DenL]
theorem DenL.cons {d:PV}{v:V}{ds:List PV}{xs:List V}(h1:Den K Fz H d v)(h2:DenL K Fz H ds xs):DenL K Fz H (d::ds) (v::xs):=by
 simp only[DenL];exact⟨v,xs,rfl,h1,h2⟩
theorem DenL.append:∀ {ds es:List PV}{xs ys:List V},DenL K Fz H ds xs->DenL K Fz H es ys->DenL K Fz H (ds++es) (xs++ys)
 | [],es,xs,ys,h,g=>by simp only[DenL]at h;subst h;exact g
 | d::ds,es,xs,ys,h,g=>by
  simp only[DenL]at h;obtain⟨v,r,z,h1,h2⟩:=h;subst z;exact DenL.cons h1 (DenL.append h2 g)
theorem DenL.snoc {ds:List PV}{xs:List V}{d:PV}{v:V}(h:DenL K Fz H ds xs)(g:Den K Fz H d v):DenL K Fz H (ds++[d]) (xs++[v]):=h.append (DenL.cons g DenL.nil)
theorem DenL.split:∀ {ds es:List PV}{xs:List V},DenL K Fz H (ds++es) xs->∃ys zs,xs=ys++zs/\DenL K Fz H ds ys/\DenL K Fz H es zs
 | [],es,xs,h=>⟨[],xs,rfl,DenL.nil,h⟩
 | d::ds,es,xs,h=>by
  rw[List.cons_append]at h;simp only[DenL]at h;obtain⟨v,r,z,h1,h2⟩:=h;subst z;obtain⟨ys,zs,e,g1,g2⟩:=DenL.split h2;exact⟨v::ys,zs,by rw[e];rfl,DenL.cons h1 g1,g2⟩
theorem DenL.take {ds:List PV}{xs:List V}(n:Nat)(h:DenL K Fz H ds xs):DenL K Fz H (ds.take n) (xs.take n):=by
 have hl:=h.length;obtain⟨ys,zs,e,g1,g2⟩:=DenL.split (ds:=ds.take n) (es:=ds.drop n) (by rw[List.take_append_drop];exact h);have h1:=g1.length;subst e;by_cases hn:n<=ds.length
 ·rw[List.length_take,Nat.min_eq_left hn]at h1;rw[List.take_append_of_le_length (by lia),List.take_of_length_le (i:=n) (l:=ys) (by lia)];exact g1
 ·rw[List.take_of_length_le (i:=n) (l:=ds) (by lia),List.take_of_length_le (i:=n) (l:=ys++zs) (by lia)];exact h
theorem DenL.drop {ds:List PV}{xs:List V}(n:Nat)(h:DenL K Fz H ds xs):DenL K Fz H (ds.drop n) (xs.drop n):=by
 have hl:=h.length;obtain⟨ys,zs,e,g1,g2⟩:=DenL.split (ds:=ds.take n) (es:=ds.drop n) (by rw[List.take_append_drop];exact h);have h1:=g1.length;subst e;by_cases hn:n<=ds.length
 ·rw[List.length_take,Nat.min_eq_left hn]at h1;rw[List.drop_append,List.drop_of_length_le (i:=n) (l:=ys) (by lia),show n-ys.length=0 by lia];exact g2
 ·rw[List.drop_of_length_le (i:=n) (l:=ds) (by lia),List.drop_of_length_le (i:=n) (l:=ys++zs) (by lia)];exact DenL.nil
theorem DenL.eraseIdx:∀ {ds:List PV}{xs:List V}(i:Nat),DenL K Fz H ds xs->DenL K Fz H (ds.eraseIdx i) (xs.eraseIdx i)
 | [],xs,i,h=>by simp only[DenL]at h;subst h;exact DenL.nil
 | d0::ds,xs,i,h=>by
  simp only[DenL]at h;obtain⟨v0,r,z,h1,h2⟩:=h;subst z;cases i with
  | zero=>exact h2
  | succ i=>exact DenL.cons h1 (DenL.eraseIdx i h2)
end
noncomputable abbrev PEnv:=List (Option (PV×Bool))
structure Rel (K:PySem.W.Frag)(Fz:FZ)(ρ:PEnv)(σ:St)(H:Hp):Prop where
 al:∀b,Fz b->H b≠none
 len:ρ.length=σ.length
 frz:∀(i:Nat) (d:PV),ρ[i]? = some (some (d,false))->∃v,σ[i]? = some (some v)/\Den K Fz H d v
 own:∀(i:Nat) (d:PV),ρ[i]? = some (some (d,true))->∃a,σ[i]? = some (some (.ref a))/\¬ Fz a/\Own K Fz H d a
 inj:∀(i j:Nat) (d e:PV) (a:Addr),ρ[i]? = some (some (d,true))->ρ[j]? = some (some (e,true))->σ[i]? = some (some (.ref a))->σ[j]? = some (some (.ref a))->i=j
noncomputable def zaI (ρ:PEnv)(σ:St)(a:Addr):Prop:=∃(i:Nat)(d:PV),ρ[i]? = some (some (d,true))/\σ[i]? = some (some (.ref a))
structure Ext (Fz:FZ)(H:Hp)(Fz':FZ)(H':Hp):Prop where
 same:Same H H'
 sub:∀b,Fz b->Fz' b
 new:∀b,Fz' b->Fz b\/H b=none
 al:∀b,Fz' b->H' b≠none
theorem Ext.trans {F1 F2 F3:FZ}{H1 H2 H3:Hp}(a:Ext F1 H1 F2 H2)(b:Ext F2 H2 F3 H3):Ext F1 H1 F3 H3:=
 ⟨a.same.trans b.same,λc h=>b.sub c (a.sub c h),λc h=>by
  rcases b.new c h with h | h
  ·exact a.new c h
  ·exact .inr (a.same.free h),b.al⟩
theorem Ext.add {Fz Fz':FZ}{H H':Hp}{a:Addr}(x:Ext Fz H Fz' H')(h:H a=none)(h':H' a≠none):Ext Fz H (λb=>Fz' b\/b=a) H':=
 ⟨x.same,λb h=>.inl (x.sub b h),λb hb=>by
  rcases hb with hb | rfl
  ·exact x.new b hb
  ·exact .inr h,λb hb=>by
  rcases hb with hb | rfl
  ·exact x.al b hb
  ·exact h'⟩
theorem Ext.laid {Fz Fz':FZ}{H H':Hp}{p:Addr}{o:HO}(x:Ext Fz H Fz' H')(h:H' p=none):Ext Fz H Fz' (upd H' p o):=
 ⟨x.same.trans (λb u e=>by rw[zap (zaC e h)];exact e),x.sub,x.new,λb hb=>by
  by_cases e:b=p
  ·subst e;rw[zam];exact λz=>nomatch z
  ·rw[zap e];exact x.al b hb⟩
theorem Rel.ext {K:PySem.W.Frag}{Fz Fz':FZ}{ρ:PEnv}{σ:St}{H H':Hp}(R:Rel K Fz ρ σ H)(x:Ext Fz H Fz' H'):Rel K Fz' ρ σ H' where
 al:=x.al
 len:=R.len
 frz i d h:=by
  obtain⟨v,e,q⟩:=R.frz i d h;exact⟨v,e,Den.mono (.of x.same) x.sub d v q⟩
 own i d h:=by
  obtain⟨a,e,n,q⟩:=R.own i d h;refine⟨a,e,λz=>?_,q.mono (.of x.same) x.sub (λo h=>x.same _ _ h)⟩;rcases x.new a z with z | z
  ·exact n z
  ·obtain⟨o,h,_⟩:=q.at;rw[h]at z;cases z
 inj:=R.inj
inductive Kd where
 | frz | new | own (i:Nat)
noncomputable def Opd (K:PySem.W.Frag)(Fz':FZ)(H':Hp)(ρ:PEnv)(σ:St)(H:Hp)(d:PV):Kd->V->Prop
 | .frz,v=>Den K Fz' H' d v
 | .new,v=>∃a,v=.ref a/\H a=none/\¬ Fz' a/\Own K Fz' H' d a
 | .own i,v=>ρ[i]? = some (some (d,true))/\σ[i]? = some (some v)
structure Post (K:PySem.W.Frag)(ρ:PEnv)(σ:St)(Fz:FZ)(H:Hp)(Fz':FZ)(H':Hp)(d:PV)(k:Kd)(v:V):Prop where
 ext:Ext Fz H Fz' H'
 opd:Opd K Fz' H' ρ σ H d k v
theorem Post.root {K:PySem.W.Frag}{ρ:PEnv}{σ:St}{Fz Fz':FZ}{H H':Hp}{d:PV}{k:Kd}{v:V}(R:Rel K Fz ρ σ H)(p:Post K ρ σ Fz H Fz' H' d k v):Root K Fz' H' d v:=by
 cases k with
 | frz=>exact Den.root p.opd
 | new=>obtain⟨a,e,_,_,h⟩:=p.opd;subst e;exact h.root
 | own i=>
  obtain⟨h1,h2⟩:=p.opd;obtain⟨a,e,_,q⟩:=(R.ext p.ext).own i d h1;rw[h2]at e;cases e;exact q.root
theorem Post.frozen {K:PySem.W.Frag}{ρ:PEnv}{σ:St}{Fz Fz':FZ}{H H':Hp}{d:PV}{k:Kd}{v:V}(hk:k=.frz\/k=.new)(p:Post K ρ σ Fz H Fz' H' d k v) :
  ∃Fz2,Ext Fz H Fz2 H'/\(∀b,Fz' b->Fz2 b)/\Den K Fz2 H' d v:=by
 rcases hk with rfl | rfl
 ·exact⟨Fz',p.ext,λ_ h=>h,p.opd⟩
 ·obtain⟨a,e,hn,_,h⟩:=p.opd;subst e;exact⟨λb=>Fz' b\/b=a,p.ext.add hn (by obtain⟨o,e,_⟩:=h.at;rw[e];exact λz=>nomatch z),λ_ h=>.inl h,(h.mono (Fz':=λb=>Fz' b\/b=a) (Keep.of (Same.refl _)) (λ_ h=>.inl h) (λ_ h=>h)).den (.inr rfl)⟩
noncomputable abbrev TPE:=PEnv->(PV->Kd->Prop)->Prop
noncomputable abbrev TPT:=PEnv->(Bool->Prop)->Prop
noncomputable abbrev TPA:=PEnv->(List (PV×Kd)->Prop)->Prop
noncomputable def lift (K:PySem.W.Frag)(t:TPE):TE:=λσ H Q=>∃ρ Fz,Rel K Fz ρ σ H/\t ρ λd k=>∀v Fz' H',Post K ρ σ Fz H Fz' H' d k v->Q v H'
noncomputable def liftT (K:PySem.W.Frag)(t:TPT):TT:=λσ H Q=>∃ρ Fz,Rel K Fz ρ σ H/\t ρ λb=>∀Fz' H',Ext Fz H Fz' H'->Q b H'
structure PuE (X:Cx)(e:Expr)(t:TPE):Prop where
 mono:∀ρ Q Q',(∀d k,Q d k->Q' d k)->t ρ Q->t ρ Q'
 run:PE X e (lift X.K t)
structure PuT (X:Cx)(e:Expr)(t:TPT):Prop where
 mono:∀ρ Q Q',(∀b,Q b->Q' b)->t ρ Q->t ρ Q'
 run:PT X e (liftT X.K t)
theorem PE.weak {X:Cx}{e:Expr}{t t':TE}(h:PE X e t)(w:∀σ H Q,t' σ H Q->t σ H Q):PE X e t':=λpins s σ H Q I q=>h pins s σ H Q I (w σ H Q q)
theorem PT.weak {X:Cx}{e:Expr}{t t':TT}(h:PT X e t)(w:∀σ H Q,t' σ H Q->t σ H Q):PT X e t':=λpins s σ H Q I q=>h pins s σ H Q I (w σ H Q q)
theorem znI {X:Cx}{a b:Expr}{ta tb:TPE}(ha:PuE X a ta)(hb:PuE X b tb){σ:St}{H:Hp}{R:V->V->Hp->Prop}
  (ρ:PEnv) (Fz:FZ) (Re:Rel X.K Fz ρ σ H)
  (h:ta ρ λd kd=>tb ρ λe ke=>∀x y Fz1 H1 Fz2 H2,Post X.K ρ σ Fz H Fz1 H1 d kd x->Post X.K ρ σ Fz1 H1 Fz2 H2 e ke y->R x y H2) :
  lift X.K ta σ H λx H1=>lift X.K tb σ H1 λy H2=>R x y H2:=
 ⟨ρ,Fz,Re,ha.mono ρ _ _ (λd kd q v Fz1 H1 p1=>⟨ρ,Fz1,Re.ext p1.ext,hb.mono ρ _ _ (λe ke q w Fz2 H2 p2=>q v w Fz1 H1 Fz2 H2 p1 p2) q⟩) h⟩
end PL
namespace PL
open PySem PySem.Spec L2
open PyProof.Rows hiding St
section
variable {K:PySem.W.Frag}{ρ:PEnv}{σ:St}{Fz Fz1 Fz2:FZ}{H H1 H2:Hp}{d:PV}{k:Kd}{v:V}
theorem Opd.ext (x:Ext Fz1 H1 Fz2 H2)(h:Opd K Fz1 H1 ρ σ H d k v):Opd K Fz2 H2 ρ σ H d k v:=by
 cases k with
 | frz=>exact Den.mono (.of x.same) x.sub _ _ h
 | new=>
  obtain⟨a,e,hn,nf,o⟩:=h;refine⟨a,e,hn,λz=>?_,o.mono (.of x.same) x.sub (λo h=>x.same _ _ h)⟩;rcases x.new a z with z | z
  ·exact nf z
  ·obtain⟨o',h,_⟩:=o.at;rw[h]at z;cases z
 | own i=>exact h
theorem Opd.back (s:Same H H1)(h:Opd K Fz2 H2 ρ σ H1 d k v):Opd K Fz2 H2 ρ σ H d k v:=by
 cases k with
 | frz=>exact h
 | new=>obtain⟨a,e,hn,r⟩:=h;exact⟨a,e,s.free hn,r⟩
 | own i=>exact h
theorem Opd.up (h:Opd K Fz2 H2 [] [] H d k v):Opd K Fz2 H2 ρ σ H d k v:=by
 cases k with
 | frz=>exact h
 | new=>exact h
 | own i=>obtain⟨z,_⟩:=h;simp at z
theorem Post.behind (x:Ext Fz H Fz1 H1)(p:Post K [] [] Fz1 H1 Fz2 H2 d k v):Post K ρ σ Fz H Fz2 H2 d k v:=
 ⟨x.trans p.ext,(p.opd.up (ρ:=ρ) (σ:=σ)).back x.same⟩
theorem Post.val (al:∀b,Fz b->H b≠none)(h:Den K Fz H d v):Post K ρ σ Fz H Fz H d .frz v:=⟨⟨Same.refl H,λ_ h=>h,λ_ h=>.inl h,al⟩,h⟩
end
noncomputable def pVar (i:Nat):TPE:=λρ Q=>match ρ[i]? with
 | some (some (d,b))=>Q d (if b then .own i else .frz)
 | _=>False
theorem zeZ {i:Nat}{ρ:PEnv}{Q:PV->Kd->Prop}:pVar i ρ Q↔∃d b,ρ[i]? = some (some (d,b))/\Q d (if b then .own i else .frz):=by
 unfold pVar;cases h:ρ[i]? with
 | none=>simp
 | some x=>
  cases x with
  | none=>simp
  | some p=>
   obtain⟨d,b⟩:=p;constructor
   ·exact λq=>⟨d,b,rfl,q⟩
   ·rintro⟨d',b',e,q⟩;cases e;exact q
noncomputable def pC (d:PV):TPE:=λ_ Q=>Q d .frz
section
variable {X:Cx}
theorem zab (i:Nat){x:Str}{pos:Pos}(hN:autoParam (X.N[i]? = some x) aU0)(hv:autoParam (Vis X.env.scope x) aU5)(hd:autoParam ((x == ("__debug__" : Str))=false) aU1)
  (hcd:autoParam ((x == ("__classdict__" : Str))=false) aU1):PuE X (.Name x pos) (pVar i) where
 mono ρ Q Q' m h:=by obtain⟨d,b,e,q⟩:=zeZ.mp h;exact zeZ.mpr ⟨d,b,e,m _ _ q⟩
 run:=PE.weak (zbT hN hv hd hcd) λσ H Q h=>by
  obtain⟨ρ,Fz,R,h⟩:=h;obtain⟨d,b,e,q⟩:=zeZ.mp h;cases b with
  | false=>
   obtain⟨v,e1,h1⟩:=R.frz i d e;exact⟨v,e1,q v Fz H (.val R.al h1)⟩
  | true=>
   obtain⟨a,e1,_,_⟩:=R.own i d e;exact⟨_,e1,q _ Fz H ⟨⟨Same.refl H,λ_ h=>h,λ_ h=>.inl h,R.al⟩,e,e1⟩⟩
theorem zck {e:Expr}{d:PV}{v:V}(h:PE X e (tC v))(hd:∀Fz H,Den X.K Fz H d v):PuE X e (pC d) where
 mono ρ Q Q' m h:=m _ _ h
 run:=PE.weak h λσ H Q h=>by
  obtain⟨ρ,Fz,R,q⟩:=h;exact q v Fz H (.val R.al (hd Fz H))
theorem zaf {i j pos}:PuE X (.Constant (.int i) j pos) (pC (.int i)):=zck zmZ λ_ _=>by simp only[Den]
theorem zfJ {b j pos}:PuE X (.Constant (.bool b) j pos) (pC (.bl b)):=zck zow λ_ _=>by simp only[Den]
theorem zcK {j pos}:PuE X (.Constant .none j pos) (pC .non):=zck zgZ λ_ _=>by simp only[Den]
theorem zak {x j pos}:PuE X (.Constant (.str x) j pos) (pC (.str x)):=zck zlq λ_ _=>by simp only[Den]
theorem zib {x:Str}{T:String}{pos:Pos}(hg:Gl X x)(hm:X.mg x=none)(hv:bootBuiltins x=some (.type T))(hn:autoParam (x≠"__name__") aU1) (hd:autoParam ((x == ("__debug__" : Str))=false) aU1):PuE X (.Name x pos) (pC (.ty T)):=
 zck (ziz (v:=.ty T) hg hm hv rfl hn hd) λ_ _=>by simp only[Den]
end
noncomputable abbrev P2:=PV->PV->(PV->Kd->Prop)->Prop
structure POp (K:PySem.W.Frag)(r:R2)(p:P2):Prop where
 mono:∀d e Q Q',(∀z k,Q z k->Q' z k)->p d e Q->p d e Q'
 run:∀Fz H x y d e Q,(∀b,Fz b->H b≠none)->Root K Fz H d x->Root K Fz H e y->p d e (λz k=>∀v Fz' H',Post K [] [] Fz H Fz' H' z k v->Q v H')->r x y H Q
noncomputable def t2 (p:P2)(ta tb:TPE):TPE:=λρ Q=>ta ρ λd _=>tb ρ λe _=>p d e Q
section
variable {X:Cx}{a b:Expr}{ta tb:TPE}{pos:Pos}{r:R2}{p:P2}
theorem zdL (hp:POp X.K r p)(ha:PuE X a ta)(hb:PuE X b tb):∀ρ Q Q',(∀d k,Q d k->Q' d k)->t2 p ta tb ρ Q->t2 p ta tb ρ Q':=
 λρ Q Q' m h=>ha.mono ρ _ _ (λd _ h=>hb.mono ρ _ _ (λe _ h=>hp.mono d e _ _ m h) h) h
theorem zho (hp:POp X.K r p)(ha:PuE X a ta)(hb:PuE X b tb){σ:St}{H:Hp}{Q:VK}(h:lift X.K (t2 p ta tb) σ H Q):tOp r (lift X.K ta) (lift X.K tb) σ H Q:=by
 obtain⟨ρ,Fz,R,h⟩:=h;refine znI ha hb ρ Fz R (ha.mono ρ _ _ (λd kd h=>hb.mono ρ _ _ (λe ke h=>?_) h) h);intro x y Fz1 H1 Fz2 H2 p1 p2;have R1:=R.ext p1.ext;refine hp.run Fz2 H2 x y d e Q p2.ext.al ((p1.root R).mono p2.ext.same p2.ext.sub) (p2.root R1) (hp.mono d e _ _ (λz k q v Fz' H' p3=>?_) h);exact q v Fz' H' (p3.behind (p1.ext.trans p2.ext))
theorem zic {op:Operator}(ho:OpR X (binaryOp op) r)(hp:POp X.K r p)(ha:PuE X a ta)(hb:PuE X b tb):PuE X (.BinOp a op b pos) (t2 p ta tb):=
 ⟨zdL hp ha hb,PE.weak (zoE ho ha.run hb.run) λ_ _ _ h=>zho hp ha hb h⟩
theorem zlw {op:CmpOp}(ho:OpR X (compareOp op) r)(hp:POp X.K r p)(ha:PuE X a ta)(hb:PuE X b tb)(hm:autoParam (behindInMarks op b=false) aU2):PuE X (.Compare a [op] [b] pos) (t2 p ta tb):=
 ⟨zdL hp ha hb,PE.weak (zlS ho ha.run hb.run hm) λ_ _ _ h=>zho hp ha hb h⟩
noncomputable def blP (d:PV)(Q:Bool->Prop):Prop:=match d with
 | .bl b=>Q b
 | _=>False
theorem zfa {d:PV}{Q:Bool->Prop}:blP d Q↔∃b,d=.bl b/\Q b:=by
 unfold blP;constructor
 ·intro h;cases d<;>first | exact⟨_,rfl,h⟩ | exact h.elim
 ·rintro⟨b,rfl,q⟩;exact q
theorem zhp {d:PV}{Q Q':Bool->Prop}(m:∀b,Q b->Q' b)(h:blP d Q):blP d Q':=by
 obtain⟨b,e,q⟩:=zfa.mp h;exact zfa.mpr ⟨b,e,m b q⟩
noncomputable def tBl (te:TPE):TPT:=λρ Q=>te ρ λd _=>blP d Q
theorem zcy {op:CmpOp}(ho:OpR X (compareOp op) r)(hp:POp X.K r p)(ha:PuE X a ta)(hb:PuE X b tb)(hm:autoParam (behindInMarks op b=false) aU2):PuT X (.Compare a [op] [b] pos) (tBl (t2 p ta tb)) where
 mono ρ Q Q' m h:=zdL hp ha hb ρ _ _ (λd _ q=>zhp m q) h
 run:=PT.weak (ziH ho ha.run hb.run hm) λσ H Q h=>by
  obtain⟨ρ,Fz,R,h⟩:=h;refine zho hp ha hb ⟨ρ,Fz,R,zdL hp ha hb ρ _ _ (λd k q v Fz' H' p=>?_) h⟩;obtain⟨b,e,q⟩:=zfa.mp q;refine⟨b,?_,q Fz' H' p.ext⟩;subst e;have w:=p.root R;simpa only[Root,Den]using w
theorem zoQ (ho:IxR X r)(hp:POp X.K r p)(ha:PuE X a ta)(hb:PuE X b tb)(hs:autoParam (zgC b) aU7):PuE X (.Subscript a b pos) (t2 p ta tb):=
 ⟨zdL hp ha hb,PE.weak (zoJ ho ha.run hb.run hs) λ_ _ _ h=>zho hp ha hb h⟩
end
noncomputable def i2 (C:Int->Int->Prop)(g:Int->Int->PV):P2:=λd e Q=>∃i j,d=.int i/\e=.int j/\C i j/\Q (g i j) .frz
noncomputable def i0 (g:Int->Int->PV):P2:=λd e Q=>∃i j,d=.int i/\e=.int j/\Q (g i j) .frz
section
variable {K:PySem.W.Frag}
theorem zjg {C:Int->Int->Prop}{g:Int->Int->Int}:POp K (rI C λi j=>.int (g i j)) (i2 C λi j=>.int (g i j)) where
 mono d e Q Q' m h:=by obtain⟨i,j,e1,e2,c,q⟩:=h;exact⟨i,j,e1,e2,c,m _ _ q⟩
 run Fz H x y d e Q al rx ry h:=by
  obtain⟨i,j,rfl,rfl,c,q⟩:=h;simp only[Root,Den]at rx ry;exact⟨i,j,rx,ry,c,q _ Fz H (.val al (by simp only[Den]))⟩
theorem zmj {g:Int->Int->Int}:POp K (rI0 λi j=>.int (g i j)) (i0 λi j=>.int (g i j)) where
 mono d e Q Q' m h:=by obtain⟨i,j,e1,e2,q⟩:=h;exact⟨i,j,e1,e2,m _ _ q⟩
 run Fz H x y d e Q al rx ry h:=by
  obtain⟨i,j,rfl,rfl,q⟩:=h;simp only[Root,Den]at rx ry;exact⟨i,j,rx,ry,q _ Fz H (.val al (by simp only[Den]))⟩
theorem zdy {g:Int->Int->Bool}:POp K (rI0 λi j=>.bl (g i j)) (i0 λi j=>.bl (g i j)) where
 mono d e Q Q' m h:=by obtain⟨i,j,e1,e2,q⟩:=h;exact⟨i,j,e1,e2,m _ _ q⟩
 run Fz H x y d e Q al rx ry h:=by
  obtain⟨i,j,rfl,rfl,q⟩:=h;simp only[Root,Den]at rx ry;exact⟨i,j,rx,ry,q _ Fz H (.val al (by simp only[Den]))⟩
end
section
variable {X:Cx}{a b:Expr}{ta tb:TPE}{pos:Pos}
noncomputable abbrev pAdd:=t2 (i0 λi j=>.int (i+j))
noncomputable abbrev pMul:=t2 (i2 CMul λi j=>.int (i*j))
noncomputable abbrev pMod:=t2 (i2 (λ_ j=>0<j) λi j=>.int (i % j))
noncomputable abbrev pShr:=t2 (i2 (λ_ j=>0<=j) λi j=>.int (i / 2 ^ j.toNat))
noncomputable abbrev pLt:=t2 (i0 λi j=>.bl (decide (i<j)))
noncomputable abbrev pGt:=t2 (i0 λi j=>.bl (decide (j<i)))
theorem zbt (ha:PuE X a ta)(hb:PuE X b tb):PuE X (.BinOp a .Add b pos) (pAdd ta tb):=zic znj zmj ha hb
theorem zcL (ha:PuE X a ta)(hb:PuE X b tb):PuE X (.BinOp a .Mult b pos) (pMul ta tb):=zic znk zjg ha hb
theorem zbd (ha:PuE X a ta)(hb:PuE X b tb):PuE X (.BinOp a .Mod b pos) (pMod ta tb):=zic znl zjg ha hb
theorem zlx (ha:PuE X a ta)(hb:PuE X b tb):PuE X (.BinOp a .RShift b pos) (pShr ta tb):=zic znm zjg ha hb
end
noncomputable def plain:Nat->PV->Bool
 | _,.non=>true
 | _,.int _=>true
 | _,.str _=>true
 | n+1,.tup ds=>ds.all (plain n)
 | n+1,.lst ds=>ds.all (plain n)
 | _,_=>false
theorem zbk {K:PySem.W.Frag}{Fz:FZ}{H:Hp}{x:V}(h:Root K Fz H .non x):x=.non:=by simpa only[Root,Den]using h
theorem zaG {K:PySem.W.Frag}{Fz:FZ}{H:Hp}{x:V}{i:Int}(h:Root K Fz H (.int i) x):x=.int i:=by simpa only[Root,Den]using h
theorem zfb {K:PySem.W.Frag}{Fz:FZ}{H:Hp}{x:V}{i:Bool}(h:Root K Fz H (.bl i) x):x=.bl i:=by simpa only[Root,Den]using h
theorem zaq {K:PySem.W.Frag}{Fz:FZ}{H:Hp}{x:V}{i:Str}(h:Root K Fz H (.str i) x):x=.str i:=by simpa only[Root,Den]using h
theorem zaO {K:PySem.W.Frag}{Fz:FZ}{H:Hp}{x:V}{ds:List PV}(h:Root K Fz H (.tup ds) x):∃a xs,x=.ref a/\SqT K H a xs/\DenL K Fz H ds xs:=by
 simp only[Root,Den]at h;obtain⟨a,xs,e,h1,h2⟩:=h;exact⟨a,xs,e,SqT.of h1,h2⟩
theorem zjh {K:PySem.W.Frag}{Fz:FZ}{H:Hp}{x:V}{ds:List PV}(h:Root K Fz H (.tup ds) x):∃a xs,x=.ref a/\H a=some (.tup xs)/\DenL K Fz H ds xs:=by simpa only[Root,Den]using h
theorem zai {K:PySem.W.Frag}{Fz:FZ}{H:Hp}{x:V}{ds:List PV}(h:Root K Fz H (.lst ds) x):∃a xs,x=.ref a/\SqL K H a xs/\DenL K Fz H ds xs:=by
 simp only[Root]at h;obtain⟨a,xs,e,h1,h2⟩:=h;exact⟨a,xs,e,h1.elim (λh=>.inl h) KX.sq,h2⟩
theorem zfK {K:PySem.W.Frag}{Fz:FZ}{H:Hp}{x:V}{ds:List PV}(h:Root K Fz H (.lst ds) x):∃a xs,x=.ref a/\(Rd H a (.lst xs)\/KX K a xs)/\DenL K Fz H ds xs:=by simpa only[Root]using h
theorem df {p:Prop} [Decidable p] (h:¬ p){Y:Bool->Prop}(y:Y false):Y (decide p):=by rw[decide_eq_false h];exact y
theorem dn {p:Prop} [Decidable p] (h:¬ p){Y:Bool->Prop}(y:Y true):Y (!decide p):=by rw[decide_eq_false h];exact y
section
variable {X:Cx}{pins:List (Addr×Obj)}{σ:St}{H:Hp}{s:Shared}{Fz Fz':FZ}
theorem zfL (I:Inv X pins σ H s){a:Addr}{xs ys:List V}(h1:SqL X.K H a xs)(h2:SqT X.K H a ys):False:=by
 obtain⟨its,r,p,_⟩:=I.list h1;obtain⟨its2,r2,p2,_⟩:=I.tuple h2;exact SeqAt.ne_of_list_tuple p.isList (show s.heap.IsTuple a its2.toArray from p2) rfl
theorem zhq (I:Inv X pins σ H s):∀(n:Nat)(d e:PV)(x:V),plain n d=true->plain n e=true->Root X.K Fz H d x->Root X.K Fz' H e x->d=e:=by
 intro n;induction n with
 | zero=>
  intro d e x pd pe h g;cases d<;>first
   | (simp only[plain]at pd;exact absurd pd (by decide))
   | (cases e<;>first
     | (simp only[plain]at pe;exact absurd pe (by decide))
     | (simp only[Root,Den]at h g;subst h;first | (cases g;rfl) | cases g))
 | succ n ih=>
  have all:∀(ds es:List PV) (xs:List V),ds.all (plain n)=true->es.all (plain n)=true->DenL X.K Fz H ds xs->DenL X.K Fz' H es xs->ds=es:=by
   intro ds;induction ds with
   | nil=>
    intro es xs _ _ h g;simp only[DenL]at h;subst h;cases es with
    | nil=>rfl
    | cons e es=>simp only[DenL]at g;obtain⟨_,_,z,_⟩:=g;cases z
   | cons d ds ihd=>
    intro es xs pd pe h g;simp only[DenL]at h;obtain⟨v,r,z,h1,h2⟩:=h;subst z;cases es with
    | nil=>simp only[DenL]at g;cases g
    | cons e es=>
     simp only[DenL]at g;obtain⟨v',r',z,g1,g2⟩:=g;cases z;rw[List.all_cons,Bool.and_eq_true]at pd pe;rw[ih d e v pd.1 pe.1 h1.root g1.root,ihd es r pd.2 pe.2 h2 g2]
  intro d e x pd pe h g;cases d with
  | tup ds=>
   simp only[plain]at pd;simp only[Root,Den]at h;obtain⟨a,xs,rfl,h1,h2⟩:=h;cases e with
   | tup es=>
    simp only[plain]at pe;simp only[Root,Den]at g;obtain⟨b,ys,z,g1,g2⟩:=g;cases z;have e1:=I.ziA (SqT.of h1) (SqT.of g1);subst e1;rw[all ds es xs pd pe h2 g2]
   | lst es=>
    obtain⟨b,ys,z,g1,g2⟩:=zai g;cases z;exact(zfL I g1 (SqT.of h1)).elim
   | non=>simp only[Root,Den]at g;cases g
   | int i=>simp only[Root,Den]at g;cases g
   | str i=>simp only[Root,Den]at g;cases g
   | bl _=>simp only[plain]at pe;exact absurd pe (by decide)
   | ty _=>simp only[plain]at pe;exact absurd pe (by decide)
   | dK _ _=>simp only[plain]at pe;exact absurd pe (by decide)
   | dT _ _=>simp only[plain]at pe;exact absurd pe (by decide)
  | lst ds=>
   simp only[plain]at pd;obtain⟨a,xs,rfl,h1,h2⟩:=zai h;cases e with
   | lst es=>
    simp only[plain]at pe;obtain⟨b,ys,z,g1,g2⟩:=zai g;cases z;have e1:=I.zhb h1 g1;subst e1;rw[all ds es xs pd pe h2 g2]
   | tup es=>
    simp only[Root,Den]at g;obtain⟨b,ys,z,g1,g2⟩:=g;cases z;exact(zfL I h1 (SqT.of g1)).elim
   | non=>simp only[Root,Den]at g;cases g
   | int i=>simp only[Root,Den]at g;cases g
   | str i=>simp only[Root,Den]at g;cases g
   | bl _=>simp only[plain]at pe;exact absurd pe (by decide)
   | ty _=>simp only[plain]at pe;exact absurd pe (by decide)
   | dK _ _=>simp only[plain]at pe;exact absurd pe (by decide)
   | dT _ _=>simp only[plain]at pe;exact absurd pe (by decide)
  | bl _=>simp only[plain]at pd;exact absurd pd (by decide)
  | ty _=>simp only[plain]at pd;exact absurd pd (by decide)
  | dK _ _=>simp only[plain]at pd;exact absurd pd (by decide)
  | dT _ _=>simp only[plain]at pd;exact absurd pd (by decide)
  | non=>
   have h':=zbk h;subst h';cases e with
   | non=>rfl
   | int i=>exact nomatch zaG g
   | str i=>exact nomatch zaq g
   | tup ds=>obtain⟨_,_,z,_⟩:=zaO g;exact nomatch z
   | lst ds=>obtain⟨_,_,z,_⟩:=zai g;exact nomatch z
   | _=>simp only[plain]at pe;exact absurd pe (by decide)
  | int i=>
   have h':=zaG h;subst h';cases e with
   | non=>exact nomatch zbk g
   | int j=>have:=zaG g;injection this with this;rw[this]
   | str i=>exact nomatch zaq g
   | tup ds=>obtain⟨_,_,z,_⟩:=zaO g;exact nomatch z
   | lst ds=>obtain⟨_,_,z,_⟩:=zai g;exact nomatch z
   | _=>simp only[plain]at pe;exact absurd pe (by decide)
  | str i=>
   have h':=zaq h;subst h';cases e with
   | non=>exact nomatch zbk g
   | int j=>exact nomatch zaG g
   | str j=>have:=zaq g;injection this with this;rw[this]
   | tup ds=>obtain⟨_,_,z,_⟩:=zaO g;exact nomatch z
   | lst ds=>obtain⟨_,_,z,_⟩:=zai g;exact nomatch z
   | _=>simp only[plain]at pe;exact absurd pe (by decide)
theorem zji {ds es:List PV}{n:Nat}(hn:n=min ds.length es.length):((List.range n).all λj=>decide (ds[j]? = es[j]?))=true↔∀j,j<ds.length->j<es.length->ds[j]? = es[j]?:=by
 rw[List.all_eq_true];constructor
 ·intro h j h1 h2;exact of_decide_eq_true (h j (List.mem_range.mpr (by lia)))
 ·intro h j hj;have:=List.mem_range.mp hj;exact decide_eq_true (h j (by lia) (by lia))
theorem zfM {ds es:List PV}(hl:ds.length=es.length):(∀j,j<ds.length->j<es.length->ds[j]? = es[j]?)↔ds=es:=by
 constructor
 ·intro h;apply List.ext_getElem?;intro j;by_cases hj:j<ds.length
  ·exact h j hj (by lia)
  ·rw[List.getElem?_eq_none (by lia),List.getElem?_eq_none (by lia)]
 ·rintro rfl _ _ _;rfl
theorem zdM (ds es:List PV):((List.range (min ds.length es.length)).all (λj=>decide (ds[j]? = es[j]?))&&ds.length == es.length)=decide (ds=es):=by
 by_cases hlen:ds.length=es.length
 ·have hb':(ds.length == es.length)=true:=by simp;lia
  rw[hb',Bool.and_true];by_cases h:ds=es
  ·rw[(zji rfl).mpr ((zfM hlen).mpr h),decide_eq_true h]
  ·rw[decide_eq_false h];cases hq:(List.range (min ds.length es.length)).all (λj=>decide (ds[j]? = es[j]?))with
   | false=>rfl
   | true=>exact absurd ((zfM hlen).mp ((zji rfl).mp hq)) h
 ·have hb':(ds.length == es.length)=false:=by rw[beq_eq_false_iff_ne];exact hlen
  rw[hb',Bool.and_false,decide_eq_false (λz=>hlen (by rw[z]))]
theorem zgG {ds es:List PV}(hlen:ds.length=es.length):((List.range ds.length).all (λj=>decide (ds[j]? = es[j]?)))=decide (ds=es):=by
 have q:=zdM ds es;rw[hlen,Nat.min_self]at q;rw[hlen];simpa using q
theorem zkx {i j:Int}:decide (PV.int i=PV.int j)=(i == j):=by
 rw[Bool.eq_iff_iff];simp
theorem zky {i j:Str}:decide (PV.str i=PV.str j)=(i == j):=by
 rw[Bool.eq_iff_iff];simp
theorem zkz {i j:List PV}:decide (PV.tup i=PV.tup j)=decide (i=j):=by
 rw[Bool.eq_iff_iff];simp
theorem zkA {i j:List PV}:decide (PV.lst i=PV.lst j)=decide (i=j):=by
 rw[Bool.eq_iff_iff];simp
theorem zhr {A:Around}{n:Nat}{ds es:List PV}{xs ys:List V}{its its2:List Value}(I:Inv X pins σ H s)(r1:Vals xs its)(r2:Vals ys its2)(h1:DenL X.K Fz H ds xs)(h2:DenL X.K Fz' H es ys)(pd:ds.all (plain n)=true)(pe:es.all (plain n)=true)
  (ih:∀(d e:PV) (x y:V) (u v:Value),plain n d=true->plain n e=true->Den X.K Fz H d x->Den X.K Fz' H e y->RelV x u->RelV y v->SeqAt.EqAt A s u v (decide (d=e))) :
  ∀j (h1:j<its.toArray.size) (h2:j<its2.toArray.size),SeqAt.EqAt A s its.toArray[j] its2.toArray[j] (decide (ds[j]? = es[j]?)):=λj h1' h2'=>by
 have l1:=r1.length;have l2:=r2.length;have l3:=h1.length;have l4:=h2.length;rw[List.size_toArray]at h1' h2';have e1:ds[j]? = some ds[j]:=List.getElem?_eq_getElem (by lia);have e2:es[j]? = some es[j]:=List.getElem?_eq_getElem (by lia);obtain⟨x,e3,q3⟩:=h1.get e1;obtain⟨y,e4,q4⟩:=h2.get e2;obtain⟨u1,q1,r1'⟩:=r1.get e3;obtain⟨u2,q2,r2'⟩:=r2.get e4;have f1:its.toArray[j]=u1:=by
  have:its[j]? = some its[j]:=List.getElem?_eq_getElem h1';rw[q1]at this;simpa using (Option.some.inj this).symm
 have f2:its2.toArray[j]=u2:=by
  have:its2[j]? = some its2[j]:=List.getElem?_eq_getElem h2';rw[q2]at this;simpa using (Option.some.inj this).symm
 rw[f1,f2];have w:decide (ds[j]=es[j])=decide (ds[j]? = es[j]?):=by
  rw[e1,e2];by_cases h:ds[j]=es[j]
  ·rw[decide_eq_true h,decide_eq_true (by rw[h])]
  ·rw[decide_eq_false h,decide_eq_false (λz=>h (Option.some.inj z))]
 rw[<- w];exact ih _ _ _ _ _ _ (List.all_eq_true.mp pd _ (List.getElem_mem _)) (List.all_eq_true.mp pe _ (List.getElem_mem _)) q3 q4 r1' r2'
inductive Leaf:PV->Value->Prop
 | non:Leaf .non .none
 | int (i:Int) (t:Tok):Leaf (.int i) (.int i t)
 | str (i:Str) (t:Tok):Leaf (.str i) (.str i t)
theorem zjj {K:PySem.W.Frag}{Fz:FZ}{H:Hp}{d:PV}{x:V}{u:Value}(hp:plain 0 d=true)(hx:Root K Fz H d x)(rx:RelV x u):Leaf d u:=by
 cases d with
 | non=>rw[zbk hx]at rx;cases rx;exact .non
 | int i=>rw[zaG hx]at rx;obtain⟨t,rfl⟩:=rx;exact .int i t
 | str i=>rw[zaq hx]at rx;obtain⟨t,rfl⟩:=rx;exact .str i t
 | _=>simp only[plain]at hp;exact absurd hp (by decide)
theorem zmk {A:Around}{s:Shared}{d e:PV}{u v:Value}(h1:Leaf d u)(h2:Leaf e v):SeqAt.RcAt A s u v (decide (d=e))/\SeqAt.RcNeAt A s u v (!decide (d=e))/\SeqAt.EqAt A s u v (decide (d=e)):=by
 have no:∀ {d e:PV} {u v:Value},d≠e->SeqAt.RcAt A s u v false->SeqAt.RcNeAt A s u v true->SeqAt.EqAt A s u v false->SeqAt.RcAt A s u v (decide (d=e))/\SeqAt.RcNeAt A s u v (!decide (d=e))/\SeqAt.EqAt A s u v (decide (d=e)):=λh a b c=>by rw[decide_eq_false h];exact⟨a,b,c⟩
 cases h1<;>cases h2
 ·rw[decide_eq_true rfl];exact⟨SeqAt.RcAt.none_none,SeqAt.RcNeAt.none_none,SeqAt.EqAt.same _⟩
 ·exact no (λz=>nomatch z) (SeqAt.RcAt.none_int _ _) (SeqAt.RcNeAt.none_int _ _) (SeqAt.EqAt.none_int _ _)
 ·exact no (λz=>nomatch z) (SeqAt.RcAt.none_str _ _) (SeqAt.RcNeAt.none_str _ _) (SeqAt.EqAt.none_str _ _)
 ·exact no (λz=>nomatch z) (SeqAt.RcAt.int_none _ _) (SeqAt.RcNeAt.int_none _ _) (SeqAt.EqAt.int_none _ _)
 ·rw[zkx];exact⟨SeqAt.RcAt.int_int _ _ _ _,SeqAt.RcNeAt.int_int _ _ _ _,SeqAt.EqAt.int_int _ _ _ _⟩
 ·exact no (λz=>nomatch z) (SeqAt.RcAt.int_str _ _ _ _) (SeqAt.RcNeAt.int_str _ _ _ _) (SeqAt.EqAt.int_str _ _ _ _)
 ·exact no (λz=>nomatch z) (SeqAt.RcAt.str_none _ _) (SeqAt.RcNeAt.str_none _ _) (SeqAt.EqAt.str_none _ _)
 ·exact no (λz=>nomatch z) (SeqAt.RcAt.str_int _ _ _ _) (SeqAt.RcNeAt.str_int _ _ _ _) (SeqAt.EqAt.str_int _ _ _ _)
 ·rw[zky];exact⟨SeqAt.RcAt.str_str _ _ _ _,SeqAt.RcNeAt.str_str _ _ _ _,SeqAt.EqAt.str_str _ _ _ _⟩
theorem znJ (I:Inv X pins σ H s):∀(n:Nat)(A:Around)(d e:PV)(x y:V)(u v:Value),plain n d=true->plain n e=true->A.units+n<cLine->Root X.K Fz H d x->Root X.K Fz' H e y->RelV x u->RelV y v->
  SeqAt.RcAt A s u v (decide (d=e))/\SeqAt.RcNeAt A s u v (!decide (d=e))/\SeqAt.EqAt A s u v (decide (d=e)):=by
 intro n;induction n with
 | zero=>exact λA d e x y u v pd pe hu hx hy rx ry=>zmk (zjj pd hx rx) (zjj pe hy ry)
 | succ n ih=>
  intro A d e x y u v pd pe hu hx hy rx ry;have hA:A.units<cLine:=by lia
  have iha:∀(d e:PV) (x y:V) (u v:Value),plain n d=true->plain n e=true->Den X.K Fz H d x->Den X.K Fz' H e y->RelV x u->RelV y v->SeqAt.EqAt A.in1 s u v (decide (d=e)):=
   λd e x y u v pd pe h1 h2 r1 r2=>(ih A.in1 d e x y u v pd pe (by show A.units+1+n<cLine;lia) h1.root h2.root r1 r2).2.2
  have lower:∀c:PV,(∀ds,c≠.tup ds)->(∀ds,c≠.lst ds)->plain (n+1) c=true->plain n c=true:=λc h1 h2 hc=>by
   cases c with
   | tup ds=>exact absurd rfl (h1 ds)
   | lst ds=>exact absurd rfl (h2 ds)
   | non=>cases n<;>rfl
   | int i=>cases n<;>rfl
   | str i=>cases n<;>rfl
   | bl _=>simp only[plain]at hc;exact absurd hc (by decide)
   | ty _=>simp only[plain]at hc;exact absurd hc (by decide)
   | dK _ _=>simp only[plain]at hc;exact absurd hc (by decide)
   | dT _ _=>simp only[plain]at hc;exact absurd hc (by decide)
  have hA':A.units+n<cLine:=by lia
  cases d with
  | tup ds=>
   have hx':=hx;simp only[Root,Den]at hx;obtain⟨a,xs,rfl,ha,h1⟩:=hx;cases rx;obtain⟨its,r1,p1,z1⟩:=I.tuple (SqT.of ha);have p1':s.heap.IsTuple a its.toArray:=p1;cases e with
   | tup es=>
    have hy':=hy;simp only[Root,Den]at hy;obtain⟨b,ys,rfl,hb,h2⟩:=hy;cases ry;obtain⟨its2,r2,p2,z2⟩:=I.tuple (SqT.of hb);have p2':s.heap.IsTuple b its2.toArray:=p2;have he:=zhr I r1 r2 h1 h2 (by simpa only[plain]using pd) (by simpa only[plain]using pe) iha;have w:((List.range (min its.toArray.size its2.toArray.size)).all (λj=>decide (ds[j]? = es[j]?))&&its.toArray.size == its2.toArray.size)=decide (PV.tup ds=PV.tup es):=by
     rw[List.size_toArray,List.size_toArray,<- r1.length,<- r2.length,<- h1.length,<- h2.length,zdM,zkz]
    have q:=SeqAt.RcAt.tuples p1' p2' hA he;have q':=SeqAt.RcNeAt.tuples p1' p2' hA he;rw[w]at q q';refine⟨q,q',?_⟩;by_cases hab:a=b
    ·subst hab;rw[zhq I (n+1) _ _ _ pd pe hx' hy',decide_eq_true rfl];exact SeqAt.EqAt.same _
    ·exact SeqAt.EqAt.of_refs hab q
   | lst es=>
    obtain⟨b,ys,rfl,hb,h2⟩:=zai hy;cases ry;obtain⟨its2,r2,p2,z2⟩:=I.list hb;exact⟨df (λz=>nomatch z) (SeqAt.RcAt.tuple_list p1' p2.isList hA),dn (λz=>nomatch z) (SeqAt.RcNeAt.tuple_list p1' p2.isList hA),df (λz=>nomatch z) (SeqAt.EqAt.tuple_list p1' p2.isList hA)⟩
   | non=>simp only[Root,Den]at hy;subst hy;cases ry;exact⟨df (λz=>nomatch z) (SeqAt.RcAt.tuple_none p1' hA),dn (λz=>nomatch z) (SeqAt.RcNeAt.tuple_none p1' hA),df (λz=>nomatch z) (SeqAt.EqAt.tuple_none p1' hA)⟩
   | int i=>simp only[Root,Den]at hy;subst hy;obtain⟨t,rfl⟩:=ry;exact⟨df (λz=>nomatch z) (SeqAt.RcAt.tuple_int i t p1' hA),dn (λz=>nomatch z) (SeqAt.RcNeAt.tuple_int i t p1' hA),df (λz=>nomatch z) (SeqAt.EqAt.tuple_int i t p1' hA)⟩
   | str i=>simp only[Root,Den]at hy;subst hy;obtain⟨t,rfl⟩:=ry;exact⟨df (λz=>nomatch z) (SeqAt.RcAt.tuple_str i t p1' hA),dn (λz=>nomatch z) (SeqAt.RcNeAt.tuple_str i t p1' hA),df (λz=>nomatch z) (SeqAt.EqAt.tuple_str i t p1' hA)⟩
   | bl _=>simp only[plain]at pe;exact absurd pe (by decide)
   | ty _=>simp only[plain]at pe;exact absurd pe (by decide)
   | dK _ _=>simp only[plain]at pe;exact absurd pe (by decide)
   | dT _ _=>simp only[plain]at pe;exact absurd pe (by decide)
  | lst ds=>
   have hx':=hx;obtain⟨a,xs,rfl,ha,h1⟩:=zai hx;cases rx;obtain⟨its,r1,p1,z1⟩:=I.list ha;have p1':=p1.isList;cases e with
   | lst es=>
    have hy':=hy;obtain⟨b,ys,rfl,hb,h2⟩:=zai hy;cases ry;obtain⟨its2,r2,p2,z2⟩:=I.list hb;have he:=zhr I r1 r2 h1 h2 (by simpa only[plain]using pd) (by simpa only[plain]using pe) iha;have l1:=r1.length;have l2:=r2.length;have l3:=h1.length;have l4:=h2.length;have key:SeqAt.RcAt A s (.ref a) (.ref b) (decide (PV.lst ds=PV.lst es))/\SeqAt.RcNeAt A s (.ref a) (.ref b) (!decide (PV.lst ds=PV.lst es)):=by
     by_cases hlen:ds.length=es.length
     ·have w:(List.range its.toArray.size).all (λj=>decide (ds[j]? = es[j]?))=decide (PV.lst ds=PV.lst es):=by
       rw[List.size_toArray,<- l1,<- l3,zgG hlen,zkA]
      have q:=SeqAt.RcAt.lists p1' p2.isList (by rw[List.size_toArray,List.size_toArray];lia) hA he;have q':=SeqAt.RcNeAt.lists p1' p2.isList (by rw[List.size_toArray,List.size_toArray];lia) hA he;rw[w]at q q';exact⟨q,q'⟩
     ·have hne:(its.toArray.size != its2.toArray.size)=true:=by rw[List.size_toArray,List.size_toArray];simp;lia
      rw[decide_eq_false (λz=>hlen (by rw[PV.lst.inj z]))];exact⟨SeqAt.RcAt.lists_lengths p1' p2.isList hne hA,SeqAt.RcNeAt.lists_lengths p1' p2.isList hne hA⟩
    refine⟨key.1,key.2,?_⟩;by_cases hab:a=b
    ·subst hab;rw[zhq I (n+1) _ _ _ pd pe hx' hy',decide_eq_true rfl];exact SeqAt.EqAt.same _
    ·exact SeqAt.EqAt.of_refs hab key.1
   | tup es=>
    simp only[Root,Den]at hy;obtain⟨b,ys,rfl,hb,h2⟩:=hy;cases ry;obtain⟨its2,r2,p2,z2⟩:=I.tuple (SqT.of hb);have p2':s.heap.IsTuple b its2.toArray:=p2;exact⟨df (λz=>nomatch z) (SeqAt.RcAt.list_tuple p1' p2' hA),dn (λz=>nomatch z) (SeqAt.RcNeAt.list_tuple p1' p2' hA),df (λz=>nomatch z) (SeqAt.EqAt.list_tuple p1' p2' hA)⟩
   | non=>simp only[Root,Den]at hy;subst hy;cases ry;exact⟨df (λz=>nomatch z) (SeqAt.RcAt.list_none p1' hA),dn (λz=>nomatch z) (SeqAt.RcNeAt.list_none p1' hA),df (λz=>nomatch z) (SeqAt.EqAt.list_none p1' hA)⟩
   | int i=>simp only[Root,Den]at hy;subst hy;obtain⟨t,rfl⟩:=ry;exact⟨df (λz=>nomatch z) (SeqAt.RcAt.list_int i t p1' hA),dn (λz=>nomatch z) (SeqAt.RcNeAt.list_int i t p1' hA),df (λz=>nomatch z) (SeqAt.EqAt.list_int i t p1' hA)⟩
   | str i=>simp only[Root,Den]at hy;subst hy;obtain⟨t,rfl⟩:=ry;exact⟨df (λz=>nomatch z) (SeqAt.RcAt.list_str i t p1' hA),dn (λz=>nomatch z) (SeqAt.RcNeAt.list_str i t p1' hA),df (λz=>nomatch z) (SeqAt.EqAt.list_str i t p1' hA)⟩
   | bl _=>simp only[plain]at pe;exact absurd pe (by decide)
   | ty _=>simp only[plain]at pe;exact absurd pe (by decide)
   | dK _ _=>simp only[plain]at pe;exact absurd pe (by decide)
   | dT _ _=>simp only[plain]at pe;exact absurd pe (by decide)
  | bl _=>simp only[plain]at pd;exact absurd pd (by decide)
  | ty _=>simp only[plain]at pd;exact absurd pd (by decide)
  | dK _ _=>simp only[plain]at pd;exact absurd pd (by decide)
  | dT _ _=>simp only[plain]at pd;exact absurd pd (by decide)
  | non=>
   cases e with
   | tup es=>
    simp only[Root,Den]at hx hy;subst hx;cases rx;obtain⟨b,ys,rfl,hb,h2⟩:=hy;cases ry;obtain⟨its2,r2,p2,z2⟩:=I.tuple (SqT.of hb);have p2':s.heap.IsTuple b its2.toArray:=p2;exact⟨df (λz=>nomatch z) (SeqAt.RcAt.none_tuple p2' hA),dn (λz=>nomatch z) (SeqAt.RcNeAt.none_tuple p2' hA),df (λz=>nomatch z) (SeqAt.EqAt.none_tuple p2' hA)⟩
   | lst es=>
    simp only[Root,Den]at hx;subst hx;cases rx;obtain⟨b,ys,rfl,hb,h2⟩:=zai hy;cases ry;obtain⟨its2,r2,p2,z2⟩:=I.list hb;exact⟨df (λz=>nomatch z) (SeqAt.RcAt.none_list p2.isList hA),dn (λz=>nomatch z) (SeqAt.RcNeAt.none_list p2.isList hA),df (λz=>nomatch z) (SeqAt.EqAt.none_list p2.isList hA)⟩
   | _=>exact ih A _ _ x y u v (lower _ (λ_ z=>nomatch z) (λ_ z=>nomatch z) pd) (lower _ (λ_ z=>nomatch z) (λ_ z=>nomatch z) pe) hA' hx hy rx ry
  | int i=>
   cases e with
   | tup es=>
    simp only[Root,Den]at hx hy;subst hx;obtain⟨t,rfl⟩:=rx;obtain⟨b,ys,rfl,hb,h2⟩:=hy;cases ry;obtain⟨its2,r2,p2,z2⟩:=I.tuple (SqT.of hb);have p2':s.heap.IsTuple b its2.toArray:=p2;exact⟨df (λz=>nomatch z) (SeqAt.RcAt.int_tuple i t p2' hA),dn (λz=>nomatch z) (SeqAt.RcNeAt.int_tuple i t p2' hA),df (λz=>nomatch z) (SeqAt.EqAt.int_tuple i t p2' hA)⟩
   | lst es=>
    simp only[Root,Den]at hx;subst hx;obtain⟨t,rfl⟩:=rx;obtain⟨b,ys,rfl,hb,h2⟩:=zai hy;cases ry;obtain⟨its2,r2,p2,z2⟩:=I.list hb;exact⟨df (λz=>nomatch z) (SeqAt.RcAt.int_list i t p2.isList hA),dn (λz=>nomatch z) (SeqAt.RcNeAt.int_list i t p2.isList hA),df (λz=>nomatch z) (SeqAt.EqAt.int_list i t p2.isList hA)⟩
   | _=>exact ih A _ _ x y u v (lower _ (λ_ z=>nomatch z) (λ_ z=>nomatch z) pd) (lower _ (λ_ z=>nomatch z) (λ_ z=>nomatch z) pe) hA' hx hy rx ry
  | str i=>
   cases e with
   | tup es=>
    simp only[Root,Den]at hx hy;subst hx;obtain⟨t,rfl⟩:=rx;obtain⟨b,ys,rfl,hb,h2⟩:=hy;cases ry;obtain⟨its2,r2,p2,z2⟩:=I.tuple (SqT.of hb);have p2':s.heap.IsTuple b its2.toArray:=p2;exact⟨df (λz=>nomatch z) (SeqAt.RcAt.str_tuple i t p2' hA),dn (λz=>nomatch z) (SeqAt.RcNeAt.str_tuple i t p2' hA),df (λz=>nomatch z) (SeqAt.EqAt.str_tuple i t p2' hA)⟩
   | lst es=>
    simp only[Root,Den]at hx;subst hx;obtain⟨t,rfl⟩:=rx;obtain⟨b,ys,rfl,hb,h2⟩:=zai hy;cases ry;obtain⟨its2,r2,p2,z2⟩:=I.list hb;exact⟨df (λz=>nomatch z) (SeqAt.RcAt.str_list i t p2.isList hA),dn (λz=>nomatch z) (SeqAt.RcNeAt.str_list i t p2.isList hA),df (λz=>nomatch z) (SeqAt.EqAt.str_list i t p2.isList hA)⟩
   | _=>exact ih A _ _ x y u v (lower _ (λ_ z=>nomatch z) (λ_ z=>nomatch z) pd) (lower _ (λ_ z=>nomatch z) (λ_ z=>nomatch z) pe) hA' hx hy rx ry
end
noncomputable def rEqP (K:PySem.W.Frag)(neg:Bool):R2:=λx y H Q=>∃Fz d e,Root K Fz H d x/\Root K Fz H e y/\plain 6 d=true/\plain 6 e=true/\Q (.bl (if neg then !decide (d=e) else decide (d=e))) H
noncomputable def pEq (neg:Bool):P2:=λd e Q=>plain 6 d=true/\plain 6 e=true/\Q (.bl (if neg then !decide (d=e) else decide (d=e))) .frz
section
variable {X:Cx}
theorem zly (hu:X.A.units+16<cLine):OpR X (compareOp .Eq) (rEqP X.K false):=by
 intro pins s σ H x y v u Q I rx ry h;obtain⟨Fz,d,e,hx,hy,pd,pe,q⟩:=h;exact(znJ I 6 X.A d e x y v u pd pe (by lia) hx hy rx ry).1 X.prog X.w X.xe _ ⟨.bl _,H,I,rfl,q⟩
theorem znK (hu:X.A.units+16<cLine):OpR X (compareOp .NotEq) (rEqP X.K true):=by
 intro pins s σ H x y v u Q I rx ry h;obtain⟨Fz,d,e,hx,hy,pd,pe,q⟩:=h;exact(znJ I 6 X.A d e x y v u pd pe (by lia) hx hy rx ry).2.1 X.prog X.w X.xe _ ⟨.bl _,H,I,rfl,q⟩
theorem zjk {K:PySem.W.Frag}{neg:Bool}:POp K (rEqP K neg) (pEq neg) where
 mono d e Q Q' m h:=⟨h.1,h.2.1,m _ _ h.2.2⟩
 run Fz H x y d e Q al rx ry h:=⟨Fz,d,e,rx,ry,h.1,h.2.1,h.2.2 _ Fz H (.val al (by simp only[Den]))⟩
end
section
variable {X:Cx}{a b c:Expr}{ta tb:TPE}{tA tB':TPT}{pos:Pos}{rest:List Expr}
structure PuW (X:Cx)(e:Expr)(t:TPT):Prop where
 mono:∀ρ Q Q',(∀b,Q b->Q' b)->t ρ Q->t ρ Q'
 run:PW X e (liftT X.K t)
theorem PuW.t {e:Expr}{t:TPT}(h:PuW X e t):PuT X e t:=⟨h.mono,h.run.pt⟩
noncomputable def zds (t u:TPT):TPT:=λρ Q=>t ρ λc=>if c=true then u ρ Q else Q false
noncomputable def tOrP (t u:TPT):TPT:=λρ Q=>t ρ λc=>if c=true then Q true else u ρ Q
noncomputable def zel (t:TPT):TPT:=λρ Q=>t ρ λc=>Q (!c)
theorem PW.weak {e:Expr}{t t':TT}(h:PW X e t)(w:∀σ H Q,t' σ H Q->t σ H Q):PW X e t':=λwhole pins s σ H Q I q=>h whole pins s σ H Q I (w σ H Q q)
theorem zkB (ha:PuT X a tA):PuW X (.BoolOp .And [a] pos) tA:=⟨ha.mono,zlN ha.run⟩
theorem zbD (ha:PuT X a tA):PuW X (.BoolOp .Or [a] pos) tA:=⟨ha.mono,znb ha.run⟩
theorem and_mono (m1:∀ρ (Q Q':Bool->Prop),(∀b,Q b->Q' b)->tA ρ Q->tA ρ Q')(m2:∀ρ (Q Q':Bool->Prop),(∀b,Q b->Q' b)->tB' ρ Q->tB' ρ Q') :
  ∀ρ (Q Q':Bool->Prop),(∀b,Q b->Q' b)->zds tA tB' ρ Q->zds tA tB' ρ Q':=λρ Q Q' m h=>m1 ρ _ _ (λc q=>by
 cases c with
 | true=>rw[if_pos rfl]at q ⊢;exact m2 ρ _ _ m q
 | false=>rw[if_neg Bool.false_ne_true]at q ⊢;exact m _ q) h
theorem or_mono (m1:∀ρ (Q Q':Bool->Prop),(∀b,Q b->Q' b)->tA ρ Q->tA ρ Q')(m2:∀ρ (Q Q':Bool->Prop),(∀b,Q b->Q' b)->tB' ρ Q->tB' ρ Q') :
  ∀ρ (Q Q':Bool->Prop),(∀b,Q b->Q' b)->tOrP tA tB' ρ Q->tOrP tA tB' ρ Q':=λρ Q Q' m h=>m1 ρ _ _ (λc q=>by
 cases c with
 | false=>rw[if_neg Bool.false_ne_true]at q ⊢;exact m2 ρ _ _ m q
 | true=>rw[if_pos rfl]at q ⊢;exact m _ q) h
theorem zml (ha:PuT X a tA)(hb:PuW X (.BoolOp .And (b::rest) pos) tB'):PuW X (.BoolOp .And (a::b::rest) pos) (zds tA tB') where
 mono:=and_mono ha.mono hb.mono
 run:=PW.weak (znc ha.run hb.run) λσ H Q h=>by
  obtain⟨ρ,Fz,R,h⟩:=h;refine⟨ρ,Fz,R,ha.mono ρ _ _ (λc q Fz' H' x=>?_) h⟩;cases c with
  | true=>
   rw[if_pos rfl]at q ⊢;exact⟨ρ,Fz',R.ext x,hb.mono ρ _ _ (λb q Fz2 H2 x2=>q Fz2 H2 (x.trans x2)) q⟩
  | false=>rw[if_neg Bool.false_ne_true]at q ⊢;exact q Fz' H' x
theorem zby (ha:PuT X a tA)(hb:PuW X (.BoolOp .Or (b::rest) pos) tB'):PuW X (.BoolOp .Or (a::b::rest) pos) (tOrP tA tB') where
 mono:=or_mono ha.mono hb.mono
 run:=PW.weak (zox ha.run hb.run) λσ H Q h=>by
  obtain⟨ρ,Fz,R,h⟩:=h;refine⟨ρ,Fz,R,ha.mono ρ _ _ (λc q Fz' H' x=>?_) h⟩;cases c with
  | false=>
   rw[if_neg Bool.false_ne_true]at q ⊢;exact⟨ρ,Fz',R.ext x,hb.mono ρ _ _ (λb q Fz2 H2 x2=>q Fz2 H2 (x.trans x2)) q⟩
  | true=>rw[if_pos rfl]at q ⊢;exact q Fz' H' x
theorem zaZ (ha:PuT X a tA):PuT X (.UnaryOp .Not a pos) (zel tA) where
 mono ρ Q Q' m h:=ha.mono ρ _ _ (λc q=>m _ q) h
 run:=PT.weak (znd ha.run) λσ H Q h=>h
noncomputable def TruP:PV->Bool->Prop
 | .non,k=>k=false
 | .bl b,k=>k=b
 | .int i,k=>k=(i != 0)
 | .str y,k=>y.length<=sizeLine/\k=((y.length:Int) != 0)
 | .tup ds,k=>k = !ds.isEmpty
 | .lst ds,k=>k = !ds.isEmpty
 | _,_=>False
noncomputable def tTru (te:TPE):TPT:=λρ Q=>te ρ λd _=>∃k,TruP d k/\Q k
theorem TruP.v {K:PySem.W.Frag}{Fz:FZ}{H:Hp}{d:PV}{x:V}{k:Bool}(r:Root K Fz H d x)(t:TruP d k):TruV K x H k:=by
 cases d with
 | non=>cases zbk r;exact t
 | bl b=>cases zfb r;exact t
 | int i=>cases zaG r;exact t
 | str y=>cases zaq r;exact t
 | tup ds=>
  obtain⟨a,xs,rfl,h1,h2⟩:=zaO r;refine .inr (.inl ⟨xs,h1,?_⟩);have hl:=h2.length;have t':k = !ds.isEmpty:=t;rw[t'];cases ds<;>cases xs<;>simp_all
 | lst ds=>
  obtain⟨a,xs,rfl,h1,h2⟩:=zai r;refine .inl ⟨xs,h1,?_⟩;have hl:=h2.length;have t':k = !ds.isEmpty:=t;rw[t'];cases ds<;>cases xs<;>simp_all
 | ty _=>exact t.elim
 | dK _ _=>exact t.elim
 | dT _ _=>exact t.elim
theorem zbu (ha:PuE X a ta)(he:autoParam (∀whole,isTrue a X.env whole=(do let v <- whole;standAt a.pos;holding [v] (truthy v))) aU3):PuT X a (tTru ta) where
 mono ρ Q Q' m h:=ha.mono ρ _ _ (λd k q52q=>by obtain⟨b,e,q⟩:=q52q;exact⟨b,e,m b q⟩) h
 run:=PT.weak (zkk ha.run he) λσ H Q h=>by
  obtain⟨ρ,Fz,R,h⟩:=h;exact⟨ρ,Fz,R,ha.mono ρ _ _ (λd k q53q v Fz' H' p=>by obtain⟨b,e,q⟩:=q53q;exact⟨b,TruP.v (p.root R) e,q Fz' H' p.ext⟩) h⟩
end
noncomputable abbrev OpdL (K:PySem.W.Frag)(Fz':FZ)(H':Hp)(ρ:PEnv)(σ:St)(H:Hp):List (PV×Kd)->List V->Prop:=Paired λp v=>Opd K Fz' H' ρ σ H p.1 p.2 v
noncomputable def zmm (K:PySem.W.Frag)(t:TPA):TA:=λσ H Q=>∃ρ Fz,Rel K Fz ρ σ H/\t ρ λops=>∀vs Fz' H',Ext Fz H Fz' H'->OpdL K Fz' H' ρ σ H ops vs->Q vs H'
structure PuA (X:Cx)(es:List Expr)(t:TPA):Prop where
 mono:∀ρ Q Q',(∀ops,Q ops->Q' ops)->t ρ Q->t ρ Q'
 run:PA X es (zmm X.K t)
theorem PA.weak {X:Cx}{es:List Expr}{t t':TA}(h:PA X es t)(w:∀σ H Q,t' σ H Q->t σ H Q):PA X es t':=λpos pins s σ H Q I q=>h pos pins s σ H Q I (w σ H Q q)
noncomputable def pNil:TPA:=λ_ Q=>Q []
noncomputable def zem (te:TPE)(t:TPA):TPA:=λρ Q=>te ρ λd k=>t ρ λops=>Q ((d,k)::ops)
theorem OpdL.back {K:PySem.W.Frag}{ρ:PEnv}{σ:St}{Fz2:FZ}{H H1 H2:Hp}(s:Same H H1):∀ {ops:List (PV×Kd)}{vs:List V},OpdL K Fz2 H2 ρ σ H1 ops vs->OpdL K Fz2 H2 ρ σ H ops vs
 | _,_,.nil=>.nil
 | _,_,.cons h t=>.cons (Opd.back s h) (OpdL.back s t)
section
variable {X:Cx}{e:Expr}{es:List Expr}{te:TPE}{t:TPA}{pos:Pos}
theorem zad:PuA X [] pNil where
 mono ρ Q Q' m h:=m _ h
 run:=PA.weak zbh λσ H Q h=>by
  obtain⟨ρ,Fz,R,h⟩:=h;exact h [] Fz H ⟨Same.refl H,λ_ h=>h,λ_ h=>.inl h,R.al⟩ .nil
theorem zaa (ha:PuE X e te)(hr:PuA X es t)(hs:autoParam (starEach (e::es) X.env=(false,eval e X.env)::starEach es X.env) aU0):PuA X (e::es) (zem te t) where
 mono ρ Q Q' m h:=ha.mono ρ _ _ (λd k h=>hr.mono ρ _ _ (λops h=>m _ h) h) h
 run:=PA.weak (zaw ha.run hr.run hs) λσ H Q h=>by
  obtain⟨ρ,Fz,R,h⟩:=h;refine⟨ρ,Fz,R,ha.mono ρ _ _ (λd k h v Fz1 H1 p=>?_) h⟩;refine⟨ρ,Fz1,R.ext p.ext,hr.mono ρ _ _ (λops h vs Fz2 H2 x o=>?_) h⟩;exact h (v::vs) Fz2 H2 (p.ext.trans x) (.cons (Opd.ext x p.opd) (OpdL.back p.ext.same o))
end
noncomputable def zkC (K:PySem.W.Frag)(Fz:FZ)(H:Hp):List PV->List V->Prop:=Paired (Root K Fz H)
theorem OpdL.root {K:PySem.W.Frag}{ρ:PEnv}{σ:St}{Fz Fz':FZ}{H H':Hp}(R:Rel K Fz ρ σ H)(x:Ext Fz H Fz' H'):∀ {ops:List (PV×Kd)}{vs:List V},OpdL K Fz' H' ρ σ H ops vs->zkC K Fz' H' (ops.map (·.1)) vs
 | _,_,.nil=>.nil
 | _,_,.cons h t=>.cons (Post.root R ⟨x,h⟩) (OpdL.root R x t)
noncomputable def noOwn:List (PV×Kd)->Bool
 | []=>true
 | (_,.own _)::_=>false
 | _::r=>noOwn r
theorem OpdL.frozen {K:PySem.W.Frag}{ρ:PEnv}{σ:St}{Fz Fz':FZ}{H H':Hp}(x:Ext Fz H Fz' H'):∀ {ops:List (PV×Kd)}{vs:List V},noOwn ops=true->OpdL K Fz' H' ρ σ H ops vs->
  ∃Fz2,Ext Fz H Fz2 H'/\(∀b,Fz' b->Fz2 b)/\DenL K Fz2 H' (ops.map (·.1)) vs
 | _,_,_,.nil=>⟨Fz',x,λ_ h=>h,DenL.nil⟩
 | (d,k)::ops,v::vs,hn,.cons h t=>by
  cases k with
  | own i=>exact absurd hn Bool.false_ne_true
  | frz=>
   obtain⟨F2,x2,s2,h2⟩:=OpdL.frozen x (ops:=ops) hn t;exact⟨F2,x2,s2,DenL.cons (Den.mono (Keep.of (Same.refl _)) s2 _ _ h) h2⟩
  | new=>
   obtain⟨F2,x2,s2,h2⟩:=OpdL.frozen x (ops:=ops) hn t;obtain⟨a,e,hn',_,o⟩:=h;subst e;refine⟨λb=>F2 b\/b=a,x2.add hn' (by obtain⟨o',e,_⟩:=o.at;rw[e];exact λz=>nomatch z),λb h=>.inl (s2 b h),DenL.cons ?_ (DenL.mono (Keep.of (Same.refl _)) (λb h=>.inl h) _ _ h2)⟩;exact(o.mono (Fz':=λb=>F2 b\/b=a) (Keep.of (Same.refl _)) (λb h=>.inl (s2 b h)) (λ_ h=>h)).den (.inr rfl)
noncomputable def pTup (t:TPA):TPE:=λρ Q=>t ρ λops=>noOwn ops=true/\ops.length<=sizeLine/\Q (.tup (ops.map (·.1))) .frz
noncomputable def pLst (t:TPA):TPE:=λρ Q=>t ρ λops=>noOwn ops=true/\ops.length<=sizeLine/\Q (.lst (ops.map (·.1))) .new
section
variable {X:Cx}{es:List Expr}{t:TPA}{pos:Pos}
theorem zfN {x1}(h:PuA X es t):PuE X (.Tuple es x1 pos) (pTup t) where
 mono ρ Q Q' m q:=h.mono ρ _ _ (λops q=>⟨q.1,q.2.1,m _ _ q.2.2⟩) q
 run:=PE.weak (zlu h.run) λσ H Q q=>by
  obtain⟨ρ,Fz,R,q⟩:=q;refine⟨ρ,Fz,R,h.mono ρ _ _ (λops q vs Fz' H' x o=>?_) q⟩;obtain⟨hn,hl,q⟩:=q;obtain⟨F2,x2,s2,h2⟩:=o.frozen x hn;have len:=h2.length;rw[List.length_map]at len;refine⟨by lia,λp hp=>q _ F2 _ ⟨x2.laid hp,?_⟩⟩;show Den _ _ _ _ _;simp only[Den];refine⟨p,vs,rfl,zam,DenL.mono (Keep.of (λb u e=>by rw[zap (zaC e hp)];exact e)) (λ_ h=>h) _ _ h2⟩
theorem zbi (h:PuA X es t):PuE X (.List es pos) (pLst t) where
 mono ρ Q Q' m q:=h.mono ρ _ _ (λops q=>⟨q.1,q.2.1,m _ _ q.2.2⟩) q
 run:=PE.weak (znq h.run) λσ H Q q=>by
  obtain⟨ρ,Fz,R,q⟩:=q;refine⟨ρ,Fz,R,h.mono ρ _ _ (λops q vs Fz' H' x o=>?_) q⟩;obtain⟨hn,hl,q⟩:=q;obtain⟨F2,x2,s2,h2⟩:=o.frozen x hn;have len:=h2.length;rw[List.length_map]at len;refine⟨by lia,λp hp=>q _ F2 _ ⟨x2.laid hp,p,rfl,x.same.free hp,λz=>x2.al p z hp,vs,zam,?_⟩⟩;exact DenL.mono (Keep.of (λb u e=>by rw[zap (zaC e hp)];exact e)) (λ_ h=>h) _ _ h2
end
mutual
noncomputable def zbH:PV->Bool
 | .tup ds=>zaK ds
 | .lst _=>false
 | .dK _ _=>false
 | .dT _ _=>false
 | _=>true
noncomputable def zaK:List PV->Bool
 | []=>true
 | d::ds=>zbH d&&zaK ds
end
section
variable {K:PySem.W.Frag}{Fz Fz':FZ}{H:Hp}
mutual
theorem zfO:∀(d:PV)(v:V),zbH d=true->Den K Fz H d v->Den K Fz' H d v
 | .non,v,_,h=>by simpa only[Den]using h
 | .bl b,v,_,h=>by simpa only[Den]using h
 | .int i,v,_,h=>by simpa only[Den]using h
 | .str x,v,_,h=>by simpa only[Den]using h
 | .ty n,v,_,h=>by simpa only[Den]using h
 | .tup ds,v,n,h=>by
  simp only[zbH]at n;simp only[Den]at h ⊢;obtain⟨a,xs,e,h1,h2⟩:=h;exact⟨a,xs,e,h1,zbI ds xs n h2⟩
 | .lst ds,v,n,h=>by simp only[zbH]at n;exact absurd n (by decide)
 | .dK ks ds,v,n,h=>by simp only[zbH]at n;exact absurd n (by decide)
 | .dT ks ds,v,n,h=>by simp only[zbH]at n;exact absurd n (by decide)
theorem zbI:∀(ds:List PV)(xs:List V),zaK ds=true->DenL K Fz H ds xs->DenL K Fz' H ds xs
 | [],xs,_,h=>by simpa only[DenL]using h
 | d::ds,xs,n,h=>by
  simp only[zaK,Bool.and_eq_true]at n;simp only[DenL]at h ⊢;obtain⟨v,r,e,h1,h2⟩:=h;exact⟨v,r,e,zfO d v n.1 h1,zbI ds r n.2 h2⟩
end
end
noncomputable def zbV:PV->Kd->Bool
 | .lst ds,.new=>zaK ds
 | .dK _ ds,.new=>zaK ds
 | .dT _ ds,.new=>zaK ds
 | d,_=>zbH d
theorem zid {K:PySem.W.Frag}{Fz Fz':FZ}{H H':Hp}{d:PV}{k:Kd}{v:V}(n:zbV d k=true)(hal:∀b,Fz' b->H b≠none)(h:Opd K Fz H' [] [] H d k v):Opd K Fz' H' [] [] H d k v:=by
 cases k with
 | frz=>
  have n':zbH d=true:=by cases d<;>exact n
  exact zfO d v n' h
 | own i=>exact h
 | new=>
  obtain⟨a,e,hn,_,o⟩:=h;refine⟨a,e,hn,λz=>hal a z hn,?_⟩;cases d with
  | lst ds=>obtain⟨xs,h1,h2⟩:=o;exact⟨xs,h1,zbI ds xs n h2⟩
  | dK ks ds=>obtain⟨xs,h1,h2,h3⟩:=o;exact⟨xs,h1,h2,zbI ds xs n h3⟩
  | dT ks ds=>obtain⟨xs,h1,h2,h3⟩:=o;exact⟨xs,h1,h2,zbI ds xs n h3⟩
  | non=>exact o.elim
  | bl b=>exact o.elim
  | int i=>exact o.elim
  | str x=>exact o.elim
  | ty n=>exact o.elim
  | tup ds=>exact o.elim
noncomputable abbrev PF:=List PV->(PV->Kd->Prop)->Prop
noncomputable def zbE (F:PF):Prop:=∀ds Q Q',(∀d k,Q d k->Q' d k)->F ds Q->F ds Q'
noncomputable def spP (K:PySem.W.Frag)(F:PF):Sp:=λvs H Q _=>∃Fz ds,(∀b,Fz b->H b≠none)/\DenL K Fz H ds vs/\F ds λd k=>∀v Fz' H',Post K [] [] Fz H Fz' H' d k v->Q v H'
theorem OpdL.all {K:PySem.W.Frag}{ρ:PEnv}{σ:St}{Fz Fz':FZ}{H H':Hp}(R:Rel K Fz ρ σ H)(x:Ext Fz H Fz' H'):∀ {ops:List (PV×Kd)}{vs:List V},OpdL K Fz' H' ρ σ H ops vs->
  ∃Fz2,(∀b,Fz' b->Fz2 b)/\(∀b,Fz2 b->H' b≠none)/\DenL K Fz2 H' (ops.map (·.1)) vs
 | _,_,.nil=>⟨Fz',λ_ h=>h,x.al,DenL.nil⟩
 | (d,k)::ops,v::vs,.cons h t=>by
  obtain⟨F2,s2,a2,h2⟩:=OpdL.all R x t;have addr:∀a,v=.ref a->Own K Fz' H' d a->∃Fz2,(∀b,Fz' b->Fz2 b)/\(∀b,Fz2 b->H' b≠none)/\DenL K Fz2 H' ((d,k)::ops |>.map (·.1)) (v::vs):=λa e o=>by
   subst e;refine⟨λb=>F2 b\/b=a,λb h=>.inl (s2 b h),λb hb=>?_,DenL.cons ?_ (DenL.mono (Keep.of (Same.refl _)) (λb h=>.inl h) _ _ h2)⟩
   ·rcases hb with hb | rfl
    ·exact a2 b hb
    ·obtain⟨o',e,_⟩:=o.at;rw[e];exact λz=>nomatch z
   ·exact(o.mono (Fz':=λb=>F2 b\/b=a) (Keep.of (Same.refl _)) (λb h=>.inl (s2 b h)) (λ_ h=>h)).den (.inr rfl)
  cases k with
  | frz=>exact⟨F2,s2,a2,DenL.cons (Den.mono (Keep.of (Same.refl _)) s2 _ _ h) h2⟩
  | new=>obtain⟨a,e,_,_,o⟩:=h;exact addr a e o
  | own i=>
   obtain⟨h1,h2'⟩:=h;obtain⟨a,e,_,o⟩:=(R.ext x).own i d h1;rw[h2']at e;cases e;exact addr a rfl o
noncomputable def zcc (F:PF)(t:TPA):TPE:=λρ Q=>t ρ λops=>F (ops.map (·.1)) λd k=>(noOwn ops=true\/zbV d k=true)/\Q d k
section
variable {X:Cx}{k:Nat}{f:Addr}{fd:FuncData}{ps:List Str}{F:PF}{x:Str}{p pos:Pos}{e:Expr}{es:List Expr}{t:TPA}
theorem zkD {σ:St}{H:Hp}{Q:VK}(ha:PuA X es t)(m:zbE F)(h:lift X.K (zcc F t) σ H Q):znr (spP X.K F) [] E0 (zmm X.K t) σ H Q:=by
 obtain⟨ρ,Fz,R,h⟩:=h;refine⟨ρ,Fz,R,ha.mono ρ _ _ (λops h vs Fz' H' x o=>?_) h⟩;show spP X.K F (vs++[]) H' Q E0;rw[List.append_nil];by_cases hn:noOwn ops=true
 ·obtain⟨F2,x2,s2,h2⟩:=o.frozen x hn;refine⟨F2,ops.map (·.1),x2.al,h2,m _ _ _ (λd k q v Fz3 H3 p3=>?_) h⟩;exact q.2 v Fz3 H3 (p3.behind x2)
 ·obtain⟨F2,s2,a2,h2⟩:=o.all R x;refine⟨F2,ops.map (·.1),a2,h2,m _ _ _ (λd k q v Fz3 H3 p3=>?_) h⟩;have nm:zbV d k=true:=q.1.resolve_left hn;have al:∀b,Fz' b->H3 b≠none:=λb hb z=>x.al b hb (p3.ext.same.free z);refine q.2 v Fz' H3 ⟨⟨x.same.trans p3.ext.same,x.sub,x.new,al⟩,?_⟩;exact((zid nm x.al p3.opd).up).back x.same
theorem zao (G:FnOk X.prog X.w X.K X.mg X.base CX0 k f fd ps (spP X.K F))(m:zbE F)(hr:Room k X.A)(hg:Gl X x)(hm:X.mg x=some (.ref f))(hk:PySem.W.keepIn X.K (.ref f)=true)(hb:Binds X.K fd ps [])(ha:PuA X (e::es) t)
  (hd:autoParam ((x == ("__debug__" : Str))=false) aU1) (he:autoParam (starEach (e::es) X.env=(false,eval e X.env)::starEach es X.env) aU0) (hpl:autoParam ((backTo pos (starEach es X.env)).any (·.1)=false) aU0) :
  PuE X (.Call (.Name x p) (e::es) [] pos) (zcc F t) where
 mono ρ Q Q' mm h:=ha.mono ρ _ _ (λops h=>m _ _ _ (λd k q=>⟨q.1,mm _ _ q.2⟩) h) h
 run:=PE.weak (ziI G hr hg hm hk hb .nil zoO ha.run hd he hpl) λσ H Q h=>zkD ha m h
end
structure zfP (K:PySem.W.Frag)(r:List V->Hp->VK->Prop)(p:PF):Prop where
 mono:zbE p
 run:∀Fz H ds vs Q,(∀b,Fz b->H b≠none)->zkC K Fz H ds vs->p ds (λz k=>∀v Fz' H',Post K [] [] Fz H Fz' H' z k v->Q v H')->r vs H Q
noncomputable def tB (p:PF)(t:TPA):TPE:=λρ Q=>t ρ λops=>p (ops.map (·.1)) Q
section
variable {X:Cx}{x:Str}{p pos:Pos}{e:Expr}{es:List Expr}{t:TPA}{id T:String}{r:List V->Hp->VK->Prop}{pf:PF}
theorem znL {σ:St}{H:Hp}{Q:VK}(ha:PuA X es t)(m:zfP X.K r pf)(h:lift X.K (tB pf t) σ H Q):tCB r (zmm X.K t) σ H Q:=by
 obtain⟨ρ,Fz,R,h⟩:=h;refine⟨ρ,Fz,R,ha.mono ρ _ _ (λops h vs Fz' H' x o=>?_) h⟩;exact m.run Fz' H' _ vs Q x.al (o.root R x) (m.mono _ _ _ (λd k q v Fz3 H3 p3=>q v Fz3 H3 (p3.behind x)) h)
theorem zfc (hc:zcq X (.builtin id) r)(m:zfP X.K r pf)(hg:Gl X x)(hm:X.mg x=none)(hv:bootBuiltins x=some (.builtin id))(ha:PuA X (e::es) t)(hn:autoParam (x≠"__name__") aU1) (hdb:autoParam ((x == ("__debug__" : Str))=false) aU1)
  (he:autoParam (starEach (e::es) X.env=(false,eval e X.env)::starEach es X.env) aU0) (hpl:autoParam ((backTo pos (starEach es X.env)).any (·.1)=false) aU0):PuE X (.Call (.Name x p) (e::es) [] pos) (tB pf t) where
 mono ρ Q Q' mm h:=ha.mono ρ _ _ (λops h=>m.mono _ _ _ mm h) h
 run:=PE.weak (zci hc hg hm hv ha.run hn hdb he hpl) λσ H Q h=>znL ha m h
theorem zfQ (hc:zcq X (.type T) r)(m:zfP X.K r pf)(hg:Gl X x)(hm:X.mg x=none)(hv:bootBuiltins x=some (.type T))(ha:PuA X (e::es) t)(hn:autoParam (x≠"__name__") aU1) (hdb:autoParam ((x == ("__debug__" : Str))=false) aU1)
  (he:autoParam (starEach (e::es) X.env=(false,eval e X.env)::starEach es X.env) aU0) (hpl:autoParam ((backTo pos (starEach es X.env)).any (·.1)=false) aU0):PuE X (.Call (.Name x p) (e::es) [] pos) (tB pf t) where
 mono ρ Q Q' mm h:=ha.mono ρ _ _ (λops h=>m.mono _ _ _ mm h) h
 run:=PE.weak (zcE hc hg hm hv ha.run hn hdb he hpl) λσ H Q h=>znL ha m h
end
end PL
namespace PL
open PySem PySem.Spec L2
open PyProof.Rows hiding St
structure POut where
 nx:PEnv->Prop
 rt:PV->Kd->Prop
 bk:PEnv->Prop
 ct:PEnv->Prop
structure POut.le (O O':POut):Prop where
 nx:∀ρ,O.nx ρ->O'.nx ρ
 rt:∀d k,O.rt d k->O'.rt d k
 bk:∀ρ,O.bk ρ->O'.bk ρ
 ct:∀ρ,O.ct ρ->O'.ct ρ
noncomputable abbrev TPS:=PEnv->POut->Prop
noncomputable def Hold (t:TPS)(O:POut)(ρ:PEnv):Prop:=t ρ O
theorem hold {t:TPS}{O:POut}{ρ:PEnv}(h:t ρ O):Hold t O ρ:=h
structure Step (ρ:PEnv)(σ:St)(Fz:FZ)(H:Hp)(Fz':FZ)(H':Hp):Prop where
 sub:∀b,Fz b->Fz' b
 new:∀b,Fz' b->Fz b\/H b=none\/zaI ρ σ b
 keep:∀b o,H b=some o->¬ zaI ρ σ b->H' b=some o
noncomputable def zau (ρ:PEnv)(σ:St)(H:Hp)(ρ':PEnv)(σ':St):Prop:=∀b,zaI ρ' σ' b->zaI ρ σ b\/H b=none
theorem Step.of {ρ:PEnv}{σ:St}{Fz Fz':FZ}{H H':Hp}(x:Ext Fz H Fz' H'):Step ρ σ Fz H Fz' H':=
 ⟨x.sub,λb h=>(x.new b h).elim .inl (λh=>.inr (.inl h)),λb o e _=>x.same b o e⟩
theorem Step.none {ρ:PEnv}{σ:St}{Fz Fz':FZ}{H H':Hp}(s:Step ρ σ Fz H Fz' H'){b:Addr}(h:H' b=Option.none):H b=Option.none\/zaI ρ σ b:=by
 by_cases o:zaI ρ σ b
 ·exact .inr o
 ·cases e:H b with
  | none=>exact .inl rfl
  | some u=>rw[s.keep b u e o]at h;cases h
theorem Step.trans {ρ ρ':PEnv}{σ σ':St}{F1 F2 F3:FZ}{H1 H2 H3:Hp}(a:Step ρ σ F1 H1 F2 H2)(oi:zau ρ σ H1 ρ' σ')(b:Step ρ' σ' F2 H2 F3 H3):Step ρ σ F1 H1 F3 H3:=
 ⟨λc h=>b.sub c (a.sub c h),λc h=>by
  rcases b.new c h with h | h | h
  ·exact a.new c h
  ·exact .inr (a.none h)
  ·exact .inr ((oi c h).symm),λc o e n=>by
  refine b.keep c o (a.keep c o e n) λz=>?_;rcases oi c z with z | z
  ·exact n z
  ·rw[e]at z;cases z⟩
theorem zau.trans {ρ ρ' ρ'':PEnv}{σ σ' σ'':St}{F1 F2:FZ}{H1 H2:Hp}(a:Step ρ σ F1 H1 F2 H2)(oi:zau ρ σ H1 ρ' σ')(oj:zau ρ' σ' H2 ρ'' σ''):zau ρ σ H1 ρ'' σ'':=λc h=>by
 rcases oj c h with h | h
 ·exact oi c h
 ·exact(a.none h).symm
theorem zau.refl (ρ:PEnv)(σ:St)(H:Hp):zau ρ σ H ρ σ:=λ_ h=>.inl h
noncomputable def Ret (K:PySem.W.Frag)(ρ:PEnv)(σ:St)(H:Hp)(Fz':FZ)(H':Hp)(d:PV):Kd->V->Prop
 | .frz,v=>Den K Fz' H' d v
 | .new,v=>∃a,v=.ref a/\¬ Fz' a/\Own K Fz' H' d a/\(zaI ρ σ a\/H a=none)
 | .own _,_=>False
noncomputable def zcz (K:PySem.W.Frag)(D:Ends)(ρ:PEnv)(σ:St)(Fz:FZ)(H:Hp):POut where
 nx:=λρ'=>∀σ' Fz' H',Step ρ σ Fz H Fz' H'->zau ρ σ H ρ' σ'->Rel K Fz' ρ' σ' H'->D.nx σ' H'
 bk:=λρ'=>∀σ' Fz' H',Step ρ σ Fz H Fz' H'->zau ρ σ H ρ' σ'->Rel K Fz' ρ' σ' H'->D.bk σ' H'
 ct:=λρ'=>∀σ' Fz' H',Step ρ σ Fz H Fz' H'->zau ρ σ H ρ' σ'->Rel K Fz' ρ' σ' H'->D.ct σ' H'
 rt:=λd k=>∀v Fz' H',Step ρ σ Fz H Fz' H'->(∀b,Fz' b->H' b≠none)->Ret K ρ σ H Fz' H' d k v->D.rt v H'
noncomputable def zkE (K:PySem.W.Frag)(t:TPS):TS:=λD σ H=>∃ρ Fz,Rel K Fz ρ σ H/\t ρ (zcz K D ρ σ Fz H)
structure PuS (X:Cx)(st:Stmt)(t:TPS):Prop where
 mono:∀ρ O O',O.le O'->t ρ O->t ρ O'
 run:PS X st (zkE X.K t)
structure PuSs (X:Cx)(st:List Stmt)(t:TPS):Prop where
 mono:∀ρ O O',O.le O'->t ρ O->t ρ O'
 run:PSs X st (zkE X.K t)
theorem PS.weak {X:Cx}{e:Stmt}{t t':TS}(h:PS X e t)(w:∀D σ H,t' D σ H->t D σ H):PS X e t':=λpins s σ H D I q=>h pins s σ H D I (w D σ H q)
theorem PSs.weak {X:Cx}{e:List Stmt}{t t':TS}(h:PSs X e t)(w:∀D σ H,t' D σ H->t D σ H):PSs X e t':=λpins s σ H D I q=>h pins s σ H D I (w D σ H q)
theorem zkF {K:PySem.W.Frag}{D D':Ends}{ρ ρ':PEnv}{σ σ':St}{Fz Fz':FZ}{H H':Hp}(s:Step ρ σ Fz H Fz' H')(oi:zau ρ σ H ρ' σ')(h1:∀σ H,D.nx σ H->D'.nx σ H)(h2:∀v H,D.rt v H->D'.rt v H)(h3:∀σ H,D.bk σ H->D'.bk σ H)(h4:∀σ H,D.ct σ H->D'.ct σ H) :
  (zcz K D ρ σ Fz H).le (zcz K D' ρ' σ' Fz' H') where
 nx ρ2 q σ2 F2 H2 s2 o2 R2:=h1 _ _ (q σ2 F2 H2 (s.trans oi s2) (zau.trans s oi o2) R2)
 bk ρ2 q σ2 F2 H2 s2 o2 R2:=h3 _ _ (q σ2 F2 H2 (s.trans oi s2) (zau.trans s oi o2) R2)
 ct ρ2 q σ2 F2 H2 s2 o2 R2:=h4 _ _ (q σ2 F2 H2 (s.trans oi s2) (zau.trans s oi o2) R2)
 rt d k q v F2 H2 s2 al r:=h2 _ _ (q v F2 H2 (s.trans oi s2) al (by
  cases k with
  | frz=>exact r
  | own i=>exact r
  | new=>
   obtain⟨a,e,nf,o,w⟩:=r;refine⟨a,e,nf,o,?_⟩;rcases w with w | w
   ·exact oi a w
   ·exact(s.none w).symm))
theorem zbe {K:PySem.W.Frag}{D:Ends}{ρ ρ':PEnv}{σ σ':St}{Fz Fz':FZ}{H H':Hp}(s:Step ρ σ Fz H Fz' H')(oi:zau ρ σ H ρ' σ'):(zcz K D ρ σ Fz H).le (zcz K D ρ' σ' Fz' H'):=
 zkF s oi (λ_ _ h=>h) (λ_ _ h=>h) (λ_ _ h=>h) (λ_ _ h=>h)
section
variable {X:Cx}{st:Stmt}{rest:List Stmt}{t u:TPS}{e:Expr}{te:TPE}{pos:Pos}
noncomputable def zdN:TPS:=λρ O=>O.nx ρ
noncomputable def pSeq (t u:TPS):TPS:=λρ O=>t ρ { O with nx:=Hold u O }
theorem zaB:PuSs X [] zdN where
 mono ρ O O' m h:=m.nx _ h
 run:=PSs.weak zgx λD σ H h=>by
  obtain⟨ρ,Fz,R,h⟩:=h;exact h σ Fz H (.of ⟨Same.refl H,λ_ h=>h,λ_ h=>.inl h,R.al⟩) (zau.refl ρ σ H) R
theorem zag (h1:PuS X st t):PuSs X [st] t:=⟨h1.mono,zgy h1.run⟩
theorem zae (h1:PuS X st t)(h2:PuSs X rest u):PuSs X (st::rest) (pSeq t u) where
 mono ρ O O' m h:=h1.mono ρ { O with nx:=λρ'=>u ρ' O } _ ⟨λρ' q=>h2.mono ρ' _ _ m q,m.rt,m.bk,m.ct⟩ h
 run:=PSs.weak (zbx h1.run h2.run) λD σ H h=>by
  obtain⟨ρ,Fz,R,h⟩:=h;refine⟨ρ,Fz,R,h1.mono ρ { zcz X.K D ρ σ Fz H with nx:=λρ'=>u ρ' (zcz X.K D ρ σ Fz H) } _ ⟨λρ' q=>?_,λ_ _ q=>q,λ_ q=>q,λ_ q=>q⟩ h⟩;intro σ' Fz' H' s oi R';exact⟨ρ',Fz',R',h2.mono ρ' _ _ (zbe s oi) q⟩
noncomputable def pRet (te:TPE):TPS:=λρ O=>te ρ λd k=>O.rt d (match k with | .frz=>.frz | _=>.new)
theorem zah (he:PuE X e te):PuS X (.Return (some e) pos) (pRet te) where
 mono ρ O O' m h:=he.mono ρ _ _ (λ_ _ q=>m.rt _ _ q) h
 run:=PS.weak (zlr he.run) λD σ H h=>by
  obtain⟨ρ,Fz,R,h⟩:=h;refine⟨ρ,Fz,R,he.mono ρ _ _ (λd k q v Fz' H' p=>q v Fz' H' (.of p.ext) p.ext.al ?_) h⟩;cases k with
  | frz=>exact p.opd
  | new=>obtain⟨a,e,hn,nf,o⟩:=p.opd;exact⟨a,e,nf,o,.inr hn⟩
  | own i=>
   obtain⟨h1,h2⟩:=p.opd;obtain⟨a,e,nf,o⟩:=(R.ext p.ext).own i d h1;rw[h2]at e;cases e;exact⟨a,rfl,nf,o,.inl ⟨i,d,h1,h2⟩⟩
noncomputable def pIf (c:TPT)(t u:TPS):TPS:=λρ O=>c ρ λb=>if b=true then Hold t O ρ else Hold u O ρ
theorem zbv {c:Expr}{a b:List Stmt}{tc:TPT}(hc:PuT X c tc)(ha:PuSs X a t)(hb:PuSs X b u):PuS X (.If c a b pos) (pIf tc t u) where
 mono ρ O O' m h:=hc.mono ρ _ _ (λd q=>by
  cases d with
  | true=>rw[if_pos rfl]at q ⊢;exact ha.mono ρ _ _ m q
  | false=>rw[if_neg Bool.false_ne_true]at q ⊢;exact hb.mono ρ _ _ m q) h
 run:=PS.weak (zkf hc.run ha.run hb.run) λD σ H h=>by
  obtain⟨ρ,Fz,R,h⟩:=h;refine⟨ρ,Fz,R,hc.mono ρ _ _ (λd q Fz' H' x=>?_) h⟩;cases d with
  | true=>
   rw[if_pos rfl]at q ⊢;exact⟨ρ,Fz',R.ext x,ha.mono ρ _ _ (zbe (.of x) (zau.refl ρ σ H)) q⟩
  | false=>
   rw[if_neg Bool.false_ne_true]at q ⊢;exact⟨ρ,Fz',R.ext x,hb.mono ρ _ _ (zbe (.of x) (zau.refl ρ σ H)) q⟩
noncomputable def zjl (i:Nat)(ρ:PEnv):PEnv:=match ρ[i]? with
 | some (some (d,true))=>ρ.set i (some (d,false))
 | _=>ρ
noncomputable def pFrz (i:Nat)(t:TPS):TPS:=λρ O=>t (zjl i ρ) O
end
section
variable {K:PySem.W.Frag}{Fz:FZ}{ρ:PEnv}{σ:St}{H:Hp}
theorem Rel.set {i:Nat}{d:PV}{v:V}(R:Rel K Fz ρ σ H)(h:Den K Fz H d v):Rel K Fz (ρ.set i (some (d,false))) (σ.set i (some v)) H where
 al:=R.al
 len:=by rw[List.length_set,List.length_set];exact R.len
 frz j e he:=by
  by_cases hij:i=j
  ·subst hij;by_cases hi:i<ρ.length
   ·rw[List.getElem?_set_self hi]at he;cases he;exact⟨v,by rw[List.getElem?_set_self (by rw[<- R.len];exact hi)],h⟩
   ·rw[List.set_eq_of_length_le (by lia),List.getElem?_eq_none (by lia)]at he;cases he
  ·rw[List.getElem?_set_ne hij]at he ⊢;exact R.frz j e he
 own j e he:=by
  by_cases hij:i=j
  ·subst hij;by_cases hi:i<ρ.length
   ·rw[List.getElem?_set_self hi]at he;cases he
   ·rw[List.set_eq_of_length_le (by lia),List.getElem?_eq_none (by lia)]at he;cases he
  ·rw[List.getElem?_set_ne hij]at he ⊢;exact R.own j e he
 inj j k d' e a h1 h2 h3 h4:=by
  have nj:i≠j:=λz=>by
   subst z;by_cases hi:i<ρ.length
   ·rw[List.getElem?_set_self hi]at h1;cases h1
   ·rw[List.set_eq_of_length_le (by lia),List.getElem?_eq_none (by lia)]at h1;cases h1
  have nk:i≠k:=λz=>by
   subst z;by_cases hi:i<ρ.length
   ·rw[List.getElem?_set_self hi]at h2;cases h2
   ·rw[List.set_eq_of_length_le (by lia),List.getElem?_eq_none (by lia)]at h2;cases h2
  rw[List.getElem?_set_ne nj]at h1 h3;rw[List.getElem?_set_ne nk]at h2 h4;exact R.inj j k d' e a h1 h2 h3 h4
theorem zfd {i:Nat}{d:PV}{v:V}:∀b,zaI (ρ.set i (some (d,false))) (σ.set i (some v)) b->zaI ρ σ b:=λb ⟨j,e,h1,h2⟩=>by
 have nj:i≠j:=λz=>by
  subst z;by_cases hi:i<ρ.length
  ·rw[List.getElem?_set_self hi]at h1;cases h1
  ·rw[List.set_eq_of_length_le (by lia),List.getElem?_eq_none (by lia)]at h1;cases h1
 rw[List.getElem?_set_ne nj]at h1 h2;exact⟨j,e,h1,h2⟩
theorem Rel.zlz {i:Nat}{d:PV}{a:Addr}(R:Rel K Fz ρ σ H)(nf:¬ Fz a)(h:Own K Fz H d a)(hno:¬ zaI ρ σ a):Rel K Fz (ρ.set i (some (d,true))) (σ.set i (some (.ref a))) H where
 al:=R.al
 len:=by rw[List.length_set,List.length_set];exact R.len
 frz j e he:=by
  by_cases hij:i=j
  ·subst hij;by_cases hi:i<ρ.length
   ·rw[List.getElem?_set_self hi]at he;cases he
   ·rw[List.set_eq_of_length_le (by lia),List.getElem?_eq_none (by lia)]at he;cases he
  ·rw[List.getElem?_set_ne hij]at he ⊢;exact R.frz j e he
 own j e he:=by
  by_cases hij:i=j
  ·subst hij;by_cases hi:i<ρ.length
   ·rw[List.getElem?_set_self hi]at he;cases he;exact⟨a,by rw[List.getElem?_set_self (by rw[<- R.len];exact hi)],nf,h⟩
   ·rw[List.set_eq_of_length_le (by lia),List.getElem?_eq_none (by lia)]at he;cases he
  ·rw[List.getElem?_set_ne hij]at he ⊢;exact R.own j e he
 inj j k d' e b h1 h2 h3 h4:=by
  by_cases hj:i=j
  ·by_cases hk:i=k
   ·rw[<- hj,<- hk]
   ·subst hj;rw[List.getElem?_set_ne hk]at h2 h4;by_cases hi:i<σ.length
    ·rw[List.getElem?_set_self hi]at h3;cases h3;exact absurd ⟨k,e,h2,h4⟩ hno
    ·rw[List.set_eq_of_length_le (by lia),List.getElem?_eq_none (by lia)]at h3;cases h3
  ·by_cases hk:i=k
   ·subst hk;rw[List.getElem?_set_ne hj]at h1 h3;by_cases hi:i<σ.length
    ·rw[List.getElem?_set_self hi]at h4;cases h4;exact absurd ⟨j,d',h1,h3⟩ hno
    ·rw[List.set_eq_of_length_le (by lia),List.getElem?_eq_none (by lia)]at h4;cases h4
   ·rw[List.getElem?_set_ne hj]at h1 h3;rw[List.getElem?_set_ne hk]at h2 h4;exact R.inj j k d' e b h1 h2 h3 h4
theorem zeD {i:Nat}{d:PV}{a:Addr}:∀b,zaI (ρ.set i (some (d,true))) (σ.set i (some (.ref a))) b->b=a\/zaI ρ σ b:=λb ⟨j,e,h1,h2⟩=>by
 by_cases hij:i=j
 ·subst hij;by_cases hi:i<σ.length
  ·rw[List.getElem?_set_self hi]at h2;cases h2;exact .inl rfl
  ·rw[List.set_eq_of_length_le (by lia),List.getElem?_eq_none (by lia)]at h2;cases h2
 ·rw[List.getElem?_set_ne hij]at h1 h2;exact .inr ⟨j,e,h1,h2⟩
theorem Rel.frozen {i:Nat}(R:Rel K Fz ρ σ H):∃Fz',Rel K Fz' (zjl i ρ) σ H/\Step ρ σ Fz H Fz' H/\zau ρ σ H (zjl i ρ) σ:=by
 unfold zjl;split
 ·rename_i d he
  obtain⟨a,e,nf,o⟩:=R.own i d he;have R2:Rel K (λb=>Fz b\/b=a) (ρ.set i (some (d,false))) (σ.set i (some (.ref a))) H:=by
   have hno:∀j d',i≠j->ρ[j]? = some (some (d',true))->σ[j]?≠some (some (.ref a)):=λj d' hne h1 h2=>hne (R.inj i j d d' a he h1 e h2);have hal:∀b,(Fz b\/b=a)->H b≠none:=λb hb=>by
    rcases hb with hb | rfl
    ·exact R.al b hb
    ·obtain⟨o',q,_⟩:=o.at;rw[q];exact λz=>nomatch z
   refine⟨hal,by rw[List.length_set,List.length_set];exact R.len,λj e' he'=>?_,λj e' he'=>?_,λj k d' e' b h1 h2 h3 h4=>?_⟩
   ·by_cases hij:i=j
    ·subst hij;have hi:i<ρ.length:=(List.getElem?_eq_some_iff.mp he).1;rw[List.getElem?_set_self hi]at he';cases he';exact⟨_,by rw[List.getElem?_set_self (by rw[<- R.len];exact hi)],(o.mono (Fz':=λb=>Fz b\/b=a) (Keep.of (Same.refl _)) (λ_ h=>.inl h) (λ_ h=>h)).den (.inr rfl)⟩
    ·rw[List.getElem?_set_ne hij]at he' ⊢;obtain⟨v,q1,q2⟩:=R.frz j e' he';exact⟨v,q1,Den.mono (Keep.of (Same.refl _)) (λ_ h=>.inl h) _ _ q2⟩
   ·have hij:i≠j:=λz=>by
     subst z;have hi:i<ρ.length:=(List.getElem?_eq_some_iff.mp he).1;rw[List.getElem?_set_self hi]at he';cases he'
    rw[List.getElem?_set_ne hij]at he' ⊢;obtain⟨b,q1,q2,q3⟩:=R.own j e' he';refine⟨b,q1,λz=>?_,q3.mono (Keep.of (Same.refl _)) (λ_ h=>.inl h) (λ_ h=>h)⟩;rcases z with z | z
    ·exact q2 z
    ·subst z;exact hno j e' hij he' q1
   ·have hi:i<ρ.length:=(List.getElem?_eq_some_iff.mp he).1;have nj:i≠j:=λz=>by subst z;rw[List.getElem?_set_self hi]at h1;cases h1
    have nk:i≠k:=λz=>by subst z;rw[List.getElem?_set_self hi]at h2;cases h2
    rw[List.getElem?_set_ne nj]at h1 h3;rw[List.getElem?_set_ne nk]at h2 h4;exact R.inj j k d' e' b h1 h2 h3 h4
  have es:σ.set i (some (.ref a))=σ:=List.ext_getElem? λj=>by
   by_cases hij:i=j
   ·subst hij;rw[List.getElem?_set_self (List.getElem?_eq_some_iff.mp e).1,e]
   ·rw[List.getElem?_set_ne hij]
  refine⟨λb=>Fz b\/b=a,by rw[es]at R2;exact R2,⟨λ_ h=>.inl h,λb hb=>?_,λb o e _=>e⟩,λb hb=>?_⟩
  ·rcases hb with hb | rfl
   ·exact .inl hb
   ·exact .inr (.inr ⟨i,d,he,e⟩)
  ·have:=zfd (ρ:=ρ) (σ:=σ) (i:=i) (d:=d) (v:=.ref a) b (by rw[es];exact hb);exact .inl this
 ·exact⟨Fz,R,.of ⟨Same.refl H,λ_ h=>h,λ_ h=>.inl h,R.al⟩,zau.refl ρ σ H⟩
end
section
variable {X:Cx}{st:Stmt}{sts:List Stmt}{t:TPS}
theorem zmn (i:Nat)(h:PuS X st t):PuS X st (pFrz i t) where
 mono ρ O O' m q:=h.mono _ _ _ m q
 run:=PS.weak h.run λD σ H q=>by
  obtain⟨ρ,Fz,R,q⟩:=q;obtain⟨F2,R2,s2,o2⟩:=R.frozen (i:=i);exact⟨_,F2,R2,h.mono _ _ _ (zbe s2 o2) q⟩
end
noncomputable def pSet (i:Nat)(te:TPE):TPS:=λρ O=>te ρ λd k=>match k with
 | .frz=>O.nx (ρ.set i (some (d,false)))
 | .new=>O.nx (ρ.set i (some (d,true)))
 | .own _=>False
theorem zkG {X:Cx}{e:Expr}{te:TPE}{i:Nat}(he:PuE X e te){D:Ends}{σ:St}{H:Hp}(h:zkE X.K (pSet i te) D σ H):tAsg (lift X.K te) (ziB i) D σ H:=by
 obtain⟨ρ,Fz,R,h⟩:=h;refine⟨ρ,Fz,R,he.mono ρ _ _ (λd k q v Fz' H' p=>?_) h⟩;show D.nx (σ.set i (some v)) H';have R':=R.ext p.ext;cases k with
 | frz=>exact(show(zcz X.K D ρ σ Fz H).nx (ρ.set i (some (d,false))) from q) _ Fz' H' (.of p.ext) (λb hb=>.inl (zfd b hb)) (R'.set p.opd)
 | own j=>exact q.elim
 | new=>
  obtain⟨a,e,hn,nf,o⟩:=p.opd;subst e;have hno:¬ zaI ρ σ a:=λ⟨j,e,h1,h2⟩=>by
   obtain⟨b,q1,_,q2⟩:=R.own j e h1;rw[h2]at q1;cases q1;obtain⟨o',q3,_⟩:=q2.at;rw[hn]at q3;cases q3
  refine(show(zcz X.K D ρ σ Fz H).nx (ρ.set i (some (d,true))) from q) _ Fz' H' (.of p.ext) (λb hb=>?_) (R'.zlz nf o hno);rcases zeD b hb with rfl | hb
  ·exact .inr hn
  ·exact .inl hb
theorem zjm {X:Cx}{e:Expr}{te:TPE}{i:Nat}(he:PuE X e te):∀ρ O O',POut.le O O'->pSet i te ρ O->pSet i te ρ O':=λρ O O' m h=>he.mono ρ _ _ (λd k q=>by
 cases k with
 | frz=>exact m.nx _ q
 | new=>exact m.nx _ q
 | own j=>exact q) h
section
variable {X:Cx}{e:Expr}{te:TPE}{pos:Pos}
theorem zal {i:Nat}{x:Str}{pos':Pos}(hN:X.N.Nodup)(hi:X.N[i]? = some x)(hx:Loc X.env.scope x)(he:PuE X e te)(hs:autoParam (swapsWith e (some (.Name x pos')) pos.line X.env=pure false) aU0)(hf:autoParam (X.fn x=true\/X.env.scope.names.lookup x=some .local) aU4) :
  PuS X (.Assign [.Name x pos'] e pos) (pSet i te):=
 ⟨zjm he,PS.weak (zfp hN hi hx he.run hs hf) λ_ _ _ h=>zkG he h⟩
end
noncomputable abbrev TPG:=PV->PEnv->(PEnv->Prop)->Prop
noncomputable abbrev TPGs:=List PV->PEnv->(PEnv->Prop)->Prop
noncomputable def zfR (K:PySem.W.Frag)(t:TPG):TG:=λv σ H Q=>∃ρ Fz d,Rel K Fz ρ σ H/\Den K Fz H d v/\t d ρ λρ'=>∀σ',Rel K Fz ρ' σ' H->(∀b,zaI ρ' σ' b->zaI ρ σ b)->Q σ' H
noncomputable def znM (K:PySem.W.Frag)(t:TPGs):TGs:=λvs σ H Q=>∃ρ Fz ds,Rel K Fz ρ σ H/\DenL K Fz H ds vs/\t ds ρ λρ'=>∀σ',Rel K Fz ρ' σ' H->(∀b,zaI ρ' σ' b->zaI ρ σ b)->Q σ' H
structure PuG (X:Cx)(tg:Expr)(t:TPG):Prop where
 mono:∀d ρ Q Q',(∀ρ,Q ρ->Q' ρ)->t d ρ Q->t d ρ Q'
 run:PG X tg (zfR X.K t)
structure PuGs (X:Cx)(tgs:List Expr)(t:TPGs):Prop where
 mono:∀ds ρ Q Q',(∀ρ,Q ρ->Q' ρ)->t ds ρ Q->t ds ρ Q'
 run:PGs X tgs (znM X.K t)
theorem PG.weak {X:Cx}{e:Expr}{t t':TG}(h:PG X e t)(w:∀v σ H Q,t' v σ H Q->t v σ H Q):PG X e t':=λpins s σ H v u Q I r q=>h pins s σ H v u Q I r (w v σ H Q q)
theorem PGs.weak {X:Cx}{e:List Expr}{t t':TGs}(h:PGs X e t)(w:∀v σ H Q,t' v σ H Q->t v σ H Q):PGs X e t':=λpins s σ H v u Q I r q=>h pins s σ H v u Q I r (w v σ H Q q)
noncomputable def zbJ (i:Nat):TPG:=λd ρ Q=>Q (ρ.set i (some (d,false)))
noncomputable def zdO:TPGs:=λds ρ Q=>ds=[]/\Q ρ
noncomputable def zbW (t:TPG)(u:TPGs):TPGs:=λds ρ Q=>∃d r,ds=d::r/\t d ρ λρ'=>u r ρ' Q
noncomputable def zdP (n:Nat)(t:TPGs):TPG:=λd ρ Q=>∃ds,d=.tup ds/\ds.length=n/\t ds ρ Q
section
variable {X:Cx}{pos:Pos}
theorem zay {i:Nat}{x:Str}(hN:X.N.Nodup)(hi:X.N[i]? = some x)(hx:Loc X.env.scope x)(hf:autoParam (X.fn x=true\/X.env.scope.names.lookup x=some .local) aU4):PuG X (.Name x pos) (zbJ i) where
 mono d ρ Q Q' m h:=m _ h
 run:=PG.weak (zlP hN hi hx hf) λv σ H Q h=>by
  obtain⟨ρ,Fz,d,R,hd,h⟩:=h;exact h _ (R.set hd) (λb hb=>zfd b hb)
theorem zkH:PuGs X [] zdO where
 mono d ρ Q Q' m h:=⟨h.1,m _ h.2⟩
 run:=PGs.weak zlQ λv σ H Q h=>by
  obtain⟨ρ,Fz,ds,R,hd,e,h⟩:=h;subst e;simp only[DenL]at hd;exact⟨hd,h σ R (λ_ h=>h)⟩
theorem zfS {e:Expr}{es:List Expr}{t:TPG}{u:TPGs}(h1:PuG X e t)(h2:PuGs X es u)
  (hs:autoParam ((assignEach (e::es) X.env).map (·.2)=assign e X.env::(assignEach es X.env).map (·.2)) aU0):PuGs X (e::es) (zbW t u) where
 mono ds ρ Q Q' m h:=by
  obtain⟨d,r,e,h⟩:=h;exact⟨d,r,e,h1.mono d ρ _ _ (λρ' q=>h2.mono r ρ' _ _ m q) h⟩
 run:=PGs.weak (zkg h1.run h2.run hs) λvs σ H Q h=>by
  obtain⟨ρ,Fz,ds,R,hd,d,r,e,h⟩:=h;subst e;simp only[DenL]at hd;obtain⟨v,rs,e,d1,d2⟩:=hd;subst e;refine⟨v,rs,rfl,ρ,Fz,d,R,d1,h1.mono d ρ _ _ (λρ' q σ' R' o'=>?_) h⟩;exact⟨ρ',Fz,r,R',d2,h2.mono r ρ' _ _ (λρ2 q σ2 R2 o2=>q σ2 R2 (λb hb=>o' b (o2 b hb))) q⟩
theorem zmo {es:List Expr}{k:Nat}{t:TPGs}{n:Nat}(hc:X.calm=true)(h:PuGs X es t)
  (hn:autoParam ((assignEach es X.env).length=n) aU0) (hst:autoParam ((assignEach es X.env).findIdx? (·.1)=none) aU0):PuG X (.Tuple es k pos) (zdP n t) where
 mono d ρ Q Q' m q:=by
  obtain⟨ds,e,l,q⟩:=q;exact⟨ds,e,l,h.mono ds ρ _ _ m q⟩
 run:=PG.weak (znh hc h.run hn hst) λv σ H Q q=>by
  obtain⟨ρ,Fz,d,R,hd,ds,e,l,q⟩:=q;subst e;simp only[Den]at hd;obtain⟨a,xs,e,h1,h2⟩:=hd;have hl:=h2.length;exact⟨a,xs,e,SqT.of h1,by lia,ρ,Fz,ds,R,h2,q⟩
end
noncomputable def LocG (k:Nat)(t:TPG):Prop:=∀d ρ Q,t d ρ Q->t d ρ λρ'=>Q ρ'/\ρ'.length=ρ.length/\∀j,k<=j->ρ'[j]? = ρ[j]?
noncomputable def znN (k:Nat)(t:TPGs):Prop:=∀d ρ Q,t d ρ Q->t d ρ λρ'=>Q ρ'/\ρ'.length=ρ.length/\∀j,k<=j->ρ'[j]? = ρ[j]?
theorem zbz {k i:Nat}(h:i<k):LocG k (zbJ i):=λd ρ Q q=>⟨q,by rw[List.length_set],λj hj=>by rw[List.getElem?_set_ne (by lia)]⟩
theorem zmp {k n:Nat}{t:TPGs}(h:znN k t):LocG k (zdP n t):=λd ρ Q q=>by
 obtain⟨ds,e,l,q⟩:=q;exact⟨ds,e,l,h ds ρ _ q⟩
noncomputable abbrev TPI:=PEnv->(List PV->Bool->Prop)->Prop
noncomputable def Walk (K:PySem.W.Frag)(Fz:FZ)(o:Bool)(J:It)(its:List PV)(H:Hp):Prop:=∀H2,(Same H H2\/(o=false/\zjf Fz H H2))->∀i:Nat,
 (∀d,its[i]? = some d->J.go i H2/\∀x H3,J.yld i H2 x H3->Same H2 H3/\Den K Fz H3 d x)/\(its.length<=i->J.stop i H2)
noncomputable def znO (K:PySem.W.Frag)(t:TPI):TI:=λσ H R=>∃ρ Fz,Rel K Fz ρ σ H/\t ρ λits o=>∀J Fz' H',Ext Fz H Fz' H'->Walk K Fz' o J its H'->R J H'
structure PuI (X:Cx)(tg iter:Expr)(t:TPI):Prop where
 mono:∀ρ Q Q',(∀its o,Q its o->Q' its o)->t ρ Q->t ρ Q'
 run:PI X tg iter (znO X.K t)
theorem PI.weak {X:Cx}{tg e:Expr}{t t':TI}(h:PI X tg e t)(w:∀σ H Q,t' σ H Q->t σ H Q):PI X tg e t':=λpins s σ H Q I q=>h pins s σ H Q I (w σ H Q q)
noncomputable def isOwn:Kd->Bool
 | .own _=>true
 | _=>false
noncomputable def iLst (te:TPE):TPI:=λρ Q=>te ρ λd k=>∃ds,d=.lst ds/\Q ds (isOwn k)
section
variable {X:Cx}{tg e:Expr}{te:TPE}
theorem zbl (he:PuE X e te):PuI X tg e (iLst te) where
 mono ρ Q Q' m h:=he.mono ρ _ _ (λd k q57q=>by obtain⟨ds,e,q⟩:=q57q;exact⟨ds,e,m _ _ q⟩) h
 run:=PI.weak (ziD he.run) λσ H Rr h=>by
  obtain⟨ρ,Fz,R,h⟩:=h;refine⟨ρ,Fz,R,he.mono ρ _ _ (λd k q v Fz' H' p=>?_) h⟩;obtain⟨ds,e,q⟩:=q;subst e;have rt:=p.root R;obtain⟨a,xs,rfl,h1,h2⟩:=zai rt;refine⟨a,rfl,⟨xs,h1⟩,?_⟩;have walk:∀(F2:FZ) (o:Bool),(∀b,Fz' b->F2 b)->(∀H2,(Same H' H2\/(o=false/\zjf F2 H' H2))->SqL X.K H2 a xs/\Keep F2 H' H2)->Walk X.K F2 o (Itl X.K a) ds H':=λF2 o s2 st H2 hH i=>by
   obtain⟨g1,g2⟩:=st H2 hH;have g3:DenL X.K F2 H2 ds xs:=DenL.mono g2 (λ_ h=>h) _ _ (DenL.mono (Keep.of (Same.refl _)) s2 _ _ h2);have hl:=g3.length;refine⟨λd hd=>?_,λhi=>⟨xs,g1,by lia⟩⟩;obtain⟨v,q1,q2⟩:=g3.get hd;exact⟨⟨xs,v,g1,q1⟩,λx H3 ⟨e,y⟩=>by
    subst e;have:=y xs g1;rw[q1]at this;cases this;exact⟨Same.refl _,q2⟩⟩
  cases k with
  | own i=>exact q _ Fz' H' p.ext (walk Fz' true (λ_ h=>h) λH2 hH=>by
    rcases hH with hH | ⟨z,_⟩
    ·exact⟨hH.seq h1,.of hH⟩
    ·cases z)
  | frz=>
   have pd:Den X.K Fz' H' (.lst ds) (.ref a):=p.opd;simp only[Den]at pd;obtain⟨a',xs',e,h3,h4⟩:=pd;cases e;refine q _ Fz' H' p.ext ?_;intro H2 hH i;have kp:Keep Fz' H' H2:=hH.elim (λz=>.of z) (λz=>.mk' z.2);have g1:SqL X.K H2 a xs':=h3.elim (λh=>.inl (kp.rd trivial h.1 h.2)) KX.sq;have g3:DenL X.K Fz' H2 ds xs':=DenL.mono kp (λ_ h=>h) _ _ h4;have hl:=g3.length;refine⟨λd hd=>?_,λhi=>⟨xs',g1,by lia⟩⟩;obtain⟨v,q1,q2⟩:=g3.get hd;exact⟨⟨xs',v,g1,q1⟩,λx H3 ⟨e,y⟩=>by
    subst e;have:=y xs' g1;rw[q1]at this;cases this;exact⟨Same.refl _,q2⟩⟩
  | new=>
   obtain⟨b,e,hn,nf,o⟩:=p.opd;cases e;obtain⟨xs',o1,o2⟩:=o;refine q _ (λb=>Fz' b\/b=a) H' (p.ext.add hn (by rw[o1];exact λz=>nomatch z)) ?_;intro H2 hH i;have kp:Keep (λb=>Fz' b\/b=a) H' H2:=hH.elim (λz=>.of z) (λz=>.mk' z.2);have g1:SqL X.K H2 a xs':=.inl (kp.rd trivial (.inr rfl) (.inl o1));have g3:DenL X.K (λb=>Fz' b\/b=a) H2 ds xs':=DenL.mono kp (λ_ h=>h) _ _ (DenL.mono (Keep.of (Same.refl _)) (λ_ h=>.inl h) _ _ o2);have hl:=g3.length;refine⟨λd hd=>?_,λhi=>⟨xs',g1,by lia⟩⟩;obtain⟨v,q1,q2⟩:=g3.get hd;exact⟨⟨xs',v,g1,q1⟩,λx H3 ⟨e,y⟩=>by
    subst e;have:=y xs' g1;rw[q1]at this;cases this;exact⟨Same.refl _,q2⟩⟩
end
noncomputable def rngP (lo:Int)(n:Nat):List PV:=(List.range n).map λ(i:Nat)=>PV.int (lo+i)
theorem zcl (lo:Int)(n:Nat):(rngP lo n).length=n:=by simp[rngP]
theorem zcM {lo:Int}{n i:Nat}{d:PV}(h:(rngP lo n)[i]? = some d):i<n/\d=.int (lo+i):=by
 have hi:i<n:=by have:=(List.getElem?_eq_some_iff.mp h).1;rw[zcl]at this;exact this
 refine⟨hi,?_⟩;unfold rngP at h;rw[List.getElem?_map,List.getElem?_range hi]at h;exact(Option.some.inj h).symm
noncomputable def zbF (t:TPA):TPI:=λρ Q=>t ρ λops=>∃j:Int,ops.map (·.1)=[.int j]/\-(2 ^ 62)<=j/\j<2 ^ 62/\Q (rngP 0 j.toNat) false
theorem zkI {K:PySem.W.Frag}{Fz:FZ}{lo:Int}{n:Nat}{H:Hp}:Walk K Fz false (Itr lo n) (rngP lo n) H:=λH2 _ i=>by
 refine⟨λd hd=>?_,λhi=>by rw[zcl]at hi;exact hi⟩;obtain⟨h1,rfl⟩:=zcM hd;exact⟨h1,λx H3 q61q=>by obtain⟨e,y⟩:=q61q;subst e y;exact⟨Same.refl _,by simp only[Den]⟩⟩
section
variable {X:Cx}{tg a b:Expr}{t:TPA}{p pos:Pos}
theorem zcm (hg:Gl X "range") (hm:X.mg "range" = none) (ha:PuA X [a] t) (hs:autoParam (starEach [a] X.env=[(false,eval a X.env)]) aU0):PuI X tg (.Call (.Name "range" p) [a] [] pos) (zbF t) where
 mono ρ Q Q' m h:=ha.mono ρ _ _ (λops q62q=>by obtain⟨j,e,h1,h2,q⟩:=q62q;exact⟨j,e,h1,h2,m _ _ q⟩) h
 run:=PI.weak (ziE hg hm ha.run hs) λσ H Rr h=>by
  obtain⟨ρ,Fz,R,h⟩:=h;refine⟨ρ,Fz,R,ha.mono ρ _ _ (λops q vs Fz' H' x o=>?_) h⟩;obtain⟨j,e,h1,h2,q⟩:=q;have rl:=o.root R x;rw[e]at rl;cases rl with
  | cons r1 r2=>
   cases r2;exact⟨j,by rw[zaG r1],h1,h2,q _ Fz' H' x zkI⟩
end
noncomputable def pFor (ti:TPI)(g:TPG)(tb:TPS):TPS:=λρ O=>ti ρ λits o=>o=false/\∃Inv:Nat->PEnv->Prop,Inv 0 ρ/\
 (∀i d ρ',its[i]? = some d->Inv i ρ'->g d ρ' (Hold tb { O with nx:=Inv (i+1),ct:=Inv (i+1),bk:=O.nx }))/\∀ρ',Inv its.length ρ'->O.nx ρ'
theorem Step.kept {K:PySem.W.Frag}{ρ:PEnv}{σ:St}{Fz Fz':FZ}{H H':Hp}(R:Rel K Fz ρ σ H)(s:Step ρ σ Fz H Fz' H'):zjf Fz H H':=λb o e w=>by
 refine s.keep b o e λ q63q=>?_;obtain⟨i,d,h1,h2⟩:=q63q;obtain⟨a,q1,q2,q3⟩:=R.own i d h1;rw[h2]at q1;cases q1;rcases w with w | w
 ·exact q2 w
 ·obtain⟨o',q4,q5⟩:=q3.at;rw[e]at q4;cases q4;exact q5 w
section
variable {X:Cx}{tg iter c:Expr}{body:List Stmt}{ti:TPI}{g:TPG}{tb:TPS}{tc:TPT}{pos:Pos}
theorem zkJ (hgm:∀d ρ Q Q',(∀ρ,Q ρ->Q' ρ)->g d ρ Q->g d ρ Q')(hbm:∀ρ O O',POut.le O O'->tb ρ O->tb ρ O'){K:PySem.W.Frag}{ρ:PEnv}{σ:St}{Fz1:FZ}{H1:Hp}{D:Ends}{J:It}{its:List PV}{O:POut}(R1:Rel K Fz1 ρ σ H1)(wk:Walk K Fz1 false J its H1)(Iv:Nat->PEnv->Prop)(h0:Iv 0 ρ)
  (hstep:∀i d ρ',its[i]? = some d->Iv i ρ'->g d ρ' (Hold tb { O with nx:=Iv (i+1),ct:=Iv (i+1),bk:=O.nx })) (hO:O.le (zcz K D ρ σ Fz1 H1)) (hdone:∀ρ',Iv its.length ρ'->O.nx ρ') :
  ∃W:Nat->Nat->St->Hp->Prop,(∃m,W 0 m σ H1)/\∀i m σ H,W i m σ H->
   (J.stop i H/\D.nx σ H)\/(J.go i H/\∃N:St->Hp->Prop,(∀σ' H',N σ' H'->∃m',m'<m/\W (i+1) m' σ' H')/\∀x H',J.yld i H x H'->zfR K g x σ H' λσ2 H2=>zkE K tb { D with nx:=N,ct:=N,bk:=D.nx } σ2 H2):=by
 refine⟨λi m σ' H'=>m=its.length-i/\i<=its.length/\∃ρ' F',Rel K F' ρ' σ' H'/\Iv i ρ'/\Step ρ σ Fz1 H1 F' H'/\zau ρ σ H1 ρ' σ',
  ⟨its.length,by lia,Nat.zero_le _,ρ,Fz1,R1,h0,.of ⟨Same.refl _,λ_ h=>h,λ_ h=>.inl h,R1.al⟩,zau.refl ρ σ H1⟩,?_⟩
 rintro i m σ' H' ⟨rfl,hle,ρ',F',R',hI,s',o'⟩;have kp:zjf Fz1 H1 H':=s'.kept R1;obtain⟨wgo,wstop⟩:=wk H' (.inr ⟨rfl,kp⟩) i;by_cases hlt:i<its.length
 ·obtain⟨go,yl⟩:=wgo its[i] (List.getElem?_eq_getElem hlt);refine .inr ⟨go,λσ2 H2=>∃ρ2 F2,Rel K F2 ρ2 σ2 H2/\Iv (i+1) ρ2/\Step ρ σ Fz1 H1 F2 H2/\zau ρ σ H1 ρ2 σ2,λσ2 H2 hN=>⟨its.length-(i+1),by lia,rfl,hlt,hN⟩,λxv H2 y=>?_⟩;obtain⟨sm,dn⟩:=yl xv H2 y;have x2:Ext F' H' F' H2:=⟨sm,λ_ h=>h,λ_ h=>.inl h,λb hb z=>R'.al b hb (sm.free z)⟩;refine⟨ρ',F',its[i],R'.ext x2,Den.mono (Keep.of (Same.refl _)) s'.sub _ _ dn,hgm _ ρ' _ _ (λρ2 q σ2 R2 o2=>?_) (hstep i its[i] ρ' (List.getElem?_eq_getElem hlt) hI)⟩;have so:zau ρ σ H1 ρ2 σ2:=λb hb=>o' b (o2 b hb);have st:Step ρ σ Fz1 H1 F' H2:=s'.trans o' (.of x2);refine⟨ρ2,F',R2,hbm ρ2 { O with nx:=Iv (i+1),ct:=Iv (i+1),bk:=O.nx } _ ⟨λρ3 q σ3 F3 H3 s3 o3 R3=>?_,λd k q v F3 H3 s3 al r=>?_,λρ3 q σ3 F3 H3 s3 o3 R3=>?_,λρ3 q σ3 F3 H3 s3 o3 R3=>?_⟩ q⟩
  ·exact⟨ρ3,F3,R3,q,st.trans so s3,zau.trans st so o3⟩
  ·refine hO.rt d k q v F3 H3 (st.trans so s3) al ?_;cases k with
   | frz=>exact r
   | own j=>exact r
   | new=>
    obtain⟨a,e,nf,ow,w⟩:=r;refine⟨a,e,nf,ow,?_⟩;rcases w with w | w
    ·exact so a w
    ·exact(st.none w).symm
  ·exact hO.nx ρ3 q σ3 F3 H3 (st.trans so s3) (zau.trans st so o3) R3
  ·exact⟨ρ3,F3,R3,q,st.trans so s3,zau.trans st so o3⟩
 ·have e:i=its.length:=by lia
  subst e;exact .inl ⟨wstop (Nat.le_refl _),hO.nx ρ' (hdone ρ' hI) σ' F' H' s' o' R'⟩
theorem zjn (him:∀ρ Q Q',(∀its o,Q its o->Q' its o)->ti ρ Q->ti ρ Q')(hgm:∀d ρ Q Q',(∀ρ,Q ρ->Q' ρ)->g d ρ Q->g d ρ Q')(hbm:∀ρ O O',POut.le O O'->tb ρ O->tb ρ O'):∀ρ O O',POut.le O O'->pFor ti g tb ρ O->pFor ti g tb ρ O':=λρ O O' m h=>
 him ρ _ _ (λits o q64q=>by obtain⟨e,I,h0,hs,hd⟩:=q64q;exact⟨e,I,h0,λi d ρ' hi hI=>hgm d ρ' _ _ (λρ2 q=>hbm ρ2 { O with nx:=I (i+1),ct:=I (i+1),bk:=O.nx } _ ⟨λ_ q=>q,m.rt,m.nx,λ_ q=>q⟩ q) (hs i d ρ' hi hI),λρ' hI=>m.nx _ (hd ρ' hI)⟩) h
theorem zcA (hc:X.calm=true)(hp:PassesOwn (model X.prog X.w) X.A X.env X.xe)(hi:PuI X tg iter ti)(hg:PuG X tg g)(hb:PuSs X body tb)(hs:autoParam (∀x,foldedSetIterable iter X.env x=pure x) aU3):PuS X (.For tg iter body [] pos) (pFor ti g tb) where
 mono:=zjn hi.mono hg.mono hb.mono
 run:=PS.weak (zni hp hc hi.run hg.run hb.run hs) λD σ H h=>by
  obtain⟨ρ,Fz,R,h⟩:=h;refine⟨ρ,Fz,R,hi.mono ρ _ _ (λits o q J Fz1 H1 x wk=>?_) h⟩;obtain⟨rfl,Iv,h0,hstep,hdone⟩:=q;exact zkJ hg.mono hb.mono (R.ext x) wk Iv h0 hstep (zbe (.of x) (zau.refl ρ σ H)) hdone
end
theorem _root_.L2.Same.upd' {H H':Hp}{l:Addr}{o:HO}(s:Same H H')(h:H l=none):Same H (L2.upd H' l o):=λb u e=>by
 rw[zap (zaC e h)];exact s b u e
structure PuTs (X:Cx)(ifs:List Expr)(t:TPT):Prop where
 mono:∀ρ Q Q',(∀b,Q b->Q' b)->t ρ Q->t ρ Q'
 run:PTs X ifs (liftT X.K t)
noncomputable def zdc:TPT:=λ_ Q=>Q true
theorem PTs.weak {X:Cx}{e:List Expr}{t t':TT}(h:PTs X e t)(w:∀σ H Q,t' σ H Q->t σ H Q):PTs X e t':=λpins s σ H Q I q=>h pins s σ H Q I (w σ H Q q)
theorem zbP {X:Cx}:PuTs X [] zdc where
 mono ρ Q Q' m h:=m _ h
 run:=PTs.weak zmd λσ H Q h=>by
  obtain⟨ρ,Fz,R,h⟩:=h;exact h Fz H ⟨Same.refl H,λ_ h=>h,λ_ h=>.inl h,R.al⟩
theorem zkK {X:Cx}{c:Expr}{t:TPT}(h:PuT X c t):PuTs X [c] t:=⟨h.mono,zme h.run⟩
noncomputable def blkP (k:Nat)(js:List Nat)(ρ:PEnv):PEnv:=List.replicate k none++js.map λj=>(ρ[j]?).getD none
noncomputable def zdd (k:Nat)(js:List Nat)(ti:TPI)(g:TPG)(tt:TPT)(te:TPE):TPE:=λρ Q=>ti ρ λits _=>its.length<=sizeLine/\∃Pv:Nat->List PV->Prop,Pv 0 []/\
 (∀i d out,its[i]? = some d->out.length<=i->Pv i out->g d (blkP k js ρ) λρ2=>tt ρ2 λb=>if b=true then te ρ2 λe ke=>isOwn ke=false/\Pv (i+1) (out++[e]) else Pv (i+1) out)/\
 ∀out,out.length<=its.length->Pv its.length out->Q (.lst out) .new
structure PBlk (X:Cx)(N:List Str)(sc:Scope)(tg:Expr)(ifs:List Expr)(elt:Expr)(g:TPG)(tt:TPT)(te:TPE):Prop where
 tgt:∀C cells fp s H,PuG (cxB X N sc C cells fp s H) tg g
 tst:∀C cells fp s H,PuTs (cxB X N sc C cells fp s H) ifs tt
 val:∀C cells fp s H,PuE (cxB X N sc C cells fp s H) elt te
theorem PBlk.blk {X:Cx}{N:List Str}{sc:Scope}{tg:Expr}{ifs:List Expr}{elt:Expr}{g:TPG}{tt:TPT}{te:TPE}(B:PBlk X N sc tg ifs elt g tt te):Blk X N sc tg ifs elt (zfR X.K g) (liftT X.K tt) (lift X.K te):=
 ⟨λC cells fp s H=>(B.tgt C cells fp s H).run,λC cells fp s H=>(B.tst C cells fp s H).run,λC cells fp s H=>(B.val C cells fp s H).run⟩
theorem zcd {k:Nat}{js:List Nat}{ρ:PEnv}{i:Nat}{d:PV}{b:Bool}(h:(blkP k js ρ)[i]? = some (some (d,b))):∃i' j,i=k+i'/\js[i']? = some j/\ρ[j]? = some (some (d,b)):=by
 unfold blkP at h;have hik:k<=i:=by
  by_cases hik:k<=i
  ·exact hik
  ·rw[List.getElem?_append_left (by simp;lia),List.getElem?_replicate]at h;split at h<;>cases h
 obtain⟨i',rfl⟩:∃i',i=k+i':=⟨i-k,by lia⟩;rw[List.getElem?_append_right (by simp),List.length_replicate,show k+i'-k=i' by lia,List.getElem?_map]at h;cases hj:js[i']? with
 | none=>rw[hj]at h;cases h
 | some j=>
  rw[hj]at h;refine⟨i',j,rfl,hj,?_⟩;have h':(ρ[j]?).getD none=some (d,b):=Option.some.inj h;cases q:ρ[j]? with
  | none=>rw[q]at h';cases h'
  | some o=>rw[q]at h';exact congrArg some h'
theorem zce {k:Nat}{js:List Nat}{σ:St}{i' j:Nat}{o:Option V}(hj:js[i']? = some j)(h:σ[j]? = some o):(zca k js σ)[k+i']? = some o:=by
 unfold zca;rw[List.getElem?_append_right (by simp),List.length_replicate,show k+i'-k=i' by lia,List.getElem?_map,hj];show some ((σ[j]?).getD none)=_;rw[h];rfl
theorem Rel.block {K:PySem.W.Frag}{Fz:FZ}{ρ:PEnv}{σ:St}{H:Hp}{k:Nat}{js:List Nat}(R:Rel K Fz ρ σ H)(nd:js.Nodup):Rel K Fz (blkP k js ρ) (zca k js σ) H where
 al:=R.al
 len:=by unfold blkP zca;simp
 frz i d h:=by
  obtain⟨i',j,rfl,hj,h⟩:=zcd h;obtain⟨v,e,q⟩:=R.frz j d h;exact⟨v,zce hj e,q⟩
 own i d h:=by
  obtain⟨i',j,rfl,hj,h⟩:=zcd h;obtain⟨a,e,n,q⟩:=R.own j d h;exact⟨a,zce hj e,n,q⟩
 inj i1 i2 d e a h1 h2 h3 h4:=by
  obtain⟨i',j,rfl,hj,h1⟩:=zcd h1;obtain⟨i'',j',rfl,hj',h2⟩:=zcd h2;obtain⟨a1,e1,_,_⟩:=R.own j d h1;obtain⟨a2,e2,_,_⟩:=R.own j' e h2;rw[zce hj e1]at h3;rw[zce hj' e2]at h4;have ea1:a1=a:=by have:=Option.some.inj (Option.some.inj h3);injection this
  have ea2:a2=a:=by have:=Option.some.inj (Option.some.inj h4);injection this
  subst ea1;subst ea2;have ej:=R.inj j j' d e _ h1 h2 e1 e2;subst ej;have l1:i'<js.length:=(List.getElem?_eq_some_iff.mp hj).1;have e1':i'=i'':=(List.getElem?_inj l1 nd).mp (hj.trans hj'.symm);rw[e1']
theorem zjo {ρ:PEnv}{σ:St}{k:Nat}{js:List Nat}{Fz:FZ}{K:PySem.W.Frag}{H:Hp}(R:Rel K Fz ρ σ H){b:Addr}(h:zaI (blkP k js ρ) (zca k js σ) b):zaI ρ σ b:=by
 obtain⟨i,d,h1,h2⟩:=h;obtain⟨i',j,rfl,hj,h1⟩:=zcd h1;obtain⟨a1,e1,_,_⟩:=R.own j d h1;rw[zce hj e1]at h2;cases h2;exact⟨j,d,h1,e1⟩
theorem Rel.zgH {K:PySem.W.Frag}{Fz:FZ}{ρ ρ':PEnv}{σ:St}{H:Hp}{k:Nat}{js:List Nat}(R:Rel K Fz ρ' σ H)(hl:ρ'.length=(blkP k js ρ).length)(hs:∀j,k<=j->ρ'[j]? = (blkP k js ρ)[j]?):Rel K Fz (blkP k js ρ) σ H:=by
 have tr:∀i d b,(blkP k js ρ)[i]? = some (some (d,b))->ρ'[i]? = some (some (d,b)):=λi d b h=>by
  obtain⟨i',j,rfl,_⟩:=zcd h;rw[hs _ (by lia)];exact h
 exact⟨R.al,by rw[<- hl];exact R.len,λi d h=>R.frz i d (tr _ _ _ h),λi d h=>R.own i d (tr _ _ _ h),λi j d e a h1 h2=>R.inj i j d e a (tr _ _ _ h1) (tr _ _ _ h2)⟩
theorem Rel.other {K:PySem.W.Frag}{Fz:FZ}{ρ:PEnv}{σ:St}{H:Hp}{l:Addr}{o u:HO}(R:Rel K Fz ρ σ H)(h:H l=some u)(hi:¬ Imm u)(nf:¬ Fz l)(no:¬ zaI ρ σ l):Rel K Fz ρ σ (upd H l o):=by
 have kp:Keep Fz H (upd H l o):=.mk' λb w e hw=>by
  have ne:b≠l:=λz=>by
   subst z;rcases hw with hw | hw
   ·exact nf hw
   ·rw[h]at e;cases e;exact hi hw
  rw[zap ne];exact e
 refine⟨λb hb=>?_,R.len,λi d e=>?_,λi d e=>?_,R.inj⟩
 ·have ne:b≠l:=λz=>by subst z;exact nf hb
  rw[zap ne];exact R.al b hb
 ·obtain⟨v,q1,q2⟩:=R.frz i d e;exact⟨v,q1,Den.mono kp (λ_ h=>h) _ _ q2⟩
 ·obtain⟨a,q1,q2,q3⟩:=R.own i d e;refine⟨a,q1,q2,q3.mono kp (λ_ h=>h) λw hw=>?_⟩;have ne:a≠l:=λz=>by subst z;exact no ⟨i,d,e,q1⟩
  rw[zap ne];exact hw
section
variable {X:Cx}{elt tg iter:Expr}{ifs:List Expr}{sc:Scope}{pos:Pos}{N:List Str}{k:Nat}{js:List Nat}{ti:TPI}{g:TPG}{tt:TPT}{te:TPE}
theorem zjp (hi:PuI X tg iter ti)(B:PBlk X N sc tg ifs elt g tt te):∀ρ Q Q',(∀d k,Q d k->Q' d k)->zdd k js ti g tt te ρ Q->zdd k js ti g tt te ρ Q':=
 λρ Q Q' m h=>hi.mono ρ _ _ (λits o q65q=>by obtain⟨hz,Pv,h0,hs,hd⟩:=q65q;exact⟨hz,Pv,h0,hs,λout hl hp=>m _ _ (hd out hl hp)⟩) h
theorem zjq (nd:js.Nodup)(hloc:LocG k g)(B:PBlk X N sc tg ifs elt g tt te){ρ:PEnv}{σ:St}{H H1:Hp}{Fz1:FZ}{o:Bool}{J:It}{its:List PV}{l:Addr}{Rr:Hp->Prop}(R1:Rel X.K Fz1 ρ σ H1)(wk:Walk X.K Fz1 o J its H1)(hl:H1 l=none)(hz:its.length<=sizeLine)(Pv:Nat->List PV->Prop)(h0:Pv 0 [])
  (hstep:∀i d out,its[i]? = some d->out.length<=i->Pv i out->g d (blkP k js ρ) λρ2=>tt ρ2 λb=>if b=true then te ρ2 λe ke=>isOwn ke=false/\Pv (i+1) (out++[e]) else Pv (i+1) out)
  (hdone:∀F' out xs H',Ext Fz1 H1 F' H'->H' l=some (.lst xs)->DenL X.K F' H' out xs->¬ F' l->out.length<=its.length->Pv its.length out->Rr H') :
  zfC J (zfR X.K g) (liftT X.K tt) (lift X.K te) l (zca k js σ) H1 Rr:=by
 have mg:=(B.tgt 0 [] [] X.s₀ H).mono;have mt:=(B.tst 0 [] [] X.s₀ H).mono;have me:=(B.val 0 [] [] X.s₀ H).mono;have nf1:¬ Fz1 l:=λz=>R1.al l z hl;have no1:¬ zaI ρ σ l:=λ⟨i,d,h1,h2⟩=>by
  obtain⟨a,q1,_,q3⟩:=R1.own i d h1;rw[h2]at q1;cases q1;obtain⟨o',q4,_⟩:=q3.at;rw[hl]at q4;cases q4
 refine⟨λi m σ' H'=>m=its.length-i/\i<=its.length/\∃F' out xs,Rel X.K F' (blkP k js ρ) σ' H'/\(∀b,zaI (blkP k js ρ) σ' b->zaI ρ σ b)/\H' l=some (.lst xs)/\DenL X.K F' H' out xs/\¬ F' l/\out.length<=i/\Pv i out/\Same H1 H'/\(∀b,Fz1 b->F' b)/\(∀b,F' b->Fz1 b\/H1 b=none),
  ⟨its.length,by lia,Nat.zero_le _,Fz1,[],[],?_,λb hb=>zjo R1 hb,zam,DenL.nil,nf1,Nat.zero_le _,h0,(Same.refl H1).upd' hl,λ_ h=>h,λ_ h=>.inl h⟩,?_⟩
 ·have x0:Ext Fz1 H1 Fz1 (upd H1 l (.lst [])):=Ext.laid ⟨Same.refl _,λ_ h=>h,λ_ h=>.inl h,R1.al⟩ hl;exact(R1.block nd).ext x0
 rintro i m σ' H' ⟨rfl,hle,F',out,xs,Rb,ob,hlx,hout,nfl,hol,hP,sm,s1,s2⟩;obtain⟨wgo,wstop⟩:=wk H' (.inl sm) i;by_cases hlt:i<its.length
 ·obtain⟨go,yl⟩:=wgo its[i] (List.getElem?_eq_getElem hlt);refine .inr ⟨go,λxv H2 y=>?_⟩;obtain⟨sm2,dn⟩:=yl xv H2 y;have x2:Ext F' H' F' H2:=⟨sm2,λ_ h=>h,λ_ h=>.inl h,λb hb z=>Rb.al b hb (sm2.free z)⟩;refine⟨blkP k js ρ,F',its[i],Rb.ext x2,Den.mono (Keep.of (Same.refl _)) s1 _ _ dn,mg _ _ _ _ (λρ2 ⟨q,l2,a2⟩ σ2 R2 o2=>?_) (hloc _ _ _ (hstep i its[i] out (List.getElem?_eq_getElem hlt) hol hP))⟩;refine⟨ρ2,F',R2,mt ρ2 _ _ (λb q F4 H4 x4=>?_) q⟩;have R4:Rel X.K F4 ρ2 σ2 H4:=R2.ext x4;have own2:∀b,zaI (blkP k js ρ) σ2 b->zaI ρ σ b:=λb ⟨j,d,h1,h2⟩=>by
   refine ob b (o2 b ⟨j,d,?_,h2⟩);obtain⟨i',j',e,_⟩:=zcd h1;rw[a2 j (by lia)];exact h1
  have hl4:H4 l=some (.lst xs):=x4.same _ _ (sm2 _ _ hlx);have nf4:¬ F4 l:=λz=>by
   rcases x4.new l z with z | z
   ·exact nfl z
   ·rw[sm2 _ _ hlx]at z;cases z
  cases b with
  | false=>
   rw[if_neg Bool.false_ne_true]at q;refine iteF ⟨its.length-(i+1),by lia,rfl,hlt,F4,out,xs,Rel.zgH R4 l2 a2,own2,hl4,DenL.mono (.of (sm2.trans x4.same)) x4.sub _ _ hout,nf4,by lia,q,sm.trans (sm2.trans x4.same),λb hb=>x4.sub b (s1 b hb),λb hb=>?_⟩;rcases x4.new b hb with z | z
   ·exact s2 b z
   ·exact .inr (sm.free (sm2.free z))
  | true=>
   rw[if_pos rfl]at q;refine iteT ⟨ρ2,F4,R4,me ρ2 _ _ (λe ke q69q v F5 H5 p5=>?_) q⟩;obtain⟨hk,q⟩:=q69q;have hk':ke=.frz\/ke=.new:=by
    cases ke with
    | frz=>exact .inl rfl
    | new=>exact .inr rfl
    | own j=>cases hk
   obtain⟨F6,x6,s6,d6⟩:=p5.frozen hk';have hl5:H5 l=some (.lst xs):=x6.same _ _ hl4;have nf6:¬ F6 l:=λz=>by
    rcases x6.new l z with z | z
    ·exact nf4 z
    ·rw[hl4]at z;cases z
   have R6:Rel X.K F6 ρ2 σ2 H5:=R4.ext x6;have Rb6:Rel X.K F6 (blkP k js ρ) σ2 H5:=Rel.zgH R6 l2 a2;have no6:¬ zaI (blkP k js ρ) σ2 l:=λz=>no1 (own2 l z);have kp:Keep F6 H5 (upd H5 l (.lst (xs++[v]))):=.mk' λb w e hw=>by
    have ne:b≠l:=λz=>by
     subst z;rcases hw with hw | hw
     ·exact nf6 hw
     ·rw[hl5]at e;cases e;exact hw
    rw[zap ne];exact e
   have hxl:=hout.length;refine⟨xs,hl5,by lia,its.length-(i+1),by lia,rfl,hlt,F6,out++[e],xs++[v],Rb6.other hl5 (λz=>z) nf6 no6,own2,zam,?_,nf6,by rw[List.length_append];simp;lia,q,?_,λb hb=>x6.sub b (x4.sub b (s1 b hb)),λb hb=>?_⟩
   ·exact DenL.mono kp (λ_ h=>h) _ _ (DenL.snoc (DenL.mono (.of (sm2.trans (x4.same.trans x6.same))) (λb hb=>x6.sub b (x4.sub b hb)) _ _ hout) d6)
   ·exact(sm.trans (sm2.trans (x4.same.trans x6.same))).upd' hl
   ·rcases x6.new b hb with z | z
    ·rcases x4.new b z with z | z
     ·exact s2 b z
     ·exact .inr (sm.free (sm2.free z))
    ·exact .inr (sm.free (sm2.free (x4.same.free z)))
 ·have e:i=its.length:=by lia
  subst e;exact .inl ⟨wstop (Nat.le_refl _),hdone F' out xs H' ⟨sm,s1,s2,Rb.al⟩ hlx hout nfl hol hP⟩
theorem zjr (nd:js.Nodup)(hloc:LocG k g)(hi:PuI X tg iter ti)(B:PBlk X N sc tg ifs elt g tt te){σ:St}{H:Hp}{Q:VK}(h:lift X.K (zdd k js ti g tt te) σ H Q) :
  ziR k js (znO X.K ti) (zfR X.K g) (liftT X.K tt) (lift X.K te) σ H Q:=by
 obtain⟨ρ,Fz,R,h⟩:=h;refine⟨ρ,Fz,R,hi.mono ρ _ _ (λits o q J Fz1 H1 x wk l hl=>?_) h⟩;obtain⟨hz,Pv,h0,hstep,hdone⟩:=q;refine zjq (H:=H) nd hloc B (R.ext x) wk hl hz Pv h0 hstep λF' out xs H' x' hlx hout nfl hol hP=>?_;exact hdone out hol hP _ F' H' ⟨x.trans x',l,rfl,x.same.free hl,nfl,xs,hlx,hout⟩
theorem zcB (hc:X.calm=true)(S:zbs X N k js sc)(nd:js.Nodup)(hloc:LocG k g)(hi:PuI X tg iter ti)(B:PBlk X N sc tg ifs elt g tt te)(hs:autoParam (∀x,foldedSetIterable iter X.env x=pure x) aU3) :
  PuE X (.ListComp elt [⟨tg,iter,ifs,0⟩] sc pos) (zdd k js ti g tt te):=
 ⟨zjp hi B,PE.weak (zmf hc S hi.run B.blk hs) λ_ _ _ h=>zjr nd hloc hi B h⟩
end
noncomputable def zaT (N:List Str)(ds:List PV):PEnv:=ds.map (λd=>some (d,false))++List.replicate (N.length-ds.length) none
noncomputable def zbK (Q:PV->Kd->Prop):POut:=⟨λ_=>Q .non .frz,Q,λ_=>False,λ_=>False⟩
theorem zmq {K:PySem.W.Frag}{F:PF}{ps:List Str}(h:∀ds Q,F ds Q->ds.length=ps.length):∀vs H Q E,spP K F vs H Q E->vs.length=ps.length:=λvs H Q E q70q=>by obtain⟨Fz,ds,_,hd,q⟩:=q70q;rw[<- hd.length];exact h _ _ q
theorem zdQ {K:PySem.W.Frag}{Fz:FZ}{H:Hp}{N:List Str}{ds:List PV}{vs:List V}(al:∀b,Fz b->H b≠none)(h:DenL K Fz H ds vs):Rel K Fz (zaT N ds) (start N vs) H/\∀σ b,¬ zaI (zaT N ds) σ b:=by
 have hl:=h.length;have get:∀(i:Nat) (d:PV) (b:Bool),(zaT N ds)[i]? = some (some (d,b))->b=false/\ds[i]? = some d:=λi d b e=>by
  unfold zaT at e;by_cases hi:i<ds.length
  ·rw[List.getElem?_append_left (by simpa using hi),List.getElem?_map,List.getElem?_eq_getElem hi]at e;have e':(some (ds[i],false):Option (PV×Bool))=some (d,b):=Option.some.inj e;have e2:=Option.some.inj e';exact⟨(congrArg Prod.snd e2).symm,by rw[List.getElem?_eq_getElem hi];exact congrArg some (congrArg Prod.fst e2)⟩
  ·rw[List.getElem?_append_right (by simpa using hi),List.getElem?_replicate]at e;split at e<;>cases e
 refine⟨⟨al,by unfold zaT L2.start;simp[hl],λi d e=>?_,λi d e=>?_,λi j d e a h1=>?_⟩,λσ b ⟨i,d,e,_⟩=>?_⟩
 ·obtain⟨_,e'⟩:=get i d false e;obtain⟨v,q1,q2⟩:=h.get e';have hi:i<vs.length:=(List.getElem?_eq_some_iff.mp q1).1;refine⟨v,?_,q2⟩;unfold L2.start;rw[List.getElem?_append_left (by simpa using hi),List.getElem?_map,q1];rfl
 ·exact absurd (get i d true e).1 (by decide)
 ·exact absurd (get i d true h1).1 (by decide)
 ·exact absurd (get i d true e).1 (by decide)
section
variable {P:Program}{w:World}{K:PySem.W.Frag}{mg:Str->Option Value}{base:Heap}
theorem zaL {x qual:Str}{st:Stmt}{f:Addr}{fd:FuncData}{N ps:List Str}{k:Nat}{F:PF}(Fn:Fun K x qual st f fd)(S:zas N ps (zac st))(len:∀ds Q,F ds Q->ds.length=ps.length)
  (hbody:∀(cdv:Value) (A:Around) (outer:List Env) (s:Shared) (H:Hp) (E:XK),Room k (A.deeper (envOfC qual (zac st) s.heap.objs.size f cdv))->
   ∃t,PuSs (cxOf CX0 P w K mg base N qual (zac st) f cdv A outer s H E).nox (zan st) t/\∀ds Q,F ds Q->t (zaT N ds) (zbK Q)):FnOk P w K mg base CX0 (k+1) f fd ps (spP K F):=by
 refine Fn.ok S (zmq len) (λcdv A outer s H vs Q E hr h=>?_);obtain⟨t,ht,hq⟩:=hbody cdv A outer s H E hr;obtain⟨Fz,ds,al,hd,h⟩:=h;obtain⟨R,no⟩:=zdQ (N:=N) al hd;refine⟨_,ht.run,zaT N ds,Fz,R,ht.mono _ (zbK _) _ ⟨λρ' q σ' F' H' s' o' R'=>?_,λd k q v F' H' s' al' r=>?_,λ_ z=>z.elim,λ_ z=>z.elim⟩ (hq ds _ h)⟩
 ·exact q .non F' H' ⟨⟨λb o e=>s'.keep b o e (no _ b),s'.sub,λb hb=>(s'.new b hb).elim .inl (λz=>z.elim .inr (λz=>(no _ b z).elim)),R'.al⟩,by show Den _ _ _ _ _;simp only[Den]⟩
 ·refine q v F' H' ⟨⟨λb o e=>s'.keep b o e (no _ b),s'.sub,λb hb=>(s'.new b hb).elim .inl (λz=>z.elim .inr (λz=>(no _ b z).elim)),al'⟩,?_⟩;cases k with
  | frz=>exact r
  | own i=>exact r.elim
  | new=>
   obtain⟨a,e,nf,o,w⟩:=r;exact⟨a,e,w.resolve_left (no _ a),nf,o⟩
end
theorem Rel.mut {K:PySem.W.Frag}{Fz:FZ}{ρ:PEnv}{σ:St}{H:Hp}{i:Nat}{d d':PV}{a:Addr}{o u:HO}(R:Rel K Fz ρ σ H)(hi:ρ[i]? = some (some (d,true)))(hs:σ[i]? = some (some (.ref a)))(hu:H a=some u)
  (ho:Own K Fz (upd H a o) d' a):Rel K Fz (ρ.set i (some (d',true))) σ (upd H a o)/\Step ρ σ Fz H Fz (upd H a o)/\zau ρ σ H (ρ.set i (some (d',true))) σ:=by
 obtain⟨a',e',nf,ow⟩:=R.own i d hi;rw[hs]at e';cases e';have hil:i<ρ.length:=(List.getElem?_eq_some_iff.mp hi).1;have im:¬ Imm u:=by obtain⟨o',q1,q2⟩:=ow.at;rw[hu]at q1;cases q1;exact q2
 have kp:Keep Fz H (upd H a o):=.mk' λb w e hw=>by
  have ne:b≠a:=λz=>by
   subst z;rcases hw with hw | hw
   ·exact nf hw
   ·rw[hu]at e;cases e;exact im hw
  rw[zap ne];exact e
 have st:∀j e,(ρ.set i (some (d',true)))[j]? = some (some (e,true))->∃e0,ρ[j]? = some (some (e0,true)):=λj e h=>by
  by_cases hij:i=j
  ·subst hij;exact⟨d,hi⟩
  ·rw[List.getElem?_set_ne hij]at h;exact⟨e,h⟩
 refine⟨⟨λb hb=>?_,by rw[List.length_set];exact R.len,λj e h=>?_,λj e h=>?_,λj k e1 e2 b h1 h2 h3 h4=>?_⟩,⟨λ_ h=>h,λ_ h=>.inl h,λb w e n=>?_⟩,λb ⟨j,e,h1,h2⟩=>?_⟩
 ·have ne:b≠a:=λz=>by subst z;exact nf hb
  rw[zap ne];exact R.al b hb
 ·by_cases hij:i=j
  ·subst hij;rw[List.getElem?_set_self hil]at h;cases h
  ·rw[List.getElem?_set_ne hij]at h;obtain⟨v,q1,q2⟩:=R.frz j e h;exact⟨v,q1,Den.mono kp (λ_ h=>h) _ _ q2⟩
 ·by_cases hij:i=j
  ·subst hij;rw[List.getElem?_set_self hil]at h;cases h;exact⟨a,hs,nf,ho⟩
  ·rw[List.getElem?_set_ne hij]at h;obtain⟨b,q1,q2,q3⟩:=R.own j e h;refine⟨b,q1,q2,q3.mono kp (λ_ h=>h) λw hw=>?_⟩;have ne:b≠a:=λz=>by subst z;exact hij (R.inj i j d e _ hi h hs q1)
   rw[zap ne];exact hw
 ·obtain⟨e1',g1⟩:=st j e1 h1;obtain⟨e2',g2⟩:=st k e2 h2;exact R.inj j k e1' e2' b g1 g2 h3 h4
 ·have ne:b≠a:=λz=>by subst z;exact n ⟨i,d,hi,hs⟩
  rw[zap ne];exact e
 ·obtain⟨e',g⟩:=st j e h1;exact .inl ⟨j,e',g,h2⟩
noncomputable abbrev TPM:=PEnv->(PV->PEnv->Prop)->Prop
noncomputable def liftM (K:PySem.W.Frag)(t:TPM):TE:=λσ H Q=>∃ρ Fz,Rel K Fz ρ σ H/\t ρ λd ρ'=>∀v Fz' H',Step ρ σ Fz H Fz' H'->zau ρ σ H ρ' σ->Rel K Fz' ρ' σ H'->Den K Fz' H' d v->Q v H'
structure PuM (X:Cx)(e:Expr)(t:TPM):Prop where
 mono:∀ρ Q Q',(∀d ρ,Q d ρ->Q' d ρ)->t ρ Q->t ρ Q'
 run:PE X e (liftM X.K t)
noncomputable def mApp (i:Nat)(te:TPE):TPM:=λρ Q=>∃ds,ρ[i]? = some (some (.lst ds,true))/\ds.length<sizeLine/\te ρ λd k=>isOwn k=false/\Q .non (ρ.set i (some (.lst (ds++[d]),true)))
noncomputable def zen (i:Nat)(te:TPM):TPM:=λρ Q=>∃ds0,ρ[i]? = some (some (.lst ds0,true))/\te ρ λd ρ'=>∃ds,ρ'[i]? = some (some (.lst ds,true))/\ds.length<sizeLine/\Q .non (ρ'.set i (some (.lst (ds++[d]),true)))
noncomputable def zcr (i:Nat)(te:TPE):TPM:=λρ Q=>∃ds,ρ[i]? = some (some (.lst ds,true))/\te ρ λe _=>∃(j:Int)(k:Nat)(d:PV),e=.int j/\-(2 ^ 63)<=j/\j<2 ^ 63/\seqIndex? j ds.length=some k/\ds[k]? = some d/\Q d (ρ.set i (some (.lst (ds.eraseIdx k),true)))
noncomputable def zeo (i:Nat)(te:TPE):TPM:=λρ Q=>∃ds,ρ[i]? = some (some (.lst ds,true))/\te ρ λd _=>∃es,d=.tup es/\ds.length+es.length<=sizeLine/\Q .non (ρ.set i (some (.lst (ds++es),true)))
theorem zcf {K:PySem.W.Frag}{Fz:FZ}{ρ:PEnv}{σ:St}{H:Hp}{i:Nat}{ds:List PV}(R:Rel K Fz ρ σ H)(h:ρ[i]? = some (some (.lst ds,true))):∃a xs,σ[i]? = some (some (.ref a))/\H a=some (.lst xs)/\DenL K Fz H ds xs/\¬ Fz a:=by
 obtain⟨a,e,nf,xs,h1,h2⟩:=R.own i _ h;exact⟨a,xs,e,h1,h2,nf⟩
theorem DenL.rew {K:PySem.W.Frag}{Fz:FZ}{H:Hp}{ds:List PV}{xs ys:List V}{a:Addr}{o:HO}(ha:H a=some (.lst ys))(nf:¬ Fz a)(h:DenL K Fz H ds xs):DenL K Fz (upd H a o) ds xs:=
 DenL.mono (.mk' λb w e hw=>by
  have ne:b≠a:=λz=>by
   subst z;rcases hw with hw | hw
   ·exact nf hw
   ·rw[ha]at e;cases e;exact hw
  rw[zap ne];exact e) (λ_ h=>h) _ _ h
section
variable {X:Cx}{x:Str}{e:Expr}{te:TPE}{tm:TPM}{p apos cpos:Pos}
theorem zeE (i:Nat)(he:PuE X e te)(hN:autoParam (X.N[i]? = some x) aU0)(hv:autoParam (Vis X.env.scope x) aU5)(hd:autoParam ((x == ("__debug__" : Str))=false) aU1) (hcd:autoParam ((x == ("__classdict__" : Str))=false) aU1)
  (hbase:autoParam (attributeBase (.Name x p) "append" X.env (eval (.Name x p) X.env)=eval (.Name x p) X.env) aU0)
  (hfew:autoParam (((backTo cpos (starEach [e] X.env)).all (λx=>!x.1)&&(backToKw cpos (keywordEach [] X.env)).all (λx=>x.1.isSome)&&decide ([e].length+([]:List Keyword).length+(if ([]:List Keyword).isEmpty then 0 else 1)<30))=true) aU0)
  (hline:autoParam ((apos.endLine == cpos.line)=true) aU0) (hs:autoParam (starEach [e] X.env=(false,eval e X.env)::starEach [] X.env) aU0) (hplain:autoParam ((backTo cpos (starEach [] X.env)).any (·.1)=false) aU0):PuM X (.Call (.Attribute (.Name x p) "append" apos) [e] [] cpos) (mApp i te) where
 mono ρ Q Q' m h:=by
  obtain⟨ds,e1,e2,h⟩:=h;exact⟨ds,e1,e2,he.mono ρ _ _ (λd k q73q=>by obtain⟨hk,q⟩:=q73q;exact⟨hk,m _ _ q⟩) h⟩
 run:=PE.weak (ziK PySem.F.plainAttrs_list PySem.F.slot_list_append PySem.F.type_list_append zcG (zbT hN hv hd hcd) (zaw he.run zbh hs) hbase hfew hline hs hplain) λσ H Q h=>by
  obtain⟨ρ,Fz,R,ds,e1,e2,h⟩:=h;obtain⟨a,xs,hs,ha,hd,nf⟩:=zcf R e1;refine⟨_,hs,.inl ⟨rfl,xs,SqL.of ha⟩,ρ,Fz,R,he.mono ρ _ _ (λd k q v F1 H1 p1=>?_) h⟩;obtain⟨hk,q⟩:=q;have hk':k=.frz\/k=.new:=by
   cases k with
   | frz=>exact .inl rfl
   | new=>exact .inr rfl
   | own j=>cases hk
  obtain⟨F2,x2,s2,d2⟩:=p1.frozen hk';have R2:=R.ext x2;obtain⟨a',xs',hs',ha',hd',nf'⟩:=zcf R2 e1;rw[hs]at hs';cases hs';have hl:=hd'.length;refine⟨a,xs',v,rfl,rfl,ha',by lia,?_⟩;have ow:Own X.K F2 (upd H1 a (.lst (xs'++[v]))) (.lst (ds++[d])) a:=⟨_,zam,(DenL.rew ha' nf' (DenL.snoc hd' d2))⟩;obtain⟨R3,s3,o3⟩:=R2.mut e1 hs ha' ow;exact q .non F2 _ ((Step.of x2).trans (zau.refl ρ σ H) s3) (zau.trans (Step.of x2) (zau.refl ρ σ H) o3) R3 (by simp only[Den])
theorem zgI (i:Nat)(he:PuM X e tm)(hN:autoParam (X.N[i]? = some x) aU0)(hv:autoParam (Vis X.env.scope x) aU5)(hd:autoParam ((x == ("__debug__" : Str))=false) aU1) (hcd:autoParam ((x == ("__classdict__" : Str))=false) aU1)
  (hbase:autoParam (attributeBase (.Name x p) "append" X.env (eval (.Name x p) X.env)=eval (.Name x p) X.env) aU0)
  (hfew:autoParam (((backTo cpos (starEach [e] X.env)).all (λx=>!x.1)&&(backToKw cpos (keywordEach [] X.env)).all (λx=>x.1.isSome)&&decide ([e].length+([]:List Keyword).length+(if ([]:List Keyword).isEmpty then 0 else 1)<30))=true) aU0)
  (hline:autoParam ((apos.endLine == cpos.line)=true) aU0) (hs:autoParam (starEach [e] X.env=(false,eval e X.env)::starEach [] X.env) aU0) (hplain:autoParam ((backTo cpos (starEach [] X.env)).any (·.1)=false) aU0):PuM X (.Call (.Attribute (.Name x p) "append" apos) [e] [] cpos) (zen i tm) where
 mono ρ Q Q' m h:=by
  obtain⟨ds0,e0,h⟩:=h;exact⟨ds0,e0,he.mono ρ _ _ (λd ρ' q74q=>by obtain⟨ds,e1,e2,q⟩:=q74q;exact⟨ds,e1,e2,m _ _ q⟩) h⟩
 run:=PE.weak (ziK PySem.F.plainAttrs_list PySem.F.slot_list_append PySem.F.type_list_append zcG (zbT hN hv hd hcd) (zaw he.run zbh hs) hbase hfew hline hs hplain) λσ H Q h=>by
  obtain⟨ρ,Fz,R,ds0,e0,h⟩:=h;obtain⟨a,xs,hs,ha,hd,nf⟩:=zcf R e0;refine⟨_,hs,.inl ⟨rfl,xs,SqL.of ha⟩,ρ,Fz,R,he.mono ρ _ _ (λd ρ1 q v F1 H1 s1 o1 R1 d1=>?_) h⟩;obtain⟨ds,e1,e2,q⟩:=q;obtain⟨a',xs',hs',ha',hd',nf'⟩:=zcf R1 e1;rw[hs]at hs';cases hs';have hl:=hd'.length;refine⟨a,xs',v,rfl,rfl,ha',by lia,?_⟩;have ow:Own X.K F1 (upd H1 a (.lst (xs'++[v]))) (.lst (ds++[d])) a:=⟨_,zam,(DenL.rew ha' nf' (DenL.snoc hd' d1))⟩;obtain⟨R3,s3,o3⟩:=R1.mut e1 hs ha' ow;exact q .non F1 _ (s1.trans o1 s3) (zau.trans s1 o1 o3) R3 (by simp only[Den])
theorem zjs (i:Nat)(he:PuE X e te)(hN:autoParam (X.N[i]? = some x) aU0)(hv:autoParam (Vis X.env.scope x) aU5)(hd:autoParam ((x == ("__debug__" : Str))=false) aU1) (hcd:autoParam ((x == ("__classdict__" : Str))=false) aU1)
  (hbase:autoParam (attributeBase (.Name x p) "pop" X.env (eval (.Name x p) X.env)=eval (.Name x p) X.env) aU0)
  (hfew:autoParam (((backTo cpos (starEach [e] X.env)).all (λx=>!x.1)&&(backToKw cpos (keywordEach [] X.env)).all (λx=>x.1.isSome)&&decide ([e].length+([]:List Keyword).length+(if ([]:List Keyword).isEmpty then 0 else 1)<30))=true) aU0)
  (hline:autoParam ((apos.endLine == cpos.line)=true) aU0) (hs:autoParam (starEach [e] X.env=(false,eval e X.env)::starEach [] X.env) aU0) (hplain:autoParam ((backTo cpos (starEach [] X.env)).any (·.1)=false) aU0):PuM X (.Call (.Attribute (.Name x p) "pop" apos) [e] [] cpos) (zcr i te) where
 mono ρ Q Q' m h:=by
  obtain⟨ds,e1,h⟩:=h;exact⟨ds,e1,he.mono ρ _ _ (λd _ q75q=>by obtain⟨j,k,c,q1,q2,q3,q4,q5,q⟩:=q75q;exact⟨j,k,c,q1,q2,q3,q4,q5,m _ _ q⟩) h⟩
 run:=PE.weak (ziK PySem.F.plainAttrs_list PySem.F.slot_list_pop PySem.F.type_list_pop zko (zbT hN hv hd hcd) (zaw he.run zbh hs) hbase hfew hline hs hplain) λσ H Q h=>by
  obtain⟨ρ,Fz,R,ds,e1,h⟩:=h;obtain⟨a,xs,hs,ha,hd,nf⟩:=zcf R e1;refine⟨_,hs,.inl ⟨rfl,xs,SqL.of ha⟩,ρ,Fz,R,he.mono ρ _ _ (λd k q v F1 H1 p1=>?_) h⟩;obtain⟨j,k,c,rfl,q2,q3,q4,q5,q⟩:=q;have R2:=R.ext p1.ext;obtain⟨a',xs',hs',ha',hd',nf'⟩:=zcf R2 e1;rw[hs]at hs';cases hs';have hl:=hd'.length;obtain⟨y,y1,y2⟩:=hd'.get q5;refine⟨a,xs',j,k,y,rfl,by rw[zaG (p1.root R)],ha',q2,q3,by rw[<- hl];exact q4,y1,?_⟩;have ow:Own X.K F1 (upd H1 a (.lst (xs'.eraseIdx k))) (.lst (ds.eraseIdx k)) a:=⟨_,zam,(DenL.rew ha' nf' (DenL.eraseIdx k hd'))⟩;obtain⟨R3,s3,o3⟩:=R2.mut e1 hs ha' ow;refine q y F1 _ ((Step.of p1.ext).trans (zau.refl ρ σ H) s3) (zau.trans (Step.of p1.ext) (zau.refl ρ σ H) o3) R3 ?_;have:=DenL.rew (o:=.lst (xs'.eraseIdx k)) ha' nf' (DenL.cons y2 DenL.nil);simp only[DenL]at this;obtain⟨v',r',e',g1,_⟩:=this;cases e';exact g1
theorem zkL (i:Nat)(he:PuE X e te)(hN:autoParam (X.N[i]? = some x) aU0)(hv:autoParam (Vis X.env.scope x) aU5)(hd:autoParam ((x == ("__debug__" : Str))=false) aU1) (hcd:autoParam ((x == ("__classdict__" : Str))=false) aU1)
  (hbase:autoParam (attributeBase (.Name x p) "extend" X.env (eval (.Name x p) X.env)=eval (.Name x p) X.env) aU0)
  (hfew:autoParam (((backTo cpos (starEach [e] X.env)).all (λx=>!x.1)&&(backToKw cpos (keywordEach [] X.env)).all (λx=>x.1.isSome)&&decide ([e].length+([]:List Keyword).length+(if ([]:List Keyword).isEmpty then 0 else 1)<30))=true) aU0)
  (hline:autoParam ((apos.endLine == cpos.line)=true) aU0) (hs:autoParam (starEach [e] X.env=(false,eval e X.env)::starEach [] X.env) aU0) (hplain:autoParam ((backTo cpos (starEach [] X.env)).any (·.1)=false) aU0):PuM X (.Call (.Attribute (.Name x p) "extend" apos) [e] [] cpos) (zeo i te) where
 mono ρ Q Q' m h:=by
  obtain⟨ds,e1,h⟩:=h;exact⟨ds,e1,he.mono ρ _ _ (λd _ q76q=>by obtain⟨es,q1,q2,q⟩:=q76q;exact⟨es,q1,q2,m _ _ q⟩) h⟩
 run:=PE.weak (ziK PySem.F.plainAttrs_list PySem.F.slot_list_extend PySem.F.type_list_extend zmg (zbT hN hv hd hcd) (zaw he.run zbh hs) hbase hfew hline hs hplain) λσ H Q h=>by
  obtain⟨ρ,Fz,R,ds,e1,h⟩:=h;obtain⟨a,xs,hs,ha,hd,nf⟩:=zcf R e1;refine⟨_,hs,.inl ⟨rfl,xs,SqL.of ha⟩,ρ,Fz,R,he.mono ρ _ _ (λd k q v F1 H1 p1=>?_) h⟩;obtain⟨es,rfl,q2,q⟩:=q;have R2:=R.ext p1.ext;obtain⟨a',xs',hs',ha',hd',nf'⟩:=zcf R2 e1;rw[hs]at hs';cases hs';obtain⟨b,zs,rfl,hb,hz⟩:=zaO (p1.root R);have hl:=hd'.length;have hl2:=hz.length;refine⟨a,b,xs',zs,rfl,rfl,ha',hb,by lia,?_⟩;have ow:Own X.K F1 (upd H1 a (.lst (xs'++zs))) (.lst (ds++es)) a:=⟨_,zam,(DenL.rew ha' nf' (hd'.append hz))⟩;obtain⟨R3,s3,o3⟩:=R2.mut e1 hs ha' ow;exact q .non F1 _ ((Step.of p1.ext).trans (zau.refl ρ σ H) s3) (zau.trans (Step.of p1.ext) (zau.refl ρ σ H) o3) R3 (by simp only[Den])
noncomputable def zcs (tm:TPM):TPS:=λρ O=>tm ρ λ_ ρ'=>O.nx ρ'
variable {pos:Pos}
theorem zcN (he:PuM X e tm)(hs:autoParam (swapsWith e none pos.line X.env=pure false) aU0):PuS X (.Expr e pos) (zcs tm) where
 mono ρ O O' m h:=he.mono ρ _ _ (λ_ _ q=>m.nx _ q) h
 run:=PS.weak (zlO he.run hs) λD σ H h=>by
  obtain⟨ρ,Fz,R,h⟩:=h;exact⟨ρ,Fz,R,he.mono ρ _ _ (λd ρ' q v F' H' s' o' R' _=>q σ F' H' s' o' R') h⟩
end
theorem zjt {K:PySem.W.Frag}{Fz:FZ}{H:Hp}{ds:List PV}{xs:List V}{i:Int}{d:PV}(h:DenL K Fz H ds xs)(e:atI ds i=some d):∃v,atI xs i=some v/\Den K Fz H d v:=by
 unfold atI at e ⊢;rw[<- h.length];cases q:ixN ds.length i with
 | none=>rw[q]at e;cases e
 | some j=>
  rw[q]at e;obtain⟨v,h1,h2⟩:=h.get (i:=j) (d:=d) e;exact⟨v,h1,h2⟩
noncomputable def ixV (d e x:PV):Prop:=(∃ds i,(d=.lst ds\/d=.tup ds)/\e=.int i/\atI ds i=some x)\/∃z i c,d=.str z/\e=.int i/\z.length<=sizeLine/\atI z.cps.toList i=some c/\x=.str ⟨#[c]⟩
noncomputable def pIx:P2:=λd e Q=>∃x,ixV d e x/\Q x .frz
theorem zoR {K:PySem.W.Frag}:POp K (rIx K) pIx where
 mono d e Q Q' m h:=by obtain⟨x,h,q⟩:=h;exact⟨x,h,m _ _ q⟩
 run Fz H x y d e Q al rx ry h:=by
  obtain⟨x',h,q⟩:=h;rcases h with ⟨ds,i,e1,rfl,e3⟩ | ⟨z,i,c,rfl,rfl,e3,e4,rfl⟩
  ·rcases e1 with rfl | rfl
   ·obtain⟨a,xs,rfl,h1,h2⟩:=zai rx;obtain⟨v,g1,g2⟩:=zjt h2 e3;exact .inl ⟨a,xs,i,v,rfl,zaG ry,h1,g1,q v Fz H (.val al g2)⟩
   ·obtain⟨a,xs,rfl,h1,h2⟩:=zaO rx;obtain⟨v,g1,g2⟩:=zjt h2 e3;exact .inr (.inl ⟨a,xs,i,v,rfl,zaG ry,h1,g1,q v Fz H (.val al g2)⟩)
  ·exact .inr (.inr ⟨z,i,c,zaq rx,zaG ry,e3,e4,q _ Fz H (.val al (by simp only[Den]))⟩)
section
variable {X:Cx}{a b:Expr}{ta tb:TPE}{pos:Pos}
theorem zaU (ha:PuE X a ta)(hb:PuE X b tb)(hs:autoParam (zgC b) aU7):PuE X (.Subscript a b pos) (t2 pIx ta tb):=zoQ znw zoR ha hb hs
theorem zoS (hu:X.A.units+16<cLine)(ha:PuE X a ta)(hb:PuE X b tb)(hm:autoParam (behindInMarks .Eq b=false) aU2):PuE X (.Compare a [.Eq] [b] pos) (t2 (pEq false) ta tb):=zlw (zly hu) zjk ha hb hm
theorem zfT (hu:X.A.units+16<cLine)(ha:PuE X a ta)(hb:PuE X b tb)(hm:autoParam (behindInMarks .Eq b=false) aU2):PuT X (.Compare a [.Eq] [b] pos) (tBl (t2 (pEq false) ta tb)):=zcy (zly hu) zjk ha hb hm
theorem zeF (hu:X.A.units+16<cLine)(ha:PuE X a ta)(hb:PuE X b tb)(hm:autoParam (behindInMarks .NotEq b=false) aU2):PuT X (.Compare a [.NotEq] [b] pos) (tBl (t2 (pEq true) ta tb)):=zcy (znK hu) zjk ha hb hm
theorem zju (ha:PuE X a ta)(hb:PuE X b tb)(hm:autoParam (behindInMarks .Lt b=false) aU2):PuT X (.Compare a [.Lt] [b] pos) (tBl (pLt ta tb)):=zcy zoF zdy ha hb hm
theorem zdR (ha:PuE X a ta)(hb:PuE X b tb)(hm:autoParam (behindInMarks .Gt b=false) aU2):PuT X (.Compare a [.Gt] [b] pos) (tBl (pGt ta tb)):=zcy zoG zdy ha hb hm
end
noncomputable def pIsN (neg:Bool):P2:=λd e Q=>e=.non/\Q (.bl (if neg then !decide (d=.non) else decide (d=.non))) .frz
theorem zhs {K:PySem.W.Frag}{Fz:FZ}{H:Hp}{d:PV}{x:V}(r:Root K Fz H d x):decide (x=V.non)=decide (d=.non):=by
 cases d with
 | non=>rw[zbk r];simp
 | bl b=>rw[zfb r];simp
 | int b=>rw[zaG r];simp
 | str b=>rw[zaq r];simp
 | tup ds=>obtain⟨a,xs,rfl,_⟩:=zaO r;simp
 | lst ds=>obtain⟨a,xs,rfl,_⟩:=zai r;simp
 | ty n=>simp only[Root,Den]at r;rw[r];simp
 | dK ks ds=>simp only[Root]at r;obtain⟨a,xs,rfl,_⟩:=r;simp
 | dT ks ds=>simp only[Root]at r;obtain⟨a,xs,rfl,_⟩:=r;simp
theorem znP {K:PySem.W.Frag}:POp K (λx y H Q=>y=.non/\Q (.bl (decide (x=.non))) H) (pIsN false) where
 mono d e Q Q' m h:=⟨h.1,m _ _ h.2⟩
 run Fz H x y d e Q al rx ry h:=by
  obtain⟨rfl,q⟩:=h;refine⟨zbk ry,?_⟩;rw[zhs rx];exact q _ Fz H (.val al (by simp only[Den];rfl))
theorem zmr {K:PySem.W.Frag}:POp K (λx y H Q=>y=.non/\Q (.bl (!decide (x=.non))) H) (pIsN true) where
 mono d e Q Q' m h:=⟨h.1,m _ _ h.2⟩
 run Fz H x y d e Q al rx ry h:=by
  obtain⟨rfl,q⟩:=h;refine⟨zbk ry,?_⟩;rw[zhs rx];exact q _ Fz H (.val al (by simp only[Den];rfl))
section
variable {X:Cx}{a b:Expr}{ta tb:TPE}{pos:Pos}
theorem zms (ha:PuE X a ta)(hb:PuE X b tb)(hm:autoParam (behindInMarks .Is b=false) aU2):PuT X (.Compare a [.Is] [b] pos) (tBl (t2 (pIsN false) ta tb)):=zcy zls znP ha hb hm
theorem zkM (ha:PuE X a ta)(hb:PuE X b tb)(hm:autoParam (behindInMarks .IsNot b=false) aU2):PuT X (.Compare a [.IsNot] [b] pos) (tBl (t2 (pIsN true) ta tb)):=zcy zlR zmr ha hb hm
end
theorem znQ:bootBuiltins "list" = some (.type "list"):=by decide +kernel
theorem zht:bootBuiltins "tuple" = some (.type "tuple"):=by decide +kernel
theorem bSet:bootBuiltins "set" = some (.type "set"):=by decide +kernel
theorem bStr:bootBuiltins "str" = some (.type "str"):=by decide +kernel
theorem bLen:bootBuiltins "len" = some (.builtin "len"):=by decide +kernel
theorem zmt:bootBuiltins "sorted" = some (.builtin "sorted"):=by decide +kernel
theorem bIsi:bootBuiltins "isinstance" = some (.builtin "isinstance"):=by decide +kernel
theorem zeG {K:PySem.W.Frag}{Fz:FZ}{H:Hp}{d:PV}{vs:List V}(h:zkC K Fz H [d] vs):∃v,vs=[v]/\Root K Fz H d v:=by
 cases h with
 | cons r t=>cases t;exact⟨_,rfl,r⟩
theorem zlA {K:PySem.W.Frag}{Fz:FZ}{H:Hp}{d e:PV}{vs:List V}(h:zkC K Fz H [d,e] vs):∃v u,vs=[v,u]/\Root K Fz H d v/\Root K Fz H e u:=by
 cases h with
 | cons r t=>
  cases t with
  | cons r2 t=>cases t;exact⟨_,_,rfl,r,r2⟩
theorem Post.newL {K:PySem.W.Frag}{Fz:FZ}{H:Hp}{p:Addr}{ds:List PV}{xs:List V}(al:∀b,Fz b->H b≠none)(hp:H p=none)(h:DenL K Fz H ds xs):Post K [] [] Fz H Fz (upd H p (.lst xs)) (.lst ds) .new (.ref p):=
 ⟨Ext.laid ⟨Same.refl H,λ_ h=>h,λ_ h=>.inl h,al⟩ hp,p,rfl,hp,λz=>al p z hp,xs,zam,DenL.mono (Keep.of (λb u e=>by rw[zap (zaC e hp)];exact e)) (λ_ h=>h) _ _ h⟩
theorem Post.newT {K:PySem.W.Frag}{Fz:FZ}{H:Hp}{p:Addr}{ds:List PV}{xs:List V}(al:∀b,Fz b->H b≠none)(hp:H p=none)(h:DenL K Fz H ds xs):Post K [] [] Fz H Fz (upd H p (.tup xs)) (.tup ds) .frz (.ref p):=by
 refine⟨Ext.laid ⟨Same.refl H,λ_ h=>h,λ_ h=>.inl h,al⟩ hp,?_⟩;show Den _ _ _ _ _;simp only[Den];exact⟨p,xs,rfl,zam,DenL.mono (Keep.of (λb u e=>by rw[zap (zaC e hp)];exact e)) (λ_ h=>h) _ _ h⟩
noncomputable def LenP:PV->Nat->Prop
 | .str y,n=>y.length<=sizeLine/\n=y.length
 | .lst ds,n=>n=ds.length
 | .tup ds,n=>n=ds.length
 | .dK ks _,n=>n=ks.length
 | _,_=>False
noncomputable def fLen:PF:=λds Q=>∃d n,ds=[d]/\LenP d n/\Q (.int n) .frz
noncomputable def rLen (K:PySem.W.Frag):List V->Hp->VK->Prop:=λxs H Q=>(∃x n,xs=[x]/\LenV K x H n/\Q (.int n) H)\/∃a kvs,xs=[.ref a]/\Rd H a (.dK kvs)/\Q (.int kvs.length) H
theorem zjv {X:Cx}:zcq X (.builtin "len") (rLen X.K):=by
 intro pins s σ H xs us Q I r h;rcases h with h | ⟨a,kvs,rfl,ha,q⟩
 ·exact zkl pins s σ H xs us Q I r h
 ·obtain⟨u,rfl,ru⟩:=vals1 r;cases ru;exact zoM I ha λt s' I'=>⟨.int kvs.length,H,I',⟨t,rfl⟩,q⟩
theorem znR {K:PySem.W.Frag}:zfP K (rLen K) fLen where
 mono ds Q Q' m h:=by obtain⟨d,n,e1,e2,q⟩:=h;exact⟨d,n,e1,e2,m _ _ q⟩
 run Fz H ds vs Q al r h:=by
  obtain⟨d,n,rfl,e,q⟩:=h;obtain⟨v,rfl,rv⟩:=zeG r;have q':=q (.int n) Fz H (.val al (by simp only[Den]));cases d with
  | str y=>cases zaq rv;exact .inl ⟨_,n,rfl,e,q'⟩
  | lst ds=>obtain⟨a,xs,rfl,h1,h2⟩:=zai rv;exact .inl ⟨_,n,rfl,.inl ⟨xs,h1,by rw[<- h2.length];exact e⟩,q'⟩
  | tup ds=>obtain⟨a,xs,rfl,h1,h2⟩:=zaO rv;exact .inl ⟨_,n,rfl,.inr ⟨xs,h1,by rw[<- h2.length];exact e⟩,q'⟩
  | dK ks ds=>
   simp only[Root]at rv;obtain⟨a,xs,rfl,h1,h2,h3⟩:=rv;have e':n=ks.length:=e;refine .inr ⟨a,_,rfl,h1,?_⟩;rw[List.length_zip,<- h2,Nat.min_self,<- e'];exact q'
  | non=>exact e.elim
  | bl b=>exact e.elim
  | int i=>exact e.elim
  | ty n=>exact e.elim
  | dT ks ds=>exact e.elim
noncomputable def zdS:PF:=λds Q=>∃es,(ds=[.lst es]\/ds=[.tup es])/\Q (.lst es) .new
noncomputable def zbX:PF:=λds Q=>∃es,(ds=[.lst es]\/ds=[.tup es])/\Q (.tup es) .frz
theorem zmu {K:PySem.W.Frag}:zfP K (zmi K) zdS where
 mono ds Q Q' m h:=by obtain⟨es,e,q⟩:=h;exact⟨es,e,m _ _ q⟩
 run Fz H ds vs Q al r h:=by
  obtain⟨es,e,q⟩:=h;rcases e with rfl | rfl
  ·obtain⟨v,rfl,rv⟩:=zeG r;obtain⟨a,xs,rfl,h1,h2⟩:=zai rv;exact⟨a,xs,rfl,.inl h1,λl hl=>q _ Fz _ (.newL al hl h2)⟩
  ·obtain⟨v,rfl,rv⟩:=zeG r;obtain⟨a,xs,rfl,h1,h2⟩:=zaO rv;exact⟨a,xs,rfl,.inr h1,λl hl=>q _ Fz _ (.newL al hl h2)⟩
theorem zdz {K:PySem.W.Frag}:zfP K (znH K) zbX where
 mono ds Q Q' m h:=by obtain⟨es,e,q⟩:=h;exact⟨es,e,m _ _ q⟩
 run Fz H ds vs Q al r h:=by
  obtain⟨es,e,q⟩:=h;rcases e with rfl | rfl
  ·obtain⟨v,rfl,rv⟩:=zeG r;obtain⟨a,xs,rfl,h1,h2⟩:=zai rv;exact⟨a,xs,rfl,.inl ⟨h1,λl hl=>q _ Fz _ (.newT al hl h2)⟩⟩
  ·obtain⟨v,rfl,rv⟩:=zeG r;obtain⟨a,xs,rfl,h1,h2⟩:=zjh rv;exact⟨a,xs,rfl,.inr ⟨SqT.of h1,q _ Fz H (.val al (by simp only[Den];exact⟨a,xs,rfl,h1,h2⟩))⟩⟩
theorem zcg {K:PySem.W.Frag}{Fz:FZ}{H:Hp}:∀ {ss:List Str}{xs:List V},DenL K Fz H (ss.map PV.str) xs->xs=ss.map V.str
 | [],xs,h=>by rw[List.map_nil]at h;simp only[DenL]at h;exact h
 | s::r,xs,h=>by
  rw[List.map_cons]at h;simp only[DenL]at h;obtain⟨v,t,z,h1,h2⟩:=h;simp only[Den]at h1;subst z h1;rw[List.map_cons,zcg h2]
theorem zdT {K:PySem.W.Frag}{Fz:FZ}{H:Hp}:∀(ss:List Str),DenL K Fz H (ss.map PV.str) (ss.map V.str)
 | []=>DenL.nil
 | s::r=>by rw[List.map_cons,List.map_cons];exact DenL.cons (by simp only[Den]) (zdT r)
section
variable {X:Cx}{e:Expr}{es:List Expr}{te:TPE}{t:TPA}{p p1 p2 pos pos2:Pos}
theorem zbw (hg:Gl X "len") (hm:X.mg "len" = none) (ha:PuA X (e::es) t) (he:autoParam (starEach (e::es) X.env=(false,eval e X.env)::starEach es X.env) aU0) (hpl:autoParam ((backTo pos (starEach es X.env)).any (·.1)=false) aU0):PuE X (.Call (.Name "len" p) (e::es) [] pos) (tB fLen t):=
 zfc zjv znR hg hm bLen ha (by decide) (by decide) he hpl
theorem zgJ (hg:Gl X "list") (hm:X.mg "list" = none) (ha:PuA X (e::es) t) (he:autoParam (starEach (e::es) X.env=(false,eval e X.env)::starEach es X.env) aU0) (hpl:autoParam ((backTo pos (starEach es X.env)).any (·.1)=false) aU0):PuE X (.Call (.Name "list" p) (e::es) [] pos) (tB zdS t):=
 zfQ zfx zmu hg hm znQ ha (by decide) (by decide) he hpl
theorem zfe (hg:Gl X "tuple") (hm:X.mg "tuple" = none) (ha:PuA X (e::es) t) (he:autoParam (starEach (e::es) X.env=(false,eval e X.env)::starEach es X.env) aU0) (hpl:autoParam ((backTo pos (starEach es X.env)).any (·.1)=false) aU0):PuE X (.Call (.Name "tuple" p) (e::es) [] pos) (tB zbX t):=
 zfQ zcF zdz hg hm zht ha (by decide) (by decide) he hpl
noncomputable def zba (te:TPE):TPE:=λρ Q=>te ρ λd _=>∃ss:List Str,d=.lst (ss.map PV.str)/\ss.length<64/\∀zs,zs.Nodup->(∀x,x∈zs↔x∈ss)->sortedS zs=true->Q (.lst (zs.map PV.str)) .new
theorem zeH:∀(ys xs:List Str),xs.Nodup->(ys.foldl JS.addS xs).Nodup
 | [],_,h=>h
 | y::ys,xs,h=>by
  rw[List.foldl_cons];refine zeH ys _ ?_;unfold JS.addS;split
  ·exact h
  ·rename_i hy
   exact List.nodup_cons.mpr ⟨hy,h⟩
theorem zie (hc:X.calm=true)(hg:Gl X "sorted") (hm:X.mg "sorted" = none) (hg2:Gl X "set") (hm2:X.mg "set" = none) (he:PuE X e te)
  (hs1:autoParam (starEach [e] X.env=(false,eval e X.env)::starEach [] X.env) aU0) (hpl1:autoParam ((backTo pos2 (starEach [] X.env)).any (·.1)=false) aU0)
  (hs2:autoParam (starEach [Expr.Call (.Name "set" p2) [e] [] pos2] X.env=(false,eval (Expr.Call (.Name "set" p2) [e] [] pos2) X.env)::starEach [] X.env) aU0) (hpl2:autoParam ((backTo pos (starEach [] X.env)).any (·.1)=false) aU0) :
  PuE X (.Call (.Name "sorted" p) [.Call (.Name "set" p2) [e] [] pos2] [] pos) (zba te) where
 mono ρ Q Q' m h:=he.mono ρ _ _ (λd k q77q=>by obtain⟨ss,e1,e2,q⟩:=q77q;exact⟨ss,e1,e2,λzs h1 h2 h3=>m _ _ (q zs h1 h2 h3)⟩) h
 run:=PE.weak (zci (zfI hc) hg hm zmt (zaw (zcE (zje hc) hg2 hm2 bSet (zaw he.run zbh hs1) (by decide) (by decide) hs1 hpl1) zbh hs2) (by decide) (by decide) hs2 hpl2) λσ H Q h=>by
  obtain⟨ρ,Fz,R,h⟩:=h;refine⟨ρ,Fz,R,he.mono ρ _ _ (λd k q v F1 H1 p1=>?_) h⟩;obtain⟨ss,rfl,e2,q⟩:=q;obtain⟨a,xs,rfl,h1,h2⟩:=zai (p1.root R);have:=zcg h2;subst this;refine⟨a,ss,rfl,h1,by unfold scanBound;lia,λst hst=>?_⟩;have q1:=JS.zcb ss [];simp only[List.length_nil,Nat.zero_add]at q1;refine⟨st,_,rfl,zam,by lia,λl zs hl hz hs=>?_⟩;have hne:l≠st:=λz=>by subst z;rw[zam]at hl;cases hl
  have hl':H1 l=none:=by rw[zap hne]at hl;exact hl
  have x2:Ext F1 H1 F1 (upd H1 st (SetO X.prog X.w st (ss.foldl JS.addS []))):=Ext.laid ⟨Same.refl _,λ_ h=>h,λ_ h=>.inl h,p1.ext.al⟩ hst;have p3:Post X.K [] [] F1 (upd H1 st (SetO X.prog X.w st (ss.foldl JS.addS []))) F1 (upd (upd H1 st (SetO X.prog X.w st (ss.foldl JS.addS []))) l (.lst (zs.map V.str))) (.lst (zs.map PV.str)) .new (.ref l):=Post.newL x2.al hl (zdT zs);refine q zs (hz.nodup_iff.mpr (zeH ss [] List.nodup_nil)) (λx=>?_) hs _ F1 _ (p3.behind (p1.ext.trans x2));rw[hz.mem_iff,JS.zfH];simp
noncomputable def zep (sep:Str)(te:TPE):TPE:=λρ Q=>te ρ λd _=>∃ss:List Str,d=.lst (ss.map PV.str)/\(ss.map (·.length)).sum+ss.length*sep.length<=16777216/\Q (.str (Txt.join sep ss)) .frz
theorem zdU {sep:Str}{j:Nat}{apos cpos sp:Pos}(he:PuE X e te)(hbase:autoParam (attributeBase (.Constant (.str sep) j sp) "join" X.env (eval (.Constant (.str sep) j sp) X.env)=eval (.Constant (.str sep) j sp) X.env) aU0)
  (hfew:autoParam (((backTo cpos (starEach [e] X.env)).all (λx=>!x.1)&&(backToKw cpos (keywordEach [] X.env)).all (λx=>x.1.isSome)&&decide ([e].length+([]:List Keyword).length+(if ([]:List Keyword).isEmpty then 0 else 1)<30))=true) aU0)
  (hline:autoParam ((apos.endLine == cpos.line)=true) aU0) (hs:autoParam (starEach [e] X.env=(false,eval e X.env)::starEach [] X.env) aU0) (hplain:autoParam ((backTo cpos (starEach [] X.env)).any (·.1)=false) aU0) :
  PuE X (.Call (.Attribute (.Constant (.str sep) j sp) "join" apos) [e] [] cpos) (zep sep te) where
 mono ρ Q Q' m h:=he.mono ρ _ _ (λd k q78q=>by obtain⟨ss,e1,e2,q⟩:=q78q;exact⟨ss,e1,e2,m _ _ q⟩) h
 run:=PE.weak (ziK PySem.F.plainAttrs_str PySem.F.slot_str_join PySem.F.type_str_join zmh zlq (zaw he.run zbh hs) hbase hfew hline hs hplain) λσ H Q h=>by
  obtain⟨ρ,Fz,R,h⟩:=h;refine⟨rfl,ρ,Fz,R,he.mono ρ _ _ (λd k q v F1 H1 p1=>?_) h⟩;obtain⟨ss,rfl,e2,q⟩:=q;obtain⟨a,xs,rfl,h1,h2⟩:=zai (p1.root R);have:=zcg h2;subst this;exact⟨sep,a,ss,rfl,rfl,h1,e2,q _ F1 H1 ⟨p1.ext,by show Den _ _ _ _ _;simp only[Den]⟩⟩
end
noncomputable def tyP:PV->String
 | .non=>"NoneType"
 | .bl _=>"bool"
 | .int _=>"int"
 | .str _=>"str"
 | .ty _=>"type"
 | .tup _=>"tuple"
 | .lst _=>"list"
 | .dK _ _=>"dict"
 | .dT _ _=>"dict"
theorem zhu {X:Cx}{pins:List (Addr×Obj)}{σ:St}{H:Hp}{s:Shared}{Fz:FZ}{d:PV}{x:V}{u:Value}(I:Inv X pins σ H s)(r:Root X.K Fz H d x)(rx:RelV x u)(hd:∀n,d≠.ty n):∃P:Heap->Prop,PySem.W.KitX X.K u (.type (tyP d)) P/\P s.heap/\u≠.builtin "__main__.__loader__#opaque":=by
 cases d with
 | non=>cases zbk r;cases (show u=Value.none from rx);exact⟨_,PySem.W.kitx_none,True.intro,λz=>nomatch z⟩
 | bl y=>cases zfb r;cases (show u=Value.bool y from rx);exact⟨_,PySem.W.kitx_bool,True.intro,λz=>nomatch z⟩
 | int i=>cases zaG r;obtain⟨t,q⟩:=(show ∃t,u=Value.int i t from rx);cases q;exact⟨_,PySem.W.kitx_int,True.intro,λz=>nomatch z⟩
 | str y=>cases zaq r;obtain⟨t,q⟩:=(show ∃t,u=Value.str y t from rx);cases q;exact⟨_,PySem.W.kitx_str,True.intro,λz=>nomatch z⟩
 | ty n=>exact absurd rfl (hd n)
 | lst ds=>
  obtain⟨a,xs,rfl,h1,_⟩:=zai r;cases (show u=Value.ref a from rx);obtain⟨its,_,⟨o,n,e,c,_⟩,_⟩:=I.list h1;exact⟨_,PySem.W.kitx_list,⟨o,e,c⟩,λz=>nomatch z⟩
 | tup ds=>
  obtain⟨a,xs,rfl,h1,_⟩:=zaO r;cases (show u=Value.ref a from rx);obtain⟨its,_,⟨o,e,c,_⟩,_⟩:=I.tuple h1;exact⟨_,PySem.W.kitx_tuple,⟨o,e,c⟩,λz=>nomatch z⟩
 | dK ks ds=>
  simp only[Root]at r;obtain⟨a,xs,rfl,h1,_⟩:=r;cases (show u=Value.ref a from rx);obtain⟨_,_,vs,_,o,es,ep,e,ex,_⟩:=zma I.hok h1;exact⟨_,PySem.W.kitx_dict,⟨o,e,ex.1⟩,λz=>nomatch z⟩
 | dT ks ds=>
  simp only[Root]at r;obtain⟨a,xs,rfl,h1,_⟩:=r;cases (show u=Value.ref a from rx);obtain⟨_,_,vs,_,o,es,ep,e,ex,_⟩:=znB I.hok h1;exact⟨_,PySem.W.kitx_dict,⟨o,e,ex.1⟩,λz=>nomatch z⟩
noncomputable def fIsi (K:PySem.W.Frag):PF:=λds Q=>(∃d c,ds=[d,.ty c]/\(∀n,d≠.ty n)/\∃b,PySem.W.kitOne K (.type (tyP d)) (.type c)=some b/\Q (.bl b) .frz)\/
 ∃d es,ds=[d,.tup es]/\(∀n,d≠.ty n)/\∃(cs:List String) (b:Bool),es=cs.map PV.ty/\PySem.W.kitAny K (.type (tyP d)) (cs.map Value.type)=some b/\Q (.bl b) .frz
noncomputable def znS (K:PySem.W.Frag):List V->Hp->VK->Prop:=λxs H Q=>∃Fz d x b,Root K Fz H d x/\(∀n,d≠.ty n)/\((∃c,xs=[x,.ty c]/\PySem.W.kitOne K (.type (tyP d)) (.type c)=some b)\/∃(p:Addr)(cs:List String),xs=[x,.ref p]/\SqT K H p (cs.map V.ty)/\PySem.W.kitAny K (.type (tyP d)) (cs.map Value.type)=some b)/\Q (.bl b) H
theorem zjw {X:Cx}:zcq X (.builtin "isinstance") (znS X.K):=by
 intro pins s σ H xs us Q I r h;obtain⟨Fz,d,x,b,rt,hd,e,q⟩:=h;rcases e with ⟨c,rfl,e⟩ | ⟨p,cs,rfl,hp,e⟩
 ·obtain⟨u,w',rfl,r1,r2⟩:=vals2 r;cases r2;obtain⟨P,Z,hP,ne⟩:=zhu I rt r1 hd;exact PySem.W.kia_one Z I.kIn hP e ne λtk=>⟨.bl b,H,I.tok tk,rfl,q⟩
 ·obtain⟨u,w',rfl,r1,r2⟩:=vals2 r;cases r2;obtain⟨P,Z,hP,ne⟩:=zhu I rt r1 hd;obtain⟨its,rv,⟨⟨cls,dd,data,sl⟩,ho,hc,n,hdt⟩,hzz⟩:=I.tuple hp;simp only at hc hdt;subst hc hdt;have ei:its=cs.map Value.type:=by
   clear hp ho e hzz;induction cs generalizing its with
   | nil=>cases rv;rfl
   | cons c cs ih=>
    cases rv with
    | cons q1 q2=>rw[show _=Value.type c from q1,ih _ q2];rfl
  subst ei;exact PySem.W.kia_tup Z I.kIn hP ho e ne λtk=>⟨.bl b,H,I.tok tk,rfl,q⟩
theorem zhv {K:PySem.W.Frag}{Fz:FZ}{H:Hp}:∀ {ss:List String}{xs:List V},DenL K Fz H (ss.map PV.ty) xs->xs=ss.map V.ty
 | [],xs,h=>by rw[List.map_nil]at h;simp only[DenL]at h;exact h
 | s::r,xs,h=>by
  rw[List.map_cons]at h;simp only[DenL]at h;obtain⟨v,t,z,h1,h2⟩:=h;simp only[Den]at h1;subst z h1;rw[List.map_cons,zhv h2]
theorem znT {K:PySem.W.Frag}:zfP K (znS K) (fIsi K) where
 mono ds Q Q' m h:=by
  rcases h with ⟨d,c,e,hd,b,e2,q⟩ | ⟨d,es,e,hd,cs,b,e2,e3,q⟩
  ·exact .inl ⟨d,c,e,hd,b,e2,m _ _ q⟩
  ·exact .inr ⟨d,es,e,hd,cs,b,e2,e3,m _ _ q⟩
 run Fz H ds vs Q al r h:=by
  rcases h with ⟨d,c,rfl,hd,b,e,q⟩ | ⟨d,es,rfl,hd,cs,b,rfl,e,q⟩
  ·have q':=q (.bl b) Fz H (.val al (by simp only[Den]));obtain⟨v,u,rfl,r1,r2⟩:=zlA r;simp only[Root,Den]at r2;subst r2;exact⟨Fz,d,v,b,r1,hd,.inl ⟨c,rfl,e⟩,q'⟩
  ·have q':=q (.bl b) Fz H (.val al (by simp only[Den]));obtain⟨v,u,rfl,r1,r2⟩:=zlA r;obtain⟨a,xs,rfl,h1,h2⟩:=zaO r2;have:=zhv h2;subst this;exact⟨Fz,d,v,b,r1,hd,.inr ⟨a,cs,rfl,h1,e⟩,q'⟩
section
variable {X:Cx}{e:Expr}{es:List Expr}{te:TPE}{t:TPA}{p p1 p2 pos pos2:Pos}
theorem zeI {K:PySem.W.Frag}(hK:X.K=K)(hg:Gl X "isinstance") (hm:X.mg "isinstance" = none) (ha:PuA X (e::es) t) (he:autoParam (starEach (e::es) X.env=(false,eval e X.env)::starEach es X.env) aU0) (hpl:autoParam ((backTo pos (starEach es X.env)).any (·.1)=false) aU0):PuE X (.Call (.Name "isinstance" p) (e::es) [] pos) (tB (fIsi K) t):=by
 subst hK;exact zfc zjw znT hg hm bIsi ha (by decide) (by decide) he hpl
end
noncomputable abbrev TPO:=PEnv->(Option Int->Prop)->Prop
noncomputable def zoT (K:PySem.W.Frag)(t:TPO):TO:=λσ H Q=>∃ρ Fz,Rel K Fz ρ σ H/\t ρ λo=>∀Fz' H',Ext Fz H Fz' H'->Q o H'
structure PuO (X:Cx)(e:Option Expr)(t:TPO):Prop where
 mono:∀ρ Q Q',(∀o,Q o->Q' o)->t ρ Q->t ρ Q'
 run:PO X e (zoT X.K t)
theorem PO.weak {X:Cx}{e:Option Expr}{t t':TO}(h:PO X e t)(w:∀σ H Q,t' σ H Q->t σ H Q):PO X e t':=λpins s σ H Q I q=>h pins s σ H Q I (w σ H Q q)
noncomputable def zeq:TPO:=λ_ Q=>Q none
noncomputable def zer (te:TPE):TPO:=λρ Q=>te ρ λd _=>∃i,d=.int i/\Q (some i)
theorem zbm {X:Cx}:PuO X none zeq where
 mono ρ Q Q' m h:=m _ h
 run:=PO.weak zlU λσ H Q h=>by
  obtain⟨ρ,Fz,R,h⟩:=h;exact h Fz H ⟨Same.refl H,λ_ h=>h,λ_ h=>.inl h,R.al⟩
theorem zbn {X:Cx}{e:Expr}{te:TPE}(h:PuE X e te):PuO X (some e) (zer te) where
 mono ρ Q Q' m q:=h.mono ρ _ _ (λd k q79q=>by obtain⟨i,e,q⟩:=q79q;exact⟨i,e,m _ q⟩) q
 run:=PO.weak (zlV h.run) λσ H Q q=>by
  obtain⟨ρ,Fz,R,q⟩:=q;exact⟨ρ,Fz,R,h.mono ρ _ _ (λd k q80q v F1 H1 p1=>by obtain⟨i,e,q⟩:=q80q;exact⟨i,by subst e;exact zaG (p1.root R),q F1 H1 p1.ext⟩) q⟩
noncomputable def cutP (xs:List PV)(lo hi:Option Int):List PV:=(xs.drop (HT.sIx xs.length 0 lo)).take (HT.sIx xs.length xs.length hi-HT.sIx xs.length 0 lo)
noncomputable def pSlL (te:TPE)(tl th:TPO):TPE:=λρ Q=>te ρ λd _=>tl ρ λl=>th ρ λu=>∃ds,d=.lst ds/\Q (.lst (cutP ds l u)) .new
theorem zmv {K:PySem.W.Frag}{Fz:FZ}{H:Hp}{ds:List PV}{xs:List V}{lo hi:Option Int}(h:DenL K Fz H ds xs):DenL K Fz H (cutP ds lo hi) (cutV xs lo hi):=by
 unfold cutP cutV;rw[h.length];exact(h.drop _).take _
section
variable {X:Cx}{e a b:Expr}{te ta tb:TPE}{lo hi:Option Expr}{tl th:TPO}{pos p2:Pos}
theorem zff (he:PuE X e te)(hl:PuO X lo tl)(hu:PuO X hi th):PuE X (.Subscript e (.Slice lo hi none p2) pos) (pSlL te tl th) where
 mono ρ Q Q' m h:=he.mono ρ _ _ (λd k h=>hl.mono ρ _ _ (λl h=>hu.mono ρ _ _ (λu q81q=>by obtain⟨ds,e,q⟩:=q81q;exact⟨ds,e,m _ _ q⟩) h) h) h
 run:=PE.weak (zhe zlY he.run hl.run hu.run) λσ H Q h=>by
  obtain⟨ρ,Fz,R,h⟩:=h;refine⟨ρ,Fz,R,he.mono ρ _ _ (λd k q v F1 H1 p1=>?_) h⟩;refine⟨ρ,F1,R.ext p1.ext,hl.mono ρ _ _ (λl q F2 H2 x2=>?_) q⟩;refine⟨ρ,F2,(R.ext p1.ext).ext x2,hu.mono ρ _ _ (λu q3 F3 H3 x3=>?_) q⟩;obtain⟨ds,e3,q4⟩:=q3;subst e3;obtain⟨a,xs,rfl,h1,h2⟩:=zai (((p1.root R).mono x2.same x2.sub).mono x3.same x3.sub);exact⟨a,xs,rfl,h1,λp hp=>q4 _ F3 _ ((Post.newL x3.al hp (zmv h2)).behind (p1.ext.trans (x2.trans x3)))⟩
noncomputable def znU (K:PySem.W.Frag):R2:=λx y H Q=>∃l b xs zs,x=.ref l/\y=.ref b/\(Rd H l (.lst xs)\/KX K l xs)/\(Rd H b (.lst zs)\/KX K b zs)/\xs.length+zs.length<=sizeLine/\∀p,H p=none->Q (.ref p) (upd H p (.lst (xs++zs)))
theorem znV {pins:List (Addr×Obj)}{σ:St}{H:Hp}{s:Shared}{l:Addr}{xs:List V}(I:Inv X pins σ H s)(h:Rd H l (.lst xs)\/KX X.K l xs):∃(its:List Value)(n:Nat),Vals xs its/\s.heap.get? l=some { cls:=.type "list",data:=.seq its.toArray n }:=by
 rcases h with h | ⟨its,n,h1,_,h3⟩
 ·obtain⟨z,its,n,r,e⟩:=(show zbj X.prog X.w H s.heap l (.lst xs) from h.ok I.hok);exact⟨its,n,r,e⟩
 ·exact⟨its.toList,n,h3,by rw[Array.toArray_toList];exact I.kIn l _ h1⟩
theorem zmw:OpR X (binaryOp .Add) (znU X.K):=by
 intro pins s σ H x y v u Q I rx ry h;obtain⟨l,b,xs,zs,rfl,rfl,hH,hB,hz,q⟩:=h;cases rx;cases ry;obtain⟨its,n,r,e⟩:=znV I hH;obtain⟨its2,n2,r2,e2⟩:=znV I hB;have l1:=r.length;have l2:=r2.length;refine PySem.P.add_list e e2 ?_ (by rw[List.size_toArray,List.size_toArray];lia);have ea:its.toArray++its2.toArray=(its++its2).toArray:=by simp
 rw[ea];exact⟨.ref _,_,I.lnew (t':=s.toks) (r.append r2) (by rw[List.length_append];lia),rfl,q _ I.fresh⟩
noncomputable def pCat:P2:=λd e Q=>∃ds es,d=.lst ds/\e=.lst es/\ds.length+es.length<=sizeLine/\Q (.lst (ds++es)) .new
theorem znW {K:PySem.W.Frag}:POp K (znU K) pCat where
 mono d e Q Q' m h:=by obtain⟨ds,es,e1,e2,e3,q⟩:=h;exact⟨ds,es,e1,e2,e3,m _ _ q⟩
 run Fz H x y d e Q al rx ry h:=by
  obtain⟨ds,es,rfl,rfl,e3,q⟩:=h;obtain⟨a,xs,rfl,h1,h2⟩:=zfK rx;obtain⟨b,ys,rfl,g1,g2⟩:=zfK ry;have l1:=h2.length;have l2:=g2.length;exact⟨a,b,xs,ys,rfl,rfl,h1,g1,by lia,λp hp=>q _ Fz _ (.newL al hp (h2.append g2))⟩
theorem zfU (ha:PuE X a ta)(hb:PuE X b tb):PuE X (.BinOp a .Add b pos) (t2 pCat ta tb):=zic zmw znW ha hb
end
structure Fx (K:PySem.W.Frag)(mg:Str->Option Value)(x:Str)(st:Stmt)(ps:List Str)(f:Addr)(fd:FuncData):Prop where
 fn:Fun K x x st f fd
 bd:Binds K fd ps []
 mg:mg x=some (.ref f)
structure Bl (mg:Str->Option Value):Prop where
 range:mg "range" = none
 len:mg "len" = none
 list:mg "list" = none
 tuple:mg "tuple" = none
 sorted:mg "sorted" = none
 set:mg "set" = none
 isi:mg "isinstance" = none
 str:mg "str" = none
 int:mg "int" = none
 bool:mg "bool" = none
 dict:mg "dict" = none
 enumerate:mg "enumerate" = none
 zip:mg "zip" = none
 min:mg "min" = none
 max:mg "max" = none
 sum:mg "sum" = none
 all:mg "all" = none
 any:mg "any" = none
 reversed:mg "reversed" = none
 abs:mg "abs" = none
 ord:mg "ord" = none
theorem zdV {K:PySem.W.Frag}{T c:String}{b:Bool}(h1:PySem.W.kitMeta c=true)(h2:(fastBuiltinMro T).map (·.contains (.type c))=some b)(h3:(Value.type T == Value.type c)=false):PySem.W.kitOne K (.type T) (.type c)=some b:=by
 unfold PySem.W.kitOne PySem.W.kitCls;rw[if_neg (by rw[h3];decide)];dsimp only;rw[if_pos h1];exact h2
theorem zcn {K:PySem.W.Frag}{T:String}:PySem.W.kitOne K (.type T) (.type T)=some true:=by
 unfold PySem.W.kitOne;rw[if_pos (by simp)]
theorem zdW {K:PySem.W.Frag}:PySem.W.kitOne K (.type "int") (.type "str")=some false:=zdV (by decide +kernel) (by decide +kernel) (by decide +kernel)
theorem loc2 {k i j:Nat}(h:i<k)(h2:j<k):znN k (zbW (zbJ i) (zbW (zbJ j) zdO)):=λds ρ Q ⟨d,r,e,d2,r2,e2,q⟩=>
 ⟨d,r,e,d2,r2,e2,q.1,q.2,by rw[List.length_set,List.length_set],λl hl=>by rw[List.getElem?_set_ne (by lia),List.getElem?_set_ne (by lia)]⟩
theorem zjx {P:Program}{w:World}{K:PySem.W.Frag}{mg mb:Str->Option Value}{CX:CXT}{k:Nat}{fa a:Addr}{fd:FuncData}{x:Str}{sp:Sp}{s₁:Shared}{vs:List Value}{ns:List Int}
  (KX:K.In s₁.heap) (hns:s₁.heap.Ns mainGlobals mg) (hb:s₁.heap.Ns builtinsNs mb) (hbb:∀x:Str,x≠"__name__"->mb x=bootBuiltins x) (hlim:s₁.heap.NoLimit) (hg:s₁.gens = #[])
  (ha:s₁.heap.get? a=some { cls:=.type "list",data:=.seq vs.toArray }) (hi:IntsAre vs ns) (hl:ns.length<=sizeLine) (hr:Room k callerA)
  (F:∀base:Heap,K.In base->base.Ns mainGlobals mg->FnOk P w K mg base CX k fa fd [x] sp) (hbind:∀(s:Shared) (u:Value),BindsTo s fd ⟨[u],[]⟩ [(x,u)])
  (hsp:∀H:Hp,Only H->(Rd H a (.lst (ns.map V.int))\/PL.KX K a (ns.map V.int))->sp [.ref a] H (λv _=>v=.bl true) λ_ _ _=>False)
  (hCX:∀H e s',CX [] H s₁ (λ_ _ _=>False) e s'->False) :
  codeAny (model P w) callerA (.call (.ref fa) ⟨[.ref a],[]⟩) (λr s'=>r=.ok (.ret (.bool true))/\OldK s₁.heap s'.heap/\s'.os=s₁.os/\AllBare s'.gens) s₁:=by
 have rv:=zfA hi;have lenV:=hi.length;have core:∀H:Hp,Only H->(Rd H a (.lst (ns.map V.int))\/PL.KX K a (ns.map V.int))->HOk P w H s₁.heap->(∀b,H b≠none->b=a)->(H a≠none->K.lookup a=none)->
   codeAny (model P w) callerA (.call (.ref fa) ⟨[.ref a],[]⟩) (λr s'=>r=.ok (.ret (.bool true))/\OldK s₁.heap s'.heap/\s'.os=s₁.os/\AllBare s'.gens) s₁:=by
  intro H hO hS hok hA hK;have base_of:∀ {b:Addr} {o:Obj},s₁.heap.get? b=some o->H b=none->(hidT s₁.heap H).get? b=some o:=λe n=>zke e n;have noA:∀ {b:Addr} {o:Obj} {es:Array DictEntry} {ep:Nat},s₁.heap.get? b=some o->o.data=.dict es ep->H b=none:=λ{b o es ep} e d=>by
   cases q:H b with
   | none=>rfl
   | some u=>
    have e':b=a:=hA b (by rw[q];simp);subst e';rw[ha]at e;cases e;have d':Data.seq vs.toArray _=Data.dict es ep:=d;cases d'
  have nsK:∀ {b:Addr} {m:Str->Option Value},s₁.heap.Ns b m->(hidT s₁.heap H).Ns b m:=λ{b m} ⟨o,es,ep,e,d,r⟩=>⟨o,es,ep,base_of e (noA e d),d,r⟩;have hKb:K.In (hidT s₁.heap H):=λb o e=>base_of (KX b o e) (by
   cases q:H b with
   | none=>rfl
   | some u=>
    have e':b=a:=hA b (by rw[q];simp);subst e';rw[hK (by rw[q];simp)]at e;cases e)
  have hM:Mod K mg (hidT s₁.heap H):=⟨hKb,nsK hns,⟨mb,nsK hb,hbb⟩,let ⟨mc,h1,h2⟩:=hlim;⟨mc,nsK h1,h2⟩⟩;have e0:Env0 P w K mg (hidT s₁.heap H) callerA [] s₁ H:=⟨rfl,hM,λb o e=>zlL e,Nat.le_of_eq (ziw _ _),trivial,λb hb=>absurd (show b∈([]:List Addr) from hb) (by simp),hok,.of_eq hg⟩;refine codeAny_mono ((F _ hKb (nsK hns)).run callerA [] s₁ H ⟨[.ref a],[]⟩ [.ref a] [.ref a] _ _ hr e0 (hbind s₁ (.ref a)) (.cons rfl .nil) (hsp H hO hS)) λr s' h=>?_;cases r with
  | error e=>exact(hCX H e s' h).elim
  | ok fl=>
   cases fl with
   | next=>exact False.elim h
   | brk=>exact False.elim h
   | cont=>exact False.elim h
   | ret u=>
    obtain⟨v,H',os,bare,un,hok',r',q⟩:=h;have q':v=.bl true:=q;subst q';obtain rfl:u=Value.bool true:=r';refine⟨rfl,OldK.of_keep λb o e=>?_,os,bare⟩;cases q:H b with
    | none=>exact un.keep b o e q (by intro z;exact absurd (show b∈([]:List Addr) from z) (by simp)) (by simp)
    | some u=>
     rcases hO b with z | ⟨ob,xs,z⟩
     ·rw[q]at z;cases z
     ·have z2:=un.frzs b ob _ z;obtain⟨e1,_⟩:=hok b _ z;obtain⟨e2,_⟩:=hok' b _ z2;rw[e]at e1;cases e1;exact e2
 cases hk:K.lookup a with
 | some o=>
  have e:=KX a o hk;rw[ha]at e;cases e;refine core (λ_=>none) (λ_=>.inl rfl) (.inr ⟨vs.toArray,_,hk,by rw[List.size_toArray,lenV];exact hl,by simpa using rv⟩) (λb u z=>by have z':(none:Option HO)=some u:=z;cases z') (λb z=>absurd rfl z) λz=>absurd rfl z
 | none=>
  refine core (λb=>if b=a then some (.frz { cls:=.type "list",data:=.seq vs.toArray } (.lst (ns.map V.int))) else none) (λb=>?_) (.inl (.inr ⟨{ cls:=.type "list",data:=.seq vs.toArray },if_pos rfl⟩)) (λb u z=>?_) (λb z=>?_) λ_=>hk
  ·by_cases hb:b=a
   ·exact .inr ⟨_,_,if_pos hb⟩
   ·exact .inl (if_neg hb)
  ·by_cases hb:b=a
   ·have z':=(if_pos hb).symm.trans z;cases z';subst hb;exact⟨ha,by rw[List.length_map];exact hl,vs,_,rv,ha⟩
   ·have z':=(if_neg hb).symm.trans z;cases z'
  ·by_cases hb:b=a
   ·exact hb
   ·exact absurd (if_neg hb) z
theorem zfV {K:PySem.W.Frag}{Fz:FZ}{H:Hp}:∀(ns:List Int),DenL K Fz H (ns.map PV.int) (ns.map V.int)
 | []=>DenL.nil
 | n::r=>by rw[List.map_cons,List.map_cons];exact DenL.cons (by simp only[Den]) (zfV r)
theorem znX {K:PySem.W.Frag}{H:Hp}{a:Addr}{ns:List Int}{F:PF}{E:XK}(m:zbE F)(h:Rd H a (.lst (ns.map V.int))\/KX K a (ns.map V.int))(hF:F [.lst (ns.map PV.int)] λd k=>d=.bl true):spP K F [.ref a] H (λv _=>v=.bl true) E:=by
 refine⟨λb=>H b≠none,[.lst (ns.map PV.int)],λb hb=>hb,DenL.cons ?_ DenL.nil,m _ _ _ (λd k e v F' H' p=>?_) hF⟩
 ·simp only[Den];refine⟨a,ns.map V.int,rfl,?_,zfV ns⟩;rcases h with h | h
  ·refine .inl ⟨?_,h⟩;rcases h with h | ⟨o,h⟩<;>(show H a≠none;rw[h];exact λz=>nomatch z)
  ·exact .inr h
 ·subst e;cases k with
  | frz=>have q:Den K F' H' (.bl true) v:=p.opd;simpa only[Den]using q
  | new=>obtain⟨b,_,_,_,o⟩:=p.opd;exact o.elim
  | own i=>obtain⟨z,_⟩:=p.opd;simp at z
theorem zoU {l:PySem.W.OpenLaw}{k:Nat}{q:Program}{loose:List Str}{XP:(Str->Option Value)->Heap->Prop}{YP:World->Heap->Prop}{d:DefRec}{K:Params->PySem.W.Frag}{FL:PF}{x:Str}
  (hn:l.most=some 63) (hdf:d.params.defaults=[]) (hr:Room k callerA) (m:zbE FL)
  (hY:∀(w:World) (h:Heap),YP w h->(K w.params).In h)
  (F:∀(w:World) (mg:Str->Option Value) (fa:Addr) (h:Heap),(K w.params).In h->h.Ns mainGlobals mg->mg d.name=some (.ref fa)->
   ∃fd:FuncData,(∀(s:Shared) (u:Value),BindsTo s fd ⟨[u],[]⟩ [(x,u)])/\∀base:Heap,(K w.params).In base->base.Ns mainGlobals mg->FnOk l.prog w (K w.params) mg base CX0 k fa fd [x] (spP (K w.params) FL))
  (hF:∀ns:List Int,ns.length<=63->FL [.lst (ns.map PV.int)] λd k=>d=.bl true) :
  PySem.W.WalkO q loose XP YP l.row.toRowW d [] (λf vs=>PySem.call f vs):=by
 refine Att.zgD hn hdf λw s₀ s₁ mg mb fa o pm cd doc a vs ns G Y ho hd hcd hmg hobj hints hlen hg=>?_;have KX:=hY w _ Y;obtain⟨fd,hb,hFn⟩:=F w mg fa _ KX G.T.g hmg;exact zjx KX G.T.g G.T.b G.T.builtins G.T.nolimit hg hobj hints (Nat.le_trans hlen (by decide)) hr hFn hb (λH hO hS=>znX m hS (hF ns hlen)) λH e s' z=>z
noncomputable def keyP:Key->PV
 | .inl i=>.int i
 | .inr x=>.str x
section
variable {K:PySem.W.Frag}{Fz:FZ}{H:Hp}
theorem zkN {k:Key}{x:V}(h:Root K Fz H (keyP k) x):x=kV k:=by
 cases k<;>simpa only[keyP,kV,Root,Den]using h
end
section
variable {X:Cx}{a b c:Expr}{rest:List Expr}{pos:Pos}{ta tb tc:TPE}
noncomputable def zbA (p p':P2)(ta tb tc:TPE):TPE:=λρ Q=>ta ρ λd _=>tb ρ λe _=>p d e λz _=>∃k,z=.bl k/\if k=true then tc ρ λf _=>p' e f Q else Q (.bl false) .frz
variable {r r':R2}{p p':P2}
theorem zeJ (hp:POp X.K r p)(hp':POp X.K r' p')(ha:PuE X a ta)(hb:PuE X b tb)(hc:PuE X c tc):∀ρ Q Q',(∀d k,Q d k->Q' d k)->zbA p p' ta tb tc ρ Q->zbA p p' ta tb tc ρ Q':=λρ Q Q' m h=>
 ha.mono ρ _ _ (λd _ h=>hb.mono ρ _ _ (λe _ h=>hp.mono d e _ _ (λz _ ⟨k,e1,q⟩=>⟨k,e1,by
  cases k with
  | false=>rw[if_neg Bool.false_ne_true]at q ⊢;exact m _ _ q
  | true=>rw[if_pos rfl]at q ⊢;exact hc.mono ρ _ _ (λf _ q=>hp'.mono e f _ _ m q) q⟩) h) h) h
theorem zjy (hp:POp X.K r p)(hp':POp X.K r' p')(ha:PuE X a ta)(hb:PuE X b tb)(hc:PuE X c tc){σ:St}{H:Hp}{Q:VK}(h:lift X.K (zbA p p' ta tb tc) σ H Q) :
  zlt r r' (lift X.K ta) (lift X.K tb) (lift X.K tc) σ H Q:=by
 obtain⟨ρ,Fz,R,h⟩:=h;refine znI ha hb ρ Fz R (ha.mono ρ _ _ (λd kd h=>hb.mono ρ _ _ (λe ke h=>?_) h) h);intro x y Fz1 H1 Fz2 H2 p1 p2;have R1:=R.ext p1.ext;have R2:=R1.ext p2.ext;have ry:=p2.root R1;refine hp.run Fz2 H2 x y d e _ p2.ext.al ((p1.root R).mono p2.ext.same p2.ext.sub) ry (hp.mono d e _ _ (λz k q v Fz3 H3 p3=>?_) h);obtain⟨c',rfl,q⟩:=q;have p3':Post X.K ρ σ Fz2 H2 Fz3 H3 (.bl c') k v:=⟨p3.ext,p3.opd.up⟩;refine⟨c',zfb (p3'.root R2),?_⟩;have R3:=R2.ext p3.ext;cases c' with
 | false=>
  rw[if_neg Bool.false_ne_true]at q ⊢;exact q _ Fz3 H3 ⟨(p1.ext.trans p2.ext).trans p3.ext,by show Den _ _ _ _ _;simp only[Den]⟩
 | true=>
  rw[if_pos rfl]at q ⊢;refine⟨ρ,Fz3,R3,hc.mono ρ _ _ (λf kf q w Fz4 H4 p4=>?_) q⟩;refine hp'.run Fz4 H4 y w e f Q p4.ext.al ((ry.mono p3.ext.same p3.ext.sub).mono p4.ext.same p4.ext.sub) (p4.root R3) (hp'.mono e f _ _ (λz k q v Fz' H' p5=>?_) q);exact q v Fz' H' (p5.behind (((p1.ext.trans p2.ext).trans p3.ext).trans p4.ext))
theorem zjz {op op':CmpOp}(ho:OpR X (compareOp op) r)(ho':OpR X (compareOp op') r')(hp:POp X.K r p)(hp':POp X.K r' p')(ha:PuE X a ta)(hb:PuE X b tb)(hc:PuE X c tc)
  (hm:autoParam (lastMarks [op,op'] [b,c]=false) aU6):PuT X (.Compare a [op,op'] [b,c] pos) (tBl (zbA p p' ta tb tc)) where
 mono ρ Q Q' m h:=zeJ hp hp' ha hb hc ρ _ _ (λd _ q=>zhp m q) h
 run:=PT.weak (zkj ho ho' ha.run hb.run hc.run hm) λσ H Q h=>by
  obtain⟨ρ,Fz,R,h⟩:=h;refine zjy hp hp' ha hb hc ⟨ρ,Fz,R,zeJ hp hp' ha hb hc ρ _ _ (λd k q v Fz' H' p=>?_) h⟩;obtain⟨b,e,q⟩:=zfa.mp q;refine⟨b,?_,q Fz' H' p.ext⟩;subst e;have w:=p.root R;simpa only[Root,Den]using w
noncomputable abbrev pILe:P2:=i0 λi j=>.bl (decide (i<=j))
theorem zhw (ha:PuE X a ta)(hb:PuE X b tb)(hc:PuE X c tc)(hm:autoParam (lastMarks [.LtE,.LtE] [b,c]=false) aU6):PuT X (.Compare a [.LtE,.LtE] [b,c] pos) (tBl (zbA pILe pILe ta tb tc)):=zjz znn znn zdy zdy ha hb hc hm
end
theorem DenL.rew' {K:PySem.W.Frag}{Fz:FZ}{H:Hp}{ds:List PV}{xs:List V}{a:Addr}{o u:HO}(ha:H a=some u)(hi:¬ Imm u)(nf:¬ Fz a)(h:DenL K Fz H ds xs):DenL K Fz (upd H a o) ds xs:=
 DenL.mono (.mk' λb w e hw=>by
  have ne:b≠a:=λz=>by
   subst z;rcases hw with hw | hw
   ·exact nf hw
   ·rw[ha]at e;cases e;exact hi hw
  rw[zap ne];exact e) (λ_ h=>h) _ _ h
theorem zlB {K:PySem.W.Frag}{Fz:FZ}{ρ:PEnv}{σ:St}{H:Hp}{i:Nat}{ks:List Key}{ds:List PV}(R:Rel K Fz ρ σ H)(h:ρ[i]? = some (some (.dK ks ds,true))):∃a xs,σ[i]? = some (some (.ref a))/\H a=some (.dK (ks.zip xs))/\ks.length=xs.length/\DenL K Fz H ds xs/\¬ Fz a:=by
 obtain⟨a,e,nf,xs,h1,h2,h3⟩:=R.own i _ h;exact⟨a,xs,e,h1,h2,h3,nf⟩
theorem zmx {k:Kd}(hk:isOwn k=false):k=.frz\/k=.new:=by
 cases k with
 | frz=>exact .inl rfl
 | new=>exact .inr rfl
 | own j=>cases hk
noncomputable def putD (ks:List Key)(ds:List PV)(k:Key)(d:PV):List PV:=(ks.zip ds).map λkv=>if kv.1=k then d else kv.2
theorem zmy {ks:List Key}{xs:List V}{k:Key}{v:V}:(ks.zip xs).map (λkv=>if kv.1=k then(kv.1,v) else kv)=ks.zip ((ks.zip xs).map λkv=>if kv.1=k then v else kv.2):=by
 induction ks generalizing xs with
 | nil=>rfl
 | cons c ks ih=>
  cases xs with
  | nil=>rfl
  | cons x xs=>
   simp only[List.zip_cons_cons,List.map_cons,ih];by_cases e:c=k<;>simp[e]
theorem zjA {K:PySem.W.Frag}{Fz:FZ}{H:Hp}(k:Key){d:PV}{v:V}(hd:Den K Fz H d v):∀(ks:List Key)(ds:List PV)(xs:List V),DenL K Fz H ds xs->DenL K Fz H (putD ks ds k d) ((ks.zip xs).map λkv=>if kv.1=k then v else kv.2)
 | [],ds,xs,h=>DenL.nil
 | c::ks,[],xs,h=>by simp only[DenL]at h;subst h;exact DenL.nil
 | c::ks,d0::ds,xs,h=>by
  simp only[DenL]at h;obtain⟨w,r,rfl,h1,h2⟩:=h;have ih:=zjA k hd ks ds r h2;simp only[putD,List.zip_cons_cons,List.map_cons]at ih ⊢;by_cases e:c=k
  ·rw[if_pos e,if_pos e];exact DenL.cons hd ih
  ·rw[if_neg e,if_neg e];exact DenL.cons h1 ih
noncomputable def hasK (ks:List Key)(c:Key):Bool:=ks.any λc'=>decide (c'=c)
noncomputable def zct (i:Nat)(ti tv:TPE):TPS:=λρ O=>tv ρ λd k=>isOwn k=false/\∃ks ds,ρ[i]? = some (some (.dK ks ds,true))/\ks.length<sizeLine/\ti ρ λe _=>∃c:Key,e=keyP c/\
 O.nx (ρ.set i (some (if hasK ks c=true then .dK ks (putD ks ds c d) else .dK (ks++[c]) (ds++[d]),true)))
theorem zmz {ks:List Key}{xs:List V}{c:Key}(h:ks.length=xs.length):((ks.zip xs).any λkv=>decide (kv.1=c))=hasK ks c:=by
 unfold hasK;induction ks generalizing xs with
 | nil=>simp
 | cons d ks ih=>
  cases xs with
  | nil=>simp at h
  | cons x xs=>
   simp only[List.zip_cons_cons,List.any_cons,ih (by simpa using h)]
section
variable {X:Cx}{x:Str}{ei ev:Expr}{ti tv:TPE}{p pos pos' apos cpos:Pos}
theorem zjB (i:Nat)(hu:X.A.units+1<cLine)(hi:PuE X ei ti)(hv:PuE X ev tv)(hN:autoParam (X.N[i]? = some x) aU0)(hvs:autoParam (Vis X.env.scope x) aU5)(hd:autoParam ((x == ("__debug__" : Str))=false) aU1) (hcd:autoParam ((x == ("__classdict__" : Str))=false) aU1)
  (hs:autoParam (swapsWith ev (some (.Subscript (.Name x p) ei pos')) pos.line X.env=pure false) aU0):PuS X (.Assign [.Subscript (.Name x p) ei pos'] ev pos) (zct i ti tv) where
 mono ρ O O' m h:=hv.mono ρ _ _ (λd k q84q=>by obtain⟨hk,ks,ds,e1,e2,h⟩:=q84q;exact⟨hk,ks,ds,e1,e2,hi.mono ρ _ _ (λe _ q85q=>by obtain⟨c,q1,q⟩:=q85q;exact⟨c,q1,m.nx _ q⟩) h⟩) h
 run:=PS.weak (zmb hu (zbT hN hvs hd hcd) hi.run hv.run hs) λD σ H h=>by
  obtain⟨ρ,Fz,R,h⟩:=h;refine⟨ρ,Fz,R,hv.mono ρ _ _ (λd k q v F1 H1 p1=>?_) h⟩;obtain⟨hk,ks,ds,e1,e2,q⟩:=q;obtain⟨F2,x2,s2,d2⟩:=p1.frozen (zmx hk);have R2:=R.ext x2;obtain⟨a,xs,hs,ha,_,hd,nf⟩:=zlB R2 e1;refine⟨_,hs,ρ,F2,R2,hi.mono ρ _ _ (λe ke q u F3 H3 p3=>?_) q⟩;obtain⟨c,rfl,q⟩:=q;have R3:=R2.ext p3.ext;obtain⟨a',xs',hs',ha',hl',hd',nf'⟩:=zlB R3 e1;rw[hs]at hs';cases hs';obtain rfl:=zkN (p3.root R2);refine⟨a,_,rfl,DPut.k ha' (by rw[List.length_zip];lia),?_⟩;have d3:=Den.mono (.of p3.ext.same) p3.ext.sub _ _ d2;have x3:=x2.trans p3.ext;have ow:Own X.K F3 (upd H3 a (.dK (putK (ks.zip xs') c v))) (if hasK ks c=true then .dK ks (putD ks ds c d) else .dK (ks++[c]) (ds++[d])) a:=by
   unfold putK;rw[zmz hl'];by_cases hc:hasK ks c=true
   ·rw[if_pos hc,if_pos hc,zmy];exact⟨_,zam,by simp[hl'],DenL.rew' ha' (λz=>z) nf' (zjA c d3 ks ds xs' hd')⟩
   ·rw[if_neg hc,if_neg hc];refine⟨xs'++[v],?_,by simp[hl'],DenL.rew' ha' (λz=>z) nf' (DenL.snoc hd' d3)⟩;rw[zam,List.zip_append hl'];rfl
  obtain⟨R4,s4,o4⟩:=R3.mut e1 hs ha' ow;exact q σ F3 _ ((Step.of x3).trans (zau.refl ρ σ H) s4) (zau.trans (Step.of x3) (zau.refl ρ σ H) o4) R4
end
theorem bAll:bootBuiltins "all" = some (.builtin "all"):=by decide +kernel
section
variable {X:Cx}
theorem zjC (hc:X.calm=true):zcq X (.builtin "all") (λxs H Q=>∃(p:Addr) (bs:List Bool),xs=[V.ref p]/\SqL X.K H p (bs.map V.bl)/\Q (.bl (bs.all id)) H):=by
 intro pins s σ H xs us Q I r h;obtain⟨p,bs,rfl,hq,q⟩:=h;obtain⟨u,rfl,rx⟩:=vals1 r;cases rx;obtain⟨its,r',pl,hz⟩:=I.list hq;have hL:=pl.isList;have hpl:p<s.heap.objs.size:=by obtain⟨_,x,_⟩:=hL;exact Heap.lt_size x
 have hlen:its.length=bs.length:=by rw[<- r'.length];simp
 refine call_all_walk (wpAny_pyIter_list hL ?_);refine⟨_,[_,p],[_],_,_,_,λi=>bs.getD i true,rfl,Walks.list (A:=X.A.in1) (I.ok.hd hc) _ p (Nat.ne_of_lt hpl) its.toArray,⟨⟨_,Heap.get?_push_size _ rfl,rfl,rfl⟩,hL.push _⟩,?_,λh' tk hk=>?_⟩
 ·intro i v s' Q' E' hP hQ;have hv:its[i]? = some v:=by simpa using hP
  have hi:i<bs.length:=by rw[<- hlen];exact(List.getElem?_eq_some_iff.mp hv).1
  obtain⟨v',hv',rv⟩:=r'.get (i:=i) (x:=.bl bs[i]) (by simp[hi]);rw[hv]at hv';cases hv';cases rv;refine wpAny_truthy_bool ?_;have:bs.getD i true=bs[i]:=by rw[List.getD_eq_getElem?_getD,List.getElem?_eq_getElem hi];rfl
  rw[<- this];exact hQ
 ·refine⟨.bl (bs.all id),H,I.kept (t':=tk) (λb o x=>hk b o ?_ (Heap.get?_push_of_some _ x)),?_,q⟩
  ·have:=Heap.lt_size x;simp;exact Nat.ne_of_lt this
  ·have:(List.range its.toArray.size).all (λi=>bs.getD i true)=bs.all id:=by
    rw[List.size_toArray,hlen];rw[Bool.eq_iff_iff,List.all_eq_true,List.all_eq_true];constructor
    ·intro h x hx;obtain⟨i,hi,e⟩:=List.getElem_of_mem hx;have:=h i (List.mem_range.mpr hi);rw[List.getD_eq_getElem?_getD,List.getElem?_eq_getElem hi]at this;simpa[<- e]using this
    ·intro h i hi;have hi:=List.mem_range.mp hi;rw[List.getD_eq_getElem?_getD,List.getElem?_eq_getElem hi];simpa using h _ (List.getElem_mem hi)
   show RelV _ _;rw[this];rfl
theorem zhx {K:PySem.W.Frag}{Fz:FZ}{H:Hp}:∀ {bs:List Bool}{xs:List V},DenL K Fz H (bs.map PV.bl) xs->xs=bs.map V.bl
 | [],xs,h=>by simpa only[List.map,DenL]using h
 | b::bs,xs,h=>by
  simp only[List.map,DenL,Den]at h;obtain⟨v,r,rfl,rfl,h⟩:=h;rw[zhx h];rfl
noncomputable def fAll:PF:=λds Q=>∃bs:List Bool,ds=[.lst (bs.map PV.bl)]/\Q (.bl (bs.all id)) .frz
theorem znY:zfP X.K (λxs H Q=>∃(p:Addr)(bs:List Bool),xs=[V.ref p]/\SqL X.K H p (bs.map V.bl)/\Q (.bl (bs.all id)) H) fAll where
 mono ds Q Q' m h:=by obtain⟨bs,e,q⟩:=h;exact⟨bs,e,m _ _ q⟩
 run Fz H ds vs Q al hr h:=by
  obtain⟨bs,rfl,q⟩:=h;obtain⟨v,rfl,h1⟩:=zeG hr;obtain⟨a,xs,rfl,h2,h3⟩:=zai h1;rw[zhx h3]at h2;exact⟨a,bs,rfl,h2,q _ Fz H (.val al (by simp only[Den]))⟩
variable {e:Expr}{es:List Expr}{t:TPA}{p pos:Pos}
theorem znZ (hc:X.calm=true)(hg:Gl X "all") (hm:X.mg "all" = none) (ha:PuA X (e::es) t) (he:autoParam (starEach (e::es) X.env=(false,eval e X.env)::starEach es X.env) aU0) (hpl:autoParam ((backTo pos (starEach es X.env)).any (·.1)=false) aU0):PuE X (.Call (.Name "all" p) (e::es) [] pos) (tB fAll t):=
 zfc (zjC hc) znY hg hm bAll ha (by decide) (by decide) he hpl
end
section
variable {X:Cx}
variable {e:Expr}{es:List Expr}{t:TPA}{p pos:Pos}
theorem zoa:SlR X (λx lo hi H Q=>∃z:Str,x=.str z/\z.length<=sizeLine/\Q (.str (Txt.slice z lo hi)) H):=by
 intro pins s σ H x v vl vu lo hi sl Q I rx hs pl pu h;obtain⟨z,rfl,hz,q⟩:=h;obtain⟨t,rfl⟩:=rx;refine⟨"str",_,PySem.F.slot_str_getitem.lookup,typeIs_str _ _ _,?_⟩;have fin:∀(l u:Option (Int×Tok)),s.heap.IsSlice sl l u none->l.map (·.1)=lo->u.map (·.1)=hi->wpAny (model X.prog X.w) X.A (getItem (.str z t) (.ref sl)) (EP X pins σ Q) X.xe s:=λl u h1 h2 h3=>by
  subst h2 h3;refine wpAny_getItem_str_slice (st:=none) h1 rfl (post_val_or_str ⟨Nat.le_trans (Txt.slice_le z _ _) hz,λt' k=>?_⟩);exact⟨.str (Txt.slice z (l.map (·.1)) (u.map (·.1))),H,I.tok _,⟨t',rfl⟩,q⟩
 cases pl with
 | none=>cases pu with
  | none=>exact fin none none hs rfl rfl
  | int j t2=>exact fin none (some (j,t2)) hs rfl rfl
 | int i t1=>cases pu with
  | none=>exact fin (some (i,t1)) none hs rfl rfl
  | int j t2=>exact fin (some (i,t1)) (some (j,t2)) hs rfl rfl
noncomputable def pSlS (te:TPE)(tl th:TPO):TPE:=λρ Q=>te ρ λd _=>tl ρ λl=>th ρ λu=>∃z:Str,d=.str z/\z.length<=sizeLine/\Q (.str (Txt.slice z l u)) .frz
variable {e:Expr}{te:TPE}{lo hi:Option Expr}{tl th:TPO}{p2 pos:Pos}
theorem zbL (he:PuE X e te)(hl:PuO X lo tl)(hu:PuO X hi th):PuE X (.Subscript e (.Slice lo hi none p2) pos) (pSlS te tl th) where
 mono ρ Q Q' m h:=he.mono ρ _ _ (λd k h=>hl.mono ρ _ _ (λl h=>hu.mono ρ _ _ (λu q86q=>by obtain⟨ds,e,e2,q⟩:=q86q;exact⟨ds,e,e2,m _ _ q⟩) h) h) h
 run:=PE.weak (zhe zoa he.run hl.run hu.run) λσ H Q h=>by
  obtain⟨ρ,Fz,R,h⟩:=h;refine⟨ρ,Fz,R,he.mono ρ _ _ (λd k q v F1 H1 p1=>?_) h⟩;refine⟨ρ,F1,R.ext p1.ext,hl.mono ρ _ _ (λl q F2 H2 x2=>?_) q⟩;refine⟨ρ,F2,(R.ext p1.ext).ext x2,hu.mono ρ _ _ (λu q3 F3 H3 x3=>?_) q⟩;obtain⟨z,e3,e4,q4⟩:=q3;subst e3;exact⟨z,zaq (p1.root R),e4,q4 _ F3 _ ((Post.val x3.al (by simp only[Den])).behind (p1.ext.trans (x2.trans x3)))⟩
end
theorem hu1 {A:Around}(h:A.units+16<cLine):A.units+1<cLine:=by lia
noncomputable abbrev PFM:=PV->List PV->(PV->PV->Prop)->Prop
structure FOut where
 nx:PEnv->Prop
 rt:PEnv->Prop
structure FOut.le (O O':FOut):Prop where
 nx:∀ρ,O.nx ρ->O'.nx ρ
 rt:∀ρ,O.rt ρ->O'.rt ρ
noncomputable abbrev TPF:=PEnv->FOut->Prop
inductive BX where
 | L (ds:List PV)
 | K (ks:List Key) (ds:List PV)
 | T (ks:List (List Key)) (ds:List PV)
noncomputable def BX.ok:BX->Prop
 | .L _=>True
 | .K ks ds=>ks.length=ds.length
 | .T ks ds=>ks.length=ds.length
noncomputable def BX.obj:BX->List Addr->HO
 | .L _,bs=>.lst (bs.map V.ref)
 | .K ks _,bs=>.dK (ks.zip (bs.map V.ref))
 | .T ks _,bs=>.dT (ks.zip (bs.map V.ref))
structure BOut where
 nx:PEnv->BX->Prop
 rt:PV->Kd->Prop
 bk:PEnv->BX->Prop
 ct:PEnv->BX->Prop
structure BOut.le (O O':BOut):Prop where
 nx:∀ρ β,O.nx ρ β->O'.nx ρ β
 rt:∀d k,O.rt d k->O'.rt d k
 bk:∀ρ β,O.bk ρ β->O'.bk ρ β
 ct:∀ρ β,O.ct ρ β->O'.ct ρ β
noncomputable abbrev TPB:=PEnv->BX->BOut->Prop
section
variable {X:Cx}{pos:Pos}
noncomputable def zes:TPE:=λ_ Q=>Q (.dK [] []) .new
theorem zmA:PuE X (.Dict [] [] pos) zes where
 mono ρ Q Q' m h:=m _ _ h
 run:=PE.weak zkq λσ H Q h=>by
  obtain⟨ρ,Fz,R,h⟩:=h;exact λp hp=>h _ Fz _ ⟨Ext.laid ⟨Same.refl H,λ_ h=>h,λ_ h=>.inl h,R.al⟩ hp,p,rfl,hp,λz=>R.al p z hp,[],zam,rfl,DenL.nil⟩
end
end PL
namespace Srt
open PySem PyProof.Rows
structure Cmp (prog:Program)(w:World)(A:Around)(E:Value->Shared->Prop)(s:Shared)(k:SortKind)(P:Keyed->Prop)(f:Keyed->Keyed->Bool):Prop where
 run:∀ {x y:Keyed} {Q:Option Bool->SortSt->Prop} {st:SortSt},P x->P y->kindOf st=k->Q (some (f x y)) st->wpS (model prog w) A E s (lt' x y) Q st
structure Same (st st':SortSt):Prop where
 kind:kindOf st'=kindOf st
 arr:arrOf st'=arrOf st
 pend:pendingOf st'=pendingOf st
 failed:failedOf st'=failedOf st
noncomputable abbrev Le (f:Keyed->Keyed->Bool)(x y:Keyed):Prop:=f y x=false
section
variable {prog:Program}{w:World}{A:Around}{E:Value->Shared->Prop}{s:Shared}{k:SortKind}{P:Keyed->Prop}{f:Keyed->Keyed->Bool}
noncomputable def Run (f:Keyed->Keyed->Bool)(a:Array Keyed)(lo hi:Nat):Prop:=∀(i j:Nat)(hj:j<a.size)(hij:i<j),lo<=i->j<hi->Le f (a[i]'(by lia)) a[j]
end
section
variable {prog:Program}{w:World}{A:Around}{E:Value->Shared->Prop}{s:Shared}{k:SortKind}{P:Keyed->Prop}{f:Keyed->Keyed->Bool}
structure Moved (a a':Array Keyed)(lo hi:Nat):Prop where
 pm:a'.Perm a
 out:∀j:Nat,j<lo\/hi<=j->a'[j]? = a[j]?
end
variable {P:Keyed->Prop}{f:Keyed->Keyed->Bool}
noncomputable def Stk (f:Keyed->Keyed->Bool)(a:Array Keyed):Nat->List (Nat×Nat×Nat)->Nat->Prop
 | s,[],hi=>s=hi
 | s,e::r,hi=>e.1=s/\0<e.2.1/\Run f a s (s+e.2.1)/\Stk f a (s+e.2.1) r hi
section
variable {prog:Program}{w:World}{A:Around}{E:Value->Shared->Prop}{s:Shared}{k:SortKind}{P:Keyed->Prop}{f:Keyed->Keyed->Bool}
structure Inv (f:Keyed->Keyed->Bool)(k:SortKind)(a:Array Keyed)(st:SortSt)(lo:Nat):Prop where
 kind:kindOf st=k
 failed:failedOf st=none
 pm:(arrOf st).Perm a
 stk:Stk f (arrOf st) 0 (pendingOf st).toList lo
end
noncomputable def ltI:List Int->List Int->Bool
 | [],[]=>false
 | [],_::_=>true
 | _::_,[]=>false
 | x::xs,y::ys=>if x=y then ltI xs ys else decide (x<y)
end Srt
namespace JS
open PySem
noncomputable abbrev tb (m:Nat):SetTable:={ SetTable.fresh 0 0 true with mask:=m }
noncomputable def pth (m:Nat)(h:Int):Nat->SetTable.Probe
 | 0=>(tb m).probeStart h
 | n+1=>(tb m).advance (pth m h n)
structure Own (m:Nat)(ow:Array (Option Nat))(hs:List Int):Prop where
 sz:ow.size=m+1
 at_:∀(k:Nat) (h:Int),hs[k]? = some h->∃j n,ow[j]? = some (some k)/\(pth m h n).j=j/\∀d,d<n->∃q,ow[(pth m h d).j]? = some (some q)
 lt:∀(j k:Nat),ow[j]? = some (some k)->k<hs.length
 one:∀(j j' k:Nat),ow[j]? = some (some k)->ow[j']? = some (some k)->j=j'
end JS
namespace PL
open PySem PySem.Spec L2
open PyProof.Rows hiding St
section
variable {X:Cx}{a b e o:Expr}{ta tb te to:TPE}{es:List Expr}{t:TPA}{p pos apos cpos:Pos}
noncomputable def zob:R2:=λx y H Q=>∃u v,x=.str u/\y=.str v/\u.length+v.length<=sizeLine/\Q (.str (u++v)) H
theorem zmB:OpR X (binaryOp .Add) zob:=by
 intro pins s σ H x y v u Q I rx ry h;obtain⟨a,b,rfl,rfl,hz,q⟩:=h;obtain⟨t1,rfl⟩:=rx;obtain⟨t2,rfl⟩:=ry;exact PyProof.Rows.add_str (λt' tk=>⟨.str (a++b),H,I.tok tk,⟨t',rfl⟩,q⟩) hz
noncomputable def zdX:P2:=λd e Q=>∃u v,d=.str u/\e=.str v/\u.length+v.length<=sizeLine/\Q (.str (u++v)) .frz
theorem zmC {K:PySem.W.Frag}:POp K zob zdX where
 mono d e Q Q' m h:=by obtain⟨u,v,e1,e2,z,q⟩:=h;exact⟨u,v,e1,e2,z,m _ _ q⟩
 run Fz H x y d e Q al rx ry h:=by
  obtain⟨u,v,rfl,rfl,z,q⟩:=h;exact⟨u,v,zaq rx,zaq ry,z,q _ Fz H (.val al (by simp only[Den]))⟩
theorem zdY (ha:PuE X a ta)(hb:PuE X b tb):PuE X (.BinOp a .Add b pos) (t2 zdX ta tb):=zic zmB zmC ha hb
theorem zoV {to te:TE}{name:Str}{id:String}{r:V->List V->Hp->VK->Prop}(slot:Slot "str" name id) (hty:typeOf (.builtin id)=pure (.type "method_descriptor")) (hm:MtR X id r) (ho:PE X o to) (he:PE X e te)
  (m:M1 X o name apos e cpos):PE X (.Call (.Attribute o name apos) [e] [] cpos) (λσ H Q=>to σ H λx H1=>∃y,x=.str y/\te σ H1 λz H2=>r x [z] H2 Q):=by
 intro pins s σ H Q I h;refine wpAny_Call_method m.base m.few m.line PySem.F.plainAttrs_str slot hty (thn (ho pins s σ H _ I h) λu s1 q87q=>?_);obtain⟨x,H1,I1,rx,y,ex,q1⟩:=q87q;subst ex;have rx':=rx;obtain⟨tk,rfl⟩:=rx;refine⟨typeIs_str _ _ _,(λb q=>nomatch q),?_⟩;rw[m.trees];refine Calls.callWith_builtin rfl (Calls.evalArgs_plain (Calls.spliced_cons (thn (he pins s1 σ H1 _ I1 q1) λiv s2 q88q=>Calls.spliced_nil ?_)));obtain⟨z,H2,I2,rz,q2⟩:=q88q;exact hm pins s2 σ H2 (.str y) [z] (.str y tk) [iv] Q I2 rx' (.cons rz .nil) q2
end
noncomputable abbrev PFB:=List PV->(List PV->Prop)->Prop
section
variable {X:Cx}{e:Expr}{te:TPE}{lo hi:Option Expr}{tl th:TPO}{pos p2:Pos}
theorem zfW {st:Stmt}:PuS X st (λ_ _=>False) where
 mono ρ O O' m h:=h
 run:=λpins s σ H D I h=>by obtain⟨_,_,_,z⟩:=h;exact z.elim
end
noncomputable def hide (S:List Addr)(h:Heap):Heap:={ h with objs:=h.objs.mapIdx λi o=>if i∈S then { o with data:=.freed } else o }
theorem zgK {S:List Addr}{h:Heap}{b:Addr}(hb:b∈S):(hide S h).get? b=none:=by
 unfold hide Heap.get?;simp only[Array.getElem?_mapIdx];cases h.objs[b]? with
 | none=>rfl
 | some o=>simp only[Option.map_some,if_pos hb]
theorem zdA {S:List Addr}{h:Heap}{b:Addr}(hb:b∉S):(hide S h).get? b=h.get? b:=by
 unfold hide Heap.get?;simp only[Array.getElem?_mapIdx];cases h.objs[b]? with
 | none=>rfl
 | some o=>simp only[Option.map_some,if_neg hb]
theorem zif {S:List Addr}{h:Heap}:(hide S h).StaysIn h:=λb o e=>by
 by_cases hb:b∈S
 ·rw[zgK hb]at e;cases e
 ·rw[zdA hb]at e;exact e
noncomputable def ExcAt (h0:Heap)(H:Hp)(h:Heap)(a:Addr)(cls:Value)(T:Addr)(fl:Value):Prop:=
 h0.get? a=none/\H a=none/\h0.get? T=none/\H T=none/\T≠a/\∃oe vs oT ts a0,h.get? a=some oe/\oe.cls=cls/\oe.data=.fields vs/\vs[0]? = some a0/\vs[1]? = some (.ref T)/\h.get? T=some oT/\oT.data=.fields ts/\ts[3]? = some fl
structure zch (fs:List Addr)(a T:Addr)(h h':Heap):Prop where
 keep:∀b o,h.get? b=some o->b≠a->b≠T->b∉fs->h'.get? b=some o
 slot:∀b o,h.get? b=some o->b∈fs->∃sl,h'.get? b=some { o with slots:=sl }
 there:∀b o,h.get? b=some o->∃o',h'.get? b=some o'
theorem zch.refl {fs:List Addr}{a T:Addr}{h:Heap}:zch fs a T h h:=⟨λ_ _ e _ _ _=>e,λ_ o e _=>⟨o.slots,e⟩,λ_ o e=>⟨o,e⟩⟩
theorem zch.trans {fs:List Addr}{a T T':Addr}{h1 h2 h3:Heap}(x:zch fs a T h1 h2)(w:T'=T\/h1.get? T'=none)(y:zch fs a T' h2 h3):zch fs a T h1 h3:=
 ⟨λc o e n1 n2 nf=>y.keep c o (x.keep c o e n1 n2 nf) n1 (λz=>by
  rcases w with w | w
  ·exact n2 (z.trans w)
  ·rw[<- z,e]at w;cases w) nf,λc o e hc=>by
  obtain⟨sl,e1⟩:=x.slot c o e hc;obtain⟨sl2,e2⟩:=y.slot c _ e1 hc;exact⟨sl2,e2⟩,λc o e=>by obtain⟨o1,e1⟩:=x.there c o e;exact y.there c o1 e1⟩
theorem zch.funs {fs:List Addr}{a T:Addr}{h h' base:Heap}(x:zch fs a T h h'){l:List Env}(hl:h.FunFrames base l)(na:a∉frs l)(nT:T∉frs l):h'.FunFrames base l:=by
 induction l with
 | nil=>trivial
 | cons env rest ih=>
  obtain⟨hk,⟨L,o,hf,hn,ho,hd⟩,hr⟩:=hl;unfold frs at na nT;rw[List.filterMap_cons,hf]at na nT;obtain⟨na1,na2⟩:=not_or.mp (λz=>na (List.mem_cons.mpr z));obtain⟨nT1,nT2⟩:=not_or.mp (λz=>nT (List.mem_cons.mpr z));refine⟨hk,?_,ih hr na2 nT2⟩;by_cases hb:L∈fs
  ·obtain⟨sl,e1⟩:=x.slot L o ho hb;exact⟨L,_,hf,hn,e1,hd⟩
  ·exact⟨L,o,hf,hn,x.keep L o ho (Ne.symm na1) (Ne.symm nT1) hb,hd⟩
theorem zfX {h base:Heap}{S:List Addr}:∀ {l:List Env},h.FunFrames base l->(∀b∈frs l,b∈S)->h.FunFrames (hide S h) l
 | [],_,_=>trivial
 | env::rest,⟨hk,⟨L,o,hf,hn,ho,hd⟩,hr⟩,hs=>by
  have hL:L∈frs (env::rest):=by unfold frs;rw[List.filterMap_cons,hf];exact List.mem_cons_self ..
  refine⟨hk,⟨L,o,hf,zgK (hs L hL),ho,hd⟩,zfX hr λb hb=>hs b ?_⟩;unfold frs at hb ⊢;rw[List.filterMap_cons,hf];exact List.mem_cons_of_mem _ hb
theorem HOk.there {P:Program}{w:World}{H:Hp}{h:Heap}(x:HOk P w H h){a:Addr}{o:HO}(e:H a=some o):∃ob,h.get? a=some ob:=by
 have q:=x a o e;cases o with
 | lst xs=>obtain⟨_,_,_,_,e⟩:=q;exact⟨_,e⟩
 | tup xs=>obtain⟨_,_,_,o,e,_⟩:=q;exact⟨_,e⟩
 | dK kvs=>obtain⟨_,_,_,_,o,_,_,e,_⟩:=q;exact⟨_,e⟩
 | dT kvs=>obtain⟨_,_,_,_,o,_,_,e,_⟩:=q;exact⟨_,e⟩
 | set S n=>obtain⟨o,_,_,_,e,_⟩:=q;exact⟨_,e⟩
 | ins C dx fs=>obtain⟨_,_,_,e,_⟩:=q;exact⟨_,e⟩
 | own y=>obtain⟨_,e⟩:=q;exact⟨_,e⟩
 | xd fs=>obtain⟨_,⟨_,_,_,e,_⟩,_⟩:=q;exact⟨_,e⟩
 | rng lo hi=>obtain⟨_,_,_,e⟩:=q;exact⟨_,e⟩
 | frz ob u=>obtain⟨e,_⟩:=q;exact⟨_,e⟩
 | tbl ps=>exact⟨_,show h.get? a=some _ from q⟩
 | met f y=>exact⟨_,show h.get? a=some _ from q⟩
 | ext φ=>obtain⟨_,⟨_,e⟩,_⟩:=q;exact⟨_,e⟩
section
variable {M:Model}{A:Around}{E:Value->Shared->Prop}{s:Shared}{h0:Heap}{H:Hp}{a T:Addr}{cls fl:Value}{env:Env}{outer:List Env}{base:Heap}{L:Addr}
theorem zeK {env env':Env}(h:env.frame=env'.frame)(e:Value):noteFrame e env=noteFrame e env':=by
 unfold noteFrame PySem.frameOf;rw[h]
theorem ExcAt.nofr (hx:ExcAt h0 H s.heap a cls T fl){l:List Env}(hl:s.heap.FunFrames base l):a∉frs l/\T∉frs l:=by
 obtain⟨ha,hHa,hT,hHT,hTa,oe,vs,oT,ts,a0,he,hc,hd,h0,h1,hgT,hdT,h3⟩:=hx;refine⟨λhm=>?_,λhm=>?_⟩
 ·obtain⟨_,o,e,nd⟩:=hl.mem hm;rw[he]at e;cases e;exact nd _ hd
 ·obtain⟨_,o,e,nd⟩:=hl.mem hm;rw[hgT]at e;cases e;exact nd _ hdT
theorem setT {x:Value}(hx:ExcAt h0 H s.heap a cls T fl){l:List Env}(nf:T∉frs l):zch (frs l) a T s.heap (s.heap.update T (Obj.mapFields (·.setIfInBounds 3 x)))/\ExcAt h0 H (s.heap.update T (Obj.mapFields (·.setIfInBounds 3 x))) a cls T x:=by
 obtain⟨ha,hHa,hT,hHT,hTa,oe,vs,oT,ts,a0,he,hc,hd,h0,h1,hgT,hdT,h3⟩:=hx;have hsz3:3<ts.size:=(Array.getElem?_eq_some_iff.mp h3).1;refine⟨⟨λb o e n1 n2 nb=>?_,λb o e hb=>⟨o.slots,?_⟩,λb o e=>?_⟩,⟨ha,hHa,hT,hHT,hTa,oe,vs,_,_,a0,(Heap.get?_update_other _ _ hTa).trans he,hc,hd,h0,h1,Heap.get?_update_self _ hgT (Obj.isFreed_of_fields (Obj.data_mapFields hdT _)),Obj.data_mapFields hdT _,by simp[hsz3]⟩⟩
 ·rw[Heap.get?_update_other _ _ (Ne.symm n2)];exact e
 ·have ne:T≠b:=λz=>nf (z▸hb);rw[Heap.get?_update_other _ _ ne];exact e
 ·by_cases ne:T=b
  ·subst ne;exact⟨_,Heap.get?_update_self _ hgT (Obj.isFreed_of_fields (Obj.data_mapFields hdT _))⟩
  ·exact⟨o,by rw[Heap.get?_update_other _ _ ne];exact e⟩
theorem zhy {f:Option Addr}{Q:Unit->Shared->Prop}(hx:ExcAt h0 H s.heap a cls T fl){l:List Env}(nf:T∉frs l)
  (h:∀h' fl',zch (frs l) a T s.heap h'->ExcAt h0 H h' a cls T fl'->Q () { s with heap:=h' }):wpAny M A (setFlight (.ref a) f) Q E s:=by
 obtain⟨x1,x2⟩:=setT (l:=l) (x:=f.elim Value.none λx=>rawInt x) hx nf;obtain⟨ha,hHa,hT,hHT,hTa,oe,vs,oT,ts,a0,he,hc,hd,h00,h1,hgT,hdT,h3⟩:=hx;have hsz3:3<ts.size:=(Array.getElem?_eq_some_iff.mp h3).1;unfold setFlight;refine wpAny_bind (wpAny_field he hd h1 ?_);rw[if_pos (show(Value.ref T != Value.none)=true from by simp)];exact wpAny_setField hgT hdT hsz3 (h _ _ x1 x2)
theorem zjD {Q:Unit->Shared->Prop}{oe:Obj}{vs:Array Value}{a0 head:Value}{hadNext:Bool}(hfr:A.frames=some (env::outer))(hl:s.heap.FunFrames base (env::outer))(hf:env.frame=some L)
  (ha:h0.get? a=none) (hHa:H a=none) (he:s.heap.get? a=some oe) (hd:oe.data=.fields vs) (hs0:vs[0]? = some a0) (hs1:1<vs.size)
  (old:∀b,h0.get? b≠none\/H b≠none->∃o,s.heap.get? b=some o)
  (h:∀h' T' fl',s.heap.get? T'=none->(∀T,zch (frs (env::outer)) a T s.heap h')->ExcAt h0 H h' a oe.cls T' fl'->Q () { s with heap:=h' }) :
  wpAny M A (do let fo <- PySem.frameOf env;let pl <- entryPlaceOf L hadNext;let en <- EntryCells.newEntry head fo .none (rawInt L) .none pl;setField (.ref a) 1 en) Q E s:=by
 refine wpAny_entryW (base:=hide (a::frs (env::outer)) s.heap) hfr (zfX hl λb hb=>List.mem_cons_of_mem _ hb) hf he zif (zgK (List.mem_cons_self ..)) hd hs1 hs0 λh' hN=>?_;obtain⟨k1,k2,⟨oe3,vs3,T3,oT3,ts3,he3,⟨hc3,h03⟩,hd3,h13,hnT3,hTe3,hgT3,hdT3,h33⟩,k4⟩:=hN;have nT3:T3∉frs (env::outer):=λhm=>by
  obtain⟨_,o,e,nd⟩:=k2.mem hm;rw[hgT3]at e;cases e;exact nd _ hdT3
 have fresh3:s.heap.get? T3=none:=by
  rw[zdA (λy=>by
   rcases List.mem_cons.mp y with y | y
   ·exact hTe3 y
   ·exact nT3 y)]at hnT3
  exact hnT3
 have hT3:h0.get? T3=none/\H T3=none:=by
  refine⟨?_,?_⟩
  ·cases q:h0.get? T3 with
   | none=>rfl
   | some o=>obtain⟨o',e⟩:=old T3 (.inl (by rw[q];exact λz=>nomatch z));rw[fresh3]at e;cases e
  ·cases q:H T3 with
   | none=>rfl
   | some o=>obtain⟨o',e⟩:=old T3 (.inr (by rw[q];exact λz=>nomatch z));rw[fresh3]at e;cases e
 refine h h' T3 _ fresh3 (λT=>⟨λb o e n1 n2 nb=>?_,λb o e hb=>?_,λb o e=>?_⟩) ⟨ha,hHa,hT3.1,hT3.2,hTe3,oe3,vs3,oT3,ts3,a0,he3,hc3,hd3,h03,h13,hgT3,hdT3,h33⟩
 ·refine k1 b o ?_;rw[zdA λy=>?_]
  ·exact e
  ·rcases List.mem_cons.mp y with y | y
   ·exact n1 y
   ·exact nb y
 ·obtain⟨_,o2,e2,nd⟩:=hl.mem hb;rw[e]at e2;cases e2;exact k4 b o e nd
 ·by_cases y:b∈a::frs (env::outer)
  ·rcases List.mem_cons.mp y with y | y
   ·subst y;exact⟨_,he3⟩
   ·obtain⟨_,o2,e2,nd2⟩:=hl.mem y;rw[e]at e2;cases e2;obtain⟨sl,e2⟩:=k4 b o e nd2;exact⟨_,e2⟩
  ·exact⟨o,k1 b o (by rw[zdA y];exact e)⟩
theorem zlC {Q:Unit->Shared->Prop}(hfr:A.frames=some (env::outer))(hl:s.heap.FunFrames base (env::outer))(hf:env.frame=some L)(hx:ExcAt h0 H s.heap a cls T fl)
  (old:∀b,h0.get? b≠none\/H b≠none->∃o,s.heap.get? b=some o)
  (h:∀h' T' fl',(T'=T\/s.heap.get? T'=none)->zch (frs (env::outer)) a T s.heap h'->ExcAt h0 H h' a cls T' fl'->Q () { s with heap:=h' }):wpAny M A (noteFrame (.ref a) env) Q E s:=by
 have nf:=hx.nofr hl;obtain⟨x1,x2⟩:=setT (l:=env::outer) (x:=Value.none) hx nf.2;have hx':=hx;obtain⟨ha,hHa,hT,hHT,hTa,oe,vs,oT,ts,a0,he,hc,hd,h00,h1,hgT,hdT,h3⟩:=hx;have hsz3:3<ts.size:=(Array.getElem?_eq_some_iff.mp h3).1;unfold noteFrame;simp only[hf];refine wpAny_bind (wpAny_field he hd h1 ?_);rw[if_pos (show(Value.ref T != Value.none)=true from by simp)];refine wpAny_bind (wpAny_field hgT hdT h3 ?_);by_cases hq:(fl == rawInt L)=true
 ·rw[if_pos hq];exact wpAny_pure (h _ _ _ (.inl rfl) .refl hx')
 rw[if_neg hq];refine wpAny_bind (wpAny_setField hgT hdT hsz3 ?_);generalize s.heap.update T (Obj.mapFields (·.setIfInBounds 3 Value.none))=hm at x1 x2 ⊢;obtain⟨_,_,_,_,_,oe2,vs2,oT2,ts2,a02,he2,hc2,hd2,h02,h12,hgT2,hdT2,h32⟩:=x2;refine zjD (s:={ s with heap:=hm }) (h0:=h0) (H:=H) hfr (x1.funs hl nf.1 nf.2) hf ha hHa he2 hd2 h02 (Array.getElem?_eq_some_iff.mp h12).1 (λb hb=>?_) λh' T' fl' f y z=>?_
 ·obtain⟨o,e⟩:=old b hb;exact x1.there b o e
 ·have ft:s.heap.get? T'=none:=by
   cases q:s.heap.get? T' with
   | none=>rfl
   | some o=>obtain⟨o',e⟩:=x1.there T' o q;rw[f]at e;cases e
  exact h h' T' fl' (.inr ft) (x1.trans (.inl rfl) (y T)) (by rw[hc2]at z;exact z)
theorem zoc {Q:Unit->Shared->Prop}{oe:Obj}{vs:Array Value}{a0:Value}(hfr:A.frames=some (env::outer))(hl:s.heap.FunFrames base (env::outer))(hf:env.frame=some L)
  (ha:h0.get? a=none) (hHa:H a=none) (he:s.heap.get? a=some oe) (hd:oe.data=.fields vs) (hs0:vs[0]? = some a0) (hs1:vs[1]? = some .none)
  (old:∀b,h0.get? b≠none\/H b≠none->∃o,s.heap.get? b=some o)
  (h:∀h' T' fl',s.heap.get? T'=none->(∀T,zch (frs (env::outer)) a T s.heap h')->ExcAt h0 H h' a oe.cls T' fl'->Q () { s with heap:=h' }):wpAny M A (noteFrame (.ref a) env) Q E s:=by
 unfold noteFrame;simp only[hf];refine wpAny_bind (wpAny_field he hd hs1 ?_);rw[if_neg (by decide)];exact zjD hfr hl hf ha hHa he hd hs0 (Array.getElem?_eq_some_iff.mp hs1).1 old h
end
theorem zoW {P:Program}{w:World}{fs:List Addr}{H:Hp}{h h':Heap}{a T:Addr}(ok:HOk P w H h)(x:zch fs a T h h')(ha:H a=none)(hT:H T=none)(hf:∀b∈fs,H b=none):HOk P w H h':=λb o e=>
 (ok b o e).stay (λc u hc q=>by
  have tr:H c≠none:=by
   rcases hc with rfl | hc
   ·rw[e];exact λz=>nomatch z
   ·rw[hc];exact λz=>nomatch z
  exact x.keep c u q (λz=>tr (by rw[z];exact ha)) (λz=>tr (by rw[z];exact hT)) λz=>tr (hf c z)) (λ_ q=>q) λ_ _ q=>q
section
variable {X:Cx}{pins:List (Addr×Obj)}{σ:St}{H H':Hp}{s s':Shared}{a T:Addr}{cls fl:Value}{E E':XK}
noncomputable def RecAt (X:Cx)(H:Hp)(h:Heap)(a:Addr):Prop:=X.s₀.heap.get? a=none/\H a=none/\∃oe vs,h.get? a=some oe/\oe.data=.fields vs
theorem zlD {h':Heap}(I:Inv X pins σ H s)(x:zch (frs X.stack) a T s.heap h')(ra:RecAt X H s.heap a)(rT:RecAt X H s.heap T)(hp:∀p∈X.pn++pins,p.1≠a/\p.1≠T):Inv X pins σ H { s with heap:=h' }:=by
 obtain⟨ha,hHa,oe,vs,he,hd⟩:=ra;obtain⟨hT,hHT,oT,ts,hgT,hdT⟩:=rT;have old:∀b o,X.s₀.heap.get? b=some o->b≠a/\b≠T:=λb o e=>⟨λz=>(by rw[z,ha]at e;cases e),λz=>(by rw[z,hT]at e;cases e)⟩;have nst:∀b,b∉X.fs->b≠X.env.locals->b∉frs X.stack:=λb h1 h2 h3=>by
  rcases I.ok.stk with z | ⟨z,zf⟩
  ·rw[z]at h3;exact h1 h3
  ·rw[z]at h3;unfold frs at h3;rw[List.filterMap_cons,zf]at h3;rcases List.mem_cons.mp h3 with h3 | h3
   ·exact h2 h3
   ·exact h1 h3
 have sub:∀b∈X.fs,b∈frs X.stack:=λb hb=>by
  rcases I.ok.stk with z | ⟨z,zf⟩
  ·rw[z];exact hb
  ·rw[z];unfold frs;rw[List.filterMap_cons,zf];exact List.mem_cons_of_mem _ hb
 have dat:∀b o,s.heap.get? b=some o->(∀vs,o.data≠.fields vs)->∃sl,h'.get? b=some { o with slots:=sl }:=λb o e nd=>by
  by_cases hb:b∈frs X.stack
  ·exact x.slot b o e hb
  ·exact⟨o.slots,x.keep b o e (λz=>by rw[z,he]at e;cases e;exact nd _ hd) (λz=>by rw[z,hgT]at e;cases e;exact nd _ hdT) hb⟩
 have cel:∀c v,s.heap.IsCell c v->h'.IsCell c v:=λc v ⟨o,e,q⟩=>by
  obtain⟨sl,e'⟩:=dat c o e (λvs z=>by rw[q]at z;cases z);exact⟨_,e',q⟩
 have low:∀b o,X.s₀.heap.get? b=some o->b≠X.env.locals:=λb o e=>Nat.ne_of_lt (Nat.lt_of_lt_of_le (Heap.lt_size e) I.ok.above);obtain⟨m,⟨o,es,ep,hg,hdd,hk⟩,hl⟩:=id I.loc;obtain⟨sl,hg'⟩:=dat _ o hg (λvs z=>by rw[hdd]at z;cases z);refine⟨I.ok,I.os,I.bare,⟨λb o e n hb hx=>?_,λb o e n hb hx=>?_,I.base.free,λb o e hx=>?_,I.base.tups,I.base.frzs,I.base.tbls⟩,⟨m,⟨_,es,ep,hg',hdd,hk⟩,λi y v e1 e2 e3=>?_⟩,λy c e=>?_,I.free,I.freeC,λp hp'=>?_,zoW I.hok x hHa hHT I.zgw,I.len⟩
 ·exact x.keep b o (I.base.keep b o e n hb hx) (old b o e).1 (old b o e).2 (nst b hb (low b o e))
 ·obtain⟨sl,e1⟩:=I.base.slot b o e n hb hx;obtain⟨sl2,e2⟩:=x.slot b _ e1 (sub b hb);exact⟨sl2,e2⟩
 ·obtain⟨o',e1⟩:=I.base.there b o e hx;exact x.there b o' e1
 ·obtain⟨u,r,q⟩:=hl i y v e1 e2 e3;refine⟨u,r,?_⟩;rcases q with q | ⟨k,c,e,z⟩
  ·exact .inl q
  ·exact .inr ⟨k,c,e,cel _ _ z⟩
 ·obtain⟨v,z⟩:=I.cell y c e;exact⟨v,cel _ _ z⟩
 ·obtain⟨e,n,ne,nf,d⟩:=I.pin p hp';exact⟨x.keep p.1 p.2 e (hp p hp').1 (hp p hp').2 (nst _ nf ne),n,ne,nf,d⟩
theorem zkO {h':Heap}(I:Inv X pins σ H s)(x:zch (frs X.stack) a T s.heap h')(hx:ExcAt X.s₀.heap H s.heap a cls T fl)(hp:∀p∈X.pn++pins,p.1≠a/\p.1≠T):Inv X pins σ H { s with heap:=h' }:=by
 obtain⟨ha,hHa,hT,hHT,hTa,oe,vs,oT,ts,a0,he,hc,hd,h00,h1,hgT,hdT,h3⟩:=hx;exact zlD I x ⟨ha,hHa,_,_,he,hd⟩ ⟨hT,hHT,_,_,hgT,hdT⟩ hp
noncomputable def CXJ (P:Program)(w:World):CXT:=λouter H s E e s'=>
 ∃a T cls fl H',e=.ref a/\s'.os=s.os/\AllBare s'.gens/\Un (frs outer) [] H H' s.heap s'.heap/\HOk P w H' s'.heap/\ExcAt s.heap H' s'.heap a cls T fl/\E cls none H'
noncomputable def FlyI (X:Cx)(pins:List (Addr×Obj))(σ:St)(E:XK)(e:Value)(s':Shared):Prop:=
 ∃a T cls fl H',e=.ref a/\Inv X pins σ H' s'/\ExcAt X.s₀.heap H' s'.heap a cls T fl/\(∀p∈X.pn++pins,p.1≠a/\p.1≠T)/\E cls none H'
theorem ExcAt.back {h0 h1 h:Heap}(x:ExcAt h1 H h a cls T fl)(k:∀b o,h0.get? b=some o->∃o',h1.get? b=some o'):ExcAt h0 H h a cls T fl:=by
 obtain⟨ha,hHa,hT,hHT,r⟩:=x;have f:∀b,h1.get? b=none->h0.get? b=none:=λb e=>by
  cases q:h0.get? b with
  | none=>rfl
  | some o=>obtain⟨o',e'⟩:=k b o q;rw[e]at e';cases e'
 exact⟨f a ha,hHa,f T hT,hHT,r⟩
theorem FlyI.of (I:Inv X pins σ H s)(hex:X.ex=[]){e:Value}(h:CXJ X.prog X.w X.stack H s E e s'):FlyI X pins σ E e s':=by
 obtain⟨a,T,cls,fl,H',rfl,os,bare,un,hok,ex,q⟩:=h;refine⟨a,T,cls,fl,H',rfl,I.call' (ch:=[]) os un hok bare (λb z=>absurd z (by simp)),ex.back λb o e=>I.base.there b o e (by rw[hex];simp),λp hp=>?_,q⟩;obtain⟨e,_⟩:=I.pin p hp;exact⟨λz=>(by rw[z,ex.1]at e;cases e),λz=>(by rw[z,ex.2.2.1]at e;cases e)⟩
theorem FlyI.old (I:Inv X pins σ H s)(hex:X.ex=[]):∀b,X.s₀.heap.get? b≠none\/H b≠none->∃o,s.heap.get? b=some o:=λb hb=>by
 rcases hb with hb | hb
 ·cases q:X.s₀.heap.get? b with
  | none=>exact absurd q hb
  | some o=>exact I.base.there b o q (by rw[hex];simp)
 ·cases q:H b with
  | none=>exact absurd q hb
  | some o=>exact HOk.there I.hok q
theorem FlyI.note {M:Model}{Ex:Value->Shared->Prop}{e:Value}{env:Env}{Q:Unit->Shared->Prop}{L:Addr}(h:FlyI X pins σ E e s')(hex:X.ex=[])(hst:X.stack=X.env::X.outer)(hf:X.env.frame=some L)(hen:env.frame=X.env.frame)
  (q:∀s'',FlyI X pins σ E e s''->Q () s''):wpAny M X.A (noteFrame e env) Q Ex s':=by
 obtain⟨a,T,cls,fl,H',rfl,I,ex,hp,hE⟩:=h;rw[zeK hen];have hfr:X.A.frames=some (X.env::X.outer):=by rw[I.ok.frames,hst]
 have hl:=I.stack;rw[hst]at hl;refine zlC hfr hl hf ex (FlyI.old I hex) λh' T' fl' w x z=>q _ ⟨a,T',cls,fl',H',rfl,zkO I (by rw[hst];exact x) ex hp,z,λp hp'=>⟨(hp p hp').1,λy=>?_⟩,hE⟩;rcases w with w | w
 ·exact(hp p hp').2 (y.trans w)
 ·obtain⟨e,_⟩:=I.pin p hp';rw[y,w]at e;cases e
theorem FlyI.flight {M:Model}{A:Around}{Ex:Value->Shared->Prop}{e:Value}{f:Option Addr}{Q:Unit->Shared->Prop}(h:FlyI X pins σ E e s')(q:∀s'',FlyI X pins σ E e s''->Q () s''):wpAny M A (setFlight e f) Q Ex s':=by
 obtain⟨a,T,cls,fl,H',rfl,I,ex,hp,hE⟩:=h;exact zhy (l:=X.stack) ex (ex.nofr I.stack).2 λh' fl' x z=>q _ ⟨a,T,cls,fl',H',rfl,zkO I x ex hp,z,hp,hE⟩
end
noncomputable abbrev bmV:List Value:=[.type "ValueError",.type "Exception",.type "BaseException",.type "object"]
noncomputable def ExcC (K:PySem.W.Frag)(C:Addr)(bm:List Value):Prop:=∀h:Heap,K.In h->∃N nm q bs hdct sn sub ab col dd k0 k1 k2 k3 k5 mN,
 h.get? C=some (excClassObj nm q C N bs bm hdct sn sub ab col dd k0 k1 k2 k3 k5 "ValueError.__new__")/\h.Ns N mN/\mN "__init__" = none/\OwnTail h bmV bm
noncomputable def mroIn (K:PySem.W.Frag)(C:Addr)(bm:List Value):Bool:=match K.lookup C with
 | some ⟨_,_,.cls cd,_⟩=>cd.mro == .ref C::bm
 | _=>false
theorem zgL {K:PySem.W.Frag}{C:Addr}{bm:List Value}(q:PySem.W.excIn K C bmV "ValueError.__new__" = true) (q2:mroIn K C bm=true):ExcC K C bm:=λh X=>by
 unfold PySem.W.excIn at q;unfold mroIn at q2;split at q
 ·rename_i dd cd sl ho
  rw[ho]at q2;have q2':cd.mro=.ref C::bm:=beq_iff_eq.mp q2;split at q
  ·rename_i C' bm' k0 k1 k2 k3 n k5 hm hs
   simp only[Bool.and_eq_true,beq_iff_eq,Bool.not_eq_true']at q;obtain⟨⟨⟨⟨⟨rfl,rfl⟩,hdel⟩,ht⟩,hok⟩,hni⟩:=q;rw[hm]at q2';cases q2';obtain⟨nm,bs,mro,ns,qn,hd,sn,sub,ab,col,del⟩:=cd;dsimp only at hm hdel hok hni;subst hm hdel;have hsl:sl = #[k0,k1,k2,k3,some (.builtin "ValueError.__new__"),k5]:=by
    cases sl;simp only at hs;rw[hs]
   subst hsl;exact⟨ns,nm,qn,bs,hd,sn,sub,ab,col,dd,k0,k1,k2,k3,k5,_,X _ _ ho,.of_isNs (PySem.W.isNs_of_in X hok),PySem.W.nsMap_none_of_in X hok hni,PySem.W.tail_of_in X ht⟩
  ·cases q
 ·cases q
theorem zig {prog:Program}{w:World}{A:Around}{R:Result->Shared->Prop}{s:Shared}{elt tg iter:Expr}{ifs:List Expr}{scope:Scope}{pos:Pos}{it acc:Value}{env:Env}(Ex:Value->Shared->Prop)
  (hE:∀e s,Ex e s->notedBy (model prog w) A env (λx s'=>R (.error x) s') e s) (J:Nat->Shared->Prop)
  (turn:∀n s,J n s->wpAny (model prog w) A (pyNext it) (λr s1=>match r with
   | none=>R (.ok .next) s1
   | some v=>wpAny (model prog w) A (letOwnedTupleGo tg it v) (λ_ s2=>wpAny (model prog w) A (assign tg env v) (λ_ s3=>
     wpAny (model prog w) A (forIn ifs true λc r=>if r=true then do let ok <- isTrue c env (eval c env);pure (ForInStep.yield ok) else pure (ForInStep.yield r)) (λok s4=>
      if ok=true then wpAny (model prog w) A (eval elt env) (λx s5=>wpAny (model prog w) A (call (.builtin "list.append") [acc,x]) (λ_ s6=>∃m,m<n/\J m s6) (λ_ _=>False) s5) Ex s4
      else ∃m,m<n/\J m s4) (λ_ _=>False) s3) (λ_ _=>False) s2) (λ_ _=>False) s1) (λ_ _=>False) s)
  (n:Nat) (h:J n s):codeAny (model prog w) A (.compLoop (.ListComp elt [⟨tg,iter,ifs,0⟩] scope pos) 0 it acc env) R s:=by
 refine codeAny_loop rfl J (λn s hI=>wpAny_noted (wpAny_mono (E:=Ex) ?_ (λ_ _ q=>q) hE)) n h;rw[compTurn_list];refine wpAny_bind (wpAny_standAt (wpAny_bind (wpAny_mono (turn n s hI) (λr s1 h1=>?_) λ_ _ z=>z.elim)));cases r with
 | none=>exact wpAny_pure h1
 | some v=>
  refine wpAny_bind (wpAny_mono h1 (λ_ s2 h2=>wpAny_bind (wpAny_mono h2 (λ_ s3 h3=>wpAny_bind (wpAny_mono h3 (λok s4 h4=>?_) λ_ _ z=>z.elim)) λ_ _ z=>z.elim)) λ_ _ z=>z.elim);cases ok with
  | false=>exact wpAny_pure ⟨rfl,by simpa using h4⟩
  | true=>
   rw[if_pos rfl]at h4;exact wpAny_bind (wpAny_bind (thn h4 λx s5 h5=>wpAny_bind (wpAny_mono h5 (λ_ s6 h6=>wpAny_pure (wpAny_pure ⟨rfl,h6⟩)) λ_ _ z=>z.elim)))
noncomputable def XB (Y:Cx)(E:XK):Value->Shared->Prop:=λe s'=>∃pins σ H s,Inv Y pins σ H s/\CXJ Y.prog Y.w Y.stack H s E e s'
section
variable {X:Cx}{elt tg iter:Expr}{ifs:List Expr}{sc:Scope}{pos:Pos}{N:List Str}{k:Nat}{js:List Nat}{wi:TI}{g:TG}{tt:TT}{te:TE}{E:XK}
theorem zod {Y:Cx}:zeA (CXJ Y.prog Y.w) (Y.wish (XB Y E)) E:=λpins σ H s e s' I h=>⟨pins,σ,H,s,I.zaY,h⟩
structure BlkX (X:Cx)(N:List Str)(sc:Scope)(tg:Expr)(ifs:List Expr)(elt:Expr)(g:TG)(tt:TT)(te:TE)(E:XK):Prop where
 tgt:∀C cells fp s H,PG (cxB X N sc C cells fp s H) tg g
 tst:∀C cells fp s H,PTs (cxB X N sc C cells fp s H) ifs tt
 val:∀C cells fp s H,PE ((cxB X N sc C cells fp s H).wish (XB (cxB X N sc C cells fp s H) E)) elt te
noncomputable def FlyC (X:Cx)(pins:List (Addr×Obj))(σ:St)(E:XK)(C:Addr)(e:Value)(s':Shared):Prop:=
 ∃a T cls fl H',e=.ref a/\Inv X pins σ H' s'/\ExcAt X.s₀.heap H' s'.heap a cls T fl/\(∀p∈X.pn++pins,p.1≠a/\p.1≠T)/\E cls none H'/\FpOk X pins H' C/\∃m,s'.heap.Ns C m
theorem zoX {fs:List Addr}{a T c:Addr}{h h' h0:Heap}{H:Hp}{cls fl:Value}{m:Str->Option Value}(x:zch fs a T h h')(ex:ExcAt h0 H h a cls T fl)(hn:h.Ns c m):h'.Ns c m:=by
 obtain⟨ha,hHa,hT,hHT,hTa,oe,vs,oT,ts,a0,he,hc,hd,h00,h1,hgT,hdT,h3⟩:=ex;obtain⟨o,es,ep,hg,hdd,hk⟩:=hn;by_cases hb:c∈fs
 ·obtain⟨sl,e⟩:=x.slot c o hg hb;exact⟨_,es,ep,e,hdd,hk⟩
 ·exact⟨o,es,ep,x.keep c o hg (λz=>by rw[z,he]at hg;cases hg;rw[hd]at hdd;cases hdd) (λz=>by rw[z,hgT]at hg;cases hg;rw[hdT]at hdd;cases hdd) hb,hdd,hk⟩
theorem FlyC.note {M:Model}{Ex:Value->Shared->Prop}{e:Value}{env:Env}{Q:Unit->Shared->Prop}{L C:Addr}{pins:List (Addr×Obj)}{σ:St}{s':Shared}(h:FlyC X pins σ E C e s')(hex:X.ex=[])(hst:X.stack=X.env::X.outer)(hf:X.env.frame=some L)(hen:env.frame=X.env.frame)
  (q:∀s'',FlyC X pins σ E C e s''->Q () s''):wpAny M X.A (noteFrame e env) Q Ex s':=by
 obtain⟨a,T,cls,fl,H',rfl,I,ex,hp,hE,fc,m,hn⟩:=h;rw[zeK hen];have hfr:X.A.frames=some (X.env::X.outer):=by rw[I.ok.frames,hst]
 have hl:=I.stack;rw[hst]at hl;refine zlC hfr hl hf ex (FlyI.old I hex) λh' T' fl' w x z=>q _ ⟨a,T',cls,fl',H',rfl,zkO I (by rw[hst];exact x) ex hp,z,λp hp'=>⟨(hp p hp').1,λy=>?_⟩,hE,fc,m,zoX x ex hn⟩;rcases w with w | w
 ·exact(hp p hp').2 (y.trans w)
 ·obtain⟨e,_⟩:=I.pin p hp';rw[y,w]at e;cases e
theorem zfY {pins:List (Addr×Obj)}{σ:St}{H:Hp}{s:Shared}{R:Addr->Hp->Prop}{L:Addr}(hc:X.calm=true)(hex:X.ex=[])(hst:X.stack=X.env::X.outer)(hfm:X.env.frame=some L)(S:zbs X N k js sc)(hi:PI X tg iter wi)(B:BlkX X N sc tg ifs elt g tt te E)(I:Inv X pins σ H s)
  (h:wi σ H λJ H1=>∀l,H1 l=none->zfC J g tt te l (zca k js σ) H1 (R l)) :
  wpAny (model X.prog X.w) X.A (eval iter X.env) (λx s1=>wpAny (model X.prog X.w) X.A (pyIter x) (λit s2=>wpAny (model X.prog X.w) X.A (newList []) (λacc s3=>
   wpAny (model X.prog X.w) X.A (newFunctionEnv sc X.env.globals (zaD X.env sc.names []) [] X.env.qual none .none (some X.env)) (λcenv s4=>
    codeAny (model X.prog X.w) X.A (.compStart (.ListComp elt [⟨tg,iter,ifs,0⟩] sc pos) 0 it acc { cenv with scope:=relabel sc X.env })
     (λr s'=>match r with | .ok _=>After X pins σ R acc cenv.locals s' | .error e=>FlyC X pins σ E cenv.locals e s') s4) X.xe s3) X.xe s2) X.xe s1) X.xe s:=by
 refine thn (hi pins s σ H _ I h) λv s1 h1=>thn h1 λitv s2 h2=>?_;obtain⟨it,fp,tn,J,H2,e,I2,T,st2,f2,hq⟩:=h2;subst e;have hl:H2 s2.heap.objs.size=none:=I2.fresh;have fplt:∀b∈fp,b<s2.heap.objs.size:=λb hb=>by
  obtain⟨o,e,_⟩:=T.obj 0 _ st2 b hb;exact Heap.lt_size e
 obtain⟨W,⟨m0,w0⟩,turn⟩:=hq _ hl;refine wpAny_newList ?_;have I3:Inv X pins σ (upd H2 s2.heap.objs.size (.lst [])) { s2 with heap:=s2.heap.push { cls:=.type "list",data:=.seq ([]:List Value).toArray } }:=I2.lnew (its:=[]) (t':=s2.toks) .nil (Nat.zero_le _);have u3:Un (frs X.stack) fp H2 (upd H2 s2.heap.objs.size (.lst [])) s2.heap (s2.heap.push { cls:=.type "list",data:=.seq ([]:List Value).toArray }):=Un.laid (λb o e=>Heap.get?_push_of_some _ e) (Nat.le_refl _) hl;have hz3:(s2.heap.push { cls:=.type "list",data:=.seq ([]:List Value).toArray }).objs.size=s2.heap.objs.size+1:=Heap.size_push ..;have kp3:∀b o,s2.heap.get? b=some o->(s2.heap.push { cls:=.type "list",data:=.seq ([]:List Value).toArray }).get? b=some o:=λb o e=>Heap.get?_push_of_some _ e;have fpn:∀b∈fp,upd H2 s2.heap.objs.size (.lst []) b=none:=λb hb=>by
  rw[zap (Nat.ne_of_lt (fplt b hb))];exact(f2 b hb).1
 generalize hl0:s2.heap.objs.size=l at hl I3 u3 hz3 kp3 fpn w0 turn ⊢;rw[hl0]at fplt;generalize s2.heap.push { cls:=.type "list",data:=.seq ([]:List Value).toArray }=h3 at I3 u3 hz3 kp3 ⊢;generalize upd H2 l (.lst [])=H3 at I3 u3 fpn w0;have f3:∀b∈fp,FpOk X pins H3 b:=λb hb=>⟨fpn b hb,(f2 b hb).2⟩;have I4:=I3.block S f3 (λb hb=>by show b<h3.objs.size;rw[hz3];exact Nat.lt_succ_of_lt (fplt b hb));have kp4:∀b o,s2.heap.get? b=some o->(pushCells (h3.push { cls:=.type "dict",data:=.dict #[] }) sc.names).get? b=some o:=λb o e=>pushCells_keeps _ _ b o (Heap.get?_push_of_some _ (kp3 b o e));refine zfB ?_;have st4:tn 0 (pushCells (h3.push { cls:=.type "dict",data:=.dict #[] }) sc.names):=T.keep 0 _ _ st2 λb _ o e=>kp4 b o e;have stat:∀ {H':Hp},(∀b∈fp,H' b=none)->∀b∈fp,FpOk (cxB X N sc h3.objs.size (cellsFrom (h3.objs.size+1) sc.names (zaD X.env sc.names [])) fp { s2 with heap:=h3 } H3) [] H' b:=λhn b hb=>
  ⟨hn b hb,(I4.ok.exf b hb).1,I4.ok.exfs b hb,.inl hb,(I4.ok.exf b hb).2,λp hp=>absurd (show p∈([]:List (Addr×Obj)) from hp) (by simp)⟩
 have fly:∀e s',XB (cxB X N sc h3.objs.size (cellsFrom (h3.objs.size+1) sc.names (zaD X.env sc.names [])) fp { s2 with heap:=h3 } H3) E e s'->FlyC X pins σ E h3.objs.size e s':=by
  rintro e s' ⟨pins9,σ9,H9,s9,I9,a,T9,cls,fl,H',rfl,os,bare,un,hok,ex,hE⟩;have u9:Un (frs X.stack) fp H2 H9 s2.heap s9.heap:=u3.trans I9.base;have IX:Inv X pins σ H' s':=I2.call' (ch:=fp) (os.trans I9.os) (u9.trans (un.mono (λ_ z=>z) λb z=>absurd z (by simp))) hok bare λb hb=>⟨(f2 b hb).2.2.2.1,(f2 b hb).2.1,(f2 b hb).2.2.2.2.1,(f2 b hb).2.2.2.2.2⟩;have I10:=I9.call' (ch:=[]) os un hok bare (λb z=>absurd z (by simp));obtain⟨m10,hn10,_⟩:=id I10.loc;refine⟨a,T9,cls,fl,H',rfl,IX,ex.back λb o e=>?_,λp hp=>?_,hE,I2.fpOk (by rw[hz3,hl0];exact Nat.le_succ _) I10.free,m10,hn10⟩
  ·obtain⟨o2,e2⟩:=I2.base.there b o e (by rw[hex];simp);refine u9.there b o2 e2 λhb=>?_;rcases(f2 b hb).2.2.2.1 with z | z
   ·rw[hex]at z;simp at z
   ·exact absurd (Heap.lt_size e) (Nat.not_lt.mpr z)
  ·obtain⟨e,_⟩:=I2.pin p hp;obtain⟨o9,e9⟩:=u9.there p.1 p.2 e λhb=>(f2 p.1 hb).2.2.2.2.2 p hp rfl;exact⟨λz=>(by rw[z,ex.1]at e9;cases e9),λz=>(by rw[z,ex.2.2.1]at e9;cases e9)⟩
 generalize hY:cxB X N sc h3.objs.size (cellsFrom (h3.objs.size+1) sc.names (zaD X.env sc.names [])) fp { s2 with heap:=h3 } H3=Y at I4 stat fly;have loop:codeAny (model X.prog X.w) X.A (.compLoop (.ListComp elt [⟨tg,iter,ifs,0⟩] sc pos) 0 (.ref it) (.ref l) Y.env)
   (λr s'=>match r with | .ok _=>After X pins σ R (.ref l) h3.objs.size s' | .error e=>FlyC X pins σ E h3.objs.size e s') { s2 with heap:=pushCells (h3.push { cls:=.type "dict",data:=.dict #[] }) sc.names }:=by
  refine zig (XB Y E) (λe s' hx=>FlyC.note (fly e s' hx) hex hst hfm (by subst hY;rfl) λs'' q=>q) (λn s'=>∃i σ' H',Inv Y [] σ' H' s'/\tn i s'.heap/\(∀b∈fp,H' b=none)/\W i n σ' H') ?_ m0
   ⟨0,zca k js σ,H3,I4,st4,fpn,w0⟩
  subst hY;rintro n s5 ⟨i,σ5,H5,I5,st5,fr5,w5⟩;rcases turn i n σ5 H5 w5 with ⟨stop,qn⟩ | ⟨go,step⟩
  ·refine thn (T.done (cxB X N sc h3.objs.size (cellsFrom (h3.objs.size+1) sc.names (zaD X.env sc.names [])) fp { s2 with heap:=h3 } H3) rfl rfl rfl hc i [] s5 σ5 H5 (λ_ _=>False) I5 (stat fr5) st5 stop) λr s6 q90q=>?_;obtain⟨hr,I6⟩:=q90q;subst hr;obtain⟨m6,hn6,_⟩:=id I6.loc;have IX:Inv X pins σ H5 s6:=I2.call' (ch:=fp) I6.os (u3.trans I6.base) I6.hok I6.bare λb hb=>⟨(f2 b hb).2.2.2.1,(f2 b hb).2.1,(f2 b hb).2.2.2.2.1,(f2 b hb).2.2.2.2.2⟩;exact⟨l,H5,m6,rfl,IX,hn6,I2.fpOk (by show s2.heap.objs.size<=h3.objs.size;rw[hz3,hl0];exact Nat.le_succ _) I6.free,qn⟩
  ·refine thn (T.item (cxB X N sc h3.objs.size (cellsFrom (h3.objs.size+1) sc.names (zaD X.env sc.names [])) fp { s2 with heap:=h3 } H3) rfl rfl rfl hc i [] s5 σ5 H5 (λ_ _=>False) I5 (stat fr5) st5 go) λr s6 q91q=>?_;obtain⟨u,hr,h6⟩:=q91q;subst hr;refine thn h6 λ_ s7 q92q=>?_;obtain⟨x,H7,I7,r7,y7,st7,fr7⟩:=q92q;have I7':=I7.pinned (stat fr7) (T.obj _ _ st7);refine thn (B.tgt _ _ _ _ _ _ s7 σ5 H7 x u _ I7' r7 (step x H7 y7)) λ_ s8 q93q=>?_;obtain⟨σ8,H8,I8,q8⟩:=q93q;refine thn (B.tst _ _ _ _ _ _ s8 σ8 H8 _ I8 q8) λok s9 q94q=>?_;obtain⟨H9,I9,q9⟩:=q94q;have kept:∀ {σ':St} {H':Hp} {s':Shared},Inv (cxB X N sc h3.objs.size (cellsFrom (h3.objs.size+1) sc.names (zaD X.env sc.names [])) fp { s2 with heap:=h3 } H3) ([]++zey fp s7.heap) σ' H' s'->tn (i+1) s'.heap/\∀b∈fp,H' b=none:=λ{σ' H' s'} I'=>
    ⟨T.keep _ _ _ st7 λb hb o e=>(I'.pin (b,o) (List.mem_append_right _ (List.mem_append_right _ (zbr hb e)))).1,λb hb=>by
     obtain⟨o,e,_⟩:=T.obj _ _ st7 b hb;exact(I'.pin (b,o) (List.mem_append_right _ (List.mem_append_right _ (zbr hb e)))).2.1⟩
   cases ok with
   | false=>
    rw[if_neg Bool.false_ne_true]at q9;rw[if_neg Bool.false_ne_true];obtain⟨m',hm,w9⟩:=q9;exact⟨m',hm,i+1,σ8,H9,I9.zbN,(kept I9).1,(kept I9).2,w9⟩
   | true=>
    rw[if_pos rfl]at q9;rw[if_pos rfl];refine thn (B.val _ _ _ _ _ _ s9 σ8 H9 _ (I9.wish _) q9) λu10 s10 q95q=>?_;obtain⟨y,H10,I10',r10,ys,hys,hlen,m',hm,w10⟩:=q95q;have I10:=I10'.zaY;refine thn (zcG _ s10 σ8 H10 (.ref l) [y] (.ref l) [u10] (λ_ H'=>H'=upd H10 l (.lst (ys++[y]))) I10 rfl (.cons r10 .nil) ⟨l,ys,y,rfl,rfl,hys,hlen,rfl⟩) λ_ s11 q96q=>?_;obtain⟨_,H11,I11,_,e11⟩:=q96q;subst e11;exact⟨m',hm,i+1,σ8,_,I11.zbN,(kept I11).1,(kept I11).2,w10⟩
 subst hY;exact codeAny_compStart_list loop (T.self X.A 0 _ _ _ st4 loop)
theorem zkP {L:Addr}(hc:X.calm=true)(hex:X.ex=[])(hst:X.stack=X.env::X.outer)(hfm:X.env.frame=some L)(hxe:∀pins σ e s',FlyI X pins σ E e s'->X.xe e s')(S:zbs X N k js sc)(hi:PI X tg iter wi)(B:BlkX X N sc tg ifs elt g tt te E)(hs:autoParam (∀x,foldedSetIterable iter X.env x=pure x) aU3) :
  PE X (.ListComp elt [⟨tg,iter,ifs,0⟩] sc pos) (ziR k js wi g tt te):=by
 intro pins s σ H Q I h;rw[eval_ListComp];refine wpAny_comprehension_free (use:=none) rfl hs (zgE λn hn=>I.ok.has n (S.fr n hn)) S.kind (zda S) ?_;refine thn (zfY (pos:=pos) (R:=λl H'=>Q (.ref l) H') hc hex hst hfm S hi B I h) λx s1 h1=>thn h1 λit s2 h2=>thn h2 λacc s3 h3=>thn h3 λcenv s4 h4=>codeAny_mono h4 λr s' hr=>?_;cases r with
 | error e=>
  obtain⟨a,T,cls,fl,H',rfl,I',ex,hp,hE,⟨f0,f1,f2,f3,f4,f5⟩,m,hn⟩:=hr;refine⟨m,hn,λh' sb cenv' hce=>?_⟩;have I'':=I'.turned (t':=s'.toks) (λb o hb e=>sb.extBut b o hb e) f0 f1 f3 f4 f5;have ex':ExcAt X.s₀.heap H' h' a cls T fl:=by
   obtain⟨ha,hHa,hT,hHT,hTa,oe,vs,oT,ts,a0,he,hc,hd,h00,h1,hgT,hdT,h3⟩:=ex;obtain⟨o,es,ep,hg,hdd,hk⟩:=hn;have n1:a≠cenv.locals:=λz=>by rw[z,hg]at he;cases he;rw[hd]at hdd;cases hdd
   have n2:T≠cenv.locals:=λz=>by rw[z,hg]at hgT;cases hgT;rw[hdT]at hdd;cases hdd
   exact⟨ha,hHa,hT,hHT,hTa,oe,vs,oT,ts,a0,sb.extBut _ _ n1 he,hc,hd,h00,h1,sb.extBut _ _ n2 hgT,hdT,h3⟩
  have F:FlyI X pins σ E (.ref a) { s' with heap:=h' }:=⟨a,T,cls,fl,H',rfl,I'',ex',hp,hE⟩;unfold PySem.passOn;obtain⟨ha,hHa,hT,hHT,hTa,oe,vs,oT,ts,a0,he,hc,hd,h00,h1,hgT,hdT,h3⟩:=ex';refine wpAny_bind (wpAny_field he hd h1 ?_);rw[if_neg (by simp)];exact wpAny_bind (FlyI.flight F λs'' F'=>wpAny_throw (hxe pins σ _ _ F'))
 | ok f=>
  obtain⟨l,H',m,rfl,I',hn,⟨f0,f1,f2,f3,f4,f5⟩,q⟩:=hr;exact⟨m,hn,λh' sb=>⟨.ref l,H',I'.turned (t':=s'.toks) (λb o hb e=>sb.extBut b o hb e) f0 f1 f3 f4 f5,rfl,q⟩⟩
end
noncomputable def ClsAt (a:Addr)(cls:Value):HO:=.ext λh=>∃o,h.get? a=some o/\o.cls=cls
section
variable {X:Cx}{pins:List (Addr×Obj)}{σ:St}{H H':Hp}{s s':Shared}{a T:Addr}{cls fl:Value}{E E':XK}
theorem zjE (I:Inv X pins σ H s)(hx:ExcAt X.s₀.heap H s.heap a cls T fl)(hp:∀p∈X.pn++pins,p.1≠a):Inv X pins σ (upd H a (ClsAt a cls)) s:=by
 obtain⟨ha,hHa,hT,hHT,hTa,oe,vs,oT,ts,a0,he,hc,hd,h00,h1,hgT,hdT,h3⟩:=hx;have ne:∀b u,H b=some u->b≠a:=λb u e z=>by rw[z,hHa]at e;cases e
 obtain⟨m,⟨o,es,ep,hg,hdd,hk⟩,hl⟩:=id I.loc;have nl:X.env.locals≠a:=λz=>by rw[z,he]at hg;cases hg;rw[hd]at hdd;cases hdd
 have hbe:∀b,b≠a->upd H a (ClsAt a cls) b=H b:=λb n=>zap n;refine⟨I.ok,I.os,I.bare,⟨I.base.keep,I.base.slot,λb o e n hx=>?_,I.base.there,λb xs e=>?_,λb o u e=>?_,λb ps e=>?_⟩,I.loc,I.cell,by rw[hbe _ nl];exact I.free,λx c e=>?_,λp hp'=>?_,λb u e=>?_,I.len⟩
 ·rw[hbe b λz=>by rw[z,ha]at e;cases e];exact I.base.free b o e n hx
 ·have q:=I.base.tups b xs e;rw[hbe b (ne b _ q)];exact q
 ·have q:=I.base.frzs b o u e;rw[hbe b (ne b _ q)];exact q
 ·obtain⟨more,q⟩:=I.base.tbls b ps e;exact⟨more,by rw[hbe b (ne b _ q)];exact q⟩
 ·obtain⟨v,oc,ec,q⟩:=I.cell x c e;rw[hbe c λz=>by rw[z,he]at ec;cases ec;rw[hd]at q;cases q];exact I.freeC x c e
 ·obtain⟨q,n,r⟩:=I.pin p hp';exact⟨q,by rw[hbe _ (hp p hp')];exact n,r⟩
 ·by_cases hb:b=a
  ·subst hb;rw[zam]at e;cases e;exact⟨⟨oe,he,hc⟩,⟨oe,he⟩,λh1 h2 q97q k=>by obtain⟨o,e,c⟩:=q97q;exact⟨o,k o e,c⟩⟩
  ·rw[hbe b hb]at e;exact(I.hok b u e).stay (λ_ _ _ q=>q) (λc q=>by rw[hbe c (ne c _ q)];exact q) λc xs q=>by rw[hbe c (ne c _ q)];exact q
noncomputable abbrev hCx (X:Cx)(a:Addr):Cx:={ X with A:=X.A.mark (some (.ref a)),calm:=false,xe:=λ_ _=>False }
theorem zoe (I:Inv X pins σ H s)(a:Addr):Inv (hCx X a) pins σ H s:=
 ⟨⟨I.ok.mod,I.ok.kind,I.ok.glob,I.ok.blt,I.ok.above,I.ok.inj,I.ok.has,I.ok.cab,(λz=>nomatch z),I.ok.frames,I.ok.stk,I.ok.exf,I.ok.bs,I.ok.bsz,I.ok.noex,I.ok.exfs,I.ok.funs,I.ok.frf⟩,I.os,I.bare,I.base,I.loc,I.cell,I.free,I.freeC,I.pin,I.hok,I.len⟩
theorem zof (I:Inv (hCx X a) pins σ H s)(ok:X.Ok):Inv X pins σ H s:=⟨ok,I.os,I.bare,I.base,I.loc,I.cell,I.free,I.freeC,I.pin,I.hok,I.len⟩
theorem zjF {M:Model}{A:Around}{Ex:Value->Shared->Prop}{j:Nat}{x:Str}{v:V}{Q:Unit->Shared->Prop}(I:Inv X pins σ H s)(hN:X.N.Nodup)(hj:X.N[j]? = some x)(hk:X.env.scope.names.lookup x=some .local)(hv:σ[j]? = some (some v))
  (h:∀s',Inv X pins (σ.set j none) H s'->Q () s'):wpAny M A (unbindName X.env x) Q Ex s:=by
 obtain⟨m,hn,hl⟩:=id I.loc;have hcls:(X.env.scope.kind == .class||(X.env.scope.kind == .module&&X.env.locals != X.env.globals))=false:=by rw[I.ok.kind];rfl
 have hjσ:j<σ.length:=(List.getElem?_eq_some_iff.mp hv).1;have cne:=I.cne;obtain⟨u,r,q⟩:=hl j x v hj hv (.inl hk);have hm:m x=some u:=by
  rcases q with q | ⟨k,_⟩
  ·exact q.2
  ·have k':X.env.scope.names.lookup x=some .cell\/X.env.scope.names.lookup x=some .free:=k;rw[hk]at k';rcases k' with k' | k'<;>cases k'
 refine wpAny_unbindName_local hk hn hm hcls λh' w hn' hs=>?_;obtain⟨oL,_,_,hoL,_⟩:=id hn;refine h _ ⟨I.ok,I.os,I.bare,⟨λb o e n hb hx=>?_,λb o e n hb hx=>?_,I.base.free,λb o e hx=>?_,I.base.tups,I.base.frzs,I.base.tbls⟩,⟨_,hn',λi y v' e1 e2 e3=>?_⟩,λy c e=>?_,I.free,I.freeC,λp hp=>?_,λb ob e=>?_,by simpa using I.len⟩
 ·exact(hs.2 b (Nat.ne_of_lt (Nat.lt_of_lt_of_le (Heap.lt_size e) I.ok.above))).trans (I.base.keep b o e n hb hx)
 ·obtain⟨sl,e1⟩:=I.base.slot b o e n hb hx;exact⟨sl,(hs.2 b (Nat.ne_of_lt (Nat.lt_of_lt_of_le (Heap.lt_size e) I.ok.above))).trans e1⟩
 ·obtain⟨o',e1⟩:=I.base.there b o e hx;exact⟨o',(hs.2 b (Nat.ne_of_lt (Nat.lt_of_lt_of_le (Heap.lt_size e) I.ok.above))).trans e1⟩
 ·by_cases hi:i=j
  ·subst hi;rw[List.getElem?_set_self hjσ]at e2;cases e2
  ·rw[List.getElem?_set_ne (Ne.symm hi)]at e2;obtain⟨u',r',q'⟩:=hl i y v' e1 e2 e3;refine⟨u',r',?_⟩;rcases q' with ⟨k,e⟩ | ⟨k,c,e,z⟩
   ·refine .inl ⟨k,?_⟩;have:y≠x:=λe=>hi (zeV hN e1 (e▸hj));simp[this,e]
   ·exact .inr ⟨k,c,e,z.sameBut hs (cne y c e)⟩
 ·obtain⟨w',z⟩:=I.cell y c e;exact⟨w',z.sameBut hs (cne y c e)⟩
 ·obtain⟨e,n,ne,nf,d⟩:=I.pin p hp;exact⟨(hs.2 p.1 ne).trans e,n,ne,nf,d⟩
 ·refine(I.hok b ob e).stay (λc w' hc q=>(hs.2 c ?_).trans q) (λ_ q=>q) λ_ _ q=>q;rintro rfl;rcases hc with z | hc
  ·rw[<- z,I.free]at e;cases e
  ·rw[I.free]at hc;cases hc
end
section
variable {M:Model}{A:Around}{E:Value->Shared->Prop}
theorem zgM {nm q nm' q':Str}{C D N N':Addr}{bs bm bs' bm':List Value}{hdct hdct':Bool}{sn sn':List Str}{sub sub':List Value}{ab ab':Bool}{col col':Option Bool}{dd dd':Option Addr}{k0 k1 k2 k3 k5 j0 j1 j2 j3 j5:Option Value}{newId newId':String}
  {h:Heap} {g:Array GenState} {d:Drawn} {t:Nat} {os:OsState} {e:Addr} {oe:Obj} {Q:Bool->Shared->Prop}
  (hC:h.get? C=some (excClassObj nm q C N bs bm hdct sn sub ab col dd k0 k1 k2 k3 k5 newId)) (hD:h.get? D=some (excClassObj nm' q' D N' bs' bm' hdct' sn' sub' ab' col' dd' j0 j1 j2 j3 j5 newId')) (he:h.get? e=some oe) (hcls:oe.cls=.ref C)
  (hbase:bm'.contains (.type "BaseException")=true) (hin:(Value.ref C::bm).contains (.ref D)=true) (hq:Q true ⟨h,g,d,t,os⟩):wpAny M A (excMatches (.ref e) (.ref D)) Q E ⟨h,g,d,t,os⟩:=by
 have hcB:(Value.ref D::bm').contains (.type "BaseException")=true:=by rw[List.contains_cons,hbase,Bool.or_true]
 have f:=tc_notTuple;unfold excMatches
 repeat (first | (with_reducible refine wpAny_loadPart_at he ?_;rw[hcls]) | with_reducible refine wpAny_loadPart_at hD ?_ | (with_reducible refine wpAny_isSubtype_exc hD ?_;rw[hcB]) | (with_reducible refine wpAny_isSubtype_exc hC ?_;rw[hin]) | wp_step)
 exact hq
end
section
variable {X:Cx}{k:Nat}{f:Addr}{fd:FuncData}{ps:List Str}{sp:Sp}{x:Str}{p pos:Pos}{e:Expr}{es:List Expr}{t:TA}
theorem zog {pins:List (Addr×Obj)}{σ:St}{H:Hp}{s:Shared}{Q:VK}{E:XK}(F:FnOk X.prog X.w X.K X.mg X.base (CXJ X.prog X.w) k f fd ps sp)(hex:X.ex=[])(hr:Room k X.A)(hg:Gl X x)(hm:X.mg x=some (.ref f))(hk:PySem.W.keepIn X.K (.ref f)=true)(hb:Binds X.K fd ps [])
  (ha:PA X.nox (e::es) t) (I:Inv X pins σ H s) (h:t σ H λvs H1=>sp vs H1 Q E) (hdb:(x == ("__debug__" : Str))=false) (he:starEach (e::es) X.env=(false,eval e X.env)::starEach es X.env) (hpl:(backTo pos (starEach es X.env)).any (·.1)=false) :
  wpAny (model X.prog X.w) X.A (eval (.Call (.Name x p) (e::es) [] pos) X.env) (EP X pins σ Q) (FlyI X pins σ E) s:=by
 refine wpAny_Call_Name_kw (zdG I hg hm ?_ hdb);refine PySem.W.callWith_K (h₀:=X.base) I.ok.mod.kin hk (wpAny_mono (ha pos pins s σ H _ (I.wish _) h) (λus s1 q98q=>?_) λ_ _ z=>z.elim) he hpl;obtain⟨vs,H1,I1',r,q⟩:=q98q;have I1:Inv X pins σ H1 s1:=I1'.zaY;refine⟨I1.kIn,?_⟩;have r2:Vals (vs++[]) (us++[]):=r.append .nil;rw[List.append_nil,List.append_nil]at r2;have hl:(us++[]).length=ps.length:=by rw[List.append_nil,<- r2.length];exact F.len _ _ _ _ q
 have hbs:=hb s1 us I1.kIn hl;rw[List.append_nil]at hbs;refine wpAny_call (codeAny_mono (F.run X.A X.stack s1 H1 ⟨us,[]⟩ us vs Q E hr I1.env0 hbs r2 q) λr s' hq=>?_);cases r with
 | error e=>exact FlyI.of I1 hex hq
 | ok fl=>
  cases fl with
  | ret u=>exact I1.after hq
  | next=>exact False.elim hq
  | brk=>exact False.elim hq
  | cont=>exact False.elim hq
end
structure ExcK (K:PySem.W.Frag)(C:Addr)(bm:List Value):Prop where
 cls:ExcC K C bm
 ga:PySem.W.findIn K (.ref C) "__getattribute__" = some (some (.builtin "BaseException.__getattribute__"))
 gt:PySem.W.findIn K (.ref C) "__getattr__" = some none
 ca:PySem.W.findIn K (.ref C) "__class__" = some (some (.builtin "object.__class__"))
section
variable {prog:Program}{w:World}{A:Around}{E:Value->Shared->Prop}{h:Heap}{g:Array GenState}{d:Drawn}{t:Nat}{os:OsState}{a:Addr}{o:Obj}{K:PySem.W.Frag}{C:Addr}{bm:List Value}
theorem zmD {R:Result->Shared->Prop}(X:K.In h)(FK:ExcK K C bm)(hx:h.get? a=some o)(hc:o.cls=.ref C)(hq:R (.ok (.ret (.ref C))) ⟨h,g,d,t,os⟩) :
  codeAny (model prog w) A (.call (.builtin "getset_descriptor.__get__") ⟨[.builtin "object.__class__",.ref a,.ref C],[]⟩) R ⟨h,g,d,t,os⟩:=by
 obtain⟨N,nm,q,bs,hdct,sn,sub,ab,col,dd,k0,k1,k2,k3,k5,mN,hC,hN,hni,T⟩:=FK.cls h X;have hT5:(⟨h,g,d,t,os⟩:Shared).TypeIs (.builtin "object.__class__") "getset_descriptor":=F.typeOf_object_class;have hcB:(Value.ref C::bm).contains (.type (".".intercalate ("object.__class__".cutAt '.').dropLast))=true:=by
  rw[F.owner_object_class,List.contains_cons,T.hasType (show bmV.contains (.type "object")=true by decide)];rfl
 refine codeAny_call_builtin F.slot_gs_get.plain F.entry_gs_get (F.slot_gs_get.check _ _ _ _ _ _ _ _ hT5 (F.args_gs_get _ _ _) ?_)
 repeat (any_goals (first | assumption | (with_reducible refine wpAny_loadPart_at hx ?_;rw[hc]) | (with_reducible refine wpAny_isSubtype_exc hC ?_;rw[hcB]) | wp_step))
 refine⟨Code.quiet_builtin _ (by decide +kernel),codeAny_builtin F.entry_object_class ?_⟩
 repeat (any_goals (first | assumption | (with_reducible refine wpAny_loadPart_at hx ?_;rw[hc]) | wp_step))
theorem zjG {tk:Tok}{Q:Fin->Shared->Prop}(X:K.In h)(FK:ExcK K C bm)(hx:h.get? a=some o)(hc:o.cls=.ref C)(hq:Q (.done (.ret (.ref C))) ⟨h,g,d,t,os⟩) :
  wpAny (model prog w) A (Builtin.«object.__getattribute__» ⟨[.ref a,.str "__class__" tk],[]⟩) Q E ⟨h,g,d,t,os⟩:=by
 have hT5:(⟨h,g,d,t,os⟩:Shared).TypeIs (.builtin "object.__class__") "getset_descriptor":=F.typeOf_object_class;have f5:=F.typeOf_object_class;have f6:=F.slot_gs_get.lookup;have f7:=F.slot_gs_set.lookup
 repeat (any_goals (first | assumption | (with_reducible refine wpAny_loadPart_at hx ?_;rw[hc]) | with_reducible refine(PySem.W.looks_findIn X FK.ca).at ?_ | wp_step))
 refine zmD X FK hx hc ?_
 repeat (any_goals (first | assumption | wp_step))
theorem zjH {M:Model}{nameV:Value}{Q:Unit->Shared->Prop}(X:K.In h)(FK:ExcK K C bm)(hx:h.get? a=some o)(hc:o.cls=.ref C)(hq:Q () ⟨h,g,d,t,os⟩):wpAny M A (checkBuiltinCall "BaseException.__getattribute__" ⟨[.ref a,nameV],[]⟩) Q E ⟨h,g,d,t,os⟩:=by
 obtain⟨N,nm,q,bs,hdct,sn,sub,ab,col,dd,k0,k1,k2,k3,k5,mN,hC,hN,hni,T⟩:=FK.cls h X;have hk:builtinKind "BaseException.__getattribute__" = some .slot:=by decide +kernel
 have hsplit:splitId "BaseException.__getattribute__" = some ("BaseException","__getattribute__"):=by decide +kernel
 have hcB:(Value.ref C::bm).contains (.type "BaseException")=true:=by rw[List.contains_cons,T.hasType (show bmV.contains (.type "BaseException")=true by decide)];rfl
 have ha:=F.args_bexc_ga (.ref a) nameV;simp only[checkBuiltinCall,hk,hsplit];refine wpAny_bind ?_;unfold isInstance
 repeat (first | (with_reducible refine wpAny_loadPart_at hx ?_;rw[hc]) | (with_reducible refine wpAny_isSubtype_exc hC ?_;rw[hcB]) | wp_step)
 exact hq
theorem zoh {tk:Tok}{Q:Value->Shared->Prop}(X:K.In h)(FK:ExcK K C bm)(hx:h.get? a=some o)(hc:o.cls=.ref C)(hq:Q (.ref C) ⟨h,g,d,t,os⟩):wpAny (model prog w) A (getAttrBy (.ref a) (.str "__class__" tk) false) Q E ⟨h,g,d,t,os⟩:=by
 have f3:=F.attr_ValueError.ga.bind (.ref a);have hx2:(Value.builtin "BaseException.__getattribute__" == Value.builtin "object.__getattribute__")=false:=by decide +kernel
 have hx1:(onTheHeap (Value.ref C)&&Value.builtin "BaseException.__getattribute__" == Value.builtin "object.__getattribute__")=false:=by rw[hx2];rfl
 repeat (any_goals (first | assumption | (with_reducible refine wpAny_loadPart_at hx ?_;rw[hc]) | with_reducible refine(PySem.W.looks_findIn X FK.ga).at ?_ | with_reducible refine(PySem.W.looks_findIn X FK.gt).at ?_ | wp_step))
 refine codeAny_call_builtin F.attr_ValueError.ga.plain F.entry_bexc_ga (zjH X FK hx hc (zjG X FK hx hc ?_))
 repeat (any_goals (first | assumption | wp_step))
theorem zkQ {Q:Option Value->Shared->Prop}(X:K.In h)(FK:ExcK K C bm)(hx:h.get? a=some o)(hc:o.cls=.ref C)(hq:Q (some (.ref C)) ⟨h,g,d,t+1,os⟩):wpAny (model prog w) A (getAttr? (.ref a) "__class__") Q E ⟨h,g,d,t,os⟩:=by
 unfold getAttr? getAttrBy?
 repeat (any_goals (first | assumption | with_reducible apply zoh X FK hx hc | wp_step))
end
noncomputable def CAt (a C:Addr)(h:Heap):Prop:=∃o,h.get? a=some o/\o.cls=.ref C
theorem zjI {K:PySem.W.Frag}{C a:Addr}{bm:List Value}(FK:ExcK K C bm):PySem.W.KitX K (.ref a) (.ref C) (CAt a C) where
 ty:=λM h _ q99q=>by obtain⟨o,h1,h2⟩:=q99q;exact h2▸(PySem.W.Looks.ld h1).andThen .now
 it:=λM h X _=>by
  obtain⟨N,nm,q,bs,hdct,sn,sub,ab,col,dd,k0,k1,k2,k3,k5,mN,hC,hN,hni,T⟩:=FK.cls h X;intro A' Q' E' s' k q;unfold isType loadHead;exact wpAny_bind (wpAny_loadPart (k _ _ hC) (wpAny_pure q))
 ne:=λh tp dd its n sl X htp=>by
  obtain⟨N,nm,q,bs,hdct,sn,sub,ab,col,dd,k0,k1,k2,k3,k5,mN,hC,hN,hni,T⟩:=FK.cls h X;refine Bool.eq_false_iff.mpr λq=>?_;have e:C=tp:=Value.ref.inj (beq_iff_eq.mp q);subst e;rw[hC]at htp;have z:Value.type "type" = Value.type "tuple":=congrArg Obj.cls (Option.some.inj htp);exact absurd (Value.type.inj z) (by decide)
 ca:=λ{_ _ _ _ _ s} X ⟨o,h1,h2⟩ k=>by
  obtain⟨h,g,d,t,os⟩:=s;exact zkQ X FK h1 h2 k
section
variable {X:Cx}
noncomputable def rIsX (K:PySem.W.Frag):List V->Hp->VK->Prop:=λxs H Q=>∃(a C:Addr)(bm:List Value)(b:Bool),H a=some (ClsAt a (.ref C))/\ExcK K C bm/\((∃c,xs=[.ref a,.ty c]/\PySem.W.kitOne K (.ref C) (.type c)=some b)\/∃D,xs=[.ref a,.ref D]/\PySem.W.kitOne K (.ref C) (.ref D)=some b)/\Q (.bl b) H
theorem zhz:zcq X (.builtin "isinstance") (rIsX X.K):=by
 intro pins s σ H xs us Q I r h;obtain⟨a,C,bm,b,ha,FK,e,q⟩:=h;obtain⟨hA,_⟩:=I.hok a _ ha;rcases e with ⟨c,rfl,e⟩ | ⟨D,rfl,e⟩
 ·obtain⟨u,w',rfl,r1,r2⟩:=vals2 r;cases r1;cases r2;exact PySem.W.kia_one (zjI FK) I.kIn hA e (λz=>nomatch z) λtk=>⟨.bl b,H,I.tok tk,rfl,q⟩
 ·obtain⟨u,w',rfl,r1,r2⟩:=vals2 r;cases r1;cases r2;exact PySem.W.kia_one (zjI FK) I.kIn hA e (λz=>nomatch z) λtk=>⟨.bl b,H,I.tok tk,rfl,q⟩
end
section
variable {X:Cx}{E:XK}{e:Value}{s':Shared}{L:Addr}
noncomputable def FlyM (X:Cx)(E:XK)(e:Value)(s':Shared):Prop:=(∃pins σ,FlyI X pins σ E e s')\/∃(s0:Shared)(pins:List (Addr×Obj))(σ:St)(H':Hp)(a:Addr)(C:Value)(args:List Value)(h':Heap),e=.ref a/\s'={ s0 with heap:=h' }/\Inv X pins σ H' s0/\Heap.MadeExcOf s0.heap h' a C args/\E C none H'
theorem FlyM.note {M:Model}{Ex:Value->Shared->Prop}{Q:Unit->Shared->Prop}(h:FlyM X E e s')(hex:X.ex=[])(hst:X.stack=X.env::X.outer)(hf:X.env.frame=some L)
  (q:∀s'' pins σ,FlyI X pins σ E e s''->Q () s''):wpAny M X.A (noteFrame e X.env) Q Ex s':=by
 rcases h with ⟨pins,σ,h⟩ | ⟨s0,pins,σ,H',a,C,args,h',rfl,rfl,I,m,hE⟩
 ·exact FlyI.note h hex hst hf rfl λs'' h=>q s'' pins σ h
 ·obtain⟨t,ht,_,htt⟩:=m.there;have I1:Inv X pins σ H' { s0 with heap:=h' }:=I.call' (ch:=[]) rfl (Un.kept m.keeps) (I.hok.kept m.keeps) I.bare (λb z=>absurd z (by simp));have he0:X.s₀.heap.get? a=none:=by
   cases q:X.s₀.heap.get? a with
   | none=>rfl
   | some o=>obtain⟨o',e'⟩:=I.base.there a o q (by rw[hex];simp);rw[m.new]at e';cases e'
  have hHe:H' a=none:=by
   cases q:H' a with
   | none=>rfl
   | some o=>obtain⟨o',e'⟩:=HOk.there I.hok q;rw[m.new]at e';cases e'
  have hfr:X.A.frames=some (X.env::X.outer):=by rw[I.ok.frames,hst]
  have hl:=I1.stack;rw[hst]at hl;refine zoc (h0:=X.s₀.heap) (H:=H') hfr hl hf he0 hHe ht rfl rfl rfl (FlyI.old I1 hex) λh2 T' fl' wT x z=>q _ pins σ ?_;have pe:∀p∈X.pn++pins,p.1≠a:=λp hp y=>by
   obtain⟨q,_⟩:=I.pin p hp;rw[y,m.new]at q;cases q
  refine⟨a,T',C,fl',H',rfl,zlD (T:=a) (s:={ s0 with heap:=h' }) I1 (by rw[hst];exact x a) ⟨he0,hHe,_,_,ht,rfl⟩ ⟨he0,hHe,_,_,ht,rfl⟩ (λp hp=>⟨pe p hp,pe p hp⟩),z,λp hp=>⟨pe p hp,λy=>?_⟩,hE⟩;obtain⟨q,_⟩:=I1.pin p hp;rw[y]at q;have wT':h'.get? T'=none:=wT;rw[show({ s0 with heap:=h' }:Shared).heap.get? T'=h'.get? T' from rfl,wT']at q;cases q
end
section
variable {P:Program}{w:World}{K:PySem.W.Frag}{mg:Str->Option Value}{base:Heap}{N:List Str}{qual:Str}{scope:Scope}{f:Addr}{cd:Value}{A:Around}{outer:List Env}{s s':Shared}{H:Hp}{E:XK}
theorem FlyM.leave {e:Value}(h:FlyM (cxOf (CXJ P w) P w K mg base N qual scope f cd A outer s H E) E e s'):(cxOf (CXJ P w) P w K mg base N qual scope f cd A outer s H E).xe e s':=by
 show wpAny _ _ (leaving _ e) _ _ s';unfold leaving;refine wpAny_bind (FlyM.note h rfl rfl rfl λs1 pins σ h1=>FlyI.flight h1 λs2 h2=>?_);obtain⟨a,T,cls,fl,H',rfl,I,ex,hp,hE⟩:=h2;exact⟨a,T,cls,fl,H',rfl,I.os,I.bare,I.base,I.hok,ex,hE⟩
end
section
variable {X:Cx}{E:XK}
theorem FlyM.pass (hex:X.ex=[]):zeA (CXJ X.prog X.w) (X.wish (FlyM X E)) E:=λpins σ H' s1 e s2 I h=>.inl ⟨pins,σ,FlyI.of I.zaY hex h⟩
theorem zjJ {x:Str}{C:Addr}{bm:List Value}{e0:Expr}{te:TE}{np cpos pos:Pos}(he:PE (X.wish (FlyM X E)) e0 te)(hg:Gl X x)(hm:X.mg x=some (.ref C))(hx:ExcC X.K C bm)(hh:X.calm=true)
  (hd:autoParam ((x == ("__debug__" : Str))=false) aU1) (hst:autoParam (starEach [e0] X.env=[(false,eval e0 X.env)]) aU0) :
  PS (X.wish (FlyM X E)) (.Raise (some (.Call (.Name x np) [e0] [] cpos)) none pos) (λD σ H=>te σ H λv H'=>E (.ref C) none H'):=by
 intro pins s1 σ H1 D I h;obtain⟨N',nm,q,bs,hdct,sn,sub,ab,col,dd,k0,k1,k2,k3,k5,mN,hC,hN,hni,T⟩:=hx X.base I.ok.mod.kin;refine wpAny_Raise_call_subT (C:=C) (nm:=nm) (q:=q) (N:=N') (bs:=bs) (bm:=bm) (hdct:=hdct) (sn:=sn) (sub:=sub) (ab:=ab) (col:=col) (dd:=dd) (k0:=k0) (k1:=k1) (k2:=k2) (k3:=k3) (k5:=k5) (mN:=mN) PySem.F.excBase_ValueError (T.hasType (by decide)) (I.ok.hd hh)
  (by show(backTo cpos (starEach [e0] X.env)).any (·.1)=false;rw[hst];rfl) hni (zdG I hg hm ?_ hd)
 refine⟨rfl,?_⟩;show wpAny _ _ (evalArgs (.ref C) true (backTo cpos (starEach [e0] X.env)) []) _ _ _;rw[hst];refine Calls.evalArgs_plain (Calls.spliced_cons (thn (he pins s1 σ H1 _ I h) λu s2 q100q=>Calls.spliced_nil ?_));obtain⟨v,H2,I2,r,hE⟩:=q100q;exact⟨rfl,(by decide:1<=sizeLine),I2.bk _ _ hC,hN.keeps I2.bk,T.keeps I2.bk,λh' e m=>.inr ⟨s2,pins,σ,H2,e,.ref C,_,h',rfl,rfl,I2.zaY,m,hE⟩⟩
end
noncomputable def xOf (E:XK)(ρ:PEnv)(σ:St)(Fz:FZ)(H:Hp):Addr->Prop:=λC=>∀Fz' H',Step ρ σ Fz H Fz' H'->E (.ref C) none H'
theorem zfZ {E:XK}{ρ ρ':PEnv}{σ σ':St}{Fz Fz':FZ}{H H':Hp}(s:Step ρ σ Fz H Fz' H')(oi:zau ρ σ H ρ' σ'):∀C,xOf E ρ σ Fz H C->xOf E ρ' σ' Fz' H' C:=λC h F2 H2 s2=>h F2 H2 (s.trans oi s2)
noncomputable abbrev TXS:=(Addr->Prop)->TPS
noncomputable abbrev TXE:=(Addr->Prop)->TPE
noncomputable def zmE (K:PySem.W.Frag)(E:XK)(t:TXS):TS:=λD σ H=>∃ρ Fz,Rel K Fz ρ σ H/\t (xOf E ρ σ Fz H) ρ (zcz K D ρ σ Fz H)
structure PuX (X:Cx)(E:XK)(st:Stmt)(t:TXS):Prop where
 mono:∀Z Z' ρ O O',(∀c,Z c->Z' c)->O.le O'->t Z ρ O->t Z' ρ O'
 run:PS X st (zmE X.K E t)
structure PuXs (X:Cx)(E:XK)(st:List Stmt)(t:TXS):Prop where
 mono:∀Z Z' ρ O O',(∀c,Z c->Z' c)->O.le O'->t Z ρ O->t Z' ρ O'
 run:PSs X st (zmE X.K E t)
noncomputable def zeL (K:PySem.W.Frag)(E:XK)(t:TXE):TE:=λσ H Q=>∃ρ Fz,Rel K Fz ρ σ H/\t (xOf E ρ σ Fz H) ρ λd k=>∀v Fz' H',Post K ρ σ Fz H Fz' H' d k v->Q v H'
structure PuXE (X:Cx)(E:XK)(e:Expr)(t:TXE):Prop where
 mono:∀Z Z' ρ Q Q',(∀c,Z c->Z' c)->(∀d k,Q d k->Q' d k)->t Z ρ Q->t Z' ρ Q'
 run:PE X e (zeL X.K E t)
section
variable {X:Cx}{E:XK}{st:Stmt}{rest:List Stmt}{t:TPS}{tx ux:TXS}{e:Expr}{te:TPE}{pos:Pos}
theorem zih (h:PuS X st t):PuX X E st (λ_=>t):=⟨λ_ _ ρ O O' _ m q=>h.mono ρ O O' m q,h.run⟩
theorem zcC:PuXs X E [] (λ_=>zdN):=⟨λ_ _ ρ O O' _ m q=>m.nx _ q,zaB.run⟩
theorem zbf (h:PuX X E st tx):PuXs X E [st] tx:=⟨h.mono,zgy h.run⟩
theorem zaV (h1:PuX X E st tx)(h2:PuXs X E rest ux):PuXs X E (st::rest) (λZ=>pSeq (tx Z) (ux Z)) where
 mono Z Z' ρ O O' z m h:=h1.mono Z Z' ρ { O with nx:=λρ'=>ux Z ρ' O } _ z ⟨λρ' q=>h2.mono Z Z' ρ' _ _ z m q,m.rt,m.bk,m.ct⟩ h
 run:=PSs.weak (zbx h1.run h2.run) λD σ H h=>by
  obtain⟨ρ,Fz,R,h⟩:=h;refine⟨ρ,Fz,R,h1.mono _ _ ρ { zcz X.K D ρ σ Fz H with nx:=λρ'=>ux (xOf E ρ σ Fz H) ρ' (zcz X.K D ρ σ Fz H) } _ (λ_ z=>z) ⟨λρ' q=>?_,λ_ _ q=>q,λ_ q=>q,λ_ q=>q⟩ h⟩;intro σ' Fz' H' s oi R';exact⟨ρ',Fz',R',h2.mono _ _ ρ' _ _ (zfZ s oi) (zbe s oi) q⟩
theorem zgN {c:Expr}{a b:List Stmt}{tc:TPT}(hc:PuT X c tc)(ha:PuXs X E a tx)(hb:PuXs X E b ux):PuX X E (.If c a b pos) (λZ=>pIf tc (tx Z) (ux Z)) where
 mono Z Z' ρ O O' z m h:=hc.mono ρ _ _ (λd q=>by
  cases d with
  | true=>rw[if_pos rfl]at q ⊢;exact ha.mono _ _ ρ _ _ z m q
  | false=>rw[if_neg Bool.false_ne_true]at q ⊢;exact hb.mono _ _ ρ _ _ z m q) h
 run:=PS.weak (zkf hc.run ha.run hb.run) λD σ H h=>by
  obtain⟨ρ,Fz,R,h⟩:=h;refine⟨ρ,Fz,R,hc.mono ρ _ _ (λd q Fz' H' x=>?_) h⟩;cases d with
  | true=>
   rw[if_pos rfl]at q ⊢;exact⟨ρ,Fz',R.ext x,ha.mono _ _ ρ _ _ (zfZ (.of x) (zau.refl ρ σ H)) (zbe (.of x) (zau.refl ρ σ H)) q⟩
  | false=>
   rw[if_neg Bool.false_ne_true]at q ⊢;exact⟨ρ,Fz',R.ext x,hb.mono _ _ ρ _ _ (zfZ (.of x) (zau.refl ρ σ H)) (zbe (.of x) (zau.refl ρ σ H)) q⟩
end
section
variable {X:Cx}{E:XK}
noncomputable def zhA (C:Addr)(te:TPE):TXS:=λZ ρ O=>te ρ λ_ _=>Z C
theorem zbQ {x:Str}{C:Addr}{bm:List Value}{e0:Expr}{te:TPE}{np cpos pos:Pos}(he:PuE (X.wish (FlyM X E)) e0 te)(hg:Gl X x)(hm:X.mg x=some (.ref C))(hx:ExcC X.K C bm)(hh:X.calm=true)
  (hd:autoParam ((x == ("__debug__" : Str))=false) aU1) (hst:autoParam (starEach [e0] X.env=[(false,eval e0 X.env)]) aU0) :
  PuX (X.wish (FlyM X E)) E (.Raise (some (.Call (.Name x np) [e0] [] cpos)) none pos) (zhA C te) where
 mono Z Z' ρ O O' z m h:=he.mono ρ _ _ (λ_ _ q=>z _ q) h
 run:=PS.weak (zjJ he.run hg hm hx hh hd hst) λD σ H h=>by
  obtain⟨ρ,Fz,R,h⟩:=h;exact⟨ρ,Fz,R,he.mono ρ _ _ (λd k q v F' H' p=>q F' H' (.of p.ext)) h⟩
end
noncomputable abbrev PFX:=List PV->(PV->Kd->Prop)->(Addr->Prop)->Prop
noncomputable def zga (F:PFX):Prop:=∀ds Q Q' Z Z',(∀d k,Q d k->Q' d k)->(∀c,Z c->Z' c)->F ds Q Z->F ds Q' Z'
noncomputable def spPX (K:PySem.W.Frag)(F:PFX):Sp:=λvs H Q E=>∃Fz ds,(∀b,Fz b->H b≠none)/\DenL K Fz H ds vs/\F ds (λd k=>∀v Fz' H',Post K [] [] Fz H Fz' H' d k v->Q v H') (λC=>∀H',Same H H'->E (.ref C) none H')
section
variable {P:Program}{w:World}{K:PySem.W.Frag}{mg:Str->Option Value}{base:Heap}
theorem PSs.zoY {X:Cx}{E:Value->Shared->Prop}{st:List Stmt}{t:TS}(h:PSs (X.wish E) st t)(m:∀e s',E e s'->X.xe e s'):PSs X st t:=λpins s σ H D I hw=>
 wpAny_mono (h pins s σ H D (I.wish _) hw) (λ_ _ q=>q.zaY) m
theorem zcO {x qual:Str}{st:Stmt}{f:Addr}{fd:FuncData}{N ps:List Str}{k:Nat}{F:PFX}(Fn:Fun K x qual st f fd)(S:zas N ps (zac st))(len:∀ds Q Z,F ds Q Z->ds.length=ps.length)
  (hbody:∀(cdv:Value) (A:Around) (outer:List Env) (s:Shared) (H:Hp) (E:XK),Room k (A.deeper (envOfC qual (zac st) s.heap.objs.size f cdv))->
   ∃t,PuXs ((cxOf (CXJ P w) P w K mg base N qual (zac st) f cdv A outer s H E).wish (FlyM (cxOf (CXJ P w) P w K mg base N qual (zac st) f cdv A outer s H E) E)) E (zan st) t/\∀ds Q Z,F ds Q Z->t Z (zaT N ds) (zbK Q)):FnOk P w K mg base (CXJ P w) (k+1) f fd ps (spPX K F):=by
 obtain⟨oc,od,kV,doc,pm,an,cdv,ct,osl,rfl,lk,hcd⟩:=Fn.ex;refine znt lk hcd S (λvs H Q E q101q=>by obtain⟨Fz,ds,_,hd,q⟩:=q101q;rw[<- hd.length];exact len _ _ _ q) λA outer s H vs Q E hr h=>?_;obtain⟨t,ht,hq⟩:=hbody cdv A outer s H E hr;obtain⟨Fz,ds,al,hd,h⟩:=h;obtain⟨R,no⟩:=zdQ (N:=N) al hd;refine⟨_,PSs.zoY ht.run (λe s' h=>FlyM.leave h),zaT N ds,Fz,R,ht.mono _ _ _ (zbK _) _ (λC q F' H' s'=>q H' λb o e=>s'.keep b o e (no _ b)) ⟨λρ' q σ' F' H' s' o' R'=>?_,λd k q v F' H' s' al' r=>?_,λ_ z=>z.elim,λ_ z=>z.elim⟩ (hq ds _ _ h)⟩
 ·exact q .non F' H' ⟨⟨λb o e=>s'.keep b o e (no _ b),s'.sub,λb hb=>(s'.new b hb).elim .inl (λz=>z.elim .inr (λz=>(no _ b z).elim)),R'.al⟩,by show Den _ _ _ _ _;simp only[Den]⟩
 ·refine q v F' H' ⟨⟨λb o e=>s'.keep b o e (no _ b),s'.sub,λb hb=>(s'.new b hb).elim .inl (λz=>z.elim .inr (λz=>(no _ b z).elim)),al'⟩,?_⟩;cases k with
  | frz=>exact r
  | own i=>exact r.elim
  | new=>
   obtain⟨a,e,nf,o,w⟩:=r;exact⟨a,e,w.resolve_left (no _ a),nf,o⟩
end
section
variable {X:Cx}{E:XK}{k:Nat}{f:Addr}{fd:FuncData}{ps:List Str}{F:PFX}{x:Str}{p pos:Pos}{e:Expr}{es:List Expr}{t:TPA}
noncomputable def zcP (F:PFX)(t:TPA):TXE:=λZ ρ Q=>t ρ λops=>noOwn ops=true/\F (ops.map (·.1)) Q Z
theorem zfg (G:FnOk X.prog X.w X.K X.mg X.base (CXJ X.prog X.w) k f fd ps (spPX X.K F))(m:zga F)(hr:Room k X.A)(hg:Gl X x)(hm:X.mg x=some (.ref f))(hk:PySem.W.keepIn X.K (.ref f)=true)(hb:Binds X.K fd ps [])(hp:zeA (CXJ X.prog X.w) X E)(ha:PuA X (e::es) t)
  (hd:autoParam ((x == ("__debug__" : Str))=false) aU1) (he:autoParam (starEach (e::es) X.env=(false,eval e X.env)::starEach es X.env) aU0) (hpl:autoParam ((backTo pos (starEach es X.env)).any (·.1)=false) aU0) :
  PuXE X E (.Call (.Name x p) (e::es) [] pos) (zcP F t) where
 mono Z Z' ρ Q Q' z mm h:=ha.mono ρ _ _ (λops h=>⟨h.1,m _ _ _ _ _ mm z h.2⟩) h
 run:=PE.weak (ziI G hr hg hm hk hb .nil hp ha.run hd he hpl) λσ H Q h=>by
  obtain⟨ρ,Fz,R,h⟩:=h;refine⟨ρ,Fz,R,ha.mono ρ _ _ (λops h vs Fz' H' x o=>?_) h⟩;obtain⟨hn,h⟩:=h;show spPX X.K F (vs++[]) H' Q E;rw[List.append_nil];obtain⟨F2,x2,s2,h2⟩:=o.frozen x hn;refine⟨F2,ops.map (·.1),x2.al,h2,m _ _ _ _ _ (λd k q v Fz3 H3 p3=>q v Fz3 H3 (p3.behind x2)) (λC q H3 sm=>q F2 H3 (.of ⟨x2.same.trans sm,x2.sub,x2.new,λb hb z=>x2.al b hb (sm.free z)⟩)) h⟩
end
section
variable {X:Cx}{E:XK}{elt tg iter:Expr}{sc:Scope}{pos:Pos}{N:List Str}{k:Nat}{js:List Nat}{ti:TPI}{g:TPG}{te:TXE}
structure zgO (X:Cx)(E:XK)(N:List Str)(sc:Scope)(tg elt:Expr)(g:TPG)(te:TXE):Prop where
 tgt:∀C cells fp s H,PuG (cxB X N sc C cells fp s H) tg g
 val:∀C cells fp s H,PuXE ((cxB X N sc C cells fp s H).wish (XB (cxB X N sc C cells fp s H) E)) E elt te
theorem zii (nd:js.Nodup)(hloc:LocG k g)(B:zgO X E N sc tg elt g te){ρ:PEnv}{σ:St}{H H1:Hp}{Fz1:FZ}{o:Bool}{J:It}{its:List PV}{l:Addr}{Rr:Hp->Prop}{Z:Addr->Prop}(R1:Rel X.K Fz1 ρ σ H1)(wk:Walk X.K Fz1 o J its H1)(hl:H1 l=none)(hz:its.length<=sizeLine)(hZ:∀c,Z c->xOf E ρ σ Fz1 H1 c)(Pv:Nat->List PV->Prop)(h0:Pv 0 [])
  (hstep:∀i d out,its[i]? = some d->out.length<=i->Pv i out->g d (blkP k js ρ) λρ2=>te Z ρ2 λe ke=>isOwn ke=false/\Pv (i+1) (out++[e]))
  (hdone:∀F' out xs H',Ext Fz1 H1 F' H'->H' l=some (.lst xs)->DenL X.K F' H' out xs->¬ F' l->out.length<=its.length->Pv its.length out->Rr H') :
  zfC J (zfR X.K g) (liftT X.K zdc) (zeL X.K E te) l (zca k js σ) H1 Rr:=by
 have mg:=(B.tgt 0 [] [] X.s₀ H).mono;have me:=(B.val 0 [] [] X.s₀ H).mono;have nf1:¬ Fz1 l:=λz=>R1.al l z hl;have no1:¬ zaI ρ σ l:=λ⟨i,d,h1,h2⟩=>by
  obtain⟨a,q1,_,q3⟩:=R1.own i d h1;rw[h2]at q1;cases q1;obtain⟨o',q4,_⟩:=q3.at;rw[hl]at q4;cases q4
 refine⟨λi m σ' H'=>m=its.length-i/\i<=its.length/\∃F' out xs,Rel X.K F' (blkP k js ρ) σ' H'/\(∀b,zaI (blkP k js ρ) σ' b->zaI ρ σ b)/\H' l=some (.lst xs)/\DenL X.K F' H' out xs/\¬ F' l/\out.length<=i/\Pv i out/\Same H1 H'/\(∀b,Fz1 b->F' b)/\(∀b,F' b->Fz1 b\/H1 b=none),
  ⟨its.length,by lia,Nat.zero_le _,Fz1,[],[],?_,λb hb=>zjo R1 hb,zam,DenL.nil,nf1,Nat.zero_le _,h0,(Same.refl H1).upd' hl,λ_ h=>h,λ_ h=>.inl h⟩,?_⟩
 ·have x0:Ext Fz1 H1 Fz1 (upd H1 l (.lst [])):=Ext.laid ⟨Same.refl _,λ_ h=>h,λ_ h=>.inl h,R1.al⟩ hl;exact(R1.block nd).ext x0
 rintro i m σ' H' ⟨rfl,hle,F',out,xs,Rb,ob,hlx,hout,nfl,hol,hP,sm,s1,s2⟩;obtain⟨wgo,wstop⟩:=wk H' (.inl sm) i;by_cases hlt:i<its.length
 ·obtain⟨go,yl⟩:=wgo its[i] (List.getElem?_eq_getElem hlt);refine .inr ⟨go,λxv H2 y=>?_⟩;obtain⟨sm2,dn⟩:=yl xv H2 y;have x2:Ext F' H' F' H2:=⟨sm2,λ_ h=>h,λ_ h=>.inl h,λb hb z=>Rb.al b hb (sm2.free z)⟩;refine⟨blkP k js ρ,F',its[i],Rb.ext x2,Den.mono (Keep.of (Same.refl _)) s1 _ _ dn,mg _ _ _ _ (λρ2 ⟨q,l2,a2⟩ σ2 R2 o2=>?_) (hloc _ _ _ (hstep i its[i] out (List.getElem?_eq_getElem hlt) hol hP))⟩;refine⟨ρ2,F',R2,λF4 H4 x4=>?_⟩;have R4:Rel X.K F4 ρ2 σ2 H4:=R2.ext x4;have own2:∀b,zaI (blkP k js ρ) σ2 b->zaI ρ σ b:=λb ⟨j,d,h1,h2⟩=>by
   refine ob b (o2 b ⟨j,d,?_,h2⟩);obtain⟨i',j',e,_⟩:=zcd h1;rw[a2 j (by lia)];exact h1
  have own3:zau ρ σ H1 ρ2 σ2:=λb hb=>.inl (ob b (o2 b hb));have hl4:H4 l=some (.lst xs):=x4.same _ _ (sm2 _ _ hlx);have nf4:¬ F4 l:=λz=>by
   rcases x4.new l z with z | z
   ·exact nfl z
   ·rw[sm2 _ _ hlx]at z;cases z
  have x14:Ext Fz1 H1 F4 H4:=⟨sm.trans (sm2.trans x4.same),λb hb=>x4.sub b (s1 b hb),λb hb=>by
   rcases x4.new b hb with z | z
   ·exact s2 b z
   ·exact .inr (sm.free (sm2.free z)),x4.al⟩
  refine iteT ⟨ρ2,F4,R4,me Z _ ρ2 _ _ (λc z=>zfZ (.of x14) own3 c (hZ c z)) (λe ke q105q v F5 H5 p5=>?_) q⟩;obtain⟨hk,q⟩:=q105q;have hk':ke=.frz\/ke=.new:=by
   cases ke with
   | frz=>exact .inl rfl
   | new=>exact .inr rfl
   | own j=>cases hk
  obtain⟨F6,x6,s6,d6⟩:=p5.frozen hk';have hl5:H5 l=some (.lst xs):=x6.same _ _ hl4;have nf6:¬ F6 l:=λz=>by
   rcases x6.new l z with z | z
   ·exact nf4 z
   ·rw[hl4]at z;cases z
  have R6:Rel X.K F6 ρ2 σ2 H5:=R4.ext x6;have Rb6:Rel X.K F6 (blkP k js ρ) σ2 H5:=Rel.zgH R6 l2 a2;have no6:¬ zaI (blkP k js ρ) σ2 l:=λz=>no1 (own2 l z);have kp:Keep F6 H5 (upd H5 l (.lst (xs++[v]))):=.mk' λb w e hw=>by
   have ne:b≠l:=λz=>by
    subst z;rcases hw with hw | hw
    ·exact nf6 hw
    ·rw[hl5]at e;cases e;exact hw
   rw[zap ne];exact e
  have hxl:=hout.length;refine⟨xs,hl5,by lia,its.length-(i+1),by lia,rfl,hlt,F6,out++[e],xs++[v],Rb6.other hl5 (λz=>z) nf6 no6,own2,zam,?_,nf6,by rw[List.length_append];simp;lia,q,?_,λb hb=>x6.sub b (x4.sub b (s1 b hb)),λb hb=>?_⟩
  ·exact DenL.mono kp (λ_ h=>h) _ _ (DenL.snoc (DenL.mono (.of (sm2.trans (x4.same.trans x6.same))) (λb hb=>x6.sub b (x4.sub b hb)) _ _ hout) d6)
  ·exact(sm.trans (sm2.trans (x4.same.trans x6.same))).upd' hl
  ·rcases x6.new b hb with z | z
   ·rcases x4.new b z with z | z
    ·exact s2 b z
    ·exact .inr (sm.free (sm2.free z))
   ·exact .inr (sm.free (sm2.free (x4.same.free z)))
 ·have e:i=its.length:=by lia
  subst e;exact .inl ⟨wstop (Nat.le_refl _),hdone F' out xs H' ⟨sm,s1,s2,Rb.al⟩ hlx hout nfl hol hP⟩
theorem zgO.blk (B:zgO X E N sc tg elt g te):BlkX X N sc tg [] elt (zfR X.K g) (liftT X.K zdc) (zeL X.K E te) E:=
 ⟨λC cells fp s H=>(B.tgt C cells fp s H).run,λC cells fp s H=>zbP.run,λC cells fp s H=>(B.val C cells fp s H).run⟩
end
theorem FlyI.zaY {X:Cx}{F:Value->Shared->Prop}{pins:List (Addr×Obj)}{σ:St}{E:XK}{e:Value}{s':Shared}(h:FlyI (X.wish F) pins σ E e s'):FlyI X pins σ E e s':=by
 obtain⟨a,T,cls,fl,H',rfl,I,ex,hp,hE⟩:=h;exact⟨a,T,cls,fl,H',rfl,I.zaY,ex,hp,hE⟩
noncomputable def Its (x:Str):It:=⟨λi _=>i<x.cps.size,λi H v H'=>H'=H/\∃c,x.cps[i]? = some c/\v=.str ⟨#[c]⟩,λi _=>x.cps.size<=i⟩
theorem zjK {P:Program}{w:World}{K:PySem.W.Frag}{tg:Expr}(x:Str)(t:Tok)(it:Addr):Turn P w K tg (Its x) [it] it (λi h=>h.IsStrIter it "str_ascii_iterator" x t i) where
 mem:=by simp
 obj:=λi h st b hb=>by
  have e:b=it:=by simpa using hb
  subst e;obtain⟨o,e,c,d⟩:=st;exact⟨o,e,λv z=>by rw[d]at z;cases z⟩
 keep:=λi h h' st k=>by
  obtain⟨o,e,c,d⟩:=st;exact⟨o,k it (by simp) o e,c,d⟩
 item:=by
  intro X hP hw hK hc i pins s σ H E I hf st hg;subst hP hw hK;have hi:i<x.cps.size:=hg;obtain⟨f0,f1,f2,f3,f4,f5⟩:=hf it (by simp);refine wpAny_pyNext_ascii_item st (c:=x.cps[i]) (by simp[hi]) λh' st' sb=>?_;have I1:Inv X pins σ H { s with heap:=h',toks:=s.toks+1 }:=I.turned (t':=s.toks+1) (λb o hb e=>(sb.2 b hb).trans e) f0 f1 f3 f4 f5;obtain⟨o,e,c,d⟩:=id st';exact⟨_,rfl,zkh (s:={ s with heap:=h',toks:=s.toks+1 }) e c d (by decide) ⟨.str ⟨#[x.cps[i]]⟩,H,I1,⟨_,rfl⟩,⟨rfl,_,by simp[hi],rfl⟩,st',λb hb=>(hf b hb).1⟩⟩
 done:=by
  intro X hP hw hK hc i pins s σ H E I hf st hg;subst hP hw hK;have hi:x.cps.size<=i:=hg;obtain⟨f0,f1,f2,f3,f4,f5⟩:=hf it (by simp);exact wpAny_pyNext_ascii_end (I.ok.hd hc) st (by simp[hi]) λh' eb=>⟨rfl,I.turned (t':=s.toks) (λb o hb e=>eb b o hb e) f0 f1 f3 f4 f5⟩
 self:=λ_ _ _ _ _ st h=>wpAny_pyIter_striter_ascii st h
theorem zjL {P:Program}{w:World}{K:PySem.W.Frag}{tg:Expr}(x:Str)(t:Tok)(it:Addr):Turn P w K tg (Its x) [it] it (λi h=>h.IsStrIter it "str_iterator" x t i) where
 mem:=by simp
 obj:=λi h st b hb=>by
  have e:b=it:=by simpa using hb
  subst e;obtain⟨o,e,c,d⟩:=st;exact⟨o,e,λv z=>by rw[d]at z;cases z⟩
 keep:=λi h h' st k=>by
  obtain⟨o,e,c,d⟩:=st;exact⟨o,k it (by simp) o e,c,d⟩
 item:=by
  intro X hP hw hK hc i pins s σ H E I hf st hg;subst hP hw hK;have hi:i<x.cps.size:=hg;obtain⟨f0,f1,f2,f3,f4,f5⟩:=hf it (by simp);refine wpAny_pyNext_wide_item st (c:=x.cps[i]) (by simp[hi]) λh' st' sb=>?_;have I1:Inv X pins σ H { s with heap:=h',toks:=s.toks+1 }:=I.turned (t':=s.toks+1) (λb o hb e=>(sb.2 b hb).trans e) f0 f1 f3 f4 f5;obtain⟨o,e,c,d⟩:=id st';exact⟨_,rfl,zkh (s:={ s with heap:=h',toks:=s.toks+1 }) e c d (by decide) ⟨.str ⟨#[x.cps[i]]⟩,H,I1,⟨_,rfl⟩,⟨rfl,_,by simp[hi],rfl⟩,st',λb hb=>(hf b hb).1⟩⟩
 done:=by
  intro X hP hw hK hc i pins s σ H E I hf st hg;subst hP hw hK;have hi:x.cps.size<=i:=hg;obtain⟨f0,f1,f2,f3,f4,f5⟩:=hf it (by simp);exact wpAny_pyNext_wide_end (I.ok.hd hc) st (by simp[hi]) λh' eb=>⟨rfl,I.turned (t':=s.toks) (λb o hb e=>eb b o hb e) f0 f1 f3 f4 f5⟩
 self:=λ_ _ _ _ _ st h=>wpAny_pyIter_striter_wide st h
section
variable {X:Cx}{tg e:Expr}{te:TPE}
theorem zoi {l:Expr}{tl:TE}(hl:PE X l tl):PI X tg l (λσ H R=>tl σ H λx H1=>∃y,x=.str y/\R (Its y) H1):=by
 intro pins s σ H R I h;refine thn (hl pins s σ H _ I h) λv s1 q106q=>?_;obtain⟨x,H1,I1,r1,q1⟩:=q106q;obtain⟨y,e,q⟩:=q1;subst e;obtain⟨t,rfl⟩:=r1;have fp:∀b∈[s1.heap.objs.size],FpOk X pins H1 b:=λb hb=>by
  have e:b=s1.heap.objs.size:=by simpa using hb
  subst e;exact I1.fpOk (Nat.le_refl _) (I1.hok.fresh (Nat.le_refl _))
 cases ha:y.cps.all (· < 128)
 ·exact wpAny_pyIter_wide ha ⟨s1.heap.objs.size,[s1.heap.objs.size],_,_,H1,rfl,I1.kept (t':=s1.toks) λb o e=>Heap.get?_push_of_some _ e,zjL y t _,⟨_,Heap.get?_push_size _ rfl,rfl,rfl⟩,fp,q⟩
 ·exact wpAny_pyIter_ascii ha ⟨s1.heap.objs.size,[s1.heap.objs.size],_,_,H1,rfl,I1.kept (t':=s1.toks) λb o e=>Heap.get?_push_of_some _ e,zjK y t _,⟨_,Heap.get?_push_size _ rfl,rfl,rfl⟩,fp,q⟩
noncomputable def zjM (te:TPE):TPI:=λρ Q=>te ρ λd _=>∃x,d=.str x/\Q ((signs x).map PV.str) false
theorem zkR {K:PySem.W.Frag}{Fz:FZ}{x:Str}{H:Hp}:Walk K Fz false (Its x) ((signs x).map PV.str) H:=λH2 _ i=>by
 have hl:((signs x).map PV.str).length=x.cps.size:=by simp[signs]
 refine⟨λd hd=>?_,λhi=>by rw[hl]at hi;exact hi⟩;have h1:i<x.cps.size:=by have:=(List.getElem?_eq_some_iff.mp hd).1;rw[hl]at this;exact this
 have e:d=.str ⟨#[x.cps[i]]⟩:=by
  simp only[signs,List.getElem?_map,Array.getElem?_toList,Array.getElem?_eq_getElem h1,Option.map_some]at hd;exact(Option.some.inj hd).symm
 refine⟨h1,λv H3 q107q=>?_⟩;obtain⟨e3,c,hc,y⟩:=q107q;subst e3 y e;rw[Array.getElem?_eq_getElem h1]at hc;cases hc;exact⟨Same.refl _,by simp only[Den]⟩
theorem zjN (he:PuE X e te):PuI X tg e (zjM te) where
 mono ρ Q Q' m h:=he.mono ρ _ _ (λd k q108q=>by obtain⟨ds,e,q⟩:=q108q;exact⟨ds,e,m _ _ q⟩) h
 run:=PI.weak (zoi he.run) λσ H Rr h=>by
  obtain⟨ρ,Fz,R,h⟩:=h;refine⟨ρ,Fz,R,he.mono ρ _ _ (λd k q v Fz' H' p=>?_) h⟩;obtain⟨x,rfl,q⟩:=q;exact⟨x,zaq (p.root R),q _ Fz' H' p.ext zkR⟩
end
section
variable {X:Cx}{a b e o:Expr}{ta tb te to:TPE}{p pos apos cpos:Pos}
theorem zkS:MtR X "str.split" (λx xs H Q=>∃u v,x=.str u/\xs=[.str v]/\v.length≠0/\u.length<=sizeLine/\(Txt.split u v).length<=sizeLine/\∀l,H l=none->Q (.ref l) (upd H l (.lst ((Txt.split u v).map V.str)))):=by
 intro pins s σ H x xs u us Q I rx r h;obtain⟨y,z,rfl,rfl,hz,h1,h2,q⟩:=h;obtain⟨t1,rfl⟩:=rx;obtain⟨w,rfl,t2,rfl⟩:=vals1 r;have hv:∀(l:List (Str×Tok)) (zs:List Str),l.map (·.1)=zs->Vals (zs.map V.str) (strValues l):=λl=>by
  induction l with
  | nil=>intro zs e;subst e;exact .nil
  | cons p l ih=>intro zs e;subst e;exact .cons ⟨p.2,rfl⟩ (ih _ rfl)
 have fin:∀(l:List (Str×Tok)) (tk:Nat),l.map (·.1)=Txt.split y z->EP X pins σ Q (.ref s.heap.objs.size) { s with heap:=s.heap.push { cls:=.type "list",data:=.seq (strValues l).toArray },toks:=tk }:=λl tk e=>
  ⟨.ref s.heap.objs.size,_,I.lnew (t':=tk) (hv l _ e) (by rw[List.length_map];exact h2),rfl,q _ I.fresh⟩
 have hy:(z.length == 0)=false:=by simpa using hz
 cases c1:(decide (y.length<z.length)||decide (Builtin.Str.strKind y<Builtin.Str.strKind z))
 ·cases hf:(Builtin.Str.occurrences y z 0 y.length (y.length+1)).isEmpty
  ·have es:Txt.split y z=Builtin.Str.partsBetween y (Builtin.Str.occurrences y z 0 y.length (y.length+1)) z.length:=(if_neg (ne_true_of_eq_false c1)).trans (if_neg (ne_true_of_eq_false hf));refine call_meets PySem.F.slot_str_split (typeIs_str _ _ _) PySem.F.entry_str_split (PySem.F.args_str_split_2 _ _) (meets_str_split_sep y z t1 t2 c1 hy hf h1 (by rw[<- es];exact h2)) ?_;show wants _ _ _ { s with toks:=_,heap:=s.heap.push { cls:=.type "list",data:=.seq (strsFrom s.toks (Builtin.Str.partsBetween y (Builtin.Str.occurrences y z 0 y.length (y.length+1)) z.length)).toArray } };rw[strsFrom_eq];exact fin (numbered s.toks _) _ ((numbered_texts _ _).trans es.symm)
  ·exact call_meets PySem.F.slot_str_split (typeIs_str _ _ _) PySem.F.entry_str_split (PySem.F.args_str_split_2 _ _) (meets_str_split_not_found y z t1 t2 c1 hy hf) (fin [(y,t1)] _ ((if_neg (ne_true_of_eq_false c1)).trans (if_pos hf)).symm)
 ·exact call_meets PySem.F.slot_str_split (typeIs_str _ _ _) PySem.F.entry_str_split (PySem.F.args_str_split_2 _ _) (meets_str_split_cannot_occur y z t1 t2 c1) (fin [(y,t1)] _ (if_pos c1).symm)
noncomputable def zgb (to te:TPE):TPE:=λρ Q=>to ρ λd _=>∃u,d=.str u/\te ρ λe _=>∃v,e=.str v/\v.length≠0/\u.length<=sizeLine/\(Txt.split u v).length<=sizeLine/\Q (.lst ((Txt.split u v).map PV.str)) .new
theorem zdB (ho:PuE X o to)(he:PuE X e te)(m:autoParam (M1 X o "split" apos e cpos) aU8):PuE X (.Call (.Attribute o "split" apos) [e] [] cpos) (zgb to te) where
 mono ρ Q Q' mm h:=ho.mono ρ _ _ (λd _ q109q=>by obtain⟨u,e1,h⟩:=q109q;exact⟨u,e1,he.mono ρ _ _ (λe _ q110q=>by obtain⟨v,e2,h1,h2,h3,q⟩:=q110q;exact⟨v,e2,h1,h2,h3,mm _ _ q⟩) h⟩) h
 run:=PE.weak (zoV PySem.F.slot_str_split PySem.F.type_str_split zkS ho.run he.run m) λσ H Q h=>by
  obtain⟨ρ,Fz,R,h⟩:=h;refine⟨ρ,Fz,R,ho.mono ρ _ _ (λd k q v F1 H1 p1=>?_) h⟩;obtain⟨u,rfl,q⟩:=q;refine⟨u,zaq (p1.root R),ρ,F1,R.ext p1.ext,he.mono ρ _ _ (λe ke q w F2 H2 p2=>?_) q⟩;obtain⟨y,rfl,h1,h2,h3,q⟩:=q;exact⟨u,y,zaq (p1.root R),by rw[zaq (p2.root (R.ext p1.ext))],h1,h2,h3,λl hl=>q _ F2 _ ((Post.newL p2.ext.al hl (zdT _)).behind (p1.ext.trans p2.ext))⟩
noncomputable def inS (x y:Str):Bool:=!(Builtin.Str.occurrences y x 0 y.length 1).isEmpty
noncomputable def pInS (neg:Bool):P2:=λd e Q=>∃x y,d=.str x/\e=.str y/\Q (.bl (if neg then !inS x y else inS x y)) .frz
theorem zoj {K:PySem.W.Frag}:POp K (λx y H Q=>∃i j,x=.str i/\y=.str j/\Q (.bl (!(Builtin.Str.occurrences j i 0 j.length 1).isEmpty)) H) (pInS false) where
 mono d e Q Q' m h:=by obtain⟨x,y,e1,e2,q⟩:=h;exact⟨x,y,e1,e2,m _ _ q⟩
 run Fz H x y d e Q al rx ry h:=by
  obtain⟨u,v,rfl,rfl,q⟩:=h;exact⟨u,v,zaq rx,zaq ry,q _ Fz H (.val al (by simp only[Den];rfl))⟩
theorem zmF {K:PySem.W.Frag}:POp K (λx y H Q=>∃i j,x=.str i/\y=.str j/\Q (.bl (!(!(Builtin.Str.occurrences j i 0 j.length 1).isEmpty))) H) (pInS true) where
 mono d e Q Q' m h:=by obtain⟨x,y,e1,e2,q⟩:=h;exact⟨x,y,e1,e2,m _ _ q⟩
 run Fz H x y d e Q al rx ry h:=by
  obtain⟨u,v,rfl,rfl,q⟩:=h;exact⟨u,v,zaq rx,zaq ry,q _ Fz H (.val al (by simp only[Den];rfl))⟩
end
section
variable {X:Cx}{E:XK}{e:Expr}{ee:TXE}{pos:Pos}
theorem zdZ {i:Nat}(he:∀Z Z' ρ Q Q',(∀c,Z c->Z' c)->(∀d k,Q d k->Q' d k)->ee Z ρ Q->ee Z' ρ Q'){D:Ends}{σ:St}{H:Hp}(h:zmE X.K E (λZ=>pSet i (ee Z)) D σ H):tAsg (zeL X.K E ee) (ziB i) D σ H:=by
 obtain⟨ρ,Fz,R,h⟩:=h;refine⟨ρ,Fz,R,he _ _ ρ _ _ (λ_ z=>z) (λd k q v Fz' H' p=>?_) h⟩;show D.nx (σ.set i (some v)) H';have R':=R.ext p.ext;cases k with
 | frz=>exact(show(zcz X.K D ρ σ Fz H).nx (ρ.set i (some (d,false))) from q) _ Fz' H' (.of p.ext) (λb hb=>.inl (zfd b hb)) (R'.set p.opd)
 | own j=>exact q.elim
 | new=>
  obtain⟨a,e,hn,nf,o⟩:=p.opd;subst e;have hno:¬ zaI ρ σ a:=λ⟨j,e,h1,h2⟩=>by
   obtain⟨b,q1,_,q2⟩:=R.own j e h1;rw[h2]at q1;cases q1;obtain⟨o',q3,_⟩:=q2.at;rw[hn]at q3;cases q3
  refine(show(zcz X.K D ρ σ Fz H).nx (ρ.set i (some (d,true))) from q) _ Fz' H' (.of p.ext) (λb hb=>?_) (R'.zlz nf o hno);rcases zeD b hb with rfl | hb
  ·exact .inr hn
  ·exact .inl hb
theorem zcQ {i:Nat}(he:∀Z Z' ρ Q Q',(∀c,Z c->Z' c)->(∀d k,Q d k->Q' d k)->ee Z ρ Q->ee Z' ρ Q'):∀Z Z' ρ O O',(∀c,Z c->Z' c)->POut.le O O'->pSet i (ee Z) ρ O->pSet i (ee Z') ρ O':=λZ Z' ρ O O' z m h=>he Z Z' ρ _ _ z (λd k q=>by
 cases k with
 | frz=>exact m.nx _ q
 | new=>exact m.nx _ q
 | own j=>exact q) h
theorem zlE {i:Nat}{x:Str}{pos':Pos}(hN:X.N.Nodup)(hi:X.N[i]? = some x)(hx:Loc X.env.scope x)(he:PuXE X E e ee)(hs:autoParam (swapsWith e (some (.Name x pos')) pos.line X.env=pure false) aU0)(hf:autoParam (X.fn x=true\/X.env.scope.names.lookup x=some .local) aU4) :
  PuX X E (.Assign [.Name x pos'] e pos) (λZ=>pSet i (ee Z)):=
 ⟨zcQ he.mono,PS.weak (zfp hN hi hx he.run hs hf) λ_ _ _ h=>zdZ he.mono h⟩
theorem zkT {p:Pos}(hg:Gl X "tuple") (hm:X.mg "tuple" = none) (he:PuXE X E e ee) (h1:autoParam (starEach [e] X.env=(false,eval e X.env)::starEach [] X.env) aU0) (hpl:autoParam ((backTo pos (starEach [] X.env)).any (·.1)=false) aU0):PuXE X E (.Call (.Name "tuple" p) [e] [] pos) (λZ ρ Q=>ee Z ρ λd _=>zbX [d] Q) where
 mono Z Z' ρ Q Q' z m h:=he.mono Z Z' ρ _ _ z (λd k q=>zdz (K:=X.K).mono _ _ _ m q) h
 run:=PE.weak (zcE zcF hg hm zht (zaw he.run zbh h1) (by decide) (by decide) h1 hpl) λσ H Q h=>by
  obtain⟨ρ,Fz,R,h⟩:=h;refine⟨ρ,Fz,R,he.mono _ _ ρ _ _ (λ_ z=>z) (λd k q v F' H' p=>?_) h⟩;exact zdz.run F' H' [d] [v] Q p.ext.al (.cons (p.root R) .nil) (zdz (K:=X.K).mono _ _ _ (λd k q v F3 H3 p3=>q v F3 H3 (p3.behind p.ext)) q)
end
noncomputable abbrev TXI:=(Addr->Prop)->TPI
noncomputable def zlF (K:PySem.W.Frag)(E:XK)(t:TXI):TI:=λσ H R=>∃ρ Fz,Rel K Fz ρ σ H/\t (xOf E ρ σ Fz H) ρ λits o=>∀J Fz' H',Ext Fz H Fz' H'->Walk K Fz' o J its H'->R J H'
structure PuXI (X:Cx)(E:XK)(tg iter:Expr)(t:TXI):Prop where
 mono:∀Z Z' ρ Q Q',(∀c,Z c->Z' c)->(∀its o,Q its o->Q' its o)->t Z ρ Q->t Z' ρ Q'
 run:PI X tg iter (zlF X.K E t)
theorem zok {X:Cx}{E:XK}{tg e:Expr}{ti:TPI}(h:PuI X tg e ti):PuXI X E tg e (λ_=>ti):=⟨λ_ _ ρ Q Q' _ m q=>h.mono ρ Q Q' m q,h.run⟩
noncomputable def zkU (ee:TXE):TXI:=λZ ρ Q=>ee Z ρ λd k=>∃ds,d=.lst ds/\k=.new/\Q ds false
theorem zkV {X:Cx}{E:XK}{tg e:Expr}{ee:TXE}(he:PuXE X E e ee):PuXI X E tg e (zkU ee) where
 mono Z Z' ρ Q Q' z m h:=he.mono Z Z' ρ _ _ z (λd k q112q=>by obtain⟨ds,e,hk,q⟩:=q112q;exact⟨ds,e,hk,m _ _ q⟩) h
 run:=PI.weak (ziD he.run) λσ H Rr h=>by
  obtain⟨ρ,Fz,R,h⟩:=h;refine⟨ρ,Fz,R,he.mono _ _ ρ _ _ (λ_ z=>z) (λd k q v Fz' H' p=>?_) h⟩;obtain⟨ds,rfl,rfl,q⟩:=q;obtain⟨a,rfl,hn,nf,o⟩:=p.opd;obtain⟨xs',o1,o2⟩:=o;refine⟨a,rfl,⟨xs',.inl (.inl o1)⟩,q _ (λb=>Fz' b\/b=a) H' (p.ext.add hn (by rw[o1];exact λz=>nomatch z)) ?_⟩;intro H2 hH i;have kp:Keep (λb=>Fz' b\/b=a) H' H2:=hH.elim (λz=>.of z) (λz=>.mk' z.2);have g1:SqL X.K H2 a xs':=.inl (kp.rd trivial (.inr rfl) (.inl o1));have g3:DenL X.K (λb=>Fz' b\/b=a) H2 ds xs':=DenL.mono kp (λ_ h=>h) _ _ (DenL.mono (Keep.of (Same.refl _)) (λ_ h=>.inl h) _ _ o2);have hl:=g3.length;refine⟨λd hd=>?_,λhi=>⟨xs',g1,by lia⟩⟩;obtain⟨v,q1,q2⟩:=g3.get hd;exact⟨⟨xs',v,g1,q1⟩,λx H3 ⟨e,y⟩=>by
   subst e;have:=y xs' g1;rw[q1]at this;cases this;exact⟨Same.refl _,q2⟩⟩
section
variable {X:Cx}{E:XK}{elt tg iter:Expr}{sc:Scope}{pos:Pos}{N:List Str}{k:Nat}{js:List Nat}{ti:TXI}{g:TPG}{te:TXE}
noncomputable def zdl (k:Nat)(js:List Nat)(ti:TXI)(g:TPG)(te:TXE):TXE:=λZ ρ Q=>ti Z ρ λits _=>its.length<=sizeLine/\∃Pv:Nat->List PV->Prop,Pv 0 []/\
 (∀i d out,its[i]? = some d->out.length<=i->Pv i out->g d (blkP k js ρ) λρ2=>te Z ρ2 λe ke=>isOwn ke=false/\Pv (i+1) (out++[e]))/\∀out,out.length<=its.length->Pv its.length out->Q (.lst out) .new
theorem zde (hi:PuXI X E tg iter ti)(B:zgO X E N sc tg elt g te):∀Z Z' ρ Q Q',(∀c,Z c->Z' c)->(∀d k,Q d k->Q' d k)->zdl k js ti g te Z ρ Q->zdl k js ti g te Z' ρ Q':=λZ Z' ρ Q Q' z m h=>
 hi.mono Z Z' ρ _ _ z (λits o q114q=>by obtain⟨hz,Pv,h0,hs,hd⟩:=q114q;exact⟨hz,Pv,h0,λi d out h1 h2 h3=>(B.tgt 0 [] [] X.s₀ λ_=>none).mono _ _ _ _ (λρ2 q=>(B.val 0 [] [] X.s₀ λ_=>none).mono Z Z' ρ2 _ _ z (λ_ _ q=>q) q) (hs i d out h1 h2 h3),λout hl hp=>m _ _ (hd out hl hp)⟩) h
theorem zeM (nd:js.Nodup)(hloc:LocG k g)(hi:PuXI X E tg iter ti)(B:zgO X E N sc tg elt g te){σ:St}{H:Hp}{Q:VK}(h:zeL X.K E (zdl k js ti g te) σ H Q) :
  ziR k js (zlF X.K E ti) (zfR X.K g) (liftT X.K zdc) (zeL X.K E te) σ H Q:=by
 obtain⟨ρ,Fz,R,h⟩:=h;refine⟨ρ,Fz,R,hi.mono _ _ ρ _ _ (λ_ z=>z) (λits o q J Fz1 H1 x wk l hl=>?_) h⟩;obtain⟨hz,Pv,h0,hstep,hdone⟩:=q;refine zii (H:=H) nd hloc B (R.ext x) wk hl hz (zfZ (.of x) (zau.refl ρ σ H)) Pv h0 hstep λF' out xs H' x' hlx hout nfl hol hP=>?_;exact hdone out hol hP _ F' H' ⟨x.trans x',l,rfl,x.same.free hl,nfl,xs,hlx,hout⟩
theorem zjO {L:Addr}(hc:X.calm=true)(hex:X.ex=[])(hst:X.stack=X.env::X.outer)(hfm:X.env.frame=some L)(hxe:∀pins σ e s',FlyI X pins σ E e s'->X.xe e s')(S:zbs X N k js sc)(nd:js.Nodup)(hloc:LocG k g)(hi:PuXI X E tg iter ti)(B:zgO X E N sc tg elt g te)(hs:autoParam (∀x,foldedSetIterable iter X.env x=pure x) aU3) :
  PuXE X E (.ListComp elt [⟨tg,iter,[],0⟩] sc pos) (zdl k js ti g te):=
 ⟨zde hi B,PE.weak (zkP hc hex hst hfm hxe S hi.run B.blk hs) λσ H Q h=>zeM nd hloc hi B h⟩
theorem zkW {ifs:List Expr}{wi:TI}{g':TG}{tt:TT}{te':TE}{L:Addr}{i:Nat}{x:Str}{pos' pos2:Pos}(hc:X.calm=true)(hex:X.ex=[])(hst:X.stack=X.env::X.outer)(hfm:X.env.frame=some L)(hxe:∀pins σ e s',FlyI X pins σ E e s'->X.xe e s')(S:zbs X N k js sc)(hi:PI X tg iter wi)(B:BlkX X N sc tg ifs elt g' tt te' E)(hN:X.N.Nodup)(hx:X.N[i]? = some x)(hk:X.env.scope.names.lookup x=some .local)
  (hsw:autoParam (swapsWith (.ListComp elt [⟨tg,iter,ifs,0⟩] sc pos) (some (.Name x pos')) pos2.line X.env=pure true) aU0) (hs:autoParam (∀x,foldedSetIterable iter X.env x=pure x) aU3) :
  PS X (.Assign [.Name x pos'] (.ListComp elt [⟨tg,iter,ifs,0⟩] sc pos) pos2) (tAsg (ziR k js wi g' tt te') (ziB i)):=by
 intro pins s σ H D I h;rw[exec_Assign_Name_used _ _ _ _ hsw];refine wpAny_bind (wpAny_standAt (wpAny_bind ?_));show wpAny _ X.A (do let _ <- comprehension (.ListComp elt [⟨tg,iter,ifs,0⟩] sc pos) sc X.env _ (newList []) false (eval iter X.env) (some (assign (.Name x pos') X.env))) _ _ s
 refine wpAny_bind (thn (wpAny_comprehension_free (use:=some (assign (.Name x pos') X.env)) (Q:=λ_ s'=>SP X pins D .next s') rfl hs (zgE λn hn=>I.ok.has n (S.fr n hn)) S.kind (zda S) ?_) λ_ s' hq=>wpAny_pure (wpAny_pure hq))
 refine thn (zfY (pos:=pos) (R:=λl H'=>D.nx (σ.set i (some (.ref l))) H') hc hex hst hfm S hi B I h) λy s1 h1=>thn h1 λit s2 h2=>thn h2 λacc s3 h3=>thn h3 λcenv s4 h4=>codeAny_mono h4 λr s' hr=>?_;cases r with
 | error e=>
  obtain⟨a,T,cls,fl,H',rfl,I',ex,hp,hE,⟨f0,f1,f2,f3,f4,f5⟩,m,hn⟩:=hr;refine⟨m,hn,λh' sb cenv' hce=>?_⟩;have I'':=I'.turned (t':=s'.toks) (λb o hb e=>sb.extBut b o hb e) f0 f1 f3 f4 f5;have ex':ExcAt X.s₀.heap H' h' a cls T fl:=by
   obtain⟨ha,hHa,hT,hHT,hTa,oe,vs,oT,ts,a0,he,hc,hd,h00,h1,hgT,hdT,h3⟩:=ex;obtain⟨o,es,ep,hg,hdd,hk⟩:=hn;have n1:a≠cenv.locals:=λz=>by rw[z,hg]at he;cases he;rw[hd]at hdd;cases hdd
   have n2:T≠cenv.locals:=λz=>by rw[z,hg]at hgT;cases hgT;rw[hdT]at hdd;cases hdd
   exact⟨ha,hHa,hT,hHT,hTa,oe,vs,oT,ts,a0,sb.extBut _ _ n1 he,hc,hd,h00,h1,sb.extBut _ _ n2 hgT,hdT,h3⟩
  have F:FlyI X pins σ E (.ref a) { s' with heap:=h' }:=⟨a,T,cls,fl,H',rfl,I'',ex',hp,hE⟩;unfold PySem.passOn;obtain⟨ha,hHa,hT,hHT,hTa,oe,vs,oT,ts,a0,he,hc,hd,h00,h1,hgT,hdT,h3⟩:=ex';refine wpAny_bind (wpAny_field he hd h1 ?_);rw[if_neg (by simp)];exact wpAny_bind (FlyI.flight F λs'' F'=>wpAny_throw (hxe pins σ _ _ F'))
 | ok f=>
  obtain⟨l,H',m,rfl,I',hn,⟨f0,f1,f2,f3,f4,f5⟩,q⟩:=hr;refine wpAny_assign_Name (zbZ I' hN hx (.inl hk) (show RelV (.ref l) (.ref l) from rfl) (λs'' I'' q115q=>?_) (.inr hk));obtain⟨a,sb,ha⟩:=q115q;have ne:cenv.locals≠a:=by
   rcases ha with z | z
   ·rw[z];exact f1
   ·exact λw=>f4 x a z w.symm
  exact⟨m,hn.sameBut sb ne,λh' sb'=>⟨_,H',I''.turned (t':=s''.toks) (λb o hb e=>sb'.extBut b o hb e) f0 f1 f3 f4 f5,q⟩⟩
theorem zmG {L:Addr}{i:Nat}{x:Str}{pos' pos2:Pos}(hc:X.calm=true)(hex:X.ex=[])(hst:X.stack=X.env::X.outer)(hfm:X.env.frame=some L)(hxe:∀pins σ e s',FlyI X pins σ E e s'->X.xe e s')(S:zbs X N k js sc)(nd:js.Nodup)(hloc:LocG k g)(hi:PuXI X E tg iter ti)(B:zgO X E N sc tg elt g te)(hN:X.N.Nodup)(hx:X.N[i]? = some x)(hk:X.env.scope.names.lookup x=some .local)
  (hsw:autoParam (swapsWith (.ListComp elt [⟨tg,iter,[],0⟩] sc pos) (some (.Name x pos')) pos2.line X.env=pure true) aU0) (hs:autoParam (∀x,foldedSetIterable iter X.env x=pure x) aU3) :
  PuX X E (.Assign [.Name x pos'] (.ListComp elt [⟨tg,iter,[],0⟩] sc pos) pos2) (λZ=>pSet i (zdl k js ti g te Z)):=
 ⟨zcQ (zde hi B),PS.weak (zkW hc hex hst hfm hxe S hi.run B.blk hN hx hk hsw hs) λD σ H h=>zeM nd hloc hi B (zdZ (zde hi B) h)⟩
end
section
variable {X:Cx}{k:Nat}{f:Addr}{fd:FuncData}{ps:List Str}{sp:Sp}{x:Str}{p pos:Pos}{e:Expr}{es:List Expr}{t:TA}
noncomputable def zoZ (K:PySem.W.Frag)(J:Addr)(sp:Sp)(t:TA)(z i j:Nat):TS:=λD σ H=>j<σ.length/\i<σ.length/\∃E:XK,(t σ H λvs H1=>sp vs H1 (λv H'=>D.nx (σ.set z (some v)) H') E)/\
 ∀cls o H',E cls o H'->(∃C bm,cls=.ref C/\ExcC K C bm/\(Value.ref C::bm).contains (.ref J)=true)/\∀a,H' a=none->D.nx ((((σ.set j (some (.ref a))).set i (some (.ref a))).set j (some .non)).set j none) (upd H' a (ClsAt a cls))
theorem zjP {L J:Addr}{bmJ:List Value}{jx en y zx:Str}{z i j:Nat}{np py pz pe pa pos' pos2 pos3:Pos}(F:FnOk X.prog X.w X.K X.mg X.base (CXJ X.prog X.w) k f fd ps sp)(hex:X.ex=[])(hst:X.stack=X.env::X.outer)(hfm:X.env.frame=some L)(hr:Room k X.A)(hg:Gl X x)(hm:X.mg x=some (.ref f))(hk:PySem.W.keepIn X.K (.ref f)=true)(hb:Binds X.K fd ps [])
  (ha:PA X.nox (e::es) t) (hN:X.N.Nodup) (hz:X.N[z]? = some zx) (hlz:X.env.scope.names.lookup zx=some .local) (hi:X.N[i]? = some y) (hly:X.env.scope.names.lookup y=some .local) (hj:X.N[j]? = some en) (hle:X.env.scope.names.lookup en=some .local) (hij:i≠j) (hgj:Gl X jx) (hmj:X.mg jx=some (.ref J)) (hJ:ExcC X.K J bmJ)
  (hdb:autoParam ((x == ("__debug__" : Str))=false) aU1) (hdj:autoParam ((jx == ("__debug__" : Str))=false) aU1) (hde:autoParam ((en == ("__debug__" : Str))=false) aU1) (hce:autoParam ((en == ("__classdict__" : Str))=false) aU1)
  (he:autoParam (starEach (e::es) X.env=(false,eval e X.env)::starEach es X.env) aU0) (hpl:autoParam ((backTo pos (starEach es X.env)).any (·.1)=false) aU0)
  (hs:autoParam (swapsWith (.Call (.Name x p) (e::es) [] pos) (some (.Name zx pz)) pos2.line X.env=pure false) aU0) (hs2:autoParam (swapsWith (.Name en pe) (some (.Name y py)) pa.line X.env=pure false) aU0) :
  PS X (.Try [.Assign [.Name zx pz] (.Call (.Name x p) (e::es) [] pos) pos2] [.ExceptHandler (some (.Name jx np)) (some en) [.Assign [.Name y py] (.Name en pe) pa] pos'] [] [] pos3) (zoZ X.K J sp t z i j):=by
 intro pins s σ H D I h;obtain⟨hjl,hil,E,h,hE⟩:=h;refine wpAny_Try_except (wpAny_execs_cons (wpAny_Assign_Name (wpAny_mono (zog F hex hr hg hm hk hb ha I h hdb he hpl) (λv s1 ⟨v',H1,I1,r1,q1⟩=>?_) λev s1 fy=>?_) hs))
 ·refine zbZ I1 hN hz (.inl hlz) r1 (λs2 I2 _=>?_) (.inr hlz);exact wpAny_execs_nil (wpAny_execs_nil ⟨_,H1,I2,q1⟩)
 refine FlyI.note fy hex hst hfm rfl λs2 fy2=>FlyI.flight fy2 λs3 fy3=>?_;obtain⟨a,T,cls,fl,H',rfl,I3,ex,hp,hE3⟩:=fy3;obtain⟨⟨C,bm,rfl,hC,hin⟩,hD⟩:=hE _ _ _ hE3;refine wpAny_handleBy_cons (codeAny_handlers_test ?_) (by intro q;cases q);refine zdG (zoe I3 a) hgj hmj ?_ hdj;obtain⟨N',nm,q,bs,hdct,sn,sub,ab,col,dd,k0,k1,k2,k3,k5,mN,gC,hNs,hni,TC⟩:=hC s3.heap I3.kIn;obtain⟨N2,nm2,q2,bs2,hdct2,sn2,sub2,ab2,col2,dd2,j0,j1,j2,j3,j5,mN2,gJ,hNs2,hni2,TJ⟩:=hJ s3.heap I3.kIn;have ex':=ex;obtain⟨xa,hHa,xT,hHT,hTa,oe,vs,oT,ts,a0,hge,hc,hd,h00,h1,hgT,hdT,h3⟩:=ex';refine zgM gC gJ hge hc (TJ.hasType (by decide)) hin ?_;show codeAny _ _ _ _ s3;refine codeAny_handlers_suite_as (zhy (l:=X.stack) ex (ex.nofr I3.stack).2 λh' fl' xs ex2=>?_);have I4:Inv X pins σ H' { s3 with heap:=h' }:=zkO I3 xs ex hp;have I5:=zjE I4 ex2 λp hp'=>(hp p hp').1;refine zbZ I5 hN hj (.inl hle) (show RelV (.ref a) (.ref a) from rfl) (λs5 I6 _=>?_) (.inr hle);have hset:=zfp (X:=hCx X a) (i:=i) (x:=y) (e:=.Name en pe) (pos':=py) (pos:=pa) hN hi (.inl hly) (zbT (X:=hCx X a) (i:=j) hj (.inl hle) hde hce) hs2 (.inr hly);refine wpAny_execs_cons (wpAny_mono (hset pins s5 _ _ { nx:=λσ' H''=>σ'=(σ.set j (some (.ref a))).set i (some (.ref a))/\H''=upd H' a (ClsAt a (.ref C)),rt:=λ_ _=>False } (zoe I6 a) ⟨.ref a,List.getElem?_set_self hjl,rfl,rfl⟩) (λfl s6 hfl=>?_) λ_ _ z=>z.elim);cases fl with
 | next=>
  obtain⟨σ',H'',I7,rfl,rfl⟩:=hfl;refine wpAny_execs_nil ?_;have I8:Inv X pins _ _ s6:=zof I7 I.ok;refine wpAny_bind (wpAny_bindName (zbZ I8 hN hj (.inl hle) (show RelV .non .none from rfl) (λs8 I9 _=>?_) (.inr hle)));unfold unbindBehindTheSuite;refine wpAny_onRaise (wpAny_mono (zjF (Ex:=λ_ _=>False) I9 hN hj hle (List.getElem?_set_self (by simpa using hjl)) λs9 I10=>?_) (λ_ _ q=>q) λ_ _ z=>z.elim);exact⟨_,_,I10,hD a hHa⟩
 | ret v=>obtain⟨_,_,_,_,_,z⟩:=hfl;exact z.elim
 | brk=>obtain⟨_,_,_,z⟩:=hfl;exact z.elim
 | cont=>obtain⟨_,_,_,z⟩:=hfl;exact z.elim
end
end PL
namespace JS
open PySem PySem.Spec PyProof.Rows
section
variable {prog:Program}{w:World}{A:Around}{E:Value->Shared->Prop}{s:Shared}
theorem zij {l:Addr}{items:Array Value}{SP:Heap->Addr->Prop}{Q:Value->Shared->Prop}(hh:A.handled=none)(hl:s.heap.IsTuple l items)
  (loop:∀ {A':Around} {R:Result->Shared->Prop} {I:Addr} {fp wr:List Addr} {G:Array GenState->Array GenState->Prop} {P:Nat->Value->Prop} {St:Nat->Shared->Prop} (W:WalksS prog w A'.in1 I fp wr G items.size P St) (S:Addr),A'.units<=A.units+8->S∉fp->(∀i v,P i v->items[i]? = some v)->(∀b,b<s.heap.objs.size->b∉S::wr)->∀s1:Shared,(∀b o,s.heap.get? b=some o->s1.heap.get? b=some o)->St 0 s1->s1.heap.get? S=some (zax w)->(∀s',Moved (S::wr) G s1 s'->SP s'.heap S->R (.ok (.ret .none)) s')->
   codeAny (model prog w) A' (.builtin "set.update.loop" ⟨[.ref S,.ref I],[]⟩) R s1)
  (h:∀(h':Heap) (tk:Nat),SP h' s.heap.objs.size->(∀b o,s.heap.get? b=some o->h'.get? b=some o)->Q (.ref s.heap.objs.size) { s with heap:=h',toks:=tk }) :
  wpAny (model prog w) A (call (.type "set") [.ref l]) Q E s:=by
 obtain⟨c,tl,hmro⟩:=PySem.F.called_set.mro;have hmade:=PySem.F.called_set.made;have hsub:=PySem.F.called_set.sub;refine wpAny_call (codeAny_of_tree ?_);show wpAny _ _ (callAny (.type "set") _) _ _ _;refine wpAny_pure ⟨Code.quiet_builtin _ (by decide +kernel),codeAny_builtin PySem.F.entry_type_call ?_⟩;rw[Around.under_plain (weight_type_call_type "set" [.ref l] []) rfl];have h1:=PySem.F.called_set.notType;have h2:=PySem.F.called_set.canCreate;have hct:=PySem.F.typeCall_set_1 (.ref l)
 repeat (any_goals (first | assumption | wp_step))
 refine codeAny_mono (zja (.ref l) (E:=E) (Q₁:=λob s1=>ob=.ref s.heap.objs.size/\s1={ s with heap:=s.heap.push (zax w) }) ⟨rfl,rfl⟩) λr s1 hr=>?_;cases r with
 | error e=>exact hr
 | ok fl=>
  cases fl with
  | ret ob=>
   obtain⟨rfl,rfl⟩:=hr;have hS:(s.heap.push (zax w)).get? s.heap.objs.size=some (zax w):=Heap.get?_push_size _ rfl;have hT:Shared.TypeIs { s with heap:=s.heap.push (zax w) } (.ref s.heap.objs.size) "set":=⟨_,hS,rfl⟩;have hli:=PySem.F.called_set.init.lookup;have hbi:=PySem.F.called_set.init.bind (.ref s.heap.objs.size)
   repeat (any_goals (first | assumption | wp_step))
   refine codeAny_mono (codeAny_call_builtin (R:=wants (λr s2=>r=.none/\∃h' tk,s2={ s with heap:=h',toks:=tk }/\SP h' s.heap.objs.size/\∀b o,s.heap.get? b=some o->h'.get? b=some o) E)
    PySem.F.called_set.init.plain PySem.F.entry_set_init (check_set_init_1 hT ?_)) λr₂ s₂ hr₂=>?_
   ·obtain⟨⟨ocls,odict,odata,oslots⟩,hol,hcl,nl,hdl⟩:=hl;simp only at hcl hdl;subst hcl;subst hdl;have hol':(s.heap.push (zax w)).get? l=some { cls:=.type "tuple",dict:=odict,data:=.seq items nl,slots:=oslots }:=Heap.get?_push_of_some _ hol;have hsls:=PySem.F.sub_tuple_set;have hslf:=PySem.F.sub_tuple_frozenset;have hne:(Value.type "tuple" == Value.type "dict")=false:=by decide
    have hl1:(s.heap.push (zax w)).IsTuple l items:=⟨_,hol',rfl,nl,rfl⟩;unfold Builtin.«set.__init__» noKeywords Builtin.Frozenset.updateFrom;generalize hPI:pyIter=PI
    wp_walk
    subst hPI;refine wpAny_pyIter_tuple hl1 (wpAny_bind (wpAny_runValue ?_));have hlS:l<s.heap.objs.size:=Heap.lt_size hol;have hz1:(s.heap.push (zax w)).objs.size=s.heap.objs.size+1:=Heap.size_push ..;have hneI:l≠(s.heap.push (zax w)).objs.size:=by rw[hz1];exact Nat.ne_of_lt (Nat.lt_succ_of_lt hlS)
    have hSf:s.heap.objs.size∉[(s.heap.push (zax w)).objs.size,l]:=by
     rw[hz1];intro z;rcases List.mem_cons.mp z with e | e
     ·exact absurd e (Nat.ne_of_lt (Nat.lt_succ_self _))
     ·exact absurd (List.mem_singleton.mp e) (Nat.ne_of_gt hlS)
    refine loop ((Walks.tuple (by simp[hh]) _ l hneI items).toS) s.heap.objs.size ?U hSf (λi v hv=>hv) (λb hb=>?W) _ (λb o e=>Heap.get?_push_of_some _ (Heap.get?_push_of_some _ e)) ⟨⟨_,Heap.get?_push_size _ rfl,rfl,rfl⟩,hl1.push _⟩ (Heap.get?_push_of_some _ hS) λs' hm hS'=>?_
    case U=>show A.units+1+1<=_;lia
    case W=>
     intro z;rcases List.mem_cons.mp z with q | q
     ·exact Nat.ne_of_lt hb q
     ·have q':=List.mem_singleton.mp q;rw[hz1]at q';exact absurd q' (Nat.ne_of_lt (Nat.lt_succ_of_lt hb))
    obtain⟨h',g',d',tk',os'⟩:=s';have eg:g'=s.gens:=hm.gens;have ed:d'=s.drawn:=hm.drawn;have eo:os'=s.os:=hm.os;subst eg;subst ed;subst eo;refine wpAny_pure (wpAny_pure ⟨rfl,h',tk',rfl,hS',λb o e=>?_⟩);have hb':b<s.heap.objs.size:=Heap.lt_size e;refine hm.heap b o (λz=>?_) (Heap.get?_push_of_some _ (Heap.get?_push_of_some _ e));rcases List.mem_cons.mp z with q | q
    ·exact Nat.ne_of_lt hb' q
    ·have q':=List.mem_singleton.mp q;rw[hz1]at q';exact absurd q' (Nat.ne_of_lt (Nat.lt_succ_of_lt hb'))
   ·cases r₂ with
    | error e=>exact hr₂
    | ok fl₂=>
     cases fl₂ with
     | ret r=>
      obtain⟨rfl,h',tk,rfl,hS',hk'⟩:=hr₂
      repeat (any_goals (first | assumption | wp_step))
      exact h _ _ hS' hk'
     | _=>exact hr₂.elim
  | _=>exact hr.elim
theorem zgP {l:Addr}{items:Array Value}{ys:List Str}{Q:Value->Shared->Prop}(hh:A.handled=none)(hl:s.heap.IsTuple l items)(hi:∀(i:Nat) v,items[i]? = some v->∃y t,ys[i]? = some y/\v=.str y t)(hy:ys.length=items.size)(hb:items.size+1<scanBound)
  (h:∀(h':Heap) (tk:Nat),zfF prog w h' s.heap.objs.size (ys.foldl addS [])->(∀b o,s.heap.get? b=some o->h'.get? b=some o)->Q (.ref s.heap.objs.size) { s with heap:=h',toks:=tk }) :
  wpAny (model prog w) A (call (.type "set") [.ref l]) Q E s:=
 zij (SP:=λh S=>zfF prog w h S (ys.foldl addS [])) hh hl (λ{A' R I fp wr G P St} W S _ hSf hP _ s1 kp hst hS hR=>zdK W S hSf ys hy (λk v hk=>by obtain⟨t,rfl⟩:=Value.isStrOf_shape (show Value.isStrOf k v=true from hk);rfl) (λi v hv=>by obtain⟨y,t,e1,rfl⟩:=hi i v (hP i v hv);exact⟨y,e1,by simp[PySem.strKind,Value.isStrOf],rfl⟩) hb _ 0 s1 rfl (Nat.zero_le _) hst (zhn hS) hR) h
end
theorem zhB:∀(ys xs:List Str),(ys.foldl addS xs).length=xs.length+ys.length↔(∀y∈ys,y∉xs)/\ys.Nodup
 | [],xs=>by simp
 | y::ys,xs=>by
  rw[List.foldl_cons,List.nodup_cons];have h1:=zcb ys (addS xs y);have ih:=zhB ys (addS xs y);by_cases hy:y∈xs
  ·have e:addS xs y=xs:=if_pos hy;rw[e]at h1 ih ⊢;rw[List.length_cons];exact⟨λh=>by lia,λh=>absurd hy (h.1 y (List.mem_cons_self ..))⟩
  ·have e:addS xs y=y::xs:=if_neg hy;rw[e]at h1 ih ⊢;rw[List.length_cons]at ih h1 ⊢;rw[show xs.length+(ys.length+1)=xs.length+1+ys.length by lia,ih];constructor
   ·rintro⟨h2,h3⟩;refine⟨λz hz=>?_,λz=>h2 y z (List.mem_cons_self ..),h3⟩;rcases List.mem_cons.mp hz with rfl | hz
    ·exact hy
    ·exact λq=>h2 z hz (List.mem_cons_of_mem _ q)
   ·rintro⟨h2,h3,h4⟩;refine⟨λz hz q=>?_,h4⟩;rcases List.mem_cons.mp q with rfl | q
    ·exact h3 hz
    ·exact h2 z (List.mem_cons_of_mem _ hz) q
end JS
namespace PL
open PySem PySem.Spec L2
open PyProof.Rows hiding St
section
variable {X:Cx}{e:Expr}{te:TPE}{p p2 pos pos2:Pos}
theorem zik (hc:X.calm=true):zcq X (.type "set") (λxs H Q=>∃(p:Addr) (ss:List Str),xs=[.ref p]/\SqT X.K H p (ss.map V.str)/\ss.length+1<scanBound/\∀l,H l=none->Q (.ref l) (upd H l (SetO X.prog X.w l (ss.foldl JS.addS [])))):=by
 intro pins s σ H xs us Q I r h;obtain⟨p,ss,rfl,hp,hz,q⟩:=h;obtain⟨u,rfl,rx⟩:=vals1 r;cases rx;obtain⟨its,r,ht,_⟩:=I.tuple hp;have hlen:=r.length;rw[List.length_map]at hlen;refine JS.zgP (ys:=ss) (I.ok.hd hc) ht (λi v hv=>?_) (by rw[List.size_toArray];exact hlen) (by rw[List.size_toArray];lia) λh' tk hS kp=>?_
 ·have hv':its[i]? = some v:=by simpa using hv
  have hi:i<its.length:=(List.getElem?_eq_some_iff.mp hv').1;have e1:(ss.map V.str)[i]? = some (V.str ss[i]):=by simp[show i<ss.length by lia]
  obtain⟨u,q1,q2⟩:=r.get e1;rw[hv']at q1;cases q1;obtain⟨t,e2⟩:=(show ∃t,v=Value.str _ t from q2);exact⟨_,t,by simp[show i<ss.length by lia],e2⟩
 ·refine⟨.ref s.heap.objs.size,_,I.laid (t':=tk) (o:=SetO X.prog X.w s.heap.objs.size (ss.foldl JS.addS [])) kp (Nat.le_refl _) ?_,rfl,q _ I.fresh⟩;obtain⟨es,ep,t,rc,_⟩:=id hS;obtain⟨o,ho,_⟩:=rc.obj;exact⟨hS,⟨o,ho⟩,λh1 h2 hs k=>JS.KSet.keep hs k⟩
theorem zgQ:zcq X (.builtin "len") (λxs H Q=>∃(p:Addr) (ss:List Str),xs=[.ref p]/\H p=some (SetO X.prog X.w p ss)/\Q (.int ss.length) H):=by
 intro pins s σ H xs us Q I r h;obtain⟨p,ss,rfl,hp,q⟩:=h;obtain⟨u,rfl,rx⟩:=vals1 r;cases rx;obtain⟨hS,_,_⟩:=(show zbj X.prog X.w H s.heap p (SetO X.prog X.w p ss) from I.hok p _ hp);obtain⟨es,ep,t,rc,_,hperm,_⟩:=hS;obtain⟨o,ho,hx,hd⟩:=rc.obj;have hsz:=rc.sz;have hl:es.size=ss.length:=by rw[<- hperm.length_eq,List.length_map,Array.length_toList]
 refine call_len_set ho hx hd rc.fits (by unfold scanBound at hsz;lia) ⟨.int es.size,H,I.tok _,⟨_,rfl⟩,?_⟩;rw[hl];exact q
noncomputable def zdC (te:TPE):TPE:=λρ Q=>te ρ λd _=>∃ss:List Str,d=.tup (ss.map PV.str)/\ss.length<64/\∀n:Nat,n<=ss.length->(n=ss.length↔ss.Nodup)->Q (.int n) .frz
theorem zil (hc:X.calm=true)(hg:Gl X "len") (hm:X.mg "len" = none) (hg2:Gl X "set") (hm2:X.mg "set" = none) (he:PuE X e te)
  (hs1:autoParam (starEach [e] X.env=(false,eval e X.env)::starEach [] X.env) aU0) (hpl1:autoParam ((backTo pos2 (starEach [] X.env)).any (·.1)=false) aU0)
  (hs2:autoParam (starEach [Expr.Call (.Name "set" p2) [e] [] pos2] X.env=(false,eval (Expr.Call (.Name "set" p2) [e] [] pos2) X.env)::starEach [] X.env) aU0) (hpl2:autoParam ((backTo pos (starEach [] X.env)).any (·.1)=false) aU0) :
  PuE X (.Call (.Name "len" p) [.Call (.Name "set" p2) [e] [] pos2] [] pos) (zdC te) where
 mono ρ Q Q' m h:=he.mono ρ _ _ (λd k q117q=>by obtain⟨ss,e1,e2,q⟩:=q117q;exact⟨ss,e1,e2,λn h1 h2=>m _ _ (q n h1 h2)⟩) h
 run:=PE.weak (zci zgQ hg hm bLen (zaw (zcE (zik hc) hg2 hm2 bSet (zaw he.run zbh hs1) (by decide) (by decide) hs1 hpl1) zbh hs2) (by decide) (by decide) hs2 hpl2) λσ H Q h=>by
  obtain⟨ρ,Fz,R,h⟩:=h;refine⟨ρ,Fz,R,he.mono ρ _ _ (λd k q v F1 H1 p1=>?_) h⟩;obtain⟨ss,rfl,e2,q⟩:=q;obtain⟨a,xs,rfl,h1,h2⟩:=zaO (p1.root R);have:=zcg h2;subst this;refine⟨a,ss,rfl,h1,by unfold scanBound;lia,λst hst=>?_⟩;have q1:=JS.zcb ss [];have q2:=JS.zhB ss [];simp only[List.length_nil,Nat.zero_add]at q1 q2;have x2:Ext F1 H1 F1 (upd H1 st (SetO X.prog X.w st (ss.foldl JS.addS []))):=Ext.laid ⟨Same.refl _,λ_ h=>h,λ_ h=>.inl h,p1.ext.al⟩ hst;exact⟨st,_,rfl,zam,q _ q1 ⟨λh=>(q2.mp h).2,λh=>q2.mpr ⟨λy _ z=>(nomatch z),h⟩⟩ _ F1 _ ((Post.val (ρ:=[]) (σ:=[]) x2.al (by simp only[Den])).behind (p1.ext.trans x2))⟩
end
theorem countIn_strs (k:Str):∀ys:List Str,countIn (.str k) (ys.map PyData.str)=(ys.count k:Int)
 | []=>rfl
 | y::ys=>by
  rw[List.map_cons,countIn,countIn_strs k ys,List.count_cons];have e:same (.str y) (.str k)=(y == k):=by first | rfl | (simp[same];done) | (cases h:(y == k)<;>simp_all [same])
  rw[e];split<;>lia
section
variable {X:Cx}{o e:Expr}{to te:TE}{apos cpos:Pos}
theorem zcj:∀ {ys:List Str}{vs:List Value},Vals (ys.map V.str) vs->StrsAre vs ys
 | [],_,h=>by cases h;exact .nil
 | y::ys,_,h=>by
  cases h with
  | cons q1 q2=>obtain⟨t,rfl⟩:=q1;exact .cons y t (zcj q2)
theorem zkX (ho:PE X o to)(he:PE X e te)(m:M1 X o "count" apos e cpos) :
  PE X (.Call (.Attribute o "count" apos) [e] [] cpos) (λσ H Q=>to σ H λx H1=>∃a xs,x=.ref a/\SqL X.K H1 a xs/\te σ H1 λy H2=>∃(zs:List Str) (k:Str),SqL X.K H2 a (zs.map V.str)/\y=.str k/\Q (.int (zs.count k:Int)) H2):=by
 intro pins s σ H Q I h;refine wpAny_Call_method_late m.base m.few m.line rfl (thn (ho pins s σ H _ I h) λu s1 q118q=>?_);obtain⟨x,H1,I1,rx,a,xs,ex,d,q1⟩:=q118q;subst ex;obtain rfl:u=Value.ref a:=rx;obtain⟨its,rv,⟨ob,n,h1,h2,h3,h4⟩,hz⟩:=I1.list d;refine⟨"list","list.count",PySem.F.plainAttrs_list,PySem.F.slot_list_count,PySem.F.type_list_count,⟨ob,h1,h2⟩,λb q=>by cases q;exact⟨ob,h1,h3⟩,?_⟩;rw[m.trees];refine Calls.callWith_builtin rfl (Calls.evalArgs_plain (Calls.spliced_cons (thn (he pins s1 σ H1 _ I1 q1) λiv s2 q119q=>Calls.spliced_nil ?_)));obtain⟨y,H2,I2,ry,zs,k,hsq,ey,q2⟩:=q119q;subst ey;obtain⟨t,rfl⟩:=ry;obtain⟨its2,r2,pl2,hz2⟩:=I2.list hsq;refine count_list_strs pl2.isList (zcj r2) ⟨.int _,H2,I2.tok _,⟨_,rfl⟩,?_⟩;rw[countIn_strs];exact q2
end
noncomputable def zea (to te:TPE):TPE:=λρ Q=>to ρ λd _=>∃ss:List Str,d=.lst (ss.map PV.str)/\te ρ λe _=>∃k,e=.str k/\Q (.int (ss.count k:Int)) .frz
section
variable {X:Cx}{o e a b:Expr}{to te ta tb:TPE}{apos cpos pos:Pos}
theorem zkY (ho:PuE X o to)(he:PuE X e te)(m:autoParam (M1 X o "count" apos e cpos) aU8):PuE X (.Call (.Attribute o "count" apos) [e] [] cpos) (zea to te) where
 mono ρ Q Q' mm h:=ho.mono ρ _ _ (λd _ q120q=>by obtain⟨ds,e1,h⟩:=q120q;exact⟨ds,e1,he.mono ρ _ _ (λe _ q121q=>by obtain⟨k,q1,q⟩:=q121q;exact⟨k,q1,mm _ _ q⟩) h⟩) h
 run:=PE.weak (zkX ho.run he.run m) λσ H Q h=>by
  obtain⟨ρ,Fz,R,h⟩:=h;refine⟨ρ,Fz,R,ho.mono ρ _ _ (λd k q v F1 H1 p1=>?_) h⟩;obtain⟨ss,rfl,q⟩:=q;obtain⟨a,xs,rfl,h1,h2⟩:=zai (p1.root R);have:=zcg h2;subst this;refine⟨a,_,rfl,h1,ρ,F1,R.ext p1.ext,he.mono ρ _ _ (λe ke q w F2 H2 p2=>?_) q⟩;obtain⟨y,rfl,q⟩:=q;exact⟨ss,y,p2.ext.same.seq h1,zaq (p2.root (R.ext p1.ext)),q _ F2 H2 ⟨p1.ext.trans p2.ext,by show Den _ _ _ _ _;simp only[Den]⟩⟩
theorem zol (ha:PuE X a ta)(hb:PuE X b tb)(hm:autoParam (behindInMarks .In b=false) aU2):PuE X (.Compare a [.In] [b] pos) (t2 (pInS false) ta tb):=zlw ziG zoj ha hb hm
theorem zhC (ha:PuE X a ta)(hb:PuE X b tb)(hm:autoParam (behindInMarks .NotIn b=false) aU2):PuT X (.Compare a [.NotIn] [b] pos) (tBl (t2 (pInS true) ta tb)):=zcy zfq zmF ha hb hm
theorem zjQ {x y:Str}{t:Tok}(hg:Gl X x)(hm:X.mg x=some (.str y t))(hd:autoParam ((x == ("__debug__" : Str))=false) aU1):PuE X (.Name x pos) (pC (.str y)):=
 zck (zcY (v:=.str y) hg hm ⟨t,rfl⟩ hd) λ_ _=>by simp only[Den]
end
section
variable {X:Cx}
noncomputable def zpa (K:PySem.W.Frag):List V->Hp->VK->Prop:=λxs H Q=>∃(a C:Addr)(bm:List Value)(p:Addr)(Ds:List Addr)(b:Bool),H a=some (ClsAt a (.ref C))/\ExcK K C bm/\xs=[.ref a,.ref p]/\H p=some (.tup (Ds.map V.ref))/\PySem.W.kitAny K (.ref C) (Ds.map Value.ref)=some b/\Q (.bl b) H
theorem zjR:zcq X (.builtin "isinstance") (zpa X.K):=by
 intro pins s σ H xs us Q I r h;obtain⟨a,C,bm,p,Ds,b,ha,FK,rfl,hp,e,q⟩:=h;obtain⟨hA,_⟩:=I.hok a _ ha;obtain⟨u,w',rfl,r1,r2⟩:=vals2 r;cases r1;cases r2;obtain⟨its,rv,⟨⟨cls,dd,data,sl⟩,ho,hc,n,hd⟩,hzz⟩:=I.tuple (SqT.of (K:=X.K) hp);simp only at hc hd;subst hc hd;have ei:its=Ds.map Value.ref:=by
  clear hp ho e hzz;induction Ds generalizing its with
  | nil=>cases rv;rfl
  | cons c cs ih=>
   cases rv with
   | cons q1 q2=>rw[show _=Value.ref c from q1,ih _ q2];rfl
 subst ei;exact PySem.W.kia_tup (zjI FK) I.kIn hA ho e (λz=>nomatch z) λtk=>⟨.bl b,H,I.tok tk,rfl,q⟩
end
end PL
namespace M61
open PySem PySem.Spec PL
open PyProof.Rows hiding St
noncomputable abbrev ABC:Str:="ABCDEFGHIJKLMNOPQRSTUVWXYZ"
noncomputable abbrev abcS:Str:="abcdefghijklmnopqrstuvwxyz"
noncomputable def zdm (x:Str):Prop:=1<=x.length/\x.length<=8/\∀s∈signs x,inS s abcS=true
noncomputable def zfh (x:Str):Prop:=x.length=1/\∀s∈signs x,inS s ABC=true
theorem signs_one {x:Str}(h:x.length=1):signs x=[x]:=by
 obtain⟨⟨l⟩⟩:=x
 match l,h with
 | [c],_=>rfl
theorem zeb {x:Str}:zfh x↔x.length=1/\inS x ABC=true:=by
 unfold zfh;constructor
 ·rintro⟨h,k⟩;exact⟨h,k x (by rw[signs_one h];exact List.mem_singleton.mpr rfl)⟩
 ·rintro⟨h,k⟩;refine⟨h,λs hs=>?_⟩;rw[signs_one h]at hs;rw[List.mem_singleton.mp hs];exact k
noncomputable def words (p:Str):List Str:=Txt.split p " "
noncomputable def pieces (x:Str):List Str:=Txt.split x ", "
noncomputable def nm (p:Str):Str:=(words p).headD Str.empty
noncomputable def lt (p:Str):List Str:=(words p).tail
theorem zcR (p:Str):words p=nm p::lt p:=by
 have h:=split_pos p " ";unfold nm lt;change 1<=(words p).length at h;cases e:words p with
 | nil=>rw[e]at h;exact absurd h (by decide)
 | cons a l=>rfl
theorem zec (p:Str):(words p).length<=p.length+2:=split_le p " "
theorem zeN (x:Str):(pieces x).length<=x.length+2:=split_le x ", "
theorem word_short {p w:Str}(h:w∈words p):w.length<=p.length:=part_short h
theorem zed {x p:Str}(h:p∈pieces x):p.length<=x.length:=part_short h
theorem zhD {p w:Str}(h:w∈lt p):w.length<=p.length:=word_short (by rw[zcR];exact List.mem_cons_of_mem _ h)
theorem zhE (p:Str):(nm p).length<=p.length:=word_short (by rw[zcR];exact List.mem_cons_self ..)
theorem zlG (p:Str):(lt p).length<=p.length+1:=by
 have:=zec p;rw[zcR,List.length_cons]at this;lia
structure zim (p:Str):Prop where
 name:zdm (nm p)
 lets:∀l∈lt p,zfh l
 pos:1<=(lt p).length
 le4:(lt p).length<=4
 nd:(lt p).Nodup
noncomputable def pt (p:Str):Str×List Str:=(nm p,lt p)
structure zgR (x:Str):Prop where
 pat:∀p∈pieces x,zim p
 few:(pieces x).length<=6
 kn:∀zs:List Str,zs.Nodup->(∀y,y∈zs↔∃p∈pieces x,y∈lt p)->zs.length<=6
theorem len_eq {xs ys:List Str}(h1:xs.Nodup)(h2:ys.Nodup)(h:∀y,y∈xs↔y∈ys):xs.length=ys.length:=
 ((List.perm_ext_iff_of_nodup h1 h2).mpr h).length_eq
theorem zhF {l:List Str}:l.Nodup↔∀x∈l,¬ (1<l.count x):=by
 constructor
 ·intro h x hx;have:=List.nodup_iff_count.mp h x;lia
 ·intro h;refine List.nodup_iff_count.mpr λx=>?_;by_cases hx:x∈l
  ·have:=h x hx;lia
  ·rw[List.count_eq_zero_of_not_mem hx];lia
noncomputable def que (x:Str):List (Str×List Str):=(pieces x).map pt
noncomputable def ld (ls:List Str):PV:=.tup (ls.map PV.str)
noncomputable def pd (p:Str×List Str):PV:=.tup [.str p.1,ld p.2]
noncomputable def qd (q:List (Str×List Str)):PV:=.lst (q.map pd)
noncomputable def shP (p:Str×List Str):Str:=Txt.join " " (p.1::p.2)
noncomputable def shQ (q:List (Str×List Str)):Str:=Txt.join ", " (q.map shP)
theorem zfi (sep:Str):∀ss:List Str,(Txt.join sep ss).length<=(ss.map (·.length)).sum+ss.length*sep.length:=by
 intro ss;have key:∀(ss:List Str) (acc:Array Nat),(ss.foldl (λacc p=>acc++sep.cps++p.cps) acc).size<=acc.size+(ss.map (·.length)).sum+ss.length*sep.length:=by
  intro ss;induction ss with
  | nil=>intro acc;simp
  | cons s r ih=>
   intro acc;rw[List.foldl_cons];refine Nat.le_trans (ih _) ?_;rw[Array.size_append,Array.size_append,List.map_cons,List.sum_cons,List.length_cons,Nat.succ_mul];show acc.size+sep.length+s.length+_+_<=_;lia
 cases ss with
 | nil=>exact Nat.zero_le _
 | cons s r=>
  have h:=key r s.cps;rw[List.map_cons,List.sum_cons,List.length_cons,Nat.succ_mul];refine Nat.le_trans h ?_;show s.length+_+_<=_;lia
theorem zhG (n:Nat):∀ss:List Str,(∀s∈ss,s.length<=n)->(ss.map (·.length)).sum<=ss.length*n
 | [],_=>by simp
 | s::r,h=>by
  rw[List.map_cons,List.sum_cons,List.length_cons,Nat.succ_mul];have h1:=h s (List.mem_cons_self ..);have h2:=zhG n r λx hx=>h x (List.mem_cons_of_mem _ hx);lia
structure zhH (p:Str×List Str):Prop where
 nm:p.1.length<=8
 few:p.2.length<=4
 one:∀l∈p.2,l.length<=1
structure zhI (q:List (Str×List Str)):Prop where
 few:q.length<=6
 pat:∀p∈q,zhH p
theorem zee {p:Str×List Str}(h:zhH p):((p.1::p.2).map (·.length)).sum<=12:=by
 have h1:=h.nm;have h2:=zhG 1 p.2 h.one;have h3:=h.few;rw[List.map_cons,List.sum_cons];lia
theorem zmH {p:Str×List Str}(h:zhH p):(shP p).length<=17:=by
 have h1:=zfi " " (p.1::p.2);have h2:=zee h;have h3:=h.few;have e:(" " : Str).length=1:=by decide +kernel
 rw[e,List.length_cons]at h1;unfold shP;lia
theorem zgS {q:List (Str×List Str)}(h:zhI q):((q.map shP).map (·.length)).sum<=102:=by
 have h1:=zhG 17 (q.map shP) λs hs=>by obtain⟨p,hp,rfl⟩:=List.mem_map.mp hs;exact zmH (h.pat p hp)
 rw[List.length_map]at h1;have:=h.few;lia
theorem zmI {q:List (Str×List Str)}(h:zhI q):(shQ q).length<=114:=by
 have h1:=zfi ", " (q.map shP);have h2:=zgS h;have e:(", " : Str).length=2:=by decide +kernel
 have:=h.few;rw[e,List.length_map]at h1;unfold shQ;lia
end M61
namespace K01
open PySem PySem.Spec PyProof.Rows
noncomputable def mix (c j:Int):Int:=
 if c % 2=1/\c / 2 ^ 27≠0 then(c / 2 ^ (1+20*j).toNat) % 1048576
 else(((c*(2*j+3)+j) % 2147483629*((c*(2*j+3)+j) % 2147483629)+1)*48271 % 2147483629)*(((c*(2*j+3)+j) % 2147483629*((c*(2*j+3)+j) % 2147483629)+1)*48271 % 2147483629) % 2147483587
theorem zbM (c j:Int):0<=mix c j:=by
 unfold mix;split
 ·exact Int.emod_nonneg _ (by decide)
 ·exact Int.emod_nonneg _ (by decide)
noncomputable def abc (n:Nat):Str:=⟨#[65+n]⟩
noncomputable def stepOf (i:Nat):Nat:=[1,3,5,7,9,11].getD i 1
noncomputable def zco (start step:Nat):List Str:=(List.range 6).map λk=>abc ((start+step*k) % 26)
end K01
namespace PL
open PySem PySem.Spec L2
open PyProof.Rows hiding St
theorem FnOk.or {P:Program}{w:World}{K:PySem.W.Frag}{mg:Str->Option Value}{base:Heap}{CX:CXT}{k:Nat}{f:Addr}{fd:FuncData}{ps:List Str}{sp1 sp2 sp:Sp}(G1:FnOk P w K mg base CX k f fd ps sp1)(G2:FnOk P w K mg base CX k f fd ps sp2)(h:∀vs H Q E,sp vs H Q E->sp1 vs H Q E\/sp2 vs H Q E):FnOk P w K mg base CX k f fd ps sp where
 len vs H Q E q:=(h vs H Q E q).elim (G1.len vs H Q E) (G2.len vs H Q E)
 run A outer s H args us vs Q E hr he hb hv q:=(h vs H Q E q).elim (G1.run A outer s H args us vs Q E hr he hb hv) (G2.run A outer s H args us vs Q E hr he hb hv)
section
variable {X:Cx}{k:Nat}{f:Addr}{fd:FuncData}{ps:List Str}{F:PFX}{x:Str}{p pos:Pos}{e:Expr}{es:List Expr}{t:TPA}
noncomputable def zom (F:PFX)(t:TPA)(z i j:Nat):TPS:=λρ O=>j<ρ.length/\i<ρ.length/\pSet z (zcP F t λ_=>False) ρ O
theorem zdf (m:zga F)(ha:PuA X.nox (e::es) t):∀Z Z' ρ Q Q',(∀c,Z c->Z' c)->(∀d k,Q d k->Q' d k)->zcP F t Z ρ Q->zcP F t Z' ρ Q':=λZ Z' ρ Q Q' z mm h=>ha.mono ρ _ _ (λops h=>⟨h.1,m _ _ _ _ _ mm z h.2⟩) h
theorem zkZ {L J:Addr}{bmJ:List Value}{jx en y zx:Str}{z i j:Nat}{np py pz pe pa pos' pos2 pos3:Pos}(G:FnOk X.prog X.w X.K X.mg X.base (CXJ X.prog X.w) k f fd ps (spPX X.K F))(m:zga F)(hex:X.ex=[])(hst:X.stack=X.env::X.outer)(hfm:X.env.frame=some L)(hr:Room k X.A)(hg:Gl X x)(hm:X.mg x=some (.ref f))(hk:PySem.W.keepIn X.K (.ref f)=true)(hb:Binds X.K fd ps [])
  (ha:PuA X.nox (e::es) t) (hN:X.N.Nodup) (hz:X.N[z]? = some zx) (hlz:X.env.scope.names.lookup zx=some .local) (hi:X.N[i]? = some y) (hly:X.env.scope.names.lookup y=some .local) (hj:X.N[j]? = some en) (hle:X.env.scope.names.lookup en=some .local) (hij:i≠j) (hgj:Gl X jx) (hmj:X.mg jx=some (.ref J)) (hJ:ExcC X.K J bmJ)
  (hdb:autoParam ((x == ("__debug__" : Str))=false) aU1) (hdj:autoParam ((jx == ("__debug__" : Str))=false) aU1) (hde:autoParam ((en == ("__debug__" : Str))=false) aU1) (hce:autoParam ((en == ("__classdict__" : Str))=false) aU1)
  (he:autoParam (starEach (e::es) X.env=(false,eval e X.env)::starEach es X.env) aU0) (hpl:autoParam ((backTo pos (starEach es X.env)).any (·.1)=false) aU0)
  (hs:autoParam (swapsWith (.Call (.Name x p) (e::es) [] pos) (some (.Name zx pz)) pos2.line X.env=pure false) aU0) (hs2:autoParam (swapsWith (.Name en pe) (some (.Name y py)) pa.line X.env=pure false) aU0) :
  PuS X (.Try [.Assign [.Name zx pz] (.Call (.Name x p) (e::es) [] pos) pos2] [.ExceptHandler (some (.Name jx np)) (some en) [.Assign [.Name y py] (.Name en pe) pa] pos'] [] [] pos3) (zom F t z i j) where
 mono ρ O O' mm h:=⟨h.1,h.2.1,zcQ (zdf m ha) _ _ ρ O O' (λ_ z=>z) mm h.2.2⟩
 run:=PS.weak (zjP (z:=z) (i:=i) (j:=j) G hex hst hfm hr hg hm hk hb ha.run hN hz hlz hi hly hj hle hij hgj hmj hJ hdb hdj hde hce he hpl hs hs2) λD σ H h=>by
  obtain⟨ρ,Fz,R,h1,h2,h⟩:=h;refine⟨by rw[<- R.len];exact h1,by rw[<- R.len];exact h2,λ_ _ _=>False,?_,λ_ _ _ z=>z.elim⟩;obtain⟨ρ,Fz,R,h⟩:=zdZ (E:=λ_ _ _=>False) (ee:=zcP F t) (i:=z) (zdf m ha) (D:=D) (σ:=σ) (H:=H) ⟨ρ,Fz,R,zcQ (i:=z) (zdf m ha) _ _ ρ _ _ (λ_ z=>z.elim) ⟨λ_ q=>q,λ_ _ q=>q,λ_ q=>q,λ_ q=>q⟩ h⟩;refine⟨ρ,Fz,R,ha.mono ρ _ _ (λops h vs Fz' H' x o=>?_) h⟩;obtain⟨hn,h⟩:=h;obtain⟨F2,x2,s2,h2⟩:=o.frozen x hn;exact⟨F2,ops.map (·.1),x2.al,h2,m _ _ _ _ _ (λd k q v Fz3 H3 p3=>q v Fz3 H3 (p3.behind x2)) (λC q H3 sm=>q F2 H3 (.of ⟨x2.same.trans sm,x2.sub,x2.new,λb hb z=>x2.al b hb (sm.free z)⟩)) h⟩
end
end PL
namespace Q61
open PySem PySem.Spec L2 PL M61
open PyProof.Rows hiding St
open K01 (mix zbM abc stepOf zco)
noncomputable def top (i:Nat):Stmt:=PySem.Challenge.pw_joinwood_k61_questions_as_texts.main.body.getD i (.Pass ⟨0,0,0,0⟩)
noncomputable abbrev zcu:Stmt:=top 8
noncomputable abbrev zaJ:Stmt:=top 9
noncomputable abbrev zdg:Stmt:=top 13
noncomputable abbrev zbo:Stmt:=top 14
noncomputable abbrev zaN:Stmt:=top 15
noncomputable abbrev zaA:Stmt:=top 16
noncomputable abbrev zav:Stmt:=top 17
noncomputable abbrev zaj:Stmt:=top 18
noncomputable abbrev zaz:Stmt:=top 19
noncomputable abbrev zar:Stmt:=top 20
noncomputable abbrev sMix:Stmt:=top 22
noncomputable abbrev zbb:Stmt:=top 23
noncomputable abbrev zet:Stmt:=top 24
noncomputable abbrev zaW:Stmt:=top 25
noncomputable abbrev zcv:Stmt:=top 26
noncomputable abbrev sOdd:Stmt:=top 27
noncomputable abbrev zbp:Stmt:=top 28
noncomputable abbrev zbg:Stmt:=top 29
noncomputable abbrev zef:Stmt:=top 30
noncomputable abbrev zbY:Stmt:=top 31
noncomputable abbrev sLaw:Stmt:=top 32
noncomputable def fMix:PF:=λds Q=>∃c j:Int,ds=[.int c,.int j]/\0<=j/\j<=1000/\Q (.int (mix c j)) .frz
open Lean in
def puM:MacroM (TSyntax `tactic):=do
 let es<-("fMix zdD zio zgV zhA pInS zjM zgb zdl zcP zkU zdC zea zcU zbS zaH zdE zhK zcp M61.pd M61.ld M61.qd zbB fOdd zfl zom zcS zgp zbq zdF zhM".splitOn " ").filterM λn=>return !(<-Macro.resolveGlobalName n.toName).isEmpty;let ls<-("pSeq zdX zes zbH pSet pRet pIf zdN zcs mApp zen zcr zeo zbJ zdO zbW zdP t2 i0 i2 pVar pC zem pNil pTup pLst noOwn isOwn tBl blP zds tOrP zel tTru zdc TruP pEq pIsN pIx ixV pCat PL.tB fLen LenP zdS zbX fIsi zcc zba zep pSlL zeq zer zdd zbF iLst zbA fAll pSlS zct pFor PL.plain zaT zbK blkP List.map_cons List.map_nil List.length_cons List.length_nil List.cons_append List.nil_append List.replicate List.getElem?_cons_zero List.getElem?_cons_succ List.getElem?_nil Option.getD_some Option.getD_none List.set_cons_zero List.set_cons_succ List.cons.injEq Option.some.injEq Prod.mk.injEq PV.int.injEq PV.bl.injEq PV.str.injEq PV.lst.injEq PV.tup.injEq PV.ty.injEq PV.dK.injEq exists_eq_left' exists_eq_left exists_eq' exists_eq exists_and_left exists_and_right exists_eq_right true_and and_true reduceCtorEq false_and and_false false_or or_false exists_false exists_const Bool.false_eq_true if_true if_false and_assoc ite_true ite_false Bool.not_eq_true' decide_eq_true_eq decide_eq_false_iff_not Bool.not_false Bool.not_true true_or or_true not_true_eq_false not_false_eq_true Bool.and_eq_true Nat.zero_add Nat.sub_self Nat.reduceAdd Nat.reduceSub implies_true ne_eq zbV zaK Bool.true_and Bool.and_true List.all_nil".splitOn " "++es).toArray.mapM λn=>`(Lean.Parser.Tactic.simpLemma|$(mkIdent n.toName):term)
 `(tactic|first|(dsimp only[$ls,*];try simp only[$ls,*])|simp only[$ls,*])
local macro_rules | `(tactic| walk_at "pu")=>puM
local macro_rules | `(tactic| walk_at "go")=>`(tactic| ((first | (with_reducible refine hold ?_) | (with_reducible refine holdT ?_) | (with_reducible refine holdB ?_));walk_at "pu"))
local macro_rules | `(tactic| walk_at "side")=>`(tactic| first | assumption | decide | lia | exact⟨by decide,by decide⟩ | exact⟨by decide,by decide,by decide⟩ | exact Or.inl ⟨by lia,by lia⟩ | exact Or.inr ⟨by lia,by lia⟩)
local macro_rules | `(tactic| walk_at "auto")=>`(tactic| repeat (first | ((with_reducible refine hold ?_);walk_at "pu") | ((with_reducible refine holdT ?_);walk_at "pu") | ((with_reducible refine And.intro ?_ ?_);(· walk_at "side"))))
theorem zaX:zbE fMix:=λds Q Q' m q122q=>by obtain⟨c,j,e,h1,h2,q⟩:=q122q;exact⟨c,j,e,h1,h2,m _ _ q⟩
section
variable {P:Program}{w:World}{K:PySem.W.Frag}{mg:Str->Option Value}{base:Heap}
theorem zon:zas ["_law_cell","_law_j","_law_number"] ["_law_cell","_law_j"] (zac sMix):=⟨rfl,rfl,rfl,by decide +kernel,rfl,by decide +kernel,by decide +kernel⟩
theorem zgc {f:Addr}{fd:FuncData}(F:Fun K "_law_mix" "_law_mix" sMix f fd):FnOk P w K mg base CX0 1 f fd ["_law_cell","_law_j"] (spP K fMix):=by
 refine zaL F zon (λds Q q123q=>by obtain⟨c,j,e,_⟩:=q123q;rw[e];rfl) (λcdv A outer s H E hr=>?_);have hu:(A.deeper (envOfC "_law_mix" (zac sMix) s.heap.objs.size f cdv)).units+16<cLine:=by have q:=hr.units;lia
 have nd:=zon.nd;refine⟨_,(zae (zbv (PuW.t (zml (zfT hu (zbd (zab 0) zaf) zaf) (zkB (zeF hu (zlx (zab 0) zaf) zaf)))) (zag (zah (zbd (zlx (zab 0) (zbt zaf (zcL zaf (zab 1)))) zaf))) zaB)
   (zae (zal (i:=2) nd rfl (Or.inl rfl) (zbd (zbt (zcL (zab 0) (zbt (zcL zaf (zab 1)) zaf)) (zab 1)) zaf))
   (zae (zal (i:=2) nd rfl (Or.inl rfl) (zbd (zcL (zbt (zcL (zab 2) (zab 2)) zaf) zaf) zaf))
   (zag (zah (zbd (zcL (zab 2) (zab 2)) zaf)))))),λds Q h=>?_⟩
 obtain⟨c,j,rfl,h0,h1,q⟩:=h;have n1:=Int.emod_nonneg (c*(2*j+3)+j) (show(2147483629:Int)≠0 by decide);have n2:=Int.emod_lt_of_pos (c*(2*j+3)+j) (show(0:Int)<2147483629 by decide);have b2:∀z:Int,CMul (z % 2147483629) (z % 2147483629):=λz=>.inl ⟨by lia,by lia⟩;have els:¬ (c % 2=1/\c / 2 ^ 27≠0)->Q (.int ((((c*(2*j+3)+j) % 2147483629*((c*(2*j+3)+j) % 2147483629)+1)*48271 % 2147483629)*(((c*(2*j+3)+j) % 2147483629*((c*(2*j+3)+j) % 2147483629)+1)*48271 % 2147483629) % 2147483587)) .frz:=λhn=>by
  unfold mix at q;rw[if_neg hn]at q;exact q
 walk_at "pu";refine⟨by decide,ite2 (λe1=>⟨by decide,ite2 (λe2=>?a) (λe2=>?b)⟩) (λe1=>?c)⟩
 case a=>
  walk_at "auto";unfold mix at q;rw[if_pos ⟨e1,e2⟩]at q;exact q
 case b=>
  walk_at "auto";exact els λz=>e2 z.2
 case c=>
  walk_at "auto";exact els λz=>e1 z.1
theorem take_snoc {α:Type}{l:List α}{i:Nat}{o:α}(h:l[i]? = some o):l.take i++[o]=l.take (i+1):=by rw[List.take_add_one,h];rfl
noncomputable def zbc (c:Int):List Str:=zco (mix c 1 % 26).toNat (stepOf (mix c 2 % 6).toNat)
theorem zdn (c:Int):(zbc c).length=6:=by simp[zbc,zco]
theorem zgd (c:Int):∀l∈zbc c,l.length<=1:=λl hl=>by
 unfold zbc zco at hl;obtain⟨k,_,rfl⟩:=List.mem_map.mp hl;exact Nat.le_refl _
theorem zoo:∀n:Nat,n<26->ABC.cps.toList[n]? = some (65+n):=by decide +kernel
theorem zmJ:ABC.length=26:=by decide +kernel
theorem zmK:∀n:Nat,n<26->abcS.cps.toList[n]? = some (97+n):=by decide +kernel
theorem zla:abcS.length=26:=by decide +kernel
theorem zlb:∀n:Nat,n<6->atI [PV.int 1,PV.int 3,PV.int 5,PV.int 7,PV.int 9,PV.int 11] (n:Int)=some (PV.int (stepOf n)):=λn h=>zaQ (by
 match n,h with
 | 0,_=>rfl
 | 1,_=>rfl
 | 2,_=>rfl
 | 3,_=>rfl
 | 4,_=>rfl
 | 5,_=>rfl)
noncomputable def zdD:PF:=λds Q=>∃c:Int,ds=[.int c]/\Q (.lst ((zbc c).map PV.str)) .new
theorem zge:zbE zdD:=λds Q Q' m q124q=>by obtain⟨c,e,q⟩:=q124q;exact⟨c,e,m _ _ q⟩
theorem zgf:zas ["_law_cell","_law_letters_here","_law_start","_law_step"] ["_law_cell"] (zac zbb):=⟨rfl,rfl,rfl,by decide +kernel,rfl,by decide +kernel,by decide +kernel⟩
theorem zin {f fM:Addr}{fd fdM:FuncData}(F:Fun K "_law_letters" "_law_letters" zbb f fd) (Mix:Fx K mg "_law_mix" sMix ["_law_cell","_law_j"] fM fdM) (B:Bl mg):FnOk P w K mg base CX0 2 f fd ["_law_cell"] (spP K zdD):=by
 have GMix:FnOk P w K mg base CX0 1 fM fdM ["_law_cell","_law_j"] (spP K fMix):=zgc Mix.fn;refine zaL F zgf (λds Q q125q=>by obtain⟨c,e,_⟩:=q125q;rw[e];rfl) (λcdv A outer s H E hr=>?_);have hu:(A.deeper (envOfC "_law_letters" (zac zbb) s.heap.objs.size f cdv)).units+16<cLine:=by have q:=hr.units;lia
 have nd:=zgf.nd;refine⟨_,(zae (zal (i:=1) nd rfl (Or.inr rfl) zak)
   (zae (zal (i:=2) nd rfl (Or.inr rfl) (zbd (zao GMix zaX hr rfl Mix.mg Mix.fn.kp Mix.bd (zaa (zab 0) (zaa zaf zad))) zaf))
   (zae (zal (i:=3) nd rfl (Or.inr rfl) (zaU (zbi (zaa zaf (zaa zaf (zaa zaf (zaa zaf (zaa zaf (zaa zaf zad))))))) (zbd (zao GMix zaX hr rfl Mix.mg Mix.fn.kp Mix.bd (zaa (zab 0) (zaa zaf zad))) zaf)))
   (zag (zah (zcB (N:=["_law_k","_law_letters_here","_law_start","_law_step"]) (k:=1) (js:=[1,2,3]) rfl (zeX (sup:=zac zbb) (XN:=["_law_cell","_law_letters_here","_law_start","_law_step"]) rfl rfl (by decide +kernel)) (by decide) (zbz (by decide)) (zcm rfl B.range (zaa zaf zad)) ⟨λ_ _ _ _ _=>(zay (i:=0) (by show(["_law_k","_law_letters_here","_law_start","_law_step"]:List Str).Nodup;decide +kernel) rfl (Or.inl rfl)),λ_ _ _ _ _=>zbP,λ_ _ _ _ _=>(zaU (zab 1) (zbd (zbt (zab 2) (zcL (zab 3) (zab 0))) zaf))⟩)))))),λds Q h=>?_⟩
 obtain⟨c,rfl,q⟩:=h;have m1:=zbM c 1;have m2:=zbM c 2;have e1:mix c 1 % 26=((mix c 1 % 26).toNat:Int):=by lia
 have e2:mix c 2 % 6=((mix c 2 % 6).toNat:Int):=by lia
 walk_at "pu";walk_at "auto";refine⟨_,by rw[e2];exact zlb _ (by lia),?_⟩;walk_at "go";have hl:(rngP 0 (Int.toNat 6)).length=6:=zcl 0 6;refine⟨by decide,by decide,by rw[hl];decide,λi out=>out=((zbc c).map PV.str).take i,rfl,?_,?_⟩
 ·rintro i d out hd-rfl;obtain⟨hi,rfl⟩:=zcM hd;have hi6:i<6:=hi;have n0:((mix c 1 % 26)+(stepOf (mix c 2 % 6).toNat:Int)*(0+(i:Int))) % 26=((((mix c 1 % 26).toNat+stepOf (mix c 2 % 6).toNat*i) % 26:Nat):Int):=by
   rw[Int.zero_add,e1];lia
  refine⟨_,rfl,.inr ⟨by lia,by lia⟩,by decide,by rw[zmJ];decide,_,⟨65+((mix c 1 % 26).toNat+stepOf (mix c 2 % 6).toNat*i) % 26,by rw[n0];exact zaQ (zoo _ (Nat.mod_lt _ (by decide))),rfl⟩,take_snoc ?_⟩;unfold zbc zco;simp[List.getElem?_range hi6,abc]
 ·rintro out-rfl;rw[hl,List.take_of_length_le (by rw[List.length_map,zdn];exact Nat.le_refl _)];exact q
end
noncomputable def sizeOf (n:Nat):Nat:=if n=0 then 1 else n
theorem zlc:∀n:Nat,n<9->atI [PV.int 1,PV.int 1,PV.int 2,PV.int 3,PV.int 4,PV.int 5,PV.int 6,PV.int 7,PV.int 8] (n:Int)=some (PV.int (sizeOf n)):=λn h=>zaQ (by
 match n,h with
 | 0,_=>rfl
 | 1,_=>rfl
 | 2,_=>rfl
 | 3,_=>rfl
 | 4,_=>rfl
 | 5,_=>rfl
 | 6,_=>rfl
 | 7,_=>rfl
 | 8,_=>rfl)
noncomputable def sgn (c far:Int)(k:Nat):Str:=⟨#[97+(mix c (far+1+(0+(k:Int))) % 26).toNat]⟩
noncomputable def zdu (c far:Int):List Str:=(List.range (sizeOf (mix c far % 9).toNat)).map (sgn c far)
noncomputable def zld (c far:Int):Str:=Txt.join "" (zdu c far)
theorem zgg (c far:Int):(zdu c far).length<=8:=by
 unfold zdu sizeOf;rw[List.length_map,List.length_range];split<;>lia
theorem zgh (c far:Int):((zdu c far).map (·.length)).sum<=8:=by
 have h:=zhG 1 (zdu c far) λs hs=>by unfold zdu at hs;obtain⟨k,_,rfl⟩:=List.mem_map.mp hs;exact Nat.le_refl _
 have:=zgg c far;lia
theorem zjS (c far:Int):(zld c far).length<=8:=by
 have h:=zfi "" (zdu c far);have e:("" : Str).length=0:=rfl;rw[e,Nat.mul_zero]at h;exact Nat.le_trans h (zgh c far)
noncomputable def zio:PF:=λds Q=>∃c far:Int,ds=[.int c,.int far]/\0<=far/\far<=900/\Q (.str (zld c far)) .frz
theorem zjT:zbE zio:=λds Q Q' m q126q=>by obtain⟨c,far,e,h1,h2,q⟩:=q126q;exact⟨c,far,e,h1,h2,m _ _ q⟩
noncomputable def zbR (c:Int)(i:Nat):Nat->List Str×List Str
 | 0=>(zbc c,[])
 | k+1=>((zbR c i k).1.eraseIdx (mix c (11+4*(0+(i:Int))+(0+(k:Int))) % ((zbR c i k).1.length:Int)).toNat,(zbR c i k).2++[(zbR c i k).1.getD (mix c (11+4*(0+(i:Int))+(0+(k:Int))) % ((zbR c i k).1.length:Int)).toNat Str.empty])
noncomputable def patI (c:Int)(i:Nat):Str×List Str:=(zld c (40+10*(0+(i:Int))),(zbR c i (1+mix c (4+(0+(i:Int))) % 4).toNat).2)
noncomputable def zjU (n:Nat):Nat:=if n=0 then 1 else if n=5 then 6 else n
theorem zmL:∀n:Nat,n<6->atI [PV.int 1,PV.int 1,PV.int 2,PV.int 3,PV.int 4,PV.int 6] (n:Int)=some (PV.int (zjU n)):=λn h=>zaQ (by
 match n,h with
 | 0,_=>rfl
 | 1,_=>rfl
 | 2,_=>rfl
 | 3,_=>rfl
 | 4,_=>rfl
 | 5,_=>rfl)
theorem zle (n:Nat)(h:n<6):zjU n<=6:=by unfold zjU;split<;>(try split)<;>lia
noncomputable def queI (c:Int):List (Str×List Str):=(List.range (zjU (mix c 3 % 6).toNat)).map (patI c)
theorem zgT (c:Int)(i:Nat):∀k,k<=4->(zbR c i k).1.length+k=6/\(zbR c i k).2.length=k/\(∀l∈(zbR c i k).1,l.length<=1)/\∀l∈(zbR c i k).2,l.length<=1
 | 0,_=>⟨zdn c,rfl,zgd c,λl hl=>nomatch hl⟩
 | k+1,h=>by
  obtain⟨h1,h2,h3,h4⟩:=zgT c i k (by lia);have hpos:(0:Int)<((zbR c i k).1.length:Int):=by lia
  have b1:=Int.emod_nonneg (mix c (11+4*(0+(i:Int))+(0+(k:Int)))) (Int.ne_of_gt hpos);have b2:=Int.emod_lt_of_pos (mix c (11+4*(0+(i:Int))+(0+(k:Int)))) hpos;have hk:(mix c (11+4*(0+(i:Int))+(0+(k:Int))) % ((zbR c i k).1.length:Int)).toNat<(zbR c i k).1.length:=by lia
  refine⟨?_,?_,λl hl=>h3 l (List.mem_of_mem_eraseIdx hl),λl hl=>?_⟩
  ·show(List.eraseIdx _ _).length+(k+1)=6;rw[List.length_eraseIdx_of_lt hk];lia
  ·show(_++[_]).length=k+1;rw[List.length_append,h2];rfl
  ·rcases List.mem_append.mp hl with hl | hl
   ·exact h4 l hl
   ·rw[List.mem_singleton.mp hl,List.getD_eq_getElem?_getD,List.getElem?_eq_getElem hk];exact h3 _ (List.getElem_mem hk)
theorem zeO (c:Int):zhI (queI c):=by
 refine⟨?_,λp hp=>?_⟩
 ·unfold queI;rw[List.length_map,List.length_range];exact zle _ (by lia)
 ·obtain⟨i,_,rfl⟩:=List.mem_map.mp hp;obtain⟨h1,h2,h3,h4⟩:=zgT c i (1+mix c (4+(0+(i:Int))) % 4).toNat (by lia);exact⟨zjS _ _,by show List.length _<=4;rw[patI,h2];lia,h4⟩
noncomputable def zcS:PF:=λds Q=>∃c:Int,ds=[.int c]/\Q (qd (queI c)) .new
theorem zcT:zbE zcS:=λds Q Q' m q127q=>by obtain⟨c,e,q⟩:=q127q;exact⟨c,e,m _ _ q⟩
theorem zgi {α β:Type}(f:α->β):∀(l:List α)(i:Nat),(l.map f).eraseIdx i=(l.eraseIdx i).map f
 | [],_=>rfl
 | _::_,0=>rfl
 | x::r,i+1=>by rw[List.map_cons,List.eraseIdx_cons_succ,List.eraseIdx_cons_succ,List.map_cons,zgi f r i]
section
variable {P:Program}{w:World}{K:PySem.W.Frag}{mg:Str->Option Value}{base:Heap}
theorem zlH:zas ["_law_cell","_law_far","_law_letters_here","_law_size"] ["_law_cell","_law_far"] (zac zet):=⟨rfl,rfl,rfl,by decide +kernel,rfl,by decide +kernel,by decide +kernel⟩
theorem zmM {f fM:Addr}{fd fdM:FuncData}(F:Fun K "_law_name" "_law_name" zet f fd) (Mix:Fx K mg "_law_mix" sMix ["_law_cell","_law_j"] fM fdM) (B:Bl mg):FnOk P w K mg base CX0 2 f fd ["_law_cell","_law_far"] (spP K zio):=by
 have GMix:FnOk P w K mg base CX0 1 fM fdM ["_law_cell","_law_j"] (spP K fMix):=zgc Mix.fn;refine zaL F zlH (λds Q q128q=>by obtain⟨c,d,e,_⟩:=q128q;rw[e];rfl) (λcdv A outer s H E hr=>?_);have hu:(A.deeper (envOfC "_law_name" (zac zet) s.heap.objs.size f cdv)).units+16<cLine:=by have q:=hr.units;lia
 have nd:=zlH.nd;refine⟨_,(zae (zal (i:=2) nd rfl (Or.inr rfl) zak)
   (zae (zal (i:=3) nd rfl (Or.inl rfl) (zaU (zbi (zaa zaf (zaa zaf (zaa zaf (zaa zaf (zaa zaf (zaa zaf (zaa zaf (zaa zaf (zaa zaf zad)))))))))) (zbd (zao GMix zaX hr rfl Mix.mg Mix.fn.kp Mix.bd (zaa (zab 0) (zaa (zab 1) zad))) zaf)))
   (zag (zah (zdU (zcB (N:=["_law_k","_law_cell","_law_far","_law_letters_here"]) (k:=1) (js:=[0,1,2]) rfl (zeX (sup:=zac zet) (XN:=["_law_cell","_law_far","_law_letters_here","_law_size"]) rfl rfl (by decide +kernel)) (by decide) (zbz (by decide)) (zcm rfl B.range (zaa (zab 3) zad)) ⟨λ_ _ _ _ _=>(zay (i:=0) (by show(["_law_k","_law_cell","_law_far","_law_letters_here"]:List Str).Nodup;decide +kernel) rfl (Or.inl rfl)),λ_ _ _ _ _=>zbP,λ_ _ _ _ _=>(zaU (zab 3) (zbd (zao GMix zaX hr rfl Mix.mg Mix.fn.kp Mix.bd (zaa (zab 1) (zaa (zbt (zbt (zab 2) zaf) (zab 0)) zad))) zaf))⟩)))))),λds Q h=>?_⟩
 obtain⟨c,far,rfl,h0,h9,q⟩:=h;have m3:=zbM c far;have e2:mix c far % 9=((mix c far % 9).toNat:Int):=by lia
 have hsz:=sizeLine_eq;have hn8:=zgg c far;have hs8:=zgh c far;walk_at "pu";walk_at "auto";refine⟨_,by rw[e2];exact zlc _ (by lia),?_⟩;walk_at "go";have hl:(rngP 0 (sizeOf (mix c far % 9).toNat)).length=sizeOf (mix c far % 9).toNat:=zcl 0 _;have hl2:(zdu c far).length=sizeOf (mix c far % 9).toNat:=by unfold zdu;rw[List.length_map,List.length_range]
 refine⟨by lia,by lia,by rw[Int.toNat_natCast,hl];lia,λi out=>out=((zdu c far).map PV.str).take i,rfl,?_,?_⟩
 ·rintro i d out hd-rfl;obtain⟨hi,rfl⟩:=zcM hd;rw[Int.toNat_natCast]at hi;have mm:=zbM c (far+1+(0+(i:Int)));have e1:mix c (far+1+(0+(i:Int))) % 26=((mix c (far+1+(0+(i:Int))) % 26).toNat:Int):=by lia
  refine⟨_,rfl,by lia,by lia,by decide,by rw[zla];decide,_,⟨97+(mix c (far+1+(0+(i:Int))) % 26).toNat,by rw[e1];exact zaQ (zmK _ (by lia)),rfl⟩,take_snoc ?_⟩;unfold zdu;rw[List.getElem?_map,List.getElem?_map,List.getElem?_range (by lia)];rfl
 ·rintro out-rfl;rw[Int.toNat_natCast,hl,List.take_of_length_le (by rw[List.length_map];lia)];exact⟨zdu c far,rfl,by show _+_*0<=_;lia,q⟩
theorem zeP:zas ["_law_cell","_law_letters_here","_law_found","_law_i","_law_some","_law_pattern","_law_k"] ["_law_cell"] (zac zaW):=⟨rfl,rfl,rfl,by decide +kernel,rfl,by decide +kernel,by decide +kernel⟩
theorem zgU {f fM fL fN:Addr}{fd fdM fdL fdN:FuncData}(F:Fun K "_law_question" "_law_question" zaW f fd) (Mix:Fx K mg "_law_mix" sMix ["_law_cell","_law_j"] fM fdM) (Letters:Fx K mg "_law_letters" zbb ["_law_cell"] fL fdL) (Name:Fx K mg "_law_name" zet ["_law_cell","_law_far"] fN fdN) (B:Bl mg) :
  FnOk P w K mg base CX0 3 f fd ["_law_cell"] (spP K zcS):=by
 have GMix:FnOk P w K mg base CX0 2 fM fdM ["_law_cell","_law_j"] (spP K fMix):=(zgc Mix.fn).mono (by decide);have GLetters:FnOk P w K mg base CX0 2 fL fdL ["_law_cell"] (spP K zdD):=zin Letters.fn Mix B;have GName:FnOk P w K mg base CX0 2 fN fdN ["_law_cell","_law_far"] (spP K zio):=zmM Name.fn Mix B;refine zaL F zeP (λds Q q129q=>by obtain⟨c,e,_⟩:=q129q;rw[e];rfl) (λcdv A outer s H E hr=>?_);have hu:(A.deeper (envOfC "_law_question" (zac zaW) s.heap.objs.size f cdv)).units+16<cLine:=by have q:=hr.units;lia
 have nd:=zeP.nd;refine⟨_,(zae (zal (i:=1) nd rfl (Or.inl rfl) (zao GLetters zge hr rfl Letters.mg Letters.fn.kp Letters.bd (zaa (zab 0) zad)))
   (zae (zal (i:=2) nd rfl (Or.inl rfl) (zbi zad))
   (zae (zcA rfl PassesOwn.never (zcm rfl B.range (zaa (zaU (zbi (zaa zaf (zaa zaf (zaa zaf (zaa zaf (zaa zaf (zaa zaf zad))))))) (zbd (zao GMix zaX hr rfl Mix.mg Mix.fn.kp Mix.bd (zaa (zab 0) (zaa zaf zad))) zaf)) zad)) (zay (i:=3) nd rfl (Or.inl rfl)) (zae (zal (i:=4) nd rfl (Or.inl rfl) (zgJ rfl B.list (zaa (zab 1) zad)))
   (zae (zal (i:=5) nd rfl (Or.inl rfl) (zbi zad))
   (zae (zcA rfl PassesOwn.never (zcm rfl B.range (zaa (zbt zaf (zbd (zao GMix zaX hr rfl Mix.mg Mix.fn.kp Mix.bd (zaa (zab 0) (zaa (zbt zaf (zab 3)) zad))) zaf)) zad)) (zay (i:=6) nd rfl (Or.inl rfl)) (zag (zcN (zgI 5 (zjs 4 (zbd (zao GMix zaX hr rfl Mix.mg Mix.fn.kp Mix.bd (zaa (zab 0) (zaa (zbt (zbt zaf (zcL zaf (zab 3))) (zab 6)) zad))) (zbw rfl B.len (zaa (zab 4) zad))))))))
   (zag (zcN (zeE 2 (zfN (zaa (zao GName zjT hr rfl Name.mg Name.fn.kp Name.bd (zaa (zab 0) (zaa (zbt zaf (zcL zaf (zab 3))) zad))) (zaa (zfe rfl B.tuple (zaa (zab 5) zad)) zad))))))))))
   (zag (zah (zab 2)))))),λds Q h=>?_⟩
 obtain⟨c,rfl,q⟩:=h;have hsz:=sizeLine_eq;have m3:=zbM c 3;have e2:mix c 3 % 6=((mix c 3 % 6).toNat:Int):=by lia
 have hq6:=(zeO c).few;walk_at "pu";walk_at "auto";refine⟨_,by rw[e2];exact zmL _ (by lia),?_⟩;have hql:(queI c).length=zjU (mix c 3 % 6).toNat:=by unfold queI;rw[List.length_map,List.length_range]
 obtain⟨Iv,hIv⟩:∃Iv:Nat->PEnv->Prop,∀i ρ,Iv i ρ↔∃k3 k4 k5 k6,ρ=[some (PV.int c,false),some (PV.lst ((zbc c).map PV.str),true),some (PV.lst (((queI c).take i).map pd),true),k3,k4,k5,k6]:=⟨_,λ_ _=>Iff.rfl⟩;walk_at "auto";refine⟨_,rfl,by lia,by lia,Iv,(hIv _ _).mpr ⟨none,none,none,none,rfl⟩,?_,?_⟩
 ·intro i d ρ hd hI;obtain⟨k3,k4,k5,k6,rfl⟩:=(hIv _ _).mp hI;obtain⟨hi,rfl⟩:=zcM hd;rw[Int.toNat_natCast]at hi;have m4:=zbM c (4+(0+(i:Int)));walk_at "go";walk_at "auto";generalize hn:(1+mix c (4+(0+(i:Int))) % 4).toNat=n;have hn4:n<=4:=by lia
  obtain⟨Jv,hJv⟩:∃Jv:Nat->PEnv->Prop,∀j ρ,Jv j ρ↔∃k6,ρ=[some (PV.int c,false),some (PV.lst ((zbc c).map PV.str),true),some (PV.lst (((queI c).take i).map pd),true),some (PV.int (0+(i:Int)),false),some (PV.lst ((zbR c i j).1.map PV.str),true),some (PV.lst ((zbR c i j).2.map PV.str),true),k6]:=⟨_,λ_ _=>Iff.rfl⟩;refine⟨Jv,(hJv _ _).mpr ⟨k6,rfl⟩,?_,?_⟩
  ·intro j d ρ hd hJ;obtain⟨k6,rfl⟩:=(hJv _ _).mp hJ;obtain⟨hj,rfl⟩:=zcM hd;obtain⟨l1,l2,_,_⟩:=zgT c i j (by lia);have hpos:(0:Int)<((zbR c i j).1.length:Int):=by lia
   have b1:=Int.emod_nonneg (mix c (11+4*(0+(i:Int))+(0+(j:Int)))) (Int.ne_of_gt hpos);have b2:=Int.emod_lt_of_pos (mix c (11+4*(0+(i:Int))+(0+(j:Int)))) hpos;have hk:(mix c (11+4*(0+(i:Int))+(0+(j:Int))) % ((zbR c i j).1.length:Int)).toNat<(zbR c i j).1.length:=by lia
   walk_at "go";rw[List.length_map];refine⟨.inr ⟨by lia,by lia⟩,by lia,by lia,hpos,by lia,by lia,_,seqIndex_of b1 b2,_,by rw[List.getElem?_map,List.getElem?_eq_getElem hk];rfl,by rw[List.length_map,sizeLine_eq];lia,(hJv _ _).mpr ⟨some (PV.int (0+(j:Int)),false),?_⟩⟩;show _=[_,_,_,_,some (PV.lst ((List.eraseIdx _ _).map PV.str),true),some (PV.lst ((_++[_]).map PV.str),true),_];rw[zgi,List.map_append,List.getD_eq_getElem?_getD,List.getElem?_eq_getElem hk];rfl
  ·intro ρ hJ;rw[zcl]at hJ;obtain⟨k6,rfl⟩:=(hJv _ _).mp hJ;walk_at "go";have hqi:(queI c)[i]? = some (patI c i):=by
    unfold queI;rw[List.getElem?_map,List.getElem?_range hi];rfl
   have e:List.map pd (List.take i (queI c))++[PV.tup [PV.str (zld c (40+10*(0+(i:Int)))),PV.tup (List.map PV.str (zbR c i n).snd)]]=((queI c).take (i+1)).map pd:=by
    rw[List.take_add_one,hqi,List.map_append,<- hn];rfl
   refine⟨by rw[List.length_map,List.length_take];lia,.inr ⟨by lia,by lia⟩,by lia,by lia,by lia,?_⟩;rw[e];exact(hIv _ _).mpr ⟨_,_,_,_,rfl⟩
 ·intro ρ hI;rw[Int.toNat_natCast,zcl,<- hql]at hI;obtain⟨k3,k4,k5,k6,rfl⟩:=(hIv _ _).mp hI;rw[List.take_of_length_le (Nat.le_refl _)];walk_at "go";exact q
end
structure Gs (K:PySem.W.Frag)(mg:Str->Option Value)(NX:Addr)(bm:List Value):Prop where
 nx:mg "NoText" = some (.ref NX)
 ex:ExcC K NX bm
 small:∃t,mg "SMALL" = some (.str abcS t)
 great:∃t,mg "GREAT" = some (.str ABC t)
noncomputable def zjV (x y:Str):Bool:=(signs x).all λs=>inS s y
noncomputable def zgV:PF:=λds Q=>∃x y:Str,ds=[.str x,.str y]/\x.length<=1000/\Q (.bl (zjV x y)) .frz
theorem zgj:zbE zgV:=λds Q Q' m q130q=>by obtain⟨a,b,e,h1,q⟩:=q130q;exact⟨a,b,e,h1,m _ _ q⟩
noncomputable def zdE (NX:Addr):PFX:=λds Q Z=>∃d mk,ds=[d,.str mk]/\mk.length≠0/\((∃x:Str,d=.str x/\x.length<=1000/\Q (.lst ((Txt.split x mk).map PV.str)) .new)\/((d=.non\/d=.int 7\/∃ds,d=.lst ds)/\Z NX))
theorem zgk (NX:Addr):zga (zdE NX):=λds Q Q' Z Z' m z q131q=>by obtain⟨d,mk,e,h1,h⟩:=q131q;exact⟨d,mk,e,h1,h.imp (λ q132q=>by obtain⟨x,e,h2,q⟩:=q132q;exact⟨x,e,h2,m _ _ q⟩) λ q133q=>by obtain⟨h,q⟩:=q133q;exact⟨h,z _ q⟩⟩
noncomputable def zcU (NX:Addr):PFX:=λds Q Z=>∃x:Str,ds=[.str x]/\x.length<=1000/\(zdm x->Q (.str x) .frz)/\(¬ zdm x->Z NX)
theorem zfj (NX:Addr):zga (zcU NX):=λds Q Q' Z Z' m z q134q=>by obtain⟨x,e,h1,h2,h3⟩:=q134q;exact⟨x,e,h1,λh=>m _ _ (h2 h),λh=>z _ (h3 h)⟩
noncomputable def zbS (NX:Addr):PFX:=λds Q Z=>∃x:Str,ds=[.str x]/\x.length<=1000/\(zfh x->Q (.str x) .frz)/\(¬ zfh x->Z NX)
theorem zeg (NX:Addr):zga (zbS NX):=λds Q Q' Z Z' m z q135q=>by obtain⟨x,e,h1,h2,h3⟩:=q135q;exact⟨x,e,h1,λh=>m _ _ (h2 h),λh=>z _ (h3 h)⟩
noncomputable def zaH (NX:Addr):PFX:=λds Q Z=>∃x:Str,ds=[.str x]/\x.length<=1000/\(zim x->Q (pd (pt x)) .frz)/\(¬ zim x->Z NX)
theorem zdv (NX:Addr):zga (zaH NX):=λds Q Q' Z Z' m z q136q=>by obtain⟨x,e,h1,h2,h3⟩:=q136q;exact⟨x,e,h1,λh=>m _ _ (h2 h),λh=>z _ (h3 h)⟩
theorem zgl {x y:Str}:zjV x y=true↔∀s∈signs x,inS s y=true:=List.all_eq_true
theorem zjW (x:Str):(signs x).length=x.length:=by unfold signs;rw[List.length_map,Array.length_toList];rfl
theorem zdo {K:PySem.W.Frag}:PySem.W.kitOne K (.type "NoneType") (.type "str")=some false:=zdV (by decide +kernel) (by decide +kernel) (by decide +kernel)
theorem zdp {K:PySem.W.Frag}:PySem.W.kitOne K (.type "list") (.type "str")=some false:=zdV (by decide +kernel) (by decide +kernel) (by decide +kernel)
section
variable {P:Program}{w:World}{K:PySem.W.Frag}{mg:Str->Option Value}{base:Heap}
theorem zlI:zas ["text","signs"] ["text","signs"] (zac zdg):=⟨rfl,rfl,rfl,by decide +kernel,rfl,by decide +kernel,by decide +kernel⟩
theorem zjX {f:Addr}{fd:FuncData}(F:Fun K "only" "only" zdg f fd) (B:Bl mg):FnOk P w K mg base CX0 1 f fd ["text","signs"] (spP K zgV):=by
 refine zaL F zlI (λds Q q137q=>by obtain⟨c,d,e,_⟩:=q137q;rw[e];rfl) (λcdv A outer s H E hr=>?_);have hu:(A.deeper (envOfC "only" (zac zdg) s.heap.objs.size f cdv)).units+16<cLine:=by have q:=hr.units;lia
 have nd:=zlI.nd;refine⟨_,(zag (zah (znZ rfl rfl B.all (zaa (zcB (N:=["sign","signs"]) (k:=1) (js:=[1]) rfl (zeX (sup:=zac zdg) (XN:=["text","signs"]) rfl rfl (by decide +kernel)) (by decide) (zbz (by decide)) (zjN (zab 0)) ⟨λ_ _ _ _ _=>(zay (i:=0) (by show(["sign","signs"]:List Str).Nodup;decide +kernel) rfl (Or.inl rfl)),λ_ _ _ _ _=>zbP,λ_ _ _ _ _=>(zol (zab 0) (zab 1))⟩) zad)))),λds Q h=>?_⟩;obtain⟨x,y,rfl,hx,q⟩:=h;have hsz:=sizeLine_eq;have hsl:=zjW x;walk_at "pu";refine⟨by rw[List.length_map];lia,λi out=>out=(((signs x).take i).map λs=>inS s y).map PV.bl,rfl,?_,?_⟩
 ·rintro i d out hd-rfl;rw[List.getElem?_map]at hd;cases hs:(signs x)[i]? with
  | none=>rw[hs]at hd;cases hd
  | some s=>
   rw[hs]at hd;cases hd;refine⟨_,rfl,?_⟩;show _=_;rw[<- take_snoc hs,List.map_append,List.map_append];rfl
 ·rintro out-rfl;rw[List.length_map,List.take_of_length_le (Nat.le_refl _)];refine⟨_,rfl,?_⟩;unfold zjV at q;rw[List.all_map];exact q
theorem zgm:zas ["text","mark"] ["text","mark"] (zac zbo):=⟨rfl,rfl,rfl,by decide +kernel,rfl,by decide +kernel,by decide +kernel⟩
theorem ziq {f NX:Addr}{fd:FuncData}{bm:List Value}(F:Fun K "parts_of" "parts_of" zbo f fd) (B:Bl mg) (G:Gs K mg NX bm):FnOk P w K mg base (CXJ P w) 1 f fd ["text","mark"] (spPX K (zdE NX)):=by
 refine zcO F zgm (λds Q Z q138q=>by obtain⟨a,b,e,_⟩:=q138q;rw[e];rfl) (λcdv A outer s H E hr=>?_);have hu:(A.deeper (envOfC "parts_of" (zac zbo) s.heap.objs.size f cdv)).units+16<cLine:=by have q:=hr.units;lia
 have nd:=zgm.nd;refine⟨_,(zaV (zgN (zaZ (zbu (zeI (K:=K) rfl rfl B.isi (zaa (zab 0) (zaa (zib rfl B.str bStr) zad))))) (zbf (zbQ zak rfl G.nx G.ex rfl)) zcC) (zbf (zih (zah (zdB (zab 0) (zab 1)))))),λds Q Z h=>?_⟩;obtain⟨d,mk,rfl,hm,h⟩:=h;have hsz:=sizeLine_eq;rcases h with ⟨x,rfl,hx,q⟩ | ⟨rfl | rfl | ⟨ds,rfl⟩,q⟩
 ·have h1:=split_le x mk;walk_at "pu";refine⟨true,zcn,?_⟩;rw[if_neg (by decide)];walk_at "auto";exact q
 ·walk_at "pu";refine⟨false,zdo,?_⟩;rw[if_pos (by decide)];walk_at "go";exact q
 ·walk_at "pu";refine⟨false,zdW,?_⟩;rw[if_pos (by decide)];walk_at "go";exact q
 ·walk_at "pu";refine⟨false,zdp,?_⟩;rw[if_pos (by decide)];walk_at "go";exact q
theorem zeQ:zas ["text"] ["text"] (zac zaN):=⟨rfl,rfl,rfl,by decide +kernel,rfl,by decide +kernel,by decide +kernel⟩
theorem zgW {f NX fO:Addr}{fd fdO:FuncData}{bm:List Value}(F:Fun K "read_name" "read_name" zaN f fd) (Only:Fx K mg "only" zdg ["text","signs"] fO fdO) (B:Bl mg) (G:Gs K mg NX bm):FnOk P w K mg base (CXJ P w) 2 f fd ["text"] (spPX K (zcU NX)):=by
 have GOnly:FnOk P w K mg base CX0 1 fO fdO ["text","signs"] (spP K zgV):=zjX Only.fn B;obtain⟨ts,gs⟩:=G.small;refine zcO F zeQ (λds Q Z q139q=>by obtain⟨a,e,_⟩:=q139q;rw[e];rfl) (λcdv A outer s H E hr=>?_);have hu:(A.deeper (envOfC "read_name" (zac zaN) s.heap.objs.size f cdv)).units+16<cLine:=by have q:=hr.units;lia
 have nd:=zeQ.nd;refine⟨_,(zaV (zgN (PuW.t (zby (zaZ (zhw zaf (zbw rfl B.len (zaa (zab 0) zad)) zaf)) (zbD (zaZ (zbu (zao GOnly zgj hr rfl Only.mg Only.fn.kp Only.bd (zaa (zab 0) (zaa (zjQ rfl gs) zad)))))))) (zbf (zbQ zak rfl G.nx G.ex rfl)) zcC) (zbf (zih (zah (zab 0))))),λds Q Z h=>?_⟩;obtain⟨x,rfl,hx,h1,h2⟩:=h;have hsz:=sizeLine_eq;have no:zdm x↔(1<=x.length/\x.length<=8/\zjV x abcS=true):=by unfold zdm;rw[zgl]
 walk_at "pu";refine⟨by lia,ite2 (λe1=>ite2 (λe2=>?_) (λe2=>⟨hx,ite2 (λe3=>?_) (λe3=>?_)⟩)) (λe1=>?_)⟩
 ·walk_at "go";exact h2 λz=>e2 (by have:=(no.mp z).2.1;lia)
 ·walk_at "go";exact h2 λz=>by rw[(no.mp z).2.2]at e3;cases e3
 ·walk_at "go";exact h1 (no.mpr ⟨by lia,by lia,by simpa using e3⟩)
 ·walk_at "go";exact h2 λz=>e1 (by have:=(no.mp z).1;lia)
theorem zdq:zas ["text"] ["text"] (zac zaA):=⟨rfl,rfl,rfl,by decide +kernel,rfl,by decide +kernel,by decide +kernel⟩
theorem zfk {f NX fO:Addr}{fd fdO:FuncData}{bm:List Value}(F:Fun K "read_letter" "read_letter" zaA f fd) (Only:Fx K mg "only" zdg ["text","signs"] fO fdO) (B:Bl mg) (G:Gs K mg NX bm):FnOk P w K mg base (CXJ P w) 2 f fd ["text"] (spPX K (zbS NX)):=by
 have GOnly:FnOk P w K mg base CX0 1 fO fdO ["text","signs"] (spP K zgV):=zjX Only.fn B;obtain⟨ts,gs⟩:=G.great;refine zcO F zdq (λds Q Z q140q=>by obtain⟨a,e,_⟩:=q140q;rw[e];rfl) (λcdv A outer s H E hr=>?_);have hu:(A.deeper (envOfC "read_letter" (zac zaA) s.heap.objs.size f cdv)).units+16<cLine:=by have q:=hr.units;lia
 have nd:=zdq.nd;refine⟨_,(zaV (zgN (PuW.t (zby (zeF hu (zbw rfl B.len (zaa (zab 0) zad)) zaf) (zbD (zaZ (zbu (zao GOnly zgj hr rfl Only.mg Only.fn.kp Only.bd (zaa (zab 0) (zaa (zjQ rfl gs) zad)))))))) (zbf (zbQ zak rfl G.nx G.ex rfl)) zcC) (zbf (zih (zah (zab 0))))),λds Q Z h=>?_⟩;obtain⟨x,rfl,hx,h1,h2⟩:=h;have hsz:=sizeLine_eq;have no:zfh x↔(x.length=1/\zjV x ABC=true):=by unfold zfh;rw[zgl]
 walk_at "pu";refine⟨by lia,ite2 (λe1=>?_) (λe1=>⟨hx,ite2 (λe3=>?_) (λe3=>?_)⟩)⟩
 ·walk_at "go";exact h2 λz=>e1 (by have:=(no.mp z).1;lia)
 ·walk_at "go";exact h2 λz=>by rw[(no.mp z).2]at e3;cases e3
 ·walk_at "go";exact h1 (no.mpr ⟨by lia,by simpa using e3⟩)
end
section
variable {P:Program}{w:World}{K:PySem.W.Frag}{mg:Str->Option Value}{base:Heap}
theorem zhJ (l:List PV){i:Int}(h0:0<=i)(h1:i<=l.length):cutP l (some i) none=l.drop i.toNat:=by
 obtain⟨n,rfl⟩:∃n:Nat,i=n:=⟨i.toNat,by lia⟩;unfold cutP;rw[HT.zgz,HT.zkm,Nat.min_eq_left (by lia),List.take_of_length_le (by simp)];simp
theorem zcV:zas ["text","words","name","letters"] ["text"] (zac zav):=⟨rfl,rfl,rfl,by decide +kernel,rfl,by decide +kernel,by decide +kernel⟩
theorem zlJ:(" " : Str).length≠0:=by decide +kernel
theorem zeu {f NX fO fN fL:Addr}{fd fdO fdN fdL:FuncData}{bm:List Value}(F:Fun K "read_pattern" "read_pattern" zav f fd) (Only:Fx K mg "only" zdg ["text","signs"] fO fdO) (ReadName:Fx K mg "read_name" zaN ["text"] fN fdN) (ReadLetter:Fx K mg "read_letter" zaA ["text"] fL fdL) (B:Bl mg) (G:Gs K mg NX bm):FnOk P w K mg base (CXJ P w) 3 f fd ["text"] (spPX K (zaH NX)):=by
 have GN:FnOk P w K mg base (CXJ P w) 2 fN fdN ["text"] (spPX K (zcU NX)):=zgW ReadName.fn Only B G;have GL:FnOk P w K mg base (CXJ P w) 2 fL fdL ["text"] (spPX K (zbS NX)):=zfk ReadLetter.fn Only B G;refine zcO F zcV (λds Q Z q141q=>by obtain⟨a,e,_⟩:=q141q;rw[e];rfl) (λcdv A outer s H E hr=>?_);have hu:(A.deeper (envOfC "read_pattern" (zac zav) s.heap.objs.size f cdv)).units+16<cLine:=by have q:=hr.units;lia
 have nd:=zcV.nd;refine⟨_,(zaV (zih (zal (i:=1) nd rfl (Or.inl rfl) (zdB (zab 0) zak)))
  (zaV (zlE (i:=2) nd rfl (Or.inl rfl) (zfg GN (zfj NX) hr rfl ReadName.mg ReadName.fn.kp ReadName.bd (FlyM.pass rfl) (zaa (zaU (zab 1) zaf) zad)))
  (zaV (zlE (i:=3) nd rfl (Or.inl rfl) (zkT rfl B.tuple (zjO (N:=["word"]) (k:=1) (js:=[]) rfl rfl rfl rfl (λpins σ e s' h=>.inl ⟨pins,σ,FlyI.zaY h⟩) (zeX (sup:=zac zav) (XN:=["text","words","name","letters"]) rfl rfl (by decide +kernel)) (by decide) (zbz (by decide)) (zok (zbl (zff (zab 1) (zbn zaf) zbm))) ⟨λ_ _ _ _ _=>(zay (i:=0) (by show(["word"]:List Str).Nodup;decide +kernel) rfl (Or.inl rfl)),λ_ _ _ _ _=>(zfg GL (zeg NX) hr rfl ReadLetter.mg ReadLetter.fn.kp ReadLetter.bd zod (zaa (zab 0) zad))⟩)))
  (zaV (zgN (zaZ (zhw zaf (zbw rfl B.len (zaa (zab 3) zad)) zaf)) (zbf (zbQ zak rfl G.nx G.ex rfl)) zcC)
  (zaV (zgN (zju (zil rfl rfl B.len rfl B.set (zab 3)) (zbw rfl B.len (zaa (zab 3) zad))) (zbf (zbQ zak rfl G.nx G.ex rfl)) zcC)
  (zbf (zih (zah (zfN (zaa (zab 2) (zaa (zab 3) zad)))))))))))
  ,λds Q Z h=>?_⟩
 obtain⟨x,rfl,hx,h1,h2⟩:=h;have hsz:=sizeLine_eq;have hwl:=zec x;have hwe:=zcR x;have hns:=zhE x;have hll:=zlG x;have hsw:Txt.split x " " = words x:=rfl;walk_at "pu";rw[hsw];refine⟨zlJ,by lia,by lia,?_⟩;rw[hwe];walk_at "auto";refine⟨_,zaQ (j:=0) rfl,_,rfl,by lia,λhn=>?_,λhn=>h2 λz=>hn z.name⟩;walk_at "go";have hcut:cutP (PV.str (nm x)::List.map PV.str (lt x)) (some 1) none=(lt x).map PV.str:=zhJ _ (i:=1) (by decide) (by rw[List.length_cons];lia);rw[hcut];refine⟨by rw[List.length_map];lia,λi out=>out=((lt x).take i).map PV.str/\∀l∈(lt x).take i,zfh l,⟨rfl,by simp⟩,?_,?_⟩
 ·rintro i d out hd - ⟨rfl,hok⟩;rw[List.getElem?_map]at hd;cases hs:(lt x)[i]? with
  | none=>rw[hs]at hd;cases hd
  | some l=>
   rw[hs]at hd;cases hd;have hm:=List.mem_of_getElem? hs;have hsh:=zhD hm;refine⟨l,rfl,by lia,λhl=>⟨?_,λy hy=>?_⟩,λhl=>h2 λz=>hl (z.lets l hm)⟩
   ·rw[<- take_snoc hs,List.map_append];rfl
   ·rw[<- take_snoc hs]at hy;rcases List.mem_append.mp hy with hy | hy
    ·exact hok y hy
    ·rw[List.mem_singleton.mp hy];exact hl
 ·rintro out - ⟨rfl,hok⟩;rw[List.length_map,List.take_of_length_le (Nat.le_refl _)]at hok ⊢;walk_at "go";rw[List.length_map];refine ite2 (λe1=>ite2 (λe2=>?_) (λe2=>?_)) (λe1=>?_)
  ·walk_at "go";exact h2 λz=>e2 (by have:=z.le4;lia)
  ·walk_at "go";walk_at "go";refine⟨lt x,rfl,by lia,λn n1 n2=>?_⟩;rw[List.length_map];refine ite2 (λe3=>?_) (λe3=>?_)
   ·walk_at "go";exact h2 λz=>by have:=n2.mpr z.nd;lia
   ·walk_at "go";walk_at "go";exact⟨by lia,h1 ⟨hn,hok,by lia,by lia,n2.mp (by lia)⟩⟩
  ·walk_at "go";exact h2 λz=>e1 (by have:=z.pos;lia)
end
noncomputable def zhK:PF:=λds Q=>∃ps:List (Str×List Str),ds=[.lst (ps.map pd)]/\ps.length<=1000/\Q (.lst (ps.map λp=>ld p.2)) .new
theorem zir:zbE zhK:=λds Q Q' m q142q=>by obtain⟨ps,e,h,q⟩:=q142q;exact⟨ps,e,h,m _ _ q⟩
noncomputable def zcp:PF:=λds Q=>∃sh:List (List Str),ds=[.lst (sh.map ld)]/\sh.length<=6/\(∀p∈sh,p.length<=4)/\∀zs:List Str,zs.Nodup->(∀x,x∈zs↔∃p∈sh,x∈p)->sortedS zs=true->Q (.lst (zs.map PV.str)) .new
theorem zew:zbE zcp:=λds Q Q' m q143q=>by obtain⟨sh,e,h1,h2,q⟩:=q143q;exact⟨sh,e,h1,h2,λzs g1 g2 g3=>m _ _ (q zs g1 g2 g3)⟩
noncomputable def zaF (NX:Addr):PFX:=λds Q Z=>∃d,ds=[d]/\((∃x:Str,d=.str x/\x.length<=900/\(zgR x->Q (qd (que x)) .new)/\(¬ zgR x->Z NX))\/((d=.non\/d=.int 7\/∃ds,d=.lst ds)/\Z NX))
theorem zeR:∀(ss:List Str),zaK (ss.map PV.str)=true
 | []=>by rw[List.map_nil];simp only[zaK]
 | s::r=>by rw[List.map_cons];simp only[zaK,zbH,zeR r,Bool.and_self]
theorem zlf (l:List Str):zbH (M61.ld l)=true:=by unfold M61.ld;simp only[zbH];exact zeR l
theorem zgn:∀(ss:List (List Str)),zaK (ss.map M61.ld)=true
 | []=>by rw[List.map_nil];simp only[zaK]
 | s::r=>by rw[List.map_cons];simp only[zaK,zlf,zgn r,Bool.and_self]
section
variable {P:Program}{w:World}{K:PySem.W.Frag}{mg:Str->Option Value}{base:Heap}
theorem zjY:zas ["question"] ["question"] (zac zcu):=⟨rfl,rfl,rfl,by decide +kernel,rfl,by decide +kernel,by decide +kernel⟩
theorem zlg {f:Addr}{fd:FuncData}(F:Fun K "shape_of" "shape_of" zcu f fd) (B:Bl mg):FnOk P w K mg base CX0 1 f fd ["question"] (spP K zhK):=by
 refine zaL F zjY (λds Q q144q=>by obtain⟨c,e,_⟩:=q144q;rw[e];rfl) (λcdv A outer s H E hr=>?_);have hu:(A.deeper (envOfC "shape_of" (zac zcu) s.heap.objs.size f cdv)).units+16<cLine:=by have q:=hr.units;lia
 have nd:=zjY.nd;refine⟨_,(zag (zah (zcB (N:=["pattern"]) (k:=1) (js:=[]) rfl (zeX (sup:=zac zcu) (XN:=["question"]) rfl rfl (by decide +kernel)) (by decide) (zbz (by decide)) (zbl (zab 0)) ⟨λ_ _ _ _ _=>(zay (i:=0) (by show(["pattern"]:List Str).Nodup;decide +kernel) rfl (Or.inl rfl)),λ_ _ _ _ _=>zbP,λ_ _ _ _ _=>(zfe rfl B.tuple (zaa (zaU (zab 0) zaf) zad))⟩))),λds Q h=>?_⟩;obtain⟨ps,rfl,hz,q⟩:=h;walk_at "pu";refine⟨by rw[List.length_map,sizeLine_eq];lia,λi out=>out=(ps.map λp=>ld p.2).take i,rfl,?_,?_⟩
 ·rintro i d out hd-rfl;rw[List.getElem?_map]at hd;cases hp:ps[i]? with
  | none=>rw[hp]at hd;cases hd
  | some p=>
   rw[hp]at hd;cases hd;refine⟨ld p.2,.inl ⟨[.str p.1,ld p.2],.inr rfl,zaQ (j:=1) rfl⟩,p.2.map PV.str,.inr rfl,take_snoc ?_⟩;rw[List.getElem?_map,hp];rfl
 ·rintro out-rfl;rw[List.length_map,List.take_of_length_le (by rw[List.length_map];exact Nat.le_refl _)];exact q
theorem zeh:zas ["shape","found","letters"] ["shape"] (zac zaJ):=⟨rfl,rfl,rfl,by decide +kernel,rfl,by decide +kernel,by decide +kernel⟩
theorem zgo {f:Addr}{fd:FuncData}(F:Fun K "letters_of" "letters_of" zaJ f fd) (B:Bl mg):FnOk P w K mg base CX0 1 f fd ["shape"] (spP K zcp):=by
 refine zaL F zeh (λds Q q145q=>by obtain⟨c,e,_⟩:=q145q;rw[e];rfl) (λcdv A outer s H E hr=>?_);have hu:(A.deeper (envOfC "letters_of" (zac zaJ) s.heap.objs.size f cdv)).units+16<cLine:=by have q:=hr.units;lia
 have nd:=zeh.nd;refine⟨_,(zae (zal (i:=1) nd rfl (Or.inl rfl) (zbi zad))
   (zae (zcA rfl PassesOwn.never (zbl (zab 0)) (zay (i:=2) nd rfl (Or.inl rfl)) (zag (zcN (zkL 1 (zab 2)))))
   (zag (zah (zie rfl rfl B.sorted rfl B.set (zab 1)))))),λds Q h=>?_⟩
 obtain⟨sh,rfl,h6,h4,q⟩:=h;walk_at "pu";walk_at "auto";obtain⟨Iv,hIv⟩:∃Iv:Nat->PEnv->Prop,∀i ρ,Iv i ρ↔∃(fs:List Str) (kv:Option (PV×Bool)),ρ=[some (PV.lst (List.map ld sh),false),some (PV.lst (fs.map PV.str),true),kv]/\fs.length<=4*i/\∀x,x∈fs↔∃p∈sh.take i,x∈p:=⟨_,λ_ _=>Iff.rfl⟩;refine⟨Iv,(hIv _ _).mpr ⟨[],none,rfl,Nat.zero_le _,λx=>by simp⟩,?_,?_⟩
 ·intro i d ρ hd hI;obtain⟨fs,kv,rfl,l1,hm⟩:=(hIv _ _).mp hI;rw[List.getElem?_map]at hd;cases hp:sh[i]? with
  | none=>rw[hp]at hd;cases hd
  | some p=>
   rw[hp]at hd;cases hd;have hil:i<sh.length:=(List.getElem?_eq_some_iff.mp hp).1;have hle:=h4 p (List.mem_of_getElem? hp);walk_at "go";refine⟨by rw[List.length_map,List.length_map,sizeLine_eq];lia,(hIv _ _).mpr ⟨fs++p,_,by rw[List.map_append],by rw[List.length_append];lia,λy=>?_⟩⟩;rw[List.mem_append,hm,List.take_add_one,hp];simp only[Option.toList_some,List.mem_append,List.mem_singleton];constructor
   ·rintro(⟨p,h1,h2⟩ | h)
    ·exact⟨p,.inl h1,h2⟩
    ·exact⟨_,.inr rfl,h⟩
   ·rintro⟨p,h1 | rfl,h2⟩
    ·exact .inl ⟨p,h1,h2⟩
    ·exact .inr h2
 ·intro ρ hI;obtain⟨fs,kv,rfl,l1,hm⟩:=(hIv _ _).mp hI;rw[List.length_map]at l1 hm;walk_at "go";refine⟨fs,rfl,by lia,λzs n1 n2 n3=>q zs n1 (λx=>?_) n3⟩;rw[n2,hm,List.take_of_length_le (Nat.le_refl _)]
theorem zcw:zas ["text","question"] ["text"] (zac zaj):=⟨rfl,rfl,rfl,by decide +kernel,rfl,by decide +kernel,by decide +kernel⟩
theorem zop:(", " : Str).length≠0:=by decide +kernel
theorem zei {f NX fO fN fL fP fA fS fT:Addr}{fd fdO fdN fdL fdP fdA fdS fdT:FuncData}{bm:List Value}(F:Fun K "read_question" "read_question" zaj f fd) (Only:Fx K mg "only" zdg ["text","signs"] fO fdO) (ReadName:Fx K mg "read_name" zaN ["text"] fN fdN) (ReadLetter:Fx K mg "read_letter" zaA ["text"] fL fdL) (ReadPattern:Fx K mg "read_pattern" zav ["text"] fP fdP) (PartsOf:Fx K mg "parts_of" zbo ["text","mark"] fA fdA) (Shape:Fx K mg "shape_of" zcu ["question"] fS fdS) (LettersOf:Fx K mg "letters_of" zaJ ["shape"] fT fdT) (B:Bl mg) (G:Gs K mg NX bm):FnOk P w K mg base (CXJ P w) 4 f fd ["text"] (spPX K (zaF NX)):=by
 have GP:FnOk P w K mg base (CXJ P w) 3 fP fdP ["text"] (spPX K (zaH NX)):=zeu ReadPattern.fn Only ReadName ReadLetter B G;have GA:FnOk P w K mg base (CXJ P w) 3 fA fdA ["text","mark"] (spPX K (zdE NX)):=(ziq PartsOf.fn B G).mono (by decide);have GShape:FnOk P w K mg base CX0 3 fS fdS ["question"] (spP K zhK):=(zlg Shape.fn B).mono (by decide);have GLettersOf:FnOk P w K mg base CX0 3 fT fdT ["shape"] (spP K zcp):=(zgo LettersOf.fn B).mono (by decide);refine zcO F zcw (λds Q Z q146q=>by obtain⟨a,e,_⟩:=q146q;rw[e];rfl) (λcdv A outer s H E hr=>?_);have hu:(A.deeper (envOfC "read_question" (zac zaj) s.heap.objs.size f cdv)).units+16<cLine:=by have q:=hr.units;lia
 have nd:=zcw.nd;refine⟨_,(zaV (zmG (i:=1) (N:=["part"]) (k:=1) (js:=[]) rfl rfl rfl rfl (λpins σ e s' h=>.inl ⟨pins,σ,FlyI.zaY h⟩) (zeX (sup:=zac zaj) (XN:=["text","question"]) rfl rfl (by decide +kernel)) (by decide) (zbz (by decide)) (zkV (zfg GA (zgk NX) hr rfl PartsOf.mg PartsOf.fn.kp PartsOf.bd (FlyM.pass rfl) (zaa (zab 0) (zaa zak zad)))) ⟨λ_ _ _ _ _=>(zay (i:=0) (by show(["part"]:List Str).Nodup;decide +kernel) rfl (Or.inl rfl)),λ_ _ _ _ _=>(zfg GP (zdv NX) hr rfl ReadPattern.mg ReadPattern.fn.kp ReadPattern.bd zod (zaa (zab 0) zad))⟩ nd rfl rfl)
  (zaV (zgN (zdR (zbw rfl B.len (zaa (zab 1) zad)) zaf) (zbf (zbQ zak rfl G.nx G.ex rfl)) zcC)
  (zaV (zgN (zdR (zbw rfl B.len (zaa (zao GLettersOf zew hr rfl LettersOf.mg LettersOf.fn.kp LettersOf.bd (zaa (zao GShape zir hr rfl Shape.mg Shape.fn.kp Shape.bd (zaa (zab 1) zad)) zad)) zad)) zaf) (zbf (zbQ zak rfl G.nx G.ex rfl)) zcC)
  (zbf (zih (zah (zab 1))))))),λds Q Z h=>?_⟩
 obtain⟨d,rfl,h⟩:=h;have hsz:=sizeLine_eq;walk_at "pu";refine⟨zop,?_⟩;rcases h with ⟨x,rfl,hx,h1,h2⟩ | ⟨hd,q⟩
 ·have hpl:=zeN x;refine .inl ⟨x,rfl,by lia,?_⟩;rw[show Txt.split x ", " = pieces x from rfl];refine⟨by rw[List.length_map];lia,λi out=>out=((pieces x).take i).map (λp=>pd (pt p))/\∀p∈(pieces x).take i,zim p,⟨rfl,by simp⟩,?_,?_⟩
  ·rintro i d out hd - ⟨rfl,hok⟩;rw[List.getElem?_map]at hd;cases hs:(pieces x)[i]? with
   | none=>rw[hs]at hd;cases hd
   | some p=>
    rw[hs]at hd;cases hd;have hm:=List.mem_of_getElem? hs;have hsh:=zed hm;refine⟨p,rfl,by lia,λhp=>⟨?_,λy hy=>?_⟩,λhp=>h2 λz=>hp (z.pat p hm)⟩
    ·rw[<- take_snoc hs,List.map_append];rfl
    ·rw[<- take_snoc hs]at hy;rcases List.mem_append.mp hy with hy | hy
     ·exact hok y hy
     ·rw[List.mem_singleton.mp hy];exact hp
  ·rintro out - ⟨rfl,hok⟩;rw[List.length_map,List.take_of_length_le (Nat.le_refl _)]at hok ⊢;have hqe:List.map (λp=>pd (pt p)) (pieces x)=(que x).map pd:=by unfold que;rw[List.map_map];rfl
   have hql:(que x).length=(pieces x).length:=by unfold que;rw[List.length_map]
   rw[hqe];have hsh:List.map (λp:Str×List Str=>ld p.2) (que x)=((que x).map (·.2)).map ld:=by rw[List.map_map];rfl
   walk_at "go";rw[List.length_map,hql];refine ite2 (λe1=>?_) (λe1=>?_)
   ·walk_at "go";exact h2 λz=>by have:=z.few;lia
   ·walk_at "go";walk_at "go";refine⟨que x,rfl,by lia,?_⟩;have hsh':List.map (λp:Str×List Str=>PV.tup (List.map PV.str p.snd)) (que x)=((que x).map (·.2)).map M61.ld:=hsh;refine⟨by rw[hsh'];exact zgn _,(que x).map (·.2),hsh',by rw[List.length_map];lia,λp hp=>?_,λzs n1 n2 n3=>?_⟩
    ·obtain⟨r,hr,rfl⟩:=List.mem_map.mp hp;obtain⟨y,hy,rfl⟩:=List.mem_map.mp hr;exact(hok y hy).le4
    ·have n2':∀y,y∈zs↔∃p∈pieces x,y∈lt p:=λy=>by
      rw[n2];constructor
      ·rintro⟨p,hp,hy⟩;obtain⟨r,hr,rfl⟩:=List.mem_map.mp hp;obtain⟨z,hz,rfl⟩:=List.mem_map.mp hr;exact⟨z,hz,hy⟩
      ·rintro⟨p,hp,hy⟩;exact⟨lt p,List.mem_map.mpr ⟨pt p,List.mem_map.mpr ⟨p,hp,rfl⟩,rfl⟩,hy⟩
     rw[List.length_map];refine ite2 (λe2=>?_) (λe2=>?_)
     ·walk_at "go";exact h2 λz=>by have:=z.kn zs n1 n2';lia
     ·walk_at "go";walk_at "go";exact h1 ⟨hok,by lia,λys y1 y2=>by rw[len_eq y1 n1 λy=>(y2 y).trans (n2' y).symm];lia⟩
 ·exact .inr ⟨hd,q⟩
end
open K01 (mix zbM)
noncomputable def zbB:PF:=λds Q=>∃p:Str×List Str,ds=[pd p]/\zhH p/\Q (.str (shP p)) .frz
theorem zdw:zbE zbB:=λds Q Q' m q147q=>by obtain⟨p,e,h,q⟩:=q147q;exact⟨p,e,h,m _ _ q⟩
noncomputable def zgp:PF:=λds Q=>∃q:List (Str×List Str),ds=[qd q]/\zhI q/\Q (.str (shQ q)) .frz
theorem zeS:zbE zgp:=λds Q Q' m q148q=>by obtain⟨p,e,h,q⟩:=q148q;exact⟨p,e,h,m _ _ q⟩
noncomputable abbrev zbq:PF:=zgp
theorem zdh:zbE zbq:=zeS
noncomputable abbrev oddL:PV:=.lst [.tup [.str "a",.tup [.str "A"]]]
noncomputable def TxtD (d:PV):Prop:=(∃y:Str,d=.str y/\y.length<=500)\/d=.non\/d=.int 7\/d=oddL
noncomputable abbrev sgS:Str:="   ,,;abcxyzABCXYZ019-\n\t"
noncomputable def fOdd:PF:=λds Q=>∃c:Int,ds=[.int c]/\∀d,TxtD d->Q d .frz
theorem zlh:zbE fOdd:=λds Q Q' m q149q=>by obtain⟨p,e,q⟩:=q149q;exact⟨p,e,λd h=>m _ _ (q d h)⟩
noncomputable def zdF:PF:=λds Q=>∃(x:Str)(c:Int),ds=[.str x,.int c]/\x.length<=200/\∀d,TxtD d->Q d .frz
theorem zgq:zbE zdF:=λds Q Q' m q150q=>by obtain⟨p,c,e,h,q⟩:=q150q;exact⟨p,c,e,h,λd h=>m _ _ (q d h)⟩
section
variable {P:Program}{w:World}{K:PySem.W.Frag}{mg:Str->Option Value}{base:Heap}
theorem zcW:zas ["pattern"] ["pattern"] (zac zaz):=⟨rfl,rfl,rfl,by decide +kernel,rfl,by decide +kernel,by decide +kernel⟩
theorem zex {f:Addr}{fd:FuncData}(F:Fun K "show_pattern" "show_pattern" zaz f fd) (B:Bl mg):FnOk P w K mg base CX0 1 f fd ["pattern"] (spP K zbB):=by
 refine zaL F zcW (λds Q q151q=>by obtain⟨c,e,_⟩:=q151q;rw[e];rfl) (λcdv A outer s H E hr=>?_);have hu:(A.deeper (envOfC "show_pattern" (zac zaz) s.heap.objs.size f cdv)).units+16<cLine:=by have q:=hr.units;lia
 have nd:=zcW.nd;refine⟨_,(zag (zah (zdU (zfU (zbi (zaa (zaU (zab 0) zaf) zad)) (zgJ rfl B.list (zaa (zaU (zab 0) zaf) zad)))))),λds Q h=>?_⟩;obtain⟨p,rfl,hp,q⟩:=h;have hsz:=sizeLine_eq;have h1:=zee hp;have h2:=hp.few;have e1:(" " : Str).length=1:=by decide +kernel
 walk_at "pu";exact⟨_,zaQ (j:=0) rfl,by lia,_,zaQ (j:=1) rfl,p.2.map PV.str,.inr rfl,by rw[List.length_map];lia,p.1::p.2,rfl,by rw[e1,List.length_cons];lia,q⟩
theorem zcx:zas ["question"] ["question"] (zac zar):=⟨rfl,rfl,rfl,by decide +kernel,rfl,by decide +kernel,by decide +kernel⟩
theorem zej {f fP:Addr}{fd fdP:FuncData}(F:Fun K "show_question" "show_question" zar f fd) (ShowPattern:Fx K mg "show_pattern" zaz ["pattern"] fP fdP) (B:Bl mg):FnOk P w K mg base CX0 2 f fd ["question"] (spP K zbq):=by
 have GShowPattern:FnOk P w K mg base CX0 1 fP fdP ["pattern"] (spP K zbB):=zex ShowPattern.fn B;refine zaL F zcx (λds Q q152q=>by obtain⟨c,e,_⟩:=q152q;rw[e];rfl) (λcdv A outer s H E hr=>?_);have hu:(A.deeper (envOfC "show_question" (zac zar) s.heap.objs.size f cdv)).units+16<cLine:=by have q:=hr.units;lia
 have nd:=zcx.nd;refine⟨_,(zag (zah (zdU (zcB (N:=["pattern"]) (k:=1) (js:=[]) rfl (zeX (sup:=zac zar) (XN:=["question"]) rfl rfl (by decide +kernel)) (by decide) (zbz (by decide)) (zbl (zab 0)) ⟨λ_ _ _ _ _=>(zay (i:=0) (by show(["pattern"]:List Str).Nodup;decide +kernel) rfl (Or.inl rfl)),λ_ _ _ _ _=>zbP,λ_ _ _ _ _=>(zao GShowPattern zdw hr rfl ShowPattern.mg ShowPattern.fn.kp ShowPattern.bd (zaa (zab 0) zad))⟩)))),λds Q h=>?_⟩;obtain⟨qs,rfl,hq,q⟩:=h;have hsz:=sizeLine_eq;have h1:=zgS hq;have h2:=hq.few;have e1:(", " : Str).length=2:=by decide +kernel
 walk_at "pu";refine⟨by rw[List.length_map];lia,λi out=>out=((qs.take i).map shP).map PV.str,rfl,?_,?_⟩
 ·rintro i d out hd-rfl;rw[List.getElem?_map]at hd;cases hs:qs[i]? with
  | none=>rw[hs]at hd;cases hd
  | some p=>
   rw[hs]at hd;cases hd;refine⟨p,rfl,hq.pat p (List.mem_of_getElem? hs),?_⟩;show _=_;rw[<- take_snoc hs,List.map_append,List.map_append];rfl
 ·rintro out-rfl;rw[List.length_map,List.take_of_length_le (Nat.le_refl _)];exact⟨qs.map shP,rfl,by rw[e1,List.length_map];lia,q⟩
theorem zjZ:zas ["_law_question_here"] ["_law_question_here"] (zac zcv):=⟨rfl,rfl,rfl,by decide +kernel,rfl,by decide +kernel,by decide +kernel⟩
theorem zli {f:Addr}{fd:FuncData}(F:Fun K "_law_shown" "_law_shown" zcv f fd) (B:Bl mg):FnOk P w K mg base CX0 1 f fd ["_law_question_here"] (spP K zgp):=by
 refine zaL F zjZ (λds Q q153q=>by obtain⟨c,e,_⟩:=q153q;rw[e];rfl) (λcdv A outer s H E hr=>?_);have hu:(A.deeper (envOfC "_law_shown" (zac zcv) s.heap.objs.size f cdv)).units+16<cLine:=by have q:=hr.units;lia
 have nd:=zjZ.nd;refine⟨_,(zag (zah (zdU (zcB (N:=["_law_name_here","_law_letters_here"]) (k:=2) (js:=[]) rfl (zeX (sup:=zac zcv) (XN:=["_law_question_here"]) rfl rfl (by decide +kernel)) (by decide) (zmp (loc2 (by decide) (by decide))) (zbl (zab 0)) ⟨λ_ _ _ _ _=>(zmo (n:=2) rfl (zfS (zay (i:=0) (by show(["_law_name_here","_law_letters_here"]:List Str).Nodup;decide +kernel) rfl (Or.inl rfl)) (zfS (zay (i:=1) (by show(["_law_name_here","_law_letters_here"]:List Str).Nodup;decide +kernel) rfl (Or.inl rfl)) zkH))),λ_ _ _ _ _=>zbP,λ_ _ _ _ _=>(zdU (zfU (zbi (zaa (zab 0) zad)) (zgJ rfl B.list (zaa (zab 1) zad))))⟩)))),λds Q h=>?_⟩;obtain⟨qs,rfl,hq,q⟩:=h;have hsz:=sizeLine_eq;have h1:=zgS hq;have h2:=hq.few;have e1:(", " : Str).length=2:=by decide +kernel
 have e2:(" " : Str).length=1:=by decide +kernel
 walk_at "pu";refine⟨by rw[List.length_map];lia,λi out=>out=((qs.take i).map shP).map PV.str,rfl,?_,?_⟩
 ·rintro i d out hd-rfl;rw[List.getElem?_map]at hd;cases hs:qs[i]? with
  | none=>rw[hs]at hd;cases hd
  | some p=>
   rw[hs]at hd;cases hd;have hp:=hq.pat p (List.mem_of_getElem? hs);have g1:=zee hp;have g2:=hp.few;refine⟨_,rfl,rfl,_,_,rfl,_,_,rfl,rfl,by lia,p.2.map PV.str,.inr rfl,by rw[List.length_map];lia,p.1::p.2,rfl,by rw[e2,List.length_cons];lia,?_⟩;show _=_;rw[<- take_snoc hs,List.map_append,List.map_append];rfl
 ·rintro out-rfl;rw[List.length_map,List.take_of_length_le (Nat.le_refl _)];exact⟨qs.map shP,rfl,by rw[e1,List.length_map];lia,q⟩
theorem zoq:zas ["_law_cell","_law_some"] ["_law_cell"] (zac sOdd):=⟨rfl,rfl,rfl,by decide +kernel,rfl,by decide +kernel,by decide +kernel⟩
theorem zor {f fM:Addr}{fd fdM:FuncData}(F:Fun K "_law_odd" "_law_odd" sOdd f fd) (Mix:Fx K mg "_law_mix" sMix ["_law_cell","_law_j"] fM fdM) (B:Bl mg):FnOk P w K mg base CX0 2 f fd ["_law_cell"] (spP K fOdd):=by
 have GMix:FnOk P w K mg base CX0 1 fM fdM ["_law_cell","_law_j"] (spP K fMix):=zgc Mix.fn;refine zaL F zoq (λds Q q154q=>by obtain⟨c,e,_⟩:=q154q;rw[e];rfl) (λcdv A outer s H E hr=>?_);have hu:(A.deeper (envOfC "_law_odd" (zac sOdd) s.heap.objs.size f cdv)).units+16<cLine:=by have q:=hr.units;lia
 have nd:=zoq.nd;refine⟨_,(zae (zal (i:=1) nd rfl (Or.inl rfl) (zbi (zaa zak (zaa zak (zaa zak (zaa zak (zaa zak (zaa zak (zaa zak (zaa zak (zaa zak (zaa zak (zaa zak (zaa zak (zaa zak zad)))))))))))))))
   (zae (zal (i:=1) nd rfl (Or.inl rfl) (zfU (zab 1) (zbi (zaa zak (zaa zak (zaa zak (zaa zak (zaa zak zad))))))))
   (zae (zal (i:=1) nd rfl (Or.inl rfl) (zfU (zab 1) (zbi (zaa zak (zaa zak (zaa zak (zaa zak (zaa zak (zaa zak (zaa zcK (zaa zaf (zaa (zbi (zaa (zfN (zaa zak (zaa (zfN (zaa zak zad)) zad))) zad)) zad))))))))))))
   (zag (zah (zaU (zab 1) (zbd (zao GMix zaX hr rfl Mix.mg Mix.fn.kp Mix.bd (zaa (zab 0) (zaa zaf zad))) zaf))))))),λds Q h=>?_⟩
 obtain⟨c,rfl,q⟩:=h;have hsz:=sizeLine_eq;have m1:=zbM c 110;have e2:mix c 110 % 27=((mix c 110 % 27).toNat:Int):=by lia
 walk_at "pu";walk_at "auto";have key:∀(l:List PV),l.length=27->(∀d∈l,TxtD d)->∃x,atI l (mix c 110 % 27)=some x/\Q x Kd.frz:=λl hl hd=>by
  have hn:(mix c 110 % 27).toNat<l.length:=by lia
  exact⟨l[(mix c 110 % 27).toNat],(congrArg (atI l) e2).trans (zaQ (List.getElem?_eq_getElem hn)),q _ (hd _ (List.getElem_mem hn))⟩
 have tx:∀x:Str,x.length<=500->TxtD (.str x):=λx h=>.inl ⟨x,rfl,h⟩;refine key _ rfl ?_;simp only[List.forall_mem_cons]
 repeat (first | exact List.forall_mem_nil _ | (refine⟨?_,?_⟩;· first | exact tx _ (by decide +kernel) | exact .inr (.inl rfl) | exact .inr (.inr (.inl rfl)) | exact .inr (.inr (.inr rfl))))
theorem zgr:zas ["_law_text","_law_cell","_law_signs","_law_way","_law_at","_law_sign"] ["_law_text","_law_cell"] (zac zbp):=⟨rfl,rfl,rfl,by decide +kernel,rfl,by decide +kernel,by decide +kernel⟩
theorem zis {f fM fO:Addr}{fd fdM fdO:FuncData}(F:Fun K "_law_spoiled" "_law_spoiled" zbp f fd) (Mix:Fx K mg "_law_mix" sMix ["_law_cell","_law_j"] fM fdM) (Odd:Fx K mg "_law_odd" sOdd ["_law_cell"] fO fdO) (B:Bl mg):FnOk P w K mg base CX0 3 f fd ["_law_text","_law_cell"] (spP K zdF):=by
 have GMix:FnOk P w K mg base CX0 2 fM fdM ["_law_cell","_law_j"] (spP K fMix):=(zgc Mix.fn).mono (by decide);have GOdd:FnOk P w K mg base CX0 2 fO fdO ["_law_cell"] (spP K fOdd):=zor Odd.fn Mix B;refine zaL F zgr (λds Q q155q=>by obtain⟨c,d,e,_⟩:=q155q;rw[e];rfl) (λcdv A outer s H E hr=>?_);have hu:(A.deeper (envOfC "_law_spoiled" (zac zbp) s.heap.objs.size f cdv)).units+16<cLine:=by have q:=hr.units;lia
 have nd:=zgr.nd;refine⟨_,(zae (zal (i:=2) nd rfl (Or.inl rfl) zak)
   (zae (zal (i:=3) nd rfl (Or.inl rfl) (zbd (zao GMix zaX hr rfl Mix.mg Mix.fn.kp Mix.bd (zaa (zab 1) (zaa zaf zad))) zaf))
   (zae (zal (i:=4) nd rfl (Or.inl rfl) (zbd (zao GMix zaX hr rfl Mix.mg Mix.fn.kp Mix.bd (zaa (zab 1) (zaa zaf zad))) (zbt (zbw rfl B.len (zaa (zab 0) zad)) zaf)))
   (zae (zal (i:=5) nd rfl (Or.inl rfl) (zaU (zab 2) (zbd (zao GMix zaX hr rfl Mix.mg Mix.fn.kp Mix.bd (zaa (zab 1) (zaa zaf zad))) (zbw rfl B.len (zaa (zab 2) zad)))))
   (zae (zbv (zfT hu (zab 3) zaf) (zag (zah (zdY (zdY (zbL (zab 0) zbm (zbn (zab 4))) (zab 5)) (zbL (zab 0) (zbn (zab 4)) zbm)))) zaB)
   (zae (zbv (zfT hu (zab 3) zaf) (zag (zah (zdY (zbL (zab 0) zbm (zbn (zab 4))) (zbL (zab 0) (zbn (zbt (zab 4) zaf)) zbm)))) zaB)
   (zae (zbv (zju (zab 3) zaf) (zag (zah (zdY (zdY (zbL (zab 0) zbm (zbn (zab 4))) (zab 5)) (zbL (zab 0) (zbn (zbt (zab 4) zaf)) zbm)))) zaB)
   (zae (zbv (zfT hu (zab 3) zaf) (zag (zah (zao GOdd zlh hr rfl Odd.mg Odd.fn.kp Odd.bd (zaa (zab 1) zad)))) zaB)
   (zag (zah (zab 0))))))))))),λds Q h=>?_⟩
 obtain⟨x,c,rfl,hx,q⟩:=h;have hsz:=sizeLine_eq;have m1:=zbM c 111;have m2:=zbM c 112;have m3:=zbM c 113;walk_at "pu";walk_at "auto";have tx:∀y:Str,y.length<=500->Q (.str y) .frz:=λy h=>q _ (.inl ⟨y,rfl,h⟩);obtain⟨ch,hch⟩:∃ch,atI sgS.cps.toList (mix c 113 % (sgS.length:Int))=some ch:=by
  have e1:sgS.length=24:=by decide +kernel
  have hn:(mix c 113 % (sgS.length:Int)).toNat<sgS.cps.toList.length:=by rw[show sgS.cps.toList.length=24 by decide +kernel,e1];lia
  have e2:mix c 113 % (sgS.length:Int)=((mix c 113 % (sgS.length:Int)).toNat:Int):=by rw[e1];lia
  exact⟨_,(congrArg (atI sgS.cps.toList) e2).trans (zaQ (List.getElem?_eq_getElem hn))⟩
 refine⟨_,⟨ch,hch,rfl⟩,?_⟩;have c1:(⟨#[ch]⟩:Str).length=1:=rfl;generalize (⟨#[ch]⟩:Str)=sg at c1 ⊢;generalize mix c 111 % 8=way;generalize mix c 112 % (↑x.length+1)=at';have s1:=Txt.slice_le x none (some at');have s2:=Txt.slice_le x (some at') none;have s3:=Txt.slice_le x (some (at'+1)) none;walk_at "go";refine ite2 (λe=>?_) (λe=>?_)
 ·walk_at "go";refine⟨by lia,by lia,by lia,by rw[Str.length_append];lia,tx _ ?_⟩;rw[Str.length_append,Str.length_append];lia
 walk_at "go";walk_at "go";refine ite2 (λe=>?_) (λe=>?_)
 ·walk_at "go";refine⟨by lia,by lia,by lia,tx _ ?_⟩;rw[Str.length_append];lia
 walk_at "go";walk_at "go";refine ite2 (λe=>?_) (λe=>?_)
 ·walk_at "go";refine⟨by lia,by lia,by lia,by rw[Str.length_append];lia,tx _ ?_⟩;rw[Str.length_append,Str.length_append];lia
 walk_at "go";walk_at "go";refine ite2 (λe=>?_) (λe=>?_)
 ·walk_at "go";exact q
 ·walk_at "go";walk_at "go";exact tx x (by lia)
end
noncomputable def nameB (x:Str):Bool:=@decide (zdm x) (Classical.propDecidable _)
theorem zcX {x:Str}:nameB x=true↔zdm x:=@decide_eq_true_iff _ (Classical.propDecidable _)
theorem zlj (ks:List Str)(ds:List PV)(c:Str)(d:PV):∃(ks':List Str)(ds':List PV),(if hasK (ks.map Sum.inr) (.inr c)=true then PV.dK (ks.map Sum.inr) (putD (ks.map Sum.inr) ds (.inr c) d) else PV.dK (ks.map Sum.inr++[.inr c]) (ds++[d]))=PV.dK (ks'.map Sum.inr) ds'/\(ks.Nodup->ks'.Nodup)/\(∀y,y∈ks'↔y∈ks\/y=c)/\ks'.length<=ks.length+1:=by
 have hk:hasK (ks.map Sum.inr) (.inr c)=true↔c∈ks:=by
  unfold hasK;rw[List.any_map,List.any_eq_true];constructor
  ·rintro⟨y,hy,h⟩;have:(Sum.inr y:Key)=.inr c:=of_decide_eq_true h;cases this;exact hy
  ·exact λh=>⟨c,h,decide_eq_true rfl⟩
 by_cases h:c∈ks
 ·rw[if_pos (hk.mpr h)];exact⟨ks,_,rfl,id,λy=>⟨.inl,λz=>z.elim id λe=>e▸h⟩,by lia⟩
 ·rw[if_neg λz=>h (hk.mp z)];refine⟨ks++[c],_,by rw[List.map_append];rfl,λn=>List.nodup_append.mpr ⟨n,by simp,λa ha b hb e=>h (by rw[<- List.mem_singleton.mp hb,<- e];exact ha)⟩,λy=>by rw[List.mem_append,List.mem_singleton],by rw[List.length_append];exact Nat.le_refl _⟩
noncomputable def zfl:PF:=λds Q=>∃x:Str,ds=[.str x]/\x.length<=1000/\Q (.bl (nameB x)) .frz
theorem zgX:zbE zfl:=λds Q Q' m q156q=>by obtain⟨x,e,h,q⟩:=q156q;exact⟨x,e,h,m _ _ q⟩
noncomputable def zit:PF:=λds Q=>∃d,ds=[d]/\((∃x:Str,d=.str x/\x.length<=900/\(zgR x->Q (qd (que x)) .new)/\(¬ zgR x->Q .non .frz))\/((d=.non\/d=.int 7\/∃ds,d=.lst ds)/\Q .non .frz))
theorem zgs:zbE zit:=λds Q Q' m q157q=>by obtain⟨d,e,h⟩:=q157q;exact⟨d,e,h.imp (λ q158q=>by obtain⟨x,e,h1,h2,h3⟩:=q158q;exact⟨x,e,h1,λh=>m _ _ (h2 h),λh=>m _ _ (h3 h)⟩) λ q159q=>by obtain⟨h,q⟩:=q159q;exact⟨h,m _ _ q⟩⟩
theorem zeT (n:Nat)(ss:List Str):(ss.map PV.str).all (PL.plain n)=true:=by
 rw[List.all_eq_true];intro d hd;obtain⟨x,_,rfl⟩:=List.mem_map.mp hd;cases n<;>rfl
section
variable {P:Program}{w:World}{K:PySem.W.Frag}{mg:Str->Option Value}{base:Heap}
theorem zhL:zas ["_law_word","_law_sign"] ["_law_word"] (zac zbg):=⟨rfl,rfl,rfl,by decide +kernel,rfl,by decide +kernel,by decide +kernel⟩
theorem zka {f:Addr}{fd:FuncData}(F:Fun K "_law_is_name" "_law_is_name" zbg f fd) (B:Bl mg):FnOk P w K mg base CX0 1 f fd ["_law_word"] (spP K zfl):=by
 refine zaL F zhL (λds Q q160q=>by obtain⟨c,e,_⟩:=q160q;rw[e];rfl) (λcdv A outer s H E hr=>?_);have hu:(A.deeper (envOfC "_law_is_name" (zac zbg) s.heap.objs.size f cdv)).units+16<cLine:=by have q:=hr.units;lia
 have nd:=zhL.nd;refine⟨_,(zae (zbv (PuW.t (zby (zju (zbw rfl B.len (zaa (zab 0) zad)) zaf) (zbD (zdR (zbw rfl B.len (zaa (zab 0) zad)) zaf)))) (zag (zah zfJ)) zaB)
   (zae (zcA rfl PassesOwn.never (zjN (zab 0)) (zay (i:=1) nd rfl (Or.inl rfl)) (zag (zbv (zhC (zab 1) zak) (zag (zah zfJ)) zaB)))
   (zag (zah zfJ)))),λds Q h=>?_⟩
 obtain⟨x,rfl,hx,q⟩:=h;have hsz:=sizeLine_eq;have hno:¬ zdm x->Q (.bl false) .frz:=λh=>by
  rw[show nameB x=false from Bool.eq_false_iff.mpr λz=>h (zcX.mp z)]at q;exact q
 walk_at "pu";refine⟨by lia,ite2 (λe1=>?_) (λe1=>⟨by lia,ite2 (λe2=>?_) (λe2=>?_)⟩)⟩
 ·walk_at "go";exact hno λz=>by have:=z.1;lia
 ·walk_at "go";exact hno λz=>by have:=z.2.1;lia
 ·walk_at "go";walk_at "go";obtain⟨Iv,hIv⟩:∃Iv:Nat->PEnv->Prop,∀i ρ,Iv i ρ↔(∀s∈(signs x).take i,inS s abcS=true)/\∃k1,ρ=[some (PV.str x,false),k1]:=⟨_,λ_ _=>Iff.rfl⟩;refine⟨Iv,(hIv _ _).mpr ⟨by simp,none,rfl⟩,?_,?_⟩
  ·intro i d ρ hd hI;obtain⟨h0,k1,rfl⟩:=(hIv _ _).mp hI;rw[List.getElem?_map]at hd;cases hs:(signs x)[i]? with
   | none=>rw[hs]at hd;cases hd
   | some s=>
    rw[hs]at hd;cases hd;walk_at "go";refine ite2 (λe3=>?_) (λe3=>?_)
    ·walk_at "go";refine hno λz=>?_;rw[z.2.2 s (List.mem_of_getElem? hs)]at e3;cases e3
    ·walk_at "go";refine(hIv _ _).mpr ⟨λy hy=>?_,_,rfl⟩;rw[<- take_snoc hs]at hy;rcases List.mem_append.mp hy with hy | hy
     ·exact h0 y hy
     ·rw[List.mem_singleton.mp hy];exact(Bool.not_eq_false _).mp e3
  ·intro ρ hI;obtain⟨h0,k1,rfl⟩:=(hIv _ _).mp hI;rw[List.length_map,List.take_of_length_le (Nat.le_refl _)]at h0;rw[zcX.mpr ⟨by lia,by lia,h0⟩]at q;walk_at "go";exact q
theorem zlK:zas ["_law_text","_law_found","_law_known","_law_piece","_law_words","_law_letters_here","_law_letter"] ["_law_text"] (zac zef):=⟨rfl,rfl,rfl,by decide +kernel,rfl,by decide +kernel,by decide +kernel⟩
theorem zkb {f fN:Addr}{fd fdN:FuncData}(F:Fun K "_law_told" "_law_told" zef f fd) (IsName:Fx K mg "_law_is_name" zbg ["_law_word"] fN fdN) (B:Bl mg):FnOk P w K mg base CX0 2 f fd ["_law_text"] (spP K zit):=by
 have GIsName:FnOk P w K mg base CX0 1 fN fdN ["_law_word"] (spP K zfl):=zka IsName.fn B;refine zaL F zlK (λds Q q161q=>by obtain⟨c,e,_⟩:=q161q;rw[e];rfl) (λcdv A outer s H E hr=>?_);have hu:(A.deeper (envOfC "_law_told" (zac zef) s.heap.objs.size f cdv)).units+16<cLine:=by have q:=hr.units;lia
 have nd:=zlK.nd;refine⟨_,(zae (zbv (zaZ (zbu (zeI (K:=K) rfl rfl B.isi (zaa (zab 0) (zaa (zib rfl B.str bStr) zad))))) (zag (zah zcK)) zaB)
   (zae (zal (i:=1) nd rfl (Or.inl rfl) (zbi zad))
   (zae (zal (i:=2) nd rfl (Or.inl rfl) zmA)
   (zae (zcA rfl PassesOwn.never (zbl (zdB (zab 0) zak)) (zay (i:=3) nd rfl (Or.inl rfl)) (zae (zal (i:=4) nd rfl (Or.inl rfl) (zdB (zab 3) zak))
   (zae (zal (i:=5) nd rfl (Or.inl rfl) (zff (zab 4) (zbn zaf) zbm))
   (zae (zbv (PuW.t (zby (zaZ (zbu (zao GIsName zgX hr rfl IsName.mg IsName.fn.kp IsName.bd (zaa (zaU (zab 4) zaf) zad)))) (zby (zfT hu (zab 5) (zbi zad)) (zbD (zdR (zbw rfl B.len (zaa (zab 5) zad)) zaf))))) (zag (zah zcK)) zaB)
   (zae (zmn 5 (zcA rfl PassesOwn.never (zbl (zab 5)) (zay (i:=6) nd rfl (Or.inl rfl)) (zae (zbv (PuW.t (zby (zeF hu (zbw rfl B.len (zaa (zab 6) zad)) zaf) (zby (zhC (zab 6) zak) (zbD (zdR (zkY (zab 5) (zab 6)) zaf))))) (zag (zah zcK)) zaB)
   (zag (zjB 2 (hu1 hu) (zab 6) zfJ)))))
   (zag (zcN (zeE 1 (zfN (zaa (zaU (zab 4) zaf) (zaa (zfe rfl B.tuple (zaa (zab 5) zad)) zad)))))))))))
   (zae (zbv (PuW.t (zby (zdR (zbw rfl B.len (zaa (zab 1) zad)) zaf) (zbD (zdR (zbw rfl B.len (zaa (zab 2) zad)) zaf)))) (zag (zah zcK)) zaB)
   (zag (zah (zab 1)))))))),λds Q h=>?_⟩
 obtain⟨d,rfl,h⟩:=h;have hsz:=sizeLine_eq;rcases h with ⟨x,rfl,hx,h1,h2⟩ | ⟨rfl | rfl | ⟨ds,rfl⟩,q⟩
 ·walk_at "pu";refine⟨true,zcn,?_⟩;rw[if_neg (by decide)];walk_at "auto";have hpl:=zeN x;rw[show Txt.split x ", " = pieces x from rfl];obtain⟨Iv,hIv⟩:∃Iv:Nat->PEnv->Prop,∀i ρ,Iv i ρ↔(∀p∈(pieces x).take i,zim p)/\∃(ks:List Str) (ds:List PV) (k3 k4 k5 k6:Option (PV×Bool)),ks.Nodup/\(∀y,y∈ks↔∃p∈(pieces x).take i,y∈lt p)/\ks.length<=4*i/\
   ρ=[some (PV.str x,false),some (PV.lst (((pieces x).take i).map λp=>pd (pt p)),true),some (PV.dK (ks.map Sum.inr) ds,true),k3,k4,k5,k6]:=⟨_,λ_ _=>Iff.rfl⟩
  refine⟨by lia,Iv,(hIv _ _).mpr ⟨by simp,[],[],none,none,none,none,List.nodup_nil,by simp,by simp,rfl⟩,?_,?_⟩
  ·intro i d ρ hd hI;obtain⟨hok,ks,ds,k3,k4,k5,k6,kn,km,kl,rfl⟩:=(hIv _ _).mp hI;rw[List.getElem?_map]at hd;cases hs:(pieces x)[i]? with
   | none=>rw[hs]at hd;cases hd
   | some p=>
    rw[hs]at hd;cases hd;have hil:i<(pieces x).length:=(List.getElem?_eq_some_iff.mp hs).1;have hm:=List.mem_of_getElem? hs;have hsh:=zed hm;have hwl:=zec p;have hwe:=zcR p;have hns:=zhE p;have hll:=zlG p;walk_at "go";rw[show Txt.split p " " = words p from rfl];refine⟨zlJ,by lia,by lia,?_⟩;rw[hwe];have hcut:cutP (PV.str (nm p)::List.map PV.str (lt p)) (some 1) none=(lt p).map PV.str:=zhJ _ (i:=1) (by decide) (by rw[List.length_cons];lia);walk_at "go";walk_at "go";rw[hcut];refine⟨_,zaQ (j:=0) rfl,_,rfl,by lia,ite2 (λe1=>?_) (λe1=>⟨by lia,zeT _ _,ite2 (λe2=>?_) (λe2=>?_)⟩)⟩
    ·walk_at "go";exact h2 λz=>by rw[zcX.mpr (z.pat p hm).name]at e1;cases e1
    ·walk_at "go";exact h2 λz=>by have:=(z.pat p hm).pos;rw[List.map_eq_nil_iff.mp e2]at this;exact absurd this (by decide)
    rw[List.length_map];refine ite2 (λe3=>?_) (λe3=>?_)
    ·walk_at "go";exact h2 λz=>by have:=(z.pat p hm).le4;lia
    walk_at "go";walk_at "go";simp only[pFrz,zjl];walk_at "pu";obtain⟨Jv,hJv⟩:∃Jv:Nat->PEnv->Prop,∀j ρ,Jv j ρ↔(∀l∈(lt p).take j,zfh l/\¬ 1<(lt p).count l)/\∃(ks:List Str) (ds:List PV) (k6:Option (PV×Bool)),ks.Nodup/\(∀y,y∈ks↔(∃p∈(pieces x).take i,y∈lt p)\/y∈(lt p).take j)/\ks.length<=4*i+j/\
     ρ=[some (PV.str x,false),some (PV.lst (((pieces x).take i).map λp=>pd (pt p)),true),some (PV.dK (ks.map Sum.inr) ds,true),some (PV.str p,false),some (PV.lst (PV.str (nm p)::(lt p).map PV.str),true),some (PV.lst ((lt p).map PV.str),false),k6]:=⟨_,λ_ _=>Iff.rfl⟩
    refine⟨Jv,(hJv _ _).mpr ⟨by simp,ks,ds,k6,kn,λy=>by rw[km];simp,by lia,rfl⟩,?_,?_⟩
    ·intro j d ρ hd hJ;obtain⟨lok,ks,ds,k6,kn,km,kl,rfl⟩:=(hJv _ _).mp hJ;rw[List.getElem?_map]at hd;cases hl:(lt p)[j]? with
     | none=>rw[hl]at hd;cases hd
     | some l=>
      rw[hl]at hd;cases hd;have hlm:=List.mem_of_getElem? hl;have hls:=zhD hlm;have hjl:j<(lt p).length:=(List.getElem?_eq_some_iff.mp hl).1;walk_at "go";refine⟨by lia,ite2 (λe1=>?_) (λe1=>ite2 (λe2=>?_) (λe2=>⟨lt p,rfl,ite2 (λe3=>?_) (λe3=>?_)⟩))⟩
      ·walk_at "go";exact h2 λz=>by have:=(zeb.mp ((z.pat p hm).lets l hlm)).1;lia
      ·walk_at "go";exact h2 λz=>by rw[(zeb.mp ((z.pat p hm).lets l hlm)).2]at e2;cases e2
      ·walk_at "go";exact h2 λz=>zhF.mp (z.pat p hm).nd l hlm (by lia)
      ·walk_at "go";walk_at "go";obtain⟨ks',ds',hk,g1,g2,g3⟩:=zlj ks ds l (.bl true);refine⟨by rw[List.length_map];lia,.inr l,rfl,?_⟩;rw[hk];refine(hJv _ _).mpr ⟨λy hy=>?_,ks',ds',_,g1 kn,λy=>?_,by lia,rfl⟩
       ·rw[<- take_snoc hl]at hy;rcases List.mem_append.mp hy with hy | hy
        ·exact lok y hy
        ·rw[List.mem_singleton.mp hy];exact⟨zeb.mpr ⟨by lia,(Bool.not_eq_false _).mp e2⟩,by lia⟩
       ·rw[g2,km,<- take_snoc hl,List.mem_append,List.mem_singleton,or_assoc]
    ·intro ρ hJ;obtain⟨lok,ks,ds,k6,kn,km,kl,rfl⟩:=(hJv _ _).mp hJ;rw[List.length_map]at kl;rw[List.length_map,List.take_of_length_le (Nat.le_refl _)]at lok km;walk_at "go";have hpk:zim p:=⟨zcX.mp ((Bool.not_eq_false _).mp e1),λl hl=>(lok l hl).1,List.length_pos_iff.mpr (show lt p≠[] from λz=>e2 (by rw[z];rfl)),by lia,zhF.mpr λl hl=>(lok l hl).2⟩;have e9:List.map (λp=>pd (pt p)) (List.take i (pieces x))++[PV.tup [PV.str (nm p),PV.tup (List.map PV.str (lt p))]]=((pieces x).take (i+1)).map λp=>pd (pt p):=by
      rw[<- take_snoc hs,List.map_append];rfl
     refine⟨by rw[List.length_map,List.length_take];lia,_,zaQ (j:=0) rfl,by lia,?_⟩;refine(hIv _ _).mpr ⟨λy hy=>?_,ks,ds,some (PV.str p,false),some (PV.lst (PV.str (nm p)::(lt p).map PV.str),true),some (PV.lst ((lt p).map PV.str),false),k6,kn,λy=>?_,by lia,congrArg (λz=>[some (PV.str x,false),some (PV.lst z,true),some (PV.dK (ks.map Sum.inr) ds,true),some (PV.str p,false),some (PV.lst (PV.str (nm p)::(lt p).map PV.str),true),some (PV.lst ((lt p).map PV.str),false),k6]) e9⟩
     ·rw[<- take_snoc hs]at hy;rcases List.mem_append.mp hy with hy | hy
      ·exact hok y hy
      ·rw[List.mem_singleton.mp hy];exact hpk
     ·rw[km,<- take_snoc hs];constructor
      ·rintro(⟨r,h1,h2⟩ | h)
       ·exact⟨r,List.mem_append_left _ h1,h2⟩
       ·exact⟨p,List.mem_append_right _ (List.mem_singleton.mpr rfl),h⟩
      ·rintro⟨r,h1,h2⟩;rcases List.mem_append.mp h1 with h1 | h1
       ·exact .inl ⟨r,h1,h2⟩
       ·rw[List.mem_singleton.mp h1]at h2;exact .inr h2
  ·intro ρ hI;obtain⟨hok,ks,ds,k3,k4,k5,k6,kn,km,kl,rfl⟩:=(hIv _ _).mp hI;rw[List.length_map]at kl;rw[List.length_map,List.take_of_length_le (Nat.le_refl _)]at hok km;rw[List.length_map,List.take_of_length_le (Nat.le_refl _)];walk_at "go";rw[List.length_map,List.length_map];refine ite2 (λe1=>?_) (λe1=>ite2 (λe2=>?_) (λe2=>?_))
   ·walk_at "go";exact h2 λz=>by have:=z.few;lia
   ·walk_at "go";exact h2 λz=>by have:=z.kn ks kn km;lia
   ·walk_at "go";walk_at "go";have:=h1 ⟨hok,by lia,λys y1 y2=>by rw[len_eq y1 kn λy=>(y2 y).trans (km y).symm];lia⟩;unfold qd que at this;rw[List.map_map]at this;exact this
 ·walk_at "pu";refine⟨false,zdo,?_⟩;rw[if_pos (by decide)];walk_at "go";exact q
 ·walk_at "pu";refine⟨false,zdW,?_⟩;rw[if_pos (by decide)];walk_at "go";exact q
 ·walk_at "pu";refine⟨false,zdp,?_⟩;rw[if_pos (by decide)];walk_at "go";exact q
end
structure Ms (K:PySem.W.Frag)(mg:Str->Option Value)(NX NT NW NA NR J:Addr)(bm bmJ:List Value):Prop where
 t:mg "NoTable" = some (.ref NT)
 w:mg "NoWidth" = some (.ref NW)
 a:mg "NoAnswer" = some (.ref NA)
 r:mg "NoRow" = some (.ref NR)
 v:mg "ValueError" = none
 j:mg "JoinError" = some (.ref J)
 ej:ExcC K J bmJ
 xj:(Value.ref NX::bm).contains (.ref J)=true
 kx:ExcK K NX bm
 k0:PySem.W.kitAny K (.ref NX) [.ref NT,.ref NW,.ref NA,.ref NR]=some false
 k1:PySem.W.kitOne K (.ref NX) (.ref NX)=some true
 k2:PySem.W.kitOne K (.ref NX) (.type "ValueError")=some true
noncomputable def zhM:PF:=λds Q=>∃d,ds=[d]/\TxtD d/\Q (.bl true) .frz
theorem zeU:zbE zhM:=λds Q Q' m q162q=>by obtain⟨d,e,h,q⟩:=q162q;exact⟨d,e,h,m _ _ q⟩
theorem zmN:bootBuiltins "ValueError" = some (.type "ValueError"):=by decide +kernel
theorem zfm:bootBuiltins "isinstance" = some (.builtin "isinstance"):=by decide +kernel
section
variable {P:Program}{w:World}{K:PySem.W.Frag}{mg:Str->Option Value}{base:Heap}
noncomputable abbrev zhN:List Str:=["_law_text","_law_due","_law_error","_law_found","e"]
theorem zfn:zas zhN ["_law_text"] (zac zbY):=⟨rfl,rfl,rfl,by decide +kernel,rfl,by decide +kernel,by decide +kernel⟩
noncomputable def Told (d:PV)(o:Option (List (Str×List Str))):Prop:=(∃x:Str,d=.str x/\x.length<=900/\((zgR x/\o=some (que x))\/(¬ zgR x/\o=none)))\/((d=.non\/d=.int 7\/∃ds,d=.lst ds)/\o=none)
theorem zmO {d:PV}(h:TxtD d):∃o,Told d o:=by
 rcases h with ⟨y,rfl,h⟩ | rfl | rfl | rfl
 ·by_cases hq:zgR y
  ·exact⟨_,.inl ⟨y,rfl,by lia,.inl ⟨hq,rfl⟩⟩⟩
  ·exact⟨_,.inl ⟨y,rfl,by lia,.inr ⟨hq,rfl⟩⟩⟩
 ·exact⟨_,.inr ⟨.inl rfl,rfl⟩⟩
 ·exact⟨_,.inr ⟨.inr (.inl rfl),rfl⟩⟩
 ·exact⟨_,.inr ⟨.inr (.inr ⟨_,rfl⟩),rfl⟩⟩
theorem zmP {d:PV}{r:List (Str×List Str)}{Q:PV->Kd->Prop}(h:Told d (some r))(q:Q (qd r) .new):zit [d] Q:=by
 rcases h with ⟨x,rfl,hx,⟨hq,e⟩ | ⟨hq,e⟩⟩ | ⟨h,e⟩
 ·cases e;exact⟨_,rfl,.inl ⟨x,rfl,hx,λ_=>q,λz=>absurd hq z⟩⟩
 ·cases e
 ·cases e
theorem zmQ {d:PV}{Q:PV->Kd->Prop}(h:Told d none)(q:Q .non .frz):zit [d] Q:=by
 rcases h with ⟨x,rfl,hx,⟨hq,e⟩ | ⟨hq,e⟩⟩ | ⟨h,e⟩
 ·cases e
 ·exact⟨_,rfl,.inl ⟨x,rfl,hx,λz=>absurd z hq,λ_=>q⟩⟩
 ·exact⟨_,rfl,.inr ⟨h,q⟩⟩
theorem zmR {d:PV}{r:List (Str×List Str)}{NX:Addr}{Q:PV->Kd->Prop}{Z:Addr->Prop}(h:Told d (some r))(q:Q (qd r) .new):zaF NX [d] Q Z:=by
 rcases h with ⟨x,rfl,hx,⟨hq,e⟩ | ⟨hq,e⟩⟩ | ⟨h,e⟩
 ·cases e;exact⟨_,rfl,.inl ⟨x,rfl,hx,λ_=>q,λz=>absurd hq z⟩⟩
 ·cases e
 ·cases e
theorem zmS {d:PV}{NX:Addr}{Q:PV->Kd->Prop}{Z:Addr->Prop}(h:Told d none)(q:Z NX):zaF NX [d] Q Z:=by
 rcases h with ⟨x,rfl,hx,⟨hq,e⟩ | ⟨hq,e⟩⟩ | ⟨h,e⟩
 ·cases e
 ·exact⟨_,rfl,.inl ⟨x,rfl,hx,λz=>absurd z hq,λ_=>q⟩⟩
 ·exact⟨_,rfl,.inr ⟨h,q⟩⟩
theorem zos {d:PV}{r:List (Str×List Str)}(h:Told d (some r)):r.length<=6:=by
 rcases h with ⟨x,rfl,hx,⟨hq,e⟩ | ⟨hq,e⟩⟩ | ⟨h,e⟩
 ·cases e;have:=hq.few;unfold que;rw[List.length_map];exact this
 ·cases e
 ·cases e
theorem zlk (ls:List Str)(n:Nat):PL.plain (n+1) (M61.ld ls)=true:=by
 unfold M61.ld;simp only[PL.plain];exact zeT n ls
theorem zhO (p:Str×List Str)(n:Nat):PL.plain (n+2) (pd p)=true:=by
 unfold pd;simp only[PL.plain,List.all_cons,List.all_nil,Bool.and_true,zlk]
theorem zgt {α:Type}{f:α->PV}{n:Nat}(h:∀a,PL.plain n (f a)=true)(l:List α):(l.map f).all (PL.plain n)=true:=by
 rw[List.all_eq_true];intro d hd;obtain⟨x,_,rfl⟩:=List.mem_map.mp hd;exact h x
theorem zmT {A B:Prop}(h:B):if true=false then A else B:=by
 rw[if_neg (by decide)];exact h
noncomputable def zmU:PF:=λds Q=>∃d r,ds=[d]/\Told d (some r)/\Q (.bl true) .frz
noncomputable def zll (K:PySem.W.Frag):Sp:=λvs H Q _=>∃Fz d,(∀b,Fz b->H b≠none)/\DenL K Fz H [d] vs/\Told d none/\∀H',Same H H'->Q (.bl true) H'
theorem zdi (NX:Addr):zga (zaF NX):=λds Q Q' Z Z' m z q163q=>by obtain⟨d,e,h⟩:=q163q;exact⟨d,e,h.imp (λ q164q=>by obtain⟨x,e,h1,h2,h3⟩:=q164q;exact⟨x,e,h1,λh=>m _ _ (h2 h),λh=>z _ (h3 h)⟩) λ q165q=>by obtain⟨h,q⟩:=q165q;exact⟨h,z _ q⟩⟩
theorem zkc {f fT fN fR NX NT NW NA NR J:Addr}{fd fdT fdN fdR:FuncData}{bm bmJ:List Value}(F:Fun K "_law_right" "_law_right" zbY f fd) (Told:Fx K mg "_law_told" zef ["_law_text"] fT fdT) (IsName:Fx K mg "_law_is_name" zbg ["_law_word"] fN fdN) (ReadQuestion:Fx K mg "read_question" zaj ["text"] fR fdR)
  (GR:FnOk P w K mg base (CXJ P w) 4 fR fdR ["text"] (spPX K (zaF NX))) (B:Bl mg) (M:Ms K mg NX NT NW NA NR J bm bmJ):FnOk P w K mg base CX0 5 f fd ["_law_text"] (spP K zmU):=by
 have GTold:FnOk P w K mg base CX0 4 fT fdT ["_law_text"] (spP K zit):=(zkb Told.fn IsName B).mono (by decide);refine zaL F zfn (λds Q q166q=>by obtain⟨c,r,e,_⟩:=q166q;rw[e];rfl) (λcdv A outer s H E hr=>?_);have hu:(A.deeper (envOfC "_law_right" (zac zbY) s.heap.objs.size f cdv)).units+16<cLine:=by have q:=hr.units;lia
 have nd:=zfn.nd;refine⟨_,(zae (zal (i:=1) nd rfl (Or.inl rfl) (zao GTold zgs hr rfl Told.mg Told.fn.kp Told.bd (zaa (zab 0) zad)))
  (zae (zal (i:=2) nd rfl (Or.inl rfl) zcK) (zae (zal (i:=3) nd rfl (Or.inl rfl) zcK)
  (zae (zkZ (z:=3) (i:=2) (j:=4) GR (zdi NX) rfl rfl rfl hr rfl ReadQuestion.mg ReadQuestion.fn.kp ReadQuestion.bd (zaa (zab 0) zad) nd rfl rfl rfl rfl rfl rfl (by decide) rfl M.j M.ej)
  (zae (zbv (zms (zab 1) zcK) (zae zfW (zag zfW)) zaB)
  (zae (zbv (PuW.t (zby (zkM (zab 2) zcK) (zby (zaZ (zbu (zeI (K:=K) rfl rfl B.isi (zaa (zab 3) (zaa (zib rfl B.list znQ) zad))))) (zbD (zeF hu (zab 3) (zab 1)))))) (zag (zah zfJ)) zaB)
  (zag (zah (zoS hu (zcB (N:=["_law_one"]) (k:=1) (js:=[]) rfl (zeX (sup:=zac zbY) (XN:=zhN) rfl rfl (by decide +kernel)) (by decide) (zbz (by decide)) (zbl (zab 3)) ⟨λ_ _ _ _ _=>(zay (i:=0) (by show(["_law_one"]:List Str).Nodup;decide +kernel) rfl (Or.inl rfl)),λ_ _ _ _ _=>(zkK (PuW.t (zby (zaZ (zbu (zeI (K:=K) rfl rfl B.isi (zaa (zab 0) (zaa (zib rfl B.tuple zht) zad))))) (zbD (zaZ (zbu (zeI (K:=K) rfl rfl B.isi (zaa (zaU (zab 0) zaf) (zaa (zib rfl B.tuple zht) zad))))))))),λ_ _ _ _ _=>(zab 0)⟩) (zbi zad)))))))))),λds Q h=>?_⟩
 obtain⟨d,r,rfl,ht,q⟩:=h;have h6:=zos ht;have hsz:=sizeLine_eq;walk_at "pu";refine zmP ht ?_;dsimp only;walk_at "go";walk_at "go";walk_at "go";refine⟨by decide,by decide,zmR ht ?_⟩;dsimp only;have hq:plain 6 (qd r)=true:=by
  unfold qd;simp only[PL.plain];exact zgt (λp=>zhO p 3) r
 walk_at "go";walk_at "go";walk_at "go";refine⟨true,zcn,?_⟩;rw[if_neg (by decide)];refine⟨hq,hq,?_⟩;walk_at "go";walk_at "go";refine⟨by rw[List.length_map];lia,λi out=>out=[],rfl,?_,?_⟩
 ·rintro i d out hd-rfl;rw[List.getElem?_map]at hd;cases hs:r[i]? with
  | none=>rw[hs]at hd;cases hd
  | some p=>
   rw[hs]at hd;cases hd;refine⟨(λn z=>by unfold pd at z;cases z),true,zcn,zmT ⟨_,.inl ⟨_,.inr rfl,zaQ (j:=1) rfl⟩,(λn z=>by unfold M61.ld at z;cases z),true,zcn,zmT rfl⟩⟩
 ·rintro out-rfl;exact⟨Nat.zero_le _,rfl,by rw[decide_eq_true rfl];exact q⟩
theorem zkd {f fT fN fR NX NT NW NA NR J:Addr}{fd fdT fdN fdR:FuncData}{bm bmJ:List Value}(F:Fun K "_law_right" "_law_right" zbY f fd) (Told:Fx K mg "_law_told" zef ["_law_text"] fT fdT) (IsName:Fx K mg "_law_is_name" zbg ["_law_word"] fN fdN) (ReadQuestion:Fx K mg "read_question" zaj ["text"] fR fdR)
  (GR:FnOk P w K mg base (CXJ P w) 4 fR fdR ["text"] (spPX K (zaF NX))) (B:Bl mg) (G:Gs K mg NX bm) (M:Ms K mg NX NT NW NA NR J bm bmJ):FnOk P w K mg base CX0 5 f fd ["_law_text"] (zll K):=by
 have GTold:FnOk P w K mg base CX0 4 fT fdT ["_law_text"] (spP K zit):=(zkb Told.fn IsName B).mono (by decide);refine F.ok zfn (λvs H Q E q167q=>by obtain⟨Fz,d,_,hd,_⟩:=q167q;rw[<- hd.length];rfl) (λcdv A outer s H vs Q E hr h=>?_);have nd:=zfn.nd;obtain⟨Fz,d,al,hd,ho,q⟩:=h;refine⟨_,zbx (PuS.run (zal (i:=1) nd rfl (Or.inl rfl) (zao GTold zgs hr rfl Told.mg Told.fn.kp Told.bd (zaa (zab 0) zad))))
  (zbx (zfp (i:=2) nd rfl (.inl rfl) zgZ) (zbx (zfp (i:=3) nd rfl (.inl rfl) zgZ)
  (zbx (zjP (z:=3) (i:=2) (j:=4) GR rfl rfl rfl hr rfl ReadQuestion.mg ReadQuestion.fn.kp ReadQuestion.bd (zaw (zbT (i:=0) rfl (.inl rfl)) zbh) nd rfl rfl rfl rfl rfl rfl (by decide) rfl M.j M.ej)
  (zbx (zkf (ziH zls (zbT (i:=1) rfl (.inl rfl)) zgZ (by first | exact zbU _ | rfl)) (zbx (zkf (zna (zci zjR rfl B.isi zfm (zaw (zbT (i:=2) rfl (.inl rfl)) (zaw (zlu (zaw (zcY (v:=.ref NT) rfl M.t rfl) (zaw (zcY (v:=.ref NW) rfl M.w rfl) (zaw (zcY (v:=.ref NA) rfl M.a rfl) (zaw (zcY (v:=.ref NR) rfl M.r rfl) zbh))))) zbh)))) L2.zfo zgx)
   (zgy (zlr (znf (zci zhz rfl B.isi zfm (zaw (zbT (i:=2) rfl (.inl rfl)) (zaw (zcY (v:=.ref NX) rfl G.nx rfl) zbh))) (zne (zci zhz rfl B.isi zfm (zaw (zbT (i:=2) rfl (.inl rfl)) (zaw (ziz (v:=.ty "ValueError") rfl M.v zmN rfl) zbh)))))))) zgx) L2.zfo)))),?_⟩
 have hsz:=sizeLine_eq;obtain⟨R,no⟩:=zdQ (N:=zhN) al hd;refine⟨zaT zhN [d],Fz,R,?_⟩;walk_at "pu";refine zmQ ho ?_;dsimp only;intro σ' Fz' H' s' oi R';have sm:Same H H':=λb o e=>s'.keep b o e (no _ b);obtain⟨v0,g0,d0⟩:=R'.frz 0 d rfl;obtain⟨v1,g1,d1⟩:=R'.frz 1 .non rfl;simp only[PL.Den]at d1;subst d1;have hl:σ'.length=5:=R'.len.symm;refine⟨by show 4<((σ'.set 2 _).set 3 _).length;rw[List.length_set,List.length_set];lia,by show 2<((σ'.set 2 _).set 3 _).length;rw[List.length_set,List.length_set];lia,λcls o H2=>cls=.ref NX/\Same H' H2,⟨v0,?_,Fz',[d],R'.al,PL.DenL.cons d0 PL.DenL.nil,zmS ho λH2 s2=>⟨rfl,s2⟩⟩,?_⟩
 ·rw[List.getElem?_set_ne (by decide),List.getElem?_set_ne (by decide)];exact g0
 rintro cls o H2 ⟨rfl,s2⟩;refine⟨⟨NX,bm,rfl,G.ex,M.xj⟩,λa ha=>?_⟩;have sa:Same H H2:=sm.trans s2;have t1:((((((List.set σ' 2 (some V.non)).set 3 (some V.non)).set 4 (some (V.ref a))).set 2 (some (V.ref a))).set 4 (some V.non)).set 4 none)[1]? = some (some V.non):=by
  rw[List.getElem?_set_ne (by decide),List.getElem?_set_ne (by decide),List.getElem?_set_ne (by decide),List.getElem?_set_ne (by decide),List.getElem?_set_ne (by decide),List.getElem?_set_ne (by decide)];exact g1
 have t2:((((((List.set σ' 2 (some V.non)).set 3 (some V.non)).set 4 (some (V.ref a))).set 2 (some (V.ref a))).set 4 (some V.non)).set 4 none)[2]? = some (some (V.ref a)):=by
  rw[List.getElem?_set_ne (by decide),List.getElem?_set_ne (by decide),List.getElem?_set_self (by simp only[List.length_set];lia)]
 generalize ((((((List.set σ' 2 (some V.non)).set 3 (some V.non)).set 4 (some (V.ref a))).set 2 (some (V.ref a))).set 4 (some V.non)).set 4 none)=τ at t1 t2 ⊢;have e3:upd H2 a (PL.ClsAt a (Value.ref NX)) a=some (PL.ClsAt a (Value.ref NX)):=zam;have s3:Same H (upd H2 a (PL.ClsAt a (Value.ref NX))):=sa.upd' (sa.free ha);generalize upd H2 a (PL.ClsAt a (Value.ref NX))=H3 at e3 s3 ⊢;refine⟨.non,t1,rfl,true,by simp,iteT ?_⟩;refine⟨.ref a,t2,by show 4<=sizeLine;lia,λp hp=>?_⟩;have npa:a≠p:=λe=>by rw[<- e,e3]at hp;cases hp
 have e4:upd H3 p (.tup [.ref NT,.ref NW,.ref NA,.ref NR]) a=some (PL.ClsAt a (Value.ref NX)):=by rw[zap npa];exact e3
 refine⟨a,NX,bm,p,[NT,NW,NA,NR],false,e4,M.kx,rfl,zam,M.k0,false,rfl,iteF ?_⟩;have s4:Same H (upd H3 p (.tup [.ref NT,.ref NW,.ref NA,.ref NR])):=s3.upd' (s3.free hp);refine⟨.ref a,t2,a,NX,bm,true,e4,M.kx,.inr ⟨NX,rfl,M.k1⟩,true,rfl,iteT ?_⟩;exact⟨.ref a,t2,a,NX,bm,true,e4,M.kx,.inl ⟨_,rfl,M.k2⟩,q _ s4⟩
theorem zlm {f fT fN fR NX NT NW NA NR J:Addr}{fd fdT fdN fdR:FuncData}{bm bmJ:List Value}(F:Fun K "_law_right" "_law_right" zbY f fd) (Told:Fx K mg "_law_told" zef ["_law_text"] fT fdT) (IsName:Fx K mg "_law_is_name" zbg ["_law_word"] fN fdN) (ReadQuestion:Fx K mg "read_question" zaj ["text"] fR fdR)
  (GR:FnOk P w K mg base (CXJ P w) 4 fR fdR ["text"] (spPX K (zaF NX))) (B:Bl mg) (G:Gs K mg NX bm) (M:Ms K mg NX NT NW NA NR J bm bmJ):FnOk P w K mg base CX0 5 f fd ["_law_text"] (spP K zhM):=by
 refine FnOk.or (zkc F Told IsName ReadQuestion GR B M) (zkd F Told IsName ReadQuestion GR B G M) λvs H Q E q168q=>?_;obtain⟨Fz,ds,al,hd,d,e,ht,q⟩:=q168q;subst e;obtain⟨o,ho⟩:=zmO ht;cases o with
 | some r=>exact .inl ⟨Fz,[d],al,hd,d,r,rfl,ho,q⟩
 | none=>exact .inr ⟨Fz,d,al,hd,ho,λH' sm=>q _ Fz H' ⟨⟨sm,λ_ h=>h,λ_ h=>.inl h,λb hb z=>al b hb (sm.free z)⟩,by show PL.Den _ _ _ _ _;simp only[PL.Den]⟩⟩
end
noncomputable def fLaw:PF:=λds Q=>∃ns:List Int,ds=[.lst (ns.map PV.int)]/\ns.length<=63/\Q (.bl true) .frz
theorem zln:zbE fLaw:=λds Q Q' m q169q=>by obtain⟨ns,e,h,q⟩:=q169q;exact⟨ns,e,h,m _ _ q⟩
theorem zpb (NT J:Addr):(Value.ref NT::.ref J::bmV).contains (.ref J)=true:=by
 rw[List.contains_cons,List.contains_cons,beq_self_eq_true,Bool.true_or,Bool.or_true]
section
variable {P:Program}{w:World}{K:PySem.W.Frag}{mg:Str->Option Value}{base:Heap}
theorem zlo (xs:List PV)(k:Nat):cutP xs none (some (k:Int))=xs.take k:=by
 unfold cutP;have h1:HT.sIx xs.length 0 none=0:=rfl;rw[h1,List.drop_zero,Nat.sub_zero];by_cases h:k<=xs.length
 ·have:HT.sIx xs.length xs.length (some (k:Int))=k:=by rw[HT.zgz];lia
  rw[this]
 ·have:HT.sIx xs.length xs.length (some (k:Int))=xs.length:=by rw[HT.zgz];lia
  rw[this,List.take_length,List.take_of_length_le (by lia)]
theorem zot:zas ["_law_script","_law_cell","_law_question_here","_law_text","_law_found"] ["_law_script"] (zac sLaw):=⟨rfl,rfl,rfl,by decide +kernel,rfl,by decide +kernel,by decide +kernel⟩
theorem zou {f f1 f2 f3 f4 f5:Addr}{fd fd1 fd2 fd3 fd4 fd5:FuncData}(F:Fun K "law" "law" sLaw f fd) (Question:Fx K mg "_law_question" zaW ["_law_cell"] f1 fd1) (GQuestion:FnOk P w K mg base CX0 5 f1 fd1 ["_law_cell"] (spP K zcS))
  (Shown:Fx K mg "_law_shown" zcv ["_law_question_here"] f2 fd2) (GShown:FnOk P w K mg base CX0 5 f2 fd2 ["_law_question_here"] (spP K zgp)) (ShowQuestion:Fx K mg "show_question" zar ["question"] f3 fd3) (GShowQuestion:FnOk P w K mg base CX0 5 f3 fd3 ["question"] (spP K zbq))
  (Right:Fx K mg "_law_right" zbY ["_law_text"] f4 fd4) (GRight:FnOk P w K mg base CX0 5 f4 fd4 ["_law_text"] (spP K zhM)) (Spoiled:Fx K mg "_law_spoiled" zbp ["_law_text","_law_cell"] f5 fd5) (GSpoiled:FnOk P w K mg base CX0 5 f5 fd5 ["_law_text","_law_cell"] (spP K zdF)) (B:Bl mg):FnOk P w K mg base CX0 6 f fd ["_law_script"] (spP K fLaw):=by
 refine zaL F zot (λds Q q170q=>by obtain⟨c,e,_⟩:=q170q;rw[e];rfl) (λcdv A outer s H E hr=>?_);have hu:(A.deeper (envOfC "law" (zac sLaw) s.heap.objs.size f cdv)).units+16<cLine:=by have q:=hr.units;lia
 have nd:=zot.nd;refine⟨_,(zae (zcA rfl PassesOwn.never (zbl (zfU (zff (zab 0) zbm (zbn zaf)) (zbi (zaa zaf zad)))) (zay (i:=1) nd rfl (Or.inl rfl)) (zae (zal (i:=2) nd rfl (Or.inl rfl) (zao GQuestion zcT hr rfl Question.mg Question.fn.kp Question.bd (zaa (zab 1) zad)))
   (zae (zal (i:=3) nd rfl (Or.inl rfl) (zao GShown zeS hr rfl Shown.mg Shown.fn.kp Shown.bd (zaa (zab 2) zad)))
   (zae (zal (i:=4) nd rfl (Or.inl rfl) (zao GShowQuestion zdh hr rfl ShowQuestion.mg ShowQuestion.fn.kp ShowQuestion.bd (zaa (zab 2) zad)))
   (zae (zbv (PuW.t (zby (zaZ (zbu (zeI (K:=K) rfl rfl B.isi (zaa (zab 4) (zaa (zib rfl B.str bStr) zad))))) (zby (zeF hu (zab 4) (zab 3)) (zbD (zeF hu (zab 2) (zao GQuestion zcT hr rfl Question.mg Question.fn.kp Question.bd (zaa (zab 1) zad))))))) (zag (zah zfJ)) zaB)
   (zag (zbv (PuW.t (zby (zaZ (zbu (zao GRight zeU hr rfl Right.mg Right.fn.kp Right.bd (zaa (zab 4) zad)))) (zbD (zaZ (zbu (zao GRight zeU hr rfl Right.mg Right.fn.kp Right.bd (zaa (zao GSpoiled zgq hr rfl Spoiled.mg Spoiled.fn.kp Spoiled.bd (zaa (zab 3) (zaa (zab 1) zad))) zad))))))) (zag (zah zfJ)) zaB)))))))
   (zag (zah zfJ))),λds Q h=>?_⟩
 obtain⟨ns,rfl,h63,q⟩:=h;have hsz:=sizeLine_eq;have hcut:cutP (List.map PV.int ns) none (some 63)=ns.map PV.int:=by
  rw[show(63:Int)=((63:Nat):Int) from rfl,zlo,List.take_of_length_le (by rw[List.length_map];exact h63)]
 walk_at "pu";rw[hcut];obtain⟨Iv,hIv⟩:∃Iv:Nat->PEnv->Prop,∀i ρ,Iv i ρ↔∃k1 k2 k3 k4,ρ=[some (PV.lst (List.map PV.int ns),false),k1,k2,k3,k4]:=⟨_,λ_ _=>Iff.rfl⟩;refine⟨by lia,by rw[List.length_map];lia,Iv,(hIv _ _).mpr ⟨none,none,none,none,rfl⟩,?_,?_⟩
 ·intro i d ρ hd hI;obtain⟨k1,k2,k3,k4,rfl⟩:=(hIv _ _).mp hI;obtain⟨c,rfl⟩:∃c:Int,d=.int c:=by
   rcases List.mem_append.mp (List.mem_of_getElem? hd)with h | h
   ·obtain⟨c,_,rfl⟩:=List.mem_map.mp h;exact⟨c,rfl⟩
   ·exact⟨0,List.mem_singleton.mp h⟩
  have hq:=zeO c;have hl:=zmI hq;have hp:plain 6 (qd (queI c))=true:=by
   unfold qd;simp only[PL.plain];exact zgt (λp=>zhO p 3) _
  walk_at "go";walk_at "go";refine⟨_,rfl,hq,?_⟩;walk_at "go";refine⟨_,rfl,hq,?_⟩;walk_at "go";refine⟨true,zcn,zmT ⟨hp,hp,?_⟩⟩;walk_at "go";walk_at "go";refine⟨.inl ⟨_,rfl,by lia⟩,by lia,λd hd=>⟨hd,?_⟩⟩;walk_at "go";exact(hIv _ _).mpr ⟨_,_,_,_,rfl⟩
 ·intro ρ hI;obtain⟨k1,k2,k3,k4,rfl⟩:=(hIv _ _).mp hI;walk_at "go";exact q
theorem zlp:∀ns:List Int,ns.length<=63->fLaw [.lst (ns.map PV.int)] λd k=>d=.bl true:=λns h=>⟨ns,rfl,h,rfl⟩
end
open PySem PySem.Spec L2 PL
theorem len1 {us:List Value}{s0:Str}(h:us.length=[s0].length):∃a0,us=[a0]:=by obtain⟨a0,us,rfl⟩:=List.exists_cons_of_length_eq_add_one h;have h:=Nat.succ.inj h;rw[List.length_eq_zero_iff.mp h];exact⟨a0,rfl⟩
theorem len2 {us:List Value}{s0 s1:Str}(h:us.length=[s0,s1].length):∃a0 a1,us=[a0,a1]:=by obtain⟨a0,us,rfl⟩:=List.exists_cons_of_length_eq_add_one h;have h:=Nat.succ.inj h;obtain⟨a1,us,rfl⟩:=List.exists_cons_of_length_eq_add_one h;have h:=Nat.succ.inj h;rw[List.length_eq_zero_iff.mp h];exact⟨a0,a1,rfl⟩
theorem all_mk {tkS tkG:Tok}{l:PySem.W.OpenLaw}{w:World}{K:PySem.W.Frag}{h:Heap}{mg:Str->Option Value}{fa f0 f1 f2 f3 f4 f5 f6 f7 f8 f9 f10 f11 f12 f13 f14 f15 f16 f17 f18 f19 f20 g0 g1 g2 g3 g4 g5:Addr}(X:K.In h)(G:h.Ns mainGlobals mg)(hfa:mg "law" = some (.ref fa))
  {od0 an0 od1 an1 od2 an2 od3 an3 od4 an4 od5 an5 od6 an6 od7 an7 od8 an8 od9 an9 od10 an10 od11 an11 od12 an12 od13 an13 od14 an14 od15 an15 od16 an16 od17 an17 od18 an18 od19 an19 od20 an20:Option Addr} {sl0 sl1 sl2 sl3 sl4 sl5 sl6 sl7 sl8 sl9 sl10 sl11 sl12 sl13 sl14 sl15 sl16 sl17 sl18 sl19 sl20:Array (Option Value)} {oc0 kV0 dc0 pm0 cd0 ct0 oc1 kV1 dc1 pm1 cd1 ct1 oc2 kV2 dc2 pm2 cd2 ct2 oc3 kV3 dc3 pm3 cd3 ct3 oc4 kV4 dc4 pm4 cd4 ct4 oc5 kV5 dc5 pm5 cd5 ct5 oc6 kV6 dc6 pm6 cd6 ct6 oc7 kV7 dc7 pm7 cd7 ct7 oc8 kV8 dc8 pm8 cd8 ct8 oc9 kV9 dc9 pm9 cd9 ct9 oc10 kV10 dc10 pm10 cd10 ct10 oc11 kV11 dc11 pm11 cd11 ct11 oc12 kV12 dc12 pm12 cd12 ct12 oc13 kV13 dc13 pm13 cd13 ct13 oc14 kV14 dc14 pm14 cd14 ct14 oc15 kV15 dc15 pm15 cd15 ct15 oc16 kV16 dc16 pm16 cd16 ct16 oc17 kV17 dc17 pm17 cd17 ct17 oc18 kV18 dc18 pm18 cd18 ct18 oc19 kV19 dc19 pm19 cd19 ct19 oc20 kV20 dc20 pm20 cd20 ct20:Value}
  (a0:PySem.W.nsIn K mainGlobals "shape_of" = some (some (.ref f0))) (l0:K.lookup f0=some ⟨oc0,od0,.func (PySem.W.fnOf "shape_of" "shape_of" (zat zcu) (zan zcu) (zac zcu) .none kV0 dc0 pm0 an0 cd0 ct0),sl0⟩) (c0:PySem.W.codeIn K cd0 "shape_of" = true) (k0:PySem.W.keepIn K (.ref f0)=true)
  (a1:PySem.W.nsIn K mainGlobals "letters_of" = some (some (.ref f1))) (l1:K.lookup f1=some ⟨oc1,od1,.func (PySem.W.fnOf "letters_of" "letters_of" (zat zaJ) (zan zaJ) (zac zaJ) .none kV1 dc1 pm1 an1 cd1 ct1),sl1⟩) (c1:PySem.W.codeIn K cd1 "letters_of" = true) (k1:PySem.W.keepIn K (.ref f1)=true)
  (a2:PySem.W.nsIn K mainGlobals "only" = some (some (.ref f2))) (l2:K.lookup f2=some ⟨oc2,od2,.func (PySem.W.fnOf "only" "only" (zat zdg) (zan zdg) (zac zdg) .none kV2 dc2 pm2 an2 cd2 ct2),sl2⟩) (c2:PySem.W.codeIn K cd2 "only" = true) (k2:PySem.W.keepIn K (.ref f2)=true)
  (a3:PySem.W.nsIn K mainGlobals "parts_of" = some (some (.ref f3))) (l3:K.lookup f3=some ⟨oc3,od3,.func (PySem.W.fnOf "parts_of" "parts_of" (zat zbo) (zan zbo) (zac zbo) .none kV3 dc3 pm3 an3 cd3 ct3),sl3⟩) (c3:PySem.W.codeIn K cd3 "parts_of" = true) (k3:PySem.W.keepIn K (.ref f3)=true)
  (a4:PySem.W.nsIn K mainGlobals "read_name" = some (some (.ref f4))) (l4:K.lookup f4=some ⟨oc4,od4,.func (PySem.W.fnOf "read_name" "read_name" (zat zaN) (zan zaN) (zac zaN) .none kV4 dc4 pm4 an4 cd4 ct4),sl4⟩) (c4:PySem.W.codeIn K cd4 "read_name" = true) (k4:PySem.W.keepIn K (.ref f4)=true)
  (a5:PySem.W.nsIn K mainGlobals "read_letter" = some (some (.ref f5))) (l5:K.lookup f5=some ⟨oc5,od5,.func (PySem.W.fnOf "read_letter" "read_letter" (zat zaA) (zan zaA) (zac zaA) .none kV5 dc5 pm5 an5 cd5 ct5),sl5⟩) (c5:PySem.W.codeIn K cd5 "read_letter" = true) (k5:PySem.W.keepIn K (.ref f5)=true)
  (a6:PySem.W.nsIn K mainGlobals "read_pattern" = some (some (.ref f6))) (l6:K.lookup f6=some ⟨oc6,od6,.func (PySem.W.fnOf "read_pattern" "read_pattern" (zat zav) (zan zav) (zac zav) .none kV6 dc6 pm6 an6 cd6 ct6),sl6⟩) (c6:PySem.W.codeIn K cd6 "read_pattern" = true) (k6:PySem.W.keepIn K (.ref f6)=true)
  (a7:PySem.W.nsIn K mainGlobals "read_question" = some (some (.ref f7))) (l7:K.lookup f7=some ⟨oc7,od7,.func (PySem.W.fnOf "read_question" "read_question" (zat zaj) (zan zaj) (zac zaj) .none kV7 dc7 pm7 an7 cd7 ct7),sl7⟩) (c7:PySem.W.codeIn K cd7 "read_question" = true) (k7:PySem.W.keepIn K (.ref f7)=true)
  (a8:PySem.W.nsIn K mainGlobals "show_pattern" = some (some (.ref f8))) (l8:K.lookup f8=some ⟨oc8,od8,.func (PySem.W.fnOf "show_pattern" "show_pattern" (zat zaz) (zan zaz) (zac zaz) .none kV8 dc8 pm8 an8 cd8 ct8),sl8⟩) (c8:PySem.W.codeIn K cd8 "show_pattern" = true) (k8:PySem.W.keepIn K (.ref f8)=true)
  (a9:PySem.W.nsIn K mainGlobals "show_question" = some (some (.ref f9))) (l9:K.lookup f9=some ⟨oc9,od9,.func (PySem.W.fnOf "show_question" "show_question" (zat zar) (zan zar) (zac zar) .none kV9 dc9 pm9 an9 cd9 ct9),sl9⟩) (c9:PySem.W.codeIn K cd9 "show_question" = true) (k9:PySem.W.keepIn K (.ref f9)=true)
  (a10:PySem.W.nsIn K mainGlobals "_law_mix" = some (some (.ref f10))) (l10:K.lookup f10=some ⟨oc10,od10,.func (PySem.W.fnOf "_law_mix" "_law_mix" (zat sMix) (zan sMix) (zac sMix) .none kV10 dc10 pm10 an10 cd10 ct10),sl10⟩) (c10:PySem.W.codeIn K cd10 "_law_mix" = true) (k10:PySem.W.keepIn K (.ref f10)=true)
  (a11:PySem.W.nsIn K mainGlobals "_law_letters" = some (some (.ref f11))) (l11:K.lookup f11=some ⟨oc11,od11,.func (PySem.W.fnOf "_law_letters" "_law_letters" (zat zbb) (zan zbb) (zac zbb) .none kV11 dc11 pm11 an11 cd11 ct11),sl11⟩) (c11:PySem.W.codeIn K cd11 "_law_letters" = true) (k11:PySem.W.keepIn K (.ref f11)=true)
  (a12:PySem.W.nsIn K mainGlobals "_law_name" = some (some (.ref f12))) (l12:K.lookup f12=some ⟨oc12,od12,.func (PySem.W.fnOf "_law_name" "_law_name" (zat zet) (zan zet) (zac zet) .none kV12 dc12 pm12 an12 cd12 ct12),sl12⟩) (c12:PySem.W.codeIn K cd12 "_law_name" = true) (k12:PySem.W.keepIn K (.ref f12)=true)
  (a13:PySem.W.nsIn K mainGlobals "_law_question" = some (some (.ref f13))) (l13:K.lookup f13=some ⟨oc13,od13,.func (PySem.W.fnOf "_law_question" "_law_question" (zat zaW) (zan zaW) (zac zaW) .none kV13 dc13 pm13 an13 cd13 ct13),sl13⟩) (c13:PySem.W.codeIn K cd13 "_law_question" = true) (k13:PySem.W.keepIn K (.ref f13)=true)
  (a14:PySem.W.nsIn K mainGlobals "_law_shown" = some (some (.ref f14))) (l14:K.lookup f14=some ⟨oc14,od14,.func (PySem.W.fnOf "_law_shown" "_law_shown" (zat zcv) (zan zcv) (zac zcv) .none kV14 dc14 pm14 an14 cd14 ct14),sl14⟩) (c14:PySem.W.codeIn K cd14 "_law_shown" = true) (k14:PySem.W.keepIn K (.ref f14)=true)
  (a15:PySem.W.nsIn K mainGlobals "_law_odd" = some (some (.ref f15))) (l15:K.lookup f15=some ⟨oc15,od15,.func (PySem.W.fnOf "_law_odd" "_law_odd" (zat sOdd) (zan sOdd) (zac sOdd) .none kV15 dc15 pm15 an15 cd15 ct15),sl15⟩) (c15:PySem.W.codeIn K cd15 "_law_odd" = true) (k15:PySem.W.keepIn K (.ref f15)=true)
  (a16:PySem.W.nsIn K mainGlobals "_law_spoiled" = some (some (.ref f16))) (l16:K.lookup f16=some ⟨oc16,od16,.func (PySem.W.fnOf "_law_spoiled" "_law_spoiled" (zat zbp) (zan zbp) (zac zbp) .none kV16 dc16 pm16 an16 cd16 ct16),sl16⟩) (c16:PySem.W.codeIn K cd16 "_law_spoiled" = true) (k16:PySem.W.keepIn K (.ref f16)=true)
  (a17:PySem.W.nsIn K mainGlobals "_law_is_name" = some (some (.ref f17))) (l17:K.lookup f17=some ⟨oc17,od17,.func (PySem.W.fnOf "_law_is_name" "_law_is_name" (zat zbg) (zan zbg) (zac zbg) .none kV17 dc17 pm17 an17 cd17 ct17),sl17⟩) (c17:PySem.W.codeIn K cd17 "_law_is_name" = true) (k17:PySem.W.keepIn K (.ref f17)=true)
  (a18:PySem.W.nsIn K mainGlobals "_law_told" = some (some (.ref f18))) (l18:K.lookup f18=some ⟨oc18,od18,.func (PySem.W.fnOf "_law_told" "_law_told" (zat zef) (zan zef) (zac zef) .none kV18 dc18 pm18 an18 cd18 ct18),sl18⟩) (c18:PySem.W.codeIn K cd18 "_law_told" = true) (k18:PySem.W.keepIn K (.ref f18)=true)
  (a19:PySem.W.nsIn K mainGlobals "_law_right" = some (some (.ref f19))) (l19:K.lookup f19=some ⟨oc19,od19,.func (PySem.W.fnOf "_law_right" "_law_right" (zat zbY) (zan zbY) (zac zbY) .none kV19 dc19 pm19 an19 cd19 ct19),sl19⟩) (c19:PySem.W.codeIn K cd19 "_law_right" = true) (k19:PySem.W.keepIn K (.ref f19)=true)
  (a20:PySem.W.nsIn K mainGlobals "law" = some (some (.ref f20))) (l20:K.lookup f20=some ⟨oc20,od20,.func (PySem.W.fnOf "law" "law" (zat sLaw) (zan sLaw) (zac sLaw) .none kV20 dc20 pm20 an20 cd20 ct20),sl20⟩) (c20:PySem.W.codeIn K cd20 "law" = true) (k20:PySem.W.keepIn K (.ref f20)=true)
  (z0:PySem.W.nsIn K mainGlobals "range" = some none)
  (z1:PySem.W.nsIn K mainGlobals "len" = some none)
  (z2:PySem.W.nsIn K mainGlobals "list" = some none)
  (z3:PySem.W.nsIn K mainGlobals "tuple" = some none)
  (z4:PySem.W.nsIn K mainGlobals "sorted" = some none)
  (z5:PySem.W.nsIn K mainGlobals "set" = some none)
  (z6:PySem.W.nsIn K mainGlobals "isinstance" = some none)
  (z7:PySem.W.nsIn K mainGlobals "str" = some none)
  (z8:PySem.W.nsIn K mainGlobals "int" = some none)
  (z9:PySem.W.nsIn K mainGlobals "bool" = some none)
  (z10:PySem.W.nsIn K mainGlobals "dict" = some none)
  (z11:PySem.W.nsIn K mainGlobals "enumerate" = some none)
  (z12:PySem.W.nsIn K mainGlobals "zip" = some none)
  (z13:PySem.W.nsIn K mainGlobals "min" = some none)
  (z14:PySem.W.nsIn K mainGlobals "max" = some none)
  (z15:PySem.W.nsIn K mainGlobals "sum" = some none)
  (z16:PySem.W.nsIn K mainGlobals "all" = some none)
  (z17:PySem.W.nsIn K mainGlobals "any" = some none)
  (z18:PySem.W.nsIn K mainGlobals "reversed" = some none)
  (z19:PySem.W.nsIn K mainGlobals "abs" = some none)
  (z20:PySem.W.nsIn K mainGlobals "ord" = some none)
  (y0:PySem.W.nsIn K mainGlobals "NoText" = some (some (.ref g0)))
  (y1:PySem.W.nsIn K mainGlobals "NoTable" = some (some (.ref g1)))
  (y2:PySem.W.nsIn K mainGlobals "NoWidth" = some (some (.ref g2)))
  (y3:PySem.W.nsIn K mainGlobals "NoAnswer" = some (some (.ref g3)))
  (y4:PySem.W.nsIn K mainGlobals "NoRow" = some (some (.ref g4)))
  (y5:PySem.W.nsIn K mainGlobals "JoinError" = some (some (.ref g5)))
  (v0:PySem.W.nsIn K mainGlobals "ValueError" = some none)
  (es:PySem.W.nsIn K mainGlobals "SMALL" = some (some (.str M61.abcS tkS)))
  (eg:PySem.W.nsIn K mainGlobals "GREAT" = some (some (.str M61.ABC tkG)))
  (ex:PySem.W.excIn K g0 bmV "ValueError.__new__" = true)
  (mx:mroIn K g0 (.ref g5::bmV)=true)
  (ej:PySem.W.excIn K g5 bmV "ValueError.__new__" = true)
  (mj:mroIn K g5 bmV=true)
  (ga:PySem.W.findIn K (.ref g0) "__getattribute__" = some (some (.builtin "BaseException.__getattribute__")))
  (gt:PySem.W.findIn K (.ref g0) "__getattr__" = some none)
  (ca:PySem.W.findIn K (.ref g0) "__class__" = some (some (.builtin "object.__class__")))
  (q0:PySem.W.kitAny K (.ref g0) [.ref g1,.ref g2,.ref g3,.ref g4]=some false)
  (q1:PySem.W.kitOne K (.ref g0) (.ref g0)=some true)
  (q2:PySem.W.kitOne K (.ref g0) (.type "ValueError")=some true) :
  ∃fd:FuncData,(∀(s:Shared) (v:Value),BindsTo s fd ⟨[v],[]⟩ [("_law_script",v)])/\∀base:Heap,K.In base->base.Ns mainGlobals mg->FnOk l.prog w K mg base CX0 6 fa fd ["_law_script"] (spP K fLaw):=by
 have e:=hfa.symm.trans (PySem.W.mg_of X G a20);cases e;have F0:=zaM (st:=zcu) l0 c0 k0;have X0:Fx K mg "shape_of" zcu ["question"] f0 _:=⟨F0,F0.binds (ps:=["question"]) λ_ _ _ _ _ _ us hl=>by obtain⟨_,rfl⟩:=len1 hl;rfl,PySem.W.mg_of X G a0⟩;have F1:=zaM (st:=zaJ) l1 c1 k1;have X1:Fx K mg "letters_of" zaJ ["shape"] f1 _:=⟨F1,F1.binds (ps:=["shape"]) λ_ _ _ _ _ _ us hl=>by obtain⟨_,rfl⟩:=len1 hl;rfl,PySem.W.mg_of X G a1⟩;have F2:=zaM (st:=zdg) l2 c2 k2;have X2:Fx K mg "only" zdg ["text","signs"] f2 _:=⟨F2,F2.binds (ps:=["text","signs"]) λ_ _ _ _ _ _ us hl=>by obtain⟨_,_,rfl⟩:=len2 hl;rfl,PySem.W.mg_of X G a2⟩;have F3:=zaM (st:=zbo) l3 c3 k3;have X3:Fx K mg "parts_of" zbo ["text","mark"] f3 _:=⟨F3,F3.binds (ps:=["text","mark"]) λ_ _ _ _ _ _ us hl=>by obtain⟨_,_,rfl⟩:=len2 hl;rfl,PySem.W.mg_of X G a3⟩;have F4:=zaM (st:=zaN) l4 c4 k4;have X4:Fx K mg "read_name" zaN ["text"] f4 _:=⟨F4,F4.binds (ps:=["text"]) λ_ _ _ _ _ _ us hl=>by obtain⟨_,rfl⟩:=len1 hl;rfl,PySem.W.mg_of X G a4⟩;have F5:=zaM (st:=zaA) l5 c5 k5;have X5:Fx K mg "read_letter" zaA ["text"] f5 _:=⟨F5,F5.binds (ps:=["text"]) λ_ _ _ _ _ _ us hl=>by obtain⟨_,rfl⟩:=len1 hl;rfl,PySem.W.mg_of X G a5⟩;have F6:=zaM (st:=zav) l6 c6 k6;have X6:Fx K mg "read_pattern" zav ["text"] f6 _:=⟨F6,F6.binds (ps:=["text"]) λ_ _ _ _ _ _ us hl=>by obtain⟨_,rfl⟩:=len1 hl;rfl,PySem.W.mg_of X G a6⟩;have F7:=zaM (st:=zaj) l7 c7 k7;have X7:Fx K mg "read_question" zaj ["text"] f7 _:=⟨F7,F7.binds (ps:=["text"]) λ_ _ _ _ _ _ us hl=>by obtain⟨_,rfl⟩:=len1 hl;rfl,PySem.W.mg_of X G a7⟩;have F8:=zaM (st:=zaz) l8 c8 k8;have X8:Fx K mg "show_pattern" zaz ["pattern"] f8 _:=⟨F8,F8.binds (ps:=["pattern"]) λ_ _ _ _ _ _ us hl=>by obtain⟨_,rfl⟩:=len1 hl;rfl,PySem.W.mg_of X G a8⟩;have F9:=zaM (st:=zar) l9 c9 k9;have X9:Fx K mg "show_question" zar ["question"] f9 _:=⟨F9,F9.binds (ps:=["question"]) λ_ _ _ _ _ _ us hl=>by obtain⟨_,rfl⟩:=len1 hl;rfl,PySem.W.mg_of X G a9⟩;have F10:=zaM (st:=sMix) l10 c10 k10;have X10:Fx K mg "_law_mix" sMix ["_law_cell","_law_j"] f10 _:=⟨F10,F10.binds (ps:=["_law_cell","_law_j"]) λ_ _ _ _ _ _ us hl=>by obtain⟨_,_,rfl⟩:=len2 hl;rfl,PySem.W.mg_of X G a10⟩;have F11:=zaM (st:=zbb) l11 c11 k11;have X11:Fx K mg "_law_letters" zbb ["_law_cell"] f11 _:=⟨F11,F11.binds (ps:=["_law_cell"]) λ_ _ _ _ _ _ us hl=>by obtain⟨_,rfl⟩:=len1 hl;rfl,PySem.W.mg_of X G a11⟩;have F12:=zaM (st:=zet) l12 c12 k12;have X12:Fx K mg "_law_name" zet ["_law_cell","_law_far"] f12 _:=⟨F12,F12.binds (ps:=["_law_cell","_law_far"]) λ_ _ _ _ _ _ us hl=>by obtain⟨_,_,rfl⟩:=len2 hl;rfl,PySem.W.mg_of X G a12⟩;have F13:=zaM (st:=zaW) l13 c13 k13;have X13:Fx K mg "_law_question" zaW ["_law_cell"] f13 _:=⟨F13,F13.binds (ps:=["_law_cell"]) λ_ _ _ _ _ _ us hl=>by obtain⟨_,rfl⟩:=len1 hl;rfl,PySem.W.mg_of X G a13⟩;have F14:=zaM (st:=zcv) l14 c14 k14;have X14:Fx K mg "_law_shown" zcv ["_law_question_here"] f14 _:=⟨F14,F14.binds (ps:=["_law_question_here"]) λ_ _ _ _ _ _ us hl=>by obtain⟨_,rfl⟩:=len1 hl;rfl,PySem.W.mg_of X G a14⟩;have F15:=zaM (st:=sOdd) l15 c15 k15;have X15:Fx K mg "_law_odd" sOdd ["_law_cell"] f15 _:=⟨F15,F15.binds (ps:=["_law_cell"]) λ_ _ _ _ _ _ us hl=>by obtain⟨_,rfl⟩:=len1 hl;rfl,PySem.W.mg_of X G a15⟩;have F16:=zaM (st:=zbp) l16 c16 k16;have X16:Fx K mg "_law_spoiled" zbp ["_law_text","_law_cell"] f16 _:=⟨F16,F16.binds (ps:=["_law_text","_law_cell"]) λ_ _ _ _ _ _ us hl=>by obtain⟨_,_,rfl⟩:=len2 hl;rfl,PySem.W.mg_of X G a16⟩;have F17:=zaM (st:=zbg) l17 c17 k17;have X17:Fx K mg "_law_is_name" zbg ["_law_word"] f17 _:=⟨F17,F17.binds (ps:=["_law_word"]) λ_ _ _ _ _ _ us hl=>by obtain⟨_,rfl⟩:=len1 hl;rfl,PySem.W.mg_of X G a17⟩;have F18:=zaM (st:=zef) l18 c18 k18;have X18:Fx K mg "_law_told" zef ["_law_text"] f18 _:=⟨F18,F18.binds (ps:=["_law_text"]) λ_ _ _ _ _ _ us hl=>by obtain⟨_,rfl⟩:=len1 hl;rfl,PySem.W.mg_of X G a18⟩;have F19:=zaM (st:=zbY) l19 c19 k19;have X19:Fx K mg "_law_right" zbY ["_law_text"] f19 _:=⟨F19,F19.binds (ps:=["_law_text"]) λ_ _ _ _ _ _ us hl=>by obtain⟨_,rfl⟩:=len1 hl;rfl,PySem.W.mg_of X G a19⟩;have F20:=zaM (st:=sLaw) l20 c20 k20;have B:Bl mg:=⟨PySem.W.mg_none_of X G z0,PySem.W.mg_none_of X G z1,PySem.W.mg_none_of X G z2,PySem.W.mg_none_of X G z3,PySem.W.mg_none_of X G z4,PySem.W.mg_none_of X G z5,PySem.W.mg_none_of X G z6,PySem.W.mg_none_of X G z7,PySem.W.mg_none_of X G z8,PySem.W.mg_none_of X G z9,PySem.W.mg_none_of X G z10,PySem.W.mg_none_of X G z11,PySem.W.mg_none_of X G z12,PySem.W.mg_none_of X G z13,PySem.W.mg_none_of X G z14,PySem.W.mg_none_of X G z15,PySem.W.mg_none_of X G z16,PySem.W.mg_none_of X G z17,PySem.W.mg_none_of X G z18,PySem.W.mg_none_of X G z19,PySem.W.mg_none_of X G z20⟩;have G1:Gs K mg g0 (.ref g5::bmV):=⟨PySem.W.mg_of X G y0,zgL ex mx,⟨_,PySem.W.mg_of X G es⟩,⟨_,PySem.W.mg_of X G eg⟩⟩;have M:Ms K mg g0 g1 g2 g3 g4 g5 (.ref g5::bmV) bmV:=⟨PySem.W.mg_of X G y1,PySem.W.mg_of X G y2,PySem.W.mg_of X G y3,PySem.W.mg_of X G y4,PySem.W.mg_none_of X G v0,PySem.W.mg_of X G y5,zgL ej mj,zpb _ _,⟨zgL ex mx,ga,gt,ca⟩,q0,q1,q2⟩;exact⟨PySem.W.fnOf "law" "law" (zat sLaw) (zan sLaw) (zac sLaw) .none kV20 dc20 pm20 an20 cd20 ct20,λs v=>.of_eq rfl,λbase _ _=>zou F20 X13 ((zgU X13.fn X10 X11 X12 B).mono (by decide)) X14 ((zli X14.fn B).mono (by decide)) X9 ((zej X9.fn X8 B).mono (by decide)) X19 (zlm X19.fn X18 X17 X7 (zei X7.fn X2 X4 X5 X6 X3 X0 X1 B G1) B G1 M) X16 ((zis X16.fn X10 X15 B).mono (by decide)) B⟩
end Q61
open PySem PySem.W
set_option maxRecDepth 100000 in
set_option maxHeartbeats 0 in
theorem PySem.Challenge.cw_joinwood_k61_questions_as_texts_holds : PySem.Challenge.rw_joinwood_k61_questions_as_texts.Holds := by
 w_on;o_law;k_head;(case hw=>w_witness2)
 k_fill
 refine PL.zoU (l:=PySem.Challenge.rw_joinwood_k61_questions_as_texts) (k:=6) (FL:=Q61.fLaw) (x:="_law_script") rfl rfl ⟨rfl,by decide,by decide⟩ Q61.zln (fun w h Y=>PySem.W.kIn_of Y) ?F Q61.zlp
 case F=>
  intro w mg fa h KX G hmg
  refine' Q61.all_mk KX G hmg ?a0 ?l0 ?c0 ?k0 ?a1 ?l1 ?c1 ?k1 ?a2 ?l2 ?c2 ?k2 ?a3 ?l3 ?c3 ?k3 ?a4 ?l4 ?c4 ?k4 ?a5 ?l5 ?c5 ?k5 ?a6 ?l6 ?c6 ?k6 ?a7 ?l7 ?c7 ?k7 ?a8 ?l8 ?c8 ?k8 ?a9 ?l9 ?c9 ?k9 ?a10 ?l10 ?c10 ?k10 ?a11 ?l11 ?c11 ?k11 ?a12 ?l12 ?c12 ?k12 ?a13 ?l13 ?c13 ?k13 ?a14 ?l14 ?c14 ?k14 ?a15 ?l15 ?c15 ?k15 ?a16 ?l16 ?c16 ?k16 ?a17 ?l17 ?c17 ?k17 ?a18 ?l18 ?c18 ?k18 ?a19 ?l19 ?c19 ?k19 ?a20 ?l20 ?c20 ?k20 ?z0 ?z1 ?z2 ?z3 ?z4 ?z5 ?z6 ?z7 ?z8 ?z9 ?z10 ?z11 ?z12 ?z13 ?z14 ?z15 ?z16 ?z17 ?z18 ?z19 ?z20 ?y0 ?y1 ?y2 ?y3 ?y4 ?y5 ?v0 ?es ?eg ?ex ?mx ?ej ?mj ?ga ?gt ?ca ?q0 ?q1 ?q2
  (case a0=>k_is)
  (case l0=>k_is)
  (case c0=>k_is)
  (case k0=>k_is)
  (case a1=>k_is)
  (case l1=>k_is)
  (case c1=>k_is)
  (case k1=>k_is)
  (case a2=>k_is)
  (case l2=>k_is)
  (case c2=>k_is)
  (case k2=>k_is)
  (case a3=>k_is)
  (case l3=>k_is)
  (case c3=>k_is)
  (case k3=>k_is)
  (case a4=>k_is)
  (case l4=>k_is)
  (case c4=>k_is)
  (case k4=>k_is)
  (case a5=>k_is)
  (case l5=>k_is)
  (case c5=>k_is)
  (case k5=>k_is)
  (case a6=>k_is)
  (case l6=>k_is)
  (case c6=>k_is)
  (case k6=>k_is)
  (case a7=>k_is)
  (case l7=>k_is)
  (case c7=>k_is)
  (case k7=>k_is)
  (case a8=>k_is)
  (case l8=>k_is)
  (case c8=>k_is)
  (case k8=>k_is)
  (case a9=>k_is)
  (case l9=>k_is)
  (case c9=>k_is)
  (case k9=>k_is)
  (case a10=>k_is)
  (case l10=>k_is)
  (case c10=>k_is)
  (case k10=>k_is)
  (case a11=>k_is)
  (case l11=>k_is)
  (case c11=>k_is)
  (case k11=>k_is)
  (case a12=>k_is)
  (case l12=>k_is)
  (case c12=>k_is)
  (case k12=>k_is)
  (case a13=>k_is)
  (case l13=>k_is)
  (case c13=>k_is)
  (case k13=>k_is)
  (case a14=>k_is)
  (case l14=>k_is)
  (case c14=>k_is)
  (case k14=>k_is)
  (case a15=>k_is)
  (case l15=>k_is)
  (case c15=>k_is)
  (case k15=>k_is)
  (case a16=>k_is)
  (case l16=>k_is)
  (case c16=>k_is)
  (case k16=>k_is)
  (case a17=>k_is)
  (case l17=>k_is)
  (case c17=>k_is)
  (case k17=>k_is)
  (case a18=>k_is)
  (case l18=>k_is)
  (case c18=>k_is)
  (case k18=>k_is)
  (case a19=>k_is)
  (case l19=>k_is)
  (case c19=>k_is)
  (case k19=>k_is)
  (case a20=>k_is)
  (case l20=>k_is)
  (case c20=>k_is)
  (case k20=>k_is)
  (case z0=>k_is)
  (case z1=>k_is)
  (case z2=>k_is)
  (case z3=>k_is)
  (case z4=>k_is)
  (case z5=>k_is)
  (case z6=>k_is)
  (case z7=>k_is)
  (case z8=>k_is)
  (case z9=>k_is)
  (case z10=>k_is)
  (case z11=>k_is)
  (case z12=>k_is)
  (case z13=>k_is)
  (case z14=>k_is)
  (case z15=>k_is)
  (case z16=>k_is)
  (case z17=>k_is)
  (case z18=>k_is)
  (case z19=>k_is)
  (case z20=>k_is)
  (case y0=>k_is)
  (case y1=>k_is)
  (case y2=>k_is)
  (case y3=>k_is)
  (case y4=>k_is)
  (case y5=>k_is)
  (case v0=>k_is)
  (case es=>first | k_is | k_exc | kit_is | kernel_rfl)
  (case eg=>first | k_is | k_exc | kit_is | kernel_rfl)
  (case ex=>first | k_is | k_exc | kit_is | kernel_rfl)
  (case mx=>first | k_is | k_exc | kit_is | kernel_rfl)
  (case ej=>first | k_is | k_exc | kit_is | kernel_rfl)
  (case mj=>first | k_is | k_exc | kit_is | kernel_rfl)
  (case ga=>first | k_is | k_exc | kit_is | kernel_rfl)
  (case gt=>first | k_is | k_exc | kit_is | kernel_rfl)
  (case ca=>first | k_is | k_exc | kit_is | kernel_rfl)
  (case q0=>first | k_is | k_exc | kit_is | kernel_rfl)
  (case q1=>first | k_is | k_exc | kit_is | kernel_rfl)
  (case q2=>first | k_is | k_exc | kit_is | kernel_rfl)
#print axioms PySem.Challenge.cw_joinwood_k61_questions_as_texts_holds
